import PyProof.Rows.All
import Wide.All
import OpenK.AllK
import Wide.FinOn
import Lean
import PyProof.EqAt
import PyProof.EqKinds
import PyProof.TupleCall
import PyProof.DictUpdate
import KE.KDictOf
import PyProof.AttrMissHeap
import KE.KSortTup
import KE.KItemsList
import PyProof.DictWalks
import PyProof.Rows.TupDisplay
import KE.KEqDict
import PyProof.NeKinds
import KE.KRevIter
import PyProof.ListRange
import PyProof.MeetsStr
import PyProof.StrLawsJoin
import PyProof.FitsInt
import PyProof.ZipIter
import KE.KDictSum
import PyProof.ExcBaseAll.ValueError
import PyProof.FString
import PyProof.RaisesMany
import PyProof.RulesDel
import PyProof.RulesAs
import KE.KTryMore
import PyProof.ExcArgs
import PyProof.ReprNest
import PyProof.ReprReads
import PySem.Challenge.RW_viewwood_k33_boxes_found
noncomputable section
set_option genInjectivity false
set_option genSizeOf false
set_option bootstrap.genMatcherCode false
set_option compiler.extract_closed false
set_option compiler.maxRecSpecialize 0
section variable{p q r s t o g:Prop}
def uF(h:p/\q)(k:p->q->g):g:=by obtain⟨B,F⟩:=h;exact k B F
def oS(h:p/\q/\r)(k:p->q->r->g):g:=by obtain⟨B,F,G⟩:=h;exact k B F G
def Gp(h:p/\q/\r/\s)(k:p->q->r->s->g):g:=by obtain⟨B,F,G,I⟩:=h;exact k B F G I
def uR(h:p/\q/\r/\s/\t)(k:p->q->r->s->t->g):g:=by obtain⟨B,F,G,I,J⟩:=h;exact k B F G I J
def VE(h:p/\q/\r/\s/\t/\o)(k:p->q->r->s->t->o->g):g:=by obtain⟨B,F,G,I,J,L⟩:=h;exact k B F G I J L
end
section variable{A:Sort _}{p q r s t:A->Prop}{g:Prop}
def Gn(h:∃a,p a)(k:∀a,p a->g):g:=by obtain⟨a,q⟩:=h;exact k a q
def dQ(h:∃a,p a/\q a)(k:∀a,p a->q a->g):g:=by obtain⟨a,B,F⟩:=h;exact k a B F
def xZ(h:∃a,p a/\q a/\r a)(k:∀a,p a->q a->r a->g):g:=by obtain⟨a,B,F,G⟩:=h;exact k a B F G
def Gm(h:∃a,p a/\q a/\r a/\s a)(k:∀a,p a->q a->r a->s a->g):g:=by obtain⟨a,B,F,G,I⟩:=h;exact k a B F G I
def Xq(h:∃a,p a/\q a/\r a/\s a/\t a)(k:∀a,p a->q a->r a->s a->t a->g):g:=by obtain⟨a,B,F,G,I,J⟩:=h;exact k a B F G I J
end
section variable{A B:Sort _}{p q r s t o:A->B->Prop}{g:Prop}
def R8(h:∃a b,p a b)(k:∀a b,p a b->g):g:=by obtain⟨a,b,q⟩:=h;exact k a b q
def bG(h:∃a b,p a b/\q a b)(k:∀a b,p a b->q a b->g):g:=by obtain⟨a,b,F,G⟩:=h;exact k a b F G
def nX(h:∃a b,p a b/\q a b/\r a b)(k:∀a b,p a b->q a b->r a b->g):g:=by obtain⟨a,b,F,G,I⟩:=h;exact k a b F G I
def dH(h:∃a b,p a b/\q a b/\r a b/\s a b)(k:∀a b,p a b->q a b->r a b->s a b->g):g:=by obtain⟨a,b,F,G,I,J⟩:=h;exact k a b F G I J
def Et(h:∃a b,p a b/\q a b/\r a b/\s a b/\t a b)(k:∀a b,p a b->q a b->r a b->s a b->t a b->g):g:=by obtain⟨a,b,F,G,I,J,L⟩:=h;exact k a b F G I J L
def R7(h:∃a b,p a b/\q a b/\r a b/\s a b/\t a b/\o a b)(k:∀a b,p a b->q a b->r a b->s a b->t a b->o a b->g):g:=by obtain⟨a,b,F,G,I,J,L,O⟩:=h;exact k a b F G I J L O
end
section variable{A B C:Sort _}{p q r s t o:A->B->C->Prop}{g:Prop}
def Nv(h:∃a b c,p a b c)(k:∀a b c,p a b c->g):g:=by obtain⟨a,b,c,q⟩:=h;exact k a b c q
def Gk(h:∃a b c,p a b c/\q a b c)(k:∀a b c,p a b c->q a b c->g):g:=by obtain⟨a,b,c,F,G⟩:=h;exact k a b c F G
def fM(h:∃a b c,p a b c/\q a b c/\r a b c)(k:∀a b c,p a b c->q a b c->r a b c->g):g:=by obtain⟨a,b,c,F,G,I⟩:=h;exact k a b c F G I
def aQ(h:∃a b c,p a b c/\q a b c/\r a b c/\s a b c)(k:∀a b c,p a b c->q a b c->r a b c->s a b c->g):g:=by obtain⟨a,b,c,F,G,I,J⟩:=h;exact k a b c F G I J
def Gj(h:∃a b c,p a b c/\q a b c/\r a b c/\s a b c/\t a b c)(k:∀a b c,p a b c->q a b c->r a b c->s a b c->t a b c->g):g:=by obtain⟨a,b,c,F,G,I,J,L⟩:=h;exact k a b c F G I J L
def Gi(h:∃a b c,p a b c/\q a b c/\r a b c/\s a b c/\t a b c/\o a b c)(k:∀a b c,p a b c->q a b c->r a b c->s a b c->t a b c->o a b c->g):g:=by obtain⟨a,b,c,F,G,I,J,L,O⟩:=h;exact k a b c F G I J L O
end
section variable{A B C D:Sort _}{p q r s t o:A->B->C->D->Prop}{g:Prop}
def Es(h:∃a b c d,p a b c d/\q a b c d)(k:∀a b c d,p a b c d->q a b c d->g):g:=by obtain⟨a,b,c,d,F,G⟩:=h;exact k a b c d F G
def el43(h:∃a b c d,p a b c d/\q a b c d/\r a b c d)(k:∀a b c d,p a b c d->q a b c d->r a b c d->g):g:=by obtain⟨a,b,c,d,F,G,I⟩:=h;exact k a b c d F G I
def Gh(h:∃a b c d,p a b c d/\q a b c d/\r a b c d/\s a b c d/\t a b c d)(k:∀a b c d,p a b c d->q a b c d->r a b c d->s a b c d->t a b c d->g):g:=by obtain⟨a,b,c,d,F,G,I,J,L⟩:=h;exact k a b c d F G I J L
def R6(h:∃a b c d,p a b c d/\q a b c d/\r a b c d/\s a b c d/\t a b c d/\o a b c d)(k:∀a b c d,p a b c d->q a b c d->r a b c d->s a b c d->t a b c d->o a b c d->g):g:=by obtain⟨a,b,c,d,F,G,I,J,L,O⟩:=h;exact k a b c d F G I J L O
end
section variable{A B C D E:Sort _}{p q r s t:A->B->C->D->E->Prop}{g:Prop}
def el53(h:∃a b c d e,p a b c d e/\q a b c d e/\r a b c d e)(k:∀a b c d e,p a b c d e->q a b c d e->r a b c d e->g):g:=by obtain⟨a,b,c,d,e,F,G,I⟩:=h;exact k a b c d e F G I
def R5(h:∃a b c d e,p a b c d e/\q a b c d e/\r a b c d e/\s a b c d e)(k:∀a b c d e,p a b c d e->q a b c d e->r a b c d e->s a b c d e->g):g:=by obtain⟨a,b,c,d,e,F,G,I,J⟩:=h;exact k a b c d e F G I J
def R4(h:∃a b c d e,p a b c d e/\q a b c d e/\r a b c d e/\s a b c d e/\t a b c d e)(k:∀a b c d e,p a b c d e->q a b c d e->r a b c d e->s a b c d e->t a b c d e->g):g:=by obtain⟨a,b,c,d,e,F,G,I,J,L⟩:=h;exact k a b c d e F G I J L
end
set_option Elab.async false
set_option linter.all false
set_option maxRecDepth 100000
set_option maxHeartbeats 4000000
def y0(n:Nat)(h:n.ble 99=true):n<=PySem.sizeLine:=Nat.le_trans (Nat.le_of_ble_eq_true h) (by decide)
abbrev AA:=@PySem.wpAny_bind
abbrev AB:=@List.length_map
abbrev AC:=@PySem.Heap.get?_push_of_some
abbrev AD:=@PySem.wpAny_pure
abbrev AE:=@List.length_append
abbrev AF:=@List.mem_singleton
abbrev AG:=@List.mem_cons_self
abbrev AH:=@PySem.Heap.lt_size
abbrev AI:=@Nat.le_refl
abbrev AJ:=@List.mem_cons_of_mem
abbrev AK:=@Nat.lt_of_lt_of_le
abbrev AL:=@PySem.Heap.get?_push_size
abbrev AM:=@List.getElem?_eq_getElem
abbrev AN:=@Bool.false_ne_true
abbrev AO:=@List.length_singleton
abbrev AQ:=@List.length_cons
abbrev AR:=@List.append_assoc
abbrev AS:=@List.map_append
abbrev AU:=@decide_eq_false
abbrev AV:=@Nat.ne_of_lt
abbrev AW:=@Nat.zero_le
abbrev AX:=@List.mem_map
abbrev AY:=@Nat.le_trans
abbrev AZ:=@List.mem_cons
abbrev Aa:=@List.mem_append_right
abbrev Ab:=@List.getElem?_eq_some_iff
abbrev Ac:=@PySem.Heap.get?_update_other
abbrev Ad:=@List.mem_append
abbrev Ae:=@List.append_nil
abbrev Af:=@if_neg
abbrev Ag:=@of_decide_eq_true
abbrev Ah:=@if_pos
abbrev Ai:=@List.mem_of_getElem?
abbrev Aj:=@List.size_toArray
abbrev Ak:=@List.length_range
abbrev Al:=@PySem.Heap.get?_update_self
abbrev Am:=@decide_eq_true
abbrev An:=@Nat.lt_of_le_of_lt
abbrev Ao:=@PySem.W.mg_none_of
abbrev Ap:=@List.drop_eq_getElem_cons
abbrev Aq:=@List.getElem?_map
abbrev Ar:=@PySem.wpAny_specialOf
abbrev As:=@PySem.wpAny_holding
abbrev Au:=@Option.some.inj
abbrev Av:=@PySem.W.mg_of
abbrev Aw:=@List.length_take
abbrev Ax:=@PySem.wpAny_newObj_type
abbrev Ay:=@Nat.ne_of_gt
abbrev Az:=@PySem.wpAny_call_entry
abbrev A0:=@List.nodup_cons
abbrev A1:=@List.find?_cons
abbrev A2:=@List.mem_append_left
abbrev A3:=@PySem.wpAny_mono
abbrev A4:=@List.map_cons
abbrev A5:=@PySem.wpAny_field
abbrev A6:=@PySem.wpAny_ite_split
abbrev A7:=@Nat.lt_irrefl
abbrev A8:=@congrArg
abbrev A9:=@List.getElem?_set_ne
abbrev BA:=@Int.le_refl
abbrev BB:=@PySem.wpAny_isInstance
abbrev BC:=@Nat.succ.inj
abbrev BD:=@PySem.W.kia_one
abbrev BE:=@List.length_drop
abbrev BF:=@List.getElem_mem
abbrev BG:=@List.append_cancel_left
abbrev BH:=@PySem.plainId_quiet
abbrev BI:=@List.cons.inj
abbrev BJ:=@List.any_cons
abbrev BK:=@List.take_of_length_le
abbrev BL:=@List.mem_range
abbrev BM:=@Array.getElem?_eq_some_iff
abbrev BN:=@List.length_reverse
abbrev BO:=@List.mem_of_find?_eq_some
abbrev BP:=@PySem.wpAny_forIn_list
abbrev BQ:=@Nat.pow_le_pow_right
abbrev BR:=@Nat.mul_le_mul_right
abbrev BS:=@List.nodup_nil
abbrev BU:=@PySem.F.plainAttrs_list
abbrev BV:=@List.flatMap_cons
abbrev BW:=@PySem.F.slot_tuple_hash
abbrev BX:=@PySem.codeAny_builtin
abbrev BY:=@Nat.zero_add
abbrev BZ:=@PySem.sizeLine_eq
abbrev Ba:=@List.cons_append
abbrev Bb:=@Bool.and_eq_true
abbrev Bc:=@of_decide_eq_false
abbrev Be:=@List.getD_eq_getElem?_getD
abbrev Bf:=@PySem.isSubtype_tuple_tuple
abbrev Bg:=@PySem.F.slot_dict_get
abbrev Bh:=@List.length_replicate
abbrev Bi:=@List.nil_append
abbrev Bj:=@PySem.F.slot_tuple_eq
abbrev Bk:=@PySem.wpAny_truthy_bool
abbrev Bl:=@PySem.wpAny_of_eq
abbrev Bm:=@PySem.lookup_relabel_local
abbrev Bn:=@Nat.le_succ
abbrev Bo:=@List.map_map
abbrev Bp:=@PySem.wpAny_seqItems
abbrev Bq:=@List.drop_length
abbrev Br:=@PySem.Heap.size_push
abbrev Bs:=@PySem.wpAny_tupleItemsOf
abbrev Bt:=@PySem.wpAny_setField_rec
abbrev Bu:=@PySem.wpAny_rule
abbrev Bv:=@PySem.wpAny_Call_Name_kw
abbrev Bw:=@PySem.W.Looks.here
abbrev By:=@Nat.lt_of_succ_lt_succ
abbrev Bz:=@Int.emod_lt_of_pos
abbrev B0:=@Array.forIn_toList
abbrev B1:=@PySem.wpAny_updateSeq
abbrev B2:=@PySem.wpAny_passesOwn
abbrev B3:=@Nat.le_add_left
abbrev B4:=@PySem.wpAny_standAt
abbrev B5:=@PySem.wpAny_callSpecialIfBoundUnlessNone?_slot
abbrev B6:=@PySem.builtinLookup_eq_fast
abbrev B7:=@List.getElem?_eq_none
abbrev B8:=@List.reverse_cons
abbrev B9:=@List.foldl_append
abbrev CC:=@PySem.wpAny_setField
abbrev CD:=@PySem.wpAny_call
abbrev CJ:=@PySem.F.slot_NoneType_hash
abbrev CK:=@List.mem_of_mem_take
abbrev CM:=@PySem.wpAny_typeOf
abbrev CN:=@PySem.codeAny_mono
abbrev CP:=@Nat.lt_succ_self
abbrev CQ:=@List.not_mem_nil
abbrev CU:=@List.mem_flatMap
abbrev CV:=@List.all_eq_true
abbrev CY:=@List.getElem?_append_left
abbrev CZ:=@PySem.mem_of_lookup
abbrev Ca:=@Array.length_toList
abbrev Cb:=@PySem.wpAny_attempt
abbrev Cc:=@PySem.F.slot_dict_itemiterator_next
abbrev Cd:=@PySem.wpAny_execs_nil
abbrev Ce:=@Nat.not_lt_zero
abbrev Cf:=@Int.emod_nonneg
abbrev Cg:=@PySem.W.callWith_K
abbrev Ci:=@PySem.wpAny_callSpecial?_slot
abbrev Cj:=@PySem.F.plainAttrs_dict
abbrev Ck:=@PySem.wpAny_loadPart_at
abbrev Cm:=@Option.map_eq_some_iff
abbrev Cn:=@List.nodup_append
abbrev Co:=@Int.toNat_natCast
abbrev Cp:=@Int.le_trans
abbrev Cq:=@PySem.Calls.callWith_builtin
abbrev Cr:=@PyProof.Rows.slot_tuple_getitem
abbrev Ct:=@PySem.wpAny_notOrdered_dict
abbrev Cu:=@List.mem_iff_getElem?
abbrev Cv:=@List.getElem?_toArray
abbrev Cw:=@PySem.wpAny_typeNameOfWhole_itemiter
abbrev Cy:=@PySem.W.looks_mroIn
abbrev Cz:=@PySem.codeAny_call_builtin
abbrev DA:=@PySem.typeLookup_type
abbrev DB:=@beq_false_of_ne
abbrev DC:=@List.map_congr_left
abbrev DD:=@PySem.Heap.get?_update_ne
abbrev DE:=@Nat.lt_or_ge
abbrev DF:=@Nat.le_of_eq
abbrev DG:=@PySem.callType_codes
abbrev DH:=@PySem.F.excBase_ValueError
abbrev DI:=@List.zip_cons_cons
abbrev DJ:=@List.getElem?_append_right
abbrev DK:=@PySem.F.slot_dict_getitem
abbrev DL:=@PySem.F.plain_extend_loop
abbrev DM:=@PySem.F.slot_tuple_getattribute
abbrev DN:=@PySem.Calls.call_function_entry
abbrev DO:=@Array.getElem?_eq_getElem
abbrev DP:=@Option.isSome_map
abbrev DQ:=@List.take_add_one
abbrev DR:=@PySem.F.slot_dict_items
abbrev DS:=@PySem.wpAny_comprehension_free
abbrev DT:=@PySem.F.type_list_extend
abbrev DU:=@PySem.F.slot_list_extend
abbrev DV:=@PySem.F.args_tuple_add_2
abbrev DW:=@Option.isSome_iff_exists
abbrev DX:=@PySem.wpAny_pyNext_tuple_item
abbrev DY:=@PySem.wpAny_Dict_empty
abbrev DZ:=@PySem.F.entry_tuple_add
abbrev Da:=@Nat.le_add_right
abbrev Dc:=@PySem.wpAny_pyNext_tuple_end
abbrev Dd:=@PySem.wpAny_isOneOf_itemiter
abbrev De:=@PySem.wpAny_Assign_Subscript
abbrev Df:=@PySem.call_meetsIn
abbrev Dg:=@PySem.F.slot_tuple_add
abbrev Dh:=@PySem.F.entry_dict_get
abbrev Di:=@Nat.le_of_lt
abbrev Dj:=@List.getElem?_set_self
abbrev Dk:=@List.length_set
abbrev Dl:=@List.length_nil
abbrev Dm:=@List.find?_some
abbrev Dn:=@PySem.W.methodCall_KW
abbrev Do:=@PySem.F.type_dict_get
abbrev Dp:=@PySem.wpAny_loadPart
abbrev Dq:=@PySem.Calls.evalArgs_plain
abbrev Dr:=@PySem.Around.under_plainId
abbrev Ds:=PySem.W.Frag
namespace PySem
open Sem (wp)
section
variable {prog:Program}{w:World}{K:Type}[DecidableEq K](knd:KeyKind prog w K)
inductive gj(h:Heap):List (List K)->List Value->Prop
 |nil:gj h [] []
 |cons {k:List K} {b:Addr} {kss:List (List K)} {vs:List Value}:IsTupleKey knd h k b->gj h kss vs->gj h (k::kss) (.ref b::vs)
def fj(h:Heap)(q:List (List K))(a:Addr):Prop:=∃o items n,h.get? a=some o/\o.cls=.type "tuple"/\o.data=.seq items n/\gj knd h q items.toList
variable {knd}
def gj.inj(B:gj knd h x vs)(q:gj knd h y vs):x=y:=by
 induction B generalizing y with
 |nil=>(cases q;rfl)
 |cons h1 _ F=>cases q with | cons h2 G=>rw[h1.inj h2,F G]
def gj.keeps(F:gj knd h x vs)(B:h.get? d=some o)(q:o.data=.dict es ep)(hs:Heap.SameBut d h h'):gj knd h' x vs:=by
 induction F with
 |nil=>exact .nil
 |cons h1 _ G=>exact .cons (h1.keeps B q hs) G
def fj.typeIs{s:Shared}(x:fj knd s.heap q a):s.TypeIs (.ref a) "tuple" :=fM x fun o _ _ e c _=>⟨o,e,c⟩
def fj.inj(L:fj knd h x a)(O:fj knd h y a):x=y:=by
 refine aQ L fun o S n q _ B F=>aQ O fun o' its' U G _ I J=>?_;cases q.symm.trans G;cases B.symm.trans I;exact F.inj J
def fj.keeps(x:fj knd h S a)(L:h.get? d=some o)(I:o.data=.dict es ep)(hs:Heap.SameBut d h h'):fj knd h' S a:=by
 refine aQ x fun o' O n q B F G=>?_;have J:a≠d :=by lia
 exact⟨o',O,n,(hs.2 a J).trans q,B,F,G.keeps L I hs⟩
noncomputable def fW(knd:KeyKind prog w K)(q:List (List K)):Int:=reduceHash (Builtin.Tuple.tupleHashOf (q.map (tupleKeyHash knd)))
noncomputable def jG(q:List (List K)):Nat:=(q.map fun k=>k.length+1).sum+1
variable {A:Around}{E:Value->Shared->Prop}{s:Shared}
def jY(U:A.units+1 < cLine)(hk:fj knd s.heap L a)(h:Q (fW knd L) { s with toks:=s.toks+jG L }):
  wpAny (model prog w) A (pyHash (.ref a)) Q E s:=by
 have B:=hk.typeIs;obtain⟨o,items,n,ho,_,Z,hi⟩:=hk
 (first | delta pyHashByItsType | skip)
 (first | refine AA (wpAny_cRoomFor_or (.inr (Nat.lt_of_succ_lt U)) ?_) | skip)
 refine AA (Ar (by exact B) BW.lookup (?_));refine AA (Ar (by exact B) BW.lookup (?_));refine AA (B5 (by exact B) BW (Az BW (by exact B) F.entry_tuple_hash (?_) (F.args_tuple_hash_1 _)));show wpAny _ _ (Builtin.Tuple.tupleItemsOf (.ref a) >>= (_)) _ _ s
 (refine AA (Bs ho Z (AA ?_));rw[<- B0])
 refine BP _ (fun rest b s'=>∃q left,L=q++left/\gj knd s.heap left rest/\b.toList=q.map (tupleKeyHash knd)/\s'={ s with toks:=s.toks+(q.map fun k=>k.length+1).sum }) _ ?_ ?_ _ _ ⟨[],L,rfl,hi,rfl,rfl⟩
 .rintro x rest b s' ⟨q,left,rfl,O,G,rfl⟩
  cases O with
  |@cons k b' Y _ h1 S =>
   refine AA (wpAny_pyHash_tuple U h1 ?_)
   first
    |exact AD ⟨q++[k],Y,by simp,S,by simp[G],by simp[Nat.add_assoc]⟩
    |exact AA (AD (AD ⟨q++[k],Y,by simp,S,by simp[G],by simp[Nat.add_assoc]⟩))
 .rintro b s' ⟨q,left,rfl,O,G,rfl⟩
  cases O;rw[Ae] at h
  (show wpAny _ _ (retInt (Builtin.Tuple.tupleHashOf b.toList)) _ _ _;rw[G];apply wpAny_ret_mkInt)
  delta fW reduceHash jG at h
  generalize Builtin.Tuple.tupleHashOf (q.map (tupleKeyHash knd))=I at h ⊢;show wpAny _ _ (if (decide (-(2:Int) ^ 63<=I)&&decide (I < 2 ^ 63))=true then _ else _) Q E _
  by_cases J:(decide (-(2:Int) ^ 63<=I)&&decide (I < 2 ^ 63))=true
  ·(rw[Ah J];rw[Ah J] at h)
   exact AD (by lia)
  ·(rw[Af J];rw[Af J] at h)
   exact AA (Bu (AD (by simpa [Nat.add_assoc] using h)))
def vA(hu:A.units < cLine)(hx:fj knd s.heap x a)(Y:fj knd s.heap y b)(h:P (.done (.ret (.bool (decide (x=y))))) s):
  wpAny (model prog w) A (Builtin.«tuple.__eq__» ⟨[.ref a,.ref b],[]⟩) P E s:=by
 refine aQ hx fun oa xs ax ak _ ae ai=>aQ Y fun ob ys ay ao _ af aj=>?_
 (show wpAny _ _ (isInstance (.ref b) (.type "tuple") >>= _) _ _ s;refine AA (BB Y.typeIs Bf ?_))
 (refine AA (Bs ak ae (AA (Bs ao af (AA ?_)))))
 refine BP _ (fun rest r s'=>r.1=none/\s'=s/\∃I J B F,rest=List.zip B F/\gj knd s.heap I B/\gj knd s.heap J F/\decide (I=J)=decide (x=y)/\(B.length==F.length)=(xs.size==ys.size)) _ ?_ ?_ _ _ ⟨rfl,rfl,x,y,xs.toList,ys.toList,rfl,ai,aj,rfl,by simp⟩
 .rintro ⟨u,v⟩ rest r s' ⟨U,rfl,I,J,B,F,q,S,G,L,O⟩
  cases S with
  |nil=>simp at q
  |@cons k1 b1 Z av h1 aq =>
   cases G with
   |nil=>simp at q
   |@cons k2 b2 ab aw h2 au =>
    (obtain⟨⟨rfl,rfl⟩,rfl⟩:=q)
    refine AA (wpAny_eqBool_tuple hu h1 h2 ?_)
    by_cases hk:k1=k2
    .subst hk
     (simp only[ Bool.false_eq_true])
     refine AD ⟨rfl,rfl,Z,ab,av,aw,rfl,aq,au,?_,by simpa using O⟩;rw[<- L]
     (by_cases ar:Z=ab<;>simp[ar])
    ·(rw[AU hk];simp only[ if_true])
     have ag:decide (x=y)=false :=by lia
     rw[ag] at h;exact AA (AD (AD (AD h)))
 .rintro ⟨r1,r2⟩ s' ⟨U,rfl,I,J,B,F,q,S,G,L,O⟩
  (subst U;apply AD)
  have ah:(xs.size==ys.size)=decide (x=y):=by
   rw[<- L,<- O]
   cases S with
   |nil=>(cases G with | nil=>simp | cons _ _=>simp)
   |cons _ _=>(cases G with | nil=>simp | cons _ _=>simp at q)
  (show P (.done (.ret (.bool (xs.size==ys.size)))) s';rwa [ah])
def xY(I:A.units+1 < cLine)(q:fj knd s.heap x a)(B:fj knd s.heap y b)(h:Q (decide (x=y)) s):
  wpAny (model prog w) A (eqBool (.ref a) (.ref b)) Q E s:=by
 (delta eqBool;try with_reducible refine As ?_)
 by_cases G:(Value.ref a==Value.ref b)=true
 .rw [Ah G]
  have e:a=b :=by lia
  subst e;obtain rfl:=q.inj B;exact AA (Bu (AD (by lia)))
 .exact (Af G)▸AA (wpAny_richCompare_same_room q.typeIs B.typeIs Bj (Az Bj q.typeIs F.entry_tuple_eq (vA I q B ⟨_,rfl,(fun e=>nomatch e),Bk h⟩) (F.args_tuple_eq_2 _ _)) (Nat.lt_of_succ_lt I))
def tP n(hk:IsTupleKey knd s.heap L a)(h:Q true s):wpAny (model prog w) A (eqIsQuiet (n+1) (.ref a)) Q E s:=by
 have q:=hk.typeIs;refine aQ hk fun o items m I _ G hi=>?_
 (unfold eqIsQuiet;refine AA (Ar q Bj.lookup ?_))
 (refine AA (BB q Bf ?_))
 (refine AA (Bp I G (AA ?_)))
 (rw[<- B0])
 refine BP _ (fun rest r s'=>r.1=none/\s'=s/\∀v∈rest,carriedByValue v=true) _ ?_ ?_ _ _ ⟨rfl,rfl,hi.byValue⟩
 .rintro v rest r s' ⟨F,rfl,B⟩
  (rw[eqIsQuiet_byValue _ (B v AG)];refine AA (AD ?_))
  (exact AD ⟨rfl,rfl,fun u J=>B u (AJ _ J)⟩)
 .rintro ⟨O,S⟩ s' ⟨F,rfl,_⟩
  (subst F;exact AD h)
def Zl(hk:fj knd s.heap L a)(h:Q true s):wpAny (model prog w) A (eqIsQuiet 8 (.ref a)) Q E s:=by
 have q:=hk.typeIs;obtain⟨o,items,m,J,_,I,hi⟩:=hk
 (unfold eqIsQuiet;refine AA (Ar q Bj.lookup ?_))
 (refine AA (BB q Bf ?_))
 (refine AA (Bp J I (AA ?_)))
 (rw[<- B0])
 refine BP _ (fun rest r s'=>r.1=none/\s'=s/\∃F,gj knd s.heap F rest) _ ?_ ?_ _ _ ⟨rfl,rfl,_,hi⟩
 .rintro v rest r s' ⟨B,rfl,F,G⟩
  cases G with
  |cons h1 h2 =>
   refine AA (tP 6 h1 ?_)
   (exact AD ⟨rfl,rfl,_,h2⟩)
 .rintro ⟨O,S⟩ s' ⟨B,rfl,_⟩
  (subst B;exact AD h)
end
noncomputable def pK[DecidableEq K](knd:KeyKind prog w K):HeapKind prog w (List (List K)) where
 is:=fj knd
 hash:=fW knd
 draws:=jG
 room:=fun A=>A.units+1 < cLine
 inj:=fun B F=>B.inj F
 keeps:=fun x I G hs=>x.keeps I G hs
 pyHash:=fun q hk h=>jY q hk h
 eqBool:=fun q B F h=>xY q B F h
 quiet:=fun hk h=>Zl hk h
def mK[DecidableEq K]{knd:KeyKind prog w K}{A:Around}(q:A.units+2 < cLine):(pK knd).room A.in1:=q
section
variable {prog:Program}{w:World}{K:Type}[DecidableEq K](knd:KeyKind prog w K)
inductive ie(h:Heap):List (List (List K))->List Value->Prop
 |nil:ie h [] []
 |cons {k:List (List K)} {b:Addr} {kss:List (List (List K))} {vs:List Value}:fj knd h k b->ie h kss vs->ie h (k::kss) (.ref b::vs)
def gk(h:Heap)(q:List (List (List K)))(a:Addr):Prop:=∃o items n,h.get? a=some o/\o.cls=.type "tuple"/\o.data=.seq items n/\ie knd h q items.toList
variable {knd}
def ie.inj(B:ie knd h x vs)(q:ie knd h y vs):x=y:=by
 induction B generalizing y with
 |nil=>(cases q;rfl)
 |cons h1 _ F=>cases q with | cons h2 G=>rw[h1.inj h2,F G]
def ie.keeps(F:ie knd h x vs)(B:h.get? d=some o)(q:o.data=.dict es ep)(hs:Heap.SameBut d h h'):ie knd h' x vs:=by
 induction F with
 |nil=>exact .nil
 |cons h1 _ G=>exact .cons (h1.keeps B q hs) G
def gk.typeIs{s:Shared}(x:gk knd s.heap q a):s.TypeIs (.ref a) "tuple" :=fM x fun o _ _ e c _=>⟨o,e,c⟩
def gk.inj(L:gk knd h x a)(O:gk knd h y a):x=y:=by
 refine aQ L fun o S n q _ B F=>aQ O fun o' its' U G _ I J=>?_;cases q.symm.trans G;cases B.symm.trans I;exact F.inj J
def gk.keeps(x:gk knd h S a)(L:h.get? d=some o)(I:o.data=.dict es ep)(hs:Heap.SameBut d h h'):gk knd h' S a:=by
 refine aQ x fun o' O n q B F G=>?_;have J:a≠d :=by lia
 exact⟨o',O,n,(hs.2 a J).trans q,B,F,G.keeps L I hs⟩
noncomputable def jS(knd:KeyKind prog w K)(q:List (List (List K))):Int:=reduceHash (Builtin.Tuple.tupleHashOf (q.map (fW knd)))
noncomputable def pP(q:List (List (List K))):Nat:=(q.map jG).sum+1
variable {A:Around}{E:Value->Shared->Prop}{s:Shared}
def lF(hu:A.units+2 < cLine)(hk:gk knd s.heap L a)(h:Q (jS knd L) { s with toks:=s.toks+pP L }):
  wpAny (model prog w) A (pyHash (.ref a)) Q E s:=by
 have B:=hk.typeIs;obtain⟨o,items,n,Z,_,Y,hi⟩:=hk
 (first | delta pyHashByItsType | skip)
 (first | refine AA (wpAny_cRoomFor_or (.inr (by lia)) ?_) | skip)
 refine AA (Ar (by exact B) BW.lookup (?_));refine AA (Ar (by exact B) BW.lookup (?_));refine AA (B5 (by exact B) BW (Az BW (by exact B) F.entry_tuple_hash (?_) (F.args_tuple_hash_1 _)));show wpAny _ _ (Builtin.Tuple.tupleItemsOf (.ref a) >>= (_)) _ _ s
 (refine AA (Bs Z Y (AA ?_));rw[<- B0])
 refine BP _ (fun rest b s'=>∃q left,L=q++left/\ie knd s.heap left rest/\b.toList=q.map (fW knd)/\s'={ s with toks:=s.toks+(q.map jG).sum }) _ ?_ ?_ _ _ ⟨[],L,rfl,hi,rfl,rfl⟩
 .rintro x rest b s' ⟨q,left,rfl,O,G,rfl⟩
  cases O with
  |@cons k b' U _ h1 S =>
   refine AA (jY hu h1 ?_)
   first
    |exact AD ⟨q++[k],U,by simp,S,by simp[G],by simp[Nat.add_assoc]⟩
    |exact AA (AD (AD ⟨q++[k],U,by simp,S,by simp[G],by simp[Nat.add_assoc]⟩))
 .rintro b s' ⟨q,left,rfl,O,G,rfl⟩
  cases O;rw[Ae] at h
  (show wpAny _ _ (retInt (Builtin.Tuple.tupleHashOf b.toList)) _ _ _;rw[G];apply wpAny_ret_mkInt)
  delta jS reduceHash pP at h
  generalize Builtin.Tuple.tupleHashOf (q.map (fW knd))=I at h ⊢;show wpAny _ _ (if (decide (-(2:Int) ^ 63<=I)&&decide (I < 2 ^ 63))=true then _ else _) Q E _
  by_cases J:(decide (-(2:Int) ^ 63<=I)&&decide (I < 2 ^ 63))=true
  ·(rw[Ah J];rw[Ah J] at h)
   exact AD (by lia)
  ·(rw[Af J];rw[Af J] at h)
   exact AA (Bu (AD (by simpa [Nat.add_assoc] using h)))
def Qf(hu:A.units+1 < cLine)(hx:gk knd s.heap x a)(Y:gk knd s.heap y b)(h:P (.done (.ret (.bool (decide (x=y))))) s):
  wpAny (model prog w) A (Builtin.«tuple.__eq__» ⟨[.ref a,.ref b],[]⟩) P E s:=by
 refine aQ hx fun oa xs ax ak _ ae ai=>aQ Y fun ob ys ay ao _ af aj=>?_
 (show wpAny _ _ (isInstance (.ref b) (.type "tuple") >>= _) _ _ s;refine AA (BB Y.typeIs Bf ?_))
 (refine AA (Bs ak ae (AA (Bs ao af (AA ?_)))))
 refine BP _ (fun rest r s'=>r.1=none/\s'=s/\∃I J B F,rest=List.zip B F/\ie knd s.heap I B/\ie knd s.heap J F/\decide (I=J)=decide (x=y)/\(B.length==F.length)=(xs.size==ys.size)) _ ?_ ?_ _ _ ⟨rfl,rfl,x,y,xs.toList,ys.toList,rfl,ai,aj,rfl,by simp⟩
 .rintro ⟨u,v⟩ rest r s' ⟨U,rfl,I,J,B,F,q,S,G,L,O⟩
  cases S with
  |nil=>simp at q
  |@cons k1 b1 Z av h1 aq =>
   cases G with
   |nil=>simp at q
   |@cons k2 b2 ab aw h2 au =>
    (obtain⟨⟨rfl,rfl⟩,rfl⟩:=q)
    refine AA (xY hu h1 h2 ?_)
    by_cases hk:k1=k2
    .subst hk
     (simp only[ Bool.false_eq_true])
     refine AD ⟨rfl,rfl,Z,ab,av,aw,rfl,aq,au,?_,by simpa using O⟩;rw[<- L]
     (by_cases ar:Z=ab<;>simp[ar])
    ·(rw[AU hk];simp only[ if_true])
     have ag:decide (x=y)=false :=by lia
     rw[ag] at h;exact AA (AD (AD (AD h)))
 .rintro ⟨r1,r2⟩ s' ⟨U,rfl,I,J,B,F,q,S,G,L,O⟩
  (subst U;apply AD)
  have ah:(xs.size==ys.size)=decide (x=y):=by
   rw[<- L,<- O]
   cases S with
   |nil=>(cases G with | nil=>simp | cons _ _=>simp)
   |cons _ _=>(cases G with | nil=>simp | cons _ _=>simp at q)
  (show P (.done (.ret (.bool (xs.size==ys.size)))) s';rwa [ah])
def rF(I:A.units+2 < cLine)(q:gk knd s.heap x a)(B:gk knd s.heap y b)(h:Q (decide (x=y)) s):
  wpAny (model prog w) A (eqBool (.ref a) (.ref b)) Q E s:=by
 (delta eqBool;try with_reducible refine As ?_)
 by_cases G:(Value.ref a==Value.ref b)=true
 .rw [Ah G]
  have e:a=b :=by lia
  subst e;obtain rfl:=q.inj B;exact AA (Bu (AD (by lia)))
 .exact (Af G)▸AA (wpAny_richCompare_same_room q.typeIs B.typeIs Bj (Az Bj q.typeIs F.entry_tuple_eq (Qf I q B ⟨_,rfl,(fun e=>nomatch e),Bk h⟩) (F.args_tuple_eq_2 _ _)) (by lia))
def QD n(hk:fj knd s.heap L a)(h:Q true s):wpAny (model prog w) A (eqIsQuiet (n+2) (.ref a)) Q E s:=by
 have q:=hk.typeIs;refine aQ hk fun o items m J _ I hi=>?_
 (unfold eqIsQuiet;refine AA (Ar q Bj.lookup ?_))
 (refine AA (BB q Bf ?_))
 (refine AA (Bp J I (AA ?_)))
 (rw[<- B0])
 refine BP _ (fun rest r s'=>r.1=none/\s'=s/\∃F,gj knd s.heap F rest) _ ?_ ?_ _ _ ⟨rfl,rfl,_,hi⟩
 .rintro v rest r s' ⟨B,rfl,F,G⟩
  cases G with
  |cons h1 h2 =>
   refine AA (tP n h1 ?_)
   (exact AD ⟨rfl,rfl,_,h2⟩)
 .rintro ⟨O,S⟩ s' ⟨B,rfl,_⟩
  (subst B;exact AD h)
def Zm(hk:gk knd s.heap L a)(h:Q true s):wpAny (model prog w) A (eqIsQuiet 8 (.ref a)) Q E s:=by
 have q:=hk.typeIs;obtain⟨o,items,m,J,_,I,hi⟩:=hk
 (unfold eqIsQuiet;refine AA (Ar q Bj.lookup ?_))
 (refine AA (BB q Bf ?_))
 (refine AA (Bp J I (AA ?_)))
 (rw[<- B0])
 refine BP _ (fun rest r s'=>r.1=none/\s'=s/\∃F,ie knd s.heap F rest) _ ?_ ?_ _ _ ⟨rfl,rfl,_,hi⟩
 .rintro v rest r s' ⟨B,rfl,F,G⟩
  cases G with
  |cons h1 h2 =>
   refine AA (QD 5 h1 ?_)
   (exact AD ⟨rfl,rfl,_,h2⟩)
 .rintro ⟨O,S⟩ s' ⟨B,rfl,_⟩
  (subst B;exact AD h)
end
noncomputable def fB[DecidableEq K](knd:KeyKind prog w K):HeapKind prog w (List (List (List K))) where
 is:=gk knd
 hash:=jS knd
 draws:=pP
 room:=fun A=>A.units+2 < cLine
 inj:=fun B F=>B.inj F
 keeps:=fun x I G hs=>x.keeps I G hs
 pyHash:=fun q hk h=>lF q hk h
 eqBool:=fun q B F h=>rF q B F h
 quiet:=fun hk h=>Zm hk h
def nK[DecidableEq K]{knd:KeyKind prog w K}{A:Around}(q:A.units+3 < cLine):(fB knd).room A.in1:=q
end PySem
namespace L2
open PySem PySem.Spec PyProof.Rows
abbrev Key:=Sum (Option Int) Str
noncomputable def J8:Value->Bool
 |.none=>true
 |_=>false
noncomputable def fO:Key->Value->Bool
 |.inl (some k),v=>Value.isInt k v
 |.inl none,v=>J8 v
 |.inr x,v=>Value.isStrOf x v
noncomputable def keyH(w:World):Key->Int
 |.inl (some k)=>hashInt k
 |.inl none=>4238894112
 |.inr x=>hashStr w x
def sS(h:J8 v=true):v=.none:=by
 cases v<;>first | rfl | cases h
theorem rZ:∀{k}{v},fO k v=true->(∃i t,k=Sum.inl (some i)/\v=Value.int i t)\/(∃x t,k=Sum.inr x/\v=Value.str x t)\/(k=Sum.inl none/\v=Value.none)
 |.inl (some i),v,h=>by
  obtain⟨t,e⟩:=Value.isInt_shape h;exact .inl ⟨i,t,rfl,e⟩
 |.inl none,v,h=>.inr (.inr ⟨rfl,sS h⟩)
 |.inr x,v,h=>by
  obtain⟨t,e⟩:=Value.isStrOf_shape h;exact .inr (.inl ⟨x,t,rfl,e⟩)
def Vx i t:fO (.inl (some i)) (.int i t)=true :=by simp[fO,Value.isInt]
def Vw x t:fO (.inr x) (.str x t)=true :=by simp[fO,Value.isStrOf]
def Ni a b:decide ((Sum.inl (some a):Key)=Sum.inl (some b))=(a==b) :=by grind
def M8 a b:decide ((Sum.inr a:Key)=Sum.inr b)=decide (a=b) :=by grind
def key_is i y:decide ((Sum.inl (some i):Key)=Sum.inr y)=false:=AU nofun
def Nh i:decide ((Sum.inl (some i):Key)=Sum.inl none)=false:=AU nofun
def Nb x j:decide ((Sum.inr x:Key)=Sum.inl (some j))=false:=AU nofun
def M9 x:decide ((Sum.inr x:Key)=Sum.inl none)=false:=AU nofun
def Ng j:decide ((Sum.inl none:Key)=Sum.inl (some j))=false:=AU nofun
def Nf y:decide ((Sum.inl none:Key)=Sum.inr y)=false:=AU nofun
def VD(h:Q 4238894112 { s with toks:=s.toks+1 }):wpAny (model prog w) A (pyHash .none) Q E s:=by
 apply AA
 apply AD
 have ty:s.TypeIs .none "NoneType":=rfl
 refine AA (Ar ty CJ.lookup (AA (Ar ty CJ.lookup (AA (B5 ty CJ
  (Az CJ ty PySem.F.entry_NoneType_hash
   (wpAny_ret_mkInt ?_) (PySem.F.args_NoneType_hash_1 _)))))))
 exact AD h
def Gf(h:Q true s):wpAny (model prog w) A (eqBool .none .none) Q E s :=As (A6 (fun _=>AA (Bu (AD h))) (fun q=>absurd rfl q))
noncomputable def tQ prog w:PySem.KeyKind prog w Key where
 is:=fO
 hash:=keyH w
 inj:=fun v a b F G=>by
  rcases rZ F with ⟨i,t,rfl,rfl⟩ | ⟨x,t,rfl,rfl⟩ | ⟨rfl,rfl⟩<;>rcases rZ G with ⟨j,u,rfl,e⟩ | ⟨y,u,rfl,e⟩ | ⟨rfl,e⟩<;>cases e<;>rfl
 byValue:=fun k v h=>by
  rcases rZ h with ⟨i,t,rfl,rfl⟩ | ⟨x,t,rfl,rfl⟩ | ⟨rfl,rfl⟩<;>rfl
 pyHash:=fun q h=>by
  rcases rZ q with ⟨i,t,rfl,rfl⟩ | ⟨x,t,rfl,rfl⟩ | ⟨rfl,rfl⟩
  .exact wpAny_pyHash_int h
  .exact wpAny_pyHash_str h
  .exact VD h
 eqBool:=fun I q h=>by
  rcases rZ I with ⟨i,t,rfl,rfl⟩ | ⟨x,t,rfl,rfl⟩ | ⟨rfl,rfl⟩<;>rcases rZ q with ⟨j,u,rfl,rfl⟩ | ⟨y,u,rfl,rfl⟩ | ⟨rfl,rfl⟩
  .rw [Ni] at h;exact wpAny_eqBool_int h
  .rw [key_is] at h;exact SeqAt.EqAt.int_str i t y u _ _ _ _ h
  .rw [Nh] at h;exact SeqAt.EqAt.int_none i t _ _ _ _ h
  .rw [Nb] at h;exact SeqAt.EqAt.str_int x t j u _ _ _ _ h
  .rw [M8] at h;exact wpAny_eqBool_str h
  .rw [M9] at h;exact SeqAt.EqAt.str_none x t _ _ _ _ h
  .rw [Ng] at h;exact SeqAt.EqAt.none_int j u _ _ _ _ h
  .rw [Nf] at h;exact SeqAt.EqAt.none_str y u _ _ _ _ h
  .rw [Am (rfl:(Sum.inl none:Key)=Sum.inl none)] at h;exact Gf h
 «strs»:=fun k x t v h=>by
  rcases rZ h with ⟨i,u,rfl,e⟩ | ⟨y,u,rfl,e⟩ | ⟨rfl,e⟩
  .exact nomatch e
  .injection e with B _
   subst B;cases v<;>rfl
  .exact nomatch e
def Q4 prog w i t:(tQ prog w).is (.inl (some i)) (.int i t)=true:=Vx i t
def cA prog w:(tQ prog w).is (.inl none) .none=true:=rfl
def Q3 prog w x t:(tQ prog w).is (.inr x) (.str x t)=true:=Vw x t
set_option genInjectivity true in
inductive V where
 |non | bl (b:Bool) | int (i:Int) | str (x:Str) | byt (b:Array UInt8) | flt (b:UInt64) | ref (a:Addr) | ty (n:String)
 deriving DecidableEq
def RelV:V->Value->Prop
 |.non,u=>u=Value.none
 |.bl b,u=>u=Value.bool b
 |.int i,u=>∃t,u=Value.int i t
 |.str x,u=>∃t,u=Value.str x t
 |.byt b,u=>∃t,u=Value.bytes b t
 |.flt b,u=>∃t,u=Value.float b t
 |.ref a,u=>u=Value.ref a
 |.ty n,u=>u=Value.type n
abbrev Vals:List V->List Value->Prop:=Paired RelV
def Vals.length(r:Vals xs us):xs.length=us.length:=Paired.length r
theorem Vals.get:∀{xs}{us}{i:Nat}{x},Vals xs us->xs[i]?=some x->∃u,us[i]?=some u/\RelV x u
 |_,_,_,_,.nil,e=>by simp at e
 |_,_,0,_,.cons r _,e=>by simp at e;subst e;exact⟨_,rfl,r⟩
 |_,_,i+1,x,.cons _ t,e=>by
  obtain⟨u,h1,h2⟩:=(Vals.get t (by simpa using e));exact⟨u,by simpa using h1,h2⟩
theorem Vals.set(r:RelV x u):∀{xs}{us}i,Vals xs us->Vals (xs.set i x) (us.set i u)
 |_,_,_,.nil=>.nil
 |_,_,0,.cons _ t=>.cons r t
 |_,_,i+1,.cons q t=>.cons q (Vals.set r i t)
theorem Vals.append:∀{xs ys}{us q},Vals xs us->Vals ys q->Vals (xs++ys) (us++q)
 |_,_,_,_,.nil,s=>s
 |_,_,_,_,.cons r t,s=>.cons r (Vals.append t s)
theorem Vals.take:∀{xs}{us}n,Vals xs us->Vals (xs.take n) (us.take n)
 |_,_,0,_=>.nil
 |_,_,_+1,.nil=>.nil
 |_,_,n+1,.cons r t=>.cons r (Vals.take n t)
theorem Vals.drop:∀{xs}{us}n,Vals xs us->Vals (xs.drop n) (us.drop n)
 |_,_,0,r=>r
 |_,_,_+1,.nil=>.nil
 |_,_,n+1,.cons _ t=>Vals.drop n t
def RelO:Option V->Option Value->Prop
 |some v,some u=>RelV v u
 |none,none=>True
 |_,_=>False
def KV: List (κ×V)->List (κ×Value)->Prop:=Paired fun(p:κ×V)(q:κ×Value)=>p.1=q.1/\RelV p.2 q.2
noncomputable def kV:Key->V
 |.inl none=>.non
 |.inl (some i)=>.int i
 |.inr x=>.str x
set_option genInjectivity true in
inductive HO where
 |lst (xs:List V)
 |tup (xs:List V)
 |dK (kvs:List (Key×V)) | dT (kvs:List (List Key×V)) | dP (kvs:List (List (List Key)×V)) | dA (kvs:List (List (List (List Key))×V))
 |set (S:Int->Bool) (n:Nat)
 |ins (C dx:Addr) (fs:List (Str×V))
 |own (x:Addr)
 |xd (fs:List (Str×V))
 |met (f x:Addr)
 |rng (lo hi:Int)
 |frz (o:Obj) (u:HO)
 |tbl (ps:Array Value)
 |ext (φ:Heap->Prop)
abbrev Hp:=Addr->Option HO
noncomputable def upd(H:Hp)(a:Addr)(o:HO):Hp:=fun b=>if b=a then some o else H b
theorem uQ: upd H a o a=some o :=by grind[upd]
theorem pQ(h:b≠a):upd H a o b=H b :=by grind[upd]
def JY{H:Hp}(h:H a=some o)(h':H b=some u)(d:o≠u):a≠b :=by grind
def gJ{H:Hp}(h:H a=some o)(h':H b=none):a≠b :=by grind
def jt(h:Heap)(a:Addr)(items:Array Value):Prop:=∃o,h.get? a=some o/\o.cls=.type "tuple"/\(∃n,o.data=.seq items n)/\o.dict=none
def jt.is(x:jt h a items):IsTup h a items:=let ⟨o,e,c,d,_⟩:=x;⟨o,e,c,d⟩
def jt.new(h:Heap)items:jt (h.push { cls:=.type "tuple",data:=.seq items }) h.objs.size items:=⟨_,AL _ rfl,rfl,⟨_,rfl⟩,rfl⟩
def mj(H:Hp)(B:List (List Key))(b:Addr):Prop:=∃bs:List Addr,H b=some (.tup (bs.map V.ref))/\Paired (fun(q:List Key)(c:Addr)=>H c=some (.tup (q.map kV))) B bs
def qj(H:Hp)(k:List (List (List Key)))(b:Addr):Prop:=∃bs:List Addr,H b=some (.tup (bs.map V.ref))/\Paired (fun(q:List (List Key))(c:Addr)=>mj H q c) k bs
section
variable (P:Program)(w:World)
def ObjOk(H:Hp)(h:Heap)(a:Addr):HO->Prop
 |.lst xs=>xs.length<=sizeLine/\∃(B:List Value)(n:Nat),Vals xs B/\h.get? a=some { cls:=.type "list",data:=.seq B.toArray n }
 |.tup xs=>xs.length<=sizeLine/\∃B:List Value,Vals xs B/\jt h a B.toArray
 |.dK kvs=>kvs.length<=sizeLine/\(a==sysModules)=false/\∃vs,KV kvs vs/\h.DictOf (tQ P w) a vs
 |.dT kvs=>kvs.length<=sizeLine/\(a==sysModules)=false/\∃xs:List (List Key×Addr×Value),
   Paired (fun(p:List Key×V)(q:List Key×Addr×Value)=>p.1=q.1/\H q.2.1=some (.tup (p.1.map kV))/\RelV p.2 q.2.2) kvs xs /\
   ∃o es ep,h.get? a=some o/\o.ExactDict/\o.data=.dict es ep/\es.toList=xs.map (entryOfKey (tupleKind (tQ P w)))/\(xs.map (·.1)).Nodup
 |.dA kvs=>kvs.length<=sizeLine/\(a==sysModules)=false/\∃xs:List (List (List (List Key))×Addr×Value),
   Paired (fun(p:List (List (List Key))×V)(q:List (List (List Key))×Addr×Value)=>p.1=q.1/\qj H p.1 q.2.1/\RelV p.2 q.2.2) kvs xs /\
   ∃o es ep,h.get? a=some o/\o.ExactDict/\o.data=.dict es ep/\es.toList=xs.map (entryOfKey (fB (tQ P w)))/\(xs.map (·.1)).Nodup
 |.dP kvs=>kvs.length<=sizeLine/\(a==sysModules)=false/\∃xs:List (List (List Key)×Addr×Value),
   Paired (fun(p:List (List Key)×V)(q:List (List Key)×Addr×Value)=>p.1=q.1/\mj H p.1 q.2.1/\RelV p.2 q.2.2) kvs xs /\
   ∃o es ep,h.get? a=some o/\o.ExactDict/\o.data=.dict es ep/\es.toList=xs.map (entryOfKey (pK (tQ P w)))/\(xs.map (·.1)).Nodup
 |.set S n=>h.SetOf (intKind P w) a S n
 |.ins C dx fs=>H dx=some (.own a)/\fs.length<=1000/\dx≠a/\h.get? a=some (PySem.W.instObj C dx) /\
   ∃mA,h.Ns1 dx mA/\(∀f,RelO (fs.lookup f) (mA f))/\PySem.Within mA (fs.map (·.1))
 |.own _=>∃o,h.get? a=some o
 |.xd fs=>∃mA,h.Ns1 a mA/\∀f,RelO (fs.lookup f) (mA f)
 |.rng lo hi=>∃t u v,h.get? a=some { cls:=.type "range",data:=.fields #[.int lo t,.int hi u,.int 1 v] }
 |.frz o u=>h.get? a=some o/\ObjOk H h a u
 |.tbl ps=>h.get? a=some { cls:=.none,data:=.fields ps }
 |.met f x=>h.get? a=some (PySem.W.methodObj (.ref f) (.ref x))
 |.ext F=>F h/\(∃o,h.get? a=some o)/\∀h1 h2:Heap,F h1->(∀o,h1.get? a=some o->h2.get? a=some o)->F h2
def HOk(H:Hp)(h:Heap):Prop:=∀a o,H a=some o->ObjOk P w H h a o
end
section
variable {P:Program}{w:World}{H H':Hp}{h h':Heap}{a:Addr}{o:HO}
def ObjOk.lt(x:ObjOk P w H h a o):a < h.objs.size:=by
 cases o with
 |lst xs=>obtain⟨_,_,_,_,e⟩:=x;exact AH e
 |tup xs=>obtain⟨_,_,_,o,e,_⟩:=x;exact AH e
 |dK kvs=>obtain⟨_,_,_,_,o,_,_,e,_⟩:=x;exact AH e
 |dT kvs=>obtain⟨_,_,_,_,o,_,_,e,_⟩:=x;exact AH e
 |dP kvs=>obtain⟨_,_,_,_,o,_,_,e,_⟩:=x;exact AH e
 |dA kvs=>obtain⟨_,_,_,_,o,_,_,e,_⟩:=x;exact AH e
 |set S n=>exact Es x fun o _ _ _ e _=>AH e
 |ins C dx fs=>exact uR x fun _ _ _ e _=>AH e
 |own y=>obtain⟨_,e⟩:=x;exact AH e
 |xd fs=>obtain⟨_,⟨_,_,_,e,_⟩,_⟩:=x;exact AH e
 |rng lo hi=>exact Nv x fun _ _ _ e=>AH e
 |frz q u=>obtain⟨e,_⟩:=x;exact AH e
 |tbl ps=>exact AH x
 |met f y=>exact AH x
 |ext B=>obtain⟨_,⟨_,e⟩,_⟩:=x;exact AH e
theorem Paired.mapP: ∀{q}{B},Paired F q B->(∀a b,F a b->G a b)->Paired G q B
 |_,_,.nil,_=>.nil
 |_,_,.cons r t,f=>.cons (f _ _ r) (Paired.mapP t f)
def mj.mono(x:mj H B b)(q:∀b xs,H b=some (.tup xs)->H' b=some (.tup xs)):mj H' B b :=
 let ⟨bs,e,r⟩:=x;⟨bs,q _ _ e,Paired.mapP r fun _ _ z=>q _ _ z⟩
def qj.mono(x:qj H k b)(q:∀b xs,H b=some (.tup xs)->H' b=some (.tup xs)):qj H' k b :=
 let ⟨bs,e,r⟩:=x;⟨bs,q _ _ e,Paired.mapP r fun _ _ z=>z.mono q⟩
def ObjOk.stay(x:ObjOk P w H h a o)(k:∀b u,(b=a\/H b=some (.own a))->h.get? b=some u->h'.get? b=some u)(J:∀b,H b=some (.own a)->H' b=some (.own a))(F:∀b xs,H b=some (.tup xs)->H' b=some (.tup xs)):ObjOk P w H' h' a o:=by
 induction o with
 |lst xs=>obtain⟨z,G,n,r,e⟩:=x;exact⟨z,G,n,r,k _ _ (.inl rfl) e⟩
 |tup xs=>obtain⟨z,G,r,B,e,c⟩:=x;exact⟨z,G,r,B,k _ _ (.inl rfl) e,c⟩
 |dK kvs=>obtain⟨z,y,vs,r,B,es,ep,e,c⟩:=x;exact⟨z,y,vs,r,B,es,ep,k _ _ (.inl rfl) e,c⟩
 |dT kvs =>
  obtain⟨z,y,xs,r,B,es,ep,e,c⟩:=x;exact⟨z,y,xs,Paired.mapP r fun p q z=>⟨z.1,F _ _ z.2.1,z.2.2⟩,B,es,ep,k _ _ (.inl rfl) e,c⟩
 |dA kvs =>
  obtain⟨z,y,xs,r,B,es,ep,e,c⟩:=x;exact⟨z,y,xs,Paired.mapP r fun p q z=>⟨z.1,z.2.1.mono F,z.2.2⟩,B,es,ep,k _ _ (.inl rfl) e,c⟩
 |dP kvs =>
  obtain⟨z,y,xs,r,B,es,ep,e,c⟩:=x;exact⟨z,y,xs,Paired.mapP r fun p q z=>⟨z.1,z.2.1.mono F,z.2.2⟩,B,es,ep,k _ _ (.inl rfl) e,c⟩
 |set S n=>exact Es x fun B es ep t e c=>⟨B,es,ep,t,k _ _ (.inl rfl) e,c⟩
 |ins C dx fs =>
  obtain⟨d,z,O,e,mA,⟨od,es,ep,I,c⟩,r⟩:=x;exact⟨J _ d,z,O,k _ _ (.inl rfl) e,mA,⟨od,es,ep,k _ _ (.inr d) I,c⟩,r⟩
 |own y=>obtain⟨B,e⟩:=x;exact⟨B,k _ _ (.inl rfl) e⟩
 |xd fs=>obtain⟨mA,⟨od,es,ep,e,c⟩,r⟩:=x;exact⟨mA,⟨od,es,ep,k _ _ (.inl rfl) e,c⟩,r⟩
 |rng lo hi=>exact Nv x fun t u v e=>⟨t,u,v,k _ _ (.inl rfl) e⟩
 |frz B u L=>obtain⟨e,q⟩:=x;exact⟨k _ _ (.inl rfl) e,L q⟩
 |tbl ps =>
  have e:=x;exact k a _ (.inl rfl) e
 |met f y =>
  have e:=x;exact k a _ (.inl rfl) e
 |ext U=>obtain⟨p,⟨o,e⟩,st⟩:=x;exact⟨st _ _ p fun o q=>k _ _ (.inl rfl) q,⟨o,k _ _ (.inl rfl) e⟩,st⟩
def HOk.lt(x:HOk P w H h)(e:H a=some o):a < h.objs.size:=(x a o e).lt
def HOk.fresh(x:HOk P w H h)(e:h.objs.size<=a):H a=none:=by
 cases q:H a with
 |none=>rfl
 |some u=>exact absurd (AK (x.lt q) e) (A7 _)
def HOk.kept(x:HOk P w H h)(k:∀b u,h.get? b=some u->h'.get? b=some u):HOk P w H h':=fun a o e=>
 (x a o e).stay (fun b u _ q=>k b u q) (fun _ q=>q) fun _ _ q=>q
def HOk.laid(x:HOk P w H h)(k:∀b u,h.get? b=some u->h'.get? b=some u)(G:h.objs.size<=a)(I:ObjOk P w (upd H a o) h' a o):HOk P w (upd H a o) h':=fun b u e=>by
 have F:=x.fresh G
 by_cases B:b=a
 .subst B;rw[uQ] at e;cases e;exact I
 .rw [pQ B] at e
  exact(x b u e).stay (fun c v _ q=>k c v q) (fun c q=>by rwa [pQ (gJ q F)]) fun c xs q=>by rwa [pQ (gJ q F)]
end
def Rd(H:Hp)(a:Addr)(u:HO):Prop:=H a=some u\/∃o,H a=some (.frz o u)
theorem Rd.ok(r:Rd H a u)(x:HOk P w H h):ObjOk P w H h a u:=by
 rcases r with r | ⟨o,r⟩
 .exact x a u r
 .obtain ⟨_,q⟩:=x a _ r
  exact q
def Mut:Option HO->Prop
 |some (.lst _)=>True
 |some (.dK _)=>True
 |some (.dT _)=>True
 |some (.dP _)=>True
 |some (.dA _)=>True
 |some (.set _ _)=>True
 |some (.ins _ _ _)=>True
 |some (.ext _)=>True
 |_=>False
section
variable {P:Program}{w:World}{H:Hp}{h h':Heap}{x e:Addr}{o':HO}
def HOk.write(Y:HOk P w H h)(I:Mut (H x))(Z:e=x\/H e=some (.own x))(k:∀b u,b≠e->h.get? b=some u->h'.get? b=some u)(L:∃u,h'.get? e=some u)(O:ObjOk P w (upd H x o') h' x o'):HOk P w (upd H x o') h':=fun b u q=>by
 have S:∀c y,H c=some (.own y)->c≠x:=fun c y r z=>by subst z;rwa [r] at I
 have U:∀c xs,H c=some (.tup xs)->c≠x:=fun c xs r z=>by subst z;rwa [r] at I
 by_cases B:b=x
 .subst B;rw[uQ] at q;cases q;exact O
 .rw [pQ B] at q
  by_cases F:b=e
  .have J:H b=some (.own x) :=by lia
   rw[q] at J;cases J
   obtain⟨v,hv⟩:=L;exact⟨v,by rwa [F]⟩
  .refine (Y b u q).stay (fun c v G r=>k c v ?_ r) (fun c r=>by rwa [pQ (S c b r)]) fun c xs r=>(pQ (U c xs r))▸r
   rcases G with rfl | G
   .exact F
   .grind
end
structure Un(fs ex:List Addr)(H H':Hp)(h h':Heap):Prop where
 keep:∀b o,h.get? b=some o->H b=none->b∉fs->b∉ex->h'.get? b=some o
 slot:∀b o,h.get? b=some o->H b=none->b∈fs->b∉ex->∃sl,h'.get? b=some { o with slots:=sl }
 free:∀b o,h.get? b=some o->H b=none->b∉ex->H' b=none
 there:∀b o,h.get? b=some o->b∉ex->∃o',h'.get? b=some o'
 tups:∀b xs,H b=some (.tup xs)->H' b=some (.tup xs)
 frzs:∀b o u,H b=some (.frz o u)->H' b=some (.frz o u)
 tbls:∀b ps,H b=some (.tbl ps)->∃more,H' b=some (.tbl (ps++more))
section
variable {fs fs' ex ex':List Addr}{H H1 H2:Hp}{h h1 h2 h':Heap}{a x e:Addr}{o:HO}
def Un.any(u:Un fs ex H H1 h h1)(q:h.get? b=some B)(n:H b=none)(G:b∉ex):∃I,h1.get? b=some { B with slots:=I }:=by
 by_cases F:b∈fs
 .exact u.slot b B q n F G
 .exact ⟨B.slots,u.keep b B q n F G⟩
def Un.kept(k:∀b u,h.get? b=some u->h'.get? b=some u):Un fs ex H H h h' :=
 ⟨fun b B q _ _ _=>k b B q,fun b B q _ _ _=>⟨B.slots,k b B q⟩,fun _ _ _ n _=>n,fun b B q _=>⟨B,k b B q⟩,fun _ _ q=>q,fun _ _ _ q=>q,fun _ ps q=>⟨#[],by rw[q];simp⟩⟩
def Un.refl:Un fs ex H H h h:=Un.kept fun _ _ q=>q
def Un.laid(k:∀b u,h.get? b=some u->h'.get? b=some u)(F:h.objs.size<=a)(B:H a=none):Un fs ex H (upd H a o) h h' where
 keep:=fun b u q _ _ _=>k b u q
 slot:=fun b u q _ _ _=>⟨u.slots,k b u q⟩
 free:=fun b u q n _=>by rwa [pQ (AV (AK (AH q) F))]
 there:=fun b u q _=>⟨u,k b u q⟩
 tups:=fun b xs q=>by rwa [pQ (gJ q B)]
 frzs:=fun b u xs q=>by rwa [pQ (gJ q B)]
 tbls:=fun b ps q=>⟨#[],by rw[pQ (gJ q B),q];simp⟩
def Un.write(F:Mut (H x))(J:e=x\/H e=some (.own x))(k:∀b u,b≠e->h.get? b=some u->h'.get? b=some u)(S:∃u,h'.get? e=some u):Un fs ex H (upd H x o) h h':=by
 have I:∀b,H b=none->b≠x:=fun b n z=>by subst z;rwa [n] at F
 have G:∀b,H b=none->b≠e:=fun b n z=>by
  subst z
  rcases J with r | r
  .exact I b n r
  .lia
 have B:∀b u,H b=some u->¬ Mut (some u)->b≠x:=fun b u q L z=>by subst z;rw[q] at F;exact L F
 refine⟨fun b u q n _ _=>k b u (G b n) q,fun b u q n _ _=>⟨u.slots,k b u (G b n) q⟩,fun b u q n _=>by rw[pQ (I b n)];exact n,fun b u q _=>?_,
  fun b xs q=>by rw[pQ (B b _ q fun z=>z)];exact q,fun b u xs q=>by rw[pQ (B b _ q fun z=>z)];exact q,fun b ps q=>⟨#[],by rw[pQ (B b _ q fun z=>z),q];simp⟩⟩
 by_cases O:b=e
 .grind
 .grind
end
noncomputable def trk(h:Heap)(H:Hp):List Addr:=(List.range h.objs.size).filter fun a=>(H a).isSome
noncomputable def Xk(h:Heap)(H:Hp):Heap:=PySem.W.hideAll h (trk h H)
def VC h H:(Xk h H).objs.size=h.objs.size:=PySem.W.hideAll_size _ _
def YW(e:h.get? b=some o)(n:H b=none):(Xk h H).get? b=some o :=
 PySem.W.hideAll_get _ e fun B=>by
  have q:=(List.mem_filter.mp B).2;rw[n] at q;simp at q
def of_hidT(e:(Xk h H).get? b=some o):h.get? b=some o/\H b=none:=by
 have B:=PySem.W.of_hideAll (trk h H) e;refine⟨B,?_⟩
 cases q:H b with
 |none=>rfl
 |some x =>
  have z:(Xk h H).get? b=none:=PySem.W.hideAll_none (trk h H) (List.mem_filter.mpr ⟨BL.mpr (AH B),by simp[q]⟩);rw[z] at e;cases e
noncomputable def allNews(g h:Heap)(L:Addr):List (Addr×Obj):=(List.range h.objs.size).filterMap fun a=>if a=L\/(g.get? a).isSome=true then none else (h.get? a).map fun o=>(a,o)
noncomputable def rest(g h:Heap)(L d:Addr):List (Addr×Obj):=(allNews g h L).filter fun p=>decide (p.1≠d)
structure Mod(K:Ds)(mg:Str->Option Value)(base:Heap):Prop where
 kin:K.In base
 glob:base.Ns mainGlobals mg
 blt:∃mb,base.Ns builtinsNs mb/\∀x:Str,x ≠ "__name__"->mb x=bootBuiltins x
 nolimit:base.NoLimit
structure Cx where
 prog:Program
 w:World
 K:Ds
 mg:Str->Option Value
 base:Heap
 A:Around
 N:List Str
 s₀:Shared
 H₀:Hp
 env:Env
 outer:List Env
 stack:List Env
 ex:List Addr
 fn:Str->Bool
 calm:Bool
 pn:List (Addr×Obj)
 xe:Value->Shared->Prop
noncomputable def frs(l:List Env):List Addr:=l.filterMap (·.frame)
abbrev Cx.fs(X:Cx):List Addr:=frs X.outer
def Vis(sc:Scope)(x:Str):Prop:=sc.names.lookup x=some .local\/sc.names.lookup x=some .cell\/sc.names.lookup x=some .free
def Loc(sc:Scope)(x:Str):Prop:=sc.names.lookup x=some .local\/sc.names.lookup x=some .cell
def Look(q:Env)(h:Heap)(m:Str->Option Value)(x:Str)(u:Value):Prop :=
 (q.kindOf x=some .local/\m x=some u)\/((q.kindOf x=some .cell\/q.kindOf x=some .free)/\∃c,q.cells.lookup x=some c/\h.IsCell c (some u))
structure Cx.Ok(X:Cx):Prop where
 mod:Mod X.K X.mg X.base
 kind:X.env.scope.kind=.function
 glob:X.env.globals=mainGlobals
 blt:X.env.builtins=builtinsNs
 above:X.s₀.heap.objs.size<=X.env.locals
 inj:∀x y c,X.env.cells.lookup x=some c->X.env.cells.lookup y=some c->x=y
 has:∀x,(X.env.kindOf x=some .cell\/X.env.kindOf x=some .free)->∃c,X.env.cells.lookup x=some c
 cab:∀x c,X.fn x=true->X.env.cells.lookup x=some c->X.s₀.heap.objs.size<=c
 hd:X.calm=true->X.A.handled=none
 frames:X.A.frames=some X.stack
 stk:X.stack=X.outer\/(X.stack=X.env::X.outer/\X.env.frame=some X.env.locals)
 exf:∀b∈X.ex,b≠X.env.locals/\∀x c,X.env.cells.lookup x=some c->c≠b
 bs:∀b o,X.base.get? b=some o->X.s₀.heap.get? b=some o/\X.H₀ b=none
 bsz:X.base.objs.size<=X.s₀.heap.objs.size
 noex:∀b o,X.base.get? b=some o->b∉X.ex
 exfs:∀b∈X.ex,b∉X.fs
 funs:X.s₀.heap.FunFrames X.base X.outer
 frf:∀b∈X.fs,X.H₀ b=none
structure Inv(X:Cx)(pins:List (Addr×Obj))(σ:List (Option V))(H:Hp)(s:Shared):Prop where
 ok:X.Ok
 os:s.os=X.s₀.os
 bare:AllBare s.gens
 base:Un X.fs X.ex X.H₀ H X.s₀.heap s.heap
 loc:∃m,s.heap.Ns X.env.locals m/\∀(i:Nat)(x:Str)(v:V),X.N[i]?=some x->σ[i]?=some (some v)->Vis X.env.scope x->∃u,RelV v u/\Look X.env s.heap m x u
 cell:∀x c,X.env.cells.lookup x=some c->∃v,s.heap.IsCell c v
 free:H X.env.locals=none
 freeC:∀x c,X.env.cells.lookup x=some c->H c=none
 pin:∀p∈X.pn++pins,s.heap.get? p.1=some p.2/\H p.1=none/\p.1≠X.env.locals/\p.1∉X.fs/\∀v,p.2.data≠.cell v
 hok:HOk X.prog X.w H s.heap
 len:σ.length=X.N.length
section
variable {X:Cx}{pins:List (Addr×Obj)}{σ:List (Option V)}{H H':Hp}{s:Shared}{h':Heap}
def Cx.Ok.nofr(B:X.Ok)(e:X.base.get? b=some o):b∉X.fs:=fun q=>by
 have:=(B.funs.mem q).1;rw[e] at this;cases this
def Inv.bs(I:Inv X pins σ H s):∀b o,X.base.get? b=some o->s.heap.get? b=some o/\H b=none:=fun b o e=>
 ⟨I.base.keep b o (I.ok.bs b o e).1 (I.ok.bs b o e).2 (I.ok.nofr e) (I.ok.noex b o e),I.base.free b o (I.ok.bs b o e).1 (I.ok.bs b o e).2 (I.ok.noex b o e)⟩
def Inv.bk(I:Inv X pins σ H s):∀b o,X.base.get? b=some o->s.heap.get? b=some o:=fun b o e=>(I.bs b o e).1
def Inv.mod(I:Inv X pins σ H s):Mod X.K X.mg X.base:=I.ok.mod
def Inv.kIn(I:Inv X pins σ H s):X.K.In s.heap:=I.ok.mod.kin.keeps I.bk
def Inv.fr(I:Inv X pins σ H s):∃m,Fr X.base X.env.locals s.heap m :=
 let ⟨m,q,_⟩:=I.loc
 ⟨m,q,I.bk,AY I.ok.bsz I.ok.above⟩
def Inv.lt(I:Inv X pins σ H s):X.env.locals < s.heap.objs.size:=let ⟨_,q,_⟩:=I.loc;q.lt
def Inv.sz(I:Inv X pins σ H s):X.s₀.heap.objs.size<=s.heap.objs.size:=AY I.ok.above (Di I.lt)
def Inv.nofs(I:Inv X pins σ H s){a:Addr}(h:s.heap.objs.size<=a):a∉X.fs:=fun q=>by
 obtain⟨_,o,B,_⟩:=I.ok.funs.mem q;exact absurd (AK (AH B) (AY I.sz h)) (A7 _)
def Inv.cne(I:Inv X pins σ H s):∀x c,X.env.cells.lookup x=some c->c≠X.env.locals:=fun x c e z=>by
 obtain⟨v,o,B,q⟩:=(I.cell x c e);obtain⟨m,⟨o',es,ep,G,F,_⟩,_⟩:=I.loc;rw[z,G] at B;cases B;rw[F] at q;cases q
def Inv.funs(I:Inv X pins σ H s):s.heap.FunFrames X.base X.outer:=by
 have G:∀l,(∀b∈frs l,b∈X.fs)->X.s₀.heap.FunFrames X.base l->s.heap.FunFrames X.base l:=by
  intro l
  induction l with
  |nil=>intro _ _;trivial
  |cons ab r Z =>
   intro hs O;obtain⟨hk,⟨L,o,F,S,U,J⟩,Y⟩:=O;have q:=hs L (by delta frs;exact List.filterMap_cons▸F▸AG);obtain⟨sl,e⟩:=I.base.slot L o U (I.ok.frf L q) q fun z=>I.ok.exfs L z q;exact⟨hk,⟨L,_,F,S,e,J⟩,Z (fun b B=>hs b (by delta frs;exact List.filterMap_cons▸F▸AJ _ B)) Y⟩
 exact G X.outer (fun _ B=>B) I.ok.funs
def Inv.stack(I:Inv X pins σ H s):s.heap.FunFrames X.base X.stack:=by
 rcases I.ok.stk with e | ⟨e,q⟩
 .exact e▸I.funs
 .rw [e]
  refine dQ I.loc fun m B _=>.cons (by rw[I.ok.kind];decide) q B ?_ I.funs;exact Heap.get?_none_of_le (AY I.ok.bsz I.ok.above)
def Inv.stkSub(I:Inv X pins σ H s):∀b∈frs X.stack,b∈X.env.locals::X.fs:=fun b q=>by
 rcases I.ok.stk with e | ⟨e,B⟩
 .grind
 .rw [e] at q
  delta frs at q
  rwa [List.filterMap_cons,B] at q
def Inv.stkFree(I:Inv X pins σ H s):∀b∈frs X.stack,H b=none:=fun b q=>by
 rcases AZ.mp (I.stkSub b q) with e | q
 .exact e▸I.free
 .obtain ⟨_,o,B,_⟩:=I.ok.funs.mem q
  exact I.base.free b o B (I.ok.frf b q) fun z=>I.ok.exfs b z q
def Inv.step{ch:List Addr}(I:Inv X pins σ H s)(L:∀b∈ch,(b∈X.ex\/X.s₀.heap.objs.size<=b)/\b≠X.env.locals/\(∀x c,X.env.cells.lookup x=some c->c≠b)/\∀p∈X.pn++pins,p.1≠b)(Z:∀b o,b≠X.env.locals->b∉X.fs->b∉ch->s.heap.get? b=some o->H b=none->h'.get? b=some o)(ag:∀b o,b≠X.env.locals->b∈X.fs->b∉ch->s.heap.get? b=some o->H b=none->∃sl,h'.get? b=some { o with slots:=sl })(S:∀b o,b∉ch->s.heap.get? b=some o->H b=none->H' b=none)(ar:∀b o,b∉ch->s.heap.get? b=some o->∃o',h'.get? b=some o')(au:∀b xs,H b=some (.tup xs)->H' b=some (.tup xs))(ah:∀b o u,H b=some (.frz o u)->H' b=some (.frz o u))(aq:∀b ps,H b=some (.tbl ps)->∃aj,H' b=some (.tbl (ps++aj)))(ns:∀m,s.heap.Ns X.env.locals m->h'.Ns X.env.locals m)(ai:HOk X.prog X.w H' h')(hg:AllBare g'):
  Inv X pins σ H' { s with heap:=h',gens:=g',drawn:=d',toks:=t' }:=by
 have af:∀b o,X.s₀.heap.get? b=some o->b≠X.env.locals:=fun b o e=>AV (AK (AH e) I.ok.above)
 have U:∀b o,X.s₀.heap.get? b=some o->b∉X.ex->b∉ch:=fun b o e q F=>by
  rcases(L b F).1 with z | z
  .exact q z
  .exact absurd (AK (AH e) z) (A7 _)
 have ab:∀x c,X.env.cells.lookup x=some c->∀v,s.heap.IsCell c v->h'.IsCell c v:=fun x c e v zz=>dQ zz fun o G Y=> by
  have O:c∉ch:=fun z=>(L c z).2.2.1 x c e rfl
  by_cases hc:c∈X.fs
  .obtain ⟨sl,ak⟩:=ag c o (I.cne x c e) hc O G (I.freeC x c e)
   exact⟨_,ak,Y⟩
  .exact ⟨o,Z c o (I.cne x c e) hc O G (I.freeC x c e),Y⟩
 refine⟨I.ok,I.os,hg,⟨fun b o e n F q=>?_,fun b o e n F q=>?_,fun b o e n q=>?_,fun b o e q=>?_,fun b xs e=>au b xs (I.base.tups b xs e),fun b o xs e=>ah b o xs (I.base.frzs b o xs e),fun b ps e=>?_⟩,?_,fun x c e=>?_,?_,fun x c e=>?_,fun p hp=>?_,ai,I.len⟩
 .exact Z b o (af b o e) F (U b o e q) (I.base.keep b o e n F q) (I.base.free b o e n q)
 .obtain ⟨sl,B⟩:=I.base.slot b o e n F q
  obtain⟨ao,J⟩:=ag b _ (af b o e) F (U b o e q) B (I.base.free b o e n q);exact⟨ao,J⟩
 .obtain ⟨o',B⟩:=I.base.there b o e q
  exact S b o' (U b o e q) B (I.base.free b o e n q)
 .obtain ⟨o',B⟩:=I.base.there b o e q
  exact ar b o' (U b o e q) B
 .obtain ⟨m1,B⟩:=I.base.tbls b ps e
  obtain⟨m2,J⟩:=aq b _ B;exact⟨m1++m2,by rw[J,Array.append_assoc]⟩
 .refine dQ I.loc fun m hn hl=>⟨m,ns m hn,fun i x v B J e3=>dQ (hl i x v B J e3) fun u r l=>⟨u,r,?_⟩⟩
  rcases l with l | ⟨k,c,e,z⟩
  .exact .inl l
  .exact .inr ⟨k,c,e,ab x c e _ z⟩
 .obtain ⟨v,z⟩:=I.cell x c e
  exact⟨v,ab x c e v z⟩
 .obtain ⟨m,⟨o,_,_,G,_⟩,_⟩:=I.loc
  exact S _ o (fun z=>(L _ z).2.1 rfl) G I.free
 .exact bG (I.cell x c e) fun v o G Y=>S c o (fun z=>(L c z).2.2.1 x c e rfl) G (I.freeC x c e)
 .refine uR (I.pin p hp) fun e n ae nf d=>?_
  have O:p.1∉ch:=fun z=>(L p.1 z).2.2.2 p hp rfl;exact⟨Z p.1 p.2 ae nf O e n,S p.1 p.2 O e n,ae,nf,d⟩
def Inv.un(I:Inv X pins σ H s)(u:Un X.fs [] H H' s.heap h')(S:HOk X.prog X.w H' h'):Inv X pins σ H' { s with heap:=h',toks:=t' }:=by
 obtain⟨m,⟨o,es,ep,B,r⟩,_⟩:=id I.loc;obtain⟨Z,L⟩:=u.any B I.free (by simp)
 exact I.step (g':=s.gens) (d':=s.drawn) (ch:=[]) (fun _ z=>nomatch z) (fun b o _ q _ e n=>u.keep b o e n q (by simp)) (fun b o _ q _ e n=>u.slot b o e n q (by simp)) (fun b o _ e n=>u.free b o e n (by simp)) (fun b o _ e=>u.there b o e (by simp)) u.tups u.frzs u.tbls (fun Y O=>by
  obtain⟨o',J,G,F,U⟩:=O;rw[B] at F;cases F
  exact⟨_,J,G,L,U⟩) S I.bare
def Inv.call(I:Inv X pins σ H s)(u:Un (frs X.stack) ch H H' s.heap h')(Z:HOk X.prog X.w H' h')(U:AllBare g')(F:∀b∈ch,(b∈X.ex\/X.s₀.heap.objs.size<=b)/\b≠X.env.locals/\(∀x c,X.env.cells.lookup x=some c->c≠b)/\∀p∈X.pn++pins,p.1≠b):
  Inv X pins σ H' { s with heap:=h',gens:=g',drawn:=d',toks:=t' }:=by
 obtain⟨m,⟨o,es,ep,G,r⟩,_⟩:=id I.loc;obtain⟨sl,B⟩:=u.any G I.free fun z=>(F _ z).2.1 rfl
 exact I.step F (fun b o B S q e n=>u.keep b o e n (fun z=>(AZ.mp (I.stkSub b z)).elim B S) q) (fun b o _ _ q e n=>u.any e n q) (fun b o q e n=>u.free b o e n q) (fun b o q e=>u.there b o e q) u.tups u.frzs u.tbls (fun m' Y=>by
  obtain⟨o',O,L,J,r'⟩:=Y;rw[G] at J;cases J
  exact⟨_,O,L,B,r'⟩) Z U
def Inv.turned(I:Inv X pins σ H s)(k:∀b o,b≠it->s.heap.get? b=some o->h'.get? b=some o)(J:H it=none)(F:it≠X.env.locals)(h1:it∈X.ex\/X.s₀.heap.objs.size<=it)(h2:∀x c,X.env.cells.lookup x=some c->c≠it)(O:∀p∈X.pn++pins,p.1≠it):Inv X pins σ H { s with heap:=h',toks:=t' }:=by
 have U:∀b u,H b=some u->b≠it:=fun b u e z=>by rw[z,J] at e;cases e
 refine I.step (g':=s.gens) (d':=s.drawn) (ch:=[it]) (fun b S=>?_) (fun b o _ _ B e _=>k b o (fun z=>B (by simp[z])) e) (fun b o _ _ B e _=>⟨o.slots,k b o (fun z=>B (by simp[z])) e⟩) (fun _ _ _ _ n=>n)
  (fun b o B e=>⟨o,k b o (fun z=>B (by simp[z])) e⟩) (fun _ _ e=>e) (fun _ _ _ e=>e) (fun b ps e=>⟨#[],by rw[e];simp⟩) (fun m G=>?_) (fun b u e=>?_) I.bare
 .grind
 .exact Gk G fun o es ep L r=>⟨o,es,ep,k _ o (Ne.symm F) L,r⟩
 .refine (I.hok b u e).stay (fun c v B q=>k c v ?_ q) (fun _ q=>q) fun _ _ q=>q
  rcases B with z | z
  .lia
  .lia
def Inv.tok(I:Inv X pins σ H s)t:Inv X pins σ H { s with toks:=t }:=I.un (h':=s.heap) (t':=t) Un.refl I.hok
def Inv.kept(I:Inv X pins σ H s)(k:∀b u,s.heap.get? b=some u->h'.get? b=some u):Inv X pins σ H { s with heap:=h',toks:=t' }:=I.un (Un.kept k) (I.hok.kept k)
def Inv.laid{a:Addr}(I:Inv X pins σ H s)(k:∀b u,s.heap.get? b=some u->h'.get? b=some u)(q:s.heap.objs.size<=a)(B:ObjOk X.prog X.w (upd H a o) h' a o):
  Inv X pins σ (upd H a o) { s with heap:=h',toks:=t' }:=I.un (Un.laid k q (I.hok.fresh q)) (I.hok.laid k q B)
def Inv.write(I:Inv X pins σ H s)(F:Mut (H x))(q:e=x\/H e=some (.own x))(k:∀b u,b≠e->s.heap.get? b=some u->h'.get? b=some u)(B:∃u,h'.get? e=some u)(G:ObjOk X.prog X.w (upd H x o) h' x o):Inv X pins σ (upd H x o) { s with heap:=h',toks:=t' }:=I.un (Un.write F q k B) (I.hok.write F q k B G)
def Inv.weak(I:Inv X pins σ H s)(J:q.length=σ.length)(w:∀(i:Nat)v,q[i]?=some (some v)->σ[i]?=some (some v)):Inv X pins q H s :=
 ⟨I.ok,I.os,I.bare,I.base,let ⟨m,O,L⟩:=I.loc;⟨m,O,fun i x v B F G=>L i x v B (w i v F) G⟩,I.cell,I.free,I.freeC,I.pin,I.hok,J.trans I.len⟩
def Inv.pins_of(I:Inv X pins σ H s)(h:∀p∈B,s.heap.get? p.1=some p.2/\H p.1=none/\p.1≠X.env.locals/\p.1∉X.fs/\∀v,p.2.data≠.cell v):Inv X B σ H s :=
 ⟨I.ok,I.os,I.bare,I.base,I.loc,I.cell,I.free,I.freeC,fun p q=>(Ad.mp q).elim (fun z=>I.pin p (A2 _ z)) (h p),I.hok,I.len⟩
def lC{N:List Str}(F:N.Nodup){j:Nat}(a:N[i]?=some x)(b:N[j]?=some x):i=j:=by
 obtain⟨h1,q⟩:=Ab.mp a;obtain⟨h2,B⟩:=Ab.mp b;exact(List.getElem_inj F).mp (q.trans B.symm)
def sT(I:Inv X pins σ H s)(hN:X.N.Nodup)(hi:X.N[i]?=some x)(G:Loc X.env.scope x)(r:RelV v u)(h:∀s',Inv X pins (σ.set i (some v)) H s'->(∃a,Heap.SameBut a s.heap s'.heap/\(a=X.env.locals\/X.env.cells.lookup x=some a))->Q () s')(ao:X.fn x=true\/X.env.scope.names.lookup x=some .local:=by first | exact .inl rfl | exact .inr rfl | assumption):wpAny M A (storeName X.env x u) Q E s:=by
 refine dQ (id I.loc) fun m hn hl=>?_;have ak:(X.env.scope.kind==.class || (X.env.scope.kind==.module&&X.env.locals != X.env.globals))=false:=by rw[I.ok.kind];rfl
 have ah:i < σ.length :=I.len▸(Ab.mp hi).1;have Y:=I.cne
 have aj:∀{a:Addr}{h':Heap},(∃o,s.heap.get? a=some o/\H a=none)->Heap.SameBut a s.heap h'->HOk X.prog X.w H h':=fun {a h'}ha hs b ob e=>by
  obtain⟨_,_,ag⟩:=ha;refine(I.hok b ob e).stay (fun c U F q=>(hs.2 c ?_).trans q) (fun _ q=>q) fun _ _ q=>q;rintro rfl
  rcases F with rfl | F
  .rw [ag] at e;cases e
  .rw [ag] at F;cases F
 rcases G with hk | hk
 .refine wpAny_storeName_local hk hn (fun h' aq hs=>Gk (id hn) fun oL _ _ ar _=>h _ ⟨I.ok,I.os,I.bare,⟨fun b o e n L G=>?_,fun b o e n L G=>?_,I.base.free,fun b o e G=>?_,I.base.tups,I.base.frzs,I.base.tbls⟩,⟨_,aq,fun j y v' B J Z=>?_⟩,fun y c e=>?_,I.free,I.freeC,fun p hp=>?_,aj ⟨oL,ar,I.free⟩ hs,by simpa using I.len⟩ ⟨_,hs,.inl rfl⟩) ak
  .exact (hs.2 b (AV (AK (AH e) I.ok.above))).trans (I.base.keep b o e n L G)
  .obtain ⟨sl,B⟩:=I.base.slot b o e n L G
   exact⟨sl,(hs.2 b (AV (AK (AH e) I.ok.above))).trans B⟩
  .obtain ⟨o',B⟩:=I.base.there b o e G
   exact⟨o',(hs.2 b (AV (AK (AH e) I.ok.above))).trans B⟩
  .by_cases hj:j=i
   .subst hj
    rw[hi] at B;cases B
    rw[Dj ah] at J;cases J;exact⟨u,r,.inl ⟨hk,by simp⟩⟩
   .rw [A9 (Ne.symm hj)] at J
    refine dQ (hl j y v' B J Z) fun u' r' q=>⟨u',r',?_⟩
    rcases q with ⟨k,e⟩ | ⟨k,c,e,z⟩
    .refine .inl ⟨k,?_⟩
     have:y≠x:=fun e=>hj (lC hN B (e▸hi))
     simp[this,e]
    .exact .inr ⟨k,c,e,z.sameBut hs (Y y c e)⟩
  .obtain ⟨U,z⟩:=I.cell y c e
   exact⟨U,z.sameBut hs (Y y c e)⟩
  .exact uR (I.pin p hp) fun e n S nf d=>⟨(hs.2 p.1 S).trans e,n,S,nf,d⟩
 .have ab:X.fn x=true:=by
   rcases ao with z | z
   .exact z
   .rw [z] at hk;cases hk
  obtain⟨c,F⟩:=I.ok.has x (.inl hk);obtain⟨U,z⟩:=I.cell x c F;refine wpAny_storeName_cell I.ok.kind hk F z (fun h' ae hs=>dQ (id z) fun oc ai au=>h { s with heap:=h' } ⟨I.ok,I.os,I.bare,⟨fun b o e n L G=>?_,fun b o e n L G=>?_,I.base.free,fun b o e G=>?_,I.base.tups,I.base.frzs,I.base.tbls⟩,⟨m,hn.sameBut hs (Ne.symm (Y x c F)),fun j y v' B J Z=>?_⟩,fun y O e=>?_,I.free,I.freeC,fun p hp=>?_,aj ⟨oc,ai,I.freeC x c F⟩ hs,by simpa using I.len⟩ ⟨c,hs,.inr F⟩)
  .exact (hs.2 b (AV (AK (AH e) (I.ok.cab x c ab F)))).trans (I.base.keep b o e n L G)
  .obtain ⟨sl,B⟩:=I.base.slot b o e n L G
   exact⟨sl,(hs.2 b (AV (AK (AH e) (I.ok.cab x c ab F)))).trans B⟩
  .obtain ⟨o',B⟩:=I.base.there b o e G
   exact⟨o',(hs.2 b (AV (AK (AH e) (I.ok.cab x c ab F)))).trans B⟩
  .by_cases hj:j=i
   .subst hj
    rw[hi] at B;cases B
    rw[Dj ah] at J;cases J;exact⟨u,r,.inr ⟨.inl hk,c,F,ae⟩⟩
   .rw [A9 (Ne.symm hj)] at J
    refine dQ (hl j y v' B J Z) fun u' r' q=>⟨u',r',?_⟩
    rcases q with q | ⟨k,O,e,z'⟩
    .exact .inl q
    .refine .inr ⟨k,O,e,z'.sameBut hs ?_⟩
     rintro rfl;exact hj (lC hN B (I.ok.inj _ _ _ e F▸hi))
  .by_cases af:O=c
   .subst af;exact⟨_,ae⟩
   .obtain ⟨w2,z2⟩:=I.cell y O e
    exact⟨w2,z2.sameBut hs af⟩
  .refine uR (I.pin p hp) fun e n S nf d=>⟨(hs.2 p.1 ?_).trans e,n,S,nf,d⟩
   intro q;rw[q,ai] at e;exact d U (by lia)
def dU(I:Inv X pins σ H s)(B:X.N.Nodup)(hi:X.N[i]?=some x)(G:Loc X.env.scope x)(r:RelV v u)(h:∀s',Inv X pins (σ.set i (some v)) H s'->Q () s')(F:X.fn x=true\/X.env.scope.names.lookup x=some .local:=by first | exact .inl rfl | exact .inr rfl | assumption):wpAny M A (storeName X.env x u) Q E s :=
 sT I B hi G r (fun s' q _=>h s' q) F
def Inv.call'(I:Inv X pins σ H s)(F:s'.os=s.os)(u:Un (frs X.stack) ch H H' s.heap s'.heap)(G:HOk X.prog X.w H' s'.heap)(B:AllBare s'.gens)(q:∀b∈ch,(b∈X.ex\/X.s₀.heap.objs.size<=b)/\b≠X.env.locals/\(∀x c,X.env.cells.lookup x=some c->c≠b)/\∀p∈X.pn++pins,p.1≠b):Inv X pins σ H' s':=by
 obtain⟨h',g',d',t',o'⟩:=s';subst F;exact I.call (g':=g') (t':=t') (d':=d') u G B q
end
abbrev XK:=Value->Option Addr->Hp->Prop
abbrev St:=List (Option V)
abbrev VK:=V->Hp->Prop
abbrev TE:=St->Hp->VK->Prop
abbrev TT:=St->Hp->(Bool->Hp->Prop)->Prop
abbrev TA:=St->Hp->(List V->Hp->Prop)->Prop
structure Ends where
 nx:St->Hp->Prop
 rt:VK
 bk:St->Hp->Prop:=fun _ _=>False
 ct:St->Hp->Prop:=fun _ _=>False
abbrev TS:=Ends->St->Hp->Prop
def EP(X:Cx)(pins:List (Addr×Obj))(σ:St)(Q:VK)(u:Value)(s':Shared):Prop:=∃v H',Inv X pins σ H' s'/\RelV v u/\Q v H'
def TP(X:Cx)(pins:List (Addr×Obj))(σ:St)(Q:Bool->Hp->Prop)(b:Bool)(s':Shared):Prop:=∃H',Inv X pins σ H' s'/\Q b H'
def AP(X:Cx)(pins:List (Addr×Obj))(σ:St)(Q:List V->Hp->Prop)(us:List Value)(s':Shared):Prop:=∃vs H',Inv X pins σ H' s'/\Vals vs us/\Q vs H'
def SP(X:Cx)(pins:List (Addr×Obj))(D:Ends)(f:Flow)(s':Shared):Prop :=
 match f with
 |.next=>∃q H',Inv X pins q H' s'/\D.nx q H'
 |.brk=>∃q H',Inv X pins q H' s'/\D.bk q H'
 |.cont=>∃q H',Inv X pins q H' s'/\D.ct q H'
 |.ret u=>∃v q H',Inv X pins q H' s'/\RelV v u/\D.rt v H'
def PE(X:Cx)(e:Expr)(t:TE):Prop :=
 ∀(pins:List (Addr×Obj))(s:Shared)(σ:St)(H:Hp)(Q:VK),Inv X pins σ H s->t σ H Q->wpAny (model X.prog X.w) X.A (eval e X.env) (EP X pins σ Q) X.xe s
def PT(X:Cx)(e:Expr)(t:TT):Prop :=
 ∀(pins:List (Addr×Obj))(s:Shared)(σ:St)(H:Hp)(Q:Bool->Hp->Prop),Inv X pins σ H s->t σ H Q->wpAny (model X.prog X.w) X.A (isTrue e X.env (eval e X.env)) (TP X pins σ Q) X.xe s
def PW(X:Cx)(e:Expr)(t:TT):Prop :=
 ∀(q:Sem Value)(pins:List (Addr×Obj))(s:Shared)(σ:St)(H:Hp)(Q:Bool->Hp->Prop),Inv X pins σ H s->t σ H Q->wpAny (model X.prog X.w) X.A (isTrue e X.env q) (TP X pins σ Q) X.xe s
def PW.pt(h:PW X e t):PT X e t:=h _
def PA(X:Cx)(es:List Expr)(t:TA):Prop :=
 ∀(pos:Pos)(pins:List (Addr×Obj))(s:Shared)(σ:St)(H:Hp)(Q:List V->Hp->Prop),Inv X pins σ H s->t σ H Q->wpAny (model X.prog X.w) X.A (spliced (backTo pos (starEach es X.env))) (AP X pins σ Q) X.xe s
def PS(X:Cx)(st:Stmt)(t:TS):Prop :=
 ∀(pins:List (Addr×Obj))(s:Shared)(σ:St)(H:Hp)(D:Ends),Inv X pins σ H s->t D σ H->wpAny (model X.prog X.w) X.A (exec st X.env) (SP X pins D) X.xe s
def PSs(X:Cx)(st:List Stmt)(t:TS):Prop :=
 ∀(pins:List (Addr×Obj))(s:Shared)(σ:St)(H:Hp)(D:Ends),Inv X pins σ H s->t D σ H->wpAny (model X.prog X.w) X.A (execs st X.env) (SP X pins D) X.xe s
theorem thn(h:wpAny M A t Q E s)(B:∀a s,Q a s->q a s):wpAny M A t q E s:=A3 h B fun _ _ x=>x
section
variable {X:Cx}
def bin(J:PE X a ta)(L:PE X b tb){σ:St}{R:V->V->Hp->Prop}(I:Inv X pins σ H s)(h:ta σ H fun x H1=>tb σ H1 fun y H2=>R x y H2){f:Value->Value->Sem α}(O:∀v u q x y H2,Inv X pins σ H2 q->RelV x v->RelV y u->R x y H2->wpAny (model X.prog X.w) X.A (f v u) Q X.xe q):
  wpAny (model X.prog X.w) X.A (eval a X.env) (fun v ab=>wpAny (model X.prog X.w) X.A (eval b X.env) (fun u ae=>wpAny (model X.prog X.w) X.A (f v u) Q X.xe ae) X.xe ab) X.xe s :=thn (J pins s σ H _ I h) fun v s1 B=>nX B fun x H1 F Y S=> thn (L pins s1 σ H1 _ F S) fun u q B=>nX B fun y H2 G Z U=> O v u q x y H2 G Y Z U
inductive IVar(i:Nat)(σ:St)(H:Hp)(Q:VK):Prop
 |mk(v:V)(h:σ[i]?=some (some v))(q:Q v H)
def tVar(i:Nat):TE:=fun σ H Q=>IVar i σ H Q
def tC(v:V):TE:=fun _ H Q=>Q v H
def mW{pos}(J:X.N[i]?=some x)(Y:Vis X.env.scope x)(B:(x==("__debug__" : Str))=false:=by decide)(L:(x==("__classdict__" : Str))=false:=by decide):PE X (.Name x pos) (tVar i):=by
 intro pins s σ H Q I h;obtain⟨v,e,h⟩:=h;refine dQ I.loc fun m U O=>dQ (O i x v J e Y) fun u r l=>?_;have q:EP X pins σ Q u s:=⟨v,H,I,r,h⟩
 rcases l with ⟨hk,S⟩ | ⟨hk,c,F,G⟩
 .exact wpAny_Name (wpAny_loadName_local I.ok.kind hk U S q) B
 .rcases hk with hk | hk
  .exact wpAny_Name (wpAny_loadName_cell I.ok.kind hk F G q) B
  .exact wpAny_Name (wpAny_loadName_free I.ok.kind hk F G q L) B
def pe_int{i j pos}:PE X (.Constant (.int i) j pos) (tC (.int i)):=fun _ _ _ H _ I h=>wpAny_Constant_int ⟨.int i,H,I.tok _,⟨_,rfl⟩,h⟩
def pe_bl{b j pos}:PE X (.Constant (.bool b) j pos) (tC (.bl b)):=fun _ _ _ H _ I h=>Constant_bool ⟨.bl b,H,I,rfl,h⟩
def W6{j pos}:PE X (.Constant .none j pos) (tC .non):=fun _ _ _ H _ I h=>Constant_none ⟨.non,H,I,rfl,h⟩
def Zw{x j pos}:PE X (.Constant (.str x) j pos) (tC (.str x)):=fun _ _ _ H _ I h=>Calls.Constant_str ⟨.str x,H,I.tok _,⟨_,rfl⟩,h⟩
def Gl(X:Cx)(x:Str):Prop:=X.env.kindOf x=some .globalImplicit
def oG{σ:St}(I:Inv X pins σ H s)(B:Gl X x)(F:X.mg x=some u)(h:Q u s)(q:(x==("__debug__" : Str))=false:=by decide):wpAny (model X.prog X.w) X.A (eval (.Name x pos) X.env) Q E s :=
 Calls.Name_function_global I.ok.kind B (Calls.loadGlobal_global (I.ok.glob▸I.mod.glob.keeps I.bk) F h) q
def rA{E}{σ:St}{pos}(I:Inv X pins σ H s)(B:Gl X x)(F:X.mg x=none)(J:bootBuiltins x=some u)(h:Q u s)(G:x ≠ "__name__":=by decide)(q:(x==("__debug__" : Str))=false:=by decide):wpAny (model X.prog X.w) X.A (eval (.Name x pos) X.env) Q E s :=dQ I.mod.blt fun L h1 h2=>Calls.Name_function_global I.ok.kind B (Calls.loadGlobal_builtin (I.ok.glob▸I.mod.glob.keeps I.bk) F (I.ok.blt▸h1.keeps I.bk) ((h2 x G).trans J) h) q
def oB(B:Gl X x)(F:X.mg x=some u)(r:RelV v u)(q:(x==("__debug__" : Str))=false:=by decide):PE X (.Name x pos) (tC v) :=
 fun _ _ _ H _ I h=>oG I B F ⟨v,H,I,r,h⟩ q
def JU{pos}(B:Gl X x)(F:X.mg x=none)(J:bootBuiltins x=some u)(r:RelV v u)(G:x ≠ "__name__":=by decide)(q:(x==("__debug__" : Str))=false:=by decide):PE X (.Name x pos) (tC v) :=
 fun _ _ _ H _ I h=>rA I B F J ⟨v,H,I,r,h⟩ G q
variable {a b:Expr}{ta tb:TE}{pos:Pos}
inductive IBl(Q:Bool->Hp->Prop)(x:V)(H:Hp):Prop
 |mk(c:Bool)(h:x=.bl c)(q:Q c H)
def tB(t:TE):TT:=fun σ H Q=>t σ H (IBl Q)
def qA(h:PE X e t)(G:∀B,isTrue e X.env B=(do let v <- B;standAt e.pos;holding [v] (truthy v)):=by intro _;rfl):PT X e (tB t):=by
 intro pins s σ H Q I J;refine isTrue_plain (thn (h pins s σ H _ I J) fun v s1 S=>nX S fun x H1 F O L=> ?_) (G _);obtain⟨d,rfl,q⟩:=L;cases O;exact Bk ⟨H1,F,q⟩
variable {tA tB':TT}{rest:List Expr}
def tAnd(t u:TT):TT:=fun σ H Q=>t σ H fun c H1=>if c=true then u σ H1 Q else Q false H1
def tOr(t u:TT):TT:=fun σ H Q=>t σ H fun c H1=>if c=true then Q true H1 else u σ H1 Q
def tNot(t:TT):TT:=fun σ H Q=>t σ H fun c H1=>Q (!c) H1
def pw_and1(q:PT X a tA):PW X (.BoolOp .And [a] pos) tA:=by
 intro B pins s σ H Q I h;refine isTrue_and (thn (q pins s σ H Q I h) fun c s1 e=>?_)
 cases c with
 |true=>exact isTrue_and_nil e
 |false=>exact e
def WN(q:PT X a tA):PW X (.BoolOp .Or [a] pos) tA:=by
 intro B pins s σ H Q I h;refine isTrue_or (thn (q pins s σ H Q I h) fun c s1 e=>?_)
 cases c with
 |false=>exact isTrue_or_nil e
 |true=>exact e
def pw_and(F:PT X a tA)(G:PW X (.BoolOp .And (b::rest) pos) tB'):PW X (.BoolOp .And (a::b::rest) pos) (tAnd tA tB'):=by
 intro J pins s σ H Q I h;refine isTrue_and (thn (F pins s σ H _ I h) fun c s1 L=>dQ L fun H1 q B=> ?_)
 cases c with
 |true=>exact G J pins s1 σ H1 Q q B
 |false=>exact⟨H1,q,B⟩
def pw_or(F:PT X a tA)(G:PW X (.BoolOp .Or (b::rest) pos) tB'):PW X (.BoolOp .Or (a::b::rest) pos) (tOr tA tB'):=by
 intro J pins s σ H Q I h;refine isTrue_or (thn (F pins s σ H _ I h) fun c s1 L=>dQ L fun H1 q B=> ?_)
 cases c with
 |true=>exact⟨H1,q,B⟩
 |false=>exact G J pins s1 σ H1 Q q B
def Zp(q:PT X a tA):PT X (.UnaryOp .Not a pos) (tNot tA):=by
 intro pins s σ H Q I h;exact isTrue_not (q pins s σ H (fun c H1=>Q (!c) H1) I h)
def tAndV(ta tb:TE):TE:=fun σ H Q=>ta σ H fun x H1=>∃c,x=.bl c/\if c=true then tb σ H1 Q else Q (.bl false) H1
def pe_one{op}(h:PE X a t):PE X (.BoolOp op [a] pos) t:=fun pins s σ H Q I q=>BoolOp_one (h pins s σ H Q I q)
def pe_and(F:PE X a ta)(G:PE X (.BoolOp .And (b::rest) pos) tb):PE X (.BoolOp .And (a::b::rest) pos) (tAndV ta tb):=by
 intro pins s σ H Q I h;refine BoolOp_and (thn (F pins s σ H _ I h) fun v s1 L=>nX L fun x H1 B J q=> ?_);obtain⟨c,rfl,q⟩:=q;cases J
 apply Bk
 cases c with
 |true=>exact G pins s1 σ H1 Q B q
 |false=>exact⟨.bl false,H1,B,rfl,q⟩
def tIf(t:TT)(ta tb:TE):TE:=fun σ H Q=>t σ H fun c H1=>if c=true then ta σ H1 Q else tb σ H1 Q
def W8(J:PT X c tA)(F:PE X a ta)(G:PE X b tb):PE X (.IfExp c a b pos) (tIf tA ta tb):=by
 intro pins s σ H Q I h;refine wpAny_IfExp (thn (J pins s σ H _ I h) fun d s1 L=>dQ L fun H1 q B=> ?_)
 cases d with
 |true=>exact F pins s1 σ H1 Q q B
 |false=>exact G pins s1 σ H1 Q q B
end
def SqL(K:Ds)(H:Hp)(a:Addr)(xs:List V):Prop :=
 Rd H a (.lst xs) \/
  ∃(o:Obj)(q:Array Value)(n:Nat),K.lookup a=some o/\o.cls=.type "list"/\o.dict=none/\o.data=.seq q n/\q.size<=sizeLine/\Vals xs q.toList
def SqT(K:Ds)(H:Hp)(a:Addr)(xs:List V):Prop :=
 Rd H a (.tup xs) \/
  ∃(o:Obj)(q:Array Value)(n:Nat),K.lookup a=some o/\o.cls=.type "tuple"/\o.data=.seq q n/\q.size<=sizeLine/\Vals xs q.toList
noncomputable def absV:Value->Option V
 |.none=>some .non
 |.bool b=>some (.bl b)
 |.int i _=>some (.int i)
 |.str x _=>some (.str x)
 |.bytes b _=>some (.byt b)
 |.float b _=>some (.flt b)
 |.ref a=>some (.ref a)
 |.type n=>some (.ty n)
 |_=>none
def RelV.abs(r:RelV x u):absV u=some x:=by
 cases x with
 |non=>cases r;rfl
 |bl _=>cases r;rfl
 |int _=>obtain⟨t,rfl⟩:=r;rfl
 |str _=>obtain⟨t,rfl⟩:=r;rfl
 |byt _=>obtain⟨t,rfl⟩:=r;rfl
 |flt _=>obtain⟨t,rfl⟩:=r;rfl
 |ref _=>cases r;rfl
 |ty _=>cases r;rfl
def RelV.inj(r:RelV x u)(q:RelV y u):x=y:=Au (r.abs.symm.trans q.abs)
theorem Vals.inj:∀{xs ys}{us},Vals xs us->Vals ys us->xs=ys
 |_,_,_,.nil,.nil=>rfl
 |_,_,_,.cons r t,.cons q t'=>by rw[r.inj q,Vals.inj t t']
section
variable {X:Cx}{pins:List (Addr×Obj)}{σ:St}{H:Hp}{s:Shared}{a:Addr}{xs ys:List V}
def SqL.of{K}(h:H a=some (.lst xs)):SqL K H a xs:=.inl (.inl h)
def SqT.of{K}(h:H a=some (.tup xs)):SqT K H a xs:=.inl (.inl h)
def Inv.list(I:Inv X pins σ H s)(h:SqL X.K H a xs):∃q,Vals xs q/\PlainL s.heap a q.toArray/\xs.length<=sizeLine:=by
 rcases h with h | ⟨o,q,n,hk,B,F,hs,G,r⟩
 .obtain ⟨z,q,n,r,e⟩:=h.ok I.hok
  exact⟨q,r,⟨_,n,e,rfl,rfl,rfl⟩,z⟩
 .refine ⟨q.toList,r,⟨o,n,I.kIn a o hk,B,F,by simpa using hs⟩,?_⟩
  have e:=r.length
  simp only[Array.length_toList] at e
  lia
def Inv.tuple(I:Inv X pins σ H s)(h:SqT X.K H a xs):∃q,Vals xs q/\IsTup s.heap a q.toArray/\xs.length<=sizeLine:=by
 rcases h with h | ⟨o,q,n,hk,B,hs,F,r⟩
 .obtain ⟨z,q,r,p⟩:=h.ok I.hok
  exact⟨q,r,jt.is p,z⟩
 .refine ⟨q.toList,r,⟨o,I.kIn a o hk,B,n,by simpa using hs⟩,?_⟩
  have e:=r.length
  simp only[Array.length_toList] at e
  lia
def Inv.list_inj(I:Inv X pins σ H s)(h:SqL X.K H a xs)(h':SqL X.K H a ys):xs=ys:=by
 obtain⟨B,r,⟨o,n,e,_,_,d⟩,_⟩:=I.list h;obtain⟨its',F,⟨o',G,q,_,_,d'⟩,_⟩:=I.list h';rw[e] at q;cases q
 rw[d] at d';injection d' with d1 _
 have:B=its' :=by lia
 subst this;exact r.inj F
def Inv.tuple_inj(I:Inv X pins σ H s)(h:SqT X.K H a xs)(h':SqT X.K H a ys):xs=ys:=by
 obtain⟨B,r,⟨o,e,_,n,d⟩,_⟩:=I.tuple h;obtain⟨its',F,⟨o',q,_,G,d'⟩,_⟩:=I.tuple h';rw[e] at q;cases q
 rw[d] at d';injection d' with d1 _
 have:B=its' :=by lia
 subst this;exact r.inj F
end
abbrev Cx.wish(X:Cx)(E:Value->Shared->Prop):Cx:={ X with xe:=E }
abbrev Cx.nox(X:Cx):Cx:=X.wish fun _ _=>False
def Cx.Ok.wish{X:Cx}(q:X.Ok)E:(X.wish E).Ok :=
 ⟨q.mod,q.kind,q.glob,q.blt,q.above,q.inj,q.has,q.cab,q.hd,q.frames,q.stk,q.exf,q.bs,q.bsz,q.noex,q.exfs,q.funs,q.frf⟩
def Cx.Ok.unwish{X:Cx}(q:(X.wish E).Ok):X.Ok :=
 ⟨q.mod,q.kind,q.glob,q.blt,q.above,q.inj,q.has,q.cab,q.hd,q.frames,q.stk,q.exf,q.bs,q.bsz,q.noex,q.exfs,q.funs,q.frf⟩
section
variable {X:Cx}{pins:List (Addr×Obj)}{σ:St}{H:Hp}{s:Shared}{E:Value->Shared->Prop}
def Inv.wish(I:Inv X pins σ H s)E:Inv (X.wish E) pins σ H s:=⟨I.ok.wish E,I.os,I.bare,I.base,I.loc,I.cell,I.free,I.freeC,I.pin,I.hok,I.len⟩
def Inv.unwish(I:Inv (X.wish E) pins σ H s):Inv X pins σ H s:=⟨I.ok.unwish,I.os,I.bare,I.base,I.loc,I.cell,I.free,I.freeC,I.pin,I.hok,I.len⟩
def SP.unwish(h:SP (X.wish E) pins D f s'):SP X pins D f s':=by
 cases f with
 |next=>obtain⟨B,H',I,q⟩:=h;exact⟨B,H',I.unwish,q⟩
 |brk=>obtain⟨B,H',I,q⟩:=h;exact⟨B,H',I.unwish,q⟩
 |cont=>obtain⟨B,H',I,q⟩:=h;exact⟨B,H',I.unwish,q⟩
 |ret u=>exact fM h fun v B H' I r q=>⟨v,B,H',I.unwish,r,q⟩
def PT.nox(h:PT X.nox e t):PT X e t:=fun pins s σ H Q I F=>
 A3 (h pins s σ H Q (I.wish _) F) (fun _ _ G=>dQ G fun H' B q=> ⟨H',B.unwish,q⟩) fun _ _ z=>False.elim z
def PSs.nox{st}(h:PSs X.nox st t):PSs X st t:=fun pins s σ H D I B=>
 A3 (h pins s σ H D (I.wish _) B) (fun _ _ q=>q.unwish) fun _ _ z=>False.elim z
end
section
variable {X:Cx}{st:Stmt}{rest:List Stmt}{t u:TS}{e:Expr}{te:TE}{pos:Pos}
def tNext:TS:=fun D σ H=>D.nx σ H
def tSeq(t u:TS):TS:=fun D σ H=>t { D with nx:=u D } σ H
def oH:PSs X [] tNext:=fun _ _ σ H _ I h=>Cd ⟨σ,H,I,h⟩
def tJ(h1:PS X st t)(h2:PSs X rest u):PSs X (st::rest) (tSeq t u):=by
 intro pins s σ H D I h;refine wpAny_execs_cons (thn (h1 pins s σ H { D with nx:=u D } I h) fun f s1 q=>?_)
 cases f with
 |next =>
  exact bG q fun F H' B q=>h2 pins s1 F H' D B q
 |ret v=>exact q
 |brk=>exact q
 |cont=>exact q
def rB(h1:PS X st t):PSs X [st] t:=by
 intro pins s σ H D I h;refine wpAny_execs_cons (thn (h1 pins s σ H D I h) fun f s1 q=>?_)
 cases f with
 |next=>exact Cd q
 |ret v=>exact q
 |brk=>exact q
 |cont=>exact q
def Inv.quiet{σ:St}(I:Inv X pins σ H s):interactive X.env=false :=by simp[interactive,I.ok.kind]
def tDrop(te:TE):TS:=fun D σ H=>te σ H fun _ H1=>D.nx σ H1
def JN(B:PE X e te)(hs:swapsWith e none pos.line X.env=pure false:=by rfl):PS X (.Expr e pos) (tDrop te):=by
 intro pins s σ H D I h;exact wpAny_Expr_any (thn (B pins s σ H _ I h) fun v s1 G=>nX G fun x H1 q J F=> ⟨σ,H1,q,F⟩) I.quiet hs
def tRet(te:TE):TS:=fun D σ H=>te σ H D.rt
def Zr(B:PE X e te):PS X (.Return (some e) pos) (tRet te):=by
 intro pins s σ H D I h;exact wpAny_Return_some (thn (B pins s σ H _ I h) fun v s1 J=>nX J fun x H1 q G F=> ⟨x,σ,H1,q,G,F⟩)
def tIfS(c:TT)(t u:TS):TS:=fun D σ H=>c σ H fun b H1=>if b=true then t D σ H1 else u D σ H1
def JM(J:PT X c tc)(F:PSs X a t)(G:PSs X b u):PS X (.If c a b pos) (tIfS tc t u):=by
 intro pins s σ H D I h;refine wpAny_If (thn (J pins s σ H _ I h) fun d s1 L=>dQ L fun H1 q B=> ?_)
 cases d with
 |true=>exact F pins s1 σ H1 D q B
 |false=>exact G pins s1 σ H1 D q B
def tNever:TS:=fun _ _ _=>False
def qO: PSs X sts tNever:=fun _ _ _ _ _ _ h=>h.elim
end
abbrev TG:=V->St->Hp->(St->Hp->Prop)->Prop
abbrev TGs:=List V->St->Hp->(St->Hp->Prop)->Prop
def PG(X:Cx)(B:Expr)(t:TG):Prop :=
 ∀(pins:List (Addr×Obj))(s:Shared)(σ:St)(H:Hp)(v:V)(u:Value)(Q:St->Hp->Prop),Inv X pins σ H s->RelV v u->t v σ H Q ->
  wpAny (model X.prog X.w) X.A (assign B X.env u) (fun _ s'=>∃q H',Inv X pins q H' s'/\Q q H') X.xe s
def PGs(X:Cx)(ts:List Expr)(t:TGs):Prop :=
 ∀(pins:List (Addr×Obj))(s:Shared)(σ:St)(H:Hp)(vs:List V)(us:List Value)(Q:St->Hp->Prop),Inv X pins σ H s->Vals vs us->t vs σ H Q ->
  wpAny (model X.prog X.w) X.A (assignInOrder ((assignEach ts X.env).map (·.2)) us) (fun _ s'=>∃q H',Inv X pins q H' s'/\Q q H') X.xe s
abbrev TSet:=V->V->V->Hp->(Hp->Prop)->Prop
def PSet(X:Cx)(t:TSet):Prop :=
 ∀(pins:List (Addr×Obj))(s:Shared)(σ:St)(H:Hp)(o i v:V)(B q u:Value)(Q:Hp->Prop),Inv X pins σ H s->RelV o B->RelV i q->RelV v u->t o i v H Q ->
  wpAny (model X.prog X.w) X.A (setItem B q u) (fun _ s'=>∃H',Inv X pins σ H' s'/\Q H') X.xe s
section
variable {X:Cx}{pos:Pos}
def nM(i:Nat):TG:=fun v σ H Q=>Q (σ.set i (some v)) H
def zD(B:X.N.Nodup)(hi:X.N[i]?=some x)(G:Loc X.env.scope x)(F:X.fn x=true\/X.env.scope.names.lookup x=some .local:=by first | exact .inl rfl | exact .inr rfl | assumption):PG X (.Name x pos) (nM i):=by
 intro pins s σ H v u Q I r h;exact wpAny_assign_Name (dU I B hi G r (fun s' q=>⟨_,H,q,h⟩) F)
def gNil:TGs:=fun vs σ H Q=>vs=[]/\Q σ H
def oO(t:TG)(u:TGs):TGs:=fun vs σ H Q=>∃v r,vs=v::r/\t v σ H fun q H'=>u r q H' Q
def JQ:PGs X [] gNil:=by
 intro pins s σ H vs us Q I r h;obtain⟨rfl,h⟩:=h;cases r;exact assignInOrder_nil ⟨σ,H,I,h⟩
def yC(h1:PG X e t)(h2:PGs X es u)(hs:(assignEach (e::es) X.env).map (·.2)=assign e X.env::(assignEach es X.env).map (·.2):=by rfl):PGs X (e::es) (oO t u):=by
 intro pins s σ H vs us Q I r h;obtain⟨v,J,rfl,h⟩:=h
 cases r with
 |cons r rr =>
  exact hs▸assignInOrder_cons (thn (h1 pins s σ H _ _ _ I r h) fun _ s1 F=>bG F fun G H1 q B=> h2 pins s1 G H1 _ _ Q q rr B)
def gTup(K:Ds)(n:Nat)(t:TGs):TG:=fun v σ H Q=>∃a xs,v=.ref a/\SqT K H a xs/\xs.length=n/\t xs σ H Q
def W2{k}(F:X.calm=true)(h:PGs X es t)(J:(assignEach es X.env).length=n:=by rfl)(O:(assignEach es X.env).findIdx? (·.1)=none:=by rfl):PG X (.Tuple es k pos) (gTup X.K n t):=by
 intro pins s σ H v u Q I r q;obtain⟨a,xs,rfl,L,G,q⟩:=q;cases r;refine xZ (I.tuple L) fun ab Y S Z=>assign_Tuple_tuple (I.ok.hd F) S (by simp[J,<- G,Y.length]) O fun h' U=>?_;have B:=I.kept (t':=s.toks) fun b o e=>U b o (AV (AH e)) e;exact h pins _ σ H xs _ Q B (by lia) q
def gSub(to B:TE)(t:TSet):TG:=fun v σ H Q=>to σ H fun o H1=>B σ H1 fun i H2=>t o i v H2 fun q=>Q σ q
def pg_sub(S:PE X o to)(hi:PE X i ti)(hs:PSet X t)(ha:∀v,assign (.Subscript o i pos) X.env v=(do
   let q <- holding [v] (eval o X.env)
   let B <- holding [v,q] (eval i X.env)
   standAt pos
   holding [v,q,B] (setItem q B v)
   release [v,q,B] []):=by intro _;rfl):PG X (.Subscript o i pos) (gSub to ti t):=by
 intro pins s σ H v u Q I r h;exact AA (As (thn (S pins s σ H _ I h) fun q s1 F=>nX F fun x H1 J r1 U=> AA (As (thn (hi pins s1 σ H1 _ J U) fun B ab F=>nX F fun y H2 L r2 Y=> AA (B4 (AA (As (thn (hs pins ab σ H2 x y v q B u _ L r1 r2 r Y) fun _ ae F=>dQ F fun G O Z=> wpAny_release ⟨σ,G,O,Z⟩))))))))
def tAsg(te:TE)(g:TG):TS:=fun D σ H=>te σ H fun x H1=>g x σ H1 D.nx
def ps_asg(F:PE X e te)(G:PG X tg g)(hs:swapsWithSole [tg] e pos.line X.env=pure false:=by rfl)(J:swappedStores [tg] e X.env=pure none:=by rfl)(h1:(assignEach [tg] X.env).map (·.2)=[assign tg X.env]:=by rfl):PS X (.Assign [tg] e pos) (tAsg te g):=by
 intro pins s σ H D I h;refine wpAny_Assign_stores (thn (F pins s σ H _ I h) fun v s1 S=>nX S fun x H1 B O L=> ?_) hs J;rw[h1];exact thn (G pins s1 σ H1 x v _ B O L) fun _ U q=>q
def Zq(F:X.N.Nodup)(hi:X.N[i]?=some x)(L:Loc X.env.scope x)(G:PE X e te)(hs:swapsWith e (some (.Name x pos')) pos.line X.env=pure false:=by rfl)(J:X.fn x=true\/X.env.scope.names.lookup x=some .local:=by first | exact .inl rfl | exact .inr rfl | assumption):
  PS X (.Assign [.Name x pos'] e pos) (tAsg te (nM i)):=by
 intro pins s σ H D I h;exact wpAny_Assign_Name (thn (G pins s σ H _ I h) fun v s1 U=>nX U fun y H1 q S O=> dU q F hi L S (fun Y B=>⟨_,H1,B,O⟩) J) hs
def tWhile(c:TT)(tb:TS):TS:=fun D σ H=>∃W:Nat->St->Hp->Prop,(∃m,W m σ H)/\∀m σ H,W m σ H ->
 c σ H fun b H1=>if b=true then ∃N:St->Hp->Prop,(∀B H',N B H'->∃q,q < m/\W q B H')/\tb { D with nx:=N,ct:=N,bk:=D.nx } σ H1 else D.nx σ H1
def WT(hp:PassesOwn (model X.prog X.w) X.A X.env X.xe)(hc:PT X c tc)(hb:PSs X af tb):PS X (.While c af [] pos) (tWhile tc tb):=by
 intro pins s σ H D ae h;obtain⟨W,⟨ag,w0⟩,ai⟩:=h;refine wpAny_While (codeAny_whileLoop (fun n s'=>∃ab H',Inv X pins ab H' s'/\W n ab H') ?_ ag ⟨σ,H,ae,w0⟩);rintro n s1 ⟨I,H1,I1,w1⟩;refine B2 hp (thn (hc pins s1 I H1 _ I1 (ai n I H1 w1)) fun b ah zz=>dQ zz fun H2 Y F=> ?_)
 cases b with
 |true =>
  refine dQ F fun N Z F=>B2 hp (thn (hb pins ah I H2 _ Y F) fun f aj G=>?_)
  cases f with
  |next =>
   obtain⟨B,q,J,S⟩:=G;obtain⟨O,L,U⟩:=Z B q S;exact⟨O,L,B,q,J,U⟩
  |cont =>
   obtain⟨B,q,J,S⟩:=G;obtain⟨O,L,U⟩:=Z B q S;exact⟨O,L,B,q,J,U⟩
  |brk=>exact G
  |ret v=>exact G
 |false =>
  exact(Af AN)▸Cd ⟨I,H2,Y,F⟩
end
structure It where
 go:Nat->Hp->Prop
 yld:Nat->Hp->V->Hp->Prop
 stop:Nat->Hp->Prop
def X4(X:Cx)(pins:List (Addr×Obj))(H:Hp)(b:Addr):Prop :=
 H b=none/\b≠X.env.locals/\b∉X.fs/\(b∈X.ex\/X.s₀.heap.objs.size<=b)/\(∀x c,X.env.cells.lookup x=some c->c≠b)/\∀p∈X.pn++pins,p.1≠b
def Inv.fpOk{σ:St}{b:Addr}(I:Inv X pins σ H s)(B:s.heap.objs.size<=b)(F:H' b=none):X4 X pins H' b:=by
 refine⟨F,Ay (AK I.lt B),I.nofs B,.inr (AY I.sz B),fun x c e z=>?_,fun p G z=>?_⟩
 .obtain ⟨v,q⟩:=I.cell x c e
  exact absurd (AK q.lt (by rwa [z])) (A7 _)
 .exact absurd (AK (AH (I.pin p G).1) (by rwa [z])) (A7 _)
structure Uj(P:Program)(w:World)(K:Ds)(tg:Expr)(J:It)(fp:List Addr)(it:Addr)(tn:Nat->Heap->Prop):Prop where
 mem:it∈fp
 obj:∀i h,tn i h->∀b∈fp,∃o,h.get? b=some o/\∀v,o.data≠.cell v
 keep:∀i h h',tn i h->(∀b∈fp,∀o,h.get? b=some o->h'.get? b=some o)->tn i h'
 item:∀(X:Cx),X.prog=P->X.w=w->X.K=K->X.calm=true->∀(i:Nat)(pins:List (Addr×Obj))(s:Shared)(σ:St)(H:Hp)(E:Value->Shared->Prop),Inv X pins σ H s->(∀b∈fp,X4 X pins H b)->tn i s.heap->J.go i H ->
  wpAny (model P w) X.A (pyNext (.ref it)) (fun r s1=>∃u,r=some u /\
   wpAny (model P w) X.A (letOwnedTupleGo tg (.ref it) u) (fun _ s2=>∃x H',Inv X pins σ H' s2/\RelV x u/\J.yld i H x H'/\tn (i+1) s2.heap/\∀b∈fp,H' b=none) E s1) E s
 done:∀(X:Cx),X.prog=P->X.w=w->X.K=K->X.calm=true->∀(i:Nat)(pins:List (Addr×Obj))(s:Shared)(σ:St)(H:Hp)(E:Value->Shared->Prop),Inv X pins σ H s->(∀b∈fp,X4 X pins H b)->tn i s.heap->J.stop i H ->
  wpAny (model P w) X.A (pyNext (.ref it)) (fun r s1=>r=none/\Inv X pins σ H s1) E s
 self:∀(A:Around)(i:Nat)(s:Shared)(Q:Value->Shared->Prop)(E:Value->Shared->Prop),tn i s.heap->Q (.ref it) s->wpAny (model P w) A (pyIter (.ref it)) Q E s
abbrev TI:=St->Hp->(It->Hp->Prop)->Prop
def PIE(X:Cx)(pins:List (Addr×Obj))(σ:St)(tg:Expr)(R:It->Hp->Prop)(G:Value)(B:Shared):Prop :=
 ∃(it:Addr)(q:List Addr)(F:Nat->Heap->Prop)(J:It)(H':Hp),G=.ref it/\Inv X pins σ H' B/\Uj X.prog X.w X.K tg J q it F/\F 0 B.heap/\(∀b∈q,X4 X pins H' b)/\R J H'
def PI(X:Cx)(tg q:Expr)(B:TI):Prop :=
 ∀(pins:List (Addr×Obj))(s:Shared)(σ:St)(H:Hp)(R:It->Hp->Prop),Inv X pins σ H s->B σ H R ->
  wpAny (model X.prog X.w) X.A (eval q X.env) (fun v s1=>wpAny (model X.prog X.w) X.A (pyIter v) (PIE X pins σ tg R) X.xe s1) X.xe s
def Y0(G:s.heap.get? it=some o)(B:o.cls=.type n)(F:o.data=.fields vs)(I:["enumerate","zip","dict_itemiterator","dict_reverseitemiterator","odict_iterator","itertools.zip_longest","itertools.pairwise"].contains n=false)(q:Q () s):wpAny M A (letOwnedTupleGo tg (.ref it) u) Q E s:=by
 cases tg<;>first
  |exact AD q
  | (cases u<;>first
    |exact AD q
    | (refine AA (wpAny_load G ?_)
       rw[B,F];show wpAny M A (if (["enumerate","zip","dict_itemiterator","dict_reverseitemiterator","odict_iterator","itertools.zip_longest","itertools.pairwise"].contains n&&vs[0]?==some (rawInt _))=true then _ else _) Q E s;rw[Af (by lia)]
       exact AD q))
def Itl(K:Ds)(a:Addr):It :=
 ⟨fun i H=>∃xs x,SqL K H a xs/\xs[i]?=some x,fun i H x H'=>H'=H/\∀xs,SqL K H a xs->xs[i]?=some x,fun i H=>∃xs,SqL K H a xs/\xs.length<=i⟩
noncomputable def Itt(K:Ds)(a:Addr):It :=
 ⟨fun i H=>∃xs x,SqT K H a xs/\xs[i]?=some x,fun i H x H'=>H'=H/\∀xs,SqT K H a xs->xs[i]?=some x,fun i H=>∃xs,SqT K H a xs/\xs.length<=i⟩
def Itr(lo:Int)(n:Nat):It:=⟨fun i _=>i < n,fun i H x H'=>H'=H/\x=.int (lo+i),fun i _=>n<=i⟩
def KQ{K}a it:Uj P w K tg (Itl K a) [it] it (fun i h=>h.IsListIter it a i) where
 mem:=by simp
 obj:=fun i h st b q=>by
  have e:b=it :=by grind
  subst e;exact xZ st fun o e c d=>⟨o,e,fun v z=>by rw[d] at z;cases z⟩
 keep:=fun i h h' st k=>st.at fun o e=>k it (by simp) o e
 item:=by
  intro X U Z S hc i pins s σ H E I B st Y;subst U Z S;refine bG Y fun xs x F hx=>xZ (I.list F) fun ae rv p hz=>dQ (rv.get hx) fun u hu ru=>VE (B it (by simp)) fun f0 G ab J L O=>?_;refine wpAny_pyNext_list_item st p.isList (by simpa using hu) fun h' st' sb=>?_;have I1:=I.turned (t':=s.toks) (fun b o q e=>(sb.2 b q).trans e) f0 G J L O;exact xZ (id st') fun o e c d=>⟨u,rfl,Y0 e c d rfl ⟨x,H,I1,ru,⟨rfl,fun ys hy=>by rwa [I.list_inj hy F]⟩,st',fun b q=>(B b q).1⟩⟩
 done:=by
  intro X U Z S hc i pins s σ H E I B st Y;subst U Z S;refine dQ Y fun xs F hx=>xZ (I.list F) fun ae rv p hz=>VE (B it (by simp)) fun f0 G ab J L O=>?_;have hl:=rv.length;exact wpAny_pyNext_list_end (I.ok.hd hc) st p.isList (by simp;lia) fun h' eb=>⟨rfl,I.turned (t':=s.toks) (fun b o q e=>eb b o q e) f0 G J L O⟩
 self:=fun _ _ _ _ _ st h=>wpAny_pyIter_listiter st h
def Za{K}a it:Uj P w K tg (Itt K a) [it] it (fun i h=>h.IsTupleIter it a i) where
 mem:=by simp
 obj:=fun i h st b q=>by
  have e:b=it :=by grind
  subst e;exact xZ st fun o e c d=>⟨o,e,fun v z=>by rw[d] at z;cases z⟩
 keep:=fun i h h' st k=>st.at fun o e=>k it (by simp) o e
 item:=by
  intro X U Z S hc i pins s σ H E I B st Y;subst U Z S;refine bG Y fun xs x F hx=>xZ (I.tuple F) fun ae rv p hz=>dQ (rv.get hx) fun u hu ru=>VE (B it (by simp)) fun f0 G ab J L O=>?_;refine DX st p (by simpa using hu) fun h' st' sb=>?_;have I1:=I.turned (t':=s.toks) (fun b o q e=>(sb.2 b q).trans e) f0 G J L O;exact xZ (id st') fun o e c d=>⟨u,rfl,Y0 e c d rfl ⟨x,H,I1,ru,⟨rfl,fun ys hy=>by rwa [I.tuple_inj hy F]⟩,st',fun b q=>(B b q).1⟩⟩
 done:=by
  intro X U Z S hc i pins s σ H E I B st Y;subst U Z S;refine dQ Y fun xs F hx=>xZ (I.tuple F) fun ae rv p hz=>VE (B it (by simp)) fun f0 G ab J L O=>?_;have hl:=rv.length;exact Dc (I.ok.hd hc) st p (by grind) fun h' eb=>⟨rfl,I.turned (t':=s.toks) (fun b o q e=>eb b o q e) f0 G J L O⟩
 self:=fun _ _ _ _ _ st h=>wpAny_pyIter_tupleiter st h
def Zb{K}it lo n:Uj P w K tg (Itr lo n) [it] it (fun i h=>IsRangeIter h it (lo+i * 1) ( n - i ) 1) where
 mem:=by simp
 obj:=fun i h st b q=>by
  have e:b=it :=by grind
  subst e
  exact⟨_,st,fun v z=>by
   cases z⟩
 keep:=fun i h h' st k=>k it (by simp) _ st
 item:=by
  intro X Y Z U O i pins s σ H E I B st S;subst Y Z U;refine VE (B it (by simp)) fun f0 F ab G J L=>?_;have W:=Walks.range (prog:=X.prog) (w:=X.w) (I.ok.hd O) it lo 1 n;refine W.item i s _ _ S st fun v h' tk hv st' kk=>?_;obtain⟨t,rfl⟩:=hv;have I1:Inv X pins σ H { s with heap:=h',toks:=tk }:=I.turned (fun b o q e=>kk b o (by grind) e) f0 F G J L;refine⟨_,rfl,Y0 st' rfl rfl rfl ⟨.int (lo+i),H,I1,⟨t,?_⟩,⟨rfl,rfl⟩,st',fun b q=>(B b q).1⟩⟩
  rw[Int.mul_one]
 done:=by
  intro X Y Z U O i pins s σ H E I B st S;refine VE (B it (by simp)) fun f0 F ab G J L=>?_;exact wpAny_pyNext_range_end (I.ok.hd O) st (by have:n<=i:=S;lia) fun h' eb=>⟨rfl,I.turned (t':=s.toks) (fun b o q e=>eb b o q e) f0 F G J L⟩
 self:=fun _ _ _ _ _ st h=>wpAny_pyIter_rangeiter st h
section
variable {X:Cx}{tg:Expr}
def iList(K:Ds)(tl:TE):TI:=fun σ H R=>tl σ H fun x H1=>∃a,x=.ref a/\(∃xs,SqL K H1 a xs)/\R (Itl K a) H1
def iTup(K:Ds)(tl:TE):TI:=fun σ H R=>tl σ H fun x H1=>∃a,x=.ref a/\(∃xs,SqT K H1 a xs)/\R (Itt K a) H1
def jA(F:PE X l tl):PI X tg l (iList X.K tl):=by
 intro pins s σ H R I h;refine thn (F pins s σ H _ I h) fun v s1 O=>nX O fun x H1 B L J=> ?_;obtain⟨a,e,⟨xs,G⟩,q⟩:=J;subst e;cases L;refine xZ (B.list G) fun Y Z p U=>wpAny_pyIter_list p.isList ⟨s1.heap.objs.size,[s1.heap.objs.size],_,_,H1,rfl,B.kept (t':=s1.toks) fun b o e=>AC _ e,KQ a _,⟨_,AL _ rfl,rfl,rfl⟩,fun b S=>?_,q⟩;have e:b=s1.heap.objs.size :=by grind
 subst e;exact B.fpOk (AI _) (B.hok.fresh (AI _))
def W1(F:PE X l tl):PI X tg l (iTup X.K tl):=by
 intro pins s σ H R I h;refine thn (F pins s σ H _ I h) fun v s1 O=>nX O fun x H1 B L J=> ?_;obtain⟨a,e,⟨xs,G⟩,q⟩:=J;subst e;cases L;refine xZ (B.tuple G) fun Y Z p U=>wpAny_pyIter_tuple p ⟨s1.heap.objs.size,[s1.heap.objs.size],_,_,H1,rfl,B.kept (t':=s1.toks) fun b o e=>AC _ e,Za a _,⟨_,AL _ rfl,rfl,rfl⟩,fun b S=>?_,q⟩;have e:b=s1.heap.objs.size :=by grind
 subst e;exact B.fpOk (AI _) (B.hok.fresh (AI _))
def WJ{σ:St}{lo}(I:Inv X pins σ H s)(h1 : -(2 ^ 62)<=lo)(h2:lo < 2 ^ 62)(J : -(2 ^ 62)<=hi)(L:hi < 2 ^ 62)(q:R (Itr lo (hi - lo).toNat) H):wpAny (model X.prog X.w) X.A (pyIter (.ref s.heap.objs.size)) (PIE X pins σ tg R) E { s with heap:=s.heap.push { cls:=.type "range",data:=.fields #[.int lo t,.int hi u,.int 1 v] },toks:=tk }:=by
 apply wpAny_pyIter_range (IsRange.new ..) (small_one h1 h2 J L)
 have B:Inv X pins σ H { s with heap:=s.heap.push { cls:=.type "range",data:=.fields #[.int lo t,.int hi u,.int 1 v] },toks:=tk }:=I.kept fun b o e=>AC _ e
 refine⟨(s.heap.push { cls:=.type "range",data:=.fields #[.int lo t,.int hi u,.int 1 v] }).objs.size,[(s.heap.push { cls:=.type "range",data:=.fields #[.int lo t,.int hi u,.int 1 v] }).objs.size],_,_,H,rfl,
  B.kept (t':=tk) fun b o e=>AC _ e,Zb _ lo (hi - lo).toNat,?_,fun b O=>?_,q⟩
 .have F:lo+((0:Nat):Int) * 1=lo:=by simp
  have G:(((hi - lo).toNat:Nat):Int) - ((0:Nat):Int)=Builtin.Range.rangeSize lo hi 1:=by rw[rangeSize_one];split<;>lia
  rw[F,G];exact AL _ rfl
 .have e:b=(s.heap.push { cls:=.type "range",data:=.fields #[.int lo t,.int hi u,.int 1 v] }).objs.size :=by grind
  subst e;exact B.fpOk (AI _) (B.hok.fresh (AI _))
def iRng1(ta:TA):TI:=fun σ H R=>ta σ H fun vs H1=>∃j:Int,vs=[.int j]/\-(2 ^ 62)<=j/\j < 2 ^ 62/\R (Itr 0 j.toNat) H1
def xO(J:Gl X "range")(L:X.mg "range" = none)(G:PA X [a] ta)(hs:starEach [a] X.env=[(false,eval a X.env)]:=by rfl):PI X tg (.Call (.Name "range" p) [a] [] pos) (iRng1 ta):=by
 intro pins s σ H R I h;refine Call_ (rA I J L boot_range (PyProof.Rows.callWith_type1 (thn (G pos pins s σ H _ I h) fun us s1 U=>nX U fun vs H1 F S B=> ?_) hs rfl));obtain⟨j,rfl,B,O,q⟩:=B
 cases S with
 |cons r rr =>
  cases rr;obtain⟨t,rfl⟩:=r;exact call_range_1 (WJ F (by lia) (by lia) B O (by lia))
def tFor(F:TI)(g:TG)(tb:TS):TS:=fun D σ H=>F σ H fun J H1=>∃W:Nat->Nat->St->Hp->Prop,(∃m,W 0 m σ H1)/\∀i m σ H,W i m σ H ->
 (J.stop i H/\D.nx σ H)\/(J.go i H/\∃N:St->Hp->Prop,(∀B H',N B H'->∃q,q < m/\W (i+1) q B H')/\∀x H',J.yld i H x H'->g x σ H' fun G H2=>tb { D with nx:=N,ct:=N,bk:=D.nx } G H2)
noncomputable def wC(q:List Addr)(h:Heap):List (Addr×Obj):=q.filterMap fun b=>(h.get? b).map fun o=>(b,o)
def sG(B:b∈q)(e:h.get? b=some o):(b,o)∈wC q h:=List.mem_filterMap.mpr ⟨b,B,by rw[e];rfl⟩
def Vk(I:p∈wC F h):p.1∈F/\h.get? p.1=some p.2:=by
 obtain⟨b,G,e⟩:=(List.mem_filterMap.mp I)
 cases q:h.get? b with
 |none=>rw[q] at e;cases e
 |some o =>
  rw[q] at e;have B:=Au e;subst B;exact⟨G,q⟩
def Inv.pinned{σ:St}(I:Inv X pins σ H s)(L:∀b∈B,X4 X pins H b)(O:∀b∈B,∃o,s.heap.get? b=some o/\∀v,o.data≠.cell v):Inv X (pins++wC B s.heap) σ H s :=
 I.pins_of fun p S=>(Ad.mp S).elim (fun z=>I.pin p (Aa _ z)) fun z=>by
  obtain⟨F,e⟩:=Vk z;refine Gp (L p.1 F) fun f0 G J _=>dQ (O p.1 F) fun o q d=>?_;rw[e] at q;cases q
  exact⟨e,f0,G,J,d⟩
def Inv.unpinned{σ:St}(I:Inv X (pins++B) σ H s):Inv X pins σ H s:=I.pins_of fun p q=>I.pin p (Aa _ (A2 _ q))
def Zs(S:PassesOwn (model X.prog X.w) X.A X.env X.xe)(hc:X.calm=true)(hi:PI X tg ai wi)(hg:PG X tg g)(F:PSs X ar tb)(hs:∀x,foldedSetIterable ai X.env x=pure x:=by intro _;rfl):PS X (.For tg ai ar [] pos) (tFor wi g tb):=by
 intro pins s σ H D aq h;refine wpAny_For (thn (hi pins s σ H _ aq h) fun v s1 h1=>thn h1 fun a6 a7 h2=>?_) hs;obtain⟨it,O,tn,J,H2,e,I2,T,az,ag,W,⟨ax,w0⟩,a4⟩:=h2;subst e;have ae:∀{H':Hp},(∀b∈O,H' b=none)->∀b∈O,X4 X pins H' b:=fun hn b F=>⟨hn b F,(ag b F).2⟩;refine codeAny_forLoop_any (fun n s'=>∃i Y H',Inv X pins Y H' s'/\tn i s'.heap/\(∀b∈O,H' b=none)/\W i n Y H') ?_ ax ⟨0,σ,H2,I2,az,fun b F=>(ag b F).1,w0⟩
 rintro n aj ⟨i,Z,H3,I3,ao,ah,w3⟩
 rcases a4 i n Z H3 w3 with ⟨a3,qn⟩ | ⟨av,N,hN,a0⟩
 .refine B2 S (thn (T.done X rfl rfl rfl hc i pins aj Z H3 X.xe I3 (ae ah) ao a3) fun r ay L=>uF L fun hr I4=> ?_)
  subst hr;exact Cd ⟨Z,H3,I4,qn⟩
 .refine B2 S (thn (T.item X rfl rfl rfl hc i pins aj Z H3 X.xe I3 (ae ah) ao av) fun r ay L=>dQ L fun u hr h4=> ?_)
  subst hr;refine B2 S (thn h4 fun _ ak L=>Et L fun x H5 I5 r5 y5 ab au=> B2 S (thn (hg _ ak Z H5 x u _ (I5.pinned (ae au) (T.obj _ _ ab)) r5 (a0 x H5 y5)) fun _ s6 L=>bG L fun a5 H6 I6 q6=> B2 S (thn (F _ s6 a5 H6 _ I6 q6) fun f s7 I=>?_)))
  have af:∀{G:St}{q:Hp},Inv X (pins++wC O ak.heap) G q s7->N G q->∃m,m < n/\∃i Y H',Inv X pins Y H' s7/\tn i s7.heap/\(∀b∈O,H' b=none)/\W i m Y H':=fun {G q}B U=>by
   obtain⟨m',aw,w7⟩:=hN G q U;exact⟨m',aw,i+1,G,q,B.unpinned,T.keep _ _ _ ab fun b F o e=>(B.pin (b,o) (Aa _ (Aa _ (sG F e)))).1,fun b F=>dQ (T.obj _ _ ab b F) fun o e d=>(B.pin (b,o) (Aa _ (Aa _ (sG F e)))).2.1,w7⟩
  cases f with
  |next=>exact bG I fun G q B U=>af B U
  |cont=>exact bG I fun G q B U=>af B U
  |brk=>exact bG I fun G q B I=>⟨G,q,B.unpinned,I⟩
  |ret v=>exact fM I fun x7 G q B r7 I=>⟨x7,G,q,B.unpinned,r7,I⟩
end
abbrev R2:=V->V->Hp->VK->Prop
def OpR(X:Cx)(f:Value->Value->Sem Value)(r:R2):Prop :=
 ∀(pins:List (Addr×Obj))(s:Shared)(σ:St)(H:Hp)(x y:V)(v u:Value)(Q:VK),Inv X pins σ H s->RelV x v->RelV y u->r x y H Q ->
  wpAny (model X.prog X.w) X.A (f v u) (EP X pins σ Q) X.xe s
def UnR(X:Cx)(f:Value->Sem Value)(r:V->Hp->VK->Prop):Prop :=
 ∀(pins:List (Addr×Obj))(s:Shared)(σ:St)(H:Hp)(x:V)(v:Value)(Q:VK),Inv X pins σ H s->RelV x v->r x H Q ->
  wpAny (model X.prog X.w) X.A (f v) (EP X pins σ Q) X.xe s
def CallR(X:Cx)(f:Value)(r:List V->Hp->VK->Prop):Prop :=
 ∀(pins:List (Addr×Obj))(s:Shared)(σ:St)(H:Hp)(xs:List V)(us:List Value)(Q:VK),Inv X pins σ H s->Vals xs us->r xs H Q ->
  wpAny (model X.prog X.w) X.A (call f us) (EP X pins σ Q) X.xe s
def TruR(X:Cx)(r:V->Hp->(Bool->Hp->Prop)->Prop):Prop :=
 ∀(pins:List (Addr×Obj))(s:Shared)(σ:St)(H:Hp)(x:V)(v:Value)(Q:Bool->Hp->Prop),Inv X pins σ H s->RelV x v->r x H Q ->
  wpAny (model X.prog X.w) X.A (truthy v) (TP X pins σ Q) X.xe s
def tOp(r:R2)(ta tb:TE):TE:=fun σ H Q=>ta σ H fun x H1=>tb σ H1 fun y H2=>r x y H2 Q
def tUn(r:V->Hp->VK->Prop)(ta:TE):TE:=fun σ H Q=>ta σ H fun x H1=>r x H1 Q
inductive II(C:Int->Int->Prop)(g:Int->Int->V)(x y:V)(H:Hp)(Q:VK):Prop
 |mk(i j:Int)(h:x=.int i)(h':y=.int j)(c:C i j)(q:Q (g i j) H)
def rI(C:Int->Int->Prop)(g:Int->Int->V):R2:=II C g
inductive II0(g:Int->Int->V)(x y:V)(H:Hp)(Q:VK):Prop
 |mk(i j:Int)(h:x=.int i)(h':y=.int j)(q:Q (g i j) H)
def rI0(g:Int->Int->V):R2:=II0 g
def rU(g:Int->V):V->Hp->VK->Prop:=fun x H Q=>∃i,x=.int i/\Q (g i) H
section
variable {X:Cx}{a b c:Expr}{ta tb tc:TE}{pos:Pos}
def binT(G:PE X a ta)(J:PE X b tb){σ:St}{R:V->V->Hp->Prop}(I:Inv X pins σ H s)(h:ta σ H fun x H1=>tb σ H1 fun y H2=>R x y H2){f:Value->Value->Sem Value}(L:∀v u q x y H2,Inv X pins σ H2 q->RelV x v->RelV y u->R x y H2->wpAny (model X.prog X.w) X.A (f v u) Q X.xe q):
  wpAny (model X.prog X.w) X.A (eval a X.env) (fun v Z=>wpAny (model X.prog X.w) X.A (eval b X.env) (fun u ab=>wpAny (model X.prog X.w) X.A (f v u) Q X.xe ab) X.xe Z) X.xe s :=thn (G pins s σ H _ I h) fun v s1 ⟨x,H1,B,U,O⟩=>thn (J pins s1 σ H1 _ B O) fun u q ⟨y,H2,F,Y,S⟩=>L v u q x y H2 F U Y S
def pe_op(J:OpR X (binaryOp op) r)(F:PE X a ta)(G:PE X b tb):PE X (.BinOp a op b pos) (tOp r ta tb):=by
 intro pins s σ H Q I h;exact wpAny_BinOp (binT F G I h fun v u S x y H2 B L O q=>J pins S σ H2 x y v u Q B L O q)
def pe_un(F:UnR X (unaryOp op) r)(B:PE X a ta):PE X (.UnaryOp op a pos) (tUn r ta):=by
 intro pins s σ H Q I h;exact UnaryOp_ (thn (B pins s σ H _ I h) fun v s1 L=>nX L fun x H1 q J G=> F pins s1 σ H1 x v Q q J G)
def opI{g:Int->Int->Int}(F:∀(i j:Int)(t u:Tok)(s:Shared)(Q:Value->Shared->Prop)(E:Value->Shared->Prop),C i j->Q (.int (g i j) s.toks) { s with toks:=s.toks+1 }->wpAny (model X.prog X.w) X.A (f (.int i t) (.int j u)) Q E s):
  OpR X f (rI C fun i j=>.int (g i j)):=by
 intro pins s σ H x y v u Q I G J h;obtain⟨i,j,rfl,rfl,B,q⟩:=h;obtain⟨t,rfl⟩:=G;obtain⟨t',rfl⟩:=J;exact F i j t t' s _ _ B ⟨.int (g i j),H,I.tok _,⟨_,rfl⟩,q⟩
def opI0{g:Int->Int->Int}(B:∀(i j:Int)(t u:Tok)(s:Shared)(Q:Value->Shared->Prop)(E:Value->Shared->Prop),Q (.int (g i j) s.toks) { s with toks:=s.toks+1 }->wpAny (model X.prog X.w) X.A (f (.int i t) (.int j u)) Q E s):
  OpR X f (rI0 fun i j=>.int (g i j)):=by
 intro pins s σ H x y v u Q I F G h;obtain⟨i,j,rfl,rfl,q⟩:=h;obtain⟨t,rfl⟩:=F;obtain⟨t',rfl⟩:=G;exact B i j t t' s _ _ ⟨.int (g i j),H,I.tok _,⟨_,rfl⟩,q⟩
def opB0{g:Int->Int->Bool}(B:∀(i j:Int)(t u:Tok)(s:Shared)(Q:Value->Shared->Prop)(E:Value->Shared->Prop),Q (.bool (g i j)) s->wpAny (model X.prog X.w) X.A (f (.int i t) (.int j u)) Q E s):
  OpR X f (rI0 fun i j=>.bl (g i j)):=by
 intro pins s σ H x y v u Q I F G h;obtain⟨i,j,rfl,rfl,q⟩:=h;obtain⟨t,rfl⟩:=F;obtain⟨t',rfl⟩:=G;exact B i j t t' s _ _ ⟨.bl (g i j),H,I,rfl,q⟩
def CPow(i j:Int):Prop:=0<=j/\j<=1000000/\i.natAbs < 2 ^ 64
def CMul(i j:Int):Prop:=(-(2 ^ 64) < i/\i < 2 ^ 64)\/(-(2 ^ 64) < j/\j < 2 ^ 64)
theorem CMul.ok(h:CMul i j):IntMulOk i j:=by
 rcases h with ⟨h1,h2⟩ | ⟨h1,h2⟩
 .exact .of_left (intBits_le_64 h1 h2)
 .exact .of_right (intBits_le_64 h1 h2)
def op_add:OpR X (binaryOp .Add) (rI0 fun i j=>.int (i+j)):=opI0 fun _ _ _ _ _ _ _ q=>add_int q
def aK:OpR X (binaryOp .Sub) (rI0 fun i j=>.int (i - j)):=opI0 fun _ _ _ _ _ _ _ q=>sub_int q
def lL:OpR X (binaryOp .Mult) (rI CMul fun i j=>.int (i * j)):=opI fun _ _ _ _ _ _ _ B q=>mul_int q B.ok
def oU:OpR X (binaryOp .Mod) (rI (fun _ j=>0 < j) fun i j=>.int (i % j)):=opI fun i j _ _ _ _ _ B q=>mod_int' (by lia) (by grind)
def Zz:OpR X (binaryOp .Pow) (rI CPow fun i j=>.int (i ^ j.toNat)):=opI fun _ _ _ _ _ _ _ B q=>pow_int_small B.1 B.2.1 B.2.2 q
def unI{g:Int->Int}(B:∀(i:Int)(t:Tok)(s:Shared)(Q:Value->Shared->Prop)(E:Value->Shared->Prop),Q (.int (g i) s.toks) { s with toks:=s.toks+1 }->wpAny (model X.prog X.w) X.A (f (.int i t)) Q E s):
  UnR X f (rU fun i=>.int (g i)):=by
 intro pins s σ H x v Q I F h;obtain⟨i,rfl,q⟩:=h;obtain⟨t,rfl⟩:=F;exact B i t s _ _ ⟨.int (g i),H,I.tok _,⟨_,rfl⟩,q⟩
def lY:UnR X (unaryOp .USub) (rU fun i=>.int (-i)):=unI fun _ _ _ _ _ q=>neg_int q
end
noncomputable def scal:V->V->Bool
 |.non,.non=>true | .non,.int _=>true | .int _,.non=>true | .non,.bl _=>true | .bl _,.non=>true | .non,.str _=>true | .str _,.non=>true
 |.int _,.int _=>true | .bl _,.bl _=>true | .str _,.str _=>true | .byt _,.byt _=>true
 |.int _,.str _=>true | .str _,.int _=>true | .bl _,.str _=>true | .str _,.bl _=>true
 |_,_=>false
def rEq:R2:=fun x y H Q=>scal x y=true/\Q (.bl (decide (x=y))) H
def rNe:R2:=fun x y H Q=>scal x y=true/\Q (.bl (!decide (x=y))) H
def Km: decide (V.int i=V.int j)=(i==j) :=by grind
def Gz: decide (V.bl i=V.bl j)=(i==j) :=by grind
def Kl: decide (V.str i=V.str j)=(i==j) :=by grind
def Kn: decide (V.byt i=V.byt j)=(i.toList==j.toList):=by
 rw[Bool.eq_iff_iff];cases i;cases j
 simp
section
variable {X:Cx}{a b c:Expr}{ta tb tc:TE}{pos:Pos}
def fX{σ:St}(I:Inv X pins σ H s)(q:Q (.bl k) H)(e:k=B):EP X pins σ Q (.bool B) s:=by
 subst e;exact⟨.bl k,H,I,rfl,q⟩
def lX:OpR X (compareOp .Eq) rEq:=by
 intro pins s σ H x y v u Q I F B h;obtain⟨hs,q⟩:=h
 cases x with
 |non =>
  cases F
  cases y with
  |non=>cases B;exact PySem.EqNone.eq_none_none (fX I q (by simp))
  |bl j=>cases B;exact PySem.EqNone.eq_none_bool (fX I q (by simp))
  |int j=>obtain⟨t',rfl⟩:=B;exact PySem.EqNone.eq_none_int (fX I q (by simp))
  |str j=>obtain⟨t',rfl⟩:=B;exact PySem.EqNone.eq_none_str (fX I q (by simp))
  |_=>exact absurd hs AN
 |bl i =>
  cases F
  cases y with
  |non=>cases B;exact PySem.EqNone.eq_bool_none (fX I q (by simp))
  |bl j=>cases B;exact eq_bool (fX I q Gz)
  |str j=>obtain⟨t',rfl⟩:=B;exact PySem.EqMixed.eq_bool_str (fX I q (by simp))
  |_=>exact absurd hs AN
 |int i =>
  obtain⟨t,rfl⟩:=F
  cases y with
  |non=>cases B;exact PySem.EqNone.eq_int_none (fX I q (by simp))
  |int j=>obtain⟨t',rfl⟩:=B;exact eq_int (fX I q Km)
  |str j=>obtain⟨t',rfl⟩:=B;exact PySem.EqMixed.eq_int_str (fX I q (by simp))
  |_=>exact absurd hs AN
 |str i =>
  obtain⟨t,rfl⟩:=F
  cases y with
  |non=>cases B;exact PySem.EqNone.eq_str_none (fX I q (by simp))
  |bl j=>cases B;exact PySem.EqMixed.eq_str_bool (fX I q (by simp))
  |int j=>obtain⟨t',rfl⟩:=B;exact PySem.EqMixed.eq_str_int (fX I q (by simp))
  |str j=>obtain⟨t',rfl⟩:=B;exact eq_str (fX I q Kl)
  |_=>exact absurd hs AN
 |byt i =>
  obtain⟨t,rfl⟩:=F
  cases y with
  |byt j=>obtain⟨t',rfl⟩:=B;exact PySem.W.eq_bytes (fX I q Kn)
  |_=>exact absurd hs AN
 |_=>cases y<;>exact absurd hs AN
def op_ne:OpR X (compareOp .NotEq) rNe:=by
 intro pins s σ H x y v u Q I F B h;obtain⟨hs,q⟩:=h
 cases x with
 |non =>
  cases F
  cases y with
  |non=>cases B;exact PySem.EqNone.ne_none_none (fX I q (by simp))
  |bl j=>cases B;exact PySem.EqNone.ne_none_bool (fX I q (by simp))
  |int j=>obtain⟨t',rfl⟩:=B;exact PySem.EqNone.ne_none_int (fX I q (by simp))
  |str j=>obtain⟨t',rfl⟩:=B;exact PySem.EqNone.ne_none_str (fX I q (by simp))
  |_=>exact absurd hs AN
 |bl i =>
  cases F
  cases y with
  |non=>cases B;exact PySem.EqNone.ne_bool_none (fX I q (by simp))
  |bl j=>cases B;exact ne_bool (fX I q (A8 not Gz))
  |str j=>obtain⟨t',rfl⟩:=B;exact PySem.EqMixed.ne_bool_str (fX I q (by simp))
  |_=>exact absurd hs AN
 |int i =>
  obtain⟨t,rfl⟩:=F
  cases y with
  |non=>cases B;exact PySem.EqNone.ne_int_none (fX I q (by simp))
  |int j=>obtain⟨t',rfl⟩:=B;exact ne_int (fX I q (A8 not Km))
  |str j=>obtain⟨t',rfl⟩:=B;exact PySem.EqMixed.ne_int_str (fX I q (by simp))
  |_=>exact absurd hs AN
 |str i =>
  obtain⟨t,rfl⟩:=F
  cases y with
  |non=>cases B;exact PySem.EqNone.ne_str_none (fX I q (by simp))
  |bl j=>cases B;exact PySem.EqMixed.ne_str_bool (fX I q (by simp))
  |int j=>obtain⟨t',rfl⟩:=B;exact PySem.EqMixed.ne_str_int (fX I q (by simp))
  |str j=>obtain⟨t',rfl⟩:=B;exact ne_str (fX I q (A8 not Kl))
  |_=>exact absurd hs AN
 |byt i =>
  obtain⟨t,rfl⟩:=F
  cases y with
  |byt j=>obtain⟨t',rfl⟩:=B;exact PySem.W.ne_bytes (fX I q (A8 not Kn))
  |_=>exact absurd hs AN
 |_=>cases y<;>exact absurd hs AN
def qH:OpR X (compareOp .Lt) (rI0 fun i j=>.bl (decide (i < j))):=opB0 fun _ _ _ _ _ _ _ q=>lt_int q
def vK:OpR X (compareOp .Gt) (rI0 fun i j=>.bl (decide (j < i))):=opB0 fun _ _ _ _ _ _ _ q=>gt_int q
def bC:OpR X (compareOp .Is) (fun x y H Q=>y=.non/\Q (.bl (decide (x=.non))) H):=by
 intro pins s σ H x y v u Q I B F h;obtain⟨rfl,q⟩:=h;cases F;refine is_none_gen (fX I q ?_)
 cases x<;>first
  | (cases B;rfl)
  | (obtain⟨t,rfl⟩:=B;rfl)
def JX:OpR X (compareOp .IsNot) (fun x y H Q=>y=.non/\Q (.bl (!decide (x=.non))) H):=by
 intro pins s σ H x y v u Q I B F h;obtain⟨rfl,q⟩:=h;cases F;refine isnot_none_gen (fX I q ?_)
 cases x<;>first
  | (cases B;rfl)
  | (obtain⟨t,rfl⟩:=B;rfl)
def OpR.or(h:OpR X f r)(h':OpR X f G):OpR X f (fun x y H Q=>r x y H Q\/G x y H Q):=by
 intro pins s σ H x y v u Q I B F q
 rcases q with q | q
 .exact h pins s σ H x y v u Q I B F q
 .exact h' pins s σ H x y v u Q I B F q
def rG b(h:op≠.In:=by decide)(h2:op≠.NotIn:=by decide):behindInMarks op b=false:=by
 have q:(op==CmpOp.In)=false:=by cases op<;>first | rfl | exact absurd rfl h
 have B:(op==CmpOp.NotIn)=false:=by cases op<;>first | rfl | exact absurd rfl h2
 cases b<;>simp[behindInMarks,q,B]
def pe_cmpR(L:OpR X (compareOp op) r)(F:PE X a ta)(G:PE X b tb)(J:behindInMarks op b=false):PE X (.Compare a [op] [b] pos) (tOp r ta tb):=by
 intro pins s σ H Q I h;exact wpAny_Compare1 (binT F G I h fun v u U x y H2 B O S q=>L pins U σ H2 x y v u Q B O S q) J
def tTest(t:TE):TT:=fun σ H Q=>t σ H (IBl Q)
def pt_cmpR(U:OpR X (compareOp op) r)(L:PE X a ta)(O:PE X b tb)(S:behindInMarks op b=false):PT X (.Compare a [op] [b] pos) (tTest (tOp r ta tb)):=by
 intro pins s σ H Q I h
 refine wpAny_isTrue_Compare1 (thn (L pins s σ H _ I h) fun v s1 q=>nX q fun x H1 F r1 Y=> thn (O pins s1 σ H1 _ F Y) fun u ab q=>nX q fun y H2 G r2 Z=>
  thn (U pins ab σ H2 x y v u _ G r1 r2 Z) fun c ae ⟨z,B,J,r3,k,e,q3⟩=>?_) S
 subst e;cases r3;exact Bk ⟨B,J,q3⟩
def TruV(K:Ds)(x:V)(H:Hp)(k:Bool):Prop :=
 match x with
 |.non=>k=false
 |.bl b=>k=b
 |.int i=>k=(i != 0)
 |.str y=>y.length<=sizeLine/\k=((y.length:Int) != 0)
 |.byt y=>y.size<=sizeLine/\k=((y.size:Int) != 0)
 |.ref p=>(∃xs,SqL K H p xs/\k = !xs.isEmpty)\/(∃xs,SqT K H p xs/\k = !xs.isEmpty)\/∃kvs,H p=some (.dK kvs)/\k = !kvs.isEmpty
 |_=>False
def ZW(r:KV kvs vs):(!vs.isEmpty) = !kvs.isEmpty:=by
 cases r<;>rfl
def jR(r:Vals xs q):(!q.toArray.isEmpty) = !xs.isEmpty:=by
 cases r<;>simp
def jF:sizeLine < 2 ^ 63:=by decide
def tru_ok:TruR X (fun x H Q=>∃k,TruV X.K x H k/\Q k H):=by
 intro pins s σ H x v Q I F h;obtain⟨k,e,q⟩:=h;have Z:=jF;have hs:=BZ
 cases x with
 |non =>
  cases F;have B:=e;subst B;exact truthy_none ⟨H,I,q⟩
 |bl b =>
  cases F;have B:=e;subst B;exact Bk ⟨H,I,q⟩
 |int i =>
  obtain⟨t,rfl⟩:=F;have B:=e;subst B;exact PySem.P.truthy_int ⟨H,I,q⟩
 |str y =>
  obtain⟨t,rfl⟩:=F;obtain⟨U,rfl⟩:y.length<=sizeLine/\k=((y.length:Int) != 0):=e;exact PySem.P.truthy_str (by lia) ⟨H,I.tok _,q⟩
 |byt y =>
  obtain⟨t,rfl⟩:=F;obtain⟨U,rfl⟩:y.size<=sizeLine/\k=((y.size:Int) != 0):=e;exact PySem.W.truthy_bytes (by lia) ⟨H,I.tok _,q⟩
 |ref p =>
  cases F;have B:=e
  rcases B with ⟨xs,G,B⟩ | ⟨xs,G,B⟩ | ⟨kvs,G,B⟩
  .subst B
   obtain⟨Y,r,J,O⟩:=I.list G;have L:=r.length;exact wpAny_truthy_list J.isList (by simp only[List.size_toArray];lia) ⟨H,I.tok _,by rwa [jR r]⟩
  .subst B
   obtain⟨Y,r,J,O⟩:=I.tuple G;have L:=r.length;exact truthy_tuple J (by simp only[List.size_toArray];lia) ⟨H,I.tok _,by rwa [jR r]⟩
  .subst B
   obtain⟨O,S,vs,r,m⟩:kvs.length<=sizeLine/\(p==sysModules)=false/\∃vs,KV kvs vs/\s.heap.DictOf (tQ X.prog X.w) p vs:=I.hok p _ G;have L:=Paired.length r;exact wpAny_truthy_dict S m (by lia) ⟨H,I.tok _,by rwa [ZW r]⟩
 |_=>exact e.elim
def WS(F:PE X a ta)(G:∀q,isTrue a X.env q=(do let v <- q;standAt a.pos;holding [v] (truthy v))):
  PT X a (fun σ H Q=>ta σ H fun x H'=>∃k,TruV X.K x H' k/\Q k H'):=by
 intro pins s σ H Q I h;exact isTrue_plain (thn (F pins s σ H _ I h) fun v s1 O=>nX O fun x H1 B L J=> tru_ok pins s1 σ H1 x v Q B L J) (G _)
def ZA:OpR X (binaryOp .Add) (fun x y H Q=>∃i j,x=.str i/\y=.str j/\i.length+j.length<=sizeLine/\Q (.str (i++j)) H):=by
 intro pins s σ H x y v u Q I F G h;obtain⟨i,j,rfl,rfl,B,q⟩:=h;obtain⟨t,rfl⟩:=F;obtain⟨t',rfl⟩:=G;exact add_str (fun t' tk=>⟨.str (i++j),H,I.tok _,⟨_,rfl⟩,q⟩) B
def jU(r:Vals [x] us):∃u,us=[u]/\RelV x u:=by
 cases r with
 |cons q B=>cases B;exact⟨_,rfl,q⟩
def sN(r:Vals [x,y] us):∃u q,us=[u,q]/\RelV x u/\RelV y q:=by
 cases r with
 |cons B F =>
  cases F with
  |cons G I=>cases I;exact⟨_,_,rfl,B,G⟩
def G5:CallR X (.builtin "abs") (fun xs H Q=>∃i,xs=[.int i]/\Q (.int (if i < 0 then -i else i)) H):=by
 intro pins s σ H xs us Q I r h;obtain⟨i,rfl,q⟩:=h;obtain⟨u,rfl,t,rfl⟩:=jU r;exact call_abs_int fun u tk=>⟨.int (if i < 0 then -i else i),H,I.tok _,⟨_,rfl⟩,q⟩
def VR(B:X.calm=true):CallR X (.builtin "max") (fun xs H Q=>∃i j,xs=[.int i,.int j]/\Q (.int (if j > i then j else i)) H):=by
 intro pins s σ H xs us Q I r h;obtain⟨i,j,rfl,q⟩:=h;obtain⟨u,F,rfl,⟨t,rfl⟩,⟨t',rfl⟩⟩:=sN r;refine max_two_ints (I.ok.hd B) fun h' tk k=>⟨_,H,I.kept k,?_,q⟩
 by_cases hj:j > i
 .rw [Ah hj,Ah hj];exact⟨_,rfl⟩
 .rw [Af hj,Af hj];exact⟨_,rfl⟩
def gP(B:X.calm=true):CallR X (.builtin "min") (fun xs H Q=>∃i j,xs=[.int i,.int j]/\Q (.int (if j < i then j else i)) H):=by
 intro pins s σ H xs us Q I r h;obtain⟨i,j,rfl,q⟩:=h;obtain⟨u,F,rfl,⟨t,rfl⟩,⟨t',rfl⟩⟩:=sN r;refine min_two_ints (I.ok.hd B) fun h' tk k=>⟨_,H,I.kept k,?_,q⟩
 by_cases hj:j < i
 .rw [Ah hj,Ah hj];exact⟨_,rfl⟩
 .rw [Af hj,Af hj];exact⟨_,rfl⟩
def wM:CallR X (.type "int") (fun xs H Q=>(∃i,xs=[.int i]/\Q (.int i) H)\/∃k,xs=[.bl k]/\Q (.int (if k then 1 else 0)) H):=by
 intro pins s σ H xs us Q I r h
 rcases h with ⟨i,rfl,q⟩ | ⟨k,rfl,q⟩
 .obtain ⟨u,rfl,t,rfl⟩:=jU r
  exact call_int_int ⟨.int i,H,I,⟨_,rfl⟩,q⟩
 .obtain ⟨u,rfl,rfl⟩:=jU r
  exact call_int_bool ⟨.int (if k then 1 else 0),H,I.tok _,⟨_,rfl⟩,q⟩
end
structure ObjM(h:Heap)(x dx C:Addr)(mA:Str->Option Value):Prop where
 obj:h.get? x=some (PySem.W.instObj C dx)
 ns:h.Ns1 dx mA
 ne:dx≠x
def gO{h:Heap}(n:h.Ns1 dx mA):∃od,h.get? dx=some od/\∀name,PySem.W.lookIn name od=some (mA name):=by
 refine Gj n fun o es ep J F hk _ I=>⟨o,J,fun name=>?_⟩;have e:=I name;unfold nsFind findBy at e;rw[<- Array.find?_toList] at e
 delta PySem.W.lookIn
 rw[F];dsimp only
 split
 .grind
 .rename_i q
  rw[q] at e
  have a:es.toList.any (·.refKey)=false:=by
   rw[List.any_eq_false];intro y L;obtain⟨z,t,G⟩:=(hk y (Array.mem_toList_iff.mp L))
   simp[DictEntry.refKey,G]
  have B :=a▸AN;exact(Af B)▸A8 some e
def ObjM.look(I:ObjM h x dx C mA):∃od,PySem.W.InstAt h x (PySem.W.instObj C dx) C (some od)/\∀name,PySem.W.lookIn name od=some (mA name) :=
 let ⟨od,B,q⟩:=gO I.ns
 ⟨od,⟨I.obj,rfl,rfl,B⟩,q⟩
section
variable {prog:Program}{w:World}{A:Around}{E:Value->Shared->Prop}{s:Shared}{K:Ds}{x dx C f:Addr}{mA:Str->Option Value}{name:Str}{v:Value}
def get_map(X:K.In s.heap)(I:ObjM s.heap x dx C mA)(B:PySem.W.plainGet K C name=true)(F:PySem.W.hasDictIn K C=true)(q:PySem.W.findIn K (.ref C) name=some none)(S:mA name=some v)(G:PySem.W.handedIn v=true)(h:Q v { s with toks:=s.toks+1 }):
  wpAny (model prog w) A (getAttr (.ref x) name L) Q E s :=dQ I.look fun od J O=>PySem.W.get_value X J (PySem.W.plainGet_of B).1 (PySem.W.findObj_own F q rfl (by grind)) G h
def Y1(X:K.In s.heap)(I:ObjM s.heap x dx C mA)(q:PySem.W.plainGet K C name=true)(B:PySem.W.findIn K (.ref C) name=some (some (.ref f)))(G:PySem.W.isFn K (.ref f)=true)(L:mA name=none)(h:Q (.ref f,[.ref x]) s):
  wpAny (model prog w) A (getMethod (.ref x) name O) Q E s :=dQ I.look fun od J F=>PySem.W.method_fn X J (PySem.W.plainGet_of q).1 (PySem.W.plainGet_of q).2 B (beq_iff_eq.mp G) (by show(PySem.W.lookIn name od).map (·.isSome)=some false;rw[F,L];rfl) h
def set_map(X:K.In s.heap)(I:ObjM s.heap x dx C mA)(hs:PySem.W.findIn K (.ref C) "__setattr__" = some (some (.builtin "object.__setattr__")))(Y:PySem.W.plainOver K C=true)(Z:PySem.W.takerIn K C name=some none)(S:PySem.W.hasDictIn K C=true)(ab:PySem.Within mA ns)(ag:ns.length<=sizeLine)(h:∀h',ObjM h' x dx C (fun y=>if y=name then some v else mA y)->Heap.SameBut dx s.heap h'->Q () { s with heap:=h',toks:=s.toks+2 }):
  wpAny (model prog w) A (setAttr (.ref x) name v) Q E s:=by
 refine dQ I.look fun od J hl=>PySem.W.set_plain X J hs (PySem.W.osa_open X J Y Z fun b=>dQ (PySem.W.any_some S) fun cd F L=>AA (AD (AA (AA (Dp I.obj (AA (Bw (PySem.W.looks_clsIn X F) ?_)))))));rw[L];exact AD (AA (AD (AA (wpAny_nsSet1 I.ns fun h' q B=>fM (q.count (PySem.Within.cons name v ab)) fun oD af ae U O G=>AA (wpAny_lookBehind U (O▸pastItsLine_dict (AY G (by grind))) (AD (h _ ⟨(B.2 _ (Ne.symm I.ne)).trans I.obj,q,I.ne⟩ B)))))))
def Yx(X:K.In s.heap)(F:PySem.W.makesIn K C=true)(hi:PySem.W.findIn K (.ref C) "__init__" = some (some (.ref f)))(B:PySem.W.typeIn K (.ref f)=some (.type "function"))(h:codeAny (model prog w) (A.under (.builtin "type.__call__" ⟨.ref C::vs,q⟩)) (.call (.ref f) ⟨.ref (s.heap.objs.size+1)::vs,q⟩) (PySem.W.InitBack (s.heap.objs.size+1) R)
   { s with heap:=(s.heap.push PySem.W.emptyDict).push (PySem.W.instObj C s.heap.objs.size) }):
  codeAny (model prog w) A (.call (.ref C) ⟨vs,q⟩) R s:=by
 obtain⟨I,g,d,t,os⟩:=s;exact PySem.W.make_core (PySem.W.makes_of X F) (PySem.W.looks_findIn X hi) (fun G=>PySem.W.bind_fn X G B) (.inl rfl) h
end
noncomputable def xU(f:Str)(v:V):List (Str×V)->List (Str×V)
 |[]=>[(f,v)]
 | (g,x)::r=>if g=f then (g,v)::r else (g,x)::xU f v r
theorem xH f g v:∀fs,(xU f v fs).lookup g=if g=f then some v else fs.lookup g
 |[]=>by
  show List.lookup g [(f,v)]=_
  by_cases h:g=f
  .grind
  .grind
 | (k,x)::r=>by
  rw[show xU f v ((k,x)::r)=(if k=f then (k,v)::r else (k,x)::xU f v r) from rfl]
  by_cases hk:k=f
  .grind
  .rw [Af hk]
   by_cases h:g=k
   .grind
   .have q:=beq_eq_false_iff_ne.mpr h
    simp only[List.lookup,q]
    exact(xH f g v r)
theorem eL f v:∀fs,f∈(xU f v fs).map (·.1)/\∀g,g∈fs.map (·.1)->g∈(xU f v fs).map (·.1)
 |[]=>⟨by simp[xU],fun g h=>by simp at h⟩
 | (k,x)::r=>by
  obtain⟨q,B⟩:=eL f v r;rw[show xU f v ((k,x)::r)=(if k=f then (k,v)::r else (k,x)::xU f v r) from rfl]
  by_cases hk:k=f
  .grind
  .grind
theorem kH f v:∀fs,(xU f v fs).length<=fs.length+1
 |[]=>by simp[xU]
 | (k,x)::r=>by
  have q:=kH f v r;rw[show xU f v ((k,x)::r)=(if k=f then (k,v)::r else (k,x)::xU f v r) from rfl]
  by_cases hk:k=f
  .grind
  .grind
def RelO.some_of(r:RelO (some v) o):∃u,o=some u/\RelV v u:=by
 cases o with
 |none=>exact r.elim
 |some u=>exact⟨u,rfl,r⟩
def RelO.none_of(r:RelO none o):o=none:=by
 cases o with
 |none=>rfl
 |some u=>exact r.elim
theorem rO(r:RelV v u):PySem.W.handedIn u=true:=by
 cases v with
 |non=>cases r;rfl
 |bl b=>cases r;rfl
 |int i=>obtain⟨t,rfl⟩:=r;rfl
 |str x=>obtain⟨t,rfl⟩:=r;rfl
 |byt b=>obtain⟨t,rfl⟩:=r;rfl
 |flt b=>obtain⟨t,rfl⟩:=r;rfl
 |ref a=>cases r;rfl
 |ty n=>cases r;rfl
section
variable {P:Program}{w:World}{H H':Hp}{h h':Heap}{a C dx:Addr}{fs fs':List (Str×V)}
def zN(B:HOk P w H h)(e:H a=some (.ins C dx fs)):∃mA,ObjM h a dx C mA/\(∀f,RelO (fs.lookup f) (mA f))/\PySem.Within mA (fs.map (·.1))/\fs.length<=1000/\H dx=some (.own a):=by
 obtain⟨d,z,F,G,mA,n,r,q⟩:=(B a _ e);exact⟨mA,⟨G,n,F⟩,r,q,z,d⟩
end
structure Cls(K:Ds)(C:Addr):Prop where
 pg:PySem.W.plainGet K C Str.empty=true
 hd:PySem.W.hasDictIn K C=true
 po:PySem.W.plainOver K C=true
 sa:PySem.W.findIn K (.ref C) "__setattr__" = some (some (.builtin "object.__setattr__"))
def Cls.get{K}(c:Cls K C)f:PySem.W.plainGet K C f=true:=c.pg
def NoAttr(K:Ds)(C:Addr)(f:Str):Prop:=PySem.W.findIn K (.ref C) f=some none
def NoAttr.taker{K}(n:NoAttr K C f):PySem.W.takerIn K C f=some none:=by
 delta PySem.W.takerIn
 rw[show PySem.W.findIn K (.ref C) f=some none from n]
 rfl
structure Uo(K:Ds)(C:Addr)(m:Str)(f:Addr):Prop where
 at_:PySem.W.findIn K (.ref C) m=some (some (.ref f))
 fn:PySem.W.isFn K (.ref f)=true
 kp:PySem.W.keepIn K (.ref f)=true
section
variable {X:Cx}{pins:List (Addr×Obj)}{σ:St}{H:Hp}{s:Shared}{a C dx:Addr}{fs:List (Str×V)}{f:Str}{v:V}{A:Around}{E:Value->Shared->Prop}
def ZZ(I:Inv X pins σ H s)(e:H a=some (.ins C dx fs))(c:Cls X.K C)(n:NoAttr X.K C f)(l:fs.lookup f=some v)(h:∀u s',Inv X pins σ H s'->RelV v u->Q u s'):wpAny (model X.prog X.w) A (getAttr (.ref a) f b) Q E s :=Xq (zN I.hok e) fun mA O r _ _ _=>dQ (RelO.some_of (l▸r f)) fun u B q=>get_map I.kIn O (c.get f) c.hd n B (rO q) (h u _ (I.tok _) q)
def xR(I:Inv X pins σ H s)(e:H a=some (.ins C dx fs))(c:Cls X.K C)(k:Uo X.K C m g)(l:fs.lookup m=none)(h:Q (.ref g,[.ref a]) s):wpAny (model X.prog X.w) A (getMethod (.ref a) m q) Q E s :=Xq (zN I.hok e) fun mA O r _ _ _=>Y1 I.kIn O (c.get m) k.at_ k.fn (RelO.none_of (l▸r m)) h
def Zh(I:Inv X pins σ H s)(e:H a=some (.ins C dx fs))(c:Cls X.K C)(n:NoAttr X.K C f)(hl:fs.length < 1000)(ry:RelV y u)(h:∀s',Inv X pins σ (upd H a (.ins C dx (xU f y fs))) s'->Q () s'):wpAny (model X.prog X.w) A (setAttr (.ref a) f u) Q E s:=by
 refine Xq (zN I.hok e) fun mA O r G _ F=>?_;have Y:(fs.map (·.1)).length<=sizeLine:=by rw[AB,BZ];lia
 refine set_map I.kIn O c.sa c.po n.taker c.hd G Y fun h' B Z=>h _ ?_;have S:∃o,h'.get? dx=some o:=let ⟨o,_,_,J,_⟩:=B.ns;⟨o,J⟩
 refine I.write (e▸True.intro) (.inr F) (fun b q L z=>(Z.2 b L).trans z) S ⟨by rw[pQ O.ne];exact F,?_,O.ne,B.obj,_,B.ns,fun g=>?_,fun g U=>?_⟩
 .have:=kH f y fs;lia
 .rw [xH]
  by_cases q:g=f
  .rwa [Ah q,Ah q]
  .grind
 .by_cases q:g=f
  .exact q▸(eL f y fs).1
  .refine (eL f y fs).2 g (G g fun z=>U ?_)
   show(if g=f then some u else mA g)=none
   rwa [Af q]
def Inv.made(I:Inv X pins σ H s):Inv X pins σ (upd (upd H s.heap.objs.size (.own (s.heap.objs.size+1))) (s.heap.objs.size+1) (.ins C s.heap.objs.size []))
  { s with heap:=(s.heap.push PySem.W.emptyDict).push (PySem.W.instObj C s.heap.objs.size) }:=by
 have B:(s.heap.push PySem.W.emptyDict).get? s.heap.objs.size=some PySem.W.emptyDict:=AL s.heap rfl
 have J:((s.heap.push PySem.W.emptyDict).push (PySem.W.instObj C s.heap.objs.size)).get? (s.heap.objs.size+1)=some (PySem.W.instObj C s.heap.objs.size):=by
  have:=AL (s.heap.push PySem.W.emptyDict) (o:=PySem.W.instObj C s.heap.objs.size) rfl
  rwa [Br] at this
 have G:=I.laid (o:=.own (s.heap.objs.size+1)) (h':=s.heap.push PySem.W.emptyDict) (t':=s.toks) (fun b u q=>AC _ q) (AI _) ⟨_,B⟩;refine G.laid (t':=s.toks) (fun b u q=>AC _ q) (DF (Br _ _)) ?_;have F:s.heap.objs.size≠s.heap.objs.size+1:=AV (CP _);refine⟨by rw[pQ F,uQ],AW _,F,J,fun _=>none,(Heap.Ns1.of_empty (⟨PySem.W.emptyDict,#[],_,B,rfl,(fun e L=>absurd L (by simp)),fun _=>rfl⟩)).at fun o q=>AC _ q,fun _=>True.intro,fun y O=>absurd rfl O⟩
def KN(B:attributeBase e f q (eval e q)=eval e q)(h:wpAny (model prog w) A (eval e q) (fun o F=>wpAny (model prog w) A (getAttr o f true) Q E F) E s):wpAny (model prog w) A (eval (.Attribute e f pos) q) Q E s :=
 Attribute_any_ h (by rw[arm_eval_Attribute,B])
end
def tFld(K:Ds)(ta:TE)(f:Str):TE:=fun σ H Q=>ta σ H fun x H1=>∃a C dx fs v,x=.ref a/\H1 a=some (.ins C dx fs)/\Cls K C/\NoAttr K C f/\fs.lookup f=some v/\Q v H1
def sFld(K:Ds)(ta tv:TE)(f:Str):TS:=fun D σ H=>tv σ H fun y H1=>ta σ H1 fun x H2=>∃a C dx fs,x=.ref a/\H2 a=some (.ins C dx fs)/\Cls K C/\NoAttr K C f/\fs.length < 1000 /\
 D.nx σ (upd H2 a (.ins C dx (xU f y fs)))
section
variable {X:Cx}{o e value:Expr}{f:Str}{pos pos' tpos:Pos}{ta tv:TE}
def pe_fld(L:PE X e ta)(J:attributeBase e f X.env (eval e X.env)=eval e X.env):PE X (.Attribute e f pos) (tFld X.K ta f):=by
 intro pins s σ H Q I h;refine KN J (thn (L pins s σ H _ I h) fun u s1 ⟨x,H1,B,S,a,C,dx,fs,v,ex,G,c,n,l,q⟩=>?_);subst ex;obtain rfl:u=Value.ref a:=S;exact ZZ B G c n l fun Y U F O=>⟨v,H1,F,O,q⟩
def ps_fld(L:PE X o ta)(O:PE X value tv)(hs:swapsWith value (some (.Attribute o f pos')) pos.line X.env=pure false):PS X (.Assign [.Attribute o f pos'] value pos) (sFld X.K ta tv f):=by
 intro pins s σ H D I h;refine plainObj_wpAny_Assign_Attribute (thn (O pins s σ H _ I h) fun u s1 zz=>nX zz fun y H1 B Z q=> thn (L pins s1 σ H1 _ B q) fun S ab ⟨x,H2,F,Y,a,C,dx,fs,ex,J,c,n,l,U⟩=>?_) hs;subst ex;obtain rfl:S=Value.ref a:=Y;exact Zh F J c n l Z fun ae G=>⟨σ,_,G,U⟩
end
section
variable {X:Cx}{pins:List (Addr×Obj)}{σ:St}{H:Hp}{s:Shared}{A:Around}{E:Value->Shared->Prop}{Q:Value->Shared->Prop}{c:Value}{b:Bool}
inductive cP(K:Ds)(H:Hp):V->Value->Prop where
 |non:cP K H .non (.type "NoneType")
 |bl (x:Bool):cP K H (.bl x) (.type "bool")
 |int (i:Int):cP K H (.int i) (.type "int")
 |str (x:Str):cP K H (.str x) (.type "str")
 |flt (x:UInt64):cP K H (.flt x) (.type "float")
 |lst {a:Addr} {xs:List V} (e:H a=some (.lst xs)):cP K H (.ref a) (.type "list")
 |frz {a:Addr} {o:Obj} {xs:List V} (e:H a=some (.frz o (.lst xs))):cP K H (.ref a) (.type "list")
 |tup {a:Addr} {xs:List V} (e:H a=some (.tup xs)):cP K H (.ref a) (.type "tuple")
 |dK {a:Addr} {kvs:List (Key×V)} (e:H a=some (.dK kvs)):cP K H (.ref a) (.type "dict")
 |dT {a:Addr} {kvs:List (List Key×V)} (e:H a=some (.dT kvs)):cP K H (.ref a) (.type "dict")
 |ins {a C dx:Addr} {fs:List (Str×V)} (e:H a=some (.ins C dx fs)) (cl:Cls K C) (ha:PySem.W.findIn K (.ref C) "__class__" = some (some (.builtin "object.__class__")))
   (hn:PySem.W.specialIn K (.builtin "object.__class__") "__get__" = some (some (.builtin "getset_descriptor.__get__"))) (htk:PySem.W.takesIn K (.builtin "object.__class__")=some true)
   (hm:PySem.W.mroIn K C (.type "object")=some true):cP K H (.ref a) (.ref C)
def Vy(I:Inv X pins σ H s)(B:RelV x u)(ty:cP X.K H x t)(e:PySem.W.kitOne X.K t c=some b)(h:∀tk,Q (.bool b) { s with toks:=tk }):
  wpAny (model X.prog X.w) A (call (.builtin "isinstance") [u,c]) Q E s:=by
 cases ty with
 |non=>cases B;exact BD PySem.W.kitx_none I.kIn True.intro e (fun z=>nomatch z) h
 |bl y=>cases B;exact BD PySem.W.kitx_bool I.kIn True.intro e (fun z=>nomatch z) h
 |int i=>obtain⟨t,rfl⟩:=B;exact BD PySem.W.kitx_int I.kIn True.intro e (fun z=>nomatch z) h
 |str y=>obtain⟨t,rfl⟩:=B;exact BD PySem.W.kitx_str I.kIn True.intro e (fun z=>nomatch z) h
 |flt y=>obtain⟨t,rfl⟩:=B;exact BD PySem.W.kitx_float I.kIn True.intro e (fun z=>nomatch z) h
 |@lst a xs q =>
  cases B;obtain⟨_,_,n,_,h1⟩:=(I.hok a _ q);exact BD PySem.W.kitx_list I.kIn ⟨_,h1,rfl⟩ e (fun z=>nomatch z) h
 |@frz a Y xs q =>
  cases B;obtain⟨_,_,_,n,_,h1⟩:=(I.hok a _ q);exact BD PySem.W.kitx_list I.kIn ⟨_,h1,rfl⟩ e (fun z=>nomatch z) h
 |@tup a xs q =>
  cases B;obtain⟨_,_,_,p⟩:=(I.hok a _ q);exact xZ p fun o h1 h2 _=>BD PySem.W.kitx_tuple I.kIn ⟨o,h1,h2⟩ e (fun z=>nomatch z) h
 |@dK a kvs q =>
  cases B;obtain⟨_,_,vs,_,p⟩:=(I.hok a _ q);exact fM p fun o es ep h1 h2 _=>BD PySem.W.kitx_dict I.kIn ⟨o,h1,h2.1⟩ e (fun z=>nomatch z) h
 |@dT a kvs q =>
  cases B;obtain⟨_,_,xs,_,o,es,ep,h1,h2,_⟩:=(I.hok a _ q);exact BD PySem.W.kitx_dict I.kIn ⟨o,h1,h2.1⟩ e (fun z=>nomatch z) h
 |@ins a C dx fs q F G S U L =>
  cases B;obtain⟨mA,O,_⟩:=(zN I.hok q);obtain⟨od,J,_⟩:=O.look;exact BD (PySem.W.kitx_own (F.get _) F.hd G S U L) I.kIn J e (fun z=>nomatch z) h
end
structure Room(k:Nat)(A:Around):Prop where
 hd:A.handled=none
 dp:A.depth+3 * k+5 < recursionLimit
 un:A.units+16 * k+200 < cLine
 gd:A.guards=some []
def Room.mono(r:Room k A)(h:j<=k):Room j A:=⟨r.hd,by have:=r.dp;lia,by have:=r.un;lia,r.gd⟩
def Room.deeper(r:Room (k+1) A)q:Room k (A.deeper q) :=
 ⟨r.hd,by have:=r.dp;show A.depth+1+3 * k+5 < _;lia,by have:=r.un;show A.units+3+16 * k+200 < _;lia,r.gd⟩
def ZL{A:Around}: (A.under (.builtin "type.__call__" ⟨.ref C::us,q⟩)).depth=A.depth+1:=by
 first | rfl | simp[ Code.weight]
def ZK{A:Around}: (A.under (.builtin "type.__call__" ⟨.ref C::us,q⟩)).units=A.units+1:=by
 first | rfl | simp[ Code.cUnits]
def Room.make(r:Room (k+1) A)C us q:Room k (A.under (.builtin "type.__call__" ⟨.ref C::us,q⟩)) :=
 ⟨r.hd,by have:=r.dp;rw[ZL];lia,by have:=r.un;rw[ZK];lia,by exact r.gd⟩
def Room.depth(r:Room k A):A.depth < recursionLimit:=by have:=r.dp;lia
def Room.units(r:Room k A):A.units+64 < cLine:=by have:=r.un;lia
def tNil:TA:=fun _ H Q=>Q [] H
def Ww(ta:TE)(q:TA):TA:=fun σ H Q=>ta σ H fun x H1=>q σ H1 fun xs H2=>Q (x::xs) H2
section
variable {X:Cx}{e:Expr}{es:List Expr}{te:TE}{t:TA}{pos:Pos}
def oV:PA X [] tNil:=fun _ _ _ _ H Q I h=>Calls.spliced_nil ⟨[],H,I,.nil,h⟩
def aH(G:PE X e te)(J:PA X es t)(hs:starEach (e::es) X.env=(false,eval e X.env)::starEach es X.env:=by rfl):PA X (e::es) (Ww te t):=by
 intro pos pins s σ H Q I h;exact hs▸Calls.spliced_cons (thn (G pins s σ H _ I h) fun u s1 q=>nX q fun x H1 B S L=> thn (J pos pins s1 σ H1 _ B L) fun us Y q=>nX q fun xs H2 F U O=> ⟨x::xs,H2,F,.cons S U,O⟩)
inductive TJ(o:List V->HO)(Q:VK)(xs:List V)(H:Hp):Prop
 |mk(h:xs.length<=sizeLine)(q:∀p,H p=none->Q (.ref p) (upd H p (o xs)))
def tTup(t:TA):TE:=fun σ H Q=>t σ H (TJ .tup Q)
def tLst(t:TA):TE:=fun σ H Q=>t σ H (TJ .lst Q)
def Zv{G}(h:PA X es t):PE X (.Tuple es G pos) (tTup t):=by
 intro pins s σ H Q I F;refine wpAny_Tuple_spliced (thn (h pos pins s σ H _ I F) fun us s1 ⟨xs,H1,B,r,z,q⟩=>⟨by exact r.length▸z,?_⟩);refine⟨.ref s1.heap.objs.size,upd H1 s1.heap.objs.size (.tup xs),B.laid (t':=s1.toks) (fun b u e=>AC _ e) (AI _) ?_,rfl,q _ (B.hok.fresh (AI _))⟩;exact⟨z,us,r,⟨_,AL _ rfl,rfl,⟨_,rfl⟩,rfl⟩⟩
def pe_lst(h:PA X es t):PE X (.List es pos) (tLst t):=by
 intro pins s σ H Q I F;refine wpAny_List_spliced (thn (h pos pins s σ H _ I F) fun us s1 ⟨xs,H1,B,r,z,q⟩=>⟨by exact r.length▸z,?_⟩);refine⟨.ref s1.heap.objs.size,upd H1 s1.heap.objs.size (.lst xs),B.laid (t':=s1.toks) (fun b u e=>AC _ e) (AI _) ?_,rfl,q _ (B.hok.fresh (AI _))⟩;exact⟨z,us,0,r,AL _ rfl⟩
end
abbrev Sp:=List V->Hp->VK->XK->Prop
abbrev CXT:=List Env->Hp->Shared->XK->Value->Shared->Prop
structure Env0(P:Program)(w:World)(K:Ds)(mg:Str->Option Value)(base:Heap)(A:Around)(outer:List Env)(s:Shared)(H:Hp):Prop where
 frames:A.frames=some outer
 mod:Mod K mg base
 bs:∀b o,base.get? b=some o->s.heap.get? b=some o/\H b=none
 bsz:base.objs.size<=s.heap.objs.size
 funs:s.heap.FunFrames base outer
 frf:∀b∈frs outer,H b=none
 hok:HOk P w H s.heap
 bare:AllBare s.gens
def CE(outer:List Env)(P:Program)(w:World)(H:Hp)(s:Shared)(Q:VK)(u:Value)(s':Shared):Prop :=
 ∃v H',s'.os=s.os/\AllBare s'.gens/\Un (frs outer) [] H H' s.heap s'.heap/\HOk P w H' s'.heap/\RelV v u/\Q v H'
def CR(CX:CXT)(outer:List Env)(P:Program)(w:World)(H:Hp)(s:Shared)(Q:VK)(E:XK)(r:Result)(s':Shared):Prop :=
 match r with
 |.ok (.ret u)=>CE outer P w H s Q u s'
 |.ok _=>False
 |.error e=>CX outer H s E e s'
structure FnOk(P:Program)(w:World)(K:Ds)(mg:Str->Option Value)(base:Heap)(CX:CXT)(k:Nat)(f:Addr)(fd:FuncData)(ps:List Str)(sp:Sp):Prop where
 len:∀vs H Q E,sp vs H Q E->vs.length=ps.length
 run:∀(A:Around)(outer:List Env)(s:Shared)(H:Hp)(args:Args)(us:List Value)(vs:List V)(Q:VK)(E:XK),Room k A->Env0 P w K mg base A outer s H->BindsTo s fd args (ps.zip us)->Vals vs us->sp vs H Q E ->
  codeAny (model P w) A (.call (.ref f) args) (CR CX outer P w H s Q E) s
def FnOk.mono{K}(F:FnOk P w K mg base CX j f fd ps sp)(h:j<=k):
  FnOk P w K mg base CX k f fd ps sp:=⟨F.len,fun A outer s H q us vs Q E B=>F.run A outer s H q us vs Q E (B.mono h)⟩
def Env0.make{K}(e:Env0 P w K mg base A outer s H)C us q:
  Env0 P w K mg base (A.under (.builtin "type.__call__" ⟨.ref C::us,q⟩)) outer s H:=⟨by first | exact e.frames | (simpa [Around.under,Code.envs,Code.isFrame,pushEnvs] using e.frames),e.mod,e.bs,e.bsz,e.funs,e.frf,e.hok,e.bare⟩
section
variable {X:Cx}{pins:List (Addr×Obj)}{σ:St}{H:Hp}{s s':Shared}
def Inv.env0(I:Inv X pins σ H s):Env0 X.prog X.w X.K X.mg X.base X.A X.stack s H :=
 ⟨I.ok.frames,I.ok.mod,I.bs,AY I.ok.bsz I.sz,I.stack,I.stkFree,I.hok,I.bare⟩
def Inv.after(I:Inv X pins σ H s)(h:CE X.stack X.prog X.w H s Q u s'):EP X pins σ Q u s':=by
 refine R7 h fun v H' os B L G r q=>?_;obtain⟨F,g,d,t,J⟩:=s';obtain rfl:J=s.os:=os;exact⟨v,H',I.call (h':=F) (g':=g) (d':=d) (t':=t) L G B (fun b z=>absurd z (by simp)),r,q⟩
end
def Wy(sp:Sp)(dvs:List V)(E:XK)(t:TA):TE:=fun σ H Q=>t σ H fun vs H1=>sp (vs++dvs) H1 Q E
def tMeth(C:Addr)(m:Str)(sp:Sp)(dvs:List V)(E:XK)(ta:TE)(t:TA):TE:=fun σ H Q=>ta σ H fun x H1=>∃a dx fs,x=.ref a/\H1 a=some (.ins C dx fs)/\fs.lookup m=none /\
 t σ H1 fun vs H2=>sp (x::(vs++dvs)) H2 Q E
def tMake(C:Addr)(sp:Sp)(dvs:List V)(E:XK)(t:TA):TE:=fun σ H Q=>t σ H fun vs H1=>∀x dx,H1 x=none->H1 dx=none->dx≠x ->
 sp (.ref x::(vs++dvs)) (upd (upd H1 dx (.own x)) x (.ins C dx [])) (fun v H2=>v=.non/\Q (.ref x) H2) E
def Binds(K:Ds)(fd:FuncData)(ps:List Str)(ds:List Value):Prop :=
 ∀(s:Shared)(us:List Value),K.In s.heap->(us++ds).length=ps.length->BindsTo s fd ⟨us,[]⟩ (ps.zip (us++ds))
def Binds.all{K}(h:∀us:List Value,us.length=ps.length->bindArgs fd ⟨us,[]⟩=pure (ps.zip us)):Binds K fd ps []:=fun s us _ q=>by
 rw[Ae] at q ⊢;exact .of_eq (h us q)
def jK(CX:CXT)(X:Cx)(E:XK):Prop:=∀(pins:List (Addr×Obj))(σ:St)(H:Hp)(s:Shared)(e:Value)(s':Shared),Inv X pins σ H s->CX X.stack H s E e s'->X.xe e s'
section
variable {X:Cx}{CX:CXT}{k:Nat}{f C:Addr}{fd:FuncData}{ps:List Str}{sp:Sp}{dvs:List V}{ds:List Value}{E:XK}{x m:Str}{p pos apos:Pos}{e o:Expr}{es:List Expr}{ta:TE}{t:TA}
def Zi{σ:St}(F:FnOk X.prog X.w X.K X.mg X.base CX k f fd ps sp)(S:Room k X.A)(J:Binds X.K fd ps ds)(L:Vals dvs ds)(U:jK CX X E)(I:Inv X pins σ H s)(r:Vals vs us)(h:sp (vs++dvs) H Q E):wpAny (model X.prog X.w) X.A (call (.ref f) us) (EP X pins σ Q) X.xe s:=by
 have B:=r.append L;have O :=B.length▸F.len _ _ _ _ h;refine CD (CN (F.run X.A X.stack s H ⟨us,[]⟩ (us++ds) (vs++dvs) Q E S I.env0 (J s us I.kIn O) B h) fun r s' q=>?_)
 cases r with
 |error e=>exact U pins σ H s e s' I q
 |ok G =>
  cases G with
  |ret u=>exact I.after q
  |next=>exact False.elim q
  |brk=>exact False.elim q
  |cont=>exact False.elim q
def pe_call(F:FnOk X.prog X.w X.K X.mg X.base CX k f fd ps sp)(Z:Room k X.A)(S:Gl X x)(U:X.mg x=some (.ref f))(hk:PySem.W.keepIn X.K (.ref f)=true)(G:Binds X.K fd ps ds)(J:Vals dvs ds)(hx:jK CX X E)(B:PA X (e::es) t)(L:(x==("__debug__" : Str))=false:=by decide)(O:starEach (e::es) X.env=(false,eval e X.env)::starEach es X.env:=by rfl)(Y:(backTo pos (starEach es X.env)).any (·.1)=false:=by rfl):
  PE X (.Call (.Name x p) (e::es) [] pos) (Wy sp dvs E t):=by
 intro pins s σ H Q I h;exact Bv (oG I S U (Cg I.ok.mod.kin hk (thn (B pos pins s σ H _ I h) fun us s1 zz=>nX zz fun vs H1 q r ab=> ⟨q.kIn,Zi F Z G J hx q r ab⟩) O Y) L)
def pe_meth{pl}(Y:PE X o ta)(c:Cls X.K C)(G:Uo X.K C m f)(F:FnOk X.prog X.w X.K X.mg X.base CX k f fd ps sp)(hr:Room k X.A)(S:Binds X.K fd ps ds)(U:Vals dvs ds)(hx:jK CX X E)(O:PA X (e::es) t)(ab:starEach (e::es) X.env=(false,eval e X.env)::starEach es X.env:=by rfl)(Z:(backTo pos (starEach es X.env)).any (·.1)=false:=by rfl)(ht:eval (.Call (.Attribute o m apos) (e::es) [] pos) X.env=(do
   let J <- eval o X.env
   standAt apos.atName
   let (f,first) <- holding [J] (getMethod J m pl)
   callWith pos f first (backTo pos (starEach (e::es) X.env)) (backToKw pos (keywordEach [] X.env))):=by rfl):
  PE X (.Call (.Attribute o m apos) (e::es) [] pos) (tMeth C m sp dvs E ta t):=by
 intro pins s σ H Q I h;refine Dn (thn (Y pins s σ H _ I h) fun u s1 ⟨x,H1,q,rx,a,dx,fs,ex,L,l,ae⟩=>?_) ht;subst ex;obtain rfl:u=Value.ref a:=rx;exact xR q L c G l (Cg I.ok.mod.kin G.kp (thn (O pos pins s1 σ H1 _ q ae) fun us af zz=>nX zz fun vs H2 B r q2=> ⟨B.kIn,Zi (vs:=.ref a::vs) F hr S U hx B (.cons rfl r) q2⟩) ab Z)
def W7(S:PE X o ta)(c:Cls X.K C)(B:Uo X.K C m f)(F:FnOk X.prog X.w X.K X.mg X.base CX k f fd ps sp)(U:Room k X.A)(L:Binds X.K fd ps ds)(O:Vals dvs ds)(Z:jK CX X E)(Y:eval (.Call (.Attribute o m apos) [] [] pos) X.env=(do
   let G <- eval o X.env
   standAt apos.atName
   let (f,first) <- holding [G] (getMethod G m pl)
   callWith pos f first (backTo pos (starEach [] X.env)) (backToKw pos (keywordEach [] X.env))):=by rfl):
  PE X (.Call (.Attribute o m apos) [] [] pos) (tMeth C m sp dvs E ta tNil):=by
 intro pins s σ H Q I h;refine Dn (thn (S pins s σ H _ I h) fun u s1 ⟨x,H1,q,rx,a,dx,fs,ex,J,l,ab⟩=>?_) Y;subst ex;obtain rfl:u=Value.ref a:=rx;exact xR q J c B l (PySem.W.callWith_K0 q.kIn B.kp (Zi (vs:=[.ref a]) F U L O Z q (.cons rfl .nil) ab))
structure Mk(K:Ds)(C f:Addr):Prop where
 makes:PySem.W.makesIn K C=true
 init:PySem.W.findIn K (.ref C) "__init__" = some (some (.ref f))
 fn:PySem.W.isFn K (.ref f)=true
 kp:PySem.W.keepIn K (.ref C)=true
def WC{σ:St}(M:Mk X.K C f)(F:FnOk X.prog X.w X.K X.mg X.base CX k f fd ps sp)(Z:Room (k+1) X.A)(S:Binds X.K fd ps ds)(U:Vals dvs ds)(hx:jK CX X E)(I:Inv X pins σ H s)(r:Vals vs us)(h:∀x dx,H x=none->H dx=none->dx≠x->sp (.ref x::(vs++dvs)) (upd (upd H dx (.own x)) x (.ins C dx [])) (fun v H2=>v=.non/\Q (.ref x) H2) E):
  wpAny (model X.prog X.w) X.A (call (.ref C) us) (EP X pins σ Q) X.xe s:=by
 have G:=h (s.heap.objs.size+1) s.heap.objs.size (I.hok.fresh (Bn _)) (I.hok.fresh (AI _)) (AV (CP _));have B:=Inv.made (C:=C) I;have J:Vals (V.ref (s.heap.objs.size+1)::(vs++dvs)) (Value.ref (s.heap.objs.size+1)::(us++ds)):=.cons rfl (r.append U)
 have Y:(Value.ref (s.heap.objs.size+1)::us++ds).length=ps.length:=by
  have e:=J.length;rw[F.len _ _ _ _ G] at e;exact e.symm
 refine CD (Yx I.kIn M.makes M.init (beq_iff_eq.mp M.fn) (CN (F.run _ X.stack _ _ ⟨Value.ref (s.heap.objs.size+1)::us,[]⟩ (Value.ref (s.heap.objs.size+1)::(us++ds)) _ _ E (Z.make C us [])
  (B.env0.make C us []) (S _ (Value.ref (s.heap.objs.size+1)::us) B.kIn Y) J G) fun r s' q=>?_))
 cases r with
 |error e=>exact hx pins σ _ _ e s' B q
 |ok O =>
  cases O with
  |ret u =>
   obtain⟨v,H',L,rv,rfl,q3⟩:=B.after q;exact⟨rv,⟨V.ref (s.heap.objs.size+1),H',L,rfl,q3⟩⟩
  |next=>exact False.elim q
  |brk=>exact False.elim q
  |cont=>exact False.elim q
def pe_make(M:Mk X.K C f)(F:FnOk X.prog X.w X.K X.mg X.base CX k f fd ps sp)(Z:Room (k+1) X.A)(S:Gl X x)(U:X.mg x=some (.ref C))(G:Binds X.K fd ps ds)(J:Vals dvs ds)(hx:jK CX X E)(B:PA X (e::es) t)(L:(x==("__debug__" : Str))=false:=by decide)(O:starEach (e::es) X.env=(false,eval e X.env)::starEach es X.env:=by rfl)(Y:(backTo pos (starEach es X.env)).any (·.1)=false:=by rfl):
  PE X (.Call (.Name x p) (e::es) [] pos) (tMake C sp dvs E t):=by
 intro pins s σ H Q I h;exact Bv (oG I S U (Cg I.ok.mod.kin M.kp (thn (B pos pins s σ H _ I h) fun us s1 zz=>nX zz fun vs H1 q r ab=> ⟨q.kIn,WC M F Z G J hx q r ab⟩) O Y) L)
end
structure FnScope(N P:List Str)(sc:Scope):Prop where
 kind:sc.kind=.function
 co:sc.isCoroutine=false
 gen:sc.isGenerator=false
 nd:N.Nodup
 pre:N.take P.length=P
 par:∀x∈P,sc.names.lookup x=some .local\/sc.names.lookup x=some .cell
 nofree:∀y∈sc.names,y.2≠.free
theorem vE{F}: ∀{q}{m},(∀v,(x,v)∉q)->bindL F q m x=m x
 |[],_,_=>rfl
 | (n,v)::r,m,h=>by
  unfold bindL;rw[vE fun w B=>h w (AJ _ B)]
  split
  .grind
  .rfl
theorem uE{F}: ∀{q}{m},(∀v,(x,v)∉q)->bindC F q m x=m x
 |[],_,_=>rfl
 | (n,v)::r,m,h=>by
  unfold bindC;rw[uE fun w B=>h w (AJ _ B)]
  split
  .rfl
  .grind
theorem yE{q}: ∀{P:List Str}{vs}{i:Nat}{m},P.Nodup->P[i]?=some x->vs[i]?=some v->q x=some .local ->
  bindL q (P.zip vs) m x=some v
 |[],_,_,_,_,h,_,_=>by simp at h
 |_::_,[],_,_,_,_,h,_=>by simp at h
 |p::P,w::vs,0,m,nd,h1,h2,hk=>by
  simp at h1 h2;subst h1;subst h2
  show bindL q ((p,w)::P.zip vs) m p=_;unfold bindL;rw[vE fun v B=>(A0.mp nd).1 (List.of_mem_zip B).1,Ah hk]
  simp
 |p::P,w::vs,i+1,m,nd,h1,h2,hk=>by
  unfold bindL;exact yE (A0.mp nd).2 (by simpa using h1) (by simp_all) hk
theorem gE{q}: ∀{P:List Str}{vs}{i:Nat}{m},P.Nodup->P[i]?=some x->vs[i]?=some v->q x≠some .local ->
  bindC q (P.zip vs) m x=some v
 |[],_,_,_,_,h,_,_=>by simp at h
 |_::_,[],_,_,_,_,h,_=>by simp at h
 |p::P,w::vs,0,m,nd,h1,h2,hk=>by
  simp at h1 h2;subst h1;subst h2
  show bindC q ((p,w)::P.zip vs) m p=_;unfold bindC;rw[uE fun v B=>(A0.mp nd).1 (List.of_mem_zip B).1,Af hk]
  simp
 |p::P,w::vs,i+1,m,nd,h1,h2,hk=>by
  unfold bindC;exact gE (A0.mp nd).2 (by simpa using h1) (by simp_all) hk
noncomputable def start(N:List Str)(vs:List V):St:=vs.map some++List.replicate (N.length - vs.length) none
noncomputable def vB(CX:CXT)(P:Program)(w:World)(K:Ds)(mg:Str->Option Value)(base:Heap)(N:List Str)(qual:Str)(scope:Scope)(f:Addr)(cd:Value)(A:Around)(outer:List Env)(s:Shared)(H:Hp)(E:XK):Cx where
 prog:=P
 w:=w
 K:=K
 mg:=mg
 base:=base
 A:=A.deeper (envOfC qual scope s.heap.objs.size f cd)
 N:=N
 s₀:=s
 H₀:=H
 env:=envOfC qual scope s.heap.objs.size f cd
 outer:=outer
 stack:=envOfC qual scope s.heap.objs.size f cd::outer
 ex:=[]
 calm:=true
 fn:=fun _=>true
 pn:=[]
 xe:=fun e s'=>wpAny (model P w) (A.deeper (envOfC qual scope s.heap.objs.size f cd)) (leaving (envOfC qual scope s.heap.objs.size f cd) e) (fun _ q=>CX outer H s E e q) (fun B q=>CX outer H s E B q) s'
def rR{sc:Scope}(h:sc.names.lookup x=some .cell):∃c,(cellsFrom n sc.names []).lookup x=some c :=DW.mp (PySem.W.cellsFrom_some sc.names n [] (.inl h))
def Vz{K}(S:FnScope N ps scope)(U:A.handled=none)(B:Env0 P w K mg base A outer s H)(hl:vs.length=ps.length)(r:Vals vs us)(x:InCallC s s.heap.objs.size (bindL (envOfC qual scope s.heap.objs.size f cd).kindOf (ps.zip us) fun _=>none) (cellsFrom (s.heap.objs.size+1) scope.names []) (bindC (envOfC qual scope s.heap.objs.size f cd).kindOf (ps.zip us) fun _=>none) s1):
  Inv (vB CX P w K mg base N qual scope f cd A outer s H E) [] (start N vs) H s1:=by
 have ab:ps.length<=N.length:=by have:=A8 List.length S.pre;rw[Aw] at this;lia
 obtain⟨h1,tk,rfl,hk⟩:=x.done;have I:∀b:Addr,b∉(vB CX P w K mg base N qual scope f cd A outer s H E).ex:=fun b z=>absurd (show b∈([]:List Addr) from z) (by simp)
 refine⟨⟨B.mod,S.kind,rfl,rfl,AI _,fun y z c h1 h2=>?_,fun y G=>?_,fun y c _ h=>?_,fun _=>U,Around.frames_deeper B.frames,.inr ⟨rfl,rfl⟩,fun b z=>absurd z (I b),B.bs,B.bsz,fun b _ _=>I b,fun b z=>absurd z (I b),B.funs,B.frf⟩,
  rfl,B.bare,Un.kept hk,⟨_,x.toInCall.ns,fun i y v h1 h2 Z=>?_⟩,fun y c h=>⟨_,x.cell y c h⟩,B.hok.fresh (AI _),fun y c h=>?_,fun p F=>absurd (show p∈([]:List (Addr×Obj)) from F) (by simp),B.hok.kept hk,?_⟩
 .exact name_of_addr x.apart (CZ h1) (CZ h2)
 .rcases G with G | G
  .exact rR G
  .exact absurd rfl (S.nofree _ (CZ G))
 .exact Di (x.above y c (CZ h))
 .have hi:i < vs.length:=by
   unfold start at h2
   by_cases hi:i < vs.length
   .exact hi
   .grind
  have O:vs[i]?=some v:=by
   unfold start at h2;rw[CY (by simp_all),Aq] at h2
   cases e:vs[i]? with
   |none=>rw[e] at h2;cases h2
   |some a=>rw[e] at h2;cases h2;rfl
  obtain⟨u,J,Y⟩:=(r.get O)
  have F:ps[i]?=some y:=by
   rw[<- S.pre,List.getElem?_take_of_lt (by lia)];exact h1
  have L :=S.pre▸S.nd.sublist (List.take_sublist _ _);refine⟨u,Y,?_⟩
  rcases S.par y (Ai F) with k | k
  .exact .inl ⟨k,yE L F J k⟩
  .obtain ⟨c,e⟩:=rR k
   refine .inr ⟨.inl k,c,e,?_⟩;have q:=x.cell y c e;rw[gE L F J (by show scope.names.lookup y≠_;rw[k];decide)] at q;exact q
 .exact B.hok.fresh (Di (x.above y c (CZ h)))
 .delta start
  show _=N.length;rw[AE,AB,Bh]
  lia
def fn_of{K}{af Z ah B Y oc}(lk:K.lookup f=some ⟨oc,od,.func (PySem.W.fnOf name qual ar U scope dV af Z ah ai B Y),aw⟩)(ak:PySem.W.codeIn K B qual=true)(S:FnScope N ps scope)(ag:∀vs H Q E,sp vs H Q E->vs.length=ps.length)(aj:∀(A:Around)(outer:List Env)(s:Shared)(H:Hp)(vs:List V)(Q:VK)(E:XK),Room k (A.deeper (envOfC qual scope s.heap.objs.size f B))->sp vs H Q E ->
   ∃t,PSs (vB CX P w K mg base N qual scope f B A outer s H E) U t/\t { nx:=fun _ H'=>Q .non H',rt:=Q } (start N vs) H):
  FnOk P w K mg base CX (k+1) f (PySem.W.fnOf name qual ar U scope dV af Z ah ai B Y) ps sp:=by
 refine⟨ag,fun A outer s H au us vs Q E I F hb r ae=>?_⟩;have O:=F.mod.kin.keeps fun b o e=>(F.bs b o e).1
 have aq:∀y∈ps.zip us,scope.names.lookup y.1=some .local\/(scope.names.lookup y.1=some .cell/\((cellsFrom (s.heap.objs.size+1) scope.names []).lookup y.1).isSome=true):=fun⟨n,v⟩ hy=>by
  rcases S.par n (List.of_mem_zip hy).1 with q | q
  .exact .inl q
  .exact .inr ⟨q,PySem.W.cellsFrom_some _ _ _ (.inl q)⟩
 refine codeAny_call_function I.depth (O _ _ lk) rfl S.co S.gen rfl (PySem.W.codeRec_of O ak) (hb _ _ _ _ (wpAny_newFunctionEnv_cells S.kind aq fun av ao s1 x=>?_));subst ao;refine⟨(F.mod.nolimit.keeps fun b o e=>(F.bs b o e).1).keeps x.toInCall.keep,codeAny_func (dQ (aj A outer s H vs Q E (I.deeper _) ae) fun t ht hq=>A3 (ht [] s1 (start N vs) H _ (Vz S I.hd F (ag _ _ _ _ ae) r x) hq) (fun fl s' hs=>?_) fun e s' hs=>hs)⟩
 have ab:∀{G:St}{H':Hp}{v:V}{u:Value},Inv (vB CX P w K mg base N qual scope f B A outer s H E) [] G H' s'->RelV v u->Q v H'->CE outer P w H s Q u s' :=
  fun {G H' v u}J L q=>⟨v,H',J.os,J.bare,J.base,J.hok,L,q⟩
 cases fl with
 |ret u =>
  exact fM hs fun v G H' J L q=>ab J L q
 |next =>
  exact bG hs fun G H' J q=>ab (v:=V.non) J rfl q
 |brk =>
  exact bG hs fun _ _ _ q=>False.elim q
 |cont =>
  exact bG hs fun _ _ _ q=>False.elim q
section
variable {X:Cx}{x:Str}{p pos:Pos}{e:Expr}{es:List Expr}{t:TA}{id T:String}{r:List V->Hp->VK->Prop}
def tCB(r:List V->Hp->VK->Prop)(t:TA):TE:=fun σ H Q=>t σ H fun vs H1=>r vs H1 Q
def jD(F:CallR X (.builtin id) r)(L:Gl X x)(O:X.mg x=none)(Y:bootBuiltins x=some (.builtin id))(B:PA X (e::es) t)(S:x ≠ "__name__":=by decide)(G:(x==("__debug__" : Str))=false:=by decide)(J:starEach (e::es) X.env=(false,eval e X.env)::starEach es X.env:=by rfl)(U:(backTo pos (starEach es X.env)).any (·.1)=false:=by rfl):PE X (.Call (.Name x p) (e::es) [] pos) (tCB r t):=by
 intro pins s σ H Q I h;exact Bv (rA I L O Y (PyProof.Rows.callWith_builtin1 (thn (B pos pins s σ H _ I h) fun us s1 zz=>nX zz fun vs H1 q r1 Z=> F pins s1 σ H1 vs us Q q r1 Z) J U) S G)
def K9(F:CallR X (.type T) r)(L:Gl X x)(O:X.mg x=none)(Y:bootBuiltins x=some (.type T))(B:PA X (e::es) t)(S:x ≠ "__name__":=by decide)(G:(x==("__debug__" : Str))=false:=by decide)(J:starEach (e::es) X.env=(false,eval e X.env)::starEach es X.env:=by rfl)(U:(backTo pos (starEach es X.env)).any (·.1)=false:=by rfl):PE X (.Call (.Name x p) (e::es) [] pos) (tCB r t):=by
 intro pins s σ H Q I h;exact Bv (rA I L O Y (PyProof.Rows.callWith_type1 (thn (B pos pins s σ H _ I h) fun us s1 zz=>nX zz fun vs H1 q r1 Z=> F pins s1 σ H1 vs us Q q r1 Z) J U) S G)
end
end L2
namespace HT
open PySem PyProof.Rows
section
variable {prog:Program}{w:World}{A:Around}{E:Value->Shared->Prop}{s:Shared}
def cat_tup(ht:IsTup s.heap t vs.toArray)(Z:IsTup s.heap b q.toArray)(hv:vs≠[])(h1:q=[]->Q (.ref t) s)(h2:q≠[]->Q (.ref s.heap.objs.size) { s with heap:=s.heap.push { cls:=.type "tuple",data:=.seq (vs++q).toArray } })(ai:vs.length+q.length<=sizeLine):wpAny (model prog w) A (binaryOp .Add (.ref t) (.ref b)) Q E s:=by
 obtain⟨⟨U,I,Y,O⟩,B,hc,n,ae⟩:=id ht;obtain⟨⟨ag,J,ah,S⟩,F,ab,L,af⟩:=id Z;subst hc ae ab af;have e:vs.toArray++q.toArray=(vs++q).toArray:=by simp
 by_cases G:q=[]
 .exact concat_meets ⟨_,B,rfl⟩ ⟨_,F,rfl⟩ noFill_tuple_add seq_tuple_add Dg DZ (DV _ _)
   (tuple_addW1 t b vs.toArray q.toArray n L I J O S (by grind) (by simp[G])) ⟨B,F,h1 G⟩
 .refine concat_meets ⟨_,B,rfl⟩ ⟨_,F,rfl⟩ noFill_tuple_add seq_tuple_add Dg DZ (DV _ _)
   (tuple_addW2 t b vs.toArray q.toArray n L I J O S (by simpa using hv) (by grind) (by grind)) ⟨B,F,?_⟩
  exact e▸h2 G
noncomputable def sIx(n d:Nat):Option Int->Nat
 |none=>d
 |some v=>if v < 0 then (v+(n:Int)).toNat else min v.toNat n
def sIx_none n d:sIx n d none=d:=rfl
def sIx_nat(n d k:Nat):sIx n d (some k )=min k n:=by
 show(if (k:Int) < 0 then ((k:Int)+(n:Int)).toNat else min (k:Int).toNat n)=min k n;rw[Af (by lia),Co]
def Ks v(n d:Nat):(if v < 0 then max (v+(n:Int)) 0 else min v n )=((sIx n d (some v):Nat):Int):=by
 show(if v < 0 then max (v+(n:Int)) 0 else min v (n:Int))=(((if v < 0 then (v+(n:Int)).toNat else min v.toNat n):Nat):Int)
 by_cases q:v < 0
 .lia
 .grind
def Jo lo hi(n:Nat):Builtin.Slice.sliceAdjust lo hi 1 n=(( sIx n 0 lo:Int),( sIx n n hi:Int)):=by
 refine Prod.ext ?_ ?_
 .cases lo with
  |none=>rfl
  |some v=>exact Ks v n 0
 .cases hi with
  |none=>rfl
  |some v=>exact Ks v n n
def Zu(i j:Nat):Builtin.Slice.slicePlaces i j 1=j - i :=by grind[Builtin.Slice.slicePlaces]
def xC(p:IsPart v o)(h:Q o s):wpAny (model prog w) A (Builtin.Slice.slicePartIndex v) Q E s:=by
 cases p with
 |none=>exact slicePart_none h
 |int i t=>exact slicePart_int h
def yL{lo}{Q:Int×Int×Nat->Shared->Prop}(hs:s.heap.IsSliceOf I J L .none)(F:IsPart J lo)(G:IsPart L hi)(h:Q (( sIx n 0 lo:Int),1,sIx n n hi - sIx n 0 lo) s):wpAny (model prog w) A (Builtin.Slice.sliceApplied (.ref I) (pure n )) Q E s:=by
 refine xZ (id hs) fun os B O q=>AA (AA (A5 B q rfl (AA (A5 B q rfl (AA (A5 B q rfl (AD (AA (slicePart_none (AA (xC F (AA (xC G (AA (AD ?_)))))))))))))));show wpAny _ _ (match Builtin.Slice.sliceAdjust lo hi 1 (n:Int) with | (lo,hi)=>pure (lo,(1:Int),Builtin.Slice.slicePlaces lo hi 1)) _ _ s
 rw[Jo lo hi n];show wpAny _ _ (pure (((sIx n 0 lo:Nat):Int),(1:Int),Builtin.Slice.slicePlaces ((sIx n 0 lo:Nat):Int) ((sIx n n hi:Nat):Int) 1)) _ _ s;rw[Zu];exact AD h
def W0(xs:Array Value)(i k:Nat):((List.range k).filterMap fun(m:Nat)=>xs[( i+(m:Int) * 1).toNat]?).toArray=((xs.toList.drop i).take k).toArray:=by
 have e:(fun(m:Nat)=>xs[((i:Int)+(m:Int) * 1).toNat]?)=fun m=>xs[i+m]? :=by grind
 rw[e];have:=pick_run xs i k;rw[List.filterMap_map] at this;have q:((fun x=>xs[x]?) ∘ fun x=>i+x)=fun m=>xs[i+m]?:=rfl;rw[q] at this;rw[this]
def getItem_tuple_cut{lo}(q:IsTup s.heap t items)(hs:s.heap.IsSliceOf O S U .none)(J:IsPart S lo)(L:IsPart U hi)(ab:¬ (sIx items.size 0 lo=0/\sIx items.size items.size hi=items.size))(h:Q (.ref s.heap.objs.size) { s with heap:=s.heap.push { cls:=.type "tuple",data:=.seq ((items.toList.drop (sIx items.size 0 lo)).take (sIx items.size items.size hi - sIx items.size 0 lo)).toArray } })(Z:items.size<=sizeLine):wpAny (model prog w) A (getItem (.ref t) (.ref O)) Q E s:=by
 have B:sizeOk (.seq ((items.toList.drop (sIx items.size 0 lo)).take (sIx items.size items.size hi - sIx items.size 0 lo)).toArray):=by
  show((items.toList.drop (sIx items.size 0 lo)).take (sIx items.size items.size hi - sIx items.size 0 lo)).toArray.size<=sizeLine;rw[Aj,Aw,BE,Ca];omega
 obtain⟨os,I,F,Y⟩:=(id hs)
 delta getItem
 try with_reducible refine As ?_
 first | refine AA (AD ?_) | skip
 refine AA (wpAny_sequenceKey q.typeIs rfl (AA (Ci q.typeIs Cr
  (Az Cr q.typeIs entry_tuple_getitem ?_ (args_tuple_getitem _ _)))))
 show wpAny _ _ (Builtin.Tuple.tupleItemsOf (.ref t) >>= _) _ _ s;refine AA (tupleItemsOf_ q (AA (CM (⟨os,I,F⟩) (AA (yL hs J L ?_)))));have G:¬ ((((sIx items.size 0 lo:Nat):Int)==0&&(1:Int)==1&&(sIx items.size items.size hi - sIx items.size 0 lo)==items.size)=true) :=by lia
 show wpAny _ _ (if (((sIx items.size 0 lo:Nat):Int)==0&&(1:Int)==1&&(sIx items.size items.size hi - sIx items.size 0 lo)==items.size)=true then _ else _) _ _ s;rw[Af G,W0]
 first
  |exact AA (Ax (AD ⟨_,rfl,AD h⟩) B)
  |exact AA (Ax (AA (AD (AD ⟨_,rfl,AD h⟩))) B)
  |exact AA (AA (Ax (AD (AD ⟨_,rfl,AD h⟩)) B))
  |exact AA (AA (Ax (AD ⟨_,rfl,AD h⟩) B))
end
end HT
namespace L2
open PySem PySem.Spec PyProof.Rows
abbrev TO:=St->Hp->(Option Int->Hp->Prop)->Prop
def PO(X:Cx)(e:Option Expr)(t:TO):Prop :=
 ∀(pins:List (Addr×Obj))(s:Shared)(σ:St)(H:Hp)(Q:Option Int->Hp->Prop),Inv X pins σ H s->t σ H Q ->
  wpAny (model X.prog X.w) X.A (evalPart e X.env) (fun u s'=>∃o H',Inv X pins σ H' s'/\IsPart u o/\Q o H') X.xe s
def tNoPart:TO:=fun _ H Q=>Q none H
def tPart(t:TE):TO:=fun σ H Q=>t σ H fun x H1=>∃i,x=.int i/\Q (some i) H1
section
variable {X:Cx}{e:Expr}{te:TE}{lo hi:Option Expr}{tl th:TO}{pos p2:Pos}
def po_none:PO X none tNoPart:=by
 intro pins s σ H Q I h;exact AD ⟨none,H,I,.none,h⟩
def po_some(h:PE X e te):PO X (some e) (tPart te):=by
 intro pins s σ H Q I F;refine thn (h pins s σ H _ I F) fun u s1 L=>nX L fun x H1 B J G=> ?_;obtain⟨i,rfl,q⟩:=G;obtain⟨t,rfl⟩:=J;exact⟨some i,H1,B,.int i t,q⟩
def SlR(X:Cx)(r:V->Option Int->Option Int->Hp->VK->Prop):Prop :=
 ∀(pins:List (Addr×Obj))(s:Shared)(σ:St)(H:Hp)(x:V)(v B F:Value)(lo hi:Option Int)(q:Addr)(Q:VK),Inv X pins σ H s->RelV x v->s.heap.IsSliceOf q B F .none->IsPart B lo->IsPart F hi->r x lo hi H Q ->
  ∃T id,typeLookup (.type T) "__getitem__" = pure (some (.builtin id))/\s.TypeIs v T/\wpAny (model X.prog X.w) X.A (getItem v (.ref q)) (EP X pins σ Q) X.xe s
def tSl(r:V->Option Int->Option Int->Hp->VK->Prop)(te:TE)(tl th:TO):TE:=fun σ H Q=>te σ H fun x H1=>tl σ H1 fun l H2=>th σ H2 fun u q=>r x l u q Q
def QK(hr:SlR X r)(Z:PE X e te)(hl:PO X lo tl)(hu:PO X hi th):PE X (.Subscript e (.Slice lo hi none p2) pos) (tSl r te tl th):=by
 intro pins s σ H Q I h;refine Subscript_ (thn (Z pins s σ H _ I h) fun v s1 B=>nX B fun x H1 L r1 q1=> wpAny_Slice (thn (hl pins s1 σ H1 _ L q1) fun F af B=>nX B fun l H2 O pl q2=> thn (hu pins af σ H2 _ O q2) fun G q B=>nX B fun u J S ab q3=> ?_))
 apply AD
 have U:Inv X pins σ J { q with heap:=q.heap.push { cls:=.type "slice",data:=.fields #[F,G,.none] } }:=S.kept (t':=q.toks) fun b ob ae=>AC _ ae;exact nX (hr pins { q with heap:=q.heap.push { cls:=.type "slice",data:=.fields #[F,G,.none] } } σ J x v F G l u q.heap.objs.size Q U r1 (Heap.IsSliceOf.new ..) pl ab q3) fun T id Y ht hg=>tail_any ht Y hg (by with_unfolding_all rfl)
noncomputable def VJ(xs:List V)(lo hi:Option Int):List V:=(xs.drop (HT.sIx xs.length 0 lo)).take (HT.sIx xs.length xs.length hi - HT.sIx xs.length 0 lo)
def uH xs lo hi:(VJ xs lo hi).length<=xs.length:=by
 delta VJ
 rw[Aw,BE]
 lia
def rSlT(K:Ds):V->Option Int->Option Int->Hp->VK->Prop:=fun x lo hi H Q=>∃a xs,x=.ref a/\SqT K H a xs /\
 ¬ (HT.sIx xs.length 0 lo=0/\HT.sIx xs.length xs.length hi=xs.length)/\∀p,H p=none->Q (.ref p) (upd H p (.tup (VJ xs lo hi)))
def sl_tup:SlR X (rSlT X.K):=by
 intro pins s σ H x v vl vu lo hi sl Q I S hs L O h;obtain⟨a,xs,rfl,G,U,q⟩:=h;cases S;obtain⟨Y,r,F,J⟩:=(I.tuple G);have B :=Aj▸r.length.symm;refine⟨"tuple",_,Cr.lookup,F.typeIs,HT.getItem_tuple_cut F hs L O (by rwa [B]) ?_ (by rwa [B])⟩;rw[B];refine⟨.ref s.heap.objs.size,_,I.laid (t':=s.toks) (fun b Z q=>AC _ q) (AI _) ?_,rfl,q _ (I.hok.fresh (AI _))⟩
 exact⟨AY (uH xs lo hi) J,_,(r.drop (HT.sIx xs.length 0 lo)).take (HT.sIx xs.length xs.length hi - HT.sIx xs.length 0 lo),jt.new _ _⟩
def rCatT(K:Ds):R2:=fun x y H Q=>∃a b xs ys,x=.ref a/\y=.ref b/\SqT K H a xs/\SqT K H b ys/\xs≠[]/\xs.length+ys.length<=sizeLine /\
 (ys=[]->Q (.ref a) H)/\(ys≠[]->∀p,H p=none->Q (.ref p) (upd H p (.tup (xs++ys))))
def Vals.nil_iff(r:Vals xs us):us=[]↔xs=[]:=by
 cases r with
 |nil=>simp
 |cons _ _=>simp
def op_catT:OpR X (binaryOp .Add) (rCatT X.K):=by
 intro pins s σ H x y v u Q I Y Z h;obtain⟨a,b,xs,ys,rfl,rfl,G,J,L,O,S,U⟩:=h;cases Y;cases Z;refine xZ (I.tuple G) fun ab F p1 _=>xZ (I.tuple J) fun ae B p2 _=>HT.cat_tup p1 p2 (fun z=>L (F.nil_iff.mp z)) (fun z=>⟨.ref a,H,I,rfl,S (B.nil_iff.mp z)⟩) (fun z=>?_) (by rwa [<- F.length,<- B.length]);refine⟨.ref s.heap.objs.size,_,I.laid (t':=s.toks) (fun b ob q=>AC _ q) (AI _) ?_,rfl,U (fun w=>z (B.nil_iff.mpr w)) _ (I.hok.fresh (AI _))⟩
 exact⟨by exact AE▸O,_,F.append B,jt.new _ _⟩
end
noncomputable def ixN(n:Nat)(i:Int):Option Nat:=if 0<=i then (if i < n then some i.toNat else none) else if -(n:Int)<=i then some (i+n).toNat else none
noncomputable def atI{α:Type}(xs:List α)(i:Int):Option α:=(ixN xs.length i).bind fun j=>xs[j]?
def J7(h:ixN n i=some j):seqIndex? i n=some j/\j < n/\- n<=i/\i < n :=by grind[ixN,seqIndex_of,seqIndex_neg,lia,Option.some.inj]
def Qc(h:atI xs i=some v):∃j,seqIndex? i xs.length=some j/\xs[j]?=some v/\j < xs.length/\-(xs.length:Int)<=i/\i < xs.length:=by
 delta atI at h
 cases e:ixN xs.length i with
 |none=>rw[e] at h;cases h
 |some j =>
  rw[e] at h;exact Gp (J7 e) fun h1 h2 q B=>⟨j,h1,h,h2,q,B⟩
def Qh(b:Expr):Prop:=∀o i,subscripted b false o i=operate [o,i] (getItem o i)
def IxR(X:Cx)(r:R2):Prop :=
 ∀(value q:Expr)(pins:List (Addr×Obj))(s:Shared)(σ:St)(H:Hp)(x y:V)(v u:Value)(Q:VK),Inv X pins σ H s->RelV x v->RelV y u->r x y H Q ->
  subscripted q false v u=operate [v,u] (getItem v u)->wpAny (model X.prog X.w) X.A (subscriptTail value q v u) (EP X pins σ Q) X.xe s
def MtR(X:Cx)(id:String)(r:V->List V->Hp->VK->Prop):Prop :=
 ∀(pins:List (Addr×Obj))(s:Shared)(σ:St)(H:Hp)(x:V)(xs:List V)(v:Value)(us:List Value)(Q:VK),Inv X pins σ H s->RelV x v->Vals xs us->r x xs H Q ->
  wpAny (model X.prog X.w) X.A (call (.builtin id) (v::us)) (EP X pins σ Q) X.xe s
section
variable {X:Cx}{a b:Expr}{ta tb:TE}{pos:Pos}
def IxR.or(h:IxR X r)(h':IxR X J):IxR X (fun x y H Q=>r x y H Q\/J x y H Q):=by
 intro value G pins s σ H x y v u Q I B F q hs
 rcases q with q | q
 .exact h value G pins s σ H x y v u Q I B F q hs
 .exact h' value G pins s σ H x y v u Q I B F q hs
def pe_ix(J:IxR X r)(F:PE X a ta)(G:PE X b tb)(hs:Qh b):PE X (.Subscript a b pos) (tOp r ta tb):=by
 intro pins s σ H Q I h;exact Subscript_ (binT F G I h fun v u S x y H2 B L O q=>J a b pins S σ H2 x y v u Q B L O q (hs _ _))
inductive IIx(S:Hp->Addr->List V->Prop)(x y:V)(H:Hp)(Q:VK):Prop
 |mk(p:Addr)(xs:List V)(i:Int)(v:V)(h:x=.ref p)(h':y=.int i)(s:S H p xs)(a:atI xs i=some v)(q:Q v H)
def rIxL(K:Ds):R2:=IIx (SqL K)
def rIxT(K:Ds):R2:=IIx (SqT K)
def rIxS:R2:=fun x y H Q=>∃z i c,x=.str z/\y=.int i/\z.length<=sizeLine/\atI z.cps.toList i=some c/\Q (.str ⟨#[c]⟩) H
def ix_list:IxR X (rIxL X.K):=by
 intro value ab pins s σ H x y v u Q I rx ry h hs;obtain⟨p,xs,i,z,rfl,rfl,U,O,q⟩:=h;cases rx;obtain⟨t,rfl⟩:=ry;refine xZ (I.list U) fun Y r B hz=>Xq (Qc O) fun j h1 h2 h3 J L=>dQ (r.get h2) fun w G Z=>?_;have S:=r.length;have hn:=jF;have F:EP X pins σ Q w s:=⟨z,H,I,Z,q⟩
 by_cases h0:0<=i
 .have hj:i.toNat=j:=by
   rw[seqIndex_of h0 L] at h1;exact Au h1
  exact item_listR B.isList h0 (by lia) (by simp_all) F hs
 .have hj:(i+(Y.toArray.size:Int)).toNat=j:=by
   rw[seqIndex_neg (by lia) J] at h1;exact Aj▸S▸Au h1
  exact subscriptTail_builtinR B.isList.typeIs slot_list_getitem.lookup
   (wpAny_getItem_list_neg B.isList (by lia) (by simp_all) (by lia) (by rw[hj];simpa using G) ⟨rfl,F⟩) hs
def ix_tup:IxR X (rIxT X.K):=by
 intro value ae pins s σ H x y v u Q I L O h hs;obtain⟨p,xs,i,z,rfl,rfl,G,F,q⟩:=h;cases L;obtain⟨t,rfl⟩:=O;refine xZ (I.tuple G) fun ab r B hz=>Xq (Qc F) fun j h1 h2 U Y Z=>dQ (r.get h2) fun w S J=>?_;have hn:=jF
 exact subscriptTail_builtinR B.typeIs slot_tuple_getitem.lookup
  (getItem_tuple B (by lia) (by lia) (by rwa [Aj,<- r.length]) (by simp_all) ⟨rfl,(⟨z,H,I,J,q⟩)⟩) hs
def ix_str:IxR X rIxS:=by
 intro value Z pins s σ H x y v u Q I F G h hs;obtain⟨z,i,c,rfl,rfl,Y,B,q⟩:=h;obtain⟨t,rfl⟩:=F;obtain⟨t',rfl⟩:=G;refine Xq (Qc B) fun j h1 h2 J L O=>?_;have S:z.cps.toList.length=z.length:=by simp[Str.length]
 have U:=jF;exact tail_any (typeIs_str s z t) slot_str_getitem.lookup (getItem_str (by lia) (by grind) ⟨.str ⟨#[c]⟩,H,I.tok _,⟨_,rfl⟩,q⟩) hs
def rIx(K:Ds):R2:=fun x y H Q=>rIxL K x y H Q\/rIxT K x y H Q\/rIxS x y H Q
def ix_seq:IxR X (rIx X.K):=ix_list.or (ix_tup.or ix_str)
def ZJ(q:List Value)n j u:Obj.mapSeq (·.setIfInBounds j u) { cls:=.type "list",data:=.seq q.toArray n }={ cls:=.type "list",data:=.seq (q.set j u).toArray n }:=by
 simp[Obj.mapSeq]
def Inv.lst{pins:List (Addr×Obj)}{σ:St}{H:Hp}{s:Shared}{p:Addr}{xs:List V}(I:Inv X pins σ H s)(h:H p=some (.lst xs)):
  ∃(q:List Value)(n:Nat),Vals xs q/\s.heap.get? p=some { cls:=.type "list",data:=.seq q.toArray n }/\xs.length<=sizeLine:=by
 obtain⟨z,q,n,r,e⟩:=I.hok p _ h;exact⟨q,n,r,e,z⟩
def Inv.lstUpd{σ:St}{F:List Value}(I:Inv X pins σ H s)(h:H p=some (.lst xs))(L:s.heap.get? p=some { cls:=.type "list",data:=.seq F.toArray n })(B:f { cls:=.type "list",data:=.seq F.toArray n }={ cls:=.type "list",data:=.seq its'.toArray G })(r:Vals ys its')(O:ys.length<=sizeLine)t:
  Inv X pins σ (upd H p (.lst ys)) { s with heap:=s.heap.update p f,toks:=t }:=by
 have e:(s.heap.update p f).get? p=some { cls:=.type "list",data:=.seq its'.toArray G }:=by
  rw[Al f L (by rw[B]<;>rfl),B]
 refine I.write (by rw[h];trivial) (.inl rfl) (fun b u J q=>(Ac _ _ (Ne.symm J)).trans q) ⟨_,e⟩ ?_;exact⟨O,its',G,r,e⟩
def rSetL:V->V->V->Hp->(Hp->Prop)->Prop:=fun o i v H Q=>∃p xs k j,o=.ref p/\i=.int k/\H p=some (.lst xs)/\ixN xs.length k=some j/\Q (upd H p (.lst (xs.set j v)))
def WB:PSet X rSetL:=by
 intro pins s σ H o i v ov iv u Q I Y U Z h;obtain⟨p,xs,k,j,rfl,rfl,J,hj,q⟩:=h;cases Y;obtain⟨t,rfl⟩:=U;refine nX (I.lst J) fun L n r B hz=>Gp (J7 hj) fun h1 h2 O S=>?_;have G:=r.length;have hn:=jF
 have F :=
  I.lstUpd J B (ZJ L n j u) (r.set Z j) (by grind) s.toks
 by_cases h0:0<=k
 .have hk:k.toNat=j:=by
   rw[seqIndex_of h0 S] at h1;exact Au h1
  exact PySem.W.ki_setAt B h0 (by lia) (by simp_all) (hk▸⟨_,F,q⟩)
 .have hk:(k+(L.toArray.size:Int)).toNat=j:=by
   rw[seqIndex_neg (by lia) O] at h1;exact Aj▸G▸Au h1
  exact PySem.W.ki_setBack B (by lia) (by rwa [Aj,<- G]) (by lia) (hk▸⟨_,F,q⟩)
def tE lo hi n:(sliceBounds lo hi none n).1=((HT.sIx n 0 lo:Nat):Int)/\(sliceBounds lo hi none n).2.1=((HT.sIx n n hi:Nat):Int)/\(sliceBounds lo hi none n).2.2=1:=by
 refine⟨?_,?_,rfl⟩
 .cases lo with
  |none=>simp[sliceBounds,HT.sIx]
  |some i =>
   simp only[sliceBounds,HT.sIx,Option.getD_none,show(1:Int) > 0 by decide,if_true]
   by_cases h:i < 0
   .simp only[h,if_true]<;>lia
   .simp only[h,if_false]<;>lia
 .cases hi with
  |none=>simp[sliceBounds,HT.sIx]
  |some i =>
   simp only[sliceBounds,HT.sIx,Option.getD_none,show(1:Int) > 0 by decide,if_true]
   by_cases h:i < 0
   .simp only[h,if_true]<;>lia
   .simp only[h,if_false]<;>lia
def fS(q:List Value)lo hi:slicePick q.toArray lo hi none=((q.drop (HT.sIx q.length 0 lo)).take (HT.sIx q.length q.length hi - HT.sIx q.length 0 lo)).toArray:=by
 obtain⟨h1,h2,B⟩:=(tE lo hi q.toArray.size)
 delta slicePick
 rw[h1,h2,B]
 simp only[sliceRange_one,pick_run]<;>rfl
def rSlL(K:Ds):V->Option Int->Option Int->Hp->VK->Prop:=fun x lo hi H Q=>∃a xs,x=.ref a/\SqL K H a xs/\∀p,H p=none->Q (.ref p) (upd H p (.lst (VJ xs lo hi)))
def sl_list:SlR X (rSlL X.K):=by
 intro pins s σ H x v vl vu lo hi Z Q I S hs L O h;obtain⟨a,xs,rfl,G,q⟩:=h;cases S;obtain⟨U,r,B,J⟩:=(I.list G);have F:=r.length;refine⟨"list",_,slot_list_getitem.lookup,B.isList.typeIs,wpAny_getItem_list_slice B.isList hs L O .none (by simp) ?_ (by grind)⟩;rw[fS,<- F];refine⟨.ref s.heap.objs.size,_,I.laid (t':=s.toks) (fun b Y q=>AC _ q) (AI _) ?_,rfl,q _ (I.hok.fresh (AI _))⟩
 exact⟨AY (uH xs lo hi) J,_,0,(r.drop (HT.sIx xs.length 0 lo)).take (HT.sIx xs.length xs.length hi - HT.sIx xs.length 0 lo),AL _ rfl⟩
noncomputable def sM:V->Bool
 |.non=>true
 |.bl _=>true
 |.int _=>true
 |.str _=>true
 |_=>false
noncomputable def eqV:V->V->Bool
 |.non,.non=>true
 |.bl a,.bl b=>a==b
 |.bl a,.int b=>(if a then 1 else 0)==b
 |.int a,.bl b=>a==(if b then 1 else 0)
 |.int a,.int b=>a==b
 |.str a,.str b=>a==b
 |_,_=>false
def eqAt_V(F:RelV y u)(q:RelV x v)(G:sM y=true)(B:sM x=true):SeqAt.EqAt A s u v (eqV y x):=by
 cases y with
 |non =>
  cases F
  cases x with
  |non=>cases q;exact SeqAt.EqAt.same _
  |bl b=>cases q;exact SeqAt.EqAt.none_bool b
  |int b=>obtain⟨t,rfl⟩:=q;exact SeqAt.EqAt.none_int b t
  |str b=>obtain⟨t,rfl⟩:=q;exact SeqAt.EqAt.none_str b t
  |_=>exact absurd B AN
 |bl a =>
  cases F
  cases x with
  |non=>cases q;exact SeqAt.EqAt.bool_none a
  |bl b=>cases q;exact SeqAt.EqAt.bool_bool a b
  |int b=>obtain⟨t,rfl⟩:=q;exact SeqAt.EqAt.bool_int a b t
  |str b=>obtain⟨t,rfl⟩:=q;exact SeqAt.EqAt.bool_str a b t
  |_=>exact absurd B AN
 |int a =>
  obtain⟨t',rfl⟩:=F
  cases x with
  |non=>cases q;exact SeqAt.EqAt.int_none a t'
  |bl b=>cases q;exact SeqAt.EqAt.int_bool a t' b
  |int b=>obtain⟨t,rfl⟩:=q;exact SeqAt.EqAt.int_int a t' b t
  |str b=>obtain⟨t,rfl⟩:=q;exact SeqAt.EqAt.int_str a t' b t
  |_=>exact absurd B AN
 |str a =>
  obtain⟨t',rfl⟩:=F
  cases x with
  |non=>cases q;exact SeqAt.EqAt.str_none a t'
  |bl b=>cases q;exact SeqAt.EqAt.str_bool a t' b
  |int b=>obtain⟨t,rfl⟩:=q;exact SeqAt.EqAt.str_int a t' b t
  |str b=>obtain⟨t,rfl⟩:=q;exact SeqAt.EqAt.str_str a t' b t
  |_=>exact absurd B AN
 |_=>exact absurd G AN
noncomputable def eqU(x:V)(u:Value):Bool:=match u with
 |.none=>eqV .non x
 |.bool b=>eqV (.bl b) x
 |.int i _=>eqV (.int i) x
 |.str z _=>eqV (.str z) x
 |_=>false
def Gg(r:RelV y u)(f:sM y=true):eqU x u=eqV y x:=by
 cases y with
 |non=>cases r;rfl
 |bl b=>cases r;rfl
 |int i=>obtain⟨t,rfl⟩:=r;rfl
 |str z=>obtain⟨t,rfl⟩:=r;rfl
 |_=>exact absurd f AN
theorem Qe: ∀{xs}{us},Vals xs us->xs.all sM=true->us.any (eqU x)=xs.any fun y=>eqV y x
 |_,_,.nil,_=>rfl
 |y::xs,u::us,.cons r t,f=>by
  rw[List.all_cons,Bb] at f;rw[BJ,BJ,Gg r f.1,Qe t f.2]
theorem eC(F:RelV x v)(B:sM x=true):∀{xs}{us},Vals xs us->xs.all sM=true->∀u∈us,SeqAt.EqAt A s u v (eqU x u)
 |_,_,.nil,_=>fun u q=>by cases q
 |y::xs,u::us,.cons r t,f=>fun G q=>by
  rw[List.all_cons,Bb] at f
  rcases AZ.mp q with rfl | q
  .exact (Gg r f.1)▸eqAt_V r F f.1 B
  .exact eC F B t f.2 G q
noncomputable def inV(x:V)(xs:List V):Bool:=xs.any fun y=>eqV y x
def rIn(K:Ds)(q:Bool):R2:=fun x y H Q=>∃p xs,y=.ref p/\(SqL K H p xs\/SqT K H p xs)/\sM x=true/\xs.all sM=true/\Q (.bl (if q then !inV x xs else inV x xs)) H
def Vd:OpR X (compareOp .In) (rIn X.K false):=by
 intro pins s σ H x y v u Q I O U h;obtain⟨p,xs,rfl,B,J,fs,q⟩:=h;cases U
 rcases B with B | B
 .obtain ⟨F,r,G,S⟩:=I.list B
  refine SeqAt.in_listAt (eqU x) G.isList (fun w L=>eC O J r fs w (by grind)) ⟨.bl _,H,I,rfl,?_⟩;rw[show F.toArray.any (eqU x)=F.any (eqU x) by simp,Qe r fs];exact q
 .obtain ⟨F,r,G,S⟩:=I.tuple B
  refine SeqAt.in_tupleAt (eqU x) G (fun w L=>eC O J r fs w (by simpa using L)) ⟨.bl _,H,I,rfl,?_⟩;rw[show F.toArray.any (eqU x)=F.any (eqU x) by simp,Qe r fs];exact q
def sI:CallR X (.builtin "len") (fun xs H Q=>∃p ys,xs=[.ref p]/\(SqL X.K H p ys\/SqT X.K H p ys)/\Q (.int ys.length) H):=by
 intro pins s σ H xs us Q I r h;obtain⟨p,ys,rfl,B,q⟩:=h;obtain⟨u,rfl,rfl⟩:=jU r;have S:=jF
 rcases B with B | B
 .obtain ⟨O,J,G,L⟩:=I.list B
  have F:=J.length;exact Calls.call_len_list G.isList (by grind) ⟨.int ys.length,H,I.tok _,⟨s.toks+1,by rw[Aj,F]⟩,q⟩
 .obtain ⟨O,J,G,L⟩:=I.tuple B
  have F:=J.length;exact len_tuple G (by simp only[List.size_toArray]<;>lia) ⟨.int ys.length,H,I.tok _,⟨s.toks+1,by rw[Aj,F]⟩,q⟩
def nI:CallR X (.builtin "len") (fun xs H Q=>∃z,xs=[.str z]/\z.length<=sizeLine/\Q (.int z.length) H):=by
 intro pins s σ H xs us Q I r h;obtain⟨z,rfl,F,q⟩:=h;obtain⟨u,rfl,t,rfl⟩:=jU r;have B:=jF;exact len_str (by lia) ⟨.int z.length,H,I.tok _,⟨_,rfl⟩,q⟩
def CallR.or(h:CallR X f r)(h':CallR X f F):CallR X f (fun xs H Q=>r xs H Q\/F xs H Q):=by
 intro pins s σ H xs us Q I B q
 rcases q with q | q
 .exact h pins s σ H xs us Q I B q
 .exact h' pins s σ H xs us Q I B q
def tS:CallR X (.type "tuple") (fun xs H Q=>∃p ys,xs=[.ref p]/\((SqL X.K H p ys/\∀l,H l=none->Q (.ref l) (upd H l (.tup ys)))\/(SqT X.K H p ys/\Q (.ref p) H))):=by
 intro pins s σ H xs us Q I r h;obtain⟨p,ys,rfl,h⟩:=h;obtain⟨u,rfl,rfl⟩:=jU r
 rcases h with ⟨B,q⟩ | ⟨B,q⟩
 .obtain ⟨O,G,F,L⟩:=(I.list B)
  have Y:=G.length;refine call_tuple_list F.isList (fun h' U=>?_) (by grind);have J:=I.kept (t':=s.toks) U
  have S :=
   J.laid (t':=s.toks) (fun b o e=>AC _ e) (AI _) (show ObjOk X.prog X.w _ _ _ (.tup ys) from⟨L,O,G,jt.new _ _⟩)
  exact⟨.ref h'.objs.size,_,S,rfl,q _ (J.hok.fresh (AI _))⟩
 .exact xZ (I.tuple B) fun O G F L=>call_tuple_same F ⟨.ref p,H,I,rfl,q⟩
def tyV(K:Ds)(T:String)(x:V)(H:Hp):Prop:=match x with
 |.str _=>T = "str"
 |.int _=>T = "int"
 |.ref p=>(T = "list"/\∃xs,SqL K H p xs)\/(T = "tuple"/\∃o,K.lookup p=some o/\o.cls=.type "tuple"/\o.dict=none) \/
   (T = "dict"/\((∃kvs,H p=some (.dK kvs))\/∃kvs,H p=some (.dT kvs)))\/(T = "set"/\∃S n,H p=some (.set S n))
 |_=>False
def Ws{σ:St}(I:Inv X pins σ H s)(r:RelV x v)(ty:tyV X.K T x H):
  s.TypeIs v T/\∀a,v=.ref a->∃F,s.heap.get? a=some F/\F.dict=none:=by
 cases x with
 |str z =>
  obtain⟨t,rfl⟩:=r;cases ty;exact⟨typeIs_str s z t,fun _ e=>nomatch e⟩
 |int i =>
  obtain⟨t,rfl⟩:=r;cases ty;exact⟨typeIs_int s i t,fun _ e=>nomatch e⟩
 |ref p =>
  cases r
  rcases ty with ⟨rfl,xs,L⟩ | ⟨rfl,o,hk,J,B⟩ | ⟨rfl,hk⟩ | ⟨rfl,S,n,hk⟩
  .refine xZ (I.list L) fun O _ G _=>⟨G.isList.typeIs,fun a e=>?_⟩
   cases e;exact dH G fun o n e c B _=>⟨o,e,B⟩
  .refine ⟨⟨o,I.kIn p o hk,J⟩,fun a e=>?_⟩
   cases e;exact⟨o,I.kIn _ o hk,B⟩
  .have z:∃o,s.heap.get? p=some o/\o.ExactDict:=by
    rcases hk with ⟨kvs,hk⟩ | ⟨kvs,hk⟩
    .obtain ⟨_,_,_,_,o,_,_,e,ex,_⟩:=I.hok p _ hk
     exact⟨o,e,ex⟩
    .obtain ⟨_,_,_,_,o,_,_,e,ex,_⟩:=I.hok p _ hk
     exact⟨o,e,ex⟩
   obtain⟨o,e,ex⟩:=z;refine⟨⟨o,e,ex.1⟩,fun a q=>?_⟩;cases q;exact⟨o,e,ex.2.1⟩
  .refine el43 (I.hok p _ hk) fun o _ _ _ e ex _=>⟨⟨o,e,ex.1⟩,fun a q=>?_⟩
   cases q;exact⟨o,e,ex.2.1⟩
 |_=>exact False.elim ty
def tBM0(K:Ds)(T:String)(r:V->List V->Hp->VK->Prop)(to:TE):TE:=fun σ H Q=>to σ H fun x H1=>tyV K T x H1/\r x [] H1 Q
def tBM(K:Ds)(T:String)(r:V->List V->Hp->VK->Prop)(to:TE)(t:TA):TE:=fun σ H Q=>to σ H fun x H1=>tyV K T x H1/\t σ H1 fun xs H2=>r x xs H2 Q
variable {o e:Expr}{es:List Expr}{to:TE}{t:TA}{name:Str}{apos cpos:Pos}{T id:String}{r:V->List V->Hp->VK->Prop}
def Zx(S:PlainAttrs T)(Y:Slot T name id)(O:typeOf (.builtin id)=pure (.type "method_descriptor"))(J:MtR X id r)(L:PE X o to)(F:attributeBase o name X.env (eval o X.env)=eval o X.env:=by rfl)(G:(apos.endLine==cpos.line)=true:=by rfl):PE X (.Call (.Attribute o name apos) [] [] cpos) (tBM0 X.K T r to):=by
 intro pins s σ H Q I h;refine wpAny_Call_method0_late F G (thn (L pins s σ H _ I h) fun v s1 Z=>dH Z fun x H1 q B ty U=> ?_);obtain⟨h1,h2⟩:=Ws q B ty;exact⟨T,id,S,Y,O,h1,h2,Cq rfl (PySem.evalArgs_none (J pins s1 σ H1 x [] v [] Q q B .nil U))⟩
def pe_bm(pa:PlainAttrs T)(af:Slot T name id)(ab:typeOf (.builtin id)=pure (.type "method_descriptor"))(Y:MtR X id r)(Z:PE X o to)(L:PA X (e::es) t)(O:attributeBase o name X.env (eval o X.env)=eval o X.env:=by rfl)(S:((backTo cpos (starEach (e::es) X.env)).all (fun x=>!x.1)&&(backToKw cpos (keywordEach [] X.env)).all (fun x=>x.1.isSome)
   && decide ((e::es).length+([]:List Keyword).length+(if ([]:List Keyword).isEmpty then 0 else 1) < 30))=true:=by rfl)(U:(apos.endLine==cpos.line)=true:=by rfl)(hs:starEach (e::es) X.env=(false,eval e X.env)::starEach es X.env:=by rfl)(ag:(backTo cpos (starEach es X.env)).any (·.1)=false:=by rfl):
  PE X (.Call (.Attribute o name apos) (e::es) [] cpos) (tBM X.K T r to t):=by
 intro pins s σ H Q I h;refine wpAny_Call_method_late O S U rfl (thn (Z pins s σ H _ I h) fun v s1 q=>dH q fun x H1 B G ty q1=> ?_);obtain⟨h1,h2⟩:=Ws B G ty;refine⟨T,id,pa,af,ab,h1,h2,?_⟩;have F:=L cpos pins s1 σ H1 _ B q1;rw[hs] at F ⊢;exact Cq (by grind) (Dq (thn F fun us ae q=>nX q fun vs H2 J r2 q2=> Y pins ae σ H2 x vs v us Q J G r2 q2))
end
def MtM(X:Cx)(id:String)(r:V->List V->Hp->VK->Prop):Prop :=
 ∀(pins:List (Addr×Obj))(s:Shared)(σ:St)(H:Hp)(x:V)(xs:List V)(v:Value)(us:List Value)(Q:VK),Inv X pins σ H s->RelV x v->Vals xs us->r x xs H Q ->
  wpAny (model X.prog X.w) X.A (call (.builtin id) (v::us)) (EP X pins σ Q) X.xe s
theorem Vals.one:∀{x}{us},Vals [x] us->∃u,us=[u]/\RelV x u
 |_,_,.cons r .nil=>⟨_,rfl,r⟩
theorem Vals.zero:∀{us},Vals [] us->us=[]
 |_,.nil=>rfl
def Vals.dropLast(h:Vals xs us):Vals xs.dropLast us.dropLast:=by
 induction h with
 |nil=>exact .nil
 |cons r t B =>
  cases t with
  |nil=>exact .nil
  |cons q t'=>exact .cons r B
def Vals.reverse(h:Vals xs us):Vals xs.reverse us.reverse:=by
 induction h with
 |nil=>exact .nil
 |cons r t q=>rw[B8,B8];exact Vals.append q (.cons r .nil)
section
variable {X:Cx}{pins:List (Addr×Obj)}{σ:St}{H:Hp}{s:Shared}{l b:Addr}{xs ys zs:List V}
def Inv.lset{B:List Value}(I:Inv X pins σ H s)(F:H l=some (.lst xs))(e:s.heap.get? l=some { cls:=.type "list",data:=.seq B.toArray n })(J:f B.toArray=its'.toArray)(O:Vals ys its')(S:ys.length<=sizeLine):
  Inv X pins σ (upd H l (.lst ys)) { s with heap:=s.heap.update l (Obj.mapSeq f),toks:=t' }:=by
 have q:=PySem.IsL.update e f;rw[J] at q;refine I.write (F▸trivial) (.inl rfl) (fun U u G L=>(Ac s.heap (Obj.mapSeq f) (Ne.symm G)).trans L) ⟨_,q⟩ ?_;exact⟨S,its',_,O,q⟩
def Inv.lnew(I:Inv X pins σ H s)(F:Vals ys B)(G:ys.length<=sizeLine):
  Inv X pins σ (upd H s.heap.objs.size (.lst ys)) { s with heap:=s.heap.push { cls:=.type "list",data:=.seq B.toArray },toks:=t' } :=
 I.laid (fun _ _ q=>AC _ q) (AI _) ⟨G,B,0,F,AL _ rfl⟩
def Inv.fresh(I:Inv X pins σ H s):H s.heap.objs.size=none:=I.hok.fresh (AI _)
def Inv.lstM(I:Inv X pins σ H s)(B:H l=some (.lst xs)):xs.length<=sizeLine/\∃q n,Vals xs q/\xs.length=q.length/\s.heap.get? l=some { cls:=.type "list",data:=.seq q.toArray n }:=by
 obtain⟨z,q,n,r,e⟩:=I.hok l _ B;exact⟨z,q,n,r,r.length,e⟩
def Yr(h:n<=sizeLine):Builtin.List.listTooLong n=false :=AU (by lia)
end
section
variable {X:Cx}
def JK:V->List V->Hp->VK->Prop:=fun x vs H Q=>∃l xs y,x=.ref l/\vs=[y]/\H l=some (.lst xs)/\xs.length < sizeLine/\Q .non (upd H l (.lst (xs++[y])))
def uO:MtM X "list.append" JK:=by
 intro pins s σ H x vs v us Q I O L h;obtain⟨l,xs,y,rfl,rfl,B,U,q⟩:=h;cases O;obtain⟨u,rfl,J⟩:=L.one;obtain⟨z,G,n,r,S,e⟩:=I.lstM B;refine call_meets F.slot_list_append ⟨_,e,rfl⟩ F.entry_list_append (F.args_list_append_2 _ _) (PySem.list_append l G.toArray n u (by grind)) ⟨e,⟨.non,_,I.lset (its':=G++[u]) B e (by simp) (r.append (.cons J .nil)) ?_,rfl,q⟩⟩;rw[AE,AO]
 lia
def JJ:V->List V->Hp->VK->Prop:=fun x vs H Q=>∃l b xs zs,x=.ref l/\vs=[.ref b]/\H l=some (.lst xs)/\H b=some (.lst zs)/\xs.length+zs.length<=sizeLine/\Q .non (upd H l (.lst (xs++zs)))
def sL:MtM X "list.extend" JJ:=by
 intro pins s σ H x vs v us Q I rx rv h;obtain⟨l,b,xs,zs,rfl,rfl,J,O,hz,q⟩:=h;cases rx;obtain⟨u,rfl,rfl⟩:=rv.one;obtain⟨z,B,n,r,hl,e⟩:=I.lstM J;obtain⟨z2,G,Y,Z,ab,L⟩:=I.lstM O;have U:B.toArray.size+G.toArray.size<=sizeLine :=by simp;lia
 have S:¬ (!B.toArray.isEmpty&&Builtin.List.listTooLong (B.toArray.size+G.toArray.size))=true:=by
  rw[Yr U,Bool.and_false];exact AN
 refine call_meets F.slot_list_extend ⟨_,e,rfl⟩ F.entry_list_extend (F.args_list_extend_2 _ _)
  (AutoSeq1.list_extend_list_list_0 l B.toArray n b G.toArray Y S (by lia) (by lia)) ⟨e,L,?_⟩
 refine⟨.non,_,I.lset (its':=B++G) J e (by simp) (r.append Z) ?_,rfl,q⟩;rw[AE]
 lia
def rPop:V->List V->Hp->VK->Prop:=fun x vs H Q=>∃l xs y,x=.ref l/\vs=[]/\H l=some (.lst xs)/\xs[xs.length - 1]?=some y/\Q y (upd H l (.lst xs.dropLast))
def mt_pop:MtM X "list.pop" rPop:=by
 intro pins s σ H x vs v us Q I Y U h;obtain⟨l,xs,y,rfl,rfl,G,L,q⟩:=h;cases Y;have J:=U.zero;subst J;obtain⟨z,B,n,r,Z,e⟩:=I.lstM G;obtain⟨u,hu,S⟩:=(r.get L);have O:B.toArray[B.toArray.size - 1]?=some u :=by grind
 refine call_meets F.slot_list_pop ⟨_,e,rfl⟩ F.entry_list_pop (F.args_list_pop_1 _) (MeetsSeq.list_pop_last l B.toArray n u O (by grind)) ⟨e,⟨y,_,I.lset (its':=B.dropLast) G e ?_ r.dropLast ?_,S,q⟩⟩
 .grind
 .grind
def QC:V->List V->Hp->VK->Prop:=fun x vs H Q=>∃l xs,x=.ref l/\vs=[]/\H l=some (.lst xs)/\Q .non (upd H l (.lst xs.reverse))
def ZG:MtM X "list.reverse" QC:=by
 intro pins s σ H x vs v us Q I O L h;obtain⟨l,xs,rfl,rfl,B,q⟩:=h;cases O;have J:=L.zero;subst J;obtain⟨z,G,n,r,S,e⟩:=I.lstM B;refine call_meets F.slot_list_reverse ⟨_,e,rfl⟩ F.entry_list_reverse (F.args_list_reverse_1 _) (AutoSeq1.list_reverse_list_0 l G.toArray n (by grind)) ⟨e,⟨.non,_,I.lset (its':=G.reverse) B e (by simp) r.reverse ?_,rfl,q⟩⟩;rw[BN];omega
def rCat:R2:=fun x y H Q=>∃l b xs zs,x=.ref l/\y=.ref b/\H l=some (.lst xs)/\H b=some (.lst zs)/\xs.length+zs.length<=sizeLine/\∀p,H p=none->Q (.ref p) (upd H p (.lst (xs++zs)))
def op_cat:OpR X (binaryOp .Add) rCat:=by
 intro pins s σ H x y v u Q I U Y h;obtain⟨l,b,xs,zs,rfl,rfl,O,L,hz,q⟩:=h;cases U;cases Y;obtain⟨z,B,n,r,Z,e⟩:=I.lstM O;obtain⟨z2,F,n2,S,ab,G⟩:=I.lstM L;refine PySem.P.add_list e G ?_ (by grind);have J:B.toArray++F.toArray=(B++F).toArray:=by simp
 exact J▸⟨.ref _,_,I.lnew (t':=s.toks) (r.append S) (by grind),rfl,q _ I.fresh⟩
end
section
variable {κ:Type}[DecidableEq κ]
noncomputable def iV(kvs:List (κ×V))(k:κ):Option V:=(kvs.find? fun q=>decide (q.1=k)).map (·.2)
noncomputable def jJ(kvs:List (κ×V))(k:κ)(v:V):List (κ×V) :=
 if (kvs.any fun q=>decide (q.1=k))=true then kvs.map (fun q=>if q.1=k then (q.1,v) else q) else kvs++[(k,v)]
theorem gU{k:κ}(e:p.1=k):iV (p::r) k=some p.2 :=by simp_all[iV]
def bU{k:κ}(e:¬ p.1=k):iV (p::r) k=iV r k :=by simp_all[iV]
theorem sF k:∀kvs:List (κ×V),(kvs.any fun q=>decide (q.1=k))=(iV kvs k).isSome
 |[]=>rfl
 |p::r=>by
  rw[BJ]
  by_cases e:p.1=k
  .simp only[gU e,decide_eq_true e,Bool.true_or,Option.isSome_some]
  .rw [bU e,AU e];exact sF k r
def yK kvs(k:κ)v:(jJ kvs k v).length<=kvs.length+1 :=by grind[jJ,List.length_map,List.length_append,List.length_cons,List.length_nil]
def RelO.isSome_eq(r:RelO o u):o.isSome=u.isSome:=by
 cases o with
 |none=>cases u with
  |none=>rfl
  |some _=>exact r.elim
 |some _=>cases u with
  |none=>exact r.elim
  |some _=>rfl
def RelO.getD(r:RelO o u)(q:RelV d d'):RelV (o.getD d) (u.getD d'):=by
 cases o with
 |none=>cases u with
  |none=>exact q
  |some _=>exact r.elim
 |some _=>cases u with
  |none=>exact r.elim
  |some _=>exact r
def KV.val(r:KV kvs vs)(k:κ):RelO (iV kvs k) (valueAt vs k):=by
 induction r with
 |nil=>exact True.intro
 |@cons p q ps qs h t F =>
  obtain⟨h1,h2⟩:=h
  by_cases e:p.1=k
  .have B:=h1.symm.trans e
   have b:valueAt (q::qs) k=some q.2:=by simp[valueAt,List.find?_cons,B]
   rwa [gU e,b]
  .have B:¬ q.1=k:=fun z=>e (h1.trans z)
   have b:valueAt (q::qs) k=valueAt qs k:=by simp[valueAt,List.find?_cons,B]
   rwa [bU e,b]
def KV.any(r:KV kvs vs)(k:κ):(kvs.any fun q=>decide (q.1=k))=vs.any fun q=>decide (q.1=k):=by
 induction r with
 |nil=>rfl
 |cons h t B=>rw[BJ,BJ,B,h.1]
def KV.repl(r:KV kvs vs)(k:κ)(G:RelV y u):
  KV (kvs.map fun B=>if B.1=k then (B.1,y) else B) (vs.map fun B=>if B.1=k then (B.1,u) else B):=by
 induction r with
 |nil=>exact .nil
 |@cons p q ps qs h t F =>
  refine .cons ?_ F;obtain⟨h1,h2⟩:=h
  by_cases e:p.1=k
  .lia
  .lia
theorem KV.put(r:KV kvs vs)(k:κ)(q:RelV y u):KV (jJ kvs k y) (stored vs k u):=by
 delta jJ stored
 rw[r.any k]
 by_cases e:(vs.any fun B=>decide (B.1=k))=true
 .rw [Ah e,Ah e];exact r.repl k q
 .rw [Af e,Af e];exact Paired.snoc r ⟨rfl,q⟩
def KV.length{vs:List (κ×Value)}(r:KV kvs vs):kvs.length=vs.length:=Paired.length r
end
def pO(r:RelV (kV k) u):(tQ P w).is k u=true:=by
 rcases k with (_ | i) | x
 .cases r;exact cA P w
 .obtain ⟨t,rfl⟩:=r;exact Q4 P w i t
 .obtain ⟨t,rfl⟩:=r;exact Q3 P w x t
theorem dO: ∀{q}{us},Vals (q.map kV) us->ItemsAre (tQ P w) q us
 |[],_,r=>by cases r;exact .nil
 |k::q,_,r=>by
  cases r with
  |cons h t=>exact .cons (pO h) (dO t)
abbrev KT(H:Hp):List (List Key×V)->List (List Key×Addr×Value)->Prop:=Paired fun p q=>p.1=q.1/\H q.2.1=some (.tup (p.1.map kV))/\RelV p.2 q.2.2
def KT.val(r:KT H kvs xs)k:RelO (iV kvs k) ((atKey xs k).map (·.2)):=by
 induction r with
 |nil=>exact True.intro
 |@cons p q ps qs h t F =>
  obtain⟨h1,_,h2⟩:=h
  by_cases e:p.1=k
  .have B:=h1.symm.trans e
   have b:atKey (q::qs) k=some q.2:=by simp[atKey,List.find?_cons,B]
   rwa [gU e,b]
  .have B:¬ q.1=k:=fun z=>e (h1.trans z)
   have b:atKey (q::qs) k=atKey qs k:=by simp[atKey,List.find?_cons,B]
   rwa [bU e,b]
def KT.repl(r:KT H kvs xs)k(I:RelV y u):
  KT H (kvs.map fun B=>if B.1=k then (B.1,y) else B) (xs.map (putAt k u)):=by
 induction r with
 |nil=>exact .nil
 |@cons p q ps qs h t F =>
  refine .cons (oS h fun h1 h2 G=>?_) F
  delta putAt
  by_cases e:p.1=k
  .lia
  .lia
theorem KT.put(r:KT H kvs xs)k(F:H b=some (.tup (k.map kV)))(B:RelV y u):
  KT H (jJ kvs k y) (storedH xs k b u):=by
 have e:(kvs.any fun G=>decide (G.1=k))=(atKey xs k).isSome:=by
  rw[sF,(r.val k).isSome_eq,DP]
 delta jJ storedH
 rw[e]
 by_cases q:(atKey xs k).isSome=true
 .rw [Ah q,Ah q];exact r.repl k B
 .rw [Af q,Af q];exact Paired.snoc r ⟨rfl,F,B⟩
def KT.keeps(r:KT H kvs xs)(q:∀b ys,H b=some (.tup ys)->H' b=some (.tup ys)):KT H' kvs xs :=
 Paired.mapP r fun _ _ z=>⟨z.1,q _ _ z.2.1,z.2.2⟩
section
variable {P:Program}{w:World}{H:Hp}{h:Heap}{a:Addr}
def rd_of(q:HOk P w H h)(e:Rd H a u):ObjOk P w H h a u:=e.ok q
def iO(q:HOk P w H h)(e:Rd H a (.dK kvs)):kvs.length<=sizeLine/\(a==sysModules)=false/\∃vs,KV kvs vs/\h.DictOf (tQ P w) a vs :=
 show ObjOk P w H h a (.dK kvs) from rd_of q e
def qE(q:HOk P w H h)(e:H a=some (.dK kvs)):kvs.length<=sizeLine/\(a==sysModules)=false/\∃vs,KV kvs vs/\h.DictOf (tQ P w) a vs:=iO q (.inl e)
def vF(G:HOk P w H h)(e:H a=some (.tup (F.map kV))):(tupleKind (tQ P w)).is h F a:=by
 obtain⟨_,B,r,o,h1,h2,⟨n,q⟩,_⟩:=(G a _ e);exact⟨o,B.toArray,n,h1,h2,q,by simpa using dO r⟩
def Xr(G:HOk P w H h)(e:Rd H a (.dT kvs)):kvs.length<=sizeLine/\(a==sysModules)=false /\
  ∃xs,KT H kvs xs/\h.DictOfH (tupleKind (tQ P w)) a xs:=by
 obtain⟨z,y,xs,r,o,es,ep,h1,h2,J,L,O⟩:=(rd_of G e);refine⟨z,y,xs,r,o,es,ep,h1,h2,J,L,fun x B=>?_,O⟩
 have I:∀{l:List (List Key×V)}{m:List (List Key×Addr×Value)},KT H l m->∀x∈m,(tupleKind (tQ P w)).is h x.1 x.2.1:=by
  intro l m q
  induction q with
  |nil=>intro x B;exact nomatch B
  |@cons p q ps qs F t S =>
   intro x B
   rcases AZ.mp B with e | B
   .subst e
    exact vF G (F.1▸F.2.1)
   .exact S x B
 exact I r x B
def Gs(q:HOk P w H h)(e:H a=some (.dT kvs)):kvs.length<=sizeLine/\(a==sysModules)=false /\
  ∃xs,KT H kvs xs/\h.DictOfH (tupleKind (tQ P w)) a xs:=Xr q (.inl e)
end
def DGet(H:Hp)(a:Addr)(y:V)(r:Option V):Prop :=
 (∃kvs k,Rd H a (.dK kvs)/\y=kV k/\r=iV kvs k)\/∃kvs k b,Rd H a (.dT kvs)/\y=.ref b/\H b=some (.tup (k.map kV))/\r=iV kvs k
def DPut(H:Hp)(a:Addr)(y v:V)(H':Hp):Prop :=
 (∃kvs k,H a=some (.dK kvs)/\y=kV k/\kvs.length < sizeLine/\H'=upd H a (.dK (jJ kvs k v))) \/
 ∃kvs k b,H a=some (.dT kvs)/\y=.ref b/\H b=some (.tup (k.map kV))/\kvs.length < sizeLine/\H'=upd H a (.dT (jJ kvs k v))
theorem DGet.t{k}(e:H a=some (.dT kvs))(q:H b=some (.tup (k.map kV))):DGet H a (.ref b) (iV kvs k):=.inr ⟨kvs,k,b,.inl e,rfl,q,rfl⟩
theorem DPut.k{k}(e:H a=some (.dK kvs))(q:kvs.length < sizeLine):DPut H a (kV k) v (upd H a (.dK (jJ kvs k v))):=.inl ⟨kvs,k,e,rfl,q,rfl⟩
theorem DPut.t{k}(e:H a=some (.dT kvs))(q:H b=some (.tup (k.map kV)))(B:kvs.length < sizeLine):
  DPut H a (.ref b) v (upd H a (.dT (jJ kvs k v))):=.inr ⟨kvs,k,b,e,rfl,q,B,rfl⟩
section
variable {X:Cx}{pins:List (Addr×Obj)}{σ:St}{H:Hp}{s:Shared}{a:Addr}{y v:V}{u r:Value}{o:Option V}{A:Around}{E:Value->Shared->Prop}
def Inv.big(I:Inv X pins σ H s):sysModules < s.heap.objs.size :=Nat.lt_trans (by decide) ((I.mod.glob.keeps I.bk).lt)
def VH(hu:A.units+1 < cLine)(I:Inv X pins σ H s)(g:DGet H a y (some v))(O:RelV y u)(h:∀q s',Inv X pins σ H s'->RelV v q->Q q s'):
  wpAny (model X.prog X.w) A (getItem (.ref a) u) Q E s:=by
 rcases g with ⟨kvs,k,e,F,l⟩ | ⟨kvs,k,b,e,F,S,l⟩
 .subst F
  obtain⟨z,U,vs,J,B⟩:=iO I.hok e;exact dQ (RelO.some_of (l▸J.val k)) fun q G L=>wpAny_getItem_of (pO O) B.mapOf G (h q _ (I.tok _) L)
 .subst F
  cases O;obtain⟨z,U,xs,J,B⟩:=Xr I.hok e;refine dQ (RelO.some_of (l▸J.val k)) fun q G L=>dQ (Cm.mp G) fun p Y Z=>?_;exact wpAny_getItem_heap (tupleKind_room_in1 hu) (vF I.hok S) B Y (Z▸h q _ (I.tok _) L)
def dD(I:Inv X pins σ H s)(J:Mut (H a))(hs:Heap.SameBut a s.heap h')(G:∃q,h'.get? a=some q)(L:ObjOk X.prog X.w (upd H a B) h' a B):
  Inv X pins σ (upd H a B) { s with heap:=h',toks:=t' } :=
 I.write J (.inl rfl) (fun b q F z=>(hs.2 b F).trans z) G L
def kI(z:kvs.length<=sizeLine)(B:(a==sysModules)=false)(F:KV kvs vs)(q:h'.DictOf (tQ P w) a vs):
  ObjOk P w H' h' a (.dK kvs):=⟨z,B,vs,F,q⟩
def VG(hu:A.units+1 < cLine)(I:Inv X pins σ H s)(g:DPut H a y v H')(ry:RelV y u)(rv:RelV v r)(h:∀s',Inv X pins σ H' s'->Q () s'):
  wpAny (model X.prog X.w) A (setItem (.ref a) u r) Q E s:=by
 rcases g with ⟨kvs,k,e,O,l,L⟩ | ⟨kvs,k,b,e,O,Y,l,L⟩
 .subst O L
  obtain⟨z,S,vs,B,J⟩:=qE I.hok e;have hz:vs.length<=sizeLine:=by rwa [<- B.length]
  have U:(jJ kvs k v).length<=sizeLine:=by have:=yK kvs k v;lia
  refine wpAny_setItem_pairs (pO ry) J fun h' F hs=>h _ ?_;have ab:∃q,h'.get? a=some q:=let ⟨q,_,_,G,_⟩:=F;⟨q,G⟩
  exact dD I (e▸True.intro) hs ab (kI U S (B.put k rv) F)
 .subst O L
  cases ry;obtain⟨z,S,xs,B,J⟩:=Gs I.hok e;have hz:xs.length<=sizeLine:=by rwa [<- Paired.length B]
  have U:(jJ kvs k v).length<=sizeLine:=by have:=yK kvs k v;lia
  refine wpAny_setItem_heap (tupleKind_room_in1 hu) (vF I.hok Y) J fun h' F hs=>h _ (Gi F fun q es ep G h2 h3 h4 _ h5=>dD I (e▸True.intro) hs ⟨q,G⟩ ⟨U,S,_,(B.put k Y rv).keeps fun c ys Z=>?_,q,es,ep,G,h2,h3,h4,h5⟩);rw[pQ (JY Z e (fun z=>nomatch z))];exact Z
end
section
variable {X:Cx}{pins:List (Addr×Obj)}{σ:St}{H:Hp}{s:Shared}{a:Addr}{kvs:List (Key×V)}{k:Key}{u:Value}{A:Around}{E:Value->Shared->Prop}
def d_len(I:Inv X pins σ H s)(e:Rd H a (.dK kvs))(h:∀t s',Inv X pins σ H s'->Q (.int kvs.length t) s'):wpAny (model X.prog X.w) A (call (.builtin "len") [.ref a]) Q E s:=by
 obtain⟨z,F,vs,q,B⟩:=iO I.hok e
 apply call_len_dict F B (by rw[<- q.length];rw[BZ] at z;lia)
 exact q.length▸h _ _ (I.tok _)
end
def X1(i:Expr):Prop:=∀B q,subscripted i false B q=operate [B,q] (getItem B q)
def sE{id}(S:typeLookup (.type T) "__getitem__" = pure (some (.builtin id)))(hs:X1 G)(h:wpAny (model prog w) A (eval value I) (fun o J=>wpAny (model prog w) A (eval G I) (fun i q=>q.TypeIs o T/\wpAny (model prog w) A (getItem o i) Q E q) E J) E s):
  wpAny (model prog w) A (eval (.Subscript value G pos) I) Q E s:=by
 refine Subscript_ (A3 h (fun o J U=>A3 U (fun i q F=>?_) fun _ _ x=>x) fun _ _ x=>x);obtain⟨O,F⟩:=F
 apply AA
 refine AA (Ar O S ?_);have B:wpAny (model prog w) A (subscripted G false o i) (fun r L=>wpAny (model prog w) A (letTemporaryGo value o r >>= fun _=>pure r) Q E L) E q :=(hs o i)▸wpAny_operating (A3 F (fun r L Y=>AA (wpAny_letTemporaryGo (AD Y))) fun _ _ x=>x)
 first
  |exact AD (AA B)
  |exact AA (AD (AA B))
  |exact AA B
def Xv{σ:St}(I:Inv X pins σ H s)(g:DGet H a y o):s.TypeIs (.ref a) "dict":=by
 rcases g with ⟨kvs,k,e,_,_⟩ | ⟨kvs,k,b,e,_,_,_⟩
 .obtain ⟨_,_,vs,_,q⟩:=iO I.hok e
  exact q.typeIs
 .obtain ⟨_,_,xs,_,q⟩:=Xr I.hok e
  exact q.typeIs
def tDGet(td ty:TE):TE:=fun σ H Q=>td σ H fun x H1=>ty σ H1 fun y H2=>∃a v,x=.ref a/\DGet H2 a y (some v)/\Q v H2
def sDPut(td ty tv:TE):TS:=fun D σ H=>tv σ H fun v H1=>td σ H1 fun x H2=>ty σ H2 fun y B=>∃a q,x=.ref a/\DPut B a y v q/\D.nx σ q
section
variable {X:Cx}{o i e value:Expr}{pos pos' tpos:Pos}{td ty tv:TE}
def JR(J:X.A.units+1 < cLine)(G:PE X o td)(hi:PE X i ty)(hs:X1 i):PE X (.Subscript o i pos) (tDGet td ty):=by
 intro pins s σ H Q I h;refine sE DK.lookup hs (thn (G pins s σ H _ I h) fun u s1 Z=>nX Z fun x H1 B U L=> thn (hi pins s1 σ H1 _ B L) fun iv ab ⟨y,H2,q,Y,a,v,ex,g,O⟩=>?_);subst ex;obtain rfl:u=Value.ref a:=U;exact⟨Xv q g,VH J q g Y fun w' ae F S=>⟨v,H2,F,S,O⟩⟩
def JP(S:X.A.units+1 < cLine)(O:PE X o td)(hi:PE X i ty)(U:PE X value tv)(hs:swapsWith value (some (.Subscript o i pos')) pos.line X.env=pure false):
  PS X (.Assign [.Subscript o i pos'] value pos) (sDPut td ty tv):=by
 intro pins s σ H D I h;refine De (thn (U pins s σ H _ I h) fun r s1 q=>nX q fun v H1 F rv Y=> thn (O pins s1 σ H1 _ F Y) fun u ab q=>nX q fun x H2 G rx Z=> thn (hi pins ab σ H2 _ G Z) fun iv ae ⟨y,H3,J,ry,a,B,ex,g,q3⟩=>?_) hs;subst ex;obtain rfl:u=Value.ref a:=rx;exact VG S J g ry rv fun af L=>⟨σ,B,L,q3⟩
end
def Xu(h:Heap)(q:sysModules < h.objs.size):ObjOk P w H (h.push { cls:=.type "dict",data:=.dict #[] }) h.objs.size (.dK []) :=
 ⟨AW _,beq_eq_false_iff_ne.mpr (Ne.symm (AV q)),[],.nil,Heap.DictOf.new h⟩
def gR(h:Heap)(q:sysModules < h.objs.size):ObjOk P w H (h.push { cls:=.type "dict",data:=.dict #[] }) h.objs.size (.dT []) :=
 ⟨AW _,beq_eq_false_iff_ne.mpr (Ne.symm (AV q)),[],.nil,_,#[],0,AL _ rfl,⟨rfl,rfl,rfl⟩,rfl,rfl,BS⟩
def tDNewK:TE:=fun _ H Q=>∀p,H p=none->Q (.ref p) (upd H p (.dK []))
def tDNewT:TE:=fun _ H Q=>∀p,H p=none->Q (.ref p) (upd H p (.dT []))
section
variable {X:Cx}{pos:Pos}
def Ya:PE X (.Dict [] [] pos) tDNewK:=fun pins s σ H Q I h=>
 DY ⟨.ref s.heap.objs.size,_,I.laid (t':=s.toks) (fun _ _ q=>AC _ q) (AI _) (Xu s.heap I.big),rfl,h _ (I.hok.fresh (AI _))⟩
def W9:PE X (.Dict [] [] pos) tDNewT:=fun pins s σ H Q I h=>
 DY ⟨.ref s.heap.objs.size,_,I.laid (t':=s.toks) (fun _ _ q=>AC _ q) (AI _) (gR s.heap I.big),rfl,h _ (I.hok.fresh (AI _))⟩
end
def nE:List (TE×TE)->St->Hp->(List (V×V)->Hp->Prop)->Prop
 |[],_,H,Q=>Q [] H
 | (tk,tv)::r,σ,H,Q=>tk σ H fun x H1=>tv σ H1 fun y H2=>nE r σ H2 fun ps q=>Q ((x,y)::ps) q
abbrev VV:List (V×V)->List (Value×Value)->Prop:=Paired fun p q=>RelV p.1 q.1/\RelV p.2 q.2
def PPs(X:Cx)(pos:Pos)(keys:List (Option Expr))(values:List Expr)(q:List (TE×TE)):Prop :=
 ∀(pins:List (Addr×Obj))(s:Shared)(σ:St)(H:Hp)(Q:List (V×V)->Hp->Prop),Inv X pins σ H s->nE q σ H Q ->
  wpAny (model X.prog X.w) X.A (evalPairs (pairTrees keys values X.env pos)) (fun vs s'=>∃ps H',Inv X pins σ H' s'/\VV ps vs/\Q ps H') X.xe s
def pps_nil: PPs X pos [] [] []:=fun pins s σ H Q I h=>pairTrees_nil_walk ⟨[],H,I,.nil,h⟩
def WX(hk:PE X k tk)(O:PE X v tv)(L:PPs X pos S vs af):
  PPs X pos (some k::S) (v::vs) ((tk,tv)::af):=fun pins s σ H Q I h=>
 pairTrees_cons_walk (thn (hk pins s σ H _ I h) fun u s1 q=>nX q fun x H1 F rx U=> thn (O pins s1 σ H1 _ F U) fun w2 ae q=>nX q fun y H2 G ry Y=>
  thn (L pins ae σ H2 _ G Y) fun ah ag q=>nX q fun ps B J ab Z=> ⟨(x,y)::ps,B,J,.cons ⟨rx,ry⟩ ab,Z⟩)
noncomputable def dW(kvs B:List (Key×V)):List (Key×V):=B.foldl (fun acc q=>jJ acc q.1 q.2) kvs
def KV.merge:∀{B}{F}{kvs}{vs},KV B F->KV kvs vs->KV (dW kvs B) (merged vs F):=by
 intro B F kvs vs r
 induction r generalizing kvs vs with
 |nil=>intro q;exact q
 |@cons p q ps qs h t G =>
  intro I
  have e:KV (jJ kvs p.1 p.2) (stored vs q.1 q.2):=by
   have:=I.put p.1 h.2
   rwa [<- h.1]
  exact G e
theorem yV:∀q kvs,(dW kvs q).length<=kvs.length+q.length
 |[],kvs=>by show kvs.length<=kvs.length+0;lia
 |p::r,kvs=>by
  have h1:=yV r (jJ kvs p.1 p.2);have h2:=yK kvs p.1 p.2;show(dW (jJ kvs p.1 p.2) r).length<=_;rw[AQ];lia
theorem sR: ∀{kvs}{G},VV (kvs.map fun F=>(kV F.1,F.2)) G->∃B,Carries (tQ P w) G B/\KV kvs B
 |[],_,r=>by cases r;exact⟨[],True.intro,.nil⟩
 |p::kvs,_,r=>by
  cases r with
  |@cons a b as bs h t =>
   obtain⟨B,c,q⟩:=(sR (P:=P) (w:=w) t);obtain⟨J,I⟩:=b;exact⟨(p.1,I)::B,⟨pO h.1,rfl,c⟩,.cons ⟨rfl,h.2⟩ q⟩
def tDisp(B:List (TE×TE)):TE:=fun σ H Q=>∀p,H p=none->nE B σ (upd H p (.dK [])) fun ps H2=>H2 p=some (.dK [])/\∃kvs:List (Key×V),ps=kvs.map (fun q=>(kV q.1,q.2))/\kvs.length<=15/\Q (.ref p) (upd H2 p (.dK (dW [] kvs)))
def pe_disp(h:PPs X pos keys values af)(O:keys.all (·.isSome)=true)(Y:keys.length=values.length)(h0:keys≠[])(L:keys.length<=15):PE X (.Dict keys values pos) (tDisp af):=by
 intro pins s σ H Q I q;have G:=I.laid (h':=s.heap.push { cls:=.type "dict",data:=.dict #[] }) (t':=s.toks) (fun _ _ q=>AC _ q) (AI _) (Xu s.heap I.big);refine wpAny_Dict_walk (knd:=tQ X.prog X.w) O Y h0 L (thn (h pins _ σ _ _ G (q _ (I.hok.fresh (AI s.heap.objs.size)))) fun ai ag ⟨ps,H2,B,ab,e,kvs,ep,lk,q2⟩=>?_);subst ep;obtain⟨ae,c,rk⟩:=sR ab;obtain⟨z,S,ah,r0,J⟩:=qE B.hok e
 cases r0;refine⟨ae,c,J,fun h' F hs=>⟨.ref s.heap.objs.size,_,?_,rfl,q2⟩⟩
 have hz:(dW [] kvs).length<=sizeLine:=by
  have h1:=yV kvs [];rw[Dl] at h1;rw[BZ];lia
 have U:∃q,h'.get? s.heap.objs.size=some q:=let ⟨q,_,_,Z,_⟩:=F;⟨q,Z⟩
 exact dD B (e▸True.intro) hs U (kI hz S (rk.merge .nil) F)
structure M2(X:Cx)(o:Expr)(m:Str)(apos:Pos)(e f:Expr)(cpos:Pos):Prop where
 base:attributeBase o m X.env (eval o X.env)=eval o X.env
 few:((backTo cpos (starEach [e,f] X.env)).all (fun x=>!x.1)&&(backToKw cpos (keywordEach [] X.env)).all (fun x=>x.1.isSome)
  && decide (([e,f]:List Expr).length+([]:List Keyword).length+(if ([]:List Keyword).isEmpty then 0 else 1) < 30))=true
 line:(apos.endLine==cpos.line)=true
 trees:backTo cpos (starEach [e,f] X.env)=[(false,eval e X.env),(false,eval f X.env)]
def IsD(H:Hp)(a:Addr):Prop:=(∃kvs,Rd H a (.dK kvs))\/∃kvs,Rd H a (.dT kvs)
def isD_at{σ:St}(I:Inv X pins σ H s)(d:IsD H a):
  s.TypeIs (.ref a) "dict"/\(∀b,Value.ref a=.ref b->∃B,s.heap.get? b=some B/\B.dict=none)/\(a==sysModules)=false:=by
 rcases d with ⟨kvs,e⟩ | ⟨kvs,e⟩
 .obtain ⟨_,G,vs,_,F⟩:=iO I.hok e
  refine⟨F.typeIs,fun b q=>?_,G⟩;cases q;exact fM F fun B _ _ h1 h2 _=>⟨B,h1,h2.2.1⟩
 .obtain ⟨_,G,xs,_,F⟩:=Xr I.hok e
  refine⟨F.typeIs,fun b q=>?_,G⟩;cases q;exact fM F fun B _ _ h1 h2 _=>⟨B,h1,h2.2.1⟩
section
variable {X:Cx}{pins:List (Addr×Obj)}{σ:St}{H:Hp}{s:Shared}{a:Addr}{y d:V}{u r:Value}{o:Option V}{A:Around}{E:Value->Shared->Prop}
def d_get2(U:A.units+1 < cLine)(I:Inv X pins σ H s)(g:DGet H a y o)(L:RelV y u)(J:RelV d r)(h:∀O s',Inv X pins σ H s'->RelV (o.getD d) O->Q O s'):
  wpAny (model X.prog X.w) A (call (.builtin "dict.get") [.ref a,u,r]) Q E s:=by
 rcases g with ⟨kvs,k,e,B,l⟩ | ⟨kvs,k,b,e,B,S,l⟩
 .subst B
  obtain⟨z,F,vs,G,q⟩:=iO I.hok e;exact Df Bg q.typeIs Dh (PySem.F.args_dict_get_3 _ _ _) (meets_dict_get_default (tQ X.prog X.w) a (pO L) F r) ⟨_,q.mapOf,h _ _ (I.tok _) (l▸(G.val k).getD J)⟩
 .subst B
  cases L;obtain⟨z,F,xs,G,q⟩:=Xr I.hok e;exact Df Bg q.typeIs Dh (PySem.F.args_dict_get_3 _ _ _) (meetsH_dict_get_default (tupleKind (tQ X.prog X.w)) a b F r) ⟨tupleKind_room_in1 U,k,xs,vF I.hok S,q,h _ _ (I.tok _) (l▸(G.val k).getD J)⟩
end
def tDGet2(td ty tx:TE):TE:=fun σ H Q=>td σ H fun x H1=>∃a,x=.ref a/\IsD H1 a/\ty σ H1 fun y H2=>tx σ H2 fun z q=>∃o,DGet q a y o/\Q (o.getD z) q
section
variable {X:Cx}{o e f:Expr}{apos cpos:Pos}{td ty tx:TE}
def QL(U:X.A.units+1 < cLine)(S:PE X o td)(L:PE X e ty)(O:PE X f tx)(m:M2 X o "get" apos e f cpos):PE X (.Call (.Attribute o "get" apos) [e,f] [] cpos) (tDGet2 td ty tx):=by
 intro pins s σ H Q I h;refine wpAny_Call_method m.base m.few m.line Cj Bg Do (thn (S pins s σ H _ I h) fun u s1 ⟨x,H1,q,rx,a,ex,d,Y⟩=>?_);subst ex;obtain rfl:u=Value.ref a:=rx
 exact oS (isD_at q d) fun af t2 _=>⟨af,t2,m.trees▸Cq rfl (Dq (Calls.spliced_cons (thn (L pins s1 σ H1 _ q Y) fun iv ae zz=>nX zz fun y H2 F ry Z=>
  Calls.spliced_cons (thn (O pins ae σ H2 _ F Z) fun fv ag ⟨z,B,G,rz,ov,g,q3⟩=>Calls.spliced_nil (d_get2 U G g ry rz fun w' ah J ab=>⟨_,B,J,ab,q3⟩)))))⟩
end
end L2
namespace Att
open PySem PySem.W PySem.Calls PyProof.Rows
def pH: ∀ns vs,WellAll P h vs (ns.map WData.int)->IntsAre vs ns:=by
 intro ns
 induction ns with
 |nil =>
  intro vs w;cases w;exact .nil
 |cons n ns q =>
  intro vs w
  cases w with
  |cons a b =>
   cases a;exact .cons _ _ (q _ b)
def KZ{l:OpenLaw}(S:l.most=some n)(I:l.row.toRowW.claim.pre q=true)(Y:WellAll P h ab q):
  ∃a vs ns,ab=[Value.ref a]/\q=[WData.list (ns.map WData.int)]/\h.get? a=some { cls:=.type "list",data:=.seq vs.toArray }/\IntsAre vs ns/\ns.length<=n:=by
 have G:l.pre.holds [] { args:=q }=true:=(pre_splitW I).2;obtain⟨d,r,rfl,h1,h2⟩:=hasAllW_cons ((pre_splitW I).1);obtain rfl:=hasAllW_nil h2;obtain⟨xs,rfl,J⟩:=hasW_list h1;obtain⟨ns,rfl⟩:=items_int J
 have O:ns.length<=n:=by
  delta OpenLaw.pre at G
  have F:(WTm.not (.lt (.lit (.int (n:Int))) (.len (.arg 0)))).holds [] { args:=[.list (ns.map .int)] }=true:=by
   have F:=(holds_andW G).1
   rwa [S] at F
  have B:=condW_of F (w_not (w_lt w_lit (w_len_list (w_arg rfl))));rw[AB] at B;refine Nat.le_of_not_lt fun ae=>?_;have Z:(n:Int) < ((ns.length:Nat):Int):=by omega
  first
   | (rw[Am Z] at B;exact absurd B (by decide))
   | (simp at B;lia)
 cases Y with
 |cons w1 w2 =>
  cases w2
  cases w1 with
  |list U L=>exact⟨_,_,ns,rfl,rfl,U,pH ns _ L,O⟩
def K7(l:OpenLaw)q:l.row.toRowW.claim.post q (.bool true) q=true :=
 postW_of
  (show WShape.has [] (.bool true) .bool=true by first | rfl | decide | simp[ WShape.arms])
  (w_eq_bool (w_res rfl) w_lit) rfl
def attach_call{l:OpenLaw}(hn:l.most=some n)(af:d.params.defaults=[])(Z:∀w L q mg I B o J cd F a vs ns,
   Ground av au [] S w L mg I q.heap->U w q.heap ->
   q.heap.get? B=some o->o.data=.func (docDef d.name d.params d.body d.scope J cd F)->q.heap.CodeRec cd d.name->mg d.name=some (.ref B) ->
   q.heap.get? a=some { cls:=.type "list",data:=.seq vs.toArray }->IntsAre vs ns->ns.length<=n->q.gens = #[] ->
   codeAny (model l.prog w) callerA (.call (.ref B) ⟨[.ref a],[]⟩) (fun r s'=>r=.ok (.ret (.bool true))/\OldK q.heap s'.heap/\s'.os=q.os/\AllBare s'.gens) q):
  WalkO av au S U l.row.toRowW d [] (fun f vs=>PySem.call f vs):=by
 intro w L q mg I G Y B o J cd F dV ar ho ae ab O aj hg aw a0 as ao ax az aq ay;obtain rfl:dV=.none:=Dflts.none O af;obtain rfl:ar=.none:=Dflts.noKw O;obtain⟨a,vs,ns,rfl,rfl,ak,ag,ah⟩:=KZ hn ao aq;refine enter_call (CN (Z w L q mg I B o J cd F a vs ns G Y ho (fd_plain ae) ab aj ak ag ah hg) fun r s' hq=>?_);obtain⟨rfl,h2,h3,h4⟩:=hq
 exact⟨.inl ⟨.bool true,.bool true,[],rfl,fun _=>rfl,.bool true,K7 l _,fun _=>⟨List.Pairwise.nil,fun _ ai=>(nomatch ai)⟩⟩,h2,h3,h4⟩
end Att
namespace L2
open PySem PySem.Spec PyProof.Rows
theorem gT:∀{vs}{ns},IntsAre vs ns->Vals (ns.map V.int) vs
 |_,_,.nil=>.nil
 |_,_,.cons n t h=>.cons ⟨t,rfl⟩ (gT h)
def Only(H:Hp):Prop:=∀b,H b=none\/∃o xs,H b=some (.frz o (.lst xs))
def YF{K}(L:K.In B.heap)(ab:B.heap.Ns mainGlobals mg)(F:B.heap.Ns builtinsNs mb)(aj:∀x:Str,x ≠ "__name__"->mb x=bootBuiltins x)(ao:B.heap.NoLimit)(hg:B.gens = #[])(G:B.heap.get? a=some { cls:=.type "list",data:=.seq vs.toArray })(hi:IntsAre vs ns)(hl:ns.length<=sizeLine)(hr:Room k callerA)(ag:∀base:Heap,K.In base->base.Ns mainGlobals mg->FnOk P w K mg base CX k Y fd [x] sp)(ak:∀(s:Shared)(u:Value),BindsTo s fd ⟨[u],[]⟩ [(x,u)])(ar:∀H:Hp,Only H->SqL K H a (ns.map V.int)->sp [.ref a] H (fun v _=>v=.bl true) fun _ _ _=>False)(ai:∀H e s',CX [] H B (fun _ _ _=>False) e s'->False):
  codeAny (model P w) callerA (.call (.ref Y) ⟨[.ref a],[]⟩) (fun r s'=>r=.ok (.ret (.bool true))/\OldK B.heap s'.heap/\s'.os=B.os/\AllBare s'.gens) B:=by
 have rv:=gT hi
 have S:∀H:Hp,Only H->SqL K H a (ns.map V.int)->HOk P w H B.heap->(∀b,H b≠none->b=a)->(H a≠none->K.lookup a=none) ->
   codeAny (model P w) callerA (.call (.ref Y) ⟨[.ref a],[]⟩) (fun r s'=>r=.ok (.ret (.bool true))/\OldK B.heap s'.heap/\s'.os=B.os/\AllBare s'.gens) B:=by
  intro H hO hS ae hA av;have O:∀{b:Addr}{o:Obj},B.heap.get? b=some o->H b=none->(Xk B.heap H).get? b=some o:=fun e n=>YW e n
  have au:∀{b:Addr}{o:Obj}{es:Array DictEntry}{ep:Nat},B.heap.get? b=some o->o.data=.dict es ep->H b=none:=fun {b o es ep}e d=>by
   cases q:H b with
   |none=>rfl
   |some u =>
    have e':=hA b (by lia);subst e';rw[G] at e;cases e
    cases d
  have I:∀{b:Addr}{m:Str->Option Value},B.heap.Ns b m->(Xk B.heap H).Ns b m:=fun {b m}zz=>fM zz fun o es ep e d r=> ⟨o,es,ep,O e (au e d),d,r⟩;have Z:K.In (Xk B.heap H):=fun b o e=>O (L b o e) (by grind);have e0:Env0 P w K mg (Xk B.heap H) callerA [] B H:=⟨rfl,(⟨Z,I ab,⟨mb,I F,aj⟩,let ⟨mc,h1,h2⟩:=ao;⟨mc,I h1,h2⟩⟩),fun b o e=>of_hidT e,DF (VC _ _),trivial,fun b F=>absurd (show b∈([]:List Addr) from F) (by simp),ae,.of_eq hg⟩
  refine CN ((ag _ Z (I ab)).run callerA [] B H ⟨[.ref a],[]⟩ [.ref a] [.ref a] _ _ hr e0 (ak B (.ref a)) (.cons rfl .nil) (ar H hO hS)) fun r s' h=>?_
  cases r with
  |error e=>exact(ai H e s' h).elim
  |ok fl =>
   cases fl with
   |next=>exact False.elim h
   |brk=>exact False.elim h
   |cont=>exact False.elim h
   |ret u =>
    refine R7 h fun v H' os ah af aq r' q=>?_;subst q;obtain rfl:u=Value.bool true:=r';refine⟨rfl,OldK.of_keep fun b o e=>?_,os,ah⟩
    cases q:H b with
    |none=>exact af.keep b o e q (by intro z;exact absurd (show b∈([]:List Addr) from z) (by simp)) (by simp)
    |some u =>
     rcases hO b with z | ⟨ob,xs,z⟩
     .lia
     .obtain ⟨U,_⟩:=ae b _ z
      obtain⟨e2,_⟩:=aq b _ (af.frzs b ob _ z);rw[e] at U;cases U
      exact e2
 cases hk:K.lookup a with
 |some o =>
  have e:=L a o hk;rw[G] at e;cases e;refine S (fun _=>none) (fun _=>.inl rfl) (.inr ⟨_,vs.toArray,_,hk,rfl,rfl,rfl,by rw[Aj,hi.length];exact hl,by simpa using rv⟩) (fun b u z=>by have J:=z;cases J) (fun b z=>absurd rfl z) fun z=>absurd rfl z
 |none =>
  refine S (fun b=>if b=a then some (.frz { cls:=.type "list",data:=.seq vs.toArray } (.lst (ns.map V.int))) else none) (fun b=>?_) (.inl (.inr ⟨{ cls:=.type "list",data:=.seq vs.toArray },Ah rfl⟩)) (fun b u z=>?_) (fun b z=>?_) fun _=>hk
  .grind
  .by_cases F:b=a
   .have J:=(Ah F).symm.trans z
    cases J;subst F;exact⟨G,by rw[AB];exact hl,vs,_,rv,G⟩
   .lia
  .lia
def walk_of{l:PySem.W.OpenLaw}{K:Params->Ds}{CX:World->CXT}{sp:World->Sp}(hn:l.most=some n)(ag:n<=sizeLine)(ab:d.params.defaults=[])(hr:Room k callerA)(Z:∀(w:World)(h:Heap),J w h->(K w.params).In h)(F:∀(w:World)(mg:Str->Option Value)(q:Addr)(h:Heap),(K w.params).In h->h.Ns mainGlobals mg->mg d.name=some (.ref q) ->
   ∃fd:FuncData,(∀(s:Shared)(u:Value),BindsTo s fd ⟨[u],[]⟩ [(x,u)]) /\
    ∀base:Heap,(K w.params).In base->base.Ns mainGlobals mg->FnOk l.prog w (K w.params) mg base (CX w) k q fd [x] (sp w))(ai:∀(w:World)(H:Hp)(a:Addr)(ns:List Int),ns.length<=n->Only H->SqL (K w.params) H a (ns.map V.int)->sp w [.ref a] H (fun v _=>v=.bl true) fun _ _ _=>False)(L:∀(w:World)(H:Hp)(s:Shared)(e:Value)(s':Shared),CX w [] H s (fun _ _ _=>False) e s'->False):
  PySem.W.WalkO av ar XP J l.row.toRowW d [] (fun f vs=>PySem.call f vs):=by
 refine Att.attach_call hn ab fun w aw aj mg mb q o au cd ak a vs ns G Y ho aq ao af ah ae I hg=>?_;have B:=Z w _ Y;exact dQ (F w mg q _ B G.T.g af) fun fd hb O=>YF B G.T.g G.T.b G.T.builtins G.T.nolimit hg ah ae (AY I ag) hr O hb (fun H S U=>ai w H a ns I S U) fun H e s'=>L w H aj e s'
noncomputable def tZ(s:Stmt)(j:Nat):Stmt:=match s with
 |.ClassDef _ _ _ q _ _ _ _ _ _ _=>q.getD j (.Pass ⟨0,0,0,0⟩)
 |_=>.Pass ⟨0,0,0,0⟩
noncomputable def uY(s:Stmt):Arguments:=match s with
 |.FunctionDef _ a _ _ _ _ _ _ _ _=>a
 |_=>{ posonlyargs:=[],args:=[],vararg:=none,kwonlyargs:=[],kw_defaults:=[],kwarg:=none,defaults:=[] }
noncomputable def nJ(s:Stmt):List Stmt:=match s with
 |.FunctionDef _ _ b _ _ _ _ _ _ _=>b
 |_=>[]
noncomputable def zX(s:Stmt):Scope:=match s with
 |.FunctionDef _ _ _ _ _ _ sc _ _ _=>sc
 |_=>{ kind:=.function,names:=[],isGenerator:=false,isCoroutine:=false }
abbrev CX0:CXT:=fun _ _ _ _ _ _=>False
abbrev E0:XK:=fun _ _ _=>False
def kO: jK CX0 X E0:=fun _ _ _ _ _ _ _ h=>h.elim
structure Fun(K:Ds)(x qual:Str)(st:Stmt)(f:Addr)(fd:FuncData):Prop where
 ex:∃(oc:Value)(od:Option Addr)(kV doc pm:Value)(an:Option Addr)(cdv ct:Value)(osl:Array (Option Value)),
  fd=PySem.W.fnOf x qual (uY st) (nJ st) (zX st) .none kV doc pm an cdv ct/\K.lookup f=some ⟨oc,od,.func fd,osl⟩/\PySem.W.codeIn K cdv qual=true
 kp:PySem.W.keepIn K (.ref f)=true
section
variable {P:Program}{w:World}{K:Ds}{mg:Str->Option Value}{base:Heap}
theorem Fun.ok{st}(F:Fun K x qual st f fd)(S:FnScope N ps (zX st))(O:∀vs H Q E,sp vs H Q E->vs.length=ps.length)(G:∀B A outer s H vs Q E,Room k (A.deeper (envOfC qual (zX st) s.heap.objs.size f B))->sp vs H Q E ->
   ∃t,PSs (vB CX0 P w K mg base N qual (zX st) f B A outer s H E).nox (nJ st) t/\t { nx:=fun _ H'=>Q .non H',rt:=Q } (start N vs) H):FnOk P w K mg base CX0 (k+1) f fd ps sp:=by
 obtain⟨oc,od,ae,ab,ag,Y,B,Z,af,rfl,U,I⟩:=F.ex;exact fn_of U I S O fun A outer s H vs Q E J L=>dQ (G B A outer s H vs Q E J L) fun t h q=>⟨t,h.nox,q⟩
def Fun.binds{st}(F:Fun K x qual st f fd)(h:∀(J I L:Value)(q:Option Addr)(B G:Value)(us:List Value),us.length=ps.length->bindArgs (PySem.W.fnOf x qual (uY st) (nJ st) (zX st) .none J I L q B G) ⟨us,[]⟩=pure (ps.zip us)):Binds K fd ps []:=by
 obtain⟨U,od,J,I,L,q,B,G,Y,rfl,S,O⟩:=F.ex;exact .all (h J I L q B G)
def qI{st}{F G q B}(l:K.lookup f=some ⟨L,od,.func (PySem.W.fnOf x qual (uY st) (nJ st) (zX st) .none F J G I q B),O⟩)(c:PySem.W.codeIn K q qual=true)(k:PySem.W.keepIn K (.ref f)=true):Fun K x qual st f (PySem.W.fnOf x qual (uY st) (nJ st) (zX st) .none F J G I q B):=⟨⟨L,od,F,J,G,I,q,B,O,rfl,l,c⟩,k⟩
end
def qZ(q:Room k A):A.units+1 < cLine:=An (Nat.add_le_add_left (by lia) _) q.units
section
variable {X:Cx}
def pv i{pos}(q:X.N[i]?=some x:=by rfl)(G:Vis X.env.scope x:=by first | exact Or.inl rfl | exact Or.inr (Or.inl rfl) | exact Or.inr (Or.inr rfl))(F:(x==("__debug__" : Str))=false:=by decide)(B:(x==("__classdict__" : Str))=false:=by decide):PE X (.Name x pos) (tVar i):=mW q G F B
end
def Same(H H':Hp):Prop:=∀b o,H b=some o->H' b=some o
def Same.refl H:Same H H:=fun _ _ h=>h
section
variable {X:Cx}
def VS:CallR X (.builtin "len") (fun xs H Q=>∃a kvs,xs=[V.ref a]/\H a=some (.dK kvs)/\Q (.int kvs.length) H):=by
 intro pins s σ H xs us Q I r h;obtain⟨a,kvs,rfl,F,q⟩:=h;obtain⟨u,rfl,rfl⟩:=jU r;exact d_len I (.inl F) fun t s' B=>⟨.int kvs.length,H,B,⟨t,rfl⟩,q⟩
end
noncomputable def noStar:Expr->Bool
 |.Starred _ _=>false
 |_=>true
def yZ(h:noStar e=true):starEach (e::es) q=(false,eval e q)::starEach es q:=by
 cases e<;>first | rfl | exact absurd h AN
theorem yW: ∀{es},es.all noStar=true->(backTo pos (starEach es q)).any (·.1)=false
 |[],_=>rfl
 |e::es,h=>by
  rw[List.all_cons,Bb] at h;rw[yZ h.1];show(false || (backTo pos (starEach es q)).any (·.1))=false;rw[yW h.2]
  rfl
section
variable {X:Cx}{e:Expr}{es:List Expr}{te:TE}{t:TA}{x:Str}{p pos:Pos}
def lJ(q:PE X e te)(B:PA X es t)(hs:noStar e=true:=by rfl):PA X (e::es) (Ww te t):=aH q B (yZ hs)
def xx(F:FnOk X.prog X.w X.K X.mg X.base CX k f fd ps sp)(S:Room k X.A)(L:Gl X x)(O:X.mg x=some (.ref f))(hk:PySem.W.keepIn X.K (.ref f)=true)(G:Binds X.K fd ps ds)(I:Vals dvs ds)(U:jK CX X E)(q:PA X (e::es) t)(J:(x==("__debug__" : Str))=false:=by decide)(hs:noStar e=true:=by rfl)(B:es.all noStar=true:=by rfl):PE X (.Call (.Name x p) (e::es) [] pos) (Wy sp dvs E t) :=
 pe_call F S L O hk G I U q J (yZ hs) (yW B)
def WL{id}(F:CallR X (.builtin id) r)(I:Gl X x)(J:X.mg x=none)(O:bootBuiltins x=some (.builtin id))(q:PA X (e::es) t)(L:x ≠ "__name__":=by decide)(G:(x==("__debug__" : Str))=false:=by decide)(hs:noStar e=true:=by rfl)(B:es.all noStar=true:=by rfl):PE X (.Call (.Name x p) (e::es) [] pos) (tCB r t):=jD F I J O q L G (yZ hs) (yW B)
def K3(F:CallR X (.type T) r)(I:Gl X x)(J:X.mg x=none)(O:bootBuiltins x=some (.type T))(q:PA X (e::es) t)(L:x ≠ "__name__":=by decide)(G:(x==("__debug__" : Str))=false:=by decide)(hs:noStar e=true:=by rfl)(B:es.all noStar=true:=by rfl):PE X (.Call (.Name x p) (e::es) [] pos) (tCB r t):=K9 F I J O q L G (yZ hs) (yW B)
end
section
variable {prog:Program}{w:World}{A:Around}{R:Result->Shared->Prop}{s:Shared}
def yI(I:Nat->Shared->Prop)(ai:∀n s,I n s->wpAny (model prog w) A (pyNext it) (fun r B=>match r with
   |none=>R (.ok .next) B
   |some v=>wpAny (model prog w) A (letOwnedTupleGo Y it v) (fun _ B=>wpAny (model prog w) A (assign Y F v) (fun _ O=>
     wpAny (model prog w) A (forIn ah true fun c r=>if r=true then do let q <- isTrue c F (eval c F);pure (ForInStep.yield q) else pure (ForInStep.yield r)) (fun q G=>
      if q=true then wpAny (model prog w) A (eval Z F) (fun x S=>
       wpAny (model prog w) A (call (.builtin "list.append") [acc,x]) (fun _ U=>∃m,m < n/\I m U) (fun _ _=>False) S) (fun _ _=>False) G
      else ∃m,m < n/\I m G) (fun _ _=>False) O) (fun _ _=>False) B) (fun _ _=>False) B) (fun _ _=>False) s)n(h:I n s):
  codeAny (model prog w) A (.compLoop (.ListComp Z [⟨Y,aj,ah,0⟩] scope pos) 0 it acc F) R s:=by
 refine codeAny_loop rfl I (fun n s hI=>wpAny_noted (AA (B4 (AA (A3 (ai n s hI) (fun r B J=>?_) fun _ _ h'=>False.elim h'))))) n h
 cases r with
 |none=>exact AD J
 |some v =>
  refine AA (A3 J (fun _ ak ab=>AA (A3 ab (fun _ O ae=>AA (A3 ae (fun q G L=>?_) fun _ _ h'=>False.elim h')) fun _ _ h'=>False.elim h')) fun _ _ h'=>False.elim h')
  cases q with
  |false=>exact AD ⟨rfl,L⟩
  |true =>
   exact AA (AA (A3 L (fun x S af=>AA (A3 af (fun _ U ag=>AD (AD ⟨rfl,ag⟩)) fun _ _ h'=>False.elim h')) fun _ _ h'=>False.elim h'))
end
theorem kK{B:Env}:∀{G:List (Str×NameKind)}{y:Str}{k:NameKind},
  (G.map fun(n,k)=>if (k==NameKind.free&&B.scope.kind==.function&&B.kindOf n==some .cell) then (n,NameKind.cell) else (n,k)).lookup y=some k ->
   ∃F,(y,F)∈G/\(k=F\/(F=.free/\k=.cell))
 |[],_,_,h=>by simp at h
 | (n,I)::r,y,k,h=>by
  cases L:y==n with
  |true =>
   by_cases J:(I==NameKind.free&&B.scope.kind==.function&&B.kindOf y==some .cell)=true
   .grind
   .grind
  |false =>
   have h2:(r.map fun(n,k)=>if (k==NameKind.free&&B.scope.kind==.function&&B.kindOf n==some .cell) then (n,NameKind.cell) else (n,k)).lookup y=some k :=by grind
   exact dQ ((@kK B r y k) h2) fun F m q=>⟨F,AJ _ m,q⟩
def Wa(X:Cx)(q:List Expr)(t:TT):Prop :=
 ∀(pins:List (Addr×Obj))(s:Shared)(σ:St)(H:Hp)(Q:Bool->Hp->Prop),Inv X pins σ H s->t σ H Q ->
  wpAny (model X.prog X.w) X.A (forIn q true fun c r=>if r=true then do let B <- isTrue c X.env (eval c X.env);pure (ForInStep.yield B) else pure (ForInStep.yield r)) (TP X pins σ Q) X.xe s
def UV:TT:=fun _ H Q=>Q true H
def WZ: Wa X [] UV:=fun _ _ _ H _ I h=>wpAny_tests_nil ⟨H,I,h⟩
def WY(h:PT X c t):Wa X [c] t:=fun pins s σ H Q I q=>wpAny_tests_one (h pins s σ H Q I q)
noncomputable def o4(X:Cx)(xs:List Str)(scope:Scope)(B:List (Str×Addr))(F:List Addr)(C:Addr)(G:Shared)(q:Hp):Cx where
 prog:=X.prog
 w:=X.w
 K:=X.K
 mg:=X.mg
 base:=X.base
 A:=X.A
 N:=xs++X.N
 s₀:=G
 H₀:=q
 env:=compEnvC scope B C X.env
 outer:=X.stack
 stack:=X.stack
 ex:=F
 fn:=fun _=>false
 calm:=X.calm
 pn:=[]
 xe:=fun _ _=>False
abbrev lK X x:=o4 X [x]
def Qr(F:TI)(tc:TT)(te:TE):TE:=fun σ H Q=>F σ H fun J H1=>∀D,H1 D=none->∃W:Nat->Nat->List V->Hp->Prop,(∃m,W 0 m [] (upd H1 D (.lst [])))/\∀i m ys H,W i m ys H ->
 (J.stop i H/\Q (.ref D) H)\/(J.go i H/\∀x H',J.yld i H x H'->tc (some x::σ) H' fun b H2=>
  if b=true then te (some x::σ) H2 fun y B=>B D=some (.lst ys)/\ys.length < sizeLine/\∃q,q < m/\W (i+1) q (ys++[y]) (upd B D (.lst (ys++[y])))
  else ∃q,q < m/\W (i+1) q ys H2)
section
variable {X:Cx}
structure fV(X:Cx)(xs:List Str)(scope:Scope)(cl:List (Str×Addr)):Prop where
 clos:closureFor scope X.env=pure cl
 cell:∀y∈scope.names,y.2≠.cell
 kind:scope.kind=.function
 names:∀y∈scope.names,y.2=.local->scope.names.lookup y.1=some .local
 hx:∀x∈xs,scope.names.lookup x=some .local
 loc:∀y∈scope.names,y.2=.local->y.1∉X.N
 free:∀y∈scope.names,y.2=.free->X.env.kindOf y.1≠some .local/\(X.env.kindOf y.1=some .cell\/X.env.kindOf y.1=some .free)/\∃c,cl.lookup y.1=some c
 cl:∀y c,cl.lookup y=some c->X.env.cells.lookup y=some c
abbrev dF X x:=fV X [x]
def yB{te:TE}{g:TG}{Tk:V->Hp->List V->Prop}{RR:Value->Addr->Result->Shared->Prop}{EE:Value->Shared->Prop}(hc:X.calm=true)(K:fV X xs scope S)(hg:∀L C B G,PG (o4 X xs scope S L C B G) tg g)(ht:∀L C B G,Wa (o4 X xs scope S L C B G) a7 tc)(b1:∀L C B G,PE (o4 X xs scope S L C B G) az te){pins:List (Addr×Obj)}{σ:St}{B:Shared}{G:Hp}{it:Addr}{L:List Addr}{tn:Nat->Heap->Prop}{J:It}{Q:VK}(hG:∀bg vs x H Q,bg.length=xs.length->Tk x H vs->vs.length=xs.length->Q (vs.map some++σ) H->g x (bg++σ) H Q)(I:Inv X pins σ G B)(T:Uj X.prog X.w X.K tg J L it tn)(bc:tn 0 B.heap)(Z:∀b∈L,X4 X pins G b)(R:∀D,G D=none->∃W:Nat->Nat->List V->Hp->Prop,(∃m,W 0 m [] (upd G D (.lst [])))/\∀i m ys H,W i m ys H ->
   (J.stop i H/\Q (.ref D) H)\/(J.go i H/\∀x H',J.yld i H x H'->∃vs,Tk x H' vs/\vs.length=xs.length/\tc (vs.map some++σ) H' fun b H2=>
    if b=true then te (vs.map some++σ) H2 fun y H3=>H3 D=some (.lst ys)/\ys.length < sizeLine/\∃Y,Y < m/\W (i+1) Y (ys++[y]) (upd H3 D (.lst (ys++[y])))
    else ∃Y,Y < m/\W (i+1) Y ys H2))(bx:∀(D C:Addr)(H:Hp)(ab:Shared)(m:Str->Option Value),ab.heap.Ns C m->C≠X.env.locals->H C=none->(∀x c,X.env.cells.lookup x=some c->c≠C)->B.heap.objs.size<=C->Inv X pins σ H ab ->
   Q (.ref D) H->RR (.ref D) C (.ok .next) ab):
  wpAny (model X.prog X.w) X.A (newList []) (fun acc aj=>wpAny (model X.prog X.w) X.A (newFunctionEnv scope X.env.globals S [] X.env.qual none .none (some X.env)) (fun ay cp=>
   codeAny (model X.prog X.w) X.A (.compStart (.ListComp az [⟨tg,b4,a7,0⟩] scope pos) 0 (.ref it) acc { ay with scope:=relabel scope X.env }) (RR acc ay.locals) cp) EE aj) EE B:=by
 refine Ax (wpAny_newFunctionEnv K.cell (by intro y hy;simp at hy) (fun ao au ak=>?_) K.kind);dsimp only at au ak ⊢;generalize ar:B.heap.push { cls:=.type "list",dict:=none,data:=.seq ([]:List Value).toArray }=H2 at au ak ⊢;have hC:H2.objs.size=B.heap.objs.size+1:=by rw[<- ar,Br]
 have a5:B.heap.objs.size≠H2.objs.size :=hC▸AV (CP _);have ag:∀b,b < B.heap.objs.size->b≠H2.objs.size/\b≠B.heap.objs.size:=fun b F=>⟨by exact hC▸AV (Nat.lt_succ_of_lt F),AV F⟩;have ai:∀b o,B.heap.get? b=some o->ao.get? b=some o:=fun b o e=>ak.extBut b o (ag b (AH e)).1 (AC _ (ar▸AC _ e));have fD:=I.hok.fresh (AI _)
 have fC:G H2.objs.size=none:=I.hok.fresh (hC▸Bn _);have a0:∀b∈L,b < B.heap.objs.size:=fun b F=>let ⟨o,e,_⟩:=T.obj _ _ bc b F;AH e
 obtain⟨W,⟨b6,w0⟩,cq⟩:=R B.heap.objs.size fD
 have aq:(o4 X xs scope S L H2.objs.size B G).Ok:=by
  refine⟨I.ok.mod,K.kind,I.ok.glob,I.ok.blt,?_,fun y z c h1 h2=>I.ok.inj y z c (K.cl y c h1) (K.cl z c h2),fun y hy=>?_,fun y c h _=>?_,I.ok.hd,I.ok.frames,.inl rfl,fun b F=>⟨(ag b (a0 b F)).1,fun y c h=>(Z b F).2.2.2.2.1 y c (K.cl y c h)⟩,I.bs,
   AY I.ok.bsz I.sz,fun b o e F=>?_,fun b F z=>?_,I.stack,I.stkFree⟩
  .exact hC▸Bn _
  .have bq:(y,NameKind.free)∈scope.names:=by
    rcases hy with q | q
    .obtain ⟨k0,O,z | ⟨z,_⟩⟩:=kK q
     .subst z;exact absurd rfl (K.cell _ O)
     .subst z;exact O
    .obtain ⟨k0,O,z | ⟨z,w⟩⟩:=kK q
     .subst z;exact O
     .cases w
   exact(K.free _ bq rfl).2.2
  .exact absurd h AN
  .refine uR (Z b F) fun _ _ _ f3 _=>?_
   rcases f3 with z | z
   .exact I.ok.noex b o e z
   .exact absurd (AK (AH (I.ok.bs b o e).1) z) (A7 _)
  .refine Gp (Z b F) fun _ bj bo _=>?_
   rcases AZ.mp (I.stkSub b z) with q | q
   .exact bj q
   .exact bo q
 have cy:∀b,G b≠none->b≠B.heap.objs.size:=fun b F z=>F (z▸fD);have b5:HOk X.prog X.w (upd G B.heap.objs.size (.lst [])) ao:=I.hok.laid ai (AI _) ⟨AW _,[],_,.nil,(ak.extBut _ _ a5 (AC _ (ar▸AL _ rfl)))⟩
 have ct:∀y,Vis (relabel scope X.env) y->y∈X.N->(y,NameKind.free)∈scope.names/\((relabel scope X.env).names.lookup y=some .cell\/(relabel scope X.env).names.lookup y=some .free):=by
  intro y hv b3
  rcases hv with q | q | q
  .obtain ⟨k0,O,z | ⟨z,w⟩⟩:=kK q
   .subst z;exact absurd b3 (K.loc _ O rfl)
   .cases w
  .obtain ⟨k0,O,z | ⟨z,w⟩⟩:=kK q
   .subst z;exact absurd rfl (K.cell _ O)
   .subst z;exact⟨O,.inl q⟩
  .obtain ⟨k0,O,z | ⟨z,w⟩⟩:=kK q
   .subst z;exact⟨O,.inr q⟩
   .cases w
 have I':∀tk,Inv (o4 X xs scope S L H2.objs.size B G) [] (List.replicate xs.length none++σ) (upd G B.heap.objs.size (.lst [])) { B with heap:=ao,toks:=tk }:=by
  intro tk;refine⟨aq,rfl,I.bare,Un.laid ai (AI _) fD,⟨_,au,fun i y v h1 h2 h3=>?_⟩,fun y c h=>?_,?_,fun y c h=>?_,fun p hp=>absurd hp (by simp[o4]),b5,?_⟩
  .rcases DE i xs.length with hi | hi
   .rw [CY (by rwa [Bh]),List.getElem?_replicate,Ah hi] at h2
    cases h2
   .have a4:X.N[i - xs.length]?=some y:=by
     have h1:(xs++X.N)[i]?=some y:=h1
     rwa [DJ hi] at h1
    have bu:σ[i - xs.length]?=some (some v):=by
     rw[DJ (by rwa [Bh]),Bh] at h2;exact h2
    obtain⟨fm,kk⟩:=ct y h3 (Ai a4);obtain⟨b7,vz,c,a6⟩:=K.free _ fm rfl;refine dQ I.loc fun mm hn hl=>dQ (hl (i - xs.length) y v a4 bu (vz.elim (fun z=>.inr (.inl z)) fun z=>.inr (.inr z))) fun u ru l=>?_
    rcases l with ⟨z,_⟩ | ⟨_,c',bz,b0⟩
    .exact absurd z b7
    .have ec:=Au (bz.symm.trans (K.cl _ _ a6))
     subst ec;obtain⟨o,ho,ah⟩:=b0;exact⟨u,ru,.inr ⟨kk,c',a6,o,ai _ _ ho,ah⟩⟩
  .obtain ⟨v,o,ho,ah⟩:=I.cell y c (K.cl y c h)
   exact⟨v,o,ai _ _ ho,ah⟩
  .show upd G _ _ H2.objs.size=none
   rwa [pQ (Ne.symm a5)]
  .obtain ⟨v,o,ho,ah⟩:=I.cell y c (K.cl y c h)
   exact(pQ (ag c (AH ho)).2)▸I.freeC y c (K.cl y c h)
  .show (List.replicate xs.length none++σ).length=(xs++X.N).length
   rw[AE,AE,Bh,I.len]
 have aw:∀{H':Hp},(∀b∈L,H' b=none)->∀b∈L,X4 (o4 X xs scope S L H2.objs.size B G) [] H' b:=fun hn b F=>
  ⟨hn b F,(aq.exf b F).1,aq.exfs b F,.inl F,(aq.exf b F).2,fun p hp=>absurd hp (by simp[o4])⟩
 have bf:=T.keep _ _ _ bc fun b _ o e=>ai b o e;have bp:∀b∈L,upd G B.heap.objs.size (.lst []) b=none:=fun b F=>(pQ (ag b (a0 b F)).2)▸(Z b F).1
 have a8:∀aj:Shared,(∃tk,aj={ B with heap:=ao,toks:=tk }) ->
   codeAny (model X.prog X.w) X.A (.compLoop (.ListComp az [⟨tg,b4,a7,0⟩] scope pos) 0 (.ref it) (.ref B.heap.objs.size) (compEnvC scope S H2.objs.size X.env))
    (RR (.ref B.heap.objs.size) H2.objs.size) aj:=by
  rintro aj ⟨tk,rfl⟩
  refine yI (fun n s'=>∃i ys H' ae,ae.length=xs.length/\Inv (o4 X xs scope S L H2.objs.size B G) [] (ae++σ) H' s'/\tn i s'.heap/\(∀b∈L,H' b=none)/\W i n ys H') ?_ b6
   ⟨0,[],_,List.replicate xs.length none,Bh,I' tk,bf,bp,w0⟩
  rintro n a9 ⟨i,ys,H3,ae,l0,I3,bb,a3,w3⟩
  rcases cq i n ys H3 w3 with ⟨cn,qn⟩ | ⟨bt,ck⟩
  .refine thn (T.done (o4 X xs scope S L H2.objs.size B G) rfl rfl rfl hc i [] a9 (ae++σ) H3 (fun _ _=>False) I3 (aw a3) bb cn) fun r ab U=>uF U fun hr I4=> ?_
   subst hr;show RR _ _ (.ok .next) ab;refine dQ I4.loc fun m hn _=>?_;have cg:=I4.os;refine bx _ _ H3 ab m hn ?_ I4.free (fun y c h z=>?_) (hC▸Bn _) ?_ qn
   .exact Ne.symm (ag _ I.lt).1
   .exact bG (I.cell y c h) fun v o ho ah=>(ag c (AH ho)).1 z
   .obtain ⟨hh,g,d,t,cb⟩:=ab
    obtain rfl:cb=B.os:=cg;exact I.call (h':=hh) (g':=g) (d':=d) (t':=t) I4.base I4.hok I4.bare fun b F=>⟨(Z b F).2.2.2.1,(Z b F).2.1,(Z b F).2.2.2.2.1,(Z b F).2.2.2.2.2⟩
  .refine thn (T.item (o4 X xs scope S L H2.objs.size B G) rfl rfl rfl hc i [] a9 (ae++σ) H3 (fun _ _=>False) I3 (aw a3) bb bt) fun r ab U=>dQ U fun u hr h4=> ?_
   subst hr;refine thn h4 fun _ ba U=>Et U fun x5 H5 I5 r5 y5 av br=> ?_
   have ax:∀{H':Hp}{s':Shared}{τ:St},Inv (o4 X xs scope S L H2.objs.size B G) ([]++wC L ba.heap) τ H' s'->tn (i+1) s'.heap/\∀b∈L,H' b=none:=fun I7=>
    ⟨T.keep _ _ _ av fun b F o e=>(I7.pin (b,o) (Aa _ (Aa _ (sG F e)))).1,fun b F=>dQ (T.obj _ _ av b F) fun o e d=>(I7.pin (b,o) (Aa _ (Aa _ (sG F e)))).2.1⟩
   refine xZ (ck x5 H5 y5) fun af cj l5 q5=>thn (hg L _ B G _ ba (ae++σ) H5 x5 u (fun cw H'=>cw=af.map some++σ/\H'=H5) (I5.pinned (aw br) (T.obj _ _ av)) r5 (hG ae af x5 H5 _ l0 cj l5 ⟨rfl,rfl⟩)) fun _ s6 U=>nX U fun cz H6 I6 e6 bh=> ?_;subst e6 bh;have l6:(af.map some).length=xs.length:=by rwa [AB]
   refine thn (ht L _ B G _ s6 (af.map some++σ) H6 _ I6 q5) fun b9 s7 U=>dQ U fun H7 I7 q7=> ?_
   cases b9 with
   |false =>
    rw[Af AN] at q7;rw[Af AN];refine dQ q7 fun Y O w7=>?_;obtain⟨k1,k2⟩:=ax I7;exact⟨Y,O,i+1,ys,H7,af.map some,l6,I7.unpinned,k1,k2,w7⟩
   |true =>
    rw[Ah rfl] at q7;rw[Ah rfl];refine thn (b1 L _ B G _ s7 (af.map some++σ) H7 _ I7 q7) fun y s8 ⟨y8,H8,I8,r8,bw,b2,Y,O,cu⟩=>thn (uO _ s8 _ H8 (.ref B.heap.objs.size) [y8] (.ref B.heap.objs.size) [y] (fun _ H9=>H9=upd H8 B.heap.objs.size (.lst (ys++[y8]))) I8 rfl (.cons r8 .nil) ⟨_,ys,y8,rfl,rfl,bw,b2,rfl⟩) fun _ s9 U=>nX U fun _ H9 I9 _ e9=> ?_;subst e9;obtain⟨k1,k2⟩:=ax I9
    exact⟨Y,O,i+1,ys++[y8],_,af.map some,l6,I9.unpinned,k1,k2,cu⟩
 exact codeAny_compStart_list (a8 _ ⟨_,rfl⟩) (T.self _ 0 _ _ _ bf (a8 _ ⟨_,rfl⟩))
def yw{S O:Expr}{x:Str}{Z pos:Pos}{Y:List Expr}{scope:Scope}{L:List (Str×Addr)}{wi:TI}{tc:TT}{te:TE}(hc:X.calm=true)(hN:(x::X.N).Nodup)(K:dF X x scope L)(hi:PI X (.Name x Z) O wi)(ht:∀F C G B,Wa (lK X x scope L F C G B) Y tc)(ai:∀F C G B,PE (lK X x scope L F C G B) S te)(hs:∀v,foldedSetIterable O X.env v=pure v:=by intro _;rfl):PE X (.ListComp S [⟨.Name x Z,O,Y,0⟩] scope pos) (Qr wi tc te):=by
 intro pins s σ H Q ab h;rw[eval_ListComp];refine DS (use:=none) rfl hs K.clos K.kind K.names (thn (hi pins s σ H _ ab h) fun xv aw ak=>thn ak fun av G ao=>?_);obtain⟨it,F,tn,J,B,e,I,T,ar,ae,R⟩:=ao;subst e;refine yB (g:=nM 0) (Tk:=fun x _ vs=>vs=[x]) hc K (fun _ _ _ _=>zD (i:=0) (x:=x) hN rfl (.inl (Bm (K.hx x (.head _)))) (.inr (Bm (K.hx x (.head _))))) ht ai (by rintro au vs y H Q l rfl _ q;match au,l with | [_],_=>exact q) I T ar ae (fun D hD=>let ⟨W,w0,tu⟩:=R D hD;⟨W,w0,fun i m ys H w=>(tu i m ys H w).imp id fun zz=>uF zz fun g st=> ⟨g,fun x H' y=>⟨[x],rfl,rfl,st x H' y⟩⟩⟩) ?_
 intro D C H aq m hn ag af ah U I4 q;refine⟨m,hn,fun h' aj=>⟨.ref D,H,?_,rfl,q⟩⟩;refine I4.turned (it:=C) (t':=aq.toks) (fun b o hb e=>(aj.2 b hb).trans e) af ag (.inr (AY I.sz U)) ah fun p hp z=>?_;exact absurd (AK (AH (I.pin p hp).1) (by rw[z];exact U)) (A7 _)
end
def V3(ys:List Bool):((List.range ys.length).all fun i=>(ys[i]?).getD false)=ys.all id:=by
 rw[Bool.eq_iff_iff,CV,CV]
 constructor
 .intro h b B
  obtain⟨i,hi⟩:=Cu.mp B;have q:=(Ab.mp hi).1;have:=h i (BL.mpr q)
  rwa [hi] at this
 .intro h i hi
  have q:=BL.mp hi;exact(AM q)▸h _ (BF q)
section
variable {X:Cx}
def G4(Y:X.calm=true):CallR X (.builtin "all") (fun xs H Q=>∃p ys,xs=[.ref p]/\SqL X.K H p (List.map V.bl ys)/\Q (.bl (ys.all id)) H):=by
 intro pins s σ H xs us Q I r h;obtain⟨p,ys,rfl,hq,ab⟩:=h;obtain⟨u,rfl,rfl⟩:=jU r;obtain⟨B,O,F,hz⟩:=(I.list hq);have G:B.length=ys.length:=by rw[<- O.length,AB]
 refine bG (id F) fun o n Z _=>call_all_walk (wpAny_pyIter_list F.isList ⟨s.heap.objs.size,_,_,_,_,_,fun i=>(ys[i]?).getD false,rfl,Walks.list (A:=X.A.in1) (I.ok.hd Y) s.heap.objs.size p (AV (AH Z)) B.toArray,⟨⟨_,AL _ rfl,rfl,rfl⟩,F.isList.push _⟩,fun i v s' U E' hP q=>?_,fun h' tk kk=>?_⟩)
 .have L:B[i]?=some v :=by simp_all
  have hi :=G▸(Ab.mp L).1;have hy:(List.map V.bl ys)[i]?=some (.bl ys[i]):=by rw[Aq,AM hi];rfl
  obtain⟨u,J,ru⟩:=(O.get hy);rw[L] at J;cases J;cases ru;have q:U ((ys[i]?).getD false) s':=q;rw[AM hi] at q;exact Bk q
 .have S:Inv X pins σ H { s with heap:=h',toks:=tk }:=I.kept fun b o e=>kk b o (by intro z;exact absurd (AH e) ((AF.mp z)▸A7 _)) (AC _ e)
  have e:((List.range B.toArray.size).all fun i=>(ys[i]?).getD false)=ys.all id:=by rw[Aj,G,V3]
  exact e▸⟨.bl (ys.all id),H,S,rfl,ab⟩
inductive Ty where
 |non | bl | int | str | lst | tup | dct
 deriving DecidableEq
noncomputable def pU:Ty->String
 |.non=>"NoneType" | .bl=>"bool" | .int=>"int" | .str=>"str" | .lst=>"list" | .tup=>"tuple" | .dct=>"dict"
noncomputable def Pg:HO->Option Ty
 |.lst _=>some .lst
 |.frz _ (.lst _)=>some .lst
 |.tup _=>some .tup
 |.dK _=>some .dct
 |.dT _=>some .dct
 |_=>none
noncomputable def TX(H:Hp):V->Option Ty
 |.non=>some .non
 |.bl _=>some .bl
 |.int _=>some .int
 |.str _=>some .str
 |.ref a=>(H a).bind Pg
 |_=>none
def vy{K}(h:TX H x=some n):cP K H x (.type (pU n)):=by
 cases x with
 |non=>cases h;exact .non
 |bl b=>cases h;exact .bl b
 |int i=>cases h;exact .int i
 |str z=>cases h;exact .str z
 |ref a =>
  have h:(H a).bind Pg=some n:=h
  cases e:H a with
  |none=>rw[e] at h;cases h
  |some o =>
   rw[e] at h
   cases o with
   |lst xs=>cases h;exact .lst e
   |tup xs=>cases h;exact .tup e
   |dK kvs=>cases h;exact .dK e
   |dT kvs=>cases h;exact .dT e
   |frz q u =>
    cases u with
    |lst xs=>cases h;exact .frz e
    |_=>cases h
   |_=>cases h
 |byt b=>cases h
 |flt b=>cases h
 |ty n=>cases h
noncomputable def fH:Ty->Ty->Bool
 |.bl,.int=>true
 |a,b=>decide (a=b)
def Dz K n T:PySem.W.kitOne K (.type (pU n)) (.type (pU T))=some (fH n T):=by
 cases n<;>cases T<;>with_unfolding_all rfl
def rV:CallR X (.builtin "isinstance") (fun xs H Q=>∃x T n,xs=[x,.ty (pU T)]/\TX H x=some n/\Q (.bl (fH n T)) H):=by
 intro pins s σ H xs us Q I r h;obtain⟨x,T,n,rfl,B,q⟩:=h;obtain⟨u,G,rfl,F,rfl⟩:=sN r;exact Vy I F (vy B) (Dz X.K n T) fun tk=>⟨.bl (fH n T),H,I.tok tk,rfl,q⟩
def QQ:OpR X (binaryOp .FloorDiv) (rI (fun _ j=>0 < j/\j < 18446744073709551616) fun i j=>.int (i / j)):=opI fun i j _ _ _ _ _ F q=>by
 refine floordiv_int (by lia) (by grind) (.inl (PyProof.noPylong_of_log2 ?_));have B:j.natAbs < 2 ^ 64 :=by lia
 exact AK ((Nat.log2_lt (by omega)).mpr B) (by decide)
end
structure JE(X:Cx)(e:Expr)(t:TE):Prop where
 h:PE X e t
structure JT(X:Cx)(e:Expr)(t:TT):Prop where
 h:PT X e t
structure JW(X:Cx)(e:Expr)(t:TT):Prop where
 h:PW X e t
structure JA(X:Cx)(es:List Expr)(t:TA):Prop where
 h:PA X es t
structure JS(X:Cx)(st:Stmt)(t:TS):Prop where
 h:PS X st t
structure JB(X:Cx)(st:List Stmt)(t:TS):Prop where
 h:PSs X st t
structure JG(X:Cx)(e:Expr)(t:TG):Prop where
 h:PG X e t
structure O6(X:Cx)(es:List Expr)(t:TGs):Prop where
 h:PGs X es t
structure JI(X:Cx)(tg e:Expr)(t:TI):Prop where
 h:PI X tg e t
structure JF(X:Cx)(ifs:List Expr)(t:TT):Prop where
 h:Wa X ifs t
structure JO(X:Cx)(e:Option Expr)(t:TO):Prop where
 h:PO X e t
section
variable {X:Cx}{a b c e o i:Expr}{es:List Expr}{ta tb tc te:TE}{tA tB':TT}{t:TA}{pos:Pos}{rest:List Expr}
def Eg(B:Gl X x)(F:X.mg x=none)(I:bootBuiltins x=some u)(r:RelV v u)(G:x ≠ "__name__":=by decide)(q:(x==("__debug__" : Str))=false:=by decide):JE X (.Name x pos) (tC v):=⟨JU B F I r G q⟩
noncomputable def mL:Expr->Bool
 |.Name _ _=>true | .Call _ _ _ _=>true | .Subscript _ _ _=>true | .Attribute _ _ _=>true | .IfExp _ _ _ _=>false | _=>false
def bW(h:mL e=true):∀q,isTrue e B q=(do let v <- q;standAt e.pos;holding [v] (truthy v)):=by
 cases e<;>first | (intro _;rfl) | exact absurd h AN
def yD(q:JE X e te)(B:JA X es t)(hs:noStar e=true:=by rfl):JA X (e::es) (Ww te t):=⟨lJ q.h B.h hs⟩
def Ef{p}(F:FnOk X.prog X.w X.K X.mg X.base CX k f fd ps sp)(S:Room k X.A)(L:Gl X x)(O:X.mg x=some (.ref f))(hk:PySem.W.keepIn X.K (.ref f)=true)(G:Binds X.K fd ps ds)(I:Vals dvs ds)(U:jK CX X E)(q:JA X (e::es) t)(J:(x==("__debug__" : Str))=false:=by decide)(hs:noStar e=true:=by rfl)(B:es.all noStar=true:=by rfl):JE X (.Call (.Name x p) (e::es) [] pos) (Wy sp dvs E t):=⟨xx F S L O hk G I U q.h J hs B⟩
def gG{p}(F:CallR X (.type T) r)(I:Gl X x)(J:X.mg x=none)(O:bootBuiltins x=some (.type T))(q:JA X (e::es) t)(L:x ≠ "__name__":=by decide)(G:(x==("__debug__" : Str))=false:=by decide)(hs:noStar e=true:=by rfl)(B:es.all noStar=true:=by rfl):JE X (.Call (.Name x p) (e::es) [] pos) (tCB r t):=⟨K3 F I J O q.h L G hs B⟩
def Ed{J I:Expr}{x:Str}{O:Pos}{L:List Expr}{scope:Scope}{G:List (Str×Addr)}{S:TI}{tc:TT}(Y:X.calm=true)(U:(x::X.N).Nodup)(K:dF X x scope G)(hi:JI X (.Name x O) I S)(ht:∀B C F q,JF (lK X x scope G B C F q) L tc)(Z:∀B C F q,JE (lK X x scope G B C F q) J te)(hs:∀v,foldedSetIterable I X.env v=pure v:=by intro _;rfl):JE X (.ListComp J [⟨.Name x O,I,L,0⟩] scope pos) (Qr S tc te) :=
 ⟨yw Y U K hi.h (fun B C F q=>(ht B C F q).h) (fun B C F q=>(Z B C F q).h) hs⟩
variable {tg:Expr}
end
section
variable {X:Cx}{st:Stmt}{sts:List Stmt}{t u:TS}{e c:Expr}{te:TE}{tc:TT}{pos:Pos}
end
section
variable {P:Program}{w:World}{K:Ds}{mg:Str->Option Value}{base:Heap}
def Fun.okJ{st}(F:Fun K x qual st f fd)(S:FnScope N ps (zX st))(L:∀vs H Q E,sp vs H Q E->vs.length=ps.length)(G:∀B A outer s H vs Q E,Room k (A.deeper (envOfC qual (zX st) s.heap.objs.size f B))->sp vs H Q E ->
   ∃t,JB (vB CX0 P w K mg base N qual (zX st) f B A outer s H E).nox (nJ st) t/\t { nx:=fun _ H'=>Q .non H',rt:=Q } (start N vs) H):FnOk P w K mg base CX0 (k+1) f fd ps sp :=
 F.ok S L fun B A outer s H vs Q E I h=>let ⟨t,J,q⟩:=G B A outer s H vs Q E I h;⟨t,J.h,q⟩
end
theorem mF: ∀(L:List (Str×NameKind))acc,(∀y∈L,y.2=.free->∃c,G.cells.lookup y.1=some c)->(∀y c,acc.lookup y=some c->G.cells.lookup y=some c) ->
  ∃B,(forIn L acc fun x r=>(do
    if x.2==NameKind.free then do
     let c <- cellOf G x.1
     pure (ForInStep.yield ((x.1,c)::r))
    else pure (ForInStep.yield r):Sem (ForInStep (List (Str×Addr)))))=pure B/\(∀y c,B.lookup y=some c->G.cells.lookup y=some c)/\(∀y∈L,y.2=.free->∃c,B.lookup y.1=some c)/\∀y c,acc.lookup y=some c->∃F,B.lookup y=some F
 |[],acc,_,I=>⟨acc,rfl,I,fun y q=>absurd q (by simp),fun y c h=>⟨c,h⟩⟩
 | (n,k)::r,acc,J,I=>by
  cases hk:(k==NameKind.free) with
  |false =>
   refine Gm (mF r acc (fun y q=>J y (AJ _ q)) I) fun B e h1 h2 O=>⟨B,?_,h1,fun y q Z=>?_,O⟩
   .grind
   .grind
  |true =>
   have U:k=.free :=by lia
   refine Gn (J (n,k) AG U) fun c S=>?_
   have Y:∀y F,((n,c)::acc).lookup y=some F->G.cells.lookup y=some F:=fun y F h=>by
    rw[List.lookup_cons] at h
    cases q:y==n with
    |true =>
     rw[q] at h;have:y=n :=by lia
     subst this
     rwa [S]
    |false =>
     rw[q] at h;exact I y F h
   refine Gm (mF r ((n,c)::acc) (fun y q=>J y (AJ _ q)) Y) fun B e h1 h2 O=>?_;have ab:cellOf G n=pure c:=by delta cellOf;rw[S]
   refine⟨B,?_,h1,fun y q Z=>?_,fun y F h=>?_⟩
   .grind
   .grind
   .grind
noncomputable def cR(xs:List Str)(scope:Scope)(N:List Str)(sc:Scope):Bool :=
 scope.names.all (fun y=>decide (y.2≠.cell)&&(decide (y.2≠.free) || decide (sc.names.lookup y.1=some .cell))&&(decide (y.2≠.local) || (decide (scope.names.lookup y.1=some .local)&&decide (y.1∉N))))&&decide (scope.kind=.function)&&xs.all (fun x=>decide (scope.names.lookup x=some .local))
def pR(O:X.N=N)(Y:X.env.scope=sc)(S:X.env.cells=cellsFrom L sc.names [])(h:cR xs scope N sc=true):∃G,fV X xs scope G:=by
 subst O Y
 delta cR at h
 rw[Bb,Bb,CV] at h;obtain⟨⟨h1,h2⟩,J⟩:=h
 have F:∀y∈scope.names,y.2≠.cell/\(y.2=.free->X.env.scope.names.lookup y.1=some .cell)/\(y.2=.local->scope.names.lookup y.1=some .local/\y.1∉X.N):=fun y B=>by
  have q:=h1 y B;rw[Bb,Bb] at q;obtain⟨⟨q1,q2⟩,q3⟩:=q;refine⟨Ag q1,fun e=>?_,fun e=>?_⟩
  .lia
  .lia
 refine Gm (mF scope.names [] (fun y B U=>S▸rR ((F y B).2.1 U)) (fun y c z=>by simp at z)) fun G e k1 k2 _=>?_;refine⟨G,⟨?_,fun y B=>(F y B).1,Ag h2,fun y B q=>((F y B).2.2 q).1,fun x Z=>Ag (CV.1 J x Z),fun y B q=>((F y B).2.2 q).2,fun y B q=>⟨?_,.inl ((F y B).2.1 q),k2 y B q⟩,k1⟩⟩
 .have I:=A8 (fun m:Sem (List (Str×Addr))=>m >>= fun cs=>(pure cs:Sem (List (Str×Addr)))) e
  exact I
 .show X.env.scope.names.lookup y.1≠some .local
  rw[(F y B).2.1 q]
  decide
def Xc{X:Cx}{J G:Expr}{x:Str}{O pos:Pos}{L:List Expr}{scope:Scope}{S:TI}{tc:TT}{te:TE}(Y:X.calm=true)(U:(x::X.N).Nodup)(K:∃q,dF X x scope q)(hi:JI X (.Name x O) G S)(ht:∀q F C I B,JF (lK X x scope q F C I B) L tc)(Z:∀q F C I B,JE (lK X x scope q F C I B) J te)(hs:∀v,foldedSetIterable G X.env v=pure v:=by intro _;rfl):JE X (.ListComp J [⟨.Name x O,G,L,0⟩] scope pos) (Qr S tc te) :=
 let ⟨q,K⟩:=K
 Ed Y U K hi (ht q) (Z q) hs
section
variable {X:Cx}{o e:Expr}{es:List Expr}{to:TE}{t:TA}{name:Str}{apos cpos:Pos}{T id:String}{r:V->List V->Hp->VK->Prop}
end
section
variable {X:Cx}{pos:Pos}
def Io(B:attributeBase o m X.env (eval o X.env)=eval o X.env)(I:(apos.endLine==cpos.line)=true)(F:noStar e=true)(G:noStar f=true):M2 X o m apos e f cpos:=by
 have q:starEach [e,f] X.env=[(false,eval e X.env),(false,eval f X.env)]:=by
  rw[yZ F,yZ G]
  rfl
 refine⟨B,?_,I,?_⟩
 .rw [q];rfl
 .rw [q];rfl
end
def Wx(K:Ds)(n:Nat)(F:TI)(tc:TT)(te:TE):TE:=fun σ H Q=>F σ H fun J H1=>∀D,H1 D=none->∃W:Nat->Nat->List V->Hp->Prop,(∃m,W 0 m [] (upd H1 D (.lst [])))/\∀i m ys H,W i m ys H ->
 (J.stop i H/\Q (.ref D) H)\/(J.go i H/\∀x H',J.yld i H x H'->∃a vs,x=.ref a/\SqT K H' a vs/\vs.length=n/\tc (vs.map some++σ) H' fun b H2=>
  if b=true then te (vs.map some++σ) H2 fun y B=>B D=some (.lst ys)/\ys.length < sizeLine/\∃q,q < m/\W (i+1) q (ys++[y]) (upd B D (.lst (ys++[y])))
  else ∃q,q < m/\W (i+1) q ys H2)
section
variable {X:Cx}
def QM{Y S tg:Expr}{xs:List Str}{pos:Pos}{Z:List Expr}{scope:Scope}{I:List (Str×Addr)}{wi:TI}{tc:TT}{te:TE}{g:TG}(hc:X.calm=true)(K:fV X xs scope I)(hg:∀F C G B,PG (o4 X xs scope I F C G B) tg g)(hG:∀L vs a σ H Q,L.length=xs.length->SqT X.K H a vs->vs.length=xs.length->Q (vs.map some++σ) H->g (.ref a) (L++σ) H Q)(hi:PI X tg S wi)(ht:∀F C G B,Wa (o4 X xs scope I F C G B) Z tc)(aj:∀F C G B,PE (o4 X xs scope I F C G B) Y te)(hs:∀v,foldedSetIterable S X.env v=pure v:=by intro _;rfl):PE X (.ListComp Y [⟨tg,S,Z,0⟩] scope pos) (Wx X.K xs.length wi tc te):=by
 intro pins s σ H Q ab h;rw[eval_ListComp];refine DS (use:=none) rfl hs K.clos K.kind K.names (thn (hi pins s σ H _ ab h) fun xv aw ao=>thn ao fun av G aq=>?_);obtain⟨it,F,tn,J,B,e,O,T,au,ae,R⟩:=aq;subst e;refine yB (Tk:=fun x H vs=>∃a,x=.ref a/\SqT X.K H a vs) hc K hg ht aj (fun L vs x H Q l ⟨a,e,U⟩ l' q=>by rw[e];exact hG L vs a σ H Q l U l' q) O T au ae (fun D hD=>let ⟨W,w0,tu⟩:=R D hD;⟨W,w0,fun i m ys H w=>(tu i m ys H w).imp id fun zz=>uF zz fun g st=> ⟨g,fun x H' y=>let ⟨a,vs,e,U,l,q⟩:=st x H' y;⟨vs,⟨a,e,U⟩,l,q⟩⟩⟩) ?_
 intro D C H ar m hn ag af ah ai I4 q;refine⟨m,hn,fun h' ak=>⟨.ref D,H,?_,rfl,q⟩⟩;refine I4.turned (it:=C) (t':=ar.toks) (fun b o hb e=>(ak.2 b hb).trans e) af ag (.inr (AY O.sz ai)) ah fun p hp z=>?_;exact absurd (AK (AH (O.pin p hp).1) (by simp_all)) (A7 _)
end
end L2
namespace L2
open PySem PySem.W PyProof.Rows
def wD(n:Nat)(P:α->Prop):KasT α->Prop
 |.ret a=>P a
 |.ask i j k=>i < n/\j < n/\∀b,wD n P (k b)
noncomputable def vU(q:Nat->Nat->Bool):KasT α->α
 |.ret a=>a
 |.ask i j k=>vU q (k (q i j))
theorem vW{f:α->KasT β}:∀t,wD n P t->(∀a,P a->wD n R (f a))->wD n R (t.bind f)
 |.ret a,h,q=>q a h
 |.ask i j k,h,q=>⟨h.1,h.2.1,fun b=>vW (k b) (h.2.2 b) q⟩
theorem Xb: ∀t,wD n P t->P (vU q t)
 |.ret a,h=>h
 |.ask i j k,h=>Xb (k (q i j)) (h.2.2 _)
theorem kWp{J:Shared->Prop}(F:∀i j C s,i < n->j < n->J s->(∀s',J s'->C (B i j) s')->G i j C s):
  ∀t{Q:α->Shared->Prop}{s},wD n P t->J s->(∀s',J s'->P (vU B t)->Q (vU B t) s')->t.kasWp G Q s
 |.ret a,Q,s,h,hj,q=>q s hj h
 |.ask i j k,Q,s,h,hj,q=>F i j _ s h.1 h.2.1 hj fun s' I=>kWp F (k (B i j)) (h.2.2 _) I q
def Ord(n:Nat)(p:Array Nat):Prop:=p.toList.Perm (List.range n)
def Ord.lt(h:Ord n p)(h0:0 < n)i:p.getD i 0 < n:=by
 by_cases hi:i < p.size
 .have e:p.getD i 0=p[i] :=by simp_all
  rw[e];have q:p[i]∈p.toList:=by simp
  exact BL.mp (h.mem_iff.mp q)
 .lia
def Ord.size(h:Ord n p):p.size=n:=by
 have:=h.length_eq
 rwa [Ak,Ca] at this
def Ord.rev(h:Ord n p)i j:Ord n (kas_rev p i j):=(Array.Perm.toList (mirror_perm p i j _)).trans h
def Ord.bubble(h:Ord n p)i j:Ord n (bubble p i j):=(Array.Perm.toList (bubble_perm p i j)).trans h
section
variable {n:Nat}(h0:0 < n)
include h0
theorem Qd(h:Ord n p):∀f m,wD n (fun _=>True) (kas_asc p f m)
 |0,m=>trivial
 |f+1,m=>⟨h.lt h0 _,h.lt h0 _,fun b=>by
  cases b with
  |true=>exact trivial
  |false=>exact Qd h f (m+1)⟩
theorem mD:∀f p m q,Ord n p->wD n (fun r=>Ord n r.1) (kas_desc f p m q)
 |0,p,m,q,h=>h
 |f+1,p,m,q,h=>⟨h.lt h0 _,h.lt h0 _,fun b=>by
  cases b with
  |true =>
   split
   .exact mD f _ _ _ (h.rev _ _)
   .exact mD f _ _ _ h
  |false =>
   refine⟨h.lt h0 _,h.lt h0 _,fun b=>?_⟩
   cases b with
   |true=>exact h
   |false=>exact mD f _ _ _ h⟩
def rT m r(h:Ord n p):wD n (fun r=>Ord n r.2) (kas_tail3 m r p) :=
 vW _ (Qd h0 (h.rev 0 m) _ _) fun _ _=>h.rev 0 m
def pD m r(h:Ord n p):wD n (fun r=>Ord n r.2) (kas_descPart m r p) :=
 vW _ (mD h0 _ _ _ _ h) fun x q=>by
  split
  .exact rT h0 _ _ (q.rev _ _)
  .exact rT h0 _ _ q
def VL r(h:Ord n p):wD n (fun r=>Ord n r.2) (kas_count r p) :=
 vW _ (Qd h0 h _ _) fun x _=>by
  split
  .exact h
  .split
   .refine ⟨h.lt h0 _,h.lt h0 _,fun b=>?_⟩
    cases b with
    |true=>exact h
    |false=>exact pD h0 _ _ (h.rev _ _)
   .exact pD h0 _ _ h
theorem fL k(h:Ord n p):∀f l r,wD n (fun _=>True) (kas_place p k f l r)
 |0,l,r=>trivial
 |f+1,l,r=>by
  unfold kas_place
  split
  .exact trivial
  .refine ⟨h.lt h0 _,h.lt h0 _,fun b=>?_⟩
   cases b with
   |true=>exact fL k h f _ _
   |false=>exact fL k h f _ _
theorem KM:∀f p k,Ord n p->wD n (Ord n) (kas_bin f p k)
 |0,p,k,h=>h
 |f+1,p,k,h=>vW _ (fL h0 k h _ _ _) fun l _=>KM f _ _ (h.bubble _ _)
def Qw:wD n (Ord n) (kas_sort n) :=
 vW _ (VL h0 n (List.Perm.refl _)) fun r q=>by
  split
  .exact KM h0 _ _ _ q
  .exact q
end
noncomputable def cV(q:Nat->Nat->Bool)(vs:List Value):List Value:=(vU q (kas_sort vs.length)).toList.map fun i=>vs.getD i Value.none
noncomputable def zF(q:Nat->Nat->Bool)(ys:List V):List V:=(vU q (kas_sort ys.length)).toList.map fun i=>ys.getD i .non
def xg q:(vU q (kas_sort 0)).toList=[]:=rfl
def aP(h:vs.length < 2):cV q vs=vs:=by
 cases vs with
 |nil=>rfl
 |cons v vs =>
  cases vs with
  |nil=>rfl
  |cons u vs=>exact absurd h (Nat.not_lt.2 (B3 2 vs.length))
def uG q n(h:0 < n):Ord n (vU q (kas_sort n)):=Xb _ (Qw h)
def yA q vs:(cV q vs).length=vs.length:=by
 by_cases h:vs.length < 2
 .rw [aP h]
 .delta cV
  rw[AB,Ca,(uG q vs.length (by omega)).size]
noncomputable def rJ(h:Heap)(a:Addr)(vs:List Value):Heap:=((h.update a (Obj.mapSeq fun _=>(#[]:Array Value))).push (seqObj "tuple" vs.toArray 0)).push (seqObj "list" #[] 0)
def ZH{us:List Value}(e:h.get? a=some (seqObj "list" us.toArray n)):∃k,(h.update a (Obj.mapSeq fun _=>(#[]:Array Value))).get? a=some (seqObj "list" #[] k)/\(rJ h a vs).get? a=some (seqObj "list" #[] k) :=
 ⟨_,get?_update_seq e fun _=>#[],AC _ (AC _ (get?_update_seq e fun _=>#[]))⟩
def Q5(e:h.get? b=some o)(n:b≠a):(rJ h a vs).get? b=some o :=
 AC _ (AC _ ((DD _ _ _ _ n).trans e))
noncomputable def rM(F:s.heap.get? a=some (seqObj "list" vs.toArray n))(ae:vs.length < 64)(hk:2<=vs.length->∀Q:SortKind->Shared->Prop,Q κ { s with heap:=rJ s.heap a vs }->wpAny (model B w) A (keyKind' vs.toArray) Q (fun _ _=>False) { s with heap:=rJ s.heap a vs })(hc:∀i j,i < vs.length->j < vs.length->∀Q:Bool->Shared->Prop,Q (q i j) { s with heap:=rJ s.heap a vs }->wpAny (model B w) A (keyLt' κ (vs.getD i Value.none) (vs.getD j Value.none)) Q (fun _ _=>False) { s with heap:=rJ s.heap a vs })(ab:R (.done (.ret .none)) { s with heap:=sortedHeap s.heap a vs (cV q vs).toArray }):wpAny (model B w) A (Builtin.«list.sort» ⟨[.ref a],[]⟩) R E s:=by
 obtain⟨I,e1,O⟩:=ZH F;have zl:vs.length<=sizeLine:=by rw[BZ];lia
 have zo:(cV q vs).toArray.size<=sizeLine:=by rwa [Aj,yA]
 rw[list_sort_plain];refine AA (listItems_at F rfl (AA (listUpdate_at F rfl (AA (seqEpoch_at e1 rfl (AA (wpAny_newTuple (AA (wpAny_newList (As ?_) (AW _))) zl)))) (by grind) (AW _))))
 have rest:∀st':SortSt,(arrOf st').map (·.2)=(cV q vs).toArray->failedOf st'=none->wpAny (model B w) A (do
   let Z <- seqEpoch a
   Builtin.List.listUpdate (.ref a) fun _=>(arrOf st').map (·.2)
   if let some e:=failedOf st' then rule "list.sort.comparison-raised"; throw e
   if (Z != I)=true then rule "list.sort.modified"; raiseError "ValueError" "list modified during sort"
   ret .none) R E { s with heap:=rJ s.heap a vs }:=fun st' q1 q2=>by
  rw[q1,q2];refine AA (seqEpoch_at O rfl (AA (listUpdate_at O rfl ?_ (AW _) (Nat.le_succ_of_le zo))));rw[show(I != I)=false by simp];exact AD ab
 have S:vs.toArray.size=vs.length:=Aj
 by_cases h2:vs.length < 2
 .rw [S,Ah h2,Ah h2]
  refine AA (AD (AA (AD (rest _ ?_ rfl))));rw[aP h2]
  apply Array.toList_inj.mp
  simp
  exact List.map_snd_zip (AI _)
 .rw [S,Af h2,Af h2]
  refine AA (A3 (hk (by lia) (fun c s'=>c=κ/\s'={ s with heap:=rJ s.heap a vs }) ⟨rfl,rfl⟩) (fun c ag hs=>?_) fun _ _ x=>x.elim);obtain⟨rfl,rfl⟩:=hs
  refine AA (A3 (kat_run (Q:=fun st' s'=>s'={ s with heap:=rJ s.heap a vs }/\(arrOf st').map (·.2)=(cV q vs).toArray/\failedOf st'=none)
   (G:=fun p s'=>s'={ s with heap:=rJ s.heap a vs }/\p=vU q (kas_sort vs.length)) rfl (by lia) ae (fun p' st' s' af U Y L=>⟨L.1,?_,Y⟩)
   (kWp (J:=fun s'=>s'={ s with heap:=rJ s.heap a vs }) (fun i j C s' hi hj e hC=>?_) _ (Qw (by lia)) rfl fun s' e _=>⟨e,rfl⟩)) ?_ fun _ _ e=>e)
  .rw [kat_snds rfl U,L.2]
   rfl
  .subst e
   exact hc i j hi hj _ (hC _ rfl)
  .rintro ⟨⟨⟩,st'⟩ s' ⟨rfl,q3,q4⟩
   exact rest st' q3 q4
noncomputable def jN(h:Heap)(vs:List Value):Heap:=((h.push (seqObj "list" #[] 0)).update h.objs.size (Obj.mapSeq (· ++ vs.toArray))).push (seqObj "list" vs.toArray 0)
def Xm(h:Heap)(vs:List Value):((h.push (seqObj "list" #[] 0)).update h.objs.size (Obj.mapSeq (· ++ vs.toArray))).objs.size=h.objs.size+1 :=by simp_all
def ZY h vs:(jN h vs).get? (h.objs.size+1)=some (seqObj "list" vs.toArray 0):=by
 have q:=AL ((h.push (seqObj "list" #[] 0)).update h.objs.size (Obj.mapSeq (· ++ vs.toArray))) (o:=seqObj "list" vs.toArray 0) rfl
 rwa [Xm] at q
def YZ(e:h.get? b=some o):(jN h vs).get? b=some o :=
 AC _ ((DD _ _ _ _ (AV (AH e))).trans (AC _ e))
section
variable {X:Cx}
def HF(X:Cx)(H:Hp)(ys:List V)(B:Nat->Nat->Bool):Prop:=∀(pins:List (Addr×Obj))(σ:St)(s:Shared)(q:List Value)(A:Around),A.units<=X.A.units+2->Inv X pins σ H s->Vals ys q ->
 ∃κ:SortKind,(2<=ys.length->∀Q:SortKind->Shared->Prop,Q κ s->wpAny (model X.prog X.w) A (keyKind' q.toArray) Q (fun _ _=>False) s) /\
  ∀i j,i < ys.length->j < ys.length->∀Q:Bool->Shared->Prop,Q (B i j) s->wpAny (model X.prog X.w) A (keyLt' κ (q.getD i Value.none) (q.getD j Value.none)) Q (fun _ _=>False) s
def iY(r:Vals ys B)i:RelV (ys.getD i .non) (B.getD i Value.none):=by
 induction r generalizing i with
 |nil=>exact rfl
 |cons a b q =>
  cases i with
  |zero=>exact a
  |succ i=>exact q i
theorem nN(r:Vals ys q):∀l:List Nat,Vals (l.map fun i=>ys.getD i .non) (l.map fun i=>q.getD i Value.none)
 |[]=>.nil
 |i::l=>.cons (iY r i) (nN r l)
def iP q ys:(zF q ys).length=ys.length:=by
 delta zF
 rw[AB,Ca]
 by_cases h:0 < ys.length
 .exact (uG q ys.length h).size
 .have e:ys.length=0:=by lia
  rw[e]
  rfl
def XM:CallR X (.builtin "sorted") (fun xs H Q=>∃l ys q,xs=[.ref l]/\SqL X.K H l ys/\ys.length < 64/\HF X H ys q/\∀p,H p=none->Q (.ref p) (upd H p (.lst (zF q ys)))):=by
 intro pins s σ H xs us Q I r h;obtain⟨l,ys,q,rfl,hl,af,hs,ae⟩:=h;obtain⟨u,rfl,rfl⟩:=r.one;obtain⟨vs,J,pl,_⟩:=(I.list hl);have ab:=J.length;have Y:vs.length < 64:=by lia
 have S:vs.length<=sizeLine:=by rw[BZ];lia
 have O:∀{b:Addr}{o:Obj},s.heap.get? b=some o->b≠s.heap.objs.size+1:=fun e=>AV (Nat.lt_succ_of_lt (AH e));have L:∀b o,s.heap.get? b=some o->(rJ (jN s.heap vs) (s.heap.objs.size+1) vs).get? b=some o:=fun b o e=>Q5 (YZ e) (O e);obtain⟨κ,hk,Z⟩:=(hs pins σ _ vs X.A.in1.in1 (AI _) (I.kept (t':=s.toks) L) J);obtain⟨k0,_,U⟩:=ZH (ZY s.heap vs);have F:∃c,(sortedHeap (jN s.heap vs) (s.heap.objs.size+1) vs (cV q vs).toArray).get? (s.heap.objs.size+1)=some (seqObj "list" (cV q vs).toArray c):=⟨_,get?_update_seq U fun _=>(cV q vs).toArray⟩
 obtain⟨c,F⟩:=F;refine DN kind_sorted plain_sorted entry_sorted (args_sorted1 _) (?_:wpAny _ _ (Builtin.«sorted» _) _ _ _);refine AA (AD (AA (collect_list pl.isList (AA (wpAny_newList ?_ S)) S)));rw[Xm];refine AA (As (Az slot_list_sort ⟨_,ZY s.heap vs,rfl⟩ entry_list_sort ?inner (args_list_sort _)));refine rM (ZY s.heap vs) Y (fun h2 B G=>hk (by lia) B G) (fun i j hi hj B G=>Z i j (by lia) (by lia) B G) ⟨_,rfl,AD ⟨_,rfl,?_⟩⟩
 refine⟨.ref (s.heap.objs.size+1),_,I.laid (t':=s.toks) (fun b o e=>(DD _ _ _ _ (O e)).trans (L b o e)) (Bn _) ?_,rfl,ae _ (I.hok.fresh (Bn _))⟩;refine⟨by rw[iP,BZ];lia,cV q vs,c,?_,F⟩
 delta zF cV
 exact ab▸nN J _
end
end L2
namespace HT
open PySem PyProof.Rows
inductive jb:List Value->List Str->Prop
 |nil:jb [] []
 |cons (z:Str) (t:Tok) {vs:List Value} {zs:List Str}:jb vs zs->jb (.str z t::vs) (z::zs)
def jb.length(h:jb vs zs):vs.length=zs.length:=by
 induction h with
 |nil=>rfl
 |cons z t h q=>rw[AQ,AQ,q]
noncomputable def o6:List Str->List Str->Bool
 |[],[]=>false
 |[],_::_=>true
 |_::_,[]=>false
 |x::xs,y::ys=>if x=y then o6 xs ys else decide (x.cps.toList < y.cps.toList)
def Vt x y xs ys:o6 (x::xs) (y::ys)=if x=y then o6 xs ys else decide (x.cps.toList < y.cps.toList):=rfl
section
open PySem.SeqAt
open PySem.AutoSeq1 (wpAny_loadPart')
open PySem.MeetsSeq PySem.MeetsSeq2 PySem.MeetsSeq3
def bS l b items F n n2 dd ae sl ao ns U(hi:jb items.toList ns)(hj:jb F.toList U):
  Meets (Builtin.«tuple.__lt__» ⟨[.ref l,.ref b],[]⟩)
   (fun _ R s=>s.heap.get? l=some { cls:=.type "tuple",dict:=dd,data:=.seq items n,slots:=sl }/\s.heap.get? b=some { cls:=.type "tuple",dict:=ae,data:=.seq F n2,slots:=ao } /\
    R (.ok (.ret (.bool (o6 ns U)))) s) :=
 .of_wp fun prog w A R s hh=>by
  obtain⟨L,g,d,tk,os⟩:=s;obtain⟨hl,hb,h⟩:=hh;have aq:=AutoSeq1.sub_tuple_tuple;have z1:items.size=ns.length:=by rw[<- hi.length];simp
  have z2:F.size=U.length:=by rw[<- hj.length];simp
  wp_walk using wpAny_loadPart' hl,wpAny_loadPart' hb,BP _ (fun rest b s'=>b.1=none/\s'=⟨L,g,d,tk,os⟩/\∃vs Y I G,rest=vs.zip Y /\
   jb vs I/\jb Y G/\I.length+F.size=G.length+items.size/\R (.ok (.ret (.bool (o6 I G)))) ⟨L,g,d,tk,os⟩) _
  case turn =>
   rintro⟨y,x⟩ rest b s' ⟨Z,rfl,vs,Y,I,G,q,ab,S,J,B⟩
   cases ab with
   |nil=>rw[List.zip_nil_left] at q;cases q
   |cons a t ah =>
    cases S with
    |nil=>rw[List.zip_nil_right] at q;cases q
    |cons c u aj =>
     rw[DI] at q;injection q with ak af
     injection ak with hy hx
     subst hy hx;rw[Vt] at B
     simp only[List.length_cons] at J
     refine AA ((fun E Q hq=>wpAny_eqBool_str hq) _ _ ?_)
     by_cases O:a=c
     .rw [Am O]
      rw[Ah O] at B
      wp_walk
      exact⟨rfl,rfl,_,_,_,_,af,ah,aj,by lia,B⟩
     .rw [AU O]
      rw[Af O] at B
      have ag:∀E Q,Q (.bool (decide (a.cps.toList < c.cps.toList))) ⟨L,g,d,tk,os⟩->wpAny (model prog w) A.in1 (richCompare .Lt (.str a t) (.str c u)) Q E ⟨L,g,d,tk,os⟩ :=
       fun E Q hq=>(PyProof.Rows.lt_str hq:wpAny (model prog w) A.in1 (compareOp .Lt (.str a t) (.str c u)) Q E ⟨L,g,d,tk,os⟩)
      wp_walk using ag
      exact⟨_,rfl,(by simpa using B)⟩
  case fin =>
   rintro⟨b1,b2⟩ s' ⟨Z,rfl,vs,Y,I,G,q,ab,S,J,B⟩
   simp only at Z
   subst Z
   have hv:o6 I G=decide (items.size < F.size):=by
    cases ab with
    |nil =>
     cases S with
     |nil =>
      simp only[List.length_nil] at J
      exact(AU (by lia)).symm
     |cons c u ai =>
      simp only[List.length_nil,List.length_cons] at J
      exact(Am (by lia)).symm
    |cons a t hv =>
     cases S with
     |nil =>
      simp only[List.length_nil,List.length_cons] at J
      exact(AU (by lia)).symm
     |cons c u ai =>
      rw[DI] at q;cases q
   rw[hv] at B
   wp_walk
   exact⟨_,rfl,(by simpa [Builtin.Tuple.tupleCompareSizes] using B)⟩
  case h =>
   exact⟨rfl,rfl,items.toList,F.toList,ns,U,rfl,hi,hj,by lia,h⟩
end
section
def t8(O:IsTup s.heap l items)(L:IsTup s.heap b G)(hi:jb items.toList ns)(hj:jb G.toList q)(S:A.units < cLine)(h:Q (.bool (o6 ns q)) s):wpAny (model prog w) A (compareOp .Lt (.ref l) (.ref b)) Q E s:=by
 obtain⟨⟨c1,I,d1,sl⟩,B,Y,n,Z⟩:=O;obtain⟨⟨c2,J,d2,ab⟩,F,q3,U,q4⟩:=L;subst Y Z q3 q4
 exact richCompare_meets_room (op:=.Lt) ⟨_,B,rfl⟩ ⟨_,F,rfl⟩ PySem.F.slot_tuple_lt PySem.F.entry_tuple_lt (PySem.F.args_tuple_lt_2 _ _) (bS l b items G n U I J sl ab ns q hi hj)
  ⟨B,F,show Value.bool (o6 ns q)≠Value.notImplemented/\Q (.bool (o6 ns q)) s from⟨(fun x=>nomatch x),h⟩⟩ S
end
end HT
namespace L2
open PySem PySem.W PyProof.Rows
def Jx(r:Vals (zs.map V.str) q):HT.jb q zs:=by
 induction zs generalizing q with
 |nil=>cases r;exact .nil
 |cons z zs B =>
  cases r with
  |cons a b =>
   obtain⟨t,rfl⟩:=a;exact .cons z t (B b)
noncomputable def Rn(x y:List Str×Int):Bool:=if x.1=y.1 then decide (x.2 < y.2) else HT.o6 x.1 y.1
def kS(H:Hp)(v:V)(c:List Str×Int):Prop:=∃a q,v=.ref a/\H a=some (.tup [.ref q,.int c.2])/\H q=some (.tup (c.1.map V.str))
def ZV(k:List Str):(k.map (Sum.inr:Str->Key)).map kV=k.map V.str:=by
 rw[Bo]
 rfl
def J6{q:List Str}:(k.map (Sum.inr:Str->Key)=q.map Sum.inr)↔k=q:=by
 constructor
 .intro h
  induction k generalizing q with
  |nil=>cases q with
   |nil=>rfl
   |cons _ _=>cases h
  |cons x k B=>cases q with
   |nil=>cases h
   |cons y q =>
    injection h with h1 h2
    rw[B h2,Sum.inr.inj h1]
 .lia
def gC{σ:St}(I:Inv X pins σ H s)(h:kS H v c)(r:RelV v u):
  ∃a q o n t,u=.ref a/\s.heap.get? a=some o/\o.cls=.type "tuple"/\o.data=.seq #[.ref q,.int c.2 t] n/\H q=some (.tup (c.1.map V.str)):=by
 obtain⟨a,q,rfl,h1,h2⟩:=h;cases r;obtain⟨_,O,L,o,B,F,⟨n,G⟩,_⟩:=(I.hok a _ h1);obtain⟨S,U,rfl,rfl,J⟩:=sN L;obtain⟨t,rfl⟩:=J;exact⟨a,q,o,n,t,rfl,B,F,G,h2⟩
def KU(hu:X.A.units+2 < cLine)(cs:Nat->List Str×Int)(O:∀i,i < ys.length->kS H (ys.getD i .non) (cs i)):HF X H ys (fun i j=>Rn (cs i) (cs j)):=by
 intro pins σ s B A hA I r;have Z:A.units < cLine:=by lia
 have af:∀v∈ys,∃c,kS H v c:=fun v L=>by
  obtain⟨i,hi,e⟩:=List.getElem_of_mem L;have ab:=O i hi;have eg:ys.getD i .non=v :=by simp_all
  rw[eg] at ab;exact⟨_,ab⟩
 have aj:∀{ys:List V}{B:List Value},Vals ys B->(∀v∈ys,∃c,kS H v c)->∃fs,KatTups s.heap B fs/\fs.length=B.length/\∀f∈fs,Looks (model X.prog X.w) s.heap (typeOf f) (.type "tuple"):=by
  intro ys B r
  induction r with
  |nil=>exact fun _=>⟨[],.nil,rfl,fun f F=>nomatch F⟩
  |@cons y u ys B ry _ ih =>
   intro Y;obtain⟨fs,S,k2,U⟩:=(ih fun v L=>Y v (AJ _ L));obtain⟨c,hc⟩:=Y y AG;obtain⟨a,G,o,n,t,rfl,e1,e2,e3,e4⟩:=gC I hc ry;obtain⟨_,aq,_,o2,ag,ah,_,_⟩:=(I.hok G _ e4);refine⟨.ref G::fs,.cons e1 e2 e3 rfl S,by rw[AQ,AQ,k2],fun f F=>?_⟩
   rcases AZ.mp F with rfl | F
   .exact ah▸((Looks.ld ag).andThen .now)
   .exact U f F
 have ao:=r.length;refine⟨tuples' false,fun h2 Q q=>?_,fun i j hi hj Q q=>?_⟩
 .exact xZ (aj r af) fun fs S k2 U=>kat_kind S (by lia) U rfl q
 .have q:Q (Rn (cs i) (cs j)) s:=q
  refine R4 (gC I (O i hi) (iY r i)) fun a ka oa ar ta ea ae ak a3 a4=>R4 (gC I (O j hj) (iY r j)) fun b G ob au tb eb b1 b2 b3 b4=>?_;rw[ea,eb]
  apply kat_lt ae a3 b1 b3
  have ai:=vF I.hok (by rwa [ZV]);refine kat_cons (wpAny_eqBool_tuple Z (vF I.hok (by rwa [ZV])) ai ?_)
  by_cases hk:(cs i).1=(cs j).1
  .rw [Am (J6.mpr hk)]
   refine kat_yes (kat_cons (wpAny_eqBool_int ?_));have hl:Rn (cs i) (cs j)=decide ((cs i).2 < (cs j).2):=Ah hk;rw[hl] at q
   by_cases J:(cs i).2=(cs j).2
   .rw [show((cs i).2==(cs j).2)=true by simpa using J]
    refine kat_yes (kat_nil ?_)
    rwa [J,AU (Int.lt_irrefl _)] at q
   .rw [show((cs i).2==(cs j).2)=false by simpa using J]
    exact kat_no (kat_one _ _ (PyProof.Rows.lt_int q))
  .rw [AU (fun e=>hk (J6.mp e))]
   rw[(show Rn (cs i) (cs j)=HT.o6 (cs i).1 (cs j).1 from Af hk)] at q;obtain⟨_,ia,ra,pa⟩:=(I.hok ka _ a4);obtain⟨_,ib,rb,pb⟩:=(I.hok G _ b4);exact kat_no (kat_one _ _ (HT.t8 pa.is pb.is (Jx ra) (Jx rb) Z q))
noncomputable def YA(x y:Str×Int):Bool:=if x.1=y.1 then decide (x.2 < y.2) else decide (x.1.cps.toList < y.1.cps.toList)
def Ul(H:Hp)(v:V)(c:Str×Int):Prop:=∃a,v=.ref a/\H a=some (.tup [.str c.1,.int c.2])
def Ze{σ:St}(I:Inv X pins σ H s)(h:Ul H v c)(r:RelV v u):
  ∃a o n t t',u=.ref a/\s.heap.get? a=some o/\o.cls=.type "tuple"/\o.data=.seq #[.str c.1 t',.int c.2 t] n:=by
 obtain⟨a,rfl,h1⟩:=h;cases r;obtain⟨_,O,L,o,q,B,⟨n,F⟩,_⟩:=(I.hok a _ h1);obtain⟨S,U,rfl,G,J⟩:=sN L;obtain⟨t',rfl⟩:=G;obtain⟨t,rfl⟩:=J;exact⟨a,o,n,t,t',rfl,q,B,F⟩
def WA(cs:Nat->Str×Int)(O:∀i,i < ys.length->Ul H (ys.getD i .non) (cs i)):HF X H ys (fun i j=>YA (cs i) (cs j)):=by
 intro pins σ s F A hA I r
 have ae:∀v∈ys,∃c,Ul H v c:=fun v L=>by
  obtain⟨i,hi,e⟩:=List.getElem_of_mem L;have q:=O i hi;have eg:ys.getD i .non=v :=by simp_all
  rw[eg] at q;exact⟨_,q⟩
 have af:∀{ys:List V}{F:List Value},Vals ys F->(∀v∈ys,∃c,Ul H v c)->∃fs,KatTups s.heap F fs/\fs.length=F.length/\∀f∈fs,Looks (model X.prog X.w) s.heap (typeOf f) (.type "str"):=by
  intro ys F r
  induction r with
  |nil=>exact fun _=>⟨[],.nil,rfl,fun f G=>nomatch G⟩
  |@cons y u ys F ry _ ih =>
   intro Y;obtain⟨fs,S,Z,U⟩:=(ih fun v L=>Y v (AJ _ L));obtain⟨c,hc⟩:=Y y AG;obtain⟨a,o,n,t,t',rfl,e1,e2,e3⟩:=Ze I hc ry;refine⟨.str c.1 t'::fs,.cons e1 e2 e3 rfl S,by rw[AQ,AQ,Z],fun f G=>?_⟩
   rcases AZ.mp G with rfl | G
   .exact .now
   .exact U f G
 have ah:=r.length;refine⟨tuples' true,fun h2 Q B=>?_,fun i j hi hj Q B=>?_⟩
 .exact xZ (af r ae) fun fs S Z U=>kat_kind S (by lia) U rfl B
 .have B:Q (YA (cs i) (cs j)) s:=B
  refine R5 (Ze I (O i hi) (iY r i)) fun a oa ai ta ak ea ab ag a3=>R5 (Ze I (O j hj) (iY r j)) fun b ob aj tb ao eb b1 b2 b3=>?_;rw[ea,eb];refine kat_lt ab a3 b1 b3 (kat_cons (wpAny_eqBool_str ?_))
  by_cases hk:(cs i).1=(cs j).1
  .rw [Am hk]
   refine kat_yes (kat_cons (wpAny_eqBool_int ?_));have hl:YA (cs i) (cs j)=decide ((cs i).2 < (cs j).2):=Ah hk;rw[hl] at B
   by_cases J:(cs i).2=(cs j).2
   .rw [show((cs i).2==(cs j).2)=true by simpa using J]
    refine kat_yes (kat_nil ?_)
    rwa [J,AU (Int.lt_irrefl _)] at B
   .rw [show((cs i).2==(cs j).2)=false by simpa using J]
    exact kat_no (kat_one _ _ (PyProof.Rows.lt_int B))
  .rw [AU hk]
   rw[(show YA (cs i) (cs j)=decide ((cs i).1.cps.toList < (cs j).1.cps.toList) from Af hk)] at B;exact kat_no (kas_lt_str B)
end L2
namespace L2
open PySem PySem.Spec PyProof.Rows
section
variable {X:Cx}{o i value:Expr}{td ty tv:TE}{pos pos':Pos}
end
section
variable {X:Cx}
def Mh(K:Ds):R2:=fun x y H Q=>∃a b xs ys,x=.ref a/\y=.ref b/\SqT K H a xs/\SqT K H b ys/\xs.length+ys.length<=sizeLine /\
 (xs=[]->Q (.ref b) H)/\(xs≠[]->ys=[]->Q (.ref a) H)/\(xs≠[]->ys≠[]->∀p,H p=none->Q (.ref p) (upd H p (.tup (xs++ys))))
def Yd:OpR X (binaryOp .Add) (Mh X.K):=by
 intro pins s σ H x y v u Q I L O h;obtain⟨a,b,xs,ys,rfl,rfl,B,F,hz,q0,q1,q2⟩:=h
 by_cases q:xs=[]
 .cases L
  cases O;refine xZ (I.tuple B) fun ao r1 p1 _=>xZ (I.tuple F) fun af r2 p2 _=>?_;have e:=r1.nil_iff.mpr q;subst e;obtain⟨⟨ah,S,aj,sl⟩,G,Y,n,ab⟩:=id p1;obtain⟨⟨ai,U,ak,ag⟩,J,Z,n2,ae⟩:=id p2;subst Y ab Z ae
  exact concat_meets ⟨_,G,rfl⟩ ⟨_,J,rfl⟩ noFill_tuple_add seq_tuple_add Dg DZ (DV _ _)
   (tuple_addW0 a b _ af.toArray n n2 S U sl ag rfl) ⟨G,J,⟨.ref b,H,I,rfl,q0 q⟩⟩
 .exact op_catT pins s σ H (.ref a) (.ref b) v u Q I L O ⟨a,b,xs,ys,rfl,rfl,B,F,q,hz,q1 q,q2 q⟩
end
abbrev Cx.at_(X:Cx)(k:Nat):Cx:={ X with N:=X.N.set k "?" }
def Qj(k:Nat)(σ:St):Prop:=∀v,σ[k]?≠some (some v)
section
variable {X:Cx}{pins:List (Addr×Obj)}{σ:St}{H:Hp}{s:Shared}{k:Nat}{e:Expr}{te:TE}{st:Stmt}{t:TS}
def Rh(ab:X.Ok):(X.at_ k).Ok:=by
 obtain⟨h1,h2,U,Y,Z,h6,h7,h8,h9,q,B,F,G,I,J,L,O,S⟩:=ab;exact⟨h1,h2,U,Y,Z,h6,h7,h8,h9,q,B,F,G,I,J,L,O,S⟩
def Yh(ab:(X.at_ k).Ok):X.Ok:=by
 obtain⟨h1,h2,U,Y,Z,h6,h7,h8,h9,q,B,F,G,I,J,L,O,S⟩:=ab;exact⟨h1,h2,U,Y,Z,h6,h7,h8,h9,q,B,F,G,I,J,L,O,S⟩
def Nk(n:Qj k σ)(I:Inv X pins σ H s):Inv (X.at_ k) pins σ H s:=by
 refine dQ I.loc fun m J G=>⟨Rh I.ok,I.os,I.bare,I.base,⟨m,J,fun i x v q B F=>?_⟩,I.cell,I.free,I.freeC,I.pin,I.hok,?_⟩
 .by_cases hi:k=i
  .subst hi;exact absurd B (n v)
  .rw [A9 hi] at q
   exact G i x v q B F
 .rw [Dk]
  exact I.len
def VA(n:Qj k σ)(I:Inv (X.at_ k) pins σ H s):Inv X pins σ H s:=by
 refine dQ I.loc fun m G F=>⟨Yh I.ok,I.os,I.bare,I.base,⟨m,G,fun i x v J q B=>?_⟩,I.cell,I.free,I.freeC,I.pin,I.hok,?_⟩
 .by_cases hi:k=i
  .subst hi;exact absurd q (n v)
  .refine F i x v ?_ q B
   rwa [A9 hi]
 .have:=I.len
  rw[this,Dk]
def Ec k(B:JE (X.at_ k) e te):JE X e (fun σ H Q=>Qj k σ/\te σ H Q) :=
 ⟨fun pins s σ H Q I h=>thn (B.h pins s σ H Q (Nk h.1 I) h.2) fun v s1 J=>nX J fun x H1 q G F=> ⟨x,H1,VA h.1 q,G,F⟩⟩
def Ir k(h:JS X st t):JS X st (fun D σ H=>t D (σ.set k none) H) :=
 ⟨fun pins s σ H D I q=>h.h pins s (σ.set k none) H D (I.weak (by grind) fun i v e=>by
  by_cases hi:k=i
  .grind
  .rwa [A9 hi] at e) q⟩
end
section
variable {X:Cx}
def Ea{U S pos ae}(ao:X.N.Nodup)(hi:X.N[i]?=some y)(hy:Loc X.env.scope y)(hc:X.calm=true)(hN:(x::X.N).Nodup)(K:dF X x scope Y)(hI:JI X (.Name x S) O wi)(ht:∀F C G B,JF (lK X x scope Y F C G B) ab tc)(ar:∀F C G B,JE (lK X x scope Y F C G B) Z te)(hs:∀v,foldedSetIterable O X.env v=pure v:=by intro _;rfl)(aw:swapsWith (.ListComp Z [⟨.Name x S,O,ab,0⟩] scope pos) (some (.Name y U)) ae.line X.env=pure true:=by rfl)(au:X.fn y=true\/X.env.scope.names.lookup y=some .local:=by first | exact .inl rfl | exact .inr rfl | assumption):
  JS X (.Assign [.Name y U] (.ListComp Z [⟨.Name x S,O,ab,0⟩] scope pos) ae) (tAsg (Qr wi tc te) (nM i)):=by
 refine⟨fun pins s σ H D af h=>?_⟩;rw[exec_Assign_Name_used _ _ _ _ aw];refine AA (B4 (AA (AA (DS (use:=some (assign (.Name y U) X.env)) rfl hs K.clos K.kind K.names (thn (hI.h pins s σ H _ af h) fun xv a6 ax=>thn ax fun a4 G ay=>?_)))));obtain⟨it,F,tn,J,B,e,I,T,a0,ag,R⟩:=ay;subst e
 apply yB (Q:=fun x H1=>nM i x σ H1 D.nx) hc K (fun _ _ _ _=>zD (i:=0) hN rfl (.inl (Bm (K.hx x (.head _)))) (.inr (Bm (K.hx x (.head _))))) (fun F C G B=>(ht F C G B).h) (fun F C G B=>(ar F C G B).h) (by rintro a3 vs y H Q l rfl _ q;match a3,l with | [_],_=>exact q) I T a0 ag (fun D hD=>let ⟨W,w0,tu⟩:=R D hD;⟨W,w0,fun i m ys H w=>(tu i m ys H w).imp id fun zz=>uF zz fun g st=> ⟨g,fun x H' y=>⟨[x],rfl,rfl,st x H' y⟩⟩⟩)
 intro D' C H' a5 m hn ai ah aj ak I4 q;refine wpAny_assign_Name (sT I4 ao hi hy (v:=.ref D') rfl (fun az I5 L=>?_) au);obtain⟨b,L,hb⟩:=L;have aq:C≠b :=by grind
 exact⟨m,hn.at' fun o e=>(L.2 C aq).trans e,fun h' av=>AD (AD ⟨_,H',I5.turned (t':=az.toks) (fun b o hb e=>(av.2 b hb).trans e) ah ai (.inr (AY I.sz ak)) aj fun p hp z=>absurd (AK (AH (I.pin p hp).1) (by lia)) (A7 _),q⟩)⟩
end
theorem sameNew(h:H p=none)o:Same H (upd H p o):=fun b u q=>by rwa [pQ (gJ q h)]
section
variable {X:Cx}
def Ij:R2:=fun x y H Q=>∃a b xs ys,x=.ref a/\y=.ref b/\H a=some (.tup xs)/\H b=some (.tup ys)/\xs.length+ys.length<=sizeLine/\∀r H',Same H H'->H' r=some (.tup (xs++ys))->(H r=none\/r=a\/r=b)->Q (.ref r) H'
def zc:OpR X (binaryOp .Add) Ij:=by
 intro pins s σ H x y v u Q I S U h;exact R6 h fun a b xs ys F G J L O q=>Yd pins s σ H x y v u Q I S U ⟨a,b,xs,ys,F,G,SqT.of J,SqT.of L,O,fun h=>q b H (Same.refl H) (by rwa [h]) (.inr (.inr rfl)),fun _ h=>q a H (Same.refl H) (by grind) (.inr (.inl rfl)),fun _ _ p B=>q p _ (sameNew B _) uQ (.inl B)⟩
end
end L2
namespace PySem
open PySem.Spec PyProof.Rows PyProof.Rows.F
def jM:entryFor table "dict.update.loop" = some Builtin.«dict.update.loop»:=entryFor_of_tree (by kernel_rfl)
def kW:plainId "dict.update.loop" = true:=by decide +kernel
section
variable {prog:Program}{w:World}{κ:Type}[DecidableEq κ]{knd:KeyKind prog w κ}{A:Around}{d it t:Addr}{items:Array Value}{ps:List (κ×Value)}{res:Value}
def fZ{h h':Heap}(x:h.IsTuple p xs)(e:∀o,h.get? p=some o->h'.get? p=some o):h'.IsTuple p xs:=let ⟨o,q,r⟩:=x;⟨o,e o q,r⟩
def zR{h h':Heap}(x:h.IsTupleIter it p i)(e:∀o,h.get? it=some o->h'.get? it=some o):h'.IsTupleIter it p i:=let ⟨o,q,r⟩:=x;⟨o,e o q,r⟩
def xP{h h':Heap}(x:h.DictOf knd d kvs)(e:∀o,h.get? d=some o->h'.get? d=some o):h'.DictOf knd d kvs:=let ⟨o,es,ep,q,r⟩:=x;⟨o,es,ep,e o q,r⟩
def QO(ag:A.in1.handled=none)(S:d≠it)(ar:d≠t)(av:t≠it)(aw:items[ps.length]?=none):∀r i s acc,i+r=ps.length ->
   s.heap.IsTupleIter it t i->s.heap.IsTuple t items->s.heap.DictOf knd d acc->acc.length+r<=sizeLine ->
   (∀j(h:j < ps.length),∃p O,items[j]?=some (.ref p)/\p≠d/\p≠it/\s.heap.IsTuple p #[O,ps[j].2]/\knd.is ps[j].1 O=true) ->
   (∀h tk,(∀b o,b≠d->b≠it->s.heap.get? b=some o->h.get? b=some o)->h.DictOf knd d (merged acc (ps.drop i))->R (.ok (.ret res)) { s with heap:=h,toks:=tk }) ->
   codeAny (model prog w) A (.builtin "dict.update.loop" ⟨[.ref d,.ref it,rawInt i,res],[]⟩) R s:=by
 intro r
 induction r with
 |zero =>
  intro i s acc e J tt I hz L G;have ei:i=ps.length:=by lia
  subst ei;rw[Bq] at G;exact BX jM ((Dr kW _)▸AA (Dc ag J tt aw fun h x=>AA (AD (AD (G h s.toks (fun b o _ aq q=>x b o aq q) (xP I fun o q=>x d o S q))))))
 |succ r ih =>
  intro i s acc e J tt I hz L G;have hi:i < ps.length:=by lia
  refine Et (L i hi) fun p O hp ax au tp kk=>BX jM (AA (DX J tt hp fun h1 aj B=>?_));have ae:=fZ tp fun o q=>B.extBut p o au q;refine AA (As (AA (wpAny_tryCatch (AA (CM ae.typeIs ?_)))));obtain⟨op,e1,e2,n,e3⟩:=id ae;refine AA (Bp e1 e3 (AD (As (wpAny_dictSet_pairs kk (xP I fun o q=>B.extBut d o S q) (fun h2 ah F=>?_) (by lia)))))
  have ai:merged acc (ps.drop i)=merged (stored acc ps[i].1 ps[i].2) (ps.drop (i+1)):=by
   rw[Ap hi];rfl
  refine AD ⟨BH kW _,?_⟩;have ek:rawInt ((i:Int)+1)=rawInt ((i+1:Nat):Int):=by rw[Int.natCast_add];rfl
  refine ih (i+1) _ (stored acc ps[i].1 ps[i].2) (by lia) (zR aj fun o q=>(F.2 it (Ne.symm S)).trans q) (fZ (fZ tt fun o q=>B.extBut t o av q) fun o q=>(F.2 t (Ne.symm ar)).trans q) ah ?_ (fun j hj=>?_) fun h tk ak ab=>?_
  .have:=stored_length_le acc ps[i].1 ps[i].2
   lia
  .exact Et (L j hj) fun U ao af Y Z a4 a5=>⟨U,ao,af,Y,Z,fZ (fZ a4 fun o q=>B.extBut U o Z q) fun o q=>(F.2 U Y).trans q,a5⟩
  .rw [<- ai] at ab
   exact G h tk (fun b o n1 n2 q=>ak b o n1 n2 ((F.2 b n1).trans (B.extBut b o n2 q))) ab
end
def gS:typeLookup (.type "tuple") "keys" = pure none:=by rw[DA,B6];kernel_rfl
def lM
  (L:s.heap.get? a=some o)(G:o.cls=.type "tuple")(J:o.data=.seq xs k)(I:o.dict=none)(S:A.handled=none)(h:∀(h':Heap)(tk:Nat),(∀b u,s.heap.get? b=some u->h'.get? b=some u)->Q none { s with heap:=h',toks:=tk }):wpAny (model prog w) A (getAttr? (.ref a) "keys") Q E s:=by
 obtain⟨c,ab,Z,Y⟩:=o
 simp only at G J I
 subst G J I;obtain⟨U,g,d,tk,os⟩:=s;have B:∀q,(⟨U,g,d,q,os⟩:Shared).TypeIs (.ref a) "tuple":=fun _=>⟨_,L,rfl⟩;have ae:=sub_AttributeError;have f3:=DM.lookup;have af:=DM.bind (.ref a);have f5:=am_tuple_getattr_none
 delta getAttr? getAttrBy? getAttrBy
 repeat (any_goals (first | assumption | exact B _ | ((with_reducible show wpAny _ _ (call (Value.builtin "tuple.__getattribute__") _ _) _ _ _);refine call_meets DM (B _) am_entry_tuple_getattribute (F.args_tuple_getattribute_2 _ _) (meets_getattribute_miss_tuple a xs k Y "keys" _ gS rfl (by decide)) ⟨L,S,fun h' q e O=>?_⟩) | wp_step))
 obtain⟨t',u',ag⟩:=O.there
 delta getattributeRaised
 repeat (any_goals (first | assumption | wp_step))
 exact h h' q O.of.keeps
section
variable {prog:Program}{w:World}{κ:Type}[DecidableEq κ]{knd:KeyKind prog w κ}{A:Around}{E:Value->Shared->Prop}{s:Shared}{d t:Addr}{items:Array Value}{ps acc:List (κ×Value)}{res:Value}
noncomputable def vR{id}(af:A.handled=none)(ag:Z.in1.handled=none)(ar:d≠t)(I:s.heap.get? t=some o)(S:o.cls=.type "tuple")(U:o.data=.seq items n)(aj:o.dict=none)(O:s.heap.DictOf knd d acc)(hz:acc.length+ps.length<=sizeLine)(au:items[ps.length]?=none)(ao:∀j(h:j < ps.length),∃p F,items[j]?=some (.ref p)/\p≠d/\s.heap.IsTuple p #[F,ps[j].2]/\knd.is ps[j].1 F=true)(G:∀(h:Heap)(tk:Nat),(∀b o,b≠d->s.heap.get? b=some o->h.get? b=some o)->h.DictOf knd d (merged acc ps)->R (.ok (.ret res)) { s with heap:=h,toks:=tk }):
  wpAny (model prog w) A (Builtin.Dict.updateFrom id d (.ref t) [] res) (fun G s'=>match G with | .done f=>R (.ok f) s' | .again L=>L.quiet=true/\codeAny (model prog w) Z L R s') E s:=by
 have tt:s.heap.IsTuple t items:=⟨o,I,S,n,U⟩;refine AA (CM tt.typeIs (AA (lM I S U aj af fun h1 av B=>AA (Bu ?_))));have Y:=fZ tt fun o q=>B t o q;refine AA (wpAny_pyIter_tuple Y ?_);have ai :=Gk O fun od es ep q _=>AH (B d od q);refine AD ⟨BH kW _,QO (knd:=knd) ag (AV ai) ar (AV (AH (B t o I))) au ps.length 0 _ acc (BY _) ⟨_,AL _ rfl,rfl,rfl⟩ (Y.push _) ?_ hz (fun j hj=>?_) fun h tk ak ah=>?_⟩
 .exact xP O fun o q=>AC _ (B d o q)
 .refine dH (ao j hj) fun p F ab ae J a4=>?_
  have hp :=dQ J fun op q _=>AH (B p op q);exact⟨p,F,ab,ae,AV hp,fZ J fun o q=>AC _ (B p o q),a4⟩
 .exact G h tk (fun b o aq q=>ak b o aq (AV (AH (B b o q))) (AC _ (B b o q))) ah
end
end PySem
namespace L2
open PySem PySem.Spec PyProof.Rows
abbrev cY(H:Hp):List Addr->List (Key×V)->Prop:=Paired fun a p=>H a=some (.tup [kV p.1,p.2])
theorem aY:∀{B:List Addr}{q},Vals (B.map V.ref) q->q=B.map Value.ref
 |[],_,.nil=>rfl
 |_::_,_,.cons h r=>by
  cases h;rw[aY r];rfl
theorem qF(I:HOk P w H h):∀{F}{ps},cY H F ps->∃q,KV ps q/\F.length=q.length /\
  ∀j(hj:j < q.length),∃p G,F[j]?=some p/\h.IsTuple p #[G,q[j].2]/\(tQ P w).is q[j].1 G=true
 |_,_,.nil=>⟨[],.nil,rfl,fun j hj=>absurd hj (Ce j)⟩
 |_,_,@Paired.cons _ _ _ a p l1 l2 e r=>by
  refine xZ (qF I r) fun q L O S=>?_;obtain⟨_,ab,B,Z⟩:=(I a _ e)
  cases B with
  |@cons _ J _ its' U B =>
   cases B with
   |@cons _ vu _ ae Y B =>
    cases B;refine⟨(p.1,vu)::q,.cons ⟨rfl,Y⟩ L,by rw[AQ,AQ,O],fun j hj=>?_⟩
    cases j with
    |zero=>exact⟨a,J,rfl,Z.is,pO U⟩
    |succ j=>exact S j (By hj)
section
variable {X:Cx}
def Jf(hc:X.calm=true):CallR X (.type "dict") (fun xs H Q=>∃t B ps,xs=[.ref t]/\H t=some (.tup (List.map V.ref B))/\cY H B ps/\ps.length<=sizeLine/\∀d,H d=none->Q (.ref d) (upd H d (.dK (dW [] ps)))):=by
 intro pins s σ H xs us Q I r h;obtain⟨t,B,ps,rfl,ht,hp,hz,af⟩:=h;obtain⟨u,rfl,rfl⟩:=r.one;obtain⟨_,ah,rv,o,h1,h2,⟨n,h3⟩,h4⟩:=(I.hok t _ ht);have Z:=aY rv;subst Z;refine xZ (qF I.hok hp) fun ag q1 q2 q3=>DG (Q₁:=fun J L=>J=.ref s.heap.objs.size/\L={ s with heap:=s.heap.push { cls:=.type "dict",data:=.dict #[] } }) F.kt_called_dict (F.kt_typeCall_dict_1 _) F.entry_dict_init (kt_code_dict_new _ ⟨rfl,rfl⟩) ?_
 rintro J L ⟨rfl,rfl⟩;have q:(s.heap.push { cls:=.type "dict",data:=.dict #[] }).DictOf (tQ X.prog X.w) s.heap.objs.size []:=Heap.DictOf.new s.heap;refine⟨q.typeIs,F.args_dict_init_2 _ _,?_⟩
 apply AA
 refine AA (Ct q.typeIs (AD ?_));have O:=I.ok.hd hc;refine vR (ps:=ag) (by lia) (by simp[O]) (Ay (AH h1)) (AC _ h1) h2 h3 h4 q ?_ ?_ (fun j hj=>?_) fun h' tk ae S=>?_
 .grind
 .simp_all
 .refine nX (q3 j hj) fun p kv U G Y=>?_
  have ab :=dQ G fun op z _=>AH z;refine⟨p,kv,?_,AV ab,G.push _,Y⟩;rw[Cv,Aq,U];rfl
 .refine ⟨rfl,.ref s.heap.objs.size,_,I.laid (t':=tk) (fun b ob e=>ae b ob (AV (AH e)) (AC _ e)) (AI _) ?_,rfl,af _ (I.hok.fresh (AI _))⟩
  refine kI ?_ (DB (Ay I.big)) (KV.merge q1 .nil) S;have:=yV ps []
  simp at this
  lia
def Ig:V->List V->Hp->VK->Prop:=fun x vs H Q=>∃d t q ps kvs,x=.ref d/\vs=[.ref t]/\H d=some (.dK kvs)/\H t=some (.tup (List.map V.ref q))/\cY H q ps/\kvs.length+ps.length<=sizeLine/\Q .non (upd H d (.dK (dW kvs ps)))
def Dv(hc:X.calm=true):MtR X "dict.update" Ig:=by
 intro pins s σ H x xs v us Q I rx rv h;obtain⟨d,t,pa,ps,kvs,rfl,rfl,G,U,hp,hz,ah⟩:=h;cases rx;obtain⟨u,rfl,rfl⟩:=rv.one;obtain⟨_,ao,aj,o,h1,h2,⟨n,h3⟩,h4⟩:=(I.hok t _ U);have ei:=aY aj;refine xZ (qF I.hok hp) fun ai Y q2 q3=>?_;have hl:=KV.length Y;obtain⟨z,hS,vs,Z,L⟩:=qE I.hok G;have ak:=Z.length;have B:=L.typeIs;have ab:=I.ok.hd hc;refine CD (Cz F.slot_dict_update.plain F.entry_dict_update (F.slot_dict_update.check _ _ _ _ _ _ _ _ B (F.args_dict_update_2 _ _) ?_))
 apply AA
 refine AA (Ct B (AD (vR (R:=wants (EP X pins σ Q) X.xe) (ps:=ai) (by lia) (by simp[ab]) (JY G U (fun z=>nomatch z)) h1 h2 h3 h4 L (by lia) ?_ (fun j hj=>?_) fun h' tk af O=>?_)))
 .simp_all
 .refine nX (q3 j hj) fun p kv e1 S e3=>⟨p,kv,?_,?_,S,e3⟩
  .simp_all
  .intro z
   subst z;refine xZ S fun op y1 y2 _=>dQ B fun od y3 q=>?_;rw[y1] at y3;cases y3;rw[y2] at q;injection q with q;exact absurd q (by decide)
 .have ae:∃J,h'.get? d=some J:=let ⟨J,_,_,hq,_⟩:=O;⟨J,hq⟩
  refine⟨.non,_,I.write (t':=tk) (G▸True.intro) (.inl rfl) (fun b ob ag e=>af b ob ag e) ae (kI ?_ hS (KV.merge Y Z) O),rfl,ah⟩;have:=yV ps kvs
  lia
end
end L2
namespace L2
open PySem PySem.W PyProof.Rows
noncomputable def rS(H:Hp)(f:Addr->Option (List V)):Hp:=fun b=>match f b with
 |some xs=>some (.tup xs)
 |none=>H b
def tL(e:f b=some xs):rS H f b=some (.tup xs):=by delta rS;rw[e]
def wG(e:f b=none):rS H f b=H b:=by delta rS;rw[e]
def uK(q:∀b xs,f b=some xs->H b=none)(e:H b=some o):rS H f b=some o:=by
 cases z:f b with
 |none=>rwa [wG z]
 |some xs=>rw[q b xs z] at e;cases e
section
variable {X:Cx}{pins:List (Addr×Obj)}{σ:St}{H:Hp}{s:Shared}{h':Heap}
def Inv.tups{f:Addr->Option (List V)}(I:Inv X pins σ H s)(k:∀b u,s.heap.get? b=some u->h'.get? b=some u)(G:∀b xs,f b=some xs->s.heap.objs.size<=b/\xs.length<=sizeLine/\∃F:List Value,Vals xs F/\jt h' b F.toArray):Inv X pins σ (rS H f) { s with heap:=h',toks:=t' }:=by
 have B:∀b xs,f b=some xs->H b=none:=fun b xs e=>I.hok.fresh (G b xs e).1
 have O:∀{b:Addr}{o:Obj},s.heap.get? b=some o->f b=none:=fun {b o}e=>by
  cases z:f b with
  |none=>rfl
  |some xs=>exact absurd (AH e) (Nat.not_lt.mpr (G b xs z).1)
 refine I.un ⟨fun b o q _ _ _=>k b o q,fun b o q _ _ _=>⟨o.slots,k b o q⟩,fun b o q n _=>by rw[wG (O q)];exact n,fun b o q _=>⟨o,k b o q⟩,fun b xs q=>uK B q,fun b o u q=>uK B q,fun b ps q=>⟨#[],by rw[uK B q];simp⟩⟩ fun b u e=>?_
 cases z:f b with
 |some xs =>
  rw[tL z] at e;cases e;obtain⟨_,h2,F,J,L⟩:=G b xs z;exact⟨h2,F,J,L⟩
 |none =>
  rw[wG z] at e;exact(I.hok b u e).stay (fun c v _ q=>k c v q) (fun c q=>uK B q) fun c xs q=>uK B q
end
section
variable {X:Cx}
def oP{σ:St}(hA:A.in1.units<=X.A.units+2)(I:Inv X pins σ H s)(L:Vals ys vs)(af:ys.length < 64)(hs:HF X H ys q)(Y:∀p s',H p=none->Inv X pins σ (upd H p (.lst (zF q ys))) s'->Z (.done (.ret (.ref p))) s'):
  wpAny (model X.prog X.w) A (newList vs >>= fun l=>holding [l] (call (.builtin "list.sort") [l] []) >>= fun _=>ret l) Z E s:=by
 have ae:=L.length;have ab:vs.length < 64:=by lia
 have zl:vs.length<=sizeLine:=by rw[BZ];lia
 refine AA (wpAny_newList ?_ zl);have G:(s.heap.push (seqObj "list" vs.toArray 0)).get? s.heap.objs.size=some (seqObj "list" vs.toArray 0):=AL _ rfl;have S:∀{b:Addr}{o:Obj},s.heap.get? b=some o->b≠s.heap.objs.size:=fun e=>AV (AH e);have O:∀b o,s.heap.get? b=some o->(rJ (s.heap.push (seqObj "list" vs.toArray 0)) s.heap.objs.size vs).get? b=some o:=fun b o e=>Q5 (AC _ e) (S e)
 obtain⟨κ,hk,hc⟩:=(hs pins σ _ vs A.in1 hA (I.kept (t':=s.toks) O) L);obtain⟨k0,_,U⟩:=ZH G;have F:∃c,(sortedHeap (s.heap.push (seqObj "list" vs.toArray 0)) s.heap.objs.size vs (cV q vs).toArray).get? s.heap.objs.size=some (seqObj "list" (cV q vs).toArray c):=⟨_,get?_update_seq U fun _=>(cV q vs).toArray⟩;obtain⟨c,F⟩:=F;refine AA (As (Az slot_list_sort ⟨_,G,rfl⟩ entry_list_sort ?inner (args_list_sort _)))
 refine rM G ab (fun h2 B J=>hk (by lia) B J) (fun i j hi hj B J=>hc i j (by lia) (by lia) B J) ⟨_,rfl,AD ?_⟩;refine Y _ _ (I.hok.fresh (AI _)) (I.laid (t':=s.toks) (fun b o e=>(DD _ _ _ _ (S e)).trans (O b o e)) (AI _) ⟨by rw[iP,BZ];lia,cV q vs,c,?_,F⟩)
 delta zF cV
 exact ae▸nN L _
abbrev yY(v d:Addr):Heap->Prop:=fun h=>h.IsItemsView v d
def Mg:V->List V->Hp->VK->Prop:=fun x vs H Q=>∃d kvs,x=.ref d/\vs=[]/\H d=some (.dK kvs)/\∀v,H v=none->Q (.ref v) (upd H v (.ext (yY v d)))
def Yu:MtR X "dict.items" Mg:=by
 intro pins s σ H x xs v us Q I U S h;obtain⟨d,kvs,rfl,rfl,O,q⟩:=h;cases U;cases S;obtain⟨z,L,vs,Y,B⟩:=qE I.hok O;refine Df DR B.typeIs F.entry_dict_items (F.args_dict_items_1 _) (meets_dict_items (tQ X.prog X.w) d L) ⟨⟨vs,B⟩,⟨.ref s.heap.objs.size,_,I.laid (t':=s.toks) (fun b o e=>AC _ e) (AI _) ?_,rfl,q _ (I.hok.fresh (AI _))⟩⟩
 refine⟨⟨_,AL _ rfl,rfl,rfl⟩,⟨_,AL _ rfl⟩,?_⟩;rintro h1 h2 ⟨o,G,J⟩ e;exact⟨o,e o G,J⟩
noncomputable def Im(as:List Addr)(kvs:List (Key×V)):Addr->Option (List V):=fun b=>((as.zip kvs).find? fun p=>p.1==b).map fun p=>[kV p.2.1,p.2.2]
def Ge{as:List Addr}(nd:as.Nodup){j:Nat}{p:Key×V}(B:as[j]?=some a)(F:kvs[j]?=some p):(as.zip kvs).find? (fun q=>q.1==a)=some (a,p):=by
 induction as generalizing kvs j with
 |nil=>cases B
 |cons x as G =>
  cases kvs with
  |nil=>cases F
  |cons y kvs =>
   rw[A0] at nd;rw[DI,A1]
   cases j with
   |zero=>cases B;cases F;simp
   |succ j =>
    exact(show(x==a)=false from DB fun e=>nd.1 (e▸Ai B))▸G nd.2 B F
def eG{as:List Addr}{q:Addr×(Key×V)}(h:(as.zip kvs).find? (fun q=>q.1==b)=some q):q.1=b/\∃j:Nat,as[j]?=some b/\kvs[j]?=some q.2:=by
 have h1:=Dm h;have h1:=eq_of_beq h1;obtain⟨j,hj⟩:=Cu.mp (BO h);rw[List.getElem?_zip_eq_some] at hj;exact⟨h1,j,by exact h1▸hj.1,hj.2⟩
theorem vO: ∀{as}{kvs},as.length=kvs.length->(∀(j:Nat)a p,as[j]?=some a->kvs[j]?=some p->H a=some (.tup [kV p.1,p.2]))->cY H as kvs
 |[],[],_,_=>.nil
 |[],_::_,h,_=>nomatch h
 |_::_,[],h,_=>nomatch h
 |a::as,p::kvs,h,k=>.cons (k 0 a p rfl rfl) (vO (BC h) fun j q B h1 h2=>k (j+1) q B h1 h2)
def WG(h:(tQ P w).is k u=true):RelV (kV k) u:=by
 rcases rZ h with ⟨i,t,rfl,rfl⟩ | ⟨x,t,rfl,rfl⟩ | ⟨rfl,rfl⟩
 .exact ⟨t,rfl⟩
 .exact ⟨t,rfl⟩
 .exact rfl
def M5(r:KV kvs vs):∀{j:Nat}{p}{q:Key×Value},kvs[j]?=some p->vs[j]?=some q->p.1=q.1/\RelV p.2 q.2:=by
 induction r with
 |nil=>intro j p q h;cases h
 |cons h _ B =>
  intro j p q h1 h2
  cases j with
  |zero=>cases h1;cases h2;exact h
  |succ j=>exact B h1 h2
def dI(hc:X.calm=true):CallR X (.builtin "sorted") (fun xs H Q=>∃v d kvs L,xs=[.ref v]/\H v=some (.ext (yY v d))/\H d=some (.dK kvs)/\kvs.length < 64 /\
  ∀as H1,Same H H1->cY H1 as kvs->(∀a∈as,H a=none)->(∀a,H a=none->H1 a≠none->a∈as)->HF X H1 (List.map V.ref as) L/\∀p,H1 p=none->Q (.ref p) (upd H1 p (.lst (zF L (List.map V.ref as))))):=by
 intro pins s σ H xs us Q I r h;obtain⟨v,d,kvs,L,rfl,hv,ah,ao,hq⟩:=h;obtain⟨u,rfl,rfl⟩:=r.one;obtain⟨z,hS,vs,ab,dd⟩:=qE I.hok ah;obtain⟨ai,_,_⟩:=(I.hok v _ hv);obtain⟨ep,da⟩:=dd.dictAt;have U:=ab.length;refine DN kind_sorted plain_sorted entry_sorted (args_sorted1 _) (?_:wpAny _ _ (Builtin.«sorted» _) _ _ _);refine AA (AD (AA (kdx_collect (by simp[I.ok.hd hc]) ai da (by rwa [<- U]) fun h' tk as aj Y G=>?_)))
 have nd:=G.rise.imp fun h=>AV h;have Z:=Y.trans U.symm;have F:∀a∈as,s.heap.objs.size<=a:=fun a J=>Di (G.above a J)
 have O:Inv X pins σ (rS H (Im as kvs)) { s with heap:=h',toks:=tk }:=I.tups aj fun b xs e=>by
  delta Im at e
  cases z:(as.zip kvs).find? fun p=>p.1==b with
  |none=>rw[z] at e;cases e
  |some q =>
   rw[z] at e;cases e;obtain⟨e1,j,B,e3⟩:=eG z;refine fM (G.pairs j b B) fun ak k x ae af ag=>?_;obtain⟨r1,r2⟩:=M5 ab e3 ae;refine⟨F b (Ai B),y0 2 rfl,[ak,x],.cons (r1▸WG af) (.cons r2 .nil),⟨_,ag,rfl,⟨_,rfl⟩,rfl⟩⟩
 have S:∀b xs,Im as kvs b=some xs->H b=none:=fun b xs e=>by
  delta Im at e
  cases z:(as.zip kvs).find? fun p=>p.1==b with
  |none=>rw[z] at e;cases e
  |some q =>
   obtain⟨_,j,B,_⟩:=eG z;exact I.hok.fresh (F b (Ai B))
 obtain⟨hs,q⟩:=hq as (rS H (Im as kvs)) (fun b o e=>uK S e) (vO Z fun j a p h1 h2=>tL (by delta Im;rw[Ge nd h1 h2];rfl)) (fun a J=>I.hok.fresh (F a J)) fun a n1 n2=>by
  cases z:Im as kvs a with
  |none=>rw[wG z] at n2;exact absurd n1 n2
  |some xs =>
   delta Im at z
   cases y:(as.zip kvs).find? fun p=>p.1==a with
   |none=>rw[y] at z;cases z
   |some q =>
    obtain⟨_,j,B,_⟩:=eG y;exact Ai B
 have rv:Vals (as.map V.ref) (as.map Value.ref):=by
  clear nd Z F O S hs q Y G hq
  induction as with
  |nil=>exact .nil
  |cons a as ih=>exact .cons rfl ih
 exact oP (AI _) O rv (by grind) hs fun p s' hp I'=>⟨_,rfl,.ref p,_,I',rfl,q p hp⟩
end
end L2
namespace PySem.W
open PySem PySem.Calls PyProof.Rows PyProof.V PySem.Spec
def qz(h:Heap)(d:Addr)(es:Array DictEntry)(ep:Nat):Prop:=∃o,h.get? d=some o/\o.ExactDict/\o.data=.dict es ep
theorem qz.at(x:qz h d es ep)(k:∀o,h.get? d=some o->h'.get? d=some o):qz h' d es ep:=let ⟨o,e,r⟩:=x;⟨o,k o e,r⟩
abbrev O5(h:Heap)(it d:Addr)(i n ep:Nat)(x0 ok ov:Value)(f:Bool):Prop:=h.get? it=some { cls:=.type "dict_itemiterator",dict:=none,data:=.fields #[x0,.bool f,.ref d,.int i 0,.int n 0,.int ep 0,ok,ov],slots:=#[] }
def HJ(h:Heap)(it d S:Addr)(i n ep:Nat):Prop:=∃q F G f,O5 h it d i n ep q F G f/\((q=.none/\f=false)\/∃a B,q=rawInt (a:Nat)/\h.get? a=some B/\a≠it/\a≠S)
theorem HJ.keep(x:HJ h it d S i n ep)(k:∀b o,b≠S->h.get? b=some o->h'.get? b=some o)(B:it≠S):HJ h' it d S i n ep:=by
 refine Es x fun U G I f e r=>⟨U,G,I,f,k _ _ B e,r.imp id ?_⟩;rintro⟨a,F,J,L,O,q⟩;exact⟨a,F,J,k _ _ q L,O,q⟩
section
variable {prog:Program}{w:World}{A:Around}{E:Value->Shared->Prop}{s:Shared}
def QA(hh:A.handled=none)(ay:HJ s.heap it d S i n ep)(hS:S < s.heap.objs.size)(hD:qz s.heap d es ep)(hn:es.size=n)(aw:∀e h',es[i]?=some e->HJ h' it d S (i+1) n ep->h'.get? s.heap.objs.size=some { cls:=.type "tuple",data:=.seq #[e.key,e.val] }->h'.objs.size=s.heap.objs.size+1->(∀b o,b≠it->s.heap.get? b=some o->h'.get? b=some o)->Q (some (.ref s.heap.objs.size)) { s with heap:=h' })(av:es[i]?=none->∀h',(∀b o,b≠it->s.heap.get? b=some o->h'.get? b=some o)->Q none { s with heap:=h' }):wpAny (model prog w) A (pyNext (.ref it)) Q E s:=by
 obtain⟨hp,g,ab,tk,os⟩:=s;refine xZ hD fun od d1 d2 d3=>Es ay fun a5 au ov f Z az=>?_;subst hn;have O:Shared.TypeIs ⟨hp,g,ab,tk,os⟩ (.ref it) "dict_itemiterator":=⟨_,Z,rfl⟩;have ax:Builtin.Dict_items.ownsTuple "dict_itemiterator" = true:=by decide
 delta pyNext
 refine AA (Cb (Ci O Cc (Az Cc O PySem.F.entry_dict_itemiterator_next (AA (AD ?_)) (PySem.F.args_dict_itemiterator_next_1 _))));refine AA (AA (AA (Cw O (AD (AA (wpAny_fieldsOf Z rfl ?_))))))
 (simp only[ax,if_true];show wpAny _ _ (if (Value.ref d==Value.none)=true then _ else _) _ _ _;rw[Af (show ¬ ((Value.ref d==Value.none)=true) from AN)])
 refine AA (AD (AA (wpAny_dictEntries d1 d3 ?_)))
 (rw[Af (by simp)];refine AA (AD (AA (wpAny_dictEpoch d1 d3 ?_)));rw[Af (by simp)];apply AD)
 cases hx:es[i]? with
 |none =>
  (simp only[show ¬ ((i:Int) < 0) from by lia,if_false,Int.toNat_natCast,hx];refine AA (AA (Cw O (AD ?_))))
  (show wpAny _ _ (setField (.ref it) 2 .none >>= _) _ _ _;refine AA (CC Z rfl (by simp) ?_))
  (apply AA;simp only[newExc,newTuple];refine AA (Ax ?_ (by size_fits)))
  refine AA (Bl (by first | rfl | (simp only[firstArgMember];rfl)) (Ax ?_ (by size_fits)))
  (simp only[raiseNew];refine AA (wpAny_handled ?_);rw[show A.in1.handled=none from hh];refine AA (AD (wpAny_throw ?_)))
  (refine AA (BB ⟨_,AL _ rfl,rfl⟩ isSubtype_stop ?_))
  exact AD (av hx _ fun b o U e=>(((Heap.SameBut.update ..).extBut.push _).push _) b o U e)
 |some e =>
  have aj:=AH Z
  (simp only[show ¬ ((i:Int) < 0) from by lia,if_false,Int.toNat_natCast,hx];refine AA (AA (Cw O (AD ?_))))
  (refine AA (Dd O ?_);show wpAny _ _ (setField (.ref it) 3 (rawInt ((i:Int)+1)) >>= _) _ _ ⟨hp,g,ab,tk,os⟩)
  refine AA (Bt Z (by simp) fun ak Y ae=>?_);have ae:=ae
  have Y:O5 ak it d (i+1) es.size ep a5 au ov f:=by
   have z:((i+1:Nat):Int)=(i:Int)+1:=by lia
   (delta O5;rw[z];simpa [rawInt] using Y)
  have ai:Shared.TypeIs ⟨ak,g,ab,tk,os⟩ (.ref it) "dict_itemiterator":=⟨_,Y,rfl⟩;refine AA (As (AA (Dd ai (AA (Dd ai ?_)))))
  (delta Builtin.Dict_items.pairFromOwner;refine AA (wpAny_newTuple ?_))
  obtain⟨B,L⟩:∃B,B=ak.push { cls:=.type "tuple",data:=.seq #[e.key,e.val] }:=⟨_,rfl⟩;have I:=ae.1;have J :=L▸AC _ Y;have t2 :=L▸I▸AL _ rfl;have z2:B.objs.size=hp.objs.size+1:=by rw[L,Br,I]
  have k2:∀b o,b≠it->hp.get? b=some o->B.get? b=some o:=fun b o U aq=>L▸AC _ (ae.extBut b o U aq);have ah:∀q:Heap,Heap.SameBut it B q->HJ q it d S (i+1) es.size ep->Q (some (.ref hp.objs.size)) ⟨q,g,ab,tk,os⟩:=fun q G r=>aw e q hx r (G.extBut _ _ (Ay aj) t2) (by rw[G.1,z2]) fun b o U aq=>G.extBut b o U (k2 b o U aq)
  (rw[<- L])
  clear L Y ai
  (apply AA;delta Builtin.Dict_items.ownedTupleIsFree;refine AA (A5 J rfl rfl ?_))
  rcases az with ⟨rfl,rfl⟩ | ⟨a,oa,rfl,ha,ao,a0⟩
  ·(apply AD;simp only[if_true])
   refine AA (A5 J rfl rfl (AA (A5 J rfl rfl (AA (Bt J (by simp) fun q e3 ag=>?_)))));refine AA (Bt e3 (by simp) fun h4 e4 a3=>?_);refine AA (Bt e4 (by simp) fun h5 e5 a4=>?_);refine AA (Bt e5 (by simp) fun h6 e6 s6=>?_);have G:=((Heap.SameBut.trans ag a3).trans a4).trans s6
   have a6 :=I▸G.extBut _ _ (Ay aj) t2;have af:HJ h6 it d S (i+1) es.size ep:=⟨_,_,_,_,e6,.inr ⟨_,_,rfl,a6,by rw[I];exact Ay aj,by exact I▸Ay hS⟩⟩;have F:=ah h6 G af;rw[<- I] at F;exact AA (wpAny_letGo (AD (AD ⟨_,rfl,AD F⟩)))
  .have ar:=k2 a oa ao ha
   have af:∀q fl,Heap.SameBut it B q->O5 q it d (i+1) es.size ep (rawInt (a:Nat)) au ov fl->HJ q it d S (i+1) es.size ep:=fun q fl G r=>⟨_,_,_,_,r,.inr ⟨a,oa,rfl,G.extBut a oa ao ar,ao,a0⟩⟩
   (show wpAny _ _ (loadIfAlive ((a:Int).toNat) >>= _) _ _ _;rw[Co])
   (refine AA (kdx_alive ar ?_);simp only[Option.isNone_some,Bool.false_eq_true,if_false];refine AA (A5 J rfl (x:=.bool f) rfl ?_))
   cases f with
   |true =>
    (rw[Af (show ¬ ((Value.bool true != Value.bool true)=true) from AN)];apply AD;simp only[Bool.false_eq_true,if_false])
    have F:=ah B (Heap.SameBut.refl _ _) (af B true (Heap.SameBut.refl _ _) J);rw[<- I] at F;exact AD (AD ⟨_,rfl,AD F⟩)
   |false =>
    (rw[Ah (show(Value.bool false != Value.bool true)=true from rfl)];refine AA (Bt J (by simp) fun q e3 ag=>?_))
    have F:=ah q ag (af q true ag e3);rw[<- I] at F
    (apply AD;simp only[Bool.false_eq_true,if_false])
    exact AD (AD ⟨_,rfl,AD F⟩)
structure lz(es:Array DictEntry)(lo:Addr)(h:Heap)(as:List Addr):Prop where
 rise:as.Pairwise (· < ·)
 above:∀a∈as,lo < a
 pairs:∀(j:Nat)(a:Addr),as[j]?=some a->∃e,es[j]?=some e/\h.get? a=some { cls:=.type "tuple",data:=.seq #[e.key,e.val] }
def lz.there{lo}(g:lz es lo h as)(B:a∈as):a < h.objs.size:=by
 obtain⟨j,hj⟩:=Cu.mp B;exact dQ (g.pairs j a hj) fun e _ q=>AH q
def lz.snoc{lo}{p:Addr}(g:lz es lo h as)(k:∀b o,lo < b->h.get? b=some o->h'.get? b=some o)(G:h.objs.size=p)(O:lo < p)(L:es[as.length]?=some e)(S:h'.get? p=some { cls:=.type "tuple",data:=.seq #[e.key,e.val] }):lz es lo h' (as++[p]) where
 rise:=List.pairwise_append.mpr ⟨g.rise,List.pairwise_singleton _ _,fun a q b F=>by
  cases AF.mp F
  exact G▸g.there q⟩
 above:=fun a q=>by
  rcases Ad.mp q with q | q
  .exact g.above a q
  .grind
 pairs:=fun j a hj=>by
  by_cases h1:j < as.length
  .rw [CY h1] at hj
   exact dQ (g.pairs j a hj) fun B I J=>⟨B,I,k a _ (g.above a (Ai hj)) J⟩
  .by_cases h2:j=as.length
   .simp_all
   .grind
def WH{ai:Heap}(hh:A.handled=none)(ag:S < I)(ao:d≠S)(ak:d≠I)(hz:es.size<=sizeLine)(hR:∀h' tk acc c as,(∀b o,b≠S->b≠I->ai.get? b=some o->h'.get? b=some o)->h'.get? S=some { cls:=.type "list",dict:=none,data:=.seq acc c,slots:=#[] }->as.length=es.size->lz es I h' as->acc.toList=as.map Value.ref->R (.ok (.ret res)) { s with heap:=h',toks:=tk }):
  ∀k h tk c acc as,as.length+k=es.size->HJ h I d S as.length es.size ep->qz h d es ep->(∀b o,b≠S->b≠I->ai.get? b=some o->h.get? b=some o) ->
   h.get? S=some { cls:=.type "list",dict:=none,data:=.seq acc c,slots:=#[] }->acc.toList=as.map Value.ref->lz es I h as->I < h.objs.size ->
   codeAny (model prog w) A (.builtin "list.extend.loop" ⟨[.ref S,.ref I,res],[]⟩) R { s with heap:=h,toks:=tk }:=by
 have Z:=AV ag;intro k
 induction k with
 |zero =>
  intro h tk c acc as hk O G Y F L B J
  (apply BX PySem.F.entry_extend_loop)
  (refine AA (QA hh O (AH F) G rfl (fun e h' U=>?_) fun _ h' q=>?_))
  .grind
  .exact AD (hR h' tk acc c as (fun b o h1 h2 e=>q b o h2 (Y b o h1 h2 e)) (q S _ Z F) (by lia) ⟨B.rise,B.above,fun j a hj=>let ⟨e,q1,q2⟩:=B.pairs j a hj;⟨e,q1,q a _ (Ay (B.above a (Ai hj))) q2⟩⟩ L)
 |succ k ih =>
  intro h tk c acc as hk O G Y F L B J;have av:acc.size=as.length:=by rw[<- Ca,L,AB]
  (apply BX PySem.F.entry_extend_loop)
  (refine AA (QA hh O (AH F) G rfl (fun e h' U aq ht aw q=>?_) fun U=>?_))
  .have q:=q
   have af:=q S _ Z F;have ab:∀b o,b≠S->h'.get? b=some o->(h'.update S (Obj.mapSeq (·.push (Value.ref h.objs.size)))).get? b=some o:=fun b o ar e=>(Ac _ _ (Ne.symm ar)).trans e;have ae:∀b o,b≠S->b≠I->h.get? b=some o->(h'.update S (Obj.mapSeq (·.push (Value.ref h.objs.size)))).get? b=some o:=fun b o n1 n2 e=>ab b o n1 (q b o n2 e);have ah:=ab _ _ (Ay (AH F)) ht
   have aj:=B.snoc (fun b o lb e=>ae b o (Ay (Nat.lt_trans ag lb)) (Ay lb) e) rfl J U ah;have hl:(as++[h.objs.size]).length=as.length+1 :=by grind
   have au:=ih _ tk _ (acc.push (Value.ref h.objs.size)) (as++[h.objs.size]) (by rw[hl];lia) (hl▸aq.keep ab (Ne.symm Z)) (G.at fun o e=>ae d o ao ak e) (fun b o h1 h2 e=>ae b o h1 h2 (Y b o h1 h2 e)) (Al _ af rfl) (by grind) aj (Nat.lt_trans J (AH ah))
   (apply AA)
   exact B1 af rfl (AD ⟨BH DL _,au⟩) (by lia) (by grind)
  .grind
end
section
variable {prog:Program}{w:World}{A:Around}{E:Value->Shared->Prop}{s:Shared}{v d:Addr}{es:Array DictEntry}{ep:Nat}
def WI(q:s.heap.IsItemsView v d)(G:qz s.heap d es ep)(I:∀h':Heap,(∀b o,s.heap.get? b=some o->h'.get? b=some o)->h'.objs.size=s.heap.objs.size+1->O5 h' s.heap.objs.size d 0 es.size ep .none .none .none false->Q (.ref s.heap.objs.size) { s with heap:=h' }):
  wpAny (model prog w) A (pyIter (.ref v)) Q E s:=by
 refine xZ (id q) fun U L Y O=>xZ G fun od B S F=>?_;have J:Builtin.Dict_items.ownsTuple "dict_itemiterator" = true:=by decide
 refine wpAny_pyIter_slot q.typeIs PySem.F.slot_dict_items_iter (Az PySem.F.slot_dict_items_iter q.typeIs PySem.F.entry_dict_items_iter ?_ (PySem.F.args_dict_items_iter_1 _))
 (refine AA (AD (AA (AA (A5 L O rfl (AD (AA ?_)))))))
 (refine AA (wpAny_dictEntries B F (AA (wpAny_dictEpoch B F ?_)));simp only[J,if_true])
 refine Ax (AD ⟨_,rfl,"dict_itemiterator",_,⟨_,AL _ rfl,rfl⟩,Cc.lookup,?_⟩) (by simp only[sizeOk,Builtin.Dict_items.ownedTupleFields,List.size_toArray,List.length_append,List.length_cons,List.length_nil,sizeLine_eq];lia)
 exact I _ (fun b o e=>AC _ e) (Br _ _) (by
  have e:=AL (o:={ cls:=.type "dict_itemiterator",data:=.fields #[.none,.bool false,.ref d,.int 0 0,.int es.size 0,.int ep 0,.none,.none] }) s.heap rfl
  simpa [O5,rawInt,Builtin.Dict_items.ownedTupleFields] using e)
def Zk(hh:A.handled=none)(J:s.heap.IsItemsView v d)(I:qz s.heap d es ep)(ak:S≠v)(ab:d≠S)(U:s.heap.get? S=some { cls:=.type "list",data:=.seq #[] af })(hz:es.size<=sizeLine)(hR:∀h' tk acc c as,(∀b o,b≠S->s.heap.get? b=some o->h'.get? b=some o)->h'.get? S=some { cls:=.type "list",dict:=none,data:=.seq acc c,slots:=#[] }->as.length=es.size->lz es s.heap.objs.size h' as->acc.toList=as.map Value.ref->R (.ok (.ret res)) { s with heap:=h',toks:=tk }):
  wpAny (model prog w) A.in1 (Builtin.List.listExtendWith (.ref S) (.ref v) res) (fun ai s'=>match ai with | .done f=>R (.ok f) s' | .again L=>L.quiet=true/\codeAny (model prog w) A L R s') (fun e s'=>R (.error e) s') s:=by
 have Z:=AH U;have aq:=let ⟨_,e,_⟩:=I;AH e
 delta Builtin.List.listExtendWith
 refine AA (CM J.typeIs ?_);have ag:Builtin.List.listSameRef (.ref S) (.ref v)=false:=by simp[Builtin.List.listSameRef,ak]
 have ah:(Value.type "dict_items" == Value.type "list")=false:=by decide
 have f3:(Value.type "dict_items" == Value.type "tuple")=false:=by decide
 (simp only[ag,ah,f3,Bool.or_false,Bool.false_eq_true,if_false];refine AA (WI J I fun h1 F z1 r1=>?_))
 have ae:∀h G tk,(∀b o,b≠S->h1.get? b=some o->h.get? b=some o)->h.get? S=some { cls:=.type "list",data:=.seq #[] G }->codeAny (model prog w) A (.builtin "list.extend.loop" ⟨[.ref S,.ref s.heap.objs.size,res],[]⟩) R { s with heap:=h,toks:=tk }:=by
  intro h G tk hk B;have O:=hk _ _ (Ay Z) r1;refine WH hh Z ab (AV aq) hz (fun h' ar acc c as kk aj hl hG ao=>hR h' ar acc c as (fun b o q e=>kk b o q (AV (AH e)) e) aj hl hG ao) es.size h tk G #[] [] (BY _) ⟨_,_,_,_,O,.inl ⟨rfl,rfl⟩⟩ (I.at fun o e=>hk d o ab (F d o e)) (fun b o q _ e=>hk b o q (F b o e)) B rfl ⟨.nil,(fun _ z=>nomatch z),(fun j a z=>by simp at z)⟩ (AH O)
 have B:=F _ _ U;refine AA (As (kdx_hint (let ⟨o,ho,hc,_⟩:=J;⟨o,F _ _ ho,hc⟩) ?_));refine A6 (fun _=>?_) (fun _=>AD ⟨BH DL _,ae _ af _ (fun b o _ e=>e) B⟩)
 (refine AA (Bu (AA (AA (B1 B rfl ?_)))))
 have Y:=Al (Obj.mapSeq (·.push Value.none)) B rfl;refine B1 Y rfl (AD ⟨BH DL _,ae _ _ _ (fun b o q e=>?_) (Al (Obj.mapSeq (·.pop)) Y rfl)⟩);exact(Ac _ _ (Ne.symm q)).trans ((Ac _ _ (Ne.symm q)).trans e)
def lz.low{lo}(g:lz es lo h as)(B:F<=lo):lz es F h as:=⟨g.rise,fun a q=>An B (g.above a q),g.pairs⟩
def QB(hh:A.handled=none)(U:s.heap.IsItemsView v d)(S:qz s.heap d es ep)(hz:es.size<=sizeLine)(hR:∀(h':Heap)(tk:Nat)(as:List Addr),(∀b o,s.heap.get? b=some o->h'.get? b=some o)->as.length=es.size->lz es s.heap.objs.size h' as->R (as.map Value.ref) { s with heap:=h',toks:=tk }):wpAny (model prog w) A (collect (.ref v)) R E s:=by
 have ah:=let ⟨_,L,_⟩:=U;AH L
 have ag:=let ⟨_,e,_⟩:=S;AH e
 (refine AA (wpAny_runValue (BX entry_proto_collect' ?_)))
 (refine AA (Ax (AD ⟨BH PySem.F.plain_list_iadd _,BX entry_list_iadd' ?_⟩)))
 have O:∀b o,s.heap.get? b=some o->(s.heap.push { cls:=.type "list",data:=.seq ([]:List Value).toArray }).get? b=some o:=fun b o e=>AC _ e;have ae:(s.heap.push { cls:=.type "list",data:=.seq ([]:List Value).toArray }).get? s.heap.objs.size=some { cls:=.type "list",data:=.seq #[] }:=AL _ rfl
 have ai:=Zk (prog:=prog) (w:=w) (s:={ s with heap:=s.heap.push { cls:=.type "list",data:=.seq ([]:List Value).toArray } })
  (R:=fun q s'=>∃h' tk acc c as,q=.ok (.ret (.ref s.heap.objs.size))/\s'={ s with heap:=h',toks:=tk }/\(∀b o,s.heap.get? b=some o->h'.get? b=some o)/\h'.get? s.heap.objs.size=some { cls:=.type "list",dict:=none,data:=.seq acc c,slots:=#[] }/\as.length=es.size/\lz es s.heap.objs.size h' as/\acc.toList=as.map Value.ref)
  hh (let ⟨o,L,x⟩:=U;⟨o,O _ _ L,x⟩) (S.at fun o e=>O d o e) (Ay ah) (AV ag) ae hz fun h' tk acc c as hk ab hl hG af=>⟨h',tk,acc,c,as,rfl,rfl,fun b o e=>hk b o (AV (AH e)) (O b o e),ab,hl,hG.low (by simp_all),af⟩
 refine A3 ai (fun Z s' x=>?_) fun e s' x=>?_
 .have Y:∀h' tk acc c as,(∀b o,s.heap.get? b=some o->h'.get? b=some o)->h'.get? s.heap.objs.size=some { cls:=.type "list",dict:=none,data:=.seq acc c,slots:=#[] }->as.length=es.size->lz es s.heap.objs.size h' as->acc.toList=as.map Value.ref->R acc.toList { s with heap:=h',toks:=tk }:=fun h' tk acc c as B _ G I J=>J▸hR h' tk as B G I
  cases Z with
  |done f =>
   obtain⟨h',tk,acc,c,as,e,rfl,B,F,G,I,J⟩:=x;cases e
   (exact AA (wpAny_load F (AD (Y h' tk acc c as B F G I J))))
  |again c1 =>
   refine⟨x.1,CN x.2 ?_⟩;rintro q aj ⟨h',tk,acc,c,as,rfl,rfl,B,F,G,I,J⟩
   (exact AA (wpAny_load F (AD (Y h' tk acc c as B F G I J))))
 .lia
end
end PySem.W
namespace L2
open PySem PySem.W PyProof.Rows
section
variable {α:Type}{as:List Addr}{ps:List α}
def Lf(nd:as.Nodup){j:Nat}(B:as[j]?=some a)(F:ps[j]?=some p):(as.zip ps).find? (fun q=>q.1==a)=some (a,p):=by
 induction as generalizing ps j with
 |nil=>cases B
 |cons x as G =>
  cases ps with
  |nil=>cases F
  |cons y ps =>
   have nd:=A0.mp nd;rw[DI,A1]
   cases j with
   |zero=>cases B;cases F;simp
   |succ j =>
    exact(show(x==a)=false from DB fun e=>nd.1 (e▸Ai B))▸G nd.2 B F
def Le(h:(as.zip ps).find? (fun q=>q.1==b)=some q):∃j:Nat,as[j]?=some b/\ps[j]?=some q.2:=by
 have h0:=Dm h;obtain⟨j,hj⟩:=Cu.mp (BO h);rw[List.getElem?_zip_eq_some] at hj;exact⟨j,by exact(eq_of_beq h0)▸hj.1,hj.2⟩
end
inductive Ov(H:Hp):List Addr->List (List Key×V)->Prop
 |nil:Ov H [] []
 |cons {a b:Addr} {k:List Key} {v:V} {as:List Addr} {kvs:List (List Key×V)} (h1:H a=some (.tup [.ref b,v])) (h2:H b=some (.tup (k.map kV))) (r:Ov H as kvs):Ov H (a::as) ((k,v)::kvs)
noncomputable def mkT(as:List Addr)(ps:List (Addr×V)):Addr->Option (List V):=fun b=>((as.zip ps).find? fun p=>p.1==b).map fun p=>[.ref p.2.1,p.2.2]
theorem Wv: ∀{as}{kvs},as.length=kvs.length->(∀(j:Nat)a p,as[j]?=some a->kvs[j]?=some p->∃b,H a=some (.tup [.ref b,p.2])/\H b=some (.tup (p.1.map kV)))->Ov H as kvs
 |[],[],_,_=>.nil
 |[],_::_,h,_=>nomatch h
 |_::_,[],h,_=>nomatch h
 |a::as,p::kvs,h,k=>let ⟨b,B,F⟩:=k 0 a p rfl rfl;.cons B F (Wv (BC h) fun j q G h1 h2=>k (j+1) q G h1 h2)
def M6(r:KT H kvs xs):∃ps:List (Addr×V),ps.length=kvs.length/\∀j:Nat,∀p∈ps[j]?,∃k u,kvs[j]?=some (k,p.2)/\xs[j]?=some (k,p.1,u)/\H p.1=some (.tup (k.map kV))/\RelV p.2 u:=by
 induction r with
 |nil=>exact⟨[],rfl,fun j p h=>by cases h⟩
 |@cons p q L O h r F =>
  obtain⟨ps,e,f⟩:=F;obtain⟨k,v⟩:=p;obtain⟨J,b,u⟩:=q;obtain⟨rfl,G,I⟩:=h;refine⟨(b,v)::ps,by rw[AQ,AQ,e],fun j p B=>?_⟩
  cases j with
  |zero=>cases B;exact⟨k,u,rfl,rfl,G,I⟩
  |succ j=>exact f j p B
section
variable {X:Cx}
def Q6 d(B:(d==sysModules)=false):MeetsIn prog w (Builtin.«dict.items» ⟨[.ref d],[]⟩) (fun _ R s=>s.TypeIs (.ref d) "dict"/\R (.ok (.ret (.ref s.heap.objs.size))) { s with heap:=s.heap.push { cls:=.type "dict_items",data:=.fields #[.ref d] } }) :=
 .of_wp fun A R s F=>uF F fun q h=> by
  (apply AA;refine AA (Ct q ?_))
  (apply AD;delta Builtin.Dict.showsAll)
  (exact(Af (B▸AN))▸AA (AD (AA (Ax (AD ⟨_,rfl,h⟩)))))
def xu:V->List V->Hp->VK->Prop:=fun x vs H Q=>∃d kvs,x=.ref d/\vs=[]/\H d=some (.dT kvs)/\∀v,H v=none->Q (.ref v) (upd H v (.ext (yY v d)))
def Vo:MtR X "dict.items" xu:=by
 intro pins s σ H x xs v us Q I U S h;obtain⟨d,kvs,rfl,rfl,O,q⟩:=h;cases U;cases S;obtain⟨z,L,ys,Y,B⟩:=Gs I.hok O;refine Df DR B.typeIs F.entry_dict_items (F.args_dict_items_1 _) (Q6 d L) ⟨B.typeIs,⟨.ref s.heap.objs.size,_,I.laid (t':=s.toks) (o:=.ext (yY s.heap.objs.size d)) (fun b o e=>AC _ e) (AI _) ⟨⟨_,AL _ rfl,rfl,rfl⟩,⟨_,AL _ rfl⟩,?_⟩,rfl,q _ (I.hok.fresh (AI _))⟩⟩
 rintro h1 h2 ⟨o,G,J⟩ e;exact⟨o,e o G,J⟩
def pI(hc:X.calm=true):CallR X (.builtin "sorted") (fun xs H Q=>∃v d kvs Z,xs=[.ref v]/\H v=some (.ext (yY v d))/\H d=some (.dT kvs)/\kvs.length < 64 /\
  ∀as H1,Same H H1->Ov H1 as kvs->(∀a∈as,H a=none)->(∀a,H a=none->H1 a≠none->a∈as)->HF X H1 (List.map V.ref as) Z/\∀p,H1 p=none->Q (.ref p) (upd H1 p (.lst (zF Z (List.map V.ref as))))):=by
 intro pins s σ H xs us Q I r h;obtain⟨v,d,kvs,Z,rfl,hv,ar,aw,hq⟩:=h;obtain⟨u,rfl,rfl⟩:=r.one;obtain⟨z,hS,ys,ak,dd⟩:=Gs I.hok ar;refine oS (I.hok v _ hv) fun au _ _=>Gi dd fun od es ep d1 d2 d3 d4 _ _=>dQ (M6 ak) fun ps pl pf=>?_;have ag:es.size=kvs.length:=by rw[size_of_entries d4,(Paired.length ak)]
 refine DN kind_sorted plain_sorted entry_sorted (args_sorted1 _) (?_:wpAny _ _ (Builtin.«sorted» _) _ _ _);refine AA (AD (AA (QB (by simp[I.ok.hd hc]) au ⟨od,d1,d2,d3⟩ (by rwa [ag]) fun h' tk as av ah G=>?_)));have nd:=G.rise.imp fun h=>AV h;have ai:=ah.trans ag;have L:∀a∈as,s.heap.objs.size<=a:=fun a Y=>Di (G.above a Y)
 have F:∀b xs,mkT as ps b=some xs->∃(j:Nat)(p:Addr×V),as[j]?=some b/\ps[j]?=some p/\xs=[.ref p.1,p.2]:=fun b xs e=>by
  delta mkT at e
  cases y:(as.zip ps).find? fun p=>p.1==b with
  |none=>rw[y] at e;cases e
  |some q =>
   rw[y] at e;cases e;exact dQ (Le y) fun j B O=>⟨j,q.2,B,O,rfl⟩
 have I1:Inv X pins σ (rS H (mkT as ps)) { s with heap:=h',toks:=tk }:=I.tups av fun b xs e=>by
  obtain⟨j,p,B,O,rfl⟩:=F b xs e;refine dH (pf j p O) fun k u S ab f3 ae=>dQ (G.pairs j b B) fun en af ao=>?_;have aq:es[j]?=some (entryOfKey (tupleKind (tQ X.prog X.w)) (k,p.1,u)):=by rw[entry_at d4,ab];rfl
  rw[aq] at af;cases af;exact⟨L b (Ai B),y0 2 rfl,[.ref p.1,u],.cons rfl (.cons ae .nil),⟨_,ao,rfl,⟨_,rfl⟩,rfl⟩⟩
 have U:∀b xs,mkT as ps b=some xs->H b=none:=fun b xs e=>bG (F b xs e) fun j p B _=>I.hok.fresh (L b (Ai B))
 obtain⟨hs,q⟩:=hq as (rS H (mkT as ps)) (fun b o e=>uK U e) (Wv ai fun j a p h1 h2=>by
   obtain⟨J,aj⟩:∃J,ps[j]?=some J:=⟨ps[j]'(pl▸(Ab.1 h2).1),AM _⟩;refine dH (pf j J aj) fun k u S ab f3 ae=>?_;rw[h2] at S;cases S
   exact⟨J.1,tL (by delta mkT;rw[Lf nd h1 aj];rfl),uK U f3⟩) (fun a Y=>I.hok.fresh (L a Y)) fun a n1 n2=>by
  cases y:mkT as ps a with
  |none=>rw[wG y] at n2;exact absurd n1 n2
  |some xs=>exact bG (F a xs y) fun j p B _=>Ai B
 have rv:Vals (as.map V.ref) (as.map Value.ref):=by
  clear nd ai L I1 U hs q ah G hq F
  induction as with
  |nil=>exact .nil
  |cons a as ih=>exact .cons rfl ih
 exact oP (AI _) I1 rv (by grind) hs fun p s' hp I'=>⟨_,rfl,.ref p,_,I',rfl,q p hp⟩
end
end L2
namespace L2
open PySem PySem.W PySem.Spec PyProof.Rows
section
variable {X:Cx}
end
end L2
namespace CL
open PySem PySem.Spec L2
open PyProof.Rows hiding St
set_option genInjectivity true in
inductive PV where
 |non | bl (b:Bool) | int (i:Int) | str (x:Str) | ty (n:String) | tup (xs:List PV) | kt (xs:List PV) | fz (xs:List PV) | vw (d:Addr) | ref (a:Addr)
noncomputable def cT:HO->Bool
 |.tup _=>true
 |.frz _ (.dK _)=>false
 |.frz _ (.dT _)=>false
 |.frz _ _=>true
 |.ext _=>true
 |_=>false
def iz(H H':Hp):Prop:=∀a o,cT o=true->H a=some o->H' a=some o
theorem iz.trans(h:iz H H1)(h':iz H1 H2):iz H H2:=fun a o i e=>h' a o i (h a o i e)
def iz.new(q:H p=none)o:iz H (upd H p o):=fun a u _ e=>by
 rwa [pQ (gJ e q)]
def iz.mut(q:H p=some u)(B:cT u=false)o:iz H (upd H p o):=fun a v i e=>by
 have:a≠p:=by
  intro z;subst z;rw[q] at e;cases e;rw[B] at i;cases i
 rwa [pQ this]
def Fz(K:Ds)(H:Hp)(a:Addr)(xs:List V):Prop :=
 (∃o,H a=some (.frz o (.lst xs))) \/
  ∃(o:Obj)(q:Array Value)(n:Nat),K.lookup a=some o/\o.cls=.type "list"/\o.dict=none/\o.data=.seq q n/\q.size<=sizeLine/\Vals xs q.toList
def Fz.sq{K}(h:Fz K H a xs):SqL K H a xs:=by
 rcases h with ⟨o,h⟩ | h
 .exact .inl (.inr ⟨o,h⟩)
 .exact .inr h
def Fz.cT{K}(h:Fz K H a xs)(k:iz H H'):Fz K H' a xs:=by
 rcases h with ⟨o,h⟩ | h
 .exact .inl ⟨o,k _ _ rfl h⟩
 .exact .inr h
def SqT.cT{K}(h:SqT K H a xs)(k:iz H H'):SqT K H' a xs:=by
 rcases h with (h | ⟨o,h⟩) | h
 .exact .inl (.inl (k _ _ rfl h))
 .exact .inl (.inr ⟨o,k _ _ rfl h⟩)
 .exact .inr h
mutual
inductive Rep(K:Ds)(H:Hp):V->PV->Prop
 |non:Rep K H .non .non
 |bl (b:Bool):Rep K H (.bl b) (.bl b)
 |int (i:Int):Rep K H (.int i) (.int i)
 |str (x:Str):Rep K H (.str x) (.str x)
 |ty (n:String):Rep K H (.ty n) (.ty n)
 |ref (a:Addr):Rep K H (.ref a) (.ref a)
 |tup {a:Addr} {vs:List V} {ts:List PV} (h:H a=some (.tup vs)) (r:d9 K H vs ts):Rep K H (.ref a) (.tup ts)
 |kt {a:Addr} {vs:List V} {ts:List PV} (h:SqT K H a vs) (r:d9 K H vs ts):Rep K H (.ref a) (.kt ts)
 |fz {a:Addr} {vs:List V} {ts:List PV} (h:Fz K H a vs) (r:d9 K H vs ts):Rep K H (.ref a) (.fz ts)
 |vw {a d:Addr} (h:H a=some (.ext (yY a d))):Rep K H (.ref a) (.vw d)
inductive d9(K:Ds)(H:Hp):List V->List PV->Prop
 |nil:d9 K H [] []
 |cons {v:V} {t:PV} {vs:List V} {ts:List PV} (h:Rep K H v t) (r:d9 K H vs ts):d9 K H (v::vs) (t::ts)
end
section
variable {K:Ds}{H H' H1 H2:Hp}
mutual
theorem Rep.cT{v:V}{t:PV}(k:iz H H'):Rep K H v t->Rep K H' v t
 |.non=>.non
 |.bl b=>.bl b
 |.int i=>.int i
 |.str x=>.str x
 |.ty n=>.ty n
 |.ref a=>.ref a
 |.tup h r=>.tup (k _ _ rfl h) (d9.cT k r)
 |.kt h r=>.kt (SqT.cT h k) (d9.cT k r)
 |.fz h r=>.fz (Fz.cT h k) (d9.cT k r)
 |.vw h=>.vw (k _ _ rfl h)
theorem d9.cT{vs:List V}{ts:List PV}(k:iz H H'):d9 K H vs ts->d9 K H' vs ts
 |.nil=>.nil
 |.cons h r=>.cons (Rep.cT k h) (d9.cT k r)
end
theorem d9.len: d9 K H vs ts->vs.length=ts.length
 |.nil=>rfl
 |.cons _ r=>A8 (· + 1) r.len
theorem d9.get{i:Nat}: d9 K H vs ts->ts[i]?=some t->∃v,vs[i]?=some v/\Rep K H v t
 |.nil,e=>by cases e
 |.cons h r,e=>by
  cases i with
  |zero=>cases e;exact⟨_,rfl,h⟩
  |succ i=>exact r.get e
theorem d9.append: d9 K H vs ts->d9 K H us ss->d9 K H (vs++us) (ts++ss)
 |.nil,r=>r
 |.cons h t,r=>.cons h (t.append r)
theorem d9.take: ∀n,d9 K H vs ts->d9 K H (vs.take n) (ts.take n)
 |0,_=>.nil
 |_+1,.nil=>.nil
 |n+1,.cons h r=>.cons h (r.take n)
theorem d9.drop: ∀n,d9 K H vs ts->d9 K H (vs.drop n) (ts.drop n)
 |0,r=>r
 |_+1,.nil=>.nil
 |n+1,.cons _ r=>r.drop n
theorem d9.set(h:Rep K H v t):∀n,d9 K H vs ts->d9 K H (vs.set n v) (ts.set n t)
 |_,.nil=>.nil
 |0,.cons _ r=>.cons h r
 |n+1,.cons g r=>.cons g (r.set h n)
def d9.reverse(r:d9 K H vs ts):d9 K H vs.reverse ts.reverse:=by
 induction vs generalizing ts with
 |nil=>cases r;exact .nil
 |cons v vs q =>
  cases r with
  |cons h r=>rw[B8,B8];exact(q r).append (.cons h .nil)
end
inductive CO where
 |lst (xs:List PV)
 |dK (kvs:List (Key×PV))
 |fK (kvs:List (Key×PV))
 |dT (kvs:List (List Key×PV))
 |fT (kvs:List (List Key×PV))
 |dP (kvs:List (List (List Key)×PV))
 |dA (kvs:List (List (List (List Key))×PV))
 |ins (c dx:Addr) (fs:List (Str×PV))
abbrev CH:=Addr->Option CO
noncomputable def gQ(C:CH)(a:Addr)(o:CO):CH:=fun b=>if b=a then some o else C b
theorem jQ: gQ C a o a=some o:=Ah rfl
def wQ(h:b≠a):gQ C a o b=C b:=Af h
abbrev FP(K:Ds)(H:Hp):List (κ×V)->List (κ×PV)->Prop:=Paired fun p q=>p.1=q.1/\Rep K H p.2 q.2
abbrev KP(K:Ds)(H:Hp):List (Key×V)->List (Key×PV)->Prop:=Paired fun p q=>p.1=q.1/\Rep K H p.2 q.2
def q9(K:Ds)(H:Hp)(a:Addr):CO->Prop
 |.lst ts=>∃vs,H a=some (.lst vs)/\d9 K H vs ts
 |.dK kvs=>∃vs,H a=some (.dK vs)/\KP K H vs kvs
 |.fK kvs=>∃o vs,H a=some (.frz o (.dK vs))/\KP K H vs kvs
 |.dT kvs=>∃vs,H a=some (.dT vs)/\FP K H vs kvs
 |.fT kvs=>∃o vs,H a=some (.frz o (.dT vs))/\FP K H vs kvs
 |.dP kvs=>∃vs,H a=some (.dP vs)/\FP K H vs kvs
 |.dA kvs=>∃vs,H a=some (.dA vs)/\FP K H vs kvs
 |.ins c dx fs=>∃q,H a=some (.ins c dx q)/\FP K H q fs
def d8(K:Ds)(H:Hp)(C:CH):Prop:=∀a o,C a=some o->q9 K H a o
noncomputable def still:Option CO->Bool
 |none=>true
 |some (.fK _)=>true
 |some (.fT _)=>true
 |_=>false
def Fw(H:Hp)(C:CH)(H':Hp)(C':CH):Prop:=∀a,still (C a)=true->H a≠none->C' a=C a/\H' a=H a
section
variable {K:Ds}{H H' H1 H2:Hp}{C C' C1 C2:CH}
def Fw.refl:Fw H C H C:=fun _ _ _=>⟨rfl,rfl⟩
theorem Fw.trans(f:Fw H C H1 C1)(g:Fw H1 C1 H2 C2):Fw H C H2 C2:=fun a h n=>by
 obtain⟨c,e⟩:=f a h n;obtain⟨q,B⟩:=g a (by rwa [c]) (by rwa [e]);exact⟨q.trans c,B.trans e⟩
def q9.mut(h:q9 K H a o):∃u,H a=some u/\cT u=false:=by
 cases o with
 |lst ts=>obtain⟨vs,e,_⟩:=h;exact⟨_,e,rfl⟩
 |dK ts=>obtain⟨vs,e,_⟩:=h;exact⟨_,e,rfl⟩
 |fK ts=>obtain⟨o,vs,e,_⟩:=h;exact⟨_,e,rfl⟩
 |dT ts=>obtain⟨vs,e,_⟩:=h;exact⟨_,e,rfl⟩
 |fT ts=>obtain⟨o,vs,e,_⟩:=h;exact⟨_,e,rfl⟩
 |dP ts=>obtain⟨vs,e,_⟩:=h;exact⟨_,e,rfl⟩
 |dA ts=>obtain⟨vs,e,_⟩:=h;exact⟨_,e,rfl⟩
 |ins c dx fs=>obtain⟨vs,e,_⟩:=h;exact⟨_,e,rfl⟩
def d8.hid(h:d8 K H C)(i:cT o=true)(e:H a=some o):C a=none:=by
 cases c:C a with
 |none=>rfl
 |some u =>
  obtain⟨v,q,B⟩:=((h a u c).mut);rw[e] at q;cases q;rw[i] at B;cases B
def d8.fresh(h:d8 K H C)(e:H a=none):C a=none:=by
 cases c:C a with
 |none=>rfl
 |some u =>
  obtain⟨v,q,B⟩:=((h a u c).mut);rw[e] at q;cases q
def Fw.cT(f:Fw H C H' C')(h:d8 K H C):iz H H':=fun a o i e=>by
 rw[(f a (by rw[h.hid i e];rfl) (by lia)).2];exact e
def q9.cT(h:q9 K H a o)(k:iz H H')(e:H' a=H a):q9 K H' a o:=by
 cases o with
 |lst ts=>obtain⟨vs,q,r⟩:=h;exact⟨vs,e.trans q,r.cT k⟩
 |dK ts=>obtain⟨vs,q,r⟩:=h;exact⟨vs,e.trans q,Paired.mapP r fun _ _ z=>⟨z.1,z.2.cT k⟩⟩
 |fK ts=>obtain⟨o,vs,q,r⟩:=h;exact⟨o,vs,e.trans q,Paired.mapP r fun _ _ z=>⟨z.1,z.2.cT k⟩⟩
 |dT ts=>obtain⟨vs,q,r⟩:=h;exact⟨vs,e.trans q,Paired.mapP r fun _ _ z=>⟨z.1,z.2.cT k⟩⟩
 |fT ts=>obtain⟨o,vs,q,r⟩:=h;exact⟨o,vs,e.trans q,Paired.mapP r fun _ _ z=>⟨z.1,z.2.cT k⟩⟩
 |dP ts=>obtain⟨vs,q,r⟩:=h;exact⟨vs,e.trans q,Paired.mapP r fun _ _ z=>⟨z.1,z.2.cT k⟩⟩
 |dA ts=>obtain⟨vs,q,r⟩:=h;exact⟨vs,e.trans q,Paired.mapP r fun _ _ z=>⟨z.1,z.2.cT k⟩⟩
 |ins c dx fs=>obtain⟨vs,q,r⟩:=h;exact⟨vs,e.trans q,Paired.mapP r fun _ _ z=>⟨z.1,z.2.cT k⟩⟩
def d8.new(h:d8 K H C)(q:H p=none)o:d8 K (upd H p o) C:=fun a u c=>dQ ((h a u c).mut) fun v e _=>(h a u c).cT (iz.new q o) (pQ (gJ e q))
def Fw.new(q:H p=none)o:Fw H C (upd H p o) C:=fun a c n=>⟨rfl,pQ fun z=>n (z▸q)⟩
def d8.lay(h:d8 K H C)(q:H p=none)(r:q9 K (upd H p o) p u):d8 K (upd H p o) (gQ C p u):=fun a v c=>by
 by_cases e:a=p
 .subst e;rw[jQ] at c;cases c;exact r
 .rw [wQ e] at c;exact h.new q o a v c
def Fw.lay(q:H p=none)o u:Fw H C (upd H p o) (gQ C p u):=fun a c n=>by
 have e:a≠p:=fun z=>n (z▸q);exact⟨wQ e,pQ e⟩
theorem d8.put(h:d8 K H C)(q:H p=some B)(hi:cT B=false)(r:q9 K (upd H p o) p u):d8 K (upd H p o) (gQ C p u):=fun a v c=>by
 by_cases e:a=p
 .subst e;rw[jQ] at c;cases c;exact r
 .rw [wQ e] at c;exact(h a v c).cT (iz.mut q hi o) (pQ e)
theorem Fw.put(q:C p=some B)o u(hs:still (some B)=false:=by rfl):Fw H C (upd H p o) (gQ C p u):=fun a c n=>by
 have e:a≠p:=fun z=>by subst z;rw[q,hs] at c;cases c
 exact⟨wQ e,pQ e⟩
end
abbrev jm:=List (Option PV)
abbrev K1:=PV->CH->Prop
def u5(K:Ds)(H:Hp):Option V->Option PV->Prop
 |_,none=>True
 |some v,some t=>Rep K H v t
 |none,some _=>False
def gq(K:Ds)(H:Hp):St->jm->Prop:=Paired (u5 K H)
section
variable {K:Ds}{H H':Hp}{C C':CH}
def u5.cT(k:iz H H')(h:u5 K H v t):u5 K H' v t:=by
 cases t with
 |none=>cases v<;>trivial
 |some t=>cases v with
  |none=>exact h
  |some v=>exact Rep.cT k h
def gq.cT(s:gq K H σ ρ)(k:iz H H'):gq K H' σ ρ:=Paired.mapP s fun _ _=>u5.cT k
def gq.get{i:Nat}(s:gq K H σ ρ)(e:ρ[i]?=some (some t)):∃v,σ[i]?=some (some v)/\Rep K H v t:=by
 induction s generalizing i with
 |nil=>cases e
 |@cons a b B F h r q =>
  cases i with
  |zero =>
   cases e
   cases a with
   |none=>exact h.elim
   |some v=>exact⟨v,rfl,h⟩
  |succ i=>exact q e
def gq.set(s:gq K H σ ρ)(h:Rep K H v t)i:gq K H (σ.set i (some v)) (ρ.set i (some t)):=by
 induction s generalizing i with
 |nil=>exact .nil
 |cons h' r q =>
  cases i with
  |zero=>exact .cons h r
  |succ i=>exact .cons h' (q i)
end
def xJ{α β:Type}(K:Ds)(q:Hp->α->β->Prop)(c:jm->CH->(β->CH->Prop)->Prop):St->Hp->(α->Hp->Prop)->Prop:=fun σ H Q=>
 ∃ρ C R,gq K H σ ρ/\d8 K H C/\c ρ C R/\∀v H' t C',R t C'->q H' v t->d8 K H' C'->Fw H C H' C'->Q v H'
abbrev gw:=jm->CH->K1->Prop
abbrev nq:=jm->CH->(Bool->CH->Prop)->Prop
abbrev sr:=jm->CH->(List PV->CH->Prop)->Prop
abbrev gL:Hp->Bool->Bool->Prop:=fun _ a b=>a=b
structure jh where
 nx:jm->CH->Prop
 rt:K1
 bk:jm->CH->Prop:=fun _ _=>False
 ct:jm->CH->Prop:=fun _ _=>False
abbrev jh.wn(E:jh)(k:jm->CH->Prop):jh:={ E with nx:=k }
abbrev jh.lp(E:jh)(k:jm->CH->Prop):jh:={ nx:=k,ct:=k,bk:=E.nx,rt:=E.rt }
abbrev jh.go(R:K1):jh:={ nx:=fun _ C'=>R .non C',rt:=R }
abbrev km:=jh->jm->CH->Prop
structure u6(K:Ds)(H:Hp)(C:CH)(E:jh)(D:Ends):Prop where
 nx:∀σ' H' ρ' C',E.nx ρ' C'->gq K H' σ' ρ'->d8 K H' C'->Fw H C H' C'->D.nx σ' H'
 rt:∀v H' t C',E.rt t C'->Rep K H' v t->d8 K H' C'->Fw H C H' C'->D.rt v H'
 bk:∀σ' H' ρ' C',E.bk ρ' C'->gq K H' σ' ρ'->d8 K H' C'->Fw H C H' C'->D.bk σ' H'
 ct:∀σ' H' ρ' C',E.ct ρ' C'->gq K H' σ' ρ'->d8 K H' C'->Fw H C H' C'->D.ct σ' H'
def u6.fw{K}(e:u6 K H C E D)(f:Fw H C H1 C1):u6 K H1 C1 E D :=
 ⟨fun B H' q C' h s r g=>e.nx B H' q C' h s r (f.trans g),fun v H' t C' h s r g=>e.rt v H' t C' h s r (f.trans g),fun B H' q C' h s r g=>e.bk B H' q C' h s r (f.trans g),fun B H' q C' h s r g=>e.ct B H' q C' h s r (f.trans g)⟩
def Q7(K:Ds)(c:km):TS:=fun D σ H=>∃ρ C E,gq K H σ ρ/\d8 K H C/\c E ρ C/\u6 K H C E D
structure CE(X:Cx)(e:Expr)(c:gw):Prop where
 h:JE X e (xJ X.K (Rep X.K) c)
structure CT(X:Cx)(e:Expr)(c:nq):Prop where
 h:JT X e (xJ X.K gL c)
structure CW(X:Cx)(e:Expr)(c:nq):Prop where
 h:JW X e (xJ X.K gL c)
structure CA(X:Cx)(es:List Expr)(c:sr):Prop where
 h:JA X es (xJ X.K (d9 X.K) c)
structure CS(X:Cx)(st:Stmt)(c:km):Prop where
 h:JS X st (Q7 X.K c)
structure CB(X:Cx)(st:List Stmt)(c:km):Prop where
 h:JB X st (Q7 X.K c)
section
variable {X:Cx}{a b c e o i:Expr}{es:List Expr}{pos:Pos}{rest:List Expr}{st:Stmt}{sts:List Stmt}
def JE.weak(h:JE X e t)(w:∀σ H Q,t' σ H Q->t σ H Q):JE X e t':=⟨fun pins s σ H Q I q=>h.h pins s σ H Q I (w σ H Q q)⟩
def JT.weak(h:JT X e t)(w:∀σ H Q,t' σ H Q->t σ H Q):JT X e t':=⟨fun pins s σ H Q I q=>h.h pins s σ H Q I (w σ H Q q)⟩
def JW.weak(h:JW X e t)(w:∀σ H Q,t' σ H Q->t σ H Q):JW X e t':=⟨fun B pins s σ H Q I q=>h.h B pins s σ H Q I (w σ H Q q)⟩
def JA.weak(h:JA X es t)(w:∀σ H Q,t' σ H Q->t σ H Q):JA X es t':=⟨fun p pins s σ H Q I q=>h.h p pins s σ H Q I (w σ H Q q)⟩
def JS.weak(h:JS X st t)(w:∀D σ H,t' D σ H->t D σ H):JS X st t':=⟨fun pins s σ H D I q=>h.h pins s σ H D I (w D σ H q)⟩
def JB.weak(h:JB X sts t)(w:∀D σ H,t' D σ H->t D σ H):JB X sts t':=⟨fun pins s σ H D I q=>h.h pins s σ H D I (w D σ H q)⟩
noncomputable def zV(i:Nat):gw:=fun ρ C Q=>match ρ[i]? with
 |some (some t)=>Q t C
 |_=>False
def cC(t:PV):gw:=fun _ C Q=>Q t C
def cv i(F:X.N[i]?=some x:=by rfl)(J:Vis X.env.scope x:=by first | exact Or.inl rfl | exact Or.inr (Or.inl rfl) | exact Or.inr (Or.inr rfl))(I:(x==("__debug__" : Str))=false:=by decide)(G:(x==("__classdict__" : Str))=false:=by decide):CE X (.Name x pos) (zV i):=⟨JE.weak ⟨mW F J I G⟩ fun σ H Q L=>aQ L fun ρ C R s h q f=> by
 delta zV at q
 split at q
 .next t e =>
  exact dQ (s.get e) fun v B r=>⟨v,B,f v H t C q r h Fw.refl⟩
 .exact q.elim⟩
def VP(h:JE X e (tC v))(r:∀H,Rep X.K H v t):CE X e (cC t):=⟨JE.weak h fun σ H Q B=>aQ B fun ρ C R s h q f=> f v H t C q (r H) h Fw.refl⟩
def zQ{i j pos}:CE X (.Constant (.int i) j pos) (cC (.int i)):=VP ⟨pe_int⟩ fun _=>.int i
def GY{b j pos}:CE X (.Constant (.bool b) j pos) (cC (.bl b)):=VP ⟨pe_bl⟩ fun _=>.bl b
def qV{j pos}:CE X (.Constant .none j pos) (cC .non):=VP ⟨W6⟩ fun _=>.non
def vQ{x j pos}:CE X (.Constant (.str x) j pos) (cC (.str x)):=VP ⟨Zw⟩ fun _=>.str x
def wN(F:Gl X x)(G:X.mg x=some u)(r:RelV v u)(q:∀H,Rep X.K H v t)(B:(x==("__debug__" : Str))=false:=by decide):CE X (.Name x pos) (cC t):=VP ⟨oB F G r B⟩ q
def XH(B:Gl X x)(F:X.mg x=none)(I:bootBuiltins x=some (.type n))(G:x ≠ "__name__":=by decide)(q:(x==("__debug__" : Str))=false:=by decide):CE X (.Name x pos) (cC (.ty n)):=VP (Eg (v:=.ty n) B F I rfl G q) fun _=>.ty n
abbrev ul:=PV->PV->CH->K1->Prop
def pq(K:Ds)(r:R2)(F:ul):Prop:=∀x y q B H C Q R,Rep K H x q->Rep K H y B->d8 K H C->F q B C R->(∀v H' t C',R t C'->Rep K H' v t->d8 K H' C'->Fw H C H' C'->Q v H')->r x y H Q
def ur(F:ul)(q B:gw):gw:=fun ρ C Q=>q ρ C fun x C1=>B ρ C1 fun y C2=>F x y C2 Q
def qN{K}(O:pq K r J){Q:VK}(h:xJ K (Rep K) (ur J G I) σ H Q):tOp r (xJ K (Rep K) G) (xJ K (Rep K) I) σ H Q :=aQ h fun ρ C R s h q f=>⟨ρ,C,_,s,h,q,fun x H1 S C1 Z rx h1 B=>⟨ρ,C1,_,s.cT (B.cT h),h1,Z,fun y H2 U C2 q2 ry h2 F=>
  O x y S U H2 C2 Q R (rx.cT (F.cT h1)) ry h2 q2 fun v H' t C' Y r' h' L=>f v H' t C' Y r' h' (B.trans (F.trans L))⟩⟩
def nQ(J:OpR X (binaryOp op) r)(L:pq X.K r F)(G:CE X a q)(I:CE X b B):CE X (.BinOp a op b pos) (ur F q B):=⟨JE.weak ⟨pe_op J G.h.h I.h.h⟩ fun _ _ _ h=>qN L h⟩
def gB(L:OpR X (compareOp op) r)(O:pq X.K r F)(G:CE X a q)(I:CE X b B)(J:behindInMarks op b=false):CE X (.Compare a [op] [b] pos) (ur F q B):=⟨JE.weak ⟨pe_cmpR L G.h.h I.h.h J⟩ fun _ _ _ h=>qN O h⟩
def gA(k:Bool->CH->Prop):PV->CH->Prop
 |.bl b,C=>k b C
 |_,_=>False
def XR(c:gw):nq:=fun ρ C Q=>c ρ C (gA Q)
def Uc{K}(q:gA Q t C)(r:Rep K H v t):∃b,t=.bl b/\v=.bl b/\Q b C:=by
 cases t with
 |bl b=>cases r;exact⟨b,rfl,rfl,q⟩
 |_=>exact q.elim
def Vs{K}{c}(h:xJ K gL (XR c) σ H Q):tTest (xJ K (Rep K) c) σ H Q :=aQ h fun ρ C R s h q f=>⟨ρ,C,_,s,h,q,fun x H1 J C1 F I h1 B=>by
  obtain⟨b,rfl,rfl,G⟩:=Uc F I
  exact⟨b,rfl,f b H1 b C1 G rfl h1 B⟩⟩
def Z7(S:OpR X (compareOp op) r)(U:pq X.K r G)(J:CE X a B)(L:CE X b F)(O:behindInMarks op b=false):CT X (.Compare a [op] [b] pos) (XR (ur G B F)) :=
 ⟨JT.weak ⟨pt_cmpR S J.h.h L.h.h O⟩ fun σ H Q h=>by
  refine aQ h fun ρ C R s h q f=>qN U ⟨ρ,C,_,s,h,q,fun x H1 px C1 Y rx h1 I=>?_⟩;obtain⟨b,rfl,rfl,Z⟩:=Uc Y rx
  exact⟨b,rfl,f b H1 b C1 Z rfl h1 I⟩⟩
def mR{c}(h:CE X e c)(q:mL e=true:=by rfl):CT X e (XR c):=⟨JT.weak ⟨qA h.h.h (bW q)⟩ fun _ _ _ h=>Vs h⟩
def cUn(B:PV->CH->K1->Prop)(q:gw):gw:=fun ρ C Q=>q ρ C fun x C1=>B x C1 Q
def Cun(K:Ds)(r:V->Hp->VK->Prop)(B:PV->CH->K1->Prop):Prop:=∀x q H C Q R,Rep K H x q->d8 K H C->B q C R->(∀v H' t C',R t C'->Rep K H' v t->d8 K H' C'->Fw H C H' C'->Q v H')->r x H Q
def oM(L:UnR X (unaryOp op) r)(O:Cun X.K r F)(J:CE X a B):CE X (.UnaryOp op a pos) (cUn F B):=⟨JE.weak ⟨pe_un L J.h.h⟩ fun σ H Q zz=>aQ zz fun ρ C R s h q f=>
 ⟨ρ,C,_,s,h,q,fun x H1 S C1 Y rx h1 I=>O x S H1 C1 Q R rx h1 Y fun v H' t C' U Z h' G=>f v H' t C' U Z h' (I.trans G)⟩⟩
def cAnd(t u:nq):nq:=fun ρ C Q=>t ρ C fun b C1=>if b=true then u ρ C1 Q else Q false C1
def cOr(t u:nq):nq:=fun ρ C Q=>t ρ C fun b C1=>if b=true then Q true C1 else u ρ C1 Q
def cNot(t:nq):nq:=fun ρ C Q=>t ρ C fun b C1=>Q (!b) C1
def jl(h:CW X e t):CT X e t:=⟨⟨h.h.h.pt⟩⟩
def jf(h:CT X a t):CW X (.BoolOp .And [a] pos) t:=⟨⟨pw_and1 h.h.h⟩⟩
def qw(h:CT X a t):CW X (.BoolOp .Or [a] pos) t:=⟨⟨WN h.h.h⟩⟩
def jj(I:CT X a t)(J:CW X (.BoolOp .And (b::rest) pos) u):CW X (.BoolOp .And (a::b::rest) pos) (cAnd t u):=⟨JW.weak ⟨pw_and I.h.h J.h.h⟩ fun σ H Q S=>aQ S fun ρ C R s h q f=>
 ⟨ρ,C,_,s,h,q,fun x H1 y C1 F e h1 B=>by
  cases e
  cases x with
  |true=>exact⟨ρ,C1,R,s.cT (B.cT h),h1,F,fun v H' t C' L O h' G=>f v H' t C' L O h' (B.trans G)⟩
  |false=>exact f false H1 false C1 F rfl h1 B⟩⟩
def ug(I:CT X a t)(J:CW X (.BoolOp .Or (b::rest) pos) u):CW X (.BoolOp .Or (a::b::rest) pos) (cOr t u):=⟨JW.weak ⟨pw_or I.h.h J.h.h⟩ fun σ H Q S=>aQ S fun ρ C R s h q f=>
 ⟨ρ,C,_,s,h,q,fun x H1 y C1 F e h1 B=>by
  cases e
  cases x with
  |true=>exact f true H1 true C1 F rfl h1 B
  |false=>exact⟨ρ,C1,R,s.cT (B.cT h),h1,F,fun v H' t C' L O h' G=>f v H' t C' L O h' (B.trans G)⟩⟩⟩
def NP(F:CT X a t):CT X (.UnaryOp .Not a pos) (cNot t):=⟨JT.weak ⟨Zp F.h.h⟩ fun σ H Q I=>aQ I fun ρ C R s h q f=>
 ⟨ρ,C,_,s,h,q,fun x H1 y C1 G e h1 B=>by cases e;exact f _ H1 _ C1 G rfl h1 B⟩⟩
def Tc(q B:gw):gw:=fun ρ C Q=>q ρ C (gA fun b C1=>if b=true then B ρ C1 Q else Q (.bl false) C1)
def N8{op}{c}(h:CE X a c):CE X (.BoolOp op [a] pos) c:=⟨⟨pe_one h.h.h⟩⟩
def Ob(L:CE X a G)(O:CE X (.BoolOp .And (b::rest) pos) I):CE X (.BoolOp .And (a::b::rest) pos) (Tc G I):=⟨JE.weak ⟨pe_and L.h.h O.h.h⟩ fun σ H Q zz=>aQ zz fun ρ C R s h q f=>
 ⟨ρ,C,_,s,h,q,fun x H1 px C1 U Z h1 B=>by
  obtain⟨b,rfl,rfl,F⟩:=Uc U Z;refine⟨b,rfl,?_⟩
  cases b with
  |true=>exact⟨ρ,C1,R,s.cT (B.cT h),h1,F,fun v H' t C' S Y h' J=>f v H' t C' S Y h' (B.trans J)⟩
  |false=>exact f _ H1 _ C1 F (.bl false) h1 B⟩⟩
def cIf(t:nq)(q B:gw):gw:=fun ρ C Q=>t ρ C fun b C1=>if b=true then q ρ C1 Q else B ρ C1 Q
def xE(Y:CT X c t)(S:CE X a L)(U:CE X b O):CE X (.IfExp c a b pos) (cIf t L O):=⟨JE.weak ⟨W8 Y.h.h S.h.h U.h.h⟩ fun σ H Q Z=>aQ Z fun ρ C R s h q f=>
 ⟨ρ,C,_,s,h,q,fun x H1 y C1 J e h1 B=>by
  cases e
  cases x with
  |true=>exact⟨ρ,C1,R,s.cT (B.cT h),h1,J,fun v H' t C' G I h' F=>f v H' t C' G I h' (B.trans F)⟩
  |false=>exact⟨ρ,C1,R,s.cT (B.cT h),h1,J,fun v H' t C' G I h' F=>f v H' t C' G I h' (B.trans F)⟩⟩⟩
def oI:sr:=fun _ C Q=>Q [] C
def fG(q:gw)(B:sr):sr:=fun ρ C Q=>q ρ C fun x C1=>B ρ C1 fun xs C2=>Q (x::xs) C2
def oX:CA X [] oI:=⟨JA.weak ⟨oV⟩ fun σ H Q B=>aQ B fun ρ C R s h q f=> f [] H [] C q .nil h Fw.refl⟩
def qQ(J:CE X e G)(L:CA X es I)(hs:noStar e=true:=by rfl):CA X (e::es) (fG G I):=⟨JA.weak (yD J.h L.h hs) fun σ H Q zz=>aQ zz fun ρ C R s h q f=>
 ⟨ρ,C,_,s,h,q,fun x H1 O C1 S Z h1 B=>⟨ρ,C1,_,s.cT (B.cT h),h1,S,fun xs H2 ps C2 U Y h2 F=>f (x::xs) H2 (O::ps) C2 U (.cons (Z.cT (F.cT h1)) Y) h2 (B.trans F)⟩⟩⟩
def Hc(q:sr):gw:=fun ρ C Q=>q ρ C fun xs C1=>xs.length<=sizeLine/\Q (.tup xs) C1
def cLst(q:sr):gw:=fun ρ C Q=>q ρ C fun xs C1=>xs.length<=sizeLine/\∀p,C1 p=none->Q (.ref p) (gQ C1 p (.lst xs))
def mQ{L}(h:CA X es I):CE X (.Tuple es L pos) (Hc I):=⟨JE.weak ⟨Zv h.h.h⟩ fun σ H Q O=>aQ O fun ρ C R s h q f=>
 ⟨ρ,C,_,s,h,q,fun xs H1 ps C1 F G h1 J=>⟨by rw[G.len];exact F.1,fun p B=>f (.ref p) _ (.tup ps) C1 F.2 (.tup uQ (G.cT (iz.new B _))) (h1.new B _) (J.trans (Fw.new B _))⟩⟩⟩
def pX(h:CA X es I):CE X (.List es pos) (cLst I):=⟨JE.weak ⟨pe_lst h.h.h⟩ fun σ H Q L=>aQ L fun ρ C R s h q f=>
 ⟨ρ,C,_,s,h,q,fun xs H1 ps C1 F G h1 J=>⟨by rw[G.len];exact F.1,fun p B=>f (.ref p) _ (.ref p) _ (F.2 p (h1.fresh B)) (.ref p) (h1.lay B ⟨xs,uQ,G.cT (iz.new B _)⟩) (J.trans (Fw.lay B _ _))⟩⟩⟩
def S9:gw:=fun _ C Q=>∀p,C p=none->Q (.ref p) (gQ C p (.dK []))
def mI:CE X (.Dict [] [] pos) S9:=⟨JE.weak ⟨Ya⟩ fun σ H Q F=>aQ F fun ρ C R s h q f=> fun p B=>f (.ref p) _ (.ref p) _ (q p (h.fresh B)) (.ref p) (h.lay B ⟨[],uQ,.nil⟩) (Fw.lay B _ _)⟩
abbrev GC:=List PV->CH->K1->Prop
def qt(K:Ds)(G:GC):Sp:=fun vs H Q _=>∃ts C R,d9 K H vs ts/\d8 K H C/\G ts C R/\∀v H' t C',R t C'->Rep K H' v t->d8 K H' C'->Fw H C H' C'->Q v H'
def tR(G:GC)(q:sr):gw:=fun ρ C Q=>q ρ C fun xs C1=>G xs C1 Q
def FJ{p}(F:FnOk X.prog X.w X.K X.mg X.base CX k f fd ps (qt X.K G))(Z:Room k X.A)(U:Gl X x)(Y:X.mg x=some (.ref f))(hk:PySem.W.keepIn X.K (.ref f)=true)(O:Binds X.K fd ps [])(hx:jK CX X E)(J:CA X (e::es) q)(S:(x==("__debug__" : Str))=false:=by decide)(hs:noStar e=true:=by rfl)(L:es.all noStar=true:=by rfl):CE X (.Call (.Name x p) (e::es) [] pos) (tR G q) :=
 ⟨JE.weak (Ef F Z U Y hk O .nil hx J.h S hs L) fun σ H Q zz=>aQ zz fun ρ C R s h ab f=>
  ⟨ρ,C,_,s,h,ab,fun xs H1 ts C1 q1 ae h1 I=>⟨ts,C1,R,by rw[Ae];exact ae,h1,q1,fun v H' t C' q' r' h' B=>f v H' t C' q' r' h' (I.trans B)⟩⟩⟩
def ud(K:Ds)(r:List V->Hp->VK->Prop)(q:GC):Prop:=∀xs ps H C Q R,d9 K H xs ps->d8 K H C->q ps C R->(∀v H' t C',R t C'->Rep K H' v t->d8 K H' C'->Fw H C H' C'->Q v H')->r xs H Q
def vZ{id}{p}(L:CallR X (.builtin id) r)(Z:ud X.K r B)(S:Gl X x)(U:X.mg x=none)(hv:bootBuiltins x=some (.builtin id))(I:CA X (e::es) q)(Y:x ≠ "__name__":=by decide)(O:(x==("__debug__" : Str))=false:=by decide)(hs:noStar e=true:=by rfl)(J:es.all noStar=true:=by rfl):CE X (.Call (.Name x p) (e::es) [] pos) (tR B q):=⟨JE.weak ⟨WL L S U hv I.h.h Y O hs J⟩ fun σ H Q zz=>aQ zz fun ρ C R s h ab f=>
  ⟨ρ,C,_,s,h,ab,fun xs H1 ts C1 q1 ae h1 G=>Z xs ts H1 C1 Q R ae h1 q1 fun v H' t C' q' r' h' F=>f v H' t C' q' r' h' (G.trans F)⟩⟩
def bK{p}(L:CallR X (.type T) r)(Z:ud X.K r B)(S:Gl X x)(U:X.mg x=none)(hv:bootBuiltins x=some (.type T))(I:CA X (e::es) q)(Y:x ≠ "__name__":=by decide)(O:(x==("__debug__" : Str))=false:=by decide)(hs:noStar e=true:=by rfl)(J:es.all noStar=true:=by rfl):CE X (.Call (.Name x p) (e::es) [] pos) (tR B q):=⟨JE.weak (gG L S U hv I.h Y O hs J) fun σ H Q zz=>aQ zz fun ρ C R s h ab f=>
  ⟨ρ,C,_,s,h,ab,fun xs H1 ts C1 q1 ae h1 G=>Z xs ts H1 C1 Q R ae h1 q1 fun v H' t C' q' r' h' F=>f v H' t C' q' r' h' (G.trans F)⟩⟩
def Sv(J:IxR X r)(L:pq X.K r F)(G:CE X a q)(I:CE X b B)(hs:Qh b):CE X (.Subscript a b pos) (ur F q B):=⟨JE.weak ⟨pe_ix J G.h.h I.h.h hs⟩ fun _ _ _ h=>qN L h⟩
def G7:km:=fun E ρ C=>E.nx ρ C
def VY(t u:km):km:=fun E ρ C=>t (E.wn (u E)) ρ C
def eQ:CB X [] G7:=⟨JB.weak ⟨oH⟩ fun D σ H B=>aQ B fun ρ C E s h q f=> f.nx σ H ρ C q s h Fw.refl⟩
def kQ(h:CS X st t):CB X [st] t:=⟨⟨rB h.h.h⟩⟩
def xQ(h1:CS X st t)(h2:CB X sts u):CB X (st::sts) (VY t u):=⟨JB.weak ⟨tJ h1.h.h h2.h.h⟩ fun D σ H F=>aQ F fun ρ C E s h q f=>
 ⟨ρ,C,_,s,h,q,⟨fun I H' G C' n s' h' B=>⟨G,C',E,s',h',n,f.fw B⟩,f.rt,f.bk,f.ct⟩⟩⟩
def S7(q:gw):km:=fun E ρ C=>q ρ C fun _ C1=>E.nx ρ C1
def sX(G:CE X e F)(hs:swapsWith e none pos.line X.env=pure false:=by rfl):CS X (.Expr e pos) (S7 F):=⟨JS.weak ⟨JN G.h.h hs⟩ fun D σ H J=>aQ J fun ρ C E s h q f=>
 ⟨ρ,C,_,s,h,q,fun x H1 L C1 I O h1 B=>f.nx σ H1 ρ C1 I (s.cT (B.cT h)) h1 B⟩⟩
def G6(q:gw):km:=fun E ρ C=>q ρ C E.rt
def fQ(G:CE X e B):CS X (.Return (some e) pos) (G6 B):=⟨JS.weak ⟨Zr G.h.h⟩ fun D σ H O=>aQ O fun ρ C E s h q f=>
 ⟨ρ,C,_,s,h,q,fun x H1 I C1 J L h1 F=>f.rt x H1 I C1 J L h1 F⟩⟩
def Og(t:nq)(u v:km):km:=fun E ρ C=>t ρ C fun b C1=>if b=true then u E ρ C1 else v E ρ C1
def uX(J:CT X c t)(G:CB X x u)(I:CB X y v):CS X (.If c x y pos) (Og t u v):=⟨JS.weak ⟨JM J.h.h G.h.h I.h.h⟩ fun D σ H L=>aQ L fun ρ C E s h q f=>
 ⟨ρ,C,_,s,h,q,fun x H1 y C1 F e h1 B=>by
  cases e
  cases x with
  |true=>exact⟨ρ,C1,E,s.cT (B.cT h),h1,F,f.fw B⟩
  |false=>exact⟨ρ,C1,E,s.cT (B.cT h),h1,F,f.fw B⟩⟩⟩
def Jh(i:Nat)(q:gw):km:=fun E ρ C=>q ρ C fun t C1=>E.nx (ρ.set i (some t)) C1
def NQ{i}(G:X.N.Nodup)(hi:X.N[i]?=some x)(L:Loc X.env.scope x)(I:CE X e F)(hs:swapsWith e (some (.Name x pos')) pos.line X.env=pure false:=by rfl)(J:X.fn x=true\/X.env.scope.names.lookup x=some .local:=by first | exact .inl rfl | exact .inr rfl | assumption):
  CS X (.Assign [.Name x pos'] e pos) (Jh i F):=⟨JS.weak ⟨Zq G hi L I.h.h hs J⟩ fun D σ H U=>aQ U fun ρ C E s h q f=>
 ⟨ρ,C,_,s,h,q,fun x H1 Y C1 O S h1 B=>f.nx _ H1 _ C1 O ((s.cT (B.cT h)).set S i) h1 B⟩⟩
abbrev uc:=PV->jm->CH->(jm->CH->Prop)->Prop
abbrev V9:=List PV->jm->CH->(jm->CH->Prop)->Prop
def YC(K:Ds)(c:uc):TG:=fun v σ H Q=>∃t ρ C R,Rep K H v t/\gq K H σ ρ/\d8 K H C/\c t ρ C R/\∀B H' q C',R q C'->gq K H' B q->d8 K H' C'->Fw H C H' C'->Q B H'
def M4(K:Ds)(c:V9):TGs:=fun v σ H Q=>∃t ρ C R,d9 K H v t/\gq K H σ ρ/\d8 K H C/\c t ρ C R/\∀B H' q C',R q C'->gq K H' B q->d8 K H' C'->Fw H C H' C'->Q B H'
structure CG(X:Cx)(e:Expr)(c:uc):Prop where
 h:JG X e (YC X.K c)
structure UL(X:Cx)(es:List Expr)(c:V9):Prop where
 h:O6 X es (M4 X.K c)
def JG.weak(h:JG X e t)(w:∀v σ H Q,t' v σ H Q->t v σ H Q):JG X e t':=⟨fun pins s σ H v u Q I r q=>h.h pins s σ H v u Q I r (w v σ H Q q)⟩
def O6.weak(h:O6 X es t)(w:∀v σ H Q,t' v σ H Q->t v σ H Q):O6 X es t':=⟨fun pins s σ H v u Q I r q=>h.h pins s σ H v u Q I r (w v σ H Q q)⟩
def GB(i:Nat):uc:=fun t ρ C Q=>Q (ρ.set i (some t)) C
def Ss:V9:=fun ts ρ C Q=>match ts with
 |[]=>Q ρ C
 |_=>False
def IK(g:uc)(u:V9):V9:=fun ts ρ C Q=>match ts with
 |t::r=>g t ρ C fun q C'=>u r q C' Q
 |[]=>False
noncomputable def dTup(n:Nat)(u:V9):uc:=fun t ρ C Q=>match t with
 |.tup ts=>ts.length=n/\u ts ρ C Q
 |_=>False
def Fv{i}(B:X.N.Nodup)(hi:X.N[i]?=some x)(G:Loc X.env.scope x)(F:X.fn x=true\/X.env.scope.names.lookup x=some .local:=by first | exact .inl rfl | exact .inr rfl | assumption):CG X (.Name x pos) (GB i) :=
 ⟨JG.weak ⟨zD B hi G F⟩ fun v σ H Q I=>Gh I fun t ρ C R r s h q f=> f _ H _ C q (s.set r i) h Fw.refl⟩
def vM:UL X [] Ss:=⟨O6.weak ⟨JQ⟩ fun vs σ H Q B=>Gh B fun ts ρ C R r s h q f=> by
 cases r with
 |nil=>exact⟨rfl,f σ H ρ C q s h Fw.refl⟩
 |cons _ _=>exact q.elim⟩
def kZ(h1:CG X e g)(h2:UL X es u)(hs:(assignEach (e::es) X.env).map (·.2)=assign e X.env::(assignEach es X.env).map (·.2):=by rfl):UL X (e::es) (IK g u):=⟨O6.weak ⟨yC h1.h.h h2.h.h hs⟩ fun vs σ H Q O=>Gh O fun ts ρ C R r s h q f=> by
 cases r with
 |nil=>exact q.elim
 |@cons v t vs ts J r =>
  exact⟨v,vs,rfl,t,ρ,C,_,J,s,h,q,fun Z H' S C' G s' h' B=>⟨ts,S,C',R,r.cT (B.cT h),s',h',G,fun Y H2 U C2 I L h2 F=>f Y H2 U C2 I L h2 (B.trans F)⟩⟩⟩
def yP{k}(B:X.calm=true)(h:UL X es u)(F:(assignEach es X.env).length=n:=by rfl)(G:(assignEach es X.env).findIdx? (·.1)=none:=by rfl):CG X (.Tuple es k pos) (dTup n u):=⟨JG.weak ⟨W2 B h.h.h F G⟩ fun v σ H Q L=>Gh L fun t ρ C R r s h q f=> by
 cases r with
 |@tup a vs ts e r =>
  obtain⟨I,J⟩:=q;exact⟨a,vs,rfl,SqT.of e,by exact r.len▸I,ts,ρ,C,R,r,s,h,J,f⟩
 |_=>exact q.elim⟩
def cAsg(q:gw)(g:uc):km:=fun E ρ C=>q ρ C fun t C1=>g t ρ C1 E.nx
def fR(I:CE X e F)(J:CG X tg g)(hs:swapsWithSole [tg] e pos.line X.env=pure false:=by rfl)(L:swappedStores [tg] e X.env=pure none:=by rfl)(h1:(assignEach [tg] X.env).map (·.2)=[assign tg X.env]:=by rfl):CS X (.Assign [tg] e pos) (cAsg F g):=⟨JS.weak ⟨ps_asg I.h.h J.h.h hs L h1⟩ fun D σ H Z=>aQ Z fun ρ C E s h q f=>
 ⟨ρ,C,_,s,h,q,fun x H1 O C1 U Y h1 B=>⟨O,ρ,C1,E.nx,Y,s.cT (B.cT h),h1,U,fun ae H' ab C' S s' h' G=>f.nx ae H' ab C' S s' h' (B.trans G)⟩⟩⟩
@[irreducible] def Kz:PV->PV->PV->CH->(CH->Prop)->Prop:=fun o i v C Q=>match o,i with
 |.ref p,.int k=>match C p with
  |some (.lst xs)=>match ixN xs.length k with
   |some j=>Q (gQ C p (.lst (xs.set j v)))
   |none=>False
  |_=>False
 |_,_=>False
def dSub(F B:gw)(u:PV->PV->PV->CH->(CH->Prop)->Prop):uc:=fun t ρ C Q=>F ρ C fun o C1=>B ρ C1 fun i C2=>u o i t C2 fun q=>Q ρ q
def vN{O L:gw}(Z:CE X o O)(hi:CE X i L)(Y:∀v,assign (.Subscript o i pos) X.env v=(do
   let I <- holding [v] (eval o X.env)
   let J <- holding [v,I] (eval i X.env)
   standAt pos
   holding [v,I,J] (setItem I J v)
   release [v,I,J] []):=by intro _;rfl):CG X (.Subscript o i pos) (dSub O L Kz):=⟨JG.weak ⟨pg_sub Z.h.h hi.h.h WB Y⟩ fun v σ H Q zz=>Gh zz fun t ρ C R r s h ab f=>
 ⟨ρ,C,_,s,h,ab,fun x H1 px C1 q1 rx h1 F=>⟨ρ,C1,_,s.cT (F.cT h),h1,q1,fun y H2 ag C2 q ry h2 G=>by
  have r2:=r.cT ((F.trans G).cT h);have af:=s.cT ((F.trans G).cT h);unfold Kz at q
  split at q
  .next p k =>
   split at q
   .next xs e =>
    split at q
    .next j U =>
     obtain⟨vs,B,S⟩:=h2 p _ e;have ae:=rx.cT (G.cT h1);cases ae;cases ry;refine⟨p,vs,k,j,rfl,rfl,B,by rw[S.len];exact U,?_⟩;exact f σ _ ρ _ q (af.cT (iz.mut B rfl _)) (h2.put B rfl ⟨_,uQ,(S.set r2 j).cT (iz.mut B rfl _)⟩) (F.trans (G.trans (Fw.put e _ _)))
    .exact q.elim
   .exact q.elim
  .exact q.elim⟩⟩⟩
def VX(t:nq)(u:km)(E:jh):Nat->jm->CH->Prop
 |0,_,_=>False
 |n+1,ρ,C=>t ρ C fun b C1=>if b=true then u (E.lp (VX t u E n)) ρ C1 else E.nx ρ C1
def Od(t:nq)(u:km):km:=fun E ρ C=>∃n,VX t u E n ρ C
def GG(hp:PassesOwn (model X.prog X.w) X.A X.env X.xe)(Z:CT X c t)(Y:CB X U u):CS X (.While c U [] pos) (Od t u):=⟨JS.weak ⟨WT hp Z.h.h Y.h.h⟩ fun D σ H ⟨ρ,C,E,s,h,⟨n,ab⟩,f⟩=>by
 refine⟨fun m B H'=>∃q C',gq X.K H' B q/\d8 X.K H' C'/\Fw H C H' C'/\VX t u E m q C',⟨n,ρ,C,s,h,Fw.refl,ab⟩,?_⟩;rintro m ae H1 ⟨L,C1,s1,h1,J,O⟩
 cases m with
 |zero=>exact O.elim
 |succ m =>
  refine⟨L,C1,_,s1,h1,O,fun b H2 b' C2 S e h2 G=>?_⟩;cases e
  cases b with
  |true =>
   exact(Ah rfl)▸⟨fun B H'=>∃q C',gq X.K H' B q/\d8 X.K H' C'/\Fw H C H' C'/\VX t u E m q C',fun B H' z=>⟨m,CP m,z⟩,
    L,C2,_,s1.cT (G.cT h1),h2,S,⟨fun B H' q C' I s' h' F=>⟨q,C',s',h',J.trans (G.trans F),I⟩,fun v H' t C' I r' h' F=>f.rt v H' t C' I r' h' (J.trans (G.trans F)),
     fun B H' q C' I s' h' F=>f.nx B H' q C' I s' h' (J.trans (G.trans F)),fun B H' q C' I s' h' F=>⟨q,C',s',h',J.trans (G.trans F),I⟩⟩⟩
  |false =>
   exact(Af AN)▸f.nx ae H2 L C2 S (s1.cT (G.cT h1)) h2 (J.trans G)⟩
def pY(g:uc)(u:km)(E:jh):List PV->jm->CH->Prop
 |[],ρ,C=>E.nx ρ C
 |x::r,ρ,C=>g x ρ C fun q C1=>u (E.lp (pY g u E r)) q C1
structure Jq(K:Ds)(H:Hp)(J:It)(ps:List PV):Prop where
 go:∀i H',i < ps.length->iz H H'->J.go i H'
 yl:∀i H' x H'',iz H H'->J.yld i H' x H''->H''=H'/\∀t,ps[i]?=some t->Rep K H' x t
 st:∀H',iz H H'->J.stop ps.length H'
def sH{K}(j:Jq K H J ps)(s:gq K H σ ρ)(h:d8 K H C)(ag:pY g u E ps ρ C)(f:u6 K H C E D):
  ∃W:Nat->Nat->St->Hp->Prop,(∃m,W 0 m σ H)/\∀i m σ H,W i m σ H ->
   (J.stop i H/\D.nx σ H)\/(J.go i H/\∃N,(∀q H',N q H'->∃m',m' < m/\W (i+1) m' q H')/\∀x H',J.yld i H x H'->YC K g x σ H' fun ai H2=>Q7 K u { D with nx:=N,ct:=N,bk:=D.nx } ai H2):=by
 refine⟨fun i m q H'=>m=ps.length - i/\i<=ps.length/\∃L C',gq K H' q L/\d8 K H' C'/\Fw H C H' C'/\pY g u E (ps.drop i) L C',⟨ps.length,rfl,AW _,ρ,C,s,h,Fw.refl,ag⟩,?_⟩;rintro i m ah H1 ⟨rfl,hi,af,C1,s1,h1,O,q1⟩;have k1:=O.cT h
 by_cases ab:i < ps.length
 .refine .inr ⟨j.go i H1 ab k1,fun q H'=>∃L C',gq K H' q L/\d8 K H' C'/\Fw H C H' C'/\pY g u E (ps.drop (i+1)) L C',fun q H' z=>⟨ps.length - (i+1),by omega,rfl,ab,z⟩,fun x H2 y=>?_⟩
  obtain⟨rfl,y⟩:=j.yl i H1 x H2 k1 y;rw[Ap ab] at q1
  exact⟨ps[i],af,C1,_,y _ (AM ab),s1,h1,q1,fun q H' L C' q' s' h' Z=>⟨L,C',_,s',h',q',⟨fun ae S Y B I U G F=>⟨Y,B,U,G,O.trans (Z.trans F),I⟩,fun v S t B I r3 G F=>f.rt v S t B I r3 G (O.trans (Z.trans F)),
   fun ae S Y B I U G F=>f.nx ae S Y B I U G (O.trans (Z.trans F)),fun ae S Y B I U G F=>⟨Y,B,U,G,O.trans (Z.trans F),I⟩⟩⟩⟩
 .have e:i=ps.length:=by lia
  subst e;rw[Bq] at q1;exact .inl ⟨j.st H1 k1,f.nx ah H1 af C1 q1 s1 h1 O⟩
def oA{K}{a}(h:SqT K H a vs)(r:d9 K H vs ts):Jq K H (Itt K a) ts where
 go:=fun i H' l k=>⟨vs,vs[i]'(by rwa [r.len]),SqT.cT h k,AM _⟩
 yl:=fun i H' x F k y=>⟨y.1,fun t e=>by
  obtain⟨v,q,B⟩:=((r.cT k).get e);have:=y.2 vs (SqT.cT h k)
  rw[q] at this;cases this;exact B⟩
 st:=fun H' k=>⟨vs,SqT.cT h k,by exact r.len▸AI _⟩
def Rq{K}{a}(h:Fz K H a vs)(r:d9 K H vs ts):Jq K H (Itl K a) ts where
 go:=fun i H' l k=>⟨vs,vs[i]'(by rwa [r.len]),(h.cT k).sq,AM _⟩
 yl:=fun i H' x F k y=>⟨y.1,fun t e=>by
  obtain⟨v,q,B⟩:=((r.cT k).get e);have:=y.2 vs (h.cT k).sq
  rw[q] at this;cases this;exact B⟩
 st:=fun H' k=>⟨vs,(h.cT k).sq,by exact r.len▸AI _⟩
def YM{K}: Jq K H (Itr 0 n) ((List.range n).map fun k=>PV.int (k:Nat)) where
 go:=fun i H' l k=>by rwa [AB,Ak] at l
 yl:=fun i H' x q k y=>⟨y.1,fun t e=>by
  rw[y.2];rw[Aq] at e
  cases z:(List.range n)[i]? with
  |none=>rw[z] at e;cases e
  |some w =>
   rw[z] at e;cases e;have:=Ab.mp z;obtain⟨l,e⟩:=this;rw[List.getElem_range] at e;subst e;rw[Int.zero_add]
   exact .int _⟩
 st:=fun H' k=>by rw[AB,Ak];exact AI _
@[irreducible] def kE(q:gw)(g:uc)(u:km):km:=fun E ρ C=>q ρ C fun t C1=>match t with
 |.tup xs=>pY g u E xs ρ C1
 |.kt xs=>pY g u E xs ρ C1
 |_=>False
def gY{tg F:Expr}{I:List Stmt}{J:gw}{g:uc}{u:km}(U:PassesOwn (model X.prog X.w) X.A X.env X.xe)(O:X.calm=true)(hi:CE X F J)(S:CG X tg g)(L:CB X I u)(hs:∀x,foldedSetIterable F X.env x=pure x:=by intro _;rfl):CS X (.For tg F I [] pos) (kE J g u):=⟨JS.weak ⟨Zs U O (W1 hi.h.h) S.h.h L.h.h hs⟩ fun D σ H Z=>aQ Z fun ρ C E s h q f=> by
 unfold kE at q
 exact⟨ρ,C,_,s,h,q,fun x H1 px C1 G Y h1 B=>by
  cases Y with
  |@tup a vs ts e r=>exact⟨a,rfl,⟨vs,SqT.of e⟩,sH (oA (SqT.of e) r) (s.cT (B.cT h)) h1 G (f.fw B)⟩
  |@kt a vs ts e r=>exact⟨a,rfl,⟨vs,e⟩,sH (oA e r) (s.cT (B.cT h)) h1 G (f.fw B)⟩
  |_=>exact G.elim⟩⟩
noncomputable def SX(q:sr)(g:uc)(u:km):km:=fun E ρ C=>q ρ C fun ts C1=>match ts with
 |[.int j]=>-(2 ^ 62)<=j/\j < 2 ^ 62/\pY g u E ((List.range j.toNat).map fun k=>PV.int (k:Nat)) ρ C1
 |_=>False
def cD{tg:Expr}{B:List Stmt}{F:sr}{g:uc}{u:km}{p I:Pos}(Z:PassesOwn (model X.prog X.w) X.A X.env X.xe)(O:X.calm=true)(U:Gl X "range")(Y:X.mg "range" = none)(J:CA X [a] F)(S:CG X tg g)(L:CB X B u)(ab:noStar a=true:=by rfl)(hs:∀x,foldedSetIterable (.Call (.Name "range" p) [a] [] I) X.env x=pure x:=by intro _;rfl):CS X (.For tg (.Call (.Name "range" p) [a] [] I) B [] pos) (SX F g u):=⟨JS.weak ⟨Zs Z O (xO U Y J.h.h (yZ ab)) S.h.h L.h.h hs⟩ fun D σ H zz=>aQ zz fun ρ C E s h ae f=>
 ⟨ρ,C,_,s,h,ae,fun xs H1 ts C1 q af h1 G=>by
  split at q
  .next j =>
   cases af with
   |cons r0 r =>
    cases r;cases r0;exact⟨j,rfl,q.1,q.2.1,sH YM (s.cT (G.cT h)) h1 q.2.2 (f.fw G)⟩
  .exact q.elim⟩⟩
noncomputable def bB(a:Addr)(g:uc)(u:km)(E:jh):Nat->Nat->jm->CH->Prop
 |0,_,_,_=>False
 |n+1,i,ρ,C=>match C a with
  |some (.lst xs)=>match xs[i]? with
   |some x=>g x ρ C fun q C1=>u (E.lp (bB a g u E n (i+1))) q C1
   |none=>E.nx ρ C
  |_=>False
def S5(q:gw)(g:uc)(u:km):km:=fun E ρ C=>q ρ C fun t C1=>match t with
 |.ref a=>∃n,bB a g u E n 0 ρ C1
 |.fz xs=>pY g u E xs ρ C1
 |_=>False
def lD{tg af:Expr}{ah:List Stmt}{ai:gw}{g:uc}{u:km}(hp:PassesOwn (model X.prog X.w) X.A X.env X.xe)(hc:X.calm=true)(hi:CE X af ai)(hg:CG X tg g)(hb:CB X ah u)(hs:∀x,foldedSetIterable af X.env x=pure x:=by intro _;rfl):CS X (.For tg af ah [] pos) (S5 ai g u):=⟨JS.weak ⟨Zs hp hc (jA hi.h.h) hg.h.h hb.h.h hs⟩ fun D σ H zz=>aQ zz fun ρ C E s h aq f=>
 ⟨ρ,C,_,s,h,aq,fun x H1 px C1 q rx h1 S=>by
  cases rx with
  |@fz a vs ts e r=>exact⟨a,rfl,⟨vs,e.sq⟩,sH (Rq e r) (s.cT (S.cT h)) h1 q (f.fw S)⟩
  |ref a =>
   obtain⟨n,q⟩:=q
   have ex:∃ys,SqL X.K H1 a ys:=by
    cases n with
    |zero=>exact q.elim
    |succ n =>
     unfold bB at q
     split at q
     .next xs e=>obtain⟨vs,U,_⟩:=h1 a _ e;exact⟨vs,SqL.of U⟩
     .exact q.elim
   refine⟨a,rfl,ex,fun i m ae H'=>∃L C',gq X.K H' ae L/\d8 X.K H' C'/\Fw H1 C1 H' C'/\bB a g u E m i L C',⟨n,ρ,C1,s.cT (S.cT h),h1,Fw.refl,q⟩,?_⟩;rintro i m ar H2 ⟨ao,C2,ak,h2,Y,I⟩
   cases m with
   |zero=>exact I.elim
   |succ m =>
    unfold bB at I
    split at I
    .next xs e =>
     obtain⟨vs,U,rv⟩:=h2 a _ e
     split at I
     .next x ex =>
      obtain⟨v,aj,rx⟩:=rv.get ex;refine .inr ⟨⟨vs,v,SqL.of U,aj⟩,fun ae H'=>∃L C',gq X.K H' ae L/\d8 X.K H' C'/\Fw H1 C1 H' C'/\bB a g u E m (i+1) L C',fun ae H' z=>⟨m,CP m,z⟩,fun y O hy=>?_⟩;obtain⟨rfl,hy⟩:=hy;have:=hy vs (SqL.of U);rw[aj] at this;cases this
      exact⟨x,ao,C2,_,rx,ak,h2,I,fun ae H' L C' q' s' h' f'=>⟨L,C',_,s',h',q',⟨fun ag O ab B J Z G F=>⟨ab,B,Z,G,Y.trans (f'.trans F),J⟩,fun v O t B J r3 G F=>f.rt v O t B J r3 G (S.trans (Y.trans (f'.trans F))),
       fun ag O ab B J Z G F=>f.nx ag O ab B J Z G (S.trans (Y.trans (f'.trans F))),fun ag O ab B J Z G F=>⟨ab,B,Z,G,Y.trans (f'.trans F),J⟩⟩⟩⟩
     .next ex =>
      refine .inl ⟨⟨vs,SqL.of U,?_⟩,f.nx ar H2 ao C2 I ak h2 (S.trans Y)⟩;rw[rv.len];exact List.getElem?_eq_none_iff.mp ex
    .exact I.elim
  |_=>exact q.elim⟩⟩
def fJ(t:nq)(c:gw)(ρ:jm)(Q:K1):List PV->List PV->CH->Prop
 |[],acc,C=>∀p,C p=none->Q (.ref p) (gQ C p (.lst acc))
 |x::r,acc,C=>t (some x::ρ) C fun b C1=>if b=true then c (some x::ρ) C1 fun y C2=>acc.length < sizeLine/\fJ t c ρ Q r (acc++[y]) C2 else fJ t c ρ Q r acc C1
structure CF(X:Cx)(ifs:List Expr)(c:nq):Prop where
 h:JF X ifs (xJ X.K gL c)
def rH:nq:=fun _ C Q=>Q true C
def JF.weak(h:JF X B t)(w:∀σ H Q,t' σ H Q->t σ H Q):JF X B t':=⟨fun pins s σ H Q I q=>h.h pins s σ H Q I (w σ H Q q)⟩
def zK:CF X [] rH:=⟨JF.weak ⟨WZ⟩ fun σ H Q B=>aQ B fun ρ C R s h q f=> f true H true C q rfl h Fw.refl⟩
def GN(h:CT X c t):CF X [c] t:=⟨⟨WY h.h.h⟩⟩
def Fi{K}{c}{Q:VK}(j:Jq K H J ps)(s:gq K H σ ρ)(h:d8 K H C)(ag:fJ t c ρ R ps [] C)(h0:d8 K H0 C0)(f0:Fw H0 C0 H C)(f:∀v H' p C',R p C'->Rep K H' v p->d8 K H' C'->Fw H0 C0 H' C'->Q v H')(B:H D=none):
  ∃W:Nat->Nat->List V->Hp->Prop,(∃m,W 0 m [] (upd H D (.lst [])))/\∀i m ys H,W i m ys H ->
   (J.stop i H/\Q (.ref D) H)\/(J.go i H/\∀x H',J.yld i H x H'->xJ K gL t (some x::σ) H' fun b H2=>
    if b=true then xJ K (Rep K) c (some x::σ) H2 fun y H3=>H3 D=some (.lst ys)/\ys.length < sizeLine/\∃I,I < m/\W (i+1) I (ys++[y]) (upd H3 D (.lst (ys++[y])))
    else ∃I,I < m/\W (i+1) I ys H2):=by
 refine⟨fun i m ys H'=>m=ps.length - i/\i<=ps.length/\∃acc C',H' D=some (.lst ys)/\C' D=none/\d9 K H' ys acc/\d8 K H' C'/\Fw H C H' C'/\fJ t c ρ R (ps.drop i) acc C',
  ⟨ps.length,rfl,AW _,[],C,uQ,h.fresh B,.nil,h.new B _,Fw.new B _,ag⟩,?_⟩
 rintro i m ys H1 ⟨rfl,hi,acc,C1,e1,n1,r1,h1,L,Z⟩;have G:=L.cT h
 by_cases F:i < ps.length
 .refine .inr ⟨j.go i H1 F G,fun x H2 y=>?_⟩
  obtain⟨rfl,y⟩:=j.yl i H1 x H2 G y;have rx:=y _ (AM F);rw[Ap F] at Z;refine⟨some ps[i]::ρ,C1,_,.cons rx (s.cT G),h1,Z,fun b H3 b' C3 q3 e h3 O=>?_⟩;cases e;obtain⟨U,e3⟩:=O D (by rw[n1];rfl) (by lia);rw[e1] at e3;rw[n1] at U;have S:=O.cT h1
  cases b with
  |true =>
   refine⟨some ps[i]::ρ,C3,_,.cons (rx.cT S) ((s.cT G).cT S),h3,q3,fun v H4 p C4 q4 r4 h4 ab=>uF (ab D (by rw[U];rfl) (by lia)) fun n4 e4=>?_⟩;rw[e3] at e4;rw[U] at n4;have m4:iz H4 (upd H4 D (.lst (ys++[v]))):=iz.mut e4 rfl _;refine⟨e4,by rw[r1.len];exact q4.1,ps.length - (i+1),by lia,rfl,F,acc++[p],C4,uQ,n4,?_,?_,?_,q4.2⟩
   .exact (((r1.cT S).cT (ab.cT h3)).append (.cons r4 .nil)).cT m4
   .intro a o q
    have ae:a≠D:=fun z=>by subst z;rw[n4] at q;cases q
    exact(h4 a o q).cT m4 (pQ ae)
   .intro a q Y
    have ae:a≠D:=fun z=>Y (z▸B);exact uF ((L.trans (O.trans ab)) a q Y) fun x1 x2=>⟨x1,(pQ ae).trans x2⟩
  |false =>
   exact⟨ps.length - (i+1),by lia,rfl,F,acc,C3,e3,U,r1.cT S,h3,L.trans O,q3⟩
 .have e:i=ps.length:=by lia
  subst e;rw[Bq] at Z;refine .inl ⟨j.st H1 G,f (.ref D) H1 (.ref D) _ (Z D n1) (.ref D) ?_ ?_⟩
  .intro a o q
   by_cases z:a=D
   .subst z;rw[jQ] at q;cases q;exact⟨ys,e1,r1⟩
   .rw [wQ z] at q;exact h1 a o q
  .intro a q Y
   obtain⟨x1,x2⟩:=f0 a q Y;have af:H a≠none:=by rwa [x2]
   obtain⟨y1,y2⟩:=L a (by rwa [x1]) af;exact⟨(wQ (show a≠D from fun z=>af (z▸B))).trans (y1.trans x1),y2.trans x2⟩
structure CI(X:Cx)(tg it:Expr)(wi:TI)(c:jm->CH->(List PV->CH->Prop)->Prop):Prop where
 j:JI X tg it wi
 w:∀σ H ρ C R Q,gq X.K H σ ρ->d8 X.K H C->c ρ C R->(∀J H' ps C',R ps C'->Jq X.K H' J ps->d8 X.K H' C'->Fw H C H' C'->Q J H')->wi σ H Q
def cItT(q:gw):jm->CH->(List PV->CH->Prop)->Prop:=fun ρ C Q=>q ρ C fun t C1=>match t with
 |.tup xs=>Q xs C1
 |.kt xs=>Q xs C1
 |_=>False
def vP(h:CE X e F):CI X tg e (iTup X.K (xJ X.K (Rep X.K) F)) (cItT F):=⟨⟨W1 h.h.h⟩,fun σ H ρ C R Q s h q f=>⟨ρ,C,_,s,h,q,fun x H1 J C1 B I h1 G=>by
  cases I with
  |@tup a vs ts e r=>exact⟨a,rfl,⟨vs,SqT.of e⟩,f _ H1 ts C1 B (oA (SqT.of e) r) h1 G⟩
  |@kt a vs ts e r=>exact⟨a,rfl,⟨vs,e⟩,f _ H1 ts C1 B (oA e r) h1 G⟩
  |_=>exact B.elim⟩⟩
def cItR(q:sr):jm->CH->(List PV->CH->Prop)->Prop:=fun ρ C Q=>q ρ C fun ts C1=>match ts with
 |[.int j]=>-(2 ^ 62)<=j/\j < 2 ^ 62/\Q ((List.range j.toNat).map fun k=>PV.int (k:Nat)) C1
 |_=>False
def lR(J:Gl X "range")(L:X.mg "range" = none)(I:CA X [a] F)(O:noStar a=true:=by rfl):CI X tg (.Call (.Name "range" p) [a] [] Y) (iRng1 (xJ X.K (d9 X.K) F)) (cItR F):=⟨⟨xO J L I.h.h (yZ O)⟩,fun σ H ρ C R Q s h q f=>⟨ρ,C,_,s,h,q,fun xs H1 ts C1 B U h1 G=>by
  split at B
  .next j =>
   cases U with
   |cons S r =>
    cases r;cases S;exact⟨j,rfl,B.1,B.2.1,f _ H1 _ C1 B.2.2 YM h1 G⟩
  .exact B.elim⟩⟩
def Ub(q:jm->CH->(List PV->CH->Prop)->Prop)(t:nq)(c:gw):gw:=fun ρ C Q=>q ρ C fun ps C1=>fJ t c ρ Q ps [] C1
def bO{c}(hi:CI X tg it L F){Q:VK}(h:xJ X.K (Rep X.K) (Ub F t c) σ H Q):Qr L (xJ X.K gL t) (xJ X.K (Rep X.K) c) σ H Q :=aQ h fun ρ C R s h q f=>hi.w σ H ρ C _ _ s h q fun J H' ps C' I j h' B D G=>Fi j (s.cT (B.cT h)) h' I h B f G
def zW{L I:Expr}{x:Str}{S:Pos}{O:List Expr}{scope:Scope}{wi:TI}{J:jm->CH->(List PV->CH->Prop)->Prop}{t:nq}{c:gw}(Y:X.calm=true)(U:(x::X.N).Nodup)(K:∃q,dF X x scope q)(hi:CI X (.Name x S) I wi J)(ht:∀q F C G B,CF (lK X x scope q F C G B) O t)(Z:∀q F C G B,CE (lK X x scope q F C G B) L c)(hs:∀v,foldedSetIterable I X.env v=pure v:=by intro _;rfl):CE X (.ListComp L [⟨.Name x S,I,O,0⟩] scope pos) (Ub J t c) :=
 ⟨JE.weak (Xc Y U K hi.j (fun q F C G B=>(ht q F C G B).h) (fun q F C G B=>(Z q F C G B).h) hs) fun _ _ _ h=>bO hi h⟩
end
noncomputable def wL(N:List Str)(ts:List PV):jm:=ts.map some++List.replicate (N.length - ts.length) none
theorem tT{K}: ∀n,gq K H (List.replicate n none) (List.replicate n none)
 |0=>.nil
 |n+1=>.cons trivial (tT n)
theorem Qu{K}(s:gq K H σ ρ):∀{vs}{ts},d9 K H vs ts->gq K H (vs.map some++σ) (ts.map some++ρ)
 |_,_,.nil=>s
 |_,_,.cons h r=>.cons h (Qu s r)
def jC{K}(r:d9 K H vs ts):gq K H (L2.start N vs) (wL N ts):=by
 delta L2.start wL
 exact r.len▸Qu (tT _) r
section
variable {P:Program}{w:World}{K:Ds}{mg:Str->Option Value}{base:Heap}
def Fun.okC{st}(F:Fun K x qual st f fd)(S:FnScope N ps (zX st))(Y:∀ts C R,G ts C R->ts.length=ps.length)(L:∀I A outer s H E,Room k (A.deeper (envOfC qual (zX st) s.heap.objs.size f I)) ->
   ∃c,CB (vB CX0 P w K mg base N qual (zX st) f I A outer s H E).nox (nJ st) c/\∀ts C R,G ts C R->c (.go R) (wL N ts) C):FnOk P w K mg base CX0 (k+1) f fd ps (qt K G):=by
 refine F.okJ S ?_ ?_
 .rintro vs H Q E ⟨ts,C,R,r,h,g,f⟩
  exact r.len▸Y ts C R g
 .rintro I A outer s H vs Q E U ⟨ts,C,R,r,h,g,f⟩
  exact dQ (L I A outer s H E U) fun c O q=>⟨_,O.h,wL N ts,C,_,jC r,h,q ts C R g,⟨fun ab H' Z C' B s' h' J=>f .non H' .non C' B .non h' J,f,fun _ _ _ _ B _ _ _=>B.elim,fun _ _ _ _ B _ _ _=>B.elim⟩⟩
end
section
variable {X:Cx}{a b c e o i:Expr}{es:List Expr}{pos:Pos}
@[irreducible] def cI(g:Int->Int->PV):ul:=fun x y C Q=>match x,y with
 |.int i,.int j=>Q (g i j) C
 |_,_=>False
def OJ(P:Int->Int->Prop)(g:Int->Int->PV):ul:=fun x y C Q=>match x,y with
 |.int i,.int j=>P i j/\Q (g i j) C
 |_,_=>False
def GI{K}(B:∀i j H,Rep K H (g i j) (g' i j)):pq K (rI0 g) (cI g'):=fun x y I J H C Q R F G h q f=>by
 delta cI at q
 split at q
 .cases F;cases G
  exact⟨_,_,rfl,rfl,f _ H _ C q (B _ _ _) h Fw.refl⟩
 .exact q.elim
def wI{K}(B:∀i j H,Rep K H (g i j) (g' i j)):pq K (rI P g) (OJ P g'):=fun x y I J H C Q R F G h q f=>by
 delta OJ at q
 split at q
 .cases F;cases G
  exact⟨_,_,rfl,rfl,q.1,f _ H _ C q.2 (B _ _ _) h Fw.refl⟩
 .exact q.elim
def sJ{K}:pq K (rI0 fun i j=>.int (i - j)) (cI fun i j=>.int (i - j)):=GI fun _ _ _=>.int _
def xM{K}:pq K (rI CMul fun i j=>.int (i * j)) (OJ CMul fun i j=>.int (i * j)):=wI fun _ _ _=>.int _
def Xz{K}:pq K (rI (fun _ j=>0 < j/\j < 18446744073709551616) fun i j=>.int (i / j)) (OJ (fun _ j=>0 < j/\j < 18446744073709551616) fun i j=>.int (i / j)):=wI fun _ _ _=>.int _
def bY{K}:pq K (rI (fun _ j=>0 < j) fun i j=>.int (i % j)) (OJ (fun _ j=>0 < j) fun i j=>.int (i % j)):=wI fun _ _ _=>.int _
def vI{K}:pq K (rI CPow fun i j=>.int (i ^ j.toNat)) (OJ CPow fun i j=>.int (i ^ j.toNat)):=wI fun _ _ _=>.int _
def wB{K}:pq K (rI0 fun i j=>.bl (decide (i < j))) (cI fun i j=>.bl (decide (i < j))):=GI fun _ _ _=>.bl _
def cZ{K}:pq K (rI0 fun i j=>.bl (decide (j < i))) (cI fun i j=>.bl (decide (j < i))):=GI fun _ _ _=>.bl _
noncomputable def SN:PV->CH->K1->Prop:=fun x C Q=>match x with
 |.int i=>Q (.int (-i)) C
 |_=>False
def uV{K}:Cun K (rU fun i=>.int (-i)) SN:=fun x F H C Q R B h q f=>by
 delta SN at q
 split at q
 .cases B;exact⟨_,rfl,f _ H _ C q (.int _) h Fw.refl⟩
 .exact q.elim
def iA(s:Same H H'):Fw H C H' C:=fun a c n=>⟨rfl,by
 cases e:H a with
 |none=>exact absurd e n
 |some o=>exact s a o e⟩
def aL{K}(h:d8 K H C)(s:Same H H'):d8 K H' C:=fun a o c=>dQ ((h a o c).mut) fun u e _=>(h a o c).cT (fun b v _ e=>s b v e) ((s a u e).trans e.symm)
@[irreducible] def iI:ul:=fun x y C Q=>match x,y with
 |.int i,.int j=>Q (.int (i+j)) C
 |.str i,.str j=>i.length+j.length<=sizeLine/\Q (.str (i++j)) C
 |.tup xs,.tup ys=>xs.length+ys.length<=sizeLine/\Q (.tup (xs++ys)) C
 |.ref a,.ref b=>match C a,C b with
  |some (.lst xs),some (.lst ys)=>xs.length+ys.length<=sizeLine/\∀p,C p=none->Q (.ref p) (gQ C p (.lst (xs++ys)))
  |_,_=>False
 |_,_=>False
abbrev Ik:R2:=fun x y H Q=>rI0 (fun i j=>.int (i+j)) x y H Q\/((∃i j,x=.str i/\y=.str j/\i.length+j.length<=sizeLine/\Q (.str (i++j)) H)\/(Ij x y H Q\/rCat x y H Q))
def iQ:OpR X (binaryOp .Add) Ik:=OpR.or op_add (OpR.or ZA (OpR.or zc op_cat))
def qX{K}:pq K Ik iI:=fun x y px ab H C Q R F G h q f=>by
 delta iI at q
 split at q
 .cases F;cases G
  exact .inl ⟨_,_,rfl,rfl,f _ H _ C q (.int _) h Fw.refl⟩
 .cases F;cases G
  exact .inr (.inl ⟨_,_,rfl,rfl,q.1,f _ H _ C q.2 (.str _) h Fw.refl⟩)
 .cases F with
  |tup e r=>cases G with
   |tup O I =>
    refine .inr (.inr (.inl ⟨_,_,_,_,rfl,rfl,e,O,by rw[r.len,I.len];exact q.1,fun z H' s hz _=>?_⟩));exact f _ H' _ C q.2 (.tup hz ((r.append I).cT fun b v _ e=>s b v e)) (aL h s) (iA s)
 .split at q
  .next xs ys S U =>
   refine dQ (h _ _ S) fun vs Z L=>dQ (h _ _ U) fun us Y J=>?_;cases F;cases G
   refine .inr (.inr (.inr ⟨_,_,_,_,rfl,rfl,Z,Y,by rw[L.len,J.len];exact q.1,fun p B=>?_⟩));exact f _ _ _ _ (q.2 p (h.fresh B)) (.ref p) (h.lay B ⟨_,uQ,(L.append J).cT (iz.new B _)⟩) (Fw.lay B _ _)
  .exact q.elim
 .exact q.elim
noncomputable def sEq:PV->PV->Option Bool
 |.non,.non=>some true | .non,.int _=>some false | .int _,.non=>some false | .non,.bl _=>some false | .bl _,.non=>some false | .non,.str _=>some false | .str _,.non=>some false
 |.int i,.int j=>some (decide (i=j)) | .bl b,.bl c=>some (decide (b=c)) | .str x,.str y=>some (decide (x=y))
 |.int _,.str _=>some false | .str _,.int _=>some false | .bl _,.str _=>some false | .str _,.bl _=>some false
 |_,_=>none
@[irreducible] def O1(k:Bool->Bool):ul:=fun x y C Q=>match sEq x y with
 |some b=>Q (.bl (k b)) C
 |none=>False
noncomputable def toV:PV->Option V
 |.non=>some .non | .bl b=>some (.bl b) | .int i=>some (.int i) | .str x=>some (.str x) | _=>none
def JC{K}(r:Rep K H x q)(e:toV q=some v):x=v:=by
 cases r<;>cases e<;>rfl
def w5{b}(e:sEq q B=some b):∃v u,toV q=some v/\toV B=some u/\scal v u=true/\decide (v=u)=b:=by
 cases q<;>cases B<;>cases e<;>exact⟨_,_,rfl,rfl,rfl,by simp⟩
def JD{K}{b}(I:Rep K H x F)(J:Rep K H y G)(e:sEq F G=some b):scal x y=true/\decide (x=y)=b:=by
 refine dH (w5 e) fun v u h1 h2 q B=>?_;cases JC I h1;cases JC J h2;exact⟨q,B⟩
def jX{K}:pq K rEq (O1 id):=fun x y G I H C Q R B F h q f=>by
 delta O1 at q
 split at q
 .next b e =>
  obtain⟨h1,h2⟩:=JD B F e;exact⟨h1,h2▸f _ H _ C q (.bl _) h Fw.refl⟩
 .exact q.elim
def GH{K}:pq K rNe (O1 not):=fun x y G I H C Q R B F h q f=>by
 delta O1 at q
 split at q
 .next b e =>
  obtain⟨h1,h2⟩:=JD B F e;exact⟨h1,h2▸f _ H _ C q (.bl _) h Fw.refl⟩
 .exact q.elim
noncomputable def wU:PV->Bool
 |.non=>true
 |_=>false
def Ux(k:Bool->Bool):ul:=fun x y C Q=>match y with
 |.non=>Q (.bl (k (wU x))) C
 |_=>False
def Xh{K}(r:Rep K H x q):decide (x=.non)=wU q:=by
 cases r<;>simp[wU]
def rD{K}:pq K (fun x y H Q=>y=.non/\Q (.bl (decide (x=.non))) H) (Ux id):=fun x y G I H C Q R B F h q f=>by
 cases F with
 |non=>exact⟨rfl,by exact(Xh B)▸f _ H _ C q (.bl _) h Fw.refl⟩
 |_=>exact q.elim
def Xy{K}:pq K (fun x y H Q=>y=.non/\Q (.bl (!decide (x=.non))) H) (Ux not):=fun x y G I H C Q R B F h q f=>by
 cases F with
 |non=>exact⟨rfl,by exact(Xh B)▸f _ H _ C q (.bl _) h Fw.refl⟩
 |_=>exact q.elim
def uv(xs:List PV)(i:Int)(C:CH)(Q:K1):Prop:=match atI xs i with
 |some v=>Q v C
 |none=>False
@[irreducible] def ut:ul:=fun x y C Q=>match x,y with
 |.tup xs,.int i=>uv xs i C Q
 |.kt xs,.int i=>uv xs i C Q
 |.fz xs,.int i=>uv xs i C Q
 |.ref a,.int i=>match C a with
  |some (.lst xs)=>uv xs i C Q
  |_=>False
 |.str z,.int i=>z.length<=sizeLine/\match atI z.cps.toList i with
  |some c=>Q (.str ⟨#[c]⟩) C
  |none=>False
 |_,_=>False
theorem d9.at{K}{i}(r:d9 K H vs ts)(e:atI ts i=some t):∃v,atI vs i=some v/\Rep K H v t:=by
 delta atI at e ⊢
 rw[r.len]
 cases z:ixN ts.length i with
 |none=>rw[z] at e;cases e
 |some j =>
  rw[z] at e;exact r.get e
def aI{K}{i}(r:d9 K H vs ts)(q:uv ts i C R):∃v t,atI vs i=some v/\Rep K H v t/\R t C:=by
 delta uv at q
 split at q
 .next t e =>
  exact dQ (r.at e) fun v B F=>⟨v,t,B,F,q⟩
 .exact q.elim
def NZ{K}:pq K (rIx K) ut:=fun x y U Y H C Q R G I h q f=>by
 delta ut at q
 split at q
 .cases I
  cases G with
  |tup e r =>
   obtain⟨v,t,B,F,q⟩:=aI r q;exact .inr (.inl ⟨_,_,_,v,rfl,rfl,SqT.of e,B,f _ H _ C q F h Fw.refl⟩)
 .cases I
  cases G with
  |kt e r =>
   obtain⟨v,t,B,F,q⟩:=aI r q;exact .inr (.inl ⟨_,_,_,v,rfl,rfl,e,B,f _ H _ C q F h Fw.refl⟩)
 .cases I
  cases G with
  |fz e r =>
   obtain⟨v,t,B,F,q⟩:=aI r q;exact .inl ⟨_,_,_,v,rfl,rfl,e.sq,B,f _ H _ C q F h Fw.refl⟩
 .cases I
  split at q
  .next xs e =>
   obtain⟨vs,L,S⟩:=(h _ _ e);cases G;exact nX (aI S q) fun v t B F q=>.inl ⟨_,_,_,v,rfl,rfl,SqL.of L,B,f _ H _ C q F h Fw.refl⟩
  .exact q.elim
 .cases I;cases G
  obtain⟨O,J⟩:=q
  split at J
  .next c e=>exact .inr (.inr ⟨_,_,c,rfl,rfl,O,e,f _ H _ C J (.str _) h Fw.refl⟩)
  .exact J.elim
 .exact q.elim
def Eh:IxR X (rIx X.K):=ix_seq
@[irreducible] def zT:GC:=fun ts C Q=>match ts with
 |[.tup xs]=>Q (.int xs.length) C
 |[.kt xs]=>Q (.int xs.length) C
 |[.fz xs]=>Q (.int xs.length) C
 |[.ref a]=>match C a with
  |some (.lst xs)=>Q (.int xs.length) C
  |some (.dK kvs)=>Q (.int kvs.length) C
  |_=>False
 |[.str z]=>z.length<=sizeLine/\Q (.int z.length) C
 |_=>False
abbrev Ih(K:Ds):List V->Hp->VK->Prop:=fun xs H Q=>(∃p ys,xs=[.ref p]/\(SqL K H p ys\/SqT K H p ys)/\Q (.int ys.length) H)\/((∃a kvs,xs=[V.ref a]/\H a=some (.dK kvs)/\Q (.int kvs.length) H)\/∃z,xs=[.str z]/\z.length<=sizeLine/\Q (.int z.length) H)
def VT:CallR X (.builtin "len") (Ih X.K):=CallR.or sI (CallR.or VS nI)
def aX{K}(r:d9 K H xs [t]):∃v,xs=[v]/\Rep K H v t:=by
 cases r with
 |cons h r=>cases r;exact⟨_,rfl,h⟩
def cB{K}(r:d9 K H xs [t,u]):∃v w,xs=[v,w]/\Rep K H v t/\Rep K H w u:=by
 cases r with
 |cons h r=>obtain⟨w,rfl,h'⟩:=aX r;exact⟨_,w,rfl,h,h'⟩
def FZ{K}:ud K (Ih K) zT:=fun xs ps H C Q R B h q f=>by
 delta zT at q
 split at q
 .obtain ⟨v,rfl,r⟩:=aX B
  cases r with
  |tup e r=>exact .inl ⟨_,_,rfl,.inr (SqT.of e),f _ H _ C (by rwa [r.len]) (.int _) h Fw.refl⟩
 .obtain ⟨v,rfl,r⟩:=aX B
  cases r with
  |kt e r=>exact .inl ⟨_,_,rfl,.inr e,f _ H _ C (by rwa [r.len]) (.int _) h Fw.refl⟩
 .obtain ⟨v,rfl,r⟩:=aX B
  cases r with
  |fz e r=>exact .inl ⟨_,_,rfl,.inl e.sq,f _ H _ C (by rwa [r.len]) (.int _) h Fw.refl⟩
 .obtain ⟨v,rfl,r⟩:=aX B
  split at q
  .next xs e =>
   obtain⟨vs,F,G⟩:=h _ _ e;cases r;exact .inl ⟨_,_,rfl,.inl (SqL.of F),f _ H _ C (by rwa [G.len]) (.int _) h Fw.refl⟩
  .next kvs e =>
   obtain⟨vs,F,G⟩:=h _ _ e;cases r;exact .inr (.inl ⟨_,_,rfl,F,f _ H _ C (by rwa [Paired.length G]) (.int _) h Fw.refl⟩)
  .exact q.elim
 .obtain ⟨v,rfl,r⟩:=aX B
  cases r;exact .inr (.inr ⟨_,rfl,q.1,f _ H _ C q.2 (.int _) h Fw.refl⟩)
 .exact q.elim
noncomputable def tyP(C:CH):PV->Option Ty
 |.non=>some .non
 |.bl _=>some .bl
 |.int _=>some .int
 |.str _=>some .str
 |.tup _=>some .tup
 |.ref a=>match C a with
  |some (.lst _)=>some .lst
  |some (.dK _)=>some .dct
  |_=>none
 |_=>none
def vq{K}(r:Rep K H x t)(h:d8 K H C)(e:tyP C t=some n):TX H x=some n:=by
 cases r with
 |tup B _=>cases e;show(H _).bind Pg=_;rw[B];rfl
 |ref a =>
  delta tyP at e
  dsimp only at e
  split at e
  .next xs c=>cases e;obtain⟨vs,q,_⟩:=h _ _ c;show(H _).bind Pg=_;rw[q];rfl
  .next xs c=>cases e;obtain⟨vs,q,_⟩:=h _ _ c;show(H _).bind Pg=_;rw[q];rfl
  .cases e
 |kt _ _=>cases e
 |fz _ _=>cases e
 |ty _=>cases e
 |vw _=>cases e
 |_=>cases e;rfl
noncomputable def oF(n:String):Option Ty:=[Ty.non,.bl,.int,.str,.lst,.tup,.dct].find? fun t=>pU t==n
def Qq(h:oF n=some t):n=pU t:=by
 have:=Dm h;exact(eq_of_beq this).symm
@[irreducible] def Hq:GC:=fun ts C Q=>match ts with
 |[x,.ty n]=>match oF n,tyP C x with
  |some T,some k=>Q (.bl (fH k T)) C
  |_,_=>False
 |_=>False
def sD{K}:ud K (fun xs H Q=>∃x T n,xs=[x,.ty (pU T)]/\TX H x=some n/\Q (.bl (fH n T)) H) Hq:=fun xs ps H C Q R J h q f=>by
 delta Hq at q
 split at q
 .split at q
  .next T k B F =>
   obtain⟨v,w,rfl,G,I⟩:=cB J;cases I;exact(Qq B)▸⟨v,T,k,rfl,vq G h F,f _ H _ C q (.bl _) h Fw.refl⟩
  .exact q.elim
 .exact q.elim
def cAbs:GC:=fun ts C Q=>match ts with
 |[.int i]=>Q (.int (if i < 0 then -i else i)) C
 |_=>False
def Hb{K}:ud K (fun xs H Q=>∃i,xs=[.int i]/\Q (.int (if i < 0 then -i else i)) H) cAbs:=fun xs ps H C Q R B h q f=>by
 delta cAbs at q
 split at q
 .obtain ⟨v,rfl,r⟩:=aX B
  cases r;exact⟨_,rfl,f _ H _ C q (.int _) h Fw.refl⟩
 .exact q.elim
@[irreducible] def bP:GC:=fun ts C Q=>match ts with
 |[.tup xs]=>Q (.tup xs) C
 |[.ref a]=>match C a with
  |some (.lst xs)=>Q (.tup xs) C
  |_=>False
 |_=>False
def FQ{K}:ud K (fun xs H Q=>∃p ys,xs=[.ref p]/\((SqL K H p ys/\∀l,H l=none->Q (.ref l) (upd H l (.tup ys)))\/(SqT K H p ys/\Q (.ref p) H))) bP:=fun xs ps H C Q R F h q f=>by
 delta bP at q
 split at q
 .obtain ⟨v,rfl,r⟩:=aX F
  cases r with
  |tup e r=>exact⟨_,_,rfl,.inr ⟨SqT.of e,f _ H _ C q (.tup e r) h Fw.refl⟩⟩
 .obtain ⟨v,rfl,r⟩:=aX F
  split at q
  .next xs e =>
   obtain⟨vs,G,I⟩:=(h _ _ e);cases r;exact⟨_,_,rfl,.inl ⟨SqL.of G,fun l B=>f _ _ _ C q (.tup uQ (I.cT (iz.new B _))) (h.new B _) (Fw.new B _)⟩⟩
  .exact q.elim
 .exact q.elim
noncomputable def iR:List PV->Option (List Bool)
 |[]=>some []
 |.bl b::r=>(iR r).map (b :: ·)
 |_=>none
@[irreducible] def Ht:GC:=fun ts C Q=>match ts with
 |[.ref a]=>match C a with
  |some (.lst xs)=>match iR xs with
   |some bs=>Q (.bl (bs.all id)) C
   |none=>False
  |_=>False
 |_=>False
def V0{K}(r:d9 K H vs ts)(e:iR ts=some bs):vs=bs.map V.bl:=by
 induction ts generalizing vs bs with
 |nil=>cases r;cases e;rfl
 |cons t ts q =>
  cases r with
  |@cons v _ vs _ h r =>
   cases t with
   |bl b =>
    unfold iR at e
    cases z:iR ts with
    |none=>rw[z] at e;cases e
    |some cs =>
     rw[z] at e;injection e with e
     subst e;cases h;rw[q r z];rfl
   |_=>cases e
def Ha{K}:ud K (fun xs H Q=>∃p ys,xs=[.ref p]/\SqL K H p (List.map V.bl ys)/\Q (.bl (ys.all id)) H) Ht:=fun xs ps H C Q R G h q f=>by
 delta Ht at q
 split at q
 .obtain ⟨v,rfl,r⟩:=aX G
  split at q
  .next xs e =>
   split at q
   .next bs B =>
    obtain⟨vs,F,I⟩:=(h _ _ e);cases r;have:=V0 I B;subst this;exact⟨_,bs,rfl,SqL.of F,f _ H _ C q (.bl _) h Fw.refl⟩
   .exact q.elim
  .exact q.elim
 .exact q.elim
noncomputable def Ru(x:PV)(C:CH):Prop:=match x with
 |.ref a=>match C a with
  |some (.lst _)=>True
  |_=>False
 |_=>False
def cBM(F:PV->List PV->CH->K1->Prop)(B:gw)(q:sr):gw:=fun ρ C Q=>B ρ C fun x C1=>Ru x C1/\q ρ C1 fun xs C2=>F x xs C2 Q
def vf(K:Ds)(r:V->List V->Hp->VK->Prop)(B:PV->List PV->CH->K1->Prop):Prop:=∀x q xs ps H C Q R,Rep K H x q->d9 K H xs ps->d8 K H C->B q ps C R->(∀v H' t C',R t C'->Rep K H' v t->d8 K H' C'->Fw H C H' C'->Q v H')->r x xs H Q
def YR{K}(l:Ru t C)(r:Rep K H x t)(h:d8 K H C):tyV K "list" x H:=by
 delta Ru at l
 split at l
 .split at l
  .next e=>obtain⟨vs,q,_⟩:=(h _ _ e);cases r;exact .inl ⟨rfl,vs,SqL.of q⟩
  .exact l.elim
 .exact l.elim
def Kw{id}{apos cpos}(pa:PlainAttrs "list")(ai:Slot "list" name id)(af:typeOf (.builtin id)=pure (.type "method_descriptor"))(ae:MtR X id r)(hr:vf X.K r L)(ho:CE X o J)(S:CA X (e::es) I)(Y:attributeBase o name X.env (eval o X.env)=eval o X.env:=by rfl)(Z:((backTo cpos (starEach (e::es) X.env)).all (fun x=>!x.1)&&(backToKw cpos (keywordEach [] X.env)).all (fun x=>x.1.isSome)
   && decide ((e::es).length+([]:List Keyword).length+(if ([]:List Keyword).isEmpty then 0 else 1) < 30))=true:=by rfl)(ab:(apos.endLine==cpos.line)=true:=by rfl)(hs:noStar e=true:=by rfl)(U:es.all noStar=true:=by rfl):
  CE X (.Call (.Attribute o name apos) (e::es) [] cpos) (cBM L J I):=⟨JE.weak ⟨pe_bm pa ai af ae ho.h.h S.h.h Y Z ab (yZ hs) (yW U)⟩ fun σ H Q zz=>aQ zz fun ρ C R s h ag f=>
 ⟨ρ,C,_,s,h,ag,fun x H1 px C1 F G h1 q=>⟨YR F.1 G h1,ρ,C1,_,s.cT (q.cT h),h1,F.2,fun xs H2 ps C2 q2 ah h2 B=>
  hr x px xs ps H2 C2 Q R (G.cT (B.cT h1)) ah h2 q2 fun v H' t C' q' r' h' O=>f v H' t C' q' r' h' (q.trans (B.trans O))⟩⟩⟩
@[irreducible] def qU:PV->List PV->CH->K1->Prop:=fun x ts C Q=>match x,ts with
 |.ref a,[y]=>match C a with
  |some (.lst xs)=>xs.length < sizeLine/\Q .non (gQ C a (.lst (xs++[y])))
  |_=>False
 |_,_=>False
def Z9{K}:vf K JK qU:=fun x J xs ps H C Q R I G h q f=>by
 delta qU at q
 split at q
 .split at q
  .next ys e =>
   obtain⟨vs,B,F⟩:=(h _ _ e);obtain⟨v,rfl,r⟩:=aX G;cases I;exact⟨_,vs,v,rfl,rfl,B,by exact F.len▸q.1,f _ _ _ _ q.2 .non (h.put B rfl ⟨_,uQ,(F.append (.cons r .nil)).cT (iz.mut B rfl _)⟩) (Fw.put e _ _)⟩
  .exact q.elim
 .exact q.elim
end
noncomputable def aV:PV->Option Key
 |.non=>some (.inl none)
 |.int i=>some (.inl (some i))
 |.str x=>some (.inr x)
 |_=>none
noncomputable def cW:Key->PV
 |.inl none=>.non
 |.inl (some i)=>.int i
 |.inr x=>.str x
def jq k:aV (cW k)=some k:=by rcases k with (_ | i) | x<;>rfl
def yG{K}(r:Rep K H v t)(e:aV t=some k):v=kV k:=by
 cases r<;>cases e<;>rfl
noncomputable def kJ(kvs:List (Key×PV))(k:Key):Option PV:=(kvs.find? fun q=>decide (q.1=k)).map (·.2)
noncomputable def nZ(kvs:List (Key×PV))(k:Key)(v:PV):List (Key×PV):=if (kvs.any fun q=>decide (q.1=k))=true then kvs.map fun q=>if q.1=k then (q.1,v) else q else kvs++[(k,v)]
noncomputable def tV(kvs B:List (Key×PV)):List (Key×PV):=B.foldl (fun acc q=>nZ acc q.1 q.2) kvs
section
variable {K:Ds}{H:Hp}{vs:List (Key×V)}{kvs:List (Key×PV)}
def KP.val(r:KP K H vs kvs)k:(∃v t,iV vs k=some v/\kJ kvs k=some t/\Rep K H v t)\/(iV vs k=none/\kJ kvs k=none):=by
 induction r with
 |nil=>exact .inr ⟨rfl,rfl⟩
 |@cons p q F G h r B =>
  delta iV kJ
  rw[A1,A1,h.1]
  by_cases e:q.1=k
  .grind
  .rwa [AU e]
def KP.any(r:KP K H vs kvs)k:(vs.any fun B=>decide (B.1=k))=(kvs.any fun B=>decide (B.1=k)):=by
 induction r with
 |nil=>rfl
 |@cons p q G I h r F=>rw[BJ,BJ,h.1,F]
theorem KP.put(r:KP K H vs kvs)k(h:Rep K H v t):KP K H (jJ vs k v) (nZ kvs k t):=by
 delta jJ nZ
 rw[r.any k]
 have G:KP K H (vs.map fun B=>if B.1=k then (B.1,v) else B) (kvs.map fun B=>if B.1=k then (B.1,t) else B):=by
  induction r with
  |nil=>exact .nil
  |@cons p q I J h' r F =>
   refine .cons ?_ F
   by_cases e:q.1=k
   .lia
   .lia
 split
 .exact G
 .exact Paired.snoc r ⟨rfl,h⟩
def KP.merge(r:KP K H vs kvs)(m:KP K H J I):KP K H (dW vs J) (tV kvs I):=by
 induction m generalizing vs kvs with
 |nil=>exact r
 |@cons p q F G h _ B =>
  show KP K H (dW (jJ vs p.1 p.2) F) (tV (nZ kvs q.1 q.2) G);rw[h.1];exact B (r.put q.1 h.2)
end
noncomputable def Sg:Option CO->Option (List (Key×PV))
 |some (.dK kvs)=>some kvs
 |some (.fK kvs)=>some kvs
 |_=>none
def NB{K}(h:d8 K H C)(e:Sg (C a)=some kvs):∃vs,Rd H a (.dK vs)/\KP K H vs kvs:=by
 cases c:C a with
 |none=>rw[c] at e;cases e
 |some o =>
  rw[c] at e
  cases o with
  |lst xs=>cases e
  |dT l=>cases e
  |fT l=>cases e
  |dP l=>cases e
  |dA l=>cases e
  |ins c dx fs=>cases e
  |dK l=>cases e;obtain⟨vs,q,r⟩:=h a _ c;exact⟨vs,.inl q,r⟩
  |fK l=>cases e;exact bG (h a _ c) fun o vs q r=>⟨vs,.inr ⟨o,q⟩,r⟩
section
variable {X:Cx}{a b c e o i f:Expr}{es:List Expr}{pos:Pos}{value:Expr}
@[irreducible] def Hs:ul:=fun x y C Q=>match x with
 |.ref a=>match Sg (C a),aV y with
  |some kvs,some k=>match kJ kvs k with
   |some v=>Q v C
   |none=>False
  |_,_=>False
 |_=>False
def Kk{K}{a}(h:d8 K H C)(B:Sg (C a)=some kvs)(L:Rep K H y J)(F:aV J=some k):
  (∃v t,DGet H a y (some v)/\kJ kvs k=some t/\Rep K H v t)\/(DGet H a y none/\kJ kvs k=none):=by
 obtain⟨vs,q,r⟩:=(NB h B);have G:=yG L F;subst G
 rcases r.val k with ⟨v,t,h1,h2,I⟩ | ⟨h1,h2⟩
 .exact .inl ⟨v,t,.inl ⟨vs,k,q,rfl,h1.symm⟩,h2,I⟩
 .exact .inr ⟨.inl ⟨vs,k,q,rfl,h1.symm⟩,h2⟩
def lZ(Z:X.A.units+1 < cLine)(Y:CE X o O)(hi:CE X i L)(hs:X1 i):CE X (.Subscript o i pos) (ur Hs O L):=⟨JE.weak ⟨JR Z Y.h.h hi.h.h hs⟩ fun σ H Q zz=>aQ zz fun ρ C R s h q f=>
 ⟨ρ,C,_,s,h,q,fun x H1 px C1 q1 rx h1 I=>⟨ρ,C1,_,s.cT (I.cT h),h1,q1,fun y H2 ae C2 B ry h2 J=>by
  delta Hs at B
  split at B
  .next a =>
   split at B
   .next kvs k S U =>
    split at B
    .next t G =>
     have ab:=rx.cT (J.cT h1);cases ab
     rcases Kk h2 S ry U with ⟨v,t',g,F,r⟩ | ⟨_,F⟩
     .rw [G] at F
      cases F;exact⟨a,v,rfl,g,f v H2 t C2 B r h2 (I.trans J)⟩
     .rw [G] at F;cases F
    .exact B.elim
   .exact B.elim
  .exact B.elim⟩⟩⟩
noncomputable def ZX(x:PV)(C:CH):Prop:=match x with
 |.ref a=>match C a with
  |some (.dK _)=>True
  |_=>False
 |_=>False
@[irreducible] def KI:PV->PV->PV->CH->K1->Prop:=fun x y z C Q=>match x with
 |.ref a=>match Sg (C a),aV y with
  |some kvs,some k=>Q ((kJ kvs k).getD z) C
  |_,_=>False
 |_=>False
def Ua(F B G:gw):gw:=fun ρ C Q=>F ρ C fun x C1=>ZX x C1/\B ρ C1 fun y C2=>G ρ C2 fun z q=>KI x y z q Q
def J9{K}(d:ZX t C)(r:Rep K H x t)(h:d8 K H C):∃a kvs,x=.ref a/\t=.ref a/\H a=some (.dK kvs):=by
 delta ZX at d
 split at d
 .split at d
  .next e=>obtain⟨vs,q,_⟩:=(h _ _ e);cases r;exact⟨_,vs,rfl,rfl,q⟩
  .exact d.elim
 .exact d.elim
def GS{apos cpos}(hu:X.A.units+1 < cLine)(ho:CE X o Y)(ab:CE X e U)(ae:CE X f Z)(hb:attributeBase o "get" X.env (eval o X.env)=eval o X.env:=by rfl)(hl:(apos.endLine==cpos.line)=true:=by rfl)(h1:noStar e=true:=by rfl)(h2:noStar f=true:=by rfl):CE X (.Call (.Attribute o "get" apos) [e,f] [] cpos) (Ua Y U Z):=⟨JE.weak ⟨QL hu ho.h.h ab.h.h ae.h.h (Io hb hl h1 h2)⟩ fun σ H Q zz=>aQ zz fun ρ C R s h af f=>
 ⟨ρ,C,_,s,h,af,fun x H1 px C1 S rx h1 B=>by
  obtain⟨a,kvs,rfl,rfl,e1⟩:=J9 S.1 rx h1;refine⟨a,rfl,.inl ⟨kvs,.inl e1⟩,ρ,C1,_,s.cT (B.cT h),h1,S.2,fun y H2 ah C2 q2 ry h2 G=>⟨ρ,C2,_,(s.cT (B.cT h)).cT (G.cT h1),h2,q2,fun z O pz L q rz J I=>?_⟩⟩;unfold KI at q;dsimp only at q
  split at q
  .next ag k d1 d2 =>
   rcases Kk J d1 (ry.cT (I.cT h2)) d2 with ⟨v,t',g,F,r⟩ | ⟨g,F⟩
   .rw [F] at q
    exact⟨some v,g,f v O t' L q r J (B.trans (G.trans I))⟩
   .rw [F] at q
    exact⟨none,g,f z O pz L q rz J (B.trans (G.trans I))⟩
  .exact q.elim⟩⟩
@[irreducible] def XS:PV->PV->PV->CH->(CH->Prop)->Prop:=fun x y v C Q=>match x with
 |.ref a=>match C a,aV y with
  |some (.dK kvs),some k=>kvs.length < sizeLine/\Q (gQ C a (.dK (nZ kvs k v)))
  |_,_=>False
 |_=>False
def IW(G F I:gw):km:=fun E ρ C=>I ρ C fun v C1=>G ρ C1 fun x C2=>F ρ C2 fun y q=>XS x y v q fun B=>E.nx ρ B
def gV{L O}(hu:X.A.units+1 < cLine)(ho:CE X o Y)(hi:CE X i L)(hv:CE X value O)(hs:swapsWith value (some (.Subscript o i pos')) pos.line X.env=pure false:=by rfl):
  CS X (.Assign [.Subscript o i pos'] value pos) (IW Y L O):=⟨JS.weak ⟨JP hu ho.h.h hi.h.h hv.h.h hs⟩ fun D σ H zz=>aQ zz fun ρ C E s h ab f=>
 ⟨ρ,C,_,s,h,ab,fun v H1 ag C1 q1 rv h1 B=>⟨ρ,C1,_,s.cT (B.cT h),h1,q1,fun x H2 px C2 q2 rx h2 F=>⟨ρ,C2,_,(s.cT (B.cT h)).cT (F.cT h1),h2,q2,fun y J ah C3 q ry U G=>by
  have ae:=rv.cT ((F.trans G).cT h1)
  delta XS at q
  split at q
  .next a =>
   split at q
   .next kvs k S Z =>
    have af:=rx.cT (G.cT h2);cases af;refine dQ (U a _ S) fun vs I r=>?_;have ey:=yG ry Z;subst ey;have m:iz J (upd J a (.dK (jJ vs k v))):=iz.mut I rfl _;refine⟨a,_,rfl,DPut.k I ((Paired.length r)▸q.1),f.nx σ _ ρ _ q.2 ((((s.cT (B.cT h)).cT (F.cT h1)).cT (G.cT h2)).cT m) (U.put I rfl ⟨_,uQ,Paired.mapP (r.put k ae) fun _ _ z=>⟨z.1,z.2.cT m⟩⟩) (B.trans (F.trans (G.trans (Fw.put S _ _))))⟩
   .exact q.elim
  .exact q.elim⟩⟩⟩⟩
noncomputable def qW:List PV->Option (List (Key×PV))
 |[]=>some []
 |.tup [k,v]::r=>match aV k,qW r with
  |some k,some ps=>some ((k,v)::ps)
  |_,_=>none
 |_=>none
def eP{K}(r:d9 K H vs ts)(e:qW ts=some ps):∃q B,vs=List.map V.ref q/\cY H q B/\KP K H B ps:=by
 induction ts generalizing vs ps with
 |nil=>cases r;cases e;exact⟨[],[],rfl,.nil,.nil⟩
 |cons t ts I =>
  cases r with
  |@cons v _ vs _ h r =>
   cases h with
   |@tup a B xs F S =>
    rcases xs with _ | ⟨k,_ | ⟨u,_ | ⟨z,xs⟩⟩⟩
    .cases e
    .cases e
    .unfold qW at e
     split at e
     .next J ae L O =>
      cases e;obtain⟨q,ab,rfl,p1,p2⟩:=I r O;obtain⟨af,Z,rfl,U,Y⟩:=cB S;have G:=yG U L;subst G;exact⟨a::q,(J,Z)::ab,rfl,.cons F p1,.cons ⟨rfl,Y⟩ p2⟩
     .cases e
    .cases e
   |_=>cases e
@[irreducible] def fN:GC:=fun ts C Q=>match ts with
 |[.tup xs]=>match qW xs with
  |some ps=>ps.length<=sizeLine/\∀p,C p=none->Q (.ref p) (gQ C p (.dK (tV [] ps)))
  |none=>False
 |_=>False
def GZ{K}:ud K (fun xs H Q=>∃t F ps,xs=[.ref t]/\H t=some (.tup (List.map V.ref F))/\cY H F ps/\ps.length<=sizeLine/\∀d,H d=none->Q (.ref d) (upd H d (.dK (dW [] ps)))) fN:=fun xs ts H C Q R J h q f=>by
 delta fN at q
 split at q
 .split at q
  .next ps e =>
   obtain⟨v,rfl,r⟩:=aX J
   cases r with
   |@tup a vs xs G I =>
    obtain⟨F,L,rfl,p1,p2⟩:=eP I e;refine⟨a,F,L,rfl,G,p1,by rw[Paired.length p2];exact q.1,fun d B=>?_⟩;exact f _ _ _ _ (q.2 d (h.fresh B)) (.ref d) (h.lay B ⟨_,uQ,Paired.mapP (KP.merge .nil p2) fun _ _ z=>⟨z.1,z.2.cT (iz.new B _)⟩⟩) (Fw.lay B _ _)
  .exact q.elim
 .exact q.elim
def cBMD(F:PV->List PV->CH->K1->Prop)(B:gw)(q:sr):gw:=fun ρ C Q=>B ρ C fun x C1=>ZX x C1/\q ρ C1 fun xs C2=>F x xs C2 Q
def Em{K}(l:ZX t C)(r:Rep K H x t)(h:d8 K H C):tyV K "dict" x H:=by
 obtain⟨a,kvs,rfl,_,e⟩:=J9 l r h;exact .inr (.inr (.inl ⟨rfl,.inl ⟨kvs,e⟩⟩))
def Oa{id}{apos cpos}(pa:PlainAttrs "dict")(ai:Slot "dict" name id)(af:typeOf (.builtin id)=pure (.type "method_descriptor"))(ae:MtR X id r)(hr:vf X.K r L)(ho:CE X o J)(S:CA X (e::es) I)(Y:attributeBase o name X.env (eval o X.env)=eval o X.env:=by rfl)(Z:((backTo cpos (starEach (e::es) X.env)).all (fun x=>!x.1)&&(backToKw cpos (keywordEach [] X.env)).all (fun x=>x.1.isSome)
   && decide ((e::es).length+([]:List Keyword).length+(if ([]:List Keyword).isEmpty then 0 else 1) < 30))=true:=by rfl)(ab:(apos.endLine==cpos.line)=true:=by rfl)(hs:noStar e=true:=by rfl)(U:es.all noStar=true:=by rfl):
  CE X (.Call (.Attribute o name apos) (e::es) [] cpos) (cBMD L J I):=⟨JE.weak ⟨pe_bm pa ai af ae ho.h.h S.h.h Y Z ab (yZ hs) (yW U)⟩ fun σ H Q zz=>aQ zz fun ρ C R s h ag f=>
 ⟨ρ,C,_,s,h,ag,fun x H1 px C1 F G h1 q=>⟨Em F.1 G h1,ρ,C1,_,s.cT (q.cT h),h1,F.2,fun xs H2 ps C2 q2 ah h2 B=>
  hr x px xs ps H2 C2 Q R (G.cT (B.cT h1)) ah h2 q2 fun v H' t C' q' r' h' O=>f v H' t C' q' r' h' (q.trans (B.trans O))⟩⟩⟩
@[irreducible] def Kx:PV->List PV->CH->K1->Prop:=fun x ts C Q=>match x,ts with
 |.ref a,[.tup xs]=>match C a,qW xs with
  |some (.dK kvs),some ps=>kvs.length+ps.length<=sizeLine/\Q .non (gQ C a (.dK (tV kvs ps)))
  |_,_=>False
 |_,_=>False
def Fl{K}:vf K Ig Kx:=fun x Z xs ts H C Q R Y U h q f=>by
 delta Kx at q
 split at q
 .split at q
  .next kvs ps F J =>
   obtain⟨v,rfl,r⟩:=aX U
   cases r with
   |@tup t vs xs L S =>
    obtain⟨O,I,rfl,p1,p2⟩:=eP S J;obtain⟨us,B,G⟩:=(h _ _ F);cases Y;have m:=iz.mut (o:=.dK (dW us I)) B rfl;refine⟨_,t,O,I,us,rfl,rfl,B,L,p1,by rw[Paired.length p2,Paired.length G];exact q.1,?_⟩;exact f _ _ _ _ q.2 .non (h.put B rfl ⟨_,uQ,Paired.mapP (KP.merge G p2) fun _ _ z=>⟨z.1,z.2.cT m⟩⟩) (Fw.put F _ _)
  .exact q.elim
 .exact q.elim
@[irreducible] def tI(q:gw):gw:=fun ρ C Q=>q ρ C fun x C1=>match x with
 |.ref a=>match C1 a with
  |some (.dK _)=>Q (.vw a) C1
  |_=>False
 |_=>False
def GR{apos cpos}(U:CE X o J)(O:attributeBase o "items" X.env (eval o X.env)=eval o X.env:=by rfl)(S:(apos.endLine==cpos.line)=true:=by rfl):CE X (.Call (.Attribute o "items" apos) [] [] cpos) (tI J) :=
 ⟨JE.weak ⟨Zx F.plainAttrs_dict DR F.type_dict_items Yu U.h.h O S⟩ fun σ H Q Z=>aQ Z fun ρ C R s h q f=> by
 delta tI at q
 exact⟨ρ,C,_,s,h,q,fun x H1 px C1 B Y h1 L=>by
  split at B
  .split at B
   .next kvs e =>
    refine dQ (h1 _ _ e) fun vs G r=>?_;cases Y;exact⟨.inr (.inr (.inl ⟨rfl,.inl ⟨vs,G⟩⟩)),_,vs,rfl,rfl,G,fun v I=>f _ _ _ _ B (.vw uQ) (h1.new I _) (L.trans (Fw.new I _))⟩
   .exact B.elim
  .exact B.elim⟩⟩
end
end CL
namespace CL
open PySem PySem.Spec L2 PySem.W
open PyProof.Rows hiding St
noncomputable def oQ(c:Str×Int):PV:=.tup [.str c.1,.int c.2]
noncomputable def Zf:List PV->Option (List (Str×Int))
 |[]=>some []
 |.tup [.str x,.int i]::r=>(Zf r).map ((x,i) :: ·)
 |_=>none
noncomputable def Lz:List (Key×PV)->Option (List (Str×Int))
 |[]=>some []
 | (.inr x,.int i)::r=>(Lz r).map ((x,i) :: ·)
 |_=>none
noncomputable def Zg(cs:List (Str×Int)):Nat->Nat->Bool:=fun i j=>YA (cs.getD i ("",0)) (cs.getD j ("",0))
noncomputable def lG(cs:List (Str×Int)):List (Str×Int):=(vU (Zg cs) (kas_sort cs.length)).toList.map fun i=>cs.getD i ("",0)
theorem Qx:∀cs,Zf (cs.map oQ)=some cs
 |[]=>rfl
 |c::cs=>by
  show(Zf (cs.map oQ)).map _=_;rw[Qx cs];rfl
def wj(e:Zf ts=some cs):ts=cs.map oQ:=by
 induction ts generalizing cs with
 |nil=>cases e;rfl
 |cons t ts q =>
  unfold Zf at e
  split at e
  .lia
  .rename_i x i r h
   cases h
   cases z:Zf ts with
   |none=>rw[z] at e;cases e
   |some ds =>
    rw[z] at e;cases e;rw[q z];rfl
  .cases e
def Ly(e:Lz ts=some cs):ts=cs.map fun c=>(Sum.inr c.1,PV.int c.2):=by
 induction ts generalizing cs with
 |nil=>cases e;rfl
 |cons t ts q =>
  unfold Lz at e
  split at e
  .lia
  .rename_i x i r h
   cases h
   cases z:Lz ts with
   |none=>rw[z] at e;cases e
   |some ds =>
    rw[z] at e;cases e;rw[q z];rfl
  .cases e
section
variable {K:Ds}{H:Hp}{X:Cx}
def Ib{cs:List (Str×Int)}(r:d9 K H ys (cs.map oQ)):∀i,i < ys.length->Ul H (ys.getD i .non) (cs.getD i ("",0)):=by
 induction cs generalizing ys with
 |nil=>cases r;intro i hi;exact absurd hi (Ce i)
 |cons c cs q =>
  cases r with
  |@cons v _ vs _ h r =>
   intro i hi
   cases i with
   |zero =>
    cases h with
    |tup e B =>
     obtain⟨I,J,rfl,F,G⟩:=cB B;cases F;cases G
     exact⟨_,rfl,e⟩
   |succ i=>exact q r i (By hi)
def d9.getD(r:d9 K H ys ts): ∀i,i < ys.length->Rep K H (ys.getD i .non) (ts.getD i d):=by
 induction ts generalizing ys with
 |nil=>cases r;intro i hi;exact absurd hi (Ce i)
 |cons c cs q =>
  cases r with
  |@cons v _ vs _ h r =>
   intro i hi
   cases i with
   |zero=>exact h
   |succ i=>exact q r i (By hi)
def JV{cs:List (Str×Int)}q(r:d9 K H ys (cs.map oQ)):d9 K H (zF q ys) (((vU q (kas_sort cs.length)).toList.map fun i=>cs.getD i ("",0)).map oQ):=by
 have F:ys.length=cs.length:=by rw[r.len,AB]
 delta zF
 rw[F]
 have B:∀i∈(vU q (kas_sort cs.length)).toList,i < ys.length:=by
  intro i hi
  by_cases h:0 < cs.length
  .have:=(uG q cs.length h).mem_iff.mp hi
   exact F▸BL.mp this
  .have e:cs.length=0:=by lia
   rw[e,xg] at hi;cases hi
 generalize (vU q (kas_sort cs.length)).toList=l at B ⊢
 induction l with
 |nil=>exact .nil
 |cons i l G =>
  refine .cons ?_ (G fun j hj=>B j (AJ _ hj));have h1:=r.getD (d:=oQ ("",0)) i (B i AG);have h2:(cs.map oQ).getD i (oQ ("",0))=oQ (cs.getD i ("",0)) :=by grind<;> rfl
  rwa [h2] at h1
@[irreducible] def yM:GC:=fun ts C Q=>match ts with
 |[.ref a]=>match C a with
  |some (.lst xs)=>match Zf xs with
   |some cs=>cs.length < 64/\∀p,C p=none->Q (.ref p) (gQ C p (.lst ((lG cs).map oQ)))
   |none=>False
  |_=>False
 |[.vw a]=>match C a with
  |some (.dK kvs)=>match Lz kvs with
   |some cs=>cs.length < 64/\∀p,C p=none->Q (.ref p) (gQ C p (.lst ((lG cs).map oQ)))
   |none=>False
  |_=>False
 |_=>False
abbrev JH(X:Cx):List V->Hp->VK->Prop:=fun xs H Q=>(∃l ys lt,xs=[.ref l]/\SqL X.K H l ys/\ys.length < 64/\HF X H ys lt/\∀p,H p=none->Q (.ref p) (upd H p (.lst (zF lt ys)))) \/
 (∃v d kvs lt,xs=[.ref v]/\H v=some (.ext (yY v d))/\H d=some (.dK kvs)/\kvs.length < 64 /\
  ∀as H1,Same H H1->cY H1 as kvs->(∀a∈as,H a=none)->(∀a,H a=none->H1 a≠none->a∈as)->HF X H1 (List.map V.ref as) lt/\∀p,H1 p=none->Q (.ref p) (upd H1 p (.lst (zF lt (List.map V.ref as)))))
def eD(q:X.calm=true):CallR X (.builtin "sorted") (JH X):=CallR.or XM (dI q)
def nR:ud X.K (JH X) yM:=fun xs ts H C Q R O h q f=>by
 delta yM at q
 split at q
 .obtain ⟨v,rfl,r⟩:=aX O
  split at q
  .next xs e =>
   split at q
   .next cs G =>
    have ex:=wj G;subst ex;obtain⟨vs,I,F⟩:=h _ _ e;cases r;have J:vs.length=cs.length:=by rw[F.len,AB]
    refine .inl ⟨_,vs,Zg cs,rfl,SqL.of I,by rw[J];exact q.1,WA _ (Ib F),fun p B=>?_⟩;exact f _ _ _ _ (q.2 p (h.fresh B)) (.ref p) (h.lay B ⟨_,uQ,(JV (Zg cs) F).cT (iz.new B _)⟩) (Fw.lay B _ _)
   .exact q.elim
  .exact q.elim
 .obtain ⟨v,rfl,r⟩:=aX O
  split at q
  .next kvs e =>
   split at q
   .next cs G =>
    have ex:=Ly G;subst ex;obtain⟨vs,I,F⟩:=h _ _ e
    cases r with
    |vw hv =>
     have J:vs.length=cs.length:=by rw[Paired.length F,AB]
     refine .inr ⟨_,_,vs,Zg cs,rfl,hv,I,by rw[J];exact q.1,fun as H1 S L Z ab=>?_⟩
     have rr:d9 X.K H1 (List.map V.ref as) (cs.map oQ):=by
      clear J Z ab q e I G
      induction cs generalizing vs as with
      |nil=>cases F;cases L;exact .nil
      |cons c cs ih =>
       cases F with
       |@cons p q l1 l2 h' F =>
        cases L with
        |@cons a _ l _ U L =>
         obtain⟨k,v'⟩:=p;obtain⟨rfl,Y⟩:=h';cases Y;exact .cons (.tup U (.cons (.str _) (.cons (.int _) .nil))) (ih (vs:=l1) F l L)
     refine⟨WA _ (Ib rr),fun p B=>?_⟩;have h1:=aL h S;exact f _ _ _ _ (q.2 p (h1.fresh B)) (.ref p) (h1.lay B ⟨_,uQ,(JV (Zg cs) rr).cT (iz.new B _)⟩) ((iA S).trans (Fw.lay B _ _))
   .exact q.elim
  .exact q.elim
 .exact q.elim
end
section
variable {X:Cx}{pos:Pos}
end
section
variable {X:Cx}{a b c e o i f:Expr}{es:List Expr}{pos:Pos}{value:Expr}
abbrev relO:Hp->Option Int->Option Int->Prop:=fun _ a b=>a=b
abbrev TCO:=jm->CH->(Option Int->CH->Prop)->Prop
structure O7(X:Cx)(e:Option Expr)(c:TCO):Prop where
 h:JO X e (xJ X.K relO c)
def JO.weak{e}(h:JO X e t)(w:∀σ H Q,t' σ H Q->t σ H Q):JO X e t':=⟨fun pins s σ H Q I q=>h.h pins s σ H Q I (w σ H Q q)⟩
def Hm:TCO:=fun _ C Q=>Q none C
def Sy(q:gw):TCO:=fun ρ C Q=>q ρ C fun t C1=>match t with
 |.int i=>Q (some i) C1
 |_=>False
def mV:O7 X none Hm:=⟨JO.weak ⟨po_none⟩ fun σ H Q B=>aQ B fun ρ C R s h q f=> f none H none C q rfl h Fw.refl⟩
def bV(h:CE X e F):O7 X (some e) (Sy F):=⟨JO.weak ⟨po_some h.h.h⟩ fun σ H Q J=>aQ J fun ρ C R s h q f=> ⟨ρ,C,_,s,h,q,fun x H1 L C1 B I h1 G=>by
 split at B
 .cases I;exact⟨_,rfl,f _ H1 _ C1 B rfl h1 G⟩
 .exact B.elim⟩⟩
noncomputable def aG(xs:List PV)(lo hi:Option Int):List PV:=(xs.drop (HT.sIx xs.length 0 lo)).take (HT.sIx xs.length xs.length hi - HT.sIx xs.length 0 lo)
def d9.cut{K}(r:d9 K H vs ts)lo hi:d9 K H (VJ vs lo hi) (aG ts lo hi):=by
 delta VJ aG
 exact r.len▸(r.drop _).take _
@[irreducible] def Hi:PV->Option Int->Option Int->CH->K1->Prop:=fun x lo hi C Q=>match x with
 |.ref a=>match C a with
  |some (.lst xs)=>∀p,C p=none->Q (.ref p) (gQ C p (.lst (aG xs lo hi)))
  |_=>False
 |_=>False
def cSl(G:PV->Option Int->Option Int->CH->K1->Prop)(B:gw)(F ch:TCO):gw:=fun ρ C Q=>B ρ C fun x C1=>F ρ C1 fun l C2=>ch ρ C2 fun u q=>G x l u q Q
def gI{lo}(Z:CE X e L)(hl:O7 X lo O)(hu:O7 X hi ch):CE X (.Subscript e (.Slice lo hi none p2) pos) (cSl Hi L O ch):=⟨JE.weak ⟨QK sl_list Z.h.h hl.h.h hu.h.h⟩ fun σ H Q zz=>aQ zz fun ρ C R s h ab f=>
 ⟨ρ,C,_,s,h,ab,fun x H1 px C1 q1 rx h1 F=>⟨ρ,C1,_,s.cT (F.cT h),h1,q1,fun l H2 l' C2 q2 S h2 G=>⟨ρ,C2,_,(s.cT (F.cT h)).cT (G.cT h1),h2,q2,fun u H3 u' C3 q U I J=>by
  cases S;cases U
  delta Hi at q
  split at q
  .split at q
   .next xs e =>
    refine dQ (I _ _ e) fun vs Y r=>?_;have ae:=rx.cT ((G.trans J).cT h1);cases ae;exact⟨_,vs,rfl,SqL.of Y,fun p B=>f _ _ _ _ (q p (I.fresh B)) (.ref p) (I.lay B ⟨_,uQ,(r.cut l u).cT (iz.new B _)⟩) (F.trans (G.trans (J.trans (Fw.lay B _ _))))⟩
   .exact q.elim
  .exact q.elim⟩⟩⟩⟩
def Fb{i:Nat}{y x:Str}{Z J pos ab:Pos}{L I:Expr}{O:List Expr}{scope:Scope}{wi:TI}{S:jm->CH->(List PV->CH->Prop)->Prop}{t:nq}{c:gw}(ae:X.N.Nodup)(hi:X.N[i]?=some y)(hy:Loc X.env.scope y)(hc:X.calm=true)(hN:(x::X.N).Nodup)(K:∃q,dF X x scope q)(Y:CI X (.Name x J) I wi S)(ht:∀q F C G B,CF (lK X x scope q F C G B) O t)(af:∀q F C G B,CE (lK X x scope q F C G B) L c)(hs:∀v,foldedSetIterable I X.env v=pure v:=by intro _;rfl)(ah:swapsWith (.ListComp L [⟨.Name x J,I,O,0⟩] scope pos) (some (.Name y Z)) ab.line X.env=pure true:=by rfl)(ag:X.fn y=true\/X.env.scope.names.lookup y=some .local:=by first | exact .inl rfl | exact .inr rfl | assumption):
  CS X (.Assign [.Name y Z] (.ListComp L [⟨.Name x J,I,O,0⟩] scope pos) ab) (Jh i (Ub S t c)):=by
 obtain⟨q,K⟩:=K;refine⟨JS.weak (Ea (te:=xJ X.K (Rep X.K) c) (tc:=xJ X.K gL t) ae hi hy hc hN K Y.j (fun F C G B=>(ht q F C G B).h) (fun F C G B=>(af q F C G B).h) hs ah ag) fun D σ H zz=>aQ zz fun ρ C E s h ai f=> ?_⟩;exact bO (Q:=fun x H'=>D.nx (σ.set i (some x)) H') Y ⟨ρ,C,_,s,h,ai,fun x H1 J C1 q1 rx h1 U=>f.nx _ H1 _ C1 q1 ((s.cT (U.cT h)).set rx i) h1 U⟩
def rC k(σ:St):Qj k (σ.set k none):=fun v e=>by
 rw[List.getElem?_set_self'] at e
 cases hk:σ[k]? with
 |none=>rw[hk] at e;cases e
 |some x=>rw[hk] at e;cases e
def gq.unset{K}(s:gq K H σ ρ)k:gq K H (σ.set k none) (ρ.set k none):=by
 induction s generalizing k with
 |nil=>exact .nil
 |cons h' r q =>
  cases k with
  |zero=>exact .cons trivial r
  |succ k=>exact .cons h' (q k)
def mB(S:CH->Prop)(t:nq)(c:gw)(ρ:jm)(Q:K1):List PV->List PV->CH->Prop
 |[],acc,C=>S C/\∀p,C p=none->Q (.ref p) (gQ C p (.lst acc))
 |x::r,acc,C=>S C/\t (some x::ρ) C fun b C1=>if b=true then c (some x::ρ) C1 fun y C2=>acc.length < sizeLine/\mB S t c ρ Q r (acc++[y]) C2 else mB S t c ρ Q r acc C1
structure ItS(K:Ds)(S:CH->Prop)(J:It)(ps:List PV):Prop where
 go:∀i H' C',i < ps.length->d8 K H' C'->S C'->J.go i H'
 yl:∀i H' C' x H'',d8 K H' C'->S C'->J.yld i H' x H''->H''=H'/\∀t,ps[i]?=some t->Rep K H' x t
 st:∀H' C',d8 K H' C'->S C'->J.stop ps.length H'
def N5{K}{c}{Q:VK}(j:ItS K S J ps)(s:gq K H σ ρ)(h:d8 K H C)(ag:mB S t c ρ R ps [] C)(h0:d8 K H0 C0)(f0:Fw H0 C0 H C)(f:∀v H' p C',R p C'->Rep K H' v p->d8 K H' C'->Fw H0 C0 H' C'->Q v H')(F:H D=none):
  ∃W:Nat->Nat->List V->Hp->Prop,(∃m,W 0 m [] (upd H D (.lst [])))/\∀i m ys H,W i m ys H ->
   (J.stop i H/\Q (.ref D) H)\/(J.go i H/\∀x H',J.yld i H x H'->xJ K gL t (some x::σ) H' fun b H2=>
    if b=true then xJ K (Rep K) c (some x::σ) H2 fun y H3=>H3 D=some (.lst ys)/\ys.length < sizeLine/\∃I,I < m/\W (i+1) I (ys++[y]) (upd H3 D (.lst (ys++[y])))
    else ∃I,I < m/\W (i+1) I ys H2):=by
 refine⟨fun i m ys H'=>m=ps.length - i/\i<=ps.length/\∃acc C',H' D=some (.lst ys)/\C' D=none/\d9 K H' ys acc/\d8 K H' C'/\Fw H C H' C'/\mB S t c ρ R (ps.drop i) acc C',
  ⟨ps.length,rfl,AW _,[],C,uQ,h.fresh F,.nil,h.new F _,Fw.new F _,ag⟩,?_⟩
 rintro i m ys H1 ⟨rfl,hi,acc,C1,e1,n1,r1,h1,L,B⟩;have k1:=L.cT h
 have q0:S C1:=by
  cases z:ps.drop i with
  |nil=>rw[z] at B;exact B.1
  |cons x r=>rw[z] at B;exact B.1
 by_cases G:i < ps.length
 .refine .inr ⟨j.go i H1 C1 G h1 q0,fun x H2 y=>?_⟩
  obtain⟨rfl,y⟩:=j.yl i H1 C1 x H2 h1 q0 y;have rx:=y _ (AM G);rw[Ap G] at B
  replace B:=B.2
  refine⟨some ps[i]::ρ,C1,_,.cons rx (s.cT k1),h1,B,fun b H3 b' C3 q3 e h3 O=>?_⟩;cases e;obtain⟨Y,e3⟩:=O D (by rw[n1];rfl) (by lia);rw[e1] at e3;rw[n1] at Y;have U:=O.cT h1
  cases b with
  |true =>
   refine⟨some ps[i]::ρ,C3,_,.cons (rx.cT U) ((s.cT k1).cT U),h3,q3,fun v H4 p C4 q4 r4 h4 ab=>uF (ab D (by rw[Y];rfl) (by lia)) fun n4 e4=>?_⟩;rw[e3] at e4;rw[Y] at n4;have m4:iz H4 (upd H4 D (.lst (ys++[v]))):=iz.mut e4 rfl _;refine⟨e4,by rw[r1.len];exact q4.1,ps.length - (i+1),by lia,rfl,G,acc++[p],C4,uQ,n4,?_,?_,?_,q4.2⟩
   .exact (((r1.cT U).cT (ab.cT h3)).append (.cons r4 .nil)).cT m4
   .intro a o q
    have ae:a≠D:=fun z=>by subst z;rw[n4] at q;cases q
    exact(h4 a o q).cT m4 (pQ ae)
   .intro a q Z
    have ae:a≠D:=fun z=>Z (z▸F);exact uF ((L.trans (O.trans ab)) a q Z) fun x1 x2=>⟨x1,(pQ ae).trans x2⟩
  |false =>
   exact⟨ps.length - (i+1),by lia,rfl,G,acc,C3,e3,Y,r1.cT U,h3,L.trans O,q3⟩
 .have e:i=ps.length:=by lia
  subst e;rw[Bq] at B
  replace B:=B.2
  refine .inl ⟨j.st H1 C1 h1 q0,f (.ref D) H1 (.ref D) _ (B D n1) (.ref D) ?_ ?_⟩
  .intro a o q
   by_cases z:a=D
   .subst z;rw[jQ] at q;cases q;exact⟨ys,e1,r1⟩
   .rw [wQ z] at q;exact h1 a o q
  .intro a q Z
   obtain⟨x1,x2⟩:=f0 a q Z;have af:H a≠none:=by rwa [x2]
   obtain⟨y1,y2⟩:=L a (by rwa [x1]) af;exact⟨(wQ (show a≠D from fun z=>af (z▸F))).trans (y1.trans x1),y2.trans x2⟩
def YN{K}{a}: ItS K (fun C=>C a=some (.lst xs)) (Itl K a) xs where
 go:=fun i H' C' l h s=>by
  refine dQ (h a _ s) fun vs e r=>dQ (r.get (AM l)) fun v q _=>?_;exact⟨vs,v,SqL.of e,q⟩
 yl:=fun i H' C' x G h s y=>⟨y.1,fun t B=>by
  refine dQ (h a _ s) fun vs e r=>dQ (r.get B) fun v q F=>?_;have:=y.2 vs (SqL.of e)
  rw[q] at this;cases this;exact F⟩
 st:=fun H' C' h s=>dQ (h a _ s) fun vs e r=>⟨vs,SqL.of e,by exact r.len▸AI _⟩
@[irreducible] def mP(q:gw)(t:nq)(c:gw):gw:=fun ρ C Q=>q ρ C fun x C1=>match x with
 |.ref a=>match C1 a with
  |some (.lst xs)=>mB (fun C=>C a=some (.lst xs)) t c ρ Q xs [] C1
  |_=>False
 |_=>False
def uB{S L:Expr}{x:Str}{Z:Pos}{Y:List Expr}{scope:Scope}{O:gw}{t:nq}{c:gw}(hc:X.calm=true)(hN:(x::X.N).Nodup)(K:∃B,dF X x scope B)(hi:CE X L O)(ht:∀B G C I F,CF (lK X x scope B G C I F) Y t)(ae:∀B G C I F,CE (lK X x scope B G C I F) S c)(hs:∀v,foldedSetIterable L X.env v=pure v:=by intro _;rfl):CE X (.ListComp S [⟨.Name x Z,L,Y,0⟩] scope pos) (mP O t c) :=
 ⟨JE.weak (Xc (te:=xJ X.K (Rep X.K) c) (tc:=xJ X.K gL t) hc hN K ⟨jA hi.h.h⟩ (fun B G C I F=>(ht B G C I F).h) (fun B G C I F=>(ae B G C I F).h) hs) fun σ H Q zz=>aQ zz fun ρ C R s h q f=> by
  unfold mP at q
  exact⟨ρ,C,_,s,h,q,fun xv H1 Z C1 J rx h1 U=>by
   split at J
   .next a =>
    split at J
    .next xs e =>
     obtain⟨vs,ab,r⟩:=h1 a _ e;cases rx;exact⟨a,rfl,⟨vs,SqL.of ab⟩,fun D hD=>N5 (Q:=Q) YN (s.cT (U.cT h)) h1 J h U f hD⟩
    .exact J.elim
   .exact J.elim⟩⟩
end
section
variable {C:CH}{a p:Addr}{xs ys:List PV}{i:Int}{v:PV}{Q:K1}
def hZ(h:C a=some (.lst xs))(e:atI xs i=some v)(q:Q v C):ut (.ref a) (.int i) C Q:=by
 delta ut
 show(match C a with | some (.lst xs)=>uv xs i C Q | _=>False);rw[h];show uv xs i C Q
 delta uv
 rwa [e]
def Rp(e:atI xs i=some v)(q:Q v C):ut (.fz xs) (.int i) C Q:=by
 delta ut
 show uv xs i C Q
 delta uv
 rwa [e]
def tX(e:atI xs i=some v)(q:Q v C):ut (.tup xs) (.int i) C Q:=by
 delta ut
 show uv xs i C Q
 delta uv
 rwa [e]
def wu{Q}(h:C p=some (.lst xs))(e:ixN xs.length k=some j)(q:Q (gQ C p (.lst (xs.set j v)))):Kz (.ref p) (.int k) v C Q:=by
 delta Kz
 dsimp only;rw[h];dsimp only
 rwa [e]
def vG(h:C a=some (.lst xs))(q:Q (.int xs.length) C):zT [.ref a] C Q:=by
 delta zT
 show(match C a with | some (.lst xs)=>Q (.int xs.length) C | some (.dK kvs)=>Q (.int kvs.length) C | _=>False)
 rwa [h]
def YD(q:Q (.int xs.length) C):zT [.fz xs] C Q:=by
 delta zT
 exact q
def Q8(q:Q (.int xs.length) C):zT [.tup xs] C Q:=by
 delta zT
 exact q
def gH(h:C a=some (.lst xs))(z:xs.length < sizeLine)(q:Q .non (gQ C a (.lst (xs++[v])))):qU (.ref a) [v] C Q :=by simp_all[qU]
def lW(h:C a=some (.lst xs)):Ru (.ref a) C:=by
 show(match C a with | some (.lst _)=>True | _=>False);rw[h]
 trivial
end
def jw(q:Q (g i j) C):cI g (.int i) (.int j) C Q:=by
 delta cI
 exact q
def aW(q:Q (.int (i+j)) C):iI (.int i) (.int j) C Q:=by
 delta iI
 exact q
def dY(h:xs.length+ys.length<=sizeLine)(q:Q (.tup (xs++ys)) C):iI (.tup xs) (.tup ys) C Q:=by
 delta iI
 exact⟨h,q⟩
def VB{q:Prop}(h1:b=true->p)(h2:b=false->q):if b=true then p else q :=by grind
def Eo{q:Prop}(e:b=true)(h:p):if b=true then p else q:=by rwa [Ah e]
def uD{q:Prop}(e:b=false)(h:q):if b=true then p else q :=by grind
def pW{p q:CH->Prop}(e:b=true)(h:p C):gA (fun b C1=>if b=true then p C1 else q C1) (.bl b) C:=by cases e;exact h
def yJ{p q:CH->Prop}(e:b=false)(h:q C):gA (fun b C1=>if b=true then p C1 else q C1) (.bl b) C:=by cases e;exact h
def bZ{p q:CH->Prop}(h1:b=true->p C)(h2:b=false->q C):gA (fun b C1=>if b=true then p C1 else q C1) (.bl b) C:=by
 cases b with
 |true=>exact h1 rfl
 |false=>exact h2 rfl
def onot{p q:CH->Prop}(h:q C):gA (fun b C1=>if (!b)=true then p C1 else q C1) (.bl true) C :=h
def mX(e:sEq x y=some b)(q:Q (.bl (k b)) C):O1 k x y C Q :=by simp_all[O1]
def cQ x y:sEq (.str x) (.str y)=some (decide (x=y)):=rfl
def eX x y:sEq (.int x) (.int y)=some (decide (x=y)):=rfl
def kM(h:t (some x::ρ) C fun b C1=>if b=true then c (some x::ρ) C1 fun y C2=>acc.length < sizeLine/\fJ t c ρ Q r (acc++[y]) C2 else fJ t c ρ Q r acc C1):fJ t c ρ Q (x::r) acc C:=h
def nD(h:∀p,C p=none->Q (.ref p) (gQ C p (.lst acc))):fJ t c ρ Q [] acc C:=h
def Xg(B:oF n=some T)(F:tyP C x=some k)(q:Q (.bl (fH k T)) C):Hq [x,.ty n] C Q:=by
 delta Hq
 show(match oF n,tyP C x with | some T,some k=>Q (.bl (fH k T)) C | _,_=>False)
 rwa [B,F]
def XZ(h1:C a=some (.lst xs))(h2:C b=some (.lst ys))(z:xs.length+ys.length<=sizeLine)(q:∀p,C p=none->Q (.ref p) (gQ C p (.lst (xs++ys)))):iI (.ref a) (.ref b) C Q:=by
 delta iI
 show(match C a,C b with | some (.lst xs),some (.lst ys)=>xs.length+ys.length<=sizeLine/\∀p,C p=none->Q (.ref p) (gQ C p (.lst (xs++ys))) | _,_=>False);exact h1▸h2▸⟨z,q⟩
def vJ(m:C p=some (.lst xs))(q:Q (.tup xs) C):bP [.ref p] C Q:=by
 delta bP
 show(match C p with | some (.lst xs)=>Q (.tup xs) C | _=>False)
 rwa [m]
def Gr(C C':CH):Prop:=∀b o,C b=some o->C' b=some o
def Gr.refl: Gr C C:=fun _ _ h=>h
theorem Gr.trans(h:Gr C C1)(h':Gr C1 C2):Gr C C2:=fun b o e=>h' b o (h b o e)
def Gr.new(q:C p=none)o:Gr C (gQ C p o):=fun b u e=>by
 rw[wQ (fun z=>by subst z;rw[q] at e;cases e)];exact e
def dX(h:E.nx ρ C):G7 E ρ C:=h
def yQ(h:q ρ C fun v C1=>u E (ρ.set i (some v)) C1):VY (Jh i q) u E ρ C:=h
def jZ(h:t (E.wn (u E)) ρ C):VY t u E ρ C:=h
def Uw(h:Q v C):cC v ρ C Q:=h
def vX(P:jm->CH->Prop)(h1:∀K:jm->CH->Prop,(∀q C',P q C'->K q C')->t (E.wn K) ρ C)(h2:∀q C',P q C'->u E q C'):VY t u E ρ C:=h1 _ h2
section
variable {X:Cx}{o e value i f:Expr}{es:List Expr}{pos pos':Pos}
noncomputable def QI(f:Str)(v:PV):List (Str×PV)->List (Str×PV)
 |[]=>[(f,v)]
 | (g,x)::r=>if g=f then (g,v)::r else (g,x)::QI f v r
theorem FP.put{K}{f}(h:Rep K H v t):∀{B}{fs},FP K H B fs->FP K H (xU f v B) (QI f t fs):=by
 intro B fs r
 induction r with
 |nil=>exact .cons ⟨rfl,h⟩ .nil
 |@cons p q G I h' r F =>
  obtain⟨g,x⟩:=p;obtain⟨g',y⟩:=q;obtain⟨rfl,h2⟩:=h';unfold xU QI
  by_cases e:g=f
  .rw [Ah e,Ah e];exact .cons ⟨rfl,h⟩ r
  .rw [Af e,Af e];exact .cons ⟨rfl,h2⟩ F
def FP.look{K}{f}:∀{B}{fs:List (Str×PV)},FP K H B fs->(∃v t,B.lookup f=some v/\fs.lookup f=some t/\Rep K H v t)\/(B.lookup f=none/\fs.lookup f=none):=by
 intro B fs r
 induction r with
 |nil=>exact .inr ⟨rfl,rfl⟩
 |@cons p q G I h' r F =>
  obtain⟨g,x⟩:=p;obtain⟨g',y⟩:=q;obtain⟨rfl,h2⟩:=h';unfold List.lookup
  cases e:(f==g) with
  |true=>exact .inl ⟨x,y,rfl,rfl,h2⟩
  |false=>exact F
@[irreducible] def Jj(c:Addr)(f:Str):PV->CH->K1->Prop:=fun x C Q=>match x with
 |.ref p=>match C p with
  |some (.ins q _ fs)=>q=c/\match fs.lookup f with
   |some v=>Q v C
   |none=>False
  |_=>False
 |_=>False
def fF{f}(hc:Cls X.K c)(hn:NoAttr X.K c f)(ho:CE X o J)(Z:attributeBase o f X.env (eval o X.env)=eval o X.env:=by rfl):CE X (.Attribute o f pos) (fun ρ C Q=>J ρ C fun x C1=>Jj c f x C1 Q) :=
 ⟨JE.weak ⟨pe_fld ho.h.h Z⟩ fun σ H Q zz=>aQ zz fun ρ C R s h ab S=> ⟨ρ,C,_,s,h,ab,fun x H1 px C1 q rx h1 U=>by
  delta Jj at q
  split at q
  .next p =>
   split at q
   .next I dx fs L =>
    obtain⟨rfl,q⟩:=q
    split at q
    .next t F =>
     refine dQ (h1 p _ L) fun Y O r=>?_;cases rx
     rcases FP.look r with ⟨v,t',G,B,rv⟩ | ⟨G,B⟩
     .rw [F] at B
      cases B;exact⟨p,I,dx,Y,v,rfl,O,hc,hn,G,S v H1 t C1 q rv h1 U⟩
     .rw [F] at B;cases B
    .exact q.elim
   .exact q.elim
  .exact q.elim⟩⟩
@[irreducible] def KF(c:Addr)(f:Str):PV->PV->CH->(CH->Prop)->Prop:=fun x v C Q=>match x with
 |.ref p=>match C p with
  |some (.ins q dx fs)=>q=c/\fs.length < 1000/\Q (gQ C p (.ins q dx (QI f v fs)))
  |_=>False
 |_=>False
def Z8{f}{J}(Z:Cls X.K c)(hn:NoAttr X.K c f)(ho:CE X o U)(hv:CE X value J)(hs:swapsWith value (some (.Attribute o f pos')) pos.line X.env=pure false:=by rfl):
  CS X (.Assign [.Attribute o f pos'] value pos) (fun E ρ C=>J ρ C fun v C1=>U ρ C1 fun x C2=>KF c f x v C2 fun S=>E.nx ρ S):=⟨JS.weak ⟨ps_fld ho.h.h hv.h.h hs⟩ fun D σ H zz=>aQ zz fun ρ C E s h ab Y=>
 ⟨ρ,C,_,s,h,ab,fun v H1 af C1 q1 rv h1 F=>⟨ρ,C1,_,s.cT (F.cT h),h1,q1,fun x H2 px C2 q rx h2 G=>by
  have ae:=rv.cT (G.cT h1)
  delta KF at q
  split at q
  .next p =>
   split at q
   .next I dx fs L =>
    obtain⟨rfl,ql,q⟩:=q;refine dQ (h2 p _ L) fun O B r=>?_;cases rx;have m:iz H2 (upd H2 p (.ins I dx (xU f v O))):=iz.mut B rfl _;exact⟨p,I,dx,O,rfl,B,Z,hn,by exact(Paired.length r)▸ql,Y.nx σ _ ρ _ q (((s.cT (F.cT h)).cT (G.cT h1)).cT m) (h2.put B rfl ⟨_,uQ,Paired.mapP (FP.put ae r) fun _ _ z=>⟨z.1,z.2.cT m⟩⟩) (F.trans (G.trans (Fw.put L _ _)))⟩
   .exact q.elim
  .exact q.elim⟩⟩⟩
def lO(c:Addr)(m:Str)(x:PV)(C:CH):Prop:=match x with
 |.ref p=>match C p with
  |some (.ins q _ fs)=>q=c/\fs.lookup m=none
  |_=>False
 |_=>False
def Xi{K}(d:lO c m t C)(r:Rep K H x t)(h:d8 K H C):∃a dx q,x=.ref a/\t=.ref a/\H a=some (.ins c dx q)/\q.lookup m=none:=by
 delta lO at d
 split at d
 .split at d
  .next e =>
   obtain⟨rfl,d⟩:=d;obtain⟨q,G,I⟩:=(h _ _ e);cases r;refine⟨_,_,q,rfl,rfl,G,?_⟩
   rcases FP.look I with ⟨v,t',B,F,_⟩ | ⟨B,F⟩
   .rw [F] at d;cases d
   .exact B
  .exact d.elim
 .exact d.elim
def IV(c:Addr)(m:Str)(G:GC)(B:gw)(q:sr):gw:=fun ρ C Q=>B ρ C fun x C1=>lO c m x C1/\q ρ C1 fun xs C2=>G (x::xs) C2 Q
def Fx{apos}{pl}(hc:Cls X.K c)(ab:Uo X.K c m Y)(F:FnOk X.prog X.w X.K X.mg X.base CX k Y fd ps (qt X.K G))(hr:Room k X.A)(hb:Binds X.K fd ps [])(hx:jK CX X E)(ho:CE X o L)(ha:CA X (e::es) J)(af:starEach (e::es) X.env=(false,eval e X.env)::starEach es X.env:=by rfl)(ae:(backTo pos (starEach es X.env)).any (·.1)=false:=by rfl)(ht:eval (.Call (.Attribute o m apos) (e::es) [] pos) X.env=(do
   let B <- eval o X.env
   standAt apos.atName
   let (f,first) <- holding [B] (getMethod B m pl)
   callWith pos f first (backTo pos (starEach (e::es) X.env)) (backToKw pos (keywordEach [] X.env))):=by rfl):
  CE X (.Call (.Attribute o m apos) (e::es) [] pos) (IV c m G L J) :=
 ⟨JE.weak ⟨pe_meth ho.h.h hc ab F hr hb .nil hx ha.h.h af ae ht⟩ fun σ H Q zz=>aQ zz fun ρ C R s h ag f=> ⟨ρ,C,_,s,h,ag,fun x H1 px C1 I rx h1 q=>by
  obtain⟨a,dx,Z,rfl,rfl,O,lk⟩:=Xi I.1 rx h1
  exact⟨a,dx,Z,rfl,O,lk,ρ,C1,_,s.cT (q.cT h),h1,I.2,fun xs H2 ts C2 q2 ah h2 U=>⟨.ref a::ts,C2,R,.cons (.ref a) (by grind),h2,q2,fun v H' t C' q' r' h' S=>f v H' t C' q' r' h' (q.trans (U.trans S))⟩⟩⟩⟩
def SQ(c:Addr)(G:GC)(q:sr):gw:=fun ρ C Q=>q ρ C fun xs C1=>∀x dx,C1 x=none->C1 dx=none->dx≠x->G (.ref x::xs) (gQ C1 x (.ins c dx [])) fun v C2=>v=.non/\Q (.ref x) C2
def Kv{p}(M:Mk X.K c S)(F:FnOk X.prog X.w X.K X.mg X.base CX k S fd ps (qt X.K G))(hr:Room (k+1) X.A)(hg:Gl X x)(ab:X.mg x=some (.ref c))(Y:Binds X.K fd ps [])(hx:jK CX X E)(U:CA X (e::es) J)(Z:(x==("__debug__" : Str))=false:=by decide)(af:starEach (e::es) X.env=(false,eval e X.env)::starEach es X.env:=by rfl)(ae:(backTo pos (starEach es X.env)).any (·.1)=false:=by rfl):CE X (.Call (.Name x p) (e::es) [] pos) (SQ c G J) :=
 ⟨JE.weak ⟨pe_make M F hr hg ab Y .nil hx U.h.h Z af ae⟩ fun σ H Q zz=>aQ zz fun ρ C R s h ag f=> ⟨ρ,C,_,s,h,ag,fun xs H1 ts C1 q1 ah h1 O=>fun y dx hy q nd=>by
  have B:upd H1 dx (.own y) y=none:=by rwa [pQ (Ne.symm nd)]
  have k2:iz (upd H1 dx (.own y)) (upd (upd H1 dx (.own y)) y (.ins c dx [])):=iz.new B _;refine⟨.ref y::ts,gQ C1 y (.ins c dx []),_,.cons (.ref y) (by rw[Ae];exact(ah.cT (iz.new q _)).cT k2),(h1.new q (.own y)).lay B ⟨[],uQ,.nil⟩,q1 y dx (h1.fresh hy) (h1.fresh q) nd,fun v H' t C' I r' h' L=>?_⟩;obtain⟨rfl,I⟩:=I;cases r'
  exact⟨rfl,f _ H' _ C' I (.ref y) h' (O.trans (((Fw.new q _).trans (Fw.lay B _ _)).trans L))⟩⟩⟩
end
end CL
namespace L2
open PySem PySem.Spec PyProof.Rows PySem.W
section
variable {X:Cx}
def Jg:CallR X (.type "dict") (fun xs H Q=>∃a kvs,xs=[.ref a]/\H a=some (.dK kvs)/\∀p,H p=none->Q (.ref p) (upd H p (.dK kvs))):=by
 intro pins s σ H xs us Q I r h;obtain⟨a,kvs,rfl,G,q⟩:=h;obtain⟨u,rfl,rfl⟩:=r.one;obtain⟨z,J,vs,B,F⟩:=qE I.hok G;refine kt_call_dict J F (by rwa [<- B.length]) fun h' L hs=>?_;refine⟨.ref s.heap.objs.size,_,I.laid (t':=s.toks) (fun b o e=>hs.extBut b o (AV (AH e)) (AC _ e)) (AI _) ?_,rfl,q _ (I.hok.fresh (AI _))⟩;exact⟨z,DB (Ay I.big),vs,B,L⟩
end
end L2
namespace CL
open PySem PySem.Spec L2 PySem.W
open PyProof.Rows hiding St
noncomputable def kF:List PV->Option (List Key)
 |[]=>some []
 |t::r=>match aV t,kF r with
  |some k,some q=>some (k::q)
  |_,_=>none
noncomputable def eM:PV->Option (List Key)
 |.tup ts=>kF ts
 |_=>none
def ZT{K}(r:d9 K H vs ts)(e:kF ts=some q):vs=q.map kV:=by
 induction ts generalizing vs q with
 |nil=>cases r;cases e;rfl
 |cons t ts G =>
  cases r with
  |cons h r =>
   unfold kF at e
   split at e
   .next k I B F=>cases e;rw[yG h B,G r F];rfl
   .cases e
def eF{K}(r:Rep K H v t)(e:eM t=some q):∃b,v=.ref b/\H b=some (.tup (q.map kV)):=by
 cases r<;>try (cases e)
 next a vs ts h r=>exact⟨a,rfl,by rw[h,ZT r e]⟩
section
variable {κ:Type}[DecidableEq κ]
noncomputable def zZ(kvs:List (κ×PV))(k:κ):Option PV:=(kvs.find? fun q=>decide (q.1=k)).map (·.2)
noncomputable def ig(kvs:List (κ×PV))(k:κ)(v:PV):List (κ×PV):=if (kvs.any fun q=>decide (q.1=k))=true then kvs.map fun q=>if q.1=k then (q.1,v) else q else kvs++[(k,v)]
noncomputable def fu(kvs B:List (κ×PV)):List (κ×PV):=B.foldl (fun acc q=>ig acc q.1 q.2) kvs
def FP.val{K}(r:FP K H vs kvs)(k:κ):(∃v t,iV vs k=some v/\zZ kvs k=some t/\Rep K H v t)\/(iV vs k=none/\zZ kvs k=none):=by
 induction r with
 |nil=>exact .inr ⟨rfl,rfl⟩
 |@cons p q F G h r B =>
  delta iV zZ
  rw[A1,A1,h.1]
  by_cases e:q.1=k
  .simp_all
  .rwa [AU e]
def FP.anyG{K}(r:FP K H vs kvs)(k:κ):(vs.any fun B=>decide (B.1=k))=(kvs.any fun B=>decide (B.1=k)):=by
 induction r with
 |nil=>rfl
 |@cons p q G I h r F=>rw[BJ,BJ,h.1,F]
theorem FP.ig{K}(r:FP K H vs kvs)(k:κ)(h:Rep K H v t):FP K H (jJ vs k v) (CL.ig kvs k t):=by
 delta jJ CL.ig
 rw[FP.anyG r k]
 have G:FP K H (vs.map fun B=>if B.1=k then (B.1,v) else B) (kvs.map fun B=>if B.1=k then (B.1,t) else B):=by
  induction r with
  |nil=>exact .nil
  |@cons p q I J h' r F =>
   refine .cons ?_ F
   by_cases e:q.1=k
   .lia
   .lia
 split
 .exact G
 .exact Paired.snoc r ⟨rfl,h⟩
end
section
variable {X:Cx}{a b c e o i f value:Expr}{es:List Expr}{pos pos':Pos}
def Sx:gw:=fun _ C Q=>∀p,C p=none->Q (.ref p) (gQ C p (.dT []))
def Ku:CE X (.Dict [] [] pos) Sx:=⟨JE.weak ⟨W9⟩ fun σ H Q F=>aQ F fun ρ C R s h q f=> fun p B=>f (.ref p) _ (.ref p) _ (q p (h.fresh B)) (.ref p) (h.lay B ⟨[],uQ,.nil⟩) (Fw.lay B _ _)⟩
@[irreducible] def Hg:ul:=fun x y C Q=>match x with
 |.ref a=>match C a,eM y with
  |some (.dT kvs),some k=>match zZ kvs k with
   |some v=>Q v C
   |none=>False
  |_,_=>False
 |_=>False
def N7(hu:X.A.units+1 < cLine)(Z:CE X o L)(hi:CE X i J)(hs:X1 i):CE X (.Subscript o i pos) (ur Hg L J):=⟨JE.weak ⟨JR hu Z.h.h hi.h.h hs⟩ fun σ H Q zz=>aQ zz fun ρ C R s h ab f=>
 ⟨ρ,C,_,s,h,ab,fun x H1 px C1 q1 rx h1 G=>⟨ρ,C1,_,s.cT (G.cT h),h1,q1,fun y H2 af C2 q ry h2 I=>by
  delta Hg at q
  split at q
  .next a =>
   split at q
   .next kvs k O S =>
    split at q
    .next t F =>
     have ae:=rx.cT (I.cT h1);cases ae;refine dQ (h2 a _ O) fun vs Y r=>?_;obtain⟨b,rfl,U⟩:=eF ry S
     rcases FP.val r k with ⟨v,t',l1,B,rv⟩ | ⟨_,B⟩
     .rw [F] at B
      cases B;exact⟨a,v,rfl,by exact l1▸DGet.t Y U,f v H2 t C2 q rv h2 (G.trans I)⟩
     .rw [F] at B;cases B
    .exact q.elim
   .exact q.elim
  .exact q.elim⟩⟩⟩
noncomputable def YO(x:PV)(C:CH):Prop:=match x with
 |.ref a=>match C a with
  |some (.dT _)=>True
  |_=>False
 |_=>False
def Ek{K}(d:YO t C)(r:Rep K H x t)(h:d8 K H C):∃a kvs,x=.ref a/\t=.ref a/\H a=some (.dT kvs):=by
 delta YO at d
 split at d
 .split at d
  .next e=>obtain⟨vs,q,_⟩:=(h _ _ e);cases r;exact⟨_,vs,rfl,rfl,q⟩
  .exact d.elim
 .exact d.elim
@[irreducible] def Ky:PV->PV->PV->CH->K1->Prop:=fun x y z C Q=>match x with
 |.ref a=>match C a,eM y with
  |some (.dT kvs),some k=>Q ((zZ kvs k).getD z) C
  |_,_=>False
 |_=>False
def Oe(F B G:gw):gw:=fun ρ C Q=>F ρ C fun x C1=>YO x C1/\B ρ C1 fun y C2=>G ρ C2 fun z q=>Ky x y z q Q
def GO{apos cpos}(hu:X.A.units+1 < cLine)(ho:CE X o ab)(ae:CE X e ck)(af:CE X f cz)(hb:attributeBase o "get" X.env (eval o X.env)=eval o X.env:=by rfl)(hl:(apos.endLine==cpos.line)=true:=by rfl)(h1:noStar e=true:=by rfl)(h2:noStar f=true:=by rfl):CE X (.Call (.Attribute o "get" apos) [e,f] [] cpos) (Oe ab ck cz):=⟨JE.weak ⟨QL hu ho.h.h ae.h.h af.h.h (Io hb hl h1 h2)⟩ fun σ H Q zz=>aQ zz fun ρ C R s h ag f=>
 ⟨ρ,C,_,s,h,ag,fun x H1 px C1 Z rx h1 B=>by
  obtain⟨a,kvs,rfl,rfl,e1⟩:=Ek Z.1 rx h1;refine⟨a,rfl,.inr ⟨kvs,.inl e1⟩,ρ,C1,_,s.cT (B.cT h),h1,Z.2,fun y H2 ai C2 q2 ry h2 F=>⟨ρ,C2,_,(s.cT (B.cT h)).cT (F.cT h1),h2,q2,fun z S pz O q rz I G=>?_⟩⟩;unfold Ky at q;dsimp only at q
  split at q
  .next ah k d1 d2 =>
   refine dQ (I a _ d1) fun vs Y r=>?_;obtain⟨b,rfl,U⟩:=eF (ry.cT (G.cT h2)) d2
   rcases FP.val r k with ⟨v,t',J,L,rv⟩ | ⟨J,L⟩
   .rw [L] at q
    exact⟨some v,by exact J▸DGet.t Y U,f v S t' O q rv I (B.trans (F.trans G))⟩
   .rw [L] at q
    exact⟨none,by exact J▸DGet.t Y U,f z S pz O q rz I (B.trans (F.trans G))⟩
  .exact q.elim⟩⟩
@[irreducible] def KC:PV->PV->PV->CH->(CH->Prop)->Prop:=fun x y v C Q=>match x with
 |.ref a=>match C a,eM y with
  |some (.dT kvs),some k=>kvs.length < sizeLine/\Q (gQ C a (.dT (ig kvs k v)))
  |_,_=>False
 |_=>False
def Sw(G F I:gw):km:=fun E ρ C=>I ρ C fun v C1=>G ρ C1 fun x C2=>F ρ C2 fun y q=>KC x y v q fun B=>E.nx ρ B
def Kp{L O}(hu:X.A.units+1 < cLine)(ho:CE X o Y)(hi:CE X i L)(hv:CE X value O)(hs:swapsWith value (some (.Subscript o i pos')) pos.line X.env=pure false:=by rfl):
  CS X (.Assign [.Subscript o i pos'] value pos) (Sw Y L O):=⟨JS.weak ⟨JP hu ho.h.h hi.h.h hv.h.h hs⟩ fun D σ H zz=>aQ zz fun ρ C E s h ab f=>
 ⟨ρ,C,_,s,h,ab,fun v H1 ag C1 q1 rv h1 B=>⟨ρ,C1,_,s.cT (B.cT h),h1,q1,fun x H2 px C2 q2 rx h2 F=>⟨ρ,C2,_,(s.cT (B.cT h)).cT (F.cT h1),h2,q2,fun y J ah C3 q ry U G=>by
  have ae:=rv.cT ((F.trans G).cT h1)
  delta KC at q
  split at q
  .next a =>
   split at q
   .next kvs k S Z =>
    have af:=rx.cT (G.cT h2);cases af;refine dQ (U a _ S) fun vs I r=>?_;obtain⟨b,rfl,eb⟩:=eF ry Z;have m:iz J (upd J a (.dT (jJ vs k v))):=iz.mut I rfl _;refine⟨a,_,rfl,DPut.t I eb ((Paired.length r)▸q.1),f.nx σ _ ρ _ q.2 ((((s.cT (B.cT h)).cT (F.cT h1)).cT (G.cT h2)).cT m) (U.put I rfl ⟨_,uQ,Paired.mapP (FP.ig r k ae) fun _ _ z=>⟨z.1,z.2.cT m⟩⟩) (B.trans (F.trans (G.trans (Fw.put S _ _))))⟩
   .exact q.elim
  .exact q.elim⟩⟩⟩⟩
@[irreducible] def Ho:GC:=fun ts C Q=>match ts with
 |[.int i,.int j]=>Q (.int (if j > i then j else i)) C
 |_=>False
@[irreducible] def Hn:GC:=fun ts C Q=>match ts with
 |[.int i,.int j]=>Q (.int (if j < i then j else i)) C
 |_=>False
def FW{K}:ud K (fun xs H Q=>∃i j,xs=[.int i,.int j]/\Q (.int (if j > i then j else i)) H) Ho:=fun xs ts H C Q R G h q f=>by
 delta Ho at q
 split at q
 .obtain ⟨I,J,rfl,B,F⟩:=cB G
  cases B;cases F
  exact⟨_,_,rfl,f _ H _ C q (.int _) h Fw.refl⟩
 .exact q.elim
def fI{K}:ud K (fun xs H Q=>∃i j,xs=[.int i,.int j]/\Q (.int (if j < i then j else i)) H) Hn:=fun xs ts H C Q R G h q f=>by
 delta Hn at q
 split at q
 .obtain ⟨I,J,rfl,B,F⟩:=cB G
  cases B;cases F
  exact⟨_,_,rfl,f _ H _ C q (.int _) h Fw.refl⟩
 .exact q.elim
@[irreducible] def eI:GC:=fun ts C Q=>match ts with
 |[.ref a]=>match C a with
  |some (.dK kvs)=>∀p,C p=none->Q (.ref p) (gQ C p (.dK kvs))
  |_=>False
 |_=>False
def VQ{K}:ud K (fun xs H Q=>∃a kvs,xs=[.ref a]/\H a=some (.dK kvs)/\∀p,H p=none->Q (.ref p) (upd H p (.dK kvs))) eI:=fun xs ts H C Q R G h q f=>by
 delta eI at q
 split at q
 .split at q
  .next kvs e =>
   obtain⟨v,rfl,r⟩:=aX G;obtain⟨vs,F,I⟩:=(h _ _ e);cases r;exact⟨_,vs,rfl,F,fun p B=>f _ _ _ _ (q p (h.fresh B)) (.ref p) (h.lay B ⟨vs,uQ,Paired.mapP I fun _ _ z=>⟨z.1,z.2.cT (iz.new B _)⟩⟩) (Fw.lay B _ _)⟩
  .exact q.elim
 .exact q.elim
def Kf:PV->Option V
 |.non=>some .non
 |.bl b=>some (.bl b)
 |.int i=>some (.int i)
 |.str x=>some (.str x)
 |_=>none
def tO{K}(r:Rep K H v t)(e:Kf t=some w):v=w/\sM w=true:=by
 cases r<;>cases e<;>exact⟨rfl,rfl⟩
noncomputable def yR:List PV->Option (List V)
 |[]=>some []
 |t::r=>match Kf t,yR r with
  |some v,some vs=>some (v::vs)
  |_,_=>none
def Z2{K}(r:d9 K H vs ts)(e:yR ts=some q):vs=q/\q.all sM=true:=by
 induction ts generalizing vs q with
 |nil=>cases r;cases e;exact⟨rfl,rfl⟩
 |cons t ts J =>
  cases r with
  |cons h r =>
   unfold yR at e
   split at e
   .next v us B F =>
    cases e;obtain⟨rfl,G⟩:=tO h B;obtain⟨rfl,I⟩:=J r F;exact⟨rfl,by rw[List.all_cons,G,I];rfl⟩
   .cases e
noncomputable def LK(C:CH):PV->Option (List PV)
 |.tup xs=>some xs
 |.kt xs=>some xs
 |.ref a=>match C a with
  |some (.lst xs)=>some xs
  |_=>none
 |_=>none
@[irreducible] def Hr(q:Bool):ul:=fun x y C Q=>match LK C y,Kf x with
 |some ts,some v=>match yR ts with
  |some vs=>Q (.bl (if q then !inV v vs else inV v vs)) C
  |none=>False
 |_,_=>False
def Ff{K}: pq K (rIn K U) (Hr U):=fun x y px ab H C Q R rx ry h q f=>by
 delta Hr at q
 split at q
 .next ts v B G =>
  split at q
  .next vs I =>
   obtain⟨rfl,L⟩:=tO rx G
   have S:∃p F,y=.ref p/\(SqL K H p F\/SqT K H p F)/\d9 K H F ts:=by
    cases ry<;>try (cases B)
    .next a =>
     delta LK at B
     dsimp only at B
     split at B
     .next xs e =>
      cases B;exact dQ (h _ _ e) fun us J Z=>⟨a,us,rfl,.inl (SqL.of J),Z⟩
     .cases B
    .next p us O r=>exact⟨p,us,rfl,.inr (SqT.of O),r⟩
    .grind
   obtain⟨p,F,rfl,hs,Y⟩:=S;obtain⟨rfl,fs⟩:=Z2 Y I;exact⟨p,F,rfl,hs,L,fs,f _ H _ C q (.bl _) h Fw.refl⟩
  .exact q.elim
 .exact q.elim
end
noncomputable def qC:List Key->Option (List Str)
 |[]=>some []
 |.inr x::r=>(qC r).map (x :: ·)
 |_=>none
def KR(e:qC q=some zs):q=zs.map Sum.inr:=by
 induction q generalizing zs with
 |nil=>cases e;rfl
 |cons k q B =>
  rcases k with k | x
  .cases e
  .unfold qC at e
   cases z:qC q with
   |none=>rw[z] at e;cases e
   |some F=>rw[z] at e;cases e;rw[B z];rfl
noncomputable def Lr:List (List Key×PV)->Option (List (List Str×Int))
 |[]=>some []
 | (k,.int i)::r=>match qC k,Lr r with
  |some zs,some cs=>some ((zs,i)::cs)
  |_,_=>none
 |_=>none
def Lq(e:Lr kvs=some cs):kvs=cs.map fun c=>(c.1.map Sum.inr,PV.int c.2):=by
 induction kvs generalizing cs with
 |nil=>cases e;rfl
 |cons p kvs F =>
  unfold Lr at e
  split at e
  .lia
  .rename_i k i r h
   cases h
   split at e
   .next zs ds q B=>cases e;rw[F B,KR q];rfl
   .cases e
  .cases e
noncomputable def lE(c:List Str×Int):PV:=.tup [.tup (c.1.map PV.str),.int c.2]
noncomputable def Lp(cs:List (List Str×Int)):Nat->Nat->Bool:=fun i j=>Rn (cs.getD i ([],0)) (cs.getD j ([],0))
noncomputable def Mt(cs:List (List Str×Int)):List (List Str×Int):=(vU (Lp cs) (kas_sort cs.length)).toList.map fun i=>cs.getD i ([],0)
section
variable {K:Ds}{H:Hp}{X:Cx}
theorem Qs:∀zs:List Str,d9 K H (zs.map V.str) (zs.map PV.str)
 |[]=>.nil
 |z::zs=>.cons (.str z) (Qs zs)
def Yc d q(r:d9 K H ys ts):d9 K H (zF q ys) ((vU q (kas_sort ts.length)).toList.map fun i=>ts.getD i d):=by
 have F:=r.len
 delta zF
 rw[F]
 have B:∀i∈(vU q (kas_sort ts.length)).toList,i < ys.length:=by
  intro i hi
  by_cases h:0 < ts.length
  .exact F▸BL.mp ((uG q ts.length h).mem_iff.mp hi)
  .have e:ts.length=0:=by lia
   rw[e,xg] at hi;cases hi
 generalize (vU q (kas_sort ts.length)).toList=l at B ⊢
 induction l with
 |nil=>exact .nil
 |cons i l G=>exact .cons (r.getD i (B i AG)) (G fun j hj=>B j (AJ _ hj))
def Lk(cs:List (List Str×Int))(l:List Nat):(l.map fun i=>(cs.map lE).getD i (lE ([],0)))=(l.map fun i=>cs.getD i ([],0)).map lE :=by simp_all
@[irreducible] def gN(q:gw):gw:=fun ρ C Q=>q ρ C fun x C1=>match x with
 |.ref a=>match C1 a with
  |some (.dT _)=>Q (.vw a) C1
  |_=>False
 |_=>False
def VN{apos cpos}(U:CE X o J)(O:attributeBase o "items" X.env (eval o X.env)=eval o X.env:=by rfl)(S:(apos.endLine==cpos.line)=true:=by rfl):CE X (.Call (.Attribute o "items" apos) [] [] cpos) (gN J) :=
 ⟨JE.weak ⟨Zx F.plainAttrs_dict DR F.type_dict_items Vo U.h.h O S⟩ fun σ H Q Z=>aQ Z fun ρ C R s h q f=> by
 delta gN at q
 exact⟨ρ,C,_,s,h,q,fun x H1 px C1 B Y h1 L=>by
  split at B
  .split at B
   .next kvs e =>
    refine dQ (h1 _ _ e) fun vs G r=>?_;cases Y;exact⟨.inr (.inr (.inl ⟨rfl,.inr ⟨vs,G⟩⟩)),_,vs,rfl,rfl,G,fun v I=>f _ _ _ _ B (.vw uQ) (h1.new I _) (L.trans (Fw.new I _))⟩
   .exact B.elim
  .exact B.elim⟩⟩
@[irreducible] def aD:GC:=fun ts C Q=>match ts with
 |[.vw a]=>match C a with
  |some (.dT kvs)=>match Lr kvs with
   |some cs=>cs.length < 64/\∀p,C p=none->Q (.ref p) (gQ C p (.lst ((Mt cs).map lE)))
   |none=>False
  |_=>False
 |_=>False
abbrev WK(X:Cx):List V->Hp->VK->Prop:=fun xs H Q=>∃v d kvs lt,xs=[.ref v]/\H v=some (.ext (yY v d))/\H d=some (.dT kvs)/\kvs.length < 64 /\
  ∀as H1,Same H H1->Ov H1 as kvs->(∀a∈as,H a=none)->(∀a,H a=none->H1 a≠none->a∈as)->HF X H1 (List.map V.ref as) lt/\∀p,H1 p=none->Q (.ref p) (upd H1 p (.lst (zF lt (List.map V.ref as))))
def Pk{cs:List (List Str×Int)}(r:Ov H as kvs)(e:FP K H kvs (cs.map fun c=>(c.1.map Sum.inr,PV.int c.2))):
  d9 K H (as.map V.ref) (cs.map lE)/\∀i,i < as.length->kS H ((as.map V.ref).getD i .non) (cs.getD i ([],0)):=by
 induction r generalizing cs with
 |nil =>
  cases cs with
  |nil=>exact⟨.nil,fun i hi=>absurd hi (Ce i)⟩
  |cons c cs=>cases e
 |@cons a b k v as kvs h1 h2 r I =>
  cases cs with
  |nil=>cases e
  |cons c cs =>
   cases e with
   |cons h e =>
    obtain⟨q,B⟩:=h;obtain⟨F,G⟩:=I e;subst q;cases B;rw[ZV] at h2;refine⟨.cons (.tup h1 (.cons (.tup h2 (Qs c.1)) (.cons (.int _) .nil))) F,fun i hi=>?_⟩
    cases i with
    |zero=>exact⟨a,b,rfl,h1,h2⟩
    |succ i=>exact G i (By hi)
def XJ(S:X.A.units+2 < cLine):ud X.K (WK X) aD:=fun xs ts H C Q R ab h q f=>by
 delta aD at q
 split at q
 .obtain ⟨v,rfl,r⟩:=aX ab
  split at q
  .next kvs e =>
   split at q
   .next cs J =>
    have ex:=Lq J;subst ex;obtain⟨vs,L,I⟩:=(h _ _ e)
    cases r with
    |vw U =>
     have O:vs.length=cs.length:=by rw[Paired.length I,AB]
     refine⟨_,_,vs,Lp cs,rfl,U,L,by rw[O];exact q.1,fun as H1 F Y ae af=>?_⟩;obtain⟨rr,Z⟩:=Pk Y (Paired.mapP I fun _ _ z=>⟨z.1,z.2.cT fun b v _ e=>F b v e⟩);refine⟨KU S _ (fun i hi=>Z i (by grind)),fun p B=>?_⟩;have h1:=aL h F;have G:=Yc (lE ([],0)) (Lp cs) rr;rw[AB,Lk] at G;exact f _ _ _ _ (q.2 p (h1.fresh B)) (.ref p) (h1.lay B ⟨_,uQ,G.cT (iz.new B _)⟩) ((iA F).trans (Fw.lay B _ _))
   .exact q.elim
  .exact q.elim
 .exact q.elim
end
def Ji:List (gw×gw)->jm->CH->(List (PV×PV)->CH->Prop)->Prop
 |[],_,C,Q=>Q [] C
 | (B,F)::r,ρ,C,Q=>B ρ C fun x C1=>F ρ C1 fun y C2=>Ji r ρ C2 fun ps q=>Q ((x,y)::ps) q
abbrev RPs(K:Ds)(H:Hp):List (V×V)->List (PV×PV)->Prop:=Paired fun p q=>Rep K H p.1 q.1/\Rep K H p.2 q.2
noncomputable def Ip(K:Ds)(cs:List (gw×gw)):List (TE×TE):=cs.map fun p=>(xJ K (Rep K) p.1,xJ K (Rep K) p.2)
structure UJ(X:Cx)(pos:Pos)(keys:List (Option Expr))(values:List Expr)(cs:List (gw×gw)):Prop where
 h:PPs X pos keys values (Ip X.K cs)
def Fe: UJ X pos [] [] []:=⟨pps_nil⟩
def mG{q}(hk:CE X k B)(G:CE X v q)(F:UJ X pos I vs cs):UJ X pos (some k::I) (v::vs) ((B,q)::cs):=⟨WX hk.h.h G.h.h F.h⟩
def ZO{K}: ∀{cs}{H}{C}{R}{Q},gq K H σ ρ->d8 K H C->Ji cs ρ C R ->
  (∀vs H' ts C',R ts C'->RPs K H' vs ts->d8 K H' C'->Fw H C H' C'->Q vs H')->nE (Ip K cs) σ H Q:=by
 intro cs
 induction cs with
 |nil=>intro H C R Q s h q f;exact f [] H [] C q .nil h Fw.refl
 |cons p cs O =>
  obtain⟨ck,ab⟩:=p;intro H C R Q s h q f;exact⟨ρ,C,_,s,h,q,fun x H1 px C1 S rx h1 B=>⟨ρ,C1,_,s.cT (B.cT h),h1,S,fun y H2 ae C2 U ry h2 F=>O ((s.cT (B.cT h)).cT (F.cT h1)) h2 U fun vs J ts I Y Z L G=>f _ J _ I Y (.cons ⟨(rx.cT (F.cT h1)).cT (G.cT h2),ry.cT (G.cT h2)⟩ Z) L (B.trans (F.trans G))⟩⟩
noncomputable def Ra:List (PV×PV)->Option (List (Key×PV))
 |[]=>some []
 | (x,y)::r=>match aV x,Ra r with
  |some k,some ps=>some ((k,y)::ps)
  |_,_=>none
def yj{K}(r:RPs K H vs ts)(e:Ra ts=some ps):∃kvs,vs=kvs.map (fun B=>(kV B.1,B.2))/\KP K H kvs ps:=by
 induction r generalizing ps with
 |nil=>cases e;exact⟨[],rfl,.nil⟩
 |@cons p q S U h r J =>
  obtain⟨x,y⟩:=q;unfold Ra at e
  split at e
  .next k Y F G =>
   cases e;obtain⟨kvs,rfl,L⟩:=J G;obtain⟨Z,O⟩:=p;have I:=yG h.1 F;subst I;exact⟨(k,O)::kvs,rfl,.cons ⟨rfl,h.2⟩ L⟩
  .cases e
section
variable {X:Cx}{pos:Pos}{keys:List (Option Expr)}{values:List Expr}{cs:List (gw×gw)}
@[irreducible] def uN(p:Addr):List (PV×PV)->CH->K1->Prop:=fun ts C Q=>C p=some (.dK [])/\match Ra ts with
 |some ps=>ps.length<=15/\Q (.ref p) (gQ C p (.dK (tV [] ps)))
 |none=>False
def S8(cs:List (gw×gw)):gw:=fun ρ C Q=>∀p,C p=none->Ji cs ρ (gQ C p (.dK [])) fun ts C2=>uN p ts C2 Q
def Fy(h:UJ X pos keys values cs)(Y:keys.all (·.isSome)=true:=by rfl)(Z:keys.length=values.length:=by rfl)(h0:keys≠[]:=by exact fun z=>nomatch z)(U:keys.length<=15:=by decide):CE X (.Dict keys values pos) (S8 cs) :=
 ⟨JE.weak ⟨pe_disp h.h Y Z h0 U⟩ fun σ H Q zz=>aQ zz fun ρ C R s J q f=> fun p F=>by
  refine ZO (C:=gQ C p (.dK [])) (s.cT (iz.new F _)) (J.lay F ⟨[],uQ,.nil⟩) (q p (J.fresh F)) fun vs H2 ts C2 B r2 h2 S=>?_;unfold uN at B;obtain⟨I,B⟩:=B
  split at B
  .next ps O =>
   obtain⟨kvs,rfl,L⟩:=yj r2 O;obtain⟨us,G,ru⟩:=(h2 p _ I);have z:us=[]:=by cases ru;rfl
   subst z;refine⟨G,kvs,rfl,by exact(Paired.length L)▸B.1,?_⟩;exact f _ _ _ _ B.2 (.ref p) (h2.put G rfl ⟨_,uQ,Paired.mapP (KP.merge .nil L) fun _ _ z=>⟨z.1,z.2.cT (iz.mut G rfl _)⟩⟩) ((Fw.lay F _ _).trans (S.trans (Fw.put I _ _)))
  .exact B.elim⟩
end
def wF(q:Room k A):A.units+2 < cLine:=by have:=q.un;lia
section
variable {C:CH}{p:Addr}{Q:K1}{x y v z:PV}
def wR(m:C p=some (.ins c dx fs))(e:fs.lookup f=some v)(q:Q v C):Jj c f (.ref p) C Q :=by simp_all[Jj]
def Zo{Q}(m:C p=some (.ins c dx fs))(h:fs.length < 1000)(q:Q (gQ C p (.ins c dx (QI f v fs)))):KF c f (.ref p) v C Q :=by simp_all[KF]
def cX(m:C p=some (.ins c dx fs))(e:fs.lookup f=none):lO c f (.ref p) C:=by
 delta lO
 dsimp only;exact m▸⟨rfl,e⟩
def Nj(m:C p=some (.dT kvs)):YO (.ref p) C:=by
 delta YO
 dsimp only;rw[m]
 trivial
def Pj(m:C p=some (.dT kvs))(hk:eM y=some k)(B:zZ kvs k=some v)(q:Q v C):Hg (.ref p) y C Q:=by
 delta Hg
 dsimp only;rw[m,hk];dsimp only
 rwa [B]
def Ls(m:C p=some (.dT kvs))(hk:eM y=some k)(B:(zZ kvs k).getD z=v)(q:Q v C):Ky (.ref p) y z C Q:=by
 delta Ky
 dsimp only;rw[m,hk];dsimp only
 rwa [B]
def Wu{Q}(m:C p=some (.dT kvs))(hk:eM y=some k)(h:kvs.length<=1000)(q:Q (gQ C p (.dT (ig kvs k v)))):KC (.ref p) y v C Q:=by
 delta KC
 dsimp only;exact m▸hk▸⟨An h (by decide),q⟩
def gK(m:C p=some (.dK kvs))(hk:aV y=some k)(B:kJ kvs k=some v)(q:Q v C):Hs (.ref p) y C Q:=by
 delta Hs
 dsimp only;rw[m,hk];show(match kJ kvs k with | some v=>Q v C | none=>False)
 rwa [B]
def Nm(m:C p=some (.dK kvs))(hk:aV y=some k)(B:(kJ kvs k).getD z=v)(q:Q v C):KI (.ref p) y z C Q:=by
 delta KI
 dsimp only;rw[m,hk];show Q ((kJ kvs k).getD z) C
 rwa [B]
def nY{Q}(m:C p=some (.dK kvs))(hk:aV y=some k)(h:kvs.length<=1000)(q:Q (gQ C p (.dK (nZ kvs k v)))):XS (.ref p) y v C Q:=by
 delta XS
 dsimp only;exact m▸hk▸⟨An h (by decide),q⟩
def YS(m:C p=some (.dK kvs)):ZX (.ref p) C:=by
 delta ZX
 dsimp only;rw[m]
 trivial
def Ew(m:C p=some (.dK kvs))(q:∀B,C B=none->Q (.ref B) (gQ C B (.dK kvs))):eI [.ref p] C Q:=by
 delta eI
 dsimp only
 rwa [m]
def YT{B:Bool}(h1:LK C y=some ts)(h2:Kf x=some w)(F:yR ts=some vs)(q:Q (.bl (if B then !inV w vs else inV w vs)) C):Hr B x y C Q :=by simp_all[Hr]
def Nr(h:q ρ C fun t C1=>match t with | .tup xs=>pY g u E xs ρ C1 | .kt xs=>pY g u E xs ρ C1 | _=>False):kE q g u E ρ C:=by
 delta kE
 exact h
end
def Qv(m:C p=some (.lst (cs.map oQ)))(h:cs.length < 64)(q:∀B,C B=none->Q (.ref B) (gQ C B (.lst ((lG cs).map oQ)))):yM [.ref p] C Q:=by
 delta yM
 dsimp only;rw[m];dsimp only;rw[Qx];exact⟨h,q⟩
def yF(q:ρ[i]?=some (some (.tup xs)))(h:pY g u E xs ρ C):kE (zV i) g u E ρ C:=by
 delta kE zV
 rwa [q]
def yX(h:x=.tup xs)(e:atI xs i=some v)(q:Q v C):ut x (.int i) C Q:=by
 subst h;exact tX e q
def Yv(q:Q (.int (if j < i then j else i)) C):Hn [.int i,.int j] C Q:=by
 delta Hn
 exact q
def Rj(q:Q (.int (if j > i then j else i)) C):Ho [.int i,.int j] C Q:=by
 delta Ho
 exact q
def qS{xs:List PV}(h:k < xs.length):atI xs k=some xs[k] :=by grind[atI,ixN,lia,Int.toNat_natCast]
def wX{r:List PV}:atI (x::r) 0=some x:=qS (Nat.zero_lt_succ _)
def Rw(h:t ρ C fun b C1=>if b=true then q ρ C1 Q else B ρ C1 Q):cIf t q B ρ C Q:=h
def iN(B:ρ[i]?=some (some x))(q:Q (k (wU x)) C):XR (ur (Ux k) (zV i) (cC .non)) ρ C Q:=by
 show zV i ρ C fun x C1=>gA Q (.bl (k (wU x))) C1
 delta zV
 rwa [B]
def iZ(I:List PV->jm->CH->Prop)(G:∀x r ρ C,I (x::r) ρ C->∀L:jm->CH->Prop,(∀q C',I r q C'->L q C')->g x ρ C fun J C1=>u (E.lp L) J C1)(B:∀ρ C,I [] ρ C->E.nx ρ C):
  ∀xs ρ C,I xs ρ C->pY g u E xs ρ C:=by
 intro xs
 induction xs with
 |nil=>intro ρ C h;exact B ρ C h
 |cons x r F=>intro ρ C h;exact G x r ρ C h _ F
def wW(I:List PV->List PV->CH->Prop)(F:∀x r acc C,I (x::r) acc C->∀L:K1,(∀y C2,acc.length < sizeLine/\I r (acc++[y]) C2->L y C2)->c (some x::ρ) C L)(q:∀acc C,I [] acc C->∀p,C p=none->Q (.ref p) (gQ C p (.lst acc))):
  ∀xs acc C,I xs acc C->fJ rH c ρ Q xs acc C:=by
 intro xs
 induction xs with
 |nil=>intro acc C h;exact q acc C h
 |cons x r B =>
  intro acc C h;exact F x r acc C h _ fun y C2 z=>⟨z.1,B _ _ z.2⟩
def jE(I:List PV->List PV->CH->Prop)(q:∀r acc C,I r acc C->S C)(G:∀x r acc C,I (x::r) acc C->∀L:K1,(∀y C2,acc.length < sizeLine/\I r (acc++[y]) C2->L y C2)->c (some x::ρ) C L)(B:∀acc C,I [] acc C->∀p,C p=none->Q (.ref p) (gQ C p (.lst acc))):
  ∀xs acc C,I xs acc C->mB S rH c ρ Q xs acc C:=by
 intro xs
 induction xs with
 |nil=>intro acc C h;exact⟨q _ _ _ h,B acc C h⟩
 |cons x r F =>
  intro acc C h;exact⟨q _ _ _ h,G x r acc C h _ fun y C2 z=>⟨z.1,F _ _ z.2⟩⟩
def iL(g:Gr C C1)(q:C p=none)o:Gr C (gQ C1 p o):=fun b u e=>by
 rw[wQ (fun z=>by subst z;rw[q] at e;cases e)];exact g b u e
theorem gD(g:Gr C C')(h:C' p=none):C p=none:=by
 cases e:C p with
 |none=>rfl
 |some o=>rw[g p o e] at h;cases h
def sZ(h:n<=1000):n<=sizeLine:=AY h (by decide)
def qD kvs k v:(nZ kvs k v).length<=kvs.length+1 :=by grind[nZ,List.length_map,List.length_append,List.length_singleton]
def cE kvs k v F:kJ (nZ kvs k v) F=if F=k then some v else kJ kvs F:=by
 have O:∀l:List (Key×PV),(l.any fun q=>decide (q.1=k))=true->kJ (l.map fun q=>if q.1=k then (q.1,v) else q) F=if F=k then some v else kJ l F:=by
  intro l
  induction l with
  |nil=>intro h;cases h
  |cons x l J =>
   intro h
   delta kJ
   rw[A4,A1,A1]
   by_cases e:x.1=k
   .rw [Ah e]
    by_cases B:F=k
    .rw [Ah B,Am (e.trans B.symm)];rfl
    .rw [Af B]
     rw[AU (fun z=>B (z.symm.trans e))]
     by_cases I:(l.any fun q=>decide (q.1=k))=true
     .have:=J I
      rwa [Af B] at this
     .have:(l.map fun q=>if q.1=k then (q.1,v) else q)=l :=(DC fun y L=>Af ((fun y L z=>I (List.any_eq_true.2 ⟨y,L,Am z⟩)) y L)).trans (List.map_id l)
      rw[this]
   .rw [Af e]
    have I:(l.any fun q=>decide (q.1=k))=true:=by
     rwa [BJ,AU e,Bool.false_or] at h
    have:=J I
    by_cases G:x.1=F
    .rw [Am G]
     have B:¬ F=k:=fun z=>e (G.trans z);rw[Af B]
    .rwa [AU G]
 delta nZ
 by_cases b:(kvs.any fun q=>decide (q.1=k))=true
 .rw [Ah b];exact O kvs b
 .rw [Af b]
  induction kvs with
  |nil =>
   delta kJ
   rw[Bi,A1]
   by_cases B:F=k
   .rw [Ah B,Am B.symm];rfl
   .rw [Af B,AU (fun z=>B z.symm)]
  |cons x l J =>
   rw[BJ] at b;have e:¬ x.1=k:=fun e=>b (by rw[Am e];rfl);rw[AU e,Bool.false_or] at b;have:=J b;unfold kJ at this ⊢;rw[Ba,A1,A1]
   by_cases G:x.1=F
   .rw [Am G]
    rw[Af (fun z=>e (G.trans z))]
   .rwa [AU G]
def gm(S:List Addr)(C C':CH):Prop:=∀b o,b∉S->C b=some o->C' b=some o
def gm.refl: gm S C C:=fun _ _ _ h=>h
theorem gm.trans(h:gm S C C1)(h':gm S C1 C2):gm S C C2:=fun b o n e=>h' b o n (h b o n e)
def gm.mono(h:gm S C C1)(s:∀b∈S,b∈q):gm q C C1:=fun b o n e=>h b o (fun z=>n (s b z)) e
theorem gm.at(h:gm S C C1)(q:p∈S)o:gm S C (gQ C1 p o):=fun b u n e=>by
 rw[wQ (fun z=>n (by rwa [z]))];exact h b u n e
theorem gm.put(h:gm S C C1)(q:C p=none)o:gm S C (gQ C1 p o):=fun b u n e=>by
 rw[wQ (fun z=>by subst z;rw[q] at e;cases e)];exact h b u n e
def gm.none(g:gm S C C')(n:p∉S)(h:C' p=none):C p=none:=by
 cases e:C p with
 |none=>rfl
 |some o=>rw[g p o n e] at h;cases h
def uM(n:Nat)(t:nq)(c:gw)(ρ:jm)(Q:K1):List PV->List PV->CH->Prop
 |[],acc,C=>∀p,C p=none->Q (.ref p) (gQ C p (.lst acc))
 |x::r,acc,C=>∃ts,x=.tup ts/\ts.length=n/\t (ts.map some++ρ) C fun b C1=>if b=true then c (ts.map some++ρ) C1 fun y C2=>acc.length < sizeLine/\uM n t c ρ Q r (acc++[y]) C2 else uM n t c ρ Q r acc C1
theorem aF{K}: ∀{vs}{ts},d9 K H vs ts->gq K H (vs.map some) (ts.map some)
 |_,_,.nil=>.nil
 |_,_,.cons h r=>.cons h (aF r)
def gq.app{K}(h:gq K H σ ρ)(h':gq K H τ B):gq K H (σ++τ) (ρ++B):=by
 induction h with
 |nil=>exact h'
 |cons a _ q=>exact .cons a q
def GK{K}{Q:VK}(j:Jq K H J ps)(s:gq K H σ ρ)(h:d8 K H C)(ai:uM n t c ρ R ps [] C)(h0:d8 K H0 C0)(f0:Fw H0 C0 H C)(f:∀v H' p C',R p C'->Rep K H' v p->d8 K H' C'->Fw H0 C0 H' C'->Q v H')(F:H D=none):
  ∃W:Nat->Nat->List V->Hp->Prop,(∃m,W 0 m [] (upd H D (.lst [])))/\∀i m ys H,W i m ys H ->
   (J.stop i H/\Q (.ref D) H)\/(J.go i H/\∀x H',J.yld i H x H'->∃a vs,x=.ref a/\SqT K H' a vs/\vs.length=n/\xJ K gL t (vs.map some++σ) H' fun b H2=>
    if b=true then xJ K (Rep K) c (vs.map some++σ) H2 fun y H3=>H3 D=some (.lst ys)/\ys.length < sizeLine/\∃L,L < m/\W (i+1) L (ys++[y]) (upd H3 D (.lst (ys++[y])))
    else ∃L,L < m/\W (i+1) L ys H2):=by
 refine⟨fun i m ys H'=>m=ps.length - i/\i<=ps.length/\∃acc C',H' D=some (.lst ys)/\C' D=none/\d9 K H' ys acc/\d8 K H' C'/\Fw H C H' C'/\uM n t c ρ R (ps.drop i) acc C',
  ⟨ps.length,rfl,AW _,[],C,uQ,h.fresh F,.nil,h.new F _,Fw.new F _,ai⟩,?_⟩
 rintro i m ys H1 ⟨rfl,hi,acc,C1,e1,n1,r1,h1,O,B⟩;have I:=O.cT h
 by_cases G:i < ps.length
 .refine .inr ⟨j.go i H1 G I,fun x H2 y=>?_⟩
  obtain⟨rfl,y⟩:=j.yl i H1 x H2 I y;have rx:=y _ (AM G);rw[Ap G] at B;refine xZ B fun ts ah hn B=>?_;rw[ah] at rx
  obtain⟨a5,ak,z5,aj,af⟩:∃a vs,x=.ref a/\SqT K H2 a vs/\d9 K H2 vs ts:=by
   cases rx with
   |tup e r=>exact⟨_,_,rfl,SqT.of e,r⟩
  refine⟨a5,ak,z5,aj,af.len.trans hn,⟨ts.map some++ρ,C1,_,(aF af).app (s.cT I),h1,B,fun b H3 b' C3 q3 e h3 S=>?_⟩⟩;cases e;obtain⟨Y,e3⟩:=S D (by rw[n1];rfl) (by lia);rw[e1] at e3;rw[n1] at Y;have U:=S.cT h1
  cases b with
  |true =>
   refine⟨ts.map some++ρ,C3,_,(aF (af.cT U)).app ((s.cT I).cT U),h3,q3,fun v H4 p C4 q4 r4 h4 ab=>uF (ab D (by rw[Y];rfl) (by lia)) fun n4 e4=>?_⟩;rw[e3] at e4;rw[Y] at n4;have m4:iz H4 (upd H4 D (.lst (ys++[v]))):=iz.mut e4 rfl _;refine⟨e4,by rw[r1.len];exact q4.1,ps.length - (i+1),by lia,rfl,G,acc++[p],C4,uQ,n4,?_,?_,?_,q4.2⟩
   .exact (((r1.cT U).cT (ab.cT h3)).append (.cons r4 .nil)).cT m4
   .intro a o q
    have ae:a≠D:=fun z=>by subst z;rw[n4] at q;cases q
    exact(h4 a o q).cT m4 (pQ ae)
   .intro a q Z
    have ae:a≠D:=fun z=>Z (z▸F);exact uF ((O.trans (S.trans ab)) a q Z) fun x1 x2=>⟨x1,(pQ ae).trans x2⟩
  |false =>
   exact⟨ps.length - (i+1),by lia,rfl,G,acc,C3,e3,Y,r1.cT U,h3,O.trans S,q3⟩
 .have e:i=ps.length:=by lia
  subst e;rw[Bq] at B;refine .inl ⟨j.st H1 I,f (.ref D) H1 (.ref D) _ (B D n1) (.ref D) ?_ ?_⟩
  .intro a o q
   by_cases z:a=D
   .subst z;rw[jQ] at q;cases q;exact⟨ys,e1,r1⟩
   .rw [wQ z] at q;exact h1 a o q
  .intro a q Z
   obtain⟨x1,x2⟩:=f0 a q Z;have ag:H a≠none:=by rwa [x2]
   obtain⟨y1,y2⟩:=O a (by rwa [x1]) ag;exact⟨(wQ (show a≠D from fun z=>ag (z▸F))).trans (y1.trans x1),y2.trans x2⟩
section
variable {X:Cx}{pos:Pos}
def Jk(n:Nat)(q:jm->CH->(List PV->CH->Prop)->Prop)(t:nq)(c:gw):gw:=fun ρ C Q=>q ρ C fun ps C1=>uM n t c ρ Q ps [] C1
def ZP(hi:CI X tg it L F){Q:VK}(h:xJ X.K (Rep X.K) (Jk n F t c) σ H Q):Wx X.K n L (xJ X.K gL t) (xJ X.K (Rep X.K) c) σ H Q :=aQ h fun ρ C R s h q f=>hi.w σ H ρ C _ _ s h q fun J H' ps C' I j h' B D G=>GK j (s.cT (B.cT h)) h' I h B f G
def GOk(K:Ds)(n:Nat)(g:TG):Prop:=∀(q:St)(vs:List V)(a:Addr)(σ:St)(H:Hp)(Q:St->Hp->Prop),q.length=n->SqT K H a vs->vs.length=n->Q (vs.map some++σ) H->g (.ref a) (q++σ) H Q
def GT
  (S:X.calm=true)(K:∃q,fV X xs scope q)(Y:∀q F C G B,fV X xs scope q->PG (o4 X xs scope q F C G B) tg g)(O:GOk X.K xs.length g)(hi:CI X tg I wi J)(Z:∀q F C G B,CF (o4 X xs scope q F C G B) ab t)(U:∀q F C G B,CE (o4 X xs scope q F C G B) L c)(hs:∀v,foldedSetIterable I X.env v=pure v:=by intro _;rfl):CE X (.ListComp L [⟨tg,I,ab,0⟩] scope pos) (Jk xs.length J t c):=by
 obtain⟨q,K⟩:=K;exact⟨JE.weak ⟨QM S K (fun F C G B=>Y q F C G B K) O hi.j.h (fun F C G B=>(Z q F C G B).h.h) (fun F C G B=>(U q F C G B).h.h) hs⟩ fun _ _ _ h=>ZP hi h⟩
abbrev g2(K:Ds):TG:=gTup K 2 (oO (nM 0) (oO (nM 1) gNil))
def iC{α:Type}{l:List α}(h:l.length=1):∃a,l=[a]:=by
 cases l with
 |nil=>cases h
 |cons a l =>
  cases l with
  |nil=>exact⟨a,rfl⟩
  |cons b l=>cases h
def len2{α:Type}{l:List α}(h:l.length=2):∃a b,l=[a,b]:=by
 cases l with
 |nil=>cases h
 |cons a l =>
  obtain⟨b,rfl⟩:=iC (BC h);exact⟨a,b,rfl⟩
def Rx{K}:GOk K 2 (g2 K):=by
 intro L vs a σ H Q h1 h2 G q;obtain⟨I,J,rfl⟩:=len2 h1;obtain⟨F,B,rfl⟩:=len2 G;exact⟨a,[F,B],rfl,h2,rfl,F,[B],rfl,B,[],rfl,rfl,q⟩
def pg2(I:X.calm=true)(q:(x::y::X.N).Nodup)(K:fV X [x,y] scope G):
  PG (o4 X [x,y] scope G L C O J) (.Tuple [.Name x p1,.Name y p2] k p) (g2 X.K) :=
 have B:=Bm (K.hx x (by simp));have F:=Bm (K.hx y (by simp))
 W2 I (yC (zD q rfl (.inl B) (.inr B)) (yC (zD q rfl (.inl F) (.inr F)) JQ))
def GU
  (I:X.calm=true)(U:(x::y::X.N).Nodup)(K:∃q,fV X [x,y] scope q)(hi:CI X (.Tuple [.Name x p1,.Name y p2] k p) J wi O)(Z:∀q F C G B,CF (o4 X [x,y] scope q F C G B) ab t)(Y:∀q F C G B,CE (o4 X [x,y] scope q F C G B) S c)(hs:∀v,foldedSetIterable J X.env v=pure v:=by intro _;rfl):CE X (.ListComp S [⟨.Tuple [.Name x p1,.Name y p2] k p,J,ab,0⟩] scope pos) (Jk 2 O t c) :=
 GT I K (fun _ _ _ _ _ L=>pg2 I U L) Rx hi Z Y hs
end
end CL
namespace L2
open PySem PySem.W PySem.Spec PyProof.Rows
abbrev bX:=List (List Key)
abbrev KPt(H:Hp):List (bX×V)->List (bX×Addr×Value)->Prop:=Paired fun p q=>p.1=q.1/\mj H p.1 q.2.1/\RelV p.2 q.2.2
def KPt.val(r:KPt H kvs xs)k:RelO (iV kvs k) ((atKey xs k).map (·.2)):=by
 induction r with
 |nil=>exact True.intro
 |@cons p q ps qs h t B =>
  obtain⟨h1,_,h2⟩:=h
  by_cases e:p.1=k
  .have b:atKey (q::qs) k=some q.2:=by simp[atKey,List.find?_cons,h1.symm.trans e]
   rwa [gU e,b]
  .have b:atKey (q::qs) k=atKey qs k:=by
    simp[atKey,List.find?_cons,(show ¬ q.1=k from fun z=>e (h1.trans z))]
   rwa [bU e,b]
def KPt.repl(r:KPt H kvs xs)k(I:RelV y u):
  KPt H (kvs.map fun B=>if B.1=k then (B.1,y) else B) (xs.map (putAt k u)):=by
 induction r with
 |nil=>exact .nil
 |@cons p q ps qs h t F =>
  refine .cons (oS h fun h1 h2 G=>?_) F
  delta putAt
  by_cases e:p.1=k
  .lia
  .lia
theorem KPt.put(r:KPt H kvs xs)(k:bX)(F:mj H k b)(B:RelV y u):
  KPt H (jJ kvs k y) (storedH xs k b u):=by
 have e:(kvs.any fun G=>decide (G.1=k))=(atKey xs k).isSome:=by
  rw[sF,(r.val k).isSome_eq,DP]
 delta jJ storedH
 rw[e]
 by_cases q:(atKey xs k).isSome=true
 .rw [Ah q,Ah q];exact r.repl k B
 .rw [Af q,Af q];exact Paired.snoc r ⟨rfl,F,B⟩
def KPt.keeps(r:KPt H kvs xs)(q:∀b ys,H b=some (.tup ys)->H' b=some (.tup ys)):KPt H' kvs xs :=
 Paired.mapP r fun _ _ z=>⟨z.1,z.2.1.mono q,z.2.2⟩
section
variable {P:Program}{w:World}{H:Hp}{h:Heap}{a:Addr}
theorem Xe(F:HOk P w H h):∀{B}{bs}{q},Paired (fun G c=>H c=some (.tup (G.map kV))) B bs->Vals (bs.map V.ref) q->gj (tQ P w) h B q
 |_,_,_,.nil,r=>by cases r;exact .nil
 |_,_,_,.cons e t,r=>by
  cases r with
  |cons I J =>
   cases I;exact .cons (vF F e) (Xe F t J)
def nB{q:bX}(B:HOk P w H h)(e:mj H q a):(pK (tQ P w)).is h q a:=by
 obtain⟨bs,F,J⟩:=e;obtain⟨_,I,r,o,h1,h2,⟨n,G⟩,_⟩:=(B a _ F);exact⟨o,I.toArray,n,h1,h2,G,by exact List.toList_toArray▸Xe B J r⟩
def Kj{kvs:List (bX×V)}(G:HOk P w H h)(e:H a=some (.dP kvs)):kvs.length<=sizeLine/\(a==sysModules)=false /\
  ∃xs,KPt H kvs xs/\h.DictOfH (pK (tQ P w)) a xs:=by
 obtain⟨z,y,xs,r,o,es,ep,h1,h2,J,L,O⟩:=(G a _ e);refine⟨z,y,xs,r,o,es,ep,h1,h2,J,L,fun x B=>?_,O⟩
 have I:∀{l:List (bX×V)}{m:List (bX×Addr×Value)},KPt H l m->∀x∈m,(pK (tQ P w)).is h x.1 x.2.1:=by
  intro l m q
  induction q with
  |nil=>intro x B;exact nomatch B
  |@cons p q ps qs F t S =>
   intro x B
   rcases AZ.mp B with e | B
   .subst e
    exact nB G (F.1▸F.2.1)
   .exact S x B
 exact I r x B
end
def HN(H:Hp)(a:Addr)(y:V)(r:Option V):Prop:=∃kvs k b,H a=some (.dP kvs)/\y=.ref b/\mj H k b/\r=iV kvs k
def Tz(H:Hp)(a:Addr)(y v:V)(H':Hp):Prop:=∃kvs k b,H a=some (.dP kvs)/\y=.ref b/\mj H k b/\kvs.length < sizeLine/\H'=upd H a (.dP (jJ kvs k v))
section
variable {X:Cx}{pins:List (Addr×Obj)}{σ:St}{H:Hp}{s:Shared}{a:Addr}{y v:V}{u r:Value}{o:Option V}{A:Around}{E:Value->Shared->Prop}
def Vb(L:A.units+2 < cLine)(I:Inv X pins σ H s)(g:HN H a y (some v))(Y:RelV y u)(h:∀q s',Inv X pins σ H s'->RelV v q->Q q s'):
  wpAny (model X.prog X.w) A (getItem (.ref a) u) Q E s:=by
 obtain⟨kvs,k,b,e,rfl,F,l⟩:=g;cases Y;obtain⟨z,Z,xs,S,B⟩:=Kj I.hok e;refine dQ (RelO.some_of (l▸S.val k)) fun q O U=>dQ (Cm.mp O) fun p G J=>?_;exact wpAny_getItem_heap (mK L) (nB I.hok F) B G (J▸h q _ (I.tok _) U)
def Va(hu:A.units+2 < cLine)(I:Inv X pins σ H s)(g:Tz H a y v H')(ry:RelV y u)(rv:RelV v r)(h:∀s',Inv X pins σ H' s'->Q () s'):
  wpAny (model X.prog X.w) A (setItem (.ref a) u r) Q E s:=by
 refine Gj g fun kvs k b e U B l S=>?_;subst U S;cases ry;obtain⟨z,ab,xs,J,L⟩:=Kj I.hok e;have hz:xs.length<=sizeLine:=by rwa [<- Paired.length J]
 have hl:(jJ kvs k v).length<=sizeLine:=by have:=yK kvs k v;lia
 refine wpAny_setItem_heap (mK hu) (nB I.hok B) L fun h' O hs=>h _ (Gi O fun q es ep G h2 Y Z _ h5=>dD I (e▸True.intro) hs ⟨q,G⟩ ⟨hl,ab,_,(J.put k B rv).keeps fun c ys F=>?_,q,es,ep,G,h2,Y,Z,h5⟩);rw[pQ (JY F e (fun z=>nomatch z))];exact F
def Ms(O:A.units+2 < cLine)(I:Inv X pins σ H s)(g:HN H a y o)(U:RelV y u)(h:∀G s',Inv X pins σ H s'->RelV (o.getD .non) G->Q G s'):
  wpAny (model X.prog X.w) A (call (.builtin "dict.get") [.ref a,u]) Q E s:=by
 obtain⟨kvs,k,b,e,rfl,J,l⟩:=g;cases U;obtain⟨z,L,xs,S,F⟩:=Kj I.hok e;refine Df Bg F.typeIs Dh (PySem.F.args_dict_get_2 _ _) (meetsH_dict_get (pK (tQ X.prog X.w)) a b L) ⟨mK O,k,xs,nB I.hok J,F,h _ _ (I.tok _) ?_⟩;rw[l];have q:=S.val k
 cases z:iV kvs k with
 |none =>
  cases B:atKey xs k with
  |none=>rfl
  |some p=>rw[z,B] at q;exact q.elim
 |some Y =>
  cases B:atKey xs k with
  |none=>rw[z,B] at q;exact q.elim
  |some p=>rwa [z,B] at q
def Ki{kvs:List (bX×V)}(I:Inv X pins σ H s)(e:H a=some (.dP kvs)):s.TypeIs (.ref a) "dict":=by
 obtain⟨_,_,xs,_,q⟩:=Kj I.hok e;exact q.typeIs
end
section
variable {X:Cx}{o i e value:Expr}{pos pos':Pos}{td ty tv:TE}
def Pr(td ty:TE):TE:=fun σ H Q=>td σ H fun x H1=>ty σ H1 fun y H2=>∃a v,x=.ref a/\HN H2 a y (some v)/\Q v H2
def PL(td ty tv:TE):TS:=fun D σ H=>tv σ H fun v H1=>td σ H1 fun x H2=>ty σ H2 fun y B=>∃a q,x=.ref a/\Tz B a y v q/\D.nx σ q
def yt(J:X.A.units+2 < cLine)(G:PE X o td)(hi:PE X i ty)(hs:X1 i):PE X (.Subscript o i pos) (Pr td ty):=by
 intro pins s σ H Q I h;refine sE DK.lookup hs (thn (G pins s σ H _ I h) fun u s1 zz=>nX zz fun x H1 B U L=> thn (hi pins s1 σ H1 _ B L) fun iv ab Z=>?_);obtain⟨y,H2,q,Y,a,v,rfl,g,O⟩:=Z;obtain rfl:u=Value.ref a:=U;exact⟨let ⟨_,_,_,e,_⟩:=g;Ki q e,Vb J q g Y fun w' ae F S=>⟨v,H2,F,S,O⟩⟩
def ye(S:X.A.units+2 < cLine)(O:PE X o td)(hi:PE X i ty)(U:PE X value tv)(hs:swapsWith value (some (.Subscript o i pos')) pos.line X.env=pure false):
  PS X (.Assign [.Subscript o i pos'] value pos) (PL td ty tv):=by
 intro pins s σ H D I h;refine De (thn (U pins s σ H _ I h) fun r s1 q=>nX q fun v H1 F rv Y=> thn (O pins s1 σ H1 _ F Y) fun u ab q=>nX q fun x H2 G rx Z=> thn (hi pins ab σ H2 _ G Z) fun iv ae zq=>?_) hs;obtain⟨y,H3,J,ry,a,B,rfl,g,q3⟩:=zq;obtain rfl:u=Value.ref a:=rx;exact Va S J g ry rv fun af L=>⟨σ,B,L,q3⟩
def Pq:TE:=fun _ H Q=>∀p,H p=none->Q (.ref p) (upd H p (.dP []))
def Xt(h:Heap)(F:sysModules < h.objs.size):ObjOk P w H (h.push { cls:=.type "dict",data:=.dict #[] }) h.objs.size (.dP []):=by
 obtain⟨z,y,xs,r,rest⟩:=(show ObjOk P w H (h.push { cls:=.type "dict",data:=.dict #[] }) h.objs.size (.dT []) from gR h F);refine Gj rest fun o es ep h1 h2 q B G=>?_;cases r;exact⟨z,y,[],.nil,o,es,ep,h1,h2,q,B,BS⟩
def yr:PE X (.Dict [] [] pos) Pq:=by
 intro pins s σ H Q I h;exact DY ⟨.ref s.heap.objs.size,_,I.laid (t':=s.toks) (fun _ _ q=>AC _ q) (AI _) (Xt s.heap I.big),rfl,h _ (I.hok.fresh (AI _))⟩
end
end L2
namespace CL
open PySem PySem.Spec L2 PySem.W
open PyProof.Rows hiding St
section
variable {X:Cx}{a b c e o i f value:Expr}{es:List Expr}{pos pos':Pos}
@[irreducible] def cInt:GC:=fun ts C Q=>match ts with
 |[.bl b]=>Q (.int (if b then 1 else 0)) C
 |[.int i]=>Q (.int i) C
 |_=>False
def yN{K}:ud K (fun xs H Q=>(∃i,xs=[.int i]/\Q (.int i) H)\/∃k,xs=[.bl k]/\Q (.int (if k then 1 else 0)) H) cInt:=fun xs ts H C Q R B h q f=>by
 delta cInt at q
 split at q
 .obtain ⟨v,rfl,r⟩:=aX B
  cases r;exact .inr ⟨_,rfl,f _ H _ C q (.int _) h Fw.refl⟩
 .obtain ⟨v,rfl,r⟩:=aX B
  cases r;exact .inl ⟨_,rfl,f _ H _ C q (.int _) h Fw.refl⟩
 .exact q.elim
@[irreducible] def bN:PV->List PV->CH->K1->Prop:=fun x ts C Q=>match x,ts with
 |.ref a,[.ref b]=>match C a,C b with
  |some (.lst xs),some (.lst ys)=>xs.length+ys.length<=sizeLine/\Q .non (gQ C a (.lst (xs++ys)))
  |_,_=>False
 |_,_=>False
def bF{K}:vf K JJ bN:=fun x Y xs ps H C Q R S O h q f=>by
 delta bN at q
 split at q
 .split at q
  .next ys zs F J =>
   refine dQ (h _ _ F) fun vs B G=>dQ (h _ _ J) fun U L I=>?_;obtain⟨v,rfl,r⟩:=aX O;cases S;cases r
   exact⟨_,_,vs,U,rfl,rfl,B,L,by exact G.len▸I.len▸q.1,f _ _ _ _ q.2 .non (h.put B rfl ⟨_,uQ,(G.append I).cT (iz.mut B rfl _)⟩) (Fw.put F _ _)⟩
  .exact q.elim
 .exact q.elim
def cBM0(B:PV->List PV->CH->K1->Prop)(q:gw):gw:=fun ρ C Q=>q ρ C fun x C1=>Ru x C1/\B x [] C1 Q
def GW{id}{apos cpos}(pa:PlainAttrs "list")(ae:Slot "list" name id)(Z:typeOf (.builtin id)=pure (.type "method_descriptor"))(S:MtR X id r)(Y:vf X.K r G)(U:CE X o F)(L:attributeBase o name X.env (eval o X.env)=eval o X.env:=by rfl)(O:(apos.endLine==cpos.line)=true:=by rfl):CE X (.Call (.Attribute o name apos) [] [] cpos) (cBM0 G F):=⟨JE.weak ⟨Zx pa ae Z S U.h.h L O⟩ fun σ H Q zz=>aQ zz fun ρ C R s h ab f=>
 ⟨ρ,C,_,s,h,ab,fun x H1 px C1 q B h1 J=>⟨YR q.1 B h1,Y x px [] [] H1 C1 Q R B .nil h1 q.2 fun v H' t C' q' r' h' I=>f v H' t C' q' r' h' (J.trans I)⟩⟩⟩
@[irreducible] def iD:PV->List PV->CH->K1->Prop:=fun x ts C Q=>match x,ts with
 |.ref a,[]=>match C a with
  |some (.lst xs)=>Q .non (gQ C a (.lst xs.reverse))
  |_=>False
 |_,_=>False
def XE{K}:vf K QC iD:=fun x L xs ps H C Q R J G h q f=>by
 delta iD at q
 split at q
 .split at q
  .next ys F =>
   obtain⟨vs,B,I⟩:=(h _ _ F);cases G;cases J;exact⟨_,vs,rfl,rfl,B,f _ _ _ _ q .non (h.put B rfl ⟨_,uQ,I.reverse.cT (iz.mut B rfl _)⟩) (Fw.put F _ _)⟩
  .exact q.elim
 .exact q.elim
@[irreducible] def Hh:PV->Option Int->Option Int->CH->K1->Prop:=fun x lo hi C Q=>match x with
 |.tup xs=>¬ (HT.sIx xs.length 0 lo=0/\HT.sIx xs.length xs.length hi=xs.length)/\Q (.tup (aG xs lo hi)) C
 |_=>False
def uP{lo}(Z:CE X e L)(hl:O7 X lo O)(hu:O7 X hi ch):CE X (.Subscript e (.Slice lo hi none p2) pos) (cSl Hh L O ch):=⟨JE.weak ⟨QK sl_tup Z.h.h hl.h.h hu.h.h⟩ fun σ H Q zz=>aQ zz fun ρ C R s h ab f=>
 ⟨ρ,C,_,s,h,ab,fun x H1 px C1 q1 rx h1 B=>⟨ρ,C1,_,s.cT (B.cT h),h1,q1,fun l H2 l' C2 q2 S h2 F=>⟨ρ,C2,_,(s.cT (B.cT h)).cT (F.cT h1),h2,q2,fun u H3 u' J q U Y I=>by
  cases S;cases U
  delta Hh at q
  split at q
  .have ae:=rx.cT ((F.trans I).cT h1)
   cases ae with
   |@tup a vs ts e r =>
    exact⟨a,vs,rfl,SqT.of e,by rw[r.len];exact q.1,fun p G=>f _ _ _ J q.2 (.tup uQ ((r.cut l u).cT (iz.new G _))) (Y.new G _) (B.trans (F.trans (I.trans (Fw.new G _))))⟩
  .exact q.elim⟩⟩⟩⟩
noncomputable def jO:List PV->Option bX
 |[]=>some []
 |t::r=>match eM t,jO r with
  |some k,some q=>some (k::q)
  |_,_=>none
noncomputable def sY:PV->Option bX
 |.tup ts=>jO ts
 |_=>none
def K8{K}(r:d9 K H vs ts)(e:jO ts=some B):∃bs,vs=bs.map V.ref/\Paired (fun q c=>H c=some (.tup (q.map kV))) B bs:=by
 induction ts generalizing vs B with
 |nil=>cases r;cases e;exact⟨[],rfl,.nil⟩
 |cons t ts J =>
  cases r with
  |cons h r =>
   unfold jO at e
   split at e
   .next k q F G =>
    cases e;obtain⟨b,rfl,I⟩:=eF h F;obtain⟨bs,rfl,p⟩:=J r G;exact⟨b::bs,rfl,.cons I p⟩
   .cases e
def sU{K}(r:Rep K H v t)(e:sY t=some q):∃b,v=.ref b/\mj H q b:=by
 cases r<;>try (cases e)
 next a vs ts h r =>
  obtain⟨bs,rfl,p⟩:=K8 r e;exact⟨a,rfl,bs,h,p⟩
def SM:gw:=fun _ C Q=>∀p,C p=none->Q (.ref p) (gQ C p (.dP []))
def bI:CE X (.Dict [] [] pos) SM:=⟨JE.weak ⟨yr⟩ fun σ H Q F=>aQ F fun ρ C R s h q f=> fun p B=>f (.ref p) _ (.ref p) _ (q p (h.fresh B)) (.ref p) (h.lay B ⟨[],uQ,.nil⟩) (Fw.lay B _ _)⟩
@[irreducible] def Hl:ul:=fun x y C Q=>match x with
 |.ref a=>match C a,sY y with
  |some (.dP kvs),some k=>match zZ kvs k with
   |some v=>Q v C
   |none=>False
  |_,_=>False
 |_=>False
def GP(hu:X.A.units+2 < cLine)(Z:CE X o L)(hi:CE X i J)(hs:X1 i):CE X (.Subscript o i pos) (ur Hl L J):=⟨JE.weak ⟨yt hu Z.h.h hi.h.h hs⟩ fun σ H Q zz=>aQ zz fun ρ C R s h ab f=>
 ⟨ρ,C,_,s,h,ab,fun x H1 px C1 q1 rx h1 G=>⟨ρ,C1,_,s.cT (G.cT h),h1,q1,fun y H2 af C2 q ry h2 I=>by
  delta Hl at q
  split at q
  .next a =>
   split at q
   .next kvs k O S =>
    split at q
    .next t F =>
     have ae:=rx.cT (I.cT h1);cases ae;refine dQ (h2 a _ O) fun vs Y r=>?_;obtain⟨b,rfl,U⟩:=sU ry S
     rcases FP.val r k with ⟨v,t',l1,B,rv⟩ | ⟨_,B⟩
     .rw [F] at B
      cases B;exact⟨a,v,rfl,⟨vs,k,b,Y,rfl,U,l1.symm⟩,f v H2 t C2 q rv h2 (G.trans I)⟩
     .rw [F] at B;cases B
    .exact q.elim
   .exact q.elim
  .exact q.elim⟩⟩⟩
@[irreducible] def KD:PV->PV->PV->CH->(CH->Prop)->Prop:=fun x y v C Q=>match x with
 |.ref a=>match C a,sY y with
  |some (.dP kvs),some k=>kvs.length < sizeLine/\Q (gQ C a (.dP (ig kvs k v)))
  |_,_=>False
 |_=>False
def SJ(G F I:gw):km:=fun E ρ C=>I ρ C fun v C1=>G ρ C1 fun x C2=>F ρ C2 fun y q=>KD x y v q fun B=>E.nx ρ B
def Kq{L O}(hu:X.A.units+2 < cLine)(ho:CE X o Y)(hi:CE X i L)(hv:CE X value O)(hs:swapsWith value (some (.Subscript o i pos')) pos.line X.env=pure false:=by rfl):
  CS X (.Assign [.Subscript o i pos'] value pos) (SJ Y L O):=⟨JS.weak ⟨ye hu ho.h.h hi.h.h hv.h.h hs⟩ fun D σ H zz=>aQ zz fun ρ C E s h ab f=>
 ⟨ρ,C,_,s,h,ab,fun v H1 ag C1 q1 rv h1 B=>⟨ρ,C1,_,s.cT (B.cT h),h1,q1,fun x H2 px C2 q2 rx h2 F=>⟨ρ,C2,_,(s.cT (B.cT h)).cT (F.cT h1),h2,q2,fun y J ah C3 q ry U G=>by
  have ae:=rv.cT ((F.trans G).cT h1)
  delta KD at q
  split at q
  .next a =>
   split at q
   .next kvs k S Z =>
    have af:=rx.cT (G.cT h2);cases af;refine dQ (U a _ S) fun vs I r=>?_;obtain⟨b,rfl,eb⟩:=sU ry Z;have m:iz J (upd J a (.dP (jJ vs k v))):=iz.mut I rfl _;refine⟨a,_,rfl,⟨vs,k,b,I,rfl,eb,by exact(Paired.length r)▸q.1,rfl⟩,f.nx σ _ ρ _ q.2 ((((s.cT (B.cT h)).cT (F.cT h1)).cT (G.cT h2)).cT m) (U.put I rfl ⟨_,uQ,Paired.mapP (FP.ig r k ae) fun _ _ z=>⟨z.1,z.2.cT m⟩⟩) (B.trans (F.trans (G.trans (Fw.put S _ _))))⟩
   .exact q.elim
  .exact q.elim⟩⟩⟩⟩
end
section
variable {X:Cx}
end
section
variable {X:Cx}{pos:Pos}
noncomputable def cJ(k:List Key):PV:=.tup (k.map cW)
end
end CL
namespace PySem
section
variable {prog:Program}{w:World}{A:Around}{E:Value->Shared->Prop}{s:Shared}
def ZN:typeLookup (.type "list_reverseiterator") "__len__" = pure none:=by rw[DA,B6];kernel_rfl
def YB:typeLookup (.type "list_reverseiterator") "__length_hint__" = pure (some (.builtin "list_reverseiterator.__length_hint__")):=by kernel_rfl
def Z4(hh:A.handled=none)(ak:l≠I)items S res ab(Y:S≠I)(ah:S≠l)(O:s.heap.IsRevIter I l ((items.size:Int) - 1))(hl:s.heap.IsList l items)(hS:s.heap.get? S=some { cls:=.type "list",data:=.seq #[] ab })(hR:∀h' tk G q,(∀b o,b≠S->b≠I->s.heap.get? b=some o->h'.get? b=some o)->h'.get? S=some { cls:=.type "list",dict:=none,data:=.seq G q,slots:=#[] } ->
   ItemsOf (fun i v=>items[items.size - 1 - i]?=some v) G items.size->R (.ok (.ret res)) { s with heap:=h',toks:=tk })(hn:items.size<=sizeLine):
  wpAny (model prog w) A.in1 (Builtin.List.listExtendWith (.ref S) (.ref I) res)
   (fun ae s'=>match ae with | .done f=>R (.ok f) s' | .again q=>q.quiet=true/\codeAny (model prog w) A q R s') (fun e s'=>R (.error e) s') s:=by
 have ag:S∉[I,l]:=fun L=>by
  rcases AZ.mp L with e | e
  .exact Y e
  .exact ah (AF.mp e)
 have J:=O.typeIs
 delta Builtin.List.listExtendWith
 refine AA (CM J ?_);have h1:Builtin.List.listSameRef (.ref S) (.ref I)=false:=by simp[Builtin.List.listSameRef,Y]
 have h2:(Value.type "list_reverseiterator" == Value.type "list")=false:=by decide
 have h3:(Value.type "list_reverseiterator" == Value.type "tuple")=false:=by decide
 simp only[h1,h2,if_false]
 refine AA (wpAny_pyIter_revIter O (AA (As (AA (Ar J ZN (AA (Ar J YB ?_)))))));generalize Z:("list_reverseiterator.__length_hint__" : String)=ao
 wp_delta
 rw[show splitId ao=some ("list_reverseiterator","__length_hint__") from by subst Z;decide +kernel];subst Z;refine AA (BB (b:=true) J (by kernel_rfl) (A6 (fun B=>absurd B (by decide)) (fun _=>?_)));refine A6 (fun _=>?_) (fun B=>absurd (by decide +kernel) B);refine A6 (fun B=>absurd B (by decide +kernel)) (fun _=>?_)
 apply AD
 have W:=(Walks.listRev (prog:=prog) (w:=w) (A:=A.in1) hh I l ak items).toS;refine AD ⟨BH F.plain_extend_loop _,codeAny_extend_loopS W hn _ ag _ items.size 0 _ _ _ rfl (AW _) ⟨AW _,by simpa using O,hl⟩ hS (ItemsOf.nil _) fun s' G q L af ai=>?_⟩;rw[Moved.eq_with L];refine hR s'.heap s'.toks G q (fun b ob hb aj e=>L.heap b ob (fun U=>?_) e) af ai
 rcases AZ.mp U with e' | U
 .exact hb e'
 .exact aj (AF.mp U)
def lS(hh:A.handled=none)(ah:l≠I)items S(L:S≠I)(O:S≠l)(ag:s.heap.IsRevIter I l ((items.size:Int) - 1))(hl:s.heap.IsList l items)(G:s.heap.get? S=some { cls:=.type "list",data:=.seq #[] })(Y:∀h' tk B q,(∀b o,b≠S->b≠I->s.heap.get? b=some o->h'.get? b=some o)->h'.get? S=some { cls:=.type "list",dict:=none,data:=.seq B q,slots:=#[] } ->
   ItemsOf (fun i v=>items[items.size - 1 - i]?=some v) B items.size->R (.ok (.ret .none)) { s with heap:=h',toks:=tk })(hn:items.size<=sizeLine):
  wpAny (model prog w) A.in1 (Builtin.«list.__init__» ⟨[.ref S,.ref I],[]⟩)
   (fun U s'=>match U with | .done f=>R (.ok f) s' | .again q=>q.quiet=true/\codeAny (model prog w) A q R s') (fun e s'=>R (.error e) s') s:=by
 apply AA
 refine AA (Bp G rfl (AD (AA (B1 G rfl ?_))));have ab:=Al (Obj.mapSeq (fun _=>(#[]:Array Value))) G rfl
 have J:∀b o,b≠S->s.heap.get? b=some o->(s.heap.update S (Obj.mapSeq (fun _=>(#[]:Array Value)))).get? b=some o :=
  fun b o F e=>(Ac _ _ (Ne.symm F)).trans e
 exact AA (wpAny_letGo (Z4 (s:={ s with heap:=s.heap.update S (Obj.mapSeq (fun _=>(#[]:Array Value))) }) hh ah items S .none _ L O (ag.at fun o e=>J I o (Ne.symm L) e) (hl.at fun o e=>J l o (Ne.symm O) e) ab (fun h' tk B q hk Z ae=>Y h' tk B q (fun b o F af e=>hk b o F af (J b o F e)) Z ae) hn))
def iS(hh:A.handled=none)(ag:l≠I)items(L:s.heap.IsRevIter I l ((items.size:Int) - 1))(O:s.heap.IsList l items)(Z:∀h' tk q B,(∀b o,b≠I->s.heap.get? b=some o->h'.get? b=some o)->h'.get? s.heap.objs.size=some { cls:=.type "list",dict:=none,data:=.seq q B,slots:=#[] } ->
   ItemsOf (fun i v=>items[items.size - 1 - i]?=some v) q items.size->Q (.ref s.heap.objs.size) { s with heap:=h',toks:=tk })(hn:items.size<=sizeLine):
  wpAny (model prog w) A (call (.type "list") [.ref I]) Q E s:=by
 have Y:=let ⟨o,G,_⟩:=L;AH G
 have af:=let ⟨o,G,_⟩:=O;AH G
 refine DG (Q₁:=fun S U=>S=.ref s.heap.objs.size/\U={ s with heap:=s.heap.push { cls:=.type "list",data:=.seq #[] } }) F.called_list (F.typeCall_list_1 _) F.entry_list_init
  (code_list_new _ ⟨rfl,rfl⟩) fun S U ah=>?_
 obtain⟨rfl,rfl⟩:=ah;have J:(s.heap.push { cls:=.type "list",data:=.seq #[] }).get? s.heap.objs.size=some { cls:=.type "list",data:=.seq #[] }:=AL _ rfl;refine⟨⟨_,J,rfl⟩,F.args_list_init_2 _ _,lS (A:=A.in1) hh ag items _ (fun e=>A7 _ (e▸Y)) (fun e=>A7 _ (e▸af)) (L.at fun o e=>AC _ e) (O.at fun o e=>AC _ e) J (fun h' tk q B hk ab ae=>?_) hn⟩
 exact⟨rfl,Z h' tk q B (fun b o hb e=>hk b o (AV (AH e)) hb (AC _ e)) ab ae⟩
end
end PySem
namespace L2
open PySem PySem.W PyProof.Rows
noncomputable def drop(H:Hp)(a:Addr):Hp:=fun b=>if b=a then none else H b
theorem aO: drop H a a=none :=by grind[drop]
theorem xN(h:b≠a):drop H a b=H b :=by grind[drop]
def Xs(h:H a=none):drop (upd H a o) a=H :=by grind[aO,xN,pQ]
section
variable {X:Cx}{pins:List (Addr×Obj)}{σ:St}{H:Hp}{s:Shared}{h':Heap}
def Inv.gone{l:Addr}(I:Inv X pins σ H s)(F:H it=some (.ext φ))(h0:X.s₀.heap.objs.size<=it)(k:∀b o,b≠it->s.heap.get? b=some o->h'.get? b=some o)(J:s.heap.objs.size<=l)(ab:ObjOk X.prog X.w (upd (drop H it) l o) h' l o):Inv X pins σ (upd (drop H it) l o) { s with heap:=h',toks:=t' }:=by
 have ae:∀{b u},H b=some u->b≠l:=fun e z=>by rw[z,(I.hok.fresh J)] at e;cases e
 have Z:∀{b u},H b=some u->(∀L,u≠.ext L)->b≠it:=fun e h z=>by rw[z,F] at e;exact h φ (Au e).symm
 have G:∀{b u},H b=some u->(∀L,u≠.ext L)->upd (drop H it) l o b=some u:=fun e h=>by rwa [pQ (ae e),xN (Z e h)]
 refine I.step (g':=s.gens) (d':=s.drawn) (ch:=[it]) (fun b hb=>?_) (fun b o _ _ B e _=>k b o (fun z=>B (by simp[z])) e) (fun b o _ _ B e _=>⟨o.slots,k b o (fun z=>B (by simp[z])) e⟩) (fun b u B e n=>?_)
  (fun b o B e=>⟨o,k b o (fun z=>B (by simp[z])) e⟩) (fun b xs e=>G e fun _ z=>nomatch z) (fun b o u e=>G e fun _ z=>nomatch z) (fun b ps e=>⟨#[],by rw[G e fun _ z=>nomatch z];simp⟩) (fun m U=>?_) (fun b u e=>?_) I.bare
 .have e:b=it :=by grind
  subst e;refine⟨.inr h0,fun z=>?_,fun x c e z=>?_,fun p J z=>?_⟩
  .rw [z,I.free] at F;cases F
  .have:=I.freeC x c e;rw[z,F] at this;cases this
  .have:=(I.pin p J).2.1;rw[z,F] at this;cases this
 .rw [pQ (AV (AK (AH e) J)),xN (fun z=>B (by simp[z]))];exact n
 .exact Gk U fun o es ep Y r=>⟨o,es,ep,k _ o (fun z=>by have:=I.free;rw[z,F] at this;cases this) Y,r⟩
 .by_cases S:b=l
  .subst S;rw[uQ] at e;cases e;exact ab
  .rw [pQ S] at e
   by_cases O:b=it
   .rw [O,aO] at e;cases e
   .rw [xN O] at e
    refine(I.hok b u e).stay (fun c v B q=>k c v ?_ q) (fun c q=>G q fun _ z=>nomatch z) fun c xs q=>G q fun _ z=>nomatch z
    rcases B with z | z
    .rwa [z]
    .lia
end
section
variable {X:Cx}
abbrev Iw(z:Nat)(it p:Addr)(n:Nat):Heap->Prop:=fun h=>z<=it/\h.IsRevIter it p ((n:Int) - 1)
def eS:CallR X (.type "reversed") (fun xs H Q=>∃p ys,xs=[.ref p]/\H p=some (.lst ys)/\∀it,H it=none->Q (.ref it) (upd H it (.ext (Iw X.s₀.heap.objs.size it p ys.length)))):=by
 intro pins s σ H xs us Q I r h;obtain⟨p,ys,rfl,F,q⟩:=h;obtain⟨u,rfl,rfl⟩:=jU r;refine xZ (I.list (SqL.of F)) fun O J G L=>call_reversed_list G.isList ⟨.ref s.heap.objs.size,_,I.laid (t':=s.toks) (fun b o e=>AC _ e) (AI _) ?_,rfl,q _ (I.hok.fresh (AI _))⟩;refine⟨⟨I.sz,_,AL _ rfl,rfl,by simp[revObj,J.length]⟩,⟨_,AL _ rfl⟩,?_⟩
 rintro h1 h2 ⟨z,B⟩ e;exact⟨z,B.at e⟩
def Qn(r:Vals ys B):Vals ys.reverse B.reverse:=by
 induction r with
 |nil=>exact .nil
 |cons h _ q=>rw[B8,B8];exact q.append (.cons h .nil)
def lI(U:X.calm=true):CallR X (.type "list") (fun xs H Q=>∃it p ys,xs=[.ref it]/\H it=some (.ext (Iw X.s₀.heap.objs.size it p ys.length))/\H p=some (.lst ys)/\∀l,H l=none->Q (.ref l) (upd (drop H it) l (.lst ys.reverse))):=by
 intro pins s σ H xs us Q I r h;obtain⟨it,p,ys,rfl,hi,B,ab⟩:=h;obtain⟨u,rfl,rfl⟩:=jU r;obtain⟨q,J,pl,Z⟩:=(I.list (SqL.of B));have af:=J.length;obtain⟨⟨h0,ag⟩,_,_⟩:=(I.hok it _ hi);have Y:p≠it:=fun z=>by rw[z,hi] at B;cases B
 refine iS (I.ok.hd U) Y q.toArray (by grind) pl.isList (fun h' tk F L kp e G=>?_) (by grind)
 have S:F=q.reverse.toArray:=by
  apply Array.ext
  .rw [G.1,Aj,Aj,BN]
  .intro i h1 h2
   have:=G.2 i F[i] (DO h1);rw[Aj,Cv] at this;have ae:i < q.length :=by simp_all
   rw[AM (by omega)] at this;have O:q.reverse.toArray[i]=q[q.length - 1 - i]:=by simp
   exact O▸(Au this).symm
 subst S;exact⟨.ref s.heap.objs.size,_,I.gone (t':=tk) hi h0 kp (AI _) (show ObjOk X.prog X.w _ h' _ (.lst ys.reverse) from⟨by rw[BN];exact Z,q.reverse,L,Qn J,e⟩),rfl,ab _ (I.hok.fresh (AI _))⟩
end
end L2
namespace CL
open PySem PySem.Spec L2 PySem.W
open PyProof.Rows hiding St
section
variable {X:Cx}{a b c e o i f value:Expr}{es:List Expr}{pos pos':Pos}
@[irreducible] def Hj:PV->CH->K1->Prop:=fun x C Q=>match x with
 |.ref a=>match C a with
  |some (.lst xs)=>∀p,C p=none->Q (.ref p) (gQ C p (.lst xs.reverse))
  |_=>False
 |_=>False
def G9(q:gw):gw:=fun ρ C Q=>q ρ C fun x C1=>Hj x C1 Q
def Jb(O:X.calm=true)(U:Gl X "list")(Y:Gl X "reversed")(Z:X.mg "list" = none)(ab:X.mg "reversed" = none)(S:CE X e I)(hs:noStar e=true:=by rfl):
  CE X (.Call (.Name "list" p) [.Call (.Name "reversed" p2) [e] [] ag] [] pos) (G9 I):=⟨JE.weak (gG (lI O) U Z rfl (yD (gG eS Y ab rfl (yD S.h ⟨oV⟩ hs) (by decide) rfl hs rfl) ⟨oV⟩)) fun σ H Q zz=>aQ zz fun ρ C R s h af f=>
  ⟨ρ,C,_,s,h,af,fun x H1 px C1 B rx h1 L=>by
   delta Hj at B
   split at B
   .split at B
    .next xs J =>
     obtain⟨vs,F,rv⟩:=(h1 _ _ J);cases rx;refine⟨_,vs,rfl,F,fun it G=>⟨it,_,vs,rfl,uQ,?_,fun l q=>?_⟩⟩
     .rw [pQ (fun z=>by rw[z,G] at F;cases F)];exact F
     .have ae:l≠it:=fun z=>by rw[z,uQ] at q;cases q
      rw[pQ ae] at q;rw[Xs G];exact f _ _ _ _ (B l (h1.fresh q)) (.ref l) (h1.lay q ⟨_,uQ,rv.reverse.cT (iz.new q _)⟩) (L.trans (Fw.lay q _ _))
    .exact B.elim
   .exact B.elim⟩⟩
@[irreducible] def Hk:PV->List PV->CH->K1->Prop:=fun x ts C Q=>match x,ts with
 |.ref a,[]=>match C a with
  |some (.lst xs)=>match xs[xs.length - 1]? with
   |some y=>Q y (gQ C a (.lst xs.dropLast))
   |none=>False
  |_=>False
 |_,_=>False
def Fo{K}:vf K rPop Hk:=fun x Y xs ps H C Q R U S h q f=>by
 delta Hk at q
 split at q
 .split at q
  .next ys G =>
   split at q
   .next y I =>
    obtain⟨vs,B,F⟩:=(h _ _ G);cases S;cases U;obtain⟨v,L,O⟩:=(F.get I)
    have J:d9 K H vs.dropLast ys.dropLast:=by
     rw[List.dropLast_eq_take,List.dropLast_eq_take,F.len];exact F.take _
    exact⟨_,vs,v,rfl,rfl,B,by exact F.len▸L,f _ _ _ _ q (O.cT (iz.mut B rfl _)) (h.put B rfl ⟨_,uQ,J.cT (iz.mut B rfl _)⟩) (Fw.put G _ _)⟩
   .exact q.elim
  .exact q.elim
 .exact q.elim
@[irreducible] def Hf(c:gw):nq:=fun ρ C Q=>c ρ C fun x C1=>match x with
 |.ref a=>match C1 a with
  |some (.lst xs)=>Q (!xs.isEmpty) C1
  |_=>False
 |_=>False
def NK{c}(h:CE X e c)(J:mL e=true:=by rfl):CT X e (Hf c):=⟨JT.weak ⟨WS h.h.h (bW J)⟩ fun σ H Q S=>aQ S fun ρ C R s h q f=> by
 delta Hf at q
 exact⟨ρ,C,_,s,h,q,fun x H1 U C1 B O h1 I=>by
  split at B
  .split at B
   .next xs F =>
    refine dQ (h1 _ _ F) fun vs G L=>?_;cases O;refine⟨!xs.isEmpty,.inl ⟨vs,SqL.of G,?_⟩,f _ H1 _ C1 B rfl h1 I⟩;have:=L.len;cases vs<;>cases xs<;>simp_all
   .exact B.elim
  .exact B.elim⟩⟩
def G8(c:Addr)(m:Str)(G:GC)(q:gw):gw:=fun ρ C Q=>q ρ C fun x C1=>lO c m x C1/\G [x] C1 Q
def GQ{c}(Z:Cls X.K c)(ab:Uo X.K c m S)(F:FnOk X.prog X.w X.K X.mg X.base CX k S fd ps (qt X.K G))(hr:Room k X.A)(Y:Binds X.K fd ps [])(hx:jK CX X E)(ho:CE X o I)(ht:eval (.Call (.Attribute o m apos) [] [] pos) X.env=(do
   let q <- eval o X.env
   standAt apos.atName
   let (f,first) <- holding [q] (getMethod q m pl)
   callWith pos f first (backTo pos (starEach [] X.env)) (backToKw pos (keywordEach [] X.env))):=by rfl):
  CE X (.Call (.Attribute o m apos) [] [] pos) (G8 c m G I) :=
 ⟨JE.weak ⟨W7 ho.h.h Z ab F hr Y .nil hx ht⟩ fun σ H Q zz=>aQ zz fun ρ C R s h ae f=> ⟨ρ,C,_,s,h,ae,fun x H1 px C1 B rx h1 O=>by
  obtain⟨a,dx,U,rfl,rfl,J,lk⟩:=Xi B.1 rx h1
  exact⟨a,dx,U,rfl,J,lk,⟨[.ref a],C1,R,.cons (.ref a) .nil,h1,B.2,fun v H' t C' q' r' h' L=>f v H' t C' q' r' h' (O.trans L)⟩⟩⟩⟩
def M3(m:C p=some (.lst xs))(q:∀B,C B=none->Q (.ref B) (gQ C B (.lst xs.reverse))):Hj (.ref p) C Q :=by simp_all[Hj]
def Rb(m:C p=some (.lst xs))(e:xs[xs.length - 1]?=some y)(q:Q y (gQ C p (.lst xs.dropLast))):Hk (.ref p) [] C Q :=by simp_all[Hk]
def Ph{c}(h:c ρ C fun x C1=>∃a xs,x=.ref a/\C1 a=some (.lst xs)/\Q (!xs.isEmpty) C1)(G:∀(B F:K1),(∀v C1,B v C1->F v C1)->c ρ C B->c ρ C F):Hf c ρ C Q:=by
 delta Hf
 refine G _ _ ?_ h;rintro v C1 ⟨b,xs,rfl,m,q⟩;dsimp only
 rwa [m]
end
structure Row where
 k:Option Str
 nm:Str
 q:Str
 st:Stmt
 ps:List Str
 N:List Str
def u9(p:Row->Prop):List Row->Prop
 |[]=>True
 |r::q=>p r/\u9 p q
def FH(K:Ds)(r:Row):Prop:=match r with
 |⟨none,B,q,st,_,_⟩=>∃(f:Addr)(L:Value)(od:Option Addr)(J I O:Value)(F:Option Addr)(cd G:Value)(S:Array (Option Value)),
  PySem.W.nsIn K mainGlobals B=some (some (.ref f))/\K.lookup f=some ⟨L,od,.func (PySem.W.fnOf B q (uY st) (nJ st) (zX st) .none J I O F cd G),S⟩/\PySem.W.codeIn K cd q=true/\PySem.W.keepIn K (.ref f)=true
 |⟨some c,B,q,st,_,_⟩=>∃(cc f:Addr)(L:Value)(od:Option Addr)(J I O:Value)(F:Option Addr)(cd G:Value)(S:Array (Option Value)),
  PySem.W.nsIn K mainGlobals c=some (some (.ref cc))/\PySem.W.findIn K (.ref cc) B=some (some (.ref f))/\K.lookup f=some ⟨L,od,.func (PySem.W.fnOf B q (uY st) (nJ st) (zX st) .none J I O F cd G),S⟩/\PySem.W.codeIn K cd q=true/\PySem.W.keepIn K (.ref f)=true/\PySem.W.isFn K (.ref f)=true
def RB(r:Row):Prop:=FnScope r.N r.ps (zX r.st)/\∀(I G J:Value)(q:Option Addr)(B F:Value)(us:List Value),us.length=r.ps.length->bindArgs (PySem.W.fnOf r.nm r.q (uY r.st) (nJ r.st) (zX r.st) .none I G J q B F) ⟨us,[]⟩=pure (r.ps.zip us)
structure FI(K:Ds)(mg:Str->Option Value)(k:Option Str)(nm q:Str)(st:Stmt)(ps N:List Str)(f:Addr)(d:FuncData):Prop where
 m:k=none->mg nm=some (.ref f)
 M:∀c ca,k=some c->mg c=some (.ref ca)->PySem.W.findIn K (.ref ca) nm=some (some (.ref f))/\PySem.W.isFn K (.ref f)=true
 F:Fun K nm q st f d
 s:FnScope N ps (zX st)
 b:Binds K d ps []
section
variable {P:List Value->Prop}
def XX(h:∀a(us:List Value),us.length=n->P (a::us))us(e:us.length=n+1):P us:=by
 cases us with
 |nil=>cases e
 |cons a us=>exact h a us (BC e)
def Tn(h:P [])us(e:us.length=0):P us :=by grind
def args1(h:∀a,P [a]):∀us,us.length=1->P us:=XX fun a=>Tn (h a)
def args2(h:∀a b,P [a,b]):∀us,us.length=2->P us:=XX fun a=>args1 (h a)
def J2(h:∀a b c,P [a,b,c]):∀us,us.length=3->P us:=XX fun a=>args2 (h a)
def Ju(h:∀a b c d,P [a,b,c,d]):∀us,us.length=4->P us:=XX fun a=>J2 (h a)
def Tj(h:∀a b c d e,P [a,b,c,d,e]):∀us,us.length=5->P us:=XX fun a=>Ju (h a)
end
def Nt{K}(X:K.In h)(G:h.Ns mainGlobals mg)(x:FH K r)(y:RB r):∃f d,FI K mg r.k r.nm r.q r.st r.ps r.N f d:=by
 obtain⟨k,af,ag,st,ps,N⟩:=r;obtain⟨F,I⟩:=y
 cases k with
 |none =>
  obtain⟨f,Z,od,Y,O,ab,J,cd,L,sl,h1,h2,q,B⟩:=x;exact⟨f,_,⟨fun _=>Av X G h1,fun _ _ e=>(nomatch e),qI h2 q B,F,Fun.binds (qI h2 q B) I⟩⟩
 |some c =>
  obtain⟨cc,f,Z,od,Y,O,ab,J,cd,L,sl,h0,h1,h2,q,B,U⟩:=x;refine⟨f,_,⟨fun e=>(nomatch e),fun c' ae e S=>?_,qI h2 q B,F,Fun.binds (qI h2 q B) I⟩⟩;cases e;have:=(Av X G h0).symm.trans S;cases this;exact⟨h1,U⟩
theorem ux{K}(X:K.In h)(G:h.Ns mainGlobals mg):∀{t},u9 (FH K) t->u9 RB t->∃(f:Nat->Addr)(d:Nat->FuncData),∀i{k}{B q}{st}{ps N},t[i]?=some ⟨k,B,q,st,ps,N⟩->FI K mg k B q st ps N (f i) (d i)
 |[],_,_=>⟨fun _=>mainGlobals,fun _=>PySem.W.fnOf "" "" (uY (.Pass ⟨0,0,0,0⟩)) [] (zX (.Pass ⟨0,0,0,0⟩)) .none .none .none .none none .none .none,fun i _ _ _ _ _ _ e=>by simp at e⟩
 |r::t,x,y=>by
  refine R8 (Nt X G x.1 y.1) fun f0 F h0=>R8 (ux X G x.2 y.2) fun f d h=>⟨fun i=>match i with | 0=>f0 | i+1=>f i,fun i=>match i with | 0=>F | i+1=>d i,fun i=>?_⟩
  cases i with
  |zero=>intro k B q st ps N e;cases e;exact h0
  |succ i=>intro k B q st ps N e;exact h i e
section
variable {P:Program}{w:World}{K:Ds}{mg:Str->Option Value}{base:Heap}
theorem FI.ok{st}(F:FI K mg J x qual st ps N f fd)(I:∀ts C R,G ts C R->ts.length=ps.length)(B:∀q A outer s H E,Room k (A.deeper (envOfC qual (zX st) s.heap.objs.size f q)) ->
   ∃c,CB (vB CX0 P w K mg base N qual (zX st) f q A outer s H E).nox (nJ st) c/\∀ts C R,G ts C R->c (.go R) (wL N ts) C):FnOk P w K mg base CX0 (k+1) f fd ps (qt K G):=Fun.okC F.F F.s I B
theorem FI.o{st}{c}(F:FI K mg J x qual st ps N f fd)(B:∀{q A outer s H E}(_:Room k (A.deeper (envOfC qual (zX st) s.heap.objs.size f q))),CB (vB CX0 P w K mg base N qual (zX st) f q A outer s H E).nox (nJ st) c)(h:∀ts C R,G ts C R->c (.go R) (wL N ts) C)(I:∀ts C R,G ts C R->ts.length=ps.length:=by intro _ _ _ h;cases h;subst_vars;rfl):FnOk P w K mg base CX0 (k+1) f fd ps (qt K G):=Fun.okC F.F F.s I fun _ _ _ _ _ _ r=>⟨c,B r,h⟩
end
section
variable {X:Cx}{e o:Expr}{es:List Expr}{pos:Pos}
def cf{st}{p}(T:FI X.K X.mg none x q st ps N f fd)(F:FnOk X.prog X.w X.K X.mg X.base CX0 k f fd ps (qt X.K G))(S:Room k X.A)(I:CA X (e::es) B)(O:Gl X x:=by rfl)(L:(x==("__debug__" : Str))=false:=by decide)(hs:noStar e=true:=by rfl)(J:es.all noStar=true:=by rfl):CE X (.Call (.Name x p) (e::es) [] pos) (tR G B) :=
 FJ F S O (T.m rfl) T.F.kp T.b kO I L hs J
def cm{st}{apos}{pl}(U:Cls X.K c)(T:FI X.K X.mg (some J) m ae st ps N O fd)(q:X.mg J=some (.ref c))(F:FnOk X.prog X.w X.K X.mg X.base CX0 k O fd ps (qt X.K G))(hr:Room k X.A)(Y:CE X o L)(S:CA X (e::es) I)(ab:starEach (e::es) X.env=(false,eval e X.env)::starEach es X.env:=by rfl)(Z:(backTo pos (starEach es X.env)).any (·.1)=false:=by rfl)(ht:eval (.Call (.Attribute o m apos) (e::es) [] pos) X.env=(do
   let B <- eval o X.env
   standAt apos.atName
   let (f,first) <- holding [B] (getMethod B m pl)
   callWith pos f first (backTo pos (starEach (e::es) X.env)) (backToKw pos (keywordEach [] X.env))):=by rfl):
  CE X (.Call (.Attribute o m apos) (e::es) [] pos) (IV c m G L I) :=
 Fx U ⟨(T.M _ _ rfl q).1,(T.M _ _ rfl q).2,T.F.kp⟩ F hr T.b kO Y S ab Z ht
def cm0{st}(O:Cls X.K c)(T:FI X.K X.mg (some I) m ab st ps N L fd)(q:X.mg I=some (.ref c))(F:FnOk X.prog X.w X.K X.mg X.base CX0 k L fd ps (qt X.K G))(U:Room k X.A)(S:CE X o J)(Y:eval (.Call (.Attribute o m apos) [] [] pos) X.env=(do
   let B <- eval o X.env
   standAt apos.atName
   let (f,first) <- holding [B] (getMethod B m Z)
   callWith pos f first (backTo pos (starEach [] X.env)) (backToKw pos (keywordEach [] X.env))):=by rfl):
  CE X (.Call (.Attribute o m apos) [] [] pos) (G8 c m G J) :=
 GQ O ⟨(T.M _ _ rfl q).1,(T.M _ _ rfl q).2,T.F.kp⟩ F U T.b kO S Y
def cx(F:CE X a q)(G:CE X b B)(hs:Qh b:=by exact fun _ _=>rfl):CE X (.Subscript a b pos) (ur ut q B):=Sv Eh NZ F G hs
def d7(B:CE X e q)(hs:noStar e=true:=by rfl):CA X [e] (fG q oI):=qQ B oX hs
def gn i{pos'}(B:X.N.Nodup)(F:CE X e q)(hi:X.N[i]?=some x:=by rfl)(I:Loc X.env.scope x:=by first | exact Or.inl rfl | exact Or.inr rfl)(hs:swapsWith e (some (.Name x pos')) pos.line X.env=pure false:=by rfl)(G:X.fn x=true\/X.env.scope.names.lookup x=some .local:=by first | exact .inl rfl | exact .inr rfl | assumption):
  CS X (.Assign [.Name x pos'] e pos) (Jh i q):=NQ B hi I F hs G
def mq i(q:X.N.Nodup)(hi:X.N[i]?=some x:=by rfl)(F:Loc X.env.scope x:=by first | exact Or.inl rfl | exact Or.inr rfl)(B:X.fn x=true\/X.env.scope.names.lookup x=some .local:=by first | exact .inl rfl | exact .inr rfl | assumption):CG X (.Name x pos) (GB i):=Fv q hi F B
def qb{p}(G:X.mg "len" = none)(B:CE X e q)(F:Gl X "len":=by rfl)(hs:noStar e=true:=by rfl):CE X (.Call (.Name "len" p) [e] [] pos) (tR zT (fG q oI)):=vZ VT FZ F G rfl (d7 B hs) (hs:=hs)
def p7{p}(G:X.mg "tuple" = none)(B:CE X e q)(F:Gl X "tuple":=by rfl)(hs:noStar e=true:=by rfl):CE X (.Call (.Name "tuple" p) [e] [] pos) (tR bP (fG q oI)):=bK tS FQ F G rfl (d7 B hs) (hs:=hs)
def cap{apos cpos}(L:CE X o B)(F:CE X e q)(G:attributeBase o "append" X.env (eval o X.env)=eval o X.env:=by rfl)(I:((backTo cpos (starEach [e] X.env)).all (fun x=>!x.1)&&(backToKw cpos (keywordEach [] X.env)).all (fun x=>x.1.isSome)
   && decide ([e].length+([]:List Keyword).length+(if ([]:List Keyword).isEmpty then 0 else 1) < 30))=true:=by rfl)(J:(apos.endLine==cpos.line)=true:=by rfl)(hs:noStar e=true:=by rfl):CE X (.Call (.Attribute o "append" apos) [e] [] cpos) (cBM qU B (fG q oI)) :=
 Kw BU PySem.F.slot_list_append PySem.F.type_list_append uO Z9 L (d7 F hs) G I J hs
def ct2(L:OpR X (compareOp op) r)(O:pq X.K r F)(G:CE X a q)(I:CE X b B)(J:behindInMarks op b=false:=by exact rG _):CT X (.Compare a [op] [b] pos) (XR (ur F q B)):=Z7 L O G I J
end
end CL
namespace L2
open PySem
theorem FnScope.c(S:FnScope N ps sc)(h:N.contains x=false):(x::N).Nodup:=by
 refine A0.2 ⟨fun m=>?_,S.nd⟩;rw[List.contains_iff_mem.2 m] at h;cases h
theorem FnScope.k(S:FnScope N ps sc)(B:X.N=N)(G:X.env.scope=sc)(F:X.env.cells=cellsFrom L sc.names [])(h:cR xs scope N sc=true):∃q,fV X xs scope q:=pR B G F h
end L2
namespace TB
noncomputable def step(M i:Nat):Nat:=(i * 5+1) % M
end TB
namespace TB
open PySem SetTable
structure TOk(t:SetTable)(k:Nat):Prop where
 mask:t.mask+1=2 ^ k
 dum:t.dummies = #[]
 few:t.place.size<=t.mask
def more_le(t:SetTable)(i:Nat):runEnd t.mask i - i<=9:=by
 unfold runEnd
 split<;>omega
end TB
namespace PySem
open Sem (wp)
open TB
section
variable {prog:Program}{w:World}{K:Type}[DecidableEq K]{knd:KeyKind prog w K}
variable (knd)
noncomputable def entP(x:List (List K)×Addr):Int×Value:=(fW knd x.1,.ref x.2)
structure PSet(h:Heap)(a:Addr)(xs:List (List (List K)×Addr))(o:Obj)(es:Array (Int×Value))(ep:Nat)(t:SetTable)(k:Nat):Prop where
 at':h.get? a=some o
 ex:o.ExactSet
 dat:o.data=.set es ep t
 tok:TOk t k
 size:t.place.size=es.size
 ents:es.toList=xs.map (entP knd)
 keys:∀x∈xs,fj knd h x.1 x.2
 big:2<=t.mask
variable {knd}{A:Around}{E:Value->Shared->Prop}{s:Shared}{a:Addr}{xs:List (List (List K)×Addr)}{o:Obj}{es:Array (Int×Value)}{ep:Nat}{t:SetTable}{k:Nat}
end
end PySem
namespace CL
open PySem PySem.Spec L2 PySem.W
open PyProof.Rows hiding St
section
variable {X:Cx}{e o:Expr}{es:List Expr}
noncomputable def txI(i:Int):Str:=toString i
def v4{i:Int}(h:i.natAbs<=1000000000000):(txI i).length<=14:=by
 show(Str.ofString (toString i)).length<=14;rw[PySem.ofString_length];exact int_text_length_le10 (k:=13) (by decide) (An h (by decide))
end
section
variable {X:Cx}{e:Expr}{pos:Pos}
noncomputable def gZ:List PV->Option (List bX)
 |[]=>some []
 |t::r=>match sY t,gZ r with
  |some k,some q=>some (k::q)
  |_,_=>none
end
section
variable {X:Cx}{a b:Expr}{pos:Pos}
end
section
variable {X:Cx}
end
end CL
namespace CL
open PySem L2 PySem.W
theorem Jv(I:Nat->jm->CH->Prop)(B:∀n ρ C(L:jm->CH->Prop),I n ρ C->(∀m q C',m < n->I m q C'->L q C')->t ρ C fun b C1=>if b=true then u (E.lp L) ρ C1 else E.nx ρ C1):∀k n ρ C,n < k->I n ρ C->VX t u E k ρ C
 |0,n,_,_,h,_=>absurd h (Ce n)
 |k+1,n,ρ,C,h,F=>B n ρ C (VX t u E k) F fun m q C' J G=>Jv I B k m q C' (by lia) G
theorem Kr f:∀xs acc C,Gr B C->acc.length+xs.length<=sizeLine->(∀x∈xs,∀C F,Gr B C->(∀C',Gr C C'->F (f x) C')->c (some x::ρ) C F)->(∀p C',B p=none->Gr B C'->C' p=some (.lst (acc++xs.map f))->Q (.ref p) C')->fJ rH c ρ Q xs acc C
 |[],acc,C,g,_,_,q=>nD fun p G=>q p _ (gD g G) (g.trans (Gr.new G _)) (by rw[jQ,List.map_nil,Ae])
 |x::xs,acc,C,g,J,h,q=>by
  rw[AQ] at J;refine kM (h x AG C _ g fun C' g'=>⟨by lia,Kr f xs _ C' (g.trans g') (by grind) (fun y L=>h y (AJ _ L)) fun p C2 h1 h2 I=>q p C2 h1 h2 ?_⟩);rw[I,AR]
  rfl
theorem KL:∀bs,iR (bs.map PV.bl)=some bs
 |[]=>rfl
 |b::bs=>by show(iR (bs.map PV.bl)).map _=_;rw[KL bs];rfl
def Tq{bs:List Bool}(h:C p=some (.lst (bs.map PV.bl)))(q:Q (.bl (bs.all id)) C):Ht [.ref p] C Q:=by
 delta Ht
 dsimp only;rw[h];dsimp only
 rwa [KL]
end CL
namespace CL
open PySem PySem.Spec L2 PySem.W
open PyProof.Rows hiding St
section
variable {X:Cx}{a b c e o i f:Expr}{es:List Expr}{pos:Pos}{value:Expr}
end
section
variable {X:Cx}
end
end CL
namespace L2
open PySem PySem.W PyProof.Rows
def pA{α:Type}{l:List α}(nd:l.Nodup){hi}{hj:j < l.length}(e:l[i]=l[j]):i=j:=by
 have:=List.pairwise_iff_getElem.1 nd
 rcases Nat.lt_trichotomy i j with h | h | h
 .grind
 .exact h
 .grind
end L2
namespace CL
open PySem PySem.Spec L2 PySem.W
open PyProof.Rows hiding St
section
variable {cs:List (List Str×Int)}(nd:(cs.map (·.1)).Nodup){i j:Nat}(hi:i < cs.length)(hj:j < cs.length)
include nd hi hj
end
section
variable {X:Cx}{e o:Expr}{es:List Expr}
end
end CL
namespace L2
open PySem PySem.W PyProof.Rows
section
variable {X:Cx}
def Ii:V->List V->Hp->VK->Prop:=fun x vs H Q=>∃a y o,x=.ref a/\vs=[y]/\HN H a y o/\Q (o.getD .non) H
def JZ(F:X.A.units+2 < cLine):MtR X "dict.get" Ii:=by
 intro pins s σ H x vs v us Q I O L h;obtain⟨a,y,o,rfl,rfl,g,q⟩:=h;cases O;obtain⟨u,rfl,J⟩:=L.one;exact Ms F I g J fun S s' B G=>⟨_,H,B,G,q⟩
def Ou(X:Cx)(T:String)(x:V)(H:Hp):Prop:=∀(pins:List (Addr×Obj))(σ:St)(s:Shared)(v:Value),Inv X pins σ H s->RelV x v->s.TypeIs v T/\∀a,v=.ref a->∃q,s.heap.get? a=some q/\q.dict=none
def Sd{kvs:List (bX×V)}(e:H a=some (.dP kvs)):Ou X "dict" (.ref a) H:=by
 intro pins σ s v I r;cases r;refine⟨Ki I e,fun b q=>?_⟩;cases q;obtain⟨_,_,_,_,o,_,_,B,F,_⟩:=(I.hok a _ e);exact⟨o,B,F.2.1⟩
variable {o e:Expr}{es:List Expr}{to:TE}{t:TA}{name:Str}{apos cpos:Pos}{T id:String}{r:V->List V->Hp->VK->Prop}
def Mp(pa:PlainAttrs T)(af:Slot T name id)(ab:typeOf (.builtin id)=pure (.type "method_descriptor"))(Y:MtR X id r)(Z:PE X o to)(L:PA X (e::es) t)(O:attributeBase o name X.env (eval o X.env)=eval o X.env)(S:((backTo cpos (starEach (e::es) X.env)).all (fun x=>!x.1)&&(backToKw cpos (keywordEach [] X.env)).all (fun x=>x.1.isSome)
   && decide ((e::es).length+([]:List Keyword).length+(if ([]:List Keyword).isEmpty then 0 else 1) < 30))=true)(U:(apos.endLine==cpos.line)=true)(hs:starEach (e::es) X.env=(false,eval e X.env)::starEach es X.env)(ag:(backTo cpos (starEach es X.env)).any (·.1)=false):
  PE X (.Call (.Attribute o name apos) (e::es) [] cpos) (fun σ H Q=>to σ H fun x H1=>Ou X T x H1/\t σ H1 fun xs H2=>r x xs H2 Q):=by
 intro pins s σ H Q I h;refine wpAny_Call_method_late O S U rfl (thn (Z pins s σ H _ I h) fun v s1 q=>dH q fun x H1 B G ty q1=> ?_);obtain⟨h1,h2⟩:=ty _ _ _ _ B G;refine⟨T,id,pa,af,ab,h1,h2,?_⟩;have F:=L cpos pins s1 σ H1 _ B q1;rw[hs] at F ⊢;exact Cq (by grind) (Dq (thn F fun us ae q=>nX q fun vs H2 J r2 q2=> Y pins ae σ H2 x vs v us Q J G r2 q2))
end
end L2
namespace CL
open PySem PySem.Spec L2 PySem.W
open PyProof.Rows hiding St
section
variable {X:Cx}{a b c e o i f value:Expr}{es:List Expr}{pos pos':Pos}
def Rt(x:PV)(C:CH):Prop:=∃a kvs,x=.ref a/\C a=some (.dP kvs)
def El(d:Rt t C)(r:Rep X.K H x t)(h:d8 X.K H C):Ou X "dict" x H:=by
 obtain⟨a,kvs,rfl,e⟩:=d;cases r;exact dQ (h a _ e) fun vs q _=>Sd q
def cBMQ(F:PV->List PV->CH->K1->Prop)(B:gw)(q:sr):gw:=fun ρ C Q=>B ρ C fun x C1=>Rt x C1/\q ρ C1 fun xs C2=>F x xs C2 Q
def GV{id}{apos cpos}(pa:PlainAttrs "dict")(ai:Slot "dict" name id)(af:typeOf (.builtin id)=pure (.type "method_descriptor"))(ae:MtR X id r)(hr:vf X.K r L)(ho:CE X o J)(S:CA X (e::es) I)(Y:attributeBase o name X.env (eval o X.env)=eval o X.env:=by rfl)(Z:((backTo cpos (starEach (e::es) X.env)).all (fun x=>!x.1)&&(backToKw cpos (keywordEach [] X.env)).all (fun x=>x.1.isSome)
   && decide ((e::es).length+([]:List Keyword).length+(if ([]:List Keyword).isEmpty then 0 else 1) < 30))=true:=by rfl)(ab:(apos.endLine==cpos.line)=true:=by rfl)(hs:noStar e=true:=by rfl)(U:es.all noStar=true:=by rfl):
  CE X (.Call (.Attribute o name apos) (e::es) [] cpos) (cBMQ L J I) :=
 ⟨JE.weak ⟨Mp pa ai af ae ho.h.h S.h.h Y Z ab (yZ hs) (yW U)⟩ fun σ H Q zz=>aQ zz fun ρ C R s h ag f=>
 ⟨ρ,C,_,s,h,ag,fun x H1 px C1 F G h1 q=>⟨El F.1 G h1,ρ,C1,_,s.cT (q.cT h),h1,F.2,fun xs H2 ps C2 q2 ah h2 B=>
  hr x px xs ps H2 C2 Q R (G.cT (B.cT h1)) ah h2 q2 fun v H' t C' q' r' h' O=>f v H' t C' q' r' h' (q.trans (B.trans O))⟩⟩⟩
@[irreducible] def KH:PV->List PV->CH->K1->Prop:=fun x ts C Q=>match x,ts with
 |.ref a,[y]=>match C a,sY y with
  |some (.dP kvs),some k=>Q ((zZ kvs k).getD .non) C
  |_,_=>False
 |_,_=>False
def XF{K}:vf K Ii KH:=fun x Z xs ps H C Q R U O h q f=>by
 delta KH at q
 split at q
 .next a y =>
  split at q
  .next kvs k G I =>
   obtain⟨v,rfl,Y⟩:=aX O;cases U;obtain⟨vs,L,r⟩:=(h a _ G);obtain⟨b,rfl,J⟩:=sU Y I;refine⟨a,.ref b,iV vs k,rfl,rfl,⟨vs,k,b,L,rfl,J,rfl⟩,?_⟩
   rcases FP.val r k with ⟨v,t',B,F,S⟩ | ⟨B,F⟩
   .rw [F] at q;exact B▸f _ H _ C q S h Fw.refl
   .rw [F] at q;exact B▸f _ H _ C q .non h Fw.refl
  .exact q.elim
 .exact q.elim
def Y2{a}{kvs:List (bX×PV)}(m:C a=some (.dP kvs))(e:sY y=some k)(q:Q ((zZ kvs k).getD .non) C):KH (.ref a) [y] C Q:=by
 delta KH;dsimp only;rwa [m,e]
end
end CL
namespace PySem.W
open PySem PySem.Calls PyProof.Rows Builtin Builtin.ObjectAttr Builtin.Getset_descriptor
structure O3(K:Frag)(C:Addr):Prop where
 obj:∃oc od cd sl tl,K.lookup C=some ⟨oc,od,.cls cd,sl⟩/\cd.abstract=false/\cd.hasDel=false/\(sl.toList[4]?).join=some (.builtin "ValueError.__new__")/\cd.mro=.ref C::tl
 call:specialIn K (.ref C) "__call__" = some (some (.builtin "type.__call__"))
 typ:instIn K (.ref C) (.type "type")=some true
 self:mroIn K C (.ref C)=some true
 val:mroIn K C (.type "ValueError")=some true
 bas:mroIn K C (.type "BaseException")=some true
 noA:mroIn K C (.type "AttributeError")=some false
 noN:mroIn K C (.type "NameError")=some false
structure xS(M:Model)(h:Heap)(C:Addr):Prop where
 obj:∃oc od cd sl tl,h.get? C=some ⟨oc,od,.cls cd,sl⟩/\cd.abstract=false/\cd.hasDel=false/\cd.mro=.ref C::tl
 made:Looks M h (Bind.madeBy (.ref C)) (some "ValueError.__new__")
 base:Looks M h (Bind.staticBase (.ref C)) (.ref C)
 self:Looks M h (isSubtype (.ref C) (.ref C)) true
 val:Looks M h (isSubtype (.ref C) (.type "ValueError")) true
 bas:Looks M h (isSubtype (.ref C) (.type "BaseException")) true
 noA:Looks M h (isSubtype (.ref C) (.type "AttributeError")) false
 noN:Looks M h (isSubtype (.ref C) (.type "NameError")) false
 call:Looks M h (specialOf (.ref C) "__call__") (some (.builtin "type.__call__"))
 typ:Looks M h (isInstance (.ref C) (.type "type")) true
def kL{K}(X:K.In h)(e:O3 K C):xS M h C:=by
 obtain⟨⟨oc,od,cd,sl,tl,F,J,L,O,B⟩,U,Y,S,ab,eb,Z,en⟩:=e;have hc:clsIn K C=some cd:=by delta clsIn;rw[F]
 have G:Looks M h (mroOf (.ref C)) cd.mro:=(looks_clsIn X hc).andThen .now
 have I:Looks M h (Bind.madeBy (.ref C)) (some "ValueError.__new__"):=by
  intro A Q E s k q
  delta Bind.madeBy
  refine AA (G A _ E s k ?_);rw[B,List.forIn_cons];refine AA (AA (AA (AA (Dp (k _ _ (X _ _ F)) (AD (Array.getElem?_toList▸O▸AD (AD (AD q))))))))
 refine⟨⟨oc,od,cd,sl,tl,X _ _ F,J,L,B⟩,I,?_,Cy X S,Cy X ab,Cy X eb,Cy X Z,Cy X en,looks_specialIn X U,looks_instIn X Y⟩;intro A Q E s k q;refine AA (G A _ E s k ?_);rw[B,List.forIn_cons];exact AA (AA (AA (I A _ E s k (AD (AD (AD q))))))
abbrev dZ(C:Addr)(d:Option Addr)(t:Value):Obj:={ cls:=.ref C,dict:=d,data:=.fields #[t,.none,.none,.none,.bool false,.none] }
abbrev rY(rest:List Value):Obj:={ cls:=.type "tuple",data:=.seq rest.toArray }
section
variable {prog:Program}{w:World}{A:Around}{K:Frag}{C:Addr}{R:Result->Shared->Prop}{h:Heap}{g:Array GenState}{d:Drawn}{t:Nat}{os:OsState}
def Lg(Y:xS (model prog w) h C)(hz:rest.length<=sizeLine)(hq:R (.ok (.ret (.ref (h.objs.size+1)))) ⟨(h.push (rY rest)).push (dZ C none (.ref h.objs.size)),g,d,t,os⟩):
  codeAny (model prog w) A (.call (.builtin "ValueError.__new__") ⟨.ref C::rest,[]⟩) R ⟨h,g,d,t,os⟩:=by
 obtain⟨⟨oc,od,cd,sl,tl,q,e1,e2,e4⟩,G,base,ag,O,S,I,J,Z,L⟩:=Y;have F:=DH;have af:=F.noStar
 apply codeAny_call_builtin_code (Code.quiet_builtin _ F.quiet)
 simp only[checkBuiltinCall,F.newKind,F.newSplit,F.newRow]
 repeat (first | simp only[bne_self_eq_false,Bool.false_eq_true,if_false] | lk)
 apply codeAny_builtinAt F.entry
 delta Builtin.«BaseException.__new__»
 refine wpAt_bind (wpAt_bind (wpAt_stack fun p U=>wpAt_of_wpAny ?_));have B:Looks (model prog w) h (Bind.madeHere "BaseException.__new__" (.ref C)) ():=base.andThen (G.andThen (Looks.of_pure (by simp only[Option.map_some,F.canon,bne_self_eq_false,Bool.false_eq_true,if_false])));have ae:=F.ends
 wp_walk
 apply wpAt_of_wpAny
 rw[F.owner];have ab:=q
 repeat (first | with_reducible refine B.at ?_ | with_reducible refine O.at ?_ | with_reducible refine I.at ?_ | with_reducible refine J.at ?_ | with_reducible refine L.at ?_ | with_reducible refine Ck q ?_ | wp_step)
 rwa [Br]
def X7{rest:List Value}{q:Value}(Y:xS (model prog w) h C)(Z:rest.length<=sizeLine)(hi:Looks (model prog w) h (typeLookup (.ref C) "__init__") (some q))(O:∀B,Looks (model prog w) h (bindSpecial q B) (q,[B]))(S:codeAny (model prog w) (A.under (.builtin "type.__call__" ⟨.ref C::rest,[]⟩)) (.call q ⟨.ref (h.objs.size+1)::rest,[]⟩) (InitBack (h.objs.size+1) R) ⟨(h.push (rY rest)).push (dZ C none (.ref h.objs.size)),g,d,t,os⟩):
  codeAny (model prog w) A (.call (.ref C) ⟨rest,[]⟩) R ⟨h,g,d,t,os⟩:=by
 have G:=Y;obtain⟨⟨oc,od,cd,sl,tl,F,e1,e2,J⟩,ag,base,B,ak,ae,ah,ai,I,ab⟩:=Y;refine codeAny_of_tree (nd_load F ?_);show wpAny _ _ (callAny.viaDunder (.ref C) _) _ _ _
 delta callAny.viaDunder
 refine AA (I.at ?_);dsimp only;rw[tc_bind];refine AA (AD (AA (AD (AD (a:=Fin.again (.call (.builtin "type.__call__") ⟨.ref C::rest,[]⟩)) (And.intro rfl (codeAny_call_builtin_at (Code.quiet_builtin _ (by decide +kernel)) entry_typeCall (check_slot tc_kind tc_split ab (tc_args _ _ _) ?_)))))))
 delta Builtin.«type.__call__»
 have af:Looks (model prog w) h (mroOf (.ref C)) cd.mro:=((Looks.ld F).andThen .now).andThen .now;have L:cd.mro.isEmpty=false:=by rw[J];rfl
 repeat (first | simp only[L,Bool.false_eq_true,if_false] | with_reducible refine CD ?_ | lk)
 apply Lg G Z
 have k:∀b o,h.get? b=some o->((h.push (rY rest)).push (dZ C none (.ref h.objs.size))).get? b=some o:=fun b o e=>AC _ (AC _ e);have U:((h.push (rY rest)).push (dZ C none (.ref h.objs.size))).get? (h.objs.size+1)=some (dZ C none (.ref h.objs.size)):=by heap_get
 have aj:Looks (model prog w) ((h.push (rY rest)).push (dZ C none (.ref h.objs.size))) (typeOf (.ref (h.objs.size+1))) (.ref C):=(Looks.ld U).andThen .now;have s1:=B.keeps k;have i1:=hi.keeps k;have b1:=(O (.ref (h.objs.size+1))).keeps k
 delta isInstance callSpecial? specialOf
 repeat (first | with_reducible refine CD ?_ | lk)
 refine CN S fun r s' z=>?_
 rcases r with e | (v | _ | _ | _)<;>first | exact z | exact z.elim | skip
 obtain⟨rfl,z⟩:=z;exact AD (AD z)
end
end PySem.W
namespace PySem.W
open PySem PySem.Calls PyProof.Rows
def XG{os}(O:h.get? e=some S)(L:S.cls=.ref C)(I:h.get? C=some B)(J:B.data=.cls cd)(hi:Looks M h (isSubtype (.ref C) (.type "ValueError")) true)(q:Q () ⟨h,g,d,t,os⟩):
  wpAny M A (checkBuiltinCall "ValueError.__init__" ⟨.ref e::rest,[]⟩) Q E ⟨h,g,d,t,os⟩:=by
 have F:=DH;have ab:=F.noStar;obtain⟨U,Y,G,Z⟩:=B;obtain rfl:G=.cls cd:=J
 simp only[checkBuiltinCall,F.initKind,F.initSplit,F.initRow]
 repeat (first | (with_reducible refine Ck O ?_;rw[L]) | with_reducible refine Ck I ?_ | with_reducible refine hi.at ?_ | wp_step)
 apply wpAny_onRaise
 rw[show ∀a b n,Bind.check ⟨.positional,"*","ValueError",.self,[⟨"args",.varPos,false⟩]⟩ a b n (List.map (fun x=>x.fst) ({ pos:=Value.ref e::rest }:Args).kw)=pure () from
  fun a b n=>check_star_args _ _ _ _ _ _]
 exact AD q
end PySem.W
namespace L2
open PySem PySem.Spec PySem.W
open PyProof.Rows hiding St
def XB(e C:Addr)(d:Option Addr):Heap->Prop:=fun h=>∃t,h.get? e=some (dZ C d (.ref t))
def Wo(q:h.get? e=some (dZ C d (.ref t))):ObjOk P w H h e (.ext (XB e C d)) :=
 ⟨⟨t,q⟩,⟨_,q⟩,fun h1 h2 ⟨t,z⟩ k=>⟨t,k _ z⟩⟩
section
variable {X:Cx}
def Inv.xb{σ:St}(I:Inv X pins σ H s)(q:H e=some (.ext (XB e C d))):∃t,s.heap.get? e=some (dZ C d (.ref t)):=(I.hok e _ q).1
def Jd:CallR X (.builtin "ValueError.__init__") (fun vs H Q=>∃e C x d,vs=[.ref e,x]/\H e=some (.ext (XB e C d))/\O3 X.K C/\Q .non H):=by
 intro pins s σ H vs us Q I r h;obtain⟨e,C,x,d,rfl,B,M,ab⟩:=h
 obtain⟨u,v,rfl,ru,rv⟩:∃u v,us=[u,v]/\RelV (.ref e) u/\RelV x v:=by
  cases r with
  |cons a b=>cases b with | cons c d=>cases d;exact⟨_,_,rfl,a,c⟩
 obtain rfl:u=Value.ref e:=ru;obtain⟨t,G⟩:=I.xb B;have Y:=kL (M:=model X.prog X.w) I.kIn M;have F:=DH;have ae:Looks (model X.prog X.w) s.heap (typeOf (.ref e)) (.ref C):=(Looks.ld G).andThen .now;obtain⟨oc,od,cd,sl,tl,S,_⟩:=Y.obj;have I':=I;obtain⟨q,g,dd,tk,os⟩:=s;refine CD (Cz F.init.plain F.initEntry (XG G rfl S rfl Y.val ?_))
 wp_walk
 have L:(q.push { cls:=Value.type "tuple",data:=Data.seq #[v] }).get? e=some (dZ C d (.ref t)):=AC _ G;have J:((q.push { cls:=Value.type "tuple",data:=Data.seq #[v] }).update e (Obj.mapFields fun x=>x.setIfInBounds 0 (Value.ref q.objs.size))).get? e=some (dZ C d (.ref q.objs.size)):=Al _ L rfl
 have O:H=upd H e (.ext (XB e C d)):=by
  funext b
  delta upd
  split
  .next z=>rw[z,B]
  .rfl
 refine⟨.non,upd H e (.ext (XB e C d)),?_,rfl,by rwa [<- O]⟩;refine I.write (t':=tk) (B▸True.intro) (.inl rfl) (fun b u U Z=>?_) ⟨_,J⟩ (Wo J);rw[Ac _ _ (Ne.symm U)];exact AC _ Z
end
end L2
namespace PySem.W
open PySem PySem.Calls PyProof.Rows Builtin Builtin.ObjectAttr Builtin.Getset_descriptor
noncomputable def qy:List Value->Bool
 |[.type a,.type b,.type c,.type d]=>a == "ValueError" && b == "Exception" && c == "BaseException" && d == "object"
 |.ref _::r=>qy r
 |_=>false
def Zj q:refuseLoop q "__setattr__" [.type "ValueError",.type "Exception",.type "BaseException",.type "object"]=pure ():=by kernel_rfl
theorem Qz q:∀{l},qy l=true->refuseLoop q "__setattr__" l=pure ()
 |[.type a,.type b,.type c,.type d],e=>by
  have e:(a == "ValueError" && b == "Exception" && c == "BaseException" && d == "object")=true:=e
  simp only[Bool.and_eq_true,beq_iff_eq] at e
  obtain⟨⟨⟨rfl,rfl⟩,rfl⟩,rfl⟩:=e;exact Zj q
 |.ref c::r,e=>by rw[refuseLoop_ref];exact Qz q e
section
variable {prog:Program}{w:World}{A:Around}{K:Frag}{C x:Addr}{s:Shared}{R:Result->Shared->Prop}
def Vc(X:K.In s.heap)(I:InstAt s.heap x ox C od)(J:clsIn K C=some cd)(O:qy cd.mro=true)(L:mroIn K C (.type "object")=some true)(G:findIn K (.ref C) name=some none)(h:wpAny (model prog w) A.in1 (storeInOwnDict (.ref x) (.ref C) (.str name tk) name v false)
   (fun F s'=>match F with | .done f=>R (.ok f) s' | .again B=>B.quiet=true/\codeAny (model prog w) A B R s') (fun e s'=>R (.error e) s') s):
  codeAny (model prog w) A (.call (.builtin "object.__setattr__") ⟨[.ref x,.str name tk,v],[]⟩) R s:=by
 have q:=PySem.F.store_object;refine Cz q.slot.plain q.entry (@check_slot (model prog w) _ _ s "object.__setattr__" "object" "__setattr__" (.ref x) [.str name tk,v] [] _ q.kind q.split (I.type.andThen (Cy X L)) (q.args (.ref x) (.str name tk) v) ?_);rw[osa_eq,refuse_eq];refine AA (AA (I.type.here (AA ((show Looks (model prog w) s.heap (mroOf (.ref C)) cd.mro from(looks_clsIn X J).andThen .now).here ?_))))
 exact(Qz _ O)▸AD (AA (I.type.here (AA ((looks_findIn X G).here (AA (AD h))))))
end
end PySem.W
namespace L2
open PySem PySem.Spec PySem.W
open PyProof.Rows hiding St
structure Oq(K:Frag)(C:Addr)(f:Str):Prop where
 cls:∃cd,clsIn K C=some cd/\qy cd.mro=true/\cd.hasDict=true
 sa:findIn K (.ref C) "__setattr__" = some (some (.builtin "object.__setattr__"))
 ob:mroIn K C (.type "object")=some true
 na:findIn K (.ref C) f=some none
def XD(d:Addr)(fs:List (Str×V)):Heap->Prop:=fun h=>∃mA,h.Ns1 d mA/\(∀f,RelO (fs.lookup f) (mA f))/\PySem.Within mA (fs.map (·.1))
def HW(x:XD d fs h):ObjOk P w H h d (.ext (XD d fs)) :=
 ⟨x,let ⟨mA,⟨o,_,_,e,_⟩,_⟩:=x;⟨o,e⟩,fun h1 h2 ⟨mA,⟨o,es,ep,e,c⟩,r⟩ k=>⟨mA,⟨o,es,ep,k _ e,c⟩,r⟩⟩
section
variable {X:Cx}{pins:List (Addr×Obj)}{σ:St}{H:Hp}{s:Shared}{e C:Addr}{f:Str}{A:Around}{E:Value->Shared->Prop}
def Wl(I:Inv X pins σ H s)(F:H e=some (.ext (XB e C none)))(c:Oq X.K C f)(ry:RelV y u)(h:∀d s',H d=none->d≠e->Inv X pins σ (upd (upd H d (.ext (XD d [(f,y)]))) e (.ext (XB e C (some d)))) s'->Q () s'):wpAny (model X.prog X.w) A (setAttr (.ref e) f u) Q E s:=by
 refine Gn (I.xb F) fun t L=>xZ c.cls fun cd hc hx af=>?_;have J:InstAt s.heap e (dZ C none (.ref t)) C none:=⟨L,rfl,rfl,True.intro⟩;refine set_plain I.kIn J c.sa (Vc I.kIn J hc hx c.ob c.na ?_);have ae:=looks_clsIn (M:=model X.prog X.w) I.kIn hc;refine AA (AD (AA (AA (Dp L (AA (Bw ae ?_))))));rw[af];obtain⟨B,g,dd,tk,os⟩:=s
 refine AA (wpAny_alloc ?_);have G:=Ay (AH L);have e0:(B.push emptyDict).get? B.objs.size=some emptyDict:=AL B rfl;have Y:(B.push emptyDict).get? e=some (dZ C none (.ref t)):=AC _ L;refine AA (wpAny_update Y ?_);have Z:((B.push emptyDict).update e fun o=>{ o with dict:=some B.objs.size }).get? e=some (dZ C (some B.objs.size) (.ref t)):=Al _ Y rfl
 have e3:((B.push emptyDict).update e fun o=>{ o with dict:=some B.objs.size }).get? B.objs.size=some emptyDict:=by rwa [Ac _ _ (Ne.symm G)]
 have e4:=Heap.Ns1.of_empty ⟨emptyDict,#[],_,e3,rfl,(fun e F=>absurd F (by simp)),fun _=>rfl⟩;refine AD (AA (AD (AA (wpAny_nsSet1 e4 fun h' S ai=>fM (S.count (PySem.Within.cons f u (show PySem.Within (fun _:Str=>(none:Option Value)) [] from fun y U=>absurd rfl U))) fun oD ao ak ah ag ab=>?_))));refine AA (wpAny_lookBehind ah (ag▸pastItsLine_dict (AY ab (by grind))) (AD (h B.objs.size _ (I.hok.fresh (AI _)) G ?_)))
 have aj:XD B.objs.size [] (B.push emptyDict):=⟨fun _=>none,Heap.Ns1.of_empty ⟨emptyDict,#[],_,e0,rfl,(fun e F=>absurd F (by simp)),fun _=>rfl⟩,fun _=>True.intro,fun y U=>absurd rfl U⟩;have I1:=I.laid (t':=tk) (h':=B.push emptyDict) (fun b u q=>AC _ q) (AI _) (HW aj);have m1:upd H B.objs.size (.ext (XD B.objs.size [])) e=some (.ext (XB e C none)):=by rwa [pQ (Ne.symm G)]
 have I2:=I1.write (t':=tk) (o:=.ext (XB e C (some B.objs.size))) (h':=(B.push emptyDict).update e fun o=>{ o with dict:=some B.objs.size }) (m1▸True.intro) (.inl rfl) (fun b u O hu=>by rwa [Ac _ _ (Ne.symm O)]) ⟨_,Z⟩ (Wo Z);have m2:upd (upd H B.objs.size (.ext (XD B.objs.size []))) e (.ext (XB e C (some B.objs.size))) B.objs.size=some (.ext (XD B.objs.size [])):=by rw[pQ G,uQ]
 have x1:XD B.objs.size [(f,y)] h':=by
  refine⟨_,S,fun z=>?_,fun z hz=>?_⟩
  .by_cases q:z=f
   .subst q
    rw[Ah rfl]
    simp only[List.lookup,beq_self_eq_true]
    exact ry
   .rw [Af q]
    simp only[List.lookup,beq_eq_false_iff_ne.mpr q]
    exact True.intro
  .grind
 have I3:=I2.write (t':=tk+1+1) (o:=.ext (XD B.objs.size [(f,y)])) (h':=h') (m2▸True.intro) (.inl rfl) (fun b u O hu=>(ai.2 b O).trans hu) (let ⟨o,_,_,z,_⟩:=S;⟨o,z⟩) (HW x1)
 have eH:upd (upd (upd H B.objs.size (.ext (XD B.objs.size []))) e (.ext (XB e C (some B.objs.size)))) B.objs.size (.ext (XD B.objs.size [(f,y)]))=upd (upd H B.objs.size (.ext (XD B.objs.size [(f,y)]))) e (.ext (XB e C (some B.objs.size))):=by
  funext b
  delta upd
  by_cases q1:b=B.objs.size
  .lia
  .lia
 rwa [eH] at I3
end
section
variable {X:Cx}{o value:Expr}{f:Str}{pos pos':Pos}{ta tv:TE}
def sXf0(K:Ds)(ta tv:TE)(f:Str):TS:=fun D σ H=>tv σ H fun y H1=>ta σ H1 fun x H2=>∃e C,x=.ref e/\H2 e=some (.ext (XB e C none))/\Oq K C f /\
 ∀d,H2 d=none->d≠e->D.nx σ (upd (upd H2 d (.ext (XD d [(f,y)]))) e (.ext (XB e C (some d))))
def Ml(L:PE X o ta)(O:PE X value tv)(hs:swapsWith value (some (.Attribute o f pos')) pos.line X.env=pure false):PS X (.Assign [.Attribute o f pos'] value pos) (sXf0 X.K ta tv f):=by
 intro pins s σ H D I h;refine plainObj_wpAny_Assign_Attribute (thn (O pins s σ H _ I h) fun u s1 zz=>nX zz fun y H1 B Z q=> thn (L pins s1 σ H1 _ B q) fun S ab ⟨x,H2,F,Y,e,C,ex,J,c,U⟩=>?_) hs;subst ex;obtain rfl:S=Value.ref e:=Y;exact Wl F J c Z fun d ae h1 h2 G=>⟨σ,_,G,U d h1 h2⟩
end
structure XIn(K:Ds)(V:Addr):Prop where
 ga:specialIn K (.ref V) "__getattribute__" = some (some (.builtin "type.__getattribute__"))
 rd:readsIn K V (.type "type")=true
 fc:findCls K (.ref V) (.type "type") "__init__" = some (.val (.builtin "ValueError.__init__"))
section
variable {X:Cx}{e:Expr}{es:List Expr}{pos apos p:Pos}{t:TA}{x:Str}{V:Addr}
def rXin(K:Ds):List L2.V->Hp->VK->Prop:=fun vs H Q=>∃e C x d,vs=[.ref e,x]/\H e=some (.ext (XB e C d))/\O3 K C/\Q .non H
def W5{Y}(Z:XIn X.K V)(L:Gl X x)(O:X.mg x=some (.ref V))(F:PA X (e::es) t)(G:(x==("__debug__" : Str))=false:=by decide)(J:starEach (e::es) X.env=(false,eval e X.env)::starEach es X.env:=by rfl)(S:(backTo pos (starEach es X.env)).any (·.1)=false:=by rfl)(U:eval (.Call (.Attribute (.Name x p) "__init__" apos) (e::es) [] pos) X.env=(do
   let B <- eval (.Name x p) X.env
   standAt apos.atName
   let (f,first) <- holding [B] (getMethod B "__init__" Y)
   callWith pos f first (backTo pos (starEach (e::es) X.env)) (backToKw pos (keywordEach [] X.env))):=by rfl):
  PE X (.Call (.Attribute (.Name x p) "__init__" apos) (e::es) [] pos) (tCB (rXin X.K) t):=by
 intro pins s σ H Q I h;refine Dn (oG I L O (method_cls I.kIn Z.ga (cls_value I.kIn Z.rd Z.fc rfl ?_)) G) U;have q:=I.tok (s.toks+1);exact PyProof.Rows.callWith_builtin1 (thn (F pos pins _ σ H _ q h) fun us s1 zz=>nX zz fun vs H1 q r1 q1=> Jd pins s1 σ H1 vs us Q q r1 q1) J S
end
def PF(X:Cx)(e:Expr)(c:St->Hp->Prop)(n:Nat):Prop :=
 ∀(pins:List (Addr×Obj))(s:Shared)(σ:St)(H:Hp),Inv X pins σ H s->c σ H->wpAny (model X.prog X.w) X.A (eval e X.env) (fun v s'=>∃y tk,v=.str y tk/\y.length<=n/\Inv X pins σ H s') X.xe s
inductive Lb(X:Cx):List Expr->(St->Hp->Prop)->Nat->Prop
 |nil:Lb X [] (fun _ _=>True) 0
 |cons {e:Expr} {es:List Expr} {c c':St->Hp->Prop} {n m:Nat} (h:PF X e c n) (r:Lb X es c' m):Lb X (e::es) (fun σ H=>c σ H/\c' σ H) (n+m)
section
variable {X:Cx}
def W3(J:x.length<=sizeLine:=by decide +kernel):PF X (.Constant (.str x) k pos) (fun _ _=>True) x.length:=fun pins s σ H I _=>thn (Zw pins s σ H (fun v H'=>v=.str x/\H'=H) I ⟨rfl,rfl⟩) fun u s1 G=>dH G fun v H1 q r F B=> by
 subst F B;obtain⟨t,rfl⟩:=r;exact⟨x,t,rfl,AI _,q⟩
theorem QJ:∀{es}{c}{n},Lb X es c n->∀pins s(σ:St)H B Q,Inv X pins σ H s->c σ H->B.length+n<=sizeLine->(∀y tk s',Inv X pins σ H s'->Q (.str y tk) s')->wpAny (model X.prog X.w) X.A (joinParts B (evalEach es X.env)) Q X.xe s
 |_,_,_,.nil,pins,s,σ,H,B,Q,I,_,J,q=>PyProof.Rows.joinParts_nil (q _ _ _ (I.tok _)) (by lia)
 |_,_,_,.cons h r,pins,s,σ,H,B,Q,I,F,J,q=>PyProof.Rows.joinParts_cons (thn (h pins s σ H I F.1) fun v s1 L=>nX L fun y tk e S G=> by
   subst e;have O:(B++y).length=B.length+y.length:=strLen_append _ _
   exact⟨by lia,QJ r pins s1 σ H (B++y) Q G F.2 (by lia) q⟩)
def yu(h:Lb X (F::G::es) c n)(J:n<=sizeLine):PE X (.JoinedStr (F::G::es) pos) (fun σ H Q=>c σ H/\∀y,Q (.str y) H):=by
 intro pins s σ H Q I q;refine PyProof.Rows.JoinedStr_many (QJ h pins s σ H Str.empty _ I q.1 (by show 0+n<=_;lia) fun y tk s' B=>⟨.str y,H,B,⟨_,rfl⟩,q.2 y⟩)
end
end L2
namespace PySem.W
open PySem PySem.Calls PyProof.Rows
def bL(U:A.handled=none)(h:wpAny M A x (fun v q=>∃e C d t B cd,v=.ref e/\q.heap.get? C=some B/\B.data=.cls cd/\B.cls=.type "type"/\xS M q.heap C/\q.heap.get? e=some (dZ C d (.ref t))/\E (.ref e) q) E s):
  wpAny M A (raiseStmt ab (some x) none) Q E s:=by
 delta raiseStmt
 refine AA (A3 h (fun v q Z=>?_) fun _ _ x=>x);obtain⟨e,C,d,t,B,cd,rfl,I,L,O,Y,S,J⟩:=Z;obtain⟨F,c2,G,c4⟩:=B;obtain rfl:G=.cls cd:=L;obtain rfl:F=.type "type":=O;obtain⟨hp,g,dd,tk,os⟩:=q
 repeat (first | with_reducible refine Ck S ?_ | with_reducible refine Ck I ?_ | with_reducible refine Y.bas.at ?_ | wp_step)
 exact wpAny_raiseNew_none U J
structure J4(fs:List Addr)(e:Addr)(oe:Obj)(T:Addr)(h h':Heap):Prop where
 ne:T≠e
 new:h.objs.size<=T
 keep:∀b o,b≠e->b∉fs->h.get? b=some o->h'.get? b=some o
 slot:∀b o,b≠e->b∈fs->h.get? b=some o->∃sl,h'.get? b=some { o with slots:=sl }
 exc:h'.get? e=some (oe.mapFields (·.setIfInBounds 1 (.ref T)))
 ent:∃oT ts,h'.get? T=some oT/\oT.data=.fields ts/\ts[3]?=some .none
section
variable {M:Model}{A:Around}{E:Value->Shared->Prop}{s:Shared}
def nC
  (au:A.frames=some (G::outer))(hl:s.heap.FunFrames base (G::outer))(ar:G.frame=some L)(af:s.heap.get? e=some oe)(U:oe.data=.fields vs)(aj:1 < vs.size)(h:∀h' T,J4 ((G::outer).filterMap (·.frame)) e oe T s.heap h'->Q () { s with heap:=h' }):
  wpAny M A (do let a <- frameOf G;let B <- entryPlaceOf L ax;let b <- EntryCells.newEntry Y a .none (rawInt L) .none B;setField (.ref e) 1 b) (fun _ s'=>wpAny M A (setFlight (.ref e) none) Q E s') E s:=by
 have ao:e∉(G::outer).filterMap (·.frame):=fun av=>by
  obtain⟨_,o,J,aw⟩:=hl.mem av;rw[af] at J;injection J with J;subst J;exact aw vs U
 refine AA (wpAny_frameOf_fun au hl ar fun q O=>AA (wpAny_entryPlaceOf fun B ai=>AA (Ax ?_ (ai.sizeOk5 _ _ _ _ _))));have ag:=(O.2.1 e ao).trans af;have ah:=AC { cls:=.type "traceback",dict:=none,data:=.fields ([Y,.ref L,.none,rawInt L,.none]++(if B.isEmpty then List.replicate 6 Value.none else B)).toArray } ag
 apply CC ah U aj
 have S:=Ay (AH ag);have ae:=Obj.data_mapFields U (·.setIfInBounds 1 (Value.ref q.objs.size));have aq:=Al (Obj.mapFields (·.setIfInBounds 1 (Value.ref q.objs.size))) ah (Obj.isFreed_of_fields ae)
 have Z:=(Ac (q.push { cls:=.type "traceback",dict:=none,data:=.fields ([Y,.ref L,.none,rawInt L,.none]++(if B.isEmpty then List.replicate 6 Value.none else B)).toArray })
  (Obj.mapFields (·.setIfInBounds 1 (Value.ref q.objs.size))) (Ne.symm S)).trans (AL q rfl)
 refine AA (A5 aq ae (x:=.ref q.objs.size) (by simp[aj]) ?_);refine CC Z rfl (by simp_all) (h _ q.objs.size ?_)
 have ak:∀b o,b≠e->q.get? b=some o ->
   (((q.push { cls:=.type "traceback",dict:=none,data:=.fields ([Y,.ref L,.none,rawInt L,.none]++(if B.isEmpty then List.replicate 6 Value.none else B)).toArray }).update e (Obj.mapFields (·.setIfInBounds 1 (Value.ref q.objs.size)))).update q.objs.size
    (Obj.mapFields (·.setIfInBounds 3 ((none:Option Addr).elim Value.none fun f=>rawInt f)))).get? b=some o:=fun b o I F=>by
  rw[Ac _ _ (Ay (AH F)),Ac _ _ (Ne.symm I)];exact AC _ F
 refine⟨S,DF O.1.symm,fun b o I ab F=>ak b o I ((O.2.1 b ab).trans F),fun b o I ab F=>?_,?_,?_⟩
 .obtain ⟨sl,hs⟩:=O.2.2 b o F
  exact⟨sl,ak b _ I hs⟩
 .rwa [Ac _ _ S]
 .exact ⟨_,_,Al _ Z (Obj.isFreed_of_fields (Obj.data_mapFields rfl _)),Obj.data_mapFields rfl _,by first | (simp;done) | (rcases ai with rfl | ⟨_,_,_,_,_,_,_,rfl⟩<;>simp)⟩
def MT
  (J:A.frames=some (q::outer))(O:s.heap.FunFrames base (q::outer))(G:q.frame=some L)(F:s.heap.get? e=some I)(B:I.data=.fields vs)(h1:vs[1]?=some .none)(h:∀h' T,J4 ((q::outer).filterMap (·.frame)) e I T s.heap h'->Q () { s with heap:=h' }):wpAny M A (noteFrame (.ref e) q) (fun _ s'=>wpAny M A (setFlight (.ref e) none) Q E s') E s:=by
 delta noteFrame
 simp only[G]
 refine AA (A5 F B h1 (nC J O G F B (BM.mp h1).1 h))
structure Ot(fs:List Addr)(e:Addr)(oe:Obj)(T0 T:Addr)(h h':Heap):Prop where
 ne:T≠e
 new:h.objs.size<=T
 keep:∀b o,b≠e->b≠T0->b∉fs->h.get? b=some o->h'.get? b=some o
 slot:∀b o,b≠e->b≠T0->b∈fs->h.get? b=some o->∃sl,h'.get? b=some { o with slots:=sl }
 exc:h'.get? e=some (oe.mapFields (·.setIfInBounds 1 (.ref T)))
 ent:∃oT ts,h'.get? T=some oT/\oT.data=.fields ts/\ts[3]?=some .none
 old:∃o,h'.get? T0=some o
def Du
  (ai:A.frames=some (G::outer))(hl:s.heap.FunFrames base (G::outer))(af:G.frame=some L)(ae:s.heap.get? e=some oe)(ab:oe.data=.fields vs)(h1:vs[1]?=some (.ref q))(Y:q≠e)(J:s.heap.get? q=some oT)(O:oT.data=.fields ts)(F:ts[3]?=some .none)(h:∀h' T,Ot ((G::outer).filterMap (·.frame)) e oe q T s.heap h'->Q () { s with heap:=h' }):wpAny M A (noteFrame (.ref e) G) (fun _ s'=>wpAny M A (setFlight (.ref e) none) Q E s') E s:=by
 delta noteFrame
 simp only[af]
 refine AA (A5 ae ab h1 (AA (A5 J O F (AA (CC J O (BM.mp F).1 ?_)))));have S:∀b,b≠q->(s.heap.update q (Obj.mapFields (·.setIfInBounds 3 Value.none))).get? b=s.heap.get? b:=fun b B=>Ac _ _ (Ne.symm B)
 have ag:∀b o,s.heap.get? b=some o->(∀vs,o.data≠.fields vs)->b≠q:=fun b o B I ak=>by
  rw[ak,J] at B;injection B with B;subst B;exact I ts O
 have ah:q∉(G::outer).filterMap (·.frame):=fun aj=>by
  obtain⟨_,o,ho,I⟩:=hl.mem aj;exact ag q o ho I rfl
 refine nC (s:={ s with heap:=s.heap.update q (Obj.mapFields (·.setIfInBounds 3 Value.none)) }) ai (hl.of_keeps fun b o B I=>⟨o,(S b (ag b o B I)).trans B,rfl⟩) af ((S e (Ne.symm Y)).trans ae) ab (BM.mp h1).1 fun h' T Z=>h h' T ?_;refine⟨Z.ne,AY (DF (Heap.size_update _ _ _).symm) Z.new,fun b o h1 h2 F U=>Z.keep b o h1 F ((S b h2).trans U),fun b o h1 h2 F U=>Z.slot b o h1 F ((S b h2).trans U),Z.exc,Z.ent,⟨_,Z.keep q _ Y ah (Al _ J (Obj.isFreed_of_fields (Obj.data_mapFields O _)))⟩⟩
def YE(h:wpAny M A (noteFrame e q) (fun _ s'=>wpAny M A (setFlight e none) Q E s') E s):wpAny M A (leaving q e) Q E s:=AA h
end
end PySem.W
namespace L2
open PySem PySem.Spec PySem.W
open PyProof.Rows hiding St
noncomputable def Ox(H:Hp)(e:Addr):Hp:=fun b=>if b=e then none else H b
def mU: Ox H e e=none:=Ah rfl
def fU(h:b≠e):Ox H e b=H b:=Af h
structure XT(h:Heap)(e C:Addr)(d:Option Addr)(T:Addr):Prop where
 exc:∃oe vs,h.get? e=some oe/\oe.cls=.ref C/\oe.dict=d/\oe.data=.fields vs/\vs[1]?=some (.ref T)
 ne:T≠e
 ent:∃oT ts,h.get? T=some oT/\oT.data=.fields ts/\ts[3]?=some .none
def um(P:Program)(w:World):CXT:=fun outer H s E e s'=>∃q C d T H',e=.ref q/\s'.os=s.os/\AllBare s'.gens/\Un (frs outer) [] H H' s.heap s'.heap/\HOk P w H' s'.heap/\H' q=none/\H' T=none /\
 s.heap.objs.size<=q/\s.heap.objs.size<=T/\XT s'.heap q C d T/\E (.ref C) d H'
def Wi{q:Obj}(S:T≠e)(O:h.get? e=some (q.mapFields (·.setIfInBounds 1 (.ref T))))(I:q.cls=.ref C)(J:q.dict=d)(L:q.data=.fields vs)(hs:1 < vs.size)(G:∃B ts,h.get? T=some B/\B.data=.fields ts/\ts[3]?=some .none):XT h e C d T:=by
 obtain⟨U,Y,F,Z⟩:=q;obtain rfl:F=.fields vs:=L;exact⟨⟨_,_,O,I,J,rfl,by simp[hs]⟩,S,G⟩
section
variable {P:Program}{w:World}{K:Ds}{mg:Str->Option Value}{base:Heap}{N:List Str}{qual:Str}{scope:Scope}{f:Addr}{cd:Value}{A:Around}{outer:List Env}{s s1:Shared}{H H2:Hp}{E E':XK}{pins:List (Addr×Obj)}{σ:St}{e C:Addr}{d:Option Addr}
def vp{fs:List Addr}{L:Addr}(I:Inv X pins σ H2 s1)(Y:X.ex=[])(S:X.s₀.heap.objs.size<=L)(O:∀b,b∈fs↔b=L\/b∈X.fs)(k:∀b o,b < X.s₀.heap.objs.size->b∉fs->s1.heap.get? b=some o->h'.get? b=some o)(sl:∀b o,b < X.s₀.heap.objs.size->b∈fs->s1.heap.get? b=some o->∃z,h'.get? b=some { o with slots:=z })(U:∀b,H2 b=none->H' b=none)(hs:∀b o,H2 b=some o->(∀φ,o≠.ext φ)->H' b=some o):Un X.fs [] X.H₀ H' X.s₀.heap h':=by
 have J:∀b o,X.s₀.heap.get? b=some o->b < X.s₀.heap.objs.size/\b≠L:=fun b o q=>⟨AH q,AV (AK (AH q) S)⟩;have F:∀b,b∉X.ex:=fun b z=>by rw[Y] at z;cases z
 refine⟨fun b o q n B _=>?_,fun b o q n B _=>?_,fun b o q n _=>U b (I.base.free b o q n (F b)),fun b o q _=>?_,fun b xs q=>?_,fun b o u q=>?_,fun b ps q=>?_⟩
 .exact k b o (J b o q).1 (fun z=>((O b).1 z).elim (J b o q).2 B) (I.base.keep b o q n B (F b))
 .obtain ⟨z,G⟩:=I.base.slot b o q n B (F b)
  obtain⟨z',Z⟩:=sl b _ (J b o q).1 ((O b).2 (.inr B)) G;exact⟨z',Z⟩
 .obtain ⟨o',G⟩:=I.base.there b o q (F b)
  by_cases hb:b∈fs
  .grind
  .grind
 .exact hs b _ (I.base.tups b xs q) fun _ z=>nomatch z
 .exact hs b _ (I.base.frzs b o u q) fun _ z=>nomatch z
 .obtain ⟨m,G⟩:=I.base.tbls b ps q
  exact⟨m,hs b _ G fun _ z=>nomatch z⟩
def YU(I:Inv X pins σ H2 s1)(k:∀b o,(∃u,H' b=some u)->s1.heap.get? b=some o->h'.get? b=some o)(hs:∀b u,H' b=some u->H2 b=some u)(B:∀b y,H2 b=some (.own y)->H' b=H2 b)(F:∀b xs,H2 b=some (.tup xs)->H' b=H2 b):HOk X.prog X.w H' h':=fun a o q=>
 (I.hok a o (hs a o q)).stay (fun b u J G=>k b u (by grind) G) (fun b z=>(B b a z).trans z) (fun b xs z=>(F b xs z).trans z)
def Lh(I:Inv (vB (um P w) P w K mg base N qual scope f cd A outer s H E) pins σ H2 s1)(J:H2 e=some (.ext (XB e C d)))(hs:s.heap.objs.size<=e)(q:E (.ref C) d (Ox H2 e)):
  (vB (um P w) P w K mg base N qual scope f cd A outer s H E).xe (.ref e) s1:=by
 refine Gn (I.xb J) fun t O=>YE (MT I.ok.frames I.stack rfl O rfl rfl fun h' T Z=>⟨e,C,d,T,Ox H2 e,rfl,I.os,I.bare,?_,?_,mU,?_,hs,AY I.sz Z.new,Wi Z.ne Z.exc rfl rfl rfl (by simp_all) Z.ent,q⟩)
 .refine vp I rfl (AI _) (fun b=>?_) (fun b o F L q=>Z.keep b o (AV (AK F hs)) L q) (fun b o F L q=>Z.slot b o (AV (AK F hs)) L q) (fun b z=>?_) fun b o z S=>?_
  .show b∈s.heap.objs.size::frs outer↔_
   rw[AZ];exact Iff.rfl
  .by_cases F:b=e
   .lia
   .rwa [fU F]
  .have G:b≠e:=fun y=>by rw[y,J] at z;exact S _ (Au z).symm
   rwa [fU G]
 .refine YU I (fun b o B q=>Z.keep b o (fun z=>?_) (fun z=>?_) q) (fun b u z=>?_) (fun b y z=>fU fun h=>?_) fun b xs z=>fU fun h=>?_
  .obtain ⟨u,B⟩:=B;rw[z,mU] at B;cases B
  .obtain ⟨u,B⟩:=B
   have G:b≠e:=fun h=>by rw[h,mU] at B;cases B
   rw[fU G,I.stkFree b z] at B;cases B
  .have G:b≠e:=fun h=>by rw[h,mU] at z;cases z
   rwa [fU G] at z
  .lia
  .rw [h,J] at z;cases z
 .exact (fU Z.ne)▸I.hok.fresh Z.new
end
section
variable {X:Cx}{CX:CXT}{k:Nat}{f C:Addr}{fd:FuncData}{ps:List Str}{sp:Sp}{E:XK}{x:Str}{p pos cpos np:Pos}{e:Expr}{es:List Expr}{t:TA}
def Inv.O9{σ:St}(I:Inv X pins σ H s):Inv X pins σ (upd H (s.heap.objs.size+1) (.ext (XB (s.heap.objs.size+1) C none)))
  { s with heap:=(s.heap.push (rY us)).push (dZ C none (.ref s.heap.objs.size)) }:=by
 have B:=I.kept (t':=s.toks) (h':=s.heap.push (rY us)) fun b u q=>AC _ q
 have F:((s.heap.push (rY us)).push (dZ C none (.ref s.heap.objs.size))).get? (s.heap.objs.size+1)=some (dZ C none (.ref s.heap.objs.size)):=by
  have:=AL (s.heap.push (rY us)) (o:=dZ C none (.ref s.heap.objs.size)) rfl
  rwa [Br] at this
 exact B.laid (t':=s.toks) (fun b u q=>AC _ q) (DF (Br _ _)) (Wo F)
structure Uy(K:Ds)(C f:Addr):Prop where
 xm:O3 K C
 init:findIn K (.ref C) "__init__" = some (some (.ref f))
 fn:isFn K (.ref f)=true
 kp:keepIn K (.ref C)=true
def K0{σ:St}(M:Uy X.K C f)(F:FnOk X.prog X.w X.K X.mg X.base CX k f fd ps sp)(Z:Room (k+1) X.A)(Y:Binds X.K fd ps [])(hx:jK CX X E)(I:Inv X pins σ H s)(r:Vals vs us)(hz:vs.length<=1000)(h:∀e,H e=none->X.s₀.heap.objs.size<=e->sp (.ref e::vs) (upd H e (.ext (XB e C none))) (fun v H2=>v=.non/\Q (.ref e) H2) E):
  wpAny (model X.prog X.w) X.A (call (.ref C) us) (EP X pins σ Q) X.xe s:=by
 have L:=h (s.heap.objs.size+1) (I.hok.fresh (Bn _)) (AY I.sz (Bn _));have B:=Inv.O9 (C:=C) (us:=us) I;have O:Vals (V.ref (s.heap.objs.size+1)::vs) (Value.ref (s.heap.objs.size+1)::us):=.cons rfl r
 have hl:(Value.ref (s.heap.objs.size+1)::us).length=ps.length:=by
  have e:=O.length;rw[F.len _ _ _ _ L] at e;exact e.symm
 have ab:us.length<=sizeLine :=r.length▸AY hz (by decide);have J:=Y { s with heap:=(s.heap.push (rY us)).push (dZ C none (.ref s.heap.objs.size)) } (Value.ref (s.heap.objs.size+1)::us) B.kIn (by grind);rw[Ae] at J;obtain⟨G,g,dd,tk,os⟩:=s
 refine CD (X7 (kL I.kIn M.xm) ab (looks_findIn I.kIn M.init) (fun ae=>bind_fn I.kIn ae (beq_iff_eq.mp M.fn)) (CN (F.run _ X.stack _ _ ⟨Value.ref (G.objs.size+1)::us,[]⟩ (Value.ref (G.objs.size+1)::us) _ _ E (Z.make C us [])
  (B.env0.make C us []) J O L) fun r s' q=>?_))
 cases r with
 |error e=>exact hx pins σ _ _ e s' B q
 |ok U =>
  cases U with
  |ret u =>
   obtain⟨v,H',S,rv,rfl,q3⟩:=B.after q;exact⟨rv,⟨V.ref (G.objs.size+1),H',S,rfl,q3⟩⟩
  |next=>exact False.elim q
  |brk=>exact False.elim q
  |cont=>exact False.elim q
def UW(C:Addr)(n:Nat)(sp:Sp)(E:XK)(t:TA):TE:=fun σ H Q=>t σ H fun vs H1=>vs.length<=1000/\∀e,H1 e=none->n<=e->sp (.ref e::vs) (upd H1 e (.ext (XB e C none))) (fun v H2=>v=.non/\Q (.ref e) H2) E
def W4(M:Uy X.K C f)(F:FnOk X.prog X.w X.K X.mg X.base CX k f fd ps sp)(Y:Room (k+1) X.A)(O:Gl X x)(S:X.mg x=some (.ref C))(G:Binds X.K fd ps [])(Z:jK CX X E)(B:PA X (e::es) t)(J:(x==("__debug__" : Str))=false:=by decide)(L:starEach (e::es) X.env=(false,eval e X.env)::starEach es X.env:=by rfl)(U:(backTo pos (starEach es X.env)).any (·.1)=false:=by rfl):
  PE X (.Call (.Name x p) (e::es) [] pos) (UW C X.s₀.heap.objs.size sp E t):=by
 intro pins s σ H Q I h;exact Bv (oG I O S (Cg I.ok.mod.kin M.kp (thn (B pos pins s σ H _ I h) fun us s1 zz=>dH zz fun vs H1 q r hz ab=> ⟨q.kIn,K0 M F Y G Z q r hz ab⟩) L U) J)
def Uk(X:Cx)(W:Addr->Hp->Prop):Prop:=∀(pins:List (Addr×Obj))(σ:St)(s:Shared)(e:Addr)(H:Hp),Inv X pins σ H s->X.s₀.heap.objs.size<=e->W e H->X.xe (.ref e) s
def LQ(n:Nat)(te:TE)(C:Addr)(W:Addr->Hp->Prop):TS:=fun D σ H=>te σ H fun v H1=>∃e d,v=.ref e/\n<=e/\H1 e=some (.ext (XB e C d))/\W e H1
def WU(M:O3 X.K C)(ht:∃O od cd S,X.K.lookup C=some ⟨O,od,.cls cd,S⟩/\O=.type "type")(F:X.calm=true)(Y:Uk X W)(Z:PE X ex te):PS X (.Raise (some ex) none pos) (LQ X.s₀.heap.objs.size te C W):=by
 intro pins s σ H D I h;obtain⟨O,od,cd,S,hl,rfl⟩:=ht
 have ab:∀s,wpAny (model X.prog X.w) X.A (eval ex X.env) (EP X pins σ fun v H1=>∃e d,v=.ref e/\X.s₀.heap.objs.size<=e/\H1 e=some (.ext (XB e C d))/\W e H1) X.xe s ->
   wpAny (model X.prog X.w) X.A (eval ex X.env) (fun v B=>∃e C d t L cd,v=.ref e/\B.heap.get? C=some L/\L.data=.cls cd/\L.cls=.type "type"/\xS (model X.prog X.w) B.heap C/\B.heap.get? e=some (dZ C d (.ref t))/\X.xe (.ref e) B) X.xe s:=fun s z=>thn z fun u s1 ⟨v,H1,q,r,e,d,U,hn,hx,w⟩=>by
  subst U;obtain rfl:u=Value.ref e:=r;obtain⟨t,ho⟩:=q.xb hx;exact⟨e,C,d,t,_,cd,rfl,q.kIn _ _ hl,rfl,rfl,kL q.kIn M,ho,Y pins σ s1 e H1 q hn w⟩
 have J:=ab s (Z pins s σ H _ I h)
 first
  |refine AA (B4 (bL (I.ok.hd F) (AA (A3 J (fun v ae G=>AA (B4 (AD G))) fun _ _ x=>x))))
  | (refine AA (B4 (bL (I.ok.hd F) (AA (A3 J (fun v ae G=>AA (B4 (AD G))) fun _ _ x=>x)))))
  | (exact AA (B4 (bL (I.ok.hd F) J)))
end
section
variable {X:Cx}{pins:List (Addr×Obj)}{σ:St}{H:Hp}{s:Shared}
def Inv.locals(I:Inv X pins σ H s)(hs:Heap.SameBut X.env.locals s.heap h')(Y:h'.Ns X.env.locals m')(U:∀(i:Nat)(x:Str)(v:V),X.N[i]?=some x->σ[i]?=some (some v)->Vis X.env.scope x->∃u,RelV v u/\Look X.env h' m' x u):Inv X pins σ H { s with heap:=h',toks:=t' }:=by
 obtain⟨m,⟨oL,_,_,ab,_⟩,_⟩:=id I.loc;have L:∀b o,X.s₀.heap.get? b=some o->b≠X.env.locals:=fun b o e=>AV (AK (AH e) I.ok.above);refine⟨I.ok,I.os,I.bare,⟨fun b o e n J B=>?_,fun b o e n J B=>?_,I.base.free,fun b o e B=>?_,I.base.tups,I.base.frzs,I.base.tbls⟩,⟨_,Y,U⟩,fun y c e=>?_,I.free,I.freeC,fun p Z=>?_,fun b ob e=>?_,I.len⟩
 .exact (hs.2 b (L b o e)).trans (I.base.keep b o e n J B)
 .obtain ⟨sl,G⟩:=I.base.slot b o e n J B
  exact⟨sl,(hs.2 b (L b o e)).trans G⟩
 .obtain ⟨o',G⟩:=I.base.there b o e B
  exact⟨o',(hs.2 b (L b o e)).trans G⟩
 .obtain ⟨S,z⟩:=I.cell y c e
  exact⟨S,z.sameBut hs (I.cne y c e)⟩
 .exact uR (I.pin p Z) fun e n O nf d=>⟨(hs.2 p.1 O).trans e,n,O,nf,d⟩
 .refine (I.hok b ob e).stay (fun c S F q=>(hs.2 c ?_).trans q) (fun _ q=>q) fun _ _ q=>q
  rintro rfl
  rcases F with rfl | F
  .rw [I.free] at e;cases e
  .rw [I.free] at F;cases F
def wY(I:Inv X pins σ H s)(L:X.N.Nodup)(hi:X.N[i]?=some n)(hk:X.env.scope.names.lookup n=some .local)(h:∀s',Inv X pins (σ.set i none) H s'->Q () s'):wpAny M A (do bindName X.env n .none;unbindBehindTheSuite X.env n pos) Q E s:=by
 have ab:(X.env.scope.kind==.class || (X.env.scope.kind==.module&&X.env.locals != X.env.globals))=false:=by rw[I.ok.kind];rfl
 refine AA (wpAny_bindName (dU (v:=.non) I L hi (.inl hk) rfl (fun s1 B=>?_) (.inr hk)))
 apply wpAny_onRaise
 have ae:i < σ.length :=I.len▸(Ab.mp hi).1;refine dQ (id B.loc) fun m hn O=>dQ (O i n .non hi (by simp_all) (.inl hk)) fun u ru lk=>?_
 have hv:m n=some u:=by
  rcases lk with ⟨_,z⟩ | ⟨z,_⟩
  .exact z
  .have af:X.env.kindOf n=some .local:=hk
   rcases z with z | z<;>(rw[af] at z;cases z)
 refine wpAny_unbindName_local hk hn hv ab fun h' u' ag S=>h _ ?_
 have U:Inv X pins (σ.set i none) H s1:=B.weak (by grind) fun j v hj=>by
  by_cases e:i=j
  .simp_all
  .simp_all
 refine U.locals (t':=s1.toks) S ag fun j x v J F Z=>?_;have hj:j≠i:=fun z=>by subst z;rw[Dj ae] at F;cases F
 have Y:(σ.set i (some V.non))[j]?=some (some v):=by rwa [A9 (Ne.symm hj)] at F ⊢
 refine dQ (O j x v J Y Z) fun w ah l=>⟨w,ah,?_⟩
 rcases l with ⟨G,q⟩ | ⟨G,c,q,k3⟩
 .have:x≠n:=fun z=>hj (lC L J (z▸hi))
  exact .inl ⟨G,by simp[this,q]⟩
 .exact .inr ⟨G,c,q,k3.sameBut S (B.cne x c q)⟩
abbrev Cx.vd(X:Cx)(e:Addr)(W:Value->Shared->Prop):Cx:={ X with A:=X.A.mark (some (.ref e)),calm:=false,xe:=W }
def Inv.vd(I:Inv X pins σ H s)(e:Addr)(W:Value->Shared->Prop):Inv (X.vd e W) pins σ H s :=
 ⟨⟨I.ok.mod,I.ok.kind,I.ok.glob,I.ok.blt,I.ok.above,I.ok.inj,I.ok.has,I.ok.cab,(fun z=>nomatch z),I.ok.frames,I.ok.stk,I.ok.exf,I.ok.bs,I.ok.bsz,I.ok.noex,I.ok.exfs,I.ok.funs,I.ok.frf⟩,I.os,I.bare,I.base,I.loc,I.cell,I.free,I.freeC,I.pin,I.hok,I.len⟩
def Inv.zb(q:X.Ok)(I:Inv (X.vd e W) pins σ H s):Inv X pins σ H s:=⟨q,I.os,I.bare,I.base,I.loc,I.cell,I.free,I.freeC,I.pin,I.hok,I.len⟩
def XO(e C:Addr)(d:Option Addr):Heap->Prop:=fun h=>∃q vs,h.get? e=some q/\q.cls=.ref C/\q.dict=d/\q.data=.fields vs
def O8(z:XO e C d h):ObjOk P w H h e (.ext (XO e C d)) :=
 ⟨z,let ⟨q,_,h1,_⟩:=z;⟨q,h1⟩,fun h1 h2 ⟨q,vs,a,b⟩ k=>⟨q,vs,k _ a,b⟩⟩
def G0(I:Inv X pins σ H s)(ak:X.stack=X.env::X.outer)(ax:X.env.frame=some X.env.locals)(z:um X.prog X.w X.stack H s E' Y s')(h:∀e C d T H' ae,Y=.ref e->H' e=none->X.s₀.heap.objs.size<=e->Inv X pins σ (upd H' e (.ext (XO e C d))) ae->XT ae.heap e C d T->upd H' e (.ext (XO e C d)) T=none->X.s₀.heap.objs.size<=T->(∀p∈X.pn++pins,p.1≠T)->T≠X.env.locals->(∀x c,X.env.cells.lookup x=some c->c≠T)->E' (.ref C) d H'->Q () ae):
  wpAny (model X.prog X.w) X.A (noteFrame Y X.env) (fun _ a7=>wpAny (model X.prog X.w) X.A (setFlight Y none) Q ao a7) ao s':=by
 obtain⟨e,C,d,T,H',rfl,os,O,u,ai,J,n2,l1,l2,⟨⟨oe,vs,ho,hc,av,hv,h1⟩,a5,⟨oT,ts,hT,aw,h3⟩⟩,q⟩:=z;have G:=I.call' os u ai O fun _ z=>nomatch z;have aj:=G.stack;have ah:=G.ok.frames;rw[ak] at aj ah;refine Du ah aj ax ho hv h1 a5 hT aw h3 fun h' T' Z=>?_;have xt:=Wi Z.ne Z.exc hc av hv (BM.mp h1).1 Z.ent
 have bb:XO e C d h':=by
  obtain⟨⟨a6,ba,aq,ar,a3,a4,_⟩,_⟩:=xt;exact⟨a6,ba,aq,ar,a3,a4⟩
 have F:∀b o,s.heap.get? b=some o->b≠e/\b≠T:=fun b o z=>⟨AV (AK (AH z) l1),AV (AK (AH z) l2)⟩;have ab:∀b,b∈(X.env::X.outer).filterMap (·.frame)↔b∈frs X.stack:=fun b=>ak▸Iff.rfl
 have a9:Un (frs X.stack) [] H (upd H' e (.ext (XO e C d))) s.heap h':=by
  refine⟨fun b o q n U _=>?_,fun b o q n U _=>?_,fun b o q n _=>?_,fun b o q _=>?_,fun b xs q=>?_,fun b o u' q=>?_,fun b ps q=>?_⟩
  .exact Z.keep b o (F b o q).1 (F b o q).2 (fun z=>U ((ab b).1 z)) (u.keep b o q n U (by simp))
  .obtain ⟨sl,B⟩:=u.slot b o q n U (by simp)
   obtain⟨a8,q2⟩:=Z.slot b _ (F b o q).1 (F b o q).2 ((ab b).2 U) B;exact⟨a8,q2⟩
  .exact (pQ (F b o q).1)▸u.free b o q n (by simp)
  .obtain ⟨o',B⟩:=u.there b o q (by simp)
   by_cases O:b∈(X.env::X.outer).filterMap (·.frame)
   .obtain ⟨sl,q2⟩:=Z.slot b o' (F b o q).1 (F b o q).2 O B
    exact⟨_,q2⟩
   .exact ⟨o',Z.keep b o' (F b o q).1 (F b o q).2 O B⟩
  .have B:=u.tups b xs q
   rw[pQ (fun z=>by rw[z,J] at B;cases B)];exact B
  .have B:=u.frzs b o u' q
   rw[pQ (fun z=>by rw[z,J] at B;cases B)];exact B
  .obtain ⟨m,B⟩:=u.tbls b ps q
   exact⟨m,by rw[pQ (fun z=>by rw[z,J] at B;cases B)];exact B⟩
 have az:HOk X.prog X.w (upd H' e (.ext (XO e C d))) h':=fun b o q=>by
  by_cases af:b=e
  .subst af;rw[uQ] at q;cases q;exact O8 bb
  .rw [pQ af] at q
   refine(ai b o q).stay (fun c v ag a0=>?_) (fun c z=>?_) fun c xs z=>?_
   .have au:∃w,H' c=some w :=by grind
    obtain⟨w,L⟩:=au;refine Z.keep c v (fun z=>by rw[z,J] at L;cases L) (fun z=>by rw[z,n2] at L;cases L) (fun z=>?_) a0;have:=G.stkFree c ((ab c).1 z);rw[this] at L;cases L
   .rw [pQ (fun y=>by rw[y,J] at z;cases z)];exact z
   .rw [pQ (fun y=>by rw[y,J] at z;cases z)];exact z
 have I3:Inv X pins σ (upd H' e (.ext (XO e C d))) { s' with heap:=h' }:=I.call' os a9 az O fun _ z=>nomatch z;have S:=Z.new;refine h e C d T' H' _ rfl J (AY I.sz l1) I3 xt ?_ (AY G.sz S) (fun p hp=>?_) (fun z=>?_) (fun x c ag z=>?_) q
 .exact (pQ Z.ne)▸G.hok.fresh S
 .exact AV (AK (AH (G.pin p hp).1) S)
 .exact Ay (AK G.lt S) z
 .exact bG (G.cell x c ag) fun v o ay _=>AV (AK (AH ay) S) z
end
noncomputable def Ends.gone(D:Ends)(j:Nat):Ends:=⟨fun σ H=>D.nx (σ.set j none) H,D.rt,fun σ H=>D.bk (σ.set j none) H,fun σ H=>D.ct (σ.set j none) H⟩
section
variable {X:Cx}{pins:List (Addr×Obj)}{σ:St}{H:Hp}{s:Shared}{x n:Str}{j:Nat}{V:Addr}{p pos:Pos}{b₀:Stmt}{suite:List Stmt}{rest:List ExceptHandler}{ts:TS}{D:Ends}{e C T:Addr}{d:Option Addr}
def vh(z:XO e C d h):Looks M h (typeOf (.ref e)) (.ref C) :=nX z fun F vs B q _=>q▸(Looks.ld B).andThen .now
def Inv.xo(I:Inv X pins σ H s)(q:H e=some (.ext (XO e C d))):XO e C d s.heap:=(I.hok e _ q).1
def YX(I:Inv X pins σ H s)(hx:H e=some (.ext (XO e C d)))(xt:XT s.heap e C d T)(hT:H T=none)(lT:X.s₀.heap.objs.size<=T)(pT:∀p∈X.pn++pins,p.1≠T)(nT:T≠X.env.locals)(Z:∀x c,X.env.cells.lookup x=some c->c≠T)(hg:Gl X x)(af:X.mg x=some (.ref V))(ah:exmOne X.K (.ref C) (.ref V)=some true)(L:X.N.Nodup)(hj:X.N[j]?=some n)(hk:X.env.scope.names.lookup n=some .local)(hs:PSs (X.vd e fun _ _=>False) (b₀::suite) ts)(h:ts (D.gone j) (σ.set j (some (.ref e))) H)(ae:(x==("__debug__" : Str))=false):
  wpAny (model X.prog X.w) X.A (handleBy (.ref e) X.env (.ExceptHandler (some (.Name x p)) (some n) (b₀::suite) pos::rest)) (SP X pins D) X.xe s:=by
 have J:Inv (X.vd e fun _ _=>False) pins σ H s:=I.vd e _;refine wpAny_handleBy_cons (codeAny_handlers_test (oG J hg af ?_ ae)) (by intro q;cases q)
 apply (exm_one I.kIn (vh (I.xo hx)) ah).here
 obtain⟨⟨oe,vs,ho,hc,aj,hv,h1⟩,ak,⟨oT,aq,ag,ab,h3⟩⟩:=xt;refine codeAny_handlers_suite_as (wpAny_setFlight_none ho hv h1 ag ab (BM.mp h3).1 ?_);have U:Inv (X.vd e fun _ _=>False) pins σ H { s with heap:=s.heap.update T (Obj.mapFields (·.setIfInBounds 3 .none)) }:=J.turned (t':=s.toks) (fun b o hb q=>(Ac _ _ (Ne.symm hb)).trans q) hT nT (.inr lT) Z pT
 refine dU (X:=X.vd e fun _ _=>False) (v:=.ref e) U L hj (.inl hk) rfl (fun ai Y=>A3 (hs pins ai _ H _ Y h) (fun f ao q=>?_) fun _ _ z=>z.elim) (.inr hk)
 cases f with
 |next =>
  obtain⟨S,H',F,G⟩:=q;exact wY (F.zb I.ok) L hj hk fun O B=>⟨_,_,B,G⟩
 |brk =>
  obtain⟨S,H',F,G⟩:=q;exact wY (F.zb I.ok) L hj hk fun O B=>⟨_,_,B,G⟩
 |cont =>
  obtain⟨S,H',F,G⟩:=q;exact wY (F.zb I.ok) L hj hk fun O B=>⟨_,_,B,G⟩
 |ret u =>
  exact fM q fun v S H' F r4 G=>wY (F.zb I.ok) L hj hk fun O B=>⟨v,_,_,B,r4,G⟩
def J3(K:Ds)(V:Addr)(n:Nat)(j:Nat)(ts:TS)(D:Ends)(σ:St):XK:=fun c d H'=>∃C,c=.ref C/\exmOne K (.ref C) (.ref V)=some true/\∀e,H' e=none->n<=e->ts (D.gone j) (σ.set j (some (.ref e))) (upd H' e (.ext (XO e C d)))
def Lw(I:Inv X pins σ H s)(ab:X.stack=X.env::X.outer)(U:X.env.frame=some X.env.locals)(Y:Gl X x)(Z:X.mg x=some (.ref V))(J:X.N.Nodup)(hj:X.N[j]?=some n)(hk:X.env.scope.names.lookup n=some .local)(hs:∀e,PSs (X.vd e fun _ _=>False) (b₀::suite) ts)(O:(x==("__debug__" : Str))=false)(z:um X.prog X.w X.stack H s (J3 X.K V X.s₀.heap.objs.size j ts D σ) B s'):
  wpAny (model X.prog X.w) X.A (noteFrame B X.env) (fun _ ag=>wpAny (model X.prog X.w) X.A (setFlight B none) (fun _ ah=>wpAny (model X.prog X.w) X.A (handleBy B X.env (.ExceptHandler (some (.Name x p)) (some n) (b₀::suite) pos::rest)) (SP X pins D) X.xe ah) X.xe ag) X.xe s':=by
 refine G0 I ab U z fun e C d T H' ai S hn af F xt nT lT pT nL G q=>?_;subst S;obtain⟨C',L,ae,q⟩:=q;obtain rfl:C=C':=by injection L
 exact YX F uQ xt nT lT pT nL G Y Z ae J hj hk (hs e) (q e hn af) O
end
section
variable {X:Cx}{k:Nat}{f V:Addr}{fd:FuncData}{ps:List Str}{sp:Sp}{ds:List Value}{fn x n y:Str}{p p1 p2 p3 pos apos hpos tpos:Pos}{e:Expr}{es:List Expr}{t:TA}{i j:Nat}{b₀:Stmt}{suite:List Stmt}{ts:TS}
def PJ(K:Ds)(V:Addr)(n i j:Nat)(sp:Sp)(dvs:List L2.V)(t:TA)(ts:TS):TS:=fun D σ H=>t σ H fun vs H1=>sp (vs++dvs) H1 (fun v H2=>D.nx (σ.set i (some v)) H2) (J3 K V n j ts D σ)
def Mm(F:FnOk X.prog X.w X.K X.mg X.base (um X.prog X.w) k f fd ps sp)(hr:Room k X.A)(aj:Gl X fn)(aq:X.mg fn=some (.ref f))(ak:PySem.W.keepIn X.K (.ref f)=true)(hb:Binds X.K fd ps ds)(ab:Vals dvs ds)(au:X.stack=X.env::X.outer)(ah:X.env.frame=some X.env.locals)(hg:Gl X x)(ao:X.mg x=some (.ref V))(L:X.N.Nodup)(hi:X.N[i]?=some y)(hy:Loc X.env.scope y)(hj:X.N[j]?=some n)(hk:X.env.scope.names.lookup n=some .local)(ha:PA (X.wish fun _ _=>False) (e::es) t)(hs:∀e,PSs (X.vd e fun _ _=>False) (b₀::suite) ts)(av:swapsWith (.Call (.Name fn p) (e::es) [] pos) (some (.Name y p1)) apos.line X.env=pure false:=by rfl)(ai:X.fn y=true\/X.env.scope.names.lookup y=some .local:=by first | exact .inl rfl | exact .inr rfl | assumption)(af:(fn==("__debug__" : Str))=false:=by decide)(ae:(x==("__debug__" : Str))=false:=by decide)(ag:starEach (e::es) X.env=(false,eval e X.env)::starEach es X.env:=by rfl)(ar:(backTo pos (starEach es X.env)).any (·.1)=false:=by rfl):
  PS X (.Try [.Assign [.Name y p1] (.Call (.Name fn p) (e::es) [] pos) apos] [.ExceptHandler (some (.Name x p2)) (some n) (b₀::suite) hpos] [] [] tpos) (PJ X.K V X.s₀.heap.objs.size i j sp dvs t ts):=by
 intro pins s σ H D I h;refine wpAny_Try_except (wpAny_execs_cons (wpAny_Assign_Name (Bv (oG I aj aq ?_ af)) av));have S:Inv (X.wish fun _ _=>False) pins σ H s:=⟨⟨I.ok.mod,I.ok.kind,I.ok.glob,I.ok.blt,I.ok.above,I.ok.inj,I.ok.has,I.ok.cab,I.ok.hd,I.ok.frames,I.ok.stk,I.ok.exf,I.ok.bs,I.ok.bsz,I.ok.noex,I.ok.exfs,I.ok.funs,I.ok.frf⟩,I.os,I.bare,I.base,I.loc,I.cell,I.free,I.freeC,I.pin,I.hok,I.len⟩
 refine Cg I.ok.mod.kin ak (A3 (ha pos pins s σ H _ S h) (fun us s1 zz=>nX zz fun vs H1 B r q=> ?_) fun _ _ z=>z.elim) ag ar;have G:Inv X pins σ H1 s1:=⟨I.ok,B.os,B.bare,B.base,B.loc,B.cell,B.free,B.freeC,B.pin,B.hok,B.len⟩;refine⟨G.kIn,?_⟩;have O:=r.append ab;have hl :=O.length▸F.len _ _ _ _ q;refine CD (CN (F.run X.A X.stack s1 H1 ⟨us,[]⟩ (us++ds) (vs++dvs) _ _ hr G.env0 (hb s1 us G.kIn hl) O q) fun r s' J=>?_)
 cases r with
 |error e0=>exact Lw G au ah hg ao L hj hk hs ae J
 |ok Z =>
  cases Z with
  |ret u =>
   exact nX (G.after J) fun v H2 U rv q2=>dU U L hi hy rv (fun aw Y=>Cd (Cd ⟨_,H2,Y,q2⟩)) ai
  |next=>exact False.elim J
  |brk=>exact False.elim J
  |cont=>exact False.elim J
end
end L2
namespace PySem.W
open PySem PySem.Calls PyProof.Rows Builtin
def eT:Slot "ValueError" "__getattribute__" "BaseException.__getattribute__" :=
 .of (owner:="BaseException") (n:="__getattribute__") (by kernel_rfl) (by decide +kernel) (by decide +kernel) (by decide +kernel)
  (by first | exact .inl (by decide +kernel) | exact .inr (by decide +kernel)) (by kernel_rfl)
structure Ui(K:Frag)(C:Addr):Prop where
 ga:findIn K (.ref C) "__getattribute__" = some (some (.builtin "BaseException.__getattribute__"))
 gh:findIn K (.ref C) "__getattr__" = some none
 be:mroIn K C (.type "BaseException")=some true
 hd:hasDictIn K C=true
section
variable {prog:Program}{w:World}{A:Around}{E:Value->Shared->Prop}{s:Shared}{K:Frag}{x C:Addr}{ox:Obj}{od:Option Obj}{name:Str}{tk:Tok}
def xga{U q}(G:Ui K C)(X:K.In s.heap)(I:InstAt s.heap x ox C od)(h:wpAny (model prog w) A.in1 (Builtin.«object.__getattribute__» ⟨[.ref x,.str name tk],[]⟩) (fun B s'=>match B with | .done (.ret v)=>wpAny (model prog w) A (handedOut v) Q E s' | _=>False) (fun _ _=>False) s):
  wpAny (model prog w) A (getAttrBy (.ref x) (.str name tk) U q) Q E s:=by
 have J:=I.type (M:=model prog w);have L:=looks_findIn (M:=model prog w) X G.ga;have O:=looks_findIn (M:=model prog w) X G.gh;have ab:(Value.builtin "BaseException.__getattribute__" == Value.builtin "object.__getattribute__")=false :=by simp<;> rfl
 have hk:builtinKind "BaseException.__getattribute__" = some .slot:=by decide +kernel
 have Z:splitId "BaseException.__getattribute__" = some ("BaseException","__getattribute__"):=by decide +kernel
 refine As (AA (J.here (AA (L.here (AA (O.here (AA (Cb (As ?_)))))))));have S:callGetattribute (.ref x) (.str name tk) (.builtin "BaseException.__getattribute__") q=boundAndCalled (.builtin "BaseException.__getattribute__") (.ref x) (.str name tk):=by cases q<;>rfl
 rw[S];refine AA (Bl (eT.bind _) (CD (Cz eT.plain F.entry_bexc_ga (@check_slot (model prog w) _ _ s "BaseException.__getattribute__" "BaseException" "__getattribute__" (.ref x) [.str name tk] [] _ hk Z (I.type.andThen (Cy X G.be)) (F.args_bexc_ga (.ref x) (.str name tk)) (A3 h (fun B s' z=>?_) fun _ _ z=>z.elim)))))
 cases B with
 |again c=>exact False.elim z
 |done Y =>
  cases Y with
  |ret v=>exact z
  |next=>exact False.elim z
  |brk=>exact False.elim z
  |cont=>exact False.elim z
def Wn(G:Ui K C)(X:K.In s.heap)(I:InstAt s.heap x ox C (some o))(L:findIn K (.ref C) name=some none)(O:lookIn name o=some (some v))(S:handedIn v=true)(h:Q v { s with toks:=s.toks+1 }):wpAny (model prog w) A (getAttr (.ref x) name U) Q E s:=by
 obtain⟨B,q,d,t,os⟩:=s;have F:=I.type (M:=model prog w);have J:=looks_find (M:=model prog w) X I (findObj_own G.hd L rfl O);exact AA (wpAny_mkText (xga (s:=⟨B,q,d,t+1,os⟩) G X I (AA (AD (AA (AD (AA (Bw (s:=⟨B,q,d,t+1,os⟩) F (AA (Bw (s:=⟨B,q,d,t+1,os⟩) J (AD (handed_on S h))))))))))))
def X8(G:Ui K C)(X:K.In s.heap)(I:InstAt s.heap x ox C (some o))(L:findIn K (.ref C) "__class__" = some (some (.builtin "object.__class__")))(U:specialIn K (.builtin "object.__class__") "__get__" = some (some (.builtin "getset_descriptor.__get__")))(Y:takesIn K (.builtin "object.__class__")=some true)(S:mroIn K C (.type "object")=some true)(h:Q (some (.ref C)) { s with toks:=s.toks+1 }):wpAny (model prog w) A (getAttr? (.ref x) "__class__") Q E s:=by
 obtain⟨B,q,d,t,os⟩:=s;have F:=I.type (M:=model prog w);have J:=looks_find (M:=model prog w) X I (findObj_data (by obtain⟨cd,O,_⟩:=(any_some G.hd);rw[O];rfl) L U Y);exact AA (wpAny_mkText (AA (Cb (xga (s:=⟨B,q,d,t+1,os⟩) G X I (AA (AD (AA (AD (AA (Bw (s:=⟨B,q,d,t+1,os⟩) F (AA (Bw (s:=⟨B,q,d,t+1,os⟩) J (AA (As (CD (class_get (s:=⟨B,q,d,t+1,os⟩) X I S (AD (handed_on rfl (AD h)))))))))))))))))))
end
end PySem.W
namespace L2
open PySem PySem.Spec PySem.W
open PyProof.Rows hiding St
structure V8(K:Frag)(C:Addr):Prop where
 toXGet:Ui K C
 ca:findIn K (.ref C) "__class__" = some (some (.builtin "object.__class__"))
 cg:specialIn K (.builtin "object.__class__") "__get__" = some (some (.builtin "getset_descriptor.__get__"))
 tk:takesIn K (.builtin "object.__class__")=some true
 ob:mroIn K C (.type "object")=some true
def YH{K}(c:V8 K C):KitX K (.ref x) (.ref C) (fun h=>InstAt h x ox C (some od)) where
 ty:=fun _ _ _ I=>I.type
 it:=fun _ _ X _=>by
  obtain⟨L,B,_⟩:=any_some c.toXGet.hd
  delta clsIn at B
  split at B
  .rename_i G d' J S F
   intro U Y E' s' k q;exact AA (Dp (k _ _ (X _ _ F)) (AD q))
  .cases B
 ne:=fun h tp Z ab n sl X O=>by
  obtain⟨L,B,_⟩:=any_some c.toXGet.hd;refine Bool.eq_false_iff.mpr fun q=>?_;have e:=Value.ref.inj (beq_iff_eq.mp q);subst e
  delta clsIn at B
  split at B
  .rename_i G d' J S F
   have z:=(X _ _ F).symm.trans O;cases z
  .cases B
 ca:=fun X I k=>X8 c.toXGet X I c.ca c.cg c.tk c.ob k
structure HD(H:Hp)(e C:Addr)(fs:List (Str×V)):Prop where
 at_:∃d,H e=some (.ext (XO e C (some d)))/\H d=some (.ext (XD d fs))
section
variable {X:Cx}{pins:List (Addr×Obj)}{σ:St}{H:Hp}{s:Shared}{e C:Addr}{fs:List (Str×V)}
def Inv.xinst(I:Inv X pins σ H s)(h:HD H e C fs):∃(ox od:Obj)(mA:Str->Option Value),InstAt s.heap e ox C (some od)/\(∀f,lookIn f od=some (mA f))/\∀f,RelO (fs.lookup f) (mA f):=by
 refine dQ h.at_ fun d h1 h2=>dH (I.xo h1) fun L vs q B F G=>xZ ((I.hok d _ h2).1) fun mA n r _=>dQ (gO n) fun od O J=>⟨L,od,mA,⟨q,B,?_,?_⟩,J,r⟩
 .delta notCls
  rw[G]
 .rwa [F]
def VU:CallR X (.builtin "isinstance") (fun xs H Q=>∃e C fs c u b,xs=[.ref e,c]/\HD H e C fs/\V8 X.K C/\(∀B,RelV c B->B=u)/\kitOne X.K (.ref C) u=some b/\Q (.bl b) H):=by
 intro pins s σ H xs us Q I r h;obtain⟨e,C,fs,c,u,b,rfl,L,F,G,hk,q⟩:=h;obtain⟨U,S,rfl,rfl,O⟩:=sN r;cases G S O;exact fM (I.xinst L) fun ox od mA J _ _=>kia_one (YH F) I.kIn J hk (fun z=>nomatch z) fun tk=>⟨.bl b,H,I.tok tk,rfl,q⟩
def Je:CallR X (.builtin "isinstance") (fun xs H Q=>∃e C fs p B b,xs=[.ref e,.ref p]/\H p=some (.tup (List.map V.ref B))/\HD H e C fs/\V8 X.K C/\kitAny X.K (.ref C) (B.map Value.ref)=some b/\Q (.bl b) H):=by
 intro pins s σ H xs us Q I r h;obtain⟨e,C,fs,p,B,b,rfl,L,O,G,hk,q⟩:=h;obtain⟨u1,u2,rfl,rfl,S⟩:=sN r;cases S;obtain⟨z,ab,U,o,h1,h2,⟨m,F⟩,_⟩:=(I.hok p _ L);cases aY U;refine fM (I.xinst O) fun ox od mA J _ _=>?_;obtain⟨Y,dd,Z,sl⟩:=o;subst h2 F;exact kia_tup (YH G) I.kIn J h1 hk (fun z=>nomatch z) fun tk=>⟨.bl b,H,I.tok tk,rfl,q⟩
def Ia(K:Frag)(ta:TE)(f:Str):TE:=fun σ H Q=>ta σ H fun x H1=>∃e C fs v,x=.ref e/\HD H1 e C fs/\Ui K C/\findIn K (.ref C) f=some none/\fs.lookup f=some v/\Q v H1
def yq(L:PE X ex ta)(G:attributeBase ex f X.env (eval ex X.env)=eval ex X.env):PE X (.Attribute ex f pos) (Ia X.K ta f):=by
 intro pins s σ H Q I h;refine KN G (thn (L pins s σ H _ I h) fun u s1 ⟨x,H1,B,rx,e,C,fs,v,ex',Z,O,U,S,q⟩=>?_);subst ex';obtain rfl:u=Value.ref e:=rx;exact fM (B.xinst Z) fun ox od mA J ab Y=>dQ (RelO.some_of (S▸Y f)) fun u hu F=>Wn O B.kIn J U (by grind) (rO F) ⟨v,H1,B.tok _,F,q⟩
end
end L2
namespace CL
open PySem PySem.Spec L2
open PyProof.Rows hiding St
mutual
inductive Sh:Nat->Nat->PV->Prop
 |non {d:Nat}:Sh d 4 .non
 |int {d:Nat} {i:Int} (h:i.natAbs<=1000000000000):Sh d 14 (.int i)
 |tup {d n:Nat} {ts:List PV} (h:La d n ts):Sh (d+1) (n+3) (.tup ts)
inductive La:Nat->Nat->List PV->Prop
 |nil {d:Nat}:La d 0 []
 |cons {d n m:Nat} {t:PV} {ts:List PV} (h:Sh d n t) (r:La d m ts):La d (n+m+2) (t::ts)
end
section
variable {K:Ds}{H:Hp}
def Sh.hS(K:Ds)(H:Hp)(v:V):PV->Prop|.non=>v=.non|.int i=>v=.int i|.tup ts=>∃a vs,v=.ref a/\H a=some (.tup vs)/\d9 K H vs ts|_=>True
theorem Sh.one{d n:Nat}{t:PV}(s:Sh d n t):∀{d' B:Nat}{v:V}{t':PV},Rep K H v t->Sh d' B t'->Rep K H v t'->n=B:=by
 have R:∀{v t},Rep K H v t->Sh.hS K H v t:=fun h=>by cases h<;>first|trivial|rfl|exact⟨_,_,rfl,‹_›,‹_›⟩
 refine @Sh.rec (fun d n t _=>∀{d' B:Nat}{v:V}{t':PV},Rep K H v t->Sh d' B t'->Rep K H v t'->n=B) (fun d n ts _=>∀{d' B:Nat}{vs:List V}{I:List PV},d9 K H vs ts->La d' B I->d9 K H vs I->n=B) ?_ ?_ ?_ ?_ ?_ _ _ _ s
 .intro _ _ _ _ _ r q p;cases q<;>cases R r<;>first|rfl|(obtain⟨_,_,⟨⟩,_⟩:=R p)|cases R p
 .intro _ _ _ _ _ _ _ r q p;cases q<;>cases R r<;>first|rfl|(obtain⟨_,_,⟨⟩,_⟩:=R p)|cases R p
 .intro _ _ _ _ m _ _ _ _ r q p;obtain⟨_,_,rfl,e,r⟩:=R r
  rcases q with _|_|x<;>first|(obtain⟨_,_,z,g,y⟩:=R p;cases z;rw[e] at g;cases g;rw[m r x y])|cases R p
 .intro _ _ _ _ _ r q p;cases r;cases p;cases q;rfl
 .intro _ _ _ _ _ _ _ f g _ _ _ _ r q p;cases r with|cons r a=>cases p with|cons p b=>cases q with|cons q c=>rw[f r q p,g a c b]
theorem mT xs:(tupleText xs).length<=piled xs+3:=by
 delta tupleText
 rw[strLen_append,strLen_append];have q:((("(" : String):Str)).length=1:=rfl;have B:(((if xs.length==1 then ",)" else ")" : String):Str)).length<=2:=by split<;>decide
 rw[q]
 by_cases h:xs=[]
 .have:(Str.join ", " []).length=0:=rfl
  lia
 .have:=join_length_add xs h
  lia
def Ins(K:Ds)(H:Hp)(as:List Addr)(n:Nat):Prop:=∀b∈as,∃d' q t',Sh d' q t'/\Rep K H (.ref b) t'/\q<=n
mutual
theorem Sh.shown{P:Program}{w:World}{h:Heap}(G:HOk P w H h):∀{d n:Nat}{t:PV},Sh d n t->∀{v:V}{u:Value},Rep K H v t->RelV v u->∃as x,ReprK P w as h d u x/\x.length<=n/\Ins K H as n
 |_,_,_,.non,_,u,.non,r=>by
  cases (show u=Value.none from r);exact⟨[],_,.of_is .none [] h _,by decide,fun _ z=>nomatch z⟩
 |_,_,_,.int (i:=i) hi,_,u,.int _,r=>by
  obtain⟨tk,rfl⟩:=(show ∃tk,u=Value.int i tk from r)
  have S:i.natAbs.log2 < 1920:=by
   by_cases h0:i.natAbs=0
   .rw [h0];decide
   .rw [Nat.log2_lt h0]
    exact An hi (AK (show 1000000000000 < 2 ^ 40 by decide) (BQ (by decide) (by decide)))
  exact⟨[],_,.of_is (.int tk S) [] h _,v4 hi,fun _ z=>nomatch z⟩
 |_,_,_,.tup (d:=d) (n:=n) (ts:=ts) s,_,u,.tup (a:=a) (vs:=vs) e J,r=>by
  cases (show u=Value.ref a from r);obtain⟨_,ag,L,o,h1,h2,⟨m,O⟩,_⟩:=(show ObjOk P w H h a (.tup vs) from G a _ e);obtain⟨as,xs,k,Y,hi⟩:=s.shown G J L
  have Z:a∉as:=fun z=>by
   obtain⟨d',F,t',s',B,I⟩:=hi a z;have:=(Sh.tup s).one (.tup e J) s' B;omega
  refine⟨a::as,_,ReprK.tuple h1 h2 O Z (by simpa using k),AY (mT xs) (by omega),fun b q=>?_⟩
  rcases AZ.mp q with rfl | q
  .exact ⟨_,_,_,.tup s,.tup e J,AI _⟩
  .obtain ⟨d',F,t',s',B,I⟩:=hi b q
   exact⟨d',F,t',s',B,by omega⟩
theorem La.shown{P:Program}{w:World}{h:Heap}(G:HOk P w H h):∀{d n:Nat}{ts:List PV},La d n ts->∀{vs:List V}{us:List Value},d9 K H vs ts->Vals vs us->∃as xs,ReprAllK P w as h d us xs/\piled xs<=n/\Ins K H as n
 |_,_,_,.nil,_,_,.nil,.nil=>⟨[],[],.nil,AI _,fun _ z=>nomatch z⟩
 |_,_,_,.cons s ab,_,_,.cons h' r,.cons L ae=>by
  obtain⟨as,x,k,Y,hi⟩:=s.shown G h' L;obtain⟨bs,xs,k',af,U⟩:=ab.shown G r ae;refine⟨as++bs,x::xs,.cons (k.more fun b q=>A2 _ q) (k'.more_le (fun b q=>Aa _ q) (AI _)),by rw[piled_cons];omega,fun b q=>?_⟩
  rcases Ad.mp q with q | q
  .obtain ⟨d',F,t',s',B,I⟩:=hi b q
   exact⟨d',F,t',s',B,by omega⟩
  .obtain ⟨d',F,t',s',B,I⟩:=U b q
   exact⟨d',F,t',s',B,by omega⟩
end
end
def yo(J:PE X (.Name x p) te)(L:X.A.guards=some [])(hu:X.A.units+8 < cLine)(hN:N<=sizeLine):
  PF X (.FormattedValue (.Name x p) 114 none pos) (fun σ H=>te σ H fun v H'=>H'=H/\∃d n ts,Rep X.K H v (.tup ts)/\Sh d n (.tup ts)/\d<=7/\n<=N) N:=fun pins s σ H I h=>by
 refine wpAny_FormattedValue_repr (thn (J pins s σ H _ I h) fun u s1 ⟨v,H1,q,r,F,d,n,ts,Y,sh,ae,O⟩=>?_);subst F
 cases Y with
 |@tup a vs _ e B =>
  cases r
  cases sh with
  |@tup d n _ s' =>
  obtain⟨_,ag,Z,o,h1,h2,⟨m,G⟩,_⟩:=(q.hok a _ e);obtain⟨as,xs,k,hl,hi⟩:=(s'.shown q.hok B Z)
  have S:a∉as:=fun z=>by
   obtain⟨d',n',t',ab,U,O⟩:=(hi a z);have:=(Sh.tup s').one (.tup e B) ab U
   lia
  have af:=mT xs;refine wpAny_pyReprObj_tupleK h1 h2 G S (by simpa using k) L (fun b _=>Clear.nil b) (by lia) (fun _ _ z=>z) (fun h' u tk hk=>?_) (by lia);exact PyProof.Rows.formatField_str (fun t' ah=>⟨_,_,rfl,by lia,q.kept hk⟩) (by lia)
end CL
namespace L2
open PySem PySem.Spec PySem.W
open PyProof.Rows hiding St
section
variable {P:Program}{w:World}{K:Ds}{mg:Str->Option Value}{base:Heap}
def Room.u8(r:Room k A):A.units+8 < cLine:=by
 have:=r.un
 lia
def Fun.okX{st}(F:Fun K x qual st f fd)(S:FnScope N ps (zX st))(L:∀vs H Q E,sp vs H Q E->vs.length=ps.length)(B:∀q A outer s H vs Q E,Room k (A.deeper (envOfC qual (zX st) s.heap.objs.size f q))->sp vs H Q E ->
   ∃t,PSs (vB (um P w) P w K mg base N qual (zX st) f q A outer s H E) (nJ st) t/\t { nx:=fun _ H'=>Q .non H',rt:=Q } (start N vs) H):FnOk P w K mg base (um P w) (k+1) f fd ps sp:=by
 obtain⟨oc,od,ab,Z,af,U,q,Y,ae,rfl,O,G⟩:=F.ex;exact fn_of O G S L fun A outer s H vs Q E I J=>B q A outer s H vs Q E I J
def Wr(B:H e=none)(q:d≠e):Ox (upd (upd (upd H e a) d o) e b) e=upd H d o:=by
 funext c
 by_cases h:c=e
 .subst h;rw[mU,pQ (Ne.symm q),B]
 .rw [fU h,pQ h]
  by_cases h':c=d
  .subst h';rw[uQ,uQ]
  .rw [pQ h',pQ h',pQ h]
def spI(K:Frag)(C:Addr)(f:Str)(M:Nat):Sp:=fun vs H Q _=>∃e v q n ts,vs=[.ref e,v]/\H e=some (.ext (XB e C none))/\CL.Rep K H v (.tup ts)/\CL.Sh q n (.tup ts)/\q<=7/\n<=M /\
 ∀d,H d=none->d≠e->Q .non (upd (upd H d (.ext (XD d [(f,v)]))) e (.ext (XB e C (some d))))
def wz(K:Frag)(C:Addr)(f:Str)(M i:Nat)(E:XK):TS:=fun _ σ H=>∃v q n ts,σ[i]?=some (some v)/\CL.Rep K H v (.tup ts)/\CL.Sh q n (.tup ts)/\q<=7/\n<=M/\∀d,H d=none->E (.ref C) (some d) (upd H d (.ext (XD d [(f,v)])))
variable {N:List Str}{qual:Str}{scope:Scope}{g C f0:Addr}{cd:Value}{A:Around}{outer:List Env}{s:Shared}{H:Hp}{E:XK}
def K5(q:Uy K C f0)(ht:∃G od cd sl,K.lookup C=some ⟨G,od,.cls cd,sl⟩/\G=.type "type")(F:FnOk P w K mg base CX0 k f0 fd ps (spI K C O M))(hr:Room (k+1) (vB (um P w) P w K mg base N qual scope g cd A outer s H E).A)(hg:Gl (vB (um P w) P w K mg base N qual scope g cd A outer s H E) x)(ab:mg x=some (.ref C))(U:Binds K fd ps [])(S:PE (vB (um P w) P w K mg base N qual scope g cd A outer s H E) (.Name y p1) (tVar i))(Z:(x==("__debug__" : Str))=false:=by decide):
  PS (vB (um P w) P w K mg base N qual scope g cd A outer s H E) (.Raise (some (.Call (.Name x p) [.Name y p1] [] pos)) none pos') (wz K C O M i E):=by
 have J:=WU (pos:=pos') q.xm ht rfl (show Uk (vB (um P w) P w K mg base N qual scope g cd A outer s H E) (fun e H2=>∃d,H2 e=some (.ext (XB e C d))/\E (.ref C) d (Ox H2 e)) from fun pins σ s1 e H2 I hs zz=>dQ zz fun d h1 h2=> Lh I h1 hs h2) (W4 (p:=p) (pos:=pos) q F hr hg ab U kO (aH S oV) Z);intro pins s1 σ H1 D I h;refine R6 h fun v L n ts hv r sh Y hn ae=>J pins s1 σ H1 D I ⟨v,hv,⟨by show 1<=1000;decide,fun e B hl=>⟨e,v,L,n,ts,rfl,uQ,r.cT (CL.iz.new B _),sh,Y,hn,fun d h1 h2=>⟨rfl,e,some d,rfl,hl,uQ,some d,uQ,?_⟩⟩⟩⟩
 exact(Wr B h2)▸ae d (by rwa [pQ h2] at h1)
end
end L2
namespace L2
open PySem PySem.Spec PySem.W
section
variable {K:Frag}{C D:Addr}{t c:Value}{T:String}{b:Bool}{r:List Value}
def M7(m:kitMeta T=true)(h:subIn K t (.type T)=some b):kitCls K t (.type T)=some b:=by
 show(if kitMeta T=true then subIn K t (.type T) else none)=some b
 rwa [Ah m]
def qR(h1:(clsIn K D).isSome=true)(h2:typeIn K (.ref D)=some (.type "type"))(h:subIn K t (.ref D)=some b):kitCls K t (.ref D)=some b:=by
 show(if ((clsIn K D).isSome&&typeIn K (.ref D)==some (.type "type"))=true then subIn K t (.ref D) else none)=some b;rw[Ah (by lia)];exact h
def Xa(n:(t==c)=false)(h:kitCls K t c=some b):kitOne K t c=some b :=by simp_all[kitOne,Bool.false_ne_true]
def Ro(n:(t==c)=true):kitOne K t c=some true :=by grind[kitOne]
def Dy:kitAny K t []=some false:=rfl
def sA(h:kitOne K t c=some false)(g:kitAny K t r=some false):kitAny K t (c::r)=some false:=by
 unfold kitAny;rwa [h]
def R0(h:subIn K c (.type "BaseException")=some true)(g:kitCls K t c=some b):exmOne K t c=some b :=by simp_all[exmOne]
end
end L2
namespace CL
open PySem PySem.Spec L2
open PyProof.Rows hiding St
def Eb{f}{pos}K(F:JE X ex ta)(q:X.K=K:=by rfl)(B:attributeBase ex f X.env (eval ex X.env)=eval ex X.env:=by rfl):JE X (.Attribute ex f pos) (Ia K ta f):=by
 subst q;exact⟨yq F.h B⟩
def rIsX(K:Ds):List V->Hp->VK->Prop:=fun xs H Q=>∃e C fs c u b,xs=[.ref e,c]/\HD H e C fs/\V8 K C/\(∀q,RelV c q->q=u)/\PySem.W.kitOne K (.ref C) u=some b/\Q (.bl b) H
def PQ(K:Ds):List V->Hp->VK->Prop:=fun xs H Q=>∃e C fs p q b,xs=[.ref e,.ref p]/\H p=some (.tup (List.map V.ref q))/\HD H e C fs/\V8 K C/\PySem.W.kitAny K (.ref C) (q.map Value.ref)=some b/\Q (.bl b) H
def XN K(q:X.K=K:=by rfl):CallR X (.builtin "isinstance") (rIsX K):=q▸VU
def VW K(q:X.K=K:=by rfl):CallR X (.builtin "isinstance") (PQ K):=q▸Je
def Qi{st}(h:PS X.nox st t):PS X st t:=fun pins s σ H D I B=>
 A3 (h pins s σ H D (I.wish _) B) (fun _ _ q=>q.unwish) fun _ _ z=>False.elim z
abbrev XC:=Addr->List (Str×PV)->CH->Prop
abbrev GX:=List PV->CH->K1->XC->Prop
def XRel(K:Ds)(H:Hp)(C:CH)(F:XC)(E:XK):Prop:=∀q d H' fs B C',F q fs C'->H' d=some (.ext (XD d B))->FP K H' B fs->d8 K H' C'->Fw H C H' C'->E (.ref q) (some d) H'
def spX(K:Ds)(G:GX):Sp:=fun vs H Q E=>∃ts C R q,d9 K H vs ts/\d8 K H C/\G ts C R q/\(∀v H' t C',R t C'->Rep K H' v t->d8 K H' C'->Fw H C H' C'->Q v H')/\XRel K H C q E
section
variable {K:Ds}{H:Hp}{C:CH}{σ:St}{ρ:jm}{D:Ends}{c:km}{u:TS}
def LC(s:gq K H σ ρ)(h:d8 K H C)k(q:c { nx:=k,rt:=fun _ _=>False } ρ C)(B:∀G H' F C',k F C'->gq K H' G F->d8 K H' C'->Fw H C H' C'->u D G H'):tSeq (Q7 K c) u D σ H :=
 ⟨ρ,C,_,s,h,q,⟨B,fun _ _ _ _ z=>z.elim,fun _ _ _ _ z=>z.elim,fun _ _ _ _ z=>z.elim⟩⟩
def retX(s:gq K H σ ρ)(h:d8 K H C)R(q:c { nx:=fun _ _=>False,rt:=R } ρ C)(B:∀v H' t C',R t C'->Rep K H' v t->d8 K H' C'->Fw H C H' C'->D.rt v H'):Q7 K c D σ H :=
 ⟨ρ,C,_,s,h,q,⟨fun _ _ _ _ z=>z.elim,B,fun _ _ _ _ z=>z.elim,fun _ _ _ _ z=>z.elim⟩⟩
def UT{V n:Nat}{O:sr}(s:gq K H σ ρ)(h:d8 K H C)J L(ag:O ρ C fun xs C1=>G xs C1 J L)(af:∀v H2 t C2,J t C2->Rep K H2 v t->d8 K H2 C2->Fw H C H2 C2->gq K H2 σ ρ->D.nx (σ.set i (some v)) H2)(ex:∀q fs C2,L q fs C2->PySem.W.exmOne K (.ref q) (.ref V)=some true/\∀e H2 B,HD H2 e q B->n<=e->FP K H2 B fs->d8 K H2 C2->Fw H C H2 C2->gq K H2 σ ρ->ts (D.gone j) (σ.set j (some (.ref e))) H2):
  PJ K V n i j (spX K G) [] (xJ K (d9 K) O) ts D σ H:=by
 refine⟨ρ,C,_,s,h,ag,fun vs H1 xs C1 g r h1 S=>⟨xs,C1,J,L,by rw[Ae];exact r,h1,g,fun v H2 t C2 k r2 h2 I=>?_,fun q d H2 fs B C2 k U ae h2 I=>?_⟩⟩
 .have f:=S.trans I
  exact af v H2 t C2 k r2 h2 f (s.cT (f.cT h))
 .obtain ⟨Y,Z⟩:=ex q fs C2 k
  refine⟨q,rfl,Y,fun e F hl=>?_⟩;have f:=(S.trans I).trans (Fw.new F (.ext (XO e q (some d))));have ab:d≠e:=fun z=>by rw[z,F] at U;cases U
  exact Z e _ B ⟨d,uQ,by rwa [pQ ab]⟩ hl (Paired.mapP ae fun _ _ z=>⟨z.1,z.2.cT (iz.new F _)⟩) (h2.new F _) f (s.cT (f.cT h))
end
end CL
namespace PySem
open PySem.Spec PyProof.Rows PyProof.Rows.F
section
variable {prog:Program}{w:World}{κ:Type}[DecidableEq κ]{hk:HeapKind prog w κ}{A:Around}{d it t:Addr}{items:Array Value}{qs:List (κ×Addr×Value)}{res:Value}
noncomputable def kG(acc qs:List (κ×Addr×Value)):List (κ×Addr×Value):=qs.foldl (fun acc q=>storedH acc q.1 q.2.1 q.2.2) acc
structure Qg(hk:HeapKind prog w κ):Prop where
 tup:∀{h:Heap}{k:κ}{a:Addr},hk.is h k a->∃o its n,h.get? a=some o/\o.cls=.type "tuple"/\o.data=.seq its n
 mv:∀{h h':Heap}{k:κ}{a:Addr},hk.is h k a->(∀b o its n,o.cls=.type "tuple"->o.data=.seq its n->h.get? b=some o->h'.get? b=some o)->hk.is h' k a
def kP(x:h.DictOfH hk d xs)(e:∀o,h.get? d=some o->h'.get? d=some o)(k:∀(B:κ)(a:Addr),hk.is h B a->hk.is h' B a):h'.DictOfH hk d xs :=
 let ⟨o,es,ep,q,F,G,I,J,L⟩:=x;⟨o,es,ep,e o q,F,G,I,fun x O=>k _ _ (J x O),L⟩
def oE acc(k:κ)a v:(storedH acc k a v).length<=acc.length+1:=by
 cases e:atKey acc k with
 |none=>rw[storedH_new e,AE];exact AI _
 |some p=>rw[storedH_old e,AB];exact Bn _
def Zy(ae:Qg hk)(aq:A.in1.handled=none)(hu:hk.room A.in1)(Y:d≠it)(ay:d≠t)(a6:t≠it)(a7:items[qs.length]?=none):∀r i s acc,i+r=qs.length ->
   s.heap.IsTupleIter it t i->s.heap.IsTuple t items->s.heap.DictOfH hk d acc->acc.length+r<=sizeLine ->
   (∀j(h:j < qs.length),∃p,items[j]?=some (.ref p)/\p≠d/\p≠it/\s.heap.IsTuple p #[.ref qs[j].2.1,qs[j].2.2]/\hk.is s.heap qs[j].1 qs[j].2.1) ->
   (∀h tk,(∀b o,b≠d->b≠it->s.heap.get? b=some o->h.get? b=some o)->h.DictOfH hk d (kG acc (qs.drop i))->R (.ok (.ret res)) { s with heap:=h,toks:=tk }) ->
   codeAny (model prog w) A (.builtin "dict.update.loop" ⟨[.ref d,.ref it,rawInt i,res],[]⟩) R s:=by
 have aj:∀{h:Heap}{b:Addr}{o:Obj}{i:Nat},o.cls=.type "tuple"->h.get? b=some o->h.IsTupleIter it t i->b≠it:=by
  rintro h b o i c e ⟨o',I,G,_⟩ rfl;rw[e] at I;cases I;rw[c] at G;exact absurd G (by decide)
 have az:∀{h:Heap}{b:Addr}{o:Obj}{ai:Array Value}{n:Nat}{xs:List (κ×Addr×Value)},o.data=.seq ai n->h.get? b=some o->h.DictOfH hk d xs->b≠d:=by
  rintro h b o ai n xs c e ⟨o',es,ep,I,_,G,_⟩ rfl;rw[e] at I;cases I;rw[c] at G;cases G
 intro r
 induction r with
 |zero =>
  intro i s acc e J tt S hz U L;have ei:i=qs.length:=by lia
  subst ei;rw[Bq] at L;exact BX jM ((Dr kW _)▸AA (Dc aq J tt a7 fun h x=>AA (AD (AD (L h s.toks (fun b o _ ax q=>x b o ax q) (kP S (fun o q=>x d o Y q) fun O a z=>ae.mv z fun b o _ _ c _ q=>x b o (aj c q J) q))))))
 |succ r ih =>
  intro i s acc e J tt S hz U L;have hi:i < qs.length:=by lia
  refine Xq (U i hi) fun p hp a8 a0 tp kk=>BX jM (AA (DX J tt hp fun h1 av B=>?_));have ab:∀O a,hk.is s.heap O a->hk.is h1 O a:=fun O a z=>ae.mv z fun b o _ _ c _ q=>B.extBut b o (aj c q J) q;have ag:=kP S (fun o q=>B.extBut d o Y q) ab;have ak:=fZ tp fun o q=>B.extBut p o a0 q;refine AA (As (AA (wpAny_tryCatch (AA (CM ak.typeIs ?_)))))
  obtain⟨op,e1,e2,n,e3⟩:=id ak;refine AA (Bp e1 e3 (AD (As (wpAny_dictSet_heap hu (ab _ _ kk) ag (fun h2 ar F=>?_) (by lia)))))
  have au:kG acc (qs.drop i)=kG (storedH acc qs[i].1 qs[i].2.1 qs[i].2.2) (qs.drop (i+1)):=by
   rw[Ap hi];rfl
  refine AD ⟨BH kW _,?_⟩;have ek:rawInt ((i:Int)+1)=rawInt ((i+1:Nat):Int):=by rw[Int.natCast_add];rfl
  refine ih (i+1) _ (storedH acc qs[i].1 qs[i].2.1 qs[i].2.2) (by lia) (zR av fun o q=>(F.2 it (Ne.symm Y)).trans q) (fZ (fZ tt fun o q=>B.extBut t o a6 q) fun o q=>(F.2 t (Ne.symm ay)).trans q) ar ?_ (fun j hj=>?_) fun h tk aw ah=>?_
  .have:=oE acc qs[i].1 qs[i].2.1 qs[i].2.2
   lia
  .exact Xq (U j hj) fun Z ao af a3 a4 a5=>⟨Z,ao,af,a3,fZ (fZ a4 fun o q=>B.extBut Z o a3 q) fun o q=>(F.2 Z af).trans q,ae.mv (ab _ _ a5) fun b o _ _ _ c q=>(F.2 b (az c q ag)).trans q⟩
  .rw [<- au] at ah
   exact L h tk (fun b o n1 n2 q=>aw b o n1 n2 ((F.2 b n1).trans (B.extBut b o n2 q))) ah
def zI{id}(I:Qg hk)(af:A.handled=none)(ag:J.in1.handled=none)(hu:hk.room J.in1)(aq:d≠t)(G:s.heap.get? t=some o)(U:o.cls=.type "tuple")(Y:o.data=.seq items n)(ai:o.dict=none)(S:s.heap.DictOfH hk d [])(hz:qs.length<=sizeLine)(ar:items[qs.length]?=none)(ak:∀j(h:j < qs.length),∃p,items[j]?=some (.ref p)/\p≠d/\s.heap.IsTuple p #[.ref qs[j].2.1,qs[j].2.2]/\hk.is s.heap qs[j].1 qs[j].2.1)(F:∀(h:Heap)(tk:Nat),(∀b o,b≠d->s.heap.get? b=some o->h.get? b=some o)->h.DictOfH hk d (kG [] qs)->R (.ok (.ret res)) { s with heap:=h,toks:=tk }):
  wpAny (model prog w) A (Builtin.Dict.updateFrom id d (.ref t) [] res) (fun F s'=>match F with | .done f=>R (.ok f) s' | .again O=>O.quiet=true/\codeAny (model prog w) J O R s') E s:=by
 have tt:s.heap.IsTuple t items:=⟨o,G,U,n,Y⟩;refine AA (CM tt.typeIs (AA (lM G U Y ai af fun h1 au B=>AA (Bu ?_))));have Z:=fZ tt fun o q=>B t o q;refine AA (wpAny_pyIter_tuple Z (AD ⟨BH kW _,Zy I ag hu (AV (Gk S fun od es ep q _=>AH (B d od q))) aq (AV (AH (B t o G))) ar qs.length 0 _ [] (BY _) ⟨_,AL _ rfl,rfl,rfl⟩ (Z.push _) ?_ (by simp_all) (fun j hj=>?_) fun h tk aj ah=>?_⟩))
 .exact kP S (fun o q=>AC _ (B d o q)) fun ks a z=>I.mv z fun b o _ _ _ _ q=>AC _ (B b o q)
 .refine Gm (ak j hj) fun p ab ae L a4=>?_
  have hp :=dQ L fun op q _=>AH (B p op q);exact⟨p,ab,ae,AV hp,fZ L fun o q=>AC _ (B p o q),I.mv a4 fun b o _ _ _ _ q=>AC _ (B b o q)⟩
 .exact F h tk (fun b o ao q=>aj b o ao (AV (AH (B b o q))) (AC _ (B b o q))) ah
def v5{K}[DecidableEq K]{knd:KeyKind prog w K}{F}(x:IsTupleKey knd h F a)(k:∀b o q n,o.cls=.type "tuple"->o.data=.seq q n->h.get? b=some o->h'.get? b=some o):IsTupleKey knd h' F a :=aQ x fun o q n e c B i=>⟨o,q,n,k a o q n c B e,c,B,i⟩
theorem Xf{K}[DecidableEq K]{knd:KeyKind prog w K}(k:∀b o B n,o.cls=.type "tuple"->o.data=.seq B n->h.get? b=some o->h'.get? b=some o):∀{q}{vs},gj knd h q vs->gj knd h' q vs
 |_,_,.nil=>.nil
 |_,_,.cons x r=>.cons (v5 x k) (Xf k r)
def tF{K}[DecidableEq K]{knd:KeyKind prog w K}:Qg (pK knd) where
 tup:=fun⟨o,B,n,e,c,q,_⟩=>⟨o,B,n,e,c,q⟩
 mv:=fun⟨o,B,n,e,c,q,i⟩ k=>⟨o,B,n,k _ o B n c q e,c,q,Xf k i⟩
end
end PySem
namespace L2
open PySem PySem.Spec PyProof.Rows
noncomputable def je(kvs B:List (bX×V)):List (bX×V):=B.foldl (fun acc q=>jJ acc q.1 q.2) kvs
abbrev HQ(H:Hp):List Addr->List (bX×V)->Prop:=Paired fun a p=>∃b,H a=some (.tup [.ref b,p.2])/\mj H p.1 b
theorem zO(B:HOk P w H h):∀{F}{ps},HQ H F ps->∃qs,KPt H ps qs/\F.length=qs.length /\
  ∀j(hj:j < qs.length),∃p,F[j]?=some p/\h.IsTuple p #[.ref qs[j].2.1,qs[j].2.2]/\(pK (tQ P w)).is h qs[j].1 qs[j].2.1
 |_,_,.nil=>⟨[],.nil,rfl,fun j hj=>absurd hj (Ce j)⟩
 |_,_,@Paired.cons _ _ _ a p l1 l2 ⟨b,e,G⟩ r=>by
  refine xZ (zO B r) fun S I J L=>?_;obtain⟨_,ab,q,Y⟩:=(B a _ e)
  cases q with
  |@cons _ ku _ its' O q =>
   cases q with
   |@cons _ Z _ ae U q =>
    cases q;cases O;refine⟨(p.1,b,Z)::S,.cons ⟨rfl,G,U⟩ I,by rw[AQ,AQ,J],fun j hj=>?_⟩
    cases j with
    |zero=>exact⟨a,rfl,Y.is,nB B G⟩
    |succ j=>exact L j (By hj)
theorem KPt.merge: ∀{ps}{qs},KPt H ps qs->∀{kvs}{xs},KPt H kvs xs->KPt H (je kvs ps) (kG xs qs)
 |_,_,.nil,_,_,r=>r
 |_,_,@Paired.cons _ _ _ p q I J ⟨B,F,G⟩ t,kvs,xs,r=>by
  have:=KPt.put r p.1 F G;rw[B] at this
  delta je kG
  rw[ List.foldl_cons,B];exact KPt.merge t this
theorem iU:∀ps kvs,(je kvs ps).length<=kvs.length+ps.length
 |[],kvs=>AI _
 |p::ps,kvs=>by
  have h1:=iU ps (jJ kvs p.1 p.2);have h2:=yK kvs p.1 p.2;unfold je at h1 ⊢;rw[List.foldl_cons,AQ]
  lia
section
variable {X:Cx}
def XQ(hc:X.calm=true)(hu:X.A.units+3 < cLine):CallR X (.type "dict") (fun xs H Q=>∃t S ps,xs=[.ref t]/\H t=some (.tup (List.map V.ref S))/\HQ H S ps/\ps.length<=sizeLine/\∀d,H d=none->Q (.ref d) (upd H d (.dP (je [] ps)))):=by
 intro pins s σ H xs us Q I r h;obtain⟨t,S,ps,rfl,ht,hp,hz,q⟩:=h;obtain⟨u,rfl,rfl⟩:=r.one;obtain⟨_,ai,rv,o,h1,h2,⟨n,h3⟩,h4⟩:=(I.hok t _ ht);have ei:=aY rv;subst ei;refine xZ (zO I.hok hp) fun qs q1 q2 q3=>DG (Q₁:=fun Z ab=>Z=.ref s.heap.objs.size/\ab={ s with heap:=s.heap.push { cls:=.type "dict",data:=.dict #[] } }) F.kt_called_dict (F.kt_typeCall_dict_1 _) F.entry_dict_init (kt_code_dict_new _ ⟨rfl,rfl⟩) ?_
 rintro Z ab ⟨rfl,rfl⟩;have Y:(s.heap.push { cls:=.type "dict",data:=.dict #[] }).DictOf (tQ X.prog X.w) s.heap.objs.size []:=Heap.DictOf.new s.heap
 have af:(s.heap.push { cls:=.type "dict",data:=.dict #[] }).DictOfH (pK (tQ X.prog X.w)) s.heap.objs.size []:=by
  obtain⟨_,_,xs,k,o,es,ep,B,G,J,L,O⟩:=Xt (H:=H) s.heap I.big;cases k;exact⟨o,es,ep,B,G,J,L,(fun _ z=>nomatch z),O⟩
 refine⟨Y.typeIs,F.args_dict_init_2 _ _,?_⟩
 apply AA
 refine AA (Ct Y.typeIs (AD ?_));have ah:=I.ok.hd hc;refine zI tF (by lia) (by lia) hu (Ay (AH h1)) (AC _ h1) h2 h3 h4 af (by rwa [<- (Paired.length q1)]) ?_ (fun j hj=>?_) fun h' tk ag dd=>?_
 .simp_all
 .refine xZ (q3 j hj) fun p e1 U e3=>⟨p,?_,AV (dQ U fun op z _=>AH z),U.push _,tF.mv e3 fun b o _ _ _ _ q=>AC _ q⟩
  rw[Cv,Aq,e1];rfl
 .refine Gi dd fun o es ep B G J L _ O=>?_
  have ae:=iU ps [];refine⟨rfl,.ref s.heap.objs.size,_,I.laid (t':=tk) (o:=.dP (je [] ps)) (fun b ob e=>ag b ob (AV (AH e)) (AC _ e)) (AI _) ⟨by simp at ae;lia,DB (Ay I.big),_,(KPt.merge q1 .nil).keeps fun b ys e=>?_,o,es,ep,B,G,J,L,O⟩,rfl,q _ (I.hok.fresh (AI _))⟩;rw[pQ (fun z=>by rw[z,I.hok.fresh (AI _)] at e;cases e)];exact e
end
end L2
namespace CL
open PySem PySem.Spec L2 PySem.W
open PyProof.Rows hiding St
section
variable {X:Cx}
noncomputable def hU:List PV->Option (List (bX×PV))
 |[]=>some []
 |.tup [k,v]::r=>match sY k,hU r with
  |some k,some ps=>some ((k,v)::ps)
  |_,_=>none
 |_=>none
def K6{K}(r:d9 K H vs ts)(e:hU ts=some ps):∃q B,vs=List.map V.ref q/\HQ H q B/\FP K H B ps:=by
 induction ts generalizing vs ps with
 |nil=>cases r;cases e;exact⟨[],[],rfl,.nil,.nil⟩
 |cons t ts I =>
  cases r with
  |@cons v _ vs _ h r =>
   cases h with
   |@tup a B xs F S =>
    rcases xs with _ | ⟨k,_ | ⟨u,_ | ⟨z,xs⟩⟩⟩
    .cases e
    .cases e
    .unfold hU at e
     split at e
     .next J ae L O =>
      cases e;obtain⟨q,ab,rfl,p1,p2⟩:=I r O;obtain⟨af,Z,rfl,U,Y⟩:=cB S;obtain⟨b,rfl,G⟩:=sU U L;exact⟨a::q,(J,Z)::ab,rfl,.cons ⟨b,F,G⟩ p1,.cons ⟨rfl,Y⟩ p2⟩
     .cases e
    .cases e
   |_=>cases e
theorem FP.je{K}(m:FP K H J I):∀{vs}{kvs},FP K H vs kvs->FP K H (L2.je vs J) (CL.fu kvs I):=by
 induction m with
 |nil=>intro vs kvs r;exact r
 |@cons p q F G h _ B =>
  intro vs kvs r;show FP K H (L2.je (jJ vs p.1 p.2) F) (CL.fu (CL.ig kvs q.1 q.2) G);rw[h.1];exact B (FP.ig r q.1 h.2)
@[irreducible] def mN:GC:=fun ts C Q=>match ts with
 |[.tup xs]=>match hU xs with
  |some ps=>ps.length<=sizeLine/\∀p,C p=none->Q (.ref p) (gQ C p (.dP (fu [] ps)))
  |none=>False
 |_=>False
def Jc{K}:ud K (fun xs H Q=>∃t F ps,xs=[.ref t]/\H t=some (.tup (List.map V.ref F))/\HQ H F ps/\ps.length<=sizeLine/\∀d,H d=none->Q (.ref d) (upd H d (.dP (je [] ps)))) mN:=fun xs ts H C Q R J h q f=>by
 delta mN at q
 split at q
 .split at q
  .next ps e =>
   obtain⟨v,rfl,r⟩:=aX J
   cases r with
   |@tup a vs xs G I =>
    obtain⟨F,L,rfl,p1,p2⟩:=K6 I e;refine⟨a,F,L,rfl,G,p1,by rw[Paired.length p2];exact q.1,fun d B=>?_⟩;exact f _ _ _ _ (q.2 d (h.fresh B)) (.ref d) (h.lay B ⟨_,uQ,Paired.mapP (FP.je p2 .nil) fun _ _ z=>⟨z.1,z.2.cT (iz.new B _)⟩⟩) (Fw.lay B _ _)
  .exact q.elim
 .exact q.elim
def Gy(e:hU xs=some ps)(h:ps.length<=sizeLine)(q:∀p,C p=none->Q (.ref p) (gQ C p (.dP (fu [] ps)))):mN [.tup xs] C Q :=by grind[mN]
end
end CL
namespace L2
open PySem PySem.W PySem.Spec PyProof.Rows
abbrev uT:=List (List (List Key))
abbrev uw(H:Hp):List (uT×V)->List (uT×Addr×Value)->Prop:=Paired fun p q=>p.1=q.1/\qj H p.1 q.2.1/\RelV p.2 q.2.2
def uw.val(r:uw H kvs xs)k:RelO (iV kvs k) ((atKey xs k).map (·.2)):=by
 induction r with
 |nil=>exact True.intro
 |@cons p q ps qs h t B =>
  obtain⟨h1,_,h2⟩:=h
  by_cases e:p.1=k
  .have b:atKey (q::qs) k=some q.2:=by simp[atKey,List.find?_cons,h1.symm.trans e]
   rwa [gU e,b]
  .have b:atKey (q::qs) k=atKey qs k:=by
    simp[atKey,List.find?_cons,(show ¬ q.1=k from fun z=>e (h1.trans z))]
   rwa [bU e,b]
def uw.repl(r:uw H kvs xs)k(I:RelV y u):
  uw H (kvs.map fun B=>if B.1=k then (B.1,y) else B) (xs.map (putAt k u)):=by
 induction r with
 |nil=>exact .nil
 |@cons p q ps qs h t F =>
  refine .cons (oS h fun h1 h2 G=>?_) F
  delta putAt
  by_cases e:p.1=k
  .lia
  .lia
theorem uw.put(r:uw H kvs xs)(k:uT)(F:qj H k b)(B:RelV y u):
  uw H (jJ kvs k y) (storedH xs k b u):=by
 have e:(kvs.any fun G=>decide (G.1=k))=(atKey xs k).isSome:=by
  rw[sF,(r.val k).isSome_eq,DP]
 delta jJ storedH
 rw[e]
 by_cases q:(atKey xs k).isSome=true
 .rw [Ah q,Ah q];exact r.repl k B
 .rw [Af q,Af q];exact Paired.snoc r ⟨rfl,F,B⟩
def uw.keeps(r:uw H kvs xs)(q:∀b ys,H b=some (.tup ys)->H' b=some (.tup ys)):uw H' kvs xs :=
 Paired.mapP r fun _ _ z=>⟨z.1,z.2.1.mono q,z.2.2⟩
section
variable {P:Program}{w:World}{H:Hp}{h:Heap}{a:Addr}
theorem cO(F:HOk P w H h):∀{B bs q},Paired (fun G c=>mj H G c) B bs->Vals (bs.map V.ref) q->ie (tQ P w) h B q
 |_,_,_,.nil,r=>by cases r;exact .nil
 |_,_,_,.cons e t,r=>by
  cases r with
  |cons I J =>
   cases I;exact .cons (nB F e) (cO F t J)
def cN{q:uT}(B:HOk P w H h)(e:qj H q a):(fB (tQ P w)).is h q a:=by
 obtain⟨bs,F,J⟩:=e;obtain⟨_,I,r,o,h1,h2,⟨n,G⟩,_⟩:=(B a _ F);exact⟨o,I.toArray,n,h1,h2,G,by exact List.toList_toArray▸cO B J r⟩
def Ko{kvs:List (uT×V)}(G:HOk P w H h)(e:H a=some (.dA kvs)):kvs.length<=sizeLine/\(a==sysModules)=false /\
  ∃xs,uw H kvs xs/\h.DictOfH (fB (tQ P w)) a xs:=by
 obtain⟨z,y,xs,r,o,es,ep,h1,h2,J,L,O⟩:=(G a _ e);refine⟨z,y,xs,r,o,es,ep,h1,h2,J,L,fun x B=>?_,O⟩
 have I:∀{l:List (uT×V)}{m:List (uT×Addr×Value)},uw H l m->∀x∈m,(fB (tQ P w)).is h x.1 x.2.1:=by
  intro l m q
  induction q with
  |nil=>intro x B;exact nomatch B
  |@cons p q ps qs F t S =>
   intro x B
   rcases AZ.mp B with e | B
   .subst e
    exact cN G (F.1▸F.2.1)
   .exact S x B
 exact I r x B
end
def Uv(H:Hp)(a:Addr)(y:V)(r:Option V):Prop:=∃kvs k b,H a=some (.dA kvs)/\y=.ref b/\qj H k b/\r=iV kvs k
def TV(H:Hp)(a:Addr)(y v:V)(H':Hp):Prop:=∃kvs k b,H a=some (.dA kvs)/\y=.ref b/\qj H k b/\kvs.length < sizeLine/\H'=upd H a (.dA (jJ kvs k v))
section
variable {X:Cx}{pins:List (Addr×Obj)}{σ:St}{H:Hp}{s:Shared}{a:Addr}{y v:V}{u r:Value}{o:Option V}{A:Around}{E:Value->Shared->Prop}
def V7(L:A.units+3 < cLine)(I:Inv X pins σ H s)(g:Uv H a y (some v))(Y:RelV y u)(h:∀q s',Inv X pins σ H s'->RelV v q->Q q s'):
  wpAny (model X.prog X.w) A (getItem (.ref a) u) Q E s:=by
 obtain⟨kvs,k,b,e,rfl,F,l⟩:=g;cases Y;obtain⟨z,Z,xs,S,B⟩:=Ko I.hok e;refine dQ (RelO.some_of (l▸S.val k)) fun q O U=>dQ (Cm.mp O) fun p G J=>?_;exact wpAny_getItem_heap (nK L) (cN I.hok F) B G (J▸h q _ (I.tok _) U)
def a_in(J:A.units+3 < cLine)(I:Inv X pins σ H s)(g:Uv H a y o)(O:RelV y u)(h:∀s',Inv X pins σ H s'->Q (.bool o.isSome) s'):
  wpAny (model X.prog X.w) A (compareOp .In u (.ref a)) Q E s:=by
 obtain⟨kvs,k,b,e,rfl,F,l⟩:=g;cases O;obtain⟨z,G,xs,L,B⟩:=Ko I.hok e
 apply wpAny_in_heap (nK J) (cN I.hok F) G B
 have q:=(L.val k).isSome_eq;rw[DP] at q;exact q▸l▸h _ (I.tok _)
def V6(hu:A.units+3 < cLine)(I:Inv X pins σ H s)(g:TV H a y v H')(ry:RelV y u)(rv:RelV v r)(h:∀s',Inv X pins σ H' s'->Q () s'):
  wpAny (model X.prog X.w) A (setItem (.ref a) u r) Q E s:=by
 refine Gj g fun kvs k b e U B l S=>?_;subst U S;cases ry;obtain⟨z,ab,xs,J,L⟩:=Ko I.hok e;have hz:xs.length<=sizeLine:=by rwa [<- Paired.length J]
 have hl:(jJ kvs k v).length<=sizeLine:=by have:=yK kvs k v;lia
 refine wpAny_setItem_heap (nK hu) (cN I.hok B) L fun h' O hs=>h _ (Gi O fun q es ep G h2 Y Z _ h5=>dD I (e▸True.intro) hs ⟨q,G⟩ ⟨hl,ab,_,(J.put k B rv).keeps fun c ys F=>?_,q,es,ep,G,h2,Y,Z,h5⟩);rw[pQ (JY F e (fun z=>nomatch z))];exact F
def Ey{kvs:List (uT×V)}(I:Inv X pins σ H s)(e:H a=some (.dA kvs)):s.TypeIs (.ref a) "dict":=by
 obtain⟨_,_,xs,_,q⟩:=Ko I.hok e;exact q.typeIs
end
section
variable {X:Cx}{o i e value:Expr}{pos pos':Pos}{td ty tv:TE}
def Px(td ty:TE):TE:=fun σ H Q=>td σ H fun x H1=>ty σ H1 fun y H2=>∃a v,x=.ref a/\Uv H2 a y (some v)/\Q v H2
def PN(td ty tv:TE):TS:=fun D σ H=>tv σ H fun v H1=>td σ H1 fun x H2=>ty σ H2 fun y B=>∃a q,x=.ref a/\TV B a y v q/\D.nx σ q
def yz(J:X.A.units+3 < cLine)(G:PE X o td)(hi:PE X i ty)(hs:X1 i):PE X (.Subscript o i pos) (Px td ty):=by
 intro pins s σ H Q I h;refine sE DK.lookup hs (thn (G pins s σ H _ I h) fun u s1 zz=>nX zz fun x H1 B U L=> thn (hi pins s1 σ H1 _ B L) fun iv ab Z=>?_);obtain⟨y,H2,q,Y,a,v,rfl,g,O⟩:=Z;obtain rfl:u=Value.ref a:=U;exact⟨let ⟨_,_,_,e,_⟩:=g;Ey q e,V7 J q g Y fun w' ae F S=>⟨v,H2,F,S,O⟩⟩
def Mu(F:X.A.units+3 < cLine):OpR X (compareOp .In) (fun y x H Q=>∃a o,x=.ref a/\Uv H a y o/\Q (.bl o.isSome) H):=by
 intro pins s σ H y x v u Q I J G h;obtain⟨a,o,rfl,g,q⟩:=h;cases G;exact a_in F I g J fun L B=>⟨.bl o.isSome,H,B,rfl,q⟩
def yf(S:X.A.units+3 < cLine)(O:PE X o td)(hi:PE X i ty)(U:PE X value tv)(hs:swapsWith value (some (.Subscript o i pos')) pos.line X.env=pure false):
  PS X (.Assign [.Subscript o i pos'] value pos) (PN td ty tv):=by
 intro pins s σ H D I h;refine De (thn (U pins s σ H _ I h) fun r s1 q=>nX q fun v H1 F rv Y=> thn (O pins s1 σ H1 _ F Y) fun u ab q=>nX q fun x H2 G rx Z=> thn (hi pins ab σ H2 _ G Z) fun iv ae zq=>?_) hs;obtain⟨y,H3,J,ry,a,B,rfl,g,q3⟩:=zq;obtain rfl:u=Value.ref a:=rx;exact V6 S J g ry rv fun af L=>⟨σ,B,L,q3⟩
def Pu:TE:=fun _ H Q=>∀p,H p=none->Q (.ref p) (upd H p (.dA []))
def GA(h:Heap)(F:sysModules < h.objs.size):ObjOk P w H (h.push { cls:=.type "dict",data:=.dict #[] }) h.objs.size (.dA []):=by
 obtain⟨z,y,xs,r,rest⟩:=(show ObjOk P w H (h.push { cls:=.type "dict",data:=.dict #[] }) h.objs.size (.dT []) from gR h F);refine Gj rest fun o es ep h1 h2 q B G=>?_;cases r;exact⟨z,y,[],.nil,o,es,ep,h1,h2,q,B,BS⟩
def yx:PE X (.Dict [] [] pos) Pu:=by
 intro pins s σ H Q I h;exact DY ⟨.ref s.heap.objs.size,_,I.laid (t':=s.toks) (fun _ _ q=>AC _ q) (AI _) (GA s.heap I.big),rfl,h _ (I.hok.fresh (AI _))⟩
end
end L2
namespace CL
open PySem PySem.Spec L2 PySem.W
open PyProof.Rows hiding St
section
variable {X:Cx}{a b c e o i f value:Expr}{es:List Expr}{pos pos':Pos}
noncomputable def mE:List PV->Option uT
 |[]=>some []
 |t::r=>match sY t,mE r with
  |some k,some q=>some (k::q)
  |_,_=>none
noncomputable def XY:PV->Option uT
 |.tup ts=>mE ts
 |_=>none
def V5{K}(r:d9 K H vs ts)(e:mE ts=some B):∃bs,vs=bs.map V.ref/\Paired (fun q c=>mj H q c) B bs:=by
 induction ts generalizing vs B with
 |nil=>cases r;cases e;exact⟨[],rfl,.nil⟩
 |cons t ts J =>
  cases r with
  |cons h r =>
   unfold mE at e
   split at e
   .next k q F G =>
    cases e;obtain⟨b,rfl,I⟩:=sU h F;obtain⟨bs,rfl,p⟩:=J r G;exact⟨b::bs,rfl,.cons I p⟩
   .cases e
def zS{K}(r:Rep K H v t)(e:XY t=some q):∃b,v=.ref b/\qj H q b:=by
 cases r<;>try (cases e)
 next a vs ts h r =>
  obtain⟨bs,rfl,p⟩:=V5 r e;exact⟨a,rfl,bs,h,p⟩
def Te:gw:=fun _ C Q=>∀p,C p=none->Q (.ref p) (gQ C p (.dA []))
def FN:CE X (.Dict [] [] pos) Te:=⟨JE.weak ⟨yx⟩ fun σ H Q F=>aQ F fun ρ C R s h q f=> fun p B=>f (.ref p) _ (.ref p) _ (q p (h.fresh B)) (.ref p) (h.lay B ⟨[],uQ,.nil⟩) (Fw.lay B _ _)⟩
@[irreducible] def Hu:ul:=fun x y C Q=>match x with
 |.ref a=>match C a,XY y with
  |some (.dA kvs),some k=>match zZ kvs k with
   |some v=>Q v C
   |none=>False
  |_,_=>False
 |_=>False
def Oc(hu:X.A.units+3 < cLine)(Z:CE X o J)(hi:CE X i I)(hs:X1 i):CE X (.Subscript o i pos) (ur Hu J I):=⟨JE.weak ⟨yz hu Z.h.h hi.h.h hs⟩ fun σ H Q zz=>aQ zz fun ρ C R s h ab f=>
 ⟨ρ,C,_,s,h,ab,fun x H1 px C1 q1 rx h1 F=>⟨ρ,C1,_,s.cT (F.cT h),h1,q1,fun y H2 af C2 q ry h2 G=>by
  delta Hu at q
  split at q
  .next a =>
   split at q
   .next kvs k L O =>
    split at q
    .next t S =>
     have ae:=rx.cT (G.cT h1);cases ae;obtain⟨vs,Y,r⟩:=(h2 a _ L);obtain⟨b,rfl,U⟩:=zS ry O
     rcases FP.val r k with ⟨v,t',l1,B,rv⟩ | ⟨_,B⟩
     .rw [S] at B
      cases B;exact⟨a,v,rfl,⟨vs,k,b,Y,rfl,U,l1.symm⟩,f v H2 t C2 q rv h2 (F.trans G)⟩
     .lia
    .exact q.elim
   .exact q.elim
  .exact q.elim⟩⟩⟩
@[irreducible] def Hv:ul:=fun y x C Q=>match x with
 |.ref a=>match C a,XY y with
  |some (.dA kvs),some k=>Q (.bl (zZ kvs k).isSome) C
  |_,_=>False
 |_=>False
def Fg{K}:pq K (fun y x H Q=>∃a o,x=.ref a/\Uv H a y o/\Q (.bl o.isSome) H) Hv:=fun y x Y U H C Q R S O h q f=>by
 delta Hv at q
 split at q
 .next a =>
  split at q
  .next kvs k G I =>
   cases O;obtain⟨vs,L,r⟩:=(h a _ G);obtain⟨b,rfl,J⟩:=zS S I;refine⟨a,iV vs k,rfl,⟨vs,k,b,L,rfl,J,rfl⟩,?_⟩
   rcases FP.val r k with ⟨v,t',B,F,Z⟩ | ⟨B,F⟩
   .rw [F] at q;exact B▸f _ H _ C q (.bl _) h Fw.refl
   .rw [F] at q;exact B▸f _ H _ C q (.bl _) h Fw.refl
  .exact q.elim
 .exact q.elim
@[irreducible] def KG:PV->PV->PV->CH->(CH->Prop)->Prop:=fun x y v C Q=>match x with
 |.ref a=>match C a,XY y with
  |some (.dA kvs),some k=>kvs.length < sizeLine/\Q (gQ C a (.dA (ig kvs k v)))
  |_,_=>False
 |_=>False
def Td(G F I:gw):km:=fun E ρ C=>I ρ C fun v C1=>G ρ C1 fun x C2=>F ρ C2 fun y q=>KG x y v q fun B=>E.nx ρ B
def Fd{L O}(hu:X.A.units+3 < cLine)(ho:CE X o Y)(hi:CE X i L)(hv:CE X value O)(hs:swapsWith value (some (.Subscript o i pos')) pos.line X.env=pure false:=by rfl):
  CS X (.Assign [.Subscript o i pos'] value pos) (Td Y L O):=⟨JS.weak ⟨yf hu ho.h.h hi.h.h hv.h.h hs⟩ fun D σ H zz=>aQ zz fun ρ C E s h ab f=>
 ⟨ρ,C,_,s,h,ab,fun v H1 af C1 q1 rv h1 B=>⟨ρ,C1,_,s.cT (B.cT h),h1,q1,fun x H2 px C2 q2 rx h2 F=>⟨ρ,C2,_,(s.cT (B.cT h)).cT (F.cT h1),h2,q2,fun y J ag C3 q ry U G=>by
  delta KG at q
  split at q
  .next a =>
   split at q
   .next kvs k S Z =>
    have ae:=rx.cT (G.cT h2);cases ae;obtain⟨vs,I,r⟩:=(U a _ S);obtain⟨b,rfl,eb⟩:=zS ry Z;have m:iz J (upd J a (.dA (jJ vs k v))):=iz.mut I rfl _;refine⟨a,_,rfl,⟨vs,k,b,I,rfl,eb,by exact(Paired.length r)▸q.1,rfl⟩,f.nx σ _ ρ _ q.2 ((((s.cT (B.cT h)).cT (F.cT h1)).cT (G.cT h2)).cT m) (U.put I rfl ⟨_,uQ,Paired.mapP (FP.ig r k (rv.cT ((F.trans G).cT h1))) fun _ _ z=>⟨z.1,z.2.cT m⟩⟩) (B.trans (F.trans (G.trans (Fw.put S _ _))))⟩
   .exact q.elim
  .exact q.elim⟩⟩⟩⟩
end
end CL
namespace K33
open PySem L2
abbrev U0:List Str:=["_law_tape_here","_law_kit","_law_turns","_law_deep"]
abbrev U1:List Str:=["_law_tape_here","_law_house_here","_law_values_here","_law_path","_law_name","_law_gives","_law_downs","_law_piece","_law_part_here"]
abbrev U2:List Str:=["_law_tape_here","_law_kit","_law_turns"]
abbrev U3:List Str:=["_law_tape_here","_law_kit","_law_deep"]
abbrev U4:List Str:=["_law_tape_here","_law_many"]
abbrev U5:List Str:=["_law_tape_here","_law_names_here","_law_k","_law_keyed"]
abbrev U6:List Str:=["rows","path","spots","label","row"]
abbrev U7:List Str:=["_law_tape_here","_law_kit","_law_turns","_law_most"]
abbrev U8:List Str:=["_law_tape_here","_law_kit","_law_turns","_law_name"]
abbrev U9:List Str:=["_law_tape_here","_law_kit","_law_turns","_law_way"]
abbrev UG:List Str:=["_law_one","_law_other"]
abbrev Uz:List Str:=["_law_row","_law_ahead"]
abbrev Tv:List Str:=["_law_tape_here"]
abbrev U13:List Str:=["_law_tape_here","_law_house_here"]
noncomputable def top(i:Nat):Stmt:=PySem.Challenge.pw_viewwood_k33_boxes_found.main.body.getD i (.Pass ⟨0,0,0,0⟩)
noncomputable def tab:List CL.Row:=[
 ⟨none,"tree_of","tree_of",(top 8),["drawing"],["drawing","rows","entry"]⟩,
 ⟨none,"boxes_in","boxes_in",(top 9),U6,["rows","path","spots","label","row","told","want","here","under"]⟩,
 ⟨none,"box_of","box_of",(top 10),["rows","path","spots","want"],["rows","path","spots","want","hands"]⟩,
 ⟨none,"box_at","box_at",(top 11),["tree","address"],["tree","address","box","row","label"]⟩,
 ⟨none,"cut","cut",(top 14),["number"],["number"]⟩,
 ⟨none,"number_of","number_of",(top 17),["reckoning","answers","turns","asked"],["reckoning","answers","turns","asked","word","question","first","taken","second"]⟩,
 ⟨none,"joined","joined",(top 18),["word","first","second"],["word","first","second"]⟩,
 ⟨none,"part_of","part_of",(top 20),["house","name"],["house","name","part"]⟩,
 ⟨none,"drawn","drawn",(top 24),["part","answers"],["part","answers","drawer","row","works"]⟩,
 ⟨none,"parts_in","parts_in",(top 26),["row"],["row","told"]⟩,
 ⟨none,"gather","gather",(top 27),["row","spots","downs","told"],["row","spots","downs","told","want","here"]⟩,
 ⟨none,"laid_over","laid_over",(top 28),["downs","nearer"],["downs","nearer","numbers"]⟩,
 ⟨none,"asked_by","asked_by",(top 29),["entry"],["entry"]⟩,
 ⟨none,"answers_at","answers_at",(top 32),["gives","downs","boxes"],["gives","downs","boxes","answers","sort","pairs","name","number"]⟩,
 ⟨none,"boxes_at","boxes_at",(top 33),["part","values","path"],["part","values","path","kept"]⟩,
 ⟨none,"answers_due","answers_due",(top 34),["house","values","due"],["house","values","due","boxes"]⟩,
 ⟨none,"afresh","afresh",(top 35),["house","values"],["house","values","drawing","walk","due","piece"]⟩,
 ⟨none,"_law_tape","_law_tape",(top 37),["_law_script"],["_law_script"]⟩,
 ⟨none,"_law_draw","_law_draw",(top 38),U4,["_law_tape_here","_law_many","_law_script","_law_digit","_law_cell","_law_mixed"]⟩,
 ⟨none,"_law_names","_law_names",(top 39),U4,["_law_tape_here","_law_many","_law_pool","_law_start","_law_stride"]⟩,
 ⟨none,"_law_number","_law_number",(top 40),Tv,Tv⟩,
 ⟨none,"_law_leaf","_law_leaf",(top 41),U2,U9⟩,
 ⟨none,"_law_sum","_law_sum",(top 42),U0,["_law_tape_here","_law_kit","_law_turns","_law_deep","_law_way","_law_word","_law_many"]⟩,
 ⟨none,"_law_key","_law_key",(top 43),U2,U9⟩,
 ⟨none,"_law_pairs","_law_pairs",(top 44),U7,["_law_tape_here","_law_kit","_law_turns","_law_most","_law_names_here"]⟩,
 ⟨none,"_law_hands","_law_hands",(top 45),U2,["_law_tape_here","_law_kit","_law_turns","_law_hands_here","_law_event","_law_changes","_law_k","_law_box","_law_word"]⟩,
 ⟨none,"_law_plain","_law_plain",(top 46),U0,["_law_tape_here","_law_kit","_law_turns","_law_deep","_law_key_here","_law_tag","_law_sets","_law_hands_here","_law_lines_here"]⟩,
 ⟨none,"_law_part_line","_law_part_line",(top 47),U8,["_law_tape_here","_law_kit","_law_turns","_law_name","_law_key_here","_law_names_here"]⟩,
 ⟨none,"_law_each","_law_each",(top 48),U3,["_law_tape_here","_law_kit","_law_deep","_law_name","_law_number_here","_law_lines_here","_law_k"]⟩,
 ⟨none,"_law_line","_law_line",(top 49),U0,["_law_tape_here","_law_kit","_law_turns","_law_deep","_law_way","_law_name","_law_key_here","_law_number_here","_law_lines_here"]⟩,
 ⟨none,"_law_lines","_law_lines",(top 50),U0,["_law_tape_here","_law_kit","_law_turns","_law_deep","_law_lines_here","_law_k"]⟩,
 ⟨none,"_law_part","_law_part",(top 51),U5,["_law_tape_here","_law_names_here","_law_k","_law_keyed","_law_many","_law_boxes","_law_kit","_law_first","_law_lines_here","_law_work_names","_law_works"]⟩,
 ⟨none,"_law_house","_law_house",(top 52),Tv,["_law_tape_here","_law_names_here","_law_keyed"]⟩,
 ⟨none,"_law_kind","_law_kind",(top 53),["_law_thing"],["_law_thing","_law_kinds","_law_names_here"]⟩,
 ⟨none,"_law_alike","_law_alike",(top 54),UG,["_law_one","_law_other","_law_kind_here"]⟩,
 ⟨none,"_law_values","_law_values",(top 55),U13,U1⟩,
 ⟨none,"_law_every","_law_every",(top 56),Uz,["_law_row","_law_ahead","_law_found","_law_label","_law_box"]⟩,
 ⟨none,"_law_strange","_law_strange",(top 57),["_law_tape_here","_law_address"],["_law_tape_here","_law_address","_law_way","_law_at","_law_label","_law_key_here","_law_nth","_law_some"]⟩,
 ⟨none,"_law_asked","_law_asked",(top 58),["_law_tree","_law_address"],["_law_tree","_law_address","_law_told","e"]⟩,
 ⟨none,"law","law",(top 59),["_law_script"],["_law_script","_law_tape_here","_law_house_here","_law_tree","_law_boxes","_law_found","_law_address","_law_box","_law_asked_here","_law_k","_law_due"]⟩,
 ⟨some "NoText","__init__","NoText.__init__",(tZ (top 2) 0),["self","line","word"],["self","line","word"]⟩,
 ⟨some "NoBox","__init__","NoBox.__init__",(tZ (top 3) 0),["self","address"],["self","address"]⟩,
 ⟨some "NoDeed","__init__","NoDeed.__init__",(tZ (top 4) 0),["self","place"],["self","place"]⟩,
 ⟨some "Drawer","__init__","Drawer.__init__",(tZ (top 23) 0),["self","answers"],["self","answers"]⟩,
 ⟨some "Drawer","number","Drawer.number",(tZ (top 23) 1),["self","reckoning","turns"],["self","reckoning","turns"]⟩,
 ⟨some "Drawer","numbered","Drawer.numbered",(tZ (top 23) 2),["self","pairs","turns"],["self","pairs","turns"]⟩,
 ⟨some "Drawer","row","Drawer.row",(tZ (top 23) 3),["self","lines","turns"],["self","lines","turns","row"]⟩,
 ⟨some "Drawer","bring","Drawer.bring",(tZ (top 23) 4),["self","lines","turns","row","counts"],["self","lines","turns","row","counts","line","taken"]⟩,
 ⟨some "Drawer","bring_each","Drawer.bring_each",(tZ (top 23) 5),["self","line","turns","row","counts"],["self","line","turns","row","counts","count","turn","inner"]⟩,
 ⟨some "Drawer","want","Drawer.want",(tZ (top 23) 6),["self","line","turns","counts"],["self","line","turns","counts","spot","pairs","hands"]⟩,
 ⟨some "Drawer","spot","Drawer.spot",(tZ (top 23) 7),["self","key","turns","counts"],["self","key","turns","counts","told","nth"]⟩,
 ⟨some "Drawer","hand","Drawer.hand",(tZ (top 23) 8),["self","hand","turns"],["self","hand","turns","changes"]⟩,
 ⟨some "Walk","__init__","Walk.__init__",(tZ (top 30) 0),["self","house"],["self","house"]⟩,
 ⟨some "Walk","due","Walk.due",(tZ (top 30) 1),["self"],["self"]⟩,
 ⟨some "Walk","pass_by","Walk.pass_by",(tZ (top 30) 2),["self","entry"],["self","entry"]⟩]
structure Adr where
 f:Nat->Addr
 d:Nat->FuncData
 t_BOUND:Tok
 ASKING:Addr
 rE:Tok
 ViewError:Addr
 NoText:Addr
 NoBox:Addr
 NoDeed:Addr
 NoChange:Addr
 NoRow:Addr
 Drawer:Addr
 Walk:Addr
structure Txt(P:Program)(w:World)(K:Ds)(mg:Str->Option Value)(a:Adr):Prop where
 F:∀(i:Nat){k:Option Str}{nm q:Str}{st:Stmt}{ps N:List Str},tab[i]?=some ⟨k,nm,q,st,ps,N⟩->CL.FI K mg k nm q st ps N (a.f i) (a.d i)
 Gd:mg "BOUND" = some (.int 1000000000 a.t_BOUND)
 gASKING:mg "ASKING" = some (.ref a.ASKING)
 qASKING:∀H:Hp,SqT K H a.ASKING [.str "take",.str "box",.str "down"]
 Xo:mg "MOST_TURNS" = some (.int 8 a.rE)
 pE:mg "ValueError" = none
 z_abs:mg "abs" = none
 z_all:mg "all" = none
 z_bool:mg "bool" = none
 X6:mg "dict" = none
 Ql:mg "int" = none
 uZ:mg "isinstance" = none
 oJ:mg "len" = none
 X5:mg "list" = none
 z_max:mg "max" = none
 Wh:mg "min" = none
 xV:mg "range" = none
 rN:mg "reversed" = none
 lN:mg "sorted" = none
 z_str:mg "str" = none
 hX:mg "tuple" = none
 jH:mg "ViewError" = some (.ref a.ViewError)
 dE:XIn K a.ViewError
 Yy:mg "NoText" = some (.ref a.NoText)
 J1:mg "NoBox" = some (.ref a.NoBox)
 x_NoBox:PySem.W.O3 K a.NoBox
 cF:V8 K a.NoBox
 Wj:∃oc od cd sl,K.lookup a.NoBox=some ⟨oc,od,.cls cd,sl⟩/\oc=.type "type"
 Wm:Uy K a.NoBox (a.f 41)
 eY:Oq K a.NoBox "address"
 Yz:mg "NoDeed" = some (.ref a.NoDeed)
 ZM:mg "NoChange" = some (.ref a.NoChange)
 m_NoRow:mg "NoRow" = some (.ref a.NoRow)
 rX:mg "Drawer" = some (.ref a.Drawer)
 xX:Cls K a.Drawer
 Vp:Mk K a.Drawer (a.f 43)
 cG:NoAttr K a.Drawer "answers"
 iW:NoAttr K a.Drawer "asked"
 lA:mg "Walk" = some (.ref a.Walk)
 mY:Cls K a.Walk
 mk_Walk:Mk K a.Walk (a.f 52)
 pJ:NoAttr K a.Walk "lacking"
 mM:PySem.W.exmOne K (.ref a.NoBox) (.ref a.ViewError)=some true
 mH:PySem.W.kitOne K (.ref a.NoBox) (.ref a.NoBox)=some true
 tU:PySem.W.kitOne K (.ref a.NoBox) (.type "ValueError")=some true
 V1:PySem.W.kitAny K (.ref a.NoBox) [.ref a.NoChange,.ref a.NoDeed,.ref a.NoRow,.ref a.NoText]=some false
def Lx:CL.u9 CL.RB tab:=by
 unfold tab
 repeat refine⟨⟨⟨rfl,rfl,rfl,by decide +kernel,rfl,by decide +kernel,by decide +kernel⟩,fun _ _ _ _ _ _=>by first | (refine CL.args1 ?_;exact fun _=>rfl) | (refine CL.args2 ?_;exact fun _ _=>rfl) | (refine CL.J2 ?_;exact fun _ _ _=>rfl) | (refine CL.Ju ?_;exact fun _ _ _ _=>rfl) | (refine CL.Tj ?_;exact fun _ _ _ _ _=>rfl)⟩,?_⟩
 exact trivial
def txt_mk{P:Program}{w:World}{K:Ds}{h:Heap}{mg:Str->Option Value}(X:K.In h)(G:h.Ns mainGlobals mg){af B O q S U Y I J:Addr}{ai c9 da dc t2:Tok}{bz:Nat}{df:Option Addr}{L:ClassData}{a0:Array (Option Value)}{di:List Value}(b0:CL.u9 (CL.FH K) tab)(bu:PySem.W.nsIn K mainGlobals "BOUND" = some (some (.int 1000000000 ai)))(bw:PySem.W.nsIn K mainGlobals "ASKING" = some (some (.ref af)))(c8:K.lookup af=some { cls:=.type "tuple",data:=.seq #[.str "take" c9,.str "box" da,.str "down" dc] bz })(bx:PySem.W.nsIn K mainGlobals "MOST_TURNS" = some (some (.int 8 t2)))(z0:PySem.W.nsIn K mainGlobals "ValueError" = some none)(z1:PySem.W.nsIn K mainGlobals "abs" = some none)(z2:PySem.W.nsIn K mainGlobals "all" = some none)(z3:PySem.W.nsIn K mainGlobals "bool" = some none)(z4:PySem.W.nsIn K mainGlobals "dict" = some none)(z5:PySem.W.nsIn K mainGlobals "int" = some none)(z6:PySem.W.nsIn K mainGlobals "isinstance" = some none)(z7:PySem.W.nsIn K mainGlobals "len" = some none)(z8:PySem.W.nsIn K mainGlobals "list" = some none)(z9:PySem.W.nsIn K mainGlobals "max" = some none)(dv:PySem.W.nsIn K mainGlobals "min" = some none)(dw:PySem.W.nsIn K mainGlobals "range" = some none)(dy:PySem.W.nsIn K mainGlobals "reversed" = some none)(dz:PySem.W.nsIn K mainGlobals "sorted" = some none)(d0:PySem.W.nsIn K mainGlobals "str" = some none)(d1:PySem.W.nsIn K mainGlobals "tuple" = some none)(a3:PySem.W.nsIn K mainGlobals "ViewError" = some (some (.ref B)))(dm:PySem.W.specialIn K (.ref B) "__getattribute__" = some (some (.builtin "type.__getattribute__")))(dn:PySem.W.readsIn K B (.type "type")=true)(dp:PySem.W.findCls K (.ref B) (.type "type") "__init__" = some (.val (.builtin "ValueError.__init__")))(a4:PySem.W.nsIn K mainGlobals "NoText" = some (some (.ref O)))(Z:PySem.W.nsIn K mainGlobals "NoBox" = some (some (.ref q)))(ag:K.lookup q=some ⟨.type "type",df,.cls L,a0⟩)(aj:L.abstract=false)(ak:L.hasDel=false)(ao:(a0.toList[4]?).join=some (.builtin "ValueError.__new__"))(aq:L.mro=.ref q::di)(ar:PySem.W.specialIn K (.ref q) "__call__" = some (some (.builtin "type.__call__")))(au:PySem.W.instIn K (.ref q) (.type "type")=some true)(av:PySem.W.mroIn K q (.ref q)=some true)(aw:PySem.W.mroIn K q (.type "ValueError")=some true)(ah:PySem.W.mroIn K q (.type "BaseException")=some true)(ax:PySem.W.mroIn K q (.type "AttributeError")=some false)(ay:PySem.W.mroIn K q (.type "NameError")=some false)(az:PySem.W.mroIn K q (.type "object")=some true)(dd:PySem.W.findIn K (.ref q) "__getattribute__" = some (some (.builtin "BaseException.__getattribute__")))(de:PySem.W.findIn K (.ref q) "__getattr__" = some none)(dg:PySem.W.hasDictIn K q=true)(dh:PySem.W.findIn K (.ref q) "__class__" = some (some (.builtin "object.__class__")))(dj:PySem.W.specialIn K (.builtin "object.__class__") "__get__" = some (some (.builtin "getset_descriptor.__get__")))(dk:PySem.W.takesIn K (.builtin "object.__class__")=some true)(bq:PySem.W.keepIn K (.ref q)=true)(dq:PySem.W.clsIn K q=some L)(dt:PySem.W.qy L.mro=true)(du:L.hasDict=true)(bg:PySem.W.findIn K (.ref q) "__setattr__" = some (some (.builtin "object.__setattr__")))(c4:PySem.W.findIn K (.ref q) "address" = some none)(a5:PySem.W.nsIn K mainGlobals "NoDeed" = some (some (.ref S)))(a6:PySem.W.nsIn K mainGlobals "NoChange" = some (some (.ref U)))(a7:PySem.W.nsIn K mainGlobals "NoRow" = some (some (.ref Y)))(ab:PySem.W.nsIn K mainGlobals "Drawer" = some (some (.ref I)))(a8:PySem.W.plainGet K I Str.empty=true)(ba:PySem.W.hasDictIn K I=true)(bc:PySem.W.plainOver K I=true)(bh:PySem.W.findIn K (.ref I) "__setattr__" = some (some (.builtin "object.__setattr__")))(bo:PySem.W.makesIn K I=true)(br:PySem.W.keepIn K (.ref I)=true)(c5:PySem.W.findIn K (.ref I) "answers" = some none)(c6:PySem.W.findIn K (.ref I) "asked" = some none)(ae:PySem.W.nsIn K mainGlobals "Walk" = some (some (.ref J)))(a9:PySem.W.plainGet K J Str.empty=true)(bb:PySem.W.hasDictIn K J=true)(bf:PySem.W.plainOver K J=true)(bj:PySem.W.findIn K (.ref J) "__setattr__" = some (some (.builtin "object.__setattr__")))(bp:PySem.W.makesIn K J=true)(bt:PySem.W.keepIn K (.ref J)=true)(c7:PySem.W.findIn K (.ref J) "lacking" = some none)(d2:(Value.ref q==(.ref B:Value))=false)(cp:PySem.W.subIn K (.ref q) (.ref B)=some true)(b2:(PySem.W.clsIn K B).isSome=true)(cz:PySem.W.typeIn K (.ref B)=some (.type "type"))(b1:PySem.W.subIn K (.ref B) (.type "BaseException")=some true)(b9:(Value.ref q==(.ref q:Value))=true)(cb:(Value.ref q==(.type "ValueError" : Value))=false)(cq:PySem.W.subIn K (.ref q) (.type "ValueError")=some true)(b7:PySem.W.kitMeta "ValueError" = true)(cg:(Value.ref q==(.ref U:Value))=false)(ct:PySem.W.subIn K (.ref q) (.ref U)=some false)(b3:(PySem.W.clsIn K U).isSome=true)(c0:PySem.W.typeIn K (.ref U)=some (.type "type"))(cj:(Value.ref q==(.ref S:Value))=false)(cu:PySem.W.subIn K (.ref q) (.ref S)=some false)(b4:(PySem.W.clsIn K S).isSome=true)(c1:PySem.W.typeIn K (.ref S)=some (.type "type"))(ck:(Value.ref q==(.ref Y:Value))=false)(cw:PySem.W.subIn K (.ref q) (.ref Y)=some false)(b5:(PySem.W.clsIn K Y).isSome=true)(c2:PySem.W.typeIn K (.ref Y)=some (.type "type"))(cn:(Value.ref q==(.ref O:Value))=false)(cy:PySem.W.subIn K (.ref q) (.ref O)=some false)(b6:(PySem.W.clsIn K O).isSome=true)(c3:PySem.W.typeIn K (.ref O)=some (.type "type")): ∃a:Adr,Txt P w K mg a:=by
 obtain⟨f,d,F⟩:=CL.ux X G b0 Lx
 exact⟨⟨f,d,ai,af,t2,B,O,q,S,U,Y,I,J⟩,F,
  Av X G bu,
  Av X G bw,
  fun _=>.inr ⟨_,_,_,c8,rfl,rfl,y0 3 rfl,(.cons ⟨_,rfl⟩ (.cons ⟨_,rfl⟩ (.cons ⟨_,rfl⟩ .nil)))⟩,
  Av X G bx,
  Ao X G z0,
  Ao X G z1,
  Ao X G z2,
  Ao X G z3,
  Ao X G z4,
  Ao X G z5,
  Ao X G z6,
  Ao X G z7,
  Ao X G z8,
  Ao X G z9,
  Ao X G dv,
  Ao X G dw,
  Ao X G dy,
  Ao X G dz,
  Ao X G d0,
  Ao X G d1,
  Av X G a3,
  ⟨dm,dn,dp⟩,
  Av X G a4,
  Av X G Z,
  ⟨⟨_,_,_,_,_,ag,aj,ak,ao,aq⟩,ar,au,av,aw,ah,ax,ay⟩,
  ⟨⟨dd,de,ah,dg⟩,dh,dj,dk,az⟩,
  ⟨_,_,_,_,ag,rfl⟩,
  ⟨⟨⟨_,_,_,_,_,ag,aj,ak,ao,aq⟩,ar,au,av,aw,ah,ax,ay⟩,((F 41 rfl).M _ _ rfl (Av X G Z)).1,((F 41 rfl).M _ _ rfl (Av X G Z)).2,bq⟩,
  ⟨⟨_,dq,dt,du⟩,bg,az,c4⟩,
  Av X G a5,
  Av X G a6,
  Av X G a7,
  Av X G ab,
  ⟨a8,ba,bc,bh⟩,
  ⟨bo,((F 43 rfl).M _ _ rfl (Av X G ab)).1,((F 43 rfl).M _ _ rfl (Av X G ab)).2,br⟩,
  c5,
  c6,
  Av X G ae,
  ⟨a9,bb,bf,bj⟩,
  ⟨bp,((F 52 rfl).M _ _ rfl (Av X G ae)).1,((F 52 rfl).M _ _ rfl (Av X G ae)).2,bt⟩,
  c7,
  R0 b1 (qR b2 cz cp),
  Ro b9,
  Xa cb (M7 b7 cq),
  (sA (Xa cg (qR b3 c0 ct)) (sA (Xa cj (qR b4 c1 cu)) (sA (Xa ck (qR b5 c2 cw)) (sA (Xa cn (qR b6 c3 cy)) Dy))))⟩
structure Wd where
 P:Program
 w:World
 K:Ds
 mg:Str->Option Value
 base:Heap
abbrev Tx(W:Wd)(a:Adr):Prop:=Txt W.P W.w W.K W.mg a
abbrev Ok(W:Wd)(a:Adr)(r i:Nat)(ps:List Str)(G:CL.GC):Prop:=FnOk W.P W.w W.K W.mg W.base CX0 r (a.f i) (a.d i) ps (CL.qt W.K G)
end K33
namespace K33
open PySem L2 CL
section
variable {W:Wd}{a:Adr}
structure Tp(C:CH)(t:Addr)(ns:List Int):Prop where
 at_:∃a b c:Int,C t=some (.lst [.fz (ns.map PV.int),.int a,.int b,.int c])/\0<=a/\0<=b/\0<=c
 len:ns.length<=63
def Ex(t:Addr)(C C':CH):Prop:=∀b o,b≠t->C b=some o->C' b=some o
def Ex.refl: Ex t C C:=fun _ _ _ h=>h
theorem Ex.trans(h:Ex t C C1)(h':Ex t C1 C2):Ex t C C2:=fun b o n e=>h' b o n (h b o n e)
theorem Ex.new(q:C p=none)o:Ex t C (gQ C p o):=fun b u _ e=>by
 rw[wQ (fun z=>by subst z;rw[q] at e;cases e)];exact e
inductive Rz(ts:List PV)(C:CH)(Q:K1):Prop
 |mk(ns:List Int)(z0:ts=[.fz (ns.map PV.int)])(z1:ns.length<=63)(z2:∀t C',C t=none->Ex t C C'->Tp C' t ns->Q (.ref t) C')
def zj(T:Tx W a):Ok W a 1 17 ["_law_script"] Rz:=by
 refine(T.F 17 rfl).o (fun G=>(kQ (fQ (pX (qQ (cv 0) (qQ zQ (qQ zQ (d7 zQ)))))))) ?_;rintro ts C R ⟨ns,rfl,F,q⟩;show 4<=sizeLine/\∀p,C p=none->R (.ref p) (gQ C p (.lst [.fz (ns.map PV.int),.int 0,.int 0,.int 0]));exact⟨by decide,fun p B=>q p _ B (Ex.new B _) ⟨⟨0,0,0,jQ,by decide,by decide,by decide⟩,F⟩⟩
def Ex.v6 o:Ex t C (gQ C t o):=fun b u n e=>by rwa [wQ n]
def Ug{ns:List Int}(h0:0<=k)(h1:k < ((ns.map PV.int).length:Int)):∃v,atI (ns.map PV.int) k=some (.int v):=by
 delta atI ixN
 rw[Ah h0,Ah h1];rw[AB] at h1;show ∃v,(ns.map PV.int)[k.toNat]?=some (.int v);rw[Aq,AM (by lia)];exact⟨_,rfl⟩
inductive Gc(ts:List PV)(C:CH)(Q:K1):Prop
 |mk(t:Addr)(m:Int)(ns:List Int)(z0:ts=[.ref t,.int m])(z1:Tp C t ns)(z2:0 < m)(z3:m < 4611686018427387904)(z4:∀(v:Int)(C':CH),0<=v->v < m->Tp C' t ns->Ex t C C'->Q (.int v) C')
def mZ(T:Tx W a):Ok W a 1 18 U4 Gc:=by
 have S:=(T.F 18 rfl).s
 refine(T.F 18 rfl).o (fun hr=>(xQ (gn 2 S.nd (cx (cv 0) zQ))
  (xQ (fR (nQ iQ qX (cx (cv 0) zQ) zQ) (vN (cv 0) zQ))
  (xQ (uX (jl (jj (ct2 lX jX (cx (cv 0) zQ) zQ) (jf (ct2 qH wB (cx (cv 0) zQ) (qb T.oJ (cv 2)))))) (xQ (fR (nQ QQ Xz (vZ G5 Hb rfl T.z_abs rfl (d7 (cx (cv 2) (cx (cv 0) zQ)))) (nQ Zz vI zQ zQ)) (vN (cv 0) zQ))
  (kQ (fR (nQ iQ qX (cx (cv 0) zQ) zQ) (vN (cv 0) zQ)))) eQ)
  (xQ (uX (ct2 vK cZ (cx (cv 0) zQ) zQ) (xQ (gn 3 S.nd (nQ oU bY (cx (cv 0) zQ) (cv 1)))
  (xQ (fR (nQ QQ Xz (cx (cv 0) zQ) (cv 1)) (vN (cv 0) zQ))
  (kQ (fQ (cv 3))))) eQ)
  (xQ (gn 4 S.nd zQ)
  (xQ (uX (ct2 vK cZ (qb T.oJ (cv 2)) zQ) (kQ (gn 4 S.nd (cx (cv 2) (nQ oU bY (cx (cv 0) zQ) (qb T.oJ (cv 2)))))) eQ)
  (xQ (gn 5 S.nd (nQ oU bY (nQ iQ qX (nQ iQ qX (nQ lL xM (nQ oU bY (cv 4) zQ) zQ) (nQ lL xM (cx (cv 0) zQ) zQ)) zQ) zQ))
  (xQ (gn 5 S.nd (nQ oU bY (nQ lL xM (cv 5) (nQ iQ qX (cv 5) zQ)) zQ))
  (kQ (fQ (nQ oU bY (nQ oU bY (nQ lL xM (cv 5) zQ) zQ) (cv 1))))))))))))) ?_
 rintro ts C R ⟨t,m,ns,rfl,⟨⟨x,y,z,h,hx,hy,U⟩,Y⟩,G,m1,af⟩;refine hZ h rfl (hZ h rfl (aW (wu h rfl ?_)));dsimp only;have h1:(gQ C t (.lst [.fz (ns.map PV.int),.int (x+1),.int y,.int z])) t=_:=jQ;have q:Ex t C (gQ C t (.lst [.fz (ns.map PV.int),.int (x+1),.int y,.int z])):=Ex.v6 _;refine vX (fun I C'=>I=[some (.ref t),some (.int m),some (.fz (ns.map PV.int)),none,none,none]/\∃y z:Int,C' t=some (.lst [.fz (ns.map PV.int),.int (x+1),.int y,.int z])/\0<=y/\0<=z/\Ex t C C') (fun L B=>?_) ?_
 .refine hZ h1 rfl (mX (eX _ _) (bZ (fun O=>?_) fun O=>?_))
  .refine hZ h1 rfl (YD (jw (bZ (fun F=>?_) fun F=>?_)))
   .obtain ⟨c,J⟩:=Ug U (Ag F)
    refine hZ h1 rfl (Rp J ⟨⟨by decide,by decide,by decide⟩,⟨by decide,by decide⟩,?_⟩);refine wu h1 rfl (hZ jQ rfl (aW (wu jQ rfl (B _ _ ⟨rfl,_,_,jQ,?_,by lia,(q.trans (Ex.v6 _)).trans (Ex.v6 _)⟩))));refine Int.ediv_nonneg ?_ (by decide)
    split<;>lia
   .exact dX (B _ _ ⟨rfl,y,z,h1,hy,U,q⟩)
  .exact uD rfl (dX (B _ _ ⟨rfl,y,z,h1,hy,U,q⟩))
 clear h1 q;rintro I C1 ⟨rfl,y',z',h1,ab,ae,q⟩;refine jZ (hZ h1 rfl (jw (bZ (fun O=>?_) fun O=>?_)))
 .refine hZ h1 rfl ⟨G,hZ h1 rfl ⟨⟨G,by lia⟩,?_⟩⟩
  exact wu h1 rfl (af _ _ (Cf _ (by lia)) (Bz _ G) ⟨⟨_,_,_,jQ,by lia,Int.ediv_nonneg ab (by lia),ae⟩,Y⟩ (q.trans (Ex.v6 _)))
 .refine dX (yQ (Uw ?_))
  try dsimp only
  refine vX (fun I C'=>C'=C1/\∃v:Int,I=[some (.ref t),some (.int m),some (.fz (ns.map PV.int)),none,some (.int v),none]) (fun L B=>?_) ?_
  .refine YD (jw (bZ (fun F=>?_) fun F=>?_))
   .have Z:(0:Int) < ((ns.map PV.int).length:Int):=Ag F
    obtain⟨c,J⟩:=Ug (Cf (x+1) (b:=((ns.map PV.int).length:Int)) (by lia)) (Bz (x+1) Z);exact hZ h1 rfl (YD ⟨Z,Rp J (B _ _ ⟨rfl,_,rfl⟩)⟩)
   .exact dX (B _ _ ⟨rfl,0,rfl⟩)
  .rintro I C2 ⟨rfl,v,rfl⟩
   refine yQ ⟨(by show(0:Int) < _;decide),?_⟩;refine⟨.inr ⟨by decide,by decide⟩,?_⟩;refine hZ h1 rfl ⟨.inr ⟨by decide,by decide⟩,?_⟩;refine aW (aW ⟨(by show(0:Int) < _;decide),?_⟩);have b0:=Cf (v % 2147483647 * 48271+(x+1) * 7919+12345) (b:=2147483629) (by decide);have b1:=Bz (v % 2147483647 * 48271+(x+1) * 7919+12345) (b:=2147483629) (by decide);refine yQ (aW ⟨.inl ⟨by lia,by lia⟩,?_⟩)
   refine⟨(by show(0:Int) < _;decide),?_⟩;refine⟨.inr ⟨by decide,by decide⟩,?_⟩;refine⟨(by show(0:Int) < _;decide),?_⟩;exact⟨G,af _ _ (Cf _ (by lia)) (Bz _ G) ⟨⟨_,_,_,h1,by lia,ab,ae⟩,Y⟩ q⟩
def Tp.ne(h:Tp C t ns)(q:C p=none):p≠t:=fun e=>by
 obtain⟨⟨x,y,z,h,_⟩,_⟩:=h;rw[<- e,q] at h;cases h
def Tp.new(h:Tp C t ns)(B:C p=none)o:Tp (gQ C p o) t ns:=by
 have n:=h.ne B;obtain⟨⟨x,y,z,h,q⟩,l⟩:=h;exact⟨⟨x,y,z,(wQ (Ne.symm n)).trans h,q⟩,l⟩
noncomputable def HR:List Str:=["a","ab","abc","b","ba","box","end","give","part","plain","turn","abcdefgh"]
def rK{α:Type}{f:α->PV}{ss:List α}d(h0:0<=k)(h1:k < (ss.length:Int)):atI (ss.map f) k=some (f (ss.getD k.toNat d)):=by
 delta atI ixN
 rw[Ah h0,Ah (by simp_all)];show(ss.map f)[k.toNat]?=_;rw[Aq,Be,AM (by lia)]
 rfl
noncomputable def ZF(v c:Int)(i:Nat):Str:=HR.getD ((v+c * (i:Int)) % 12).toNat ""
noncomputable def wV(v c:Int)(m:Nat):List Str:=(List.range m).map (ZF v c)
def V4:∀v∈List.range 12,∀c∈[1,5,7,11],(wV v (c:Nat) 12).Nodup:=by decide +kernel
def Q0(G:0<=v)(J:v < 12)(B:c=1\/c=5\/c=7\/c=11)(F:m<=12):(wV v c m).Nodup:=by
 have q:(wV v c 12).Nodup:=by
  have:=V4 v.toNat (BL.2 (by lia));have I:=Int.toNat_of_nonneg G
  rcases B with rfl | rfl | rfl | rfl
  .grind
  .grind
  .grind
  .grind
 have e:wV v c m=(wV v c 12).take m:=by
  delta wV
  rw[<- List.map_take,List.take_range,Nat.min_eq_left F]
 exact e▸q.sublist (List.take_sublist _ _)
def GJ f(I:CH->Prop)m(h:∀k C G,k < m->I C->(∀C',I C'->G (f k) C')->c (some (.int k )::ρ) C G)(q:∀p C',I C'->C' p=none->Q (.ref p) (gQ C' p (.lst ((List.range m).map f)))):∀n C,n<=m->m<=1000->I C->fJ rH c ρ Q ((List.range m).drop n |>.map fun k=>PV.int (k:Nat)) ((List.range n).map f) C:=by
 suffices ∀j n C,n+j=m->m<=1000->I C->fJ rH c ρ Q ((List.range m).drop n |>.map fun k=>PV.int (k:Nat)) ((List.range n).map f) C by
  intro n C J F B;exact this (m - n) n C (by lia) F B
 intro j
 induction j with
 |zero =>
  intro n C J F B;have e:n=m:=by lia
  subst e;rw[List.drop_of_length_le (Ak▸AI _)];exact nD fun p O=>q p C B O
 |succ j S =>
  intro n C J F B;rw[Ap (by grind),A4,List.getElem_range];refine kM (h n C _ (by lia) B fun C' L=>⟨?_,?_⟩)
  .rw [AB,Ak]
   exact AK (show n < 1001 by lia) (by decide)
  .have e:(List.range n).map f++[f n]=(List.range (n+1)).map f:=by rw[List.range_succ,AS];rfl
   exact e▸S (n+1) C' (by lia) F L
noncomputable def Rv(c:Nat):Bool:=!(Builtin.Str.occurrences ("abcdefghijklmnopqrstuvwxyz" : Str) ⟨#[c]⟩ 0 ("abcdefghijklmnopqrstuvwxyz" : Str).length 1).isEmpty
noncomputable def Vn(z:Str):Bool:=(decide ((1:Int)<=(z.length:Nat))&&decide (((z.length:Nat):Int)<=8))&&z.cps.toList.all Rv
def ym:HR.all Vn=true:=by decide +kernel
def Ri(h:Vn z=true):z.length<=8 :=by grind[Vn]
def Yt v c n:∀s∈wV v c n,Vn s=true:=by
 intro s hs;obtain⟨i,_,rfl⟩:=AX.1 hs
 delta ZF
 have hk:((v+c * (i:Int)) % 12).toNat < HR.length:=by
  have h1:=Cf (v+c * (i:Int)) (show(12:Int)≠0 by decide);have h2:=Bz (v+c * (i:Int)) (show(0:Int) < 12 by decide);show _ < 12
  lia
 exact Be▸(AM hk)▸CV.1 ym _ (BF hk)
inductive Z0(ts:List PV)(C:CH)(Q:K1):Prop
 |mk(t:Addr)(m:Int)(ns:List Int)(z0:ts=[.ref t,.int m])(z1:Tp C t ns)(z2:0<=m)(z3:m<=12)(z4:∀(p:Addr)(ss:List Str)(C':CH),C' p=some (.lst (ss.map PV.str))->C p=none->p≠t->ss.length=m.toNat->(ss.Nodup/\∀s∈ss,Vn s=true)->Tp C' t ns->Ex t C C'->Q (.ref p) C')
def eU(T:Tx W a):Ok W a 2 19 U4 Z0:=by
 have S:=(T.F 19 rfl).s;have U:=mZ T
 refine(T.F 19 rfl).o (fun hr=>(xQ (gn 2 S.nd (pX (qQ vQ (qQ vQ (qQ vQ (qQ vQ (qQ vQ (qQ vQ (qQ vQ (qQ vQ (qQ vQ (qQ vQ (qQ vQ (d7 vQ))))))))))))))
  (xQ (gn 3 S.nd (cf (T.F 18 rfl) U hr (qQ (cv 0) (d7 zQ))))
  (xQ (gn 4 S.nd (cx (pX (qQ zQ (qQ zQ (qQ zQ (d7 zQ))))) (cf (T.F 18 rfl) U hr (qQ (cv 0) (d7 zQ)))))
  (kQ (fQ (zW rfl (S.c (by decide +kernel)) (S.k rfl rfl rfl (by decide +kernel)) (lR rfl T.xV (d7 (cv 1))) (fun _ _ _ _ _=>zK) (fun _ _ _ _ _=>(cx (cv 3) (nQ oU bY (nQ iQ qX (cv 4) (nQ lL xM (cv 5) (cv 0))) zQ)))))))))) ?_
 rintro ts C R ⟨t,m,ns,rfl,J,aj,m1,ag⟩;refine⟨by decide,fun p F=>?_⟩;refine⟨t,12,ns,rfl,J.new F _,by decide,by decide,fun v C1 ah ai O Z=>?_⟩;refine⟨by decide,fun p2 L=>⟨t,4,ns,rfl,O.new L _,by decide,by decide,fun k C2 k0 k1 G e2=>?_⟩⟩;have af:=Z p _ (J.ne F) jQ;have ab:=(Ex.new L _).trans e2;have m2:=e2 p2 _ (O.ne L) jQ;have I:=rK (f:=PV.int) (ss:=[1,5,7,11]) 0 k0 k1
 have B:[1,5,7,11].getD k.toNat (0:Int)=1\/[1,5,7,11].getD k.toNat (0:Int)=5\/[1,5,7,11].getD k.toNat (0:Int)=7\/[1,5,7,11].getD k.toNat (0:Int)=11:=by
  have:k=0\/k=1\/k=2\/k=3:=by lia
  rcases this with rfl | rfl | rfl | rfl
  .exact .inl rfl
  .exact .inr (.inl rfl)
  .exact .inr (.inr (.inl rfl))
  .exact .inr (.inr (.inr rfl))
 revert I B;generalize [1,5,7,11].getD k.toNat (0:Int)=c;intro I B;refine hZ m2 I ⟨by lia,by lia,?_⟩;have m3:=ab p _ (J.ne F) af;have Y:=((Ex.new F _).trans Z).trans ab;have hb:c<=11/\1<=c:=by rcases B with rfl | rfl | rfl | rfl<;>lia
 refine GJ (fun i=>.str (ZF v c i)) (fun C'=>C'=C2) m.toNat (fun i C3 Q' hi e hq=>?_) (fun p3 C3 e q=>?_) 0 C2 (AW _) (by lia) rfl
 .subst e
  refine⟨.inr ⟨by lia,by lia⟩,?_⟩;refine aW ⟨(by show(0:Int) < _;decide),?_⟩;have r0:=Cf (v+c * (i:Int)) (b:=12) (by decide);have r1:=Bz (v+c * (i:Int)) (b:=12) (by decide);exact hZ m3 (rK (ss:=HR) "" r0 r1) (hq _ rfl)
 .subst e
  have ae:C p3=none:=by
   cases z:C p3 with
   |none=>rfl
   |some o =>
    have n1:=G.ne q;rw[Y p3 o n1 z] at q;cases q
  refine ag p3 (wV v c m.toNat) _ ?_ ae (G.ne q) ?_ ⟨Q0 ah ai B (by lia),Yt v c m.toNat⟩ (G.new q _) (Y.trans (Ex.new q _))
  .rw [jQ]
   delta wV
   rw[Bo]
   rfl
  .delta wV
   rw[AB,Ak]
inductive aA(ts:List PV)(C:CH)(Q:K1):Prop
 |mk(t:Addr)(ns:List Int)(z0:ts=[.ref t])(z1:Tp C t ns)(z2:∀(i:Int)(C':CH),-1000000000<=i->i<=1000000000->Tp C' t ns->Ex t C C'->Q (.int i) C')
def Hy{ns:List Int}(q:∀x∈ns,lo<=x/\x<=hi)(h0:0<=k)(h1:k < ((ns.map PV.int).length:Int)):∃v,atI (ns.map PV.int) k=some (.int v)/\lo<=v/\v<=hi:=by
 delta atI ixN
 rw[Ah h0,Ah h1];rw[AB] at h1;show ∃v,(ns.map PV.int)[k.toNat]?=some (.int v)/\lo<=v/\v<=hi;rw[Aq,AM (by lia)];exact⟨_,rfl,q _ (BF _)⟩
def rL(T:Tx W a):Ok W a 2 20 Tv aA:=by
 have I:=mZ T
 refine(T.F 20 rfl).o (fun L=>(xQ (uX (ct2 vK cZ (cf (T.F 18 rfl) I L (qQ (cv 0) (d7 zQ))) zQ) (kQ (fQ (nQ aK sJ (cf (T.F 18 rfl) I L (qQ (cv 0) (d7 zQ))) zQ))) eQ)
  (kQ (fQ (cx (pX (qQ (nQ Zz vI zQ zQ) (qQ (oM lY uV (nQ Zz vI zQ zQ)) (qQ zQ (d7 (oM lY uV zQ)))))) (cf (T.F 18 rfl) I L (qQ (cv 0) (d7 zQ)))))))) ?_
 rintro ts C R ⟨t,ns,rfl,Z,q⟩;refine⟨t,8,ns,rfl,Z,by decide,by decide,fun v C1 ab ae F O=>?_⟩;refine jw (bZ (fun hb=>?_) fun hb=>?_)
 .refine ⟨t,9,ns,rfl,F,by decide,by decide,fun v C2 ab ae G B=>?_⟩
  exact jw (q (v - 3) C2 (by lia) (by lia) G (O.trans B))
 .refine dX ⟨⟨by decide,by decide,by decide⟩,?_⟩
  refine⟨⟨by decide,by decide,by decide⟩,?_⟩;refine⟨by decide,fun p2 J=>?_⟩;refine⟨t,4,ns,rfl,F.new J _,by decide,by decide,fun k C2 k0 k1 G B=>?_⟩;obtain⟨c,Y,S,U⟩:=(Hy (ns:=[10 ^ 9,-10 ^ 9,999983,-70001]) (lo:=-1000000000) (hi:=1000000000) (by decide) k0 k1);exact hZ (B p2 _ (F.ne J) jQ) Y (q c C2 S U G ((O.trans (Ex.new J _)).trans B))
end
inductive Rk where
 |num (i:Int) | turn (n:Str) | ask (s n:Str) | bin (w:Str) (x y:Rk) | pick (x y z:Rk)
noncomputable def Rk.pv:Rk->PV
 |.num i=>.tup [.str "num",.int i]
 |.turn n=>.tup [.str "turn",.str n]
 |.ask s n=>.tup [.str s,.str n]
 |.bin w x y=>.tup [.str w,x.pv,y.pv]
 |.pick x y z=>.tup [.str "pick",x.pv,y.pv,z.pv]
def bE(bs:List Str)(s n:Str):Prop:=((s = "take"\/s = "down")/\n∈(["a","ab","b"]:List Str))\/(s = "box"/\n∈bs)
noncomputable def Rk.ok(bs τ:List Str):Nat->Rk->Prop
 |_,.num i=>-1000000000<=i/\i<=1000000000
 |_,.turn n=>n∈τ
 |_,.ask s n=>bE bs s n
 |0,.bin _ _ _=>False
 |0,.pick _ _ _=>False
 |d+1,.bin w x y=>(w = "add"\/w = "times"\/w = "less")/\x.ok bs τ d/\y.ok bs τ d
 |d+1,.pick x y z=>x.ok bs τ d/\y.ok bs τ d/\z.ok bs τ d
theorem Rk.ok.up: ∀{d}{r:Rk},r.ok bs τ d->r.ok bs τ (d+1)
 |d,.num i,h=>by unfold Rk.ok at h ⊢;exact h
 |d,.turn n,h=>by unfold Rk.ok at h ⊢;exact h
 |d,.ask s n,h=>by unfold Rk.ok at h ⊢;exact h
 |0,.bin _ _ _,h =>h.elim
 |0,.pick _ _ _,h =>h.elim
 |d+1,.bin w x y,h =>⟨h.1,h.2.1.up,h.2.2.up⟩
 |d+1,.pick x y z,h =>⟨h.1.up,h.2.1.up,h.2.2.up⟩
def Rk.ok.mono{r:Rk}(h:r.ok bs τ d)(l:d<=e):r.ok bs τ e:=by
 induction l with
 |refl=>exact h
 |step _ q=>exact q.up
structure Kt where
 b:Addr
 r:Addr
 bs:List Str
 rs:List Str
 l:Int
 p:Int
 e:Int
 la:Option Str
noncomputable def zB:Option Str->PV
 |none=>.non
 |some s=>.str s
noncomputable def iX(b r:Addr)(l p e:Int)(la:PV):List (Key×PV):=[(.inr "boxes",.ref b),(.inr "rest",.ref r),(.inr "left",.int l),(.inr "parts",.int p),(.inr "eaches",.int e),(.inr "last",la)]
structure j6(C:CH)(t k:Addr)(κ:Kt):Prop where
 at_:C k=some (.dK (iX κ.b κ.r κ.l κ.p κ.e (zB κ.la)))
 bx:C κ.b=some (.lst (κ.bs.map PV.str))
 rx:C κ.r=some (.lst (κ.rs.map PV.str))
 nk:k≠t
 nb:κ.b≠t
 nr:κ.r≠t
 lb:κ.bs.length<=4
 lr:κ.rs.length<=6
def j6.ex(h:j6 C t k κ)(e:Ex t C C'):j6 C' t k κ :=
 ⟨e _ _ h.nk h.at_,e _ _ h.nb h.bx,e _ _ h.nr h.rx,h.nk,h.nb,h.nr,h.lb,h.lr⟩
section
variable {b r:Addr}{l p e:Int}{la:PV}
def xW:kJ (iX b r l p e la) (.inr "boxes")=some (.ref b):=rfl
def tN:kJ (iX b r l p e la) (.inr "rest")=some (.ref r):=rfl
def nF:kJ (iX b r l p e la) (.inr "left")=some (.int l):=rfl
def bT:kJ (iX b r l p e la) (.inr "parts")=some (.int p):=rfl
def aN:kJ (iX b r l p e la) (.inr "eaches")=some (.int e):=rfl
def Qo:kJ (iX b r l p e la) (.inr "last")=some la:=rfl
def QE: nZ (iX b r l p e la) (.inr "left") (.int q)=iX b r q p e la:=rfl
def K4: nZ (iX b r l p e la) (.inr "parts") (.int q)=iX b r l q e la:=rfl
def kC: nZ (iX b r l p e la) (.inr "eaches") (.int q)=iX b r l p q la:=rfl
end
def lV{ss:List Str}(h0:0<=i)(h1:i < (ss.length:Int)):ss.getD i.toNat "" ∈ ss :=by grind
section
variable {W:Wd}{a:Adr}
inductive Y7(ts:List PV)(C:CH)(Q:K1):Prop
 |mk(t k:Addr)(τ:List Str)(ns:List Int)(κ:Kt)(z0:ts=[.ref t,.ref k,.tup (τ.map PV.str)])(z1:Tp C t ns)(z2:j6 C t k κ)(z3:τ.length<=4)(z4:∀(r:Rk)(C':CH),r.ok κ.bs τ 0->Tp C' t ns->Ex t C C'->Q r.pv C')
def fA(T:Tx W a):Ok W a 3 21 U2 Y7:=by
 have S:=(T.F 21 rfl).s;have bQ:=(mZ T).mono (show 1<=2 by decide);have qY:=rL T
 refine(T.F 21 rfl).o (fun I=>(xQ (gn 3 S.nd (cf (T.F 18 rfl) bQ I (qQ (cv 0) (d7 zQ))))
  (xQ (uX (ct2 lX jX (cv 3) zQ) (kQ (fQ (mQ (qQ vQ (d7 (cx (pX (qQ vQ (qQ vQ (d7 vQ)))) (cf (T.F 18 rfl) bQ I (qQ (cv 0) (d7 zQ))))))))) eQ)
  (xQ (uX (ct2 lX jX (cv 3) zQ) (kQ (fQ (mQ (qQ vQ (d7 (cx (pX (qQ vQ (qQ vQ (d7 vQ)))) (cf (T.F 18 rfl) bQ I (qQ (cv 0) (d7 zQ))))))))) eQ)
  (xQ (uX (jl (jj (ct2 qH wB (cv 3) zQ) (jf (ct2 vK cZ (qb T.oJ (lZ (qZ I) (cv 1) vQ (fun _ _=>rfl))) zQ)))) (kQ (fQ (mQ (qQ vQ (d7 (cx (lZ (qZ I) (cv 1) vQ (fun _ _=>rfl)) (cf (T.F 18 rfl) bQ I (qQ (cv 0) (d7 (qb T.oJ (lZ (qZ I) (cv 1) vQ (fun _ _=>rfl)))))))))))) eQ)
  (xQ (uX (jl (jj (ct2 lX jX (cv 3) zQ) (jf (ct2 vK cZ (qb T.oJ (cv 2)) zQ)))) (kQ (fQ (mQ (qQ vQ (d7 (cx (cv 2) (cf (T.F 18 rfl) bQ I (qQ (cv 0) (d7 (qb T.oJ (cv 2))))))))))) eQ)
  (kQ (fQ (mQ (qQ vQ (d7 (cf (T.F 20 rfl) qY I (d7 (cv 0)))))))))))))) ?_
 rintro ts C R ⟨t,k,τ,ns,κ,rfl,hT,hk,ai,ab⟩;refine⟨t,6,ns,rfl,hT,by decide,by decide,fun v C1 aj ak J e1=>?_⟩
 try dsimp only
 have Y:=hk.ex e1
 have ah:∀C2,Tp C2 t ns->Ex t C C2->aA [.ref t] C2 fun x C3=>2<=sizeLine/\R (.tup [.str "num",x]) C3:=by
  intro C2 G F;refine⟨t,ns,rfl,G,fun i C3 q B T3 e3=>⟨by decide,?_⟩⟩;exact ab (.num i) C3 ⟨q,B⟩ T3 (F.trans e3)
 refine jZ (mX (eX _ _) (bZ (fun O=>?_) fun O=>?_))
 .refine ⟨by decide,fun p Z=>?_⟩
  refine⟨t,3,ns,rfl,J.new Z _,by decide,by decide,fun i C2 q B G F=>?_⟩;refine hZ (F p _ (J.ne Z) jQ) (rK (f:=PV.str) (ss:=["a","ab","b"]) "" q B) ⟨y0 2 rfl,?_⟩;exact ab (.ask "take" _) C2 (.inl ⟨.inl rfl,lV q B⟩) G ((e1.trans (Ex.new Z _)).trans F)
 refine dX (jZ (mX (eX _ _) (bZ (fun O=>?_) fun O=>?_)))
 .refine ⟨by decide,fun p Z=>?_⟩
  refine⟨t,3,ns,rfl,J.new Z _,by decide,by decide,fun i C2 q B G F=>?_⟩;refine hZ (F p _ (J.ne Z) jQ) (rK (f:=PV.str) (ss:=["a","ab","b"]) "" q B) ⟨y0 2 rfl,?_⟩;exact ab (.ask "down" _) C2 (.inl ⟨.inr rfl,lV (ss:=["a","ab","b"]) q B⟩) G ((e1.trans (Ex.new Z _)).trans F)
 apply dX
 try dsimp only
 refine vX (fun ae C'=>C'=C1/\ae=[some (.ref t),some (.ref k),some (.tup (τ.map PV.str)),some (.int v)]) (fun L hL=>?_) ?_
 .refine jw (bZ (fun O=>?_) fun O=>?_)
  .refine gK Y.at_ rfl xW (vG Y.bx (jw (bZ (fun U=>?_) fun U=>?_)))
   .refine gK Y.at_ rfl xW (gK Y.at_ rfl xW (vG Y.bx ?_))
    have hl:=Y.lb;rw[AB] at U ⊢;have af:=Ag U;refine⟨t,_,ns,rfl,J,af,by lia,fun i C2 q B G F=>?_⟩;refine hZ ((Y.ex F).bx) (rK (f:=PV.str) "" q B) ⟨y0 2 rfl,?_⟩;exact ab (.ask "box" _) C2 (.inr ⟨rfl,lV q B⟩) G (e1.trans F)
   .exact dX (hL _ _ ⟨rfl,rfl⟩)
  .exact uD rfl (dX (hL _ _ ⟨rfl,rfl⟩))
 rintro ae C' ⟨rfl,rfl⟩;refine vX (fun ae ag=>ag=C'/\ae=[some (.ref t),some (.ref k),some (.tup (τ.map PV.str)),some (.int v)]) (fun L hL=>?_) ?_
 .refine mX (eX _ _) (bZ (fun O=>?_) fun O=>?_)
  .refine Q8 (jw (bZ (fun U=>?_) fun U=>?_))
   .apply Q8
    rw[AB] at U ⊢;have af:=Ag U;refine⟨t,_,ns,rfl,J,af,by lia,fun i C2 q B G F=>?_⟩;refine tX (rK (f:=PV.str) "" q B) ⟨y0 2 rfl,?_⟩;exact ab (.turn _) C2 (lV q B) G (e1.trans F)
   .exact dX (hL _ _ ⟨rfl,rfl⟩)
  .exact uD rfl (dX (hL _ _ ⟨rfl,rfl⟩))
 rintro ae ag ⟨rfl,rfl⟩;exact ah _ J e1
end
def Ka(q:Q (.int (if b then 1 else 0)) C):cInt [.bl b] C Q:=by
 delta cInt
 exact q
noncomputable def Ma(m:Nat):List PV:=(List.range m).map fun k=>PV.int (k:Nat)
def WE m:(Ma m).length=m :=by grind[Ma,List.length_map,List.length_range]
section
variable {W:Wd}{a:Adr}
inductive Xn(d:Nat)(ts:List PV)(C:CH)(Q:K1):Prop
 |mk(t k:Addr)(τ:List Str)(ns:List Int)(κ:Kt)(z0:ts=[.ref t,.ref k,.tup (τ.map PV.str),.int (d:Nat)])(z1:Tp C t ns)(z2:j6 C t k κ)(z3:τ.length<=4)(z4:∀(r:Rk)(C':CH),r.ok κ.bs τ d->Tp C' t ns->Ex t C C'->Q r.pv C')
def mC(T:Tx W a)(d:Nat):Ok W a (d+4) 22 U0 (Xn d):=by
 have ak:∀n,(∀d',n=d'+1->Ok W a (d'+4) 22 U0 (Xn d'))->Ok W a (n+4) 22 U0 (Xn n):=by
  intro n ih;have S:=(T.F 22 rfl).s;have bQ:=(mZ T).mono (show 1<=n+3 by lia);have dB:=(fA T).mono (show 3<=n+3 by lia)
  have eJ:Ok W a (n+3) 22 U0 (fun ts C Q=>∃d',n=d'+1/\Xn d' ts C Q):=by
   cases n with
   |zero=>exact⟨fun vs H Q E ⟨ts,C,R,_,_,⟨d',e,_⟩,_⟩=>by lia,fun _ _ _ _ _ _ _ _ _ _ _ _ _ ⟨ts,C,R,_,_,⟨d',e,_⟩,_⟩=>by lia⟩
   |succ d' =>
    have:=ih d' rfl
    have e:(fun ts C Q=>∃ab,d'+1=ab+1/\Xn ab ts C Q)=Xn d':=by
     funext ts C Q
     refine propext ⟨fun zz=>dQ zz fun ab e h=> ?_,fun h=>⟨d',rfl,h⟩⟩;cases BC e;exact h
    rw[e];exact this
  refine(T.F 22 rfl).o (fun G=>(xQ (gn 4 S.nd (cf (T.F 18 rfl) bQ G (qQ (cv 0) (d7 zQ))))
  (xQ (uX (jl (ug (ct2 lX jX (cv 3) zQ) (qw (ct2 qH wB (cv 4) zQ)))) (kQ (fQ (cf (T.F 21 rfl) dB G (qQ (cv 0) (qQ (cv 1) (d7 (cv 2))))))) eQ)
  (xQ (gn 5 S.nd (cx (pX (qQ vQ (qQ vQ (qQ vQ (d7 vQ))))) (nQ aK sJ (cv 4) zQ)))
  (xQ (gn 6 S.nd (cx (pX (qQ zQ (d7 zQ))) (bK wM yN rfl T.Ql rfl (d7 (gB lX jX (cv 5) vQ (rG _))))))
  (kQ (fQ (nQ iQ qX (mQ (d7 (cv 5))) (p7 T.hX (zW rfl (S.c (by decide +kernel)) (S.k rfl rfl rfl (by decide +kernel)) (lR rfl T.xV (d7 (cv 6))) (fun _ _ _ _ _=>zK) (fun _ _ _ _ _=>(cf (T.F 22 rfl) eJ G (qQ (cv 1) (qQ (cv 2) (qQ (cv 3) (d7 (nQ aK sJ (cv 4) zQ))))))))))))))))) ?_
  rintro ts C R ⟨t,k,τ,ns,κ,rfl,hT,hk,ai,ao⟩;refine⟨t,8,ns,rfl,hT,by decide,by decide,fun v C1 a0 a3 T1 e1=>?_⟩
  try dsimp only
  have aw:=hk.ex e1
  have aj:∀E':K1,E'=R->Y7 [.ref t,.ref k,.tup (τ.map PV.str)] C1 E':=by
   rintro E' rfl;exact⟨t,k,τ,ns,κ,rfl,T1,aw,ai,fun r C2 G Z e2=>ao r C2 (G.mono (AW _)) Z (e1.trans e2)⟩
  refine vX (fun aq C'=>C'=C1/\0 < n/\4<=v/\aq=[some (.ref t),some (.ref k),some (.tup (τ.map PV.str)),some (.int (n:Nat)),some (.int v),none,none]) (fun L hL=>?_) ?_
  .refine mX (eX _ _) (bZ (fun hb=>?_) fun hb=>?_)
   .exact Eo rfl (aj _ rfl)
   .refine jw (bZ (fun ag=>?_) fun ag=>?_)
    .exact aj _ rfl
    .apply dX
     have:=Bc hb;have:=Bc ag;exact hL _ _ ⟨rfl,by lia,by lia,rfl⟩
  rintro aq C' ⟨rfl,hn,hv,rfl⟩;obtain⟨d',rfl⟩:∃d',n=d'+1:=⟨n - 1,by lia⟩
  have ae:∀(B:Str)(m:Nat)(C2:CH),(m=2/\(B = "add"\/B = "times"\/B = "less"))\/(m=3/\B = "pick")->Tp C2 t ns->Ex t C C2 ->
    ∀(c:gw)(ρ:jm)(Q:K1),(∀x q(L:K1),Tp q t ns->Ex t C q->(∀r Y,Rk.ok κ.bs τ d' r->Tp Y t ns->Ex t C Y->L r.pv Y)->c (some x::ρ) q L)->(∀(p:Addr)(F:List Rk)(q:CH),Tp q t ns->Ex t C q->q p=some (.lst (F.map Rk.pv))->(∃r:Rk,r.ok κ.bs τ (d'+1)/\r.pv=.tup (.str B::F.map Rk.pv)/\F.length<=3)->Q (.ref p) q) ->
    fJ rH c ρ Q (Ma m) [] C2:=by
   intro B m C2 I Z e2 c ρ Q ay ae;refine wW (fun zs acc q=>Tp q t ns/\Ex t C q/\∃F:List Rk,acc=F.map Rk.pv/\F.length+zs.length=m/\∀r∈F,Rk.ok κ.bs τ d' r) ?_ ?_ _ _ _ ⟨Z,e2,[],rfl,by rw[WE];exact BY _,fun r G=>nomatch G⟩
   .rintro x r acc q ⟨O,J,F,rfl,hl,U⟩ L hL
    refine ay x q L O J fun r4 Y af T4 e4=>hL _ _ ⟨?_,T4,e4,F++[r4],by rw[AS];rfl,by rw[AE,AO];rw[AQ] at hl;lia,fun r G=>?_⟩
    .rw [AB]
     exact AK (show F.length < 4 by lia) (by decide)
    .rcases Ad.1 G with G | G
     .exact U r G
     .cases AF.1 G;exact af
   .rintro acc q ⟨O,J,F,rfl,hl,U⟩ p hp
    apply ae p F _ (O.new hp _) (J.trans (Ex.new hp _)) jQ
    rw[Dl,Nat.add_zero] at hl
    rcases I with ⟨rfl,I⟩ | ⟨rfl,I⟩
    .match F,hl with
     |[x,y],_=>exact⟨.bin B x y,by unfold Rk.ok;exact⟨I,U x (by simp),U y (by simp)⟩,rfl,by show 2<=3;decide⟩
    .match F,hl with
     |[x,y,z],_=>exact⟨.pick x y z,by unfold Rk.ok;exact⟨U x (by simp),U y (by simp),U z (by simp)⟩,by rw[I];rfl,by show 3<=3;decide⟩
  refine yQ ⟨by decide,fun p hp=>?_⟩
  apply jw
  have Z:=T1.new hp (.lst [PV.str "add",PV.str "times",PV.str "less",PV.str "pick"]);have e2:=e1.trans (Ex.new hp (.lst [PV.str "add",PV.str "times",PV.str "less",PV.str "pick"]));have ar:v=4\/v=5\/v=6\/v=7:=by lia
  obtain⟨B,m,au,I⟩:∃(B:Str)(m:Nat),atI ([PV.str "add",PV.str "times",PV.str "less",PV.str "pick"]) (v - 4)=some (.str B)/\((m=2/\(B = "add"\/B = "times"\/B = "less"))\/(m=3/\B = "pick")):=by
   rcases ar with rfl | rfl | rfl | rfl
   .exact ⟨"add",2,rfl,.inl ⟨rfl,.inl rfl⟩⟩
   .exact ⟨"times",2,rfl,.inl ⟨rfl,.inr (.inl rfl)⟩⟩
   .exact ⟨"less",2,rfl,.inl ⟨rfl,.inr (.inr rfl)⟩⟩
   .exact ⟨"pick",3,rfl,.inr ⟨rfl,rfl⟩⟩
  refine hZ jQ au (yQ ⟨by decide,fun p2 ah=>?_⟩);refine mX (cQ _ _) (Ka ?_)
  have av:atI [PV.int 2,PV.int 3] (if decide (B = "pick") then 1 else 0)=some (.int (m:Nat)):=by
   rcases I with ⟨rfl,I⟩ | ⟨rfl,rfl⟩
   .have:¬ B = "pick":=by rcases I with rfl | rfl | rfl<;>decide
    rw[AU this];rfl
   .rfl
  refine hZ jQ av ⟨y0 1 rfl,?_⟩;have az:m<=3:=by rcases I with ⟨rfl,_⟩ | ⟨rfl,_⟩<;>decide
  refine⟨by lia,by lia,?_⟩;refine ae B m _ I (Z.new ah _) (e2.trans (Ex.new ah _)) _ _ _ (fun x q L O J hL=>?_) fun p3 F q O J m3 G=>?_
  .refine jw ⟨d',rfl,t,k,τ,ns,κ,?_,O,hk.ex J,ai,fun r Y af T4 e4=>hL r Y af T4 (J.trans e4)⟩
   have:((d'+1:Nat):Int) - 1=(d':Nat):=by lia
   rw[this]
  .obtain ⟨r,ax,ep,lr⟩:=G
   refine vJ m3 (dY (by rw[AB];exact AY (show 1+F.length<=4 by lia) (by decide)) ?_);have:=ao r q ax O J;rw[ep] at this;exact this
 induction d with
 |zero=>exact ak 0 fun d' e=>by lia
 |succ d ih=>exact ak (d+1) fun d' e=>by cases BC e;exact ih
end
noncomputable def bM:Option Rk->PV
 |none=>.non
 |some r=>r.pv
def nA(bs τ:List Str):Option Rk->Prop
 |none=>True
 |some r=>r.ok bs τ 0
noncomputable def nU(c:Str×Rk):PV:=.tup [.str c.1,c.2.pv]
def jT(bs τ:List Str)(d:Nat)(ps:List (Str×Rk)):Prop:=∀c∈ps,c.2.ok bs τ d/\c.1.length<=8
def Hx{τ:List Str}(h:0 < τ.length):∃s∈τ,atI (τ.map PV.str) (-1)=some (.str s):=by
 delta atI ixN
 rw[Af (by decide),AB,Ah (by lia)];have:((τ.length:Int) + -1).toNat < τ.length:=by lia
 refine⟨τ[((τ.length:Int) + -1).toNat],BF _,?_⟩;show(τ.map PV.str)[((τ.length:Int) + -1).toNat]?=_;rw[Aq,AM this]
 rfl
def Fp(h:C a=some (.lst xs))(B:ρ[i]?=some (some (.ref a)))(q:mB (fun C=>C a=some (.lst xs)) t c ρ Q xs [] C):mP (zV i) t c ρ C Q :=by simp_all[mP,zV]
def iG{β:Type}G(I:β->Prop)(J:CH->Prop)(U:∀C,J C->C p=some (.lst (ss.map PV.str)))(hl:ss.length<=1000)(ab:∀z C L,J C->(∀b C',I b->J C'->L (G (z,b)) C')->c (some (.str z)::ρ) C L)(O:∀(bs:List (Str×β))C q,J C->C q=none->bs.map (·.1)=ss->(∀x∈bs,I x.2)->Q (.ref q) (gQ C q (.lst (bs.map G))))(S:J C):
  mB (fun C=>C p=some (.lst (ss.map PV.str))) rH c ρ Q (ss.map PV.str) [] C:=by
 refine jE (fun zs acc C=>J C/\∃(bs:List (Str×β))(us:List Str),zs=us.map PV.str/\acc=bs.map G/\bs.map (·.1)++us=ss/\∀x∈bs,I x.2) (fun _ _ _ h=>U _ h.1) ?_ ?_ _ _ _ ⟨S,[],ss,rfl,rfl,rfl,fun x h=>nomatch h⟩
 .rintro x r acc C1 ⟨F,bs,us,B,rfl,e,o⟩ L Y
  cases us with
  |nil=>cases B
  |cons u us =>
   obtain⟨rfl,rfl⟩:=BI B;refine ab u C1 L F fun b C' ob j'=>Y _ _ ⟨?_,j',bs++[(u,b)],us,rfl,by rw[AS];rfl,by rw[AS,AR];exact e,fun x hx=>?_⟩
   .have:=A8 List.length e
    rw[AE,AB] at this;rw[AB];exact AK (show bs.length < 1001 by lia) (by decide)
   .grind
 .rintro acc C1 ⟨F,bs,us,B,rfl,e,o⟩ q Z
  cases us with
  |nil=>rw[Ae] at e;exact O bs C1 q F Z e o
  |cons u us=>cases B
section
variable {W:Wd}{a:Adr}
inductive gKey(ts:List PV)(C:CH)(Q:K1):Prop
 |mk(t k:Addr)(τ:List Str)(ns:List Int)(κ:Kt)(z0:ts=[.ref t,.ref k,.tup (τ.map PV.str)])(z1:Tp C t ns)(z2:j6 C t k κ)(z3:τ.length<=4)(z4:∀(o:Option Rk)(C':CH),nA κ.bs τ o->Tp C' t ns->Ex t C C'->Q (bM o) C')
def ZE(T:Tx W a):Ok W a 4 23 U2 gKey:=by
 have Y:=(mZ T).mono (show 1<=3 by decide);have Z:=fA T
 refine(T.F 23 rfl).o (fun F=>(xQ (gn 3 ((T.F 23 rfl).s).nd (cf (T.F 18 rfl) Y F (qQ (cv 0) (d7 zQ))))
  (xQ (uX (ct2 qH wB (cv 3) zQ) (kQ (fQ qV)) eQ)
  (xQ (uX (jl (jj (ct2 lX jX (cv 3) zQ) (jf (ct2 vK cZ (qb T.oJ (cv 2)) zQ)))) (kQ (fQ (mQ (qQ vQ (d7 (cx (cv 2) (oM lY uV zQ))))))) eQ)
  (kQ (fQ (cf (T.F 21 rfl) Z F (qQ (cv 0) (qQ (cv 1) (d7 (cv 2))))))))))) ?_
 rintro ts C R ⟨t,k,τ,ns,κ,rfl,hT,hk,ab,q⟩;refine⟨t,4,ns,rfl,hT,by decide,by decide,fun v C1 af ag G B=>?_⟩;refine jZ (jw (bZ (fun I=>?_) fun I=>?_))
 .exact q none C1 trivial G B
 apply dX
 try dsimp only
 refine vX (fun S C'=>C'=C1/\S=[some (.ref t),some (.ref k),some (.tup (τ.map PV.str)),some (.int v)]) (fun L O=>?_) ?_
 .refine mX (eX _ _) (bZ (fun I=>?_) fun I=>?_)
  .refine Q8 (jw (bZ (fun J=>?_) fun J=>?_))
   .rw [AB] at J
    have ae:=Ag J;obtain⟨s,hs,es⟩:=(Hx (τ:=τ) (by lia));refine tX es ⟨y0 2 rfl,?_⟩;exact q (some (.turn s)) C1 hs G B
   .exact dX (O _ _ ⟨rfl,rfl⟩)
  .exact uD rfl (dX (O _ _ ⟨rfl,rfl⟩))
 rintro S C' ⟨rfl,rfl⟩;exact⟨t,k,τ,ns,κ,rfl,G,(hk.ex B),ab,fun r C2 F U e2=>q (some r) C2 F U (B.trans e2)⟩
inductive Y6(ts:List PV)(C:CH)(Q:K1):Prop
 |mk(t k:Addr)(τ:List Str)(ns:List Int)(κ:Kt)(z0:ts=[.ref t,.ref k,.tup (τ.map PV.str),.int 2])(z1:Tp C t ns)(z2:j6 C t k κ)(z3:τ.length<=4)(z4:∀(ps:List (Str×Rk))(C':CH),jT κ.bs τ 2 ps->ps.length<=4->Tp C' t ns->Ex t C C'->Q (.tup (ps.map nU)) C')
def Yg(T:Tx W a):Ok W a 7 24 U7 Y6:=by
 have S:=(T.F 24 rfl).s;have bQ:=(mZ T).mono (show 1<=6 by decide);have zJ:=(eU T).mono (show 2<=6 by decide);have eJ:=mC T 2
 refine(T.F 24 rfl).o (fun q=>(xQ (gn 4 S.nd (cf (T.F 19 rfl) zJ q (qQ (cv 0) (d7 (cf (T.F 18 rfl) bQ q (qQ (cv 0) (d7 (nQ iQ qX (cv 3) zQ))))))))
  (kQ (fQ (p7 T.hX (uB rfl (S.c (by decide +kernel)) (S.k rfl rfl rfl (by decide +kernel)) (cv 4) (fun _ _ _ _ _=>zK) (fun _ _ _ _ _=>(mQ (qQ (cv 0) (d7 (cf (T.F 22 rfl) eJ q (qQ (cv 1) (qQ (cv 2) (qQ (cv 3) (d7 zQ))))))))))))))) ?_
 rintro ts C R ⟨t,k,τ,ns,κ,rfl,hT,hk,ab,af⟩;refine aW ⟨t,3,ns,rfl,hT,by decide,by decide,fun v C1 ag ah T1 e1=>?_⟩;refine⟨t,v,ns,rfl,T1,ag,by lia,fun p ss C2 O n2 ae hl nd T2 e2=>?_⟩;refine Fp O rfl (iG nU (fun r=>r.ok κ.bs τ 2) (fun C'=>Tp C' t ns/\Ex t C C'/\C' p=some (.lst (ss.map PV.str))) (fun _ h=>h.2.2) (by lia) (fun z Y L ⟨F,B,U⟩ hL=>?_) (fun bs Y p3 ⟨F,B,U⟩ J hb ho=>?_) ⟨T2,e1.trans e2,O⟩)
 .refine ⟨t,k,τ,ns,κ,rfl,F,hk.ex B,ab,fun r Z q T4 G=>⟨y0 2 rfl,hL r Z q ⟨T4,B.trans G,G _ _ ae U⟩⟩⟩
 .exact vJ jQ (af bs _ (fun c I=>⟨ho c I,Ri (nd.2 c.1 (hb▸AX.2 ⟨c,I,rfl⟩))⟩) (by grind) (F.new J _) (B.trans (Ex.new J _)))
end
structure Hd where
 ev:Str
 rank:Int
 last:Bool
 ch:List (Str×Str×Rk)
noncomputable def Fq(c:Str×Str×Rk):PV:=.tup [.str c.1,.str c.2.1,c.2.2.pv]
noncomputable def Hd.pv(h:Hd):PV:=.tup [.str h.ev,.int h.rank,.bl h.last,.tup (h.ch.map Fq)]
def Hd.ok(bs τ:List Str)(h:Hd):Prop:=h.ch.length<=4/\(∀c∈h.ch,c.2.2.ok bs τ 1/\c.1∈bs/\c.2.1.length<=8)/\h.ev.length<=8/\0<=h.rank/\h.rank<=9
theorem Hd.ok.c{h:Hd}(o:h.ok bs τ):∀c∈h.ch,c.2.2.ok bs τ 1:=fun c q=>(o.2.1 c q).1
theorem Ex.put(g:Ex t C C1)(q:C p=none)o:Ex t C (gQ C1 p o):=fun b u n e=>by
 rw[wQ (fun z=>by subst z;rw[q] at e;cases e)];exact g b u n e
theorem Tp.put(h:Tp C t ns)(q:p≠t)o:Tp (gQ C p o) t ns:=by
 obtain⟨⟨a,b,c,e,r⟩,l⟩:=h;exact⟨⟨a,b,c,by exact(wQ (Ne.symm q))▸e,r⟩,l⟩
def Ex.none(g:Ex t C C')(n:p≠t)(h:C' p=none):C p=none:=by
 cases e:C p with
 |none=>rfl
 |some o=>rw[g p o n e] at h;cases h
def uU(I:Nat->jm->CH->Prop)(F:∀i ρ C,I i ρ C->C b=some (.lst xs))(J:∀i x ρ C,xs[i]?=some x->I i ρ C->∀L:jm->CH->Prop,(∀q C',I (i+1) q C'->L q C')->g x ρ C fun O C1=>u (E.lp L) O C1)(B:∀ρ C,I xs.length ρ C->E.nx ρ C):
  ∀n i ρ C,I i ρ C->i+n=xs.length+1->i<=xs.length->bB b g u E n i ρ C:=by
 intro n
 induction n with
 |zero=>lia
 |succ n G =>
  intro i ρ C h h1 h2;unfold bB;rw[F i ρ C h];dsimp only
  cases e:xs[i]? with
  |none =>
   have:=List.getElem?_eq_none_iff.1 e;have:i=xs.length:=by lia
   subst this;exact B ρ C h
  |some x =>
   have hi:=(Ab.1 e).1;exact J i x ρ C e h _ fun q C' h'=>G (i+1) q C' h' (by lia) (by lia)
def wg(h:C b=some (.lst xs))(q:∀p,C p=none->Q (.ref p) (gQ C p (.lst (aG xs lo hi)))):Hi (.ref b) lo hi C Q:=by
 delta Hi
 dsimp only
 rwa [h]
def Ez v(h0:0<=v)(h1:v < 3):aG [PV.str "tap",PV.str "key"] none (some v)=((["tap","key"]:List Str).take v.toNat).map PV.str:=by
 have:v=0\/v=1\/v=2:=by lia
 rcases this with rfl | rfl | rfl<;>rfl
section
variable {W:Wd}{a:Adr}
inductive Y9(ts:List PV)(C:CH)(Q:K1):Prop
 |mk(t k:Addr)(τ:List Str)(ns:List Int)(κ:Kt)(z0:ts=[.ref t,.ref k,.tup (τ.map PV.str)])(z1:Tp C t ns)(z2:j6 C t k κ)(z3:τ.length<=4)(z4:∀(hs:List Hd)(C':CH),(∀h∈hs,h.ok κ.bs τ)->hs.length<=4->Tp C' t ns->Ex t C C'->Q (.tup (hs.map Hd.pv)) C')
def Yl(T:Tx W a):Ok W a 6 25 U2 Y9:=by
 have S:=(T.F 25 rfl).s;have J:=(mZ T).mono (show 1<=5 by decide);have eJ:=mC T 1
 refine(T.F 25 rfl).o (fun q=>(xQ (gn 3 S.nd (pX oX))
  (xQ (lD PassesOwn.never rfl (gI (pX (qQ vQ (d7 vQ))) mV (bV (cf (T.F 18 rfl) J q (qQ (cv 0) (d7 zQ))))) (mq 4 S.nd) (xQ (gn 5 S.nd (pX oX))
  (xQ (uX (ct2 vK cZ (qb T.oJ (lZ (qZ q) (cv 1) vQ (fun _ _=>rfl))) zQ) (kQ (cD PassesOwn.never rfl rfl T.xV (d7 (cf (T.F 18 rfl) J q (qQ (cv 0) (d7 zQ)))) (mq 6 S.nd) (xQ (gn 7 S.nd (cx (lZ (qZ q) (cv 1) vQ (fun _ _=>rfl)) (cf (T.F 18 rfl) J q (qQ (cv 0) (d7 (qb T.oJ (lZ (qZ q) (cv 1) vQ (fun _ _=>rfl))))))))
  (xQ (gn 8 S.nd (cx (pX (qQ vQ (qQ vQ (d7 vQ)))) (cf (T.F 18 rfl) J q (qQ (cv 0) (d7 zQ)))))
  (kQ (sX (cap (cv 5) (mQ (qQ (cv 7) (qQ (cv 8) (d7 (cf (T.F 22 rfl) eJ q (qQ (cv 0) (qQ (cv 1) (qQ (cv 2) (d7 zQ)))))))))))))))) eQ)
  (kQ (sX (cap (cv 3) (mQ (qQ (cv 4) (qQ (nQ iQ qX zQ (cf (T.F 18 rfl) J q (qQ (cv 0) (d7 zQ)))) (qQ (gB lX jX (cf (T.F 18 rfl) J q (qQ (cv 0) (d7 zQ))) zQ (rG _)) (d7 (p7 T.hX (cv 5)))))))))))))
  (kQ (fQ (p7 T.hX (cv 3))))))) ?_
 rintro ts C R ⟨t,k,τ,ns,κ,rfl,hT,hk,bw,b1⟩;refine yQ ⟨by decide,fun h hh=>?_⟩;have ai:=hT.ne hh;refine vX (fun aj C'=>∃(hs:List Hd)(x4 x5 B F G:Option PV),aj=[some (.ref t),some (.ref k),some (.tup (τ.map PV.str)),some (.ref h),x4,x5,B,F,G]/\C' h=some (.lst (hs.map Hd.pv))/\hs.length<=2/\(∀h∈hs,h.ok κ.bs τ)/\Tp C' t ns/\Ex t C C') (fun L hL=>?_) ?_
 .refine ⟨by decide,fun p1 ah=>?_⟩
  have T1:=(hT.new hh (.lst [])).new ah (.lst [PV.str "tap",PV.str "key"]);refine⟨t,3,ns,rfl,T1,by decide,by decide,fun v C2 b2 b3 T2 e2=>?_⟩;have b0:p1≠t:=(hT.new hh (.lst [])).ne ah;have m2:C2 p1=_:=e2 p1 _ b0 jQ;have bz:h≠p1:=fun z=>by subst z;rw[jQ] at ah;cases ah
  have ay:C2 h=some (.lst []):=e2 h _ ai (by rw[wQ bz];exact jQ);refine wg m2 fun p2 ar=>?_;rw[Ez v b2 b3];have a3:p2≠t:=T2.ne ar;have bf:h≠p2:=fun z=>by subst z;rw[ar] at ay;cases ay
  have bg:Ex t C C2:=fun b o n e=>e2 b o n (Gr.new ah _ _ _ (Gr.new hh _ _ _ e));generalize a7:(["tap","key"]:List Str).take v.toNat=ss;have bt:∀s∈ss,s.length<=8:=fun s hs=>(by decide +kernel:∀s∈(["tap","key"]:List Str),s.length<=8) s (CK (a7▸hs));have b4:ss.length<=2:=by rw[<- a7,Aw];exact Nat.min_le_right _ _
  refine⟨ss.length+1,uU (xs:=ss.map PV.str) (fun i ρ C'=>C' p2=some (.lst (ss.map PV.str))/\∃(hs:List Hd)(x4 x5 B F G:Option PV),ρ=[some (.ref t),some (.ref k),some (.tup (τ.map PV.str)),some (.ref h),x4,x5,B,F,G]/\C' h=some (.lst (hs.map Hd.pv))/\hs.length=i/\i<=ss.length/\(∀h∈hs,h.ok κ.bs τ)/\Tp C' t ns/\Ex t C C') (fun _ _ _ h=>h.1) ?_ ?_ _ 0 _ _ ⟨jQ,[],_,_,_,_,_,rfl,?_,rfl,AW _,(fun _ z=>nomatch z),T2.new ar _,bg.trans (Ex.new ar _)⟩ (by rw[AB];lia) (AW _)⟩
  .rintro i x ρ C3 Y ⟨m3,hs,x4,x5,B,F,G,rfl,mh,hl,hi,ho,T3,e3⟩ L1 bj
   have bu:∃z:Str,x=.str z/\z.length<=8:=by
    rw[Aq] at Y
    cases z:ss[i]? with
    |none=>rw[z] at Y;cases Y
    |some u=>rw[z] at Y;cases Y;exact⟨u,rfl,bt u (Ai z)⟩
   have br:i < ss.length:=by
    have:=(Ab.1 Y).1;rw[AB] at this;exact this
   obtain⟨av,rfl,bq⟩:=bu;refine yQ ⟨by decide,fun c I=>?_⟩;have ab:=T3.ne I;have bb:c≠h:=fun z=>by subst z;rw[mh] at I;cases I
   have bc:c≠p2:=fun z=>by subst z;rw[m3] at I;cases I
   have aw:C c=none:=e3.none ab I;refine vX (fun aj C'=>∃(cs:List (Str×Str×Rk))(B F G:Option PV),aj=[some (.ref t),some (.ref k),some (.tup (τ.map PV.str)),some (.ref h),some (.str av),some (.ref c),B,F,G]/\C' c=some (.lst (cs.map Fq))/\cs.length<=2/\(∀c∈cs,c.2.2.ok κ.bs τ 1/\c.1∈κ.bs/\c.2.1.length<=8)/\C' h=some (.lst (hs.map Hd.pv))/\C' p2=some (.lst (ss.map PV.str))/\Tp C' t ns/\Ex t C C') (fun L2 a6=>?_) ?_
   .have k3:=hk.ex (e3.put aw (.lst []))
    refine gK k3.at_ rfl xW (vG k3.bx (jw ?_));have a4:=T3.new I (.lst []);have a5:Ex t C (gQ C3 c (.lst [])):=e3.put aw _;have a8:gQ C3 c (.lst []) h=some (.lst (hs.map Hd.pv)):=by rw[wQ (Ne.symm bb)];exact mh
    have ba:gQ C3 c (.lst []) p2=some (.lst (ss.map PV.str)):=by rw[wQ (Ne.symm bc)];exact m3
    refine bZ (fun hb=>?_) fun hb=>?_
    .rw [AB] at hb
     have bp:=Ag hb;refine⟨t,3,ns,rfl,a4,by decide,by decide,fun n C4 n0 n1 T4 O=>?_⟩;refine⟨by lia,by lia,?_⟩;refine iZ (fun zs ρ C'=>∃(cs:List (Str×Str×Rk))(B F G:Option PV),ρ=[some (.ref t),some (.ref k),some (.tup (τ.map PV.str)),some (.ref h),some (.str av),some (.ref c),B,F,G]/\C' c=some (.lst (cs.map Fq))/\cs.length+zs.length<=2/\(∀c∈cs,c.2.2.ok κ.bs τ 1/\c.1∈κ.bs/\c.2.1.length<=8)/\C' h=some (.lst (hs.map Hd.pv))/\C' p2=some (.lst (ss.map PV.str))/\Tp C' t ns/\Ex t C C') ?_ ?_ _ _ _ ⟨[],_,_,_,rfl,O _ _ ab jQ,by rw[AB,Ak];show 0+_<=2;lia,(fun _ z=>nomatch z),O _ _ ai a8,O _ _ a3 ba,T4,a5.trans O⟩
     .rintro z zs ρ C5 ⟨cs,y6,y7,y8,rfl,Z,aq,af,az,a0,T5,U⟩ L3 bo
      have k5:=hk.ex U;refine yQ (gK k5.at_ rfl xW (gK k5.at_ rfl xW (vG k5.bx ?_)));have lb:=hk.lb;rw[AB];refine⟨t,_,ns,rfl,T5,bp,by lia,fun i C6 i0 i1 T6 e6=>?_⟩;refine hZ ((k5.ex e6).bx) (rK (f:=PV.str) "" i0 i1) (yQ ⟨by decide,fun p4 ax=>?_⟩);refine⟨t,3,ns,rfl,T6.new ax _,by decide,by decide,fun j C7 j0 j1 T7 e7=>?_⟩
      apply hZ (e7 p4 _ (T6.ne ax) jQ) (rK (f:=PV.str) (ss:=["set","add","times"]) "" j0 j1)
      have bh:Ex t C6 C7:=(Ex.new ax _).trans e7;have au:Ex t C5 C7:=e6.trans bh;refine⟨lW (au _ _ ab Z),⟨t,k,τ,ns,κ,rfl,T7,k5.ex au,bw,fun r C8 q T8 e8=>⟨y0 3 rfl,?_⟩⟩⟩;have ao:Ex t C5 C8:=au.trans e8
      apply gH (ao _ _ ab Z) (by rw[AB];exact AK (show cs.length < 3 by rw[AQ] at aq;lia) (by decide))
      refine bo _ _ ⟨cs++[(_,_,r)],_,_,_,rfl,by rw[jQ,AS];rfl,by rw[AE,AO];rw[AQ] at aq;lia,fun c' ae=>?_,?_,?_,T8.put ab _,(U.trans ao).put aw _⟩
      .rcases Ad.1 ae with ae | ae
       .exact af c' ae
       .cases AF.1 ae;exact⟨q,lV i0 i1,(by decide +kernel:∀s∈(["set","add","times"]:List Str),s.length<=8) _ (lV j0 j1)⟩
      .rw [wQ (Ne.symm bb)];exact ao _ _ ai az
      .rw [wQ (Ne.symm bc)];exact ao _ _ a3 a0
     .rintro ρ C5 ⟨cs,y6,y7,y8,rfl,Z,aq,af,az,a0,T5,U⟩
      exact a6 _ _ ⟨cs,_,_,_,rfl,Z,by lia,af,az,a0,T5,U⟩
    .exact dX (a6 _ _ ⟨[],_,_,_,rfl,jQ,AW _,(fun _ z=>nomatch z),a8,ba,a4,a5⟩)
   rintro aj C4 ⟨cs,y6,y7,y8,rfl,Z,aq,af,a9,bx,T4,O⟩;refine⟨lW a9,⟨t,3,ns,rfl,T4,by decide,by decide,fun rk C5 r0 r1 T5 U=>?_⟩⟩;refine aW ⟨t,2,ns,rfl,T5,by decide,by decide,fun z C6 z0 z1 T6 e6=>?_⟩
   apply mX (eX _ _)
   have ak:=U.trans e6;refine vJ (ak _ _ ab Z) ⟨y0 4 rfl,?_⟩
   apply gH (ak _ _ ai a9) (by rw[AB];exact AK (show hs.length < 3 by lia) (by decide))
   refine bj _ _ ⟨by rw[wQ (Ne.symm bf)];exact ak _ _ a3 bx,hs++[⟨av,1+rk,decide (z=0),cs⟩],_,_,_,_,_,rfl,by rw[jQ,AS];rfl,by rw[AE,AO,hl],br,fun h' ag=>?_,T6.put ai _,(O.trans ak).put hh _⟩
   rcases Ad.1 ag with ag | ag
   .exact ho h' ag
   .cases AF.1 ag;exact⟨by lia,af,bq,by lia,by lia⟩
  .rintro ρ C3 ⟨m3,hs,x4,x5,B,F,G,rfl,mh,hl,hi,ho,T3,e3⟩
   exact hL _ _ ⟨hs,_,_,_,_,_,rfl,mh,by lia,ho,T3,e3⟩
  .rw [wQ bf];exact ay
 rintro aj C' ⟨hs,x4,x5,B,F,G,rfl,mh,hl,ho,T',e'⟩;exact vJ mh (b1 hs C' ho (by lia) T' e')
end
inductive Ln where
 |plain (k:Option Rk) (tag:Str) (sets:List (Str×Rk)) (hands:List Hd) (ls:List Ln)
 |part (k:Option Rk) (name:Str) (gives:List (Str×Rk))
 |give (k:Option Rk) (name:Str) (r:Rk) (ls:List Ln)
 |when (r:Rk) (l1 l2:List Ln)
 |each (name:Str) (r:Rk) (ls:List Ln)
mutual
def Ln.pv:Ln->PV
 |.plain k G s h q=>.tup [.str "plain",bM k,.str G,.tup (s.map nU),.tup (h.map Hd.pv),.tup (Ln.f9 q)]
 |.part k n g=>.tup [.str "part",bM k,.str n,.tup (g.map nU)]
 |.give k n r q=>.tup [.str "give",bM k,.str n,r.pv,.tup (Ln.f9 q)]
 |.when r B F=>.tup [.str "when",r.pv,.tup (Ln.f9 B),.tup (Ln.f9 F)]
 |.each n r q=>.tup [.str "each",.str n,r.pv,.tup (Ln.f9 q)]
def Ln.f9:List Ln->List PV
 |[]=>[]
 |l::q=>l.pv::Ln.f9 q
end
theorem Ln.jd q:Ln.f9 q=q.map Ln.pv:=by
 induction q with
 |nil=>rfl
 |cons l q B=>rw[A4,<- B];rfl
mutual
def Ln.tw:Ln->Nat
 |.plain _ _ _ _ q=>1+Ln.iw q
 |.part _ _ _=>1
 |.give _ _ _ q=>1+Ln.iw q
 |.when _ B F=>Ln.iw B+Ln.iw F
 |.each _ _ q=>8 * Ln.iw q
def Ln.iw:List Ln->Nat
 |[]=>0
 |l::q=>l.tw+Ln.iw q
end
mutual
def Ln.pw:Ln->Nat
 |.plain _ _ _ _ q=>Ln.ji q
 |.part _ _ _=>1
 |.give _ _ _ q=>Ln.ji q
 |.when _ B F=>Ln.ji B+Ln.ji F
 |.each _ _ q=>8 * Ln.ji q
def Ln.ji:List Ln->Nat
 |[]=>0
 |l::q=>l.pw+Ln.ji q
end
def Ln.qp xs ys:Ln.iw (xs++ys)=Ln.iw xs+Ln.iw ys:=by
 induction xs with
 |nil=>show _=0+_;rw[BY];rfl
 |cons x xs q=>show x.tw+Ln.iw (xs++ys)=x.tw+Ln.iw xs+Ln.iw ys;lia
def Ln.qu xs ys:Ln.ji (xs++ys)=Ln.ji xs+Ln.ji ys:=by
 induction xs with
 |nil=>show _=0+_;rw[BY];rfl
 |cons x xs q=>show x.pw+Ln.ji (xs++ys)=x.pw+Ln.ji xs+Ln.ji ys;lia
def iu(bs B:List Str):Nat->List Str->Ln->Prop
 |0,_,_=>False
 |d+1,τ,.plain k I s h q=>nA bs τ k/\(jT bs τ 2 s/\s.length<=4)/\((∀x∈h,x.ok bs τ)/\h.length<=4)/\(∀x∈q,iu bs B d τ x)/\q.length<=6/\I.length<=8
 |_+1,τ,.part k n g=>nA bs τ k/\n∈B/\jT bs τ 1 g/\g.length<=4
 |d+1,τ,.give k n r q=>nA bs τ k/\n∈(["a","ab","b"]:List Str)/\r.ok bs τ 1/\(∀x∈q,iu bs B d τ x)/\q.length<=6
 |d+1,τ,.when r F G=>r.ok bs τ 1/\((∀x∈F,iu bs B d τ x)/\F.length<=6)/\(∀x∈G,iu bs B d τ x)/\G.length<=6
 |d+1,_,.each n r q=>r.ok bs [] 0/\(∀x∈q,iu bs B d [n] x)/\q.length<=6
def iu.up: ∀{d}{τ}{l},iu bs L d τ l->iu bs L (d+1) τ l:=by
 intro d
 induction d with
 |zero=>intro τ l h;exact h.elim
 |succ d I =>
  intro τ l h
  cases l with
  |plain k t s O J=>exact uR h fun h1 h2 B F G=>⟨h1,h2,B,fun x q=>I (F x q),G⟩
  |part k n g=>exact h
  |give k n r J=>exact uR h fun h1 h2 B F G=>⟨h1,h2,B,fun x q=>I (F x q),G⟩
  |when r S U=>obtain⟨h1,⟨h2,B⟩,F,G⟩:=h;exact⟨h1,⟨fun x q=>I (h2 x q),B⟩,fun x q=>I (F x q),G⟩
  |each n r J=>exact oS h fun h1 h2 B=>⟨h1,fun x q=>I (h2 x q),B⟩
def iu.mono(h:iu bs F d τ l)(B:d<=e):iu bs F e τ l:=by
 induction B with
 |refl=>exact h
 |step _ q=>exact q.up
structure nj(κ κ':Kt):Prop where
 b:κ'.b=κ.b
 r:κ'.r=κ.r
 bs:κ'.bs=κ.bs
 rs:κ'.rs=κ.rs
 la:κ'.la=κ.la
 l0:0<=κ'.l
 l1:κ'.l<=κ.l
 p0:0<=κ'.p
 p1:κ'.p<=κ.p
 e0:0<=κ'.e
 e1:κ'.e<=κ.e
structure HS(κ:Kt)(e:Nat)(τ:List Str):Prop where
 l0:0<=κ.l
 l1:κ.l<=6
 p0:0<=κ.p
 p1:κ.p<=2
 e0:0<=κ.e
 e1:κ.e<=(e:Nat)
 t:0 < e->τ=[]
 ly:0 < κ.e->∀s,κ.la=some s->s∈κ.rs
 tl:τ.length<=4
def nj.refl(h:HS κ e τ):nj κ κ:=⟨rfl,rfl,rfl,rfl,rfl,h.l0,BA _,h.p0,BA _,h.e0,BA _⟩
theorem nj.trans(h:nj κ q)(g:nj q B):nj κ B:=⟨g.b.trans h.b,g.r.trans h.r,g.bs.trans h.bs,g.rs.trans h.rs,g.la.trans h.la,g.l0,Cp g.l1 h.l1,g.p0,Cp g.p1 h.p1,g.e0,Cp g.e1 h.e1⟩
def HS.chg(h:HS κ e τ)(g:nj κ q):HS q e τ:=⟨g.l0,Cp g.l1 h.l1,g.p0,Cp g.p1 h.p1,g.e0,Cp g.e1 h.e1,h.t,fun z s hs=>g.rs▸h.ly (Int.lt_of_lt_of_le z g.e1) s (by rwa [<- g.la]),h.tl⟩
noncomputable def su(κ:Kt):Int:=if κ.la.isSome then 16 else 0
def vg(g:nj κ q):su q=su κ :=by simp_all[su,g.la]
noncomputable def Rm(e:Nat):Int:=if e=0 then 1 else 8
noncomputable def nW(e d:Nat):Nat:=if e=0 then d+1 else d+3
structure my(e:Nat)(τ:List Str)(κ κ':Kt)(extra:Int)(tw pw:Nat):Prop where
 t:(tw:Int)<=Rm e * (extra+(κ.l - κ'.l))
 p:(pw:Int)<=(κ.p - κ'.p)+su κ * (κ.e - κ'.e)
 n:τ≠[]->pw=0/\κ'.p=κ.p
theorem gm.j7(h:Ex t C C'):gm [t,k] C C':=fun b o n e=>h b o (fun z=>n (z▸AG)) e
section
variable {W:Wd}{a:Adr}
inductive nO(ts:List PV)(C:CH)(Q:K1):Prop
 |mk(t k:Addr)(τ:List Str)(ns:List Int)(κ:Kt)(name:Str)(z0:ts=[.ref t,.ref k,.tup (τ.map PV.str),.str name])(z1:Tp C t ns)(z2:j6 C t k κ)(z3:τ.length<=4)(z4:∀(o:Option Rk)(g:List (Str×Rk))(C':CH),nA κ.bs τ o->jT κ.bs τ 1 g->g.length<=4->Tp C' t ns->Ex t C C'->Q (Ln.part o name g).pv C')
def VI v(h0:0<=v)(h1:v < 4):aG [PV.str "a",PV.str "ab",PV.str "b"] none (some v)=((["a","ab","b"]:List Str).take v.toNat).map PV.str:=by
 have:v=0\/v=1\/v=2\/v=3:=by lia
 rcases this with rfl | rfl | rfl | rfl<;>rfl
def PP(h:C b=some (.lst xs))(q:Q .non (gQ C b (.lst xs.reverse))):iD (.ref b) [] C Q:=by
 delta iD
 dsimp only
 rwa [h]
def xD(T:Tx W a):Ok W a 6 27 U8 nO:=by
 have S:=(T.F 27 rfl).s;have bQ:=(mZ T).mono (show 1<=5 by decide);have qL:=(ZE T).mono (show 4<=5 by decide);have eJ:=mC T 1
 refine(T.F 27 rfl).o (fun q=>(xQ (gn 4 S.nd (cf (T.F 23 rfl) qL q (qQ (cv 0) (qQ (cv 1) (d7 (cv 2))))))
  (xQ (gn 5 S.nd (gI (pX (qQ vQ (qQ vQ (d7 vQ)))) mV (bV (cf (T.F 18 rfl) bQ q (qQ (cv 0) (d7 zQ))))))
  (xQ (uX (ct2 lX jX (cf (T.F 18 rfl) bQ q (qQ (cv 0) (d7 zQ))) zQ) (kQ (sX (GW BU PySem.F.slot_list_reverse PySem.F.type_list_reverse ZG XE (cv 5)))) eQ)
  (kQ (fQ (mQ (qQ vQ (qQ (cv 4) (qQ (cv 3) (d7 (p7 T.hX (uB rfl (S.c (by decide +kernel)) (S.k rfl rfl rfl (by decide +kernel)) (cv 5) (fun _ _ _ _ _=>zK) (fun _ _ _ _ _=>(mQ (qQ (cv 0) (d7 (cf (T.F 22 rfl) eJ q (qQ (cv 1) (qQ (cv 2) (qQ (cv 3) (d7 zQ)))))))))))))))))))))) ?_
 rintro ts C R ⟨t,k,τ,ns,κ,name,rfl,hT,hk,ak,au⟩;refine yQ ⟨t,k,τ,ns,κ,rfl,hT,hk,ak,fun o C1 ho T1 e1=>yQ ⟨by decide,fun p1 Z=>?_⟩⟩;refine⟨t,4,ns,rfl,T1.new Z _,by decide,by decide,fun v C2 av aw T2 e2=>?_⟩;have ae:Ex t C C2:=fun b o n e=>e2 b o n (Gr.new Z _ _ _ (e1 b o n e));refine wg (e2 p1 _ (T1.ne Z) jQ) fun p2 ab=>?_;rw[VI v av aw];have U:=T2.ne ab;have ag:=ae.none U ab
 generalize aj:(["a","ab","b"]:List Str).take v.toNat=ss;have ai:∀s∈ss,s.length<=8:=fun s hs=>(by decide +kernel:∀s∈(["a","ab","b"]:List Str),s.length<=8) s (CK (aj▸hs));have ax:ss.length<=3 :=aj▸Aw▸Nat.min_le_right _ _;refine vX (fun ao C'=>∃us:List Str,(us.length=ss.length/\∀s∈us,s.length<=8)/\ao=[some (.ref t),some (.ref k),some (.tup (τ.map PV.str)),some (.str name),some (bM o),some (.ref p2)]/\C' p2=some (.lst (us.map PV.str))/\Tp C' t ns/\Ex t C C') (fun L J=>?_) ?_
 .refine ⟨t,2,ns,rfl,T2.new ab _,by decide,by decide,fun z C3 z0 z1 F G=>?_⟩
  have B:=G p2 _ U jQ;have af:=(ae.put ag _).trans G;refine mX (eX _ _) (bZ (fun O=>?_) fun O=>?_)
  .exact ⟨lW B,PP B (J _ _ ⟨ss.reverse,⟨BN,fun s hs=>ai s (List.mem_reverse.1 hs)⟩,rfl,by rw[jQ,List.map_reverse],F.put U _,af.put ag _⟩)⟩
  .exact dX (J _ _ ⟨ss,⟨rfl,ai⟩,rfl,B,F,af⟩)
 rintro ao C3 ⟨us,⟨ay,ar⟩,rfl,B,F,G⟩;refine Fp B rfl (iG nU (fun r=>r.ok κ.bs τ 1) (fun C'=>Tp C' t ns/\Ex t C C'/\C' p2=some (.lst (us.map PV.str))) (fun _ h=>h.2.2) (by lia) (fun z C4 L ⟨Y,I,m4⟩ J=>?_) (fun bs C4 p3 ⟨Y,I,m4⟩ ah O aq=>?_) ⟨F,G,B⟩)
 .refine ⟨t,k,τ,ns,κ,rfl,Y,hk.ex I,ak,fun r C5 q T5 e5=>⟨y0 2 rfl,J r C5 q ⟨T5,I.trans e5,e5 _ _ U m4⟩⟩⟩
 .refine vJ jQ ⟨y0 4 rfl,?_⟩
  exact au o bs _ ho (fun c hc=>⟨aq c hc,ar c.1 (O▸AX.2 ⟨c,hc,rfl⟩)⟩) (by have:=A8 List.length O;rw[AB] at this;lia) (Y.new ah _) (I.trans (Ex.new ah _))
end
def iH e:Rm e=1\/Rm e=8 :=by grind[Rm]
def my.one(h:my e τ κ F 0 B q):my e τ κ F 1 (1+B) q:=by
 refine⟨?_,h.p,h.n⟩;have:=h.t
 rcases iH e with z | z<;>rw[z] at this ⊢ <;> lia
def my.up(h:my e τ κ F 0 B q):my e τ κ F 1 B q:=by
 refine⟨?_,h.p,h.n⟩;have:=h.t
 rcases iH e with z | z<;>rw[z] at this ⊢ <;> lia
def my.add(h:my e τ κ q x G p1)(g:my e τ q J y I p2)(c:nj κ q):my e τ κ J (x+y) (G+I) (p1+p2):=by
 refine⟨?_,?_,fun z=>?_⟩
 .have h1:=h.t
  have h2:=g.t
  rcases iH e with z | z<;>rw[z] at h1 h2 ⊢ <;> lia
 .have h1:=h.p
  have h2:=g.p;rw[vg c] at h2
  lia
 .obtain ⟨L,B⟩:=h.n z
  obtain⟨O,F⟩:=g.n z;exact⟨by lia,F.trans B⟩
theorem my.nil: my e τ κ κ 0 0 0:=by
 refine⟨?_,?_,fun _=>⟨rfl,rfl⟩⟩
 .lia
 .lia
theorem j6.put(h:j6 C t k κ)l p e la:j6 (gQ C k (.dK (iX κ.b κ.r l p e (zB la)))) t k { κ with l:=l,p:=p,e:=e,la:=la }:=by
 have q:κ.b≠k:=fun z=>by have:=h.bx;rw[z,h.at_] at this;cases this
 have B:κ.r≠k:=fun z=>by have:=h.rx;rw[z,h.at_] at this;cases this
 exact⟨jQ,by rw[wQ q];exact h.bx,by exact(wQ B)▸h.rx,h.nk,h.nb,h.nr,h.lb,h.lr⟩
inductive jB(e d:Nat)(ts:List PV)(C:CH)(Q:K1):Prop
 |mk(t k:Addr)(τ:List Str)(ns:List Int)(κ:Kt)(z0:ts=[.ref t,.ref k,.tup (τ.map PV.str),.int (d:Nat)])(z1:Tp C t ns)(z2:j6 C t k κ)(z3:HS κ e τ)(z4:∀(ls:List Ln)(κ':Kt)(C':CH),(∀x∈ls,iu κ.bs κ.rs (nW e d) τ x)->ls.length<=6->my e τ κ κ' 0 (Ln.iw ls) (Ln.ji ls)->nj κ κ'->Tp C' t ns->j6 C' t k κ'->gm [t,k] C C'->Q (.tup (Ln.f9 ls)) C')
inductive wH(e d:Nat)(ts:List PV)(C:CH)(Q:K1):Prop
 |mk(t k:Addr)(τ:List Str)(ns:List Int)(κ:Kt)(z0:ts=[.ref t,.ref k,.tup (τ.map PV.str),.int (d:Nat)])(z1:Tp C t ns)(z2:j6 C t k κ)(z3:HS κ e τ)(z4:∀(l:Ln)(κ':Kt)(C':CH),iu κ.bs κ.rs (nW e d) τ l->my e τ κ κ' 1 l.tw l.pw->nj κ κ'->Tp C' t ns->j6 C' t k κ'->gm [t,k] C C'->Q l.pv C')
inductive kR(e d:Nat)(ts:List PV)(C:CH)(Q:K1):Prop
 |mk d'(z0:d=d'+1)(z1:jB e d' ts C Q)
def bR e d:nW e (d+1)=nW e d+1:=by delta nW;split<;>rfl
def zE e d:∃n,nW e d=n+1:=by delta nW;split;exact⟨_,rfl⟩;exact⟨d+2,rfl⟩
section
variable {W:Wd}{a:Adr}
def QR(T:Tx W a)e d r(h7:7<=r)(jV:Ok W a r 30 U0 (kR e d)):
  Ok W a (r+1) 26 U0 (wH e d):=by
 have S:=(T.F 26 rfl).s;have bQ:=(mZ T).mono (show 1<=r by lia);have zJ:=(eU T).mono (show 2<=r by lia);have qL:=(ZE T).mono (show 4<=r by lia);have Wc:=(Yg T).mono (show 7<=r by lia);have Wf:=(Yl T).mono (show 6<=r by lia)
 refine(T.F 26 rfl).o (fun F=>(xQ (gn 4 S.nd (cf (T.F 23 rfl) qL F (qQ (cv 0) (qQ (cv 1) (d7 (cv 2))))))
  (xQ (gn 5 S.nd (cx (cf (T.F 19 rfl) zJ F (qQ (cv 0) (d7 zQ))) zQ))
  (xQ (gn 6 S.nd (cf (T.F 24 rfl) Wc F (qQ (cv 0) (qQ (cv 1) (qQ (cv 2) (d7 zQ))))))
  (xQ (gn 7 S.nd (cf (T.F 25 rfl) Wf F (qQ (cv 0) (qQ (cv 1) (d7 (cv 2))))))
  (xQ (gn 8 S.nd (mQ oX))
  (xQ (uX (jl (jj (ct2 vK cZ (cv 3) zQ) (jf (ct2 lX jX (cf (T.F 18 rfl) bQ F (qQ (cv 0) (d7 zQ))) zQ)))) (kQ (gn 8 S.nd (cf (T.F 30 rfl) jV F (qQ (cv 0) (qQ (cv 1) (qQ (cv 2) (d7 (nQ aK sJ (cv 3) zQ)))))))) eQ)
  (kQ (fQ (mQ (qQ vQ (qQ (cv 4) (qQ (cv 5) (qQ (cv 6) (qQ (cv 7) (d7 (cv 8))))))))))))))))) ?_
 rintro ts C R ⟨t,k,τ,ns,κ,rfl,hT,hk,G,ar⟩;refine yQ ⟨t,k,τ,ns,κ,rfl,hT,hk,G.tl,fun o C1 ho T1 Y=>yQ ⟨t,1,ns,rfl,T1,by decide,by decide,fun p ss C2 m2 _ av hl nd T2 Z=>?_⟩⟩
 obtain⟨I,rfl⟩:∃I,ss=[I]:=by
  match ss,hl with
  |[x],_=>exact⟨x,rfl⟩
 refine hZ m2 wX (yQ ⟨t,k,τ,ns,κ,rfl,T2,(hk.ex Y).ex Z,G.tl,fun ps C3 ao ak T3 e3=>yQ ⟨t,k,τ,ns,κ,rfl,T3,((hk.ex Y).ex Z).ex e3,G.tl,fun hs C4 ah ag T4 e4=>yQ ⟨by decide,?_⟩⟩⟩);have O:=((Y.trans Z).trans e3).trans e4;have k4:=hk.ex O
 have ae:∀q B C',(∀x∈q,∃d',d=d'+1/\iu κ.bs κ.rs (nW e d') τ x)->q.length<=6->my e τ κ B 0 (Ln.iw q) (Ln.ji q)->nj κ B->Tp C' t ns->j6 C' t k B->gm [t,k] C C' ->
   R (.tup [.str "plain",bM o,.str I,.tup (ps.map nU),.tup (hs.map Hd.pv),.tup (Ln.f9 q)]) C':=by
  intro q B C' aj ai aq hc T' k' x';refine ar (.plain o I ps hs q) B C' ?_ aq.one hc T' k' x';obtain⟨n,en⟩:=zE e d;rw[en];refine⟨ho,⟨ao,ak⟩,⟨ah,ag⟩,fun x hx=>?_,ai,Ri (nd.2 I AG)⟩;obtain⟨d',rfl,au⟩:=aj x hx;rw[bR] at en;have:n=nW e d':=by lia
  rwa [this]
 refine vX (fun ab C'=>∃q B,ab=[some (.ref t),some (.ref k),some (.tup (τ.map PV.str)),some (.int (d:Nat)),some (bM o),some (.str I),some (.tup (ps.map nU)),some (.tup (hs.map Hd.pv)),some (.tup (Ln.f9 q))]/\(∀x∈q,∃d',d=d'+1/\iu κ.bs κ.rs (nW e d') τ x)/\q.length<=6/\my e τ κ B 0 (Ln.iw q) (Ln.ji q)/\nj κ B/\Tp C' t ns/\j6 C' t k B/\gm [t,k] C C') (fun L hL=>?_) ?_
 .refine jw (bZ (fun hb=>?_) fun hb=>?_)
  .have hb:=Ag hb
   refine⟨t,2,ns,rfl,T4,by decide,by decide,fun z C5 z0 z1 J U=>?_⟩;refine mX (eX _ _) (bZ (fun af=>?_) fun af=>?_)
   .apply jw
    obtain⟨d',rfl⟩:∃d',d=d'+1:=⟨d - 1,by lia⟩;refine⟨d',rfl,t,k,τ,ns,κ,?_,J,k4.ex U,G,fun q B C6 h1 h2 h3 h4 T6 k6 x6=>?_⟩
    .have:((d'+1:Nat):Int) - 1=(d':Nat):=by lia
     rw[this]
    .exact hL _ _ ⟨q,B,rfl,fun x hx=>⟨d',rfl,h1 x hx⟩,h2,h3,h4,T6,k6,(gm.j7 (O.trans U)).trans x6⟩
   .exact dX (hL _ _ ⟨[],κ,rfl,(fun _ z=>nomatch z),AW _,my.nil,nj.refl G,J,k4.ex U,gm.j7 (O.trans U)⟩)
  .exact uD rfl (dX (hL _ _ ⟨[],κ,rfl,(fun _ z=>nomatch z),AW _,my.nil,nj.refl G,T4,k4,gm.j7 O⟩))
 rintro ab C5 ⟨q,B,rfl,h1,h2,h3,h4,J,k5,x5⟩;refine⟨y0 6 rfl,?_⟩;exact ae q B C5 h1 h2 h3 h4 J k5 x5
end
inductive Kc(e:Nat)(ts:List PV)(C:CH)(Q:K1):Prop
 |mk(t k:Addr)(d:Nat)(ns:List Int)(κ:Kt)(z0:ts=[.ref t,.ref k,.int (d:Nat)])(z1:Tp C t ns)(z2:j6 C t k κ)(z3:HS κ e [])(z4:0 < κ.e)(z5:∀(l:Ln)(κ':Kt)(C':CH),iu κ.bs κ.rs 3 [] l->my e [] κ κ' 1 l.tw l.pw->nj κ κ'->Tp C' t ns->j6 C' t k κ'->gm [t,k] C C'->Q l.pv C')
section
variable {W:Wd}{a:Adr}
def zu(T:Tx W a)(e d r:Nat)(aw:0 < e)(h7:7<=r)(jV:Ok W a r 30 U0 (kR e d))(rP:Ok W a r 26 U0 (wH e d))(Us:Ok W a r 28 U3 (Kc e)):
  Ok W a (r+1) 29 U0 (wH e d):=by
 have S:=(T.F 29 rfl).s;have bQ:=(mZ T).mono (show 1<=r by lia);have qL:=(ZE T).mono (show 4<=r by lia);have eJ:=(mC T 1).mono (show 5<=r by lia);have tY:=(xD T).mono (show 6<=r by lia)
 refine(T.F 29 rfl).o (fun q=>(xQ (gn 4 S.nd (cf (T.F 18 rfl) bQ q (qQ (cv 0) (d7 zQ))))
  (xQ (uX (jl (jj (ct2 qH wB (cv 4) zQ) (jj (ct2 vK cZ (lZ (qZ q) (cv 1) vQ (fun _ _=>rfl)) zQ) (jf (ct2 vK cZ (qb T.oJ (lZ (qZ q) (cv 1) vQ (fun _ _=>rfl))) zQ))))) (xQ (gV (qZ q) (cv 1) vQ (nQ aK sJ (lZ (qZ q) (cv 1) vQ (fun _ _=>rfl)) zQ))
  (kQ (fQ (cf (T.F 27 rfl) tY q (qQ (cv 0) (qQ (cv 1) (qQ (cv 2) (d7 (cx (lZ (qZ q) (cv 1) vQ (fun _ _=>rfl)) (cf (T.F 18 rfl) bQ q (qQ (cv 0) (d7 (qb T.oJ (lZ (qZ q) (cv 1) vQ (fun _ _=>rfl))))))))))))))) eQ)
  (xQ (uX (jl (jj (ct2 lX jX (cv 4) zQ) (jf (ct2 vK cZ (cv 3) zQ)))) (xQ (gn 5 S.nd (cx (pX (qQ vQ (qQ vQ (d7 vQ)))) (cf (T.F 18 rfl) bQ q (qQ (cv 0) (d7 zQ)))))
  (xQ (gn 6 S.nd (cf (T.F 23 rfl) qL q (qQ (cv 0) (qQ (cv 1) (d7 (cv 2))))))
  (kQ (fQ (mQ (qQ vQ (qQ (cv 6) (qQ (cv 5) (qQ (cf (T.F 22 rfl) eJ q (qQ (cv 0) (qQ (cv 1) (qQ (cv 2) (d7 zQ))))) (d7 (cf (T.F 30 rfl) jV q (qQ (cv 0) (qQ (cv 1) (qQ (cv 2) (d7 (nQ aK sJ (cv 3) zQ)))))))))))))))) eQ)
  (xQ (uX (jl (jj (ct2 lX jX (cv 4) zQ) (jf (ct2 vK cZ (cv 3) zQ)))) (xQ (gn 7 S.nd (cf (T.F 22 rfl) eJ q (qQ (cv 0) (qQ (cv 1) (qQ (cv 2) (d7 zQ))))))
  (xQ (gn 8 S.nd (cf (T.F 30 rfl) jV q (qQ (cv 0) (qQ (cv 1) (qQ (cv 2) (d7 (nQ aK sJ (cv 3) zQ)))))))
  (kQ (fQ (mQ (qQ vQ (qQ (cv 7) (qQ (cv 8) (d7 (cf (T.F 30 rfl) jV q (qQ (cv 0) (qQ (cv 1) (qQ (cv 2) (d7 (nQ aK sJ (cv 3) zQ))))))))))))))) eQ)
  (xQ (uX (jl (jj (ct2 vK cZ (cv 4) zQ) (jf (ct2 vK cZ (lZ (qZ q) (cv 1) vQ (fun _ _=>rfl)) zQ)))) (kQ (fQ (cf (T.F 28 rfl) Us q (qQ (cv 0) (qQ (cv 1) (d7 (cv 3))))))) eQ)
  (kQ (fQ (cf (T.F 26 rfl) rP q (qQ (cv 0) (qQ (cv 1) (qQ (cv 2) (d7 (cv 3)))))))))))))) ?_
 rintro ts C R ⟨t,k,τ,ns,κ,rfl,hT,hk,F,af⟩;have ao:=F.t aw;refine yQ ⟨t,9,ns,rfl,hT,by decide,by decide,fun v C1 az a0 T1 e1=>?_⟩;have I:=hk.ex e1;obtain⟨dn,ah⟩:=zE e d
 have ak:∀(O:List Ln),(∀x∈O,∃d',d=d'+1/\iu κ.bs κ.rs (nW e d') τ x)->∀x∈O,iu κ.bs κ.rs dn τ x:=by
  intro O h x hx;obtain⟨d',rfl,h'⟩:=h x hx;rw[bR] at ah;have:dn=nW e d':=by lia
  rw[this];exact h'
 refine vX (fun J C'=>C'=C1/\J=[some (.ref t),some (.ref k),some (.tup (τ.map PV.str)),some (.int (d:Nat)),some (.int v),none,none,none,none]) (fun L G=>?_) ?_
 .refine jw (bZ (fun hb=>?_) fun hb=>?_)
  .refine gK I.at_ rfl bT (jw (bZ (fun B=>?_) fun B=>?_))
   .refine gK I.at_ rfl tN (vG I.rx (jw (bZ (fun ae=>?_) fun ae=>?_)))
    .have B:=Ag B
     rw[AB] at ae;have ae:=Ag ae;refine jZ (gK I.at_ rfl bT (jw (nY I.at_ rfl (by show 6<=1000;decide) ?_)));rw[K4];have k2:=I.put κ.l (κ.p - 1) κ.e κ.la;have T2:=T1.put I.nk (.dK (iX κ.b κ.r κ.l (κ.p - 1) κ.e (zB κ.la)));refine gK k2.at_ rfl tN (gK k2.at_ rfl tN (vG k2.rx ?_));have lr:=hk.lr;have el:(κ.rs.map PV.str).length=κ.rs.length:=AB _;refine⟨t,_,ns,rfl,T2,by rw[el];exact ae,by rw[el];lia,fun i C3 i0 Y T3 e3=>?_⟩
     have Y:i < (((κ.rs.map PV.str).length:Nat):Int):=Y;rw[el] at Y;have k3:=k2.ex e3;refine hZ k3.rx (rK (f:=PV.str) "" i0 Y) ⟨t,k,τ,ns,{ κ with p:=κ.p - 1 },_,rfl,T3,k3,F.tl,fun o g C4 ho hg ax T4 U=>?_⟩;have p0:=F.p0;refine af _ { κ with p:=κ.p - 1 } C4 ?_ ?_ ?_ T4 (k3.ex U) ?_
     .rw [ah];exact⟨ho,lV i0 Y,hg,ax⟩
     .refine ⟨?_,?_,fun z=>absurd ao z⟩
      .show ((1:Nat):Int)<=Rm e * (1+(κ.l - κ.l))
       rcases iH e with z | z<;>rw[z]<;>lia
      .show ((1:Nat):Int)<=(κ.p - (κ.p - 1))+su κ * (κ.e - κ.e)
       rw[Int.sub_self κ.e,Int.mul_zero];lia
     .exact ⟨rfl,rfl,rfl,rfl,rfl,F.l0,BA _,by lia,by lia,F.e0,BA _⟩
     .exact (((gm.j7 e1).at (by simp) _).trans (gm.j7 e3)).trans (gm.j7 U)
    .exact dX (G _ _ ⟨rfl,rfl⟩)
   .exact uD rfl (dX (G _ _ ⟨rfl,rfl⟩))
  .exact uD rfl (dX (G _ _ ⟨rfl,rfl⟩))
 rintro J C' ⟨rfl,rfl⟩;refine vX (fun J ai=>ai=C'/\J=[some (.ref t),some (.ref k),some (.tup (τ.map PV.str)),some (.int (d:Nat)),some (.int v),none,none,none,none]) (fun L G=>?_) ?_
 .refine mX (eX _ _) (bZ (fun hb=>?_) fun hb=>?_)
  .refine jw (bZ (fun B=>?_) fun B=>?_)
   .have B:=Ag B
    obtain⟨d',rfl⟩:∃d',d=d'+1:=⟨d - 1,by lia⟩;refine yQ ⟨by decide,fun p hp=>?_⟩;refine⟨t,3,ns,rfl,T1.new hp _,by decide,by decide,fun i C2 i0 Y T2 e2=>?_⟩
    apply hZ (e2 p _ (T1.ne hp) jQ) (rK (f:=PV.str) (ss:=["a","ab","b"]) "" i0 Y)
    have ag:Ex t C C2:=fun b o n z=>e2 b o n (Gr.new hp _ _ _ (e1 b o n z));refine yQ ⟨t,k,τ,ns,κ,rfl,T2,hk.ex ag,F.tl,fun o C3 ho T3 e3=>⟨t,k,τ,ns,κ,rfl,T3,(hk.ex ag).ex e3,F.tl,fun rk C4 aj T4 U=>jw ⟨d',rfl,t,k,τ,ns,κ,?_,T4,((hk.ex ag).ex e3).ex U,F,fun O ab C5 h1 h2 h3 h4 Z k5 x5=>⟨y0 5 rfl,?_⟩⟩⟩⟩
    .have:((d'+1:Nat):Int) - 1=(d':Nat):=by lia
     rw[this]
    refine af (.give o _ rk O) ab C5 ?_ h3.one h4 Z k5 ((gm.j7 ((ag.trans e3).trans U)).trans x5);rw[ah];exact⟨ho,lV (ss:=["a","ab","b"]) i0 Y,aj,ak O fun x hx=>⟨d',rfl,h1 x hx⟩,h2⟩
   .exact dX (G _ _ ⟨rfl,rfl⟩)
  .exact uD rfl (dX (G _ _ ⟨rfl,rfl⟩))
 rintro J ai ⟨rfl,rfl⟩;refine vX (fun J C'=>C'=ai/\J=[some (.ref t),some (.ref k),some (.tup (τ.map PV.str)),some (.int (d:Nat)),some (.int v),none,none,none,none]) (fun L G=>?_) ?_
 .refine mX (eX _ _) (bZ (fun hb=>?_) fun hb=>?_)
  .refine jw (bZ (fun B=>?_) fun B=>?_)
   .have B:=Ag B
    obtain⟨d',rfl⟩:∃d',d=d'+1:=⟨d - 1,by lia⟩;have ed:((d'+1:Nat):Int) - 1=(d':Nat):=by lia
    refine yQ ⟨t,k,τ,ns,κ,rfl,T1,I,F.tl,fun rk C4 aj T4 U=>yQ (jw ⟨d',rfl,t,k,τ,ns,κ,by rw[ed],T4,I.ex U,F,fun O ab C5 h1 h2 h3 h4 Z k5 x5=>?_⟩)⟩;refine jw ⟨d',rfl,t,k,τ,ns,ab,by rw[ed],Z,k5,F.chg h4,fun aq ay C6 ar au av g4 T6 k6 x6=>⟨y0 4 rfl,?_⟩⟩;refine af (.when rk O aq) ay C6 ?_ (my.up (h3.add av h4)) (h4.trans g4) T6 k6 (((gm.j7 (e1.trans U)).trans x5).trans x6)
    rw[ah];refine⟨aj,⟨ak O fun x hx=>⟨d',rfl,h1 x hx⟩,h2⟩,ak aq fun x hx=>⟨d',rfl,?_⟩,au⟩;have:=ar x hx;rw[h4.bs,h4.rs] at this;exact this
   .exact dX (G _ _ ⟨rfl,rfl⟩)
  .exact uD rfl (dX (G _ _ ⟨rfl,rfl⟩))
 rintro J C2 ⟨rfl,rfl⟩;refine vX (fun J C'=>C'=C2/\J=[some (.ref t),some (.ref k),some (.tup (τ.map PV.str)),some (.int (d:Nat)),some (.int v),none,none,none,none]) (fun L G=>?_) ?_
 .refine jw (bZ (fun hb=>?_) fun hb=>?_)
  .refine gK I.at_ rfl aN (jw (bZ (fun B=>?_) fun B=>?_))
   .have B:=Ag B
    subst ao;refine⟨t,k,d,ns,κ,rfl,T1,I,F,B,fun l ab C5 h1 h2 h3 Z k5 x5=>af l ab C5 (h1.mono ?_) h2 h3 Z k5 ((gm.j7 e1).trans x5)⟩;have:=F.e1
    delta nW
    rw[Af (by lia)]
    lia
   .exact dX (G _ _ ⟨rfl,rfl⟩)
  .exact uD rfl (dX (G _ _ ⟨rfl,rfl⟩))
 rintro J C3 ⟨rfl,rfl⟩;exact⟨t,k,τ,ns,κ,rfl,T1,I,F,fun l ab C5 h1 h2 h3 Z k5 x5=>af l ab C5 h1 h2 h3 Z k5 ((gm.j7 e1).trans x5)⟩
end
def Ln.j9 xs ys:Ln.f9 (xs++ys)=Ln.f9 xs++Ln.f9 ys :=by grind[Ln.jd,List.map_append]
def Ln.jo xs:(Ln.f9 xs).length=xs.length:=by rw[Ln.jd,AB]
def my.pay(h:my e τ { κ with l:=κ.l - 1 } q 1 G F):my e τ κ q 0 G F:=by
 refine⟨?_,h.p,h.n⟩;have:=h.t;have B:1+(κ.l - 1 - q.l)=0+(κ.l - q.l):=by lia
 rwa [B] at this
theorem j6.upd(h:j6 C t k κ)(q:p≠k)(B:p≠κ.b)(F:p≠κ.r)o:j6 (gQ C p o) t k κ :=
 ⟨by rw[wQ (Ne.symm q)];exact h.at_,by rw[wQ (Ne.symm B)];exact h.bx,by exact(wQ (Ne.symm F))▸h.rx,h.nk,h.nb,h.nr,h.lb,h.lr⟩
section
variable {W:Wd}{a:Adr}
def Yj(T:Tx W a)e d r(h1:1<=r)(Ur:Ok W a r 29 U0 (wH e d)):
  Ok W a (r+1) 30 U0 (jB e d):=by
 have S:=(T.F 30 rfl).s;have bQ:=(mZ T).mono (show 1<=r by lia)
 refine(T.F 30 rfl).o (fun hr=>(xQ (gn 4 S.nd (pX oX))
  (xQ (cD PassesOwn.never rfl rfl T.xV (d7 (nQ aK sJ (nQ iQ qX zQ (cf (T.F 18 rfl) bQ hr (qQ (cv 0) (d7 zQ)))) (bK wM yN rfl T.Ql rfl (d7 (gB qH wB (cv 3) zQ (rG _)))))) (mq 5 S.nd) (kQ (uX (ct2 vK cZ (lZ (qZ hr) (cv 1) vQ (fun _ _=>rfl)) zQ) (xQ (gV (qZ hr) (cv 1) vQ (nQ aK sJ (lZ (qZ hr) (cv 1) vQ (fun _ _=>rfl)) zQ))
  (kQ (sX (cap (cv 4) (cf (T.F 29 rfl) Ur hr (qQ (cv 0) (qQ (cv 1) (qQ (cv 2) (d7 (cv 3)))))))))) eQ)))
  (kQ (fQ (p7 T.hX (cv 4))))))) ?_
 rintro ts C R ⟨t,k,τ,ns,κ,rfl,hT,hk,aj,av⟩;refine yQ ⟨by decide,fun h G=>?_⟩;have ag:=hT.ne G;have af:h≠k:=fun z=>by subst z;rw[hk.at_] at G;cases G
 have nS:h∉[t,k]:=fun z=>by
  rcases AZ.1 z with z | z
  .exact ag z
  .exact af (AF.1 z)
 have ay:h≠κ.b:=fun z=>by rw[z,hk.bx] at G;cases G
 have nr:h≠κ.r:=fun z=>by rw[z,hk.rx] at G;cases G
 have e1:Ex t C (gQ C h (.lst [])):=Ex.new G _;refine vX (fun ak C'=>∃B O J,ak=[some (.ref t),some (.ref k),some (.tup (τ.map PV.str)),some (.int (d:Nat)),some (.ref h),J]/\C' h=some (.lst (Ln.f9 B))/\(∀x∈B,iu κ.bs κ.rs (nW e d) τ x)/\B.length<=3/\my e τ κ O 0 (Ln.iw B) (Ln.ji B)/\nj κ O/\Tp C' t ns/\j6 C' t k O/\gm [t,k] C C') (fun L hL=>?_) ?_
 .refine ⟨t,3,ns,rfl,hT.new G _,by decide,by decide,fun v C2 az a0 T2 e2=>?_⟩
  refine aW (jw (Ka (jw ?_)));generalize hn:1+v - (if decide ((d:Int) < 2)=true then (1:Int) else 0)=n;have ax:n<=3/\0<=n:=by rw[<- hn];split<;>lia
  refine⟨by lia,by lia,?_⟩;refine iZ (fun zs ρ C'=>∃B O J,ρ=[some (.ref t),some (.ref k),some (.tup (τ.map PV.str)),some (.int (d:Nat)),some (.ref h),J]/\C' h=some (.lst (Ln.f9 B))/\(∀x∈B,iu κ.bs κ.rs (nW e d) τ x)/\B.length+zs.length<=3/\my e τ κ O 0 (Ln.iw B) (Ln.ji B)/\nj κ O/\Tp C' t ns/\j6 C' t k O/\gm [t,k] C C') ?_ ?_ _ _ _ ⟨[],κ,_,rfl,e2 _ _ ag jQ,(fun _ z=>nomatch z),by rw[AB,Ak];show 0+_<=3;lia,my.nil,nj.refl aj,T2,(hk.ex e1).ex e2,gm.j7 (e1.trans e2)⟩
  .rintro z zs ρ C3 ⟨B,q,J,rfl,mh,Y,ab,Z,F,U,I,x3⟩ L3 ah
   have au:=aj.chg F;refine gK I.at_ rfl nF (jw (bZ (fun hb=>?_) fun hb=>?_))
   .have hb:=Ag hb
    refine jZ (gK I.at_ rfl nF (jw (nY I.at_ rfl (by show 6<=1000;decide) ?_)));rw[QE];have k4:=I.put (q.l - 1) q.p q.e q.la;have T4:=U.put I.nk (.dK (iX q.b q.r (q.l - 1) q.p q.e (zB q.la)));have ai:gQ C3 k (.dK (iX q.b q.r (q.l - 1) q.p q.e (zB q.la))) h=some (.lst (Ln.f9 B)):=by rwa [wQ af]
    have c4:nj q { q with l:=q.l - 1 }:=⟨rfl,rfl,rfl,rfl,rfl,by lia,by lia,F.p0,BA _,F.e0,BA _⟩;refine⟨lW ai,⟨t,k,τ,ns,_,rfl,T4,k4,au.chg c4,fun l aw C5 ao aq ae T5 k5 J=>?_⟩⟩;have ar:=J h _ nS ai
    apply gH ar (by rw[Ln.jo];exact AK (show B.length < 4 by lia) (by decide))
    refine ah _ _ ⟨B++[l],aw,_,rfl,by rw[jQ,Ln.j9];rfl,fun x hx=>?_,by rw[AE,AO];rw[AQ] at ab;lia,?_,F.trans (c4.trans ae),T5.put ag _,?_,?_⟩
    .rcases Ad.1 hx with hx | hx
     .exact Y x hx
     .cases AF.1 hx
      have:=ao
      rwa [F.bs,F.rs] at this
    .rw [Ln.qp,Ln.qu]
     have:=Z.add aq.pay F;exact this
    .exact k5.upd af (by rw[ae.b];rwa [F.b]) (by rw[ae.r];rwa [F.r]) _
    .exact (((x3.at (by simp) _).trans J).put G _)
   .exact dX (ah _ _ ⟨B,q,_,rfl,mh,Y,by rw[AQ] at ab;lia,Z,F,U,I,x3⟩)
  .rintro ρ C3 ⟨B,q,J,rfl,mh,Y,ab,Z,F,U,I,x3⟩
   exact hL _ _ ⟨B,q,_,rfl,mh,Y,by lia,Z,F,U,I,x3⟩
 rintro ak C3 ⟨B,q,J,rfl,mh,Y,ab,Z,F,U,I,x3⟩;exact vJ mh (av B q C3 Y (by lia) Z F U I x3)
structure EI(C0 C:CH)(t k h:Addr)(ns:List Int)(κ κ':Kt)(name:Str)(ls:List Ln)(m:Nat):Prop where
 mh:C h=some (.lst (Ln.f9 ls))
 ok:∀x∈ls,iu κ.bs κ.rs 1 [name] x
 len:ls.length+m<=2
 tw:(Ln.iw ls:Int)<=κ.l - κ'.l
 pw:Ln.ji ls<=if κ.la.isSome then ls.length else 0
 ch:nj κ κ'
 p:κ'.p=κ.p
 e:κ'.e=κ.e
 tp:Tp C t ns
 kt:j6 C t k κ'
 ex:gm [t,k] C0 C
def Dt(T:Tx W a)(r:Nat)(h1:6<=r)(rP:Ok W a r 26 U0 (wH 0 0)):
  Ok W a (r+1) 28 U3 (Kc 1):=by
 have S:=(T.F 28 rfl).s;have bQ:=(mZ T).mono (show 1<=r by lia);have zJ:=(eU T).mono (show 2<=r by lia);have dB:=(fA T).mono (show 3<=r by lia);have tY:=(xD T).mono (show 6<=r by lia)
 refine(T.F 28 rfl).o (fun F=>(xQ (gV (qZ F) (cv 1) vQ (nQ aK sJ (lZ (qZ F) (cv 1) vQ (fun _ _=>rfl)) zQ))
  (xQ (gn 3 S.nd (cx (cf (T.F 19 rfl) zJ F (qQ (cv 0) (d7 zQ))) zQ))
  (xQ (gn 4 S.nd (mQ (qQ vQ (d7 (cf (T.F 18 rfl) bQ F (qQ (cv 0) (d7 zQ)))))))
  (xQ (uX (ct2 lX jX (cf (T.F 18 rfl) bQ F (qQ (cv 0) (d7 zQ))) zQ) (kQ (gn 4 S.nd (cf (T.F 21 rfl) dB F (qQ (cv 0) (qQ (cv 1) (d7 (mQ oX))))))) eQ)
  (xQ (gn 5 S.nd (pX oX))
  (xQ (cD PassesOwn.never rfl rfl T.xV (d7 (nQ iQ qX zQ (cf (T.F 18 rfl) bQ F (qQ (cv 0) (d7 zQ))))) (mq 6 S.nd) (kQ (uX (ct2 vK cZ (lZ (qZ F) (cv 1) vQ (fun _ _=>rfl)) zQ) (xQ (gV (qZ F) (cv 1) vQ (nQ aK sJ (lZ (qZ F) (cv 1) vQ (fun _ _=>rfl)) zQ))
  (kQ (uX (jl (jj (ct2 JX Xy (lZ (qZ F) (cv 1) vQ (fun _ _=>rfl)) qV) (jf (ct2 lX jX (cf (T.F 18 rfl) bQ F (qQ (cv 0) (d7 zQ))) zQ)))) (kQ (sX (cap (cv 5) (cf (T.F 27 rfl) tY F (qQ (cv 0) (qQ (cv 1) (qQ (mQ (d7 (cv 3))) (d7 (lZ (qZ F) (cv 1) vQ (fun _ _=>rfl)))))))))) (kQ (sX (cap (cv 5) (cf (T.F 26 rfl) rP F (qQ (cv 0) (qQ (cv 1) (qQ (mQ (d7 (cv 3))) (d7 zQ))))))))))) eQ)))
  (kQ (fQ (mQ (qQ vQ (qQ (cv 3) (qQ (cv 4) (d7 (p7 T.hX (cv 5)))))))))))))))) ?_
 rintro ts C R ⟨t,k,d,ns,κ,rfl,hT,hk,ae,bf,bp⟩;have b3:κ.e=1:=by have:=ae.e1;lia
 refine jZ (gK hk.at_ rfl aN (jw (nY hk.at_ rfl (by show 6<=1000;decide) ?_)));rw[kC]
 try dsimp only
 have k1:=hk.put κ.l κ.p (κ.e - 1) κ.la;have T1:=hT.put hk.nk (.dK (iX κ.b κ.r κ.l κ.p (κ.e - 1) (zB κ.la)));have x1:gm [t,k] C (gQ C k (.dK (iX κ.b κ.r κ.l κ.p (κ.e - 1) (zB κ.la)))):=gm.refl.at (by simp) _;refine yQ ⟨t,1,ns,rfl,T1,by decide,by decide,fun p ss C2 m2 _ b4 hl nd T2 e2=>?_⟩;have hl:ss.length=1:=hl
 obtain⟨name,rfl⟩:∃bq,ss=[bq]:=by
  match ss,hl with
  |[x],_=>exact⟨x,rfl⟩
 refine hZ m2 wX (yQ ⟨t,4,ns,rfl,T2,by decide,by decide,fun v C3 b5 b6 T3 e3=>⟨y0 2 rfl,?_⟩⟩);have k3:=(k1.ex e2).ex e3;have x3:gm [t,k] C C3:=x1.trans (gm.j7 (e2.trans e3));refine vX (fun ab C'=>∃O:Rk,O.ok κ.bs [] 0/\ab=[some (.ref t),some (.ref k),some (.int (d:Nat)),some (.str name),some O.pv,none,none]/\Tp C' t ns/\Ex t C3 C') (fun L hL=>?_) ?_
 .refine ⟨t,3,ns,rfl,T3,by decide,by decide,fun z C4 z0 z1 T4 e4=>?_⟩
  refine mX (eX _ _) (bZ (fun hb=>?_) fun hb=>?_)
  .refine ⟨by decide,?_⟩
   exact⟨t,k,[],ns,_,rfl,T4,k3.ex e4,AW _,fun O C5 au T5 e5=>hL _ _ ⟨O,au,rfl,T5,e4.trans e5⟩⟩
  .exact dX (hL _ _ ⟨.num v,⟨by lia,by lia⟩,rfl,T4,e4⟩)
 rintro ab C4 ⟨O,au,rfl,T4,e4⟩;have k4:=k3.ex e4;have x4:gm [t,k] C C4:=x3.trans (gm.j7 e4);have k5:j6 C4 t k { κ with l:=κ.l,e:=κ.e - 1 }:=k4;have T5:=T4;have x5:=x4;generalize C4=C5 at k5 T5 x5 ⊢;refine yQ ⟨by decide,fun h hh=>?_⟩;have ah:=T5.ne hh;have aj:h≠k:=fun z=>by subst z;rw[k5.at_] at hh;cases hh
 have a6:h≠κ.b:=fun z=>by have:=k5.bx;rw[<- z,hh] at this;cases this
 have nr:h≠κ.r:=fun z=>by have:=k5.rx;rw[<- z,hh] at this;cases this
 have nS:h∉[t,k]:=fun z=>by
  rcases AZ.1 z with z | z
  .exact ah z
  .exact aj (AF.1 z)
 have a4:C h=none:=x5.none nS hh;have c5:nj κ { κ with l:=κ.l,e:=κ.e - 1 }:=⟨rfl,rfl,rfl,rfl,rfl,ae.l0,BA _,ae.p0,BA _,by lia,by lia⟩;have a7:HS { κ with l:=κ.l,e:=κ.e - 1 } 0 [name]:=⟨c5.l0,Cp c5.l1 ae.l1,ae.p0,ae.p1,c5.e0,by lia,fun z=>absurd z (by decide),fun z=>absurd (show(0:Int) < κ.e - 1 from z) (by lia),by show 1<=4;decide⟩;refine vX (fun ab C'=>∃(B:List Ln)(ai:Kt)(Z:Option PV),ab=[some (.ref t),some (.ref k),some (.int (d:Nat)),some (.str name),some O.pv,some (.ref h),Z]/\EI C C' t k h ns { κ with l:=κ.l,e:=κ.e - 1 } ai name B 0) (fun L hL=>?_) ?_
 .refine ⟨t,2,ns,rfl,T5.new hh _,by decide,by decide,fun b7 C6 b9 cb T6 e6=>?_⟩
  refine aW ⟨by lia,by lia,?_⟩;have k6:j6 C6 t k { κ with l:=κ.l,e:=κ.e - 1 }:=(k5.upd aj a6 nr _).ex e6;refine iZ (fun zs ρ C'=>∃(B:List Ln)(ai:Kt)(Z:Option PV),ρ=[some (.ref t),some (.ref k),some (.int (d:Nat)),some (.str name),some O.pv,some (.ref h),Z]/\EI C C' t k h ns { κ with l:=κ.l,e:=κ.e - 1 } ai name B zs.length) ?_ ?_ _ _ _ ⟨[],_,_,rfl,⟨e6 _ _ ah jQ,(fun _ z=>nomatch z),by rw[AB,Ak];show 0+_<=2;lia,by show(0:Int)<=_ - _;lia,AW _,nj.refl a7,rfl,rfl,T6,k6,(x5.put a4 _).trans (gm.j7 e6)⟩⟩
  .rintro z zs ρ C7 ⟨B,q,Z,rfl,I⟩ L3 ar
   have a8:=a7.chg I.ch;have bh:=I.len;rw[AQ] at bh;refine gK I.kt.at_ rfl nF (jw (bZ (fun hb=>?_) fun hb=>?_))
   .have hb:=Ag hb
    refine jZ (gK I.kt.at_ rfl nF (jw (nY I.kt.at_ rfl (by show 6<=1000;decide) ?_)));rw[QE];have k8:=I.kt.put (q.l - 1) q.p q.e q.la;have T8:=I.tp.put hk.nk (.dK (iX q.b q.r (q.l - 1) q.p q.e (zB q.la)));have ag:gQ C7 k (.dK (iX q.b q.r (q.l - 1) q.p q.e (zB q.la))) h=some (.lst (Ln.f9 B)):=by rw[wQ aj];exact I.mh
    have x8:gm [t,k] C (gQ C7 k (.dK (iX q.b q.r (q.l - 1) q.p q.e (zB q.la)))):=I.ex.at (by simp) _;generalize gQ C7 k (.dK (iX q.b q.r (q.l - 1) q.p q.e (zB q.la)))=C8 at k8 T8 ag x8 ⊢;have k8:j6 C8 t k { q with l:=q.l - 1 }:=k8;have c8:nj q { q with l:=q.l - 1 }:=⟨rfl,rfl,rfl,rfl,rfl,by lia,by lia,I.ch.p0,BA _,I.ch.e0,BA _⟩;have az:q.la=κ.la:=I.ch.la
    have a5:∀(l:Ln)(G:Kt)(J:CH),iu κ.bs κ.rs 1 [name] l->(l.tw:Int)<=1+(q.l - 1 - G.l)->(l.pw<=if κ.la.isSome then 1 else 0)->nj { q with l:=q.l - 1 } G->G.p=q.p->G.e=q.e->Tp J t ns->j6 J t k G->gm [t,k] C8 J->(∀ab C',(∃(B:List Ln)(ai:Kt)(Z:Option PV),ab=[some (.ref t),some (.ref k),some (.int (d:Nat)),some (.str name),some O.pv,some (.ref h),Z]/\EI C C' t k h ns { κ with l:=κ.l,e:=κ.e - 1 } ai name B zs.length)->L3 ab C') ->
      qU (.ref h) [l.pv] J fun _ C'=>L3 [some (.ref t),some (.ref k),some (.int (d:Nat)),some (.str name),some O.pv,some (.ref h),some z] C':=by
     intro l G J h1 h2 h3 h4 h5 h6 T9 k9 x9 bb;have bo:=x9 h _ nS ag
     apply gH bo (by rw[Ln.jo];exact AK (show B.length < 4 by lia) (by decide))
     have b2:h≠G.b:=by rw[h4.b];rw[I.ch.b];exact a6
     have r2:h≠G.r:=by rw[h4.r];rw[I.ch.r];exact nr
     refine bb _ _ ⟨B++[l],G,_,rfl,⟨by rw[jQ,Ln.j9];rfl,fun x hx=>?_,by rw[AE,AO];lia,?_,?_,I.ch.trans (c8.trans h4),h5.trans I.p,h6.trans I.e,T9.put ah _,k9.upd aj b2 r2 _,(x8.trans x9).put a4 _⟩⟩
     .rcases Ad.1 hx with hx | hx
      .exact I.ok x hx
      .cases AF.1 hx;exact h1
     .rw [Ln.qp]
      have:=I.tw;show((Ln.iw B+(l.tw+0):Nat):Int)<=_
      lia
     .rw [Ln.qu,AE,AO]
      have g:=I.pw;have g:Ln.ji B<=if κ.la.isSome then B.length else 0:=g
      show Ln.ji B+(l.pw+0)<=if κ.la.isSome then B.length+1 else 0
      cases hz:κ.la.isSome with
      |true=>rw[hz,Ah rfl] at g h3;rw[Ah rfl];lia
      |false=>rw[hz,Af AN] at g h3;rw[Af AN];lia
    have b1:q.e=0:=by have:=I.e;have:q.e=κ.e - 1:=this;lia
    have a0:∀J,Tp J t ns->Ex t C8 J->wH 0 0 [.ref t,.ref k,.tup [.str name],.int 0] J fun v C'=>qU (.ref h) [v] C' fun _ a9=>L3 [some (.ref t),some (.ref k),some (.int (d:Nat)),some (.str name),some O.pv,some (.ref h),some z] a9:=by
     intro J T9 U;refine⟨t,k,[name],ns,_,rfl,T9,k8.ex U,a8.chg c8,fun l G ak ba a3 aq ao bj br=>?_⟩;obtain⟨n1,n2⟩:=a3.n (fun z=>nomatch z);refine a5 l G ak ?_ ?_ (by rw[n1];exact AW _) aq n2 ?_ ao bj ((gm.j7 U).trans br) ar
     .have:iu q.bs q.rs 1 [name] l:=ba
      rw[I.ch.bs,I.ch.rs] at this;exact this
     .have:=a3.t
      have this:(l.tw:Int)<=1 * (1+(q.l - 1 - G.l)):=this
      lia
     .have bt:=aq.e0
      have aw:=aq.e1;have aw:G.e<=q.e:=aw
      lia
    refine gK k8.at_ rfl Qo (Uw (VB (fun af=>?_) fun af=>?_))
    .refine ⟨t,2,ns,rfl,T8,by decide,by decide,fun z2 J cg cj T9 U=>?_⟩
     refine mX (eX _ _) (bZ (fun bc=>?_) fun bc=>?_)
     .have af:(!wU (zB q.la))=true:=af
      obtain⟨Y,av⟩:∃Y,q.la=some Y:=by
       cases hz:q.la with
       |none=>rw[hz] at af;cases af
       |some Y=>exact⟨Y,rfl⟩
      have k9:=k8.ex U;refine⟨lW (U _ _ ah ag),⟨y0 1 rfl,?_⟩⟩
      apply gK k9.at_ rfl (v:=.str Y) (by rw[Qo];show some (zB q.la)=_;rw[av];rfl)
      refine⟨t,k,[name],ns,_,Y,rfl,T9,k9,by show 1<=4;decide,fun o g ak ho hg bg ao ay=>?_⟩;refine a5 (.part o Y g) { q with l:=q.l - 1 } ak ?_ ?_ ?_ (nj.refl (a8.chg c8)) rfl rfl ao (k9.ex ay) ((gm.j7 U).trans (gm.j7 ay)) ar
      .have ho:nA q.bs [name] o:=ho
       have hg:jT q.bs [name] 1 g:=hg;rw[I.ch.bs] at ho hg;exact⟨ho,ae.ly bf Y (by rw[<- az];exact av),hg,bg⟩
      .show ((1:Nat):Int)<=1+(q.l - 1 - (q.l - 1));lia
      .rw [<- az,av];exact AI _
     .refine ⟨lW (U _ _ ah ag),⟨y0 1 rfl,?_⟩⟩
      exact a0 J T9 U
    .refine uD rfl ⟨lW ag,⟨y0 1 rfl,?_⟩⟩
     exact a0 C8 T8 Ex.refl
   .exact dX (ar _ _ ⟨B,q,_,rfl,⟨I.mh,I.ok,by lia,I.tw,I.pw,I.ch,I.p,I.e,I.tp,I.kt,I.ex⟩⟩)
  .rintro ρ C7 ⟨B,q,Z,rfl,I⟩
   exact hL _ _ ⟨B,q,_,rfl,I⟩
 rintro ab C7 ⟨B,q,Z,rfl,I⟩;refine vJ I.mh ⟨y0 4 rfl,?_⟩;have bw:=I.ch.l0;have bx:q.l<=κ.l:=I.ch.l1;have bu:q.e=κ.e - 1:=I.e;have cp:q.p=κ.p:=I.p;have b0:(Ln.iw B:Int)<=κ.l - q.l:=I.tw;have ax:Ln.ji B<=if κ.la.isSome then B.length else 0:=I.pw
 have bz:B.length+0<=2:=I.len;refine bp (.each name O B) q _ ?_ ?_ ?_ I.tp I.kt I.ex
 .exact ⟨au,fun x hx=>(I.ok x hx).mono (by decide),by lia⟩
 .refine ⟨?_,?_,fun z=>absurd rfl z⟩
  .show ((8 * Ln.iw B:Nat):Int)<=8 * (1+(κ.l - q.l))
   lia
  .show ((8 * Ln.ji B:Nat):Int)<=(κ.p - q.p)+su κ * (κ.e - q.e)
   have e1:κ.e - q.e=1:=by lia
   rw[e1,Int.mul_one]
   delta su
   cases hz:κ.la.isSome with
   |true=>rw[hz,Ah rfl] at ax;rw[Ah rfl];lia
   |false=>rw[hz,Af AN] at ax;rw[Af AN];lia
 .exact ⟨I.ch.b,I.ch.r,I.ch.bs,I.ch.rs,I.ch.la,I.ch.l0,by lia,I.ch.p0,I.ch.p1,I.ch.e0,by show q.e<=κ.e;lia⟩
end
structure Pt where
 name:Str
 first:List (Str×Int)
 works:List (Str×Rk)
 ls:List Ln
noncomputable def Pt.pv(x:Pt):PV:=.tup [.str x.name,.tup (x.first.map oQ),.tup (x.works.map nU),.tup (Ln.f9 x.ls)]
structure q8(rs:List Str)(cap:Nat)(x:Pt):Prop where
 fl:x.first.length<=4
 wk:jT (x.first.map (·.1)) [] 1 x.works
 wl:x.works.length<=4
 ls:∀l∈x.ls,iu (x.first.map (·.1)) rs 6 [] l
 ll:x.ls.length<=6
 tw:Ln.iw x.ls<=48
 pw:Ln.ji x.ls<=cap
 fb:∀c∈x.first,-1000000000<=c.2/\c.2<=1000000000
 bn:∀c∈x.first,Vn c.1=true
def q8.b8{q}(F:q8 G q x):∀s∈x.first.map (·.1),s.length<=8:=fun s hs=>by
 obtain⟨c,B,rfl⟩:=AX.1 hs;exact Ri (F.bn c B)
def WR(m:C p=some (.dK []))(e:Ra ts=some ps)(h:ps.length<=15)(q:Q (.ref p) (gQ C p (.dK (tV [] ps)))):uN p ts C Q :=by simp_all[uN]
def Xw{ss:List Str}(n:Nat):aG (ss.map PV.str) (some ( n+1)) none=(ss.drop (n+1)).map PV.str:=by
 delta aG
 have e:HT.sIx (ss.map PV.str).length 0 (some ((n:Int)+1))=min (n+1) ss.length:=by
  have:((n:Int)+1)=((n+1:Nat):Int):=by lia
  rw[this,HT.sIx_nat,AB]
 rw[e,HT.sIx_none,<- List.map_drop,BK (by grind)]
 congr 1
 by_cases h:n+1<=ss.length
 .lia
 .simp_all
def Ue{ss:List Str}(h:1 < ss.length):∃s∈ss.drop 1,atI (ss.map PV.str) (-1)=some (.str s):=by
 delta atI ixN
 rw[Af (by decide),AB,Ah (by lia)];have e:((ss.length:Int) + -1).toNat=ss.length - 1:=by lia
 refine⟨ss[ss.length - 1],?_,?_⟩
 .have:ss[ss.length - 1]=(ss.drop 1)[ss.length - 2]'(by rw[BE];lia):=by
   rw[List.getElem_drop]
   congr 1
   lia
  rw[this];exact BF _
 .show (ss.map PV.str)[((ss.length:Int) + -1).toNat]?=_
  rw[e,Aq,AM (by lia)]
  rfl
def Jl{ss:List Str}(h:n < ss.length):atI (ss.map PV.str) n=some (.str ss[n]):=by
 have:=qS (xs:=ss.map PV.str) (by rwa [AB])
 rwa [List.getElem_map] at this
section
variable {W:Wd}{a:Adr}
def cK(h:∀ts C Q,¬ G ts C Q):FnOk W.P W.w W.K W.mg W.base CX0 r f fd ps (qt W.K G) :=
 ⟨fun vs H Q E q=>aQ q fun ts C R _ _ z _=> (h _ _ _ z).elim,fun _ _ _ _ _ _ _ _ _ _ _ _ _ q=>aQ q fun ts C R _ _ z _=> (h _ _ _ z).elim⟩
def QT(h:∀d',d=d'+1->Ok W a r 30 U0 (jB e d')):Ok W a r 30 U0 (kR e d):=by
 cases d with
 |zero=>exact cK fun ts C Q ⟨d',e,_⟩=>by lia
 |succ d' =>
  have e:kR e (d'+1)=jB e d':=by
   funext ts C Q
   refine propext ⟨fun⟨q,z,h⟩=>?_,fun h=>⟨d',rfl,h⟩⟩;cases BC z;exact h
  exact e▸h d' rfl
def Vf(T:Tx W a):Ok W a 8 26 U0 (wH 0 0) :=
 QR T 0 0 7 (by decide) (QT fun d' e=>by omega)
def Yn(T:Tx W a):Ok W a 13 28 U3 (Kc 1) :=
 (Dt T 8 (by decide) (Vf T)).mono (by decide)
def wO(T:Tx W a)d:Ok W a (15+3 * d) 30 U0 (jB 1 d):=by
 have q:∀d,(∀d',d=d'+1->Ok W a (12+3 * d) 30 U0 (jB 1 d'))->Ok W a (15+3 * d) 30 U0 (jB 1 d):=by
  intro d h;have lo:=QT h;have F:=zu T 1 d (12+3 * d+1) (by decide) (by lia) (lo.mono (Bn _)) (QR T 1 d (12+3 * d) (by lia) lo) ((Yn T).mono (by lia));have:=Yj T 1 d (12+3 * d+1+1) (Nat.succ_pos _) F;have e:12+3 * d+1+1+1=15+3 * d:=by lia
  rwa [e] at this
 induction d with
 |zero=>exact q 0 fun d' e=>by lia
 |succ d B=>exact q (d+1) fun d' e=>by cases BC e;exact B.mono (by lia)
def Rf(h1:FnOk W.P W.w W.K W.mg W.base CX0 r f fd ps (qt W.K L))(h2:FnOk W.P W.w W.K W.mg W.base CX0 r f fd ps (qt W.K O)):FnOk W.P W.w W.K W.mg W.base CX0 r f fd ps (qt W.K (fun ts C Q=>L ts C Q\/O ts C Q)) :=
 ⟨fun vs H Q E q=>aQ q fun ts C R x y z u=> by
  rcases z with z | z
  .exact h1.len vs H Q E ⟨ts,C,R,x,y,z,u⟩
  .exact h2.len vs H Q E ⟨ts,C,R,x,y,z,u⟩,fun A outer s H B us vs Q E I G F J q=>aQ q fun ts C R x y z u=> by
  rcases z with z | z
  .exact h1.run A outer s H B us vs Q E I G F J ⟨ts,C,R,x,y,z,u⟩
  .exact h2.run A outer s H B us vs Q E I G F J ⟨ts,C,R,x,y,z,u⟩⟩
noncomputable def tK(k:Nat):Nat:=if k=0 then 18 else 2
structure KS(κ:Kt)(bl rl:Addr)(bs rs:List Str)(k:Nat):Prop where
 b:κ.b=bl
 r:κ.r=rl
 bs:κ.bs=bs
 rs:κ.rs=rs
 l:κ.l=6
 p0:1<=κ.p
 p1:κ.p<=2
 e0:0<=κ.e
 e1:κ.e<=1
 ly:0 < κ.e->∀s,κ.la=some s->s∈κ.rs
 cap:κ.p+su κ * κ.e<=(tK k:Nat)
inductive RG(ts:List PV)(C:CH)(Q:K1):Prop
 |mk(t nl:Addr)(ns:List Int)(names:List Str)(k:Nat)(keyed:Bool)(z0:ts=[.ref t,.ref nl,.int (k:Nat),.bl keyed])(z1:Tp C t ns)(z2:C nl=some (.lst (names.map PV.str)))(z3:nl≠t)(z4:names.length<=6)(z5:k < names.length)(z6:∀(x:Pt)(C':CH),names[k]?=some x.name->q8 (names.drop (k+1)) (tK k) x->Tp C' t ns->Ex t C C'->Q x.pv C')
def zr(T:Tx W a):Ok W a 25 31 U5 RG:=by
 have S:=(T.F 31 rfl).s;have bQ:=(mZ T).mono (show 1<=24 by decide);have zJ:=(eU T).mono (show 2<=24 by decide);have qY:=(rL T).mono (show 2<=24 by decide);have eJ:=(mC T 1).mono (show 5<=24 by decide);have jV:=Rf (wO T 3) ((wO T 1).mono (show 15+3 * 1<=24 by decide))
 refine(T.F 31 rfl).o (fun O=>(xQ (gn 4 S.nd (cx (pX (qQ zQ (qQ zQ (qQ zQ (qQ zQ (qQ zQ (d7 zQ))))))) (cf (T.F 18 rfl) bQ O (qQ (cv 0) (d7 zQ)))))
  (xQ (gn 5 S.nd (cf (T.F 19 rfl) zJ O (qQ (cv 0) (d7 (cv 4)))))
  (xQ (gn 6 S.nd (Fy (mG vQ (cv 5) (mG vQ (gI (cv 1) (bV (nQ iQ qX (cv 2) zQ)) mV) (mG vQ zQ (mG vQ zQ (mG vQ zQ (mG vQ qV Fe))))))))
  (xQ (uX (jl (ug (ct2 qH wB (qb T.oJ (cv 1)) zQ) (qw (jl (jj (mR (cv 3)) (jf (ct2 lX jX (cv 2) zQ))))))) (kQ (gV (qZ O) (cv 6) vQ zQ)) eQ)
  (xQ (uX (mR (cv 3)) (xQ (gV (qZ O) (cv 6) vQ (bK wM yN rfl T.Ql rfl (d7 (gB lX jX (cv 2) zQ (rG _)))))
  (xQ (uX (ct2 vK cZ (qb T.oJ (cv 1)) zQ) (kQ (gV (qZ O) (cv 6) vQ (cx (cv 1) (oM lY uV zQ)))) eQ)
  (kQ (uX (ct2 vK cZ (cv 2) zQ) (kQ (gV (qZ O) (cv 6) vQ zQ)) eQ)))) eQ)
  (xQ (gn 7 S.nd (p7 T.hX (uB rfl (S.c (by decide +kernel)) (S.k rfl rfl rfl (by decide +kernel)) (cv 5) (fun _ _ _ _ _=>zK) (fun _ _ _ _ _=>(mQ (qQ (cv 0) (d7 (cf (T.F 20 rfl) qY O (d7 (cv 1))))))))))
  (xQ (gn 8 S.nd (cf (T.F 30 rfl) jV O (qQ (cv 0) (qQ (cv 6) (qQ (mQ oX) (d7 (cx (pX (qQ zQ (d7 zQ))) (bK wM yN rfl T.Ql rfl (d7 (gB vK cZ (qb T.oJ (cv 1)) zQ (rG _)))))))))))
  (xQ (gn 9 S.nd (cf (T.F 19 rfl) zJ O (qQ (cv 0) (d7 (cf (T.F 18 rfl) bQ O (qQ (cv 0) (d7 zQ)))))))
  (xQ (gn 10 S.nd (p7 T.hX (uB rfl (S.c (by decide +kernel)) (S.k rfl rfl rfl (by decide +kernel)) (cv 9) (fun _ _ _ _ _=>zK) (fun _ _ _ _ _=>(mQ (qQ (cv 0) (d7 (cf (T.F 22 rfl) eJ O (qQ (cv 1) (qQ (cv 7) (qQ (mQ oX) (d7 zQ))))))))))))
  (kQ (fQ (mQ (qQ (cx (cv 1) (cv 2)) (qQ (cv 7) (qQ (cv 10) (d7 (cv 8)))))))))))))))))) ?_
 rintro ts C R ⟨t,ae,ns,I,k,aq,rfl,hT,mn,ag,dg,bh,c7⟩;refine yQ ⟨by decide,fun p1 az=>?_⟩;refine⟨t,6,ns,rfl,hT.new az _,by decide,by decide,fun v C1 a6 bz T1 e1=>?_⟩;have b9:Ex t C C1:=(Ex.new az _).trans e1
 apply hZ (e1 p1 _ (hT.ne az) jQ) (rK (f:=PV.int) (ss:=[0,1,1,2,2,4]) 0 a6 bz)
 have bj:0<=([0,1,1,2,2,4]:List Int).getD v.toNat 0/\([0,1,1,2,2,4]:List Int).getD v.toNat 0<=4:=by
  have:v=0\/v=1\/v=2\/v=3\/v=4\/v=5:=by lia
  rcases this with rfl | rfl | rfl | rfl | rfl | rfl<;>decide
 generalize ([0,1,1,2,2,4]:List Int).getD v.toNat 0=m at bj ⊢;refine yQ ⟨t,m,ns,rfl,T1,bj.1,by lia,fun B bs C2 m2 n2 bt de nd T2 e2=>?_⟩;have ar:=b9.trans e2;have bf:bs.length<=4:=by lia
 apply yQ
 intro q ai;have T3:=T2.new ai (.dK []);have af:=T2.ne ai;refine aW (wg (Gr.new ai _ _ _ (ar _ _ ag mn)) fun F aj=>?_);have T4:=T3.new aj (.lst (aG (I.map PV.str) (some ((k:Int)+1)) none));have c5:=T3.ne aj;have a4:q≠F:=fun z=>by subst z;rw[jQ] at aj;cases aj
 have cy:C2 F=none:=by rw[wQ (Ne.symm a4)] at aj;exact aj
 have bw:B≠q:=fun z=>by rw[z,ai] at m2;cases m2
 have c2:B≠F:=fun z=>by rw[z,cy] at m2;cases m2
 rw[Xw];rw[Xw] at T4
 apply WR (ps:=iX B F 6 1 1 .non) (by rw[wQ a4];exact jQ) rfl (by show 6<=15;decide)
 rw[show tV [] (iX B F 6 1 1 .non)=iX B F 6 1 1 .non from rfl];have T5:=T4.put af (.dK (iX B F 6 1 1 .non))
 have x5:Ex t C (gQ (gQ (gQ C2 q (.dK [])) F (.lst ((I.drop (k+1)).map PV.str))) q (.dK (iX B F 6 1 1 .non))) :=
  ((ar.trans (Ex.new ai _)).trans (Ex.new aj _)).put (ar.none af ai) _
 have k5:j6 (gQ (gQ (gQ C2 q (.dK [])) F (.lst ((I.drop (k+1)).map PV.str))) q (.dK (iX B F 6 1 1 .non))) t q ⟨B,F,bs,I.drop (k+1),6,1,1,none⟩:=by
  refine⟨jQ,?_,?_,af,bt,c5,bf,?_⟩
  .rw [wQ bw,wQ c2,wQ bw];exact m2
  .rw [wQ (Ne.symm a4)];exact jQ
  .rw [BE];lia
 have ao:C q=none:=ar.none af ai;generalize gQ (gQ (gQ C2 q (.dK [])) F (.lst ((I.drop (k+1)).map PV.str))) q (.dK (iX B F 6 1 1 .non))=C5 at T5 x5 k5 ⊢;refine vX (fun ah C'=>∃p:Int,1<=p/\p<=2/\ah=[some (.ref t),some (.ref ae),some (.int (k:Nat)),some (.bl aq),some (.int m),some (.ref B),some (.ref q),none,none,none,none]/\Tp C' t ns/\Ex t C C'/\j6 C' t q ⟨B,F,bs,I.drop (k+1),6,p,1,none⟩) (fun L hL=>?_) ?_
 .have b0:∀L':jm->CH->Prop,L'=L->XS (.ref q) (.str "parts") (.int 2) C5 fun C4=>L' [some (.ref t),some (.ref ae),some (.int (k:Nat)),some (.bl aq),some (.int m),some (.ref B),some (.ref q),none,none,none,none] C4:=by
   rintro L' rfl
   apply nY k5.at_ rfl (by show 6<=1000;decide)
   exact hL _ _ ⟨2,by decide,by decide,rfl,T5.put af _,x5.put ao _,k5.put 6 2 1 none⟩
  refine vG (x5 _ _ ag mn) (jw (bZ (fun hb=>?_) fun hb=>?_))
  .exact Eo rfl (b0 _ rfl)
  .refine VB (fun Y=>?_) fun Y=>?_
   .refine mX (eX _ _) (bZ (fun cp=>?_) fun cp=>?_)
    .exact b0 _ rfl
    .exact dX (hL _ _ ⟨1,by decide,by decide,rfl,T5,x5,k5⟩)
   .exact uD rfl (dX (hL _ _ ⟨1,by decide,by decide,rfl,T5,x5,k5⟩))
 clear k5 T5 x5;rintro ah C6 ⟨p,p0,p1,rfl,T6,x6,k6⟩;have dc:∀κ:Kt,su κ<=16:=fun κ=>by delta su;split<;>decide
 refine vX (fun ah C'=>∃κ:Kt,KS κ B F bs (I.drop (k+1)) k/\ah=[some (.ref t),some (.ref ae),some (.int (k:Nat)),some (.bl aq),some (.int m),some (.ref B),some (.ref q),none,none,none,none]/\Tp C' t ns/\Ex t C C'/\j6 C' t q κ) (fun L hL=>?_) ?_
 .refine VB (fun hb=>?_) fun hb=>?_
  .refine jZ (mX (eX _ _) (Ka (nY k6.at_ rfl (by show 6<=1000;decide) ?_)))
   rw[kC]
   try dsimp only
   have ct:∃e:Int,(if id (decide ((k:Int)=0))=true then (1:Int) else 0)=e/\((k=0/\e=1)\/(0 < k/\e=0)):=by
    by_cases ak:k=0
    .refine ⟨1,?_,.inl ⟨ak,rfl⟩⟩
     rw[Ah (by exact Am (by lia))]
    .refine ⟨0,?_,.inr ⟨by lia,rfl⟩⟩
     rw[Af (by rw[AU (by lia)];decide)]
   obtain⟨e,ee,df⟩:=ct;rw[ee];have k7:=k6.put 6 p e none;have T7:=T6.put af (.dK (iX B F 6 p e (zB none)));have x7:=x6.put ao (.dK (iX B F 6 p e (zB none)));have e7:(CO.dK (iX B F 6 p e .non))=.dK (iX B F 6 p e (zB none)):=rfl;generalize gQ C6 q (CO.dK (iX B F 6 p e (zB none)))=C7 at k7 T7 x7 ⊢;refine vX (fun ah C'=>∃la:Option Str,(k=0->∀s,la=some s->s∈I.drop (k+1))/\ah=[some (.ref t),some (.ref ae),some (.int (k:Nat)),some (.bl aq),some (.int m),some (.ref B),some (.ref q),none,none,none,none]/\Tp C' t ns/\Ex t C C'/\j6 C' t q ⟨B,F,bs,I.drop (k+1),6,p,e,la⟩) (fun L1 bc=>?_) ?_
   .refine vG (x7 _ _ ag mn) (jw (bZ (fun Y=>?_) fun Y=>?_))
    .have Y:=Ag Y
     rw[AB] at Y;obtain⟨sl,cz,ck⟩:=Ue (ss:=I) (by lia);refine hZ (x7 _ _ ag mn) ck (nY k7.at_ rfl (by show 6<=1000;decide) ?_);exact bc _ _ ⟨some sl,fun ak s hs=>by cases hs;rw[ak];exact cz,rfl,T7.put af _,x7.put ao _,k7.put 6 p e (some sl)⟩
    .exact dX (bc _ _ ⟨none,(fun _ _ z=>nomatch z),rfl,T7,x7,k7⟩)
   rintro ah C8 ⟨la,cw,rfl,T8,x8,k8⟩;refine jw (bZ (fun Y=>?_) fun Y=>?_)
   .have Y:=Ag Y
    have e0:e=0:=by lia
    subst e0
    apply nY k8.at_ rfl (by show 6<=1000;decide)
    refine hL _ _ ⟨⟨B,F,bs,I.drop (k+1),6,1,0,la⟩,⟨rfl,rfl,rfl,rfl,rfl,BA _,(by show(1:Int)<=2;decide),BA _,(by show(0:Int)<=1;decide),fun z=>absurd (show(0:Int) < 0 from z) (by decide),?_⟩,rfl,T8.put af _,x8.put ao _,k8.put 6 1 0 la⟩;show(1:Int)+su _ * 0<=_;rw[Int.mul_zero]
    delta tK
    split<;>decide
   .apply dX
    have Y:=Bc Y;have ak:k=0:=by lia
    have e1:e=1:=by lia
    subst e1;refine hL _ _ ⟨⟨B,F,bs,I.drop (k+1),6,p,1,la⟩,⟨rfl,rfl,rfl,rfl,rfl,p0,p1,(by show(0:Int)<=1;decide),BA _,fun _=>cw ak,?_⟩,rfl,T8,x8,k8⟩;show p+su _ * 1<=_;rw[Int.mul_one];have:=dc ⟨B,F,bs,I.drop (k+1),6,p,1,la⟩
    delta tK
    rw[Ah ak]
    lia
  .refine dX (hL _ _ ⟨⟨B,F,bs,I.drop (k+1),6,p,1,none⟩,⟨rfl,rfl,rfl,rfl,rfl,p0,p1,(by show(0:Int)<=1;decide),BA _,(fun _ _ z=>nomatch z),?_⟩,rfl,T6,x6,k6⟩)
   show p+0 * 1<=_
   delta tK
   split<;>lia
 clear k6 T6 x6;rintro ah C7 ⟨κ,U,rfl,T7,x7,k7⟩;have bu:C7 B=some (.lst (bs.map PV.str)):=by have:=k7.bx;rw[U.b,U.bs] at this;exact this
 refine yQ (Fp bu rfl (iG (β:=Int) oQ (fun i:Int=>-1000000000<=i/\i<=1000000000) (fun C'=>Tp C' t ns/\Ex t C7 C') (fun C' h=>h.2 _ _ bt bu) (by lia) (fun z C8 L ⟨T8,e8⟩ hL=>?_) (fun fs C8 p8 ⟨T8,e8⟩ bp bg cu=>?_) ⟨T7,Ex.refl⟩))
 .exact ⟨t,ns,rfl,T8,fun i C9 i0 i1 T9 e9=>⟨y0 2 rfl,hL i C9 ⟨i0,i1⟩ ⟨T9,e8.trans e9⟩⟩⟩
 apply vJ jQ
 have T9:=T8.new bp (.lst (fs.map oQ));have e9:Ex t C7 (gQ C8 p8 (.lst (fs.map oQ))):=e8.trans (Ex.new bp _);generalize gQ C8 p8 (.lst (fs.map oQ))=C9 at T9 e9 ⊢;have k9:=k7.ex e9;have x9:Ex t C C9:=x7.trans e9;have bx:HS κ 1 []:=⟨by rw[U.l];decide,by rw[U.l];decide,by have:=U.p0;lia,U.p1,U.e0,U.e1,fun _=>rfl,U.ly,AW _⟩;refine yQ ⟨y0 0 rfl,?_⟩;refine⟨y0 2 rfl,fun a5 a0=>?_⟩
 have a9:=T9.new a0 (.lst [PV.int 3,PV.int 1]);have bq:=k9.ex (Ex.new a0 (.lst [PV.int 3,PV.int 1]));have a7:Ex t C (gQ C9 a5 (.lst [PV.int 3,PV.int 1])):=x9.trans (Ex.new a0 _);refine vG (a7 _ _ ag mn) (jw (Ka ?_))
 have cn:∀(G:List Ln)(J:Kt)(C':CH),(∀x∈G,iu κ.bs κ.rs 6 [] x)->G.length<=6->my 1 [] κ J 0 (Ln.iw G) (Ln.ji G)->nj κ J->Tp C' t ns->j6 C' t q J->gm [t,q] (gQ C9 a5 (.lst [PV.int 3,PV.int 1])) C'->∀(x:Pt),x.name=I[k]->x.first=fs->x.ls=G->jT bs [] 1 x.works->x.works.length<=4->∀ab,Tp ab t ns->Ex t C' ab->R x.pv ab:=by
  intro G J C' h1 h2 h3 Z T' k' x' x xn xf xl xw da ab b3 b7;refine c7 x ab (by rw[AM bh,xn]) ?_ b3 ?_
  .have ay:x.first.map (·.1)=bs:=by rw[xf];exact bg
   refine⟨by rw[xf,<- AB (f:=(·.1)),bg];exact bf,by rw[ay];exact xw,da,?_,by rw[xl];exact h2,?_,?_,by rw[xf];exact cu,fun c hc=>nd.2 c.1 (by rw[<- ay];exact AX.2 ⟨c,hc,rfl⟩)⟩
   .rw [xl,ay]
    intro l hl;have:=h1 l hl;rw[U.bs,U.rs] at this;exact this
   .rw [xl]
    have:=h3.t;have l0:=Z.l0;have kl:=U.l;have this:(Ln.iw G:Int)<=8 * (0+(κ.l - J.l)):=this
    lia
   .rw [xl]
    have g:=h3.p;have c:=U.cap;have e0:=Z.e0;have e1:=Z.e1;have q0:=Z.p0;have z:su κ=0\/su κ=16:=by delta su;split;exact .inr rfl;exact .inl rfl
    rcases z with z | z<;>rw[z] at g c<;>lia
  .intro b o a3 hb
   have nk:b≠q:=fun z=>by rw[z,ao] at hb;cases hb
   exact b7 b o a3 (x' b o (fun z=>by
    rcases AZ.1 z with z | z
    .exact a3 z
    .exact nk (AF.1 z)) (a7 b o a3 hb))
 have rest:∀(G:List Ln)(J:Kt)(C':CH),(∀x∈G,iu κ.bs κ.rs 6 [] x)->G.length<=6->my 1 [] κ J 0 (Ln.iw G) (Ln.ji G)->nj κ J->Tp C' t ns->j6 C' t q J->gm [t,q] (gQ C9 a5 (.lst [PV.int 3,PV.int 1])) C' ->
   Gc [.ref t,.int 3] C' fun v C1=>Z0 [.ref t,v] C1 fun c8 C2=>mP (zV 9) rH (Hc (fG (zV 0) (fG (tR (Xn 1) (fG (zV 1) (fG (zV 7) (fG (Hc oI) (fG (cC (.int 1)) oI))))) oI))) [some (.ref t),some (.ref ae),some (.int (k:Nat)),some (.bl aq),some (.int m),some (.ref B),some (.ref q),some (.tup (fs.map oQ)),some (.tup (Ln.f9 G)),some c8,none] C2 fun c0 C3=>bP [c0] C3 fun c9 C4=>ut (.ref ae) (.int (k:Nat)) C4 fun c3 C5=>4<=sizeLine/\R (.tup [c3,.tup (fs.map oQ),c9,.tup (Ln.f9 G)]) C5:=by
  intro G J C' h1 h2 h3 Z T' k' x';refine⟨t,3,ns,rfl,T',by decide,by decide,fun v dd a6 bz b4 cb=>?_⟩;refine⟨t,v,ns,rfl,b4,a6,by lia,fun dj dk b1 br di wt dh nd b5 cg=>?_⟩
  apply Fp br rfl
  have bb:=cb.trans cg;refine iG (β:=Rk) nU (fun r=>r.ok bs [] 1) (fun ab=>Tp ab t ns/\Ex t b1 ab) (fun ab h=>h.2 _ _ wt br) (by lia) (fun z a8 L ⟨av,au⟩ hL=>?_) (fun aw a8 c6 ⟨av,au⟩ bo hb ho=>?_) ⟨b5,Ex.refl⟩
  .refine ⟨y0 0 rfl,?_⟩
   refine⟨t,q,[],ns,J,rfl,av,k'.ex (bb.trans au),AW _,fun r b2 O b6 cj=>⟨y0 2 rfl,hL r b2 ?_ ⟨b6,au.trans cj⟩⟩⟩;rw[Z.bs,U.bs] at O;exact O
  .apply vJ jQ
   have ba:Ex t C' (gQ a8 c6 (.lst (aw.map nU))):=(bb.trans au).trans (Ex.new bo _);have c4:ae≠q:=fun z=>by rw[z,ao] at mn;cases mn
   have c1:C' ae=some (.lst (I.map PV.str)):=x' ae _ (fun z=>by
    rcases AZ.1 z with z | z
    .exact ag z
    .exact c4 (AF.1 z)) (a7 _ _ ag mn)
   refine hZ (ba _ _ ag c1) (Jl bh) ⟨by decide,?_⟩;exact cn G J C' h1 h2 h3 Z T' k' x' ⟨I[k],fs,aw,G⟩ rfl rfl rfl (fun c hc=>⟨ho c hc,Ri (nd.2 c.1 (by rw[<- hb];exact AX.2 ⟨c,hc,rfl⟩))⟩) (by show aw.length<=4;have:=A8 List.length hb;rw[AB] at this;lia) _ (av.new bo _) ba
 have cq:atI [PV.int 3,PV.int 1] (if decide ((((I.map PV.str).length:Nat):Int) > 3)=true then (1:Int) else 0)=some (.int 3)\/atI [PV.int 3,PV.int 1] (if decide ((((I.map PV.str).length:Nat):Int) > 3)=true then (1:Int) else 0)=some (.int 1):=by
  cases decide ((((I.map PV.str).length:Nat):Int) > 3) with
  |false=>exact .inl rfl
  |true=>exact .inr rfl
 rcases cq with ax | ax
 .exact hZ jQ ax (.inl ⟨t,q,[],ns,κ,rfl,a9,bq,bx,fun G J C' h1 h2 h3 Z T' k' x'=>rest G J C' (fun x hx=>(h1 x hx).mono (by decide)) h2 h3 Z T' k' x'⟩)
 .exact hZ jQ ax (.inr ⟨t,q,[],ns,κ,rfl,a9,bq,bx,fun G J C' h1 h2 h3 Z T' k' x'=>rest G J C' (fun x hx=>(h1 x hx).mono (by decide)) h2 h3 Z T' k' x'⟩)
end
noncomputable def uJ(q:List Pt):List Str:=q.map (·.name)
structure pF(pts:List Pt):Prop where
 n1:1<=pts.length
 n6:pts.length<=6
 nd:(uJ pts).Nodup
 nn:∀s∈uJ pts,s.length<=8
 ok:∀k x,pts[k]?=some x->q8 ((uJ pts).drop (k+1)) (tK k) x
def cM(h:z::zs=((List.range N).drop j).map (fun k:Nat=>PV.int (k:Nat))):j < N/\z=.int j/\zs=((List.range N).drop (j+1)).map (fun k:Nat=>PV.int (k:Nat)) :=by grind[List.drop_of_length_le,List.drop_eq_getElem_cons,List.map_cons,List.getElem_range,List.length_range]
section
variable {W:Wd}{a:Adr}
inductive Y8(ts:List PV)(C:CH)(Q:K1):Prop
 |mk(t:Addr)(ns:List Int)(z0:ts=[.ref t])(z1:Tp C t ns)(z2:∀(pts:List Pt)(C':CH),pF pts->Tp C' t ns->Ex t C C'->Q (.tup (pts.map Pt.pv)) C')
def Yk(T:Tx W a):Ok W a 26 32 Tv Y8:=by
 have S:=(T.F 32 rfl).s;have bQ:=(mZ T).mono (show 1<=25 by decide);have zJ:=(eU T).mono (show 2<=25 by decide);have Uq:=zr T
 refine(T.F 32 rfl).o (fun I=>(xQ (gn 1 S.nd (cf (T.F 19 rfl) zJ I (qQ (cv 0) (d7 (cx (pX (qQ zQ (qQ zQ (qQ zQ (qQ zQ (qQ zQ (qQ zQ (qQ zQ (d7 zQ))))))))) (cf (T.F 18 rfl) bQ I (qQ (cv 0) (d7 zQ))))))))
  (xQ (gn 2 S.nd (gB lX jX (cf (T.F 18 rfl) bQ I (qQ (cv 0) (d7 zQ))) zQ (rG _)))
  (kQ (fQ (p7 T.hX (zW rfl (S.c (by decide +kernel)) (S.k rfl rfl rfl (by decide +kernel)) (lR rfl T.xV (d7 (qb T.oJ (cv 1)))) (fun _ _ _ _ _=>zK) (fun _ _ _ _ _=>(cf (T.F 31 rfl) Uq I (qQ (cv 1) (qQ (cv 2) (qQ (cv 0) (d7 (cv 3)))))))))))))) ?_
 rintro ts C R ⟨t,ns,rfl,hT,ak⟩;refine yQ ⟨by decide,fun p1 Y=>?_⟩;refine⟨t,8,ns,rfl,hT.new Y _,by decide,by decide,fun v C1 ao aq T1 e1=>?_⟩
 apply hZ (e1 p1 _ (hT.ne Y) jQ) (rK (ss:=[1,2,2,3,3,4,2,6]) 0 ao aq)
 have ag:1<=([1,2,2,3,3,4,2,6]:List Int).getD v.toNat 0/\([1,2,2,3,3,4,2,6]:List Int).getD v.toNat 0<=6:=by
  have:v=0\/v=1\/v=2\/v=3\/v=4\/v=5\/v=6\/v=7:=by lia
  rcases this with rfl | rfl | rfl | rfl | rfl | rfl | rfl | rfl<;>decide
 generalize ([1,2,2,3,3,4,2,6]:List Int).getD v.toNat 0=m at ag ⊢;refine⟨t,m,ns,rfl,T1,by lia,by lia,fun ai B C2 m2 n2 ae ar nd T2 e2=>?_⟩;refine yQ ⟨t,2,ns,rfl,T2,by decide,by decide,fun z C3 z0 z1 T3 e3=>?_⟩
 apply mX (eX _ _)
 have m3:=e3 _ _ ae m2
 apply vG m3
 rw[AB];refine⟨by lia,by lia,?_⟩;rw[Co];refine wW (fun zs acc C'=>Tp C' t ns/\Ex t C3 C'/\∃q:List Pt,acc=q.map Pt.pv/\zs=((List.range B.length).drop q.length).map (fun k:Nat=>PV.int (k:Nat))/\q.length<=B.length/\uJ q=B.take q.length/\∀k x,q[k]?=some x->q8 (B.drop (k+1)) (tK k) x) ?_ ?_ _ _ _ ⟨T3,Ex.refl,[],rfl,rfl,AW _,rfl,(fun k x h=>by simp at h)⟩
 .rintro x r acc C4 ⟨O,G,q,rfl,J,ah,Z,ab⟩ L hL
  obtain⟨hj,rfl,rfl⟩:=cM J;refine⟨t,ai,ns,B,q.length,_,rfl,O,G _ _ ae m3,ae,by lia,hj,fun x C5 hx aj T5 e5=>hL _ _ ⟨?_,T5,G.trans e5,q++[x],by rw[AS];rfl,by rw[AE,AO],by rw[AE,AO];lia,?_,fun k y F=>?_⟩⟩
  .rw [AB]
   exact AK (show q.length < 7 by lia) (by decide)
  .rw [AE,AO,DQ,<- Z,hx]
   delta uJ
   rw[AS]
   rfl
  .rcases Nat.lt_trichotomy k q.length with h | h | h
   .rw [CY h] at F
    exact ab k y F
   .subst h
    rw[DJ (AI _),Nat.sub_self] at F;cases F;exact aj
   .rw [B7 (by rw[AE,AO];lia)] at F
    cases F
 .rintro acc C4 ⟨O,G,q,rfl,J,ah,Z,ab⟩ p hp
  have af:q.length=B.length:=by
   rcases DE q.length B.length with h | h
   .rw [Ap (by rwa [Ak])] at J
    cases J
   .lia
  apply vJ jQ
  have U:uJ q=B:=by rw[Z,af,BK (AI _)]
  exact ak q _ ⟨by lia,by lia,by rw[U];exact nd.1,fun s hs=>Ri (nd.2 s (by rwa [U] at hs)),fun k x hk=>U▸ab k x hk⟩ (O.new hp _) ((((((Ex.new Y _).trans e1).trans e2).trans e3).trans G).trans (Ex.new hp _))
end
abbrev iy:=List (List Key×PV)
abbrev jx:=List (Key×PV)
abbrev qK(s n:Str):List Key:=[.inr s,.inr n]
def Bd(i:Int):Prop:=-1000000000<=i/\i<=1000000000
def uo(A:iy):Prop:=∀q∈A,∃i,q.2=.int i/\Bd i
def Ow(τ:jx):Prop:=∀q∈τ,∃i,q.2=.int i/\Bd i
noncomputable def V2(A:iy)(s n:Str):Int:=match zZ A (qK s n) with
 |some (.int i)=>i
 |_=>0
noncomputable def Jz(τ:jx)(n:Str):Int:=match kJ τ (.inr n) with
 |some (.int i)=>i
 |_=>0
def TQ(τ:jx)(ns:List Str):Prop:=∀n∈ns,(kJ τ (.inr n)).isSome=true
noncomputable def Z6(i:Int):Int:=if (if i < 1000000000 then i else 1000000000) > -1000000000 then (if i < 1000000000 then i else 1000000000) else -1000000000
noncomputable def Rk.val(A:iy)(τ:jx):Rk->Int
 |.num i=>i
 |.turn n=>Jz τ n
 |.ask s n=>V2 A s n
 |.bin w x y=>if w = "less" then (if x.val A τ < y.val A τ then 1 else 0) else if w = "times" then Z6 (x.val A τ * y.val A τ) else Z6 (x.val A τ+y.val A τ)
 |.pick x y z=>if x.val A τ=0 then z.val A τ else y.val A τ
noncomputable def Rk.jz(A:iy)(τ:jx):Rk->iy->iy
 |.num _,R=>R
 |.turn _,R=>R
 |.ask s n,R=>ig R (qK s n) (.int (V2 A s n))
 |.bin _ x y,R=>y.jz A τ (x.jz A τ R)
 |.pick x y z,R=>if x.val A τ=0 then z.jz A τ (x.jz A τ R) else y.jz A τ (x.jz A τ R)
def EY i:Bd (Z6 i):=by delta Z6 Bd;split<;>split<;>lia
def Wq[DecidableEq κ]{k:κ}(h:zZ A k=some v):∃q∈A,q.2=v:=by
 delta zZ at h
 cases e:A.find? fun q=>decide (q.1=k) with
 |none=>rw[e] at h;cases h
 |some x=>rw[e] at h;cases h;exact⟨x,BO e,rfl⟩
def Qp{A:jx}(h:kJ A k=some v):∃q∈A,q.2=v:=by
 delta kJ at h
 cases e:A.find? fun q=>decide (q.1=k) with
 |none=>rw[e] at h;cases h
 |some x=>rw[e] at h;cases h;exact⟨x,BO e,rfl⟩
def Jn(h:uo A)s n:(zZ A (qK s n)).getD (.int 0)=.int (V2 A s n)/\Bd (V2 A s n):=by
 delta V2
 cases e:zZ A (qK s n) with
 |none=>exact⟨rfl,by delta Bd;decide⟩
 |some v =>
  obtain⟨G,F,rfl⟩:=Wq e;exact dQ (h G F) fun i B q=>B▸⟨rfl,q⟩
def Jy(h:Ow τ)(q:(kJ τ (.inr n)).isSome=true):kJ τ (.inr n)=some (.int (Jz τ n))/\Bd (Jz τ n):=by
 delta Jz
 cases e:kJ τ (.inr n) with
 |none=>rw[e] at q;cases q
 |some v =>
  obtain⟨I,G,rfl⟩:=Qp e;exact dQ (h I G) fun i F B=>F▸⟨rfl,B⟩
def tM(B:uo A)(F:Ow τ)(G:TQ τ ts):∀{d}{r:Rk},r.ok bs ts d->Bd (r.val A τ):=by
 intro d r
 induction r generalizing d with
 |num i=>intro h;unfold Rk.ok at h;exact h
 |turn n=>intro h;unfold Rk.ok at h;exact(Jy F (G n h)).2
 |ask s n=>intro h;exact(Jn B s n).2
 |bin w x y I q =>
  intro h
  cases d with
  |zero=>exact h.elim
  |succ d =>
   unfold Rk.val
   split
   .split<;>(delta Bd;decide)
   .split<;>exact EY _
 |pick x y z I q J =>
  intro h
  cases d with
  |zero=>exact h.elim
  |succ d =>
   unfold Rk.val
   split
   .exact J h.2.2
   .exact q h.2.1
structure jy(bs:List Str)(R:iy):Prop where
 nd:(R.map (·.1)).Nodup
 ks:∀k∈R.map (·.1),∃s n,k=qK s n/\bE bs s n
 vs:uo R
def Hz{κ:Type}[DecidableEq κ](R:List (κ×PV))k:(R.any fun q=>decide (q.1=k))=true↔k∈R.map (·.1) :=by grind
def aT[DecidableEq κ]R(k:κ)v:(ig R k v).map (·.1)=if k∈R.map (·.1) then R.map (·.1) else R.map (·.1)++[k]:=by
 delta ig
 by_cases h:k∈R.map (·.1)
 .rw [Ah ((Hz R k).2 h),Ah h,Bo]
  refine DC fun x _=>?_;show(if x.1=k then (x.1,v) else x).1=x.1
  split<;>rfl
 .grind
def vC[DecidableEq κ]{x:κ×PV}(h:x∈ig R k v):x.2=v\/x∈R :=by grind[ig]
theorem jy.put(h:jy bs R)(J:bE bs s n)(hi:Bd i):jy bs (ig R (qK s n) (.int i)):=by
 refine⟨?_,?_,fun I F=>?_⟩
 .rw [aT]
  split
  .exact h.nd
  .next G =>
   rw[Cn];refine⟨h.nd,by simp,fun a q b B e=>?_⟩;cases AF.1 B;exact G (e▸q)
 .rw [aT]
  intro k hk
  split at hk
  .exact h.ks k hk
  .rcases Ad.1 hk with hk | hk
   .exact h.ks k hk
   .grind
 .rcases vC F with e | e
  .grind
  .exact h.vs I e
theorem QZ{α:Type}[DecidableEq α]:∀(l m:List α),l.Nodup->(∀x∈l,x∈m)->l.length<=m.length
 |[],_,_,_=>AW _
 |x::l,m,q,hs=>by
  have B:=hs x AG;rw[A0] at q;have G:=QZ l (m.erase x) q.2 fun y F=>(List.mem_erase_of_ne (show y≠x from fun e=>q.1 (e▸F))).2 (hs y (AJ _ F));rw[List.length_erase_of_mem B] at G;have:=List.length_pos_of_mem B;rw[AQ]
  lia
noncomputable def dN(bs:List Str):List (List Key):=(["a","ab","b"]:List Str).map (qK "take")++((["a","ab","b"]:List Str).map (qK "down")++bs.map (qK "box"))
def Oj(h:bE bs s n):qK s n∈dN bs:=by
 rcases h with ⟨rfl | rfl,h⟩ | ⟨rfl,h⟩
 .exact A2 _ (AX.2 ⟨n,h,rfl⟩)
 .exact Aa _ (A2 _ (AX.2 ⟨n,h,rfl⟩))
 .exact Aa _ (Aa _ (AX.2 ⟨n,h,rfl⟩))
def jy.len(h:jy bs R):R.length<=6+bs.length:=by
 have:=QZ (R.map (·.1)) (dN bs) h.nd fun k hk=>by
  obtain⟨s,n,rfl,q⟩:=h.ks k hk;exact Oj q
 rw[AB] at this
 have e:(dN bs).length=6+bs.length:=by
  delta dN
  rw[AE,AE,AB,AB,AB];show 3+(3+_)=_
  lia
 lia
def X0(A:iy)(bs:List Str)(P:iy->Prop):Prop:=∀R s n,bE bs s n->P R->P (ig R (qK s n) (.int (V2 A s n)))
def wJ(q:uo A): X0 A bs (jy bs):=fun _ s n h B=>B.put h (Jn q s n).2
def sV(G:X0 A bs P):∀{d}{r:Rk}{R},r.ok bs ts d->P R->P (r.jz A τ R):=by
 intro d r
 induction r generalizing d with
 |num i=>intro R _ h;exact h
 |turn n=>intro R _ h;exact h
 |ask s n=>intro R h q;unfold Rk.ok at h;exact G _ s n h q
 |bin w x y B F =>
  intro R h q
  cases d with
  |zero=>exact h.elim
  |succ d =>
   exact F h.2.2 (B h.2.1 q)
 |pick x y z B F I =>
  intro R h q
  cases d with
  |zero=>exact h.elim
  |succ d =>
   unfold Rk.jz
   split
   .exact I h.2.2 (B h.1 q)
   .exact F h.2.1 (B h.1 q)
structure Env(C:CH)(aa tt rr:Addr)(A:iy)(τ:jx)(R:iy):Prop where
 ha:C aa=some (.dT A)
 ht:C tt=some (.dK τ)
 hr:C rr=some (.dT R)
 ne:aa≠rr
def Env.nt(h:Env C aa tt rr A τ R):tt≠rr:=fun z=>by have:=h.ht;rw[z,h.hr] at this;cases this
def Env.ex{q:iy}(h:Env C aa tt rr A τ R)(e:gm [rr] C C')(B:C' rr=some (.dT q)):Env C' aa tt rr A τ q :=
 ⟨e _ _ (fun z=>h.ne (AF.1 z)) h.ha,e _ _ (fun z=>h.nt (AF.1 z)) h.ht,B,h.ne⟩
def eK[DecidableEq κ]x l(k:κ):zZ (x::l) k=if x.1=k then some x.2 else zZ l k :=by grind[zZ,decide_eq_true,decide_eq_false]
def eN[DecidableEq κ]R k v(B:κ):zZ (ig R k v) B=if B=k then some v else zZ R B:=by
 delta ig
 by_cases b:(R.any fun q=>decide (q.1=k))=true
 .rw [Ah b]
  induction R with
  |nil=>cases b
  |cons x l I =>
   rw[A4,eK,eK];have J:(if x.1=k then (x.1,v) else x).1=x.1:=by split<;>rfl
   rw[J]
   by_cases e:x.1=B
   .lia
   .rw [Af e,Af e]
    by_cases G:(l.any fun q=>decide (q.1=k))=true
    .exact I G
    .have:(l.map fun q=>if q.1=k then (q.1,v) else q)=l:=(DC fun y F=>Af ((fun y F z=>G (List.any_eq_true.2 ⟨y,F,Am z⟩)) y F)).trans (List.map_id l)
     rw[this];have L:x.1=k :=by grind
     rw[Af (fun z=>e (L.trans z.symm))]
 .rw [Af b]
  induction R with
  |nil =>
   rw[Bi,eK]
   by_cases e:k=B
   .lia
   .lia
  |cons x l I =>
   rw[BJ] at b;rw[Ba,eK,eK]
   by_cases O:x.1=B
   .lia
   .lia
structure yU(A:iy)(τ:jx)(bs ns:List Str):Prop where
 a:uo A
 t:Ow τ
 h:TQ τ ns
 b:bs.length<=4
section
variable {W:Wd}{a:Adr}
inductive gCut(ts:List PV)(C:CH)(Q:K1):Prop
 |mk(i:Int)(z0:ts=[.int i])(z1:Q (.int (Z6 i)) C)
def MK(T:Tx W a):Ok W a 1 4 ["number"] gCut:=by
 refine(T.F 4 rfl).o (fun B=>(kQ (fQ (vZ (VR rfl) FW rfl T.z_max rfl (qQ (oM lY uV (wN (v:=.int 1000000000) rfl T.Gd ⟨_,rfl⟩ (fun _=>.int _))) (d7 (vZ (gP rfl) fI rfl T.Wh rfl (qQ (wN (v:=.int 1000000000) rfl T.Gd ⟨_,rfl⟩ (fun _=>.int _)) (d7 (cv 0)))))))))) ?_;rintro ts C R ⟨i,rfl,q⟩;exact Yv (Rj q)
noncomputable def Iu(w:Str)(i j:Int):Int:=if w = "less" then (if i < j then 1 else 0) else if w = "times" then Z6 (i * j) else Z6 (i+j)
inductive RN(ts:List PV)(C:CH)(Q:K1):Prop
 |mk(w:Str)(i j:Int)(z0:ts=[.str w,.int i,.int j])(z1:(w = "add"\/w = "times"\/w = "less"))(z2:Bd i)(z3:Bd j)(z4:Q (.int (Iu w i j)) C)
def Vg(T:Tx W a):Ok W a 2 6 ["word","first","second"] RN:=by
 have F:=MK T
 refine(T.F 6 rfl).o (fun G=>(xQ (uX (ct2 lX jX (cv 0) vQ) (kQ (fQ (cf (T.F 4 rfl) F G (d7 (nQ iQ qX (cv 1) (cv 2)))))) eQ)
  (xQ (uX (ct2 lX jX (cv 0) vQ) (kQ (fQ (cf (T.F 4 rfl) F G (d7 (nQ lL xM (cv 1) (cv 2)))))) eQ)
  (kQ (fQ (xE (ct2 qH wB (cv 1) (cv 2)) zQ zQ)))))) ?_
 rintro ts C R ⟨w,i,j,rfl,L,I,J,q⟩
 delta Iu at q
 apply mX (cQ _ _)
 rcases L with rfl | rfl | rfl
 .exact pW rfl (aW ⟨_,rfl,q⟩)
 .refine yJ rfl (dX (mX (cQ _ _) (pW rfl ?_)))
  delta Bd at I J
  refine⟨.inr ⟨by omega,by omega⟩,?_⟩;exact⟨_,rfl,q⟩
 .refine yJ rfl (dX (mX (cQ _ _) (yJ rfl (dX (jw (bZ (fun B=>?_) fun B=>?_))))))
  .rwa [Ah (Ag B)] at q
  .rwa [Af (Bc B)] at q
inductive Oz(d:Nat)(ts:List PV)(C:CH)(Q:K1):Prop
 |mk(r:Rk)(aa tt rr:Addr)(A:iy)(τ:jx)(R:iy)(bs ns:List Str)(z0:ts=[r.pv,.ref aa,.ref tt,.ref rr])(z1:r.ok bs ns d)(z2:Env C aa tt rr A τ R)(z3:yU A τ bs ns)(z4:jy bs R)(z5:∀C',C' rr=some (.dT (r.jz A τ R))->gm [rr] C C'->Q (.int (r.val A τ)) C')
def bA(T:Tx W a)(d:Nat):Ok W a (d+3) 5 ["reckoning","answers","turns","asked"] (Oz d):=by
 have ag:∀n,(∀d',n=d'+1->Ok W a (d'+3) 5 ["reckoning","answers","turns","asked"] (Oz d'))->Ok W a (n+3) 5 ["reckoning","answers","turns","asked"] (Oz n):=by
  intro n ih;have S:=(T.F 5 rfl).s;have Ut:=(Vg T).mono (show 2<=n+2 by lia)
  have nV:Ok W a (n+2) 5 ["reckoning","answers","turns","asked"] (fun ts C Q=>∃d',n=d'+1/\Oz d' ts C Q):=by
   cases n with
   |zero=>exact cK fun ts C Q zz=>dQ zz fun d' e _=> by lia
   |succ d' =>
    have:=ih d' rfl
    have e:(fun ts C Q=>∃ab,d'+1=ab+1/\Oz ab ts C Q)=Oz d':=by
     funext ts C Q
     refine propext ⟨fun zz=>dQ zz fun ab e h=> ?_,fun h=>⟨d',rfl,h⟩⟩;cases BC e;exact h
    rw[e];exact this
  refine(T.F 5 rfl).o (fun I=>(xQ (gn 4 S.nd (cx (cv 0) zQ))
  (xQ (uX (ct2 lX jX (cv 4) vQ) (kQ (fQ (cx (cv 0) zQ))) eQ)
  (xQ (uX (ct2 lX jX (cv 4) vQ) (kQ (fQ (lZ (qZ I) (cv 2) (cx (cv 0) zQ) (fun _ _=>rfl)))) eQ)
  (xQ (uX (Z7 Vd Ff (cv 4) (wN (v:=.ref a.ASKING) (t:=.kt [.str "take",.str "box",.str "down"]) rfl T.gASKING rfl (fun H=>.kt (T.qASKING H) (.cons (.str _) (.cons (.str _) (.cons (.str _) .nil))))) rfl) (xQ (gn 5 S.nd (mQ (qQ (cv 4) (d7 (cx (cv 0) zQ)))))
  (xQ (Kp (qZ I) (cv 3) (cv 5) (GO (qZ I) (cv 1) (cv 5) zQ))
  (kQ (fQ (N7 (qZ I) (cv 3) (cv 5) (fun _ _=>rfl)))))) eQ)
  (xQ (gn 6 S.nd (cf (T.F 5 rfl) nV I (qQ (cx (cv 0) zQ) (qQ (cv 1) (qQ (cv 2) (d7 (cv 3)))))))
  (xQ (uX (ct2 lX jX (cv 4) vQ) (xQ (gn 7 S.nd (xE (ct2 lX jX (cv 6) zQ) (cx (cv 0) zQ) (cx (cv 0) zQ)))
  (kQ (fQ (cf (T.F 5 rfl) nV I (qQ (cv 7) (qQ (cv 1) (qQ (cv 2) (d7 (cv 3))))))))) eQ)
  (xQ (gn 8 S.nd (cf (T.F 5 rfl) nV I (qQ (cx (cv 0) zQ) (qQ (cv 1) (qQ (cv 2) (d7 (cv 3)))))))
  (kQ (fQ (cf (T.F 6 rfl) Ut I (qQ (cv 4) (qQ (cv 6) (d7 (cv 8))))))))))))))) ?_
  rintro ts C Q ⟨r,aa,tt,rr,A,τ,R,bs,ns,rfl,F,G,B,O,q⟩
  apply yQ
  cases r with
  |num i =>
   refine tX wX (mX (cQ _ _) (pW (by decide) ?_));exact tX (v:=.int i) rfl (q C G.hr gm.refl)
  |turn m =>
   unfold Rk.ok at F;refine tX wX (mX (cQ _ _) (yJ (by decide) ?_));refine dX (mX (cQ _ _) (pW (by decide) ?_));exact tX (v:=.str m) rfl (gK G.ht rfl (Jy B.t (B.h m F)).1 (q C G.hr gm.refl))
  |ask s m =>
   unfold Rk.ok at F;refine tX wX (mX (cQ _ _) ?_)
   have hs:s = "take"\/s = "down"\/s = "box":=by
    rcases F with ⟨h | h,_⟩ | ⟨h,_⟩
    .exact .inl h
    .exact .inr (.inl h)
    .exact .inr (.inr h)
   have ae:decide (s = "num")=false:=by rcases hs with rfl | rfl | rfl<;>decide
   have af:decide (s = "turn")=false:=by rcases hs with rfl | rfl | rfl<;>decide
   apply yJ (by rw[ae];rfl)
   refine dX (mX (cQ _ _) (yJ (by rw[af];rfl) ?_));refine dX (YT (ts:=[.str "take",.str "box",.str "down"]) (w:=.str s) (vs:=[.str "take",.str "box",.str "down"]) rfl rfl rfl (pW (by rcases hs with rfl | rfl | rfl<;>rfl) ?_));refine yQ (tX (v:=.str m) rfl ⟨y0 2 rfl,?_⟩);refine jZ ⟨Nj G.ha,Ls (k:=qK s m) G.ha rfl (Jn B.a s m).1 ?_⟩;have hb:=B.b
   apply Wu (k:=qK s m) G.hr rfl (by have:=O.len;lia)
   apply Pj (k:=qK s m) jQ rfl (by rw[eN,Ah rfl])
   exact q _ jQ (gm.refl.at (by simp) _)
  |bin w x y =>
   cases n with
   |zero=>delta Rk.ok at F;exact F.elim
   |succ d' =>
   unfold Rk.ok at F;obtain⟨U,ox,oy⟩:=F;have ae:decide (w = "num")=false:=by rcases U with rfl | rfl | rfl<;>decide
   have af:decide (w = "turn")=false:=by rcases U with rfl | rfl | rfl<;>decide
   refine tX wX (mX (cQ _ _) (yJ (by rw[ae];rfl) ?_));refine dX (mX (cQ _ _) (yJ (by rw[af];rfl) ?_));refine dX (YT (ts:=[.str "take",.str "box",.str "down"]) (w:=.str w) (vs:=[.str "take",.str "box",.str "down"]) rfl rfl rfl (yJ (by rcases U with rfl | rfl | rfl<;>rfl) ?_))
   apply dX
   try dsimp only
   refine yQ (tX (v:=x.pv) rfl ⟨d',rfl,x,aa,tt,rr,A,τ,R,bs,ns,rfl,ox,G,B,O,fun C1 m1 J=>?_⟩);have Z:=G.ex J m1;have R1:=sV (τ:=τ) (wJ B.a) ox O;refine mX (cQ _ _) (yJ (by rcases U with rfl | rfl | rfl<;>decide) ?_)
   apply dX
   try dsimp only
   refine yQ (tX (v:=y.pv) rfl ⟨d',rfl,y,aa,tt,rr,A,τ,_,bs,ns,rfl,oy,Z,B,R1,fun C2 Y L=>?_⟩);have bx:=tM B.a B.t B.h ox;have ah:=tM B.a B.t B.h oy
   exact⟨w,_,_,rfl,U,bx,ah,q C2 Y (J.trans L)⟩
  |pick x y z =>
   cases n with
   |zero=>delta Rk.ok at F;exact F.elim
   |succ d' =>
   unfold Rk.ok at F;obtain⟨ox,oy,oz⟩:=F;refine tX wX (mX (cQ _ _) (yJ (by decide) ?_))
   apply dX
   refine mX (cQ _ _) (yJ (by decide) ?_)
   apply dX
   refine YT (ts:=[.str "take",.str "box",.str "down"]) (w:=.str "pick") (vs:=[.str "take",.str "box",.str "down"]) rfl rfl rfl (yJ rfl (dX ?_))
   try dsimp only
   refine yQ (tX (v:=x.pv) rfl ⟨d',rfl,x,aa,tt,rr,A,τ,R,bs,ns,rfl,ox,G,B,O,fun C1 m1 J=>?_⟩);have Z:=G.ex J m1;have R1:=sV (τ:=τ) (wJ B.a) ox O;refine mX (cQ _ _) (pW (by decide) ?_);refine yQ (mX (eX _ _) ?_)
   by_cases h0:x.val A τ=0
   .refine pW (Am h0) (tX (v:=z.pv) rfl ⟨d',rfl,z,aa,tt,rr,A,τ,_,bs,ns,rfl,oz,Z,B,R1,fun C2 Y L=>?_⟩)
    have:=q C2 (by unfold Rk.jz;rw[Ah h0];exact Y) (J.trans L);unfold Rk.val at this;rw[Ah h0] at this;exact this
   .refine yJ (AU h0) (tX (v:=y.pv) rfl ⟨d',rfl,y,aa,tt,rr,A,τ,_,bs,ns,rfl,oy,Z,B,R1,fun C2 Y L=>?_⟩)
    have:=q C2 (by unfold Rk.jz;rw[Af h0];exact Y) (J.trans L);unfold Rk.val at this;rw[Af h0] at this;exact this
 induction d with
 |zero=>exact ag 0 fun d' e=>by lia
 |succ d ih=>exact ag (d+1) fun d' e=>by cases BC e;exact ih
end
structure o5 where
 ev:Str
 rank:Int
 last:Bool
 ch:List (Str×Str×Int)
inductive Wt where
 |plain (sp:List Key) (tag:Str) (sets:List (Str×Int)) (hands:List o5) (row:List Wt)
 |part (sp:List Key) (name:Str) (gives:List (Str×Int))
 |give (sp:List Key) (name:Str) (num:Int) (row:List Wt)
noncomputable def GD(c:Str×Str×Int):PV:=.tup [.str c.1,.str c.2.1,.int c.2.2]
noncomputable def o5.pv(h:o5):PV:=.tup [.str h.ev,.int h.rank,.bl h.last,.tup (h.ch.map GD)]
mutual
def Wt.pv:Wt->PV
 |.plain sp q s h r=>.tup [.str "plain",cJ sp,.str q,.tup (s.map oQ),.tup (h.map o5.pv),.tup (Wt.f9 r)]
 |.part sp n g=>.tup [.str "part",cJ sp,.str n,.tup (g.map oQ)]
 |.give sp n i r=>.tup [.str "give",cJ sp,.str n,.int i,.tup (Wt.f9 r)]
def Wt.f9:List Wt->List PV
 |[]=>[]
 |w::B=>w.pv::Wt.f9 B
end
theorem Wt.jd q:Wt.f9 q=q.map Wt.pv:=by
 induction q with
 |nil=>rfl
 |cons l q B=>rw[A4,<- B];rfl
def Wt.j9 xs ys:Wt.f9 (xs++ys)=Wt.f9 xs++Wt.f9 ys :=by grind[Wt.jd,List.map_append]
def Wt.jo xs:(Wt.f9 xs).length=xs.length:=by rw[Wt.jd,AB]
section
variable (A:iy)(τ:jx)
noncomputable def wK(ps:List (Str×Rk)):List (Str×Int):=ps.map fun c=>(c.1,c.2.val A τ)
noncomputable def eV(ps:List (Str×Rk))(R:iy):iy:=ps.foldl (fun R c=>c.2.jz A τ R) R
noncomputable def Ja(cs:List (Str×Str×Rk)):List (Str×Str×Int):=cs.map fun c=>(c.1,c.2.1,c.2.2.val A τ)
noncomputable def GM(cs:List (Str×Str×Rk))(R:iy):iy:=cs.foldl (fun R c=>c.2.2.jz A τ R) R
noncomputable def YY(h:Hd):o5:=⟨h.ev,h.rank,h.last,Ja A τ h.ch⟩
noncomputable def iK(hs:List Hd):List o5:=hs.map (YY A τ)
noncomputable def rW(hs:List Hd)(R:iy):iy:=hs.foldl (fun R h=>GM A τ h.ch R) R
noncomputable def kU:Option Rk->Key
 |none=>.inl none
 |some r=>.inl (some (r.val A τ))
noncomputable def oY:Option Rk->iy->iy
 |none,R=>R
 |some r,R=>r.jz A τ R
end
noncomputable def cH(N:jx)(k:Key):Int:=match kJ N k with
 |some (.int i)=>i
 |_=>0
noncomputable def lH(i:Int):Nat:=(if i < 8 then i else 8).toNat
def tD i:lH i<=8:=by delta lH;split<;>lia
abbrev n8:=List Wt×jx×iy
noncomputable def uW(N:jx)(k:Key):List Key:=[k,.inl (some (cH N k))]
noncomputable def oW(N:jx)(k:Key):jx:=nZ N k (.int (cH N k+1))
mutual
def wZ(A:iy):Ln->jx->n8->n8
 |.when r B F,τ,st=>if r.val A τ=0 then sQ A F τ (st.1,st.2.1,r.jz A τ st.2.2) else sQ A B τ (st.1,st.2.1,r.jz A τ st.2.2)
 |.each n r q,τ,st=>(List.range (lH (r.val A τ))).foldl (fun st k=>sQ A q (nZ τ (.inr n) (.int (k:Nat))) st) (st.1,st.2.1,r.jz A τ st.2.2)
 |.part k n g,τ,st=>(st.1++[.part (uW st.2.1 (kU A τ k)) n (lG (wK A τ g))],oW st.2.1 (kU A τ k),eV A τ g (oY A τ k st.2.2))
 |.give k n r q,τ,st =>
  let d:=sQ A q τ ([],[],r.jz A τ (oY A τ k st.2.2))
  (st.1++[.give (uW st.2.1 (kU A τ k)) n (r.val A τ) d.1],oW st.2.1 (kU A τ k),d.2.2)
 |.plain k G s hs q,τ,st =>
  let d:=sQ A q τ ([],[],rW A τ hs (eV A τ s (oY A τ k st.2.2)))
  (st.1++[.plain (uW st.2.1 (kU A τ k)) G (lG (wK A τ s)) (iK A τ hs) d.1],oW st.2.1 (kU A τ k),d.2.2)
def sQ(A:iy):List Ln->jx->n8->n8
 |[],_,st=>st
 |l::q,τ,st=>sQ A q τ (wZ A l τ st)
end
noncomputable def xF(A:iy)(τ:jx)(sp:List Key):Ln->iy->Wt×iy
 |.part _ n g,R=>(.part sp n (lG (wK A τ g)),eV A τ g R)
 |.give _ n r q,R=>(.give sp n (r.val A τ) (sQ A q τ ([],[],r.jz A τ R)).1,(sQ A q τ ([],[],r.jz A τ R)).2.2)
 |.plain _ B s hs q,R=>(.plain sp B (lG (wK A τ s)) (iK A τ hs) (sQ A q τ ([],[],rW A τ hs (eV A τ s R))).1,(sQ A q τ ([],[],rW A τ hs (eV A τ s R))).2.2)
 |_,R=>(.part sp "" [],R)
def bJ A τ st:sQ A [] τ st=st:=by rfl
def mJ A l q τ st:sQ A (l::q) τ st=sQ A q τ (wZ A l τ st):=by rw[sQ]
def ZS A xs ys τ st:sQ A (xs++ys) τ st=sQ A ys τ (sQ A xs τ st):=by
 induction xs generalizing st with
 |nil=>rfl
 |cons x xs q=>rw[Ba,mJ,mJ,q]
noncomputable def Ej:Ln->Bool
 |.when _ _ _=>false
 |.each _ _ _=>false
 |_=>true
noncomputable def aU:Ln->Option Rk
 |.plain k _ _ _ _=>k
 |.part k _ _=>k
 |.give k _ _ _=>k
 |_=>none
def ZR A τ l F N R(h:Ej l=true):
  wZ A l τ (F,N,R)=(F++[(xF A τ (uW N (kU A τ (aU l))) l (oY A τ (aU l) R)).1],oW N (kU A τ (aU l)),(xF A τ (uW N (kU A τ (aU l))) l (oY A τ (aU l) R)).2):=by
 cases l with
 |plain k I s hs q=>rfl
 |part k n g=>rfl
 |give k n r q=>rfl
 |when r B G=>cases h
 |each n r q=>cases h
theorem tG{α:Type}{f}{m:α->Nat}(h:∀x k,m (f x k)<=m x+c):∀(l:List Nat)x,m (l.foldl f x)<=m x+l.length * c
 |[],x=>by show m x<=m x+0 * c;lia
 |k::l,x=>by
  have h1:=tG h l (f x k);have h2:=h x k;rw[List.foldl_cons,AQ]
  lia
mutual
theorem Q9(A:iy):∀(l:Ln)(τ:jx)(st:n8),(wZ A l τ st).1.length<=st.1.length+l.tw/\(wZ A l τ st).2.1.length<=st.2.1.length+l.tw
 |.when r B F,τ,st=>by
  rw[wZ];have h1:=oZ A B τ (st.1,st.2.1,r.jz A τ st.2.2);have h2:=oZ A F τ (st.1,st.2.1,r.jz A τ st.2.2);show _<=_+(Ln.iw B+Ln.iw F)/\_<=_+(Ln.iw B+Ln.iw F)
  split
  .exact ⟨AY h2.1 (by show st.1.length+_<=_;omega),AY h2.2 (by show st.2.1.length+_<=_;omega)⟩
  .exact ⟨AY h1.1 (by show st.1.length+_<=_;omega),AY h1.2 (by show st.2.1.length+_<=_;omega)⟩
 |.each n r q,τ,st=>by
  rw[wZ];have c:=tD (r.val A τ);have G:=tG (f:=fun st k=>sQ A q (nZ τ (.inr n) (.int (k:Nat))) st) (m:=fun st=>st.1.length) (c:=Ln.iw q) (fun x k=>(oZ A q _ x).1) (List.range (lH (r.val A τ))) (st.1,st.2.1,r.jz A τ st.2.2);have I:=tG (f:=fun st k=>sQ A q (nZ τ (.inr n) (.int (k:Nat))) st) (m:=fun st=>st.2.1.length) (c:=Ln.iw q) (fun x k=>(oZ A q _ x).2) (List.range (lH (r.val A τ))) (st.1,st.2.1,r.jz A τ st.2.2)
  rw[Ak] at G I;have J:lH (r.val A τ) * Ln.iw q<=8 * Ln.iw q:=BR _ c;show _<=st.1.length+8 * Ln.iw q/\_<=st.2.1.length+8 * Ln.iw q;exact⟨AY G (by show st.1.length+_<=_;omega),AY I (by show st.2.1.length+_<=_;omega)⟩
 |.part k n g,τ,st=>by
  rw[wZ];refine⟨by show(st.1++[_]).length<=st.1.length+1;rw[AE,AO];exact AI _,qD _ _ _⟩
 |.give k n r q,τ,st=>by
  rw[wZ];refine⟨by show(st.1++[_]).length<=st.1.length+(1+_);rw[AE,AO];omega,AY (qD _ _ _) (by show _<=_+(1+_);omega)⟩
 |.plain k L s hs q,τ,st=>by
  rw[wZ];refine⟨by show(st.1++[_]).length<=st.1.length+(1+_);rw[AE,AO];omega,AY (qD _ _ _) (by show _<=_+(1+_);omega)⟩
theorem oZ(A:iy):∀(q:List Ln)(τ:jx)(st:n8),(sQ A q τ st).1.length<=st.1.length+Ln.iw q/\(sQ A q τ st).2.1.length<=st.2.1.length+Ln.iw q
 |[],τ,st=>by rw[bJ];exact⟨Da _ _,Da _ _⟩
 |l::q,τ,st=>by
  rw[mJ];have h1:=Q9 A l τ st;have h2:=oZ A q τ (wZ A l τ st);show _<=_+(l.tw+Ln.iw q)/\_<=_+(l.tw+Ln.iw q);omega
end
theorem xG(q:X0 A bs P): ∀{ps}{R},jT bs ns d ps->P R->P (eV A τ ps R)
 |[],R,_,h=>h
 |c::ps,R,B,h=>xG (ps:=ps) q (fun x F=>B x (AJ _ F)) (sV q (B c AG).1 h)
theorem uI(q:X0 A bs P): ∀{cs}{R},(∀c∈cs,c.2.2.ok bs ns d)->P R->P (GM A τ cs R)
 |[],R,_,h=>h
 |c::ps,R,B,h=>uI (cs:=ps) q (fun x F=>B x (AJ _ F)) (sV q (B c AG) h)
theorem qM(q:X0 A bs P):∀{hs}{R},(∀h∈hs,h.ok bs ns)->P R->P (rW A τ hs R)
 |[],R,_,h=>h
 |c::ps,R,B,h=>qM (hs:=ps) q (fun x F=>B x (AJ _ F)) (uI q (B c AG).c h)
def iB(B:X0 A bs P)(h:nA bs ns k)(q:P R):P (oY A τ k R):=by
 cases k with
 |none=>exact q
 |some r=>exact sV B h q
theorem aR{P:iy->Prop}(h1:∀l ns τ st,iu bs G d ns l->P st.2.2->P (wZ A l τ st).2.2):∀q ns τ st,(∀x∈q,iu bs G d ns x)->P st.2.2->P (sQ A q τ st).2.2
 |[],ns,τ,st,_,h=>by rwa [bJ]
 |l::q,ns,τ,st,B,h =>aR h1 q ns τ _ (fun x F=>B x (AJ _ F)) (h1 l ns τ st (B l AG) h)
theorem xB{α β:Type}{f}{P:α->Prop}(h:∀x k,P x->P (f x k)):∀(l:List β)x,P x->P (l.foldl f x)
 |[],x,p=>p
 |k::l,x,p=>xB h l _ (h x k p)
def Mx(q:X0 A bs P):∀d l ns τ st,iu bs Y d ns l->P st.2.2->P (wZ A l τ st).2.2:=by
 intro d
 induction d with
 |zero=>intro l ns τ st h;exact h.elim
 |succ d O =>
  intro l ns τ st h G;have I:=aR O
  cases l with
  |plain k Z s hs J =>
   exact uR h fun h1 h2 B F L=>I J ns τ _ F (qM q B.1 (xG q h2.1 (iB q h1 G)))
  |part k n g =>
   exact Gp h fun h1 h2 B F=>xG q B (iB q h1 G)
  |give k n r J =>
   exact uR h fun h1 h2 B F L=>I J ns τ _ F (sV q B (iB q h1 G))
  |when r S U =>
   obtain⟨h1,⟨h2,B⟩,F,L⟩:=h;rw[wZ]
   split
   .exact I U ns τ _ F (sV q h1 G)
   .exact I S ns τ _ h2 (sV q h1 G)
  |each n r J =>
   exact oS h fun h1 h2 B=>xB (fun x k p=>I J [n] _ x h2 p) _ _ (sV q h1 G)
def fP(B:X0 A bs P)(h:∀x∈q,iu bs G d ns x)(F:P st.2.2):P (sQ A q τ st).2.2:=aR (Mx B d) q ns τ st h F
def jn(N:jx):Prop:=∀q∈N,∃i,q.2=.int i
theorem jn.put(h:jn N)k i:jn (nZ N k (.int i)):=by
 intro B hk
 delta nZ at hk
 split at hk
 .obtain ⟨x,q,rfl⟩:=AX.1 hk
  split
  .exact ⟨i,rfl⟩
  .exact h x q
 .rcases Ad.1 hk with hk | hk
  .exact h B hk
  .grind
def N6(h:jn N)k:(kJ N k).getD (.int 0)=.int (cH N k):=by
 delta cH
 cases e:kJ N k with
 |none=>rfl
 |some v =>
  obtain⟨F,B,rfl⟩:=Qp e;obtain⟨i,q⟩:=h F B;rw[q]
  rfl
mutual
theorem MF(A:iy):∀(l:Ln)(τ:jx)(st:n8),jn st.2.1->jn (wZ A l τ st).2.1
 |.when r B F,τ,st,h=>by
  rw[wZ]
  split
  .exact pG A F τ _ h
  .exact pG A B τ _ h
 |.each n r q,τ,st,h=>by
  rw[wZ];exact xB (P:=fun st:n8=>jn st.2.1) (fun x k p=>pG A q _ x p) _ _ h
 |.part k n g,τ,st,h=>by rw[wZ];exact h.put _ _
 |.give k n r q,τ,st,h=>by rw[wZ];exact h.put _ _
 |.plain k G s hs q,τ,st,h=>by rw[wZ];exact h.put _ _
theorem pG(A:iy):∀(q:List Ln)(τ:jx)(st:n8),jn st.2.1->jn (sQ A q τ st).2.1
 |[],τ,st,h=>by rw[bJ];exact h
 |l::q,τ,st,h=>by rw[mJ];exact pG A q τ _ (MF A l τ st h)
end
def VM(I:List PV->List PV->CH->Prop)(G:∀x r acc C,I (x::r) acc C->∃ts,x=.tup ts/\ts.length=n/\∀L:K1,(∀y C2,acc.length < sizeLine/\I r (acc++[y]) C2->L y C2)->c (ts.map some++ρ) C L)(q:∀acc C,I [] acc C->∀p,C p=none->Q (.ref p) (gQ C p (.lst acc))):
  ∀xs acc C,I xs acc C->uM n rH c ρ Q xs acc C:=by
 intro xs
 induction xs with
 |nil=>intro acc C h;exact q acc C h
 |cons x r F =>
  intro acc C h;exact xZ (G x r acc C h) fun ts e B st=>⟨ts,e,B,st _ fun y C2 z=>⟨z.1,F _ _ z.2⟩⟩
section
variable {W:Wd}{a:Adr}
structure Sf(a:Adr)(C:CH)(x aa rr:Addr)(A R:iy):Prop where
 ins:∃dx,C x=some (.ins a.Drawer dx [("answers",.ref aa),("asked",.ref rr)])
 ans:C aa=some (.dT A)
 ask:C rr=some (.dT R)
 ne:aa≠rr
def Sf.nx(h:Sf a C x aa rr A R):x≠rr:=fun e=>by
 obtain⟨dx,h1⟩:=h.ins;rw[e,h.ask] at h1;cases h1
theorem Sf.keep{q:iy}(h:Sf a C x aa rr A R)(e:gm S C C')(F:x∉S)(B:aa∉S)(hk:C' rr=some (.dT q)):Sf a C' x aa rr A q :=
 ⟨let ⟨dx,h1⟩:=h.ins;⟨dx,e _ _ F h1⟩,e _ _ B h.ans,hk,h.ne⟩
def Sf.keep'(h:Sf a C x aa rr A R)(e:gm S C C')(B:x∉S)(q:aa∉S)(hk:rr∉S):Sf a C' x aa rr A R :=
 h.keep e B q (e _ _ hk h.ask)
def Sf.rd{q:iy}(h:Sf a C x aa rr A R)(e:gm [rr] C C')(hk:C' rr=some (.dT q)):Sf a C' x aa rr A q :=
 h.keep e (fun z=>h.nx (AF.1 z)) (fun z=>h.ne (AF.1 z)) hk
def Sf.new(h:Sf a C x aa rr A R)(q:C p=none)o:Sf a (gQ C p o) x aa rr A R :=h.keep' (gm.refl.put q o) (CQ) (CQ) (CQ)
theorem Sf.nd(h:Sf a C x aa rr A R)(m:C q=some (.dK cs)):x≠q/\aa≠q/\rr≠q:=by
 obtain⟨dx,h1⟩:=h.ins;refine⟨fun e=>?_,fun e=>?_,fun e=>?_⟩
 .lia
 .have:=h.ans;rw[e,m] at this;cases this
 .have:=h.ask;rw[e,m] at this;cases this
def Sf.nl(h:Sf a C x aa rr A R)(m:C p=some (.lst xs)):x≠p/\aa≠p/\rr≠p:=by
 obtain⟨dx,h1⟩:=h.ins;refine⟨fun e=>?_,fun e=>?_,fun e=>?_⟩
 .lia
 .have:=h.ans;rw[e,m] at this;cases this
 .have:=h.ask;rw[e,m] at this;cases this
def Sf.nn(h:Sf a C x aa rr A R)(m:C p=none):x≠p/\aa≠p/\rr≠p:=by
 obtain⟨dx,h1⟩:=h.ins;refine⟨fun e=>?_,fun e=>?_,fun e=>?_⟩
 .lia
 .have:=h.ans;rw[e,m] at this;cases this
 .have:=h.ask;rw[e,m] at this;cases this
inductive RP(a:Adr)(ts:List PV)(C:CH)(Q:K1):Prop
 |mk(x dx aa:Addr)(A:iy)(z0:ts=[.ref x,.ref aa])(z1:C x=some (.ins a.Drawer dx []))(z2:C aa=some (.dT A))(z3:∀C' rr,C rr=none->Sf a C' x aa rr A []->gm [x] C C'->Q .non C')
def ok_init(T:Tx W a):Ok W a 1 43 ["self","answers"] (RP a):=by
 refine(T.F 43 rfl).o (fun U=>(xQ (Z8 T.xX T.cG (cv 0) (cv 1))
  (kQ (Z8 T.xX T.iW (cv 0) Ku)))) ?_
 rintro ts C R ⟨x,dx,S,A,rfl,J,B,q⟩;have L:S≠x:=fun e=>by rw[e,J] at B;cases B
 apply Zo J (by decide)
 intro I G
 have F:C I=none:=by
  rw[wQ (fun z=>by rw[z,jQ] at G;cases G)] at G;exact G
 have O:I≠x:=fun e=>by rw[e,J] at F;cases F
 apply Zo (by rw[wQ (Ne.symm O)];exact jQ) (by show 1 < 1000;decide)
 refine q _ I F ⟨⟨dx,?_⟩,?_,?_,fun e=>by rw[e,F] at B;cases B⟩ ?_
 .rw [jQ]
  rfl
 .rw [wQ L,wQ (fun e=>by rw[e,F] at B;cases B),wQ L];exact B
 .exact (wQ O)▸jQ
 .exact ((gm.refl.at AG _).put F _).at AG _
inductive RV(a:Adr)(d:Nat)(ts:List PV)(C:CH)(Q:K1):Prop
 |mk(r:Rk)(x aa tt rr:Addr)(A:iy)(τ:jx)(R:iy)(bs ns:List Str)(z0:ts=[.ref x,r.pv,.ref tt])(z1:r.ok bs ns d)(z2:Sf a C x aa rr A R)(z3:C tt=some (.dK τ))(z4:yU A τ bs ns)(z5:jy bs R)(z6:∀C',Sf a C' x aa rr A (r.jz A τ R)->gm [rr] C C'->Q (.int (r.val A τ)) C')
def eB(T:Tx W a)d:Ok W a (d+4) 44 ["self","reckoning","turns"] (RV a d):=by
 have U:=bA T d;refine(T.F 44 rfl).o (fun L=>(kQ (fQ (cf (T.F 5 rfl) U L (qQ (cv 1) (qQ (fF T.xX T.cG (cv 0)) (qQ (cv 2) (d7 (fF T.xX T.iW (cv 0)))))))))) ?_;rintro ts C Q ⟨r,x,aa,tt,rr,A,τ,R,bs,ns,rfl,Y,B,S,J,I,q⟩;obtain⟨dx,F⟩:=B.ins;exact wR F rfl (wR F rfl ⟨r,aa,tt,rr,A,τ,R,bs,ns,rfl,Y,⟨B.ans,S,B.ask,B.ne⟩,J,I,fun C1 O G=>q C1 (B.rd G O) G⟩)
inductive sO(a:Adr)(ts:List PV)(C:CH)(Q:K1):Prop
 |mk(ps:List (Str×Rk))(x aa tt rr:Addr)(A:iy)(τ:jx)(R:iy)(bs ns:List Str)(z0:ts=[.ref x,.tup (ps.map nU),.ref tt])(z1:jT bs ns 2 ps)(z2:ps.length<=4)(z3:Sf a C x aa rr A R)(z4:C tt=some (.dK τ))(z5:yU A τ bs ns)(z6:jy bs R)(z7:∀C' l,C l=none->C' l=some (.lst ((wK A τ ps).map oQ))->Sf a C' x aa rr A (eV A τ ps R)->gm [rr] C C'->Q (.ref l) C')
def zH(T:Tx W a):Ok W a 7 45 ["self","pairs","turns"] (sO a):=by
 have S:=(T.F 45 rfl).s;have gX:=eB T 2;refine(T.F 45 rfl).o (fun hr=>(kQ (fQ (zW rfl (S.c (by decide +kernel)) (S.k rfl rfl rfl (by decide +kernel)) (vP (cv 1)) (fun _ _ _ _ _=>zK) (fun _ _ _ _ _=>(mQ (qQ (cx (cv 0) zQ) (d7 (cm T.xX (T.F 44 rfl) T.rX gX hr (cv 1) (qQ (cx (cv 0) zQ) (d7 (cv 3)))))))))))) ?_;rintro ts C Q ⟨ps,x,aa,tt,rr,A,τ,R,bs,ns,rfl,O,hl,Z,U,J,hR,ab⟩;refine wW (fun zs acc C1=>∃ds es:List (Str×Rk),ps=ds++es/\zs=es.map nU/\acc=(wK A τ ds).map oQ/\Sf a C1 x aa rr A (eV A τ ds R)/\gm [rr] C C1) ?_ ?_ _ _ _ ⟨[],ps,rfl,rfl,rfl,Z,gm.refl⟩
 .rintro z zs acc C1 ⟨ds,es,q,B,rfl,F,G⟩ L hL
  cases es with
  |nil=>cases B
  |cons p es =>
   injection B with B e3
   subst B e3;obtain⟨dx,mx⟩:=F.ins;refine tX rfl ⟨cX mx rfl,tX rfl ⟨p.2,x,aa,tt,rr,A,τ,_,bs,ns,rfl,(O p (q▸Aa _ AG)).1,F,G _ _ (fun z=>(Z.nd U).2.2 (AF.1 z).symm) U,J,xG (wJ J.a) (fun y hy=>O y (q▸A2 _ hy)) hR,fun C2 ae x2=>⟨y0 2 rfl,?_⟩⟩⟩;refine hL _ _ ⟨?_,ds++[p],es,by rw[q,AR];rfl,rfl,by delta wK;rw[AS,AS];rfl,?_,G.trans x2⟩
   .rw [AB]
    delta wK
    rw[AB];have:ds.length<=4 :=by simp_all;lia
    exact An this (by decide)
   .unfold eV at ae ⊢
    rwa [B9]
 .rintro acc C1 ⟨ds,es,q,B,rfl,F,G⟩ p I
  cases es with
  |cons _ _=>cases B
  |nil =>
   rw[Ae] at q;subst q;have Y:=G.none (fun z=>(F.nn I).2.2 (AF.1 z).symm) I;exact ab _ p Y jQ (F.new I _) (G.put Y _)
def jq k:aV (cW k)=some k:=by
 rcases k with (_ | i) | x<;>rfl
inductive RC(a:Adr)(ts:List PV)(C:CH)(Q:K1):Prop
 |mk(k:Option Rk)(x aa tt rr cc:Addr)(A:iy)(τ:jx)(R:iy)(N:jx)(bs ns:List Str)(z0:ts=[.ref x,bM k,.ref tt,.ref cc])(z1:nA bs ns k)(z2:Sf a C x aa rr A R)(z3:C tt=some (.dK τ))(z4:C cc=some (.dK N))(z5:jn N)(z6:N.length<=900)(z7:yU A τ bs ns)(z8:jy bs R)(z9:∀C',C' cc=some (.dK (oW N (kU A τ k)))->Sf a C' x aa rr A (oY A τ k R)->gm [rr,cc] C C'->Q (cJ (uW N (kU A τ k))) C')
def zm(T:Tx W a):Ok W a 5 50 ["self","key","turns","counts"] (RC a):=by
 have S:=(T.F 50 rfl).s;have U:=eB T 0
 refine(T.F 50 rfl).o (fun q=>(xQ (gn 4 S.nd (xE (ct2 bC rD (cv 1) qV) qV (cm T.xX (T.F 44 rfl) T.rX U q (cv 0) (qQ (cv 1) (d7 (cv 2))))))
  (xQ (gn 5 S.nd (GS (qZ q) (cv 3) (cv 4) zQ))
  (xQ (gV (qZ q) (cv 3) (cv 4) (nQ iQ qX (cv 5) zQ))
  (kQ (fQ (mQ (qQ (cv 4) (d7 (cv 5)))))))))) ?_
 rintro ts C Q ⟨B,x,aa,tt,rr,cc,A,τ,R,N,bs,ns,rfl,hk,F,ab,L,hc,hs,Z,Y,ae⟩;obtain⟨n1,n2,n3⟩:=(F.nd L)
 have rest:∀C1,Sf a C1 x aa rr A (oY A τ B R)->gm [rr] C C1->VY (Jh 5 (Ua (zV 3) (zV 4) (cC (.int 0)))) (VY (IW (zV 3) (zV 4) (ur iI (zV 5) (cC (.int 1)))) (G6 (Hc (fG (zV 4) (fG (zV 5) oI))))) { nx:=fun _ C'=>Q .non C',rt:=Q } [some (.ref x),some (bM B),some (.ref tt),some (.ref cc),some (cW (kU A τ B)),none] C1:=by
  intro C1 J G;have I:=G _ _ (fun z=>n3 (AF.1 z).symm) L;refine yQ ⟨YS I,Nm I (jq _) (N6 hc _) (jZ (aW (nY I (jq _) (by lia) ?_)))⟩;refine⟨y0 2 rfl,?_⟩;refine ae _ jQ (J.keep' (S:=[cc]) (gm.refl.at AG _) ?_ ?_ ?_) ((G.mono fun b hb=>AZ.2 (.inl (AF.1 hb))).at (AJ _ AG) _)
  .grind
  .grind
  .grind
 cases B with
 |none=>exact rest C F gm.refl
 |some r =>
   obtain⟨dx,mx⟩:=F.ins;have q:∃xs,r.pv=.tup xs:=by cases r<;>exact⟨_,rfl⟩
   obtain⟨xs,q⟩:=q;have O:=rest
   simp only[bM,q] at O ⊢
   refine yQ (Rw (iN rfl (uD rfl ⟨cX mx rfl,⟨r,x,aa,tt,rr,A,τ,R,bs,ns,by rw[q],hk,F,ab,Z,Y,fun C1 J G=>?_⟩⟩)));exact O C1 J G
inductive RQ(a:Adr)(ts:List PV)(C:CH)(Q:K1):Prop
 |mk(h:Hd)(x aa tt rr:Addr)(A:iy)(τ:jx)(R:iy)(bs ns:List Str)(z0:ts=[.ref x,h.pv,.ref tt])(z1:h.ok bs ns)(z2:Sf a C x aa rr A R)(z3:C tt=some (.dK τ))(z4:yU A τ bs ns)(z5:jy bs R)(z6:∀C',Sf a C' x aa rr A (GM A τ h.ch R)->gm [rr] C C'->Q (YY A τ h).pv C')
def zy(T:Tx W a):Ok W a 6 51 ["self","hand","turns"] (RQ a):=by
 have S:=(T.F 51 rfl).s;have gX:=eB T 1
 refine(T.F 51 rfl).o (fun hr=>(xQ (Fb (i:=3) S.nd rfl (Or.inl rfl) rfl (S.c (by decide +kernel)) (S.k rfl rfl rfl (by decide +kernel)) (vP (cx (cv 1) zQ)) (fun _ _ _ _ _=>zK) (fun _ _ _ _ _=>(mQ (qQ (cx (cv 0) zQ) (qQ (cx (cv 0) zQ) (d7 (cm T.xX (T.F 44 rfl) T.rX gX hr (cv 1) (qQ (cx (cv 0) zQ) (d7 (cv 3))))))))))
  (kQ (fQ (mQ (qQ (cx (cv 1) zQ) (qQ (cx (cv 1) zQ) (qQ (cx (cv 1) zQ) (d7 (p7 T.hX (cv 3))))))))))) ?_
 rintro ts C Q ⟨h,x,aa,tt,rr,A,τ,R,bs,ns,rfl,I,Y,U,O,hR,ab⟩;refine yQ (tX rfl (wW (fun zs acc C1=>∃ds es:List (Str×Str×Rk),h.ch=ds++es/\zs=es.map Fq/\acc=(Ja A τ ds).map GD/\Sf a C1 x aa rr A (GM A τ ds R)/\gm [rr] C C1) ?_ ?_ _ _ _ ⟨[],h.ch,rfl,rfl,rfl,Y,gm.refl⟩))
 .rintro z zs acc C1 ⟨ds,es,q,B,rfl,F,G⟩ L hL
  cases es with
  |nil=>cases B
  |cons p es =>
   rw[A4] at B;injection B with B Z
   subst B Z;obtain⟨dx,mx⟩:=F.ins;refine tX rfl (tX rfl ⟨cX mx rfl,tX rfl ⟨p.2.2,x,aa,tt,rr,A,τ,_,bs,ns,rfl,I.c p (q▸Aa _ AG),F,G _ _ (fun z=>(Y.nd U).2.2 (AF.1 z).symm) U,O,uI (wJ O.a) (fun y hy=>I.c y (q▸A2 _ hy)) hR,fun C2 ae x2=>⟨y0 3 rfl,?_⟩⟩⟩);refine hL _ _ ⟨?_,ds++[p],es,by rw[q,AR];rfl,rfl,by delta Ja;rw[AS,AS];rfl,?_,G.trans x2⟩
   .rw [AB]
    delta Ja
    rw[AB];have hl:=I.1;have:ds.length<=4 :=by simp_all;lia
    exact An this (by decide)
   .unfold GM at ae ⊢
    rwa [B9]
 .rintro acc C1 ⟨ds,es,q,B,rfl,F,G⟩ p J
  cases es with
  |cons _ _=>cases B
  |nil =>
   rw[Ae] at q;refine tX rfl (tX rfl (tX rfl (vJ jQ ⟨y0 4 rfl,?_⟩)));have:=ab _ (by rw[q];exact F.new J _) (G.put (G.none (fun z=>(F.nn J).2.2 (AF.1 z).symm) J) (.lst ((Ja A τ ds).map GD)));unfold o5.pv YY at this
   rwa [q] at this
end
structure S6(a:Adr)(C:CH)(x aa rr tt ff cc:Addr)(A:iy)(τ:jx)(st:n8):Prop where
 sf:Sf a C x aa rr A st.2.2
 mt:C tt=some (.dK τ)
 mf:C ff=some (.lst (Wt.f9 st.1))
 mc:C cc=some (.dK st.2.1)
 tc:tt≠cc
section
variable {a:Adr}{C C':CH}{x aa rr tt ff cc:Addr}{A:iy}{τ:jx}{st st':n8}
def S6.fc(h:S6 a C x aa rr tt ff cc A τ st):ff≠cc:=fun z=>by have:=h.mf;rw[z,h.mc] at this;cases this
def S6.tf(h:S6 a C x aa rr tt ff cc A τ st):tt≠ff:=fun z=>by have:=h.mt;rw[z,h.mf] at this;cases this
def S6.fr(h:S6 a C x aa rr tt ff cc A τ st):ff≠rr:=fun z=>(h.sf.nl h.mf).2.2 z.symm
def S6.cr(h:S6 a C x aa rr tt ff cc A τ st):cc≠rr:=fun z=>(h.sf.nd h.mc).2.2 z.symm
def S6.tr(h:S6 a C x aa rr tt ff cc A τ st):tt≠rr:=fun z=>(h.sf.nd h.mt).2.2 z.symm
def S6.nt(h:S6 a C x aa rr tt ff cc A τ st):tt∉[ff,cc,rr]:=fun z=>by
 simp only[List.mem_cons,List.not_mem_nil,or_false] at z
 rcases z with z | z | z
 .exact h.tf z
 .exact h.tc z
 .exact h.tr z
def S6.rd(h:S6 a C x aa rr tt ff cc A τ st)(e:gm [rr] C C')(s:Sf a C' x aa rr A R):S6 a C' x aa rr tt ff cc A τ (st.1,st.2.1,R) :=
 ⟨s,e _ _ (fun z=>h.tr (AF.1 z)) h.mt,e _ _ (fun z=>h.fr (AF.1 z)) h.mf,e _ _ (fun z=>h.cr (AF.1 z)) h.mc,h.tc⟩
end
def jI(h:gm [rr] C C'):gm [ff,cc,rr] C C':=h.mono fun b z=>by rw[AF.1 z];simp
def qP(h:gm [rr] C C'):gm [rr,cc] C C':=h.mono fun b z=>by rw[AF.1 z];simp
def Kg(h:gm [rr,cc] C C'):gm [ff,cc,rr] C C':=h.mono fun b z=>by
 simp only[List.mem_cons,List.not_mem_nil] at z ⊢
 rcases z with z | z
 .lia
 .lia
def Qb{r:List PV}:atI (x::y::r) 1=some y:=qS (by simp)
def Pn(h:Ej l=true):∃q rest,l.pv=.tup (.str q::bM (aU l)::rest)/\decide (q = "when")=false/\decide (q = "each")=false:=by
 cases l with
 |plain k I s hs B=>exact⟨"plain",_,by rfl,by decide,by decide⟩
 |part k n g=>exact⟨"part",_,by rfl,by decide,by decide⟩
 |give k n r B=>exact⟨"give",_,by rfl,by decide,by decide⟩
 |when r F G=>cases h
 |each n r B=>cases h
inductive RW(a:Adr)(d:Nat)(ts:List PV)(C:CH)(Q:K1):Prop
 |mk(ls:List Ln)(x aa tt rr ff cc:Addr)(A:iy)(τ:jx)(st:n8)(bs rs ns:List Str)(z0:ts=[.ref x,.tup (Ln.f9 ls),.ref tt,.ref ff,.ref cc])(z1:(∀x∈ls,iu bs rs d ns x))(z2:st.1.length+Ln.iw ls<=400)(z3:st.2.1.length+Ln.iw ls<=400)(z4:τ.length+d<=50)(z5:S6 a C x aa rr tt ff cc A τ st)(z6:yU A τ bs ns)(z7:jy bs st.2.2)(z8:jn st.2.1)(z9:∀C',S6 a C' x aa rr tt ff cc A τ (sQ A ls τ st)->gm [ff,cc,rr] C C'->Q .non C')
inductive Nq(a:Adr)(d:Nat)(ts:List PV)(C:CH)(Q:K1):Prop
 |mk d'(z0:d=d'+1)(z1:RW a d' ts C Q)
inductive Np(a:Adr)(d:Nat)(ts:List PV)(C:CH)(Q:K1):Prop
 |mk(ls:List Ln)(x aa tt rr:Addr)(A:iy)(τ:jx)(R:iy)(bs rs ns:List Str)(z0:ts=[.ref x,.tup (Ln.f9 ls),.ref tt])(z1:(∀x∈ls,iu bs rs d ns x))(z2:Ln.iw ls<=400)(z3:τ.length+d<=50)(z4:Sf a C x aa rr A R)(z5:C tt=some (.dK τ))(z6:yU A τ bs ns)(z7:jy bs R)(z8:∀C',Sf a C' x aa rr A (sQ A ls τ ([],[],R)).2.2->gm [rr] C C'->Q (.tup (Wt.f9 (sQ A ls τ ([],[],R)).1)) C')
inductive Y5(a:Adr)(d:Nat)(ts:List PV)(C:CH)(Q:K1):Prop
 |mk d'(z0:d=d'+1)(z1:Np a d' ts C Q)
inductive Y3(a:Adr)(d:Nat)(ts:List PV)(C:CH)(Q:K1):Prop
 |mk(l:Ln)(x aa tt rr cc:Addr)(A:iy)(τ:jx)(R:iy)(N:jx)(bs rs ns:List Str)(z0:ts=[.ref x,l.pv,.ref tt,.ref cc])(z1:Ej l=true)(z2:iu bs rs d ns l)(z3:l.tw<=400)(z4:τ.length+d<=50)(z5:Sf a C x aa rr A R)(z6:C tt=some (.dK τ))(z7:C cc=some (.dK N))(z8:tt≠cc)(z9:jn N)(z10:N.length<=900)(z11:yU A τ bs ns)(z12:jy bs R)(z13:∀C',C' cc=some (.dK (oW N (kU A τ (aU l))))->Sf a C' x aa rr A (xF A τ (uW N (kU A τ (aU l))) l (oY A τ (aU l) R)).2->gm [rr,cc] C C'->Q (xF A τ (uW N (kU A τ (aU l))) l (oY A τ (aU l) R)).1.pv C')
section
variable {W:Wd}{a:Adr}
def Yf(T:Tx W a)(Z:Ok W a k 47 ["self","lines","turns","row","counts"] (RW a d)):Ok W a (k+1) 46 ["self","lines","turns"] (Np a d):=by
 refine(T.F 46 rfl).o (fun hr=>(xQ (gn 3 ((T.F 46 rfl).s).nd (pX oX))
  (xQ (sX (cm T.xX (T.F 47 rfl) T.rX Z hr (cv 0) (qQ (cv 1) (qQ (cv 2) (qQ (cv 3) (d7 mI))))))
  (kQ (fQ (p7 T.hX (cv 3))))))) ?_
 rintro ts C Q ⟨ae,x,aa,tt,rr,A,τ,R,bs,ai,ns,rfl,ag,aj,ab,sf,q,hS,hR,ah⟩;refine⟨by decide,fun ff G=>?_⟩;have Y:=sf.new G (.lst []);refine Gn Y.ins fun dx mx=>jZ ⟨cX mx rfl,?_⟩;intro cc B;have O:cc≠ff:=fun z=>by rw[z,jQ] at B;cases B
 have L:C cc=none:=by rwa [wQ O] at B
 have af:tt≠ff:=fun z=>by rw[z,G] at q;cases q
 have S:tt≠cc:=fun z=>by rw[z,L] at q;cases q
 refine⟨ae,x,aa,tt,rr,ff,cc,A,τ,([],[],R),bs,ai,ns,rfl,ag,by show 0+_<=400;lia,by show 0+_<=400;lia,ab,⟨(Y.new B (.dK [])),by rw[wQ S,wQ af];exact q,by exact(wQ (Ne.symm O))▸jQ,jQ,S⟩,hS,hR,(fun _ z=>nomatch z),fun C2 U e2=>?_⟩;refine vJ U.mf (ah C2 U.sf fun b o hb F=>?_);have I:b≠ff:=fun z=>by rw[z,G] at F;cases F
 have J:b≠cc:=fun z=>by rw[z,L] at F;cases F
 refine e2 b o (fun z=>?_) (by rwa [wQ J,wQ I])
 simp only[List.mem_cons,List.not_mem_nil] at z
 rcases z with z | z | z
 .exact I z
 .exact J z
 .grind
def zg(T:Tx W a)(d k:Nat)(h7:7<=k)(jW:Ok W a k 46 ["self","lines","turns"] (Y5 a d)):Ok W a (k+1) 49 ["self","line","turns","counts"] (Y3 a d):=by
 have S:=(T.F 49 rfl).s;have vT:=(zm T).mono (show 5<=k by lia);have gX:=(eB T 1).mono (show 5<=k by lia);have oK:=(zH T).mono h7;have yT:=(zy T).mono (show 6<=k by lia)
 refine(T.F 49 rfl).o (fun hr=>(xQ (gn 4 S.nd (cm T.xX (T.F 50 rfl) T.rX vT hr (cv 0) (qQ (cx (cv 1) zQ) (qQ (cv 2) (d7 (cv 3))))))
  (xQ (uX (ct2 lX jX (cx (cv 1) zQ) vQ) (kQ (fQ (mQ (qQ vQ (qQ (cv 4) (qQ (cx (cv 1) zQ) (qQ (cm T.xX (T.F 44 rfl) T.rX gX hr (cv 0) (qQ (cx (cv 1) zQ) (d7 (cv 2)))) (d7 (cm T.xX (T.F 46 rfl) T.rX jW hr (cv 0) (qQ (cx (cv 1) zQ) (d7 (cv 2)))))))))))) eQ)
  (xQ (gn 5 S.nd (p7 T.hX (vZ (eD rfl) nR rfl T.lN rfl (d7 (cm T.xX (T.F 45 rfl) T.rX oK hr (cv 0) (qQ (cx (cv 1) zQ) (d7 (cv 2))))))))
  (xQ (uX (ct2 lX jX (cx (cv 1) zQ) vQ) (kQ (fQ (mQ (qQ vQ (qQ (cv 4) (qQ (cx (cv 1) zQ) (d7 (cv 5)))))))) eQ)
  (xQ (gn 6 S.nd (p7 T.hX (zW rfl (S.c (by decide +kernel)) (S.k rfl rfl rfl (by decide +kernel)) (vP (cx (cv 1) zQ)) (fun _ _ _ _ _=>zK) (fun _ _ _ _ _=>(cm T.xX (T.F 51 rfl) T.rX yT hr (cv 1) (qQ (cv 0) (d7 (cv 3))))))))
  (kQ (fQ (mQ (qQ vQ (qQ (cv 4) (qQ (cx (cv 1) zQ) (qQ (cv 5) (qQ (cv 6) (d7 (cm T.xX (T.F 46 rfl) T.rX jW hr (cv 0) (qQ (cx (cv 1) zQ) (d7 (cv 2))))))))))))))))))) ?_
 rintro ts C Q ⟨l,x,aa,tt,rr,cc,A,τ,R,N,bs,bc,ns,rfl,a7,av,a8,b2,sf,ae,aq,bt,hc,hs,q,hR,a3⟩;obtain⟨dx,mx⟩:=sf.ins;obtain⟨n1,n2,n3⟩:=sf.nd aq
 have ar:tt∉[rr,cc]:=fun z=>by
  rcases AZ.1 z with z | z
  .exact (sf.nd ae).2.2 z.symm
  .exact bt (AF.1 z)
 have au:tt∉[rr]:=fun z=>ar (AZ.2 (.inl (AF.1 z)));have ag:cc∉[rr]:=fun z=>n3 (AF.1 z).symm
 cases d with
 |zero=>exact av.elim
 |succ d =>
 cases l with
 |when r l1 l2=>cases a7
 |each n r J=>cases a7
 |give B n rk J =>
  obtain⟨h1,h2,G,aj,h5⟩:=av;unfold Ln.pv;refine⟨cX mx rfl,tX (v:=bM B) rfl ⟨B,x,aa,tt,rr,cc,A,τ,R,N,bs,ns,rfl,h1,sf,ae,aq,hc,hs,q,hR,fun C1 m1 Y Z=>?_⟩⟩;have af:=Z _ _ ar ae;have R1:=iB (τ:=τ) (wJ q.a) h1 hR;obtain⟨a6,ao⟩:=Y.ins;refine jZ (tX wX (mX (cQ _ _) (pW (by decide) ?_)));refine tX (v:=.str n) rfl ⟨cX ao rfl,tX (v:=rk.pv) rfl ⟨rk,x,aa,tt,rr,A,τ,_,bs,ns,rfl,G,Y,af,q,R1,fun C2 ah F=>?_⟩⟩
  have az:=F _ _ au af;obtain⟨bx,bo⟩:=ah.ins;refine⟨cX bo rfl,tX (v:=.tup (Ln.f9 J)) rfl ?_⟩;have bg:1+Ln.iw J<=400:=a8;refine⟨d,rfl,J,x,aa,tt,rr,A,τ,_,bs,bc,ns,rfl,aj,by lia,by lia,ah,az,q,sV (wJ q.a) G R1,fun C3 ax x3=>?_⟩;refine⟨y0 5 rfl,?_⟩;have:=a3 C3 (x3 _ _ ag (F _ _ ag m1)) ax ((Z.trans (qP F)).trans (qP x3));unfold xF Wt.pv at this;exact this
 |part B n g =>
  obtain⟨h1,h2,G,aj⟩:=av
  delta Ln.pv
  refine⟨cX mx rfl,tX (v:=bM B) rfl ⟨B,x,aa,tt,rr,cc,A,τ,R,N,bs,ns,rfl,h1,sf,ae,aq,hc,hs,q,hR,fun C1 m1 Y Z=>?_⟩⟩;have af:=Z _ _ ar ae;have R1:=iB (τ:=τ) (wJ q.a) h1 hR;obtain⟨a6,ao⟩:=Y.ins;refine jZ (tX wX (mX (cQ _ _) (yJ (by decide) ?_)))
  apply dX
  try dsimp only
  refine yQ (i:=5) ⟨cX ao rfl,tX (v:=.tup (g.map nU)) rfl ⟨g,x,aa,tt,rr,A,τ,_,bs,ns,rfl,fun y hy=>⟨(G y hy).1.mono (by decide),(G y hy).2⟩,aj,Y,af,q,R1,fun C2 p p0 m2 ah F=>?_⟩⟩;refine Qv m2 (by delta wK;rw[AB];lia) fun p2 U=>?_;refine vJ jQ (jZ (tX wX (mX (cQ _ _) (pW (by decide) ?_))));refine tX (v:=.str n) rfl ⟨y0 4 rfl,?_⟩;have br:cc≠p2:=fun z=>by have:=F _ _ ag m1;rw[z,U] at this;cases this
  have:=a3 (gQ C2 p2 (.lst ((lG (wK A τ g)).map oQ))) (by rw[wQ br];exact F _ _ ag m1) (ah.new U _) (by
   intro b o hb ak;have h2:=(Z.trans (qP F)) b o hb ak;rw[wQ (fun z=>by rw[z,U] at h2;cases h2)]
   exact h2)
  unfold xF Wt.pv at this;exact this
 |plain B a4 ss I J =>
  obtain⟨h1,h2,G,aj,h5⟩:=av;unfold Ln.pv;generalize bf:PV.tup [PV.str "plain",bM B,PV.str a4,PV.tup (List.map nU ss),PV.tup (List.map Hd.pv I),PV.tup (Ln.f9 J)]=bh
  have ab:∀(i:Int)(v:PV)(C':CH)(Q':K1),atI [PV.str "plain",bM B,PV.str a4,PV.tup (List.map nU ss),PV.tup (List.map Hd.pv I),PV.tup (Ln.f9 J)] i=some v->Q' v C'->ut bh (.int i) C' Q':=by
   intro i v C' Q' e h;rw[<- bf];exact tX e h
  refine⟨cX mx rfl,ab 1 (bM B) _ _ rfl ⟨B,x,aa,tt,rr,cc,A,τ,R,N,bs,ns,rfl,h1,sf,ae,aq,hc,hs,q,hR,fun C1 m1 Y Z=>?_⟩⟩;have af:=Z _ _ ar ae;have R1:=iB (τ:=τ) (wJ q.a) h1 hR;obtain⟨a6,ao⟩:=Y.ins;refine jZ (ab 0 (.str "plain") _ _ rfl (mX (cQ _ _) (yJ (by decide) ?_)))
  apply dX
  try dsimp only
  refine yQ (i:=5) ⟨cX ao rfl,ab 3 (.tup (ss.map nU)) _ _ rfl ⟨ss,x,aa,tt,rr,A,τ,_,bs,ns,rfl,h2.1,h2.2,Y,af,q,R1,fun C2 p p0 m2 ah F=>?_⟩⟩;have b1:=h2.2;refine Qv m2 (by unfold wK;rw[AB];lia) fun p2 U=>?_
  apply vJ jQ
  refine jZ (ab 0 (.str "plain") _ _ rfl (mX (cQ _ _) (yJ (by decide) ?_)))
  apply dX
  try dsimp only
  have a5:=xG (τ:=τ) (wJ q.a) h2.1 R1;have bj:=F _ _ ag m1;have az:=F _ _ au af;have bw:=Z.trans (qP (cc:=cc) F);have ax:=ah.new U (.lst ((lG (wK A τ ss)).map oQ));have a9:(gQ C2 p2 (.lst ((lG (wK A τ ss)).map oQ))) cc=some (.dK (oW N (kU A τ B))):=Gr.new U _ _ _ bj;have a0:(gQ C2 p2 (.lst ((lG (wK A τ ss)).map oQ))) tt=some (.dK τ):=Gr.new U _ _ _ az;have x3:gm [rr,cc] C (gQ C2 p2 (.lst ((lG (wK A τ ss)).map oQ))):=fun b o hb ak=>Gr.new U _ _ _ (bw b o hb ak)
  generalize gQ C2 p2 (.lst ((lG (wK A τ ss)).map oQ))=C3 at ax a9 a0 x3 ⊢;refine yQ (i:=6) (ab 4 (.tup (I.map Hd.pv)) _ _ rfl (wW (fun zs acc O=>∃ds es:List Hd,I=ds++es/\zs=es.map Hd.pv/\acc=(iK A τ ds).map o5.pv/\Sf a O x aa rr A (rW A τ ds (eV A τ ss (oY A τ B R)))/\gm [rr] C3 O) ?_ ?_ _ _ _ ⟨[],I,rfl,rfl,rfl,ax,gm.refl⟩))
  .rintro z zs acc O ⟨ds,es,e1,e2,rfl,ay,x4⟩ L hL
   cases es with
   |nil=>cases e2
   |cons u es =>
    obtain⟨rfl,rfl⟩:=BI e2;obtain⟨bz,bp⟩:=ay.ins;refine⟨cX bp rfl,⟨u,x,aa,tt,rr,A,τ,_,bs,ns,rfl,G.1 u (by rw[e1];exact Aa _ AG),ay,x4 _ _ au a0,q,qM (wJ q.a) (fun y hy=>G.1 y (by rw[e1];exact A2 _ hy)) a5,fun C5 ai x5=>?_⟩⟩;refine hL _ _ ⟨?_,ds++[u],es,by rw[e1,AR];rfl,rfl,by unfold iK;rw[AS,AS];rfl,?_,x4.trans x5⟩
    .rw [AB]
     unfold iK;rw[AB];have hl:=G.2;have:ds.length<=4:=by rw[e1,AE] at hl;lia
     exact An this (by decide)
    .unfold rW at ai ⊢
     rw[B9];exact ai
  .rintro acc O ⟨ds,es,e1,e2,rfl,ay,x4⟩ p4 aw
   cases es with
   |cons _ _=>cases e2
   |nil =>
    rw[Ae] at e1;subst e1
    apply vJ jQ
    have ai:=ay.new aw (.lst ((iK A τ I).map o5.pv));have ba:(gQ O p4 (.lst ((iK A τ I).map o5.pv))) cc=some (.dK (oW N (kU A τ B))):=Gr.new aw _ _ _ (x4 _ _ ag a9);have bb:(gQ O p4 (.lst ((iK A τ I).map o5.pv))) tt=some (.dK τ):=Gr.new aw _ _ _ (x4 _ _ au a0);have x5:gm [rr,cc] C (gQ O p4 (.lst ((iK A τ I).map o5.pv))):=fun b o hb ak=>Gr.new aw _ _ _ ((qP (cc:=cc) x4) b o hb (x3 b o hb ak))
    generalize gQ O p4 (.lst ((iK A τ I).map o5.pv))=C5 at ai ba bb x5 ⊢;obtain⟨b0,bq⟩:=ai.ins;refine ab 2 (.str a4) _ _ rfl ⟨cX bq rfl,ab 5 (.tup (Ln.f9 J)) _ _ rfl ?_⟩;have bg:1+Ln.iw J<=400:=a8;refine⟨d,rfl,J,x,aa,tt,rr,A,τ,_,bs,bc,ns,rfl,aj,by lia,by lia,ai,bb,q,qM (wJ q.a) G.1 a5,fun C6 bu x6=>?_⟩;refine⟨y0 6 rfl,?_⟩;have:=a3 C6 (x6 _ _ ag ba) bu (x5.trans (qP x6))
    unfold xF Wt.pv at this;exact this
end
theorem Ow.put(h:Ow τ)k(hi:Bd i):Ow (nZ τ k (.int i)):=by
 intro B hk
 delta nZ at hk
 split at hk
 .obtain ⟨x,q,rfl⟩:=AX.1 hk
  split
  .lia
  .exact h x q
 .rcases Ad.1 hk with hk | hk
  .exact h B hk
  .grind
inductive Z1(a:Adr)(d:Nat)(ts:List PV)(C:CH)(Q:K1):Prop
 |mk(n:Str)(rk:Rk)(l1:List Ln)(x aa tt rr ff cc:Addr)(A:iy)(τ:jx)(st:n8)(bs rs ns:List Str)(z0:ts=[.ref x,(Ln.each n rk l1).pv,.ref tt,.ref ff,.ref cc])(z1:iu bs rs d ns (.each n rk l1))(z2:st.1.length+(Ln.each n rk l1).tw<=400)(z3:st.2.1.length+(Ln.each n rk l1).tw<=400)(z4:τ.length+d<=50)(z5:S6 a C x aa rr tt ff cc A τ st)(z6:yU A τ bs ns)(z7:jy bs st.2.2)(z8:jn st.2.1)(z9:∀C',S6 a C' x aa rr tt ff cc A τ (wZ A (.each n rk l1) τ st)->gm [ff,cc,rr] C C'->Q .non C')
section
variable {W:Wd}{a:Adr}
def Yp(T:Tx W a)(d k:Nat)(h7:7<=k)(dJ:Ok W a k 47 ["self","lines","turns","row","counts"] (Nq a d)):Ok W a (k+1) 48 ["self","line","turns","row","counts"] (Z1 a d):=by
 have S:=(T.F 48 rfl).s;have gX:=(eB T 2).mono (show 6<=k by lia)
 refine(T.F 48 rfl).o (fun hr=>(xQ (gn 5 S.nd (vZ (gP rfl) fI rfl T.Wh rfl (qQ (wN (v:=.int 8) (t:=.int 8) rfl T.Xo ⟨_,rfl⟩ (fun _=>.int _)) (d7 (cm T.xX (T.F 44 rfl) T.rX gX hr (cv 0) (qQ (cx (cv 1) zQ) (d7 (cv 2))))))))
  (kQ (cD PassesOwn.never rfl rfl T.xV (d7 (cv 5)) (mq 6 S.nd) (xQ (gn 7 S.nd (bK Jg VQ rfl T.X6 rfl (d7 (cv 2))))
  (xQ (gV (qZ hr) (cv 7) (cx (cv 1) zQ) (cv 6))
  (kQ (sX (cm T.xX (T.F 47 rfl) T.rX dJ hr (cv 0) (qQ (cx (cv 1) zQ) (qQ (cv 7) (qQ (cv 3) (d7 (cv 4)))))))))))))) ?_
 rintro ts C Q ⟨n,F,q,x,aa,tt,rr,ff,cc,A,τ,aj,bs,a3,ns,rfl,hu,hF,hN,bf,s1,L,R1,ar,a0⟩
 cases d with
 |zero=>exact hu.elim
 |succ d' =>
 obtain⟨ah,o1,_⟩:=hu;have ep:(Ln.each n F q).pv=.tup [.str "each",.str n,F.pv,.tup (Ln.f9 q)]:=by rw[Ln.pv]
 have ba:(Ln.each n F q).tw=8 * Ln.iw q:=by rw[Ln.tw]
 have U:yU A τ bs []:=⟨L.a,L.t,(fun _ z=>nomatch z),L.b⟩;obtain⟨dx,mx⟩:=s1.sf.ins;refine⟨cX mx rfl,yX ep (v:=F.pv) rfl ⟨F,x,aa,tt,rr,A,τ,_,bs,[],rfl,ah.mono (by decide),s1.sf,s1.mt,U,R1,fun C2 a6 e2=>?_⟩⟩
 apply Yv
 have av:=tM U.a U.t U.h ah;unfold Bd at av;refine⟨by split<;>lia,by split<;>lia,?_⟩;have au:=sV (τ:=τ) (wJ L.a) ah R1;have a4:=s1.rd e2 a6;show pY _ _ _ ((List.range (lH (F.val A τ))).map fun k=>PV.int (k:Nat)) _ _;generalize ak:lH (F.val A τ)=O;have bc:O<=8:=by rw[<- ak];exact tD _
 let f:n8->Nat->n8:=fun st k=>sQ A q (nZ τ (.inr n) (.int (k:Nat))) st
 let J:n8:=(aj.1,aj.2.1,F.jz A τ aj.2.2)
 refine iZ (fun zs ρ C'=>∃(j:Nat)(x6 x7:Option PV),j<=O/\zs=((List.range O).drop j).map (fun k:Nat=>PV.int (k:Nat))/\ρ=[some (.ref x),some (Ln.each n F q).pv,some (.ref tt),some (.ref ff),some (.ref cc),some (.int (if F.val A τ < 8 then F.val A τ else 8)),x6,x7]/\S6 a C' x aa rr tt ff cc A τ ((List.range j).foldl f J)/\gm [ff,cc,rr] C C') ?_ ?_ _ _ _ ⟨0,_,_,AW _,rfl,rfl,a4,jI e2⟩
 .rintro z zs ρ I ⟨j,y9,a8,hj,Y,rfl,G,e3⟩ L3 aw
  obtain⟨ay,rfl,rfl⟩:=cM Y;refine yQ (Ew G.mt fun B af=>jZ (yX ep (v:=.str n) rfl (nY (k:=.inr n) jQ rfl (by lia) ?_)));have ag:∀b o,I b=some o->b≠B:=fun b o h z=>by rw[z,af] at h;cases h
  have ab:=tG (f:=f) (m:=fun st=>st.1.length) (c:=Ln.iw q) (fun x k=>(oZ A q _ x).1) (List.range j) J;have ae:=tG (f:=f) (m:=fun st=>st.2.1.length) (c:=Ln.iw q) (fun x k=>(oZ A q _ x).2) (List.range j) J;rw[Ak] at ab ae
  have ao:j * Ln.iw q+Ln.iw q<=8 * Ln.iw q:=by
   have:(j+1) * Ln.iw q<=8 * Ln.iw q:=BR _ (by lia);rw[Nat.add_mul,Nat.one_mul] at this;exact this
  have ab:=ab;have ae:=ae;have R3:jy bs ((List.range j).foldl f J).2.2:=xB (P:=fun st:n8=>jy bs st.2.2) (fun x k p=>fP (wJ L.a) o1 p) _ _ au;have N3:jn ((List.range j).foldl f J).2.1:=xB (P:=fun st:n8=>jn st.2.1) (fun x k p=>pG A q _ x p) _ _ ar;have a7:Ow (nZ τ (.inr n) (.int (j:Nat))):=L.t.put _ (by delta Bd;lia)
  have ax:yU A (nZ τ (.inr n) (.int (j:Nat))) bs [n]:=⟨L.a,a7,fun m ao=>by
   cases AF.1 ao
   rw[cE,Ah rfl];rfl,L.b⟩
  have bb:(nZ τ (.inr n) (.int (j:Nat))).length<=τ.length+1:=qD _ _ _;have x4:gm [ff,cc,rr] I (gQ (gQ I B (.dK τ)) B (.dK (nZ τ (.inr n) (.int (j:Nat))))):=(gm.refl.put af _).put af _;have Z:∀b o,I b=some o->gQ (gQ I B (.dK τ)) B (.dK (nZ τ (.inr n) (.int (j:Nat)))) b=some o:=fun b o h=>by rw[wQ (ag b o h),wQ (ag b o h)];exact h
  have m4:gQ (gQ I B (.dK τ)) B (.dK (nZ τ (.inr n) (.int (j:Nat)))) B=some (.dK (nZ τ (.inr n) (.int (j:Nat)))):=jQ;generalize gQ (gQ I B (.dK τ)) B (.dK (nZ τ (.inr n) (.int (j:Nat))))=C4 at x4 Z m4 ⊢;have aq:Sf a C4 x aa rr A ((List.range j).foldl f J).2.2:=G.sf.keep' (S:=[]) (fun b o _ h=>Z b o h) CQ CQ CQ;have a5:S6 a C4 x aa rr B ff cc A (nZ τ (.inr n) (.int (j:Nat))) ((List.range j).foldl f J):=⟨aq,m4,Z _ _ G.mf,Z _ _ G.mc,Ne.symm (ag _ _ G.mc)⟩
  obtain⟨a9,az⟩:=aq.ins;refine⟨cX az rfl,yX ep (v:=.tup (Ln.f9 q)) rfl ⟨d',rfl,q,x,aa,B,rr,ff,cc,A,_,_,bs,a3,[n],rfl,o1,by lia,by lia,by lia,a5,ax,R3,N3,fun C5 ai e5=>?_⟩⟩;refine aw _ _ ⟨j+1,_,_,ay,rfl,rfl,?_,e3.trans (x4.trans e5)⟩;have ef:(List.range (j+1)).foldl f J=f ((List.range j).foldl f J) j:=by rw[List.range_succ,B9];rfl
  rw[ef];exact⟨ai.sf,(x4.trans e5) _ _ G.nt G.mt,ai.mf,ai.mc,G.tc⟩
 .rintro ρ I ⟨j,y9,a8,hj,Y,rfl,G,e3⟩
  have ej:j=O:=by
   rcases DE j O with h | h
   .rw [Ap (by rw[Ak];exact h)] at Y
    cases Y
   .lia
  subst ej;refine a0 I ?_ e3;rw[wZ,ak];exact G
def QU(T:Tx W a)(d k:Nat)(h7:7<=k)(dJ:Ok W a k 47 ["self","lines","turns","row","counts"] (Nq a d))(kT:Ok W a k 49 ["self","line","turns","counts"] (Y3 a d))(pM:Ok W a k 48 ["self","line","turns","row","counts"] (Z1 a d)):
  Ok W a (k+1) 47 ["self","lines","turns","row","counts"] (RW a d):=by
 have S:=(T.F 47 rfl).s;have gX:=(eB T 2).mono (show 6<=k by lia)
 refine(T.F 47 rfl).o (fun hr=>(kQ (gY PassesOwn.never rfl (cv 1) (mq 5 S.nd) (kQ (uX (ct2 lX jX (cx (cv 5) zQ) vQ) (xQ (gn 6 S.nd (xE (ct2 lX jX (cm T.xX (T.F 44 rfl) T.rX gX hr (cv 0) (qQ (cx (cv 5) zQ) (d7 (cv 2)))) zQ) (cx (cv 5) zQ) (cx (cv 5) zQ)))
  (kQ (sX (cm T.xX (T.F 47 rfl) T.rX dJ hr (cv 0) (qQ (cv 6) (qQ (cv 2) (qQ (cv 3) (d7 (cv 4))))))))) (kQ (uX (ct2 lX jX (cx (cv 5) zQ) vQ) (kQ (sX (cm T.xX (T.F 48 rfl) T.rX pM hr (cv 0) (qQ (cv 5) (qQ (cv 2) (qQ (cv 3) (d7 (cv 4)))))))) (kQ (sX (cap (cv 3) (cm T.xX (T.F 49 rfl) T.rX kT hr (cv 0) (qQ (cv 5) (qQ (cv 2) (d7 (cv 4))))))))))))))) ?_
 rintro ts C Q ⟨J,x,aa,tt,rr,ff,cc,A,τ,st,bs,af,ns,rfl,ar,hF,hN,ak,hE,I,hR,hC,aw⟩;refine yF rfl (iZ (fun zs ρ C'=>∃ds us x5 x6,J=ds++us/\zs=Ln.f9 us/\ρ=[some (.ref x),some (.tup (Ln.f9 J)),some (.ref tt),some (.ref ff),some (.ref cc),x5,x6]/\S6 a C' x aa rr tt ff cc A τ (sQ A ds τ st)/\gm [ff,cc,rr] C C') ?_ ?_ _ _ _ ⟨[],J,_,_,rfl,rfl,rfl,by rw[bJ];exact hE,gm.refl⟩)
 .rintro z zs ρ C1 ⟨ds,us,x5,x6,e,hz,rfl,s1,e1⟩ L hL
  cases us with
  |nil=>cases hz
  |cons u us =>
  obtain⟨rfl,rfl⟩:=BI hz;have hu:=ar u (e▸Aa _ AG);have a3:Ln.iw J=Ln.iw ds+(u.tw+Ln.iw us):=by rw[e,Ln.qp];rfl
  have F:=oZ A ds τ st;have Z:jy bs (sQ A ds τ st).2.2:=fP (wJ I.a) (fun x hx=>ar x (e▸A2 _ hx)) hR;have U:=pG A ds τ st hC
  have ab:∀C' x5 x6,S6 a C' x aa rr tt ff cc A τ (wZ A u τ (sQ A ds τ st))->gm [ff,cc,rr] C1 C'->L [some (.ref x),some (.tup (Ln.f9 J)),some (.ref tt),some (.ref ff),some (.ref cc),x5,x6] C':=by
   intro C' y5 y6 h1 h2;refine hL _ _ ⟨ds++[u],us,y5,y6,by rw[AR];exact e,rfl,rfl,?_,e1.trans h2⟩
   rwa [ZS,mJ,bJ]
  clear hL;generalize a0:sQ A ds τ st=q at s1 F Z U ab;obtain⟨ax,ag⟩:=s1.sf.ins
  by_cases O:Ej u=true
  .obtain ⟨wd,rest,ep,n1,n2⟩:=Pn O
   refine yX ep wX (mX (cQ _ _) (yJ (by rw[n1];rfl) ?_));refine yX ep wX (mX (cQ _ _) (yJ (by rw[n2];rfl) ?_));refine⟨lW s1.mf,⟨cX ag rfl,⟨u,x,aa,tt,rr,cc,A,τ,_,_,bs,af,ns,rfl,O,hu,by lia,ak,s1.sf,s1.mt,s1.mc,s1.tc,U,by have:=F.2;lia,I,Z,fun C2 m2 ae x2=>?_⟩⟩⟩
   have nf:ff∉[rr,cc]:=fun z=>by
    simp only[List.mem_cons,List.not_mem_nil,or_false] at z
    rcases z with z | z
    .exact s1.fr z
    .exact s1.fc z
   have ao:=x2 _ _ nf s1.mf
   apply gH ao (by rw[Wt.jo];have:=F.1;exact An (show q.1.length<=400 by lia) (by decide))
   have eo:=ZR A τ u q.1 q.2.1 q.2.2 O;have ah:=ae.nl ao;refine ab _ _ _ ?_ ((Kg x2).at (by simp) _);rw[show q=(q.1,q.2.1,q.2.2) from rfl,eo];refine⟨ae.keep' (gm.refl.at AG _) (fun z=>ah.1 (AF.1 z)) (fun z=>ah.2.1 (AF.1 z)) (fun z=>ah.2.2 (AF.1 z)),?_,by rw[jQ,Wt.j9];rfl,by exact(wQ (Ne.symm s1.fc))▸m2,s1.tc⟩
   exact(wQ s1.tf)▸(Kg x2) _ _ s1.nt s1.mt
  .cases u with
   |plain k a4 s hs J=>exact absurd rfl O
   |part k n g=>exact absurd rfl O
   |give k n r J=>exact absurd rfl O
   |when B G l2 =>
    cases d with
    |zero=>exact hu.elim
    |succ d' =>
    obtain⟨au,⟨o1,_⟩,o2,_⟩:=hu;have ep:(Ln.when B G l2).pv=.tup [.str "when",B.pv,.tup (Ln.f9 G),.tup (Ln.f9 l2)]:=by rw[Ln.pv]
    have az:(Ln.when B G l2).tw=Ln.iw G+Ln.iw l2:=by rw[Ln.tw]
    refine yX ep wX (mX (cQ _ _) (pW rfl (yQ (Rw ⟨cX ag rfl,yX ep rfl ⟨B,x,aa,tt,rr,A,τ,_,bs,ns,rfl,au.mono (by decide),s1.sf,s1.mt,I,Z,fun C2 ae e2=>?_⟩⟩))));have aj:=sV (τ:=τ) (wJ I.a) au Z;have av:=s1.rd e2 ae;obtain⟨ay,aq⟩:=ae.ins
    apply mX (eX _ _)
    by_cases h0:B.val A τ=0
    .refine pW (Am h0) (yX ep rfl ⟨cX aq rfl,⟨d',rfl,l2,x,aa,tt,rr,ff,cc,A,τ,(q.1,q.2.1,B.jz A τ q.2.2),bs,af,ns,rfl,o2,by have:=F.1;lia,by have:=F.2;lia,by lia,av,I,aj,U,fun Y ai e3=>?_⟩⟩)
     refine ab Y _ _ ?_ ((jI e2).trans e3)
     rwa [wZ,Ah h0]
    .refine yJ (AU h0) (yX ep rfl ⟨cX aq rfl,⟨d',rfl,G,x,aa,tt,rr,ff,cc,A,τ,(q.1,q.2.1,B.jz A τ q.2.2),bs,af,ns,rfl,o1,by have:=F.1;lia,by have:=F.2;lia,by lia,av,I,aj,U,fun Y ai e3=>?_⟩⟩)
     refine ab Y _ _ ?_ ((jI e2).trans e3)
     rwa [wZ,Af h0]
   |each n B G =>
    have ep:(Ln.each n B G).pv=.tup [.str "each",.str n,B.pv,.tup (Ln.f9 G)]:=by rw[Ln.pv]
    refine yX ep wX (mX (cQ _ _) (yJ rfl (yX ep wX (mX (cQ _ _) (pW rfl ⟨cX ag rfl,⟨n,B,G,x,aa,tt,rr,ff,cc,A,τ,q,bs,af,ns,rfl,hu,by have:=F.1;lia,by have:=F.2;lia,ak,s1,I,Z,U,fun Y ai e3=>?_⟩⟩)))));exact ab Y _ _ ai e3
 .rintro ρ C1 ⟨ds,us,x5,x6,e,hz,rfl,s1,e1⟩
  cases us with
  |cons u us=>cases hz
  |nil =>
   rw[Ae] at e;subst e;exact aw C1 s1 e1
def Rg(T:Tx W a)d:Ok W a (3 * d+9) 47 ["self","lines","turns","row","counts"] (RW a d):=by
 induction d with
 |zero =>
  exact QU T 0 8 (by decide) (cK fun ts C Q ⟨d',e,_⟩=>by lia) (cK fun ts C Q z=>by obtain⟨l,x,aa,tt,rr,cc,A,τ,R,N,bs,J,ns,_,_,h,_⟩:=z;exact h) (cK fun ts C Q z=>by obtain⟨n,O,L,x,aa,tt,rr,ff,cc,A,τ,U,bs,J,ns,_,h,_⟩:=z;exact h)
 |succ d B =>
  have S:=Yf T B
  have G:Y5 a (d+1)=Np a d:=by
   funext ts C Q
   refine propext ⟨fun⟨F,z,h⟩=>?_,fun h=>⟨d,rfl,h⟩⟩;cases BC z;exact h
  have q:Nq a (d+1)=RW a d:=by
   funext ts C Q
   refine propext ⟨fun⟨F,z,h⟩=>?_,fun h=>⟨d,rfl,h⟩⟩;cases BC z;exact h
  have I:=Yp T (d+1) (3 * d+9) (B3 _ _) (by rwa [q]);have:=QU T (d+1) (3 * d+9+1+1) (B3 _ _) (q▸B.mono (by lia)) (zg T (d+1) (3 * d+9+1) (B3 _ _) (by rwa [G])) (I.mono (Bn _));have e:3 * d+9+1+1+1=3 * (d+1)+9:=by lia
  rwa [e] at this
end
noncomputable def stOf:Key->Str
 |.inr x=>x
 |_=>""
noncomputable def ciOf:PV->Int
 |.int i=>i
 |_=>0
noncomputable def rdC(q:List Key×PV):List Str×Int:=(q.1.map stOf,ciOf q.2)
structure Pc where
 reads:List (List Str×Int)
 row:List Wt
 works:List (Str×Int)
noncomputable def Pc.pv(x:Pc):PV:=.tup [.tup (x.reads.map lE),.tup (Wt.f9 x.row),.tup (x.works.map oQ)]
noncomputable def za(A:iy)(x:Pt):iy:=eV A [] x.works (sQ A x.ls [] ([],[],[])).2.2
noncomputable def Mq(A:iy)(x:Pt):Pc:=⟨Mt ((za A x).map rdC),(sQ A x.ls [] ([],[],[])).1,wK A [] x.works⟩
def YL(h:B ρ C fun x C1=>∃b kvs,x=.ref b/\C1 b=some (.dT kvs)/\Q (.vw b) C1)(I:∀(F G:K1),(∀v C1,F v C1->G v C1)->B ρ C F->B ρ C G):gN B ρ C Q:=by
 delta gN
 refine I _ _ ?_ h;rintro v C1 ⟨b,kvs,rfl,m,q⟩;dsimp only
 rwa [m]
def KY(m:C p=some (.dT kvs))(e:Lr kvs=some cs)(h:cs.length < 64)(q:∀B,C B=none->Q (.ref B) (gQ C B (.lst ((Mt cs).map lE)))):aD [.vw p] C Q:=by
 delta aD
 dsimp only;rw[m];dsimp only;exact e▸⟨h,q⟩
def Xp B F(h:∀v C1,B v C1->F v C1)(q:Jj c f x C B):Jj c f x C F:=by
 delta Jj at q ⊢
 split at q
 .grind
 .exact q
def Qm B F(h:∀v C1,B v C1->F v C1)(q:zV i ρ C B):zV i ρ C F:=by
 delta zV at q ⊢
 split at q
 .exact h _ _ q
 .exact q
theorem HY: ∀{R},(∀k∈R.map (·.1),∃s n,k=qK s n/\bE bs s n)->uo R->Lr R=some (R.map rdC)
 |[],_,_=>rfl
 |x::R,h1,h2=>by
  refine bG (h1 x.1 AG) fun s n e _=>dQ (h2 x AG) fun i q _=>?_;have B:=HY (fun k hk=>h1 k (AJ _ hk)) fun F hk=>h2 F (AJ _ hk);obtain⟨k,v⟩:=x;cases e;cases q;unfold Lr;rw[B]
  rfl
section
variable {W:Wd}{a:Adr}
inductive Gb(ts:List PV)(C:CH)(Q:K1):Prop
 |mk(x:Pt)(aa:Addr)(A:iy)(rs:List Str)(cap:Nat)(z0:ts=[x.pv,.ref aa])(z1:q8 rs cap x)(z2:C aa=some (.dT A))(z3:uo A)(z4:∀C',Gr C C'->Q (Mq A x).pv C')
def Yo(T:Tx W a):Ok W a 29 8 ["part","answers"] Gb:=by
 have S:=(T.F 8 rfl).s;have jL:=(ok_init T).mono (show 1<=27 by decide);have jW:=Yf T (Rg T 6);have oK:=(zH T).mono (show 7<=28 by decide)
 refine(T.F 8 rfl).o (fun G=>(xQ (gn 2 S.nd (Kv T.Vp jL G rfl T.rX (T.F 43 rfl).b kO (d7 (cv 1))))
  (xQ (gn 3 S.nd (cm T.xX (T.F 46 rfl) T.rX jW G (cv 2) (qQ (cx (cv 0) zQ) (d7 mI))))
  (xQ (gn 4 S.nd (p7 T.hX (cm T.xX (T.F 45 rfl) T.rX oK G (cv 2) (qQ (cx (cv 0) zQ) (d7 mI)))))
  (kQ (fQ (mQ (qQ (p7 T.hX (vZ (pI rfl) (XJ (wF G)) rfl T.lN rfl (d7 (VN (fF T.xX T.iW (cv 2)))))) (qQ (cv 3) (d7 (cv 4))))))))))) ?_
 rintro ts C Q ⟨F,aa,A,a0,a5,rfl,B,U,L,q⟩;have O:yU A [] (F.first.map (·.1)) []:=⟨L,(fun _ z=>nomatch z),(fun _ z=>nomatch z),by rw[AB];exact B.fl⟩;have ae:jy (F.first.map (·.1)) []:=⟨BS,(fun _ z=>nomatch z),(fun _ z=>nomatch z)⟩;intro x dx ak a6 ba;have aw:aa≠x:=fun z=>by rw[z,ak] at U;cases U
 refine⟨x,dx,aa,A,rfl,jQ,by rw[wQ aw];exact U,fun C1 rr ay Y x1=>⟨rfl,?_⟩⟩
 try dsimp only
 have ao:Gr C C1:=fun b o h=>by
  have:b≠x:=fun z=>by rw[z,ak] at h;cases h
  exact x1 b o (fun z=>this (AF.1 z)) (by rwa [wQ this])
 have az:C rr=none:=by
  rwa [wQ (Ne.symm Y.nx)] at ay
 have ab:∀{C2 I:CH},Gr C C2->gm [rr] C2 I->Gr C I:=fun g e b o h=>e b o (fun z=>by rw[AF.1 z,az] at h;cases h) (g b o h);obtain⟨a7,ar⟩:=Y.ins;refine yQ ⟨cX ar rfl,tX rfl ?_⟩;intro p ag;have a3:=Y.new ag (.dK []);have bb:=B.tw;refine⟨F.ls,x,aa,p,rr,A,[],[],_,a0,[],rfl,B.ls,by lia,by decide,a3,jQ,O,ae,fun I ai x3=>?_⟩;have Z:=fP (τ:=[]) (st:=([],[],[])) (wJ L) B.ls ae
 have aq:=ab (ao.trans (Gr.new ag _)) x3;obtain⟨a8,au⟩:=ai.ins;refine yQ ⟨cX au rfl,tX rfl ?_⟩;intro p2 ah;have a4:=ai.new ah (.dK []);refine⟨F.works,x,aa,p2,rr,A,[],_,_,[],rfl,fun y hy=>⟨(B.wk y hy).1.mono (by decide),(B.wk y hy).2⟩,B.wl,a4,jQ,O,Z,fun C5 l l0 m5 aj x5=>?_⟩;have g5:=ab (aq.trans (Gr.new ah _)) x5
 apply vJ m5
 obtain⟨a9,av⟩:=aj.ins;have J:jy (F.first.map (·.1)) (za A F):=xG (wJ L) B.wk Z;have af:C5 rr=some (.dT (za A F)):=aj.ask;have hb:=O.b;refine YL ?_ ?_
 .refine wR av rfl ⟨rr,za A F,rfl,af,KY af (HY J.ks J.vs) (by rw[AB];have:=J.len;lia) fun p6 ax=>?_⟩
  refine vJ jQ ⟨y0 3 rfl,?_⟩;exact q _ (g5.trans (Gr.new ax _))
 .intro Q1 Q2 h q
  exact Qm _ _ (fun v C1 q=>Xp _ _ h q) q
end
def aZ(h:u r (ρ.set i (some t)) C Q):IK (GB i) u (t::r) ρ C Q:=h
def jP(h:Q ρ C):Ss [] ρ C Q:=h
noncomputable def ou(c:Str×Int):Key×PV:=(.inr c.1,.int c.2)
noncomputable def pS(ds:List (Str×Int))(n:Str)(i:Int):List (Str×Int):=if (ds.any fun c=>decide (c.1=n))=true then ds.map fun c=>if c.1=n then (c.1,i) else c else ds++[(n,i)]
noncomputable def aJ(cs ds:List (Str×Int)):List (Str×Int):=ds.foldl (fun acc c=>pS acc c.1 c.2) cs
def YJ: ((Sum.inr x:Key)=Sum.inr y)↔x=y :=by grind
def Qk ds n i:nZ (ds.map ou) (.inr n) (.int i)=(pS ds n i).map ou:=by
 have h1:((ds.map ou).any fun q=>decide (q.1=(Sum.inr n:Key)))=ds.any fun c=>decide (c.1=n):=by
  rw[List.any_map]
  congr 1
  funext c
  exact decide_eq_decide.2 YJ
 have h2:((ds.map ou).map fun q=>if q.1=(Sum.inr n:Key) then (q.1,PV.int i) else q)=(ds.map fun c=>if c.1=n then (c.1,i) else c).map ou:=by
  rw[Bo,Bo]
  congr 1
  funext c
  show(if (Sum.inr c.1:Key)=Sum.inr n then ((Sum.inr c.1:Key),PV.int i) else ou c)=ou (if c.1=n then (c.1,i) else c)
  by_cases e:c.1=n
  .rw [Ah (YJ.2 e),Ah e];rfl
  .lia
 delta nZ pS
 rw[h1]
 by_cases b:(ds.any fun c=>decide (c.1=n))=true
 .lia
 .rw [Af b,Af b,AS];rfl
def J0 ds:∀cs,tV (cs.map ou) (ds.map ou)=(aJ cs ds).map ou:=by
 induction ds with
 |nil=>intro cs;rfl
 |cons d ds q =>
  intro cs;show tV (nZ (cs.map ou) (.inr d.1) (.int d.2)) (ds.map ou)=(aJ (pS cs d.1 d.2) ds).map ou;rw[Qk,q]
theorem wA:∀ds:List (Str×Int),qW (ds.map oQ)=some (ds.map ou)
 |[]=>rfl
 |d::ds=>by
  show(match aV (.str d.1),qW (ds.map oQ) with | some k,some ps=>some ((k,PV.int d.2)::ps) | _,_=>none)=_;rw[wA ds];rfl
theorem Py:∀ds,Lz (ds.map ou)=some ds
 |[]=>rfl
 |d::ds=>by
  show(Lz (ds.map ou)).map _=_;rw[Py ds];rfl
def yc ds n i:(pS ds n i).length<=ds.length+1 :=by grind[pS,List.length_map,List.length_append,List.length_singleton]
def aB ds:∀cs,(aJ cs ds).length<=cs.length+ds.length:=by
 induction ds with
 |nil=>intro cs;exact AI _
 |cons d ds q =>
  intro cs;have h1:=q (pS cs d.1 d.2);have h2:=yc cs d.1 d.2;show(aJ (pS cs d.1 d.2) ds).length<=_;rw[AQ]
  lia
def uA cs:(lG cs).length=cs.length:=by
 delta lG
 rw[AB]
 by_cases h:0 < cs.length
 .have:=(uG (Zg cs) cs.length h).length_eq
  rw[this,Ak]
 .have e:cs.length=0:=by lia
  rw[e,xg];rfl
def Nz(h:ds.length<=1000)(q:∀p,C p=none->Q (.ref p) (gQ C p (.dK ((aJ [] ds).map ou)))):fN [.tup (ds.map oQ)] C Q:=by
 delta fN
 show(match qW (ds.map oQ) with | some ps=>ps.length<=sizeLine/\∀p,C p=none->Q (.ref p) (gQ C p (.dK (tV [] ps))) | none=>False);rw[wA];dsimp only;rw[show tV [] (ds.map ou)=(aJ [] ds).map ou from J0 ds []];exact⟨by rw[AB];exact AY h (by decide),q⟩
noncomputable def vY(ds q:List (Str×Int)):List (Str×Int):=lG (aJ (aJ [] ds) q)
def cL ds q:(vY ds q).length<=ds.length+q.length:=by
 delta vY
 rw[uA];have h1:=aB q (aJ [] ds);have h2:=aB ds [];have:([]:List (Str×Int)).length=0:=rfl
 lia
def Sa(P:Str×Int->Prop)(cs:List (Str×Int)):Prop:=∀c∈cs,P c
abbrev HH:=Sa fun c=>Bd c.2
abbrev uz:=Sa fun c=>Bd c.2/\c.1.length<=8
theorem uz.b(h:uz cs):HH cs:=fun c q=>(h c q).1
def QP(h:c∈lG cs):c∈cs:=by
 obtain⟨i,hi,rfl⟩:=AX.1 h
 have q:0 < cs.length:=by
  rcases Nat.eq_zero_or_pos cs.length with z | z
  .rw [z,xg] at hi;cases hi
  .exact z
 have:=(uG (Zg cs) cs.length q).mem_iff.mp hi;rw[BL] at this;rw[Be,AM this];exact BF _
theorem Sa.put(h:Sa P cs)n(hi:P (n,i)):Sa P (pS cs n i):=by
 intro c q
 delta pS at q
 split at q
 .obtain ⟨x,B,rfl⟩:=AX.1 q
  split
  .lia
  .exact h x B
 .rcases Ad.1 q with q | q
  .exact h c q
  .grind
def Sa.merge(B:Sa P q):∀{cs},Sa P cs->Sa P (aJ cs q):=by
 induction q with
 |nil=>intro cs h;exact h
 |cons m q G =>
  intro cs h;exact G (fun c F=>B c (AJ _ F)) (h.put m.1 (B m AG))
def Sa.over(B:Sa P ds)(F:Sa P G):Sa P (vY ds G):=fun c q=>(Sa.merge F (Sa.merge B (cs:=[]) (fun _ z=>nomatch z))) c (QP q)
section
variable {W:Wd}{a:Adr}
inductive RK(ts:List PV)(C:CH)(Q:K1):Prop
 |mk(ds ms:List (Str×Int))(z0:ts=[.tup (ds.map oQ),.tup (ms.map oQ)])(z1:ds.length+ms.length<=60)(z2:∀C',Gr C C'->Q (.tup ((vY ds ms).map oQ)) C')
end
noncomputable def Wt.sp:Wt->List Key
 |.plain s _ _ _ _=>s
 |.part s _ _=>s
 |.give s _ _ _=>s
def kB:Key->Prop
 |.inl none=>True
 |.inl (some i)=>Bd i
 |.inr _=>False
def uq(sp:List Key):Prop:=∃k c,sp=[k,.inl (some c)]/\kB k/\0<=c/\c<=400
theorem uq.l(h:uq sp):sp.length<=2:=by
 obtain⟨k,c,rfl,_⟩:=h;exact AI 2
def HvB(x:o5):Prop:=x.ev.length<=8/\(0<=x.rank/\x.rank<=9)/\∀c∈x.ch,c.1.length<=8/\c.2.1.length<=8/\Bd c.2.2
def j4(q:List Str):Nat->Wt->Prop
 |0,_=>False
 |_+1,.part sp n g=>uq sp/\n∈q/\g.length<=4/\uz g
 |d+1,.give sp n i r=>uq sp/\(Bd i/\n.length<=8)/\(∀x∈r,j4 q d x)/\(r.map Wt.sp).Nodup
 |d+1,.plain sp B ss h r=>uq sp/\(ss.length<=4/\h.length<=4/\(∀x∈h,x.ch.length<=4)/\B.length<=8/\uz ss/\∀x∈h,HvB x)/\(∀x∈r,j4 q d x)/\(r.map Wt.sp).Nodup
def bH(q:List Str)(d:Nat)(r:List Wt):Prop:=(∀x∈r,j4 q d x)/\(r.map Wt.sp).Nodup
def j4.up: ∀{d}{x},j4 F d x->j4 F (d+1) x:=by
 intro d
 induction d with
 |zero=>intro x h;exact h.elim
 |succ d B =>
  intro x h
  cases x with
  |plain s t g hs r=>exact⟨h.1,h.2.1,fun y q=>B (h.2.2.1 y q),h.2.2.2⟩
  |part s n g=>exact h
  |give s n i r=>exact⟨h.1,h.2.1,fun y q=>B (h.2.2.1 y q),h.2.2.2⟩
def j4.mono(h:j4 F d x)(B:d<=e):j4 F e x:=by
 induction B with
 |refl=>exact h
 |step _ q=>exact q.up
def uh(F:List Wt)(N:jx):Prop:=(F.map Wt.sp).Nodup/\(∀x∈F,∃k c,x.sp=[k,.inl (some c)]/\c < cH N k)/\∀k,0<=cH N k/\cH N k<=F.length
def lw(q:List Str)(e:Nat)(st:n8):Prop:=(∀x∈st.1,j4 q e x)/\uh st.1 st.2.1
def gF N k q:cH (oW N k) q=if q=k then cH N k+1 else cH N q:=by
 show(match kJ (nZ N k (.int (cH N k+1))) q with | some (.int i)=>i | _=>0)=_;rw[cE]
 by_cases e:q=k
 .simp_all
 .rw [Af e,Af e];rfl
def uh.add(h:uh F N)(O:x.sp=uW N k):uh (F++[x]) (oW N k):=by
 refine⟨?_,fun y q=>?_,fun G=>?_⟩
 .rw [AS,Cn]
  refine⟨h.1,by simp,fun a U b L e=>?_⟩;have L:b=x.sp :=by grind
  obtain⟨y,q,rfl⟩:=AX.1 U;obtain⟨G,c,I,J⟩:=(h.2.1 y q);rw[L,O,I] at e;injection e with e3 S
  injection S with B
  injection B with B
  injection B with B
  lia
 .rcases Ad.1 q with q | q
  .refine bG (h.2.1 y q) fun G c I J=>⟨G,c,I,?_⟩
   rw[gF]
   split
   .lia
   .exact J
  .cases AF.1 q
   exact⟨k,cH N k,O,by rw[gF,Ah rfl];lia⟩
 .rw [gF,AE,AO]
  have h1:=h.2.2 k;have h2:=h.2.2 G
  split<;>lia
def QY(q:yU A τ bs ns)(h:jT bs ns d ps):uz (lG (wK A τ ps)):=fun c F=>by
 have:=QP F;obtain⟨p,B,rfl⟩:=AX.1 this;exact⟨tM q.a q.t q.h (h p B).1,(h p B).2⟩
def ZU(q:yU A τ bs ns)(h:nA bs ns k):kB (kU A τ k):=by
 cases k with
 |none=>trivial
 |some r=>exact tM q.a q.t q.h h
theorem eR(h1:∀e,d<=e->∀l ns τ st,iu bs B d ns l->yU A τ bs ns->lw B e st->st.1.length+l.tw<=400->lw B e (wZ A l τ st)):∀e,d<=e->∀q ns τ st,(∀x∈q,iu bs B d ns x)->yU A τ bs ns->lw B e st->st.1.length+Ln.iw q<=400->lw B e (sQ A q τ st)
 |e,F,[],ns,τ,st,_,_,h,_=>by rwa [bJ]
 |e,F,l::q,ns,τ,st,I,G,h,L=>by
  rw[Ln.iw] at L;have:=(Q9 A l τ st).1;exact eR h1 e F q ns τ _ (fun x J=>I x (AJ _ J)) G (h1 e F l ns τ st (I l AG) G h (by lia)) (by lia)
theorem lw.nil: lw q e ([],[],R):=⟨fun _ z=>(nomatch z),BS,(fun _ z=>(nomatch z)),fun _=>⟨BA 0,BA 0⟩⟩
def Mw{A:iy}{bs O:List Str}(ae:∀s∈bs,s.length<=8):∀(d e:Nat),d<=e->∀(l:Ln)(ns:List Str)(τ:jx)(st:n8),iu bs O d ns l->yU A τ bs ns->lw O e st->st.1.length+l.tw<=400->lw O e (wZ A l τ st):=by
 intro d
 induction d with
 |zero=>intro e ab l ns τ st h;exact h.elim
 |succ d ih =>
  intro e ab l ns τ st h q J L;have sb:∀{k},kB k->uq (uW st.2.1 k):=fun {k}hk=>⟨k,_,rfl,hk,(J.2.2.2 k).1,by have:=(J.2.2.2 k).2;lia⟩;have U:=eR ih
  have Y:∀x k R,j4 O (d+1) x->x.sp=uW st.2.1 k->lw O e (st.1++[x],oW st.2.1 k,R):=by
   intro x k R B ag;refine⟨fun y F=>?_,J.2.add ag⟩
   rcases Ad.1 F with F | F
   .exact J.1 y F
   .cases AF.1 F;exact B.mono ab
  cases l with
  |plain k ai s hs I =>
   refine uR h fun h1 h2 G S Z=>?_;rw[wZ];have b:=U d (AI _) I ns τ ([],[],rW A τ hs (eV A τ s (oY A τ k st.2.2))) S q lw.nil (by rw[Ln.tw] at L;show 0+_<=_;lia);refine Y _ _ _ ⟨sb (ZU q h1),⟨?_,?_,fun x B=>?_,Z.2,QY q h2.1,fun x B=>?_⟩,b.1,b.2.1⟩ rfl
   .rw [uA];delta wK;rw[AB];exact h2.2
   .delta iK;rw[AB];exact G.2
   .unfold iK at B
    obtain⟨y,F,rfl⟩:=AX.1 B;show(Ja A τ y.ch).length<=4
    delta Ja
    rw[AB];exact(G.1 y F).1
   .unfold iK at B
    obtain⟨y,F,rfl⟩:=AX.1 B;have o:=G.1 y F;refine⟨o.2.2.1,o.2.2.2,fun c hc=>?_⟩;obtain⟨z,L,rfl⟩:=AX.1 hc;have o:=o.2.1 z L;exact⟨ae _ o.2.1,o.2.2,tM q.a q.t q.h o.1⟩
  |part k n g =>
   obtain⟨h1,h2,G,S⟩:=h;rw[wZ];refine Y _ _ _ ⟨sb (ZU q h1),h2,?_,QY q G⟩ rfl;rw[uA]
   delta wK
   rwa [AB]
  |give k n r I =>
   obtain⟨h1,h2,G,S,Z⟩:=h;rw[wZ];have b:=U d (AI _) I ns τ ([],[],r.jz A τ (oY A τ k st.2.2)) S q lw.nil (by rw[Ln.tw] at L;show 0+_<=_;lia);exact Y _ _ _ ⟨sb (ZU q h1),⟨tM q.a q.t q.h G,(by decide +kernel:∀s∈(["a","ab","b"]:List Str),s.length<=8) n h2⟩,b.1,b.2.1⟩ rfl
  |when r l1 l2 =>
   obtain⟨h1,⟨h2,G⟩,S,Z⟩:=h;rw[wZ]
   split
   .exact U e (by lia) l2 ns τ _ S q J (by rw[Ln.tw] at L;lia)
   .exact U e (by lia) l1 ns τ _ h2 q J (by rw[Ln.tw] at L;lia)
  |each n r I =>
   obtain⟨h1,h2,G⟩:=h;rw[wZ]
   have:∀(l:List Nat),(∀k∈l,k < 8)->∀x:n8,lw O e x->x.1.length+l.length * Ln.iw I<=400->lw O e (l.foldl (fun st k=>sQ A I (nZ τ (.inr n) (.int (k:Nat))) st) x):=by
    intro l
    induction l with
    |nil=>intro _ x B _;exact B
    |cons k l ah =>
     intro hk x B F;rw[AQ,Nat.succ_mul] at F;have hq:=(oZ A I (nZ τ (.inr n) (.int (k:Nat))) x).1;have k8:=hk k AG;refine ah (fun j hj=>hk j (AJ _ hj)) _ (U e (by lia) I [n] _ x h2 ⟨q.a,q.t.put _ (by delta Bd;lia),fun m af=>?_,q.b⟩ B (by lia)) (AY (Nat.add_le_add_right hq _) (by lia));cases AF.1 af;rw[cE,Ah rfl];rfl
   have h8:=tD (r.val A τ);refine this _ (fun k hk=>?_) _ J ?_
   .rw [BL] at hk
    lia
   .rw [Ak]
    rw[Ln.tw] at L;have:=BR (Ln.iw I) h8
    lia
def LR(h:∀x∈q,iu bs G d ns x)(B:yU A τ bs ns)(F:∀s∈bs,s.length<=8)(I:Ln.iw q<=400):bH G d (sQ A q τ ([],[],R)).1:=by
 have b:=eR (Mw F d) d (AI _) q ns τ ([],[],R) h B lw.nil (by grind);exact⟨b.1,b.2.1⟩
mutual
def Wt.pc:Wt->Nat
 |.plain _ _ _ _ r=>Wt.jg r
 |.part _ _ _=>1
 |.give _ _ _ r=>Wt.jg r
def Wt.jg:List Wt->Nat
 |[]=>0
 |x::r=>x.pc+Wt.jg r
end
def Wt.oh xs ys:Wt.jg (xs++ys)=Wt.jg xs+Wt.jg ys:=by
 induction xs with
 |nil=>show _=0+_;rw[BY];rfl
 |cons x xs q=>show x.pc+Wt.jg (xs++ys)=x.pc+Wt.jg xs+Wt.jg ys;lia
mutual
theorem Mz(A:iy):∀(l:Ln)(τ:jx)(st:n8),Wt.jg (wZ A l τ st).1<=Wt.jg st.1+l.pw
 |.when r F G,τ,st=>by
  rw[wZ];have h1:=eW A F τ (st.1,st.2.1,r.jz A τ st.2.2);have h2:=eW A G τ (st.1,st.2.1,r.jz A τ st.2.2);show _<=_+(Ln.ji F+Ln.ji G)
  split
  .exact AY h2 (by show Wt.jg st.1+_<=_;omega)
  .exact AY h1 (by show Wt.jg st.1+_<=_;omega)
 |.each n r q,τ,st=>by
  rw[wZ];have c:=tD (r.val A τ);have B:=tG (f:=fun st k=>sQ A q (nZ τ (.inr n) (.int (k:Nat))) st) (m:=fun st=>Wt.jg st.1) (c:=Ln.ji q) (fun x k=>eW A q _ x) (List.range (lH (r.val A τ))) (st.1,st.2.1,r.jz A τ st.2.2);rw[Ak] at B;have I:lH (r.val A τ) * Ln.ji q<=8 * Ln.ji q:=BR _ c;show _<=Wt.jg st.1+8 * Ln.ji q;exact AY B (by show Wt.jg st.1+_<=_;omega)
 |.part k n g,τ,st=>by
  rw[wZ];show Wt.jg (st.1++[_])<=_;rw[Wt.oh];exact AI _
 |.give k n r q,τ,st=>by
  rw[wZ];have h:=eW A q τ ([],[],r.jz A τ (oY A τ k st.2.2));show Wt.jg (st.1++[_])<=_;rw[Wt.oh];show Wt.jg st.1+(Wt.jg _+0)<=Wt.jg st.1+Ln.ji q;have h:Wt.jg (sQ A q τ ([],[],r.jz A τ (oY A τ k st.2.2))).1<=0+Ln.ji q:=h;omega
 |.plain k J s hs q,τ,st=>by
  rw[wZ];have h:=eW A q τ ([],[],rW A τ hs (eV A τ s (oY A τ k st.2.2)));show Wt.jg (st.1++[_])<=_;rw[Wt.oh];show Wt.jg st.1+(Wt.jg _+0)<=Wt.jg st.1+Ln.ji q;have h:Wt.jg (sQ A q τ ([],[],rW A τ hs (eV A τ s (oY A τ k st.2.2)))).1<=0+Ln.ji q:=h;omega
theorem eW(A:iy):∀(q:List Ln)(τ:jx)(st:n8),Wt.jg (sQ A q τ st).1<=Wt.jg st.1+Ln.ji q
 |[],τ,st=>by rw[bJ];exact Da _ _
 |l::q,τ,st=>by
  rw[mJ];have h1:=Mz A l τ st;have h2:=eW A q τ (wZ A l τ st);show _<=_+(l.pw+Ln.ji q);omega
end
mutual
def Wt.wc:Wt->Nat
 |.plain _ _ _ _ r=>1+Wt.ju r
 |.part _ _ _=>1
 |.give _ _ _ r=>1+Wt.ju r
def Wt.ju:List Wt->Nat
 |[]=>0
 |x::r=>x.wc+Wt.ju r
end
def Wt.qm xs ys:Wt.ju (xs++ys)=Wt.ju xs+Wt.ju ys:=by
 induction xs with
 |nil=>show _=0+_;rw[BY];rfl
 |cons x xs q=>show x.wc+Wt.ju (xs++ys)=x.wc+Wt.ju xs+Wt.ju ys;lia
mutual
theorem Mv(A:iy):∀(l:Ln)(τ:jx)(st:n8),Wt.ju (wZ A l τ st).1<=Wt.ju st.1+l.tw
 |.when r F G,τ,st=>by
  rw[wZ];have h1:=tW A F τ (st.1,st.2.1,r.jz A τ st.2.2);have h2:=tW A G τ (st.1,st.2.1,r.jz A τ st.2.2);show _<=_+(Ln.iw F+Ln.iw G)
  split
  .exact AY h2 (by show Wt.ju st.1+_<=_;omega)
  .exact AY h1 (by show Wt.ju st.1+_<=_;omega)
 |.each n r q,τ,st=>by
  rw[wZ];have c:=tD (r.val A τ);have B:=tG (f:=fun st k=>sQ A q (nZ τ (.inr n) (.int (k:Nat))) st) (m:=fun st=>Wt.ju st.1) (c:=Ln.iw q) (fun x k=>tW A q _ x) (List.range (lH (r.val A τ))) (st.1,st.2.1,r.jz A τ st.2.2);rw[Ak] at B;have I:lH (r.val A τ) * Ln.iw q<=8 * Ln.iw q:=BR _ c;show _<=Wt.ju st.1+8 * Ln.iw q;exact AY B (by show Wt.ju st.1+_<=_;omega)
 |.part k n g,τ,st=>by
  rw[wZ];show Wt.ju (st.1++[_])<=_;rw[Wt.qm];exact AI _
 |.give k n r q,τ,st=>by
  rw[wZ];have h:=tW A q τ ([],[],r.jz A τ (oY A τ k st.2.2));show Wt.ju (st.1++[_])<=_;rw[Wt.qm];show Wt.ju st.1+((1+Wt.ju _)+0)<=Wt.ju st.1+(1+Ln.iw q);have h:Wt.ju (sQ A q τ ([],[],r.jz A τ (oY A τ k st.2.2))).1<=0+Ln.iw q:=h;omega
 |.plain k J s hs q,τ,st=>by
  rw[wZ];have h:=tW A q τ ([],[],rW A τ hs (eV A τ s (oY A τ k st.2.2)));show Wt.ju (st.1++[_])<=_;rw[Wt.qm];show Wt.ju st.1+((1+Wt.ju _)+0)<=Wt.ju st.1+(1+Ln.iw q);have h:Wt.ju (sQ A q τ ([],[],rW A τ hs (eV A τ s (oY A τ k st.2.2)))).1<=0+Ln.iw q:=h;omega
theorem tW(A:iy):∀(q:List Ln)(τ:jx)(st:n8),Wt.ju (sQ A q τ st).1<=Wt.ju st.1+Ln.iw q
 |[],τ,st=>by rw[bJ];exact Da _ _
 |l::q,τ,st=>by
  rw[mJ];have h1:=Mv A l τ st;have h2:=tW A q τ (wZ A l τ st);show _<=_+(l.tw+Ln.iw q);omega
end
structure j5 where
 path:bX
 name:Str
 gives:List (Str×Int)
 downs:List (Str×Int)
noncomputable def lQ(p:bX):PV:=.tup (p.map cJ)
noncomputable def j5.pv(x:j5):PV:=.tup [lQ x.path,.str x.name,.tup (x.gives.map oQ),.tup (x.downs.map oQ)]
mutual
def Wt.rn:Wt->bX->List (Str×Int)->List j5
 |.part sp n g,s,ds=>[⟨s++[sp],n,g,ds⟩]
 |.give sp n i r,s,ds=>Wt.ik r (s++[sp]) (vY ds [(n,i)])
 |.plain sp _ _ _ r,s,ds=>Wt.ik r (s++[sp]) ds
def Wt.ik:List Wt->bX->List (Str×Int)->List j5
 |[],_,_=>[]
 |x::r,s,ds=>x.rn s ds++Wt.ik r s ds
end
mutual
theorem yh:∀(x:Wt)(s:bX)(ds:List (Str×Int)),(x.rn s ds).length=x.pc
 |.part _ _ _,_,_=>rfl
 |.give sp n i r,s,ds=>by rw[Wt.rn,Wt.pc];exact gW r _ _
 |.plain sp _ _ _ r,s,ds=>by rw[Wt.rn,Wt.pc];exact gW r _ _
theorem gW:∀(r:List Wt)(s:bX)(ds:List (Str×Int)),(Wt.ik r s ds).length=Wt.jg r
 |[],_,_=>rfl
 |x::r,s,ds=>by rw[Wt.ik,Wt.jg,AE,yh x,gW r]
end
def WV xs ys s ds:Wt.ik (xs++ys) s ds=Wt.ik xs s ds++Wt.ik ys s ds:=by
 induction xs with
 |nil=>rfl
 |cons x xs q=>rw[Ba,Wt.ik,Wt.ik,q,AR]
def HX(x:Wt):∃q rest,x.pv=.tup (.str q::cJ x.sp::rest)/\(q = "plain"\/q = "part"\/q = "give"):=by
 cases x with
 |plain s t g h r=>exact⟨"plain",_,by rfl,.inl rfl⟩
 |part s n g=>exact⟨"part",_,by rfl,.inr (.inl rfl)⟩
 |give s n i r=>exact⟨"give",_,by rfl,.inr (.inr rfl)⟩
def Div(p q:bX):Prop:=∃c x y B F,p=c++x::B/\q=c++y::F/\x≠y
def Div.ext(h:Div p q)u v:Div (p++u) (q++v):=by
 obtain⟨c,x,y,B,F,rfl,rfl,n⟩:=h;exact⟨c,x,y,B++u,F++v,by rw[AR];rfl,by rw[AR];rfl,n⟩
def Div.ne(h:Div p q):p≠q:=by
 obtain⟨c,x,y,B,F,rfl,rfl,n⟩:=h;intro e;have:=BG e;injection this with h1 _
 exact n h1
structure Um(rs:List Str)(s:bX)(nd:Nat)(x:j5)(d:Nat):Prop where
 name:x.name∈rs
 gl:x.gives.length<=4
 gb:uz x.gives
 db:uz x.downs
 dl:x.downs.length<=nd+d
 path:∃u,x.path=s++u/\u≠[]/\u.length<=d
def zA: ∀d r s ds,bH G d r->uz ds->(∀x∈Wt.ik r s ds,Um G s ds.length x d)/\(Wt.ik r s ds).Pairwise (fun x y=>Div x.path y.path):=by
 intro d
 induction d with
 |zero =>
  intro r s ds J I
  cases r with
  |nil=>exact⟨fun _ z=>(nomatch z),.nil⟩
  |cons x r=>exact(J.1 x AG).elim
 |succ d U =>
  intro r s ds J I
  have ah:∀x:Wt,j4 G (d+1) x->(∀y∈x.rn s ds,Um G s ds.length y (d+1)/\∃u,y.path=s++x.sp::u)/\(x.rn s ds).Pairwise (fun x y=>Div x.path y.path):=by
   intro x B
   cases x with
   |part sp n g =>
    rw[Wt.rn];refine⟨fun y q=>?_,List.pairwise_singleton _ _⟩;cases AF.1 q;exact⟨⟨B.2.1,B.2.2.1,B.2.2.2,I,by lia,[sp],rfl,by simp,by show 1<=d+1;lia⟩,[],rfl⟩
   |give sp n i S =>
    rw[Wt.rn];obtain⟨_,ae,L,O⟩:=B;have af:uz (vY ds [(n,i)]):=I.over fun c hc=>by cases AF.1 hc;exact ae
    have aj:(vY ds [(n,i)]).length<=ds.length+1:=cL ds [(n,i)];obtain⟨h1,h2⟩:=U S (s++[sp]) (vY ds [(n,i)]) ⟨L,O⟩ af;refine⟨fun y q=>?_,h2⟩;have o:=h1 y q;obtain⟨u,e,_,ai⟩:=o.path;have F:y.path=s++sp::u:=by rw[e,AR];rfl
    exact⟨⟨o.name,o.gl,o.gb,o.db,by have:=o.dl;lia,sp::u,F,by simp,by rw[List.length_cons];lia⟩,u,F⟩
   |plain sp ak ss hs S =>
    obtain⟨_,_,L,O⟩:=B;obtain⟨h1,h2⟩:=U S (s++[sp]) ds ⟨L,O⟩ I;refine⟨fun y q=>?_,h2⟩;have o:=h1 y q;obtain⟨u,e,_,ai⟩:=o.path;have F:y.path=s++sp::u:=by rw[e,AR];rfl
    exact⟨⟨o.name,o.gl,o.gb,o.db,by have:=o.dl;lia,sp::u,F,by simp,by rw[List.length_cons];lia⟩,u,F⟩
  have ab:∀r:List Wt,(∀x∈r,j4 G (d+1) x)->(r.map Wt.sp).Nodup->(∀x∈Wt.ik r s ds,Um G s ds.length x (d+1)/\∃y∈r,∃u,x.path=s++y.sp::u)/\(Wt.ik r s ds).Pairwise (fun x y=>Div x.path y.path):=by
   intro r
   induction r with
   |nil=>intro _ _;exact⟨fun _ z=>(nomatch z),.nil⟩
   |cons x r ag =>
    intro h nd;rw[A4,A0] at nd;obtain⟨Y,Z⟩:=ah x (h x AG);obtain⟨b1,b2⟩:=ag (fun y q=>h y (AJ _ q)) nd.2;rw[Wt.ik];refine⟨fun y q=>?_,?_⟩
    .grind
    .rw [List.pairwise_append]
     refine⟨Z,b2,fun y q z hz=>?_⟩;obtain⟨_,u,e1⟩:=Y y q;obtain⟨_,t,ht,v,e2⟩:=b1 z hz;exact⟨s,x.sp,t.sp,u,v,e1,e2,fun e=>nd.1 (e▸AX.2 ⟨t,ht,rfl⟩)⟩
  obtain⟨c1,c2⟩:=ab r J.1 J.2;exact⟨fun x B=>(c1 x B).1,c2⟩
def XA b:∀xs acc C,(∀x∈xs,∀K,K (b x) C->t (some x::ρ) C K)->(∀x∈xs,∀L,L x C->c (some x::ρ) C L)->acc.length+xs.length<=1000->(∀p,C p=none->Q (.ref p) (gQ C p (.lst (acc++xs.filter b))))->fJ t c ρ Q xs acc C:=by
 intro xs
 induction xs with
 |nil =>
  intro acc C _ _ _ q;rw[List.filter_nil,Ae] at q;exact nD q
 |cons x xs J =>
  intro acc C I F O q;rw[AQ] at O;refine kM (I x AG _ ?_)
  cases e:b x with
  |true =>
   refine F x AG _ ⟨AK (show acc.length < 1000 by lia) (by decide),?_⟩;refine J (acc++[x]) C (fun y B=>I y (AJ _ B)) (fun y B=>F y (AJ _ B)) (by grind) fun p G=>?_;have:=q p G;rw[List.filter_cons,e] at this
   rwa [AR]
  |false =>
   refine J acc C (fun y B=>I y (AJ _ B)) (fun y B=>F y (AJ _ B)) (by lia) fun p G=>?_;have:=q p G
   rwa [List.filter_cons,e] at this
noncomputable def isNm(q:Str):PV->Bool
 |.tup (.str s::_)=>decide (s=q)
 |_=>false
theorem eO: ∀{B}{x},(uJ B).Nodup->x∈B->x.name=q->(B.map Pt.pv).filter (isNm q)=[x.pv]
 |[],x,_,m,_=>nomatch m
 |y::B,x,nd,m,e=>by
  have nd:(y.name::uJ B).Nodup:=nd;rw[A0] at nd
  have L:∀l:List Pt,(∀z∈l,z.name≠q)->(l.map Pt.pv).filter (isNm q)=[]:=by
   intro l h;rw[List.filter_eq_nil_iff];intro z F;obtain⟨w,I,rfl⟩:=AX.1 F;show ¬ decide (w.name=q)=true;rw[AU (h w I)]
   decide
  rw[A4,List.filter_cons];have G:isNm q y.pv=decide (y.name=q):=rfl
  rcases AZ.1 m with rfl | m
  .rw [G,Am e,Ah rfl,L B fun z F J=>nd.1 (by exact e▸J▸AX.2 ⟨z,F,rfl⟩)]
  .rw [G,AU (fun z=>nd.1 (by exact z▸e▸AX.2 ⟨x,m,rfl⟩))]
   exact eO nd.2 m e
abbrev Vl:=List (bX×(Str×List (Str×Int)))
def vo(v:Str×List (Str×Int)):PV:=.tup [.str v.1,.tup (v.2.map oQ)]
noncomputable def sy(V:Vl):List (bX×PV):=V.map fun e=>(e.1,vo e.2)
noncomputable def aC(V:Vl)(p:bX):Option (Str×List (Str×Int)):=(V.find? fun e=>decide (e.1=p)).map (·.2)
def Li V p:zZ (sy V) p=(aC V p).map vo:=by
 induction V with
 |nil=>rfl
 |cons e V q =>
  show zZ ((e.1,vo e.2)::sy V) p=_;rw[eK]
  delta aC
  rw[A1]
  by_cases h:e.1=p
  .simp_all
  .rw [Af h,AU h,q];rfl
noncomputable def pZ(V:Vl)(y:Pt)(p:bX):List (Str×Int):=match aC V p with
 |some v=>if v.1=y.name then v.2 else y.first
 |none=>y.first
noncomputable def lU(s:Str)(ps:List (Str×Int))(A:iy):iy:=ps.foldl (fun A c=>ig A (qK s c.1) (.int c.2)) A
noncomputable def cU(L:List (Str×List (Str×Int)))(A:iy):iy:=L.foldl (fun A e=>lU e.1 e.2 A) A
noncomputable def HB(x:j5)(q:List (Str×Int)):List (Str×List (Str×Int)):=[("take",x.gives),("down",x.downs),("box",q)]
noncomputable def dG(x:j5)(q:List (Str×Int)):iy:=cU (HB x q) []
noncomputable def Wz(e:Str×List (Str×Int)):PV:=.tup [.str e.1,.tup (e.2.map oQ)]
structure nu(V:Vl):Prop where
 b:∀e∈V,HH e.2.2
 l:∀e∈V,e.2.2.length<=4
def Vr{V}(h:aC V p=some v):∃e∈V,e.2=v:=by
 delta aC at h
 cases e:V.find? fun e=>decide (e.1=p) with
 |none=>rw[e] at h;cases h
 |some x=>rw[e] at h;cases h;exact⟨x,BO e,rfl⟩
def XU{V}(F:nu V){I}(q:q8 J I y)p:HH (pZ V y p)/\(pZ V y p).length<=4:=by
 delta pZ
 cases e:aC V p with
 |none=>exact⟨fun c B=>q.fb c B,q.fl⟩
 |some v =>
  obtain⟨x,G,rfl⟩:=Vr e;dsimp only
  split
  .exact ⟨F.b x G,F.l x G⟩
  .exact ⟨fun c B=>q.fb c B,q.fl⟩
theorem uo.put(h:uo A)k(hi:Bd i):uo (ig A k (.int i)):=fun B q=>by
 rcases vC q with e | e
 .grind
 .exact h B e
theorem lB: ∀{ps}{A},HH ps->uo A->uo (lU s ps A)
 |[],A,_,h=>h
 |c::ps,A,q,h=>lB (ps:=ps) (fun x B=>q x (AJ _ B)) (h.put _ (q c AG))
def Om(h1:HH x.gives)(h2:HH x.downs)(B:HH q):uo (dG x q):=lB B (lB h2 (lB h1 fun _ z=>(nomatch z)))
def QH[DecidableEq κ]R(k:κ)v:(ig R k v).length<=R.length+1 :=by grind[ig,List.length_map,List.length_append,List.length_singleton]
theorem aM: ∀ps A,(lU s ps A).length<=A.length+ps.length
 |[],A=>AI _
 |c::ps,A=>by
  have h1:=aM (s:=s) ps (ig A (qK s c.1) (.int c.2));have h2:=QH A (qK s c.1) (.int c.2);show(lU s ps (ig A (qK s c.1) (.int c.2))).length<=_;rw[AQ]
  lia
def pV:∀p,sY (lQ p)=some p:=by
 intro p;show jO (p.map cJ)=some p
 induction p with
 |nil=>rfl
 |cons k p B =>
  have hk:eM (cJ k)=some k:=by
   show kF (k.map cW)=some k
   induction k with
   |nil=>rfl
   |cons a k F =>
    show(match aV (cW a),kF (k.map cW) with | some k,some q=>some (k::q) | _,_=>none)=_;rw[CL.jq,F]
  show(match eM (cJ k),jO (p.map cJ) with | some k,some q=>some (k::q) | _,_=>none)=_;rw[hk,B]
def Il(m:C p=some (.dP kvs))(hk:sY y=some k)(B:zZ kvs k=some v)(q:Q v C):Hl (.ref p) y C Q :=by simp_all[Hl]
def WW{kvs:List (bX×PV)}(m:C p=some (.dP kvs))(hk:sY y=some k)(h:kvs.length<=100000)(q:Q (gQ C p (.dP (ig kvs k v)))):KD (.ref p) y v C Q:=by
 delta KD
 dsimp only;exact m▸hk▸⟨An h (by decide),q⟩
structure En where
 x:j5
 pc:Pc
noncomputable def En.pv(e:En):PV:=.tup [lQ e.x.path,.str e.x.name,.tup (e.x.gives.map oQ),.tup (e.x.downs.map oQ),e.pc.pv]
noncomputable def uC(B:List Pt)(q:Str):Pt:=(B.find? fun y=>decide (y.name=q)).getD ⟨"",[],[],[]⟩
theorem tH: ∀{q}{y},(uJ q).Nodup->y∈q->y.name=B->uC q B=y
 |[],y,_,m,_=>nomatch m
 |z::q,y,nd,m,e=>by
  have nd:(z.name::uJ q).Nodup:=nd;rw[A0] at nd
  delta uC
  rw[A1]
  rcases AZ.1 m with rfl | m
  .grind
  .have F:¬ z.name=B:=fun h=>nd.1 (by exact h▸e▸AX.2 ⟨y,m,rfl⟩)
   exact(AU F)▸tH nd.2 m e
noncomputable def zG(q:List Pt)(V:Vl)(x:j5):Pc:=Mq (dG x (pZ V (uC q x.name) x.path)) (uC q x.name)
noncomputable def fY(x q:j5):j5:=⟨x.path++q.path,q.name,q.gives,vY x.downs q.downs⟩
noncomputable def dr(B:List Pt)(V:Vl):Nat->j5->List En
 |0,_=>[]
 |n+1,x=>⟨x,zG B V x⟩::(Wt.ik (zG B V x).row [] []).flatMap fun q=>dr B V n (fY x q)
structure dM(pts:List Pt)(k:Nat)(x:j5):Prop where
 nm:(uJ pts)[k]?=some x.name
 gl:x.gives.length<=4
 gb:uz x.gives
 db:uz x.downs
 pl:x.path.length<=6 * k
 dl:x.downs.length<=6 * k
structure AtK(pts:List Pt)(V:Vl)(k:Nat)(x:j5)(y:Pt):Prop where
 mem:y∈pts
 nm:y.name=x.name
 is:uC pts x.name=y
 ok:q8 ((uJ pts).drop (k+1)) (tK k) y
 ab:uo (dG x (pZ V y x.path))
 row:bH ((uJ pts).drop (k+1)) 6 (zG pts V x).row
 jg:Wt.jg (zG pts V x).row<=tK k
 ju:Wt.ju (zG pts V x).row<=48
def XW(hs:pF F){V}(L:nu V)(h:dM F k x):∃y,AtK F V k x y:=by
 have hk:=h.nm;unfold uJ at hk;rw[Aq] at hk
 cases e:F[k]? with
 |none=>rw[e] at hk;cases hk
 |some y =>
  rw[e] at hk;have J:=Au hk;have I:=Ai e;have B:=tH hs.nd I J;have q:=hs.ok k y e;have G:=Om h.gb.b h.db.b (XU L q x.path).1;refine⟨y,I,J,B,q,G,?_,?_,?_⟩
  .delta zG
   exact B▸LR q.ls ⟨G,(fun _ z=>nomatch z),(fun _ z=>nomatch z),by rw[AB];exact q.fl⟩ q.b8 (by have:=q.tw;lia)
  .delta zG
   rw[B];have:=eW (dG x (pZ V y x.path)) y.ls [] ([],[],[]);have this:Wt.jg (sQ (dG x (pZ V y x.path)) y.ls [] ([],[],[])).1<=0+Ln.ji y.ls:=this;show Wt.jg (sQ (dG x (pZ V y x.path)) y.ls [] ([],[],[])).1<=tK k;have:=q.pw
   lia
  .delta zG
   rw[B];have:=tW (dG x (pZ V y x.path)) y.ls [] ([],[],[]);have this:Wt.ju (sQ (dG x (pZ V y x.path)) y.ls [] ([],[],[])).1<=0+Ln.iw y.ls:=this;show Wt.ju (sQ (dG x (pZ V y x.path)) y.ls [] ([],[],[])).1<=48;have:=q.tw
   lia
def sW{V}(h:dM B k x)(G:AtK B V k x y)(I:q∈Wt.ik (zG B V x).row [] []):∃F,k < F/\dM B F (fY x q)/\q.path≠[]/\q.path.length<=6/\q.downs.length<=6:=by
 have o:=(zA 6 _ [] [] G.row (fun _ z=>nomatch z)).1 q I;obtain⟨u,e,L,J⟩:=o.path;have e:q.path=u:=e;obtain⟨j,hj,O⟩:=List.getElem_of_mem o.name;have S:q.downs.length<=0+6:=o.dl;refine⟨k+1+j,by lia,⟨?_,o.gl,o.gb,h.db.over o.db,?_,?_⟩,by rw[e];exact L,by rw[e];exact J,by lia⟩
 .have:((uJ B).drop (k+1))[j]?=some q.name :=by grind
  rwa [List.getElem?_drop] at this
 .show (x.path++q.path).length<=_
  rw[AE,e];have:=h.pl
  lia
 .have:=cL x.downs q.downs
  have:=h.dl;show(vY x.downs q.downs).length<=_
  lia
theorem Ke{α β:Type}{f:α->List β}: ∀(l:List α),(∀x∈l,(f x).length<=b)->(l.flatMap f).length<=l.length * b
 |[],_=>by simp
 |x::l,h=>by
  have h1:=Ke l fun y q=>h y (AJ _ q);have h2:=h x AG;rw[BV,AE,AQ]
  lia
noncomputable def TY(m k:Nat):Nat:=if k=0 then 559 else 2 ^ m - 1
def Ny(hs:pF B){V}(J:nu V):∀n k x,dM B k x->(dr B V n x).length<=TY (B.length - k) k:=by
 intro n
 induction n with
 |zero=>intro k x _;exact AW _
 |succ n Y =>
  intro k x h;obtain⟨y,F⟩:=XW hs J h
  have ae:k < B.length:=by
   have:=(Ab.1 h.nm).1;unfold uJ at this
   rwa [AB] at this
  have Z:=hs.n6
  have h1:(dr B V (n+1) x).length<=1+tK k * (2 ^ (B.length - k - 1) - 1):=by
   rw[dr,AQ]
   have L:=Ke (f:=fun q=>dr B V n (fY x q)) (b:=2 ^ (B.length - k - 1) - 1) (Wt.ik (zG B V x).row [] []) fun q U=>by
    obtain⟨G,ab,I,_⟩:=(sW h F U);have:=Y G (fY x q) I;unfold TY at this;rw[Af (by lia)] at this;have S:2 ^ (B.length - G)<=2 ^ (B.length - k - 1):=BQ (by decide) (by lia)
    lia
   rw[gW] at L;have:Wt.jg (zG B V x).row * (2 ^ (B.length - k - 1) - 1)<=tK k * (2 ^ (B.length - k - 1) - 1):=BR _ F.jg
   lia
  delta TY
  unfold tK at h1
  split
  .next O =>
   have S:2 ^ (B.length - k - 1)<=2 ^ 5:=BQ (by decide) (by lia)
   lia
  .next O =>
   have e:B.length - k=(B.length - k - 1)+1:=by lia
   rw[e,Nat.pow_succ];have:1<=2 ^ (B.length - k - 1):=Nat.one_le_two_pow
   lia
def Gx(hs:pF q){V}(B:nu V)(h:dM q k x):(dr q V n x).length<=559:=by
 have:=Ny hs B n k x h;unfold TY at this
 split at this
 .exact this
 .have F:=hs.n6
  have G:2 ^ (q.length - k)<=2 ^ 6:=BQ (by decide) (by lia)
  lia
def Gw(hs:pF F){V}(J:nu V):∀n k x,dM F k x->∀e∈dr F V n x,∃G,dM F G e.x/\e.pc=zG F V e.x:=by
 intro n
 induction n with
 |zero=>intro k x _ e B;exact nomatch B
 |succ n S =>
  intro k x h e B
  rcases AZ.1 B with rfl | B
  .grind
  .obtain ⟨q,O,B⟩:=(CU.1 B)
   obtain⟨y,L⟩:=XW hs J h;exact xZ (sW h L O) fun G _ I _=>S G _ I e B
def Gu{V}:∀n x,∀e∈dr J V n x,∃u,e.x.path=x.path++u:=by
 intro n
 induction n with
 |zero=>intro x e B;exact nomatch B
 |succ n G =>
  intro x e B
  rcases AZ.1 B with rfl | B
  .simp_all
  .obtain ⟨q,I,B⟩:=(CU.1 B)
   obtain⟨u,F⟩:=G _ e B;exact⟨q.path++u,by rw[F];show(x.path++q.path)++u=_;rw[AR]⟩
noncomputable def gZ(es:List En):List bX:=es.map fun e=>e.x.path
theorem Kd{α:Type}{f}{g:α->bX}:∀(l:List α),l.Pairwise (fun x y=>Div (g x) (g y))->(∀x∈l,(gZ (f x)).Nodup/\∀e∈f x,∃u,e.x.path=g x++u)->(gZ (l.flatMap f)).Nodup
 |[],_,_=>BS
 |x::l,F,h=>by
  rw[List.pairwise_cons] at F;obtain⟨h1,h2⟩:=h x AG
  delta gZ at *
  rw[BV,AS,Cn];refine⟨h1,(Kd l F.2 fun y q=>h y (AJ _ q)),fun a O b S e=>?_⟩;obtain⟨G,U,rfl⟩:=AX.1 O;obtain⟨I,B,rfl⟩:=AX.1 S;obtain⟨y,q,B⟩:=(CU.1 B);obtain⟨u,J⟩:=h2 G U;obtain⟨v,L⟩:=(h y (AJ _ q)).2 I B;have d:=(F.1 y q).ext u v;rw[<- J,<- L] at d;exact d.ne e
def Iz(hs:pF L){V}(Z:nu V):∀n k x,dM L k x->(gZ (dr L V n x)).Nodup:=by
 intro n
 induction n with
 |zero=>intro k x _;exact BS
 |succ n ih =>
  intro k x h;obtain⟨y,F⟩:=XW hs Z h;show(x.path::gZ _).Nodup;rw[A0];refine⟨fun ab=>?_,?_⟩
  .refine dQ (AX.1 ab) fun e G B=>dQ (CU.1 G) fun q I G=>?_
   obtain⟨u,Y⟩:=Gu n _ e G;obtain⟨J,_,_,qn,_⟩:=(sW h F I);rw[Y] at B;have B:(x.path++q.path)++u=x.path:=B;have:=A8 List.length B;rw[AE,AE] at this;have:=List.length_pos_iff.2 qn
   lia
  .refine Kd (g:=fun q=>(fY x q).path) _ (((zA 6 _ [] [] F.row (fun _ z=>nomatch z)).2).imp fun {a b}d=>?_) fun q I=>?_
   .exact el53 d fun c u v p' q' S U n=>⟨x.path++c,u,v,p',q',by show x.path++a.path=_;rw[S,AR],by show x.path++b.path=_;rw[U,AR],n⟩
   .exact xZ (sW h F I) fun J _ O _=>⟨ih J _ O,Gu n _⟩
noncomputable def root(q:List Pt):j5:=⟨[],(q.head?.map (·.name)).getD "",[],[]⟩
def vV(hs:pF q):dM q 0 (root q):=by
 have:=hs.n1
 cases q with
 |nil=>exact absurd this (by grind)
 |cons y q=>exact⟨rfl,AW _,(fun _ z=>nomatch z),(fun _ z=>nomatch z),AW _,AW _⟩
noncomputable def eZ(q:List Pt)(V:Vl):List En:=dr q V 6 (root q)
noncomputable def QG(V:Vl)(p:bX)(v:Str×List (Str×Int)):Vl:=if (V.any fun e=>decide (e.1=p))=true then V.map fun e=>if e.1=p then (e.1,v) else e else V++[(p,v)]
def Mj V p v:ig (sy V) p (vo v)=sy (QG V p v):=by
 have h1:((sy V).any fun q=>decide (q.1=p))=V.any fun e=>decide (e.1=p):=by
  delta sy
  rw[List.any_map]
  rfl
 delta ig QG
 rw[h1]
 split
 .delta sy
  rw[Bo,Bo];refine DC fun e _=>?_;show(if e.1=p then (e.1,vo v) else (e.1,vo e.2))=((if e.1=p then (e.1,v) else e).1,vo (if e.1=p then (e.1,v) else e).2)
  split<;>rfl
 .delta sy
  rw[AS]
  rfl
def yd{V}(h:nu V)p(B:HH v.2)(F:v.2.length<=4):nu (QG V p v):=by
 have:∀e∈QG V p v,e.2=v\/e∈V:=by
  intro e q
  delta QG at q
  split at q
  .grind
  .grind
 refine⟨fun e q=>?_,fun e q=>?_⟩
 .rcases this e q with z | z
  .rwa [z]
  .exact h.b e z
 .rcases this e q with z | z
  .rwa [z]
  .exact h.l e z
def WQ V p v:(QG V p v).length<=V.length+1 :=by grind[QG,List.length_map,List.length_append,List.length_singleton]
theorem nu.nil:nu []:=⟨fun _ z=>(nomatch z),fun _ z=>(nomatch z)⟩
section
variable {W:Wd}{a:Adr}
inductive Ga(ts:List PV)(C:CH)(Q:K1):Prop
 |mk(pts:List Pt)(vv:Addr)(V:Vl)(z0:ts=[.tup (pts.map Pt.pv),.ref vv])(z1:pF pts)(z2:nu V)(z3:C vv=some (.dP (sy V)))(z4:∀p C',C p=none->C' p=some (.lst ((eZ pts V).map En.pv))->Gr C C'->Q (.ref p) C')
inductive Kb(ts:List PV)(C:CH)(Q:K1):Prop
 |mk(t:Addr)(pts:List Pt)(ns:List Int)(z0:ts=[.ref t,.tup (pts.map Pt.pv)])(z1:Tp C t ns)(z2:pF pts)(z3:∀vv V C',nu V->C vv=none->C' vv=some (.dP (sy V))->vv≠t->Tp C' t ns->Ex t C C'->Q (.ref vv) C')
end
def Pa(m:C p=some (.dK (cs.map ou)))(h:cs.length+B.length<=1000)(q:Q .non (gQ C p (.dK ((aJ cs B).map ou)))):Kx (.ref p) [.tup (B.map oQ)] C Q:=by
 delta Kx
 show(match C p,qW (B.map oQ) with | some (.dK kvs),some ps=>kvs.length+ps.length<=sizeLine/\Q .non (gQ C p (.dK (tV kvs ps))) | _,_=>False);rw[m,wA];dsimp only;rw[J0,AB,AB];exact⟨AY h (by decide),q⟩
def KW(m:C p=some (.dK (cs.map ou)))(h:cs.length < 64)(q:∀B,C B=none->Q (.ref B) (gQ C B (.lst ((lG cs).map oQ)))):yM [.vw p] C Q :=by simp_all[yM,Py]
def Ei(B:ρ[i]?=some (some (.ref p)))(m:C p=some (.dK kvs))(q:Q (.vw p) C):tI (zV i) ρ C Q :=by simp_all[tI,zV]
section
variable {W:Wd}{a:Adr}
def kD(T:Tx W a):Ok W a 1 11 ["downs","nearer"] RK:=by
 refine(T.F 11 rfl).o (fun S=>(xQ (gn 2 ((T.F 11 rfl).s).nd (bK (Jf rfl) GZ rfl T.X6 rfl (d7 (cv 0))))
  (xQ (sX (Oa Cj PySem.F.slot_dict_update PySem.F.type_dict_update (Dv rfl) Fl (cv 2) (d7 (cv 1))))
  (kQ (fQ (p7 T.hX (vZ (eD rfl) nR rfl T.lN rfl (d7 (GR (cv 2)))))))))) ?_
 rintro ts C R ⟨ds,B,rfl,J,q⟩;have L:=AY (aB ds []) (by show 0+ds.length<=ds.length;lia);have O:=aB B (aJ [] ds);refine Nz (by lia) fun p F=>?_;refine⟨YS jQ,Pa jQ (by lia) ?_⟩;refine Ei rfl jQ (KW jQ (by lia) fun p2 I=>?_);refine vJ jQ (q _ ?_);have G:=iL (show Gr C (gQ C p (.dK ((aJ [] ds).map ou))) from Gr.new F _) F (.dK ((aJ (aJ [] ds) B).map ou));exact G.trans (Gr.new I _)
inductive OD(d:Nat)(ts:List PV)(C:CH)(Q:K1):Prop
 |mk(r:List Wt)(s:bX)(ds:List (Str×Int))(rs:List Str)(t:Addr)(acc:List PV)(z0:ts=[.tup (Wt.f9 r),lQ s,.tup (ds.map oQ),.ref t])(z1:bH rs d r)(z2:s.length+d<=50)(z3:ds.length+d<=50)(z4:acc.length+Wt.jg r<=1000)(z5:C t=some (.lst acc))(z6:∀C',C' t=some (.lst (acc++(Wt.ik r s ds).map j5.pv))->gm [t] C C'->Q .non C')
def Vh(T:Tx W a)(d:Nat):Ok W a (d+2) 10 ["row","spots","downs","told"] (OD d):=by
 have ah:∀n,(∀d',n=d'+1->Ok W a (n+1) 10 ["row","spots","downs","told"] (OD d'))->Ok W a (n+2) 10 ["row","spots","downs","told"] (OD n):=by
  intro n ih;have S:=(T.F 10 rfl).s;have pB:=(kD T).mono (show 1<=n+1 by lia)
  have zL:Ok W a (n+1) 10 ["row","spots","downs","told"] (fun ts C Q=>∃d',n=d'+1/\OD d' ts C Q):=by
   cases n with
   |zero=>exact cK fun ts C Q zz=>dQ zz fun d' e _=> by lia
   |succ d' =>
    have:=ih d' rfl
    have e:(fun ts C Q=>∃Y,d'+1=Y+1/\OD Y ts C Q)=OD d':=by
     funext ts C Q
     refine propext ⟨fun zz=>dQ zz fun Y e h=> ?_,fun h=>⟨d',rfl,h⟩⟩;cases BC e;exact h
    rw[e];exact this
  refine(T.F 10 rfl).o (fun hr=>(kQ (gY PassesOwn.never rfl (cv 0) (mq 4 S.nd) (xQ (gn 5 S.nd (nQ iQ qX (cv 1) (mQ (d7 (cx (cv 4) zQ)))))
  (kQ (uX (ct2 lX jX (cx (cv 4) zQ) vQ) (kQ (sX (cap (cv 3) (mQ (qQ (cv 5) (qQ (cx (cv 4) zQ) (qQ (cx (cv 4) zQ) (d7 (cv 2))))))))) (kQ (uX (ct2 lX jX (cx (cv 4) zQ) vQ) (kQ (sX (cf (T.F 10 rfl) zL hr (qQ (cx (cv 4) zQ) (qQ (cv 5) (qQ (cf (T.F 11 rfl) pB hr (qQ (cv 2) (d7 (mQ (d7 (mQ (qQ (cx (cv 4) zQ) (d7 (cx (cv 4) zQ))))))))) (d7 (cv 3)))))))) (kQ (sX (cf (T.F 10 rfl) zL hr (qQ (cx (cv 4) zQ) (qQ (cv 5) (qQ (cv 2) (d7 (cv 3)))))))))))))))) ?_
  rintro ts C R ⟨r,s,ds,aj,t,acc,rfl,ar,hs,aw,ak,aq,au⟩;refine yF rfl (iZ (fun zs ρ C'=>∃(x4 x5:Option PV)(us vs:List Wt),r=us++vs/\zs=Wt.f9 vs/\ρ=[some (.tup (Wt.f9 r)),some (lQ s),some (.tup (ds.map oQ)),some (.ref t),x4,x5]/\C' t=some (.lst (acc++(Wt.ik us s ds).map j5.pv))/\gm [t] C C') ?_ ?_ _ _ _ ⟨_,_,[],r,rfl,rfl,rfl,by show C t=some (.lst (acc++[]));rw[Ae];exact aq,gm.refl⟩)
  .rintro z zs ρ C1 ⟨x4,x5,us,vs,e,J,rfl,F,G⟩ L hL
   cases vs with
   |nil=>cases J
   |cons u vs =>
   obtain⟨rfl,rfl⟩:=BI (show z::zs=u.pv::Wt.f9 vs from J);have hu:=ar.1 u (by rw[e];exact Aa _ AG);have ax:acc.length+(Wt.jg us+(u.pc+Wt.jg vs))<=1000:=by have:=ak;rw[e,Wt.oh] at this;exact this
   have ae:(acc++(Wt.ik us s ds).map j5.pv).length=acc.length+Wt.jg us:=by rw[AE,AB,gW]
   have Z:Wt.ik (us++[u]) s ds=Wt.ik us s ds++u.rn s ds:=by rw[WV,Wt.ik,Wt.ik,Ae]
   obtain⟨wd,rest,ep,ay⟩:=HX u;refine yQ (yX ep Qb ⟨y0 1 rfl,?_⟩)
   apply dY (sZ (by rw[AB];show s.length+1<=1000;lia))
   have eh:PV.tup (s.map cJ++[cJ u.sp])=lQ (s++[u.sp]):=by delta lQ;rw[AS];rfl
   rw[eh]
   cases n with
   |zero=>exact hu.elim
   |succ d' =>
   cases u with
   |part sp B g =>
    have ep:(Wt.part sp B g).pv=.tup [.str "part",cJ sp,.str B,.tup (g.map oQ)]:=by rw[Wt.pv]
    refine yX ep wX (mX (cQ _ _) (pW (by decide) ?_));refine⟨lW F,yX ep (v:=.str B) rfl (yX ep (v:=.tup (g.map oQ)) rfl ⟨y0 4 rfl,?_⟩)⟩
    apply gH F (by rw[ae];exact An (show acc.length+Wt.jg us<=1000 by lia) (by decide))
    refine hL _ _ ⟨_,_,us++[.part sp B g],vs,by rw[AR];exact e,rfl,rfl,?_,G.at (by simp) _⟩;rw[jQ,Z,AS,Wt.rn,AR]
    rfl
   |give sp B i q =>
    obtain⟨_,av,o1,o2⟩:=hu;have ep:(Wt.give sp B i q).pv=.tup [.str "give",cJ sp,.str B,.int i,.tup (Wt.f9 q)]:=by rw[Wt.pv]
    have ao:Wt.jg q=(Wt.give sp B i q).pc:=by rw[Wt.pc]
    refine yX ep wX (mX (cQ _ _) (yJ (by decide) ?_));refine yX ep wX (mX (cQ _ _) (pW (by decide) ?_));refine yX ep (v:=.tup (Wt.f9 q)) rfl (yX ep (v:=.str B) rfl (yX ep (v:=.int i) rfl ⟨y0 2 rfl,?_⟩));refine⟨y0 1 rfl,?_⟩;refine⟨ds,[(B,i)],rfl,by show ds.length+1<=60;lia,fun C2 af=>?_⟩;have ag:=cL ds [(B,i)];have ag:(vY ds [(B,i)]).length<=ds.length+1:=ag
    refine⟨d',rfl,q,s++[sp],vY ds [(B,i)],aj,t,_,rfl,⟨o1,o2⟩,by rw[AE,AO];lia,by lia,by rw[ae];lia,af _ _ F,fun C3 m3 ab=>?_⟩;refine hL _ _ ⟨_,_,us++[.give sp B i q],vs,by rw[AR];exact e,rfl,rfl,?_,fun b o ai hb=>ab b o ai (af _ _ (G b o ai hb))⟩;rw[m3,Z,AS,Wt.rn,AR]
   |plain sp U O I q =>
    obtain⟨_,_,o1,o2⟩:=hu;have ep:(Wt.plain sp U O I q).pv=.tup [.str "plain",cJ sp,.str U,.tup (O.map oQ),.tup (I.map o5.pv),.tup (Wt.f9 q)]:=by rw[Wt.pv]
    have ao:Wt.jg q=(Wt.plain sp U O I q).pc:=by rw[Wt.pc]
    refine yX ep wX (mX (cQ _ _) (yJ (by decide) ?_));refine yX ep wX (mX (cQ _ _) (yJ (by decide) ?_));refine yX ep (v:=.tup (Wt.f9 q)) rfl ⟨d',rfl,q,s++[sp],ds,aj,t,_,rfl,⟨o1,o2⟩,by rw[AE,AO];lia,by lia,by rw[ae];lia,F,fun C3 m3 ab=>?_⟩;refine hL _ _ ⟨_,_,us++[.plain sp U O I q],vs,by rw[AR];exact e,rfl,rfl,?_,G.trans ab⟩
    rw[m3,Z,AS,Wt.rn,AR]
  .rintro ρ C1 ⟨x4,x5,us,vs,e,J,rfl,F,G⟩
   cases vs with
   |cons u vs=>cases J
   |nil =>
   rw[Ae] at e;subst e;exact au C1 F G
 induction d with
 |zero=>exact ah 0 fun d' e=>by lia
 |succ d ih=>exact ah (d+1) fun d' e=>by cases BC e;exact ih
inductive gPi(ts:List PV)(C:CH)(Q:K1):Prop
 |mk(r:List Wt)(rs:List Str)(z0:ts=[.tup (Wt.f9 r)])(z1:bH rs 6 r)(z2:Wt.jg r<=1000)(z3:∀p C',C p=none->C' p=some (.lst ((Wt.ik r [] []).map j5.pv))->Gr C C'->Q (.ref p) C')
def QS(T:Tx W a):Ok W a 9 9 ["row"] gPi:=by
 have U:=Vh T 6
 refine(T.F 9 rfl).o (fun J=>(xQ (gn 1 ((T.F 9 rfl).s).nd (pX oX))
  (xQ (sX (cf (T.F 10 rfl) U J (qQ (cv 0) (qQ (mQ oX) (qQ (mQ oX) (d7 (cv 1)))))))
  (kQ (fQ (cv 1)))))) ?_
 rintro ts C R ⟨r,S,rfl,O,Y,q⟩;refine yQ ⟨by decide,fun t G=>?_⟩;refine jZ ⟨by decide,?_⟩;refine⟨by decide,?_⟩;refine⟨r,[],[],S,t,[],rfl,O,by decide,by decide,by show 0+_<=1000;lia,jQ,fun C2 L I=>?_⟩;refine q t C2 G L fun b o B=>?_;have F:b≠t:=fun z=>by rw[z,G] at B;cases B
 exact I b o (fun z=>F (AF.1 z)) (by rwa [wQ F])
inductive gAsk(ts:List PV)(C:CH)(Q:K1):Prop
 |mk(e:En)(rs:List Str)(z0:ts=[e.pv])(z1:bH rs 6 e.pc.row)(z2:Wt.jg e.pc.row<=50)(z3:e.x.path.length<=40)(z4:e.x.downs.length<=40)(z5:∀p C',C p=none->C' p=some (.lst (((Wt.ik e.pc.row [] []).map (fY e.x)).map j5.pv))->Gr C C'->Q (.ref p) C')
def QX(T:Tx W a):Ok W a 10 12 ["entry"] gAsk:=by
 have S:=(T.F 12 rfl).s;have Jr:=QS T;have pB:=(kD T).mono (show 1<=9 by decide);refine(T.F 12 rfl).o (fun U=>(kQ (fQ (uB rfl (S.c (by decide +kernel)) (S.k rfl rfl rfl (by decide +kernel)) (cf (T.F 9 rfl) Jr U (d7 (cx (cx (cv 0) zQ) zQ))) (fun _ _ _ _ _=>zK) (fun _ _ _ _ _=>(mQ (qQ (nQ iQ qX (cx (cv 1) zQ) (cx (cv 0) zQ)) (qQ (cx (cv 0) zQ) (qQ (cx (cv 0) zQ) (d7 (cf (T.F 11 rfl) pB U (qQ (cx (cv 1) zQ) (d7 (cx (cv 0) zQ)))))))))))))) ?_
 rintro ts C R ⟨e,ah,rfl,ab,ak,ao,ai,ag⟩;have I:e.pv=.tup [lQ e.x.path,.str e.x.name,.tup (e.x.gives.map oQ),.tup (e.x.downs.map oQ),e.pc.pv]:=rfl
 delta mP
 refine yX I rfl (yX rfl rfl ⟨e.pc.row,ah,rfl,ab,by lia,fun p C1 n1 Z ae=>?_⟩);dsimp only;rw[Z];refine jE (fun zs acc C'=>∃ds us:List j5,Wt.ik e.pc.row [] []=ds++us/\zs=us.map j5.pv/\acc=(ds.map (fY e.x)).map j5.pv/\C' p=some (.lst ((Wt.ik e.pc.row [] []).map j5.pv))/\Gr C C') (fun _ _ _ h=>let ⟨_,_,_,_,_,h,_⟩:=h;h) ?_ ?_ _ _ _ ⟨[],_,rfl,rfl,rfl,Z,ae⟩
 .rintro z zs acc C2 ⟨ds,us,q,F,rfl,m2,B⟩ L hL
  cases us with
  |nil=>cases F
  |cons u us =>
  obtain⟨rfl,rfl⟩:=BI F;have Y:=(zA 6 _ [] [] ab (fun _ z=>nomatch z)).1 u (q▸Aa _ AG);refine xZ Y.path fun v G _ aq=>?_;have G:u.path=v:=G;have aj:u.downs.length<=0+6:=Y.dl
  have af:ds.length<=50:=by
   have:=A8 List.length q;rw[gW,AE] at this
   lia
  refine yX I rfl (tX rfl (dY (sZ (by rw[AB,AB,G];lia)) ?_));refine tX rfl (tX rfl (yX I rfl (tX rfl ⟨e.x.downs,u.downs,rfl,by lia,fun C3 J=>⟨y0 4 rfl,?_⟩⟩)))
  have ec:PV.tup [PV.tup (e.x.path.map cJ++u.path.map cJ),.str u.name,.tup (u.gives.map oQ),.tup ((vY e.x.downs u.downs).map oQ)]=(fY e.x u).pv:=by
   delta fY j5.pv lQ
   rw[AS]
  rw[ec];refine hL _ _ ⟨?_,ds++[u],us,by rw[AR];exact q,rfl,by rw[AS,AS];rfl,J _ _ m2,B.trans J⟩;rw[AB,AB];exact An af (by decide)
 .rintro acc C2 ⟨ds,us,q,F,rfl,m2,B⟩ p2 O
  cases us with
  |cons u us=>cases F
  |nil =>
  rw[Ae] at q;refine ag p2 _ (gD B O) (by rw[jQ,q]) (B.trans (Gr.new O _))
end
abbrev O4:=List (j5×Nat)
noncomputable def qG(q:List Pt)(V:Vl)(st:O4):List En:=st.flatMap fun p=>dr q V p.2 p.1
def fE(q:List Pt)(st:O4):Prop:=∀p∈st,∃k,dM q k p.1/\q.length<=k+p.2
noncomputable def iJ(st:O4):List PV:=(st.map fun p=>p.1.pv).reverse
def Gv{V:Vl}(h:∃k,dM q k x/\q.length<=k+n):∃m,n=m+1:=by
 obtain⟨k,d,l⟩:=h;have:=(Ab.1 d.nm).1;unfold uJ at this;rw[AB] at this;exact⟨n - 1,by lia⟩
theorem aE{V}:∀{st},fE I st->st.length<=(qG I V st).length
 |[],_=>AW _
 |p::st,h=>by
  have G:=aE (V:=V) fun q F=>h q (AJ _ F);obtain⟨m,B⟩:=Gv (V:=V) (h p AG);unfold qG at G ⊢;rw[BV,AE,AQ,B,dr,AQ]
  lia
def xr{V}(h:fE q st)(e:qG q V st=[]):st=[]:=by
 have:=aE (V:=V) h;rw[e] at this;exact List.length_eq_zero_iff.1 (Nat.le_zero.1 this)
noncomputable def YI(q:List Pt)(V:Vl)(x:j5):List j5:=(Wt.ik (zG q V x).row [] []).map (fY x)
def Qy(hs:pF B){V}(O:nu V)(h:fE B st)(F:qG B V st=e::r):
  ∃(x:j5)(n:Nat)(st':O4),st=(x,n+1)::st'/\e=⟨x,zG B V x⟩/\(∃k y,dM B k x/\AtK B V k x y)/\r=qG B V ((YI B V x).map (fun y=>(y,n))++st')/\fE B ((YI B V x).map (fun y=>(y,n))++st'):=by
 cases st with
 |nil=>cases F
 |cons p st =>
  obtain⟨x,m⟩:=p;obtain⟨n,rfl⟩:=Gv (V:=V) (h (x,m) AG);obtain⟨k,I,hk⟩:=(h (x,n+1) AG);obtain⟨y,J⟩:=XW hs O I
  delta qG at F
  rw[BV] at F;rw[dr,Ba] at F;injection F with h1 h2
  refine⟨x,n,st,rfl,h1.symm,⟨k,y,I,J⟩,?_,?_⟩
  .delta qG
   rw[List.flatMap_append,<- h2,List.flatMap_map]
   delta YI
   rw[List.flatMap_map]
  .intro q G
   rcases Ad.1 G with G | G
   .obtain ⟨z,U,rfl⟩:=AX.1 G
    obtain⟨u,S,rfl⟩:=AX.1 U;exact xZ (sW I J S) fun Y Z L _=>⟨Y,L,by lia⟩
   .exact h q (AJ _ G)
def mO p(st:O4):iJ (p::st)=iJ st++[p.1.pv] :=by simp_all[iJ,List.map_cons,List.reverse_cons]
def Vu(q:List j5)(n:Nat)st:iJ (q.map (fun y=>(y,n))++st)=iJ st++(q.map j5.pv).reverse :=by simp_all[iJ,List.map_append,List.reverse_append,List.map_map]
def YG st:(iJ st).length=st.length :=by grind[iJ,List.length_reverse,List.length_map]
def ZQ(B:C p=some (.lst xs))(F:C r=some (.lst ys))(h:xs.length+ys.length<=sizeLine)(q:Q .non (gQ C p (.lst (xs++ys)))):bN (.ref p) [.ref r] C Q:=by
 delta bN
 dsimp only;exact B▸F▸⟨h,q⟩
section
variable {W:Wd}{a:Adr}
structure Wk(a:Adr)(C:CH)(x ll:Addr)(xs:List PV):Prop where
 ins:∃dx,C x=some (.ins a.Walk dx [("lacking",.ref ll)])
 lst:C ll=some (.lst xs)
def Wk.ne(h:Wk a C x q xs):x≠q:=fun z=>by
 obtain⟨dx,e⟩:=h.ins;rw[z,h.lst] at e;cases e
inductive Y4(a:Adr)(ts:List PV)(C:CH)(Q:K1):Prop
 |mk(x dx:Addr)(pts:List Pt)(z0:ts=[.ref x,.tup (pts.map Pt.pv)])(z1:1<=pts.length)(z2:C x=some (.ins a.Walk dx []))(z3:∀C' ll,C ll=none->Wk a C' x ll [(root pts).pv]->gm [x] C C'->Q .non C')
def Ye(T:Tx W a):Ok W a 1 52 ["self","house"] (Y4 a):=by
 refine(T.F 52 rfl).o (fun O=>(kQ (Z8 T.mY T.pJ (cv 0) (pX (d7 (mQ (qQ (mQ oX) (qQ (cx (cx (cv 1) zQ) zQ) (qQ (mQ oX) (d7 (mQ oX))))))))))) ?_;rintro ts C R ⟨x,dx,I,rfl,J,L,q⟩
 cases I with
 |nil=>exact absurd J (by grind)
 |cons y I =>
 refine⟨by decide,?_⟩;refine tX wX (tX wX ⟨by decide,?_⟩);refine⟨by decide,?_⟩;refine⟨y0 4 rfl,?_⟩;refine⟨y0 1 rfl,fun F B=>?_⟩;have G:F≠x:=fun z=>by rw[z,L] at B;cases B
 apply Zo (by rwa [wQ (Ne.symm G)]) (by decide)
 refine q _ F B ⟨⟨dx,?_⟩,?_⟩ ?_
 .rw [jQ]
  rfl
 .exact (wQ G)▸jQ
 .exact (gm.refl.put B _).at AG _
inductive gDue(a:Adr)(ts:List PV)(C:CH)(Q:K1):Prop
 |mk(x ll:Addr)(xs:List PV)(z0:ts=[.ref x])(z1:Wk a C x ll xs)(z2:Q ((xs[xs.length - 1]?).getD .non) C)
def Jm{y:PV}:atI (xs++[y]) (-1)=some y:=by
 delta atI ixN
 rw[Af (by decide),AE,AO,Ah (by lia)];have:(-1+((xs.length+1:Nat):Int)).toNat=xs.length:=by lia
 first
 |rw[this]
 | (rw[ this])
 simp
def MJ(T:Tx W a):Ok W a 1 53 ["self"] (gDue a):=by
 refine(T.F 53 rfl).o (fun O=>(kQ (fQ (xE (NK (fF T.mY T.pJ (cv 0))) (cx (fF T.mY T.pJ (cv 0)) (oM lY uV zQ)) qV)))) ?_;rintro ts C R ⟨x,I,xs,rfl,B,q⟩;obtain⟨dx,F⟩:=B.ins;refine Ph ?_ ?_
 .refine wR F rfl ⟨I,xs,rfl,B.lst,?_⟩
  rcases List.eq_nil_or_concat xs with rfl | ⟨ys,y,rfl⟩
  .exact q
  .have e:(!(ys.concat y).isEmpty)=true:=by simp
   rw[e];refine wR F rfl (hZ B.lst (List.concat_eq_append▸Jm) ?_);have G:((ys.concat y)[(ys.concat y).length - 1]?).getD .non=y:=by simp
   rwa [G] at q
 .intro J L h q
  exact Qm _ _ (fun v C1 q=>Xp _ _ h q) q
inductive RD(a:Adr)(ts:List PV)(C:CH)(Q:K1):Prop
 |mk(x ll:Addr)(xs:List PV)(y:PV)(e:En)(rs:List Str)(z0:ts=[.ref x,e.pv])(z1:Wk a C x ll (xs++[y]))(z2:xs.length<=900)(z3:bH rs 6 e.pc.row)(z4:Wt.jg e.pc.row<=50)(z5:e.x.path.length<=40)(z6:e.x.downs.length<=40)(z7:∀C',Wk a C' x ll (xs++(((Wt.ik e.pc.row [] []).map (fY e.x)).map j5.pv).reverse)->gm [ll] C C'->Q .non C')
def zp(T:Tx W a):Ok W a 11 54 ["self","entry"] (RD a):=by
 have S:=QX T
 refine(T.F 54 rfl).o (fun hr=>(xQ (sX (GW BU PySem.F.slot_list_pop PySem.F.type_list_pop mt_pop Fo (fF T.mY T.pJ (cv 0))))
  (kQ (sX (Kw BU DU DT (fun p s σ H x vs v us Q=>sL p s σ H x vs v us Q) bF (fF T.mY T.pJ (cv 0)) (d7 (Jb rfl rfl rfl T.X5 T.rN (cf (T.F 12 rfl) S hr (d7 (cv 1)))))))))) ?_
 rintro ts C R ⟨x,q,xs,y,e,ah,rfl,G,hl,af,ab,ae,Z,ag⟩;obtain⟨dx,mx⟩:=G.ins;have O:=G.ne;refine wR mx rfl ⟨lW G.lst,Rb G.lst (y:=y) (by simp) ?_⟩;rw[List.dropLast_concat];have J:gQ C q (.lst xs) x=some (.ins a.Walk dx [("lacking",.ref q)]):=by rwa [wQ O]
 have I:gQ C q (.lst xs) q=some (.lst xs):=jQ;have U:gm [q] C (gQ C q (.lst xs)):=gm.refl.at (by simp) _;refine wR J rfl ⟨lW I,⟨e,ah,rfl,af,ab,ae,Z,fun p C2 n2 m2 F=>M3 m2 fun p3 B=>?_⟩⟩;have n3:p3≠q:=fun z=>by rw[z,F _ _ I] at B;cases B
 have ai:=Gr.new B (.lst ((((Wt.ik e.pc.row [] []).map (fY e.x)).map j5.pv).reverse)) _ _ (F _ _ J)
 apply ZQ (Gr.new B _ _ _ (F _ _ I)) jQ (sZ (by rw[BN,AB,AB,gW];lia))
 apply ag _ ⟨⟨dx,by rwa [wQ O]⟩,jQ⟩
 intro b o L Y;exact(wQ (fun z=>L (AF.2 z)))▸Gr.new B _ _ _ (F _ _ (U b o L Y))
end
def Sub(R q:iy):Prop:=∀k∈R.map (·.1),k∈q.map (·.1)
inductive Th(C:CH):PV->Prop
 |non:Th C .non
 |bl (b:Bool):Th C (.bl b)
 |int (i:Int):Th C (.int i)
 |str (z:Str):Th C (.str z)
 |tup {ts:List PV} (h:∀t∈ts,Th C t):Th C (.tup ts)
 |lst {a:Addr} (h:tyP C (.ref a)=some .lst):Th C (.ref a)
 |dct {a:Addr} (h:tyP C (.ref a)=some .dct):Th C (.ref a)
def X9(h:tyP C x=some n)(g:Gr C C'):tyP C' x=some n:=by
 cases x with
 |ref a =>
  delta tyP at h ⊢
  dsimp only at h ⊢
  split at h
  .next e=>rwa [g a _ e]
  .next e=>rwa [g a _ e]
  .cases h
 |_=>exact h
def Th.gr(h:Th C x)(g:Gr C C'):Th C' x:=by
 induction h with
 |non=>exact .non
 |bl b=>exact .bl b
 |int i=>exact .int i
 |str z=>exact .str z
 |tup _ q=>exact .tup q
 |lst h=>exact .lst (X9 h g)
 |dct h=>exact .dct (X9 h g)
def Th.ty(h:Th C x):∃n,tyP C x=some n:=by
 cases h with
 |lst h=>exact⟨_,h⟩
 |dct h=>exact⟨_,h⟩
 |_=>exact⟨_,rfl⟩
mutual
def pw:PV->Nat
 |.tup ts=>1+ji ts
 |_=>1
def ji:List PV->Nat
 |[]=>0
 |t::ts=>pw t+ji ts
end
def qu xs ys:ji (xs++ys)=ji xs+ji ys:=by
 induction xs with
 |nil=>rw[Bi,ji,BY]
 |cons x xs q=>rw[Ba,ji,ji,q];lia
theorem iE{α:Type}{f}: ∀{l:List α},(∀x∈l,pw (f x)<=c)->ji (l.map f)<=c * l.length
 |[],_ =>AW _
 |x::l,h=>by
  have h1:=iE fun y q=>h y (AJ _ q);have h2:=h x AG;rw[A4,ji,AQ]
  lia
def Zn ts:pw (.tup ts)=1+ji ts:=by rw[pw]
def Mi k:pw (cW k)<=1:=by rcases k with (_ | i) | x<;>simp[cW,pw]
def PX sp:pw (cJ sp)<=1+sp.length:=by
 have:=iE (l:=sp) fun k _=>Mi k
 delta cJ
 rw[Zn]
 lia
def P0 c:pw (oQ c)=3:=by delta oQ;simp[pw,ji]
def WM(cs:List (Str×Int)):pw (.tup (cs.map oQ))<=1+3 * cs.length:=by
 have:=iE (l:=cs) fun c _=>DF (P0 c);rw[Zn]
 lia
noncomputable def Sg(cs:List (List Str×Int)):iy:=cs.map fun c=>(c.1.map Sum.inr,.int c.2)
theorem zC:∀L A,(cU L A).length<=A.length+(L.map fun e=>e.2.length).sum
 |[],A=>AI _
 |e::L,A=>by
  have h1:=zC L (lU e.1 e.2 A);have h2:=aM (s:=e.1) e.2 A;show(cU L (lU e.1 e.2 A)).length<=_;rw[A4,List.sum_cons]
  lia
section
variable {W:Wd}{a:Adr}
inductive gPo(ts:List PV)(C:CH)(Q:K1):Prop
 |mk(pts:List Pt)(x:Pt)(z0:ts=[.tup (pts.map Pt.pv),.str x.name])(z1:(uJ pts).Nodup)(z2:x∈pts)(z3:Q x.pv C)
def pC(T:Tx W a):Ok W a 1 7 ["house","name"] gPo:=by
 refine(T.F 7 rfl).o (fun Z=>(xQ (gY PassesOwn.never rfl (cv 0) (mq 2 ((T.F 7 rfl).s).nd) (kQ (uX (ct2 lX jX (cx (cv 2) zQ) (cv 1)) (kQ (fQ (cv 2))) eQ)))
  (kQ (fQ qV)))) ?_
 rintro ts C R ⟨J,x,rfl,nd,S,q⟩;refine jZ (yF rfl (iZ (fun zs ρ C'=>C'=C/\∃us vs O,J=us++vs/\zs=vs.map Pt.pv/\(∀u∈us,u.name≠x.name)/\ρ=[some (.tup (J.map Pt.pv)),some (.str x.name),O]) ?_ ?_ _ _ _ ⟨rfl,[],J,_,rfl,rfl,(fun _ z=>nomatch z),rfl⟩))
 .rintro z zs ρ C' ⟨rfl,us,vs,O,e,G,I,rfl⟩ L Y
  cases vs with
  |nil=>cases G
  |cons v vs =>
  obtain⟨rfl,rfl⟩:=BI G;refine tX rfl (mX (cQ _ _) (bZ (fun B=>?_) fun B=>?_))
  .have B:=Ag B
   have U:=tH nd (e▸Aa _ AG) B;rw[tH nd S rfl] at U;rw[U] at q;exact q
  .refine dX (Y _ _ ⟨rfl,us++[v],vs,_,by rw[AR];exact e,rfl,fun u F=>?_,rfl⟩)
   rcases Ad.1 F with F | F
   .exact I u F
   .grind
 .rintro ρ C' ⟨rfl,us,vs,O,e,G,I,rfl⟩
  cases vs with
  |cons v vs=>cases G
  |nil =>
  rw[Ae] at e;subst e;exact absurd rfl (I x S)
inductive gBx(ts:List PV)(C:CH)(Q:K1):Prop
 |mk(y:Pt)(vv:Addr)(V:Vl)(p:bX)(z0:ts=[y.pv,.ref vv,lQ p])(z1:C vv=some (.dP (sy V)))(z2:Q (.tup ((pZ V y p).map oQ)) C)
def QW(T:Tx W a):Ok W a 1 14 ["part","values","path"] gBx:=by
 refine(T.F 14 rfl).o (fun F=>(xQ (gn 3 ((T.F 14 rfl).s).nd (GV Cj Bg Do (JZ (wF F)) XF (cv 1) (d7 (cv 2))))
  (xQ (uX (jl (ug (ct2 bC rD (cv 3) qV) (qw (ct2 op_ne GH (cx (cv 3) zQ) (cx (cv 0) zQ))))) (kQ (fQ (cx (cv 0) zQ))) eQ)
  (kQ (fQ (cx (cv 3) zQ)))))) ?_
 rintro ts C R ⟨y,G,V,p,rfl,B,q⟩;refine yQ ⟨⟨G,_,rfl,B⟩,Y2 B (pV p) ?_⟩;rw[Li]
 delta pZ at q
 cases e:aC V p with
 |none =>
  rw[e] at q
  apply jZ
  delta Og cOr
  refine iN (x:=.non) ?_ ?_
  .rfl
  exact Eo rfl (tX rfl q)
 |some v =>
  rw[e] at q;dsimp only at q
  apply jZ
  delta Og cOr
  refine iN (x:=vo v) ?_ ?_
  .rfl
  refine uD rfl (tX wX (tX wX (mX (cQ _ _) ?_)))
  by_cases h:v.1=y.name
  .rw [Ah h] at q
   apply yJ (by lia)
   exact dX (tX rfl q)
  .rw [Af h] at q
   apply pW (by lia)
   exact tX rfl q
inductive gAt(ts:List PV)(C:CH)(Q:K1):Prop
 |mk(x:j5)(bx:List (Str×Int))(z0:ts=[.tup (x.gives.map oQ),.tup (x.downs.map oQ),.tup (bx.map oQ)])(z1:x.gives.length+x.downs.length+bx.length<=100)(z2:∀aa C',C aa=none->C' aa=some (.dT (dG x bx))->Gr C C'->Q (.ref aa) C')
def dS(T:Tx W a):Ok W a 1 13 ["gives","downs","boxes"] gAt:=by
 have S:=(T.F 13 rfl).s
 refine(T.F 13 rfl).ok (fun ts C R h=>?_) fun ai A outer s H E hr=>⟨_,(xQ (gn 3 S.nd Ku)
  (xQ (gY PassesOwn.never rfl (mQ (qQ (mQ (qQ vQ (d7 (cv 0)))) (qQ (mQ (qQ vQ (d7 (cv 1)))) (d7 (mQ (qQ vQ (d7 (cv 2)))))))) (yP rfl (kZ (mq 4 S.nd) (kZ (mq 5 S.nd) vM))) (kQ (gY PassesOwn.never rfl (cv 5) (yP rfl (kZ (mq 6 S.nd) (kZ (mq 7 S.nd) vM))) (kQ (Kp (qZ hr) (cv 3) (mQ (qQ (cv 4) (d7 (cv 6)))) (cv 7))))))
  (kQ (fQ (cv 3))))),?_⟩
 .obtain ⟨_,_,rfl,_⟩:=h;rfl
 rintro ts C R ⟨x,B,rfl,hl,ah⟩
 apply yQ
 intro aa ab;have hs:((HB x B).map fun e=>e.2.length).sum<=100:=by show x.gives.length+(x.downs.length+(B.length+0))<=100;lia
 refine vX (fun ae C'=>∃I J F G,ae=[some (.tup (x.gives.map oQ)),some (.tup (x.downs.map oQ)),some (.tup (B.map oQ)),some (.ref aa),I,J,F,G]/\C' aa=some (.dT (dG x B))/\Gr C C') (fun L hL=>?_) ?_
 .refine Nr ⟨y0 2 rfl,?_⟩
  refine⟨y0 2 rfl,?_⟩;refine⟨y0 2 rfl,?_⟩;refine⟨y0 3 rfl,?_⟩;refine iZ (fun zs ρ C'=>∃(us vs:List (Str×List (Str×Int)))(I J F G:Option PV),HB x B=us++vs/\zs=vs.map Wz/\ρ=[some (.tup (x.gives.map oQ)),some (.tup (x.downs.map oQ)),some (.tup (B.map oQ)),some (.ref aa),I,J,F,G]/\C' aa=some (.dT (cU us []))/\Gr C C') ?_ ?_ _ _ _ ⟨[],HB x B,_,_,_,_,rfl,rfl,rfl,jQ,Gr.new ab _⟩
  .rintro z zs ρ Y ⟨us,vs,I,J,F,G,e,q,rfl,U,O⟩ L1 af
   cases vs with
   |nil=>cases q
   |cons v vs =>
   obtain⟨rfl,rfl⟩:=BI q;refine⟨rfl,aZ (aZ (jP ?_))⟩
   apply yF rfl
   have hu:=zC us [];rw[e,AS,List.sum_append,A4,List.sum_cons] at hs;have hu:(cU us []).length<=0+_:=hu;refine iZ (fun zs ρ C'=>∃(ps qs:List (Str×Int))(F G:Option PV),v.2=ps++qs/\zs=qs.map oQ/\ρ=[some (.tup (x.gives.map oQ)),some (.tup (x.downs.map oQ)),some (.tup (B.map oQ)),some (.ref aa),some (.str v.1),some (.tup (v.2.map oQ)),F,G]/\C' aa=some (.dT (lU v.1 ps (cU us [])))/\Gr C C') ?_ ?_ _ _ _ ⟨[],v.2,_,_,rfl,rfl,rfl,U,O⟩
   .rintro z zs ρ C4 ⟨ps,qs,y6,y7,ep,q,rfl,m4,Z⟩ L2 ag
    cases qs with
    |nil=>cases q
    |cons c qs =>
    obtain⟨rfl,rfl⟩:=BI q;refine⟨rfl,aZ (aZ (jP ⟨y0 2 rfl,?_⟩))⟩;have hp:=aM (s:=v.1) ps (cU us []);have hv:=A8 List.length ep;rw[AE] at hv
    apply Wu m4 rfl (by lia)
    refine ag _ _ ⟨ps++[c],qs,_,_,by rw[AR];exact ep,rfl,rfl,?_,iL Z ab _⟩;rw[jQ]
    delta lU
    rw[B9]
    rfl
   .rintro ρ C4 ⟨ps,qs,y6,y7,ep,q,rfl,m4,Z⟩
    cases qs with
    |cons c qs=>cases q
    |nil =>
    rw[Ae] at ep;refine af _ _ ⟨us++[v],vs,_,_,_,_,by rw[AR];exact e,rfl,rfl,?_,Z⟩;rw[m4,<- ep]
    delta cU
    rw[B9]
    rfl
  .rintro ρ Y ⟨us,vs,I,J,F,G,e,q,rfl,U,O⟩
   cases vs with
   |cons v vs=>cases q
   |nil =>
   rw[Ae] at e;exact hL _ _ ⟨_,_,_,_,rfl,by rw[U,<- e];rfl,O⟩
 rintro ae Y ⟨I,J,F,G,rfl,U,O⟩;exact ah aa Y ab U O
end
def uL(e:x=.tup xs)(h:¬ (HT.sIx xs.length 0 lo=0/\HT.sIx xs.length xs.length hi=xs.length))(q:Q (.tup (aG xs lo hi)) C):Hh x lo hi C Q:=by
 subst e
 delta Hh
 exact⟨h,q⟩
section
variable {W:Wd}{a:Adr}
inductive gAd(ts:List PV)(C:CH)(Q:K1):Prop
 |mk(pts:List Pt)(vv:Addr)(V:Vl)(x:j5)(y:Pt)(z0:ts=[.tup (pts.map Pt.pv),.ref vv,x.pv])(z1:(uJ pts).Nodup)(z2:y∈pts)(z3:y.name=x.name)(z4:C vv=some (.dP (sy V)))(z5:x.gives.length+x.downs.length+(pZ V y x.path).length<=100)(z6:∀aa C',C aa=none->C' aa=some (.dT (dG x (pZ V y x.path)))->Gr C C'->Q (.ref aa) C')
def dC(T:Tx W a):Ok W a 2 15 ["house","values","due"] gAd:=by
 have U:=pC T;have G:=QW T;have I:=dS T
 refine(T.F 15 rfl).o (fun F=>(xQ (gn 3 ((T.F 15 rfl).s).nd (cf (T.F 14 rfl) G F (qQ (cf (T.F 7 rfl) U F (qQ (cv 0) (d7 (cx (cv 2) zQ)))) (qQ (cv 1) (d7 (cx (cv 2) zQ))))))
  (kQ (fQ (cf (T.F 13 rfl) I F (qQ (cx (cv 2) zQ) (qQ (cx (cv 2) zQ) (d7 (cv 3))))))))) ?_
 rintro ts C R ⟨Y,Z,V,x,y,rfl,nd,S,L,O,J,q⟩;have B:x.pv=.tup [lQ x.path,.str x.name,.tup (x.gives.map oQ),.tup (x.downs.map oQ)]:=rfl;refine yQ (yX B rfl ⟨Y,y,by rw[L],nd,S,?_⟩);exact yX B rfl ⟨y,Z,V,x.path,rfl,O,yX B rfl (yX B rfl ⟨x,pZ V y x.path,rfl,J,q⟩)⟩
noncomputable def Nx:Option j5->PV
 |some x=>x.pv
 |none=>.non
end
def lq(p:bX):Prop:=∀sp∈p,uq sp
def lq.app(h:lq p)(k:lq q):lq (p++q):=fun sp hs=>by
 rcases Ad.1 hs with hs | hs
 .exact h sp hs
 .exact k sp hs
def lq.one(h:uq sp):lq [sp]:=fun x q=>by cases AF.1 q;exact h
def yg: ∀d r s ds,(∀x∈r,j4 O d x)->lq s->∀x∈Wt.ik r s ds,lq x.path:=by
 intro d
 induction d with
 |zero =>
  intro r s ds F hs x q
  cases r with
  |nil=>exact nomatch q
  |cons y r=>exact(F y AG).elim
 |succ d I =>
  intro r s ds F hs
  induction r with
  |nil=>intro x q;exact nomatch q
  |cons y r L =>
   intro x q;have B:=F y AG
   rcases Ad.1 q with q | q
   .cases y with
    |part sp n g=>cases AF.1 q;exact hs.app (lq.one B.1)
    |give sp n i G=>exact I G _ _ B.2.2.1 (hs.app (lq.one B.1)) x q
    |plain sp S ss J G=>exact I G _ _ B.2.2.1 (hs.app (lq.one B.1)) x q
   .grind
def R9(hs:pF J){V}(O:nu V):∀n k x,dM J k x->lq x.path->∀e∈dr J V n x,lq e.x.path:=by
 intro n
 induction n with
 |zero=>intro k x _ _ e B;exact nomatch B
 |succ n S =>
  intro k x h I e B
  rcases AZ.1 B with rfl | B
  .exact I
  .obtain ⟨q,G,B⟩:=(CU.1 B)
   obtain⟨y,F⟩:=XW hs O h;exact xZ (sW h F G) fun U _ L _=>S U _ L (I.app (yg 6 _ [] [] F.row.1 (fun _ z=>nomatch z) q G)) e B
def VF(hs:pF B){V}(F:nu V)(G:e∈eZ B V):(∃k,dM B k e.x)/\e=⟨e.x,zG B V e.x⟩/\pw e.x.pv<=1000000/\lq e.x.path:=by
 obtain⟨k,q,ep⟩:=(Gw hs F 6 0 _ (vV hs) e G);have I:=R9 hs F 6 0 _ (vV hs) (fun _ z=>nomatch z) e G;have O:=hs.n6
 have S:k < B.length:=by
  have:=(Ab.1 q.nm).1;unfold uJ at this
  rwa [AB] at this
 refine⟨⟨k,q⟩,?_,?_,I⟩
 .rw [<- ep]
 .have h1:=iE (f:=cJ) (c:=3) fun sp L=>by
   have:=PX sp;have:=(I sp L).l
   lia
  have h2:=WM e.x.gives;have J:=WM e.x.downs;have:=q.pl;have:=q.gl;have:=q.dl;rw[Zn] at h2 J
  delta j5.pv lQ
  simp only[pw,ji]
  lia
section
variable {W:Wd}{a:Adr}
def Gq(hs:pF q){V}(J:nu V)(F:fE q st){D:List En}(O:qG q V st=D.drop i):((iJ st)[(iJ st).length - 1]?).getD .non=Nx (D[i]?.map (·.x)):=by
 rcases DE i D.length with L | B
 .have G:qG q V st=D[i]::D.drop (i+1) :=by simp_all
  obtain⟨y,n,st',rfl,I,_⟩:=Qy hs J F G;rw[AM L,I,mO]
  simp[Nx]
 .have:=xr F (by rw[O,List.drop_of_length_le B])
  subst this;rw[B7 B]
  rfl
end
def Rr(q:Q (.bl (k (wU x))) C):Ux k x .non C Q:=q
section
variable {W:Wd}{a:Adr}
structure RJ(a:Adr)(C0 C:CH)(dd x ll:Addr)(pts:List Pt)(V:Vl)(D:List En)(i:Nat)(st:O4):Prop where
 il:i<=D.length
 md:C dd=some (.lst ((D.take i).map En.pv))
 wk:Wk a C x ll (iJ st)
 so:fE pts st
 rm:qG pts V st=D.drop i
 g:Gr C0 C
def yO(T:Tx W a):Ok W a 30 16 ["house","values"] Ga:=by
 have S:=(T.F 16 rfl).s;have xT:=(dC T).mono (show 2<=29 by decide);have lP:=(pC T).mono (show 1<=29 by decide);have a3:=Yo T;have nH:=(Ye T).mono (show 1<=28 by decide);have uS:=(MJ T).mono (show 1<=29 by decide);have yS:=(zp T).mono (show 11<=29 by decide)
 apply (T.F 16 rfl).o (fun U=>(xQ (gn 2 S.nd (pX oX))
  (xQ (gn 3 S.nd (Kv T.mk_Walk nH U rfl T.lA (T.F 52 rfl).b kO (d7 (cv 0))))
  (xQ (GG PassesOwn.never (ct2 JX Xy (cm0 T.mY (T.F 53 rfl) T.lA uS U (cv 3)) qV) (xQ (gn 4 S.nd (cm0 T.mY (T.F 53 rfl) T.lA uS U (cv 3)))
  (xQ (gn 5 S.nd (cf (T.F 8 rfl) a3 U (qQ (cf (T.F 7 rfl) lP U (qQ (cv 0) (d7 (cx (cv 4) zQ)))) (d7 (cf (T.F 15 rfl) xT U (qQ (cv 0) (qQ (cv 1) (d7 (cv 4)))))))))
  (xQ (sX (cap (cv 2) (nQ iQ qX (cv 4) (mQ (d7 (cv 5))))))
  (kQ (sX (cm T.mY (T.F 54 rfl) T.lA yS U (cv 3) (d7 (cx (cv 2) (oM lY uV zQ))))))))))
  (kQ (fQ (cv 2)))))))
 rintro ts C R ⟨B,vv,V,rfl,hs,O,hv,ay⟩;refine yQ ⟨by decide,fun F ag=>?_⟩;have af:Gr C (gQ C F (.lst [])):=Gr.new ag _;have aj:gQ C F (.lst []) F=some (.lst []):=jQ;generalize gQ C F (.lst [])=C3 at af aj ⊢
 apply yQ
 intro x dx bj bp b4;refine⟨x,dx,B,rfl,hs.n1,jQ,fun C4 I bb az e1=>⟨rfl,?_⟩⟩
 have g4:Gr C3 C4:=fun b o h=>by
  have:b≠x:=fun z=>by rw[z,bj] at h;cases h
  exact e1 b o (fun z=>this (AF.1 z)) (by rwa [wQ this])
 have ah:C3 I=none:=by rwa [wQ (Ne.symm az.ne)] at bb
 have ax:I≠F:=fun z=>by rw[z,aj] at ah;cases ah
 have a7:=gD af ah;generalize hD:eZ B V=D at ay;have b0:D.length<=559 :=hD▸Gx hs O (vV hs);have dm:∀e∈D,(∃k,dM B k e.x)/\e=⟨e.x,zG B V e.x⟩/\pw e.x.pv<=1000000/\lq e.x.path:=fun e bw=>VF hs O (by rwa [hD]);have h6:=hs.n6;refine⟨D.length+1,Jv (fun n ρ C'=>∃i st x4 x5,n=D.length - i/\ρ=[some (.tup (B.map Pt.pv)),some (.ref vv),some (.ref F),some (.ref x),x4,x5]/\RJ a C C' F x I B V D i st) ?_ _ D.length _ _ (CP _) ⟨0,[(root B,6)],none,none,rfl,rfl,⟨AW _,g4 _ _ aj,az,?_,?_,af.trans g4⟩⟩⟩
 .rintro n ρ C5 L ⟨i,st,x4,x5,rfl,rfl,J⟩ hL
  obtain⟨ao,ak⟩:=J.wk.ins;refine⟨cX ak rfl,⟨x,I,iJ st,rfl,J.wk,?_⟩⟩;rw[Gq hs O J.so J.rm]
  rcases DE i D.length with hi | hi
  .have Z:=AM hi
   generalize D[i]=q at Z;rw[Z];obtain⟨⟨k,du⟩,ar,_⟩:=dm q (Ai Z);obtain⟨y,G⟩:=XW hs O du;have hx:q.x.pv=.tup [lQ q.x.path,.str q.x.name,.tup (q.x.gives.map oQ),.tup (q.x.downs.map oQ)]:=rfl;have ed:qG B V st=q::D.drop (i+1):=by rw[J.rm,Ap hi,<- Au ((AM hi).symm.trans Z)]
   have a4:q.pc=Mq (dG q.x (pZ V y q.x.path)) y:=by
    rw[ar]
    delta zG
    rw[G.is]
   have bz:k < B.length:=by
    have:=(Ab.1 du.nm).1;unfold uJ at this
    rwa [AB] at this
   have b1:=du.pl;have bu:=du.dl;have bx:=du.gl;have hb:=XU O G.ok q.x.path;refine Uw (Rr (pW rfl (yQ ⟨cX ak rfl,⟨x,I,iJ st,rfl,J.wk,?_⟩⟩)));rw[Gq hs O J.so J.rm,Z,show Nx (Option.map (·.x) (some q))=q.x.pv from rfl];refine yQ (yX hx rfl ⟨B,y,by rw[G.nm],hs.nd,G.mem,⟨B,vv,V,q.x,y,rfl,hs.nd,G.mem,G.nm,J.g _ _ hv,by lia,fun aa C6 br m6 g6=>?_⟩⟩);refine⟨y,aa,_,_,_,rfl,G.ok,m6,G.ab,fun C7 g7=>?_⟩
   have ab:=g6.trans g7;rw[<- a4];have ai:=ab _ _ J.md;have av:=ab _ _ ak;have b3:=ab _ _ J.wk.lst;have g8:=J.g.trans ab;have a9:PV.tup ([lQ q.x.path,.str q.x.name,.tup (q.x.gives.map oQ),.tup (q.x.downs.map oQ)]++[q.pc.pv])=q.pv:=rfl;refine jZ ⟨lW ai,⟨y0 1 rfl,?_⟩⟩;rw[hx]
   apply dY (by show 4+1<=sizeLine;decide)
   rw[a9];have tl:((D.take i).map En.pv).length<=559:=by rw[AB,Aw];lia
   apply gH ai (An tl (by decide))
   have bc:x≠F:=fun z=>by rw[z,ai] at av;cases av
   obtain⟨Y,n,st',rfl,a6,⟨k',yp,bo,bq⟩,er,bf⟩:=Qy hs O J.so ed;have a5:q.x=Y:=by rw[a6]
   have ba:=aE (V:=V) J.so;have b2:(qG B V ((Y,n+1)::st')).length<=559:=by rw[J.rm,BE];lia
   rw[AQ] at ba;have aw:gQ C7 F (.lst ((D.take i).map En.pv++[q.pv])) x=some (.ins a.Walk ao [("lacking",.ref I)]):=by rwa [wQ bc]
   have bh:Wk a (gQ C7 F (.lst ((D.take i).map En.pv++[q.pv]))) x I (iJ st'++[Y.pv]):=by
    refine⟨⟨ao,aw⟩,?_⟩
    rwa [wQ ax,<- mO (Y,n+1)]
   have bt:tK k<=18:=by delta tK;split<;>decide
   have a8:=G.jg;have ae:zG B V q.x=q.pc:=by rw[ar]
   rw[ae] at a8;have au:=G.row;rw[ae] at au;refine⟨cX aw rfl,hZ jQ Jm ⟨x,I,iJ st',Y.pv,q,_,rfl,bh,by rw[YG];lia,au,by lia,by lia,by lia,fun a0 b5 aq=>?_⟩⟩;have bg:∀b o,b≠F->b≠I->C7 b=some o->a0 b=some o:=fun b o n1 n2 h=>aq b o (fun z=>n2 (AF.1 z)) (by rwa [wQ n1]);refine hL (D.length - (i+1)) _ _ (by lia) ⟨i+1,(YI B V Y).map (fun z=>(z,n))++st',_,_,rfl,rfl,⟨hi,?_,?_,bf,er.symm,fun b o h=>bg b o (fun z=>by rw[z,ag] at h;cases h) (fun z=>by rw[z,a7] at h;cases h) (g8 b o h)⟩⟩
   .rw [aq _ _ (fun z=>ax (AF.1 z).symm) jQ,DQ,Z,AS]
    rfl
   .rw [Vu]
    have ek:(Wt.ik q.pc.row [] []).map (fY q.x)=YI B V Y:=by
     rw[<- ae,a5]
     rfl
    rwa [<- ek]
  .rw [B7 hi]
   have ei:=Nat.le_antisymm J.il hi;have md:=J.md;rw[ei,List.take_length] at md;exact Uw (Rr (yJ rfl (ay F C5 ag md J.g)))
 .intro p hp
  cases AF.1 hp;exact⟨0,vV hs,by lia⟩
 .delta qG
  rw[BV,List.flatMap_nil,Ae,<- hD]
  rfl
def Ve(T:Tx W a):Ok W a 31 35 U13 Kb:=by
 have S:=(T.F 35 rfl).s;have vS:=yO T;have bQ:=(mZ T).mono (show 1<=30 by decide);have qY:=(rL T).mono (show 2<=30 by decide)
 refine(T.F 35 rfl).ok (fun ts C R h=>?_) fun bh A outer s H E hr=>⟨_,(xQ (gn 2 S.nd bI)
  (xQ (lD PassesOwn.never rfl (cf (T.F 16 rfl) vS hr (qQ (cv 1) (d7 bI))) (yP rfl (kZ (mq 3 S.nd) (kZ (mq 4 S.nd) (kZ (mq 5 S.nd) (kZ (mq 6 S.nd) (kZ (mq 7 S.nd) vM)))))) (xQ (gn 8 S.nd (cx (zW rfl (S.c (by decide +kernel)) (S.k rfl rfl rfl (by decide +kernel)) (vP (cv 1)) (fun _ _ _ _ _=>(GN (ct2 lX jX (cx (cv 0) zQ) (cv 5)))) (fun _ _ _ _ _=>(cv 0))) zQ))
  (kQ (uX (ct2 vK cZ (cf (T.F 18 rfl) bQ hr (qQ (cv 0) (d7 zQ))) zQ) (kQ (Kq (wF hr) (cv 2) (cv 3) (mQ (qQ (cv 4) (d7 (p7 T.hX (GU rfl (show(["_law_box","_law_first","_law_tape_here","_law_house_here","_law_values_here","_law_path","_law_name","_law_gives","_law_downs","_law_piece","_law_part_here"]:List Str).Nodup by decide +kernel) (pR (N:=U1) (sc:=zX (top 55)) rfl rfl rfl (by decide +kernel)) (vP (cx (cv 8) zQ)) (fun _ _ _ _ _=>zK) (fun _ _ _ _ _=>(mQ (qQ (cv 0) (d7 (cf (T.F 20 rfl) qY hr (d7 (cv 2)))))))))))))) eQ))))
  (kQ (fQ (cv 2))))),?_⟩
 .obtain ⟨_,_,_,rfl,_⟩:=h;rfl
 rintro ts C R ⟨t,B,ns,rfl,hT,hs,bg⟩;have h6:=hs.n6;have h1:=hs.n1
 apply yQ
 intro G ae;have ah:=hT.ne ae;refine vX (fun ay C'=>∃(V:Vl)(U Y Z x6 x7 x8:Option PV),ay=[some (.ref t),some (.tup (B.map Pt.pv)),some (.ref G),U,Y,Z,x6,x7,x8]/\nu V/\C' G=some (.dP (sy V))/\Tp C' t ns/\Ex t C C') (fun L0 a7=>?_) ?_
 rotate_left
 .rintro ay I ⟨V,U,Y,Z,x6,x7,x8,rfl,O,mv,T3,e3⟩
  exact bg G V I O ae mv ah T3 e3
 intro aj ag;have ax:G≠aj:=fun z=>by subst z;rw[jQ] at ag;cases ag
 have T1:=(hT.new ae (.dP [])).new ag (.dP []);have a3:Gr C (gQ (gQ C G (.dP [])) aj (.dP [])):=(Gr.new ae _).trans (Gr.new ag _);refine⟨B,aj,[],rfl,hs,nu.nil,jQ,fun p C2 np ba ai=>?_⟩
 have T2:Tp C2 t ns:=by
  obtain⟨⟨az,b1,c1,e1,r1⟩,l1⟩:=T1;exact⟨⟨az,b1,c1,ai _ _ e1,r1⟩,l1⟩
 have aw:=T1.ne np;have bf:p≠G:=fun z=>by rw[z,wQ ax,jQ] at np;cases np
 have bb:=ai _ _ (by rw[wQ ax];exact jQ);have a4:=a3.trans ai;have a0:Ex t C C2:=fun b o _ h=>a4 b o h;have ab:(eZ B []).length<=559:=Gx hs nu.nil (vV hs);refine⟨(eZ B []).length+1,uU (xs:=(eZ B []).map En.pv) (fun i ρ C'=>C' p=some (.lst ((eZ B []).map En.pv))/\∃(V:Vl)(U Y Z x6 x7 x8:Option PV),ρ=[some (.ref t),some (.tup (B.map Pt.pv)),some (.ref G),U,Y,Z,x6,x7,x8]/\nu V/\V.length<=i/\i<=(eZ B []).length/\C' G=some (.dP (sy V))/\Tp C' t ns/\Ex t C C') (fun _ _ _ h=>h.1) ?_ ?_ _ 0 _ _ ⟨ba,[],_,_,_,_,_,_,rfl,nu.nil,AI _,AW _,bb,T2,a0⟩ (by rw[AB];lia) (AW _)⟩
 .rintro i z ρ I q ⟨m3,V,U,Y,Z,x6,x7,x8,rfl,O,a8,hi,mv,T3,e3⟩ L hL
  rw[Aq] at q
  cases af:(eZ B [])[i]? with
  |none=>rw[af] at q;cases q
  |some F =>
  rw[af] at q;cases q;have a9:=Ai af;have ao:i < (eZ B []).length:=(Ab.1 af).1;obtain⟨k',du,_⟩:=Gw hs nu.nil 6 0 _ (vV hs) F a9;obtain⟨y,ha⟩:=XW hs nu.nil du;refine⟨rfl,aZ (aZ (aZ (aZ (aZ (jP (yQ (XA (isNm F.x.name) _ [] I (fun x hx K a5=>?_) (fun x hx L' a6=>?_) (by rw[AB];show 0+_<=_;lia) (fun pf ar=>?_))))))))⟩
  .obtain ⟨z,q,rfl⟩:=AX.1 hx
   exact tX wX (mX (cQ _ _) a5)
  .exact a6
  rw[eO hs.nd ha.mem ha.nm];have gf:Gr I (gQ I pf (.lst ([]++[y.pv]))):=Gr.new ar _;have T4:=T3.new ar (.lst ([]++[y.pv]));have m4:=gf _ _ m3;have au:=gf _ _ mv
  apply hZ jQ rfl
  generalize gQ I pf (.lst ([]++[y.pv]))=C4 at gf T4 m4 au ⊢;refine⟨t,3,ns,rfl,T4,by decide,by decide,fun v C5 bo bp T5 e5=>?_⟩;have m5:=e5 _ _ aw m4;have av:=e5 _ _ ah au;have ak:Ex t C C5:=fun b o n h=>e5 b o n (gf b o (e3 b o n h));refine jw (bZ (fun hb=>?_) fun hb=>?_)
  .apply tX (xs:=[.str y.name,.tup (y.first.map oQ),.tup (y.works.map nU),.tup (Ln.f9 y.ls)]) (v:=.tup (y.first.map oQ)) rfl
   have bj:y.first.length<=4:=ha.ok.fl;refine VM (fun zs acc C'=>∃(us:List (Str×Int))(bs:List (Str×Int)),zs=us.map oQ/\acc=bs.map oQ/\HH bs/\bs.length+us.length=y.first.length/\Tp C' t ns/\Ex t C5 C') ?_ ?_ _ _ _ ⟨y.first,[],rfl,rfl,(fun _ z=>nomatch z),BY _,T5,Ex.refl⟩
   .rintro z zs acc C6 ⟨us,bs,q,rfl,hb,ab,T6,e6⟩
    cases us with
    |nil=>cases q
    |cons u us =>
    obtain⟨rfl,rfl⟩:=BI q;refine⟨[.str u.1,.int u.2],rfl,rfl,fun L hL=>?_⟩;rw[AQ] at ab;refine⟨t,ns,rfl,T6,fun i C7 i0 i1 T7 J=>⟨y0 2 rfl,hL _ _ ⟨?_,us,bs++[(u.1,i)],rfl,by rw[AS];rfl,fun c hc=>?_,by rw[AE,AO];lia,T7,e6.trans J⟩⟩⟩
    .rw [AB]
     exact AK (show bs.length < 5 by lia) (by decide)
    .rcases Ad.1 hc with hc | hc
     .exact hb c hc
     .cases AF.1 hc;exact⟨i0,i1⟩
   .rintro acc C6 ⟨us,bs,q,rfl,hb,ab,T6,e6⟩ p6 aq
    cases us with
    |cons u us=>cases q
    |nil =>
    have ab:bs.length+0=y.first.length:=ab;refine vJ jQ ⟨y0 2 rfl,?_⟩;have J:Ex t C5 (gQ C6 p6 (.lst (bs.map oQ))):=e6.trans (Ex.new aq _);have T7:=T6.new aq (.lst (bs.map oQ));generalize gQ C6 p6 (.lst (bs.map oQ))=C7 at J T7 ⊢;have bc:=J _ _ ah av;have m7:=J _ _ aw m5
    apply WW bc (pV _) (by delta sy;rw[AB];lia)
    rw[show PV.tup [PV.str F.x.name,PV.tup (bs.map oQ)]=vo (F.x.name,bs) from rfl,Mj];refine hL _ _ ⟨by rw[wQ bf];exact m7,QG V F.x.path (F.x.name,bs),_,_,_,_,_,_,rfl,yd O _ hb (by lia),by have:=WQ V F.x.path (F.x.name,bs);lia,ao,jQ,T7.put ah _,?_⟩;exact(ak.trans J).put ae _
  .exact dX (hL _ _ ⟨m5,V,_,_,_,_,_,_,rfl,O,by lia,ao,av,T5,ak⟩)
 .rintro ρ I ⟨m3,V,U,Y,Z,x6,x7,x8,rfl,O,a8,hi,mv,T3,e3⟩
  exact a7 _ _ ⟨V,_,_,_,_,_,_,rfl,O,mv,T3,e3⟩
end
noncomputable def Xl(q:bX)(h:o5):PV:=.tup [.str h.ev,.int h.rank,.bl h.last,lQ q,.tup (h.ch.map GD)]
noncomputable def rQ(D:List En)(p:bX):List Wt:=((D.find? fun e=>decide (e.x.path=p)).map (·.pc.row)).getD []
theorem J5:∀{D}{e},(gZ D).Nodup->e∈D->rQ D e.x.path=e.pc.row
 |[],e,_,m=>nomatch m
 |z::D,e,nd,m=>by
  have nd:(z.x.path::gZ D).Nodup:=nd;rw[A0] at nd
  delta rQ
  rw[A1]
  rcases AZ.1 m with rfl | m
  .grind
  .have q:¬ z.x.path=e.x.path:=fun h=>nd.1 (h▸AX.2 ⟨e,m,rfl⟩)
   exact(AU q)▸J5 nd.2 m
inductive Bx where
 |mk(lab:bX)(tag:Str)(ss:List (Str×Int))(path:bX)(hs:List o5)(inner:List Bx)def Bx.lab:Bx->bX
 |.mk lab _ _ _ _ _=>lab
noncomputable def Bx.inn:Bx->List Bx
 |.mk _ _ _ _ _ q=>q
mutual
def Bx.bv:Bx->PV
 |.mk _ F ss B hs q=>.tup [.str F,.tup (ss.map oQ),.tup (hs.map (Xl B)),.tup (Bx.f9 q)]
def Bx.f9:List Bx->List PV
 |[]=>[]
 |x::r=>.tup [lQ x.lab,x.bv]::Bx.f9 r
end
noncomputable def Bx.pv(x:Bx):PV:=.tup [lQ x.lab,x.bv]
theorem Bx.jd:∀xs,Bx.f9 xs=xs.map Bx.pv
 |[]=>by rfl
 |x::xs=>by rw[Bx.f9,Bx.jd xs];rfl
noncomputable def uy(f:bX->bX->bX->List Wt->List Bx)(G:bX->List Wt)(F q B:bX):Wt->List Bx
 |.plain sp I s h r=>[.mk (B++[sp]) I s F h (f F (q++[sp]) [] r)]
 |.give sp _ _ r=>f F (q++[sp]) (B++[sp]) r
 |.part sp _ _=>f (q++[sp]) (q++[sp]) (B++[sp]) (G (q++[sp]))
noncomputable def lu(q:bX->List Wt):Nat->bX->bX->bX->List Wt->List Bx
 |0,_,_,_,_=>[]
 |n+1,F,I,B,G=>G.flatMap (uy (lu q n) q F I B)
noncomputable def bl1(f:bX->List Wt->Nat)(B:bX->List Wt)(q:bX):Wt->Nat
 |.plain sp _ _ _ r=>1+f (q++[sp]) r
 |.give sp _ _ r=>f (q++[sp]) r
 |.part sp _ _=>f (q++[sp]) (B (q++[sp]))
noncomputable def bl(q:bX->List Wt):Nat->bX->List Wt->Nat
 |0,_,_=>0
 |n+1,F,B=>(B.map (bl1 (bl q n) q F)).sum
mutual
def Bx.cnt:Bx->Nat
 |.mk _ _ _ _ _ q=>1+Bx.jk q
def Bx.jk:List Bx->Nat
 |[]=>0
 |x::r=>x.cnt+Bx.jk r
end
theorem Bx.ph:∀xs ys,Bx.jk (xs++ys)=Bx.jk xs+Bx.jk ys
 |[],ys=>by rw[Bi,Bx.jk,BY]
 |x::xs,ys=>by rw[Ba,Bx.jk,Bx.jk,Bx.ph xs ys];lia
theorem Bx.o9:∀xs,xs.length<=Bx.jk xs
 |[]=>AW _
 |.mk _ _ _ _ _ _::xs=>by
  have:=Bx.o9 xs;rw[Bx.jk,Bx.cnt,AQ];lia
def Qa J:∀n I F G q,Bx.jk (lu J n I F G q)=bl J n F q:=by
 intro n
 induction n with
 |zero=>intro _ _ _ _;rw[lu,bl,Bx.jk]
 |succ n B =>
  intro I F G q;rw[lu,bl]
  induction q with
  |nil=>rfl
  |cons x q O =>
   rw[BV,Bx.ph]
   congr 1
   cases x with
   |plain sp t s h r=>rw[uy,Bx.jk,Bx.cnt,B];rfl
   |give sp L i r=>exact B _ _ _ _
   |part sp L g=>exact B _ _ _ _
def TF(q:Str)(ss:List (Str×Int))(h:List o5):Prop:=ss.length<=4/\h.length<=4/\∀x∈h,x.ch.length<=4
def FM(D:List En)(f:bX->List Wt->Prop)(s:bX):Wt->Prop
 |.plain sp q ss h r=>TF q ss h/\f (s++[sp]) r
 |.give sp _ _ r=>f (s++[sp]) r
 |.part sp _ _=>(∃e∈D,e.x.path=s++[sp])/\f (s++[sp]) (rQ D (s++[sp]))
def Ft(D:List En):Nat->bX->List Wt->Prop
 |0,_,_=>False
 |n+1,B,q=>bl (rQ D) (n+1) B q<=30000/\(q.map Wt.sp).Nodup/\∀x∈q,uq x.sp/\FM D (Ft D n) B x
def QF(D:List En)(N b:Nat)(p:bX):Prop:=(∃e∈D,e.x.path=p)/\∀M,N<=M->Ft D M p (rQ D p)/\bl (rQ D) M p (rQ D p)<=b
def j4.spb(h:j4 q d x):uq x.sp:=by
 cases d with
 |zero=>exact h.elim
 |succ d=>cases x<;>exact h.1
def WD(x:bX)(hN:1<=N):∀(d:Nat)(r:List Wt)(s:bX)(ds:List (Str×Int)),bH ab d r->Wt.ju r+Wt.jg r * b<=30000 ->
  (∀q∈Wt.ik r s ds,QF D N b (x++q.path)) ->
  ∀M,N+d<=M->Ft D M (x++s) r/\bl (rQ D) M (x++s) r<=Wt.ju r+Wt.jg r * b:=by
 intro d
 induction d with
 |zero =>
  intro r s ds G L F M hM
  cases r with
  |cons y r=>exact(G.1 y AG).elim
  |nil =>
   obtain⟨m,rfl⟩:∃m,M=m+1:=⟨M - 1,by lia⟩;exact⟨⟨AW _,BS,fun _ z=>(nomatch z)⟩,AW _⟩
 |succ d ih =>
  intro r s ds G L F M hM;obtain⟨m,rfl⟩:∃m,M=m+1:=⟨M - 1,by lia⟩
  have ai:∀y:Wt,j4 ab (d+1) y->y.wc+y.pc * b<=30000->(∀q∈y.rn s ds,QF D N b (x++q.path)) ->
    FM D (Ft D m) (x++s) y/\bl1 (bl (rQ D) m) (rQ D) (x++s) y<=y.wc+y.pc * b:=by
   intro y oy S F
   cases y with
   |plain sp t ss h B =>
    obtain⟨_,Z,o1,o2⟩:=oy;have J:(Wt.plain sp t ss h B).wc=1+Wt.ju B:=by rw[Wt.wc]
    have I:(Wt.plain sp t ss h B).pc=Wt.jg B:=by rw[Wt.pc]
    rw[J,I] at S;have:=ih B (s++[sp]) ds ⟨o1,o2⟩ (by lia) (fun q O=>F q (by rwa [Wt.rn])) m (by lia);rw[<- AR] at this;refine⟨⟨⟨Z.1,Z.2.1,Z.2.2.1⟩,this.1⟩,?_⟩;have h2:=this.2;rw[J,I];show 1+bl (rQ D) m (x++s++[sp]) B<=_
    lia
   |give sp n i B =>
    obtain⟨_,ak,o1,o2⟩:=oy;have J:(Wt.give sp n i B).wc=1+Wt.ju B:=by rw[Wt.wc]
    have I:(Wt.give sp n i B).pc=Wt.jg B:=by rw[Wt.pc]
    rw[J,I] at S;have:=ih B (s++[sp]) (vY ds [(n,i)]) ⟨o1,o2⟩ (by lia) (fun q O=>F q (by rwa [Wt.rn])) m (by lia);rw[<- AR] at this;refine⟨this.1,?_⟩;rw[J,I];have h2:=this.2;show bl (rQ D) m (x++s++[sp]) B<=_
    lia
   |part sp n g =>
    obtain⟨Y,ag⟩:=F ⟨s++[sp],n,g,ds⟩ (by rw[Wt.rn];exact AF.2 rfl);have h2:=ag m (by lia);have ea:x++(s++[sp])=x++s++[sp]:=by rw[AR]
    have Y:=Y;have h2:=h2;rw[ea] at Y h2;refine⟨⟨Y,h2.1⟩,?_⟩;have J:(Wt.part sp n g).wc=1:=by rw[Wt.wc]
    have I:(Wt.part sp n g).pc=1:=by rw[Wt.pc]
    rw[J,I];have:=h2.2;show bl (rQ D) m (x++s++[sp]) (rQ D (x++s++[sp]))<=_
    lia
  have af:∀r:List Wt,(∀y∈r,j4 ab (d+1) y)->Wt.ju r+Wt.jg r * b<=30000->(∀q∈Wt.ik r s ds,QF D N b (x++q.path)) ->
    (∀y∈r,FM D (Ft D m) (x++s) y)/\(r.map (bl1 (bl (rQ D) m) (rQ D) (x++s))).sum<=Wt.ju r+Wt.jg r * b:=by
   intro r
   induction r with
   |nil=>intro _ _ _;exact⟨fun _ z=>(nomatch z),AW _⟩
   |cons y r ah =>
    intro G L F;have L:(y.wc+Wt.ju r)+(y.pc+Wt.jg r) * b<=30000:=L;rw[Nat.add_mul] at L;obtain⟨ae,aj⟩:=ai y (G y AG) (by lia) fun q O=>F q (by rw[Wt.ik];exact A2 _ O);obtain⟨b1,b2⟩:=ah (fun z U=>G z (AJ _ U)) (by lia) fun q O=>F q (by rw[Wt.ik];exact Aa _ O);refine⟨fun z U=>?_,?_⟩
    .rcases AZ.1 U with rfl | U
     .exact ae
     .exact b1 z U
    .rw [A4,List.sum_cons]
     show _<=(y.wc+Wt.ju r)+(y.pc+Wt.jg r) * b;rw[Nat.add_mul]
     lia
  obtain⟨c1,c2⟩:=af r G.1 L F;refine⟨⟨?_,G.2,fun y S=>⟨(G.1 y S).spb,c1 y S⟩⟩,?_⟩
  .rw [bl];lia
  .rwa [bl]
noncomputable def O2(N k:Nat):Nat:=if k=0 then 26832 else 48 * (2 ^ (N - k) - 1)
def Ud(B:N<=6)(hk:k < N):48+tK k * (48 * (2 ^ (N - k - 1) - 1))<=O2 N k:=by
 delta O2 tK
 split
 .have:2 ^ (N - k - 1)<=2 ^ 5:=BQ (by decide) (by lia)
  lia
 .obtain ⟨m,q⟩:∃m,N - k=m+1:=⟨N - k - 1,by lia⟩
  rw[q,show m+1 - 1=m by lia,Nat.pow_succ];have:1<=2 ^ m:=Nat.one_le_two_pow
  lia
def Oi(q:N<=6):O2 N k<=26832:=by
 delta O2
 split
 .lia
 .have:2 ^ (N - k)<=2 ^ 6:=BQ (by decide) (by lia)
  lia
def Eu(hs:pF B){V}(hV:nu V)(nd:(gZ D).Nodup):∀n k x,dM B k x->B.length<=k+n->(∀e∈dr B V n x,e∈D) ->
  (∃e∈D,e.x.path=x.path)/\∀M,6 * (B.length - k)+1<=M->Ft D M x.path (rQ D x.path)/\bl (rQ D) M x.path (rQ D x.path)<=O2 B.length k:=by
 intro n
 induction n with
 |zero =>
  intro k x h hn;have:=(Ab.1 h.nm).1;unfold uJ at this;rw[AB] at this
  lia
 |succ n ih =>
  intro k x h hn G;obtain⟨y,F⟩:=XW hs hV h
  have ae:k < B.length:=by
   have:=(Ab.1 h.nm).1;unfold uJ at this
   rwa [AB] at this
  have I:=hs.n6;have J:=G _ (by rw[dr];exact AG);refine⟨⟨_,J,rfl⟩,fun M hM=>?_⟩;rw[(J5 nd J)];have wk:=F.ju;have ah:Wt.jg (zG B V x).row * (48 * (2 ^ (B.length - k - 1) - 1))<=tK k * (48 * (2 ^ (B.length - k - 1) - 1)):=BR _ F.jg;have st:=Ud I ae;have ai:=Oi (k:=k) I
  have R:=WD (N:=6 * (B.length - k - 1)+1) (b:=48 * (2 ^ (B.length - k - 1) - 1)) x.path (by lia) 6 (zG B V x).row [] [] F.row (by lia) (fun q L=>by
   refine Gm (sW h F L) fun O ag dq qn _=>?_;obtain⟨U,Y⟩:=ih O (fY x q) dq (by lia) fun e ab=>G e (by rw[dr];exact AJ _ (CU.2 ⟨q,L,ab⟩));refine⟨U,fun S af=>uF (Y S (by lia)) fun Z b2=>?_⟩;refine⟨Z,AY b2 ?_⟩
   delta O2
   rw[Af (by lia)];have:2 ^ (B.length - O)<=2 ^ (B.length - k - 1):=BQ (by decide) (by lia)
   lia) M (by lia)
  rw[Ae] at R;exact⟨R.1,by lia⟩
def Z5(hs:pF q){V}(B:nu V):(∃e∈eZ q V,e.x.path=[])/\Ft (eZ q V) 37 [] (rQ (eZ q V) []):=by
 have J:=hs.n6;obtain⟨F,G⟩:=Eu hs B (Iz hs B 6 0 _ (vV hs)) 6 0 _ (vV hs) (by lia) fun e I=>I;exact⟨F,(G 37 (by lia)).1⟩
noncomputable def iF(D:List En):List (bX×PV):=D.map fun e=>(e.x.path,.tup (Wt.f9 e.pc.row))
theorem oN: ∀{D},(∃e∈D,e.x.path=p)->zZ (iF D) p=some (.tup (Wt.f9 (rQ D p)))
 |[],h =>dQ h fun e B _=>nomatch B
 |z::D,h=>by
  show zZ ((z.x.path,PV.tup (Wt.f9 z.pc.row))::iF D) p=_;rw[eK]
  delta rQ
  rw[A1]
  by_cases e:z.x.path=p
  .grind
  .rw [Af e,AU e]
   apply oN
   obtain⟨y,q,F⟩:=h
   rcases AZ.1 q with rfl | q
   .lia
   .grind
def WO{e:En}(h:e.x.path∉gZ D):ig (iF D) e.x.path (.tup (Wt.f9 e.pc.row))=iF (D++[e]):=by
 delta ig
 rw[Af]
 .delta iF
  rw[AS]
  rfl
 .intro z
  apply h
  obtain⟨x,q,ex⟩:=List.any_eq_true.1 z;obtain⟨y,B,rfl⟩:=AX.1 q;exact AX.2 ⟨y,B,Ag ex⟩
def qB(h:n<=200000):n<=sizeLine:=AY h (by decide)
def JL s sp:PV.tup (s.map cJ++[cJ sp])=lQ (s++[sp]) :=by simp_all[lQ,List.map_append]
def v7(f:Wt->Nat)us u vs:((us++u::vs).map f).sum=(us.map f).sum+f u+(vs.map f).sum :=by grind
def j9 xs ys:Bx.f9 (xs++ys)=Bx.f9 xs++Bx.f9 ys :=by grind[Bx.jd,List.map_append]
def jo B n I F G q:(Bx.f9 (lu B n I F G q)).length<=bl B n F q:=by
 rw[Bx.jd,AB,<- Qa B n I F G q];exact Bx.o9 _
section
variable {W:Wd}{a:Adr}
inductive gBn(n:Nat)(ts:List PV)(C:CH)(Q:K1):Prop
 |mk(rr:Addr)(D:List En)(path spots label:bX)(row:List Wt)(z0:ts=[.ref rr,lQ path,lQ spots,lQ label,.tup (Wt.f9 row)])(z1:C rr=some (.dP (iF D)))(z2:Ft D n spots row)(z3:spots.length+n<=500)(z4:label.length+n<=500)(z5:∀p C',C p=none->C' p=some (.lst (Bx.f9 (lu (rQ D) n path spots label row)))->Gr C C'->Q (.ref p) C')
inductive gBo(n:Nat)(ts:List PV)(C:CH)(Q:K1):Prop
 |mk(rr:Addr)(D:List En)(path spots:bX)(sp:List Key)(tag:Str)(ss:List (Str×Int))(hs:List o5)(row:List Wt)(z0:ts=[.ref rr,lQ path,lQ spots,(Wt.plain sp tag ss hs row).pv])(z1:C rr=some (.dP (iF D)))(z2:Ft D n spots row)(z3:spots.length+n<=500)(z4:n<=500)(z5:hs.length<=4)(z6:∀C',Gr C C'->Q (.tup [.str tag,.tup (ss.map oQ),.tup (hs.map (Xl path)),.tup (Bx.f9 (lu (rQ D) n path spots [] row))]) C')
def Vi(T:Tx W a)n r(zU:Ok W a r 1 U6 (gBn n)):Ok W a (r+1) 2 ["rows","path","spots","want"] (gBo n):=by
 have S:=(T.F 2 rfl).s
 apply (T.F 2 rfl).o (fun hr=>(xQ (gn 4 S.nd (p7 T.hX (zW rfl (S.c (by decide +kernel)) (S.k rfl rfl rfl (by decide +kernel)) (vP (cx (cv 3) zQ)) (fun _ _ _ _ _=>zK) (fun _ _ _ _ _=>(mQ (qQ (cx (cv 0) zQ) (qQ (cx (cv 0) zQ) (qQ (cx (cv 0) zQ) (qQ (cv 2) (d7 (cx (cv 0) zQ)))))))))))
  (kQ (fQ (mQ (qQ (cx (cv 3) zQ) (qQ (cx (cv 3) zQ) (qQ (cv 4) (d7 (p7 T.hX (cf (T.F 1 rfl) zU hr (qQ (cv 0) (qQ (cv 1) (qQ (cv 2) (qQ (mQ oX) (d7 (cx (cv 3) zQ)))))))))))))))))
 rintro ts C R ⟨rr,D,F,ae,sp,J,ss,hs,G,rfl,mr,O,h1,h2,hl,ab⟩;have ep:(Wt.plain sp J ss hs G).pv=.tup [.str "plain",cJ sp,.str J,.tup (ss.map oQ),.tup (hs.map o5.pv),.tup (Wt.f9 G)]:=by rw[Wt.pv]
 refine yQ (yX ep rfl (wW (fun zs acc C'=>C'=C/\∃us vs:List o5,hs=us++vs/\zs=vs.map o5.pv/\acc=us.map (Xl F)) ?_ ?_ _ _ _ ⟨rfl,[],hs,rfl,rfl,rfl⟩))
 .rintro z zs acc C1 ⟨rfl,us,vs,e,B,rfl⟩ L Y
  cases vs with
  |nil=>cases B
  |cons v vs =>
  obtain⟨rfl,rfl⟩:=BI B;have q:v.pv=.tup [.str v.ev,.int v.rank,.bl v.last,.tup (v.ch.map GD)]:=rfl;refine yX q rfl (yX q rfl (yX q rfl (yX q rfl ⟨y0 5 rfl,?_⟩)));refine Y _ _ ⟨?_,rfl,us++[v],vs,by rw[AR];exact e,rfl,by rw[AS];rfl⟩;rw[AB];have:=A8 List.length e;rw[AE,AQ] at this;exact AK (show us.length < 5 by lia) (by decide)
 .rintro acc C1 ⟨rfl,us,vs,e,B,rfl⟩ p Z
  cases vs with
  |cons v vs=>cases B
  |nil =>
  rw[Ae] at e;subst e
  apply vJ jQ
  have I:Gr C1 (gQ C1 p (.lst (hs.map (Xl F)))):=Gr.new Z _;refine yX ep rfl (yX ep rfl ⟨by decide,?_⟩);refine yX ep rfl ⟨rr,D,F,ae,[],G,rfl,I _ _ mr,O,h1,by show 0+n<=500;lia,fun p2 C2 n2 m2 U=>?_⟩;refine vJ m2 ⟨y0 4 rfl,?_⟩;exact ab C2 (I.trans U)
def QV(T:Tx W a)(n:Nat):Ok W a (2 * n) 1 U6 (gBn n):=by
 induction n with
 |zero =>
  refine cK fun ts C Q zq=>?_;obtain⟨rr,D,F,q,B,ab,_,_,h,_⟩:=zq;exact h
 |succ n ih =>
 have S:=(T.F 1 rfl).s;have Uu:=Vi T n (2 * n) ih;have zU:=ih.mono (show 2 * n<=2 * n+1 by lia);have ag:2 * (n+1)=2 * n+1+1:=by lia
 rw[ag]
 apply (T.F 1 rfl).o (fun hr=>(xQ (gn 5 S.nd (pX oX))
  (xQ (gY PassesOwn.never rfl (cv 4) (mq 6 S.nd) (xQ (gn 7 S.nd (nQ iQ qX (cv 2) (mQ (d7 (cx (cv 6) zQ)))))
  (xQ (gn 8 S.nd (nQ iQ qX (cv 3) (mQ (d7 (cx (cv 6) zQ)))))
  (kQ (uX (ct2 lX jX (cx (cv 6) zQ) vQ) (kQ (sX (cap (cv 5) (mQ (qQ (cv 8) (d7 (cf (T.F 2 rfl) Uu hr (qQ (cv 0) (qQ (cv 1) (qQ (cv 7) (d7 (cv 6)))))))))))) (kQ (uX (ct2 lX jX (cx (cv 6) zQ) vQ) (kQ (sX (Kw BU DU DT (fun p s σ H x vs v us Q=>sL p s σ H x vs v us Q) bF (cv 5) (d7 (cf (T.F 1 rfl) zU hr (qQ (cv 0) (qQ (cv 1) (qQ (cv 7) (qQ (cv 8) (d7 (cx (cv 6) zQ))))))))))) (kQ (sX (Kw BU DU DT (fun p s σ H x vs v us Q=>sL p s σ H x vs v us Q) bF (cv 5) (d7 (cf (T.F 1 rfl) zU hr (qQ (cv 0) (qQ (cv 7) (qQ (cv 7) (qQ (cv 8) (d7 (GP (wF hr) (cv 0) (cv 7) (fun _ _=>rfl)))))))))))))))))))
  (kQ (fQ (cv 5))))))
 rintro ts C R ⟨rr,D,F,q,B,ab,rfl,mr,ft,h1,h2,ai⟩;obtain⟨O,_,ft⟩:=ft;rw[bl] at O;refine yQ ⟨by decide,fun ff U=>?_⟩;refine jZ (yF rfl (iZ (fun zs ρ C'=>∃(x6 x7 x8:Option PV)(us vs:List Wt),ab=us++vs/\zs=Wt.f9 vs/\ρ=[some (.ref rr),some (lQ F),some (lQ q),some (lQ B),some (.tup (Wt.f9 ab)),some (.ref ff),x6,x7,x8]/\C' ff=some (.lst (Bx.f9 (us.flatMap (uy (lu (rQ D) n) (rQ D) F q B))))/\Gr C C') ?_ ?_ _ _ _ ⟨_,_,_,[],ab,rfl,rfl,rfl,by rw[jQ,List.flatMap_nil,Bx.f9],Gr.new U _⟩))
 .rintro z zs ρ C1 ⟨x6,x7,x8,us,vs,e,hz,rfl,J,G⟩ L hL
  cases vs with
  |nil=>cases hz
  |cons u vs =>
  obtain⟨rfl,rfl⟩:=BI hz;have Y:=(ft u (by rw[e];exact Aa _ AG)).2
  have aj:(Bx.f9 (us.flatMap (uy (lu (rQ D) n) (rQ D) F q B))).length<=(us.map (bl1 (bl (rQ D) n) (rQ D) q)).sum:=by
   have:=jo (rQ D) (n+1) F q B us
   rwa [lu,bl] at this
  rw[e,v7] at O
  have ae:∀C' x6 x7 x8,C' ff=some (.lst (Bx.f9 (us.flatMap (uy (lu (rQ D) n) (rQ D) F q B))++Bx.f9 (uy (lu (rQ D) n) (rQ D) F q B u)))->Gr C C'->L [some (.ref rr),some (lQ F),some (lQ q),some (lQ B),some (.tup (Wt.f9 ab)),some (.ref ff),x6,x7,x8] C':=by
   intro C' y6 y7 y8 ah hg;refine hL _ _ ⟨y6,y7,y8,us++[u],vs,by rw[AR];exact e,rfl,rfl,?_,hg⟩;rw[ah,List.flatMap_append,BV,List.flatMap_nil,Ae,j9]
  obtain⟨wd,rest,ep,ak⟩:=HX u;refine yQ (yX ep Qb ⟨y0 1 rfl,?_⟩)
  apply dY (sZ (by rw[AB];show q.length+1<=1000;lia))
  rw[JL];refine yQ (yX ep Qb ⟨y0 1 rfl,?_⟩)
  apply dY (sZ (by rw[AB];show B.length+1<=1000;lia))
  rw[JL]
  cases u with
  |plain sp af ss hs r =>
   have ep:(Wt.plain sp af ss hs r).pv=.tup [.str "plain",cJ sp,.str af,.tup (ss.map oQ),.tup (hs.map o5.pv),.tup (Wt.f9 r)]:=by rw[Wt.pv]
   refine yX ep wX (mX (cQ _ _) (pW (by decide) ?_));refine⟨lW J,⟨rr,D,F,q++[sp],sp,af,ss,hs,r,rfl,G _ _ mr,Y.2,by rw[AE,AO];lia,by lia,Y.1.2.1,fun C2 I=>⟨y0 2 rfl,?_⟩⟩⟩
   apply gH (I _ _ J) (An (show _<=200000 by lia) (by decide))
   refine ae _ _ _ _ ?_ (iL (G.trans I) U _);rw[jQ,uy,Bx.f9,Bx.f9,Bx.bv]
   rfl
  |give sp Z i r =>
   have ep:(Wt.give sp Z i r).pv=.tup [.str "give",cJ sp,.str Z,.int i,.tup (Wt.f9 r)]:=by rw[Wt.pv]
   refine yX ep wX (mX (cQ _ _) (yJ (by decide) ?_));refine yX ep wX (mX (cQ _ _) (pW (by decide) ?_));refine⟨lW J,yX ep rfl ⟨rr,D,F,q++[sp],B++[sp],r,rfl,G _ _ mr,Y,by rw[AE,AO];lia,by rw[AE,AO];lia,fun p2 C2 n2 m2 I=>?_⟩⟩;refine ZQ (I _ _ J) m2 (qB ?_) ?_
   .have O:_+bl (rQ D) n (q++[sp]) r+_<=30000:=O
    have:=jo (rQ D) n F (q++[sp]) (B++[sp]) r
    lia
   exact ae _ _ _ _ (by rw[jQ];rfl) (iL (G.trans I) U _)
  |part sp Z g =>
   have ep:(Wt.part sp Z g).pv=.tup [.str "part",cJ sp,.str Z,.tup (g.map oQ)]:=by rw[Wt.pv]
   refine yX ep wX (mX (cQ _ _) (yJ (by decide) ?_));refine yX ep wX (mX (cQ _ _) (yJ (by decide) ?_));refine⟨lW J,Il (G _ _ mr) (pV _) (oN Y.1) ⟨rr,D,q++[sp],q++[sp],B++[sp],rQ D (q++[sp]),rfl,G _ _ mr,Y.2,by rw[AE,AO];lia,by rw[AE,AO];lia,fun p2 C2 n2 m2 I=>?_⟩⟩;refine ZQ (I _ _ J) m2 (qB ?_) ?_
   .have O:_+bl (rQ D) n (q++[sp]) (rQ D (q++[sp]))+_<=30000:=O
    have:=jo (rQ D) n (q++[sp]) (q++[sp]) (B++[sp]) (rQ D (q++[sp]))
    lia
   exact ae _ _ _ _ (by rw[jQ];rfl) (iL (G.trans I) U _)
 .rintro ρ C1 ⟨x6,x7,x8,us,vs,e,hz,rfl,J,G⟩
  cases vs with
  |cons u vs=>cases hz
  |nil =>
  rw[Ae] at e;subst e;exact ai ff C1 U J G
inductive Ry(ts:List PV)(C:CH)(Q:K1):Prop
 |mk(dd:Addr)(D:List En)(z0:ts=[.ref dd])(z1:C dd=some (.lst (D.map En.pv)))(z2:(gZ D).Nodup)(z3:D.length<=600)(z4:∃e∈D,e.x.path=[])(z5:Ft D 37 [] (rQ D []))(z6:∀C',Gr C C'->Q (.tup (Bx.f9 (lu (rQ D) 37 [] [] [] (rQ D [])))) C')
def ZC(T:Tx W a):Ok W a 75 0 ["drawing"] Ry:=by
 have S:=(T.F 0 rfl).s
 apply (T.F 0 rfl).o (fun O=>(xQ (gn 1 S.nd bI)
  (xQ (lD PassesOwn.never rfl (cv 0) (mq 2 S.nd) (kQ (Kq (wF O) (cv 1) (cx (cv 2) zQ) (cx (cx (cv 2) zQ) zQ))))
  (kQ (fQ (p7 T.hX (cf (T.F 1 rfl) (QV T 37) O (qQ (cv 1) (qQ (mQ oX) (qQ (mQ oX) (qQ (mQ oX) (d7 (GP (wF O) (cv 1) (mQ oX) (fun _ _=>rfl))))))))))))))
 rintro ts C R ⟨I,D,rfl,Y,nd,hl,h0,ft,ah⟩
 apply yQ
 intro rr U;have ab:I≠rr:=fun z=>by rw[z,U] at Y;cases Y
 refine jZ ⟨D.length+1,uU (fun i ρ C'=>C' I=some (.lst (D.map En.pv))/\∃Z,i<=D.length/\ρ=[some (.ref I),some (.ref rr),Z]/\C' rr=some (.dP (iF (D.take i)))/\Gr C C') (fun _ _ _ h=>h.1) ?_ ?_ _ 0 _ _ ⟨by exact(wQ ab)▸Y,_,AW _,rfl,jQ,Gr.new U _⟩ (by grind) (AW _)⟩
 .rintro i z ρ C1 B ⟨m1,Z,hi,rfl,F,J⟩ L hL
  rw[Aq] at B
  cases G:D[i]? with
  |none=>rw[G] at B;cases B
  |some q =>
  rw[G] at B;cases B;have hv:q.pv=.tup [lQ q.x.path,.str q.x.name,.tup (q.x.gives.map oQ),.tup (q.x.downs.map oQ),q.pc.pv]:=rfl;refine yX hv rfl (tX rfl (yX hv rfl (WW F (pV _) (by delta iF;rw[AB,Aw];lia) ?_)));have et:D.take (i+1)=D.take i++[q]:=by rw[DQ,G];rfl
  have ag:q.x.path∉gZ (D.take i):=by
   have h2:(gZ (D.take (i+1))).Nodup:=by
    delta gZ at nd ⊢
    exact List.map_take▸nd.sublist (List.take_sublist _ _)
   rw[et] at h2
   delta gZ at h2
   rw[AS,Cn] at h2;intro af;exact h2.2.2 _ af _ (by simp) rfl
  rw[WO ag,<- et];refine hL _ _ ⟨by exact(wQ ab)▸m1,_,((Ab.1 G).1),rfl,jQ,iL J U _⟩
 .rintro ρ C1 ⟨m1,Z,hi,rfl,F,J⟩
  rw[AB,BK (AI _)] at F;refine⟨by decide,?_⟩;refine⟨by decide,?_⟩;refine⟨by decide,?_⟩;refine⟨by decide,?_⟩;refine Il F rfl (oN h0) ⟨rr,D,[],[],[],rQ D [],rfl,F,ft,by decide,by decide,fun p2 C2 n2 m2 ae=>?_⟩;exact vJ m2 (ah C2 (J.trans ae))
end
def Lj(m:C l=some (.lst xs)):tyP C (.ref l)=some .lst:=by
 show(match C l with | some (.lst _)=>some Ty.lst | some (.dK _)=>some Ty.dct | _=>none)=_;rw[m]
noncomputable def vH:Ty->Str
 |.non=>"none"
 |.bl=>"truth"
 |.int=>"number"
 |.str=>"text"
 |.tup=>"tuple"
 |.lst=>"list"
 |.dct=>"other"
def YQ(h:wU x=true):x=.non:=by
 cases x<;>first | rfl | cases h
inductive Sq(C:CH):PV->List PV->Ty->Prop
 |tup (xs:List PV):Sq C (.tup xs) xs .tup
 |lst {a:Addr} {xs:List PV} (m:C a=some (.lst xs)):Sq C (.ref a) xs .lst
def Sq.gr(h:Sq C x xs k)(g:Gr C C'):Sq C' x xs k:=by
 cases h with
 |tup=>exact .tup xs
 |lst m=>exact .lst (g _ _ m)
def Sq.ty(h:Sq C x xs k):tyP C x=some k:=by
 cases h with
 |tup=>rfl
 |lst m=>exact Lj m
def Sq.len(h:Sq C x xs k)(q:Q (.int xs.length) C):zT [x] C Q:=by
 cases h with
 |tup=>exact Q8 q
 |lst m=>exact vG m q
def Sq.ix(h:Sq C x xs k)(e:atI xs i=some v)(q:Q v C):ut x (.int i) C Q:=by
 cases h with
 |tup=>exact tX e q
 |lst m=>exact hZ m e q
def Sq.un(h:Sq C x xs k)(g:Sq C x ys k):xs=ys:=by
 cases h with
 |tup=>cases g;rfl
 |lst m=>cases g with | lst q=>rw[m] at q;cases q;rfl
noncomputable def sc:PV->Bool
 |.non=>true
 |.bl _=>true
 |.int _=>true
 |.str _=>true
 |_=>false
def Th.sq(h:Th C x):(∃xs k,Sq C x xs k)\/sc x=true\/tyP C x=some .dct:=by
 cases h with
 |tup h=>exact .inl ⟨_,_,.tup _⟩
 |@lst a h =>
  delta tyP at h
  dsimp only at h
  split at h
  .next xs e=>exact .inl ⟨_,_,.lst e⟩
  .cases h
  .cases h
 |dct h=>exact .inr (.inr h)
 |_=>exact .inr (.inl rfl)
def Vv(h:vH n=vH m):n=m:=by
 revert h;cases n<;>cases m<;>decide +kernel
def Mf(h:tyP C (.ref a)=some n):n=.lst\/n=.dct:=by
 delta tyP at h
 dsimp only at h
 split at h<;>cases h
 .exact .inl rfl
 .exact .inr rfl
def Ie(q:sc y=true)(h:tyP C x=some n)(g:tyP C y=some n):vH n ≠ "tuple"/\vH n ≠ "list"/\∃b,sEq x y=some b/\(b=true↔x=y):=by
 cases y<;>first | exact absurd q AN | cases g
 all_goals
  cases x with
  |ref a=>rcases Mf h with h | h<;>cases h
  |_=>first | exact⟨by decide +kernel,by decide +kernel,_,rfl,by simp⟩ | cases h
section
variable {W:Wd}{a:Adr}
inductive RM(ts:List PV)(C:CH)(Q:K1):Prop
 |mk(x:PV)(n:Ty)(z0:ts=[x])(z1:tyP C x=some n)(z2:∀C',Gr C C'->Q (.str (vH n)) C')
def zx(T:Tx W a):Ok W a 1 33 ["_law_thing"] RM:=by
 have S:=(T.F 33 rfl).s
 apply (T.F 33 rfl).o (fun U=>(xQ (uX (ct2 bC rD (cv 0) qV) (kQ (fQ vQ)) eQ)
  (xQ (uX (mR (vZ rV sD rfl T.uZ rfl (qQ (cv 0) (d7 (XH rfl T.z_bool rfl))))) (kQ (fQ vQ)) eQ)
  (xQ (gn 1 S.nd (pX (qQ (vZ rV sD rfl T.uZ rfl (qQ (cv 0) (d7 (XH rfl T.Ql rfl)))) (qQ (vZ rV sD rfl T.uZ rfl (qQ (cv 0) (d7 (XH rfl T.z_str rfl)))) (qQ (vZ rV sD rfl T.uZ rfl (qQ (cv 0) (d7 (XH rfl T.hX rfl)))) (d7 (vZ rV sD rfl T.uZ rfl (qQ (cv 0) (d7 (XH rfl T.X5 rfl))))))))))
  (xQ (gn 2 S.nd (pX (qQ vQ (qQ vQ (qQ vQ (d7 vQ))))))
  (kQ (fQ (cx (nQ iQ qX (zW rfl (S.c (by decide +kernel)) (S.k rfl rfl rfl (by decide +kernel)) (lR rfl T.xV (d7 zQ)) (fun _ _ _ _ _=>(GN (mR (cx (cv 2) (cv 0))))) (fun _ _ _ _ _=>(cx (cv 3) (cv 0)))) (pX (d7 vQ))) zQ))))))))
 rintro ts C R ⟨x,n,rfl,B,q⟩;refine VB (fun F=>?_) fun F=>?_
 .cases YQ F
  cases B;exact q C Gr.refl
 refine dX (Xg rfl B (VB (fun G=>?_) fun G=>?_))
 .cases n with
  |bl=>exact q C Gr.refl
  |_=>cases G
 apply dX
 try dsimp only
 refine yQ (Xg rfl B (Xg rfl B (Xg rfl B (Xg rfl B ⟨(show 4<=sizeLine by decide),fun p1 h1=>⟨by decide,fun p2 h2=>⟨by decide,by decide,?_⟩⟩⟩))));have O:gQ (gQ C p1 (.lst [.bl (fH n .int),.bl (fH n .str),.bl (fH n .tup),.bl (fH n .lst)])) p2 (.lst [.str "number",.str "text",.str "tuple",.str "list"]) p2=some (.lst [.str "number",.str "text",.str "tuple",.str "list"]):=jQ
 cases n with
 |non =>
  cases x with
  |non=>cases F
  |ref a=>delta tyP at B;dsimp only at B;split at B<;>cases B
  |_=>cases B
 |bl=>cases G
 |_ =>
  iterate 4
   refine kM (hZ ((Gr.new h2 _) p1 _ jQ) rfl ?_)
   first
    |refine pW ?_ ?_
     .rfl
     refine hZ O rfl ⟨by decide,?_⟩
    |refine yJ ?_ ?_
     .rfl
  refine nD fun p3 J=>⟨by decide,fun Y I=>XZ ((Gr.new I _) p3 _ jQ) jQ (by decide) fun Z L=>hZ jQ rfl ?_⟩;exact q _ ((((((Gr.new h1 _).trans (Gr.new h2 _)).trans (Gr.new J _)).trans (Gr.new I _)).trans (Gr.new L _)))
def zf(h:FnOk W.P W.w W.K W.mg W.base CX0 r f fd ps (qt W.K G))(k:∀ts C Q,B ts C Q->G ts C Q):FnOk W.P W.w W.K W.mg W.base CX0 r f fd ps (qt W.K B) :=
 ⟨fun vs H Q E q=>aQ q fun ts C R x y z u=> h.len vs H Q E ⟨ts,C,R,x,y,k _ _ _ z,u⟩,fun A outer s H F us vs Q E L J I O q=>aQ q fun ts C R x y z u=> h.run A outer s H F us vs Q E L J I O ⟨ts,C,R,x,y,k _ _ _ z,u⟩⟩
inductive Pb:Nat->PV->Prop
 |non {d:Nat}:Pb d .non
 |bl {d:Nat} (b:Bool):Pb d (.bl b)
 |int {d:Nat} (i:Int):Pb d (.int i)
 |str {d:Nat} (z:Str):Pb d (.str z)
 |tup {d:Nat} {ts:List PV} (l:ts.length<=3000000) (h:∀t∈ts,Pb d t):Pb (d+1) (.tup ts)
def Pd:Nat->PV->Prop
 |0,_=>False
 |d+1,y=>Pb d y
inductive gA2(d:Nat)(ts:List PV)(C:CH)(Q:K1):Prop
 |mk(x y:PV)(W:Prop)(z0:ts=[x,y])(z1:Th C x)(z2:((sc y=true/\W=(x=y))\/∃ys k,Sq C y ys k/\ys.length<=3000000/\(∀z∈ys,Pd d z)/\(∀xs,Sq C x xs k->∀z∈xs,Th C z)/\W=Sq C x ys k))(z3:∀b C',(b=true↔W)->Gr C C'->Q (.bl b) C')
inductive gAl(d:Nat)(ts:List PV)(C:CH)(Q:K1):Prop
 |mk(x y:PV)(z0:ts=[x,y])(z1:Th C x)(z2:Pd d y)(z3:∀b C',(b=true↔x=y)->Gr C C'->Q (.bl b) C')
def Sq.ne(h:Sq C x xs k):vH k = "tuple"\/(vH k ≠ "tuple"/\vH k = "list"):=by
 cases h with
 |tup=>exact .inl rfl
 |lst m=>exact .inr ⟨by decide +kernel,rfl⟩
def MP(T:Tx W a)d r(ag:1<=r)(sP:Ok W a r 34 UG (gAl d)):Ok W a (r+1) 34 UG (gA2 d):=by
 have S:=(T.F 34 rfl).s;have X3:=(zx T).mono (show 1<=r by lia)
 apply (T.F 34 rfl).o (fun Z=>(xQ (gn 2 S.nd (cf (T.F 33 rfl) X3 Z (d7 (cv 0))))
  (xQ (uX (ct2 op_ne GH (cv 2) (cf (T.F 33 rfl) X3 Z (d7 (cv 1)))) (kQ (fQ GY)) eQ)
  (xQ (uX (jl (ug (ct2 lX jX (cv 2) vQ) (qw (ct2 lX jX (cv 2) vQ)))) (kQ (fQ (Ob (gB lX jX (qb T.oJ (cv 0)) (qb T.oJ (cv 1)) (rG _)) (N8 (vZ (G4 rfl) Ha rfl T.z_all rfl (d7 (zW rfl (S.c (by decide +kernel)) (S.k rfl rfl rfl (by decide +kernel)) (lR rfl T.xV (d7 (qb T.oJ (cv 0)))) (fun _ _ _ _ _=>zK) (fun _ _ _ _ _=>(cf (T.F 34 rfl) sP Z (qQ (cx (cv 1) (cv 0)) (d7 (cx (cv 2) (cv 0))))))))))))) eQ)
  (kQ (fQ (gB lX jX (cv 0) (cv 1) (rG _))))))))
 rintro ts C R ⟨x,y,W,rfl,hx,hy,q⟩;obtain⟨n,G⟩:=hx.ty
 obtain⟨m,B⟩:∃m,tyP C y=some m:=by
  rcases hy with ⟨hs,_⟩ | ⟨ys,k,F,_⟩
  .cases y<;>first | exact absurd hs AN | exact⟨_,rfl⟩
  .exact ⟨_,F.ty⟩
 refine yQ ⟨x,n,rfl,G,fun C1 ab=>⟨y,m,rfl,X9 B ab,fun C2 ae=>?_⟩⟩;have g:=ab.trans ae
 apply mX (cQ _ _)
 by_cases e:n=m
 .subst e
  refine yJ (by rw[Am rfl];rfl) (dX ?_)
  rcases hy with ⟨hs,rfl⟩ | ⟨ys,k,F,hl,hp,ht,rfl⟩
  .obtain ⟨n1,n2,b,L,O⟩:=Ie hs G B
   exact mX (cQ _ _) (yJ (AU n1) (mX (cQ _ _) (yJ (AU n2) (dX (mX L (q b C2 O g))))))
  .have ek:n=k:=by have:=F.ty;rw[B] at this;exact Au this
   subst ek
   obtain⟨xs,J⟩:∃xs,Sq C x xs n:=by
    rcases hx.sq with ⟨xs,k,h⟩ | h | h
    .have:=h.ty;rw[G] at this;cases this;exact⟨xs,h⟩
    .exfalso
     have:=(Ie h B G)
     rcases F.ne with e | e
     .exact this.1 e
     .exact this.2.1 e.2
    .exfalso
     rw[G] at h;cases h;cases F
   have x2:=J.gr g;have y2:=F.gr g
   apply mX (cQ _ _)
   rcases F.ne with e | ⟨L,O⟩
   case' inl =>
    refine pW (Am e) (Eo rfl ?_)
   case' inr =>
    refine yJ (AU L) (mX (cQ _ _) (pW (Am O) ?_))
   all_goals
    refine x2.len (y2.len (mX (eX _ _) ?_))
    by_cases U:xs.length=ys.length
    .apply pW (Am (by rw[U]))
     refine x2.len ⟨by lia,by lia,?_⟩;refine Kr (fun t=>match t with | .int i=>.bl (@decide (xs[i.toNat]?=ys[i.toNat]?) (Classical.propDecidable _)) | _=>.non) _ [] C2 Gr.refl (by rw[Dl,AB,Ak];show _<=16777216;lia) (fun t B C3 Q' I af=>?_) fun p C3 _ I m3=>?_
     .obtain ⟨k,hk,rfl⟩:=AX.1 B
      rw[BL] at hk;have hk:k < xs.length:=by lia
      refine(x2.gr I).ix (qS hk) ((y2.gr I).ix (qS (by lia)) ?_);refine⟨xs[k],ys[k],rfl,((ht xs J _ (BF hk)).gr g).gr I,hp _ (BF _),fun b C4 Y g4=>?_⟩
      have eb:@decide (xs[k]?=ys[k]?) (Classical.propDecidable _)=b:=by
       rw[Bool.eq_iff_iff,Y,@decide_eq_true_iff _ (Classical.propDecidable _),AM hk,AM (by lia),Option.some.injEq]
      have:=af C4 g4;dsimp only at this
      rwa [show((k:Int)).toNat=k from Co k,eb] at this
     .apply Tq (by
       rw[m3,Bi,Bo,Bo,Co]
       rfl)
      refine q _ C3 ?_ (g.trans I);rw[CV];refine⟨fun h=>?_,fun h b Y=>?_⟩
      .have:=List.ext_getElem? fun k=>by
        rcases DE k xs.length with hk | hk
        .have:=h _ (AX.2 ⟨k,BL.2 hk,rfl⟩)
         exact(@decide_eq_true_iff _ (Classical.propDecidable _)).1 this
        .rw [B7 hk,B7 (by lia)]
       rwa [<- this]
      .obtain ⟨k,_,rfl⟩:=AX.1 Y
       exact(J.un h)▸(@decide_eq_true_iff _ (Classical.propDecidable _)).2 rfl
    .refine yJ (AU fun z=>U (by lia)) (q false C2 ⟨(fun z=>nomatch z),fun h=>(U ?_).elim⟩ g)
     rw[J.un h]
 .refine pW (by rw[AU fun z=>e (Vv z)];rfl) (q false C2 ⟨(fun z=>nomatch z),fun h=>(e ?_).elim⟩ g)
  rcases hy with ⟨hs,rfl⟩ | ⟨ys,k,F,hl,hp,ht,rfl⟩
  .subst h;rw[G] at B;exact Au B
  .have h1:=h.ty
   have h2:=F.ty;rw[G] at h1;rw[B] at h2
   rw[Au h1,Au h2]
def Vj(T:Tx W a)d:Ok W a (d+3) 34 UG (gAl d):=by
 induction d with
 |zero=>exact cK fun ts C Q ⟨_,_,_,_,h,_⟩=>h
 |succ d I =>
  refine zf (MP T d (d+3) (Nat.succ_pos _) I) fun ts C Q=>?_;rintro⟨x,y,rfl,B,G,q⟩;refine⟨x,y,x=y,rfl,B,?_,q⟩
  cases G with
  |@tup d ts l h =>
   refine .inr ⟨ts,.tup,.tup ts,l,h,fun xs F=>?_,?_⟩
   .cases F;cases B with | tup h=>exact h
   .exact propext ⟨fun e=>by rw[e];exact .tup ts,fun e=>by cases e;rfl⟩
  |_=>exact .inl ⟨rfl,rfl⟩
end
section
variable {P:Program}{w:World}{K:Ds}{mg:Str->Option Value}{base:Heap}{a:Adr}
def Yi(T:Txt P w K mg a): FnOk P w K mg base CX0 (k+1) (a.f 41) (a.d 41) ["self","address"] (spI K a.NoBox "address" 100000):=by
 refine Fun.okJ (T.F 41 rfl).F (T.F 41 rfl).s ?_ ?_
 .rintro vs H Q E ⟨e,v,B,n,ts,rfl,_⟩
  rfl
 .rintro O A outer s H vs Q E G ⟨e,v,B,n,ts,rfl,F,r,L,I,J,q⟩
  refine⟨_,⟨tJ (JN (W5 T.dE rfl T.jH (aH (mW (i:=0) rfl (Or.inl rfl)) (aH (yu (Lb.cons W3 (Lb.cons (yo (N:=100000) (mW (i:=1) rfl (Or.inl rfl)) G.gd G.u8 (by decide)) Lb.nil)) (by decide)) oV)))) (rB (Ml (mW (i:=0) rfl (Or.inl rfl)) (mW (i:=1) rfl (Or.inl rfl)) rfl))⟩,?_⟩;exact⟨.ref e,rfl,⟨trivial,⟨v,rfl,rfl,B,n,ts,r,L,I,J⟩,trivial⟩,fun y=>⟨e,a.NoBox,.str y,none,rfl,F,T.x_NoBox,⟨v,rfl,.ref e,rfl,e,a.NoBox,rfl,F,T.eY,fun d h1 h2=>q d h1 h2⟩⟩⟩
def eA(q:Room k A):A.units+3 < cLine:=by
 have:=q.un
 lia
mutual
inductive Tw:PV->Prop
 |mk{xs:List PV}{ps:List (bX×PV)}(e:hU xs=some ps)(l:ps.length<=sizeLine)(h:∀k b,(k,b)∈fu [] ps->BxR b):Tw (.tup xs)
inductive BxR:PV->Prop
 |mk{x0 x1 hs r:PV}(h:Tw r):BxR (.tup [x0,x1,hs,r])
end
noncomputable def kY(q l:PV):PV:=match q with
 |.tup xs=>match hU xs,sY l with
  |some ps,some k=>(zZ (fu [] ps) k).getD .non
  |_,_=>.non
 |_=>.non
noncomputable def K2:PV->PV
 |.tup [_,_,_,r]=>r
 |_=>.tup []
noncomputable def xK:List PV->PV->PV->PV
 |[],b,_=>b
 |l::q,_,r=>xK q (kY r l) (K2 (kY r l))
def gBox(B:Addr):GX:=fun ts C R F=>∃t q d n,ts=[t,.tup q]/\Tw t/\(∀l∈q,(sY l).isSome=true)/\Sh d n (.tup q)/\d<=7/\n<=100000 /\
 ∀C',Gr C C'->(wU (xK q .non t)=true->F B [((("address" : Str)),.tup q)] C')/\(wU (xK q .non t)=false->R (xK q .non t) C')
theorem Wp(J:List PV->jm->CH->Prop)(h0:∀ρ C,J [] ρ C->E.nx ρ C)(h1:∀x r ρ C,J (x::r) ρ C->∀L:jm->CH->Prop,(∀q C',J r q C'->L q C')->g x ρ C fun F C1=>u (E.lp L) F C1):∀l ρ C,J l ρ C->pY g u E l ρ C
 |[],ρ,C,j=>h0 ρ C j
 |x::r,ρ,C,j=>h1 x r ρ C j _ fun q C' B=>Wp J h0 h1 r q C' B
def vm[DecidableEq κ]{l:List (κ×PV)}(e:zZ l k=some b):(k,b)∈l:=by
 obtain⟨⟨F,B⟩,h1,h2⟩:=Cm.mp e;cases h2;have q:=Dm h1;cases Ag q;exact BO h1
def MN(T:Txt P w K mg a)(ae:FnOk P w K mg base CX0 k (a.f 41) (a.d 41) ["self","address"] (spI K a.NoBox "address" 100000)):
  FnOk P w K mg base (um P w) (k+2) (a.f 3) (a.d 3) ["tree","address"] (spX K (gBox a.NoBox)):=by
 have S:=(T.F 3 rfl).s;refine Fun.okX (T.F 3 rfl).F S ?_ ?_
 .rintro vs H Q E ⟨ts,C,R,RX,r,h,⟨t,q,d,n,rfl,_⟩,f⟩
  rw[r.len];rfl
 .rintro au A outer s H vs Q E hr ⟨ts,C,R,RX,r,h,⟨t,q,d,n,rfl,ht,aj,sh,ai,hn,ao⟩,f,fx⟩
  refine⟨_,tJ (Qi (JS.h (CS.h (gn 2 S.nd qV)))) (tJ (Qi (JS.h (CS.h (gn 3 S.nd (cv 0))))) (tJ (Qi (JS.h (CS.h (gY PassesOwn.never rfl (cv 1) (mq 4 S.nd) (xQ (gn 2 S.nd (GV Cj Bg Do (JZ (wF hr)) XF (bK (XQ rfl (eA hr)) Jc rfl T.X6 rfl (d7 (cv 3))) (d7 (cv 4))))
  (kQ (gn 3 S.nd (xE (ct2 bC rD (cv 2) qV) (mQ oX) (cx (cv 2) zQ))))))))) (tJ (JM (PT.nox (JT.h (CT.h (ct2 bC rD (cv 2) qV)))) (rB (K5 T.Wm T.Wj ae hr rfl T.J1 (T.F 41 rfl).b (mW (i:=1) rfl (Or.inl rfl)))) oH) (rB (Qi (JS.h (CS.h (fQ (cv 2))))))))),LC (jC r) h (fun F C'=>F=[some t,some (.tup q),some .non,none,none]/\C=C') ⟨rfl,rfl⟩ ?_⟩
  rintro aw H1 _ _ ⟨rfl,rfl⟩ s1 h1 af
  apply LC s1 h1 (fun F C'=>F=[some t,some (.tup q),some .non,some t,none]/\C=C') ⟨rfl,rfl⟩
  rintro ax H2 _ _ ⟨rfl,rfl⟩ aq h2 ag;refine LC aq h2 (fun F C'=>∃r l,F=[some t,some (.tup q),some (xK q .non t),some r,l]/\Gr C C') ?_ ?_
  .refine yF rfl (Wp (fun U ρ C'=>∃b r x,ρ=[some t,some (.tup q),some b,some r,x]/\Gr C C'/\Tw r/\(∀l∈U,(sY l).isSome=true)/\xK U b r=xK q .non t) ?_ ?_ q _ C ⟨.non,t,none,rfl,Gr.refl,ht,aj,rfl⟩)
   .rintro _ C1 ⟨b,r,x,rfl,g,_,_,e⟩
    exact⟨r,x,by rw[<- e];rfl,g⟩
   .rintro l U _ C1 ⟨b,r,x,rfl,g,ar,Z,e⟩ L hL
    obtain⟨k',hk⟩:=DW.mp (Z l (.head _))
    cases ar with
    |@mk xs ps e1 l1 hb =>
    have es:kY (.tup xs) l=(zZ (fu [] ps) k').getD .non:=by simp only[kY,e1,hk]
    refine yQ (Gy e1 l1 fun p hp=>⟨⟨p,_,rfl,jQ⟩,Y2 jQ hk ?_⟩);rw[<- es];have I:xK U (kY (.tup xs) l) (K2 (kY (.tup xs) l))=xK q .non t:=e;have g':Gr C (gQ C1 p (.dP (fu [] ps))):=g.trans (Gr.new hp _)
    cases B:zZ (fu [] ps) k' with
    |none =>
     rw[B] at es;have es:=es;rw[es] at I ⊢;exact⟨AW _,hL _ _ ⟨.non,.tup [],_,rfl,g',.mk rfl (AW _) (fun _ _ z=>nomatch z),fun l' h'=>Z l' (.tail _ h'),I⟩⟩
    |some b0 =>
     rw[B] at es;have es:=es;rw[es] at I ⊢
     cases hb _ _ (vm B) with
     |@mk av x1 hs r' ak =>
     exact tX rfl (hL _ _ ⟨_,r',_,rfl,g',ak,fun l' h'=>Z l' (.tail _ h'),I⟩)
  .rintro ay H3 _ G ⟨r3,l3,rfl,ah⟩ ab O f3
   obtain⟨q1,q2⟩:=ao G ah;refine⟨_,G,fun b C'=>b=wU (xK q .non t)/\G=C',ab,O,?_,?_⟩
   .exact ⟨rfl,rfl⟩
   .rintro _ H4 b _ ⟨rfl,rfl⟩ rfl h4 J
    have ff:=(af.trans ag).trans (f3.trans J);refine VB (fun e=>?_) fun e=>?_
    .obtain ⟨v,B,rv⟩:=ab.get (i:=1) rfl
     exact⟨v,d,n,q,B,rv.cT (J.cT O),sh,ai,hn,fun d' Y=>fx a.NoBox d' _ _ _ G (q1 e) uQ (.cons ⟨rfl,(rv.cT (J.cT O)).cT (iz.new Y _)⟩ .nil) (h4.new Y _) (ff.trans (Fw.new Y _))⟩
    .exact retX (ab.cT (J.cT O)) h4 R (q2 e) fun v H' t' C' r rp h' f'=>f v H' t' C' r rp h' (ff.trans f')
def Yq(T:Txt P w K mg a){k:Nat}{G:GX}(F:FnOk P w K mg base (um P w) k (a.f 3) (a.d 3) ["tree","address"] (spX K G)):
  FnOk P w K mg base CX0 (k+1) (a.f 38) (a.d 38) ["_law_tree","_law_address"] (qt K fun ts C Q=>∃x y,ts=[x,y]/\G [x,y] C (fun t C'=>Q (.tup [.str "box",t]) C') (fun U fs C'=>U=a.NoBox/\∃t,fs=[((("address" : Str)),t)]/\Q (.tup [.str "none",t]) C')):=by
 refine Fun.okJ (T.F 38 rfl).F (T.F 38 rfl).s ?_ ?_
 .rintro vs H Q E ⟨ts,C,R,r,h,⟨x,y,rfl,g⟩,f⟩
  rw[r.len];rfl
 .rintro ae A outer s H vs Q E hr ⟨ts,C,R,r,h,⟨x,y,rfl,g⟩,f⟩
  refine⟨_,⟨tJ (Zq (i:=2) (T.F 38 rfl).s.nd rfl (Or.inl rfl) W6) (tJ (Mm (i:=2) (j:=3) F hr rfl ((T.F 3 rfl).m rfl) (T.F 3 rfl).F.kp ((T.F 3 rfl).b) .nil rfl rfl rfl T.jH (T.F 38 rfl).s.nd rfl (Or.inl rfl) rfl rfl
   (JA.h (CA.h (qQ (cv 0) (qQ (cv 1) oX)))) fun e=>tJ (JM (PW.pt (pw_or (qA (jD (VW K) rfl T.uZ rfl (lJ (mW (i:=3) rfl (Or.inl rfl)) (lJ (Zv (lJ (oB (v:=.ref a.NoChange) rfl T.ZM rfl) (lJ (oB (v:=.ref a.NoDeed) rfl T.Yz rfl) (lJ (oB (v:=.ref a.NoRow) rfl T.m_NoRow rfl) (lJ (oB (v:=.ref a.NoText) rfl T.Yy rfl) oV rfl) rfl) rfl) rfl)) oV rfl) rfl)) (bW rfl)) (WN (Zp (qA (jD (XN K) rfl T.uZ rfl (lJ (mW (i:=3) rfl (Or.inl rfl)) (lJ (JU (v:=.ty "ValueError") rfl T.pE rfl rfl) oV rfl) rfl)) (bW rfl)))))) qO oH) (tJ (JM (Zp (qA (jD (XN K) rfl T.uZ rfl (lJ (mW (i:=3) rfl (Or.inl rfl)) (lJ (oB (v:=.ref a.NoBox) rfl T.J1 rfl) oV rfl) rfl)) (bW rfl))) qO oH) (rB (Zr (Zv (lJ Zw (lJ (JE.h (Eb K ⟨mW (i:=3) rfl (Or.inl rfl)⟩)) oV rfl) rfl)))))) (rB (Zr (JE.h (CE.h (mQ (qQ vQ (qQ (cv 2) oX))))))))⟩,?_⟩
  cases r with
  |@cons af _ _ _ r1 r =>
  cases r with
  |@cons ag _ _ _ S r =>
  cases r;refine UT (ρ:=[some x,some y,some .non,none]) (C:=C) (.cons r1 (.cons S (.cons .non (.cons trivial .nil)))) h _ _ g ?_ ?_
  .intro v H2 t C2 k S h2 L Z
   exact⟨_,C2,R,Z.set S 2,h2,⟨y0 2 rfl,k⟩,fun v' H' t' C' q r3 h3 f3=>f v' H' t' C' q r3 h3 (L.trans f3)⟩
  .rintro U fs C2 ⟨rfl,t,rfl,q⟩
   refine⟨T.mM,fun e H2 gs I hl ab h2 L Z=>?_⟩
   obtain⟨v,rfl,rv⟩:∃v,gs=[(("address" : Str),v)]/\Rep K H2 v t:=by
    cases ab with
    |cons z r=>cases r;exact⟨_,by rw[<- show _=(("address" : Str)) from z.1],z.2⟩
   refine⟨.ref e,rfl,⟨y0 4 rfl,fun p B=>?_⟩⟩
   have J:∀{H:Hp}{q:Addr}{o:HO},H q=none->HD H e a.NoBox [(("address" : Str),v)]->HD (upd H q o) e a.NoBox [(("address" : Str),v)]:=fun Y ⟨d,h1,h2⟩ =>
    ⟨d,by rw[pQ (fun z=>by rw[z,Y] at h1;cases h1)];exact h1,by rw[pQ (fun z=>by rw[z,Y] at h2;cases h2)];exact h2⟩
   refine⟨e,_,_,p,[a.NoChange,a.NoDeed,a.NoRow,a.NoText],false,rfl,uQ,J B I,T.cF,T.V1,⟨false,rfl,⟨.ref e,rfl,e,_,_,.ty "ValueError",.type "ValueError",true,rfl,J B I,T.cF,(fun _ z=>z),T.tU,⟨true,rfl,⟨.ref e,rfl,e,_,_,.ref a.NoBox,.ref a.NoBox,true,rfl,J B I,T.cF,(fun _ z=>z),T.mH,⟨true,rfl,⟨.ref e,rfl,e,_,_,v,rfl,J B I,T.cF.toXGet,T.eY.na,rfl,⟨y0 2 rfl,fun p2 O=>?_⟩⟩⟩⟩⟩⟩⟩⟩
   exact f (.ref p2) _ _ C2 q (.tup uQ (.cons (.str _) (.cons (rv.cT ((iz.new B _).trans (iz.new O _))) .nil))) ((h2.new B _).new O _) (L.trans ((Fw.new B _).trans (Fw.new O _)))
end
def qx(l:bX):Prop:=l≠[]/\l.length<=37/\lq l
def Bx.Bd:Bx->Prop
 |.mk _ B ss q hs _=>TF B ss hs/\q.length<=500/\lq q
def uf:Nat->List Bx->Prop
 |0,xs=>xs=[]
 |n+1,xs=>(xs.map Bx.lab).Nodup/\xs.length<=30000/\∀x∈xs,qx x.lab/\x.Bd/\uf n x.inn
theorem uf.up:∀{n}{xs},uf n xs->uf (n+1) xs
 |0,xs,h=>by
  cases h;exact⟨BS,AW _,fun _ z=>nomatch z⟩
 |n+1,xs,h=>⟨h.1,h.2.1,fun x q=>⟨(h.2.2 x q).1,(h.2.2 x q).2.1,(h.2.2 x q).2.2.up⟩⟩
def Oh: ∀n G F q I,Ft D n F I->q.length+n<=37->lq q->F.length+n<=500->G.length<=500->lq F->lq G ->
  uf n (lu (rQ D) n G F q I)/\∀b∈lu (rQ D) n G F q I,∃y∈I,∃u,b.lab=q++y.sp::u:=by
 intro n
 induction n with
 |zero=>intro _ _ _ _ h;exact h.elim
 |succ n ih =>
  intro G F q I U hl ak aw ae Z af;obtain⟨B,nd,U⟩:=U
  have aj:(lu (rQ D) (n+1) G F q I).length<=30000:=by
   have h1:=Bx.o9 (lu (rQ D) (n+1) G F q I);rw[Qa] at h1
   lia
  suffices h:((lu (rQ D) (n+1) G F q I).map Bx.lab).Nodup/\(∀x∈lu (rQ D) (n+1) G F q I,qx x.lab/\x.Bd/\uf n x.inn)/\∀b∈lu (rQ D) (n+1) G F q I,∃y∈I,∃u,b.lab=q++y.sp::u from⟨⟨h.1,aj,h.2.1⟩,h.2.2⟩
  clear B aj;rw[lu]
  induction I with
  |nil=>exact⟨BS,(fun _ z=>nomatch z),fun _ z=>nomatch z⟩
  |cons x I av =>
   rw[A4,A0] at nd;rw[BV,AS];obtain⟨r1,r2,r3⟩:=(av nd.2 fun y S=>U y (AJ _ S));obtain⟨J,hx⟩:=U x AG;have ai:∀sp:List Key,(q++[sp]).length+n<=37:=fun sp=>by rw[AE,AO];lia
   have Y:∀sp:List Key,(F++[sp]).length+n<=500:=fun sp=>by rw[AE,AO];lia
   have ab:((uy (lu (rQ D) n) (rQ D) G F q x).map Bx.lab).Nodup/\(∀b∈uy (lu (rQ D) n) (rQ D) G F q x,qx b.lab/\b.Bd/\uf n b.inn)/\∀b∈uy (lu (rQ D) n) (rQ D) G F q x,∃u,b.lab=q++x.sp::u:=by
    have ag:∀p s sp r,uq sp->Ft D n s r->s.length+n<=500->p.length<=500->lq s->lq p->((lu (rQ D) n p s (q++[sp]) r).map Bx.lab).Nodup/\(∀b∈lu (rQ D) n p s (q++[sp]) r,qx b.lab/\b.Bd/\uf n b.inn)/\∀b∈lu (rQ D) n p s (q++[sp]) r,∃u,b.lab=q++sp::u:=by
     intro p s sp r ar ah h1 h2 h3 h4;obtain⟨L,ao⟩:=(ih p s (q++[sp]) r ah (ai sp) (ak.app (lq.one ar)) h1 h2 h3 h4)
     cases n with
     |zero=>exact ah.elim
     |succ m =>
     refine⟨L.1,fun b B=>⟨(L.2.2 b B).1,(L.2.2 b B).2.1,(L.2.2 b B).2.2.up⟩,fun b B=>?_⟩;obtain⟨y,_,u,e⟩:=ao b B;exact⟨y.sp::u,by rw[e,AR];rfl⟩
    cases x with
    |plain sp t s h r =>
     obtain⟨h2,h3⟩:=hx;obtain⟨L,_⟩:=ih G (F++[sp]) [] r h3 (by show 0+n<=37;lia) (fun _ z=>nomatch z) (Y sp) ae (Z.app (lq.one J)) af;refine⟨by rw[uy];simp,fun b B=>?_,fun b B=>?_⟩
     .cases AF.1 B
      exact⟨⟨by show q++[sp]≠[];simp,by show(q++[sp]).length<=37;have:=ai sp;lia,ak.app (lq.one J)⟩,⟨h2,ae,af⟩,L⟩
     .cases AF.1 B
      exact⟨[],rfl⟩
    |give sp n' i r=>exact ag _ _ sp r J hx (Y sp) ae (Z.app (lq.one J)) af
    |part sp n' g=>exact ag _ _ sp _ J hx.2 (Y sp) (by have:=Y sp;lia) (Z.app (lq.one J)) (Z.app (lq.one J))
   refine⟨?_,fun b B=>?_,fun b B=>?_⟩
   .rw [Cn]
    refine⟨ab.1,r1,fun p hp ax hq e=>?_⟩;obtain⟨z,hz,rfl⟩:=AX.1 hp;obtain⟨z',au,rfl⟩:=AX.1 hq;obtain⟨u,O⟩:=ab.2.2 z hz;obtain⟨y,S,u',aq⟩:=r3 z' au;rw[O,aq] at e;have:=BG e;injection this with e1 _
    exact nd.1 (AX.2 ⟨y,S,e1.symm⟩)
   .rcases Ad.1 B with B | B
    .exact ab.2.1 b B
    .exact r2 b B
   .rcases Ad.1 B with B | B
    .obtain ⟨u,O⟩:=ab.2.2 b B
     exact⟨x,AG,u,O⟩
    .obtain ⟨y,S,u,O⟩:=r3 b B
     exact⟨y,AJ _ S,u,O⟩
theorem pA{α β:Type}{f:α->β}:∀{xs:List α},(xs.map f).Nodup->∀{x y},x∈xs->y∈xs->f x=f y->x=y
 |z::xs,h,x,y,q,B,e=>by
  rw[A4,A0] at h
  rcases AZ.1 q with q | q<;>rcases AZ.1 B with B | B
  .rw [q,B]
  .grind
  .grind
  .exact pA h.2 q B e
section
variable {κ:Type}[DecidableEq κ]
def Un(L:List (κ×PV)):Prop:=∀k v q,(k,v)∈L->(k,q)∈L->v=q
theorem sC:∀L acc(k:κ),zZ (fu acc L) k=none->zZ acc k=none/\∀v,(k,v)∉L
 |[],acc,k,h=>⟨h,fun _ z=>nomatch z⟩
 | (q,B)::L,acc,k,h=>by
  obtain⟨h1,h2⟩:=sC L (ig acc q B) k h;rw[eN] at h1
  by_cases e:k=q
  .lia
  .grind
theorem nG:∀L acc(k:κ)v,zZ (fu acc L) k=some v->zZ acc k=some v\/(k,v)∈L
 |[],acc,k,v,h=>.inl h
 | (q,B)::L,acc,k,v,h=>by
  rcases nG L (ig acc q B) k v h with h1 | h1
  .rw [eN] at h1
   by_cases e:k=q
   .grind
   .lia
  .grind
def Yw(u:Un L){k:κ}(h:(k,v)∈L):zZ (fu [] L) k=some v:=by
 cases e:zZ (fu [] L) k with
 |none=>exact absurd h ((sC L [] k e).2 v)
 |some q =>
  rcases nG L [] k q e with h1 | h1
  .cases h1
  .rw [u k v q h h1]
end
noncomputable def Bx.pr(x:Bx):bX×PV:=(x.lab,x.bv)
def Zt xs:hU (Bx.f9 xs)=some (xs.map Bx.pr):=by
 rw[Bx.jd]
 induction xs with
 |nil=>rfl
 |cons x xs q =>
  show(match sY (lQ x.lab),hU (xs.map Bx.pv) with | some k,some ps=>some ((k,x.bv)::ps) | _,_=>none)=_;rw[pV,q]
  rfl
def Tf{xs:List Bx}(h:(xs.map Bx.lab).Nodup):Un (xs.map Bx.pr):=by
 intro k v I h1 h2;obtain⟨x,B,ex⟩:=AX.1 h1;obtain⟨y,F,q⟩:=AX.1 h2;cases ex;have G:=A8 Prod.snd q;have:=pA h B F (A8 Prod.fst q).symm
 rwa [this]
def KJ(x:Bx):∃q B hs,x.bv=.tup [q,B,hs,.tup (Bx.f9 x.inn)]:=by
 cases x with
 |mk G J ss I hs F=>exact⟨_,_,_,by rfl⟩
theorem Jt:∀{n}{xs},uf n xs->Tw (.tup (Bx.f9 xs))
 |0,xs,h=>by
  cases h;exact .mk (Zt []) (AW _) fun k b z=>nomatch z
 |n+1,xs,h=>by
  refine .mk (Zt xs) (by rw[AB];exact qB (by have:=h.2.1;lia)) fun k b z=>?_
  have F:∃x∈xs,x.bv=b:=by
   have I:∀L acc,(k,b)∈fu acc L->(k,b)∈acc\/∃B,(B,b)∈L:=by
    intro L
    induction L with
    |nil=>intro acc h;exact .inl h
    |cons e L G =>
     intro acc h
     rcases G _ h with h1 | ⟨B,h1⟩
     .rcases vC h1 with h2 | h2
      .grind
      .exact .inl h2
     .grind
   rcases I _ _ z with h1 | ⟨B,h1⟩
   .grind
   .exact dQ (AX.1 h1) fun x q ex=>⟨x,q,A8 Prod.snd ex⟩
  obtain⟨x,q,rfl⟩:=F;exact Nv (KJ x) fun J O hs e=>e▸.mk (Jt (h.2.2 x q).2.2)
abbrev qd:=List bX
mutual
def Bx.ev(ahead:qd):Bx->List (qd×PV)
 |.mk q G ss F hs B=>(ahead++[q],(Bx.mk q G ss F hs B).bv)::Bx.evs (ahead++[q]) B
def Bx.evs(ahead:qd):List Bx->List (qd×PV)
 |[]=>[]
 |x::r=>x.ev ahead++Bx.evs ahead r
end
theorem yH ahead(x:Bx):x.ev ahead=(ahead++[x.lab],x.bv)::Bx.evs (ahead++[x.lab]) x.inn:=by
 cases x;rfl
theorem Kh ahead:∀xs ys,Bx.evs ahead (xs++ys)=Bx.evs ahead xs++Bx.evs ahead ys
 |[],_=>by rfl
 |x::xs,ys=>by rw[Ba,Bx.evs,Bx.evs,Kh ahead xs ys,AR]
mutual
theorem Nu(ahead:qd):∀x:Bx,(x.ev ahead).length=x.cnt
 |.mk B G ss F hs q=>by rw[Bx.ev,Bx.cnt,AQ,bD _ q];omega
theorem bD(ahead:qd):∀xs:List Bx,(Bx.evs ahead xs).length=Bx.jk xs
 |[]=>by rw[Bx.evs,Bx.jk];rfl
 |x::xs=>by rw[Bx.evs,Bx.jk,AE,Nu ahead x,bD ahead xs]
end
theorem zM: ∀{xs},e∈Bx.evs ahead xs↔∃x∈xs,e∈x.ev ahead
 |[]=>by rw[Bx.evs];simp
 |x::xs=>by
  rw[Bx.evs,Ad,zM]
  simp
theorem zP:∀{n}{xs}{ahead},uf n xs->∀e∈Bx.evs ahead xs,∃u,e.1=ahead++u/\u≠[]/\u.length<=n/\(∀l∈u,qx l)/\∃(m:Nat)(x:Bx),m < n/\uf m x.inn/\x.Bd/\e.2=x.bv
 |0,xs,ahead,h,e,q=>by
  cases h;exact nomatch q
 |n+1,xs,ahead,h,e,q=>by
  refine dQ (zM.1 q) fun x J q=>oS (h.2.2 x J) fun h1 h2 I=>?_;rw[yH] at q
  rcases AZ.1 q with rfl | q
  .grind
  .obtain ⟨u,F,_,L,G,m,y,O,r⟩:=zP I e q
   exact⟨x.lab::u,by rw[F,AR];rfl,by simp,by rw[List.length_cons];lia,fun l B=>by
    rcases AZ.1 B with rfl | B
    .exact h1
    .exact G l B,m,y,by lia,r⟩
noncomputable def qJ(u:qd):PV:=.tup (u.map lQ)
def Qt l:kY (.tup (Bx.f9 xs)) (lQ l)=(zZ (fu [] (xs.map Bx.pr)) l).getD .non:=by
 show(match hU (Bx.f9 xs),sY (lQ l) with | some ps,some k=>(zZ (fu [] ps) k).getD .non | _,_=>.non)=_;rw[Zt,pV]
def Zd(h:∀x∈xs,x.lab≠l):kY (.tup (Bx.f9 xs)) (lQ l)=.non:=by
 rw[Qt]
 cases e:zZ (fu [] (xs.map Bx.pr)) l with
 |none=>rfl
 |some v =>
  rcases nG _ _ _ _ e with h1 | h1
  .cases h1
  .exact dQ (AX.1 h1) fun x q ex=>absurd (A8 Prod.fst ex) (h x q)
def Zc(nd:(xs.map Bx.lab).Nodup)(q:x∈xs):kY (.tup (Bx.f9 xs)) (lQ x.lab)=x.bv:=by
 rw[Qt,Yw (Tf nd) (AX.2 ⟨x,q,rfl⟩)]
 rfl
def xj(x:Bx):K2 x.bv=.tup (Bx.f9 x.inn):=by
 obtain⟨q,B,hs,e⟩:=(KJ x);rw[e]
 rfl
theorem vL:∀q,xK q .non (.tup [])=.non
 |[]=>rfl
 |l::q=>by
  have e:kY (.tup []) l=.non:=by
   show(match hU [],sY l with | some ps,some k=>(zZ (fu [] ps) k).getD .non | _,_=>.non)=_;cases sY l<;>rfl
  show xK q (kY (.tup []) l) (K2 (kY (.tup []) l))=.non;rw[e];exact vL q
theorem Jw:∀B n xs ahead,uf n xs ->
  (wU (xK (B.map lQ) .non (.tup (Bx.f9 xs)))=false->(ahead++B,xK (B.map lQ) .non (.tup (Bx.f9 xs)))∈Bx.evs ahead xs) /\
  ∀b,(ahead++B,b)∈Bx.evs ahead xs->xK (B.map lQ) .non (.tup (Bx.f9 xs))=b
 |[],n,xs,ahead,h=>by
  refine⟨(fun z=>nomatch z),fun b q=>?_⟩;exact xZ (zP h _ q) fun u e J _=>absurd (BG e).symm J
 |l::B,0,xs,ahead,h=>by
  cases h;have e:xK ((l::B).map lQ) .non (.tup (Bx.f9 []))=.non:=by rw[Bx.f9];exact vL _
  rw[e];refine⟨(fun z=>nomatch z),fun b q=>?_⟩;exact nomatch q
 |l::B,n+1,xs,ahead,h=>by
  have Y:xK ((l::B).map lQ) .non (.tup (Bx.f9 xs))=xK (B.map lQ) (kY (.tup (Bx.f9 xs)) (lQ l)) (K2 (kY (.tup (Bx.f9 xs)) (lQ l))):=rfl;rw[Y]
  by_cases F:∃x∈xs,x.lab=l
  .obtain ⟨x,F,rfl⟩:=F
   refine oS (h.2.2 x F) fun _ _ S=>?_;rw[Zc h.1 F,xj]
   have only:∀b,(ahead++x.lab::B,b)∈Bx.evs ahead xs->(ahead++x.lab::B,b)∈x.ev ahead:=by
    intro b q;refine dQ (zM.1 q) fun y I q=>?_
    have U:y.lab=x.lab:=by
     rw[yH] at q
     rcases AZ.1 q with q | q
     .have:=BG (A8 Prod.fst q)
      injection this with G _
      exact G.symm
     .refine dQ (zP (h.2.2 y I).2.2 _ q) fun u e _=>?_
      have e:=e;rw[AR] at e;have:=BG e;injection this with G _
      exact G.symm
    rwa [(pA h.1 I F U)] at q
   cases B with
   |nil =>
    refine⟨fun _=>zM.2 ⟨x,F,by rw[yH];exact AG⟩,fun b q=>?_⟩;have:=only b q;rw[yH] at this
    rcases AZ.1 this with q | q
    .exact (A8 Prod.snd q).symm
    .refine xZ (zP S _ q) fun u e J _=>?_
     have:=A8 List.length e;rw[AE (bs:=u)] at this;have:=List.length_pos_iff.2 J
     lia
   |cons L B =>
    obtain⟨i1,i2⟩:=Jw (L::B) n x.inn (ahead++[x.lab]) S;have O:ahead++x.lab::L::B=(ahead++[x.lab])++L::B:=by rw[AR];rfl
    refine⟨fun z=>?_,fun b q=>?_⟩
    .rw [O]
     refine zM.2 ⟨x,F,?_⟩;rw[yH];exact AJ _ (i1 z)
    .have:=only b q
     rw[O,yH] at this
     rcases AZ.1 this with q | q
     .have:=A8 List.length (A8 Prod.fst q)
      have this:=this;rw[AE,AQ] at this
      lia
     .exact i2 b q
  .rw [Zd fun x Z e=>F ⟨x,Z,e⟩]
   have e:xK (B.map lQ) .non (K2 .non)=.non:=vL _;rw[e];refine⟨(fun z=>nomatch z),fun b q=>?_⟩;refine dQ (zM.1 q) fun y I q=>?_
   exfalso
   rw[yH] at q
   rcases AZ.1 q with q | q
   .have:=BG (A8 Prod.fst q)
    injection this with G _
    exact F ⟨y,I,G.symm⟩
   .refine dQ (zP (h.2.2 y I).2.2 _ q) fun u e _=>?_
    rw[AR] at e;have:=BG e;injection this with G _
    exact F ⟨y,I,G.symm⟩
end K33
namespace PySem
namespace F
def pL:Manifest.owners.lookup (String.ofList ['d','e','s','r','e','v','e','r'].reverse)=some Manifest.sig_reversed:=by kernel_rfl
def iT:Slot "reversed" "__next__" "reversed.__next__" :=
 .of (owner:="reversed") (n:="__next__") (by kernel_rfl) (by decide +kernel) (by decide +kernel) (by decide +kernel)
  (by first | exact .inl (by decide +kernel) | exact .inr (by decide +kernel)) (by kernel_rfl)
def kh:Slot "reversed" "__iter__" "reversed.__iter__" :=
 .of (owner:="reversed") (n:="__iter__") (by kernel_rfl) (by decide +kernel) (by decide +kernel) (by decide +kernel)
  (by first | exact .inl (by decide +kernel) | exact .inr (by decide +kernel)) (by kernel_rfl)
def jr:Slot "reversed" "__length_hint__" "reversed.__length_hint__" :=
 .of (owner:="reversed") (n:="__length_hint__") (by rw[DA,B6];kernel_rfl) (by decide +kernel) (by decide +kernel) (by decide +kernel)
  (by first | exact .inl (by decide +kernel) | exact .inr (by decide +kernel)) (by rw[isSubtype_type];kernel_rfl)
def mS:Slot "reversed" "__init__" "object.__init__" :=
 .of (owner:="object") (n:="__init__") (by kernel_rfl) (by decide +kernel) (by decide +kernel) (by decide +kernel)
  (by first | exact .inl (by decide +kernel) | exact .inr (by decide +kernel)) (by kernel_rfl)
def j8:entryFor table "reversed.__next__" = some Builtin.«reversed.__next__»:=entryFor_of_tree (by kernel_rfl)
def o8:entryFor table "reversed.__length_hint__" = some Builtin.«reversed.__length_hint__»:=entryFor_of_tree (by kernel_rfl)
def o7:entryFor table "reversed.__iter__" = some Builtin.«dict_keyiterator.__iter__» :=
 entryFor_alias (id':="dict_keyiterator.__iter__") (by kernel_rfl) (by first | rfl | decide +kernel | (delta String.splitOn;simp +decide [String.splitOnAux])) (by decide +kernel) (by kernel_rfl)
def kj a:argsOk "reversed.__next__" ⟨[a],[]⟩:=by
 delta argsOk;rw[signature?_of (n:=['_','_','t','x','e','n','_','_']) (by kernel_rfl) pL];kernel_rfl
def qe a:argsOk "reversed.__iter__" ⟨[a],[]⟩:=by
 delta argsOk;rw[signature?_of (n:=['_','_','r','e','t','i','_','_']) (by kernel_rfl) pL];kernel_rfl
def qi a:argsOk "reversed.__length_hint__" ⟨[a],[]⟩:=by
 delta argsOk;rw[signature?_of (n:=['_','_','t','n','i','h','_','h','t','g','n','e','l','_','_']) (by kernel_rfl) pL];kernel_rfl
def qg a b:argsOk "object.__init__" ⟨[a,b],[]⟩:=by
 delta argsOk;rw[signature?_of (n:=['_','_','t','i','n','i','_','_']) (by kernel_rfl) owner_object];kernel_rfl
def lg:TypeCalled "reversed" "reversed.__new__" "object.__init__" :=
 ⟨by decide +kernel,by decide +kernel,⟨_,_,mro_reversed⟩,made_reversed,by decide +kernel,by kernel_rfl,mS⟩
def t6:typeLookup (.type "tuple") "__reversed__" = pure none:=by rw[DA,B6];kernel_rfl
def t7:typeLookup (.type "reversed") "__len__" = pure none:=by rw[DA,B6];kernel_rfl
end F
section
open PyProof.Rows
variable {prog:Program}{w:World}{A:Around}{E:Value->Shared->Prop}{s:Shared}
noncomputable def xq(t:Addr)(i:Int):Obj:={ cls:=.type "reversed",data:=.fields #[.ref t,rawInt i] }
def Heap.jc(h:Heap)(a t:Addr)(i:Int):Prop:=∃o,h.get? a=some o/\o.cls=.type "reversed"/\o.data=.fields #[.ref t,rawInt i]
def Heap.jc.typeIs(x:s.heap.jc a t i):s.TypeIs (.ref a) "reversed":=let ⟨o,B,q,_⟩:=x;⟨o,B,q⟩
theorem Heap.jc.at{h h':Heap}(x:h.jc a t i)(e:∀o,h.get? a=some o->h'.get? a=some o):h'.jc a t i:=let ⟨o,q,r⟩:=x;⟨o,e _ q,r⟩
def w6(B:IsTup s.heap t items)(G:(items.size:Int) < 2 ^ 63)(h:Q₁ (.ref s.heap.objs.size) { s with heap:=s.heap.push (xq t ((items.size:Int) - 1)),toks:=s.toks+1+1 }):
  codeAny (model prog w) A (.call (.builtin "reversed.__new__") ⟨[.type "reversed",.ref t],[]⟩) (wants Q₁ E) s:=by
 refine codeAny_of_tree (AA (Bl (F.newCall_reversed_1 _) (AD ⟨BH F.plain_reversed_new _,BX F.entry_reversed_new ?_⟩)));rw[Dr F.plain_reversed_new _]
 delta Builtin.«reversed.__new__»
 refine AA (Bl (newClass_reversed _) (AA (Bl (by first | rfl | kernel_rfl) ?_)));refine AA (Bl (by first | rfl | kernel_rfl) ?_);refine AA (Ar B.typeIs F.t6 (AA ?_))
 wp_delta
 refine AA (BB (b:=false) B.typeIs (by rw[isSubtype_type];kernel_rfl) ?_);refine A6 (fun q=>absurd q (by decide)) (fun _=>?_);refine AA (Ar B.typeIs F.slot_tuple_getitem.lookup (A6 (fun _=>AD ?_) (fun q=>absurd (by decide +kernel) q)));refine A6 (fun q=>absurd q (by decide)) (fun _=>?_);refine AA (len_tuple B G (AA (AD (AA ?_))))
 show wpAny _ _ (newObj (.type "reversed") (.fields #[.ref t,rawInt ((items.size:Int) - 1)])) _ _ _;exact Ax (AD h)
def G3(I:IsTup s.heap t items)(G:(items.size:Int) < 2 ^ 63)(h:Q (.ref s.heap.objs.size) { s with heap:=s.heap.push (xq t ((items.size:Int) - 1)),toks:=s.toks+1+1 }):wpAny (model prog w) A (call (.type "reversed") [.ref t]) Q E s:=by
 apply DG (Q₁:=fun q B=>q=.ref s.heap.objs.size/\B={ s with heap:=s.heap.push (xq t ((items.size:Int) - 1)),toks:=s.toks+1+1 }) F.lg (F.typeCall_reversed_1 _) F.entry_object_init (w6 I G ⟨rfl,rfl⟩)
 rintro q B ⟨rfl,rfl⟩;refine⟨⟨_,AL _ rfl,rfl⟩,F.qg _ _,?_⟩;exact object_init_meets F.lg.init.lookup F.lg.made rfl prog w A.in1 _ _ ⟨⟨_,AL _ rfl,rfl⟩,rfl,h⟩
def Ys{i:Nat}(G:s.heap.jc it t (i:Int))(I:IsTup s.heap t items)(J:items[i]?=some x)(U:(items.size:Int) < 2 ^ 63)(L:∀h' tk,h'.jc it t ((i:Int) - 1)->Heap.SameBut it s.heap h'->Q (some x) { s with heap:=h',toks:=tk }):wpAny (model prog w) A (pyNext (.ref it)) Q E s:=by
 obtain⟨o,B,S,q⟩:=(id G);have hi:=(BM.1 J).1
 refine AA (Cb (Ci G.typeIs F.iT
  (Az F.iT G.typeIs F.j8 ?_ (F.kj _))))
 refine AA (Bl rfl (AA (A5 B q rfl (AA (A5 B q rfl (AA (Ar I.typeIs F.slot_tuple_getitem.lookup (A6 (fun O=>absurd O (by simp)) (fun _=>?_)))))))));refine AA (wpAny_mkInt (AA (Cb (getItem_tuple I (by lia) (by lia) ?_ J ?_))))
 .have h0:¬ (i:Int) < 0:=by lia
  simp[seqIndex?,h0,hi]
 refine AA (A5 B q rfl (AA (CC B q (by simp) ?_)))
 refine AD ⟨x,rfl,AD (L _ _ ⟨_,Al _ B (Obj.isFreed_of_fields (Obj.data_mapFields q _)),(Obj.cls_mapFields ..).trans S,by
  rw[Obj.data_mapFields q];simp⟩ (Heap.SameBut.update ..))⟩
def Er(J:A.handled=none)(G:s.heap.jc it t (-1))(O:∀h',Heap.ExtBut it s.heap h'->Q none { s with heap:=h' }):wpAny (model prog w) A (pyNext (.ref it)) Q E s:=by
 refine xZ (id G) fun o B S q=>AA (Cb (Ci G.typeIs F.iT
  (Az F.iT G.typeIs F.j8 ?_ (F.kj _))))
 refine AA (Bl rfl (AA (A5 B q rfl (AA (A5 B q rfl (AA (Bu (AA ?_))))))))
 wp_delta
 refine AA (CC B q (by simp) ?_);have h1:=Al (Obj.mapFields (fun x=>x.setIfInBounds 1 (rawInt (-1)))) B (Obj.isFreed_of_fields (Obj.data_mapFields q _))
 apply CC (s:={ s with heap:=s.heap.update it (Obj.mapFields (fun x=>x.setIfInBounds 1 (rawInt (-1)))) }) h1 (Obj.data_mapFields q _) (by simp)
 have L:Heap.ExtBut it s.heap ((s.heap.update it (Obj.mapFields (fun x=>x.setIfInBounds 1 (rawInt (-1))))).update it (Obj.mapFields (fun x=>x.setIfInBounds 0 Value.none))):=fun b o I e=>
  (Ac _ _ (Ne.symm I)).trans ((Ac _ _ (Ne.symm I)).trans e)
 refine AA (AA (AA (Ax (AA (Bl (by first | rfl | (rfl)) ?_)) (by size_fits))));refine Ax (AA (wpAny_handled ?_)) (by size_fits)
 first | rw[show A.in1.handled=none from J] | rw[J]
 refine AA (AD (wpAny_throw ?_));refine AA (BB ⟨_,AL _ rfl,rfl⟩ isSubtype_stop ?_);exact AD (O _ ((L.push _).push _))
def Xd(q:s.heap.jc it t i)(h:Q (.ref it) s):wpAny (model prog w) A (pyIter (.ref it)) Q E s :=wpAny_pyIter_slot q.typeIs F.kh (Az F.kh q.typeIs F.o7 (AD ⟨_,rfl,"reversed",_,q.typeIs,F.iT.lookup,h⟩) (F.qe _))
end
end PySem
namespace PySem
section
open PyProof.Rows
def KO(hh:A.handled=none)I t(ab:t≠I)items(Z:(items.size:Int) < 2 ^ 63):
  Walks prog w A I [I,t] [I] items.size (fun i v=>items[items.size - 1 - i]?=some v) (fun i h=>i<=items.size/\h.jc I t ((items.size:Int) - 1 - i )/\IsTup h t items) where
 sub:=fun b q=>by simp at q;simp[q]
 frame:=fun _ _ _ x hk=>⟨x.1,x.2.1.at fun o e=>hk I (by simp) o e,let ⟨o,J,r⟩:=x.2.2;⟨o,hk t (by simp) o J,r⟩⟩
 item:=fun i s Q E hi x B=>by
  have e:(items.size:Int) - 1 - (i:Int)=((items.size - 1 - i:Nat):Int):=by omega
  have F:=x.2.1;rw[e] at F;have S:items[items.size - 1 - i]?=some (items[items.size - 1 - i]'(by omega)):=DO (by omega);refine Ys F x.2.2 S Z fun h' tk L O=>?_;have U:((items.size - 1 - i:Nat):Int) - 1=(items.size:Int) - 1 - ((i+1:Nat):Int):=by lia
  rw[U] at L;exact B _ h' tk S ⟨hi,L,let ⟨o,J,r⟩:=x.2.2;⟨o,(O.2 t ab).trans J,r⟩⟩ fun b o q G=>O.extBut b o (fun h=>q (by simp[h])) G
 done:=fun s Q E x B=>by
  have e:(items.size:Int) - 1 - (items.size:Int) = -1:=by lia
  have F:=x.2.1;rw[e] at F;exact Er hh F fun h' Y=>B h' s.toks fun b o q G=>Y b o (fun h=>q (by simp[h])) G
 self:=fun _ _ _ _ x B=>Xd x.2.1 B
variable {prog:Program}{w:World}{A:Around}{E:Value->Shared->Prop}{s:Shared}
def YV(B:s.heap.jc I t ((items.size:Int) - 1))(Y:IsTup s.heap t items)(U:items.size<=sizeLine)(h:∀tk,Q ((items.size:Int) != 0) { s with toks:=tk }):wpAny (model prog w) A (Builtin.List.listLengthHint (.ref I)) Q E s:=by
 obtain⟨o,L,hc,G⟩:=(id B);rw[BZ] at U
 delta Builtin.List.listLengthHint
 refine AA (Ar B.typeIs F.t7 (AA (Ar B.typeIs F.jr.lookup ?_)));generalize J:("reversed.__length_hint__" : String)=ab
 wp_delta
 rw[show splitId ab=some ("reversed","__length_hint__") from by subst J;decide +kernel];subst J;refine AA (BB (b:=true) B.typeIs (by rw[isSubtype_type];kernel_rfl) ?_);refine A6 (fun q=>absurd q (by decide)) (fun _=>?_);refine A6 (fun q=>absurd q (by decide +kernel)) (fun _=>?_);refine AA (Bu (AA (Bl (F.jr.bind _) (AA (Cb (Az F.jr B.typeIs F.o8 ?_ (F.qi _)))))))
 delta Builtin.«reversed.__length_hint__»
 refine AA (Bl rfl (AA (A5 L G (x:=.ref t) rfl (A6 (fun q=>absurd q (by simp)) (fun _=>?_)))));refine AA (len_tuple Y (by lia) ?_);refine AA (AD (AA (A5 L G (x:=rawInt ((items.size:Int) - 1)) rfl ?_)));show wpAny _ _ (if (items.size:Int) < ((items.size:Int) - 1)+1 then _ else _) _ _ _;rw[Af (by lia)]
 rw[show(items.size:Int) - 1+1=items.size by lia];refine AA (wpAny_mkInt (AD ⟨_,rfl,?_⟩));dsimp only;have O:asInt? (Value.int (items.size:Int) (s.toks+1+1))=pure (some (items.size:Int)):=by with_unfolding_all rfl
 rw[O,pure_bind];dsimp only
 have S:Builtin.List.listFitsIndex (items.size:Int)=true:=by
  delta Builtin.List.listFitsIndex
  rw[Bb];exact⟨Am (by lia),Am (by lia)⟩
 have Z:Builtin.List.listTooLong ((items.size:Int).toNat)=false:=by simp[Builtin.List.listTooLong,sizeLine_eq];lia
 have h0:¬ (items.size:Int) < 0:=by lia
 rw[S,Z,Af (show ¬ (!true)=true by decide),Af h0,Af AN];exact AD (h _)
def Z3(hh:A.handled=none)(au:t≠I)items S res ab(Y:S≠I)(ae:S≠t)(J:s.heap.jc I t ((items.size:Int) - 1))(ht:IsTup s.heap t items)(U:s.heap.get? S=some { cls:=.type "list",data:=.seq #[] ab })(hR:∀h' tk G q,(∀b o,b≠S->b≠I->s.heap.get? b=some o->h'.get? b=some o)->h'.get? S=some { cls:=.type "list",dict:=none,data:=.seq G q,slots:=#[] } ->
   ItemsOf (fun i v=>items[items.size - 1 - i]?=some v) G items.size->R (.ok (.ret res)) { s with heap:=h',toks:=tk })(hn:items.size<=sizeLine):
  wpAny (model prog w) A.in1 (Builtin.List.listExtendWith (.ref S) (.ref I) res)
   (fun ah s'=>match ah with | .done f=>R (.ok f) s' | .again q=>q.quiet=true/\codeAny (model prog w) A q R s') (fun e s'=>R (.error e) s') s:=by
 have ar:(items.size:Int) < 2 ^ 63:=by rw[BZ] at hn;lia
 have aj:S∉[I,t]:=fun L=>by
  rcases AZ.mp L with e | e
  .exact Y e
  .exact ae (AF.mp e)
 have W:=(KO (prog:=prog) (w:=w) (A:=A.in1) hh I t au items ar).toS
 have ag:∀h O tk,(∀b o,b≠S->s.heap.get? b=some o->h.get? b=some o) ->
   h.get? S=some { cls:=.type "list",data:=.seq #[] O }->codeAny (model prog w) A (.builtin "list.extend.loop" ⟨[.ref S,.ref I,res],[]⟩) R { s with heap:=h,toks:=tk }:=by
  intro h O tk hk ak;refine codeAny_extend_loopS W hn S aj res items.size 0 _ #[] O rfl (AW _) ⟨AW _,by simpa using J.at fun o e=>hk I o (Ne.symm Y) e,let ⟨o,ho,r⟩:=ht;⟨o,hk t o (Ne.symm ae) ho,r⟩⟩ ak (ItemsOf.nil _) fun s' G q L ai ao=>?_;rw[Moved.eq_with L];refine hR s'.heap s'.toks G q (fun b o B aq e=>L.heap b o (fun Z=>?_) (hk b o B e)) ai ao
  rcases AZ.mp Z with e' | Z
  .exact B e'
  .exact aq (AF.mp Z)
 delta Builtin.List.listExtendWith
 refine AA (CM J.typeIs ?_);have h1:Builtin.List.listSameRef (.ref S) (.ref I)=false:=by simp[Builtin.List.listSameRef,Y]
 have h2:(Value.type "reversed" == Value.type "list")=false:=by decide
 have h3:(Value.type "reversed" == Value.type "tuple")=false:=by decide
 simp only[h1,h2,h3,Bool.or_false,Bool.false_eq_true,if_false]
 refine AA (Xd J (AA (As (YV J ht hn fun tk=>A6 (fun _=>AA (Bu (AA (AA (B1 U rfl ?_))))) (fun _=>AD ⟨BH F.plain_extend_loop _,ag _ ab _ (fun b o _ e=>e) U⟩)))));have af:=Al (Obj.mapSeq (·.push Value.none)) U rfl;refine B1 (s:={ s with heap:=s.heap.update S (Obj.mapSeq (·.push Value.none)),toks:=tk }) af rfl (AD ⟨BH F.plain_extend_loop _,ag _ _ _ (fun b o B e=>(Ac _ _ (Ne.symm B)).trans ((Ac _ _ (Ne.symm B)).trans e)) (Al (Obj.mapSeq (·.pop)) af rfl)⟩)
def cS(hh:A.handled=none)(ah:t≠I)items S(L:S≠I)(O:S≠t)(ag:s.heap.jc I t ((items.size:Int) - 1))(ht:IsTup s.heap t items)(G:s.heap.get? S=some { cls:=.type "list",data:=.seq #[] })(Y:∀h' tk B q,(∀b o,b≠S->b≠I->s.heap.get? b=some o->h'.get? b=some o)->h'.get? S=some { cls:=.type "list",dict:=none,data:=.seq B q,slots:=#[] } ->
   ItemsOf (fun i v=>items[items.size - 1 - i]?=some v) B items.size->R (.ok (.ret .none)) { s with heap:=h',toks:=tk })(hn:items.size<=sizeLine):
  wpAny (model prog w) A.in1 (Builtin.«list.__init__» ⟨[.ref S,.ref I],[]⟩)
   (fun U s'=>match U with | .done f=>R (.ok f) s' | .again q=>q.quiet=true/\codeAny (model prog w) A q R s') (fun e s'=>R (.error e) s') s:=by
 apply AA
 refine AA (Bp G rfl (AD (AA (B1 G rfl ?_))));have ab:=Al (Obj.mapSeq (fun _=>(#[]:Array Value))) G rfl
 have J:∀b o,b≠S->s.heap.get? b=some o->(s.heap.update S (Obj.mapSeq (fun _=>(#[]:Array Value)))).get? b=some o :=
  fun b o F e=>(Ac _ _ (Ne.symm F)).trans e
 exact AA (wpAny_letGo (Z3 (s:={ s with heap:=s.heap.update S (Obj.mapSeq (fun _=>(#[]:Array Value))) }) hh ah items S .none _ L O (ag.at fun o e=>J I o (Ne.symm L) e) (let ⟨o,ho,r⟩:=ht;⟨o,J t o (Ne.symm O) ho,r⟩) ab (fun h' tk B q hk Z ae=>Y h' tk B q (fun b o F af e=>hk b o F af (J b o F e)) Z ae) hn))
def aS(hh:A.handled=none)(ag:t≠I)items(L:s.heap.jc I t ((items.size:Int) - 1))(O:IsTup s.heap t items)(Z:∀h' tk B G,(∀b o,b≠I->s.heap.get? b=some o->h'.get? b=some o)->h'.get? s.heap.objs.size=some { cls:=.type "list",dict:=none,data:=.seq B G,slots:=#[] } ->
   ItemsOf (fun i v=>items[items.size - 1 - i]?=some v) B items.size->Q (.ref s.heap.objs.size) { s with heap:=h',toks:=tk })(hn:items.size<=sizeLine):
  wpAny (model prog w) A (call (.type "list") [.ref I]) Q E s:=by
 have Y:=let ⟨o,q,_⟩:=L;AH q
 have af:=let ⟨o,q,_⟩:=O;AH q
 refine DG (Q₁:=fun S U=>S=.ref s.heap.objs.size/\U={ s with heap:=s.heap.push { cls:=.type "list",data:=.seq #[] } }) F.called_list (F.typeCall_list_1 _) F.entry_list_init
  (code_list_new _ ⟨rfl,rfl⟩) fun S U ah=>?_
 obtain⟨rfl,rfl⟩:=ah;have J:(s.heap.push { cls:=.type "list",data:=.seq #[] }).get? s.heap.objs.size=some { cls:=.type "list",data:=.seq #[] }:=AL _ rfl;refine⟨⟨_,J,rfl⟩,F.args_list_init_2 _ _,cS (A:=A.in1) hh ag items _ (fun e=>A7 _ (e▸Y)) (fun e=>A7 _ (e▸af)) (L.at fun o e=>AC _ e) (let ⟨o,q,r⟩:=O;⟨o,AC _ q,r⟩) J (fun h' tk B G hk ab ae=>?_) hn⟩
 exact⟨rfl,Z h' tk B G (fun b o hb e=>hk b o (AV (AH e)) hb (AC _ e)) ab ae⟩
end
end PySem
namespace L2
open PySem PySem.W PyProof.Rows
section
variable {X:Cx}
abbrev Iv(z:Nat)(it p:Addr)(n:Nat):Heap->Prop:=fun h=>z<=it/\h.jc it p ((n:Int) - 1)
def oR:CallR X (.type "reversed") (fun xs H Q=>∃p ys,xs=[.ref p]/\H p=some (.tup ys)/\∀it,H it=none->Q (.ref it) (upd H it (.ext (Iv X.s₀.heap.objs.size it p ys.length)))):=by
 intro pins s σ H xs us Q I r h;obtain⟨p,ys,rfl,J,q⟩:=h;obtain⟨u,rfl,rfl⟩:=jU r;obtain⟨O,B,S,L⟩:=(I.tuple (SqT.of J));have G:(O.toArray.size:Int) < 2 ^ 63:=by rw[Aj,<- B.length];rw[BZ] at L;lia
 refine G3 S G ⟨.ref s.heap.objs.size,_,I.laid (t':=s.toks+1+1) (fun b o e=>AC _ e) (AI _) ?_,rfl,q _ (I.hok.fresh (AI _))⟩;refine⟨⟨I.sz,_,AL _ rfl,rfl,by simp[xq,B.length]⟩,⟨_,AL _ rfl⟩,?_⟩;rintro h1 h2 ⟨z,F⟩ e;exact⟨z,F.at e⟩
def qT(U:X.calm=true):CallR X (.type "list") (fun xs H Q=>∃it p ys,xs=[.ref it]/\H it=some (.ext (Iv X.s₀.heap.objs.size it p ys.length))/\H p=some (.tup ys)/\∀l,H l=none->Q (.ref l) (upd (drop H it) l (.lst ys.reverse))):=by
 intro pins s σ H xs us Q I r h;obtain⟨it,p,ys,rfl,hi,B,ab⟩:=h;obtain⟨u,rfl,rfl⟩:=jU r;obtain⟨q,J,pl,hz⟩:=(I.tuple (SqT.of B));have Y:=J.length;obtain⟨⟨h0,af⟩,_,_⟩:=(I.hok it _ hi);have Z:p≠it:=fun z=>by rw[z,hi] at B;cases B
 refine aS (I.ok.hd U) Z q.toArray (by grind) pl (fun h' tk F L kp e G=>?_) (by rwa [Aj,<- Y])
 have S:F=q.reverse.toArray:=by
  apply Array.ext
  .rw [G.1,Aj,Aj,BN]
  .intro i h1 h2
   have:=G.2 i F[i] (DO h1);rw[Aj,Cv] at this;have ae:i < q.length :=by simp_all
   rw[AM (by omega)] at this;have O:q.reverse.toArray[i]=q[q.length - 1 - i]:=by simp
   exact O▸(Au this).symm
 subst S;exact⟨.ref s.heap.objs.size,_,I.gone (t':=tk) hi h0 kp (AI _) (show ObjOk X.prog X.w _ h' _ (.lst ys.reverse) from⟨by rw[BN];exact hz,q.reverse,L,Qn J,e⟩),rfl,ab _ (I.hok.fresh (AI _))⟩
end
end L2
namespace CL
open PySem PySem.Spec L2 PySem.W
open PyProof.Rows hiding St
section
variable {X:Cx}{a b c e o i f value:Expr}{es:List Expr}{pos pos':Pos}
@[irreducible] def KB:PV->CH->K1->Prop:=fun x C Q=>match x with
 |.tup xs=>∀p,C p=none->Q (.ref p) (gQ C p (.lst xs.reverse))
 |_=>False
def VZ(q:gw):gw:=fun ρ C Q=>q ρ C fun x C1=>KB x C1 Q
def XI(L:X.calm=true)(S:Gl X "list")(U:Gl X "reversed")(Y:X.mg "list" = none)(Z:X.mg "reversed" = none)(O:CE X e I)(hs:noStar e=true:=by rfl):
  CE X (.Call (.Name "list" p) [.Call (.Name "reversed" p2) [e] [] af] [] pos) (VZ I):=⟨JE.weak (gG (qT L) S Y rfl (yD (gG oR U Z rfl (yD O.h ⟨oV⟩ hs) (by decide) rfl hs rfl) ⟨oV⟩)) fun σ H Q zz=>aQ zz fun ρ C R s h ae f=>
  ⟨ρ,C,_,s,h,ae,fun x H1 px C1 F rx h1 J=>by
   delta KB at F
   split at F
   .next xs =>
    cases rx with
    |@tup a vs ts B rv =>
    refine⟨_,vs,rfl,B,fun it G=>⟨it,_,vs,rfl,uQ,?_,fun l q=>?_⟩⟩
    .rw [pQ (fun z=>by rw[z,G] at B;cases B)];exact B
    .have ab:l≠it:=fun z=>by rw[z,uQ] at q;cases q
     rw[pQ ab] at q;rw[Xs G];exact f _ _ _ _ (F l (h1.fresh q)) (.ref l) (h1.lay q ⟨_,uQ,rv.reverse.cT (iz.new q _)⟩) (J.trans (Fw.lay q _ _))
   .exact F.elim⟩⟩
def Dw(q:∀B,C B=none->Q (.ref B) (gQ C B (.lst xs.reverse))):KB (.tup xs) C Q:=by
 delta KB
 exact q
end
end CL
namespace L2
open PySem PySem.Spec PyProof.Rows
abbrev Cx.at2(X:Cx)(k:Nat):Cx:={ X with N:=X.N.set k "!" }
section
variable {X:Cx}{pins:List (Addr×Obj)}{σ:St}{H:Hp}{s:Shared}{k:Nat}{e:Expr}{te:TE}
def YK k(ag:JE (X.at2 k) e te):JE X e (fun σ H Q=>Qj k σ/\te σ H Q):=by
 have ah:X.Ok->(X.at2 k).Ok:=fun af=>by
  obtain⟨h1,h2,h3,h4,h5,h6,h7,h8,h9,G,J,L,O,S,U,Y,Z,ab⟩:=af;exact⟨h1,h2,h3,h4,h5,h6,h7,h8,h9,G,J,L,O,S,U,Y,Z,ab⟩
 have ai:(X.at2 k).Ok->X.Ok:=fun af=>by
  obtain⟨h1,h2,h3,h4,h5,h6,h7,h8,h9,G,J,L,O,S,U,Y,Z,ab⟩:=af;exact⟨h1,h2,h3,h4,h5,h6,h7,h8,h9,G,J,L,O,S,U,Y,Z,ab⟩
 have i1:∀{pins σ H s},Qj k σ->Inv X pins σ H s->Inv (X.at2 k) pins σ H s:=fun {pins σ H s}n I=>by
  refine dQ I.loc fun m ae hl=>⟨ah I.ok,I.os,I.bare,I.base,⟨m,ae,fun i x v B q F=>?_⟩,I.cell,I.free,I.freeC,I.pin,I.hok,?_⟩
  .by_cases hi:k=i
   .subst hi;exact absurd q (n v)
   .rw [A9 hi] at B
    exact hl i x v B q F
  .rw [Dk]
   exact I.len
 have i2:∀{pins σ H s},Qj k σ->Inv (X.at2 k) pins σ H s->Inv X pins σ H s:=fun {pins σ H s}n I=>by
  refine dQ I.loc fun m ae hl=>⟨ai I.ok,I.os,I.bare,I.base,⟨m,ae,fun i x v B q F=>?_⟩,I.cell,I.free,I.freeC,I.pin,I.hok,?_⟩
  .by_cases hi:k=i
   .subst hi;exact absurd q (n v)
   .refine hl i x v ?_ q F
    rwa [A9 hi]
  .have:=I.len
   rw[this,Dk]
 exact⟨fun pins s σ H Q I h=>thn (ag.h pins s σ H Q (i1 h.1 I) h.2) fun v s1 zz=>nX zz fun x H1 I1 r1 q1=> ⟨x,H1,i2 h.1 I1,r1,q1⟩⟩
end
end L2
namespace CL
open PySem PySem.Spec L2 PySem.W
open PyProof.Rows hiding St
def Vm(h:Qj k σ)l:Qj k (σ.set l none):=fun v e=>by
 by_cases q:l=k
 .subst q;exact rC _ σ v e
 .rw [A9 q] at e;exact h v e
def KA(i k l:Nat)(q:gw):km:=fun E ρ C=>Jh i q E ((ρ.set k none).set l none) C
def NT{X}{pos pos'}i k l(G:X.N.Nodup)(I:CE ((X.at_ k).at2 l) e F)(hi:X.N[i]?=some x:=by rfl)(L:Loc X.env.scope x:=by first | exact Or.inl rfl | exact Or.inr rfl)(hs:swapsWith e (some (.Name x pos')) pos.line X.env=pure false:=by rfl)(J:X.fn x=true\/X.env.scope.names.lookup x=some .local:=by first | exact .inl rfl | exact .inr rfl | assumption):
  CS X (.Assign [.Name x pos'] e pos) (KA i k l F):=⟨JS.weak (Ir k (Ir l ⟨Zq G hi L (Ec k (YK l I.h)).h hs J⟩)) fun D σ H U=>aQ U fun ρ C E s h q f=>
 ⟨Vm (rC k σ) l,rC l _,_,C,_,(s.unset k).unset l,h,q,fun x H1 Y C1 O S h1 B=>f.nx _ H1 _ C1 O ((((s.unset k).unset l).cT (B.cT h)).set S i) h1 B⟩⟩
def gM(S:CH->Prop)(n:Nat)(t:nq)(c:gw)(ρ:jm)(Q:K1):List PV->List PV->CH->Prop
 |[],acc,C=>S C/\∀p,C p=none->Q (.ref p) (gQ C p (.lst acc))
 |x::r,acc,C=>S C/\∃ts,x=.tup ts/\ts.length=n/\t (ts.map some++ρ) C fun b C1=>if b=true then c (ts.map some++ρ) C1 fun y C2=>acc.length < sizeLine/\gM S n t c ρ Q r (acc++[y]) C2 else gM S n t c ρ Q r acc C1
def Fj{K}{Q:VK}(j:ItS K S J ps)(s:gq K H σ ρ)(h:d8 K H C)(ai:gM S n t c ρ R ps [] C)(h0:d8 K H0 C0)(f0:Fw H0 C0 H C)(f:∀v H' p C',R p C'->Rep K H' v p->d8 K H' C'->Fw H0 C0 H' C'->Q v H')(F:H D=none):
  ∃W:Nat->Nat->List V->Hp->Prop,(∃m,W 0 m [] (upd H D (.lst [])))/\∀i m ys H,W i m ys H ->
   (J.stop i H/\Q (.ref D) H)\/(J.go i H/\∀x H',J.yld i H x H'->∃a vs,x=.ref a/\SqT K H' a vs/\vs.length=n/\xJ K gL t (vs.map some++σ) H' fun b H2=>
    if b=true then xJ K (Rep K) c (vs.map some++σ) H2 fun y H3=>H3 D=some (.lst ys)/\ys.length < sizeLine/\∃I,I < m/\W (i+1) I (ys++[y]) (upd H3 D (.lst (ys++[y])))
    else ∃I,I < m/\W (i+1) I ys H2):=by
 refine⟨fun i m ys H'=>m=ps.length - i/\i<=ps.length/\∃acc C',H' D=some (.lst ys)/\C' D=none/\d9 K H' ys acc/\d8 K H' C'/\Fw H C H' C'/\gM S n t c ρ R (ps.drop i) acc C',
  ⟨ps.length,rfl,AW _,[],C,uQ,h.fresh F,.nil,h.new F _,Fw.new F _,ai⟩,?_⟩
 rintro i m ys H1 ⟨rfl,hi,acc,C1,e1,n1,r1,h1,L,q⟩;have k1:=L.cT h
 have q0:S C1:=by
  cases z:ps.drop i with
  |nil=>rw[z] at q;exact q.1
  |cons x r=>rw[z] at q;exact q.1
 by_cases G:i < ps.length
 .refine .inr ⟨j.go i H1 C1 G h1 q0,fun x H2 y=>?_⟩
  obtain⟨rfl,y⟩:=j.yl i H1 C1 x H2 h1 q0 y;have rx:=y _ (AM G);rw[Ap G] at q
  replace q:=q.2
  obtain⟨ts,ah,hn,q⟩:=q;rw[ah] at rx
  obtain⟨a5,ak,z5,aj,af⟩:∃a vs,x=.ref a/\SqT K H2 a vs/\d9 K H2 vs ts:=by
   cases rx with
   |tup e r=>exact⟨_,_,rfl,SqT.of e,r⟩
  refine⟨a5,ak,z5,aj,af.len.trans hn,⟨ts.map some++ρ,C1,_,(aF af).app (s.cT k1),h1,q,fun b H3 b' C3 q3 e h3 O=>?_⟩⟩;cases e;obtain⟨Y,e3⟩:=O D (by rw[n1];rfl) (by lia);rw[e1] at e3;rw[n1] at Y;have U:=O.cT h1
  cases b with
  |true =>
   refine⟨ts.map some++ρ,C3,_,(aF (af.cT U)).app ((s.cT k1).cT U),h3,q3,fun v H4 p C4 q4 r4 h4 ab=>uF (ab D (by rw[Y];rfl) (by lia)) fun n4 e4=>?_⟩;rw[e3] at e4;rw[Y] at n4;have m4:iz H4 (upd H4 D (.lst (ys++[v]))):=iz.mut e4 rfl _;refine⟨e4,by rw[r1.len];exact q4.1,ps.length - (i+1),by lia,rfl,G,acc++[p],C4,uQ,n4,?_,?_,?_,q4.2⟩
   .exact (((r1.cT U).cT (ab.cT h3)).append (.cons r4 .nil)).cT m4
   .intro a o B
    have ae:a≠D:=fun z=>by subst z;rw[n4] at B;cases B
    exact(h4 a o B).cT m4 (pQ ae)
   .intro a B Z
    have ae:a≠D:=fun z=>Z (z▸F);exact uF ((L.trans (O.trans ab)) a B Z) fun x1 x2=>⟨x1,(pQ ae).trans x2⟩
  |false =>
   exact⟨ps.length - (i+1),by lia,rfl,G,acc,C3,e3,Y,r1.cT U,h3,L.trans O,q3⟩
 .have e:i=ps.length:=by lia
  subst e;rw[Bq] at q
  replace q:=q.2
  refine .inl ⟨j.st H1 C1 h1 q0,f (.ref D) H1 (.ref D) _ (q D n1) (.ref D) ?_ ?_⟩
  .intro a o B
   by_cases z:a=D
   .subst z;rw[jQ] at B;cases B;exact⟨ys,e1,r1⟩
   .rw [wQ z] at B;exact h1 a o B
  .intro a B Z
   obtain⟨x1,x2⟩:=f0 a B Z;have ag:H a≠none:=by rwa [x2]
   obtain⟨y1,y2⟩:=L a (by rwa [x1]) ag;exact⟨(wQ (show a≠D from fun z=>ag (z▸F))).trans (y1.trans x1),y2.trans x2⟩
section
variable {X:Cx}{pos:Pos}
@[irreducible] def pN(q:gw)(t:nq)(c:gw):gw:=fun ρ C Q=>q ρ C fun x C1=>match x with
 |.ref a=>match C1 a with
  |some (.lst xs)=>gM (fun C=>C a=some (.lst xs)) 2 t c ρ Q xs [] C1
  |_=>False
 |_=>False
def VO
  (O:X.calm=true)(hN:(x::y::X.N).Nodup)(K:∃F,fV X [x,y] scope F)(hi:CE X S U)(ht:∀F G C I B,CF (o4 X [x,y] scope F G C I B) ae t)(ab:∀F G C I B,CE (o4 X [x,y] scope F G C I B) Y c)(hs:∀v,foldedSetIterable S X.env v=pure v:=by intro _;rfl):CE X (.ListComp Y [⟨.Tuple [.Name x p1,.Name y p2] k p,S,ae,0⟩] scope pos) (pN U t c):=by
 refine Gn K fun F K=>⟨JE.weak ⟨QM (tc:=xJ X.K gL t) (te:=xJ X.K (Rep X.K) c) O K (fun G C I B=>pg2 O hN K) Rx (jA hi.h.h) (fun G C I B=>(ht F G C I B).h.h) (fun G C I B=>(ab F G C I B).h.h) hs⟩ fun σ H Q zz=>aQ zz fun ρ C R s h q f=> ?_⟩;unfold pN at q
 exact⟨ρ,C,_,s,h,q,fun xv H1 px C1 J rx h1 L=>by
   split at J
   .next a =>
    split at J
    .next xs e =>
     obtain⟨vs,Z,r⟩:=(h1 a _ e);cases rx;exact⟨a,rfl,⟨vs,SqL.of Z⟩,fun D hD=>Fj YN (s.cT (L.cT h)) h1 J h L f hD⟩
    .exact J.elim
   .exact J.elim⟩
end
end CL
namespace K33
open PySem L2 CL
noncomputable def zY(e:qd×PV):PV:=.tup [qJ e.1,e.2]
def Jp s l:PV.tup (s.map lQ++[lQ l])=qJ (s++[l]) :=by simp_all[qJ,List.map_append]
def Ep ahead us(u:Bx):Bx.evs ahead (us++[u])=Bx.evs ahead us++((ahead++[u.lab],u.bv)::Bx.evs (ahead++[u.lab]) u.inn) :=by simp_all[Kh,Bx.evs,List.append_nil,yH]
def Hw(u:Bx):u.cnt=1+Bx.jk u.inn:=by cases u;rfl
section
variable {W:Wd}{a:Adr}
inductive RT(n:Nat)(ts:List PV)(C:CH)(Q:K1):Prop
 |mk(xs:List Bx)(ahead:qd)(z0:ts=[.tup (Bx.f9 xs),qJ ahead])(z1:uf n xs)(z2:ahead.length+n<=100)(z3:Bx.jk xs<=30000)(z4:∀p C',C p=none->C' p=some (.lst ((Bx.evs ahead xs).map zY))->Gr C C'->Q (.ref p) C')
def Ym(T:Tx W a)(n:Nat):Ok W a (n+1) 36 Uz (RT n):=by
 have ag:∀n,Ok W a n 36 Uz (fun ts C Q=>∃d',n=d'+1/\RT d' ts C Q)->Ok W a (n+1) 36 Uz (RT n):=by
  intro n nP;have S:=(T.F 36 rfl).s
  refine(T.F 36 rfl).ok (fun ts C R h=>?_) fun ar A outer s H E hr=>⟨_,(xQ (gn 2 S.nd (pX oX))
  (xQ (gY PassesOwn.never rfl (cv 0) (yP rfl (kZ (mq 3 S.nd) (kZ (mq 4 S.nd) vM))) (kQ (gn 2 S.nd (nQ iQ qX (nQ iQ qX (cv 2) (pX (d7 (mQ (qQ (nQ iQ qX (cv 1) (mQ (d7 (cv 3)))) (d7 (cv 4))))))) (cf (T.F 36 rfl) nP hr (qQ (cx (cv 4) zQ) (d7 (nQ iQ qX (cv 1) (mQ (d7 (cv 3)))))))))))
  (kQ (fQ (cv 2))))),?_⟩
  .obtain ⟨_,_,rfl,_⟩:=h;rfl
  rintro ts C R ⟨xs,ahead,rfl,hb,au,ae,aq⟩;refine yQ ⟨by decide,fun p B=>?_⟩;refine jZ (yF rfl (iZ (fun zs ρ C'=>∃(p:Addr)(O U:Option PV)(us vs:List Bx),xs=us++vs/\zs=Bx.f9 vs/\ρ=[some (.tup (Bx.f9 xs)),some (qJ ahead),some (.ref p),O,U]/\C p=none/\C' p=some (.lst ((Bx.evs ahead us).map zY))/\Gr C C') ?_ ?_ _ _ _ ⟨p,_,_,[],xs,rfl,rfl,rfl,B,by rw[jQ,Bx.evs];rfl,Gr.new B _⟩))
  .rintro z zs ρ C1 ⟨p,O,U,us,vs,e,q,rfl,B,J,G⟩ L hL
   cases vs with
   |nil=>rw[Bx.f9] at q;cases q
   |cons v vs =>
   rw[Bx.f9] at q;obtain⟨rfl,rfl⟩:=BI q;have I:v∈xs:=by rw[e];exact Aa _ AG
   have av:Bx.jk us+((1+Bx.jk v.inn)+Bx.jk vs)<=30000:=by rw[e,Bx.ph,Bx.jk,Hw] at ae;exact ae
   have af:((Bx.evs ahead us).map zY).length=Bx.jk us:=by rw[AB,bD]
   cases n with
   |zero=>rw[show xs=[] from hb] at I;exact nomatch I
   |succ d' =>
   have ak:=(hb.2.2 v I).2.2;obtain⟨aw,x1,hh,aj⟩:=KJ v;refine⟨rfl,aZ (aZ (jP ⟨y0 1 rfl,?_⟩))⟩
   apply dY (sZ (by rw[AB];show ahead.length+1<=1000;lia))
   rw[Jp];refine⟨y0 2 rfl,?_⟩;refine⟨y0 1 rfl,fun p2 ah=>?_⟩;refine XZ (Gr.new ah _ _ _ J) jQ (qB (by rw[af];show _+1<=_;lia)) fun p3 ao=>?_;have ab:Gr C1 (gQ (gQ C1 p2 (.lst [.tup [qJ (ahead++[v.lab]),v.bv]])) p3 (.lst ((Bx.evs ahead us).map zY++[.tup [qJ (ahead++[v.lab]),v.bv]]))):=(Gr.new ah _).trans (Gr.new ao _);have m3:gQ (gQ C1 p2 (.lst [.tup [qJ (ahead++[v.lab]),v.bv]])) p3 (.lst ((Bx.evs ahead us).map zY++[.tup [qJ (ahead++[v.lab]),v.bv]])) p3=some (.lst ((Bx.evs ahead us).map zY++[.tup [qJ (ahead++[v.lab]),v.bv]])):=jQ
   generalize gQ (gQ C1 p2 (.lst [.tup [qJ (ahead++[v.lab]),v.bv]])) p3 (.lst ((Bx.evs ahead us).map zY++[.tup [qJ (ahead++[v.lab]),v.bv]]))=C3 at ab m3 ⊢;refine yX aj (v:=.tup (Bx.f9 v.inn)) rfl ⟨y0 1 rfl,?_⟩
   apply dY (sZ (by rw[AB];show ahead.length+1<=1000;lia))
   rw[Jp];refine⟨d',rfl,v.inn,ahead++[v.lab],rfl,ak,by rw[AE,AO];lia,by lia,fun p4 C4 n4 m4 g4=>?_⟩;refine XZ (g4 _ _ m3) m4 (qB (by rw[AE,af,AB,bD];show _+1+_<=_;lia)) fun p5 ai=>?_;have Z:Gr C C4:=(G.trans ab).trans g4;refine hL _ _ ⟨p5,_,_,us++[v],vs,by rw[AR];exact e,rfl,rfl,gD Z ai,?_,Z.trans (Gr.new ai _)⟩
   rw[jQ,Ep,AS,A4,AR]
   rfl
  .rintro ρ C1 ⟨p,O,U,us,vs,e,q,rfl,B,J,G⟩
   cases vs with
   |cons v vs=>rw[Bx.f9] at q;cases q
   |nil =>
   rw[Ae] at e;subst e;exact aq p C1 B J G
 induction n with
 |zero=>exact ag 0 (cK fun ts C Q Y=>dQ Y fun d' e _=>by lia)
 |succ d ih =>
  apply ag (d+1)
  have e:(fun ts C Q=>∃F,d+1=F+1/\RT F ts C Q)=RT d:=by
   funext ts C Q
   refine propext ⟨fun Y=>dQ Y fun F e h=> ?_,fun h=>⟨d,rfl,h⟩⟩;cases BC e;exact h
  rw[e];exact ih
def v8(sp:List Key):Prop:=∃k c,sp=[k,.inl (some c)]/\kB k/\0<=c/\c<=401
def uq.w(h:uq sp):v8 sp :=dH h fun k c e h1 h2 q=>⟨k,c,e,h1,h2,by lia⟩
def Ld(v:qd):Prop:=v.length<=38/\∀l∈v,l.length<=38/\∀sp∈l,v8 sp
def qx.s(h:qx l):l.length<=38/\∀sp∈l,v8 sp:=⟨by have:=h.2.1;lia,fun sp hs=>(h.2.2 sp hs).w⟩
def GE{α:Type}{f:α->PV}{u:List α}{j:Int}(h0:0<=j)(h1:j < u.length):aG (u.map f) none (some j)=(u.take j.toNat).map f/\¬ (HT.sIx (u.map f).length 0 none=0/\HT.sIx (u.map f).length (u.map f).length (some j)=(u.map f).length):=by
 have e:HT.sIx (u.map f).length (u.map f).length (some j)=j.toNat:=by
  show(if j < 0 then _ else min j.toNat (u.map f).length)=_;rw[Af (by lia),AB]
  lia
 refine⟨?_,fun z=>?_⟩
 .delta aG
  rw[e,HT.sIx_none,List.drop_zero,Nat.sub_zero,List.map_take]
 .grind
def Xx{α:Type}{f}{u:List α}{j:Int}(h0:1<=j)(h1:j<=u.length):aG (u.map f) (some j) none=(u.drop j.toNat).map f/\¬ (HT.sIx (u.map f).length 0 (some j)=0/\HT.sIx (u.map f).length (u.map f).length none=(u.map f).length):=by
 have e:HT.sIx (u.map f).length 0 (some j)=j.toNat:=by
  show(if j < 0 then _ else min j.toNat (u.map f).length)=_;rw[ AB]
  lia
 refine⟨?_,fun z=>?_⟩
 .delta aG
  rw[e,HT.sIx_none,List.map_drop,BK (BE▸AI _)]
 .lia
def GF{α:Type}{f}{u}{x:α}:aG ((u++[x]).map f) none (some (-1))=u.map f/\¬ (HT.sIx ((u++[x]).map f).length 0 none=0/\HT.sIx ((u++[x]).map f).length ((u++[x]).map f).length (some (-1))=((u++[x]).map f).length):=by
 have q:((u++[x]).map f).length=u.length+1:=by rw[AB,AE];rfl
 have e:HT.sIx ((u++[x]).map f).length ((u++[x]).map f).length (some (-1))=u.length:=by
  show(if (-1:Int) < 0 then (-1+(((u++[x]).map f).length:Int)).toNat else min (-1:Int).toNat ((u++[x]).map f).length)=_;rw[ q]
  lia
 refine⟨?_,fun z=>?_⟩
 .delta aG
  rw[e,HT.sIx_none,List.drop_zero,Nat.sub_zero,AS,show u.length=(u.map f).length by rw[AB],List.take_left]
 .lia
inductive gSt(ts:List PV)(C:CH)(Q:K1):Prop
 |mk(t:Addr)(u:qd)(ns:List Int)(z0:ts=[.ref t,qJ u])(z1:Tp C t ns)(z2:u≠[])(z3:u.length<=37)(z4:∀l∈u,qx l)(z5:∀v C',Ld v->Tp C' t ns->Ex t C C'->Q (qJ v) C')
def ZD(T:Tx W a):Ok W a 2 37 ["_law_tape_here","_law_address"] gSt:=by
 have S:=(T.F 37 rfl).s;have bQ:=mZ T
 refine(T.F 37 rfl).ok (fun ts C R h=>?_) fun ax A outer s H E hr=>⟨_,(xQ (gn 2 S.nd (cf (T.F 18 rfl) bQ hr (qQ (cv 0) (d7 zQ))))
  (xQ (gn 3 S.nd (cf (T.F 18 rfl) bQ hr (qQ (cv 0) (d7 (qb T.oJ (cv 1))))))
  (xQ (gn 4 S.nd (cx (cv 1) (cv 3)))
  (xQ (fR (cx (cv 4) (oM lY uV zQ)) (yP rfl (kZ (mq 5 S.nd) (kZ (mq 6 S.nd) vM))))
  (xQ (uX (ct2 lX jX (cv 2) zQ) (kQ (fQ (uP (cv 1) mV (bV (cv 3))))) eQ)
  (xQ (uX (ct2 lX jX (cv 2) zQ) (kQ (fQ (nQ iQ qX (cv 1) (mQ (d7 (cv 4)))))) eQ)
  (xQ (uX (ct2 lX jX (cv 2) zQ) (kQ (fQ (p7 T.hX (XI rfl rfl rfl T.X5 T.rN (cv 1))))) eQ)
  (xQ (gn 7 S.nd (cx (pX (qQ (nQ iQ qX (uP (cv 4) mV (bV (oM lY uV zQ))) (mQ (d7 (mQ (qQ (cv 5) (d7 (nQ iQ qX (cv 6) zQ))))))) (qQ (nQ iQ qX (uP (cv 4) mV (bV (oM lY uV zQ))) (mQ (d7 (mQ (qQ zQ (d7 (cv 6))))))) (d7 (nQ iQ qX (uP (cv 4) (bV zQ) mV) (mQ (d7 (mQ (qQ (cv 5) (d7 (cv 6))))))))))) (nQ aK sJ (cv 2) zQ)))
  (kQ (fQ (nQ iQ qX (nQ iQ qX (uP (cv 1) mV (bV (cv 3))) (mQ (d7 (cv 7)))) (uP (cv 1) (bV (nQ iQ qX (cv 3) zQ)) mV)))))))))))),?_⟩
 .obtain ⟨_,_,_,rfl,_⟩:=h;rfl
 rintro ts C R ⟨t,u,ns,rfl,hT,hu,a0,I,ae⟩;have hpos:=List.length_pos_iff.2 hu;refine yQ ⟨t,6,ns,rfl,hT,by decide,by decide,fun wy C1 w0 w1 T1 e1=>?_⟩;refine yQ (Q8 ?_);rw[AB];refine⟨t,_,ns,rfl,T1,by lia,by lia,fun j C2 j0 j1 Z e2=>?_⟩;have ab:=e1.trans e2
 obtain⟨Y,ay⟩:∃Y,Y∈u:=by
  cases u with
  |nil=>exact absurd rfl hu
  |cons l _=>exact⟨l,AG⟩
 refine yQ (tX (rK (f:=lQ) (ss:=u) Y j0 j1) ?_)
 have ak:u.getD j.toNat Y∈u:=by
  rw[Be,AM (by lia)];exact BF _
 generalize u.getD j.toNat Y=l at ak;have G:=I l ak
 obtain⟨q,sp,el⟩:∃q sp,l=q++[sp]:=by
  rcases List.eq_nil_or_concat l with h | ⟨q,sp,h⟩
  .exact absurd h G.1
  .exact ⟨q,sp,by rw[h,List.concat_eq_append]⟩
 subst el;obtain⟨k,c,aq,hk,c0,c1⟩:=G.2.2 sp (by simp);subst aq;have az:q.length+1<=37:=by have:=G.2.1;rw[AE] at this;exact this
 have aj:∀x∈q,v8 x:=fun x L=>(G.2.2 x (A2 _ L)).w;have ao:lQ (q++[[k,.inl (some c)]])=.tup (q.map cJ++[.tup [cW k,.int c]]):=by delta lQ;rw[AS];rfl
 refine jZ (yX ao Jm ⟨rfl,aZ (aZ (jP ?_))⟩);have tk:=GE (f:=lQ) (u:=u) j0 j1;have av:Ld (u.take j.toNat):=⟨by rw[Aw];lia,fun l h=>(I l (CK h)).s⟩;refine jZ (mX (eX _ _) (bZ (fun hb=>?_) fun hb=>dX ?_))
 .apply uL rfl tk.2
  rw[tk.1];exact ae _ C2 av Z ab
 refine jZ (mX (eX _ _) (bZ (fun ah=>?_) fun ah=>dX ?_))
 .refine ⟨y0 1 rfl,?_⟩
  apply dY (sZ (by rw[AB];show u.length+1<=1000;lia))
  rw[Jp];refine ae _ C2 ⟨by rw[AE,AO];lia,fun l h=>?_⟩ Z ab
  rcases Ad.1 h with h | h
  .exact (I l h).s
  .cases AF.1 h;exact G.s
 refine jZ (mX (eX _ _) (bZ (fun ai=>?_) fun ai=>dX ?_))
 .refine Dw fun p J=>vJ jQ ?_
  rw[<- List.map_reverse];exact ae _ _ ⟨by rw[BN];lia,fun l h=>(I l (List.mem_reverse.1 h)).s⟩ (Z.new J _) (ab.trans (Ex.new J _))
 have aw:wy=3\/wy=4\/wy=5:=by
  have:=Bc hb;have:=Bc ah;have:=Bc ai
  lia
 have ct:=GF (f:=cJ) (u:=q) (x:=[k,.inl (some c)]);have cd:=Xx (f:=cJ) (u:=q++[[k,.inl (some c)]]) (j:=1) (by decide) (by rw[AE,AO];lia)
 have au:∀(B:bX)(Cx:CH),(B.length<=38/\∀sp∈B,v8 sp)->Tp Cx t ns->Ex t C Cx->R (.tup ((u.take j.toNat).map lQ++[lQ B]++(u.drop (j+1).toNat).map lQ)) Cx:=by
  intro B Cx L Tx ex;have ar:PV.tup ((u.take j.toNat).map lQ++[lQ B]++(u.drop (j+1).toNat).map lQ)=qJ (u.take j.toNat++[B]++u.drop (j+1).toNat):=by delta qJ;rw[AS,AS];rfl
  rw[ar];refine ae _ Cx ⟨by rw[AE,AE,Aw,BE,AO];lia,fun l h=>?_⟩ Tx ex
  rcases Ad.1 h with h | h
  .rcases Ad.1 h with h | h
   .exact (I l (CK h)).s
   .cases AF.1 h;exact L
  .exact (I l (List.mem_of_mem_drop h)).s
 dsimp only[jh.wn];refine yQ (uL rfl ct.2 ?_);rw[ct.1];refine aW ⟨y0 2 rfl,⟨y0 1 rfl,dY (sZ (by rw[AB];show q.length+1<=1000;lia)) ?_⟩⟩
 apply uL rfl ct.2
 rw[ct.1];refine⟨y0 2 rfl,⟨y0 1 rfl,dY (sZ (by rw[AB];show q.length+1<=1000;lia)) ?_⟩⟩
 apply uL rfl cd.2
 rw[cd.1];refine⟨y0 2 rfl,⟨y0 1 rfl,dY (sZ (by rw[AB,BE,AE];show q.length+1 - 1+1<=1000;lia)) ?_⟩⟩;refine⟨y0 3 rfl,fun p J=>?_⟩;have ag:=Xx (f:=lQ) (u:=u) (j:=j+1) (by lia) (by lia)
 have af:∀(O:Key)(F:Int),kB O->0<=F->F<=401->∀U:bX,U.length<=37->(∀x∈U,v8 x)->(U++[[O,.inl (some F)]]).length<=38/\∀sp∈U++[[O,.inl (some F)]],v8 sp:=by
  intro O F h1 h2 h3 U h4 h5;refine⟨by rw[AE,AO];lia,fun sp hs=>?_⟩
  rcases Ad.1 hs with hs | hs
  .exact h5 sp hs
  .cases AF.1 hs;exact⟨O,F,rfl,h1,h2,h3⟩
 obtain⟨B,ho,e⟩:∃B:bX,(B.length<=38/\∀sp∈B,v8 sp)/\atI [.tup (q.map cJ++[.tup [cW k,.int (c+1)]]),.tup (q.map cJ++[.tup [.int 7,.int c]]),.tup (((q++[[k,.inl (some c)]]).drop (Int.toNat 1)).map cJ++[.tup [cW k,.int c]])] (wy - 3)=some (lQ B):=by
  rcases aw with rfl | rfl | rfl
  .exact ⟨_,af k (c+1) hk (by lia) (by lia) q (by lia) aj,by delta lQ;rw[AS];rfl⟩
  .exact ⟨_,af (.inl (some 7)) c (show Bd 7 by delta Bd;lia) (by lia) (by lia) q (by lia) aj,by delta lQ;rw[AS];rfl⟩
  .exact ⟨_,af k c hk (by lia) (by lia) ((q++[[k,.inl (some c)]]).drop (Int.toNat 1)) (by rw[BE,AE,AO];lia) (fun x L=>(G.2.2 x (List.mem_of_mem_drop L)).w),by delta lQ;rw[AS];rfl⟩
 refine jw (hZ jQ e (uL rfl tk.2 ?_));rw[tk.1];refine⟨y0 1 rfl,dY (sZ (by rw[AB,Aw];show _+1<=1000;lia)) (aW (uL rfl ag.2 ?_))⟩;rw[ag.1]
 apply dY (sZ (by rw[AE,AB,AB,Aw,BE];show _+1+_<=1000;lia))
 exact au _ _ ho (Z.new J _) (ab.trans (Ex.new J _))
end
theorem eE{α:Type}{f}: ∀{l:List α},(∀x∈l,∃n,n<=b/\Sh d n (f x))->∃n,n<=(b+2) * l.length/\La d n (l.map f)
 |[],_=>⟨0,AW _,.nil⟩
 |x::l,h =>dQ (h x AG) fun n I F=>dQ (eE fun y q=>h y (AJ _ q)) fun m G B=>⟨n+m+2,by rw[AQ,Nat.mul_succ];lia,.cons F B⟩
def Pz(h:v8 sp):∃n,n<=35/\Sh 1 n (cJ sp):=by
 obtain⟨k,c,rfl,hk,B,F⟩:=h
 have:∃n,n<=14/\Sh 0 n (cW k):=by
  rcases k with (_ | i) | z
  .exact ⟨4,by lia,.non⟩
  .have hk:Bd i:=hk
   exact⟨14,by lia,.int (by delta Bd at hk;lia)⟩
  .exact hk.elim
 exact dQ this fun n G q=>⟨n+(14+0+2)+2+3,by lia,.tup (.cons q (.cons (.int (by lia)) .nil))⟩
def PB(h:Ld v):∃n,n<=100000/\Sh 3 n (qJ v):=by
 obtain⟨n,I,F⟩:=eE (b:=1409) fun l q=>dQ (eE fun sp hs=>Pz ((h.2 l q).2 sp hs)) fun m G B=>⟨m+3,by have:=(h.2 l q).1;have:=Nat.mul_le_mul_left (35+2) this;lia,.tup B⟩;exact⟨n+3,by have:=Nat.mul_le_mul_left (1409+2) h.1;lia,.tup F⟩
def Pb.up(h:Pb d x)(F:d<=e):Pb e x:=by
 induction h generalizing e with
 |non=>exact .non
 |bl b=>exact .bl b
 |int i=>exact .int i
 |str z=>exact .str z
 |tup l _ B =>
  obtain⟨f,rfl⟩:∃f,e=f+1:=⟨e - 1,by lia⟩;exact .tup l fun t q=>B t q (by lia)
def Pb.th(h:Pb d x):Th C x:=by
 induction h with
 |non=>exact .non
 |bl b=>exact .bl b
 |int i=>exact .int i
 |str z=>exact .str z
 |tup _ _ q=>exact .tup q
def iM{α:Type}{f}{l:List α}(F:l.length<=3000000)(h:∀x∈l,Pb d (f x)):Pb (d+1) (.tup (l.map f)) :=
 .tup (by grind) fun t q=>by obtain⟨x,B,rfl⟩:=AX.1 q;exact h x B
def xA(h1:Pb d x)(h2:Pb d y):Pb (d+1) (.tup [x,y]):=.tup (show 2<=_ by decide) fun t q=>by
 rcases AZ.1 q with rfl | q
 .exact h1
 .grind
theorem Mr k:Pb 0 (cW k):=by
 rcases k with (_ | i) | x
 .exact .non
 .exact .int i
 .exact .str x
def kA(q:p.length<=500)(h:∀sp∈p,sp.length<=500):Pb 2 (lQ p):=iM (by lia) fun sp hs=>iM (by grind) fun k _=>Mr k
def Yb{cs:List (Str×Int)}(h:cs.length<=4):Pb 2 (.tup (cs.map oQ)):=iM (by lia) fun c _=>xA (.str _) (.int _)
def Rc(h:Ld v):Pb 3 (qJ v):=iM (by have:=h.1;lia) fun l q=>kA (by have:=(h.2 l q).1;lia) fun sp hs=>by
 obtain⟨k,c,rfl,_⟩:=(h.2 l q).2 sp hs;show 2<=500
 decide
def QN{hs:List o5}(h2:hs.length<=4)(I:∀x∈hs,x.ch.length<=4)(F:B.length<=500)(G:lq B):Pb 4 (.tup (hs.map (Xl B))):=iM (by lia) fun h J=>by
 refine .tup (show 5<=_ by decide) fun t q=>?_
 simp only[List.mem_cons,List.not_mem_nil,or_false] at q
 rcases q with rfl | rfl | rfl | rfl | rfl
 .exact .str _
 .exact .int _
 .exact .bl _
 .exact kA F fun sp hs=>by have:=(G sp hs).l;lia
 .refine iM (by grind) fun c _=>.tup (show 3<=_ by decide) fun t q=>?_
  simp only[List.mem_cons,List.not_mem_nil,or_false] at q
  rcases q with rfl | rfl | rfl
  .exact .str _
  .exact .str _
  .exact .int _
def v9(h:lq p):∀sp∈p,sp.length<=500:=fun sp hs=>by have:=(h sp hs).l;lia
def Tg:∀{n}{x:Bx},x.Bd->uf n x.inn->Pb (3 * n+5) x.bv:=by
 intro n
 induction n with
 |zero =>
  intro x J q;obtain⟨ab,af,ss,ae,hs,O⟩:=x;cases q;obtain⟨⟨h1,h2,F⟩,G,I⟩:=J;refine .tup (show 4<=_ by decide) fun t B=>?_
  simp only[List.mem_cons,List.not_mem_nil,or_false] at B
  rcases B with rfl | rfl | rfl | rfl
  .exact .str _
  .exact (Yb h1).up (by decide)
  .exact QN h2 F G I
  .exact .tup (AW _) fun _ z=>nomatch z
 |succ n Z =>
  intro x J q;obtain⟨ab,af,ss,ae,hs,O⟩:=x;obtain⟨⟨h1,h2,F⟩,G,I⟩:=J;have q:uf (n+1) O:=q;rw[Bx.bv,Bx.jd];refine .tup (show 4<=_ by decide) fun t B=>?_
  simp only[List.mem_cons,List.not_mem_nil,or_false] at B
  rcases B with rfl | rfl | rfl | rfl
  .exact .str _
  .exact (Yb h1).up (B3 _ _)
  .exact (QN h2 F G I).up (B3 _ _)
  .refine (iM (by have:=q.2.1;lia) fun y Y=>?_).up (AI _)
   exact oS (q.2.2 y Y) fun L S U=>xA ((kA (by have:=L.2.1;lia) (v9 L.2.2)).up (B3 _ _)) (Z S U)
def Oo(u:qd):mE (u.map lQ)=some u:=by
 induction u with
 |nil=>rfl
 |cons l u q =>
  show(match sY (lQ l),mE (u.map lQ) with | some k,some B=>some (k::B) | _,_=>none)=_;rw[pV,q]
def Uh u:XY (qJ u)=some u:=Oo u
def Ol{kvs:List (qd×PV)}{k:qd}(m:C p=some (.dA kvs))(hk:XY y=some k)(h:kvs.length<=100000)(q:Q (gQ C p (.dA (ig kvs k v)))):KG (.ref p) y v C Q:=by
 delta KG
 dsimp only;exact m▸hk▸⟨An h (by decide),q⟩
def Tt{k:qd}{Q:K1}(m:C p=some (.dA kvs))(hk:XY y=some k)(q:Q (.bl (zZ kvs k).isSome) C):Hv y (.ref p) C Q:=by
 delta Hv
 dsimp only
 rwa [m,hk]
def Tr{k:qd}(m:C p=some (.dA kvs))(hk:XY y=some k)(B:zZ kvs k=some v)(q:Q v C):Hu (.ref p) y C Q :=by simp_all[Hu]
def Vq[DecidableEq κ]{k:κ}(h:(k,v)∈L):(zZ (fu [] L) k).isSome=true:=by
 cases e:zZ (fu [] L) k with
 |none=>exact absurd h ((sC L [] k e).2 v)
 |some _=>rfl
def ZI[DecidableEq κ]L(e:κ×PV):fu [] (L++[e])=ig (fu [] L) e.1 e.2 :=by grind[fu,List.foldl_append]
theorem vD[DecidableEq κ]:∀(L acc:List (κ×PV)),(fu acc L).length<=acc.length+L.length
 |[],acc=>AI _
 |e::L,acc=>by
  have h1:=vD L (ig acc e.1 e.2);have h2:=QH acc e.1 e.2;show(fu (ig acc e.1 e.2) L).length<=_;rw[AQ]
  lia
theorem dR: ∀(es:List (qd×PV))acc C,S C->acc.length+es.length<=1000->(∀p,C p=none->Q (.ref p) (gQ C p (.lst (acc++es.map fun e=>qJ e.1))))->gM S 2 rH (zV 0) ρ Q (es.map zY) acc C
 |[],acc,C,h,_,q=>by
  rw[List.map_nil,Ae] at q;exact⟨h,q⟩
 |e::es,acc,C,h,F,q=>by
  refine⟨h,[qJ e.1,e.2],rfl,rfl,⟨An (show acc.length<=1000 by lia) (by decide),dR es _ C h (by grind) fun p B=>?_⟩⟩;have:=q p B
  rwa [A4,<- List.singleton_append,<- AR] at this
def GL{es:List (qd×PV)}(h:∀L,(∀p,∀C',C' p=some (.lst (es.map zY))->Gr C C'->L (.ref p) C')->F ρ C L)(G:es.length<=1000)(q:∀p C',C p=none->C' p=some (.lst (es.map fun e=>qJ e.1))->Gr C C'->Q (.ref p) C'):pN F rH (zV 0) ρ C Q:=by
 delta pN
 refine h _ fun p C' m g=>?_;dsimp only;rw[m];exact dR es [] C' m (by grind) fun p2 B=>q p2 _ (gD g B) (by rw[jQ,Bi]) (g.trans (Gr.new B _))
def Tp.gr(h:Tp C t ns)(g:Gr C C'):Tp C' t ns:=by
 obtain⟨⟨q,B,F,G,J⟩,I⟩:=h;exact⟨⟨q,B,F,g _ _ G,J⟩,I⟩
def Ti(x:Bx):wU x.bv=false:=by
 obtain⟨_,_,_,e⟩:=(KJ x);rw[e]
 rfl
noncomputable def xI(b:PV)(u:qd):PV:=if wU b=true then .tup [.str "none",qJ u] else .tup [.str "box",b]
abbrev RZ(ns:List Int)(t:Addr)(pts:List Pt)(xs:List Bx)(bp ff:Addr)(r:jm):jm:=some (.fz (ns.map PV.int))::some (.ref t)::some (.tup (pts.map Pt.pv))::some (.tup (Bx.f9 xs))::some (.ref bp)::some (.ref ff)::r
section
variable {W:Wd}{a:Adr}
inductive RL(ts:List PV)(C:CH)(Q:K1):Prop
 |mk(ns:List Int)(z0:ts=[.fz (ns.map PV.int)])(z1:ns.length<=63)(z2:∀C',Q (.bl true) C')
def ok_law(T:Tx W a):Ok W a 130 39 ["_law_script"] RL:=by
 have S:=(T.F 39 rfl).s;have Up:=(zj T).mono (show 1<=129 by decide);have bQ:=(mZ T).mono (show 1<=129 by decide);have We:=(Yk T).mono (show 26<=129 by decide);have Js:=(Ve T).mono (show 31<=129 by decide);have vS:=(yO T).mono (show 30<=129 by decide);have Wb:=(ZC T).mono (show 75<=129 by decide);have nP:=(Ym T 37).mono (show 38<=129 by decide);have X2:=(ZD T).mono (show 2<=129 by decide);have Wg:=(Yq T (MN T (Yi T (base:=W.base) (k:=0)))).mono (show 4<=129 by decide)
 have sP:=(Vj T 120).mono (show 123<=129 by decide)
 refine(T.F 39 rfl).ok (fun ts C R h=>?_) fun c7 A outer s H E O=>⟨_,(xQ (gn 1 S.nd (cf (T.F 17 rfl) Up O (d7 (cv 0))))
  (xQ (gn 2 S.nd (cf (T.F 32 rfl) We O (d7 (cv 1))))
  (xQ (gn 3 S.nd (cf (T.F 0 rfl) Wb O (d7 (cf (T.F 16 rfl) vS O (qQ (cv 2) (d7 (cf (T.F 35 rfl) Js O (qQ (cv 1) (d7 (cv 2))))))))))
  (xQ (gn 4 S.nd (cf (T.F 36 rfl) nP O (qQ (cv 3) (d7 (mQ oX)))))
  (xQ (gn 5 S.nd FN)
  (xQ (lD PassesOwn.never rfl (cv 4) (yP rfl (kZ (mq 6 S.nd) (kZ (mq 7 S.nd) vM))) (kQ (Fd (eA O) (cv 5) (cv 6) (cv 7))))
  (xQ (NT 8 6 7 S.nd (nQ iQ qX (pX (d7 (mQ oX))) (VO rfl (show(["_law_address","_law_box","_law_script","_law_tape_here","_law_house_here","_law_tree","_law_boxes","_law_found","?","!","_law_asked_here","_law_k","_law_due"]:List Str).Nodup by decide +kernel) (pR (N:=["_law_script","_law_tape_here","_law_house_here","_law_tree","_law_boxes","_law_found","?","!","_law_asked_here","_law_k","_law_due"]) (sc:=zX (top 59)) (L:=0) rfl rfl rfl (by decide +kernel)) (gI (cv 4) mV (bV zQ)) (fun _ _ _ _ _=>zK) (fun _ _ _ _ _=>(cv 0)))))
  (xQ (cD PassesOwn.never rfl rfl T.xV (d7 (vZ (gP rfl) fI rfl T.Wh rfl (qQ zQ (d7 (qb T.oJ (cv 4)))))) (mq 9 S.nd) (xQ (gn 6 S.nd (cx (cx (cv 4) (cf (T.F 18 rfl) bQ O (qQ (cv 1) (d7 (qb T.oJ (cv 4)))))) zQ))
  (kQ (gn 8 S.nd (nQ iQ qX (cv 8) (pX (qQ (cf (T.F 37 rfl) X2 O (qQ (cv 1) (d7 (cv 6)))) (d7 (cv 6)))))))))
  (xQ (lD PassesOwn.never rfl (cv 8) (mq 6 S.nd) (xQ (gn 10 S.nd (mQ (qQ vQ (d7 (cv 6)))))
  (xQ (uX (Z7 (Mu (eA O)) Fg (cv 6) (cv 5) rfl) (kQ (gn 10 S.nd (mQ (qQ vQ (d7 (Oc (eA O) (cv 5) (cv 6) (fun _ _=>rfl))))))) eQ)
  (kQ (uX (NP (mR (cf (T.F 34 rfl) sP O (qQ (cf (T.F 38 rfl) Wg O (qQ (cv 3) (d7 (cv 6)))) (d7 (cv 10)))))) (kQ (fQ GY)) eQ)))))
  (kQ (fQ GY))))))))))),?_⟩
 .obtain ⟨_,rfl,_⟩:=h;rfl
 rintro ts C R ⟨ns,rfl,cn,c4⟩;refine yQ ⟨ns,rfl,cn,fun t C1 ht e1 T1=>yQ ⟨t,ns,rfl,T1,fun I C2 hs T2 e2=>yQ ⟨t,I,ns,rfl,T2,hs,fun vv V C3 hV nv mv de T3 e3=>⟨I,vv,V,rfl,hs,hV,mv,fun dp C4 dd b2 g4=>?_⟩⟩⟩⟩;have nd:=Iz hs hV 6 0 _ (vV hs);obtain⟨h0,ft⟩:=Z5 hs hV;refine⟨dp,eZ I V,rfl,b2,nd,AY (Gx hs hV (vV hs)) (by decide),h0,ft,fun C5 g5=>?_⟩;have au:=(Oh 37 [] [] [] (rQ (eZ I V) []) ft (by decide) (fun _ z=>nomatch z) (by decide) (by decide) (fun _ z=>nomatch z) (fun _ z=>nomatch z)).1
 have a9:Bx.jk (lu (rQ (eZ I V)) 37 [] [] [] (rQ (eZ I V) []))<=30000:=by rw[Qa];exact ft.1
 have T5:Tp C5 t ns:=(T3.gr g4).gr g5;generalize lu (rQ (eZ I V)) 37 [] [] [] (rQ (eZ I V) [])=xs at au a9 ⊢;clear T1 T2 T3 mv b2 nd ft h0 g4 g5;refine yQ ⟨by decide,⟨xs,[],rfl,au,by decide,a9,fun F C6 c1 ax g6=>?_⟩⟩;have T6:=T5.gr g6;have b5:F≠t:=T5.ne c1;have cj:(Bx.evs [] xs).length<=30000:=by rw[bD];exact a9
 have az:=fun e G=>zP (ahead:=[]) au e G;have wk:=fun cq=>Jw cq 37 xs [] au;generalize c8:Bx.evs [] xs=q at ax cj az wk
 apply yQ
 intro ff a0;have bo:ff≠t:=T6.ne a0;have b4:F≠ff:=fun z=>by rw[z,a0] at ax;cases ax
 have T7:=T6.new a0 (.dA []);have bf:gQ C6 ff (.dA []) F=some (.lst (q.map zY)):=by rw[wQ b4];exact ax
 have bh:gQ C6 ff (.dA []) ff=some (.dA []):=jQ;generalize gQ C6 ff (.dA [])=C7 at T7 bf bh ⊢;refine vX (fun ab C'=>∃J x7,ab=RZ ns t I xs F ff [J,x7,none,none,none]/\C' F=some (.lst (q.map zY))/\C' ff=some (.dA (fu [] q))/\Tp C' t ns) (fun L0 ar=>?_) ?_
 .refine ⟨q.length+1,uU (xs:=q.map zY) (fun i ρ C'=>C' F=some (.lst (q.map zY))/\∃J x7,i<=q.length/\ρ=RZ ns t I xs F ff [J,x7,none,none,none]/\C' ff=some (.dA (fu [] (q.take i)))/\Tp C' t ns) (fun _ _ _ h=>h.1) ?_ ?_ _ 0 _ _ ⟨bf,_,_,AW _,rfl,bh,T7⟩ (by rw[AB];lia) (AW _)⟩
  .rintro i z ρ C8 Z ⟨m8,J,x7,hi,rfl,mf,T8⟩ L hL
   rw[Aq] at Z
   cases G:q[i]? with
   |none=>rw[G] at Z;cases Z
   |some e =>
   rw[G] at Z;cases Z;have ck:i < q.length:=(Ab.1 G).1;have av:=vD (q.take i) [];rw[Dl,Aw] at av;refine⟨rfl,aZ (aZ (jP (Ol mf (Uh e.1) (by lia) ?_)))⟩;rw[<- ZI];refine hL _ _ ⟨by rw[wQ b4];exact m8,_,_,ck,rfl,?_,T8.put bo _⟩;rw[jQ,DQ,G]
   rfl
  .rintro ρ C8 ⟨m8,J,x7,hi,rfl,mf,T8⟩
   rw[AB,BK (AI _)] at mf;exact ar _ _ ⟨_,_,rfl,m8,mf,T8⟩
 clear T5 T6 T7 ax bf bh a0;rintro ab C8 ⟨J,x7,rfl,a4,bj,T8⟩
 have bc:∀e∈q,e.1≠[]/\e.1.length<=37/\∀l∈e.1,qx l:=fun e G=>by
  obtain⟨u,eu,h1,h2,h3,_⟩:=az e G;rw[Bi] at eu;rw[eu];exact⟨h1,h2,h3⟩
 have br:∀e∈q,Ld e.1:=fun e G=>⟨by have:=(bc e G).2.1;lia,fun l hl=>((bc e G).2.2 l hl).s⟩;refine vX (fun ab C'=>∃(B:Addr)(as:List qd),ab=RZ ns t I xs F ff [none,none,some (.ref B),none,none]/\C' B=some (.lst (as.map qJ))/\as.length<=21/\(∀v∈as,Ld v)/\B≠t/\C' F=some (.lst (q.map zY))/\C' ff=some (.dA (fu [] q))/\Tp C' t ns) (fun L0 ar=>?_) ?_
 .delta KA Jh
  refine⟨by decide,⟨by decide,fun p1 bb=>?_⟩⟩;have g9:Gr C8 (gQ C8 p1 (.lst [.tup []])):=Gr.new bb _;have m9:gQ C8 p1 (.lst [.tup []]) p1=some (.lst [.tup []]):=jQ;generalize gQ C8 p1 (.lst [.tup []])=C9 at g9 m9 ⊢;refine GL (es:=q.take 20) (fun L hL=>?_) (by rw[Aw];lia) fun p3 a5 da ct bu=>?_
  .refine wg (g9 _ _ a4) fun p2 a3=>hL p2 _ ?_ (Gr.new a3 _)
   rw[jQ]
   have:aG (q.map zY) none (some 20)=(q.take 20).map zY:=by
    delta aG
    have e:HT.sIx (q.map zY).length (q.map zY).length (some 20)=min 20 (q.map zY).length:=rfl;rw[e,HT.sIx_none,List.drop_zero,Nat.sub_zero,List.map_take]
    rcases Nat.le_total 20 (q.map zY).length with h | h
    .rw [Nat.min_eq_left h]
    .rw [Nat.min_eq_right h,BK (AI _),BK h]
   rw[this]
  .refine XZ (bu _ _ m9) ct (sZ (by rw[AB,Aw];show 1+_<=1000;lia)) fun p4 aj=>?_
   have g:=g9.trans bu;have af:=T8.gr g;have c0:F≠p4:=fun z=>by rw[<- z,g _ _ a4] at aj;cases aj
   have c2:ff≠p4:=fun z=>by rw[<- z,g _ _ bj] at aj;cases aj
   refine ar _ _ ⟨p4,[]::(q.take 20).map (·.1),rfl,?_,by rw[AQ,AB,Aw];lia,fun v hv=>?_,af.ne aj,by rw[wQ c0];exact g _ _ a4,by rw[wQ c2];exact g _ _ bj,af.new aj _⟩
   .rw [jQ,A4,Bo]
    rfl
   .rcases AZ.1 hv with rfl | hv
    .exact ⟨by show 0<=38;decide,fun _ z=>nomatch z⟩
    .obtain ⟨e,G,rfl⟩:=AX.1 hv
     exact br e (CK G)
 clear a4 bj T8;rintro ab C9 ⟨B,as,rfl,b0,ai,ae,ao,bg,b3,T9⟩;refine vX (fun ab C'=>∃(B:Addr)(as:List qd)(J x9:Option PV),ab=RZ ns t I xs F ff [J,none,some (.ref B),x9,none]/\C' B=some (.lst (as.map qJ))/\as.length<=33/\(∀v∈as,Ld v)/\C' ff=some (.dA (fu [] q))/\Tp C' t ns) (fun L0 ar=>?_) ?_
 .refine vG bg (Yv ?_)
  rw[AB];generalize hN:(if (q.length:Int) < 6 then (q.length:Int) else 6)=N;have b9:0<=N/\N<=6/\(0 < N->0 < q.length):=by rw[<- hN];split<;>lia
  refine⟨by lia,by lia,?_⟩;refine iZ (fun zs ρ C'=>∃(B:Addr)(as:List qd)(J x9:Option PV),ρ=RZ ns t I xs F ff [J,none,some (.ref B),x9,none]/\C' B=some (.lst (as.map qJ))/\as.length+2 * zs.length<=33/\(0 < zs.length->0 < q.length)/\(∀v∈as,Ld v)/\B≠t/\C' F=some (.lst (q.map zY))/\C' ff=some (.dA (fu [] q))/\Tp C' t ns) ?_ ?_ _ _ _ ⟨B,as,_,_,rfl,b0,by rw[AB,Ak];lia,fun z=>b9.2.2 (by rw[AB,Ak] at z;lia),ae,ao,bg,b3,T9⟩
  .rintro z zs ρ a5 ⟨B,as,J,x9,rfl,ma,ai,hpos,ae,ao,mb,mf,af⟩ L hL
   have hp:=hpos (by rw[AQ];lia);rw[AQ] at ai;refine yQ (vG mb ?_);rw[AB];refine⟨t,_,ns,rfl,af,by lia,by lia,fun j ah j0 j1 b6 a6=>?_⟩
   obtain⟨e0,c9⟩:∃e0,e0∈q:=by
    cases q with
    |nil=>exact absurd hp (A7 _)
    |cons e _=>exact⟨e,AG⟩
   have b1:=a6 _ _ b5 mb
   apply hZ b1 (rK (f:=zY) (ss:=q) e0 j0 j1)
   have ba:q.getD j.toNat e0∈q:=by
    rw[Be,AM (by lia)];exact BF _
   generalize q.getD j.toNat e0=e at ba
   apply tX wX
   obtain⟨l1,l2,l3⟩:=bc e ba;have cu:=a6 _ _ ao ma;have ak:=a6 _ _ bo mf;refine⟨t,e.1,ns,rfl,b6,l1,l2,l3,fun v Y hv bq a7=>⟨y0 2 rfl,fun p1 bb=>?_⟩⟩;have cw:=a7 _ _ ao cu;have cy:=a7 _ _ b5 b1;have cz:=a7 _ _ bo ak;have aq:Gr Y (gQ Y p1 (.lst [qJ v,qJ e.1])):=Gr.new bb _;refine XZ (aq _ _ cw) jQ (sZ (by rw[AB];show _+2<=1000;lia)) fun p2 a3=>?_
   have b7:=bq.gr aq;have a8:Gr Y (gQ (gQ Y p1 (.lst [qJ v,qJ e.1])) p2 (.lst (as.map qJ++[qJ v,qJ e.1]))):=aq.trans (Gr.new a3 _);refine hL _ _ ⟨p2,as++[v,e.1],_,_,rfl,by rw[jQ,AS];rfl,by rw[AE];show _+2+_<=33;lia,fun _=>hp,fun w ag=>?_,b7.ne a3,a8 _ _ cy,a8 _ _ cz,bq.gr a8⟩
   rcases Ad.1 ag with ag | ag
   .exact ae w ag
   .rcases AZ.1 ag with rfl | ag
    .exact hv
    .cases AF.1 ag;exact br e ba
  .rintro ρ a5 ⟨B,as,J,x9,rfl,ma,ai,hpos,ae,ao,mb,mf,af⟩
   exact ar _ _ ⟨B,as,_,_,rfl,ma,by have:as.length+2 * 0<=33:=ai;lia,ae,mf,af⟩
 clear b0 ai ae ao bg b3 T9;rintro ab a5 ⟨B,as,J,x9,rfl,ma,ai,ae,mf,af⟩;refine jZ ⟨as.length+1,uU (xs:=as.map qJ) (fun i ρ C'=>C' B=some (.lst (as.map qJ))/\∃J bp,ρ=RZ ns t I xs F ff [J,none,some (.ref B),x9,bp]/\C' ff=some (.dA (fu [] q))) (fun _ _ _ h=>h.1) ?_ ?_ _ 0 _ _ ⟨ma,_,_,rfl,mf⟩ (by rw[AB];lia) (AW _)⟩
 .rintro i z ρ ah Z ⟨bz,J,bp,rfl,ak⟩ L hL
  rw[Aq] at Z
  cases G:as[i]? with
  |none=>rw[G] at Z;cases Z
  |some u =>
  rw[G] at Z;cases Z;have hu:=ae u (Ai G);obtain⟨c3,cp,c5⟩:=PB hu;obtain⟨w1,w2⟩:=wk u;rw[Bi] at w1 w2;have dc:∀v v',(u,v)∈q->(u,v')∈q->v=v':=fun v v' h h'=>(w2 v h).symm.trans (w2 v' h');refine yQ ⟨y0 2 rfl,?_⟩;generalize cb:xK (u.map lQ) .non (.tup (Bx.f9 xs))=U at w1 w2
  have cg:wU U=false->Pb 116 U:=fun h=>by
   obtain⟨_,_,_,_,_,m,x,av,h1,h2,h3⟩:=az _ (w1 h);have h3:U=x.bv:=h3;rw[h3];exact(Tg h2 h1).up (by lia)
  refine vX (fun ab C'=>ab=RZ ns t I xs F ff [some (qJ u),none,some (.ref B),x9,some (xI U u)]/\C'=ah) (fun L1 bw=>?_) ?_
  .refine Tt ak (Uh u) (bZ (fun hb=>?_) fun hb=>?_)
   .obtain ⟨v,hv⟩:=DW.1 hb
    rcases nG _ _ _ _ hv with h1 | h1
    .cases h1
    .have e:=w2 v h1
     subst e;obtain⟨_,_,_,_,_,m,x,_,_,_,h3⟩:=az _ h1
     have aw:wU U=false:=by
      have h3:U=x.bv:=h3;rw[h3];exact Ti x
     refine Tr ak (Uh u) hv ⟨y0 2 rfl,bw _ _ ⟨?_,rfl⟩⟩
     delta xI;rw[aw,Af AN]
     rfl
   .refine dX (bw _ _ ⟨?_,rfl⟩)
    have aw:wU U=true:=by
     cases e:wU U with
     |true=>rfl
     |false =>
      have av:=Vq (w1 e);rw[hb] at av;cases av
    delta xI;rw[aw,Ah rfl]
    rfl
  rintro ab ah ⟨rfl,rfl⟩
  have bt:∀(x:PV)(Y:CH),Gr ah Y->(xI U u)=x->Pb 118 x->gAl 120 [x,(xI U u)] Y (gA fun b C1=>if (!b)=true then G6 (cC (PV.bl false)) (((jh.go R).wn (G6 (cC (PV.bl true)) (jh.go R))).lp L) (RZ ns t I xs F ff [some (qJ u),none,some (.ref B),x9,some (xI U u)]) C1 else G7 (((jh.go R).wn (G6 (cC (PV.bl true)) (jh.go R))).lp L) (RZ ns t I xs F ff [some (qJ u),none,some (.ref B),x9,some (xI U u)]) C1):=by
   intro x Y ay ex px;refine⟨x,_,rfl,px.th,by rw[ex];exact px.up (by decide),fun b c6 hb aq=>?_⟩;cases hb.2 ex.symm;have g:=ay.trans aq;exact onot (dX (hL _ _ ⟨g _ _ bz,_,_,rfl,g _ _ ak⟩))
  refine⟨_,_,rfl,.tup (Bx.f9 xs),u.map lQ,3,c3,rfl,Jt au,fun l hl=>?_,c5,by decide,cp,fun Y ay=>?_⟩
  .obtain ⟨p,_,rfl⟩:=AX.1 hl
   rw[pV]
   rfl
  rw[cb];refine⟨fun aw=>⟨rfl,_,rfl,?_⟩,fun bx=>?_⟩
  .exact bt _ Y ay (by delta xI;rw[aw,Ah rfl];rfl) (xA (.str _) ((Rc hu).up (by decide)))
  .exact bt _ Y ay (by delta xI;rw[bx,Af AN]) (xA (.str _) ((cg bx).up (by decide)))
 .rintro ρ ah ⟨bz,J,bp,rfl,ak⟩
  exact c4 ah
end
theorem Xj{K:Ds}{H:Hp}:∀ns:List Int,d9 K H (ns.map V.int) (ns.map PV.int)
 |[]=>.nil
 |n::ns=>.cons (.int n) (Xj ns)
def walk{l:PySem.W.OpenLaw}{af:Program}{ae:List Str}{L:(Str->Option Value)->Heap->Prop}{B:World->Heap->Prop}{d:DefRec}{K:Params->Ds}(hn:l.most=some 63)(Y:d.params.defaults=[])(ab:d.name = "law")(U:∀(w:World)(h:Heap),B w h->(K w.params).In h)(F:∀(w:World)(mg:Str->Option Value)(h:Heap),(K w.params).In h->h.Ns mainGlobals mg->∃a:Adr,Txt l.prog w (K w.params) mg a):
  PySem.W.WalkO af ae L B l.row.toRowW d [] (fun f vs=>PySem.call f vs):=by
 refine L2.walk_of (n:=63) (k:=130) (x:="_law_script") (CX:=fun _=>CX0) (sp:=fun w=>qt (K w.params) RL) hn (by decide) Y ⟨rfl,by decide,by decide,rfl⟩ U ?_ (fun w H a ns Z S q=>?_) fun _ _ _ _ _ z=>z
 .intro w mg fa h J G I
  obtain⟨a,T⟩:=F w mg h J G;rw[ab] at I;have e:=I.symm.trans ((T.F 39 rfl).m rfl);cases e;obtain⟨_,_,_,_,_,_,_,_,_,O,_⟩:=(T.F 39 rfl).F.ex;refine⟨a.d 39,?_,fun base _ _=>ok_law (W:=⟨_,_,_,_,base⟩) T⟩;rw[O];exact fun s u=>.of_eq rfl
 .have hz:Fz (K w.params) H a (ns.map V.int):=by
   rcases q with q | q
   .rcases q with q | ⟨o,q⟩
    .rcases S a with h | ⟨o,xs,h⟩
     .rw [q] at h;cases h
     .rw [q] at h;cases h
    .exact .inl ⟨o,q⟩
   .exact .inr q
  refine⟨[.fz (ns.map PV.int)],fun _=>none,fun v _=>v=.bl true,.cons (.fz hz (Xj ns)) .nil,(fun _ _ z=>nomatch z),⟨ns,rfl,Z,fun _=>rfl⟩,?_⟩;rintro v H' t C' rfl r h' f';cases r
  rfl
end K33
open PySem PySem.W PyProof.Rows
namespace PySem.W.Fast
def Z:=trivial
def tw7680363116905692170:=Z
def tw2291186961803745060:=Z
def tw11146239551595072873:=Z
def tw12421845022544547990:=Z
def tw12282417296867923284:=Z
def tw1178240958591023545:=Z
def tw151870025139689789:=Z
def tw15640041061981443631:=Z
def tw15228011638005806935:=Z
def tw16299893323787148268:=Z
def tw6449495410536053409:=Z
def tw4054640719026279879:=Z
def tw10627470322639389848:=Z
def tw12989225049932000283:=Z
def tw1331479037455330834:=Z
def tw14347680055371239543:=Z
def tw14166595197231495297:=Z
def tw2268775398479997352:=Z
def tw1755471967069775511:=Z
def tw9441962990405855132:=Z
def tw6189137519151665342:=Z
def tw4618650321198805805:=Z
def tw4282946306786086965:=Z
def tw10864329576448219837:=Z
def tw5915219608497347064:=Z
def tw8050702292488086305:=Z
def tw3655373512318415662:=Z
def tw18257962873725931478:=Z
def tw381054258714129624:=Z
def tw17979245434294773099:=Z
def tw2260289300821609598:=Z
def tw7275595781085762359:=Z
def tw3554370406502300501:=Z
def tw304143288152514515:=Z
def tw2443445664827668038:=Z
def tw147466480423705880:=Z
def tw3173104838437367551:=Z
def tw9651690085878224223:=Z
def tw134756852426851263:=Z
def tw4153385092428593112:=Z
def tw13808210962158059449:=Z
def tw4107279268018137396:=Z
def tw10256097917241484890:=Z
def tw5189470690169596956:=Z
def tw15852782332318811261:=Z
def tw9807259284693088902:=Z
def tw133398035428874432:=Z
def tw11213977362120867461:=Z
def tw1061750924756306749:=Z
def tw10018138295968636684:=Z
def tw12465915239800141941:=Z
def tw6732610930839790900:=Z
def tw7860699935650895455:=Z
def tw15771076240158379161:=Z
def tw9723968026685829332:=Z
def tw260429399254929626:=Z
def tw18098243230376399774:=Z
def tw11000313660282691304:=Z
def tw16631264140866938370:=Z
def tw6226432535033721566:=Z
def tw11271811099700167105:=Z
def tw2387974576469992651:=Z
def tw6363078203580236358:=Z
def tw15378941508904675370:=Z
def tw13080102178726829618:=Z
def tw17451772369110637742:=Z
def tw13972923283419713484:=Z
def tw3931631556629121103:=Z
def tw17966544439741100846:=Z
def tw833355535550120032:=Z
def tw3025107180485069357:=Z
def tw12775590936907178880:=Z
def tw10875751135154483175:=Z
def tw6642747708330142201:=Z
def tw5571927445892536201:=Z
def tw9209390369323814877:=Z
def tw7733629702321950697:=Z
def tw7448298771391212756:=Z
def tw931016898623610212:=Z
def tw13171531976726572620:=Z
def tw7193696483579373272:=Z
def tw15247401066467788055:=Z
def tw3719005110003285478:=Z
def tw2789049911566283743:=Z
def tw13304142529354969412:=Z
def tw18081301589187317329:=Z
def tw9286364882728499226:=Z
def tw2436679207225818727:=Z
def tw8147774677286246631:=Z
def tw18251114487517666398:=Z
def tw291350783112924123:=Z
def tw14342339939117074098:=Z
def tw8589465434321118512:=Z
def tw697126921768054146:=Z
def tw12633353070463692579:=Z
def tw9295341120253352447:=Z
def tw3378289052517696301:=Z
def tw4149288236379290707:=Z
def tw9599064919065040366:=Z
def tw16957118787659235815:=Z
def tw10044392486060014187:=Z
def tw18130419744561847256:=Z
def tw16655157009733811689:=Z
def tw14116534357439487765:=Z
def tw16015914484979946241:=Z
def tw8513664391413689403:=Z
def tw18435570721000293454:=Z
def tw15829766258276088157:=Z
def tw12253692514758322434:=Z
def tw11747461870871403428:=Z
def tw10857401178285521359:=Z
def tw6803785132899798409:=Z
def tw17489517154628401584:=Z
def tw6229722185558798231:=Z
def tw11900577137424083783:=Z
def tw10177704388846477033:=Z
def tw1027271191297707963:=Z
def tw10360914536909131902:=Z
def tw10502374763628973471:=Z
def tw10545988066171587517:=Z
def tw10565219873885663496:=Z
def tw10712359363846718515:=Z
def tw10727954766710962127:=Z
def tw1073939989061848141:=Z
def tw10783331876587777831:=Z
def tw10805450255544775461:=Z
def tw10905827983120408507:=Z
def tw11029313504257728203:=Z
def tw11065108105173812594:=Z
def tw11145974852046424542:=Z
def tw11425896659949118549:=Z
def tw1172343341739266038:=Z
def tw11753481246039103463:=Z
def tw11826820837034724870:=Z
def tw11859630636711171449:=Z
def tw1196043919825640998:=Z
def tw11982054714646271295:=Z
def tw12076343151207597134:=Z
def tw12099706209128335480:=Z
def tw12206315610177847736:=Z
def tw12288521723965041234:=Z
def tw12374995358751638319:=Z
def tw1257507746887595829:=Z
def tw12607917397654967968:=Z
def tw12715731630428131229:=Z
def tw1272771771293807318:=Z
def tw12791291207369202775:=Z
def tw12811372180532092551:=Z
def tw12855290468920918505:=Z
def tw12912088740801780801:=Z
def tw12947740967741928568:=Z
def tw12994790364629781131:=Z
def tw13126855127992694577:=Z
def tw13127830222414202225:=Z
def tw13280894098244764967:=Z
def tw13418321209218650845:=Z
def tw13442489600751313130:=Z
def tw13475194093515660050:=Z
def tw13716922010468310198:=Z
def tw13838293092393377594:=Z
def tw13848682464853725265:=Z
def tw13892411179945441105:=Z
def tw13901954901071812194:=Z
def tw13920293659325667628:=Z
def tw14011961192605438963:=Z
def tw14072815657654700516:=Z
def tw14119061836858996398:=Z
def tw14162226909181050392:=Z
def tw14163979740229218556:=Z
def tw14168283233906202771:=Z
def tw14190287360009415094:=Z
def tw14237785820447034820:=Z
def tw14337889605295400585:=Z
def tw14391749176245482629:=Z
def tw14596850925014813890:=Z
def tw14657462219608548043:=Z
def tw14800653721663408626:=Z
def tw14919382126672150800:=Z
def tw14920207897709624430:=Z
def tw1500378403211343200:=Z
def tw15087252858404209057:=Z
def tw15311790757853051741:=Z
def tw15398275979058806349:=Z
def tw15466249619146656408:=Z
def tw15531703448963543109:=Z
def tw15550838039655973230:=Z
def tw15559792463353602524:=Z
def tw15570622786148827727:=Z
def tw15612603230801194368:=Z
def tw15625798328882602098:=Z
def tw15752456722918228299:=Z
def tw15870666070486382308:=Z
def tw15944803446761591095:=Z
def tw16437952263881873894:=Z
def tw16551164522710571647:=Z
def tw16654377230703967168:=Z
def tw16674703278893118875:=Z
def tw16825942706384502721:=Z
def tw16860248668532745800:=Z
def tw16985106540776578131:=Z
def tw17076300698248339713:=Z
def tw17160091937080765526:=Z
def tw17215947278316106544:=Z
def tw17222525356282683619:=Z
def tw17308710275659320656:=Z
def tw17321415757240262482:=Z
def tw17398917717600081529:=Z
def tw17414373551645929905:=Z
def tw17501588909624291852:=Z
def tw17655785395382712375:=Z
def tw17785888471420393030:=Z
def tw18046874084038191357:=Z
def tw18067744513791352239:=Z
def tw18112932287692521456:=Z
def tw18146199374316109633:=Z
def tw18160834812272293717:=Z
def tw18183066342976498662:=Z
def tw2046817053219259706:=Z
def tw2068359176795727092:=Z
def tw2119698942832126992:=Z
def tw2141224660046621734:=Z
def tw214276230196512294:=Z
def tw2184195416974894418:=Z
def tw2300882361659742235:=Z
def tw2308410840667778085:=Z
def tw2344803534124003548:=Z
def tw2631062115635874426:=Z
def tw2971009221400731164:=Z
def tw301728755424151897:=Z
def tw3017618894650476707:=Z
def tw3089005631068440260:=Z
def tw3187857156854181746:=Z
def tw3380648778956235533:=Z
def tw3676393257100798592:=Z
def tw37404436972714879:=Z
def tw3741948039088014875:=Z
def tw3878200850870690537:=Z
def tw3910344159148790018:=Z
def tw4004928017275010344:=Z
def tw4008208264032623323:=Z
def tw4059958185743412392:=Z
def tw4095416091943937503:=Z
def tw4096322505210794782:=Z
def tw4099082293669495528:=Z
def tw428877097398407659:=Z
def tw4352299558823265352:=Z
def tw440364192899280691:=Z
def tw4468877198100857648:=Z
def tw4675483049761237191:=Z
def tw468879198673979575:=Z
def tw4758417513601353584:=Z
def tw4766891599820937890:=Z
def tw4847081293511438757:=Z
def tw4990455779803957142:=Z
def tw4998863875039279431:=Z
def tw5032337675412968600:=Z
def tw5302281141705508502:=Z
def tw5402186815803770954:=Z
def tw5422214405977573894:=Z
def tw5437425843058099698:=Z
def tw5545205774635647430:=Z
def tw5549609223313622538:=Z
def tw5592572118249465328:=Z
def tw5656704828173023511:=Z
def tw5738923299893775762:=Z
def tw5771652955713318189:=Z
def tw578699909971676806:=Z
def tw5877151026663404852:=Z
def tw5920899818003263887:=Z
def tw5947922156211483140:=Z
def tw6000190770805574582:=Z
def tw6106932181986068392:=Z
def tw6109229997863167320:=Z
def tw6129344742685755215:=Z
def tw6136458158315094720:=Z
def tw615199642340470231:=Z
def tw6285556552690312750:=Z
def tw6346191745638143318:=Z
def tw6395933698879336072:=Z
def tw64432310227411991:=Z
def tw6493903855200845859:=Z
def tw6509723154174552737:=Z
def tw652778294757732284:=Z
def tw6556384835170657815:=Z
def tw6591657406425461414:=Z
def tw6669239687642120864:=Z
def tw6701618110339823395:=Z
def tw6790615639525891681:=Z
def tw6821266005922531915:=Z
def tw6976930864752028596:=Z
def tw7098246516113477254:=Z
def tw7167180079517701088:=Z
def tw7256292905319275620:=Z
def tw7365434646939423609:=Z
def tw7428755344034993836:=Z
def tw7760778068843352799:=Z
def tw7850537626137780560:=Z
def tw7859659954775968059:=Z
def tw7997198928210124190:=Z
def tw8150433159798772635:=Z
def tw8349909517059979525:=Z
def tw8373961330312291163:=Z
def tw846524844080215981:=Z
def tw8669881025026512390:=Z
def tw8800170509820288619:=Z
def tw8927590986275093790:=Z
def tw901831634707328102:=Z
def tw9128440524246328351:=Z
def tw9179659778097285038:=Z
def tw9394840742549988359:=Z
def tw9716679788109409368:=Z
def tw9722948147776957966:=Z
def tw9864874601881895838:=Z
def tw9903956099875399043:=Z
end PySem.W.Fast
set_option maxRecDepth 100000 in
set_option maxHeartbeats 0 in
theorem PySem.Challenge.cw_viewwood_k33_boxes_found_holds : PySem.Challenge.rw_viewwood_k33_boxes_found.Holds := by
 w_on;o_law;k_head;(case hw=>w_witness2)
 k_fill
 refine K33.walk (l:=PySem.Challenge.rw_viewwood_k33_boxes_found) rfl rfl rfl (fun w h Y=>PySem.W.kIn_of Y) ?F
 case F =>
  intro w mg h KX G;refine K33.txt_mk KX G ?_ (by first | k_is | rfl) (by first | k_is | rfl) (by first | k_is | rfl) (by first | k_is | rfl) (by first | k_is | rfl) (by first | k_is | rfl) (by first | k_is | rfl) (by first | k_is | rfl) (by first | k_is | rfl) (by first | k_is | rfl) (by first | k_is | rfl) (by first | k_is | rfl) (by first | k_is | rfl) (by first | k_is | rfl) (by first | k_is | rfl) (by first | k_is | rfl) (by first | k_is | rfl) (by first | k_is | rfl) (by first | k_is | rfl) (by first | k_is | rfl) (by first | k_is | rfl) (by first | k_is | rfl) (by first | k_is | rfl) (by first | k_is | rfl) (by first | k_is | rfl) (by first | k_is | rfl) (by first | k_is | rfl) (by first | k_is | rfl) (by first | k_is | rfl) (by first | k_is | rfl) (by first | k_is | rfl) (by first | k_is | rfl) (by first | k_is | rfl) (by first | k_is | rfl) (by first | k_is | rfl) (by first | k_is | rfl) (by first | k_is | rfl) (by first | k_is | rfl) (by first | k_is | rfl) (by first | k_is | rfl) (by first | k_is | rfl) (by first | k_is | rfl) (by first | k_is | rfl) (by first | k_is | rfl) (by first | k_is | rfl) (by first | k_is | rfl) (by first | k_is | rfl) (by first | k_is | rfl) (by first | k_is | rfl) (by first | k_is | rfl) (by first | k_is | rfl) (by first | k_is | rfl) (by first | k_is | rfl) (by first | k_is | rfl) (by first | k_is | rfl) (by first | k_is | rfl) (by first | k_is | rfl) (by first | k_is | rfl) (by first | k_is | rfl) (by first | k_is | rfl) (by first | k_is | rfl) (by first | k_is | rfl) (by first | k_is | rfl) (by first | k_is | rfl) (by first | k_is | rfl) (by first | k_is | rfl) (by first | k_is | rfl) (by first | k_is | rfl) (by first | k_is | rfl) (by first | k_is | rfl) (by first | k_is | rfl) (by first | k_is | rfl) (by first | k_is | rfl) (by first | k_is | rfl) (by first | k_is | rfl) (by first | k_is | rfl) (by first | k_is | rfl) (by first | k_is | rfl) (by first | k_is | rfl) (by first | k_is | rfl) (by first | k_is | rfl) (by first | k_is | rfl) (by first | k_is | rfl) (by first | k_is | rfl) (by first | k_is | rfl) (by first | k_is | rfl) (by first | k_is | rfl) (by first | k_is | rfl) (by first | k_is | rfl) (by first | k_is | rfl) (by first | k_is | rfl) (by first | k_is | rfl) (by first | k_is | rfl) (by first | k_is | rfl) (by first | k_is | rfl) (by first | k_is | rfl)
  unfold K33.tab
  repeat first | refine⟨⟨_,_,_,_,_,_,_,_,_,_,by k_is,by k_is,by k_is,by k_is⟩,?_⟩ | refine⟨⟨_,_,_,_,_,_,_,_,_,_,_,by k_is,by k_is,by k_is,by k_is,by k_is,by k_is⟩,?_⟩
  exact trivial
