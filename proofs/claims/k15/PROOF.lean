import PyProof.Rows.All
import Wide.All
import OpenK.AllK
import Wide.FinOn
import Lean
import PyProof.EqAt
import PyProof.EqKinds
import PyProof.TupleCall
import PyProof.DictUpdate
import KE.KDictOf
import PyProof.AttrMissHeap
import KE.KSortTup
import KE.KItemsList
import PyProof.DictWalks
import PyProof.Rows.TupDisplay
import KE.KEqDict
import PyProof.NeKinds
import KE.KRevIter
import PyProof.ListRange
import PyProof.MeetsStr
import PyProof.StrLawsJoin
import PyProof.FitsInt
import PyProof.ZipIter
import KE.KDictSum
import PyProof.ExcBaseAll.ValueError
import PyProof.FString
import PyProof.RaisesMany
import PyProof.RulesDel
import PyProof.RulesAs
import KE.KTryMore
import PyProof.ExcArgs
import PyProof.ReprNest
import PyProof.ReprReads
import PyProof.StrCalls2
import PyProof.EnumMake
import KE.KIntText
import PyProof.AutoSeq1
import PyProof.StrLawsTight
import PyProof.StrLawsOcc
import PyProof.StrLawsIdx
import PyProof.StrLawsIn
import PySem.Challenge.RW_viewwood_k15_rows_of_no_house
noncomputable section
set_option genSizeOf false
set_option bootstrap.genMatcherCode false
set_option compiler.extract_closed false
set_option compiler.maxRecSpecialize 0
section variable{p q r s t o g:Prop}
def lL(h:p/\q)(k:p->q->g):g:=by obtain⟨B,J⟩:=h;exact k B J
def Yl(h:p/\q/\r)(k:p->q->r->g):g:=by obtain⟨B,J,L⟩:=h;exact k B J L
def zu(h:p/\q/\r/\s)(k:p->q->r->s->g):g:=by obtain⟨B,J,L,O⟩:=h;exact k B J L O
def KN(h:p/\q/\r/\s/\t)(k:p->q->r->s->t->g):g:=by obtain⟨B,J,L,O,U⟩:=h;exact k B J L O U
def mR(h:p/\q/\r/\s/\t/\o)(k:p->q->r->s->t->o->g):g:=by obtain⟨B,J,L,O,U,Y⟩:=h;exact k B J L O U Y
end
section variable{A:Sort _}{p q r s t:A->Prop}{g:Prop}
def Yk(h:∃a,p a)(k:∀a,p a->g):g:=by obtain⟨a,q⟩:=h;exact k a q
def oX(h:∃a,p a/\q a)(k:∀a,p a->q a->g):g:=by obtain⟨a,B,J⟩:=h;exact k a B J
def oK(h:∃a,p a/\q a/\r a)(k:∀a,p a->q a->r a->g):g:=by obtain⟨a,B,J,L⟩:=h;exact k a B J L
def Le(h:∃a,p a/\q a/\r a/\s a)(k:∀a,p a->q a->r a->s a->g):g:=by obtain⟨a,B,J,L,O⟩:=h;exact k a B J L O
def KM(h:∃a,p a/\q a/\r a/\s a/\t a)(k:∀a,p a->q a->r a->s a->t a->g):g:=by obtain⟨a,B,J,L,O,U⟩:=h;exact k a B J L O U
end
section variable{A B:Sort _}{p q r s t o m:A->B->Prop}{g:Prop}
def QF(h:∃a b,p a b)(k:∀a b,p a b->g):g:=by obtain⟨a,b,q⟩:=h;exact k a b q
def mM(h:∃a b,p a b/\q a b)(k:∀a b,p a b->q a b->g):g:=by obtain⟨a,b,J,L⟩:=h;exact k a b J L
def rZ(h:∃a b,p a b/\q a b/\r a b)(k:∀a b,p a b->q a b->r a b->g):g:=by obtain⟨a,b,J,L,O⟩:=h;exact k a b J L O
def Xd(h:∃a b,p a b/\q a b/\r a b/\s a b)(k:∀a b,p a b->q a b->r a b->s a b->g):g:=by obtain⟨a,b,J,L,O,U⟩:=h;exact k a b J L O U
def P0(h:∃a b,p a b/\q a b/\r a b/\s a b/\t a b)(k:∀a b,p a b->q a b->r a b->s a b->t a b->g):g:=by obtain⟨a,b,J,L,O,U,Y⟩:=h;exact k a b J L O U Y
def PX(h:∃a b,p a b/\q a b/\r a b/\s a b/\t a b/\o a b)(k:∀a b,p a b->q a b->r a b->s a b->t a b->o a b->g):g:=by obtain⟨a,b,J,L,O,U,Y,Z⟩:=h;exact k a b J L O U Y Z
def Ti(h:∃a b,p a b/\q a b/\r a b/\s a b/\t a b/\o a b/\m a b)(k:∀a b,p a b->q a b->r a b->s a b->t a b->o a b->m a b->g):g:=by obtain⟨a,b,J,L,O,U,Y,Z,x6⟩:=h;exact k a b J L O U Y Z x6
end
section variable{A B C:Sort _}{p q r s t o:A->B->C->Prop}{g:Prop}
def PQ(h:∃a b c,p a b c)(k:∀a b c,p a b c->g):g:=by obtain⟨a,b,c,q⟩:=h;exact k a b c q
def Ld(h:∃a b c,p a b c/\q a b c)(k:∀a b c,p a b c->q a b c->g):g:=by obtain⟨a,b,c,J,L⟩:=h;exact k a b c J L
def bF(h:∃a b c,p a b c/\q a b c/\r a b c)(k:∀a b c,p a b c->q a b c->r a b c->g):g:=by obtain⟨a,b,c,J,L,O⟩:=h;exact k a b c J L O
def yZ(h:∃a b c,p a b c/\q a b c/\r a b c/\s a b c)(k:∀a b c,p a b c->q a b c->r a b c->s a b c->g):g:=by obtain⟨a,b,c,J,L,O,U⟩:=h;exact k a b c J L O U
def PP(h:∃a b c,p a b c/\q a b c/\r a b c/\s a b c/\t a b c)(k:∀a b c,p a b c->q a b c->r a b c->s a b c->t a b c->g):g:=by obtain⟨a,b,c,J,L,O,U,Y⟩:=h;exact k a b c J L O U Y
def PN(h:∃a b c,p a b c/\q a b c/\r a b c/\s a b c/\t a b c/\o a b c)(k:∀a b c,p a b c->q a b c->r a b c->s a b c->t a b c->o a b c->g):g:=by obtain⟨a,b,c,J,L,O,U,Y,Z⟩:=h;exact k a b c J L O U Y Z
end
section variable{A B C D:Sort _}{p q r s t o:A->B->C->D->Prop}{g:Prop}
def PL(h:∃a b c d,p a b c d/\q a b c d)(k:∀a b c d,p a b c d->q a b c d->g):g:=by obtain⟨a,b,c,d,J,L⟩:=h;exact k a b c d J L
def Tg(h:∃a b c d,p a b c d/\q a b c d/\r a b c d)(k:∀a b c d,p a b c d->q a b c d->r a b c d->g):g:=by obtain⟨a,b,c,d,J,L,O⟩:=h;exact k a b c d J L O
def Yj(h:∃a b c d,p a b c d/\q a b c d/\r a b c d/\s a b c d/\t a b c d)(k:∀a b c d,p a b c d->q a b c d->r a b c d->s a b c d->t a b c d->g):g:=by obtain⟨a,b,c,d,J,L,O,U,Y⟩:=h;exact k a b c d J L O U Y
def Tf(h:∃a b c d,p a b c d/\q a b c d/\r a b c d/\s a b c d/\t a b c d/\o a b c d)(k:∀a b c d,p a b c d->q a b c d->r a b c d->s a b c d->t a b c d->o a b c d->g):g:=by obtain⟨a,b,c,d,J,L,O,U,Y,Z⟩:=h;exact k a b c d J L O U Y Z
end
set_option Elab.async false
set_option linter.all false
set_option maxRecDepth 100000
set_option maxHeartbeats 4000000
theorem gf{p:Prop}(h:p:=by decide +kernel):p:=h
theorem Th{p:Prop}(h:p:=by decide):p:=h
theorem ir{p:Prop}(h:p:=by lia):p:=h
theorem ue{p:Prop}(h:p:=by simp):p:=h
def y0(n:Nat)(h:n.ble 99=true):n<=PySem.sizeLine:=Nat.le_trans (Nat.le_of_ble_eq_true h) Th
abbrev AA:=@List.length_map
abbrev AB:=@List.length_append
abbrev AC:=@PySem.wpAny_bind
abbrev AD:=@List.length_cons
abbrev AE:=@Nat.lt_of_lt_of_le
abbrev AF:=@Nat.zero_le
abbrev AG:=@List.map_append
abbrev AH:=@List.mem_cons_of_mem
abbrev AI:=@List.append_assoc
abbrev AJ:=@List.getElem?_eq_getElem
abbrev AK:=@Nat.le_trans
abbrev AL:=@List.mem_cons_self
abbrev AM:=@List.append_nil
abbrev AN:=@PySem.wpAny_pure
abbrev AO:=@PySem.Heap.get?_push_of_some
abbrev AQ:=@Nat.le_refl
abbrev AR:=@List.mem_singleton
abbrev AS:=@PySem.Heap.lt_size
abbrev AU:=@decide_eq_true
abbrev AV:=@Bool.false_ne_true
abbrev AW:=@decide_eq_false
abbrev AX:=@List.mem_map
abbrev AY:=@List.mem_append
abbrev AZ:=@List.cons.inj
abbrev Aa:=@List.getElem?_eq_some_iff
abbrev Ab:=@Bool.true_and
abbrev Ac:=@PySem.W.mg_of
abbrev Ad:=@PySem.Heap.get?_push_size
abbrev Ae:=@PySem.F.plainAttrs_list
abbrev Af:=@of_decide_eq_true
abbrev Ag:=@List.getElem?_map
abbrev Ah:=@List.mem_cons
abbrev Ai:=@Nat.ne_of_lt
abbrev Aj:=@List.map_map
abbrev Ak:=@List.mem_of_getElem?
abbrev Al:=@List.all_append
abbrev Am:=@PySem.wpAny_ite_split
abbrev An:=@Nat.add_zero
abbrev Ao:=@Bool.and_true
abbrev Ap:=@List.mem_append_left
abbrev Aq:=@Bool.and_eq_true
abbrev Ar:=@List.length_replicate
abbrev As:=@PySem.W.mg_none_of
abbrev Au:=@PySem.Heap.get?_update_other
abbrev Av:=@Option.some.inj
abbrev Aw:=@List.size_toArray
abbrev Ax:=@List.length_range
abbrev Ay:=@List.mem_append_right
abbrev Az:=@List.drop_eq_getElem_cons
abbrev A0:=@List.length_nil
abbrev A1:=@PySem.wpAny_truthy_bool
abbrev A2:=@Bool.and_false
abbrev A3:=@Nat.lt_succ_self
abbrev A4:=@if_pos
abbrev A5:=@List.map_cons
abbrev A6:=@List.length_singleton
abbrev A7:=@if_neg
abbrev A8:=@List.cons_append
abbrev A9:=@congrArg
abbrev BA:=@PySem.wpAny_mono
abbrev BB:=@PySem.call_meets
abbrev BC:=@List.flatMap_append
abbrev BD:=@PySem.F.type_list_pop
abbrev BE:=@PySem.F.slot_list_pop
abbrev BF:=@PySem.wpAny_holding
abbrev BG:=@PySem.W.kia_one
abbrev BH:=@List.nil_append
abbrev BI:=@of_decide_eq_false
abbrev BJ:=@List.getElem_mem
abbrev BK:=@List.getElem?_set_ne
abbrev BL:=@List.dropLast_concat
abbrev BM:=@List.all_eq_true
abbrev BN:=@List.any_cons
abbrev BO:=@List.take_of_length_le
abbrev BP:=@Array.getElem?_eq_some_iff
abbrev BQ:=@PySem.F.type_list_extend
abbrev BR:=@PySem.F.slot_list_extend
abbrev BS:=@List.all_cons
abbrev BU:=@Int.toNat_natCast
abbrev BV:=@Nat.zero_add
abbrev BW:=@List.mem_flatMap
abbrev BX:=@PySem.wpAny_Call_Name_kw
abbrev BY:=@List.mem_range
abbrev BZ:=@List.getElem?_append_right
abbrev Ba:=@PySem.Heap.size_push
abbrev Bb:=@PySem.F.slot_dict_get
abbrev Bc:=@List.concat_eq_append
abbrev Be:=@PySem.Heap.get?_update_self
abbrev Bf:=@List.nodup_cons
abbrev Bg:=@Nat.lt_irrefl
abbrev Bh:=@List.length_eq_zero_iff
abbrev Bi:=@Nat.lt_of_le_of_lt
abbrev Bj:=@Int.emod_lt_of_pos
abbrev Bk:=@PySem.wpAny_passesOwn
abbrev Bl:=@PySem.wpAny_standAt
abbrev Bm:=@PySem.wpAny_newObj_type
abbrev Bn:=@PyProof.Rows.callWith_type1
abbrev Bo:=@PySem.wpAny_load
abbrev Bp:=@PySem.typeIs_str
abbrev Bq:=@PySem.F.slot_NoneType_hash
abbrev Br:=@List.nodup_nil
abbrev Bs:=@PySem.codeAny_mono
abbrev Bt:=@PySem.mem_of_lookup
abbrev Bu:=@List.length_reverse
abbrev Bv:=@Array.length_toList
abbrev Bw:=@PySem.wpAny_specialOf
abbrev Bx:=@PySem.wpAny_execs_nil
abbrev By:=@PySem.wpAny_dictEpoch
abbrev Bz:=@Int.emod_nonneg
abbrev B0:=@PySem.wpAny_call
abbrev B3:=@PySem.tupleKind_room_in1
abbrev B4:=@PySem.W.callWith_K
abbrev B5:=@PySem.W.Looks.here
abbrev B6:=@PySem.Calls.spliced_cons
abbrev B7:=@PySem.wpAny_getItem_str_slice
abbrev B8:=@PySem.F.args_dict_get_3
abbrev B9:=@Nat.le_succ
abbrev CC:=@PySem.wpAny_loadPart_at
abbrev CD:=@PySem.eqIsQuiet_byValue
abbrev CJ:=@PySem.F.slot_bool_hash
abbrev CK:=@PySem.F.entry_dict_get
abbrev CM:=@Nat.ne_of_gt
abbrev CN:=@List.reverse_cons
abbrev CP:=@List.nodup_append
abbrev CQ:=@PySem.Calls.callWith_builtin
abbrev CU:=@PySem.plainObj_wpAny_Assign_Attribute
abbrev CV:=@PyProof.Rows.slot_tuple_getitem
abbrev CY:=@PySem.wpAny_call_entry
abbrev CZ:=@List.length_take
abbrev Ca:=@List.drop_length
abbrev Cb:=@PySem.F.slot_tuple_mul
abbrev Cc:=@PySem.wpAny_field
abbrev Cd:=@PySem.sizeLine_eq
abbrev Ce:=@PySem.lookup_relabel_local
abbrev Cf:=@PySem.W.looks_mroIn
abbrev Cg:=@PySem.codeAny_call_builtin
abbrev Ci:=@Nat.not_lt_zero
abbrev Cj:=@List.length_set
abbrev Ck:=@List.replicate_succ
abbrev Cm:=@PySem.F.excBase_ValueError
abbrev Cn:=@List.mem_replicate
abbrev Co:=@Bool.false_and
abbrev Cp:=@List.pairwise_iff_getElem
abbrev Cq:=@List.getElem?_append_left
abbrev Cr:=@Nat.lt_succ_of_lt
abbrev Cs:=@PySem.F.args_tuple_add_2
abbrev Ct:=@Nat.add_assoc
abbrev Cu:=@PySem.wpAny_forIn_list
abbrev Cv:=@PySem.F.entry_tuple_add
abbrev Cw:=@List.take_length
abbrev Cy:=@PySem.F.slot_str_split
abbrev Cz:=@PyProof.Rows.F.plain_set_update_loop
abbrev DA:=@PySem.wpAny_rule
abbrev DB:=@PySem.F.slot_tuple_add
abbrev DC:=@Nat.lt_or_ge
abbrev DD:=@Nat.le_of_eq
abbrev DE:=@List.getElem?_set_self
abbrev DF:=@PySem.post_val_or_str
abbrev DG:=@List.mem_filter
abbrev DH:=@PySem.F.slot_int_rmul
abbrev DI:=@PySem.wpAny_callSpecialIfBoundUnlessNone?_slot
abbrev DJ:=@PySem.W.methodCall_KW
abbrev DK:=@List.mem_iff_getElem?
abbrev DL:=@Array.getElem?_toList
abbrev DM:=@PySem.wpAny_loadPart
abbrev DN:=@PySem.SeqAt.EqAt.bool_bool
abbrev DO:=@PySem.Calls.evalArgs_plain
abbrev DP:=@Array.mem_toList_iff
abbrev DQ:=PySem.W.Frag
namespace PySem
open Sem (wp)
section
variable{prog:Program}{w:World}{K:Type}[DecidableEq K](knd:KeyKind prog w K)
variable{knd}
variable{A:Around}{E:Value->Shared->Prop}{s:Shared}
def QD n(J:IsTupleKey knd s.heap ks a)(h:Q true s):wpAny (model prog w) A (eqIsQuiet (n+1) (.ref a)) Q E s:=by
 have q:=J.typeIs;refine yZ J λo items m U _ O hi=>?_
 (unfold eqIsQuiet;refine AC (Bw q F.slot_tuple_eq.lookup ?_))
 (refine AC (wpAny_isInstance q isSubtype_tuple_tuple ?_))
 (refine AC (wpAny_seqItems U O (AC ?_)))
 (rw[<- Array.forIn_toList])
 refine Cu _ (λdX r s'=>r.1=none/\s'=s/\∀v∈dX,carriedByValue v=true) _ ?_ ?_ _ _ ⟨rfl,rfl,hi.byValue⟩
 .rintro v dX r s' ⟨L,rfl,B⟩
  (rw[CD _ (B v AL)];refine AC (AN ?_))
  (exact AN ⟨rfl,rfl,λu Y=>B u (AH _ Y)⟩)
 .rintro ⟨Z,r2⟩ s' ⟨L,rfl,_⟩
  (subst L;exact AN h)
end
end PySem
namespace L2
open PySem PySem.Spec PyProof.Rows
abbrev Key:=Sum (Option Int) Str
def Jk:Value->Bool
 |.none=>true
 |_=>false
noncomputable def eC:Key->Value->Bool
 |.inl (some k),v=>Value.isInt k v
 |.inl none,v=>Jk v
 |.inr x,v=>Value.isStrOf x v
noncomputable def keyH(w:World):Key->Int
 |.inl (some k)=>hashInt k
 |.inl none=>4238894112
 |.inr x=>hashStr w x
def rS(h:Jk v=true):v=.none:=by
 cases v<;>first|rfl|cases h
theorem fJ:∀{k}{v},eC k v=true->(∃i t,k=Sum.inl (some i)/\v=Value.int i t)\/(∃x t,k=Sum.inr x/\v=Value.str x t)\/(k=Sum.inl none/\v=Value.none)
 |.inl (some i),v,h=>by
  obtain⟨t,e⟩:=Value.isInt_shape h;exact .inl ⟨i,t,rfl,e⟩
 |.inl none,v,h=>.inr (.inr ⟨rfl,rS h⟩)
 |.inr x,v,h=>by
  obtain⟨t,e⟩:=Value.isStrOf_shape h;exact .inr (.inl ⟨x,t,rfl,e⟩)
def KA i t:eC (.inl (some i)) (.int i t)=true:=by simp[eC,Value.isInt]
def uU x t:eC (.inr x) (.str x t)=true:=by simp[eC,Value.isStrOf]
def Ig a b:decide ((Sum.inl (some a):Key)=Sum.inl (some b))=(a==b):=by grind
def HW a b:decide ((Sum.inr a:Key)=Sum.inr b)=decide (a=b):=by grind
def key_is i y:decide ((Sum.inl (some i):Key)=Sum.inr y)=false:=AW nofun
def Ie i:decide ((Sum.inl (some i):Key)=Sum.inl none)=false:=AW nofun
def HY x j:decide ((Sum.inr x:Key)=Sum.inl (some j))=false:=AW nofun
def HX x:decide ((Sum.inr x:Key)=Sum.inl none)=false:=AW nofun
def Ib j:decide ((Sum.inl none:Key)=Sum.inl (some j))=false:=AW nofun
def Ia y:decide ((Sum.inl none:Key)=Sum.inr y)=false:=AW nofun
def qE(h:Q 4238894112 { s with toks:=s.toks+1 }):wpAny (model prog w) A (pyHash .none) Q E s:=by
 apply AC
 apply AN
 have ty:s.TypeIs .none "NoneType":=rfl
 refine AC (Bw ty Bq.lookup (AC (Bw ty Bq.lookup (AC (DI ty Bq
  (CY Bq ty PySem.F.entry_NoneType_hash
   (wpAny_ret_mkInt ?_) (PySem.F.args_NoneType_hash_1 _)))))))
 exact AN h
def Xc(h:Q true s):wpAny (model prog w) A (eqBool .none .none) Q E s:=BF (Am (λ_=>AC (DA (AN h))) (λq=>absurd rfl q))
noncomputable def uZ prog w:PySem.KeyKind prog w Key where
 is:=eC
 hash:=keyH w
 inj:=λv a b J L=>by
  rcases fJ J with ⟨i,t,rfl,rfl⟩|⟨x,t,rfl,rfl⟩|⟨rfl,rfl⟩<;>rcases fJ L with ⟨j,u,rfl,e⟩|⟨y,u,rfl,e⟩|⟨rfl,e⟩<;>cases e<;>rfl
 byValue:=λk v h=>by
  rcases fJ h with ⟨i,t,rfl,rfl⟩|⟨x,t,rfl,rfl⟩|⟨rfl,rfl⟩<;>rfl
 pyHash:=λq h=>by
  rcases fJ q with ⟨i,t,rfl,rfl⟩|⟨x,t,rfl,rfl⟩|⟨rfl,rfl⟩
  .exact wpAny_pyHash_int h
  .exact wpAny_pyHash_str h
  .exact qE h
 eqBool:=λO q h=>by
  rcases fJ O with ⟨i,t,rfl,rfl⟩|⟨x,t,rfl,rfl⟩|⟨rfl,rfl⟩<;>rcases fJ q with ⟨j,u,rfl,rfl⟩|⟨y,u,rfl,rfl⟩|⟨rfl,rfl⟩
  .rw[Ig] at h;exact wpAny_eqBool_int h
  .rw[key_is] at h;exact SeqAt.EqAt.int_str i t y u _ _ _ _ h
  .rw[Ie] at h;exact SeqAt.EqAt.int_none i t _ _ _ _ h
  .rw[HY] at h;exact SeqAt.EqAt.str_int x t j u _ _ _ _ h
  .rw[HW] at h;exact wpAny_eqBool_str h
  .rw[HX] at h;exact SeqAt.EqAt.str_none x t _ _ _ _ h
  .rw[Ib] at h;exact SeqAt.EqAt.none_int j u _ _ _ _ h
  .rw[Ia] at h;exact SeqAt.EqAt.none_str y u _ _ _ _ h
  .rw[AU (rfl:(Sum.inl none:Key)=Sum.inl none)] at h;exact Xc h
 «strs»:=λk x t v h=>by
  rcases fJ h with ⟨i,u,rfl,e⟩|⟨y,u,rfl,e⟩|⟨rfl,e⟩
  .exact nomatch e
  .injection e with B _
   subst B;cases v<;>rfl
  .exact nomatch e
def QO prog w i t:(uZ prog w).is (.inl (some i)) (.int i t)=true:=KA i t
def oA prog w:(uZ prog w).is (.inl none) .none=true:=rfl
def QN prog w x t:(uZ prog w).is (.inr x) (.str x t)=true:=uU x t
inductive V where
 |non|bl (b:Bool)|int (i:Int)|str (x:Str)|byt (b:Array UInt8)|flt (b:UInt64)|ref (a:Addr)|ty (n:String)
 deriving DecidableEq
def RelV:V->Value->Prop
 |.non,u=>u=Value.none
 |.bl b,u=>u=Value.bool b
 |.int i,u=>∃t,u=Value.int i t
 |.str x,u=>∃t,u=Value.str x t
 |.byt b,u=>∃t,u=Value.bytes b t
 |.flt b,u=>∃t,u=Value.float b t
 |.ref a,u=>u=Value.ref a
 |.ty n,u=>u=Value.type n
abbrev Vals:List V->List Value->Prop:=Paired RelV
def Vals.length(r:Vals xs us):xs.length=us.length:=Paired.length r
theorem Vals.get:∀{xs}{us}{i:Nat}{x},Vals xs us->xs[i]?=some x->∃u,us[i]?=some u/\RelV x u
 |_,_,_,_,.nil,e=>by simp at e
 |_,_,0,_,.cons r _,e=>by simp at e;subst e;exact⟨_,rfl,r⟩
 |_,_,i+1,x,.cons _ t,e=>by
  obtain⟨u,h1,h2⟩:=(Vals.get t (by simpa using e));exact⟨u,by simpa using h1,h2⟩
theorem Vals.set(r:RelV x u):∀{xs}{us}i,Vals xs us->Vals (xs.set i x) (us.set i u)
 |_,_,_,.nil=>.nil
 |_,_,0,.cons _ t=>.cons r t
 |_,_,i+1,.cons q t=>.cons q (Vals.set r i t)
theorem Vals.append:∀{xs ys}{us ws},Vals xs us->Vals ys ws->Vals (xs++ys) (us++ws)
 |_,_,_,_,.nil,s=>s
 |_,_,_,_,.cons r t,s=>.cons r (Vals.append t s)
theorem Vals.take:∀{xs}{us}n,Vals xs us->Vals (xs.take n) (us.take n)
 |_,_,0,_=>.nil
 |_,_,_+1,.nil=>.nil
 |_,_,n+1,.cons r t=>.cons r (Vals.take n t)
theorem Vals.drop:∀{xs}{us}n,Vals xs us->Vals (xs.drop n) (us.drop n)
 |_,_,0,r=>r
 |_,_,_+1,.nil=>.nil
 |_,_,n+1,.cons _ t=>Vals.drop n t
def RelO:Option V->Option Value->Prop
 |some v,some u=>RelV v u
 |none,none=>True
 |_,_=>False
def KV:List (κ×V)->List (κ×Value)->Prop:=Paired λ(p:κ×V)(q:κ×Value)=>p.1=q.1/\RelV p.2 q.2
noncomputable def kV:Key->V
 |.inl none=>.non
 |.inl (some i)=>.int i
 |.inr x=>.str x
inductive HO where
 |lst (xs:List V)
 |tup (xs:List V)
 |dK (kvs:List (Key×V))|dT (kvs:List (List Key×V))
 |set (S:Int->Bool) (n:Nat)
 |ins (C dx:Addr) (fs:List (Str×V))
 |own (x:Addr)
 |xd (fs:List (Str×V))
 |met (f x:Addr)
 |rng (lo hi:Int)
 |frz (o:Obj) (u:HO)
 |tbl (ps:Array Value)
 |ext (φ:Heap->Prop)
abbrev Hp:=Addr->Option HO
noncomputable def upd(H:Hp)(a:Addr)(o:HO):Hp:=λb=>if b=a then some o else H b
theorem iQ:upd H a o a=some o:=by grind[upd]
theorem pX(h:b≠a):upd H a o b=H b:=by grind[upd]
def ne_of{H:Hp}(h:H a=some o)(h':H b=some u)(d:o≠u):a≠b:=by grind
def wK{H:Hp}(h:H a=some o)(h':H b=none):a≠b:=by grind
def iy(h:Heap)(a:Addr)(items:Array Value):Prop:=∃o,h.get? a=some o/\o.cls=.type "tuple"/\(∃n,o.data=.seq items n)/\o.dict=none
def iy.is(x:iy h a items):IsTup h a items:=let ⟨o,e,c,d,_⟩:=x;⟨o,e,c,d⟩
def iy.new(h:Heap)items:iy (h.push { cls:=.type "tuple",data:=.seq items }) h.objs.size items:=⟨_,Ad _ rfl,rfl,⟨_,rfl⟩,rfl⟩
section
variable(P:Program)(w:World)
def ObjOk(H:Hp)(h:Heap)(a:Addr):HO->Prop
 |.lst xs=>xs.length<=sizeLine/\∃(its:List Value)(n:Nat),Vals xs its/\h.get? a=some { cls:=.type "list",data:=.seq its.toArray n }
 |.tup xs=>xs.length<=sizeLine/\∃its:List Value,Vals xs its/\iy h a its.toArray
 |.dK kvs=>kvs.length<=sizeLine/\(a==sysModules)=false/\∃vs,KV kvs vs/\h.DictOf (uZ P w) a vs
 |.dT kvs=>kvs.length<=sizeLine/\(a==sysModules)=false/\∃xs:List (List Key×Addr×Value),
   Paired (λ(p:List Key×V)(q:List Key×Addr×Value)=>p.1=q.1/\H q.2.1=some (.tup (p.1.map kV))/\RelV p.2 q.2.2) kvs xs /\
   ∃o es ep,h.get? a=some o/\o.ExactDict/\o.data=.dict es ep/\es.toList=xs.map (entryOfKey (tupleKind (uZ P w)))/\(xs.map (·.1)).Nodup
 |.set S n=>h.SetOf (intKind P w) a S n
 |.ins C dx fs=>H dx=some (.own a)/\fs.length<=1000/\dx≠a/\h.get? a=some (PySem.W.instObj C dx) /\
   ∃mA,h.Ns1 dx mA/\(∀f,RelO (fs.lookup f) (mA f))/\PySem.Within mA (fs.map (·.1))
 |.own _=>∃o,h.get? a=some o
 |.xd fs=>∃mA,h.Ns1 a mA/\∀f,RelO (fs.lookup f) (mA f)
 |.rng lo hi=>∃t u v,h.get? a=some { cls:=.type "range",data:=.fields #[.int lo t,.int hi u,.int 1 v] }
 |.frz o u=>h.get? a=some o/\ObjOk H h a u
 |.tbl ps=>h.get? a=some { cls:=.none,data:=.fields ps }
 |.met f x=>h.get? a=some (PySem.W.methodObj (.ref f) (.ref x))
 |.ext B=>B h/\(∃o,h.get? a=some o)/\∀h1 h2:Heap,B h1->(∀o,h1.get? a=some o->h2.get? a=some o)->B h2
def HOk(H:Hp)(h:Heap):Prop:=∀a o,H a=some o->ObjOk P w H h a o
end
section
variable{P:Program}{w:World}{H H':Hp}{h h':Heap}{a:Addr}{o:HO}
def ObjOk.lt(x:ObjOk P w H h a o):a<h.objs.size:=by
 cases o with
 |lst xs=>obtain⟨_,_,_,_,e⟩:=x;exact AS e
 |tup xs=>obtain⟨_,_,_,o,e,_⟩:=x;exact AS e
 |dK kvs=>obtain⟨_,_,_,_,o,_,_,e,_⟩:=x;exact AS e
 |dT kvs=>obtain⟨_,_,_,_,o,_,_,e,_⟩:=x;exact AS e
 |set S n=>exact PL x λo _ _ _ e _=>AS e
 |ins C dx fs=>exact KN x λ_ _ _ e _=>AS e
 |own y=>obtain⟨_,e⟩:=x;exact AS e
 |xd fs=>obtain⟨_,⟨_,_,_,e,_⟩,_⟩:=x;exact AS e
 |rng lo hi=>exact PQ x λ_ _ _ e=>AS e
 |frz q u=>obtain⟨e,_⟩:=x;exact AS e
 |tbl ps=>exact AS x
 |met f y=>exact AS x
 |ext B=>obtain⟨_,⟨_,e⟩,_⟩:=x;exact AS e
theorem Paired.mapP:∀{q}{B},Paired F q B->(∀a b,F a b->G a b)->Paired G q B
 |_,_,.nil,_=>.nil
 |_,_,.cons r t,f=>.cons (f _ _ r) (Paired.mapP t f)
def ObjOk.stay(x:ObjOk P w H h a o)(k:∀b u,(b=a\/H b=some (.own a))->h.get? b=some u->h'.get? b=some u)(L:∀b,H b=some (.own a)->H' b=some (.own a))(O:∀b xs,H b=some (.tup xs)->H' b=some (.tup xs)):ObjOk P w H' h' a o:=by
 induction o with
 |lst xs=>obtain⟨z,its,n,r,e⟩:=x;exact⟨z,its,n,r,k _ _ (.inl rfl) e⟩
 |tup xs=>obtain⟨z,its,r,B,e,c⟩:=x;exact⟨z,its,r,B,k _ _ (.inl rfl) e,c⟩
 |dK kvs=>obtain⟨z,y,vs,r,B,es,ep,e,c⟩:=x;exact⟨z,y,vs,r,B,es,ep,k _ _ (.inl rfl) e,c⟩
 |dT kvs =>
  obtain⟨z,y,xs,r,B,es,ep,e,c⟩:=x;exact⟨z,y,xs,Paired.mapP r λp q z=>⟨z.1,O _ _ z.2.1,z.2.2⟩,B,es,ep,k _ _ (.inl rfl) e,c⟩
 |set S n=>exact PL x λB es ep t e c=>⟨B,es,ep,t,k _ _ (.inl rfl) e,c⟩
 |ins C dx fs =>
  obtain⟨d,z,Y,e,mA,⟨od,es,ep,J,c⟩,r⟩:=x;exact⟨L _ d,z,Y,k _ _ (.inl rfl) e,mA,⟨od,es,ep,k _ _ (.inr d) J,c⟩,r⟩
 |own y=>obtain⟨B,e⟩:=x;exact⟨B,k _ _ (.inl rfl) e⟩
 |xd fs=>obtain⟨mA,⟨od,es,ep,e,c⟩,r⟩:=x;exact⟨mA,⟨od,es,ep,k _ _ (.inl rfl) e,c⟩,r⟩
 |rng lo hi=>exact PQ x λt u v e=>⟨t,u,v,k _ _ (.inl rfl) e⟩
 |frz B u U=>obtain⟨e,q⟩:=x;exact⟨k _ _ (.inl rfl) e,U q⟩
 |tbl ps =>
  have e:=x;exact k a _ (.inl rfl) e
 |met f y =>
  have e:=x;exact k a _ (.inl rfl) e
 |ext Z=>obtain⟨p,⟨o,e⟩,st⟩:=x;exact⟨st _ _ p λo q=>k _ _ (.inl rfl) q,⟨o,k _ _ (.inl rfl) e⟩,st⟩
def HOk.lt(x:HOk P w H h)(e:H a=some o):a<h.objs.size:=(x a o e).lt
def HOk.fresh(x:HOk P w H h)(e:h.objs.size<=a):H a=none:=by
 cases q:H a with
 |none=>rfl
 |some u=>exact absurd (AE (x.lt q) e) (Bg _)
def HOk.kept(x:HOk P w H h)(k:∀b u,h.get? b=some u->h'.get? b=some u):HOk P w H h':=λa o e=>
 (x a o e).stay (λb u _ q=>k b u q) (λ_ q=>q) λ_ _ q=>q
def HOk.laid(x:HOk P w H h)(k:∀b u,h.get? b=some u->h'.get? b=some u)(L:h.objs.size<=a)(O:ObjOk P w (upd H a o) h' a o):HOk P w (upd H a o) h':=λb u e=>by
 have J:=x.fresh L
 by_cases B:b=a
 .subst B;rw[iQ] at e;cases e;exact O
 .rw[pX B] at e
  exact(x b u e).stay (λc v _ q=>k c v q) (λc q=>by rwa[pX (wK q J)]) λc xs q=>by rwa[pX (wK q J)]
end
def Rd(H:Hp)(a:Addr)(u:HO):Prop:=H a=some u\/∃o,H a=some (.frz o u)
def Rd.of(h:H a=some u):Rd H a u:=.inl h
def Rd.ok(r:Rd H a u)(x:HOk P w H h):ObjOk P w H h a u:=by
 rcases r with r|⟨o,r⟩
 .exact x a u r
 .obtain⟨_,q⟩:=x a _ r
  exact q
def Mut:Option HO->Prop
 |some (.lst _)=>True
 |some (.dK _)=>True
 |some (.dT _)=>True
 |some (.set _ _)=>True
 |some (.ins _ _ _)=>True
 |some (.ext _)=>True
 |_=>False
section
variable{P:Program}{w:World}{H:Hp}{h h':Heap}{x e:Addr}{o':HO}
def HOk.write(ae:HOk P w H h)(O:Mut (H x))(af:e=x\/H e=some (.own x))(k:∀b u,b≠e->h.get? b=some u->h'.get? b=some u)(Y:∃u,h'.get? e=some u)(Z:ObjOk P w (upd H x o') h' x o'):HOk P w (upd H x o') h':=λb u q=>by
 have aa:∀c y,H c=some (.own y)->c≠x:=λc y r z=>by subst z;rwa[r] at O
 have ab:∀c xs,H c=some (.tup xs)->c≠x:=λc xs r z=>by subst z;rwa[r] at O
 by_cases B:b=x
 .subst B;rw[iQ] at q;cases q;exact Z
 .rw[pX B] at q
  by_cases J:b=e
  .have U:H b=some (.own x):=by lia
   rw[q] at U;cases U
   obtain⟨v,hv⟩:=Y;exact⟨v,by rwa[J]⟩
  .refine(ae b u q).stay (λc v L r=>k c v ?_ r) (λc r=>by rwa[pX (aa c b r)]) λc xs r=>(pX (ab c xs r))▸r
   rcases L with rfl|L
   .exact J
   .grind
end
structure Un(fs ex:List Addr)(H H':Hp)(h h':Heap):Prop where
 keep:∀b o,h.get? b=some o->H b=none->b∉fs->b∉ex->h'.get? b=some o
 slot:∀b o,h.get? b=some o->H b=none->b∈fs->b∉ex->∃sl,h'.get? b=some { o with slots:=sl }
 free:∀b o,h.get? b=some o->H b=none->b∉ex->H' b=none
 there:∀b o,h.get? b=some o->b∉ex->∃o',h'.get? b=some o'
 tups:∀b xs,H b=some (.tup xs)->H' b=some (.tup xs)
 frzs:∀b o u,H b=some (.frz o u)->H' b=some (.frz o u)
 tbls:∀b ps,H b=some (.tbl ps)->∃more,H' b=some (.tbl (ps++more))
section
variable{fs fs' ex ex':List Addr}{H H1 H2:Hp}{h h1 h2 h':Heap}{a x e:Addr}{o:HO}
def Un.any(u:Un fs ex H H1 h h1)(q:h.get? b=some B)(n:H b=none)(L:b∉ex):∃O,h1.get? b=some { B with slots:=O }:=by
 by_cases J:b∈fs
 .exact u.slot b B q n J L
 .exact⟨B.slots,u.keep b B q n J L⟩
def Un.kept(k:∀b u,h.get? b=some u->h'.get? b=some u):Un fs ex H H h h':=
 ⟨λb B q _ _ _=>k b B q,λb B q _ _ _=>⟨B.slots,k b B q⟩,λ_ _ _ n _=>n,λb B q _=>⟨B,k b B q⟩,λ_ _ q=>q,λ_ _ _ q=>q,λ_ ps q=>⟨#[],by rw[q];simp⟩⟩
def Un.refl:Un fs ex H H h h:=Un.kept λ_ _ q=>q
def Un.laid(k:∀b u,h.get? b=some u->h'.get? b=some u)(J:h.objs.size<=a)(B:H a=none):Un fs ex H (upd H a o) h h' where
 keep:=λb u q _ _ _=>k b u q
 slot:=λb u q _ _ _=>⟨u.slots,k b u q⟩
 free:=λb u q n _=>by rwa[pX (Ai (AE (AS q) J))]
 there:=λb u q _=>⟨u,k b u q⟩
 tups:=λb xs q=>by rwa[pX (wK q B)]
 frzs:=λb u xs q=>by rwa[pX (wK q B)]
 tbls:=λb ps q=>⟨#[],by rw[pX (wK q B),q];simp⟩
def Un.write(J:Mut (H x))(U:e=x\/H e=some (.own x))(k:∀b u,b≠e->h.get? b=some u->h'.get? b=some u)(aa:∃u,h'.get? e=some u):Un fs ex H (upd H x o) h h':=by
 have O:∀b,H b=none->b≠x:=λb n z=>by subst z;rwa[n] at J
 have L:∀b,H b=none->b≠e:=λb n z=>by
  subst z
  rcases U with r|r
  .exact O b n r
  .lia
 have B:∀b u,H b=some u->¬ Mut (some u)->b≠x:=λb u q Y z=>by subst z;rw[q] at J;exact Y J
 refine⟨λb u q n _ _=>k b u (L b n) q,λb u q n _ _=>⟨u.slots,k b u (L b n) q⟩,λb u q n _=>by rw[pX (O b n)];exact n,λb u q _=>?_,
  λb xs q=>by rw[pX (B b _ q λz=>z)];exact q,λb u xs q=>by rw[pX (B b _ q λz=>z)];exact q,λb ps q=>⟨#[],by rw[pX (B b _ q λz=>z),q];simp⟩⟩
 by_cases Z:b=e
 .grind
 .grind
end
noncomputable def trk(h:Heap)(H:Hp):List Addr:=(List.range h.objs.size).filter λa=>(H a).isSome
noncomputable def Q3(h:Heap)(H:Hp):Heap:=PySem.W.hideAll h (trk h H)
def KH h H:(Q3 h H).objs.size=h.objs.size:=PySem.W.hideAll_size _ _
def W6(e:h.get? b=some o)(n:H b=none):(Q3 h H).get? b=some o:=
 PySem.W.hideAll_get _ e λB=>by
  have q:=(DG.mp B).2;rw[n] at q;simp at q
def of_hidT(e:(Q3 h H).get? b=some o):h.get? b=some o/\H b=none:=by
 have B:=PySem.W.of_hideAll (trk h H) e;refine⟨B,?_⟩
 cases q:H b with
 |none=>rfl
 |some x =>
  have z:(Q3 h H).get? b=none:=PySem.W.hideAll_none (trk h H) (DG.mpr ⟨BY.mpr (AS B),by simp[q]⟩);rw[z] at e;cases e
noncomputable def allNews(g h:Heap)(L:Addr):List (Addr×Obj):=(List.range h.objs.size).filterMap λa=>if a=L\/(g.get? a).isSome=true then none else(h.get? a).map λo=>(a,o)
noncomputable def dX(g h:Heap)(L d:Addr):List (Addr×Obj):=(allNews g h L).filter λp=>decide (p.1≠d)
structure Mod(K:DQ)(mg:Str->Option Value)(base:Heap):Prop where
 kin:K.In base
 glob:base.Ns mainGlobals mg
 blt:∃mb,base.Ns builtinsNs mb/\∀x:Str,x ≠ "__name__"->mb x=bootBuiltins x
 nolimit:base.NoLimit
structure Cx where
 prog:Program
 w:World
 K:DQ
 mg:Str->Option Value
 base:Heap
 A:Around
 N:List Str
 s₀:Shared
 H₀:Hp
 env:Env
 outer:List Env
 stack:List Env
 ex:List Addr
 fn:Str->Bool
 calm:Bool
 pn:List (Addr×Obj)
 xe:Value->Shared->Prop
noncomputable def frs(l:List Env):List Addr:=l.filterMap (·.frame)
abbrev Cx.fs(X:Cx):List Addr:=frs X.outer
def Vis(sc:Scope)(x:Str):Prop:=sc.names.lookup x=some .local\/sc.names.lookup x=some .cell\/sc.names.lookup x=some .free
def Loc(sc:Scope)(x:Str):Prop:=sc.names.lookup x=some .local\/sc.names.lookup x=some .cell
def Look(q:Env)(h:Heap)(m:Str->Option Value)(x:Str)(u:Value):Prop:=
 (q.kindOf x=some .local/\m x=some u)\/((q.kindOf x=some .cell\/q.kindOf x=some .free)/\∃c,q.cells.lookup x=some c/\h.IsCell c (some u))
structure Cx.Ok(X:Cx):Prop where
 mod:Mod X.K X.mg X.base
 kind:X.env.scope.kind=.function
 glob:X.env.globals=mainGlobals
 blt:X.env.builtins=builtinsNs
 above:X.s₀.heap.objs.size<=X.env.locals
 inj:∀x y c,X.env.cells.lookup x=some c->X.env.cells.lookup y=some c->x=y
 has:∀x,(X.env.kindOf x=some .cell\/X.env.kindOf x=some .free)->∃c,X.env.cells.lookup x=some c
 cab:∀x c,X.fn x=true->X.env.cells.lookup x=some c->X.s₀.heap.objs.size<=c
 hd:X.calm=true->X.A.handled=none
 frames:X.A.frames=some X.stack
 stk:X.stack=X.outer\/(X.stack=X.env::X.outer/\X.env.frame=some X.env.locals)
 exf:∀b∈X.ex,b≠X.env.locals/\∀x c,X.env.cells.lookup x=some c->c≠b
 bs:∀b o,X.base.get? b=some o->X.s₀.heap.get? b=some o/\X.H₀ b=none
 bsz:X.base.objs.size<=X.s₀.heap.objs.size
 noex:∀b o,X.base.get? b=some o->b∉X.ex
 exfs:∀b∈X.ex,b∉X.fs
 funs:X.s₀.heap.FunFrames X.base X.outer
 frf:∀b∈X.fs,X.H₀ b=none
structure Inv(X:Cx)(ww:List (Addr×Obj))(σ:List (Option V))(H:Hp)(s:Shared):Prop where
 ok:X.Ok
 os:s.os=X.s₀.os
 bare:AllBare s.gens
 base:Un X.fs X.ex X.H₀ H X.s₀.heap s.heap
 loc:∃m,s.heap.Ns X.env.locals m/\∀(i:Nat)(x:Str)(v:V),X.N[i]?=some x->σ[i]?=some (some v)->Vis X.env.scope x->∃u,RelV v u/\Look X.env s.heap m x u
 cell:∀x c,X.env.cells.lookup x=some c->∃v,s.heap.IsCell c v
 free:H X.env.locals=none
 freeC:∀x c,X.env.cells.lookup x=some c->H c=none
 pin:∀p∈X.pn++ww,s.heap.get? p.1=some p.2/\H p.1=none/\p.1≠X.env.locals/\p.1∉X.fs/\∀v,p.2.data≠.cell v
 hok:HOk X.prog X.w H s.heap
 len:σ.length=X.N.length
section
variable{X:Cx}{ww:List (Addr×Obj)}{σ:List (Option V)}{H H':Hp}{s:Shared}{h':Heap}
def Cx.Ok.nofr(B:X.Ok)(e:X.base.get? b=some o):b∉X.fs:=λq=>by
 have:=(B.funs.mem q).1;rw[e] at this;cases this
def Inv.bs(I:Inv X ww σ H s):∀b o,X.base.get? b=some o->s.heap.get? b=some o/\H b=none:=λb o e=>
 ⟨I.base.keep b o (I.ok.bs b o e).1 (I.ok.bs b o e).2 (I.ok.nofr e) (I.ok.noex b o e),I.base.free b o (I.ok.bs b o e).1 (I.ok.bs b o e).2 (I.ok.noex b o e)⟩
def Inv.bk(I:Inv X ww σ H s):∀b o,X.base.get? b=some o->s.heap.get? b=some o:=λb o e=>(I.bs b o e).1
def Inv.mod(I:Inv X ww σ H s):Mod X.K X.mg X.base:=I.ok.mod
def Inv.kIn(I:Inv X ww σ H s):X.K.In s.heap:=I.ok.mod.kin.keeps I.bk
theorem Inv.fr(I:Inv X ww σ H s):∃m,Fr X.base X.env.locals s.heap m:=
 let ⟨m,q,_⟩:=I.loc
 ⟨m,q,I.bk,AK I.ok.bsz I.ok.above⟩
def Inv.lt(I:Inv X ww σ H s):X.env.locals<s.heap.objs.size:=let ⟨_,q,_⟩:=I.loc;q.lt
def Inv.sz(I:Inv X ww σ H s):X.s₀.heap.objs.size<=s.heap.objs.size:=AK I.ok.above (Nat.le_of_lt I.lt)
def Inv.nofs(I:Inv X ww σ H s){a:Addr}(h:s.heap.objs.size<=a):a∉X.fs:=λq=>by
 obtain⟨_,o,B,_⟩:=I.ok.funs.mem q;exact absurd (AE (AS B) (AK I.sz h)) (Bg _)
def Inv.cne(I:Inv X ww σ H s):∀x c,X.env.cells.lookup x=some c->c≠X.env.locals:=λx c e z=>by
 obtain⟨v,o,B,q⟩:=(I.cell x c e);obtain⟨m,⟨o',es,ep,L,J,_⟩,_⟩:=I.loc;rw[z,L] at B;cases B;rw[J] at q;cases q
def Inv.funs(I:Inv X ww σ H s):s.heap.FunFrames X.base X.outer:=by
 have O:∀l,(∀b∈frs l,b∈X.fs)->X.s₀.heap.FunFrames X.base l->s.heap.FunFrames X.base l:=by
  intro l
  induction l with
  |nil=>intro _ _;trivial
  |cons ab r ih =>
   intro hs Z;obtain⟨Y,⟨L,o,J,hn,ho,U⟩,aa⟩:=Z;have q:=hs L (by delta frs;exact List.filterMap_cons▸J▸AL);obtain⟨sl,e⟩:=I.base.slot L o ho (I.ok.frf L q) q λz=>I.ok.exfs L z q;exact⟨Y,⟨L,_,J,hn,e,U⟩,ih (λb B=>hs b (by delta frs;exact List.filterMap_cons▸J▸AH _ B)) aa⟩
 exact O X.outer (λ_ B=>B) I.ok.funs
def Inv.stack(I:Inv X ww σ H s):s.heap.FunFrames X.base X.stack:=by
 rcases I.ok.stk with e|⟨e,q⟩
 .exact e▸I.funs
 .rw[e]
  refine oX I.loc λm B _=>.cons (by rw[I.ok.kind];decide) q B ?_ I.funs;exact Heap.get?_none_of_le (AK I.ok.bsz I.ok.above)
def Inv.stkSub(I:Inv X ww σ H s):∀b∈frs X.stack,b∈X.env.locals::X.fs:=λb q=>by
 rcases I.ok.stk with e|⟨e,B⟩
 .grind
 .rw[e] at q
  delta frs at q
  rwa[List.filterMap_cons,B] at q
def Inv.stkFree(I:Inv X ww σ H s):∀b∈frs X.stack,H b=none:=λb q=>by
 rcases Ah.mp (I.stkSub b q) with e|q
 .exact e▸I.free
 .obtain⟨_,o,B,_⟩:=I.ok.funs.mem q
  exact I.base.free b o B (I.ok.frf b q) λz=>I.ok.exfs b z q
def Inv.step{ch:List Addr}(I:Inv X ww σ H s)(U:∀b∈ch,(b∈X.ex\/X.s₀.heap.objs.size<=b)/\b≠X.env.locals/\(∀x c,X.env.cells.lookup x=some c->c≠b)/\∀p∈X.pn++ww,p.1≠b)(ae:∀b o,b≠X.env.locals->b∉X.fs->b∉ch->s.heap.get? b=some o->H b=none->h'.get? b=some o)(ai:∀b o,b≠X.env.locals->b∈X.fs->b∉ch->s.heap.get? b=some o->H b=none->∃sl,h'.get? b=some { o with slots:=sl })(Z:∀b o,b∉ch->s.heap.get? b=some o->H b=none->H' b=none)(ax:∀b o,b∉ch->s.heap.get? b=some o->∃o',h'.get? b=some o')(ay:∀b xs,H b=some (.tup xs)->H' b=some (.tup xs))(aj:∀b o u,H b=some (.frz o u)->H' b=some (.frz o u))(aw:∀b ps,H b=some (.tbl ps)->∃aq,H' b=some (.tbl (ps++aq)))(ar:∀m,s.heap.Ns X.env.locals m->h'.Ns X.env.locals m)(ao:HOk X.prog X.w H' h')(ak:AllBare g'):
  Inv X ww σ H' { s with heap:=h',gens:=g',drawn:=d',toks:=t' }:=by
 have ah:∀b o,X.s₀.heap.get? b=some o->b≠X.env.locals:=λb o e=>Ai (AE (AS e) I.ok.above)
 have aa:∀b o,X.s₀.heap.get? b=some o->b∉X.ex->b∉ch:=λb o e q J=>by
  rcases(U b J).1 with z|z
  .exact q z
  .exact absurd (AE (AS e) z) (Bg _)
 have af:∀x c,X.env.cells.lookup x=some c->∀v,s.heap.IsCell c v->h'.IsCell c v:=λx c e v zz=>oX zz λo L ab=>by
  have Y:c∉ch:=λz=>(U c z).2.2.1 x c e rfl
  by_cases hc:c∈X.fs
  .obtain⟨sl,au⟩:=ai c o (I.cne x c e) hc Y L (I.freeC x c e)
   exact⟨_,au,ab⟩
  .exact⟨o,ae c o (I.cne x c e) hc Y L (I.freeC x c e),ab⟩
 refine⟨I.ok,I.os,ak,⟨λb o e n J q=>?_,λb o e n J q=>?_,λb o e n q=>?_,λb o e q=>?_,λb xs e=>ay b xs (I.base.tups b xs e),λb o xs e=>aj b o xs (I.base.frzs b o xs e),λb ps e=>?_⟩,?_,λx c e=>?_,?_,λx c e=>?_,λp hp=>?_,ao,I.len⟩
 .exact ae b o (ah b o e) J (aa b o e q) (I.base.keep b o e n J q) (I.base.free b o e n q)
 .obtain⟨sl,B⟩:=I.base.slot b o e n J q
  obtain⟨av,O⟩:=ai b _ (ah b o e) J (aa b o e q) B (I.base.free b o e n q);exact⟨av,O⟩
 .obtain⟨o',B⟩:=I.base.there b o e q
  exact Z b o' (aa b o e q) B (I.base.free b o e n q)
 .obtain⟨o',B⟩:=I.base.there b o e q
  exact ax b o' (aa b o e q) B
 .obtain⟨m1,B⟩:=I.base.tbls b ps e
  obtain⟨m2,O⟩:=aw b _ B;exact⟨m1++m2,by rw[O,Array.append_assoc]⟩
 .refine oX I.loc λm hn hl=>⟨m,ar m hn,λi x v B O e3=>oX (hl i x v B O e3) λu r l=>⟨u,r,?_⟩⟩
  rcases l with l|⟨k,c,e,z⟩
  .exact .inl l
  .exact .inr ⟨k,c,e,af x c e _ z⟩
 .obtain⟨v,z⟩:=I.cell x c e
  exact⟨v,af x c e v z⟩
 .obtain⟨m,⟨o,_,_,L,_⟩,_⟩:=I.loc
  exact Z _ o (λz=>(U _ z).2.1 rfl) L I.free
 .exact mM (I.cell x c e) λv o L ab=>Z c o (λz=>(U c z).2.2.1 x c e rfl) L (I.freeC x c e)
 .refine KN (I.pin p hp) λe n ag nf d=>?_
  have Y:p.1∉ch:=λz=>(U p.1 z).2.2.2 p hp rfl;exact⟨ae p.1 p.2 ag nf Y e n,Z p.1 p.2 Y e n,ag,nf,d⟩
def Inv.un(I:Inv X ww σ H s)(u:Un X.fs [] H H' s.heap h')(Z:HOk X.prog X.w H' h'):Inv X ww σ H' { s with heap:=h',toks:=t' }:=by
 obtain⟨m,⟨o,es,ep,B,r⟩,_⟩:=id I.loc;obtain⟨sl,U⟩:=u.any B I.free ue
 exact I.step (g':=s.gens) (d':=s.drawn) (ch:=[]) (λ_ z=>nomatch z) (λb o _ q _ e n=>u.keep b o e n q ue) (λb o _ q _ e n=>u.slot b o e n q ue) (λb o _ e n=>u.free b o e n ue) (λb o _ e=>u.there b o e ue) u.tups u.frzs u.tbls (λm' Y=>by
  obtain⟨o',O,L,J,r'⟩:=Y;rw[B] at J;cases J
  exact⟨_,O,L,U,r'⟩) Z I.bare
def Inv.call(I:Inv X ww σ H s)(u:Un (frs X.stack) ch H H' s.heap h')(ae:HOk X.prog X.w H' h')(aa:AllBare g')(J:∀b∈ch,(b∈X.ex\/X.s₀.heap.objs.size<=b)/\b≠X.env.locals/\(∀x c,X.env.cells.lookup x=some c->c≠b)/\∀p∈X.pn++ww,p.1≠b):
  Inv X ww σ H' { s with heap:=h',gens:=g',drawn:=d',toks:=t' }:=by
 obtain⟨m,⟨o,es,ep,L,r⟩,_⟩:=id I.loc;obtain⟨sl,B⟩:=u.any L I.free λz=>(J _ z).2.1 rfl
 exact I.step J (λb o B Z q e n=>u.keep b o e n (λz=>(Ah.mp (I.stkSub b z)).elim B Z) q) (λb o _ _ q e n=>u.any e n q) (λb o q e n=>u.free b o e n q) (λb o q e=>u.there b o e q) u.tups u.frzs u.tbls (λm' ab=>by
  obtain⟨o',Y,U,O,r'⟩:=ab;rw[L] at O;cases O
  exact⟨_,Y,U,B,r'⟩) ae aa
def Inv.turned(I:Inv X ww σ H s)(k:∀b o,b≠it->s.heap.get? b=some o->h'.get? b=some o)(O:H it=none)(J:it≠X.env.locals)(h1:it∈X.ex\/X.s₀.heap.objs.size<=it)(h2:∀x c,X.env.cells.lookup x=some c->c≠it)(Y:∀p∈X.pn++ww,p.1≠it):Inv X ww σ H { s with heap:=h',toks:=t' }:=by
 have aa:∀b u,H b=some u->b≠it:=λb u e z=>by rw[z,O] at e;cases e
 refine I.step (g':=s.gens) (d':=s.drawn) (ch:=[it]) (λb Z=>?_) (λb o _ _ B e _=>k b o (λz=>B (by simp[z])) e) (λb o _ _ B e _=>⟨o.slots,k b o (λz=>B (by simp[z])) e⟩) (λ_ _ _ _ n=>n)
  (λb o B e=>⟨o,k b o (λz=>B (by simp[z])) e⟩) (λ_ _ e=>e) (λ_ _ _ e=>e) (λb ps e=>⟨#[],by rw[e];simp⟩) (λm L=>?_) (λb u e=>?_) I.bare
 .grind
 .exact Ld L λo es ep U r=>⟨o,es,ep,k _ o (Ne.symm J) U,r⟩
 .refine(I.hok b u e).stay (λc v B q=>k c v ?_ q) (λ_ q=>q) λ_ _ q=>q
  rcases B with z|z
  .lia
  .lia
def Inv.tok(I:Inv X ww σ H s)t:Inv X ww σ H { s with toks:=t }:=I.un (h':=s.heap) (t':=t) Un.refl I.hok
def Inv.kept(I:Inv X ww σ H s)(k:∀b u,s.heap.get? b=some u->h'.get? b=some u):Inv X ww σ H { s with heap:=h',toks:=t' }:=I.un (Un.kept k) (I.hok.kept k)
def Inv.laid{a:Addr}(I:Inv X ww σ H s)(k:∀b u,s.heap.get? b=some u->h'.get? b=some u)(q:s.heap.objs.size<=a)(B:ObjOk X.prog X.w (upd H a o) h' a o):
  Inv X ww σ (upd H a o) { s with heap:=h',toks:=t' }:=I.un (Un.laid k q (I.hok.fresh q)) (I.hok.laid k q B)
def Inv.write(I:Inv X ww σ H s)(J:Mut (H x))(q:e=x\/H e=some (.own x))(k:∀b u,b≠e->s.heap.get? b=some u->h'.get? b=some u)(B:∃u,h'.get? e=some u)(L:ObjOk X.prog X.w (upd H x o) h' x o):Inv X ww σ (upd H x o) { s with heap:=h',toks:=t' }:=I.un (Un.write J q k B) (I.hok.write J q k B L)
def Inv.weak(I:Inv X ww σ H s)(O:q.length=σ.length)(w:∀(i:Nat)v,q[i]?=some (some v)->σ[i]?=some (some v)):Inv X ww q H s:=
 ⟨I.ok,I.os,I.bare,I.base,let ⟨m,Y,U⟩:=I.loc;⟨m,Y,λi x v B J L=>U i x v B (w i v J) L⟩,I.cell,I.free,I.freeC,I.pin,I.hok,O.trans I.len⟩
def Inv.pins_of(I:Inv X ww σ H s)(h:∀p∈B,s.heap.get? p.1=some p.2/\H p.1=none/\p.1≠X.env.locals/\p.1∉X.fs/\∀v,p.2.data≠.cell v):Inv X B σ H s:=
 ⟨I.ok,I.os,I.bare,I.base,I.loc,I.cell,I.free,I.freeC,λp q=>(AY.mp q).elim (λz=>I.pin p (Ap _ z)) (h p),I.hok,I.len⟩
def pC{N:List Str}(J:N.Nodup){j:Nat}(a:N[i]?=some x)(b:N[j]?=some x):i=j:=by
 obtain⟨h1,q⟩:=Aa.mp a;obtain⟨h2,B⟩:=Aa.mp b;exact(List.getElem_inj J).mp (q.trans B.symm)
def xO(I:Inv X ww σ H s)(hN:X.N.Nodup)(hi:X.N[i]?=some x)(L:Loc X.env.scope x)(r:RelV v u)(h:∀s',Inv X ww (σ.set i (some v)) H s'->(∃a,Heap.SameBut a s.heap s'.heap/\(a=X.env.locals\/X.env.cells.lookup x=some a))->Q () s')(aq:X.fn x=true\/X.env.scope.names.lookup x=some .local:=by first|exact .inl rfl|exact .inr rfl|assumption):wpAny M A (storeName X.env x u) Q E s:=by
 refine oX (id I.loc) λm hn hl=>?_;have ao:(X.env.scope.kind==.class || (X.env.scope.kind==.module&&X.env.locals != X.env.globals))=false:=by rw[I.ok.kind];rfl
 have ai:i<σ.length:=I.len▸(Aa.mp hi).1;have ab:=I.cne
 have ak:∀{a:Addr}{h':Heap},(∃o,s.heap.get? a=some o/\H a=none)->Heap.SameBut a s.heap h'->HOk X.prog X.w H h':=λ{a h'}ha hs b ob e=>by
  obtain⟨_,_,ah⟩:=ha;refine(I.hok b ob e).stay (λc w' J q=>(hs.2 c ?_).trans q) (λ_ q=>q) λ_ _ q=>q;rintro rfl
  rcases J with rfl|J
  .rw[ah] at e;cases e
  .rw[ah] at J;cases J
 rcases L with U|U
 .refine wpAny_storeName_local U hn (λh' ar hs=>Ld (id hn) λoL _ _ au _=>h _ ⟨I.ok,I.os,I.bare,⟨λb o e n Y L=>?_,λb o e n Y L=>?_,I.base.free,λb o e L=>?_,I.base.tups,I.base.frzs,I.base.tbls⟩,⟨_,ar,λj y v' B O e3=>?_⟩,λy c e=>?_,I.free,I.freeC,λp hp=>?_,ak ⟨oL,au,I.free⟩ hs,by simpa using I.len⟩ ⟨_,hs,.inl rfl⟩) ao
  .exact(hs.2 b (Ai (AE (AS e) I.ok.above))).trans (I.base.keep b o e n Y L)
  .obtain⟨sl,B⟩:=I.base.slot b o e n Y L
   exact⟨sl,(hs.2 b (Ai (AE (AS e) I.ok.above))).trans B⟩
  .obtain⟨o',B⟩:=I.base.there b o e L
   exact⟨o',(hs.2 b (Ai (AE (AS e) I.ok.above))).trans B⟩
  .by_cases hj:j=i
   .subst hj
    rw[hi] at B;cases B
    rw[DE ai] at O;cases O;exact⟨u,r,.inl ⟨U,by simp⟩⟩
   .rw[BK (Ne.symm hj)] at O
    refine oX (hl j y v' B O e3) λu' r' q=>⟨u',r',?_⟩
    rcases q with ⟨k,e⟩|⟨k,c,e,z⟩
    .refine .inl ⟨k,?_⟩
     have:y≠x:=λe=>hj (pC hN B (e▸hi))
     simp[this,e]
    .exact .inr ⟨k,c,e,z.sameBut hs (ab y c e)⟩
  .obtain⟨w',z⟩:=I.cell y c e
   exact⟨w',z.sameBut hs (ab y c e)⟩
  .exact KN (I.pin p hp) λe n aa nf d=>⟨(hs.2 p.1 aa).trans e,n,aa,nf,d⟩
 .have ae:X.fn x=true:=by
   rcases aq with z|z
   .exact z
   .rw[z] at U;cases U
  obtain⟨c,J⟩:=I.ok.has x (.inl U);obtain⟨w',z⟩:=I.cell x c J;refine wpAny_storeName_cell I.ok.kind U J z (λh' af hs=>oX (id z) λoc aj av=>h { s with heap:=h' } ⟨I.ok,I.os,I.bare,⟨λb o e n Y L=>?_,λb o e n Y L=>?_,I.base.free,λb o e L=>?_,I.base.tups,I.base.frzs,I.base.tbls⟩,⟨m,hn.sameBut hs (Ne.symm (ab x c J)),λj y v' B O e3=>?_⟩,λy Z e=>?_,I.free,I.freeC,λp hp=>?_,ak ⟨oc,aj,I.freeC x c J⟩ hs,by simpa using I.len⟩ ⟨c,hs,.inr J⟩)
  .exact(hs.2 b (Ai (AE (AS e) (I.ok.cab x c ae J)))).trans (I.base.keep b o e n Y L)
  .obtain⟨sl,B⟩:=I.base.slot b o e n Y L
   exact⟨sl,(hs.2 b (Ai (AE (AS e) (I.ok.cab x c ae J)))).trans B⟩
  .obtain⟨o',B⟩:=I.base.there b o e L
   exact⟨o',(hs.2 b (Ai (AE (AS e) (I.ok.cab x c ae J)))).trans B⟩
  .by_cases hj:j=i
   .subst hj
    rw[hi] at B;cases B
    rw[DE ai] at O;cases O;exact⟨u,r,.inr ⟨.inl U,c,J,af⟩⟩
   .rw[BK (Ne.symm hj)] at O
    refine oX (hl j y v' B O e3) λu' r' q=>⟨u',r',?_⟩
    rcases q with q|⟨k,Z,e,z'⟩
    .exact .inl q
    .refine .inr ⟨k,Z,e,z'.sameBut hs ?_⟩
     rintro rfl;exact hj (pC hN B (I.ok.inj _ _ _ e J▸hi))
  .by_cases ag:Z=c
   .subst ag;exact⟨_,af⟩
   .obtain⟨w2,z2⟩:=I.cell y Z e
    exact⟨w2,z2.sameBut hs ag⟩
  .refine KN (I.pin p hp) λe n aa nf d=>⟨(hs.2 p.1 ?_).trans e,n,aa,nf,d⟩
   intro q;rw[q,aj] at e;exact d w' ir
def kU(I:Inv X ww σ H s)(B:X.N.Nodup)(hi:X.N[i]?=some x)(L:Loc X.env.scope x)(r:RelV v u)(h:∀s',Inv X ww (σ.set i (some v)) H s'->Q () s')(J:X.fn x=true\/X.env.scope.names.lookup x=some .local:=by first|exact .inl rfl|exact .inr rfl|assumption):wpAny M A (storeName X.env x u) Q E s:=
 xO I B hi L r (λs' q _=>h s' q) J
def Inv.call'(I:Inv X ww σ H s)(J:s'.os=s.os)(u:Un (frs X.stack) ch H H' s.heap s'.heap)(L:HOk X.prog X.w H' s'.heap)(B:AllBare s'.gens)(q:∀b∈ch,(b∈X.ex\/X.s₀.heap.objs.size<=b)/\b≠X.env.locals/\(∀x c,X.env.cells.lookup x=some c->c≠b)/\∀p∈X.pn++ww,p.1≠b):Inv X ww σ H' s':=by
 obtain⟨h',g',d',t',o'⟩:=s';subst J;exact I.call (g':=g') (t':=t') (d':=d') u L B q
end
abbrev XK:=Value->Option Addr->Hp->Prop
abbrev St:=List (Option V)
abbrev VK:=V->Hp->Prop
abbrev TE:=St->Hp->VK->Prop
abbrev TT:=St->Hp->(Bool->Hp->Prop)->Prop
abbrev TA:=St->Hp->(List V->Hp->Prop)->Prop
structure Ends where
 nx:St->Hp->Prop
 rt:VK
 bk:St->Hp->Prop:=λ_ _=>False
 ct:St->Hp->Prop:=λ_ _=>False
abbrev TS:=Ends->St->Hp->Prop
def EP(X:Cx)(ww:List (Addr×Obj))(σ:St)(Q:VK)(u:Value)(s':Shared):Prop:=∃v H',Inv X ww σ H' s'/\RelV v u/\Q v H'
def TP(X:Cx)(ww:List (Addr×Obj))(σ:St)(Q:Bool->Hp->Prop)(b:Bool)(s':Shared):Prop:=∃H',Inv X ww σ H' s'/\Q b H'
def AP(X:Cx)(ww:List (Addr×Obj))(σ:St)(Q:List V->Hp->Prop)(us:List Value)(s':Shared):Prop:=∃vs H',Inv X ww σ H' s'/\Vals vs us/\Q vs H'
def SP(X:Cx)(ww:List (Addr×Obj))(D:Ends)(f:Flow)(s':Shared):Prop:=
 match f with
 |.next=>∃q H',Inv X ww q H' s'/\D.nx q H'
 |.brk=>∃q H',Inv X ww q H' s'/\D.bk q H'
 |.cont=>∃q H',Inv X ww q H' s'/\D.ct q H'
 |.ret u=>∃v q H',Inv X ww q H' s'/\RelV v u/\D.rt v H'
def PE(X:Cx)(e:Expr)(t:TE):Prop:=
 ∀(ww:List (Addr×Obj))(s:Shared)(σ:St)(H:Hp)(Q:VK),Inv X ww σ H s->t σ H Q->wpAny (model X.prog X.w) X.A (eval e X.env) (EP X ww σ Q) X.xe s
def PT(X:Cx)(e:Expr)(t:TT):Prop:=
 ∀(ww:List (Addr×Obj))(s:Shared)(σ:St)(H:Hp)(Q:Bool->Hp->Prop),Inv X ww σ H s->t σ H Q->wpAny (model X.prog X.w) X.A (isTrue e X.env (eval e X.env)) (TP X ww σ Q) X.xe s
def PW(X:Cx)(e:Expr)(t:TT):Prop:=
 ∀(q:Sem Value)(ww:List (Addr×Obj))(s:Shared)(σ:St)(H:Hp)(Q:Bool->Hp->Prop),Inv X ww σ H s->t σ H Q->wpAny (model X.prog X.w) X.A (isTrue e X.env q) (TP X ww σ Q) X.xe s
def PW.pt(h:PW X e t):PT X e t:=h _
def PA(X:Cx)(es:List Expr)(t:TA):Prop:=
 ∀(pos:Pos)(ww:List (Addr×Obj))(s:Shared)(σ:St)(H:Hp)(Q:List V->Hp->Prop),Inv X ww σ H s->t σ H Q->wpAny (model X.prog X.w) X.A (spliced (backTo pos (starEach es X.env))) (AP X ww σ Q) X.xe s
def PS(X:Cx)(st:Stmt)(t:TS):Prop:=
 ∀(ww:List (Addr×Obj))(s:Shared)(σ:St)(H:Hp)(D:Ends),Inv X ww σ H s->t D σ H->wpAny (model X.prog X.w) X.A (exec st X.env) (SP X ww D) X.xe s
def PSs(X:Cx)(st:List Stmt)(t:TS):Prop:=
 ∀(ww:List (Addr×Obj))(s:Shared)(σ:St)(H:Hp)(D:Ends),Inv X ww σ H s->t D σ H->wpAny (model X.prog X.w) X.A (execs st X.env) (SP X ww D) X.xe s
theorem thn(h:wpAny M A t Q E s)(B:∀a s,Q a s->q a s):wpAny M A t q E s:=BA h B λ_ _ x=>x
section
variable{X:Cx}
def bin(O:PE X a ta)(U:PE X b tb){σ:St}{R:V->V->Hp->Prop}(I:Inv X ww σ H s)(h:ta σ H λx H1=>tb σ H1 λy H2=>R x y H2){f:Value->Value->Sem ae}(Y:∀v u q x y H2,Inv X ww σ H2 q->RelV x v->RelV y u->R x y H2->wpAny (model X.prog X.w) X.A (f v u) Q X.xe q):
  wpAny (model X.prog X.w) X.A (eval a X.env) (λv aa=>wpAny (model X.prog X.w) X.A (eval b X.env) (λu ab=>wpAny (model X.prog X.w) X.A (f v u) Q X.xe ab) X.xe aa) X.xe s:=thn (O ww s σ H _ I h) λv s1 B=>rZ B λx H1 J r1 Z=>thn (U ww s1 σ H1 _ J Z) λu q B=>rZ B λy H2 L r2 q2=>Y v u q x y H2 L r1 r2 q2
inductive Ua(i:Nat)(σ:St)(H:Hp)(Q:VK):Prop
 |mk(v:V)(h:σ[i]?=some (some v))(q:Q v H)
def tVar(i:Nat):TE:=λσ H Q=>Ua i σ H Q
def tC(v:V):TE:=λ_ H Q=>Q v H
def qY{pos}(U:X.N[i]?=some x)(hv:Vis X.env.scope x)(J:(x==("__debug__":Str))=false:=by decide)(Y:(x==("__classdict__":Str))=false:=by decide):PE X (.Name x pos) (tVar i):=by
 intro ww s σ H Q I h;obtain⟨v,e,h⟩:=h;refine oX I.loc λm hn Z=>oX (Z i x v U e hv) λu r l=>?_;have B:EP X ww σ Q u s:=⟨v,H,I,r,h⟩
 rcases l with ⟨q,aa⟩|⟨q,c,L,O⟩
 .exact wpAny_Name (wpAny_loadName_local I.ok.kind q hn aa B) J
 .rcases q with q|q
  .exact wpAny_Name (wpAny_loadName_cell I.ok.kind q L O B) J
  .exact wpAny_Name (wpAny_loadName_free I.ok.kind q L O B Y) J
def Wi{i j pos}:PE X (.Constant (.int i) j pos) (tC (.int i)):=λ_ _ _ H _ I h=>wpAny_Constant_int ⟨.int i,H,I.tok _,⟨_,rfl⟩,h⟩
def pe_bl{b j pos}:PE X (.Constant (.bool b) j pos) (tC (.bl b)):=λ_ _ _ H _ I h=>Constant_bool ⟨.bl b,H,I,rfl,h⟩
def pe_non{j pos}:PE X (.Constant .none j pos) (tC .non):=λ_ _ _ H _ I h=>Constant_none ⟨.non,H,I,rfl,h⟩
def We{x j pos}:PE X (.Constant (.str x) j pos) (tC (.str x)):=λ_ _ _ H _ I h=>Calls.Constant_str ⟨.str x,H,I.tok _,⟨_,rfl⟩,h⟩
def Gl(X:Cx)(x:Str):Prop:=X.env.kindOf x=some .globalImplicit
def pG{σ:St}(I:Inv X ww σ H s)(B:Gl X x)(J:X.mg x=some u)(h:Q u s)(q:(x==("__debug__":Str))=false:=by decide):wpAny (model X.prog X.w) X.A (eval (.Name x pos) X.env) Q E s:=
 Calls.Name_function_global I.ok.kind B (Calls.loadGlobal_global (I.ok.glob▸I.mod.glob.keeps I.bk) J h) q
def bL{E}{σ:St}{pos}(I:Inv X ww σ H s)(B:Gl X x)(J:X.mg x=none)(O:bootBuiltins x=some u)(h:Q u s)(L:x ≠ "__name__":=by decide)(q:(x==("__debug__":Str))=false:=by decide):wpAny (model X.prog X.w) X.A (eval (.Name x pos) X.env) Q E s:=oX I.mod.blt λU h1 h2=>Calls.Name_function_global I.ok.kind B (Calls.loadGlobal_builtin (I.ok.glob▸I.mod.glob.keeps I.bk) J (I.ok.blt▸h1.keeps I.bk) ((h2 x L).trans O) h) q
def pe_glob(B:Gl X x)(J:X.mg x=some u)(r:RelV v u)(q:(x==("__debug__":Str))=false:=by decide):PE X (.Name x pos) (tC v):=
 λ_ _ _ H _ I h=>pG I B J ⟨v,H,I,r,h⟩ q
def pe_bltn{pos}(B:Gl X x)(J:X.mg x=none)(O:bootBuiltins x=some u)(r:RelV v u)(L:x ≠ "__name__":=by decide)(q:(x==("__debug__":Str))=false:=by decide):PE X (.Name x pos) (tC v):=
 λ_ _ _ H _ I h=>bL I B J O ⟨v,H,I,r,h⟩ L q
variable{a b:Expr}{ta tb:TE}{pos:Pos}
inductive XM(Q:Bool->Hp->Prop)(x:V)(H:Hp):Prop
 |mk(c:Bool)(h:x=.bl c)(q:Q c H)
def tB(t:TE):TT:=λσ H Q=>t σ H (XM Q)
def pt_val(h:PE X e t)(L:∀B,isTrue e X.env B=(do let v <- B;standAt e.pos;holding [v] (truthy v)):=by intro _;rfl):PT X e (tB t):=by
 intro ww s σ H Q I O;refine isTrue_plain (thn (h ww s σ H _ I O) λv s1 Z=>rZ Z λx H1 J Y U=>?_) (L _);obtain⟨d,rfl,q⟩:=U;cases Y;exact A1 ⟨H1,J,q⟩
variable{tA tB':TT}{dX:List Expr}
def tAnd(t u:TT):TT:=λσ H Q=>t σ H λc H1=>if c=true then u σ H1 Q else Q false H1
def tOr(t u:TT):TT:=λσ H Q=>t σ H λc H1=>if c=true then Q true H1 else u σ H1 Q
def tNot(t:TT):TT:=λσ H Q=>t σ H λc H1=>Q (!c) H1
def pw_and1(q:PT X a tA):PW X (.BoolOp .And [a] pos) tA:=by
 intro B ww s σ H Q I h;refine isTrue_and (thn (q ww s σ H Q I h) λc s1 e=>?_)
 cases c with
 |true=>exact isTrue_and_nil e
 |false=>exact e
def pw_or1(q:PT X a tA):PW X (.BoolOp .Or [a] pos) tA:=by
 intro B ww s σ H Q I h;refine isTrue_or (thn (q ww s σ H Q I h) λc s1 e=>?_)
 cases c with
 |false=>exact isTrue_or_nil e
 |true=>exact e
def pw_and(J:PT X a tA)(L:PW X (.BoolOp .And (b::dX) pos) tB'):PW X (.BoolOp .And (a::b::dX) pos) (tAnd tA tB'):=by
 intro O ww s σ H Q I h;refine isTrue_and (thn (J ww s σ H _ I h) λc s1 U=>oX U λH1 q B=>?_)
 cases c with
 |true=>exact L O ww s1 σ H1 Q q B
 |false=>exact⟨H1,q,B⟩
def pw_or(J:PT X a tA)(L:PW X (.BoolOp .Or (b::dX) pos) tB'):PW X (.BoolOp .Or (a::b::dX) pos) (tOr tA tB'):=by
 intro O ww s σ H Q I h;refine isTrue_or (thn (J ww s σ H _ I h) λc s1 U=>oX U λH1 q B=>?_)
 cases c with
 |true=>exact⟨H1,q,B⟩
 |false=>exact L O ww s1 σ H1 Q q B
def pt_not(q:PT X a tA):PT X (.UnaryOp .Not a pos) (tNot tA):=by
 intro ww s σ H Q I h;exact isTrue_not (q ww s σ H (λc H1=>Q (!c) H1) I h)
def tAndV(ta tb:TE):TE:=λσ H Q=>ta σ H λx H1=>∃c,x=.bl c/\if c=true then tb σ H1 Q else Q (.bl false) H1
def tOrV(ta tb:TE):TE:=λσ H Q=>ta σ H λx H1=>∃c,x=.bl c/\if c=true then Q (.bl true) H1 else tb σ H1 Q
def tNotV(ta:TE):TE:=λσ H Q=>ta σ H λx H1=>∃c,x=.bl c/\Q (.bl (!c)) H1
def Wf{B}(h:PE X a t):PE X (.BoolOp B [a] pos) t:=λww s σ H Q I q=>BoolOp_one (h ww s σ H Q I q)
def Wq(J:PE X a ta)(L:PE X (.BoolOp .And (b::dX) pos) tb):PE X (.BoolOp .And (a::b::dX) pos) (tAndV ta tb):=by
 intro ww s σ H Q I h;refine BoolOp_and (thn (J ww s σ H _ I h) λv s1 U=>rZ U λx H1 B O q=>?_);obtain⟨c,rfl,q⟩:=q;cases O
 apply A1
 cases c with
 |true=>exact L ww s1 σ H1 Q B q
 |false=>exact⟨.bl false,H1,B,rfl,q⟩
def pe_or(J:PE X a ta)(L:PE X (.BoolOp .Or (b::dX) pos) tb):PE X (.BoolOp .Or (a::b::dX) pos) (tOrV ta tb):=by
 intro ww s σ H Q I h;refine BoolOp_or (thn (J ww s σ H _ I h) λv s1 U=>rZ U λx H1 B O q=>?_);obtain⟨c,rfl,q⟩:=q;cases O
 apply A1
 cases c with
 |false=>exact L ww s1 σ H1 Q B q
 |true=>exact⟨.bl true,H1,B,rfl,q⟩
def pe_not(J:PE X a ta):PE X (.UnaryOp .Not a pos) (tNotV ta):=by
 intro ww s σ H Q I h;refine UnaryOp_ (thn (J ww s σ H _ I h) λv s1 O=>rZ O λx H1 B L q=>?_);obtain⟨c,rfl,q⟩:=q;cases L;exact not_of (A1 ⟨.bl (!c),H1,B,rfl,q⟩)
def tIf(t:TT)(ta tb:TE):TE:=λσ H Q=>t σ H λc H1=>if c=true then ta σ H1 Q else tb σ H1 Q
def Wj(O:PT X c tA)(J:PE X a ta)(L:PE X b tb):PE X (.IfExp c a b pos) (tIf tA ta tb):=by
 intro ww s σ H Q I h;refine wpAny_IfExp (thn (O ww s σ H _ I h) λd s1 U=>oX U λH1 q B=>?_)
 cases d with
 |true=>exact J ww s1 σ H1 Q q B
 |false=>exact L ww s1 σ H1 Q q B
end
def SqL(K:DQ)(H:Hp)(a:Addr)(xs:List V):Prop:=
 Rd H a (.lst xs) \/
  ∃(o:Obj)(its:Array Value)(n:Nat),K.lookup a=some o/\o.cls=.type "list"/\o.dict=none/\o.data=.seq its n/\its.size<=sizeLine/\Vals xs its.toList
def SqT(K:DQ)(H:Hp)(a:Addr)(xs:List V):Prop:=
 Rd H a (.tup xs) \/
  ∃(o:Obj)(its:Array Value)(n:Nat),K.lookup a=some o/\o.cls=.type "tuple"/\o.data=.seq its n/\its.size<=sizeLine/\Vals xs its.toList
noncomputable def absV:Value->Option V
 |.none=>some .non
 |.bool b=>some (.bl b)
 |.int i _=>some (.int i)
 |.str x _=>some (.str x)
 |.bytes b _=>some (.byt b)
 |.float b _=>some (.flt b)
 |.ref a=>some (.ref a)
 |.type n=>some (.ty n)
 |_=>none
def RelV.abs(r:RelV x u):absV u=some x:=by
 cases x with
 |non=>cases r;rfl
 |bl _=>cases r;rfl
 |int _=>obtain⟨t,rfl⟩:=r;rfl
 |str _=>obtain⟨t,rfl⟩:=r;rfl
 |byt _=>obtain⟨t,rfl⟩:=r;rfl
 |flt _=>obtain⟨t,rfl⟩:=r;rfl
 |ref _=>cases r;rfl
 |ty _=>cases r;rfl
def RelV.inj(r:RelV x u)(q:RelV y u):x=y:=Av (r.abs.symm.trans q.abs)
theorem Vals.inj:∀{xs ys}{us},Vals xs us->Vals ys us->xs=ys
 |_,_,_,.nil,.nil=>rfl
 |_,_,_,.cons r t,.cons q t'=>by rw[r.inj q,Vals.inj t t']
section
variable{X:Cx}{ww:List (Addr×Obj)}{σ:St}{H:Hp}{s:Shared}{a:Addr}{xs ys:List V}
def SqL.of{K}(h:H a=some (.lst xs)):SqL K H a xs:=.inl (.inl h)
def SqT.of{K}(h:H a=some (.tup xs)):SqT K H a xs:=.inl (.inl h)
def Inv.list(I:Inv X ww σ H s)(h:SqL X.K H a xs):∃its,Vals xs its/\PlainL s.heap a its.toArray/\xs.length<=sizeLine:=by
 rcases h with h|⟨o,its,n,J,q,B,hs,L,r⟩
 .obtain⟨z,its,n,r,e⟩:=h.ok I.hok
  exact⟨its,r,⟨_,n,e,rfl,rfl,rfl⟩,z⟩
 .refine⟨its.toList,r,⟨o,n,I.kIn a o J,q,B,by simpa using hs⟩,?_⟩
  have e:=r.length
  simp only[Array.length_toList] at e
  lia
def Inv.tuple(I:Inv X ww σ H s)(h:SqT X.K H a xs):∃its,Vals xs its/\IsTup s.heap a its.toArray/\xs.length<=sizeLine:=by
 rcases h with h|⟨o,its,n,B,q,hs,J,r⟩
 .obtain⟨z,its,r,p⟩:=h.ok I.hok
  exact⟨its,r,iy.is p,z⟩
 .refine⟨its.toList,r,⟨o,I.kIn a o B,q,n,by simpa using hs⟩,?_⟩
  have e:=r.length
  simp only[Array.length_toList] at e
  lia
def Inv.list_inj(I:Inv X ww σ H s)(h:SqL X.K H a xs)(h':SqL X.K H a ys):xs=ys:=by
 obtain⟨its,r,⟨o,n,e,_,_,d⟩,_⟩:=I.list h;obtain⟨its',B,⟨o',J,q,_,_,d'⟩,_⟩:=I.list h';rw[e] at q;cases q
 rw[d] at d';injection d' with d1 _
 have:its=its':=by lia
 subst this;exact r.inj B
def Inv.tuple_inj(I:Inv X ww σ H s)(h:SqT X.K H a xs)(h':SqT X.K H a ys):xs=ys:=by
 obtain⟨its,r,⟨o,e,_,n,d⟩,_⟩:=I.tuple h;obtain⟨its',B,⟨o',q,_,J,d'⟩,_⟩:=I.tuple h';rw[e] at q;cases q
 rw[d] at d';injection d' with d1 _
 have:its=its':=by lia
 subst this;exact r.inj B
end
abbrev Cx.wish(X:Cx)(E:Value->Shared->Prop):Cx:={ X with xe:=E }
abbrev Cx.nox(X:Cx):Cx:=X.wish λ_ _=>False
def Cx.Ok.wish{X:Cx}(q:X.Ok)E:(X.wish E).Ok:=
 ⟨q.mod,q.kind,q.glob,q.blt,q.above,q.inj,q.has,q.cab,q.hd,q.frames,q.stk,q.exf,q.bs,q.bsz,q.noex,q.exfs,q.funs,q.frf⟩
def Cx.Ok.unwish{X:Cx}(q:(X.wish E).Ok):X.Ok:=
 ⟨q.mod,q.kind,q.glob,q.blt,q.above,q.inj,q.has,q.cab,q.hd,q.frames,q.stk,q.exf,q.bs,q.bsz,q.noex,q.exfs,q.funs,q.frf⟩
section
variable{X:Cx}{ww:List (Addr×Obj)}{σ:St}{H:Hp}{s:Shared}{E:Value->Shared->Prop}
def Inv.wish(I:Inv X ww σ H s)E:Inv (X.wish E) ww σ H s:=⟨I.ok.wish E,I.os,I.bare,I.base,I.loc,I.cell,I.free,I.freeC,I.pin,I.hok,I.len⟩
def Inv.unwish(I:Inv (X.wish E) ww σ H s):Inv X ww σ H s:=⟨I.ok.unwish,I.os,I.bare,I.base,I.loc,I.cell,I.free,I.freeC,I.pin,I.hok,I.len⟩
def SP.unwish(h:SP (X.wish E) ww D f s'):SP X ww D f s':=by
 cases f with
 |next=>obtain⟨B,H',I,q⟩:=h;exact⟨B,H',I.unwish,q⟩
 |brk=>obtain⟨B,H',I,q⟩:=h;exact⟨B,H',I.unwish,q⟩
 |cont=>obtain⟨B,H',I,q⟩:=h;exact⟨B,H',I.unwish,q⟩
 |ret u=>exact bF h λv B H' I r q=>⟨v,B,H',I.unwish,r,q⟩
def PT.nox(h:PT X.nox e t):PT X e t:=λww s σ H Q I J=>
 BA (h ww s σ H Q (I.wish _) J) (λ_ _ L=>oX L λH' B q=>⟨H',B.unwish,q⟩) λ_ _ z=>False.elim z
def PSs.nox{st}(h:PSs X.nox st t):PSs X st t:=λww s σ H D I B=>
 BA (h ww s σ H D (I.wish _) B) (λ_ _ q=>q.unwish) λ_ _ z=>False.elim z
end
section
variable{X:Cx}{st:Stmt}{dX:List Stmt}{t u:TS}{e:Expr}{te:TE}{pos:Pos}
def tNext:TS:=λD σ H=>D.nx σ H
def tSeq(t u:TS):TS:=λD σ H=>t { D with nx:=u D } σ H
def vA:PSs X [] tNext:=λ_ _ σ H _ I h=>Bx ⟨σ,H,I,h⟩
def gK(h1:PS X st t)(h2:PSs X dX u):PSs X (st::dX) (tSeq t u):=by
 intro ww s σ H D I h;refine wpAny_execs_cons (thn (h1 ww s σ H { D with nx:=u D } I h) λf s1 q=>?_)
 cases f with
 |next =>
  exact mM q λJ H' B q=>h2 ww s1 J H' D B q
 |ret v=>exact q
 |brk=>exact q
 |cont=>exact q
def cU(h1:PS X st t):PSs X [st] t:=by
 intro ww s σ H D I h;refine wpAny_execs_cons (thn (h1 ww s σ H D I h) λf s1 q=>?_)
 cases f with
 |next=>exact Bx q
 |ret v=>exact q
 |brk=>exact q
 |cont=>exact q
def Inv.quiet{σ:St}(I:Inv X ww σ H s):interactive X.env=false:=by simp[interactive,I.ok.kind]
def tDrop(te:TE):TS:=λD σ H=>te σ H λ_ H1=>D.nx σ H1
def Z5(B:PE X e te)(hs:swapsWith e none pos.line X.env=pure false:=by rfl):PS X (.Expr e pos) (tDrop te):=by
 intro ww s σ H D I h;exact wpAny_Expr_any (thn (B ww s σ H _ I h) λv s1 L=>rZ L λx H1 q O J=>⟨σ,H1,q,J⟩) I.quiet hs
def tRet(te:TE):TS:=λD σ H=>te σ H D.rt
def X4(B:PE X e te):PS X (.Return (some e) pos) (tRet te):=by
 intro ww s σ H D I h;exact wpAny_Return_some (thn (B ww s σ H _ I h) λv s1 O=>rZ O λx H1 q L J=>⟨x,σ,H1,q,L,J⟩)
def tIfS(c:TT)(t u:TS):TS:=λD σ H=>c σ H λb H1=>if b=true then t D σ H1 else u D σ H1
def V1(O:PT X c tc)(J:PSs X a t)(L:PSs X b u):PS X (.If c a b pos) (tIfS tc t u):=by
 intro ww s σ H D I h;refine wpAny_If (thn (O ww s σ H _ I h) λd s1 U=>oX U λH1 q B=>?_)
 cases d with
 |true=>exact J ww s1 σ H1 D q B
 |false=>exact L ww s1 σ H1 D q B
end
abbrev TG:=V->St->Hp->(St->Hp->Prop)->Prop
abbrev TGs:=List V->St->Hp->(St->Hp->Prop)->Prop
def PG(X:Cx)(B:Expr)(t:TG):Prop:=
 ∀(ww:List (Addr×Obj))(s:Shared)(σ:St)(H:Hp)(v:V)(u:Value)(Q:St->Hp->Prop),Inv X ww σ H s->RelV v u->t v σ H Q ->
  wpAny (model X.prog X.w) X.A (assign B X.env u) (λ_ s'=>∃q H',Inv X ww q H' s'/\Q q H') X.xe s
def PGs(X:Cx)(ts:List Expr)(t:TGs):Prop:=
 ∀(ww:List (Addr×Obj))(s:Shared)(σ:St)(H:Hp)(vs:List V)(us:List Value)(Q:St->Hp->Prop),Inv X ww σ H s->Vals vs us->t vs σ H Q ->
  wpAny (model X.prog X.w) X.A (assignInOrder ((assignEach ts X.env).map (·.2)) us) (λ_ s'=>∃q H',Inv X ww q H' s'/\Q q H') X.xe s
abbrev TSet:=V->V->V->Hp->(Hp->Prop)->Prop
def PSet(X:Cx)(t:TSet):Prop:=
 ∀(ww:List (Addr×Obj))(s:Shared)(σ:St)(H:Hp)(o i v:V)(B q u:Value)(Q:Hp->Prop),Inv X ww σ H s->RelV o B->RelV i q->RelV v u->t o i v H Q ->
  wpAny (model X.prog X.w) X.A (setItem B q u) (λ_ s'=>∃H',Inv X ww σ H' s'/\Q H') X.xe s
abbrev TIp:=V->V->Hp->VK->Prop
def PIp(X:Cx)(q:Operator)(t:TIp):Prop:=
 ∀(ww:List (Addr×Obj))(s:Shared)(σ:St)(H:Hp)(x y:V)(v u:Value)(Q:VK),Inv X ww σ H s->RelV x v->RelV y u->t x y H Q ->
  wpAny (model X.prog X.w) X.A (inplaceOp q v u) (EP X ww σ Q) X.xe s
section
variable{X:Cx}{pos:Pos}
def uB(i:Nat):TG:=λv σ H Q=>Q (σ.set i (some v)) H
def jD(B:X.N.Nodup)(hi:X.N[i]?=some x)(L:Loc X.env.scope x)(J:X.fn x=true\/X.env.scope.names.lookup x=some .local:=by first|exact .inl rfl|exact .inr rfl|assumption):PG X (.Name x pos) (uB i):=by
 intro ww s σ H v u Q I r h;exact wpAny_assign_Name (kU I B hi L r (λs' q=>⟨_,H,q,h⟩) J)
def gNil:TGs:=λvs σ H Q=>vs=[]/\Q σ H
def fP(t:TG)(u:TGs):TGs:=λvs σ H Q=>∃v r,vs=v::r/\t v σ H λq H'=>u r q H' Q
def Z6:PGs X [] gNil:=by
 intro ww s σ H vs us Q I r h;obtain⟨rfl,h⟩:=h;cases r;exact assignInOrder_nil ⟨σ,H,I,h⟩
def xC(h1:PG X e t)(h2:PGs X es u)(hs:(assignEach (e::es) X.env).map (·.2)=assign e X.env::(assignEach es X.env).map (·.2):=by rfl):PGs X (e::es) (fP t u):=by
 intro ww s σ H vs us Q I r h;obtain⟨v,U,rfl,h⟩:=h
 cases r with
 |cons r J =>
  exact hs▸assignInOrder_cons (thn (h1 ww s σ H _ _ _ I r h) λ_ s1 L=>mM L λO H1 q B=>h2 ww s1 O H1 _ _ Q q J B)
def gTup(K:DQ)(n:Nat)(t:TGs):TG:=λv σ H Q=>∃a xs,v=.ref a/\SqT K H a xs/\xs.length=n/\t xs σ H Q
def V8{k}(J:X.calm=true)(h:PGs X es t)(O:(assignEach es X.env).length=n:=by rfl)(Y:(assignEach es X.env).findIdx? (·.1)=none:=by rfl):PG X (.Tuple es k pos) (gTup X.K n t):=by
 intro ww s σ H v u Q I r q;obtain⟨a,xs,rfl,U,L,q⟩:=q;cases r;refine oK (I.tuple U) λits rv Z hz=>assign_Tuple_tuple (I.ok.hd J) Z (by simp[O,<- L,rv.length]) Y λh' hx=>?_;have B:=I.kept (t':=s.toks) λb o e=>hx b o (Ai (AS e)) e;exact h ww _ σ H xs _ Q B ir q
def gSub(to B:TE)(t:TSet):TG:=λv σ H Q=>to σ H λo H1=>B σ H1 λi H2=>t o i v H2 λq=>Q σ q
def pg_sub(Z:PE X o to)(hi:PE X i ti)(hs:PSet X t)(ha:∀v,assign (.Subscript o i pos) X.env v=(do
   let q <- holding [v] (eval o X.env)
   let B <- holding [v,q] (eval i X.env)
   standAt pos
   holding [v,q,B] (setItem q B v)
   release [v,q,B] []):=by intro _;rfl):PG X (.Subscript o i pos) (gSub to ti t):=by
 intro ww s σ H v u Q I r h;exact AC (BF (thn (Z ww s σ H _ I h) λq s1 J=>rZ J λx H1 O r1 q1=>AC (BF (thn (hi ww s1 σ H1 _ O q1) λB aa J=>rZ J λy H2 U r2 q2=>AC (Bl (AC (BF (thn (hs ww aa σ H2 x y v q B u _ U r1 r2 r q2) λ_ ab J=>oX J λL Y q3=>wpAny_release ⟨σ,L,Y,q3⟩))))))))
def tAsg(te:TE)(g:TG):TS:=λD σ H=>te σ H λx H1=>g x σ H1 D.nx
def ps_asg(J:PE X e te)(L:PG X tg g)(hs:swapsWithSole [tg] e pos.line X.env=pure false:=by rfl)(O:swappedStores [tg] e X.env=pure none:=by rfl)(h1:(assignEach [tg] X.env).map (·.2)=[assign tg X.env]:=by rfl):PS X (.Assign [tg] e pos) (tAsg te g):=by
 intro ww s σ H D I h;refine wpAny_Assign_stores (thn (J ww s σ H _ I h) λv s1 Z=>rZ Z λx H1 B Y U=>?_) hs O;rw[h1];exact thn (L ww s1 σ H1 x v _ B Y U) λ_ aa q=>q
def VZ(J:X.N.Nodup)(hi:X.N[i]?=some x)(U:Loc X.env.scope x)(L:PE X e te)(hs:swapsWith e (some (.Name x pos')) pos.line X.env=pure false:=by rfl)(O:X.fn x=true\/X.env.scope.names.lookup x=some .local:=by first|exact .inl rfl|exact .inr rfl|assumption):
  PS X (.Assign [.Name x pos'] e pos) (tAsg te (uB i)):=by
 intro ww s σ H D I h;exact wpAny_Assign_Name (thn (L ww s σ H _ I h) λv s1 zz=>rZ zz λy H1 q Z Y=>kU q J hi U Z (λaa B=>⟨_,H1,B,Y⟩) O) hs
def tAug(i:Nat)(te:TE)(q:TIp):TS:=λD σ H=>∃x,σ[i]?=some (some x)/\te σ H λy H1=>q x y H1 λz H2=>D.nx (σ.set i (some z)) H2
def ps_aug(hN:X.N.Nodup)(hi:X.N[i]?=some x)(B:Loc X.env.scope x)(ab:PE X e te)(ho:PIp X O ti)(ae:X.fn x=true\/X.env.scope.names.lookup x=some .local:=by first|exact .inl rfl|exact .inr rfl|assumption):
  PS X (.AugAssign (.Name x pos') O e pos) (tAug i te ti):=by
 intro ww s σ H D I h;refine oX h λv e1 h=>oX I.loc λm hn hl=>?_;have ai:Vis X.env.scope x:=by rcases B with k|k;exact .inl k;exact .inr (.inl k)
 refine oX (hl i x v hi e1 ai) λu r l=>wpAny_AugAssign_Name ?_;have L:wpAny (model X.prog X.w) X.A (eval e X.env) (λw ag=>wpAny (model X.prog X.w) X.A (inplaceOp O u w) (λr ah=>wpAny (model X.prog X.w) X.A (storeName X.env x r) (λ_=>SP X ww D .next) X.xe ah) X.xe ag) X.xe s:=thn (ab ww s σ H _ I h) λw s1 J=>rZ J λy H1 U r1 q1=>thn (ho ww s1 σ H1 v y u w _ U r r1 q1) λz aj J=>rZ J λzv H2 Y r2 q2=>kU Y hN hi B r2 (λak Z=>⟨_,H2,Z,q2⟩) ae
 rcases l with ⟨q,af⟩|⟨q,c,hc,aa⟩
 .exact wpAny_loadName_local I.ok.kind q hn af L
 .rcases q with q|q
  .exact wpAny_loadName_cell I.ok.kind q hc aa L
  .rcases B with k|k
   .have:X.env.scope.names.lookup x=some .free:=q
    rw[k] at this;cases this
   .have:X.env.scope.names.lookup x=some .free:=q
    rw[k] at this;cases this
def tWhile(c:TT)(tb:TS):TS:=λD σ H=>∃W:Nat->St->Hp->Prop,(∃m,W m σ H)/\∀m σ H,W m σ H ->
 c σ H λb H1=>if b=true then ∃N:St->Hp->Prop,(∀B H',N B H'->∃q,q<m/\W q B H')/\tb { D with nx:=N,ct:=N,bk:=D.nx } σ H1 else D.nx σ H1
def VY(hp:PassesOwn (model X.prog X.w) X.A X.env X.xe)(hc:PT X c tc)(hb:PSs X ae tb):PS X (.While c ae [] pos) (tWhile tc tb):=by
 intro ww s σ H D I h;obtain⟨W,⟨af,w0⟩,ah⟩:=h;refine wpAny_While (codeAny_whileLoop (λn s'=>∃ab H',Inv X ww ab H' s'/\W n ab H') ?_ af ⟨σ,H,I,w0⟩);rintro n s1 ⟨O,H1,I1,w1⟩;refine Bk hp (thn (hc ww s1 O H1 _ I1 (ah n O H1 w1)) λb ag zz=>oX zz λH2 I2 J=>?_)
 cases b with
 |true =>
  refine oX J λN hN J=>Bk hp (thn (hb ww ag O H2 _ I2 J) λf ai L=>?_)
  cases f with
  |next =>
   obtain⟨B,q,U,n3⟩:=L;obtain⟨Z,Y,aa⟩:=hN B q n3;exact⟨Z,Y,B,q,U,aa⟩
  |cont =>
   obtain⟨B,q,U,n3⟩:=L;obtain⟨Z,Y,aa⟩:=hN B q n3;exact⟨Z,Y,B,q,U,aa⟩
  |brk=>exact L
  |ret v=>exact L
 |false =>
  exact(A7 AV)▸Bx ⟨O,H2,I2,J⟩
end
structure It where
 go:Nat->Hp->Prop
 yld:Nat->Hp->V->Hp->Prop
 stop:Nat->Hp->Prop
def Qj(X:Cx)(ww:List (Addr×Obj))(H:Hp)(b:Addr):Prop:=
 H b=none/\b≠X.env.locals/\b∉X.fs/\(b∈X.ex\/X.s₀.heap.objs.size<=b)/\(∀x c,X.env.cells.lookup x=some c->c≠b)/\∀p∈X.pn++ww,p.1≠b
def Inv.fpOk{σ:St}{b:Addr}(I:Inv X ww σ H s)(B:s.heap.objs.size<=b)(J:H' b=none):Qj X ww H' b:=by
 refine⟨J,CM (AE I.lt B),I.nofs B,.inr (AK I.sz B),λx c e z=>?_,λp L z=>?_⟩
 .obtain⟨v,q⟩:=I.cell x c e
  exact absurd (AE q.lt (by rwa[z])) (Bg _)
 .exact absurd (AE (AS (I.pin p L).1) (by rwa[z])) (Bg _)
structure XA(P:Program)(w:World)(K:DQ)(tg:Expr)(J:It)(fp:List Addr)(it:Addr)(tn:Nat->Heap->Prop):Prop where
 mem:it∈fp
 obj:∀i h,tn i h->∀b∈fp,∃o,h.get? b=some o/\∀v,o.data≠.cell v
 keep:∀i h h',tn i h->(∀b∈fp,∀o,h.get? b=some o->h'.get? b=some o)->tn i h'
 item:∀(X:Cx),X.prog=P->X.w=w->X.K=K->X.calm=true->∀(i:Nat)(ww:List (Addr×Obj))(s:Shared)(σ:St)(H:Hp)(E:Value->Shared->Prop),Inv X ww σ H s->(∀b∈fp,Qj X ww H b)->tn i s.heap->J.go i H ->
  wpAny (model P w) X.A (pyNext (.ref it)) (λr s1=>∃u,r=some u /\
   wpAny (model P w) X.A (letOwnedTupleGo tg (.ref it) u) (λ_ s2=>∃x H',Inv X ww σ H' s2/\RelV x u/\J.yld i H x H'/\tn (i+1) s2.heap/\∀b∈fp,H' b=none) E s1) E s
 done:∀(X:Cx),X.prog=P->X.w=w->X.K=K->X.calm=true->∀(i:Nat)(ww:List (Addr×Obj))(s:Shared)(σ:St)(H:Hp)(E:Value->Shared->Prop),Inv X ww σ H s->(∀b∈fp,Qj X ww H b)->tn i s.heap->J.stop i H ->
  wpAny (model P w) X.A (pyNext (.ref it)) (λr s1=>r=none/\Inv X ww σ H s1) E s
 self:∀(A:Around)(i:Nat)(s:Shared)(Q:Value->Shared->Prop)(E:Value->Shared->Prop),tn i s.heap->Q (.ref it) s->wpAny (model P w) A (pyIter (.ref it)) Q E s
abbrev TI:=St->Hp->(It->Hp->Prop)->Prop
def PIE(X:Cx)(ww:List (Addr×Obj))(σ:St)(tg:Expr)(R:It->Hp->Prop)(O:Value)(B:Shared):Prop:=
 ∃(it:Addr)(q:List Addr)(L:Nat->Heap->Prop)(J:It)(H':Hp),O=.ref it/\Inv X ww σ H' B/\XA X.prog X.w X.K tg J q it L/\L 0 B.heap/\(∀b∈q,Qj X ww H' b)/\R J H'
def PI(X:Cx)(tg q:Expr)(B:TI):Prop:=
 ∀(ww:List (Addr×Obj))(s:Shared)(σ:St)(H:Hp)(R:It->Hp->Prop),Inv X ww σ H s->B σ H R ->
  wpAny (model X.prog X.w) X.A (eval q X.env) (λv s1=>wpAny (model X.prog X.w) X.A (pyIter v) (PIE X ww σ tg R) X.xe s1) X.xe s
def Q4(L:s.heap.get? it=some o)(B:o.cls=.type n)(J:o.data=.fields vs)(O:["enumerate","zip","dict_itemiterator","dict_reverseitemiterator","odict_iterator","itertools.zip_longest","itertools.pairwise"].contains n=false)(q:Q () s):wpAny M A (letOwnedTupleGo tg (.ref it) u) Q E s:=by
 cases tg<;>first
  |exact AN q
  | (cases u<;>first
    |exact AN q
    | (refine AC (Bo L ?_)
       rw[B,J];show wpAny M A (if(["enumerate","zip","dict_itemiterator","dict_reverseitemiterator","odict_iterator","itertools.zip_longest","itertools.pairwise"].contains n&&vs[0]?==some (rawInt _))=true then _ else _) Q E s;rw[A7 ir]
       exact AN q))
def Itl(K:DQ)(a:Addr):It:=
 ⟨λi H=>∃xs x,SqL K H a xs/\xs[i]?=some x,λi H x H'=>H'=H/\∀xs,SqL K H a xs->xs[i]?=some x,λi H=>∃xs,SqL K H a xs/\xs.length<=i⟩
noncomputable def Itt(K:DQ)(a:Addr):It:=
 ⟨λi H=>∃xs x,SqT K H a xs/\xs[i]?=some x,λi H x H'=>H'=H/\∀xs,SqT K H a xs->xs[i]?=some x,λi H=>∃xs,SqT K H a xs/\xs.length<=i⟩
def Itr(lo:Int)(n:Nat):It:=⟨λi _=>i<n,λi H x H'=>H'=H/\x=.int (lo+i),λi _=>n<=i⟩
def Kd{K}a it:XA P w K tg (Itl K a) [it] it (λi h=>h.IsListIter it a i) where
 mem:=by simp
 obj:=λi h st b q=>by
  have e:b=it:=by grind
  subst e;exact oK st λo e c d=>⟨o,e,λv z=>by rw[d] at z;cases z⟩
 keep:=λi h h' st k=>st.at λo e=>k it ue o e
 item:=by
  intro X hP ab Z hc i ww s σ H E I B st aa;subst hP ab Z;refine mM aa λxs x J hx=>oK (I.list J) λits rv p hz=>oX (rv.get hx) λu hu ru=>mR (B it ue) λf0 L af O U Y=>?_;refine wpAny_pyNext_list_item st p.isList (by simpa using hu) λh' ae sb=>?_;have I1:=I.turned (t':=s.toks) (λb o q e=>(sb.2 b q).trans e) f0 L O U Y;exact oK (id ae) λo e c d=>⟨u,rfl,Q4 e c d rfl ⟨x,H,I1,ru,⟨rfl,λys hy=>by rwa[I.list_inj hy J]⟩,ae,λb q=>(B b q).1⟩⟩
 done:=by
  intro X hP ab Z hc i ww s σ H E I B st aa;subst hP ab Z;refine oX aa λxs J hx=>oK (I.list J) λits rv p hz=>mR (B it ue) λf0 L af O U Y=>?_;have hl:=rv.length;exact wpAny_pyNext_list_end (I.ok.hd hc) st p.isList (by simp;lia) λh' eb=>⟨rfl,I.turned (t':=s.toks) (λb o q e=>eb b o q e) f0 L O U Y⟩
 self:=λ_ _ _ _ _ st h=>wpAny_pyIter_listiter st h
def XX{K}a it:XA P w K tg (Itt K a) [it] it (λi h=>h.IsTupleIter it a i) where
 mem:=by simp
 obj:=λi h st b q=>by
  have e:b=it:=by grind
  subst e;exact oK st λo e c d=>⟨o,e,λv z=>by rw[d] at z;cases z⟩
 keep:=λi h h' st k=>st.at λo e=>k it ue o e
 item:=by
  intro X hP ab Z hc i ww s σ H E I B st aa;subst hP ab Z;refine mM aa λxs x J hx=>oK (I.tuple J) λits rv p hz=>oX (rv.get hx) λu hu ru=>mR (B it ue) λf0 L af O U Y=>?_;refine wpAny_pyNext_tuple_item st p (by simpa using hu) λh' ae sb=>?_;have I1:=I.turned (t':=s.toks) (λb o q e=>(sb.2 b q).trans e) f0 L O U Y;exact oK (id ae) λo e c d=>⟨u,rfl,Q4 e c d rfl ⟨x,H,I1,ru,⟨rfl,λys hy=>by rwa[I.tuple_inj hy J]⟩,ae,λb q=>(B b q).1⟩⟩
 done:=by
  intro X hP ab Z hc i ww s σ H E I B st aa;subst hP ab Z;refine oX aa λxs J hx=>oK (I.tuple J) λits rv p hz=>mR (B it ue) λf0 L af O U Y=>?_;have hl:=rv.length;exact wpAny_pyNext_tuple_end (I.ok.hd hc) st p (by grind) λh' eb=>⟨rfl,I.turned (t':=s.toks) (λb o q e=>eb b o q e) f0 L O U Y⟩
 self:=λ_ _ _ _ _ st h=>wpAny_pyIter_tupleiter st h
def XY{K}it lo n:XA P w K tg (Itr lo n) [it] it (λi h=>IsRangeIter h it (lo+i*1) ( n-i ) 1) where
 mem:=by simp
 obj:=λi h st b q=>by
  have e:b=it:=by grind
  subst e
  exact⟨_,st,λv z=>by
   cases z⟩
 keep:=λi h h' st k=>k it ue _ st
 item:=by
  intro X hP ab aa Y i ww s σ H E I B st Z;subst hP ab aa;refine mR (B it ue) λf0 J af L O U=>?_;have W:=Walks.range (prog:=X.prog) (w:=X.w) (I.ok.hd Y) it lo 1 n;refine W.item i s _ _ Z st λv h' tk hv ae kk=>?_;obtain⟨t,rfl⟩:=hv;have I1:Inv X ww σ H { s with heap:=h',toks:=tk }:=I.turned (λb o q e=>kk b o (by grind) e) f0 J L O U;refine⟨_,rfl,Q4 ae rfl rfl rfl ⟨.int (lo+i),H,I1,⟨t,?_⟩,⟨rfl,rfl⟩,ae,λb q=>(B b q).1⟩⟩
  rw[Int.mul_one]
 done:=by
  intro X hP ab aa Y i ww s σ H E I B st Z;refine mR (B it ue) λf0 J af L O U=>?_;exact wpAny_pyNext_range_end (I.ok.hd Y) st (by have:n<=i:=Z;lia) λh' eb=>⟨rfl,I.turned (t':=s.toks) (λb o q e=>eb b o q e) f0 J L O U⟩
 self:=λ_ _ _ _ _ st h=>wpAny_pyIter_rangeiter st h
section
variable{X:Cx}{tg:Expr}
def iList(K:DQ)(tl:TE):TI:=λσ H R=>tl σ H λx H1=>∃a,x=.ref a/\(∃xs,SqL K H1 a xs)/\R (Itl K a) H1
def iTup(K:DQ)(tl:TE):TI:=λσ H R=>tl σ H λx H1=>∃a,x=.ref a/\(∃xs,SqT K H1 a xs)/\R (Itt K a) H1
def wA(J:PE X l tl):PI X tg l (iList X.K tl):=by
 intro ww s σ H R I h;refine thn (J ww s σ H _ I h) λv s1 Y=>rZ Y λx H1 B U O=>?_;obtain⟨a,e,⟨xs,L⟩,q⟩:=O;subst e;cases U;refine oK (B.list L) λits rv p hz=>wpAny_pyIter_list p.isList ⟨s1.heap.objs.size,[s1.heap.objs.size],_,_,H1,rfl,B.kept (t':=s1.toks) λb o e=>AO _ e,Kd a _,⟨_,Ad _ rfl,rfl,rfl⟩,λb Z=>?_,q⟩;have e:b=s1.heap.objs.size:=by grind
 subst e;exact B.fpOk (AQ _) (B.hok.fresh (AQ _))
def V7(J:PE X l tl):PI X tg l (iTup X.K tl):=by
 intro ww s σ H R I h;refine thn (J ww s σ H _ I h) λv s1 Y=>rZ Y λx H1 B U O=>?_;obtain⟨a,e,⟨xs,L⟩,q⟩:=O;subst e;cases U;refine oK (B.tuple L) λits rv p hz=>wpAny_pyIter_tuple p ⟨s1.heap.objs.size,[s1.heap.objs.size],_,_,H1,rfl,B.kept (t':=s1.toks) λb o e=>AO _ e,XX a _,⟨_,Ad _ rfl,rfl,rfl⟩,λb Z=>?_,q⟩;have e:b=s1.heap.objs.size:=by grind
 subst e;exact B.fpOk (AQ _) (B.hok.fresh (AQ _))
def VS{σ:St}{lo}(I:Inv X ww σ H s)(h1 : -(2 ^ 62)<=lo)(h2:lo<2 ^ 62)(O : -(2 ^ 62)<=hi)(U:hi<2 ^ 62)(q:R (Itr lo (hi-lo).toNat) H):wpAny (model X.prog X.w) X.A (pyIter (.ref s.heap.objs.size)) (PIE X ww σ tg R) E { s with heap:=s.heap.push { cls:=.type "range",data:=.fields #[.int lo t,.int hi u,.int 1 v] },toks:=tk }:=by
 apply wpAny_pyIter_range (IsRange.new ..) (small_one h1 h2 O U)
 have B:Inv X ww σ H { s with heap:=s.heap.push { cls:=.type "range",data:=.fields #[.int lo t,.int hi u,.int 1 v] },toks:=tk }:=I.kept λb o e=>AO _ e
 refine⟨(s.heap.push { cls:=.type "range",data:=.fields #[.int lo t,.int hi u,.int 1 v] }).objs.size,[(s.heap.push { cls:=.type "range",data:=.fields #[.int lo t,.int hi u,.int 1 v] }).objs.size],_,_,H,rfl,
  B.kept (t':=tk) λb o e=>AO _ e,XY _ lo (hi-lo).toNat,?_,λb Y=>?_,q⟩
 .have J:lo+((0:Nat):Int)*1=lo:=by simp
  have L:(((hi-lo).toNat:Nat):Int)-((0:Nat):Int)=Builtin.Range.rangeSize lo hi 1:=by rw[rangeSize_one];split<;>lia
  rw[J,L];exact Ad _ rfl
 .have e:b=(s.heap.push { cls:=.type "range",data:=.fields #[.int lo t,.int hi u,.int 1 v] }).objs.size:=by grind
  subst e;exact B.fpOk (AQ _) (B.hok.fresh (AQ _))
def iRng1(ta:TA):TI:=λσ H R=>ta σ H λvs H1=>∃j:Int,vs=[.int j]/\-(2 ^ 62)<=j/\j<2 ^ 62/\R (Itr 0 j.toNat) H1
def dO(L:Gl X "range")(O:X.mg "range"=none)(J:PA X [a] ta)(hs:starEach [a] X.env=[(false,eval a X.env)]:=by rfl):PI X tg (.Call (.Name "range" p) [a] [] pos) (iRng1 ta):=by
 intro ww s σ H R I h;refine Call_ (bL I L O boot_range (Bn (thn (J pos ww s σ H _ I h) λus s1 zz=>rZ zz λvs H1 B Y q=>?_) hs rfl));obtain⟨j,rfl,q,U,aa⟩:=q
 cases Y with
 |cons r Z =>
  cases Z;obtain⟨t,rfl⟩:=r;exact call_range_1 (VS B ir ir q U ir)
def tFor(L:TI)(g:TG)(tb:TS):TS:=λD σ H=>L σ H λJ H1=>∃W:Nat->Nat->St->Hp->Prop,(∃m,W 0 m σ H1)/\∀i m σ H,W i m σ H ->
 (J.stop i H/\D.nx σ H)\/(J.go i H/\∃N:St->Hp->Prop,(∀B H',N B H'->∃q,q<m/\W (i+1) q B H')/\∀x H',J.yld i H x H'->g x σ H' λO H2=>tb { D with nx:=N,ct:=N,bk:=D.nx } O H2)
noncomputable def jC(q:List Addr)(h:Heap):List (Addr×Obj):=q.filterMap λb=>(h.get? b).map λo=>(b,o)
def sU(B:b∈q)(e:h.get? b=some o):(b,o)∈jC q h:=List.mem_filterMap.mpr ⟨b,B,by rw[e];rfl⟩
def Kv(O:p∈jC J h):p.1∈J/\h.get? p.1=some p.2:=by
 obtain⟨b,L,e⟩:=(List.mem_filterMap.mp O)
 cases q:h.get? b with
 |none=>rw[q] at e;cases e
 |some o =>
  rw[q] at e;have B:=Av e;subst B;exact⟨L,q⟩
def Inv.pinned{σ:St}(I:Inv X ww σ H s)(U:∀b∈B,Qj X ww H b)(Y:∀b∈B,∃o,s.heap.get? b=some o/\∀v,o.data≠.cell v):Inv X (ww++jC B s.heap) σ H s:=
 I.pins_of λp Z=>(AY.mp Z).elim (λz=>I.pin p (Ay _ z)) λz=>by
  obtain⟨J,e⟩:=Kv z;refine zu (U p.1 J) λf0 L O _=>oX (Y p.1 J) λo q d=>?_;rw[e] at q;cases q
  exact⟨e,f0,L,O,d⟩
def Inv.unpinned{σ:St}(I:Inv X (ww++B) σ H s):Inv X ww σ H s:=I.pins_of λp q=>I.pin p (Ay _ (Ap _ q))
def qC(Z:PassesOwn (model X.prog X.w) X.A X.env X.xe)(hc:X.calm=true)(hi:PI X tg ak wi)(ax:PG X tg g)(J:PSs X au tb)(hs:∀x,foldedSetIterable ak X.env x=pure x:=by intro _;rfl):PS X (.For tg ak au [] pos) (tFor wi g tb):=by
 intro ww s σ H D I h;refine wpAny_For (thn (hi ww s σ H _ I h) λv s1 h1=>thn h1 λba bb h2=>?_) hs;obtain⟨it,Y,tn,a9,H2,e,I2,T,a3,ai,W,⟨az,w0⟩,a6⟩:=h2;subst e;have ag:∀{H':Hp},(∀b∈Y,H' b=none)->∀b∈Y,Qj X ww H' b:=λhn b J=>⟨hn b J,(ai b J).2⟩;refine codeAny_forLoop_any (λn s'=>∃i aa H',Inv X ww aa H' s'/\tn i s'.heap/\(∀b∈Y,H' b=none)/\W i n aa H') ?_ az ⟨0,σ,H2,I2,a3,λb J=>(ai b J).1,w0⟩
 rintro n ao ⟨i,ab,H3,I3,ar,aj,a7⟩
 rcases a6 i n ab H3 a7 with ⟨a5,qn⟩|⟨aw,N,hN,a4⟩
 .refine Bk Z (thn (T.done X rfl rfl rfl hc i ww ao ab H3 X.xe I3 (ag aj) ar a5) λr a0 U=>lL U λae I4=>?_)
  subst ae;exact Bx ⟨ab,H3,I4,qn⟩
 .refine Bk Z (thn (T.item X rfl rfl rfl hc i ww ao ab H3 X.xe I3 (ag aj) ar aw) λr a0 U=>oX U λu ae h4=>?_)
  subst ae;refine Bk Z (thn h4 λ_ aq U=>P0 U λx H5 I5 r5 y5 af av=>Bk Z (thn (ax _ aq ab H5 x u _ (I5.pinned (ag av) (T.obj _ _ af)) r5 (a4 x H5 y5)) λ_ s6 U=>mM U λa8 H6 I6 q6=>Bk Z (thn (J _ s6 a8 H6 _ I6 q6) λf s7 O=>?_)))
  have ah:∀{L:St}{q:Hp},Inv X (ww++jC Y aq.heap) L q s7->N L q->∃m,m<n/\∃i aa H',Inv X ww aa H' s7/\tn i s7.heap/\(∀b∈Y,H' b=none)/\W i m aa H':=λ{L q}B n7=>by
   obtain⟨m',ay,w7⟩:=hN L q n7;exact⟨m',ay,i+1,L,q,B.unpinned,T.keep _ _ _ af λb J o e=>(B.pin (b,o) (Ay _ (Ay _ (sU J e)))).1,λb J=>oX (T.obj _ _ af b J) λo e d=>(B.pin (b,o) (Ay _ (Ay _ (sU J e)))).2.1,w7⟩
  cases f with
  |next=>exact mM O λL q B n7=>ah B n7
  |cont=>exact mM O λL q B n7=>ah B n7
  |brk=>exact mM O λL q B O=>⟨L,q,B.unpinned,O⟩
  |ret v=>exact bF O λx7 L q B r7 O=>⟨x7,L,q,B.unpinned,r7,O⟩
end
abbrev R2:=V->V->Hp->VK->Prop
def OpR(X:Cx)(f:Value->Value->Sem Value)(r:R2):Prop:=
 ∀(ww:List (Addr×Obj))(s:Shared)(σ:St)(H:Hp)(x y:V)(v u:Value)(Q:VK),Inv X ww σ H s->RelV x v->RelV y u->r x y H Q ->
  wpAny (model X.prog X.w) X.A (f v u) (EP X ww σ Q) X.xe s
def UnR(X:Cx)(f:Value->Sem Value)(r:V->Hp->VK->Prop):Prop:=
 ∀(ww:List (Addr×Obj))(s:Shared)(σ:St)(H:Hp)(x:V)(v:Value)(Q:VK),Inv X ww σ H s->RelV x v->r x H Q ->
  wpAny (model X.prog X.w) X.A (f v) (EP X ww σ Q) X.xe s
def CallR(X:Cx)(f:Value)(r:List V->Hp->VK->Prop):Prop:=
 ∀(ww:List (Addr×Obj))(s:Shared)(σ:St)(H:Hp)(xs:List V)(us:List Value)(Q:VK),Inv X ww σ H s->Vals xs us->r xs H Q ->
  wpAny (model X.prog X.w) X.A (call f us) (EP X ww σ Q) X.xe s
def TruR(X:Cx)(r:V->Hp->(Bool->Hp->Prop)->Prop):Prop:=
 ∀(ww:List (Addr×Obj))(s:Shared)(σ:St)(H:Hp)(x:V)(v:Value)(Q:Bool->Hp->Prop),Inv X ww σ H s->RelV x v->r x H Q ->
  wpAny (model X.prog X.w) X.A (truthy v) (TP X ww σ Q) X.xe s
def tOp(r:R2)(ta tb:TE):TE:=λσ H Q=>ta σ H λx H1=>tb σ H1 λy H2=>r x y H2 Q
def tUn(r:V->Hp->VK->Prop)(ta:TE):TE:=λσ H Q=>ta σ H λx H1=>r x H1 Q
inductive II(C:Int->Int->Prop)(g:Int->Int->V)(x y:V)(H:Hp)(Q:VK):Prop
 |mk(i j:Int)(h:x=.int i)(h':y=.int j)(c:C i j)(q:Q (g i j) H)
def rI(C:Int->Int->Prop)(g:Int->Int->V):R2:=II C g
inductive II0(g:Int->Int->V)(x y:V)(H:Hp)(Q:VK):Prop
 |mk(i j:Int)(h:x=.int i)(h':y=.int j)(q:Q (g i j) H)
def rI0(g:Int->Int->V):R2:=II0 g
def rU(g:Int->V):V->Hp->VK->Prop:=λx H Q=>∃i,x=.int i/\Q (g i) H
section
variable{X:Cx}{a b c:Expr}{ta tb tc:TE}{pos:Pos}
def binT(L:PE X a ta)(O:PE X b tb){σ:St}{R:V->V->Hp->Prop}(I:Inv X ww σ H s)(h:ta σ H λx H1=>tb σ H1 λy H2=>R x y H2){f:Value->Value->Sem Value}(U:∀v u q x y H2,Inv X ww σ H2 q->RelV x v->RelV y u->R x y H2->wpAny (model X.prog X.w) X.A (f v u) Q X.xe q):
  wpAny (model X.prog X.w) X.A (eval a X.env) (λv aa=>wpAny (model X.prog X.w) X.A (eval b X.env) (λu ab=>wpAny (model X.prog X.w) X.A (f v u) Q X.xe ab) X.xe aa) X.xe s:=thn (L ww s σ H _ I h) λv s1 ⟨x,H1,B,r1,Y⟩=>thn (O ww s1 σ H1 _ B Y) λu q ⟨y,H2,J,r2,Z⟩=>U v u q x y H2 J r1 r2 Z
def pe_op(O:OpR X (binaryOp U) r)(J:PE X a ta)(L:PE X b tb):PE X (.BinOp a U b pos) (tOp r ta tb):=by
 intro ww s σ H Q I h;exact wpAny_BinOp (binT J L I h λv u aa x y H2 B Y Z q=>O ww aa σ H2 x y v u Q B Y Z q)
def pe_un(J:UnR X (unaryOp L) r)(B:PE X a ta):PE X (.UnaryOp L a pos) (tUn r ta):=by
 intro ww s σ H Q I h;exact UnaryOp_ (thn (B ww s σ H _ I h) λv s1 Y=>rZ Y λx H1 q U O=>J ww s1 σ H1 x v Q q U O)
def opI{g:Int->Int->Int}(J:∀(i j:Int)(t u:Tok)(s:Shared)(Q:Value->Shared->Prop)(E:Value->Shared->Prop),C i j->Q (.int (g i j) s.toks) { s with toks:=s.toks+1 }->wpAny (model X.prog X.w) X.A (f (.int i t) (.int j u)) Q E s):
  OpR X f (rI C λi j=>.int (g i j)):=by
 intro ww s σ H x y v u Q I L O h;obtain⟨i,j,rfl,rfl,B,q⟩:=h;obtain⟨t,rfl⟩:=L;obtain⟨t',rfl⟩:=O;exact J i j t t' s _ _ B ⟨.int (g i j),H,I.tok _,⟨_,rfl⟩,q⟩
def opI0{g:Int->Int->Int}(B:∀(i j:Int)(t u:Tok)(s:Shared)(Q:Value->Shared->Prop)(E:Value->Shared->Prop),Q (.int (g i j) s.toks) { s with toks:=s.toks+1 }->wpAny (model X.prog X.w) X.A (f (.int i t) (.int j u)) Q E s):
  OpR X f (rI0 λi j=>.int (g i j)):=by
 intro ww s σ H x y v u Q I J L h;obtain⟨i,j,rfl,rfl,q⟩:=h;obtain⟨t,rfl⟩:=J;obtain⟨t',rfl⟩:=L;exact B i j t t' s _ _ ⟨.int (g i j),H,I.tok _,⟨_,rfl⟩,q⟩
def opB0{g:Int->Int->Bool}(B:∀(i j:Int)(t u:Tok)(s:Shared)(Q:Value->Shared->Prop)(E:Value->Shared->Prop),Q (.bool (g i j)) s->wpAny (model X.prog X.w) X.A (f (.int i t) (.int j u)) Q E s):
  OpR X f (rI0 λi j=>.bl (g i j)):=by
 intro ww s σ H x y v u Q I J L h;obtain⟨i,j,rfl,rfl,q⟩:=h;obtain⟨t,rfl⟩:=J;obtain⟨t',rfl⟩:=L;exact B i j t t' s _ _ ⟨.bl (g i j),H,I,rfl,q⟩
def CPow(i j:Int):Prop:=0<=j/\j<=1000000/\i.natAbs<2 ^ 64
def CMul(i j:Int):Prop:=(-(2 ^ 64)<i/\i<2 ^ 64)\/(-(2 ^ 64)<j/\j<2 ^ 64)
def CMul.ok(h:CMul i j):IntMulOk i j:=by
 rcases h with ⟨h1,h2⟩|⟨h1,h2⟩
 .exact .of_left (intBits_le_64 h1 h2)
 .exact .of_right (intBits_le_64 h1 h2)
def op_add:OpR X (binaryOp .Add) (rI0 λi j=>.int (i+j)):=opI0 λ_ _ _ _ _ _ _ q=>add_int q
def wL:OpR X (binaryOp .Sub) (rI0 λi j=>.int (i-j)):=opI0 λ_ _ _ _ _ _ _ q=>sub_int q
def yC:OpR X (binaryOp .Mult) (rI CMul λi j=>.int (i*j)):=opI λ_ _ _ _ _ _ _ B q=>mul_int q B.ok
def qM:OpR X (binaryOp .Mod) (rI (λ_ j=>0<j) λi j=>.int (i % j)):=opI λi j _ _ _ _ _ B q=>mod_int' ir (by grind)
def bA:OpR X (binaryOp .Pow) (rI CPow λi j=>.int (i ^ j.toNat)):=opI λ_ _ _ _ _ _ _ B q=>pow_int_small B.1 B.2.1 B.2.2 q
def unI{g:Int->Int}(B:∀(i:Int)(t:Tok)(s:Shared)(Q:Value->Shared->Prop)(E:Value->Shared->Prop),Q (.int (g i) s.toks) { s with toks:=s.toks+1 }->wpAny (model X.prog X.w) X.A (f (.int i t)) Q E s):
  UnR X f (rU λi=>.int (g i)):=by
 intro ww s σ H x v Q I J h;obtain⟨i,rfl,q⟩:=h;obtain⟨t,rfl⟩:=J;exact B i t s _ _ ⟨.int (g i),H,I.tok _,⟨_,rfl⟩,q⟩
def tK:UnR X (unaryOp .USub) (rU λi=>.int (-i)):=unI λ_ _ _ _ _ q=>neg_int q
end
noncomputable def scal:V->V->Bool
 |.non,.non=>true | .non,.int _=>true | .int _,.non=>true | .non,.bl _=>true | .bl _,.non=>true | .non,.str _=>true | .str _,.non=>true
 |.int _,.int _=>true | .bl _,.bl _=>true | .str _,.str _=>true | .byt _,.byt _=>true
 |.int _,.str _=>true | .str _,.int _=>true | .bl _,.str _=>true | .str _,.bl _=>true
 |_,_=>false
def rEq:R2:=λx y H Q=>scal x y=true/\Q (.bl (decide (x=y))) H
def rNe:R2:=λx y H Q=>scal x y=true/\Q (.bl (!decide (x=y))) H
def Jx:decide (V.int i=V.int j)=(i==j):=by grind
def Yp:decide (V.bl i=V.bl j)=(i==j):=by grind
def Jw:decide (V.str i=V.str j)=(i==j):=by grind
def Jy:decide (V.byt i=V.byt j)=(i.toList==j.toList):=by
 rw[Bool.eq_iff_iff];cases i;cases j
 simp
section
variable{X:Cx}{a b c:Expr}{ta tb tc:TE}{pos:Pos}
def dZ{σ:St}(I:Inv X ww σ H s)(q:Q (.bl k) H)(e:k=B):EP X ww σ Q (.bool B) s:=by
 subst e;exact⟨.bl k,H,I,rfl,q⟩
def rX:OpR X (compareOp .Eq) rEq:=by
 intro ww s σ H x y v u Q I J B h;obtain⟨hs,q⟩:=h
 cases x with
 |non =>
  cases J
  cases y with
  |non=>cases B;exact PySem.EqNone.eq_none_none (dZ I q ue)
  |bl j=>cases B;exact PySem.EqNone.eq_none_bool (dZ I q ue)
  |int j=>obtain⟨t',rfl⟩:=B;exact PySem.EqNone.eq_none_int (dZ I q ue)
  |str j=>obtain⟨t',rfl⟩:=B;exact PySem.EqNone.eq_none_str (dZ I q ue)
  |_=>exact absurd hs AV
 |bl i =>
  cases J
  cases y with
  |non=>cases B;exact PySem.EqNone.eq_bool_none (dZ I q ue)
  |bl j=>cases B;exact eq_bool (dZ I q Yp)
  |str j=>obtain⟨t',rfl⟩:=B;exact PySem.EqMixed.eq_bool_str (dZ I q ue)
  |_=>exact absurd hs AV
 |int i =>
  obtain⟨t,rfl⟩:=J
  cases y with
  |non=>cases B;exact PySem.EqNone.eq_int_none (dZ I q ue)
  |int j=>obtain⟨t',rfl⟩:=B;exact eq_int (dZ I q Jx)
  |str j=>obtain⟨t',rfl⟩:=B;exact PySem.EqMixed.eq_int_str (dZ I q ue)
  |_=>exact absurd hs AV
 |str i =>
  obtain⟨t,rfl⟩:=J
  cases y with
  |non=>cases B;exact PySem.EqNone.eq_str_none (dZ I q ue)
  |bl j=>cases B;exact PySem.EqMixed.eq_str_bool (dZ I q ue)
  |int j=>obtain⟨t',rfl⟩:=B;exact PySem.EqMixed.eq_str_int (dZ I q ue)
  |str j=>obtain⟨t',rfl⟩:=B;exact eq_str (dZ I q Jw)
  |_=>exact absurd hs AV
 |byt i =>
  obtain⟨t,rfl⟩:=J
  cases y with
  |byt j=>obtain⟨t',rfl⟩:=B;exact PySem.W.eq_bytes (dZ I q Jy)
  |_=>exact absurd hs AV
 |_=>cases y<;>exact absurd hs AV
def xY:OpR X (compareOp .NotEq) rNe:=by
 intro ww s σ H x y v u Q I J B h;obtain⟨hs,q⟩:=h
 cases x with
 |non =>
  cases J
  cases y with
  |non=>cases B;exact PySem.EqNone.ne_none_none (dZ I q ue)
  |bl j=>cases B;exact PySem.EqNone.ne_none_bool (dZ I q ue)
  |int j=>obtain⟨t',rfl⟩:=B;exact PySem.EqNone.ne_none_int (dZ I q ue)
  |str j=>obtain⟨t',rfl⟩:=B;exact PySem.EqNone.ne_none_str (dZ I q ue)
  |_=>exact absurd hs AV
 |bl i =>
  cases J
  cases y with
  |non=>cases B;exact PySem.EqNone.ne_bool_none (dZ I q ue)
  |bl j=>cases B;exact ne_bool (dZ I q (A9 not Yp))
  |str j=>obtain⟨t',rfl⟩:=B;exact PySem.EqMixed.ne_bool_str (dZ I q ue)
  |_=>exact absurd hs AV
 |int i =>
  obtain⟨t,rfl⟩:=J
  cases y with
  |non=>cases B;exact PySem.EqNone.ne_int_none (dZ I q ue)
  |int j=>obtain⟨t',rfl⟩:=B;exact ne_int (dZ I q (A9 not Jx))
  |str j=>obtain⟨t',rfl⟩:=B;exact PySem.EqMixed.ne_int_str (dZ I q ue)
  |_=>exact absurd hs AV
 |str i =>
  obtain⟨t,rfl⟩:=J
  cases y with
  |non=>cases B;exact PySem.EqNone.ne_str_none (dZ I q ue)
  |bl j=>cases B;exact PySem.EqMixed.ne_str_bool (dZ I q ue)
  |int j=>obtain⟨t',rfl⟩:=B;exact PySem.EqMixed.ne_str_int (dZ I q ue)
  |str j=>obtain⟨t',rfl⟩:=B;exact ne_str (dZ I q (A9 not Jw))
  |_=>exact absurd hs AV
 |byt i =>
  obtain⟨t,rfl⟩:=J
  cases y with
  |byt j=>obtain⟨t',rfl⟩:=B;exact PySem.W.ne_bytes (dZ I q (A9 not Jy))
  |_=>exact absurd hs AV
 |_=>cases y<;>exact absurd hs AV
def xF:OpR X (compareOp .Lt) (rI0 λi j=>.bl (decide (i<j))):=opB0 λ_ _ _ _ _ _ _ q=>lt_int q
def bG:OpR X (compareOp .LtE) (rI0 λi j=>.bl (decide (i<=j))):=opB0 λ_ _ _ _ _ _ _ q=>le_int q
def oW:OpR X (compareOp .Gt) (rI0 λi j=>.bl (decide (j<i))):=opB0 λ_ _ _ _ _ _ _ q=>gt_int q
def op_ge:OpR X (compareOp .GtE) (rI0 λi j=>.bl (decide (j<=i))):=opB0 λ_ _ _ _ _ _ _ q=>ge_int q
def lO:OpR X (compareOp .In) (λx y H Q=>∃i j,x=.str i/\y=.str j/\Q (.bl (!(Builtin.Str.occurrences j i 0 j.length 1).isEmpty)) H):=by
 intro ww s σ H x y v u Q I B J h;obtain⟨i,j,rfl,rfl,q⟩:=h;obtain⟨t,rfl⟩:=B;obtain⟨t',rfl⟩:=J;exact in_str (dZ I q rfl)
def zM:OpR X (compareOp .Is) (λx y H Q=>y=.non/\Q (.bl (decide (x=.non))) H):=by
 intro ww s σ H x y v u Q I B J h;obtain⟨rfl,q⟩:=h;cases J;refine is_none_gen (dZ I q ?_)
 cases x<;>first
  | (cases B;rfl)
  | (obtain⟨t,rfl⟩:=B;rfl)
def fA:OpR X (compareOp .IsNot) (λx y H Q=>y=.non/\Q (.bl (!decide (x=.non))) H):=by
 intro ww s σ H x y v u Q I B J h;obtain⟨rfl,q⟩:=h;cases J;refine isnot_none_gen (dZ I q ?_)
 cases x<;>first
  | (cases B;rfl)
  | (obtain⟨t,rfl⟩:=B;rfl)
def OpR.or(h:OpR X f r)(h':OpR X f L):OpR X f (λx y H Q=>r x y H Q\/L x y H Q):=by
 intro ww s σ H x y v u Q I B J q
 rcases q with q|q
 .exact h ww s σ H x y v u Q I B J q
 .exact h' ww s σ H x y v u Q I B J q
def lJ b(h:q≠.In:=by decide)(h2:q≠.NotIn:=by decide):behindInMarks q b=false:=by
 have B:(q==CmpOp.In)=false:=by cases q<;>first|rfl|exact absurd rfl h
 have J:(q==CmpOp.NotIn)=false:=by cases q<;>first|rfl|exact absurd rfl h2
 cases b<;>simp[behindInMarks,B,J]
def pe_cmpR(Y:OpR X (compareOp B) r)(L:PE X a ta)(O:PE X b tb)(U:behindInMarks B b=false):PE X (.Compare a [B] [b] pos) (tOp r ta tb):=by
 intro ww s σ H Q I h;exact wpAny_Compare1 (binT L O I h λv u aa x y H2 J Z ry q=>Y ww aa σ H2 x y v u Q J Z ry q) U
def VA(t:TE):TT:=λσ H Q=>t σ H (XM Q)
def pt_cmpR(ho:OpR X (compareOp B) r)(Y:PE X a ta)(Z:PE X b tb)(aa:behindInMarks B b=false):PT X (.Compare a [B] [b] pos) (VA (tOp r ta tb)):=by
 intro ww s σ H Q I h
 refine wpAny_isTrue_Compare1 (thn (Y ww s σ H _ I h) λv s1 q=>rZ q λx H1 L r1 q1=>thn (Z ww s1 σ H1 _ L q1) λu ab q=>rZ q λy H2 O r2 q2=>
  thn (ho ww ab σ H2 x y v u _ O r1 r2 q2) λc ae ⟨z,J,U,r3,k,e,q3⟩=>?_) aa
 subst e;cases r3;exact A1 ⟨J,U,q3⟩
def XZ(r J:R2)(ta tb tc:TE):TE:=λσ H Q=>ta σ H λx H1=>tb σ H1 λy H2=>r x y H2 λz q=>∃k,z=.bl k /\
 (if k=true then tc σ q λL B=>J y L B Q else Q (.bl false) q)
def Wm(ho:OpR X (compareOp L) r)(ab:OpR X (compareOp O) r')(ha:PE X a ta)(hb:PE X b tb)(hc:PE X c tc)(aa:lastMarks [L,O] [b,c]=false:=by with_unfolding_all rfl):PE X (.Compare a [L,O] [b,c] pos) (XZ r r' ta tb tc):=by
 intro ww s σ H Q I h
 refine Compare_chain (thn (ha ww s σ H _ I h) λv s1 q=>rZ q λx H1 I1 r1 q1=>chain_link (thn (hb ww s1 σ H1 _ I1 q1) λu ae q=>rZ q λy H2 I2 Y q2=>
  thn (ho ww ae σ H2 x y v u _ I2 r1 Y q2) λd af ⟨z,B,J,r3,k,e,U⟩=>?_)) aa
 subst e;cases r3
 apply A1
 cases k with
 |false=>exact ite_ff ⟨.bl false,B,J,rfl,U⟩
 |true=>exact ite_tt (chain_last (thn (hc ww af σ B _ J U) λw' ag q=>rZ q λz' Z I4 r4 q4=>ab ww ag σ Z y z' u w' Q I4 Y r4 q4))
def VX(ho:OpR X (compareOp L) r)(ab:OpR X (compareOp O) r')(ha:PE X a ta)(hb:PE X b tb)(hc:PE X c tc)(aa:lastMarks [L,O] [b,c]=false:=by with_unfolding_all rfl):PT X (.Compare a [L,O] [b,c] pos) (VA (XZ r r' ta tb tc)):=by
 intro ww s σ H Q I h
 refine isTrue_chain (thn (ha ww s σ H _ I h) λv s1 q=>rZ q λx H1 I1 r1 q1=>test_link (thn (hb ww s1 σ H1 _ I1 q1) λu ae q=>rZ q λy H2 I2 Y q2=>
  thn (ho ww ae σ H2 x y v u _ I2 r1 Y q2) λd af ⟨z,B,J,r3,k,e,U⟩=>?_)) aa
 subst e;cases r3
 apply A1
 cases k with
 |false =>
  obtain⟨k',e',q'⟩:=U;cases e';exact ite_ff ⟨B,J,q'⟩
 |true =>
  refine ite_tt (test_last (thn (hc ww af σ B _ J U) λw' ag q=>rZ q λz' Z I4 r4 q4=>thn (ab ww ag σ Z y z' u w' _ I4 Y r4 q4) λd' ah ⟨z2,H5,I5,r5,k2,e2,q5⟩=>?_));subst e2;cases r5;exact A1 ⟨H5,I5,q5⟩
def TruV(K:DQ)(x:V)(H:Hp)(k:Bool):Prop:=
 match x with
 |.non=>k=false
 |.bl b=>k=b
 |.int i=>k=(i != 0)
 |.str y=>y.length<=sizeLine/\k=((y.length:Int) != 0)
 |.byt y=>y.size<=sizeLine/\k=((y.size:Int) != 0)
 |.ref p=>(∃xs,SqL K H p xs/\k = !xs.isEmpty)\/(∃xs,SqT K H p xs/\k = !xs.isEmpty)\/∃kvs,H p=some (.dK kvs)/\k = !kvs.isEmpty
 |_=>False
def Zj(r:KV kvs vs):(!vs.isEmpty) = !kvs.isEmpty:=by
 cases r<;>rfl
def aC(r:Vals xs its):(!its.toArray.isEmpty) = !xs.isEmpty:=by
 cases r<;>simp
def oU:sizeLine<2 ^ 63:=Th
def tru_ok:TruR X (λx H Q=>∃k,TruV X.K x H k/\Q k H):=by
 intro ww s σ H x v Q I J h;obtain⟨k,e,q⟩:=h;have hl:=oU;have hs:=Cd
 cases x with
 |non =>
  cases J;have B:=e;subst B;exact truthy_none ⟨H,I,q⟩
 |bl b =>
  cases J;have B:=e;subst B;exact A1 ⟨H,I,q⟩
 |int i =>
  obtain⟨t,rfl⟩:=J;have B:=e;subst B;exact PySem.P.truthy_int ⟨H,I,q⟩
 |str y =>
  obtain⟨t,rfl⟩:=J;obtain⟨hy,rfl⟩:y.length<=sizeLine/\k=((y.length:Int) != 0):=e;exact PySem.P.truthy_str ir ⟨H,I.tok _,q⟩
 |byt y =>
  obtain⟨t,rfl⟩:=J;obtain⟨hy,rfl⟩:y.size<=sizeLine/\k=((y.size:Int) != 0):=e;exact PySem.W.truthy_bytes ir ⟨H,I.tok _,q⟩
 |ref p =>
  cases J;have B:=e
  rcases B with ⟨xs,L,B⟩|⟨xs,L,B⟩|⟨kvs,L,B⟩
  .subst B
   obtain⟨its,r,O,Y⟩:=I.list L;have U:=r.length;exact wpAny_truthy_list O.isList (by simp only[List.size_toArray];lia) ⟨H,I.tok _,by rwa[aC r]⟩
  .subst B
   obtain⟨its,r,O,Y⟩:=I.tuple L;have U:=r.length;exact truthy_tuple O (by simp only[List.size_toArray];lia) ⟨H,I.tok _,by rwa[aC r]⟩
  .subst B
   obtain⟨Y,Z,vs,r,m⟩:kvs.length<=sizeLine/\(p==sysModules)=false/\∃vs,KV kvs vs/\s.heap.DictOf (uZ X.prog X.w) p vs:=I.hok p _ L;have U:=Paired.length r;exact wpAny_truthy_dict Z m ir ⟨H,I.tok _,by rwa[Zj r]⟩
 |_=>exact e.elim
def VW(J:PE X a ta)(L:∀q,isTrue a X.env q=(do let v <- q;standAt a.pos;holding [v] (truthy v))):
  PT X a (λσ H Q=>ta σ H λx H'=>∃k,TruV X.K x H' k/\Q k H'):=by
 intro ww s σ H Q I h;exact isTrue_plain (thn (J ww s σ H _ I h) λv s1 Y=>rZ Y λx H1 B U O=>tru_ok ww s1 σ H1 x v Q B U O) (L _)
def X6:OpR X (binaryOp .Add) (λx y H Q=>∃i j,x=.str i/\y=.str j/\i.length+j.length<=sizeLine/\Q (.str (i++j)) H):=by
 intro ww s σ H x y v u Q I J L h;obtain⟨i,j,rfl,rfl,B,q⟩:=h;obtain⟨t,rfl⟩:=J;obtain⟨t',rfl⟩:=L;exact add_str (λt' tk=>⟨.str (i++j),H,I.tok _,⟨_,rfl⟩,q⟩) B
def uG(r:Vals [x] us):∃u,us=[u]/\RelV x u:=by
 cases r with
 |cons q B=>cases B;exact⟨_,rfl,q⟩
def vals2(r:Vals [x,y] us):∃u q,us=[u,q]/\RelV x u/\RelV y q:=by
 cases r with
 |cons B J =>
  cases J with
  |cons L O=>cases O;exact⟨_,_,rfl,B,L⟩
def YE:CallR X (.builtin "abs") (λxs H Q=>∃i,xs=[.int i]/\Q (.int (if i<0 then -i else i)) H):=by
 intro ww s σ H xs us Q I r h;obtain⟨i,rfl,q⟩:=h;obtain⟨u,rfl,t,rfl⟩:=uG r;exact call_abs_int λu tk=>⟨.int (if i<0 then -i else i),H,I.tok _,⟨_,rfl⟩,q⟩
def K3(B:X.calm=true):CallR X (.builtin "max") (λxs H Q=>∃i j,xs=[.int i,.int j]/\Q (.int (if j > i then j else i)) H):=by
 intro ww s σ H xs us Q I r h;obtain⟨i,j,rfl,q⟩:=h;obtain⟨u,J,rfl,⟨t,rfl⟩,⟨t',rfl⟩⟩:=vals2 r;refine max_two_ints (I.ok.hd B) λh' tk k=>⟨_,H,I.kept k,?_,q⟩
 by_cases hj:j > i
 .rw[A4 hj,A4 hj];exact⟨_,rfl⟩
 .rw[A7 hj,A7 hj];exact⟨_,rfl⟩
def K7:CallR X (.type "int") (λxs H Q=>(∃i,xs=[.int i]/\Q (.int i) H)\/∃k,xs=[.bl k]/\Q (.int (if k then 1 else 0)) H):=by
 intro ww s σ H xs us Q I r h
 rcases h with ⟨i,rfl,q⟩|⟨k,rfl,q⟩
 .obtain⟨u,rfl,t,rfl⟩:=uG r
  exact call_int_int ⟨.int i,H,I,⟨_,rfl⟩,q⟩
 .obtain⟨u,rfl,rfl⟩:=uG r
  exact call_int_bool ⟨.int (if k then 1 else 0),H,I.tok _,⟨_,rfl⟩,q⟩
def uY:CallR X (.type "str") (λxs H Q=>∃i,xs=[.int i]/\i.natAbs.log2<1920/\Q (.str (toString i)) H):=by
 intro ww s σ H xs us Q I r h;obtain⟨i,rfl,B,q⟩:=h;obtain⟨u,rfl,t,rfl⟩:=uG r;exact PySem.P.str_of_int B ⟨.str _,H,I.tok _,⟨_,rfl⟩,q⟩
end
structure ObjM(h:Heap)(x dx C:Addr)(mA:Str->Option Value):Prop where
 obj:h.get? x=some (PySem.W.instObj C dx)
 ns:h.Ns1 dx mA
 ne:dx≠x
def nO{h:Heap}(n:h.Ns1 dx mA):∃od,h.get? dx=some od/\∀name,PySem.W.lookIn name od=some (mA name):=by
 refine PP n λo es ep Y J L _ U=>⟨o,Y,λname=>?_⟩;have e:=U name;unfold nsFind findBy at e;rw[<- Array.find?_toList] at e
 delta PySem.W.lookIn
 rw[J];dsimp only
 split
 .grind
 .rename_i q
  rw[q] at e
  have a:es.toList.any (·.refKey)=false:=by
   rw[List.any_eq_false];intro y Z;obtain⟨z,t,O⟩:=(L y (DP.mp Z))
   simp[DictEntry.refKey,O]
  have B:=a▸AV;exact(A7 B)▸A9 some e
def ObjM.look(I:ObjM h x dx C mA):∃od,PySem.W.InstAt h x (PySem.W.instObj C dx) C (some od)/\∀name,PySem.W.lookIn name od=some (mA name):=
 let ⟨od,B,q⟩:=nO I.ns
 ⟨od,⟨I.obj,rfl,rfl,B⟩,q⟩
section
variable{prog:Program}{w:World}{A:Around}{E:Value->Shared->Prop}{s:Shared}{K:DQ}{x dx C f:Addr}{mA:Str->Option Value}{name:Str}{v:Value}
def get_map(X:K.In s.heap)(I:ObjM s.heap x dx C mA)(B:PySem.W.plainGet K C name=true)(L:PySem.W.hasDictIn K C=true)(q:PySem.W.findIn K (.ref C) name=some none)(Z:mA name=some v)(O:PySem.W.handedIn v=true)(h:Q v { s with toks:=s.toks+1 }):
  wpAny (model prog w) A (getAttr (.ref x) name U) Q E s:=oX I.look λod J Y=>PySem.W.get_value X J (PySem.W.plainGet_of B).1 (PySem.W.findObj_own L q rfl (by grind)) O h
def W8(X:K.In s.heap)(I:ObjM s.heap x dx C mA)(q:PySem.W.plainGet K C name=true)(B:PySem.W.findIn K (.ref C) name=some (some (.ref f)))(O:PySem.W.isFn K (.ref f)=true)(U:mA name=none)(h:Q (.ref f,[.ref x]) s):
  wpAny (model prog w) A (getMethod (.ref x) name Y) Q E s:=oX I.look λod J L=>PySem.W.method_fn X J (PySem.W.plainGet_of q).1 (PySem.W.plainGet_of q).2 B (beq_iff_eq.mp O) (by show(PySem.W.lookIn name od).map (·.isSome)=some false;rw[L,U];rfl) h
def set_map(X:K.In s.heap)(I:ObjM s.heap x dx C mA)(hs:PySem.W.findIn K (.ref C) "__setattr__"=some (some (.builtin "object.__setattr__")))(hp:PySem.W.plainOver K C=true)(ht:PySem.W.takerIn K C name=some none)(Z:PySem.W.hasDictIn K C=true)(ab:PySem.Within mA ae)(ah:ae.length<=sizeLine)(h:∀h',ObjM h' x dx C (λy=>if y=name then some v else mA y)->Heap.SameBut dx s.heap h'->Q () { s with heap:=h',toks:=s.toks+2 }):
  wpAny (model prog w) A (setAttr (.ref x) name v) Q E s:=by
 refine oX I.look λod J hl=>PySem.W.set_plain X J hs (PySem.W.osa_open X J hp ht λb=>oX (PySem.W.any_some Z) λcd L U=>AC (AN (AC (AC (DM I.obj (AC (B5 (PySem.W.looks_clsIn X L) ?_)))))));rw[U];exact AN (AC (AN (AC (wpAny_nsSet1 I.ns λh' q B=>bF (q.count (PySem.Within.cons name v ab)) λoD ag af aa Y O=>AC (wpAny_lookBehind aa (Y▸pastItsLine_dict (AK O (by grind))) (AN (h _ ⟨(B.2 _ (Ne.symm I.ne)).trans I.obj,q,I.ne⟩ B)))))))
def WM(X:K.In s.heap)(J:PySem.W.makesIn K C=true)(hi:PySem.W.findIn K (.ref C) "__init__"=some (some (.ref f)))(B:PySem.W.typeIn K (.ref f)=some (.type "function"))(h:codeAny (model prog w) (A.under (.builtin "type.__call__" ⟨.ref C::vs,q⟩)) (.call (.ref f) ⟨.ref (s.heap.objs.size+1)::vs,q⟩) (PySem.W.InitBack (s.heap.objs.size+1) R)
   { s with heap:=(s.heap.push PySem.W.emptyDict).push (PySem.W.instObj C s.heap.objs.size) }):
  codeAny (model prog w) A (.call (.ref C) ⟨vs,q⟩) R s:=by
 obtain⟨O,g,d,t,os⟩:=s;exact PySem.W.make_core (PySem.W.makes_of X J) (PySem.W.looks_findIn X hi) (λL=>PySem.W.bind_fn X L B) (.inl rfl) h
end
noncomputable def vY(f:Str)(v:V):List (Str×V)->List (Str×V)
 |[]=>[(f,v)]
 | (g,x)::r=>if g=f then(g,v)::r else(g,x)::vY f v r
theorem wM f g v:∀fs,(vY f v fs).lookup g=if g=f then some v else fs.lookup g
 |[]=>by
  show List.lookup g [(f,v)]=_
  by_cases h:g=f
  .grind
  .grind
 | (k,x)::r=>by
  rw[show vY f v ((k,x)::r)=(if k=f then(k,v)::r else(k,x)::vY f v r) from rfl]
  by_cases B:k=f
  .grind
  .rw[A7 B]
   by_cases h:g=k
   .grind
   .have q:=beq_eq_false_iff_ne.mpr h
    simp only[List.lookup,q]
    exact(wM f g v r)
theorem wU f v:∀fs,f∈(vY f v fs).map (·.1)/\∀g,g∈fs.map (·.1)->g∈(vY f v fs).map (·.1)
 |[]=>⟨by simp[vY],λg h=>by simp at h⟩
 | (k,x)::r=>by
  obtain⟨B,J⟩:=wU f v r;rw[show vY f v ((k,x)::r)=(if k=f then(k,v)::r else(k,x)::vY f v r) from rfl]
  by_cases q:k=f
  .grind
  .grind
theorem gP f v:∀fs,(vY f v fs).length<=fs.length+1
 |[]=>by simp[vY]
 | (k,x)::r=>by
  have B:=gP f v r;rw[show vY f v ((k,x)::r)=(if k=f then(k,v)::r else(k,x)::vY f v r) from rfl]
  by_cases q:k=f
  .grind
  .grind
def RelO.some_of(r:RelO (some v) o):∃u,o=some u/\RelV v u:=by
 cases o with
 |none=>exact r.elim
 |some u=>exact⟨u,rfl,r⟩
def RelO.none_of(r:RelO none o):o=none:=by
 cases o with
 |none=>rfl
 |some u=>exact r.elim
theorem zE(r:RelV v u):PySem.W.handedIn u=true:=by
 cases v with
 |non=>cases r;rfl
 |bl b=>cases r;rfl
 |int i=>obtain⟨t,rfl⟩:=r;rfl
 |str x=>obtain⟨t,rfl⟩:=r;rfl
 |byt b=>obtain⟨t,rfl⟩:=r;rfl
 |flt b=>obtain⟨t,rfl⟩:=r;rfl
 |ref a=>cases r;rfl
 |ty n=>cases r;rfl
section
variable{P:Program}{w:World}{H H':Hp}{h h':Heap}{a C dx:Addr}{fs fs':List (Str×V)}
def sH(B:HOk P w H h)(e:H a=some (.ins C dx fs)):∃mA,ObjM h a dx C mA/\(∀f,RelO (fs.lookup f) (mA f))/\PySem.Within mA (fs.map (·.1))/\fs.length<=1000/\H dx=some (.own a):=by
 obtain⟨d,z,J,L,mA,n,r,q⟩:=(B a _ e);exact⟨mA,⟨L,n,J⟩,r,q,z,d⟩
end
structure Cls(K:DQ)(C:Addr):Prop where
 pg:PySem.W.plainGet K C Str.empty=true
 hd:PySem.W.hasDictIn K C=true
 po:PySem.W.plainOver K C=true
 sa:PySem.W.findIn K (.ref C) "__setattr__"=some (some (.builtin "object.__setattr__"))
def Cls.get{K}(c:Cls K C)f:PySem.W.plainGet K C f=true:=c.pg
def NoAttr(K:DQ)(C:Addr)(f:Str):Prop:=PySem.W.findIn K (.ref C) f=some none
def NoAttr.taker{K}(n:NoAttr K C f):PySem.W.takerIn K C f=some none:=by
 delta PySem.W.takerIn
 rw[show PySem.W.findIn K (.ref C) f=some none from n]
 rfl
structure Y3(K:DQ)(C:Addr)(m:Str)(f:Addr):Prop where
 at_:PySem.W.findIn K (.ref C) m=some (some (.ref f))
 fn:PySem.W.isFn K (.ref f)=true
 kp:PySem.W.keepIn K (.ref f)=true
section
variable{X:Cx}{ww:List (Addr×Obj)}{σ:St}{H:Hp}{s:Shared}{a C dx:Addr}{fs:List (Str×V)}{f:Str}{v:V}{A:Around}{E:Value->Shared->Prop}
def zR(I:Inv X ww σ H s)(e:H a=some (.ins C dx fs))(c:Cls X.K C)(n:NoAttr X.K C f)(l:fs.lookup f=some v)(h:∀u s',Inv X ww σ H s'->RelV v u->Q u s'):wpAny (model X.prog X.w) A (getAttr (.ref a) f b) Q E s:=KM (sH I.hok e) λmA O r _ _ _=>oX (RelO.some_of (l▸r f)) λu B q=>get_map I.kIn O (c.get f) c.hd n B (zE q) (h u _ (I.tok _) q)
def qR(I:Inv X ww σ H s)(e:H a=some (.ins C dx fs))(c:Cls X.K C)(k:Y3 X.K C m g)(l:fs.lookup m=none)(h:Q (.ref g,[.ref a]) s):wpAny (model X.prog X.w) A (getMethod (.ref a) m q) Q E s:=KM (sH I.hok e) λmA O r _ _ _=>W8 I.kIn O (c.get m) k.at_ k.fn (RelO.none_of (l▸r m)) h
def sN(I:Inv X ww σ H s)(e:H a=some (.ins C dx fs))(c:Cls X.K C)(n:NoAttr X.K C f)(hl:fs.length<1000)(ry:RelV y u)(h:∀s',Inv X ww σ (upd H a (.ins C dx (vY f y fs))) s'->Q () s'):wpAny (model X.prog X.w) A (setAttr (.ref a) f u) Q E s:=by
 refine KM (sH I.hok e) λmA O r L _ J=>?_;have hz:(fs.map (·.1)).length<=sizeLine:=by rw[AA,Cd];lia
 refine set_map I.kIn O c.sa c.po n.taker c.hd L hz λh' B sb=>h _ ?_;have Z:∃o,h'.get? dx=some o:=let ⟨o,_,_,U,_⟩:=B.ns;⟨o,U⟩
 refine I.write (e▸True.intro) (.inr J) (λb q Y z=>(sb.2 b Y).trans z) Z ⟨by rw[pX O.ne];exact J,?_,O.ne,B.obj,_,B.ns,λg=>?_,λg aa=>?_⟩
 .have:=gP f y fs;lia
 .rw[wM]
  by_cases q:g=f
  .rwa[A4 q,A4 q]
  .grind
 .by_cases q:g=f
  .exact q▸(wU f y fs).1
  .refine(wU f y fs).2 g (L g λz=>aa ?_)
   show(if g=f then some u else mA g)=none
   rwa[A7 q]
def Inv.made(I:Inv X ww σ H s):Inv X ww σ (upd (upd H s.heap.objs.size (.own (s.heap.objs.size+1))) (s.heap.objs.size+1) (.ins C s.heap.objs.size []))
  { s with heap:=(s.heap.push PySem.W.emptyDict).push (PySem.W.instObj C s.heap.objs.size) }:=by
 have B:(s.heap.push PySem.W.emptyDict).get? s.heap.objs.size=some PySem.W.emptyDict:=Ad s.heap rfl
 have O:((s.heap.push PySem.W.emptyDict).push (PySem.W.instObj C s.heap.objs.size)).get? (s.heap.objs.size+1)=some (PySem.W.instObj C s.heap.objs.size):=by
  have:=Ad (s.heap.push PySem.W.emptyDict) (o:=PySem.W.instObj C s.heap.objs.size) rfl
  rwa[Ba] at this
 have L:=I.laid (o:=.own (s.heap.objs.size+1)) (h':=s.heap.push PySem.W.emptyDict) (t':=s.toks) (λb u q=>AO _ q) (AQ _) ⟨_,B⟩;refine L.laid (t':=s.toks) (λb u q=>AO _ q) (DD (Ba _ _)) ?_;have J:s.heap.objs.size≠s.heap.objs.size+1:=Ai (A3 _);refine⟨by rw[pX J,iQ],AF _,J,O,λ_=>none,(Heap.Ns1.of_empty (⟨PySem.W.emptyDict,#[],_,B,rfl,(λe U=>absurd U ue),λ_=>rfl⟩)).at λo q=>AO _ q,λ_=>True.intro,λy Y=>absurd rfl Y⟩
def J9(B:attributeBase e f q (eval e q)=eval e q)(h:wpAny (model prog w) A (eval e q) (λo J=>wpAny (model prog w) A (getAttr o f true) Q E J) E s):wpAny (model prog w) A (eval (.Attribute e f pos) q) Q E s:=
 Attribute_any_ h (by rw[arm_eval_Attribute,B])
end
def tFld(K:DQ)(ta:TE)(f:Str):TE:=λσ H Q=>ta σ H λx H1=>∃a C dx fs v,x=.ref a/\H1 a=some (.ins C dx fs)/\Cls K C/\NoAttr K C f/\fs.lookup f=some v/\Q v H1
def sFld(K:DQ)(ta tv:TE)(f:Str):TS:=λD σ H=>tv σ H λy H1=>ta σ H1 λx H2=>∃a C dx fs,x=.ref a/\H2 a=some (.ins C dx fs)/\Cls K C/\NoAttr K C f/\fs.length<1000 /\
 D.nx σ (upd H2 a (.ins C dx (vY f y fs)))
def InOp(X:Cx)(q:Operator)(B:V->V->Hp->VK->Prop):Prop:=
 ∀(ww:List (Addr×Obj))(s:Shared)(σ:St)(H:Hp)(x y:V)(u v:Value)(Q:VK),Inv X ww σ H s->RelV x u->RelV y v->B x y H Q->wpAny (model X.prog X.w) X.A (inplaceOp q u v) (EP X ww σ Q) X.xe s
def sFldAug(K:DQ)(ta tv:TE)(J:V->V->Hp->VK->Prop)(f:Str):TS:=λD σ H=>ta σ H λx H1=>∃a C dx fs v,x=.ref a/\H1 a=some (.ins C dx fs)/\Cls K C/\NoAttr K C f/\fs.lookup f=some v /\
 tv σ H1 λy H2=>J v y H2 λz q=>∃B fs',q a=some (.ins C B fs')/\fs'.length<1000/\D.nx σ (upd q a (.ins C B (vY f z fs')))
section
variable{X:Cx}{o e value:Expr}{f:Str}{pos pos' tpos:Pos}{ta tv:TE}
def pe_fld(U:PE X e ta)(O:attributeBase e f X.env (eval e X.env)=eval e X.env):PE X (.Attribute e f pos) (tFld X.K ta f):=by
 intro ww s σ H Q I h;refine J9 O (thn (U ww s σ H _ I h) λu s1 ⟨x,H1,B,Z,a,C,dx,fs,v,ex,L,c,n,l,q⟩=>?_);subst ex;obtain rfl:u=Value.ref a:=Z;exact zR B L c n l λu' aa J Y=>⟨v,H1,J,Y,q⟩
def ps_fld(U:PE X o ta)(Y:PE X value tv)(hs:swapsWith value (some (.Attribute o f pos')) pos.line X.env=pure false):PS X (.Assign [.Attribute o f pos'] value pos) (sFld X.K ta tv f):=by
 intro ww s σ H D I h;refine CU (thn (Y ww s σ H _ I h) λu s1 zz=>rZ zz λy H1 B ry q=>thn (U ww s1 σ H1 _ B q) λZ aa ⟨x,H2,J,rx,a,C,dx,fs,ex,O,c,n,l,q2⟩=>?_) hs;subst ex;obtain rfl:Z=Value.ref a:=rx;exact sN J O c n l ry λab L=>⟨σ,_,L,q2⟩
def Kn(Z:PE X o ta)(hv:PE X value tv)(aa:InOp X ab rd):PS X (.AugAssign (.Attribute o f tpos) ab value pos) (sFldAug X.K ta tv rd f):=by
 intro ww s σ H D I h;refine wpAny_AugAssign_AttributeAny (thn (Z ww s σ H _ I h) λov s1 ⟨x,H1,q,rx,a,C,dx,fs,v,ex,U,c,n,l,ae⟩=>?_);subst ex;obtain rfl:ov=Value.ref a:=rx;exact zR q U c n l λu af B ru=>thn (hv ww af σ H1 _ B ae) λah ag zz=>rZ zz λy H2 J ry q3=>thn (aa ww ag σ H2 v y u ah _ J ru ry q3) λw4 aj ⟨z,H3,L,rz,ai,fs',Y,l',q4⟩=>sN L Y c n l' rz λak O=>⟨σ,_,O,q4⟩
def rAdd:V->V->Hp->VK->Prop:=λx y H Q=>∃i j,x=.int i/\y=.int j/\Q (.int (i+j)) H
def W2:InOp X .Add rAdd:=by
 rintro ww s σ H x y u v Q I B J ⟨i,j,rfl,rfl,q⟩;obtain⟨t,rfl⟩:=B;obtain⟨t',rfl⟩:=J;exact PyProof.Rows.iadd_int ⟨.int (i+j),H,I.tok _,⟨_,rfl⟩,q⟩
end
section
variable{X:Cx}{ww:List (Addr×Obj)}{σ:St}{H:Hp}{s:Shared}{A:Around}{E:Value->Shared->Prop}{Q:Value->Shared->Prop}{c:Value}{b:Bool}
inductive aL(K:DQ)(H:Hp):V->Value->Prop where
 |non:aL K H .non (.type "NoneType")
 |bl (x:Bool):aL K H (.bl x) (.type "bool")
 |int (i:Int):aL K H (.int i) (.type "int")
 |str (x:Str):aL K H (.str x) (.type "str")
 |flt (x:UInt64):aL K H (.flt x) (.type "float")
 |lst {a:Addr} {xs:List V} (e:H a=some (.lst xs)):aL K H (.ref a) (.type "list")
 |frz {a:Addr} {o:Obj} {xs:List V} (e:H a=some (.frz o (.lst xs))):aL K H (.ref a) (.type "list")
 |tup {a:Addr} {xs:List V} (e:H a=some (.tup xs)):aL K H (.ref a) (.type "tuple")
 |dK {a:Addr} {kvs:List (Key×V)} (e:H a=some (.dK kvs)):aL K H (.ref a) (.type "dict")
 |dT {a:Addr} {kvs:List (List Key×V)} (e:H a=some (.dT kvs)):aL K H (.ref a) (.type "dict")
 |ins {a C dx:Addr} {fs:List (Str×V)} (e:H a=some (.ins C dx fs)) (cl:Cls K C) (ha:PySem.W.findIn K (.ref C) "__class__"=some (some (.builtin "object.__class__")))
   (hn:PySem.W.specialIn K (.builtin "object.__class__") "__get__"=some (some (.builtin "getset_descriptor.__get__"))) (htk:PySem.W.takesIn K (.builtin "object.__class__")=some true)
   (hm:PySem.W.mroIn K C (.type "object")=some true):aL K H (.ref a) (.ref C)
def KC(I:Inv X ww σ H s)(B:RelV x u)(ty:aL X.K H x t)(e:PySem.W.kitOne X.K t c=some b)(h:∀tk,Q (.bool b) { s with toks:=tk }):
  wpAny (model X.prog X.w) A (call (.builtin "isinstance") [u,c]) Q E s:=by
 cases ty with
 |non=>cases B;exact BG PySem.W.kitx_none I.kIn True.intro e (λz=>nomatch z) h
 |bl y=>cases B;exact BG PySem.W.kitx_bool I.kIn True.intro e (λz=>nomatch z) h
 |int i=>obtain⟨t,rfl⟩:=B;exact BG PySem.W.kitx_int I.kIn True.intro e (λz=>nomatch z) h
 |str y=>obtain⟨t,rfl⟩:=B;exact BG PySem.W.kitx_str I.kIn True.intro e (λz=>nomatch z) h
 |flt y=>obtain⟨t,rfl⟩:=B;exact BG PySem.W.kitx_float I.kIn True.intro e (λz=>nomatch z) h
 |@lst a xs q =>
  cases B;obtain⟨_,_,n,_,h1⟩:=(I.hok a _ q);exact BG PySem.W.kitx_list I.kIn ⟨_,h1,rfl⟩ e (λz=>nomatch z) h
 |@frz a ob xs q =>
  cases B;obtain⟨_,_,_,n,_,h1⟩:=(I.hok a _ q);exact BG PySem.W.kitx_list I.kIn ⟨_,h1,rfl⟩ e (λz=>nomatch z) h
 |@tup a xs q =>
  cases B;obtain⟨_,_,_,p⟩:=(I.hok a _ q);exact oK p λo h1 h2 _=>BG PySem.W.kitx_tuple I.kIn ⟨o,h1,h2⟩ e (λz=>nomatch z) h
 |@dK a kvs q =>
  cases B;obtain⟨_,_,vs,_,p⟩:=(I.hok a _ q);exact bF p λo es ep h1 h2 _=>BG PySem.W.kitx_dict I.kIn ⟨o,h1,h2.1⟩ e (λz=>nomatch z) h
 |@dT a kvs q =>
  cases B;obtain⟨_,_,xs,_,o,es,ep,h1,h2,_⟩:=(I.hok a _ q);exact BG PySem.W.kitx_dict I.kIn ⟨o,h1,h2.1⟩ e (λz=>nomatch z) h
 |@ins a C dx fs q L U Z aa Y =>
  cases B;obtain⟨mA,O,_⟩:=(sH I.hok q);obtain⟨od,J,_⟩:=O.look;exact BG (PySem.W.kitx_own (L.get _) L.hd U Z aa Y) I.kIn J e (λz=>nomatch z) h
end
structure Room(k:Nat)(A:Around):Prop where
 hd:A.handled=none
 dp:A.depth+3*k+5<recursionLimit
 un:A.units+16*k+200<cLine
 gd:A.guards=some []
def Room.mono(r:Room k A)(h:j<=k):Room j A:=⟨r.hd,by have:=r.dp;lia,by have:=r.un;lia,r.gd⟩
def Room.deeper(r:Room (k+1) A)q:Room k (A.deeper q):=
 ⟨r.hd,by have:=r.dp;show A.depth+1+3*k+5<_;lia,by have:=r.un;show A.units+3+16*k+200<_;lia,r.gd⟩
def Ze{A:Around}:(A.under (.builtin "type.__call__" ⟨.ref C::us,q⟩)).depth=A.depth+1:=by
 first|rfl|simp[ Code.weight]
def Zd{A:Around}:(A.under (.builtin "type.__call__" ⟨.ref C::us,q⟩)).units=A.units+1:=by
 first|rfl|simp[ Code.cUnits]
def Room.make(r:Room (k+1) A)C us q:Room k (A.under (.builtin "type.__call__" ⟨.ref C::us,q⟩)):=
 ⟨r.hd,by have:=r.dp;rw[Ze];lia,by have:=r.un;rw[Zd];lia,by exact r.gd⟩
def Room.depth(r:Room k A):A.depth<recursionLimit:=by have:=r.dp;lia
def Room.units(r:Room k A):A.units+64<cLine:=by have:=r.un;lia
def tNil:TA:=λ_ H Q=>Q [] H
def VB(ta:TE)(q:TA):TA:=λσ H Q=>ta σ H λx H1=>q σ H1 λxs H2=>Q (x::xs) H2
section
variable{X:Cx}{e:Expr}{es:List Expr}{te:TE}{t:TA}{pos:Pos}
def lU:PA X [] tNil:=λ_ _ _ _ H Q I h=>Calls.spliced_nil ⟨[],H,I,.nil,h⟩
def oM(L:PE X e te)(O:PA X es t)(hs:starEach (e::es) X.env=(false,eval e X.env)::starEach es X.env:=by rfl):PA X (e::es) (VB te t):=by
 intro pos ww s σ H Q I h;exact hs▸B6 (thn (L ww s σ H _ I h) λu s1 q=>rZ q λx H1 B Z U=>thn (O pos ww s1 σ H1 _ B U) λus aa q=>rZ q λxs H2 J r2 Y=>⟨x::xs,H2,J,.cons Z r2,Y⟩)
inductive RL(o:List V->HO)(Q:VK)(xs:List V)(H:Hp):Prop
 |mk(h:xs.length<=sizeLine)(q:∀p,H p=none->Q (.ref p) (upd H p (o xs)))
def tTup(t:TA):TE:=λσ H Q=>t σ H (RL .tup Q)
def tLst(t:TA):TE:=λσ H Q=>t σ H (RL .lst Q)
def Wc{L}(h:PA X es t):PE X (.Tuple es L pos) (tTup t):=by
 intro ww s σ H Q I J;refine wpAny_Tuple_spliced (thn (h pos ww s σ H _ I J) λus s1 ⟨xs,H1,B,r,z,q⟩=>⟨by exact r.length▸z,?_⟩);refine⟨.ref s1.heap.objs.size,upd H1 s1.heap.objs.size (.tup xs),B.laid (t':=s1.toks) (λb u e=>AO _ e) (AQ _) ?_,rfl,q _ (B.hok.fresh (AQ _))⟩;exact⟨z,us,r,⟨_,Ad _ rfl,rfl,⟨_,rfl⟩,rfl⟩⟩
def pe_lst(h:PA X es t):PE X (.List es pos) (tLst t):=by
 intro ww s σ H Q I J;refine wpAny_List_spliced (thn (h pos ww s σ H _ I J) λus s1 ⟨xs,H1,B,r,z,q⟩=>⟨by exact r.length▸z,?_⟩);refine⟨.ref s1.heap.objs.size,upd H1 s1.heap.objs.size (.lst xs),B.laid (t':=s1.toks) (λb u e=>AO _ e) (AQ _) ?_,rfl,q _ (B.hok.fresh (AQ _))⟩;exact⟨z,us,0,r,Ad _ rfl⟩
end
abbrev Sp:=List V->Hp->VK->XK->Prop
abbrev CXT:=List Env->Hp->Shared->XK->Value->Shared->Prop
structure Env0(P:Program)(w:World)(K:DQ)(mg:Str->Option Value)(base:Heap)(A:Around)(outer:List Env)(s:Shared)(H:Hp):Prop where
 frames:A.frames=some outer
 mod:Mod K mg base
 bs:∀b o,base.get? b=some o->s.heap.get? b=some o/\H b=none
 bsz:base.objs.size<=s.heap.objs.size
 funs:s.heap.FunFrames base outer
 frf:∀b∈frs outer,H b=none
 hok:HOk P w H s.heap
 bare:AllBare s.gens
def CE(outer:List Env)(P:Program)(w:World)(H:Hp)(s:Shared)(Q:VK)(u:Value)(s':Shared):Prop:=
 ∃v H',s'.os=s.os/\AllBare s'.gens/\Un (frs outer) [] H H' s.heap s'.heap/\HOk P w H' s'.heap/\RelV v u/\Q v H'
def CR(CX:CXT)(outer:List Env)(P:Program)(w:World)(H:Hp)(s:Shared)(Q:VK)(E:XK)(r:Result)(s':Shared):Prop:=
 match r with
 |.ok (.ret u)=>CE outer P w H s Q u s'
 |.ok _=>False
 |.error e=>CX outer H s E e s'
structure FnOk(P:Program)(w:World)(K:DQ)(mg:Str->Option Value)(base:Heap)(CX:CXT)(k:Nat)(f:Addr)(fd:FuncData)(ps:List Str)(sp:Sp):Prop where
 len:∀vs H Q E,sp vs H Q E->vs.length=ps.length
 run:∀(A:Around)(outer:List Env)(s:Shared)(H:Hp)(args:Args)(us:List Value)(vs:List V)(Q:VK)(E:XK),Room k A->Env0 P w K mg base A outer s H->BindsTo s fd args (ps.zip us)->Vals vs us->sp vs H Q E ->
  codeAny (model P w) A (.call (.ref f) args) (CR CX outer P w H s Q E) s
def FnOk.mono{K}(F:FnOk P w K mg base CX j f fd ps sp)(h:j<=k):
  FnOk P w K mg base CX k f fd ps sp:=⟨F.len,λA outer s H q us vs Q E B=>F.run A outer s H q us vs Q E (B.mono h)⟩
def Env0.make{K}(e:Env0 P w K mg base A outer s H)C us q:
  Env0 P w K mg base (A.under (.builtin "type.__call__" ⟨.ref C::us,q⟩)) outer s H:=⟨by first|exact e.frames | (simpa[Around.under,Code.envs,Code.isFrame,pushEnvs] using e.frames),e.mod,e.bs,e.bsz,e.funs,e.frf,e.hok,e.bare⟩
section
variable{X:Cx}{ww:List (Addr×Obj)}{σ:St}{H:Hp}{s s':Shared}
def Inv.env0(I:Inv X ww σ H s):Env0 X.prog X.w X.K X.mg X.base X.A X.stack s H:=
 ⟨I.ok.frames,I.ok.mod,I.bs,AK I.ok.bsz I.sz,I.stack,I.stkFree,I.hok,I.bare⟩
def Inv.after(I:Inv X ww σ H s)(h:CE X.stack X.prog X.w H s Q u s'):EP X ww σ Q u s':=by
 refine PX h λv H' os B U L r q=>?_;obtain⟨J,g,d,t,O⟩:=s';obtain rfl:O=s.os:=os;exact⟨v,H',I.call (h':=J) (g':=g) (d':=d) (t':=t) U L B (λb z=>absurd z ue),r,q⟩
end
def VC(sp:Sp)(dvs:List V)(E:XK)(t:TA):TE:=λσ H Q=>t σ H λvs H1=>sp (vs++dvs) H1 Q E
def tMeth(C:Addr)(m:Str)(sp:Sp)(dvs:List V)(E:XK)(ta:TE)(t:TA):TE:=λσ H Q=>ta σ H λx H1=>∃a dx fs,x=.ref a/\H1 a=some (.ins C dx fs)/\fs.lookup m=none /\
 t σ H1 λvs H2=>sp (x::(vs++dvs)) H2 Q E
def tMake(C:Addr)(sp:Sp)(dvs:List V)(E:XK)(t:TA):TE:=λσ H Q=>t σ H λvs H1=>∀x dx,H1 x=none->H1 dx=none->dx≠x ->
 sp (.ref x::(vs++dvs)) (upd (upd H1 dx (.own x)) x (.ins C dx [])) (λv H2=>v=.non/\Q (.ref x) H2) E
def Binds(K:DQ)(fd:FuncData)(ps:List Str)(ds:List Value):Prop:=
 ∀(s:Shared)(us:List Value),K.In s.heap->(us++ds).length=ps.length->BindsTo s fd ⟨us,[]⟩ (ps.zip (us++ds))
def Binds.all{K}(h:∀us:List Value,us.length=ps.length->bindArgs fd ⟨us,[]⟩=pure (ps.zip us)):Binds K fd ps []:=λs us _ q=>by
 rw[AM] at q ⊢;exact .of_eq (h us q)
def jV(CX:CXT)(X:Cx)(E:XK):Prop:=∀(ww:List (Addr×Obj))(σ:St)(H:Hp)(s:Shared)(e:Value)(s':Shared),Inv X ww σ H s->CX X.stack H s E e s'->X.xe e s'
section
variable{X:Cx}{CX:CXT}{k:Nat}{f C:Addr}{fd:FuncData}{ps:List Str}{sp:Sp}{dvs:List V}{ds:List Value}{E:XK}{x m:Str}{p pos apos:Pos}{e o:Expr}{es:List Expr}{ta:TE}{t:TA}
def X1{σ:St}(F:FnOk X.prog X.w X.K X.mg X.base CX k f fd ps sp)(Y:Room k X.A)(L:Binds X.K fd ps ds)(O:Vals dvs ds)(Z:jV CX X E)(I:Inv X ww σ H s)(r:Vals vs us)(h:sp (vs++dvs) H Q E):wpAny (model X.prog X.w) X.A (call (.ref f) us) (EP X ww σ Q) X.xe s:=by
 have B:=r.append O;have U:=B.length▸F.len _ _ _ _ h;refine B0 (Bs (F.run X.A X.stack s H ⟨us,[]⟩ (us++ds) (vs++dvs) Q E Y I.env0 (L s us I.kIn U) B h) λr s' q=>?_)
 cases r with
 |error e=>exact Z ww σ H s e s' I q
 |ok J =>
  cases J with
  |ret u=>exact I.after q
  |next=>exact False.elim q
  |brk=>exact False.elim q
  |cont=>exact False.elim q
def Z7(F:FnOk X.prog X.w X.K X.mg X.base CX k f fd ps sp)(ae:Room k X.A)(Y:Gl X x)(aa:X.mg x=some (.ref f))(Z:PySem.W.keepIn X.K (.ref f)=true)(J:Binds X.K fd ps ds)(L:Vals dvs ds)(hx:jV CX X E)(B:PA X (e::es) t)(O:(x==("__debug__":Str))=false:=by decide)(U:starEach (e::es) X.env=(false,eval e X.env)::starEach es X.env:=by rfl)(ab:(backTo pos (starEach es X.env)).any (·.1)=false:=by rfl):
  PE X (.Call (.Name x p) (e::es) [] pos) (VC sp dvs E t):=by
 intro ww s σ H Q I h;exact BX (pG I Y aa (B4 I.ok.mod.kin Z (thn (B pos ww s σ H _ I h) λus s1 zz=>rZ zz λvs H1 q r af=>⟨q.kIn,X1 F ae J L hx q r af⟩) U ab) O)
def pe_meth{pl}(aa:PE X o ta)(c:Cls X.K C)(J:Y3 X.K C m f)(F:FnOk X.prog X.w X.K X.mg X.base CX k f fd ps sp)(ae:Room k X.A)(Y:Binds X.K fd ps ds)(Z:Vals dvs ds)(hx:jV CX X E)(U:PA X (e::es) t)(af:starEach (e::es) X.env=(false,eval e X.env)::starEach es X.env:=by rfl)(ab:(backTo pos (starEach es X.env)).any (·.1)=false:=by rfl)(ht:eval (.Call (.Attribute o m apos) (e::es) [] pos) X.env=(do
   let L <- eval o X.env
   standAt apos.atName
   let (f,first) <- holding [L] (getMethod L m pl)
   callWith pos f first (backTo pos (starEach (e::es) X.env)) (backToKw pos (keywordEach [] X.env))):=by rfl):
  PE X (.Call (.Attribute o m apos) (e::es) [] pos) (tMeth C m sp dvs E ta t):=by
 intro ww s σ H Q I h;refine DJ (thn (aa ww s σ H _ I h) λu s1 ⟨x,H1,q,rx,a,dx,fs,ex,O,l,ag⟩=>?_) ht;subst ex;obtain rfl:u=Value.ref a:=rx;exact qR q O c J l (B4 I.ok.mod.kin J.kp (thn (U pos ww s1 σ H1 _ q ag) λus ah zz=>rZ zz λvs H2 B r q2=>⟨B.kIn,X1 (vs:=.ref a::vs) F ae Y Z hx B (.cons rfl r) q2⟩) af ab)
def Wg(Y:PE X o ta)(c:Cls X.K C)(B:Y3 X.K C m f)(F:FnOk X.prog X.w X.K X.mg X.base CX k f fd ps sp)(Z:Room k X.A)(O:Binds X.K fd ps ds)(U:Vals dvs ds)(hx:jV CX X E)(ht:eval (.Call (.Attribute o m apos) [] [] pos) X.env=(do
   let J <- eval o X.env
   standAt apos.atName
   let (f,first) <- holding [J] (getMethod J m pl)
   callWith pos f first (backTo pos (starEach [] X.env)) (backToKw pos (keywordEach [] X.env))):=by rfl):
  PE X (.Call (.Attribute o m apos) [] [] pos) (tMeth C m sp dvs E ta tNil):=by
 intro ww s σ H Q I h;refine DJ (thn (Y ww s σ H _ I h) λu s1 ⟨x,H1,q,rx,a,dx,fs,ex,L,l,aa⟩=>?_) ht;subst ex;obtain rfl:u=Value.ref a:=rx;exact qR q L c B l (PySem.W.callWith_K0 q.kIn B.kp (X1 (vs:=[.ref a]) F Z O U hx q (.cons rfl .nil) aa))
structure Mk(K:DQ)(C f:Addr):Prop where
 makes:PySem.W.makesIn K C=true
 init:PySem.W.findIn K (.ref C) "__init__"=some (some (.ref f))
 fn:PySem.W.isFn K (.ref f)=true
 kp:PySem.W.keepIn K (.ref C)=true
def Qz{σ:St}(M:Mk X.K C f)(F:FnOk X.prog X.w X.K X.mg X.base CX k f fd ps sp)(aa:Room (k+1) X.A)(Y:Binds X.K fd ps ds)(Z:Vals dvs ds)(hx:jV CX X E)(I:Inv X ww σ H s)(r:Vals vs us)(h:∀x dx,H x=none->H dx=none->dx≠x->sp (.ref x::(vs++dvs)) (upd (upd H dx (.own x)) x (.ins C dx [])) (λv H2=>v=.non/\Q (.ref x) H2) E):
  wpAny (model X.prog X.w) X.A (call (.ref C) us) (EP X ww σ Q) X.xe s:=by
 have J:=h (s.heap.objs.size+1) s.heap.objs.size (I.hok.fresh (B9 _)) (I.hok.fresh (AQ _)) (Ai (A3 _));have B:=Inv.made (C:=C) I;have L:Vals (V.ref (s.heap.objs.size+1)::(vs++dvs)) (Value.ref (s.heap.objs.size+1)::(us++ds)):=.cons rfl (r.append Z)
 have hl:(Value.ref (s.heap.objs.size+1)::us++ds).length=ps.length:=by
  have e:=L.length;rw[F.len _ _ _ _ J] at e;exact e.symm
 refine B0 (WM I.kIn M.makes M.init (beq_iff_eq.mp M.fn) (Bs (F.run _ X.stack _ _ ⟨Value.ref (s.heap.objs.size+1)::us,[]⟩ (Value.ref (s.heap.objs.size+1)::(us++ds)) _ _ E (aa.make C us [])
  (B.env0.make C us []) (Y _ (Value.ref (s.heap.objs.size+1)::us) B.kIn hl) L J) λr s' q=>?_))
 cases r with
 |error e=>exact hx ww σ _ _ e s' B q
 |ok U =>
  cases U with
  |ret u =>
   obtain⟨v,H',O,rv,rfl,q3⟩:=B.after q;exact⟨rv,⟨V.ref (s.heap.objs.size+1),H',O,rfl,q3⟩⟩
  |next=>exact False.elim q
  |brk=>exact False.elim q
  |cont=>exact False.elim q
def pe_make(M:Mk X.K C f)(F:FnOk X.prog X.w X.K X.mg X.base CX k f fd ps sp)(ab:Room (k+1) X.A)(Y:Gl X x)(Z:X.mg x=some (.ref C))(J:Binds X.K fd ps ds)(L:Vals dvs ds)(hx:jV CX X E)(B:PA X (e::es) t)(O:(x==("__debug__":Str))=false:=by decide)(U:starEach (e::es) X.env=(false,eval e X.env)::starEach es X.env:=by rfl)(aa:(backTo pos (starEach es X.env)).any (·.1)=false:=by rfl):
  PE X (.Call (.Name x p) (e::es) [] pos) (tMake C sp dvs E t):=by
 intro ww s σ H Q I h;exact BX (pG I Y Z (B4 I.ok.mod.kin M.kp (thn (B pos ww s σ H _ I h) λus s1 zz=>rZ zz λvs H1 q r ae=>⟨q.kIn,Qz M F ab J L hx q r ae⟩) U aa) O)
def Wh(M:Mk X.K C f)(F:FnOk X.prog X.w X.K X.mg X.base CX k f fd ps sp)(U:Room (k+1) X.A)(L:Gl X x)(O:X.mg x=some (.ref C))(q:Binds X.K fd ps ds)(B:Vals dvs ds)(Y:jV CX X E)(J:(x==("__debug__":Str))=false:=by decide):PE X (.Call (.Name x p) [] [] pos) (tMake C sp dvs E tNil):=by
 intro ww s σ H Q I h;exact BX (pG I L O (PySem.W.callWith_K0 I.kIn M.kp (Qz M F U q B Y I .nil h)) J)
end
structure FnScope(N P:List Str)(sc:Scope):Prop where
 kind:sc.kind=.function
 co:sc.isCoroutine=false
 gen:sc.isGenerator=false
 nd:N.Nodup
 pre:N.take P.length=P
 par:∀x∈P,sc.names.lookup x=some .local\/sc.names.lookup x=some .cell
 nofree:∀y∈sc.names,y.2≠.free
theorem mE{J}:∀{q}{m},(∀v,(x,v)∉q)->bindL J q m x=m x
 |[],_,_=>rfl
 | (n,v)::r,m,h=>by
  unfold bindL;rw[mE λw B=>h w (AH _ B)]
  split
  .grind
  .rfl
theorem pE{J}:∀{q}{m},(∀v,(x,v)∉q)->bindC J q m x=m x
 |[],_,_=>rfl
 | (n,v)::r,m,h=>by
  unfold bindC;rw[pE λw B=>h w (AH _ B)]
  split
  .rfl
  .grind
theorem fE{B}:∀{P:List Str}{vs}{i:Nat}{m},P.Nodup->P[i]?=some x->vs[i]?=some v->B x=some .local ->
  bindL B (P.zip vs) m x=some v
 |[],_,_,_,_,h,_,_=>by simp at h
 |_::_,[],_,_,_,_,h,_=>by simp at h
 |p::P,w::vs,0,m,nd,h1,h2,q=>by
  simp at h1 h2;subst h1;subst h2
  show bindL B ((p,w)::P.zip vs) m p=_;unfold bindL;rw[mE λv J=>(Bf.mp nd).1 (List.of_mem_zip J).1,A4 q]
  simp
 |p::P,w::vs,i+1,m,nd,h1,h2,q=>by
  unfold bindL;exact fE (Bf.mp nd).2 (by simpa using h1) (by simp_all) q
theorem dE{B}:∀{P:List Str}{vs}{i:Nat}{m},P.Nodup->P[i]?=some x->vs[i]?=some v->B x≠some .local ->
  bindC B (P.zip vs) m x=some v
 |[],_,_,_,_,h,_,_=>by simp at h
 |_::_,[],_,_,_,_,h,_=>by simp at h
 |p::P,w::vs,0,m,nd,h1,h2,q=>by
  simp at h1 h2;subst h1;subst h2
  show bindC B ((p,w)::P.zip vs) m p=_;unfold bindC;rw[pE λv J=>(Bf.mp nd).1 (List.of_mem_zip J).1,A7 q]
  simp
 |p::P,w::vs,i+1,m,nd,h1,h2,q=>by
  unfold bindC;exact dE (Bf.mp nd).2 (by simpa using h1) (by simp_all) q
noncomputable def start(N:List Str)(vs:List V):St:=vs.map some++List.replicate (N.length-vs.length) none
noncomputable def tU(CX:CXT)(P:Program)(w:World)(K:DQ)(mg:Str->Option Value)(base:Heap)(N:List Str)(qual:Str)(scope:Scope)(f:Addr)(cd:Value)(A:Around)(outer:List Env)(s:Shared)(H:Hp)(E:XK):Cx where
 prog:=P
 w:=w
 K:=K
 mg:=mg
 base:=base
 A:=A.deeper (envOfC qual scope s.heap.objs.size f cd)
 N:=N
 s₀:=s
 H₀:=H
 env:=envOfC qual scope s.heap.objs.size f cd
 outer:=outer
 stack:=envOfC qual scope s.heap.objs.size f cd::outer
 ex:=[]
 calm:=true
 fn:=λ_=>true
 pn:=[]
 xe:=λe s'=>wpAny (model P w) (A.deeper (envOfC qual scope s.heap.objs.size f cd)) (leaving (envOfC qual scope s.heap.objs.size f cd) e) (λ_ q=>CX outer H s E e q) (λB q=>CX outer H s E B q) s'
def oR{sc:Scope}(h:sc.names.lookup x=some .cell):∃c,(cellsFrom n sc.names []).lookup x=some c:=Option.isSome_iff_exists.mp (PySem.W.cellsFrom_some sc.names n [] (.inl h))
def KF{K}(S:FnScope N ps scope)(aa:A.handled=none)(B:Env0 P w K mg base A outer s H)(hl:vs.length=ps.length)(r:Vals vs us)(x:InCallC s s.heap.objs.size (bindL (envOfC qual scope s.heap.objs.size f cd).kindOf (ps.zip us) λ_=>none) (cellsFrom (s.heap.objs.size+1) scope.names []) (bindC (envOfC qual scope s.heap.objs.size f cd).kindOf (ps.zip us) λ_=>none) s1):
  Inv (tU CX P w K mg base N qual scope f cd A outer s H E) [] (start N vs) H s1:=by
 have ab:ps.length<=N.length:=by have:=A9 List.length S.pre;rw[CZ] at this;lia
 obtain⟨h1,tk,rfl,U⟩:=x.done;have O:∀b:Addr,b∉(tU CX P w K mg base N qual scope f cd A outer s H E).ex:=λb z=>absurd (show b∈([]:List Addr) from z) ue
 refine⟨⟨B.mod,S.kind,rfl,rfl,AQ _,λy z c h1 h2=>?_,λy L=>?_,λy c _ h=>?_,λ_=>aa,Around.frames_deeper B.frames,.inr ⟨rfl,rfl⟩,λb z=>absurd z (O b),B.bs,B.bsz,λb _ _=>O b,λb z=>absurd z (O b),B.funs,B.frf⟩,
  rfl,B.bare,Un.kept U,⟨_,x.toInCall.ns,λi y v h1 h2 h3=>?_⟩,λy c h=>⟨_,x.cell y c h⟩,B.hok.fresh (AQ _),λy c h=>?_,λp J=>absurd (show p∈([]:List (Addr×Obj)) from J) ue,B.hok.kept U,?_⟩
 .exact name_of_addr x.apart (Bt h1) (Bt h2)
 .rcases L with L|L
  .exact oR L
  .exact absurd rfl (S.nofree _ (Bt L))
 .exact Nat.le_of_lt (x.above y c (Bt h))
 .have hi:i<vs.length:=by
   unfold start at h2
   by_cases hi:i<vs.length
   .exact hi
   .grind
  have ha:vs[i]?=some v:=by
   unfold start at h2;rw[Cq (by simp_all),Ag] at h2
   cases e:vs[i]? with
   |none=>rw[e] at h2;cases h2
   |some a=>rw[e] at h2;cases h2;rfl
  obtain⟨u,Y,rv⟩:=(r.get ha)
  have J:ps[i]?=some y:=by
   rw[<- S.pre,List.getElem?_take_of_lt ir];exact h1
  have Z:=S.pre▸S.nd.sublist (List.take_sublist _ _);refine⟨u,rv,?_⟩
  rcases S.par y (Ak J) with k|k
  .exact .inl ⟨k,fE Z J Y k⟩
  .obtain⟨c,e⟩:=oR k
   refine .inr ⟨.inl k,c,e,?_⟩;have q:=x.cell y c e;rw[dE Z J Y (by show scope.names.lookup y≠_;rw[k];decide)] at q;exact q
 .exact B.hok.fresh (Nat.le_of_lt (x.above y c (Bt h)))
 .delta start
  show _=N.length;rw[AB,AA,Ar]
  lia
def fn_of{K}{ag ab ai B ct oc}(au:K.lookup f=some ⟨oc,od,.func (PySem.W.fnOf name qual av aa scope dV ag ab ai aj B ct),ay⟩)(ao:PySem.W.codeIn K B qual=true)(S:FnScope N ps scope)(ah:∀vs H Q E,sp vs H Q E->vs.length=ps.length)(ak:∀(A:Around)(outer:List Env)(s:Shared)(H:Hp)(vs:List V)(Q:VK)(E:XK),Room k (A.deeper (envOfC qual scope s.heap.objs.size f B))->sp vs H Q E ->
   ∃t,PSs (tU CX P w K mg base N qual scope f B A outer s H E) aa t/\t { nx:=λ_ H'=>Q .non H',rt:=Q } (start N vs) H):
  FnOk P w K mg base CX (k+1) f (PySem.W.fnOf name qual av aa scope dV ag ab ai aj B ct) ps sp:=by
 refine⟨ah,λA outer s H aw us vs Q E U L hb r af=>?_⟩;have Z:=L.mod.kin.keeps λb o e=>(L.bs b o e).1
 have ar:∀y∈ps.zip us,scope.names.lookup y.1=some .local\/(scope.names.lookup y.1=some .cell/\((cellsFrom (s.heap.objs.size+1) scope.names []).lookup y.1).isSome=true):=λ⟨n,v⟩ hy=>by
  rcases S.par n (List.of_mem_zip hy).1 with q|q
  .exact .inl q
  .exact .inr ⟨q,PySem.W.cellsFrom_some _ _ _ (.inl q)⟩
 refine codeAny_call_function U.depth (Z _ _ au) rfl S.co S.gen rfl (PySem.W.codeRec_of Z ao) (hb _ _ _ _ (wpAny_newFunctionEnv_cells S.kind ar λax aq s1 x=>?_));subst aq;refine⟨(L.mod.nolimit.keeps λb o e=>(L.bs b o e).1).keeps x.toInCall.keep,codeAny_func (oX (ak A outer s H vs Q E (U.deeper _) af) λt ht hq=>BA (ht [] s1 (start N vs) H _ (KF S U.hd L (ah _ _ _ _ af) r x) hq) (λfl s' hs=>?_) λe s' hs=>hs)⟩
 have ae:∀{O:St}{H':Hp}{v:V}{u:Value},Inv (tU CX P w K mg base N qual scope f B A outer s H E) [] O H' s'->RelV v u->Q v H'->CE outer P w H s Q u s':=
  λ{O H' v u}J Y q=>⟨v,H',J.os,J.bare,J.base,J.hok,Y,q⟩
 cases fl with
 |ret u =>
  exact bF hs λv O H' J Y q=>ae J Y q
 |next =>
  exact mM hs λO H' J q=>ae (v:=V.non) J rfl q
 |brk =>
  exact mM hs λ_ _ _ q=>False.elim q
 |cont =>
  exact mM hs λ_ _ _ q=>False.elim q
section
variable{X:Cx}{x:Str}{p pos:Pos}{e:Expr}{es:List Expr}{t:TA}{id T:String}{r:List V->Hp->VK->Prop}
def tCB(r:List V->Hp->VK->Prop)(t:TA):TE:=λσ H Q=>t σ H λvs H1=>r vs H1 Q
def Wn(J:CallR X (.builtin id) r)(U:Gl X x)(Y:X.mg x=none)(hv:bootBuiltins x=some (.builtin id))(B:PA X (e::es) t)(Z:x ≠ "__name__":=by decide)(L:(x==("__debug__":Str))=false:=by decide)(O:starEach (e::es) X.env=(false,eval e X.env)::starEach es X.env:=by rfl)(aa:(backTo pos (starEach es X.env)).any (·.1)=false:=by rfl):PE X (.Call (.Name x p) (e::es) [] pos) (tCB r t):=by
 intro ww s σ H Q I h;exact BX (bL I U Y hv (PyProof.Rows.callWith_builtin1 (thn (B pos ww s σ H _ I h) λus s1 zz=>rZ zz λvs H1 q r1 q1=>J ww s1 σ H1 vs us Q q r1 q1) O aa) Z L)
def Kq(J:CallR X (.type T) r)(U:Gl X x)(Y:X.mg x=none)(hv:bootBuiltins x=some (.type T))(B:PA X (e::es) t)(Z:x ≠ "__name__":=by decide)(L:(x==("__debug__":Str))=false:=by decide)(O:starEach (e::es) X.env=(false,eval e X.env)::starEach es X.env:=by rfl)(aa:(backTo pos (starEach es X.env)).any (·.1)=false:=by rfl):PE X (.Call (.Name x p) (e::es) [] pos) (tCB r t):=by
 intro ww s σ H Q I h;exact BX (bL I U Y hv (Bn (thn (B pos ww s σ H _ I h) λus s1 zz=>rZ zz λvs H1 q r1 q1=>J ww s1 σ H1 vs us Q q r1 q1) O aa) Z L)
end
end L2
namespace HT
open PySem PyProof.Rows
section
variable{prog:Program}{w:World}{A:Around}{E:Value->Shared->Prop}{s:Shared}
def cat_tup(ht:IsTup s.heap t vs.toArray)(hb:IsTup s.heap b ws.toArray)(hv:vs≠[])(h1:ws=[]->Q (.ref t) s)(h2:ws≠[]->Q (.ref s.heap.objs.size) { s with heap:=s.heap.push { cls:=.type "tuple",data:=.seq (vs++ws).toArray } })(aj:vs.length+ws.length<=sizeLine):wpAny (model prog w) A (binaryOp .Add (.ref t) (.ref b)) Q E s:=by
 obtain⟨⟨aa,L,ab,Y⟩,q,hc,n,af⟩:=id ht;obtain⟨⟨ah,O,ai,Z⟩,B,ae,U,ag⟩:=id hb;subst hc af ae ag;have e:vs.toArray++ws.toArray=(vs++ws).toArray:=by simp
 by_cases J:ws=[]
 .exact concat_meets ⟨_,q,rfl⟩ ⟨_,B,rfl⟩ noFill_tuple_add seq_tuple_add DB Cv (Cs _ _)
   (tuple_addW1 t b vs.toArray ws.toArray n U L O Y Z (by grind) (by simp[J])) ⟨q,B,h1 J⟩
 .refine concat_meets ⟨_,q,rfl⟩ ⟨_,B,rfl⟩ noFill_tuple_add seq_tuple_add DB Cv (Cs _ _)
   (tuple_addW2 t b vs.toArray ws.toArray n U L O Y Z (by simpa using hv) (by grind) (by grind)) ⟨q,B,?_⟩
  exact e▸h2 J
noncomputable def sIx(n d:Nat):Option Int->Nat
 |none=>d
 |some v=>if v<0 then(v+(n:Int)).toNat else min v.toNat n
theorem sIx_none n d:sIx n d none=d:=rfl
theorem sIx_nat(n d k:Nat):sIx n d (some k )=min k n:=by
 show(if(k:Int)<0 then((k:Int)+(n:Int)).toNat else min (k:Int).toNat n)=min k n;rw[A7 ir,BU]
def JN v(n d:Nat):(if v<0 then max (v+(n:Int)) 0 else min v n )=((sIx n d (some v):Nat):Int):=by
 show(if v<0 then max (v+(n:Int)) 0 else min v (n:Int))=(((if v<0 then(v+(n:Int)).toNat else min v.toNat n):Nat):Int)
 by_cases q:v<0
 .lia
 .grind
def ZG lo hi(n:Nat):Builtin.Slice.sliceAdjust lo hi 1 n=(( sIx n 0 lo:Int),( sIx n n hi:Int)):=by
 refine Prod.ext ?_ ?_
 .cases lo with
  |none=>rfl
  |some v=>exact JN v n 0
 .cases hi with
  |none=>rfl
  |some v=>exact JN v n n
def X5(i j:Nat):Builtin.Slice.slicePlaces i j 1=j-i:=by grind[Builtin.Slice.slicePlaces]
def rN(p:IsPart v o)(h:Q o s):wpAny (model prog w) A (Builtin.Slice.slicePartIndex v) Q E s:=by
 cases p with
 |none=>exact slicePart_none h
 |int i t=>exact slicePart_int h
def iD{lo}{Q:Int×Int×Nat->Shared->Prop}(hs:s.heap.IsSliceOf O U Y .none)(J:IsPart U lo)(L:IsPart Y hi)(h:Q (( sIx n 0 lo:Int),1,sIx n n hi-sIx n 0 lo) s):wpAny (model prog w) A (Builtin.Slice.sliceApplied (.ref O) (pure n )) Q E s:=by
 refine oK (id hs) λos B Z q=>AC (AC (Cc B q rfl (AC (Cc B q rfl (AC (Cc B q rfl (AN (AC (slicePart_none (AC (rN J (AC (rN L (AC (AN ?_)))))))))))))));show wpAny _ _ (match Builtin.Slice.sliceAdjust lo hi 1 (n:Int) with | (lo,hi)=>pure (lo,(1:Int),Builtin.Slice.slicePlaces lo hi 1)) _ _ s
 rw[ZG lo hi n];show wpAny _ _ (pure (((sIx n 0 lo:Nat):Int),(1:Int),Builtin.Slice.slicePlaces ((sIx n 0 lo:Nat):Int) ((sIx n n hi:Nat):Int) 1)) _ _ s;rw[X5];exact AN h
def V6(xs:Array Value)(i k:Nat):((List.range k).filterMap λ(m:Nat)=>xs[( i+(m:Int)*1).toNat]?).toArray=((xs.toList.drop i).take k).toArray:=by
 have e:(λ(m:Nat)=>xs[((i:Int)+(m:Int)*1).toNat]?)=λm=>xs[i+m]?:=by grind
 rw[e];have:=pick_run xs i k;rw[List.filterMap_map] at this;have q:((λx=>xs[x]?) ∘ λx=>i+x)=λm=>xs[i+m]?:=rfl;rw[q] at this;rw[this]
def getItem_tuple_cut{lo}(q:IsTup s.heap t items)(hs:s.heap.IsSliceOf Z vl vu .none)(U:IsPart vl lo)(Y:IsPart vu hi)(ae:¬ (sIx items.size 0 lo=0/\sIx items.size items.size hi=items.size))(h:Q (.ref s.heap.objs.size) { s with heap:=s.heap.push { cls:=.type "tuple",data:=.seq ((items.toList.drop (sIx items.size 0 lo)).take (sIx items.size items.size hi-sIx items.size 0 lo)).toArray } })(ab:items.size<=sizeLine):wpAny (model prog w) A (getItem (.ref t) (.ref Z)) Q E s:=by
 have B:sizeOk (.seq ((items.toList.drop (sIx items.size 0 lo)).take (sIx items.size items.size hi-sIx items.size 0 lo)).toArray):=by
  show((items.toList.drop (sIx items.size 0 lo)).take (sIx items.size items.size hi-sIx items.size 0 lo)).toArray.size<=sizeLine;rw[Aw,CZ,List.length_drop,Bv];omega
 obtain⟨os,O,J,aa⟩:=(id hs)
 delta getItem
 try with_reducible refine BF ?_
 first|refine AC (AN ?_)|skip
 refine AC (wpAny_sequenceKey q.typeIs rfl (AC (wpAny_callSpecial?_slot q.typeIs CV
  (CY CV q.typeIs entry_tuple_getitem ?_ (args_tuple_getitem _ _)))))
 show wpAny _ _ (Builtin.Tuple.tupleItemsOf (.ref t) >>= _) _ _ s;refine AC (tupleItemsOf_ q (AC (wpAny_typeOf (⟨os,O,J⟩) (AC (iD hs U Y ?_)))));have L:¬ ((((sIx items.size 0 lo:Nat):Int)==0&&(1:Int)==1&&(sIx items.size items.size hi-sIx items.size 0 lo)==items.size)=true):=by lia
 show wpAny _ _ (if(((sIx items.size 0 lo:Nat):Int)==0&&(1:Int)==1&&(sIx items.size items.size hi-sIx items.size 0 lo)==items.size)=true then _ else _) _ _ s;rw[A7 L,V6]
 first
  |exact AC (Bm (AN ⟨_,rfl,AN h⟩) B)
  |exact AC (Bm (AC (AN (AN ⟨_,rfl,AN h⟩))) B)
  |exact AC (AC (Bm (AN (AN ⟨_,rfl,AN h⟩)) B))
  |exact AC (AC (Bm (AN ⟨_,rfl,AN h⟩) B))
end
end HT
namespace L2
open PySem PySem.Spec PyProof.Rows
abbrev TO:=St->Hp->(Option Int->Hp->Prop)->Prop
def PO(X:Cx)(e:Option Expr)(t:TO):Prop:=
 ∀(ww:List (Addr×Obj))(s:Shared)(σ:St)(H:Hp)(Q:Option Int->Hp->Prop),Inv X ww σ H s->t σ H Q ->
  wpAny (model X.prog X.w) X.A (evalPart e X.env) (λu s'=>∃o H',Inv X ww σ H' s'/\IsPart u o/\Q o H') X.xe s
def tNoPart:TO:=λ_ H Q=>Q none H
def tPart(t:TE):TO:=λσ H Q=>t σ H λx H1=>∃i,x=.int i/\Q (some i) H1
section
variable{X:Cx}{e:Expr}{te:TE}{lo hi:Option Expr}{tl th:TO}{pos p2:Pos}
def po_none:PO X none tNoPart:=by
 intro ww s σ H Q I h;exact AN ⟨none,H,I,.none,h⟩
def po_some(h:PE X e te):PO X (some e) (tPart te):=by
 intro ww s σ H Q I J;refine thn (h ww s σ H _ I J) λu s1 U=>rZ U λx H1 B O L=>?_;obtain⟨i,rfl,q⟩:=L;obtain⟨t,rfl⟩:=O;exact⟨some i,H1,B,.int i t,q⟩
def SlR(X:Cx)(r:V->Option Int->Option Int->Hp->VK->Prop):Prop:=
 ∀(ww:List (Addr×Obj))(s:Shared)(σ:St)(H:Hp)(x:V)(v B J:Value)(lo hi:Option Int)(q:Addr)(Q:VK),Inv X ww σ H s->RelV x v->s.heap.IsSliceOf q B J .none->IsPart B lo->IsPart J hi->r x lo hi H Q ->
  ∃T id,typeLookup (.type T) "__getitem__"=pure (some (.builtin id))/\s.TypeIs v T/\wpAny (model X.prog X.w) X.A (getItem v (.ref q)) (EP X ww σ Q) X.xe s
def tSl(r:V->Option Int->Option Int->Hp->VK->Prop)(te:TE)(tl th:TO):TE:=λσ H Q=>te σ H λx H1=>tl σ H1 λl H2=>th σ H2 λu q=>r x l u q Q
def kC(ae:SlR X r)(aa:PE X e te)(hl:PO X lo tl)(hu:PO X hi th):PE X (.Subscript e (.Slice lo hi none p2) pos) (tSl r te tl th):=by
 intro ww s σ H Q I h;refine Subscript_ (thn (aa ww s σ H _ I h) λv s1 B=>rZ B λx H1 U r1 q1=>wpAny_Slice (thn (hl ww s1 σ H1 _ U q1) λJ ah B=>rZ B λl H2 Y pl q2=>thn (hu ww ah σ H2 _ Y q2) λL q B=>rZ B λu O Z af q3=>?_))
 apply AN
 have I4:Inv X ww σ O { q with heap:=q.heap.push { cls:=.type "slice",data:=.fields #[J,L,.none] } }:=Z.kept (t':=q.toks) λb ob ag=>AO _ ag;exact rZ (ae ww { q with heap:=q.heap.push { cls:=.type "slice",data:=.fields #[J,L,.none] } } σ O x v J L l u q.heap.objs.size Q I4 r1 (Heap.IsSliceOf.new ..) pl af q3) λT id hT ht ab=>tail_any ht hT ab (by with_unfolding_all rfl)
noncomputable def KQ(xs:List V)(lo hi:Option Int):List V:=(xs.drop (HT.sIx xs.length 0 lo)).take (HT.sIx xs.length xs.length hi-HT.sIx xs.length 0 lo)
def pP xs lo hi:(KQ xs lo hi).length<=xs.length:=by
 delta KQ
 rw[CZ,List.length_drop]
 lia
def rSlT(K:DQ):V->Option Int->Option Int->Hp->VK->Prop:=λx lo hi H Q=>∃a xs,x=.ref a/\SqT K H a xs /\
 ¬ (HT.sIx xs.length 0 lo=0/\HT.sIx xs.length xs.length hi=xs.length)/\∀p,H p=none->Q (.ref p) (upd H p (.tup (KQ xs lo hi)))
def sl_tup:SlR X (rSlT X.K):=by
 intro ww s σ H x v vl vu lo hi sl Q I Z hs U Y h;obtain⟨a,xs,rfl,L,aa,q⟩:=h;cases Z;obtain⟨its,r,J,O⟩:=(I.tuple L);have B:=Aw▸r.length.symm;refine⟨"tuple",_,CV.lookup,J.typeIs,HT.getItem_tuple_cut J hs U Y (by rwa[B]) ?_ (by rwa[B])⟩;rw[B];refine⟨.ref s.heap.objs.size,_,I.laid (t':=s.toks) (λb ob q=>AO _ q) (AQ _) ?_,rfl,q _ (I.hok.fresh (AQ _))⟩
 exact⟨AK (pP xs lo hi) O,_,(r.drop (HT.sIx xs.length 0 lo)).take (HT.sIx xs.length xs.length hi-HT.sIx xs.length 0 lo),iy.new _ _⟩
def rCatT(K:DQ):R2:=λx y H Q=>∃a b xs ys,x=.ref a/\y=.ref b/\SqT K H a xs/\SqT K H b ys/\xs≠[]/\xs.length+ys.length<=sizeLine /\
 (ys=[]->Q (.ref a) H)/\(ys≠[]->∀p,H p=none->Q (.ref p) (upd H p (.tup (xs++ys))))
def Vals.nil_iff(r:Vals xs us):us=[]↔xs=[]:=by
 cases r with
 |nil=>simp
 |cons _ _=>simp
def op_catT:OpR X (binaryOp .Add) (rCatT X.K):=by
 intro ww s σ H x y v u Q I rx ry h;obtain⟨a,b,xs,ys,rfl,rfl,L,O,U,Y,Z,q2⟩:=h;cases rx;cases ry;refine oK (I.tuple L) λits J p1 _=>oK (I.tuple O) λaa B p2 _=>HT.cat_tup p1 p2 (λz=>U (J.nil_iff.mp z)) (λz=>⟨.ref a,H,I,rfl,Z (B.nil_iff.mp z)⟩) (λz=>?_) (by rwa[<- J.length,<- B.length]);refine⟨.ref s.heap.objs.size,_,I.laid (t':=s.toks) (λb ob q=>AO _ q) (AQ _) ?_,rfl,q2 (λw=>z (B.nil_iff.mpr w)) _ (I.hok.fresh (AQ _))⟩
 exact⟨by exact AB▸Y,_,J.append B,iy.new _ _⟩
end
noncomputable def ixN(n:Nat)(i:Int):Option Nat:=if 0<=i then(if i<n then some i.toNat else none) else if -(n:Int)<=i then some (i+n).toNat else none
noncomputable def atI{q:Type}(xs:List q)(i:Int):Option q:=(ixN xs.length i).bind λj=>xs[j]?
def Jj(h:ixN n i=some j):seqIndex? i n=some j/\j<n/\- n<=i/\i<n:=by grind[ixN,seqIndex_of,seqIndex_neg,lia,Option.some.inj]
def Qf(h:atI xs i=some v):∃j,seqIndex? i xs.length=some j/\xs[j]?=some v/\j<xs.length/\-(xs.length:Int)<=i/\i<xs.length:=by
 delta atI at h
 cases e:ixN xs.length i with
 |none=>rw[e] at h;cases h
 |some j =>
  rw[e] at h;exact zu (Jj e) λh1 h2 q B=>⟨j,h1,h,h2,q,B⟩
def iK{j:Nat}(h:xs[j]?=some v):atI xs j=some v:=by grind[ixN,lia,atI]
def jN(b:Expr):Prop:=∀o i,subscripted b false o i=operate [o,i] (getItem o i)
def IxR(X:Cx)(r:R2):Prop:=
 ∀(value q:Expr)(ww:List (Addr×Obj))(s:Shared)(σ:St)(H:Hp)(x y:V)(v u:Value)(Q:VK),Inv X ww σ H s->RelV x v->RelV y u->r x y H Q ->
  subscripted q false v u=operate [v,u] (getItem v u)->wpAny (model X.prog X.w) X.A (subscriptTail value q v u) (EP X ww σ Q) X.xe s
def MtR(X:Cx)(id:String)(r:V->List V->Hp->VK->Prop):Prop:=
 ∀(ww:List (Addr×Obj))(s:Shared)(σ:St)(H:Hp)(x:V)(xs:List V)(v:Value)(us:List Value)(Q:VK),Inv X ww σ H s->RelV x v->Vals xs us->r x xs H Q ->
  wpAny (model X.prog X.w) X.A (call (.builtin id) (v::us)) (EP X ww σ Q) X.xe s
section
variable{X:Cx}{a b:Expr}{ta tb:TE}{pos:Pos}
def IxR.or(h:IxR X r)(h':IxR X O):IxR X (λx y H Q=>r x y H Q\/O x y H Q):=by
 intro value L ww s σ H x y v u Q I B J q hs
 rcases q with q|q
 .exact h value L ww s σ H x y v u Q I B J q hs
 .exact h' value L ww s σ H x y v u Q I B J q hs
def pe_ix(O:IxR X r)(J:PE X a ta)(L:PE X b tb)(hs:jN b):PE X (.Subscript a b pos) (tOp r ta tb):=by
 intro ww s σ H Q I h;exact Subscript_ (binT J L I h λv u Z x y H2 B U Y q=>O a b ww Z σ H2 x y v u Q B U Y q (hs _ _))
inductive Wr(S:Hp->Addr->List V->Prop)(x y:V)(H:Hp)(Q:VK):Prop
 |mk(p:Addr)(xs:List V)(i:Int)(v:V)(h:x=.ref p)(h':y=.int i)(s:S H p xs)(a:atI xs i=some v)(q:Q v H)
def rIxL(K:DQ):R2:=Wr (SqL K)
def rIxT(K:DQ):R2:=Wr (SqT K)
def rIxS:R2:=λx y H Q=>∃z i c,x=.str z/\y=.int i/\z.length<=sizeLine/\atI z.cps.toList i=some c/\Q (.str ⟨#[c]⟩) H
def ix_list:IxR X (rIxL X.K):=by
 intro value ae ww s σ H x y v u Q I rx ry h hs;obtain⟨p,xs,i,z,rfl,rfl,Z,U,aa⟩:=h;cases rx;obtain⟨t,rfl⟩:=ry;refine oK (I.list Z) λits r q hz=>KM (Qf U) λj h1 h2 h3 L O=>oX (r.get h2) λw J ab=>?_;have Y:=r.length;have hn:=oU;have B:EP X ww σ Q w s:=⟨z,H,I,ab,aa⟩
 by_cases h0:0<=i
 .have hj:i.toNat=j:=by
   rw[seqIndex_of h0 O] at h1;exact Av h1
  exact item_listR q.isList h0 ir (by simp_all) B hs
 .have hj:(i+(its.toArray.size:Int)).toNat=j:=by
   rw[seqIndex_neg ir L] at h1;exact Aw▸Y▸Av h1
  exact subscriptTail_builtinR q.isList.typeIs slot_list_getitem.lookup
   (wpAny_getItem_list_neg q.isList ir (by simp_all) ir (by rw[hj];simpa using J) ⟨rfl,B⟩) hs
def ix_tup:IxR X (rIxT X.K):=by
 intro value aa ww s σ H x y v u Q I U Y h hs;obtain⟨p,xs,i,z,rfl,rfl,L,J,q⟩:=h;cases U;obtain⟨t,rfl⟩:=Y;refine oK (I.tuple L) λits r B hz=>KM (Qf J) λj h1 h2 h3 h4 h5=>oX (r.get h2) λw Z O=>?_;have hn:=oU
 exact subscriptTail_builtinR B.typeIs slot_tuple_getitem.lookup
  (getItem_tuple B ir ir (by rwa[Aw,<- r.length]) (by simp_all) ⟨rfl,(⟨z,H,I,O,q⟩)⟩) hs
def ix_str:IxR X rIxS:=by
 intro value aa ww s σ H x y v u Q I J L h hs;obtain⟨z,i,c,rfl,rfl,hz,B,q⟩:=h;obtain⟨t,rfl⟩:=J;obtain⟨t',rfl⟩:=L;refine KM (Qf B) λj h1 h2 O U Y=>?_;have Z:z.cps.toList.length=z.length:=by simp[Str.length]
 have hn:=oU;exact tail_any (Bp s z t) slot_str_getitem.lookup (getItem_str ir (by grind) ⟨.str ⟨#[c]⟩,H,I.tok _,⟨_,rfl⟩,q⟩) hs
def rIx(K:DQ):R2:=λx y H Q=>rIxL K x y H Q\/rIxT K x y H Q\/rIxS x y H Q
def ix_seq:IxR X (rIx X.K):=ix_list.or (ix_tup.or ix_str)
def Zc(its:List Value)n j u:Obj.mapSeq (·.setIfInBounds j u) { cls:=.type "list",data:=.seq its.toArray n }={ cls:=.type "list",data:=.seq (its.set j u).toArray n }:=by
 simp[Obj.mapSeq]
def Inv.lst{ww:List (Addr×Obj)}{σ:St}{H:Hp}{s:Shared}{p:Addr}{xs:List V}(I:Inv X ww σ H s)(h:H p=some (.lst xs)):
  ∃(its:List Value)(n:Nat),Vals xs its/\s.heap.get? p=some { cls:=.type "list",data:=.seq its.toArray n }/\xs.length<=sizeLine:=by
 obtain⟨z,its,n,r,e⟩:=I.hok p _ h;exact⟨its,n,r,e,z⟩
def Inv.lstUpd{σ:St}{its:List Value}(I:Inv X ww σ H s)(h:H p=some (.lst xs))(O:s.heap.get? p=some { cls:=.type "list",data:=.seq its.toArray n })(B:f { cls:=.type "list",data:=.seq its.toArray n }={ cls:=.type "list",data:=.seq its'.toArray J })(r:Vals ys its')(U:ys.length<=sizeLine)t:
  Inv X ww σ (upd H p (.lst ys)) { s with heap:=s.heap.update p f,toks:=t }:=by
 have e:(s.heap.update p f).get? p=some { cls:=.type "list",data:=.seq its'.toArray J }:=by
  rw[Be f O (by rw[B]<;>rfl),B]
 refine I.write (by rw[h];trivial) (.inl rfl) (λb u L q=>(Au _ _ (Ne.symm L)).trans q) ⟨_,e⟩ ?_;exact⟨U,its',J,r,e⟩
def rSetL:V->V->V->Hp->(Hp->Prop)->Prop:=λo i v H Q=>∃p xs k j,o=.ref p/\i=.int k/\H p=some (.lst xs)/\ixN xs.length k=some j/\Q (upd H p (.lst (xs.set j v)))
def VJ:PSet X rSetL:=by
 intro ww s σ H o i v ov iv u Q I ro ri rv h;obtain⟨p,xs,k,j,rfl,rfl,U,hj,q⟩:=h;cases ro;obtain⟨t,rfl⟩:=ri;refine rZ (I.lst U) λits n r J hz=>zu (Jj hj) λh1 h2 Y Z=>?_;have O:=r.length;have hn:=oU
 have L:=
  I.lstUpd U J (Zc its n j u) (r.set rv j) (by grind) s.toks
 by_cases h0:0<=k
 .have B:k.toNat=j:=by
   rw[seqIndex_of h0 Z] at h1;exact Av h1
  exact PySem.W.ki_setAt J h0 ir (by simp_all) (B▸⟨_,L,q⟩)
 .have B:(k+(its.toArray.size:Int)).toNat=j:=by
   rw[seqIndex_neg ir Y] at h1;exact Aw▸O▸Av h1
  exact PySem.W.ki_setBack J ir (by rwa[Aw,<- O]) ir (B▸⟨_,L,q⟩)
def zA lo hi n:(sliceBounds lo hi none n).1=((HT.sIx n 0 lo:Nat):Int)/\(sliceBounds lo hi none n).2.1=((HT.sIx n n hi:Nat):Int)/\(sliceBounds lo hi none n).2.2=1:=by
 refine⟨?_,?_,rfl⟩
 .cases lo with
  |none=>simp[sliceBounds,HT.sIx]
  |some i =>
   simp only[sliceBounds,HT.sIx,Option.getD_none,show(1:Int) > 0 by decide,if_true]
   by_cases h:i<0
   .simp only[h,if_true]<;>lia
   .simp only[h,if_false]<;>lia
 .cases hi with
  |none=>simp[sliceBounds,HT.sIx]
  |some i =>
   simp only[sliceBounds,HT.sIx,Option.getD_none,show(1:Int) > 0 by decide,if_true]
   by_cases h:i<0
   .simp only[h,if_true]<;>lia
   .simp only[h,if_false]<;>lia
def lS(its:List Value)lo hi:slicePick its.toArray lo hi none=((its.drop (HT.sIx its.length 0 lo)).take (HT.sIx its.length its.length hi-HT.sIx its.length 0 lo)).toArray:=by
 obtain⟨h1,h2,q⟩:=(zA lo hi its.toArray.size)
 delta slicePick
 rw[h1,h2,q]
 simp only[sliceRange_one,pick_run]<;>rfl
def rSlL(K:DQ):V->Option Int->Option Int->Hp->VK->Prop:=λx lo hi H Q=>∃a xs,x=.ref a/\SqL K H a xs/\∀p,H p=none->Q (.ref p) (upd H p (.lst (KQ xs lo hi)))
def sl_list:SlR X (rSlL X.K):=by
 intro ww s σ H x v vl vu lo hi sl Q I Z hs U Y h;obtain⟨a,xs,rfl,L,q⟩:=h;cases Z;obtain⟨its,r,B,O⟩:=(I.list L);have J:=r.length;refine⟨"list",_,slot_list_getitem.lookup,B.isList.typeIs,wpAny_getItem_list_slice B.isList hs U Y .none ue ?_ (by grind)⟩;rw[lS,<- J];refine⟨.ref s.heap.objs.size,_,I.laid (t':=s.toks) (λb ob q=>AO _ q) (AQ _) ?_,rfl,q _ (I.hok.fresh (AQ _))⟩
 exact⟨AK (pP xs lo hi) O,_,0,(r.drop (HT.sIx xs.length 0 lo)).take (HT.sIx xs.length xs.length hi-HT.sIx xs.length 0 lo),Ad _ rfl⟩
noncomputable def vF:V->Bool
 |.non=>true
 |.bl _=>true
 |.int _=>true
 |.str _=>true
 |_=>false
noncomputable def eqV:V->V->Bool
 |.non,.non=>true
 |.bl a,.bl b=>a==b
 |.bl a,.int b=>(if a then 1 else 0)==b
 |.int a,.bl b=>a==(if b then 1 else 0)
 |.int a,.int b=>a==b
 |.str a,.str b=>a==b
 |_,_=>false
def bR(J:RelV y u)(q:RelV x v)(L:vF y=true)(B:vF x=true):SeqAt.EqAt A s u v (eqV y x):=by
 cases y with
 |non =>
  cases J
  cases x with
  |non=>cases q;exact SeqAt.EqAt.same _
  |bl b=>cases q;exact SeqAt.EqAt.none_bool b
  |int b=>obtain⟨t,rfl⟩:=q;exact SeqAt.EqAt.none_int b t
  |str b=>obtain⟨t,rfl⟩:=q;exact SeqAt.EqAt.none_str b t
  |_=>exact absurd B AV
 |bl a =>
  cases J
  cases x with
  |non=>cases q;exact SeqAt.EqAt.bool_none a
  |bl b=>cases q;exact DN a b
  |int b=>obtain⟨t,rfl⟩:=q;exact SeqAt.EqAt.bool_int a b t
  |str b=>obtain⟨t,rfl⟩:=q;exact SeqAt.EqAt.bool_str a b t
  |_=>exact absurd B AV
 |int a =>
  obtain⟨t',rfl⟩:=J
  cases x with
  |non=>cases q;exact SeqAt.EqAt.int_none a t'
  |bl b=>cases q;exact SeqAt.EqAt.int_bool a t' b
  |int b=>obtain⟨t,rfl⟩:=q;exact SeqAt.EqAt.int_int a t' b t
  |str b=>obtain⟨t,rfl⟩:=q;exact SeqAt.EqAt.int_str a t' b t
  |_=>exact absurd B AV
 |str a =>
  obtain⟨t',rfl⟩:=J
  cases x with
  |non=>cases q;exact SeqAt.EqAt.str_none a t'
  |bl b=>cases q;exact SeqAt.EqAt.str_bool a t' b
  |int b=>obtain⟨t,rfl⟩:=q;exact SeqAt.EqAt.str_int a t' b t
  |str b=>obtain⟨t,rfl⟩:=q;exact SeqAt.EqAt.str_str a t' b t
  |_=>exact absurd B AV
 |_=>exact absurd L AV
noncomputable def eqU(x:V)(u:Value):Bool:=match u with
 |.none=>eqV .non x
 |.bool b=>eqV (.bl b) x
 |.int i _=>eqV (.int i) x
 |.str z _=>eqV (.str z) x
 |_=>false
def Yi(r:RelV y u)(f:vF y=true):eqU x u=eqV y x:=by
 cases y with
 |non=>cases r;rfl
 |bl b=>cases r;rfl
 |int i=>obtain⟨t,rfl⟩:=r;rfl
 |str z=>obtain⟨t,rfl⟩:=r;rfl
 |_=>exact absurd f AV
theorem tD:∀{xs}{us},Vals xs us->xs.all vF=true->us.any (eqU x)=xs.any λy=>eqV y x
 |_,_,.nil,_=>rfl
 |y::xs,u::us,.cons r t,f=>by
  rw[BS,Aq] at f;rw[BN,BN,Yi r f.1,tD t f.2]
theorem vM(J:RelV x v)(B:vF x=true):∀{xs}{us},Vals xs us->xs.all vF=true->∀u∈us,SeqAt.EqAt A s u v (eqU x u)
 |_,_,.nil,_=>λu q=>by cases q
 |y::xs,u::us,.cons r t,f=>λL q=>by
  rw[BS,Aq] at f
  rcases Ah.mp q with rfl|q
  .exact(Yi r f.1)▸bR r J f.1 B
  .exact vM J B t f.2 L q
noncomputable def inV(x:V)(xs:List V):Bool:=xs.any λy=>eqV y x
def rIn(K:DQ)(q:Bool):R2:=λx y H Q=>∃p xs,y=.ref p/\(SqL K H p xs\/SqT K H p xs)/\vF x=true/\xs.all vF=true/\Q (.bl (if q then !inV x xs else inV x xs)) H
def bW:OpR X (compareOp .In) (rIn X.K false):=by
 intro ww s σ H x y v u Q I U Z h;obtain⟨p,xs,rfl,B,L,fs,q⟩:=h;cases Z
 rcases B with B|B
 .obtain⟨its,r,J,Y⟩:=I.list B
  refine SeqAt.in_listAt (eqU x) J.isList (λw O=>vM U L r fs w (by grind)) ⟨.bl _,H,I,rfl,?_⟩;rw[show its.toArray.any (eqU x)=its.any (eqU x) by simp,tD r fs];exact q
 .obtain⟨its,r,J,Y⟩:=I.tuple B
  refine SeqAt.in_tupleAt (eqU x) J (λw O=>vM U L r fs w (by simpa using O)) ⟨.bl _,H,I,rfl,?_⟩;rw[show its.toArray.any (eqU x)=its.any (eqU x) by simp,tD r fs];exact q
def eZ:OpR X (compareOp .NotIn) (rIn X.K true):=by
 intro ww s σ H x y v u Q I U Z h;obtain⟨p,xs,rfl,B,L,fs,q⟩:=h;cases Z
 rcases B with B|B
 .obtain⟨its,r,J,Y⟩:=I.list B
  refine SeqAt.notIn_listAt (eqU x) J.isList (λw O=>vM U L r fs w (by grind)) ⟨.bl _,H,I,rfl,?_⟩;rw[show its.toArray.any (eqU x)=its.any (eqU x) by simp,tD r fs];exact q
 .obtain⟨its,r,J,Y⟩:=I.tuple B
  refine SeqAt.notIn_tupleAt (eqU x) J (λw O=>vM U L r fs w (by simpa using O)) ⟨.bl _,H,I,rfl,?_⟩;rw[show its.toArray.any (eqU x)=its.any (eqU x) by simp,tD r fs];exact q
def cA:OpR X (compareOp .NotIn) (λx y H Q=>∃i j,x=.str i/\y=.str j/\Q (.bl (!(!(Builtin.Str.occurrences j i 0 j.length 1).isEmpty))) H):=by
 intro ww s σ H x y v u Q I B J h;obtain⟨i,j,rfl,rfl,q⟩:=h;obtain⟨t,rfl⟩:=B;obtain⟨t',rfl⟩:=J;exact notIn_str ⟨.bl _,H,I,rfl,q⟩
def aI:CallR X (.builtin "len") (λxs H Q=>∃p ys,xs=[.ref p]/\(SqL X.K H p ys\/SqT X.K H p ys)/\Q (.int ys.length) H):=by
 intro ww s σ H xs us Q I r h;obtain⟨p,ys,rfl,B,q⟩:=h;obtain⟨u,rfl,rfl⟩:=uG r;have Y:=oU
 rcases B with B|B
 .obtain⟨its,O,L,U⟩:=I.list B
  have J:=O.length;exact Calls.call_len_list L.isList (by grind) ⟨.int ys.length,H,I.tok _,⟨s.toks+1,by rw[Aw,J]⟩,q⟩
 .obtain⟨its,O,L,U⟩:=I.tuple B
  have J:=O.length;exact len_tuple L (by simp only[List.size_toArray]<;>lia) ⟨.int ys.length,H,I.tok _,⟨s.toks+1,by rw[Aw,J]⟩,q⟩
def eI:CallR X (.builtin "len") (λxs H Q=>∃z,xs=[.str z]/\z.length<=sizeLine/\Q (.int z.length) H):=by
 intro ww s σ H xs us Q I r h;obtain⟨z,rfl,J,q⟩:=h;obtain⟨u,rfl,t,rfl⟩:=uG r;have B:=oU;exact len_str ir ⟨.int z.length,H,I.tok _,⟨_,rfl⟩,q⟩
def CallR.or(h:CallR X f r)(h':CallR X f J):CallR X f (λxs H Q=>r xs H Q\/J xs H Q):=by
 intro ww s σ H xs us Q I B q
 rcases q with q|q
 .exact h ww s σ H xs us Q I B q
 .exact h' ww s σ H xs us Q I B q
def sD:CallR X (.type "list") (λxs H Q=>∃p ys,xs=[.ref p]/\(SqL X.K H p ys\/SqT X.K H p ys)/\∀l,H l=none->Q (.ref l) (upd H l (.lst ys))):=by
 intro ww s σ H xs us Q I r h;obtain⟨p,ys,rfl,J,ae⟩:=h;obtain⟨u,rfl,rfl⟩:=uG r
 have aa:∀its,Vals ys its->ys.length<=sizeLine->∀h' q,(∀b o',s.heap.get? b=some o'->h'.get? b=some o') ->
   h'.get? s.heap.objs.size=some { cls:=.type "list",dict:=none,data:=.seq its.toArray q,slots:=#[] }->EP X ww σ Q (.ref s.heap.objs.size) { s with heap:=h' }:=λits B L h' q O e=>
  ⟨.ref s.heap.objs.size,_,I.laid (t':=s.toks) O (AQ _) (show ObjOk X.prog X.w _ h' _ (.lst ys) from⟨L,its,q,B,e⟩),rfl,ae _ (I.hok.fresh (AQ _))⟩
 rcases J with J|J
 .obtain⟨its,B,pl,L⟩:=I.list J
  have ab:=B.length;obtain⟨o,Z,U,n,Y⟩:=pl.isList;exact call_list_seq p (.inl rfl) Z U Y (λh' q O e=>aa its B L h' q O e) (by grind)
 .obtain⟨its,B,pl,L⟩:=I.tuple J
  have ab:=B.length;obtain⟨o,Z,U,n,Y⟩:=pl;exact call_list_seq p (.inr rfl) Z U Y (λh' q O e=>aa its B L h' q O e) (by simp only[List.size_toArray]<;>omega)
def iS:CallR X (.type "tuple") (λxs H Q=>∃p ys,xs=[.ref p]/\((SqL X.K H p ys/\∀l,H l=none->Q (.ref l) (upd H l (.tup ys)))\/(SqT X.K H p ys/\Q (.ref p) H))):=by
 intro ww s σ H xs us Q I r h;obtain⟨p,ys,rfl,h⟩:=h;obtain⟨u,rfl,rfl⟩:=uG r
 rcases h with ⟨B,q⟩|⟨B,q⟩
 .obtain⟨its,L,J,U⟩:=(I.list B)
  have aa:=L.length;refine call_tuple_list J.isList (λh' Z=>?_) (by grind);have O:=I.kept (t':=s.toks) Z
  have Y:=
   O.laid (t':=s.toks) (λb o e=>AO _ e) (AQ _) (show ObjOk X.prog X.w _ _ _ (.tup ys) from⟨U,its,L,iy.new _ _⟩)
  exact⟨.ref h'.objs.size,_,Y,rfl,q _ (O.hok.fresh (AQ _))⟩
 .exact oK (I.tuple B) λits L J U=>call_tuple_same J ⟨.ref p,H,I,rfl,q⟩
def tyV(K:DQ)(T:String)(x:V)(H:Hp):Prop:=match x with
 |.str _=>T="str"
 |.int _=>T="int"
 |.ref p=>(T="list"/\∃xs,SqL K H p xs)\/(T="tuple"/\∃o,K.lookup p=some o/\o.cls=.type "tuple"/\o.dict=none) \/
   (T="dict"/\((∃kvs,H p=some (.dK kvs))\/∃kvs,H p=some (.dT kvs)))\/(T="set"/\∃S n,H p=some (.set S n))
 |_=>False
def Vx{σ:St}(I:Inv X ww σ H s)(r:RelV x v)(ty:tyV X.K T x H):
  s.TypeIs v T/\∀a,v=.ref a->∃L,s.heap.get? a=some L/\L.dict=none:=by
 cases x with
 |str z =>
  obtain⟨t,rfl⟩:=r;cases ty;exact⟨Bp s z t,λ_ e=>nomatch e⟩
 |int i =>
  obtain⟨t,rfl⟩:=r;cases ty;exact⟨typeIs_int s i t,λ_ e=>nomatch e⟩
 |ref p =>
  cases r
  rcases ty with ⟨rfl,xs,Y⟩|⟨rfl,o,q,U,J⟩|⟨rfl,q⟩|⟨rfl,S,n,q⟩
  .refine oK (I.list Y) λits _ O _=>⟨O.isList.typeIs,λa e=>?_⟩
   cases e;exact Xd O λo n e c J _=>⟨o,e,J⟩
  .refine⟨⟨o,I.kIn p o q,U⟩,λa e=>?_⟩
   cases e;exact⟨o,I.kIn _ o q,J⟩
  .have z:∃o,s.heap.get? p=some o/\o.ExactDict:=by
    rcases q with ⟨kvs,q⟩|⟨kvs,q⟩
    .obtain⟨_,_,_,_,o,_,_,e,ex,_⟩:=I.hok p _ q
     exact⟨o,e,ex⟩
    .obtain⟨_,_,_,_,o,_,_,e,ex,_⟩:=I.hok p _ q
     exact⟨o,e,ex⟩
   obtain⟨o,e,ex⟩:=z;refine⟨⟨o,e,ex.1⟩,λa B=>?_⟩;cases B;exact⟨o,e,ex.2.1⟩
  .refine Tg (I.hok p _ q) λo _ _ _ e ex _=>⟨⟨o,e,ex.1⟩,λa B=>?_⟩
   cases B;exact⟨o,e,ex.2.1⟩
 |_=>exact False.elim ty
def tBM0(K:DQ)(T:String)(r:V->List V->Hp->VK->Prop)(to:TE):TE:=λσ H Q=>to σ H λx H1=>tyV K T x H1/\r x [] H1 Q
def tBM(K:DQ)(T:String)(r:V->List V->Hp->VK->Prop)(to:TE)(t:TA):TE:=λσ H Q=>to σ H λx H1=>tyV K T x H1/\t σ H1 λxs H2=>r x xs H2 Q
variable{o e:Expr}{es:List Expr}{to:TE}{t:TA}{name:Str}{apos cpos:Pos}{T id:String}{r:V->List V->Hp->VK->Prop}
def pe_bm0(Z:PlainAttrs T)(aa:Slot T name id)(Y:typeOf (.builtin id)=pure (.type "method_descriptor"))(O:MtR X id r)(U:PE X o to)(J:attributeBase o name X.env (eval o X.env)=eval o X.env:=by rfl)(L:(apos.endLine==cpos.line)=true:=by rfl):PE X (.Call (.Attribute o name apos) [] [] cpos) (tBM0 X.K T r to):=by
 intro ww s σ H Q I h;refine wpAny_Call_method0_late J L (thn (U ww s σ H _ I h) λv s1 zz=>Xd zz λx H1 q B ty q1=>?_);obtain⟨h1,h2⟩:=Vx q B ty;exact⟨T,id,Z,aa,Y,h1,h2,CQ rfl (PySem.evalArgs_none (O ww s1 σ H1 x [] v [] Q q B .nil q1))⟩
def Wp(af:PlainAttrs T)(ah:Slot T name id)(ae:typeOf (.builtin id)=pure (.type "method_descriptor"))(ab:MtR X id r)(ho:PE X o to)(U:PA X (e::es) t)(Y:attributeBase o name X.env (eval o X.env)=eval o X.env:=by rfl)(Z:((backTo cpos (starEach (e::es) X.env)).all (λx=>!x.1)&&(backToKw cpos (keywordEach [] X.env)).all (λx=>x.1.isSome)
   && decide ((e::es).length+([]:List Keyword).length+(if([]:List Keyword).isEmpty then 0 else 1)<30))=true:=by rfl)(aa:(apos.endLine==cpos.line)=true:=by rfl)(hs:starEach (e::es) X.env=(false,eval e X.env)::starEach es X.env:=by rfl)(ai:(backTo cpos (starEach es X.env)).any (·.1)=false:=by rfl):
  PE X (.Call (.Attribute o name apos) (e::es) [] cpos) (tBM X.K T r to t):=by
 intro ww s σ H Q I h;refine wpAny_Call_method_late Y Z aa rfl (thn (ho ww s σ H _ I h) λv s1 q=>Xd q λx H1 B L ty q1=>?_);obtain⟨h1,h2⟩:=Vx B L ty;refine⟨T,id,af,ah,ae,h1,h2,?_⟩;have J:=U cpos ww s1 σ H1 _ B q1;rw[hs] at J ⊢;exact CQ (by grind) (DO (thn J λus ag q=>rZ q λvs H2 O r2 q2=>ab ww ag σ H2 x vs v us Q O L r2 q2))
end
def MtM(X:Cx)(id:String)(r:V->List V->Hp->VK->Prop):Prop:=
 ∀(ww:List (Addr×Obj))(s:Shared)(σ:St)(H:Hp)(x:V)(xs:List V)(v:Value)(us:List Value)(Q:VK),Inv X ww σ H s->RelV x v->Vals xs us->r x xs H Q ->
  wpAny (model X.prog X.w) X.A (call (.builtin id) (v::us)) (EP X ww σ Q) X.xe s
theorem Vals.one:∀{x}{us},Vals [x] us->∃u,us=[u]/\RelV x u
 |_,_,.cons r .nil=>⟨_,rfl,r⟩
theorem Vals.zero:∀{us},Vals [] us->us=[]
 |_,.nil=>rfl
def Vals.dropLast(h:Vals xs us):Vals xs.dropLast us.dropLast:=by
 induction h with
 |nil=>exact .nil
 |cons r t B =>
  cases t with
  |nil=>exact .nil
  |cons q t'=>exact .cons r B
theorem Vals.rep(h:Vals xs us):∀k,Vals (List.replicate k xs).flatten (List.replicate k us).flatten
 |0=>.nil
 |k+1 =>Vals.append h (Vals.rep h k)
theorem xE(its:List Value):∀k q,
  List.foldl (λJ L=>J++L) q.toArray (List.replicate k its.toArray)=(q++(List.replicate k its).flatten).toArray
 |0,q=>by simp
 |k+1,q=>by
  have e:q.toArray++its.toArray=(q++its).toArray:=by simp
  have B:(q++its)++(List.replicate k its).flatten=q++(List.replicate (k+1) its).flatten:=by grind
  rw[<- B,<- xE its k (q++its),<- e,Ck,List.foldl_cons]
section
variable{X:Cx}{ww:List (Addr×Obj)}{σ:St}{H:Hp}{s:Shared}{l b:Addr}{xs ys zs:List V}
def Inv.lset{its:List Value}(I:Inv X ww σ H s)(B:H l=some (.lst xs))(e:s.heap.get? l=some { cls:=.type "list",data:=.seq its.toArray n })(L:f its.toArray=its'.toArray)(U:Vals ys its')(Y:ys.length<=sizeLine):
  Inv X ww σ (upd H l (.lst ys)) { s with heap:=s.heap.update l (Obj.mapSeq f),toks:=t' }:=by
 have q:=PySem.IsL.update e f;rw[L] at q;refine I.write (B▸trivial) (.inl rfl) (λZ u J O=>(Au s.heap (Obj.mapSeq f) (Ne.symm J)).trans O) ⟨_,q⟩ ?_;exact⟨Y,its',_,U,q⟩
def Inv.lnew(I:Inv X ww σ H s)(B:Vals ys its)(J:ys.length<=sizeLine):
  Inv X ww σ (upd H s.heap.objs.size (.lst ys)) { s with heap:=s.heap.push { cls:=.type "list",data:=.seq its.toArray },toks:=t' }:=
 I.laid (λ_ _ q=>AO _ q) (AQ _) ⟨J,its,0,B,Ad _ rfl⟩
def Inv.fresh(I:Inv X ww σ H s):H s.heap.objs.size=none:=I.hok.fresh (AQ _)
def Inv.lstM(I:Inv X ww σ H s)(q:H l=some (.lst xs)):xs.length<=sizeLine/\∃its n,Vals xs its/\xs.length=its.length/\s.heap.get? l=some { cls:=.type "list",data:=.seq its.toArray n }:=by
 obtain⟨z,its,n,r,e⟩:=I.hok l _ q;exact⟨z,its,n,r,r.length,e⟩
def mC(h:n<=sizeLine):Builtin.List.listTooLong n=false:=AW ir
end
section
variable{X:Cx}
def Z1:V->List V->Hp->VK->Prop:=λx vs H Q=>∃l xs y,x=.ref l/\vs=[y]/\H l=some (.lst xs)/\xs.length<sizeLine/\Q .non (upd H l (.lst (xs++[y])))
def rO:MtM X "list.append" Z1:=by
 intro ww s σ H x vs v us Q I O L h;obtain⟨l,xs,y,rfl,rfl,B,Y,q⟩:=h;cases O;obtain⟨u,rfl,J⟩:=L.one;obtain⟨z,its,n,r,U,e⟩:=I.lstM B;refine BB F.slot_list_append ⟨_,e,rfl⟩ F.entry_list_append (F.args_list_append_2 _ _) (PySem.list_append l its.toArray n u (by grind)) ⟨e,⟨.non,_,I.lset (its':=its++[u]) B e ue (r.append (.cons J .nil)) ?_,rfl,q⟩⟩;rw[AB,A6]
 lia
def Z0:V->List V->Hp->VK->Prop:=λx vs H Q=>∃l b xs zs,x=.ref l/\vs=[.ref b]/\H l=some (.lst xs)/\H b=some (.lst zs)/\xs.length+zs.length<=sizeLine/\Q .non (upd H l (.lst (xs++zs)))
def vU:MtM X "list.extend" Z0:=by
 intro ww s σ H x vs v us Q I rx rv h;obtain⟨l,b,xs,zs,rfl,rfl,J,O,hz,q⟩:=h;cases rx;obtain⟨u,rfl,rfl⟩:=rv.one;obtain⟨z,its,n,r,hl,e⟩:=I.lstM J;obtain⟨z2,B,Z,r2,aa,L⟩:=I.lstM O;have Y:its.toArray.size+B.toArray.size<=sizeLine:=by simp;lia
 have U:¬ (!its.toArray.isEmpty&&Builtin.List.listTooLong (its.toArray.size+B.toArray.size))=true:=by
  rw[mC Y,A2];exact AV
 refine BB F.slot_list_extend ⟨_,e,rfl⟩ F.entry_list_extend (F.args_list_extend_2 _ _)
  (AutoSeq1.list_extend_list_list_0 l its.toArray n b B.toArray Z U ir ir) ⟨e,L,?_⟩
 refine⟨.non,_,I.lset (its':=its++B) J e ue (r.append r2) ?_,rfl,q⟩;rw[AB]
 lia
def rPop:V->List V->Hp->VK->Prop:=λx vs H Q=>∃l xs y,x=.ref l/\vs=[]/\H l=some (.lst xs)/\xs[xs.length-1]?=some y/\Q y (upd H l (.lst xs.dropLast))
def kM:MtM X "list.pop" rPop:=by
 intro ww s σ H x vs v us Q I Z Y h;obtain⟨l,xs,y,rfl,rfl,B,L,q⟩:=h;cases Z;have J:=Y.zero;subst J;obtain⟨z,its,n,r,hl,e⟩:=I.lstM B;obtain⟨u,hu,U⟩:=(r.get L);have O:its.toArray[its.toArray.size-1]?=some u:=by grind
 refine BB F.slot_list_pop ⟨_,e,rfl⟩ F.entry_list_pop (F.args_list_pop_1 _) (MeetsSeq.list_pop_last l its.toArray n u O (by grind)) ⟨e,⟨y,_,I.lset (its':=its.dropLast) B e ?_ r.dropLast ?_,U,q⟩⟩
 .grind
 .grind
def rCat:R2:=λx y H Q=>∃l b xs zs,x=.ref l/\y=.ref b/\H l=some (.lst xs)/\H b=some (.lst zs)/\xs.length+zs.length<=sizeLine/\∀p,H p=none->Q (.ref p) (upd H p (.lst (xs++zs)))
def op_cat:OpR X (binaryOp .Add) rCat:=by
 intro ww s σ H x y v u Q I Z ry h;obtain⟨l,b,xs,zs,rfl,rfl,U,O,hz,q⟩:=h;cases Z;cases ry;obtain⟨z,its,n,r,hl,e⟩:=I.lstM U;obtain⟨z2,B,n2,Y,aa,J⟩:=I.lstM O;refine PySem.P.add_list e J ?_ (by grind);have L:its.toArray++B.toArray=(its++B).toArray:=by simp
 exact L▸⟨.ref _,_,I.lnew (t':=s.toks) (r.append Y) (by grind),rfl,q _ I.fresh⟩
def rRep:R2:=λx y H Q=>∃l k xs,x=.ref l/\y=.int k/\H l=some (.lst xs)/\-(2 ^ 63)<=k/\k<2 ^ 63/\xs.length*k.toNat<=sizeLine /\
 ∀p,H p=none->Q (.ref p) (upd H p (.lst (List.replicate k.toNat xs).flatten))
def len_rep{q:Type}(xs:List q)k:(List.replicate k xs).flatten.length=k*xs.length:=by simp_all
def op_rep:OpR X (binaryOp .Mult) rRep:=by
 intro ww s σ H x y v u Q I rx ry h;obtain⟨l,k,xs,rfl,rfl,J,h1,h2,hz,aa⟩:=h;cases rx;obtain⟨t,rfl⟩:=ry;obtain⟨z,its,n,r,hl,e⟩:=I.lstM J;have U:its.toArray.size*k.toNat<=sizeLine:=by simp_all
 have L:¬ its.toArray.size*k.toNat > (2 ^ 63-1) / 8:=by
  have:(sizeLine:Nat)<=(2 ^ 63-1) / 8:=Th
  lia
 have O:¬ (!Builtin.List.listFitsIndex k)=true:=by
  rw[fitsIndex_both h1 h2];exact AV
 have Y:=(mC U)▸AV
 have Z:List.foldl (λq B=>q++B) #[] (List.replicate (if its.toArray.isEmpty=true then 0 else k.toNat) its.toArray)=(List.replicate k.toNat its).flatten.toArray:=by
  have f0:∀m:Nat,List.foldl (λq B=>q++B) #[] (List.replicate m its.toArray)=(List.replicate m its).flatten.toArray:=λm=>by
   have:=xE its m []
   rwa[BH] at this
  rw[f0]
  cases its with
  |nil=>simp
  |cons a r'=>rw[A7 ue]
 exact wpAny_binaryOp_repeat_ref rfl ⟨_,e,rfl⟩ (λs'=>typeIs_int s' k t) noFill_list_mul F.fills_int_mul DH repeat_list F.slot_int_index.lookup
  (BB DH (typeIs_int s k t) F.entry_int_rmul (F.args_int_rmul_2 _ _) (int___rmul___int_list k t l its.toArray n)
   ⟨e,rfl,⟨_,e,rfl⟩,BB F.slot_list_mul ⟨_,e,rfl⟩ F.entry_list_mul (F.args_list_mul_2 _ _) (AutoListH.list___mul___list_int_3 l its.toArray n k t O L Y) ⟨e,Z▸⟨.ref _,_,I.lnew (t':=s.toks) (r.rep k.toNat) (by rwa[len_rep,Nat.mul_comm]),rfl,aa _ I.fresh⟩⟩⟩)
end
section
variable{κ:Type}[DecidableEq κ]
noncomputable def aK(kvs:List (κ×V))(k:κ):Option V:=(kvs.find? λq=>decide (q.1=k)).map (·.2)
noncomputable def dU(kvs:List (κ×V))(k:κ)(v:V):List (κ×V):=
 if(kvs.any λq=>decide (q.1=k))=true then kvs.map (λq=>if q.1=k then(q.1,v) else q) else kvs++[(k,v)]
theorem yN{k:κ}(e:p.1=k):aK (p::r) k=some p.2:=by simp_all[aK]
def uN{k:κ}(e:¬ p.1=k):aK (p::r) k=aK r k:=by simp_all[aK]
theorem Qp k:∀kvs:List (κ×V),(kvs.any λq=>decide (q.1=k))=(aK kvs k).isSome
 |[]=>rfl
 |p::r=>by
  rw[BN]
  by_cases e:p.1=k
  .simp only[yN e,decide_eq_true e,Bool.true_or,Option.isSome_some]
  .rw[uN e,AW e];exact Qp k r
def yM kvs(k:κ)v:(dU kvs k v).length<=kvs.length+1:=by grind[dU,List.length_map,List.length_append,List.length_cons,List.length_nil]
def RelO.isSome_eq(r:RelO o u):o.isSome=u.isSome:=by
 cases o with
 |none=>cases u with
  |none=>rfl
  |some _=>exact r.elim
 |some _=>cases u with
  |none=>exact r.elim
  |some _=>rfl
def RelO.getD(r:RelO o u)(q:RelV d d'):RelV (o.getD d) (u.getD d'):=by
 cases o with
 |none=>cases u with
  |none=>exact q
  |some _=>exact r.elim
 |some _=>cases u with
  |none=>exact r.elim
  |some _=>exact r
def KV.val(r:KV kvs vs)(k:κ):RelO (aK kvs k) (valueAt vs k):=by
 induction r with
 |nil=>exact True.intro
 |@cons p q ps J h t L =>
  obtain⟨h1,h2⟩:=h
  by_cases e:p.1=k
  .have B:=h1.symm.trans e
   have b:valueAt (q::J) k=some q.2:=by simp[valueAt,List.find?_cons,B]
   rwa[yN e,b]
  .have B:¬ q.1=k:=λz=>e (h1.trans z)
   have b:valueAt (q::J) k=valueAt J k:=by simp[valueAt,List.find?_cons,B]
   rwa[uN e,b]
def KV.any(r:KV kvs vs)(k:κ):(kvs.any λq=>decide (q.1=k))=vs.any λq=>decide (q.1=k):=by
 induction r with
 |nil=>rfl
 |cons h t B=>rw[BN,BN,B,h.1]
def KV.repl(r:KV kvs vs)(k:κ)(O:RelV y u):
  KV (kvs.map λB=>if B.1=k then(B.1,y) else B) (vs.map λB=>if B.1=k then(B.1,u) else B):=by
 induction r with
 |nil=>exact .nil
 |@cons p q ps L h t J =>
  refine .cons ?_ J;obtain⟨h1,h2⟩:=h
  by_cases e:p.1=k
  .lia
  .lia
def KV.put(r:KV kvs vs)(k:κ)(q:RelV y u):KV (dU kvs k y) (stored vs k u):=by
 delta dU stored
 rw[r.any k]
 by_cases e:(vs.any λB=>decide (B.1=k))=true
 .rw[A4 e,A4 e];exact r.repl k q
 .rw[A7 e,A7 e];exact Paired.snoc r ⟨rfl,q⟩
def KV.length{vs:List (κ×Value)}(r:KV kvs vs):kvs.length=vs.length:=Paired.length r
end
def bP(r:RelV (kV k) u):(uZ P w).is k u=true:=by
 rcases k with (_|i)|x
 .cases r;exact oA P w
 .obtain⟨t,rfl⟩:=r;exact QO P w i t
 .obtain⟨t,rfl⟩:=r;exact QN P w x t
theorem tO:∀{ks}{us},Vals (ks.map kV) us->ItemsAre (uZ P w) ks us
 |[],_,r=>by cases r;exact .nil
 |k::ks,_,r=>by
  cases r with
  |cons h t=>exact .cons (bP h) (tO t)
abbrev KT(H:Hp):List (List Key×V)->List (List Key×Addr×Value)->Prop:=Paired λp q=>p.1=q.1/\H q.2.1=some (.tup (p.1.map kV))/\RelV p.2 q.2.2
def KT.val(r:KT H kvs xs)k:RelO (aK kvs k) ((atKey xs k).map (·.2)):=by
 induction r with
 |nil=>exact True.intro
 |@cons p q ps J h t L =>
  obtain⟨h1,_,h2⟩:=h
  by_cases e:p.1=k
  .have B:=h1.symm.trans e
   have b:atKey (q::J) k=some q.2:=by simp[atKey,List.find?_cons,B]
   rwa[yN e,b]
  .have B:¬ q.1=k:=λz=>e (h1.trans z)
   have b:atKey (q::J) k=atKey J k:=by simp[atKey,List.find?_cons,B]
   rwa[uN e,b]
def KT.repl(r:KT H kvs xs)k(U:RelV y u):
  KT H (kvs.map λB=>if B.1=k then(B.1,y) else B) (xs.map (putAt k u)):=by
 induction r with
 |nil=>exact .nil
 |@cons p q ps O h t J =>
  refine .cons (Yl h λh1 h2 L=>?_) J
  delta putAt
  by_cases e:p.1=k
  .lia
  .lia
def KT.put(r:KT H kvs xs)k(J:H b=some (.tup (k.map kV)))(B:RelV y u):
  KT H (dU kvs k y) (storedH xs k b u):=by
 have e:(kvs.any λL=>decide (L.1=k))=(atKey xs k).isSome:=by
  rw[Qp,(r.val k).isSome_eq,Option.isSome_map]
 delta dU storedH
 rw[e]
 by_cases q:(atKey xs k).isSome=true
 .rw[A4 q,A4 q];exact r.repl k B
 .rw[A7 q,A7 q];exact Paired.snoc r ⟨rfl,J,B⟩
def KT.keeps(r:KT H kvs xs)(q:∀b ys,H b=some (.tup ys)->H' b=some (.tup ys)):KT H' kvs xs:=
 Paired.mapP r λ_ _ z=>⟨z.1,q _ _ z.2.1,z.2.2⟩
section
variable{P:Program}{w:World}{H:Hp}{h:Heap}{a:Addr}
def rd_of(q:HOk P w H h)(e:Rd H a u):ObjOk P w H h a u:=e.ok q
def Xe(q:HOk P w H h)(e:Rd H a (.dK kvs)):kvs.length<=sizeLine/\(a==sysModules)=false/\∃vs,KV kvs vs/\h.DictOf (uZ P w) a vs:=
 show ObjOk P w H h a (.dK kvs) from rd_of q e
def dk_of(q:HOk P w H h)(e:H a=some (.dK kvs)):kvs.length<=sizeLine/\(a==sysModules)=false/\∃vs,KV kvs vs/\h.DictOf (uZ P w) a vs:=Xe q (.inl e)
def mL(B:HOk P w H h)(e:H a=some (.tup (ks.map kV))):(tupleKind (uZ P w)).is h ks a:=by
 obtain⟨_,its,r,o,h1,h2,⟨n,q⟩,_⟩:=(B a _ e);exact⟨o,its.toArray,n,h1,h2,q,by simpa using tO r⟩
def Js(L:HOk P w H h)(e:Rd H a (.dT kvs)):kvs.length<=sizeLine/\(a==sysModules)=false /\
  ∃xs,KT H kvs xs/\h.DictOfH (tupleKind (uZ P w)) a xs:=by
 obtain⟨z,y,xs,r,o,es,ep,h1,h2,U,Y,Z⟩:=(rd_of L e);refine⟨z,y,xs,r,o,es,ep,h1,h2,U,Y,λx B=>?_,Z⟩
 have O:∀{l:List (List Key×V)}{m:List (List Key×Addr×Value)},KT H l m->∀x∈m,(tupleKind (uZ P w)).is h x.1 x.2.1:=by
  intro l m q
  induction q with
  |nil=>intro x B;exact nomatch B
  |@cons p q ps qs J t ih =>
   intro x B
   rcases Ah.mp B with e|B
   .subst e
    exact mL L (J.1▸J.2.1)
   .exact ih x B
 exact O r x B
def dt_of(q:HOk P w H h)(e:H a=some (.dT kvs)):kvs.length<=sizeLine/\(a==sysModules)=false /\
  ∃xs,KT H kvs xs/\h.DictOfH (tupleKind (uZ P w)) a xs:=Js q (.inl e)
end
def ZM(H:Hp)(a:Addr)(y:V)(r:Option V):Prop:=
 (∃kvs k,Rd H a (.dK kvs)/\y=kV k/\r=aK kvs k)\/∃kvs k b,Rd H a (.dT kvs)/\y=.ref b/\H b=some (.tup (k.map kV))/\r=aK kvs k
def DPut(H:Hp)(a:Addr)(y v:V)(H':Hp):Prop:=
 (∃kvs k,H a=some (.dK kvs)/\y=kV k/\kvs.length<sizeLine/\H'=upd H a (.dK (dU kvs k v))) \/
 ∃kvs k b,H a=some (.dT kvs)/\y=.ref b/\H b=some (.tup (k.map kV))/\kvs.length<sizeLine/\H'=upd H a (.dT (dU kvs k v))
theorem DPut.k{k}(e:H a=some (.dK kvs))(q:kvs.length<sizeLine):DPut H a (kV k) v (upd H a (.dK (dU kvs k v))):=.inl ⟨kvs,k,e,rfl,q,rfl⟩
section
variable{X:Cx}{ww:List (Addr×Obj)}{σ:St}{H:Hp}{s:Shared}{a:Addr}{y v:V}{u r:Value}{o:Option V}{A:Around}{E:Value->Shared->Prop}
def Inv.big(I:Inv X ww σ H s):sysModules<s.heap.objs.size:=Nat.lt_trans Th ((I.mod.glob.keeps I.bk).lt)
def d_in(Z:A.units+1<cLine)(I:Inv X ww σ H s)(g:ZM H a y o)(U:RelV y u)(h:∀s',Inv X ww σ H s'->Q (.bool o.isSome) s'):
  wpAny (model X.prog X.w) A (compareOp .In u (.ref a)) Q E s:=by
 rcases g with ⟨kvs,k,e,J,l⟩|⟨kvs,k,b,e,J,Y,l⟩
 .subst J
  obtain⟨z,L,vs,O,B⟩:=Xe I.hok e
  apply wpAny_in_of (bP U) L B.mapOf
  rw[<- (O.val k).isSome_eq,<- l];exact h _ (I.tok _)
 .subst J
  cases U;obtain⟨z,L,xs,O,B⟩:=Js I.hok e
  apply wpAny_in_heap (B3 Z) (mL I.hok Y) L B
  have q:=(O.val k).isSome_eq;rw[Option.isSome_map] at q;exact q▸l▸h _ (I.tok _)
def fI(I:Inv X ww σ H s)(O:Mut (H a))(hs:Heap.SameBut a s.heap h')(L:∃q,h'.get? a=some q)(U:ObjOk X.prog X.w (upd H a B) h' a B):
  Inv X ww σ (upd H a B) { s with heap:=h',toks:=t' }:=
 I.write O (.inl rfl) (λb q J z=>(hs.2 b J).trans z) L U
def Ym(z:kvs.length<=sizeLine)(B:(a==sysModules)=false)(J:KV kvs vs)(q:h'.DictOf (uZ P w) a vs):
  ObjOk P w H' h' a (.dK kvs):=⟨z,B,vs,J,q⟩
def KO(hu:A.units+1<cLine)(I:Inv X ww σ H s)(g:DPut H a y v H')(ry:RelV y u)(rv:RelV v r)(h:∀s',Inv X ww σ H' s'->Q () s'):
  wpAny (model X.prog X.w) A (setItem (.ref a) u r) Q E s:=by
 rcases g with ⟨kvs,k,e,Y,l,U⟩|⟨kvs,k,b,e,Y,eb,l,U⟩
 .subst Y U
  obtain⟨z,Z,vs,B,O⟩:=dk_of I.hok e;have hz:vs.length<=sizeLine:=by rwa[<- B.length]
  have hl:(dU kvs k v).length<=sizeLine:=by have:=yM kvs k v;lia
  refine wpAny_setItem_pairs (bP ry) O λh' J hs=>h _ ?_;have aa:∃q,h'.get? a=some q:=let ⟨q,_,_,L,_⟩:=J;⟨q,L⟩
  exact fI I (e▸True.intro) hs aa (Ym hl Z (B.put k rv) J)
 .subst Y U
  cases ry;obtain⟨z,Z,xs,B,O⟩:=dt_of I.hok e;have hz:xs.length<=sizeLine:=by rwa[<- Paired.length B]
  have hl:(dU kvs k v).length<=sizeLine:=by have:=yM kvs k v;lia
  refine wpAny_setItem_heap (B3 hu) (mL I.hok eb) O λh' J hs=>h _ (PN J λq es ep L h2 h3 h4 _ h5=>fI I (e▸True.intro) hs ⟨q,L⟩ ⟨hl,Z,_,(B.put k eb rv).keeps λc ys ec=>?_,q,es,ep,L,h2,h3,h4,h5⟩);rw[pX (ne_of ec e (λz=>nomatch z))];exact ec
end
section
variable{X:Cx}{ww:List (Addr×Obj)}{σ:St}{H:Hp}{s:Shared}{a:Addr}{kvs:List (Key×V)}{k:Key}{u:Value}{A:Around}{E:Value->Shared->Prop}
def d_len(I:Inv X ww σ H s)(e:Rd H a (.dK kvs))(h:∀t s',Inv X ww σ H s'->Q (.int kvs.length t) s'):wpAny (model X.prog X.w) A (call (.builtin "len") [.ref a]) Q E s:=by
 obtain⟨z,J,vs,q,B⟩:=Xe I.hok e
 apply call_len_dict J B (by rw[<- q.length];rw[Cd] at z;lia)
 exact q.length▸h _ _ (I.tok _)
end
def sDPut(td ty tv:TE):TS:=λD σ H=>tv σ H λv H1=>td σ H1 λx H2=>ty σ H2 λy B=>∃a q,x=.ref a/\DPut B a y v q/\D.nx σ q
section
variable{X:Cx}{o i e value:Expr}{pos pos' tpos:Pos}{td ty tv:TE}
def ps_dput(Z:X.A.units+1<cLine)(Y:PE X o td)(hi:PE X i ty)(hv:PE X value tv)(hs:swapsWith value (some (.Subscript o i pos')) pos.line X.env=pure false):
  PS X (.Assign [.Subscript o i pos'] value pos) (sDPut td ty tv):=by
 intro ww s σ H D I h;refine wpAny_Assign_Subscript (thn (hv ww s σ H _ I h) λr s1 q=>rZ q λv H1 J rv q1=>thn (Y ww s1 σ H1 _ J q1) λu aa q=>rZ q λx H2 L rx q2=>thn (hi ww aa σ H2 _ L q2) λiv ab ⟨y,H3,O,ry,a,B,ex,g,q3⟩=>?_) hs;subst ex;obtain rfl:u=Value.ref a:=rx;exact KO Z O g ry rv λae U=>⟨σ,B,U,q3⟩
end
def Xf(h:Heap)(q:sysModules<h.objs.size):ObjOk P w H (h.push { cls:=.type "dict",data:=.dict #[] }) h.objs.size (.dK []):=
 ⟨AF _,beq_eq_false_iff_ne.mpr (Ne.symm (Ai q)),[],.nil,Heap.DictOf.new h⟩
def tDNewK:TE:=λ_ H Q=>∀p,H p=none->Q (.ref p) (upd H p (.dK []))
section
variable{X:Cx}{pos:Pos}
def Wk:PE X (.Dict [] [] pos) tDNewK:=λww s σ H Q I h=>
 wpAny_Dict_empty ⟨.ref s.heap.objs.size,_,I.laid (t':=s.toks) (λ_ _ q=>AO _ q) (AQ _) (Xf s.heap I.big),rfl,h _ (I.hok.fresh (AQ _))⟩
end
def eE:List (TE×TE)->St->Hp->(List (V×V)->Hp->Prop)->Prop
 |[],_,H,Q=>Q [] H
 | (tk,tv)::r,σ,H,Q=>tk σ H λx H1=>tv σ H1 λy H2=>eE r σ H2 λps q=>Q ((x,y)::ps) q
abbrev VV:List (V×V)->List (Value×Value)->Prop:=Paired λp q=>RelV p.1 q.1/\RelV p.2 q.2
def PPs(X:Cx)(pos:Pos)(keys:List (Option Expr))(values:List Expr)(q:List (TE×TE)):Prop:=
 ∀(ww:List (Addr×Obj))(s:Shared)(σ:St)(H:Hp)(Q:List (V×V)->Hp->Prop),Inv X ww σ H s->eE q σ H Q ->
  wpAny (model X.prog X.w) X.A (evalPairs (pairTrees keys values X.env pos)) (λvs s'=>∃ps H',Inv X ww σ H' s'/\VV ps vs/\Q ps H') X.xe s
def pps_nil:PPs X pos [] [] []:=λww s σ H Q I h=>pairTrees_nil_walk ⟨[],H,I,.nil,h⟩
def V3(U:PE X k tk)(Z:PE X v tv)(Y:PPs X pos ks vs ae):
  PPs X pos (some k::ks) (v::vs) ((tk,tv)::ae):=λww s σ H Q I h=>
 pairTrees_cons_walk (thn (U ww s σ H _ I h) λu s1 q=>rZ q λx H1 J rx q1=>thn (Z ww s1 σ H1 _ J q1) λw2 ab q=>rZ q λy H2 L ry q2=>
  thn (Y ww ab σ H2 _ L q2) λws af q=>rZ q λps B O aa q3=>⟨(x,y)::ps,B,O,.cons ⟨rx,ry⟩ aa,q3⟩)
noncomputable def uF(kvs J:List (Key×V)):List (Key×V):=J.foldl (λB q=>dU B q.1 q.2) kvs
def KV.merge:∀{B}{J}{kvs}{vs},KV B J->KV kvs vs->KV (uF kvs B) (merged vs J):=by
 intro B J kvs vs r
 induction r generalizing kvs vs with
 |nil=>intro q;exact q
 |@cons p q ps U h t L =>
  intro O
  have e:KV (dU kvs p.1 p.2) (stored vs q.1 q.2):=by
   have:=O.put p.1 h.2
   rwa[<- h.1]
  exact L e
theorem kF:∀q kvs,(uF kvs q).length<=kvs.length+q.length
 |[],kvs=>by show kvs.length<=kvs.length+0;lia
 |p::r,kvs=>by
  have h1:=kF r (dU kvs p.1 p.2);have h2:=yM kvs p.1 p.2;show(uF (dU kvs p.1 p.2) r).length<=_;rw[AD];lia
theorem tR:∀{kvs}{ws},VV (kvs.map λJ=>(kV J.1,J.2)) ws->∃B,Carries (uZ P w) ws B/\KV kvs B
 |[],_,r=>by cases r;exact⟨[],True.intro,.nil⟩
 |p::kvs,_,r=>by
  cases r with
  |@cons a b as bs h t =>
   obtain⟨B,c,q⟩:=(tR (P:=P) (w:=w) t);obtain⟨O,L⟩:=b;exact⟨(p.1,L)::B,⟨bP h.1,rfl,c⟩,.cons ⟨rfl,h.2⟩ q⟩
def tDisp(B:List (TE×TE)):TE:=λσ H Q=>∀p,H p=none->eE B σ (upd H p (.dK [])) λps H2=>H2 p=some (.dK [])/\∃kvs:List (Key×V),ps=kvs.map (λq=>(kV q.1,q.2))/\kvs.length<=15/\Q (.ref p) (upd H2 p (.dK (uF [] kvs)))
def pe_disp(h:PPs X pos keys values af)(Y:keys.all (·.isSome)=true)(hl:keys.length=values.length)(h0:keys≠[])(U:keys.length<=15):PE X (.Dict keys values pos) (tDisp af):=by
 intro ww s σ H Q I q;have L:=I.laid (h':=s.heap.push { cls:=.type "dict",data:=.dict #[] }) (t':=s.toks) (λ_ _ q=>AO _ q) (AQ _) (Xf s.heap I.big);refine wpAny_Dict_walk (knd:=uZ X.prog X.w) Y hl h0 U (thn (h ww _ σ _ _ L (q _ (I.hok.fresh (AQ s.heap.objs.size)))) λws ah ⟨ps,H2,B,ab,e,kvs,ep,ag,q2⟩=>?_);subst ep;obtain⟨ae,c,rk⟩:=tR ab;obtain⟨z,Z,ai,r0,O⟩:=dk_of B.hok e
 cases r0;refine⟨ae,c,O,λh' J hs=>⟨.ref s.heap.objs.size,_,?_,rfl,q2⟩⟩
 have hz:(uF [] kvs).length<=sizeLine:=by
  have h1:=kF kvs [];rw[A0] at h1;rw[Cd];lia
 have aa:∃q,h'.get? s.heap.objs.size=some q:=let ⟨q,_,_,hq,_⟩:=J;⟨q,hq⟩
 exact fI B (e▸True.intro) hs aa (Ym hz Z (rk.merge .nil) J)
structure M2(X:Cx)(o:Expr)(m:Str)(apos:Pos)(e f:Expr)(cpos:Pos):Prop where
 base:attributeBase o m X.env (eval o X.env)=eval o X.env
 few:((backTo cpos (starEach [e,f] X.env)).all (λx=>!x.1)&&(backToKw cpos (keywordEach [] X.env)).all (λx=>x.1.isSome)
  && decide (([e,f]:List Expr).length+([]:List Keyword).length+(if([]:List Keyword).isEmpty then 0 else 1)<30))=true
 line:(apos.endLine==cpos.line)=true
 trees:backTo cpos (starEach [e,f] X.env)=[(false,eval e X.env),(false,eval f X.env)]
def IsD(H:Hp)(a:Addr):Prop:=(∃kvs,Rd H a (.dK kvs))\/∃kvs,Rd H a (.dT kvs)
def isD_at{σ:St}(I:Inv X ww σ H s)(d:IsD H a):
  s.TypeIs (.ref a) "dict"/\(∀b,Value.ref a=.ref b->∃B,s.heap.get? b=some B/\B.dict=none)/\(a==sysModules)=false:=by
 rcases d with ⟨kvs,e⟩|⟨kvs,e⟩
 .obtain⟨_,L,vs,_,J⟩:=Xe I.hok e
  refine⟨J.typeIs,λb q=>?_,L⟩;cases q;exact bF J λB _ _ h1 h2 _=>⟨B,h1,h2.2.1⟩
 .obtain⟨_,L,xs,_,J⟩:=Js I.hok e
  refine⟨J.typeIs,λb q=>?_,L⟩;cases q;exact bF J λB _ _ h1 h2 _=>⟨B,h1,h2.2.1⟩
section
variable{X:Cx}{ww:List (Addr×Obj)}{σ:St}{H:Hp}{s:Shared}{a:Addr}{y d:V}{u r:Value}{o:Option V}{A:Around}{E:Value->Shared->Prop}
def d_get2(hu:A.units+1<cLine)(I:Inv X ww σ H s)(g:ZM H a y o)(U:RelV y u)(O:RelV d r)(h:∀Y s',Inv X ww σ H s'->RelV (o.getD d) Y->Q Y s'):
  wpAny (model X.prog X.w) A (call (.builtin "dict.get") [.ref a,u,r]) Q E s:=by
 rcases g with ⟨kvs,k,e,B,l⟩|⟨kvs,k,b,e,B,Z,l⟩
 .subst B
  obtain⟨z,J,vs,L,q⟩:=Xe I.hok e;exact call_meetsIn Bb q.typeIs CK (B8 _ _ _) (meets_dict_get_default (uZ X.prog X.w) a (bP U) J r) ⟨_,q.mapOf,h _ _ (I.tok _) (l▸(L.val k).getD O)⟩
 .subst B
  cases U;obtain⟨z,J,xs,L,q⟩:=Js I.hok e;exact call_meetsIn Bb q.typeIs CK (B8 _ _ _) (meetsH_dict_get_default (tupleKind (uZ X.prog X.w)) a b J r) ⟨B3 hu,k,xs,mL I.hok Z,q,h _ _ (I.tok _) (l▸(L.val k).getD O)⟩
end
def tDGet2(td ty tx:TE):TE:=λσ H Q=>td σ H λx H1=>∃a,x=.ref a/\IsD H1 a/\ty σ H1 λy H2=>tx σ H2 λz q=>∃o,ZM q a y o/\Q (o.getD z) q
section
variable{X:Cx}{o e f:Expr}{apos cpos:Pos}{td ty tx:TE}
def Wl(hu:X.A.units+1<cLine)(Z:PE X o td)(U:PE X e ty)(Y:PE X f tx)(m:M2 X o "get" apos e f cpos):PE X (.Call (.Attribute o "get" apos) [e,f] [] cpos) (tDGet2 td ty tx):=by
 intro ww s σ H Q I h;refine wpAny_Call_method m.base m.few m.line PySem.F.plainAttrs_dict Bb PySem.F.type_dict_get (thn (Z ww s σ H _ I h) λu s1 ⟨x,H1,q,rx,a,ex,d,q1⟩=>?_);subst ex;obtain rfl:u=Value.ref a:=rx
 exact Yl (isD_at q d) λae t2 _=>⟨ae,t2,m.trees▸CQ rfl (DO (B6 (thn (U ww s1 σ H1 _ q q1) λiv ab zz=>rZ zz λy H2 J ry q2=>
  B6 (thn (Y ww ab σ H2 _ J q2) λfv af ⟨z,B,L,rz,ov,g,q3⟩=>Calls.spliced_nil (d_get2 hu L g ry rz λw' ag O aa=>⟨_,B,O,aa,q3⟩)))))⟩
end
end L2
namespace Att
open PySem PySem.W PySem.Calls PyProof.Rows
def wH:∀q vs,WellAll P h vs (q.map WData.int)->IntsAre vs q:=by
 intro q
 induction q with
 |nil =>
  intro vs w;cases w;exact .nil
 |cons n q B =>
  intro vs w
  cases w with
  |cons a b =>
   cases a;exact .cons _ _ (B _ b)
def Kj{l:OpenLaw}(hn:l.most=some n)(U:l.row.toRowW.claim.pre B=true)(ab:WellAll P h ae B):
  ∃a vs q,ae=[Value.ref a]/\B=[WData.list (q.map WData.int)]/\h.get? a=some { cls:=.type "list",data:=.seq vs.toArray }/\IntsAre vs q/\q.length<=n:=by
 have O:l.pre.holds [] { args:=B }=true:=(pre_splitW U).2;obtain⟨d,r,rfl,h1,h2⟩:=hasAllW_cons ((pre_splitW U).1);obtain rfl:=hasAllW_nil h2;obtain⟨xs,rfl,Y⟩:=hasW_list h1;obtain⟨q,rfl⟩:=items_int Y
 have aa:q.length<=n:=by
  delta OpenLaw.pre at O
  have L:(WTm.not (.lt (.lit (.int (n:Int))) (.len (.arg 0)))).holds [] { args:=[.list (q.map .int)] }=true:=by
   have L:=(holds_andW O).1
   rwa[hn] at L
  have J:=condW_of L (w_not (w_lt w_lit (w_len_list (w_arg rfl))));rw[AA] at J;refine Nat.le_of_not_lt λaf=>?_;have q':(n:Int)<((q.length:Nat):Int):=by omega
  first
   | (rw[AU q'] at J;exact absurd J Th)
   | (simp at J;lia)
 cases ab with
 |cons w1 w2 =>
  cases w2
  cases w1 with
  |list ho Z=>exact⟨_,_,q,rfl,rfl,ho,wH q _ Z,aa⟩
def Ko(l:OpenLaw)q:l.row.toRowW.claim.post q (.bool true) q=true:=
 postW_of
  (show WShape.has [] (.bool true) .bool=true by first|rfl|decide|simp[ WShape.arms])
  (w_eq_bool (w_res rfl) w_lit) rfl
def attach_call{l:OpenLaw}(hn:l.most=some n)(ag:d.params.defaults=[])(ab:∀w U q mg L fa o O cd J a vs B,
   Ground ax aw [] Z w U mg L q.heap->YP w q.heap ->
   q.heap.get? fa=some o->o.data=.func (docDef d.name d.params d.body d.scope O cd J)->q.heap.CodeRec cd d.name->mg d.name=some (.ref fa) ->
   q.heap.get? a=some { cls:=.type "list",data:=.seq vs.toArray }->IntsAre vs B->B.length<=n->q.gens = #[] ->
   codeAny (model l.prog w) callerA (.call (.ref fa) ⟨[.ref a],[]⟩) (λr s'=>r=.ok (.ret (.bool true))/\OldK q.heap s'.heap/\s'.os=q.os/\AllBare s'.gens) q):
  WalkO ax aw Z YP l.row.toRowW d [] (λf vs=>PySem.call f vs):=by
 intro w U q mg L G aa fa o O cd J dV av ho af ae Y ao ah ay a4 as ar az a3 au a0;obtain rfl:dV=.none:=Dflts.none Y ag;obtain rfl:av=.none:=Dflts.noKw Y;obtain⟨a,vs,B,rfl,rfl,aq,ai,aj⟩:=Kj hn ar au;refine enter_call (Bs (ab w U q mg L fa o O cd J a vs B G aa ho (fd_plain af) ae ao aq ai aj ah) λr s' hq=>?_);obtain⟨rfl,h2,h3,h4⟩:=hq
 exact⟨.inl ⟨.bool true,.bool true,[],rfl,λ_=>rfl,.bool true,Ko l _,λ_=>⟨List.Pairwise.nil,λ_ ak=>(nomatch ak)⟩⟩,h2,h3,h4⟩
end Att
namespace L2
open PySem PySem.Spec PyProof.Rows
theorem zO:∀{vs}{q},IntsAre vs q->Vals (q.map V.int) vs
 |_,_,.nil=>.nil
 |_,_,.cons n t h=>.cons ⟨t,rfl⟩ (zO h)
def Only(H:Hp):Prop:=∀b,H b=none\/∃o xs,H b=some (.frz o (.lst xs))
def WR{K}(KX:K.In B.heap)(af:B.heap.Ns mainGlobals mg)(J:B.heap.Ns builtinsNs mb)(ak:∀x:Str,x ≠ "__name__"->mb x=bootBuiltins x)(ar:B.heap.NoLimit)(aq:B.gens = #[])(L:B.heap.get? a=some { cls:=.type "list",data:=.seq vs.toArray })(hi:IntsAre vs O)(hl:O.length<=sizeLine)(av:Room k callerA)(F:∀base:Heap,K.In base->base.Ns mainGlobals mg->FnOk P w K mg base CX k fa fd [x] sp)(ao:∀(s:Shared)(u:Value),BindsTo s fd ⟨[u],[]⟩ [(x,u)])(aw:∀H:Hp,Only H->SqL K H a (O.map V.int)->sp [.ref a] H (λv _=>v=.bl true) λ_ _ _=>False)(aj:∀H e s',CX [] H B (λ_ _ _=>False) e s'->False):
  codeAny (model P w) callerA (.call (.ref fa) ⟨[.ref a],[]⟩) (λr s'=>r=.ok (.ret (.bool true))/\OldK B.heap s'.heap/\s'.os=B.os/\AllBare s'.gens) B:=by
 have rv:=zO hi
 have ab:∀H:Hp,Only H->SqL K H a (O.map V.int)->HOk P w H B.heap->(∀b,H b≠none->b=a)->(H a≠none->K.lookup a=none) ->
   codeAny (model P w) callerA (.call (.ref fa) ⟨[.ref a],[]⟩) (λr s'=>r=.ok (.ret (.bool true))/\OldK B.heap s'.heap/\s'.os=B.os/\AllBare s'.gens) B:=by
  intro H hO hS ag hA ay;have aa:∀{b:Addr}{o:Obj},B.heap.get? b=some o->H b=none->(Q3 B.heap H).get? b=some o:=λe n=>W6 e n
  have ax:∀{b:Addr}{o:Obj}{es:Array DictEntry}{ep:Nat},B.heap.get? b=some o->o.data=.dict es ep->H b=none:=λ{b o es ep}e d=>by
   cases q:H b with
   |none=>rfl
   |some u =>
    have e':=hA b ir;subst e';rw[L] at e;cases e
    cases d
  have U:∀{b:Addr}{m:Str->Option Value},B.heap.Ns b m->(Q3 B.heap H).Ns b m:=λ{b m}zz=>bF zz λo es ep e d r=>⟨o,es,ep,aa e (ax e d),d,r⟩;have ae:K.In (Q3 B.heap H):=λb o e=>aa (KX b o e) (by grind);have e0:Env0 P w K mg (Q3 B.heap H) callerA [] B H:=⟨rfl,(⟨ae,U af,⟨mb,U J,ak⟩,let ⟨mc,h1,h2⟩:=ar;⟨mc,U h1,h2⟩⟩),λb o e=>of_hidT e,DD (KH _ _),trivial,λb J=>absurd (show b∈([]:List Addr) from J) ue,ag,.of_eq aq⟩
  refine Bs ((F _ ae (U af)).run callerA [] B H ⟨[.ref a],[]⟩ [.ref a] [.ref a] _ _ av e0 (ao B (.ref a)) (.cons rfl .nil) (aw H hO hS)) λr s' h=>?_
  cases r with
  |error e=>exact(aj H e s' h).elim
  |ok fl =>
   cases fl with
   |next=>exact False.elim h
   |brk=>exact False.elim h
   |cont=>exact False.elim h
   |ret u =>
    refine PX h λv H' os ai ah au r' q=>?_;subst q;obtain rfl:u=Value.bool true:=r';refine⟨rfl,OldK.of_keep λb o e=>?_,os,ai⟩
    cases q:H b with
    |none=>exact ah.keep b o e q (by intro z;exact absurd (show b∈([]:List Addr) from z) ue) ue
    |some u =>
     rcases hO b with z|⟨ob,xs,z⟩
     .lia
     .obtain⟨e1,_⟩:=ag b _ z
      obtain⟨e2,_⟩:=au b _ (ah.frzs b ob _ z);rw[e] at e1;cases e1
      exact e2
 cases Y:K.lookup a with
 |some o =>
  have e:=KX a o Y;rw[L] at e;cases e;refine ab (λ_=>none) (λ_=>.inl rfl) (.inr ⟨_,vs.toArray,_,Y,rfl,rfl,rfl,by rw[Aw,hi.length];exact hl,by simpa using rv⟩) (λb u z=>by have Z:=z;cases Z) (λb z=>absurd rfl z) λz=>absurd rfl z
 |none =>
  refine ab (λb=>if b=a then some (.frz { cls:=.type "list",data:=.seq vs.toArray } (.lst (O.map V.int))) else none) (λb=>?_) (.inl (.inr ⟨{ cls:=.type "list",data:=.seq vs.toArray },A4 rfl⟩)) (λb u z=>?_) (λb z=>?_) λ_=>Y
  .grind
  .by_cases J:b=a
   .have Z:=(A4 J).symm.trans z
    cases Z;subst J;exact⟨L,by rw[AA];exact hl,vs,_,rv,L⟩
   .lia
  .lia
def walk_of{l:PySem.W.OpenLaw}{K:Params->DQ}{CX:World->CXT}{sp:World->Sp}(hn:l.most=some n)(ag:n<=sizeLine)(aa:d.params.defaults=[])(ai:Room k callerA)(hY:∀(w:World)(h:Heap),L w h->(K w.params).In h)(F:∀(w:World)(mg:Str->Option Value)(fa:Addr)(h:Heap),(K w.params).In h->h.Ns mainGlobals mg->mg d.name=some (.ref fa) ->
   ∃fd:FuncData,(∀(s:Shared)(u:Value),BindsTo s fd ⟨[u],[]⟩ [(x,u)]) /\
    ∀base:Heap,(K w.params).In base->base.Ns mainGlobals mg->FnOk l.prog w (K w.params) mg base (CX w) k fa fd [x] (sp w))(aj:∀(w:World)(H:Hp)(a:Addr)(q:List Int),q.length<=n->Only H->SqL (K w.params) H a (q.map V.int)->sp w [.ref a] H (λv _=>v=.bl true) λ_ _ _=>False)(O:∀(w:World)(H:Hp)(s:Shared)(e:Value)(s':Shared),CX w [] H s (λ_ _ _=>False) e s'->False):
  PySem.W.WalkO aw au XP L l.row.toRowW d [] (λf vs=>PySem.call f vs):=by
 refine Att.attach_call hn aa λw ax ak mg mb fa o av cd ao a vs q G Y ho ar aq af ah ae J ab=>?_;have B:=hY w _ Y;exact oX (F w mg fa _ B G.T.g af) λfd hb U=>WR B G.T.g G.T.b G.T.builtins G.T.nolimit ab ah ae (AK J ag) ai U hb (λH Z hS=>aj w H a q J Z hS) λH e s'=>O w H ak e s'
noncomputable def bJ(s:Stmt)(j:Nat):Stmt:=match s with
 |.ClassDef _ _ _ q _ _ _ _ _ _ _=>q.getD j (.Pass ⟨0,0,0,0⟩)
 |_=>.Pass ⟨0,0,0,0⟩
noncomputable def lG(s:Stmt):Arguments:=match s with
 |.FunctionDef _ a _ _ _ _ _ _ _ _=>a
 |_=>{ posonlyargs:=[],args:=[],vararg:=none,kwonlyargs:=[],kw_defaults:=[],kwarg:=none,defaults:=[] }
noncomputable def bV(s:Stmt):List Stmt:=match s with
 |.FunctionDef _ _ b _ _ _ _ _ _ _=>b
 |_=>[]
noncomputable def vZ(s:Stmt):Scope:=match s with
 |.FunctionDef _ _ _ _ _ _ sc _ _ _=>sc
 |_=>{ kind:=.function,names:=[],isGenerator:=false,isCoroutine:=false }
abbrev CX0:CXT:=λ_ _ _ _ _ _=>False
abbrev E0:XK:=λ_ _ _=>False
def vC:jV CX0 X E0:=λ_ _ _ _ _ _ _ h=>h.elim
structure Fun(K:DQ)(x qual:Str)(st:Stmt)(f:Addr)(fd:FuncData):Prop where
 ex:∃(oc:Value)(od:Option Addr)(kV doc pm:Value)(an:Option Addr)(cdv ct:Value)(osl:Array (Option Value)),
  fd=PySem.W.fnOf x qual (lG st) (bV st) (vZ st) .none kV doc pm an cdv ct/\K.lookup f=some ⟨oc,od,.func fd,osl⟩/\PySem.W.codeIn K cdv qual=true
 kp:PySem.W.keepIn K (.ref f)=true
section
variable{P:Program}{w:World}{K:DQ}{mg:Str->Option Value}{base:Heap}
def Fun.ok{st}(F:Fun K x qual st f fd)(S:FnScope N ps (vZ st))(Y:∀vs H Q E,sp vs H Q E->vs.length=ps.length)(J:∀B A outer s H vs Q E,Room k (A.deeper (envOfC qual (vZ st) s.heap.objs.size f B))->sp vs H Q E ->
   ∃t,PSs (tU CX0 P w K mg base N qual (vZ st) f B A outer s H E).nox (bV st) t/\t { nx:=λ_ H'=>Q .non H',rt:=Q } (start N vs) H):FnOk P w K mg base CX0 (k+1) f fd ps sp:=by
 obtain⟨oc,od,ae,ab,ag,aa,B,ct,af,rfl,Z,L⟩:=F.ex;exact fn_of Z L S Y λA outer s H vs Q E O U=>oX (J B A outer s H vs Q E O U) λt h q=>⟨t,h.nox,q⟩
def Fun.binds{st}(F:Fun K x qual st f fd)(h:∀(O L U:Value)(q:Option Addr)(B J:Value)(us:List Value),us.length=ps.length->bindArgs (PySem.W.fnOf x qual (lG st) (bV st) (vZ st) .none O L U q B J) ⟨us,[]⟩=pure (ps.zip us)):Binds K fd ps []:=by
 obtain⟨oc,od,O,L,U,q,B,J,aa,rfl,Z,Y⟩:=F.ex;exact .all (h O L U q B J)
def yI{st}{J L q B}(l:K.lookup f=some ⟨Y,od,.func (PySem.W.fnOf x qual (lG st) (bV st) (vZ st) .none J U L O q B),Z⟩)(c:PySem.W.codeIn K q qual=true)(k:PySem.W.keepIn K (.ref f)=true):Fun K x qual st f (PySem.W.fnOf x qual (lG st) (bV st) (vZ st) .none J U L O q B):=⟨⟨Y,od,J,U,L,O,q,B,Z,rfl,l,c⟩,k⟩
end
def dG(q:Room k A):A.units+1<cLine:=Bi (Nat.add_le_add_left ir _) q.units
section
variable{X:Cx}
def pv i{pos}(q:X.N[i]?=some x:=by rfl)(L:Vis X.env.scope x:=by first|exact Or.inl rfl|exact Or.inr (Or.inl rfl)|exact Or.inr (Or.inr rfl))(J:(x==("__debug__":Str))=false:=by decide)(B:(x==("__classdict__":Str))=false:=by decide):PE X (.Name x pos) (tVar i):=qY q L J B
end
def Same(H H':Hp):Prop:=∀b o,H b=some o->H' b=some o
def Same.refl H:Same H H:=λ_ _ h=>h
section
variable{X:Cx}
def K5:CallR X (.builtin "len") (λxs H Q=>∃a kvs,xs=[V.ref a]/\H a=some (.dK kvs)/\Q (.int kvs.length) H):=by
 intro ww s σ H xs us Q I r h;obtain⟨a,kvs,rfl,J,q⟩:=h;obtain⟨u,rfl,rfl⟩:=uG r;exact d_len I (.inl J) λt s' B=>⟨.int kvs.length,H,B,⟨t,rfl⟩,q⟩
end
noncomputable def noStar:Expr->Bool
 |.Starred _ _=>false
 |_=>true
def wJ(h:noStar e=true):starEach (e::es) q=(false,eval e q)::starEach es q:=by
 cases e<;>first|rfl|exact absurd h AV
theorem rB:∀{es},es.all noStar=true->(backTo pos (starEach es q)).any (·.1)=false
 |[],_=>rfl
 |e::es,h=>by
  rw[BS,Aq] at h;rw[wJ h.1];show(false || (backTo pos (starEach es q)).any (·.1))=false;rw[rB h.2]
  rfl
section
variable{X:Cx}{e:Expr}{es:List Expr}{te:TE}{t:TA}{x:Str}{p pos:Pos}
def zD(q:PE X e te)(B:PA X es t)(hs:noStar e=true:=by rfl):PA X (e::es) (VB te t):=oM q B (wJ hs)
def vo(F:FnOk X.prog X.w X.K X.mg X.base CX k f fd ps sp)(aa:Room k X.A)(U:Gl X x)(Z:X.mg x=some (.ref f))(Y:PySem.W.keepIn X.K (.ref f)=true)(J:Binds X.K fd ps ds)(L:Vals dvs ds)(hx:jV CX X E)(q:PA X (e::es) t)(O:(x==("__debug__":Str))=false:=by decide)(hs:noStar e=true:=by rfl)(B:es.all noStar=true:=by rfl):PE X (.Call (.Name x p) (e::es) [] pos) (VC sp dvs E t):=
 Z7 F aa U Z Y J L hx q O (wJ hs) (rB B)
def VU{id}(J:CallR X (.builtin id) r)(O:Gl X x)(U:X.mg x=none)(Z:bootBuiltins x=some (.builtin id))(q:PA X (e::es) t)(Y:x ≠ "__name__":=by decide)(L:(x==("__debug__":Str))=false:=by decide)(hs:noStar e=true:=by rfl)(B:es.all noStar=true:=by rfl):PE X (.Call (.Name x p) (e::es) [] pos) (tCB r t):=Wn J O U Z q Y L (wJ hs) (rB B)
def Kl(J:CallR X (.type T) r)(O:Gl X x)(U:X.mg x=none)(Z:bootBuiltins x=some (.type T))(q:PA X (e::es) t)(Y:x ≠ "__name__":=by decide)(L:(x==("__debug__":Str))=false:=by decide)(hs:noStar e=true:=by rfl)(B:es.all noStar=true:=by rfl):PE X (.Call (.Name x p) (e::es) [] pos) (tCB r t):=Kq J O U Z q Y L (wJ hs) (rB B)
end
section
variable{prog:Program}{w:World}{A:Around}{R:Result->Shared->Prop}{s:Shared}
def sI(I:Nat->Shared->Prop)(ao:∀n s,I n s->wpAny (model prog w) A (pyNext it) (λr B=>match r with
   |none=>R (.ok .next) B
   |some v=>wpAny (model prog w) A (letOwnedTupleGo ab it v) (λ_ B=>wpAny (model prog w) A (assign ab J v) (λ_ Y=>
     wpAny (model prog w) A (forIn ak true λc r=>if r=true then do let q <- isTrue c J (eval c J);pure (ForInStep.yield q) else pure (ForInStep.yield r)) (λq L=>
      if q=true then wpAny (model prog w) A (eval af J) (λx Z=>
       wpAny (model prog w) A (call (.builtin "list.append") [ae,x]) (λ_ aa=>∃m,m<n/\I m aa) (λ_ _=>False) Z) (λ_ _=>False) L
      else ∃m,m<n/\I m L) (λ_ _=>False) Y) (λ_ _=>False) B) (λ_ _=>False) B) (λ_ _=>False) s)n(h:I n s):
  codeAny (model prog w) A (.compLoop (.ListComp af [⟨ab,aq,ak,0⟩] scope pos) 0 it ae J) R s:=by
 refine codeAny_loop rfl I (λn s hI=>wpAny_noted (AC (Bl (AC (BA (ao n s hI) (λr B O=>?_) λ_ _ h'=>False.elim h'))))) n h
 cases r with
 |none=>exact AN O
 |some v =>
  refine AC (BA O (λ_ ar ag=>AC (BA ag (λ_ Y ah=>AC (BA ah (λq L U=>?_) λ_ _ h'=>False.elim h')) λ_ _ h'=>False.elim h')) λ_ _ h'=>False.elim h')
  cases q with
  |false=>exact AN ⟨rfl,U⟩
  |true =>
   exact AC (AC (BA U (λx Z ai=>AC (BA ai (λ_ aa aj=>AN (AN ⟨rfl,aj⟩)) λ_ _ h'=>False.elim h')) λ_ _ h'=>False.elim h'))
end
theorem hV{B:Env}:∀{L:List (Str×NameKind)}{y:Str}{k:NameKind},
  (L.map λ(n,k)=>if(k==NameKind.free&&B.scope.kind==.function&&B.kindOf n==some .cell) then(n,NameKind.cell) else(n,k)).lookup y=some k ->
   ∃J,(y,J)∈L/\(k=J\/(J=.free/\k=.cell))
 |[],_,_,h=>by simp at h
 | (n,O)::r,y,k,h=>by
  cases Y:y==n with
  |true =>
   by_cases U:(O==NameKind.free&&B.scope.kind==.function&&B.kindOf y==some .cell)=true
   .grind
   .grind
  |false =>
   have h2:(r.map λ(n,k)=>if(k==NameKind.free&&B.scope.kind==.function&&B.kindOf n==some .cell) then(n,NameKind.cell) else(n,k)).lookup y=some k:=by grind
   exact oX ((@hV B r y k) h2) λJ m q=>⟨J,AH _ m,q⟩
def Y2(X:Cx)(q:List Expr)(t:TT):Prop:=
 ∀(ww:List (Addr×Obj))(s:Shared)(σ:St)(H:Hp)(Q:Bool->Hp->Prop),Inv X ww σ H s->t σ H Q ->
  wpAny (model X.prog X.w) X.A (forIn q true λc r=>if r=true then do let B <- isTrue c X.env (eval c X.env);pure (ForInStep.yield B) else pure (ForInStep.yield r)) (TP X ww σ Q) X.xe s
def Sv:TT:=λ_ H Q=>Q true H
def V5:Y2 X [] Sv:=λ_ _ _ H _ I h=>wpAny_tests_nil ⟨H,I,h⟩
def V4(h:PT X c t):Y2 X [c] t:=λww s σ H Q I q=>wpAny_tests_one (h ww s σ H Q I q)
noncomputable def qt(X:Cx)(xs:List Str)(scope:Scope)(B:List (Str×Addr))(J:List Addr)(C:Addr)(L:Shared)(q:Hp):Cx where
 prog:=X.prog
 w:=X.w
 K:=X.K
 mg:=X.mg
 base:=X.base
 A:=X.A
 N:=xs++X.N
 s₀:=L
 H₀:=q
 env:=compEnvC scope B C X.env
 outer:=X.stack
 stack:=X.stack
 ex:=J
 fn:=λ_=>false
 calm:=X.calm
 pn:=[]
 xe:=λ_ _=>False
abbrev lK X x:=qt X [x]
def Qu(L:TI)(tc:TT)(te:TE):TE:=λσ H Q=>L σ H λJ H1=>∀D,H1 D=none->∃W:Nat->Nat->List V->Hp->Prop,(∃m,W 0 m [] (upd H1 D (.lst [])))/\∀i m ys H,W i m ys H ->
 (J.stop i H/\Q (.ref D) H)\/(J.go i H/\∀x H',J.yld i H x H'->tc (some x::σ) H' λb H2=>
  if b=true then te (some x::σ) H2 λy B=>B D=some (.lst ys)/\ys.length<sizeLine/\∃q,q<m/\W (i+1) q (ys++[y]) (upd B D (.lst (ys++[y])))
  else ∃q,q<m/\W (i+1) q ys H2)
section
variable{X:Cx}
structure xN(X:Cx)(xs:List Str)(scope:Scope)(cl:List (Str×Addr)):Prop where
 clos:closureFor scope X.env=pure cl
 cell:∀y∈scope.names,y.2≠.cell
 kind:scope.kind=.function
 names:∀y∈scope.names,y.2=.local->scope.names.lookup y.1=some .local
 hx:∀x∈xs,scope.names.lookup x=some .local
 loc:∀y∈scope.names,y.2=.local->y.1∉X.N
 free:∀y∈scope.names,y.2=.free->X.env.kindOf y.1≠some .local/\(X.env.kindOf y.1=some .cell\/X.env.kindOf y.1=some .free)/\∃c,cl.lookup y.1=some c
 cl:∀y c,cl.lookup y=some c->X.env.cells.lookup y=some c
abbrev wB X x:=xN X [x]
def cP{te:TE}{g:TG}{Tk:V->Hp->List V->Prop}{RR:Value->Addr->Result->Shared->Prop}{EE:Value->Shared->Prop}(hc:X.calm=true)(K:xN X xs scope Z)(b3:∀U C B L,PG (qt X xs scope Z U C B L) tg g)(ht:∀U C B L,Y2 (qt X xs scope Z U C B L) ba tc)(b2:∀U C B L,PE (qt X xs scope Z U C B L) a4 te){ww:List (Addr×Obj)}{σ:St}{B:Shared}{L:Hp}{it:Addr}{U:List Addr}{tn:Nat->Heap->Prop}{ak:It}{Q:VK}(hG:∀ws vs x H Q,ws.length=xs.length->Tk x H vs->vs.length=xs.length->Q (vs.map some++σ) H->g x (ws++σ) H Q)(O:Inv X ww σ L B)(T:XA X.prog X.w X.K tg ak U it tn)(bh:tn 0 B.heap)(aa:∀b∈U,Qj X ww L b)(R:∀D,L D=none->∃W:Nat->Nat->List V->Hp->Prop,(∃m,W 0 m [] (upd L D (.lst [])))/\∀i m ys H,W i m ys H ->
   (ak.stop i H/\Q (.ref D) H)\/(ak.go i H/\∀x H',ak.yld i H x H'->∃vs,Tk x H' vs/\vs.length=xs.length/\tc (vs.map some++σ) H' λb H2=>
    if b=true then te (vs.map some++σ) H2 λy H3=>H3 D=some (.lst ys)/\ys.length<sizeLine/\∃m',m'<m/\W (i+1) m' (ys++[y]) (upd H3 D (.lst (ys++[y])))
    else ∃m',m'<m/\W (i+1) m' ys H2))(bz:∀(D C:Addr)(H:Hp)(ab:Shared)(m:Str->Option Value),ab.heap.Ns C m->C≠X.env.locals->H C=none->(∀x c,X.env.cells.lookup x=some c->c≠C)->B.heap.objs.size<=C->Inv X ww σ H ab ->
   Q (.ref D) H->RR (.ref D) C (.ok .next) ab):
  wpAny (model X.prog X.w) X.A (newList []) (λaz aj=>wpAny (model X.prog X.w) X.A (newFunctionEnv scope X.env.globals Z [] X.env.qual none .none (some X.env)) (λa3 cp=>
   codeAny (model X.prog X.w) X.A (.compStart (.ListComp a4 [⟨tg,b6,ba,0⟩] scope pos) 0 (.ref it) az { a3 with scope:=relabel scope X.env }) (RR az a3.locals) cp) EE aj) EE B:=by
 refine Bm (wpAny_newFunctionEnv K.cell (by intro y hy;simp at hy) (λaq av ao=>?_) K.kind);dsimp only at av ao ⊢;generalize au:B.heap.push { cls:=.type "list",dict:=none,data:=.seq ([]:List Value).toArray }=H2 at av ao ⊢;have hC:H2.objs.size=B.heap.objs.size+1:=by rw[<- au,Ba]
 have a8:B.heap.objs.size≠H2.objs.size:=hC▸Ai (A3 _);have ag:∀b,b<B.heap.objs.size->b≠H2.objs.size/\b≠B.heap.objs.size:=λb J=>⟨by exact hC▸Ai (Cr J),Ai J⟩;have ai:∀b o,B.heap.get? b=some o->aq.get? b=some o:=λb o e=>ao.extBut b o (ag b (AS e)).1 (AO _ (au▸AO _ e));have fD:=O.hok.fresh (AQ _)
 have fC:L H2.objs.size=none:=O.hok.fresh (hC▸B9 _);have a5:∀b∈U,b<B.heap.objs.size:=λb J=>let ⟨o,e,_⟩:=T.obj _ _ bh b J;AS e
 obtain⟨W,⟨b8,w0⟩,cq⟩:=R B.heap.objs.size fD
 have ar:(qt X xs scope Z U H2.objs.size B L).Ok:=by
  refine⟨O.ok.mod,K.kind,O.ok.glob,O.ok.blt,?_,λy z c h1 h2=>O.ok.inj y z c (K.cl y c h1) (K.cl z c h2),λy hy=>?_,λy c h _=>?_,O.ok.hd,O.ok.frames,.inl rfl,λb J=>⟨(ag b (a5 b J)).1,λy c h=>(aa b J).2.2.2.2.1 y c (K.cl y c h)⟩,O.bs,
   AK O.ok.bsz O.sz,λb o e J=>?_,λb J z=>?_,O.stack,O.stkFree⟩
  .exact hC▸B9 _
  .have br:(y,NameKind.free)∈scope.names:=by
    rcases hy with q|q
    .obtain⟨k0,Y,z|⟨z,_⟩⟩:=hV q
     .subst z;exact absurd rfl (K.cell _ Y)
     .subst z;exact Y
    .obtain⟨k0,Y,z|⟨z,w⟩⟩:=hV q
     .subst z;exact Y
     .cases w
   exact(K.free _ br rfl).2.2
  .exact absurd h AV
  .refine KN (aa b J) λ_ _ _ f3 _=>?_
   rcases f3 with z|z
   .exact O.ok.noex b o e z
   .exact absurd (AE (AS (O.ok.bs b o e).1) z) (Bg _)
  .refine zu (aa b J) λ_ bo bp _=>?_
   rcases Ah.mp (O.stkSub b z) with q|q
   .exact bo q
   .exact bp q
 have cy:∀b,L b≠none->b≠B.heap.objs.size:=λb J z=>J (z▸fD);have b7:HOk X.prog X.w (upd L B.heap.objs.size (.lst [])) aq:=O.hok.laid ai (AQ _) ⟨AF _,[],_,.nil,(ao.extBut _ _ a8 (AO _ (au▸Ad _ rfl)))⟩
 have ct:∀y,Vis (relabel scope X.env) y->y∈X.N->(y,NameKind.free)∈scope.names/\((relabel scope X.env).names.lookup y=some .cell\/(relabel scope X.env).names.lookup y=some .free):=by
  intro y hv b5
  rcases hv with q|q|q
  .obtain⟨k0,Y,z|⟨z,w⟩⟩:=hV q
   .subst z;exact absurd b5 (K.loc _ Y rfl)
   .cases w
  .obtain⟨k0,Y,z|⟨z,w⟩⟩:=hV q
   .subst z;exact absurd rfl (K.cell _ Y)
   .subst z;exact⟨Y,.inl q⟩
  .obtain⟨k0,Y,z|⟨z,w⟩⟩:=hV q
   .subst z;exact⟨Y,.inr q⟩
   .cases w
 have I':∀tk,Inv (qt X xs scope Z U H2.objs.size B L) [] (List.replicate xs.length none++σ) (upd L B.heap.objs.size (.lst [])) { B with heap:=aq,toks:=tk }:=by
  intro tk;refine⟨ar,rfl,O.bare,Un.laid ai (AQ _) fD,⟨_,av,λi y v h1 h2 h3=>?_⟩,λy c h=>?_,?_,λy c h=>?_,λp hp=>absurd hp (by simp[qt]),b7,?_⟩
  .rcases DC i xs.length with hi|hi
   .rw[Cq (by rwa[Ar]),List.getElem?_replicate,A4 hi] at h2
    cases h2
   .have a7:X.N[i-xs.length]?=some y:=by
     have h1:(xs++X.N)[i]?=some y:=h1
     rwa[BZ hi] at h1
    have bw:σ[i-xs.length]?=some (some v):=by
     rw[BZ (by rwa[Ar]),Ar] at h2;exact h2
    obtain⟨fm,kk⟩:=ct y h3 (Ak a7);obtain⟨b9,vz,c,a9⟩:=K.free _ fm rfl;refine oX O.loc λmm hn hl=>oX (hl (i-xs.length) y v a7 bw (vz.elim (λz=>.inr (.inl z)) λz=>.inr (.inr z))) λu ru l=>?_
    rcases l with ⟨z,_⟩|⟨_,c',b0,b1⟩
    .exact absurd z b9
    .have ec:=Av (b0.symm.trans (K.cl _ _ a9))
     subst ec;obtain⟨o,ho,ah⟩:=b1;exact⟨u,ru,.inr ⟨kk,c',a9,o,ai _ _ ho,ah⟩⟩
  .obtain⟨v,o,ho,ah⟩:=O.cell y c (K.cl y c h)
   exact⟨v,o,ai _ _ ho,ah⟩
  .show upd L _ _ H2.objs.size=none
   rwa[pX (Ne.symm a8)]
  .obtain⟨v,o,ho,ah⟩:=O.cell y c (K.cl y c h)
   exact(pX (ag c (AS ho)).2)▸O.freeC y c (K.cl y c h)
  .show(List.replicate xs.length none++σ).length=(xs++X.N).length
   rw[AB,AB,Ar,O.len]
 have ay:∀{H':Hp},(∀b∈U,H' b=none)->∀b∈U,Qj (qt X xs scope Z U H2.objs.size B L) [] H' b:=λhn b J=>
  ⟨hn b J,(ar.exf b J).1,ar.exfs b J,.inl J,(ar.exf b J).2,λp hp=>absurd hp (by simp[qt])⟩
 have bj:=T.keep _ _ _ bh λb _ o e=>ai b o e;have bq:∀b∈U,upd L B.heap.objs.size (.lst []) b=none:=λb J=>(pX (ag b (a5 b J)).2)▸(aa b J).1
 have bb:∀aj:Shared,(∃tk,aj={ B with heap:=aq,toks:=tk }) ->
   codeAny (model X.prog X.w) X.A (.compLoop (.ListComp a4 [⟨tg,b6,ba,0⟩] scope pos) 0 (.ref it) (.ref B.heap.objs.size) (compEnvC scope Z H2.objs.size X.env))
    (RR (.ref B.heap.objs.size) H2.objs.size) aj:=by
  rintro aj ⟨tk,rfl⟩
  refine sI (λn s'=>∃i ys H' ae,ae.length=xs.length/\Inv (qt X xs scope Z U H2.objs.size B L) [] (ae++σ) H' s'/\tn i s'.heap/\(∀b∈U,H' b=none)/\W i n ys H') ?_ b8
   ⟨0,[],_,List.replicate xs.length none,Ar,I' tk,bj,bq,w0⟩
  rintro n bc ⟨i,ys,H3,ae,l0,I3,bg,a6,cu⟩
  rcases cq i n ys H3 cu with ⟨cn,qn⟩|⟨bu,ck⟩
  .refine thn (T.done (qt X xs scope Z U H2.objs.size B L) rfl rfl rfl hc i [] bc (ae++σ) H3 (λ_ _=>False) I3 (ay a6) bg cn) λr ab zz=>lL zz λaw I4=>?_
   subst aw;show RR _ _ (.ok .next) ab;refine oX I4.loc λm hn _=>?_;have cg:=I4.os;refine bz _ _ H3 ab m hn ?_ I4.free (λy c h z=>?_) (hC▸B9 _) ?_ qn
   .exact Ne.symm (ag _ O.lt).1
   .exact mM (O.cell y c h) λv o ho ah=>(ag c (AS ho)).1 z
   .obtain⟨hh,g,d,t,cc⟩:=ab
    obtain rfl:cc=B.os:=cg;exact O.call (h':=hh) (g':=g) (d':=d) (t':=t) I4.base I4.hok I4.bare λb J=>⟨(aa b J).2.2.2.1,(aa b J).2.1,(aa b J).2.2.2.2.1,(aa b J).2.2.2.2.2⟩
  .refine thn (T.item (qt X xs scope Z U H2.objs.size B L) rfl rfl rfl hc i [] bc (ae++σ) H3 (λ_ _=>False) I3 (ay a6) bg bu) λr ab zz=>oX zz λu aw h4=>?_
   subst aw;refine thn h4 λ_ bf zz=>P0 zz λx5 H5 I5 r5 y5 ax bt=>?_
   have a0:∀{H':Hp}{s':Shared}{τ:St},Inv (qt X xs scope Z U H2.objs.size B L) ([]++jC U bf.heap) τ H' s'->tn (i+1) s'.heap/\∀b∈U,H' b=none:=λI7=>
    ⟨T.keep _ _ _ ax λb J o e=>(I7.pin (b,o) (Ay _ (Ay _ (sU J e)))).1,λb J=>oX (T.obj _ _ ax b J) λo e d=>(I7.pin (b,o) (Ay _ (Ay _ (sU J e)))).2.1⟩
   refine oK (ck x5 H5 y5) λaf cj l5 q5=>thn (b3 U _ B L _ bf (ae++σ) H5 x5 u (λcw H'=>cw=af.map some++σ/\H'=H5) (I5.pinned (ay bt) (T.obj _ _ ax)) r5 (hG ae af x5 H5 _ l0 cj l5 ⟨rfl,rfl⟩)) λ_ s6 zz=>rZ zz λcz H6 I6 e6 bl=>?_;subst e6 bl;have l6:(af.map some).length=xs.length:=by rwa[AA]
   refine thn (ht U _ B L _ s6 (af.map some++σ) H6 _ I6 q5) λcb s7 zz=>oX zz λH7 I7 q7=>?_
   cases cb with
   |false =>
    rw[A7 AV] at q7;rw[A7 AV];refine oX q7 λm' Y w7=>?_;obtain⟨k1,k2⟩:=a0 I7;exact⟨m',Y,i+1,ys,H7,af.map some,l6,I7.unpinned,k1,k2,w7⟩
   |true =>
    rw[A4 rfl] at q7;rw[A4 rfl];refine thn (b2 U _ B L _ s7 (af.map some++σ) H7 _ I7 q7) λy s8 ⟨y8,H8,I8,r8,bx,b4,m',Y,w8⟩=>thn (rO _ s8 _ H8 (.ref B.heap.objs.size) [y8] (.ref B.heap.objs.size) [y] (λ_ H9=>H9=upd H8 B.heap.objs.size (.lst (ys++[y8]))) I8 rfl (.cons r8 .nil) ⟨_,ys,y8,rfl,rfl,bx,b4,rfl⟩) λ_ s9 zz=>rZ zz λ_ H9 I9 _ e9=>?_;subst e9;obtain⟨k1,k2⟩:=a0 I9
    exact⟨m',Y,i+1,ys++[y8],_,af.map some,l6,I9.unpinned,k1,k2,w8⟩
 exact codeAny_compStart_list (bb _ ⟨_,rfl⟩) (T.self _ 0 _ _ _ bj (bb _ ⟨_,rfl⟩))
def wu{Z Y:Expr}{x:Str}{px pos:Pos}{ab:List Expr}{scope:Scope}{U:List (Str×Addr)}{wi:TI}{tc:TT}{te:TE}(hc:X.calm=true)(hN:(x::X.N).Nodup)(K:wB X x scope U)(hi:PI X (.Name x px) Y wi)(ht:∀J C L B,Y2 (lK X x scope U J C L B) ab tc)(ai:∀J C L B,PE (lK X x scope U J C L B) Z te)(hs:∀v,foldedSetIterable Y X.env v=pure v:=by intro _;rfl):PE X (.ListComp Z [⟨.Name x px,Y,ab,0⟩] scope pos) (Qu wi tc te):=by
 intro ww s σ H Q I h;rw[eval_ListComp];refine wpAny_comprehension_free (use:=none) rfl hs K.clos K.kind K.names (thn (hi ww s σ H _ I h) λxv aw ak=>thn ak λav L ao=>?_);obtain⟨it,J,tn,au,B,e,O,T,ar,ae,R⟩:=ao;subst e;refine cP (g:=uB 0) (Tk:=λx _ vs=>vs=[x]) hc K (λ_ _ _ _=>jD (i:=0) (x:=x) hN rfl (.inl (Ce (K.hx x (.head _)))) (.inr (Ce (K.hx x (.head _))))) ht ai (by rintro ws vs y H Q l rfl _ q;match ws,l with | [_],_=>exact q) O T ar ae (λD hD=>let ⟨W,w0,tu⟩:=R D hD;⟨W,w0,λi m ys H w=>(tu i m ys H w).imp id λzz=>lL zz λg st=>⟨g,λx H' y=>⟨[x],rfl,rfl,st x H' y⟩⟩⟩) ?_
 intro D C H aq m hn ag af ah aa I4 q;refine⟨m,hn,λh' aj=>⟨.ref D,H,?_,rfl,q⟩⟩;refine I4.turned (it:=C) (t':=aq.toks) (λb o hb e=>(aj.2 b hb).trans e) af ag (.inr (AK O.sz aa)) ah λp hp z=>?_;exact absurd (AE (AS (O.pin p hp).1) (by rw[z];exact aa)) (Bg _)
end
noncomputable def Its(x:Str):It:=⟨λi _=>i<x.cps.size,λi H v H'=>H'=H/\∃c,x.cps[i]?=some c/\v=.str ⟨#[c]⟩,λi _=>x.cps.size<=i⟩
def sT(B:ty="str_ascii_iterator"\/ty="str_iterator")(q:A.handled=none)it x t:
  Walks P w A it [it] [it] x.cps.size (SignAt x) (λi h=>h.IsStrIter it ty x t i):=by
 rcases B with rfl|rfl
 .exact Walks.strAscii q it x t
 .exact Walks.strWide q it x t
def Vy{K}(L:ty="str_ascii_iterator"\/ty="str_iterator")x t it:
  XA P w K tg (Its x) [it] it (λi h=>h.IsStrIter it ty x t i/\i<=x.cps.size) where
 mem:=by simp
 obj:=λi h st b q=>by
  have e:b=it:=by grind
  subst e;obtain⟨⟨o,e,c,d⟩,_⟩:=st;exact⟨o,e,λv z=>by rw[d] at z;cases z⟩
 keep:=λi h h' st k=>⟨let ⟨o,ho,r⟩:=st.1;⟨o,k it ue o ho,r⟩,st.2⟩
 item:=by
  intro X hP af ae hc i ww s σ H E I B st J;refine mR (B it ue) λf0 O ab U Y Z=>?_;refine(sT L (I.ok.hd hc) it x t).item i s _ _ J st.1 λv h' tk hv aa kk=>?_;obtain⟨c,u,hx,rfl⟩:=hv;have I1:Inv X ww σ H { s with heap:=h',toks:=tk }:=I.turned (λb o q e=>kk b o (by simp_all) e) f0 O U Y Z;exact oK (id aa) λo e cc d=>⟨_,rfl,Q4 e cc d (by rcases L with rfl|rfl<;>decide) ⟨.str ⟨#[c]⟩,H,I1,⟨u,rfl⟩,⟨rfl,c,hx,rfl⟩,⟨aa,J⟩,λb q=>(B b q).1⟩⟩
 done:=by
  intro X hP af ae hc i ww s σ H E I B st J;refine mR (B it ue) λf0 O ab U Y Z=>?_;refine(sT L (I.ok.hd hc) it x t).done s _ _ ((Nat.le_antisymm st.2 J)▸st.1) λh' tk kk=>⟨rfl,I.turned (λb o q e=>kk b o (by simpa using q) e) f0 O U Y Z⟩
 self:=λA i s Q E st h=>by
  rcases L with rfl|rfl
  .exact wpAny_pyIter_striter_ascii st.1 h
  .exact wpAny_pyIter_striter_wide st.1 h
def O6(tl:TE):TI:=λσ H R=>tl σ H λx H1=>∃z,x=.str z/\R (Its z) H1
section
variable{X:Cx}{tg:Expr}
def Hc(O:PE X l tl):PI X tg l (O6 tl):=by
 intro ww s σ H R I h;refine thn (O ww s σ H _ I h) λv s1 zz=>rZ zz λx H1 B Z Y=>?_;obtain⟨z,rfl,q⟩:=Y;obtain⟨t,rfl⟩:=Z
 have J:∀ty o,(ty="str_ascii_iterator"\/ty="str_iterator")->(s1.heap.push o).IsStrIter s1.heap.objs.size ty z t 0->PIE X ww σ tg R (.ref s1.heap.objs.size) { s1 with heap:=s1.heap.push o }:=λty o U st=>by
  refine⟨s1.heap.objs.size,[s1.heap.objs.size],_,_,H1,rfl,B.kept (t':=s1.toks) λb o e=>AO _ e,Vy U z t _,⟨st,AF _⟩,λb hb=>?_,q⟩;have e:b=s1.heap.objs.size:=by grind
  subst e;exact B.fpOk (AQ _) (B.hok.fresh (AQ _))
 cases L:z.cps.all (· < 128)
 .exact wpAny_pyIter_wide L (J _ _ (.inr rfl) ⟨_,Ad _ rfl,rfl,rfl⟩)
 .exact wpAny_pyIter_ascii L (J _ _ (.inl rfl) ⟨_,Ad _ rfl,rfl,rfl⟩)
end
def Ve(ys:List Bool):((List.range ys.length).all λi=>(ys[i]?).getD false)=ys.all id:=by
 rw[Bool.eq_iff_iff,BM,BM]
 constructor
 .intro h b B
  obtain⟨i,hi⟩:=DK.mp B;have q:=(Aa.mp hi).1;have:=h i (BY.mpr q)
  rwa[hi] at this
 .intro h i hi
  have q:=BY.mp hi;exact(AJ q)▸h _ (BJ q)
section
variable{X:Cx}
def aW(hc:X.calm=true):CallR X (.builtin "all") (λxs H Q=>∃p ys,xs=[.ref p]/\SqL X.K H p (List.map V.bl ys)/\Q (.bl (ys.all id)) H):=by
 intro ww s σ H xs us Q I r h;obtain⟨p,ys,rfl,hq,aa⟩:=h;obtain⟨u,rfl,rfl⟩:=uG r;obtain⟨its,U,B,hz⟩:=(I.list hq);have J:its.length=ys.length:=by rw[<- U.length,AA]
 refine mM (id B) λo n ho _=>call_all_walk (wpAny_pyIter_list B.isList ⟨s.heap.objs.size,_,_,_,_,_,λi=>(ys[i]?).getD false,rfl,Walks.list (A:=X.A.in1) (I.ok.hd hc) s.heap.objs.size p (Ai (AS ho)) its.toArray,⟨⟨_,Ad _ rfl,rfl,rfl⟩,B.isList.push _⟩,λi v s' Z E' hP q=>?_,λh' tk kk=>?_⟩)
 .have O:its[i]?=some v:=by simp_all
  have hi:=J▸(Aa.mp O).1;have hy:(List.map V.bl ys)[i]?=some (.bl ys[i]):=by rw[Ag,AJ hi];rfl
  obtain⟨u,L,ru⟩:=(U.get hy);rw[O] at L;cases L;cases ru;have q:Z ((ys[i]?).getD false) s':=q;rw[AJ hi] at q;exact A1 q
 .have Y:Inv X ww σ H { s with heap:=h',toks:=tk }:=I.kept λb o e=>kk b o (by intro z;exact absurd (AS e) ((AR.mp z)▸Bg _)) (AO _ e)
  have e:((List.range its.toArray.size).all λi=>(ys[i]?).getD false)=ys.all id:=by rw[Aw,J,Ve]
  exact e▸⟨.bl (ys.all id),H,Y,rfl,aa⟩
inductive Ty where
 |non|bl|int|str|lst|tup|dct
 deriving DecidableEq
noncomputable def lB:Ty->String
 |.non=>"NoneType" | .bl=>"bool" | .int=>"int" | .str=>"str" | .lst=>"list" | .tup=>"tuple" | .dct=>"dict"
noncomputable def Mq:HO->Option Ty
 |.lst _=>some .lst
 |.frz _ (.lst _)=>some .lst
 |.tup _=>some .tup
 |.dK _=>some .dct
 |.dT _=>some .dct
 |_=>none
noncomputable def Mp(H:Hp):V->Option Ty
 |.non=>some .non
 |.bl _=>some .bl
 |.int _=>some .int
 |.str _=>some .str
 |.ref a=>(H a).bind Mq
 |_=>none
def ux{K}(h:Mp H x=some n):aL K H x (.type (lB n)):=by
 cases x with
 |non=>cases h;exact .non
 |bl b=>cases h;exact .bl b
 |int i=>cases h;exact .int i
 |str z=>cases h;exact .str z
 |ref a =>
  have h:(H a).bind Mq=some n:=h
  cases e:H a with
  |none=>rw[e] at h;cases h
  |some o =>
   rw[e] at h
   cases o with
   |lst xs=>cases h;exact .lst e
   |tup xs=>cases h;exact .tup e
   |dK kvs=>cases h;exact .dK e
   |dT kvs=>cases h;exact .dT e
   |frz q u =>
    cases u with
    |lst xs=>cases h;exact .frz e
    |_=>cases h
   |_=>cases h
 |byt b=>cases h
 |flt b=>cases h
 |ty n=>cases h
noncomputable def cJ:Ty->Ty->Bool
 |.bl,.int=>true
 |a,b=>decide (a=b)
def yh K n T:PySem.W.kitOne K (.type (lB n)) (.type (lB T))=some (cJ n T):=by
 cases n<;>cases T<;>with_unfolding_all rfl
def sQ:CallR X (.builtin "isinstance") (λxs H Q=>∃x T n,xs=[x,.ty (lB T)]/\Mp H x=some n/\Q (.bl (cJ n T)) H):=by
 intro ww s σ H xs us Q I r h;obtain⟨x,T,n,rfl,B,q⟩:=h;obtain⟨u,L,rfl,J,rfl⟩:=vals2 r;exact KC I J (ux B) (yh X.K n T) λtk=>⟨.bl (cJ n T),H,I.tok tk,rfl,q⟩
def Wu(B:X.A.units<cLine):OpR X (compareOp .Eq) (λx y H Q=>∃a b xs,x=.ref a/\y=.ref b/\SqL X.K H a xs/\SqL X.K H b []/\Q (.bl xs.isEmpty) H):=by
 intro ww s σ H x y v u Q I rx ry h;obtain⟨a,b,xs,rfl,rfl,U,Y,q⟩:=h;cases rx;cases ry;obtain⟨its,J,p1,_⟩:=I.list U;obtain⟨Z,r2,p2,_⟩:=I.list Y;have O:Z=[]:=Vals.zero r2;subst O
 cases xs with
 |nil =>
  have L:its=[]:=Vals.zero J;subst L;exact SeqAt.eq_listAt (e:=λ_=>true) p1.isList p2.isList rfl B (λj h1 _=>absurd h1 (Ci _)) ⟨.bl true,H,I,rfl,q⟩
 |cons aa xr =>
  cases J with
  |cons _ t =>
   exact SeqAt.eq_list_lengthsAt p1.isList p2.isList ue B ⟨.bl false,H,I,rfl,q⟩
def GZ:SlR X (λx lo hi H Q=>∃z,x=.str z/\z.length<=sizeLine/\Q (.str (Txt.slice z lo hi)) H):=by
 intro ww s σ H x v vl vu lo hi sl Q I Z hs Y O h;obtain⟨z,rfl,J,q⟩:=h;obtain⟨t,rfl⟩:=Z;refine⟨"str",_,F.slot_str_getitem.lookup,Bp _ _ _,?_⟩;have B:∀(t':Tok)(k:Nat),EP X ww σ Q (.str (Txt.slice z lo hi) t') { s with toks:=k }:=λt' k=>⟨.str _,H,I.tok k,⟨_,rfl⟩,q⟩
 cases Y with
 |none =>
  cases O with
  |none=>exact B7 (l:=none) (u:=none) (st:=none) hs rfl (DF ⟨AK (Txt.slice_le z _ _) J,B⟩)
  |int j L=>exact B7 (l:=none) (u:=some (j,L)) (st:=none) hs rfl (DF ⟨AK (Txt.slice_le z _ _) J,B⟩)
 |int i U =>
  cases O with
  |none=>exact B7 (l:=some (i,U)) (u:=none) (st:=none) hs rfl (DF ⟨AK (Txt.slice_le z _ _) J,B⟩)
  |int j L=>exact B7 (l:=some (i,U)) (u:=some (j,L)) (st:=none) hs rfl (DF ⟨AK (Txt.slice_le z _ _) J,B⟩)
def QI:OpR X (binaryOp .FloorDiv) (rI (λ_ j=>0<j/\j<18446744073709551616) λi j=>.int (i / j)):=opI λi j _ _ _ _ _ J q=>by
 refine floordiv_int ir (by grind) (.inl (PyProof.noPylong_of_log2 ?_));have B:j.natAbs<2 ^ 64:=by lia
 exact AE ((Nat.log2_lt (by omega)).mpr B) Th
end
structure JE(X:Cx)(e:Expr)(t:TE):Prop where
 h:PE X e t
structure JT(X:Cx)(e:Expr)(t:TT):Prop where
 h:PT X e t
structure JW(X:Cx)(e:Expr)(t:TT):Prop where
 h:PW X e t
structure JA(X:Cx)(es:List Expr)(t:TA):Prop where
 h:PA X es t
structure JS(X:Cx)(st:Stmt)(t:TS):Prop where
 h:PS X st t
structure JB(X:Cx)(st:List Stmt)(t:TS):Prop where
 h:PSs X st t
structure JG(X:Cx)(e:Expr)(t:TG):Prop where
 h:PG X e t
structure MF(X:Cx)(es:List Expr)(t:TGs):Prop where
 h:PGs X es t
structure JI(X:Cx)(tg e:Expr)(t:TI):Prop where
 h:PI X tg e t
structure JF(X:Cx)(ifs:List Expr)(t:TT):Prop where
 h:Y2 X ifs t
structure JO(X:Cx)(e:Option Expr)(t:TO):Prop where
 h:PO X e t
section
variable{X:Cx}{a b c e o i:Expr}{es:List Expr}{ta tb tc te:TE}{tA tB':TT}{t:TA}{pos:Pos}{dX:List Expr}
def yr(B:Gl X x)(J:X.mg x=none)(O:bootBuiltins x=some u)(r:RelV v u)(L:x ≠ "__name__":=by decide)(q:(x==("__debug__":Str))=false:=by decide):JE X (.Name x pos) (tC v):=⟨pe_bltn B J O r L q⟩
noncomputable def kL:Expr->Bool
 |.Name _ _=>true | .Call _ _ _ _=>true | .Subscript _ _ _=>true | .Attribute _ _ _=>true | .IfExp _ _ _ _=>false|_=>false
def zC(h:kL e=true):∀q,isTrue e B q=(do let v <- q;standAt e.pos;holding [v] (truthy v)):=by
 cases e<;>first | (intro _;rfl)|exact absurd h AV
def iA(q:JE X e te)(B:JA X es t)(hs:noStar e=true:=by rfl):JA X (e::es) (VB te t):=⟨zD q.h B.h hs⟩
def yq{p}(F:FnOk X.prog X.w X.K X.mg X.base CX k f fd ps sp)(aa:Room k X.A)(U:Gl X x)(Z:X.mg x=some (.ref f))(Y:PySem.W.keepIn X.K (.ref f)=true)(J:Binds X.K fd ps ds)(L:Vals dvs ds)(hx:jV CX X E)(q:JA X (e::es) t)(O:(x==("__debug__":Str))=false:=by decide)(hs:noStar e=true:=by rfl)(B:es.all noStar=true:=by rfl):JE X (.Call (.Name x p) (e::es) [] pos) (VC sp dvs E t):=⟨vo F aa U Z Y J L hx q.h O hs B⟩
def QW{id}{p}(J:CallR X (.builtin id) r)(O:Gl X x)(U:X.mg x=none)(Z:bootBuiltins x=some (.builtin id))(q:JA X (e::es) t)(Y:x ≠ "__name__":=by decide)(L:(x==("__debug__":Str))=false:=by decide)(hs:noStar e=true:=by rfl)(B:es.all noStar=true:=by rfl):JE X (.Call (.Name x p) (e::es) [] pos) (tCB r t):=⟨VU J O U Z q.h Y L hs B⟩
def oO{p}(J:CallR X (.type T) r)(O:Gl X x)(U:X.mg x=none)(Z:bootBuiltins x=some (.type T))(q:JA X (e::es) t)(Y:x ≠ "__name__":=by decide)(L:(x==("__debug__":Str))=false:=by decide)(hs:noStar e=true:=by rfl)(B:es.all noStar=true:=by rfl):JE X (.Call (.Name x p) (e::es) [] pos) (tCB r t):=⟨Kl J O U Z q.h Y L hs B⟩
def yp{U O:Expr}{x:Str}{Z:Pos}{Y:List Expr}{scope:Scope}{L:List (Str×Addr)}{wi:TI}{tc:TT}(hc:X.calm=true)(hN:(x::X.N).Nodup)(K:wB X x scope L)(hi:JI X (.Name x Z) O wi)(ht:∀B C J q,JF (lK X x scope L B C J q) Y tc)(aa:∀B C J q,JE (lK X x scope L B C J q) U te)(hs:∀v,foldedSetIterable O X.env v=pure v:=by intro _;rfl):JE X (.ListComp U [⟨.Name x Z,O,Y,0⟩] scope pos) (Qu wi tc te):=
 ⟨wu hc hN K hi.h (λB C J q=>(ht B C J q).h) (λB C J q=>(aa B C J q).h) hs⟩
variable{tg:Expr}
end
section
variable{X:Cx}{st:Stmt}{sts:List Stmt}{t u:TS}{e c:Expr}{te:TE}{tc:TT}{pos:Pos}
end
section
variable{P:Program}{w:World}{K:DQ}{mg:Str->Option Value}{base:Heap}
def Fun.SQ{st}(F:Fun K x qual st f fd)(S:FnScope N ps (vZ st))(U:∀vs H Q E,sp vs H Q E->vs.length=ps.length)(J:∀B A outer s H vs Q E,Room k (A.deeper (envOfC qual (vZ st) s.heap.objs.size f B))->sp vs H Q E ->
   ∃t,JB (tU CX0 P w K mg base N qual (vZ st) f B A outer s H E).nox (bV st) t/\t { nx:=λ_ H'=>Q .non H',rt:=Q } (start N vs) H):FnOk P w K mg base CX0 (k+1) f fd ps sp:=
 F.ok S U λB A outer s H vs Q E L h=>let ⟨t,O,q⟩:=J B A outer s H vs Q E L h;⟨t,O.h,q⟩
end
structure KD(K:DQ)(P:Program)(w:World)(d:Addr)(kvs:List (Key×V)):Prop where
 all:∀h:Heap,K.In h->∃vs,KV kvs vs/\h.DictOf (uZ P w) d vs
 ne:(d==sysModules)=false
noncomputable def cH(p:Params)(l:List (Str×Tok×Int×Tok)):List DictEntry:=l.map λx=>{ hash:=PyData.keyHash p x.1,key:=.str x.1 x.2.1,val:=.int x.2.2.1 x.2.2.2 }
noncomputable def GR(l:List (Str×Tok×Int×Tok)):List (Key×V):=l.map λx=>(Sum.inr x.1,.int x.2.2.1)
def Ft{K:DQ}{P:Program}{w:World}{d:Addr}{l:List (Str×Tok×Int×Tok)}{n:Nat}(h:K.lookup d=some { cls:=.type "dict",data:=.dict (cH w.params l).toArray n })(q:(l.map (·.1)).Nodup)(L:(d==sysModules)=false)(Y:∀x:Str,PyData.keyHash w.params x=hashStr w x):KD K P w d (GR l):=by
 refine⟨λZ X=>?_,L⟩;refine⟨l.map λx=>(Sum.inr x.1,.int x.2.2.1 x.2.2.2),?_,_,(cH w.params l).toArray,n,X d _ h,⟨rfl,rfl,rfl⟩,rfl,?_,?_,?_⟩
 .clear h q
  induction l with
  |nil=>exact .nil
  |cons x r B=>exact .cons ⟨rfl,_,rfl⟩ B
 .intro e O
  have U:e∈cH w.params l:=by simpa using O
  obtain⟨x,_,rfl⟩:=AX.mp U;exact⟨Sum.inr x.1,uU x.1 x.2.1,Y _⟩
 .show Pairs (uZ P w) (cH w.params l) _
  clear h q
  induction l with
  |nil=>exact .nil
  |cons x r B=>exact .cons (uU x.1 x.2.1) rfl B
 .have e:(l.map λx=>((Sum.inr x.1:Key),Value.int x.2.2.1 x.2.2.2)).map (·.1)=(l.map (·.1)).map Sum.inr:=by
   rw[Aj,Aj];rfl
  rw[e];exact List.Pairwise.map Sum.inr (λa b J z=>J (Sum.inr.inj z)) q
section
variable{X:Cx}{d:Addr}{kvs:List (Key×V)}
def xM(B:KD X.K X.prog X.w d kvs):OpR X (compareOp .In) (λx y H Q=>∃z,x=.str z/\y=.ref d/\Q (.bl (aK kvs (Sum.inr z)).isSome) H):=by
 intro ww s σ H x y v u Q I O Y h;obtain⟨z,rfl,rfl,q⟩:=h;cases (show u=Value.ref d from Y);obtain⟨vs,L,J⟩:=B.all s.heap I.kIn;have U:RelV (kV (Sum.inr z)) v:=O;refine wpAny_in_of (bP U) B.ne J.mapOf ?_;rw[<- (L.val (Sum.inr z)).isSome_eq];exact⟨.bl _,H,I.tok _,rfl,q⟩
def Oz(O:KD X.K X.prog X.w d kvs):IxR X (λx y H Q=>∃z v,x=.ref d/\y=.str z/\aK kvs (Sum.inr z)=some v/\Q v H):=by
 intro value ab ww s σ H x y v u Q I Z ry h hs;obtain⟨z,r,rfl,rfl,l,q⟩:=h;cases (show v=Value.ref d from Z);obtain⟨vs,U,B⟩:=O.all s.heap I.kIn;have aa:RelV (kV (Sum.inr z)) u:=ry;obtain⟨w',L,Y⟩:=RelO.some_of (v:=r) (o:=valueAt vs (Sum.inr z)) (by rw[<- l];exact U.val (Sum.inr z));obtain⟨o,es,ep,J,ex,_⟩:=id B;exact tail_any (ops:=[.ref d,u]) (T:="dict") ⟨o,J,ex.1⟩ PySem.F.slot_dict_getitem.lookup (wpAny_getItem_of (bP aa) B.mapOf L ⟨r,H,I.tok _,Y,q⟩) hs
def wC(B:X.A.units<cLine):OpR X (compareOp .NotEq) (λx y H Q=>∃a b xs,x=.ref a/\y=.ref b/\SqL X.K H a xs/\SqL X.K H b []/\Q (.bl (!xs.isEmpty)) H):=by
 intro ww s σ H x y v u Q I rx ry h;obtain⟨a,b,xs,rfl,rfl,U,Y,q⟩:=h;cases rx;cases ry;obtain⟨its,J,p1,_⟩:=I.list U;obtain⟨Z,r2,p2,_⟩:=I.list Y;have O:Z=[]:=Vals.zero r2;subst O
 cases xs with
 |nil =>
  have L:its=[]:=Vals.zero J;subst L;exact SeqAt.RcNeAt.lists (e:=λ_=>true) p1.isList p2.isList rfl B (λj h1 _=>absurd h1 (Ci _)) _ _ _ _ ⟨.bl false,H,I,rfl,q⟩
 |cons aa xr =>
  cases J with
  |cons _ t=>exact SeqAt.RcNeAt.lists_lengths p1.isList p2.isList ue B _ _ _ _ ⟨.bl true,H,I,rfl,q⟩
end
theorem pF:∀(Z:List (Str×NameKind))B,(∀y∈Z,y.2=.free->∃c,O.cells.lookup y.1=some c)->(∀y c,B.lookup y=some c->O.cells.lookup y=some c) ->
  ∃J,(forIn Z B λx r=>(do
    if x.2==NameKind.free then do
     let c <- cellOf O x.1
     pure (ForInStep.yield ((x.1,c)::r))
    else pure (ForInStep.yield r):Sem (ForInStep (List (Str×Addr)))))=pure J/\(∀y c,J.lookup y=some c->O.cells.lookup y=some c)/\(∀y∈Z,y.2=.free->∃c,J.lookup y.1=some c)/\∀y c,B.lookup y=some c->∃L,J.lookup y=some L
 |[],B,_,U=>⟨B,rfl,U,λy q=>absurd q ue,λy c h=>⟨c,h⟩⟩
 | (n,k)::r,B,Y,U=>by
  cases hk:(k==NameKind.free) with
  |false =>
   refine Le (pF r B (λy q=>Y y (AH _ q)) U) λJ e h1 h2 h3=>⟨J,?_,h1,λy q ab=>?_,h3⟩
   .grind
   .grind
  |true =>
   have ek:k=.free:=by lia
   refine Yk (Y (n,k) AL ek) λc hc=>?_
   have aa:∀y L,((n,c)::B).lookup y=some L->O.cells.lookup y=some L:=λy L h=>by
    rw[List.lookup_cons] at h
    cases q:y==n with
    |true =>
     rw[q] at h;have:y=n:=by lia
     subst this
     rwa[hc]
    |false =>
     rw[q] at h;exact U y L h
   refine Le (pF r ((n,c)::B) (λy q=>Y y (AH _ q)) aa) λJ e h1 h2 h3=>?_;have ae:cellOf O n=pure c:=by delta cellOf;rw[hc]
   refine⟨J,?_,h1,λy q ab=>?_,λy L h=>?_⟩
   .grind
   .grind
   .grind
noncomputable def rR(xs:List Str)(scope:Scope)(N:List Str)(sc:Scope):Bool:=
 scope.names.all (λy=>decide (y.2≠.cell)&&(decide (y.2≠.free) || decide (sc.names.lookup y.1=some .cell))&&(decide (y.2≠.local) || (decide (scope.names.lookup y.1=some .local)&&decide (y.1∉N))))&&decide (scope.kind=.function)&&xs.all (λx=>decide (scope.names.lookup x=some .local))
def dD(Z:X.N=N)(ae:X.env.scope=sc)(aa:X.env.cells=cellsFrom L sc.names [])(h:rR xs scope N sc=true):∃O,xN X xs scope O:=by
 subst Z ae
 delta rR at h
 rw[Aq,Aq,BM] at h;obtain⟨⟨h1,h2⟩,Y⟩:=h
 have J:∀y∈scope.names,y.2≠.cell/\(y.2=.free->X.env.scope.names.lookup y.1=some .cell)/\(y.2=.local->scope.names.lookup y.1=some .local/\y.1∉X.N):=λy B=>by
  have q:=h1 y B;rw[Aq,Aq] at q;obtain⟨⟨q1,q2⟩,q3⟩:=q;refine⟨Af q1,λe=>?_,λe=>?_⟩
  .lia
  .lia
 refine Le (pF scope.names [] (λy B ab=>aa▸oR ((J y B).2.1 ab)) (λy c z=>by simp at z)) λO e k1 k2 _=>?_;refine⟨O,⟨?_,λy B=>(J y B).1,Af h2,λy B q=>((J y B).2.2 q).1,λx hx=>Af (BM.1 Y x hx),λy B q=>((J y B).2.2 q).2,λy B q=>⟨?_,.inl ((J y B).2.1 q),k2 y B q⟩,k1⟩⟩
 .have U:=A9 (λm:Sem (List (Str×Addr))=>m >>= λcs=>(pure cs:Sem (List (Str×Addr)))) e
  exact U
 .show X.env.scope.names.lookup y.1≠some .local
  rw[(J y B).2.1 q]
  decide
def QV{X:Cx}{U L:Expr}{x:Str}{Z pos:Pos}{Y:List Expr}{scope:Scope}{wi:TI}{tc:TT}{te:TE}(hc:X.calm=true)(hN:(x::X.N).Nodup)(K:∃q,wB X x scope q)(hi:JI X (.Name x Z) L wi)(ht:∀q J C O B,JF (lK X x scope q J C O B) Y tc)(aa:∀q J C O B,JE (lK X x scope q J C O B) U te)(hs:∀v,foldedSetIterable L X.env v=pure v:=by intro _;rfl):JE X (.ListComp U [⟨.Name x Z,L,Y,0⟩] scope pos) (Qu wi tc te):=
 let ⟨q,K⟩:=K
 yp hc hN K hi (ht q) (aa q) hs
section
variable{X:Cx}{o e:Expr}{es:List Expr}{to:TE}{t:TA}{name:Str}{apos cpos:Pos}{T id:String}{r:V->List V->Hp->VK->Prop}
def Fx(aa:PlainAttrs T)(ab:Slot T name id)(Z:typeOf (.builtin id)=pure (.type "method_descriptor"))(U:MtR X id r)(Y:JE X o to)(q:JA X (e::es) t)(J:attributeBase o name X.env (eval o X.env)=eval o X.env:=by rfl)(L:((backTo cpos (starEach (e::es) X.env)).all (λx=>!x.1)&&(backToKw cpos (keywordEach [] X.env)).all (λx=>x.1.isSome)
   && decide ((e::es).length+([]:List Keyword).length+(if([]:List Keyword).isEmpty then 0 else 1)<30))=true:=by rfl)(O:(apos.endLine==cpos.line)=true:=by rfl)(hs:noStar e=true:=by rfl)(B:es.all noStar=true:=by rfl):
  JE X (.Call (.Attribute o name apos) (e::es) [] cpos) (tBM X.K T r to t):=⟨Wp aa ab Z U Y.h q.h J L O (wJ hs) (rB B)⟩
end
section
variable{X:Cx}{pos:Pos}
def Fi(B:attributeBase o m X.env (eval o X.env)=eval o X.env)(O:(apos.endLine==cpos.line)=true)(J:noStar e=true)(L:noStar f=true):M2 X o m apos e f cpos:=by
 have q:starEach [e,f] X.env=[(false,eval e X.env),(false,eval f X.env)]:=by
  rw[wJ J,wJ L]
  rfl
 refine⟨B,?_,O,?_⟩
 .rw[q];rfl
 .rw[q];rfl
end
end L2
namespace L2
open PySem PySem.W PyProof.Rows
section
variable{n:Nat}(h0:0<n)
include h0
end
end L2
namespace HT
open PySem PyProof.Rows
end HT
namespace L2
open PySem PySem.W PyProof.Rows
end L2
namespace L2
open PySem PySem.Spec PyProof.Rows
noncomputable def pH(p:Params)(l:List (Str×Tok×Value×V)):List DictEntry:=l.map λx=>{ hash:=PyData.keyHash p x.1,key:=.str x.1 x.2.1,val:=x.2.2.1 }
noncomputable def Gy(l:List (Str×Tok×Value×V)):List (Key×V):=l.map λx=>(Sum.inr x.1,x.2.2.2)
def WT{K:DQ}{P:Program}{w:World}{d:Addr}{l:List (Str×Tok×Value×V)}{n:Nat}(h:K.lookup d=some { cls:=.type "dict",data:=.dict (pH w.params l).toArray n })(q:(l.map (·.1)).Nodup)(O:(d==sysModules)=false)(Z:∀x:Str,PyData.keyHash w.params x=hashStr w x)(J:Vals (l.map (·.2.2.2)) (l.map (·.2.2.1))):KD K P w d (Gy l):=by
 refine⟨λhp X=>?_,O⟩;refine⟨l.map λx=>(Sum.inr x.1,x.2.2.1),?_,_,(pH w.params l).toArray,n,X d _ h,⟨rfl,rfl,rfl⟩,rfl,?_,?_,?_⟩
 .clear h q
  induction l with
  |nil=>exact .nil
  |cons x r B =>
   cases J with
   |cons a b=>exact .cons ⟨rfl,a⟩ (B b)
 .intro e U
  have Y:e∈pH w.params l:=by simpa using U
  obtain⟨x,_,rfl⟩:=AX.mp Y;exact⟨Sum.inr x.1,uU x.1 x.2.1,Z _⟩
 .show Pairs (uZ P w) (pH w.params l) _
  clear h q J
  induction l with
  |nil=>exact .nil
  |cons x r B=>exact .cons (uU x.1 x.2.1) rfl B
 .have e:(l.map λx=>((Sum.inr x.1:Key),x.2.2.1)).map (·.1)=(l.map (·.1)).map Sum.inr:=by
   rw[Aj,Aj];rfl
  rw[e];exact List.Pairwise.map Sum.inr (λa b L z=>L (Sum.inr.inj z)) q
section
variable{X:Cx}{o i value:Expr}{td ty tv:TE}{pos pos':Pos}
def Hh(L:X.A.units+1<cLine):OpR X (compareOp .In) (λx y H Q=>∃d B,y=.ref d/\ZM H d x B/\Q (.bl B.isSome) H):=by
 intro ww s σ H x y v u Q I O U h;obtain⟨d,B,rfl,g,q⟩:=h;cases U;exact d_in L I g O λY J=>⟨.bl B.isSome,H,J,rfl,q⟩
end
end L2
namespace PySem.SeqAt
open MeetsSeq
def XS b u l q es n J:
  Meets (Builtin.«str.__eq__» ⟨[.str b u,.ref l],[]⟩) (λ_ R s=>s.heap.get? l=some ⟨.type "dict",q,.dict es n,J⟩/\R (.ok (.ret .notImplemented)) s):=
 .of_wp λprog w A R s h=>by
  obtain⟨L,g,d,tk,os⟩:=s;obtain⟨B,h⟩:=h
  wp_walk using Bo B
  exact⟨_,rfl,h⟩
def Qn b u l q es n J:
  Meets (Builtin.«dict.__eq__» ⟨[.ref l,.str b u],[]⟩) (λ_ R s=>s.heap.get? l=some ⟨.type "dict",q,.dict es n,J⟩/\R (.ok (.ret .notImplemented)) s):=
 .of_wp λprog w A R s h=>by
  obtain⟨O,g,d,tk,os⟩:=s;obtain⟨B,h⟩:=h;have L:=F.sub_str_dict
  wp_walk using Bo B
  exact⟨_,rfl,h⟩
def jj(B:s.heap.get? l=some ⟨.type "dict",J,.dict es n,L⟩)(U:A.units<cLine):
  EqAt A s (.str b u) (.ref l) false:=λprog w E Q h=>by
 refine BF (Am (λO=>absurd (eq_of_beq O) nofun) (λ_=>AC ?_))
 have R:RcAt A s (.str b u) (.ref l) false:=λprog w E Q h=>rc_eq_decline_or (Bp s b u) ⟨_,B,rfl⟩ rfl F.sub_dict_str F.slot_str_eq F.slot_dict_eq_refl
  (λ_ q=>BB F.slot_str_eq (Bp s b u) F.entry_str_eq (F.args_str_eq_2 _ _) (XS b u l J es n L) ⟨B,q⟩)
  (λ_ q=>BB F.slot_dict_eq_refl ⟨_,B,rfl⟩ F.entry_dict_eq (F.args_dict_eq_2 _ _) (Qn b u l J es n L) ⟨B,q⟩)
  (λ_ q=>wpAny_of_eq rfl q) (.inr U) h
 exact R prog w E _ (A1 h)
end PySem.SeqAt
namespace L2
open PySem PySem.Spec PyProof.Rows
section
variable{X:Cx}
theorem eA(B:∀(z:Str)(t:Tok),SeqAt.EqAt A s (.str z t) v (eqV (.str z) x)):∀{l:List Str}{us},Vals (l.map V.str) us->∀u∈us,SeqAt.EqAt A s u v (eqU x u)
 |[],_,.nil=>λu q=>by cases q
 |z::l,u::us,.cons r t=>λJ q=>by
  rcases Ah.mp q with rfl|q
  .obtain⟨t',rfl⟩:=r
   exact B z t'
  .exact eA B t J q
def gR(I:Inv X ww σ H s)(L:RelV x v)(q:Mp H x=some c)(B:A.units<cLine)z t:
  SeqAt.EqAt A s (.str z t) v (eqV (.str z) x):=by
 cases x with
 |non=>exact bR ⟨t,rfl⟩ L rfl rfl
 |bl b=>exact bR ⟨t,rfl⟩ L rfl rfl
 |int i=>exact bR ⟨t,rfl⟩ L rfl rfl
 |str y=>exact bR ⟨t,rfl⟩ L rfl rfl
 |ref a =>
  cases L;have q:(H a).bind Mq=some c:=q
  cases e:H a with
  |none=>rw[e] at q;cases q
  |some o =>
   rw[e] at q;have J:=I.hok a o e
   cases o with
   |lst xs =>
    obtain⟨_,its,n,_,h1⟩:=J;exact SeqAt.EqAt.str_list z t ⟨_,h1,rfl,n,rfl⟩ B
   |tup xs =>
    obtain⟨_,its,_,p⟩:=J;exact SeqAt.EqAt.str_tuple z t (iy.is p) B
   |dK kvs =>
    obtain⟨_,_,vs,_,p⟩:=J;obtain⟨⟨U,Z,Y,sl⟩,es,ep,h1,h2,O,_⟩:=p;have h2:=h2.1;subst h2 O;exact SeqAt.jj h1 B
   |dT kvs =>
    obtain⟨_,_,xs,_,⟨U,Z,Y,sl⟩,es,ep,h1,h2,O,_⟩:=J;have h2:=h2.1;subst h2 O;exact SeqAt.jj h1 B
   |frz ob u =>
    cases u with
    |lst xs =>
     obtain⟨_,_,its,n,_,h1⟩:=J;exact SeqAt.EqAt.str_list z t ⟨_,h1,rfl,n,rfl⟩ B
    |_=>cases q
   |_=>cases q
 |byt b=>cases q
 |flt b=>cases q
 |ty b=>cases q
noncomputable def RT(l:List Str):V->Bool
 |.str z=>l.contains z
 |_=>false
theorem jS x:∀{l}{us},Vals (l.map V.str) us->us.any (eqU x)=RT l x
 |[],_,.nil=>by cases x<;>rfl
 |z::l,u::us,.cons r t=>by
  obtain⟨t',rfl⟩:=r;rw[BN,jS x t]
  cases x with
  |str y =>
   show((z==y) || l.contains y)=(z::l).contains y
   congr 1
   rw[Bool.eq_iff_iff,beq_iff_eq,beq_iff_eq];exact eq_comm
  |_=>rfl
def Nh(K:DQ)(q:Bool):R2:=λx y H Q=>∃p l c,y=.ref p/\(SqL K H p (List.map V.str l)\/SqT K H p (List.map V.str l))/\Mp H x=some c/\Q (.bl (if q then !RT l x else RT l x)) H
def jM(O:X.A.units+1<cLine):OpR X (compareOp .In) (Nh X.K false):=by
 intro ww s σ H x y v u Q I Y ry h;obtain⟨p,l,c,rfl,B,L,q⟩:=h;cases ry
 rcases B with B|B
 .obtain⟨its,r,J,Z⟩:=I.list B
  refine SeqAt.in_listAt (eqU x) J.isList (λw U=>eA (gR I Y L O) r w (by grind)) ⟨.bl _,H,I,rfl,?_⟩;rw[show its.toArray.any (eqU x)=its.any (eqU x) by simp,jS x r];exact q
 .obtain⟨its,r,J,Z⟩:=I.tuple B
  refine SeqAt.in_tupleAt (eqU x) J (λw U=>eA (gR I Y L O) r w (by simpa using U)) ⟨.bl _,H,I,rfl,?_⟩;rw[show its.toArray.any (eqU x)=its.any (eqU x) by simp,jS x r];exact q
def G7(K:DQ):R2:=λx y H Q=>∃a b xs ys,x=.ref a/\y=.ref b/\SqT K H a xs/\SqT K H b ys/\xs.length+ys.length<=sizeLine /\
 (xs=[]->Q (.ref b) H)/\(xs≠[]->ys=[]->Q (.ref a) H)/\(xs≠[]->ys≠[]->∀p,H p=none->Q (.ref p) (upd H p (.tup (xs++ys))))
def Wv:OpR X (binaryOp .Add) (G7 X.K):=by
 intro ww s σ H x y v u Q I U Y h;obtain⟨a,b,xs,ys,rfl,rfl,B,J,hz,q0,q1,q2⟩:=h
 by_cases q:xs=[]
 .cases U
  cases Y;refine oK (I.tuple B) λits r1 p1 _=>oK (I.tuple J) λag r2 p2 _=>?_;have e:=r1.nil_iff.mpr q;subst e;obtain⟨⟨ai,Z,ak,sl⟩,L,hc,n,ae⟩:=id p1;obtain⟨⟨aj,aa,ao,ah⟩,O,ab,n2,af⟩:=id p2;subst hc ae ab af
  exact concat_meets ⟨_,L,rfl⟩ ⟨_,O,rfl⟩ noFill_tuple_add seq_tuple_add DB Cv (Cs _ _)
   (tuple_addW0 a b _ ag.toArray n n2 Z aa sl ah rfl) ⟨L,O,⟨.ref b,H,I,rfl,q0 q⟩⟩
 .exact op_catT ww s σ H (.ref a) (.ref b) v u Q I U Y ⟨a,b,xs,ys,rfl,rfl,B,J,q,hz,q1 q,q2 q⟩
end
end L2
namespace PySem
open PySem.Spec PyProof.Rows PyProof.Rows.F
section
variable{κ:Type}[DecidableEq κ]
noncomputable def Xz(l:List κ)(k:κ):List κ:=if k∈l then l else l++[k]
noncomputable def qV(l:List κ):List κ:=l.foldl Xz []
def yF(l:List κ)(k:κ):qV (l++[k])=Xz (qV l) k:=by simp[qV,List.foldl_append]
def WL(l:List κ)(k x:κ):decide (x∈Xz l k)=(decide (x∈l) || decide (x=k)):=by
 unfold Xz
 by_cases h:k∈l
 .by_cases e:x=k
  .simp[e,h]
  .simp[e,h]
 .simp[h]
def sC(l:List κ)(k:κ):(Xz l k).length=if decide (k∈l)=true then l.length else l.length+1:=by
 unfold Xz
 by_cases h:k∈l<;>simp[h]
theorem gL(l:List κ):∀i,(qV (l.take i)).length<=i
 |0=>by simp[qV]
 |i+1=>by
  have B:=gL l i
  by_cases h:i<l.length
  .rw[<- List.take_append_getElem h,yF,sC]
   by_cases q:l[i]∈qV (List.take i l)<;>simp[q]<;>omega
  .rw[BO (by omega)]
   rw[BO (by omega)] at B;omega
end
section
variable{prog:Program}{w:World}{κ:Type}[DecidableEq κ]{knd:KeyKind prog w κ}{A:Around}{S I l:Addr}{items:Array Value}{ks:List κ}
def Qy{h h':Heap}{f:κ->Bool}{n:Nat}(x:h.SetOf knd S f n)(e:∀o,h.get? S=some o->h'.get? S=some o):h'.SetOf knd S f n:=
 let ⟨o,es,ep,t,q,r⟩:=x
 ⟨o,es,ep,t,e o q,r⟩
def xA{R:Result->Shared->Prop}(aw:ks.length+1<scanBound)(aa:A.in1.handled=none)(U:S≠I)(ah:S≠l)(aj:l≠I)(af:∀i(h:i<ks.length),∃v,items[i]?=some v/\knd.is ks[i] v=true/\v.scannable=true)(av:items[ks.length]?=none):∀(r i:Nat)(s:Shared),i+r=ks.length->s.heap.IsListIter I l i->s.heap.IsList l items ->
   s.heap.SetOf knd S (λx=>decide (x∈qV (ks.take i))) (qV (ks.take i)).length ->
   (∀(h:Heap)(tk:Nat),(∀b o,b≠S->b≠I->s.heap.get? b=some o->h.get? b=some o)->h.SetOf knd S (λx=>decide (x∈qV ks)) (qV ks).length->R (.ok (.ret .none)) { s with heap:=h,toks:=tk }) ->
   codeAny (model prog w) A (.builtin "set.update.loop" ⟨[.ref S,.ref I],[]⟩) R s:=by
 intro r
 induction r with
 |zero =>
  intro i s e it B st O;have ei:i=ks.length:=by omega
  subst ei;rw[Cw] at st;refine codeAny_builtin F.entry_set_update_loop ?_;have u:A.under (.builtin "set.update.loop" ⟨[.ref S,.ref I],[]⟩)=A.in1:=Around.under_plainId Cz _;rw[u];exact AC (wpAny_pyNext_list_end aa it B av λh x=>AN (O h s.toks (λb o _ ai q=>x b o ai q) (Qy st λo q=>x S o U q)))
 |succ r ih =>
  intro i s e it B st O;have hi:i<ks.length:=by omega
  obtain⟨v,hv,Y,sv⟩:=af i hi;refine codeAny_builtin F.entry_set_update_loop ?_;have u:A.under (.builtin "set.update.loop" ⟨[.ref S,.ref I],[]⟩)=A.in1:=Around.under_plainId Cz _;rw[u];refine AC (wpAny_pyNext_list_item it B hv λh1 ab J=>?_);have ao:=Qy st λo q=>J.extBut S o U q;have ag:=B.at λo q=>J.extBut l o aj q
  have ak:(qV (ks.take i)).length+1<scanBound:=by
   have:=gL ks i;omega
  refine AC (m:=holding [v] (setAdd S v)) (BF ?_);unfold setAdd;refine BF (AC (knd.pyHash Y ?_));refine wpAny_setAddHashed_of (s:={ s with heap:=h1,toks:=s.toks+1 }) Y sv ao ak λh2 L aq=>?_
  have ar:h2.SetOf knd S (λx=>decide (x∈qV (ks.take (i+1)))) (qV (ks.take (i+1))).length:=by
   rw[<- List.take_append_getElem hi,yF,sC];have ef:(λx=>decide (x∈Xz (qV (List.take i ks)) ks[i]))=λx=>(decide (x∈qV (List.take i ks)) || decide (x=ks[i])):=funext λx=>WL _ _ _;rw[ef];exact aq
  exact AN ⟨plainId_quiet Cz _,ih (i+1) _ (by omega) (ab.at λo q=>(L.2 I U.symm).trans q) (ag.at λo q=>(L.2 l ah.symm).trans q) ar λh tk ae au=>O h tk (λb o Z n2 q=>ae b o Z n2 ((L.2 b Z).trans (J.extBut b o n2 q))) au⟩
end
abbrev nU(led:Bool):Obj:={ cls:=.type "set",dict:=none,data:=.set #[] 0 (.fresh 0 0 led) }
section
variable{prog:Program}{w:World}{κ:Type}[DecidableEq κ]{knd:KeyKind prog w κ}{A:Around}{E:Value->Shared->Prop}{s:Shared}{l:Addr}{items:Array Value}{ks:List κ}
def kI{Z:Fin->Shared->Prop}(B:Bool)(aa:A.handled=none)(ab:ks.length+1<scanBound)(ah:s.heap.IsList l items)(ak:items[ks.length]?=none)(ag:∀i(h:i<ks.length),∃v,items[i]?=some v/\knd.is ks[i] v=true/\v.scannable=true)(ae:∀(h:Heap)(tk:Nat),(∀b o,s.heap.get? b=some o->h.get? b=some o)->h.SetOf knd s.heap.objs.size (λx=>decide (x∈qV ks)) (qV ks).length->Z (.done (.ret .none)) { s with heap:=h,toks:=tk }):
  wpAny (model prog w) A (Builtin.«set.__init__» ⟨[.ref s.heap.objs.size,.ref l],[]⟩) Z E { s with heap:=s.heap.push (nU B) }:=by
 have oS:(s.heap.push (nU B)).get? s.heap.objs.size=some (nU B):=Ad _ rfl;obtain⟨⟨c1,d1,x1,y1⟩,Y,q2,U,q3⟩:=ah
 simp only at q2 q3
 subst q2;subst q3;have q4:(s.heap.push (nU B)).get? l=some { cls:=.type "list",dict:=d1,data:=.seq items U,slots:=y1 }:=AO _ Y;have q5:=F.sub_list_set;have q6:=F.sub_list_frozenset;have q7:(Value.type "list" == Value.type "dict")=false:=Th
 unfold Builtin.«set.__init__» noKeywords Builtin.Frozenset.updateFrom;generalize hP:pyIter=p
 wp_walk
 subst hP;have O:(s.heap.push (nU B)).IsList l items:=⟨_,q4,rfl,U,rfl⟩;refine wpAny_pyIter_list O (AC (wpAny_runValue ?_));have L:=AS Y
 have ai:s.heap.objs.size≠(s.heap.push (nU B)).objs.size:=by
  rw[Ba];exact Ai (A3 _)
 have aj:l≠(s.heap.push (nU B)).objs.size:=by
  rw[Ba];exact Ai (Cr L)
 refine xA (knd:=knd) ab (by simp[aa]) ai (CM L) aj ag ak ks.length 0 _ (BV _) ⟨_,Ad _ rfl,rfl,rfl⟩ (O.push _) ?_ λh tk af st=>?_
 .exact(setObjOf_fresh (knd:=knd) B).setOf (AO _ oS) (by unfold scanBound;omega)
 .refine AN (AN (ae h tk (λb o q=>?_) st))
  have J:=AS q;refine af b o (Ai J) ?_ (AO _ (AO _ q));rw[Ba];exact Ai (Cr J)
def Qx{Q:Value->Shared->Prop}(J:A.handled=none)(L:ks.length+1<scanBound)(aa:s.heap.IsList l items)(ab:items[ks.length]?=none)(Z:∀i(h:i<ks.length),∃v,items[i]?=some v/\knd.is ks[i] v=true/\v.scannable=true)(O:∀(h:Heap)(tk:Nat),(∀b o,s.heap.get? b=some o->h.get? b=some o)->h.SetOf knd s.heap.objs.size (λx=>decide (x∈qV ks)) (qV ks).length->Q (.ref s.heap.objs.size) { s with heap:=h,toks:=tk }):
  wpAny (model prog w) A (call (.type "set") [.ref l]) Q E s:=by
 obtain⟨c,tl,e1⟩:=F.called_set.mro;obtain⟨e2,e3,e4,e5,e6⟩:_/\_/\_/\_/\_:=⟨F.called_set.made,F.called_set.sub,F.called_set.notType,F.called_set.canCreate,F.typeCall_set_1 (.ref l)⟩;refine B0 (codeAny_of_tree (AN ⟨Code.quiet_builtin _ gf,codeAny_builtin F.entry_type_call ?_⟩));have u:A.under (.builtin "type.__call__" ⟨[.type "set",.ref l],[]⟩)=A.in1:=Around.under_plain (weight_type_call_type "set" [.ref l] []) rfl
 rw[u]
 repeat (any_goals (first|assumption|wp_step))
 refine Bs (code_set_new_1 (.ref l) (E:=E) (Q₁:=λo B=>∃q:Bool,o=.ref s.heap.objs.size/\B={ s with heap:=s.heap.push (nU q) }) λq=>⟨q,rfl,rfl⟩) λr B U=>?_
 match r,U with
 |.error e,h=>exact h
 |.ok (.ret o),h =>
  obtain⟨q,rfl,rfl⟩:=h;have ty:Shared.TypeIs { s with heap:=s.heap.push (nU q) } (.ref s.heap.objs.size) "set":=⟨_,Ad _ rfl,rfl⟩;obtain⟨e7,e8⟩:=And.intro F.called_set.init.lookup (F.called_set.init.bind (.ref s.heap.objs.size))
  repeat (any_goals (first|assumption|wp_step))
  refine Cg F.called_set.init.plain F.entry_set_init (check_set_init_1 ty (kI q (by simp[J]) L aa ab Z λh tk Y st=>?_))
  repeat (any_goals (first|assumption|wp_step))
  exact O h tk Y st
end
end PySem
namespace L2
open PySem PySem.Spec PyProof.Rows
noncomputable def fR(l:List Str):Nat:=(qV l).length
def jI(d:Addr)(n:Nat):Heap->Prop:=λh=>∃o es ep t,h.get? d=some o/\o.ExactSet/\o.data=.set es ep t/\t.fits es.size=true/\es.size=n/\n<4096
theorem ZR:∀{l:List Str}{us:List Value},Vals (l.map V.str) us->∀i(h:i<l.length),∃t,us[i]?=some (.str l[i] t)
 |[],_,.nil,i,h=>absurd h (Ci i)
 |z::l,_,.cons r x,i,h=>by
  obtain⟨t',rfl⟩:=r
  cases i with
  |zero=>exact⟨t',rfl⟩
  |succ i =>
   obtain⟨t,e⟩:=ZR x i (Nat.lt_of_succ_lt_succ h);exact⟨t,by simpa using e⟩
def Jt(l:List Str):fR l<=l.length:=by
 have h:=gL l l.length;rw[Cw] at h;exact h
section
variable{X:Cx}
def K2(hc:X.calm=true):CallR X (.type "set") (λxs H Q=>∃p l,xs=[.ref p]/\SqL X.K H p (List.map V.str l)/\l.length<4094/\∀d,H d=none->Q (.ref d) (upd H d (.ext (jI d (fR l))))):=by
 intro ww s σ H xs us Q I r h;obtain⟨p,l,rfl,hq,hl,ab⟩:=h;obtain⟨u,rfl,rx⟩:=uG r;cases rx;obtain⟨its,q,pl,hz⟩:=I.list hq;have aa:its.length=l.length:=by rw[<- q.length,AA]
 refine Qx (knd:=strKind X.prog X.w) (ks:=l) (I.ok.hd hc) (by unfold scanBound;omega) pl.isList (by simp[aa]) (λi hi=>?_) λh' tk hk Z=>?_
 .obtain⟨t,e⟩:=ZR q i hi
  exact⟨_,by simpa using e,strKind_is _ _ _ _,rfl⟩
 obtain⟨o,es,ep,t,h1,h2,O,_,_,h4,U,Y⟩:=Z;have L:H s.heap.objs.size=none:=I.fresh;refine⟨.ref s.heap.objs.size,_,I.laid (t':=tk) (o:=.ext (jI s.heap.objs.size (fR l))) (λb ob e=>hk b ob e) (AQ _) ?_,rfl,ab _ L⟩;refine⟨⟨o,es,ep,t,h1,h2,O,U,Y,Bi (Jt l) (by omega)⟩,⟨o,h1⟩,?_⟩;rintro ae af ⟨o',J,B,t',k1,k2⟩ e;exact⟨o',J,B,t',e _ k1,k2⟩
def K4:CallR X (.builtin "len") (λxs H Q=>∃d n,xs=[.ref d]/\H d=some (.ext (jI d n))/\Q (.int (n:Nat)) H):=by
 intro ww s σ H xs us Q I r h;obtain⟨d,n,rfl,L,q⟩:=h;obtain⟨u,rfl,O⟩:=uG r;cases O;obtain⟨⟨o,es,ep,t,h1,h2,B,J,rfl,U⟩,_,_⟩:=(show ObjOk X.prog X.w H s.heap d (.ext (jI d n)) from I.hok d _ L);exact call_len_set h1 h2 B J (by omega) ⟨.int _,H,I.tok _,⟨_,rfl⟩,q⟩
end
theorem uC(l:List Str):∀i,i<=l.length->((l.take i).Nodup->qV (l.take i)=l.take i)/\(¬ (l.take i).Nodup->(qV (l.take i)).length<i)
 |0,_=>⟨λ_=>by rw[List.take_zero];rfl,λh=>absurd (by rw[List.take_zero];exact Br) h⟩
 |i+1,hi=>by
  obtain⟨h1,h2⟩:=uC l i (by omega);have U:l[i]?=some l[i]:=AJ (by omega);have L:l.take (i+1)=l.take i++[l[i]]:=by rw[List.take_succ,U];rfl
  rw[L,yF];have Y:(l.take i).length=i:=by rw[CZ];omega
  by_cases B:(l.take i).Nodup
  .rw[h1 B]
   unfold Xz
   by_cases q:l[i]∈l.take i
   .rw[A4 q]
    refine⟨λh=>?_,λ_=>by omega⟩;rw[CP] at h;exact absurd rfl (h.2.2 _ q _ AL)
   .rw[A7 q]
    refine⟨λ_=>rfl,λh=>absurd ?_ h⟩;rw[CP];refine⟨B,by simp,λa O b J e=>?_⟩;subst e;have J:a=l[i]:=by simpa using J
    exact q (J▸O)
  .refine⟨λh=>absurd (CP.mp h).1 B,λ_=>?_⟩
   have:=h2 B;rw[sC]
   split<;>omega
theorem Ju(l:List Str):fR l=l.length↔l.Nodup:=by
 obtain⟨h1,h2⟩:=uC l l.length (AQ _);rw[Cw] at h1 h2
 constructor
 .intro h
  by_cases q:l.Nodup
  .exact q
  .have:=h2 q
   unfold fR at h;omega
 .intro h
  unfold fR;rw[h1 h]
abbrev Cx.at_(X:Cx)(k:Nat):Cx:={ X with N:=X.N.set k "?" }
def zT(k:Nat)(σ:St):Prop:=∀v,σ[k]?≠some (some v)
section
variable{X:Cx}{ww:List (Addr×Obj)}{σ:St}{H:Hp}{s:Shared}{k:Nat}{e:Expr}{te:TE}{st:Stmt}{t:TS}
def Oo(ab:X.Ok):(X.at_ k).Ok:=by
 obtain⟨h1,h2,h3,h4,h5,h6,h7,h8,h9,q,B,J,L,O,U,Y,Z,aa⟩:=ab;exact⟨h1,h2,h3,h4,h5,h6,h7,h8,h9,q,B,J,L,O,U,Y,Z,aa⟩
def WC(ab:(X.at_ k).Ok):X.Ok:=by
 obtain⟨h1,h2,h3,h4,h5,h6,h7,h8,h9,q,B,J,L,O,U,Y,Z,aa⟩:=ab;exact⟨h1,h2,h3,h4,h5,h6,h7,h8,h9,q,B,J,L,O,U,Y,Z,aa⟩
def W1(n:zT k σ)(I:Inv X ww σ H s):Inv (X.at_ k) ww σ H s:=by
 refine oX I.loc λm O L=>⟨Oo I.ok,I.os,I.bare,I.base,⟨m,O,λi x v q B J=>?_⟩,I.cell,I.free,I.freeC,I.pin,I.hok,?_⟩
 .by_cases hi:k=i
  .subst hi;exact absurd B (n v)
  .rw[BK hi] at q
   exact L i x v q B J
 .rw[Cj]
  exact I.len
def gU(n:zT k σ)(I:Inv (X.at_ k) ww σ H s):Inv X ww σ H s:=by
 refine oX I.loc λm L J=>⟨WC I.ok,I.os,I.bare,I.base,⟨m,L,λi x v O q B=>?_⟩,I.cell,I.free,I.freeC,I.pin,I.hok,?_⟩
 .by_cases hi:k=i
  .subst hi;exact absurd q (n v)
  .refine J i x v ?_ q B
   rwa[BK hi]
 .have:=I.len
  rw[this,Cj]
def yo k(B:JE (X.at_ k) e te):JE X e (λσ H Q=>zT k σ/\te σ H Q):=
 ⟨λww s σ H Q I h=>thn (B.h ww s σ H Q (W1 h.1 I) h.2) λv s1 O=>rZ O λx H1 q L J=>⟨x,H1,gU h.1 q,L,J⟩⟩
def Fv k(h:JS X st t):JS X st (λD σ H=>t D (σ.set k none) H):=
 ⟨λww s σ H D I q=>h.h ww s (σ.set k none) H D (I.weak (by grind) λi v e=>by
  by_cases hi:k=i
  .grind
  .rwa[BK hi] at e) q⟩
end
section
variable{X:Cx}
def aA{Z Y pos ag}(aq:X.N.Nodup)(hi:X.N[i]?=some y)(hy:Loc X.env.scope y)(hc:X.calm=true)(hN:(x::X.N).Nodup)(K:wB X x scope ab)(hI:JI X (.Name x Y) U wi)(ht:∀B C J q,JF (lK X x scope ab B C J q) af tc)(au:∀B C J q,JE (lK X x scope ab B C J q) ae te)(hs:∀v,foldedSetIterable U X.env v=pure v:=by intro _;rfl)(ax:swapsWith (.ListComp ae [⟨.Name x Y,U,af,0⟩] scope pos) (some (.Name y Z)) ag.line X.env=pure true:=by rfl)(av:X.fn y=true\/X.env.scope.names.lookup y=some .local:=by first|exact .inl rfl|exact .inr rfl|assumption):
  JS X (.Assign [.Name y Z] (.ListComp ae [⟨.Name x Y,U,af,0⟩] scope pos) ag) (tAsg (Qu wi tc te) (uB i)):=by
 refine⟨λww s σ H D I h=>?_⟩;rw[exec_Assign_Name_used _ _ _ _ ax];refine AC (Bl (AC (AC (wpAny_comprehension_free (use:=some (assign (.Name y Z) X.env)) rfl hs K.clos K.kind K.names (thn (hI.h ww s σ H _ I h) λxv a7 ay=>thn ay λa5 J az=>?_)))));obtain⟨it,B,tn,a4,q,e,L,T,a3,ah,R⟩:=az;subst e
 apply cP (Q:=λx H1=>uB i x σ H1 D.nx) hc K (λ_ _ _ _=>jD (i:=0) hN rfl (.inl (Ce (K.hx x (.head _)))) (.inr (Ce (K.hx x (.head _))))) (λB C J q=>(ht B C J q).h) (λB C J q=>(au B C J q).h) (by rintro ws vs y H Q l rfl _ aa;match ws,l with | [_],_=>exact aa) L T a3 ah (λD hD=>let ⟨W,w0,tu⟩:=R D hD;⟨W,w0,λi m ys H w=>(tu i m ys H w).imp id λzz=>lL zz λg st=>⟨g,λx H' y=>⟨[x],rfl,rfl,st x H' y⟩⟩⟩)
 intro D' C H' a6 m hn aj ai ak ao I4 aa;refine wpAny_assign_Name (xO I4 aq hi hy (v:=.ref D') rfl (λa0 I5 O=>?_) av);obtain⟨b,O,hb⟩:=O;have ar:C≠b:=by grind
 exact⟨m,hn.at' λo e=>(O.2 C ar).trans e,λh' aw=>AN (AN ⟨_,H',I5.turned (t':=a0.toks) (λb o hb e=>(aw.2 b hb).trans e) ai aj (.inr (AK L.sz ao)) ak λp hp z=>absurd (AE (AS (L.pin p hp).1) ir) (Bg _),aa⟩)⟩
def yj{st:Stmt}{t:TS}(k:Nat)(h:JS (X.at_ k) st t):JS X st (λD σ H=>zT k σ/\t { nx:=λB H'=>zT k B/\D.nx B H',rt:=D.rt,bk:=λB H'=>zT k B/\D.bk B H',ct:=λB H'=>zT k B/\D.ct B H' } σ H):=
 ⟨λww s σ H D I q=>thn (h.h ww s σ H _ (W1 q.1 I) q.2) λf s1 z=>by
  cases f with
  |next=>obtain⟨B,H',J,n,z⟩:=z;exact⟨B,H',gU n J,z⟩
  |brk=>obtain⟨B,H',J,n,z⟩:=z;exact⟨B,H',gU n J,z⟩
  |cont=>obtain⟨B,H',J,n,z⟩:=z;exact⟨B,H',gU n J,z⟩
  |ret u =>
   obtain⟨v,B,H',J,r,z⟩:=z
   have n:zT k (B.set k none):=λv e=>by
    rw[List.getElem?_set_self'] at e
    cases L:B[k]? with
    |none=>rw[L] at e;cases e
    |some x=>rw[L] at e;cases e
   refine⟨v,B.set k none,H',gU n (J.weak (by rw[Cj]) λi v e=>?_),r,z⟩
   by_cases hi:k=i
   .subst hi;exact absurd e (n v)
   .rw[BK hi] at e
    exact e⟩
end
end L2
namespace PySem
open Builtin
def iM:fillsNumberSlot (.type "tuple") "mul"=pure false:=fillsNumberSlot_seq (id:="tuple.__mul__") (r:=some (.builtin "tuple.__rmul__")) Cb.lookup gf F.slot_tuple_rmul.lookup gf
def nP:seqRepeat? (.type "tuple")=pure (some (.builtin "tuple.__mul__")):=by
 unfold seqRepeat?;rw[seqSlot_of (T:="tuple") (name:="__mul__") (id:="tuple.__mul__") Cb.lookup gf,seqSlot_of (T:="tuple") (name:="__rmul__") (id:="tuple.__rmul__") F.slot_tuple_rmul.lookup gf];rfl
def fS(a:Int)(t:Tok)(l:Addr)(items:Array Value)(n:Nat)(q:Option Addr)(J:Array (Option Value)):Meets (Builtin.«int.__rmul__» ⟨[.int a t,.ref l],[]⟩) (λ_ R s=>s.heap.get? l=some ⟨.type "tuple",q,.seq items n,J⟩/\R (.ok (.ret Value.notImplemented)) s):=
 .of_wp λprog w A R s h=>by obtain⟨L,g,d,tk,os⟩:=s;obtain⟨B,h⟩:=h;wp_walk using Bo B;exact⟨_,rfl,h⟩
def XU(l:Addr)(items:Array Value)(n:Nat)(q:Option Addr)(J:Array (Option Value))(u:Tok):Meets (Builtin.«tuple.__mul__» ⟨[.ref l,.int 1 u],[]⟩) (λ_ R s=>s.heap.get? l=some ⟨.type "tuple",q,.seq items n,J⟩/\R (.ok (.ret (.ref l))) s):=
 .of_wp λprog w A R s h=>by
  obtain⟨L,g,d,tk,os⟩:=s;obtain⟨B,h⟩:=h;unfold Builtin.«tuple.__mul__»
  wp_walk using Bo B
  exact⟨_,rfl,h⟩
def Ql(l:Addr)(items:Array Value)(n:Nat)(q:Option Addr)(J:Array (Option Value))(u:Tok)(L:items.isEmpty=false):Meets (Builtin.«tuple.__mul__» ⟨[.ref l,.int 0 u],[]⟩) (λ_ R s=>s.heap.get? l=some ⟨.type "tuple",q,.seq items n,J⟩/\R (.ok (.ret (.ref s.heap.objs.size))) { s with heap:=s.heap.push { cls:=.type "tuple",data:=.seq #[] } }):=
 .of_wp λprog w A R s h=>by
  obtain⟨O,g,d,tk,os⟩:=s;obtain⟨B,h⟩:=h;unfold Builtin.«tuple.__mul__»
  wp_walk using Bo B
  exact⟨_,rfl,h⟩
def Qm(l:Addr)(items:Array Value)(n:Nat)(B:Option Addr)(O:Array (Option Value))(x:Int)(u:Tok)(aa:items.isEmpty=false)(h2:2<=x)(Z:x<64)(hs:items.size=1)(ae:((List.replicate x.toNat items).foldl (λa b=>a++b) #[]).size<=sizeLine):Meets (Builtin.«tuple.__mul__» ⟨[.ref l,.int x u],[]⟩) (λ_ R s=>s.heap.get? l=some ⟨.type "tuple",B,.seq items n,O⟩/\R (.ok (.ret (.ref s.heap.objs.size))) { s with heap:=s.heap.push { cls:=.type "tuple",data:=.seq ((List.replicate x.toNat items).foldl (λa b=>a++b) #[]) } }):=
 .of_wp λprog w A R s h=>by
  obtain⟨hp,g,d,tk,os⟩:=s;obtain⟨q,h⟩:=h
  have J:(decide (x < -(2 ^ 63)) || decide (x >= 2 ^ 63))=false:=by
   rw[AW (by omega),AW (by omega)];rfl
  have U:(x==1)=false:=by simpa using(show ¬ x=1 by omega)
  have Y:decide (x<=0)=false:=AW (by omega);unfold Builtin.«tuple.__mul__»
  have L:Builtin.Tuple.tupleTooMany (items.size*x)=false:=by
   rw[hs];unfold Builtin.Tuple.tupleTooMany;have ab:(64:Nat)<=sizeLine:=Th
   exact AW (by omega)
  wp_walk using Bo q
  refine wpAny_ite_false (by rw[J];rfl) ?_
  wp_walk using Bo q
  refine wpAny_ite_false (AW (by rw[hs];omega)) ?_
  wp_walk using Bo q
  refine wpAny_ite_false (by rw[L];rfl) ?_
  wp_walk using Bo q
  exact⟨_,rfl,h⟩
end PySem
namespace L2
open PySem PySem.Spec PyProof.Rows
def Ng:R2:=λx y H Q=>∃l k z,x=.ref l/\y=.int k/\H l=some (.tup [z])/\0<=k/\k<64/\(k=1->Q (.ref l) H)/\(k≠1->∀p,H p=none->Q (.ref p) (upd H p (.tup (List.replicate k.toNat z))))
theorem Xa(u:Value):∀(k:Nat)(a:Array Value),(List.replicate k #[u]).foldl (λa b=>a++b) a=(a.toList++List.replicate k u).toArray
 |0,a=>by simp
 |k+1,a=>by
  rw[Ck,List.foldl_cons,Xa u k]
  apply Array.toList_inj.mp
  simp[List.replicate_succ]
theorem Qo{z:V}{u:Value}(r:RelV z u):∀k:Nat,Vals (List.replicate k z) (List.replicate k u)
 |0=>.nil
 |k+1=>.cons r (Qo r k)
section
variable{X:Cx}
def w5:OpR X (binaryOp .Mult) Ng:=by
 intro ww s σ H x y v u Q I rx ry h;obtain⟨l,k,z,rfl,rfl,hH,h0,Z,q1,Y⟩:=h;cases rx;obtain⟨t,rfl⟩:=ry;obtain⟨hz,its,r,p⟩:=(show ObjOk X.prog X.w H s.heap l (.tup [z]) from I.hok l _ hH);obtain⟨u,rfl,ru⟩:=r.one;obtain⟨⟨aa,B,ab,J⟩,q,L,n,O⟩:=p.is
 simp only at L O
 subst L O;have ae:(64:Nat)<=sizeLine:=Th
 refine wpAny_binaryOp_repeat_ref (T:="tuple") (U:="int") Th ⟨_,q,rfl⟩ (λs'=>typeIs_int s' k t) iM F.fills_int_mul DH nP F.slot_int_index.lookup
  (BB DH (typeIs_int s k t) F.entry_int_rmul (F.args_int_rmul_2 _ _) (fS k t l _ n B J) ⟨q,rfl,⟨_,q,rfl⟩,?_⟩)
 by_cases h1:k=1
 .subst h1
  exact BB Cb ⟨_,q,rfl⟩ F.entry_tuple_mul (F.args_tuple_mul_2 _ _) (XU l _ n B J t) ⟨q,⟨.ref l,H,I,rfl,q1 rfl⟩⟩
 .by_cases h2:k=0
  .subst h2
   refine BB Cb ⟨_,q,rfl⟩ F.entry_tuple_mul (F.args_tuple_mul_2 _ _) (Ql l _ n B J t rfl) ⟨q,?_⟩;refine⟨.ref s.heap.objs.size,_,I.laid (t':=s.toks) (o:=.tup []) (λb ob e=>AO _ e) (AQ _) ?_,rfl,Y Th _ I.fresh⟩;exact⟨AF _,[],.nil,iy.new _ _⟩
  .have e:(List.replicate k.toNat [u].toArray).foldl (λa b=>a++b) #[]=(List.replicate k.toNat u).toArray:=by
    have:=Xa u k.toNat #[]
    simpa using this
   refine BB Cb ⟨_,q,rfl⟩ F.entry_tuple_mul (F.args_tuple_mul_2 _ _) (Qm l _ n B J k t rfl (by omega) Z rfl (by rw[e,Aw,Ar];omega)) ⟨q,?_⟩;rw[e];refine⟨.ref s.heap.objs.size,_,I.laid (t':=s.toks) (o:=.tup (List.replicate k.toNat z)) (λb ob e=>AO _ e) (AQ _) ?_,rfl,Y h1 _ I.fresh⟩;exact⟨by rw[Ar];omega,_,Qo ru _,iy.new _ _⟩
end
theorem ZT(h:H p=none)o:Same H (upd H p o):=λb u q=>by rwa[pX (wK q h)]
section
variable{X:Cx}
def VT:R2:=λx y H Q=>∃l k z,x=.ref l/\y=.int k/\H l=some (.tup [z])/\0<=k/\k<64/\∀r H',Same H H'->H' r=some (.tup (List.replicate k.toNat z))->(H r=none\/r=l)->Q (.ref r) H'
def wz:OpR X (binaryOp .Mult) VT:=by
 intro ww s σ H x y v u Q I Y Z h;obtain⟨l,k,z,L,O,B,h0,U,q⟩:=h;exact w5 ww s σ H x y v u Q I Y Z ⟨l,k,z,L,O,B,h0,U,λh1=>q l H (Same.refl H) (by subst h1;exact B) (.inr rfl),λ_ p J=>q p _ (ZT J _) iQ (.inl J)⟩
def Et:R2:=λx y H Q=>∃a b xs ys,x=.ref a/\y=.ref b/\H a=some (.tup xs)/\H b=some (.tup ys)/\xs.length+ys.length<=sizeLine/\∀r H',Same H H'->H' r=some (.tup (xs++ys))->(H r=none\/r=a\/r=b)->Q (.ref r) H'
def xj:OpR X (binaryOp .Add) Et:=by
 intro ww s σ H x y v u Q I Z ry h;exact Tf h λa b xs ys J L O U Y q=>Wv ww s σ H x y v u Q I Z ry ⟨a,b,xs,ys,J,L,SqT.of O,SqT.of U,Y,λh=>q b H (Same.refl H) (by rwa[h]) (.inr (.inr rfl)),λ_ h=>q a H (Same.refl H) (by grind) (.inr (.inl rfl)),λ_ _ p B=>q p _ (ZT B _) iQ (.inl B)⟩
end
end L2
namespace L2
open PySem PySem.W PyProof.Rows
section
variable{X:Cx}
abbrev yw(v d:Addr):Heap->Prop:=λh=>h.IsItemsView v d
end
end L2
namespace L2
open PySem PySem.W PySem.Spec PyProof.Rows
section
variable{X:Cx}
end
end L2
namespace CL
open PySem PySem.Spec L2
open PyProof.Rows hiding St
inductive PV where
 |non|bl (b:Bool)|int (i:Int)|str (x:Str)|ty (n:String)|tup (xs:List PV)|kt (xs:List PV)|fz (xs:List PV)|vw (d:Addr)|ref (a:Addr)
noncomputable def dg:HO->Bool
 |.tup _=>true
 |.frz _ (.dK _)=>false
 |.frz _ (.dT _)=>false
 |.frz _ _=>true
 |.ext _=>true
 |_=>false
def iu(H H':Hp):Prop:=∀a o,dg o=true->H a=some o->H' a=some o
def iu.new(q:H p=none)o:iu H (upd H p o):=λa u _ e=>by
 rwa[pX (wK e q)]
def iu.mut(q:H p=some u)(B:dg u=false)o:iu H (upd H p o):=λa v i e=>by
 have:a≠p:=by
  intro z;subst z;rw[q] at e;cases e;rw[B] at i;cases i
 rwa[pX this]
def Fz(K:DQ)(H:Hp)(a:Addr)(xs:List V):Prop:=
 (∃o,H a=some (.frz o (.lst xs))) \/
  ∃(o:Obj)(its:Array Value)(n:Nat),K.lookup a=some o/\o.cls=.type "list"/\o.dict=none/\o.data=.seq its n/\its.size<=sizeLine/\Vals xs its.toList
def Fz.sq{K}(h:Fz K H a xs):SqL K H a xs:=by
 rcases h with ⟨o,h⟩|h
 .exact .inl (.inr ⟨o,h⟩)
 .exact .inr h
def Fz.dg{K}(h:Fz K H a xs)(k:iu H H'):Fz K H' a xs:=by
 rcases h with ⟨o,h⟩|h
 .exact .inl ⟨o,k _ _ rfl h⟩
 .exact .inr h
def SqT.dg{K}(h:SqT K H a xs)(k:iu H H'):SqT K H' a xs:=by
 rcases h with (h|⟨o,h⟩)|h
 .exact .inl (.inl (k _ _ rfl h))
 .exact .inl (.inr ⟨o,k _ _ rfl h⟩)
 .exact .inr h
mutual
inductive Rep(K:DQ)(H:Hp):V->PV->Prop
 |non:Rep K H .non .non
 |bl (b:Bool):Rep K H (.bl b) (.bl b)
 |int (i:Int):Rep K H (.int i) (.int i)
 |str (x:Str):Rep K H (.str x) (.str x)
 |ty (n:String):Rep K H (.ty n) (.ty n)
 |ref (a:Addr):Rep K H (.ref a) (.ref a)
 |tup {a:Addr} {vs:List V} {ts:List PV} (h:H a=some (.tup vs)) (r:du K H vs ts):Rep K H (.ref a) (.tup ts)
 |kt {a:Addr} {vs:List V} {ts:List PV} (h:SqT K H a vs) (r:du K H vs ts):Rep K H (.ref a) (.kt ts)
 |fz {a:Addr} {vs:List V} {ts:List PV} (h:Fz K H a vs) (r:du K H vs ts):Rep K H (.ref a) (.fz ts)
 |vw {a d:Addr} (h:H a=some (.ext (yw a d))):Rep K H (.ref a) (.vw d)
inductive du(K:DQ)(H:Hp):List V->List PV->Prop
 |nil:du K H [] []
 |cons {v:V} {t:PV} {vs:List V} {ts:List PV} (h:Rep K H v t) (r:du K H vs ts):du K H (v::vs) (t::ts)
end
section
variable{K:DQ}{H H' H1 H2:Hp}
mutual
theorem Rep.dg{v:V}{t:PV}(k:iu H H'):Rep K H v t->Rep K H' v t
 |.non=>.non
 |.bl b=>.bl b
 |.int i=>.int i
 |.str x=>.str x
 |.ty n=>.ty n
 |.ref a=>.ref a
 |.tup h r=>.tup (k _ _ rfl h) (du.dg k r)
 |.kt h r=>.kt (SqT.dg h k) (du.dg k r)
 |.fz h r=>.fz (Fz.dg h k) (du.dg k r)
 |.vw h=>.vw (k _ _ rfl h)
theorem du.dg{vs:List V}{ts:List PV}(k:iu H H'):du K H vs ts->du K H' vs ts
 |.nil=>.nil
 |.cons h r=>.cons (Rep.dg k h) (du.dg k r)
end
theorem du.len:du K H vs ts->vs.length=ts.length
 |.nil=>rfl
 |.cons _ r=>A9 (· + 1) r.len
theorem du.get{i:Nat}:du K H vs ts->ts[i]?=some t->∃v,vs[i]?=some v/\Rep K H v t
 |.nil,e=>by cases e
 |.cons h r,e=>by
  cases i with
  |zero=>cases e;exact⟨_,rfl,h⟩
  |succ i=>exact r.get e
theorem du.append:du K H vs ts->du K H us ss->du K H (vs++us) (ts++ss)
 |.nil,r=>r
 |.cons h t,r=>.cons h (t.append r)
theorem du.take:∀n,du K H vs ts->du K H (vs.take n) (ts.take n)
 |0,_=>.nil
 |_+1,.nil=>.nil
 |n+1,.cons h r=>.cons h (r.take n)
theorem du.drop:∀n,du K H vs ts->du K H (vs.drop n) (ts.drop n)
 |0,r=>r
 |_+1,.nil=>.nil
 |n+1,.cons _ r=>r.drop n
theorem du.set(h:Rep K H v t):∀n,du K H vs ts->du K H (vs.set n v) (ts.set n t)
 |_,.nil=>.nil
 |0,.cons _ r=>.cons h r
 |n+1,.cons g r=>.cons g (r.set h n)
end
inductive CO where
 |lst (xs:List PV)
 |dK (kvs:List (Key×PV))
 |fK (kvs:List (Key×PV))
 |dT (kvs:List (List Key×PV))
 |fT (kvs:List (List Key×PV))
 |ins (c dx:Addr) (fs:List (Str×PV))
abbrev CH:=Addr->Option CO
noncomputable def cQ(C:CH)(a:Addr)(o:CO):CH:=λb=>if b=a then some o else C b
theorem zQ:cQ C a o a=some o:=A4 rfl
theorem yQ(h:b≠a):cQ C a o b=C b:=A7 h
abbrev FP(K:DQ)(H:Hp):List (κ×V)->List (κ×PV)->Prop:=Paired λp q=>p.1=q.1/\Rep K H p.2 q.2
abbrev KP(K:DQ)(H:Hp):List (Key×V)->List (Key×PV)->Prop:=Paired λp q=>p.1=q.1/\Rep K H p.2 q.2
def o8(K:DQ)(H:Hp)(a:Addr):CO->Prop
 |.lst ts=>∃vs,H a=some (.lst vs)/\du K H vs ts
 |.dK kvs=>∃vs,H a=some (.dK vs)/\KP K H vs kvs
 |.fK kvs=>∃o vs,H a=some (.frz o (.dK vs))/\KP K H vs kvs
 |.dT kvs=>∃vs,H a=some (.dT vs)/\FP K H vs kvs
 |.fT kvs=>∃o vs,H a=some (.frz o (.dT vs))/\FP K H vs kvs
 |.ins c dx fs=>∃q,H a=some (.ins c dx q)/\FP K H q fs
def dj(K:DQ)(H:Hp)(C:CH):Prop:=∀a o,C a=some o->o8 K H a o
noncomputable def still:Option CO->Bool
 |none=>true
 |some (.fK _)=>true
 |some (.fT _)=>true
 |_=>false
def Fw(H:Hp)(C:CH)(H':Hp)(C':CH):Prop:=∀a,still (C a)=true->H a≠none->C' a=C a/\H' a=H a
section
variable{K:DQ}{H H' H1 H2:Hp}{C C' C1 C2:CH}
def Fw.refl:Fw H C H C:=λ_ _ _=>⟨rfl,rfl⟩
theorem Fw.trans(f:Fw H C H1 C1)(g:Fw H1 C1 H2 C2):Fw H C H2 C2:=λa h n=>by
 obtain⟨c,e⟩:=f a h n;obtain⟨q,B⟩:=g a (by rwa[c]) (by rwa[e]);exact⟨q.trans c,B.trans e⟩
def o8.mut(h:o8 K H a o):∃u,H a=some u/\dg u=false:=by
 cases o with
 |lst ts=>obtain⟨vs,e,_⟩:=h;exact⟨_,e,rfl⟩
 |dK ts=>obtain⟨vs,e,_⟩:=h;exact⟨_,e,rfl⟩
 |fK ts=>obtain⟨o,vs,e,_⟩:=h;exact⟨_,e,rfl⟩
 |dT ts=>obtain⟨vs,e,_⟩:=h;exact⟨_,e,rfl⟩
 |fT ts=>obtain⟨o,vs,e,_⟩:=h;exact⟨_,e,rfl⟩
 |ins c dx fs=>obtain⟨vs,e,_⟩:=h;exact⟨_,e,rfl⟩
def dj.hid(h:dj K H C)(i:dg o=true)(e:H a=some o):C a=none:=by
 cases c:C a with
 |none=>rfl
 |some u =>
  obtain⟨v,q,B⟩:=((h a u c).mut);rw[e] at q;cases q;rw[i] at B;cases B
def dj.fresh(h:dj K H C)(e:H a=none):C a=none:=by
 cases c:C a with
 |none=>rfl
 |some u =>
  obtain⟨v,q,B⟩:=((h a u c).mut);rw[e] at q;cases q
def Fw.dg(f:Fw H C H' C')(h:dj K H C):iu H H':=λa o i e=>by
 rw[(f a (by rw[h.hid i e];rfl) ir).2];exact e
def o8.dg(h:o8 K H a o)(k:iu H H')(e:H' a=H a):o8 K H' a o:=by
 cases o with
 |lst ts=>obtain⟨vs,q,r⟩:=h;exact⟨vs,e.trans q,r.dg k⟩
 |dK ts=>obtain⟨vs,q,r⟩:=h;exact⟨vs,e.trans q,Paired.mapP r λ_ _ z=>⟨z.1,z.2.dg k⟩⟩
 |fK ts=>obtain⟨o,vs,q,r⟩:=h;exact⟨o,vs,e.trans q,Paired.mapP r λ_ _ z=>⟨z.1,z.2.dg k⟩⟩
 |dT ts=>obtain⟨vs,q,r⟩:=h;exact⟨vs,e.trans q,Paired.mapP r λ_ _ z=>⟨z.1,z.2.dg k⟩⟩
 |fT ts=>obtain⟨o,vs,q,r⟩:=h;exact⟨o,vs,e.trans q,Paired.mapP r λ_ _ z=>⟨z.1,z.2.dg k⟩⟩
 |ins c dx fs=>obtain⟨vs,q,r⟩:=h;exact⟨vs,e.trans q,Paired.mapP r λ_ _ z=>⟨z.1,z.2.dg k⟩⟩
def dj.new(h:dj K H C)(q:H p=none)o:dj K (upd H p o) C:=λa u c=>oX ((h a u c).mut) λv e _=>(h a u c).dg (iu.new q o) (pX (wK e q))
def Fw.new(q:H p=none)o:Fw H C (upd H p o) C:=λa c n=>⟨rfl,pX λz=>n (z▸q)⟩
def dj.lay(h:dj K H C)(q:H p=none)(r:o8 K (upd H p o) p u):dj K (upd H p o) (cQ C p u):=λa v c=>by
 by_cases e:a=p
 .subst e;rw[zQ] at c;cases c;exact r
 .rw[yQ e] at c;exact h.new q o a v c
def Fw.lay(q:H p=none)o u:Fw H C (upd H p o) (cQ C p u):=λa c n=>by
 have e:a≠p:=λz=>n (z▸q);exact⟨yQ e,pX e⟩
def dj.put(h:dj K H C)(q:H p=some B)(hi:dg B=false)(r:o8 K (upd H p o) p u):dj K (upd H p o) (cQ C p u):=λa v c=>by
 by_cases e:a=p
 .subst e;rw[zQ] at c;cases c;exact r
 .rw[yQ e] at c;exact(h a v c).dg (iu.mut q hi o) (pX e)
def Fw.put(q:C p=some B)o u(hs:still (some B)=false:=by rfl):Fw H C (upd H p o) (cQ C p u):=λa c n=>by
 have e:a≠p:=λz=>by subst z;rw[q,hs] at c;cases c
 exact⟨yQ e,pX e⟩
end
abbrev iT:=List (Option PV)
abbrev K1:=PV->CH->Prop
def uf(K:DQ)(H:Hp):Option V->Option PV->Prop
 |_,none=>True
 |some v,some t=>Rep K H v t
 |none,some _=>False
def fu(K:DQ)(H:Hp):St->iT->Prop:=Paired (uf K H)
section
variable{K:DQ}{H H':Hp}{C C':CH}
def uf.dg(k:iu H H')(h:uf K H v t):uf K H' v t:=by
 cases t with
 |none=>cases v<;>trivial
 |some t=>cases v with
  |none=>exact h
  |some v=>exact Rep.dg k h
def fu.dg(s:fu K H σ ρ)(k:iu H H'):fu K H' σ ρ:=Paired.mapP s λ_ _=>uf.dg k
def fu.get{i:Nat}(s:fu K H σ ρ)(e:ρ[i]?=some (some t)):∃v,σ[i]?=some (some v)/\Rep K H v t:=by
 induction s generalizing i with
 |nil=>cases e
 |@cons a b B J h r q =>
  cases i with
  |zero =>
   cases e
   cases a with
   |none=>exact h.elim
   |some v=>exact⟨v,rfl,h⟩
  |succ i=>exact q e
def fu.set(s:fu K H σ ρ)(h:Rep K H v t)i:fu K H (σ.set i (some v)) (ρ.set i (some t)):=by
 induction s generalizing i with
 |nil=>exact .nil
 |cons h' r q =>
  cases i with
  |zero=>exact .cons h r
  |succ i=>exact .cons h' (q i)
end
def yK{q β:Type}(K:DQ)(B:Hp->q->β->Prop)(c:iT->CH->(β->CH->Prop)->Prop):St->Hp->(q->Hp->Prop)->Prop:=λσ H Q=>
 ∃ρ C R,fu K H σ ρ/\dj K H C/\c ρ C R/\∀v H' t C',R t C'->B H' v t->dj K H' C'->Fw H C H' C'->Q v H'
abbrev f9:=iT->CH->K1->Prop
abbrev jz:=iT->CH->(Bool->CH->Prop)->Prop
abbrev o9:=iT->CH->(List PV->CH->Prop)->Prop
abbrev sP:Hp->Bool->Bool->Prop:=λ_ a b=>a=b
structure di where
 nx:iT->CH->Prop
 rt:K1
 bk:iT->CH->Prop:=λ_ _=>False
 ct:iT->CH->Prop:=λ_ _=>False
abbrev di.wn(E:di)(k:iT->CH->Prop):di:={ E with nx:=k }
abbrev di.lp(E:di)(k:iT->CH->Prop):di:={ nx:=k,ct:=k,bk:=E.nx,rt:=E.rt }
abbrev di.go(R:K1):di:={ nx:=λ_ C'=>R .non C',rt:=R }
abbrev ji:=di->iT->CH->Prop
structure qy(K:DQ)(H:Hp)(C:CH)(E:di)(D:Ends):Prop where
 nx:∀σ' H' ρ' C',E.nx ρ' C'->fu K H' σ' ρ'->dj K H' C'->Fw H C H' C'->D.nx σ' H'
 rt:∀v H' t C',E.rt t C'->Rep K H' v t->dj K H' C'->Fw H C H' C'->D.rt v H'
 bk:∀σ' H' ρ' C',E.bk ρ' C'->fu K H' σ' ρ'->dj K H' C'->Fw H C H' C'->D.bk σ' H'
 ct:∀σ' H' ρ' C',E.ct ρ' C'->fu K H' σ' ρ'->dj K H' C'->Fw H C H' C'->D.ct σ' H'
def qy.fw{K}(e:qy K H C E D)(f:Fw H C H1 C1):qy K H1 C1 E D:=
 ⟨λB H' q C' h s r g=>e.nx B H' q C' h s r (f.trans g),λv H' t C' h s r g=>e.rt v H' t C' h s r (f.trans g),λB H' q C' h s r g=>e.bk B H' q C' h s r (f.trans g),λB H' q C' h s r g=>e.ct B H' q C' h s r (f.trans g)⟩
def sO(K:DQ)(c:ji):TS:=λD σ H=>∃ρ C E,fu K H σ ρ/\dj K H C/\c E ρ C/\qy K H C E D
structure CE(X:Cx)(e:Expr)(c:f9):Prop where
 h:JE X e (yK X.K (Rep X.K) c)
structure CT(X:Cx)(e:Expr)(c:jz):Prop where
 h:JT X e (yK X.K sP c)
structure CW(X:Cx)(e:Expr)(c:jz):Prop where
 h:JW X e (yK X.K sP c)
structure CA(X:Cx)(es:List Expr)(c:o9):Prop where
 h:JA X es (yK X.K (du X.K) c)
structure CS(X:Cx)(st:Stmt)(c:ji):Prop where
 h:JS X st (sO X.K c)
structure CB(X:Cx)(st:List Stmt)(c:ji):Prop where
 h:JB X st (sO X.K c)
section
variable{X:Cx}{a b c e o i:Expr}{es:List Expr}{pos:Pos}{dX:List Expr}{st:Stmt}{sts:List Stmt}
def JE.weak(h:JE X e t)(w:∀σ H Q,t' σ H Q->t σ H Q):JE X e t':=⟨λww s σ H Q I q=>h.h ww s σ H Q I (w σ H Q q)⟩
def JT.weak(h:JT X e t)(w:∀σ H Q,t' σ H Q->t σ H Q):JT X e t':=⟨λww s σ H Q I q=>h.h ww s σ H Q I (w σ H Q q)⟩
def JW.weak(h:JW X e t)(w:∀σ H Q,t' σ H Q->t σ H Q):JW X e t':=⟨λB ww s σ H Q I q=>h.h B ww s σ H Q I (w σ H Q q)⟩
def JA.weak(h:JA X es t)(w:∀σ H Q,t' σ H Q->t σ H Q):JA X es t':=⟨λp ww s σ H Q I q=>h.h p ww s σ H Q I (w σ H Q q)⟩
def JS.weak(h:JS X st t)(w:∀D σ H,t' D σ H->t D σ H):JS X st t':=⟨λww s σ H D I q=>h.h ww s σ H D I (w D σ H q)⟩
def JB.weak(h:JB X sts t)(w:∀D σ H,t' D σ H->t D σ H):JB X sts t':=⟨λww s σ H D I q=>h.h ww s σ H D I (w D σ H q)⟩
noncomputable def zK(i:Nat):f9:=λρ C Q=>match ρ[i]? with
 |some (some t)=>Q t C
 |_=>False
def cC(t:PV):f9:=λ_ C Q=>Q t C
def cv i(J:X.N[i]?=some x:=by rfl)(U:Vis X.env.scope x:=by first|exact Or.inl rfl|exact Or.inr (Or.inl rfl)|exact Or.inr (Or.inr rfl))(O:(x==("__debug__":Str))=false:=by decide)(L:(x==("__classdict__":Str))=false:=by decide):CE X (.Name x pos) (zK i):=⟨JE.weak ⟨qY J U O L⟩ λσ H Q Y=>yZ Y λρ C R s h q f=>by
 delta zK at q
 split at q
 .next t e =>
  exact oX (s.get e) λv B r=>⟨v,B,f v H t C q r h Fw.refl⟩
 .exact q.elim⟩
def K0(h:JE X e (tC v))(r:∀H,Rep X.K H v t):CE X e (cC t):=⟨JE.weak h λσ H Q B=>yZ B λρ C R s h q f=>f v H t C q (r H) h Fw.refl⟩
def jQ{i j pos}:CE X (.Constant (.int i) j pos) (cC (.int i)):=K0 ⟨Wi⟩ λ_=>.int i
def sX{b j pos}:CE X (.Constant (.bool b) j pos) (cC (.bl b)):=K0 ⟨pe_bl⟩ λ_=>.bl b
def jZ{j pos}:CE X (.Constant .none j pos) (cC .non):=K0 ⟨pe_non⟩ λ_=>.non
def wQ{x j pos}:CE X (.Constant (.str x) j pos) (cC (.str x)):=K0 ⟨We⟩ λ_=>.str x
def wZ(J:Gl X x)(L:X.mg x=some u)(r:RelV v u)(q:∀H,Rep X.K H v t)(B:(x==("__debug__":Str))=false:=by decide):CE X (.Name x pos) (cC t):=K0 ⟨pe_glob J L r B⟩ q
def oZ(B:Gl X x)(J:X.mg x=none)(O:bootBuiltins x=some (.type n))(L:x ≠ "__name__":=by decide)(q:(x==("__debug__":Str))=false:=by decide):CE X (.Name x pos) (cC (.ty n)):=K0 (yr (v:=.ty n) B J O rfl L q) λ_=>.ty n
abbrev kh:=PV->PV->CH->K1->Prop
def je(K:DQ)(r:R2)(J:kh):Prop:=∀x y q B H C Q R,Rep K H x q->Rep K H y B->dj K H C->J q B C R->(∀v H' t C',R t C'->Rep K H' v t->dj K H' C'->Fw H C H' C'->Q v H')->r x y H Q
def nj(B:kh)(ca q:f9):f9:=λρ C Q=>ca ρ C λx C1=>q ρ C1 λy C2=>B x y C2 Q
def nH{K}(U:je K r L){Q:VK}(h:yK K (Rep K) (nj L ca J) σ H Q):tOp r (yK K (Rep K) ca) (yK K (Rep K) J) σ H Q:=yZ h λρ C R s h aa f=>⟨ρ,C,_,s,h,aa,λx H1 Y C1 q1 rx h1 q=>⟨ρ,C1,_,s.dg (q.dg h),h1,q1,λy H2 Z C2 q2 ry h2 B=>
  U x y Y Z H2 C2 Q R (rx.dg (B.dg h1)) ry h2 q2 λv H' t C' q' r' h' O=>f v H' t C' q' r' h' (q.trans (B.trans O))⟩⟩
def uX(O:OpR X (binaryOp Y) r)(U:je X.K r B)(J:CE X a ca)(L:CE X b q):CE X (.BinOp a Y b pos) (nj B ca q):=⟨JE.weak ⟨pe_op O J.h.h L.h.h⟩ λ_ _ _ h=>nH U h⟩
def qJ(Y:OpR X (compareOp q) r)(Z:je X.K r J)(L:CE X a ca)(O:CE X b B)(U:behindInMarks q b=false):CE X (.Compare a [q] [b] pos) (nj J ca B):=⟨JE.weak ⟨pe_cmpR Y L.h.h O.h.h U⟩ λ_ _ _ h=>nH Z h⟩
def yL(k:Bool->CH->Prop):PV->CH->Prop
 |.bl b,C=>k b C
 |_,_=>False
def gE(c:f9):jz:=λρ C Q=>c ρ C (yL Q)
def zS{K}(q:yL Q t C)(r:Rep K H v t):∃b,t=.bl b/\v=.bl b/\Q b C:=by
 cases t with
 |bl b=>cases r;exact⟨b,rfl,rfl,q⟩
 |_=>exact q.elim
def Kz{K}{c}(h:yK K sP (gE c) σ H Q):VA (yK K (Rep K) c) σ H Q:=yZ h λρ C R s h q f=>⟨ρ,C,_,s,h,q,λx H1 U C1 J O h1 B=>by
  obtain⟨b,rfl,rfl,L⟩:=zS J O
  exact⟨b,rfl,f b H1 b C1 L rfl h1 B⟩⟩
def xJ(Z:OpR X (compareOp q) r)(aa:je X.K r J)(O:CE X a ca)(U:CE X b B)(Y:behindInMarks q b=false):CT X (.Compare a [q] [b] pos) (gE (nj J ca B)):=
 ⟨JT.weak ⟨pt_cmpR Z O.h.h U.h.h Y⟩ λσ H Q h=>by
  refine yZ h λρ C R s h ab f=>nH aa ⟨ρ,C,_,s,h,ab,λx H1 px C1 q1 rx h1 L=>?_⟩;obtain⟨b,rfl,rfl,q2⟩:=zS q1 rx
  exact⟨b,rfl,f b H1 b C1 q2 rfl h1 L⟩⟩
def zX{c}(h:CE X e c)(q:kL e=true:=by rfl):CT X e (gE c):=⟨JT.weak ⟨pt_val h.h.h (zC q)⟩ λ_ _ _ h=>Kz h⟩
def ZE(O U:kh)(ca J L:f9):f9:=λρ C Q=>ca ρ C λx C1=>J ρ C1 λy C2=>O x y C2 (yL λb q=>if b=true then L ρ q λz B=>U y z B Q else Q (.bl false) q)
def nC{K}(ae:je K r aa)(af:je K L ab){Q:VK}(h:yK K (Rep K) (ZE aa ab ca cb cc) σ H Q):XZ r L (yK K (Rep K) ca) (yK K (Rep K) cb) (yK K (Rep K) cc) σ H Q:=by
 refine yZ h λρ C R s h ag f=>⟨ρ,C,_,s,h,ag,λx H1 px C1 q1 rx h1 q=>⟨ρ,C1,_,s.dg (q.dg h),h1,q1,λy H2 Z C2 q2 ry h2 B=>
  ae x y px Z H2 C2 _ _ (rx.dg (B.dg h1)) ry h2 q2 λv H3 t O q3 r3 Y J=>by
   obtain⟨b,rfl,rfl,q4⟩:=zS q3 r3;refine⟨b,rfl,?_⟩
   cases b with
   |true =>
    exact⟨ρ,O,_,(s.dg (q.dg h)).dg ((B.trans J).dg h1),Y,q4,λz H4 pz C4 q5 rz h4 U=>af y z Z pz H4 C4 Q R (ry.dg ((J.trans U).dg h2)) rz h4 q5 λv H' t C' q' L h' f'=>f v H' t C' q' L h' (q.trans (B.trans (J.trans (U.trans f'))))⟩
   |false=>exact f _ H3 _ O q4 (.bl false) Y (q.trans (B.trans J))⟩⟩
def Xs(ho:OpR X (compareOp q) r)(ab:OpR X (compareOp B) r')(ae:je X.K r O)(af:je X.K r' U)(Y:CE X a ca)(Z:CE X b J)(hc:CE X c L)(aa:lastMarks [q,B] [b,c]=false:=by with_unfolding_all rfl):CE X (.Compare a [q,B] [b,c] pos) (ZE O U ca J L):=⟨JE.weak ⟨Wm ho ab Y.h.h Z.h.h hc.h.h aa⟩ λ_ _ _ h=>nC ae af h⟩
def gD(ho:OpR X (compareOp q) r)(ab:OpR X (compareOp B) r')(ae:je X.K r O)(af:je X.K r' U)(Z:CE X a ca)(hb:CE X b J)(hc:CE X c L)(aa:lastMarks [q,B] [b,c]=false:=by with_unfolding_all rfl):CT X (.Compare a [q,B] [b,c] pos) (gE (ZE O U ca J L)):=
 ⟨JT.weak ⟨VX ho ab Z.h.h hb.h.h hc.h.h aa⟩ λσ H Q h=>by
  refine yZ h λρ C R s h ag f=>nC ae af ⟨ρ,C,_,s,h,ag,λx H1 px C1 q1 rx h1 Y=>?_⟩;obtain⟨b,rfl,rfl,q2⟩:=zS q1 rx
  exact⟨b,rfl,f b H1 b C1 q2 rfl h1 Y⟩⟩
def cUn(q:PV->CH->K1->Prop)(ca:f9):f9:=λρ C Q=>ca ρ C λx C1=>q x C1 Q
def Y6(K:DQ)(r:V->Hp->VK->Prop)(B:PV->CH->K1->Prop):Prop:=∀x q H C Q R,Rep K H x q->dj K H C->B q C R->(∀v H' t C',R t C'->Rep K H' v t->dj K H' C'->Fw H C H' C'->Q v H')->r x H Q
def eW(O:UnR X (unaryOp Y) r)(U:Y6 X.K r q)(L:CE X a ca):CE X (.UnaryOp Y a pos) (cUn q ca):=⟨JE.weak ⟨pe_un O L.h.h⟩ λσ H Q zz=>yZ zz λρ C R s h aa f=>
 ⟨ρ,C,_,s,h,aa,λx H1 Z C1 q1 rx h1 J=>U x Z H1 C1 Q R rx h1 q1 λv H' t C' q' r' h' B=>f v H' t C' q' r' h' (J.trans B)⟩⟩
def TV(t u:jz):jz:=λρ C Q=>t ρ C λb C1=>if b=true then u ρ C1 Q else Q false C1
def cOr(t u:jz):jz:=λρ C Q=>t ρ C λb C1=>if b=true then Q true C1 else u ρ C1 Q
def Tr(t:jz):jz:=λρ C Q=>t ρ C λb C1=>Q (!b) C1
def dq(h:CW X e t):CT X e t:=⟨⟨h.h.h.pt⟩⟩
def gm(h:CT X a t):CW X (.BoolOp .And [a] pos) t:=⟨⟨pw_and1 h.h.h⟩⟩
def dm(h:CT X a t):CW X (.BoolOp .Or [a] pos) t:=⟨⟨pw_or1 h.h.h⟩⟩
def iw(O:CT X a t)(U:CW X (.BoolOp .And (b::dX) pos) u):CW X (.BoolOp .And (a::b::dX) pos) (TV t u):=⟨JW.weak ⟨pw_and O.h.h U.h.h⟩ λσ H Q zz=>yZ zz λρ C R s h q f=>
 ⟨ρ,C,_,s,h,q,λx H1 y C1 J e h1 B=>by
  cases e
  cases x with
  |true=>exact⟨ρ,C1,R,s.dg (B.dg h),h1,J,λv H' t C' Y Z h' L=>f v H' t C' Y Z h' (B.trans L)⟩
  |false=>exact f false H1 false C1 J rfl h1 B⟩⟩
def dN(O:CT X a t)(U:CW X (.BoolOp .Or (b::dX) pos) u):CW X (.BoolOp .Or (a::b::dX) pos) (cOr t u):=⟨JW.weak ⟨pw_or O.h.h U.h.h⟩ λσ H Q zz=>yZ zz λρ C R s h q f=>
 ⟨ρ,C,_,s,h,q,λx H1 y C1 J e h1 B=>by
  cases e
  cases x with
  |true=>exact f true H1 true C1 J rfl h1 B
  |false=>exact⟨ρ,C1,R,s.dg (B.dg h),h1,J,λv H' t C' Y Z h' L=>f v H' t C' Y Z h' (B.trans L)⟩⟩⟩
def vX(J:CT X a t):CT X (.UnaryOp .Not a pos) (Tr t):=⟨JT.weak ⟨pt_not J.h.h⟩ λσ H Q O=>yZ O λρ C R s h q f=>
 ⟨ρ,C,_,s,h,q,λx H1 y C1 L e h1 B=>by cases e;exact f _ H1 _ C1 L rfl h1 B⟩⟩
def Gm(ca q:f9):f9:=λρ C Q=>ca ρ C (yL λb C1=>if b=true then q ρ C1 Q else Q (.bl false) C1)
def Tq(ca q:f9):f9:=λρ C Q=>ca ρ C (yL λb C1=>if b=true then Q (.bl true) C1 else q ρ C1 Q)
def Rc(ca:f9):f9:=λρ C Q=>ca ρ C (yL λb C1=>Q (.bl (!b)) C1)
def pV{q}{c}(h:CE X a c):CE X (.BoolOp q [a] pos) c:=⟨⟨Wf h.h.h⟩⟩
def cV(U:CE X a ca)(Y:CE X (.BoolOp .And (b::dX) pos) L):CE X (.BoolOp .And (a::b::dX) pos) (Gm ca L):=⟨JE.weak ⟨Wq U.h.h Y.h.h⟩ λσ H Q zz=>yZ zz λρ C R s h q f=>
 ⟨ρ,C,_,s,h,q,λx H1 px C1 q1 rx h1 B=>by
  obtain⟨b,rfl,rfl,J⟩:=zS q1 rx;refine⟨b,rfl,?_⟩
  cases b with
  |true=>exact⟨ρ,C1,R,s.dg (B.dg h),h1,J,λv H' t C' Z r' h' O=>f v H' t C' Z r' h' (B.trans O)⟩
  |false=>exact f _ H1 _ C1 J (.bl false) h1 B⟩⟩
def JP{ca J:f9}(U:CE X a ca)(Y:CE X (.BoolOp .Or (b::dX) pos) J):CE X (.BoolOp .Or (a::b::dX) pos) (Tq ca J):=⟨JE.weak ⟨pe_or U.h.h Y.h.h⟩ λσ H Q zz=>yZ zz λρ C R s h q f=>
 ⟨ρ,C,_,s,h,q,λx H1 px C1 q1 rx h1 B=>by
  obtain⟨b,rfl,rfl,L⟩:=zS q1 rx;refine⟨b,rfl,?_⟩
  cases b with
  |true=>exact f _ H1 _ C1 L (.bl true) h1 B
  |false=>exact⟨ρ,C1,R,s.dg (B.dg h),h1,L,λv H' t C' Z r' h' O=>f v H' t C' Z r' h' (B.trans O)⟩⟩⟩
def YA{ca:f9}(J:CE X a ca):CE X (.UnaryOp .Not a pos) (Rc ca):=⟨JE.weak ⟨pe_not J.h.h⟩ λσ H Q Y=>yZ Y λρ C R s h q f=>
 ⟨ρ,C,_,s,h,q,λx H1 Z C1 L U h1 B=>by
  obtain⟨b,rfl,rfl,O⟩:=zS L U
  exact⟨b,rfl,f _ H1 _ C1 O (.bl _) h1 B⟩⟩⟩
def cIf(t:jz)(ca q:f9):f9:=λρ C Q=>t ρ C λb C1=>if b=true then ca ρ C1 Q else q ρ C1 Q
def lD(hc:CT X c t)(Y:CE X a ca)(Z:CE X b U):CE X (.IfExp c a b pos) (cIf t ca U):=⟨JE.weak ⟨Wj hc.h.h Y.h.h Z.h.h⟩ λσ H Q zz=>yZ zz λρ C R s h aa f=>
 ⟨ρ,C,_,s,h,aa,λx H1 y C1 O e h1 q=>by
  cases e
  cases x with
  |true=>exact⟨ρ,C1,R,s.dg (q.dg h),h1,O,λv H' t C' J L h' B=>f v H' t C' J L h' (q.trans B)⟩
  |false=>exact⟨ρ,C1,R,s.dg (q.dg h),h1,O,λv H' t C' J L h' B=>f v H' t C' J L h' (q.trans B)⟩⟩⟩
def gY:o9:=λ_ C Q=>Q [] C
def tJ(ca:f9)(q:o9):o9:=λρ C Q=>ca ρ C λx C1=>q ρ C1 λxs C2=>Q (x::xs) C2
def cX:CA X [] gY:=⟨JA.weak ⟨lU⟩ λσ H Q B=>yZ B λρ C R s h q f=>f [] H [] C q .nil h Fw.refl⟩
def qQ(O:CE X e ca)(U:CA X es L)(hs:noStar e=true:=by rfl):CA X (e::es) (tJ ca L):=⟨JA.weak (iA O.h U.h hs) λσ H Q zz=>yZ zz λρ C R s h q f=>
 ⟨ρ,C,_,s,h,q,λx H1 Y C1 Z rx h1 B=>⟨ρ,C1,_,s.dg (B.dg h),h1,Z,λxs H2 ps C2 q2 aa h2 J=>f (x::xs) H2 (Y::ps) C2 q2 (.cons (rx.dg (J.dg h1)) aa) h2 (B.trans J)⟩⟩⟩
def Rb(ca:o9):f9:=λρ C Q=>ca ρ C λxs C1=>xs.length<=sizeLine/\Q (.tup xs) C1
def Lz(ca:o9):f9:=λρ C Q=>ca ρ C λxs C1=>xs.length<=sizeLine/\∀p,C1 p=none->Q (.ref p) (cQ C1 p (.lst xs))
def dQ{U}(h:CA X es ca):CE X (.Tuple es U pos) (Rb ca):=⟨JE.weak ⟨Wc h.h.h⟩ λσ H Q Y=>yZ Y λρ C R s h q f=>
 ⟨ρ,C,_,s,h,q,λxs H1 ps C1 J L h1 O=>⟨by rw[L.len];exact J.1,λp B=>f (.ref p) _ (.tup ps) C1 J.2 (.tup iQ (L.dg (iu.new B _))) (h1.new B _) (O.trans (Fw.new B _))⟩⟩⟩
def oQ(h:CA X es ca):CE X (.List es pos) (Lz ca):=⟨JE.weak ⟨pe_lst h.h.h⟩ λσ H Q U=>yZ U λρ C R s h q f=>
 ⟨ρ,C,_,s,h,q,λxs H1 ps C1 J L h1 O=>⟨by rw[L.len];exact J.1,λp B=>f (.ref p) _ (.ref p) _ (J.2 p (h1.fresh B)) (.ref p) (h1.lay B ⟨xs,iQ,L.dg (iu.new B _)⟩) (O.trans (Fw.lay B _ _))⟩⟩⟩
def Ru:f9:=λ_ C Q=>∀p,C p=none->Q (.ref p) (cQ C p (.dK []))
def Dr:CE X (.Dict [] [] pos) Ru:=⟨JE.weak ⟨Wk⟩ λσ H Q J=>yZ J λρ C R s h q f=>λp B=>f (.ref p) _ (.ref p) _ (q p (h.fresh B)) (.ref p) (h.lay B ⟨[],iQ,.nil⟩) (Fw.lay B _ _)⟩
abbrev GC:=List PV->CH->K1->Prop
def qm(K:DQ)(G:GC):Sp:=λvs H Q _=>∃ts C R,du K H vs ts/\dj K H C/\G ts C R/\∀v H' t C',R t C'->Rep K H' v t->dj K H' C'->Fw H C H' C'->Q v H'
def kY(G:GC)(ca:o9):f9:=λρ C Q=>ca ρ C λxs C1=>G xs C1 Q
def Ds{p}(F:FnOk X.prog X.w X.K X.mg X.base CX k f fd ps (qm X.K G))(ab:Room k X.A)(Y:Gl X x)(aa:X.mg x=some (.ref f))(Z:PySem.W.keepIn X.K (.ref f)=true)(O:Binds X.K fd ps [])(hx:jV CX X E)(J:CA X (e::es) ca)(U:(x==("__debug__":Str))=false:=by decide)(hs:noStar e=true:=by rfl)(L:es.all noStar=true:=by rfl):CE X (.Call (.Name x p) (e::es) [] pos) (kY G ca):=
 ⟨JE.weak (yq F ab Y aa Z O .nil hx J.h U hs L) λσ H Q zz=>yZ zz λρ C R s h ae f=>
  ⟨ρ,C,_,s,h,ae,λxs H1 ts C1 q1 af h1 B=>⟨ts,C1,R,by rw[AM];exact af,h1,q1,λv H' t C' q' r' h' q=>f v H' t C' q' r' h' (B.trans q)⟩⟩⟩
def rm(K:DQ)(r:List V->Hp->VK->Prop)(q:GC):Prop:=∀xs ps H C Q R,du K H xs ps->dj K H C->q ps C R->(∀v H' t C',R t C'->Rep K H' v t->dj K H' C'->Fw H C H' C'->Q v H')->r xs H Q
def aQ{id}{p}(U:CallR X (.builtin id) r)(ab:rm X.K r q)(Z:Gl X x)(aa:X.mg x=none)(hv:bootBuiltins x=some (.builtin id))(L:CA X (e::es) ca)(hn:x ≠ "__name__":=by decide)(Y:(x==("__debug__":Str))=false:=by decide)(hs:noStar e=true:=by rfl)(O:es.all noStar=true:=by rfl):CE X (.Call (.Name x p) (e::es) [] pos) (kY q ca):=⟨JE.weak (QW U Z aa hv L.h hn Y hs O) λσ H Q zz=>yZ zz λρ C R s h ae f=>
  ⟨ρ,C,_,s,h,ae,λxs H1 ts C1 q1 af h1 J=>ab xs ts H1 C1 Q R af h1 q1 λv H' t C' q' r' h' B=>f v H' t C' q' r' h' (J.trans B)⟩⟩
def mK{p}(U:CallR X (.type T) r)(ab:rm X.K r q)(Z:Gl X x)(aa:X.mg x=none)(hv:bootBuiltins x=some (.type T))(L:CA X (e::es) ca)(hn:x ≠ "__name__":=by decide)(Y:(x==("__debug__":Str))=false:=by decide)(hs:noStar e=true:=by rfl)(O:es.all noStar=true:=by rfl):CE X (.Call (.Name x p) (e::es) [] pos) (kY q ca):=⟨JE.weak (oO U Z aa hv L.h hn Y hs O) λσ H Q zz=>yZ zz λρ C R s h ae f=>
  ⟨ρ,C,_,s,h,ae,λxs H1 ts C1 q1 af h1 J=>ab xs ts H1 C1 Q R af h1 q1 λv H' t C' q' r' h' B=>f v H' t C' q' r' h' (J.trans B)⟩⟩
def Gf(O:IxR X r)(U:je X.K r B)(J:CE X a ca)(L:CE X b q)(hs:jN b):CE X (.Subscript a b pos) (nj B ca q):=⟨JE.weak ⟨pe_ix O J.h.h L.h.h hs⟩ λ_ _ _ h=>nH U h⟩
def Gh:ji:=λE ρ C=>E.nx ρ C
def K9(t u:ji):ji:=λE ρ C=>t (E.wn (u E)) ρ C
def pQ:CB X [] Gh:=⟨JB.weak ⟨vA⟩ λD σ H B=>yZ B λρ C E s h q f=>f.nx σ H ρ C q s h Fw.refl⟩
def kQ(h:CS X st t):CB X [st] t:=⟨⟨cU h.h.h⟩⟩
def xQ(h1:CS X st t)(h2:CB X sts u):CB X (st::sts) (K9 t u):=⟨JB.weak ⟨gK h1.h.h h2.h.h⟩ λD σ H J=>yZ J λρ C E s h q f=>
 ⟨ρ,C,_,s,h,q,⟨λO H' L C' n s' h' B=>⟨L,C',E,s',h',n,f.fw B⟩,f.rt,f.bk,f.ct⟩⟩⟩
def J7(q:f9):ji:=λE ρ C=>q ρ C λ_ C1=>E.nx ρ C1
def kZ(L:CE X e J)(hs:swapsWith e none pos.line X.env=pure false:=by rfl):CS X (.Expr e pos) (J7 J):=⟨JS.weak ⟨Z5 L.h.h hs⟩ λD σ H U=>yZ U λρ C E s h q f=>
 ⟨ρ,C,_,s,h,q,λx H1 Y C1 O Z h1 B=>f.nx σ H1 ρ C1 O (s.dg (B.dg h)) h1 B⟩⟩
def Lx(q:f9):ji:=λE ρ C=>q ρ C E.rt
def uQ(L:CE X e B):CS X (.Return (some e) pos) (Lx B):=⟨JS.weak ⟨X4 L.h.h⟩ λD σ H Z=>yZ Z λρ C E s h q f=>
 ⟨ρ,C,_,s,h,q,λx H1 O C1 U Y h1 J=>f.rt x H1 O C1 U Y h1 J⟩⟩
def Tz(t:jz)(u v:ji):ji:=λE ρ C=>t ρ C λb C1=>if b=true then u E ρ C1 else v E ρ C1
def nQ(U:CT X c t)(L:CB X x u)(O:CB X y v):CS X (.If c x y pos) (Tz t u v):=⟨JS.weak ⟨V1 U.h.h L.h.h O.h.h⟩ λD σ H Y=>yZ Y λρ C E s h q f=>
 ⟨ρ,C,_,s,h,q,λx H1 y C1 J e h1 B=>by
  cases e
  cases x with
  |true=>exact⟨ρ,C1,E,s.dg (B.dg h),h1,J,f.fw B⟩
  |false=>exact⟨ρ,C1,E,s.dg (B.dg h),h1,J,f.fw B⟩⟩⟩
def iI(i:Nat)(q:f9):ji:=λE ρ C=>q ρ C λt C1=>E.nx (ρ.set i (some t)) C1
def Li{i}(L:X.N.Nodup)(hi:X.N[i]?=some x)(Y:Loc X.env.scope x)(O:CE X e J)(hs:swapsWith e (some (.Name x pos')) pos.line X.env=pure false:=by rfl)(U:X.fn x=true\/X.env.scope.names.lookup x=some .local:=by first|exact .inl rfl|exact .inr rfl|assumption):
  CS X (.Assign [.Name x pos'] e pos) (iI i J):=⟨JS.weak ⟨VZ L hi Y O.h.h hs U⟩ λD σ H zz=>yZ zz λρ C E s h q f=>
 ⟨ρ,C,_,s,h,q,λx H1 px C1 Z rx h1 B=>f.nx _ H1 _ C1 Z ((s.dg (B.dg h)).set rx i) h1 B⟩⟩
abbrev o6:=PV->iT->CH->(iT->CH->Prop)->Prop
abbrev Vh:=List PV->iT->CH->(iT->CH->Prop)->Prop
def Zg(K:DQ)(c:o6):TG:=λv σ H Q=>∃t ρ C R,Rep K H v t/\fu K H σ ρ/\dj K H C/\c t ρ C R/\∀B H' q C',R q C'->fu K H' B q->dj K H' C'->Fw H C H' C'->Q B H'
def HN(K:DQ)(c:Vh):TGs:=λv σ H Q=>∃t ρ C R,du K H v t/\fu K H σ ρ/\dj K H C/\c t ρ C R/\∀B H' q C',R q C'->fu K H' B q->dj K H' C'->Fw H C H' C'->Q B H'
structure CG(X:Cx)(e:Expr)(c:o6):Prop where
 h:JG X e (Zg X.K c)
structure Sq(X:Cx)(es:List Expr)(c:Vh):Prop where
 h:MF X es (HN X.K c)
def JG.weak(h:JG X e t)(w:∀v σ H Q,t' v σ H Q->t v σ H Q):JG X e t':=⟨λww s σ H v u Q I r q=>h.h ww s σ H v u Q I r (w v σ H Q q)⟩
def MF.weak(h:MF X es t)(w:∀v σ H Q,t' v σ H Q->t v σ H Q):MF X es t':=⟨λww s σ H v u Q I r q=>h.h ww s σ H v u Q I r (w v σ H Q q)⟩
def Jz(i:Nat):o6:=λt ρ C Q=>Q (ρ.set i (some t)) C
def Lh:Vh:=λts ρ C Q=>match ts with
 |[]=>Q ρ C
 |_=>False
noncomputable def Yq(g:o6)(u:Vh):Vh:=λts ρ C Q=>match ts with
 |t::r=>g t ρ C λq C'=>u r q C' Q
 |[]=>False
noncomputable def dTup(n:Nat)(u:Vh):o6:=λt ρ C Q=>match t with
 |.tup ts=>ts.length=n/\u ts ρ C Q
 |_=>False
def Dn{i}(B:X.N.Nodup)(hi:X.N[i]?=some x)(L:Loc X.env.scope x)(J:X.fn x=true\/X.env.scope.names.lookup x=some .local:=by first|exact .inl rfl|exact .inr rfl|assumption):CG X (.Name x pos) (Jz i):=
 ⟨JG.weak ⟨jD B hi L J⟩ λv σ H Q O=>Yj O λt ρ C R r s h q f=>f _ H _ C q (s.set r i) h Fw.refl⟩
def aH:Sq X [] Lh:=⟨MF.weak ⟨Z6⟩ λvs σ H Q B=>Yj B λts ρ C R r s h q f=>by
 cases r with
 |nil=>exact⟨rfl,f σ H ρ C q s h Fw.refl⟩
 |cons _ _=>exact q.elim⟩
def pJ(h1:CG X e g)(h2:Sq X es u)(hs:(assignEach (e::es) X.env).map (·.2)=assign e X.env::(assignEach es X.env).map (·.2):=by rfl):Sq X (e::es) (Yq g u):=⟨MF.weak ⟨xC h1.h.h h2.h.h hs⟩ λvs σ H Q Z=>Yj Z λts ρ C R r s h q f=>by
 cases r with
 |nil=>exact q.elim
 |@cons v t vs ts U r =>
  exact⟨v,vs,rfl,t,ρ,C,_,U,s,h,q,λaf H' aa C' L s' h' B=>⟨ts,aa,C',R,r.dg (B.dg h),s',h',L,λae H2 ab C2 O Y h2 J=>f ae H2 ab C2 O Y h2 (B.trans J)⟩⟩⟩
def oI{k}(B:X.calm=true)(h:Sq X es u)(J:(assignEach es X.env).length=n:=by rfl)(L:(assignEach es X.env).findIdx? (·.1)=none:=by rfl):CG X (.Tuple es k pos) (dTup n u):=⟨JG.weak ⟨V8 B h.h.h J L⟩ λv σ H Q Y=>Yj Y λt ρ C R r s h q f=>by
 cases r with
 |@tup a vs ts e r =>
  obtain⟨O,U⟩:=q;exact⟨a,vs,rfl,SqT.of e,by exact r.len▸O,ts,ρ,C,R,r,s,h,U,f⟩
 |_=>exact q.elim⟩
def TQ(q:f9)(g:o6):ji:=λE ρ C=>q ρ C λt C1=>g t ρ C1 E.nx
def mF(O:CE X e J)(U:CG X tg g)(hs:swapsWithSole [tg] e pos.line X.env=pure false:=by rfl)(Y:swappedStores [tg] e X.env=pure none:=by rfl)(h1:(assignEach [tg] X.env).map (·.2)=[assign tg X.env]:=by rfl):CS X (.Assign [tg] e pos) (TQ J g):=⟨JS.weak ⟨ps_asg O.h.h U.h.h hs Y h1⟩ λD σ H zz=>yZ zz λρ C E s h q f=>
 ⟨ρ,C,_,s,h,q,λx H1 Z C1 q1 rx h1 B=>⟨Z,ρ,C1,E.nx,rx,s.dg (B.dg h),h1,q1,λab H' aa C' q' s' h' L=>f.nx ab H' aa C' q' s' h' (B.trans L)⟩⟩⟩
@[irreducible] def JX:PV->PV->PV->CH->(CH->Prop)->Prop:=λo i v C Q=>match o,i with
 |.ref p,.int k=>match C p with
  |some (.lst xs)=>match ixN xs.length k with
   |some j=>Q (cQ C p (.lst (xs.set j v)))
   |none=>False
  |_=>False
 |_,_=>False
def Tj(co B:f9)(u:PV->PV->PV->CH->(CH->Prop)->Prop):o6:=λt ρ C Q=>co ρ C λo C1=>B ρ C1 λi C2=>u o i t C2 λq=>Q ρ q
def cD{co Y:f9}(ho:CE X o co)(hi:CE X i Y)(ha:∀v,assign (.Subscript o i pos) X.env v=(do
   let O <- holding [v] (eval o X.env)
   let U <- holding [v,O] (eval i X.env)
   standAt pos
   holding [v,O,U] (setItem O U v)
   release [v,O,U] []):=by intro _;rfl):CG X (.Subscript o i pos) (Tj co Y JX):=⟨JG.weak ⟨pg_sub ho.h.h hi.h.h VJ ha⟩ λv σ H Q zz=>Yj zz λt ρ C R r s h aa f=>
 ⟨ρ,C,_,s,h,aa,λx H1 px C1 q1 rx h1 J=>⟨ρ,C1,_,s.dg (J.dg h),h1,q1,λy H2 af C2 q ry h2 L=>by
  have r2:=r.dg ((J.trans L).dg h);have ae:=s.dg ((J.trans L).dg h);unfold JX at q
  split at q
  .next p k =>
   split at q
   .next xs e =>
    split at q
    .next j ej =>
     obtain⟨vs,B,Z⟩:=h2 p _ e;have ab:=rx.dg (L.dg h1);cases ab;cases ry;refine⟨p,vs,k,j,rfl,rfl,B,by rw[Z.len];exact ej,?_⟩;exact f σ _ ρ _ q (ae.dg (iu.mut B rfl _)) (h2.put B rfl ⟨_,iQ,(Z.set r2 j).dg (iu.mut B rfl _)⟩) (J.trans (L.trans (Fw.put e _ _)))
    .exact q.elim
   .exact q.elim
  .exact q.elim⟩⟩⟩
def K8(t:jz)(u:ji)(E:di):Nat->iT->CH->Prop
 |0,_,_=>False
 |n+1,ρ,C=>t ρ C λb C1=>if b=true then u (E.lp (K8 t u E n)) ρ C1 else E.nx ρ C1
def Lr(t:jz)(u:ji):ji:=λE ρ C=>∃n,K8 t u E n ρ C
def lY(hp:PassesOwn (model X.prog X.w) X.A X.env X.xe)(hc:CT X c t)(hb:CB X aa u):CS X (.While c aa [] pos) (Lr t u):=⟨JS.weak ⟨VY hp hc.h.h hb.h.h⟩ λD σ H ⟨ρ,C,E,s,h,⟨n,ab⟩,f⟩=>by
 refine⟨λm B H'=>∃q C',fu X.K H' B q/\dj X.K H' C'/\Fw H C H' C'/\K8 t u E m q C',⟨n,ρ,C,s,h,Fw.refl,ab⟩,?_⟩;rintro m ae H1 ⟨Y,C1,s1,h1,U,Z⟩
 cases m with
 |zero=>exact Z.elim
 |succ m =>
  refine⟨Y,C1,_,s1,h1,Z,λb H2 b' C2 q2 e h2 L=>?_⟩;cases e
  cases b with
  |true =>
   exact(A4 rfl)▸⟨λB H'=>∃q C',fu X.K H' B q/\dj X.K H' C'/\Fw H C H' C'/\K8 t u E m q C',λB H' z=>⟨m,A3 m,z⟩,
    Y,C2,_,s1.dg (L.dg h1),h2,q2,⟨λB H' q C' O s' h' J=>⟨q,C',s',h',U.trans (L.trans J),O⟩,λv H' t C' O r' h' J=>f.rt v H' t C' O r' h' (U.trans (L.trans J)),
     λB H' q C' O s' h' J=>f.nx B H' q C' O s' h' (U.trans (L.trans J)),λB H' q C' O s' h' J=>⟨q,C',s',h',U.trans (L.trans J),O⟩⟩⟩
  |false =>
   exact(A7 AV)▸f.nx ae H2 Y C2 q2 (s1.dg (L.dg h1)) h2 (U.trans L)⟩
def zW(g:o6)(u:ji)(E:di):List PV->iT->CH->Prop
 |[],ρ,C=>E.nx ρ C
 |x::r,ρ,C=>g x ρ C λq C1=>u (E.lp (zW g u E r)) q C1
structure ZI(K:DQ)(H:Hp)(J:It)(ps:List PV):Prop where
 go:∀i H',i<ps.length->iu H H'->J.go i H'
 yl:∀i H' x H'',iu H H'->J.yld i H' x H''->H''=H'/\∀t,ps[i]?=some t->Rep K H' x t
 st:∀H',iu H H'->J.stop ps.length H'
def fH{K}(j:ZI K H af ps)(s:fu K H σ ρ)(h:dj K H C)(ai:zW g u E ps ρ C)(f:qy K H C E D):
  ∃W:Nat->Nat->St->Hp->Prop,(∃m,W 0 m σ H)/\∀i m σ H,W i m σ H ->
   (af.stop i H/\D.nx σ H)\/(af.go i H/\∃N,(∀q H',N q H'->∃m',m'<m/\W (i+1) m' q H')/\∀x H',af.yld i H x H'->Zg K g x σ H' λak H2=>sO K u { D with nx:=N,ct:=N,bk:=D.nx } ak H2):=by
 refine⟨λi m q H'=>m=ps.length-i/\i<=ps.length/\∃U C',fu K H' q U/\dj K H' C'/\Fw H C H' C'/\zW g u E (ps.drop i) U C',⟨ps.length,rfl,AF _,ρ,C,s,h,Fw.refl,ai⟩,?_⟩;rintro i m aj H1 ⟨rfl,hi,ah,C1,s1,h1,Y,q1⟩;have k1:=Y.dg h
 by_cases ae:i<ps.length
 .refine .inr ⟨j.go i H1 ae k1,λq H'=>∃U C',fu K H' q U/\dj K H' C'/\Fw H C H' C'/\zW g u E (ps.drop (i+1)) U C',λq H' z=>⟨ps.length-(i+1),by omega,rfl,ae,z⟩,λx H2 y=>?_⟩
  obtain⟨rfl,y⟩:=j.yl i H1 x H2 k1 y;rw[Az ae] at q1
  exact⟨ps[i],ah,C1,_,y _ (AJ ae),s1,h1,q1,λq H' U C' q' s' h' f'=>⟨U,C',_,s',h',q',⟨λag Z ab B O aa L J=>⟨ab,B,aa,L,Y.trans (f'.trans J),O⟩,λv Z t B O r3 L J=>f.rt v Z t B O r3 L (Y.trans (f'.trans J)),
   λag Z ab B O aa L J=>f.nx ag Z ab B O aa L (Y.trans (f'.trans J)),λag Z ab B O aa L J=>⟨ab,B,aa,L,Y.trans (f'.trans J),O⟩⟩⟩⟩
 .have e:i=ps.length:=by lia
  subst e;rw[Ca] at q1;exact .inl ⟨j.st H1 k1,f.nx aj H1 ah C1 q1 s1 h1 Y⟩
def zI{K}{a}(h:SqT K H a vs)(r:du K H vs ts):ZI K H (Itt K a) ts where
 go:=λi H' l k=>⟨vs,vs[i]'(by rwa[r.len]),SqT.dg h k,AJ _⟩
 yl:=λi H' x J k y=>⟨y.1,λt e=>by
  obtain⟨v,q,B⟩:=((r.dg k).get e);have:=y.2 vs (SqT.dg h k)
  rw[q] at this;cases this;exact B⟩
 st:=λH' k=>⟨vs,SqT.dg h k,by exact r.len▸AQ _⟩
def O2{K}{a}(h:Fz K H a vs)(r:du K H vs ts):ZI K H (Itl K a) ts where
 go:=λi H' l k=>⟨vs,vs[i]'(by rwa[r.len]),(h.dg k).sq,AJ _⟩
 yl:=λi H' x J k y=>⟨y.1,λt e=>by
  obtain⟨v,q,B⟩:=((r.dg k).get e);have:=y.2 vs (h.dg k).sq
  rw[q] at this;cases this;exact B⟩
 st:=λH' k=>⟨vs,(h.dg k).sq,by exact r.len▸AQ _⟩
def WX{K}:ZI K H (Itr 0 n) ((List.range n).map λk=>PV.int (k:Nat)) where
 go:=λi H' l k=>by rwa[AA,Ax] at l
 yl:=λi H' x q k y=>⟨y.1,λt e=>by
  rw[y.2];rw[Ag] at e
  cases z:(List.range n)[i]? with
  |none=>rw[z] at e;cases e
  |some w =>
   rw[z] at e;cases e;have:=Aa.mp z;obtain⟨l,e⟩:=this;rw[List.getElem_range] at e;subst e;rw[Int.zero_add]
   exact .int _⟩
 st:=λH' k=>by rw[AA,Ax];exact AQ _
@[irreducible] def bE(q:f9)(g:o6)(u:ji):ji:=λE ρ C=>q ρ C λt C1=>match t with
 |.tup xs=>zW g u E xs ρ C1
 |.kt xs=>zW g u E xs ρ C1
 |_=>False
def mV{tg J:Expr}{O:List Stmt}{U:f9}{g:o6}{u:ji}(hp:PassesOwn (model X.prog X.w) X.A X.env X.xe)(Z:X.calm=true)(hi:CE X J U)(aa:CG X tg g)(Y:CB X O u)(hs:∀x,foldedSetIterable J X.env x=pure x:=by intro _;rfl):CS X (.For tg J O [] pos) (bE U g u):=⟨JS.weak ⟨qC hp Z (V7 hi.h.h) aa.h.h Y.h.h hs⟩ λD σ H zz=>yZ zz λρ C E s h q f=>by
 unfold bE at q
 exact⟨ρ,C,_,s,h,q,λx H1 px C1 L rx h1 B=>by
  cases rx with
  |@tup a vs ts e r=>exact⟨a,rfl,⟨vs,SqT.of e⟩,fH (zI (SqT.of e) r) (s.dg (B.dg h)) h1 L (f.fw B)⟩
  |@kt a vs ts e r=>exact⟨a,rfl,⟨vs,e⟩,fH (zI e r) (s.dg (B.dg h)) h1 L (f.fw B)⟩
  |_=>exact L.elim⟩⟩
noncomputable def Rn(ca:o9)(g:o6)(u:ji):ji:=λE ρ C=>ca ρ C λts C1=>match ts with
 |[.int j]=>-(2 ^ 62)<=j/\j<2 ^ 62/\zW g u E ((List.range j.toNat).map λk=>PV.int (k:Nat)) ρ C1
 |_=>False
def bD{tg:Expr}{B:List Stmt}{ca:o9}{g:o6}{u:ji}{p L:Pos}(hp:PassesOwn (model X.prog X.w) X.A X.env X.xe)(Y:X.calm=true)(aa:Gl X "range")(ab:X.mg "range"=none)(O:CA X [a] ca)(Z:CG X tg g)(U:CB X B u)(ae:noStar a=true:=by rfl)(hs:∀x,foldedSetIterable (.Call (.Name "range" p) [a] [] L) X.env x=pure x:=by intro _;rfl):CS X (.For tg (.Call (.Name "range" p) [a] [] L) B [] pos) (Rn ca g u):=⟨JS.weak ⟨qC hp Y (dO aa ab O.h.h (wJ ae)) Z.h.h U.h.h hs⟩ λD σ H zz=>yZ zz λρ C E s h af f=>
 ⟨ρ,C,_,s,h,af,λxs H1 ts C1 q ag h1 J=>by
  split at q
  .next j =>
   cases ag with
   |cons r0 r =>
    cases r;cases r0;exact⟨j,rfl,q.1,q.2.1,fH WX (s.dg (J.dg h)) h1 q.2.2 (f.fw J)⟩
  .exact q.elim⟩⟩
noncomputable def cM(a:Addr)(g:o6)(u:ji)(E:di):Nat->Nat->iT->CH->Prop
 |0,_,_,_=>False
 |n+1,i,ρ,C=>match C a with
  |some (.lst xs)=>match xs[i]? with
   |some x=>g x ρ C λq C1=>u (E.lp (cM a g u E n (i+1))) q C1
   |none=>E.nx ρ C
  |_=>False
def Ro(q:f9)(g:o6)(u:ji):ji:=λE ρ C=>q ρ C λt C1=>match t with
 |.ref a=>∃n,cM a g u E n 0 ρ C1
 |.fz xs=>zW g u E xs ρ C1
 |_=>False
def JC{tg ai:Expr}{ak:List Stmt}{ao:f9}{g:o6}{u:ji}(hp:PassesOwn (model X.prog X.w) X.A X.env X.xe)(hc:X.calm=true)(hi:CE X ai ao)(av:CG X tg g)(hb:CB X ak u)(hs:∀x,foldedSetIterable ai X.env x=pure x:=by intro _;rfl):CS X (.For tg ai ak [] pos) (Ro ao g u):=⟨JS.weak ⟨qC hp hc (wA hi.h.h) av.h.h hb.h.h hs⟩ λD σ H zz=>yZ zz λρ C E s h aw f=>
 ⟨ρ,C,_,s,h,aw,λx H1 px C1 q rx h1 aa=>by
  cases rx with
  |@fz a vs ts e r=>exact⟨a,rfl,⟨vs,e.sq⟩,fH (O2 e r) (s.dg (aa.dg h)) h1 q (f.fw aa)⟩
  |ref a =>
   obtain⟨n,q⟩:=q
   have ex:∃ys,SqL X.K H1 a ys:=by
    cases n with
    |zero=>exact q.elim
    |succ n =>
     unfold cM at q
     split at q
     .next xs e=>obtain⟨vs,ab,_⟩:=h1 a _ e;exact⟨vs,SqL.of ab⟩
     .exact q.elim
   refine⟨a,rfl,ex,λi m ah H'=>∃Y C',fu X.K H' ah Y/\dj X.K H' C'/\Fw H1 C1 H' C'/\cM a g u E m i Y C',⟨n,ρ,C1,s.dg (aa.dg h),h1,Fw.refl,q⟩,?_⟩;rintro i m ax H2 ⟨au,C2,ar,h2,ae,O⟩
   cases m with
   |zero=>exact O.elim
   |succ m =>
    unfold cM at O
    split at O
    .next xs e =>
     obtain⟨vs,ab,rv⟩:=h2 a _ e
     split at O
     .next x ex =>
      obtain⟨v,aq,rx⟩:=rv.get ex;refine .inr ⟨⟨vs,v,SqL.of ab,aq⟩,λah H'=>∃Y C',fu X.K H' ah Y/\dj X.K H' C'/\Fw H1 C1 H' C'/\cM a g u E m (i+1) Y C',λah H' z=>⟨m,A3 m,z⟩,λy Z hy=>?_⟩;obtain⟨rfl,hy⟩:=hy;have:=hy vs (SqL.of ab);rw[aq] at this;cases this
      exact⟨x,au,C2,_,rx,ar,h2,O,λah H' Y C' q' s' h' f'=>⟨Y,C',_,s',h',q',⟨λaj Z ag B U af L J=>⟨ag,B,af,L,ae.trans (f'.trans J),U⟩,λv Z t B U r3 L J=>f.rt v Z t B U r3 L (aa.trans (ae.trans (f'.trans J))),
       λaj Z ag B U af L J=>f.nx aj Z ag B U af L (aa.trans (ae.trans (f'.trans J))),λaj Z ag B U af L J=>⟨ag,B,af,L,ae.trans (f'.trans J),U⟩⟩⟩⟩
     .next ex =>
      refine .inl ⟨⟨vs,SqL.of ab,?_⟩,f.nx ax H2 au C2 O ar h2 (aa.trans ae)⟩;rw[rv.len];exact List.getElem?_eq_none_iff.mp ex
    .exact O.elim
  |_=>exact q.elim⟩⟩
def rJ(t:jz)(c:f9)(ρ:iT)(Q:K1):List PV->List PV->CH->Prop
 |[],q,C=>∀p,C p=none->Q (.ref p) (cQ C p (.lst q))
 |x::r,q,C=>t (some x::ρ) C λb C1=>if b=true then c (some x::ρ) C1 λy C2=>q.length<sizeLine/\rJ t c ρ Q r (q++[y]) C2 else rJ t c ρ Q r q C1
structure CF(X:Cx)(ifs:List Expr)(c:jz):Prop where
 h:JF X ifs (yK X.K sP c)
def aU:jz:=λ_ C Q=>Q true C
def JF.weak(h:JF X B t)(w:∀σ H Q,t' σ H Q->t σ H Q):JF X B t':=⟨λww s σ H Q I q=>h.h ww s σ H Q I (w σ H Q q)⟩
def fZ:CF X [] aU:=⟨JF.weak ⟨V5⟩ λσ H Q B=>yZ B λρ C R s h q f=>f true H true C q rfl h Fw.refl⟩
def Zz(h:CT X c t):CF X [c] t:=⟨⟨V4 h.h.h⟩⟩
def Dl{K}{c}{Q:VK}(j:ZI K H ab ps)(s:fu K H σ ρ)(h:dj K H C)(ah:rJ t c ρ R ps [] C)(h0:dj K H0 C0)(f0:Fw H0 C0 H C)(f:∀v H' p C',R p C'->Rep K H' v p->dj K H' C'->Fw H0 C0 H' C'->Q v H')(B:H D=none):
  ∃W:Nat->Nat->List V->Hp->Prop,(∃m,W 0 m [] (upd H D (.lst [])))/\∀i m ys H,W i m ys H ->
   (ab.stop i H/\Q (.ref D) H)\/(ab.go i H/\∀x H',ab.yld i H x H'->yK K sP t (some x::σ) H' λb H2=>
    if b=true then yK K (Rep K) c (some x::σ) H2 λy H3=>H3 D=some (.lst ys)/\ys.length<sizeLine/\∃O,O<m/\W (i+1) O (ys++[y]) (upd H3 D (.lst (ys++[y])))
    else ∃O,O<m/\W (i+1) O ys H2):=by
 refine⟨λi m ys H'=>m=ps.length-i/\i<=ps.length/\∃q C',H' D=some (.lst ys)/\C' D=none/\du K H' ys q/\dj K H' C'/\Fw H C H' C'/\rJ t c ρ R (ps.drop i) q C',
  ⟨ps.length,rfl,AF _,[],C,iQ,h.fresh B,.nil,h.new B _,Fw.new B _,ah⟩,?_⟩
 rintro i m ys H1 ⟨rfl,hi,q,C1,e1,n1,r1,h1,U,q1⟩;have L:=U.dg h
 by_cases J:i<ps.length
 .refine .inr ⟨j.go i H1 J L,λx H2 y=>?_⟩
  obtain⟨rfl,y⟩:=j.yl i H1 x H2 L y;have rx:=y _ (AJ J);rw[Az J] at q1;refine⟨some ps[i]::ρ,C1,_,.cons rx (s.dg L),h1,q1,λb H3 b' C3 q3 e h3 Y=>?_⟩;cases e;obtain⟨n3,e3⟩:=Y D (by rw[n1];rfl) ir;rw[e1] at e3;rw[n1] at n3;have Z:=Y.dg h1
  cases b with
  |true =>
   refine⟨some ps[i]::ρ,C3,_,.cons (rx.dg Z) ((s.dg L).dg Z),h3,q3,λv H4 p C4 q4 r4 h4 ae=>lL (ae D (by rw[n3];rfl) ir) λn4 e4=>?_⟩;rw[e3] at e4;rw[n3] at n4;have m4:iu H4 (upd H4 D (.lst (ys++[v]))):=iu.mut e4 rfl _;refine⟨e4,by rw[r1.len];exact q4.1,ps.length-(i+1),by lia,rfl,J,q++[p],C4,iQ,n4,?_,?_,?_,q4.2⟩
   .exact(((r1.dg Z).dg (ae.dg h3)).append (.cons r4 .nil)).dg m4
   .intro a o ca
    have af:a≠D:=λz=>by subst z;rw[n4] at ca;cases ca
    exact(h4 a o ca).dg m4 (pX af)
   .intro a ca aa
    have af:a≠D:=λz=>aa (z▸B);exact lL ((U.trans (Y.trans ae)) a ca aa) λx1 x2=>⟨x1,(pX af).trans x2⟩
  |false =>
   exact⟨ps.length-(i+1),by lia,rfl,J,q,C3,e3,n3,r1.dg Z,h3,U.trans Y,q3⟩
 .have e:i=ps.length:=by lia
  subst e;rw[Ca] at q1;refine .inl ⟨j.st H1 L,f (.ref D) H1 (.ref D) _ (q1 D n1) (.ref D) ?_ ?_⟩
  .intro a o ca
   by_cases z:a=D
   .subst z;rw[zQ] at ca;cases ca;exact⟨ys,e1,r1⟩
   .rw[yQ z] at ca;exact h1 a o ca
  .intro a ca aa
   obtain⟨x1,x2⟩:=f0 a ca aa;have ag:H a≠none:=by rwa[x2]
   obtain⟨y1,y2⟩:=U a (by rwa[x1]) ag;exact⟨(yQ (show a≠D from λz=>ag (z▸B))).trans (y1.trans x1),y2.trans x2⟩
structure CI(X:Cx)(tg it:Expr)(wi:TI)(c:iT->CH->(List PV->CH->Prop)->Prop):Prop where
 j:JI X tg it wi
 w:∀σ H ρ C R Q,fu X.K H σ ρ->dj X.K H C->c ρ C R->(∀J H' ps C',R ps C'->ZI X.K H' J ps->dj X.K H' C'->Fw H C H' C'->Q J H')->wi σ H Q
def Tt(q:f9):iT->CH->(List PV->CH->Prop)->Prop:=λρ C Q=>q ρ C λt C1=>match t with
 |.tup xs=>Q xs C1
 |.kt xs=>Q xs C1
 |_=>False
def qK(h:CE X e J):CI X tg e (iTup X.K (yK X.K (Rep X.K) J)) (Tt J):=⟨⟨V7 h.h.h⟩,λσ H ρ C R Q s h q f=>⟨ρ,C,_,s,h,q,λx H1 U C1 B O h1 L=>by
  cases O with
  |@tup a vs ts e r=>exact⟨a,rfl,⟨vs,SqT.of e⟩,f _ H1 ts C1 B (zI (SqT.of e) r) h1 L⟩
  |@kt a vs ts e r=>exact⟨a,rfl,⟨vs,e⟩,f _ H1 ts C1 B (zI e r) h1 L⟩
  |_=>exact B.elim⟩⟩
def Rj(ca:o9):iT->CH->(List PV->CH->Prop)->Prop:=λρ C Q=>ca ρ C λts C1=>match ts with
 |[.int j]=>-(2 ^ 62)<=j/\j<2 ^ 62/\Q ((List.range j.toNat).map λk=>PV.int (k:Nat)) C1
 |_=>False
def sR(O:Gl X "range")(U:X.mg "range"=none)(L:CA X [a] ca)(Y:noStar a=true:=by rfl):CI X tg (.Call (.Name "range" p) [a] [] ab) (iRng1 (yK X.K (du X.K) ca)) (Rj ca):=⟨⟨dO O U L.h.h (wJ Y)⟩,λσ H ρ C R Q s h q f=>⟨ρ,C,_,s,h,q,λxs H1 ts C1 B aa h1 J=>by
  split at B
  .next j =>
   cases aa with
   |cons Z r =>
    cases r;cases Z;exact⟨j,rfl,B.1,B.2.1,f _ H1 _ C1 B.2.2 WX h1 J⟩
  .exact B.elim⟩⟩
def Xw(q:iT->CH->(List PV->CH->Prop)->Prop)(t:jz)(c:f9):f9:=λρ C Q=>q ρ C λps C1=>rJ t c ρ Q ps [] C1
def uL{c}(hi:CI X tg it Y L){Q:VK}(h:yK X.K (Rep X.K) (Xw L t c) σ H Q):Qu Y (yK X.K sP t) (yK X.K (Rep X.K) c) σ H Q:=yZ h λρ C R s h q f=>hi.w σ H ρ C _ _ s h q λJ H' ps C' U j h' B D O=>Dl j (s.dg (B.dg h)) h' U h B f O
def sZ{Y O:Expr}{x:Str}{px:Pos}{Z:List Expr}{scope:Scope}{wi:TI}{U:iT->CH->(List PV->CH->Prop)->Prop}{t:jz}{c:f9}(hc:X.calm=true)(hN:(x::X.N).Nodup)(K:∃q,wB X x scope q)(hi:CI X (.Name x px) O wi U)(ht:∀q J C L B,CF (lK X x scope q J C L B) Z t)(aa:∀q J C L B,CE (lK X x scope q J C L B) Y c)(hs:∀v,foldedSetIterable O X.env v=pure v:=by intro _;rfl):CE X (.ListComp Y [⟨.Name x px,O,Z,0⟩] scope pos) (Xw U t c):=
 ⟨JE.weak (QV hc hN K hi.j (λq J C L B=>(ht q J C L B).h) (λq J C L B=>(aa q J C L B).h) hs) λ_ _ _ h=>uL hi h⟩
end
noncomputable def pN(N:List Str)(ts:List PV):iT:=ts.map some++List.replicate (N.length-ts.length) none
theorem kO{K}:∀n,fu K H (List.replicate n none) (List.replicate n none)
 |0=>.nil
 |n+1=>.cons trivial (kO n)
theorem Qw{K}(s:fu K H σ ρ):∀{vs}{ts},du K H vs ts->fu K H (vs.map some++σ) (ts.map some++ρ)
 |_,_,.nil=>s
 |_,_,.cons h r=>.cons h (Qw s r)
def lN{K}(r:du K H vs ts):fu K H (L2.start N vs) (pN N ts):=by
 delta L2.start pN
 exact r.len▸Qw (kO _) r
section
variable{P:Program}{w:World}{K:DQ}{mg:Str->Option Value}{base:Heap}
def Fun.Z8{st}(F:Fun K x qual st f fd)(S:FnScope N ps (vZ st))(Z:∀ts C R,G ts C R->ts.length=ps.length)(O:∀J A outer s H E,Room k (A.deeper (envOfC qual (vZ st) s.heap.objs.size f J)) ->
   ∃c,CB (tU CX0 P w K mg base N qual (vZ st) f J A outer s H E).nox (bV st) c/\∀ts C R,G ts C R->c (.go R) (pN N ts) C):FnOk P w K mg base CX0 (k+1) f fd ps (qm K G):=by
 refine F.SQ S ?_ ?_
 .rintro vs H Q E ⟨ts,C,R,r,h,g,f⟩
  exact r.len▸Z ts C R g
 .rintro J A outer s H vs Q E Y ⟨ts,C,R,r,h,g,f⟩
  exact oX (O J A outer s H E Y) λc U q=>⟨_,U.h,pN N ts,C,_,lN r,h,q ts C R g,⟨λab H' aa C' B s' h' L=>f .non H' .non C' B .non h' L,f,λ_ _ _ _ B _ _ _=>B.elim,λ_ _ _ _ B _ _ _=>B.elim⟩⟩
end
section
variable{X:Cx}{a b c e o i:Expr}{es:List Expr}{pos:Pos}
@[irreducible] def cI(g:Int->Int->PV):kh:=λx y C Q=>match x,y with
 |.int i,.int j=>Q (g i j) C
 |_,_=>False
def Mz(P:Int->Int->Prop)(g:Int->Int->PV):kh:=λx y C Q=>match x,y with
 |.int i,.int j=>P i j/\Q (g i j) C
 |_,_=>False
def Xl{K}(B:∀i j H,Rep K H (g i j) (g' i j)):je K (rI0 g) (cI g'):=λx y O U H C Q R J L h q f=>by
 delta cI at q
 split at q
 .cases J;cases L
  exact⟨_,_,rfl,rfl,f _ H _ C q (B _ _ _) h Fw.refl⟩
 .exact q.elim
def nI{K}(B:∀i j H,Rep K H (g i j) (g' i j)):je K (rI P g) (Mz P g'):=λx y O U H C Q R J L h q f=>by
 delta Mz at q
 split at q
 .cases J;cases L
  exact⟨_,_,rfl,rfl,q.1,f _ H _ C q.2 (B _ _ _) h Fw.refl⟩
 .exact q.elim
def eM{K}:je K (rI0 λi j=>.int (i-j)) (cI λi j=>.int (i-j)):=Xl λ_ _ _=>.int _
def mD{K}:je K (rI CMul λi j=>.int (i*j)) (Mz CMul λi j=>.int (i*j)):=nI λ_ _ _=>.int _
def Xk{K}:je K (rI (λ_ j=>0<j/\j<18446744073709551616) λi j=>.int (i / j)) (Mz (λ_ j=>0<j/\j<18446744073709551616) λi j=>.int (i / j)):=nI λ_ _ _=>.int _
def rG{K}:je K (rI (λ_ j=>0<j) λi j=>.int (i % j)) (Mz (λ_ j=>0<j) λi j=>.int (i % j)):=nI λ_ _ _=>.int _
def tH{K}:je K (rI CPow λi j=>.int (i ^ j.toNat)) (Mz CPow λi j=>.int (i ^ j.toNat)):=nI λ_ _ _=>.int _
def qU{K}:je K (rI0 λi j=>.bl (decide (i<j))) (cI λi j=>.bl (decide (i<j))):=Xl λ_ _ _=>.bl _
def iV{K}:je K (rI0 λi j=>.bl (decide (i<=j))) (cI λi j=>.bl (decide (i<=j))):=Xl λ_ _ _=>.bl _
def eK{K}:je K (rI0 λi j=>.bl (decide (j<i))) (cI λi j=>.bl (decide (j<i))):=Xl λ_ _ _=>.bl _
def Lk{K:DQ}:je K (rI0 λi j=>.bl (decide (j<=i))) (cI λi j=>.bl (decide (j<=i))):=Xl λ_ _ _=>.bl _
noncomputable def Rf:PV->CH->K1->Prop:=λx C Q=>match x with
 |.int i=>Q (.int (-i)) C
 |_=>False
def sJ{K}:Y6 K (rU λi=>.int (-i)) Rf:=λx J H C Q R B h q f=>by
 delta Rf at q
 split at q
 .cases B;exact⟨_,rfl,f _ H _ C q (.int _) h Fw.refl⟩
 .exact q.elim
def Jq(s:Same H H'):Fw H C H' C:=λa c n=>⟨rfl,by
 cases e:H a with
 |none=>exact absurd e n
 |some o=>exact s a o e⟩
def iO{K}(h:dj K H C)(s:Same H H'):dj K H' C:=λa o c=>oX ((h a o c).mut) λu e _=>(h a o c).dg (λb v _ e=>s b v e) ((s a u e).trans e.symm)
@[irreducible] def bB:kh:=λx y C Q=>match x,y with
 |.int i,.int j=>Q (.int (i+j)) C
 |.str i,.str j=>i.length+j.length<=sizeLine/\Q (.str (i++j)) C
 |.tup xs,.tup ys=>xs.length+ys.length<=sizeLine/\Q (.tup (xs++ys)) C
 |.ref a,.ref b=>match C a,C b with
  |some (.lst xs),some (.lst ys)=>xs.length+ys.length<=sizeLine/\∀p,C p=none->Q (.ref p) (cQ C p (.lst (xs++ys)))
  |_,_=>False
 |_,_=>False
abbrev Eu:R2:=λx y H Q=>rI0 (λi j=>.int (i+j)) x y H Q\/((∃i j,x=.str i/\y=.str j/\i.length+j.length<=sizeLine/\Q (.str (i++j)) H)\/(Et x y H Q\/rCat x y H Q))
def jX:OpR X (binaryOp .Add) Eu:=OpR.or op_add (OpR.or X6 (OpR.or xj op_cat))
def xX{K}:je K Eu bB:=λx y px ab H C Q R J L h q f=>by
 delta bB at q
 split at q
 .cases J;cases L
  exact .inl ⟨_,_,rfl,rfl,f _ H _ C q (.int _) h Fw.refl⟩
 .cases J;cases L
  exact .inr (.inl ⟨_,_,rfl,rfl,q.1,f _ H _ C q.2 (.str _) h Fw.refl⟩)
 .cases J with
  |tup e r=>cases L with
   |tup Z O =>
    refine .inr (.inr (.inl ⟨_,_,_,_,rfl,rfl,e,Z,by rw[r.len,O.len];exact q.1,λz H' s hz _=>?_⟩));exact f _ H' _ C q.2 (.tup hz ((r.append O).dg λb v _ e=>s b v e)) (iO h s) (Jq s)
 .split at q
  .next xs ys e1 e2 =>
   refine oX (h _ _ e1) λvs aa Y=>oX (h _ _ e2) λus eu U=>?_;cases J;cases L
   refine .inr (.inr (.inr ⟨_,_,_,_,rfl,rfl,aa,eu,by rw[Y.len,U.len];exact q.1,λp B=>?_⟩));exact f _ _ _ _ (q.2 p (h.fresh B)) (.ref p) (h.lay B ⟨_,iQ,(Y.append U).dg (iu.new B _)⟩) (Fw.lay B _ _)
  .exact q.elim
 .exact q.elim
noncomputable def sEq:PV->PV->Option Bool
 |.non,.non=>some true | .non,.int _=>some false | .int _,.non=>some false | .non,.bl _=>some false | .bl _,.non=>some false | .non,.str _=>some false | .str _,.non=>some false
 |.int i,.int j=>some (decide (i=j)) | .bl b,.bl c=>some (decide (b=c)) | .str x,.str y=>some (decide (x=y))
 |.int _,.str _=>some false | .str _,.int _=>some false | .bl _,.str _=>some false | .str _,.bl _=>some false
 |_,_=>none
@[irreducible] def Gk(k:Bool->Bool):kh:=λx y C Q=>match sEq x y with
 |some b=>Q (.bl (k b)) C
 |none=>False
def toV:PV->Option V
 |.non=>some .non | .bl b=>some (.bl b) | .int i=>some (.int i) | .str x=>some (.str x)|_=>none
def ZP{K}(r:Rep K H x q)(e:toV q=some v):x=v:=by
 cases r<;>cases e<;>rfl
def vd{b}(e:sEq q B=some b):∃v u,toV q=some v/\toV B=some u/\scal v u=true/\decide (v=u)=b:=by
 cases q<;>cases B<;>cases e<;>exact⟨_,_,rfl,rfl,rfl,by simp⟩
def ZV{K}{b}(O:Rep K H x J)(U:Rep K H y L)(e:sEq J L=some b):scal x y=true/\decide (x=y)=b:=by
 refine Xd (vd e) λv u h1 h2 q B=>?_;cases ZP O h1;cases ZP U h2;exact⟨q,B⟩
def yX{K}:je K rEq (Gk id):=λx y L O H C Q R B J h q f=>by
 delta Gk at q
 split at q
 .next b e =>
  obtain⟨h1,h2⟩:=ZV B J e;exact⟨h1,h2▸f _ H _ C q (.bl _) h Fw.refl⟩
 .exact q.elim
def zV{K}:je K rNe (Gk not):=λx y L O H C Q R B J h q f=>by
 delta Gk at q
 split at q
 .next b e =>
  obtain⟨h1,h2⟩:=ZV B J e;exact⟨h1,h2▸f _ H _ C q (.bl _) h Fw.refl⟩
 .exact q.elim
noncomputable def vG:PV->Bool
 |.non=>true
 |_=>false
def Tw(k:Bool->Bool):kh:=λx y C Q=>match y with
 |.non=>Q (.bl (k (vG x))) C
 |_=>False
def QX{K}(r:Rep K H x q):decide (x=.non)=vG q:=by
 cases r<;>simp[vG]
def nG{K}:je K (λx y H Q=>y=.non/\Q (.bl (decide (x=.non))) H) (Tw id):=λx y L O H C Q R B J h q f=>by
 cases J with
 |non=>exact⟨rfl,by exact(QX B)▸f _ H _ C q (.bl _) h Fw.refl⟩
 |_=>exact q.elim
def pR{K}:je K (λx y H Q=>y=.non/\Q (.bl (!decide (x=.non))) H) (Tw not):=λx y L O H C Q R B J h q f=>by
 cases J with
 |non=>exact⟨rfl,by exact(QX B)▸f _ H _ C q (.bl _) h Fw.refl⟩
 |_=>exact q.elim
def qu(xs:List PV)(i:Int)(C:CH)(Q:K1):Prop:=match atI xs i with
 |some v=>Q v C
 |none=>False
@[irreducible] def o5:kh:=λx y C Q=>match x,y with
 |.tup xs,.int i=>qu xs i C Q
 |.kt xs,.int i=>qu xs i C Q
 |.fz xs,.int i=>qu xs i C Q
 |.ref a,.int i=>match C a with
  |some (.lst xs)=>qu xs i C Q
  |_=>False
 |.str z,.int i=>z.length<=sizeLine/\match atI z.cps.toList i with
  |some c=>Q (.str ⟨#[c]⟩) C
  |none=>False
 |_,_=>False
theorem du.at{K}{i}(r:du K H vs ts)(e:atI ts i=some t):∃v,atI vs i=some v/\Rep K H v t:=by
 delta atI at e ⊢
 rw[r.len]
 cases z:ixN ts.length i with
 |none=>rw[z] at e;cases e
 |some j =>
  rw[z] at e;exact r.get e
def Qd{K}{i}(r:du K H vs ts)(q:qu ts i C R):∃v t,atI vs i=some v/\Rep K H v t/\R t C:=by
 delta qu at q
 split at q
 .next t e =>
  exact oX (r.at e) λv B J=>⟨v,t,B,J,q⟩
 .exact q.elim
def Lj{K}:je K (rIx K) o5:=λx y px aa H C Q R L O h q f=>by
 delta o5 at q
 split at q
 .cases O
  cases L with
  |tup e r =>
   obtain⟨v,t,B,J,q⟩:=Qd r q;exact .inr (.inl ⟨_,_,_,v,rfl,rfl,SqT.of e,B,f _ H _ C q J h Fw.refl⟩)
 .cases O
  cases L with
  |kt e r =>
   obtain⟨v,t,B,J,q⟩:=Qd r q;exact .inr (.inl ⟨_,_,_,v,rfl,rfl,e,B,f _ H _ C q J h Fw.refl⟩)
 .cases O
  cases L with
  |fz e r =>
   obtain⟨v,t,B,J,q⟩:=Qd r q;exact .inl ⟨_,_,_,v,rfl,rfl,e.sq,B,f _ H _ C q J h Fw.refl⟩
 .cases O
  split at q
  .next xs e =>
   obtain⟨vs,Y,rv⟩:=(h _ _ e);cases L;exact rZ (Qd rv q) λv t B J q=>.inl ⟨_,_,_,v,rfl,rfl,SqL.of Y,B,f _ H _ C q J h Fw.refl⟩
  .exact q.elim
 .cases O;cases L
  obtain⟨Z,U⟩:=q
  split at U
  .next c e=>exact .inr (.inr ⟨_,_,c,rfl,rfl,Z,e,f _ H _ C U (.str _) h Fw.refl⟩)
  .exact U.elim
 .exact q.elim
def yt:IxR X (rIx X.K):=ix_seq
@[irreducible] def uH:GC:=λts C Q=>match ts with
 |[.tup xs]=>Q (.int xs.length) C
 |[.kt xs]=>Q (.int xs.length) C
 |[.fz xs]=>Q (.int xs.length) C
 |[.ref a]=>match C a with
  |some (.lst xs)=>Q (.int xs.length) C
  |some (.dK kvs)=>Q (.int kvs.length) C
  |_=>False
 |[.str z]=>z.length<=sizeLine/\Q (.int z.length) C
 |_=>False
abbrev Er(K:DQ):List V->Hp->VK->Prop:=λxs H Q=>(∃p ys,xs=[.ref p]/\(SqL K H p ys\/SqT K H p ys)/\Q (.int ys.length) H)\/((∃a kvs,xs=[V.ref a]/\H a=some (.dK kvs)/\Q (.int kvs.length) H)\/∃z,xs=[.str z]/\z.length<=sizeLine/\Q (.int z.length) H)
def K6:CallR X (.builtin "len") (Er X.K):=CallR.or aI (CallR.or K5 eI)
def nZ{K}(r:du K H xs [t]):∃v,xs=[v]/\Rep K H v t:=by
 cases r with
 |cons h r=>cases r;exact⟨_,rfl,h⟩
def ZX{K}(r:du K H xs [t,u]):∃v w,xs=[v,w]/\Rep K H v t/\Rep K H w u:=by
 cases r with
 |cons h r=>obtain⟨w,rfl,h'⟩:=nZ r;exact⟨_,w,rfl,h,h'⟩
def Dv{K}:rm K (Er K) uH:=λxs ps H C Q R B h q f=>by
 delta uH at q
 split at q
 .obtain⟨v,rfl,r⟩:=nZ B
  cases r with
  |tup e r=>exact .inl ⟨_,_,rfl,.inr (SqT.of e),f _ H _ C (by rwa[r.len]) (.int _) h Fw.refl⟩
 .obtain⟨v,rfl,r⟩:=nZ B
  cases r with
  |kt e r=>exact .inl ⟨_,_,rfl,.inr e,f _ H _ C (by rwa[r.len]) (.int _) h Fw.refl⟩
 .obtain⟨v,rfl,r⟩:=nZ B
  cases r with
  |fz e r=>exact .inl ⟨_,_,rfl,.inl e.sq,f _ H _ C (by rwa[r.len]) (.int _) h Fw.refl⟩
 .obtain⟨v,rfl,r⟩:=nZ B
  split at q
  .next xs e =>
   obtain⟨vs,J,L⟩:=h _ _ e;cases r;exact .inl ⟨_,_,rfl,.inl (SqL.of J),f _ H _ C (by rwa[L.len]) (.int _) h Fw.refl⟩
  .next kvs e =>
   obtain⟨vs,J,L⟩:=h _ _ e;cases r;exact .inr (.inl ⟨_,_,rfl,J,f _ H _ C (by rwa[Paired.length L]) (.int _) h Fw.refl⟩)
  .exact q.elim
 .obtain⟨v,rfl,r⟩:=nZ B
  cases r;exact .inr (.inr ⟨_,rfl,q.1,f _ H _ C q.2 (.int _) h Fw.refl⟩)
 .exact q.elim
noncomputable def tyP(C:CH):PV->Option Ty
 |.non=>some .non
 |.bl _=>some .bl
 |.int _=>some .int
 |.str _=>some .str
 |.tup _=>some .tup
 |.ref a=>match C a with
  |some (.lst _)=>some .lst
  |some (.dK _)=>some .dct
  |_=>none
 |_=>none
def ZN{K}(r:Rep K H x t)(h:dj K H C)(e:tyP C t=some n):Mp H x=some n:=by
 cases r with
 |tup B _=>cases e;show(H _).bind Mq=_;rw[B];rfl
 |ref a =>
  delta tyP at e
  dsimp only at e
  split at e
  .next xs c=>cases e;obtain⟨vs,q,_⟩:=h _ _ c;show(H _).bind Mq=_;rw[q];rfl
  .next xs c=>cases e;obtain⟨vs,q,_⟩:=h _ _ c;show(H _).bind Mq=_;rw[q];rfl
  .cases e
 |kt _ _=>cases e
 |fz _ _=>cases e
 |ty _=>cases e
 |vw _=>cases e
 |_=>cases e;rfl
noncomputable def tF(n:String):Option Ty:=[Ty.non,.bl,.int,.str,.lst,.tup,.dct].find? λt=>lB t==n
def Qq(h:tF n=some t):n=lB t:=by
 have:=List.find?_some h;exact(eq_of_beq this).symm
@[irreducible] def YI:GC:=λts C Q=>match ts with
 |[x,.ty n]=>match tF n,tyP C x with
  |some T,some k=>Q (.bl (cJ k T)) C
  |_,_=>False
 |_=>False
def nX{K}:rm K (λxs H Q=>∃x T n,xs=[x,.ty (lB T)]/\Mp H x=some n/\Q (.bl (cJ n T)) H) YI:=λxs ps H C Q R U h q f=>by
 delta YI at q
 split at q
 .split at q
  .next T k B J =>
   obtain⟨v,w,rfl,L,O⟩:=ZX U;cases O;exact(Qq B)▸⟨v,T,k,rfl,ZN L h J,f _ H _ C q (.bl _) h Fw.refl⟩
  .exact q.elim
 .exact q.elim
def cAbs:GC:=λts C Q=>match ts with
 |[.int i]=>Q (.int (if i<0 then -i else i)) C
 |_=>False
def Dy{K}:rm K (λxs H Q=>∃i,xs=[.int i]/\Q (.int (if i<0 then -i else i)) H) cAbs:=λxs ps H C Q R B h q f=>by
 delta cAbs at q
 split at q
 .obtain⟨v,rfl,r⟩:=nZ B
  cases r;exact⟨_,rfl,f _ H _ C q (.int _) h Fw.refl⟩
 .exact q.elim
@[irreducible] def iU:GC:=λts C Q=>match ts with
 |[.tup xs]=>Q (.tup xs) C
 |[.ref a]=>match C a with
  |some (.lst xs)=>Q (.tup xs) C
  |_=>False
 |_=>False
def Dt{K}:rm K (λxs H Q=>∃p ys,xs=[.ref p]/\((SqL K H p ys/\∀l,H l=none->Q (.ref l) (upd H l (.tup ys)))\/(SqT K H p ys/\Q (.ref p) H))) iU:=λxs ps H C Q R J h q f=>by
 delta iU at q
 split at q
 .obtain⟨v,rfl,r⟩:=nZ J
  cases r with
  |tup e r=>exact⟨_,_,rfl,.inr ⟨SqT.of e,f _ H _ C q (.tup e r) h Fw.refl⟩⟩
 .obtain⟨v,rfl,r⟩:=nZ J
  split at q
  .next xs e =>
   obtain⟨vs,L,O⟩:=(h _ _ e);cases r;exact⟨_,_,rfl,.inl ⟨SqL.of L,λl B=>f _ _ _ C q (.tup iQ (O.dg (iu.new B _))) (h.new B _) (Fw.new B _)⟩⟩
  .exact q.elim
 .exact q.elim
def ZD:GC:=λts C Q=>match ts with
 |[.tup xs]=>∀p,C p=none->Q (.ref p) (cQ C p (.lst xs))
 |[.ref a]=>match C a with
  |some (.lst xs)=>∀p,C p=none->Q (.ref p) (cQ C p (.lst xs))
  |_=>False
 |_=>False
def JU{K}:rm K (λxs H Q=>∃p ys,xs=[.ref p]/\(SqL K H p ys\/SqT K H p ys)/\∀l,H l=none->Q (.ref l) (upd H l (.lst ys))) ZD:=λxs ps H C Q R J h q f=>by
 delta ZD at q
 split at q
 .obtain⟨v,rfl,r⟩:=nZ J
  cases r with
  |tup e r=>exact⟨_,_,rfl,.inr (SqT.of e),λl B=>f _ _ _ _ (q l (h.fresh B)) (.ref l) (h.lay B ⟨_,iQ,r.dg (iu.new B _)⟩) (Fw.lay B _ _)⟩
 .obtain⟨v,rfl,r⟩:=nZ J
  split at q
  .next xs e =>
   obtain⟨vs,L,O⟩:=(h _ _ e);cases r;exact⟨_,_,rfl,.inl (SqL.of L),λl B=>f _ _ _ _ (q l (h.fresh B)) (.ref l) (h.lay B ⟨_,iQ,O.dg (iu.new B _)⟩) (Fw.lay B _ _)⟩
  .exact q.elim
 .exact q.elim
noncomputable def qS:List PV->Option (List Bool)
 |[]=>some []
 |.bl b::r=>(qS r).map (b :: ·)
 |_=>none
@[irreducible] def YM:GC:=λts C Q=>match ts with
 |[.ref a]=>match C a with
  |some (.lst xs)=>match qS xs with
   |some bs=>Q (.bl (bs.all id)) C
   |none=>False
  |_=>False
 |_=>False
def Vd{K}(r:du K H vs ts)(e:qS ts=some bs):vs=bs.map V.bl:=by
 induction ts generalizing vs bs with
 |nil=>cases r;cases e;rfl
 |cons t ts q =>
  cases r with
  |@cons v _ vs _ h r =>
   cases t with
   |bl b =>
    unfold qS at e
    cases z:qS ts with
    |none=>rw[z] at e;cases e
    |some cs =>
     rw[z] at e;injection e with e
     subst e;cases h;rw[q r z];rfl
   |_=>cases e
def oG{K}:rm K (λxs H Q=>∃p ys,xs=[.ref p]/\SqL K H p (List.map V.bl ys)/\Q (.bl (ys.all id)) H) YM:=λxs ps H C Q R L h q f=>by
 delta YM at q
 split at q
 .obtain⟨v,rfl,r⟩:=nZ L
  split at q
  .next xs e =>
   split at q
   .next bs B =>
    obtain⟨vs,J,O⟩:=(h _ _ e);cases r;have:=Vd O B;subst this;exact⟨_,bs,rfl,SqL.of J,f _ H _ C q (.bl _) h Fw.refl⟩
   .exact q.elim
  .exact q.elim
 .exact q.elim
noncomputable def O3(x:PV)(C:CH):Prop:=match x with
 |.ref a=>match C a with
  |some (.lst _)=>True
  |_=>False
 |_=>False
def Rv(q:PV->List PV->CH->K1->Prop)(co:f9)(ca:o9):f9:=λρ C Q=>co ρ C λx C1=>O3 x C1/\ca ρ C1 λxs C2=>q x xs C2 Q
def Ej(K:DQ)(r:V->List V->Hp->VK->Prop)(B:PV->List PV->CH->K1->Prop):Prop:=∀x q xs ps H C Q R,Rep K H x q->du K H xs ps->dj K H C->B q ps C R->(∀v H' t C',R t C'->Rep K H' v t->dj K H' C'->Fw H C H' C'->Q v H')->r x xs H Q
def WZ{K}(l:O3 t C)(r:Rep K H x t)(h:dj K H C):tyV K "list" x H:=by
 delta O3 at l
 split at l
 .split at l
  .next e=>obtain⟨vs,q,_⟩:=(h _ _ e);cases r;exact .inl ⟨rfl,vs,SqL.of q⟩
  .exact l.elim
 .exact l.elim
def rD{id}{apos cpos}(ai:PlainAttrs "list")(ao:Slot "list" name id)(ah:typeOf (.builtin id)=pure (.type "method_descriptor"))(af:MtR X id r)(ag:Ej X.K r O)(ho:CE X o co)(Y:CA X (e::es) ca)(aa:attributeBase o name X.env (eval o X.env)=eval o X.env:=by rfl)(ab:((backTo cpos (starEach (e::es) X.env)).all (λx=>!x.1)&&(backToKw cpos (keywordEach [] X.env)).all (λx=>x.1.isSome)
   && decide ((e::es).length+([]:List Keyword).length+(if([]:List Keyword).isEmpty then 0 else 1)<30))=true:=by rfl)(ae:(apos.endLine==cpos.line)=true:=by rfl)(hs:noStar e=true:=by rfl)(Z:es.all noStar=true:=by rfl):
  CE X (.Call (.Attribute o name apos) (e::es) [] cpos) (Rv O co ca):=⟨JE.weak (Fx ai ao ah af ho.h Y.h aa ab ae hs Z) λσ H Q zz=>yZ zz λρ C R s h aj f=>
 ⟨ρ,C,_,s,h,aj,λx H1 px C1 J L h1 q=>⟨WZ J.1 L h1,ρ,C1,_,s.dg (q.dg h),h1,J.2,λxs H2 ps C2 q2 ak h2 B=>
  ag x px xs ps H2 C2 Q R (L.dg (B.dg h1)) ak h2 q2 λv H' t C' q' r' h' U=>f v H' t C' q' r' h' (q.trans (B.trans U))⟩⟩⟩
@[irreducible] def qB:PV->List PV->CH->K1->Prop:=λx ts C Q=>match x,ts with
 |.ref a,[y]=>match C a with
  |some (.lst xs)=>xs.length<sizeLine/\Q .non (cQ C a (.lst (xs++[y])))
  |_=>False
 |_,_=>False
def Zx{K}:Ej K Z1 qB:=λx U xs ps H C Q R O L h q f=>by
 delta qB at q
 split at q
 .split at q
  .next ys e =>
   obtain⟨vs,B,J⟩:=(h _ _ e);obtain⟨v,rfl,r⟩:=nZ L;cases O;exact⟨_,vs,v,rfl,rfl,B,by exact J.len▸q.1,f _ _ _ _ q.2 .non (h.put B rfl ⟨_,iQ,(J.append (.cons r .nil)).dg (iu.mut B rfl _)⟩) (Fw.put e _ _)⟩
  .exact q.elim
 .exact q.elim
end
noncomputable def sV:PV->Option Key
 |.non=>some (.inl none)
 |.int i=>some (.inl (some i))
 |.str x=>some (.inr x)
 |_=>none
def yU{K}(r:Rep K H v t)(e:sV t=some k):v=kV k:=by
 cases r<;>cases e<;>rfl
noncomputable def oF(kvs:List (Key×PV))(k:Key):Option PV:=(kvs.find? λq=>decide (q.1=k)).map (·.2)
noncomputable def QE(kvs:List (Key×PV))(k:Key)(v:PV):List (Key×PV):=if(kvs.any λq=>decide (q.1=k))=true then kvs.map λq=>if q.1=k then(q.1,v) else q else kvs++[(k,v)]
noncomputable def jK(kvs J:List (Key×PV)):List (Key×PV):=J.foldl (λB q=>QE B q.1 q.2) kvs
section
variable{K:DQ}{H:Hp}{vs:List (Key×V)}{kvs:List (Key×PV)}
def KP.val(r:KP K H vs kvs)k:(∃v t,aK vs k=some v/\oF kvs k=some t/\Rep K H v t)\/(aK vs k=none/\oF kvs k=none):=by
 induction r with
 |nil=>exact .inr ⟨rfl,rfl⟩
 |@cons p q J L h r B =>
  delta aK oF
  rw[List.find?_cons,List.find?_cons,h.1]
  by_cases e:q.1=k
  .grind
  .rwa[AW e]
def KP.any(r:KP K H vs kvs)k:(vs.any λB=>decide (B.1=k))=(kvs.any λB=>decide (B.1=k)):=by
 induction r with
 |nil=>rfl
 |@cons p q L O h r J=>rw[BN,BN,h.1,J]
def KP.put(r:KP K H vs kvs)k(h:Rep K H v t):KP K H (dU vs k v) (QE kvs k t):=by
 delta dU QE
 rw[r.any k]
 have L:KP K H (vs.map λB=>if B.1=k then(B.1,v) else B) (kvs.map λB=>if B.1=k then(B.1,t) else B):=by
  induction r with
  |nil=>exact .nil
  |@cons p q O U h' r J =>
   refine .cons ?_ J
   by_cases e:q.1=k
   .lia
   .lia
 split
 .exact L
 .exact Paired.snoc r ⟨rfl,h⟩
def KP.merge(r:KP K H vs kvs)(m:KP K H ws O):KP K H (uF vs ws) (jK kvs O):=by
 induction m generalizing vs kvs with
 |nil=>exact r
 |@cons p q J L h _ B =>
  show KP K H (uF (dU vs p.1 p.2) J) (jK (QE kvs q.1 q.2) L);rw[h.1];exact B (r.put q.1 h.2)
end
noncomputable def Tn:Option CO->Option (List (Key×PV))
 |some (.dK kvs)=>some kvs
 |some (.fK kvs)=>some kvs
 |_=>none
def Lg{K}(h:dj K H C)(e:Tn (C a)=some kvs):∃vs,Rd H a (.dK vs)/\KP K H vs kvs:=by
 cases c:C a with
 |none=>rw[c] at e;cases e
 |some o =>
  rw[c] at e
  cases o with
  |lst xs=>cases e
  |dT l=>cases e
  |fT l=>cases e
  |ins c dx fs=>cases e
  |dK l=>cases e;obtain⟨vs,q,r⟩:=h a _ c;exact⟨vs,.inl q,r⟩
  |fK l=>cases e;exact mM (h a _ c) λo vs q r=>⟨vs,.inr ⟨o,q⟩,r⟩
section
variable{X:Cx}{a b c e o i f:Expr}{es:List Expr}{pos:Pos}{value:Expr}
def Dc{K}{a}(h:dj K H C)(B:Tn (C a)=some kvs)(Y:Rep K H y U)(J:sV U=some k):
  (∃v t,ZM H a y (some v)/\oF kvs k=some t/\Rep K H v t)\/(ZM H a y none/\oF kvs k=none):=by
 obtain⟨vs,q,r⟩:=(Lg h B);have L:=yU Y J;subst L
 rcases r.val k with ⟨v,t,h1,h2,O⟩|⟨h1,h2⟩
 .exact .inl ⟨v,t,.inl ⟨vs,k,q,rfl,h1.symm⟩,h2,O⟩
 .exact .inr ⟨.inl ⟨vs,k,q,rfl,h1.symm⟩,h2⟩
noncomputable def W0(x:PV)(C:CH):Prop:=match x with
 |.ref a=>match C a with
  |some (.dK _)=>True
  |_=>False
 |_=>False
@[irreducible] def J6:PV->PV->PV->CH->K1->Prop:=λx y z C Q=>match x with
 |.ref a=>match Tn (C a),sV y with
  |some kvs,some k=>Q ((oF kvs k).getD z) C
  |_,_=>False
 |_=>False
def LQ(co B J:f9):f9:=λρ C Q=>co ρ C λx C1=>W0 x C1/\B ρ C1 λy C2=>J ρ C2 λz q=>J6 x y z q Q
def yx{K}(d:W0 t C)(r:Rep K H x t)(h:dj K H C):∃a kvs,x=.ref a/\t=.ref a/\H a=some (.dK kvs):=by
 delta W0 at d
 split at d
 .split at d
  .next e=>obtain⟨vs,q,_⟩:=(h _ _ e);cases r;exact⟨_,vs,rfl,rfl,q⟩
  .exact d.elim
 .exact d.elim
def Xr{apos cpos}(hu:X.A.units+1<cLine)(ho:CE X o co)(aa:CE X e ck)(ab:CE X f cz)(hb:attributeBase o "get" X.env (eval o X.env)=eval o X.env:=by rfl)(hl:(apos.endLine==cpos.line)=true:=by rfl)(h1:noStar e=true:=by rfl)(h2:noStar f=true:=by rfl):CE X (.Call (.Attribute o "get" apos) [e,f] [] cpos) (LQ co ck cz):=⟨JE.weak ⟨Wl hu ho.h.h aa.h.h ab.h.h (Fi hb hl h1 h2)⟩ λσ H Q zz=>yZ zz λρ C R s h ae f=>
 ⟨ρ,C,_,s,h,ae,λx H1 px C1 q1 rx h1 B=>by
  obtain⟨a,kvs,rfl,rfl,e1⟩:=yx q1.1 rx h1;refine⟨a,rfl,.inl ⟨kvs,.inl e1⟩,ρ,C1,_,s.dg (B.dg h),h1,q1.2,λy H2 ag C2 q2 ry h2 L=>⟨ρ,C2,_,(s.dg (B.dg h)).dg (L.dg h1),h2,q2,λz Z pz Y q rz U O=>?_⟩⟩;unfold J6 at q;dsimp only at q
  split at q
  .next af k d1 d2 =>
   rcases Dc U d1 (ry.dg (O.dg h2)) d2 with ⟨v,t',g,J,r⟩|⟨g,J⟩
   .rw[J] at q
    exact⟨some v,g,f v Z t' Y q r U (B.trans (L.trans O))⟩
   .rw[J] at q
    exact⟨none,g,f z Z pz Y q rz U (B.trans (L.trans O))⟩
  .exact q.elim⟩⟩
@[irreducible] def J0:PV->PV->PV->CH->(CH->Prop)->Prop:=λx y v C Q=>match x with
 |.ref a=>match C a,sV y with
  |some (.dK kvs),some k=>kvs.length<sizeLine/\Q (cQ C a (.dK (QE kvs k v)))
  |_,_=>False
 |_=>False
def Rt(co J L:f9):ji:=λE ρ C=>L ρ C λv C1=>co ρ C1 λx C2=>J ρ C2 λy q=>J0 x y v q λB=>E.nx ρ B
def Di{Y Z}(hu:X.A.units+1<cLine)(ho:CE X o co)(hi:CE X i Y)(hv:CE X value Z)(hs:swapsWith value (some (.Subscript o i pos')) pos.line X.env=pure false:=by rfl):
  CS X (.Assign [.Subscript o i pos'] value pos) (Rt co Y Z):=⟨JS.weak ⟨ps_dput hu ho.h.h hi.h.h hv.h.h hs⟩ λD σ H zz=>yZ zz λρ C E s h aa f=>
 ⟨ρ,C,_,s,h,aa,λv H1 af C1 q1 rv h1 B=>⟨ρ,C1,_,s.dg (B.dg h),h1,q1,λx H2 px C2 q2 rx h2 J=>⟨ρ,C2,_,(s.dg (B.dg h)).dg (J.dg h1),h2,q2,λy U ag C3 q ry h3 L=>by
  have ab:=rv.dg ((J.trans L).dg h1)
  delta J0 at q
  split at q
  .next a =>
   split at q
   .next kvs k e1 e2 =>
    have ae:=rx.dg (L.dg h2);cases ae;refine oX (h3 a _ e1) λvs O r=>?_;have ey:=yU ry e2;subst ey;have m:iu U (upd U a (.dK (dU vs k v))):=iu.mut O rfl _;refine⟨a,_,rfl,DPut.k O ((Paired.length r)▸q.1),f.nx σ _ ρ _ q.2 ((((s.dg (B.dg h)).dg (J.dg h1)).dg (L.dg h2)).dg m) (h3.put O rfl ⟨_,iQ,Paired.mapP (r.put k ab) λ_ _ z=>⟨z.1,z.2.dg m⟩⟩) (B.trans (J.trans (L.trans (Fw.put e1 _ _))))⟩
   .exact q.elim
  .exact q.elim⟩⟩⟩⟩
end
end CL
namespace CL
open PySem PySem.Spec L2 PySem.W
open PyProof.Rows hiding St
noncomputable def nW(c:Str×Int):PV:=.tup [.str c.1,.int c.2]
section
variable{K:DQ}{H:Hp}{X:Cx}
end
section
variable{X:Cx}{pos:Pos}
end
section
variable{X:Cx}{a b c e o i f:Expr}{es:List Expr}{pos:Pos}{value:Expr}
abbrev SJ:Hp->Option Int->Option Int->Prop:=λ_ a b=>a=b
abbrev TCO:=iT->CH->(Option Int->CH->Prop)->Prop
structure Gu(X:Cx)(e:Option Expr)(c:TCO):Prop where
 h:JO X e (yK X.K SJ c)
def JO.weak{e}(h:JO X e t)(w:∀σ H Q,t' σ H Q->t σ H Q):JO X e t':=⟨λww s σ H Q I q=>h.h ww s σ H Q I (w σ H Q q)⟩
def J1:TCO:=λ_ C Q=>Q none C
def Gg(q:f9):TCO:=λρ C Q=>q ρ C λt C1=>match t with
 |.int i=>Q (some i) C1
 |_=>False
def uK:Gu X none J1:=⟨JO.weak ⟨po_none⟩ λσ H Q B=>yZ B λρ C R s h q f=>f none H none C q rfl h Fw.refl⟩
def oJ(h:CE X e J):Gu X (some e) (Gg J):=⟨JO.weak ⟨po_some h.h.h⟩ λσ H Q U=>yZ U λρ C R s h q f=>⟨ρ,C,_,s,h,q,λx H1 Y C1 B O h1 L=>by
 split at B
 .cases O;exact⟨_,rfl,f _ H1 _ C1 B rfl h1 L⟩
 .exact B.elim⟩⟩
noncomputable def yY(xs:List PV)(lo hi:Option Int):List PV:=(xs.drop (HT.sIx xs.length 0 lo)).take (HT.sIx xs.length xs.length hi-HT.sIx xs.length 0 lo)
def du.cut{K}(r:du K H vs ts)lo hi:du K H (KQ vs lo hi) (yY ts lo hi):=by
 delta KQ yY
 exact r.len▸(r.drop _).take _
@[irreducible] def YF:PV->Option Int->Option Int->CH->K1->Prop:=λx lo hi C Q=>match x with
 |.ref a=>match C a with
  |some (.lst xs)=>∀p,C p=none->Q (.ref p) (cQ C p (.lst (yY xs lo hi)))
  |_=>False
 |_=>False
def R4(L:PV->Option Int->Option Int->CH->K1->Prop)(B:f9)(J ch:TCO):f9:=λρ C Q=>B ρ C λx C1=>J ρ C1 λl C2=>ch ρ C2 λu q=>L x l u q Q
def eU{lo}(ab:CE X e Y)(hl:Gu X lo Z)(hu:Gu X hi ch):CE X (.Subscript e (.Slice lo hi none p2) pos) (R4 YF Y Z ch):=⟨JE.weak ⟨kC sl_list ab.h.h hl.h.h hu.h.h⟩ λσ H Q zz=>yZ zz λρ C R s h ae f=>
 ⟨ρ,C,_,s,h,ae,λx H1 px C1 q1 rx h1 J=>⟨ρ,C1,_,s.dg (J.dg h),h1,q1,λl H2 l' C2 q2 e2 h2 L=>⟨ρ,C2,_,(s.dg (J.dg h)).dg (L.dg h1),h2,q2,λu H3 u' C3 q e3 O U=>by
  cases e2;cases e3
  delta YF at q
  split at q
  .split at q
   .next xs e =>
    refine oX (O _ _ e) λvs aa r=>?_;have af:=rx.dg ((L.trans U).dg h1);cases af;exact⟨_,vs,rfl,SqL.of aa,λp B=>f _ _ _ _ (q p (O.fresh B)) (.ref p) (O.lay B ⟨_,iQ,(r.cut l u).dg (iu.new B _)⟩) (J.trans (L.trans (U.trans (Fw.lay B _ _))))⟩
   .exact q.elim
  .exact q.elim⟩⟩⟩⟩
def oH{i:Nat}{y x:Str}{ae U pos af:Pos}{Y O:Expr}{Z:List Expr}{scope:Scope}{wi:TI}{aa:iT->CH->(List PV->CH->Prop)->Prop}{t:jz}{c:f9}(ag:X.N.Nodup)(hi:X.N[i]?=some y)(hy:Loc X.env.scope y)(hc:X.calm=true)(hN:(x::X.N).Nodup)(K:∃q,wB X x scope q)(hI:CI X (.Name x U) O wi aa)(ht:∀q J C L B,CF (lK X x scope q J C L B) Z t)(ah:∀q J C L B,CE (lK X x scope q J C L B) Y c)(hs:∀v,foldedSetIterable O X.env v=pure v:=by intro _;rfl)(aj:swapsWith (.ListComp Y [⟨.Name x U,O,Z,0⟩] scope pos) (some (.Name y ae)) af.line X.env=pure true:=by rfl)(ai:X.fn y=true\/X.env.scope.names.lookup y=some .local:=by first|exact .inl rfl|exact .inr rfl|assumption):
  CS X (.Assign [.Name y ae] (.ListComp Y [⟨.Name x U,O,Z,0⟩] scope pos) af) (iI i (Xw aa t c)):=by
 obtain⟨q,K⟩:=K;refine⟨JS.weak (aA (te:=yK X.K (Rep X.K) c) (tc:=yK X.K sP t) ag hi hy hc hN K hI.j (λJ C L B=>(ht q J C L B).h) (λJ C L B=>(ah q J C L B).h) hs aj ai) λD σ H zz=>yZ zz λρ C E s h ak f=>?_⟩;exact uL (Q:=λx H'=>D.nx (σ.set i (some x)) H') hI ⟨ρ,C,_,s,h,ak,λx H1 U C1 q1 rx h1 ab=>f.nx _ H1 _ C1 q1 ((s.dg (ab.dg h)).set rx i) h1 ab⟩
def dC k(σ:St):zT k (σ.set k none):=λv e=>by
 rw[List.getElem?_set_self'] at e
 cases q:σ[k]? with
 |none=>rw[q] at e;cases e
 |some x=>rw[q] at e;cases e
def fu.unset{K}(s:fu K H σ ρ)k:fu K H (σ.set k none) (ρ.set k none):=by
 induction s generalizing k with
 |nil=>exact .nil
 |cons h' r q =>
  cases k with
  |zero=>exact .cons trivial r
  |succ k=>exact .cons h' (q k)
def Lw(k:Nat)(q:f9):ji:=λE ρ C=>q (ρ.set k none) C E.rt
def Xj k(L:CE (X.at_ k) e B):CS X (.Return (some e) pos) (Lw k B):=⟨JS.weak (Fv k ⟨X4 (yo k L.h).h⟩) λD σ H Z=>yZ Z λρ C E s h q f=>
 ⟨dC k σ,ρ.set k none,C,_,s.unset k,h,q,λx H1 O C1 U Y h1 J=>f.rt x H1 O C1 U Y h1 J⟩⟩
def oY(S:CH->Prop)(t:jz)(c:f9)(ρ:iT)(Q:K1):List PV->List PV->CH->Prop
 |[],q,C=>S C/\∀p,C p=none->Q (.ref p) (cQ C p (.lst q))
 |x::r,q,C=>S C/\t (some x::ρ) C λb C1=>if b=true then c (some x::ρ) C1 λy C2=>q.length<sizeLine/\oY S t c ρ Q r (q++[y]) C2 else oY S t c ρ Q r q C1
structure U9(K:DQ)(S:CH->Prop)(J:It)(ps:List PV):Prop where
 go:∀i H' C',i<ps.length->dj K H' C'->S C'->J.go i H'
 yl:∀i H' C' x H'',dj K H' C'->S C'->J.yld i H' x H''->H''=H'/\∀t,ps[i]?=some t->Rep K H' x t
 st:∀H' C',dj K H' C'->S C'->J.stop ps.length H'
def Yx{K}{c}{Q:VK}(j:U9 K S ab ps)(s:fu K H σ ρ)(h:dj K H C)(ah:oY S t c ρ R ps [] C)(h0:dj K H0 C0)(f0:Fw H0 C0 H C)(f:∀v H' p C',R p C'->Rep K H' v p->dj K H' C'->Fw H0 C0 H' C'->Q v H')(J:H D=none):
  ∃W:Nat->Nat->List V->Hp->Prop,(∃m,W 0 m [] (upd H D (.lst [])))/\∀i m ys H,W i m ys H ->
   (ab.stop i H/\Q (.ref D) H)\/(ab.go i H/\∀x H',ab.yld i H x H'->yK K sP t (some x::σ) H' λb H2=>
    if b=true then yK K (Rep K) c (some x::σ) H2 λy H3=>H3 D=some (.lst ys)/\ys.length<sizeLine/\∃O,O<m/\W (i+1) O (ys++[y]) (upd H3 D (.lst (ys++[y])))
    else ∃O,O<m/\W (i+1) O ys H2):=by
 refine⟨λi m ys H'=>m=ps.length-i/\i<=ps.length/\∃B C',H' D=some (.lst ys)/\C' D=none/\du K H' ys B/\dj K H' C'/\Fw H C H' C'/\oY S t c ρ R (ps.drop i) B C',
  ⟨ps.length,rfl,AF _,[],C,iQ,h.fresh J,.nil,h.new J _,Fw.new J _,ah⟩,?_⟩
 rintro i m ys H1 ⟨rfl,hi,B,C1,e1,n1,r1,h1,U,q⟩;have k1:=U.dg h
 have q0:S C1:=by
  cases z:ps.drop i with
  |nil=>rw[z] at q;exact q.1
  |cons x r=>rw[z] at q;exact q.1
 by_cases L:i<ps.length
 .refine .inr ⟨j.go i H1 C1 L h1 q0,λx H2 y=>?_⟩
  obtain⟨rfl,y⟩:=j.yl i H1 C1 x H2 h1 q0 y;have rx:=y _ (AJ L);rw[Az L] at q
  replace q:=q.2
  refine⟨some ps[i]::ρ,C1,_,.cons rx (s.dg k1),h1,q,λb H3 b' C3 q3 e h3 Y=>?_⟩;cases e;obtain⟨n3,e3⟩:=Y D (by rw[n1];rfl) ir;rw[e1] at e3;rw[n1] at n3;have Z:=Y.dg h1
  cases b with
  |true =>
   refine⟨some ps[i]::ρ,C3,_,.cons (rx.dg Z) ((s.dg k1).dg Z),h3,q3,λv H4 p C4 q4 r4 h4 ae=>lL (ae D (by rw[n3];rfl) ir) λn4 e4=>?_⟩;rw[e3] at e4;rw[n3] at n4;have m4:iu H4 (upd H4 D (.lst (ys++[v]))):=iu.mut e4 rfl _;refine⟨e4,by rw[r1.len];exact q4.1,ps.length-(i+1),by lia,rfl,L,B++[p],C4,iQ,n4,?_,?_,?_,q4.2⟩
   .exact(((r1.dg Z).dg (ae.dg h3)).append (.cons r4 .nil)).dg m4
   .intro a o ca
    have af:a≠D:=λz=>by subst z;rw[n4] at ca;cases ca
    exact(h4 a o ca).dg m4 (pX af)
   .intro a ca aa
    have af:a≠D:=λz=>aa (z▸J);exact lL ((U.trans (Y.trans ae)) a ca aa) λx1 x2=>⟨x1,(pX af).trans x2⟩
  |false =>
   exact⟨ps.length-(i+1),by lia,rfl,L,B,C3,e3,n3,r1.dg Z,h3,U.trans Y,q3⟩
 .have e:i=ps.length:=by lia
  subst e;rw[Ca] at q
  replace q:=q.2
  refine .inl ⟨j.st H1 C1 h1 q0,f (.ref D) H1 (.ref D) _ (q D n1) (.ref D) ?_ ?_⟩
  .intro a o ca
   by_cases z:a=D
   .subst z;rw[zQ] at ca;cases ca;exact⟨ys,e1,r1⟩
   .rw[yQ z] at ca;exact h1 a o ca
  .intro a ca aa
   obtain⟨x1,x2⟩:=f0 a ca aa;have ag:H a≠none:=by rwa[x2]
   obtain⟨y1,y2⟩:=U a (by rwa[x1]) ag;exact⟨(yQ (show a≠D from λz=>ag (z▸J))).trans (y1.trans x1),y2.trans x2⟩
def WY{K}{a}:U9 K (λC=>C a=some (.lst xs)) (Itl K a) xs where
 go:=λi H' C' l h s=>by
  refine oX (h a _ s) λvs e r=>oX (r.get (AJ l)) λv q _=>?_;exact⟨vs,v,SqL.of e,q⟩
 yl:=λi H' C' x L h s y=>⟨y.1,λt B=>by
  refine oX (h a _ s) λvs e r=>oX (r.get B) λv q J=>?_;have:=y.2 vs (SqL.of e)
  rw[q] at this;cases this;exact J⟩
 st:=λH' C' h s=>oX (h a _ s) λvs e r=>⟨vs,SqL.of e,by exact r.len▸AQ _⟩
@[irreducible] def fW(q:f9)(t:jz)(c:f9):f9:=λρ C Q=>q ρ C λx C1=>match x with
 |.ref a=>match C1 a with
  |some (.lst xs)=>oY (λC=>C a=some (.lst xs)) t c ρ Q xs [] C1
  |_=>False
 |_=>False
def nY{Z U:Expr}{x:Str}{px:Pos}{ab:List Expr}{scope:Scope}{Y:f9}{t:jz}{c:f9}(hc:X.calm=true)(hN:(x::X.N).Nodup)(K:∃q,wB X x scope q)(hi:CE X U Y)(ht:∀q J C L B,CF (lK X x scope q J C L B) ab t)(ag:∀q J C L B,CE (lK X x scope q J C L B) Z c)(hs:∀v,foldedSetIterable U X.env v=pure v:=by intro _;rfl):CE X (.ListComp Z [⟨.Name x px,U,ab,0⟩] scope pos) (fW Y t c):=
 ⟨JE.weak (QV (te:=yK X.K (Rep X.K) c) (tc:=yK X.K sP t) hc hN K ⟨wA hi.h.h⟩ (λq J C L B=>(ht q J C L B).h) (λq J C L B=>(ag q J C L B).h) hs) λσ H Q zz=>yZ zz λρ C R s h ae f=>by
  unfold fW at ae
  exact⟨ρ,C,_,s,h,ae,λxv H1 px C1 O rx h1 aa=>by
   split at O
   .next a =>
    split at O
    .next xs e =>
     obtain⟨vs,af,r⟩:=h1 a _ e;cases rx;exact⟨a,rfl,⟨vs,SqL.of af⟩,λD hD=>Yx (Q:=Q) WY (s.dg (aa.dg h)) h1 O h aa f hD⟩
    .exact O.elim
   .exact O.elim⟩⟩
end
section
variable{C:CH}{a p:Addr}{xs ys:List PV}{i:Int}{v:PV}{Q:K1}
def tZ(h:C a=some (.lst xs))(e:atI xs i=some v)(q:Q v C):o5 (.ref a) (.int i) C Q:=by
 delta o5
 show(match C a with|some (.lst xs)=>qu xs i C Q|_=>False);rw[h];show qu xs i C Q
 delta qu
 rwa[e]
def OD(e:atI xs i=some v)(q:Q v C):o5 (.fz xs) (.int i) C Q:=by
 delta o5
 show qu xs i C Q
 delta qu
 rwa[e]
theorem gQ(e:atI xs i=some v)(q:Q v C):o5 (.tup xs) (.int i) C Q:=by
 delta o5
 show qu xs i C Q
 delta qu
 rwa[e]
def VL{Q}(h:C p=some (.lst xs))(e:ixN xs.length k=some j)(q:Q (cQ C p (.lst (xs.set j v)))):JX (.ref p) (.int k) v C Q:=by
 delta JX
 dsimp only;rw[h];dsimp only
 rwa[e]
def nK(h:C a=some (.lst xs))(q:Q (.int xs.length) C):uH [.ref a] C Q:=by
 delta uH
 show(match C a with|some (.lst xs)=>Q (.int xs.length) C|some (.dK kvs)=>Q (.int kvs.length) C|_=>False)
 rwa[h]
def WN(q:Q (.int xs.length) C):uH [.fz xs] C Q:=by
 delta uH
 exact q
theorem mX(q:Q (.int xs.length) C):uH [.tup xs] C Q:=by
 delta uH
 exact q
def bK(h:C a=some (.lst xs))(z:xs.length<sizeLine)(q:Q .non (cQ C a (.lst (xs++[v])))):qB (.ref a) [v] C Q:=by simp_all[qB]
def lZ(h:C a=some (.lst xs)):O3 (.ref a) C:=by
 show(match C a with|some (.lst _)=>True|_=>False);rw[h]
 trivial
end
def gk(q:Q (g i j) C):cI g (.int i) (.int j) C Q:=by
 delta cI
 exact q
def eJ(q:Q (.int (i+j)) C):bB (.int i) (.int j) C Q:=by
 delta bB
 exact q
theorem gq(h:xs.length+ys.length<=sizeLine)(q:Q (.tup (xs++ys)) C):bB (.tup xs) (.tup ys) C Q:=by
 delta bB
 exact⟨h,q⟩
def O5{q:Prop}(h1:b=true->p)(h2:b=false->q):if b=true then p else q:=by grind
def yH{q:Prop}(e:b=true)(h:p):if b=true then p else q:=by rwa[A4 e]
def gB{q:Prop}(e:b=false)(h:q):if b=true then p else q:=by grind
theorem eX{p q:CH->Prop}(e:b=true)(h:p C):yL (λb C1=>if b=true then p C1 else q C1) (.bl b) C:=by cases e;exact h
theorem bQ{p q:CH->Prop}(e:b=false)(h:q C):yL (λb C1=>if b=true then p C1 else q C1) (.bl b) C:=by cases e;exact h
def gJ{p q:CH->Prop}(h1:b=true->p C)(h2:b=false->q C):yL (λb C1=>if b=true then p C1 else q C1) (.bl b) C:=by
 cases b with
 |true=>exact h1 rfl
 |false=>exact h2 rfl
def lX{p q:CH->Prop}(h:q C):yL (λb C1=>if(!b)=true then p C1 else q C1) (.bl true) C:=h
theorem mQ(e:sEq x y=some b)(q:Q (.bl (k b)) C):Gk k x y C Q:=by simp_all[Gk]
def vQ x y:sEq (.str x) (.str y)=some (decide (x=y)):=rfl
def dh{k:Bool->Bool}{C:CH}{x y:Str}{p q:CH->Prop}(h:q C)(e:k (decide (x=y))=false:=by decide +kernel):Gk k (.str x) (.str y) C (yL λb C1=>if b=true then p C1 else q C1):=mQ (vQ _ _) (bQ e h)
def gj{k:Bool->Bool}{C:CH}{x y:Str}{p q:CH->Prop}(h:p C)(e:k (decide (x=y))=true:=by decide +kernel):Gk k (.str x) (.str y) C (yL λb C1=>if b=true then p C1 else q C1):=mQ (vQ _ _) (eX e h)
theorem eQ x y:sEq (.int x) (.int y)=some (decide (x=y)):=rfl
def sL(h:t (some x::ρ) C λb C1=>if b=true then c (some x::ρ) C1 λy C2=>q.length<sizeLine/\rJ t c ρ Q r (q++[y]) C2 else rJ t c ρ Q r q C1):rJ t c ρ Q (x::r) q C:=h
def cR(h:∀p,C p=none->Q (.ref p) (cQ C p (.lst q))):rJ t c ρ Q [] q C:=h
def wX(B:tF n=some T)(J:tyP C x=some k)(q:Q (.bl (cJ k T)) C):YI [x,.ty n] C Q:=by
 delta YI
 show(match tF n,tyP C x with|some T,some k=>Q (.bl (cJ k T)) C|_,_=>False)
 rwa[B,J]
theorem lM(h1:C a=some (.lst xs))(h2:C b=some (.lst ys))(z:xs.length+ys.length<=sizeLine)(q:∀p,C p=none->Q (.ref p) (cQ C p (.lst (xs++ys)))):bB (.ref a) (.ref b) C Q:=by
 delta bB
 show(match C a,C b with|some (.lst xs),some (.lst ys)=>xs.length+ys.length<=sizeLine/\∀p,C p=none->Q (.ref p) (cQ C p (.lst (xs++ys)))|_,_=>False);exact h1▸h2▸⟨z,q⟩
def eF(m:C p=some (.lst xs))(q:Q (.tup xs) C):iU [.ref p] C Q:=by
 delta iU
 show(match C p with|some (.lst xs)=>Q (.tup xs) C|_=>False)
 rwa[m]
def Gr(C C':CH):Prop:=∀b o,C b=some o->C' b=some o
def Gr.refl:Gr C C:=λ_ _ h=>h
theorem Gr.trans(h:Gr C C1)(h':Gr C1 C2):Gr C C2:=λb o e=>h' b o (h b o e)
theorem Gr.new(q:C p=none)o:Gr C (cQ C p o):=λb u e=>by
 rw[yQ (λz=>by subst z;rw[q] at e;cases e)];exact e
theorem fQ(h:E.nx ρ C):Gh E ρ C:=h
def aX(h:q ρ C λv C1=>u E (ρ.set i (some v)) C1):K9 (iI i q) u E ρ C:=h
def wV(h:t (E.wn (u E)) ρ C):K9 t u E ρ C:=h
def c_i(h:Q v C):cC v ρ C Q:=h
def mZ(P:iT->CH->Prop)(h1:∀K:iT->CH->Prop,(∀q C',P q C'->K q C')->t (E.wn K) ρ C)(h2:∀q C',P q C'->u E q C'):K9 t u E ρ C:=h1 _ h2
section
variable{X:Cx}{o e value i f:Expr}{es:List Expr}{pos pos':Pos}
noncomputable def pO(f:Str)(v:PV):List (Str×PV)->List (Str×PV)
 |[]=>[(f,v)]
 | (g,x)::r=>if g=f then(g,v)::r else(g,x)::pO f v r
def FP.put{K}{f}(h:Rep K H v t):∀{B}{fs},FP K H B fs->FP K H (vY f v B) (pO f t fs):=by
 intro B fs r
 induction r with
 |nil=>exact .cons ⟨rfl,h⟩ .nil
 |@cons p q L O h' r J =>
  obtain⟨g,x⟩:=p;obtain⟨g',y⟩:=q;obtain⟨rfl,h2⟩:=h';unfold vY pO
  by_cases e:g=f
  .rw[A4 e,A4 e];exact .cons ⟨rfl,h⟩ r
  .rw[A7 e,A7 e];exact .cons ⟨rfl,h2⟩ J
def FP.look{K}{f}:∀{B}{fs:List (Str×PV)},FP K H B fs->(∃v t,B.lookup f=some v/\fs.lookup f=some t/\Rep K H v t)\/(B.lookup f=none/\fs.lookup f=none):=by
 intro B fs r
 induction r with
 |nil=>exact .inr ⟨rfl,rfl⟩
 |@cons p q L O h' r J =>
  obtain⟨g,x⟩:=p;obtain⟨g',y⟩:=q;obtain⟨rfl,h2⟩:=h';unfold List.lookup
  cases e:(f==g) with
  |true=>exact .inl ⟨x,y,rfl,rfl,h2⟩
  |false=>exact J
@[irreducible] def Eb(c:Addr)(f:Str):PV->CH->K1->Prop:=λx C Q=>match x with
 |.ref p=>match C p with
  |some (.ins q _ fs)=>q=c/\match fs.lookup f with
   |some v=>Q v C
   |none=>False
  |_=>False
 |_=>False
def kJ{f}(hc:Cls X.K c)(hn:NoAttr X.K c f)(ho:CE X o co)(hb:attributeBase o f X.env (eval o X.env)=eval o X.env:=by rfl):CE X (.Attribute o f pos) (λρ C Q=>co ρ C λx C1=>Eb c f x C1 Q):=
 ⟨JE.weak ⟨pe_fld ho.h.h hb⟩ λσ H Q zz=>yZ zz λρ C R s h ab Z=>⟨ρ,C,_,s,h,ab,λx H1 px C1 q rx h1 aa=>by
  delta Eb at q
  split at q
  .next p =>
   split at q
   .next O dx fs U =>
    obtain⟨rfl,q⟩:=q
    split at q
    .next t J =>
     refine oX (h1 p _ U) λgs Y r=>?_;cases rx
     rcases FP.look r with ⟨v,t',L,B,rv⟩|⟨L,B⟩
     .rw[J] at B
      cases B;exact⟨p,O,dx,gs,v,rfl,Y,hc,hn,L,Z v H1 t C1 q rv h1 aa⟩
     .rw[J] at B;cases B
    .exact q.elim
   .exact q.elim
  .exact q.elim⟩⟩
@[irreducible] def JZ(c:Addr)(f:Str):PV->PV->CH->(CH->Prop)->Prop:=λx v C Q=>match x with
 |.ref p=>match C p with
  |some (.ins q dx fs)=>q=c/\fs.length<1000/\Q (cQ C p (.ins q dx (pO f v fs)))
  |_=>False
 |_=>False
def fM{f}{U}(hc:Cls X.K c)(hn:NoAttr X.K c f)(ho:CE X o co)(hv:CE X value U)(hs:swapsWith value (some (.Attribute o f pos')) pos.line X.env=pure false:=by rfl):
  CS X (.Assign [.Attribute o f pos'] value pos) (λE ρ C=>U ρ C λv C1=>co ρ C1 λx C2=>JZ c f x v C2 λC3=>E.nx ρ C3):=⟨JS.weak ⟨ps_fld ho.h.h hv.h.h hs⟩ λD σ H zz=>yZ zz λρ C E s h aa f'=>
 ⟨ρ,C,_,s,h,aa,λv H1 ae C1 q1 rv h1 J=>⟨ρ,C1,_,s.dg (J.dg h),h1,q1,λx H2 px C2 q rx h2 L=>by
  have ab:=rv.dg (L.dg h1)
  delta JZ at q
  split at q
  .next p =>
   split at q
   .next O dx fs Y =>
    obtain⟨rfl,ql,q⟩:=q;refine oX (h2 p _ Y) λZ B r=>?_;cases rx;have m:iu H2 (upd H2 p (.ins O dx (vY f v Z))):=iu.mut B rfl _;exact⟨p,O,dx,Z,rfl,B,hc,hn,by exact(Paired.length r)▸ql,f'.nx σ _ ρ _ q (((s.dg (J.dg h)).dg (L.dg h1)).dg m) (h2.put B rfl ⟨_,iQ,Paired.mapP (FP.put ab r) λ_ _ z=>⟨z.1,z.2.dg m⟩⟩) (J.trans (L.trans (Fw.put Y _ _)))⟩
   .exact q.elim
  .exact q.elim⟩⟩⟩
def eO(c:Addr)(m:Str)(x:PV)(C:CH):Prop:=match x with
 |.ref p=>match C p with
  |some (.ins q _ fs)=>q=c/\fs.lookup m=none
  |_=>False
 |_=>False
def QY{K}(d:eO c m t C)(r:Rep K H x t)(h:dj K H C):∃a dx q,x=.ref a/\t=.ref a/\H a=some (.ins c dx q)/\q.lookup m=none:=by
 delta eO at d
 split at d
 .split at d
  .next e =>
   obtain⟨rfl,d⟩:=d;obtain⟨q,L,O⟩:=(h _ _ e);cases r;refine⟨_,_,q,rfl,rfl,L,?_⟩
   rcases FP.look O with ⟨v,t',B,J,_⟩|⟨B,J⟩
   .rw[J] at d;cases d
   .exact B
  .exact d.elim
 .exact d.elim
def Gi(c:Addr)(m:Str)(G:GC)(co:f9)(ca:o9):f9:=λρ C Q=>co ρ C λx C1=>eO c m x C1/\ca ρ C1 λxs C2=>G (x::xs) C2 Q
def Do{apos}{pl}(hc:Cls X.K c)(aa:Y3 X.K c m fa)(F:FnOk X.prog X.w X.K X.mg X.base CX k fa fd ps (qm X.K G))(ae:Room k X.A)(hb:Binds X.K fd ps [])(hx:jV CX X E)(ho:CE X o co)(Z:CA X (e::es) ca)(af:starEach (e::es) X.env=(false,eval e X.env)::starEach es X.env:=by rfl)(ab:(backTo pos (starEach es X.env)).any (·.1)=false:=by rfl)(ht:eval (.Call (.Attribute o m apos) (e::es) [] pos) X.env=(do
   let B <- eval o X.env
   standAt apos.atName
   let (f,first) <- holding [B] (getMethod B m pl)
   callWith pos f first (backTo pos (starEach (e::es) X.env)) (backToKw pos (keywordEach [] X.env))):=by rfl):
  CE X (.Call (.Attribute o m apos) (e::es) [] pos) (Gi c m G co ca):=
 ⟨JE.weak ⟨pe_meth ho.h.h hc aa F ae hb .nil hx Z.h.h af ab ht⟩ λσ H Q zz=>yZ zz λρ C R s h ah f=>⟨ρ,C,_,s,h,ah,λx H1 px C1 J rx h1 q=>by
  obtain⟨a,dx,Y,rfl,rfl,L,ag⟩:=QY J.1 rx h1
  exact⟨a,dx,Y,rfl,L,ag,ρ,C1,_,s.dg (q.dg h),h1,J.2,λxs H2 ts C2 q2 ai h2 U=>⟨.ref a::ts,C2,R,.cons (.ref a) (by grind),h2,q2,λv H' t C' q' r' h' O=>f v H' t C' q' r' h' (q.trans (U.trans O))⟩⟩⟩⟩
def Rh(c:Addr)(G:GC)(ca:o9):f9:=λρ C Q=>ca ρ C λxs C1=>∀x dx,C1 x=none->C1 dx=none->dx≠x->G (.ref x::xs) (cQ C1 x (.ins c dx [])) λv C2=>v=.non/\Q (.ref x) C2
def Dq{p}(M:Mk X.K c fa)(F:FnOk X.prog X.w X.K X.mg X.base CX k fa fd ps (qm X.K G))(af:Room (k+1) X.A)(aa:Gl X x)(ab:X.mg x=some (.ref c))(Y:Binds X.K fd ps [])(hx:jV CX X E)(U:CA X (e::es) ca)(Z:(x==("__debug__":Str))=false:=by decide)(ag:starEach (e::es) X.env=(false,eval e X.env)::starEach es X.env:=by rfl)(ae:(backTo pos (starEach es X.env)).any (·.1)=false:=by rfl):CE X (.Call (.Name x p) (e::es) [] pos) (Rh c G ca):=
 ⟨JE.weak ⟨pe_make M F af aa ab Y .nil hx U.h.h Z ag ae⟩ λσ H Q zz=>yZ zz λρ C R s h ah f=>⟨ρ,C,_,s,h,ah,λxs H1 ts C1 q1 ai h1 O=>λy dx hy q nd=>by
  have B:upd H1 dx (.own y) y=none:=by rwa[pX (Ne.symm nd)]
  have k2:iu (upd H1 dx (.own y)) (upd (upd H1 dx (.own y)) y (.ins c dx [])):=iu.new B _;refine⟨.ref y::ts,cQ C1 y (.ins c dx []),_,.cons (.ref y) (by rw[AM];exact(ai.dg (iu.new q _)).dg k2),(h1.new q (.own y)).lay B ⟨[],iQ,.nil⟩,q1 y dx (h1.fresh hy) (h1.fresh q) nd,λv H' t C' J r' h' L=>?_⟩;obtain⟨rfl,J⟩:=J;cases r'
  exact⟨rfl,f _ H' _ C' J (.ref y) h' (O.trans (((Fw.new q _).trans (Fw.lay B _ _)).trans L))⟩⟩⟩
end
end CL
namespace L2
open PySem PySem.Spec PyProof.Rows PySem.W
section
variable{X:Cx}
def YN{bs:List Bool}{its:List Value}(r:Vals (bs.map V.bl) its):its=bs.map Value.bool:=by
 induction bs generalizing its with
 |nil=>cases r;rfl
 |cons b bs q =>
  rw[A5] at r
  cases r with
  |cons a t =>
   cases (show _=Value.bool b from a);rw[q t]
   rfl
def ZY:V->List V->Hp->VK->Prop:=λx vs H Q=>∃(l:Addr)(bs:List Bool)(j:Nat),x=.ref l/\vs=[.bl true]/\H l=some (.lst (bs.map V.bl))/\bs[j]?=some true/\(∀m,m<j->bs[m]?=some false)/\Q (.int j) H
def Kx:MtM X "list.index" ZY:=by
 intro ww s σ H x vs v us Q I rx rv h;obtain⟨l,bs,j,rfl,rfl,O,hj,Z,aa⟩:=h;cases rx;obtain⟨u,rfl,ru⟩:=rv.one;cases (show u=Value.bool true from ru);obtain⟨z,its,n,r,hl,e⟩:=I.lstM O;have L:=YN r;subst L
 have B:j<bs.length:=by
  rcases DC j bs.length with h|h
  .exact h
  .rw[List.getElem?_eq_none h] at hj;cases hj
 have hz:=oU;have hb:bs.length<=sizeLine:=by rw[AA] at z;exact z
 have ae:∀v:Value,Bool:=λv=>match v with
  |.bool b=>b
  |_=>false
 refine BB F.slot_list_index ⟨_,e,rfl⟩ F.entry_list_index (F.args_list_index_2 _ _)
  (SeqAt.list_indexAt l (bs.map Value.bool).toArray n none #[] (.bool true) (λv=>v==.bool true) j (by simpa using B) (by omega) ?_ ?_) ⟨e,λy q=>?_,⟨.int j,H,I.tok _,⟨_,rfl⟩,aa⟩⟩
 .have:bs[j]=true:=by rw[AJ B] at hj;exact Av hj
  simp[this]
 .intro m ab U
  have Y:m<bs.length:=by omega
  have:bs[m]=false:=by have:=Z m U;rw[AJ Y] at this;exact Av this
  simp[this]
 .have q:y∈bs.map Value.bool:=by simpa using q
  obtain⟨b,_,rfl⟩:=AX.mp q;have:=DN (A:=X.A.in1) (s:=s) b true;have J:(Value.bool b==Value.bool true)=(b==true):=by cases b<;>rfl
  rw[J];exact this
end
end L2
namespace CL
open PySem PySem.Spec L2 PySem.W
open PyProof.Rows hiding St
section
variable{κ:Type}[DecidableEq κ]
end
section
variable{X:Cx}{a b c e o i f value:Expr}{es:List Expr}{pos pos':Pos}
@[irreducible] def Vb:GC:=λts C Q=>match ts with
 |[.int i,.int j]=>Q (.int (if j > i then j else i)) C
 |_=>False
def Du{K}:rm K (λxs H Q=>∃i j,xs=[.int i,.int j]/\Q (.int (if j > i then j else i)) H) Vb:=λxs ts H C Q R L h q f=>by
 delta Vb at q
 split at q
 .obtain⟨O,U,rfl,B,J⟩:=ZX L
  cases B;cases J
  exact⟨_,_,rfl,f _ H _ C q (.int _) h Fw.refl⟩
 .exact q.elim
@[irreducible] def zN:PV->List PV->CH->K1->Prop:=λx ts C Q=>match x,ts with
 |.ref a,[.bl true]=>match C a with
  |some (.lst xs)=>∃(bs:List Bool)(j:Nat),xs=bs.map PV.bl/\bs[j]?=some true/\(∀m,m<j->bs[m]?=some false)/\Q (.int (j:Nat)) C
  |_=>False
 |_,_=>False
theorem iR{K:DQ}{H:Hp}:∀{bs:List Bool}{vs:List V},du K H vs (bs.map PV.bl)->vs=bs.map V.bl
 |[],_,r=>by cases r;rfl
 |b::bs,_,r=>by
  cases r with
  |cons h r=>cases h;rw[iR r];rfl
def Zv{K:DQ}:Ej K ZY zN:=λx Y xs ts H C Q R U L h q f=>by
 unfold zN at q
 split at q
 .split at q
  .next ys B =>
   obtain⟨bs,j,rfl,h1,h2,q⟩:=q;obtain⟨v,rfl,r⟩:=nZ L;obtain⟨vs,J,O⟩:=h _ _ B;cases U;cases r;exact⟨_,bs,j,rfl,rfl,by rw[J,iR O],h1,h2,f _ H _ C q (.int _) h Fw.refl⟩
  .exact q.elim
 .exact q.elim
noncomputable def wR:PV->Option V
 |.non=>some .non
 |.bl b=>some (.bl b)
 |.int i=>some (.int i)
 |.str x=>some (.str x)
 |_=>none
def kE{K}(r:Rep K H v t)(e:wR t=some w):v=w/\vF w=true:=by
 cases r<;>cases e<;>exact⟨rfl,rfl⟩
noncomputable def cY:List PV->Option (List V)
 |[]=>some []
 |t::r=>match wR t,cY r with
  |some v,some vs=>some (v::vs)
  |_,_=>none
def Zq{K}(r:du K H vs ts)(e:cY ts=some ws):vs=ws/\ws.all vF=true:=by
 induction ts generalizing vs ws with
 |nil=>cases r;cases e;exact⟨rfl,rfl⟩
 |cons t ts O =>
  cases r with
  |cons h r =>
   unfold cY at e
   split at e
   .next v us q B =>
    cases e;obtain⟨rfl,J⟩:=kE h q;obtain⟨rfl,L⟩:=O r B;exact⟨rfl,by rw[BS,J,L];rfl⟩
   .cases e
noncomputable def oN(C:CH):PV->Option (List PV)
 |.tup xs=>some xs
 |.kt xs=>some xs
 |.ref a=>match C a with
  |some (.lst xs)=>some xs
  |_=>none
 |_=>none
@[irreducible] def eR(q:Bool):kh:=λx y C Q=>match oN C y,wR x with
 |some ts,some v=>match cY ts with
  |some vs=>Q (.bl (if q then !inV v vs else inV v vs)) C
  |none=>False
 |_,_=>False
def dJ{K}:je K (rIn K aa) (eR aa):=λx y px ae H C Q R rx ry h q f=>by
 delta eR at q
 split at q
 .next ts v B J =>
  split at q
  .next vs L =>
   obtain⟨rfl,U⟩:=kE rx J
   have Z:∃p ws,y=.ref p/\(SqL K H p ws\/SqT K H p ws)/\du K H ws ts:=by
    cases ry<;>try (cases B)
    .next a =>
     delta oN at B
     dsimp only at B
     split at B
     .next xs e =>
      cases B;exact oX (h _ _ e) λus O ru=>⟨a,us,rfl,.inl (SqL.of O),ru⟩
     .cases B
    .next p us Y r=>exact⟨p,us,rfl,.inr (SqT.of Y),r⟩
    .grind
   obtain⟨p,ws,rfl,hs,ab⟩:=Z;obtain⟨rfl,fs⟩:=Zq ab L;exact⟨p,ws,rfl,hs,U,fs,f _ H _ C q (.bl _) h Fw.refl⟩
  .exact q.elim
 .exact q.elim
@[irreducible] def JY:kh:=λx y C Q=>match x,y with
 |.ref a,.int k=>match C a with
  |some (.lst xs)=>-(2 ^ 63)<=k/\k<2 ^ 63/\xs.length*k.toNat<=sizeLine/\∀p,C p=none->Q (.ref p) (cQ C p (.lst (List.replicate k.toNat xs).flatten))
  |_=>False
 |.tup [z],.int k=>0<=k/\k<64/\Q (.tup (List.replicate k.toNat z)) C
 |_,_=>False
theorem du.flat{K:DQ}{H:Hp}{vs:List V}{ts:List PV}(r:du K H vs ts):∀n,du K H (List.replicate n vs).flatten (List.replicate n ts).flatten
 |0=>.nil
 |n+1=>by
  rw[Ck,List.flatten_cons,Ck,List.flatten_cons];exact r.append (du.flat r n)
theorem du.rep{K:DQ}{H:Hp}{v:V}{t:PV}(r:Rep K H v t):∀n,du K H (List.replicate n v) (List.replicate n t)
 |0=>.nil
 |n+1=>.cons r (du.rep r n)
def uA:OpR X (binaryOp .Mult) (λx y H Q=>rRep x y H Q\/VT x y H Q):=OpR.or op_rep wz
def lI{K:DQ}:je K (λx y H Q=>rRep x y H Q\/VT x y H Q) JY:=λx y Z aa H C Q R L O h q f=>by
 unfold JY at q
 split at q
 .split at q
  .next xs e =>
   obtain⟨vs,U,J⟩:=h _ _ e;cases L;cases O
   refine .inl ⟨_,_,vs,rfl,rfl,U,q.1,q.2.1,by rw[J.len];exact q.2.2.1,λp B=>?_⟩;exact f _ _ _ _ (q.2.2.2 p (h.fresh B)) (.ref p) (h.lay B ⟨_,iQ,(du.flat J _).dg (iu.new B _)⟩) (Fw.lay B _ _)
  .exact q.elim
 .cases O
  cases L with
  |tup e r =>
   obtain⟨v,rfl,Y⟩:=nZ r;refine .inr ⟨_,_,v,rfl,rfl,e,q.1,q.2.1,λp H' s B _=>?_⟩;exact f _ H' _ C q.2.2 (.tup B (du.rep (Y.dg λb v _ e=>s b v e) _)) (iO h s) (Jq s)
 .exact q.elim
end
section
variable{K:DQ}{H:Hp}{X:Cx}
end
def ZC:List (f9×f9)->iT->CH->(List (PV×PV)->CH->Prop)->Prop
 |[],_,C,Q=>Q [] C
 | (B,J)::r,ρ,C,Q=>B ρ C λx C1=>J ρ C1 λy C2=>ZC r ρ C2 λps q=>Q ((x,y)::ps) q
abbrev UW(K:DQ)(H:Hp):List (V×V)->List (PV×PV)->Prop:=Paired λp q=>Rep K H p.1 q.1/\Rep K H p.2 q.2
noncomputable def Fl(K:DQ)(cs:List (f9×f9)):List (TE×TE):=cs.map λp=>(yK K (Rep K) p.1,yK K (Rep K) p.2)
structure Sh(X:Cx)(pos:Pos)(keys:List (Option Expr))(values:List Expr)(cs:List (f9×f9)):Prop where
 h:PPs X pos keys values (Fl X.K cs)
def JH:Sh X pos [] [] []:=⟨pps_nil⟩
def aV{q}(J:CE X k B)(O:CE X v q)(L:Sh X pos ks vs cs):Sh X pos (some k::ks) (v::vs) ((B,q)::cs):=⟨V3 J.h.h O.h.h L.h⟩
def Zf{K}:∀{cs}{H}{C}{R}{Q},fu K H σ ρ->dj K H C->ZC cs ρ C R ->
  (∀vs H' ts C',R ts C'->UW K H' vs ts->dj K H' C'->Fw H C H' C'->Q vs H')->eE (Fl K cs) σ H Q:=by
 intro cs
 induction cs with
 |nil=>intro H C R Q s h q f;exact f [] H [] C q .nil h Fw.refl
 |cons p cs Z =>
  obtain⟨ck,aa⟩:=p;intro H C R Q s h q f;exact⟨ρ,C,_,s,h,q,λx H1 px C1 q1 rx h1 B=>⟨ρ,C1,_,s.dg (B.dg h),h1,q1,λy H2 ab C2 q2 ry h2 J=>Z ((s.dg (B.dg h)).dg (J.dg h1)) h2 q2 λvs U ts O q3 r3 Y L=>f _ U _ O q3 (.cons ⟨(rx.dg (J.dg h1)).dg (L.dg h2),ry.dg (L.dg h2)⟩ r3) Y (B.trans (J.trans L))⟩⟩
noncomputable def Nk:List (PV×PV)->Option (List (Key×PV))
 |[]=>some []
 | (x,y)::r=>match sV x,Nk r with
  |some k,some ps=>some ((k,y)::ps)
  |_,_=>none
def v6{K}(r:UW K H vs ts)(e:Nk ts=some ps):∃kvs,vs=kvs.map (λB=>(kV B.1,B.2))/\KP K H kvs ps:=by
 induction r generalizing ps with
 |nil=>cases e;exact⟨[],rfl,.nil⟩
 |@cons p q l1 l2 h r U =>
  obtain⟨x,y⟩:=q;unfold Nk at e
  split at e
  .next k aa J L =>
   cases e;obtain⟨kvs,rfl,Y⟩:=U L;obtain⟨ab,Z⟩:=p;have O:=yU h.1 J;subst O;exact⟨(k,Z)::kvs,rfl,.cons ⟨rfl,h.2⟩ Y⟩
  .cases e
section
variable{X:Cx}{pos:Pos}{keys:List (Option Expr)}{values:List Expr}{cs:List (f9×f9)}
@[irreducible] def qN(p:Addr):List (PV×PV)->CH->K1->Prop:=λts C Q=>C p=some (.dK [])/\match Nk ts with
 |some ps=>ps.length<=15/\Q (.ref p) (cQ C p (.dK (jK [] ps)))
 |none=>False
def Rr(cs:List (f9×f9)):f9:=λρ C Q=>∀p,C p=none->ZC cs ρ (cQ C p (.dK [])) λts C2=>qN p ts C2 Q
def JR(h:Sh X pos keys values cs)(ab:keys.all (·.isSome)=true:=by rfl)(hl:keys.length=values.length:=by rfl)(h0:keys≠[]:=by exact λz=>nomatch z)(aa:keys.length<=15:=by decide):CE X (.Dict keys values pos) (Rr cs):=
 ⟨JE.weak ⟨pe_disp h.h ab hl h0 aa⟩ λσ H Q zz=>yZ zz λρ C R s O ae f=>λp B=>by
  refine Zf (C:=cQ C p (.dK [])) (s.dg (iu.new B _)) (O.lay B ⟨[],iQ,.nil⟩) (ae p (O.fresh B)) λvs H2 ts C2 q r2 h2 Z=>?_;unfold qN at q;obtain⟨L,q⟩:=q
  split at q
  .next ps Y =>
   obtain⟨kvs,rfl,U⟩:=v6 r2 Y;obtain⟨us,J,ru⟩:=(h2 p _ L);have z:us=[]:=by cases ru;rfl
   subst z;refine⟨J,kvs,rfl,by exact(Paired.length U)▸q.1,?_⟩;exact f _ _ _ _ q.2 (.ref p) (h2.put J rfl ⟨_,iQ,Paired.mapP (KP.merge .nil U) λ_ _ z=>⟨z.1,z.2.dg (iu.mut J rfl _)⟩⟩) ((Fw.lay B _ _).trans (Z.trans (Fw.put L _ _)))
  .exact q.elim⟩
end
def vI{A:Around}{k:Nat}(q:Room k A):A.units<cLine:=by have:=q.un;omega
section
variable{C:CH}{p:Addr}{Q:K1}{x y v z:PV}
def yJ(m:C p=some (.ins c dx fs))(e:fs.lookup f=some v)(q:Q v C):Eb c f (.ref p) C Q:=by simp_all[Eb]
def aB{Q}(m:C p=some (.ins c dx fs))(h:fs.length<1000)(q:Q (cQ C p (.ins c dx (pO f v fs)))):JZ c f (.ref p) v C Q:=by simp_all[JZ]
def gX(m:C p=some (.ins c dx fs))(e:fs.lookup f=none):eO c f (.ref p) C:=by
 delta eO
 dsimp only;exact m▸⟨rfl,e⟩
def eV(m:C p=some (.dK kvs))(B:sV y=some k)(J:(oF kvs k).getD z=v)(q:Q v C):J6 (.ref p) y z C Q:=by
 delta J6
 dsimp only;rw[m,B];show Q ((oF kvs k).getD z) C
 rwa[J]
def oV(m:C p=some (.dK kvs)):W0 (.ref p) C:=by
 delta W0
 dsimp only;rw[m]
 trivial
def aO{B:Bool}(h1:oN C y=some ts)(h2:wR x=some w)(J:cY ts=some vs)(q:Q (.bl (if B then !inV w vs else inV w vs)) C):eR B x y C Q:=by simp_all[eR]
def aG(h:q ρ C λt C1=>match t with | .tup xs=>zW g u E xs ρ C1 | .kt xs=>zW g u E xs ρ C1|_=>False):bE q g u E ρ C:=by
 delta bE
 exact h
end
def vR(q:ρ[i]?=some (some (.tup xs)))(h:zW g u E xs ρ C):bE (zK i) g u E ρ C:=by
 delta bE zK
 rwa[q]
def Fg(q:Q (.int (if j > i then j else i)) C):Vb [.int i,.int j] C Q:=by
 delta Vb
 exact q
def uJ(I:List PV->iT->CH->Prop)(O:∀x r ρ C,I (x::r) ρ C->∀L:iT->CH->Prop,(∀q C',I r q C'->L q C')->g x ρ C λU C1=>u (E.lp L) U C1)(B:∀ρ C,I [] ρ C->E.nx ρ C):
  ∀xs ρ C,I xs ρ C->zW g u E xs ρ C:=by
 intro xs
 induction xs with
 |nil=>intro ρ C h;exact B ρ C h
 |cons x r J=>intro ρ C h;exact O x r ρ C h _ J
def mW(I:List PV->List PV->CH->Prop)(O:∀x r q C,I (x::r) q C->∀L:K1,(∀y C2,q.length<sizeLine/\I r (q++[y]) C2->L y C2)->c (some x::ρ) C L)(B:∀q C,I [] q C->∀p,C p=none->Q (.ref p) (cQ C p (.lst q))):
  ∀xs q C,I xs q C->rJ aU c ρ Q xs q C:=by
 intro xs
 induction xs with
 |nil=>intro q C h;exact B q C h
 |cons x r J =>
  intro q C h;exact O x r q C h _ λy C2 z=>⟨z.1,J _ _ z.2⟩
def tL(I:List PV->List PV->CH->Prop)(B:∀r q C,I r q C->S C)(U:∀x r q C,I (x::r) q C->∀L:K1,(∀y C2,q.length<sizeLine/\I r (q++[y]) C2->L y C2)->c (some x::ρ) C L)(J:∀q C,I [] q C->∀p,C p=none->Q (.ref p) (cQ C p (.lst q))):
  ∀xs q C,I xs q C->oY S aU c ρ Q xs q C:=by
 intro xs
 induction xs with
 |nil=>intro q C h;exact⟨B _ _ _ h,J q C h⟩
 |cons x r O =>
  intro q C h;exact⟨B _ _ _ h,U x r q C h _ λy C2 z=>⟨z.1,O _ _ z.2⟩⟩
def bZ(g:Gr C C')(h:C' p=none):C p=none:=by
 cases e:C p with
 |none=>rfl
 |some o=>rw[g p o e] at h;cases h
def KR{X:Cx}{pos:Pos}(k:Nat){i:Nat}{y x:Str}{ae U af:Pos}{Y O:Expr}{Z:List Expr}{scope:Scope}{wi:TI}{aa:iT->CH->(List PV->CH->Prop)->Prop}{t:jz}{c:f9}(ak:i≠k)(ag:(X.at_ k).N.Nodup)(hi:(X.at_ k).N[i]?=some y)(hy:Loc (X.at_ k).env.scope y)(hc:(X.at_ k).calm=true)(hN:(x::(X.at_ k).N).Nodup)(K:∃q,wB (X.at_ k) x scope q)(hI:CI (X.at_ k) (.Name x U) O wi aa)(ht:∀q J C L B,CF (lK (X.at_ k) x scope q J C L B) Z t)(ah:∀q J C L B,CE (lK (X.at_ k) x scope q J C L B) Y c)(hs:∀v,foldedSetIterable O (X.at_ k).env v=pure v:=by intro _;rfl)(aj:swapsWith (.ListComp Y [⟨.Name x U,O,Z,0⟩] scope pos) (some (.Name y ae)) af.line (X.at_ k).env=pure true:=by rfl)(ai:(X.at_ k).fn y=true\/(X.at_ k).env.scope.names.lookup y=some .local:=by first|exact .inl rfl|exact .inr rfl|assumption):
  CS X (.Assign [.Name y ae] (.ListComp Y [⟨.Name x U,O,Z,0⟩] scope pos) af) (λE ρ C=>Xw aa t c (ρ.set k none) C λv C1=>E.nx ((ρ.set k none).set i (some v)) C1):=by
 obtain⟨q,K⟩:=K;refine⟨JS.weak (Fv k (yj k (aA (te:=yK X.K (Rep X.K) c) (tc:=yK X.K sP t) ag hi hy hc hN K hI.j (λJ C L B=>(ht q J C L B).h) (λJ C L B=>(ah q J C L B).h) hs aj ai))) λD σ H zz=>yZ zz λρ C E s h ao f=>⟨dC k σ,?_⟩⟩;refine uL (X:=X.at_ k) (Q:=λx H'=>zT k ((σ.set k none).set i (some x))/\D.nx ((σ.set k none).set i (some x)) H') hI ⟨ρ.set k none,C,_,s.unset k,h,ao,λx H1 U C1 q1 rx h1 ab=>⟨λv e=>?_,f.nx _ H1 _ C1 q1 (((s.unset k).dg (ab.dg h)).set rx i) h1 ab⟩⟩
 rw[BK ak] at e;exact dC k σ v e
section
variable{X:Cx}{pos:Pos}
abbrev g2(K:DQ):TG:=gTup K 2 (fP (uB 0) (fP (uB 1) gNil))
abbrev g3(K:DQ):TG:=gTup K 3 (fP (uB 0) (fP (uB 1) (fP (uB 2) gNil)))
end
end CL
namespace L2
open PySem PySem.W PySem.Spec PyProof.Rows
end L2
namespace CL
open PySem PySem.Spec L2 PySem.W
open PyProof.Rows hiding St
section
variable{X:Cx}{a b c e o i f value:Expr}{es:List Expr}{pos pos':Pos}
@[irreducible] def cInt:GC:=λts C Q=>match ts with
 |[.bl b]=>Q (.int (if b then 1 else 0)) C
 |[.int i]=>Q (.int i) C
 |_=>False
def Dw{K}:rm K (λxs H Q=>(∃i,xs=[.int i]/\Q (.int i) H)\/∃k,xs=[.bl k]/\Q (.int (if k then 1 else 0)) H) cInt:=λxs ts H C Q R B h q f=>by
 delta cInt at q
 split at q
 .obtain⟨v,rfl,r⟩:=nZ B
  cases r;exact .inr ⟨_,rfl,f _ H _ C q (.int _) h Fw.refl⟩
 .obtain⟨v,rfl,r⟩:=nZ B
  cases r;exact .inl ⟨_,rfl,f _ H _ C q (.int _) h Fw.refl⟩
 .exact q.elim
@[irreducible] def aM:PV->List PV->CH->K1->Prop:=λx ts C Q=>match x,ts with
 |.ref a,[.ref b]=>match C a,C b with
  |some (.lst xs),some (.lst ys)=>xs.length+ys.length<=sizeLine/\Q .non (cQ C a (.lst (xs++ys)))
  |_,_=>False
 |_,_=>False
def rY{K}:Ej K Z0 aM:=λx px xs ps H C Q R rx Z h q f=>by
 delta aM at q
 split at q
 .split at q
  .next ys zs J U =>
   refine oX (h _ _ J) λvs B L=>oX (h _ _ U) λws Y O=>?_;obtain⟨v,rfl,r⟩:=nZ Z;cases rx;cases r
   exact⟨_,_,vs,ws,rfl,rfl,B,Y,by exact L.len▸O.len▸q.1,f _ _ _ _ q.2 .non (h.put B rfl ⟨_,iQ,(L.append O).dg (iu.mut B rfl _)⟩) (Fw.put J _ _)⟩
  .exact q.elim
 .exact q.elim
def LR(q:PV->List PV->CH->K1->Prop)(co:f9):f9:=λρ C Q=>co ρ C λx C1=>O3 x C1/\q x [] C1 Q
def dM{id}{apos cpos}(ae:PlainAttrs "list")(ag:Slot "list" name id)(ab:typeOf (.builtin id)=pure (.type "method_descriptor"))(Z:MtR X id r)(aa:Ej X.K r J)(ho:CE X o co)(U:attributeBase o name X.env (eval o X.env)=eval o X.env:=by rfl)(Y:(apos.endLine==cpos.line)=true:=by rfl):CE X (.Call (.Attribute o name apos) [] [] cpos) (LR J co):=⟨JE.weak ⟨pe_bm0 ae ag ab Z ho.h.h U Y⟩ λσ H Q zz=>yZ zz λρ C R s h af f=>
 ⟨ρ,C,_,s,h,af,λx H1 px C1 q B h1 O=>⟨WZ q.1 B h1,aa x px [] [] H1 C1 Q R B .nil h1 q.2 λv H' t C' q' r' h' L=>f v H' t C' q' r' h' (O.trans L)⟩⟩⟩
@[irreducible] def Xu:PV->Option Int->Option Int->CH->K1->Prop:=λx lo hi C Q=>match x with
 |.tup xs=>¬ (HT.sIx xs.length 0 lo=0/\HT.sIx xs.length xs.length hi=xs.length)/\Q (.tup (yY xs lo hi)) C
 |_=>False
def eL{lo}(aa:CE X e Y)(hl:Gu X lo Z)(hu:Gu X hi ch):CE X (.Subscript e (.Slice lo hi none p2) pos) (R4 Xu Y Z ch):=⟨JE.weak ⟨kC sl_tup aa.h.h hl.h.h hu.h.h⟩ λσ H Q zz=>yZ zz λρ C R s h ab f=>
 ⟨ρ,C,_,s,h,ab,λx H1 px C1 q1 rx h1 B=>⟨ρ,C1,_,s.dg (B.dg h),h1,q1,λl H2 l' C2 q2 e2 h2 J=>⟨ρ,C2,_,(s.dg (B.dg h)).dg (J.dg h1),h2,q2,λu H3 u' U q e3 h3 O=>by
  cases e2;cases e3
  delta Xu at q
  split at q
  .have ae:=rx.dg ((J.trans O).dg h1)
   cases ae with
   |@tup a vs ts e r =>
    exact⟨a,vs,rfl,SqT.of e,by rw[r.len];exact q.1,λp L=>f _ _ _ U q.2 (.tup iQ ((r.cut l u).dg (iu.new L _))) (h3.new L _) (B.trans (J.trans (O.trans (Fw.new L _))))⟩
  .exact q.elim⟩⟩⟩⟩
end
section
variable{X:Cx}
noncomputable def mN:List PV->Option (List Str)
 |[]=>some []
 |.str x::r=>(mN r).map (x :: ·)
 |_=>none
def VE(e:mN ts=some zs):ts=zs.map PV.str:=by
 induction ts generalizing zs with
 |nil=>cases e;rfl
 |cons t ts q =>
  unfold mN at e
  split at e
  .lia
  .rename_i x r h
   cases h
   cases z:mN ts with
   |none=>rw[z] at e;cases e
   |some ds=>rw[z] at e;cases e;rw[q z];rfl
  .cases e
def Kh{K:DQ}{H:Hp}{zs:List Str}{vs:List V}(r:du K H vs (zs.map PV.str)):vs=zs.map V.str:=by
 induction zs generalizing vs with
 |nil=>cases r;rfl
 |cons z zs q =>
  cases r with
  |cons h r=>cases h;rw[q r];rfl
end
section
variable{X:Cx}{pos:Pos}
end
end CL
namespace L2
open PySem PySem.W PyProof.Rows
noncomputable def drop(H:Hp)(a:Addr):Hp:=λb=>if b=a then none else H b
section
variable{X:Cx}
def qT:bootBuiltins "reversed"=some (.type "reversed"):=by rfl
end
end L2
namespace CL
open PySem PySem.Spec L2 PySem.W
open PyProof.Rows hiding St
section
variable{X:Cx}{a b c e o i f value:Expr}{es:List Expr}{pos pos':Pos}
@[irreducible] def Va:PV->List PV->CH->K1->Prop:=λx ts C Q=>match x,ts with
 |.ref a,[]=>match C a with
  |some (.lst xs)=>match xs[xs.length-1]? with
   |some y=>Q y (cQ C a (.lst xs.dropLast))
   |none=>False
  |_=>False
 |_,_=>False
def sG{K}:Ej K rPop Va:=λx px xs ps H C Q R rx aa h q f=>by
 delta Va at q
 split at q
 .split at q
  .next ys L =>
   split at q
   .next y O =>
    obtain⟨vs,B,J⟩:=(h _ _ L);cases aa;cases rx;obtain⟨v,Y,Z⟩:=(J.get O)
    have U:du K H vs.dropLast ys.dropLast:=by
     rw[List.dropLast_eq_take,List.dropLast_eq_take,J.len];exact J.take _
    exact⟨_,vs,v,rfl,rfl,B,by exact J.len▸Y,f _ _ _ _ q (Z.dg (iu.mut B rfl _)) (h.put B rfl ⟨_,iQ,U.dg (iu.mut B rfl _)⟩) (Fw.put L _ _)⟩
   .exact q.elim
  .exact q.elim
 .exact q.elim
@[irreducible] def Dz(c:f9):jz:=λρ C Q=>c ρ C λx C1=>match x with
 |.ref a=>match C1 a with
  |some (.lst xs)=>Q (!xs.isEmpty) C1
  |_=>False
 |_=>False
def pI{c}(h:CE X e c)(U:kL e=true:=by rfl):CT X e (Dz c):=⟨JT.weak ⟨VW h.h.h (zC U)⟩ λσ H Q zz=>yZ zz λρ C R s h q f=>by
 delta Dz at q
 exact⟨ρ,C,_,s,h,q,λx H1 px C1 B Z h1 O=>by
  split at B
  .split at B
   .next xs J =>
    refine oX (h1 _ _ J) λvs L Y=>?_;cases Z;refine⟨!xs.isEmpty,.inl ⟨vs,SqL.of L,?_⟩,f _ H1 _ C1 B rfl h1 O⟩;have:=Y.len;cases vs<;>cases xs<;>simp_all
   .exact B.elim
  .exact B.elim⟩⟩
def YG(c:Addr)(m:Str)(G:GC)(co:f9):f9:=λρ C Q=>co ρ C λx C1=>eO c m x C1/\G [x] C1 Q
def YB{c}(Z:Cls X.K c)(aa:Y3 X.K c m fa)(F:FnOk X.prog X.w X.K X.mg X.base CX k fa fd ps (qm X.K G))(ab:Room k X.A)(Y:Binds X.K fd ps [])(hx:jV CX X E)(ho:CE X o co)(ht:eval (.Call (.Attribute o m apos) [] [] pos) X.env=(do
   let q <- eval o X.env
   standAt apos.atName
   let (f,first) <- holding [q] (getMethod q m pl)
   callWith pos f first (backTo pos (starEach [] X.env)) (backToKw pos (keywordEach [] X.env))):=by rfl):
  CE X (.Call (.Attribute o m apos) [] [] pos) (YG c m G co):=
 ⟨JE.weak ⟨Wg ho.h.h Z aa F ab Y .nil hx ht⟩ λσ H Q zz=>yZ zz λρ C R s h af f=>⟨ρ,C,_,s,h,af,λx H1 px C1 B rx h1 O=>by
  obtain⟨a,dx,U,rfl,rfl,J,ae⟩:=QY B.1 rx h1
  exact⟨a,dx,U,rfl,J,ae,⟨[.ref a],C1,R,.cons (.ref a) .nil,h1,B.2,λv H' t C' q' r' h' L=>f v H' t C' q' r' h' (O.trans L)⟩⟩⟩⟩
def uP(m:C p=some (.lst xs))(e:xs[xs.length-1]?=some y)(q:Q y (cQ C p (.lst xs.dropLast))):Va (.ref p) [] C Q:=by simp_all[Va]
end
structure Row where
 k:Option Str
 nm:Str
 q:Str
 st:Stmt
 ps:List Str
 N:List Str
def uh(p:Row->Prop):List Row->Prop
 |[]=>True
 |r::q=>p r/\uh p q
def FH(K:DQ)(r:Row):Prop:=match r with
 |⟨none,B,q,st,_,_⟩=>∃(f:Addr)(Y:Value)(od:Option Addr)(U O Z:Value)(J:Option Addr)(cd L:Value)(sl:Array (Option Value)),
  PySem.W.nsIn K mainGlobals B=some (some (.ref f))/\K.lookup f=some ⟨Y,od,.func (PySem.W.fnOf B q (lG st) (bV st) (vZ st) .none U O Z J cd L),sl⟩/\PySem.W.codeIn K cd q=true/\PySem.W.keepIn K (.ref f)=true
 |⟨some c,B,q,st,_,_⟩=>∃(cc f:Addr)(Y:Value)(od:Option Addr)(U O Z:Value)(J:Option Addr)(cd L:Value)(sl:Array (Option Value)),
  PySem.W.nsIn K mainGlobals c=some (some (.ref cc))/\PySem.W.findIn K (.ref cc) B=some (some (.ref f))/\K.lookup f=some ⟨Y,od,.func (PySem.W.fnOf B q (lG st) (bV st) (vZ st) .none U O Z J cd L),sl⟩/\PySem.W.codeIn K cd q=true/\PySem.W.keepIn K (.ref f)=true/\PySem.W.isFn K (.ref f)=true
def RB(r:Row):Prop:=FnScope r.N r.ps (vZ r.st)/\∀(O L U:Value)(q:Option Addr)(B J:Value)(us:List Value),us.length=r.ps.length->bindArgs (PySem.W.fnOf r.nm r.q (lG r.st) (bV r.st) (vZ r.st) .none O L U q B J) ⟨us,[]⟩=pure (r.ps.zip us)
structure FI(K:DQ)(mg:Str->Option Value)(k:Option Str)(nm q:Str)(st:Stmt)(ps N:List Str)(f:Addr)(d:FuncData):Prop where
 m:k=none->mg nm=some (.ref f)
 M:∀c ca,k=some c->mg c=some (.ref ca)->PySem.W.findIn K (.ref ca) nm=some (some (.ref f))/\PySem.W.isFn K (.ref f)=true
 F:Fun K nm q st f d
 s:FnScope N ps (vZ st)
 b:Binds K d ps []
section
variable{P:List Value->Prop}
def YX(h:∀a(us:List Value),us.length=n->P (a::us))us(e:us.length=n+1):P us:=by
 cases us with
 |nil=>cases e
 |cons a us=>exact h a us (Nat.succ.inj e)
def RC(h:P [])us(e:us.length=0):P us:=by grind
def args1(h:∀a,P [a]):∀us,us.length=1->P us:=YX λa=>RC (h a)
def args2(h:∀a b,P [a,b]):∀us,us.length=2->P us:=YX λa=>args1 (h a)
def Rz(h:∀a b c,P [a,b,c]):∀us,us.length=3->P us:=YX λa=>args2 (h a)
end
def La{K}(X:K.In h)(G:h.Ns mainGlobals mg)(x:FH K r)(y:RB r):∃f d,FI K mg r.k r.nm r.q r.st r.ps r.N f d:=by
 obtain⟨k,ae,af,st,ps,N⟩:=r;obtain⟨J,L⟩:=y
 cases k with
 |none =>
  obtain⟨f,oc,od,aa,Y,ab,O,cd,U,sl,h1,h2,q,B⟩:=x;exact⟨f,_,⟨λ_=>Ac X G h1,λ_ _ e=>(nomatch e),yI h2 q B,J,Fun.binds (yI h2 q B) L⟩⟩
 |some c =>
  obtain⟨cc,f,oc,od,aa,Y,ab,O,cd,U,sl,h0,h1,h2,q,B,h5⟩:=x;refine⟨f,_,⟨λe=>(nomatch e),λc' ca e Z=>?_,yI h2 q B,J,Fun.binds (yI h2 q B) L⟩⟩;cases e;have:=(Ac X G h0).symm.trans Z;cases this;exact⟨h1,h5⟩
theorem uc{K}(X:K.In h)(G:h.Ns mainGlobals mg):∀{t},uh (FH K) t->uh RB t->∃(f:Nat->Addr)(d:Nat->FuncData),∀i{k}{B q}{st}{ps N},t[i]?=some ⟨k,B,q,st,ps,N⟩->FI K mg k B q st ps N (f i) (d i)
 |[],_,_=>⟨λ_=>mainGlobals,λ_=>PySem.W.fnOf "" "" (lG (.Pass ⟨0,0,0,0⟩)) [] (vZ (.Pass ⟨0,0,0,0⟩)) .none .none .none .none none .none .none,λi _ _ _ _ _ _ e=>by simp at e⟩
 |r::t,x,y=>by
  refine QF (La X G x.1 y.1) λf0 J h0=>QF (uc X G x.2 y.2) λf d h=>⟨λi=>match i with|0=>f0|i+1=>f i,λi=>match i with|0=>J|i+1=>d i,λi=>?_⟩
  cases i with
  |zero=>intro k B q st ps N e;cases e;exact h0
  |succ i=>intro k B q st ps N e;exact h i e
section
variable{P:Program}{w:World}{K:DQ}{mg:Str->Option Value}{base:Heap}
def FI.ok{st}(F:FI K mg L x qual st ps N f fd)(J:∀ts C R,G ts C R->ts.length=ps.length)(B:∀q A outer s H E,Room k (A.deeper (envOfC qual (vZ st) s.heap.objs.size f q)) ->
   ∃c,CB (tU CX0 P w K mg base N qual (vZ st) f q A outer s H E).nox (bV st) c/\∀ts C R,G ts C R->c (.go R) (pN N ts) C):FnOk P w K mg base CX0 (k+1) f fd ps (qm K G):=Fun.Z8 F.F F.s J B
end
section
variable{X:Cx}{e o:Expr}{es:List Expr}{pos:Pos}
def cf{st}{p}(T:FI X.K X.mg none x q st ps N f fd)(F:FnOk X.prog X.w X.K X.mg X.base CX0 k f fd ps (qm X.K G))(U:Room k X.A)(B:CA X (e::es) ca)(O:Gl X x:=by rfl)(L:(x==("__debug__":Str))=false:=by decide)(hs:noStar e=true:=by rfl)(J:es.all noStar=true:=by rfl):CE X (.Call (.Name x p) (e::es) [] pos) (kY G ca):=
 Ds F U O (T.m rfl) T.F.kp T.b vC B L hs J
def cm{st}{apos}{pl}(O:Cls X.K c)(T:FI X.K X.mg (some J) m ab st ps N fa fd)(q:X.mg J=some (.ref c))(F:FnOk X.prog X.w X.K X.mg X.base CX0 k fa fd ps (qm X.K G))(Z:Room k X.A)(U:CE X o co)(L:CA X (e::es) ca)(aa:starEach (e::es) X.env=(false,eval e X.env)::starEach es X.env:=by rfl)(Y:(backTo pos (starEach es X.env)).any (·.1)=false:=by rfl)(ht:eval (.Call (.Attribute o m apos) (e::es) [] pos) X.env=(do
   let B <- eval o X.env
   standAt apos.atName
   let (f,first) <- holding [B] (getMethod B m pl)
   callWith pos f first (backTo pos (starEach (e::es) X.env)) (backToKw pos (keywordEach [] X.env))):=by rfl):
  CE X (.Call (.Attribute o m apos) (e::es) [] pos) (Gi c m G co ca):=
 Do O ⟨(T.M _ _ rfl q).1,(T.M _ _ rfl q).2,T.F.kp⟩ F Z T.b vC U L aa Y ht
def jy{st}(L:Cls X.K c)(T:FI X.K X.mg (some J) m aa st ps N fa fd)(q:X.mg J=some (.ref c))(F:FnOk X.prog X.w X.K X.mg X.base CX0 k fa fd ps (qm X.K G))(U:Room k X.A)(O:CE X o co)(Y:eval (.Call (.Attribute o m apos) [] [] pos) X.env=(do
   let B <- eval o X.env
   standAt apos.atName
   let (f,first) <- holding [B] (getMethod B m Z)
   callWith pos f first (backTo pos (starEach [] X.env)) (backToKw pos (keywordEach [] X.env))):=by rfl):
  CE X (.Call (.Attribute o m apos) [] [] pos) (YG c m G co):=
 YB L ⟨(T.M _ _ rfl q).1,(T.M _ _ rfl q).2,T.F.kp⟩ F U T.b vC O Y
def cx(B:CE X a ca)(J:CE X b q)(hs:jN b:=by exact λ_ _=>rfl):CE X (.Subscript a b pos) (nj o5 ca q):=Gf yt Lj B J hs
def c7(q:CE X e ca)(hs:noStar e=true:=by rfl):CA X [e] (tJ ca gY):=qQ q cX hs
def fj i{pos'}(B:X.N.Nodup)(J:CE X e q)(hi:X.N[i]?=some x:=by rfl)(O:Loc X.env.scope x:=by first|exact Or.inl rfl|exact Or.inr rfl)(hs:swapsWith e (some (.Name x pos')) pos.line X.env=pure false:=by rfl)(L:X.fn x=true\/X.env.scope.names.lookup x=some .local:=by first|exact .inl rfl|exact .inr rfl|assumption):
  CS X (.Assign [.Name x pos'] e pos) (iI i q):=Li B hi O J hs L
def jl i(q:X.N.Nodup)(hi:X.N[i]?=some x:=by rfl)(J:Loc X.env.scope x:=by first|exact Or.inl rfl|exact Or.inr rfl)(B:X.fn x=true\/X.env.scope.names.lookup x=some .local:=by first|exact .inl rfl|exact .inr rfl|assumption):CG X (.Name x pos) (Jz i):=Dn q hi J B
def gw{p}(J:X.mg "len"=none)(q:CE X e ca)(B:Gl X "len":=by rfl)(hs:noStar e=true:=by rfl):CE X (.Call (.Name "len" p) [e] [] pos) (kY uH (tJ ca gY)):=aQ K6 Dv B J rfl (c7 q hs) (hs:=hs)
def qz{p}(J:X.mg "tuple"=none)(q:CE X e ca)(B:Gl X "tuple":=by rfl)(hs:noStar e=true:=by rfl):CE X (.Call (.Name "tuple" p) [e] [] pos) (kY iU (tJ ca gY)):=mK iS Dt B J rfl (c7 q hs) (hs:=hs)
def cap{apos cpos}(O:CE X o co)(q:CE X e ca)(B:attributeBase o "append" X.env (eval o X.env)=eval o X.env:=by rfl)(J:((backTo cpos (starEach [e] X.env)).all (λx=>!x.1)&&(backToKw cpos (keywordEach [] X.env)).all (λx=>x.1.isSome)
   && decide ([e].length+([]:List Keyword).length+(if([]:List Keyword).isEmpty then 0 else 1)<30))=true:=by rfl)(L:(apos.endLine==cpos.line)=true:=by rfl)(hs:noStar e=true:=by rfl):CE X (.Call (.Attribute o "append" apos) [e] [] cpos) (Rv qB co (tJ ca gY)):=
 rD Ae PySem.F.slot_list_append PySem.F.type_list_append rO Zx O (c7 q hs) B J L hs
def ct2(Y:OpR X (compareOp q) r)(Z:je X.K r J)(L:CE X a ca)(O:CE X b B)(U:behindInMarks q b=false:=by exact lJ _):CT X (.Compare a [q] [b] pos) (gE (nj J ca B)):=xJ Y Z L O U
end
end CL
namespace L2
open PySem
theorem FnScope.c(S:FnScope N ps sc)(h:N.contains x=false):(x::N).Nodup:=by
 refine Bf.2 ⟨λm=>?_,S.nd⟩;rw[List.contains_iff_mem.2 m] at h;cases h
theorem FnScope.k(S:FnScope N ps sc)(B:X.N=N)(O:X.env.scope=sc)(J:X.env.cells=cellsFrom L sc.names [])(h:rR xs scope N sc=true):∃q,xN X xs scope q:=dD B O J h
end L2
namespace TB
noncomputable def step(M i:Nat):Nat:=(i*5+1) % M
end TB
namespace TB
open PySem SetTable
end TB
namespace PySem
open Sem (wp)
open TB
end PySem
namespace L2
open PySem PySem.W PyProof.Rows
section
variable{X:Cx}
theorem QT(q:Str):∀zs:List Str,(Str.join q zs).length<=(zs.map (·.length)).sum+zs.length*q.length
 |[]=>AF _
 |[x]=>by
  show x.length<=x.length+0+1*q.length;omega
 |x::y::r=>by
  have B:=QT q (y::r)
  have e:(Str.join q (x::y::r)).length=x.length+q.length+(Str.join q (y::r)).length:=by
   show(x++q++Str.join q (y::r)).length=_;rw[Str.length_append,Str.length_append]
  rw[e,A5,List.sum_cons,AD,Nat.succ_mul];omega
def rJoin:V->List V->Hp->VK->Prop:=λx vs H Q=>∃(q:Str)(l:Addr)(zs:List Str),x=.str q/\vs=[.ref l]/\H l=some (.lst (zs.map V.str))/\(zs.map (·.length)).sum+zs.length*q.length<=16777216/\Q (.str (Str.join q zs)) H
def yf:MtR X "str.join" rJoin:=by
 intro ww s σ H x vs v us Q I rx rv h;obtain⟨J,l,zs,rfl,rfl,U,hz,q⟩:=h;obtain⟨t,rfl⟩:=rx;obtain⟨u,rfl,ru⟩:=rv.one;cases ru;obtain⟨its,w1,p1,_⟩:=I.list (SqL.of U)
 have aa:∀{zs:List Str}{its:List Value},Vals (zs.map V.str) its->∃B:List (Str×Tok),its=strValues B/\B.map (·.1)=zs:=by
  intro zs
  induction zs with
  |nil=>intro its r;cases r;exact⟨[],rfl,rfl⟩
  |cons z zs Z =>
   intro its r;rw[A5] at r
   cases r with
   |cons a b =>
    obtain⟨t,rfl⟩:=a;obtain⟨B,rfl,rfl⟩:=Z b;exact⟨(z,t)::B,rfl,rfl⟩
 obtain⟨B,rfl,L⟩:=aa w1
 have Y:Builtin.Str.tooLong ((B.map (·.1)).toArray.foldl (· + ·.length+J.length) 0)=false:=by
  rw[StrLaws.joinTotal,L];unfold Builtin.Str.tooLong;rw[Cd];exact AW (by omega)
 refine BB F.slot_str_join (Bp s J t) F.entry_str_join (F.args_str_join_2 _ _) (meets_str_join_list J t l B Y) ⟨p1.isList,?_⟩;unfold joinMade
 split
 .next p =>
  have O:[p.1]=zs:=L;subst O;exact⟨.str p.1,H,I,⟨_,rfl⟩,q⟩
 .rw[StrLaws.glued_eq_join,L]
  refine⟨?_,.str _,H,I.tok _,⟨_,rfl⟩,q⟩;have:=QT J zs;rw[Cd];omega
end
end L2
namespace CL
open PySem PySem.Spec L2 PySem.W
open PyProof.Rows hiding St
section
variable{X:Cx}{e o:Expr}{es:List Expr}
@[irreducible] def lP:PV->List PV->CH->K1->Prop:=λx ts C Q=>match x,ts with
 |.str q,[.ref a]=>match C a with
  |some (.lst xs)=>∃zs:List Str,xs=zs.map PV.str/\(zs.map (·.length)).sum+zs.length*q.length<=16777216/\Q (.str (Str.join q zs)) C
  |_=>False
 |_,_=>False
def Yy{K:DQ}:Ej K rJoin lP:=λx Y xs ps H C Q R U L h q f=>by
 unfold lP at q
 split at q
 .split at q
  .next ys e =>
   obtain⟨v,rfl,r⟩:=nZ L;cases r;cases U;obtain⟨zs,rfl,J,q⟩:=q;obtain⟨vs,B,O⟩:=h _ _ e;rw[Kh O] at B;exact⟨_,_,zs,rfl,rfl,B,J,f _ H _ C q (.str _) h Fw.refl⟩
  .exact q.elim
 .exact q.elim
def TJ(q:PV->List PV->CH->K1->Prop)(co:f9)(ca:o9):f9:=λρ C Q=>co ρ C λx C1=>(∃z,x=.str z)/\ca ρ C1 λxs C2=>q x xs C2 Q
def JQ{apos cpos:Pos}{co:f9}{ca:f9}(ho:CE X o co)(O:CE X e ca)(U:attributeBase o "join" X.env (eval o X.env)=eval o X.env:=by rfl)(Y:((backTo cpos (starEach [e] X.env)).all (λx=>!x.1)&&(backToKw cpos (keywordEach [] X.env)).all (λx=>x.1.isSome)
   && decide ([e].length+([]:List Keyword).length+(if([]:List Keyword).isEmpty then 0 else 1)<30))=true:=by rfl)(Z:(apos.endLine==cpos.line)=true:=by rfl)(hs:noStar e=true:=by rfl):
  CE X (.Call (.Attribute o "join" apos) [e] [] cpos) (TJ lP co (tJ ca gY)):=⟨JE.weak (Fx F.plainAttrs_str F.slot_str_join F.type_str_join yf ho.h (c7 O hs).h U Y Z hs) λσ H Q zz=>yZ zz λρ C R s h aa f=>
 ⟨ρ,C,_,s,h,aa,λx H1 px C1 q rx h1 B=>by
  obtain⟨⟨z,rfl⟩,q⟩:=q;cases rx
  exact⟨rfl,ρ,C1,_,s.dg (B.dg h),h1,q,λxs H2 ps C2 q2 ab h2 L=>
   Yy _ _ xs ps H2 C2 Q R (.str z) ab h2 q2 λv H' t C' q' r' h' J=>f v H' t C' q' r' h' (B.trans (L.trans J))⟩⟩⟩
def WV{a:Addr}{B:Str}{zs:List Str}{C:CH}{Q:K1}(m:C a=some (.lst (zs.map PV.str)))(J:(zs.map (·.length)).sum+zs.length*B.length<=16777216)(q:Q (.str (Str.join B zs)) C):lP (.str B) [.ref a] C Q:=by
 unfold lP;dsimp only;rw[m];exact⟨zs,rfl,J,q⟩
noncomputable def iz(i:Int):Str:=toString i
@[irreducible] def JV:GC:=λts C Q=>match ts with
 |[.int i]=>i.natAbs<=1000000000000/\Q (.str (iz i)) C
 |_=>False
def nD{K:DQ}:rm K (λxs H Q=>∃i,xs=[.int i]/\i.natAbs.log2<1920/\Q (.str (toString i)) H) JV:=λxs ps H C Q R B h q f=>by
 unfold JV at q
 split at q
 .next i =>
  obtain⟨v,rfl,r⟩:=nZ B;cases r;refine⟨i,rfl,?_,f _ H _ C q.2 (.str _) h Fw.refl⟩
  by_cases h0:i.natAbs=0
  .rw[h0];decide
  .rw[Nat.log2_lt h0]
   exact Bi q.1 (AE (show 1000000000000<2 ^ 40 by decide) (Nat.pow_le_pow_right Th Th))
 .exact q.elim
def uy{i:Int}(h:i.natAbs<=1000000000000):(iz i).length<=14:=by
 show(Str.ofString (toString i)).length<=14;rw[PySem.ofString_length];exact int_text_length_le10 (k:=13) Th (Bi h Th)
def qA{i:Int}{C:CH}{Q:K1}(h:i.natAbs<=1000000000000)(q:Q (.str (iz i)) C):JV [.int i] C Q:=by
 unfold JV;exact⟨h,q⟩
end
section
variable{X:Cx}{e:Expr}{pos:Pos}
end
section
variable{X:Cx}{e:Expr}
noncomputable def yB(z:Str):List PV:=z.cps.toList.map λc=>PV.str ⟨#[c]⟩
def Ij{K}z:ZI K H (Its z) (yB z) where
 go:=λi H' l k=>by
  delta yB at l
  rwa[AA,Bv] at l
 yl:=λi H' x B k y=>by
  obtain⟨rfl,c,q,rfl⟩:=y;refine⟨rfl,λt e=>?_⟩;unfold yB at e;rw[Ag,DL,q] at e;cases e;exact .str _
 st:=λH' k=>by
  delta yB
  rw[AA,Bv];exact AQ _
noncomputable def Tv(q:f9):iT->CH->(List PV->CH->Prop)->Prop:=λρ C Q=>q ρ C λt C1=>match t with
 |.str z=>Q (yB z) C1
 |_=>False
def Zy(h:CE X e B):CI X tg e (O6 (yK X.K (Rep X.K) B)) (Tv B):=⟨⟨Hc h.h.h⟩,λσ H ρ C R Q s h q f=>⟨ρ,C,_,s,h,q,λx H1 U C1 J O h1 L=>by
  cases O with
  |str z=>exact⟨z,rfl,f _ H1 (yB z) C1 J (Ij z) h1 L⟩
  |_=>exact J.elim⟩⟩
end
section
variable{X:Cx}{a b:Expr}{pos:Pos}
end
section
variable{X:Cx}
@[irreducible] def DY:kh:=λx y C Q=>match x,y with
 |.str i,.str j=>Q (.bl (!(Builtin.Str.occurrences j i 0 j.length 1).isEmpty)) C
 |_,_=>False
def JK{K}:je K (λx y H Q=>∃i j,x=.str i/\y=.str j/\Q (.bl (!(Builtin.Str.occurrences j i 0 j.length 1).isEmpty)) H) DY:=λx y L O H C Q R B J h q f=>by
 delta DY at q
 split at q
 .cases B;cases J
  exact⟨_,_,rfl,rfl,f _ H _ C q (.bl _) h Fw.refl⟩
 .exact q.elim
def Fy(q:Q (.bl (!(Builtin.Str.occurrences j i 0 j.length 1).isEmpty)) C):DY (.str i) (.str j) C Q:=by
 delta DY
 exact q
end
theorem Qv{K}:∀{l:List Str}{vs},du K H vs (l.map PV.str)->vs=l.map V.str
 |[],_,.nil=>rfl
 |z::l,_,.cons h t=>by cases h;rw[Qv t];rfl
noncomputable def Zk(l:List Str):PV->Bool
 |.str z=>l.contains z
 |_=>false
@[irreducible] def Ea:kh:=λx y C Q=>match y with
 |.kt ys=>match mN ys,tyP C x with
  |some l,some _=>Q (.bl (Zk l x)) C
  |_,_=>False
 |_=>False
def pD{K}:je K (Nh K false) Ea:=λx y Y aa H C Q R J Z h q f=>by
 delta Ea at q
 split at q
 .split at q
  .next l c L O =>
   cases Z with
   |kt e r =>
    have B:=VE L;subst B;have B:=Qv r;subst B;refine⟨_,l,c,rfl,.inr e,ZN J h O,?_⟩;have U:RT l x=Zk l Y:=by cases J<;>rfl
    exact U▸f _ H _ C q (.bl _) h Fw.refl
  .exact q.elim
 .exact q.elim
def tV(B:mN ys=some l)(J:tyP C x=some c)(q:Q (.bl (Zk l x)) C):Ea x (.kt ys) C Q:=by simp_all[Ea]
end CL
namespace CL
open PySem L2 PySem.W
theorem yG(I:Nat->iT->CH->Prop)(B:∀n ρ C(L:iT->CH->Prop),I n ρ C->(∀m q C',m<n->I m q C'->L q C')->t ρ C λb C1=>if b=true then u (E.lp L) ρ C1 else E.nx ρ C1):∀k n ρ C,n<k->I n ρ C->K8 t u E k ρ C
 |0,n,_,_,h,_=>absurd h (Ci n)
 |k+1,n,ρ,C,h,J=>B n ρ C (K8 t u E k) J λm q C' U O=>yG I B k m q C' ir O
theorem qW f:∀xs B C,Gr C0 C->B.length+xs.length<=sizeLine->(∀x∈xs,∀C J,Gr C0 C->(∀C',Gr C C'->J (f x) C')->c (some x::ρ) C J)->(∀p C',C0 p=none->Gr C0 C'->C' p=some (.lst (B++xs.map f))->Q (.ref p) C')->rJ aU c ρ Q xs B C
 |[],B,C,g,_,_,q=>cR λp L=>q p _ (bZ g L) (g.trans (Gr.new L _)) (by rw[zQ,List.map_nil,AM])
 |x::xs,B,C,g,U,h,q=>by
  rw[AD] at U;refine sL (h x AL C _ g λC' g'=>⟨by lia,qW f xs _ C' (g.trans g') (by grind) (λy Y=>h y (AH _ Y)) λp C2 h1 h2 O=>q p C2 h1 h2 ?_⟩);rw[O,AI]
  rfl
theorem J8:∀bs,qS (bs.map PV.bl)=some bs
 |[]=>rfl
 |b::bs=>by show(qS (bs.map PV.bl)).map _=_;rw[J8 bs];rfl
def YY{bs:List Bool}(h:C p=some (.lst (bs.map PV.bl)))(q:Q (.bl (bs.all id)) C):YM [.ref p] C Q:=by
 delta YM
 dsimp only;rw[h];dsimp only
 rwa[J8]
def Ww{p q:CH->Prop}(h:p C):yL (λb C1=>if(!b)=true then p C1 else q C1) (.bl false) C:=h
def Jf(h:z.length<=sizeLine)(q:Q (.int z.length) C):uH [.str z] C Q:=by
 delta uH
 exact⟨h,q⟩
end CL
namespace CL
open PySem PySem.Spec L2 PySem.W
open PyProof.Rows hiding St
section
variable{X:Cx}{a b c e o i f:Expr}{es:List Expr}{pos:Pos}{value:Expr}
@[irreducible] def DW:PV->Option Int->Option Int->CH->K1->Prop:=λx lo hi C Q=>match x with
 |.str z=>z.length<=sizeLine/\Q (.str (Txt.slice z lo hi)) C
 |_=>False
def Lq{lo hi:Option Expr}{J:f9}{L ch:TCO}{p2:Pos}(aa:CE X e J)(hl:Gu X lo L)(hu:Gu X hi ch):CE X (.Subscript e (.Slice lo hi none p2) pos) (R4 DW J L ch):=⟨JE.weak ⟨kC GZ aa.h.h hl.h.h hu.h.h⟩ λσ H Q ⟨ρ,C,R,s,h,ab,f⟩ =>
 ⟨ρ,C,_,s,h,ab,λx H1 px C1 q1 rx h1 B=>⟨ρ,C1,_,s.dg (B.dg h),h1,q1,λl H2 l' C2 q2 Z h2 O=>⟨ρ,C2,_,(s.dg (B.dg h)).dg (O.dg h1),h2,q2,λu Y u' U q e3 h3 f3=>by
  cases Z;cases e3
  unfold DW at q
  split at q
  .cases rx
   exact⟨_,rfl,q.1,f _ Y _ U q.2 (.str _) h3 (B.trans (O.trans f3))⟩
  .exact q.elim⟩⟩⟩⟩
def M7{z:Str}{lo hi:Option Int}{C:CH}{Q:K1}(h:z.length<=sizeLine)(q:Q (.str (Txt.slice z lo hi)) C):DW (.str z) lo hi C Q:=by
 unfold DW;exact⟨h,q⟩
@[irreducible] def Qa:kh:=λx y C Q=>match x,y with
 |.ref a,.ref b=>match C a,C b with
  |some (.lst xs),some (.lst [])=>Q (.bl (!xs.isEmpty)) C
  |_,_=>False
 |_,_=>False
def rL{K:DQ}:je K (λx y H Q=>∃a b xs,x=.ref a/\y=.ref b/\SqL K H a xs/\SqL K H b []/\Q (.bl (!xs.isEmpty)) H) Qa:=λx y px aa H C Q R rx ry h q f=>by
 unfold Qa at q
 split at q
 .split at q
  .next xs B J =>
   obtain⟨vs,U,Z⟩:=h _ _ B;obtain⟨us,O,Y⟩:=h _ _ J;cases rx;cases ry;cases Y;refine⟨_,_,vs,rfl,rfl,SqL.of U,SqL.of O,?_⟩
   have L:vs.isEmpty=xs.isEmpty:=by
    have:=Z.len;cases vs<;>cases xs<;>simp_all
   rw[L];exact f _ H _ C q (.bl _) h Fw.refl
  .exact q.elim
 .exact q.elim
def nA{p r:Addr}{xs:List PV}{C:CH}{Q:K1}(h:C p=some (.lst xs))(h2:C r=some (.lst []))(q:Q (.bl (!xs.isEmpty)) C):Qa (.ref p) (.ref r) C Q:=by
 unfold Qa;dsimp only;rw[h,h2];exact q
end
section
variable{X:Cx}
end
section
variable{cs:List (List Str×Int)}(nd:(cs.map (·.1)).Nodup){i j:Nat}(hi:i<cs.length)(hj:j<cs.length)
include nd hi hj
end
section
variable{X:Cx}{e o:Expr}{es:List Expr}
end
@[irreducible] def Xv:kh:=λx y C Q=>match x,y with
 |.str i,.str j=>Q (.bl (!(!(Builtin.Str.occurrences j i 0 j.length 1).isEmpty))) C
 |_,_=>False
def Zt{K}:je K (λx y H Q=>∃i j,x=.str i/\y=.str j/\Q (.bl (!(!(Builtin.Str.occurrences j i 0 j.length 1).isEmpty))) H) Xv:=λx y L O H C Q R B J h q f=>by
 delta Xv at q
 split at q
 .cases B;cases J
  exact⟨_,_,rfl,rfl,f _ H _ C q (.bl _) h Fw.refl⟩
 .exact q.elim
def HD(q:Q (.bl (!(!(Builtin.Str.occurrences j i 0 j.length 1).isEmpty))) C):Xv (.str i) (.str j) C Q:=by
 delta Xv
 exact q
@[irreducible] def Qc:kh:=λx y C Q=>match x,y with
 |.ref a,.ref b=>match C a,C b with
  |some (.lst xs),some (.lst [])=>Q (.bl xs.isEmpty) C
  |_,_=>False
 |_,_=>False
def KW{K}:je K (λx y H Q=>∃a b xs,x=.ref a/\y=.ref b/\SqL K H a xs/\SqL K H b []/\Q (.bl xs.isEmpty) H) Qc:=λx y px aa H C Q R rx ry h q f=>by
 delta Qc at q
 split at q
 .split at q
  .next xs B J =>
   refine oX (h _ _ B) λvs U Z=>oX (h _ _ J) λus O Y=>?_;cases rx;cases ry;cases Y;refine⟨_,_,vs,rfl,rfl,SqL.of U,SqL.of O,?_⟩
   have L:vs.isEmpty=xs.isEmpty:=by
    have:=Z.len;cases vs<;>cases xs<;>simp_all
   exact L▸f _ H _ C q (.bl _) h Fw.refl
  .exact q.elim
 .exact q.elim
def zr(h:C p=some (.lst xs))(h2:C r=some (.lst []))(q:Q (.bl xs.isEmpty) C):Qc (.ref p) (.ref r) C Q:=by simp_all[Qc]
section
variable{X:Cx}{a b c e o i f value:Expr}{es:List Expr}{pos pos':Pos}
noncomputable def hK:Key->Int
 |.inl (some k)=>hashInt k
 |.inl none=>4238894112
 |.inr _=>0
end
end CL
namespace PySem.W
open PySem PySem.Calls PyProof.Rows Builtin Builtin.ObjectAttr Builtin.Getset_descriptor
structure Mf(K:Frag)(C:Addr):Prop where
 obj:∃oc od cd sl tl,K.lookup C=some ⟨oc,od,.cls cd,sl⟩/\cd.abstract=false/\cd.hasDel=false/\(sl.toList[4]?).join=some (.builtin "ValueError.__new__")/\cd.mro=.ref C::tl
 call:specialIn K (.ref C) "__call__"=some (some (.builtin "type.__call__"))
 typ:instIn K (.ref C) (.type "type")=some true
 self:mroIn K C (.ref C)=some true
 val:mroIn K C (.type "ValueError")=some true
 bas:mroIn K C (.type "BaseException")=some true
 noA:mroIn K C (.type "AttributeError")=some false
 noN:mroIn K C (.type "NameError")=some false
structure xS(M:Model)(h:Heap)(C:Addr):Prop where
 obj:∃oc od cd sl tl,h.get? C=some ⟨oc,od,.cls cd,sl⟩/\cd.abstract=false/\cd.hasDel=false/\cd.mro=.ref C::tl
 made:Looks M h (Bind.madeBy (.ref C)) (some "ValueError.__new__")
 base:Looks M h (Bind.staticBase (.ref C)) (.ref C)
 self:Looks M h (isSubtype (.ref C) (.ref C)) true
 val:Looks M h (isSubtype (.ref C) (.type "ValueError")) true
 bas:Looks M h (isSubtype (.ref C) (.type "BaseException")) true
 noA:Looks M h (isSubtype (.ref C) (.type "AttributeError")) false
 noN:Looks M h (isSubtype (.ref C) (.type "NameError")) false
 call:Looks M h (specialOf (.ref C) "__call__") (some (.builtin "type.__call__"))
 typ:Looks M h (isInstance (.ref C) (.type "type")) true
def aD{K}(X:K.In h)(e:Mf K C):xS M h C:=by
 obtain⟨⟨oc,od,cd,sl,tl,J,U,Y,Z,B⟩,e7,e8,e5,aa,eb,ea,en⟩:=e;have hc:clsIn K C=some cd:=by delta clsIn;rw[J]
 have L:Looks M h (mroOf (.ref C)) cd.mro:=(looks_clsIn X hc).andThen .now
 have O:Looks M h (Bind.madeBy (.ref C)) (some "ValueError.__new__"):=by
  intro A Q E s k q
  delta Bind.madeBy
  refine AC (L A _ E s k ?_);rw[B,List.forIn_cons];refine AC (AC (AC (AC (DM (k _ _ (X _ _ J)) (AN (DL▸Z▸AN (AN (AN q))))))))
 refine⟨⟨oc,od,cd,sl,tl,X _ _ J,U,Y,B⟩,O,?_,Cf X e5,Cf X aa,Cf X eb,Cf X ea,Cf X en,looks_specialIn X e7,looks_instIn X e8⟩;intro A Q E s k q;refine AC (L A _ E s k ?_);rw[B,List.forIn_cons];exact AC (AC (AC (O A _ E s k (AN (AN (AN q))))))
abbrev hJ(C:Addr)(d:Option Addr)(t:Value):Obj:={ cls:=.ref C,dict:=d,data:=.fields #[t,.none,.none,.none,.bool false,.none] }
abbrev tG(dX:List Value):Obj:={ cls:=.type "tuple",data:=.seq dX.toArray }
section
variable{prog:Program}{w:World}{A:Around}{K:Frag}{C:Addr}{R:Result->Shared->Prop}{h:Heap}{g:Array GenState}{d:Drawn}{t:Nat}{os:OsState}
def Gw(Y:xS (model prog w) h C)(hz:dX.length<=sizeLine)(hq:R (.ok (.ret (.ref (h.objs.size+1)))) ⟨(h.push (tG dX)).push (hJ C none (.ref h.objs.size)),g,d,t,os⟩):
  codeAny (model prog w) A (.call (.builtin "ValueError.__new__") ⟨.ref C::dX,[]⟩) R ⟨h,g,d,t,os⟩:=by
 obtain⟨⟨oc,od,cd,sl,tl,q,e1,e2,e4⟩,J,base,ai,Z,aa,L,O,ae,U⟩:=Y;have F:=Cm;have ah:=F.noStar
 apply codeAny_call_builtin_code (Code.quiet_builtin _ F.quiet)
 simp only[checkBuiltinCall,F.newKind,F.newSplit,F.newRow]
 repeat (first|simp only[bne_self_eq_false,Bool.false_eq_true,if_false]|lk)
 apply codeAny_builtinAt F.entry
 delta Builtin.«BaseException.__new__»
 refine wpAt_bind (wpAt_bind (wpAt_stack λp ab=>wpAt_of_wpAny ?_));have B:Looks (model prog w) h (Bind.madeHere "BaseException.__new__" (.ref C)) ():=base.andThen (J.andThen (Looks.of_pure (by simp only[Option.map_some,F.canon,bne_self_eq_false,Bool.false_eq_true,if_false])));have ag:=F.ends
 wp_walk
 apply wpAt_of_wpAny
 rw[F.owner];have af:=q
 repeat (first|with_reducible refine B.at ?_|with_reducible refine Z.at ?_|with_reducible refine L.at ?_|with_reducible refine O.at ?_|with_reducible refine U.at ?_|with_reducible refine CC q ?_|wp_step)
 rwa[Ba]
def XR{dX:List Value}{q:Value}(Y:xS (model prog w) h C)(hz:dX.length<=sizeLine)(hi:Looks (model prog w) h (typeLookup (.ref C) "__init__") (some q))(hb:∀B,Looks (model prog w) h (bindSpecial q B) (q,[B]))(hq:codeAny (model prog w) (A.under (.builtin "type.__call__" ⟨.ref C::dX,[]⟩)) (.call q ⟨.ref (h.objs.size+1)::dX,[]⟩) (InitBack (h.objs.size+1) R) ⟨(h.push (tG dX)).push (hJ C none (.ref h.objs.size)),g,d,t,os⟩):
  codeAny (model prog w) A (.call (.ref C) ⟨dX,[]⟩) R ⟨h,g,d,t,os⟩:=by
 have L:=Y;obtain⟨⟨oc,od,cd,sl,tl,J,e1,e2,U⟩,af,base,B,aj,ab,ag,ah,O,aa⟩:=Y;refine codeAny_of_tree (nd_load J ?_);show wpAny _ _ (callAny.viaDunder (.ref C) _) _ _ _
 delta callAny.viaDunder
 refine AC (O.at ?_);dsimp only;rw[tc_bind];refine AC (AN (AC (AN (AN (a:=Fin.again (.call (.builtin "type.__call__") ⟨.ref C::dX,[]⟩)) (And.intro rfl ?_)))));refine codeAny_call_builtin_at (Code.quiet_builtin _ gf) entry_typeCall (check_slot tc_kind tc_split aa (tc_args _ _ _) ?_)
 delta Builtin.«type.__call__»
 have ae:Looks (model prog w) h (mroOf (.ref C)) cd.mro:=((Looks.ld J).andThen .now).andThen .now;have Z:cd.mro.isEmpty=false:=by rw[U];rfl
 repeat (first|simp only[Z,Bool.false_eq_true,if_false]|with_reducible refine B0 ?_|lk)
 refine Gw L hz ?_;have k:∀b o,h.get? b=some o->((h.push (tG dX)).push (hJ C none (.ref h.objs.size))).get? b=some o:=λb o e=>AO _ (AO _ e);have hx:((h.push (tG dX)).push (hJ C none (.ref h.objs.size))).get? (h.objs.size+1)=some (hJ C none (.ref h.objs.size)):=by heap_get
 have ai:Looks (model prog w) ((h.push (tG dX)).push (hJ C none (.ref h.objs.size))) (typeOf (.ref (h.objs.size+1))) (.ref C):=(Looks.ld hx).andThen .now;have s1:=B.keeps k;have i1:=hi.keeps k;have b1:=(hb (.ref (h.objs.size+1))).keeps k
 delta isInstance callSpecial? specialOf
 repeat (first|with_reducible refine B0 ?_|lk)
 refine Bs hq λr s' z=>?_
 rcases r with e | (v|_|_|_)<;>first|exact z|exact z.elim|skip
 obtain⟨rfl,z⟩:=z;exact AN (AN z)
end
end PySem.W
namespace PySem.W
open PySem PySem.Calls PyProof.Rows
def Xp{os}(Y:h.get? e=some Z)(U:Z.cls=.ref C)(L:h.get? C=some B)(O:B.data=.cls cd)(hi:Looks M h (isSubtype (.ref C) (.type "ValueError")) true)(q:Q () ⟨h,g,d,t,os⟩):
  wpAny M A (checkBuiltinCall "ValueError.__init__" ⟨.ref e::dX,[]⟩) Q E ⟨h,g,d,t,os⟩:=by
 have F:=Cm;have aa:=F.noStar;obtain⟨c1,c2,J,c4⟩:=B;obtain rfl:J=.cls cd:=O
 simp only[checkBuiltinCall,F.initKind,F.initSplit,F.initRow]
 repeat (first | (with_reducible refine CC Y ?_;rw[U])|with_reducible refine CC L ?_|with_reducible refine hi.at ?_|wp_step)
 apply wpAny_onRaise
 rw[show ∀a b n,Bind.check ⟨.positional,"*","ValueError",.self,[⟨"args",.varPos,false⟩]⟩ a b n (List.map (λx=>x.fst) ({ pos:=Value.ref e::dX }:Args).kw)=pure () from
  λa b n=>check_star_args _ _ _ _ _ _]
 exact AN q
end PySem.W
namespace L2
open PySem PySem.Spec PySem.W
open PyProof.Rows hiding St
def XB(e C:Addr)(d:Option Addr):Heap->Prop:=λh=>∃t,h.get? e=some (hJ C d (.ref t))
def Vr(q:h.get? e=some (hJ C d (.ref t))):ObjOk P w H h e (.ext (XB e C d)):=
 ⟨⟨t,q⟩,⟨_,q⟩,λh1 h2 ⟨t,z⟩ k=>⟨t,k _ z⟩⟩
section
variable{X:Cx}
def Inv.xb{σ:St}(I:Inv X ww σ H s)(q:H e=some (.ext (XB e C d))):∃t,s.heap.get? e=some (hJ C d (.ref t)):=(I.hok e _ q).1
def ZA:CallR X (.builtin "ValueError.__init__") (λvs H Q=>∃e C x d,vs=[.ref e,x]/\H e=some (.ext (XB e C d))/\Mf X.K C/\Q .non H):=by
 intro ww s σ H vs us Q I r h;obtain⟨e,C,x,d,rfl,B,M,aa⟩:=h
 obtain⟨u,v,rfl,ru,rv⟩:∃u v,us=[u,v]/\RelV (.ref e) u/\RelV x v:=by
  cases r with
  |cons a b=>cases b with|cons c d=>cases d;exact⟨_,_,rfl,a,c⟩
 obtain rfl:u=Value.ref e:=ru;obtain⟨t,J⟩:=I.xb B;have Y:=aD (M:=model X.prog X.w) I.kIn M;have F:=Cm;have ab:Looks (model X.prog X.w) s.heap (typeOf (.ref e)) (.ref C):=(Looks.ld J).andThen .now;obtain⟨oc,od,cd,sl,tl,Z,_⟩:=Y.obj;have I':=I;obtain⟨q,g,dd,tk,os⟩:=s;refine B0 (Cg F.init.plain F.initEntry (Xp J rfl Z rfl Y.val ?_))
 wp_walk
 have O:(q.push { cls:=Value.type "tuple",data:=Data.seq #[v] }).get? e=some (hJ C d (.ref t)):=AO _ J;have L:((q.push { cls:=Value.type "tuple",data:=Data.seq #[v] }).update e (Obj.mapFields λx=>x.setIfInBounds 0 (Value.ref q.objs.size))).get? e=some (hJ C d (.ref q.objs.size)):=Be _ O rfl
 have U:H=upd H e (.ext (XB e C d)):=by
  funext b
  delta upd
  split
  .next z=>rw[z,B]
  .rfl
 refine⟨.non,upd H e (.ext (XB e C d)),?_,rfl,by rwa[<- U]⟩;refine I.write (t':=tk) (B▸True.intro) (.inl rfl) (λb u hb hu=>?_) ⟨_,L⟩ (Vr L);rw[Au _ _ (Ne.symm hb)];exact AO _ hu
end
end L2
namespace PySem.W
open PySem PySem.Calls PyProof.Rows Builtin Builtin.ObjectAttr Builtin.Getset_descriptor
noncomputable def ou:List Value->Bool
 |[.type a,.type b,.type c,.type d]=>a == "ValueError" && b == "Exception" && c == "BaseException" && d == "object"
 |.ref _::r=>ou r
 |_=>false
def X3 q:refuseLoop q "__setattr__" [.type "ValueError",.type "Exception",.type "BaseException",.type "object"]=pure ():=by kernel_rfl
theorem QB self {l}:ou l=true->refuseLoop self "__setattr__" l=pure ():=by
 fun_induction ou l with
 |case1 a b c d=>
  intro e;simp only[Bool.and_eq_true,beq_iff_eq] at e
  obtain⟨⟨⟨rfl,rfl⟩,rfl⟩,rfl⟩:=e;exact X3 self
 |case2 _ _ h=>exact λe=>by rw[refuseLoop_ref];exact h e
 |case3=>nofun
section
variable{prog:Program}{w:World}{A:Around}{K:Frag}{C x:Addr}{s:Shared}{R:Result->Shared->Prop}
def cO(X:K.In s.heap)(I:InstAt s.heap x ox C od)(O:clsIn K C=some cd)(Y:ou cd.mro=true)(U:mroIn K C (.type "object")=some true)(L:findIn K (.ref C) name=some none)(h:wpAny (model prog w) A.in1 (storeInOwnDict (.ref x) (.ref C) (.str name tk) name v false)
   (λJ s'=>match J with | .done f=>R (.ok f) s' | .again B=>B.quiet=true/\codeAny (model prog w) A B R s') (λe s'=>R (.error e) s') s):
  codeAny (model prog w) A (.call (.builtin "object.__setattr__") ⟨[.ref x,.str name tk,v],[]⟩) R s:=by
 have q:=PySem.F.store_object;refine Cg q.slot.plain q.entry (@check_slot (model prog w) _ _ s "object.__setattr__" "object" "__setattr__" (.ref x) [.str name tk,v] [] _ q.kind q.split (I.type.andThen (Cf X U)) (q.args (.ref x) (.str name tk) v) ?_);rw[osa_eq,refuse_eq];refine AC (AC (I.type.here (AC ((show Looks (model prog w) s.heap (mroOf (.ref C)) cd.mro from(looks_clsIn X O).andThen .now).here ?_))))
 exact(QB _ Y)▸AN (AC (I.type.here (AC ((looks_findIn X L).here (AC (AN h))))))
end
end PySem.W
namespace L2
open PySem PySem.Spec PySem.W
open PyProof.Rows hiding St
structure Vg(K:Frag)(C:Addr)(f:Str):Prop where
 cls:∃cd,clsIn K C=some cd/\ou cd.mro=true/\cd.hasDict=true
 sa:findIn K (.ref C) "__setattr__"=some (some (.builtin "object.__setattr__"))
 ob:mroIn K C (.type "object")=some true
 na:findIn K (.ref C) f=some none
def XD(d:Addr)(fs:List (Str×V)):Heap->Prop:=λh=>∃mA,h.Ns1 d mA/\(∀f,RelO (fs.lookup f) (mA f))/\PySem.Within mA (fs.map (·.1))
def Vq(x:XD d fs h):ObjOk P w H h d (.ext (XD d fs)):=
 ⟨x,let ⟨mA,⟨o,_,_,e,_⟩,_⟩:=x;⟨o,e⟩,λh1 h2 ⟨mA,⟨o,es,ep,e,c⟩,r⟩ k=>⟨mA,⟨o,es,ep,k _ e,c⟩,r⟩⟩
section
variable{X:Cx}{ww:List (Addr×Obj)}{σ:St}{H:Hp}{s:Shared}{e C:Addr}{f:Str}{A:Around}{E:Value->Shared->Prop}
def Vo(I:Inv X ww σ H s)(J:H e=some (.ext (XB e C none)))(c:Vg X.K C f)(ry:RelV y u)(h:∀d s',H d=none->d≠e->Inv X ww σ (upd (upd H d (.ext (XD d [(f,y)]))) e (.ext (XB e C (some d)))) s'->Q () s'):wpAny (model X.prog X.w) A (setAttr (.ref e) f u) Q E s:=by
 refine Yk (I.xb J) λt O=>oK c.cls λcd hc hx af=>?_;have aa:InstAt s.heap e (hJ C none (.ref t)) C none:=⟨O,rfl,rfl,True.intro⟩;refine set_plain I.kIn aa c.sa (cO I.kIn aa hc hx c.ob c.na ?_);have ae:=looks_clsIn (M:=model X.prog X.w) I.kIn hc;refine AC (AN (AC (AC (DM O (AC (B5 ae ?_))))));rw[af];obtain⟨B,g,dd,tk,os⟩:=s
 refine AC (wpAny_alloc ?_);have L:=CM (AS O);have e0:(B.push emptyDict).get? B.objs.size=some emptyDict:=Ad B rfl;have e1:(B.push emptyDict).get? e=some (hJ C none (.ref t)):=AO _ O;refine AC (wpAny_update e1 ?_);have e2:((B.push emptyDict).update e λo=>{ o with dict:=some B.objs.size }).get? e=some (hJ C (some B.objs.size) (.ref t)):=Be _ e1 rfl
 have e3:((B.push emptyDict).update e λo=>{ o with dict:=some B.objs.size }).get? B.objs.size=some emptyDict:=by rwa[Au _ _ (Ne.symm L)]
 have e4:=Heap.Ns1.of_empty ⟨emptyDict,#[],_,e3,rfl,(λe J=>absurd J ue),λ_=>rfl⟩;refine AN (AC (AN (AC (wpAny_nsSet1 e4 λh' Y ai=>bF (Y.count (PySem.Within.cons f u (show PySem.Within (λ_:Str=>(none:Option Value)) [] from λy Z=>absurd rfl Z))) λoD ao ak ah ag ab=>?_))));refine AC (wpAny_lookBehind ah (ag▸pastItsLine_dict (AK ab (by grind))) (AN (h B.objs.size _ (I.hok.fresh (AQ _)) L ?_)))
 have aj:XD B.objs.size [] (B.push emptyDict):=⟨λ_=>none,Heap.Ns1.of_empty ⟨emptyDict,#[],_,e0,rfl,(λe J=>absurd J ue),λ_=>rfl⟩,λ_=>True.intro,λy Z=>absurd rfl Z⟩;have I1:=I.laid (t':=tk) (h':=B.push emptyDict) (λb u q=>AO _ q) (AQ _) (Vq aj);have m1:upd H B.objs.size (.ext (XD B.objs.size [])) e=some (.ext (XB e C none)):=by rwa[pX (Ne.symm L)]
 have I2:=I1.write (t':=tk) (o:=.ext (XB e C (some B.objs.size))) (h':=(B.push emptyDict).update e λo=>{ o with dict:=some B.objs.size }) (m1▸True.intro) (.inl rfl) (λb u U hu=>by rwa[Au _ _ (Ne.symm U)]) ⟨_,e2⟩ (Vr e2);have m2:upd (upd H B.objs.size (.ext (XD B.objs.size []))) e (.ext (XB e C (some B.objs.size))) B.objs.size=some (.ext (XD B.objs.size [])):=by rw[pX L,iQ]
 have x1:XD B.objs.size [(f,y)] h':=by
  refine⟨_,Y,λz=>?_,λz hz=>?_⟩
  .by_cases q:z=f
   .subst q
    rw[A4 rfl]
    simp only[List.lookup,beq_self_eq_true]
    exact ry
   .rw[A7 q]
    simp only[List.lookup,beq_eq_false_iff_ne.mpr q]
    exact True.intro
  .grind
 have I3:=I2.write (t':=tk+1+1) (o:=.ext (XD B.objs.size [(f,y)])) (h':=h') (m2▸True.intro) (.inl rfl) (λb u U hu=>(ai.2 b U).trans hu) (let ⟨o,_,_,z,_⟩:=Y;⟨o,z⟩) (Vq x1)
 have eH:upd (upd (upd H B.objs.size (.ext (XD B.objs.size []))) e (.ext (XB e C (some B.objs.size)))) B.objs.size (.ext (XD B.objs.size [(f,y)]))=upd (upd H B.objs.size (.ext (XD B.objs.size [(f,y)]))) e (.ext (XB e C (some B.objs.size))):=by
  funext b
  delta upd
  by_cases q1:b=B.objs.size
  .lia
  .lia
 rwa[eH] at I3
end
section
variable{X:Cx}{ww:List (Addr×Obj)}{σ:St}{H:Hp}{s:Shared}{e C d:Addr}{f:Str}{A:Around}{E:Value->Shared->Prop}
def Vn{y:V}{u:Value}{fs:List (Str×V)}{Q:Unit->Shared->Prop}(I:Inv X ww σ H s)(af:H e=some (.ext (XB e C (some d))))(L:H d=some (.ext (XD d fs)))(c:Vg X.K C f)(hl:fs.length<1000)(ry:RelV y u)(h:∀s',Inv X ww σ (upd H d (.ext (XD d (vY f y fs)))) s'->Q () s'):wpAny (model X.prog X.w) A (setAttr (.ref e) f u) Q E s:=by
 obtain⟨t,Y⟩:=I.xb af;obtain⟨mA,O,r,wi⟩:=(show ObjOk X.prog X.w H s.heap d (.ext (XD d fs)) from I.hok d _ L).1;obtain⟨cd,B,hx,hD⟩:=c.cls;obtain⟨aj,_,_,ah,_⟩:=id O;have J:InstAt s.heap e (hJ C (some d) (.ref t)) C (some aj):=⟨Y,rfl,rfl,ah⟩;have hz:(fs.map (·.1)).length<=sizeLine:=by rw[AA,Cd];omega
 refine set_plain I.kIn J c.sa (cO (s:={ s with toks:=s.toks+1 }) I.kIn J B hx c.ob c.na ?_);have ab:=looks_clsIn (M:=model X.prog X.w) I.kIn B;refine AC (AN (AC (AC (DM Y (AC (B5 (s:={ s with toks:=s.toks+1 }) ab ?_))))));rw[hD];refine AN (a:=some d) (AC (AN (AC ?_)));refine wpAny_nsSet1 (s:={ s with toks:=s.toks+1 }) O λh' U ai=>?_
 obtain⟨oD,ao,ak,Z,ae,aa⟩:=U.count (PySem.Within.cons f u wi);refine AC (wpAny_lookBehind Z (by rw[ae];exact pastItsLine_dict (AK aa (by rw[AD];omega))) ?_);refine AN (h _ ?_)
 have x1:XD d (vY f y fs) h':=by
  refine⟨_,U,λg=>?_,λg ag=>?_⟩
  .show RelO ((vY f y fs).lookup g) (if g=f then some u else mA g)
   rw[wM]
   by_cases q:g=f
   .rw[A4 q,A4 q];exact ry
   .rw[A7 q,A7 q];exact r g
  .by_cases q:g=f
   .rw[q];exact(wU f y fs).1
   .refine(wU f y fs).2 g (wi g λz=>ag ?_)
    show(if g=f then some u else mA g)=none;rw[A7 q];exact z
 exact I.write (x:=d) (e:=d) (by rw[L];exact True.intro) (.inl rfl) (λb q hb z=>(ai.2 b hb).trans z) ⟨_,Z⟩ (Vq x1)
end
section
variable{X:Cx}{o value:Expr}{f:Str}{pos pos':Pos}{ta tv:TE}
def Sy(K:DQ)(ta tv:TE)(f:Str):TS:=λD σ H=>tv σ H λy H1=>ta σ H1 λx H2=>∃e C,x=.ref e/\H2 e=some (.ext (XB e C none))/\Vg K C f /\
 ∀d,H2 d=none->d≠e->D.nx σ (upd (upd H2 d (.ext (XD d [(f,y)]))) e (.ext (XB e C (some d))))
def Sx(K:DQ)(ta tv:TE)(f:Str):TS:=λD σ H=>tv σ H λy H1=>ta σ H1 λx H2=>∃e C d fs,x=.ref e/\H2 e=some (.ext (XB e C (some d)))/\H2 d=some (.ext (XD d fs))/\Vg K C f/\fs.length<1000 /\
 D.nx σ (upd H2 d (.ext (XD d (vY f y fs))))
def G9(U:PE X o ta)(Y:PE X value tv)(hs:swapsWith value (some (.Attribute o f pos')) pos.line X.env=pure false):PS X (.Assign [.Attribute o f pos'] value pos) (Sy X.K ta tv f):=by
 intro ww s σ H D I h;refine CU (thn (Y ww s σ H _ I h) λu s1 zz=>rZ zz λy H1 B ry q=>thn (U ww s1 σ H1 _ B q) λZ aa ⟨x,H2,J,rx,e,C,ex,O,c,q2⟩=>?_) hs;subst ex;obtain rfl:Z=Value.ref e:=rx;exact Vo J O c ry λd ab h1 h2 L=>⟨σ,_,L,q2 d h1 h2⟩
def G8(U:PE X o ta)(Z:PE X value tv)(hs:swapsWith value (some (.Attribute o f pos')) pos.line X.env=pure false):PS X (.Assign [.Attribute o f pos'] value pos) (Sx X.K ta tv f):=by
 intro ww s σ H D I h;refine CU (thn (Z ww s σ H _ I h) λu s1 ⟨y,H1,q,ry,aa⟩=>thn (U ww s1 σ H1 _ q aa) λov ab ⟨x,H2,B,rx,e,C,d,fs,ex,O,L,c,Y,q2⟩=>?_) hs;subst ex;obtain rfl:ov=Value.ref e:=rx;exact Vn B O L c Y ry λae J=>⟨σ,_,J,q2⟩
end
structure UV(K:DQ)(V:Addr):Prop where
 ga:specialIn K (.ref V) "__getattribute__"=some (some (.builtin "type.__getattribute__"))
 rd:readsIn K V (.type "type")=true
 fc:findCls K (.ref V) (.type "type") "__init__"=some (.val (.builtin "ValueError.__init__"))
section
variable{X:Cx}{e:Expr}{es:List Expr}{pos apos p:Pos}{t:TA}{x:Str}{V:Addr}
def SN(K:DQ):List L2.V->Hp->VK->Prop:=λvs H Q=>∃e C x d,vs=[.ref e,x]/\H e=some (.ext (XB e C d))/\Mf K C/\Q .non H
def Wb{pl}(Z:UV X.K V)(U:Gl X x)(Y:X.mg x=some (.ref V))(J:PA X (e::es) t)(L:(x==("__debug__":Str))=false:=by decide)(O:starEach (e::es) X.env=(false,eval e X.env)::starEach es X.env:=by rfl)(aa:(backTo pos (starEach es X.env)).any (·.1)=false:=by rfl)(ht:eval (.Call (.Attribute (.Name x p) "__init__" apos) (e::es) [] pos) X.env=(do
   let B <- eval (.Name x p) X.env
   standAt apos.atName
   let (f,first) <- holding [B] (getMethod B "__init__" pl)
   callWith pos f first (backTo pos (starEach (e::es) X.env)) (backToKw pos (keywordEach [] X.env))):=by rfl):
  PE X (.Call (.Attribute (.Name x p) "__init__" apos) (e::es) [] pos) (tCB (SN X.K) t):=by
 intro ww s σ H Q I h;refine DJ (pG I U Y (method_cls I.kIn Z.ga (cls_value I.kIn Z.rd Z.fc rfl ?_)) L) ht;have q:=I.tok (s.toks+1);exact PyProof.Rows.callWith_builtin1 (thn (J pos ww _ σ H _ q h) λus s1 zz=>rZ zz λvs H1 q r1 q1=>ZA ww s1 σ H1 vs us Q q r1 q1) O aa
end
def PF(X:Cx)(e:Expr)(c:St->Hp->Prop)(n:Nat):Prop:=
 ∀(ww:List (Addr×Obj))(s:Shared)(σ:St)(H:Hp),Inv X ww σ H s->c σ H->wpAny (model X.prog X.w) X.A (eval e X.env) (λv s'=>∃y tk,v=.str y tk/\y.length<=n/\Inv X ww σ H s') X.xe s
inductive ur(X:Cx):List Expr->(St->Hp->Prop)->Nat->Prop
 |nil:ur X [] (λ_ _=>True) 0
 |cons {e:Expr} {es:List Expr} {c c':St->Hp->Prop} {n m:Nat} (h:PF X e c n) (r:ur X es c' m):ur X (e::es) (λσ H=>c σ H/\c' σ H) (n+m)
section
variable{X:Cx}
def QH(O:x.length<=sizeLine:=by decide +kernel):PF X (.Constant (.str x) k pos) (λ_ _=>True) x.length:=λww s σ H I _=>thn (We ww s σ H (λv H'=>v=.str x/\H'=H) I ⟨rfl,rfl⟩) λu s1 L=>Xd L λv H1 q r J B=>by
 subst J B;obtain⟨t,rfl⟩:=r;exact⟨x,t,rfl,AQ _,q⟩
def V9{i:Nat}{x:Str}{p pos:Pos}{te:TE}(O:PE X (.Name x p) te):PF X (.FormattedValue (.Name x p) (-1) none pos) (λσ H=>te σ H λv H'=>H'=H/\∃j:Int,v=.int j/\j.natAbs<=1000000000000) 14:=λww s σ H I h=>by
 refine PyProof.Rows.FormattedValue_plain (thn (O ww s σ H _ I h) λu s1 ⟨v,H1,q,r,B,j,J,hj⟩=>?_);subst B J;obtain⟨t,rfl⟩:=(show ∃t,u=Value.int j t from r)
 have L:j.natAbs.log2<1920:=by
  by_cases h0:j.natAbs=0
  .rw[h0];decide
  .rw[Nat.log2_lt h0]
   exact Bi hj (AE (show 1000000000000<2 ^ 40 by decide) (Nat.pow_le_pow_right Th Th))
 exact PyProof.Rows.formatField_int_small L ⟨_,_,rfl,CL.uy hj,q.tok _⟩
theorem QG:∀{es}{c}{n},ur X es c n->∀ww s(σ:St)H B Q,Inv X ww σ H s->c σ H->B.length+n<=sizeLine->(∀y tk s',Inv X ww σ H s'->Q (.str y tk) s')->wpAny (model X.prog X.w) X.A (joinParts B (evalEach es X.env)) Q X.xe s
 |_,_,_,.nil,ww,s,σ,H,B,Q,I,_,O,q=>PyProof.Rows.joinParts_nil (q _ _ _ (I.tok _)) ir
 |_,_,_,.cons h r,ww,s,σ,H,B,Q,I,J,O,q=>PyProof.Rows.joinParts_cons (thn (h ww s σ H I J.1) λv s1 U=>rZ U λy tk e Z L=>by
   subst e;have Y:(B++y).length=B.length+y.length:=strLen_append _ _
   exact⟨by lia,QG r ww s1 σ H (B++y) Q L J.2 ir q⟩)
def wj(h:ur X (J::L::es) c n)(O:n<=sizeLine):PE X (.JoinedStr (J::L::es) pos) (λσ H Q=>c σ H/\∀y,Q (.str y) H):=by
 intro ww s σ H Q I q;refine PyProof.Rows.JoinedStr_many (QG h ww s σ H Str.empty _ I q.1 (by show 0+n<=_;lia) λy tk s' B=>⟨.str y,H,B,⟨_,rfl⟩,q.2 y⟩)
end
end L2
namespace PySem.W
open PySem PySem.Calls PyProof.Rows
def jL(hh:A.handled=none)(h:wpAny M A x (λv q=>∃e C d t B cd,v=.ref e/\q.heap.get? C=some B/\B.data=.cls cd/\B.cls=.type "type"/\xS M q.heap C/\q.heap.get? e=some (hJ C d (.ref t))/\E (.ref e) q) E s):
  wpAny M A (raiseStmt af (some x) none) Q E s:=by
 delta raiseStmt
 refine AC (BA h (λv q ae=>?_) λ_ _ x=>x);obtain⟨e,C,d,t,B,cd,rfl,O,Z,aa,Y,ab,U⟩:=ae;obtain⟨J,c2,L,c4⟩:=B;obtain rfl:L=.cls cd:=Z;obtain rfl:J=.type "type":=aa;obtain⟨hp,g,dd,tk,os⟩:=q
 repeat (first|with_reducible refine CC ab ?_|with_reducible refine CC O ?_|with_reducible refine Y.bas.at ?_|wp_step)
 exact wpAny_raiseNew_none hh U
structure Gq(fs:List Addr)(e:Addr)(oe:Obj)(T:Addr)(h h':Heap):Prop where
 ne:T≠e
 new:h.objs.size<=T
 keep:∀b o,b≠e->b∉fs->h.get? b=some o->h'.get? b=some o
 slot:∀b o,b≠e->b∈fs->h.get? b=some o->∃sl,h'.get? b=some { o with slots:=sl }
 exc:h'.get? e=some (oe.mapFields (·.setIfInBounds 1 (.ref T)))
 ent:∃oT ts,h'.get? T=some oT/\oT.data=.fields ts/\ts[3]?=some .none
section
variable{M:Model}{A:Around}{E:Value->Shared->Prop}{s:Shared}
def lC
  (ax:A.frames=some (O::outer))(hl:s.heap.FunFrames base (O::outer))(aw:O.frame=some L)(ai:s.heap.get? e=some oe)(ab:oe.data=.fields vs)(aq:1<vs.size)(h:∀h' T,Gq ((O::outer).filterMap (·.frame)) e oe T s.heap h'->Q () { s with heap:=h' }):
  wpAny M A (do let a <- frameOf O;let B <- entryPlaceOf L a0;let b <- EntryCells.newEntry ae a .none (rawInt L) .none B;setField (.ref e) 1 b) (λ_ s'=>wpAny M A (setFlight (.ref e) none) Q E s') E s:=by
 have au:e∉(O::outer).filterMap (·.frame):=λay=>by
  obtain⟨_,o,Y,az⟩:=hl.mem ay;rw[ai] at Y;injection Y with Y;subst Y;exact az vs ab
 refine AC (wpAny_frameOf_fun ax hl aw λq Z=>AC (wpAny_entryPlaceOf λB ao=>AC (Bm ?_ (ao.sizeOk5 _ _ _ _ _))));have aj:=(Z.2.1 e au).trans ai;have ak:=AO { cls:=.type "traceback",dict:=none,data:=.fields ([ae,.ref L,.none,rawInt L,.none]++(if B.isEmpty then List.replicate 6 Value.none else B)).toArray } aj
 apply wpAny_setField ak ab aq
 have aa:=CM (AS aj);have ah:=Obj.data_mapFields ab (·.setIfInBounds 1 (Value.ref q.objs.size));have av:=Be (Obj.mapFields (·.setIfInBounds 1 (Value.ref q.objs.size))) ak (Obj.isFreed_of_fields ah)
 have af:=(Au (q.push { cls:=.type "traceback",dict:=none,data:=.fields ([ae,.ref L,.none,rawInt L,.none]++(if B.isEmpty then List.replicate 6 Value.none else B)).toArray })
  (Obj.mapFields (·.setIfInBounds 1 (Value.ref q.objs.size))) (Ne.symm aa)).trans (Ad q rfl)
 refine AC (Cc av ah (x:=.ref q.objs.size) (by simp[aq]) ?_);refine wpAny_setField af rfl (by simp_all) (h _ q.objs.size ?_)
 have ar:∀b o,b≠e->q.get? b=some o ->
   (((q.push { cls:=.type "traceback",dict:=none,data:=.fields ([ae,.ref L,.none,rawInt L,.none]++(if B.isEmpty then List.replicate 6 Value.none else B)).toArray }).update e (Obj.mapFields (·.setIfInBounds 1 (Value.ref q.objs.size)))).update q.objs.size
    (Obj.mapFields (·.setIfInBounds 3 ((none:Option Addr).elim Value.none λf=>rawInt f)))).get? b=some o:=λb o U J=>by
  rw[Au _ _ (CM (AS J)),Au _ _ (Ne.symm U)];exact AO _ J
 refine⟨aa,DD Z.1.symm,λb o U ag J=>ar b o U ((Z.2.1 b ag).trans J),λb o U ag J=>?_,?_,?_⟩
 .obtain⟨sl,hs⟩:=Z.2.2 b o J
  exact⟨sl,ar b _ U hs⟩
 .rwa[Au _ _ aa]
 .exact⟨_,_,Be _ af (Obj.isFreed_of_fields (Obj.data_mapFields rfl _)),Obj.data_mapFields rfl _,by first | (simp;done) | (rcases ao with rfl|⟨_,_,_,_,_,_,_,rfl⟩<;>simp)⟩
def Hz
  (Y:A.frames=some (q::outer))(Z:s.heap.FunFrames base (q::outer))(O:q.frame=some L)(J:s.heap.get? e=some U)(B:U.data=.fields vs)(h1:vs[1]?=some .none)(h:∀h' T,Gq ((q::outer).filterMap (·.frame)) e U T s.heap h'->Q () { s with heap:=h' }):wpAny M A (noteFrame (.ref e) q) (λ_ s'=>wpAny M A (setFlight (.ref e) none) Q E s') E s:=by
 delta noteFrame
 simp only[O]
 refine AC (Cc J B h1 (lC Y Z O J B (BP.mp h1).1 h))
structure Mg(fs:List Addr)(e:Addr)(oe:Obj)(T0 T:Addr)(h h':Heap):Prop where
 ne:T≠e
 new:h.objs.size<=T
 keep:∀b o,b≠e->b≠T0->b∉fs->h.get? b=some o->h'.get? b=some o
 slot:∀b o,b≠e->b≠T0->b∈fs->h.get? b=some o->∃sl,h'.get? b=some { o with slots:=sl }
 exc:h'.get? e=some (oe.mapFields (·.setIfInBounds 1 (.ref T)))
 ent:∃oT ts,h'.get? T=some oT/\oT.data=.fields ts/\ts[3]?=some .none
 old:∃o,h'.get? T0=some o
def yd
  (ak:A.frames=some (O::outer))(hl:s.heap.FunFrames base (O::outer))(ah:O.frame=some L)(ag:s.heap.get? e=some oe)(af:oe.data=.fields vs)(h1:vs[1]?=some (.ref q))(ae:q≠e)(Y:s.heap.get? q=some oT)(aa:oT.data=.fields ts)(J:ts[3]?=some .none)(h:∀h' T,Mg ((O::outer).filterMap (·.frame)) e oe q T s.heap h'->Q () { s with heap:=h' }):wpAny M A (noteFrame (.ref e) O) (λ_ s'=>wpAny M A (setFlight (.ref e) none) Q E s') E s:=by
 delta noteFrame
 simp only[ah]
 refine AC (Cc ag af h1 (AC (Cc Y aa J (AC (wpAny_setField Y aa (BP.mp J).1 ?_)))));have ab:∀b,b≠q->(s.heap.update q (Obj.mapFields (·.setIfInBounds 3 Value.none))).get? b=s.heap.get? b:=λb B=>Au _ _ (Ne.symm B)
 have ai:∀b o,s.heap.get? b=some o->(∀vs,o.data≠.fields vs)->b≠q:=λb o B U aq=>by
  rw[aq,Y] at B;injection B with B;subst B;exact U ts aa
 have aj:q∉(O::outer).filterMap (·.frame):=λao=>by
  obtain⟨_,o,ho,U⟩:=hl.mem ao;exact ai q o ho U rfl
 refine lC (s:={ s with heap:=s.heap.update q (Obj.mapFields (·.setIfInBounds 3 Value.none)) }) ak (hl.of_keeps λb o B U=>⟨o,(ab b (ai b o B U)).trans B,rfl⟩) ah ((ab e (Ne.symm ae)).trans ag) af (BP.mp h1).1 λh' T Z=>h h' T ?_;refine⟨Z.ne,AK (DD (Heap.size_update _ _ _).symm) Z.new,λb o h1 h2 J h4=>Z.keep b o h1 J ((ab b h2).trans h4),λb o h1 h2 J h4=>Z.slot b o h1 J ((ab b h2).trans h4),Z.exc,Z.ent,⟨_,Z.keep q _ ae aj (Be _ Y (Obj.isFreed_of_fields (Obj.data_mapFields aa _)))⟩⟩
def WO(h:wpAny M A (noteFrame e q) (λ_ s'=>wpAny M A (setFlight e none) Q E s') E s):wpAny M A (leaving q e) Q E s:=AC h
end
end PySem.W
namespace L2
open PySem PySem.Spec PySem.W
open PyProof.Rows hiding St
noncomputable def Mm(H:Hp)(e:Addr):Hp:=λb=>if b=e then none else H b
def dB:Mm H e e=none:=A4 rfl
def cB(h:b≠e):Mm H e b=H b:=A7 h
structure XT(h:Heap)(e C:Addr)(d:Option Addr)(T:Addr):Prop where
 exc:∃oe vs,h.get? e=some oe/\oe.cls=.ref C/\oe.dict=d/\oe.data=.fields vs/\vs[1]?=some (.ref T)
 ne:T≠e
 ent:∃oT ts,h.get? T=some oT/\oT.data=.fields ts/\ts[3]?=some .none
def ph(P:Program)(w:World):CXT:=λouter H s E e s'=>∃q C d T H',e=.ref q/\s'.os=s.os/\AllBare s'.gens/\Un (frs outer) [] H H' s.heap s'.heap/\HOk P w H' s'.heap/\H' q=none/\H' T=none /\
 s.heap.objs.size<=q/\s.heap.objs.size<=T/\XT s'.heap q C d T/\E (.ref C) d H'
def Vm{q:Obj}(aa:T≠e)(Z:h.get? e=some (q.mapFields (·.setIfInBounds 1 (.ref T))))(O:q.cls=.ref C)(U:q.dict=d)(Y:q.data=.fields vs)(hs:1<vs.size)(L:∃B ts,h.get? T=some B/\B.data=.fields ts/\ts[3]?=some .none):XT h e C d T:=by
 obtain⟨c1,c2,J,c4⟩:=q;obtain rfl:J=.fields vs:=Y;exact⟨⟨_,_,Z,O,U,rfl,by simp[hs]⟩,aa,L⟩
section
variable{P:Program}{w:World}{K:DQ}{mg:Str->Option Value}{base:Heap}{N:List Str}{qual:Str}{scope:Scope}{f:Addr}{cd:Value}{A:Around}{outer:List Env}{s s1:Shared}{H H2:Hp}{E E':XK}{ww:List (Addr×Obj)}{σ:St}{e C:Addr}{d:Option Addr}
def uw{fs:List Addr}{L:Addr}(I:Inv X ww σ H2 s1)(hx:X.ex=[])(Z:X.s₀.heap.objs.size<=L)(Y:∀b,b∈fs↔b=L\/b∈X.fs)(k:∀b o,b<X.s₀.heap.objs.size->b∉fs->s1.heap.get? b=some o->h'.get? b=some o)(sl:∀b o,b<X.s₀.heap.objs.size->b∈fs->s1.heap.get? b=some o->∃z,h'.get? b=some { o with slots:=z })(hn:∀b,H2 b=none->H' b=none)(hs:∀b o,H2 b=some o->(∀φ,o≠.ext φ)->H' b=some o):Un X.fs [] X.H₀ H' X.s₀.heap h':=by
 have U:∀b o,X.s₀.heap.get? b=some o->b<X.s₀.heap.objs.size/\b≠L:=λb o q=>⟨AS q,Ai (AE (AS q) Z)⟩;have J:∀b,b∉X.ex:=λb z=>by rw[hx] at z;cases z
 refine⟨λb o q n B _=>?_,λb o q n B _=>?_,λb o q n _=>hn b (I.base.free b o q n (J b)),λb o q _=>?_,λb xs q=>?_,λb o u q=>?_,λb ps q=>?_⟩
 .exact k b o (U b o q).1 (λz=>((Y b).1 z).elim (U b o q).2 B) (I.base.keep b o q n B (J b))
 .obtain⟨z,O⟩:=I.base.slot b o q n B (J b)
  obtain⟨z',q2⟩:=sl b _ (U b o q).1 ((Y b).2 (.inr B)) O;exact⟨z',q2⟩
 .obtain⟨o',O⟩:=I.base.there b o q (J b)
  by_cases hb:b∈fs
  .grind
  .grind
 .exact hs b _ (I.base.tups b xs q) λ_ z=>nomatch z
 .exact hs b _ (I.base.frzs b o u q) λ_ z=>nomatch z
 .obtain⟨m,O⟩:=I.base.tbls b ps q
  exact⟨m,hs b _ O λ_ z=>nomatch z⟩
def W5(I:Inv X ww σ H2 s1)(k:∀b o,(∃u,H' b=some u)->s1.heap.get? b=some o->h'.get? b=some o)(hs:∀b u,H' b=some u->H2 b=some u)(B:∀b y,H2 b=some (.own y)->H' b=H2 b)(J:∀b xs,H2 b=some (.tup xs)->H' b=H2 b):HOk X.prog X.w H' h':=λa o q=>
 (I.hok a o (hs a o q)).stay (λb u O L=>k b u (by grind) L) (λb z=>(B b a z).trans z) (λb xs z=>(J b xs z).trans z)
def Gx(I:Inv (tU (ph P w) P w K mg base N qual scope f cd A outer s H E) ww σ H2 s1)(O:H2 e=some (.ext (XB e C d)))(hs:s.heap.objs.size<=e)(q:E (.ref C) d (Mm H2 e)):
  (tU (ph P w) P w K mg base N qual scope f cd A outer s H E).xe (.ref e) s1:=by
 refine Yk (I.xb O) λt Y=>WO (Hz I.ok.frames I.stack rfl Y rfl rfl λh' T Z=>⟨e,C,d,T,Mm H2 e,rfl,I.os,I.bare,?_,?_,dB,?_,hs,AK I.sz Z.new,Vm Z.ne Z.exc rfl rfl rfl (by simp_all) Z.ent,q⟩)
 .refine uw I rfl (AQ _) (λb=>?_) (λb o J U q=>Z.keep b o (Ai (AE J hs)) U q) (λb o J U q=>Z.slot b o (Ai (AE J hs)) U q) (λb z=>?_) λb o z aa=>?_
  .show b∈s.heap.objs.size::frs outer↔_
   rw[Ah];exact Iff.rfl
  .by_cases J:b=e
   .lia
   .rwa[cB J]
  .have L:b≠e:=λy=>by rw[y,O] at z;exact aa _ (Av z).symm
   rwa[cB L]
 .refine W5 I (λb o B q=>Z.keep b o (λz=>?_) (λz=>?_) q) (λb u z=>?_) (λb y z=>cB λh=>?_) λb xs z=>cB λh=>?_
  .obtain⟨u,B⟩:=B;rw[z,dB] at B;cases B
  .obtain⟨u,B⟩:=B
   have L:b≠e:=λh=>by rw[h,dB] at B;cases B
   rw[cB L,I.stkFree b z] at B;cases B
  .have L:b≠e:=λh=>by rw[h,dB] at z;cases z
   rwa[cB L] at z
  .lia
  .rw[h,O] at z;cases z
 .exact(cB Z.ne)▸I.hok.fresh Z.new
end
section
variable{X:Cx}{CX:CXT}{k:Nat}{f C:Addr}{fd:FuncData}{ps:List Str}{sp:Sp}{E:XK}{x:Str}{p pos cpos np:Pos}{e:Expr}{es:List Expr}{t:TA}
def Inv.MP{σ:St}(I:Inv X ww σ H s):Inv X ww σ (upd H (s.heap.objs.size+1) (.ext (XB (s.heap.objs.size+1) C none)))
  { s with heap:=(s.heap.push (tG us)).push (hJ C none (.ref s.heap.objs.size)) }:=by
 have B:=I.kept (t':=s.toks) (h':=s.heap.push (tG us)) λb u q=>AO _ q
 have J:((s.heap.push (tG us)).push (hJ C none (.ref s.heap.objs.size))).get? (s.heap.objs.size+1)=some (hJ C none (.ref s.heap.objs.size)):=by
  have:=Ad (s.heap.push (tG us)) (o:=hJ C none (.ref s.heap.objs.size)) rfl
  rwa[Ba] at this
 exact B.laid (t':=s.toks) (λb u q=>AO _ q) (DD (Ba _ _)) (Vr J)
structure R7(K:DQ)(C f:Addr):Prop where
 xm:Mf K C
 init:findIn K (.ref C) "__init__"=some (some (.ref f))
 fn:isFn K (.ref f)=true
 kp:keepIn K (.ref C)=true
def Kk{σ:St}(M:R7 X.K C f)(F:FnOk X.prog X.w X.K X.mg X.base CX k f fd ps sp)(aa:Room (k+1) X.A)(hb:Binds X.K fd ps [])(hx:jV CX X E)(I:Inv X ww σ H s)(r:Vals vs us)(hz:vs.length<=1000)(h:∀e,H e=none->X.s₀.heap.objs.size<=e->sp (.ref e::vs) (upd H e (.ext (XB e C none))) (λv H2=>v=.non/\Q (.ref e) H2) E):
  wpAny (model X.prog X.w) X.A (call (.ref C) us) (EP X ww σ Q) X.xe s:=by
 have O:=h (s.heap.objs.size+1) (I.hok.fresh (B9 _)) (AK I.sz (B9 _));have B:=Inv.MP (C:=C) (us:=us) I;have U:Vals (V.ref (s.heap.objs.size+1)::vs) (Value.ref (s.heap.objs.size+1)::us):=.cons rfl r
 have hl:(Value.ref (s.heap.objs.size+1)::us).length=ps.length:=by
  have e:=U.length;rw[F.len _ _ _ _ O] at e;exact e.symm
 have ab:us.length<=sizeLine:=r.length▸AK hz Th;have L:=hb { s with heap:=(s.heap.push (tG us)).push (hJ C none (.ref s.heap.objs.size)) } (Value.ref (s.heap.objs.size+1)::us) B.kIn (by grind);rw[AM] at L;obtain⟨J,g,dd,tk,os⟩:=s
 refine B0 (XR (aD I.kIn M.xm) ab (looks_findIn I.kIn M.init) (λae=>bind_fn I.kIn ae (beq_iff_eq.mp M.fn)) (Bs (F.run _ X.stack _ _ ⟨Value.ref (J.objs.size+1)::us,[]⟩ (Value.ref (J.objs.size+1)::us) _ _ E (aa.make C us [])
  (B.env0.make C us []) L U O) λr s' q=>?_))
 cases r with
 |error e=>exact hx ww σ _ _ e s' B q
 |ok Z =>
  cases Z with
  |ret u =>
   obtain⟨v,H',Y,rv,rfl,q3⟩:=B.after q;exact⟨rv,⟨V.ref (J.objs.size+1),H',Y,rfl,q3⟩⟩
  |next=>exact False.elim q
  |brk=>exact False.elim q
  |cont=>exact False.elim q
def M3(C:Addr)(n:Nat)(sp:Sp)(E:XK)(t:TA):TE:=λσ H Q=>t σ H λvs H1=>vs.length<=1000/\∀e,H1 e=none->n<=e->sp (.ref e::vs) (upd H1 e (.ext (XB e C none))) (λv H2=>v=.non/\Q (.ref e) H2) E
def Wa(M:R7 X.K C f)(F:FnOk X.prog X.w X.K X.mg X.base CX k f fd ps sp)(aa:Room (k+1) X.A)(U:Gl X x)(Y:X.mg x=some (.ref C))(J:Binds X.K fd ps [])(hx:jV CX X E)(B:PA X (e::es) t)(L:(x==("__debug__":Str))=false:=by decide)(O:starEach (e::es) X.env=(false,eval e X.env)::starEach es X.env:=by rfl)(Z:(backTo pos (starEach es X.env)).any (·.1)=false:=by rfl):
  PE X (.Call (.Name x p) (e::es) [] pos) (M3 C X.s₀.heap.objs.size sp E t):=by
 intro ww s σ H Q I h;exact BX (pG I U Y (B4 I.ok.mod.kin M.kp (thn (B pos ww s σ H _ I h) λus s1 zz=>Xd zz λvs H1 q r hz ab=>⟨q.kIn,Kk M F aa J hx q r hz ab⟩) O Z) L)
def Throws(X:Cx)(W:Addr->Hp->Prop):Prop:=∀(ww:List (Addr×Obj))(σ:St)(s:Shared)(e:Addr)(H:Hp),Inv X ww σ H s->X.s₀.heap.objs.size<=e->W e H->X.xe (.ref e) s
def VQ(n:Nat)(te:TE)(C:Addr)(W:Addr->Hp->Prop):TS:=λD σ H=>te σ H λv H1=>∃e d,v=.ref e/\n<=e/\H1 e=some (.ext (XB e C d))/\W e H1
def V0(M:Mf X.K C)(ht:∃Y od cd Z,X.K.lookup C=some ⟨Y,od,.cls cd,Z⟩/\Y=.type "type")(J:X.calm=true)(hW:Throws X W)(ab:PE X ex te):PS X (.Raise (some ex) none pos) (VQ X.s₀.heap.objs.size te C W):=by
 intro ww s σ H D I h;obtain⟨Y,od,cd,Z,hl,rfl⟩:=ht
 have ae:∀s,wpAny (model X.prog X.w) X.A (eval ex X.env) (EP X ww σ λv H1=>∃e d,v=.ref e/\X.s₀.heap.objs.size<=e/\H1 e=some (.ext (XB e C d))/\W e H1) X.xe s ->
   wpAny (model X.prog X.w) X.A (eval ex X.env) (λv B=>∃e C d t U cd,v=.ref e/\B.heap.get? C=some U/\U.data=.cls cd/\U.cls=.type "type"/\xS (model X.prog X.w) B.heap C/\B.heap.get? e=some (hJ C d (.ref t))/\X.xe (.ref e) B) X.xe s:=λs z=>thn z λu s1 ⟨v,H1,q,r,e,d,aa,hn,hx,w⟩=>by
  subst aa;obtain rfl:u=Value.ref e:=r;obtain⟨t,ho⟩:=q.xb hx;exact⟨e,C,d,t,_,cd,rfl,q.kIn _ _ hl,rfl,rfl,aD q.kIn M,ho,hW ww σ s1 e H1 q hn w⟩
 have O:=ae s (ab ww s σ H _ I h)
 first
  |refine AC (Bl (jL (I.ok.hd J) (AC (BA O (λv af L=>AC (Bl (AN L))) λ_ _ x=>x))))
  | (refine AC (Bl (jL (I.ok.hd J) (AC (BA O (λv af L=>AC (Bl (AN L))) λ_ _ x=>x)))))
  | (exact AC (Bl (jL (I.ok.hd J) O)))
end
section
variable{X:Cx}{ww:List (Addr×Obj)}{σ:St}{H:Hp}{s:Shared}
def Inv.locals(I:Inv X ww σ H s)(hs:Heap.SameBut X.env.locals s.heap h')(ab:h'.Ns X.env.locals m')(aa:∀(i:Nat)(x:Str)(v:V),X.N[i]?=some x->σ[i]?=some (some v)->Vis X.env.scope x->∃u,RelV v u/\Look X.env h' m' x u):Inv X ww σ H { s with heap:=h',toks:=t' }:=by
 obtain⟨m,⟨oL,_,_,ae,_⟩,_⟩:=id I.loc;have U:∀b o,X.s₀.heap.get? b=some o->b≠X.env.locals:=λb o e=>Ai (AE (AS e) I.ok.above);refine⟨I.ok,I.os,I.bare,⟨λb o e n O B=>?_,λb o e n O B=>?_,I.base.free,λb o e B=>?_,I.base.tups,I.base.frzs,I.base.tbls⟩,⟨_,ab,aa⟩,λy c e=>?_,I.free,I.freeC,λp hp=>?_,λb ob e=>?_,I.len⟩
 .exact(hs.2 b (U b o e)).trans (I.base.keep b o e n O B)
 .obtain⟨sl,L⟩:=I.base.slot b o e n O B
  exact⟨sl,(hs.2 b (U b o e)).trans L⟩
 .obtain⟨o',L⟩:=I.base.there b o e B
  exact⟨o',(hs.2 b (U b o e)).trans L⟩
 .obtain⟨Z,z⟩:=I.cell y c e
  exact⟨Z,z.sameBut hs (I.cne y c e)⟩
 .exact KN (I.pin p hp) λe n Y nf d=>⟨(hs.2 p.1 Y).trans e,n,Y,nf,d⟩
 .refine(I.hok b ob e).stay (λc Z J q=>(hs.2 c ?_).trans q) (λ_ q=>q) λ_ _ q=>q
  rintro rfl
  rcases J with rfl|J
  .rw[I.free] at e;cases e
  .rw[I.free] at J;cases J
def fG(I:Inv X ww σ H s)(Y:X.N.Nodup)(hi:X.N[i]?=some n)(q:X.env.scope.names.lookup n=some .local)(h:∀s',Inv X ww (σ.set i none) H s'->Q () s'):wpAny M A (do bindName X.env n .none;unbindBehindTheSuite X.env n pos) Q E s:=by
 have ae:(X.env.scope.kind==.class || (X.env.scope.kind==.module&&X.env.locals != X.env.globals))=false:=by rw[I.ok.kind];rfl
 refine AC (wpAny_bindName (kU (v:=.non) I Y hi (.inl q) rfl (λs1 J=>?_) (.inr q)))
 apply wpAny_onRaise
 have af:i<σ.length:=I.len▸(Aa.mp hi).1;refine oX (id J.loc) λm hn Z=>oX (Z i n .non hi (by simp_all) (.inl q)) λu ru ai=>?_
 have hv:m n=some u:=by
  rcases ai with ⟨_,z⟩|⟨z,_⟩
  .exact z
  .have ag:X.env.kindOf n=some .local:=q
   rcases z with z|z<;>(rw[ag] at z;cases z)
 refine wpAny_unbindName_local q hn hv ae λh' u' ah aa=>h _ ?_
 have I2:Inv X ww (σ.set i none) H s1:=J.weak (by grind) λj v hj=>by
  by_cases e:i=j
  .simp_all
  .simp_all
 refine I2.locals (t':=s1.toks) aa ah λj x v U L e3=>?_;have hj:j≠i:=λz=>by subst z;rw[DE af] at L;cases L
 have ab:(σ.set i (some V.non))[j]?=some (some v):=by rwa[BK (Ne.symm hj)] at L ⊢
 refine oX (Z j x v U ab e3) λw aj l=>⟨w,aj,?_⟩
 rcases l with ⟨O,B⟩|⟨O,c,B,k3⟩
 .have:x≠n:=λz=>hj (pC Y U (z▸hi))
  exact .inl ⟨O,by simp[this,B]⟩
 .exact .inr ⟨O,c,B,k3.sameBut aa (J.cne x c B)⟩
abbrev Cx.ul(X:Cx)(e:Addr)(W:Value->Shared->Prop):Cx:={ X with A:=X.A.mark (some (.ref e)),calm:=false,xe:=W }
def Inv.ul(I:Inv X ww σ H s)(e:Addr)(W:Value->Shared->Prop):Inv (X.ul e W) ww σ H s:=
 ⟨⟨I.ok.mod,I.ok.kind,I.ok.glob,I.ok.blt,I.ok.above,I.ok.inj,I.ok.has,I.ok.cab,(λz=>nomatch z),I.ok.frames,I.ok.stk,I.ok.exf,I.ok.bs,I.ok.bsz,I.ok.noex,I.ok.exfs,I.ok.funs,I.ok.frf⟩,I.os,I.bare,I.base,I.loc,I.cell,I.free,I.freeC,I.pin,I.hok,I.len⟩
def Inv.wy(q:X.Ok)(I:Inv (X.ul e W) ww σ H s):Inv X ww σ H s:=⟨q,I.os,I.bare,I.base,I.loc,I.cell,I.free,I.freeC,I.pin,I.hok,I.len⟩
def XO(e C:Addr)(d:Option Addr):Heap->Prop:=λh=>∃q vs,h.get? e=some q/\q.cls=.ref C/\q.dict=d/\q.data=.fields vs
def MN(z:XO e C d h):ObjOk P w H h e (.ext (XO e C d)):=
 ⟨z,let ⟨q,_,h1,_⟩:=z;⟨q,h1⟩,λh1 h2 ⟨q,vs,a,b⟩ k=>⟨q,vs,k _ a,b⟩⟩
def YD(I:Inv X ww σ H s)(aj:X.stack=X.env::X.outer)(aw:X.env.frame=some X.env.locals)(z:ph X.prog X.w X.stack H s E' e0 s')(h:∀e C d T H' ab,e0=.ref e->H' e=none->X.s₀.heap.objs.size<=e->Inv X ww σ (upd H' e (.ext (XO e C d))) ab->XT ab.heap e C d T->upd H' e (.ext (XO e C d)) T=none->X.s₀.heap.objs.size<=T->(∀p∈X.pn++ww,p.1≠T)->T≠X.env.locals->(∀x c,X.env.cells.lookup x=some c->c≠T)->E' (.ref C) d H'->Q () ab):
  wpAny (model X.prog X.w) X.A (noteFrame e0 X.env) (λ_ a6=>wpAny (model X.prog X.w) X.A (setFlight e0 none) Q ak a6) ak s':=by
 obtain⟨e,C,d,T,H',rfl,os,Y,u,ah,O,n2,l1,l2,⟨⟨oe,vs,ho,hc,au,hv,h1⟩,a0,⟨oT,ts,hT,av,h3⟩⟩,q⟩:=z;have L:=I.call' os u ah Y λ_ z=>nomatch z;have ai:=L.stack;have ag:=L.ok.frames;rw[aj] at ai ag;refine yd ag ai aw ho hv h1 a0 hT av h3 λh' T' Z=>?_;have xt:=Vm Z.ne Z.exc hc au hv (BP.mp h1).1 Z.ent
 have ba:XO e C d h':=by
  obtain⟨⟨a5,a9,ao,aq,a3,a4,_⟩,_⟩:=xt;exact⟨a5,a9,ao,aq,a3,a4⟩
 have J:∀b o,s.heap.get? b=some o->b≠e/\b≠T:=λb o z=>⟨Ai (AE (AS z) l1),Ai (AE (AS z) l2)⟩;have aa:∀b,b∈(X.env::X.outer).filterMap (·.frame)↔b∈frs X.stack:=λb=>aj▸Iff.rfl
 have a8:Un (frs X.stack) [] H (upd H' e (.ext (XO e C d))) s.heap h':=by
  refine⟨λb o q n nf _=>?_,λb o q n nf _=>?_,λb o q n _=>?_,λb o q _=>?_,λb xs q=>?_,λb o u' q=>?_,λb ps q=>?_⟩
  .exact Z.keep b o (J b o q).1 (J b o q).2 (λz=>nf ((aa b).1 z)) (u.keep b o q n nf ue)
  .obtain⟨sl,B⟩:=u.slot b o q n nf ue
   obtain⟨a7,q2⟩:=Z.slot b _ (J b o q).1 (J b o q).2 ((aa b).2 nf) B;exact⟨a7,q2⟩
  .exact(pX (J b o q).1)▸u.free b o q n ue
  .obtain⟨o',B⟩:=u.there b o q ue
   by_cases Y:b∈(X.env::X.outer).filterMap (·.frame)
   .obtain⟨sl,q2⟩:=Z.slot b o' (J b o q).1 (J b o q).2 Y B
    exact⟨_,q2⟩
   .exact⟨o',Z.keep b o' (J b o q).1 (J b o q).2 Y B⟩
  .have B:=u.tups b xs q
   rw[pX (λz=>by rw[z,O] at B;cases B)];exact B
  .have B:=u.frzs b o u' q
   rw[pX (λz=>by rw[z,O] at B;cases B)];exact B
  .obtain⟨m,B⟩:=u.tbls b ps q
   exact⟨m,by rw[pX (λz=>by rw[z,O] at B;cases B)];exact B⟩
 have ay:HOk X.prog X.w (upd H' e (.ext (XO e C d))) h':=λb o q=>by
  by_cases ae:b=e
  .subst ae;rw[iQ] at q;cases q;exact MN ba
  .rw[pX ae] at q
   refine(ah b o q).stay (λc v af az=>?_) (λc z=>?_) λc xs z=>?_
   .have ar:∃w,H' c=some w:=by grind
    obtain⟨w,U⟩:=ar;refine Z.keep c v (λz=>by rw[z,O] at U;cases U) (λz=>by rw[z,n2] at U;cases U) (λz=>?_) az;have:=L.stkFree c ((aa c).1 z);rw[this] at U;cases U
   .rw[pX (λy=>by rw[y,O] at z;cases z)];exact z
   .rw[pX (λy=>by rw[y,O] at z;cases z)];exact z
 have I3:Inv X ww σ (upd H' e (.ext (XO e C d))) { s' with heap:=h' }:=I.call' os a8 ay Y λ_ z=>nomatch z;have lT:=Z.new;refine h e C d T' H' _ rfl O (AK I.sz l1) I3 xt ?_ (AK L.sz lT) (λp hp=>?_) (λz=>?_) (λx c af z=>?_) q
 .exact(pX Z.ne)▸L.hok.fresh lT
 .exact Ai (AE (AS (L.pin p hp).1) lT)
 .exact CM (AE L.lt lT) z
 .exact mM (L.cell x c af) λv o ax _=>Ai (AE (AS ax) lT) z
end
noncomputable def Ends.gone(D:Ends)(j:Nat):Ends:=⟨λσ H=>D.nx (σ.set j none) H,D.rt,λσ H=>D.bk (σ.set j none) H,λσ H=>D.ct (σ.set j none) H⟩
section
variable{X:Cx}{ww:List (Addr×Obj)}{σ:St}{H:Hp}{s:Shared}{x n:Str}{j:Nat}{V:Addr}{p pos:Pos}{b₀:Stmt}{suite:List Stmt}{dX:List ExceptHandler}{ts:TS}{D:Ends}{e C T:Addr}{d:Option Addr}
def uv(z:XO e C d h):Looks M h (typeOf (.ref e)) (.ref C):=rZ z λJ vs B q _=>q▸(Looks.ld B).andThen .now
def Inv.xo(I:Inv X ww σ H s)(q:H e=some (.ext (XO e C d))):XO e C d s.heap:=(I.hok e _ q).1
def W7(I:Inv X ww σ H s)(hx:H e=some (.ext (XO e C d)))(xt:XT s.heap e C d T)(hT:H T=none)(lT:X.s₀.heap.objs.size<=T)(pT:∀p∈X.pn++ww,p.1≠T)(nT:T≠X.env.locals)(cT:∀x c,X.env.cells.lookup x=some c->c≠T)(af:Gl X x)(ag:X.mg x=some (.ref V))(ai:exmOne X.K (.ref C) (.ref V)=some true)(U:X.N.Nodup)(hj:X.N[j]?=some n)(O:X.env.scope.names.lookup n=some .local)(hs:PSs (X.ul e λ_ _=>False) (b₀::suite) ts)(h:ts (D.gone j) (σ.set j (some (.ref e))) H)(ae:(x==("__debug__":Str))=false):
  wpAny (model X.prog X.w) X.A (handleBy (.ref e) X.env (.ExceptHandler (some (.Name x p)) (some n) (b₀::suite) pos::dX)) (SP X ww D) X.xe s:=by
 have aa:Inv (X.ul e λ_ _=>False) ww σ H s:=I.ul e _;refine wpAny_handleBy_cons (codeAny_handlers_test (pG aa af ag ?_ ae)) (by intro q;cases q)
 apply (exm_one I.kIn (uv (I.xo hx)) ai).here
 obtain⟨⟨oe,vs,ho,hc,ak,hv,h1⟩,ao,⟨oT,ar,ah,ab,h3⟩⟩:=xt;refine codeAny_handlers_suite_as (wpAny_setFlight_none ho hv h1 ah ab (BP.mp h3).1 ?_);have J2:Inv (X.ul e λ_ _=>False) ww σ H { s with heap:=s.heap.update T (Obj.mapFields (·.setIfInBounds 3 .none)) }:=aa.turned (t':=s.toks) (λb o hb q=>(Au _ _ (Ne.symm hb)).trans q) hT nT (.inr lT) cT pT
 refine kU (X:=X.ul e λ_ _=>False) (v:=.ref e) J2 U hj (.inl O) rfl (λaj J3=>BA (hs ww aj _ H _ J3 h) (λf aq q=>?_) λ_ _ z=>z.elim) (.inr O)
 cases f with
 |next =>
  obtain⟨Z,H',J,L⟩:=q;exact fG (J.wy I.ok) U hj O λY B=>⟨_,_,B,L⟩
 |brk =>
  obtain⟨Z,H',J,L⟩:=q;exact fG (J.wy I.ok) U hj O λY B=>⟨_,_,B,L⟩
 |cont =>
  obtain⟨Z,H',J,L⟩:=q;exact fG (J.wy I.ok) U hj O λY B=>⟨_,_,B,L⟩
 |ret u =>
  exact bF q λv Z H' J r4 L=>fG (J.wy I.ok) U hj O λY B=>⟨v,_,_,B,r4,L⟩
def Gn(K:DQ)(V:Addr)(n:Nat)(j:Nat)(ts:TS)(D:Ends)(σ:St):XK:=λc d H'=>∃C,c=.ref C/\exmOne K (.ref C) (.ref V)=some true/\∀e,H' e=none->n<=e->ts (D.gone j) (σ.set j (some (.ref e))) (upd H' e (.ext (XO e C d)))
def GF(I:Inv X ww σ H s)(af:X.stack=X.env::X.outer)(aa:X.env.frame=some X.env.locals)(ab:Gl X x)(ae:X.mg x=some (.ref V))(O:X.N.Nodup)(hj:X.N[j]?=some n)(hk:X.env.scope.names.lookup n=some .local)(hs:∀e,PSs (X.ul e λ_ _=>False) (b₀::suite) ts)(Y:(x==("__debug__":Str))=false)(z:ph X.prog X.w X.stack H s (Gn X.K V X.s₀.heap.objs.size j ts D σ) B s'):
  wpAny (model X.prog X.w) X.A (noteFrame B X.env) (λ_ ai=>wpAny (model X.prog X.w) X.A (setFlight B none) (λ_ aj=>wpAny (model X.prog X.w) X.A (handleBy B X.env (.ExceptHandler (some (.Name x p)) (some n) (b₀::suite) pos::dX)) (SP X ww D) X.xe aj) X.xe ai) X.xe s':=by
 refine YD I af aa z λe C d T H' ak Z hn ah J xt nT lT pT nL L q=>?_;subst Z;obtain⟨C',U,ag,q⟩:=q;obtain rfl:C=C':=by injection U
 exact W7 J iQ xt nT lT pT nL L ab ae ag O hj hk (hs e) (q e hn ah) Y
end
section
variable{X:Cx}{k:Nat}{f V:Addr}{fd:FuncData}{ps:List Str}{sp:Sp}{ds:List Value}{fn x n y:Str}{p p1 p2 p3 pos apos hpos tpos:Pos}{e:Expr}{es:List Expr}{t:TA}{i j:Nat}{b₀:Stmt}{suite:List Stmt}{ts:TS}
def M9(K:DQ)(V:Addr)(n i j:Nat)(sp:Sp)(dvs:List L2.V)(t:TA)(ts:TS):TS:=λD σ H=>t σ H λvs H1=>sp (vs++dvs) H1 (λv H2=>D.nx (σ.set i (some v)) H2) (Gn K V n j ts D σ)
def Ha(F:FnOk X.prog X.w X.K X.mg X.base (ph X.prog X.w) k f fd ps sp)(au:Room k X.A)(aj:Gl X fn)(aq:X.mg fn=some (.ref f))(ak:PySem.W.keepIn X.K (.ref f)=true)(hb:Binds X.K fd ps ds)(aa:Vals dvs ds)(av:X.stack=X.env::X.outer)(ag:X.env.frame=some X.env.locals)(ai:Gl X x)(ao:X.mg x=some (.ref V))(O:X.N.Nodup)(hi:X.N[i]?=some y)(hy:Loc X.env.scope y)(hj:X.N[j]?=some n)(hk:X.env.scope.names.lookup n=some .local)(ha:PA (X.wish λ_ _=>False) (e::es) t)(hs:∀e,PSs (X.ul e λ_ _=>False) (b₀::suite) ts)(aw:swapsWith (.Call (.Name fn p) (e::es) [] pos) (some (.Name y p1)) apos.line X.env=pure false:=by rfl)(ah:X.fn y=true\/X.env.scope.names.lookup y=some .local:=by first|exact .inl rfl|exact .inr rfl|assumption)(ae:(fn==("__debug__":Str))=false:=by decide)(ab:(x==("__debug__":Str))=false:=by decide)(af:starEach (e::es) X.env=(false,eval e X.env)::starEach es X.env:=by rfl)(ar:(backTo pos (starEach es X.env)).any (·.1)=false:=by rfl):
  PS X (.Try [.Assign [.Name y p1] (.Call (.Name fn p) (e::es) [] pos) apos] [.ExceptHandler (some (.Name x p2)) (some n) (b₀::suite) hpos] [] [] tpos) (M9 X.K V X.s₀.heap.objs.size i j sp dvs t ts):=by
 intro ww s σ H D I h;refine wpAny_Try_except (wpAny_execs_cons (wpAny_Assign_Name (BX (pG I aj aq ?_ ae)) aw));have Y:Inv (X.wish λ_ _=>False) ww σ H s:=⟨⟨I.ok.mod,I.ok.kind,I.ok.glob,I.ok.blt,I.ok.above,I.ok.inj,I.ok.has,I.ok.cab,I.ok.hd,I.ok.frames,I.ok.stk,I.ok.exf,I.ok.bs,I.ok.bsz,I.ok.noex,I.ok.exfs,I.ok.funs,I.ok.frf⟩,I.os,I.bare,I.base,I.loc,I.cell,I.free,I.freeC,I.pin,I.hok,I.len⟩
 refine B4 I.ok.mod.kin ak (BA (ha pos ww s σ H _ Y h) (λus s1 zz=>rZ zz λvs H1 B r q=>?_) λ_ _ z=>z.elim) af ar;have J:Inv X ww σ H1 s1:=⟨I.ok,B.os,B.bare,B.base,B.loc,B.cell,B.free,B.freeC,B.pin,B.hok,B.len⟩;refine⟨J.kIn,?_⟩;have U:=r.append aa;have hl:=U.length▸F.len _ _ _ _ q;refine B0 (Bs (F.run X.A X.stack s1 H1 ⟨us,[]⟩ (us++ds) (vs++dvs) _ _ au J.env0 (hb s1 us J.kIn hl) U q) λr s' L=>?_)
 cases r with
 |error e0=>exact GF J av ag ai ao O hj hk hs ab L
 |ok fl =>
  cases fl with
  |ret u =>
   exact rZ (J.after L) λv H2 Z rv q2=>kU Z O hi hy rv (λax I3=>Bx (Bx ⟨_,H2,I3,q2⟩)) ah
  |next=>exact False.elim L
  |brk=>exact False.elim L
  |cont=>exact False.elim L
end
end L2
namespace PySem.W
open PySem PySem.Calls PyProof.Rows Builtin
def gO:Slot "ValueError" "__getattribute__" "BaseException.__getattribute__":=
 .of (owner:="BaseException") (n:="__getattribute__") (by kernel_rfl) gf gf gf
  (by first|exact .inl gf|exact .inr gf) (by kernel_rfl)
structure Eg(K:Frag)(C:Addr):Prop where
 ga:findIn K (.ref C) "__getattribute__"=some (some (.builtin "BaseException.__getattribute__"))
 gh:findIn K (.ref C) "__getattr__"=some none
 be:mroIn K C (.type "BaseException")=some true
 hd:hasDictIn K C=true
section
variable{prog:Program}{w:World}{A:Around}{E:Value->Shared->Prop}{s:Shared}{K:Frag}{x C:Addr}{ox:Obj}{od:Option Obj}{name:Str}{tk:Tok}
def Y7{Y q}(G:Eg K C)(X:K.In s.heap)(I:InstAt s.heap x ox C od)(h:wpAny (model prog w) A.in1 (Builtin.«object.__getattribute__» ⟨[.ref x,.str name tk],[]⟩) (λB s'=>match B with | .done (.ret v)=>wpAny (model prog w) A (handedOut v) Q E s'|_=>False) (λ_ _=>False) s):
  wpAny (model prog w) A (getAttrBy (.ref x) (.str name tk) Y q) Q E s:=by
 have J:=I.type (M:=model prog w);have L:=looks_findIn (M:=model prog w) X G.ga;have O:=looks_findIn (M:=model prog w) X G.gh;have ab:(Value.builtin "BaseException.__getattribute__" == Value.builtin "object.__getattribute__")=false:=by simp<;> rfl
 have hk:builtinKind "BaseException.__getattribute__"=some .slot:=gf
 have aa:splitId "BaseException.__getattribute__"=some ("BaseException","__getattribute__"):=gf
 refine BF (AC (J.here (AC (L.here (AC (O.here (AC (wpAny_attempt (BF ?_)))))))));have U:callGetattribute (.ref x) (.str name tk) (.builtin "BaseException.__getattribute__") q=boundAndCalled (.builtin "BaseException.__getattribute__") (.ref x) (.str name tk):=by cases q<;>rfl
 rw[U];refine AC (wpAny_of_eq (gO.bind _) (B0 (Cg gO.plain F.entry_bexc_ga (@check_slot (model prog w) _ _ s "BaseException.__getattribute__" "BaseException" "__getattribute__" (.ref x) [.str name tk] [] _ hk aa (I.type.andThen (Cf X G.be)) (F.args_bexc_ga (.ref x) (.str name tk)) (BA h (λB s' z=>?_) λ_ _ z=>z.elim)))))
 cases B with
 |again c=>exact False.elim z
 |done Z =>
  cases Z with
  |ret v=>exact z
  |next=>exact False.elim z
  |brk=>exact False.elim z
  |cont=>exact False.elim z
def Vp(G:Eg K C)(X:K.In s.heap)(I:InstAt s.heap x ox C (some o))(O:findIn K (.ref C) name=some none)(U:lookIn name o=some (some v))(Y:handedIn v=true)(h:Q v { s with toks:=s.toks+1 }):wpAny (model prog w) A (getAttr (.ref x) name Z) Q E s:=by
 obtain⟨B,q,d,t,os⟩:=s;have J:=I.type (M:=model prog w);have L:=looks_find (M:=model prog w) X I (findObj_own G.hd O rfl U);exact AC (wpAny_mkText (Y7 (s:=⟨B,q,d,t+1,os⟩) G X I (AC (AN (AC (AN (AC (B5 (s:=⟨B,q,d,t+1,os⟩) J (AC (B5 (s:=⟨B,q,d,t+1,os⟩) L (AN (handed_on Y h))))))))))))
end
end PySem.W
namespace L2
open PySem PySem.Spec PySem.W
open PyProof.Rows hiding St
structure RG(K:Frag)(C:Addr):Prop where
 toXGet:Eg K C
 ca:findIn K (.ref C) "__class__"=some (some (.builtin "object.__class__"))
 cg:specialIn K (.builtin "object.__class__") "__get__"=some (some (.builtin "getset_descriptor.__get__"))
 tk:takesIn K (.builtin "object.__class__")=some true
 ob:mroIn K C (.type "object")=some true
structure R8(H:Hp)(e C:Addr)(fs:List (Str×V)):Prop where
 at_:∃d,H e=some (.ext (XO e C (some d)))/\H d=some (.ext (XD d fs))
section
variable{X:Cx}{ww:List (Addr×Obj)}{σ:St}{H:Hp}{s:Shared}{e C:Addr}{fs:List (Str×V)}
def Inv.xinst(I:Inv X ww σ H s)(h:R8 H e C fs):∃(ox od:Obj)(mA:Str->Option Value),InstAt s.heap e ox C (some od)/\(∀f,lookIn f od=some (mA f))/\∀f,RelO (fs.lookup f) (mA f):=by
 refine oX h.at_ λd h1 h2=>Xd (I.xo h1) λU vs q B J L=>oK ((I.hok d _ h2).1) λmA n r _=>oX (nO n) λod Y O=>⟨U,od,mA,⟨q,B,?_,?_⟩,O,r⟩
 .delta notCls
  rw[L]
 .rwa[J]
def El(K:Frag)(ta:TE)(f:Str):TE:=λσ H Q=>ta σ H λx H1=>∃e C fs v,x=.ref e/\R8 H1 e C fs/\Eg K C/\findIn K (.ref C) f=some none/\fs.lookup f=some v/\Q v H1
def wg(O:PE X ex ta)(L:attributeBase ex f X.env (eval ex X.env)=eval ex X.env):PE X (.Attribute ex f pos) (El X.K ta f):=by
 intro ww s σ H Q I h;refine J9 L (thn (O ww s σ H _ I h) λu s1 ⟨x,H1,q,rx,e,C,fs,v,ex',hx,U,Z,Y,ab⟩=>?_);subst ex';obtain rfl:u=Value.ref e:=rx;exact bF (q.xinst hx) λox od mA J ae aa=>oX (RelO.some_of (Y▸aa f)) λu hu B=>Vp U q.kIn J Z (by grind) (zE B) ⟨v,H1,q.tok _,B,ab⟩
end
section
variable{P:Program}{w:World}{K:DQ}{mg:Str->Option Value}{base:Heap}
def Fun.Zi{st}(F:Fun K x qual st f fd)(S:FnScope N ps (vZ st))(U:∀vs H Q E,sp vs H Q E->vs.length=ps.length)(B:∀q A outer s H vs Q E,Room k (A.deeper (envOfC qual (vZ st) s.heap.objs.size f q))->sp vs H Q E ->
   ∃t,PSs (tU (ph P w) P w K mg base N qual (vZ st) f q A outer s H E) (bV st) t/\t { nx:=λ_ H'=>Q .non H',rt:=Q } (start N vs) H):FnOk P w K mg base (ph P w) (k+1) f fd ps sp:=by
 obtain⟨oc,od,ab,aa,af,Z,q,ct,ae,rfl,Y,J⟩:=F.ex;exact fn_of Y J S U λA outer s H vs Q E L O=>B q A outer s H vs Q E L O
def Vw(B:H e=none)(q:d≠e):Mm (upd (upd (upd H e a) d o) e b) e=upd H d o:=by
 funext c
 by_cases h:c=e
 .subst h;rw[dB,pX (Ne.symm q),B]
 .rw[cB h,pX h]
  by_cases h':c=d
  .subst h';rw[iQ,iQ]
  .rw[pX h',pX h',pX h]
variable{N:List Str}{qual:Str}{scope:Scope}{g C f0:Addr}{cd:Value}{A:Around}{outer:List Env}{s:Shared}{H:Hp}{E:XK}
end
end L2
namespace L2
open PySem PySem.Spec PySem.W
section
variable{K:Frag}{C D:Addr}{t c:Value}{T:String}{b:Bool}{r:List Value}
def HR(h1:(clsIn K D).isSome=true)(h2:typeIn K (.ref D)=some (.type "type"))(h:subIn K t (.ref D)=some b):kitCls K t (.ref D)=some b:=by
 show(if((clsIn K D).isSome&&typeIn K (.ref D)==some (.type "type"))=true then subIn K t (.ref D) else none)=some b;rw[A4 ir];exact h
def PJ(h:subIn K c (.type "BaseException")=some true)(g:kitCls K t c=some b):exmOne K t c=some b:=by simp_all[exmOne]
end
end L2
namespace CL
open PySem PySem.Spec L2
open PyProof.Rows hiding St
def Ji{f}{pos}K(J:JE X ex ta)(q:X.K=K:=by rfl)(B:attributeBase ex f X.env (eval ex X.env)=eval ex X.env:=by rfl):JE X (.Attribute ex f pos) (El K ta f):=by
 subst q;exact⟨wg J.h B⟩
def Qg{st}(h:PS X.nox st t):PS X st t:=λww s σ H D I B=>
 BA (h ww s σ H D (I.wish _) B) (λ_ _ q=>q.unwish) λ_ _ z=>False.elim z
abbrev XC:=Addr->List (Str×PV)->CH->Prop
abbrev GX:=List PV->CH->K1->XC->Prop
section
variable{K:DQ}{H:Hp}{C:CH}{σ:St}{ρ:iT}{D:Ends}{c:ji}{u:TS}
def Ki(s:fu K H σ ρ)(h:dj K H C)k(q:c { nx:=k,rt:=λ_ _=>False } ρ C)(B:∀L H' J C',k J C'->fu K H' L J->dj K H' C'->Fw H C H' C'->u D L H'):tSeq (sO K c) u D σ H:=
 ⟨ρ,C,_,s,h,q,⟨B,λ_ _ _ _ z=>z.elim,λ_ _ _ _ z=>z.elim,λ_ _ _ _ z=>z.elim⟩⟩
def Nf(s:fu K H σ ρ)(h:dj K H C)R(q:c { nx:=λ_ _=>False,rt:=R } ρ C)(B:∀v H' t C',R t C'->Rep K H' v t->dj K H' C'->Fw H C H' C'->D.rt v H'):sO K c D σ H:=
 ⟨ρ,C,_,s,h,q,⟨λ_ _ _ _ z=>z.elim,B,λ_ _ _ _ z=>z.elim,λ_ _ _ _ z=>z.elim⟩⟩
end
end CL
namespace CL
open PySem PySem.Spec L2 PySem.W
open PyProof.Rows hiding St
section
variable{X:Cx}
end
end CL
namespace L2
open PySem PySem.W PySem.Spec PyProof.Rows
end L2
namespace CL
open PySem PySem.Spec L2 PySem.W
open PyProof.Rows hiding St
section
variable{X:Cx}{a b c e o i f value:Expr}{es:List Expr}{pos pos':Pos}
end
end CL
namespace L2
open PySem PySem.Spec PySem.W
open PyProof.Rows hiding St
def Mi(h:PA X.nox es t):PA X es t:=λpos ww s σ H Q I J=>
 BA (h pos ww s σ H Q (I.wish _) J) (λ_ _ L=>rZ L λvs H' B r q=>⟨vs,H',B.unwish,r,q⟩) λ_ _ z=>False.elim z
section
variable{P:Program}{w:World}{K:DQ}{mg:Str->Option Value}{base:Heap}
def Sw(C:Addr)(fs:List Str):Sp:=λvs H Q _=>∃e,∃q:List Int,vs=.ref e::q.map V.int/\q.length=fs.length/\(∀i∈q,i.natAbs<=1000000000000)/\H e=some (.ext (XB e C none)) /\
 ∀d,H d=none->d≠e->Q .non (upd (upd H d (.ext (XD d (fs.zip (q.map V.int))))) e (.ext (XB e C (some d))))
def xW(C:Addr)(E:XK):Addr->Hp->Prop:=λe H2=>∃d,H2 e=some (.ext (XB e C d))/\E (.ref C) d (Mm H2 e)
def ZU(n:Nat)(C:Addr)(fs:List Str)(E:XK)(t:TA):TS:=VQ n (M3 C n (Sw C fs) E0 t) C (xW C E)
variable{N:List Str}{qual:Str}{scope:Scope}{g C f0:Addr}{cd:Value}{A:Around}{outer:List Env}{s:Shared}{H:Hp}{E:XK}
def Km{p pos pos'}(q:R7 K C f0)(ht:∃B od cd sl,K.lookup C=some ⟨B,od,.cls cd,sl⟩/\B=.type "type")(F:FnOk P w K mg base CX0 k f0 fd ps (Sw C fs))(ab:Room (k+1) (tU (ph P w) P w K mg base N qual scope g cd A outer s H E).A)(Y:Gl (tU (ph P w) P w K mg base N qual scope g cd A outer s H E) x)(Z:mg x=some (.ref C))(L:Binds K fd ps [])(J:PA (tU (ph P w) P w K mg base N qual scope g cd A outer s H E) (e::es) t)(O:(x==("__debug__":Str))=false:=by decide)(U:starEach (e::es) (tU (ph P w) P w K mg base N qual scope g cd A outer s H E).env=(false,eval e (tU (ph P w) P w K mg base N qual scope g cd A outer s H E).env)::starEach es (tU (ph P w) P w K mg base N qual scope g cd A outer s H E).env:=by rfl)(aa:(backTo pos (starEach es (tU (ph P w) P w K mg base N qual scope g cd A outer s H E).env)).any (·.1)=false:=by rfl):
  PS (tU (ph P w) P w K mg base N qual scope g cd A outer s H E) (.Raise (some (.Call (.Name x p) (e::es) [] pos)) none pos') (ZU s.heap.objs.size C fs E t):=V0 q.xm ht rfl (λww σ s1 e H2 I hs zz=>oX zz λd h1 h2=>Gx I h1 hs h2) (Wa q F ab Y Z L vC J O U aa)
end
end L2
namespace CL
open PySem PySem.Spec L2
open PyProof.Rows hiding St
def Gp(K:DQ)(H:Hp)(C:CH)(RX:XC)(E:XK):Prop:=(∀q d H' fs B C',RX q fs C'->H' d=some (.ext (XD d B))->FP K H' B fs->dj K H' C'->Fw H C H' C'->E (.ref q) (some d) H') /\
 ∀q H' C',RX q [] C'->dj K H' C'->Fw H C H' C'->E (.ref q) none H'
def Ub(K:DQ)(G:GX):Sp:=λvs H Q E=>∃ts C R RX,du K H vs ts/\dj K H C/\G ts C R RX/\(∀v H' t C',R t C'->Rep K H' v t->dj K H' C'->Fw H C H' C'->Q v H')/\Gp K H C RX E
section
variable{K:DQ}{H H0:Hp}{C C0:CH}{σ:St}{ρ:iT}{D:Ends}{c:ji}{u:TS}{RX kX:XC}{E:XK}
theorem Jr:∀(fs:List Str)(q:List Int),FP K H (fs.zip (q.map V.int)) (fs.zip (q.map PV.int))
 |[],_=>.nil
 |_::_,[]=>.nil
 |_::fs,i::q=>.cons ⟨rfl,.int i⟩ (Jr fs q)
def G5{B}{ca:o9}(hn:fs.length<=1000)(s:fu K H σ ρ)(h:dj K H C)(f:Fw H0 C0 H C)(x:Gp K H0 C0 RX E)(ae:ca ρ C λts C1=>∃q:List Int,ts=q.map PV.int/\q.length=fs.length/\(∀i∈q,i.natAbs<=1000000000000)/\RX B (fs.zip (q.map PV.int)) C1):ZU n B fs E (yK K (du K) ca) D σ H:=by
 refine⟨ρ,C,_,s,h,ae,λvs H1 ts C1 ⟨q,O,L,hb,k⟩ r h1 Z=>?_⟩;subst O
 have Y:∀{vs:List V}{q:List Int},du K H1 vs (q.map PV.int)->vs=q.map V.int:=by
  intro vs q r
  induction q generalizing vs with
  |nil=>cases r;rfl
  |cons i q ih =>
   cases r with
   |cons a b=>cases a;rw[ih b];rfl
 have U:=Y r;subst U;refine⟨by rw[AA,L];exact hn,λe aa ab=>⟨e,q,rfl,L,hb,iQ,λd h2 J=>⟨rfl,e,some d,rfl,ab,iQ,some d,iQ,?_⟩⟩⟩;rw[Vw aa J];rw[pX J] at h2;exact x.1 B d _ _ _ C1 k iQ (Jr fs q) (h1.new h2 _) (f.trans (Z.trans (Fw.new h2 _)))
end
end CL
namespace L2
open PySem PySem.Spec PySem.Builtin.Str
open PyProof.Rows hiding St
section
variable{X:Cx}
def G6:V->List V->Hp->VK->Prop:=λx vs H Q=>∃z y,x=.str z/\vs=[.str y]/\(y.length==0)=false/\z.length<=sizeLine/\(partsBetween z (occurrences z y 0 z.length (z.length+1)) y.length).length<=sizeLine/\(Txt.split z y).length<=sizeLine /\
 ∀p,H p=none->Q (.ref p) (upd H p (.lst ((Txt.split z y).map V.str)))
theorem qO:∀l,Vals ((l.map (·.1)).map V.str) (strValues l)
 |[]=>.nil
 | (z,t)::l=>.cons ⟨t,rfl⟩ (qO l)
def WK:MtR X "str.split" G6:=by
 intro ww s σ H x vs v us Q I rx Z h;obtain⟨z,y,rfl,rfl,L,U,O,hl,q⟩:=h;obtain⟨t,rfl⟩:=rx;obtain⟨u',rfl,Y⟩:=Z.one;obtain⟨u,rfl⟩:=Y
 have J:∀l t',l.map (·.1)=Txt.split z y->EP X ww σ Q (.ref s.heap.objs.size) { s with heap:=s.heap.push { cls:=.type "list",data:=.seq (strValues l).toArray },toks:=t' }:=λl t' e=>
  ⟨.ref _,_,I.lnew (t':=t') (e▸qO l) (by grind),rfl,q _ I.fresh⟩
 cases h1:(decide (z.length<y.length) || decide (strKind z<strKind y))
 .cases B:(occurrences z y 0 z.length (z.length+1)).isEmpty
  .apply BB Cy (Bp _ _ _) F.entry_str_split (F.args_str_split_2 _ _) (meets_str_split_sep z y t u h1 L B U O)
   rw[strsFrom_eq];exact J (numbered s.toks _) _ ((numbered_texts _ _).trans ((A7 (ne_true_of_eq_false h1)).trans (A7 (ne_true_of_eq_false B))).symm)
  .exact BB Cy (Bp _ _ _) F.entry_str_split (F.args_str_split_2 _ _) (meets_str_split_not_found z y t u h1 L B)
    (J [(z,t)] s.toks ((A7 (ne_true_of_eq_false h1)).trans (A4 B)).symm)
 .exact BB Cy (Bp _ _ _) F.entry_str_split (F.args_str_split_2 _ _) (meets_str_split_cannot_occur z y t u h1)
   (J [(z,t)] s.toks (A4 h1).symm)
end
end L2
namespace CL
open PySem PySem.Spec L2 PySem.Builtin.Str
open PyProof.Rows hiding St
section
variable{X:Cx}{o e:Expr}{co ca:f9}
def Ls(co ca:f9):f9:=λρ C Q=>co ρ C λx C1=>∃z,x=.str z/\ca ρ C1 λy C2=>∃w,y=.str w/\(w.length==0)=false/\z.length<=sizeLine/\(partsBetween z (occurrences z w 0 z.length (z.length+1)) w.length).length<=sizeLine/\(Txt.split z w).length<=sizeLine /\
 ∀p,C2 p=none->Q (.ref p) (cQ C2 p (.lst ((Txt.split z w).map PV.str)))
theorem mO{K}:∀zs:List Str,du K H (zs.map V.str) (zs.map PV.str)
 |[]=>.nil
 |z::zs=>.cons (.str z) (mO zs)
def Yz{apos cpos}(ho:CE X o co)(U:CE X e ca)(Y:attributeBase o "split" X.env (eval o X.env)=eval o X.env:=by rfl)(Z:((backTo cpos (starEach [e] X.env)).all (λx=>!x.1)&&(backToKw cpos (keywordEach [] X.env)).all (λx=>x.1.isSome)
   && decide ([e].length+([]:List Keyword).length+(if([]:List Keyword).isEmpty then 0 else 1)<30))=true:=by rfl)(aa:(apos.endLine==cpos.line)=true:=by rfl)(hs:noStar e=true:=by rfl):CE X (.Call (.Attribute o "split" apos) [e] [] cpos) (Ls co ca):=
 ⟨JE.weak ⟨Wp F.plainAttrs_str Cy F.type_str_split WK ho.h.h (zD U.h.h lU hs) Y Z aa (wJ hs)⟩ λσ H Q zz=>yZ zz λρ C R s h ab f=>
  ⟨ρ,C,_,s,h,ab,λx H1 px C1 ⟨z,J,q1⟩ rx h1 B=>by
   subst J;cases rx;refine⟨rfl,ρ,C1,_,s.dg (B.dg h),h1,q1,λy H2 ae C2 ⟨w,L,hy,hz,hn,hl,q2⟩ ry h2 O=>?_⟩;subst L;cases ry
   exact⟨z,w,rfl,rfl,hy,hz,hn,hl,λp q=>f _ _ _ _ (q2 p (h2.fresh q)) (.ref p) (h2.lay q ⟨_,iQ,mO _⟩) (B.trans (O.trans (Fw.lay q _ _)))⟩⟩⟩
end
end CL
namespace L2
open PySem PySem.Spec PySem.Builtin.Str
open PyProof.Rows hiding St
section
variable{X:Cx}
abbrev YO(z y:Str):Bool:=0+y.length<=z.length&&subAt z y 0
def vm:V->List V->Hp->VK->Prop:=λx vs H Q=>∃z y,x=.str z/\vs=[.str y]/\Q (.bl (YO z y)) H
def Kw:MtR X "str.startswith" vm:=by
 intro ww s σ H x vs v us Q I L J h;obtain⟨z,y,rfl,rfl,q⟩:=h;obtain⟨t,rfl⟩:=L;obtain⟨O,rfl,B⟩:=J.one;obtain⟨u,rfl⟩:=B;exact call_gives F.slot_str_startswith (Bp _ _ _) F.entry_str_startswith (F.args_str_startswith_2 _ _) (gives_str_startswith z y t u) ⟨.bl _,H,I,rfl,q⟩
end
end L2
namespace CL
open PySem PySem.Spec L2 PySem.Builtin.Str
open PyProof.Rows hiding St
section
variable{X:Cx}{o e:Expr}{co ca:f9}
def DR(co ca:f9):f9:=λρ C Q=>co ρ C λx C1=>∃z,x=.str z/\ca ρ C1 λy C2=>∃w,y=.str w/\Q (.bl (YO z w)) C2
def KZ{apos cpos}(ho:CE X o co)(O:CE X e ca)(U:attributeBase o "startswith" X.env (eval o X.env)=eval o X.env:=by rfl)(Y:((backTo cpos (starEach [e] X.env)).all (λx=>!x.1)&&(backToKw cpos (keywordEach [] X.env)).all (λx=>x.1.isSome)
   && decide ([e].length+([]:List Keyword).length+(if([]:List Keyword).isEmpty then 0 else 1)<30))=true:=by rfl)(Z:(apos.endLine==cpos.line)=true:=by rfl)(hs:noStar e=true:=by rfl):CE X (.Call (.Attribute o "startswith" apos) [e] [] cpos) (DR co ca):=
 ⟨JE.weak ⟨Wp F.plainAttrs_str F.slot_str_startswith F.type_str_startswith Kw ho.h.h (zD O.h.h lU hs) U Y Z (wJ hs)⟩ λσ H Q zz=>yZ zz λρ C R s h aa f=>
  ⟨ρ,C,_,s,h,aa,λx H1 px C1 ⟨z,B,q1⟩ rx h1 q=>by
   subst B;cases rx;refine⟨rfl,ρ,C1,_,s.dg (q.dg h),h1,q1,λy H2 ab C2 ⟨w,J,q2⟩ ry h2 L=>?_⟩;subst J;cases ry
   exact⟨z,w,rfl,rfl,f _ _ _ _ q2 (.bl _) h2 (q.trans L)⟩⟩⟩
end
end CL
namespace L2
open PySem PySem.Spec
open PyProof.Rows hiding St
section
variable{X:Cx}{ww:List (Addr×Obj)}{σ:List (Option V)}{H H':Hp}{s:Shared}{h':Heap}
def Inv.uz{its:List Addr}{a:Addr}(I:Inv X ww σ H s)(k:∀b o,b∉its->s.heap.get? b=some o->h'.get? b=some o)(L:∀b∈its,Qj X ww H b)(U:s.heap.objs.size<=a)(aa:ObjOk X.prog X.w (upd H a o) h' a o):Inv X ww σ (upd H a o) { s with heap:=h',toks:=t' }:=by
 have O:∀b u,H b=some u->upd H a o b=some u:=λb u e=>by rwa[pX (wK e (I.hok.fresh U))]
 have ab:∀b u,H b=some u->b∉its:=λb u e z=>by rw[(L b z).1] at e;cases e
 refine I.step (g':=s.gens) (d':=s.drawn) (λb B=>⟨(L b B).2.2.2.1,(L b B).2.1,(L b B).2.2.2.2.1,(L b B).2.2.2.2.2⟩) (λb o _ _ J e _=>k b o J e) (λb o _ _ J e _=>⟨o.slots,k b o J e⟩) (λb ob _ e n=>?_)
  (λb o J e=>⟨o,k b o J e⟩) (λb _ e=>O b _ e) (λb _ _ e=>O b _ e) (λb ps e=>⟨#[],by rw[O b _ e];simp⟩) (λm Y=>?_) (λb u e=>?_) I.bare
 .rwa[pX (Ai (AE (AS e) U))]
 .exact Ld Y λo es ep Z r=>⟨o,es,ep,k _ o (λz=>(L _ z).2.1 rfl) Z,r⟩
 .by_cases B:b=a
  .subst B;rw[iQ] at e;cases e;exact aa
  .rw[pX B] at e
   refine(I.hok b u e).stay (λc v J q=>k c v ?_ q) (λc q=>O c _ q) λc _ q=>O c _ q
   rcases J with z|z
   .grind
   .grind
end
def Ite(K:DQ)(a:Addr):It:=
 ⟨λi H=>∃xs x,SqL K H a xs/\xs[i]?=some x,λi H x H'=>∃b y,x=.ref b/\H b=none/\H'=upd H b (.tup [.int i,y])/\∀xs,SqL K H a xs->xs[i]?=some y,λi H=>∃xs,SqL K H a xs/\xs.length<=i⟩
def Ke{K}a e it(ag:e≠it)(az:a≠e)(a0:a≠it):
  XA P w K (.Tuple es x1 a3) (Ite K a) [e,it] e (λi h=>∃L,IsEnum h e it i L/\h.IsListIter it a i) where
 mem:=by simp
 obj:=λi h ⟨L,J,o,ho,hc,aw⟩ b B=>by
  rcases Ah.1 B with rfl|B
  .grind
  .grind
 keep:=λi h h' ⟨L,J,st⟩ k=>⟨L,k e ue _ J,st.at λo q=>k it ue o q⟩
 item:=by
  intro X hP ae aa hc i ww s σ H E I U ⟨L,J,st⟩ ab;subst hP ae aa;refine mM ab λxs x Y hx=>oK (I.list Y) λits rv p hz=>oX (rv.get hx) λu hu ru=>wpAny_pyNext_enum_item J st p.isList (by simpa using hu) ag λau aj ak ar ay ao=>?_;refine⟨_,rfl,wpAny_letOwnedTupleGo_enum aj λaf ax O=>?_⟩
  replace O:Heap.SameBut e au af:=O
  have aq:=AS J
  have I1:Inv X ww σ (upd H s.heap.objs.size (.tup [.int i,x])) { s with heap:=af,toks:=s.toks+1 }:=
   I.uz (λb o B q=>(O.2 b (λz=>B (by simp[z]))).trans (ao b o (λz=>B (by simp[z])) (λz=>B (by simp[z])) q)) U (AQ _)
    ⟨y0 2 rfl,[.int i s.toks,u],.cons ⟨_,rfl⟩ (.cons ru .nil),_,((O.2 _ (CM aq)).trans ar),rfl,⟨_,rfl⟩,rfl⟩
  refine⟨.ref s.heap.objs.size,_,I1,rfl,⟨_,x,rfl,I.hok.fresh (AQ _),rfl,λys hy=>by rwa[I.list_inj hy Y]⟩,⟨u,?_,ak.at λo q=>(O.2 it (Ne.symm ag)).trans q⟩,λb B=>?_⟩
  .lia
  .rw[pX]
   .exact(U b B).1
   .obtain⟨o,ho,_⟩:=st
    rcases Ah.1 B with rfl|B
    .lia
    .have Z:b=it:=by simp_all
     exact Z▸Ai (AS ho)
 done:=by
  intro X hP ae aa hc i ww s σ H E I U ⟨L,J,st⟩ ab;subst hP ae aa;refine oX ab λxs Y hx=>oK (I.list Y) λits rv p hz=>mR (U it ue) λf0 ah av f3 ai f5=>?_;have hl:=rv.length;exact wpAny_pyNext_enum_end (I.ok.hd hc) J st p.isList (by simp;lia) λh' Z=>⟨rfl,I.turned (t':=s.toks) (λb o B q=>Z b o B q) f0 ah f3 ai f5⟩
 self:=λ_ _ _ _ _ ⟨_,J,_⟩ h=>wpAny_pyIter_enum J h
section
variable{X:Cx}
def FJ(K:DQ)(ta:TA):TI:=λσ H R=>ta σ H λvs H1=>∃a xs,vs=[.ref a]/\H1 a=some (.lst xs)/\R (Ite K a) H1
def Vc:bootBuiltins "enumerate"=some (.type "enumerate"):=gf
def v9(Z:Gl X "enumerate")(ab:X.mg "enumerate"=none)(Y:PA X [a] ta)(hs:starEach [a] X.env=[(false,eval a X.env)]:=by rfl):
  PI X (.Tuple es x1 ag) (.Call (.Name "enumerate" p) [a] [] pos) (FJ X.K ta):=by
 intro ww s σ H R I h;refine Call_ (bL I Z ab Vc (Bn (thn (Y pos ww s σ H _ I h) λus s1 zz=>rZ zz λvs H1 q r1 q1=>?_) hs rfl));obtain⟨l,xs,rfl,L,ae⟩:=q1
 cases r1 with
 |cons r rr =>
  cases rr;cases r;refine oK (q.list (SqL.of L)) λits rv pl hz=>call_enumerate_list pl.isList λh' J aa af hk=>?_;have U:=q.kept (t':=s1.toks) hk;have O:=q.hok.lt L;refine wpAny_pyIter_enum J ⟨s1.heap.objs.size+1,[s1.heap.objs.size+1,s1.heap.objs.size],_,_,H1,rfl,U,Ke l _ _ (Nat.succ_ne_self _) (Ai (Cr O)) (Ai O),⟨_,J,aa⟩,λb hb=>?_,ae⟩
  have B:s1.heap.objs.size<=b:=by grind
  exact q.fpOk B (q.hok.fresh B)
end
end L2
namespace PySem
open Sem (wp)
structure jB(prog:Program)(w:World)(K:Type)[DecidableEq K]where
 is:Heap->K->Value->Prop
 hash:K->Int
 draws:K->Nat
 room:Around->Prop
 inj:∀{h:Heap}{v:Value}{x y:K},is h x v->is h y v->x=y
 keeps:∀{h h':Heap}{k:K}{v:Value}{d:Addr}{o:Obj}{es:Array DictEntry}{ep:Nat},is h k v->h.get? d=some o->o.data=.dict es ep->Heap.SameBut d h h'->is h' k v
 pyHash:∀{A:Around}{E:Value->Shared->Prop}{s:Shared}{k:K}{v:Value}{Q:Int->Shared->Prop},room A->is s.heap k v->Q (hash k) { s with toks:=s.toks+draws k }->wpAny (model prog w) A (pyHash v) Q E s
 eqBool:∀{A:Around}{E:Value->Shared->Prop}{s:Shared}{x y:K}{u v:Value}{Q:Bool->Shared->Prop},room A->is s.heap x u->is s.heap y v->Q (decide (x=y)) s->wpAny (model prog w) A (eqBool u v) Q E s
 quiet:∀{A:Around}{E:Value->Shared->Prop}{s:Shared}{k:K}{v:Value}{Q:Bool->Shared->Prop},is s.heap k v->Q true s->wpAny (model prog w) A (eqIsQuiet 8 v) Q E s
 sx:∀{h:Heap}{k k':K}{x:Str}{t:Tok}{v:Value},is h k (.str x t)->is h k' v->isExactStrKey v=true->(k'=k↔v.isStr x=true)
section
variable{prog:Program}{w:World}{K:Type}[DecidableEq K]{knd:jB prog w K}{A:Around}{E:Value->Shared->Prop}{s:Shared}{d:Addr}{o:Obj}{es:Array DictEntry}{ep:Nat}{xs:List (K×Value×Value)}{k:K}{u:Value}
noncomputable def fV(knd:jB prog w K)(x:K×Value×Value):DictEntry:=⟨knd.hash x.1,x.2.1,x.2.2⟩
def Heap.jc(knd:jB prog w K)(h:Heap)(d:Addr)(xs:List (K×Value×Value)):Prop:=∃o es ep,h.get? d=some o/\o.ExactDict/\o.data=.dict es ep/\es.toList=xs.map (fV knd)/\(∀x∈xs,knd.is h x.1 x.2.1)/\(xs.map (·.1)).Nodup
structure jd(knd:jB prog w K)(s:Shared)(d:Addr)(es:Array DictEntry)(ep:Nat)(xs:List (K×Value×Value))(k:K)(u:Value):Prop where
 h1:∃o,s.heap.get? d=some o/\o.data=.dict es ep
 kk:knd.is s.heap k u
 h4:es.toList=xs.map (fV knd)
 h5:∀x∈xs,knd.is s.heap x.1 x.2.1
 h6:(xs.map (·.1)).Nodup
abbrev Np(knd:jB prog w K)(es:Array DictEntry)(k:K):List Nat:=placesWithHash es.size (λi=>Option.map (λx=>x.hash) es[i]?) (knd.hash k)
section
variable(F:jd knd s d es ep xs k u)
include F
def jd.ent(i:Nat):es[i]?=(xs[i]?).map (fV knd):=by rw[<- DL,F.h4,Ag]
def jd.mem{j:Nat}{p:Value×Value}(h:xs[j]?=some (k,p)):j∈Np knd es k:=by
 have e:=F.ent j;rw[h] at e;have hj:j<es.size:=(BP.1 e).1;refine DG.2 ⟨BY.2 hj,?_⟩;dsimp only;rw[e]
 simp[fV]
theorem jd.at{i:Nat}(h:i∈Np knd es k):∃x,xs[i]?=some x/\es[i]?=some (fV knd x)/\knd.hash x.1=knd.hash k/\knd.is s.heap x.1 x.2.1:=by
 obtain⟨h1,h2⟩:=DG.1 h;dsimp only at h2;have e:=F.ent i
 cases q:xs[i]? with
 |none=>rw[q] at e;rw[e] at h2;simp at h2
 |some x =>
  rw[q] at e;rw[e] at h2;exact⟨x,rfl,e,by simpa[fV] using h2,F.h5 x (Ak q)⟩
def jd.one{i j:Nat}{x y:K×Value×Value}(hi:xs[i]?=some x)(hj:xs[j]?=some y)(e:x.1=y.1):i=j:=by
 have l:i<(xs.map (·.1)).length:=by rw[AA];exact(Aa.1 hi).1
 exact(List.getElem?_inj l F.h6).1 (by rw[Ag,Ag,hi,hj,Option.map_some,Option.map_some,e])
def jd.plain{Q:Option Nat->Shared->Prop}(ae:knd.room A)(ab:(∀(j:Nat)(p:Value×Value),xs[j]?≠some (k,p))->Q none s)(af:∀(j:Nat)(p:Value×Value),xs[j]?=some (k,p)->Q (some j) s):
  wpAny (model prog w) A (dictWalkPlain d u (knd.hash k) es (Np knd es k)) Q E s:=by
 obtain⟨o,h1,J⟩:=F.h1;unfold dictWalkPlain;refine AC (Cu _ (λdX r s'=>r.1=none/\s'=s/\(∀i∈dX,i∈Np knd es k)/\∀(j:Nat)(p:Value×Value),xs[j]?=some (k,p)->j∈dX) _ ?_ ?_ _ _ ⟨rfl,rfl,λ_ h=>h,λj p h=>F.mem h⟩)
 .rintro i dX r s' ⟨L,rfl,O,B⟩
  obtain⟨x,U,ex,Y,ix⟩:=F.at (O i AL);rw[ex];dsimp only;refine Am (λ_=>?_) λq=>(q (by simp[fV,Y])).elim;refine AC (By h1 J (AC (knd.eqBool ae ix F.kk (AC (By h1 J ?_)))));refine Am (λq=>by simp at q) λ_=>?_;refine Am (λq=>?_) λq=>?_
  .have e:=Af q
   obtain⟨x1,x2⟩:=x;cases e;exact AC (DA (AN (AN (af i x2 U))))
  .have aa:x.1≠k:=λz=>q (AU z)
   refine AC (DA (AN ⟨rfl,rfl,λZ h=>O Z (AH _ h),λj p hj=>?_⟩))
   rcases Ah.1 (B j p hj) with rfl|h
   .rw[U] at hj;cases hj;exact(aa rfl).elim
   .exact h
 .rintro ⟨r1,r2⟩ s' ⟨L,rfl,_,B⟩
  cases L;exact AN (ab λj p hj=>nomatch B j p hj)
def jd.tell{Q:Bool->Shared->Prop}(S:List Value)(O:∀v∈S,∃B,knd.is s.heap B v)(q:Q false s):wpAny (model prog w) A (tableMayTell u S) Q E s:=by
 unfold tableMayTell;refine Am (λ_=>AN q) λ_=>?_;refine AC (knd.quiet F.kk ?_);refine Am (λJ=>by simp at J) λ_=>?_;refine AC (Cu _ (λdX r s'=>r.1=none/\s'=s/\∀v∈dX,∃B,knd.is s.heap B v) _ ?_ ?_ _ _ ⟨rfl,rfl,O⟩)
 .rintro v dX r s' ⟨L,rfl,h⟩
  obtain⟨B,U⟩:=h v AL;exact AC (knd.quiet U (Am (λJ=>by simp at J) λ_=>AN ⟨rfl,rfl,λv Y=>h v (AH _ Y)⟩))
 .rintro ⟨Z,r2⟩ s' ⟨L,rfl,_⟩
  cases L;exact AN q
theorem jd.stored:∀v∈List.filterMap (λi=>Option.map (λx=>x.key) es[i]?) (Np knd es k),∃J,knd.is s.heap J v:=λv q=>by
 obtain⟨i,hi,q⟩:=List.mem_filterMap.1 q;obtain⟨x,_,ex,_,B⟩:=F.at hi;rw[ex] at q;cases q;exact⟨x.1,B⟩
def jd.find{Q:Option Nat->Shared->Prop}(ae:knd.room A)(ab:(∀(j:Nat)(p:Value×Value),xs[j]?≠some (k,p))->Q none s)(aa:∀(j:Nat)(p:Value×Value),xs[j]?=some (k,p)->Q (some j) s):
  wpAny (model prog w) A (dictFind d u (knd.hash k)) Q E s:=by
 obtain⟨o,h1,O⟩:=id F.h1;unfold dictFind;refine BF (AC (wpAny_dictEntries h1 O ?_));have hS:=F.stored;have hP:=F.plain (E:=E) ae ab aa
 extract_lets P S aw aq ao ak
 have nd:P.Nodup:=List.nodup_range.filter _
 have H2:wpAny (model prog w) A (aq false) Q E s:=by
  dsimp only[aq];refine Am (λq=>by simp at q) λ_=>?_;refine AC (Cu _ (λdX r s'=>r.1=none/\s'=s/\(∀i∈dX,i∈P)/\dX.Nodup/\((r.2=none/\∀(j:Nat)(p:Value×Value),xs[j]?=some (k,p)->j∈dX)\/∃(j:Nat)(p:Value×Value),r.2=some j/\xs[j]?=some (k,p)/\j∉dX)) _ ?_ ?_ _ _ ⟨rfl,rfl,λ_ h=>h,nd,.inl ⟨rfl,λj p h=>F.mem h⟩⟩)
  .rintro i dX ⟨r1,Z⟩ s' ⟨ah,rfl,ai,U,J⟩
   obtain⟨x,B,ex,hh,ix⟩:=F.at (ai i AL);obtain⟨ni,U⟩:=Bf.1 U;have aj:∀i'∈dX,i'∈P:=λi' h=>ai i' (AH _ h);rw[ex];dsimp only;refine Am (λ_=>?_) λq=>(q (by simp[fV,hh])).elim;refine AC (By h1 O (AC (knd.eqBool ae ix F.kk (AC (By h1 O ?_)))));refine Am (λq=>by simp at q) λ_=>?_
   refine Am (λq=>?_) λq=>?_
   .have e:=Af q
    obtain⟨x1,x2⟩:=x;cases e;refine Am (λq=>?_) λ_=>?_
    .exfalso
     rcases J with ⟨h,_⟩|⟨j,p,_,hj,Y⟩
     .have h:Z=none:=h
      rw[h] at q;cases q
     .have:=F.one B hj rfl
      subst this;exact Y AL
    .exact AC (DA (Am (λ_=>AN (AN (aa i x2 B))) λ_=>AN ⟨rfl,rfl,aj,U,.inr ⟨i,x2,rfl,B,ni⟩⟩))
   .have av:x.1≠k:=λz=>q (AU z)
    refine AC (DA (Am (λq=>by simp at q) λ_=>AN ⟨rfl,rfl,aj,U,?_⟩))
    rcases J with ⟨h,J⟩|⟨j,p,h,hj,Y⟩
    .refine .inl ⟨h,λj p hj=>?_⟩
     rcases Ah.1 (J j p hj) with rfl|h
     .rw[B] at hj;cases hj;exact(av rfl).elim
     .exact h
    .exact .inr ⟨j,p,h,hj,λz=>Y (AH _ z)⟩
  .rintro ⟨r1,Z⟩ s' ⟨ah,rfl,_,_,J⟩
   cases ah
   rcases J with ⟨h,J⟩|⟨j,p,h,hj,Y⟩
   .have h:Z=none:=h
    subst h;exact AN (ab λj p hj=>nomatch J j p hj)
   .have h:Z=some j:=h
    subst h;exact AN (aa j p hj)
 have H1:wpAny (model prog w) A (ao ()) Q E s:=by
  dsimp only[ao];exact Am (λ_=>AC (AN H2)) λ_=>AC (F.tell _ hS H2)
 have H0:wpAny (model prog w) A (ak ()) Q E s:=by
  dsimp only[ak];refine Am (λ_=>hP) λ_=>?_
  split
  .next a0 _ =>
   refine Am (λq=>?_) λ_=>H1
   exfalso
   rw[Array.any_eq_true'] at q;obtain⟨e,au,q⟩:=q;obtain⟨y,hy,rfl⟩:=AX.1 (show e∈xs.map (fV knd) by rw[<- F.h4];exact DP.2 au);rw[Aq] at q;have e1:y.2.1=.ref a0:=by simpa[fV] using q.1
   have i1:=F.h5 y hy;rw[e1] at i1;have:=knd.inj i1 F.kk;have h2:=q.2
   simp[fV,this] at h2
  .exact H1
 split
 .next z x ax =>
  refine Am (λaf=>?_) λ_=>H0;unfold foundByValue;rw[Array.all_eq_true'] at af;have ar:∀y∈xs,isExactStrKey y.2.1=true:=λy hy=>af (fV knd y) (by rw[<- DP,F.h4];exact AX.2 ⟨y,hy,rfl⟩)
  cases hi:Array.findIdx? (λy=>y.key.isStr x) es with
  |none =>
   dsimp only;refine AN (ab λj p hj=>?_);have e:=F.ent j;rw[hj] at e;have L:=Ak hj;have:=Array.findIdx?_eq_none_iff.1 hi (fV knd (k,p)) (Array.mem_of_getElem? e);have h2:=(knd.sx F.kk (F.h5 _ L) (ar _ L)).1 rfl;have this:p.1.isStr x=false:=this;rw[h2] at this;cases this
  |some i =>
   dsimp only;obtain⟨ag,hp,_⟩:=Array.findIdx?_eq_some_iff_getElem.1 hi;have e:=F.ent i;rw[Array.getElem?_eq_getElem ag] at e
   cases B:xs[i]? with
   |none=>rw[B] at e;cases e
   |some y =>
    rw[B] at e;have e:=Av e;have L:=Ak B;rw[Array.getElem?_eq_getElem ag,e];dsimp only;rw[e] at hp;have ek:=(knd.sx F.kk (F.h5 _ L) (ar _ L)).2 hp;refine AC (By h1 O (AC (knd.eqBool ae (F.h5 _ L) F.kk (AC (By h1 O ?_)))));refine Am (λq=>by simp at q) λ_=>?_;refine Am (λ_=>?_) λq=>(q (AU ek)).elim
    obtain⟨y1,y2⟩:=y;cases ek;exact AC (DA (AN (aa i y2 B)))
 .exact H0
end
end
end PySem
namespace L2
open PySem PySem.Spec PyProof.Rows
noncomputable def bI(b:Bool):Int:=if b=true then 1 else 0
section
variable{prog:Program}{w:World}{A:Around}{E:Value->Shared->Prop}{s:Shared}
def KI(h:Q (hashInt (bI b)) { s with toks:=s.toks+1 }):wpAny (model prog w) A (pyHash (.bool b)) Q E s:=by
 apply AC
 apply AN
 have ty:s.TypeIs (.bool b) "bool":=rfl
 refine AC (Bw ty CJ.lookup (AC (Bw ty CJ.lookup (AC (DI ty CJ
  (CY CJ ty PySem.F.entry_int_hash ?_ (PySem.F.args_int_hash_1 _)))))))
 cases b
 .delta Builtin.«int.__hash__»
  wp_walk
  exact⟨_,rfl,AN h⟩
 .delta Builtin.«int.__hash__»
  wp_walk
  exact⟨_,rfl,AN h⟩
end
abbrev Vi:=Sum Key (List Key)
noncomputable def Ot(prog:Program)(w:World):Vi->Int
 |.inl k=>keyH w k
 |.inr ks=>tupleKeyHash (uZ prog w) ks
inductive q9(prog:Program)(w:World)(h:Heap):Vi->Value->Prop
 |int (i:Int) (t:Tok):q9 prog w h (.inl (.inl (some i))) (.int i t)
 |bl (b:Bool):q9 prog w h (.inl (.inl (some (bI b)))) (.bool b)
 |str (x:Str) (t:Tok):q9 prog w h (.inl (.inr x)) (.str x t)
 |non:q9 prog w h (.inl (.inl none)) .none
 |tup {ks:List Key} {a:Addr} (hk:IsTupleKey (uZ prog w) h ks a):q9 prog w h (.inr ks) (.ref a)
noncomputable def HJ:Vi->Nat
 |.inl _=>1
 |.inr ks=>ks.length+1
def Qr(B:IsTupleKey (uZ prog w) h ks a):∃items,h.IsTuple a items:=yZ B λo items n h1 h2 q _=>⟨items,o,h1,h2,n,q⟩
def mEq(J:A.units<cLine)(hx:q9 prog w s.heap x u)(O:q9 prog w s.heap y v)(h:Q (decide (x=y)) s):wpAny (model prog w) A (eqBool u v) Q E s:=by
 have q:∀b:Bool,decide (x=y)=b->Q b s:=λb e=>e▸h
 cases hx with
 |int i t =>
  cases O with
  |int j u=>exact wpAny_eqBool_int (q _ (by simp[Bool.beq_eq_decide_eq]))
  |bl b=>exact SeqAt.EqAt.int_bool i t b _ _ _ _ (q _ (by cases b<;>simp[bI,Bool.beq_eq_decide_eq]))
  |str y u=>exact SeqAt.EqAt.int_str i t y u _ _ _ _ (q _ ue)
  |non=>exact SeqAt.EqAt.int_none i t _ _ _ _ (q _ ue)
  |tup B=>obtain⟨its,L⟩:=Qr B;exact SeqAt.EqAt.int_tuple i t L J _ _ _ _ (q _ ue)
 |bl b =>
  cases O with
  |int j u=>exact SeqAt.EqAt.bool_int b j u _ _ _ _ (q _ (by cases b<;>simp[bI,Bool.beq_eq_decide_eq]))
  |bl Y=>exact DN b Y _ _ _ _ (q _ (by cases b<;>cases Y<;>simp[bI]))
  |str y u=>exact SeqAt.EqAt.bool_str b y u _ _ _ _ (q _ ue)
  |non=>exact SeqAt.EqAt.bool_none b _ _ _ _ (q _ ue)
  |tup B=>obtain⟨its,L⟩:=Qr B;exact SeqAt.EqAt.bool_tuple b L J _ _ _ _ (q _ ue)
 |str x t =>
  cases O with
  |int j u=>exact SeqAt.EqAt.str_int x t j u _ _ _ _ (q _ ue)
  |bl b=>exact SeqAt.EqAt.str_bool x t b _ _ _ _ (q _ ue)
  |str y u=>exact wpAny_eqBool_str (q _ ue)
  |non=>exact SeqAt.EqAt.str_none x t _ _ _ _ (q _ ue)
  |tup B=>obtain⟨its,L⟩:=Qr B;exact SeqAt.EqAt.str_tuple x t L J _ _ _ _ (q _ ue)
 |non =>
  cases O with
  |int j u=>exact SeqAt.EqAt.none_int j u _ _ _ _ (q _ ue)
  |bl b=>exact SeqAt.EqAt.none_bool b _ _ _ _ (q _ ue)
  |str y u=>exact SeqAt.EqAt.none_str y u _ _ _ _ (q _ ue)
  |non=>exact Xc (q _ ue)
  |tup B=>obtain⟨its,L⟩:=Qr B;exact SeqAt.EqAt.none_tuple L J _ _ _ _ (q _ ue)
 |tup Z =>
  obtain⟨its',U⟩:=Qr Z
  cases O with
  |int j u=>exact SeqAt.EqAt.tuple_int j u U J _ _ _ _ (q _ ue)
  |bl b=>exact SeqAt.EqAt.tuple_bool b U J _ _ _ _ (q _ ue)
  |str y u=>exact SeqAt.EqAt.tuple_str y u U J _ _ _ _ (q _ ue)
  |non=>exact SeqAt.EqAt.tuple_none U J _ _ _ _ (q _ ue)
  |tup B=>exact wpAny_eqBool_tuple J Z B (q _ ue)
noncomputable def Ka prog w:jB prog w Vi where
 is:=q9 prog w
 hash:=Ot prog w
 draws:=HJ
 room:=λA=>A.units<cLine
 inj:=λq J=>by
  cases q with
  |tup h1 =>
   cases J with
   |tup h2=>rw[h1.inj h2]
  |int i t=>cases J;rfl
  |bl b=>cases J;rfl
  |str x t=>cases J;rfl
  |non=>cases J;rfl
 keeps:=λq Y O hs=>by
  cases q with
  |int i t=>exact .int i t
  |bl b=>exact .bl b
  |str x t=>exact .str x t
  |non=>exact .non
  |tup B=>exact .tup (B.keeps Y O hs)
 pyHash:=λL q h=>by
  cases q with
  |int i t=>exact wpAny_pyHash_int h
  |bl b=>exact KI h
  |str x t=>exact wpAny_pyHash_str h
  |non=>exact qE h
  |tup B=>exact wpAny_pyHash_tuple L B h
 eqBool:=λL q J h=>mEq L q J h
 quiet:=λq h=>by
  cases q with
  |tup B=>exact QD 7 B h
  |int i t=>rw[CD _ (by rfl)];exact AN h
  |bl b=>rw[CD _ (by rfl)];exact AN h
  |str x t=>rw[CD _ (by rfl)];exact AN h
  |non=>rw[CD _ (by rfl)];exact AN h
 sx:=λB Z U=>by
  cases B
  cases Z with
  |str y u=>simp[Value.isStr]
  |_=>cases U
end L2
namespace CL
open PySem PySem.Spec L2 PySem.W
open PyProof.Rows hiding St
section
variable{X:Cx}{a b c e o i f value:Expr}{es:List Expr}{pos pos':Pos}
end
end CL
namespace PySem
open PySem.Spec PyProof.Rows PyProof.Rows.F
section
variable{K β:Type}[DecidableEq K]{xs:List (K×β)}{k:K}
noncomputable def Ef(xs:List (K×β))(k:K):Option β:=(xs.find? λx=>decide (x.1=k)).map (·.2)
def Ed(nd:(xs.map (·.1)).Nodup){i:Nat}(h:xs[i]?=some (k,p)):Ef xs k=some p:=by
 delta Ef
 cases e:xs.find? λx=>decide (x.1=k) with
 |none=>simpa using List.find?_eq_none.1 e _ (Ak h)
 |some q =>
  have B:q.1=k:=by simpa using List.find?_some e
  obtain⟨j,hj⟩:=DK.1 (List.mem_of_find?_eq_some e);have l:i<(xs.map (·.1)).length:=by simp_all;exact(Aa.1 h).1
  have:i=j:=(List.getElem?_inj l nd).1 (by simp_all);subst this;rw[h] at hj;cases hj
  rfl
def YW(h:∀(j:Nat)(p:β),xs[j]?≠some (k,p)):Ef xs k=none:=by
 delta Ef
 rw[Option.map_eq_none_iff,List.find?_eq_none];rintro⟨B,J⟩ q e;obtain⟨j,hj⟩:=DK.1 q;obtain rfl:B=k:=by simpa using e
 exact h j J hj
end
section
variable{prog:Program}{w:World}{K:Type}[DecidableEq K]{knd:jB prog w K}{A:Around}{E:Value->Shared->Prop}{s:Shared}{d:Addr}{xs:List (K×Value×Value)}{k:K}{u v:Value}
def Heap.jc.type(q:s.heap.jc knd d xs):s.TypeIs (.ref d) "dict":=bF q λo _ _ h1 h2 _=>⟨o,h1,h2.1⟩
def Heap.jc.in'(O:knd.is s.heap k u)(h1:s.heap.get? d=some o)(q:o.data=.dict es ep)(B:es.toList=xs.map (fV knd))(J:∀x∈xs,knd.is s.heap x.1 x.2.1)(L:(xs.map (·.1)).Nodup):jd knd { s with toks:=n } d es ep xs k u:=⟨⟨o,h1,q⟩,O,B,J,L⟩
def Yo(L:knd.room A)(J:knd.is s.heap k u)(O:s.heap.jc knd d xs)(h:Q ((Ef xs k).map (·.2)) { s with toks:=s.toks+knd.draws k }):wpAny (model prog w) A (dictGet d u) Q E s:=by
 refine PN O λo es ep h1 h2 q U Y B=>?_;have F:=Heap.jc.in' (n:=s.toks+knd.draws k) J h1 q U Y B;refine BF (AC (knd.pyHash L J (AC (F.find L (λZ=>?_) λj p hj=>?_))))
 .rw[YW Z] at h
  exact AN h
 .rw[Ed B hj] at h
  exact AC (wpAny_dictEntries h1 q ((F.ent j)▸hj▸AN h))
def Zu(O:knd.room A.in1)(L:knd.is s.heap k u)(J:(d==sysModules)=false)(q:s.heap.jc knd d xs)(h:Q (Ef xs k).isSome { s with toks:=s.toks+knd.draws k }):wpAny (model prog w) A (contains (.ref d) u) Q E s:=by
 refine BF (AC (Bw q.type slot_dict_contains.lookup (AC (wpAny_callSpecialUnlessNone?_slot q.type slot_dict_contains
  (CY slot_dict_contains q.type entry_dict_contains ?_ (args_dict_contains _ _))))))
 show wpAny _ _ (dictGet d u >>= _) _ _ s;refine AC (Yo O L q ?_)
 cases B:Ef xs k with
 |some p =>
  rw[B] at h;exact AN ⟨_,rfl,A1 h⟩
 |none =>
  rw[B] at h;exact AC (wpAny_pendingKey_other J (AN ⟨_,rfl,A1 h⟩))
def S6(L:knd.room A.in1)(J:knd.is s.heap k u)(B:(d==sysModules)=false)(q:s.heap.jc knd d xs)(h:Q (.bool (Ef xs k).isSome) { s with toks:=s.toks+knd.draws k }):wpAny (model prog w) A (compareOp .In u (.ref d)) Q E s:=AC (Zu L J B q (AN h))
end
end PySem
namespace L2
open PySem PySem.W PyProof.Rows PySem.Spec
noncomputable def Mj(K:DQ)(a:Addr)(n:Nat):It:=
 ⟨λi H=>i<n/\∃xs,SqL K H a xs/\xs.length=n,λi H x H'=>H'=H/\∀xs,SqL K H a xs->xs[n-1-i]?=some x,λi H=>i=n⟩
def u5{K}a it n:XA P w K tg (Mj K a n) [it] it (λi h=>h.IsRevIter it a ( n-1-i)) where
 mem:=by simp
 obj:=λi h st b q=>by
  have e:b=it:=by grind
  subst e;exact oK st λo e c d=>⟨o,e,λv z=>by rw[d] at z;cases z⟩
 keep:=λi h h' st k=>st.at λo e=>k it ue o e
 item:=by
  intro X hP ae ab hc i ww s σ H E I B st J;subst hP ae ab;obtain⟨hi,xs,hq,hn⟩:=J;refine oK (I.list hq) λits rv p hz=>mR (B it ue) λf0 O af U Y Z=>?_;have hk:xs[n-1-i]?=some (xs[n-1-i]'ir):=AJ _;obtain⟨u,hu,ru⟩:=(rv.get hk);have L:(n:Int)-1-i=((n-1-i:Nat):Int):=by lia
  rw[L] at st;refine wpAny_pyNext_rev_item st p.isList (by simpa using hu) λh' aa sb=>?_;have e1:((n-1-i:Nat):Int)-1=(n:Int)-1-((i+1:Nat):Int):=by lia
  rw[e1] at aa;have I1:=I.turned (t':=s.toks) (λb o q e=>(sb.2 b q).trans e) f0 O U Y Z;exact oK (id aa) λob e c dt=>⟨u,rfl,Q4 e c dt rfl ⟨_,H,I1,ru,⟨rfl,λys hy=>by rwa[I.list_inj hy hq]⟩,aa,λb q=>(B b q).1⟩⟩
 done:=by
  intro X hP ae ab hc i ww s σ H E I B st J;refine mR (B it ue) λf0 O af U Y Z=>?_;have J:i=n:=J;have L:(n:Int)-1-i = -1:=by lia
  rw[L] at st;exact wpAny_pyNext_rev_end (I.ok.hd hc) st λh' eb=>⟨rfl,I.turned (t':=s.toks) (λb o q e=>eb b o q e) f0 O U Y Z⟩
 self:=λ_ _ _ _ _ st h=>wpAny_pyIter_revIter st h
section
variable{X:Cx}{tg:Expr}{a:Expr}{p pos:Pos}{ta:TA}
def S8(K:DQ)(ta:TA):TI:=λσ H R=>ta σ H λvs H1=>∃l ys,vs=[.ref l]/\H1 l=some (.lst ys)/\R (Mj K l ys.length) H1
def Hf(L:Gl X "reversed")(U:X.mg "reversed"=none)(J:PA X [a] ta)(hs:starEach [a] X.env=[(false,eval a X.env)]:=by rfl):PI X tg (.Call (.Name "reversed" p) [a] [] pos) (S8 X.K ta):=by
 intro ww s σ H R I h;refine Call_ (bL I L U qT (Bn (thn (J pos ww s σ H _ I h) λus s1 zz=>?_) hs rfl));obtain⟨vs,H1,B,r1,l,ys,rfl,O,q⟩:=zz;obtain⟨u,rfl,rfl⟩:=uG r1;refine oK (B.list (SqL.of O)) λits r' Z hz=>call_reversed_list Z.isList ?_;have Y:its.toArray.size=ys.length:=by rw[Aw,r'.length]
 rw[Y];have st:(s1.heap.push (revObj l ((ys.length:Int)-1))).IsRevIter s1.heap.objs.size l ((ys.length:Int)-1-(0:Nat)):=⟨_,Ad _ rfl,rfl,by simp[revObj]⟩;refine wpAny_pyIter_revIter st ⟨s1.heap.objs.size,[s1.heap.objs.size],_,_,H1,rfl,B.kept (t':=s1.toks) λb o e=>AO _ e,u5 l _ ys.length,st,λb hb=>?_,q⟩;have e:b=s1.heap.objs.size:=by grind
 subst e;exact B.fpOk (AQ _) (B.hok.fresh (AQ _))
end
section
variable{X:Cx}
def WU(kd:KD X.K X.prog X.w d kvs)(hk:X.K.In h):∃xs,h.jc (Ka X.prog X.w) d xs/\∀ks,Ef xs (.inr ks)=none:=by
 obtain⟨vs,aj,o,es,ep,h1,h2,h3,af,ag,nd⟩:=kd.all h hk
 have ah:∀{l:List DictEntry}{vs:List (Key×Value)},(∀e∈l,∃k,eC k e.key=true/\e.hash=keyH X.w k)->Pairs (uZ X.prog X.w) l vs->∃xs:List (Vi×Value×Value),l=xs.map (fV (Ka X.prog X.w))/\(∀x∈xs,q9 X.prog X.w h x.1 x.2.1)/\xs.map (·.1)=vs.map (λz=>Sum.inl z.1):=by
  intro l vs hl hp
  induction hp with
  |nil=>exact⟨[],rfl,⟨(λ_ z=>by cases z),rfl⟩⟩
  |@cons e Y es vs hi hv ai ih =>
   refine oK (ih λe L=>hl e (AH _ L)) λxs Z e2 O=>oX (hl e AL) λk' ae hh=>?_;have aa:=hi
   have hs:q9 X.prog X.w h (.inl Y.1) e.key:=by
    rcases fJ aa with ⟨i,t,q,B⟩|⟨x,t,q,B⟩|⟨q,B⟩<;>rw[q,B]
    .exact .int i t
    .exact .str x t
    .exact .non
   have L:k'=Y.1:=by
    rcases fJ aa with ⟨i,t,q,B⟩|⟨x,t,q,B⟩|⟨q,B⟩<;>rcases fJ ae with ⟨i',t',U,J⟩|⟨x',t',U,J⟩|⟨U,J⟩<;>rw[B] at J<;>cases J<;>rw[q,U]
   subst L;refine⟨(.inl Y.1,e.key,e.val)::xs,?_,λx hx=>?_,by simp[O]⟩
   .congr 1
    obtain⟨eh,q,B⟩:=e
    congr 1
   .grind
 obtain⟨xs,Z,e2,O⟩:=(ah (λe L=>af e (by grind)) ag);refine⟨xs,⟨o,es,ep,h1,h2,h3,Z,e2,?_⟩,λks=>YW λj p hj=>?_⟩
 .grind
 .have ab:(Sum.inr ks:Vi)∈xs.map (·.1):=AX.2 ⟨_,Ak hj,rfl⟩
  rw[O] at ab;obtain⟨z,_,hz⟩:=AX.1 ab;cases hz
variable{d:Addr}{kvs:List (Key×V)}
def Ks(B:KD X.K X.prog X.w d kvs)(O:X.A.units+1<cLine):OpR X (compareOp .In) (λx y H Q=>∃(b:Addr)(ks:List Key),x=.ref b/\y=.ref d/\H b=some (.tup (ks.map kV))/\Q (.bl false) H):=by
 intro ww s σ H x y v u Q I Y Z h;obtain⟨b,ks,rfl,rfl,L,q⟩:=h;cases Z;cases Y;refine oX (WU B I.kIn) λxs J U=>S6 (B3 (knd:=uZ X.prog X.w) O) (q9.tup (mL I.hok L)) B.ne J ?_;rw[U];exact⟨.bl false,H,I.tok _,rfl,q⟩
def uE:CallR X (.type "int") (λxs H Q=>∃z n,xs=[.str z]/\z.length<=640/\PySem.intText? z=some n/\Q (.int n) H):=by
 intro ww s σ H xs us Q I r h;obtain⟨z,n,rfl,B,J,q⟩:=h;obtain⟨u,rfl,L⟩:=uG r;obtain⟨t,rfl⟩:=L;exact PySem.W.KIN.call_text J B ⟨.int n,H,I.tok _,⟨_,rfl⟩,q⟩
end
end L2
namespace CL
open PySem PySem.Spec L2 PySem.W
open PyProof.Rows hiding St
def Rm:GC:=λts C Q=>∃z n,ts=[.str z]/\z.length<=640/\PySem.intText? z=some n/\Q (.int n) C
def Xt{K}:rm K (λxs H Q=>∃z n,xs=[.str z]/\z.length<=640/\PySem.intText? z=some n/\Q (.int n) H) Rm:=λxs ps H C Q R L h q f=>by
 obtain⟨z,n,rfl,B,J,q⟩:=q;obtain⟨v,rfl,r⟩:=nZ L;cases r;exact⟨z,n,rfl,B,J,f _ _ _ _ q (.int n) h Fw.refl⟩
theorem aN{K}:∀{vs}{xs}{ks:List Key},du K H vs xs->xs.map sV=ks.map some->vs=ks.map kV
 |_,_,[],.nil,_=>rfl
 |_,_,[],.cons _ _,e=>by cases e
 |_,_,_::_,.nil,e=>by cases e
 |_,_,k::ks,.cons r J,e=>by
  injection e with q B
  rw[yU r q,aN J B]
  rfl
def TF:kh:=λx y C Q=>∃d kvs k,y=.ref d/\C d=some (.dK kvs)/\sV x=some k/\Q (.bl (oF kvs k).isSome) C
def Dk{K}:je K (λx y H Q=>∃d L,y=.ref d/\ZM H d x L/\Q (.bl L.isSome) H) TF:=λx y px aa H C Q R rx ry h ⟨d,kvs,k,O,U,Y,q⟩ f=>by
 subst O;cases ry;refine oX (h d _ U) λvs Z r=>⟨d,aK vs k,rfl,.inl ⟨vs,k,Rd.of Z,yU rx Y,rfl⟩,?_⟩
 rcases KP.val r k with ⟨v,t,B,J,rv⟩|⟨B,J⟩
 .rw[J] at q;exact B▸f _ _ _ _ q (.bl _) h Fw.refl
 .rw[J] at q;exact B▸f _ _ _ _ q (.bl _) h Fw.refl
def YJ(d:Addr):kh:=λx y C Q=>∃(xs:List PV)(ks:List Key),x=.tup xs/\y=.ref d/\xs.map sV=List.map some ks/\Q (.bl false) C
def KS{K}:je K (λx y H Q=>∃(b:Addr)(ks:List Key),x=.ref b/\y=.ref d/\H b=some (.tup (ks.map kV))/\Q (.bl false) H) (YJ d):=λx y Y Z H C Q R O U h ⟨xs,ks,B,J,L,q⟩ f=>by
 subst B J;cases U
 cases O with
 |tup e r =>
  rw[aN r L] at e;exact⟨_,ks,rfl,rfl,e,f _ _ _ _ q (.bl _) h Fw.refl⟩
structure VF(K:DQ)(S:CH->Prop)(J:It)(ps:List PV):Prop where
 go:∀i H' C',i<ps.length->dj K H' C'->S C'->J.go i H'
 yl:∀i H' C' x H'',dj K H' C'->S C'->J.yld i H' x H''->H''=H'/\∀t,ps[i]?=some t->Rep K H' x t
 st:∀H' C',dj K H' C'->S C'->J.stop ps.length H'
def dF(S:CH->Prop)(g:o6)(u:ji)(E:di):List PV->iT->CH->Prop
 |[],ρ,C=>S C/\E.nx ρ C
 |x::r,ρ,C=>S C/\g x ρ C λq C1=>u (E.lp (dF S g u E r)) q C1
def Vu{K}{D}(j:VF K S ag ps)(s:fu K H σ ρ)(h:dj K H C)(aj:dF S g u E ps ρ C)(f:qy K H C E D):
  ∃W:Nat->Nat->St->Hp->Prop,(∃m,W 0 m σ H)/\∀i m σ H,W i m σ H ->
   (ag.stop i H/\D.nx σ H)\/(ag.go i H/\∃N,(∀q H',N q H'->∃m',m'<m/\W (i+1) m' q H')/\∀x H',ag.yld i H x H'->Zg K g x σ H' λao H2=>sO K u { D with nx:=N,ct:=N,bk:=D.nx } ao H2):=by
 refine⟨λi m q H'=>m=ps.length-i/\i<=ps.length/\∃Y C',fu K H' q Y/\dj K H' C'/\Fw H C H' C'/\dF S g u E (ps.drop i) Y C',⟨ps.length,rfl,AF _,ρ,C,s,h,Fw.refl,aj⟩,?_⟩;rintro i m ak H1 ⟨rfl,hi,ai,C1,s1,h1,aa,O⟩
 by_cases af:i<ps.length
 .rw[Az af] at O
  refine .inr ⟨j.go i H1 C1 af h1 O.1,λq H'=>∃Y C',fu K H' q Y/\dj K H' C'/\Fw H C H' C'/\dF S g u E (ps.drop (i+1)) Y C',λq H' z=>⟨ps.length-(i+1),by omega,rfl,af,z⟩,λx H2 y=>?_⟩;obtain⟨rfl,y⟩:=j.yl i H1 C1 x H2 h1 O.1 y
  exact⟨ps[i],ai,C1,_,y _ (AJ af),s1,h1,O.2,λq H' Y C' q' s' h' f'=>⟨Y,C',_,s',h',q',⟨λah Z ae B U ab L J=>⟨ae,B,ab,L,aa.trans (f'.trans J),U⟩,λv Z t B U r3 L J=>f.rt v Z t B U r3 L (aa.trans (f'.trans J)),
   λah Z ae B U ab L J=>f.nx ah Z ae B U ab L (aa.trans (f'.trans J)),λah Z ae B U ab L J=>⟨ae,B,ab,L,aa.trans (f'.trans J),U⟩⟩⟩⟩
 .have e:i=ps.length:=by lia
  subst e;rw[Ca] at O;exact .inl ⟨j.st H1 C1 h1 O.1,f.nx ak H1 ai C1 O.2 s1 h1 aa⟩
def O1{K}(B:n=xs.length):VF K (λC=>C a=some (.lst xs)) (Mj K a n) xs.reverse where
 go:=λi H' C' l h s=>by
  obtain⟨vs,q,r⟩:=(h a _ s);rw[Bu] at l;exact⟨by lia,vs,SqL.of q,by rw[r.len,B]⟩
 yl:=λi H' C' x Y h s y=>by
  refine oX (h a _ s) λvs q r=>⟨y.1,λt L=>?_⟩;have J:=y.2 vs (SqL.of q);have hi:i<xs.length:=by grind
  rw[List.getElem?_reverse hi] at L;obtain⟨v,O,U⟩:=(r.get L);rw[B,O] at J;cases J;exact U
 st:=λH' C' h s=>by
  rw[Bu];exact B.symm
section
variable{X:Cx}{pos:Pos}{a e:Expr}
def YK(q:f9)(g:o6)(u:ji):ji:=λE ρ C=>q ρ C λt C1=>match t with
 |.ref d=>match C1 d with
  |some (.lst xs)=>dF (λC=>C d=some (.lst xs)) g u E xs.reverse ρ C1
  |_=>False
 |_=>False
def Dg{p L}(hp:PassesOwn (model X.prog X.w) X.A X.env X.xe)(hc:X.calm=true)(ae:Gl X "reversed")(af:X.mg "reversed"=none)(aa:CE X a U)(ab:CG X tg g)(Z:CB X O u)(J:noStar a=true:=by rfl)(hs:∀x,foldedSetIterable (.Call (.Name "reversed" p) [a] [] L) X.env x=pure x:=by intro _;rfl):CS X (.For tg (.Call (.Name "reversed" p) [a] [] L) O [] pos) (YK U g u):=
 ⟨JS.weak ⟨qC hp hc (Hf ae af (oM aa.h.h lU (wJ J)) (wJ J)) ab.h.h Z.h.h hs⟩ λD σ H zz=>yZ zz λρ C E s h ag f=>⟨ρ,C,_,s,h,ag,λx H1 px C1 q rx h1 B=>by
  split at q
  .next d =>
   split at q
   .next xs e =>
    cases rx;exact oX (h1 d _ e) λvs Y r=>⟨d,vs,rfl,Y,Vu (O1 r.len) (s.dg (B.dg h)) h1 q (f.fw B)⟩
   .exact q.elim
  .exact q.elim⟩⟩
end
end CL
namespace CL
open PySem PySem.Spec L2
open PyProof.Rows hiding St
section
variable{X:Cx}{o:Expr}{co:f9}{c:Addr}{tpos pos p1:Pos}{f:Str}
def JD{j k}(hc:Cls X.K c)(hn:NoAttr X.K c f)(ho:CE X o co):CS X (.AugAssign (.Attribute o f tpos) .Add (.Constant (.int j) k p1) pos)
  (λE ρ C=>co ρ C λx C1=>∃p dx fs i,x=.ref p/\C1 p=some (.ins c dx fs)/\fs.lookup f=some (.int i)/\fs.length<1000/\E.nx ρ (cQ C1 p (.ins c dx (pO f (.int (i+j)) fs)))):=
 ⟨JS.weak ⟨Kn ho.h.h Wi W2⟩ λD σ H zz=>yZ zz λρ C E s h aa f'=>
 ⟨ρ,C,_,s,h,aa,λx H1 px C1 ⟨p,dx,fs,i,Z,L,O,ql,q1⟩ rx h1 U=>by
  subst Z;cases rx;obtain⟨J,B,r⟩:=(h1 p _ L)
  rcases FP.look r with ⟨v,t',Y,q,rv⟩|⟨Y,q⟩
  .rw[O] at q
   cases q;cases rv;have m:iu H1 (upd H1 p (.ins c dx (vY f (.int (i+j)) J))):=iu.mut B rfl _;exact⟨p,c,dx,J,.int i,rfl,B,hc,hn,Y,i,j,rfl,rfl,dx,J,B,by exact(Paired.length r)▸ql,f'.nx σ _ ρ _ q1 ((s.dg (U.dg h)).dg m) (h1.put B rfl ⟨_,iQ,Paired.mapP (FP.put (.int (i+j)) r) λ_ _ z=>⟨z.1,z.2.dg m⟩⟩) (U.trans (Fw.put L _ _))⟩
  .rw[O] at q;cases q⟩⟩
end
def sY:CB X sts (λ_ _ _=>False):=⟨⟨λ_ _ _ _ _ _ h=>yZ h λ_ _ _ _ _ q _=>q.elim⟩⟩
def Gj(kvs:List (Key×V))(d:Addr):kh:=λx y C Q=>∃z,x=.str z/\y=.ref d/\Q (.bl (aK kvs (Sum.inr z)).isSome) C
def pM{K}{kvs:List (Key×V)}:je K (λx y H Q=>∃z,x=.str z/\y=.ref d/\Q (.bl (aK kvs (Sum.inr z)).isSome) H) (Gj kvs d):=λx y U Y H C Q R L O h ⟨z,B,J,q⟩ f=>by
 subst B J;cases L;cases O;exact⟨z,rfl,rfl,f _ _ _ _ q (.bl _) h Fw.refl⟩
theorem lR(J:∀C,Gr C0 C->S C)f:∀xs B C,Gr C0 C->B.length+xs.length<=sizeLine->(∀x∈xs,∀C L,Gr C0 C->(∀C',Gr C C'->L (f x) C')->c (some x::ρ) C L)->(∀p C',C0 p=none->Gr C0 C'->C' p=some (.lst (B++xs.map f))->Q (.ref p) C')->oY S aU c ρ Q xs B C
 |[],B,C,g,_,_,q=>⟨J C g,λp O=>q p _ (bZ g O) (g.trans (Gr.new O _)) (by rw[zQ,List.map_nil,AM])⟩
 |x::xs,B,C,g,Y,h,q=>by
  rw[AD] at Y;refine⟨J C g,h x AL C _ g λC' g'=>⟨by lia,lR J f xs _ C' (g.trans g') (by grind) (λy Z=>h y (AH _ Z)) λp C2 h1 h2 U=>q p C2 h1 h2 ?_⟩⟩;rw[U,AI]
  rfl
def JM(e:ρ[i]?=some (some (.ref p)))(m:C p=some (.lst xs))(q:oY (λC=>C p=some (.lst xs)) t c ρ Q xs [] C):fW (zK i) t c ρ C Q:=by simp_all[fW,zK]
section
variable{X:Cx}{x:Str}{c fa:Addr}{fd:FuncData}{ps:List Str}{k:Nat}{G:GC}{CX:List Env->Program->World->Hp->Shared->XK->Value->Shared->Prop}
def Ly(c:Addr)(G:GC):f9:=λ_ C Q=>∀x dx,C x=none->C dx=none->dx≠x->G [.ref x] (cQ C x (.ins c dx [])) λv C2=>v=.non/\Q (.ref x) C2
def YC(M:Mk X.K c fa)(F:FnOk X.prog X.w X.K X.mg X.base CX0 k fa fd ps (qm X.K G))(aa:Room (k+1) X.A)(Y:Gl X x)(Z:X.mg x=some (.ref c))(O:Binds X.K fd ps [])(U:(x==("__debug__":Str))=false:=by decide):CE X (.Call (.Name x p) [] [] pos) (Ly c G):=
 ⟨JE.weak ⟨Wh M F aa Y Z O .nil vC U⟩ λσ H Q zz=>yZ zz λρ C R s h ab f=>λy dx hy q nd=>by
  have J:upd H dx (.own y) y=none:=by rwa[pX (Ne.symm nd)]
  refine⟨[.ref y],cQ C y (.ins c dx []),_,.cons (.ref y) .nil,(h.new q (.own y)).lay J ⟨[],iQ,.nil⟩,ab y dx (h.fresh hy) (h.fresh q) nd,λv H' t C' B r' h' L=>?_⟩;obtain⟨rfl,B⟩:=B;cases r'
  exact⟨rfl,f _ H' _ C' B (.ref y) h' (((Fw.new q _).trans (Fw.lay J _ _)).trans L)⟩⟩
end
section
variable{X:Cx}
def Rw(i:Nat)(q:f9):ji:=λE ρ C=>∃x:Int,ρ[i]?=some (some (.int x))/\q ρ C λy C1=>∃z:Int,y=.int z/\E.nx (ρ.set i (some (.int (x+z)))) C1
def dI{pos pos'}i(U:X.N.Nodup)(Y:CE X e J)(hi:X.N[i]?=some x:=by rfl)(hx:Loc X.env.scope x:=by first|exact Or.inl rfl|exact Or.inr rfl)(Z:X.fn x=true\/X.env.scope.names.lookup x=some .local:=by first|exact .inl rfl|exact .inr rfl|assumption):
  CS X (.AugAssign (.Name x pos') .Add e pos) (Rw i J):=
 ⟨JS.weak ⟨ps_aug U hi hx Y.h.h W2 Z⟩ λD σ H zz=>yZ zz λρ C E s h q f=>by
  refine oX q λx ex q=>oX (s.get ex) λv L rv=>?_;cases rv;refine⟨_,L,ρ,C,_,s,h,q,λy H1 aa C1 ⟨z,O,q1⟩ ry h1 B=>?_⟩;subst O;cases ry
  exact⟨x,z,rfl,rfl,f.nx _ _ _ _ q1 ((s.dg (B.dg h)).set (.int _) i) h1 B⟩⟩
end
section
variable{K:DQ}
def Sd(K:DQ)(H0:Hp)(C0:CH)(I:iT->CH->Prop):St->Hp->Prop:=λσ H=>∃ρ C,I ρ C/\fu K H σ ρ/\dj K H C/\Fw H0 C0 H C
def KJ r J O(I:Nat->iT->CH->Prop)(hp:ρ[r]?=some (some (.ref p)))(hI:∀i ρ C,I i ρ C->C p=some (.lst xs))(h0:I 0 ρ C)(s:fu K H σ ρ)(h:dj K H C)(f:Fw H0 C0 H C)(aj:∀i x ρ C σ H,xs[i]?=some x->I i ρ C->fu K H σ ((ρ.set J (some (.int i))).set O (some x))->dj K H C->Fw H0 C0 H C->tb { D with nx:=Sd K H0 C0 (I (i+1)),ct:=Sd K H0 C0 (I (i+1)),bk:=D.nx } σ H)(ag:∀ρ C σ H,I xs.length ρ C->fu K H σ ρ->dj K H C->Fw H0 C0 H C->D.nx σ H):tFor (FJ K (yK K (du K) (tJ (zK r) gY))) (gTup K 2 (fP (uB J) (fP (uB O) gNil))) tb D σ H:=by
 refine⟨ρ,C,λts C1=>ts=[.ref p]/\C=C1,s,h,?_,?_⟩
 .delta tJ zK
  simp only[hp]
  exact⟨rfl,rfl⟩
 rintro vs H1 _ _ ⟨rfl,rfl⟩ ah h1 Z;obtain⟨v,rfl,rv⟩:=nZ ah;cases rv;refine oX (h1 p _ (hI 0 ρ C h0)) λys ey ry=>⟨p,ys,rfl,ey,λi m af H'=>m=xs.length-i/\i<=xs.length/\Sd K H0 C0 (I i) af H',⟨xs.length,by simp,AF _,ρ,C,h0,s.dg (Z.dg h),h1,f.trans Z⟩,?_⟩;rintro i m ak H2 ⟨rfl,hi,U,C2,L,ae,h2,aa⟩;obtain⟨zs,B,rz⟩:=(h2 p _ (hI i U C2 L));have hl:=rz.len
 by_cases ab:i<xs.length
 .refine .inr ⟨⟨zs,zs[i]'ir,SqL.of B,AJ _⟩,Sd K H0 C0 (I (i+1)),λaf H' z=>⟨xs.length-(i+1),by lia,rfl,ab,z⟩,?_⟩
  rintro _ _ ⟨b,y,rfl,q,rfl,hy⟩;obtain⟨x,ex⟩:∃x,xs[i]?=some x:=⟨_,AJ ab⟩;obtain⟨y',Y,ai⟩:=(rz.get ex);rw[(hy zs (SqL.of B))] at Y;cases Y;exact⟨b,_,rfl,SqT.of iQ,rfl,_,_,rfl,_,_,rfl,rfl,aj i x U C2 _ _ ex L (((ae.dg (iu.new q _)).set (.int _) J).set (ai.dg (iu.new q _)) O) (h2.new q _) (aa.trans (Fw.new q _))⟩
 .have e:i=xs.length:=by lia
  subst e;exact .inl ⟨⟨zs,SqL.of B,by lia⟩,ag U C2 ak H2 L ae h2 aa⟩
end
def bM(B:C a=some (.lst xs))(J:C b=some (.lst ys))(l:xs.length+ys.length<=sizeLine)(q:Q .non (cQ C a (.lst (xs++ys)))):aM (.ref a) [.ref b] C Q:=by
 delta aM
 simp only[B,J]
 exact⟨l,q⟩
def zZ{C:CH}(q:C x=none)(B:C y=some o):y≠x:=by grind
def ZO(e:ρ[i]?=some (some (.ref p)))(m:C p=some (.lst xs))(q:Q (!xs.isEmpty) C):Dz (zK i) ρ C Q:=by simp_all[Dz,zK]
def IW(e:ρ[i]?=some (some (.ref p)))(m:C p=some (.lst xs))(q:dF (λC=>C p=some (.lst xs)) g u E xs.reverse ρ C):YK (zK i) g u E ρ C:=by simp_all[YK,zK]
section
variable{X:Cx}
def Rp(r q B:Nat)(u:ji):ji:=λE ρ C=>∃(p:Addr)(xs:List PV)(I:Nat->iT->CH->Prop),ρ[r]?=some (some (.ref p))/\(∀i ρ C,I i ρ C->C p=some (.lst xs))/\I 0 ρ C /\
 (∀(i:Nat)x ρ C,xs[i]?=some x->I i ρ C->u (E.lp (I (i+1))) ((ρ.set q (some (.int i))).set B (some x)) C)/\∀ρ C,I xs.length ρ C->E.nx ρ C
def Dh{y v}{p1 p2 p3 p4 p5 p6 pos}{k}r U Y(hp:PassesOwn (model X.prog X.w) X.A X.env X.xe)(hc:X.calm=true)(hN:X.N.Nodup)(ag:Gl X "enumerate")(ah:X.mg "enumerate"=none)(ha:CE X (.Name v p6) (zK r))(hb:CB X ab u)(h1:X.N[U]?=some x:=by rfl)(h2:X.N[Y]?=some y:=by rfl)(L:Loc X.env.scope x:=by first|exact Or.inl rfl|exact Or.inr rfl)(hy:Loc X.env.scope y:=by first|exact Or.inl rfl|exact Or.inr rfl)(ae:X.fn x=true\/X.env.scope.names.lookup x=some .local:=by first|exact .inl rfl|exact .inr rfl|assumption)(af:X.fn y=true\/X.env.scope.names.lookup y=some .local:=by first|exact .inl rfl|exact .inr rfl|assumption):
  CS X (.For (.Tuple [.Name x p1,.Name y p2] k p3) (.Call (.Name "enumerate" p4) [.Name v p6] [] p5) ab [] pos) (Rp r U Y u):=
 ⟨JS.weak ⟨qC hp hc (v9 ag ah (JA.h (CA.h (c7 ha)))) (V8 hc (xC (jD hN h1 L ae) (xC (jD hN h2 hy af) Z6))) hb.h.h⟩ λD σ H zz=>yZ zz λρ C E s h ai f=>PP ai λp xs I e1 e2 e3 e4 e5=>KJ r U Y I e1 e2 e3 s h Fw.refl (λi x Z C1 aj H1 L O s1 h1 B=>⟨_,C1,_,s1,h1,e4 i x Z C1 L O,⟨λaa H' J C' k s' h' q=>⟨J,C',k,s',h',B.trans q⟩,λv H' t C' k r' h' q=>f.rt v H' t C' k r' h' (B.trans q),λaa H' J C' k s' h' q=>f.nx aa H' J C' k s' h' (B.trans q),λaa H' J C' k s' h' q=>⟨J,C',k,s',h',B.trans q⟩⟩⟩) λZ C1 aj H1 O s1 h1 B=>f.nx _ _ _ _ (e5 Z C1 O) s1 h1 B⟩
end
end CL
namespace PySem
open Sem (wp)
open AutoSeq1
def Zr l items n b q O U(ab:¬(!items.isEmpty&&Builtin.List.listTooLong (items.size+q.size))=true)(ae:items.size<=sizeLine)(af:items.size+q.size<=sizeLine+1):
  Meets (Builtin.«list.extend» ⟨[.ref l,.ref b],[]⟩) (λ_ R s=>s.heap.get? l=some { cls:=.type "list",dict:=none,data:=.seq items n,slots:=#[] }/\s.heap.get? b=some { cls:=.type "tuple",dict:=none,data:=.seq q O,slots:=U }/\R (.ok (.ret Value.none)) { s with heap:=s.heap.update l (Obj.mapSeq λx=>x++q),toks:=s.toks }):=
 .of_wp λprog w A R s h=>by
  obtain⟨hp,g,d,tk,os⟩:=s;obtain⟨B,J,h⟩:=h;have Y:=idx_int;have Z:=sub_tuple_tuple;have f3:=sub_list_list;have aa:=sub_tuple_list;have f5:=sub_list_tuple;
  have L:(items++q).size<=sizeLine+1:=by rwa[Array.size_append]
  wp_walk using(wpAny_updateSeq B rfl (_hz':=L)),wpAny_loadPart' B,wpAny_loadPart' J;exact⟨_,rfl,h⟩
end PySem
namespace L2
open PySem PySem.Spec PyProof.Rows
section
variable{X:Cx}
def QC:V->List V->Hp->VK->Prop:=λx vs H Q=>∃l b xs zs,x=.ref l/\vs=[.ref b]/\H l=some (.lst xs)/\H b=some (.tup zs)/\xs.length+zs.length<=sizeLine/\Q .non (upd H l (.lst (xs++zs)))
def Za:MtM X "list.extend" QC:=by
 intro ww s σ H x vs v us Q I rx rv h;obtain⟨l,b,xs,zs,rfl,rfl,B,Z,hz,af⟩:=h;cases rx;obtain⟨u,rfl,rfl⟩:=rv.one;obtain⟨z,its,n,r,hl,e⟩:=I.lstM B;obtain⟨_,q,L,⟨O,d2,U,ag⟩,Y,hc,⟨J,aa⟩,hn⟩:=I.hok b _ Z;obtain rfl:O=.type "tuple":=hc;obtain rfl:d2=none:=hn;obtain rfl:U=.seq q.toArray J:=aa;have ah:=L.length;have ae:its.toArray.size+q.toArray.size<=sizeLine:=by simp;lia
 have ab:¬ (!its.toArray.isEmpty&&Builtin.List.listTooLong (its.toArray.size+q.toArray.size))=true:=by
  rw[mC ae,A2];exact AV
 refine BB F.slot_list_extend ⟨_,e,rfl⟩ F.entry_list_extend (F.args_list_extend_2 _ _)
  (Zr l its.toArray n b q.toArray J ag ab ir ir) ⟨e,Y,?_⟩
 refine⟨.non,_,I.lset (its':=its++q) B e ue (r.append L) ?_,rfl,af⟩;rw[AB]
 lia
end
end L2
namespace CL
open PySem PySem.Spec L2
open PyProof.Rows hiding St
def YL:PV->List PV->CH->K1->Prop:=λx ts C Q=>∃a xs ys,x=.ref a/\ts=[.tup ys]/\C a=some (.lst xs)/\xs.length+ys.length<=sizeLine/\Q .non (cQ C a (.lst (xs++ys)))
def Xn{K}:Ej K QC YL:=λx Z xs ps H C Q R Y U h q f=>by
 obtain⟨a,xs,ys,rfl,rfl,J,O,q⟩:=q;obtain⟨vs,B,L⟩:=(h _ _ J);obtain⟨v,rfl,r⟩:=nZ U;cases Y
 cases r with
 |tup e r =>
  exact⟨_,_,vs,_,rfl,rfl,B,e,by exact L.len▸r.len▸O,f _ _ _ _ q .non (h.put B rfl ⟨_,iQ,(L.append r).dg (iu.mut B rfl _)⟩) (Fw.put J _ _)⟩
end CL
namespace L2
open PySem PySem.W PyProof.Rows PySem.Spec
section
variable{X:Cx}{d:Addr}{kvs:List (Key×V)}
def GK(d:Addr)(kvs:List (Key×V))(td ty tx:TE):TE:=λσ H Q=>td σ H λx H1=>x=.ref d/\ty σ H1 λy H2=>tx σ H2 λz q=>(∃k,y=kV k/\Q ((aK kvs k).getD z) q)\/∃(b:Addr)(ks:List Key),y=.ref b/\q b=some (.tup (ks.map kV))/\Q z q
def KB{apos cpos}(J:KD X.K X.prog X.w d kvs)(hu:X.A.units+1<cLine)(ho:JE X o td)(ab:JE X e ty)(ae:JE X f tx)(Y:attributeBase o "get" X.env (eval o X.env)=eval o X.env:=by rfl)(hl:(apos.endLine==cpos.line)=true:=by rfl)(h1:noStar e=true:=by rfl)(h2:noStar f=true:=by rfl):JE X (.Call (.Attribute o "get" apos) [e,f] [] cpos) (GK d kvs td ty tx):=by
 refine⟨λww s σ H Q I h=>?_⟩;have m:=Fi Y hl h1 h2;refine wpAny_Call_method m.base m.few m.line PySem.F.plainAttrs_dict Bb PySem.F.type_dict_get (thn (ho.h ww s σ H _ I h) λu s1 O=>Xd O λx H1 I1 rx ex q1=>?_);subst ex;obtain rfl:u=Value.ref d:=rx;refine oX (J.all s1.heap I1.kIn) λvs aa B=>⟨B.typeIs,λb ag=>?_,?_⟩
 .cases ag
  exact bF B λob _ _ e1 e2 _=>⟨ob,e1,e2.2.1⟩
 rw[m.trees]
 refine CQ rfl (DO (B6 (thn (ab.h ww s1 σ H1 _ I1 q1) λiv ah O=>rZ O λy H2 I2 ry q2=>
  B6 (thn (ae.h ww ah σ H2 _ I2 q2) λfv ai O=>rZ O λz Z q rz L=>Calls.spliced_nil ?_))))
 rcases L with ⟨k,U,L⟩|⟨b,ks,U,Y,L⟩
 .subst U
  exact oX (J.all ai.heap q.kIn) λvs aa B=>call_meetsIn Bb B.typeIs CK (B8 _ _ _) (meets_dict_get_default (uZ X.prog X.w) d (bP ry) J.ne fv) ⟨_,B.mapOf,⟨_,Z,q.tok _,(aa.val k).getD rz,L⟩⟩
 .subst U
  cases ry;refine oX (WU J q.kIn) λxs dv af=>CY Bb dv.type CK ?_ (B8 _ _ _);show wpAny _ _ (dictGet d (.ref b) >>= _) _ _ _;refine AC (Yo (B3 (knd:=uZ X.prog X.w) hu) (q9.tup (mL q.hok Y)) dv ?_);rw[af];exact AC (wpAny_missed_other J.ne (AN ⟨fv,rfl,z,Z,q.tok _,rz,L⟩))
end
end L2
namespace CL
open PySem PySem.Spec L2 PySem.W
open PyProof.Rows hiding St
noncomputable def O4:Option V->PV->Option PV
 |some (.int i),_=>some (.int i)
 |none,z=>some z
 |_,_=>none
def LC(d:Addr)(kvs:List (Key×V))(cd B J:f9):f9:=λρ C Q=>cd ρ C λx C1=>x=.ref d/\B ρ C1 λy C2=>J ρ C2 λz q=>(∃u t,y=.str u/\O4 (aK kvs (Sum.inr u)) z=some t/\Q t q)\/∃(xs:List PV)(ks:List Key),y=.tup xs/\xs.map sV=List.map some ks/\Q z q
def yE{Z aa}{apos cpos}(kd:KD X.K X.prog X.w d kvs)(hu:X.A.units+1<cLine)(ho:CE X o cd)(ah:CE X e Z)(ai:CE X f aa)(hb:attributeBase o "get" X.env (eval o X.env)=eval o X.env:=by rfl)(hl:(apos.endLine==cpos.line)=true:=by rfl)(h1:noStar e=true:=by rfl)(h2:noStar f=true:=by rfl):CE X (.Call (.Attribute o "get" apos) [e,f] [] cpos) (LC d kvs cd Z aa):=
 ⟨JE.weak (KB kd hu ho.h ah.h ai.h hb hl h1 h2) λσ H Q zz=>yZ zz λρ C R s h aj U=>
  ⟨ρ,C,_,s,h,aj,λx H1 px C1 ⟨ex,q1⟩ rx h1 ae=>by
   subst ex;cases rx;refine⟨rfl,ρ,C1,_,s.dg (ae.dg h),h1,q1,λy H2 ak C2 q2 ry h2 ag=>?_⟩;have J:=ae.trans ag;refine⟨ρ,C2,_,s.dg (J.dg h),h2,q2,λz H3 pz C3 q rz Y L=>?_⟩;have af:=ry.dg (L.dg h2)
   rcases q with ⟨u,t,O,B,q⟩|⟨xs,ks,O,e3,q⟩
   .subst O
    cases af;refine .inl ⟨Sum.inr u,rfl,?_⟩
    cases ab:aK kvs (Sum.inr u) with
    |none=>rw[ab] at B;cases B;exact U _ _ _ _ q rz Y (J.trans L)
    |some v =>
     rw[ab] at B;cases v<;>cases B
     exact U _ _ _ _ q (.int _) Y (J.trans L)
   .subst O
    cases af with
    |tup e r =>
     rw[aN r e3] at e
     exact .inr ⟨_,ks,rfl,e,U _ _ _ _ q rz Y (J.trans L)⟩⟩⟩
def LK(kvs:List (Key×V))(d:Addr):kh:=λx y C Q=>Gj kvs d x y C Q\/YJ d x y C Q
def KU{K}{kvs:List (Key×V)}:je K (λx y H Q=>(∃z,x=.str z/\y=.ref d/\Q (.bl (aK kvs (Sum.inr z)).isSome) H)\/(∃(b:Addr)(ks:List Key),x=.ref b/\y=.ref d/\H b=some (.tup (ks.map kV))/\Q (.bl false) H)) (LK kvs d):=λx y B J H C Q R L O h q f=>
 q.elim (λq=>.inl (pM x y B J H C Q R L O h q f)) λq=>.inr (KS x y B J H C Q R L O h q f)
def YH(d:Addr)(g:Str->Option PV):kh:=λx y C Q=>∃z t,x=.ref d/\y=.str z/\g z=some t/\Q t C
def Yt{K}{kvs:List (Key×V)}(O:∀z t,g z=some t->∃v,aK kvs (Sum.inr z)=some v/\∀H,Rep K H v t):je K (λx y H Q=>∃z v,x=.ref d/\y=.str z/\aK kvs (Sum.inr z)=some v/\Q v H) (YH d g):=λx y px aa H C Q R Z ry h ⟨z,t,B,J,L,q⟩ f=>by
 subst B J;cases Z;cases ry
 exact oX (O z t L) λv Y U=>⟨z,v,rfl,rfl,Y,f _ H _ C q (U H) h Fw.refl⟩
def iH(O:KD X.K X.prog X.w d kvs)(L:∀z t,g z=some t->∃v,aK kvs (Sum.inr z)=some v/\∀H,Rep X.K H v t)(B:CE X a ca)(J:CE X b q)(hs:jN b:=by exact λ_ _=>rfl):CE X (.Subscript a b pos) (nj (YH d g) ca q):=Gf (Oz O) (Yt L) B J hs
end CL
namespace L2
open PySem PySem.Spec PyProof.Rows PySem.W
section
variable{X:Cx}
theorem Vals.Ff:∀{xs}{us},Vals xs us->∀u∈us,∃x∈xs,RelV x u
 |_,_,.nil=>λu q=>by cases q
 |y::xs,u::us,.cons r t=>λL q=>by
  rcases Ah.mp q with rfl|q
  .grind
  .exact oX (Vals.Ff t L q) λx J B=>⟨x,AH _ J,B⟩
noncomputable def isS(z:Str):Value->Bool
 |.str y _=>y==z
 |_=>false
def ZZ:V->List V->Hp->VK->Prop:=λx vs H Q=>∃(l:Addr)(zs:List Str)(z:Str)(j:Nat),x=.ref l/\vs=[.str z]/\H l=some (.lst (zs.map V.str))/\zs[j]?=some z/\(∀m,m<j->zs[m]?≠some z)/\Q (.int j) H
def Ky:MtM X "list.index" ZZ:=by
 intro ww s σ H x vs v us Q I rx rv h;obtain⟨l,zs,z,j,rfl,rfl,Y,hj,ab,af⟩:=h;cases rx;obtain⟨u,rfl,ru⟩:=rv.one;obtain⟨t,rfl⟩:=ru;obtain⟨hz,its,n,r,hl,e⟩:=I.lstM Y;rw[AA] at hz hl;have ai:=(Aa.mp hj).1;have aj:=oU
 have J:∀m(q:m<its.toArray.size)k,zs[m]?=some k->∃t',its.toArray[m]=.str k t':=λm q k hk=>by
  obtain⟨w1,L,ah,U⟩:=r.get (show(zs.map V.str)[m]?=some (V.str k) by rw[Ag,hk];rfl);refine⟨ah,?_⟩;rw[List.getElem_toArray];rw[AJ (by grind)] at L;rw[Av L,U]
 refine BB F.slot_list_index ⟨_,e,rfl⟩ F.entry_list_index (F.args_list_index_2 _ _)
  (SeqAt.list_indexAt l its.toArray n none #[] (.str z t) (isS z) j (by simp_all) ir ?_ ?_) ⟨e,λy hy=>?_,⟨.int j,H,I.tok _,⟨_,rfl⟩,af⟩⟩
 .obtain⟨t',B⟩:=J j (by rw[Aw];lia) z hj
  exact B▸beq_self_eq_true z
 .intro m q aa
  have O:m<zs.length:=by rw[Aw] at q;lia
  obtain⟨t',B⟩:=J m q zs[m] (AJ O);rw[B,Bool.eq_false_iff];intro Z;exact ab m aa (by rw[AJ O,eq_of_beq Z])
 .obtain⟨x',ae,ag⟩:=(Vals.Ff r y (by simp_all))
  obtain⟨k,_,rfl⟩:=AX.mp ae;obtain⟨t',rfl⟩:=ag;exact SeqAt.EqAt.str_str k t' z t
end
end L2
namespace CL
open PySem PySem.Spec L2 PySem.W
open PyProof.Rows hiding St
theorem gG{K}:∀{zs:List Str}{vs},du K H vs (zs.map PV.str)->vs=zs.map V.str
 |[],_,r=>by cases r;rfl
 |b::bs,_,r=>by
  cases r with
  |cons h r=>cases h;rw[gG r];rfl
def DX:PV->List PV->CH->K1->Prop:=λx ts C Q=>∃(a:Addr)(zs:List Str)(z:Str)(j:Nat),x=.ref a/\ts=[.str z]/\C a=some (.lst (zs.map PV.str))/\zs[j]?=some z/\(∀m,m<j->zs[m]?≠some z)/\Q (.int (j:Nat)) C
def Zw{K}:Ej K ZZ DX:=λx px xs ts H C Q R Z U h ⟨a,zs,z,j,B,J,L,h1,h2,q⟩ f=>by
 subst B J;obtain⟨v,rfl,r⟩:=nZ U;obtain⟨vs,O,Y⟩:=(h _ _ L);cases Z;cases r;exact⟨_,zs,z,j,rfl,rfl,by rw[O,gG Y],h1,h2,f _ H _ C q (.int _) h Fw.refl⟩
end CL
namespace L2
open PySem PySem.Spec PyProof.Rows PySem.W
section
variable{X:Cx}
def xg(hu:X.A.units+1<cLine):OpR X (compareOp .Eq) (λx y H Q=>∃a b w u,x=.ref a/\y=.ref b/\H a=some (.lst [.str w])/\H b=some (.lst [.str u])/\Q (.bl (w==u)) H):=by
 intro ww s σ H x y v u Q I rx ry h;obtain⟨a,b,w,z,rfl,rfl,J,L,q⟩:=h;cases rx;cases ry;refine oK (I.list (SqL.of J)) λits w1 p1 _=>oK (I.list (SqL.of L)) λaa w2 p2 _=>?_
 cases w1 with
 |cons Y O =>
 cases O
 cases w2 with
 |cons Z U =>
 cases U;obtain⟨B,rfl⟩:=Y;obtain⟨t2,rfl⟩:=Z
 have R:=SeqAt.RcAt.lists (A:=X.A) (e:=λ_=>w==z) p1.isList p2.isList rfl ir (λj h1 h2=>by
  have:j=0:=by simp_all
  subst this
  exact SeqAt.EqAt.str_str w B z t2)
 have e:(List.range [Value.str w B].toArray.size).all (λ_=>w==z)=(w==z):=by simp
 rw[e] at R;exact R _ _ _ _ ⟨.bl _,H,I,rfl,q⟩
end
end L2
namespace CL
open PySem PySem.Spec L2 PySem.W
open PyProof.Rows hiding St
def Rq:kh:=λx y C Q=>∃(a b:Addr)(w u:Str),x=.ref a/\y=.ref b/\C a=some (.lst [.str w])/\C b=some (.lst [.str u])/\Q (.bl (w==u)) C
def Yv{K}:je K (λx y H Q=>∃a b w u,x=.ref a/\y=.ref b/\H a=some (.lst [.str w])/\H b=some (.lst [.str u])/\Q (.bl (w==u)) H) Rq:=λx y px ab H C Q R rx ry h ⟨a,b,w,u,B,J,L,O,q⟩ f=>by
 subst B J;cases rx;cases ry
 refine oX (h a _ L) λvs U Z=>oX (h b _ O) λws Y aa=>?_;have h1:=gG (zs:=[w]) Z;have h2:=gG (zs:=[u]) aa;subst h1 h2;exact⟨a,b,w,u,rfl,rfl,U,Y,f _ H _ C q (.bl _) h Fw.refl⟩
end CL
namespace CL
open PySem PySem.Spec L2
open PyProof.Rows hiding St
section
variable{X:Cx}{e:Expr}{pos:Pos}
theorem En{K}:∀{l:List Str}{vs},du K H vs (l.map PV.str)->vs=l.map V.str
 |[],_,r=>by cases r;rfl
 |_::_,_,r=>by
  cases r with
  |cons q B=>cases q;rw[En B];rfl
@[irreducible] def Qb:PV->CH->K1->Prop:=λx C Q=>∃a l,x=.ref a/\C a=some (.lst (l.map PV.str))/\l.length<4094/\Q (.int (fR l:Nat)) C
def Ri(q:f9):f9:=λρ C Q=>q ρ C λt C1=>Qb t C1 Q
def tI{p p2 ag}(Y:X.calm=true)(ae:X.mg "len"=none)(af:X.mg "set"=none)(Z:CE X e J)(aa:Gl X "len":=by rfl)(ab:Gl X "set":=by rfl)(hs:noStar e=true:=by rfl):
  CE X (.Call (.Name "len" p) [.Call (.Name "set" p2) [e] [] ag] [] pos) (Ri J):=
 ⟨JE.weak (QW K4 aa ae rfl (iA (oO (K2 Y) ab af rfl (iA Z.h ⟨lU⟩ hs) (hs:=hs)) ⟨lU⟩)) λσ H Q zz=>yZ zz λρ C R s h ah f=>
  ⟨ρ,C,_,s,h,ah,λx H1 px C1 q rx h1 U=>by
   delta Qb at q
   obtain⟨a,l,rfl,L,g,q⟩:=q;obtain⟨vs,O,rv⟩:=(h1 _ _ L);cases rx;have z:=En rv;subst z
   exact⟨a,l,rfl,SqL.of O,g,λd B=>⟨d,fR l,rfl,iQ,f _ _ _ C1 q (.int _) (h1.new B _) (U.trans (Fw.new B _))⟩⟩⟩⟩
def Zh(m:C a=some (.lst (l.map PV.str)))(h:l.length<4094)(q:Q (.int (fR l:Nat)) C):Qb (.ref a) C Q:=by
 delta Qb
 exact⟨a,l,rfl,m,h,q⟩
noncomputable def S5:V->Bool
 |.non=>true
 |_=>false
noncomputable def SX:Value->Bool
 |.none=>true
 |_=>false
abbrev Es(K:DQ):R2:=λx y H Q=>∃a ys,x=.non/\y=.ref a/\H a=some (.lst ys)/\(∀v∈ys,v=.non\/∃b us,v=.ref b/\H b=some (.lst us))/\Q (.bl (ys.any S5)) H
def w6(hu:X.A.units+1<cLine):OpR X (compareOp .In) (Es X.K):=by
 intro ww s σ H x y v u Q I rx ry h;obtain⟨a,ys,rfl,rfl,ha,J,q⟩:=h;cases rx;cases ry;obtain⟨its,U,p1,_⟩:=(I.list (SqL.of ha))
 have Z:∀{ys:List V}{its:List Value},Vals ys its->(∀v∈ys,v=.non\/∃b us,v=.ref b/\H b=some (.lst us))->(∀w∈its,SeqAt.EqAt X.A.in1 s w .none (SX w))/\its.any SX=ys.any S5:=by
  intro ys its U
  induction U with
  |nil=>intro _;exact⟨λw B=>(by cases B),rfl⟩
  |cons Y _ ih =>
   intro J;obtain⟨L,O⟩:=ih λv hv=>J v (AH _ hv)
   rcases J _ AL with rfl|⟨b,us,rfl,hb⟩
   .cases Y
    refine⟨λw B=>?_,by rfl⟩
    rcases Ah.1 B with rfl|B
    .exact SeqAt.EqAt.same _
    .exact L w B
   .cases Y
    refine oK (I.list (SqL.of hb)) λaa w2 p2 _=>⟨λw B=>?_,by rw[ BN,O];rfl⟩
    rcases Ah.1 B with rfl|B
    .exact SeqAt.EqAt.list_none p2.isList hu
    .exact L w B
 obtain⟨L,O⟩:=Z U J;refine SeqAt.in_listAt SX p1.isList (λw B=>L w (by grind)) ⟨.bl _,H,I,rfl,?_⟩;rw[<- O] at q
 simpa using q
@[irreducible] def J5:kh:=λx y C Q=>x=.non/\∃a ts,y=.ref a/\C a=some (.lst ts)/\(∀t∈ts,t=.non\/∃b us,t=.ref b/\C b=some (.lst us))/\Q (.bl (ts.any vG)) C
def Yu{K}:je K (Es K) J5:=λx y px ab H C Q R rx ry h q f=>by
 delta J5 at q
 obtain⟨rfl,a,ts,rfl,Z,J,q⟩:=q;obtain⟨vs,aa,rv⟩:=(h _ _ Z);cases rx;cases ry
 have Y:∀{vs:List V}{ts:List PV},du K H vs ts->(∀t∈ts,t=.non\/∃b us,t=.ref b/\C b=some (.lst us))->(∀v∈vs,v=.non\/∃b us,v=.ref b/\H b=some (.lst us))/\vs.any S5=ts.any vG:=by
  intro vs ts r
  induction ts generalizing vs with
  |nil=>cases r;exact λ_=>⟨λv B=>(by cases B),rfl⟩
  |cons t ts ih =>
   intro J
   cases r with
   |cons U r2 =>
    obtain⟨L,O⟩:=ih r2 λv B=>J v (AH _ B)
    rcases J _ AL with rfl|⟨b,us,rfl,hb⟩
    .cases U
     refine⟨λv B=>?_,by rfl⟩
     rcases Ah.1 B with rfl|B
     .exact .inl rfl
     .exact L v B
    .cases U
     refine oX (h _ _ hb) λws ew _=>⟨λv B=>?_,by rw[ BN,O];rfl⟩
     rcases Ah.1 B with rfl|B
     .grind
     .exact L v B
 obtain⟨L,O⟩:=Y rv J;exact⟨a,vs,rfl,rfl,aa,L,O▸f _ H _ C q (.bl _) h Fw.refl⟩
def Im(m:C a=some (.lst ts))(h:∀t∈ts,t=.non\/∃b us,t=.ref b/\C b=some (.lst us))(q:Q (.bl (ts.any vG)) C):J5 .non (.ref a) C Q:=by simp_all[J5]
end
end CL
namespace K15
open PySem L2
def Zb:0<=sizeLine:=Th
theorem jg:1<=sizeLine:=Th
theorem jf:2<=sizeLine:=Th
def km:3<=sizeLine:=Th
def j4:4<=sizeLine:=Th
def RM:5<=sizeLine:=Th
def Em:6<=sizeLine:=Th
abbrev U0:List Str:=["_law_thing","_law_boxes","_law_turns"]
abbrev U1:List Str:=["_law_thing","_law_boxes","_law_turns","_law_one"]
abbrev U2:List Str:=["_law_tape_here","_law_many"]
abbrev U3:List Str:=["_law_line","_law_boxes","_law_turns"]
abbrev U4:List Str:=["_law_one","_law_thing","_law_boxes","_law_turns","?"]
abbrev U5:List Str:=["_law_tape_here"]
abbrev U6:List Str:=["_law_words_here","_law_rule"]
abbrev U7:List Str:=["_law_tape_here","_law_names_here","_law_k"]
abbrev U8:List Str:=["_law_thing","_law_boxes","_law_turns","?"]
noncomputable def top(i:Nat):Stmt:=PySem.Challenge.pw_viewwood_k15_rows_of_no_house.main.body.getD i (.Pass ⟨0,0,0,0⟩)
noncomputable def tab:List CL.Row:=[
 ⟨none,"is_number","is_number",(top 7),["thing"],["thing"]⟩,
 ⟨none,"is_name","is_name",(top 8),["thing"],["thing"]⟩,
 ⟨none,"is_reckoning","is_reckoning",(top 16),["thing"],["thing","waiting","count","inner"]⟩,
 ⟨none,"inner_things","inner_things",(top 17),["thing"],["thing","word"]⟩,
 ⟨none,"stands_alone","stands_alone",(top 18),["thing"],["thing"]⟩,
 ⟨none,"lines_fit","lines_fit",(top 24),["lines","boxes"],["lines","boxes","waiting","count","place","line","turns"]⟩,
 ⟨none,"inner_lines","inner_lines",(top 25),["line"],["line"]⟩,
 ⟨none,"turns_within","turns_within",(top 26),["line","turns"],["line","turns"]⟩,
 ⟨none,"line_fits","line_fits",(top 27),["line","boxes","turns"],["line","boxes","turns","word"]⟩,
 ⟨none,"key_fits","key_fits",(top 28),["key","boxes","turns"],["key","boxes","turns"]⟩,
 ⟨none,"reckoning_fits","reckoning_fits",(top 29),["thing","boxes","turns"],["thing","boxes","turns","waiting","inner"]⟩,
 ⟨none,"pairs_fit","pairs_fit",(top 30),["thing","boxes","turns"],["thing","boxes","turns"]⟩,
 ⟨none,"begins_with_names","begins_with_names",(top 31),["thing","size"],["thing","size","names","inner"]⟩,
 ⟨none,"hands_fit","hands_fit",(top 32),["thing","boxes","turns"],["thing","boxes","turns"]⟩,
 ⟨none,"hand_fits","hand_fits",(top 33),["hand","boxes","turns"],["hand","boxes","turns"]⟩,
 ⟨none,"change_fits","change_fits",(top 34),["change","boxes","turns"],["change","boxes","turns"]⟩,
 ⟨none,"is_part","is_part",(top 39),["thing"],["thing","boxes"]⟩,
 ⟨none,"boxes_fit","boxes_fit",(top 40),["thing"],["thing"]⟩,
 ⟨none,"is_house","is_house",(top 41),["thing"],["thing"]⟩,
 ⟨none,"names_only","names_only",(top 42),["part","names"],["part","names","waiting","lines","line"]⟩,
 ⟨none,"behind","behind",(top 43),["house","name"],["house","name","names"]⟩,
 ⟨none,"number_shown","number_shown",(top 47),["word"],["word","figures","number"]⟩,
 ⟨none,"joined_items","joined_items",(top 49),["items"],["items","made","item","inner"]⟩,
 ⟨none,"read_house","read_house",(top 54),["rows"],["rows","reader","line","row","house"]⟩,
 ⟨none,"begun_line","begun_line",(top 56),["word","row"],["word","row","name","number"]⟩,
 ⟨none,"closed","closed",(top 57),["thing"],["thing"]⟩,
 ⟨none,"_law_tape","_law_tape",(top 59),["_law_script"],["_law_script"]⟩,
 ⟨none,"_law_draw","_law_draw",(top 60),U2,["_law_tape_here","_law_many","_law_script","_law_digit","_law_cell","_law_mixed"]⟩,
 ⟨none,"_law_names","_law_names",(top 61),U2,["_law_tape_here","_law_many","_law_pool","_law_start","_law_stride"]⟩,
 ⟨none,"_law_small_part","_law_small_part",(top 62),U7,["_law_tape_here","_law_names_here","_law_k","_law_box","_law_boxes","_law_rule","_law_lines","_law_j","_law_way","_law_plain"]⟩,
 ⟨none,"_law_small_house","_law_small_house",(top 63),U5,["_law_tape_here","_law_names_here"]⟩,
 ⟨none,"_law_is_name","_law_is_name",(top 64),["_law_thing"],["_law_thing"]⟩,
 ⟨none,"_law_is_number","_law_is_number",(top 65),["_law_thing"],["_law_thing"]⟩,
 ⟨none,"_law_nodes","_law_nodes",(top 66),["_law_thing"],["_law_thing","_law_todo","_law_found","_law_one","_law_many"]⟩,
 ⟨none,"_law_is_sum","_law_is_sum",(top 67),["_law_thing"],["_law_thing","_law_nodes_here"]⟩,
 ⟨none,"_law_sum_fits","_law_sum_fits",(top 68),U0,U1⟩,
 ⟨none,"_law_pairs_fit","_law_pairs_fit",(top 69),U0,U1⟩,
 ⟨none,"_law_change_fits","_law_change_fits",(top 70),U0,U0⟩,
 ⟨none,"_law_hands_fit","_law_hands_fit",(top 71),U0,U1⟩,
 ⟨none,"_law_line_fits","_law_line_fits",(top 72),U3,U3⟩,
 ⟨none,"_law_lines_fit","_law_lines_fit",(top 73),["_law_lines","_law_boxes"],["_law_lines","_law_boxes","_law_todo","_law_many","_law_goals","_law_some","_law_turns","_law_deep","_law_line","_law_around","_law_inner"]⟩,
 ⟨none,"_law_part_fits","_law_part_fits",(top 74),["_law_thing"],["_law_thing","_law_box","_law_boxes"]⟩,
 ⟨none,"_law_words","_law_words",(top 75),["_law_rule"],["_law_rule","_law_words_here","_law_one"]⟩,
 ⟨none,"_law_row","_law_row",(top 76),U6,U6⟩,
 ⟨none,"_law_line_rows","_law_line_rows",(top 77),["_law_line"],["_law_line","_law_rows_here","_law_event","_law_rank","_law_last","_law_changes"]⟩,
 ⟨none,"_law_rows","_law_rows",(top 78),["_law_lines"],["_law_lines","_law_rows_here","_law_line"]⟩,
 ⟨none,"_law_house_rows","_law_house_rows",(top 79),["_law_house"],["_law_house","_law_rows_here","_law_name","_law_boxes","_law_works","_law_lines"]⟩,
 ⟨none,"_law_kind","_law_kind",(top 80),["_law_thing"],["_law_thing","_law_sorts"]⟩,
 ⟨none,"_law_alike","_law_alike",(top 81),["_law_one","_law_other_here"],["_law_one","_law_other_here","_law_sort","_law_key","_law_twins"]⟩,
 ⟨none,"_law_is_house","_law_is_house",(top 82),["_law_thing"],["_law_thing","_law_goals","_law_names_here","_law_k","_law_lost"]⟩,
 ⟨none,"_law_sum_more","_law_sum_more",(top 83),U5,["_law_tape_here","_law_some","_law_found","_law_k"]⟩,
 ⟨none,"_law_wrapped","_law_wrapped",(top 84),["_law_tape_here","_law_lines"],["_law_tape_here","_law_lines","_law_plain","_law_name","_law_some"]⟩,
 ⟨none,"_law_base","_law_base",(top 85),U5,["_law_tape_here","_law_rule"]⟩,
 ⟨none,"_law_line_more","_law_line_more",(top 86),["_law_tape_here","_law_goal"],["_law_tape_here","_law_goal","_law_rule","_law_pairs","_law_plain","_law_way","_law_hands","_law_line","_law_k"]⟩,
 ⟨none,"_law_other","_law_other",(top 87),["_law_tape_here","_law_house"],["_law_tape_here","_law_house","_law_parts","_law_at","_law_name","_law_boxes","_law_works","_law_lines","_law_names_here","_law_way","_law_goal"]⟩,
 ⟨none,"_law_right","_law_right",(top 88),["_law_house"],["_law_house","_law_rows_here","_law_found","_law_caught","e"]⟩,
 ⟨none,"law","law",(top 89),["_law_script"],["_law_script","_law_tape_here","_law_house","_law_k","_law_other_here"]⟩,
 ⟨some "NoText","__init__","NoText.__init__",(bJ (top 2) 0),["self","line","word"],["self","line","word"]⟩,
 ⟨some "RowReader","__init__","RowReader.__init__",(bJ (top 48) 0),["self","row","line"],["self","row","line"]⟩,
 ⟨some "RowReader","next_word","RowReader.next_word",(bJ (top 48) 1),["self"],["self"]⟩,
 ⟨some "RowReader","refuse","RowReader.refuse",(bJ (top 48) 2),["self"],["self"]⟩,
 ⟨some "RowReader","finish","RowReader.finish",(bJ (top 48) 3),["self"],["self"]⟩,
 ⟨some "RowReader","one_of","RowReader.one_of",(bJ (top 48) 4),["self","words"],["self","words","word"]⟩,
 ⟨some "RowReader","name","RowReader.name",(bJ (top 48) 5),["self"],["self","word"]⟩,
 ⟨some "RowReader","number","RowReader.number",(bJ (top 48) 6),["self"],["self","number"]⟩,
 ⟨some "RowReader","key","RowReader.key",(bJ (top 48) 7),["self"],["self"]⟩,
 ⟨some "RowReader","reckoning","RowReader.reckoning",(bJ (top 48) 8),["self"],["self","items","lacking","item"]⟩,
 ⟨some "RowReader","item","RowReader.item",(bJ (top 48) 9),["self"],["self","word","number"]⟩,
 ⟨some "HouseReader","__init__","HouseReader.__init__",(bJ (top 55) 0),["self"],["self"]⟩,
 ⟨some "HouseReader","house","HouseReader.house",(bJ (top 55) 1),["self"],["self"]⟩,
 ⟨some "HouseReader","read","HouseReader.read",(bJ (top 55) 2),["self","row"],["self","row","word"]⟩,
 ⟨some "HouseReader","may_stand","HouseReader.may_stand",(bJ (top 55) 3),["self","word"],["self","word","waits"]⟩,
 ⟨some "HouseReader","begin_part","HouseReader.begin_part",(bJ (top 55) 4),["self","row"],["self","row","name"]⟩,
 ⟨some "HouseReader","begin","HouseReader.begin",(bJ (top 55) 5),["self","word","row"],["self","word","row","line"]⟩,
 ⟨some "HouseReader","end_line","HouseReader.end_line",(bJ (top 55) 6),["self"],["self","line"]⟩,
 ⟨some "HouseReader","fill","HouseReader.fill",(bJ (top 55) 7),["self","word","row"],["self","word","row","name","inmost","rank","changing"]⟩]
set_option genInjectivity false in
structure Adr where
 f:Nat->Addr
 d:Nat->FuncData
 t_BOUND:Tok
 Kf:Tok
 bN:Tok
 NAMING:Addr
 JOINING:Addr
 LINE_SIZES:Addr
 INNER_PLACES:Addr
 qG:Addr
 iY:Addr
 aY:Addr
 eY:Addr
 tY:Addr
 CHANGING:Addr
 aF:Tok
 oE:Tok
 Qs:Tok
 cS:Tok
 Qt:Tok
 tE:Tok
 nE:Tok
 sE:Tok
 Kg:Tok
 gN:Tok
 RANKS:Addr
 RIGHT_BEHIND:Addr
 uW:Addr
 yW:Addr
 wW:Addr
 vW:Addr
 kW:Addr
 jW:Addr
 BEGINNING:Addr
 ViewError:Addr
 NoText:Addr
 RowReader:Addr
 HouseReader:Addr
structure Txt(P:Program)(w:World)(K:DQ)(mg:Str->Option Value)(a:Adr):Prop where
 F:∀(i:Nat){k:Option Str}{nm q:Str}{st:Stmt}{ps N:List Str},tab[i]?=some ⟨k,nm,q,st,ps,N⟩->CL.FI K mg k nm q st ps N (a.f i) (a.d i)
 Yf:mg "BOUND"=some (.int 1000000000 a.t_BOUND)
 Yc:mg "LETTERS"=some (.str "abcdefghijklmnopqrstuvwxyz" a.Kf)
 tS:mg "LONGEST_NAME"=some (.int 8 a.bN)
 Jo:mg "NAMING"=some (.ref a.NAMING)
 Z2:∀H:Hp,SqT K H a.NAMING [.str "take",.str "box",.str "down",.str "turn"]
 bU:mg "JOINING"=some (.ref a.JOINING)
 mU:KD K P w a.JOINING [(Sum.inr "add",.int 2),(Sum.inr "times",.int 2),(Sum.inr "less",.int 2),(Sum.inr "pick",.int 3)]
 Q9:mg "LINE_SIZES"=some (.ref a.LINE_SIZES)
 Xg:KD K P w a.LINE_SIZES [(Sum.inr "plain",.int 6),(Sum.inr "part",.int 4),(Sum.inr "give",.int 5),(Sum.inr "when",.int 4),(Sum.inr "each",.int 4)]
 eS:mg "INNER_PLACES"=some (.ref a.INNER_PLACES)
 aS:KD K P w a.INNER_PLACES [(Sum.inr "plain",.ref a.qG),(Sum.inr "part",.ref a.iY),(Sum.inr "give",.ref a.aY),(Sum.inr "when",.ref a.eY),(Sum.inr "each",.ref a.tY)]
 vH:∀H:Hp,SqT K H a.qG [.int 5]
 kH:∀H:Hp,SqT K H a.iY []
 xH:∀H:Hp,SqT K H a.aY [.int 4]
 jH:∀H:Hp,SqT K H a.eY [.int 2,.int 3]
 zH:∀H:Hp,SqT K H a.tY [.int 3]
 jE:mg "CHANGING"=some (.ref a.CHANGING)
 fO:∀H:Hp,SqT K H a.CHANGING [.str "set",.str "add",.str "times"]
 fL:mg "MOST_RECKONINGS"=some (.int 20 a.aF)
 Q7:mg "MOST_LINES"=some (.int 30 a.oE)
 Zm:mg "MOST_DEEP"=some (.int 6 a.Qs)
 wI:mg "MOST_EACHES"=some (.int 2 a.cS)
 Zo:mg "LAST_RANK"=some (.int 3 a.Qt)
 Q8:mg "MOST_BOXES"=some (.int 4 a.tE)
 Q5:mg "MOST_WORKS"=some (.int 4 a.nE)
 Q6:mg "MOST_PARTS"=some (.int 6 a.sE)
 Yd:mg "FIGURES"=some (.str "0123456789" a.Kg)
 sS:mg "MOST_FIGURES"=some (.int 10 a.gN)
 gRANKS:mg "RANKS"=some (.ref a.RANKS)
 qRANKS:∀H:Hp,SqT K H a.RANKS [.str "1",.str "2",.str "3"]
 eG:mg "RIGHT_BEHIND"=some (.ref a.RIGHT_BEHIND)
 iG:KD K P w a.RIGHT_BEHIND [(Sum.inr "box",.ref a.uW),(Sum.inr "work",.ref a.yW),(Sum.inr "set",.ref a.wW),(Sum.inr "hand",.ref a.vW),(Sum.inr "change",.ref a.kW),(Sum.inr "with",.ref a.jW)]
 qH:∀H:Hp,SqT K H a.uW [.str "part",.str "box"]
 iP:∀H:Hp,SqT K H a.yW [.str "part",.str "box",.str "work"]
 aP:∀H:Hp,SqT K H a.wW [.str "plain",.str "set"]
 eP:∀H:Hp,SqT K H a.vW [.str "plain",.str "set",.str "hand",.str "change"]
 tP:∀H:Hp,SqT K H a.kW [.str "hand",.str "change"]
 oP:∀H:Hp,SqT K H a.jW [.str "draw",.str "with"]
 kR:mg "BEGINNING"=some (.ref a.BEGINNING)
 iN:∀H:Hp,SqT K H a.BEGINNING [.str "plain",.str "draw",.str "give",.str "when",.str "each"]
 z_ValueError:mg "ValueError"=none
 z_abs:mg "abs"=none
 vP:mg "all"=none
 wN:mg "bool"=none
 Qk:mg "enumerate"=none
 bT:mg "int"=none
 lQ:mg "isinstance"=none
 tX:mg "len"=none
 vN:mg "list"=none
 z_max:mg "max"=none
 dW:mg "range"=none
 XQ:mg "reversed"=none
 Vl:mg "set"=none
 mB:mg "str"=none
 xZ:mg "tuple"=none
 QP:mg "ViewError"=some (.ref a.ViewError)
 x_ViewError:PySem.W.Mf K a.ViewError
 xc_ViewError:RG K a.ViewError
 xt_ViewError:∃oc od cd sl,K.lookup a.ViewError=some ⟨oc,od,.cls cd,sl⟩/\oc=.type "type"
 lE:UV K a.ViewError
 QQ:mg "NoText"=some (.ref a.NoText)
 Vs:PySem.W.Mf K a.NoText
 mT:RG K a.NoText
 Kb:∃oc od cd sl,K.lookup a.NoText=some ⟨oc,od,.cls cd,sl⟩/\oc=.type "type"
 Kc:R7 K a.NoText (a.f 57)
 pB:Vg K a.NoText "line"
 fB:Vg K a.NoText "word"
 bX:mg "RowReader"=some (.ref a.RowReader)
 rQ:Cls K a.RowReader
 sA:Mk K a.RowReader (a.f 58)
 iL:NoAttr K a.RowReader "line"
 hZ:NoAttr K a.RowReader "taken"
 aJ:NoAttr K a.RowReader "words"
 mJ:mg "HouseReader"=some (.ref a.HouseReader)
 tQ:Cls K a.HouseReader
 rC:Mk K a.HouseReader (a.f 68)
 vV:NoAttr K a.HouseReader "ahead"
 qX:NoAttr K a.HouseReader "around"
 xV:NoAttr K a.HouseReader "parts"
 uD:PySem.W.exmOne K (.ref a.NoText) (.ref a.NoText)=some true
def GJ:CL.uh CL.RB tab:=by
 unfold tab
 repeat refine⟨⟨⟨rfl,rfl,rfl,gf,rfl,gf,gf⟩,λ_ _ _ _ _ _=>by first | (refine CL.args1 ?_;exact λ_=>rfl) | (refine CL.args2 ?_;exact λ_ _=>rfl) | (refine CL.Rz ?_;exact λ_ _ _=>rfl)⟩,?_⟩
 exact trivial
def txt_mk{P:Program}{w:World}{K:DQ}{h:Heap}{mg:Str->Option Value}(X:K.In h)(G:h.Ns mainGlobals mg){ga3 ga4 ga5 ga6 r6_0 r6_1 r6_2 r6_3 r6_4 ga7 ga18 ga19 r19_0 r19_1 r19_2 r19_3 r19_4 r19_5 ga20 cc0 cc1 cc2 cc3:Addr}{t0 t1 t2 t3_0 t3_1 t3_2 t3_3 k4_0 k4_1 k4_2 k4_3 v4_0 v4_1 v4_2 v4_3 k5_0 k5_1 k5_2 k5_3 k5_4 v5_0 v5_1 v5_2 v5_3 v5_4 k6_0 k6_1 k6_2 k6_3 k6_4 t6_0_0 t6_2_0 t6_3_0 t6_3_1 t6_4_0 t7_0 t7_1 t7_2 t8 t9 t10 t11 t12 t13 t14 t15 t16 t17 t18_0 t18_1 t18_2 k19_0 k19_1 k19_2 k19_3 k19_4 k19_5 t19_0_0 t19_0_1 t19_1_0 t19_1_1 t19_1_2 t19_2_0 t19_2_1 t19_3_0 t19_3_1 t19_3_2 t19_3_3 t19_4_0 t19_4_1 t19_5_0 t19_5_1 t20_0 t20_1 t20_2 t20_3 t20_4:Tok}{gn3 gn4 gn5 gn6 m6_0 m6_1 m6_2 m6_3 m6_4 gn7 gn18 gn19 m19_0 m19_1 m19_2 m19_3 m19_4 m19_5 gn20:Nat}{xo0:Option Addr}{xd0:ClassData}{xl0:Array (Option Value)}{xr0:List Value}{xo1:Option Addr}{xd1:ClassData}{xl1:Array (Option Value)}{xr1:List Value}(hf:CL.uh (CL.FH K) tab)(gl0:PySem.W.nsIn K mainGlobals "BOUND"=some (some (.int 1000000000 t0)))(gl1:PySem.W.nsIn K mainGlobals "LETTERS"=some (some (.str "abcdefghijklmnopqrstuvwxyz" t1)))(gl2:PySem.W.nsIn K mainGlobals "LONGEST_NAME"=some (some (.int 8 t2)))(gl3:PySem.W.nsIn K mainGlobals "NAMING"=some (some (.ref ga3)))(ql3:K.lookup ga3=some { cls:=.type "tuple",data:=.seq #[.str "take" t3_0,.str "box" t3_1,.str "down" t3_2,.str "turn" t3_3] gn3 })(gl4:PySem.W.nsIn K mainGlobals "JOINING"=some (some (.ref ga4)))(ql4:K.lookup ga4=some { cls:=.type "dict",data:=.dict #[{ hash:=PyData.keyHash w.params "add",key:=.str "add" k4_0,val:=.int 2 v4_0 },{ hash:=PyData.keyHash w.params "times",key:=.str "times" k4_1,val:=.int 2 v4_1 },{ hash:=PyData.keyHash w.params "less",key:=.str "less" k4_2,val:=.int 2 v4_2 },{ hash:=PyData.keyHash w.params "pick",key:=.str "pick" k4_3,val:=.int 3 v4_3 }] gn4 })(sm4:(ga4==sysModules)=false)(gl5:PySem.W.nsIn K mainGlobals "LINE_SIZES"=some (some (.ref ga5)))(ql5:K.lookup ga5=some { cls:=.type "dict",data:=.dict #[{ hash:=PyData.keyHash w.params "plain",key:=.str "plain" k5_0,val:=.int 6 v5_0 },{ hash:=PyData.keyHash w.params "part",key:=.str "part" k5_1,val:=.int 4 v5_1 },{ hash:=PyData.keyHash w.params "give",key:=.str "give" k5_2,val:=.int 5 v5_2 },{ hash:=PyData.keyHash w.params "when",key:=.str "when" k5_3,val:=.int 4 v5_3 },{ hash:=PyData.keyHash w.params "each",key:=.str "each" k5_4,val:=.int 4 v5_4 }] gn5 })(sm5:(ga5==sysModules)=false)(gl6:PySem.W.nsIn K mainGlobals "INNER_PLACES"=some (some (.ref ga6)))(ql6:K.lookup ga6=some { cls:=.type "dict",data:=.dict #[{ hash:=PyData.keyHash w.params "plain",key:=.str "plain" k6_0,val:=.ref r6_0 },{ hash:=PyData.keyHash w.params "part",key:=.str "part" k6_1,val:=.ref r6_1 },{ hash:=PyData.keyHash w.params "give",key:=.str "give" k6_2,val:=.ref r6_2 },{ hash:=PyData.keyHash w.params "when",key:=.str "when" k6_3,val:=.ref r6_3 },{ hash:=PyData.keyHash w.params "each",key:=.str "each" k6_4,val:=.ref r6_4 }] gn6 })(sm6:(ga6==sysModules)=false)(pl6_0:K.lookup r6_0=some { cls:=.type "tuple",data:=.seq #[.int 5 t6_0_0] m6_0 })(pl6_1:K.lookup r6_1=some { cls:=.type "tuple",data:=.seq #[] m6_1 })(pl6_2:K.lookup r6_2=some { cls:=.type "tuple",data:=.seq #[.int 4 t6_2_0] m6_2 })(pl6_3:K.lookup r6_3=some { cls:=.type "tuple",data:=.seq #[.int 2 t6_3_0,.int 3 t6_3_1] m6_3 })(pl6_4:K.lookup r6_4=some { cls:=.type "tuple",data:=.seq #[.int 3 t6_4_0] m6_4 })(gl7:PySem.W.nsIn K mainGlobals "CHANGING"=some (some (.ref ga7)))(ql7:K.lookup ga7=some { cls:=.type "tuple",data:=.seq #[.str "set" t7_0,.str "add" t7_1,.str "times" t7_2] gn7 })(gl8:PySem.W.nsIn K mainGlobals "MOST_RECKONINGS"=some (some (.int 20 t8)))(gl9:PySem.W.nsIn K mainGlobals "MOST_LINES"=some (some (.int 30 t9)))(gl10:PySem.W.nsIn K mainGlobals "MOST_DEEP"=some (some (.int 6 t10)))(gl11:PySem.W.nsIn K mainGlobals "MOST_EACHES"=some (some (.int 2 t11)))(gl12:PySem.W.nsIn K mainGlobals "LAST_RANK"=some (some (.int 3 t12)))(gl13:PySem.W.nsIn K mainGlobals "MOST_BOXES"=some (some (.int 4 t13)))(gl14:PySem.W.nsIn K mainGlobals "MOST_WORKS"=some (some (.int 4 t14)))(gl15:PySem.W.nsIn K mainGlobals "MOST_PARTS"=some (some (.int 6 t15)))(gl16:PySem.W.nsIn K mainGlobals "FIGURES"=some (some (.str "0123456789" t16)))(gl17:PySem.W.nsIn K mainGlobals "MOST_FIGURES"=some (some (.int 10 t17)))(gl18:PySem.W.nsIn K mainGlobals "RANKS"=some (some (.ref ga18)))(ql18:K.lookup ga18=some { cls:=.type "tuple",data:=.seq #[.str "1" t18_0,.str "2" t18_1,.str "3" t18_2] gn18 })(gl19:PySem.W.nsIn K mainGlobals "RIGHT_BEHIND"=some (some (.ref ga19)))(ql19:K.lookup ga19=some { cls:=.type "dict",data:=.dict #[{ hash:=PyData.keyHash w.params "box",key:=.str "box" k19_0,val:=.ref r19_0 },{ hash:=PyData.keyHash w.params "work",key:=.str "work" k19_1,val:=.ref r19_1 },{ hash:=PyData.keyHash w.params "set",key:=.str "set" k19_2,val:=.ref r19_2 },{ hash:=PyData.keyHash w.params "hand",key:=.str "hand" k19_3,val:=.ref r19_3 },{ hash:=PyData.keyHash w.params "change",key:=.str "change" k19_4,val:=.ref r19_4 },{ hash:=PyData.keyHash w.params "with",key:=.str "with" k19_5,val:=.ref r19_5 }] gn19 })(sm19:(ga19==sysModules)=false)(pl19_0:K.lookup r19_0=some { cls:=.type "tuple",data:=.seq #[.str "part" t19_0_0,.str "box" t19_0_1] m19_0 })(pl19_1:K.lookup r19_1=some { cls:=.type "tuple",data:=.seq #[.str "part" t19_1_0,.str "box" t19_1_1,.str "work" t19_1_2] m19_1 })(pl19_2:K.lookup r19_2=some { cls:=.type "tuple",data:=.seq #[.str "plain" t19_2_0,.str "set" t19_2_1] m19_2 })(pl19_3:K.lookup r19_3=some { cls:=.type "tuple",data:=.seq #[.str "plain" t19_3_0,.str "set" t19_3_1,.str "hand" t19_3_2,.str "change" t19_3_3] m19_3 })(pl19_4:K.lookup r19_4=some { cls:=.type "tuple",data:=.seq #[.str "hand" t19_4_0,.str "change" t19_4_1] m19_4 })(pl19_5:K.lookup r19_5=some { cls:=.type "tuple",data:=.seq #[.str "draw" t19_5_0,.str "with" t19_5_1] m19_5 })(gl20:PySem.W.nsIn K mainGlobals "BEGINNING"=some (some (.ref ga20)))(ql20:K.lookup ga20=some { cls:=.type "tuple",data:=.seq #[.str "plain" t20_0,.str "draw" t20_1,.str "give" t20_2,.str "when" t20_3,.str "each" t20_4] gn20 })(z0:PySem.W.nsIn K mainGlobals "ValueError"=some none)(z1:PySem.W.nsIn K mainGlobals "abs"=some none)(z2:PySem.W.nsIn K mainGlobals "all"=some none)(z3:PySem.W.nsIn K mainGlobals "bool"=some none)(z4:PySem.W.nsIn K mainGlobals "enumerate"=some none)(z5:PySem.W.nsIn K mainGlobals "int"=some none)(z6:PySem.W.nsIn K mainGlobals "isinstance"=some none)(z7:PySem.W.nsIn K mainGlobals "len"=some none)(z8:PySem.W.nsIn K mainGlobals "list"=some none)(z9:PySem.W.nsIn K mainGlobals "max"=some none)(z10:PySem.W.nsIn K mainGlobals "range"=some none)(z11:PySem.W.nsIn K mainGlobals "reversed"=some none)(z12:PySem.W.nsIn K mainGlobals "set"=some none)(z13:PySem.W.nsIn K mainGlobals "str"=some none)(z14:PySem.W.nsIn K mainGlobals "tuple"=some none)(ca0:PySem.W.nsIn K mainGlobals "ViewError"=some (some (.ref cc0)))(xa0:K.lookup cc0=some ⟨.type "type",xo0,.cls xd0,xl0⟩)(xb0:xd0.abstract=false)(xe0:xd0.hasDel=false)(xf0:(xl0.toList[4]?).join=some (.builtin "ValueError.__new__"))(xg0:xd0.mro=.ref cc0::xr0)(xh0:PySem.W.specialIn K (.ref cc0) "__call__"=some (some (.builtin "type.__call__")))(xi0:PySem.W.instIn K (.ref cc0) (.type "type")=some true)(xj0:PySem.W.mroIn K cc0 (.ref cc0)=some true)(xk0_0:PySem.W.mroIn K cc0 (.type "ValueError")=some true)(xk0_1:PySem.W.mroIn K cc0 (.type "BaseException")=some true)(xk0_2:PySem.W.mroIn K cc0 (.type "AttributeError")=some false)(xk0_3:PySem.W.mroIn K cc0 (.type "NameError")=some false)(xk0_4:PySem.W.mroIn K cc0 (.type "object")=some true)(xm0:PySem.W.findIn K (.ref cc0) "__getattribute__"=some (some (.builtin "BaseException.__getattribute__")))(xn0:PySem.W.findIn K (.ref cc0) "__getattr__"=some none)(xp0:PySem.W.hasDictIn K cc0=true)(xq0:PySem.W.findIn K (.ref cc0) "__class__"=some (some (.builtin "object.__class__")))(xs0:PySem.W.specialIn K (.builtin "object.__class__") "__get__"=some (some (.builtin "getset_descriptor.__get__")))(xt0:PySem.W.takesIn K (.builtin "object.__class__")=some true)(xu0:PySem.W.specialIn K (.ref cc0) "__getattribute__"=some (some (.builtin "type.__getattribute__")))(xv0:PySem.W.readsIn K cc0 (.type "type")=true)(xw0:PySem.W.findCls K (.ref cc0) (.type "type") "__init__"=some (.val (.builtin "ValueError.__init__")))(c7:PySem.W.nsIn K mainGlobals "NoText"=some (some (.ref cc1)))(xa1:K.lookup cc1=some ⟨.type "type",xo1,.cls xd1,xl1⟩)(xb1:xd1.abstract=false)(xe1:xd1.hasDel=false)(xf1:(xl1.toList[4]?).join=some (.builtin "ValueError.__new__"))(xg1:xd1.mro=.ref cc1::xr1)(xh1:PySem.W.specialIn K (.ref cc1) "__call__"=some (some (.builtin "type.__call__")))(xi1:PySem.W.instIn K (.ref cc1) (.type "type")=some true)(xj1:PySem.W.mroIn K cc1 (.ref cc1)=some true)(xk1_0:PySem.W.mroIn K cc1 (.type "ValueError")=some true)(xk1_1:PySem.W.mroIn K cc1 (.type "BaseException")=some true)(xk1_2:PySem.W.mroIn K cc1 (.type "AttributeError")=some false)(xk1_3:PySem.W.mroIn K cc1 (.type "NameError")=some false)(xk1_4:PySem.W.mroIn K cc1 (.type "object")=some true)(xm1:PySem.W.findIn K (.ref cc1) "__getattribute__"=some (some (.builtin "BaseException.__getattribute__")))(xn1:PySem.W.findIn K (.ref cc1) "__getattr__"=some none)(xp1:PySem.W.hasDictIn K cc1=true)(xq1:PySem.W.findIn K (.ref cc1) "__class__"=some (some (.builtin "object.__class__")))(xs1:PySem.W.specialIn K (.builtin "object.__class__") "__get__"=some (some (.builtin "getset_descriptor.__get__")))(xt1:PySem.W.takesIn K (.builtin "object.__class__")=some true)(ch1:PySem.W.keepIn K (.ref cc1)=true)(xx1:PySem.W.clsIn K cc1=some xd1)(xy1:PySem.W.ou xd1.mro=true)(xz1:xd1.hasDict=true)(cf1:PySem.W.findIn K (.ref cc1) "__setattr__"=some (some (.builtin "object.__setattr__")))(n1_line:PySem.W.findIn K (.ref cc1) "line"=some none)(n1_word:PySem.W.findIn K (.ref cc1) "word"=some none)(ca2:PySem.W.nsIn K mainGlobals "RowReader"=some (some (.ref cc2)))(cb2:PySem.W.plainGet K cc2 Str.empty=true)(cd_2:PySem.W.hasDictIn K cc2=true)(ce2:PySem.W.plainOver K cc2=true)(cf2:PySem.W.findIn K (.ref cc2) "__setattr__"=some (some (.builtin "object.__setattr__")))(cg2:PySem.W.makesIn K cc2=true)(ch2:PySem.W.keepIn K (.ref cc2)=true)(n2_line:PySem.W.findIn K (.ref cc2) "line"=some none)(n2_taken:PySem.W.findIn K (.ref cc2) "taken"=some none)(n2_words:PySem.W.findIn K (.ref cc2) "words"=some none)(ca3:PySem.W.nsIn K mainGlobals "HouseReader"=some (some (.ref cc3)))(cb3:PySem.W.plainGet K cc3 Str.empty=true)(cd_3:PySem.W.hasDictIn K cc3=true)(ce3:PySem.W.plainOver K cc3=true)(cf3:PySem.W.findIn K (.ref cc3) "__setattr__"=some (some (.builtin "object.__setattr__")))(cg3:PySem.W.makesIn K cc3=true)(ch3:PySem.W.keepIn K (.ref cc3)=true)(n3_ahead:PySem.W.findIn K (.ref cc3) "ahead"=some none)(n3_around:PySem.W.findIn K (.ref cc3) "around"=some none)(n3_parts:PySem.W.findIn K (.ref cc3) "parts"=some none)(kn0_0:(Value.ref cc1==(.ref cc1:Value))=true)(ks0_0:PySem.W.subIn K (.ref cc1) (.ref cc1)=some true)(kc0_0:(PySem.W.clsIn K cc1).isSome=true)(kt0_0:PySem.W.typeIn K (.ref cc1)=some (.type "type"))(kb0:PySem.W.subIn K (.ref cc1) (.type "BaseException")=some true):∃a:Adr,Txt P w K mg a:=by
 obtain⟨f,d,F⟩:=CL.uc X G hf GJ
 exact⟨⟨f,d,t0,t1,t2,ga3,ga4,ga5,ga6,r6_0,r6_1,r6_2,r6_3,r6_4,ga7,t8,t9,t10,t11,t12,t13,t14,t15,t16,t17,ga18,ga19,r19_0,r19_1,r19_2,r19_3,r19_4,r19_5,ga20,cc0,cc1,cc2,cc3⟩,F,
  Ac X G gl0,
  Ac X G gl1,
  Ac X G gl2,
  Ac X G gl3,
  λ_=>.inr ⟨_,_,_,ql3,rfl,rfl,j4,(.cons ⟨_,rfl⟩ (.cons ⟨_,rfl⟩ (.cons ⟨_,rfl⟩ (.cons ⟨_,rfl⟩ .nil))))⟩,
  Ac X G gl4,
  Ft (l:=[("add",k4_0,2,v4_0),("times",k4_1,2,v4_1),("less",k4_2,2,v4_2),("pick",k4_3,3,v4_3)]) ql4 (by show(["add","times","less","pick"]:List Str).Nodup;decide +kernel) sm4 (λ_=>rfl),
  Ac X G gl5,
  Ft (l:=[("plain",k5_0,6,v5_0),("part",k5_1,4,v5_1),("give",k5_2,5,v5_2),("when",k5_3,4,v5_3),("each",k5_4,4,v5_4)]) ql5 (by show(["plain","part","give","when","each"]:List Str).Nodup;decide +kernel) sm5 (λ_=>rfl),
  Ac X G gl6,
  WT (l:=[("plain",k6_0,.ref r6_0,.ref r6_0),("part",k6_1,.ref r6_1,.ref r6_1),("give",k6_2,.ref r6_2,.ref r6_2),("when",k6_3,.ref r6_3,.ref r6_3),("each",k6_4,.ref r6_4,.ref r6_4)]) ql6 (by show(["plain","part","give","when","each"]:List Str).Nodup;decide +kernel) sm6 (λ_=>rfl) (.cons rfl (.cons rfl (.cons rfl (.cons rfl (.cons rfl (.nil)))))),
  λ_=>.inr ⟨_,_,_,pl6_0,rfl,rfl,jg,(.cons ⟨_,rfl⟩ .nil)⟩,
  λ_=>.inr ⟨_,_,_,pl6_1,rfl,rfl,Zb,.nil⟩,
  λ_=>.inr ⟨_,_,_,pl6_2,rfl,rfl,jg,(.cons ⟨_,rfl⟩ .nil)⟩,
  λ_=>.inr ⟨_,_,_,pl6_3,rfl,rfl,jf,(.cons ⟨_,rfl⟩ (.cons ⟨_,rfl⟩ .nil))⟩,
  λ_=>.inr ⟨_,_,_,pl6_4,rfl,rfl,jg,(.cons ⟨_,rfl⟩ .nil)⟩,
  Ac X G gl7,
  λ_=>.inr ⟨_,_,_,ql7,rfl,rfl,km,(.cons ⟨_,rfl⟩ (.cons ⟨_,rfl⟩ (.cons ⟨_,rfl⟩ .nil)))⟩,
  Ac X G gl8,
  Ac X G gl9,
  Ac X G gl10,
  Ac X G gl11,
  Ac X G gl12,
  Ac X G gl13,
  Ac X G gl14,
  Ac X G gl15,
  Ac X G gl16,
  Ac X G gl17,
  Ac X G gl18,
  λ_=>.inr ⟨_,_,_,ql18,rfl,rfl,km,(.cons ⟨_,rfl⟩ (.cons ⟨_,rfl⟩ (.cons ⟨_,rfl⟩ .nil)))⟩,
  Ac X G gl19,
  WT (l:=[("box",k19_0,.ref r19_0,.ref r19_0),("work",k19_1,.ref r19_1,.ref r19_1),("set",k19_2,.ref r19_2,.ref r19_2),("hand",k19_3,.ref r19_3,.ref r19_3),("change",k19_4,.ref r19_4,.ref r19_4),("with",k19_5,.ref r19_5,.ref r19_5)]) ql19 (by show(["box","work","set","hand","change","with"]:List Str).Nodup;decide +kernel) sm19 (λ_=>rfl) (.cons rfl (.cons rfl (.cons rfl (.cons rfl (.cons rfl (.cons rfl (.nil))))))),
  λ_=>.inr ⟨_,_,_,pl19_0,rfl,rfl,jf,(.cons ⟨_,rfl⟩ (.cons ⟨_,rfl⟩ .nil))⟩,
  λ_=>.inr ⟨_,_,_,pl19_1,rfl,rfl,km,(.cons ⟨_,rfl⟩ (.cons ⟨_,rfl⟩ (.cons ⟨_,rfl⟩ .nil)))⟩,
  λ_=>.inr ⟨_,_,_,pl19_2,rfl,rfl,jf,(.cons ⟨_,rfl⟩ (.cons ⟨_,rfl⟩ .nil))⟩,
  λ_=>.inr ⟨_,_,_,pl19_3,rfl,rfl,j4,(.cons ⟨_,rfl⟩ (.cons ⟨_,rfl⟩ (.cons ⟨_,rfl⟩ (.cons ⟨_,rfl⟩ .nil))))⟩,
  λ_=>.inr ⟨_,_,_,pl19_4,rfl,rfl,jf,(.cons ⟨_,rfl⟩ (.cons ⟨_,rfl⟩ .nil))⟩,
  λ_=>.inr ⟨_,_,_,pl19_5,rfl,rfl,jf,(.cons ⟨_,rfl⟩ (.cons ⟨_,rfl⟩ .nil))⟩,
  Ac X G gl20,
  λ_=>.inr ⟨_,_,_,ql20,rfl,rfl,RM,(.cons ⟨_,rfl⟩ (.cons ⟨_,rfl⟩ (.cons ⟨_,rfl⟩ (.cons ⟨_,rfl⟩ (.cons ⟨_,rfl⟩ .nil)))))⟩,
  As X G z0,
  As X G z1,
  As X G z2,
  As X G z3,
  As X G z4,
  As X G z5,
  As X G z6,
  As X G z7,
  As X G z8,
  As X G z9,
  As X G z10,
  As X G z11,
  As X G z12,
  As X G z13,
  As X G z14,
  Ac X G ca0,
  ⟨⟨_,_,_,_,_,xa0,xb0,xe0,xf0,xg0⟩,xh0,xi0,xj0,xk0_0,xk0_1,xk0_2,xk0_3⟩,
  ⟨⟨xm0,xn0,xk0_1,xp0⟩,xq0,xs0,xt0,xk0_4⟩,
  ⟨_,_,_,_,xa0,rfl⟩,
  ⟨xu0,xv0,xw0⟩,
  Ac X G c7,
  ⟨⟨_,_,_,_,_,xa1,xb1,xe1,xf1,xg1⟩,xh1,xi1,xj1,xk1_0,xk1_1,xk1_2,xk1_3⟩,
  ⟨⟨xm1,xn1,xk1_1,xp1⟩,xq1,xs1,xt1,xk1_4⟩,
  ⟨_,_,_,_,xa1,rfl⟩,
  ⟨⟨⟨_,_,_,_,_,xa1,xb1,xe1,xf1,xg1⟩,xh1,xi1,xj1,xk1_0,xk1_1,xk1_2,xk1_3⟩,((F 57 rfl).M _ _ rfl (Ac X G c7)).1,((F 57 rfl).M _ _ rfl (Ac X G c7)).2,ch1⟩,
  ⟨⟨_,xx1,xy1,xz1⟩,cf1,xk1_4,n1_line⟩,
  ⟨⟨_,xx1,xy1,xz1⟩,cf1,xk1_4,n1_word⟩,
  Ac X G ca2,
  ⟨cb2,cd_2,ce2,cf2⟩,
  ⟨cg2,((F 58 rfl).M _ _ rfl (Ac X G ca2)).1,((F 58 rfl).M _ _ rfl (Ac X G ca2)).2,ch2⟩,
  n2_line,
  n2_taken,
  n2_words,
  Ac X G ca3,
  ⟨cb3,cd_3,ce3,cf3⟩,
  ⟨cg3,((F 68 rfl).M _ _ rfl (Ac X G ca3)).1,((F 68 rfl).M _ _ rfl (Ac X G ca3)).2,ch3⟩,
  n3_ahead,
  n3_around,
  n3_parts,
  PJ kb0 (HR kc0_0 kt0_0 ks0_0)⟩
structure Wd where
 P:Program
 w:World
 K:DQ
 mg:Str->Option Value
 base:Heap
abbrev Tx(W:Wd)(a:Adr):Prop:=Txt W.P W.w W.K W.mg a
abbrev Ok(W:Wd)(a:Adr)(r i:Nat)(ps:List Str)(G:CL.GC):Prop:=FnOk W.P W.w W.K W.mg W.base CX0 r (a.f i) (a.d i) ps (CL.qm W.K G)
end K15
namespace K15
open PySem L2 CL
section
variable{W:Wd}{a:Adr}
structure Tp(C:CH)(t:Addr)(ns:List Int):Prop where
 at_:∃a b c:Int,C t=some (.lst [.fz (ns.map PV.int),.int a,.int b,.int c])/\0<=a/\0<=b/\0<=c
 len:ns.length<=63
def Ex(t:Addr)(C C':CH):Prop:=∀b o,b≠t->C b=some o->C' b=some o
def Ex.refl:Ex t C C:=λ_ _ _ h=>h
theorem Ex.trans(h:Ex t C C1)(h':Ex t C1 C2):Ex t C C2:=λb o n e=>h' b o n (h b o n e)
def Ex.new(q:C p=none)o:Ex t C (cQ C p o):=λb u _ e=>by
 rw[yQ (λz=>by subst z;rw[q] at e;cases e)];exact e
inductive Ya(ts:List PV)(C:CH)(Q:K1):Prop
 |mk(ns:List Int)(z0:ts=[.fz (ns.map PV.int)])(z1:ns.length<=63)(z2:∀t C',C t=none->Ex t C C'->Tp C' t ns->Q (.ref t) C')
def xu(T:Tx W a):Ok W a 1 26 ["_law_script"] Ya:=by
 refine(T.F 26 rfl).ok (λts C R h=>?_) λO A outer s H E U=>⟨_,(kQ (uQ (oQ (qQ (cv 0) (qQ jQ (qQ jQ (c7 jQ))))))),?_⟩
 .obtain⟨J,rfl,_⟩:=h;rfl
 rintro ts C R ⟨J,rfl,L,q⟩;show 4<=sizeLine/\∀p,C p=none->R (.ref p) (cQ C p (.lst [.fz (J.map PV.int),.int 0,.int 0,.int 0]));exact⟨Th,λp B=>q p _ B (Ex.new B _) ⟨⟨0,0,0,zQ,Th,Th,Th⟩,L⟩⟩
def Ex.u9 o:Ex t C (cQ C t o):=λb u n e=>by rwa[yQ n]
def YU{q:List Int}(h0:0<=k)(h1:k<((q.map PV.int).length:Int)):∃v,atI (q.map PV.int) k=some (.int v):=by
 delta atI ixN
 rw[A4 h0,A4 h1];rw[AA] at h1;show ∃v,(q.map PV.int)[k.toNat]?=some (.int v);rw[Ag,AJ ir];exact⟨_,rfl⟩
inductive kK(ts:List PV)(C:CH)(Q:K1):Prop
 |mk(t:Addr)(m:Int)(ns:List Int)(z0:ts=[.ref t,.int m])(z1:Tp C t ns)(z2:0<m)(z3:m<4611686018427387904)(z4:∀(v:Int)(C':CH),0<=v->v<m->Tp C' t ns->Ex t C C'->Q (.int v) C')
def mG(T:Tx W a):Ok W a 1 27 U2 kK:=by
 have S:=(T.F 27 rfl).s
 refine(T.F 27 rfl).ok (λts C R h=>?_) λaf A outer s H E ag=>⟨_,(xQ (fj 2 S.nd (cx (cv 0) jQ))
  (xQ (mF (uX jX xX (cx (cv 0) jQ) jQ) (cD (cv 0) jQ))
  (xQ (nQ (dq (iw (ct2 rX yX (cx (cv 0) jQ) jQ) (gm (ct2 xF qU (cx (cv 0) jQ) (gw T.tX (cv 2)))))) (xQ (mF (uX QI Xk (aQ YE Dy rfl T.z_abs rfl (c7 (cx (cv 2) (cx (cv 0) jQ)))) (uX bA tH jQ jQ)) (cD (cv 0) jQ))
  (kQ (mF (uX jX xX (cx (cv 0) jQ) jQ) (cD (cv 0) jQ)))) pQ)
  (xQ (nQ (ct2 oW eK (cx (cv 0) jQ) jQ) (xQ (fj 3 S.nd (uX qM rG (cx (cv 0) jQ) (cv 1)))
  (xQ (mF (uX QI Xk (cx (cv 0) jQ) (cv 1)) (cD (cv 0) jQ))
  (kQ (uQ (cv 3))))) pQ)
  (xQ (fj 4 S.nd jQ)
  (xQ (nQ (ct2 oW eK (gw T.tX (cv 2)) jQ) (kQ (fj 4 S.nd (cx (cv 2) (uX qM rG (cx (cv 0) jQ) (gw T.tX (cv 2)))))) pQ)
  (xQ (fj 5 S.nd (uX qM rG (uX jX xX (uX jX xX (uX yC mD (uX qM rG (cv 4) jQ) jQ) (uX yC mD (cx (cv 0) jQ) jQ)) jQ) jQ))
  (xQ (fj 5 S.nd (uX qM rG (uX yC mD (cv 5) (uX jX xX (cv 5) jQ)) jQ))
  (kQ (uQ (uX qM rG (uX qM rG (uX yC mD (cv 5) jQ) jQ) (cv 1)))))))))))),?_⟩
 .obtain⟨t,m,q,rfl,_⟩:=h;rfl
 rintro ts C R ⟨t,m,q,rfl,⟨⟨x,y,z,h,hx,hy,hz⟩,hl⟩,U,m1,ae⟩;refine tZ h rfl (tZ h rfl (eJ (VL h rfl ?_)));dsimp only;have h1:(cQ C t (.lst [.fz (q.map PV.int),.int (x+1),.int y,.int z])) t=_:=zQ;have B:Ex t C (cQ C t (.lst [.fz (q.map PV.int),.int (x+1),.int y,.int z])):=Ex.u9 _;refine mZ (λY C'=>Y=[some (.ref t),some (.int m),some (.fz (q.map PV.int)),none,none,none]/\∃y z:Int,C' t=some (.lst [.fz (q.map PV.int),.int (x+1),.int y,.int z])/\0<=y/\0<=z/\Ex t C C') (λL J=>?_) ?_
 .refine tZ h1 rfl (mQ (eQ _ _) (gJ (λhb=>?_) λhb=>?_))
  .refine tZ h1 rfl (WN (gk (gJ (λO=>?_) λO=>?_)))
   .obtain⟨c,Z⟩:=YU hz (Af O)
    refine tZ h1 rfl (OD Z ⟨⟨Th,Th,Th⟩,⟨Th,Th⟩,?_⟩);refine VL h1 rfl (tZ zQ rfl (eJ (VL zQ rfl (J _ _ ⟨rfl,_,_,zQ,?_,by lia,(B.trans (Ex.u9 _)).trans (Ex.u9 _)⟩))));refine Int.ediv_nonneg ?_ Th
    split<;>lia
   .exact fQ (J _ _ ⟨rfl,y,z,h1,hy,hz,B⟩)
  .exact gB rfl (fQ (J _ _ ⟨rfl,y,z,h1,hy,hz,B⟩))
 clear h1 B;rintro Y C1 ⟨rfl,y',z',h1,aa,ab,B⟩;refine wV (tZ h1 rfl (gk (gJ (λhb=>?_) λhb=>?_)))
 .refine tZ h1 rfl ⟨U,tZ h1 rfl ⟨⟨U,by lia⟩,?_⟩⟩
  exact VL h1 rfl (ae _ _ (Bz _ ir) (Bj _ U) ⟨⟨_,_,_,zQ,by lia,Int.ediv_nonneg aa ir,ab⟩,hl⟩ (B.trans (Ex.u9 _)))
 .refine fQ (aX (c_i ?_))
  try dsimp only
  refine mZ (λY C'=>C'=C1/\∃v:Int,Y=[some (.ref t),some (.int m),some (.fz (q.map PV.int)),none,some (.int v),none]) (λL J=>?_) ?_
  .refine WN (gk (gJ (λO=>?_) λO=>?_))
   .have hn:(0:Int)<((q.map PV.int).length:Int):=Af O
    obtain⟨c,Z⟩:=YU (Bz (x+1) (b:=((q.map PV.int).length:Int)) ir) (Bj (x+1) hn);exact tZ h1 rfl (WN ⟨hn,OD Z (J _ _ ⟨rfl,_,rfl⟩)⟩)
   .exact fQ (J _ _ ⟨rfl,0,rfl⟩)
  .rintro Y C2 ⟨rfl,v,rfl⟩
   refine aX ⟨(by show(0:Int)<_;decide),?_⟩;refine⟨.inr ⟨Th,Th⟩,?_⟩;refine tZ h1 rfl ⟨.inr ⟨Th,Th⟩,?_⟩;refine eJ (eJ ⟨(by show(0:Int)<_;decide),?_⟩);have b0:=Bz (v % 2147483647*48271+(x+1)*7919+12345) (b:=2147483629) Th;have b1:=Bj (v % 2147483647*48271+(x+1)*7919+12345) (b:=2147483629) Th;refine aX (eJ ⟨.inl ⟨by lia,by lia⟩,?_⟩)
   refine⟨(by show(0:Int)<_;decide),?_⟩;refine⟨.inr ⟨Th,Th⟩,?_⟩;refine⟨(by show(0:Int)<_;decide),?_⟩;exact⟨U,ae _ _ (Bz _ ir) (Bj _ U) ⟨⟨_,_,_,h1,by lia,aa,ab⟩,hl⟩ B⟩
theorem Tp.ne(h:Tp C t B)(q:C p=none):p≠t:=λe=>by
 obtain⟨⟨x,y,z,h,_⟩,_⟩:=h;rw[<- e,q] at h;cases h
def Tp.new(h:Tp C t J)(B:C p=none)o:Tp (cQ C p o) t J:=by
 have n:=h.ne B;obtain⟨⟨x,y,z,h,q⟩,l⟩:=h;exact⟨⟨x,y,z,(yQ (Ne.symm n)).trans h,q⟩,l⟩
noncomputable def Ei:List Str:=["a","ab","abc","b","ba","box","end","give","part","plain","turn","abcdefgh"]
def YV{q:Type}{f:q->PV}{ss:List q}d(h0:0<=k)(h1:k<(ss.length:Int)):atI (ss.map f) k=some (f (ss.getD k.toNat d)):=by
 delta atI ixN
 rw[A4 h0,A4 (by simp_all)];show(ss.map f)[k.toNat]?=_;rw[Ag,List.getD_eq_getElem?_getD,AJ ir]
 rfl
noncomputable def X9(v c:Int)(i:Nat):Str:=Ei.getD ((v+c*(i:Int)) % 12).toNat ""
noncomputable def lW(v c:Int)(m:Nat):List Str:=(List.range m).map (X9 v c)
def Vf:∀v∈List.range 12,∀c∈[1,5,7,11],(lW v (c:Nat) 12).Nodup:=gf
def QM(L:0<=v)(U:v<12)(B:c=1\/c=5\/c=7\/c=11)(J:m<=12):(lW v c m).Nodup:=by
 have q:(lW v c 12).Nodup:=by
  have:=Vf v.toNat (BY.2 ir);have O:=Int.toNat_of_nonneg L
  rcases B with rfl|rfl|rfl|rfl
  .grind
  .grind
  .grind
  .grind
 have e:lW v c m=(lW v c 12).take m:=by
  delta lW
  rw[<- List.map_take,List.take_range,Nat.min_eq_left J]
 exact e▸q.sublist (List.take_sublist _ _)
def Yw f(I:CH->Prop)m(h:∀k C L,k<m->I C->(∀C',I C'->L (f k) C')->c (some (.int k )::ρ) C L)(q:∀p C',I C'->C' p=none->Q (.ref p) (cQ C' p (.lst ((List.range m).map f)))):∀n C,n<=m->m<=1000->I C->rJ aU c ρ Q ((List.range m).drop n |>.map λk=>PV.int (k:Nat)) ((List.range n).map f) C:=by
 suffices ∀j n C,n+j=m->m<=1000->I C->rJ aU c ρ Q ((List.range m).drop n |>.map λk=>PV.int (k:Nat)) ((List.range n).map f) C by
  intro n C O J B;exact this (m-n) n C ir J B
 intro j
 induction j with
 |zero =>
  intro n C O J B;have e:n=m:=by lia
  subst e;rw[List.drop_of_length_le (Ax▸AQ _)];exact cR λp Y=>q p C B Y
 |succ j Z =>
  intro n C O J B;rw[Az (by grind),A5,List.getElem_range];refine sL (h n C _ ir B λC' U=>⟨?_,?_⟩)
  .rw[AA,Ax]
   exact AE (show n<1001 by lia) Th
  .have e:(List.range n).map f++[f n]=(List.range (n+1)).map f:=by rw[List.range_succ,AG];rfl
   exact e▸Z (n+1) C' ir J U
noncomputable def wD(c:Nat):Bool:=!(Builtin.Str.occurrences ("abcdefghijklmnopqrstuvwxyz":Str) ⟨#[c]⟩ 0 ("abcdefghijklmnopqrstuvwxyz":Str).length 1).isEmpty
noncomputable def qZ(z:Str):Bool:=(decide ((1:Int)<=(z.length:Nat))&&decide (((z.length:Nat):Int)<=8))&&z.cps.toList.all wD
def v8:Ei.all qZ=true:=gf
def Oq(h:qZ z=true):z.length<=8:=by grind[qZ]
def WJ v c n:∀s∈lW v c n,qZ s=true:=by
 intro s hs;obtain⟨i,_,rfl⟩:=AX.1 hs
 delta X9
 have q:((v+c*(i:Int)) % 12).toNat<Ei.length:=by
  have h1:=Bz (v+c*(i:Int)) (show(12:Int)≠0 by decide);have h2:=Bj (v+c*(i:Int)) (show(0:Int)<12 by decide);show _<12
  lia
 exact List.getD_eq_getElem?_getD▸(AJ q)▸BM.1 v8 _ (BJ q)
inductive Zl(ts:List PV)(C:CH)(Q:K1):Prop
 |mk(t:Addr)(m:Int)(ns:List Int)(z0:ts=[.ref t,.int m])(z1:Tp C t ns)(z2:0<=m)(z3:m<=12)(z4:∀(p:Addr)(ss:List Str)(C':CH),C' p=some (.lst (ss.map PV.str))->C p=none->p≠t->ss.length=m.toNat->(ss.Nodup/\∀s∈ss,qZ s=true)->Tp C' t ns->Ex t C C'->Q (.ref p) C')
def WD(T:Tx W a):Ok W a 2 28 U2 Zl:=by
 have S:=(T.F 28 rfl).s;have fX:=mG T
 refine(T.F 28 rfl).ok (λts C R h=>?_) λaj A outer s H E ae=>⟨_,(xQ (fj 2 S.nd (oQ (qQ wQ (qQ wQ (qQ wQ (qQ wQ (qQ wQ (qQ wQ (qQ wQ (qQ wQ (qQ wQ (qQ wQ (qQ wQ (c7 wQ))))))))))))))
  (xQ (fj 3 S.nd (cf (T.F 27 rfl) fX ae (qQ (cv 0) (c7 jQ))))
  (xQ (fj 4 S.nd (cx (oQ (qQ jQ (qQ jQ (qQ jQ (c7 jQ))))) (cf (T.F 27 rfl) fX ae (qQ (cv 0) (c7 jQ)))))
  (kQ (uQ (sZ rfl (S.c gf) (S.k rfl rfl rfl gf) (sR rfl T.dW (c7 (cv 1))) (λ_ _ _ _ _=>fZ) (λ_ _ _ _ _=>(cx (cv 3) (uX qM rG (uX jX xX (cv 4) (uX yC mD (cv 5) (cv 0))) jQ))))))))),?_⟩
 .obtain⟨t,m,Z,rfl,_⟩:=h;rfl
 rintro ts C R ⟨t,m,Z,rfl,O,ak,m1,ag⟩;refine⟨Th,λp B=>?_⟩;refine⟨t,12,Z,rfl,O.new B _,Th,Th,λv C1 ah ai T1 e1=>?_⟩;refine⟨Th,λp2 Y=>⟨t,4,Z,rfl,T1.new Y _,Th,Th,λk C2 k0 k1 J e2=>?_⟩⟩;have ab:=(Ex.new Y _).trans e2;have L:=YV (f:=PV.int) (ss:=[1,5,7,11]) 0 k0 k1
 have U:[1,5,7,11].getD k.toNat (0:Int)=1\/[1,5,7,11].getD k.toNat (0:Int)=5\/[1,5,7,11].getD k.toNat (0:Int)=7\/[1,5,7,11].getD k.toNat (0:Int)=11:=by
  have:k=0\/k=1\/k=2\/k=3:=by lia
  rcases this with rfl|rfl|rfl|rfl
  .exact .inl rfl
  .exact .inr (.inl rfl)
  .exact .inr (.inr (.inl rfl))
  .exact .inr (.inr (.inr rfl))
 revert L U;generalize [1,5,7,11].getD k.toNat (0:Int)=c;intro L U;refine tZ (e2 p2 _ (T1.ne Y) zQ) L ⟨by lia,by lia,?_⟩;have aa:=((Ex.new B _).trans e1).trans ab;have hb:c<=11/\1<=c:=by lia<;> lia
 refine Yw (λi=>.str (X9 v c i)) (λC'=>C'=C2) m.toNat (λi C3 Q' hi e hq=>?_) (λp3 C3 e q=>?_) 0 C2 (AF _) ir rfl
 .subst e
  refine⟨.inr ⟨by lia,by lia⟩,?_⟩;refine eJ ⟨(by show(0:Int)<_;decide),?_⟩;have r0:=Bz (v+c*(i:Int)) (b:=12) Th;have r1:=Bj (v+c*(i:Int)) (b:=12) Th;exact tZ (ab p _ (O.ne B) (e1 p _ (O.ne B) zQ)) (YV (ss:=Ei) "" r0 r1) (hq _ rfl)
 .subst e
  have af:C p3=none:=by
   cases z:C p3 with
   |none=>rfl
   |some o =>
    rw[aa p3 o (J.ne q) z] at q;cases q
  refine ag p3 (lW v c m.toNat) _ ?_ af (J.ne q) ?_ ⟨QM ah ai U ir,WJ v c m.toNat⟩ (J.new q _) (aa.trans (Ex.new q _))
  .rw[zQ]
   delta lW
   rw[Aj]
   rfl
  .delta lW
   rw[AA,Ax]
end
inductive Rk where
 |num (i:Int)|turn (n:Str)|ask (s n:Str)|bin (w:Str) (x y:Rk)|pick (x y z:Rk)
noncomputable def Rk.pv:Rk->PV
 |.num i=>.tup [.str "num",.int i]
 |.turn n=>.tup [.str "turn",.str n]
 |.ask s n=>.tup [.str s,.str n]
 |.bin w x y=>.tup [.str w,x.pv,y.pv]
 |.pick x y z=>.tup [.str "pick",x.pv,y.pv,z.pv]
noncomputable def nV:Option Rk->PV
 |none=>.non
 |some r=>r.pv
noncomputable def yV(c:Str×Rk):PV:=.tup [.str c.1,c.2.pv]
structure Hd where
 ev:Str
 rank:Int
 last:Bool
 ch:List (Str×Str×Rk)
noncomputable def Xq(c:Str×Str×Rk):PV:=.tup [.str c.1,.str c.2.1,c.2.2.pv]
noncomputable def Hd.pv(h:Hd):PV:=.tup [.str h.ev,.int h.rank,.bl h.last,.tup (h.ch.map Xq)]
inductive Ln where
 |plain (k:Option Rk) (tag:Str) (sets:List (Str×Rk)) (hands:List Hd) (ls:List Ln)
 |part (k:Option Rk) (name:Str) (gives:List (Str×Rk))
 |give (k:Option Rk) (name:Str) (r:Rk) (ls:List Ln)
 |when (r:Rk) (l1 l2:List Ln)
 |each (name:Str) (r:Rk) (ls:List Ln)
mutual
def Ln.pv:Ln->PV
 |.plain k J s h ls=>.tup [.str "plain",nV k,.str J,.tup (s.map yV),.tup (h.map Hd.pv),.tup (Ln.ik ls)]
 |.part k n g=>.tup [.str "part",nV k,.str n,.tup (g.map yV)]
 |.give k n r ls=>.tup [.str "give",nV k,.str n,r.pv,.tup (Ln.ik ls)]
 |.when r q B=>.tup [.str "when",r.pv,.tup (Ln.ik q),.tup (Ln.ik B)]
 |.each n r ls=>.tup [.str "each",.str n,r.pv,.tup (Ln.ik ls)]
def Ln.ik:List Ln->List PV
 |[]=>[]
 |l::ls=>l.pv::Ln.ik ls
end
theorem Ln.d8 ls:Ln.ik ls=ls.map Ln.pv:=by
 induction ls with
 |nil=>rfl
 |cons l ls q=>rw[A5,<- q];rfl
mutual
def Ln.tw:Ln->Nat
 |.plain _ _ _ _ ls=>1+Ln.d9 ls
 |.part _ _ _=>1
 |.give _ _ _ ls=>1+Ln.d9 ls
 |.when _ q B=>1+(Ln.d9 q+Ln.d9 B)
 |.each _ _ ls=>1+Ln.d9 ls
def Ln.d9:List Ln->Nat
 |[]=>0
 |l::ls=>l.tw+Ln.d9 ls
end
def Ln.ie xs ys:Ln.d9 (xs++ys)=Ln.d9 xs+Ln.d9 ys:=by
 induction xs with
 |nil=>show _=0+_;rw[BV];rfl
 |cons x xs q=>show x.tw+Ln.d9 (xs++ys)=x.tw+Ln.d9 xs+Ln.d9 ys;lia
structure Pt where
 name:Str
 first:List (Str×Int)
 works:List (Str×Rk)
 ls:List Ln
noncomputable def Pt.pv(x:Pt):PV:=.tup [.str x.name,.tup (x.first.map nW),.tup (x.works.map yV),.tup (Ln.ik x.ls)]
section
variable{W:Wd}{a:Adr}
def xD(h:∀ts C Q,¬ G ts C Q):FnOk W.P W.w W.K W.mg W.base CX0 r f fd ps (qm W.K G):=
 ⟨λvs H Q E q=>yZ q λts C R _ _ z _=>(h _ _ _ z).elim,λ_ _ _ _ _ _ _ _ _ _ _ _ _ q=>yZ q λts C R _ _ z _=>(h _ _ _ z).elim⟩
end
def nb(z:Str):Prop:=32∉z.cps.toList
theorem Xy:∀{x y A B},32∉x->32∉y->x++32::A=y++32::B->x=y/\A=B
 |[],[],A,B,_,_,e=>⟨rfl,(AZ e).2⟩
 |[],b::y,A,B,_,h,e=>absurd (AZ e).1 (λz=>h (z▸AL))
 |a::x,[],A,B,h,_,e=>absurd (AZ e).1 (λz=>h (z▸AL))
 |a::x,b::y,A,B,h,h',e=>by
  obtain⟨q,J⟩:=AZ e;obtain⟨L,O⟩:=Xy (λz=>h (AH _ z)) (λz=>h' (AH _ z)) J;exact⟨by rw[q,L],O⟩
def JJ(x y:Str):(x++y).cps.toList=x.cps.toList++y.cps.toList:=Array.toList_append
def vD x y r:(Str.join " " (x::y::r)).cps.toList=x.cps.toList++32::(Str.join " " (y::r)).cps.toList:=by
 show(x++" "++Str.join " " (y::r)).cps.toList=_;rw[JJ,JJ,AI]
 rfl
def iE{y:Str}(h:x.cps.toList=y.cps.toList):x=y:=Str.ext' (Array.toList_inj.mp h)
theorem QU:∀us ws,us≠[]->ws≠[]->(∀w∈us,nb w)->(∀w∈ws,nb w)->Str.join " " us=Str.join " " ws->us=ws
 |[],_,h,_,_,_,_=>absurd rfl h
 |_,[],_,h,_,_,_=>absurd rfl h
 |[x],[y],_,_,_,_,e=>by rw[show x=y from e]
 |[x],y::z::r,_,_,h,_,e=>by
  have e:=A9 (λs:Str=>s.cps.toList) e;rw[vD] at e;exact absurd (e▸by simp) (h x AL)
 |x::z::r,[y],_,_,_,h,e=>by
  have e:=A9 (λs:Str=>s.cps.toList) e;rw[vD] at e;exact absurd (e▸by simp) (h y AL)
 |x::O::r,y::U::L,_,_,h,h',e=>by
  have e:=A9 (λs:Str=>s.cps.toList) e;rw[vD,vD] at e;obtain⟨B,J⟩:=Xy (h x AL) (h' y AL) e;have:=QU (O::r) (U::L) (λz=>nomatch z) (λz=>nomatch z) (λw q=>h w (AH _ q)) (λw q=>h' w (AH _ q)) (iE J);rw[iE B,this]
def VG x y:Txt.split x y≠[]:=by
 delta Txt.split
 split
 .lia
 .split
  .exact λz=>nomatch z
  .delta Builtin.Str.partsBetween
   intro z;have:=A9 List.length z
   simp at this
def X0(h:ws≠[])(q:∀w∈ws,nb w):Txt.split (Str.join " " ws) " "=ws:=
 QU _ _ (VG _ _) h (λw B=>StrLaws.split_free (Str.join " " ws) 32 w B) q (StrLaws.join_split _ _)
def Kr z:(Builtin.Str.partsBetween z (Builtin.Str.occurrences z " " 0 z.length (z.length+1)) (" ":Str).length).length<=z.length+2:=by
 delta Builtin.Str.partsBetween
 have:=StrLaws.occ_length_le z " " 0 z.length (z.length+1)
 simp
 omega
noncomputable def n8(m:Nat):List Nat:=(Nat.toDigits 10 m).map Char.toNat
def nB m:(iz (m:Nat)).cps.toList=n8 m:=PySem.W.KIN.signs_num m
def nN m:(iz (Int.negSucc m)).cps.toList=45::n8 (m+1):=by
 show(Str.ofString (toString (Int.negSucc m))).cps.toList=_;rw[PyProof.Rows.signs_ofString];show("-"++Nat.repr (m+1)).toList.map Char.toNat=_;rw[String.toList_append,Nat.toList_repr]
 rfl
def tM m:NumText.AllDigits (n8 m):=by
 intro c q;obtain⟨ch,B,e⟩:=(AX.mp q);have r:=PyProof.Rows.digit_range (Nat.isDigit_of_mem_toDigits Th Th B)
 rwa[<- e]
def Zs m:n8 m≠[]:=by
 intro e;have h:=PySem.toDigits_len_ge 10 m;rw[List.map_eq_nil_iff.mp e] at h;exact absurd h Th
def Jv m:NumText.digitsVal (n8 m)=m:=PySem.W.KIN.val_back m
def mI(h:m<=1000000000):(n8 m).length<=10:=by
 have:=PySem.W.KT.len_num (n:=(m:Nat)) ir ir
 have e:(Str.ofString (toString ((m:Nat):Int))).length=(n8 m).length:=by
  rw[<- nB];rfl
 lia
def kD(h0 : -1000000000<=i)(h1:i<=1000000000):(iz i).length<=11/\PySem.intText? (iz i)=some i:=by
 rcases i with m|m
 .have l:(iz (m:Nat)).length<=10:=by
   have:(iz (m:Nat)).length=(n8 m).length:=by rw[<- nB];rfl
   have:=mI (m:=m) ir
   lia
  refine⟨by lia,?_⟩;show PySem.intText? (iz (m:Nat))=some ((m:Nat):Int);have e:=intText_digits (by rw[nB];exact tM m) (by rw[nB];exact Zs m) ir;rw[e,nB,Jv]
 .have l:(iz (Int.negSucc m)).length=(n8 (m+1)).length+1:=by
   have:(iz (Int.negSucc m)).length=(iz (Int.negSucc m)).cps.toList.length:=rfl;rw[this,nN,AD]
  have q:=mI (m:=m+1) ir;refine⟨by lia,?_⟩;rw[(intText_neg (nN m) (tM _) (Zs _) ir),Jv]
  rfl
def Xx z:YO z "-"=true↔z.cps.toList[0]?=some 45:=by
 rw[<- StrLaws.subAt_one z 45 0,Aq,decide_eq_true_eq];exact Iff.rfl
noncomputable def KL(i:Int):Str:=⟨(n8 i.natAbs).toArray⟩
def uI:(i<0->YO (iz i) "-"=true/\Txt.slice (iz i) (some 1) none=KL i)/\(0<=i->YO (iz i) "-"=false/\iz i=KL i):=by
 rcases i with m|m
 .refine⟨λh=>absurd h ir,λ_=>⟨?_,?_⟩⟩
  .rw[Bool.eq_false_iff]
   intro h;have h:=(Xx _).1 h;rw[show(iz (Int.ofNat m)).cps.toList=n8 m from nB m] at h;have:=tM m 45 (Ak h)
   lia
  .exact iE (by rw[show(iz (Int.ofNat m)).cps.toList=n8 m from nB m];rfl)
 .refine⟨λ_=>⟨(Xx _).2 (by rfl),?_⟩,λh=>absurd h ir⟩
  have l:(iz (Int.negSucc m)).cps.toList.length=(n8 (m+1)).length+1:=by rw[nN,AD]
  rw[(show Txt.slice (iz (Int.negSucc m)) (some 1) none=_ from StrLaws.sliceText_from ⟨Th,by lia⟩)]
  apply iE
  rw[nN];exact BO ue
noncomputable def Jm(c:Nat):Bool:=!(Builtin.Str.occurrences ("0123456789":Str) ⟨#[c]⟩ 0 ("0123456789":Str).length 1).isEmpty
def J4(h:48<=c/\c<=57):Jm c=true:=by
 have:=(by decide +kernel:∀c∈List.range' 48 10,Jm c=true);exact this c (by grind)
def HH i:nb (iz i):=by
 rcases i with m|m
 .show 32∉(iz (m:Nat)).cps.toList
  rw[nB];exact λh=>by have:=tM m 32 h;lia
 .delta nb
  rw[nN];intro h
  rcases Ah.1 h with h|h
  .cases h
  .have:=tM _ 32 h;lia
section
variable{W:Wd}{a:Adr}
noncomputable def xI(i:Int):Bool:=decide (-1000000000<=i)&&decide (i<=1000000000)
inductive Ul(ts:List PV)(C:CH)(Q:K1):Prop
 |mk(i:Int)(z0:ts=[.int i])(z2:Q (.bl (xI i)) C)
def wY(T:Tx W a):Ok W a (k+1) 0 ["thing"] Ul:=by
 have S:=(T.F 0 rfl).s
 refine(T.F 0 rfl).ok (λts C R h=>?_) λJ A outer s H E L=>⟨_,(xQ (nQ (dq (dN (zX (aQ sQ nX rfl T.lQ rfl (qQ (cv 0) (c7 (oZ rfl T.wN rfl))))) (dm (vX (zX (aQ sQ nX rfl T.lQ rfl (qQ (cv 0) (c7 (oZ rfl T.bT rfl))))))))) (kQ (uQ sX)) pQ)
  (kQ (uQ (Xs bG bG iV iV (eW tK sJ (wZ (v:=.int 1000000000) rfl T.Yf ⟨_,rfl⟩ (λ_=>.int _))) (cv 0) (wZ (v:=.int 1000000000) rfl T.Yf ⟨_,rfl⟩ (λ_=>.int _)))))),?_⟩
 .obtain⟨_,rfl,_⟩:=h;rfl
 rintro ts C R ⟨i,rfl,q⟩;refine wX rfl rfl (bQ rfl (wX rfl rfl (lX (fQ (gk (gJ (λB=>?_) λB=>?_))))))
 .apply gk
  have e:xI i=decide (i<=1000000000):=by show(decide (-1000000000<=i)&&decide (i<=1000000000))=_;rw[B];rfl
  rwa[e] at q
 .have e:xI i=false:=by show(decide (-1000000000<=i)&&decide (i<=1000000000))=_;rw[B];rfl
  rwa[e] at q
def Bd(i:Int):Prop:=-1000000000<=i/\i<=1000000000
inductive S9(ts:List PV)(C:CH)(Q:K1):Prop
 |mk(i:Int)(z0:ts=[.str (iz i)])(zb:Bd i)(z1:∀C',Gr C C'->Q (.int i) C')
def Ew(T:Tx W a){k:Nat}:Ok W a (k+2) 21 ["word"] S9:=by
 have S:=(T.F 21 rfl).s
 refine(T.F 21 rfl).ok (λts C R h=>?_) λab A outer s H E B=>⟨_,(xQ (fj 1 S.nd (lD (zX (KZ (cv 0) wQ)) (Lq (cv 0) (oJ jQ) uK) (cv 0)))
  (xQ (nQ (dq (dN (vX (gD bG bG iV iV jQ (gw T.tX (cv 1)) (wZ (v:=.int 10) rfl T.sS ⟨_,rfl⟩ (λ_=>.int _)))) (dm (vX (zX (aQ (aW rfl) oG rfl T.vP rfl (c7 (sZ rfl (S.c gf) (S.k (L:=0) rfl rfl rfl gf) (Zy (cv 1)) (λ_ _ _ _ _=>fZ) (λ_ _ _ _ _=>(qJ lO JK (cv 0) (wZ (v:=.str "0123456789") rfl T.Yd ⟨_,rfl⟩ (λ_=>.str _)) rfl)))))))))) (kQ (uQ jZ)) pQ)
  (xQ (fj 2 S.nd (mK uE Xt rfl T.bT rfl (c7 (cv 0))))
  (kQ (uQ (lD (dq (iw (zX (cf (T.F 0 rfl) (wY T) B (c7 (cv 2)))) (gm (ct2 rX yX (mK uY nD rfl T.mB rfl (c7 (cv 2))) (cv 0))))) (cv 2) jZ)))))),?_⟩
 .obtain⟨_,rfl,_⟩:=h;rfl
 rintro ts C R ⟨i,rfl,q,aa⟩;obtain⟨U,B⟩:=kD q.1 q.2;have sl:(iz i).length<=sizeLine:=AK U Th;refine mZ (λY C'=>Y=[some (.str (iz i)),some (.str (KL i)),none]/\C'=C) (λL O=>?_) ?_
 .refine⟨iz i,rfl,"-",rfl,gJ (λe=>?_) λe=>?_⟩
  .have h0:i<0:=by
    rcases Int.lt_or_le i 0 with h|h
    .exact h
    .rw[(uI.2 h).1] at e;cases e
   refine M7 sl ?_;rw[(uI.1 h0).2];exact O _ _ ⟨rfl,rfl⟩
  .have h0:0<=i:=by
    rcases Int.lt_or_le i 0 with h|h
    .rw[(uI.1 h).1] at e;cases e
    .exact h
   exact O _ _ ⟨by rw[<- (uI.2 h0).2];rfl,rfl⟩
 rintro Y C' ⟨rfl,rfl⟩;have Z:(KL i).length=(n8 i.natAbs).length:=rfl;have J:=mI (m:=i.natAbs) (by have:=q.1;have:=q.2;lia)
 have ae:1<=(n8 i.natAbs).length:=by
  rcases Nat.eq_zero_or_pos (n8 i.natAbs).length with z|z
  .exact absurd (Bh.1 z) (Zs _)
  .exact z
 refine wV (Jf (by rw[Z];exact AK J Th) (gk (eX (AU ir) (gk ?_))));rw[show decide ((((KL i).length:Nat):Int)<=10)=true from AU ir];refine lX (qW (λs=>match s with | .str u=>.bl (!(Builtin.Str.occurrences ("0123456789":Str) u 0 ("0123456789":Str).length 1).isEmpty)|_=>.non) (yB (KL i)) [] C' Gr.refl ?_ (λx hx C1 Q' g hq=>?_) λp C1 h3 g m=>?_)
 .delta yB
  rw[AA,A0,BV];exact AK J Th
 .obtain⟨c,_,rfl⟩:=AX.1 hx
  exact Fy (hq C1 Gr.refl)
 .refine YY (bs:=(n8 i.natAbs).map Jm) (by rw[m];delta yB;rw[Aj,Aj];rfl) ?_
  rw[show((n8 i.natAbs).map Jm).all id=true from by
   rw[List.all_map,BM]
   exact λc hc=>J4 (tM _ c hc)]
  refine lX (fQ ?_);refine⟨iz i,i,rfl,AK U Th,B,?_⟩;dsimp only[di.wn];refine Ul.mk i rfl (eX (by show(decide (-1000000000<=i)&&decide (i<=1000000000))=true;rw[AU q.1,AU q.2];rfl) (qA (by have:=q.1;have:=q.2;lia) (mQ (b:=true) ?_ (aa _ g))));rw[vQ];exact A9 some (AU rfl)
end
noncomputable def Rk.dw:Rk->List Str
 |.num i=>[iz i]
 |.turn n=>["turn",n]
 |.ask s n=>[s,n]
 |.bin w x y=>w::(x.dw++y.dw)
 |.pick x y z=>"pick"::(x.dw++(y.dw++z.dw))
noncomputable def jb:Option Rk->List Str
 |none=>["-"]
 |some r=>r.dw
noncomputable def lr(w:Str)(c:Str×Rk):List Str:=w::c.1::c.2.dw
noncomputable def Lp(c:Str×Str×Rk):List Str:="change"::c.1::c.2.1::c.2.2.dw
noncomputable def uM(b:Bool):Str:=if b=true then "last" else "on"
noncomputable def Hd.dw(h:Hd):List (List Str):=["hand",h.ev,iz h.rank,uM h.last]::h.ch.map Lp
mutual
def Ln.rows:Ln->List (List Str)
 |.plain k J s h ls=>("plain"::J::jb k)::(s.map (lr "set")++(h.flatMap Hd.dw++(Ln.d7 ls++[[("end":Str)]])))
 |.part k n g=>("draw"::n::jb k)::g.map (lr "with")
 |.give k n r ls=>("give"::n::(r.dw++jb k))::(Ln.d7 ls++[[("end":Str)]])
 |.when r q B=>("when"::r.dw)::(Ln.d7 q++([("else":Str)]::(Ln.d7 B++[[("end":Str)]])))
 |.each n r ls=>("each"::n::r.dw)::(Ln.d7 ls++[[("end":Str)]])
def Ln.d7:List Ln->List (List Str)
 |[]=>[]
 |l::ls=>l.rows++Ln.d7 ls
end
noncomputable def Rx(c:Str×Int):List Str:=["box",c.1,iz c.2]
noncomputable def Pt.rows(x:Pt):List (List Str):=["part",x.name]::(x.first.map Rx++(x.works.map (lr "work")++Ln.d7 x.ls))
noncomputable def gZ(q:List Pt):List (List Str):=q.flatMap Pt.rows
noncomputable def gW(ws:List Str):Str:=Str.join " " ws
theorem Rk.rn:∀r:Rk,r.dw≠[]
 |.num _=>λz=>nomatch z
 |.turn _=>λz=>nomatch z
 |.ask _ _=>λz=>nomatch z
 |.bin _ _ _=>λz=>nomatch z
 |.pick _ _ _=>λz=>nomatch z
theorem HQ:∀k,jb k≠[]
 |none=>λz=>nomatch z
 |some r=>r.rn
structure Wo(w:Str):Prop where
 nb:nb w
 len:w.length<=11
def W3:wD 32=false:=gf
def rV(h:qZ z=true):Wo z:=by
 refine⟨λq=>?_,AK (Oq h) Th⟩
 have h2:z.cps.toList.all wD=true:=by
  delta qZ at h
  rw[Aq] at h;exact h.2
 have:=BM.1 h2 32 q;rw[W3] at this;cases this
def bC(h:Bd i):Wo (iz i):=⟨HH i,(kD h.1 h.2).1⟩
def Vt:∀w∈(["turn","take","down","box","add","times","less","pick","num","-","plain","draw","give","when","each","set","with","work","hand","change","last","on","part","end","else","1","2","3"]:List Str),decide (32∉w.cps.toList)=true/\w.length<=11:=gf
def cK(h:w∈(["turn","take","down","box","add","times","less","pick","num","-","plain","draw","give","when","each","set","with","work","hand","change","last","on","part","end","else","1","2","3"]:List Str)):Wo w:=⟨Af (p:=32∉w.cps.toList) (Vt w h).1,(Vt w h).2⟩
def VD{ws:List Str}(h:∀w∈ws,w.length<=11):(ws.map (·.length)).sum<=11*ws.length:=by
 induction ws with
 |nil=>exact AQ _
 |cons w ws B =>
  have:=B λu q=>h u (AH _ q);have:=h w AL;rw[A5,List.sum_cons,AD]
  lia
def vg(h:∀w∈ws,Wo w):(gW ws).length<=12*ws.length:=by
 have:=StrLaws.join_length_le " " ws;have:=VD λw q=>(h w q).len;have e:ws.length*(" ":Str).length=ws.length:=Nat.mul_one _;show(Str.join " " ws).length<=_
 lia
def Rk.gd:Rk->Prop
 |.num i=>Bd i
 |.turn n=>qZ n=true
 |.ask s n=>(s="take"\/s="down"\/s="box")/\qZ n=true
 |.bin w x y=>(w="add"\/w="times"\/w="less")/\x.gd/\y.gd
 |.pick x y z=>x.gd/\y.gd/\z.gd
theorem Rk.wo:∀{r:Rk},r.gd->∀w∈r.dw,Wo w
 |.num i,h,w,q =>(AR.1 q)▸bC h
 |.turn n,h,w,q=>by
  rcases Ah.1 q with rfl|q
  .exact cK (by grind)
  .exact(AR.1 q)▸rV h
 |.ask s n,h,w,q=>by
  rcases Ah.1 q with rfl|q
  .rcases h.1 with rfl|rfl|rfl<;>exact cK gf
  .exact(AR.1 q)▸rV h.2
 |.bin u x y,h,w,q=>by
  rcases Ah.1 q with rfl|q
  .rcases h.1 with rfl|rfl|rfl<;>exact cK gf
  .rcases AY.1 q with q|q
   .exact Rk.wo h.2.1 w q
   .exact Rk.wo h.2.2 w q
 |.pick x y z,h,w,q=>by
  rcases Ah.1 q with rfl|q
  .exact cK gf
  .rcases AY.1 q with q|q
   .exact Rk.wo h.1 w q
   .rcases AY.1 q with q|q
    .exact Rk.wo h.2.1 w q
    .exact Rk.wo h.2.2 w q
structure Rg(r:Rk):Prop where
 g:r.gd
 l:r.dw.length<=30
noncomputable def mY(q:List Rk):List Str:=q.flatMap Rk.dw
section
variable{W:Wd}{a:Adr}
def Ih(m:C p=some (.lst (ws.map PV.str)))(h:∀w∈ws,Wo w)(l:ws.length<=1000)(q:Q (.str (gW ws)) C):lP (.str " ") [.ref p] C Q:=by
 refine WV m ?_ q;have:=VD λw B=>(h w B).len;have e:ws.length*(" ":Str).length=ws.length:=Nat.mul_one _
 lia
def iF(q:Q (.tup xs) C):Xu (.tup (x::xs)) (some 1) none C Q:=by
 delta Xu
 have B:HT.sIx (x::xs).length 0 (some (1:Int))=1:=by
  rw[show(1:Int)=((1:Nat):Int) from rfl,HT.sIx_nat]
  simp
 refine⟨λz=>by rw[B] at z;exact absurd z.1 Th,?_⟩
 have J:yY (x::xs) (some 1) none=xs:=by
  delta yY
  rw[ HT.sIx_none];exact BO ue
 rwa[J]
end
def j6(k:Option Rk):Prop:=∀r,k=some r->Rg r
def o7(ps:List (Str×Rk)):Prop:=(∀c∈ps,qZ c.1=true/\Rg c.2)/\ps.length<=1000
structure ut(h:Hd):Prop where
 ev:qZ h.ev=true
 r1:1<=h.rank
 r3:h.rank<=3
 ch:∀c∈h.ch,qZ c.1=true/\c.2.1∈(["set","add","times"]:List Str)/\Rg c.2.2
 cl:h.ch.length<=1000
def Ln.gd:Nat->Ln->Prop
 |0,_=>False
 |d+1,.plain k J s h ls=>(j6 k/\qZ J=true)/\(o7 s/\(∀x∈h,ut x)/\h.length<=1000)/\(∀x∈ls,Ln.gd d x)/\ls.length<=1000
 |_+1,.part k n g=>(j6 k/\qZ n=true)/\o7 g
 |d+1,.give k n r ls=>(j6 k/\qZ n=true)/\Rg r/\(∀x∈ls,Ln.gd d x)/\ls.length<=1000
 |d+1,.when r q B=>Rg r/\((∀x∈q,Ln.gd d x)/\q.length<=1000)/\(∀x∈B,Ln.gd d x)/\B.length<=1000
 |d+1,.each n r ls=>(Rg r/\qZ n=true)/\(∀x∈ls,Ln.gd d x)/\ls.length<=1000
structure Eh(x:Pt):Prop where
 nm:qZ x.name=true
 fs:∀c∈x.first,qZ c.1=true/\Bd c.2
 fl:x.first.length<=1000
 wk:o7 x.works
 ls:∀l∈x.ls,Ln.gd 12 l
 ll:x.ls.length<=1000
noncomputable def jr(q:List (List Str)):List PV:=q.map λws=>PV.str (gW ws)
def rE a b:jr (a++b)=jr a++jr b:=AG
def pU a:(jr a).length=a.length:=AA _
theorem Wo.l(h:Wo w):w.length<=400:=AK h.len Th
def j6.wo(h:j6 k):(∀w∈jb k,Wo w)/\(jb k).length<=30:=by
 cases k with
 |none=>exact⟨λw q=>by rw[AR.1 q];exact cK gf,Th⟩
 |some r=>exact⟨Rk.wo (h r rfl).g,(h r rfl).l⟩
def join_1(m:C p=some (.lst (ws.map PV.str)))(h:∀w∈ws,w.length<=400)(l:ws.length<=100)(q:Q (.str (gW ws)) C):lP (.str " ") [.ref p] C Q:=by
 refine WV m ?_ q
 have s:(ws.map (·.length)).sum<=400*ws.length:=by
  clear m q l
  induction ws with
  |nil=>exact AQ _
  |cons w ws J =>
   have:=J λu B=>h u (AH _ B);have:=h w AL;rw[A5,List.sum_cons,AD]
   lia
 have e:ws.length*(" ":Str).length=ws.length:=Nat.mul_one _
 lia
noncomputable def O9(h:Hd):List Str:=["hand",h.ev,iz h.rank,uM h.last]
def Jg b:Wo (uM b):=by cases b<;>exact cK gf
theorem qD:∀r:Rk,vG r.pv=false
 |.num _=>rfl
 |.turn _=>rfl
 |.ask _ _=>rfl
 |.bin _ _ _=>rfl
 |.pick _ _ _=>rfl
def gH(C:CH)(xs:List PV)(Q:K1):Prop:=∀p C',C p=none->Gr C C'->C' p=some (.lst xs)->Q (.ref p) C'
def Gd(h:w∈(["set","add","times"]:List Str)):Wo w:=by
 simp only[List.mem_cons,List.not_mem_nil,or_false] at h
 rcases h with rfl|rfl|rfl<;>exact cK gf
def w3{x y z:Str}(B:Wo x)(J:Wo y)(L:z.length<=400):∀w∈[x,y,z],w.length<=400:=by
 intro u q
 simp only[List.mem_cons,List.not_mem_nil,or_false] at q
 rcases q with rfl|rfl|rfl
 .exact B.l
 .exact J.l
 .exact L
theorem gq(J:C a=some (.lst (jr xs)))(L:C b=some (.lst (jr ys)))(l:xs.length+ys.length<=20000)(q:gH C (jr (xs++ys)) Q):bB (.ref a) (.ref b) C Q:=by
 refine lM J L (by rw[pU,pU];exact AK l Th) λp B=>q p _ B (Gr.new B _) ?_;rw[zQ,rE]
def jO(x y z:Str):x++y++z=x++(y++z):=PySem.Str.append_assoc x y z
def RD(J:C0 p=none)(g:Gr C0 C)(L:C p=some (.lst (jr xs)))(e:s=gW ws)(l:xs.length+1<=20000)(q:∀C',Gr C0 C'->C' p=some (.lst (jr (xs++[ws])))->Q .non C'):qB (.ref p) [.str s] C Q:=
 bK L (by rw[pU];exact AE l Th) (q _ (λb o B=>(yQ (zZ J B)).trans (g _ _ B)) (by rw[zQ,rE,e];rfl))
def bO xs ys:Ln.d7 (xs++ys)=Ln.d7 xs++Ln.d7 ys:=by
 induction xs with
 |nil=>rfl
 |cons x xs q =>
  show x.rows++Ln.d7 (xs++ys)=x.rows++Ln.d7 xs++Ln.d7 ys;rw[q,AI]
inductive Tc(d:Nat)(ts:List PV)(C:CH)(Q:K1):Prop
 |mk(l:Ln)(z0:ts=[l.pv])(zg:l.gd d)(zl:l.rows.length<=20000)(z1:gH C (jr l.rows) Q)
inductive nS(d:Nat)(ts:List PV)(C:CH)(Q:K1):Prop
 |mk(ls:List Ln)(z0:ts=[.tup (ls.map Ln.pv)])(zg:∀l∈ls,l.gd d)(zl:(Ln.d7 ls).length<=20000)(z1:gH C (jr (Ln.d7 ls)) Q)
inductive Pb(ts:List PV)(C:CH)(Q:K1):Prop
 |mk(pts:List Pt)(z0:ts=[.tup (pts.map Pt.pv)])(zg:∀x∈pts,Eh x)(zl:(gZ pts).length<=20000)(z1:gH C (jr (gZ pts)) Q)
def Xm{U:Type}{f}{w}{xs:List U}(l:xs.length<=20000)(aa:∀x∈xs,∀C1,Gr C C1->∀L,(∀C2,Gr C1 C2->L (.str (gW (w x))) C2)->c (some (f x)::ρ) C1 L)(q:gH C (jr (xs.map w)) Q):rJ aU c ρ Q (xs.map f) [] C:=by
 refine mW (λzs J C'=>Gr C C'/\∃ds es:List U,ds++es=xs/\zs=es.map f/\J=jr (ds.map w)) ?_ ?_ _ _ _ ⟨Gr.refl,[],xs,rfl,rfl,rfl⟩
 .rintro x zs J C1 ⟨g,ds,es,e,B,rfl⟩ L Z
  cases es with
  |nil=>cases B
  |cons c es =>
   obtain⟨rfl,rfl⟩:=AZ B;refine aa c (by grind) C1 g L λC2 Y=>Z _ _ ⟨?_,g.trans Y,ds++[c],es,by rw[AI];exact e,rfl,by rw[AG,rE];rfl⟩;rw[pU,AA];have:=A9 List.length e;rw[AB,AD] at this;exact AE (show ds.length<20000 by lia) Th
 .rintro J C1 ⟨g,ds,es,e,B,rfl⟩ p O
  cases es with
  |nil =>
   rw[AM] at e;subst e;exact q p _ (bZ g O) (g.trans (Gr.new O _)) zQ
  |cons c es=>cases B
theorem Qe{xs:List PV}:atI (x::xs) 0=some x:=by grind[ixN,atI]
inductive R9:Rk->Prop
 |num (i:Int):R9 (.num i)
 |two (r:Rk) (w n:Str) (e1:r.pv=.tup [.str w,.str n]) (e2:r.dw=[w,n]) (hw:w ≠ "num"):R9 r
 |more (r:Rk) (w:Str) (ys:List Rk) (e1:r.pv=.tup (.str w::ys.map Rk.pv)) (e2:r.dw=w::mY ys) (hw:w ≠ "num") (hl:2<=ys.length) (hg:∀y∈ys,y.gd) (hs:∀y∈ys,y.dw.length<r.dw.length):R9 r
def Rk.form(h:r.gd):R9 r:=by
 cases r with
 |num i=>exact .num i
 |turn n=>exact .two _ "turn" n rfl rfl gf
 |ask s n=>exact .two _ s n rfl rfl (by rcases h.1 with rfl|rfl|rfl<;>decide +kernel)
 |bin w x y =>
  refine .more _ w [x,y] rfl (by show w::(x.dw++y.dw)=w::(x.dw++(y.dw++[]));rw[AM]) (by rcases h.1 with rfl|rfl|rfl<;>decide +kernel) (AQ _) (λu q=>?_) λu q=>?_
  .simp only[List.mem_cons,List.not_mem_nil,or_false] at q
   rcases q with rfl|rfl
   .exact h.2.1
   .exact h.2.2
  .have:(Rk.bin w x y).dw.length=x.dw.length+y.dw.length+1:=by show(w::(x.dw++y.dw)).length=_;rw[AD,AB]
   simp only[List.mem_cons,List.not_mem_nil,or_false] at q
   rcases q with rfl|rfl<;>lia
 |pick x y z =>
  refine .more _ "pick" [x,y,z] rfl (by show("pick":Str)::(x.dw++(y.dw++z.dw))=("pick":Str)::(x.dw++(y.dw++(z.dw++[])));rw[AM]) gf (by simp_all) (λu q=>?_) λu q=>?_
  .simp only[List.mem_cons,List.not_mem_nil,or_false] at q
   rcases q with rfl|rfl|rfl
   .exact h.1
   .exact h.2.1
   .exact h.2.2
  .have:(Rk.pick x y z).dw.length=x.dw.length+(y.dw.length+z.dw.length)+1:=by show(("pick":Str)::(x.dw++(y.dw++z.dw))).length=_;rw[AD,AB,AB]
   simp only[List.mem_cons,List.not_mem_nil,or_false] at q
   rcases q with rfl|rfl|rfl<;>lia
section
variable{W:Wd}{a:Adr}
inductive Iw(n:Nat)(ts:List PV)(C:CH)(Q:K1):Prop
 |mk(r:Rk)(z0:ts=[r.pv])(zg:r.gd)(zn:r.dw.length<=n)(z1:gH C (r.dw.map PV.str) Q)
def Hi(T:Tx W a)(hn:n<=30)(qP:Ok W a (n+1) 42 ["_law_rule"] (Iw n)):Ok W a (n+2) 42 ["_law_rule"] (Iw (n+1)):=by
 have S:=(T.F 42 rfl).s
 refine(T.F 42 rfl).ok (λts C R h=>?_) λai A outer s H E af=>⟨_,(xQ (nQ (ct2 rX yX (cx (cv 0) jQ) wQ) (kQ (uQ (oQ (c7 (mK uY nD rfl T.mB rfl (c7 (cx (cv 0) jQ))))))) pQ)
  (xQ (nQ (ct2 rX yX (gw T.tX (cv 0)) jQ) (kQ (uQ (oQ (qQ (cx (cv 0) jQ) (c7 (cx (cv 0) jQ)))))) pQ)
  (xQ (fj 1 S.nd (oQ (c7 (cx (cv 0) jQ))))
  (xQ (mV PassesOwn.never rfl (eL (cv 0) (oJ jQ) uK) (jl 2 S.nd) (kQ (fj 1 S.nd (uX jX xX (cv 1) (cf (T.F 42 rfl) qP af (c7 (cv 2)))))))
  (kQ (uQ (cv 1))))))),?_⟩
 .obtain⟨_,rfl,_⟩:=h;rfl
 rintro ts C R ⟨r,rfl,ab,hl,q⟩
 cases Rk.form ab with
 |num i =>
  have hb:=ab;exact gQ rfl ((gj (gQ rfl (qA (by have:=hb.1;have:=hb.2;lia) ⟨jg,λp B=>q p _ B (Gr.new B _) zQ⟩))))
 |two _ w n U J aa =>
  rw[U];rw[J] at q;exact gQ rfl (mQ (vQ _ _) (bQ (by simpa using aa) (mX (mQ (eQ _ _) (eX rfl (gQ rfl (gQ rfl ⟨jf,λp B=>q p _ B (Gr.new B _) zQ⟩)))))))
 |more _ w ys U J aa h2 ah ag =>
  rw[U];refine gQ Qe (mQ (vQ _ _) (bQ (by simpa using aa) (mX (mQ (eQ _ _) (bQ ?_ (gQ Qe ⟨jg,λp B=>?_⟩))))))
  .rw[AD,AA]
   exact AW ir
  dsimp only[di.wn];refine wV (aG (iF (uJ (λzs ρ C'=>∃ds es p x2,ds++es=ys/\zs=es.map Rk.pv/\ρ=[some (.tup (.str w::ys.map Rk.pv)),some (.ref p),x2]/\C' p=some (.lst ((w::mY ds).map PV.str))/\C p=none/\Gr C C') ?_ ?_ _ _ _ ⟨[],ys,p,_,rfl,rfl,rfl,zQ,B,Gr.new B _⟩)))
  .rintro z zs ρ C1 ⟨ds,es,p,x2,e,O,rfl,m,B,g⟩ L hL
   cases es with
   |nil=>cases O
   |cons y es =>
    obtain⟨rfl,rfl⟩:=AZ O;have hy:y∈ys:=by rw[<- e];simp
    have l1:(w::mY ds).length+y.dw.length<=31:=by
     have:=hl;rw[J,<- e] at this;have Y:mY (ds++y::es)=mY ds++(y.dw++mY es):=BC;rw[Y,AD,AB,AB] at this;rw[AD]
     lia
    refine Iw.mk y rfl (ah y hy) (by have:=ag y hy;lia) λp3 C3 aj Z m3=>lM (Z _ _ m) m3 (by rw[AA,AA];exact AK l1 Th) λp4 ae=>hL _ _ ⟨ds++[y],es,p4,_,by rw[AI];exact e,rfl,rfl,?_,bZ (g.trans Z) ae,g.trans (Z.trans (Gr.new ae _))⟩;rw[zQ,<- AG];have Y:mY (ds++[y])=mY ds++(y.dw++[]):=BC;rw[Y,AM]
    rfl
  .rintro ρ C1 ⟨ds,es,p,x2,e,O,rfl,m,B,g⟩
   cases es with
   |nil =>
    rw[AM] at e;subst e
    apply q p C1 B g
    rw[m,J]
   |cons c es=>cases O
theorem Wx(T:Tx W a):∀{n},n<=30->Ok W a (n+1) 42 ["_law_rule"] (Iw n)
 |0,_=>xD λts C Q ⟨r,_,_,h,_⟩=>by
  have:=Bh.1 (Nat.le_zero.1 h);exact r.rn this
 |n+1,h=>Hi T (Nat.le_of_succ_le h) (Wx T (Nat.le_of_succ_le h))
inductive jR(ts:List PV)(C:CH)(Q:K1):Prop
 |mk(p:Addr)(ws:List Str)(o:Option Rk)(z0:ts=[.ref p,nV o])(zm:C p=some (.lst (ws.map PV.str)))(zw:∀w∈ws,Wo w)(zl:ws.length<=100)(zg:j6 o)(z1:∀C',Gr C C'->Q (.str (gW (ws++jb o))) C')
def Wz(T:Tx W a):Ok W a 32 43 U6 jR:=by
 refine(T.F 43 rfl).ok (λts C R h=>?_) λab A outer s H E Y=>⟨_,(kQ (uQ (JQ wQ (uX jX xX (cv 0) (lD (ct2 zM nG (cv 1) jZ) (oQ (c7 wQ)) (cf (T.F 42 rfl) (Wx T (AQ _)) Y (c7 (cv 1)))))))),?_⟩
 .obtain⟨_,_,_,rfl,_⟩:=h;rfl
 rintro ts C R ⟨p,ws,o,rfl,m,Z,hl,q,aa⟩
 have L:∀p1 C1,Gr C C1->C1 p1=some (.lst ((jb o).map PV.str))->bB (.ref p) (.ref p1) C1 λx C2=>lP (.str " ") [x] C2 R:=by
  intro p1 C1 B J;refine lM (B _ _ m) J (by rw[AA,AA];have:=q.wo.2;exact AK (show ws.length+_<=1000 by lia) Th) λp2 U=>?_;refine Ih (by rw[zQ,AG]) (λw h=>?_) (by rw[AB];have:=q.wo.2;lia) (aa _ (B.trans (Gr.new U _)))
  rcases AY.1 h with h|h
  .exact Z w h
  .exact q.wo.1 w h
 refine⟨⟨_,rfl⟩,?_⟩
 cases o with
 |none=>exact(⟨jg,λp1 O=>L p1 _ (Gr.new O _) zQ⟩:_/\_)
 |some r =>
  show(if id (vG r.pv)=true then _ else kY (Iw 30) (tJ (zK 1) gY) _ _ _);rw[qD];exact Iw.mk r rfl (q r rfl).g (q r rfl).l λp1 C1 O B J=>L p1 C1 B J
end
def Y9(q:Wo x):∀w∈[x],Wo w:=by grind
def Ml(q:Wo x)(B:Wo y):∀w∈[x,y],Wo w:=by grind
def Y8(q:Wo x)(B:Wo y)(J:Wo z):∀w∈[x,y,z],Wo w:=by grind
def Ik(q:Q (.int (if b then 1 else 0)) C):cInt [.bl b] C Q:=by
 delta cInt
 exact q
def YT(b:Bool):atI [PV.str "on",PV.str "last"] (if b then 1 else 0)=some (.str (uM b)):=by cases b<;>rfl
def Rg.ko(h:Rg r):j6 (some r):=λ_ e=>by cases e;exact h
section
variable{W:Wd}{a:Adr}
def NP(T:Tx W a)(d r:Nat)(h3:32<=r)(jG:Ok W a r 45 ["_law_lines"] (nS d)):Ok W a (r+1) 44 ["_law_line"] (Tc (d+1)):=by
 have S:=(T.F 44 rfl).s;have qP:=(Wx T (n:=30) (AQ _)).mono (show 31<=r by lia);have rW:=(Wz T).mono h3
 refine(T.F 44 rfl).ok (λts C R h=>?_) λa0 A outer s H E J=>⟨_,(xQ (nQ (ct2 rX yX (cx (cv 0) jQ) wQ) (kQ (uQ (uX jX xX (oQ (c7 (cf (T.F 43 rfl) rW J (qQ (oQ (qQ wQ (c7 (cx (cv 0) jQ)))) (c7 (cx (cv 0) jQ)))))) (sZ rfl (S.c gf) (S.k (L:=0) rfl rfl rfl gf) (qK (cx (cv 0) jQ)) (λ_ _ _ _ _=>fZ) (λ_ _ _ _ _=>(cf (T.F 43 rfl) rW J (qQ (oQ (qQ wQ (c7 (cx (cv 0) jQ)))) (c7 (cx (cv 0) jQ))))))))) pQ)
  (xQ (nQ (ct2 rX yX (cx (cv 0) jQ) wQ) (kQ (uQ (uX jX xX (uX jX xX (oQ (c7 (cf (T.F 43 rfl) rW J (qQ (uX jX xX (oQ (qQ wQ (c7 (cx (cv 0) jQ)))) (cf (T.F 42 rfl) qP J (c7 (cx (cv 0) jQ)))) (c7 (cx (cv 0) jQ)))))) (cf (T.F 45 rfl) jG J (c7 (cx (cv 0) jQ)))) (oQ (c7 wQ))))) pQ)
  (xQ (nQ (ct2 rX yX (cx (cv 0) jQ) wQ) (kQ (uQ (uX jX xX (uX jX xX (uX jX xX (uX jX xX (oQ (c7 (cf (T.F 43 rfl) rW J (qQ (oQ (c7 wQ)) (c7 (cx (cv 0) jQ)))))) (cf (T.F 45 rfl) jG J (c7 (cx (cv 0) jQ)))) (oQ (c7 wQ))) (cf (T.F 45 rfl) jG J (c7 (cx (cv 0) jQ)))) (oQ (c7 wQ))))) pQ)
  (xQ (nQ (ct2 rX yX (cx (cv 0) jQ) wQ) (kQ (uQ (uX jX xX (uX jX xX (oQ (c7 (cf (T.F 43 rfl) rW J (qQ (oQ (qQ wQ (c7 (cx (cv 0) jQ)))) (c7 (cx (cv 0) jQ)))))) (cf (T.F 45 rfl) jG J (c7 (cx (cv 0) jQ)))) (oQ (c7 wQ))))) pQ)
  (xQ (fj 1 S.nd (uX jX xX (oQ (c7 (cf (T.F 43 rfl) rW J (qQ (oQ (qQ wQ (c7 (cx (cv 0) jQ)))) (c7 (cx (cv 0) jQ)))))) (sZ rfl (S.c gf) (S.k (L:=0) rfl rfl rfl gf) (qK (cx (cv 0) jQ)) (λ_ _ _ _ _=>fZ) (λ_ _ _ _ _=>(cf (T.F 43 rfl) rW J (qQ (oQ (qQ wQ (c7 (cx (cv 0) jQ)))) (c7 (cx (cv 0) jQ))))))))
  (xQ (mV PassesOwn.never rfl (cx (cv 0) jQ) (oI rfl (pJ (jl 2 S.nd) (pJ (jl 3 S.nd) (pJ (jl 4 S.nd) (pJ (jl 5 S.nd) aH))))) (xQ (kZ (cap (cv 1) (JQ wQ (oQ (qQ wQ (qQ (cv 2) (qQ (mK uY nD rfl T.mB rfl (c7 (cv 3))) (c7 (cx (oQ (qQ wQ (c7 wQ))) (mK K7 Dw rfl T.bT rfl (c7 (cv 4))))))))))))
  (kQ (fj 1 S.nd (uX jX xX (cv 1) (sZ rfl (S.c gf) (S.k (L:=0) rfl rfl rfl gf) (qK (cv 5)) (λ_ _ _ _ _=>fZ) (λ_ _ _ _ _=>(cf (T.F 43 rfl) rW J (qQ (oQ (qQ wQ (qQ (cx (cv 0) jQ) (c7 (cx (cv 0) jQ))))) (c7 (cx (cv 0) jQ)))))))))))
  (kQ (uQ (uX jX xX (uX jX xX (cv 1) (cf (T.F 45 rfl) jG J (c7 (cx (cv 0) jQ)))) (oQ (c7 wQ))))))))))),?_⟩
 .obtain⟨_,rfl,_⟩:=h;rfl
 rintro ts C R ⟨l,rfl,q,hl,ak⟩
 cases l with
 |plain k ah s h ls =>
  have l0:(s.map (lr "set")).length+((h.flatMap Hd.dw).length+((Ln.d7 ls).length+1))+1<=20000:=by
   have:=hl;unfold Ln.rows at this
   simpa only[List.length_cons,List.length_append,List.length_nil,Nat.zero_add] using this
  refine gQ rfl ((dh ?_));refine gQ rfl ((dh ?_));refine gQ rfl ((dh ?_));refine gQ rfl ((dh ?_));refine gQ rfl ⟨jf,λp1 ae=>gQ rfl (jR.mk p1 ["plain",ah] k rfl zQ (Ml (cK gf) (rV q.1.2)) (by show 2<=100;decide) q.1.1 λC1 ab=>⟨jg,λp2 af=>?_⟩)⟩
  have m2:(cQ C1 p2 (.lst [PV.str (gW ([("plain":Str),ah]++jb k))])) p2=some (.lst (jr ["plain"::ah::jb k])):=zQ;have aa:Gr C (cQ C1 p2 (.lst [PV.str (gW ([("plain":Str),ah]++jb k))])):=((Gr.new ae _).trans ab).trans (Gr.new af _);dsimp only[di.wn];generalize cQ C1 p2 (.lst [PV.str (gW ([("plain":Str),ah]++jb k))])=C2 at *
  refine gQ rfl (Xm (w:=lr "set") (by have:=q.2.1.1.2;lia) (λc hc C3 U L hL=>?_) λp3 C3 ao U m3=>gq (U _ _ m2) m3 (by show 1+_<=_;lia) λp4 C4 au g4 m4=>?_)
  .exact gQ rfl ⟨jf,λp5 ag=>gQ rfl (jR.mk p5 ["set",c.1] (some c.2) rfl zQ (Ml (cK gf) (rV (q.2.1.1.1 c hc).1)) (by show 2<=100;decide) (q.2.1.1.1 c hc).2.ko λC6 g6=>hL _ ((Gr.new ag _).trans g6))⟩
  have n4:C p4=none:=bZ (aa.trans U) au;have av:Gr C C4:=aa.trans (U.trans g4);refine wV (aG (gQ rfl ?_));refine uJ (λzs ρ C'=>∃ds es p x2 x3 x4 x5,ds++es=h/\zs=es.map Hd.pv/\ρ=[some (Ln.plain k ah s h ls).pv,some (.ref p),x2,x3,x4,x5]/\C' p=some (.lst (jr (((("plain":Str)::ah::jb k)::s.map (lr "set"))++ds.flatMap Hd.dw)))/\C p=none/\Gr C C') ?_ ?_ _ _ _ ⟨[],h,p4,_,_,_,_,rfl,rfl,rfl,by rw[m4];simp,n4,av⟩
  .rintro z zs ρ C5 ⟨ds,es,p,x2,x3,x4,x5,e,hz,rfl,m,Z,g⟩ L hL
   cases es with
   |nil=>cases hz
   |cons x es =>
    obtain⟨rfl,rfl⟩:=AZ hz;have hh:=q.2.1.2.1 x (by rw[<- e];simp)
    have ll:(s.map (lr "set")).length+1+(ds.flatMap Hd.dw).length+(1+(x.ch.map Lp).length)<=20000:=by
     have e3:(ds++x::es).flatMap Hd.dw=ds.flatMap Hd.dw++(x.dw++es.flatMap Hd.dw):=BC;rw[<- e,e3,AB,AB] at l0;have:x.dw.length=(x.ch.map Lp).length+1:=rfl
     lia
    refine⟨rfl,lZ m,⟨_,rfl⟩,qA (by have:=hh.r1;have:=hh.r3;lia) ⟨jf,λp6 aq=>Ik (tZ zQ (YT _) ⟨j4,λp7 ai=>join_1 (ws:=O9 x) zQ (λu hu=>?_) (by show 4<=100;decide) (RD (ws:=O9 x) Z (g.trans ((Gr.new aq _).trans (Gr.new ai _))) (Gr.new ai _ _ _ (Gr.new aq _ _ _ m)) rfl (by rw[AB,AD];lia) λC8 g8 m8=>?_)⟩)⟩⟩
    .unfold O9 at hu
     simp only[List.mem_cons,List.not_mem_nil,or_false] at hu
     rcases hu with rfl|rfl|rfl|rfl
     .exact(cK gf).l
     .exact(rV hh.ev).l
     .exact(bC ⟨by have:=hh.r1;lia,by have:=hh.r3;lia⟩).l
     .exact(Jg _).l
    refine Xm (w:=Lp) (by have:=hh.cl;lia) (λc hc C9 g9 L' aw=>?_) λp9 C9 O g9 m9=>gq (g9 _ _ m8) m9 (by rw[AB,AB,AD];show _+_+1+_<=_;lia) λpA az ax gA mA=>hL _ _ ⟨ds++[x],es,pA,_,_,_,_,by rw[AI];exact e,rfl,rfl,?_,bZ (g8.trans g9) ax,g8.trans (g9.trans gA)⟩
    .exact gQ rfl (gQ rfl ⟨km,λp5 ag=>gQ rfl (jR.mk p5 ["change",c.1,c.2.1] (some c.2.2) rfl zQ (Y8 (cK gf) (rV (hh.ch c hc).1) (Gd (hh.ch c hc).2.1)) (by show 3<=100;decide) (hh.ch c hc).2.2.ko λC6 g6=>aw _ ((Gr.new ag _).trans g6))⟩)
    .rw[mA]
     have e3:(ds++[x]).flatMap Hd.dw=ds.flatMap Hd.dw++(x.dw++[]):=BC;rw[e3,AM];show _=some (CO.lst (jr (_++(_++(O9 x::x.ch.map Lp)))))
     simp only[List.append_assoc,List.cons_append,List.nil_append]
  .rintro ρ C5 ⟨ds,es,p5,x2,x3,x4,x5,e,hz,rfl,m5,ag,g5⟩
   cases es with
   |cons c es=>cases hz
   |nil =>
    rw[AM] at e;subst e;refine gQ rfl (nS.mk ls (by rw[Ln.d8]) q.2.2.1 ir λp7 C7 ai Y m7=>gq (Y _ _ m5) m7 (by rw[AB];show _+1+_+_<=_;lia) λp8 C8 ar g8 m8=>⟨jg,λp9 O=>gq (ys:=[["end"]]) (Gr.new O _ _ _ m8) zQ (by rw[AB,AB];show _+1+_+_+1<=_;lia) λp C' Z g' m'=>?_⟩);have B:=g5.trans (Y.trans (g8.trans (Gr.new O (.lst [.str "end"]))))
    refine ak p C' (bZ B Z) (B.trans g') ?_;rw[m'];unfold Ln.rows
    simp only[List.append_assoc,List.cons_append,List.nil_append]
 |part k n g =>
  have l0:(g.map (lr "with")).length+1<=20000:=by
   have:=hl;unfold Ln.rows at this
   simpa only[List.length_cons,List.length_append,List.length_nil,Nat.zero_add] using this
  refine gQ rfl ((gj ?_));refine gQ rfl ⟨jf,λp1 ae=>gQ rfl (jR.mk p1 ["draw",n] k rfl zQ (Ml (cK gf) (rV q.1.2)) (by show 2<=100;decide) q.1.1 λC1 ab=>⟨jg,λp2 af=>?_⟩)⟩;have m2:(cQ C1 p2 (.lst [PV.str (gW ([("draw":Str),n]++jb k))])) p2=some (.lst (jr ["draw"::n::jb k])):=zQ;have aa:Gr C (cQ C1 p2 (.lst [PV.str (gW ([("draw":Str),n]++jb k))])):=((Gr.new ae _).trans ab).trans (Gr.new af _)
  dsimp only[di.wn];generalize cQ C1 p2 (.lst [PV.str (gW ([("draw":Str),n]++jb k))])=C2 at *
  refine gQ rfl (Xm (w:=lr "with") (by have:=q.2.2;lia) (λc hc C3 U L hL=>?_) λp3 C3 ao U m3=>gq (U _ _ m2) m3 (by show 1+_<=_;lia) λp C' Z g' m'=>?_)
  .exact gQ rfl ⟨jf,λp5 ag=>gQ rfl (jR.mk p5 ["with",c.1] (some c.2) rfl zQ (Ml (cK gf) (rV (q.2.1 c hc).1)) (by show 2<=100;decide) (q.2.1 c hc).2.ko λC6 g6=>hL _ ((Gr.new ag _).trans g6))⟩
  have B:=aa.trans U;refine ak p C' (bZ B Z) (B.trans g') ?_;rw[m'];unfold Ln.rows
  simp only[List.append_assoc,List.cons_append,List.nil_append]
 |give k n r ls =>
  have l0:((Ln.d7 ls).length+1)+1<=20000:=by
   have:=hl;unfold Ln.rows at this
   simpa only[List.length_cons,List.length_append,List.length_nil,Nat.zero_add] using this
  refine gQ rfl ((dh ?_));refine gQ rfl ((gj ?_));refine gQ rfl ⟨jf,λp1 ae=>gQ rfl (Iw.mk r rfl q.2.1.g q.2.1.l λp0 C0 a3 g0 ay=>lM (xs:=[.str "give",.str n]) (g0 _ _ zQ) ay (by have:=q.2.1.l;rw[AA];exact AK (show 2+r.dw.length<=100 by lia) Th) λp3 ao=>gQ rfl (jR.mk p3 (("give":Str)::n::r.dw) k rfl zQ (λw aj=>?_) (by show r.dw.length+1+1<=100;have:=q.2.1.l;lia) q.1.1 λC1 ab=>⟨jg,λp2 af=>?_⟩))⟩
  .rcases Ah.1 aj with rfl|aj
   .exact cK gf
   .rcases Ah.1 aj with rfl|aj
    .exact rV q.1.2
    .exact Rk.wo q.2.1.g w aj
  have m2:(cQ C1 p2 (.lst [PV.str (gW ((("give":Str)::n::r.dw)++jb k))])) p2=some (.lst (jr ["give"::n::(r.dw++jb k)])):=zQ;have aa:Gr C (cQ C1 p2 (.lst [PV.str (gW ((("give":Str)::n::r.dw)++jb k))])):=((((Gr.new ae _).trans g0).trans (Gr.new ao _)).trans ab).trans (Gr.new af _);dsimp only[di.wn];generalize cQ C1 p2 (.lst [PV.str (gW ((("give":Str)::n::r.dw)++jb k))])=C2 at *
  refine gQ rfl (nS.mk ls (by rw[Ln.d8]) q.2.2.1 ir λp7 C7 ai Y m7=>gq (Y _ _ m2) m7 (by show 1+_<=_;lia) λp8 C8 ar g8 m8=>⟨jg,λp9 O=>gq (ys:=[["end"]]) (Gr.new O _ _ _ m8) zQ (by rw[AB];show 1+_+1<=_;lia) λp C' Z g' m'=>?_⟩);have B:=aa.trans (Y.trans (g8.trans (Gr.new O (.lst [.str "end"]))));refine ak p C' (bZ B Z) (B.trans g') ?_
  rw[m'];unfold Ln.rows
  simp only[List.append_assoc,List.cons_append,List.nil_append]
 |when r l1 l2 =>
  have l0:((Ln.d7 l1).length+((Ln.d7 l2).length+1+1))+1<=20000:=by
   have:=hl;unfold Ln.rows at this
   simpa only[List.length_cons,List.length_append,List.length_nil,Nat.zero_add] using this
  refine gQ rfl ((dh ?_));refine gQ rfl ((dh ?_));refine gQ rfl ((gj ?_));refine⟨jg,λp1 ae=>gQ rfl (jR.mk p1 ["when"] (some r) rfl zQ (Y9 (cK gf)) (by show 1<=100;decide) q.1.ko λC1 ab=>⟨jg,λp2 af=>?_⟩)⟩;have m2:(cQ C1 p2 (.lst [PV.str (gW ([("when":Str)]++jb (some r)))])) p2=some (.lst (jr ["when"::r.dw])):=zQ
  have aa:Gr C (cQ C1 p2 (.lst [PV.str (gW ([("when":Str)]++jb (some r)))])):=((Gr.new ae _).trans ab).trans (Gr.new af _);dsimp only[di.wn];generalize cQ C1 p2 (.lst [PV.str (gW ([("when":Str)]++jb (some r)))])=C2 at *
  refine gQ rfl (nS.mk l1 (by rw[Ln.d8]) q.2.1.1 ir λp3 C3 ao U m3=>gq (U _ _ m2) m3 (by show 1+_<=_;lia) λp4 C4 au g4 m4=>⟨jg,λp5 ag=>gq (ys:=[["else"]]) (Gr.new ag _ _ _ m4) zQ (by rw[AB];show 1+_+1<=_;lia) λp6 C6 aq g6 m6=>gQ rfl (nS.mk l2 (by rw[Ln.d8]) q.2.2.1 ir λp7 C7 ai Y m7=>gq (Y _ _ m6) m7 (by rw[AB,AB];show 1+_+1+_<=_;lia) λp8 C8 ar g8 m8=>⟨jg,λp9 O=>gq (ys:=[["end"]]) (Gr.new O _ _ _ m8) zQ (by rw[AB,AB,AB];show 1+_+1+_+1<=_;lia) λp C' Z g' m'=>?_⟩)⟩)
  have B:=aa.trans (U.trans (g4.trans ((Gr.new ag (.lst [.str "else"])).trans (g6.trans (Y.trans (g8.trans (Gr.new O (.lst [.str "end"]))))))));refine ak p C' (bZ B Z) (B.trans g') ?_;rw[m'];unfold Ln.rows
  simp only[List.append_assoc,List.cons_append,List.nil_append]
 |each n r ls =>
  have l0:((Ln.d7 ls).length+1)+1<=20000:=by
   have:=hl;unfold Ln.rows at this
   simpa only[List.length_cons,List.length_append,List.length_nil,Nat.zero_add] using this
  refine gQ rfl ((dh ?_));refine gQ rfl ((dh ?_));refine gQ rfl ((dh ?_));refine gQ rfl ((gj ?_));refine gQ rfl ⟨jf,λp1 ae=>gQ rfl (jR.mk p1 ["each",n] (some r) rfl zQ (Ml (cK gf) (rV q.1.2)) (by show 2<=100;decide) q.1.1.ko λC1 ab=>⟨jg,λp2 af=>?_⟩)⟩
  have m2:(cQ C1 p2 (.lst [PV.str (gW ([("each":Str),n]++jb (some r)))])) p2=some (.lst (jr ["each"::n::r.dw])):=zQ;have aa:Gr C (cQ C1 p2 (.lst [PV.str (gW ([("each":Str),n]++jb (some r)))])):=((Gr.new ae _).trans ab).trans (Gr.new af _);dsimp only[di.wn];generalize cQ C1 p2 (.lst [PV.str (gW ([("each":Str),n]++jb (some r)))])=C2 at *
  refine gQ rfl (nS.mk ls (by rw[Ln.d8]) q.2.1 ir λp7 C7 ai Y m7=>gq (Y _ _ m2) m7 (by show 1+_<=_;lia) λp8 C8 ar g8 m8=>⟨jg,λp9 O=>gq (ys:=[["end"]]) (Gr.new O _ _ _ m8) zQ (by rw[AB];show 1+_+1<=_;lia) λp C' Z g' m'=>?_⟩);have B:=aa.trans (Y.trans (g8.trans (Gr.new O (.lst [.str "end"]))));refine ak p C' (bZ B Z) (B.trans g') ?_;rw[m']
  unfold Ln.rows
  simp only[List.append_assoc,List.cons_append,List.nil_append]
def WE(T:Tx W a)d r(kT:Ok W a r 44 ["_law_line"] (Tc d)):Ok W a (r+1) 45 ["_law_lines"] (nS d):=by
 have S:=(T.F 45 rfl).s
 refine(T.F 45 rfl).ok (λts C R h=>?_) λag A outer s H E ae=>⟨_,(xQ (fj 1 S.nd (oQ cX))
  (xQ (mV PassesOwn.never rfl (cv 0) (jl 2 S.nd) (kQ (fj 1 S.nd (uX jX xX (cv 1) (cf (T.F 44 rfl) kT ae (c7 (cv 2)))))))
  (kQ (uQ (cv 1))))),?_⟩
 .obtain⟨_,rfl,_⟩:=h;rfl
 rintro ts C R ⟨ls,rfl,aa,U,af⟩;refine⟨AF _,λp q=>wV (vR rfl (uJ (λzs ρ C'=>∃ds es p O,ds++es=ls/\zs=es.map Ln.pv/\ρ=[some (.tup (ls.map Ln.pv)),some (.ref p),O]/\C' p=some (.lst (jr (Ln.d7 ds)))/\C p=none/\Gr C C') ?_ ?_ _ _ _ ⟨[],ls,p,_,rfl,rfl,rfl,zQ,q,Gr.new q _⟩))⟩
 .rintro z zs ρ C1 ⟨ds,es,p,O,e,B,rfl,m,q,g⟩ L Z
  cases es with
  |nil=>cases B
  |cons l es =>
   obtain⟨rfl,rfl⟩:=AZ B
   have ll:(Ln.d7 ds).length+(l.rows.length+(Ln.d7 es).length)<=20000:=by
    rw[<- e,bO,AB] at U;have:Ln.d7 (l::es)=l.rows++Ln.d7 es:=rfl
    rwa[this,AB] at U
   refine Tc.mk l rfl (aa l (by grind)) ir λp3 C3 ah J m3=>gq (J _ _ m) m3 ir λp4 C4 ab Y m4=>Z _ _ ⟨ds++[l],es,p4,_,by rw[AI];exact e,rfl,rfl,?_,bZ (g.trans J) ab,g.trans (J.trans Y)⟩;rw[m4,bO];show _=some (CO.lst (jr (_++(l.rows++[]))));rw[AM]
 .rintro ρ C1 ⟨ds,es,p,O,e,B,rfl,m,q,g⟩
  cases es with
  |nil =>
   rw[AM] at e;subst e;exact af p C1 q g m
  |cons c es=>cases B
theorem Jc(T:Tx W a):∀d,Ok W a (2*d+33) 45 ["_law_lines"] (nS d)
 |0=>WE T 0 32 (xD λts C Q ⟨l,_,h,_,_⟩=>by cases l<;>exact h)
 |d+1=>WE T (d+1) (2*d+34) (NP T d (2*d+33) (Nat.le_add_left _ _) (Jc T d))
def Ec n t:("box ":Str)++n++" "++t=gW ["box",n,t]:=by
 show _=("box":Str)++" "++(n++" "++t);rw[show("box ":Str)="box"++" " from by decide +kernel,jO ("box"++" ") n " ",jO ("box"++" ")]
def Ws n:("part ":Str)++n=gW ["part",n]:=by
 show _=("part":Str)++" "++n;rw[show("part ":Str)="part"++" " from by decide +kernel]
def Y0(l:x.length+y.length<=20000)(q:Q (.str (x++y)) C):bB (.str x) (.str y) C Q:=by
 delta bB
 exact⟨AK l Th,q⟩
def aE(x y:Str):(x++y).length=x.length+y.length:=PySem.Str.length_append x y
def Hw(T:Tx W a):Ok W a 58 46 ["_law_house"] Pb:=by
 have S:=(T.F 46 rfl).s;have rW:=(Wz T).mono (show 32<=57 by decide);have jG:=Jc T 12
 refine(T.F 46 rfl).ok (λts C R h=>?_) λaq A outer s H E ah=>⟨_,(xQ (fj 1 S.nd (oQ cX))
  (xQ (mV PassesOwn.never rfl (cv 0) (oI rfl (pJ (jl 2 S.nd) (pJ (jl 3 S.nd) (pJ (jl 4 S.nd) (pJ (jl 5 S.nd) aH))))) (xQ (fj 1 S.nd (uX jX xX (uX jX xX (cv 1) (oQ (c7 (uX jX xX wQ (cv 2))))) (sZ rfl (S.c gf) (S.k (L:=0) rfl rfl rfl gf) (qK (cv 3)) (λ_ _ _ _ _=>fZ) (λ_ _ _ _ _=>(uX jX xX (uX jX xX (uX jX xX wQ (cx (cv 0) jQ)) wQ) (mK uY nD rfl T.mB rfl (c7 (cx (cv 0) jQ))))))))
  (kQ (fj 1 S.nd (uX jX xX (uX jX xX (cv 1) (sZ rfl (S.c gf) (S.k (L:=0) rfl rfl rfl gf) (qK (cv 4)) (λ_ _ _ _ _=>fZ) (λ_ _ _ _ _=>(cf (T.F 43 rfl) rW ah (qQ (oQ (qQ wQ (c7 (cx (cv 0) jQ)))) (c7 (cx (cv 0) jQ))))))) (cf (T.F 45 rfl) jG ah (c7 (cv 5))))))))
  (kQ (uQ (cv 1))))),?_⟩
 .obtain⟨_,rfl,_⟩:=h;rfl
 rintro ts C R ⟨ab,rfl,aj,hl,ao⟩;refine⟨AF _,λp B=>?_⟩;dsimp only[di.wn];refine wV (vR rfl (uJ (λzs ρ C'=>∃ds es p x2 x3 x4 x5,ds++es=ab/\zs=es.map Pt.pv/\ρ=[some (.tup (ab.map Pt.pv)),some (.ref p),x2,x3,x4,x5]/\C' p=some (.lst (jr (gZ ds)))/\C p=none/\Gr C C') ?_ ?_ _ _ _ ⟨[],ab,p,_,_,_,_,rfl,rfl,rfl,zQ,B,Gr.new B _⟩))
 .rintro z zs ρ C1 ⟨ds,es,p,x2,x3,x4,x5,e,hz,rfl,m,B,g⟩ L hL
  cases es with
  |nil=>cases hz
  |cons x es =>
   obtain⟨rfl,rfl⟩:=AZ hz;have q:=aj x (by rw[<- e];simp)
   have ll:(gZ ds).length+((x.first.map Rx).length+((x.works.map (lr "work")).length+(Ln.d7 x.ls).length)+1)<=20000:=by
    have e1:gZ (ds++x::es)=gZ ds++(x.rows++gZ es):=BC;rw[<- e,e1,AB,AB] at hl
    have:x.rows.length=(x.first.map Rx).length+((x.works.map (lr "work")).length+(Ln.d7 x.ls).length)+1:=by
     delta Pt.rows
     rw[AD,AB,AB]
    lia
   have ay:=Oq q.nm;have c5:("part ":Str).length=5:=gf
   have c4:("box ":Str).length=4:=gf
   have c1:(" ":Str).length=1:=gf
   refine⟨rfl,Y0 ir ⟨jg,λp1 af=>gq (ys:=[["part",x.name]]) (Gr.new af _ _ _ m) (by rw[zQ,Ws];rfl) (by show _+1<=_;lia) λp2 C2 ar ai m2=>?_⟩⟩;have ae:Gr C C2:=g.trans ((Gr.new af _).trans ai);refine Xm (f:=nW) (w:=Rx) (by have:=q.fl;lia) (λc Z C3 J L' aa=>?_) λp3 C3 au J m3=>gq (J _ _ m2) m3 (by rw[AB];show _+1+_<=_;lia) λp4 C4 av g4 m4=>?_
   .have Y:=q.fs c Z
    have l1:=Oq Y.1;have l2:=(bC Y.2).len;refine gQ rfl (Y0 ir (Y0 (by rw[aE];lia) (gQ rfl (qA (by have:=Y.2.1;have:=Y.2.2;lia) (Y0 (by rw[aE,aE];lia) ?_)))));rw[Ec];exact aa _ Gr.refl
   dsimp only[di.wn];refine Xm (f:=yV) (w:=lr "work") (by have:=q.wk.2;lia) (λc Z C5 O L' aa=>?_) λp5 C5 ag O m5=>gq (O _ _ m4) m5 (by rw[AB,AB];show _+1+_+_<=_;lia) λp6 C6 aw U m6=>nS.mk x.ls (by rw[Ln.d8]) q.ls ir λp7 C7 ax g7 m7=>gq (g7 _ _ m6) m7 (by rw[AB,AB,AB];show _+1+_+_+_<=_;lia) λp8 C8 ak g8 m8=>hL _ _ ⟨ds++[x],es,p8,_,_,_,_,by rw[AI];exact e,rfl,rfl,?_,bZ (ae.trans (J.trans (g4.trans (O.trans (U.trans g7))))) ak,ae.trans (J.trans (g4.trans (O.trans (U.trans (g7.trans g8)))))⟩
   .exact gQ rfl ⟨jf,λp5 ag=>gQ rfl (jR.mk p5 ["work",c.1] (some c.2) rfl zQ (Ml (cK gf) (rV (q.wk.1 c Z).1)) (by show 2<=100;decide) (q.wk.1 c Z).2.ko λC6 U=>aa _ ((Gr.new ag _).trans U))⟩
   .rw[m8]
    have e1:gZ (ds++[x])=gZ ds++(x.rows++[]):=BC;rw[e1,AM]
    delta Pt.rows
    simp only[List.append_assoc,List.cons_append,List.nil_append]
 .rintro ρ C1 ⟨ds,es,p,x2,x3,x4,x5,e,hz,rfl,m,B,g⟩
  cases es with
  |nil =>
   rw[AM] at e;subst e;exact ao p C1 B g m
  |cons c es=>cases hz
end
noncomputable def Rk.ins:Rk->List Rk
 |.bin _ x y=>[x,y]
 |.pick x y z=>[x,y,z]
 |_=>[]
noncomputable def Rk.sz:Rk->Nat
 |.bin _ x y=>1+(x.sz+y.sz)
 |.pick x y z=>1+(x.sz+(y.sz+z.sz))
 |_=>1
noncomputable def kj(q:List Rk):Nat:=(q.map Rk.sz).sum
theorem Rk.lq:∀r:Rk,r.sz=1+kj r.ins
 |.num _=>rfl
 |.turn _=>rfl
 |.ask _ _=>rfl
 |.bin _ _ _=>rfl
 |.pick _ _ _=>rfl
def gV a b:kj (a++b)=kj a+kj b:=by simp[kj,List.map_append]
def Rk.GQ(r:Rk):1<=r.sz:=by rw[r.lq];lia
def sM q:q.length<=kj q:=by
 induction q with
 |nil=>exact AF _
 |cons r q B=>show q.length+1<=r.sz+kj q;have:=r.GQ;lia
def Rk.my{r:Rk}(h:r.gd):∀x∈r.ins,x.gd:=by
 intro x q
 cases r with
 |num i=>cases q
 |turn n=>cases q
 |ask s n=>cases q
 |bin w y z =>
  simp only[Rk.ins,List.mem_cons,List.not_mem_nil,or_false] at q
  rcases q with rfl|rfl
  .exact h.2.1
  .exact h.2.2
 |pick y z v =>
  simp only[Rk.ins,List.mem_cons,List.not_mem_nil,or_false] at q
  rcases q with rfl|rfl|rfl
  .exact h.1
  .exact h.2.1
  .exact h.2.2
section
variable{W:Wd}{a:Adr}
inductive uo(ts:List PV)(C:CH)(Q:K1):Prop
 |mk(z:Str)(z0:ts=[.str z])(zn:qZ z=true)(z1:∀C',Gr C C'->Q (.bl true) C')
def fY(T:Tx W a):Ok W a (k+1) 1 ["thing"] uo:=by
 have S:=(T.F 1 rfl).s
 refine(T.F 1 rfl).ok (λts C R h=>?_) λZ A outer s H E aa=>⟨_,(xQ (nQ (dq (dN (vX (zX (aQ sQ nX rfl T.lQ rfl (qQ (cv 0) (c7 (oZ rfl T.mB rfl)))))) (dm (vX (gD bG bG iV iV jQ (gw T.tX (cv 0)) (wZ (v:=.int 8) rfl T.tS ⟨_,rfl⟩ (λ_=>.int _))))))) (kQ (uQ sX)) pQ)
  (kQ (uQ (aQ (aW rfl) oG rfl T.vP rfl (c7 (sZ rfl (S.c gf) (S.k (L:=0) rfl rfl rfl gf) (Zy (cv 0)) (λ_ _ _ _ _=>fZ) (λ_ _ _ _ _=>(qJ lO JK (cv 0) (wZ (v:=.str "abcdefghijklmnopqrstuvwxyz") rfl T.Yc ⟨_,rfl⟩ (λ_=>.str _)) rfl)))))))),?_⟩
 .obtain⟨_,rfl,_⟩:=h;rfl
 rintro ts C R ⟨z,rfl,B,q⟩;have J:z.length<=sizeLine:=AK (Oq B) Th
 delta qZ at B
 rw[Aq,Aq] at B;refine wX rfl rfl (lX (Jf J (gk (gJ (λh1=>?_) λh1=>?_))))
 .apply gk
  rw[B.1.2];refine lX (fQ (qW (λs=>match s with | .str u=>.bl (!(Builtin.Str.occurrences ("abcdefghijklmnopqrstuvwxyz":Str) u 0 ("abcdefghijklmnopqrstuvwxyz":Str).length 1).isEmpty)|_=>.non) (yB z) [] C Gr.refl ?_ (λx U C1 Y g O=>?_) λp C1 h3 g m=>?_))
  .delta yB
   rwa[AA,A0,BV,Bv]
  .obtain⟨c,_,rfl⟩:=AX.1 U
   exact Fy (O C1 Gr.refl)
  .apply YY (bs:=z.cps.toList.map wD) (by rw[m];delta yB;rw[Aj,Aj];rfl)
   rw[show(z.cps.toList.map wD).all id=true from by exact List.all_map▸B.2];exact q C1 g
 .rw[B.1.1] at h1
  cases h1
inductive Mw(ts:List PV)(C:CH)(Q:K1):Prop
 |mk(r:Rk)(z0:ts=[r.pv])(zg:r.gd)(zi:r.ins=[])(z1:∀C',Gr C C'->Q (.bl true) C')
def Kt(T:Tx W a):Ok W a (k+2) 4 ["thing"] Mw:=by
 have U:=wY (k:=k) T;have Y:=fY (k:=k) T
 refine(T.F 4 rfl).ok (λts C R h=>?_) λZ A outer s H E J=>⟨_,(xQ (nQ (ct2 xY zV (gw T.tX (cv 0)) jQ) (kQ (uQ sX)) pQ)
  (xQ (nQ (ct2 rX yX (cx (cv 0) jQ) wQ) (kQ (uQ (cf (T.F 0 rfl) U J (c7 (cx (cv 0) jQ))))) pQ)
  (kQ (uQ (cV (qJ (jM (dG J)) pD (cx (cv 0) jQ) (wZ (v:=.ref a.NAMING) rfl T.Jo rfl (λH=>.kt (T.Z2 H) (.cons (.str _) (.cons (.str _) (.cons (.str _) (.cons (.str _) .nil)))))) rfl) (pV (cf (T.F 1 rfl) Y J (c7 (cx (cv 0) jQ))))))))),?_⟩
 .obtain⟨_,rfl,_⟩:=h;rfl
 rintro ts C R ⟨r,rfl,B,hi,q⟩
 cases r with
 |num i =>
  have L:=B;refine mX (mQ (eQ _ _) (bQ rfl (gQ rfl (mQ (vQ _ _) (eX (by grind) (gQ rfl ⟨i,rfl,?_⟩))))));rw[show xI i=true from by delta xI;rw[AU L.1,AU L.2];rfl];exact q C Gr.refl
 |turn n=>exact mX (mQ (eQ _ _) (bQ rfl (gQ rfl ((dh (gQ rfl (tV rfl rfl (eX gf (gQ rfl (uo.mk n rfl B q))))))))))
 |ask s n =>
  obtain⟨hs,O⟩:=B
  rcases hs with rfl|rfl|rfl<;>exact mX (mQ (eQ _ _) (bQ rfl (gQ rfl ((dh (gQ rfl (tV rfl rfl (eX gf (gQ rfl (uo.mk n rfl O q))))))))))
 |bin w x y=>cases hi
 |pick x y z=>cases hi
end
noncomputable def Ow(z:Str):Option PV:=if z="add"\/z="times"\/z="less" then some (.int 2) else if z="pick" then some (.int 3) else none
noncomputable def Ox:List (Key×V):=[(Sum.inr "add",.int 2),(Sum.inr "times",.int 2),(Sum.inr "less",.int 2),(Sum.inr "pick",.int 3)]
def Jh:∀z t,Ow z=some t->∃v,aK Ox (Sum.inr z)=some v/\∀H,Rep K H v t:=by
 intro z t h
 delta Ow at h
 split at h
 .next e =>
  cases h;exact⟨.int 2,by rcases e with rfl|rfl|rfl<;>rfl,λH=>.int _⟩
 .split at h
  .next e =>
   cases h;exact⟨.int 3,by subst e;rfl,λH=>.int _⟩
  .cases h
def rH(q:∀p,C p=none->Q (.ref p) (cQ C p (.lst xs))):ZD [.tup xs] C Q:=q
section
variable{W:Wd}{a:Adr}
inductive R3(ts:List PV)(C:CH)(Q:K1):Prop
 |mk(r:Rk)(z0:ts=[r.pv])(zg:r.gd)(z1:gH C (r.ins.map Rk.pv) Q)
def QK(T:Tx W a):Ok W a (k+3) 3 ["thing"] R3:=by
 have Y:=Kt (k:=k) T;have O:=Jh (K:=W.K)
 refine(T.F 3 rfl).ok (λts C R h=>?_) λZ A outer s H E U=>⟨_,(xQ (nQ (dq (dN (vX (zX (aQ sQ nX rfl T.lQ rfl (qQ (cv 0) (c7 (oZ rfl T.xZ rfl)))))) (dm (ct2 rX yX (gw T.tX (cv 0)) jQ)))) (kQ (uQ jZ)) pQ)
  (xQ (fj 1 ((T.F 3 rfl).s).nd (cx (cv 0) jQ))
  (xQ (nQ (vX (zX (aQ sQ nX rfl T.lQ rfl (qQ (cv 1) (c7 (oZ rfl T.mB rfl)))))) (kQ (uQ jZ)) pQ)
  (xQ (nQ (xJ (xM T.mU) pM (cv 1) (wZ (v:=.ref a.JOINING) rfl T.bU rfl (λ_=>.ref _)) rfl) (kQ (uQ (lD (ct2 rX yX (gw T.tX (cv 0)) (uX jX xX jQ (iH T.mU O (wZ (v:=.ref a.JOINING) rfl T.bU rfl (λ_=>.ref _)) (cv 1) (λ_ _=>rfl)))) (mK sD JU rfl T.vN rfl (c7 (eL (cv 0) (oJ jQ) uK))) jZ))) pQ)
  (kQ (uQ (lD (zX (cf (T.F 4 rfl) Y U (c7 (cv 0)))) (oQ cX) jZ))))))),?_⟩
 .obtain⟨_,rfl,_⟩:=h;rfl
 rintro ts C R ⟨r,rfl,J,q⟩
 cases r with
 |num i=>exact wX rfl rfl (lX (mX (mQ (eQ _ _) (bQ rfl (fQ (gQ rfl (wX rfl rfl (lX (fQ ⟨_,rfl,rfl,bQ gf (fQ (Mw.mk (.num i) rfl J rfl λC' g=>eX rfl ⟨AF _,λp B=>q p _ (bZ g B) (g.trans (Gr.new B _)) zQ⟩))⟩)))))))))
 |turn n=>exact wX rfl rfl (lX (mX (mQ (eQ _ _) (bQ rfl (fQ (gQ rfl (wX rfl rfl (lX (fQ ⟨_,rfl,rfl,bQ gf (fQ (Mw.mk (.turn n) rfl J rfl λC' g=>eX rfl ⟨AF _,λp B=>q p _ (bZ g B) (g.trans (Gr.new B _)) zQ⟩))⟩)))))))))
 |ask s n =>
  have L:=J;obtain⟨hs,hn⟩:=J
  rcases hs with rfl|rfl|rfl
  .exact wX rfl rfl (lX (mX (mQ (eQ _ _) (bQ rfl (fQ (gQ rfl (wX rfl rfl (lX (fQ ⟨_,rfl,rfl,bQ gf (fQ (Mw.mk (.ask _ n) rfl L rfl λC' g=>eX rfl ⟨AF _,λp B=>q p _ (bZ g B) (g.trans (Gr.new B _)) zQ⟩))⟩)))))))))
  .exact wX rfl rfl (lX (mX (mQ (eQ _ _) (bQ rfl (fQ (gQ rfl (wX rfl rfl (lX (fQ ⟨_,rfl,rfl,bQ gf (fQ (Mw.mk (.ask _ n) rfl L rfl λC' g=>eX rfl ⟨AF _,λp B=>q p _ (bZ g B) (g.trans (Gr.new B _)) zQ⟩))⟩)))))))))
  .exact wX rfl rfl (lX (mX (mQ (eQ _ _) (bQ rfl (fQ (gQ rfl (wX rfl rfl (lX (fQ ⟨_,rfl,rfl,bQ gf (fQ (Mw.mk (.ask _ n) rfl L rfl λC' g=>eX rfl ⟨AF _,λp B=>q p _ (bZ g B) (g.trans (Gr.new B _)) zQ⟩))⟩)))))))))
 |bin w x y =>
  rcases J.1 with rfl|rfl|rfl
  .exact wX rfl rfl (lX (mX (mQ (eQ _ _) (bQ rfl (fQ (gQ rfl (wX rfl rfl (lX (fQ ⟨_,rfl,rfl,eX gf (mX ⟨_,_,rfl,rfl,rfl,eJ (mQ (eQ _ _) (eX rfl (iF (rH λp B=>q p _ B (Gr.new B _) zQ))))⟩)⟩)))))))))
  .exact wX rfl rfl (lX (mX (mQ (eQ _ _) (bQ rfl (fQ (gQ rfl (wX rfl rfl (lX (fQ ⟨_,rfl,rfl,eX gf (mX ⟨_,_,rfl,rfl,rfl,eJ (mQ (eQ _ _) (eX rfl (iF (rH λp B=>q p _ B (Gr.new B _) zQ))))⟩)⟩)))))))))
  .exact wX rfl rfl (lX (mX (mQ (eQ _ _) (bQ rfl (fQ (gQ rfl (wX rfl rfl (lX (fQ ⟨_,rfl,rfl,eX gf (mX ⟨_,_,rfl,rfl,rfl,eJ (mQ (eQ _ _) (eX rfl (iF (rH λp B=>q p _ B (Gr.new B _) zQ))))⟩)⟩)))))))))
 |pick x y z=>exact wX rfl rfl (lX (mX (mQ (eQ _ _) (bQ rfl (fQ (gQ rfl (wX rfl rfl (lX (fQ ⟨_,rfl,rfl,eX gf (mX ⟨_,_,rfl,rfl,rfl,eJ (mQ (eQ _ _) (eX rfl (iF (rH λp B=>q p _ B (Gr.new B _) zQ))))⟩)⟩)))))))))
inductive Us(ts:List PV)(C:CH)(Q:K1):Prop
 |mk(r:Rk)(z0:ts=[r.pv])(zg:r.gd)(zs:r.sz<=100)(z1:∀C',Gr C C'->Q (.bl (decide (r.sz<=20))) C')
def Hu(T:Tx W a):Ok W a (k+4) 2 ["thing"] Us:=by
 have S:=(T.F 2 rfl).s;have xG:=QK (k:=k) T
 refine(T.F 2 rfl).ok (λts C R h=>?_) λaj A outer s H E ag=>⟨_,(xQ (fj 1 S.nd (oQ (c7 (cv 0))))
  (xQ (fj 2 S.nd jQ)
  (xQ (lY PassesOwn.never (pI (cv 1)) (xQ (dI 2 S.nd jQ)
  (xQ (fj 3 S.nd (cf (T.F 3 rfl) xG ag (c7 (dM Ae BE BD kM sG (cv 1)))))
  (xQ (nQ (dq (dN (ct2 zM nG (cv 3) jZ) (dm (ct2 oW eK (cv 2) (wZ (v:=.int 20) rfl T.fL ⟨_,rfl⟩ (λ_=>.int _)))))) (kQ (uQ sX)) pQ)
  (kQ (kZ (rD Ae BR BQ (λp s σ H x vs v us Q=>vU p s σ H x vs v us Q) rY (cv 1) (c7 (cv 3)))))))))
  (kQ (uQ sX))))),?_⟩
 .obtain⟨_,rfl,_⟩:=h;rfl
 rintro ts C R ⟨r,rfl,ae,hz,aa⟩;refine⟨jg,λp U=>?_⟩;dsimp only[di.wn];refine aX (mZ (λah C'=>Gr C C'/\r.sz<=20) (λL hL=>?_) λah C' zz=>lL zz λg h=>(by have:=aa C' g;rwa[AU h] at this));refine⟨r.sz+1,yG (λn ρ C'=>∃q c x3,n=kj q/\(c+kj q=r.sz/\c<=20)/\(∀x∈q,x.gd)/\ρ=[some r.pv,some (.ref p),some (.int c),x3]/\C' p=some (.lst (q.map Rk.pv))/\Gr C C') ?_ _ r.sz _ _ (A3 _) ⟨[r],0,_,by show _=r.sz+0;lia,⟨by show 0+(r.sz+0)=_;lia,by lia⟩,λx O=>(AR.1 O)▸ae,rfl,zQ,Gr.new U _⟩⟩
 rintro n ρ C1 L1 ⟨q,c,x3,rfl,⟨Y,ai⟩,af,rfl,m,g⟩ ab
 apply ZO rfl m
 rcases q.eq_nil_or_concat with rfl|⟨ys,x,rfl⟩
 .exact gB rfl (hL _ _ ⟨g,by have:c+0=r.sz:=Y;lia⟩)
 .rw[Bc] at *
  rw[gV,show kj [x]=x.sz from An _] at Y;rw[AG] at m ⊢
  apply yH (by cases h:ys.map Rk.pv<;>rfl)
  refine wV ⟨_,rfl,_,rfl,?_⟩;refine⟨lZ m,uP m (y:=x.pv) ue ?_⟩;rw[show(ys.map Rk.pv++[x].map Rk.pv).dropLast=ys.map Rk.pv from BL];have m2:cQ C1 p (.lst (ys.map Rk.pv)) p=some (.lst (ys.map Rk.pv)):=zQ;have Z:Gr C (cQ C1 p (.lst (ys.map Rk.pv))):=λb o B=>(yQ (zZ U B)).trans (g _ _ B);have O:=af x ue;have ei:=x.lq;have yl:=sM ys;have il:=sM x.ins;refine R3.mk x rfl O λp3 C3 ak J m3=>?_
  refine(gk (gJ (λh1=>?_) λh1=>?_))
  .have:=aa C3 (Z.trans J)
   rw[AW ir] at this;exact this
  refine fQ ⟨lZ (J _ _ m2),bM (J _ _ m2) m3 (by rw[AA,AA];exact AK (show _<=1000 by lia) Th) ?_⟩;refine ab (kj (ys++x.ins)) _ _ (by rw[gV,gV,show kj [x]=x.sz from An _];lia) ⟨ys++x.ins,c+1,_,rfl,⟨by rw[gV];lia,by lia⟩,λy hy=>?_,rfl,by rw[zQ,AG],λb o B=>(yQ (zZ U B)).trans ((Z.trans J) _ _ B)⟩
  rcases AY.1 hy with h|h
  .grind
  .exact Rk.my O y h
end
def cL(ss:List Str):cY (ss.map PV.str)=some (ss.map V.str):=by
 induction ss with
 |nil=>rfl
 |cons s ss q =>
  show(match wR (.str s),cY (ss.map PV.str) with|some v,some vs=>some (v::vs)|_,_=>none)=_;rw[q]
  rfl
theorem za{ss:List Str}(h:n∈ss):inV (.str n) (ss.map V.str)=true:=by simp_all[inV,List.any_eq_true,eqV]
def Jl n(ss:List Str):inV (.str n) (ss.map V.str)=decide (n∈ss):=by grind[za,decide_eq_true,decide_eq_false,inV,List.any_eq_false,eqV]
def Il{ss:List Str}(hs:oN C y=some (ss.map PV.str))(q:Q (.bl (decide (n∈ss))) C):eR false (.str n) y C Q:=by
 apply aO hs rfl (cL ss)
 rw[Jl];cases h:decide (n∈ss)<;>rw[h] at q<;>exact q
def mP{ss:List Str}(hs:oN C y=some (ss.map PV.str))(q:Q (.bl (!decide (n∈ss))) C):eR true (.str n) y C Q:=by
 apply aO hs rfl (cL ss)
 rw[Jl];cases h:decide (n∈ss)<;>rw[h] at q<;>exact q
def Q1{ss:List Str}(hs:oN C y=some (ss.map PV.str))(h:n∈ss)(q:Q (.bl false) C):eR true (.str n) y C Q:=mP hs ir
def j8{p q:CH->Prop}(h1:b=true->q C)(h2:b=false->p C):yL (λb C1=>if(!b)=true then p C1 else q C1) (.bl b) C:=by
 cases b
 .exact h2 rfl
 .exact h1 rfl
noncomputable def tN(ss:List Str):PV:=.tup (ss.map PV.str)
noncomputable def Rk.lf(bs q:List Str):Rk->Bool
 |.turn n=>decide (n∈q)
 |.ask s n=>!decide (s="box") || decide (n∈bs)
 |_=>true
noncomputable def Rk.fits(bs q:List Str):Rk->Bool
 |.turn n=>decide (n∈q)
 |.ask s n=>!decide (s="box") || decide (n∈bs)
 |.num _=>true
 |.bin _ x y=>x.fits bs q&&(y.fits bs q&&true)
 |.pick x y z=>x.fits bs q&&(y.fits bs q&&(z.fits bs q&&true))
theorem Rk.o4 bs q:∀r:Rk,r.fits bs q=(r.lf bs q&&r.ins.all (Rk.fits bs q))
 |.num _=>rfl
 |.turn _=>(Ao _).symm
 |.ask _ _=>(Ao _).symm
 |.bin _ _ _=>rfl
 |.pick _ _ _=>rfl
noncomputable def j7(bs q:List Str)(r:Rk):Bool:=decide (r.sz<=20)&&r.fits bs q
noncomputable def mj(bs q:List Str):Option Rk->Bool
 |none=>true
 |some r=>j7 bs q r
section
variable{W:Wd}{a:Adr}
inductive FZ(ts:List PV)(C:CH)(Q:K1):Prop
 |mk(bs τ:List Str)(r:Rk)(z0:ts=[r.pv,tN bs,tN τ])(zg:r.gd)(zs:r.sz<=100)(z1:∀C',Gr C C'->Q (.bl (j7 bs τ r)) C')
def Jb(T:Tx W a):Ok W a (k+5) 10 ["thing","boxes","turns"] FZ:=by
 have S:=(T.F 10 rfl).s;have xG:=(QK (k:=k) T).mono (B9 _);have uS:=Hu (k:=k) T
 refine(T.F 10 rfl).ok (λts C R h=>?_) λar A outer s H E aj=>⟨_,(xQ (nQ (vX (zX (cf (T.F 2 rfl) uS aj (c7 (cv 0))))) (kQ (uQ sX)) pQ)
  (xQ (fj 3 S.nd (oQ (c7 (cv 0))))
  (xQ (lY PassesOwn.never (pI (cv 3)) (xQ (fj 4 S.nd (dM Ae BE BD kM sG (cv 3)))
  (xQ (nQ (dq (iw (ct2 rX yX (cx (cv 4) jQ) wQ) (gm (xJ eZ dJ (cx (cv 4) jQ) (cv 1) rfl)))) (kQ (uQ sX)) pQ)
  (xQ (nQ (dq (iw (ct2 rX yX (cx (cv 4) jQ) wQ) (gm (xJ eZ dJ (cx (cv 4) jQ) (cv 2) rfl)))) (kQ (uQ sX)) pQ)
  (kQ (kZ (rD Ae BR BQ (λp s σ H x vs v us Q=>vU p s σ H x vs v us Q) rY (cv 3) (c7 (cf (T.F 3 rfl) xG aj (c7 (cv 4)))))))))))
  (kQ (uQ sX))))),?_⟩
 .obtain⟨_,_,_,rfl,_⟩:=h;rfl
 rintro ts C R ⟨bs,B,r,rfl,ag,hs,q⟩
 delta j7 at q
 refine Us.mk r rfl ag hs λC0 g0=>?_
 by_cases Z:r.sz<=20
 case neg =>
  rw[AW Z] at q ⊢;exact Ww (q C0 g0)
 rw[AU Z,Ab] at q;rw[AU Z];refine lX (fQ ⟨jg,λp hp=>?_⟩);have ai:=bZ g0 hp;dsimp only[di.wn];refine mZ (λaq C'=>Gr C C'/\r.fits bs B=true) (λL hL=>?_) λaq C' zz=>lL zz λg h=>(by have:=q C' g;rwa[h] at this);refine⟨r.sz+1,yG (λn ρ C'=>∃U x4,n=kj U/\n<=20/\((∀x∈U,x.gd)/\U.all (Rk.fits bs B)=r.fits bs B)/\ρ=[some r.pv,some (tN bs),some (tN B),some (.ref p),x4]/\C' p=some (.lst (U.map Rk.pv))/\Gr C C') ?_ _ r.sz _ _ (A3 _) ⟨[r],_,by show _=r.sz+0;lia,Z,⟨λx O=>(AR.1 O)▸ag,Ao _⟩,rfl,zQ,g0.trans (Gr.new hp _)⟩⟩
 rintro n ρ C1 L1 ⟨U,x4,rfl,en,⟨ah,ae⟩,rfl,m,g⟩ ao
 apply ZO rfl m
 rcases U.eq_nil_or_concat with rfl|⟨ys,x,rfl⟩
 .exact gB rfl (hL _ _ ⟨g,ae.symm⟩)
 .rw[Bc] at *
  rw[gV,show kj [x]=x.sz from An _] at en;rw[AG] at m ⊢
  apply yH (by cases h:ys.map Rk.pv<;>rfl)
  refine⟨lZ m,uP m (y:=x.pv) ue ?_⟩;rw[show(ys.map Rk.pv++[x].map Rk.pv).dropLast=ys.map Rk.pv from BL];have m2:cQ C1 p (.lst (ys.map Rk.pv)) p=some (.lst (ys.map Rk.pv)):=zQ;have aa:Gr C (cQ C1 p (.lst (ys.map Rk.pv))):=λb o Y=>(yQ (zZ ai Y)).trans (g _ _ Y);generalize cQ C1 p (.lst (ys.map Rk.pv))=C2 at *
  have O:=ah x ue;have ei:=x.lq;have yl:=sM ys;have il:=sM x.ins
  have af:(ys.all (Rk.fits bs B)&&(x.lf bs B&&x.ins.all (Rk.fits bs B)))=r.fits bs B:=by
   rw[<- ae,Al,<- Rk.o4]
   simp
  have ak:x.lf bs B=false->R (.bl false) C2:=λe=>by
   have:=q C2 aa
   rwa[<- af,e,Co,A2] at this
  have J:x.lf bs B=true->J7 (Rv aM (zK 3) (tJ (kY R3 (tJ (zK 4) gY)) gY)) ((((di.go R).wn L).lp L1)) [some r.pv,some (tN bs),some (tN B),some (.ref p),some x.pv] C2:=by
   intro e;refine⟨lZ m2,R3.mk x rfl O λp3 C3 au ab m3=>bM (ab _ _ m2) m3 (by rw[AA,AA];exact AK (show _<=1000 by lia) Th) ?_⟩;refine ao (kj (ys++x.ins)) _ _ (by rw[gV,gV,show kj [x]=x.sz from An _];lia) ⟨ys++x.ins,_,rfl,by rw[gV];lia,⟨λy hy=>?_,?_⟩,rfl,by rw[zQ,AG],λb o Y=>(yQ (zZ ai Y)).trans ((aa.trans ab) _ _ Y)⟩
   .rcases AY.1 hy with h|h
    .exact ah y (Ap _ h)
    .exact Rk.my O y h
   .rw[Al,<- af,e,Ab]
  cases x with
  |num i=>exact gQ rfl ((dh (fQ (gQ rfl ((dh (fQ (J rfl))))))))
  |turn n =>
   refine gQ rfl ((dh (fQ (gQ rfl ((gj (gQ rfl (mP rfl (gJ (λh=>?_) λh=>?_)))))))))
   .exact ak (by show decide (n∈B)=false;simpa using h)
   .exact fQ (J (by show decide (n∈B)=true;simpa using h))
  |ask s n =>
   obtain⟨hs,hn⟩:=O
   rcases hs with rfl|rfl|rfl
   .exact gQ rfl ((dh (fQ (gQ rfl ((dh (fQ (J rfl))))))))
   .exact gQ rfl ((dh (fQ (gQ rfl ((dh (fQ (J rfl))))))))
   .refine gQ rfl ((gj (gQ rfl (mP rfl (gJ (λh=>?_) λh=>?_)))))
    .exact ak (by show(!decide (("box":Str)="box") || decide (n∈bs))=false;simpa using h)
    .exact fQ (gQ rfl ((dh (fQ (J (by show(!decide (("box":Str)="box") || decide (n∈bs))=true;simpa using h))))))
  |bin w y z=>rcases O.1 with rfl|rfl|rfl<;>exact gQ rfl ((dh (fQ (gQ rfl ((dh (fQ (J rfl))))))))
  |pick y z v=>exact gQ rfl ((dh (fQ (gQ rfl ((dh (fQ (J rfl))))))))
theorem Rk.jx:∀r:Rk,r.sz<=r.dw.length
 |.num _=>AQ _
 |.turn _=>by show 1<=2;decide
 |.ask _ _=>by show 1<=2;decide
 |.bin w x y=>by
  have:=x.jx;have:=y.jx;show 1+(x.sz+y.sz)<=(w::(x.dw++y.dw)).length;rw[AD,AB]
  lia
 |.pick x y z=>by
  have:=x.jx;have:=y.jx;have:=z.jx;show 1+(x.sz+(y.sz+z.sz))<=(("pick":Str)::(x.dw++(y.dw++z.dw))).length;rw[AD,AB,AB]
  lia
def Rg.sz(h:Rg r):r.sz<=100:=by
 have:=r.jx;have:=h.l
 lia
inductive R1(ts:List PV)(C:CH)(Q:K1):Prop
 |mk(bs τ:List Str)(o:Option Rk)(z0:ts=[nV o,tN bs,tN τ])(zo:j6 o)(z1:∀C',Gr C C'->Q (.bl (mj bs τ o)) C')
def NZ(T:Tx W a):Ok W a (k+6) 9 ["key","boxes","turns"] R1:=by
 have O:=Jb (k:=k) T;refine(T.F 9 rfl).ok (λts C R h=>?_) λU A outer s H E L=>⟨_,(kQ (uQ (JP (qJ zM nG (cv 0) jZ (lJ _)) (pV (cf (T.F 10 rfl) O L (qQ (cv 0) (qQ (cv 1) (c7 (cv 2))))))))),?_⟩
 .obtain⟨_,_,_,rfl,_⟩:=h;rfl
 rintro ts C R ⟨bs,J,o,rfl,B,q⟩
 cases o with
 |none=>exact q C Gr.refl
 |some r =>
  show(if id (vG r.pv)=true then R (.bl true) C else FZ [r.pv,tN bs,tN J] C R);rw[qD];exact FZ.mk bs J r rfl (B r rfl).g (B r rfl).sz q
end
def nR{U:Type}{f}{b}{xs:List U}(l:xs.length<=1000)(aa:∀x∈xs,∀C1,Gr C C1->∀L,(∀C2,Gr C1 C2->L (.bl (b x)) C2)->c (some (f x)::ρ) C1 L)(q:∀p C',C p=none->Gr C C'->C' p=some (.lst ((xs.map b).map PV.bl))->Q (.ref p) C'):rJ aU c ρ Q (xs.map f) [] C:=by
 refine mW (λzs J C'=>Gr C C'/\∃ds es:List U,ds++es=xs/\zs=es.map f/\J=(ds.map b).map PV.bl) ?_ ?_ _ _ _ ⟨Gr.refl,[],xs,rfl,rfl,rfl⟩
 .rintro x zs J C1 ⟨g,ds,es,e,B,rfl⟩ L Z
  cases es with
  |nil=>cases B
  |cons c es =>
   obtain⟨rfl,rfl⟩:=AZ B;refine aa c (by grind) C1 g L λC2 Y=>Z _ _ ⟨?_,g.trans Y,ds++[c],es,by rw[AI];exact e,rfl,by rw[AG,AG];rfl⟩;rw[AA,AA];have:=A9 List.length e;rw[AB,AD] at this;exact AE (show ds.length<1000 by lia) Th
 .rintro J C1 ⟨g,ds,es,e,B,rfl⟩ p O
  cases es with
  |nil =>
   rw[AM] at e;subst e;exact q p _ (bZ g O) (g.trans (Gr.new O _)) zQ
  |cons c es=>cases B
def cE{B:Type}{b}{xs:List B}(m:C p=some (.lst ((xs.map b).map PV.bl)))(q:Q (.bl (xs.all b)) C):YM [.ref p] C Q:=by
 apply YY m
 rwa[List.all_map]
noncomputable def HF(c:Str×List PV):PV:=.tup (.str c.1::c.2)
noncomputable def oB(ds:List (Str×List PV)):List (Key×PV):=ds.map λc=>(Sum.inr c.1,.bl true)
def VO(h:s∉ds.map (·.1)):oF (oB ds) (Sum.inr s)=none:=by
 delta oF oB
 rw[Option.map_eq_none_iff,List.find?_eq_none];intro J B;obtain⟨c,q,rfl⟩:=AX.1 B
 simp only[decide_eq_true_eq]
 intro e;exact h (AX.2 ⟨c,q,Sum.inr.inj e⟩)
def VN(h:s∈ds.map (·.1)):(oF (oB ds) (Sum.inr s)).isSome=true:=by grind[oF,oB,Option.isSome_map]
def VP(h:c.1∉ds.map (·.1)):QE (oB ds) (Sum.inr c.1) (.bl true)=oB (ds++[c]):=by simp_all[QE,oB,List.map_append,List.any_eq_true,decide_eq_true_eq]
def Ni(m:C p=some (.dK kvs))(l:kvs.length<=1000)(q:Q (cQ C p (.dK (QE kvs (Sum.inr s) v)))):J0 (.ref p) (.str s) v C Q:=by
 delta J0
 simp only[m]
 exact⟨Bi l Th,q⟩
section
variable{W:Wd}{a:Adr}
inductive Pz(ts:List PV)(C:CH)(Q:K1):Prop
 |mk(ps:List (Str×List PV))(k:Int)(z0:ts=[.tup (ps.map HF),.int k])(zn:∀c∈ps,qZ c.1=true/\((c.2.length:Nat):Int)+1=k)(zl:ps.length<=1000)(z1:∀C',Gr C C'->Q (.bl (decide (ps.map (·.1)).Nodup)) C')
def Je(T:Tx W a):Ok W a (k+2) 12 ["thing","size"] Pz:=by
 have S:=(T.F 12 rfl).s;have pK:=fY (k:=k) T
 refine(T.F 12 rfl).ok (λts C R h=>?_) λae A outer s H E U=>⟨_,(xQ (nQ (vX (zX (aQ sQ nX rfl T.lQ rfl (qQ (cv 0) (c7 (oZ rfl T.xZ rfl)))))) (kQ (uQ sX)) pQ)
  (xQ (fj 2 S.nd Dr)
  (xQ (mV PassesOwn.never rfl (cv 0) (jl 3 S.nd) (xQ (nQ (dq (dN (vX (zX (aQ sQ nX rfl T.lQ rfl (qQ (cv 3) (c7 (oZ rfl T.xZ rfl)))))) (dm (ct2 xY zV (gw T.tX (cv 3)) (cv 1))))) (kQ (uQ sX)) pQ)
  (xQ (nQ (dq (dN (vX (zX (cf (T.F 1 rfl) pK U (c7 (cx (cv 3) jQ))))) (dm (xJ (Hh (dG U)) Dk (cx (cv 3) jQ) (cv 2) rfl)))) (kQ (uQ sX)) pQ)
  (kQ (Di (dG U) (cv 2) (cx (cv 3) jQ) sX)))))
  (kQ (uQ sX))))),?_⟩
 .obtain⟨_,_,rfl,_⟩:=h;rfl
 rintro ts C R ⟨ps,k,rfl,hn,hl,aa⟩;refine wX rfl rfl (lX (fQ λp hp=>?_));dsimp only[di.wn];refine wV (vR rfl (uJ (λzs ρ C'=>∃ds es Y,(ds++es=ps/\(ds.map (·.1)).Nodup)/\zs=es.map HF/\ρ=[some (.tup (ps.map HF)),some (.int k),some (.ref p),Y]/\C' p=some (.dK (oB ds))/\Gr C C') ?_ ?_ _ _ _ ⟨[],ps,_,⟨rfl,Br⟩,rfl,rfl,zQ,Gr.new hp _⟩))
 .rintro z zs ρ C1 ⟨ds,es,Y,⟨e,O⟩,J,rfl,m,g⟩ L hL
  cases es with
  |nil=>cases J
  |cons c es =>
   obtain⟨rfl,rfl⟩:=AZ J;have hc:=hn c (by rw[<- e];simp)
   have ab:(oB ds).length<=1000:=by
    delta oB
    rw[AA];have:=A9 List.length e;rw[AB] at this
    lia
   refine wX rfl rfl (lX (mX (mQ (eQ _ _) (bQ ?_ (fQ (gQ Qe (uo.mk c.1 rfl hc.1 λC2 B=>lX (gQ Qe ⟨p,oB ds,Sum.inr c.1,rfl,B _ _ m,rfl,?_⟩))))))))
   .rw[AD,AU (by rw[<- hc.2];lia)]
    rfl
   .by_cases q:c.1∈ds.map (·.1)
    .apply eX (VN q)
     have:=aa C2 (g.trans B);rw[AW] at this
     .exact this
     .rw[<- e,AG,A5]
      intro h;exact(CP.1 h).2.2 _ q _ AL rfl
    rw[VO q];refine bQ rfl (fQ (gQ Qe (Ni (B _ _ m) ab (hL _ _ ⟨ds++[c],es,_,⟨by rw[AI];exact e,?_⟩,rfl,rfl,by rw[zQ,VP q],λb o Z=>(yQ (zZ hp Z)).trans ((g.trans B) _ _ Z)⟩))));rw[AG];refine CP.2 ⟨O,by simp,λx hx y hy=>?_⟩
    simp only[List.map_cons,List.map_nil,List.mem_singleton] at hy
    subst hy;exact λz=>q (z▸hx)
 .rintro ρ C1 ⟨ds,es,Y,⟨e,O⟩,J,rfl,m,g⟩
  cases es with
  |nil =>
   rw[AM] at e;subst e;have:=aa C1 g
   rwa[AU O] at this
  |cons c es=>cases J
noncomputable def su(bs q:List Str)(ps:List (Str×Rk)):Bool:=decide (ps.map (·.1)).Nodup&&ps.all λc=>j7 bs q c.2
inductive RW(ts:List PV)(C:CH)(Q:K1):Prop
 |mk(bs τ:List Str)(ps:List (Str×Rk))(z0:ts=[.tup (ps.map yV),tN bs,tN τ])(zo:o7 ps)(z1:∀C',Gr C C'->Q (.bl (su bs τ ps)) C')
def Ey(T:Tx W a):Ok W a (k+6) 11 ["thing","boxes","turns"] RW:=by
 have S:=(T.F 11 rfl).s;have cZ:=(Je (k:=k+3) T);have pZ:=Jb (k:=k) T
 refine(T.F 11 rfl).ok (λts C R h=>?_) λab A outer s H E Y=>⟨_,(xQ (nQ (vX (zX (cf (T.F 12 rfl) cZ Y (qQ (cv 0) (c7 jQ))))) (kQ (uQ sX)) pQ)
  (kQ (uQ (aQ (aW rfl) oG rfl T.vP rfl (c7 (sZ rfl (S.c gf) (S.k rfl rfl rfl gf) (qK (cv 0)) (λ_ _ _ _ _=>fZ) (λ_ _ _ _ _=>(cf (T.F 10 rfl) pZ Y (qQ (cx (cv 0) jQ) (qQ (cv 2) (c7 (cv 3)))))))))))),?_⟩
 .obtain⟨_,_,_,rfl,_⟩:=h;rfl
 rintro ts C R ⟨bs,τ,ps,rfl,B,q⟩
 delta su at q
 refine Pz.mk (ps.map λc=>(c.1,[c.2.pv])) 2 (by rw[Aj];rfl) (λc J=>?_) (by rw[AA];exact B.2) λC1 O=>?_
 .obtain⟨Z,aa,rfl⟩:=AX.1 J
  exact⟨(B.1 Z aa).1,rfl⟩
 rw[Aj,show((λx:Str×List PV=>x.1) ∘ λc:Str×Rk=>(c.1,[c.2.pv]))=(·.1) from rfl];refine j8 (λh=>fQ ?_) λh=>?_
 .rw[h,Ab] at q
  exact nR B.2 (λc J C2 U L hL=>gQ rfl (FZ.mk bs τ c.2 rfl (B.1 c J).2.g (B.1 c J).2.sz hL)) λp C2 _ U m=>cE m (q C2 (O.trans U))
 .rw[h] at q
  exact q C1 O
noncomputable def Ge(bs q:List Str)(c:Str×Str×Rk):Bool:=decide (c.1∈bs)&&j7 bs q c.2.2
inductive UG(ts:List PV)(C:CH)(Q:K1):Prop
 |mk(bs τ:List Str)(c:Str×Str×Rk)(z0:ts=[Xq c,tN bs,tN τ])(zo:c.2.1∈(["set","add","times"]:List Str)/\Rg c.2.2)(z1:∀C',Gr C C'->Q (.bl (Ge bs τ c)) C')
def Og(T:Tx W a):Ok W a (k+6) 15 ["change","boxes","turns"] UG:=by
 have S:=(T.F 15 rfl).s;have O:=Jb (k:=k) T
 refine(T.F 15 rfl).ok (λts C R h=>?_) λY A outer s H E B=>⟨_,(xQ (nQ (dq (dN (vX (zX (aQ sQ nX rfl T.lQ rfl (qQ (cv 0) (c7 (oZ rfl T.xZ rfl)))))) (dm (ct2 xY zV (gw T.tX (cv 0)) jQ)))) (kQ (uQ sX)) pQ)
  (kQ (uQ (cV (qJ bW dJ (cx (cv 0) jQ) (cv 1) rfl) (cV (qJ (jM (dG B)) pD (cx (cv 0) jQ) (wZ (v:=.ref a.CHANGING) rfl T.jE rfl (λH=>.kt (T.fO H) (.cons (.str _) (.cons (.str _) (.cons (.str _) .nil))))) rfl) (pV (cf (T.F 10 rfl) O B (qQ (cx (cv 0) jQ) (qQ (cv 1) (c7 (cv 2))))))))))),?_⟩
 .obtain⟨_,_,_,rfl,_⟩:=h;rfl
 rintro ts C R ⟨bs,U,⟨s,w,r⟩,rfl,⟨L,J⟩,q⟩
 delta Ge at q
 refine wX rfl rfl (lX (mX (mQ (eQ _ _) (bQ rfl (fQ (gQ rfl (Il rfl ?_)))))))
 cases h:decide (s∈bs) with
 |false =>
  rw[h] at q;exact bQ rfl (q C Gr.refl)
 |true =>
  rw[h] at q;refine eX rfl (gQ rfl ?_)
  simp only[List.mem_cons,List.not_mem_nil,or_false] at L
  rcases L with rfl|rfl|rfl<;>exact tV rfl rfl (eX (by dsimp only;decide +kernel) (gQ rfl (FZ.mk bs U r rfl J.g J.sz q)))
noncomputable def Mu(bs q:List Str)(h:Hd):Bool:=h.ch.all (Ge bs q)
inductive Ux(ts:List PV)(C:CH)(Q:K1):Prop
 |mk(bs τ:List Str)(h:Hd)(z0:ts=[h.pv,tN bs,tN τ])(zo:ut h)(z1:∀C',Gr C C'->Q (.bl (Mu bs τ h)) C')
def Ob(T:Tx W a):Ok W a (k+7) 14 ["hand","boxes","turns"] Ux:=by
 have S:=(T.F 14 rfl).s;have iW:=wY (k:=k+5) T;have O:=Og (k:=k) T
 refine(T.F 14 rfl).ok (λts C R h=>?_) λab A outer s H E J=>⟨_,(xQ (nQ (dq (dN (vX (zX (cf (T.F 0 rfl) iW J (c7 (cx (cv 0) jQ))))) (dm (vX (gD bG bG iV iV jQ (cx (cv 0) jQ) (wZ (v:=.int 3) rfl T.Zo ⟨_,rfl⟩ (λ_=>.int _))))))) (kQ (uQ sX)) pQ)
  (xQ (nQ (dq (dN (vX (zX (aQ sQ nX rfl T.lQ rfl (qQ (cx (cv 0) jQ) (c7 (oZ rfl T.wN rfl)))))) (dm (vX (zX (aQ sQ nX rfl T.lQ rfl (qQ (cx (cv 0) jQ) (c7 (oZ rfl T.xZ rfl))))))))) (kQ (uQ sX)) pQ)
  (kQ (uQ (aQ (aW rfl) oG rfl T.vP rfl (c7 (sZ rfl (S.c gf) (S.k rfl rfl rfl gf) (qK (cx (cv 0) jQ)) (λ_ _ _ _ _=>fZ) (λ_ _ _ _ _=>(cf (T.F 15 rfl) O J (qQ (cv 0) (qQ (cv 2) (c7 (cv 3))))))))))))),?_⟩
 .obtain⟨_,_,_,rfl,_⟩:=h;rfl
 rintro ts C R ⟨bs,τ,h,rfl,q,aa⟩;have h1:=q.r1;have U:=q.r3;refine gQ rfl ⟨h.rank,rfl,?_⟩;rw[show xI h.rank=true from by delta xI;rw[AU ir,AU ir];rfl];refine lX (gQ rfl (gk (eX (AU h1) (gk ?_))));rw[AU U];exact lX (fQ (gQ rfl (wX rfl rfl (lX (gQ rfl (wX rfl rfl (lX (fQ (gQ rfl (nR q.cl (λc Z C2 B L Y=>UG.mk bs τ c rfl (q.ch c Z).2 Y) λp C2 _ B m=>cE m (aa C2 B)))))))))))
noncomputable def Ip(bs q:List Str)(hs:List Hd):Bool:=decide (hs.map (·.ev)).Nodup&&hs.all (Mu bs q)
inductive Py(ts:List PV)(C:CH)(Q:K1):Prop
 |mk(bs τ:List Str)(hs:List Hd)(z0:ts=[.tup (hs.map Hd.pv),tN bs,tN τ])(zo:(∀x∈hs,ut x)/\hs.length<=1000)(z1:∀C',Gr C C'->Q (.bl (Ip bs τ hs)) C')
def Hv(T:Tx W a):Ok W a (k+8) 13 ["thing","boxes","turns"] Py:=by
 have S:=(T.F 13 rfl).s;have cZ:=(Je (k:=k+5) T);have Z:=Ob (k:=k) T
 refine(T.F 13 rfl).ok (λts C R h=>?_) λab A outer s H E Y=>⟨_,(xQ (nQ (vX (zX (cf (T.F 12 rfl) cZ Y (qQ (cv 0) (c7 jQ))))) (kQ (uQ sX)) pQ)
  (kQ (uQ (aQ (aW rfl) oG rfl T.vP rfl (c7 (sZ rfl (S.c gf) (S.k rfl rfl rfl gf) (qK (cv 0)) (λ_ _ _ _ _=>fZ) (λ_ _ _ _ _=>(cf (T.F 14 rfl) Z Y (qQ (cv 0) (qQ (cv 2) (c7 (cv 3)))))))))))),?_⟩
 .obtain⟨_,_,_,rfl,_⟩:=h;rfl
 rintro ts C R ⟨bs,τ,hs,rfl,B,q⟩
 delta Ip at q
 refine Pz.mk (hs.map λh=>(h.ev,[.int h.rank,.bl h.last,.tup (h.ch.map Xq)])) 4 (by rw[Aj];rfl) (λc J=>?_) (by rw[AA];exact B.2) λC1 O=>?_
 .obtain⟨c',aa,rfl⟩:=AX.1 J
  exact⟨(B.1 c' aa).ev,rfl⟩
 rw[Aj,show((λx:Str×List PV=>x.1) ∘ λh:Hd=>(h.ev,[.int h.rank,.bl h.last,.tup (h.ch.map Xq)]))=(·.ev) from rfl];refine j8 (λh=>fQ ?_) λh=>?_
 .rw[h,Ab] at q
  exact nR B.2 (λc J C2 U L hL=>Ux.mk bs τ c rfl (B.1 c J) hL) λp C2 _ U m=>cE m (q C2 (O.trans U))
 .rw[h] at q
  exact q C1 O
noncomputable def R5(fs:List (Str×Int)):Bool:=decide (fs.map (·.1)).Nodup&&decide (fs.length<=4)
inductive UT(ts:List PV)(C:CH)(Q:K1):Prop
 |mk(fs:List (Str×Int))(z0:ts=[.tup (fs.map nW)])(zl:fs.length<=1000)(zb:∀c∈fs,qZ c.1=true/\Bd c.2)(z1:∀C',Gr C C'->Q (.bl (R5 fs)) C')
def Ol(T:Tx W a):Ok W a (k+3) 17 ["thing"] UT:=by
 have S:=(T.F 17 rfl).s;have cZ:=(Je (k:=k) T);have iW:=wY (k:=k+1) T
 refine(T.F 17 rfl).ok (λts C R h=>?_) λab A outer s H E Y=>⟨_,(xQ (nQ (dq (dN (vX (zX (cf (T.F 12 rfl) cZ Y (qQ (cv 0) (c7 jQ))))) (dm (ct2 oW eK (gw T.tX (cv 0)) (wZ (v:=.int 4) rfl T.Q8 ⟨_,rfl⟩ (λ_=>.int _)))))) (kQ (uQ sX)) pQ)
  (kQ (uQ (aQ (aW rfl) oG rfl T.vP rfl (c7 (sZ rfl (S.c gf) (S.k (L:=0) rfl rfl rfl gf) (qK (cv 0)) (λ_ _ _ _ _=>fZ) (λ_ _ _ _ _=>(cf (T.F 0 rfl) iW Y (c7 (cx (cv 0) jQ)))))))))),?_⟩
 .obtain⟨_,rfl,_⟩:=h;rfl
 rintro ts C R ⟨fs,rfl,hl,O,q⟩
 delta R5 at q
 refine Pz.mk (fs.map λc=>(c.1,[.int c.2])) 2 (by rw[Aj];rfl) (λc B=>?_) (by rwa[AA]) λC1 J=>?_
 .obtain⟨Z,aa,rfl⟩:=AX.1 B
  exact⟨(O Z aa).1,rfl⟩
 rw[Aj,show((λx:Str×List PV=>x.1) ∘ λc:Str×Int=>(c.1,[.int c.2]))=(·.1) from rfl];refine j8 (λh=>mX (gk ?_)) λh=>?_
 .rw[h,Ab] at q
  rw[AA];refine gJ (λh2=>?_) λh2=>fQ ?_
  .have:=q C1 J
   rw[AW (by have:=Af h2;lia)] at this;exact this
  rw[AU (by have:=BI h2;lia)] at q;refine nR (b:=λ_=>true) hl (λc B C2 U L hL=>?_) λp C2 _ U m=>cE m ?_
  .refine gQ rfl ⟨c.2,rfl,?_⟩
   rw[show xI c.2=true from by delta xI;rw[AU (O c B).2.1,AU (O c B).2.2];rfl];exact hL C2 Gr.refl
  .rw[BM.2 λ_ _=>rfl]
   exact q C2 (J.trans U)
 .rw[h] at q
  exact q C1 J
end
noncomputable def Ln.inl:Ln->List (List Ln)
 |.plain _ _ _ _ ls=>[ls]
 |.part _ _ _=>[]
 |.give _ _ _ ls=>[ls]
 |.when _ q B=>[q,B]
 |.each _ _ ls=>[ls]
noncomputable def Ln.tau(q:List Str):Ln->List Str
 |.each n _ _=>q++[n]
 |_=>q
noncomputable def xK(ls:List Ln):PV:=.tup (Ln.ik ls)
noncomputable def Ud(z:Str):Option PV:=if z="plain" then some (.kt [.int 5]) else if z="part" then some (.kt []) else if z="give" then some (.kt [.int 4]) else if z="when" then some (.kt [.int 2,.int 3]) else if z="each" then some (.kt [.int 3]) else none
def Ln.hg:Ln->Prop
 |.plain k q s h _=>(j6 k/\qZ q=true)/\o7 s/\(∀x∈h,ut x)/\h.length<=1000
 |.part k n g=>(j6 k/\qZ n=true)/\o7 g
 |.give k n r _=>(j6 k/\qZ n=true)/\Rg r
 |.when r _ _=>Rg r
 |.each n r _=>Rg r/\qZ n=true
theorem Ln.gd.hg:∀{d}{l:Ln},l.gd d->l.hg
 |0,l,h=>by cases l<;>exact h.elim
 |_+1,.plain _ _ _ _ _,h=>⟨h.1,h.2.1⟩
 |_+1,.part _ _ _,h=>h
 |_+1,.give _ _ _ _,h=>⟨h.1,h.2.1⟩
 |_+1,.when _ _ _,h=>h.1
 |_+1,.each _ _ _,h=>h.1
noncomputable def Ln.hF(bs q:List Str):Ln->Bool
 |.plain k _ s h _=>mj bs q k&&(Ip bs q h&&su bs q s)
 |.part k _ g=>mj bs q k&&su bs q g
 |.give k _ r _=>mj bs q k&&j7 bs q r
 |.when r _ _=>j7 bs q r
 |.each _ r _=>j7 bs q r&&decide (q.length<2)
section
variable{W:Wd}{a:Adr}
def yz(T:Tx W a):∀z t,Ud z=some t->∃v,aK ([(Sum.inr "plain",.ref a.qG),(Sum.inr "part",.ref a.iY),(Sum.inr "give",.ref a.aY),(Sum.inr "when",.ref a.eY),(Sum.inr "each",.ref a.tY)]:List (Key×V)) (Sum.inr z)=some v/\∀H,Rep W.K H v t:=by
 intro z t h
 delta Ud at h
 split at h
 .next e=>cases h;subst e;exact⟨_,rfl,λH=>.kt (T.vH H) (.cons (.int _) .nil)⟩
 split at h
 .next e=>cases h;subst e;exact⟨_,rfl,λH=>.kt (T.kH H) .nil⟩
 split at h
 .next e=>cases h;subst e;exact⟨_,rfl,λH=>.kt (T.xH H) (.cons (.int _) .nil)⟩
 split at h
 .next e=>cases h;subst e;exact⟨_,rfl,λH=>.kt (T.jH H) (.cons (.int _) (.cons (.int _) .nil))⟩
 split at h
 .next e=>cases h;subst e;exact⟨_,rfl,λH=>.kt (T.zH H) (.cons (.int _) .nil)⟩
 .cases h
inductive Px(ts:List PV)(C:CH)(Q:K1):Prop
 |mk(l:Ln)(z0:ts=[l.pv])(z1:gH C (l.inl.map xK) Q)
def EY(T:Tx W a):Ok W a (k+1) 6 ["line"] Px:=by
 have S:=(T.F 6 rfl).s;refine(T.F 6 rfl).ok (λts C R h=>?_) λZ A outer s H E aa=>⟨_,(kQ (uQ (sZ rfl (S.c gf) (S.k rfl rfl rfl gf) (qK (iH T.aS (yz T) (wZ (v:=.ref a.INNER_PLACES) rfl T.eS rfl (λ_=>.ref _)) (cx (cv 0) jQ) (λ_ _=>rfl))) (λ_ _ _ _ _=>fZ) (λ_ _ _ _ _=>(cx (cv 1) (cv 0)))))),?_⟩
 .obtain⟨_,rfl,_⟩:=h;rfl
 rintro ts C R ⟨l,rfl,q⟩
 cases l with
 |plain k ab s h ls =>
  refine gQ rfl ⟨_,_,rfl,rfl,rfl,qW (λ_=>xK ls) _ [] C Gr.refl Th (λx B C1 O g L=>?_) λp C1 J g m=>q p C1 J g m⟩;exact(AR.1 B)▸gQ rfl (L C1 Gr.refl)
 |part k n g =>
  exact gQ rfl ⟨_,_,rfl,rfl,rfl,qW (λ_=>PV.non) [] [] C Gr.refl Th (λx B C1 O g L=>by cases B) λp C1 J g m=>q p C1 J g m⟩
 |give k n r ls =>
  refine gQ rfl ⟨_,_,rfl,rfl,rfl,qW (λ_=>xK ls) _ [] C Gr.refl Th (λx B C1 O g L=>?_) λp C1 J g m=>q p C1 J g m⟩;exact(AR.1 B)▸gQ rfl (L C1 Gr.refl)
 |when r U Y =>
  refine gQ rfl ⟨_,_,rfl,rfl,rfl,qW (λx=>match x with | .int 2=>xK U|_=>xK Y) _ [] C Gr.refl Th (λx B C1 O g L=>?_) λp C1 J g m=>q p C1 J g m⟩
  simp only[List.mem_cons,List.not_mem_nil,or_false] at B
  rcases B with rfl|rfl
  .exact gQ rfl (L C1 Gr.refl)
  .exact gQ rfl (L C1 Gr.refl)
 |each n r ls =>
  refine gQ rfl ⟨_,_,rfl,rfl,rfl,qW (λ_=>xK ls) _ [] C Gr.refl Th (λx B C1 O g L=>?_) λp C1 J g m=>q p C1 J g m⟩;exact(AR.1 B)▸gQ rfl (L C1 Gr.refl)
inductive Ue(ts:List PV)(C:CH)(Q:K1):Prop
 |mk(l:Ln)(τ:List Str)(z0:ts=[l.pv,tN τ])(zl:τ.length<=10000)(z1:Q (tN (l.tau τ)) C)
def Nq(T:Tx W a):Ok W a (k+1) 7 ["line","turns"] Ue:=by
 refine(T.F 7 rfl).ok (λts C R h=>?_) λJ A outer s H E O=>⟨_,(kQ (uQ (lD (ct2 rX yX (cx (cv 0) jQ) wQ) (uX jX xX (cv 1) (dQ (c7 (cx (cv 0) jQ)))) (cv 1)))),?_⟩
 .obtain⟨_,_,rfl,_⟩:=h;rfl
 rintro ts C R ⟨l,B,rfl,L,q⟩
 cases l with
 |plain k Z s h ls=>exact gQ rfl ((dh q))
 |part k n g=>exact gQ rfl ((dh q))
 |give k n r ls=>exact gQ rfl ((dh q))
 |when r U Y=>exact gQ rfl ((dh q))
 |each n r ls =>
  refine gQ rfl ((gj (gQ rfl ⟨jg,CL.gq (by rw[AA];exact AK (show B.length+1<=10001 by lia) Th) ?_⟩)))
  have e:tN ((Ln.each n r ls).tau B)=.tup (B.map PV.str++[.str n]):=by
   show PV.tup ((B++[n]).map PV.str)=_;rw[AG]
   rfl
  rwa[e] at q
inductive Up(ts:List PV)(C:CH)(Q:K1):Prop
 |mk(bs τ:List Str)(l:Ln)(z0:ts=[l.pv,tN bs,tN τ])(zo:l.hg)(z1:∀C',Gr C C'->Q (.bl (l.hF bs τ)) C')
def NQ(T:Tx W a){k:Nat}:Ok W a (k+9) 8 ["line","boxes","turns"] Up:=by
 have S:=(T.F 8 rfl).s;have pZ:=Jb (k:=k+3) T;have pK:=fY (k:=k+7) T;have ZK:=NZ (k:=k+2) T;have XJ:=Hv (k:=k) T;have hM:=Ey (k:=k+2) T
 refine(T.F 8 rfl).ok (λts C R h=>?_) λag A outer s H E O=>⟨_,(xQ (nQ (dq (dN (vX (zX (aQ sQ nX rfl T.lQ rfl (qQ (cv 0) (c7 (oZ rfl T.xZ rfl)))))) (dN (ct2 rX yX (gw T.tX (cv 0)) jQ) (dm (vX (zX (aQ sQ nX rfl T.lQ rfl (qQ (cx (cv 0) jQ) (c7 (oZ rfl T.mB rfl)))))))))) (kQ (uQ sX)) pQ)
  (xQ (fj 3 S.nd (cx (cv 0) jQ))
  (xQ (nQ (ct2 xY zV (gw T.tX (cv 0)) (yE T.Xg (dG O) (wZ (v:=.ref a.LINE_SIZES) rfl T.Q9 rfl (λ_=>.ref _)) (cv 3) jQ)) (kQ (uQ sX)) pQ)
  (xQ (nQ (ct2 rX yX (cv 3) wQ) (kQ (uQ (cf (T.F 10 rfl) pZ O (qQ (cx (cv 0) jQ) (qQ (cv 1) (c7 (cv 2))))))) pQ)
  (xQ (nQ (ct2 rX yX (cv 3) wQ) (kQ (uQ (cV (cf (T.F 1 rfl) pK O (c7 (cx (cv 0) jQ))) (cV (cf (T.F 10 rfl) pZ O (qQ (cx (cv 0) jQ) (qQ (cv 1) (c7 (cv 2))))) (pV (qJ xF qU (gw T.tX (cv 2)) (wZ (v:=.int 2) (t:=.int 2) rfl T.wI ⟨_,rfl⟩ (λ_=>.int _)) (lJ _))))))) pQ)
  (xQ (nQ (dq (dN (vX (zX (cf (T.F 9 rfl) ZK O (qQ (cx (cv 0) jQ) (qQ (cv 1) (c7 (cv 2))))))) (dm (vX (zX (cf (T.F 1 rfl) pK O (c7 (cx (cv 0) jQ)))))))) (kQ (uQ sX)) pQ)
  (xQ (nQ (ct2 rX yX (cv 3) wQ) (kQ (uQ (cf (T.F 10 rfl) pZ O (qQ (cx (cv 0) jQ) (qQ (cv 1) (c7 (cv 2))))))) pQ)
  (xQ (nQ (dq (iw (ct2 rX yX (cv 3) wQ) (gm (vX (zX (cf (T.F 13 rfl) XJ O (qQ (cx (cv 0) jQ) (qQ (cv 1) (c7 (cv 2)))))))))) (kQ (uQ sX)) pQ)
  (kQ (uQ (cf (T.F 11 rfl) hM O (qQ (cx (cv 0) jQ) (qQ (cv 1) (c7 (cv 2))))))))))))))),?_⟩
 .obtain⟨_,_,_,rfl,_⟩:=h;rfl
 rintro ts C R ⟨bs,B,l,rfl,U,q⟩
 cases l with
 |plain k af s h ls =>
  obtain⟨⟨hk,ht⟩,hs,hh⟩:=U;have q:∀C',Gr C C'->R (.bl (mj bs B k&&(Ip bs B h&&su bs B s))) C':=q;refine wX rfl rfl (lX (mX (mQ (eQ _ _) (bQ rfl (gQ rfl (wX rfl rfl (lX (fQ (gQ rfl (mX ⟨rfl,.inl ⟨_,_,rfl,rfl,mQ (eQ _ _) (bQ rfl (fQ ?_))⟩⟩))))))))));refine(dh (fQ ((dh (fQ ?_)))));refine gQ rfl (R1.mk bs B k rfl hk λC1 J=>j8 (λh1=>?_) λh1=>by have:=q C1 J;rw[h1] at this;exact this)
  rw[h1,Ab] at q;refine gQ rfl (uo.mk af rfl ht λC2 L=>lX (fQ ?_));refine(dh (fQ ((gj ?_))));refine gQ rfl (Py.mk bs B h rfl hh λC3 ab=>j8 (λh2=>?_) λh2=>by have:=q C3 (J.trans (L.trans ab));rw[h2] at this;exact this);rw[h2,Ab] at q;exact fQ (gQ rfl (RW.mk bs B s rfl hs λY Z=>q Y (J.trans (L.trans (ab.trans Z)))))
 |part k n g =>
  obtain⟨⟨hk,hn⟩,ae⟩:=U;have q:∀C',Gr C C'->R (.bl (mj bs B k&&su bs B g)) C':=q;refine wX rfl rfl (lX (mX (mQ (eQ _ _) (bQ rfl (gQ rfl (wX rfl rfl (lX (fQ (gQ rfl (mX ⟨rfl,.inl ⟨_,_,rfl,rfl,mQ (eQ _ _) (bQ rfl (fQ ?_))⟩⟩))))))))));refine(dh (fQ ((dh (fQ ?_)))));refine gQ rfl (R1.mk bs B k rfl hk λC1 J=>j8 (λh1=>?_) λh1=>by have:=q C1 J;rw[h1] at this;exact this)
  rw[h1,Ab] at q;refine gQ rfl (uo.mk n rfl hn λC2 L=>lX (fQ ?_));refine(dh (fQ ((dh (fQ ?_)))));exact gQ rfl (RW.mk bs B g rfl ae λY Z=>q Y (J.trans (L.trans Z)))
 |give k n r ls =>
  obtain⟨⟨hk,hn⟩,aa⟩:=U;have q:∀C',Gr C C'->R (.bl (mj bs B k&&j7 bs B r)) C':=q;refine wX rfl rfl (lX (mX (mQ (eQ _ _) (bQ rfl (gQ rfl (wX rfl rfl (lX (fQ (gQ rfl (mX ⟨rfl,.inl ⟨_,_,rfl,rfl,mQ (eQ _ _) (bQ rfl (fQ ?_))⟩⟩))))))))));refine(dh (fQ ((dh (fQ ?_)))));refine gQ rfl (R1.mk bs B k rfl hk λC1 J=>j8 (λh1=>?_) λh1=>by have:=q C1 J;rw[h1] at this;exact this)
  rw[h1,Ab] at q;refine gQ rfl (uo.mk n rfl hn λC2 L=>lX (fQ ?_));refine(gj ?_);exact gQ rfl (FZ.mk bs B r rfl aa.g aa.sz λY Z=>q Y (J.trans (L.trans Z)))
 |when r l1 l2 =>
  refine wX rfl rfl (lX (mX (mQ (eQ _ _) (bQ rfl (gQ rfl (wX rfl rfl (lX (fQ (gQ rfl (mX ⟨rfl,.inl ⟨_,_,rfl,rfl,mQ (eQ _ _) (bQ rfl (fQ ?_))⟩⟩))))))))));refine(gj ?_);exact gQ rfl (FZ.mk bs B r rfl U.g U.sz q)
 |each n r ls =>
  obtain⟨aa,hn⟩:=U;have q:∀C',Gr C C'->R (.bl (j7 bs B r&&decide (B.length<2))) C':=q;refine wX rfl rfl (lX (mX (mQ (eQ _ _) (bQ rfl (gQ rfl (wX rfl rfl (lX (fQ (gQ rfl (mX ⟨rfl,.inl ⟨_,_,rfl,rfl,mQ (eQ _ _) (bQ rfl (fQ ?_))⟩⟩))))))))));refine(dh (fQ ((gj ?_))));refine gQ rfl (uo.mk n rfl hn λC1 J=>eX rfl (gQ rfl (FZ.mk bs B r rfl aa.g aa.sz λC2 L=>gJ (λh2=>?_) λh2=>by have:=q C2 (J.trans L);rw[h2] at this;exact this)))
  refine mX (gk ?_);have:=q C2 (J.trans L);rw[h2,Ab] at this;rw[AA,show decide (((B.length:Nat):Int)<2)=decide (B.length<2) from by congr 1;exact propext ⟨λh=>by lia,λh=>by lia⟩];exact this
end
abbrev nu:=List Ln×Nat×List Str
noncomputable def vL(q:nu):PV:=.tup [xK q.1,.int (q.2.1:Nat),tN q.2.2]
noncomputable def qj(ps:List nu):Nat:=(ps.map λq=>Ln.d9 q.1).sum
noncomputable def jq(ps:List nu):Nat:=(ps.map λq=>1+3*Ln.d9 q.1).sum
def nM a b:qj (a++b)=qj a+qj b:=by simp[qj,List.map_append]
def vK a b:jq (a++b)=jq a+jq b:=by simp[jq,List.map_append]
def wG ps:ps.length<=jq ps:=by
 induction ps with
 |nil=>exact AF _
 |cons r q B=>show q.length+1<=(1+3*Ln.d9 r.1)+jq q;lia
def ie a b:Ln.d9 (a++b)=Ln.d9 a+Ln.d9 b:=by
 induction a with
 |nil=>show _=0+_;rw[BV];rfl
 |cons l a q=>show l.tw+Ln.d9 (a++b)=l.tw+Ln.d9 a+Ln.d9 b;lia
noncomputable def Ln.nxt(l:Ln)(e:Nat)(q:List Str):List nu:=l.inl.map λls=>(ls,e+1,l.tau q)
def Ln.lz(l:Ln)e J:l.tw=1+qj (l.nxt e J)/\jq (l.nxt e J)+1<=3*l.tw:=by
 cases l with
 |plain k L s h ls=>exact⟨by show 1+Ln.d9 ls=1+(Ln.d9 ls+0);lia,by show((1+3*Ln.d9 ls)+0)+1<=3*(1+Ln.d9 ls);lia⟩
 |part k n g=>exact⟨rfl,by show 0+1<=3*1;decide⟩
 |give k n r ls=>exact⟨by show 1+Ln.d9 ls=1+(Ln.d9 ls+0);lia,by show((1+3*Ln.d9 ls)+0)+1<=3*(1+Ln.d9 ls);lia⟩
 |when r q B=>exact⟨by show 1+(Ln.d9 q+Ln.d9 B)=1+(Ln.d9 q+(Ln.d9 B+0));lia,by show((1+3*Ln.d9 q)+((1+3*Ln.d9 B)+0))+1<=3*(1+(Ln.d9 q+Ln.d9 B));lia⟩
 |each n r ls=>exact⟨by show 1+Ln.d9 ls=1+(Ln.d9 ls+0);lia,by show((1+3*Ln.d9 ls)+0)+1<=3*(1+Ln.d9 ls);lia⟩
def RJ(q:nu):Prop:=∃d,∀l∈q.1,l.gd d
theorem Ln.sy:∀{d}{l:Ln},l.gd d->∀ls∈l.inl,∃d',∀x∈ls,Ln.gd d' x
 |0,l,h=>by cases l<;>exact h.elim
 |d+1,.plain _ _ _ _ _,h=>λls q=>(AR.1 q)▸⟨d,h.2.2.1⟩
 |d+1,.part _ _ _,h=>λls q=>by cases q
 |d+1,.give _ _ _ _,h=>λls q=>(AR.1 q)▸⟨d,h.2.2.1⟩
 |d+1,.when _ B J,h=>λls q=>by
  simp only[Ln.inl,List.mem_cons,List.not_mem_nil,or_false] at q
  rcases q with rfl|rfl
  .exact⟨d,h.2.1.1⟩
  .exact⟨d,h.2.2.1⟩
 |d+1,.each _ _ _,h=>λls q=>(AR.1 q)▸⟨d,h.2.1⟩
def Ln.Fe{l:Ln}(h:l.gd d)e L:∀q∈l.nxt e L,RJ q:=by
 intro q J;obtain⟨ls,B,rfl⟩:=AX.1 J;exact Ln.sy h ls B
mutual
def Ln.fit(bs:List Str):Nat->List Str->Ln->Bool
 |e,q,.plain k t s h ls=>(decide (e<6)&&(Ln.plain k t s h ls).hF bs q)&&(Ln.fits bs (e+1) q ls&&true)
 |e,q,.part k n g=>(decide (e<6)&&(Ln.part k n g).hF bs q)&&true
 |e,q,.give k n r ls=>(decide (e<6)&&(Ln.give k n r ls).hF bs q)&&(Ln.fits bs (e+1) q ls&&true)
 |e,q,.when r B J=>(decide (e<6)&&(Ln.when r B J).hF bs q)&&(Ln.fits bs (e+1) q B&&(Ln.fits bs (e+1) q J&&true))
 |e,q,.each n r ls=>(decide (e<6)&&(Ln.each n r ls).hF bs q)&&(Ln.fits bs (e+1) (q++[n]) ls&&true)
def Ln.fits(bs:List Str):Nat->List Str->List Ln->Bool
 |_,_,[]=>true
 |e,q,l::ls=>l.fit bs e q&&Ln.fits bs e q ls
end
noncomputable def yR(bs:List Str)(q:nu):Bool:=Ln.fits bs q.2.1 q.2.2 q.1
def Ln.j9 bs e q(l:Ln):l.fit bs e q=((decide (e<6)&&l.hF bs q)&&(l.nxt e q).all (yR bs)):=by
 cases l<;>rfl
def Ln.ju bs e q xs ys:Ln.fits bs e q (xs++ys)=(Ln.fits bs e q xs&&Ln.fits bs e q ys):=by
 induction xs with
 |nil=>rfl
 |cons x xs B =>
  show(x.fit bs e q&&Ln.fits bs e q (xs++ys))=((x.fit bs e q&&Ln.fits bs e q xs)&&Ln.fits bs e q ys);rw[B,Bool.and_assoc]
noncomputable def Mt(bs:List Str)(ls:List Ln):Bool:=decide (Ln.d9 ls<=30)&&Ln.fits bs 0 [] ls
mutual
def Ln.gl:Ln->List Str
 |.plain _ _ _ _ ls=>Ln.gls ls
 |.part _ n _=>[n]
 |.give _ _ _ ls=>Ln.gls ls
 |.when _ q B=>Ln.gls q++Ln.gls B
 |.each _ _ ls=>Ln.gls ls
def Ln.gls:List Ln->List Str
 |[]=>[]
 |l::ls=>l.gl++Ln.gls ls
end
def Ln.mq xs ys:Ln.gls (xs++ys)=Ln.gls xs++Ln.gls ys:=by
 induction xs with
 |nil=>rfl
 |cons x xs q =>
  show x.gl++Ln.gls (xs++ys)=(x.gl++Ln.gls xs)++Ln.gls ys;rw[q,AI]
noncomputable def inB(q:List Str)(n:Str):Bool:=decide (n∈q)
noncomputable def Mv(B:List Str)(q:nu):Bool:=(Ln.gls q.1).all (inB B)
noncomputable def Ln.own(q:List Str):Ln->Bool
 |.part _ n _=>inB q n
 |_=>true
def Ln.FW q e L(l:Ln):l.gl.all (inB q)=(l.own q&&(l.nxt e L).all (Mv q)):=by
 cases l with
 |plain k t s h ls=>show(Ln.gls ls).all (inB q)=(true&&((Ln.gls ls).all (inB q)&&true));simp
 |part k n g=>rfl
 |give k n r ls=>show(Ln.gls ls).all (inB q)=(true&&((Ln.gls ls).all (inB q)&&true));simp
 |when r B J=>show(Ln.gls B++Ln.gls J).all (inB q)=(true&&((Ln.gls B).all (inB q)&&((Ln.gls J).all (inB q)&&true)));simp
 |each n r ls=>show(Ln.gls ls).all (inB q)=(true&&((Ln.gls ls).all (inB q)&&true));simp
def Ln.GD(l:Ln):1<=l.tw:=by
 have:=(l.lz 0 []).1
 lia
section
variable{W:Wd}{a:Adr}
inductive Ph(ts:List PV)(C:CH)(Q:K1):Prop
 |mk(bs:List Str)(ls:List Ln)(z0:ts=[xK ls,tN bs])(zo:∃d,∀l∈ls,l.gd d)(zt:Ln.d9 ls<=3000)(z1:∀C',Gr C C'->Q (.bl (Mt bs ls)) C')
def Hk(T:Tx W a){k:Nat}:Ok W a (k+10) 5 ["lines","boxes"] Ph:=by
 have S:=(T.F 5 rfl).s;have XG:=NQ (k:=k) T;have kS:=Nq (k:=k+8) T;have jU:=EY (k:=k+8) T
 refine(T.F 5 rfl).ok (λts C R h=>?_) λa3 A outer s H E af=>⟨_,(xQ (fj 2 S.nd (oQ (c7 (dQ (qQ (cv 0) (qQ jQ (c7 (dQ cX))))))))
  (xQ (fj 3 S.nd jQ)
  (xQ (lY PassesOwn.never (pI (cv 2)) (xQ (fj 4 S.nd (dM Ae BE BD kM sG (cv 2)))
  (xQ (nQ (vX (zX (aQ sQ nX rfl T.lQ rfl (qQ (cx (cv 4) jQ) (c7 (oZ (n:="tuple") rfl T.xZ rfl)))))) (kQ (uQ sX)) pQ)
  (kQ (mV PassesOwn.never rfl (cx (cv 4) jQ) (jl 5 S.nd) (xQ (dI 3 S.nd jQ)
  (xQ (nQ (dq (dN (ct2 oW eK (cv 3) (wZ (v:=.int 30) (t:=.int 30) rfl T.Q7 ⟨_,rfl⟩ (λ_=>.int _))) (dN (ct2 op_ge Lk (cx (cv 4) jQ) (wZ (v:=.int 6) (t:=.int 6) rfl T.Zm ⟨_,rfl⟩ (λ_=>.int _))) (dm (vX (zX (cf (T.F 8 rfl) XG af (qQ (cv 5) (qQ (cv 1) (c7 (cx (cv 4) jQ))))))))))) (kQ (uQ sX)) pQ)
  (xQ (fj 6 S.nd (cf (T.F 7 rfl) kS af (qQ (cv 5) (c7 (cx (cv 4) jQ)))))
  (kQ (kZ (rD Ae BR BQ (λp s σ H x vs v us Q=>vU p s σ H x vs v us Q) rY (cv 2) (c7 (nY rfl (S.c gf) (S.k rfl rfl rfl gf) (cf (T.F 6 rfl) jU af (c7 (cv 5))) (λ_ _ _ _ _=>fZ) (λ_ _ _ _ _=>(dQ (qQ (cv 0) (qQ (uX jX xX (cx (cv 5) jQ) jQ) (c7 (cv 7)))))))))))))))))))
  (kQ (uQ sX))))),?_⟩
 .obtain⟨_,_,rfl,_⟩:=h;rfl
 rintro ts C R ⟨bs,ls,rfl,ho,ht,ab⟩
 delta Mt at ab
 refine⟨Th,km,jg,λp hp=>?_⟩;dsimp only[di.wn];refine aX ?_;refine mZ (λa0 C'=>Gr C C'/\Ln.d9 ls<=30/\Ln.fits bs 0 [] ls=true) (λL hL=>?_) λa0 C' zz=>Yl zz λg h1 h2=>(by have:=ab C' g;rw[AU h1,h2] at this;exact this);have w0:jq [(ls,0,[])]=1+3*Ln.d9 ls:=An _;have a8:qj [(ls,0,[])]=Ln.d9 ls:=An _;have f0:[(ls,0,[])].all (yR bs)=Ln.fits bs 0 [] ls:=Ao _
 refine⟨jq [(ls,0,[])]+1,yG (λn ρ C'=>∃(ps:List nu)(c:Nat)(x4 x5 x6:Option PV),n=jq ps/\n<=9001/\(c+qj ps=Ln.d9 ls/\c<=30/\ps.all (yR bs)=Ln.fits bs 0 [] ls)/\(∀x∈ps,RJ x/\x.2.2.length<=9000 )/\ρ=[some (xK ls),some (tN bs),some (.ref p),some (.int c),x4,x5,x6]/\C' p=some (.lst (ps.map vL))/\Gr C C') ?_ _ (jq [(ls,0,[])]) _ _ (A3 _) ⟨[(ls,0,[])],0,_,_,_,rfl,by lia,⟨by lia,by lia,f0⟩,λx O=>by rw[AR.1 O];exact⟨ho,AF _⟩,rfl,zQ,Gr.new hp _⟩⟩
 rintro n ρ C1 L1 ⟨ps,c,x4,x5,x6,rfl,en,⟨ec,aq,ef⟩,aj,rfl,m,g⟩ aw;refine ZO rfl m ?_
 rcases ps.eq_nil_or_concat with rfl|⟨ys,x,rfl⟩
 .exact gB rfl (hL _ _ ⟨g,by have:c+0=Ln.d9 ls:=ec;lia,ef.symm⟩)
 .rw[Bc] at *
  obtain⟨B,ex,q⟩:=x;rw[vK,show jq [(B,ex,q)]=1+3*Ln.d9 B from An _] at en;rw[nM,show qj [(B,ex,q)]=Ln.d9 B from An _] at ec;rw[Al,show[(B,ex,q)].all (yR bs)=Ln.fits bs ex q B from Ao _] at ef;rw[AG] at m ⊢;refine yH (by cases h:ys.map vL<;>rfl) ?_;refine⟨lZ m,uP m (y:=vL (B,ex,q)) ue ?_⟩;rw[show(ys.map vL++[(B,ex,q)].map vL).dropLast=ys.map vL from BL]
  have m2:cQ C1 p (.lst (ys.map vL)) p=some (.lst (ys.map vL)):=zQ;have av:Gr C (cQ C1 p (.lst (ys.map vL))):=λb o Z=>(yQ (zZ hp Z)).trans (g _ _ Z);generalize cQ C1 p (.lst (ys.map vL))=C2 at *
  obtain⟨⟨d,ai⟩,aa⟩:=aj (B,ex,q) ue;dsimp only at ai aa;dsimp only[di.wn];refine gQ rfl (wX rfl rfl (lX (fQ ?_)));dsimp only[di.wn];refine aG (gQ rfl ?_);show zW _ _ _ (Ln.ik B) _ _;rw[Ln.d8];refine uJ (λzs ρ C'=>∃(ds es:List Ln)(J:List nu)(U:Nat)(x5 x6:Option PV),ds++es=B/\zs=es.map Ln.pv/\ρ=[some (xK ls),some (tN bs),some (.ref p),some (.int U),some (vL (B,ex,q)),x5,x6]/\C' p=some (.lst ((ys++J).map vL))/\(∀x∈J,RJ x/\x.2.2.length<=9000)/\(jq J<=3*Ln.d9 ds/\U<=30/\J.all (yR bs)=Ln.fits bs ex q ds)/\U+qj J=c+Ln.d9 ds/\Gr C C') ?_ ?_ _ _ _ ⟨[],B,[],c,_,_,rfl,rfl,rfl,by rw[AM];exact m2,(λx O=>by cases O),⟨AQ _,aq,rfl⟩,rfl,av⟩
  .rintro z zs ρ C3 ⟨ds,es,J,U,y5,y6,e,hz,rfl,m3,hq,⟨az,ah,ae⟩,hc,Y⟩ L3 ax
   cases es with
   |nil=>cases hz
   |cons l es =>
    obtain⟨rfl,rfl⟩:=AZ hz;have hl:=ai l (by rw[<- e];simp);have et:Ln.d9 ds+(l.tw+Ln.d9 es)=Ln.d9 B:=by rw[<- e,ie];rfl
    obtain⟨a9,ba⟩:=l.lz ex q
    have ar:(ys.all (yR bs)&&(Ln.fits bs ex q ds&&(((decide (ex<6)&&l.hF bs q)&&(l.nxt ex q).all (yR bs))&&Ln.fits bs ex q es)))=Ln.fits bs 0 [] ls:=by
     rw[<- ef,<- e,Ln.ju,<- Ln.j9]
     rfl
    have ao:(decide (ex<6)&&l.hF bs q)=false->∀C',Gr C C'->R (.bl false) C':=λh C' g'=>by
     have:=ab C' g';rw[<- ar,h] at this
     simpa using this
    refine wV ⟨_,rfl,_,rfl,?_⟩;dsimp only[di.wn];refine gk (gJ (λh1=>?_) λh1=>?_)
    .have:=ab C3 Y
     rw[AW (by have:=Af h1;have:=l.GD;lia)] at this;exact this
    have h1:=BI h1;refine gQ rfl (gk (gJ (λh2=>?_) λh2=>?_))
    .exact ao (by rw[AW (by have:(6:Int)<=(ex:Nat):=Af h2;lia)];rfl) C3 Y
    have h2:¬ (6:Int)<=(ex:Nat):=BI h2;refine gQ rfl (Up.mk bs q l rfl hl.hg λC4 g4=>j8 (λh3=>?_) λh3=>ao (by rw[h3,A2]) C4 (Y.trans g4));refine fQ ?_;refine gQ rfl (Ue.mk l q rfl ir ?_);dsimp only[di.wn];refine⟨lZ (g4 _ _ m3),?_⟩;have il:l.inl.length<=2:=by cases l<;>simp[Ln.inl]
    show fW (kY Px (tJ (zK 5) gY)) aU _ _ _ _
    delta fW
    refine Px.mk l rfl λp5 C5 a4 g5 m5=>?_;dsimp only;rw[m5];refine lR (C0:=C5) (λC' g'=>g' _ _ m5) (λx=>.tup [x,.int ((ex:Nat)+1),tN (l.tau q)]) _ [] C5 Gr.refl (by rw[A0,AA];exact AK (show _<=2 by lia) Th) (λx O C6 Q' g6 ay=>?_) λp7 C7 a5 g7 m7=>?_
    .exact gQ rfl (eJ ⟨km,ay C6 Gr.refl⟩)
    have au:[]++(l.inl.map xK).map (λx=>PV.tup [x,.int ((ex:Nat)+1),tN (l.tau q)])=(l.nxt ex q).map vL:=by
     delta Ln.nxt
     rw[BH,Aj,Aj]
     rfl
    rw[au] at m7;have ag:Gr C4 C7:=g5.trans g7;have l1:=wG ys;have l2:=wG J;have l3:=wG (l.nxt ex q);refine bM (ag _ _ (g4 _ _ m3)) m7 (by rw[AA,AA,AB];exact AK (show _<=100000 by lia) Th) ?_;refine ax _ _ ⟨ds++[l],es,J++l.nxt ex q,U+1,_,_,by rw[AI];exact e,rfl,rfl,by rw[zQ,<- AG,AI],λx O=>?_,⟨?_,by lia,?_⟩,?_,λb o Z=>(yQ (zZ hp Z)).trans ((Y.trans (g4.trans ag)) _ _ Z)⟩
    .rcases AY.1 O with h|h
     .exact hq x h
     .refine⟨Ln.Fe hl ex q x h,?_⟩
      obtain⟨_,_,rfl⟩:=AX.1 h;have e3:l.hF bs q=true:=h3
      cases l with
      |each n r ak =>
       have:(j7 bs q r&&decide (q.length<2))=true:=e3;rw[Aq] at this;have:=Af this.2;show(q++[n]).length<=9000;rw[AB];show q.length+1<=9000
       lia
      |plain k t s h' ak=>exact aa
      |part k t s=>exact aa
      |give k t s ak=>exact aa
      |when r a6 a7=>exact aa
    .rw[vK,ie,show Ln.d9 [l]=l.tw from An _]
     lia
    .rw[Al,ae,Ln.ju,show Ln.fits bs ex q [l]=l.fit bs ex q from Ao _,Ln.j9,h3,AU (show ex<6 by lia),Ab,Ab]
    .rw[nM,ie,show Ln.d9 [l]=l.tw from An _]
     lia
  .rintro ρ C3 ⟨ds,es,J,U,y5,y6,e,hz,rfl,m3,hq,⟨az,ah,ae⟩,hc,Y⟩
   cases es with
   |cons c es=>cases hz
   |nil =>
    rw[AM] at e;subst e;refine aw (jq (ys++J)) _ _ (by rw[vK,vK,show jq [(ds,ex,q)]=1+3*Ln.d9 ds from An _];lia) ⟨ys++J,U,_,_,_,rfl,by rw[vK];lia,⟨by rw[nM];lia,ah,by rw[Al,ae];exact ef⟩,λx O=>?_,rfl,m3,Y⟩
    rcases AY.1 O with h|h
    .exact aj x (Ap _ h)
    .exact hq x h
inductive Um(ts:List PV)(C:CH)(Q:K1):Prop
 |mk(x:Pt)(p:Addr)(rs:List Str)(z0:ts=[x.pv,.ref p])(zm:C p=some (.lst (rs.map PV.str)))(zo:∃d,∀l∈x.ls,l.gd d)(zt:Ln.d9 x.ls<=3000)(z1:∀C',Gr C C'->Q (.bl ((Ln.gls x.ls).all (inB rs))) C')
def NB(T:Tx W a){k:Nat}:Ok W a (k+2) 19 ["part","names"] Um:=by
 have S:=(T.F 19 rfl).s;have jU:=EY (k:=k) T
 refine(T.F 19 rfl).ok (λts C R h=>?_) λaw A outer s H E ar=>⟨_,(xQ (fj 2 S.nd (oQ (c7 (cx (cv 0) jQ))))
  (xQ (lY PassesOwn.never (pI (cv 2)) (xQ (fj 3 S.nd (dM Ae BE BD kM sG (cv 2)))
  (kQ (mV PassesOwn.never rfl (cv 3) (jl 4 S.nd) (xQ (nQ (dq (iw (ct2 rX yX (cx (cv 4) jQ) wQ) (gm (xJ eZ dJ (cx (cv 4) jQ) (cv 1) rfl)))) (kQ (uQ sX)) pQ)
  (kQ (kZ (rD Ae BR BQ (λp s σ H x vs v us Q=>vU p s σ H x vs v us Q) rY (cv 2) (c7 (cf (T.F 6 rfl) jU ar (c7 (cv 4))))))))))))
  (kQ (uQ sX)))),?_⟩
 .obtain⟨_,_,_,rfl,_⟩:=h;rfl
 rintro ts C R ⟨U,pn,B,rfl,mn,ho,ht,q⟩;refine gQ rfl ⟨jg,λp hp=>?_⟩;dsimp only[di.wn];refine mZ (λav C'=>Gr C C'/\(Ln.gls U.ls).all (inB B)=true) (λL hL=>?_) λav C' zz=>lL zz λg h=>(by have:=q C' g;rwa[h] at this);have w0:jq [(U.ls,0,[])]=1+3*Ln.d9 U.ls:=An _;refine⟨jq [(U.ls,0,[])]+1,yG (λn ρ C'=>∃ps x3 x4,n=jq ps/\n<=9001/\((∀x∈ps,RJ x)/\ps.all (Mv B)=(Ln.gls U.ls).all (inB B))/\ρ=[some U.pv,some (.ref pn),some (.ref p),x3,x4]/\C' p=some (.lst (ps.map λq=>xK q.1))/\Gr C C') ?_ _ (jq [(U.ls,0,[])]) _ _ (A3 _) ⟨[(U.ls,0,[])],_,_,rfl,by lia,⟨λx Z=>(AR.1 Z)▸ho,(Ao _)⟩,rfl,zQ,Gr.new hp _⟩⟩
 rintro n ρ C1 L1 ⟨ps,x3,x4,rfl,en,⟨ag,ef⟩,rfl,m,g⟩ ak
 apply ZO rfl m
 rcases ps.eq_nil_or_concat with rfl|⟨ys,x,rfl⟩
 .exact gB rfl (hL _ _ ⟨g,ef.symm⟩)
 .rw[Bc] at *
  obtain⟨J,ex,O⟩:=x;rw[vK,show jq [(J,ex,O)]=1+3*Ln.d9 J from An _] at en;rw[Al,show[(J,ex,O)].all (Mv B)=(Ln.gls J).all (inB B) from Ao _] at ef;rw[AG] at m ⊢
  apply yH (by cases h:ys.map (λq:nu=>xK q.1)<;>rfl)
  refine⟨lZ m,uP m (y:=xK J) ue ?_⟩;rw[show(ys.map (λq:nu=>xK q.1)++[(J,ex,O)].map (λq:nu=>xK q.1)).dropLast=ys.map (λq:nu=>xK q.1) from BL];have m2:cQ C1 p (.lst (ys.map λq:nu=>xK q.1)) p=some (.lst (ys.map λq:nu=>xK q.1)):=zQ;have aj:Gr C (cQ C1 p (.lst (ys.map λq:nu=>xK q.1))):=λb o eb=>(yQ (zZ hp eb)).trans (g _ _ eb);generalize cQ C1 p (.lst (ys.map λq:nu=>xK q.1))=C2 at *
  obtain⟨d,af⟩:=(ag (J,ex,O) ue);dsimp only at af;dsimp only[di.wn]
  apply aG
  show zW _ _ _ (Ln.ik J) _ _;rw[Ln.d8];refine uJ (λzs ρ C'=>∃ds es Y x4,ds++es=J/\zs=es.map Ln.pv/\ρ=[some U.pv,some (.ref pn),some (.ref p),some (xK J),x4]/\C' p=some (.lst ((ys++Y).map λq=>xK q.1))/\(∀x∈Y,RJ x)/\(jq Y<=3*Ln.d9 ds/\Y.all (Mv B)=(Ln.gls ds).all (inB B))/\Gr C C') ?_ ?_ _ _ _ ⟨[],J,[],_,rfl,rfl,rfl,by rw[AM];exact m2,(λx Z=>by cases Z),⟨AQ _,rfl⟩,aj⟩
  .rintro z zs ρ C3 ⟨ds,es,Y,y4,e,hz,rfl,m3,hq,⟨au,ae⟩,ab⟩ L3 ao
   cases es with
   |nil=>cases hz
   |cons l es =>
    obtain⟨rfl,rfl⟩:=AZ hz;have hl:=af l (by rw[<- e];simp);have et:Ln.d9 ds+(l.tw+Ln.d9 es)=Ln.d9 J:=by rw[<- e,ie];rfl
    obtain⟨az,a0⟩:=l.lz ex O
    have ah:(ys.all (Mv B)&&((Ln.gls ds).all (inB B)&&((l.own B&&(l.nxt ex O).all (Mv B))&&(Ln.gls es).all (inB B))))=(Ln.gls U.ls).all (inB B):=by
     rw[<- ef,<- e,Ln.mq,Al,<- Ln.FW];show _=(_&&(_&&(l.gl++Ln.gls es).all (inB B)));rw[Al]
    have aa:l.own B=true->J7 (Rv aM (zK 2) (tJ (kY Px (tJ (zK 4) gY)) gY)) ((((di.go R).wn L).lp L1).lp L3) [some U.pv,some (.ref pn),some (.ref p),some (xK J),some l.pv] C3:=by
     intro aq;refine⟨lZ m3,Px.mk l rfl λp5 C5 ax g5 m5=>?_⟩
     have ai:l.inl.map xK=(l.nxt ex O).map λq=>xK q.1:=by
      delta Ln.nxt
      rw[Aj]
      rfl
     rw[ai] at m5;have l1:=wG ys;have l2:=wG Y;have l3:=wG (l.nxt ex O)
     apply bM (g5 _ _ m3) m5 (by rw[AA,AA,AB];exact AK (show _<=100000 by lia) Th)
     refine ao _ _ ⟨ds++[l],es,Y++l.nxt ex O,_,by rw[AI];exact e,rfl,rfl,by rw[zQ,<- AG,AI],λx Z=>?_,⟨?_,?_⟩,λb o eb=>(yQ (zZ hp eb)).trans ((ab.trans g5) _ _ eb)⟩
     .rcases AY.1 Z with h|h
      .exact hq x h
      .exact Ln.Fe hl ex O x h
     .rw[vK,ie,show Ln.d9 [l]=l.tw from An _]
      lia
     .rw[Al,ae,Ln.mq,Al]
      congr 1
      show _=(l.gl++[]).all (inB B);rw[AM,Ln.FW B ex O,aq,Ab]
    cases l with
    |plain k ay s h ls=>exact gQ rfl ((dh (fQ (aa rfl))))
    |part k n gs =>
     refine gQ rfl ((gj (gQ rfl (mP (by show(match C3 pn with|some (.lst xs)=>some xs|_=>none)=_;rw[ab _ _ mn]) (gJ (λh=>?_) λh=>?_)))))
     .have:=q C3 ab
      rw[<- ah,show(Ln.part k n gs).own B=false from by show decide (n∈B)=false;simpa using h] at this;have h2:R (.bl false) C3:=by simpa using this
      exact h2
     .exact fQ (aa (by show decide (n∈B)=true;simpa using h))
    |give k n r ls=>exact gQ rfl ((dh (fQ (aa rfl))))
    |when r l1 l2=>exact gQ rfl ((dh (fQ (aa rfl))))
    |each n r ls=>exact gQ rfl ((dh (fQ (aa rfl))))
  .rintro ρ C3 ⟨ds,es,Y,y4,e,hz,rfl,m3,hq,⟨au,ae⟩,ab⟩
   cases es with
   |cons c es=>cases hz
   |nil =>
    rw[AM] at e;subst e;refine ak (jq (ys++Y)) _ _ (by rw[vK,vK,show jq [(ds,ex,O)]=1+3*Ln.d9 ds from An _];lia) ⟨ys++Y,_,_,rfl,by rw[vK];lia,⟨λx Z=>?_,by rwa[Al,ae]⟩,rfl,m3,ab⟩
    rcases AY.1 Z with h|h
    .exact ag x (Ap _ h)
    .exact hq x h
end
noncomputable def aZ(q:List Pt):List Str:=q.map (·.name)
def Xi{ss:List Str}(n:Nat):yY (ss.map PV.str) (some ( n+1)) none=(ss.drop (n+1)).map PV.str:=by
 delta yY
 have e:HT.sIx (ss.map PV.str).length 0 (some ((n:Int)+1))=min (n+1) ss.length:=by
  have:((n:Int)+1)=((n+1:Nat):Int):=by lia
  rw[this,HT.sIx_nat,AA]
 rw[e,HT.sIx_none,<- List.map_drop,BO (by grind)]
 congr 1
 by_cases h:n+1<=ss.length
 .lia
 .simp_all
def yP(m:C x=some (.lst xs))(q:∀p,C p=none->Q (.ref p) (cQ C p (.lst (yY xs lo hi)))):YF (.ref x) lo hi C Q:=by
 delta YF
 dsimp only
 rwa[m]
def u6(m:C p=some (.lst xs))(q:Q (.tup xs) C):iU [.ref p] C Q:=by
 delta iU
 dsimp only
 rwa[m]
noncomputable def R6:List Str->Str->List Str
 |[],_=>[]
 |s::r,n=>if s=n then r else R6 r n
theorem eD:∀{q}{k}{n},q.Nodup->q[k]?=some n->R6 q n=q.drop (k+1)
 |[],_,_,_,h=>by cases h
 |s::r,0,n,_,h=>by
  cases h;show(if s=s then r else _)=_;rw[A4 rfl]
  rfl
 |s::r,k+1,n,B,h=>by
  have h':=h
  have J:s≠n:=λe=>by
   subst e;exact(Bf.1 B).1 (Ak h')
  show(if s=n then r else R6 r n)=_;exact(A7 J)▸eD (Bf.1 B).2 h'
noncomputable def Pt.q8(x:Pt):List Str:=x.first.map (·.1)
noncomputable def qp(x:Pt):Bool:=R5 x.first&&((su x.q8 [] x.works&&decide (x.works.length<=4))&&Mt x.q8 x.ls)
noncomputable def Ry(q:List Str)(x:Pt):Bool:=(Ln.gls x.ls).all (inB (R6 q x.name))
noncomputable def n6(q:List Pt):Bool:=(decide (1<=q.length)&&decide (q.length<=6))&&((q.all qp&&decide (aZ q).Nodup)&&q.all (Ry (aZ q)))
structure Mh(x:Pt):Prop where
 nm:qZ x.name=true
 fs:∀c∈x.first,qZ c.1=true/\Bd c.2
 fl:x.first.length<=1000
 wk:o7 x.works
 ls:∃d,∀l∈x.ls,Ln.gd d l
 ll:x.ls.length<=1000
 tw:Ln.d9 x.ls<=3000
section
variable{W:Wd}{a:Adr}
inductive UL(ts:List PV)(C:CH)(Q:K1):Prop
 |mk(pts:List Pt)(k:Nat)(x:Pt)(z0:ts=[.tup (pts.map Pt.pv),.str x.name])(zk:pts[k]?=some x)(zd:(aZ pts).Nodup)(zl:pts.length<=1000)(z1:gH C (((aZ pts).drop (k+1)).map PV.str) Q)
noncomputable def Oj(T:Tx W a):Ok W a (k+1) 20 ["house","name"] UL:=by
 have S:=(T.F 20 rfl).s
 refine(T.F 20 rfl).ok (λts C R h=>?_) λae A outer s H E ag=>⟨_,(xQ (oH (i:=2) S.nd rfl (Or.inl rfl) rfl (S.c gf) (S.k (L:=0) rfl rfl rfl gf) (qK (cv 0)) (λ_ _ _ _ _=>fZ) (λ_ _ _ _ _=>(cx (cv 0) jQ)))
  (kQ (uQ (eU (cv 2) (oJ (uX jX xX (rD Ae PySem.F.slot_list_index PySem.F.type_list_index (λp s σ H x vs v us Q=>Ky p s σ H x vs v us Q) Zw (cv 2) (c7 (cv 1))) jQ)) uK)))),?_⟩
 .obtain⟨_,_,_,rfl,_⟩:=h;rfl
 rintro ts C R ⟨q,k,x,rfl,O,aa,hl,ab⟩;have af:=(Aa.1 O).1;refine qW (λx=>match x with | .tup (n::_)=>n|_=>.non) _ [] C Gr.refl (by rw[A0,AA];exact AK (show _<=1000 by lia) Th) (λx B C1 Q' g hq=>?_) λp C1 h3 g m=>?_
 .obtain⟨y,_,rfl⟩:=AX.1 B
  exact gQ rfl (hq C1 Gr.refl)
 have Z:[]++(q.map Pt.pv).map (λx=>match x with | .tup (n::_)=>n|_=>PV.non)=(aZ q).map PV.str:=by
  rw[ Aj,aZ,Aj]
  rfl
 rw[Z] at m;have B:(aZ q)[k]?=some x.name:=by delta aZ;rw[Ag,O];rfl
 refine⟨lZ m,⟨p,aZ q,x.name,k,rfl,rfl,m,B,λj hj e=>?_,eJ (yP m λp5 Y=>?_)⟩⟩
 .have J:j<(aZ q).length:=by delta aZ;rw[AA];omega
  have U:k<(aZ q).length:=by delta aZ;rw[AA];omega
  rw[AJ J] at e;rw[AJ U] at B;exact Cp.1 aa j k J U hj ((Av e).trans (Av B).symm)
 .apply ab p5 _ (bZ g Y) (g.trans (Gr.new Y _))
  rw[zQ,Xi]
inductive Ut(ts:List PV)(C:CH)(Q:K1):Prop
 |mk(x:Pt)(z0:ts=[x.pv])(zo:Mh x)(z1:∀C',Gr C C'->Q (.bl (qp x)) C')
def N6(T:Tx W a):Ok W a (k+11) 16 ["thing"] Ut:=by
 have S:=(T.F 16 rfl).s;have pK:=fY (k:=k+9) T;have XN:=Ol (k:=k+7) T;have hM:=Ey (k:=k+4) T;have XF:=Hk (k:=k) T
 refine(T.F 16 rfl).ok (λts C R h=>?_) λae A outer s H E U=>⟨_,(xQ (nQ (dq (dN (vX (zX (aQ sQ nX rfl T.lQ rfl (qQ (cv 0) (c7 (oZ rfl T.xZ rfl)))))) (dm (ct2 xY zV (gw T.tX (cv 0)) jQ)))) (kQ (uQ sX)) pQ)
  (xQ (nQ (dq (dN (vX (zX (cf (T.F 1 rfl) pK U (c7 (cx (cv 0) jQ))))) (dm (vX (zX (cf (T.F 17 rfl) XN U (c7 (cx (cv 0) jQ)))))))) (kQ (uQ sX)) pQ)
  (xQ (fj 1 S.nd (qz T.xZ (sZ rfl (S.c gf) (S.k (L:=0) rfl rfl rfl gf) (qK (cx (cv 0) jQ)) (λ_ _ _ _ _=>fZ) (λ_ _ _ _ _=>(cx (cv 0) jQ)))))
  (xQ (nQ (dq (dN (vX (zX (cf (T.F 11 rfl) hM U (qQ (cx (cv 0) jQ) (qQ (cv 1) (c7 (dQ cX))))))) (dm (ct2 oW eK (gw T.tX (cx (cv 0) jQ)) (wZ (v:=.int 4) rfl T.Q5 ⟨_,rfl⟩ (λ_=>.int _)))))) (kQ (uQ sX)) pQ)
  (kQ (uQ (cf (T.F 5 rfl) XF U (qQ (cx (cv 0) jQ) (c7 (cv 1)))))))))),?_⟩
 .obtain⟨_,rfl,_⟩:=h;rfl
 rintro ts C R ⟨x,rfl,B,q⟩
 delta qp at q
 refine wX rfl rfl (lX (mX (mQ (eQ _ _) (bQ rfl (fQ (gQ rfl (uo.mk x.name rfl B.nm λC1 J=>lX (gQ rfl (UT.mk x.first rfl B.fl B.fs λC2 O=>j8 (λhb=>fQ ?_) λhb=>by have:=q C2 (J.trans O);rwa[hb] at this)))))))));rw[hb,Ab] at q;refine gQ rfl (qW (λx=>match x with | .tup (n::_)=>n|_=>.non) _ [] C2 Gr.refl (by rw[A0,AA];have:=B.fl;exact AK (show _<=1000 by lia) Th) (λx hx C3 Q' g hq=>?_) λp C3 h3 Y m=>?_)
 .obtain⟨y,_,rfl⟩:=AX.1 hx
  exact gQ rfl (hq C3 Gr.refl)
 have ab:[]++(x.first.map nW).map (λx=>match x with | .tup (n::_)=>n|_=>PV.non)=x.q8.map PV.str:=by
  delta Pt.q8
  rw[BH,Aj,Aj]
  rfl
 rw[ab] at m
 apply u6 m
 dsimp only[di.wn];refine gQ rfl ⟨AF _,RW.mk x.q8 [] x.works rfl B.wk λC4 Z=>j8 (λaa=>?_) λaa=>by have:=q C4 (J.trans (O.trans (Y.trans Z)));rwa[aa] at this⟩;rw[aa,Ab] at q;refine gQ rfl (mX (gk ?_));rw[AA];refine gJ (λhl=>?_) λhl=>fQ ?_
 .have:=q C4 (J.trans (O.trans (Y.trans Z)))
  rw[AW (by have:=Af hl;omega)] at this;exact this
 rw[AU (by have:=BI hl;omega),Ab] at q;exact gQ rfl (Ph.mk x.q8 x.ls rfl B.ls B.tw λC5 g5=>q C5 (J.trans (O.trans (Y.trans (Z.trans g5)))))
inductive Uu(ts:List PV)(C:CH)(Q:K1):Prop
 |mk(pts:List Pt)(z0:ts=[.tup (pts.map Pt.pv)])(zo:∀x∈pts,Mh x)(zl:pts.length<=1000)(z1:∀C',Gr C C'->Q (.bl (n6 pts)) C')
def N7(T:Tx W a):Ok W a (k+12) 18 ["thing"] Uu:=by
 have S:=(T.F 18 rfl).s;have Vk:=N6 (k:=k) T;have cZ:=Je (k:=k+9) T;have Qh:=NB (k:=k+9) T;have Y5:=Oj (k:=k+10) T
 refine(T.F 18 rfl).ok (λts C R h=>?_) λag A outer s H E aa=>⟨_,(xQ (nQ (dq (dN (vX (zX (aQ sQ nX rfl T.lQ rfl (qQ (cv 0) (c7 (oZ rfl T.xZ rfl)))))) (dm (vX (gD bG bG iV iV jQ (gw T.tX (cv 0)) (wZ (v:=.int 6) rfl T.Q6 ⟨_,rfl⟩ (λ_=>.int _))))))) (kQ (uQ sX)) pQ)
  (xQ (nQ (dq (dN (vX (zX (aQ (aW rfl) oG rfl T.vP rfl (c7 (sZ rfl (S.c gf) (S.k rfl rfl rfl gf) (qK (cv 0)) (λ_ _ _ _ _=>fZ) (λ_ _ _ _ _=>(cf (T.F 16 rfl) Vk aa (c7 (cv 0))))))))) (dm (vX (zX (cf (T.F 12 rfl) cZ aa (qQ (cv 0) (c7 jQ)))))))) (kQ (uQ sX)) pQ)
  (kQ (uQ (aQ (aW rfl) oG rfl T.vP rfl (c7 (sZ rfl (S.c gf) (S.k rfl rfl rfl gf) (qK (cv 0)) (λ_ _ _ _ _=>fZ) (λ_ _ _ _ _=>(cf (T.F 19 rfl) Qh aa (qQ (cv 0) (c7 (cf (T.F 20 rfl) Y5 aa (qQ (cv 1) (c7 (cx (cv 0) jQ))))))))))))))),?_⟩
 .obtain⟨_,rfl,_⟩:=h;rfl
 rintro ts C R ⟨B,rfl,Z,hl,q⟩
 delta n6 at q
 refine wX rfl rfl (lX (mX (gk ?_)));rw[AA];have d1:decide ((1:Int)<=((B.length:Nat):Int))=decide (1<=B.length):=by congr 1;exact propext ⟨λh=>by lia,λh=>by lia⟩
 have d6:decide (((B.length:Nat):Int)<=6)=decide (B.length<=6):=by congr 1;exact propext ⟨λh=>by lia,λh=>by lia⟩
 rw[d1];refine gJ (λh1=>gk ?_) λh1=>Ww ?_
 case refine_2 =>
  have:=q C Gr.refl
  rwa[h1] at this
 rw[d6];rw[h1,Ab] at q;refine j8 (λh6=>fQ ?_) λh6=>by have:=q C Gr.refl;rwa[h6] at this
 rw[h6,Ab] at q;refine nR hl (λx O C2 U L J=>Ut.mk x rfl (Z x O) J) λp C2 _ U m=>cE m (j8 (λha=>?_) λha=>by have:=q C2 U;rwa[ha] at this);rw[ha,Ab] at q;refine Pz.mk (B.map λx=>(x.name,[.tup (x.first.map nW),.tup (x.works.map yV),.tup (Ln.ik x.ls)])) 4 (by rw[Aj];rfl) (λc hc=>?_) (by rw[AA];lia) λC3 ab=>?_
 .obtain⟨y,hy,rfl⟩:=AX.1 hc
  exact⟨(Z y hy).nm,rfl⟩
 rw[Aj,show((λx:Str×List PV=>x.1) ∘ λx:Pt=>(x.name,[.tup (x.first.map nW),.tup (x.works.map yV),.tup (Ln.ik x.ls)]))=(·.name) from rfl];refine j8 (λY=>fQ ?_) λY=>by have:=q C3 (U.trans ab);rwa[show aZ B=B.map (·.name) from rfl,Y] at this
 have ae:(aZ B).Nodup:=Af Y;rw[show aZ B=B.map (·.name) from rfl,Y,Ab] at q;refine nR (b:=Ry (aZ B)) hl (λx O C4 g4 L J=>?_) λp C4 _ g4 m=>cE m (q C4 (U.trans (ab.trans g4)));obtain⟨k,hk⟩:=List.getElem?_of_mem O;have af:(aZ B)[k]?=some x.name:=by delta aZ;rw[Ag,hk];rfl
 unfold Ry at J;rw[eD ae af] at J;exact gQ rfl (UL.mk B k x rfl hk ae hl λp5 C5 ah g5 m5=>Um.mk x p5 _ rfl m5 (Z x O).ls (Z x O).tw λC6 g6=>J _ (g5.trans g6))
abbrev vf(a:Adr)(dx wl:Addr)(l:Int)(t:Nat):CO:=.ins a.RowReader dx [((("words":Str)),.ref wl),((("line":Str)),.int l),((("taken":Str)),.int t)]
structure Rd where
 r:Addr
 dx:Addr
 wl:Addr
 ws:List Str
 l:Int
structure jm(a:Adr)(C:CH)(R:Rd)(t:Nat):Prop where
 o:C R.r=some (vf a R.dx R.wl R.l t)
 w:C R.wl=some (.lst (R.ws.map PV.str))
 n:R.ws.length<=1000
theorem jm.ne(h:jm a C R t):R.wl≠R.r:=λz=>by
 have:=h.w;rw[z,h.o] at this;cases this
def Tk(a:Adr)(R:Rd)(t:Nat)(C C':CH):Prop:=Gr (cQ C R.r (vf a R.dx R.wl R.l t)) C'
theorem Tk.at(h:jm a C R t)(k:Tk a R t' C C'):jm a C' R t':=
 ⟨k _ _ zQ,k _ _ ((yQ h.ne).trans h.w),h.n⟩
theorem Tk.one:Tk a R t C (cQ C R.r (vf a R.dx R.wl R.l t)):=Gr.refl
def Tk.gr(k:Tk a R t C C1)(g:Gr C1 C'):Tk a R t C C':=Gr.trans k g
theorem Tk.trans(k:Tk a R t C C1)(B:Tk a R t' C1 C'):Tk a R t' C C':=λb o e=>by
 by_cases q:b=R.r
 .subst q
  rw[zQ] at e;exact B _ _ (zQ.trans e)
 .rw[yQ q] at e
  exact B _ _ ((yQ q).trans (k _ _ ((yQ q).trans e)))
def Tk.of(h:jm a C R t)(g:Gr C C'):Tk a R t C C':=λb o e=>by
 by_cases q:b=R.r
 .subst q
  rw[zQ] at e;exact g _ _ (h.o.trans e)
 .exact g _ _ ((yQ q).symm.trans e)
def Tk.pre(h:jm a C R q)(g:Gr C C0)(k:Tk a R t C0 C'):Tk a R t C C':=(Tk.of h g).trans k
inductive um(a:Adr)(ts:List PV)(C:CH)(Q:K1):Prop
 |mk(R:Rd)(t:Nat)(w:Str)(z0:ts=[.ref R.r])(z1:jm a C R t)(z2:R.ws[t]?=some w)(z3:∀C',Tk a R (t+1) C C'->Q (.str w) C')
def QJ(T:Tx W a):Ok W a (k+1) 59 ["self"] (um a):=by
 refine(T.F 59 rfl).ok (λts C R h=>?_) λJ A outer s H E L=>⟨_,(xQ (nQ (ct2 rX yX (kJ T.rQ T.hZ (cv 0)) (gw T.tX (kJ T.rQ T.aJ (cv 0)))) sY pQ)
  (xQ (JD T.rQ T.hZ (cv 0))
  (kQ (uQ (cx (kJ T.rQ T.aJ (cv 0)) (uX wL eM (kJ T.rQ T.hZ (cv 0)) jQ)))))),?_⟩
 .obtain⟨_,_,_,rfl,_⟩:=h;rfl
 rintro ts C Q ⟨R,t,w,rfl,h,B,q⟩;have O:=(Aa.1 B).1;refine yJ h.o rfl (yJ h.o rfl (nK h.w (mQ ?_ (bQ rfl (fQ ?_)))))
 .rw[AA]
  show some (decide _)=some false
  congr 1
  apply AW
  lia
 refine⟨R.r,R.dx,_,t,rfl,h.o,rfl,by show 3<1000;decide,?_⟩;refine yJ zQ rfl (yJ zQ rfl (gk ?_));rw[show(t:Int)+1-1=t from by lia];exact tZ ((yQ h.ne).trans h.w) (iK (by simp_all)) (q _ Tk.one)
inductive Uy(a:Adr)(ts:List PV)(C:CH)(Q:K1):Prop
 |mk(R:Rd)(z0:ts=[.ref R.r])(z1:jm a C R R.ws.length)(z3:Q .non C)
def Od(T:Tx W a):Ok W a (k+1) 61 ["self"] (Uy a):=by
 refine(T.F 61 rfl).ok (λts C R h=>?_) λB A outer s H E J=>⟨_,(kQ (nQ (ct2 xF qU (kJ T.rQ T.hZ (cv 0)) (gw T.tX (kJ T.rQ T.aJ (cv 0)))) sY pQ)),?_⟩
 .obtain⟨_,rfl,_⟩:=h;rfl
 rintro ts C Q ⟨R,rfl,h,q⟩;refine yJ h.o rfl (yJ h.o rfl (nK h.w (gk (bQ (AW (by grind)) (fQ q)))))
inductive RZ(a:Adr)(ts:List PV)(C:CH)(Q:K1):Prop
 |mk(R:Rd)(t:Nat)(w:Str)(y:PV)(ss:List Str)(z0:ts=[.ref R.r,y])(z1:jm a C R t)(z2:R.ws[t]?=some w)(zy:∀C,oN C y=some (ss.map PV.str))(zw:w∈ss)(z3:∀C',Tk a R (t+1) C C'->Q (.str w) C')
def Nz(T:Tx W a):Ok W a (k+2) 62 ["self","words"] (RZ a):=by
 have O:=QJ (k:=k) T
 refine(T.F 62 rfl).ok (λts C R h=>?_) λY A outer s H E B=>⟨_,(xQ (fj 2 ((T.F 62 rfl).s).nd (jy T.rQ (T.F 59 rfl) T.bX O B (cv 0)))
  (xQ (nQ (xJ eZ dJ (cv 2) (cv 1) rfl) sY pQ)
  (kQ (uQ (cv 2))))),?_⟩
 .obtain⟨_,_,_,_,_,rfl,_⟩:=h;rfl
 rintro ts C Q ⟨R,t,w,y,ss,rfl,h,J,L,hs,q⟩;exact⟨gX h.o rfl,um.mk R t w rfl h J λC1 U=>Q1 (L C1) hs (bQ rfl (fQ (q C1 U)))⟩
inductive qg(a:Adr)(ts:List PV)(C:CH)(Q:K1):Prop
 |mk(R:Rd)(t:Nat)(w:Str)(z0:ts=[.ref R.r])(z1:jm a C R t)(z2:R.ws[t]?=some w)(zw:qZ w=true)(z3:∀C',Tk a R (t+1) C C'->Q (.str w) C')
def Ja(T:Tx W a):Ok W a (k+2) 63 ["self"] (qg a):=by
 have U:=QJ (k:=k) T;have Z:=fY (k:=k) T
 refine(T.F 63 rfl).ok (λts C R h=>?_) λaa A outer s H E B=>⟨_,(xQ (fj 1 ((T.F 63 rfl).s).nd (jy T.rQ (T.F 59 rfl) T.bX U B (cv 0)))
  (xQ (nQ (vX (zX (cf (T.F 1 rfl) Z B (c7 (cv 1))))) sY pQ)
  (kQ (uQ (cv 1))))),?_⟩
 .obtain⟨_,_,_,rfl,_⟩:=h;rfl
 rintro ts C Q ⟨R,t,w,rfl,h,O,L,q⟩;exact⟨gX h.o rfl,um.mk R t w rfl h O λC1 Y=>uo.mk w rfl L λC2 J=>lX (fQ (q C2 (Y.gr J)))⟩
inductive Ui(a:Adr)(ts:List PV)(C:CH)(Q:K1):Prop
 |mk(R:Rd)(t:Nat)(i:Int)(z0:ts=[.ref R.r])(z1:jm a C R t)(z2:R.ws[t]?=some (iz i))(zw:Bd i)(z3:∀C',Tk a R (t+1) C C'->Q (.int i) C')
def Nu(T:Tx W a):Ok W a (k+3) 64 ["self"] (Ui a):=by
 have U:=QJ (k:=k+1) T;have Z:=Ew (k:=k) T
 refine(T.F 64 rfl).ok (λts C R h=>?_) λaa A outer s H E B=>⟨_,(xQ (fj 1 ((T.F 64 rfl).s).nd (cf (T.F 21 rfl) Z B (c7 (jy T.rQ (T.F 59 rfl) T.bX U B (cv 0)))))
  (xQ (nQ (ct2 zM nG (cv 1) jZ) sY pQ)
  (kQ (uQ (cv 1))))),?_⟩
 .obtain⟨_,_,_,rfl,_⟩:=h;rfl
 rintro ts C Q ⟨R,t,i,rfl,h,O,L,q⟩;exact⟨gX h.o rfl,um.mk R t _ rfl h O λC1 Y=>S9.mk i rfl L λC2 J=>fQ (q C2 (Y.gr J))⟩
end
noncomputable def Ms:List Str:=["add","times","less","pick","take","box","down","turn","-"]
def Nb:∀w∈Ms,PySem.intText? w=none:=gf
def X8(h:Bd i):iz i∉Ms:=λq=>by
 have:=Nb _ q;rw[(kD h.1 h.2).2] at this;cases this
def ym(h:z∉Ms):(aK Ox (Sum.inr z)).isSome=false:=by
 have q:∀w∈Ms,w≠z:=λw J e=>h (e▸J);have h2:=q "times" gf;have B:=q "pick" gf
 simp[aK,Ox,(q "add" gf),h2,(q "less" gf),B]
def ye(h:z∉Ms):Zk ["take","box","down","turn"] (.str z)=false:=by
 have q:∀w∈Ms,w≠z:=λw L e=>h (e▸L);have h1:=q "take" gf;have h2:=q "box" gf;have B:=q "down" gf;have J:=q "turn" gf
 simp[Zk,h1,h1.symm,h2.symm,B.symm,J.symm]
noncomputable def Rk.jh:Rk->List PV
 |.num i=>[.tup [.str "num",.int i]]
 |.turn n=>[.tup [.str "turn",.str n]]
 |.ask s n=>[.tup [.str s,.str n]]
 |.bin w x y=>.str w::(x.jh++y.jh)
 |.pick x y z=>.str "pick"::(x.jh++(y.jh++z.jh))
noncomputable def Rk.hd:Rk->PV
 |.num i=>.tup [.str "num",.int i]
 |.turn n=>.tup [.str "turn",.str n]
 |.ask s n=>.tup [.str s,.str n]
 |.bin w _ _=>.str w
 |.pick _ _ _=>.str "pick"
noncomputable def Rk.hw:Rk->Nat
 |.turn _=>2
 |.ask _ _=>2
 |_=>1
noncomputable def qI(q:List Rk):List PV:=q.flatMap Rk.jh
theorem Rk.Ii:∀r:Rk,r.jh=r.hd::qI r.ins
 |.num _=>rfl
 |.turn _=>rfl
 |.ask _ _=>rfl
 |.bin w x y=>by show PV.str w::(x.jh++y.jh)=.str w::(x.jh++(y.jh++[]));rw[AM]
 |.pick x y z=>by show PV.str "pick"::(x.jh++(y.jh++z.jh))=.str "pick"::(x.jh++(y.jh++(z.jh++[])));rw[AM]
noncomputable def Rk.hws:Rk->List Str
 |.num i=>[iz i]
 |.turn n=>["turn",n]
 |.ask s n=>[s,n]
 |.bin w _ _=>[w]
 |.pick _ _ _=>["pick"]
theorem Rk.sr:∀r:Rk,r.dw=r.hws++mY r.ins
 |.num _=>rfl
 |.turn _=>rfl
 |.ask _ _=>rfl
 |.bin w x y=>by show w::(x.dw++y.dw)=w::(x.dw++(y.dw++[]));rw[AM]
 |.pick x y z=>by show("pick":Str)::(x.dw++(y.dw++z.dw))=("pick":Str)::(x.dw++(y.dw++(z.dw++[])));rw[AM]
theorem Rk.qd:∀r:Rk,r.hws.length=r.hw
 |.num _=>rfl
 |.turn _=>rfl
 |.ask _ _=>rfl
 |.bin _ _ _=>rfl
 |.pick _ _ _=>rfl
def iZ{ws:List Str}{dX}(h:ws.drop t=w::dX):ws[t]?=some w:=by
 have:(ws.drop t)[0]?=some w:=by rw[h];rfl
 rwa[List.getElem?_drop,An] at this
def zJ{ws:List Str}{dX}(h:ws.drop t=us++dX):ws.drop (t+us.length)=dX:=by grind[List.drop_drop,List.drop_left]
section
variable{W:Wd}{a:Adr}
inductive Pu(a:Adr)(ts:List PV)(C:CH)(Q:K1):Prop
 |mk(R:Rd)(t:Nat)(r:Rk)(dX:List Str)(z0:ts=[.ref R.r])(z1:jm a C R t)(z2:R.ws.drop t=r.hws++dX)(zw:r.gd)(z3:∀C',Tk a R (t+r.hw) C C'->Q r.hd C')
def Ht(T:Tx W a):Ok W a (k+3) 67 ["self"] (Pu a):=by
 have S:=(T.F 67 rfl).s;have iX:=QJ (k:=k+1) T;have jJ:=Ja (k:=k) T;have zG:=Ew (k:=k) T
 refine(T.F 67 rfl).ok (λts C R h=>?_) λaa A outer s H E O=>⟨_,(xQ (fj 1 S.nd (jy T.rQ (T.F 59 rfl) T.bX iX O (cv 0)))
  (xQ (nQ (xJ (xM T.mU) pM (cv 1) (wZ (v:=.ref a.JOINING) rfl T.bU rfl (λ_=>.ref _)) rfl) (kQ (uQ (cv 1))) pQ)
  (xQ (nQ (xJ (jM (dG O)) pD (cv 1) (wZ (v:=.ref a.NAMING) rfl T.Jo rfl (λH=>.kt (T.Z2 H) (.cons (.str _) (.cons (.str _) (.cons (.str _) (.cons (.str _) .nil)))))) rfl) (kQ (uQ (dQ (qQ (cv 1) (c7 (jy T.rQ (T.F 63 rfl) T.bX jJ O (cv 0))))))) pQ)
  (xQ (fj 2 S.nd (cf (T.F 21 rfl) zG O (c7 (cv 1))))
  (xQ (nQ (ct2 zM nG (cv 2) jZ) sY pQ)
  (kQ (uQ (dQ (qQ wQ (c7 (cv 2))))))))))),?_⟩
 .obtain⟨_,_,_,_,rfl,_⟩:=h;rfl
 rintro ts C Q ⟨R,t,r,dX,rfl,h,J,L,q⟩
 cases r with
 |num i =>
  have U:=L;refine⟨gX h.o rfl,um.mk R t (iz i) rfl h (iZ J) λC1 B=>⟨_,rfl,rfl,bQ (ym (X8 U)) (fQ (tV rfl rfl (bQ (ye (X8 U)) (fQ (S9.mk i rfl U λC2 Z=>fQ ⟨jf,q C2 (B.gr Z)⟩)))))⟩⟩
 |turn n=>exact⟨gX h.o rfl,um.mk R t "turn" rfl h (iZ J) λC1 B=>⟨_,rfl,rfl,bQ gf (fQ (tV rfl rfl (eX gf ⟨gX (B.at h).o rfl,qg.mk R (t+1) n rfl (B.at h) (iZ (zJ (us:=["turn"]) J)) L λC2 Y=>⟨jf,q C2 (B.trans Y)⟩⟩)))⟩⟩
 |ask s n =>
  refine⟨gX h.o rfl,um.mk R t s rfl h (iZ J) λC1 B=>⟨_,rfl,rfl,bQ ?_ (fQ (tV rfl rfl (eX ?_ ⟨gX (B.at h).o rfl,qg.mk R (t+1) n rfl (B.at h) (iZ (zJ (us:=[s]) J)) L.2 λC2 Y=>⟨jf,q C2 (B.trans Y)⟩⟩)))⟩⟩
  .rcases L.1 with rfl|rfl|rfl<;>decide +kernel
  .rcases L.1 with rfl|rfl|rfl<;>decide +kernel
 |bin w x y =>
  refine⟨gX h.o rfl,um.mk R t w rfl h (iZ J) λC1 B=>⟨_,rfl,rfl,eX ?_ (q C1 B)⟩⟩
  rcases L.1 with rfl|rfl|rfl<;>decide +kernel
 |pick x y z=>exact⟨gX h.o rfl,um.mk R t "pick" rfl h (iZ J) λC1 B=>⟨_,rfl,rfl,eX gf (q C1 B)⟩⟩
end
end K15
namespace CL
open PySem PySem.Spec L2 PySem.W
open PyProof.Rows hiding St
def Wt(q:KD X.K X.prog X.w d kvs)(L:X.A.units+1<cLine):OpR X (compareOp .In) (λx y H Q=>(∃z,x=.str z/\y=.ref d/\Q (.bl (aK kvs (Sum.inr z)).isSome) H)\/(∃(b:Addr)(ks:List Key),x=.ref b/\y=.ref d/\H b=some (.tup (ks.map kV))/\Q (.bl false) H)):=λww s σ H x y v u Q I B J h=>h.elim (λh=>xM q ww s σ H x y v u Q I B J h) λh=>Ks q L ww s σ H x y v u Q I B J h
theorem tT(I:List PV->iT->CH->Prop)(B:∀zs ρ C,I zs ρ C->S C)(O:∀x r ρ C,I (x::r) ρ C->∀L:iT->CH->Prop,(∀q C',I r q C'->L q C')->g x ρ C λU C1=>u (E.lp L) U C1)(J:∀ρ C,I [] ρ C->E.nx ρ C):∀xs ρ C,I xs ρ C->dF S g u E xs ρ C
 |[],ρ,C,h=>⟨B _ _ _ h,J ρ C h⟩
 |x::r,ρ,C,h=>⟨B _ _ _ h,O x r ρ C h _ λq C' h'=>tT I B O J r q C' h'⟩
end CL
namespace K15
open PySem L2 CL
noncomputable def run:List PV->List PV->Option (List PV)
 |[],M=>some M
 |.str w::zs,x::y::M =>
  if w="pick" then
   match M with
   |z::q=>run zs (.tup [.str w,x,y,z]::q)
   |[]=>none
  else if w="add"\/w="times"\/w="less" then run zs (.tup [.str w,x,y]::M) else none
 |.tup xs::zs,M=>if xs.all (λx=>(sV x).isSome)=true then run zs (.tup xs::M) else none
 |_::_,_=>none
theorem zL:∀{r:Rk},r.gd->∀zs M,run (r.jh.reverse++zs) M=run zs (r.pv::M)
 |.num i,_,zs,M=>rfl
 |.turn n,_,zs,M=>rfl
 |.ask s n,_,zs,M=>rfl
 |.bin w x y,h,zs,M=>by
  show run ((.str w::(x.jh++y.jh)).reverse++zs) M=_;rw[CN,List.reverse_append,AI,AI,zL h.2.2,zL h.2.1];show(if w="pick" then _ else if w="add"\/w="times"\/w="less" then run zs (.tup [.str w,x.pv,y.pv]::M) else none)=_;rw[A7 (by rcases h.1 with rfl|rfl|rfl<;>decide +kernel),A4 h.1]
  rfl
 |.pick x y z,h,zs,M=>by
  show run ((PV.str "pick"::(x.jh++(y.jh++z.jh))).reverse++zs) M=_;rw[CN,List.reverse_append,List.reverse_append,AI,AI,AI,zL h.2.2,zL h.2.1,zL h.1]
  rfl
def KY(hp:C0 U=none)J M'(hz:zs.length=J.length)(m:C U=some (.lst (J++M').reverse))(g:Gr C0 C)(l:J.length<=3)(ag:∀O C',U≠O->C' O=some (.lst J)->C' U=some (.lst M'.reverse)->Gr C0 C'->Q (.ref O) C'):rJ aU (LR Va (zK 2)) [some (.ref p),some (.ref U),x2,x3] Q zs [] C:=by
 refine mW (λzs Y C'=>∃q,Y++q=J/\q.length=zs.length/\C' U=some (.lst (q++M').reverse)/\Gr C0 C') ?_ ?_ _ _ _ ⟨J,rfl,hz.symm,m,g⟩
 .rintro x r Y C1 ⟨q,e,Z,B,aa⟩ L hL
  cases q with
  |nil=>cases Z
  |cons y q =>
   rw[A8,CN] at B;refine⟨lZ B,uP B (y:=y) ue (hL _ _ ⟨?_,q,by rw[AI];exact e,Nat.succ.inj Z,?_,λb o eb=>(yQ (zZ hp eb)).trans (aa _ _ eb)⟩)⟩
   .have:=A9 List.length e
    rw[AB,AD] at this;exact AE (show Y.length<4 by lia) Th
   .rw[zQ,BL]
 .rintro Y C1 ⟨q,e,Z,B,aa⟩ O ab
  have af:=Bh.1 Z;subst af;rw[AM] at e;subst e;have ae:=zZ ab B;exact ag O _ ae zQ ((yQ ae).trans B) (aa.trans (Gr.new ab _))
section
variable{W:Wd}{a:Adr}
inductive Uq(ts:List PV)(C:CH)(Q:K1):Prop
 |mk(p:Addr)(r:Rk)(z0:ts=[.ref p])(z1:C p=some (.lst r.jh))(zg:r.gd)(zl:r.jh.length<=100)(z3:∀C',Gr C C'->Q r.pv C')
def N5(T:Tx W a){k:Nat}:Ok W a (k+1) 22 ["items"] Uq:=by
 have S:=(T.F 22 rfl).s;have ai:=Jh (K:=W.K)
 refine(T.F 22 rfl).ok (λts C R h=>?_) λav A outer s H E ak=>⟨_,(xQ (fj 1 S.nd (oQ cX))
  (xQ (Dg PassesOwn.never rfl rfl T.XQ (cv 0) (jl 2 S.nd) (kQ (nQ (xJ (Wt T.mU (dG ak)) KU (cv 2) (wZ (v:=.ref a.JOINING) rfl T.bU rfl (λ_=>.ref _)) rfl) (xQ (oH (i:=3) S.nd rfl (Or.inl rfl) rfl (S.c gf) (S.k rfl rfl rfl gf) (sR rfl T.dW (c7 (iH T.mU ai (wZ (v:=.ref a.JOINING) rfl T.bU rfl (λ_=>.ref _)) (cv 2) (λ_ _=>rfl)))) (λ_ _ _ _ _=>fZ) (λ_ _ _ _ _=>(dM Ae BE BD kM sG (cv 2))))
  (kQ (kZ (cap (cv 1) (qz T.xZ (uX jX xX (oQ (c7 (cv 2))) (cv 3))))))) (kQ (kZ (cap (cv 1) (cv 2)))))))
  (kQ (uQ (cx (cv 1) jQ))))),?_⟩
 .obtain⟨_,_,rfl,_⟩:=h;rfl
 rintro ts C Q ⟨p,r,rfl,m,aj,hl,ar⟩;refine⟨AF _,λae Y=>?_⟩;have np:=zZ Y m;dsimp only[di.wn];refine wV (IW rfl ((yQ np).trans m) (tT (λzs ρ C'=>∃M x2 x3,ρ=[some (.ref p),some (.ref ae),x2,x3]/\C' ae=some (.lst M.reverse)/\run zs M=some [r.pv]/\M.length+zs.length<=100/\Gr C C') ?_ ?_ ?_ _ _ _ ⟨[],_,_,rfl,zQ,?_,?_,Gr.new Y _⟩))
 .rintro zs ρ C' ⟨M,x2,x3,rfl,_,_,_,g⟩
  exact g _ _ m
 .rintro it zs ρ C1 ⟨M,x2,x3,rfl,J,q,Z,g⟩ L hL
  rw[AD] at Z
  cases it with
  |str w =>
   rcases M with _|⟨x,_|⟨y,M⟩⟩
   .cases q
   .cases q
   .have aq:(aK Ox (Sum.inr w)).isSome=true:=by
     unfold run at q
     by_cases h1:w="pick"
     .rw[h1];decide +kernel
     .rw[A7 h1] at q
      by_cases h2:w="add"\/w="times"\/w="less"
      .rcases h2 with rfl|rfl|rfl<;>decide +kernel
      .rw[A7 h2] at q;cases q
    refine Or.inl ⟨w,rfl,rfl,eX aq ?_⟩
    have af:∀B O,x::y::M=B++O->Ow w=some (.int (B.length:Nat))->2<=B.length->B.length<=3->run zs (.tup (.str w::B)::O)=some [r.pv]->K9 (iI 3 (Xw (Rj (tJ (nj (YH a.JOINING Ow) (cC (PV.ref a.JOINING)) (zK 2)) gY)) aU (LR Va (zK 2)))) (J7 (Rv qB (zK 1) (tJ (kY iU (tJ (nj bB (Lz (tJ (zK 2) gY)) (zK 3)) gY)) gY))) (((di.go Q).wn (Lx (nj o5 (zK 1) (cC (PV.int 0))) (di.go Q))).lp L) ([some (PV.ref p),some (PV.ref ae),x2,x3].set 2 (some (PV.str w))) C1:=by
     intro B O e hj t2 au ao;rw[e] at J Z;refine wV ⟨w,_,rfl,rfl,hj,by lia,by lia,?_⟩;refine KY Y B O (by rw[AA,Ax];lia) J g au λp5 C5 h5 m5 aa g5=>?_;have n5:=h5;refine⟨lZ aa,⟨jg,λp6 ab=>lM zQ ((yQ (zZ ab m5)).trans m5) (AK (show 1+B.length<=4 by lia) Th) λp7 ag=>eF zQ (bK ((yQ ?_).trans ((yQ (zZ ab aa)).trans aa)) (by rw[Bu];exact AE (show _<101 by rw[AB] at Z;lia) Th) ?_)⟩⟩
     .exact zZ ag ((yQ (zZ ab aa)).trans aa)
     .refine hL _ _ ⟨.tup (.str w::B)::O,_,_,rfl,by rw[zQ,CN];rfl,ao,by rw[AB] at Z;rw[AD];lia,λb o U=>(yQ (zZ Y U)).trans (Gr.new ag _ _ _ (Gr.new ab _ _ _ (g5 _ _ U)))⟩
    unfold run at q
    by_cases h1:w="pick"
    .rw[A4 h1] at q
     cases M with
     |nil=>cases q
     |cons z M=>exact af [x,y,z] M rfl (by rw[h1];rfl) (by show 2<=3;decide) (by show 3<=3;decide) q
    .rw[A7 h1] at q
     by_cases h2:w="add"\/w="times"\/w="less"
     .rw[A4 h2] at q
      exact af [x,y] M rfl (by delta Ow;rw[A4 h2];rfl) (by show 2<=2;decide) (by show 2<=3;decide) q
     .rw[A7 h2] at q;cases q
  |tup xs =>
   have hx:xs.all (λx=>(sV x).isSome)=true:=by
    by_cases h:xs.all (λx=>(sV x).isSome)=true
    .exact h
    .unfold run at q;rw[A7 h] at q;cases q
   have ah:run zs (.tup xs::M)=some [r.pv]:=by unfold run at q;rwa[A4 hx] at q
   have hk:∃ks:List Key,xs.map sV=List.map some ks:=by
    clear q ah
    induction xs with
    |nil=>exact⟨[],rfl⟩
    |cons x xs ih =>
     rw[BS,Aq] at hx;obtain⟨ks,e⟩:=ih hx.2;obtain⟨k,ek⟩:=Option.isSome_iff_exists.1 hx.1;exact⟨k::ks,by rw[A5,A5,e,ek]⟩
   obtain⟨ks,hk⟩:=hk;refine Or.inr ⟨xs,ks,rfl,rfl,hk,bQ rfl ⟨lZ J,bK J (by rw[Bu];exact AE (show _<101 by lia) Th) (hL _ _ ⟨.tup xs::M,_,_,rfl,by rw[zQ,CN],ah,by rw[AD];lia,λb o U=>(yQ (zZ Y U)).trans (g _ _ U)⟩)⟩⟩
  |_=>cases q
 .rintro ρ C1 ⟨M,x2,x3,rfl,J,q,Z,g⟩
  have:=Av q;subst this;exact tZ J rfl (ar C1 g)
 .have:=zL aj [] []
  rwa[AM] at this
 .rwa[A0,Bu,BV]
end
def WW a b:qI (a++b)=qI a++qI b:=BC
def eN a b:mY (a++b)=mY a++mY b:=BC
theorem Rk.jk:∀r:Rk,r.jh.length<=r.dw.length
 |.num _=>AQ _
 |.turn _=>by show 1<=2;decide
 |.ask _ _=>by show 1<=2;decide
 |.bin w x y=>by
  have:=x.jk;have:=y.jk;show(PV.str w::(x.jh++y.jh)).length<=(w::(x.dw++y.dw)).length;rw[AD,AD,AB,AB]
  lia
 |.pick x y z=>by
  have:=x.jk;have:=y.jk;have:=z.jk;show(PV.str "pick"::(x.jh++(y.jh++z.jh))).length<=(("pick":Str)::(x.dw++(y.dw++z.dw))).length;rw[AD,AD,AB,AB,AB,AB]
  lia
noncomputable def Rk.lk(r:Rk):Int:=(r.ins.length:Nat)
section
variable{W:Wd}{a:Adr}
inductive zp(a:Adr)(ts:List PV)(C:CH)(Q:K1):Prop
 |mk(R:Rd)(t:Nat)(r:Rk)(dX:List Str)(z0:ts=[.ref R.r])(z1:jm a C R t)(z2:R.ws.drop t=r.dw++dX)(zw:Rg r)(z3:∀C',Tk a R (t+r.dw.length) C C'->Q r.pv C')
def Iv(r:Rk)(q:r.gd):(∃u,r.hd=.str u/\O4 (aK Ox (Sum.inr u)) (.int 0)=some (.int r.lk))\/∃xs ks,r.hd=.tup xs/\xs.map sV=List.map some ks/\r.lk=0:=by
 cases r with
 |num i=>exact .inr ⟨_,[.inr "num",.inl (some i)],rfl,rfl,rfl⟩
 |turn n=>exact .inr ⟨_,[.inr "turn",.inr n],rfl,rfl,rfl⟩
 |ask s n=>exact .inr ⟨_,[.inr s,.inr n],rfl,rfl,rfl⟩
 |bin w x y =>
  refine .inl ⟨w,rfl,?_⟩
  rcases q.1 with rfl|rfl|rfl<;>rfl
 |pick x y z=>exact .inl ⟨"pick",rfl,rfl⟩
def WA(T:Tx W a):Ok W a (k+4) 66 ["self"] (zp a):=by
 have S:=(T.F 66 rfl).s;have kP:=Ht (k:=k) T;have yS:=N5 (k:=k+2) T
 refine(T.F 66 rfl).ok (λts C R h=>?_) λar A outer s H E ae=>⟨_,(xQ (fj 1 S.nd (oQ cX))
  (xQ (fj 2 S.nd jQ)
  (xQ (lY PassesOwn.never (ct2 oW eK (cv 2) jQ) (xQ (fj 3 S.nd (jy T.rQ (T.F 67 rfl) T.bX kP ae (cv 0)))
  (xQ (kZ (cap (cv 1) (cv 3)))
  (kQ (dI 2 S.nd (uX wL eM (yE T.mU (dG ae) (wZ (v:=.ref a.JOINING) rfl T.bU rfl (λ_=>.ref _)) (cv 3) jQ) jQ))))))
  (kQ (uQ (cf (T.F 22 rfl) yS ae (c7 (cv 1)))))))),?_⟩
 .obtain⟨_,_,_,_,rfl,_⟩:=h;rfl
 rintro ts C Q ⟨R,t,r,dX,rfl,h,ak,Z,aq⟩;refine⟨AF _,λp hp=>?_⟩;have ag:p≠R.r:=λz=>by rw[z,h.o] at hp;cases hp
 dsimp only[di.wn];refine aX (mZ (λah C'=>∃x2 Y,ah=[some (.ref R.r),some (.ref p),x2,Y]/\C' p=some (.lst r.jh)/\Tk a R (t+r.dw.length) C C') (λL hL=>?_) ?_)
 .refine⟨r.dw.length+1,yG (λn ρ C'=>∃q B J Y,n=(mY q).length/\J+n=r.dw.length/\B++qI q=r.jh/\(∀x∈q,x.gd)/\R.ws.drop (t+J)=mY q++dX/\ρ=[some (.ref R.r),some (.ref p),some (.int (q.length:Nat)),Y]/\C' p=some (.lst B)/\B.length<=J/\Tk a R (t+J) C C') ?_ _ (r.dw.length) _ _ (A3 _) ⟨[r],[],0,_,by show _=(r.dw++[]).length;rw[AM],by lia,by show[]++(r.jh++[])=_;rw[AM];rfl,λx U=>by rw[AR.1 U];exact Z.g,by show R.ws.drop t=(r.dw++[])++dX;rw[AM];exact ak,rfl,zQ,AQ _,Tk.of h (Gr.new hp _)⟩⟩
  rintro n ρ C1 L1 ⟨q,B,J,Y,rfl,en,ed,af,ab,rfl,m,au,k1⟩ aj;have h1:=k1.at h
  cases q with
  |nil =>
   refine gk (bQ rfl ?_);have e0:B=r.jh:=by rw[<- ed];show _=B++[];rw[AM]
   have O:J=r.dw.length:=by rw[<- en];rfl
   subst e0;rw[O] at k1;exact hL _ _ ⟨_,_,rfl,m,k1⟩
  |cons x q =>
   refine gk (eX (AU (by rw[AD];lia)) ?_);have U:=af x AL;have ew:mY (x::q)=x.hws++(mY x.ins++mY q):=by show x.dw++mY q=_;rw[x.sr,AI]
   have ei:qI (x::q)=x.hd::(qI x.ins++qI q):=by show x.jh++qI q=_;rw[x.Ii];rfl
   have hl:=x.qd;have av:1<=x.hw:=by cases x<;>simp[Rk.hw]
   rw[ew,AI] at ab;refine⟨gX h1.o rfl,Pu.mk R (t+J) x _ rfl h1 ab U λC2 k2=>?_⟩;have m2:=k2 _ _ ((yQ ag).trans m);have aw:x.hw+(mY x.ins++mY q).length=(mY (x::q)).length:=by rw[ew,AB (as:=x.hws),hl]
   have ax:=Z.l;dsimp only[di.wn];refine⟨lZ m2,bK m2 (AE (show _<100 by lia) Th) ?_⟩
   have k3:Tk a R (t+J+x.hw) C (cQ C2 p (.lst (B++[x.hd]))):=λb o eb=>by
    have ao:b≠p:=λz=>by
     rw[z,yQ ag,hp] at eb;cases eb
    exact(yQ ao).trans ((k1.trans k2) _ _ eb)
   dsimp only[di.wn]
   have aa:L1 [some (PV.ref R.r),some (PV.ref p),some (PV.int (((x::q).length:Nat)+(x.lk-1))),some x.hd] (cQ C2 p (.lst (B++[x.hd]))):=by
    refine aj (mY (x.ins++q)).length _ _ (by rw[eN];lia) ⟨x.ins++q,B++[x.hd],J+x.hw,some x.hd,rfl,by rw[eN];lia,?_,λy hy=>?_,?_,?_,zQ,by rw[AB];show B.length+1<=_;lia,by rwa[<- Ct]⟩
    .rw[WW,AI,<- ed,ei]
     rfl
    .rcases AY.1 hy with h|h
     .exact Rk.my U y h
     .exact af y (AH _ h)
    .have:=zJ ab
     rw[hl,<- Ct] at *
     rw[eN,AI]
     rwa[AI] at this
    .have:((x::q).length:Int)+(x.lk-1)=((x.ins++q).length:Nat):=by
      delta Rk.lk
      rw[AD,AB]
      lia
     rw[this]
   refine⟨_,rfl,⟨rfl,?_⟩⟩
   rcases Iv x U with ⟨u,O,e2⟩|⟨xs,ks,O,e2,e3⟩
   .exact Or.inl ⟨u,_,O,e2,gk ⟨_,rfl,aa⟩⟩
   .rw[e3] at aa
    exact Or.inr ⟨xs,ks,O,e2,gk ⟨_,rfl,aa⟩⟩
 .rintro ah C' ⟨x2,Y,rfl,m,k⟩
  exact Uq.mk p r rfl m Z.g (by have:=r.jk;have:=Z.l;lia) λC2 ai=>aq C2 (k.gr ai)
inductive R0(a:Adr)(ts:List PV)(C:CH)(Q:K1):Prop
 |mk(R:Rd)(t:Nat)(o:Option Rk)(dX:List Str)(z0:ts=[.ref R.r])(z1:jm a C R t)(z2:R.ws.drop t=jb o++dX)(zw:j6 o)(z3:∀C',Tk a R (t+(jb o).length) C C'->Q (nV o) C')
def Io{r:Rk}(q:r.gd):∀{w us},r.hws=w::us->(w==("-":Str))=false:=by
 intro w us e;rw[beq_eq_false_iff_ne]
 cases r with
 |num i =>
  obtain⟨rfl,_⟩:=AZ e;exact λz=>X8 q (by rw[z];decide +kernel)
 |turn n=>obtain⟨rfl,_⟩:=AZ e;decide +kernel
 |ask s n =>
  obtain⟨rfl,_⟩:=AZ e
  rcases q.1 with rfl|rfl|rfl<;>decide +kernel
 |bin w x y =>
  obtain⟨rfl,_⟩:=AZ e
  rcases q.1 with rfl|rfl|rfl<;>decide +kernel
 |pick x y z=>obtain⟨rfl,_⟩:=AZ e;decide +kernel
def De{ws:List Str}(h:ws[t]?=some w):yY (ws.map PV.str) (some (t:Nat)) (some ( t+1))=[.str w]:=by
 have q:=(Aa.1 h).1
 delta yY
 rw[HT.sIx_nat,show((t:Nat):Int)+1=((t+1:Nat):Int) from rfl,HT.sIx_nat,AA,Nat.min_eq_left ir,Nat.min_eq_left ir,<- List.map_drop,show t+1-t=1 from by lia];rw[Az q];rw[AJ q] at h;rw[Av h]
 rfl
def NT(T:Tx W a):Ok W a (k+5) 65 ["self"] (R0 a):=by
 have hX:=WA (k:=k) T
 refine(T.F 65 rfl).ok (λts C R h=>?_) λaf A outer s H E Z=>⟨_,(xQ (nQ (ct2 (xg (dG Z)) Yv (eU (kJ T.rQ T.aJ (cv 0)) (oJ (kJ T.rQ T.hZ (cv 0))) (oJ (uX jX xX (kJ T.rQ T.hZ (cv 0)) jQ))) (oQ (c7 wQ))) (xQ (JD T.rQ T.hZ (cv 0))
  (kQ (uQ jZ))) pQ)
  (kQ (uQ (jy T.rQ (T.F 66 rfl) T.bX hX Z (cv 0))))),?_⟩
 .obtain⟨_,_,_,_,rfl,_⟩:=h;rfl
 rintro ts C Q ⟨R,t,o,dX,rfl,h,aa,O,ab⟩
 obtain⟨w,us,L⟩:∃w us,jb o=w::us:=by
  cases hk:jb o with
  |nil=>exact absurd hk (HQ o)
  |cons w us=>exact⟨w,us,rfl⟩
 refine yJ h.o rfl (yJ h.o rfl (yJ h.o rfl (eJ (yP h.w λp1 ae=>⟨Th,λp2 Y=>?_⟩))));rw[De (iZ (by rw[aa,L];rfl))] at *
 refine⟨p1,p2,w,"-",rfl,rfl,(yQ (zZ Y zQ)).trans zQ,zQ,?_⟩;have B:Gr C (cQ (cQ C p1 (.lst [.str w])) p2 (.lst [.str "-"])):=(Gr.new ae _).trans (Gr.new Y _);have h1:=(Tk.of h B).at h
 cases o with
 |none =>
  obtain⟨rfl,_⟩:=AZ L;refine eX ir ⟨R.r,R.dx,_,t,rfl,h1.o,rfl,by show 3<1000;decide,?_⟩;exact ab _ (Tk.pre h B Tk.one)
 |some r =>
  have J:r.hws++mY r.ins=w::us:=by rwa[<- r.sr]
  have q:∃vs,r.hws=w::vs:=by
   cases U:r.hws with
   |nil=>exfalso;have:=r.qd;rw[U] at this;cases r<;>simp[Rk.hw] at this
   |cons v vs=>rw[U] at J;exact⟨vs,by rw[(AZ J).1]⟩
  exact Yk q λvs q=>bQ (Io (O r rfl).g q) (fQ ⟨gX h1.o rfl,zp.mk R t r dX rfl h1 aa (O r rfl) λC2 k2=>ab C2 (Tk.pre h B k2)⟩)
end
def Lf:PV->Prop
 |.non=>True
 |.bl _=>True
 |.int _=>True
 |.str _=>True
 |.tup _=>True
 |_=>False
def Cl(C:CH):Nat->PV->PV->Prop
 |0,v,t=>Lf v/\t=v
 |d+1,v,t=>(Lf v/\t=v)\/∃p vs ts,v=.ref p/\C p=some (.lst vs)/\t=.tup ts/\vs.length<=20000/\vs.length=ts.length/\∀(i:Nat)x y,vs[i]?=some x->ts[i]?=some y->Cl C d x y
theorem Cl.leaf(h:Lf x):∀{d},Cl C d x x
 |0=>⟨h,rfl⟩
 |_+1=>.inl ⟨h,rfl⟩
theorem Cl.mono(g:Gr C C'):∀{d}{v t},Cl C d v t->Cl C' d v t
 |0,_,_,h=>h
 |d+1,_,_,.inl h=>.inl h
 |d+1,_,_,.inr ⟨p,vs,ts,q,B,J,l,e,h⟩=>.inr ⟨p,vs,ts,q,g _ _ B,J,l,e,λi x y L O=>Cl.mono g (h i x y L O)⟩
def Dm(m:C p=some (.lst vs))(l:vs.length<=20000)(h:∀x∈vs,Cl C d x (f x)):Cl C (d+1) (.ref p) (.tup (vs.map f)):=
 .inr ⟨p,vs,_,rfl,m,rfl,l,by rw[AA],λi x y q B=>by
  rw[Ag,q] at B;cases B
  exact h x (Ak q)⟩
theorem hR(J:∀C,Gr C0 C->S C)(O:∀x t C L,Cl C0 d x t->Gr C0 C->(∀C',Gr C C'->L t C')->c (some x::ρ) C L):∀xs ts B C,Gr C0 C->B.length+xs.length<=sizeLine->xs.length=ts.length->(∀(i:Nat)x y,xs[i]?=some x->ts[i]?=some y->Cl C0 d x y)->(∀p C',C0 p=none->Gr C0 C'->C' p=some (.lst (B++ts))->Q (.ref p) C')->oY S aU c ρ Q xs B C
 |[],ts,B,C,g,_,e,_,q=>⟨J C g,λp U=>q p _ (bZ g U) (g.trans (Gr.new U _)) (by
  have:=Bh.1 e.symm
  rw[zQ,this,AM])⟩
 |x::xs,ts,B,C,g,hl,e,h,q=>by
  cases ts with
  |nil=>cases e
  |cons t ts =>
   rw[AD] at hl;refine⟨J C g,O x t C _ (h 0 x t rfl rfl) g λC' g'=>⟨by lia,hR J O xs ts _ C' (g.trans g') (by grind) (Nat.succ.inj e) (λi a b Z hb=>h (i+1) a b Z hb) λp C2 h1 h2 Y=>q p C2 h1 h2 ?_⟩⟩;rw[Y,AI]
   rfl
section
variable{W:Wd}{a:Adr}
inductive Ga(d:Nat)(ts:List PV)(C:CH)(Q:K1):Prop
 |mk(v t:PV)(z0:ts=[v])(z1:Cl C d v t)(z3:∀C',Gr C C'->Q t C')
def WQ(h:Lf x){Q:PV->CH->Prop}(q:Q (.bl false) C):YI [x,.ty "list"] C Q:=by
 cases x with
 |non=>exact wX rfl rfl q
 |bl b=>exact wX rfl rfl q
 |int i=>exact wX rfl rfl q
 |str s=>exact wX rfl rfl q
 |tup xs=>exact wX rfl rfl q
 |_=>exact h.elim
def Hy(T:Tx W a):Ok W a 2 25 ["thing"] (Ga 0):=by
 have S:=(T.F 25 rfl).s
 refine(T.F 25 rfl).ok (λts C R h=>?_) λO A outer s H E J=>⟨_,(xQ (nQ (zX (aQ sQ nX rfl T.lQ rfl (qQ (cv 0) (c7 (oZ rfl T.vN rfl))))) (kQ (uQ (qz T.xZ (nY rfl (S.c gf) (S.k (L:=0) rfl rfl rfl gf) (cv 0) (λ_ _ _ _ _=>fZ) (λ_ _ _ _ _=>(cf (T.F 25 rfl) (xD λ_ _ _ h=>h) J (c7 (cv 0)))))))) pQ)
  (kQ (uQ (cv 0)))),?_⟩
 .obtain⟨_,_,rfl,_⟩:=h;rfl
 rintro ts C Q ⟨v,t,rfl,⟨B,rfl⟩,q⟩;exact WQ B (bQ rfl (fQ (q C Gr.refl)))
def Hx(T:Tx W a)(J:Ok W a r 25 ["thing"] (Ga d)):Ok W a (r+1) 25 ["thing"] (Ga (d+1)):=by
 have S:=(T.F 25 rfl).s
 refine(T.F 25 rfl).ok (λts C R h=>?_) λaa A outer s H E Y=>⟨_,(xQ (nQ (zX (aQ sQ nX rfl T.lQ rfl (qQ (cv 0) (c7 (oZ rfl T.vN rfl))))) (kQ (uQ (qz T.xZ (nY rfl (S.c gf) (S.k (L:=0) rfl rfl rfl gf) (cv 0) (λ_ _ _ _ _=>fZ) (λ_ _ _ _ _=>(cf (T.F 25 rfl) J Y (c7 (cv 0)))))))) pQ)
  (kQ (uQ (cv 0)))),?_⟩
 .obtain⟨_,_,rfl,_⟩:=h;rfl
 rintro ts C Q ⟨v,t,rfl,h,q⟩
 rcases h with ⟨O,rfl⟩|⟨p,vs,ts,rfl,m,rfl,l,e,h⟩
 .exact WQ O (bQ rfl (fQ (q C Gr.refl)))
 .exact wX rfl (by show(match C p with|some (.lst _)=>some Ty.lst|some (.dK _)=>some Ty.dct|_=>none)=_;rw[m]) (eX rfl (JM rfl m (hR (λC' g=>g _ _ m) (λx t C1 Q' Z g U=>Ga.mk x t rfl (Z.mono g) U) vs ts [] C Gr.refl (by rw[A0,BV];exact AK l Th) e h λp1 C1 h1 B m1=>eF m1 (q C1 B))))
theorem Jd(T:Tx W a):∀d,Ok W a (d+2) 25 ["thing"] (Ga d)
 |0=>Hy T
 |d+1=>Hx T (Jd T d)
end
abbrev bS:=Addr×CO
inductive It
 |lf (x:PV)
 |sub (q:Addr) (xs:List PV) (p:Addr) (ys:List PV)
noncomputable def It.root:It->PV
 |.lf x=>x
 |.sub q _ _ _=>.ref q
noncomputable def It.cl:It->PV
 |.lf x=>x
 |.sub _ xs _ ys=>.tup (xs++[.tup ys])
noncomputable def It.cells:It->List bS
 |.lf _=>[]
 |.sub q xs p ys=>[(q,.lst (xs++[.ref p])),(p,.lst ys)]
def It.ok:It->Prop
 |.lf x=>Lf x
 |.sub _ xs _ ys=>(∀x∈xs,Lf x)/\(∀y∈ys,Lf y)/\xs.length<=10000/\ys.length<=10000
inductive Fd
 |lf (x:PV)
 |ls (p:Addr) (its:List It)
noncomputable def Fd.root:Fd->PV
 |.lf x=>x
 |.ls p _=>.ref p
noncomputable def Fd.cl:Fd->PV
 |.lf x=>x
 |.ls _ its=>.tup (its.map It.cl)
noncomputable def Fd.cells:Fd->List bS
 |.lf _=>[]
 |.ls p its=>(p,.lst (its.map It.root))::its.flatMap It.cells
def Fd.ok:Fd->Prop
 |.lf x=>Lf x
 |.ls _ its=>(∀i∈its,i.ok)/\its.length<=10000
structure Fr where
 f:Addr
 fds:List Fd
noncomputable def Fr.cl(T:Fr):PV:=.tup (T.fds.map Fd.cl)
noncomputable def Fr.cells(T:Fr):List bS:=(T.f,.lst (T.fds.map Fd.root))::T.fds.flatMap Fd.cells
def Fr.ok(T:Fr):Prop:=(∀d∈T.fds,d.ok)/\T.fds.length<=10
structure HS where
 h:Addr
 dx:Addr
 pp:Addr
 pa:Addr
 parts:List PV
 frs:List Fr
 ahead:Str
abbrev j5(a:Adr)(dx pp pa:Addr)(s:Str):CO:=.ins a.HouseReader dx [((("parts":Str)),.ref pp),((("around":Str)),.ref pa),((("ahead":Str)),.str s)]
noncomputable def HS.cells(a:Adr)(S:HS):List bS:=(S.h,j5 a S.dx S.pp S.pa S.ahead)::(S.pp,.lst S.parts)::(S.pa,.lst (S.frs.map λT=>.ref T.f))::S.frs.flatMap Fr.cells
def Holds(C:CH)(cs:List bS):Prop:=∀c∈cs,C c.1=some c.2
def Dj(cs:List bS):Prop:=(cs.map (·.1)).Nodup
structure ig(a:Adr)(C:CH)(S:HS):Prop where
 ho:Holds C (S.cells a)
 nd:Dj (S.cells a)
 ok:∀T∈S.frs,T.ok
 fl:S.frs.length<=10000
 pl:S.parts.length<=10000
def Holds.gr(h:Holds C cs)(g:Gr C C'):Holds C' cs:=λc q=>g _ _ (h c q)
def Holds.tk(h:Holds C cs)(k:Tk a R t C C')(n:R.r∉cs.map (·.1)):Holds C' cs:=λc q=>k _ _ ((yQ λz=>n (AX.2 ⟨c,q,z⟩)).trans (h c q))
def Holds.fresh(h:Holds C cs)(q:C p=none):p∉cs.map (·.1):=λz=>by
 obtain⟨c,B,rfl⟩:=AX.1 z;rw[h c B] at q;cases q
def Holds.app:Holds C (xs++ys)↔Holds C xs/\Holds C ys:=
 ⟨λh=>⟨λc q=>h c (Ap _ q),λc q=>h c (Ay _ q)⟩,λh c q=>(AY.1 q).elim (h.1 c) (h.2 c)⟩
theorem Holds.ne(h:Holds C cs)(n:p∉cs.map (·.1)):Holds (cQ C p o) cs:=λc q=>(yQ λz=>n (AX.2 ⟨c,q,z⟩)).trans (h c q)
def Dj.app:Dj (xs++ys)↔Dj xs/\Dj ys/\∀p∈xs.map (·.1),p∉ys.map (·.1):=by grind[Dj]
def vE{A O N U:List bS}(h:Holds C (A++(p,o)::(O++U)))(d:Dj (A++(p,o)::(O++U)))(hN:Holds C N)(Z:Dj N)(Y:∀aa∈N.map (·.1),aa∉(A++(p,o)::(O++U)).map (·.1)):Holds (cQ C p o') (A++(p,o')::(O++N++U))/\Dj (A++(p,o')::(O++N++U)):=by
 delta Dj at *
 simp only[List.map_append,List.map_cons,List.nodup_append,List.nodup_cons,List.mem_append,List.mem_cons,List.mem_map] at *
 have L:∀c,c∈A\/c∈O\/c∈N\/c∈U->c.1≠p:=by
  rintro c q rfl
  rcases q with q|q|q|q
  .exact d.2.2 c.1 ⟨c,q,rfl⟩ c.1 (.inl rfl) rfl
  .exact d.2.1.1 (.inl ⟨c,q,rfl⟩)
  .exact Y c.1 ⟨c,q,rfl⟩ (.inr (.inl rfl))
  .exact d.2.1.1 (.inr ⟨c,q,rfl⟩)
 refine⟨λc q=>?_,d.1,⟨?_,⟨d.2.1.2.1,Z,?_⟩,d.2.1.2.2.1,?_⟩,?_⟩
 .simp only[List.mem_append,List.mem_cons] at q
  rcases q with q|rfl | (q|q)|q
  .exact(yQ (L c (.inl q))).trans (h c (by simp[q]))
  .exact zQ
  .exact(yQ (L c (.inr (.inl q)))).trans (h c (by simp[q]))
  .exact(yQ (L c (.inr (.inr (.inl q))))).trans (hN c q)
  .exact(yQ (L c (.inr (.inr (.inr q))))).trans (h c (by simp[q]))
 .rintro ((⟨c,q,e⟩|⟨c,q,e⟩)|⟨c,q,e⟩)
  .exact L c (.inr (.inl q)) e
  .exact L c (.inr (.inr (.inl q))) e
  .exact L c (.inr (.inr (.inr q))) e
 .rintro x ⟨c,q,rfl⟩ y ⟨B,J,rfl⟩ e
  exact Y B.1 ⟨B,J,rfl⟩ (.inr (.inr (.inl ⟨c,q,e⟩)))
 .rintro x (⟨c,q,rfl⟩|⟨c,q,rfl⟩) y ⟨B,J,rfl⟩ e
  .exact d.2.1.2.2.2 c.1 ⟨c,q,rfl⟩ B.1 ⟨B,J,rfl⟩ e
  .exact Y c.1 ⟨c,q,rfl⟩ (.inr (.inr (.inr ⟨B,J,e.symm⟩)))
 .rintro x ⟨c,q,rfl⟩ y (rfl | (⟨B,J,rfl⟩|⟨B,J,rfl⟩)|⟨B,J,rfl⟩) e
  .exact L c (.inl q) e
  .exact d.2.2 c.1 ⟨c,q,rfl⟩ B.1 (.inr (.inl ⟨B,J,rfl⟩)) e
  .exact Y B.1 ⟨B,J,rfl⟩ (.inl ⟨c,q,e⟩)
  .exact d.2.2 c.1 ⟨c,q,rfl⟩ B.1 (.inr (.inr ⟨B,J,rfl⟩)) e
def It.clo{i:It}(h:Holds C i.cells)(o:i.ok):Cl C 2 i.root i.cl:=by
 cases i with
 |lf x=>exact Cl.leaf o
 |sub q xs p ys =>
  have L:=h _ (AH _ AL);refine .inr ⟨q,_,_,rfl,(h _ AL),rfl,by rw[AB];have:=o.2.2.1;show _+1<=_;lia,by rw[AB,AB];rfl,λi x y B J=>?_⟩
  by_cases hi:i<xs.length
  .rw[Cq hi] at B J
   rw[B] at J;cases J;exact Cl.leaf (o.1 x (Ak B))
  .rw[BZ ir] at B J
   have e:i-xs.length=0:=by grind
   rw[e] at B J;cases B;cases J;have:=Dm (d:=0) (f:=id) L (by have:=o.2.2.2;lia) (λx B=>Cl.leaf (o.2.1 x B))
   rwa[List.map_id] at this
def Fd.clo{i:Fd}(h:Holds C i.cells)(o:i.ok):Cl C 3 i.root i.cl:=by
 cases i with
 |lf x=>exact Cl.leaf o
 |ls p its =>
  refine .inr ⟨p,_,_,rfl,(h _ AL),rfl,by rw[AA];have:=o.2;lia,by rw[AA,AA],λi x y q B=>?_⟩;rw[Ag] at q B
  cases e:its[i]? with
  |none=>rw[e] at q;cases q
  |some u =>
   rw[e] at q B;cases q;cases B;have J:=Ak e;exact It.clo (λc L=>h c (AH _ (BW.2 ⟨u,J,L⟩))) (o.1 u J)
def Fr.clo{T:Fr}(h:Holds C T.cells)(o:T.ok):Cl C 4 (.ref T.f) T.cl:=by
 refine .inr ⟨T.f,_,_,rfl,(h _ AL),rfl,by rw[AA];have:=o.2;lia,by rw[AA,AA],λi x y q B=>?_⟩;rw[Ag] at q B
 cases e:T.fds[i]? with
 |none=>rw[e] at q;cases q
 |some u =>
  rw[e] at q B;cases q;cases B;have J:=Ak e;exact Fd.clo (λc L=>h c (AH _ (BW.2 ⟨u,J,L⟩))) (o.1 u J)
section
variable{a:Adr}
def Ext(a:Adr)(C:CH)(S:HS)(C':CH)(q:HS):Prop:=∀b o,C b=some o->b∉(S.cells a).map (·.1)->C' b=some o/\b∉(q.cells a).map (·.1)
theorem Ext.trans(h:Ext a C S C1 q)(h':Ext a C1 q C2 B):Ext a C S C2 B:=λb o e n=>by
 obtain⟨J,L⟩:=h b o e n;exact h' b o J L
def ig.gr(h:ig a C S)(g:Gr C C'):ig a C' S:=⟨h.ho.gr g,h.nd,h.ok,h.fl,h.pl⟩
def ig.tk(h:ig a C S)(k:Tk a R t C C')(n:R.r∉(S.cells a).map (·.1)):ig a C' S:=⟨h.ho.tk k n,h.nd,h.ok,h.fl,h.pl⟩
theorem ig.hr(h:ig a C S):C S.h=some (j5 a S.dx S.pp S.pa S.ahead):=h.ho _ AL
def ig.pp(h:ig a C S):C S.pp=some (.lst S.parts):=h.ho _ (AH _ AL)
def ig.pa(h:ig a C S):C S.pa=some (.lst (S.frs.map λT=>.ref T.f)):=h.ho _ (AH _ (AH _ AL))
theorem ig.fr(h:ig a C S)(q:T∈S.frs):Holds C T.cells:=λc B=>h.ho c (AH _ (AH _ (AH _ (BW.2 ⟨T,q,B⟩))))
def ig.tf(h:ig a C S)(q:T∈S.frs):C T.f=some (.lst (T.fds.map Fd.root)):=h.fr q _ AL
def ig.fd(h:ig a C S)(q:T∈S.frs)(B:Fd.ls p its∈T.fds):C p=some (.lst (its.map It.root)):=h.fr q _ (AH _ (BW.2 ⟨_,B,AL⟩))
theorem ig.it(h:ig a C S)(q:T∈S.frs)(J:Fd.ls p its∈T.fds)(hi:i∈its):Holds C i.cells:=λc B=>h.fr q _ (AH _ (BW.2 ⟨_,J,AH _ (BW.2 ⟨i,hi,B⟩)⟩))
def cN{B N J:List bS}(h:ig a C S)(e:S.cells a=A++(p,o)::(B++J))(L:q.cells a=A++(p,o')::(B++N++J))(hN:Holds C N)(U:Dj N)(O:∀ae∈N.map (·.1),ae∉(S.cells a).map (·.1))(ab:∀T∈q.frs,T.ok)(Y:q.frs.length<=10000)(pl:q.parts.length<=10000):ig a (cQ C p o') q:=by
 have h1:=h.ho;have h2:=h.nd;rw[e] at h1 h2 O;obtain⟨Z,aa⟩:=vE (o':=o') h1 h2 hN U O;exact⟨by rw[L];exact Z,by exact L▸aa,ab,Y,pl⟩
theorem yD{A J N L:List bS}(g:Gr C0 C)(e:S.cells a=A++(p,o)::(J++L))(U:O.cells a=A++(p,o')::(J++N++L))(Y:∀ab∈N.map (·.1),C0 ab=none):Ext a C0 S (cQ C p o') O:=λb u B q=>by
 rw[e] at q;have aa:b≠p:=λz=>q (by grind);refine⟨(yQ aa).trans (g _ _ B),?_⟩;rw[U]
 simp only[List.map_append,List.map_cons,List.mem_append,List.mem_cons,not_or] at q ⊢
 refine⟨q.1,q.2.1,⟨q.2.2.1,λZ=>?_⟩,q.2.2.2⟩;rw[Y b Z] at B;cases B
def dH(g:Gr C0 C)(h:ig a C S)(J:S.frs=fs++[⟨f,d1++.ls p its::d2⟩])(Z:Holds C x.cells)(dx:Dj x.cells)(U:∀q∈x.cells.map (·.1),C0 q=none)(f0:Holds C0 (S.cells a))(ox:x.ok)(l:its.length<10000):
  ig a (cQ C p (.lst (its.map It.root++[x.root]))) { S with frs:=fs++[⟨f,d1++.ls p (its++[x])::d2⟩] }/\Ext a C0 S (cQ C p (.lst (its.map It.root++[x.root]))) { S with frs:=fs++[⟨f,d1++.ls p (its++[x])::d2⟩] }:=by
 have e:S.cells a=((S.h,j5 a S.dx S.pp S.pa S.ahead)::(S.pp,.lst S.parts)::(S.pa,.lst (S.frs.map λT=>.ref T.f))::(fs.flatMap Fr.cells++((f,.lst ((d1++.ls p its::d2).map Fd.root))::d1.flatMap Fd.cells)))++(p,.lst (its.map It.root))::(its.flatMap It.cells++d2.flatMap Fd.cells):=by
  delta HS.cells
  rw[J]
  simp[Fr.cells,Fd.cells]
 have O:({ S with frs:=fs++[⟨f,d1++.ls p (its++[x])::d2⟩] }:HS).cells a=((S.h,j5 a S.dx S.pp S.pa S.ahead)::(S.pp,.lst S.parts)::(S.pa,.lst (S.frs.map λT=>.ref T.f))::(fs.flatMap Fr.cells++((f,.lst ((d1++.ls p its::d2).map Fd.root))::d1.flatMap Fd.cells)))++(p,.lst (its.map It.root++[x.root]))::(its.flatMap It.cells++x.cells++d2.flatMap Fd.cells):=by
  delta HS.cells
  rw[J]
  simp[Fr.cells,Fd.cells,Fd.root]
 refine⟨(cN h e O Z dx (λq Y=>f0.fresh (U q Y)) ?_ (by have:=h.fl;rw[J] at this;simpa using this) h.pl),yD g e O U⟩;intro T L
 rcases AY.1 L with L|L
 .exact h.ok T (J▸Ap _ L)
 .rw[AR.1 L]
  have o:=h.ok ⟨f,d1++.ls p its::d2⟩ (by rw[J];simp);refine⟨λd B=>?_,by have:=o.2;simpa using this⟩
  rcases AY.1 B with B|B
  .exact o.1 d (Ap _ B)
  .rcases Ah.1 B with rfl|B
   .refine⟨λi hi=>?_,by rw[AB];show _+1<=_;lia⟩
    rcases AY.1 hi with hi|hi
    .exact(o.1 (.ls p its) ue).1 i hi
    .rwa[AR.1 hi]
   .exact o.1 d (by simp[B])
def ZQ(g:Gr C0 C)(h:ig a C S)(L:S.frs=fs++[⟨f,d1++Fd.ls B (its++[It.sub q xs p ys])::d2⟩])(oy:Lf y)(l:ys.length<10000):
  ig a (cQ C p (.lst (ys++[y]))) { S with frs:=fs++[⟨f,d1++Fd.ls B (its++[It.sub q xs p (ys++[y])])::d2⟩] }/\Ext a C0 S (cQ C p (.lst (ys++[y]))) { S with frs:=fs++[⟨f,d1++Fd.ls B (its++[It.sub q xs p (ys++[y])])::d2⟩] }:=by
 have e:S.cells a=((S.h,j5 a S.dx S.pp S.pa S.ahead)::(S.pp,.lst S.parts)::(S.pa,.lst (S.frs.map λT=>.ref T.f))::(fs.flatMap Fr.cells++((f,.lst ((d1++Fd.ls B (its++[It.sub q xs p ys])::d2).map Fd.root))::(d1.flatMap Fd.cells++((B,.lst ((its++[It.sub q xs p ys]).map It.root))::(its.flatMap It.cells++[(q,.lst (xs++[.ref p]))]))))))++(p,.lst ys)::([]++d2.flatMap Fd.cells):=by
  delta HS.cells
  rw[L]
  simp[Fr.cells,Fd.cells,It.cells]
 have e':({ S with frs:=fs++[⟨f,d1++Fd.ls B (its++[It.sub q xs p (ys++[y])])::d2⟩] }:HS).cells a=((S.h,j5 a S.dx S.pp S.pa S.ahead)::(S.pp,.lst S.parts)::(S.pa,.lst (S.frs.map λT=>.ref T.f))::(fs.flatMap Fr.cells++((f,.lst ((d1++Fd.ls B (its++[It.sub q xs p ys])::d2).map Fd.root))::(d1.flatMap Fd.cells++((B,.lst ((its++[It.sub q xs p ys]).map It.root))::(its.flatMap It.cells++[(q,.lst (xs++[.ref p]))]))))))++(p,.lst (ys++[y]))::([]++[]++d2.flatMap Fd.cells):=by
  delta HS.cells
  rw[L]
  simp[Fr.cells,Fd.cells,Fd.root,It.cells,It.root]
 refine⟨(cN h e e' (λc hc=>by cases hc) Br (λq Y=>by cases Y) ?_ (by have:=h.fl;rw[L] at this;simpa using this) h.pl),yD g e e' (λq Y=>by cases Y)⟩;intro T O
 rcases AY.1 O with O|O
 .exact h.ok T (L▸Ap _ O)
 .rw[AR.1 O]
  have o:=h.ok ⟨f,d1++Fd.ls B (its++[It.sub q xs p ys])::d2⟩ (by rw[L];simp);refine⟨λd J=>?_,by have:=o.2;simpa using this⟩
  rcases AY.1 J with J|J
  .exact o.1 d (Ap _ J)
  .rcases Ah.1 J with rfl|J
   .have Z:=o.1 (Fd.ls B (its++[It.sub q xs p ys])) ue
    refine⟨λi hi=>?_,by have:=Z.2;simpa using this⟩
    rcases AY.1 hi with hi|hi
    .exact Z.1 i (Ap _ hi)
    .rw[AR.1 hi]
     have os:=Z.1 (.sub q xs p ys) ue;refine⟨os.1,λz U=>?_,os.2.2.1,by rw[AB];show _+1<=_;lia⟩
     rcases AY.1 U with U|U
     .exact os.2.1 z U
     .rwa[AR.1 U]
   .exact o.1 d (by simp[J])
def vp(g:Gr C0 C)(h:ig a C S)(Y:Holds C T.cells)(O:Dj T.cells)(L:∀q∈T.cells.map (·.1),C0 q=none)(f0:Holds C0 (S.cells a))(oT:T.ok)(l:S.frs.length<10000):
  ig a (cQ C S.pa (.lst ((S.frs.map λT=>PV.ref T.f)++[.ref T.f]))) { S with frs:=S.frs++[T] }/\Ext a C0 S (cQ C S.pa (.lst ((S.frs.map λT=>PV.ref T.f)++[.ref T.f]))) { S with frs:=S.frs++[T] }:=by
 have e:S.cells a=[(S.h,j5 a S.dx S.pp S.pa S.ahead),(S.pp,.lst S.parts)]++(S.pa,.lst (S.frs.map λT=>.ref T.f))::(S.frs.flatMap Fr.cells++[]):=by
  delta HS.cells
  simp
 have J:({ S with frs:=S.frs++[T] }:HS).cells a=[(S.h,j5 a S.dx S.pp S.pa S.ahead),(S.pp,.lst S.parts)]++(S.pa,.lst ((S.frs.map λT=>.ref T.f)++[.ref T.f]))::(S.frs.flatMap Fr.cells++T.cells++[]):=by
  delta HS.cells
  simp
 refine⟨(cN h e J Y O (λq Z=>f0.fresh (L q Z)) ?_ (by rw[AB];show _+1<=_;lia) h.pl),yD g e J L⟩;intro U B
 rcases AY.1 B with B|B
 .exact h.ok U B
 .rwa[AR.1 B]
def vq(g:Gr C0 C)(h:ig a C S)(B:S.frs=fs++[⟨f,ds⟩])(hp:C p=some (.lst []))(fp:C0 p=none)(f0:Holds C0 (S.cells a))(l:ds.length<10):
  ig a (cQ C f (.lst (ds.map Fd.root++[.ref p]))) { S with frs:=fs++[⟨f,ds++[.ls p []]⟩] }/\Ext a C0 S (cQ C f (.lst (ds.map Fd.root++[.ref p]))) { S with frs:=fs++[⟨f,ds++[.ls p []]⟩] }:=by
 have e:S.cells a=((S.h,j5 a S.dx S.pp S.pa S.ahead)::(S.pp,.lst S.parts)::(S.pa,.lst (S.frs.map λT=>.ref T.f))::fs.flatMap Fr.cells)++(f,.lst (ds.map Fd.root))::(ds.flatMap Fd.cells++[]):=by
  delta HS.cells
  rw[B]
  simp[Fr.cells]
 have U:({ S with frs:=fs++[⟨f,ds++[.ls p []]⟩] }:HS).cells a=((S.h,j5 a S.dx S.pp S.pa S.ahead)::(S.pp,.lst S.parts)::(S.pa,.lst (S.frs.map λT=>.ref T.f))::fs.flatMap Fr.cells)++(f,.lst (ds.map Fd.root++[.ref p]))::(ds.flatMap Fd.cells++[(p,.lst [])]++[]):=by
  delta HS.cells
  rw[B]
  simp[Fr.cells,Fd.cells,Fd.root]
 have Y:∀q∈[((p,CO.lst []):bS)].map (·.1),C0 q=none:=λq O=>by
  rwa[AR.1 O]
 refine⟨cN h e U (λc Z=>by rwa[AR.1 Z]) (by delta Dj;simp) (λq O=>f0.fresh (Y q O)) ?_ (by have:=h.fl;rw[B] at this;simpa using this) h.pl,yD g e U Y⟩;intro T J
 rcases AY.1 J with J|J
 .exact h.ok T (B▸Ap _ J)
 .rw[AR.1 J]
  refine⟨λd L=>?_,by rw[AB];show _+1<=_;lia⟩
  rcases AY.1 L with L|L
  .exact(h.ok ⟨f,ds⟩ (by rw[B];simp)).1 d L
  .exact(AR.1 L)▸⟨λi hi=>(by cases hi),AF _⟩
def G3(g:Gr C0 C)(h:ig a C S)w:ig a (cQ C S.h (j5 a S.dx S.pp S.pa w)) { S with ahead:=w }/\Ext a C0 S (cQ C S.h (j5 a S.dx S.pp S.pa w)) { S with ahead:=w }:=by
 have e:S.cells a=[]++(S.h,j5 a S.dx S.pp S.pa S.ahead)::([]++((S.pp,.lst S.parts)::(S.pa,.lst (S.frs.map λT=>.ref T.f))::S.frs.flatMap Fr.cells)):=rfl;have J:({ S with ahead:=w }:HS).cells a=[]++(S.h,j5 a S.dx S.pp S.pa w)::([]++[]++((S.pp,.lst S.parts)::(S.pa,.lst (S.frs.map λT=>.ref T.f))::S.frs.flatMap Fr.cells)):=rfl;exact⟨cN h e J (λc L=>by cases L) Br (λq B=>by cases B) h.ok h.fl h.pl,yD g e J (λq B=>by cases B)⟩
def Hb(g:Gr C0 C)(h:ig a C S)(B:S.frs=fs++[T]):ig a (cQ C S.pa (.lst (fs.map λT=>.ref T.f))) { S with frs:=fs }/\Ext a C0 S (cQ C S.pa (.lst (fs.map λT=>.ref T.f))) { S with frs:=fs }/\Holds (cQ C S.pa (.lst (fs.map λT=>.ref T.f))) T.cells:=by
 have e:S.cells a=[(S.h,j5 a S.dx S.pp S.pa S.ahead),(S.pp,.lst S.parts)]++(S.pa,.lst (S.frs.map λT=>.ref T.f))::(fs.flatMap Fr.cells++T.cells):=by
  delta HS.cells
  rw[B]
  simp
 have Y:({ S with frs:=fs }:HS).cells a=[(S.h,j5 a S.dx S.pp S.pa S.ahead),(S.pp,.lst S.parts)]++(S.pa,.lst (fs.map λT=>.ref T.f))::fs.flatMap Fr.cells:=by
  delta HS.cells
  simp
 have h1:=h.ho;have h2:=h.nd;rw[e] at h1 h2;obtain⟨J,L⟩:=vE (o':=.lst (fs.map λT=>.ref T.f)) h1 h2 (N:=[]) (λc hc=>by cases hc) Br (λaf hq=>by cases hq);rw[AM,<- A8,<- AI] at J L;obtain⟨aa,gb⟩:=Holds.app.1 J;refine Yl (Dj.app.1 L) λO ae dd=>⟨⟨by exact aa,by exact O,λU hU=>h.ok U (B▸Ap _ hU),by have:=h.fl;rw[B,AB] at this;lia,h.pl⟩,λb u Z q=>?_,gb⟩
 rw[e] at q;have ab:b≠S.pa:=λz=>q (by rw[z];simp);refine⟨(yQ ab).trans (g _ _ Z),?_⟩;rw[Y]
 simp only[List.map_append,List.map_cons,List.mem_append,List.mem_cons,not_or] at q ⊢
 exact⟨q.1,q.2.1,q.2.2.1⟩
end
theorem Tk.none(k:Tk a R t C C1)(h:C1 q=none):C q=none:=by
 cases e:C q with
 |none=>rfl
 |some o =>
  exfalso
  by_cases B:q=R.r
  .rw[B] at h
   have:=k _ _ zQ;rw[this] at h;cases h
  .have:=k _ _ ((yQ B).trans e)
   rw[this] at h;cases h
inductive qi:Str->List Str->List PV->Nat->Prop
 |when (r:Rk) (hg:Rg r):qi "when" r.dw [.str "when",r.pv] 1
 |each (n:Str) (r:Rk) (hn:qZ n=true) (hg:Rg r):qi "each" (n::r.dw) [.str "each",.str n,r.pv] 1
 |give (n:Str) (r:Rk) (k:Option Rk) (hn:qZ n=true) (hg:Rg r) (hk:j6 k):qi "give" (n::(r.dw++jb k)) [.str "give",nV k,.str n,r.pv] 1
 |draw (n:Str) (k:Option Rk) (hn:qZ n=true) (hk:j6 k):qi "draw" (n::jb k) [.str "part",nV k,.str n] 1
 |plain (n:Str) (k:Option Rk) (hn:qZ n=true) (hk:j6 k):qi "plain" (n::jb k) [.str "plain",nV k,.str n] 3
def tW{ws:List Str}(h:ws.drop t=us)(q:t<=ws.length):t+us.length=ws.length:=by grind
section
variable{W:Wd}{a:Adr}
inductive Te(a:Adr)(ts:List PV)(C:CH)(Q:K1):Prop
 |mk(R:Rd)(t:Nat)(w:Str)(us:List Str)(xs:List PV)(m:Nat)(z0:ts=[.str w,.ref R.r])(z1:jm a C R t)(z2:R.ws.drop t=us)(z2':t<=R.ws.length)(zb:qi w us xs m)(z3:∀f ps C',ps.length=m->(f::ps).Nodup->(∀q∈f::ps,C q=none)->Tk a R R.ws.length C C'->C' f=some (.lst (xs++ps.map PV.ref))->(∀p∈ps,C' p=some (.lst []))->Q (.ref f) C')
def Z9{Q:K1}(k:Tk a R t C C1)(O:t=R.ws.length)(l:xs.length<=10)(q:∀f ps C',ps.length=1->(f::ps).Nodup->(∀q∈f::ps,C q=none)->Tk a R R.ws.length C C'->C' f=some (.lst (xs++ps.map PV.ref))->(∀p∈ps,C' p=some (.lst []))->Q (.ref f) C')p1(h1:C1 p1=none)f(B:cQ C1 p1 (.lst []) f=none):Q (.ref f) (cQ (cQ C1 p1 (.lst [])) f (.lst (xs++[.ref p1]))):=by
 have J:f≠p1:=λz=>by rw[z,zQ] at B;cases B
 have U:C1 f=none:=by rwa[yQ J] at B
 refine q f [p1] _ rfl (by simp[J]) (λq L=>?_) (O▸k.gr ((Gr.new h1 _).trans (Gr.new B _))) zQ (λp Y=>?_)
 .simp only[List.mem_cons,List.not_mem_nil,or_false] at L
  rcases L with rfl|rfl
  .exact k.none U
  .exact k.none h1
 .rw[AR.1 Y]
  exact(yQ J.symm).trans zQ
def Oi(T:Tx W a){k:Nat}:Ok W a (k+6) 24 ["word","row"] (Te a):=by
 have S:=(T.F 24 rfl).s;have hX:=(WA (k:=k+1) T);have jJ:=Ja (k:=k+3) T;have jY:=NT (k:=k) T
 refine(T.F 24 rfl).ok (λts C R h=>?_) λa0 A outer s H E Y=>⟨_,(xQ (nQ (ct2 rX yX (cv 0) wQ) (kQ (uQ (oQ (qQ wQ (qQ (jy T.rQ (T.F 66 rfl) T.bX hX Y (cv 1)) (c7 (oQ cX))))))) pQ)
  (xQ (fj 2 S.nd (jy T.rQ (T.F 63 rfl) T.bX jJ Y (cv 1)))
  (xQ (nQ (ct2 rX yX (cv 0) wQ) (kQ (uQ (oQ (qQ wQ (qQ (cv 2) (qQ (jy T.rQ (T.F 66 rfl) T.bX hX Y (cv 1)) (c7 (oQ cX)))))))) pQ)
  (xQ (nQ (ct2 rX yX (cv 0) wQ) (xQ (fj 3 S.nd (jy T.rQ (T.F 66 rfl) T.bX hX Y (cv 1)))
  (kQ (uQ (oQ (qQ wQ (qQ (jy T.rQ (T.F 65 rfl) T.bX jY Y (cv 1)) (qQ (cv 2) (qQ (cv 3) (c7 (oQ cX)))))))))) pQ)
  (xQ (nQ (ct2 rX yX (cv 0) wQ) (kQ (uQ (oQ (qQ wQ (qQ (jy T.rQ (T.F 65 rfl) T.bX jY Y (cv 1)) (qQ (cv 2) (c7 (oQ cX)))))))) pQ)
  (kQ (uQ (oQ (qQ wQ (qQ (jy T.rQ (T.F 65 rfl) T.bX jY Y (cv 1)) (qQ (cv 2) (qQ (oQ cX) (qQ (oQ cX) (c7 (oQ cX))))))))))))))),?_⟩
 .obtain⟨_,_,_,_,_,_,rfl,_⟩:=h;rfl
 rintro ts C Q ⟨R,t,w,us,xs,m,rfl,h,L,ay,hb,aa⟩;have el:=tW L ay
 cases hb with
 |when r ab =>
  refine(gj ⟨gX h.o rfl,zp.mk R t r [] rfl h (by rw[L,AM]) ab λC1 q=>⟨AF _,λp1 h1=>⟨km,λf B=>?_⟩⟩⟩);exact Z9 q el (by show 2<=10;decide) aa p1 h1 f B
 |each n r U ab =>
  refine(dh (fQ ⟨gX h.o rfl,qg.mk R t n rfl h (iZ L) U λC1 q=>?_⟩));refine(gj ⟨gX (q.at h).o rfl,zp.mk R (t+1) r [] rfl (q.at h) (by rw[AM];exact zJ (us:=[n]) L) ab λC2 k2=>⟨AF _,λp1 h1=>⟨j4,λf B=>?_⟩⟩⟩);exact Z9 (q.trans k2) (by rw[<- el,AD];lia) (by show 3<=10;decide) aa p1 h1 f B
 |give n r J U ab hk =>
  refine(dh (fQ ⟨gX h.o rfl,qg.mk R t n rfl h (iZ L) U λC1 q=>?_⟩));have Z:=zJ (us:=[n]) L;have az:R.ws.drop (t+1+r.dw.length)=jb J++[]:=by rw[AM];exact zJ Z
  refine(dh (fQ ((gj ⟨gX (q.at h).o rfl,zp.mk R (t+1) r (jb J) rfl (q.at h) Z ab λC2 k2=>?_⟩))));have ai:=q.trans k2;refine⟨gX (ai.at h).o rfl,R0.mk R _ J [] rfl (ai.at h) az hk λO k3=>⟨AF _,λp1 h1=>⟨RM,λf B=>?_⟩⟩⟩;exact Z9 (ai.trans k3) (by rw[<- el,AD,AB];lia) (by show 4<=10;decide) aa p1 h1 f B
 |draw n J U hk =>
  refine(dh (fQ ⟨gX h.o rfl,qg.mk R t n rfl h (iZ L) U λC1 q=>?_⟩));have Z:R.ws.drop (t+1)=jb J++[]:=by rw[AM];exact zJ (us:=[n]) L
  refine(dh (fQ ((dh (fQ ((gj ?_)))))));refine⟨gX (q.at h).o rfl,R0.mk R _ J [] rfl (q.at h) Z hk λO k3=>⟨AF _,λp1 h1=>⟨j4,λf B=>?_⟩⟩⟩;exact Z9 (q.trans k3) (by rw[<- el,AD];lia) (by show 3<=10;decide) aa p1 h1 f B
 |plain n J U hk =>
  refine(dh (fQ ⟨gX h.o rfl,qg.mk R t n rfl h (iZ L) U λC1 q=>?_⟩));have Z:R.ws.drop (t+1)=jb J++[]:=by rw[AM];exact zJ (us:=[n]) L
  refine(dh (fQ ((dh (fQ ((dh (fQ ?_))))))));refine⟨gX (q.at h).o rfl,R0.mk R _ J [] rfl (q.at h) Z hk λO k3=>⟨AF _,λp1 h1=>⟨AF _,λp2 h2=>⟨AF _,λp3 h3=>⟨Em,λf B=>?_⟩⟩⟩⟩⟩;have ae:=q.trans k3;have aj:p2≠p1:=λz=>by rw[z,zQ] at h2;cases h2
  have av:O p2=none:=by rwa[yQ aj] at h2
  have ao:p3≠p2:=λz=>by rw[z,zQ] at h3;cases h3
  have af:cQ O p1 (.lst []) p3=none:=by rwa[yQ ao] at h3
  have ak:p3≠p1:=λz=>by rw[z,zQ] at af;cases af
  have aw:O p3=none:=by rwa[yQ ak] at af
  have au:f≠p3:=λz=>by rw[z,zQ] at B;cases B
  have ag:cQ (cQ O p1 (.lst [])) p2 (.lst []) f=none:=by rwa[yQ au] at B
  have ar:f≠p2:=λz=>by rw[z,zQ] at ag;cases ag
  have ah:cQ O p1 (.lst []) f=none:=by rwa[yQ ar] at ag
  have aq:f≠p1:=λz=>by rw[z,zQ] at ah;cases ah
  have ax:O f=none:=by rwa[yQ aq] at ah
  refine aa f [p1,p2,p3] _ rfl ?_ (λaa hq=>?_) ?_ zQ (λp hp=>?_)
  .simp[aq,ar,au,aj.symm,ak.symm,ao.symm]
  .simp only[List.mem_cons,List.not_mem_nil,or_false] at hq
   rcases hq with rfl|rfl|rfl|rfl
   .exact ae.none ax
   .exact ae.none h1
   .exact ae.none av
   .exact ae.none aw
  .have:=ae.gr (((Gr.new h1 (.lst [])).trans (Gr.new h2 (.lst []))).trans ((Gr.new h3 (.lst [])).trans (Gr.new B (.lst [.str "plain",nV J,.str n,.ref p1,.ref p2,.ref p3]))))
   rw[show t+1+(jb J).length=R.ws.length from by rw[<- el,AD];lia] at this;exact this
  .simp only[List.mem_cons,List.not_mem_nil,or_false] at hp
   rcases hp with rfl|rfl|rfl
   .exact(yQ aq.symm).trans ((yQ ak.symm).trans ((yQ aj.symm).trans zQ))
   .exact(yQ ar.symm).trans ((yQ ao.symm).trans zQ)
   .exact(yQ au.symm).trans zQ
end
def rK{x:PV}:atI (xs++[x]) (-1)=some x:=by
 have:ixN (xs++[x]).length (-1)=some xs.length:=by
  delta ixN
  rw[A7 Th,A4 (by rw[AB];show -((xs.length+1:Nat):Int)<=_;lia),AB];show some ((-1+((xs.length+1:Nat):Int)).toNat)=_
  congr 1
  lia
 delta atI
 rw[this];show(xs++[x])[xs.length]?=some x;rw[BZ (AQ _),Nat.sub_self]
 rfl
theorem ZW:∀r:Rk,Lf r.pv
 |.num _=>trivial
 |.turn _=>trivial
 |.ask _ _=>trivial
 |.bin _ _ _=>trivial
 |.pick _ _ _=>trivial
theorem WS:∀k,Lf (nV k)
 |none=>trivial
 |some r=>ZW r
def qi.lf(h:qi w us xs m):(∀x∈xs,Lf x)/\xs.length<=4/\m<=3:=by
 cases h with
 |when r J=>exact⟨λx q=>by simp only[List.mem_cons,List.not_mem_nil,or_false] at q;rcases q with rfl|rfl;trivial;exact ZW r,by show 2<=4;decide,Th⟩
 |each n r B J=>exact⟨λx q=>by simp only[List.mem_cons,List.not_mem_nil,or_false] at q;rcases q with rfl|rfl|rfl;trivial;trivial;exact ZW r,by show 3<=4;decide,Th⟩
 |give n r k B J L=>exact⟨λx q=>by simp only[List.mem_cons,List.not_mem_nil,or_false] at q;rcases q with rfl|rfl|rfl|rfl;trivial;exact WS k;trivial;exact ZW r,by show 4<=4;decide,Th⟩
 |draw n k B L=>exact⟨λx q=>by simp only[List.mem_cons,List.not_mem_nil,or_false] at q;rcases q with rfl|rfl|rfl;trivial;exact WS k;trivial,by show 3<=4;decide,Th⟩
 |plain n k B L=>exact⟨λx q=>by simp only[List.mem_cons,List.not_mem_nil,or_false] at q;rcases q with rfl|rfl|rfl;trivial;exact WS k;trivial,by show 3<=4;decide,Th⟩
section
variable{W:Wd}{a:Adr}
structure RO(a:Adr)(C:CH)(S:HS)(R:Rd)(t:Nat):Prop where
 rr:jm a C R t
 nr:R.r∉(S.cells a).map (·.1)
 nw:R.wl∉(S.cells a).map (·.1)
structure jo(a:Adr)(R:Rd)(t:Nat)(C:CH)(S:HS)(C':CH)(S':HS):Prop where
 st:ig a C' S'
 ro:RO a C' S' R t
 ex:∀b o,C b=some o->b∉(S.cells a).map (·.1)->b≠R.r->C' b=some o/\b∉(S'.cells a).map (·.1)
def jo.tk(h:ig a C S)(r:RO a C S R t)(k:Tk a R t' C C'):jo a R t' C S C' S:=
 ⟨h.tk k r.nr,⟨k.at r.rr,r.nr,r.nw⟩,λb o e n q=>⟨k _ _ ((yQ q).trans e),n⟩⟩
def jo.ext(e:jo a R t C S C1 B)(h2:ig a C2 q)(x:Ext a C1 B C2 q):jo a R t C S C2 q:=by
 obtain⟨o1,O⟩:=x _ _ e.ro.rr.o e.ro.nr;obtain⟨o2,Y⟩:=x _ _ e.ro.rr.w e.ro.nw;refine⟨h2,⟨⟨o1,o2,e.ro.rr.n⟩,O,Y⟩,λb o L Z nr=>?_⟩;obtain⟨J,U⟩:=e.ex b o L Z nr;exact x _ _ J U
theorem jo.trans(e:jo a R t C S C1 J)(q:jo a R t' C1 J C2 L):jo a R t' C S C2 L:=by
 refine⟨q.st,q.ro,λb o U Z B=>?_⟩;obtain⟨O,Y⟩:=e.ex b o U Z B;exact q.ex b o O Y B
def jo.of(r:RO a C S R t)(x:Ext a (cQ C R.r (vf a R.dx R.wl R.l t')) S C2 q)(h2:ig a C2 q):jo a R t' C S C2 q:=by
 obtain⟨Y,J⟩:=x _ _ zQ r.nr;obtain⟨Z,L⟩:=x _ _ ((yQ r.rr.ne).trans r.rr.w) r.nw;exact⟨h2,⟨⟨Y,Z,r.rr.n⟩,J,L⟩,λb o B O U=>x _ _ ((yQ U).trans B) O⟩
def RO.fresh(r:RO a C S R t)(h:C q=none):cQ C R.r o q=none:=by grind[yQ,r.rr.o]
noncomputable def t7(f:Addr)(xs:List PV)(ps:List Addr):Fr:=⟨f,xs.map Fd.lf++ps.map λp=>.ls p []⟩
def Yg f xs ps:(t7 f xs ps).fds.map Fd.root=xs++ps.map PV.ref:=by
 delta t7
 rw[AG,Aj,Aj]
 congr 1
 exact(List.map_congr_left λx _=>rfl).trans (List.map_id xs)
def pL f xs ps:(t7 f xs ps).cells=(f,.lst (xs++ps.map PV.ref))::ps.map λp=>(p,.lst []):=by
 delta Fr.cells
 rw[Yg]
 congr 1
 delta t7
 rw[BC]
 have h1:(xs.map Fd.lf).flatMap Fd.cells=[]:=by
  induction xs with
  |nil=>rfl
  |cons x xs q=>exact q
 have h2:(ps.map λp=>Fd.ls p []).flatMap Fd.cells=ps.map λp=>((p,.lst []):bS):=by
  induction ps with
  |nil=>rfl
  |cons p ps q =>
   show(p,CO.lst [])::([]++(ps.map λp=>Fd.ls p []).flatMap Fd.cells)=(p,CO.lst [])::ps.map _;rw[BH,q]
 rw[h1,h2,BH]
def Yh(h:∀x∈xs,Lf x)(l:xs.length+ps.length<=10):(t7 f xs ps).ok:=by
 refine⟨λd q=>?_,by show(xs.map Fd.lf++ps.map _).length<=10;rwa[AB,AA,AA]⟩
 rcases AY.1 q with q|q
 .obtain⟨x,B,rfl⟩:=AX.1 q
  exact h x B
 .obtain⟨x,B,rfl⟩:=AX.1 q
  exact⟨λi hi=>(by cases hi),AF _⟩
inductive PB(a:Adr)(ts:List PV)(C:CH)(Q:K1):Prop
 |nd (S:HS) (R:Rd) (t:Nat) (w:Str) (us:List Str) (xs:List PV) (m:Nat) (z0:ts=[.ref S.h,.str w,.ref R.r]) (z1:ig a C S) (z2:RO a C S R t) (z3:R.ws.drop t=us) (z3':t<=R.ws.length) (zb:qi w us xs m) (zw:w ≠ "draw") (zl:S.frs.length<10000) (z4:∀f ps C',ps.length=m->jo a R R.ws.length C S C' { S with frs:=S.frs++[t7 f xs ps] }->Q .non C'):PB a ts C Q
 |dr (S:HS) (R:Rd) (t:Nat) (us:List Str) (xs:List PV) (m:Nat) (fs:List Fr) (f p:Addr) (d1:List Fd) (its:List It) (z0:ts=[.ref S.h,.str "draw",.ref R.r]) (z1:ig a C S) (z2:RO a C S R t) (z3:R.ws.drop t=us) (z3':t<=R.ws.length) (zb:qi "draw" us xs m) (zf:S.frs=fs++[⟨f,d1++[.ls p its]⟩]) (zl:its.length<10000) (z4:∀q pl C',jo a R R.ws.length C S C' { S with frs:=fs++[⟨f,d1++[.ls p (its++[.sub q xs pl []])]⟩] }->Q .non C'):PB a ts C Q
def Om(T:Tx W a):Ok W a (k+7) 73 ["self","word","row"] (PB a):=by
 have S:=(T.F 73 rfl).s;have Qi:=Oi (k:=k) T
 refine(T.F 73 rfl).ok (λts C R h=>?_) λav A outer s H E au=>⟨_,(xQ (fj 3 S.nd (cf (T.F 24 rfl) Qi au (qQ (cv 1) (c7 (cv 2)))))
  (kQ (nQ (ct2 rX yX (cv 1) wQ) (kQ (kZ (cap (cx (cx (kJ T.tQ T.qX (cv 0)) (eW tK sJ jQ)) (eW tK sJ jQ)) (cv 3)))) (kQ (kZ (cap (kJ T.tQ T.qX (cv 0)) (cv 3))))))),?_⟩
 .rcases h with ⟨_,_,_,_,_,_,_,rfl,_⟩|⟨_,_,_,_,_,_,_,_,_,_,_,rfl,_⟩<;>rfl
 rintro ts C Q h
 rcases h with ⟨S,R,t,w,us,xs,m,rfl,h,B,ai,ah,U,ar,Z,q⟩|⟨S,R,t,us,xs,m,fs,f,p,d1,its,rfl,h,B,ai,ah,U,ag,Z,q⟩
 .refine Te.mk R t w us xs m rfl B.rr ai ah U λf ps C1 ab nd af O mf ao=>?_
  have J:=jo.tk h B O;refine mQ (vQ _ _) (bQ (by simpa using ar) ?_)
  have L:Holds C1 (t7 f xs ps).cells:=by
   rw[pL];intro c L
   rcases Ah.1 L with rfl|L
   .exact mf
   .grind
  have ak:(t7 f xs ps).cells.map (·.1)=f::ps:=by
   rw[pL,A5,Aj]
   congr 1
   exact(List.map_congr_left λx _=>rfl).trans (List.map_id ps)
  have ae:=U.lf;have Y:=vp O (h.tk O B.nr) L (by delta Dj;rwa[ak]) (λq hq=>B.fresh (af q (by rwa[ak] at hq))) (h.ho.ne B.nr) (Yh ae.1 ir) Z;have aa:=J.st.pa;refine yJ J.st.hr rfl ⟨lZ aa,bK aa (by rw[AA];exact AE Z Th) ?_⟩;exact q f ps _ ab (jo.of B Y.2 Y.1)
 .refine Te.mk R t "draw" us xs m rfl B.rr ai ah U λq0 ps C1 ab nd af O mf ao=>?_
  have J:=jo.tk h B O;have ae:=U.lf;have m1:m=1:=by cases U;rfl
  subst m1
  obtain⟨pl,rfl⟩:∃pl,ps=[pl]:=by
   cases ps with
   |nil=>cases ab
   |cons p ps =>
    cases ps with
    |nil=>exact⟨p,rfl⟩
    |cons _ _=>cases ab
  refine(gj ?_);have hT:(⟨f,d1++[.ls p its]⟩:Fr)∈S.frs:=by rw[ag];simp
  have Y:=dH (x:=.sub q0 xs pl []) O (h.tk O B.nr) ag (λc L=>by
   simp only[It.cells,List.mem_cons,List.not_mem_nil,or_false] at L
   rcases L with rfl|rfl
   .exact mf
   .exact ao pl ue) nd (λq hq=>B.fresh (af q hq)) (h.ho.ne B.nr) ⟨ae.1,(λy hy=>by cases hy),by have:=ae.2.1;lia,AF _⟩ Z
  have aa:=J.st.pa;have aq:=J.st.tf hT;have aj:=J.st.fd hT (p:=p) (its:=its) ue;rw[ag,AG] at aa;rw[AG] at aq;refine yJ J.st.hr rfl (tZ aa rK (tZ aq rK ⟨lZ aj,bK aj (by rw[AA];exact AE Z Th) ?_⟩));exact q q0 pl _ (jo.of B Y.2 Y.1)
end
def cF{x:PV}(h:xs.length=k):atI (xs++x::ys) (k:Nat)=some x:=by
 apply iK
 rw[BZ ir,h,Nat.sub_self]
 rfl
section
variable{W:Wd}{a:Adr}
inductive Uz(a:Adr)(ts:List PV)(C:CH)(Q:K1):Prop
 |mk(S:HS)(fs:List Fr)(f p:Addr)(d1:List Fd)(its:List It)(T:Fr)(z0:ts=[.ref S.h])(z1:ig a C S)(zf:S.frs=(fs++[⟨f,d1++[.ls p its]⟩])++[T])(zl:its.length<10000)(z4:∀C',ig a C' { S with frs:=fs++[⟨f,d1++[.ls p (its++[.lf T.cl])]⟩] }->Ext a C S C' { S with frs:=fs++[⟨f,d1++[.ls p (its++[.lf T.cl])]⟩] }->Q .non C')
def Oe(T:Tx W a):Ok W a 7 74 ["self"] (Uz a):=by
 have S:=(T.F 74 rfl).s
 refine(T.F 74 rfl).ok (λts C R h=>?_) λag A outer s H E af=>⟨_,(xQ (fj 1 S.nd (cf (T.F 25 rfl) (Jd T 4) af (c7 (dM Ae BE BD kM sG (kJ T.tQ T.qX (cv 0))))))
  (kQ (kZ (cap (cx (cx (kJ T.tQ T.qX (cv 0)) (eW tK sJ jQ)) (eW tK sJ jQ)) (cv 1))))),?_⟩
 .obtain⟨_,_,_,_,_,_,_,rfl,_⟩:=h;rfl
 rintro ts C Q ⟨S,fs,f,p,d1,its,T,rfl,h,B,Z,ab⟩;have J:=h.pa;rw[B,AG] at J;refine Yl (Hb Gr.refl h B) λs1 x1 hT=>yJ h.hr rfl ⟨lZ J,uP J (y:=.ref T.f) ue ?_⟩;rw[show List.map (λT:Fr=>PV.ref T.f) [T]=[PV.ref T.f] from rfl,BL];refine Ga.mk (.ref T.f) T.cl rfl (Fr.clo hT (h.ok T (by rw[B];simp))) λC2 U=>?_;have q:=s1.gr U;have L:=dH (x:=.lf T.cl) U q rfl (λc hc=>by cases hc) Br (λab hq=>by cases hq) s1.ho trivial Z
 have Y:(⟨f,d1++[.ls p its]⟩:Fr)∈fs++[⟨f,d1++[.ls p its]⟩]:=by simp
 have aa:=q.pa;have ae:=q.tf Y;have O:=q.fd Y (p:=p) (its:=its) ue;rw[show({ S with frs:=fs++[⟨f,d1++[.ls p its]⟩] }:HS).frs.map (λT:Fr=>PV.ref T.f)=fs.map (λT:Fr=>PV.ref T.f)++[.ref f] from by simp] at aa;rw[AG] at ae;refine yJ q.hr rfl (tZ aa rK (tZ ae rK ⟨lZ O,bK O (by rw[AA];exact AE Z Th) ?_⟩));exact ab _ L.1 (x1.trans L.2)
inductive Sg(R:Rd)(t:Nat):Str->Nat->PV->Prop
 |box (n:Str) (i:Int) (hw:R.ws.drop t=[n,iz i]) (hn:qZ n=true) (hb:Bd i):Sg R t "box" 1 (.tup [.str n,.int i])
 |work (n:Str) (r:Rk) (hw:R.ws.drop t=n::r.dw) (hn:qZ n=true) (hg:Rg r):Sg R t "work" 2 (.tup [.str n,r.pv])
 |set (n:Str) (r:Rk) (hw:R.ws.drop t=n::r.dw) (hn:qZ n=true) (hg:Rg r):Sg R t "set" 3 (.tup [.str n,r.pv])
inductive zq(a:Adr)(ts:List PV)(C:CH)(Q:K1):Prop
 |lf (S:HS) (R:Rd) (t:Nat) (w:Str) (k:Nat) (y:PV) (fs:List Fr) (f p:Addr) (d1 d2:List Fd) (its:List It) (z0:ts=[.ref S.h,.str w,.ref R.r]) (z1:ig a C S) (z2:RO a C S R t) (zt:t<=R.ws.length) (zs:Sg R t w k y) (zf:S.frs=fs++[⟨f,d1++.ls p its::d2⟩]) (zk:d1.length=k) (zl:its.length<10000) (z4:∀C',jo a R R.ws.length C S C' { S with frs:=fs++[⟨f,d1++.ls p (its++[.lf y])::d2⟩] }->Q .non C'):zq a ts C Q
 |wi (S:HS) (R:Rd) (t:Nat) (n:Str) (r:Rk) (fs:List Fr) (f pl q p:Addr) (d1:List Fd) (its:List It) (xs ys:List PV) (z0:ts=[.ref S.h,.str "with",.ref R.r]) (z1:ig a C S) (z2:RO a C S R t) (zt:t<=R.ws.length) (zw:R.ws.drop t=n::r.dw) (zn:qZ n=true) (zg:Rg r) (zf:S.frs=fs++[⟨f,d1++[.ls pl (its++[.sub q xs p ys])]⟩]) (zx:xs.length=3) (zl:ys.length<10000) (z4:∀C',jo a R R.ws.length C S C' { S with frs:=fs++[⟨f,d1++[.ls pl (its++[.sub q xs p (ys++[.tup [.str n,r.pv]])])]⟩] }->Q .non C'):zq a ts C Q
 |hd (S:HS) (R:Rd) (t:Nat) (n:Str) (i:Int) (b:Bool) (fs:List Fr) (f p:Addr) (d1 d2:List Fd) (its:List It) (z0:ts=[.ref S.h,.str "hand",.ref R.r]) (z1:ig a C S) (z2:RO a C S R t) (zt:t<=R.ws.length) (zw:R.ws.drop t=[n,iz i,uM b]) (zn:qZ n=true) (zi:i=1\/i=2\/i=3) (zf:S.frs=fs++[⟨f,d1++.ls p its::d2⟩]) (zk:d1.length=4) (zl:its.length<10000) (z4:∀q pl C',jo a R R.ws.length C S C' { S with frs:=fs++[⟨f,d1++.ls p (its++[.sub q [.str n,.int i,.bl b] pl []])::d2⟩] }->Q .non C'):zq a ts C Q
 |ch (S:HS) (R:Rd) (t:Nat) (n c:Str) (r:Rk) (fs:List Fr) (f pl q p:Addr) (d1 d2:List Fd) (its:List It) (xs ys:List PV) (z0:ts=[.ref S.h,.str "change",.ref R.r]) (z1:ig a C S) (z2:RO a C S R t) (zt:t<=R.ws.length) (zw:R.ws.drop t=n::c::r.dw) (zn:qZ n=true) (zc:c∈(["set","add","times"]:List Str)) (zg:Rg r) (zf:S.frs=fs++[⟨f,d1++.ls pl (its++[.sub q xs p ys])::d2⟩]) (zk:d1.length=4) (zx:xs.length=3) (zl:ys.length<10000) (z4:∀C',jo a R R.ws.length C S C' { S with frs:=fs++[⟨f,d1++.ls pl (its++[.sub q xs p (ys++[.tup [.str n,.str c,r.pv]])])::d2⟩] }->Q .non C'):zq a ts C Q
def Oc(T:Tx W a){k:Nat}:Ok W a (k+5) 75 ["self","word","row"] (zq a):=by
 have S:=(T.F 75 rfl).s;have jJ:=Ja (k:=k+2) T;have lF:=Nu (k:=k+1) T;have hX:=WA (k:=k) T;have lV:=Nz (k:=k+2) T
 refine(T.F 75 rfl).ok (λts C R h=>?_) λbj A outer s H E ah=>⟨_,(xQ (fj 3 S.nd (jy T.rQ (T.F 63 rfl) T.bX jJ ah (cv 2)))
  (xQ (fj 4 S.nd (cx (kJ T.tQ T.qX (cv 0)) (eW tK sJ jQ)))
  (kQ (nQ (ct2 rX yX (cv 1) wQ) (kQ (kZ (cap (cx (cv 4) jQ) (dQ (qQ (cv 3) (c7 (jy T.rQ (T.F 64 rfl) T.bX lF ah (cv 2)))))))) (kQ (nQ (ct2 rX yX (cv 1) wQ) (kQ (kZ (cap (cx (cv 4) jQ) (dQ (qQ (cv 3) (c7 (jy T.rQ (T.F 66 rfl) T.bX hX ah (cv 2)))))))) (kQ (nQ (ct2 rX yX (cv 1) wQ) (kQ (kZ (cap (cx (cv 4) jQ) (dQ (qQ (cv 3) (c7 (jy T.rQ (T.F 66 rfl) T.bX hX ah (cv 2)))))))) (kQ (nQ (ct2 rX yX (cv 1) wQ) (kQ (kZ (cap (cx (cx (cx (cv 4) (eW tK sJ jQ)) (eW tK sJ jQ)) jQ) (dQ (qQ (cv 3) (c7 (jy T.rQ (T.F 66 rfl) T.bX hX ah (cv 2)))))))) (kQ (nQ (ct2 rX yX (cv 1) wQ) (xQ (fj 5 S.nd (mK uE Xt rfl T.bT rfl (c7 (cm T.rQ (T.F 62 rfl) T.bX lV ah (cv 2) (c7 (wZ (v:=.ref a.RANKS) (t:=.kt [.str "1",.str "2",.str "3"]) rfl T.gRANKS rfl (λH=>.kt (T.qRANKS H) (.cons (.str _) (.cons (.str _) (.cons (.str _) .nil))))))))))
  (kQ (kZ (cap (cx (cv 4) jQ) (oQ (qQ (cv 3) (qQ (cv 5) (qQ (qJ rX yX (cm T.rQ (T.F 62 rfl) T.bX lV ah (cv 2) (c7 (dQ (qQ wQ (c7 wQ))))) wQ (lJ _)) (c7 (oQ cX)))))))))) (xQ (fj 6 S.nd (cm T.rQ (T.F 62 rfl) T.bX lV ah (cv 2) (c7 (wZ (v:=.ref a.CHANGING) (t:=.kt [.str "set",.str "add",.str "times"]) rfl T.jE rfl (λH=>.kt (T.fO H) (.cons (.str _) (.cons (.str _) (.cons (.str _) .nil))))))))
  (kQ (kZ (cap (cx (cx (cx (cv 4) jQ) (eW tK sJ jQ)) jQ) (dQ (qQ (cv 3) (qQ (cv 6) (c7 (jy T.rQ (T.F 66 rfl) T.bX hX ah (cv 2)))))))))))))))))))))),?_⟩
 .cases h<;>simp_all
 rintro ts C Q h
 cases h with
 |lf S R t w k y fs f p d1 d2 its z0 h B ai hs ae hk hl q =>
  subst z0;have hT:(⟨f,d1++.ls p its::d2⟩:Fr)∈S.frs:=by rw[ae];simp
  have aw:∀C2,Tk a R R.ws.length C C2->Lf y->Q .non (cQ C2 p (.lst (its.map It.root++[y]))):=λC2 Z hy=>by
   have ax:=dH (C0:=cQ C R.r (vf a R.dx R.wl R.l R.ws.length)) (x:=.lf y) Z (h.tk Z B.nr) ae (λc hc=>by cases hc) Br (λq hq=>by cases hq) (h.ho.ne B.nr) hy hl;exact q _ (jo.of B ax.2 ax.1)
  have aa:∀{C1:CH}{ao:Nat},Tk a R ao C C1->C1 S.pa=some (.lst (fs.map (λT:Fr=>PV.ref T.f)++[.ref f]))/\C1 f=some (.lst (d1.map Fd.root++.ref p::d2.map Fd.root))/\C1 p=some (.lst (its.map It.root))/\C1 S.h=some (j5 a S.dx S.pp S.pa S.ahead):=λJ=>by
   have h1:=h.tk J B.nr;have O:=h1.pa;rw[ae,AG] at O;have U:=h1.tf hT;rw[AG] at U;exact⟨O,U,h1.fd hT ue,h1.hr⟩
  have ll:(its.map It.root).length<sizeLine:=by rw[AA];exact AE hl Th
  cases hs with
  |box n i L hn hb =>
   refine⟨gX B.rr.o rfl,qg.mk R t n rfl B.rr (iZ L) hn λC1 J=>?_⟩;obtain⟨O,U,ab,ag⟩:=aa J;refine yJ ag rfl (tZ O rK ((gj (tZ U (cF (by rw[AA,hk])) ⟨lZ ab,⟨gX (J.at B.rr).o rfl,Ui.mk R (t+1) i rfl (J.at B.rr) (iZ (zJ (us:=[n]) L)) hb λC2 Z=>⟨jf,bK (aa (J.trans Z)).2.2.1 ll (aw C2 (by rw[<- tW L ai];exact J.trans Z) trivial)⟩⟩⟩))))
  |work n r L hn ak =>
   refine⟨gX B.rr.o rfl,qg.mk R t n rfl B.rr (iZ L) hn λC1 J=>?_⟩;obtain⟨O,U,ab,ag⟩:=aa J;refine yJ ag rfl (tZ O rK ?_);refine(dh ?_);refine(gj (tZ U (cF (by rw[AA,hk])) ⟨lZ ab,⟨gX (J.at B.rr).o rfl,zp.mk R (t+1) r [] rfl (J.at B.rr) (by rw[AM];exact zJ (us:=[n]) L) ak λC2 Z=>⟨jf,bK (aa (J.trans Z)).2.2.1 ll (aw C2 (by rw[<- tW L ai,AD,Nat.add_comm r.dw.length 1,<- Ct];exact J.trans Z) trivial)⟩⟩⟩))
  |set n r L hn ak =>
   refine⟨gX B.rr.o rfl,qg.mk R t n rfl B.rr (iZ L) hn λC1 J=>?_⟩;obtain⟨O,U,ab,ag⟩:=aa J;refine yJ ag rfl (tZ O rK ?_);refine(dh ?_);refine(dh ?_);refine(gj (tZ U (cF (by rw[AA,hk])) ⟨lZ ab,⟨gX (J.at B.rr).o rfl,zp.mk R (t+1) r [] rfl (J.at B.rr) (by rw[AM];exact zJ (us:=[n]) L) ak λC2 Z=>⟨jf,bK (aa (J.trans Z)).2.2.1 ll (aw C2 (by rw[<- tW L ai,AD,Nat.add_comm r.dw.length 1,<- Ct];exact J.trans Z) trivial)⟩⟩⟩))
 |wi S R t n r fs f Y q p d1 its xs ys z0 h B ai L hn ak ae hx hl qq =>
  subst z0;have hT:(⟨f,d1++[.ls Y (its++[It.sub q xs p ys])]⟩:Fr)∈S.frs:=by rw[ae];simp
  have aa:∀{C1:CH}{ao:Nat},Tk a R ao C C1->C1 S.pa=some (.lst (fs.map (λT:Fr=>PV.ref T.f)++[.ref f]))/\C1 f=some (.lst (d1.map Fd.root++[.ref Y]))/\C1 Y=some (.lst (its.map It.root++[.ref q]))/\C1 q=some (.lst (xs++[.ref p]))/\C1 p=some (.lst ys)/\C1 S.h=some (j5 a S.dx S.pp S.pa S.ahead):=λJ=>by
   have h1:=h.tk J B.nr;have O:=h1.pa;rw[ae,AG] at O;have U:=h1.tf hT;rw[AG] at U;have ab:=h1.fd hT (p:=Y) (its:=its++[It.sub q xs p ys]) ue;have ar:=h1.it hT (p:=Y) (its:=its++[It.sub q xs p ys]) ue (i:=.sub q xs p ys) ue;rw[AG] at ab;exact⟨O,U,ab,ar (q,.lst (xs++[.ref p])) (by simp[It.cells]),ar (p,.lst ys) (by simp[It.cells]),h1.hr⟩
  refine⟨gX B.rr.o rfl,qg.mk R t n rfl B.rr (iZ L) hn λC1 J=>?_⟩;obtain⟨O,U,ab,a6,a5,ag⟩:=aa J;refine yJ ag rfl (tZ O rK ?_);refine(dh ?_);refine(dh ?_);refine(dh ?_);refine(gj (tZ U rK (tZ ab rK (tZ a6 (cF (k:=3) hx) ⟨lZ a5,⟨gX (J.at B.rr).o rfl,zp.mk R (t+1) r [] rfl (J.at B.rr) (by rw[AM];exact zJ (us:=[n]) L) ak λC2 Z=>⟨jf,?_⟩⟩⟩))))
  have af:Tk a R R.ws.length C C2:=by rw[<- tW L ai,AD,Nat.add_comm r.dw.length 1,<- Ct];exact J.trans Z
  have ax:=ZQ (C0:=cQ C R.r (vf a R.dx R.wl R.l R.ws.length)) (y:=.tup [.str n,r.pv]) (d2:=[]) af (h.tk af B.nr) ae trivial hl;exact bK (aa af).2.2.2.2.1 (AE hl Th) (qq _ (jo.of B ax.2 ax.1))
 |hd S R t n i b fs f p d1 d2 its z0 h B ai L hn hi ae hk hl qq =>
  subst z0;have hT:(⟨f,d1++.ls p its::d2⟩:Fr)∈S.frs:=by rw[ae];simp
  have aa:∀{C1:CH}{ao:Nat},Tk a R ao C C1->C1 S.pa=some (.lst (fs.map (λT:Fr=>PV.ref T.f)++[.ref f]))/\C1 f=some (.lst (d1.map Fd.root++.ref p::d2.map Fd.root))/\C1 p=some (.lst (its.map It.root))/\C1 S.h=some (j5 a S.dx S.pp S.pa S.ahead):=λJ=>by
   have h1:=h.tk J B.nr;have O:=h1.pa;rw[ae,AG] at O;have U:=h1.tf hT;rw[AG] at U;exact⟨O,U,h1.fd hT ue,h1.hr⟩
  have aq:R.ws.drop (t+1)=[iz i,uM b]:=zJ (us:=[n]) L;have bc:R.ws.drop (t+1+1)=[uM b]:=zJ (us:=[iz i]) aq;have el:=tW L ai;have a9:iz i∈(["1","2","3"]:List Str):=by rcases hi with rfl|rfl|rfl<;>decide +kernel
  have a0:(iz i).length<=640/\PySem.intText? (iz i)=some i:=by
   have:=kD (i:=i) ir ir;exact⟨AK this.1 Th,this.2⟩
  have a8:uM b∈(["last","on"]:List Str):=by cases b<;>decide +kernel
  have a7:sEq (.str (uM b)) (.str "last")=some b:=by cases b<;>rfl
  refine⟨gX B.rr.o rfl,qg.mk R t n rfl B.rr (iZ L) hn λC1 J=>?_⟩;obtain⟨O,U,ab,ag⟩:=aa J;refine yJ ag rfl (tZ O rK ?_);refine(dh ?_);refine(dh ?_);refine(dh ?_);refine(dh ?_);refine(gj ⟨gX (J.at B.rr).o rfl,RZ.mk R (t+1) (iz i) _ ["1","2","3"] rfl (J.at B.rr) (iZ aq) (λC=>rfl) a9 λC2 Z=>⟨iz i,i,rfl,a0.1,a0.2,?_⟩⟩)
  have af:=J.trans Z;obtain⟨bh,az,av,bb⟩:=aa af;refine tZ az (cF (k:=4) (by rw[AA,hk])) ⟨lZ av,⟨gX (af.at B.rr).o rfl,jf,RZ.mk R (t+1+1) (uM b) _ ["last","on"] rfl (af.at B.rr) (iZ bc) (λC=>rfl) a8 λC3 k3=>mQ a7 ⟨AF _,λY a3=>⟨j4,λq0 au=>?_⟩⟩⟩⟩;have nq:q0≠Y:=λz=>by rw[z,zQ] at au;cases au
  have ba:C3 q0=none:=by rwa[yQ nq] at au
  have aj:Tk a R R.ws.length C C3:=by
   rw[show R.ws.length=t+1+1+1 from by rw[<- el];rfl];exact af.trans k3
  have ay:Gr C3 (cQ (cQ C3 Y (.lst [])) q0 (.lst ([.str n,.int i,.bl b]++[.ref Y]))):=(Gr.new a3 _).trans (Gr.new au _)
  have ax:=dH (C0:=cQ C R.r (vf a R.dx R.wl R.l R.ws.length)) (x:=.sub q0 [.str n,.int i,.bl b] Y []) (Gr.trans aj ay) ((h.tk aj B.nr).gr ay) ae (λc hc=>by
   simp only[It.cells,List.mem_cons,List.not_mem_nil,or_false] at hc
   rcases hc with rfl|rfl
   .exact zQ
   .exact(yQ nq.symm).trans zQ) (by show[q0,Y].Nodup;simp[nq]) (λq hq=>B.fresh (by
    have a4:q∈[q0,Y]:=hq
    simp only[List.mem_cons,List.not_mem_nil,or_false] at a4
    rcases a4 with rfl|rfl
    .exact aj.none ba
    .exact aj.none a3)) (h.ho.ne B.nr) ⟨λx hx=>by simp only[List.mem_cons,List.not_mem_nil,or_false] at hx;rcases hx with rfl|rfl|rfl<;>trivial,(λy hy=>by cases hy),by show 3<=10000;decide,AF _⟩ hl
  exact bK (ay _ _ (aa aj).2.2.1) (by rw[AA];exact AE hl Th) (qq q0 Y _ (jo.of B ax.2 ax.1))
 |ch S R t n c r fs f Y q p d1 d2 its xs ys z0 h B ai L hn hc ak ae hk hx hl qq =>
  subst z0;have hT:(⟨f,d1++.ls Y (its++[It.sub q xs p ys])::d2⟩:Fr)∈S.frs:=by rw[ae];simp
  have aa:∀{C1:CH}{ao:Nat},Tk a R ao C C1->C1 S.pa=some (.lst (fs.map (λT:Fr=>PV.ref T.f)++[.ref f]))/\C1 f=some (.lst (d1.map Fd.root++.ref Y::d2.map Fd.root))/\C1 Y=some (.lst (its.map It.root++[.ref q]))/\C1 q=some (.lst (xs++[.ref p]))/\C1 p=some (.lst ys)/\C1 S.h=some (j5 a S.dx S.pp S.pa S.ahead):=λJ=>by
   have h1:=h.tk J B.nr;have O:=h1.pa;rw[ae,AG] at O;have U:=h1.tf hT;rw[AG] at U;have ab:=h1.fd hT (p:=Y) (its:=its++[It.sub q xs p ys]) ue;have ar:=h1.it hT (p:=Y) (its:=its++[It.sub q xs p ys]) ue (i:=.sub q xs p ys) ue;rw[AG] at ab;exact⟨O,U,ab,ar (q,.lst (xs++[.ref p])) (by simp[It.cells]),ar (p,.lst ys) (by simp[It.cells]),h1.hr⟩
  refine⟨gX B.rr.o rfl,qg.mk R t n rfl B.rr (iZ L) hn λC1 J=>?_⟩;obtain⟨O,U,ab,a6,a5,ag⟩:=aa J;refine yJ ag rfl (tZ O rK ?_);refine(dh ?_);refine(dh ?_);refine(dh ?_);refine(dh ?_);refine(dh ?_);have aq:R.ws.drop (t+1)=c::r.dw:=zJ (us:=[n]) L
  refine⟨gX (J.at B.rr).o rfl,RZ.mk R (t+1) c _ ["set","add","times"] rfl (J.at B.rr) (iZ aq) (λC=>rfl) hc λC2 Z=>?_⟩;have af:=J.trans Z;obtain⟨bh,az,av,bg,bf,bb⟩:=aa af;refine tZ az (cF (k:=4) (by rw[AA,hk])) (tZ av rK (tZ bg (cF (k:=3) hx) ⟨lZ bf,⟨gX (af.at B.rr).o rfl,zp.mk R (t+1+1) r [] rfl (af.at B.rr) (by rw[AM];exact zJ (us:=[c]) aq) ak λC3 k3=>⟨km,?_⟩⟩⟩))
  have aj:Tk a R R.ws.length C C3:=by
   rw[show R.ws.length=t+1+1+r.dw.length from by rw[<- tW L ai,AD,AD];lia];exact af.trans k3
  have ax:=ZQ (C0:=cQ C R.r (vf a R.dx R.wl R.l R.ws.length)) (y:=.tup [.str n,.str c,r.pv]) aj (h.tk aj B.nr) ae trivial hl;exact bK (aa aj).2.2.2.2.1 (AE hl Th) (qq _ (jo.of B ax.2 ax.1))
end
def KG{ss:List Str}(hs:oN C y=some (ss.map PV.str))(h:n∈ss)(q:Q (.bl true) C):eR false (.str n) y C Q:=Il hs ir
noncomputable def Ep:List (Str×List Str):=[("box",["part","box"]),("work",["part","box","work"]),("set",["plain","set"]),("hand",["plain","set","hand","change"]),("change",["hand","change"]),("with",["draw","with"])]
noncomputable def SM(z:Str):Option PV:=(Ep.lookup z).map λss=>.kt (ss.map PV.str)
section
variable{W:Wd}{a:Adr}
theorem gF:∀ss:List Str,du K H (ss.map V.str) (ss.map PV.str)
 |[]=>.nil
 |s::ss=>.cons (.str _) (gF ss)
def vh(T:Tx W a):∀z t,SM z=some t->∃v,aK ([(Sum.inr "box",.ref a.uW),(Sum.inr "work",.ref a.yW),(Sum.inr "set",.ref a.wW),(Sum.inr "hand",.ref a.vW),(Sum.inr "change",.ref a.kW),(Sum.inr "with",.ref a.jW)]:List (Key×V)) (Sum.inr z)=some v/\∀H,Rep W.K H v t:=by
 intro z t h
 delta SM at h
 cases e:Ep.lookup z with
 |none=>rw[e] at h;cases h
 |some ss =>
  rw[e] at h;cases h
  delta Ep at e
  simp only[List.lookup] at e
  split at e
  .next q=>cases e;rw[eq_of_beq q];exact⟨_,rfl,λH=>.kt (T.qH H) (gF ["part","box"])⟩
  split at e
  .next q=>cases e;rw[eq_of_beq q];exact⟨_,rfl,λH=>.kt (T.iP H) (gF ["part","box","work"])⟩
  split at e
  .next q=>cases e;rw[eq_of_beq q];exact⟨_,rfl,λH=>.kt (T.aP H) (gF ["plain","set"])⟩
  split at e
  .next q=>cases e;rw[eq_of_beq q];exact⟨_,rfl,λH=>.kt (T.eP H) (gF ["plain","set","hand","change"])⟩
  split at e
  .next q=>cases e;rw[eq_of_beq q];exact⟨_,rfl,λH=>.kt (T.tP H) (gF ["hand","change"])⟩
  split at e
  .next q=>cases e;rw[eq_of_beq q];exact⟨_,rfl,λH=>.kt (T.oP H) (gF ["draw","with"])⟩
  .cases e
inductive ZH(S:HS):Str->Prop
 |fill (w:Str) (ss:List Str) (h:(w,ss)∈Ep) (ha:S.ahead∈ss):ZH S w
 |beg (w:Str) (h:w∈(["plain","draw","give","when","each"]:List Str)) (hf:1<=S.frs.length):ZH S w
 |part (hf:S.frs.length<=1):ZH S "part"
 |els (fs:List Fr) (f l:Addr) (x:PV) (its:List It) (hf:S.frs=fs++[⟨f,[.lf (.str "when"),.lf x,.ls l its]⟩]) (hl:1<=fs.length):ZH S "else"
 |fin (fs:List Fr) (f:Addr) (u:Str) (ds:List Fd) (hf:S.frs=fs++[⟨f,.lf (.str u)::ds⟩]) (hl:1<=fs.length) (hu:u ≠ "when"\/ds.length≠2):ZH S "end"
inductive Uo(a:Adr)(ts:List PV)(C:CH)(Q:K1):Prop
 |mk(S:HS)(w:Str)(z0:ts=[.ref S.h,.str w])(z1:ig a C S)(z2:ZH S w)(z3:Q (.bl true) C)
def NK(T:Tx W a):Ok W a (k+1) 71 ["self","word"] (Uo a):=by
 have S:=(T.F 71 rfl).s
 refine(T.F 71 rfl).ok (λts C R h=>?_) λah A outer s H E ab=>⟨_,(xQ (nQ (xJ (xM T.iG) pM (cv 1) (wZ (v:=.ref a.RIGHT_BEHIND) rfl T.eG rfl (λ_=>.ref _)) rfl) (kQ (uQ (qJ bW dJ (kJ T.tQ T.vV (cv 0)) (iH T.iG (vh T) (wZ (v:=.ref a.RIGHT_BEHIND) rfl T.eG rfl (λ_=>.ref _)) (cv 1) (λ_ _=>rfl)) rfl))) pQ)
  (xQ (nQ (xJ (jM (dG ab)) pD (cv 1) (wZ (v:=.ref a.BEGINNING) rfl T.kR rfl (λH=>.kt (T.iN H) (.cons (.str _) (.cons (.str _) (.cons (.str _) (.cons (.str _) (.cons (.str _) .nil))))))) rfl) (kQ (uQ (qJ oW eK (gw T.tX (kJ T.tQ T.qX (cv 0))) jQ (lJ _)))) pQ)
  (xQ (nQ (ct2 rX yX (cv 1) wQ) (kQ (uQ (qJ xF qU (gw T.tX (kJ T.tQ T.qX (cv 0))) jQ (lJ _)))) pQ)
  (xQ (nQ (ct2 xF qU (gw T.tX (kJ T.tQ T.qX (cv 0))) jQ) (kQ (uQ sX)) pQ)
  (xQ (fj 2 S.nd (cV (qJ rX yX (cx (cx (kJ T.tQ T.qX (cv 0)) (eW tK sJ jQ)) jQ) wQ (lJ _)) (pV (qJ rX yX (gw T.tX (cx (kJ T.tQ T.qX (cv 0)) (eW tK sJ jQ))) jQ (lJ _)))))
  (kQ (uQ (JP (cV (qJ rX yX (cv 1) wQ (lJ _)) (pV (cv 2))) (pV (cV (qJ rX yX (cv 1) wQ (lJ _)) (pV (YA (cv 2))))))))))))),?_⟩
 .obtain⟨_,_,rfl,_⟩:=h;rfl
 rintro ts C Q ⟨S,w,rfl,h,aa,q⟩;have B:=h.pa
 cases aa with
 |fill _ ss ae ha =>
  have ag:∀c∈Ep,(aK ([(Sum.inr "box",.ref a.uW),(Sum.inr "work",.ref a.yW),(Sum.inr "set",.ref a.wW),(Sum.inr "hand",.ref a.vW),(Sum.inr "change",.ref a.kW),(Sum.inr "with",.ref a.jW)]:List (Key×V)) (Sum.inr c.1)).isSome=true/\SM c.1=some (.kt (c.2.map PV.str)):=by
   intro c U
   delta Ep at U
   simp only[List.mem_cons,List.not_mem_nil,or_false] at U
   rcases U with rfl|rfl|rfl|rfl|rfl|rfl<;>exact⟨rfl,rfl⟩
  obtain⟨k1,k2⟩:=ag _ ae;refine⟨w,rfl,rfl,eX k1 (yJ h.hr rfl ⟨w,_,rfl,rfl,k2,KG rfl ha q⟩)⟩
 |beg _ Y J =>
  simp only[List.mem_cons,List.not_mem_nil,or_false] at Y
  rcases Y with rfl|rfl|rfl|rfl|rfl<;>exact⟨_,rfl,rfl,bQ rfl (fQ (tV rfl rfl (eX gf (yJ h.hr rfl (nK B (gk (by rw[AA,AU (show(0:Int)<S.frs.length by lia)];exact q)))))))⟩
 |part J=>exact⟨_,rfl,rfl,bQ rfl (fQ (tV rfl rfl (bQ gf (fQ ((gj (yJ h.hr rfl (nK B (gk (by rw[AA,AU (show((S.frs.length:Nat):Int)<2 by lia)];exact q))))))))))⟩
 |els fs f l x its J hl =>
  have L:=h.tf (T:=⟨f,[.lf (.str "when"),.lf x,.ls l its]⟩) (by rw[J];simp);rw[J,AG] at B;have O:((fs.map (λT:Fr=>PV.ref T.f)++[PV.ref f]).length:Int)=fs.length+1:=by rw[AB,AA];rfl
  refine⟨_,rfl,rfl,bQ rfl (fQ (tV rfl rfl (bQ gf (fQ ((dh (fQ (yJ h.hr rfl (nK B (gk (bQ (AW (by have:=O;show ¬ ((fs.map (λT:Fr=>PV.ref T.f)++[PV.ref f]).length:Int)<2;lia)) (fQ ?_))))))))))))⟩;refine yJ h.hr rfl (tZ B rK (tZ L rfl ((gj (yJ h.hr rfl (tZ B rK (nK L (mQ (eQ _ _) ?_))))))));exact(gj q)
 |fin fs f u ds J hl hu =>
  have L:=h.tf (T:=⟨f,.lf (.str u)::ds⟩) (by rw[J];simp);rw[J,AG] at B;have O:((fs.map (λT:Fr=>PV.ref T.f)++[PV.ref f]).length:Int)=fs.length+1:=by rw[AB,AA];rfl
  have Z:C f=some (.lst (.str u::ds.map Fd.root)):=L;refine⟨_,rfl,rfl,bQ rfl (fQ (tV rfl rfl (bQ gf (fQ ((dh (fQ (yJ h.hr rfl (nK B (gk (bQ (AW (by have:=O;show ¬ ((fs.map (λT:Fr=>PV.ref T.f)++[PV.ref f]).length:Int)<2;lia)) (fQ ?_))))))))))))⟩;refine yJ h.hr rfl (tZ B rK (tZ Z Qe (mQ (vQ _ _) (gJ (λe=>?_) λe=>?_))))
  .refine yJ h.hr rfl (tZ B rK (nK Z (mQ (b:=false) ?_ ?_)))
   .have af:u="when":=by simpa using e
    have:=hu.resolve_left (λz=>z af);rw[AD,AA];show some (decide _)=some false
    congr 1
    apply AW
    lia
   .exact(dh ((gj q)))
  .exact(dh ((gj q)))
end
def nn(h:cQ C p o q=none):q≠p/\C q=none:=by grind[zQ,yQ]
section
variable{W:Wd}{a:Adr}
noncomputable def HS.part(S:HS)(q f b w l:Addr)(n:Str):HS:={ S with pa:=q,parts:=S.parts++S.frs.map Fr.cl,frs:=[t7 f [.str n] [b,w,l]] }
inductive UJ(a:Adr)(ts:List PV)(C:CH)(Q:K1):Prop
 |mk(S:HS)(R:Rd)(t:Nat)(n:Str)(z0:ts=[.ref S.h,.ref R.r])(z1:ig a C S)(z2:RO a C S R t)(zw:R.ws.drop t=[n])(zt:t<=R.ws.length)(zn:qZ n=true)(zl:S.parts.length+S.frs.length<=10000)(z4:∀pa f b w l C',jo a R R.ws.length C S C' (S.part pa f b w l n)->Q .non C')
def Oh(T:Tx W a):Ok W a 7 72 ["self","row"] (UJ a):=by
 have S:=(T.F 72 rfl).s;have gS:=Jd T 4;have jJ:=Ja (k:=4) T
 refine(T.F 72 rfl).ok (λts C R h=>?_) λbg A outer s H E ao=>⟨_,(xQ (fj 2 S.nd (jy T.rQ (T.F 63 rfl) T.bX jJ ao (cv 1)))
  (xQ (kZ (rD Ae BR BQ (λp s σ H x vs v us Q=>vU p s σ H x vs v us Q) rY (kJ T.tQ T.xV (cv 0)) (c7 (nY rfl (S.c gf) (S.k (L:=0) rfl rfl rfl gf) (kJ T.tQ T.qX (cv 0)) (λ_ _ _ _ _=>fZ) (λ_ _ _ _ _=>(cf (T.F 25 rfl) gS ao (c7 (cv 0))))))))
  (kQ (fM T.tQ T.qX (cv 0) (oQ (c7 (oQ (qQ (cv 2) (qQ (oQ cX) (qQ (oQ cX) (c7 (oQ cX)))))))))))),?_⟩
 .obtain⟨_,_,_,_,rfl,_⟩:=h;rfl
 rintro ts C Q ⟨S,R,t,n,rfl,h,Z,aq,a7,hn,hl,bf⟩;refine⟨gX Z.rr.o rfl,qg.mk R t n rfl Z.rr (iZ aq) hn λC1 k1=>?_⟩;have el:=tW aq a7;have h1:=h.tk k1 Z.nr;dsimp only[di.wn];refine yJ h1.hr rfl ⟨lZ h1.pp,?_⟩
 delta fW
 refine yJ h1.hr rfl ?_;dsimp only;rw[h1.pa];refine hR (λC' g=>g _ _ h1.pa) (λx t C2 Q' q g hq=>Ga.mk x t rfl (q.mono g) hq) _ (S.frs.map Fr.cl) [] C1 Gr.refl (by rw[A0,AA,BV];exact AK h.fl Th) (by rw[AA,AA]) (λi x y q hy=>?_) λp2 C2 bh aa m2=>?_
 .rw[Ag] at q hy
  cases e:S.frs[i]? with
  |none=>rw[e] at q;cases q
  |some U =>
   rw[e] at q hy;cases q;cases hy;have hU:=Ak e;exact Fr.clo (h1.fr hU) (h.ok U hU)
 have h2:=h1.gr aa
 have aj:S.h≠S.pp:=by
  have:=h.nd;unfold Dj HS.cells at this
  simp only[List.map_cons,List.nodup_cons,List.mem_cons,not_or] at this
  exact this.1.1
 refine bM h2.pp m2 (by rw[BH,AA];exact AK hl Th) ?_;rw[BH] at *
 refine⟨AF _,λb hb=>⟨AF _,λw ag=>⟨AF _,λl ae=>⟨j4,λf ab=>⟨jg,λY af=>?_⟩⟩⟩⟩⟩
 have hh:cQ (cQ (cQ (cQ (cQ (cQ C2 S.pp (.lst (S.parts++S.frs.map Fr.cl))) b (.lst [])) w (.lst [])) l (.lst [])) f (.lst [.str n,.ref b,.ref w,.ref l])) Y (.lst [.ref f]) S.h=some (j5 a S.dx S.pp S.pa S.ahead):=by
  exact Gr.new af _ _ _ (Gr.new ab _ _ _ (Gr.new ae _ _ _ (Gr.new ag _ _ _ (Gr.new hb _ _ _ ((yQ aj).trans h2.hr)))))
 refine aB hh (by show 3<1000;decide) (bf Y f b w l _ ?_);refine lL (nn hb) λa9 b2=>?_;obtain⟨a4,w1⟩:=nn ag;obtain⟨bb,w2⟩:=nn w1;obtain⟨a3,l1⟩:=nn ae;obtain⟨a0,l2⟩:=nn l1;obtain⟨ba,l3⟩:=nn l2;obtain⟨ay,a5⟩:=nn ab;obtain⟨az,a6⟩:=nn a5;obtain⟨ax,f3⟩:=nn a6;obtain⟨nf,ai⟩:=nn f3;obtain⟨au,p1⟩:=nn af;obtain⟨av,bc⟩:=nn p1;obtain⟨aw,p3⟩:=nn bc;obtain⟨ar,p4⟩:=nn p3;obtain⟨a8,p5⟩:=nn p4
 have J:∀{x},C2 x=none->x≠S.h:=λq z=>by rw[z,h2.hr] at q;cases q
 have bj:∀{x},C2 x=none->C x=none:=λq=>k1.none (bZ aa q)
 have ec:(S.part Y f b w l n).cells a=[(S.h,j5 a S.dx S.pp Y S.ahead),(S.pp,.lst (S.parts++S.frs.map Fr.cl)),(Y,.lst [.ref f]),(f,.lst [.str n,.ref b,.ref w,.ref l]),(b,.lst []),(w,.lst []),(l,.lst [])]:=by
  show _::_::_::((t7 f [.str n] [b,w,l]).cells++[])=_;rw[pL]
  rfl
 have kz:Tk a R R.ws.length C C1:=by rwa[<- el]
 refine⟨⟨?_,?_,λU hU=>?_,by show 1<=10000;decide,by show(S.parts++S.frs.map Fr.cl).length<=10000;rwa[AB,AA]⟩,?_,?_⟩
 .rw[ec]
  intro c hc
  simp only[List.mem_cons,List.not_mem_nil,or_false] at hc
  rcases hc with rfl|rfl|rfl|rfl|rfl|rfl|rfl
  .exact zQ
  .exact(yQ aj.symm).trans (Gr.new af _ _ _ (Gr.new ab _ _ _ (Gr.new ae _ _ _ (Gr.new ag _ _ _ (Gr.new hb _ _ _ zQ)))))
  .exact(yQ (J p5)).trans zQ
  .exact(yQ (J ai)).trans ((yQ au.symm).trans zQ)
  .exact(yQ (J b2)).trans ((yQ ar.symm).trans ((yQ ax.symm).trans ((yQ a0.symm).trans ((yQ a4.symm).trans zQ))))
  .exact(yQ (J w2)).trans ((yQ aw.symm).trans ((yQ az.symm).trans ((yQ a3.symm).trans zQ)))
  .exact(yQ (J l3)).trans ((yQ av.symm).trans ((yQ ay.symm).trans zQ))
 .delta Dj
  rw[ec]
  simp[aj,(J p5).symm,(J ai).symm,(J b2).symm,(J w2).symm,(J l3).symm,a8.symm,nf.symm,a9.symm,bb.symm,ba.symm,au,ar,aw,av,ax,az,ay,a4.symm,a0.symm,a3.symm]
 .rw[AR.1 hU]
  exact Yh (λx q=>by rw[AR.1 q];trivial) (by show 1+3<=10;decide)
 all_goals
  have mS:S.h∈(S.cells a).map (·.1)/\S.pp∈(S.cells a).map (·.1):=by delta HS.cells;simp
  have ak:∀x o,C1 x=some o->x∉(S.cells a).map (·.1)->cQ (cQ (cQ (cQ (cQ (cQ (cQ C2 S.pp (.lst (S.parts++S.frs.map Fr.cl))) b (.lst [])) w (.lst [])) l (.lst [])) f (.lst [.str n,.ref b,.ref w,.ref l])) Y (.lst [.ref f])) S.h (j5 a S.dx S.pp Y S.ahead) x=some o:=λx o ex O=>by
   refine(yQ (λz=>O (by rw[z];exact mS.1))).trans (Gr.new af _ _ _ (Gr.new ab _ _ _ (Gr.new ae _ _ _ (Gr.new ag _ _ _ (Gr.new hb _ _ _ ?_)))));exact(yQ (λz=>O (by rw[z];exact mS.2))).trans (aa _ _ ex)
  have ah:∀x o,C1 x=some o->x∉(S.cells a).map (·.1)->x∉((S.part Y f b w l n).cells a).map (·.1):=λx o ex O q=>by
   have B:=aa _ _ ex;rw[ec] at q
   simp only[List.map_cons,List.map_nil,List.mem_cons,List.not_mem_nil,or_false] at q
   rcases q with rfl|rfl|rfl|rfl|rfl|rfl|rfl
   .exact O mS.1
   .exact O mS.2
   .rw[p5] at B;cases B
   .rw[ai] at B;cases B
   .rw[b2] at B;cases B
   .rw[w2] at B;cases B
   .rw[l3] at B;cases B
 .have r1:=kz.at Z.rr
  exact⟨⟨ak _ _ r1.o Z.nr,ak _ _ r1.w Z.nw,r1.n⟩,ah _ _ r1.o Z.nr,ah _ _ r1.w Z.nw⟩
 .intro x o ex O nr
  have e1:=k1 _ _ ((yQ nr).trans ex);exact⟨ak _ _ e1 O,ah _ _ e1 O⟩
end
inductive MK:Str->List Str->Nat->PV->Prop
 |box (n:Str) (i:Int) (hn:qZ n=true) (hb:Bd i):MK "box" [n,iz i] 1 (.tup [.str n,.int i])
 |work (n:Str) (r:Rk) (hn:qZ n=true) (hg:Rg r):MK "work" (n::r.dw) 2 (.tup [.str n,r.pv])
 |set (n:Str) (r:Rk) (hn:qZ n=true) (hg:Rg r):MK "set" (n::r.dw) 3 (.tup [.str n,r.pv])
inductive jw(S:HS)(K:HS->Prop):List Str->Prop
 |part (n:Str) (hn:qZ n=true) (hf:S.frs.length<=1) (hl:S.parts.length+S.frs.length<=10000) (q:∀pa f b w l,K { S.part pa f b w l n with ahead:="part" }):jw S K ["part",n]
 |beg (w:Str) (us:List Str) (xs:List PV) (m:Nat) (hb:qi w us xs m) (hw:w ≠ "draw") (hf:1<=S.frs.length) (hl:S.frs.length<10000) (q:∀f ps,ps.length=m->K { S with frs:=S.frs++[t7 f xs ps],ahead:=w }):jw S K (w::us)
 |draw (us:List Str) (xs:List PV) (m:Nat) (fs:List Fr) (f p:Addr) (d1:List Fd) (its:List It) (hb:qi "draw" us xs m) (zf:S.frs=fs++[⟨f,d1++[.ls p its]⟩]) (zl:its.length<10000) (q:∀q pl,K { S with frs:=fs++[⟨f,d1++[.ls p (its++[.sub q xs pl []])]⟩],ahead:="draw" }):jw S K ("draw"::us)
 |lf (w:Str) (us:List Str) (k:Nat) (y:PV) (ss:List Str) (fs:List Fr) (f p:Addr) (d1 d2:List Fd) (its:List It) (hr:(w,ss)∈Ep) (ha:S.ahead∈ss) (hs:MK w us k y) (zf:S.frs=fs++[⟨f,d1++.ls p its::d2⟩]) (zk:d1.length=k) (zl:its.length<10000) (q:K { S with frs:=fs++[⟨f,d1++.ls p (its++[.lf y])::d2⟩],ahead:=w }):jw S K (w::us)
 |wi (n:Str) (r:Rk) (fs:List Fr) (f pl q p:Addr) (d1:List Fd) (its:List It) (xs ys:List PV) (ha:S.ahead∈(["draw","with"]:List Str)) (zn:qZ n=true) (zg:Rg r) (zf:S.frs=fs++[⟨f,d1++[.ls pl (its++[.sub q xs p ys])]⟩]) (zx:xs.length=3) (zl:ys.length<10000) (z4:K { S with frs:=fs++[⟨f,d1++[.ls pl (its++[.sub q xs p (ys++[.tup [.str n,r.pv]])])]⟩],ahead:="with" }):jw S K ("with"::n::r.dw)
 |hd (n:Str) (i:Int) (b:Bool) (fs:List Fr) (f p:Addr) (d1 d2:List Fd) (its:List It) (ha:S.ahead∈(["plain","set","hand","change"]:List Str)) (zn:qZ n=true) (zi:i=1\/i=2\/i=3) (zf:S.frs=fs++[⟨f,d1++.ls p its::d2⟩]) (zk:d1.length=4) (zl:its.length<10000) (z4:∀q pl,K { S with frs:=fs++[⟨f,d1++.ls p (its++[.sub q [.str n,.int i,.bl b] pl []])::d2⟩],ahead:="hand" }):jw S K ["hand",n,iz i,uM b]
 |ch (n c:Str) (r:Rk) (fs:List Fr) (f pl q p:Addr) (d1 d2:List Fd) (its:List It) (xs ys:List PV) (ha:S.ahead∈(["hand","change"]:List Str)) (zn:qZ n=true) (zc:c∈(["set","add","times"]:List Str)) (zg:Rg r) (zf:S.frs=fs++[⟨f,d1++.ls pl (its++[.sub q xs p ys])::d2⟩]) (zk:d1.length=4) (zx:xs.length=3) (zl:ys.length<10000) (z4:K { S with frs:=fs++[⟨f,d1++.ls pl (its++[.sub q xs p (ys++[.tup [.str n,.str c,r.pv]])])::d2⟩],ahead:="change" }):jw S K ("change"::n::c::r.dw)
 |els (fs:List Fr) (f l:Addr) (x:PV) (its:List It) (hf:S.frs=fs++[⟨f,[.lf (.str "when"),.lf x,.ls l its]⟩]) (hl:1<=fs.length) (q:∀p,K { S with frs:=fs++[⟨f,[.lf (.str "when"),.lf x,.ls l its]++[.ls p []]⟩],ahead:="else" }):jw S K ["else"]
 |fin (fs:List Fr) (f p f':Addr) (d1:List Fd) (its:List It) (u:Str) (ds:List Fd) (hf:S.frs=(fs++[⟨f,d1++[.ls p its]⟩])++[⟨f',.lf (.str u)::ds⟩]) (hu:u ≠ "when"\/ds.length≠2) (zl:its.length<10000) (q:K { S with frs:=fs++[⟨f,d1++[.ls p (its++[.lf (Fr.cl ⟨f',.lf (.str u)::ds⟩)])]⟩],ahead:="end" }):jw S K ["end"]
def qi.word(h:qi w us xs m):w∈(["plain","draw","give","when","each"]:List Str):=by
 cases h<;>decide +kernel
def jw.head(h:jw S K ws):∃w us,ws=w::us/\ZH S w:=by
 cases h with
 |part n hn J Y q=>exact⟨_,_,rfl,.part J⟩
 |beg w us xs m U ae J Y q=>exact⟨_,_,rfl,.beg w U.word J⟩
 |draw us xs m fs f p d1 its U O L q=>exact⟨_,_,rfl,.beg _ U.word (by grind)⟩
 |lf w us k y ss fs f p d1 d2 its ab B hs O zk L q=>exact⟨_,_,rfl,.fill w ss ab B⟩
 |wi n r fs f pl q p d1 its xs ys B aa zg O zx L Z=>exact⟨_,_,rfl,.fill _ ["draw","with"] gf B⟩
 |hd n i b fs f p d1 d2 its B aa zi O zk L Z=>exact⟨_,_,rfl,.fill _ ["plain","set","hand","change"] gf B⟩
 |ch n c r fs f pl q p d1 d2 its xs ys B aa zc zg O zk zx L Z=>exact⟨_,_,rfl,.fill _ ["hand","change"] gf B⟩
 |els fs f l x its J Y q=>exact⟨_,_,rfl,.els fs f l x its J Y⟩
 |fin fs f p f' d1 its u ds J hu L q=>exact⟨_,_,rfl,.fin _ f' u ds J (by grind) hu⟩
section
variable{W:Wd}{a:Adr}
inductive Uj(a:Adr)(ts:List PV)(C:CH)(Q:K1):Prop
 |mk(S:HS)(R:Rd)(K:HS->Prop)(z0:ts=[.ref S.h,.ref R.r])(z1:ig a C S)(z2:RO a C S R 0)(zs:jw S K R.ws)(z4:∀C' S',K S'->S'.h=S.h->ig a C' S'->(∀b o,C b=some o->b∉(S.cells a).map (·.1)->b≠R.r->C' b=some o/\b∉(S'.cells a).map (·.1))->Q .non C')
def Nx(T:Tx W a):Ok W a 8 70 ["self","row"] (Uj a):=by
 have S:=(T.F 70 rfl).s;have iX:=QJ (k:=6) T;have fU:=NK (k:=6) T;have jF:=Om (k:=0) T;have sF:=Oc (k:=2) T;have xU:=Oh T;have kB:=Oe T;have rF:=Od (k:=6) T
 refine(T.F 70 rfl).ok (λts C R h=>?_) λa3 A outer s H E ae=>⟨_,(xQ (fj 2 S.nd (jy T.rQ (T.F 59 rfl) T.bX iX ae (cv 1)))
  (xQ (nQ (vX (zX (cm T.tQ (T.F 71 rfl) T.mJ fU ae (cv 0) (c7 (cv 2))))) sY pQ)
  (xQ (nQ (xJ (jM (dG ae)) pD (cv 2) (wZ (v:=.ref a.BEGINNING) rfl T.kR rfl (λH=>.kt (T.iN H) (.cons (.str _) (.cons (.str _) (.cons (.str _) (.cons (.str _) (.cons (.str _) .nil))))))) rfl) (kQ (kZ (cm T.tQ (T.F 73 rfl) T.mJ jF ae (cv 0) (qQ (cv 2) (c7 (cv 1)))))) (kQ (nQ (xJ (xM T.iG) pM (cv 2) (wZ (v:=.ref a.RIGHT_BEHIND) rfl T.eG rfl (λ_=>.ref _)) rfl) (kQ (kZ (cm T.tQ (T.F 75 rfl) T.mJ sF ae (cv 0) (qQ (cv 2) (c7 (cv 1)))))) (kQ (nQ (ct2 rX yX (cv 2) wQ) (kQ (kZ (cm T.tQ (T.F 72 rfl) T.mJ xU ae (cv 0) (c7 (cv 1))))) (kQ (nQ (ct2 rX yX (cv 2) wQ) (kQ (kZ (cap (cx (kJ T.tQ T.qX (cv 0)) (eW tK sJ jQ)) (oQ cX)))) (kQ (kZ (jy T.tQ (T.F 74 rfl) T.mJ kB ae (cv 0)))))))))))
  (xQ (kZ (jy T.rQ (T.F 61 rfl) T.bX rF ae (cv 1)))
  (kQ (fM T.tQ T.vV (cv 0) (cv 2))))))),?_⟩
 .obtain⟨_,_,_,rfl,_⟩:=h;rfl
 rintro ts C Q ⟨S,R,K,rfl,h,ro,hs,q⟩;obtain⟨w,us,J,ao⟩:=hs.head;refine⟨gX ro.rr.o rfl,um.mk R 0 w rfl ro.rr (by rw[J];rfl) λC1 k1=>?_⟩;have e1:=jo.tk h ro k1;have h1:=e1.st;have ab:=e1.ro;have aa:R.ws.drop 1=us:=by rw[J];rfl
 have ag:1<=R.ws.length:=by rw[J,AD];lia
 dsimp only[di.wn];refine⟨gX h1.hr rfl,Uo.mk S w rfl h1 ao (lX (fQ ?_))⟩;dsimp only[di.wn];refine mZ (λaw C'=>aw=[some (.ref S.h),some (.ref R.r),some (.str w)]/\∃Y,Y.h=S.h/\jo a R R.ws.length C S C' Y/\K { Y with ahead:=w }) (λL hL=>?_) ?_
 .have Z:∀{C':CH}{Y:HS},jo a R R.ws.length C1 S C' Y->Y.h=S.h->K { Y with ahead:=w }->L [some (.ref S.h),some (.ref R.r),some (.str w)] C':=λ{C' Y}B eh kk=>hL _ _ ⟨rfl,Y,eh,e1.trans B,kk⟩
  generalize O:R.ws=ws at hs
  cases hs with
  |part n hn af hl q =>
   obtain⟨rfl,rfl⟩:=AZ (J.symm.trans O);exact tV rfl rfl (bQ gf ⟨_,rfl,rfl,bQ rfl ((gj ⟨gX h1.hr rfl,UJ.mk S R 1 n rfl h1 ab aa ag hn hl λai f b w l C' B=>Z B rfl (q ai f b w l)⟩))⟩)
  |beg w' av xs m hb ay af hl q =>
   obtain⟨rfl,rfl⟩:=AZ (J.symm.trans O);have ak:Zk ["plain","draw","give","when","each"] (.str w)=true:=by cases hb<;>decide +kernel
   exact tV rfl rfl (eX ak ⟨gX h1.hr rfl,PB.nd S R 1 w us xs m rfl h1 ab aa ag hb ay hl λf ps C' ao B=>Z B rfl (q f ps ao)⟩)
  |draw av xs m fs f p d1 its hb zf U q =>
   obtain⟨rfl,rfl⟩:=AZ (J.symm.trans O);exact tV rfl rfl (eX gf ⟨gX h1.hr rfl,PB.dr S R 1 us xs m fs f p d1 its rfl h1 ab aa ag hb zf U λq0 pl C' B=>Z B rfl (q q0 pl)⟩)
  |lf w' av k y ss fs f p d1 d2 its a6 ha aq zf zk U q =>
   obtain⟨rfl,rfl⟩:=AZ (J.symm.trans O);have ak:Zk ["plain","draw","give","when","each"] (.str w)=false:=by cases aq<;>decide +kernel
   refine tV rfl rfl (bQ ak ⟨_,rfl,rfl,eX (by cases aq<;>rfl) ⟨gX h1.hr rfl,zq.lf S R 1 w k y fs f p d1 d2 its rfl h1 ab ag ?_ zf zk U λC' B=>Z B rfl q⟩⟩)
   cases aq with
   |box n i hn hb=>exact .box n i aa hn hb
   |work n r hn aj=>exact .work n r aa hn aj
   |set n r hn aj=>exact .set n r aa hn aj
  |wi n r fs f pl q0 p d1 its xs ys ha ah zg zf zx U z4 =>
   obtain⟨rfl,rfl⟩:=AZ (J.symm.trans O);exact tV rfl rfl (bQ gf ⟨_,rfl,rfl,eX rfl ⟨gX h1.hr rfl,zq.wi S R 1 n r fs f pl q0 p d1 its xs ys rfl h1 ab ag aa ah zg zf zx U λC' B=>Z B rfl z4⟩⟩)
  |hd n i b fs f p d1 d2 its ha ah zi zf zk U z4 =>
   obtain⟨rfl,rfl⟩:=AZ (J.symm.trans O);exact tV rfl rfl (bQ gf ⟨_,rfl,rfl,eX rfl ⟨gX h1.hr rfl,zq.hd S R 1 n i b fs f p d1 d2 its rfl h1 ab ag aa ah zi zf zk U λq0 pl C' B=>Z B rfl (z4 q0 pl)⟩⟩)
  |ch n c r fs f pl q0 p d1 d2 its xs ys ha ah zc zg zf zk zx U z4 =>
   obtain⟨rfl,rfl⟩:=AZ (J.symm.trans O);exact tV rfl rfl (bQ gf ⟨_,rfl,rfl,eX rfl ⟨gX h1.hr rfl,zq.ch S R 1 n c r fs f pl q0 p d1 d2 its xs ys rfl h1 ab ag aa ah zc zg zf zk zx U λC' B=>Z B rfl z4⟩⟩)
  |els fs f l x its af hl q =>
   obtain⟨rfl,rfl⟩:=AZ (J.symm.trans O);have ar:R.ws.length=1:=by rw[O];rfl
   have hT:(⟨f,[.lf (.str "when"),.lf x,.ls l its]⟩:Fr)∈S.frs:=by rw[af];simp
   have au:=h1.tf hT;have ai:=h1.pa;rw[af,AG] at ai;refine tV rfl rfl (bQ gf ⟨_,rfl,rfl,bQ rfl ((dh ((gj (yJ h1.hr rfl (tZ ai rK ⟨lZ au,⟨AF _,λp hp=>bK (Gr.new hp _ _ _ au) (by show 3<sizeLine;decide) ?_⟩⟩))))))⟩);have ax:=vq (Gr.new hp _) (h1.gr (Gr.new hp (.lst []))) af zQ hp h1.ho (by show 3<10;decide)
   exact Z (jo.ext (ar▸(⟨h1,ab,λb o e n _=>⟨e,n⟩⟩:jo a R 1 C1 S C1 S)) ax.1 ax.2) rfl (q p)
  |fin fs f p f' d1 its u ds af hu U q =>
   obtain⟨rfl,rfl⟩:=AZ (J.symm.trans O);have ar:R.ws.length=1:=by rw[O];rfl
   exact tV rfl rfl (bQ gf ⟨_,rfl,rfl,bQ rfl ((dh ((dh ⟨gX h1.hr rfl,Uz.mk S fs f p d1 its _ rfl h1 af U λC' st ex=>Z (jo.ext (ar▸(⟨h1,ab,λb o e n _=>⟨e,n⟩⟩:jo a R 1 C1 S C1 S)) st ex) rfl q⟩))))⟩)
 .rintro aw C' ⟨rfl,⟨h',a4,a9,a7,a8,a5,a0⟩,eh,B,kk⟩
  dsimp only at eh;subst eh;have hh:=B.st.hr;refine⟨gX B.ro.rr.o rfl,Uy.mk R rfl B.ro.rr ?_⟩;dsimp only[di.wn];have ax:=G3 Gr.refl B.st w;refine aB hh (by show 3<1000;decide) (q _ _ kk rfl ax.1 λb o eb az nr=>?_);obtain⟨e2,n2⟩:=B.ex b o eb az nr;exact ax.2 b o e2 n2
end
def pW:List (List Str)->(HS->Prop)->HS->Prop
 |[],K,S=>K S
 |ws::dX,K,S=>jw S (pW dX K) ws
noncomputable def HS.top(S:HS)(fs:List Fr)(T:Fr)(q:Str):HS:={ S with frs:=fs++[T],ahead:=q }
theorem wF(Z:(w,ss)∈Ep)(aa:w∈ss)(U:∀c:Str×Rk,qZ c.1=true->Rg c.2->MK w (c.1::c.2.dw) k (yV c)){S:HS}(Y:d1.length=k){dX}:∀(cs:List (Str×Rk))its B,B∈ss->(∀c∈cs,qZ c.1=true/\Rg c.2)->its.length+cs.length<10000->(∀J,J∈ss->pW dX K (S.top fs ⟨f,d1++.ls p (its++cs.map λc=>.lf (yV c))::d2⟩ J))->pW (cs.map (lr w)++dX) K (S.top fs ⟨f,d1++.ls p its::d2⟩ B)
 |[],its,B,L,_,_,q=>by have:=q B L;simpa using this
 |c::cs,its,B,L,O,hl,q=>by
  rw[AD] at hl
  apply jw.lf w (c.1::c.2.dw) k (yV c) ss fs f p d1 d2 its Z L (U c (O c AL).1 (O c AL).2) rfl Y ir
  refine wF Z aa U Y cs (its++[.lf (yV c)]) w aa (λx hx=>O x (AH _ hx)) (by rw[AB];show _+1+_<_;lia) λJ h'=>?_;have:=q J h'
  rwa[AI]
theorem aR{S:HS}(U:d1.length=1){dX}:∀(cs:List (Str×Int))its B,B∈(["part","box"]:List Str)->(∀c∈cs,qZ c.1=true/\Bd c.2)->its.length+cs.length<10000->(∀J,J∈(["part","box"]:List Str)->pW dX K (S.top fs ⟨f,d1++.ls p (its++cs.map λc=>.lf (nW c))::d2⟩ J))->pW (cs.map Rx++dX) K (S.top fs ⟨f,d1++.ls p its::d2⟩ B)
 |[],its,B,L,_,_,q=>by have:=q B L;simpa using this
 |c::cs,its,B,L,O,Y,q=>by
  rw[AD] at Y
  apply jw.lf "box" [c.1,iz c.2] 1 (nW c) ["part","box"] fs f p d1 d2 its gf L (MK.box c.1 c.2 (O c AL).1 (O c AL).2) rfl U ir
  refine aR U cs (its++[.lf (nW c)]) "box" gf (λx Z=>O x (AH _ Z)) (by rw[AB];show _+1+_<_;lia) λJ h'=>?_;have:=q J h'
  rwa[AI]
theorem rT{S:HS}(J:xs.length=3){dX:List (List Str)}:∀(cs:List (Str×Rk))(ys:List PV)(B:Str),B∈(["draw","with"]:List Str)->(∀c∈cs,qZ c.1=true/\Rg c.2)->ys.length+cs.length<10000->(∀L,pW dX K (S.top fs ⟨f,d1++[.ls Y (its++[.sub Z xs p (ys++cs.map yV)])]⟩ L))->pW (cs.map (lr "with")++dX) K (S.top fs ⟨f,d1++[.ls Y (its++[.sub Z xs p ys])]⟩ B)
 |[],ys,B,U,_,_,q=>by have:=q B;simpa using this
 |c::cs,ys,B,U,O,hl,q=>by
  rw[AD] at hl
  apply jw.wi c.1 c.2 fs f Y Z p d1 its xs ys U (O c AL).1 (O c AL).2 rfl J ir
  refine rT J cs (ys++[yV c]) "with" gf (λx J=>O x (AH _ J)) (by rw[AB];show _+1+_<_;lia) λL=>?_;have:=q L;rw[A5] at this
  rwa[AI]
theorem Xo{S:HS}{d2:List Fd}(Y:d1.length=4)(L:xs.length=3){dX:List (List Str)}:∀(cs:List (Str×Str×Rk))(ys:List PV)(B:Str),B∈(["hand","change"]:List Str)->(∀c∈cs,qZ c.1=true/\c.2.1∈(["set","add","times"]:List Str)/\Rg c.2.2)->ys.length+cs.length<10000->(∀J,J∈(["hand","change"]:List Str)->pW dX K (S.top fs ⟨f,d1++.ls Z (its++[.sub q0 xs p (ys++cs.map Xq)])::d2⟩ J))->pW (cs.map Lp++dX) K (S.top fs ⟨f,d1++.ls Z (its++[.sub q0 xs p ys])::d2⟩ B)
 |[],ys,B,O,_,_,q=>by have:=q B O;simpa using this
 |c::cs,ys,B,O,U,hl,q=>by
  rw[AD] at hl;have h0:=U c AL
  apply jw.ch c.1 c.2.1 c.2.2 fs f Z q0 p d1 d2 its xs ys O h0.1 h0.2.1 h0.2.2 rfl Y L ir
  refine Xo Y L cs (ys++[Xq c]) "change" gf (λx L=>U x (AH _ L)) (by rw[AB];show _+1+_<_;lia) λJ h'=>?_;have:=q J h';rw[A5] at this
  rwa[AI]
theorem iC{S:HS}{d2:List Fd}(O:d1.length=4){dX}:∀(hs:List Hd)its B,B∈(["plain","set","hand","change"]:List Str)->(∀x∈hs,ut x)->its.length+hs.length<10000->(∀J L,J.map It.cl=hs.map Hd.pv->J.length=hs.length->pW dX K (S.top fs ⟨f,d1++.ls p (its++J)::d2⟩ L))->pW (hs.flatMap Hd.dw++dX) K (S.top fs ⟨f,d1++.ls p its::d2⟩ B)
 |[],its,B,U,_,_,q=>by have:=q [] B rfl rfl;simpa using this
 |h::hs,its,B,U,Y,hl,q=>by
  rw[AD] at hl;have h0:=Y h AL;have hi:h.rank=1\/h.rank=2\/h.rank=3:=by have:=h0.r1;have:=h0.r3;lia
  show pW ((O9 h::h.ch.map Lp)++hs.flatMap Hd.dw++dX) K _;rw[A8,A8,AI];refine jw.hd h.ev h.rank h.last fs f p d1 d2 its U h0.ev hi rfl O ir λq1 pl=>?_;refine Xo O rfl h.ch [] "hand" (by grind) h0.ch (by have:=h0.cl;show 0+_<_;lia) λL h'=>?_;refine iC O hs (its++[.sub q1 [.str h.ev,.int h.rank,.bl h.last] pl ([]++h.ch.map Xq)]) L ?_ (λx hx=>Y x (AH _ hx)) (by grind) λJ Z ej el=>?_
  .grind
  .rw[AI]
   refine q _ Z ?_ ?_
   .show _::J.map It.cl=h.pv::hs.map Hd.pv
    rw[ej]
    rfl
   .simp_all
def TY(d:Nat):Prop:=∀l:Ln,l.gd d->∀(S:HS)(fs:List Fr)(f p:Addr)(d1:List Fd)(its:List It)(q:Str)(dX:List (List Str))(K:HS->Prop),its.length<10000->fs.length+d<9000->(∀it B,It.cl it=l.pv->pW dX K (S.top fs ⟨f,d1++[.ls p (its++[it])]⟩ B))->pW (l.rows++dX) K (S.top fs ⟨f,d1++[.ls p its]⟩ q)
def TX(d:Nat):Prop:=∀ls:List Ln,(∀l∈ls,l.gd d)->∀(S:HS)(fs:List Fr)(f p:Addr)(d1:List Fd)(its:List It)(B:Str)(dX:List (List Str))(K:HS->Prop),its.length+ls.length<10000->fs.length+d<9000->(∀q J,q.map It.cl=ls.map Ln.pv->pW dX K (S.top fs ⟨f,d1++[.ls p (its++q)]⟩ J))->pW (Ln.d7 ls++dX) K (S.top fs ⟨f,d1++[.ls p its]⟩ B)
def Fj(h:TY d):TX d:=by
 intro ls
 induction ls with
 |nil =>
  intro _ S fs f p d1 its B dX K _ _ q;have:=q [] B rfl
  rwa[AM] at this
 |cons l ls Z =>
  intro L S fs f p d1 its B dX K hl J q;show pW (l.rows++Ln.d7 ls++dX) K _;rw[AI];refine h l (L l AL) S fs f p d1 its B _ K ir J λit O e=>?_;refine Z (λx Y=>L x (AH _ Y)) S fs f p d1 (its++[it]) O dX K (by grind) J λjs U ej=>?_;rw[AI];exact q _ U (by grind)
def Fo(s:List (Str×Rk)):([]++s.map λc=>It.lf (yV c)).map It.cl=s.map yV:=by
 rw[BH,Aj]
 rfl
def Ou{d:Nat}(H:TX d):TY (d+1):=by
 intro l q S fs f p d1 its aj dX K Z ak aa
 have J:∀T:Fr,1<=(fs++[T]).length/\(fs++[T]).length<10000/\(fs++[T]).length+d<9000:=λT=>by
  rw[AB];show 1<=fs.length+1/\fs.length+1<10000/\fs.length+1+d<9000
  lia
 cases l with
 |plain k U s h ls =>
  show pW ((("plain":Str)::U::jb k)::(s.map (lr "set")++(h.flatMap Hd.dw++(Ln.d7 ls++[[("end":Str)]])))++dX) K _;rw[A8,AI,AI,AI];refine jw.beg "plain" (U::jb k) [.str "plain",nV k,.str U] 3 (.plain U k q.1.2 q.1.1) gf (J _).1 (J _).2.1 λB ps L=>?_
  obtain⟨b,c,e,rfl⟩:∃b c e,ps=[b,c,e]:=by
   rcases ps with _|⟨b,_|⟨c,_|⟨e,_|⟨_,_⟩⟩⟩⟩
   .cases L
   .cases L
   .cases L
   .exact⟨b,c,e,rfl⟩
   .cases L
  refine wF (S:=S) (w:="set") (ss:=["plain","set"]) (k:=3) (fs:=fs++[⟨f,d1++[.ls p its]⟩]) (f:=B) (p:=b) (d1:=[.lf (.str "plain"),.lf (nV k),.lf (.str U)]) (d2:=[.ls c [],.ls e []]) gf gf (λc h1 h2=>.set c.1 c.2 h1 h2) rfl s [] "plain" gf q.2.1.1.1 (by have:=q.2.1.1.2;show 0+_<_;lia) λaf h1=>?_;refine iC (S:=S) (fs:=fs++[⟨f,d1++[.ls p its]⟩]) (f:=B) (p:=c) (d1:=[.lf (.str "plain"),.lf (nV k),.lf (.str U),.ls b ([]++s.map λc=>It.lf (yV c))]) (d2:=[.ls e []]) rfl h [] af ?_ q.2.1.2.1 (by have:=q.2.1.2.2;show 0+_<_;lia) λjs ah ej _=>?_
  .simp only[List.mem_cons,List.not_mem_nil,or_false] at h1 ⊢
   rcases h1 with rfl|rfl
   .exact .inl rfl
   .exact .inr (.inl rfl)
  refine H ls q.2.2.1 S (fs++[⟨f,d1++[.ls p its]⟩]) B e [.lf (.str "plain"),.lf (nV k),.lf (.str U),.ls b ([]++s.map λc=>It.lf (yV c)),.ls c ([]++js)] [] ah _ K (by have:=q.2.2.2;show 0+_<_;lia) (J _).2.2 λO ae Y=>?_;refine jw.fin fs f p B d1 its "plain" [.lf (nV k),.lf (.str U),.ls b ([]++s.map λc=>It.lf (yV c)),.ls c ([]++js),.ls e ([]++O)] rfl (.inl gf) Z (aa (.lf _) "end" ?_)
  show PV.tup [.str "plain",nV k,.str U,.tup (([]++s.map λc=>It.lf (yV c)).map It.cl),.tup (js.map It.cl),.tup (O.map It.cl)]=.tup [.str "plain",nV k,.str U,.tup (s.map yV),.tup (h.map Hd.pv),.tup (Ln.ik ls)];rw[Fo,ej,Y,Ln.d8]
 |part k n g =>
  show pW ((("draw":Str)::n::jb k)::g.map (lr "with")++dX) K _;rw[A8];refine jw.draw (n::jb k) [.str "part",nV k,.str n] 1 fs f p d1 its (.draw n k q.1.2 q.1.1) rfl Z λq0 pl=>?_;refine rT (S:=S) (xs:=[.str "part",nV k,.str n]) rfl g [] "draw" gf q.2.1 (by have:=q.2.2;show 0+_<_;lia) λag=>aa _ ag ?_
  rfl
 |give k n r ls =>
  show pW ((("give":Str)::n::(r.dw++jb k))::(Ln.d7 ls++[[("end":Str)]])++dX) K _;rw[A8,AI];refine jw.beg "give" (n::(r.dw++jb k)) [.str "give",nV k,.str n,r.pv] 1 (.give n r k q.1.2 q.2.1 q.1.1) gf (J _).1 (J _).2.1 λB ps L=>?_
  obtain⟨e,rfl⟩:∃e,ps=[e]:=by
   rcases ps with _|⟨b,_|⟨_,_⟩⟩
   .cases L
   .exact⟨b,rfl⟩
   .cases L
  refine H ls q.2.2.1 S (fs++[⟨f,d1++[.ls p its]⟩]) B e [.lf (.str "give"),.lf (nV k),.lf (.str n),.lf r.pv] [] "give" _ K (by have:=q.2.2.2;show 0+_<_;lia) (J _).2.2 λO ae Y=>?_;refine jw.fin fs f p B d1 its "give" [.lf (nV k),.lf (.str n),.lf r.pv,.ls e ([]++O)] rfl (.inl gf) Z (aa (.lf _) "end" ?_);show PV.tup [.str "give",nV k,.str n,r.pv,.tup (O.map It.cl)]=.tup [.str "give",nV k,.str n,r.pv,.tup (Ln.ik ls)]
  rw[Y,Ln.d8]
 |when r l1 l2 =>
  show pW ((("when":Str)::r.dw)::(Ln.d7 l1++([("else":Str)]::(Ln.d7 l2++[[("end":Str)]])))++dX) K _;rw[A8,AI,A8,AI];refine jw.beg "when" r.dw [.str "when",r.pv] 1 (.when r q.1) gf (J _).1 (J _).2.1 λB ps L=>?_
  obtain⟨e,rfl⟩:∃e,ps=[e]:=by
   rcases ps with _|⟨b,_|⟨_,_⟩⟩
   .cases L
   .exact⟨b,rfl⟩
   .cases L
  refine H l1 q.2.1.1 S (fs++[⟨f,d1++[.ls p its]⟩]) B e [.lf (.str "when"),.lf r.pv] [] "when" _ K (by have:=q.2.1.2;show 0+_<_;lia) (J _).2.2 λab af ai=>?_;refine jw.els (fs++[⟨f,d1++[.ls p its]⟩]) B e r.pv ([]++ab) rfl (J _).1 λe2=>?_;refine H l2 q.2.2.1 S (fs++[⟨f,d1++[.ls p its]⟩]) B e2 [.lf (.str "when"),.lf r.pv,.ls e ([]++ab)] [] "else" _ K (by have:=q.2.2.2;show 0+_<_;lia) (J _).2.2 λO ae Y=>?_
  refine jw.fin fs f p B d1 its "when" [.lf r.pv,.ls e ([]++ab),.ls e2 ([]++O)] rfl (.inr (by show 3≠2;decide)) Z (aa (.lf _) "end" ?_);show PV.tup [.str "when",r.pv,.tup (ab.map It.cl),.tup (O.map It.cl)]=.tup [.str "when",r.pv,.tup (Ln.ik l1),.tup (Ln.ik l2)];rw[ai,Y,Ln.d8,Ln.d8]
 |each n r ls =>
  show pW ((("each":Str)::n::r.dw)::(Ln.d7 ls++[[("end":Str)]])++dX) K _;rw[A8,AI];refine jw.beg "each" (n::r.dw) [.str "each",.str n,r.pv] 1 (.each n r q.1.2 q.1.1) gf (J _).1 (J _).2.1 λB ps L=>?_
  obtain⟨e,rfl⟩:∃e,ps=[e]:=by
   rcases ps with _|⟨b,_|⟨_,_⟩⟩
   .cases L
   .exact⟨b,rfl⟩
   .cases L
  refine H ls q.2.1 S (fs++[⟨f,d1++[.ls p its]⟩]) B e [.lf (.str "each"),.lf (.str n),.lf r.pv] [] "each" _ K (by have:=q.2.2;show 0+_<_;lia) (J _).2.2 λO ae Y=>?_;refine jw.fin fs f p B d1 its "each" [.lf (.str n),.lf r.pv,.ls e ([]++O)] rfl (.inl gf) Z (aa (.lf _) "end" ?_);show PV.tup [.str "each",.str n,r.pv,.tup (O.map It.cl)]=.tup [.str "each",.str n,r.pv,.tup (Ln.ik ls)]
  rw[Y,Ln.d8]
theorem Uc:∀d,TY d
 |0=>λl h=>by cases l<;>exact h.elim
 |d+1=>Ou (Fj (Uc d))
def lsR d:TX d:=Fj (Uc d)
def M8(s:List (Str×Int)):([]++s.map λc=>It.lf (nW c)).map It.cl=s.map nW:=by
 rw[BH,Aj]
 rfl
def v4(q:Eh x)S dX K(U:S.frs.length<=1)(Y:S.parts.length+S.frs.length<=10000)(ab:∀B:HS,B.h=S.h->B.parts=S.parts++S.frs.map Fr.cl->B.frs.map Fr.cl=[x.pv]->pW dX K B):pW (x.rows++dX) K S:=by
 delta Pt.rows
 rw[A8,AI,AI];refine jw.part x.name q.nm U Y λaa f b w l=>aR (fs:=[]) rfl x.first [] "part" (by grind) q.fs (by have:=q.fl;show 0+_<_;lia) λJ h1=>?_;refine wF (ss:=["part","box","work"]) (d1:=[.lf (.str x.name),.ls b ([]++x.first.map λc=>It.lf (nW c))]) gf gf (λc h1 h2=>.work c.1 c.2 h1 h2) rfl x.works [] J ?_ q.wk.1 (by have:=q.wk.2;show 0+_<_;lia) λL h2=>?_
 .grind
 refine lsR 12 x.ls q.ls (S.part aa f b w l x.name) [] f l [.lf (.str x.name),.ls b ([]++x.first.map λc=>It.lf (nW c)),.ls w ([]++x.works.map λc=>It.lf (yV c))] [] L dX K (by have:=q.ll;show 0+_<_;lia) Th λZ ae O=>?_;refine ab _ rfl rfl ?_;show[PV.tup [.str x.name,.tup (([]++x.first.map λc=>It.lf (nW c)).map It.cl),.tup (([]++x.works.map λc=>It.lf (yV c)).map It.cl),.tup (Z.map It.cl)]]=[.tup [.str x.name,.tup (x.first.map nW),.tup (x.works.map yV),.tup (Ln.ik x.ls)]]
 rw[M8,Fo,O,Ln.d8]
theorem Jn:∀J,(∀x∈J,Eh x)->∀S K,S.frs.length<=1->S.parts.length+S.frs.length+J.length<=10000->(∀B,B.h=S.h->B.parts++B.frs.map Fr.cl=S.parts++S.frs.map Fr.cl++J.map Pt.pv->B.frs.length<=1->((J=[]->B.frs.length=S.frs.length)/\(J≠[]->B.frs.length=1))->K B)->pW (gZ J) K S
 |[],_,S,K,L,_,q=>q S rfl (by grind) L ⟨λ_=>rfl,λh=>absurd rfl h⟩
 |x::J,O,S,K,L,hl,q=>by
  refine v4 (O x AL) S _ K L ir λB eh ep ef=>?_;have fl:B.frs.length=1:=by have:=A9 List.length ef;rwa[AA] at this
  refine Jn J (λy hy=>O y (AH _ hy)) B K ir (by grind) λU Y e2 Z e4=>q U (Y.trans eh) ?_ Z ⟨λz=>(by cases z),λ_=>?_⟩
  .grind
  .lia
section
variable{W:Wd}{a:Adr}
inductive Pg(a:Adr)(ts:List PV)(C:CH)(Q:K1):Prop
 |mk(r dx:Addr)(ws:List Str)(l:Int)(z0:ts=[.ref r,.str (gW ws),.int l])(z1:C r=some (.ins a.RowReader dx []))(zw:∀w∈ws,Wo w)(zn:ws≠[])(zl:ws.length<=100)(z3:∀wl C',C wl=none->wl≠r->Gr (cQ C r (vf a dx wl l 0)) C'->C' wl=some (.lst (ws.map PV.str))->Q .non C')
def Hj(T:Tx W a):Ok W a (k+1) 58 ["self","row","line"] (Pg a):=by
 refine(T.F 58 rfl).ok (λts C R h=>?_) λae A outer s H E af=>⟨_,(xQ (fM T.rQ T.aJ (cv 0) (Yz (cv 1) wQ))
  (xQ (fM T.rQ T.iL (cv 0) (cv 2))
  (kQ (fM T.rQ T.hZ (cv 0) jQ)))),?_⟩
 .obtain⟨_,_,_,_,rfl,_⟩:=h;rfl
 rintro ts C Q ⟨r,dx,ws,l,rfl,h,O,Y,U,aa⟩;have es:Txt.split (gW ws) " "=ws:=X0 Y λw h=>(O w h).nb;have ab:(gW ws).length<=1200:=by have:=vg O;lia
 refine⟨gW ws,rfl," ",rfl,gf,AK ab Th,AK (Kr _) (AK (show _<=1202 by lia) Th),by rw[es];exact AK U Th,λL J=>?_⟩;have B:L≠r:=λz=>by rw[z,h] at J;cases J
 apply aB ((yQ B.symm).trans h) Th
 apply aB zQ (by show 1<1000;decide)
 apply aB zQ (by show 2<1000;decide)
 rw[es];refine aa L _ J B (λb o e=>?_) ?_
 .by_cases q:b=r
  .subst q
   rw[zQ] at e
   rwa[zQ]
  .rw[yQ q] at e
   have Z:b≠L:=λz=>by rw[z,J] at e;cases e
   rwa[yQ q,yQ q,yQ q,yQ Z]
 .rw[yQ B,yQ B,yQ B,zQ]
inductive Uw(a:Adr)(ts:List PV)(C:CH)(Q:K1):Prop
 |mk(r dx:Addr)(z0:ts=[.ref r])(z1:C r=some (.ins a.HouseReader dx []))(z3:∀pp pa C',C pp=none->C pa=none->pp≠pa->Gr (cQ C r (j5 a dx pp pa "")) C'->C' pp=some (.lst [])->C' pa=some (.lst [])->Q .non C')
def Oa(T:Tx W a):Ok W a (k+1) 68 ["self"] (Uw a):=by
 refine(T.F 68 rfl).ok (λts C R h=>?_) λag A outer s H E ah=>⟨_,(xQ (fM T.tQ T.xV (cv 0) (oQ cX))
  (xQ (fM T.tQ T.qX (cv 0) (oQ cX))
  (kQ (fM T.tQ T.vV (cv 0) wQ)))),?_⟩
 .obtain⟨_,_,rfl,_⟩:=h;rfl
 rintro ts C Q ⟨r,dx,rfl,h,af⟩;refine⟨AF _,λO B=>?_⟩;have J:O≠r:=λz=>by rw[z,h] at B;cases B
 refine aB ((yQ J.symm).trans h) Th ⟨AF _,λZ aa=>?_⟩;obtain⟨L,h2⟩:=(nn aa);obtain⟨Y,U⟩:=nn h2
 apply aB ((yQ L.symm).trans zQ) (by show 1<1000;decide)
 apply aB zQ (by show 2<1000;decide)
 refine af O Z _ B U Y.symm (λb o e=>?_) ?_ ?_
 .by_cases q:b=r
  .subst q
   rw[zQ] at e
   rwa[zQ]
  .rw[yQ q] at e
   have ab:b≠O:=λz=>by rw[z,B] at e;cases e
   have ae:b≠Z:=λz=>by rw[z,U] at e;cases e
   rwa[yQ q,yQ q,yQ ae,yQ q,yQ ab]
 .rw[yQ J,yQ J,yQ Y.symm,yQ J,zQ]
 .rw[yQ L,yQ L,zQ]
inductive Uv(a:Adr)(ts:List PV)(C:CH)(Q:K1):Prop
 |mk(S:HS)(xs:List PV)(z0:ts=[.ref S.h])(z1:ig a C S)(z2:S.frs.length=1)(z3:S.parts++S.frs.map Fr.cl=xs)(z4:∀C',Gr C C'->Q (.tup xs) C')
def N8(T:Tx W a):Ok W a 7 69 ["self"] (Uv a):=by
 refine(T.F 69 rfl).ok (λts C R h=>?_) λae A outer s H E aa=>⟨_,(xQ (nQ (ct2 xY zV (gw T.tX (kJ T.tQ T.qX (cv 0))) jQ) (kQ (uQ jZ)) pQ)
  (kQ (uQ (qz T.xZ (uX jX xX (kJ T.tQ T.xV (cv 0)) (oQ (c7 (cf (T.F 25 rfl) (Jd T 4) aa (c7 (cx (kJ T.tQ T.qX (cv 0)) jQ)))))))))),?_⟩
 .obtain⟨_,_,rfl,_⟩:=h;rfl
 rintro ts C Q ⟨S,xs,rfl,h,O,ex,ab⟩
 obtain⟨q,B⟩:∃q,S.frs=[q]:=by
  rcases Y:S.frs with _|⟨q,_|⟨_,_⟩⟩
  .grind
  .lia
  .rw[Y] at O;cases O
 have J:=h.pa;rw[B] at J;refine yJ h.hr rfl (nK J (mQ (eQ _ _) (bQ rfl (fQ (yJ h.hr rfl (yJ h.hr rfl (tZ J rfl (Ga.mk (.ref q.f) q.cl rfl (Fr.clo (h.fr (by grind)) (h.ok q (by rw[B];simp))) λC1 L=>⟨jg,λp1 U=>lM (Gr.new U _ _ _ (L _ _ h.pp)) zQ (by have:=h.pl;exact AK (show S.parts.length+1<=20001 by lia) Th) λp2 Z=>eF zQ ?_⟩))))))));rw[show S.parts++[q.cl]=xs from by rw[<- ex,B];rfl]
 exact ab _ (L.trans ((Gr.new U _).trans (Gr.new Z _)))
end
end K15
namespace CL
open PySem PySem.Spec L2
open PyProof.Rows hiding St
def qw(K:DQ)(H:Hp)(e q:Addr)(fs:List (Str×PV)):Prop:=(∃B,R8 H e q B/\FP K H B fs)\/fs=[]/\H e=some (.ext (XO e q none))
section
variable{K:DQ}{H:Hp}{C:CH}{σ:St}{ρ:iT}{D:Ends}
def Ss{V n:Nat}{ca:o9}(s:fu K H σ ρ)(h:dj K H C)Z kX(af:ca ρ C λxs C1=>G xs C1 Z kX)(nx:∀v H2 t C2,Z t C2->Rep K H2 v t->dj K H2 C2->Fw H C H2 C2->fu K H2 σ ρ->D.nx (σ.set i (some v)) H2)(ex:∀q fs C2,kX q fs C2->PySem.W.exmOne K (.ref q) (.ref V)=some true/\∀e H2,qw K H2 e q fs->n<=e->dj K H2 C2->Fw H C H2 C2->fu K H2 σ ρ->ts (D.gone j) (σ.set j (some (.ref e))) H2):
  M9 K V n i j (Ub K G) [] (yK K (du K) ca) ts D σ H:=by
 refine⟨ρ,C,_,s,h,af,λvs H1 xs C1 g r h1 U=>⟨xs,C1,Z,kX,by rw[AM];exact r,h1,g,λv H2 t C2 k r2 h2 J=>?_,λq d H2 fs gs C2 k aa ae h2 J=>?_,λq H2 C2 k h2 J=>?_⟩⟩
 .have f:=U.trans J
  exact nx v H2 t C2 k r2 h2 f (s.dg (f.dg h))
 .obtain⟨L,O⟩:=ex q fs C2 k
  refine⟨q,rfl,L,λe B Y=>?_⟩;have f:=(U.trans J).trans (Fw.new B (.ext (XO e q (some d))));have ab:d≠e:=λz=>by rw[z,B] at aa;cases aa
  exact O e _ (.inl ⟨gs,⟨d,iQ,by rwa[pX ab]⟩,Paired.mapP ae λ_ _ z=>⟨z.1,z.2.dg (iu.new B _)⟩⟩) Y (h2.new B _) f (s.dg (f.dg h))
 .obtain⟨L,O⟩:=ex q [] C2 k
  refine⟨q,rfl,L,λe B Y=>?_⟩;have f:=(U.trans J).trans (Fw.new B (.ext (XO e q none)));exact O e _ (.inr ⟨rfl,iQ⟩) Y (h2.new B _) f (s.dg (f.dg h))
def qw.fld{B}(x:qw K H e B fs)(l:fs.lookup f=some t):∃q v,R8 H e B q/\q.lookup f=some v/\Rep K H v t:=by
 rcases x with ⟨q,x,O⟩|⟨rfl,_⟩
 .rcases O.look with ⟨v,t',L,J,r⟩|⟨_,z⟩
  .rw[l] at J;cases J
   exact⟨q,v,x,L,r⟩
  .lia
 .cases l
end
section
variable{K:DQ}{H H0:Hp}{C C0:CH}{σ:St}{ρ:iT}{D:Ends}{RX kX:XC}{E:XK}
def S7{B:jz}(s:fu K H σ ρ)(h:dj K H C)(f:Fw H0 C0 H C)k(q:B ρ C k)(Y:∀b C1 H',k b C1->fu K H' σ ρ->dj K H' C1->Fw H0 C0 H' C1->if b=true then u D σ H' else v D σ H'):tIfS (yK K sP B) u v D σ H:=by
 refine⟨ρ,C,_,s,h,q,?_⟩;rintro _ L b C1 U rfl O J;exact Y _ _ L U (s.dg (J.dg h)) O (f.trans J)
end
end CL
namespace K15
open PySem L2 CL
abbrev OkX(W:Wd)(a:Adr)(r i:Nat)(ps:List Str)(G:CL.GX):Prop:=FnOk W.P W.w W.K W.mg W.base (ph W.P W.w) r (a.f i) (a.d i) ps (CL.Ub W.K G)
structure XE(ws:List Str):Prop where
 ne:ws≠[]
 wo:∀w∈ws,Wo w
 l:ws.length<=100
section
variable{W:Wd}{a:Adr}
def Vv(h:d≠e):upd (upd (upd H d x) e y) d z=upd (upd H d z) e y:=by grind[iQ,pX]
def Ku(T:Tx W a):FnOk W.P W.w W.K W.mg W.base CX0 (k+1) (a.f 57) (a.d 57) ["self","line","word"] (Sw a.NoText ["line","word"]):=by
 refine Fun.SQ (T.F 57 rfl).F (T.F 57 rfl).s ?_ ?_
 .rintro vs H Q E ⟨e,J,rfl,B,_⟩
  rw[AD,AA,B];rfl
 .rintro U A outer s H vs Q E Y ⟨e,J,rfl,B,L,O,q⟩
  obtain⟨i,j,rfl⟩:∃i j,J=[i,j]:=by
   match J,B with
   |[i,j],_=>exact⟨i,j,rfl⟩
  refine⟨_,⟨gK (Z5 (Wb T.lE rfl T.QP (oM (qY (i:=0) rfl (Or.inl rfl)) (oM (wj (ur.cons QH (ur.cons (V9 (i:=1) (qY (i:=1) rfl (Or.inl rfl))) (ur.cons QH (ur.cons (V9 (i:=2) (qY (i:=2) rfl (Or.inl rfl))) ur.nil)))) Th) lU)))) (gK (G9 (qY (i:=0) rfl (Or.inl rfl)) (qY (i:=1) rfl (Or.inl rfl)) rfl) (cU (G8 (qY (i:=0) rfl (Or.inl rfl)) (qY (i:=2) rfl (Or.inl rfl)) rfl)))⟩,?_⟩
  refine⟨.ref e,rfl,⟨trivial,⟨.int i,rfl,rfl,i,rfl,L i ue⟩,trivial,⟨.int j,rfl,rfl,j,rfl,L j ue⟩,trivial⟩,λy=>⟨e,a.NoText,.str y,none,rfl,O,T.Vs,?_⟩⟩;refine⟨.int i,rfl,.ref e,rfl,e,a.NoText,rfl,O,T.pB,λd h1 h2=>⟨.int j,rfl,.ref e,rfl,e,a.NoText,d,[("line",.int i)],rfl,iQ,by rw[pX h2,iQ],T.fB,by show 1<1000;decide,?_⟩⟩;rw[Vv h2];exact q d h1 h2
def gRh(a:Adr):GX:=λts C R RX=>∃(B:Addr)(q:List Pt),ts=[.ref B]/\C B=some (.lst (jr (gZ q)))/\(q≠[]/\q.length<=1000/\(gZ q).length<=20000)/\(∀x∈q,Eh x/\Mh x)/\(∀ws∈gZ q,XE ws) /\
 (n6 q=true->∀C',Gr C C'->R (.tup (q.map Pt.pv)) C')/\(n6 q=false->∀C',Gr C C'->RX a.NoText [((("line":Str)),.int ((gZ q).length:Nat)),((("word":Str)),.int 0)] C')
def Nv(T:Tx W a):OkX W a 13 23 ["rows"] (gRh a):=by
 have S:=(T.F 23 rfl).s;have vB:=Oa (k:=10) T;have rM:=Hj (k:=10) T;have nF:=(Nx T).mono (show 8<=12 by decide);have zF:=(N8 T).mono (show 7<=12 by decide);have ZL:=N7 (k:=0) T;refine Fun.Zi (T.F 23 rfl).F S ?_ ?_
 .rintro vs H Q E ⟨ts,C,R,RX,r,h,⟨_,_,rfl,_⟩,f⟩
  rw[r.len];rfl
 .rintro bu A outer s H vs Q E ae ⟨ts,C,R,RX,r,hh,⟨af,B,rfl,m,⟨a5,a4,bz⟩,ax,a8,bh,qx⟩,f,fx⟩
  refine⟨_,gK (Qg (JS.h (CS.h (fj 1 S.nd (YC T.rC vB ae rfl T.mJ (T.F 68 rfl).b)))))
   (gK (Qg (JS.h (CS.h (Dh 0 2 3 PassesOwn.never rfl S.nd rfl T.Qk (cv 0) (kQ (kZ (cm T.tQ (T.F 70 rfl) T.mJ nF ae (cv 1) (c7 (Dq T.sA rM ae rfl T.bX (T.F 58 rfl).b vC (qQ (cv 3) (c7 (cv 2))))))))))))
   (gK (Qg (JS.h (CS.h (fj 4 S.nd (jy T.tQ (T.F 69 rfl) T.mJ zF ae (cv 1))))))
   (gK (V1 (PT.nox (JT.h (CT.h (dq (dN (ct2 zM nG (cv 4) jZ) (dm (vX (zX (cf (T.F 18 rfl) ZL ae (c7 (cv 4)))))))))) ) (cU (Km T.Kc T.Kb (Ku T) ae rfl T.QQ (T.F 57 rfl).b (Mi (JA.h (CA.h (qQ (gw T.tX (cv 0)) (qQ jQ cX))))))) vA)
   (cU (Qg (JS.h (CS.h (uQ (cv 4))))))))),?_⟩
  have bj:fu W.K H (start ["rows","reader","line","row","house"] vs) [some (.ref af),none,none,none,none]:=lN r;refine Ki bj hh (λai C'=>∃h0 aa Z Y,C h0=none/\ai=[some (.ref af),some (.ref h0),none,none,none]/\ig a C' ⟨h0,aa,Z,Y,[],[],""⟩/\Gr C C'/\C Z=none/\C Y=none) ?_ ?_
  .refine λh0 aa aj bw b0=>Uw.mk h0 aa rfl zQ λZ Y C1 a7 a6 bc av bb ba=>⟨rfl,?_⟩
   obtain⟨bg,ar⟩:=(nn a7);obtain⟨bf,aq⟩:=nn a6;refine⟨h0,aa,Z,Y,aj,rfl,?_,?_,ar,aq⟩
   .refine⟨λc hc=>?_,?_,(λT hT=>by cases hT),AF _,AF _⟩
    .simp only[HS.cells,List.flatMap_nil,List.map_nil,List.mem_cons,List.not_mem_nil,or_false] at hc
     rcases hc with rfl|rfl|rfl
     .exact av _ _ zQ
     .exact bb
     .exact ba
    .delta Dj HS.cells
     simp[bg.symm,bf.symm,bc]
   .exact λb o e=>by
     have ah:=zZ aj e;exact av _ _ ((yQ ah).trans ((yQ ah).trans e))
  rintro b5 H1 b3 C1 ⟨h0,aa,Z,Y,aj,rfl,bp,a3,ar,aq⟩ s1 h1 az;have st:pW (gZ B) (λS=>S.h=h0/\S.parts++S.frs.map Fr.cl=B.map Pt.pv/\S.frs.length=1) ⟨h0,aa,Z,Y,[],[],""⟩:=Jn B (λx q=>(ax x q).1) _ _ (AF _) (by show 0+0+_<=_;lia) λS' e1 e2 e3 e4=>⟨e1,e2,e4.2 a5⟩;refine Ki s1 h1 (λai C'=>∃S L O,ai=[some (.ref af),some (.ref h0),L,O,none]/\ig a C' S/\(S.h=h0/\S.parts++S.frs.map Fr.cl=B.map Pt.pv/\S.frs.length=1)/\Gr C C') ?_ ?_
  .refine⟨af,jr (gZ B),λi ρ C'=>∃S L O,ρ=[some (.ref af),some (.ref h0),L,O,none]/\ig a C' S/\S.h=h0/\pW ((gZ B).drop i) (λS=>S.h=h0/\S.parts++S.frs.map Fr.cl=B.map Pt.pv/\S.frs.length=1) S/\Gr C C'/\∀b o,C b=some o->b∉(S.cells a).map (·.1),rfl,?_,⟨_,_,_,rfl,bp,rfl,st,a3,λb o e hb=>?_⟩,?_,?_⟩
   .rintro i ρ C' ⟨S,L,O,rfl,_,_,_,g,_⟩
    exact g _ _ m
   .have aw:b∈[h0,Z,Y]:=hb
    simp only[List.mem_cons,List.not_mem_nil,or_false] at aw
    rcases aw with rfl|rfl|rfl
    .rw[aj] at e;cases e
    .rw[ar] at e;cases e
    .rw[aq] at e;cases e
   .rintro i x ρ C2 q ⟨S,L,O,rfl,J,eh,ag,U,ao⟩
    delta jr at q
    rw[Ag] at q
    cases ew:(gZ B)[i]? with
    |none=>rw[ew] at q;cases q
    |some ws =>
     rw[ew] at q;cases q;have hi:=(Aa.1 ew).1
     have ed:(gZ B).drop i=ws::(gZ B).drop (i+1):=by
      rw[Az hi]
      congr 1
      exact(Aa.1 ew).2
     rw[ed] at ag;have ak:=a8 ws (Ak ew);subst eh;refine⟨gX J.hr rfl,λx dx q bx b1=>Pg.mk x dx ws i rfl zQ ak.wo ak.ne ak.l λbr C3 a9 b2 ab mw=>⟨rfl,?_⟩⟩
     have gx:Gr C2 C3:=λb o e=>by
      have ah:=zZ q e;exact ab _ _ ((yQ ah).trans ((yQ ah).trans e))
     obtain⟨_,bt⟩:=nn a9;refine Uj.mk S ⟨x,dx,br,ws,i⟩ _ rfl (J.gr gx) ⟨⟨ab _ _ zQ,mw,AK ak.l Th⟩,J.ho.fresh q,J.ho.fresh bt⟩ ag λC4 S' ks eh bq ex=>?_;refine⟨S',_,_,by rw[<- eh];rfl,bq,eh,ks,λb o e=>?_,λb o e=>?_⟩
     .exact(ex b o (gx _ _ (U _ _ e)) (ao b o e) (zZ q (U _ _ e))).1
     .exact(ex b o (gx _ _ (U _ _ e)) (ao b o e) (zZ q (U _ _ e))).2
   .rintro ρ C2 ⟨S,L,O,rfl,J,eh,ag,U,ao⟩
    delta jr at ag
    rw[AA,Ca] at ag;exact⟨S,L,O,rfl,J,ag,U⟩
  rintro b6 H2 b4 C2 ⟨S,L,O,rfl,J,⟨rfl,e2,e3⟩,U⟩ bo h2 a0;refine Ki bo h2 (λai C'=>ai=[some (.ref af),some (.ref S.h),L,O,some (.tup (B.map Pt.pv))]/\Gr C C') ?_ ?_
  .exact⟨gX J.hr rfl,Uv.mk S (B.map Pt.pv) rfl J e3 e2 λC3 ab=>⟨rfl,U.trans ab⟩⟩
  rintro b7 H3 _ C3 ⟨rfl,ab⟩ bl h3 f3;refine S7 bl h3 ((az.trans a0).trans f3) (λb C4=>b = !n6 B/\Gr C C4) ?_ ?_
  .exact Uu.mk B rfl (λx q=>(ax x q).2) a4 λC4 g4=>(⟨rfl,ab.trans g4⟩:_/\_)
  rintro _ C4 H4 ⟨rfl,g4⟩ ay h4 au;refine O5 (λe=>?_) λe=>?_
  .have k:=qx (by simpa using e) C4 g4
   refine G5 Th ay h4 au fx (nK (g4 _ _ m) ⟨[((jr (gZ B)).length:Nat),0],rfl,rfl,?_,?_⟩)
   .rw[pU]
    intro i hi
    simp only[List.mem_cons,List.not_mem_nil,or_false] at hi
    rcases hi with rfl|rfl<;>lia
   .rwa[pU]
  .exact Nf ay h4 R (bh (by simpa using e) C4 g4) λv' H' t' C' k r' h' f'=>f v' H' t' C' k r' h' (au.trans f')
end
theorem uR:∀l:List Nat,(l.filter λc=>!f c).isEmpty=l.all f
 |[]=>rfl
 |c::l=>by
  rw[List.filter_cons,BS,<- uR l];cases f c<;>rfl
abbrev ABC:Str:="abcdefghijklmnopqrstuvwxyz"
section
variable{W:Wd}{a:Adr}
theorem dR:∀(cs:List Nat)B C,Gr C0 C->B.length+cs.length<=sizeLine->(∀p C',C0 p=none->Gr C0 C'->C' p=some (.lst (B++(cs.filter λc=>!wD c).map λc=>PV.str ⟨#[c]⟩))->Q (.ref p) C') ->
  rJ (gE (nj Xv (zK 0) (cC (.str ABC)))) (zK 0) ρ Q (cs.map λc=>PV.str ⟨#[c]⟩) B C
 |[],B,C,g,_,q=>cR λp L=>q p _ (bZ g L) (g.trans (Gr.new L _)) (by rw[zQ];simp)
 |c::cs,B,C,g,O,q=>by
  rw[AD] at O;refine sL (HD ?_);show yL _ (.bl (!wD c)) C
  cases e:wD c with
  |false =>
   refine eX rfl ⟨by lia,dR cs _ C g (by grind) λp C' h1 h2 J=>q p C' h1 h2 ?_⟩;rw[J,List.filter_cons,e]
   simp
  |true =>
   refine bQ rfl (dR cs _ C g ir λp C' h1 h2 J=>q p C' h1 h2 ?_);rw[J,List.filter_cons,e]
   simp
inductive gM(ts:List PV)(C:CH)(Q:K1):Prop
 |mk(z:Str)(z0:ts=[.str z])(zn:qZ z=true)(z1:∀C',Gr C C'->Q (.bl true) C')
def gC(T:Tx W a):Ok W a (k+1) 31 ["_law_thing"] gM:=by
 have S:=(T.F 31 rfl).s
 refine(T.F 31 rfl).ok (λts C R h=>?_) λaa A outer s H E Y=>⟨_,(xQ (nQ (dq (dN (vX (zX (aQ sQ nX rfl T.lQ rfl (qQ (cv 0) (c7 (oZ rfl T.mB rfl)))))) (dN (ct2 xF qU (gw T.tX (cv 0)) jQ) (dm (ct2 oW eK (gw T.tX (cv 0)) jQ))))) (kQ (uQ sX)) pQ)
  (kQ (uQ (qJ (Wu (vI Y)) KW (sZ rfl (S.c gf) (S.k (L:=0) rfl rfl rfl gf) (Zy (cv 0)) (λ_ _ _ _ _=>(Zz (xJ cA Zt (cv 0) wQ rfl))) (λ_ _ _ _ _=>(cv 0))) (oQ cX) (lJ _))))),?_⟩
 .obtain⟨_,rfl,_⟩:=h;rfl
 rintro ts C R ⟨z,rfl,B,q⟩;have J:z.length<=sizeLine:=AK (Oq B) Th
 delta qZ at B
 rw[Aq,Aq] at B;have h1:=Af B.1.1;have h8:=Af B.1.2;refine wX rfl rfl (lX (Jf J (gk (bQ (AW (by omega)) (Jf J (gk (bQ (AW (by omega)) (fQ ?_))))))));refine dR z.cps.toList [] C Gr.refl (by rwa[A0,BV,Bv]) λp C1 _ U Z=>?_;refine⟨Th,λp2 O=>zr (Gr.new O _ _ _ Z) zQ ?_⟩
 have e:([]++(z.cps.toList.filter λc=>!wD c).map λc=>PV.str ⟨#[c]⟩).isEmpty=true:=by
  rw[BH,List.isEmpty_map,uR];exact B.2
 exact e▸q _ (U.trans (Gr.new O _))
inductive Yb(ts:List PV)(C:CH)(Q:K1):Prop
 |mk(i:Int)(z0:ts=[.int i])(zb:Bd i)(z1:Q (.bl true) C)
def X7(T:Tx W a):Ok W a (k+1) 32 ["_law_thing"] Yb:=by
 have S:=(T.F 32 rfl).s;refine(T.F 32 rfl).ok (λts C R h=>?_) λJ A outer s H E L=>⟨_,(kQ (uQ (cV (aQ sQ nX rfl T.lQ rfl (qQ (cv 0) (c7 (oZ rfl T.bT rfl)))) (cV (YA (aQ sQ nX rfl T.lQ rfl (qQ (cv 0) (c7 (oZ rfl T.wN rfl))))) (pV (Xs bG bG iV iV (eW tK sJ (uX bA tH jQ jQ)) (cv 0) (uX bA tH jQ jQ))))))),?_⟩
 .obtain⟨_,rfl,_⟩:=h;rfl
 rintro ts C R ⟨i,rfl,B,q⟩;refine wX rfl rfl (wX rfl rfl ⟨⟨Th,Th,Th⟩,gk ?_⟩);refine eX (AU B.1) ⟨⟨Th,Th,Th⟩,gk ?_⟩;show R (.bl (decide (i<=1000000000))) C
 rwa[AU B.2]
inductive Td(ts:List PV)(C:CH)(Q:K1):Prop
 |mk(r:Rk)(z0:ts=[r.pv])(zg:r.gd)(zs:r.sz<=100)(z1:∀fs:List Rk,fs.length=r.sz->(∀x∈fs,x.gd)->(∀bs τ,fs.all (Rk.lf bs τ)=r.fits bs τ)->gH C (fs.map Rk.pv) Q)
def nJ(m:C p=some (.dK []))(e:Nk ts=some ps)(h:ps.length<=15)(q:Q (.ref p) (cQ C p (.dK (jK [] ps)))):qN p ts C Q:=by simp_all [qN]
def qe(B:C p=none)o o':Gr C (cQ (cQ C p o) p o'):=λb u q=>(yQ (zZ B q)).trans ((yQ (zZ B q)).trans q)
def Ez(T:Tx W a){k:Nat}:Ok W a (k+2) 33 ["_law_thing"] Td:=by
 have S:=(T.F 33 rfl).s;have uV:=X7 (k:=k) T;have vJ:=gC (k:=k) T
 refine(T.F 33 rfl).ok (λts C R h=>?_) λay A outer s H E af=>⟨_,(xQ (fj 1 S.nd (oQ (c7 (cv 0))))
  (xQ (fj 2 S.nd (oQ cX))
  (xQ (lY PassesOwn.never (ct2 (wC (vI af)) rL (cv 1) (oQ cX)) (xQ (fj 3 S.nd (dM Ae BE BD kM sG (cv 1)))
  (xQ (kZ (cap (cv 2) (cv 3)))
  (xQ (nQ (dq (dN (vX (zX (aQ sQ nX rfl T.lQ rfl (qQ (cv 3) (c7 (oZ (n:="tuple") rfl T.xZ rfl)))))) (dN (ct2 xF qU (gw T.tX (cv 3)) jQ) (dm (vX (zX (aQ sQ nX rfl T.lQ rfl (qQ (cx (cv 3) jQ) (c7 (oZ (n:="str") rfl T.mB rfl)))))))))) (kQ (uQ jZ)) pQ)
  (xQ (fj 4 S.nd (Xr (dG af) (JR (aV wQ jQ (aV wQ jQ (aV wQ jQ (aV wQ jQ JH))))) (cx (cv 3) jQ) jQ))
  (xQ (nQ (ct2 xY zV (gw T.tX (cv 3)) (cv 4)) (kQ (uQ jZ)) pQ)
  (kQ (nQ (ct2 oW eK (cv 4) jQ) (kQ (kZ (rD Ae BR BQ (λp s σ H x vs v us Q=>Za p s σ H x vs v us Q) Xn (cv 1) (c7 (eL (cv 3) (oJ jQ) uK))))) (kQ (nQ (ct2 rX yX (cx (cv 3) jQ) wQ) (kQ (nQ (vX (zX (cf (T.F 32 rfl) uV af (c7 (cx (cv 3) jQ))))) (kQ (uQ jZ)) pQ)) (kQ (nQ (dq (dN (xJ eZ dJ (cx (cv 3) jQ) (dQ (qQ wQ (qQ wQ (qQ wQ (c7 wQ))))) rfl) (dm (vX (zX (cf (T.F 31 rfl) vJ af (c7 (cx (cv 3) jQ)))))))) (kQ (uQ jZ)) pQ))))))))))))
  (kQ (uQ (cv 2)))))),?_⟩
 .obtain⟨_,rfl,_⟩:=h;rfl
 rintro ts C R ⟨r,rfl,av,hs,ax⟩;refine⟨jg,λp hp=>?_⟩;dsimp only[di.wn];refine⟨AF _,λp2 aj=>?_⟩;dsimp only[di.wn];obtain⟨n2,ak⟩:=nn aj;refine mZ (λao C'=>∃(fs:List Rk)(x3 x4:Option PV),ao=[some r.pv,some (.ref p),some (.ref p2),x3,x4]/\C' p2=some (.lst (fs.map Rk.pv))/\fs.length=r.sz/\(∀x∈fs,x.gd)/\(∀bs O,fs.all (Rk.lf bs O)=r.fits bs O)/\Gr C C') (λL hL=>?_) ?_
 .refine⟨r.sz+1,yG (λn ρ C'=>∃(ab fs:List Rk)(x3 x4:Option PV),n=kj ab/\(fs.length+kj ab=r.sz/\(∀x∈fs,x.gd)/\(∀x∈ab,x.gd)/\∀bs O,(fs.all (Rk.lf bs O)&&ab.all (Rk.fits bs O))=r.fits bs O)/\ρ=[some r.pv,some (.ref p),some (.ref p2),x3,x4]/\C' p=some (.lst (ab.map Rk.pv))/\C' p2=some (.lst (fs.map Rk.pv))/\Gr C C') ?_ _ r.sz _ _ (A3 _) ⟨[r],[],_,_,by show _=r.sz+0;lia,⟨by show 0+(r.sz+0)=_;lia,λx Z=>(by cases Z),λx Z=>by rw[AR.1 Z];exact av,λbs O=>by simp⟩,rfl,(yQ n2.symm).trans zQ,zQ,(Gr.new hp _).trans (Gr.new aj _)⟩⟩
  rintro n ρ C1 L1 ⟨ab,fs,x3,x4,rfl,⟨ec,ah,ai,ag⟩,rfl,m,m2,g⟩ ar;refine⟨AF _,λp3 ae=>nA (Gr.new ae _ _ _ m) zQ ?_⟩;have m:=Gr.new ae (.lst []) _ _ m;have m2:=Gr.new ae (.lst []) _ _ m2;have g:=g.trans (Gr.new ae (.lst []));generalize cQ C1 p3 (.lst [])=C2 at *
  rcases ab.eq_nil_or_concat with rfl|⟨ys,x,rfl⟩
  .exact bQ rfl (hL _ _ ⟨fs,_,_,rfl,m2,by have:fs.length+0=r.sz:=ec;lia,ah,λbs O=>by rw[<- ag];simp,g⟩)
  rw[Bc] at *
  rw[gV,show kj [x]=x.sz from An _] at ec;rw[AG] at m ⊢;refine eX (by cases h:ys.map Rk.pv<;>rfl) ?_;refine⟨lZ m,uP m (y:=x.pv) ue ?_⟩;rw[show(ys.map Rk.pv++[x].map Rk.pv).dropLast=ys.map Rk.pv from BL];dsimp only[di.wn];have m3:cQ C2 p (.lst (ys.map Rk.pv)) p=some (.lst (ys.map Rk.pv)):=zQ;have m4:cQ C2 p (.lst (ys.map Rk.pv)) p2=some (.lst (fs.map Rk.pv)):=(yQ n2).trans m2
  have aq:Gr C (cQ C2 p (.lst (ys.map Rk.pv))):=λb o B=>(yQ (zZ hp B)).trans (g _ _ B);generalize cQ C2 p (.lst (ys.map Rk.pv))=C3 at *
  have Z:=ai x ue;have ei:=x.lq;have yl:=sM ys;have il:=sM x.ins;refine⟨lZ m4,bK m4 (by rw[AA];exact AE (show _<1000 by lia) Th) ?_⟩;have Y:cQ C3 p2 (.lst (fs.map Rk.pv++[x.pv])) p=some (.lst (ys.map Rk.pv)):=(yQ n2.symm).trans m3;have m6:cQ C3 p2 (.lst (fs.map Rk.pv++[x.pv])) p2=some (.lst ((fs++[x]).map Rk.pv)):=by rw[zQ,AG];rfl
  have g5:Gr C (cQ C3 p2 (.lst (fs.map Rk.pv++[x.pv]))):=λb o B=>(yQ (zZ ak B)).trans (aq _ _ B);generalize cQ C3 p2 (.lst (fs.map Rk.pv++[x.pv]))=C4 at *
  have au:∀bs O,((fs++[x]).all (Rk.lf bs O)&&(ys++x.ins).all (Rk.fits bs O))=r.fits bs O:=λbs O=>by
   rw[<- ag]
   simp only[List.all_append,List.all_cons,List.all_nil,Bool.and_true]
   rw[Rk.o4 bs O x];cases fs.all (Rk.lf bs O)<;>cases x.lf bs O<;>cases ys.all (Rk.fits bs O)<;>simp
  have aa:∀C' x4,Gr C C'->C' p=some (.lst ((ys++x.ins).map Rk.pv))->C' p2=some (.lst ((fs++[x]).map Rk.pv))->L1 [some r.pv,some (.ref p),some (.ref p2),some x.pv,x4] C':=λC' x4 g' e1 e2=>by
   refine ar (kj (ys++x.ins)) _ _ (by rw[gV,gV,show kj [x]=x.sz from An _];lia) ⟨ys++x.ins,fs++[x],_,_,rfl,⟨by rw[gV,AB];show _+1+_=_;lia,λy hy=>?_,λy hy=>?_,au⟩,rfl,e1,e2,g'⟩
   .rcases AY.1 hy with h|h
    .exact ah y h
    .rw[AR.1 h];exact Z
   .rcases AY.1 hy with h|h
    .exact ai y (Ap _ h)
    .exact Rk.my Z y h
  cases x with
  |num i =>
   refine wX rfl rfl (lX (mX (gk (bQ (by rfl) (gQ rfl (wX rfl rfl (lX (fQ ?_))))))));refine λpd J=>nJ zQ rfl Th ⟨oV zQ,gQ rfl (eV zQ rfl (v:=.int 2) rfl ?_)⟩;dsimp only[di.wn];refine mX (mQ (eQ _ _) (bQ rfl (fQ (gk ?_))));have q:=qe J (.dK []) (.dK (jK [] [(Sum.inr "add",.int 3),(Sum.inr "times",.int 3),(Sum.inr "less",.int 3),(Sum.inr "pick",.int 4)]));refine bQ rfl (gQ rfl ((gj (gQ rfl (Yb.mk i rfl Z (lX (fQ ?_)))))))
   exact aa _ _ (g5.trans q) (by show _=some (CO.lst ((ys++[]).map Rk.pv));rw[AM];exact q _ _ Y) (q _ _ m6)
  |turn n =>
   refine wX rfl rfl (lX (mX (gk (bQ (by rfl) (gQ rfl (wX rfl rfl (lX (fQ ?_))))))));refine λpd J=>nJ zQ rfl Th ⟨oV zQ,gQ rfl (eV zQ rfl (v:=.int 2) rfl ?_)⟩;dsimp only[di.wn];refine mX (mQ (eQ _ _) (bQ rfl (fQ (gk ?_))));have q:=qe J (.dK []) (.dK (jK [] [(Sum.inr "add",.int 3),(Sum.inr "times",.int 3),(Sum.inr "less",.int 3),(Sum.inr "pick",.int 4)]));refine bQ rfl (gQ rfl ((dh (gQ rfl ?_))))
   refine⟨j4,Q1 (ss:=["take","box","down","turn"]) rfl gf (bQ rfl (gQ rfl (gM.mk n rfl Z λC6 U=>lX (fQ ?_))))⟩;exact aa _ _ (g5.trans (q.trans U)) (by show _=some (CO.lst ((ys++[]).map Rk.pv));rw[AM];exact U _ _ (q _ _ Y)) (U _ _ (q _ _ m6))
  |ask s n =>
   obtain⟨aw,hn⟩:=Z
   rcases aw with rfl|rfl|rfl
   .refine wX rfl rfl (lX (mX (gk (bQ (by rfl) (gQ rfl (wX rfl rfl (lX (fQ ?_))))))))
    refine λpd J=>nJ zQ rfl Th ⟨oV zQ,gQ rfl (eV zQ rfl (v:=.int 2) rfl ?_)⟩;dsimp only[di.wn];refine mX (mQ (eQ _ _) (bQ rfl (fQ (gk ?_))));have q:=qe J (.dK []) (.dK (jK [] [(Sum.inr "add",.int 3),(Sum.inr "times",.int 3),(Sum.inr "less",.int 3),(Sum.inr "pick",.int 4)]));refine bQ rfl (gQ rfl ((dh (gQ rfl ?_))));refine⟨j4,Q1 (ss:=["take","box","down","turn"]) rfl gf (bQ rfl (gQ rfl (gM.mk n rfl hn λC6 U=>lX (fQ ?_))))⟩
    exact aa _ _ (g5.trans (q.trans U)) (by show _=some (CO.lst ((ys++[]).map Rk.pv));rw[AM];exact U _ _ (q _ _ Y)) (U _ _ (q _ _ m6))
   .refine wX rfl rfl (lX (mX (gk (bQ (by rfl) (gQ rfl (wX rfl rfl (lX (fQ ?_))))))))
    refine λpd J=>nJ zQ rfl Th ⟨oV zQ,gQ rfl (eV zQ rfl (v:=.int 2) rfl ?_)⟩;dsimp only[di.wn];refine mX (mQ (eQ _ _) (bQ rfl (fQ (gk ?_))));have q:=qe J (.dK []) (.dK (jK [] [(Sum.inr "add",.int 3),(Sum.inr "times",.int 3),(Sum.inr "less",.int 3),(Sum.inr "pick",.int 4)]));refine bQ rfl (gQ rfl ((dh (gQ rfl ?_))));refine⟨j4,Q1 (ss:=["take","box","down","turn"]) rfl gf (bQ rfl (gQ rfl (gM.mk n rfl hn λC6 U=>lX (fQ ?_))))⟩
    exact aa _ _ (g5.trans (q.trans U)) (by show _=some (CO.lst ((ys++[]).map Rk.pv));rw[AM];exact U _ _ (q _ _ Y)) (U _ _ (q _ _ m6))
   .refine wX rfl rfl (lX (mX (gk (bQ (by rfl) (gQ rfl (wX rfl rfl (lX (fQ ?_))))))))
    refine λpd J=>nJ zQ rfl Th ⟨oV zQ,gQ rfl (eV zQ rfl (v:=.int 2) rfl ?_)⟩;dsimp only[di.wn];refine mX (mQ (eQ _ _) (bQ rfl (fQ (gk ?_))));have q:=qe J (.dK []) (.dK (jK [] [(Sum.inr "add",.int 3),(Sum.inr "times",.int 3),(Sum.inr "less",.int 3),(Sum.inr "pick",.int 4)]));refine bQ rfl (gQ rfl ((dh (gQ rfl ?_))));refine⟨j4,Q1 (ss:=["take","box","down","turn"]) rfl gf (bQ rfl (gQ rfl (gM.mk n rfl hn λC6 U=>lX (fQ ?_))))⟩
    exact aa _ _ (g5.trans (q.trans U)) (by show _=some (CO.lst ((ys++[]).map Rk.pv));rw[AM];exact U _ _ (q _ _ Y)) (U _ _ (q _ _ m6))
  |bin w y z =>
   rcases Z.1 with rfl|rfl|rfl
   .refine wX rfl rfl (lX (mX (gk (bQ (by rfl) (gQ rfl (wX rfl rfl (lX (fQ ?_))))))))
    refine λpd J=>nJ zQ rfl Th ⟨oV zQ,gQ rfl (eV zQ rfl (v:=.int 3) rfl ?_)⟩;dsimp only[di.wn];refine mX (mQ (eQ _ _) (bQ rfl (fQ (gk ?_))));have q:=qe J (.dK []) (.dK (jK [] [(Sum.inr "add",.int 3),(Sum.inr "times",.int 3),(Sum.inr "less",.int 3),(Sum.inr "pick",.int 4)]));refine eX rfl ⟨lZ (q _ _ Y),iF ⟨p,ys.map Rk.pv,[y.pv,z.pv],rfl,rfl,q _ _ Y,?_,?_⟩⟩
    .rw[AA];exact AK (show _<=1000 by show ys.length+2<=1000;lia) Th
    .exact aa _ _ (λb o B=>(yQ (zZ hp B)).trans ((g5.trans q) _ _ B)) (by rw[zQ,AG];rfl) ((yQ n2).trans (q _ _ m6))
   .refine wX rfl rfl (lX (mX (gk (bQ (by rfl) (gQ rfl (wX rfl rfl (lX (fQ ?_))))))))
    refine λpd J=>nJ zQ rfl Th ⟨oV zQ,gQ rfl (eV zQ rfl (v:=.int 3) rfl ?_)⟩;dsimp only[di.wn];refine mX (mQ (eQ _ _) (bQ rfl (fQ (gk ?_))));have q:=qe J (.dK []) (.dK (jK [] [(Sum.inr "add",.int 3),(Sum.inr "times",.int 3),(Sum.inr "less",.int 3),(Sum.inr "pick",.int 4)]));refine eX rfl ⟨lZ (q _ _ Y),iF ⟨p,ys.map Rk.pv,[y.pv,z.pv],rfl,rfl,q _ _ Y,?_,?_⟩⟩
    .rw[AA];exact AK (show _<=1000 by show ys.length+2<=1000;lia) Th
    .exact aa _ _ (λb o B=>(yQ (zZ hp B)).trans ((g5.trans q) _ _ B)) (by rw[zQ,AG];rfl) ((yQ n2).trans (q _ _ m6))
   .refine wX rfl rfl (lX (mX (gk (bQ (by rfl) (gQ rfl (wX rfl rfl (lX (fQ ?_))))))))
    refine λpd J=>nJ zQ rfl Th ⟨oV zQ,gQ rfl (eV zQ rfl (v:=.int 3) rfl ?_)⟩;dsimp only[di.wn];refine mX (mQ (eQ _ _) (bQ rfl (fQ (gk ?_))));have q:=qe J (.dK []) (.dK (jK [] [(Sum.inr "add",.int 3),(Sum.inr "times",.int 3),(Sum.inr "less",.int 3),(Sum.inr "pick",.int 4)]));refine eX rfl ⟨lZ (q _ _ Y),iF ⟨p,ys.map Rk.pv,[y.pv,z.pv],rfl,rfl,q _ _ Y,?_,?_⟩⟩
    .rw[AA];exact AK (show _<=1000 by show ys.length+2<=1000;lia) Th
    .exact aa _ _ (λb o B=>(yQ (zZ hp B)).trans ((g5.trans q) _ _ B)) (by rw[zQ,AG];rfl) ((yQ n2).trans (q _ _ m6))
  |pick y z v =>
   refine wX rfl rfl (lX (mX (gk (bQ (by rfl) (gQ rfl (wX rfl rfl (lX (fQ ?_))))))));refine λpd J=>nJ zQ rfl Th ⟨oV zQ,gQ rfl (eV zQ rfl (v:=.int 4) rfl ?_)⟩;dsimp only[di.wn];refine mX (mQ (eQ _ _) (bQ rfl (fQ (gk ?_))));have q:=qe J (.dK []) (.dK (jK [] [(Sum.inr "add",.int 3),(Sum.inr "times",.int 3),(Sum.inr "less",.int 3),(Sum.inr "pick",.int 4)]));refine eX rfl ⟨lZ (q _ _ Y),iF ⟨p,ys.map Rk.pv,[y.pv,z.pv,v.pv],rfl,rfl,q _ _ Y,?_,?_⟩⟩
   .rw[AA];exact AK (show _<=1000 by show ys.length+3<=1000;lia) Th
   .exact aa _ _ (λb o B=>(yQ (zZ hp B)).trans ((g5.trans q) _ _ B)) (by rw[zQ,AG];rfl) ((yQ n2).trans (q _ _ m6))
 .rintro ao C' ⟨fs,x3,x4,rfl,m,h1,h2,h3,g⟩
  exact ax fs h1 h2 h3 p2 C' ak g m
end
theorem aT xs(I:Nat->iT->CH->Prop)(J:∀k ρ C,I k ρ C->C a=some (.lst xs))(O:∀k ρ C x,xs[k]?=some x->I k ρ C->∀L:iT->CH->Prop,(∀q C',I (k+1) q C'->L q C')->g x ρ C λY C1=>u (E.lp L) Y C1)(U:∀ρ C,I xs.length ρ C->E.nx ρ C):∀n k ρ C,xs.length<n+k->k<=xs.length->I k ρ C->cM a g u E n k ρ C
 |0,k,ρ,C,h1,h2,_=>absurd h1 ir
 |n+1,k,ρ,C,h1,h2,h=>by
  unfold cM;rw[J k ρ C h];dsimp only
  by_cases B:k<xs.length
  .rw[AJ B]
   exact O k ρ C _ (AJ B) h _ λq C' h'=>aT xs I J O U n (k+1) q C' ir B h'
  .grind
def VM{ss:List Str}(m:C p=some (.lst (ss.map PV.str))):oN C (.ref p)=some (ss.map PV.str):=by
 show(match C p with|some (.lst xs)=>some xs|_=>none)=_;rw[m]
def Vz{q:Type}{f}{xs:List q}{x}(h:xs[k]?=some x):(xs.take (k+1)).all f=((xs.take k).all f&&f x):=by simp_all[List.take_add_one]
def Ma{q:Type}{f}{xs:List q}{k:Nat}{x}(h:xs[k]?=some x)(e:f x=false):xs.all f=false:=by grind
section
variable{W:Wd}{a:Adr}
inductive Ur(ts:List PV)(C:CH)(Q:K1):Prop
 |mk(r:Rk)(z0:ts=[r.pv])(zg:r.gd)(zs:r.sz<=100)(z1:∀C',Gr C C'->Q (.bl (decide (r.sz<=20))) C')
def Ho(T:Tx W a):Ok W a (k+3) 34 ["_law_thing"] Ur:=by
 have L:=Ez (k:=k) T
 refine(T.F 34 rfl).ok (λts C R h=>?_) λO A outer s H E J=>⟨_,(xQ (fj 1 ((T.F 34 rfl).s).nd (cf (T.F 33 rfl) L J (c7 (cv 0))))
  (kQ (uQ (cV (qJ fA pR (cv 1) jZ (lJ _)) (pV (qJ bG iV (gw T.tX (cv 1)) jQ (lJ _))))))),?_⟩
 .obtain⟨_,rfl,_⟩:=h;rfl
 rintro ts C R ⟨r,rfl,B,hs,q⟩;refine Td.mk r rfl B hs λfs h1 _ _ p C1 U g m=>nK m (gk ?_);have:=q C1 g;rw[AA,h1,show decide (((r.sz:Nat):Int)<=20)=decide (r.sz<=20) from by congr 1;exact propext ⟨λh=>by lia,λh=>by lia⟩];exact this
inductive xR(ts:List PV)(C:CH)(Q:K1):Prop
 |mk(bs τ:List Str)(r:Rk)(pb pt:Addr)(z0:ts=[r.pv,.ref pb,.ref pt])(zb:C pb=some (.lst (bs.map PV.str)))(zt:C pt=some (.lst (τ.map PV.str)))(zg:Rg r)(z1:∀C',Gr C C'->Q (.bl (j7 bs τ r)) C')
def lA(T:Tx W a):Ok W a (k+4) 35 U0 xR:=by
 have jP:=(Ez (k:=k) T).mono (B9 _);have ZJ:=Ho (k:=k) T
 refine(T.F 35 rfl).ok (λts C R h=>?_) λai A outer s H E aa=>⟨_,(xQ (nQ (vX (zX (cf (T.F 34 rfl) ZJ aa (c7 (cv 0))))) (kQ (uQ sX)) pQ)
  (xQ (JC PassesOwn.never rfl (cf (T.F 33 rfl) jP aa (c7 (cv 0))) (jl 3 ((T.F 35 rfl).s).nd) (kQ (nQ (dq (dN (dq (iw (ct2 rX yX (cx (cv 3) jQ) wQ) (gm (xJ eZ dJ (cx (cv 3) jQ) (cv 1) rfl)))) (dm (dq (iw (ct2 rX yX (cx (cv 3) jQ) wQ) (gm (xJ eZ dJ (cx (cv 3) jQ) (cv 2) rfl))))))) (kQ (uQ sX)) pQ)))
  (kQ (uQ sX)))),?_⟩
 .obtain⟨_,_,_,_,_,rfl,_⟩:=h;rfl
 rintro ts C R ⟨bs,J,r,pb,ae,rfl,mb,ag,Y,q⟩
 delta j7 at q
 refine Ur.mk r rfl Y.g Y.sz λC0 g0=>?_
 by_cases hz:r.sz<=20
 case neg =>
  rw[AW hz] at q ⊢;exact Ww (q C0 g0)
 rw[AU hz,Ab] at q;rw[AU hz];refine lX (fQ (wV (Td.mk r rfl Y.g Y.sz λfs h1 h2 h3 p1 C1 aj af m1=>?_)));have O:=g0.trans af
 have ah:fs.all (Rk.lf bs J)=false->R (.bl false) C1:=λe=>by
  have:=q C1 O
  rwa[<- h3,e] at this
 refine⟨fs.length+1,aT (fs.map Rk.pv) (λk ρ C'=>∃Z,ρ=[some r.pv,some (.ref pb),some (.ref ae),Z]/\(fs.take k).all (Rk.lf bs J)=true/\C'=C1) ?_ ?_ ?_ _ 0 _ _ (by rw[AA];lia) (AF _) ⟨_,rfl,rfl,rfl⟩⟩
 .rintro k ρ C' ⟨Z,rfl,_,rfl⟩
  exact m1
 .rintro k ρ C' x hx ⟨Z,rfl,U,rfl⟩ L hL
  rw[Ag] at hx;obtain⟨y,hy,rfl⟩:=Option.map_eq_some_iff.1 hx;have B:y.lf bs J=true->L [some r.pv,some (.ref pb),some (.ref ae),some y.pv] C':=λe=>hL _ _ ⟨_,rfl,by rw[Vz hy,U,e];rfl,rfl⟩;have nx:=λe=>ah (Ma hy e);have ab:=h2 y (Ak hy)
  cases y with
  |num i=>exact gQ rfl ((dh (gB rfl (gQ rfl ((dh (fQ (B rfl))))))))
  |turn n =>
   refine gQ rfl ((dh (gB rfl (gQ rfl ((gj (gQ rfl (mP (VM (O _ _ ag)) (gJ (λh=>?_) λh=>?_)))))))))
   .exact nx (by show decide (n∈J)=false;simpa using h)
   .exact fQ (B (by show decide (n∈J)=true;simpa using h))
  |ask s n =>
   obtain⟨hs,hn⟩:=ab
   rcases hs with rfl|rfl|rfl
   .exact gQ rfl ((dh (gB rfl (gQ rfl ((dh (fQ (B rfl))))))))
   .exact gQ rfl ((dh (gB rfl (gQ rfl ((dh (fQ (B rfl))))))))
   .refine gQ rfl ((gj (gQ rfl (mP (VM (O _ _ mb)) (gJ (λh=>?_) λh=>?_)))))
    .exact nx (by show(!decide (("box":Str)="box") || decide (n∈bs))=false;simpa using h)
    .exact gQ rfl ((dh (fQ (B (by show(!decide (("box":Str)="box") || decide (n∈bs))=true;simpa using h)))))
  |bin w y z=>rcases ab.1 with rfl|rfl|rfl<;>exact gQ rfl ((dh (gB rfl (gQ rfl ((dh (fQ (B rfl))))))))
  |pick y z v=>exact gQ rfl ((dh (gB rfl (gQ rfl ((dh (fQ (B rfl))))))))
 .rintro ρ C' ⟨Z,rfl,U,rfl⟩
  rw[AA,Cw] at U;have:=q C' O
  rwa[<- h3,U] at this
end
def Ra{U:Type}{f b}{xs:List U}(l:xs.length<=1000)(aa:∀x∈xs,∀C1,Gr C C1->∀L:K1,(∀C2,Gr C1 C2->L (b x) C2)->c (some (f x)::ρ) C1 L)(q:∀p C',C p=none->Gr C C'->C' p=some (.lst (xs.map b))->Q (.ref p) C'):rJ aU c ρ Q (xs.map f) [] C:=by
 refine mW (λzs J C'=>Gr C C'/\∃ds es:List U,ds++es=xs/\zs=es.map f/\J=ds.map b) ?_ ?_ _ _ _ ⟨Gr.refl,[],xs,rfl,rfl,rfl⟩
 .rintro x zs J C1 ⟨g,ds,es,e,B,rfl⟩ L Z
  cases es with
  |nil=>cases B
  |cons c es =>
   obtain⟨rfl,rfl⟩:=AZ B;refine aa c (by grind) C1 g L λC2 Y=>Z _ _ ⟨?_,g.trans Y,ds++[c],es,by rw[AI];exact e,rfl,by rw[AG];rfl⟩;rw[AA];have:=A9 List.length e;rw[AB,AD] at this;exact AE (show ds.length<1000 by lia) Th
 .rintro J C1 ⟨g,ds,es,e,B,rfl⟩ p O
  cases es with
  |nil =>
   rw[AM] at e;subst e;exact q p _ (bZ g O) (g.trans (Gr.new O _)) zQ
  |cons c es=>cases B
def JL{O:Type}{f}{n}{xs:List O}(J:∀x,∃us,f x=.tup (.str (n x)::us))(l:xs.length<=1000)(q:∀p C',C p=none->Gr C C'->C' p=some (.lst ((xs.map n).map PV.str))->Q (.ref p) C'):rJ aU (nj o5 (zK 0) (cC (.int 0))) ρ Q (xs.map f) [] C:=
 Ra l (λx _ C1 _ L B=>by
  obtain⟨us,e⟩:=J x
  exact e▸gQ Qe (B C1 Gr.refl)) λp C' h1 g m=>q p C' h1 g (by simp_all)
def Yn l:decide ( fR l=((l.length:Nat):Int))=decide l.Nodup:=by grind[Ju]
def inF{bs:List Bool}(hs:oN C y=some (bs.map PV.bl))(q:Q (.bl (!bs.all id)) C):eR false (.bl false) y C Q:=by
 have J:∀bs:List Bool,cY (bs.map PV.bl)=some (bs.map V.bl):=λbs=>by
  induction bs with
  |nil=>rfl
  |cons b bs B =>
   show(match wR (.bl b),cY (bs.map PV.bl) with|some v,some vs=>some (v::vs)|_,_=>none)=_;rw[B]
   rfl
 apply aO hs rfl (J bs)
 have e:inV (.bl false) (bs.map V.bl) = !bs.all id:=by
  clear q hs
  delta inV
  induction bs with
  |nil=>rfl
  |cons b bs B =>
   rw[A5,BN,B];cases b<;>simp[eqV]
 rw[e];cases h:bs.all id<;>rw[h] at q<;>exact q
section
variable{W:Wd}{a:Adr}
inductive Zn(ts:List PV)(C:CH)(Q:K1):Prop
 |mk(bs τ:List Str)(ps:List (Str×Rk))(pb pt:Addr)(z0:ts=[.tup (ps.map yV),.ref pb,.ref pt])(zb:C pb=some (.lst (bs.map PV.str)))(zt:C pt=some (.lst (τ.map PV.str)))(zg:o7 ps)(z1:∀C',Gr C C'->Q (.bl (su bs τ ps)) C')
def WG(T:Tx W a):Ok W a (k+5) 36 U0 Zn:=by
 have vJ:=gC (k:=k+3) T;have iJ:=lA (k:=k) T
 refine(T.F 36 rfl).ok (λts C R h=>?_) λag A outer s H E ab=>⟨_,(xQ (nQ (vX (zX (aQ sQ nX rfl T.lQ rfl (qQ (cv 0) (c7 (oZ rfl T.xZ rfl)))))) (kQ (uQ sX)) pQ)
  (xQ (mV PassesOwn.never rfl (cv 0) (jl 3 ((T.F 36 rfl).s).nd) (xQ (nQ (dq (dN (vX (zX (aQ sQ nX rfl T.lQ rfl (qQ (cv 3) (c7 (oZ rfl T.xZ rfl)))))) (dN (ct2 xY zV (gw T.tX (cv 3)) jQ) (dm (vX (zX (cf (T.F 31 rfl) vJ ab (c7 (cx (cv 3) jQ))))))))) (kQ (uQ sX)) pQ)
  (kQ (nQ (vX (zX (cf (T.F 35 rfl) iJ ab (qQ (cx (cv 3) jQ) (qQ (cv 1) (c7 (cv 2))))))) (kQ (uQ sX)) pQ))))
  (kQ (Xj 3 (qJ rX yX (tI rfl T.tX T.Vl (sZ rfl (show(U4:List Str).Nodup by decide +kernel) (dD (N:=U8) (sc:=vZ (top 69)) (L:=0) rfl rfl rfl gf) (qK (cv 0)) (λ_ _ _ _ _=>fZ) (λ_ _ _ _ _=>(cx (cv 0) jQ)))) (gw T.tX (cv 0)) (lJ _)))))),?_⟩
 .obtain⟨_,_,_,_,_,rfl,_⟩:=h;rfl
 rintro ts C R ⟨bs,τ,ps,pb,ae,rfl,mb,af,Y,q⟩
 delta su at q
 refine wX rfl rfl (lX (fQ (wV (vR rfl (uJ (λzs ρ C'=>∃ds es Z,(ds++es=ps/\(ds.all λc=>j7 bs τ c.2)=true)/\zs=es.map yV/\ρ=[some (.tup (ps.map yV)),some (.ref pb),some (.ref ae),Z]/\Gr C C') ?_ ?_ _ _ _ ⟨[],ps,_,⟨rfl,rfl⟩,rfl,rfl,Gr.refl⟩)))))
 .rintro z zs ρ C1 ⟨ds,es,Z,⟨e,U⟩,J,rfl,g⟩ L hL
  cases es with
  |nil=>cases J
  |cons c es =>
   obtain⟨rfl,rfl⟩:=AZ J;have hc:=Y.1 c (by rw[<- e];simp);refine wX rfl rfl (lX (mX (mQ (eQ _ _) (bQ rfl (gQ rfl (gM.mk c.1 rfl hc.1 λC2 O=>lX (fQ ?_)))))));have B:=g.trans O;refine gQ rfl (xR.mk bs τ c.2 pb ae rfl (B _ _ mb) (B _ _ af) hc.2 λC3 aa=>j8 (λh=>fQ (hL _ _ ⟨ds++[c],es,_,⟨by rw[AI];exact e,by rw[Al,U];simp[h]⟩,rfl,rfl,B.trans aa⟩)) λh=>?_)
   have:=q C3 (B.trans aa)
   rwa[<- e,Al,BS,h,Co,A2,A2] at this
 .rintro ρ C1 ⟨ds,es,Z,⟨e,U⟩,J,rfl,g⟩
  cases es with
  |cons c es=>cases J
  |nil =>
   rw[AM] at e;subst e;rw[U,Ao] at q;refine JL (λx=>⟨_,rfl⟩) Y.2 λp C2 hp O m=>Zh m (by rw[AA];have:=Y.2;lia) (mX (mQ (eQ _ _) ?_));have:=q C2 (g.trans O);rw[<- Yn,AA] at this
   rwa[AA]
inductive Pr(ts:List PV)(C:CH)(Q:K1):Prop
 |mk(bs τ:List Str)(c:Str×Str×Rk)(pb pt:Addr)(z0:ts=[Xq c,.ref pb,.ref pt])(zb:C pb=some (.lst (bs.map PV.str)))(zt:C pt=some (.lst (τ.map PV.str)))(zo:c.2.1∈(["set","add","times"]:List Str)/\Rg c.2.2)(z1:∀C',Gr C C'->Q (.bl (Ge bs τ c)) C')
def Hs(T:Tx W a):Ok W a (k+5) 37 U0 Pr:=by
 have S:=(T.F 37 rfl).s;have U:=lA (k:=k) T
 refine(T.F 37 rfl).ok (λts C R h=>?_) λab A outer s H E J=>⟨_,(xQ (nQ (dq (dN (vX (zX (aQ sQ nX rfl T.lQ rfl (qQ (cv 0) (c7 (oZ rfl T.xZ rfl)))))) (dN (ct2 xY zV (gw T.tX (cv 0)) jQ) (dm (xJ eZ dJ (cx (cv 0) jQ) (cv 1) rfl))))) (kQ (uQ sX)) pQ)
  (kQ (uQ (cV (qJ bW dJ (cx (cv 0) jQ) (dQ (qQ wQ (qQ wQ (c7 wQ)))) rfl) (pV (cf (T.F 35 rfl) U J (qQ (cx (cv 0) jQ) (qQ (cv 1) (c7 (cv 2)))))))))),?_⟩
 .obtain⟨_,_,_,_,_,rfl,_⟩:=h;rfl
 rintro ts C R ⟨bs,τ,⟨s,w,r⟩,Z,aa,rfl,B,Y,⟨O,L⟩,q⟩
 delta Ge at q
 refine wX rfl rfl (lX (mX (mQ (eQ _ _) (bQ rfl (gQ rfl (mP (VM B) (gJ (λh=>?_) λh=>?_)))))))
 .have h:decide (s∈bs)=false:=by simpa using h
  rw[h] at q;exact q C Gr.refl
 .have h:decide (s∈bs)=true:=by simpa using h
  rw[h,Ab] at q;refine fQ (gQ rfl ⟨Th,KG rfl O (eX rfl (gQ rfl (xR.mk bs τ r Z aa rfl B Y L q)))⟩)
inductive IV(ts:List PV)(C:CH)(Q:K1):Prop
 |mk(bs τ:List Str)(hs:List Hd)(pb pt:Addr)(z0:ts=[.tup (hs.map Hd.pv),.ref pb,.ref pt])(zb:C pb=some (.lst (bs.map PV.str)))(zt:C pt=some (.lst (τ.map PV.str)))(zo:(∀x∈hs,ut x)/\hs.length<=1000)(z1:∀C',Gr C C'->Q (.bl (Ip bs τ hs)) C')
def Hr(T:Tx W a):Ok W a (k+6) 38 U0 IV:=by
 have S:=(T.F 38 rfl).s;have vJ:=gC (k:=k+4) T;have uV:=X7 (k:=k+4) T;have mH:=Hs (k:=k) T
 refine(T.F 38 rfl).ok (λts C R h=>?_) λao A outer s H E af=>⟨_,(xQ (nQ (vX (zX (aQ sQ nX rfl T.lQ rfl (qQ (cv 0) (c7 (oZ rfl T.xZ rfl)))))) (kQ (uQ sX)) pQ)
  (xQ (mV PassesOwn.never rfl (cv 0) (jl 3 S.nd) (xQ (nQ (dq (dN (vX (zX (aQ sQ nX rfl T.lQ rfl (qQ (cv 3) (c7 (oZ rfl T.xZ rfl)))))) (dN (ct2 xY zV (gw T.tX (cv 3)) jQ) (dm (vX (zX (cf (T.F 31 rfl) vJ af (c7 (cx (cv 3) jQ))))))))) (kQ (uQ sX)) pQ)
  (xQ (nQ (dq (dN (vX (zX (cf (T.F 32 rfl) uV af (c7 (cx (cv 3) jQ))))) (dm (xJ eZ dJ (cx (cv 3) jQ) (dQ (qQ jQ (qQ jQ (c7 jQ)))) rfl)))) (kQ (uQ sX)) pQ)
  (xQ (nQ (dq (dN (vX (zX (aQ sQ nX rfl T.lQ rfl (qQ (cx (cv 3) jQ) (c7 (oZ rfl T.wN rfl)))))) (dm (vX (zX (aQ sQ nX rfl T.lQ rfl (qQ (cx (cv 3) jQ) (c7 (oZ rfl T.xZ rfl))))))))) (kQ (uQ sX)) pQ)
  (kQ (nQ (xJ bW dJ sX (sZ rfl (S.c gf) (S.k rfl rfl rfl gf) (qK (cx (cv 3) jQ)) (λ_ _ _ _ _=>fZ) (λ_ _ _ _ _=>(cf (T.F 37 rfl) mH af (qQ (cv 0) (qQ (cv 2) (c7 (cv 3))))))) rfl) (kQ (uQ sX)) pQ))))))
  (kQ (Xj 3 (qJ rX yX (tI rfl T.tX T.Vl (sZ rfl (show(U4:List Str).Nodup by decide +kernel) (dD (N:=U8) (sc:=vZ (top 71)) rfl rfl rfl gf) (qK (cv 0)) (λ_ _ _ _ _=>fZ) (λ_ _ _ _ _=>(cx (cv 0) jQ)))) (gw T.tX (cv 0)) (lJ _)))))),?_⟩
 .obtain⟨_,_,_,_,_,rfl,_⟩:=h;rfl
 rintro ts C R ⟨bs,B,hs,pb,ah,rfl,mb,ak,ae,q⟩
 delta Ip at q
 refine wX rfl rfl (lX (fQ (wV (vR rfl (uJ (λzs ρ C'=>∃ds es x3,(ds++es=hs/\(ds.all (Mu bs B))=true)/\zs=es.map Hd.pv/\ρ=[some (.tup (hs.map Hd.pv)),some (.ref pb),some (.ref ah),x3]/\Gr C C') ?_ ?_ _ _ _ ⟨[],hs,_,⟨rfl,rfl⟩,rfl,rfl,Gr.refl⟩)))))
 .rintro z zs ρ C1 ⟨ds,es,x3,⟨e,ab⟩,U,rfl,g⟩ L hL
  cases es with
  |nil=>cases U
  |cons c es =>
   obtain⟨rfl,rfl⟩:=AZ U;have J:=ae.1 c (by rw[<- e];simp);have h1:=J.r1;have h3:=J.r3;refine wX rfl rfl (lX (mX (mQ (eQ _ _) (bQ rfl (gQ rfl (gM.mk c.ev rfl J.ev λC2 Z=>lX (fQ ?_)))))));have aa:=g.trans Z;refine gQ rfl (Yb.mk c.rank rfl ⟨by lia,by lia⟩ (lX (gQ rfl ⟨Th,?_⟩)));have aj:c.rank=1\/c.rank=2\/c.rank=3:=by lia
   apply aO rfl rfl rfl
   have ei:inV (.int c.rank) [.int 1,.int 2,.int 3]=true:=by rcases aj with e|e|e<;>rw[e]<;>rfl
   rw[ei];refine bQ rfl (fQ (gQ rfl (wX rfl rfl (lX (gQ rfl (wX rfl rfl (lX (fQ (gQ rfl (nR (b:=Ge bs B) J.cl (λx hx Y O L' ai=>?_) λp Y aq O m3=>?_))))))))))
   .have ag:=aa.trans O
    exact Pr.mk bs B x pb ah rfl (ag _ _ mb) (ag _ _ ak) (J.ch x hx).2 ai
   apply inF (by show(match Y p with|some (.lst xs)=>some xs|_=>none)=_;rw[m3])
   rw[List.all_map,show(id ∘ Ge bs B)=Ge bs B from rfl];refine gJ (λh=>?_) λh=>fQ (hL _ _ ⟨ds++[c],es,_,⟨by rw[AI];exact e,by rw[Al,ab];simpa[Mu] using h⟩,rfl,rfl,aa.trans O⟩);have:=q Y (aa.trans O);rw[<- e,Al,BS,show Mu bs B c=false from by simpa[Mu] using h,Co,A2,A2] at this;exact this
 .rintro ρ C1 ⟨ds,es,x3,⟨e,ab⟩,U,rfl,g⟩
  cases es with
  |cons c es=>cases U
  |nil =>
   rw[AM] at e;subst e;rw[ab,Ao] at q;refine JL (λx=>⟨_,rfl⟩) ae.2 λp C2 hp Z m=>Zh m (by rw[AA];have:=ae.2;lia) (mX (mQ (eQ _ _) ?_));have:=q C2 (g.trans Z);rw[<- Yn,AA] at this
   rwa[AA]
end
abbrev RK:List (Key×PV):=[(Sum.inr "plain",.int 6),(Sum.inr "part",.int 4),(Sum.inr "give",.int 5),(Sum.inr "when",.int 4),(Sum.inr "each",.int 4)]
section
variable{W:Wd}{a:Adr}
inductive Pq(ts:List PV)(C:CH)(Q:K1):Prop
 |mk(bs τ:List Str)(l:Ln)(pb pt:Addr)(z0:ts=[l.pv,.ref pb,.ref pt])(zb:C pb=some (.lst (bs.map PV.str)))(zt:C pt=some (.lst (τ.map PV.str)))(zo:l.hg)(z1:∀C',Gr C C'->Q (.bl (l.hF bs τ)) C')
def Hn(T:Tx W a){k:Nat}:Ok W a (k+7) 39 U3 Pq:=by
 have S:=(T.F 39 rfl).s;have iJ:=lA (k:=k+2) T;have vJ:=gC (k:=k+5) T;have zU:=WG (k:=k+1) T;have uT:=Hr (k:=k) T
 refine(T.F 39 rfl).ok (λts C R h=>?_) λaq A outer s H E af=>⟨_,(xQ (nQ (dq (dN (vX (zX (aQ sQ nX rfl T.lQ rfl (qQ (cv 0) (c7 (oZ rfl T.xZ rfl)))))) (dN (ct2 xF qU (gw T.tX (cv 0)) jQ) (dm (vX (zX (aQ sQ nX rfl T.lQ rfl (qQ (cx (cv 0) jQ) (c7 (oZ rfl T.mB rfl)))))))))) (kQ (uQ sX)) pQ)
  (xQ (nQ (ct2 xY zV (Xr (dG af) (JR (aV wQ jQ (aV wQ jQ (aV wQ jQ (aV wQ jQ (aV wQ jQ JH)))))) (cx (cv 0) jQ) jQ) (gw T.tX (cv 0))) (kQ (uQ sX)) pQ)
  (xQ (nQ (ct2 rX yX (cx (cv 0) jQ) wQ) (kQ (uQ (cf (T.F 35 rfl) iJ af (qQ (cx (cv 0) jQ) (qQ (cv 1) (c7 (cv 2))))))) pQ)
  (xQ (nQ (ct2 rX yX (cx (cv 0) jQ) wQ) (kQ (uQ (cV (cf (T.F 31 rfl) vJ af (c7 (cx (cv 0) jQ))) (cV (qJ xF qU (gw T.tX (cv 2)) jQ (lJ _)) (pV (cf (T.F 35 rfl) iJ af (qQ (cx (cv 0) jQ) (qQ (cv 1) (c7 (cv 2)))))))))) pQ)
  (xQ (nQ (dq (dN (dq (iw (ct2 fA pR (cx (cv 0) jQ) jZ) (gm (vX (zX (cf (T.F 35 rfl) iJ af (qQ (cx (cv 0) jQ) (qQ (cv 1) (c7 (cv 2)))))))))) (dm (vX (zX (cf (T.F 31 rfl) vJ af (c7 (cx (cv 0) jQ)))))))) (kQ (uQ sX)) pQ)
  (xQ (nQ (ct2 rX yX (cx (cv 0) jQ) wQ) (kQ (uQ (cf (T.F 35 rfl) iJ af (qQ (cx (cv 0) jQ) (qQ (cv 1) (c7 (cv 2))))))) pQ)
  (xQ (nQ (vX (zX (cf (T.F 36 rfl) zU af (qQ (cx (cv 0) jQ) (qQ (cv 1) (c7 (cv 2))))))) (kQ (uQ sX)) pQ)
  (kQ (uQ (JP (qJ rX yX (cx (cv 0) jQ) wQ (lJ _)) (pV (cf (T.F 38 rfl) uT af (qQ (cx (cv 0) jQ) (qQ (cv 1) (c7 (cv 2)))))))))))))))),?_⟩
 .obtain⟨_,_,_,_,_,rfl,_⟩:=h;rfl
 rintro ts C R ⟨bs,B,l,pb,aa,rfl,mb,Z,ho,q⟩
 cases l with
 |plain k ak s h ls =>
  obtain⟨⟨hk,ht⟩,hs,hh⟩:=ho;have q:∀C',Gr C C'->R (.bl (mj bs B k&&(Ip bs B h&&su bs B s))) C':=q;refine wX rfl rfl (lX (mX (gk (bQ (by rfl) (gQ rfl (wX rfl rfl (lX (fQ ?_))))))));refine λpd ae=>nJ zQ rfl Th ⟨oV zQ,gQ rfl (eV zQ rfl rfl (mX (mQ (eQ _ _) (bQ rfl (fQ ?_)))))⟩;have J:=qe ae (.dK []) (.dK (jK [] RK));refine gQ rfl ((dh (fQ (gQ rfl ((dh (fQ ?_)))))))
  cases k with
  |none =>
   refine gQ rfl (gQ rfl (gM.mk ak rfl ht λC2 Y=>lX (fQ ?_)));rw[show mj bs B none=true from rfl,Ab] at q;have L:=J.trans Y;refine gQ rfl ((dh (fQ ?_)));refine gQ rfl (Zn.mk bs B s pb aa rfl (L _ _ mb) (L _ _ Z) hs λU O=>j8 (λh2=>?_) λh2=>by have:=q U (L.trans O);rw[h2,A2] at this;exact this);have ah:=L.trans O
   rw[h2,Ao] at q;exact fQ (gQ rfl ((dh (gQ rfl (IV.mk bs B h pb aa rfl (ah _ _ mb) (ah _ _ Z) hh λC4 g4=>q C4 (ah.trans g4))))))
  |some r =>
   have ag:=hk r rfl;refine gQ rfl (yH (b:=not (vG r.pv)) (by rw[qD];rfl) (gQ rfl (xR.mk bs B r pb aa rfl (J _ _ mb) (J _ _ Z) ag λC1 ab=>j8 (λh1=>?_) λh1=>by have:=q C1 (J.trans ab);rw[show mj bs B (some r)=j7 bs B r from rfl,h1] at this;exact this)));rw[show mj bs B (some r)=j7 bs B r from rfl,h1,Ab] at q;refine gQ rfl (gM.mk ak rfl ht λC2 Y=>lX (fQ ?_))
   have L:=J.trans (ab.trans Y);refine gQ rfl ((dh (fQ ?_)));refine gQ rfl (Zn.mk bs B s pb aa rfl (L _ _ mb) (L _ _ Z) hs λU O=>j8 (λh2=>?_) λh2=>by have:=q U (L.trans O);rw[h2,A2] at this;exact this);have ah:=L.trans O;rw[h2,Ao] at q;exact fQ (gQ rfl ((dh (gQ rfl (IV.mk bs B h pb aa rfl (ah _ _ mb) (ah _ _ Z) hh λC4 g4=>q C4 (ah.trans g4))))))
 |part k n g =>
  obtain⟨⟨hk,hn⟩,aj⟩:=ho;have q:∀C',Gr C C'->R (.bl (mj bs B k&&su bs B g)) C':=q;refine wX rfl rfl (lX (mX (gk (bQ (by rfl) (gQ rfl (wX rfl rfl (lX (fQ ?_))))))));refine λpd ae=>nJ zQ rfl Th ⟨oV zQ,gQ rfl (eV zQ rfl (v:=.int 4) rfl (mX (mQ (eQ _ _) (bQ rfl (fQ ?_)))))⟩;have J:=qe ae (.dK []) (.dK (jK [] RK));refine gQ rfl ((dh (fQ (gQ rfl ((dh (fQ ?_)))))))
  cases k with
  |none =>
   refine gQ rfl (gQ rfl (gM.mk n rfl hn λC2 Y=>lX (fQ ?_)));rw[show mj bs B none=true from rfl,Ab] at q;refine gQ rfl ((dh (fQ ?_)));refine gQ rfl (Zn.mk bs B g pb aa rfl ((J.trans Y) _ _ mb) ((J.trans Y) _ _ Z) aj λU O=>j8 (λh2=>?_) λh2=>by have:=q U (J.trans (Y.trans O));rw[h2] at this;exact this);have:=q U (J.trans (Y.trans O))
   rw[h2] at this;exact fQ (gQ rfl ((gj this)))
  |some r =>
   have ag:=hk r rfl;refine gQ rfl (yH (b:=not (vG r.pv)) (by rw[qD];rfl) (gQ rfl (xR.mk bs B r pb aa rfl (J _ _ mb) (J _ _ Z) ag λC1 ab=>j8 (λh1=>?_) λh1=>by have:=q C1 (J.trans ab);rw[show mj bs B (some r)=j7 bs B r from rfl,h1] at this;exact this)));rw[show mj bs B (some r)=j7 bs B r from rfl,h1,Ab] at q;refine gQ rfl (gM.mk n rfl hn λC2 Y=>lX (fQ ?_))
   have L:=J.trans (ab.trans Y);refine gQ rfl ((dh (fQ ?_)));refine gQ rfl (Zn.mk bs B g pb aa rfl (L _ _ mb) (L _ _ Z) aj λU O=>j8 (λh2=>?_) λh2=>by have:=q U (L.trans O);rw[h2] at this;exact this);have:=q U (L.trans O);rw[h2] at this;exact fQ (gQ rfl ((gj this)))
 |give k n r ls =>
  obtain⟨⟨hk,hn⟩,ag⟩:=ho;have q:∀C',Gr C C'->R (.bl (mj bs B k&&j7 bs B r)) C':=q;refine wX rfl rfl (lX (mX (gk (bQ (by rfl) (gQ rfl (wX rfl rfl (lX (fQ ?_))))))));refine λpd ae=>nJ zQ rfl Th ⟨oV zQ,gQ rfl (eV zQ rfl (v:=.int 5) rfl (mX (mQ (eQ _ _) (bQ rfl (fQ ?_)))))⟩;have J:=qe ae (.dK []) (.dK (jK [] RK));refine gQ rfl ((dh (fQ (gQ rfl ((dh (fQ ?_)))))))
  cases k with
  |none =>
   refine gQ rfl (gQ rfl (gM.mk n rfl hn λC2 Y=>lX (fQ ?_)));rw[show mj bs B none=true from rfl,Ab] at q;have L:=J.trans Y;exact gQ rfl ((gj (gQ rfl (xR.mk bs B r pb aa rfl (L _ _ mb) (L _ _ Z) ag λU O=>q U (L.trans O)))))
  |some r0 =>
   have ao:=hk r0 rfl;refine gQ rfl (yH (b:=not (vG r0.pv)) (by rw[qD];rfl) (gQ rfl (xR.mk bs B r0 pb aa rfl (J _ _ mb) (J _ _ Z) ao λC1 ab=>j8 (λh1=>?_) λh1=>by have:=q C1 (J.trans ab);rw[show mj bs B (some r0)=j7 bs B r0 from rfl,h1] at this;exact this)));rw[show mj bs B (some r0)=j7 bs B r0 from rfl,h1,Ab] at q;refine gQ rfl (gM.mk n rfl hn λC2 Y=>lX (fQ ?_))
   have L:=J.trans (ab.trans Y);exact gQ rfl ((gj (gQ rfl (xR.mk bs B r pb aa rfl (L _ _ mb) (L _ _ Z) ag λU O=>q U (L.trans O)))))
 |when r l1 l2 =>
  refine wX rfl rfl (lX (mX (gk (bQ (by rfl) (gQ rfl (wX rfl rfl (lX (fQ ?_))))))));refine λpd ae=>nJ zQ rfl Th ⟨oV zQ,gQ rfl (eV zQ rfl (v:=.int 4) rfl (mX (mQ (eQ _ _) (bQ rfl (fQ ?_)))))⟩;have J:=qe ae (.dK []) (.dK (jK [] RK));exact gQ rfl ((gj (gQ rfl (xR.mk bs B r pb aa rfl (J _ _ mb) (J _ _ Z) ho λU O=>q U (J.trans O)))))
 |each n r ls =>
  obtain⟨ag,hn⟩:=ho;have q:∀C',Gr C C'->R (.bl (j7 bs B r&&decide (B.length<2))) C':=q;refine wX rfl rfl (lX (mX (gk (bQ (by rfl) (gQ rfl (wX rfl rfl (lX (fQ ?_))))))));refine λpd ae=>nJ zQ rfl Th ⟨oV zQ,gQ rfl (eV zQ rfl (v:=.int 4) rfl (mX (mQ (eQ _ _) (bQ rfl (fQ ?_)))))⟩;have J:=qe ae (.dK []) (.dK (jK [] RK));refine gQ rfl ((dh (fQ (gQ rfl ((gj ?_))))))
  refine gQ rfl (gM.mk n rfl hn λC1 ab=>eX rfl ?_);have ai:=J.trans ab;refine nK (ai _ _ Z) (gk ?_);rw[AA,show decide (((B.length:Nat):Int)<2)=decide (B.length<2) from by congr 1;exact propext ⟨λh=>by lia,λh=>by lia⟩];refine gJ (λh2=>?_) λh2=>by have:=q C1 ai;rw[h2,A2] at this;exact this
  rw[h2,Ao] at q;exact gQ rfl (xR.mk bs B r pb aa rfl (ai _ _ mb) (ai _ _ Z) ag λU O=>q U (ai.trans O))
end
abbrev ug:=List Ln×Addr×Nat×List Str
noncomputable def zY(q:ug):PV:=.tup [xK q.1,.ref q.2.1,.int ((q.2.2.1:Nat)+1)]
noncomputable def to3(q:ug):nu:=(q.1,q.2.2.1,q.2.2.2)
structure pq(C:CH)(p pg:Addr)(q:ug):Prop where
 g:∃d,∀l∈q.1,l.gd d
 m:C q.2.1=some (.lst (q.2.2.2.map PV.str))
 n1:q.2.1≠p
 n2:q.2.1≠pg
def Kp(p q:Addr)(C C':CH):Prop:=∀b o,b≠p->b≠q->C b=some o->C' b=some o
def Kp.of(g:Gr C C'):Kp p q C C':=λb o _ _ e=>g b o e
theorem Kp.trans(h:Kp p J C C1)(h':Kp p J C1 C2):Kp p J C C2:=λb o q B e=>h' b o q B (h b o q B e)
theorem Kp.p{p}o:Kp p B C (cQ C p o):=λb u q _ e=>(yQ q).trans e
theorem Kp.g{p}o:Kp p B C (cQ C B o):=λb u _ q e=>(yQ q).trans e
def pq.up(h:pq C p B q)(k:Kp p B C C'):pq C' p B q:=⟨h.g,k _ _ h.n1 h.n2 h.m,h.n1,h.n2⟩
noncomputable def FQ(f:Str->Bool)(q:nu):Bool:=(Ln.gls q.1).all f
noncomputable def Ln.RP(l:Ln)(q:Addr)(e:Nat)(B:List Str):List ug:=l.inl.map λls=>(ls,q,e+1,l.tau B)
def Ln.qb(l:Ln)B e q:(l.RP B e q).map to3=l.nxt e q:=by
 delta Ln.RP Ln.nxt
 rw[Aj]
 rfl
noncomputable def Ln.Hg(f:Str->Bool):Ln->Bool
 |.part _ n _=>f n
 |_=>true
def Ln.Iu f e J(l:Ln):l.gl.all f=(l.Hg f&&(l.nxt e J).all (FQ f)):=by
 cases l with
 |plain k t s h ls=>show(Ln.gls ls).all f=(true&&((Ln.gls ls).all f&&true));simp
 |part k n g=>show[n].all f=(f n&&true);simp
 |give k n r ls=>show(Ln.gls ls).all f=(true&&((Ln.gls ls).all f&&true));simp
 |when r q B=>show(Ln.gls q++Ln.gls B).all f=(true&&((Ln.gls q).all f&&((Ln.gls B).all f&&true)));simp
 |each n r ls=>show(Ln.gls ls).all f=(true&&((Ln.gls ls).all f&&true));simp
def ZS(h:HT.sIx xs.length 0 (some k)=j)(hj:j≠0)(q:Q (.tup (xs.drop j)) C):Xu (.tup xs) (some k) none C Q:=by
 delta Xu
 refine⟨λz=>by rw[h] at z;exact hj z.1,?_⟩
 have B:yY xs (some k) none=xs.drop j:=by
  delta yY
  rw[h,HT.sIx_none];exact BO ue
 rwa[B]
section
variable{W:Wd}{a:Adr}
inductive Pn(ts:List PV)(C:CH)(Q:K1):Prop
 |mk(bs:List Str)(ls:List Ln)(pb:Addr)(z0:ts=[xK ls,.ref pb])(zb:C pb=some (.lst (bs.map PV.str)))(zo:∃d,∀l∈ls,l.gd d)(zt:Ln.d9 ls<=3000)(z1:Mt bs ls=true->∀gs:List Str,(∀f,gs.all f=(Ln.gls ls).all f)->gs.length<=3000->gH C (gs.map PV.str) Q)(z2:Mt bs ls=false->∀C',Gr C C'->Q .non C')
def Hm(T:Tx W a){k:Nat}:Ok W a (k+8) 40 ["_law_lines","_law_boxes"] Pn:=by
 have S:=(T.F 40 rfl).s;have yT:=Hn (k:=k) T
 refine(T.F 40 rfl).ok (λts C R h=>?_) λb8 A outer s H E bc=>⟨_,(xQ (fj 2 S.nd (oQ (c7 (dQ (qQ (cv 0) (qQ (oQ cX) (c7 jQ)))))))
  (xQ (fj 3 S.nd jQ)
  (xQ (fj 4 S.nd (oQ cX))
  (xQ (lY PassesOwn.never (ct2 (wC (vI bc)) rL (cv 2) (oQ cX)) (xQ (mF (dM Ae BE BD kM sG (cv 2)) (oI rfl (pJ (jl 5 S.nd) (pJ (jl 6 S.nd) (pJ (jl 7 S.nd) aH)))))
  (xQ (nQ (dq (dN (vX (zX (aQ sQ nX rfl T.lQ rfl (qQ (cv 5) (c7 (oZ (n:="tuple") rfl T.xZ rfl)))))) (dm (dq (iw (ct2 oW eK (cv 7) jQ) (gm (ct2 oW eK (gw T.tX (cv 5)) jQ))))))) (kQ (uQ jZ)) pQ)
  (xQ (fj 3 S.nd (uX jX xX (cv 3) (gw T.tX (cv 5))))
  (kQ (mV PassesOwn.never rfl (cv 5) (jl 8 S.nd) (xQ (nQ (vX (zX (cf (T.F 39 rfl) yT bc (qQ (cv 8) (qQ (cv 1) (c7 (cv 6))))))) (kQ (uQ jZ)) pQ)
  (kQ (nQ (ct2 rX yX (cx (cv 8) jQ) wQ) (kQ (kZ (cap (cv 4) (cx (cv 8) jQ)))) (xQ (fj 9 S.nd (lD (ct2 rX yX (cx (cv 8) jQ) wQ) (uX jX xX (cv 6) (oQ (c7 (cx (cv 8) jQ)))) (cv 6)))
  (kQ (mV PassesOwn.never rfl (lD (ct2 rX yX (cx (cv 8) jQ) wQ) (eL (cv 8) (oJ jQ) uK) (eL (cv 8) (oJ (eW tK sJ jQ)) uK)) (jl 10 S.nd) (kQ (kZ (cap (cv 2) (dQ (qQ (cv 10) (qQ (cv 9) (c7 (uX jX xX (cv 7) jQ))))))))))))))))))))
  (kQ (uQ (lD (ct2 bG iV (cv 3) jQ) (cv 4) jZ))))))),?_⟩
 .obtain⟨_,_,_,rfl,_⟩:=h;rfl
 rintro ts C R ⟨bs,ls,pb,rfl,mb,ho,ht,q1,q2⟩
 delta Mt at q1 q2
 refine⟨AF _,λae bw=>⟨km,jg,λp hp=>?_⟩⟩;dsimp only[di.wn];refine aX ?_;refine⟨AF _,λO ba=>?_⟩;dsimp only[di.wn];obtain⟨n1,a8⟩:=nn hp;obtain⟨n2,bu⟩:=nn ba;obtain⟨n3,bb⟩:=nn bu;have g0:Gr C (cQ (cQ (cQ C ae (.lst [])) p (.lst [zY (ls,ae,0,[])])) O (.lst [])):=(Gr.new bw _).trans ((Gr.new hp _).trans (Gr.new ba _));refine mZ (λav C'=>∃(gs:List Str)(c:Nat)(x5 x6 x7 x8 x9 af:Option PV),av=[some (xK ls),some (.ref pb),some (.ref p),some (.int c),some (.ref O),x5,x6,x7,x8,x9,af]/\C' O=some (.lst (gs.map PV.str))/\(c=Ln.d9 ls/\gs.length<=c)/\Ln.fits bs 0 [] ls=true/\(∀f,gs.all f=(Ln.gls ls).all f)/\Gr C C') (λL hL=>?_) ?_
 .have w0:jq ([(ls,ae,0,[])].map to3)=1+3*Ln.d9 ls:=An _
  have cc:qj ([(ls,ae,0,[])].map to3)=Ln.d9 ls:=An _
  have b6:∀x∈[((ls,ae,0,[]):ug)],pq (cQ (cQ (cQ C ae (.lst [])) p (.lst [zY (ls,ae,0,[])])) O (.lst [])) p O x:=λx hx=>by
   rw[AR.1 hx];exact⟨ho,(yQ n3.symm).trans ((yQ n1.symm).trans zQ),n1.symm,n3.symm⟩
  have f0:([(ls,ae,0,[])].map to3).all (yR bs)=Ln.fits bs 0 [] ls:=Ao _;refine⟨jq ([(ls,ae,0,[])].map to3)+1,yG (λn ρ C'=>∃(ps:List ug)(gs:List Str)(c:Nat)(x5 x6 x7 x8 x9 af:Option PV),n=jq (ps.map to3)/\n<=9001/\(c+qj (ps.map to3)=Ln.d9 ls/\gs.length<=c/\(ps.map to3).all (yR bs)=Ln.fits bs 0 [] ls/\∀f,(gs.all f&&(ps.map to3).all (FQ f))=(Ln.gls ls).all f)/\(∀x∈ps,pq C' p O x)/\ρ=[some (xK ls),some (.ref pb),some (.ref p),some (.int c),some (.ref O),x5,x6,x7,x8,x9,af]/\C' p=some (.lst (ps.map zY))/\C' O=some (.lst (gs.map PV.str))/\Gr C C') ?_ _ (jq ([(ls,ae,0,[])].map to3)) _ _ (A3 _) ⟨[(ls,ae,0,[])],[],0,_,_,_,_,_,_,rfl,by lia,⟨by lia,AQ _,f0,λf=>by show(true&&((Ln.gls ls).all f&&true))=_;simp⟩,b6,rfl,(yQ n2.symm).trans zQ,zQ,g0⟩⟩
  rintro n ρ C1 L1 ⟨ps,gs,c,x5,x6,x7,x8,x9,af,rfl,en,⟨ec,bq,ef,eg⟩,ak,rfl,m,mg,g⟩ bh;refine⟨AF _,λp3 a9=>nA (Gr.new a9 _ _ _ m) zQ ?_⟩;have ao:Gr C1 (cQ C1 p3 (.lst [])):=Gr.new a9 _;have m:=ao _ _ m;have mg:=ao _ _ mg;have g:=g.trans ao;have ak:=λx hx=>(ak x hx).up (Kp.of ao);clear ao;generalize cQ C1 p3 (.lst [])=C2 at *
  rcases ps.eq_nil_or_concat with rfl|⟨ys,x,rfl⟩
  .exact bQ rfl (hL _ _ ⟨gs,c,_,_,_,_,_,_,rfl,mg,⟨by have:c+0=Ln.d9 ls:=ec;lia,bq⟩,ef.symm,λf=>by rw[<- eg f];simp,g⟩)
  rw[Bc] at *
  obtain⟨B,U,ex,q⟩:=x;rw[AG,vK,show jq ([(B,U,ex,q)].map to3)=1+3*Ln.d9 B from An _] at en;rw[AG,nM,show qj ([(B,U,ex,q)].map to3)=Ln.d9 B from An _] at ec;rw[AG,Al,show([(B,U,ex,q)].map to3).all (yR bs)=Ln.fits bs ex q B from Ao _] at ef
  have eg:∀f,(gs.all f&&((ys.map to3).all (FQ f)&&(Ln.gls B).all f))=(Ln.gls ls).all f:=λf=>by
   rw[<- eg f,AG,Al]
   congr 2
   exact(Ao _).symm
  rw[AG] at m ⊢;refine eX (by cases h:ys.map zY<;>rfl) ?_;have au:=ak (B,U,ex,q) ue;have a3:=λx hx=>ak x (Ap _ hx);refine⟨lZ m,uP m (y:=zY (B,U,ex,q)) ue ⟨rfl,?_⟩⟩;rw[show(ys.map zY++[(B,U,ex,q)].map zY).dropLast=ys.map zY from BL];have kp:Kp p O C2 (cQ C2 p (.lst (ys.map zY))):=Kp.p _;have m3:cQ C2 p (.lst (ys.map zY)) p=some (.lst (ys.map zY)):=zQ
  have b3:cQ C2 p (.lst (ys.map zY)) O=some (.lst (gs.map PV.str)):=(yQ n2).trans mg;have a6:Gr C (cQ C2 p (.lst (ys.map zY))):=λb o eb=>(yQ (zZ a8 eb)).trans (g _ _ eb);have au:=au.up kp;have a3:=λx hx=>(a3 x hx).up kp;clear kp ak;generalize cQ C2 p (.lst (ys.map zY))=C3 at *
  have bg:Ln.fits bs ex q B=false->∀C',Gr C C'->R .non C':=λh C' g'=>q2 (by rw[<- ef,h,A2,A2]) C' g';dsimp only[di.wn];have bf:(Ln.ik B).length=B.length:=by rw[Ln.d8,AA]
  dsimp only[Yq,Jz,Lh];refine mZ (λav C'=>C'=C3/\av=[some (xK ls),some (.ref pb),some (.ref p),some (.int c),some (.ref O),some (xK B),some (.ref U),some (.int ((ex:Nat)+1)),x8,x9,af]/\(ex<6\/B=[])) (λL2 a7=>?_) ?_
  .refine wX rfl rfl (lX (gk (gJ (λh1=>?_) λh1=>?_)))
   .have h1:(6:Int)<(ex:Nat)+1:=Af h1
    refine mX (gk ?_);rw[bf];refine gJ (λh2=>?_) λh2=>fQ (a7 _ _ ⟨rfl,rfl,.inr ?_⟩)
    .have h2:(0:Int)<(B.length:Nat):=Af h2
     refine bg ?_ C3 a6
     cases B with
     |nil=>exact absurd h2 Th
     |cons l B=>show(l.fit bs ex q&&_)=false;rw[Ln.j9,AW (show ¬ ex<6 by lia)];rfl
    .have h2:¬ (0:Int)<(B.length:Nat):=BI h2
     exact Bh.1 ir
   .have h1:¬ (6:Int)<(ex:Nat)+1:=BI h1
    exact gB rfl (fQ (a7 _ _ ⟨rfl,rfl,.inl ir⟩))
  rintro _ _ ⟨rfl,rfl,bo⟩;refine aX (mX (eJ ?_));rw[bf]
  try dsimp only[di.wn]
  refine aG ?_;show zW _ _ _ (Ln.ik B) _ _;rw[Ln.d8];obtain⟨d,bt⟩:=au.g;refine uJ (λzs ρ C'=>∃(ds es:List Ln)(Y:List ug)(ab:List Str)(x8 x9 af:Option PV),ds++es=B/\zs=es.map Ln.pv/\ρ=[some (xK ls),some (.ref pb),some (.ref p),some (.int (c+B.length:Nat)),some (.ref O),some (xK B),some (.ref U),some (.int ((ex:Nat)+1)),x8,x9,af]/\C' p=some (.lst ((ys++Y).map zY))/\C' O=some (.lst (ab.map PV.str))/\(pq C' p O (B,U,ex,q)/\∀x∈ys++Y,pq C' p O x)/\(jq (Y.map to3)<=3*Ln.d9 ds/\qj (Y.map to3)+ds.length=Ln.d9 ds/\ab.length<=gs.length+ds.length)/\((Y.map to3).all (yR bs)=Ln.fits bs ex q ds/\∀f,(ab.all f&&(Y.map to3).all (FQ f))=(gs.all f&&(Ln.gls ds).all f))/\Gr C C') ?_ ?_ _ _ _ ⟨[],B,[],gs,_,_,_,rfl,rfl,rfl,by rw[AM];exact m3,b3,⟨au,by rw[AM];exact a3⟩,⟨AQ _,rfl,AQ _⟩,⟨rfl,λf=>rfl⟩,a6⟩
  .rintro z zs ρ C4 ⟨ds,es,Y,ab,y8,y9,b7,e,hz,rfl,m4,ag,⟨Z,a0⟩,⟨bz,bx,br⟩,⟨aw,ax⟩,g4⟩ L3 bj
   cases es with
   |nil=>cases hz
   |cons l es =>
    obtain⟨rfl,rfl⟩:=AZ hz;have hl:=bt l (by rw[<- e];simp)
    have bl:ex<6:=by
     rcases bo with h|h
     .exact h
     .rw[h] at e;simp at e
    have et:Ln.d9 ds+(l.tw+Ln.d9 es)=Ln.d9 B:=by rw[<- e,ie];rfl
    have el:ds.length+(1+es.length)=B.length:=by rw[<- e,AB,AD];lia
    obtain⟨cj,ck⟩:=l.lz ex q;have l1:=wG (ys.map to3);have l2:=wG (Y.map to3);rw[AA] at l1 l2;have il:l.inl.length<=2:=by cases l<;>simp[Ln.inl]
    refine Pq.mk bs q l pb U rfl (g4 _ _ mb) Z.m hl.hg λC5 J=>j8 (λh3=>fQ ?_) λh3=>?_
    .have ai:∀(C':CH)(aa:Addr)(aj:List Str)(x9 af:Option PV),Gr C C'->C' p=some (.lst ((ys++Y++l.RP aa ex q).map zY))->C' O=some (.lst (aj.map PV.str))->Kp p O C5 C'->(∀f,aj.all f=(ab.all f&&l.Hg f))->aj.length<=ab.length+1->(l.inl=[]\/(C' aa=some (.lst ((l.tau q).map PV.str))/\aa≠p/\aa≠O))->L3 [some (xK ls),some (.ref pb),some (.ref p),some (.int (c+B.length:Nat)),some (.ref O),some (xK B),some (.ref U),some (.int ((ex:Nat)+1)),some l.pv,x9,af] C':=by
      intro C' aa aj z9 cn g' b5 b2 b0 bp b9 aq;have kk:Kp p O C4 C':=(Kp.of J).trans b0;refine bj _ _ ⟨ds++[l],es,Y++l.RP aa ex q,aj,_,_,_,by rw[AI];exact e,rfl,rfl,by rw[b5,AI],b2,⟨Z.up kk,λx hx=>?_⟩,⟨?_,?_,?_⟩,⟨?_,λf=>?_⟩,g'⟩
      .rw[<- AI] at hx
       rcases AY.1 hx with h|h
       .exact(a0 x h).up kk
       .obtain⟨b1,ay,rfl⟩:=AX.1 h
        rcases aq with z|⟨z1,z2,z3⟩
        .rw[z] at ay;cases ay
        .exact⟨Ln.sy hl b1 ay,z1,z2,z3⟩
      .rw[AG,Ln.qb,vK,ie,show Ln.d9 [l]=l.tw from An _]
       lia
      .rw[AG,Ln.qb,nM,ie,show Ln.d9 [l]=l.tw from An _,AB]
       show _+(_+1)=_
       lia
      .rw[AB]
       show _<=_+(_+1)
       lia
      .rw[AG,Ln.qb,Al,aw,Ln.ju,show Ln.fits bs ex q [l]=l.fit bs ex q from Ao _,Ln.j9,h3,AU bl,Ab,Ab]
      .rw[AG,Ln.qb,Al,bp f,Ln.mq,Al]
       have:=ax f;rw[show(Ln.gls [l]).all f=l.gl.all f from by show(l.gl++[]).all f=_;rw[AM],Ln.Iu f ex q l];revert this;cases ab.all f<;>cases l.Hg f<;>cases (Y.map to3).all (FQ f)<;>cases gs.all f<;>cases (Ln.gls ds).all f<;>cases (l.nxt ex q).all (FQ f)<;>simp
     have gp:∀(C':CH){o:CO},Gr C C'->Gr C (cQ C' p o):=λC' o g' b u eb=>(yQ (zZ a8 eb)).trans (g' _ _ eb)
     cases l with
     |part k n gv =>
      refine gQ rfl ((gj ⟨lZ (J _ _ ag),gQ rfl (bK (J _ _ ag) (by rw[AA];exact AE (show _<100000 by lia) Th) ?_)⟩));exact ai _ U (ab++[n]) _ _ (λb u eb=>(yQ (zZ bb eb)).trans ((g4.trans J) _ _ eb)) (by show _=some (CO.lst ((ys++Y++[]).map zY));rw[AM];exact(yQ n2.symm).trans (J _ _ m4)) (by rw[zQ,AG];rfl) (Kp.g _) (λf=>by rw[Al];show(_&&(f n&&true))=(_&&f n);rw[Ao]) (by rw[AB];exact AQ _) (.inl rfl)
     |plain k cg s h ah =>
      refine gQ rfl ((dh (gQ rfl ((dh ?_)))));dsimp only[di.wn];refine aG (gQ rfl ((dh (ZS (j:=5) (by rfl) Th ?_))));show zW _ _ _ [xK ah] _ _;refine⟨lZ (J _ _ m4),eJ ⟨km,bK (J _ _ m4) (by rw[AA,AB];exact AE (show _<100000 by lia) Th) ?_⟩⟩
      exact ai _ U ab _ _ (gp C5 (g4.trans J)) (by rw[zQ];show some (CO.lst ((ys++Y).map zY++[((ah,U,ex+1,q):ug)].map zY))=_;rw[<- AG];rfl) ((yQ n2).trans (J _ _ ag)) (Kp.p _) (λf=>(Ao _).symm) ir (.inr ⟨(Kp.p _) _ _ Z.n1 Z.n2 (J _ _ Z.m),Z.n1,Z.n2⟩)
     |give k n r ah =>
      refine gQ rfl ((dh (gQ rfl ((dh ?_)))));dsimp only[di.wn];refine aG (gQ rfl ((dh (ZS (j:=4) (by rfl) Th ?_))));show zW _ _ _ [xK ah] _ _;refine⟨lZ (J _ _ m4),eJ ⟨km,bK (J _ _ m4) (by rw[AA,AB];exact AE (show _<100000 by lia) Th) ?_⟩⟩
      exact ai _ U ab _ _ (gp C5 (g4.trans J)) (by rw[zQ];show some (CO.lst ((ys++Y).map zY++[((ah,U,ex+1,q):ug)].map zY))=_;rw[<- AG];rfl) ((yQ n2).trans (J _ _ ag)) (Kp.p _) (λf=>(Ao _).symm) ir (.inr ⟨(Kp.p _) _ _ Z.n1 Z.n2 (J _ _ Z.m),Z.n1,Z.n2⟩)
     |when r l1 l2 =>
      refine gQ rfl ((dh (gQ rfl ((dh ?_)))));dsimp only[di.wn];refine aG (gQ rfl ((gj (ZS (j:=2) (by rfl) Th ?_))));show zW _ _ _ [xK l1,xK l2] _ _;refine⟨lZ (J _ _ m4),eJ ⟨km,bK (J _ _ m4) (by rw[AA,AB];exact AE (show _<100000 by lia) Th) ?_⟩⟩
      refine⟨lZ zQ,eJ ⟨km,bK zQ (by rw[AB,AA,AB];show _+1<_;exact AE (show _<100000 by lia) Th) ?_⟩⟩;exact ai _ U ab _ _ (gp _ (gp C5 (g4.trans J))) (by rw[zQ,AI];show some (CO.lst ((ys++Y).map zY++[((l1,U,ex+1,q):ug),(l2,U,ex+1,q)].map zY))=_;rw[<- AG];rfl) ((yQ n2).trans ((yQ n2).trans (J _ _ ag))) ((Kp.p _).trans (Kp.p _)) (λf=>(Ao _).symm) ir (.inr ⟨((Kp.p _).trans (Kp.p _)) _ _ Z.n1 Z.n2 (J _ _ Z.m),Z.n1,Z.n2⟩)
     |each n r ah =>
      have cb:q.length<2:=by
       have:(j7 bs q r&&decide (q.length<2))=true:=h3;rw[Aq] at this;exact Af this.2
      refine gQ rfl ((dh (gQ rfl ((gj ?_)))));refine gQ rfl ⟨jg,λpn az=>lM (Gr.new az _ _ _ (J _ _ Z.m)) zQ (by rw[AA];exact AK (show q.length+1<=100000 by lia) Th) λaa aq=>?_⟩;have gn:Gr C5 (cQ (cQ C5 pn (.lst [.str n])) aa (.lst (q.map PV.str++[.str n]))):=(Gr.new az _).trans (Gr.new aq _)
      have ma:(cQ (cQ C5 pn (.lst [.str n])) aa (.lst (q.map PV.str++[.str n]))) aa=some (.lst ((q++[n]).map PV.str)):=by rw[zQ,AG];rfl
      have ar:C5 aa=none:=bZ (Gr.new az _) aq;dsimp only[di.wn];generalize cQ (cQ C5 pn (.lst [.str n])) aa (.lst (q.map PV.str++[.str n]))=C6 at *
      have m6:=gn _ _ (J _ _ m4);have b4:=gn _ _ (J _ _ ag);have a4:aa≠p:=λz=>by rw[z,J _ _ m4] at ar;cases ar
      have a5:aa≠O:=λz=>by rw[z,J _ _ ag] at ar;cases ar
      refine aG (gQ rfl ((dh (ZS (j:=3) (by rfl) Th ?_))));show zW _ _ _ [xK ah] _ _;refine⟨lZ m6,eJ ⟨km,bK m6 (by rw[AA,AB];exact AE (show _<100000 by lia) Th) ?_⟩⟩;exact ai _ aa ab _ _ (gp C6 (g4.trans (J.trans gn))) (by rw[zQ];show some (CO.lst ((ys++Y).map zY++[((ah,aa,ex+1,q++[n]):ug)].map zY))=_;rw[<- AG];rfl) ((yQ n2).trans b4) ((Kp.of gn).trans (Kp.p _)) (λf=>(Ao _).symm) ir (.inr ⟨(Kp.p _) _ _ a4 a5 ma,a4,a5⟩)
    .refine bg ?_ C5 (g4.trans J)
     rw[<- e,Ln.ju];show(_&&(l.fit bs ex q&&_))=false;rw[Ln.j9,h3]
     simp
  .rintro ρ C4 ⟨ds,es,Y,ab,y8,y9,b7,e,hz,rfl,m4,ag,⟨Z,a0⟩,⟨bz,bx,br⟩,⟨aw,ax⟩,g4⟩
   cases es with
   |cons c es=>cases hz
   |nil =>
    rw[AM] at e;subst e;refine bh (jq ((ys++Y).map to3)) _ _ (by rw[AG,vK,AG,vK,show jq ([(ds,U,ex,q)].map to3)=1+3*Ln.d9 ds from An _];lia) ⟨ys++Y,ab,c+ds.length,_,_,_,_,_,_,rfl,by rw[AG,vK];lia,⟨by rw[AG,nM];lia,by lia,by rw[AG,Al,aw];exact ef,λf=>?_⟩,a0,rfl,m4,ag,g4⟩;rw[AG,Al,<- eg f]
    have:=ax f;revert this;cases ab.all f<;>cases (Y.map to3).all (FQ f)<;>cases gs.all f<;>cases (Ln.gls ds).all f<;>cases (ys.map to3).all (FQ f)<;>simp
 .rintro av C' ⟨gs,c,x5,x6,x7,x8,x9,af,rfl,m,⟨rfl,hl⟩,h1,h2,g⟩
  refine gk ?_;rw[show decide (((Ln.d9 ls:Nat):Int)<=30)=decide (Ln.d9 ls<=30) from by congr 1;exact propext ⟨λh=>by lia,λh=>by lia⟩];rw[h1,Ao] at q1 q2;exact gJ (λh=>q1 h gs h2 ir O C' bb g m) λh=>q2 h C' g
end
def zP l:decide ( fR l<((l.length:Nat):Int)) = !decide l.Nodup:=by
 have h1:=Jt l;have h2:=Ju l
 by_cases h:l.Nodup
 .lia
 .lia
section
variable{W:Wd}{a:Adr}
inductive Pk(ts:List PV)(C:CH)(Q:K1):Prop
 |mk(x:Pt)(z0:ts=[x.pv])(zo:Mh x)(z1:qp x=true->∀gs:List Str,(∀f,gs.all f=(Ln.gls x.ls).all f)->gs.length<=3000->gH C (gs.map PV.str) Q)(z2:qp x=false->∀C',Gr C C'->Q .non C')
def Hl(T:Tx W a){k:Nat}:Ok W a (k+9) 41 ["_law_thing"] Pk:=by
 have S:=(T.F 41 rfl).s;have vJ:=gC (k:=k+7) T;have uV:=X7 (k:=k+7) T;have zU:=WG (k:=k+3) T;have xT:=Hm (k:=k) T
 refine(T.F 41 rfl).ok (λts C R h=>?_) λar A outer s H E U=>⟨_,(xQ (nQ (dq (dN (vX (zX (aQ sQ nX rfl T.lQ rfl (qQ (cv 0) (c7 (oZ rfl T.xZ rfl)))))) (dN (ct2 xY zV (gw T.tX (cv 0)) jQ) (dm (vX (zX (cf (T.F 31 rfl) vJ U (c7 (cx (cv 0) jQ))))))))) (kQ (uQ jZ)) pQ)
  (xQ (nQ (dq (dN (vX (zX (aQ sQ nX rfl T.lQ rfl (qQ (cx (cv 0) jQ) (c7 (oZ rfl T.xZ rfl)))))) (dm (ct2 oW eK (gw T.tX (cx (cv 0) jQ)) jQ)))) (kQ (uQ jZ)) pQ)
  (xQ (mV PassesOwn.never rfl (cx (cv 0) jQ) (jl 1 S.nd) (xQ (nQ (dq (dN (vX (zX (aQ sQ nX rfl T.lQ rfl (qQ (cv 1) (c7 (oZ rfl T.xZ rfl)))))) (dm (ct2 xY zV (gw T.tX (cv 1)) jQ)))) (kQ (uQ jZ)) pQ)
  (kQ (nQ (dq (dN (vX (zX (cf (T.F 31 rfl) vJ U (c7 (cx (cv 1) jQ))))) (dm (vX (zX (cf (T.F 32 rfl) uV U (c7 (cx (cv 1) jQ)))))))) (kQ (uQ jZ)) pQ))))
  (xQ (KR 1 (i:=2) Th (show(["_law_thing","?","_law_boxes"]:List Str).Nodup by decide +kernel) rfl (Or.inl rfl) rfl (show(["_law_box","_law_thing","?","_law_boxes"]:List Str).Nodup by decide +kernel) (dD (N:=["_law_thing","?","_law_boxes"]) (sc:=vZ (top 74)) (L:=0) rfl rfl rfl gf) (qK (cx (cv 0) jQ)) (λ_ _ _ _ _=>fZ) (λ_ _ _ _ _=>(cx (cv 0) jQ)))
  (xQ (nQ (ct2 xF qU (tI rfl T.tX T.Vl (cv 2)) (gw T.tX (cv 2))) (kQ (uQ jZ)) pQ)
  (xQ (nQ (dq (dN (vX (zX (cf (T.F 36 rfl) zU U (qQ (cx (cv 0) jQ) (qQ (cv 2) (c7 (oQ cX))))))) (dm (ct2 oW eK (gw T.tX (cx (cv 0) jQ)) jQ)))) (kQ (uQ jZ)) pQ)
  (kQ (uQ (cf (T.F 40 rfl) xT U (qQ (cx (cv 0) jQ) (c7 (cv 2)))))))))))),?_⟩
 .obtain⟨_,rfl,_⟩:=h;rfl
 rintro ts C R ⟨x,rfl,B,J,q⟩
 delta qp R5 at J q
 refine wX rfl rfl (lX (mX (mQ (eQ _ _) (bQ rfl (gQ rfl (gM.mk x.name rfl B.nm λC1 af=>lX (fQ ?_)))))));refine gQ rfl (wX rfl rfl (lX (gQ rfl (mX (gk ?_)))));rw[AA];refine gJ (λh=>?_) λh=>fQ ?_
 .exact q (by rw[AW (show ¬ x.first.length<=4 by have:=Af h;lia)];simp) C1 af
 have h4:x.first.length<=4:=by have:=BI h;lia
 rw[AU h4,Ao] at J q;refine wV (aG (gQ rfl ?_));refine uJ (λzs ρ C'=>∃ds es x1,ds++es=x.first/\zs=es.map nW/\ρ=[some x.pv,x1,none]/\Gr C C') ?_ ?_ _ _ _ ⟨[],x.first,_,rfl,rfl,rfl,af⟩
 .rintro z zs ρ C2 ⟨ds,es,x1,e,hz,rfl,g⟩ L hL
  cases es with
  |nil=>cases hz
  |cons c es =>
   obtain⟨rfl,rfl⟩:=AZ hz;have hc:=B.fs c (by rw[<- e];simp);refine wX rfl rfl (lX (mX (mQ (eQ _ _) (bQ rfl (fQ (gQ rfl (gM.mk c.1 rfl hc.1 λZ aa=>lX (gQ rfl (Yb.mk c.2 rfl hc.2 (lX (fQ ?_)))))))))));exact hL _ _ ⟨ds++[c],es,_,by rw[AI];exact e,rfl,rfl,g.trans aa⟩
 rintro ρ C2 ⟨ds,es,x1,e,hz,rfl,ah⟩;refine gQ rfl (JL (n:=(·.1)) (λc=>⟨_,rfl⟩) B.fl λp Z hp aa m3=>?_);have ag:=ah.trans aa;have Y:Z p=some (.lst (x.q8.map PV.str)):=m3;dsimp only[di.wn];refine Zh Y (by delta Pt.q8;rw[AA];lia) (nK Y (gk ?_));rw[AA,zP];refine gJ (λh=>?_) λh=>fQ ?_
 .have hn:¬ (x.first.map (·.1)).Nodup:=(by simpa using h:¬ x.q8.Nodup)
  exact q (by rw[AW hn];rfl) Z ag
 have hn:(x.first.map (·.1)).Nodup:=(by simpa using h:x.q8.Nodup);rw[AU hn,Ab] at J q;refine gQ rfl ⟨AF _,λaq ab=>Zn.mk x.q8 [] x.works p aq rfl (Gr.new ab _ _ _ Y) zQ B.wk λC4 g4=>?_⟩;have O:=ag.trans ((Gr.new ab _).trans g4);have ao:=g4 _ _ (Gr.new ab _ _ _ Y);refine j8 (λae=>?_) λae=>q (by rw[ae];rfl) C4 O;rw[ae,Ab] at J q
 refine gQ rfl (mX (gk ?_));rw[AA];refine gJ (λhl=>?_) λhl=>fQ ?_
 .exact q (by rw[AW (by have:=Af hl;lia)];rfl) C4 O
 rw[AU (by have:=BI hl;lia),Ab] at J q;exact gQ rfl (Pn.mk x.q8 x.ls p rfl ao B.ls B.tw (λh gs ai aj p5 C5 ak g5 m5=>J h gs ai aj p5 C5 (bZ O ak) (O.trans g5) m5) λh C5 g5=>q h C5 (O.trans g5))
end
end K15
namespace CL
open PySem PySem.Spec L2
open PyProof.Rows hiding St
section
variable{X:Cx}
def Ys{af U pos ah}(ak:X.N.Nodup)(hi:X.N[i]?=some y)(hy:Loc X.env.scope y)(hc:X.calm=true)(hN:(x::X.N).Nodup)(K:∃q,wB X x scope q)(hI:CE X Y ai)(ht:∀q J C L B,CF (lK X x scope q J C L B) ae t)(ao:∀q J C L B,CE (lK X x scope q J C L B) Z c)(hs:∀v,foldedSetIterable Y X.env v=pure v:=by intro _;rfl)(ar:swapsWith (.ListComp Z [⟨.Name x U,Y,ae,0⟩] scope pos) (some (.Name y af)) ah.line X.env=pure true:=by rfl)(aq:X.fn y=true\/X.env.scope.names.lookup y=some .local:=by first|exact .inl rfl|exact .inr rfl|assumption):
  CS X (.Assign [.Name y af] (.ListComp Z [⟨.Name x U,Y,ae,0⟩] scope pos) ah) (iI i (fW ai t c)):=by
 refine Yk K λq K=>⟨JS.weak (aA (te:=yK X.K (Rep X.K) c) (tc:=yK X.K sP t) ak hi hy hc hN K ⟨wA hI.h.h⟩ (λJ C L B=>(ht q J C L B).h) (λJ C L B=>(ao q J C L B).h) hs ar aq) λD σ H zz=>yZ zz λρ C E s h ag f=>?_⟩;unfold iI fW at ag
 exact⟨ρ,C,_,s,h,ag,λxv H1 U C1 O rx h1 aa=>by
  split at O
  .next a =>
   split at O
   .next xs e =>
    obtain⟨vs,aj,r⟩:=(h1 a _ e);cases rx;exact⟨a,rfl,⟨vs,SqL.of aj⟩,λD' hD=>Yx (Q:=λx H'=>D.nx (σ.set i (some x)) H') WY (s.dg (aa.dg h)) h1 O h aa (λx H2 U C2 q2 au h2 ab=>f.nx _ H2 _ C2 q2 ((s.dg (ab.dg h)).set au i) h2 ab) hD⟩
   .exact O.elim
  .exact O.elim⟩
end
end CL
namespace K15
open PySem L2 CL
noncomputable def t6(q:List Str)(k:Nat)(x:Pt):Bool:=!decide (x.name∈q.take k)&&(Ln.gls x.ls).all (inB (q.drop (k+1)))
def rA{k:Nat}(h:q[k]?=some x):(aZ q)[k]?=some x.name:=by simp_all[aZ]
def Ir(h:q[k]?=some x)(J:t6 (aZ q) k x=false):n6 q=false:=by
 cases e:n6 q with
 |false=>rfl
 |true =>
  delta n6 at e
  simp only[Bool.and_eq_true,List.all_eq_true,decide_eq_true_eq] at e
  obtain⟨_,⟨_,nd⟩,B⟩:=e;have h1:=B x (Ak h);unfold Ry at h1;rw[eD nd (rA h)] at h1
  delta t6 at J
  have h2:x.name∈(aZ q).take k:=by lia
  obtain⟨i,hi,Y⟩:=List.mem_take_iff_getElem.1 h2;obtain⟨O,U⟩:=(Aa.1 (rA h));have L:i<k:=by lia
  exact absurd (Y.trans U.symm) (Cp.1 nd i k ir O L)
def zj(h1:1<=q.length)(O:q.length<=6)(U:q.all qp=true)(B:∀k x,q[k]?=some x->t6 (aZ q) k x=true):n6 q=true:=by
 have nd:(aZ q).Nodup:=by
  refine Cp.2 λi j hi hj aa e=>?_;have Y:j<q.length:=by unfold aZ at hj;rwa[AA] at hj
  have g:=B j q[j] (AJ Y);unfold t6 at g;have L:q[j].name∉(aZ q).take j:=by lia
  refine L (List.mem_take_iff_getElem.2 ⟨i,by lia,?_⟩);exact e.trans (List.getElem_map _)
 delta n6
 rw[AU h1,AU O,U,AU nd];refine BM.2 λx Z=>?_;obtain⟨k,J⟩:=List.getElem?_of_mem Z;have g:=B k x J;unfold t6 at g;rw[Aq] at g
 delta Ry
 exact(eD nd (rA J))▸g.2
def MJ(C:CH)(x:Pt)(y:PV):Prop:=(qp x=false/\y=.non)\/(qp x=true/\∃(p:Addr)(q:List Str),y=.ref p/\C p=some (.lst (q.map PV.str))/\(∀f,q.all f=(Ln.gls x.ls).all f)/\q.length<=3000)
theorem MJ.gr(g:Gr C C'):MJ C x y->MJ C' x y
 |.inl h=>.inl h
 |.inr ⟨h,p,q,e,m,r⟩=>.inr ⟨h,p,q,e,g _ _ m,r⟩
inductive jn(C:CH):List Pt->List PV->Prop
 |nil:jn C [] []
 |cons {x y xs ys}:MJ C x y->jn C xs ys->jn C (x::xs) (y::ys)
theorem jn.gr(g:Gr C C'):∀{xs}{ys},jn C xs ys->jn C' xs ys
 |_,_,.nil=>.nil
 |_,_,.cons h r=>.cons (h.gr g) (r.gr g)
theorem jn.len:∀{xs}{ys},jn C xs ys->ys.length=xs.length
 |_,_,.nil=>rfl
 |_,_,.cons _ r=>by rw[AD,AD,r.len]
theorem jn.app:∀{xs}{ys},jn C xs ys->MJ C x y->jn C (xs++[x]) (ys++[y])
 |_,_,.nil,h=>.cons h .nil
 |_,_,.cons g r,h=>.cons g (r.app h)
theorem jn.at{k:Nat}:∀{xs}{ys},jn C xs ys->xs[k]?=some x->∃y,ys[k]?=some y/\MJ C x y:=by
 intro xs ys h
 induction h generalizing k with
 |nil=>intro z;cases z
 |cons g r q =>
  intro z
  cases k with
  |zero=>cases z;exact⟨_,rfl,g⟩
  |succ k=>exact q z
theorem jn.non:∀{xs}{ys},jn C xs ys->(∀t∈ys,t=.non\/∃b us,t=.ref b/\C b=some (.lst us))/\ys.any vG = !xs.all qp:=by
 intro xs ys h
 induction h with
 |nil=>exact⟨λt q=>(by cases q),rfl⟩
 |cons g r J =>
  refine⟨λt q=>?_,?_⟩
  .rcases Ah.1 q with rfl|q
   .rcases g with ⟨_,e⟩|⟨_,p,B,e,m,_⟩
    .exact .inl e
    .grind
   .simp_all
  .rw[BN,BS,J.2]
   rcases g with ⟨h,rfl⟩|⟨h,p,B,rfl,_⟩
   .rw[h];rfl
   .rw[h];rfl
def Yr{ss:List Str}n:yY (ss.map PV.str) none (some (n:Nat))=(ss.take n).map PV.str:=by simp_all[yY,HT.sIx_none,HT.sIx_nat,List.length_map,List.map_take,Nat.sub_zero,Nat.min_eq_left,Nat.min_eq_right]
theorem fF(L:∀C,Gr C0 C->S C)f:∀(B ds:List Str)C,Gr C0 C->ds.length+B.length<=3000->(∀g C k,Gr C0 C->(∀C',Gr C C'->k (!f g) C')->t (some (.str g)::ρ) C k)->(∀p C' ys,C0 p=none->Gr C0 C'->C' p=some (.lst ys)->ys.isEmpty=(ds.isEmpty&&B.all f)->Q (.ref p) C')->oY S t (zK 0) ρ Q (B.map PV.str) (ds.map PV.str) C
 |[],ds,C,g,l,O,q=>⟨L C g,λp J=>q p _ _ (bZ g J) (g.trans (Gr.new J _)) zQ (by simp_all)⟩
 |x::B,ds,C,g,l,O,q=>by
  rw[AD] at l;refine⟨L C g,O x C _ g λC' g'=>O5 (λh=>?_) λh=>?_⟩
  .have Y:f x=false:=by lia
   refine⟨by rw[AA];exact AE (show _<3001 by lia) Th,?_⟩;have e:ds.map PV.str++[.str x]=(ds++[x]).map PV.str:=by rw[AG];rfl
   rw[e];refine fF L f B (ds++[x]) C' (g.trans g') (by grind) O λp C2 ys J U m h2=>q p C2 ys J U m (h2.trans ?_);rw[BS,Y];cases ds<;>rfl
  .have Y:f x=true:=by simpa using h
   refine fF L f B ds C' (g.trans g') ir O λp C2 ys J U m h2=>q p C2 ys J U m (h2.trans ?_);rw[BS,Y,Ab]
def QA(h:z::zs=((List.range N).drop j).map (λk:Nat=>PV.int (k:Nat))):j<N/\z=.int j/\zs=((List.range N).drop (j+1)).map (λk:Nat=>PV.int (k:Nat)):=by
 grind[List.drop_of_length_le,List.drop_eq_getElem_cons,List.map_cons,List.getElem_range,List.length_range]
section
variable{W:Wd}{a:Adr}
inductive IK(ts:List PV)(C:CH)(Q:K1):Prop
 |mk(pts:List Pt)(z0:ts=[.tup (pts.map Pt.pv)])(zo:∀x∈pts,Mh x)(zn:1<=pts.length)(zl:pts.length<=1000)(z1:∀C',Gr C C'->Q (.bl (n6 pts)) C')
def Hq(T:Tx W a){k:Nat}:Ok W a (k+10) 49 ["_law_thing"] IK:=by
 have S:=(T.F 49 rfl).s;have jT:=Hl (k:=k) T
 refine(T.F 49 rfl).ok (λts C R h=>?_) λa6 A outer s H E q=>⟨_,(xQ (oH (i:=1) S.nd rfl (Or.inl rfl) rfl (S.c gf) (S.k rfl rfl rfl gf) (qK (cv 0)) (λ_ _ _ _ _=>fZ) (λ_ _ _ _ _=>(cf (T.F 41 rfl) jT q (c7 (cv 0)))))
  (xQ (nQ (dq (dN (ct2 oW eK (gw T.tX (cv 0)) jQ) (dm (xJ (w6 (dG q)) Yu jZ (cv 1) rfl)))) (kQ (uQ sX)) pQ)
  (xQ (fj 2 S.nd (sZ rfl (S.c gf) (S.k rfl rfl rfl gf) (qK (cv 0)) (λ_ _ _ _ _=>fZ) (λ_ _ _ _ _=>(cx (cv 0) jQ))))
  (xQ (bD PassesOwn.never rfl rfl T.dW (c7 (gw T.tX (cv 0))) (jl 3 S.nd) (xQ (Ys (i:=4) S.nd rfl (Or.inl rfl) rfl (S.c gf) (S.k rfl rfl rfl gf) (cx (cv 1) (cv 3)) (λ_ _ _ _ _=>(Zz (xJ eZ dJ (cv 0) (eU (cv 3) (oJ (uX jX xX (cv 4) jQ)) uK) rfl))) (λ_ _ _ _ _=>(cv 0)))
  (kQ (nQ (dq (dN (xJ bW dJ (cx (cv 2) (cv 3)) (eU (cv 2) uK (oJ (cv 3))) rfl) (dm (ct2 (wC (vI q)) rL (cv 4) (oQ cX))))) (kQ (uQ sX)) pQ))))
  (kQ (uQ sX)))))),?_⟩
 .obtain⟨_,rfl,_⟩:=h;rfl
 rintro ts C R ⟨av,rfl,ho,hn,hl,aw⟩;refine mW (λzs B C'=>Gr C C'/\∃ds es:List Pt,ds++es=av/\zs=es.map Pt.pv/\jn C' ds B) ?_ ?_ _ _ _ ⟨Gr.refl,[],av,rfl,rfl,.nil⟩
 .rintro x zs B C1 ⟨g,ds,es,e,J,q⟩ L hL
  cases es with
  |nil=>cases J
  |cons c es =>
   obtain⟨rfl,rfl⟩:=AZ J
   have aa:B.length<sizeLine:=by
    rw[q.len];have:=A9 List.length e;rw[AB,AD] at this;exact AE (show ds.length<1000 by lia) Th
   refine Pk.mk c rfl (ho c (by rw[<- e];simp)) (λU gs ah aq p C2 a8 Z m2=>hL _ _ ⟨aa,g.trans Z,ds++[c],es,by rw[AI];exact e,rfl,(q.gr Z).app (.inr ⟨U,p,gs,rfl,m2,ah,aq⟩)⟩) λU C2 Z=>hL _ _ ⟨aa,g.trans Z,ds++[c],es,by rw[AI];exact e,rfl,(q.gr Z).app (.inl ⟨U,rfl⟩)⟩
 rintro B C1 ⟨g,ds,es,e,J,q⟩ p U
 cases es with
 |cons c es=>cases J
 |nil =>
  rw[AM] at e;subst e;have m1:cQ C1 p (.lst B) p=some (.lst B):=zQ;have af:Gr C (cQ C1 p (.lst B)):=g.trans (Gr.new U _);have r1:=q.gr (Gr.new U (.lst B));clear q;generalize cQ C1 p (.lst B)=C2 at *
  dsimp only[di.wn];refine mX (gk ?_);rw[AA];have ae:∀{C':CH},n6 ds=false->Gr C C'->R (.bl false) C':=λh g=>by have:=aw _ g;rw[h] at this;exact this
  refine gJ (λh=>?_) λh=>?_
  .refine yH rfl (ae ?_ af)
   delta n6
   rw[AW (show ¬ ds.length<=6 by have:=Af h;lia),A2]
   rfl
  have h6:ds.length<=6:=by have:=BI h;lia
  refine Im m1 r1.non.1 ?_;rw[r1.non.2];refine gJ (λh=>?_) λh=>fQ ?_
  .have ab:ds.all qp=false:=by simpa using h
   refine ae ?_ af
   delta n6
   rw[ab,Co,Co,A2]
  have ab:ds.all qp=true:=by
   cases e:ds.all qp with
   |true=>rfl
   |false=>rw[e] at h;cases h
  refine JL (λc=>⟨_,rfl⟩) hl λp3 C3 a9 ag m3=>?_;have mn:C3 p3=some (.lst ((aZ ds).map PV.str)):=m3;have a3:=ag _ _ m1;have r3:=r1.gr ag;have ak:=af.trans ag;clear r1 m1 m3;dsimp only[di.wn];refine mZ (λa5 C'=>Gr C C'/\∀k x,ds[k]?=some x->t6 (aZ ds) k x=true) (λL hL=>?_) λa5 C' zz=>lL zz λg h=>(by have:=aw C' g;rw[zj hn h6 ab h] at this;exact this);refine mX ⟨by lia,by rw[AA];lia,?_⟩
  rw[AA,BU];refine uJ (λzs ρ C'=>∃(k:Nat)(x3 x4:Option PV),ρ=[some (.tup (ds.map Pt.pv)),some (.ref p),some (.ref p3),x3,x4]/\zs=((List.range ds.length).drop k).map (λk:Nat=>PV.int (k:Nat))/\Gr C3 C'/\∀j x,j<k->ds[j]?=some x->t6 (aZ ds) j x=true) ?_ ?_ _ _ _ ⟨0,_,_,rfl,rfl,Gr.refl,λj x hj=>by lia⟩
  .rintro z zs ρ C4 ⟨k,x3,x4,rfl,J,O,hk⟩ L1 az
   obtain⟨aa,rfl,rfl⟩:=QA J;have ex:=AJ aa;obtain⟨y,hy,gy⟩:=(r3.gr O).at ex;have ao:=BM.1 ab _ (BJ aa)
   rcases gy with ⟨z,_⟩|⟨_,pg,gs,rfl,mg,ah,aq⟩
   .rw[z] at ao;cases ao
   have a4:=O _ _ a3;have ar:=O _ _ mn;refine aX ?_
   delta fW
   refine tZ a4 (iK hy) ?_;dsimp only;rw[mg];refine fF (λC' g=>g _ _ mg) (inB ((aZ ds).drop (k+1))) gs [] C4 Gr.refl (by show 0+_<=_;lia) (λn C5 K g5 ay=>?_) λp5 C5 ys ba g5 m5 h5=>?_
   .refine eJ (yP (g5 _ _ ar) λp6 Y=>?_)
    refine mP (ss:=(aZ ds).drop (k+1)) ?_ (ay _ (Gr.new Y _));show(match cQ C5 p6 _ p6 with|some (.lst xs)=>some xs|_=>none)=_;rw[zQ,Xi]
   have ax:ys.isEmpty=(Ln.gls ds[k].ls).all (inB ((aZ ds).drop (k+1))):=by rw[h5,ah];rfl
   have au:=g5 _ _ ar;refine tZ au (iK (show((aZ ds).map PV.str)[k]?=some (.str ds[k].name) by rw[Ag,rA ex];rfl)) (yP au λp6 Y=>?_);refine Il (ss:=(aZ ds).take k) ?_ ?_
   .show(match cQ C5 p6 _ p6 with|some (.lst xs)=>some xs|_=>none)=_
    rw[zQ,Yr]
   have aj:t6 (aZ ds) k ds[k]=false->∀{C':CH},Gr C5 C'->R (.bl false) C':=λh C' g=>ae (Ir ex h) (ak.trans (O.trans (g5.trans g)));refine gJ (λhb=>yH rfl (aj ?_ (Gr.new Y _))) λhb=>?_
   .delta t6
    rw[hb]
    rfl
   have m6:=Gr.new Y (.lst (yY ((aZ ds).map PV.str) none (some (k:Int)))) _ _ m5;refine⟨AF _,λp7 ai=>nA (Gr.new ai _ _ _ m6) zQ ?_⟩;rw[ax];refine gJ (λhc=>aj ?_ ((Gr.new Y _).trans (Gr.new ai _))) λhc=>fQ (az _ _ ⟨k+1,_,_,rfl,rfl,O.trans (g5.trans ((Gr.new Y _).trans (Gr.new ai _))),λj x hj hx=>?_⟩)
   .delta t6
    have a0:(Ln.gls ds[k].ls).all (inB ((aZ ds).drop (k+1)))=false:=by simpa using hc
    rw[a0,A2]
   .rcases DC j k with h|h
    .exact hk j x h hx
    .obtain rfl:j=k:=by lia
     rw[ex] at hx;cases hx
     delta t6
     rw[hb]
     cases e:(Ln.gls ds[j].ls).all (inB ((aZ ds).drop (j+1))) with
     |true=>rfl
     |false=>rw[e] at hc;cases hc
  .rintro ρ C4 ⟨k,x3,x4,rfl,J,O,hk⟩
   refine hL _ _ ⟨ak.trans O,λj x hj=>hk j x ?_ hj⟩;have a7:=(Aa.1 hj).1
   have:k >= ds.length:=by
    rcases DC k ds.length with h|h
    .rw[Az (by rwa[Ax])] at J
     cases J
    .exact h
   lia
end
theorem Ln.lg:∀{d}{l:Ln},l.gd d->l.gd (d+1)
 |0,l,h=>by cases l<;>exact h.elim
 |d+1,.plain _ _ _ _ _,h=>⟨h.1,h.2.1,λx q=>Ln.lg (h.2.2.1 x q),h.2.2.2⟩
 |d+1,.part _ _ _,h=>h
 |d+1,.give _ _ _ _,h=>⟨h.1,h.2.1,λx q=>Ln.lg (h.2.2.1 x q),h.2.2.2⟩
 |d+1,.when _ _ _,h=>⟨h.1,⟨λx q=>Ln.lg (h.2.1.1 x q),h.2.1.2⟩,λx q=>Ln.lg (h.2.2.1 x q),h.2.2.2⟩
 |d+1,.each _ _ _,h=>⟨h.1,λx q=>Ln.lg (h.2.1 x q),h.2.2⟩
def Ln.Pa{l:Ln}(h:l.gd d)(q:d<=d'):l.gd d':=by
 induction q with
 |refl=>exact h
 |step _ B=>exact Ln.lg B
structure jt(d:Nat)(l:Ln):Prop where
 g:l.gd d
 r:l.rows.length<=5*l.tw
def jt.le(h:jt d l)(q:d<=d'):jt d' l:=⟨Ln.Pa h.g q,h.r⟩
theorem bY:∀{ls},(∀l∈ls,l.rows.length<=5*l.tw)->(Ln.d7 ls).length<=5*Ln.d9 ls
 |[],_=>AQ _
 |l::ls,h=>by
  have h1:=h l AL;have h2:=bY λx q=>h x (AH _ q);show(l.rows++Ln.d7 ls).length<=5*(l.tw+Ln.d9 ls);rw[AB]
  lia
def zB(U:j6 k)(Y:qZ J=true)(h1:o7 s)(h2:∀x∈hs,ut x)(Z:s.length+(hs.flatMap Hd.dw).length<=3)(L:hs.length<=1000)(B:∀x∈ls,jt d x)(O:ls.length<=1000):jt (d+1) (.plain k J s hs ls):=by
 refine⟨⟨⟨U,Y⟩,⟨h1,h2,L⟩,λx q=>(B x q).g,O⟩,?_⟩;have:=bY λx q=>(B x q).r;show(((("plain":Str))::J::jb k)::(s.map (lr "set")++(hs.flatMap Hd.dw++(Ln.d7 ls++[[("end":Str)]])))).length<=5*(1+Ln.d9 ls)
 simp only[List.length_cons,List.length_append,List.length_map,List.length_nil]
 lia
def YQ(q:j6 k)(B:qZ n=true)(h1:o7 g)(J:g.length<=3):jt (d+1) (.part k n g):=by
 refine⟨⟨⟨q,B⟩,h1⟩,?_⟩;show(((("draw":Str))::n::jb k)::g.map (lr "with")).length<=5*1;rw[AD,AA]
 lia
def YR(L:j6 k)(O:qZ n=true)(h1:Rg r)(B:∀x∈ls,jt d x)(J:ls.length<=1000):jt (d+1) (.give k n r ls):=by
 refine⟨⟨⟨L,O⟩,h1,λx q=>(B x q).g,J⟩,?_⟩;have:=bY λx q=>(B x q).r;show(((("give":Str))::n::(r.dw++jb k))::(Ln.d7 ls++[[("end":Str)]])).length<=5*(1+Ln.d9 ls)
 simp only[List.length_cons,List.length_append,List.length_nil]
 lia
def ZF(h1:Rg r)(L:∀x∈B,jt d x)(U:B.length<=1000)(O:∀x∈J,jt d x)(Y:J.length<=1000):jt (d+1) (.when r B J):=by
 refine⟨⟨h1,⟨λx q=>(L x q).g,U⟩,λx q=>(O x q).g,Y⟩,?_⟩;have:=bY λx q=>(L x q).r;have:=bY λx q=>(O x q).r;show(((("when":Str))::r.dw)::(Ln.d7 B++([("else":Str)]::(Ln.d7 J++[[("end":Str)]])))).length<=5*(1+(Ln.d9 B+Ln.d9 J))
 simp only[List.length_cons,List.length_append,List.length_nil]
 lia
def YS(L:qZ n=true)(h1:Rg r)(B:∀x∈ls,jt d x)(J:ls.length<=1000):jt (d+1) (.each n r ls):=by
 refine⟨⟨⟨h1,L⟩,λx q=>(B x q).g,J⟩,?_⟩;have:=bY λx q=>(B x q).r;show(((("each":Str))::n::r.dw)::(Ln.d7 ls++[[("end":Str)]])).length<=5*(1+Ln.d9 ls)
 simp only[List.length_cons,List.length_append,List.length_nil]
 lia
structure oh(n:Nat)(x:Pt):Prop where
 nm:qZ x.name=true
 fs:∀c∈x.first,qZ c.1=true/\Bd c.2
 fl:x.first.length<=6
 wk:o7 x.works
 wl:x.works.length<=6
 ls:∀l∈x.ls,jt 12 l
 ll:x.ls.length<=n
 tw:Ln.d9 x.ls<=n
theorem oh.g(h:oh n x)(B:n<=1000):Eh x:=⟨h.nm,h.fs,AK h.fl Th,h.wk,λl q=>(h.ls l q).g,AK h.ll B⟩
def oh.w(h:oh n x)(B:n<=1000):Mh x:=⟨h.nm,h.fs,AK h.fl Th,h.wk,⟨12,λl q=>(h.ls l q).g⟩,AK h.ll B,AK h.tw ir⟩
def oh.le(h:oh n x)(q:n<=m):oh m x:=⟨h.nm,h.fs,h.fl,h.wk,h.wl,h.ls,AK h.ll q,AK h.tw q⟩
def oh.rl(h:oh n x):x.rows.length<=13+5*n:=by
 have h1:=bY λl q=>(h.ls l q).r;have:=h.fl;have:=h.wl;have:=h.tw
 delta Pt.rows
 simp only[List.length_cons,List.length_append,List.length_map]
 lia
theorem FN:∀{q},(∀x∈q,oh n x)->(gZ q).length<=(13+5*n)*q.length
 |[],_=>AQ _
 |x::q,h=>by
  have h1:=(h x AL).rl;have h2:=FN λy B=>h y (AH _ B);show(x.rows++gZ q).length<=_;rw[AB,AD]
  lia
def RN(h1:qZ c.1=true)(h2:Rg c.2):o7 [c]:=⟨λx q=>by rw[AR.1 q];exact⟨h1,h2⟩,by show 1<=1000;decide⟩
def Nm:o7 []:=⟨λx q=>(by cases q),AF _⟩
def Fq:j6 none:=λr e=>by cases e
def RQ(h:Rg r):j6 (some r):=λq e=>by cases e;exact h
def X2(h:Bd i):Rg (.num i):=⟨h,by show 1<=30;decide⟩
def jA(h:qZ n=true):Rg (.turn n):=⟨h,by show 2<=30;decide⟩
noncomputable def pY(ls:List Ln):List Ln:=ls.drop (ls.length-1)
def QS ls:(pY ls).length<=1:=by delta pY;rw[List.length_drop];omega
def QR(h:x∈pY ls):x∈ls:=List.mem_of_mem_drop h
def yg(h:∀x∈ls,x.tw<=n):Ln.d9 (pY ls)<=n:=by
 have h1:=QS ls;have h2:=λx q=>h x (QR q);generalize pY ls=zs at h1 h2
 match zs,h1 with
 |[],_=>exact AF _
 |[z],_=>exact h2 z AL
def Xh ls:yY (Ln.ik ls) (some (-1)) none=Ln.ik (pY ls):=by
 delta yY
 have B:(Ln.ik ls).length=ls.length:=by rw[Ln.d8,AA]
 have q:HT.sIx (Ln.ik ls).length 0 (some (-1:Int))=ls.length-1:=by
  delta HT.sIx
  dsimp only;rw[ B]
  lia
 rw[q,HT.sIx_none,Ln.d8,Ln.d8,<- List.map_drop];exact BO (by grind)
def Z4 xs ys:Ln.ik (xs++ys)=Ln.ik xs++Ln.ik ys:=by grind[Ln.d8,List.map_append]
theorem kA xs:(Ln.ik xs).length=xs.length:=by rw[Ln.d8,AA]
noncomputable def wt:Nat->Nat
 |0=>0
 |n+1=>2+2*wt n
def MT n:wt n<=wt (n+1):=by show wt n<=2+2*wt n;lia
theorem XW:∀{ls},(∀x∈ls,x.tw<=n)->Ln.d9 ls<=n*ls.length
 |[],_=>AQ _
 |l::ls,h=>by
  have h1:=h l AL;have h2:=XW λx q=>h x (AH _ q);show l.tw+Ln.d9 ls<=n*(ls.length+1)
  lia
def Ex.no(g:Ex t C C')(n:p≠t)(h:C' p=Option.none):C p=Option.none:=by
 cases e:C p with
 |none=>rfl
 |some o=>rw[g p o n e] at h;cases h
def Ex.put(g:Ex t C C1)(q:C p=none)o:Ex t C (cQ C1 p o):=λb u n e=>by
 rw[yQ (λz=>by subst z;rw[q] at e;cases e)];exact g b u n e
def Tp.put(h:Tp C t B)(q:p≠t)o:Tp (cQ C p o) t B:=by
 obtain⟨⟨a,b,c,e,r⟩,l⟩:=h;exact⟨⟨a,b,c,by exact(yQ (Ne.symm q))▸e,r⟩,l⟩
def Ex.of(g:Gr C C'):Ex t C C':=λb o _ e=>g b o e
def Tp.gr(h:Tp C t q)(g:Gr C C'):Tp C' t q:=by
 obtain⟨⟨a,b,c,e,r⟩,l⟩:=h;exact⟨⟨a,b,c,g _ _ e,r⟩,l⟩
def VR(h0:0<=k)(h1:k<64)(q:Q (.tup (List.replicate k.toNat z)) C):JY (.tup [z]) (.int k) C Q:=by
 delta JY
 exact⟨h0,h1,q⟩
theorem Z3 l:∀n,Ln.ik (List.replicate n l)=List.replicate n l.pv
 |0=>rfl
 |n+1=>by
  show l.pv::Ln.ik (List.replicate n l)=_;rw[Z3 l n]
  rfl
section
variable{W:Wd}{a:Adr}
def gI(U:Tp C t L)(Y:C p=some (.lst xs))(Z:p≠t)(hl:xs.length<=1000)(ab:(xs.length:Int)=m)(h0:0<m)(q:∀y∈xs,∀C',Tp C' t L->Ex t C C'->Q y C'):kK [.ref t,.int m] C λv C1=>o5 (.ref p) v C1 Q:=by
 refine kK.mk t m L rfl U h0 ir λv C1 aa ae O B=>?_;have J:v.toNat<xs.length:=by lia
 exact(Int.toNat_of_nonneg aa)▸tZ (B p _ Z Y) (iK (AJ J)) (q _ (BJ J) C1 O B)
def iB xs(B:Tp C t Z)(J:xs.length<=1000)(U:(xs.length:Int)=m)(h0:0<m)(aa:∀y∈xs,∀C',Tp C' t Z->Ex t C C'->Q y C'):xs.length<=sizeLine/\∀p,C p=none->kK [.ref t,.int m] (cQ C p (.lst xs)) λv C1=>o5 (.ref p) v C1 Q:=
 ⟨AK J Th,λp q=>gI (B.new q _) zQ (B.ne q) J U h0 λy Y C' L O=>aa y Y C' L ((Ex.new q _).trans O)⟩
inductive Iz(ts:List PV)(C:CH)(Q:K1):Prop
 |mk(t:Addr)(ns:List Int)(z0:ts=[.ref t])(z1:Tp C t ns)(z2:∀(r:Rk)(C':CH),Rg r->Tp C' t ns->Ex t C C'->Q r.pv C')
def Wy(T:Tx W a):Ok W a 2 50 U5 Iz:=by
 have S:=(T.F 50 rfl).s;have fX:=mG T
 refine(T.F 50 rfl).ok (λts C R h=>?_) λai A outer s H E J=>⟨_,(xQ (fj 1 S.nd (oQ (qQ (dQ (qQ wQ (c7 (eW tK sJ (uX bA tH jQ jQ))))) (qQ (dQ (qQ wQ (c7 wQ))) (qQ (dQ (qQ wQ (c7 wQ))) (qQ (dQ (qQ wQ (c7 wQ))) (qQ (dQ (qQ wQ (c7 wQ))) (c7 (dQ (qQ wQ (c7 wQ)))))))))))
  (xQ (fj 2 S.nd (cx (cv 1) (cf (T.F 27 rfl) fX J (qQ (cv 0) (c7 jQ)))))
  (xQ (nQ (ct2 rX yX (cf (T.F 27 rfl) fX J (qQ (cv 0) (c7 jQ))) jQ) (kQ (bD PassesOwn.never rfl rfl T.dW (c7 (uX jX xX jQ (cf (T.F 27 rfl) fX J (qQ (cv 0) (c7 jQ))))) (jl 3 S.nd) (kQ (fj 2 S.nd (dQ (qQ wQ (qQ (dQ (qQ wQ (c7 (cv 3)))) (c7 (cv 2))))))))) pQ)
  (kQ (uQ (cv 2)))))),?_⟩
 .obtain⟨_,_,rfl,_⟩:=h;rfl
 rintro ts C R ⟨t,aa,rfl,hT,ah⟩;refine aX ⟨⟨Th,Th,Th⟩,Th,Th,Th,Th,Th,Th,Th,λp hp=>?_⟩;refine aX (gI (hT.new hp _) zQ (hT.ne hp) Th rfl Th λy hy C1 T1 e1=>?_)
 obtain⟨r,rfl,q,Y⟩:∃r:Rk,y=r.pv/\r.gd/\r.dw.length<=2:=by
  simp only[List.mem_cons,List.not_mem_nil,or_false] at hy
  rcases hy with rfl|rfl|rfl|rfl|rfl|rfl
  .exact⟨.num _,rfl,⟨Th,Th⟩,Th⟩
  .exact⟨.ask "box" "a",rfl,⟨.inr (.inr rfl),gf⟩,AQ _⟩
  .exact⟨.ask "box" "zz",rfl,⟨.inr (.inr rfl),gf⟩,AQ _⟩
  .exact⟨.turn "t",rfl,(by show qZ "t"=true;decide +kernel),AQ _⟩
  .exact⟨.turn "x",rfl,(by show qZ "x"=true;decide +kernel),AQ _⟩
  .exact⟨.ask "down" "end",rfl,⟨.inr (.inl rfl),gf⟩,AQ _⟩
 have ab:=(Ex.new hp _).trans e1;refine mZ (λae C'=>∃r B,ae=[some (.ref t),some (.ref p),some r.pv,B]/\Rg r/\Tp C' t aa/\Ex t C C') (λL hL=>?_) ?_
 .refine kK.mk t 4 aa rfl T1 Th Th λv C2 aj ak O U=>mQ (eQ _ _) (gJ (λhb=>?_) λhb=>fQ (hL _ _ ⟨r,_,rfl,⟨q,by lia⟩,O,ab.trans U⟩))
  refine kK.mk t 5 aa rfl O Th Th λw C3 w0 w1 T3 e3=>eJ ⟨by lia,by lia,?_⟩;refine uJ (λzs ρ C'=>∃r B,ρ=[some (.ref t),some (.ref p),some r.pv,B]/\r.gd/\r.dw.length+2*zs.length<=26/\(∀z∈zs,∃k:Nat,z=.int k/\k<=100)/\Tp C' t aa/\Ex t C C') ?_ ?_ _ _ _ ⟨r,_,rfl,q,by rw[AA,Ax];lia,λz Z=>?_,T3,(ab.trans U).trans e3⟩
  .rintro z zs ρ C4 ⟨r,B,rfl,q,Y,Z,T4,e4⟩ L1 af
   obtain⟨k,rfl,hk⟩:=Z z AL;rw[AD] at Y;refine⟨jf,km,af _ _ ⟨.bin "add" (.num k) r,_,rfl,⟨.inl rfl,⟨by lia,by lia⟩,q⟩,?_,λz ag=>Z z (AH _ ag),T4,e4⟩⟩;show(((("add":Str))::([iz k]++r.dw)).length)+_<=26;rw[AD,AB,A6]
   lia
  .rintro ρ C4 ⟨r,B,rfl,q,Y,Z,T4,e4⟩
   exact hL _ _ ⟨r,_,rfl,⟨q,by rw[A0] at Y;lia⟩,T4,e4⟩
  .grind
 rintro ae C2 ⟨r,B,rfl,J,O,U⟩;exact ah r C2 J O U
inductive W9(ts:List PV)(C:CH)(Q:K1):Prop
 |mk(t:Addr)(ns:List Int)(d n:Nat)(l:Ln)(z0:ts=[.ref t,.tup [l.pv]])(z1:Tp C t ns)(zb:jt d l)(zw:l.tw<=n)(z2:∀(l:Ln)(C':CH),jt (d+1) l->l.tw<=n+1->Tp C' t ns->Ex t C C'->Q l.pv C')
def xq(T:Tx W a):Ok W a 2 51 ["_law_tape_here","_law_lines"] W9:=by
 have S:=(T.F 51 rfl).s;have fX:=mG T
 refine(T.F 51 rfl).ok (λts C R h=>?_) λah A outer s H E af=>⟨_,(xQ (fj 2 S.nd (dQ (qQ wQ (qQ jZ (qQ wQ (qQ (dQ cX) (qQ (dQ cX) (c7 (cv 1)))))))))
  (xQ (fj 3 S.nd (cx (oQ (qQ wQ (c7 wQ))) (cf (T.F 27 rfl) fX af (qQ (cv 0) (c7 jQ)))))
  (xQ (fj 4 S.nd (oQ (qQ (cv 2) (qQ (dQ (qQ wQ (qQ jZ (qQ wQ (qQ (dQ (qQ wQ (c7 jQ))) (c7 (cv 1))))))) (c7 (dQ (qQ wQ (qQ (dQ (qQ wQ (c7 jQ))) (qQ (cv 1) (c7 (dQ cX)))))))))))
  (xQ (fj 4 S.nd (uX jX xX (cv 4) (oQ (qQ (dQ (qQ wQ (qQ (dQ (qQ wQ (c7 jQ))) (qQ (dQ cX) (c7 (cv 1)))))) (qQ (dQ (qQ wQ (qQ (cv 3) (qQ (dQ (qQ wQ (c7 jQ))) (c7 (cv 1)))))) (c7 (cv 2)))))))
  (kQ (uQ (cx (cv 4) (cf (T.F 27 rfl) fX af (qQ (cv 0) (c7 jQ)))))))))),?_⟩
 .obtain⟨_,_,_,_,_,rfl,_⟩:=h;rfl
 rintro ts C R ⟨t,aj,d,n,l,rfl,hT,hb,ai,q⟩;have L:∀x∈[l],jt d x:=λx U=>by rw[AR.1 U];exact hb
 have b0:∀x∈([]:List Ln),jt d x:=λx U=>by cases U
 have w1:Ln.d9 [l]<=n:=by show l.tw+0<=n;lia
 have Y:[l].length<=1000:=by show 1<=1000;decide
 refine aX ⟨AF _,AF _,Em,?_⟩;refine aX (iB [.str "t",.str "x"] hT Th rfl Th λy hy C1 T1 e1=>?_)
 obtain⟨s,rfl,hs⟩:∃s,y=.str s/\qZ s=true:=by
  simp only[List.mem_cons,List.not_mem_nil,or_false] at hy
  rcases hy with rfl|rfl<;>exact⟨_,rfl,gf⟩
 refine aX ⟨Th,RM,Th,AF _,j4,km,λp hp=>?_⟩;refine aX ⟨Th,AF _,j4,Th,j4,km,λp2 aa=>?_⟩;have np:p≠p2:=λz=>by subst z;rw[zQ] at aa;cases aa
 refine lM (by rw[yQ np];exact zQ) zQ (by show 3+3<=sizeLine;decide) λp3 ab=>?_;have T2:=T1.new hp (.lst [(Ln.plain none "a" [] [] [l]).pv,(Ln.give none "a" (.num 1) [l]).pv,(Ln.when (.num 0) [l] []).pv]);have T3:=T2.new aa (.lst [(Ln.when (.num 1) [] [l]).pv,(Ln.each s (.num 2) [l]).pv,(Ln.plain none "a" [] [] [l]).pv]);have Z:∀i:Int,0<=i->i<=2->Rg (.num i):=λi h1 h2=>X2 ⟨by lia,by lia⟩
 refine gI (T3.new ab _) zQ (T3.ne ab) (by show 6<=1000;decide) rfl Th λy hy B J e4=>?_;have O:Ex t C B:=e1.trans ((Ex.new hp _).trans ((Ex.new aa _).trans ((Ex.new ab _).trans e4)));have ae:qZ "a"=true:=gf
 have ag:y∈[(Ln.plain none "a" [] [] [l]).pv,(Ln.give none "a" (.num 1) [l]).pv,(Ln.when (.num 0) [l] []).pv,(Ln.when (.num 1) [] [l]).pv,(Ln.each s (.num 2) [l]).pv,(Ln.plain none "a" [] [] [l]).pv]:=hy
 simp only[List.mem_cons,List.not_mem_nil,or_false] at ag
 have pl:=q (.plain none "a" [] [] [l]) B (zB Fq ae Nm (λx U=>by cases U) Th Th L Y) (by show 1+Ln.d9 [l]<=n+1;lia) J O
 rcases ag with rfl|rfl|rfl|rfl|rfl|rfl
 .exact pl
 .exact q (.give none "a" (.num 1) [l]) B (YR Fq ae (Z 1 Th Th) L Y) (by show 1+Ln.d9 [l]<=n+1;lia) J O
 .exact q (.when (.num 0) [l] []) B (ZF (Z 0 Th Th) L Y b0 (AF _)) (by show 1+(Ln.d9 [l]+0)<=n+1;lia) J O
 .exact q (.when (.num 1) [] [l]) B (ZF (Z 1 Th Th) b0 (AF _) L Y) (by show 1+(0+Ln.d9 [l])<=n+1;lia) J O
 .exact q (.each s (.num 2) [l]) B (YS hs (Z 2 Th Th) L Y) (by show 1+Ln.d9 [l]<=n+1;lia) J O
 .exact pl
inductive Ye(ts:List PV)(C:CH)(Q:K1):Prop
 |mk(t:Addr)(ns:List Int)(z0:ts=[.ref t])(z1:Tp C t ns)(z2:∀(l:Ln)(C':CH),jt 1 l->l.tw<=1->Tp C' t ns->Ex t C C'->Q l.pv C')
def yc(T:Tx W a):Ok W a 2 52 U5 Ye:=by
 have L:=mG T
 refine(T.F 52 rfl).ok (λts C R h=>?_) λab A outer s H E q=>⟨_,(xQ (fj 1 ((T.F 52 rfl).s).nd (cx (oQ (qQ (dQ (qQ wQ (c7 jQ))) (qQ (dQ (qQ wQ (c7 wQ))) (c7 (dQ (qQ wQ (c7 wQ))))))) (cf (T.F 27 rfl) L q (qQ (cv 0) (c7 jQ)))))
  (kQ (uQ (dQ (qQ wQ (qQ (cx (oQ (qQ jZ (c7 (cv 1)))) (cf (T.F 27 rfl) L q (qQ (cv 0) (c7 jQ)))) (qQ wQ (qQ (dQ (c7 (dQ (qQ wQ (c7 (cv 1)))))) (qQ (dQ cX) (c7 (dQ cX))))))))))),?_⟩
 .obtain⟨_,_,rfl,_⟩:=h;rfl
 rintro ts C R ⟨t,ae,rfl,hT,aa⟩;refine aX ⟨Th,Th,Th,iB [.tup [.str "num",.int 0],.tup [.str "turn",.str "t"],.tup [.str "turn",.str "x"]] hT Th rfl Th λy B C1 O Y=>?_⟩
 obtain⟨r,rfl,q⟩:∃r:Rk,y=r.pv/\Rg r:=by
  simp only[List.mem_cons,List.not_mem_nil,or_false] at B
  rcases B with rfl|rfl|rfl
  .exact⟨.num 0,rfl,X2 ⟨Th,Th⟩⟩
  .exact⟨.turn "t",rfl,jA gf⟩
  .exact⟨.turn "x",rfl,jA gf⟩
 refine iB [.non,r.pv] O (by simp_all) rfl Th λy B C2 U Z=>?_
 obtain⟨k,rfl,hk⟩:∃k:Option Rk,y=nV k/\j6 k:=by
  simp only[List.mem_cons,List.not_mem_nil,or_false] at B
  rcases B with rfl|rfl
  .exact⟨none,rfl,Fq⟩
  .exact⟨some r,rfl,RQ q⟩
 refine⟨jf,jg,AF _,AF _,Em,?_⟩;exact aa (.plain k "a" [("b",r)] [] []) C2 (zB hk gf (RN (by show qZ "b"=true;decide +kernel) q) (λx J=>by cases J) (by simp_all) (AF _) (λx J=>by cases J) (AF _)) (by show 1+0<=1;decide) U (Y.trans Z)
inductive Jp(ts:List PV)(C:CH)(Q:K1):Prop
 |mk(t:Addr)(ns:List Int)(g:Str)(z0:ts=[.ref t,.str g])(z1:Tp C t ns)(zg:qZ g=true)(z2:∀(l:Ln)(C':CH),jt 12 l->l.tw<=40->Tp C' t ns->Ex t C C'->Q l.pv C')
def xx(T:Tx W a):Ok W a 3 53 ["_law_tape_here","_law_goal"] Jp:=by
 have S:=(T.F 53 rfl).s;have fX:=(mG T).mono (show 1<=2 by decide);have xB:=Wy T;have XH:=xq T;have Y4:=yc T
 refine(T.F 53 rfl).ok (λts C R h=>?_) λay A outer s H E q=>⟨_,(xQ (fj 2 S.nd (cf (T.F 50 rfl) xB q (c7 (cv 0))))
  (xQ (fj 3 S.nd (dQ (qQ (dQ (qQ (cx (oQ (qQ wQ (c7 wQ))) (cf (T.F 27 rfl) fX q (qQ (cv 0) (c7 jQ)))) (c7 (dQ (qQ wQ (c7 jQ)))))) (c7 (dQ (qQ wQ (c7 (cv 2))))))))
  (xQ (fj 4 S.nd (dQ (qQ wQ (qQ jZ (qQ wQ (qQ (dQ cX) (qQ (dQ cX) (c7 (dQ cX)))))))))
  (xQ (fj 5 S.nd (cf (T.F 27 rfl) fX q (qQ (cv 0) (c7 jQ))))
  (xQ (nQ (ct2 rX yX (cv 5) jQ) (kQ (uQ (dQ (qQ wQ (qQ (cv 2) (qQ wQ (qQ (cv 3) (qQ (dQ cX) (c7 (dQ cX)))))))))) pQ)
  (xQ (nQ (ct2 rX yX (cv 5) jQ) (kQ (uQ (dQ (qQ wQ (qQ jZ (qQ (cv 1) (c7 (cv 3)))))))) pQ)
  (xQ (nQ (ct2 rX yX (cv 5) jQ) (xQ (fj 6 S.nd (dQ (qQ (dQ (qQ (cx (oQ (qQ wQ (c7 wQ))) (cf (T.F 27 rfl) fX q (qQ (cv 0) (c7 jQ)))) (qQ jQ (qQ sX (c7 (dQ (c7 (dQ (qQ wQ (qQ wQ (c7 (cv 2)))))))))))) (c7 (dQ (qQ wQ (qQ jQ (qQ sX (c7 (dQ cX))))))))))
  (kQ (uQ (dQ (qQ wQ (qQ jZ (qQ wQ (qQ (dQ cX) (qQ (cv 6) (c7 (dQ cX))))))))))) pQ)
  (xQ (nQ (ct2 rX yX (cv 5) jQ) (kQ (uQ (dQ (qQ wQ (qQ (cv 2) (qQ wQ (qQ (cv 2) (c7 (uX uA lI (dQ (c7 (cv 4))) (uX jX xX jQ (cf (T.F 27 rfl) fX q (qQ (cv 0) (c7 jQ))))))))))))) pQ)
  (xQ (fj 7 S.nd (cf (T.F 52 rfl) Y4 q (c7 (cv 0))))
  (xQ (bD PassesOwn.never rfl rfl T.dW (c7 (uX jX xX jQ (cf (T.F 27 rfl) fX q (qQ (cv 0) (c7 jQ))))) (jl 8 S.nd) (kQ (fj 7 S.nd (cf (T.F 51 rfl) XH q (qQ (cv 0) (c7 (dQ (c7 (cv 7)))))))))
  (kQ (uQ (cv 7))))))))))))),?_⟩
 .obtain⟨_,_,_,rfl,_⟩:=h;rfl
 rintro ts C R ⟨t,O,g,rfl,hT,av,ab⟩;have Y:qZ "a"=true:=gf
 refine aX (Iz.mk t O rfl hT λr C1 q T1 e1=>?_);refine aX (iB [.str "a",.str "b"] T1 Th rfl Th λy hy C2 T2 e2=>?_)
 obtain⟨s,rfl,hs⟩:∃s,y=.str s/\qZ s=true:=by
  simp only[List.mem_cons,List.not_mem_nil,or_false] at hy
  rcases hy with rfl|rfl<;>exact⟨_,rfl,gf⟩
 have ag:o7 [(s,.num 1),("a",r)]:=⟨λc U=>by
  simp only[List.mem_cons,List.not_mem_nil,or_false] at U
  rcases U with rfl|rfl
  .exact⟨hs,X2 ⟨Th,Th⟩⟩
  .exact⟨Y,q⟩,by show 2<=1000;decide⟩
 refine⟨Th,jf,jf,jf,?_⟩;refine aX ⟨AF _,AF _,AF _,Em,?_⟩;refine aX (kK.mk t 8 O rfl T2 Th Th λv C3 az a0 T3 e3=>?_);have aa:Ex t C C3:=e1.trans (e2.trans e3);have ai:∀x∈([]:List Ln),jt 11 x:=λx J=>by cases J
 have ah:∀x∈([]:List Hd),ut x:=λx J=>by cases J
 refine wV (mQ (eQ _ _) (gJ (λB=>?_) λB=>fQ ?_))
 .refine⟨AF _,AF _,Em,?_⟩
  exact ab (.plain (some r) "a" [(s,.num 1),("a",r)] [] []) C3 (zB (RQ q) Y ag ah (by show 2+0<=3;decide) (AF _) ai (AF _)) (by show 1+0<=40;decide) T3 aa
 refine wV (mQ (eQ _ _) (gJ (λB=>?_) λB=>fQ ?_))
 .refine⟨j4,?_⟩
  exact ab (.part none g [(s,.num 1),("a",r)]) C3 (YQ Fq av ag (by show 2<=3;decide)) (by show 1<=40;decide) T3 aa
 refine wV (mQ (eQ _ _) (gJ (λB=>?_) λB=>fQ ?_))
 .refine aX (iB [.str "tap",.str "a"] T3 Th rfl Th λy hy C4 T4 e4=>?_)
  obtain⟨ak,rfl,au⟩:∃s,y=.str s/\qZ s=true:=by
   simp only[List.mem_cons,List.not_mem_nil,or_false] at hy
   rcases hy with rfl|rfl<;>exact⟨_,rfl,gf⟩
  refine⟨km,jg,j4,AF _,j4,jf,?_⟩;refine⟨AF _,AF _,Em,?_⟩;refine ab (.plain none "end" [] [⟨ak,1,true,[("a","set",r)]⟩,⟨"a",3,false,[]⟩] []) C4 (zB Fq gf Nm (λx J=>?_) (by show 0+3<=3;decide) (by show 2<=1000;decide) ai (AF _)) (by show 1+0<=40;decide) T4 (aa.trans e4)
  simp only[List.mem_cons,List.not_mem_nil,or_false] at J
  rcases J with rfl|rfl
  .exact⟨au,(by show(1:Int)<=1;decide),(by show(1:Int)<=3;decide),(λc U=>by rw[AR.1 U];exact⟨Y,by simp,q⟩),(by show 1<=1000;decide)⟩
  .exact⟨Y,Th,Th,(λc U=>by cases U),AF _⟩
 refine wV (mQ (eQ _ _) (gJ (λB=>?_) λB=>fQ ?_))
 .refine⟨jg,kK.mk t 14 O rfl T3 Th Th λw C4 w0 w1 T4 e4=>eJ (VR ir ir ⟨RM,?_⟩)⟩
  have bp:jt 11 (.plain none "a" [] [] []):=zB Fq Y Nm ah Th Th (λx J=>by cases J) (AF _);have e5:=ab (.give (some r) "a" r (List.replicate (20+w).toNat (.plain none "a" [] [] []))) C4 (YR (RQ q) Y q (λx J=>by rw[(Cn.1 J).2];exact bp) (by rw[Ar];lia)) ?_ T4 (aa.trans e4)
  .show R (.tup [.str "give",r.pv,.str "a",r.pv,.tup (List.replicate (20+w).toNat (Ln.plain none "a" [] [] []).pv)]) C4
   rw[<- Z3];exact e5
  .have:=XW (n:=1) (ls:=List.replicate (20+w).toNat (.plain none "a" [] [] [])) λx J=>by rw[(Cn.1 J).2];exact AQ 1
   rw[Ar] at this;show 1+Ln.d9 _<=40
   lia
 dsimp only[di.wn];refine aX (Ye.mk t O rfl T3 λl C4 ar ax T4 e4=>?_);refine mZ (λaj C'=>∃(l:Ln)(Z x8:Option PV),aj=[some (.ref t),some (.str g),some r.pv,some (.tup [.tup [.str s,.tup [.str "num",.int 1]],.tup [.str "a",r.pv]]),some (.tup [.str "plain",.non,.str "a",.tup [],.tup [],.tup []]),some (.int v),Z,some l.pv,x8]/\jt 12 l/\l.tw<=40/\Tp C' t O/\Ex t C C') (λL hL=>?_) ?_
 .refine kK.mk t 8 O rfl T4 Th Th λw C5 w0 w1 T5 e5=>eJ ⟨by lia,by lia,?_⟩
  refine uJ (λzs ρ C'=>∃(l:Ln)(d:Nat)(Z x8:Option PV),ρ=[some (.ref t),some (.str g),some r.pv,some (.tup [.tup [.str s,.tup [.str "num",.int 1]],.tup [.str "a",r.pv]]),some (.tup [.str "plain",.non,.str "a",.tup [],.tup [],.tup []]),some (.int v),Z,some l.pv,x8]/\jt d l/\d+zs.length<=10/\l.tw<=d/\Tp C' t O/\Ex t C C') ?_ ?_ _ _ _ ⟨l,1,_,_,rfl,ar,by rw[AA,Ax];lia,ax,T5,(aa.trans e4).trans e5⟩
  .rintro z zs ρ C6 ⟨l,d,Z,x8,rfl,B,af,ae,T6,e6⟩ L1 ao
   rw[AD] at af;refine⟨jg,W9.mk t O d d l rfl T6 B ae λl' C7 aq aw T7 e7=>ao _ _ ⟨l',d+1,_,_,rfl,aq,by lia,aw,T7,e6.trans e7⟩⟩
  .rintro ρ C6 ⟨l,d,Z,x8,rfl,B,af,ae,T6,e6⟩
   rw[A0] at af;exact hL _ _ ⟨l,_,_,rfl,B.le ir,by lia,T6,e6⟩
 rintro aj C5 ⟨l,Z,x8,rfl,B,ae,T5,e5⟩;exact ab l C5 B ae T5 e5
end
def M6(hj:j<xs.length)(q:Q (.tup (xs.take j)) C):Xu (.tup xs) none (some (j:Nat)) C Q:=by grind[Xu,HT.sIx_nat,Nat.min_eq_left,Nat.le_of_lt,yY,HT.sIx_none]
def Dd(h:ls.length<=j):yY (Ln.ik ls) none (some (j:Nat))=Ln.ik ls:=by grind[yY,HT.sIx_none,HT.sIx_nat,kA,Nat.min_eq_right,List.drop_zero]
def YZ(l:xs.length+ys.length<=1000)(q:Q (.tup (xs++ys)) C):bB (.tup xs) (.tup ys) C Q:=by
 delta bB
 exact⟨AK l Th,q⟩
section
variable{W:Wd}{a:Adr}
inductive Ug(ts:List PV)(C:CH)(Q:K1):Prop
 |mk(t nl:Addr)(ns:List Int)(names:List Str)(k:Nat)(z0:ts=[.ref t,.ref nl,.int (k:Nat)])(z1:Tp C t ns)(z2:C nl=some (.lst (names.map PV.str)))(z3:nl≠t)(z4:names.length<=12)(zn:∀s∈names,qZ s=true)(z5:k<names.length)(z6:∀(x:Pt)(C':CH),oh 42 x->Tp C' t ns->Ex t C C'->Q x.pv C')
def Nr(T:Tx W a):Ok W a 2 29 U7 Ug:=by
 have S:=(T.F 29 rfl).s;have U:=mG T
 refine(T.F 29 rfl).ok (λts C R h=>?_) λbx A outer s H E B=>⟨_,(xQ (fj 3 S.nd (cx (oQ (qQ wQ (qQ wQ (c7 wQ)))) (cf (T.F 27 rfl) U B (qQ (cv 0) (c7 jQ)))))
  (xQ (fj 4 S.nd (uX uA lI (dQ (c7 (dQ (qQ (cv 3) (c7 (uX wL eM (cf (T.F 27 rfl) U B (qQ (cv 0) (c7 jQ))) jQ)))))) (cf (T.F 27 rfl) U B (qQ (cv 0) (c7 jQ)))))
  (xQ (fj 5 S.nd (cx (oQ (qQ (dQ (qQ wQ (c7 (cf (T.F 27 rfl) U B (qQ (cv 0) (c7 jQ)))))) (qQ (dQ (qQ wQ (c7 wQ))) (c7 (dQ (qQ wQ (c7 wQ))))))) (cf (T.F 27 rfl) U B (qQ (cv 0) (c7 jQ)))))
  (xQ (nQ (ct2 oW eK (gw T.tX (cv 4)) jQ) (kQ (fj 5 S.nd (dQ (qQ wQ (qQ (dQ (qQ wQ (c7 (cv 3)))) (c7 (cv 5))))))) pQ)
  (xQ (fj 6 S.nd (oQ cX))
  (xQ (bD PassesOwn.never rfl rfl T.dW (c7 (cf (T.F 27 rfl) U B (qQ (cv 0) (c7 jQ)))) (jl 7 S.nd) (xQ (fj 8 S.nd (cf (T.F 27 rfl) U B (qQ (cv 0) (c7 jQ))))
  (xQ (fj 9 S.nd (dQ (qQ wQ (qQ (cx (oQ (qQ jZ (c7 (cv 5)))) (cf (T.F 27 rfl) U B (qQ (cv 0) (c7 jQ)))) (qQ wQ (qQ (dQ (c7 (dQ (qQ wQ (c7 (cv 5)))))) (qQ (dQ cX) (c7 (qz T.xZ (eU (cv 6) (oJ (eW tK sJ jQ)) uK))))))))))
  (kQ (nQ (dq (iw (ct2 rX yX (cv 8) jQ) (gm (ct2 oW eK (gw T.tX (cv 1)) (uX jX xX (cv 2) jQ))))) (kQ (kZ (cap (cv 6) (dQ (qQ wQ (qQ jZ (qQ (cx (cv 1) (uX jX xX (uX jX xX (cv 2) jQ) (cf (T.F 27 rfl) U B (qQ (cv 0) (c7 (uX wL eM (uX wL eM (gw T.tX (cv 1)) (cv 2)) jQ)))))) (c7 (dQ (c7 (dQ (qQ wQ (c7 (cv 5)))))))))))))) (kQ (nQ (ct2 rX yX (cv 8) jQ) (kQ (kZ (cap (cv 6) (dQ (qQ wQ (qQ (cv 5) (qQ (dQ (c7 (cv 9))) (c7 (qz T.xZ (eU (cv 6) (oJ (eW tK sJ jQ)) uK)))))))))) (kQ (nQ (ct2 rX yX (cv 8) jQ) (kQ (kZ (cap (cv 6) (dQ (qQ wQ (qQ wQ (qQ (cv 5) (c7 (dQ (c7 (uX jX xX (eL (cv 9) uK (oJ jQ)) (dQ (qQ (dQ (c7 (dQ (qQ wQ (c7 (dQ (qQ wQ (c7 wQ)))))))) (qQ (dQ cX) (c7 (dQ cX)))))))))))))))) (kQ (kZ (cap (cv 6) (cv 9)))))))))))))
  (kQ (uQ (dQ (qQ (cx (cv 1) (cv 2)) (qQ (cv 4) (qQ (uX uA lI (dQ (c7 (dQ (qQ wQ (c7 (cv 5)))))) (cf (T.F 27 rfl) U B (qQ (cv 0) (c7 jQ)))) (c7 (qz T.xZ (eU (cv 6) uK (oJ jQ)))))))))))))))),?_⟩
 .obtain⟨_,_,_,_,_,rfl,_⟩:=h;rfl
 rintro ts C R ⟨t,au,Z,aa,k,rfl,hT,mn,nt,b1,bb,a8,bt⟩;have ao:qZ "a"=true:=gf
 have bf:qZ "x"=true:=gf
 have bc:qZ "t"=true:=gf
 refine aX (iB [.str "a",.str "ab",.str "box"] hT Th rfl Th λy hy C1 T1 e1=>?_)
 obtain⟨O,rfl,a5⟩:∃s,y=.str s/\qZ s=true:=by
  simp only[List.mem_cons,List.not_mem_nil,or_false] at hy
  rcases hy with rfl|rfl|rfl<;>exact⟨_,rfl,gf⟩
 refine aX (kK.mk t 9 Z rfl T1 Th Th λv C2 b5 b6 T2 e2=>gk ⟨jf,jg,kK.mk t 2 Z rfl T2 Th Th λw C3 w0 w1 T3 e3=>VR w0 ir ?_⟩);have ef:List.replicate w.toNat (PV.tup [.str O,.int (v-3)])=(List.replicate w.toNat ((O,v-3):Str×Int)).map nW:=by rw[List.map_replicate];rfl
 rw[ef]
 have a6:∀c∈List.replicate w.toNat ((O,v-3):Str×Int),qZ c.1=true/\Bd c.2:=λc hc=>by
  rw[(Cn.1 hc).2];exact⟨a5,by show _<=v-3;lia,by show v-3<=_;lia⟩
 have a7:(List.replicate w.toNat ((O,v-3):Str×Int)).length<=6:=by rw[Ar];lia
 generalize List.replicate w.toNat ((O,v-3):Str×Int)=fs at a6 a7;clear ef;refine aX (kK.mk t 5 Z rfl T3 Th Th λu C4 u0 u1 T4 e4=>⟨jf,jf,jf,iB [.tup [.str "num",.int u],.tup [.str "take",.str "a"],.tup [.str "down",.str "end"]] T4 (by show 3<=1000;decide) rfl Th λy hy C5 T5 e5=>?_⟩)
 obtain⟨r0,rfl,bg,b0⟩:∃r:Rk,y=r.pv/\r.gd/\r.dw.length<=2:=by
  simp only[List.mem_cons,List.not_mem_nil,or_false] at hy
  rcases hy with rfl|rfl|rfl
  .exact⟨.num u,rfl,⟨by lia,by lia⟩,by show 1<=2;decide⟩
  .exact⟨.ask "take" "a",rfl,⟨.inl rfl,ao⟩,AQ _⟩
  .exact⟨.ask "down" "end",rfl,⟨.inr (.inl rfl),gf⟩,AQ _⟩
 have a0:Ex t C C5:=e1.trans (e2.trans (e3.trans (e4.trans e5)));refine mZ (λaj C'=>C'=C5/\∃r:Rk,Rg r/\aj=[some (.ref t),some (.ref au),some (.int (k:Nat)),some (.str O),some (.tup (fs.map nW)),some r.pv,none,none,none,none]) (λL hL=>?_) ?_
 .refine mX (gk (gJ (λhb=>?_) λhb=>fQ (hL _ _ ⟨rfl,r0,⟨bg,by lia⟩,rfl⟩)))
  refine⟨jf,km,hL _ _ ⟨rfl,.bin "add" (.ask "box" O) r0,⟨⟨.inl rfl,⟨.inr (.inr rfl),a5⟩,bg⟩,?_⟩,rfl⟩⟩;show(((("add":Str))::([("box":Str),O]++r0.dw)).length)<=30;rw[AD,AB];show 2+_+1<=30
  lia
 rintro aj _ ⟨rfl,r,B,rfl⟩;refine aX ⟨AF _,λp hp=>?_⟩;have np:=T5.ne hp;have ai:C p=none:=a0.no np hp;refine mZ (λaj C'=>∃(ls:List Ln)(x7 x8 x9:Option PV),aj=[some (.ref t),some (.ref au),some (.int (k:Nat)),some (.str O),some (.tup (fs.map nW)),some r.pv,some (.ref p),x7,x8,x9]/\C' p=some (.lst (Ln.ik ls))/\ls.length<=3/\(∀l∈ls,jt 6 l/\l.tw<=14)/\Tp C' t Z/\Ex t C C') (λL hL=>?_) ?_
 .refine kK.mk t 4 Z rfl (T5.new hp _) Th Th λm C6 b4 m1 T6 e6=>⟨by lia,by lia,?_⟩
  refine uJ (λzs ρ C'=>∃(ls:List Ln)(x7 x8 x9:Option PV),ρ=[some (.ref t),some (.ref au),some (.int (k:Nat)),some (.str O),some (.tup (fs.map nW)),some r.pv,some (.ref p),x7,x8,x9]/\C' p=some (.lst (Ln.ik ls))/\ls.length+zs.length<=3/\(∀l∈ls,jt (2*ls.length) l/\l.tw<=wt ls.length)/\Tp C' t Z/\Ex t C C') ?_ ?_ _ _ _ ⟨[],_,_,_,rfl,e6 _ _ np zQ,by rw[AA,Ax];show 0+_<=3;lia,(λl hl=>by cases hl),T6,(a0.put ai _).trans e6⟩
  .rintro z zs ρ C7 ⟨ls,x7,x8,x9,rfl,m7,af,Y,T7,e7⟩ L1 bj
   rw[AD] at af;have lu:=MT ls.length;have a4:∀x∈pY ls,jt (2*ls.length) x:=λx q=>(Y x (QR q)).1;have b2:Ln.d9 (pY ls)<=wt ls.length:=yg λx q=>(Y x q).2;have ba:(pY ls).length<=1000:=AK (QS ls) Th
   have ar:∀(l:Ln)(C':CH)(x7 x8 x9:Option PV),jt (2*ls.length+2) l->l.tw<=wt (ls.length+1)->C' p=some (.lst (Ln.ik (ls++[l])))->Tp C' t Z->Ex t C C'->L1 [some (.ref t),some (.ref au),some (.int (k:Nat)),some (.str O),some (.tup (fs.map nW)),some r.pv,some (.ref p),x7,x8,x9] C':=by
    intro l C' y7 y8 y9 hb bo m' T' e';refine bj _ _ ⟨ls++[l],_,_,_,rfl,m',by rw[AB,A6];lia,λx q=>?_,T',e'⟩;rw[AB,A6]
    rcases AY.1 q with q|q
    .exact⟨(Y x q).1.le ir,AK (Y x q).2 lu⟩
    .rw[AR.1 q];exact⟨hb,bo⟩
   refine aX (kK.mk t 5 Z rfl T7 Th Th λb7 C8 _ _ T8 e8=>?_);refine aX (iB [.non,r.pv] T8 (by show 2<=1000;decide) rfl Th λy hy C9 T9 e9=>?_)
   obtain⟨ab,rfl,a9⟩:∃k:Option Rk,y=nV k/\j6 k:=by
    simp only[List.mem_cons,List.not_mem_nil,or_false] at hy
    rcases hy with rfl|rfl
    .exact⟨none,rfl,Fq⟩
    .exact⟨some r,rfl,RQ B⟩
   have a3:=e8.trans e9;have m9:=a3 _ _ np m7;refine⟨jf,jg,AF _,yP m9 λp2 ay=>?_⟩;rw[Xh];have bq:p≠p2:=λz=>by rw[z,ay] at m9;cases m9
   refine eF zQ ⟨Em,?_⟩;have ah:=T9.new ay (.lst (Ln.ik (pY ls)));have ae:Ex t C (cQ C9 p2 (.lst (Ln.ik (pY ls)))):=(e7.trans a3).trans (Ex.new ay _);have J:cQ C9 p2 (.lst (Ln.ik (pY ls))) p=some (.lst (Ln.ik ls)):=by rw[yQ bq];exact m9
   have az:jt (2*ls.length+1) (.plain ab "a" [("x",r)] [] (pY ls)):=zB a9 ao (RN (by show qZ "x"=true;exact bf) B) (λx q=>by cases q) (by show 1+0<=3;decide) (AF _) a4 ba;have aq:=ae _ _ nt mn;generalize cQ C9 p2 (.lst (Ln.ik (pY ls)))=bu at ah ae J aq ⊢;have av:(Ln.ik ls).length<sizeLine:=by rw[kA];exact AE (show _<4 by lia) Th
   have ak:∀l:Ln,Ln.ik ls++[l.pv]=Ln.ik (ls++[l]):=λl=>by rw[Z4];rfl
   refine mQ (eQ _ _) (gJ (λhb=>nK aq (eJ (gk (gJ (λax=>?y) λax=>?r1)))) λhb=>gB rfl ?r2)
   case y =>
    rw[AA] at ax;have bz:=Af ax;refine⟨lZ J,eJ (nK aq (gk (gk ?_)))⟩;rw[AA];refine kK.mk t _ Z rfl ah ir ir λj bw j0 j1 bh aw=>eJ ?_;have ej:(k:Int)+1+j=((k+1+j.toNat:Nat):Int):=by lia
    have hj:k+1+j.toNat<aa.length:=by lia
    rw[ej];refine tZ (aw _ _ nt aq) (iK (show(aa.map PV.str)[k+1+j.toNat]?=some (.str aa[k+1+j.toNat]) by rw[Ag,AJ hj];rfl)) ?_;refine⟨jf,jg,j4,bK (aw _ _ np J) av ?_⟩;refine ar (.part none aa[k+1+j.toNat] [("a",r)]) _ _ _ _ (YQ Fq (bb _ (BJ hj)) (RN (by show qZ "a"=true;exact ao) B) (by show 1<=3;decide)) (by show 1<=2+2*wt _;lia) (by rw[zQ];exact A9 (λz=>some (CO.lst z)) (ak (.part none aa[k+1+j.toNat] [("a",r)]))) (bh.put np _) ((ae.trans aw).put ai _)
   all_goals
    refine mQ (eQ _ _) (gJ (λhc=>?_) λhc=>mQ (eQ _ _) (gJ (λbl=>?_) λbl=>?_))
    .refine⟨lZ J,jg,yP J λp3 ag=>?_⟩
     rw[Xh];have br:p≠p3:=λz=>by rw[z,ag] at J;cases J
     refine eF zQ ⟨j4,bK (by rw[yQ br];exact J) av ?_⟩;refine ar (.when r [.plain ab "a" [("x",r)] [] (pY ls)] (pY ls)) _ _ _ _ (ZF B (λx q=>by rw[AR.1 q];exact az) (by show 1<=1000;decide) (λx q=>(a4 x q).le ir) ba) (by show 1+((1+Ln.d9 (pY ls)+0)+Ln.d9 (pY ls))<=2+2*wt ls.length;lia) (by rw[zQ];exact A9 (λz=>some (CO.lst z)) (ak (.when r [.plain ab "a" [("x",r)] [] (pY ls)] (pY ls)))) ((ah.new ag _).put np _) ((ae.trans (Ex.new ag _)).put ai _)
    .refine⟨lZ J,M6 (j:=3) (by show 3<6;decide) ⟨jf,jf,jg,AF _,AF _,km,?_⟩⟩
     refine YZ (by show 3+3<=1000;decide) ⟨jg,j4,bK J av ?_⟩;refine ar (.each "t" r [.plain ab "a" [("x",.turn "t")] [] []]) _ _ _ _ (YS bc B (λx q=>by rw[AR.1 q];exact(zB (d:=2*ls.length) a9 ao (RN (by show qZ "x"=true;exact bf) (jA bc)) (λx q=>by cases q) (by show 1+0<=3;decide) (AF _) (λx q=>by cases q) (AF _))) (by show 1<=1000;decide)) (by show 1+((1+0)+0)<=2+2*wt ls.length;lia) (by rw[zQ];exact A9 (λz=>some (CO.lst z)) (ak (.each "t" r [.plain ab "a" [("x",.turn "t")] [] []]))) (ah.put np _) (ae.put ai _)
    .refine⟨lZ J,bK J av ?_⟩
     refine ar (.plain ab "a" [("x",r)] [] (pY ls)) _ _ _ _ (az.le ir) (by show 1+Ln.d9 (pY ls)<=2+2*wt ls.length;lia) (by rw[zQ];exact A9 (λz=>some (CO.lst z)) (ak (.plain ab "a" [("x",r)] [] (pY ls)))) (ah.put np _) (ae.put ai _)
  .rintro ρ C7 ⟨ls,x7,x8,x9,rfl,m7,af,Y,T7,e7⟩
   rw[A0,An] at af
   have bp:wt ls.length<=14:=by
    have:ls.length=0\/ls.length=1\/ls.length=2\/ls.length=3:=by lia
    rcases this with h|h|h|h<;>rw[h]<;>decide
   exact hL _ _ ⟨ls,_,_,_,rfl,m7,af,λl hl=>⟨(Y l hl).1.le ir,AK (Y l hl).2 bp⟩,T7,e7⟩
 rintro aj C6 ⟨ls,x7,x8,x9,rfl,m6,af,Y,T6,e6⟩;refine tZ (e6 _ _ nt mn) (iK (show(aa.map PV.str)[k]?=some (.str aa[k]) by rw[Ag,AJ a8];rfl)) ?_;refine⟨jf,jg,kK.mk t 2 Z rfl T6 Th Th λj C7 j0 j1 T7 e7=>VR j0 ir (yP (e7 _ _ np m6) λp3 ag=>?_)⟩;rw[show yY (Ln.ik ls) none (some 4)=Ln.ik ls from Dd (j:=4) ir]
 refine eF zQ ⟨j4,?_⟩;have ew:List.replicate j.toNat (PV.tup [.str "w",r.pv])=(List.replicate j.toNat ((("w":Str),r):Str×Rk)).map yV:=by rw[List.map_replicate];rfl
 rw[ew];have b3:=XW (n:=14) λl hl=>(Y l hl).2;refine bt ⟨aa[k],fs,List.replicate j.toNat ((("w":Str),r):Str×Rk),ls⟩ _ ⟨bb _ (BJ a8),a6,a7,⟨λc hc=>?_,?_⟩,?_,λl hl=>(Y l hl).1.le Th,AK af Th,?_⟩ (T7.new ag _) ((e6.trans e7).trans (Ex.new ag _))
 .rw[(Cn.1 hc).2]
  exact⟨by show qZ "w"=true;decide +kernel,B⟩
 .show(List.replicate _ _).length<=1000
  rw[Ar];lia
 .show(List.replicate _ _).length<=6
  rw[Ar];lia
 .show Ln.d9 ls<=42
  lia
inductive Uh(ts:List PV)(C:CH)(Q:K1):Prop
 |mk(t:Addr)(ns:List Int)(z0:ts=[.ref t])(z1:Tp C t ns)(z2:∀(pts:List Pt)(C':CH),1<=pts.length->pts.length<=6->(∀x∈pts,oh 42 x)->Tp C' t ns->Ex t C C'->Q (.tup (pts.map Pt.pv)) C')
def Nt(T:Tx W a):Ok W a 3 30 U5 Uh:=by
 have S:=(T.F 30 rfl).s;have Vj:=WD T
 refine(T.F 30 rfl).ok (λts C R h=>?_) λai A outer s H E ae=>⟨_,(xQ (fj 1 S.nd (cf (T.F 28 rfl) Vj ae (qQ (cv 0) (c7 (uX jX xX jQ (cf (T.F 27 rfl) ((mG T).mono (show 1<=2 by decide)) ae (qQ (cv 0) (c7 jQ))))))))
  (kQ (uQ (qz T.xZ (sZ rfl (S.c gf) (S.k rfl rfl rfl gf) (sR rfl T.dW (c7 (gw T.tX (cv 1)))) (λ_ _ _ _ _=>fZ) (λ_ _ _ _ _=>(cf (T.F 29 rfl) (Nr T) ae (qQ (cv 1) (qQ (cv 2) (c7 (cv 0))))))))))),?_⟩
 .obtain⟨_,_,rfl,_⟩:=h;rfl
 rintro ts C R ⟨t,Y,rfl,hT,ah⟩;refine aX (kK.mk t 6 Y rfl hT Th Th λv C1 aq ar T1 e1=>eJ (Zl.mk t _ Y rfl T1 ir ir λag J C2 m2 n2 nt ak nd T2 e2=>?_))
 apply nK m2
 rw[AA];refine⟨by lia,by lia,?_⟩;refine mW (λzs aa C'=>Tp C' t Y/\Ex t C2 C'/\∃q:List Pt,aa=q.map Pt.pv/\zs=((List.range J.length).drop q.length).map (λk:Nat=>PV.int (k:Nat))/\q.length<=J.length/\∀x∈q,oh 42 x) ?_ ?_ _ _ _ ⟨T2,Ex.refl,[],rfl,rfl,AF _,(λx h=>by cases h)⟩
 .rintro x r aa C4 ⟨Z,O,q,rfl,U,af,ab⟩ L hL
  obtain⟨hj,rfl,rfl⟩:=QA U;refine Ug.mk t ag Y J q.length rfl Z (O _ _ nt m2) nt ir nd.2 hj λx C5 ao T5 e5=>hL _ _ ⟨?_,T5,O.trans e5,q++[x],by rw[AG];rfl,by rw[AB,A6],by rw[AB,A6];lia,λy B=>?_⟩
  .rw[AA]
   exact AE (show q.length<7 by lia) Th
  .rcases AY.1 B with B|B
   .exact ab y B
   .rwa[AR.1 B]
 .rintro aa C4 ⟨Z,O,q,rfl,U,af,ab⟩ p hp
  have aj:q.length=J.length:=by
   rcases DC q.length J.length with h|h
   .rw[Az (by rwa[Ax])] at U
    cases U
   .lia
  exact eF zQ (ah q _ ir ir ab (Z.new hp _) (((e1.trans e2).trans O).trans (Ex.new hp _)))
end
def Fg(q:Q (.int (if j > i then j else i)) C):Vb [.int i,.int j] C Q:=by
 delta Vb
 exact q
theorem tL(I:List PV->List PV->CH->Prop)(B:∀zs q C,I zs q C->S C)(U:∀x r q C,I (x::r) q C->∀L:K1,(∀y C2,q.length<sizeLine/\I r (q++[y]) C2->L y C2)->c (some x::ρ) C L)(J:∀q C,I [] q C->∀p,C p=none->Q (.ref p) (cQ C p (.lst q))):
  ∀zs q C,I zs q C->oY S aU c ρ Q zs q C
 |[],q,C,h=>⟨B _ _ _ h,J q C h⟩
 |x::r,q,C,h=>⟨B _ _ _ h,U x r q C h _ λy C2 O=>⟨O.1,tL I B U J r (q++[y]) C2 O.2⟩⟩
noncomputable def Gs:List Str:=["a","b","c","d","a","e"]
def HB:∀s∈Gs,qZ s=true:=gf
def Df(h0:0<=j):yY (Gs.map PV.str) none (some j)=(Gs.take j.toNat).map PV.str:=by
 have e:j=((j.toNat:Nat):Int):=by lia
 exact e▸Yr _
noncomputable def zn(k:Nat):Str:="z" ++ ⟨#[("abcdef":Str).cps.toList.getD k 0]⟩
def Gv:∀k∈List.range 6,atI ("abcdef":Str).cps.toList k=some (("abcdef":Str).cps.toList.getD k 0)/\qZ (zn k)=true:=gf
def Ek k(h:k<6):atI ("abcdef":Str).cps.toList ((k:Nat):Int)=some (("abcdef":Str).cps.toList.getD k 0)/\qZ (zn k)=true:=Gv k (BY.2 h)
def OJ(l:z.length<=sizeLine)(h:atI z.cps.toList i=some n)(q:Q (.str ⟨#[n]⟩) C):o5 (.str z) (.int i) C Q:=by
 delta o5
 refine⟨l,?_⟩
 rwa[h]
structure uq(n:Nat)(C C':CH)(t pn:Addr)(ns:List Int)(i:Nat)(xn:Str)(xf:List (Str×Int))(xw:List (Str×Rk))(xl:List Ln)(p:Addr)(xp:List Pt):Prop where
 nm:qZ xn=true
 fs:∀c∈xf,qZ c.1=true/\Bd c.2
 fl:xf.length<=6
 wk:o7 xw
 wl:xw.length<=6
 ls:∀l∈xl,jt 12 l
 ll:xl.length<=n
 tw:Ln.d9 xl<=n
 mp:C' p=some (.lst (xp.map Pt.pv))
 p0:C p=none
 np:p≠t
 ps:∀x∈xp,oh 42 x
 pi:i<xp.length
 p7:xp.length<=7
 mn:C' pn=some (.lst (Gs.map PV.str))
 T:Tp C' t ns
 e:Ex t C C'
def uq.ex{B}{fs}{O}{ls}{ps}(h:uq n C C' t L J i B fs O ls p ps)(Y:L≠t)(U:Tp C2 t J)(q:Ex t C' C2):uq n C C2 t L J i B fs O ls p ps:=
 ⟨h.nm,h.fs,h.fl,h.wk,h.wl,h.ls,h.ll,h.tw,q _ _ h.np h.mp,h.p0,h.np,h.ps,h.pi,h.p7,q _ _ Y h.mn,U,h.e.trans q⟩
abbrev Eo(t:Addr)(pts:List Pt)(p:Addr)(i:Nat)(nm:Str)(fs:List (Str×Int))(wk:List (Str×Rk))(ls:List Ln)(pn:Addr)(way:Int)(x10:Option PV):iT:=
 [some (.ref t),some (.tup (pts.map Pt.pv)),some (.ref p),some (.int (i:Nat)),some (.str nm),some (.tup (fs.map nW)),some (.tup (wk.map yV)),some (.tup (Ln.ik ls)),some (.ref pn),some (.int way),x10]
section
variable{W:Wd}{a:Adr}
def QL{β:Type}f(P:β->Prop)(hT:Tp C t J)(m:C pn=some (.lst (Gs.map PV.str)))(aj:pn≠t)(aq:∀z C' L,Tp C' t J->Ex t C C'->qZ z=true->(∀y C2,P y->Tp C2 t J->Ex t C' C2->L (f (z,y)) C2)->c (some (.str z)::Eo t ao p0 i0 ak ag av ai pn au aw) C' L)(af:∀(fs:List (Str×β))(C':CH),(∀x∈fs,qZ x.1=true/\P x.2)->fs.length<=6->Tp C' t J->Ex t C C'->Q (.tup (fs.map f)) C'):
  fW (R4 YF (zK 8) J1 (Gg (kY kK (tJ (zK 0) (tJ (cC (.int 7)) gY))))) aU c (Eo t ao p0 i0 ak ag av ai pn au aw) C λy C3=>iU [y] C3 Q:=by
 delta fW
 refine kK.mk t 7 J rfl hT Th Th λv C1 ar ax T1 e1=>yP (e1 _ _ aj m) λp hp=>?_;dsimp only;rw[Df ar,zQ];have ab:∀s∈Gs.take v.toNat,qZ s=true:=λs hs=>HB s (List.mem_of_mem_take hs);have ah:(Gs.take v.toNat).length<=6:=CZ▸Nat.min_le_right _ _;generalize Gs.take v.toNat=ss at ab ah;refine tL (λzs Y C'=>∃q fs,zs=q.map PV.str/\Y=fs.map f/\(∀z∈q,qZ z=true)/\(∀x∈fs,qZ x.1=true/\P x.2)/\fs.length+q.length<=6/\C' p=some (.lst (ss.map PV.str))/\Tp C' t J/\Ex t C C') (λ_ _ _ h=>?_) ?_ ?_ _ _ _ ⟨ss,[],rfl,rfl,ab,(λx hx=>by cases hx),by show 0+_<=6;lia,zQ,T1.new hp _,e1.trans (Ex.new hp _)⟩
 .exact Ti h λ_ _ _ _ _ _ _ h _=>h
 .rintro x r Y C2 ⟨q,fs,B,rfl,Z,aa,hl,m2,U,O⟩ L hL
  cases q with
  |nil=>cases B
  |cons g q =>
   obtain⟨rfl,rfl⟩:=AZ B;rw[AD] at hl;refine aq g C2 L U O (Z g AL) λy C3 hy T3 e3=>hL _ _ ⟨?_,q,fs++[(g,y)],rfl,by rw[AG];rfl,λz B=>Z z (AH _ B),λx hx=>?_,by rw[AB,A6];lia,e3 _ _ (T1.ne hp) m2,T3,O.trans e3⟩
   .rw[AA]
    exact AE (show _<7 by lia) Th
   .grind
 .rintro Y C2 ⟨q,fs,B,rfl,Z,aa,hl,m2,U,O⟩ p2 ae
  refine eF zQ (af fs _ aa ir (U.new ae _) (O.trans (Ex.new ae _)))
inductive Uk(ts:List PV)(C:CH)(Q:K1):Prop
 |mk(t:Addr)(ns:List Int)(pts:List Pt)(z0:ts=[.ref t,.tup (pts.map Pt.pv)])(z1:Tp C t ns)(zn:1<=pts.length)(zl:pts.length<=6)(zb:∀x∈pts,oh 42 x)(z2:∀(pts:List Pt)(C':CH),1<=pts.length->pts.length<=7->(∀x∈pts,oh 90 x)->Tp C' t ns->Ex t C C'->Q (.tup (pts.map Pt.pv)) C')
def Ny(T:Tx W a):Ok W a 4 54 ["_law_tape_here","_law_house"] Uk:=by
 have S:=(T.F 54 rfl).s;have fX:=(mG T).mono (show 1<=3 by decide);have xB:=(Wy T).mono (show 2<=3 by decide);have vT:=xx T
 refine(T.F 54 rfl).ok (λts C R h=>?_) λbx A outer s H E ah=>⟨_,(xQ (fj 2 S.nd (mK sD JU rfl T.vN rfl (c7 (cv 1))))
  (xQ (fj 3 S.nd (cf (T.F 27 rfl) fX ah (qQ (cv 0) (c7 (gw T.tX (cv 2))))))
  (xQ (mF (cx (cv 2) (cv 3)) (oI rfl (pJ (jl 4 S.nd) (pJ (jl 5 S.nd) (pJ (jl 6 S.nd) (pJ (jl 7 S.nd) aH))))))
  (xQ (fj 8 S.nd (oQ (qQ wQ (qQ wQ (qQ wQ (qQ wQ (qQ wQ (c7 wQ))))))))
  (xQ (fj 9 S.nd (cf (T.F 27 rfl) fX ah (qQ (cv 0) (c7 jQ))))
  (xQ (nQ (ct2 rX yX (cv 9) jQ) (kQ (fj 5 S.nd (qz T.xZ (nY rfl (S.c gf) (S.k rfl rfl rfl gf) (eU (cv 8) uK (oJ (cf (T.F 27 rfl) fX ah (qQ (cv 0) (c7 jQ))))) (λ_ _ _ _ _=>fZ) (λ_ _ _ _ _=>(dQ (qQ (cv 0) (c7 jQ)))))))) pQ)
  (xQ (nQ (ct2 rX yX (cv 9) jQ) (kQ (fj 6 S.nd (qz T.xZ (nY rfl (S.c gf) (S.k rfl rfl rfl gf) (eU (cv 8) uK (oJ (cf (T.F 27 rfl) fX ah (qQ (cv 0) (c7 jQ))))) (λ_ _ _ _ _=>fZ) (λ_ _ _ _ _=>(dQ (qQ (cv 0) (c7 (cf (T.F 50 rfl) xB ah (c7 (cv 1))))))))))) pQ)
  (xQ (nQ (ct2 rX yX (cv 9) jQ) (kQ (fj 4 S.nd (cx (cx (cv 2) (cf (T.F 27 rfl) fX ah (qQ (cv 0) (c7 (gw T.tX (cv 2)))))) jQ))) pQ)
  (xQ (nQ (ct2 rX yX (cv 9) jQ) (kQ (fj 2 S.nd (uX jX xX (cv 2) (sZ rfl (S.c gf) (S.k rfl rfl rfl gf) (sR rfl T.dW (c7 (aQ (K3 rfl) Du rfl T.z_max rfl (qQ jQ (c7 (uX wL eM (uX jX xX jQ (cf (T.F 27 rfl) fX ah (qQ (cv 0) (c7 jQ)))) (gw T.tX (cv 2)))))))) (λ_ _ _ _ _=>fZ) (λ_ _ _ _ _=>(dQ (qQ (uX jX xX wQ (cx wQ (cv 0))) (qQ (dQ cX) (qQ (dQ cX) (c7 (dQ cX))))))))))) pQ)
  (xQ (nQ (dq (dN (ct2 rX yX (cv 9) jQ) (dm (ct2 rX yX (cf (T.F 27 rfl) fX ah (qQ (cv 0) (c7 jQ))) jQ)))) (xQ (fj 10 S.nd (cx (uX jX xX (oQ (c7 wQ)) (nY rfl (S.c gf) (S.k rfl rfl rfl gf) (cv 2) (λ_ _ _ _ _=>fZ) (λ_ _ _ _ _=>(cx (cv 0) jQ)))) (cf (T.F 27 rfl) fX ah (qQ (cv 0) (c7 (uX jX xX (gw T.tX (cv 2)) jQ))))))
  (kQ (fj 7 S.nd (uX jX xX (cv 7) (dQ (c7 (cf (T.F 53 rfl) vT ah (qQ (cv 0) (c7 (cv 10)))))))))) pQ)
  (xQ (mF (dQ (qQ (cv 4) (qQ (cv 5) (qQ (cv 6) (c7 (cv 7)))))) (cD (cv 2) (cv 3)))
  (kQ (uQ (qz T.xZ (cv 2))))))))))))))),?_⟩
 .obtain⟨_,_,_,rfl,_⟩:=h;rfl
 rintro ts C R ⟨t,ae,O,rfl,hT,hn,hl,hb,br⟩;refine aX ?_;intro p hp;have np:=hT.ne hp;have T1:=hT.new hp (.lst (O.map Pt.pv));have e1:Ex t C (cQ C p (.lst (O.map Pt.pv))):=Ex.new hp _;have m1:cQ C p (.lst (O.map Pt.pv)) p=some (.lst (O.map Pt.pv)):=zQ;generalize cQ C p (.lst (O.map Pt.pv))=C1 at T1 e1 m1 ⊢;refine aX (nK m1 ?_);rw[AA];refine kK.mk t _ ae rfl T1 ir ir λv C2 b1 b2 T2 e2=>?_
 have bf:v=((v.toNat:Nat):Int):=by lia
 rw[bf];have hi:v.toNat<O.length:=by lia
 generalize v.toNat=i at hi;have q:=hb _ (BJ hi);have ex:(O.map Pt.pv)[i]?=some O[i].pv:=by rw[Ag,AJ hi];rfl
 generalize O[i]=x at q ex;refine wV (tZ (e2 _ _ np m1) (iK ex) ?_);refine⟨rfl,?_⟩;dsimp only[di.wn,Yq,Jz,Lh];have ba:=e1.trans e2;refine aX ⟨Em,λpn aq=>?_⟩;have ag:=T2.ne aq;refine aX (kK.mk t 5 ae rfl (T2.new aq _) Th Th λak C3 w0 w1 T3 e3=>?_);have bp:p≠pn:=λz=>by rw[<- z,e2 _ _ np m1] at aq;cases aq
 have st:uq 42 C C3 t pn ae i x.name x.first x.works x.ls p O:=⟨q.nm,q.fs,q.fl,q.wk,q.wl,q.ls,q.ll,q.tw,e3 _ _ np (by rw[yQ bp];exact e2 _ _ np m1),hp,np,hb,hi,by lia,e3 _ _ ag zQ,T3,(ba.trans (Ex.new aq _)).trans e3⟩;generalize x.name=av at st;generalize x.first=bz at st;generalize x.works=a7 at st;generalize x.ls=aa at st;refine mZ (λaf C'=>∃fs,af=Eo t O p i av fs a7 aa pn ak none/\uq 42 C C' t pn ae i av fs a7 aa p O) (λL Y=>?_) ?_
 .refine mQ (eQ _ _) (gJ (λhb=>?_) λhb=>fQ (Y _ _ ⟨_,rfl,st⟩))
  refine QL (β:=Int) nW (λi=>Bd i) st.T st.mn ag (λz C5 L T5 e5 hz Y=>⟨jf,Y 0 C5 ⟨Th,Th⟩ T5 Ex.refl⟩) λfs C5 h1 h2 T5 e5=>?_;have B:=st.ex ag T5 e5;exact Y _ _ ⟨fs,rfl,⟨B.nm,h1,h2,B.wk,B.wl,B.ls,B.ll,B.tw,B.mp,B.p0,B.np,B.ps,B.pi,B.p7,B.mn,B.T,B.e⟩⟩
 clear st;rintro af C4 ⟨fs,rfl,st⟩;refine mZ (λaf C'=>∃Z,af=Eo t O p i av fs Z aa pn ak none/\uq 42 C C' t pn ae i av fs Z aa p O) (λL Y=>?_) ?_
 .refine mQ (eQ _ _) (gJ (λhb=>?_) λhb=>fQ (Y _ _ ⟨_,rfl,st⟩))
  refine QL (β:=Rk) yV Rg st.T st.mn ag (λz C5 L T5 e5 hz Y=>Iz.mk t ae rfl T5 λr C6 ah T6 e6=>⟨jf,Y r C6 ah T6 e6⟩) λZ C5 h1 h2 T5 e5=>?_;have B:=st.ex ag T5 e5;exact Y _ _ ⟨Z,rfl,⟨B.nm,B.fs,B.fl,⟨h1,AK h2 Th⟩,h2,B.ls,B.ll,B.tw,B.mp,B.p0,B.np,B.ps,B.pi,B.p7,B.mn,B.T,B.e⟩⟩
 clear st;rintro af C5 ⟨Z,rfl,st⟩;refine mZ (λaf C'=>∃ai,af=Eo t O p i ai fs Z aa pn ak none/\uq 42 C C' t pn ae i ai fs Z aa p O) (λL Y=>?_) ?_
 .refine mQ (eQ _ _) (gJ (λhb=>?_) λhb=>fQ (Y _ _ ⟨_,rfl,st⟩))
  refine nK st.mp ?_;rw[AA];refine kK.mk t _ ae rfl st.T (by have:=st.pi;lia) (by have:=st.p7;lia) λj C6 j0 j1 T6 e6=>?_;have ej:j=((j.toNat:Nat):Int):=by lia
  rw[ej];have hj:j.toNat<O.length:=by lia
  have U:=st.ex ag T6 e6;refine tZ U.mp (iK (show(O.map Pt.pv)[j.toNat]?=some O[j.toNat].pv by rw[Ag,AJ hj];rfl)) (gQ Qe ?_);exact Y _ _ ⟨_,rfl,⟨(st.ps _ (BJ hj)).nm,U.fs,U.fl,U.wk,U.wl,U.ls,U.ll,U.tw,U.mp,U.p0,U.np,U.ps,U.pi,U.p7,U.mn,U.T,U.e⟩⟩
 clear st;rintro af C6 ⟨ai,rfl,st⟩;refine mZ (λaf C'=>∃p ps,af=Eo t O p i ai fs Z aa pn ak none/\uq 42 C C' t pn ae i ai fs Z aa p ps) (λL Y=>?_) ?_
 .refine mQ (eQ _ _) (gJ (λhb=>?_) λhb=>fQ (Y _ _ ⟨_,_,rfl,st⟩))
  refine kK.mk t 3 ae rfl st.T Th Th λw C7 w0 w1 T7 e7=>eJ (nK (e7 _ _ st.np st.mp) (gk (Fg ?_)));have ar:=st.ex ag T7 e7;rw[AA];have a3:∃n:Nat,(if 5+w-(O.length:Int) > 0 then 5+w-(O.length:Int) else 0)=(n:Int)/\n+O.length<=7:=⟨(5+w-(O.length:Int)).toNat,by split<;>lia,by lia⟩;obtain⟨n,en,a3⟩:=a3;rw[en];refine⟨by lia,by lia,?_⟩;rw[BU]
  refine mW (λzs aw C'=>∃ds:List Pt,aw=ds.map Pt.pv/\(∀x∈ds,oh 42 x)/\ds.length+zs.length=n/\(∀z∈zs,∃k:Nat,z=.int k/\k<6)/\Gr C7 C') ?_ ?_ _ _ _ ⟨[],rfl,(λx q=>by cases q),by rw[AA,Ax];exact BV _,λz hz=>?_,Gr.refl⟩
  .rintro z zs aw C8 ⟨ds,rfl,ax,ay,hz,g8⟩ L1 bg
   obtain⟨k,rfl,hk⟩:=hz z AL;rw[AD] at ay;refine OJ gf (Ek k hk).1 (Y0 (by rw[show("z":Str).length=1 from rfl];show 1+1<=20000;decide) ⟨AF _,AF _,AF _,j4,?_⟩);refine bg _ _ ⟨by rw[AA];exact AE (show _<8 by lia) Th,ds++[⟨zn k,[],[],[]⟩],by rw[AG];rfl,λx q=>?_,by rw[AB,A6];lia,λz bj=>hz z (AH _ bj),g8⟩
   rcases AY.1 q with q|q
   .exact ax x q
   .rw[AR.1 q]
    exact⟨(Ek k hk).2,(λc hc=>by cases hc),AF _,Nm,AF _,(λc hc=>by cases hc),AF _,AF _⟩
  .rintro aw C8 ⟨ds,rfl,ax,ay,hz,g8⟩ p4 aj
   rw[A0,An] at ay;have bl:=g8 _ _ ar.mp;refine lM (Gr.new aj _ _ _ bl) zQ (by rw[AA,AA];exact AK (show _<=7 by lia) Th) λp5 au=>?_;have g5:Gr C7 (cQ (cQ C8 p4 (.lst (ds.map Pt.pv))) p5 (.lst (O.map Pt.pv++ds.map Pt.pv))):=g8.trans ((Gr.new aj _).trans (Gr.new au _));have J:=ar.ex ag (ar.T.gr g5) (Ex.of g5);have a6:p5≠t:=((ar.T.gr g8).new aj _).ne au
   have bq:C p5=none:=(ar.e.trans ((Ex.of g8).trans (Ex.new aj _))).no a6 au;refine Y _ _ ⟨p5,O++ds,rfl,⟨J.nm,J.fs,J.fl,J.wk,J.wl,J.ls,J.ll,J.tw,by rw[zQ,AG],bq,a6,λx q=>?_,by rw[AB];have:=J.pi;lia,by rw[AB];lia,J.mn,J.T,J.e⟩⟩
   rcases AY.1 q with q|q
   .exact J.ps x q
   .exact ax x q
  .obtain⟨k,hk,rfl⟩:=AX.1 hz
   exact⟨k,rfl,by have:=BY.1 hk;lia⟩
 clear st;rintro af C7 ⟨p,ps,rfl,st⟩;refine mZ (λaf C'=>∃ls a8,af=Eo t O p i ai fs Z ls pn ak a8/\uq 90 C C' t pn ae i ai fs Z ls p ps) (λL Y=>?_) ?_
 .have a0:∀C',uq 42 C C' t pn ae i ai fs Z aa p ps->K9 (iI 10 (nj o5 (nj bB (Lz (tJ (cC (.str "nobody")) gY)) (fW (zK 2) aU (nj o5 (zK 0) (cC (.int 0))))) (kY kK (tJ (zK 0) (tJ (nj bB (kY uH (tJ (zK 2) gY)) (cC (.int 1))) gY))))) (iI 7 (nj bB (zK 7) (Rb (tJ (kY Jp (tJ (zK 0) (tJ (zK 10) gY))) gY)))) ((di.go R).wn L) (Eo t O p i ai fs Z aa pn ak none) C':=by
   intro C8 st;refine aX ⟨jg,λp4 aj=>?_⟩;have a5:=Gr.new aj (.lst [.str "nobody"]) _ _ st.mp;refine JM rfl a5 (lR (λC' g=>g _ _ a5) (λx=>match x with | .tup (n::_)=>n|_=>.non) _ [] _ Gr.refl (by rw[AA];show 0+_<=_;exact AK (show _<=7 by have:=st.p7;lia) Th) (λx q C9 Q' g9 hq=>?_) λp5 C9 au g9 m9=>?_)
   .obtain⟨y,_,rfl⟩:=AX.1 q
    exact gQ Qe (hq C9 Gr.refl)
   have m4:=g9 _ _ zQ;refine lM m4 m9 (by rw[BH,AA,AA];show 1+_<=_;exact AK (show _<=8 by have:=st.p7;lia) Th) λp6 a4=>?_;have g6:Gr C8 (cQ C9 p6 (.lst ([.str "nobody"]++([]++(ps.map Pt.pv).map (λx=>match x with | .tup (n::_)=>n|_=>PV.non))))):=(Gr.new aj _).trans (g9.trans (Gr.new a4 _))
   have m6:cQ C9 p6 (.lst ([.str "nobody"]++([]++(ps.map Pt.pv).map (λx=>match x with | .tup (n::_)=>n|_=>PV.non)))) p6=some (.lst (((("nobody":Str))::ps.map (·.name)).map PV.str)):=by
    rw[zQ,Aj,A5,Aj]
    rfl
   have U:=st.ex ag (st.T.gr g6) (Ex.of g6);have bo:p6≠t:=(((st.T.new aj _).gr g9)).ne a4;generalize cQ C9 p6 (.lst ([.str "nobody"]++([]++(ps.map Pt.pv).map (λx=>match x with | .tup (n::_)=>n|_=>PV.non))))=bt at g6 m6 U;refine nK U.mp (eJ ?_);rw[AA];refine gI U.T m6 bo (by rw[AA,AD,AA];have:=st.p7;lia) (by rw[AA,AD,AA];lia) ir λy hy bu az bb=>?_
   obtain⟨g,rfl,ao⟩:∃g,y=.str g/\qZ g=true:=by
    obtain⟨g,ao,rfl⟩:=AX.1 hy;refine⟨g,rfl,?_⟩
    rcases Ah.1 ao with rfl|ao
    .decide +kernel
    .obtain⟨x,q,rfl⟩:=AX.1 ao
     exact(st.ps x q).nm
   refine Jp.mk t ae g rfl az ao λl bw hb b0 a9 bc=>⟨jg,YZ (by rw[kA];show _+1<=1000;have:=st.ll;lia) ?_⟩;have ab:=(U.ex ag az bb).ex ag a9 bc;have el:Ln.ik aa++[l.pv]=Ln.ik (aa++[l]):=by rw[Z4];rfl
   rw[el];refine Y _ _ ⟨aa++[l],_,rfl,⟨ab.nm,ab.fs,ab.fl,ab.wk,ab.wl,λx q=>?_,by rw[AB,A6];have:=st.ll;lia,?_,ab.mp,ab.p0,ab.np,ab.ps,ab.pi,ab.p7,ab.mn,ab.T,ab.e⟩⟩
   .rcases AY.1 q with q|q
    .exact ab.ls x q
    .rw[AR.1 q];exact hb
   .rw[Ln.ie]
    show Ln.d9 aa+(l.tw+0)<=90;have:=st.tw
    lia
  refine mQ (eQ _ _) (gJ (λhb=>yH rfl (a0 C7 st)) λhb=>kK.mk t 2 ae rfl st.T Th Th λw C8 w0 w1 T8 e8=>mQ (eQ _ _) (gJ (λhc=>a0 C8 (st.ex ag T8 e8)) λhc=>fQ (Y _ _ ⟨aa,_,rfl,?_⟩)));have J:=st.ex ag T8 e8;exact⟨J.nm,J.fs,J.fl,J.wk,J.wl,J.ls,AK J.ll Th,AK J.tw Th,J.mp,J.p0,J.np,J.ps,J.pi,J.p7,J.mn,J.T,J.e⟩
 clear st;rintro af C8 ⟨ls,a8,rfl,st⟩
 have bh:ixN (ps.map Pt.pv).length (i:Nat)=some i:=by
  delta ixN
  rw[A4 ir,A4 (by rw[AA];have:=st.pi;lia),BU]
 refine wV ⟨j4,VL st.mp bh ?_⟩;refine eF zQ ?_;have es:(ps.map Pt.pv).set i (.tup [.str ai,.tup (fs.map nW),.tup (Z.map yV),.tup (Ln.ik ls)])=(ps.set i ⟨ai,fs,Z,ls⟩).map Pt.pv:=by rw[List.map_set];rfl
 rw[es];refine br (ps.set i ⟨ai,fs,Z,ls⟩) _ (by rw[Cj];have:=st.pi;lia) (by rw[Cj];exact st.p7) (λx q=>?_) (st.T.put st.np _) (st.e.put st.p0 _)
 rcases List.mem_or_eq_of_mem_set q with q|rfl
 .exact(st.ps x q).le Th
 .exact⟨st.nm,st.fs,st.fl,st.wk,st.wl,st.ls,st.ll,st.tw⟩
end
noncomputable def Ov:Ty->Str
 |.non=>"none"
 |.bl=>"truth"
 |.int=>"whole"
 |.str=>"text"
 |.tup=>"tuple"
 |.lst=>"list"
 |.dct=>"dict"
def Gz(h:tyP C x=some n)(g:Gr C C'):tyP C' x=some n:=by
 cases x with
 |ref a =>
  delta tyP at h ⊢
  dsimp only at h ⊢
  split at h
  .next e=>rwa[g a _ e]
  .next e=>rwa[g a _ e]
  .cases h
 |_=>exact h
def G4(h:tyP C (.ref a)=some n):n=.lst\/n=.dct:=by
 delta tyP at h
 dsimp only at h
 split at h<;>cases h
 .exact .inl rfl
 .exact .inr rfl
def yu(h:tyP C x=some n):vG x=decide (n=.non):=by
 cases x with
 |ref a=>rcases G4 h with rfl|rfl<;>rfl
 |non=>cases h;rfl
 |bl b=>cases h;rfl
 |int i=>cases h;rfl
 |str z=>cases h;rfl
 |tup ts=>cases h;rfl
 |_=>cases h
noncomputable def sc:PV->Bool
 |.non=>true
 |.bl _=>true
 |.int _=>true
 |.str _=>true
 |_=>false
section
variable{W:Wd}{a:Adr}
inductive cG(ts:List PV)(C:CH)(Q:K1):Prop
 |mk(x:PV)(n:Ty)(z0:ts=[x])(z1:tyP C x=some n)(z2:∀C',Gr C C'->Q (.str (Ov n)) C')
def dY{bs:List Bool}(m:C p=some (.lst (bs.map PV.bl)))(h1:bs[j]?=some true)(h2:∀m,m<j->bs[m]?=some false)(q:Q (.int (j:Nat)) C):zN (.ref p) [.bl true] C Q:=by
 delta zN
 dsimp only;exact m▸⟨bs,j,rfl,h1,h2,q⟩
def WH(T:Tx W a):Ok W a 1 47 ["_law_thing"] cG:=by
 have S:=(T.F 47 rfl).s
 refine(T.F 47 rfl).ok (λts C R h=>?_) λab A outer s H E ae=>⟨_,(xQ (fj 1 S.nd (oQ (qQ (qJ zM nG (cv 0) jZ (lJ _)) (qQ (aQ sQ nX rfl T.lQ rfl (qQ (cv 0) (c7 (oZ rfl T.wN rfl)))) (qQ (aQ sQ nX rfl T.lQ rfl (qQ (cv 0) (c7 (oZ rfl T.bT rfl)))) (c7 (aQ sQ nX rfl T.lQ rfl (qQ (cv 0) (c7 (oZ rfl T.mB rfl))))))))))
  (xQ (fj 1 S.nd (uX jX xX (cv 1) (oQ (qQ (aQ sQ nX rfl T.lQ rfl (qQ (cv 0) (c7 (oZ rfl T.xZ rfl)))) (qQ (aQ sQ nX rfl T.lQ rfl (qQ (cv 0) (c7 (oZ rfl T.vN rfl)))) (c7 sX))))))
  (kQ (uQ (cx (oQ (qQ wQ (qQ wQ (qQ wQ (qQ wQ (qQ wQ (qQ wQ (c7 wQ)))))))) (rD Ae PySem.F.slot_list_index PySem.F.type_list_index Kx Zv (cv 1) (c7 sX))))))),?_⟩
 .obtain⟨x,n,rfl,_⟩:=h;rfl
 rintro ts C R ⟨x,n,rfl,J,aa⟩;refine aX ?_;refine wX rfl J ?_;refine wX rfl J ?_;refine wX rfl J ?_;refine⟨j4,λp1 h1=>?_⟩;have L:Gr C (cQ C p1 (.lst [.bl (id (vG x)),.bl (cJ n .bl),.bl (cJ n .int),.bl (cJ n .str)])):=Gr.new h1 _;have Z:cQ C p1 (.lst [.bl (id (vG x)),.bl (cJ n .bl),.bl (cJ n .int),.bl (cJ n .str)]) p1=some (.lst [.bl (id (vG x)),.bl (cJ n .bl),.bl (cJ n .int),.bl (cJ n .str)]):=zQ
 generalize cQ C p1 (.lst [.bl (id (vG x)),.bl (cJ n .bl),.bl (cJ n .int),.bl (cJ n .str)])=C1 at L Z ⊢;have Y:=Gz J L;refine aX ?_;refine wX rfl Y ?_;refine wX rfl Y ?_;refine⟨km,λp2 h2=>?_⟩;refine lM (Gr.new h2 _ _ _ Z) zQ (by show 4+3<=sizeLine;decide) λp3 h3=>?_;have O:Gr C1 (cQ (cQ C1 p2 (.lst [.bl (cJ n .tup),.bl (cJ n .lst),.bl true])) p3 (.lst ([.bl (id (vG x)),.bl (cJ n .bl),.bl (cJ n .int),.bl (cJ n .str)]++[.bl (cJ n .tup),.bl (cJ n .lst),.bl true]))):=(Gr.new h2 _).trans (Gr.new h3 _)
 have m3:cQ (cQ C1 p2 (.lst [.bl (cJ n .tup),.bl (cJ n .lst),.bl true])) p3 (.lst ([.bl (id (vG x)),.bl (cJ n .bl),.bl (cJ n .int),.bl (cJ n .str)]++[.bl (cJ n .tup),.bl (cJ n .lst),.bl true])) p3=some (.lst (([vG x,cJ n .bl,cJ n .int,cJ n .str,cJ n .tup,cJ n .lst,true]:List Bool).map PV.bl)):=zQ;generalize cQ (cQ C1 p2 (.lst [.bl (cJ n .tup),.bl (cJ n .lst),.bl true])) p3 (.lst ([.bl (id (vG x)),.bl (cJ n .bl),.bl (cJ n .int),.bl (cJ n .str)]++[.bl (cJ n .tup),.bl (cJ n .lst),.bl true]))=C3 at O m3 ⊢
 refine⟨Th,λp4 U=>?_⟩;have q:=Gr.new U (.lst [.str "none",.str "truth",.str "whole",.str "text",.str "tuple",.str "list",.str "dict"]) _ _ m3;rw[yu J] at q;have B:=aa _ ((L.trans O).trans (Gr.new U (.lst [.str "none",.str "truth",.str "whole",.str "text",.str "tuple",.str "list",.str "dict"])));have i1:∀(j:Nat)(bs:List Bool),bs[j]?=some true->(∀m,m<j->bs[m]?=some false)->True:=λ_ _ _ _=>trivial
 refine⟨lZ q,?_⟩
 cases n with
 |non=>exact dY q rfl (λm h=>absurd h (Ci _)) (tZ zQ rfl B)
 |bl=>exact dY q (j:=1) rfl Th (tZ zQ rfl B)
 |int=>exact dY q (j:=2) rfl Th (tZ zQ rfl B)
 |str=>exact dY q (j:=3) rfl Th (tZ zQ rfl B)
 |tup=>exact dY q (j:=4) rfl Th (tZ zQ rfl B)
 |lst=>exact dY q (j:=5) rfl Th (tZ zQ rfl B)
 |dct=>exact dY q (j:=6) rfl Th (tZ zQ rfl B)
end
def Sc:PV->Prop
 |.non=>True
 |.bl _=>True
 |.int _=>True
 |.str _=>True
 |_=>False
def Same(C:CH):Nat->PV->PV->Prop
 |0,_,_=>False
 |d+1,x,y=>(x=y/\Sc x)\/(∃xs,x=.tup xs/\y=.tup xs/\xs.length<=1000/\∀t∈xs,Same C d t t)\/∃p q xs,x=.ref p/\y=.ref q/\C p=some (.lst xs)/\C q=some (.lst xs)/\xs.length<=1000/\∀t∈xs,Same C d t t
theorem Same.gr(g:Gr C C'):∀{d}{x y},Same C d x y->Same C' d x y
 |0,_,_,h=>h
 |_+1,_,_,.inl h=>.inl h
 |_+1,_,_,.inr (.inl ⟨xs,B,J,l,h⟩)=>.inr (.inl ⟨xs,B,J,l,λt L=>Same.gr g (h t L)⟩)
 |_+1,_,_,.inr (.inr ⟨p,q,xs,B,J,O,U,l,h⟩)=>.inr (.inr ⟨p,q,xs,B,J,g _ _ O,g _ _ U,l,λt L=>Same.gr g (h t L)⟩)
def Q2{ss:List Str}(hs:oN C y=some (ss.map PV.str))(h:n∉ss)(q:Q (.bl false) C):eR false (.str n) y C Q:=by
 apply aO hs rfl (cL ss)
 have:inV (.str n) (ss.map V.str)=false:=by
  delta inV
  rw[List.any_eq_false];intro y B;obtain⟨z,J,rfl⟩:=AX.1 B;intro e;have:z=n:=by simpa[eqV] using e
  exact h (this▸J)
 rwa[this]
theorem Xb:∀bs:List Bool,cY (bs.map PV.bl)=some (bs.map V.bl)
 |[]=>rfl
 |b::bs=>by
  show(match wR (.bl b),cY (bs.map PV.bl) with|some v,some vs=>some (v::vs)|_,_=>none)=_;rw[Xb bs]
  rfl
def WI{xs:List PV}(m:C p=some (.lst ((xs.map λ_=>true).map PV.bl)))(q:Q (.bl true) C):eR true (.bl false) (.ref p) C Q:=by
 apply aO (by show(match C p with|some (.lst xs)=>some xs|_=>none)=_;rw[m]) rfl (Xb _)
 have:inV (.bl false) ((xs.map λ_=>true).map V.bl)=false:=by
  delta inV
  rw[List.any_eq_false];intro y J;obtain⟨b,B,rfl⟩:=AX.1 J;obtain⟨_,_,rfl⟩:=AX.1 B
  decide +kernel
 rwa[this]
def Gb(l:xs.length<=1000)(O:∀x∈xs,∀C1,Gr C C1->∀L:K1,(∀C2,Gr C1 C2->L (.bl true) C2)->c (some x::ρ) C1 L)(q:∀p C',Gr C C'->C' p=some (.lst ((xs.map λ_=>true).map PV.bl))->Q (.ref p) C'):rJ aU c ρ Q xs [] C:=
 qW (λ_=>.bl true) xs [] C Gr.refl (by rw[A0,BV];exact AK l Th) (λx J C1 B g h=>O x J C1 g B h) λp C' _ g m=>q p C' g (by simp_all)
def Q0 n:sEq (.int n) (.int n)=some true:=by grind[eQ]
section
variable{W:Wd}{a:Adr}
inductive Mx(d:Nat)(ts:List PV)(C:CH)(Q:K1):Prop
 |mk(x y:PV)(z0:ts=[x,y])(z1:Same C d x y)(z3:∀C',Gr C C'->Q (.bl true) C')
theorem Fb(T:Tx W a):∀d,Ok W a (d+2) 48 ["_law_one","_law_other_here"] (Mx d)
 |0=>xD λts C Q ⟨_,_,_,h,_⟩=>h
 |d+1=>by
  have S:=(T.F 48 rfl).s;have xP:=Fb T d;have XI:=(WH T).mono (show 1<=d+2 by lia)
  refine(T.F 48 rfl).ok (λts C R h=>?_) λaa A outer s H E Z=>⟨_,(xQ (fj 2 S.nd (cf (T.F 47 rfl) XI Z (c7 (cv 0))))
  (xQ (nQ (ct2 xY zV (cv 2) (cf (T.F 47 rfl) XI Z (c7 (cv 1)))) (kQ (uQ sX)) pQ)
  (xQ (nQ (ct2 rX yX (cv 2) wQ) (kQ (JC PassesOwn.never rfl (cv 0) (jl 3 S.nd) (xQ (oH (i:=4) S.nd rfl (Or.inl rfl) rfl (S.c gf) (S.k rfl rfl rfl gf) (qK (cv 1)) (λ_ _ _ _ _=>(Zz (zX (cf (T.F 48 rfl) xP Z (qQ (cv 4) (c7 (cv 0))))))) (λ_ _ _ _ _=>(cv 0)))
  (kQ (nQ (dq (dN (ct2 xY zV (gw T.tX (cv 4)) jQ) (dm (vX (zX (cf (T.F 48 rfl) xP Z (qQ (cx (cv 0) (cv 3)) (c7 (cx (cv 1) (cx (cv 4) jQ)))))))))) (kQ (uQ sX)) pQ))))) pQ)
  (xQ (nQ (dq (iw (xJ bW dJ (cv 2) (dQ (qQ wQ (qQ wQ (c7 wQ)))) rfl) (gm (ct2 xY zV (gw T.tX (cv 0)) (gw T.tX (cv 1)))))) (kQ (uQ sX)) pQ)
  (xQ (nQ (xJ bW dJ (cv 2) (dQ (qQ wQ (c7 wQ))) rfl) (kQ (uQ (qJ eZ dJ sX (sZ rfl (S.c gf) (S.k rfl rfl rfl gf) (sR rfl T.dW (c7 (gw T.tX (cv 0)))) (λ_ _ _ _ _=>fZ) (λ_ _ _ _ _=>(cf (T.F 48 rfl) xP Z (qQ (cx (cv 1) (cv 0)) (c7 (cx (cv 2) (cv 0))))))) rfl))) pQ)
  (kQ (uQ (JP (qJ rX yX (cv 2) wQ (lJ _)) (pV (qJ rX yX (cv 0) (cv 1) (lJ _))))))))))),?_⟩
  .obtain⟨_,_,rfl,_⟩:=h;rfl
  rintro ts C Q ⟨x,y,rfl,h,q⟩
  rcases h with ⟨rfl,hs⟩|⟨xs,rfl,rfl,l,h⟩|⟨p,p',xs,rfl,rfl,m1,m2,l,h⟩
  .cases x with
   |non =>
    refine cG.mk _ .non rfl rfl λC1 B=>cG.mk _ .non rfl rfl λC2 J=>?_;refine(dh (fQ ((dh (fQ ?_)))));refine⟨Th,Q2 (ss:=["tuple","list","dict"]) rfl gf (bQ rfl (gB rfl (fQ ?_)))⟩;refine⟨Th,Q2 (ss:=["tuple","list"]) rfl gf (bQ rfl (fQ ?_))⟩;exact(dh (mQ (by simp[sEq]) (q C2 (B.trans J))))
   |bl b =>
    refine cG.mk _ .bl rfl rfl λC1 B=>cG.mk _ .bl rfl rfl λC2 J=>?_;refine(dh (fQ ((dh (fQ ?_)))));refine⟨Th,Q2 (ss:=["tuple","list","dict"]) rfl gf (bQ rfl (gB rfl (fQ ?_)))⟩;refine⟨Th,Q2 (ss:=["tuple","list"]) rfl gf (bQ rfl (fQ ?_))⟩;exact(dh (mQ (by simp[sEq]) (q C2 (B.trans J))))
   |int i =>
    refine cG.mk _ .int rfl rfl λC1 B=>cG.mk _ .int rfl rfl λC2 J=>?_;refine(dh (fQ ((dh (fQ ?_)))));refine⟨Th,Q2 (ss:=["tuple","list","dict"]) rfl gf (bQ rfl (gB rfl (fQ ?_)))⟩;refine⟨Th,Q2 (ss:=["tuple","list"]) rfl gf (bQ rfl (fQ ?_))⟩;exact(dh (mQ (b:=true) (by simp[sEq]) (q C2 (B.trans J))))
   |str z =>
    refine cG.mk _ .str rfl rfl λC1 B=>cG.mk _ .str rfl rfl λC2 J=>?_;refine(dh (fQ ((dh (fQ ?_)))));refine⟨Th,Q2 (ss:=["tuple","list","dict"]) rfl gf (bQ rfl (gB rfl (fQ ?_)))⟩;refine⟨Th,Q2 (ss:=["tuple","list"]) rfl gf (bQ rfl (fQ ?_))⟩;exact(dh (mQ (b:=true) (by simp[sEq]) (q C2 (B.trans J))))
   |_=>exact hs.elim
  .refine cG.mk _ .tup rfl rfl λC1 B=>cG.mk _ .tup rfl rfl λC2 J=>?_
   refine(dh (fQ ((dh (fQ ?_)))));refine⟨Th,KG (ss:=["tuple","list","dict"]) rfl gf (eX rfl (mX (mX (mQ (Q0 _) (bQ rfl (fQ ?_))))))⟩;refine⟨Th,KG (ss:=["tuple","list"]) rfl gf (eX rfl (mX ⟨by lia,by lia,?_⟩))⟩;refine Gb (by rw[AA,Ax,BU];exact l) (λt ht Y O L hL=>?_) λp3 Y O m3=>WI m3 (q Y (B.trans (J.trans O)))
   obtain⟨k,U,rfl⟩:=AX.1 ht;rw[BY,BU] at U;exact gQ (iK (AJ U)) (gQ (iK (AJ U)) (Mx.mk xs[k] xs[k] rfl ((h _ (BJ U)).gr (B.trans (J.trans O))) hL))
  .have ty:∀{C':CH}{r:Addr},C' r=some (.lst xs)->tyP C' (.ref r)=some .lst:=λe=>by show(match _ with|some (CO.lst _)=>some Ty.lst|some (CO.dK _)=>some Ty.dct|_=>none)=_;rw[e]
   refine cG.mk _ .lst rfl (ty m1) λC1 B=>cG.mk _ .lst rfl (ty (B _ _ m2)) λC2 J=>?_;have n1:=J _ _ (B _ _ m1);have n2:=J _ _ (B _ _ m2);refine(dh (fQ ((dh (fQ ?_)))));refine⟨Th,KG (ss:=["tuple","list","dict"]) rfl gf (eX rfl (nK n1 (nK n2 (mQ (Q0 _) (bQ rfl (fQ ?_))))))⟩;refine⟨Th,KG (ss:=["tuple","list"]) rfl gf (eX rfl (nK n1 ⟨by lia,by lia,?_⟩))⟩
   refine Gb (by rw[AA,Ax,BU];exact l) (λt ht Y O L hL=>?_) λp3 Y O m3=>WI m3 (q Y (B.trans (J.trans O)));obtain⟨k,U,rfl⟩:=AX.1 ht;rw[BY,BU] at U;exact tZ (O _ _ n1) (iK (AJ U)) (tZ (O _ _ n2) (iK (AJ U)) (Mx.mk xs[k] xs[k] rfl ((h _ (BJ U)).gr (B.trans (J.trans O))) hL))
end
section
variable{C:CH}
theorem Same.up:∀{d}{x y},Same C d x y->Same C (d+1) x y
 |0,_,_,h=>h.elim
 |_+1,_,_,.inl h=>.inl h
 |_+1,_,_,.inr (.inl ⟨xs,B,J,l,h⟩)=>.inr (.inl ⟨xs,B,J,l,λt L=>Same.up (h t L)⟩)
 |_+1,_,_,.inr (.inr ⟨p,q,xs,B,J,O,U,l,h⟩)=>.inr (.inr ⟨p,q,xs,B,J,O,U,l,λt L=>Same.up (h t L)⟩)
def Same.le(h:Same C d x y)(l:d<=d'):Same C d' x y:=by
 induction l with
 |refl=>exact h
 |step _ q=>exact q.up
def qF(h:Sc x):Same C (d+1) x x:=.inl ⟨rfl,h⟩
def kG(l:xs.length<=1000)(h:∀t∈xs,Same C d t t):Same C (d+1) (.tup xs) (.tup xs):=.inr (.inl ⟨xs,rfl,rfl,l,h⟩)
theorem vO:∀r:Rk,Same C (r.dw.length+1) r.pv r.pv
 |.num i=>kG (by simp_all) λt q=>by
  simp only[List.mem_cons,List.not_mem_nil,or_false] at q
  rcases q with rfl|rfl<;>exact qF trivial
 |.turn n=>kG (by show 2<=1000;decide) λt q=>by
  simp only[List.mem_cons,List.not_mem_nil,or_false] at q
  rcases q with rfl|rfl<;>exact qF trivial
 |.ask s n=>kG (by show 2<=1000;decide) λt q=>by
  simp only[List.mem_cons,List.not_mem_nil,or_false] at q
  rcases q with rfl|rfl<;>exact qF trivial
 |.bin w x y=>by
  have e:(Rk.bin w x y).dw.length=x.dw.length+y.dw.length+1:=by show(w::(x.dw++y.dw)).length=_;rw[AD,AB]
  refine kG (by simp_all) λt q=>?_
  simp only[List.mem_cons,List.not_mem_nil,or_false] at q
  rcases q with rfl|rfl|rfl
  .exact e▸qF trivial
  .exact(vO x).le ir
  .exact(vO y).le ir
 |.pick x y z=>by
  have e:(Rk.pick x y z).dw.length=x.dw.length+(y.dw.length+z.dw.length)+1:=by show(("pick":Str)::(x.dw++(y.dw++z.dw))).length=_;rw[AD,AB,AB]
  refine kG (by simp_all) λt q=>?_
  simp only[List.mem_cons,List.not_mem_nil,or_false] at q
  rcases q with rfl|rfl|rfl|rfl
  .exact qF trivial
  .exact(vO x).le ir
  .exact(vO y).le ir
  .exact(vO z).le ir
def wO(h:Rg r):Same C 31 r.pv r.pv:=(vO r).le (by have:=h.l;lia)
def VI(h:j6 k):Same C 31 (nV k) (nV k):=by
 cases k with
 |none=>exact qF trivial
 |some r=>exact wO (h r rfl)
def VH(h:o7 ps):Same C 33 (.tup (ps.map yV)) (.tup (ps.map yV)):=by
 refine kG (by rw[AA];have:=h.2;omega) λt q=>?_;obtain⟨c,B,rfl⟩:=AX.1 q;refine kG (by simp_all) λt q=>?_
 simp only[List.mem_cons,List.not_mem_nil,or_false] at q
 rcases q with rfl|rfl
 .exact qF trivial
 .exact wO (h.1 c B).2
def M5{hs:List Hd}(h:∀x∈hs,ut x)(l:hs.length<=1000):Same C 35 (.tup (hs.map Hd.pv)) (.tup (hs.map Hd.pv)):=by
 refine kG (by grind) λt q=>?_;obtain⟨x,B,rfl⟩:=AX.1 q;refine kG (by simp_all) λt q=>?_
 simp only[List.mem_cons,List.not_mem_nil,or_false] at q
 rcases q with rfl|rfl|rfl|rfl
 .exact qF trivial
 .exact qF trivial
 .exact qF trivial
 .refine kG (by rw[AA];have:=(h x B).cl;omega) λt q=>?_
  obtain⟨c,J,rfl⟩:=AX.1 q;refine kG (by simp_all) λt q=>?_
  simp only[List.mem_cons,List.not_mem_nil,or_false] at q
  rcases q with rfl|rfl|rfl
  .exact qF trivial
  .exact qF trivial
  .exact wO ((h x B).ch c J).2.2
def yO(h:∀l∈ls,Same C (36+2*d) l.pv l.pv)(l:ls.length<=1000):Same C (36+2*d+1) (.tup (Ln.ik ls)) (.tup (Ln.ik ls)):=by
 rw[Ln.d8];refine kG (by grind) λt q=>?_;obtain⟨x,B,rfl⟩:=AX.1 q;exact h x B
theorem uO:∀d(l:Ln),l.gd d->Same C (36+2*d) l.pv l.pv
 |0,l,h=>by cases l<;>exact h.elim
 |d+1,l,h=>by
  have st:∀s:Str,Same C (36+2*d+1) (.str s) (.str s):=λs=>qF trivial
  cases l with
  |plain k O s hs ls =>
   refine kG (by simp_all) λt q=>?_
   simp only[List.mem_cons,List.not_mem_nil,or_false] at q
   rcases q with rfl|rfl|rfl|rfl|rfl|rfl
   .exact st _
   .exact(VI h.1.1).le ir
   .exact st _
   .exact(VH h.2.1.1).le ir
   .exact(M5 h.2.1.2.1 h.2.1.2.2).le ir
   .exact yO (λx B=>uO d x (h.2.2.1 x B)) h.2.2.2
  |part k n g =>
   refine kG (by simp_all) λt q=>?_
   simp only[List.mem_cons,List.not_mem_nil,or_false] at q
   rcases q with rfl|rfl|rfl|rfl
   .exact st _
   .exact(VI h.1.1).le ir
   .exact st _
   .exact(VH h.2).le ir
  |give k n r ls =>
   refine kG (by simp_all) λt q=>?_
   simp only[List.mem_cons,List.not_mem_nil,or_false] at q
   rcases q with rfl|rfl|rfl|rfl|rfl
   .exact st _
   .exact(VI h.1.1).le ir
   .exact st _
   .exact(wO h.2.1).le ir
   .exact yO (λx B=>uO d x (h.2.2.1 x B)) h.2.2.2
  |when r J L =>
   refine kG (by show 4<=1000;decide) λt q=>?_
   simp only[List.mem_cons,List.not_mem_nil,or_false] at q
   rcases q with rfl|rfl|rfl|rfl
   .exact st _
   .exact(wO h.1).le ir
   .exact yO (λx B=>uO d x (h.2.1.1 x B)) h.2.1.2
   .exact yO (λx B=>uO d x (h.2.2.1 x B)) h.2.2.2
  |each n r ls =>
   refine kG (by show 4<=1000;decide) λt q=>?_
   simp only[List.mem_cons,List.not_mem_nil,or_false] at q
   rcases q with rfl|rfl|rfl|rfl
   .exact st _
   .exact st _
   .exact(wO h.1.1).le ir
   .exact yO (λx B=>uO d x (h.2.1 x B)) h.2.2
def M4{B:List Pt}(h:∀x∈B,Eh x)(l:B.length<=1000):Same C 63 (.tup (B.map Pt.pv)) (.tup (B.map Pt.pv)):=by
 refine kG (by grind) λt q=>?_;obtain⟨x,J,rfl⟩:=AX.1 q;have g:=h x J;refine kG (by simp_all) λt q=>?_
 simp only[List.mem_cons,List.not_mem_nil,or_false] at q
 rcases q with rfl|rfl|rfl|rfl
 .exact qF trivial
 .refine kG (by rw[AA];have:=g.fl;omega) λt q=>?_
  obtain⟨c,L,rfl⟩:=AX.1 q;refine kG (by simp_all) λt q=>?_
  simp only[List.mem_cons,List.not_mem_nil,or_false] at q
  rcases q with rfl|rfl<;>exact qF trivial
 .exact(VH g.wk).le (Nat.le_add_left _ _)
 .exact yO (λx J=>uO 12 x (g.ls x J)) g.ll
end
def eB(B:Wo w)(q:∀u∈us,Wo u)(l:us.length<=99):XE (w::us):=
 ⟨List.cons_ne_nil _ _,λu h=>(Ah.1 h).elim (λe=>e▸B) (q u),by rw[AD];lia⟩
def rP(B:Wo w)(q:∀u∈us,Wo u):∀u∈w::us,Wo u:=by grind
def Rg.wo(h:Rg r):∀w∈r.dw,Wo w:=Rk.wo h.g
theorem lw(h:w∈(["turn","take","down","box","add","times","less","pick","num","-","plain","draw","give","when","each","set","with","work","hand","change","last","on","part","end","else","1","2","3"]:List Str):=by decide +kernel):Wo w:=cK h
theorem V2(B:Wo w)(h:o7 ps):∀ws∈ps.map (lr w),XE ws:=λws J=>by
 obtain⟨c,q,rfl⟩:=AX.1 J;have:=h.1 c q;exact eB B (rP (rV this.1) this.2.wo) (by rw[AD];have:=this.2.l;lia)
def O8(h:ut x):∀ws∈x.dw,XE ws:=λws q=>by
 rcases Ah.1 q with rfl|q
 .exact eB lw (rP (rV h.ev) (rP (bC ⟨by have:=h.r1;lia,by have:=h.r3;lia⟩) (rP (Jg _) (λu J=>by cases J)))) (by simp_all)
 .obtain⟨c,B,rfl⟩:=AX.1 q
  have:=h.ch c B;exact eB lw (rP (rV this.1) (rP (Gd this.2.1) this.2.2.wo)) (by rw[AD,AD];have:=this.2.2.l;lia)
def Lb:XE [("end":Str)]:=eB lw (λu q=>by cases q) (AF _)
abbrev ud(rows:List (List Str)):Prop:=∀ws∈rows,XE ws
theorem cW(h1:ud xs)(h2:ud ys):ud (xs++ys):=by grind
def sW(h1:XE x)(h2:ud ys):ud (x::ys):=by grind
def lH:ud [[("end":Str)]]:=sW Lb λws h=>by cases h
theorem qL(h:∀l∈ls,ud l.rows):ud (Ln.d7 ls):=by
 induction ls with
 |nil=>exact λws h=>by cases h
 |cons l ls B=>exact cW (h l AL) (B λx q=>h x (AH _ q))
def Fp(B:Wo w)(q:qZ n=true)(h:j6 k):XE (w::n::jb k):=eB B (rP (rV q) h.wo.1) (by rw[AD];have:=h.wo.2;lia)
theorem Ln.Mr:∀d(l:Ln),l.gd d->ud l.rows
 |0,l,h=>by cases l<;>exact h.elim
 |d+1,.plain k U s hs ls,h=>sW (Fp lw h.1.2 h.1.1) (cW (V2 lw h.2.1.1) (cW (λws J=>oX (BW.1 J) λx q J=>O8 (h.2.1.2.1 x q) ws J) (cW (qL λx q=>Ln.Mr d x (h.2.2.1 x q)) lH)))
 |d+1,.part k n g,h=>sW (Fp lw h.1.2 h.1.1) (V2 lw h.2)
 |d+1,.give k n r ls,h=>sW (eB lw (rP (rV h.1.2) λu B=>(AY.1 B).elim (h.2.1.wo u) (h.1.1.wo.1 u)) (by rw[AD,AB];have:=h.1.1.wo.2;have:=h.2.1.l;lia)) (cW (qL λx q=>Ln.Mr d x (h.2.2.1 x q)) lH)
 |d+1,.when r L O,h=>sW (eB lw h.1.wo (by have:=h.1.l;lia)) (cW (qL λx q=>Ln.Mr d x (h.2.1.1 x q)) (sW (eB lw (λu B=>by cases B) (AF _)) (cW (qL λx q=>Ln.Mr d x (h.2.2.1 x q)) lH)))
 |d+1,.each n r ls,h=>sW (eB lw (rP (rV h.1.2) h.1.1.wo) (by rw[AD];have:=h.1.1.l;lia)) (cW (qL λx q=>Ln.Mr d x (h.2.1 x q)) lH)
def Nj(h:Eh x):ud x.rows:=
 sW (eB lw (rP (rV h.nm) (λu q=>by cases q)) (by grind)) (cW (λws L=>by
  obtain⟨c,B,rfl⟩:=AX.1 L;have:=h.fs c B
  exact eB lw (rP (rV this.1) (rP (bC this.2) (λu q=>by cases q))) (by simp_all)) (cW (V2 lw h.wk) (qL λl J=>Ln.Mr 12 l (h.ls l J))))
def O7(h:∀x∈J,Eh x):ud (gZ J):=λws q=>oX (BW.1 q) λx B q=>Nj (h x B) ws q
end K15
namespace CL
open PySem PySem.Spec L2
open PyProof.Rows hiding St
section
variable{K:DQ}{H H':Hp}{C C':CH}
def W4(h:dj K H C)(e:H a=some (.ext P)):C a=none:=by
 cases z:C a with
 |none=>rfl
 |some o =>
  have:=h a o z
  cases o with
  |lst _=>obtain⟨vs,q,_⟩:=this;rw[e] at q;cases q
  |dK _=>obtain⟨vs,q,_⟩:=this;rw[e] at q;cases q
  |fK _=>obtain⟨o,vs,q,_⟩:=this;rw[e] at q;cases q
  |dT _=>obtain⟨vs,q,_⟩:=this;rw[e] at q;cases q
  |fT _=>obtain⟨o,vs,q,_⟩:=this;rw[e] at q;cases q
  |ins _ _ _=>obtain⟨vs,q,_⟩:=this;rw[e] at q;cases q
def Zp(h:dj K H C)(f:Fw H C H' C')(e:H a=some (.ext P)):H' a=some (.ext P):=
 (f a (by rw[W4 h e];rfl) ir).2.trans e
def qw.fw{q}(x:qw K H e q fs)(h:dj K H C)(f:Fw H C H' C'):qw K H' e q fs:=by
 rcases x with ⟨J,⟨d,h1,h2⟩,B⟩|⟨z,x⟩
 .exact .inl ⟨J,⟨d,Zp h f h1,Zp h f h2⟩,Paired.mapP B λ_ _ z=>⟨z.1,z.2.dg (f.dg h)⟩⟩
 .exact .inr ⟨z,Zp h f x⟩
end
end CL
namespace K15
open PySem L2 CL
section
variable{W:Wd}{a:Adr}
inductive RV(ts:List PV)(C:CH)(Q:K1):Prop
 |mk(pts:List Pt)(n:Nat)(z0:ts=[.tup (pts.map Pt.pv)])(z1:1<=pts.length)(z7:pts.length<=7)(zn:n<=90)(zb:∀x∈pts,oh n x)(z2:∀C',Gr C C'->Q (.bl true) C')
def WB(T:Tx W a):Ok W a 66 55 ["_law_house"] RV:=by
 have S:=(T.F 55 rfl).s;have ax:=(Hw T).mono (show 58<=65 by decide);have ay:=(Hq (k:=0) T).mono (show 10<=65 by decide);have ai:=Fb T 63;have F:=(Nv T).mono (show 13<=65 by decide);refine Fun.SQ (T.F 55 rfl).F S ?_ ?_
 .rintro vs H Q E ⟨ts,C,R,r,h,⟨_,_,rfl,_⟩,f⟩
  rw[r.len];rfl
 .rintro bg A outer s H vs Q E Y ⟨ts,C,R,r,h,⟨q,n,rfl,h1,h7,hn,hb,av⟩,f⟩
  refine⟨_,⟨gK (JS.h (CS.h (fj 1 S.nd (cf (T.F 46 rfl) ax Y (c7 (cv 0))))))
   (gK (JS.h (CS.h (fj 2 S.nd jZ)))
   (gK (JS.h (CS.h (fj 3 S.nd jZ)))
   (gK (Ha (i:=2) (j:=4) F Y rfl ((T.F 23 rfl).m rfl) (T.F 23 rfl).F.kp ((T.F 23 rfl).b) .nil rfl rfl rfl T.QQ S.nd rfl (Or.inl rfl) rfl rfl (JA.h (CA.h (qQ (cv 1) cX))) λe=>cU (VZ (i:=3) S.nd rfl (Or.inl rfl) (qY (i:=4) rfl (Or.inl rfl))))
   (gK (V1 (JT.h (CT.h (zX (cf (T.F 49 rfl) ay Y (c7 (cv 0)))))) (cU (JS.h (CS.h (uQ (cV (qJ zM nG (cv 3) jZ (lJ _)) (pV (cf (T.F 48 rfl) ai Y (qQ (cv 2) (c7 (cv 0)))))))))) vA)
   (cU (X4 (Wq (JE.h (CE.h (qJ fA pR (cv 3) jZ (lJ _)))) (Wf (Z7 ai Y rfl ((T.F 48 rfl).m rfl) (T.F 48 rfl).F.kp ((T.F 48 rfl).b) .nil vC (oM (Wc (zD (JE.h (Ji W.K ⟨qY (i:=3) rfl (Or.inl rfl)⟩)) (zD (JE.h (Ji W.K ⟨qY (i:=3) rfl (Or.inl rfl)⟩)) lU rfl) rfl)) (oM (JE.h (CE.h (dQ (qQ (gw T.tX (cv 1)) (c7 jQ))))) lU)))))))))))⟩,?_⟩
  cases r with
  |@cons bh _ _ _ r1 r =>
  cases r;have aa:∀x∈q,Eh x:=λx L=>(hb x L).g ir;have ag:∀x∈q,Mh x:=λx L=>(hb x L).w ir
  have au:(gZ q).length<=20000:=by
   have:=FN hb;have h2:(13+5*n)*q.length<=463*7:=Nat.mul_le_mul ir h7
   lia
  refine Ki (ρ:=[some (.tup (q.map Pt.pv)),none,none,none,none]) (C:=C) (.cons r1 (.cons trivial (.cons trivial (.cons trivial (.cons trivial .nil))))) h (λZ C'=>∃J,Z=[some (.tup (q.map Pt.pv)),some (.ref J),none,none,none]/\C' J=some (.lst (jr (gZ q)))/\Gr C C') (Pb.mk q rfl aa au λp C' hp g m=>⟨p,rfl,m,g⟩) ?_;rintro bj H1 _ C1 ⟨J,rfl,m1,aq⟩ s1 a7 a3;refine Ki s1 a7 (λZ C'=>Z=[some (.tup (q.map Pt.pv)),some (.ref J),some .non,none,none]/\C'=C1) ⟨rfl,rfl⟩ ?_
  rintro bl H2 _ C2 ⟨rfl,e2⟩ a9 h2 a4;subst e2;refine Ki a9 h2 (λZ C'=>Z=[some (.tup (q.map Pt.pv)),some (.ref J),some .non,some .non,none]/\C'=C2) ⟨rfl,rfl⟩ ?_;rintro bo H3 _ C3 ⟨rfl,e3⟩ ba h3 f3;subst e3;have ak:=(a3.trans a4).trans f3;refine Ss ba h3 (λt C'=>n6 q=true/\t=.tup (q.map Pt.pv)/\Gr C3 C') (λah fs C'=>n6 q=false/\ah=a.NoText/\fs=[((("line":Str)),.int ((gZ q).length:Nat)),((("word":Str)),.int 0)]/\Gr C3 C') ?_ ?_ ?_
  .exact⟨J,q,rfl,m1,⟨List.ne_nil_of_length_pos h1,by lia,au⟩,λx L=>⟨aa x L,ag x L⟩,O7 aa,λB C' g=>⟨B,rfl,g⟩,λB C' g=>⟨B,rfl,rfl,g⟩⟩
  .rintro v H4 _ C4 ⟨B,rfl,g4⟩ r4 h4 af ab
   refine S7 (ab.set r4 2) h4 (ak.trans af) (λb C'=>b=n6 q/\Gr C4 C') (IK.mk q rfl ag h1 ir λC' g=>(⟨rfl,g⟩:_/\_)) ?_;rintro _ C5 H5 ⟨rfl,g5⟩ ae U f5;rw[B];refine yH rfl ?_;have az:=Mx.mk _ _ rfl (M4 aa ir) λO g6=>av O (aq.trans (g4.trans (g5.trans g6)));exact Nf ae U R (show Lx (Gm (nj (Tw id) (zK 3) (cC PV.non)) (kY (Mx 63) (tJ (zK 2) (tJ (zK 0) gY)))) _ _ _ from az) λv' H' t' C' k r' h' f'=>f v' H' t' C' k r' h' (f5.trans f')
  .rintro ah fs C4 ⟨B,rfl,rfl,g4⟩
   refine⟨T.uD,λe H4 xh hl h4 af ab=>?_⟩;refine⟨.ref e,?_,?_⟩
   .obtain⟨v,a0,rv⟩:=(ab.set (.ref e) 4).get (i:=4) (t:=.ref e) rfl
    cases rv;exact a0
   have bb:=((ab.set (.ref e) 4).set (.ref e) 3).unset 4;refine S7 bb h4 Fw.refl (λb C'=>b=n6 q/\Gr C4 C') (IK.mk q rfl ag h1 ir λC' g=>(⟨rfl,g⟩:_/\_)) ?_;rintro _ C5 H5 ⟨rfl,g5⟩ ae U f5;rw[B];refine gB rfl ?_;have bf:=xh.fw h4 f5;refine⟨_,C5,λt C'=>t=.bl true/\C'=C5,ae,U,⟨rfl,rfl⟩,?_⟩;rintro v5 H6 _ O ⟨rfl,e6⟩ r6 h6 f6;subst e6;cases r6;refine⟨true,rfl,?_⟩;have aw:=bf.fw U f6
   have s6:=ae.dg (f6.dg U);obtain⟨ve,aj,a8⟩:=s6.get (i:=3) (t:=.ref e) rfl;cases a8;obtain⟨gs,vx,xa,lx,rx⟩:=aw.fld (f:="line") (t:=.int ((gZ q).length:Nat)) rfl;obtain⟨a6,vy,bc,ly,ry⟩:=aw.fld (f:="word") (t:=.int 0) rfl;cases rx;cases ry;refine yH rfl ?_;refine⟨.ref e,aj,e,a.NoText,gs,_,rfl,xa,T.mT.toXGet,T.pB.na,lx,⟨.ref e,aj,e,a.NoText,a6,_,rfl,bc,T.mT.toXGet,T.fB.na,ly,⟨jf,λp5 n5=>?_⟩⟩⟩
   have ar:=h6.new n5 (.tup [.int ((gZ q).length:Nat),.int 0]);have s7:=s6.dg (iu.new n5 (.tup [.int ((gZ q).length:Nat),.int 0]));have m5:O J=some (.lst (jr (gZ q))):=g5 _ _ (g4 _ _ m1);refine⟨_,O,λt C'=>t=.tup [.int ((gZ q).length:Nat),.int 0]/\C'=O,s7,ar,nK m5 ?_,?_⟩
   .rw[pU]
    exact⟨jf,rfl,rfl⟩
   rintro v7 H8 _ C8 ⟨rfl,e8⟩ r8 h8 ao;subst e8;have a5:=(Fw.new (C:=C8) n5 (.tup [.int ((gZ q).length:Nat),.int 0])).trans ao;have rt:Rep W.K H8 (.ref p5) (.tup [.int ((gZ q).length:Nat),.int 0]):=Rep.dg (ao.dg ar) (.tup iQ (.cons (.int _) (.cons (.int _) .nil)));refine⟨[.tup [.int ((gZ q).length:Nat),.int 0],.tup [.int ((gZ q).length:Nat),.int 0]],C8,R,.cons rt (.cons r8 .nil),h8,Mx.mk _ _ rfl ?_ λC9 g9=>av C9 (aq.trans (g4.trans (g5.trans g9))),λv' H' t' C' k r' h' f'=>f v' H' t' C' k r' h' (((ak.trans af).trans f5).trans (f6.trans (a5.trans f')))⟩
   refine(kG (d:=1) (by show 2<=1000;decide) λt ht=>?_).le Th
   simp only[List.mem_cons,List.not_mem_nil,or_false] at ht
   rcases ht with rfl|rfl<;>exact qF trivial
inductive Pj(ts:List PV)(C:CH)(Q:K1):Prop
 |mk(ns:List Int)(z0:ts=[.fz (ns.map PV.int)])(z1:ns.length<=63)(z2:∀C',Q (.bl true) C')
def ok_law(T:Tx W a):Ok W a 67 56 ["_law_script"] Pj:=by
 have S:=(T.F 56 rfl).s;have bH:=(Nt T).mono (show 3<=66 by decide);have U:=WB T
 refine(T.F 56 rfl).ok (λts C R h=>?_) λah A outer s H E q=>⟨_,(xQ (fj 1 S.nd (cf (T.F 26 rfl) ((xu T).mono (show 1<=66 by decide)) q (c7 (cv 0))))
  (xQ (fj 2 S.nd (cf (T.F 30 rfl) bH q (c7 (cv 1))))
  (xQ (nQ (vX (zX (cf (T.F 55 rfl) U q (c7 (cv 2))))) (kQ (uQ sX)) pQ)
  (xQ (bD PassesOwn.never rfl rfl T.dW (c7 jQ) (jl 3 S.nd) (xQ (fj 4 S.nd (cf (T.F 54 rfl) ((Ny T).mono (show 4<=66 by decide)) q (qQ (cv 1) (c7 (cv 2)))))
  (kQ (nQ (vX (zX (cf (T.F 55 rfl) U q (c7 (cv 4))))) (kQ (uQ sX)) pQ))))
  (kQ (uQ (cf (T.F 55 rfl) U q (c7 (dQ (c7 (dQ (qQ wQ (qQ (dQ cX) (qQ (dQ cX) (c7 (dQ cX)))))))))))))))),?_⟩
 .obtain⟨_,rfl,_⟩:=h;rfl
 rintro ts C Q ⟨B,rfl,hl,ag⟩;refine Ya.mk B rfl hl λt C1 ht e1 T1=>Uh.mk t B rfl T1 λO C2 h1 h6 Z T2 e2=>RV.mk O 42 rfl h1 ir Th Z λC3 aa=>lX (fQ ?_);dsimp only[di.wn];refine mZ (λ_ _=>True) (λL hL=>?_) λai C' _=>?_
 .refine⟨Th,Th,?_⟩
  refine uJ (λzs ρ C'=>∃x3 x4:Option PV,ρ=[some (.fz (B.map PV.int)),some (.ref t),some (.tup (O.map Pt.pv)),x3,x4]/\Tp C' t B) ?_ ?_ _ _ _ ⟨_,_,rfl,T2.gr aa⟩
  .rintro z zs ρ C4 ⟨x3,x4,rfl,T4⟩ L1 ae
   exact aX (Uk.mk t B O rfl T4 h1 h6 Z λps Y ab h7 af T5 e5=>RV.mk ps 90 rfl ab h7 Th af λC6 g6=>lX (fQ (ae _ _ ⟨_,_,rfl,T5.gr g6⟩)))
  .grind
 .refine⟨AF _,AF _,AF _,Th,Th,RV.mk [⟨"a",[],[],[]⟩] 0 rfl Th Th Th (λx hx=>?_) λY _=>ag Y⟩
  exact(AR.1 hx)▸⟨gf,(λc J=>by cases J),AF _,Nm,AF _,(λc J=>by cases J),AF _,AF _⟩
end
theorem QZ{K:DQ}{H:Hp}:∀q:List Int,du K H (q.map V.int) (q.map PV.int)
 |[]=>.nil
 |n::q=>.cons (.int n) (QZ q)
def walk{l:PySem.W.OpenLaw}{af:Program}{ae:List Str}{U:(Str->Option Value)->Heap->Prop}{J:World->Heap->Prop}{d:DefRec}{K:Params->DQ}(hn:l.most=some 63)(aa:d.params.defaults=[])(ab:d.name="law")(hY:∀(w:World)(h:Heap),J w h->(K w.params).In h)(F:∀(w:World)(mg:Str->Option Value)(h:Heap),(K w.params).In h->h.Ns mainGlobals mg->∃a:Adr,Txt l.prog w (K w.params) mg a):
  PySem.W.WalkO af ae U J l.row.toRowW d [] (λf vs=>PySem.call f vs):=by
 refine L2.walk_of (n:=63) (k:=67) (x:="_law_script") (CX:=λ_=>CX0) (sp:=λw=>qm (K w.params) Pj) hn Th aa ⟨rfl,Th,Th,rfl⟩ hY ?_ (λw H a B hl Z q=>?_) λ_ _ _ _ _ z=>z
 .intro w mg fa h O G L
  obtain⟨a,T⟩:=F w mg h O G;rw[ab] at L;have e:=L.symm.trans ((T.F 56 rfl).m rfl);cases e;obtain⟨_,_,_,_,_,_,_,_,_,Y,_⟩:=(T.F 56 rfl).F.ex;refine⟨a.d 56,?_,λbase _ _=>ok_law (W:=⟨_,_,_,_,base⟩) T⟩;rw[Y];exact λs u=>.of_eq rfl
 .have hz:Fz (K w.params) H a (B.map V.int):=by
   rcases q with q|q
   .rcases q with q|⟨o,q⟩
    .rcases Z a with h|⟨o,xs,h⟩
     .rw[q] at h;cases h
     .rw[q] at h;cases h
    .exact .inl ⟨o,q⟩
   .exact .inr q
  refine⟨[.fz (B.map PV.int)],λ_=>none,λv _=>v=.bl true,.cons (.fz hz (QZ B)) .nil,(λ_ _ z=>nomatch z),⟨B,rfl,hl,λ_=>rfl⟩,?_⟩;rintro v H' t C' rfl r h' f';cases r
  rfl
end K15
open PySem PySem.W PyProof.Rows
namespace PySem.W.Fast
def Z:=trivial
def tw3894206646504961525:=Z
def tw11045577073485432856:=Z
def tw7641614227032549735:=Z
def tw1679892209453898045:=Z
def tw18182898463713029821:=Z
def tw12526337355246232646:=Z
def tw3738956754918627729:=Z
def tw10099456069220644790:=Z
def tw5347357734665680964:=Z
def tw11795286773953626661:=Z
def tw7051777660455775697:=Z
def tw13047563157395829229:=Z
def tw1561898982390594375:=Z
def tw12047248491250615372:=Z
def tw3694338584233955566:=Z
def tw13341448691130630437:=Z
def tw9386914288114002157:=Z
def tw2648440670294154795:=Z
def tw12815825650965376565:=Z
def tw1678491281479977499:=Z
def tw870040220384729025:=Z
def tw15834700678276127003:=Z
def tw18270668363997114230:=Z
def tw6160181174565849352:=Z
def tw615512992855356310:=Z
def tw70220183441989461:=Z
def tw7243430361038273444:=Z
def tw10287162431802943899:=Z
def tw9977814329497697718:=Z
def tw5015269684306662146:=Z
def tw17106580061801115703:=Z
def tw17031989931022649208:=Z
def tw7505125220512429550:=Z
def tw4292438049859087692:=Z
def tw8011799348378705637:=Z
def tw1981159905319334937:=Z
def tw3415576990648441709:=Z
def tw9021001243252477159:=Z
def tw10205378201079034085:=Z
def tw13874847906026274488:=Z
def tw7059314215252073960:=Z
def tw15383261792662283930:=Z
def tw15474248509352784582:=Z
def tw15806216223839694969:=Z
def tw5900774844174358489:=Z
def tw16409759085443678522:=Z
def tw5027557281352864872:=Z
def tw15024402628058871797:=Z
def tw10428809122848085161:=Z
def tw8967320479550469210:=Z
def tw12709629643874541845:=Z
def tw13480737991122898908:=Z
def tw477174494822414021:=Z
def tw15252420811930827755:=Z
def tw7417366558846244248:=Z
def tw9861812228830147286:=Z
def tw3556003647675104931:=Z
def tw15286466227052340833:=Z
def tw2127554029816850204:=Z
def tw8716894802118611570:=Z
def tw1788920154617984939:=Z
def tw14827367044874714755:=Z
def tw12031468747801888748:=Z
def tw2233902132979343494:=Z
def tw8173374971478607206:=Z
def tw5230176733631758315:=Z
def tw655072677593867259:=Z
def tw9766102930144834864:=Z
def tw14882717596177229530:=Z
def tw15281853784802123562:=Z
def tw17728759599963092376:=Z
def tw3355302338813970599:=Z
def tw5526672617105513799:=Z
def tw1246894386858160175:=Z
def tw15900577302725451418:=Z
def tw1507970724494678190:=Z
def tw16863554612143051880:=Z
def tw13632029859808972893:=Z
def tw14871729974279548227:=Z
def tw13665401208177604477:=Z
def tw7410336774765958664:=Z
def tw17833316571960575765:=Z
def tw6864733108381459991:=Z
def tw2276573364652855928:=Z
def tw14452468653818584066:=Z
def tw4138462404034230504:=Z
def tw2656266972175200854:=Z
def tw13603016193416792252:=Z
def tw14797914355174522628:=Z
def tw12041790690040569445:=Z
def tw162599071552862520:=Z
def tw7142718848253769525:=Z
def tw15366183876578778827:=Z
def tw15828278593993274104:=Z
def tw13170363964714495899:=Z
def tw7864368526376625371:=Z
def tw15745721341119380462:=Z
def tw15141211446650930687:=Z
def tw9781383013756349822:=Z
def tw6499281119461887219:=Z
def tw1962864667513604033:=Z
def tw9217212873208789397:=Z
def tw16408116304065022122:=Z
def tw16865723128409195635:=Z
def tw3042893449772152397:=Z
def tw13515454452461721738:=Z
def tw6321837012595343292:=Z
def tw12830634910596423716:=Z
def tw16902516692208865153:=Z
def tw2686512357424819755:=Z
def tw15572079575297823510:=Z
def tw15247829696138242317:=Z
def tw4221926938843638517:=Z
def tw16629434387474757756:=Z
def tw14621960397853260312:=Z
def tw5281632765042536345:=Z
def tw8436702218607511183:=Z
def tw632459311817725987:=Z
def tw4432424276005815208:=Z
def tw7088020871685020194:=Z
def tw1390694046811908817:=Z
def tw1845834078811112874:=Z
def tw941676634550895067:=Z
def tw2753321261288486837:=Z
def tw13927869334124032840:=Z
def tw16592840164279704082:=Z
def tw10445318576456455347:=Z
def tw5649811666946045951:=Z
def tw5305589983063357963:=Z
def tw1123733119060383483:=Z
def tw6075423656752386034:=Z
def tw3106117708750558726:=Z
def tw12023943347536544590:=Z
def tw2425381315217228306:=Z
def tw9687577137664111932:=Z
def tw2488898968725233424:=Z
def tw2784715228518177144:=Z
def tw10716201414841088577:=Z
def tw8856689730883413956:=Z
def tw248827978340562133:=Z
def tw14246019763042403766:=Z
def tw14542540420705496404:=Z
def tw13885576755439977389:=Z
def tw17781164599841624452:=Z
def tw1228268792646503067:=Z
def tw6146823467650507416:=Z
def tw6552006040402885963:=Z
def tw18154955952381376340:=Z
def tw10465361357272899550:=Z
def tw11469830123050430288:=Z
def tw7689789671073049000:=Z
def tw18312409599583231866:=Z
def tw5817768619420345218:=Z
def tw11861571949335388155:=Z
def tw7981270199786790807:=Z
def tw13100819086379104668:=Z
def tw13546075936755111832:=Z
def tw2483159709533710610:=Z
def tw7423482077575430047:=Z
def tw4273109343532879133:=Z
def tw7403644112117560781:=Z
def tw1540624139655942943:=Z
def tw14486419447157842547:=Z
def tw1227413007923971775:=Z
def tw1924896221866035032:=Z
def tw11341266182477734732:=Z
def tw1630639517014473741:=Z
def tw311847207728291510:=Z
def tw12817552867954840955:=Z
def tw226965874399866671:=Z
def tw5410688953224339514:=Z
def tw7861300891404935274:=Z
def tw924179452693996422:=Z
def tw4472379600588232948:=Z
def tw3301027189823551106:=Z
def tw16591453190911627612:=Z
def tw7217332201660797823:=Z
def tw11107705926518633796:=Z
def tw18162807449766028626:=Z
def tw10615157581476110125:=Z
def tw16442365823396838310:=Z
def tw6832729629026984294:=Z
def tw14439785328902507456:=Z
def tw15037103184628781257:=Z
def tw10852107530566446620:=Z
def tw13471264463308361840:=Z
def tw5197778177421788396:=Z
def tw2381016187683307526:=Z
def tw15686262992473174306:=Z
def tw6665227471076811944:=Z
def tw12745541295082700322:=Z
def tw7848650413925245965:=Z
def tw3822393485951290045:=Z
def tw7976718973578436360:=Z
def tw9243858259537889131:=Z
def tw18379559501659031645:=Z
def tw10171468694300676062:=Z
def tw9927957383382736507:=Z
def tw2186683461901342688:=Z
def tw15327121283917845862:=Z
def tw7694844084020049657:=Z
def tw4353713527646445363:=Z
def tw4150851608205575563:=Z
def tw416006829947138245:=Z
def tw12104092299084917178:=Z
def tw14938964207950163633:=Z
def tw6209448135452389725:=Z
def tw17212912150047155364:=Z
def tw190780616317206025:=Z
def tw9662941688181185001:=Z
def tw17048772629882957266:=Z
def tw2471152813813619305:=Z
def tw4228212717397506411:=Z
def tw14762481584687487148:=Z
def tw7186423719038245607:=Z
def tw16165520578543860106:=Z
def tw8368186916106922967:=Z
def tw7572004769387438588:=Z
def tw9476423116032935218:=Z
def tw2303410697676056877:=Z
def tw4346647422706937773:=Z
def tw10345044046725176641:=Z
def tw16146102181655438040:=Z
def tw13262580178945825974:=Z
end PySem.W.Fast
set_option maxRecDepth 100000 in
set_option maxHeartbeats 0 in
theorem PySem.Challenge.cw_viewwood_k15_rows_of_no_house_holds : PySem.Challenge.rw_viewwood_k15_rows_of_no_house.Holds := by
 w_on;o_law;k_head;(case hw=>w_witness2)
 k_fill
 refine K15.walk (l:=PySem.Challenge.rw_viewwood_k15_rows_of_no_house) rfl rfl rfl (fun w h Y=>PySem.W.kIn_of Y) ?F
 case F =>
  intro w mg h KX G;apply K15.txt_mk KX G;rotate_left
  iterate 134 first|k_is|rfl
  unfold K15.tab
  repeat first | refine⟨⟨_,_,_,_,_,_,_,_,_,_,by k_is,by k_is,by k_is,by k_is⟩,?_⟩ | refine⟨⟨_,_,_,_,_,_,_,_,_,_,_,by k_is,by k_is,by k_is,by k_is,by k_is,by k_is⟩,?_⟩
  exact trivial
