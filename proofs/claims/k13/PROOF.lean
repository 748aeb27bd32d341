import PyProof.Rows.All
import Wide.All
import OpenK.AllK
import Wide.FinOn
import Lean
import PyProof.EqAt
import PyProof.EqKinds
import PyProof.TupleCall
import PyProof.DictUpdate
import KE.KDictOf
import PyProof.AttrMissHeap
import KE.KSortTup
import KE.KItemsList
import PyProof.DictWalks
import PyProof.Rows.TupDisplay
import KE.KEqDict
import PyProof.NeKinds
import KE.KRevIter
import PyProof.ListRange
import PyProof.MeetsStr
import PyProof.StrLawsJoin
import PyProof.FitsInt
import PyProof.ZipIter
import KE.KDictSum
import PyProof.ExcBaseAll.ValueError
import PyProof.FString
import PyProof.RaisesMany
import PyProof.RulesDel
import PyProof.RulesAs
import KE.KTryMore
import PyProof.ExcArgs
import PyProof.ReprNest
import PyProof.ReprReads
import PyProof.StrCalls2
import PyProof.EnumMake
import KE.KIntText
import PyProof.AutoSeq1
import PyProof.StrLawsTight
import PyProof.StrLawsOcc
import PyProof.StrLawsIdx
import PyProof.StrLawsIn
import PySem.Challenge.RW_viewwood_k13_houses_shown_and_read
noncomputable section
set_option genSizeOf false
set_option bootstrap.genMatcherCode false
set_option compiler.extract_closed false
set_option compiler.maxRecSpecialize 0
section variable{p q r s t o g:Prop}
def X0(h:p/\q)(k:p->q->g):g:=by obtain⟨B,D⟩:=h;exact k B D
def Qg(h:p/\q/\r)(k:p->q->r->g):g:=by obtain⟨B,D,I⟩:=h;exact k B D I
def P0(h:p/\q/\r/\s)(k:p->q->r->s->g):g:=by obtain⟨B,D,I,J⟩:=h;exact k B D I J
def HH(h:p/\q/\r/\s/\t)(k:p->q->r->s->t->g):g:=by obtain⟨B,D,I,J,L⟩:=h;exact k B D I J L
def NZ(h:p/\q/\r/\s/\t/\o)(k:p->q->r->s->t->o->g):g:=by obtain⟨B,D,I,J,L,M⟩:=h;exact k B D I J L M
end
section variable{A:Sort _}{p q r s:A->Prop}{g:Prop}
def PX(h:∃a,p a)(k:∀a,p a->g):g:=by obtain⟨a,q⟩:=h;exact k a q
def hV(h:∃a,p a/\q a)(k:∀a,p a->q a->g):g:=by obtain⟨a,B,D⟩:=h;exact k a B D
def JY(h:∃a,p a/\q a/\r a)(k:∀a,p a->q a->r a->g):g:=by obtain⟨a,B,D,I⟩:=h;exact k a B D I
def HF(h:∃a,p a/\q a/\r a/\s a)(k:∀a,p a->q a->r a->s a->g):g:=by obtain⟨a,B,D,I,J⟩:=h;exact k a B D I J
end
section variable{A B:Sort _}{p q r s t:A->B->Prop}{g:Prop}
def NT(h:∃a b,p a b)(k:∀a b,p a b->g):g:=by obtain⟨a,b,q⟩:=h;exact k a b q
def HD(h:∃a b,p a b/\q a b)(k:∀a b,p a b->q a b->g):g:=by obtain⟨a,b,D,I⟩:=h;exact k a b D I
def Wc(h:∃a b,p a b/\q a b/\r a b)(k:∀a b,p a b->q a b->r a b->g):g:=by obtain⟨a,b,D,I,J⟩:=h;exact k a b D I J
def NQ(h:∃a b,p a b/\q a b/\r a b/\s a b)(k:∀a b,p a b->q a b->r a b->s a b->g):g:=by obtain⟨a,b,D,I,J,L⟩:=h;exact k a b D I J L
def PQ(h:∃a b,p a b/\q a b/\r a b/\s a b/\t a b)(k:∀a b,p a b->q a b->r a b->s a b->t a b->g):g:=by obtain⟨a,b,D,I,J,L,M⟩:=h;exact k a b D I J L M
end
section variable{A B C:Sort _}{p q r s:A->B->C->Prop}{g:Prop}
def PP(h:∃a b c,p a b c/\q a b c)(k:∀a b c,p a b c->q a b c->g):g:=by obtain⟨a,b,c,D,I⟩:=h;exact k a b c D I
def NP(h:∃a b c,p a b c/\q a b c/\r a b c)(k:∀a b c,p a b c->q a b c->r a b c->g):g:=by obtain⟨a,b,c,D,I,J⟩:=h;exact k a b c D I J
def eX(h:∃a b c,p a b c/\q a b c/\r a b c/\s a b c)(k:∀a b c,p a b c->q a b c->r a b c->s a b c->g):g:=by obtain⟨a,b,c,D,I,J,L⟩:=h;exact k a b c D I J L
end
section variable{A B C D:Sort _}{p q r s t o:A->B->C->D->Prop}{g:Prop}
def Wb(h:∃a b c d,p a b c d/\q a b c d/\r a b c d/\s a b c d/\t a b c d)(k:∀a b c d,p a b c d->q a b c d->r a b c d->s a b c d->t a b c d->g):g:=by obtain⟨a,b,c,d,I,J,L,M,N⟩:=h;exact k a b c d I J L M N
def PN(h:∃a b c d,p a b c d/\q a b c d/\r a b c d/\s a b c d/\t a b c d/\o a b c d)(k:∀a b c d,p a b c d->q a b c d->r a b c d->s a b c d->t a b c d->o a b c d->g):g:=by obtain⟨a,b,c,d,I,J,L,M,N,O⟩:=h;exact k a b c d I J L M N O
end
set_option Elab.async false
set_option linter.all false
set_option maxRecDepth 100000
set_option maxHeartbeats 4000000
theorem y0(n:Nat)(h:n.ble 99=true):n<=PySem.sizeLine:=Nat.le_trans (Nat.le_of_ble_eq_true h) (by decide)
abbrev AA:=@List.length_append
abbrev AB:=@List.length_map
abbrev AC:=@PySem.wpAny_bind
abbrev AD:=@List.length_cons
abbrev AE:=@PySem.wpAny_pure
abbrev AF:=@List.mem_cons_of_mem
abbrev AG:=@List.append_assoc
abbrev AH:=@List.append_nil
abbrev AI:=@List.mem_cons_self
abbrev AJ:=@List.mem_singleton
abbrev AK:=@Nat.lt_of_lt_of_le
abbrev AL:=@List.getElem?_eq_getElem
abbrev AM:=@Nat.zero_le
abbrev AN:=@List.map_append
abbrev AO:=@Nat.le_refl
abbrev AQ:=@List.mem_append
abbrev AR:=@Nat.le_trans
abbrev AS:=@List.mem_map
abbrev AU:=@Bool.false_ne_true
abbrev AV:=@List.size_toArray
abbrev AW:=@PySem.Heap.get?_push_of_some
abbrev AX:=@List.mem_cons
abbrev AY:=@PySem.F.plainAttrs_list
abbrev AZ:=@List.getElem?_eq_some_iff
abbrev Aa:=@PySem.Heap.lt_size
abbrev Ab:=@List.cons.inj
abbrev Ac:=@PySem.wpAny_ite_split
abbrev Ad:=@decide_eq_false
abbrev Ae:=@PySem.Heap.get?_push_size
abbrev Af:=@of_decide_eq_true
abbrev Ag:=@PySem.W.mg_of
abbrev Ah:=@List.getElem?_map
abbrev Ai:=@decide_eq_true
abbrev Aj:=@List.map_map
abbrev Ak:=@List.map_cons
abbrev Al:=@if_pos
abbrev Am:=@if_neg
abbrev An:=@Option.some.inj
abbrev Ao:=@List.mem_of_getElem?
abbrev Ap:=@List.mem_append_left
abbrev Aq:=@List.length_singleton
abbrev Ar:=@PySem.F.type_list_extend
abbrev As:=@PySem.F.slot_list_extend
abbrev Au:=@PySem.wpAny_specialOf
abbrev Av:=@Nat.ne_of_lt
abbrev Aw:=@PySem.wpAny_truthy_bool
abbrev Ax:=@Bool.and_eq_true
abbrev Ay:=@PySem.W.mg_none_of
abbrev Az:=@List.flatMap_append
abbrev A0:=@List.mem_append_right
abbrev A1:=@List.length_reverse
abbrev A2:=@PySem.wpAny_call_entry
abbrev A3:=@congrArg
abbrev A4:=@List.reverse_cons
abbrev A5:=@List.length_range
abbrev A6:=@List.drop_eq_getElem_cons
abbrev A7:=@Nat.add_zero
abbrev A8:=@List.getElem?_append_right
abbrev A9:=@List.length_nil
abbrev BA:=@PySem.wpAny_forIn_list
abbrev BB:=@Nat.lt_succ_self
abbrev BC:=@List.cons_append
abbrev BD:=@PySem.W.kia_one
abbrev BE:=@PySem.wpAny_holding
abbrev BF:=@PySem.Heap.get?_update_other
abbrev BG:=@Int.le_refl
abbrev BH:=@PySem.F.slot_tuple_eq
abbrev BI:=@PySem.wpAny_callSpecialIfBoundUnlessNone?_slot
abbrev BJ:=@PySem.F.type_list_pop
abbrev BK:=@PySem.F.slot_list_pop
abbrev BL:=@PySem.wpAny_isInstance
abbrev BM:=@Nat.lt_irrefl
abbrev BN:=@List.dropLast_concat
abbrev BO:=@PySem.wpAny_newObj_type
abbrev BP:=@PySem.F.slot_tuple_hash
abbrev BQ:=@List.nil_append
abbrev BR:=@List.all_eq_true
abbrev BS:=@PySem.wpAny_rule
abbrev BU:=@PySem.call_meets
abbrev BV:=@PySem.isSubtype_tuple_tuple
abbrev BW:=@PySem.builtinLookup_eq_fast
abbrev BX:=@List.length_replicate
abbrev BY:=@PySem.Heap.get?_update_self
abbrev BZ:=@Nat.zero_add
abbrev Ba:=@PySem.wpAny_mono
abbrev Bb:=@beq_eq_false_iff_ne
abbrev Bc:=@List.mem_flatMap
abbrev Be:=@List.length_eq_zero_iff
abbrev Bf:=@List.getElem_mem
abbrev Bg:=@PySem.wpAny_of_eq
abbrev Bh:=@PySem.wpAny_field
abbrev Bi:=@PySem.sizeLine_eq
abbrev Bj:=@PySem.wpAny_tupleItemsOf
abbrev Bk:=@Int.emod_lt_of_pos
abbrev Bl:=@Array.forIn_toList
abbrev Bm:=@PySem.wpAny_passesOwn
abbrev Bn:=@List.any_cons
abbrev Bo:=@PyProof.Rows.callWith_type1
abbrev Bp:=@Int.toNat_natCast
abbrev Bq:=@PySem.typeIs_str
abbrev Br:=@PySem.isSubtype_type
abbrev Bs:=@PySem.F.slot_NoneType_hash
abbrev Bt:=@List.nodup_nil
abbrev Bu:=@List.mem_range
abbrev Bv:=@Nat.succ.inj
abbrev Bw:=@List.getElem?_append_left
abbrev Bx:=@Array.getElem?_eq_getElem
abbrev By:=@PySem.mem_of_lookup
abbrev Bz:=@PySem.wpAny_dictEpoch
abbrev B0:=@PySem.typeLookup_type
abbrev B3:=@List.nodup_cons
abbrev B4:=@Int.emod_nonneg
abbrev B5:=@Bool.eq_iff_iff
abbrev B6:=@PySem.wpAny_Call_Name_kw
abbrev B7:=@PySem.tupleKind_room_in1
abbrev B8:=@PySem.wpAny_getItem_str_slice
abbrev B9:=@Nat.le_succ
abbrev CJ:=@PySem.eqIsQuiet_byValue
abbrev CK:=@PySem.F.slot_bool_hash
abbrev CM:=@List.take_sublist
abbrev CN:=@List.take_of_length_le
abbrev CP:=@Int.le_trans
abbrev CQ:=@PyProof.Rows.slot_tuple_getitem
abbrev CU:=@List.concat_eq_append
abbrev CV:=@List.length_take
abbrev CY:=@List.length_drop
abbrev CZ:=@List.drop_length
abbrev Ca:=@PySem.lookup_relabel_local
abbrev Cb:=@PySem.SeqAt.EqAt.same
abbrev Cc:=@Array.length_toList
abbrev Cd:=@PySem.wpAny_richCompare_same_room
abbrev Ce:=@List.map_nil
abbrev Cf:=@PySem.wpAny_seqItems
abbrev Cg:=@beq_iff_eq
abbrev Ci:=@PySem.SeqAt.EqAt.str_str
abbrev Cj:=@Nat.lt_of_le_of_lt
abbrev Ck:=@PySem.F.args_tuple_add_2
abbrev Cm:=@Nat.add_assoc
abbrev Cn:=@List.all_cons
abbrev Co:=@PySem.wpAny_callSpecial?_slot
abbrev Cp:=@PySem.F.entry_tuple_add
abbrev Cq:=@PySem.F.slot_str_split
abbrev Cr:=@PySem.F.slot_tuple_add
abbrev Cs:=@PySem.Calls.callWith_builtin
abbrev Ct:=@PySem.wpAny_updateSeq
abbrev Cu:=@PySem.wpAny_execs_nil
abbrev Cv:=@PySem.post_val_or_str
abbrev Cw:=@List.mem_filter
abbrev Cy:=@PySem.F.slot_dict_get
abbrev Cz:=@List.mem_iff_getElem?
abbrev DA:=@Array.getElem?_toList
abbrev DB:=@PySem.SeqAt.EqAt.bool_bool
abbrev DC:=@Array.mem_toList_iff
abbrev DD:=PySem.W.Frag
namespace PySem
open Sem (wp)
section
variable {prog:Program}{w:World}{K:Type}[DecidableEq K](knd:KeyKind prog w K)
inductive jg(h:Heap):List (List K)->List Value->Prop
 |nil:jg h [] []
 |cons {k:List K} {b:Addr} {kss:List (List K)} {vs:List Value}:IsTupleKey knd h k b->jg h kss vs->jg h (k::kss) (.ref b::vs)
def iy(h:Heap)(q:List (List K))(a:Addr):Prop:=∃o g n,h.get? a=some o/\o.cls=.type "tuple"/\o.data=.seq g n/\jg knd h q g.toList
variable {knd}
def jg.inj(q:jg knd h x vs)(g:jg knd h y vs):x=y:=by
 induction q generalizing y with
 |nil=>(cases g;rfl)
 |cons h1 _ B=>cases g with | cons h2 D=>rw[h1.inj h2,B D]
def jg.keeps(B:jg knd h x vs)(q:h.get? d=some o)(g:o.data=.dict es ep)(hs:Heap.SameBut d h h'):jg knd h' x vs:=by
 induction B with
 |nil=>exact .nil
 |cons h1 _ D=>exact .cons (h1.keeps q g hs) D
def iy.typeIs{s:Shared}(x:iy knd s.heap g a):s.TypeIs (.ref a) "tuple" :=NP x fun o _ _ e c _=>⟨o,e,c⟩
def iy.inj(L:iy knd h x a)(M:iy knd h y a):x=y:=by
 refine eX L fun o its n g _ q B=>eX M fun o' its' N D _ I J=>?_;cases g.symm.trans D;cases q.symm.trans I;exact B.inj J
def iy.keeps(x:iy knd h M a)(L:h.get? d=some o)(I:o.data=.dict es ep)(hs:Heap.SameBut d h h'):iy knd h' M a:=by
 refine eX x fun o' its n g q B D=>?_;have J:a≠d :=by lia
 exact⟨o',its,n,(hs.2 a J).trans g,q,B,D.keeps L I hs⟩
def uY(knd:KeyKind prog w K)(g:List (List K)):Int:=reduceHash (Builtin.Tuple.tupleHashOf (g.map (tupleKeyHash knd)))
def kU(g:List (List K)):Nat:=(g.map fun k=>k.length+1).sum+1
variable {A:Around}{E:Value->Shared->Prop}{s:Shared}
def vG(O:A.units+1 < cLine)(M:iy knd s.heap J a)(h:Q (uY knd J) { s with toks:=s.toks+kU J }):
  wpAny (model prog w) A (pyHash (.ref a)) Q E s:=by
 have q:=M.typeIs;obtain⟨o,aa,n,Y,_,U,hi⟩:=M
 (first | delta pyHashByItsType | skip)
 (first | refine AC (wpAny_cRoomFor_or (.inr (Nat.lt_of_succ_lt O)) ?_) | skip)
 refine AC (Au (by exact q) BP.lookup (?_));refine AC (Au (by exact q) BP.lookup (?_));refine AC (BI (by exact q) BP (A2 BP (by exact q) F.entry_tuple_hash (?_) (F.args_tuple_hash_1 _)));show wpAny _ _ (Builtin.Tuple.tupleItemsOf (.ref a) >>= (_)) _ _ s
 (refine AC (Bj Y U (AC ?_));rw[<- Bl])
 refine BA _ (fun rest b s'=>∃g left,J=g++left/\jg knd s.heap left rest/\b.toList=g.map (tupleKeyHash knd)/\s'={ s with toks:=s.toks+(g.map fun k=>k.length+1).sum }) _ ?_ ?_ _ _ ⟨[],J,rfl,hi,rfl,rfl⟩
 .rintro x rest b s' ⟨g,left,rfl,L,B,rfl⟩
  cases L with
  |@cons k Z S _ h1 N =>
   refine AC (wpAny_pyHash_tuple O h1 ?_)
   first
    |exact AE ⟨g++[k],S,by simp,N,by simp[B],by simp[Nat.add_assoc]⟩
    |exact AC (AE (AE ⟨g++[k],S,by simp,N,by simp[B],by simp[Nat.add_assoc]⟩))
 .rintro b s' ⟨g,left,rfl,L,B,rfl⟩
  cases L;rw[AH] at h
  (show wpAny _ _ (retInt (Builtin.Tuple.tupleHashOf b.toList)) _ _ _;rw[B];apply wpAny_ret_mkInt)
  delta uY reduceHash kU at h
  generalize Builtin.Tuple.tupleHashOf (g.map (tupleKeyHash knd))=D at h ⊢;show wpAny _ _ (if (decide (-(2:Int) ^ 63<=D)&&decide (D < 2 ^ 63))=true then _ else _) Q E _
  by_cases I:(decide (-(2:Int) ^ 63<=D)&&decide (D < 2 ^ 63))=true
  ·(rw[Al I];rw[Al I] at h)
   exact AE (by lia)
  ·(rw[Am I];rw[Am I] at h)
   exact AC (BS (AE (by simpa [Nat.add_assoc] using h)))
def fE(hu:A.units < cLine)(hx:iy knd s.heap x a)(S:iy knd s.heap y b)(h:P (.done (.ret (.bool (decide (x=y))))) s):
  wpAny (model prog w) A (Builtin.«tuple.__eq__» ⟨[.ref a,.ref b],[]⟩) P E s:=by
 refine eX hx fun oa xs au ah _ Z af=>eX S fun ob ys av ai _ aa ag=>?_
 (show wpAny _ _ (isInstance (.ref b) (.type "tuple") >>= _) _ _ s;refine AC (BL S.typeIs BV ?_))
 (refine AC (Bj ah Z (AC (Bj ai aa (AC ?_)))))
 refine BA _ (fun rest r s'=>r.1=none/\s'=s/\∃D I g q,rest=List.zip g q/\jg knd s.heap D g/\jg knd s.heap I q/\decide (D=I)=decide (x=y)/\(g.length==q.length)=(xs.size==ys.size)) _ ?_ ?_ _ _ ⟨rfl,rfl,x,y,xs.toList,ys.toList,rfl,af,ag,rfl,by simp⟩
 .rintro ⟨u,v⟩ rest r s' ⟨O,rfl,D,I,g,q,hz,M,B,J,L⟩
  cases M with
  |nil=>simp at hz
  |@cons k1 b1 U aq h1 aj =>
   cases B with
   |nil=>simp at hz
   |@cons k2 b2 Y ar h2 ao =>
    (obtain⟨⟨rfl,rfl⟩,rfl⟩:=hz)
    refine AC (wpAny_eqBool_tuple hu h1 h2 ?_)
    by_cases N:k1=k2
    .subst N
     (simp only[ Bool.false_eq_true])
     refine AE ⟨rfl,rfl,U,Y,aq,ar,rfl,aj,ao,?_,by simpa using L⟩;rw[<- J]
     (by_cases ak:U=Y<;>simp[ak])
    ·(rw[Ad N];simp only[ if_true])
     have ab:decide (x=y)=false :=by lia
     rw[ab] at h;exact AC (AE (AE (AE h)))
 .rintro ⟨r1,r2⟩ s' ⟨O,rfl,D,I,g,q,hz,M,B,J,L⟩
  (subst O;apply AE)
  have ae:(xs.size==ys.size)=decide (x=y):=by
   rw[<- J,<- L]
   cases M with
   |nil=>(cases B with | nil=>simp | cons _ _=>simp)
   |cons _ _=>(cases B with | nil=>simp | cons _ _=>simp at hz)
  (show P (.done (.ret (.bool (xs.size==ys.size)))) s';rwa [ae])
def wG(D:A.units+1 < cLine)(g:iy knd s.heap x a)(q:iy knd s.heap y b)(h:Q (decide (x=y)) s):
  wpAny (model prog w) A (eqBool (.ref a) (.ref b)) Q E s:=by
 (delta eqBool;try with_reducible refine BE ?_)
 by_cases B:(Value.ref a==Value.ref b)=true
 .rw [Al B]
  have e:a=b :=by lia
  subst e;obtain rfl:=g.inj q;exact AC (BS (AE (by lia)))
 .exact (Am B)▸AC (Cd g.typeIs q.typeIs BH (A2 BH g.typeIs F.entry_tuple_eq (fE D g q ⟨_,rfl,(fun e=>nomatch e),Aw h⟩) (F.args_tuple_eq_2 _ _)) (Nat.lt_of_succ_lt D))
def eB n(B:IsTupleKey knd s.heap ks a)(h:Q true s):wpAny (model prog w) A (eqIsQuiet (n+1) (.ref a)) Q E s:=by
 have g:=B.typeIs;refine eX B fun o M m J _ I hi=>?_
 (unfold eqIsQuiet;refine AC (Au g BH.lookup ?_))
 (refine AC (BL g BV ?_))
 (refine AC (Cf J I (AC ?_)))
 (rw[<- Bl])
 refine BA _ (fun rest r s'=>r.1=none/\s'=s/\∀v∈rest,carriedByValue v=true) _ ?_ ?_ _ _ ⟨rfl,rfl,hi.byValue⟩
 .rintro v rest r s' ⟨D,rfl,q⟩
  (rw[CJ _ (q v AI)];refine AC (AE ?_))
  (exact AE ⟨rfl,rfl,fun u L=>q u (AF _ L)⟩)
 .rintro ⟨N,O⟩ s' ⟨D,rfl,_⟩
  (subst D;exact AE h)
def Xu(q:iy knd s.heap N a)(h:Q true s):wpAny (model prog w) A (eqIsQuiet 8 (.ref a)) Q E s:=by
 have g:=q.typeIs;obtain⟨o,M,m,L,_,J,hi⟩:=q
 (unfold eqIsQuiet;refine AC (Au g BH.lookup ?_))
 (refine AC (BL g BV ?_))
 (refine AC (Cf L J (AC ?_)))
 (rw[<- Bl])
 refine BA _ (fun rest r s'=>r.1=none/\s'=s/\∃D,jg knd s.heap D rest) _ ?_ ?_ _ _ ⟨rfl,rfl,_,hi⟩
 .rintro v rest r s' ⟨B,rfl,D,I⟩
  cases I with
  |cons h1 h2 =>
   refine AC (eB 6 h1 ?_)
   (exact AE ⟨rfl,rfl,_,h2⟩)
 .rintro ⟨O,S⟩ s' ⟨B,rfl,_⟩
  (subst B;exact AE h)
end
def Vl[DecidableEq K](knd:KeyKind prog w K):HeapKind prog w (List (List K)) where
 is:=iy knd
 hash:=uY knd
 draws:=kU
 room:=fun A=>A.units+1 < cLine
 inj:=fun B D=>B.inj D
 keeps:=fun x J I hs=>x.keeps J I hs
 pyHash:=fun q g h=>vG q g h
 eqBool:=fun q B D h=>wG q B D h
 quiet:=fun g h=>Xu g h
section
variable {prog:Program}{w:World}{K:Type}[DecidableEq K](knd:KeyKind prog w K)
inductive ji(h:Heap):List (List (List K))->List Value->Prop
 |nil:ji h [] []
 |cons {k:List (List K)} {b:Addr} {kss:List (List (List K))} {vs:List Value}:iy knd h k b->ji h kss vs->ji h (k::kss) (.ref b::vs)
def jc(h:Heap)(q:List (List (List K)))(a:Addr):Prop:=∃o g n,h.get? a=some o/\o.cls=.type "tuple"/\o.data=.seq g n/\ji knd h q g.toList
variable {knd}
def ji.inj(q:ji knd h x vs)(g:ji knd h y vs):x=y:=by
 induction q generalizing y with
 |nil=>(cases g;rfl)
 |cons h1 _ B=>cases g with | cons h2 D=>rw[h1.inj h2,B D]
def ji.keeps(B:ji knd h x vs)(q:h.get? d=some o)(g:o.data=.dict es ep)(hs:Heap.SameBut d h h'):ji knd h' x vs:=by
 induction B with
 |nil=>exact .nil
 |cons h1 _ D=>exact .cons (h1.keeps q g hs) D
def jc.typeIs{s:Shared}(x:jc knd s.heap g a):s.TypeIs (.ref a) "tuple" :=NP x fun o _ _ e c _=>⟨o,e,c⟩
def jc.inj(L:jc knd h x a)(M:jc knd h y a):x=y:=by
 refine eX L fun o its n g _ q B=>eX M fun o' its' N D _ I J=>?_;cases g.symm.trans D;cases q.symm.trans I;exact B.inj J
def jc.keeps(x:jc knd h M a)(L:h.get? d=some o)(I:o.data=.dict es ep)(hs:Heap.SameBut d h h'):jc knd h' M a:=by
 refine eX x fun o' its n g q B D=>?_;have J:a≠d :=by lia
 exact⟨o',its,n,(hs.2 a J).trans g,q,B,D.keeps L I hs⟩
def lR(knd:KeyKind prog w K)(g:List (List (List K))):Int:=reduceHash (Builtin.Tuple.tupleHashOf (g.map (uY knd)))
def zP(g:List (List (List K))):Nat:=(g.map kU).sum+1
variable {A:Around}{E:Value->Shared->Prop}{s:Shared}
def kD(Y:A.units+2 < cLine)(M:jc knd s.heap J a)(h:Q (lR knd J) { s with toks:=s.toks+zP J }):
  wpAny (model prog w) A (pyHash (.ref a)) Q E s:=by
 have q:=M.typeIs;obtain⟨o,aa,n,U,_,S,hi⟩:=M
 (first | delta pyHashByItsType | skip)
 (first | refine AC (wpAny_cRoomFor_or (.inr (by omega)) ?_) | skip)
 refine AC (Au (by exact q) BP.lookup (?_));refine AC (Au (by exact q) BP.lookup (?_));refine AC (BI (by exact q) BP (A2 BP (by exact q) F.entry_tuple_hash (?_) (F.args_tuple_hash_1 _)));show wpAny _ _ (Builtin.Tuple.tupleItemsOf (.ref a) >>= (_)) _ _ s
 (refine AC (Bj U S (AC ?_));rw[<- Bl])
 refine BA _ (fun rest b s'=>∃g left,J=g++left/\ji knd s.heap left rest/\b.toList=g.map (uY knd)/\s'={ s with toks:=s.toks+(g.map kU).sum }) _ ?_ ?_ _ _ ⟨[],J,rfl,hi,rfl,rfl⟩
 .rintro x rest b s' ⟨g,left,rfl,L,B,rfl⟩
  cases L with
  |@cons k Z O _ h1 N =>
   refine AC (vG Y h1 ?_)
   first
    |exact AE ⟨g++[k],O,by simp,N,by simp[B],by simp[Nat.add_assoc]⟩
    |exact AC (AE (AE ⟨g++[k],O,by simp,N,by simp[B],by simp[Nat.add_assoc]⟩))
 .rintro b s' ⟨g,left,rfl,L,B,rfl⟩
  cases L;rw[AH] at h
  (show wpAny _ _ (retInt (Builtin.Tuple.tupleHashOf b.toList)) _ _ _;rw[B];apply wpAny_ret_mkInt)
  delta lR reduceHash zP at h
  generalize Builtin.Tuple.tupleHashOf (g.map (uY knd))=D at h ⊢;show wpAny _ _ (if (decide (-(2:Int) ^ 63<=D)&&decide (D < 2 ^ 63))=true then _ else _) Q E _
  by_cases I:(decide (-(2:Int) ^ 63<=D)&&decide (D < 2 ^ 63))=true
  ·(rw[Al I];rw[Al I] at h)
   exact AE (by lia)
  ·(rw[Am I];rw[Am I] at h)
   exact AC (BS (AE (by simpa [Nat.add_assoc] using h)))
def vI(hu:A.units+1 < cLine)(hx:jc knd s.heap x a)(S:jc knd s.heap y b)(h:P (.done (.ret (.bool (decide (x=y))))) s):
  wpAny (model prog w) A (Builtin.«tuple.__eq__» ⟨[.ref a,.ref b],[]⟩) P E s:=by
 refine eX hx fun oa xs au ah _ Z af=>eX S fun ob ys av ai _ aa ag=>?_
 (show wpAny _ _ (isInstance (.ref b) (.type "tuple") >>= _) _ _ s;refine AC (BL S.typeIs BV ?_))
 (refine AC (Bj ah Z (AC (Bj ai aa (AC ?_)))))
 refine BA _ (fun rest r s'=>r.1=none/\s'=s/\∃D I g q,rest=List.zip g q/\ji knd s.heap D g/\ji knd s.heap I q/\decide (D=I)=decide (x=y)/\(g.length==q.length)=(xs.size==ys.size)) _ ?_ ?_ _ _ ⟨rfl,rfl,x,y,xs.toList,ys.toList,rfl,af,ag,rfl,by simp⟩
 .rintro ⟨u,v⟩ rest r s' ⟨O,rfl,D,I,g,q,hz,M,B,J,L⟩
  cases M with
  |nil=>simp at hz
  |@cons k1 b1 U aq h1 aj =>
   cases B with
   |nil=>simp at hz
   |@cons k2 b2 Y ar h2 ao =>
    (obtain⟨⟨rfl,rfl⟩,rfl⟩:=hz)
    refine AC (wG hu h1 h2 ?_)
    by_cases N:k1=k2
    .subst N
     (simp only[ Bool.false_eq_true])
     refine AE ⟨rfl,rfl,U,Y,aq,ar,rfl,aj,ao,?_,by simpa using L⟩;rw[<- J]
     (by_cases ak:U=Y<;>simp[ak])
    ·(rw[Ad N];simp only[ if_true])
     have ab:decide (x=y)=false :=by lia
     rw[ab] at h;exact AC (AE (AE (AE h)))
 .rintro ⟨r1,r2⟩ s' ⟨O,rfl,D,I,g,q,hz,M,B,J,L⟩
  (subst O;apply AE)
  have ae:(xs.size==ys.size)=decide (x=y):=by
   rw[<- J,<- L]
   cases M with
   |nil=>(cases B with | nil=>simp | cons _ _=>simp)
   |cons _ _=>(cases B with | nil=>simp | cons _ _=>simp at hz)
  (show P (.done (.ret (.bool (xs.size==ys.size)))) s';rwa [ae])
def vD(D:A.units+2 < cLine)(g:jc knd s.heap x a)(q:jc knd s.heap y b)(h:Q (decide (x=y)) s):
  wpAny (model prog w) A (eqBool (.ref a) (.ref b)) Q E s:=by
 (delta eqBool;try with_reducible refine BE ?_)
 by_cases B:(Value.ref a==Value.ref b)=true
 .rw [Al B]
  have e:a=b :=by lia
  subst e;obtain rfl:=g.inj q;exact AC (BS (AE (by lia)))
 .exact (Am B)▸AC (Cd g.typeIs q.typeIs BH (A2 BH g.typeIs F.entry_tuple_eq (vI D g q ⟨_,rfl,(fun e=>nomatch e),Aw h⟩) (F.args_tuple_eq_2 _ _)) (by omega))
def Qf n(q:iy knd s.heap N a)(h:Q true s):wpAny (model prog w) A (eqIsQuiet (n+2) (.ref a)) Q E s:=by
 have g:=q.typeIs;obtain⟨o,M,m,L,_,J,hi⟩:=q
 (unfold eqIsQuiet;refine AC (Au g BH.lookup ?_))
 (refine AC (BL g BV ?_))
 (refine AC (Cf L J (AC ?_)))
 (rw[<- Bl])
 refine BA _ (fun rest r s'=>r.1=none/\s'=s/\∃D,jg knd s.heap D rest) _ ?_ ?_ _ _ ⟨rfl,rfl,_,hi⟩
 .rintro v rest r s' ⟨B,rfl,D,I⟩
  cases I with
  |cons h1 h2 =>
   refine AC (eB n h1 ?_)
   (exact AE ⟨rfl,rfl,_,h2⟩)
 .rintro ⟨O,S⟩ s' ⟨B,rfl,_⟩
  (subst B;exact AE h)
def Xv(q:jc knd s.heap N a)(h:Q true s):wpAny (model prog w) A (eqIsQuiet 8 (.ref a)) Q E s:=by
 have g:=q.typeIs;obtain⟨o,M,m,L,_,J,hi⟩:=q
 (unfold eqIsQuiet;refine AC (Au g BH.lookup ?_))
 (refine AC (BL g BV ?_))
 (refine AC (Cf L J (AC ?_)))
 (rw[<- Bl])
 refine BA _ (fun rest r s'=>r.1=none/\s'=s/\∃D,ji knd s.heap D rest) _ ?_ ?_ _ _ ⟨rfl,rfl,_,hi⟩
 .rintro v rest r s' ⟨B,rfl,D,I⟩
  cases I with
  |cons h1 h2 =>
   refine AC (Qf 5 h1 ?_)
   (exact AE ⟨rfl,rfl,_,h2⟩)
 .rintro ⟨O,S⟩ s' ⟨B,rfl,_⟩
  (subst B;exact AE h)
end
def WU[DecidableEq K](knd:KeyKind prog w K):HeapKind prog w (List (List (List K))) where
 is:=jc knd
 hash:=lR knd
 draws:=zP
 room:=fun A=>A.units+2 < cLine
 inj:=fun B D=>B.inj D
 keeps:=fun x J I hs=>x.keeps J I hs
 pyHash:=fun q g h=>kD q g h
 eqBool:=fun q B D h=>vD q B D h
 quiet:=fun g h=>Xv g h
end PySem
namespace L2
open PySem PySem.Spec PyProof.Rows
abbrev Key:=Sum (Option Int) Str
def ZL:Value->Bool
 |.none=>true
 |_=>false
def bP:Key->Value->Bool
 |.inl (some k),v=>Value.isInt k v
 |.inl none,v=>ZL v
 |.inr x,v=>Value.isStrOf x v
def keyH(w:World):Key->Int
 |.inl (some k)=>hashInt k
 |.inl none=>4238894112
 |.inr x=>hashStr w x
def yS{v:Value}(h:ZL v=true):v=.none:=by
 cases v<;>first | rfl | cases h
theorem uJ:∀{k:Key}{v:Value},bP k v=true->(∃i t,k=Sum.inl (some i)/\v=Value.int i t)\/(∃x t,k=Sum.inr x/\v=Value.str x t)\/(k=Sum.inl none/\v=Value.none)
 |.inl (some i),v,h=>by
  obtain⟨t,e⟩:=Value.isInt_shape (k:=i) (v:=v) h;exact .inl ⟨i,t,rfl,e⟩
 |.inl none,v,h=>.inr (.inr ⟨rfl,yS h⟩)
 |.inr x,v,h=>by
  obtain⟨t,e⟩:=Value.isStrOf_shape (x:=x) (v:=v) h;exact .inr (.inl ⟨x,t,rfl,e⟩)
def JH(i:Int)(t:Tok):bP (.inl (some i)) (.int i t)=true:=by simp[bP,Value.isInt]
def wU(x:Str)(t:Tok):bP (.inr x) (.str x t)=true:=by simp[bP,Value.isStrOf]
def VI{a b:Key}(h:a≠b):decide (a=b)=false:=Ad h
def Hj(a b:Int):decide ((Sum.inl (some a):Key)=Sum.inl (some b))=(a==b):=by
 by_cases e:a=b
 .subst e;simp
 .rw [VI fun q=>e (An (Sum.inl.inj q))]
  exact(Bb.mpr e).symm
def Hb(a b:Str):decide ((Sum.inr a:Key)=Sum.inr b)=decide (a=b):=by
 by_cases e:a=b
 .subst e;simp
 .rw [VI fun q=>e (Sum.inr.inj q),Ad e]
def key_is(i:Int)(y:Str):decide ((Sum.inl (some i):Key)=Sum.inr y)=false:=Ad nofun
def Hi(i:Int):decide ((Sum.inl (some i):Key)=Sum.inl none)=false:=Ad nofun
def Hf(x:Str)(j:Int):decide ((Sum.inr x:Key)=Sum.inl (some j))=false:=Ad nofun
def Hc(x:Str):decide ((Sum.inr x:Key)=Sum.inl none)=false:=Ad nofun
def Hh(j:Int):decide ((Sum.inl none:Key)=Sum.inl (some j))=false:=Ad nofun
def Hg(y:Str):decide ((Sum.inl none:Key)=Sum.inr y)=false:=Ad nofun
def kO{prog:Program}{w:World}{A:Around}{E:Value->Shared->Prop}{s:Shared}{Q:Int->Shared->Prop}(h:Q 4238894112 { s with toks:=s.toks+1 }):wpAny (model prog w) A (pyHash .none) Q E s:=by
 unfold pyHash;refine AC ?_;rw[cRoomFor,Am (by rw[show[Value.none].any Value.onHeap=false from rfl];exact AU)];refine AE ?_
 have ty:s.TypeIs .none "NoneType":=rfl;refine AC (Au ty Bs.lookup ?_);rw[Am (by rw[beq_builtin_none];exact AU)];refine AC (Au ty Bs.lookup ?_)
 refine AC (BI ty Bs
  (A2 Bs ty PySem.F.entry_NoneType_hash
   (show wpAny _ _ (do ret (<- mkInt 4238894112)) _ _ s from wpAny_ret_mkInt ?_) (PySem.F.args_NoneType_hash_1 _)))
 show wpAny _ _ (if (decide (-(2:Int) ^ 63<=4238894112)&&decide ((4238894112:Int) < 2 ^ 63))=true then _ else _) Q E _;rw[Al (by decide)];exact AE h
def QP{prog:Program}{w:World}{A:Around}{E:Value->Shared->Prop}{s:Shared}{Q:Bool->Shared->Prop}(h:Q true s):wpAny (model prog w) A (eqBool .none .none) Q E s:=by
 unfold eqBool;refine BE ?_;refine Ac (fun _=>?_) (fun g=>absurd rfl g);exact AC (BS (AE h))
def jZ(prog:Program)(w:World):PySem.KeyKind prog w Key where
 is:=bP
 hash:=keyH w
 inj:=fun v a b B D=>by
  rcases uJ B with ⟨i,t,rfl,rfl⟩ | ⟨x,t,rfl,rfl⟩ | ⟨rfl,rfl⟩<;>rcases uJ D with ⟨j,u,rfl,e⟩ | ⟨y,u,rfl,e⟩ | ⟨rfl,e⟩<;>cases e<;>rfl
 byValue:=fun k v h=>by
  rcases uJ h with ⟨i,t,rfl,rfl⟩ | ⟨x,t,rfl,rfl⟩ | ⟨rfl,rfl⟩<;>rfl
 pyHash:=fun g h=>by
  rcases uJ g with ⟨i,t,rfl,rfl⟩ | ⟨x,t,rfl,rfl⟩ | ⟨rfl,rfl⟩
  .exact wpAny_pyHash_int h
  .exact wpAny_pyHash_str h
  .exact kO h
 eqBool:=fun I g h=>by
  rcases uJ I with ⟨i,t,rfl,rfl⟩ | ⟨x,t,rfl,rfl⟩ | ⟨rfl,rfl⟩<;>rcases uJ g with ⟨j,u,rfl,rfl⟩ | ⟨y,u,rfl,rfl⟩ | ⟨rfl,rfl⟩
  .rw [Hj] at h;exact wpAny_eqBool_int h
  .rw [key_is] at h;exact SeqAt.EqAt.int_str i t y u _ _ _ _ h
  .rw [Hi] at h;exact SeqAt.EqAt.int_none i t _ _ _ _ h
  .rw [Hf] at h;exact SeqAt.EqAt.str_int x t j u _ _ _ _ h
  .rw [Hb] at h;exact wpAny_eqBool_str h
  .rw [Hc] at h;exact SeqAt.EqAt.str_none x t _ _ _ _ h
  .rw [Hh] at h;exact SeqAt.EqAt.none_int j u _ _ _ _ h
  .rw [Hg] at h;exact SeqAt.EqAt.none_str y u _ _ _ _ h
  .rw [Ai (rfl:(Sum.inl none:Key)=Sum.inl none)] at h;exact QP h
 «strs»:=fun k x t v h=>by
  rcases uJ h with ⟨i,u,rfl,e⟩ | ⟨y,u,rfl,e⟩ | ⟨rfl,e⟩
  .exact nomatch e
  .injection e with q _
   subst q;cases v<;>rfl
  .exact nomatch e
def Qq(prog:Program)(w:World)(i:Int)(t:Tok):(jZ prog w).is (.inl (some i)) (.int i t)=true:=JH i t
def hE(prog:Program)(w:World):(jZ prog w).is (.inl none) .none=true:=rfl
def Qp(prog:Program)(w:World)(x:Str)(t:Tok):(jZ prog w).is (.inr x) (.str x t)=true:=wU x t
inductive V where
 |non | bl (b:Bool) | int (i:Int) | str (x:Str) | byt (b:Array UInt8) | flt (b:UInt64) | ref (a:Addr) | ty (n:String)
 deriving DecidableEq
def RelV:V->Value->Prop
 |.non,u=>u=Value.none
 |.bl b,u=>u=Value.bool b
 |.int i,u=>∃t,u=Value.int i t
 |.str x,u=>∃t,u=Value.str x t
 |.byt b,u=>∃t,u=Value.bytes b t
 |.flt b,u=>∃t,u=Value.float b t
 |.ref a,u=>u=Value.ref a
 |.ty n,u=>u=Value.type n
abbrev Vals:List V->List Value->Prop:=Paired RelV
def Vals.length{xs:List V}{us:List Value}(r:Vals xs us):xs.length=us.length:=Paired.length r
theorem Vals.get:∀{xs:List V}{us:List Value}{i:Nat}{x:V},Vals xs us->xs[i]?=some x->∃u,us[i]?=some u/\RelV x u
 |_,_,_,_,.nil,e=>by simp at e
 |_,_,0,_,.cons r _,e=>by simp at e;subst e;exact⟨_,rfl,r⟩
 |_,_,i+1,x,.cons _ t,e=>by
  obtain⟨u,h1,h2⟩:=Vals.get (i:=i) (x:=x) t (by simpa using e);exact⟨u,by simpa using h1,h2⟩
theorem Vals.set{x:V}{u:Value}(r:RelV x u):∀{xs:List V}{us:List Value}(i:Nat),Vals xs us->Vals (xs.set i x) (us.set i u)
 |_,_,_,.nil=>.nil
 |_,_,0,.cons _ t=>.cons r t
 |_,_,i+1,.cons q t=>.cons q (Vals.set r i t)
theorem Vals.append:∀{xs ys:List V}{us ws:List Value},Vals xs us->Vals ys ws->Vals (xs++ys) (us++ws)
 |_,_,_,_,.nil,s=>s
 |_,_,_,_,.cons r t,s=>.cons r (Vals.append t s)
theorem Vals.take:∀{xs:List V}{us:List Value}(n:Nat),Vals xs us->Vals (xs.take n) (us.take n)
 |_,_,0,_=>.nil
 |_,_,_+1,.nil=>.nil
 |_,_,n+1,.cons r t=>.cons r (Vals.take n t)
theorem Vals.drop:∀{xs:List V}{us:List Value}(n:Nat),Vals xs us->Vals (xs.drop n) (us.drop n)
 |_,_,0,r=>r
 |_,_,_+1,.nil=>.nil
 |_,_,n+1,.cons _ t=>Vals.drop n t
def RelO:Option V->Option Value->Prop
 |some v,some u=>RelV v u
 |none,none=>True
 |_,_=>False
def KV{κ:Type}:List (κ×V)->List (κ×Value)->Prop:=Paired fun(p:κ×V)(q:κ×Value)=>p.1=q.1/\RelV p.2 q.2
def kV:Key->V
 |.inl none=>.non
 |.inl (some i)=>.int i
 |.inr x=>.str x
inductive HO where
 |lst (xs:List V)
 |tup (xs:List V)
 |dK (kvs:List (Key×V)) | dT (kvs:List (List Key×V)) | dP (kvs:List (List (List Key)×V)) | dA (kvs:List (List (List (List Key))×V))
 |set (S:Int->Bool) (n:Nat)
 |ins (C dx:Addr) (fs:List (Str×V))
 |own (x:Addr)
 |xd (fs:List (Str×V))
 |met (f x:Addr)
 |rng (lo hi:Int)
 |frz (o:Obj) (u:HO)
 |tbl (ps:Array Value)
 |ext (φ:Heap->Prop)
abbrev Hp:=Addr->Option HO
def upd(H:Hp)(a:Addr)(o:HO):Hp:=fun b=>if b=a then some o else H b
theorem vX{H:Hp}{a:Addr}{o:HO}:upd H a o a=some o:=by unfold upd;rw[Al rfl]
theorem cX{H:Hp}{a b:Addr}{o:HO}(h:b≠a):upd H a o b=H b:=by unfold upd;rw[Am h]
def ne_of{H:Hp}{a b:Addr}{o u:HO}(h:H a=some o)(h':H b=some u)(d:o≠u):a≠b:=by
 intro e;subst e;rw[h] at h';exact d (An h')
def qK{H:Hp}{a b:Addr}{o:HO}(h:H a=some o)(h':H b=none):a≠b:=by
 intro e;subst e;rw[h] at h';cases h'
def j8(h:Heap)(a:Addr)(g:Array Value):Prop:=∃o,h.get? a=some o/\o.cls=.type "tuple"/\(∃n,o.data=.seq g n)/\o.dict=none
def j8.is{h:Heap}{a:Addr}{g:Array Value}(x:j8 h a g):IsTup h a g:=let ⟨o,e,c,d,_⟩:=x;⟨o,e,c,d⟩
def j8.new(h:Heap)(g:Array Value):j8 (h.push { cls:=.type "tuple",data:=.seq g }) h.objs.size g:=⟨_,Ae _ rfl,rfl,⟨_,rfl⟩,rfl⟩
def vm(H:Hp)(g:List (List Key))(b:Addr):Prop:=∃bs:List Addr,H b=some (.tup (bs.map V.ref))/\Paired (fun(ks:List Key)(c:Addr)=>H c=some (.tup (ks.map kV))) g bs
def En(H:Hp)(k:List (List (List Key)))(b:Addr):Prop:=∃bs:List Addr,H b=some (.tup (bs.map V.ref))/\Paired (fun(ks:List (List Key))(c:Addr)=>vm H ks c) k bs
section
variable (P:Program)(w:World)
def ObjOk(H:Hp)(h:Heap)(a:Addr):HO->Prop
 |.lst xs=>xs.length<=sizeLine/\∃(its:List Value)(n:Nat),Vals xs its/\h.get? a=some { cls:=.type "list",data:=.seq its.toArray n }
 |.tup xs=>xs.length<=sizeLine/\∃its:List Value,Vals xs its/\j8 h a its.toArray
 |.dK kvs=>kvs.length<=sizeLine/\(a==sysModules)=false/\∃vs,KV kvs vs/\h.DictOf (jZ P w) a vs
 |.dT kvs=>kvs.length<=sizeLine/\(a==sysModules)=false/\∃xs:List (List Key×Addr×Value),
   Paired (fun(p:List Key×V)(q:List Key×Addr×Value)=>p.1=q.1/\H q.2.1=some (.tup (p.1.map kV))/\RelV p.2 q.2.2) kvs xs /\
   ∃o es ep,h.get? a=some o/\o.ExactDict/\o.data=.dict es ep/\es.toList=xs.map (entryOfKey (tupleKind (jZ P w)))/\(xs.map (·.1)).Nodup
 |.dA kvs=>kvs.length<=sizeLine/\(a==sysModules)=false/\∃xs:List (List (List (List Key))×Addr×Value),
   Paired (fun(p:List (List (List Key))×V)(q:List (List (List Key))×Addr×Value)=>p.1=q.1/\En H p.1 q.2.1/\RelV p.2 q.2.2) kvs xs /\
   ∃o es ep,h.get? a=some o/\o.ExactDict/\o.data=.dict es ep/\es.toList=xs.map (entryOfKey (WU (jZ P w)))/\(xs.map (·.1)).Nodup
 |.dP kvs=>kvs.length<=sizeLine/\(a==sysModules)=false/\∃xs:List (List (List Key)×Addr×Value),
   Paired (fun(p:List (List Key)×V)(q:List (List Key)×Addr×Value)=>p.1=q.1/\vm H p.1 q.2.1/\RelV p.2 q.2.2) kvs xs /\
   ∃o es ep,h.get? a=some o/\o.ExactDict/\o.data=.dict es ep/\es.toList=xs.map (entryOfKey (Vl (jZ P w)))/\(xs.map (·.1)).Nodup
 |.set S n=>h.SetOf (intKind P w) a S n
 |.ins C dx fs=>H dx=some (.own a)/\fs.length<=1000/\dx≠a/\h.get? a=some (PySem.W.instObj C dx) /\
   ∃mA,h.Ns1 dx mA/\(∀f,RelO (fs.lookup f) (mA f))/\PySem.Within mA (fs.map (·.1))
 |.own _=>∃o,h.get? a=some o
 |.xd fs=>∃mA,h.Ns1 a mA/\∀f,RelO (fs.lookup f) (mA f)
 |.rng lo hi=>∃t u v,h.get? a=some { cls:=.type "range",data:=.fields #[.int lo t,.int hi u,.int 1 v] }
 |.frz o u=>h.get? a=some o/\ObjOk H h a u
 |.tbl ps=>h.get? a=some { cls:=.none,data:=.fields ps }
 |.met f x=>h.get? a=some (PySem.W.methodObj (.ref f) (.ref x))
 |.ext g=>g h/\(∃o,h.get? a=some o)/\∀h1 h2:Heap,g h1->(∀o,h1.get? a=some o->h2.get? a=some o)->g h2
def HOk(H:Hp)(h:Heap):Prop:=∀a o,H a=some o->ObjOk P w H h a o
end
section
variable {P:Program}{w:World}{H H':Hp}{h h':Heap}{a:Addr}{o:HO}
def ObjOk.lt(x:ObjOk P w H h a o):a < h.objs.size:=by
 cases o with
 |lst xs=>obtain⟨_,_,_,_,e⟩:=x;exact Aa e
 |tup xs=>obtain⟨_,_,_,o,e,_⟩:=x;exact Aa e
 |dK kvs=>obtain⟨_,_,_,_,o,_,_,e,_⟩:=x;exact Aa e
 |dT kvs=>obtain⟨_,_,_,_,o,_,_,e,_⟩:=x;exact Aa e
 |dP kvs=>obtain⟨_,_,_,_,o,_,_,e,_⟩:=x;exact Aa e
 |dA kvs=>obtain⟨_,_,_,_,o,_,_,e,_⟩:=x;exact Aa e
 |set S n=>obtain⟨o,_,_,_,e,_⟩:=x;exact Aa e
 |ins C dx fs=>obtain⟨_,_,_,e,_⟩:=x;exact Aa e
 |own y=>obtain⟨_,e⟩:=x;exact Aa e
 |xd fs=>obtain⟨_,⟨_,_,_,e,_⟩,_⟩:=x;exact Aa e
 |rng lo hi=>obtain⟨_,_,_,e⟩:=x;exact Aa e
 |frz g u=>obtain⟨e,_⟩:=x;exact Aa e
 |tbl ps=>exact Aa (show h.get? a=some _ from x)
 |met f y=>exact Aa (show h.get? a=some _ from x)
 |ext q=>obtain⟨_,⟨_,e⟩,_⟩:=x;exact Aa e
theorem Paired.mapP{B β:Type}{F G:B->β->Prop}:∀{g:List B}{q:List β},Paired F g q->(∀a b,F a b->G a b)->Paired G g q
 |_,_,.nil,_=>.nil
 |_,_,.cons r t,f=>.cons (f _ _ r) (Paired.mapP t f)
def vm.mono{q:List (List Key)}{b:Addr}(x:vm H q b)(g:∀b xs,H b=some (.tup xs)->H' b=some (.tup xs)):vm H' q b :=
 let ⟨bs,e,r⟩:=x;⟨bs,g _ _ e,Paired.mapP r fun _ _ z=>g _ _ z⟩
def En.mono{H H':Hp}{k:List (List (List Key))}{b:Addr}(x:En H k b)(g:∀b xs,H b=some (.tup xs)->H' b=some (.tup xs)):En H' k b :=
 let ⟨bs,e,r⟩:=x;⟨bs,g _ _ e,Paired.mapP r fun _ _ z=>z.mono g⟩
def ObjOk.stay(x:ObjOk P w H h a o)(k:∀b u,(b=a\/H b=some (.own a))->h.get? b=some u->h'.get? b=some u)(J:∀b,H b=some (.own a)->H' b=some (.own a))(B:∀b xs,H b=some (.tup xs)->H' b=some (.tup xs)):ObjOk P w H' h' a o:=by
 induction o with
 |lst xs=>obtain⟨z,its,n,r,e⟩:=x;exact⟨z,its,n,r,k _ _ (.inl rfl) e⟩
 |tup xs=>obtain⟨z,its,r,g,e,c⟩:=x;exact⟨z,its,r,g,k _ _ (.inl rfl) e,c⟩
 |dK kvs=>obtain⟨z,y,vs,r,g,es,ep,e,c⟩:=x;exact⟨z,y,vs,r,g,es,ep,k _ _ (.inl rfl) e,c⟩
 |dT kvs =>
  obtain⟨z,y,xs,r,g,es,ep,e,c⟩:=x;exact⟨z,y,xs,Paired.mapP r fun p q z=>⟨z.1,B _ _ z.2.1,z.2.2⟩,g,es,ep,k _ _ (.inl rfl) e,c⟩
 |dA kvs =>
  obtain⟨z,y,xs,r,g,es,ep,e,c⟩:=x;exact⟨z,y,xs,Paired.mapP r fun p q z=>⟨z.1,z.2.1.mono B,z.2.2⟩,g,es,ep,k _ _ (.inl rfl) e,c⟩
 |dP kvs =>
  obtain⟨z,y,xs,r,g,es,ep,e,c⟩:=x;exact⟨z,y,xs,Paired.mapP r fun p q z=>⟨z.1,z.2.1.mono B,z.2.2⟩,g,es,ep,k _ _ (.inl rfl) e,c⟩
 |set S n=>obtain⟨g,es,ep,t,e,c⟩:=x;exact⟨g,es,ep,t,k _ _ (.inl rfl) e,c⟩
 |ins C dx fs =>
  obtain⟨d,z,M,e,mA,⟨D,es,ep,I,c⟩,r⟩:=x;exact⟨J _ d,z,M,k _ _ (.inl rfl) e,mA,⟨D,es,ep,k _ _ (.inr d) I,c⟩,r⟩
 |own y=>obtain⟨g,e⟩:=x;exact⟨g,k _ _ (.inl rfl) e⟩
 |xd fs=>obtain⟨mA,⟨D,es,ep,e,c⟩,r⟩:=x;exact⟨mA,⟨D,es,ep,k _ _ (.inl rfl) e,c⟩,r⟩
 |rng lo hi=>obtain⟨t,u,v,e⟩:=x;exact⟨t,u,v,k _ _ (.inl rfl) e⟩
 |frz g u L=>obtain⟨e,q⟩:=x;exact⟨k _ _ (.inl rfl) e,L q⟩
 |tbl ps =>
  have e:h.get? a=some { cls:=.none,data:=.fields ps }:=x;show h'.get? a=some { cls:=.none,data:=.fields ps };exact k a _ (.inl rfl) e
 |met f y =>
  have e:h.get? a=some (PySem.W.methodObj (.ref f) (.ref y)):=x;show h'.get? a=some (PySem.W.methodObj (.ref f) (.ref y));exact k a _ (.inl rfl) e
 |ext N=>obtain⟨p,⟨o,e⟩,st⟩:=x;exact⟨st _ _ p fun o q=>k _ _ (.inl rfl) q,⟨o,k _ _ (.inl rfl) e⟩,st⟩
def HOk.lt(x:HOk P w H h)(e:H a=some o):a < h.objs.size:=(x a o e).lt
def HOk.fresh(x:HOk P w H h)(e:h.objs.size<=a):H a=none:=by
 cases q:H a with
 |none=>rfl
 |some u=>exact absurd (AK (x.lt q) e) (BM _)
def HOk.kept(x:HOk P w H h)(k:∀b u,h.get? b=some u->h'.get? b=some u):HOk P w H h':=fun a o e=>
 (x a o e).stay (fun b u _ q=>k b u q) (fun _ q=>q) fun _ _ q=>q
def HOk.laid(x:HOk P w H h)(k:∀b u,h.get? b=some u->h'.get? b=some u)(D:h.objs.size<=a)(I:ObjOk P w (upd H a o) h' a o):HOk P w (upd H a o) h':=fun b u e=>by
 have B:=x.fresh D
 by_cases g:b=a
 .subst g;rw[vX] at e;cases e;exact I
 .rw [cX g] at e
  exact(x b u e).stay (fun c v _ q=>k c v q) (fun c q=>by rw[cX (qK q B)];exact q) fun c xs q=>by rw[cX (qK q B)];exact q
end
def Rd(H:Hp)(a:Addr)(u:HO):Prop:=H a=some u\/∃o,H a=some (.frz o u)
def Rd.of{H:Hp}{a:Addr}{u:HO}(h:H a=some u):Rd H a u:=.inl h
def Rd.ok{P:Program}{w:World}{H:Hp}{h:Heap}{a:Addr}{u:HO}(r:Rd H a u)(x:HOk P w H h):ObjOk P w H h a u:=by
 rcases r with r | ⟨o,r⟩
 .exact x a u r
 .obtain ⟨_,q⟩:=x a _ r
  exact q
def Mut:Option HO->Prop
 |some (.lst _)=>True
 |some (.dK _)=>True
 |some (.dT _)=>True
 |some (.dP _)=>True
 |some (.dA _)=>True
 |some (.set _ _)=>True
 |some (.ins _ _ _)=>True
 |some (.ext _)=>True
 |_=>False
section
variable {P:Program}{w:World}{H:Hp}{h h':Heap}{x e:Addr}{o':HO}
def HOk.write(Y:HOk P w H h)(I:Mut (H x))(J:e=x\/H e=some (.own x))(k:∀b u,b≠e->h.get? b=some u->h'.get? b=some u)(N:∃u,h'.get? e=some u)(S:ObjOk P w (upd H x o') h' x o'):HOk P w (upd H x o') h':=fun b u q=>by
 have L:∀c y,H c=some (.own y)->c≠x:=fun c y r z=>by subst z;rw[r] at I;exact I
 have U:∀c xs,H c=some (.tup xs)->c≠x:=fun c xs r z=>by subst z;rw[r] at I;exact I
 by_cases g:b=x
 .subst g;rw[vX] at q;cases q;exact S
 .rw [cX g] at q
  by_cases B:b=e
  .have M:H b=some (.own x):=by
    rcases J with z | z
    .exact absurd (B.trans z) g
    .rw [B];exact z
   rw[q] at M;cases M
   obtain⟨v,O⟩:=N;exact⟨v,by rw[B];exact O⟩
  .refine (Y b u q).stay (fun c v D r=>k c v ?_ r) (fun c r=>by rw[cX (L c b r)];exact r) fun c xs r=>by rw[cX (U c xs r)];exact r
   rcases D with rfl | D
   .exact B
   .rintro rfl
    rcases J with z | z
    .exact L c b D z
    .rw [D] at z;cases z;exact g rfl
end
structure Un(fs ex:List Addr)(H H':Hp)(h h':Heap):Prop where
 keep:∀b o,h.get? b=some o->H b=none->b∉fs->b∉ex->h'.get? b=some o
 slot:∀b o,h.get? b=some o->H b=none->b∈fs->b∉ex->∃sl,h'.get? b=some { o with slots:=sl }
 free:∀b o,h.get? b=some o->H b=none->b∉ex->H' b=none
 there:∀b o,h.get? b=some o->b∉ex->∃o',h'.get? b=some o'
 tups:∀b xs,H b=some (.tup xs)->H' b=some (.tup xs)
 frzs:∀b o u,H b=some (.frz o u)->H' b=some (.frz o u)
 tbls:∀b ps,H b=some (.tbl ps)->∃more,H' b=some (.tbl (ps++more))
section
variable {fs fs' ex ex':List Addr}{H H1 H2:Hp}{h h1 h2 h':Heap}{a x e:Addr}{o:HO}
def Un.any(u:Un fs ex H H1 h h1){b:Addr}{g:Obj}(q:h.get? b=some g)(n:H b=none)(D:b∉ex):∃I,h1.get? b=some { g with slots:=I }:=by
 by_cases B:b∈fs
 .exact u.slot b g q n B D
 .exact ⟨g.slots,u.keep b g q n B D⟩
def Un.kept(k:∀b u,h.get? b=some u->h'.get? b=some u):Un fs ex H H h h' :=
 ⟨fun b g q _ _ _=>k b g q,fun b g q _ _ _=>⟨g.slots,k b g q⟩,fun _ _ _ n _=>n,fun b g q _=>⟨g,k b g q⟩,fun _ _ q=>q,fun _ _ _ q=>q,fun _ ps q=>⟨#[],by rw[q];simp⟩⟩
def Un.refl:Un fs ex H H h h:=Un.kept fun _ _ q=>q
def Un.laid(k:∀b u,h.get? b=some u->h'.get? b=some u)(B:h.objs.size<=a)(g:H a=none):Un fs ex H (upd H a o) h h' where
 keep:=fun b u q _ _ _=>k b u q
 slot:=fun b u q _ _ _=>⟨u.slots,k b u q⟩
 free:=fun b u q n _=>by rw[cX (Av (AK (Aa q) B))];exact n
 there:=fun b u q _=>⟨u,k b u q⟩
 tups:=fun b xs q=>by rw[cX (qK q g)];exact q
 frzs:=fun b u xs q=>by rw[cX (qK q g)];exact q
 tbls:=fun b ps q=>⟨#[],by rw[cX (qK q g),q];simp⟩
def Un.write(g:Mut (H x))(L:e=x\/H e=some (.own x))(k:∀b u,b≠e->h.get? b=some u->h'.get? b=some u)(M:∃u,h'.get? e=some u):Un fs ex H (upd H x o) h h':=by
 have J:∀b,H b=none->b≠x:=fun b n z=>by subst z;rw[n] at g;exact g
 have D:∀b,H b=none->b≠e:=fun b n z=>by
  subst z
  rcases L with r | r
  .exact J b n r
  .rw [n] at r;cases r
 have B:∀b u,H b=some u->¬ Mut (some u)->b≠x:=fun b u q N z=>by subst z;rw[q] at g;exact N g
 refine⟨fun b u q n _ _=>k b u (D b n) q,fun b u q n _ _=>⟨u.slots,k b u (D b n) q⟩,fun b u q n _=>by rw[cX (J b n)];exact n,fun b u q _=>?_,
  fun b xs q=>by rw[cX (B b _ q fun z=>z)];exact q,fun b u xs q=>by rw[cX (B b _ q fun z=>z)];exact q,fun b ps q=>⟨#[],by rw[cX (B b _ q fun z=>z),q];simp⟩⟩
 by_cases I:b=e
 .subst I;exact M
 .exact ⟨u,k b u I q⟩
end
def trk(h:Heap)(H:Hp):List Addr:=(List.range h.objs.size).filter fun a=>(H a).isSome
def zA(h:Heap)(H:Hp):Heap:=PySem.W.hideAll h (trk h H)
def JP(h:Heap)(H:Hp):(zA h H).objs.size=h.objs.size:=PySem.W.hideAll_size _ _
def VW{h:Heap}{H:Hp}{b:Addr}{o:Obj}(e:h.get? b=some o)(n:H b=none):(zA h H).get? b=some o :=
 PySem.W.hideAll_get _ e fun g=>by
  have q:(H b).isSome=true:=(Cw.mp g).2;rw[n] at q;simp at q
def of_hidT{h:Heap}{H:Hp}{b:Addr}{o:Obj}(e:(zA h H).get? b=some o):h.get? b=some o/\H b=none:=by
 have g:h.get? b=some o:=PySem.W.of_hideAll (trk h H) e;refine⟨g,?_⟩
 cases q:H b with
 |none=>rfl
 |some x =>
  have B:b∈trk h H:=Cw.mpr ⟨Bu.mpr (Aa g),by simp[q]⟩;have z:(zA h H).get? b=none:=PySem.W.hideAll_none (trk h H) B;rw[z] at e;cases e
def allNews(g h:Heap)(L:Addr):List (Addr×Obj):=(List.range h.objs.size).filterMap fun a=>if a=L\/(g.get? a).isSome=true then none else (h.get? a).map fun o=>(a,o)
def rest(g h:Heap)(L d:Addr):List (Addr×Obj):=(allNews g h L).filter fun p=>decide (p.1≠d)
structure Mod(K:DD)(mg:Str->Option Value)(base:Heap):Prop where
 kin:K.In base
 glob:base.Ns mainGlobals mg
 blt:∃mb,base.Ns builtinsNs mb/\∀x:Str,x ≠ "__name__"->mb x=bootBuiltins x
 nolimit:base.NoLimit
structure Cx where
 prog:Program
 w:World
 K:DD
 mg:Str->Option Value
 base:Heap
 A:Around
 N:List Str
 s₀:Shared
 H₀:Hp
 env:Env
 outer:List Env
 stack:List Env
 ex:List Addr
 fn:Str->Bool
 calm:Bool
 pn:List (Addr×Obj)
 xe:Value->Shared->Prop
def frs(l:List Env):List Addr:=l.filterMap (·.frame)
abbrev Cx.fs(X:Cx):List Addr:=frs X.outer
def Vis(g:Scope)(x:Str):Prop:=g.names.lookup x=some .local\/g.names.lookup x=some .cell\/g.names.lookup x=some .free
def Loc(g:Scope)(x:Str):Prop:=g.names.lookup x=some .local\/g.names.lookup x=some .cell
def Look(g:Env)(h:Heap)(m:Str->Option Value)(x:Str)(u:Value):Prop :=
 (g.kindOf x=some .local/\m x=some u)\/((g.kindOf x=some .cell\/g.kindOf x=some .free)/\∃c,g.cells.lookup x=some c/\h.IsCell c (some u))
structure Cx.Ok(X:Cx):Prop where
 mod:Mod X.K X.mg X.base
 kind:X.env.scope.kind=.function
 glob:X.env.globals=mainGlobals
 blt:X.env.builtins=builtinsNs
 above:X.s₀.heap.objs.size<=X.env.locals
 inj:∀x y c,X.env.cells.lookup x=some c->X.env.cells.lookup y=some c->x=y
 has:∀x,(X.env.kindOf x=some .cell\/X.env.kindOf x=some .free)->∃c,X.env.cells.lookup x=some c
 cab:∀x c,X.fn x=true->X.env.cells.lookup x=some c->X.s₀.heap.objs.size<=c
 hd:X.calm=true->X.A.handled=none
 frames:X.A.frames=some X.stack
 stk:X.stack=X.outer\/(X.stack=X.env::X.outer/\X.env.frame=some X.env.locals)
 exf:∀b∈X.ex,b≠X.env.locals/\∀x c,X.env.cells.lookup x=some c->c≠b
 bs:∀b o,X.base.get? b=some o->X.s₀.heap.get? b=some o/\X.H₀ b=none
 bsz:X.base.objs.size<=X.s₀.heap.objs.size
 noex:∀b o,X.base.get? b=some o->b∉X.ex
 exfs:∀b∈X.ex,b∉X.fs
 funs:X.s₀.heap.FunFrames X.base X.outer
 frf:∀b∈X.fs,X.H₀ b=none
structure Inv(X:Cx)(pins:List (Addr×Obj))(σ:List (Option V))(H:Hp)(s:Shared):Prop where
 ok:X.Ok
 os:s.os=X.s₀.os
 bare:AllBare s.gens
 base:Un X.fs X.ex X.H₀ H X.s₀.heap s.heap
 loc:∃m,s.heap.Ns X.env.locals m/\∀(i:Nat)(x:Str)(v:V),X.N[i]?=some x->σ[i]?=some (some v)->Vis X.env.scope x->∃u,RelV v u/\Look X.env s.heap m x u
 cell:∀x c,X.env.cells.lookup x=some c->∃v,s.heap.IsCell c v
 free:H X.env.locals=none
 freeC:∀x c,X.env.cells.lookup x=some c->H c=none
 pin:∀p∈X.pn++pins,s.heap.get? p.1=some p.2/\H p.1=none/\p.1≠X.env.locals/\p.1∉X.fs/\∀v,p.2.data≠.cell v
 hok:HOk X.prog X.w H s.heap
 len:σ.length=X.N.length
section
variable {X:Cx}{pins:List (Addr×Obj)}{σ:List (Option V)}{H H':Hp}{s:Shared}{h':Heap}
def Cx.Ok.nofr(q:X.Ok){b:Addr}{o:Obj}(e:X.base.get? b=some o):b∉X.fs:=fun g=>by
 have:=(q.funs.mem g).1;rw[e] at this;cases this
def Inv.bs(I:Inv X pins σ H s):∀b o,X.base.get? b=some o->s.heap.get? b=some o/\H b=none:=fun b o e=>
 ⟨I.base.keep b o (I.ok.bs b o e).1 (I.ok.bs b o e).2 (I.ok.nofr e) (I.ok.noex b o e),I.base.free b o (I.ok.bs b o e).1 (I.ok.bs b o e).2 (I.ok.noex b o e)⟩
def Inv.bk(I:Inv X pins σ H s):∀b o,X.base.get? b=some o->s.heap.get? b=some o:=fun b o e=>(I.bs b o e).1
def Inv.mod(I:Inv X pins σ H s):Mod X.K X.mg X.base:=I.ok.mod
def Inv.kIn(I:Inv X pins σ H s):X.K.In s.heap:=I.ok.mod.kin.keeps I.bk
def Inv.lt(I:Inv X pins σ H s):X.env.locals < s.heap.objs.size:=let ⟨_,g,_⟩:=I.loc;g.lt
def Inv.sz(I:Inv X pins σ H s):X.s₀.heap.objs.size<=s.heap.objs.size:=AR I.ok.above (Nat.le_of_lt I.lt)
def Inv.nofs(I:Inv X pins σ H s){a:Addr}(h:s.heap.objs.size<=a):a∉X.fs:=fun g=>by
 obtain⟨_,o,q,_⟩:=I.ok.funs.mem g;exact absurd (AK (Aa q) (AR I.sz h)) (BM _)
def Inv.cne(I:Inv X pins σ H s):∀x c,X.env.cells.lookup x=some c->c≠X.env.locals:=fun x c e z=>by
 obtain⟨v,o,q,g⟩:=I.cell x c e;obtain⟨m,⟨o',es,ep,D,B,_⟩,_⟩:=I.loc;rw[z,D] at q;cases q;rw[B] at g;cases g
def Inv.funs(I:Inv X pins σ H s):s.heap.FunFrames X.base X.outer:=by
 have D:∀(l:List Env),(∀b∈frs l,b∈X.fs)->X.s₀.heap.FunFrames X.base l->s.heap.FunFrames X.base l:=by
  intro l
  induction l with
  |nil=>intro _ _;trivial
  |cons Z r Y =>
   intro hs N;obtain⟨M,⟨L,o,B,O,S,J⟩,U⟩:=N;have g:L∈X.fs:=hs L (by unfold frs;rw[List.filterMap_cons,B];exact AI);obtain⟨sl,e⟩:=I.base.slot L o S (I.ok.frf L g) g fun z=>I.ok.exfs L z g;exact⟨M,⟨L,_,B,O,e,J⟩,Y (fun b q=>hs b (by unfold frs;rw[List.filterMap_cons,B];exact AF _ q)) U⟩
 exact D X.outer (fun _ q=>q) I.ok.funs
def Inv.stack(I:Inv X pins σ H s):s.heap.FunFrames X.base X.stack:=by
 rcases I.ok.stk with e | ⟨e,g⟩
 .rw [e];exact I.funs
 .rw [e]
  obtain⟨m,q,_⟩:=I.loc;refine .cons (by rw[I.ok.kind];decide) g q ?_ I.funs;exact Heap.get?_none_of_le (AR I.ok.bsz I.ok.above)
def Inv.stkSub(I:Inv X pins σ H s):∀b∈frs X.stack,b∈X.env.locals::X.fs:=fun b g=>by
 rcases I.ok.stk with e | ⟨e,q⟩
 .rw [e] at g;exact AF _ g
 .rw [e] at g
  unfold frs at g;rw[List.filterMap_cons,q] at g;exact g
def Inv.stkFree(I:Inv X pins σ H s):∀b∈frs X.stack,H b=none:=fun b g=>by
 rcases AX.mp (I.stkSub b g) with e | g
 .rw [e];exact I.free
 .obtain ⟨_,o,q,_⟩:=I.ok.funs.mem g
  exact I.base.free b o q (I.ok.frf b g) fun z=>I.ok.exfs b z g
def Inv.step{g':Array GenState}{t':Nat}{d':Drawn}{ch:List Addr}(I:Inv X pins σ H s)(L:∀b∈ch,(b∈X.ex\/X.s₀.heap.objs.size<=b)/\b≠X.env.locals/\(∀x c,X.env.cells.lookup x=some c->c≠b)/\∀p∈X.pn++pins,p.1≠b)(U:∀b o,b≠X.env.locals->b∉X.fs->b∉ch->s.heap.get? b=some o->H b=none->h'.get? b=some o)(ae:∀b o,b≠X.env.locals->b∈X.fs->b∉ch->s.heap.get? b=some o->H b=none->∃Y,h'.get? b=some { o with slots:=Y })(N:∀b o,b∉ch->s.heap.get? b=some o->H b=none->H' b=none)(ao:∀b o,b∉ch->s.heap.get? b=some o->∃o',h'.get? b=some o')(aq:∀b xs,H b=some (.tup xs)->H' b=some (.tup xs))(af:∀b o u,H b=some (.frz o u)->H' b=some (.frz o u))(ak:∀b ps,H b=some (.tbl ps)->∃ah,H' b=some (.tbl (ps++ah)))(ns:∀m,s.heap.Ns X.env.locals m->h'.Ns X.env.locals m)(ag:HOk X.prog X.w H' h')(hg:AllBare g'):
  Inv X pins σ H' { s with heap:=h',gens:=g',drawn:=d',toks:=t' }:=by
 have ab:∀b o,X.s₀.heap.get? b=some o->b≠X.env.locals:=fun b o e=>Av (AK (Aa e) I.ok.above)
 have O:∀b o,X.s₀.heap.get? b=some o->b∉X.ex->b∉ch:=fun b o e g B=>by
  rcases(L b B).1 with z | z
  .exact g z
  .exact absurd (AK (Aa e) z) (BM _)
 have Z:∀x c,X.env.cells.lookup x=some c->∀v,s.heap.IsCell c v->h'.IsCell c v:=fun x c e v ⟨o,D,S⟩=>by
  have M:c∉ch:=fun z=>(L c z).2.2.1 x c e rfl
  by_cases hc:c∈X.fs
  .obtain ⟨Y,ai⟩:=ae c o (I.cne x c e) hc M D (I.freeC x c e)
   exact⟨_,ai,S⟩
  .exact ⟨o,U c o (I.cne x c e) hc M D (I.freeC x c e),S⟩
 refine⟨I.ok,I.os,hg,⟨fun b o e n B g=>?_,fun b o e n B g=>?_,fun b o e n g=>?_,fun b o e g=>?_,fun b xs e=>aq b xs (I.base.tups b xs e),fun b o xs e=>af b o xs (I.base.frzs b o xs e),fun b ps e=>?_⟩,?_,fun x c e=>?_,?_,fun x c e=>?_,fun p hp=>?_,ag,I.len⟩
 .exact U b o (ab b o e) B (O b o e g) (I.base.keep b o e n B g) (I.base.free b o e n g)
 .obtain ⟨Y,q⟩:=I.base.slot b o e n B g
  obtain⟨aj,J⟩:=ae b _ (ab b o e) B (O b o e g) q (I.base.free b o e n g);exact⟨aj,J⟩
 .obtain ⟨o',q⟩:=I.base.there b o e g
  exact N b o' (O b o e g) q (I.base.free b o e n g)
 .obtain ⟨o',q⟩:=I.base.there b o e g
  exact ao b o' (O b o e g) q
 .obtain ⟨m1,q⟩:=I.base.tbls b ps e
  obtain⟨m2,J⟩:=ak b _ q;exact⟨m1++m2,by rw[J,Array.append_assoc]⟩
 .obtain ⟨m,hn,hl⟩:=I.loc
  refine⟨m,ns m hn,fun i x v q J e3=>?_⟩;obtain⟨u,r,l⟩:=hl i x v q J e3;refine⟨u,r,?_⟩
  rcases l with l | ⟨k,c,e,z⟩
  .exact .inl l
  .exact .inr ⟨k,c,e,Z x c e _ z⟩
 .obtain ⟨v,z⟩:=I.cell x c e
  exact⟨v,Z x c e v z⟩
 .obtain ⟨m,⟨o,_,_,D,_⟩,_⟩:=I.loc
  exact N _ o (fun z=>(L _ z).2.1 rfl) D I.free
 .obtain ⟨v,o,D,S⟩:=I.cell x c e
  exact N c o (fun z=>(L c z).2.2.1 x c e rfl) D (I.freeC x c e)
 .obtain ⟨e,n,aa,nf,d⟩:=I.pin p hp
  have M:p.1∉ch:=fun z=>(L p.1 z).2.2.2 p hp rfl;exact⟨U p.1 p.2 aa nf M e n,N p.1 p.2 M e n,aa,nf,d⟩
def Inv.un{t':Nat}(I:Inv X pins σ H s)(u:Un X.fs [] H H' s.heap h')(N:HOk X.prog X.w H' h'):Inv X pins σ H' { s with heap:=h',toks:=t' }:=by
 obtain⟨m,⟨o,es,ep,q,r⟩,_⟩:=id I.loc;obtain⟨U,L⟩:=u.any q I.free (by simp)
 exact I.step (g':=s.gens) (d':=s.drawn) (ch:=[]) (fun _ z=>nomatch z) (fun b o _ g _ e n=>u.keep b o e n g (by simp)) (fun b o _ g _ e n=>u.slot b o e n g (by simp)) (fun b o _ e n=>u.free b o e n (by simp)) (fun b o _ e=>u.there b o e (by simp)) u.tups u.frzs u.tbls (fun S M=>by
  obtain⟨o',J,D,B,O⟩:=M;rw[q] at B;cases B
  exact⟨_,J,D,L,O⟩) N I.bare
def Inv.call{g':Array GenState}{t':Nat}{d':Drawn}{ch:List Addr}(I:Inv X pins σ H s)(u:Un (frs X.stack) ch H H' s.heap h')(U:HOk X.prog X.w H' h')(O:AllBare g')(B:∀b∈ch,(b∈X.ex\/X.s₀.heap.objs.size<=b)/\b≠X.env.locals/\(∀x c,X.env.cells.lookup x=some c->c≠b)/\∀p∈X.pn++pins,p.1≠b):
  Inv X pins σ H' { s with heap:=h',gens:=g',drawn:=d',toks:=t' }:=by
 obtain⟨m,⟨o,es,ep,D,r⟩,_⟩:=id I.loc;obtain⟨sl,q⟩:=u.any D I.free fun z=>(B _ z).2.1 rfl
 exact I.step (ch:=ch) B (fun b o q N g e n=>u.keep b o e n (fun z=>(AX.mp (I.stkSub b z)).elim q N) g) (fun b o _ _ g e n=>u.any e n g) (fun b o g e n=>u.free b o e n g) (fun b o g e=>u.there b o e g) u.tups u.frzs u.tbls (fun Z S=>by
  obtain⟨o',M,L,J,Y⟩:=S;rw[D] at J;cases J
  exact⟨_,M,L,q,Y⟩) U O
def Inv.turned{t':Nat}{it:Addr}(I:Inv X pins σ H s)(k:∀b o,b≠it->s.heap.get? b=some o->h'.get? b=some o)(N:H it=none)(B:it≠X.env.locals)(h1:it∈X.ex\/X.s₀.heap.objs.size<=it)(h2:∀x c,X.env.cells.lookup x=some c->c≠it)(J:∀p∈X.pn++pins,p.1≠it):Inv X pins σ H { s with heap:=h',toks:=t' }:=by
 have D:∀b u,H b=some u->b≠it:=fun b u e z=>by rw[z,N] at e;cases e
 refine I.step (g':=s.gens) (d':=s.drawn) (ch:=[it]) (fun b L=>?_) (fun b o _ _ g e _=>k b o (fun z=>g (by simp[z])) e) (fun b o _ _ g e _=>⟨o.slots,k b o (fun z=>g (by simp[z])) e⟩) (fun _ _ _ _ n=>n)
  (fun b o g e=>⟨o,k b o (fun z=>g (by simp[z])) e⟩) (fun _ _ e=>e) (fun _ _ _ e=>e) (fun b ps e=>⟨#[],by rw[e];simp⟩) (fun m M=>?_) (fun b u e=>?_) I.bare
 .have e:b=it:=by simpa using L
  subst e;exact⟨h1,B,h2,J⟩
 .obtain ⟨o,es,ep,O,r⟩:=M
  exact⟨o,es,ep,k _ o (Ne.symm B) O,r⟩
 .refine (I.hok b u e).stay (fun c v g q=>k c v ?_ q) (fun _ q=>q) fun _ _ q=>q
  rcases g with z | z
  .rw [z];exact D b u e
  .exact D c _ z
def Inv.tok(I:Inv X pins σ H s)(t:Nat):Inv X pins σ H { s with toks:=t }:=I.un (h':=s.heap) (t':=t) Un.refl I.hok
def Inv.kept{t':Nat}(I:Inv X pins σ H s)(k:∀b u,s.heap.get? b=some u->h'.get? b=some u):Inv X pins σ H { s with heap:=h',toks:=t' }:=I.un (Un.kept k) (I.hok.kept k)
def Inv.laid{a:Addr}{o:HO}{t':Nat}(I:Inv X pins σ H s)(k:∀b u,s.heap.get? b=some u->h'.get? b=some u)(g:s.heap.objs.size<=a)(q:ObjOk X.prog X.w (upd H a o) h' a o):
  Inv X pins σ (upd H a o) { s with heap:=h',toks:=t' }:=I.un (Un.laid k g (I.hok.fresh g)) (I.hok.laid k g q)
def Inv.write{x e:Addr}{o:HO}{t':Nat}(I:Inv X pins σ H s)(B:Mut (H x))(g:e=x\/H e=some (.own x))(k:∀b u,b≠e->s.heap.get? b=some u->h'.get? b=some u)(q:∃u,h'.get? e=some u)(D:ObjOk X.prog X.w (upd H x o) h' x o):Inv X pins σ (upd H x o) { s with heap:=h',toks:=t' }:=I.un (Un.write B g k q) (I.hok.write B g k q D)
def Inv.pins_of{g:List (Addr×Obj)}(I:Inv X pins σ H s)(h:∀p∈g,s.heap.get? p.1=some p.2/\H p.1=none/\p.1≠X.env.locals/\p.1∉X.fs/\∀v,p.2.data≠.cell v):Inv X g σ H s :=
 ⟨I.ok,I.os,I.bare,I.base,I.loc,I.cell,I.free,I.freeC,fun p q=>(AQ.mp q).elim (fun z=>I.pin p (Ap _ z)) (h p),I.hok,I.len⟩
def Qn{N:List Str}(B:N.Nodup){i j:Nat}{x:Str}(a:N[i]?=some x)(b:N[j]?=some x):i=j:=by
 obtain⟨h1,g⟩:=AZ.mp a;obtain⟨h2,q⟩:=AZ.mp b;exact(List.getElem_inj B).mp (g.trans q.symm)
def xT{ai:Model}{A:Around}{E:Value->Shared->Prop}{i:Nat}{x:Str}{v:V}{u:Value}{Q:Unit->Shared->Prop}(I:Inv X pins σ H s)(hN:X.N.Nodup)(hi:X.N[i]?=some x)(D:Loc X.env.scope x)(r:RelV v u)(h:∀s',Inv X pins (σ.set i (some v)) H s'->(∃a,Heap.SameBut a s.heap s'.heap/\(a=X.env.locals\/X.env.cells.lookup x=some a))->Q () s')(ak:X.fn x=true\/X.env.scope.names.lookup x=some .local:=by first | exact .inl rfl | exact .inr rfl | assumption):wpAny ai A (storeName X.env x u) Q E s:=by
 obtain⟨m,hn,hl⟩:=id I.loc;have aj:(X.env.scope.kind==.class || (X.env.scope.kind==.module&&X.env.locals != X.env.globals))=false:=by rw[I.ok.kind];rfl
 have af:i < σ.length:=by rw[I.len];exact(AZ.mp hi).1
 have U:=I.cne
 have ah:∀{a:Addr}{h':Heap},(∃o,s.heap.get? a=some o/\H a=none)->Heap.SameBut a s.heap h'->HOk X.prog X.w H h':=fun {a h'}ha hs b ob e=>by
  obtain⟨_,_,ae⟩:=ha;refine(I.hok b ob e).stay (fun c S B q=>(hs.2 c ?_).trans q) (fun _ q=>q) fun _ _ q=>q;rintro rfl
  rcases B with rfl | B
  .rw [ae] at e;cases e
  .rw [ae] at B;cases B
 rcases D with L | L
 .refine wpAny_storeName_local L hn (fun h' ao hs=>?_) aj
  obtain⟨oL,_,_,aq,_⟩:=id hn;refine h _ ⟨I.ok,I.os,I.bare,⟨fun b o e n M D=>?_,fun b o e n M D=>?_,I.base.free,fun b o e D=>?_,I.base.tups,I.base.frzs,I.base.tbls⟩,⟨_,ao,fun j y v' g J Y=>?_⟩,fun y c e=>?_,I.free,I.freeC,fun p hp=>?_,ah ⟨oL,aq,I.free⟩ hs,by simpa using I.len⟩ ⟨_,hs,.inl rfl⟩
  .exact (hs.2 b (Av (AK (Aa e) I.ok.above))).trans (I.base.keep b o e n M D)
  .obtain ⟨sl,g⟩:=I.base.slot b o e n M D
   exact⟨sl,(hs.2 b (Av (AK (Aa e) I.ok.above))).trans g⟩
  .obtain ⟨o',g⟩:=I.base.there b o e D
   exact⟨o',(hs.2 b (Av (AK (Aa e) I.ok.above))).trans g⟩
  .by_cases hj:j=i
   .subst hj
    rw[hi] at g;cases g
    rw[List.getElem?_set_self af] at J;cases J;exact⟨u,r,.inl ⟨L,by simp⟩⟩
   .rw [List.getElem?_set_ne (Ne.symm hj)] at J
    obtain⟨u',r',q⟩:=hl j y v' g J Y;refine⟨u',r',?_⟩
    rcases q with ⟨k,e⟩ | ⟨k,c,e,z⟩
    .refine .inl ⟨k,?_⟩
     have:y≠x:=fun e=>hj (Qn hN g (e▸hi))
     simp[this,e]
    .exact .inr ⟨k,c,e,z.sameBut hs (U y c e)⟩
  .obtain ⟨S,z⟩:=I.cell y c e
   exact⟨S,z.sameBut hs (U y c e)⟩
  .obtain ⟨e,n,O,nf,d⟩:=I.pin p hp
   exact⟨(hs.2 p.1 O).trans e,n,O,nf,d⟩
 .have Z:X.fn x=true:=by
   rcases ak with z | z
   .exact z
   .rw [z] at L;cases L
  obtain⟨c,B⟩:=I.ok.has x (.inl L);obtain⟨S,z⟩:=I.cell x c B;refine wpAny_storeName_cell I.ok.kind L B z (fun h' aa hs=>?_);obtain⟨oc,ag,ar⟩:=id z;refine h { s with heap:=h' } ⟨I.ok,I.os,I.bare,⟨fun b o e n M D=>?_,fun b o e n M D=>?_,I.base.free,fun b o e D=>?_,I.base.tups,I.base.frzs,I.base.tbls⟩,⟨m,hn.sameBut hs (Ne.symm (U x c B)),fun j y v' g J Y=>?_⟩,fun y N e=>?_,I.free,I.freeC,fun p hp=>?_,ah ⟨oc,ag,I.freeC x c B⟩ hs,by simpa using I.len⟩ ⟨c,hs,.inr B⟩
  .exact (hs.2 b (Av (AK (Aa e) (I.ok.cab x c Z B)))).trans (I.base.keep b o e n M D)
  .obtain ⟨sl,g⟩:=I.base.slot b o e n M D
   exact⟨sl,(hs.2 b (Av (AK (Aa e) (I.ok.cab x c Z B)))).trans g⟩
  .obtain ⟨o',g⟩:=I.base.there b o e D
   exact⟨o',(hs.2 b (Av (AK (Aa e) (I.ok.cab x c Z B)))).trans g⟩
  .by_cases hj:j=i
   .subst hj
    rw[hi] at g;cases g
    rw[List.getElem?_set_self af] at J;cases J;exact⟨u,r,.inr ⟨.inl L,c,B,aa⟩⟩
   .rw [List.getElem?_set_ne (Ne.symm hj)] at J
    obtain⟨u',r',q⟩:=hl j y v' g J Y;refine⟨u',r',?_⟩
    rcases q with q | ⟨k,N,e,z'⟩
    .exact .inl q
    .refine .inr ⟨k,N,e,z'.sameBut hs ?_⟩
     rintro rfl;exact hj (Qn hN g (I.ok.inj _ _ _ e B▸hi))
  .by_cases ab:N=c
   .subst ab;exact⟨_,aa⟩
   .obtain ⟨w2,z2⟩:=I.cell y N e
    exact⟨w2,z2.sameBut hs ab⟩
  .obtain ⟨e,n,O,nf,d⟩:=I.pin p hp
   refine⟨(hs.2 p.1 ?_).trans e,n,O,nf,d⟩;intro q;rw[q,ag] at e;have q':oc=p.2:=An e;exact d S (by rw[<- q'];exact ar)
def uN{M:Model}{A:Around}{E:Value->Shared->Prop}{i:Nat}{x:Str}{v:V}{u:Value}{Q:Unit->Shared->Prop}(I:Inv X pins σ H s)(q:X.N.Nodup)(hi:X.N[i]?=some x)(D:Loc X.env.scope x)(r:RelV v u)(h:∀s',Inv X pins (σ.set i (some v)) H s'->Q () s')(B:X.fn x=true\/X.env.scope.names.lookup x=some .local:=by first | exact .inl rfl | exact .inr rfl | assumption):wpAny M A (storeName X.env x u) Q E s :=
 xT I q hi D r (fun s' g _=>h s' g) B
end
abbrev XK:=Value->Option Addr->Hp->Prop
abbrev St:=List (Option V)
abbrev VK:=V->Hp->Prop
abbrev TE:=St->Hp->VK->Prop
abbrev TT:=St->Hp->(Bool->Hp->Prop)->Prop
abbrev TA:=St->Hp->(List V->Hp->Prop)->Prop
structure Zg where
 nx:St->Hp->Prop
 rt:VK
 bk:St->Hp->Prop:=fun _ _=>False
 ct:St->Hp->Prop:=fun _ _=>False
abbrev TS:=Zg->St->Hp->Prop
def EP(X:Cx)(pins:List (Addr×Obj))(σ:St)(Q:VK)(u:Value)(s':Shared):Prop:=∃v H',Inv X pins σ H' s'/\RelV v u/\Q v H'
def TP(X:Cx)(pins:List (Addr×Obj))(σ:St)(Q:Bool->Hp->Prop)(b:Bool)(s':Shared):Prop:=∃H',Inv X pins σ H' s'/\Q b H'
def AP(X:Cx)(pins:List (Addr×Obj))(σ:St)(Q:List V->Hp->Prop)(us:List Value)(s':Shared):Prop:=∃vs H',Inv X pins σ H' s'/\Vals vs us/\Q vs H'
def SP(X:Cx)(pins:List (Addr×Obj))(D:Zg)(f:Flow)(s':Shared):Prop :=
 match f with
 |.next=>∃g H',Inv X pins g H' s'/\D.nx g H'
 |.brk=>∃g H',Inv X pins g H' s'/\D.bk g H'
 |.cont=>∃g H',Inv X pins g H' s'/\D.ct g H'
 |.ret u=>∃v g H',Inv X pins g H' s'/\RelV v u/\D.rt v H'
def PE(X:Cx)(e:Expr)(t:TE):Prop :=
 ∀(pins:List (Addr×Obj))(s:Shared)(σ:St)(H:Hp)(Q:VK),Inv X pins σ H s->t σ H Q->wpAny (model X.prog X.w) X.A (eval e X.env) (EP X pins σ Q) X.xe s
def PT(X:Cx)(e:Expr)(t:TT):Prop :=
 ∀(pins:List (Addr×Obj))(s:Shared)(σ:St)(H:Hp)(Q:Bool->Hp->Prop),Inv X pins σ H s->t σ H Q->wpAny (model X.prog X.w) X.A (isTrue e X.env (eval e X.env)) (TP X pins σ Q) X.xe s
def PW(X:Cx)(e:Expr)(t:TT):Prop :=
 ∀(g:Sem Value)(pins:List (Addr×Obj))(s:Shared)(σ:St)(H:Hp)(Q:Bool->Hp->Prop),Inv X pins σ H s->t σ H Q->wpAny (model X.prog X.w) X.A (isTrue e X.env g) (TP X pins σ Q) X.xe s
def PW.pt{X:Cx}{e:Expr}{t:TT}(h:PW X e t):PT X e t:=h _
def PA(X:Cx)(es:List Expr)(t:TA):Prop :=
 ∀(pos:Pos)(pins:List (Addr×Obj))(s:Shared)(σ:St)(H:Hp)(Q:List V->Hp->Prop),Inv X pins σ H s->t σ H Q->wpAny (model X.prog X.w) X.A (spliced (backTo pos (starEach es X.env))) (AP X pins σ Q) X.xe s
def PS(X:Cx)(st:Stmt)(t:TS):Prop :=
 ∀(pins:List (Addr×Obj))(s:Shared)(σ:St)(H:Hp)(D:Zg),Inv X pins σ H s->t D σ H->wpAny (model X.prog X.w) X.A (exec st X.env) (SP X pins D) X.xe s
def PSs(X:Cx)(st:List Stmt)(t:TS):Prop :=
 ∀(pins:List (Addr×Obj))(s:Shared)(σ:St)(H:Hp)(D:Zg),Inv X pins σ H s->t D σ H->wpAny (model X.prog X.w) X.A (execs st X.env) (SP X pins D) X.xe s
def thn{q:Type}{t:Sem q}{Q g:q->Shared->Prop}{M:Model}{A:Around}{E:Value->Shared->Prop}{s:Shared}(h:wpAny M A t Q E s)(B:∀a s,Q a s->g a s):wpAny M A t g E s:=Ba h B fun _ _ x=>x
section
variable {X:Cx}
def bin{a b:Expr}{ta tb:TE}(J:PE X a ta)(L:PE X b tb){pins:List (Addr×Obj)}{s:Shared}{σ:St}{H:Hp}{R:V->V->Hp->Prop}(I:Inv X pins σ H s)(h:ta σ H fun x H1=>tb σ H1 fun y H2=>R x y H2){q:Type}{Q:q->Shared->Prop}{f:Value->Value->Sem q}(M:∀v u g x y H2,Inv X pins σ H2 g->RelV x v->RelV y u->R x y H2->wpAny (model X.prog X.w) X.A (f v u) Q X.xe g):
  wpAny (model X.prog X.w) X.A (eval a X.env) (fun v Z=>wpAny (model X.prog X.w) X.A (eval b X.env) (fun u aa=>wpAny (model X.prog X.w) X.A (f v u) Q X.xe aa) X.xe Z) X.xe s:=by
 refine thn (J pins s σ H _ I h) fun v Y ⟨x,H1,B,S,N⟩=>?_;refine thn (L pins Y σ H1 _ B N) fun u g ⟨y,H2,D,U,O⟩=>?_;exact M v u g x y H2 D S U O
inductive Rw(i:Nat)(σ:St)(H:Hp)(Q:VK):Prop
 |mk(v:V)(h:σ[i]?=some (some v))(q:Q v H)
def tVar(i:Nat):TE:=fun σ H Q=>Rw i σ H Q
def tC(v:V):TE:=fun _ H Q=>Q v H
def Vc{i:Nat}{x:Str}{pos:Pos}(L:X.N[i]?=some x)(U:Vis X.env.scope x)(B:(x==("__debug__" : Str))=false:=by decide)(M:(x==("__classdict__" : Str))=false:=by decide):PE X (.Name x pos) (tVar i):=by
 intro pins s σ H Q I h;obtain⟨v,e,h⟩:=h;obtain⟨m,S,N⟩:=I.loc;obtain⟨u,r,l⟩:=N i x v L e U;have q:EP X pins σ Q u s:=⟨v,H,I,r,h⟩
 rcases l with ⟨g,O⟩ | ⟨g,c,D,J⟩
 .exact wpAny_Name (wpAny_loadName_local I.ok.kind g S O q) B
 .rcases g with g | g
  .exact wpAny_Name (wpAny_loadName_cell I.ok.kind g D J q) B
  .exact wpAny_Name (wpAny_loadName_free I.ok.kind g D J q M) B
def Vf{i j pos}:PE X (.Constant (.int i) j pos) (tC (.int i)):=fun _ _ _ H _ I h=>wpAny_Constant_int ⟨.int i,H,I.tok _,⟨_,rfl⟩,h⟩
def pe_bl{b j pos}:PE X (.Constant (.bool b) j pos) (tC (.bl b)):=fun _ _ _ H _ I h=>Constant_bool ⟨.bl b,H,I,rfl,h⟩
def pe_non{j pos}:PE X (.Constant .none j pos) (tC .non):=fun _ _ _ H _ I h=>Constant_none ⟨.non,H,I,rfl,h⟩
def pe_str{x j pos}:PE X (.Constant (.str x) j pos) (tC (.str x)):=fun _ _ _ H _ I h=>Calls.Constant_str ⟨.str x,H,I.tok _,⟨_,rfl⟩,h⟩
def Gl(X:Cx)(x:Str):Prop:=X.env.kindOf x=some .globalImplicit
def dH{E:Value->Shared->Prop}{pins:List (Addr×Obj)}{s:Shared}{σ:St}{H:Hp}{x:Str}{u:Value}{pos:Pos}{Q:Value->Shared->Prop}(I:Inv X pins σ H s)(q:Gl X x)(B:X.mg x=some u)(h:Q u s)(g:(x==("__debug__" : Str))=false:=by decide):wpAny (model X.prog X.w) X.A (eval (.Name x pos) X.env) Q E s :=
 Calls.Name_function_global I.ok.kind q (Calls.loadGlobal_global (by rw[I.ok.glob];exact I.mod.glob.keeps I.bk) B h) g
def rL{E:Value->Shared->Prop}{pins:List (Addr×Obj)}{s:Shared}{σ:St}{H:Hp}{x:Str}{u:Value}{pos:Pos}{Q:Value->Shared->Prop}(I:Inv X pins σ H s)(q:Gl X x)(B:X.mg x=none)(J:bootBuiltins x=some u)(h:Q u s)(D:x ≠ "__name__":=by decide)(g:(x==("__debug__" : Str))=false:=by decide):wpAny (model X.prog X.w) X.A (eval (.Name x pos) X.env) Q E s:=by
 obtain⟨L,h1,h2⟩:=I.mod.blt;exact Calls.Name_function_global I.ok.kind q (Calls.loadGlobal_builtin (by rw[I.ok.glob];exact I.mod.glob.keeps I.bk) B (by rw[I.ok.blt];exact h1.keeps I.bk) ((h2 x D).trans J) h) g
def pe_glob{x:Str}{v:V}{u:Value}{pos:Pos}(q:Gl X x)(B:X.mg x=some u)(r:RelV v u)(g:(x==("__debug__" : Str))=false:=by decide):PE X (.Name x pos) (tC v) :=
 fun _ _ _ H _ I h=>dH I q B ⟨v,H,I,r,h⟩ g
def pe_bltn{x:Str}{v:V}{u:Value}{pos:Pos}(q:Gl X x)(B:X.mg x=none)(J:bootBuiltins x=some u)(r:RelV v u)(D:x ≠ "__name__":=by decide)(g:(x==("__debug__" : Str))=false:=by decide):PE X (.Name x pos) (tC v) :=
 fun _ _ _ H _ I h=>rL I q B J ⟨v,H,I,r,h⟩ D g
variable {a b:Expr}{ta tb:TE}{pos:Pos}
inductive Sq(Q:Bool->Hp->Prop)(x:V)(H:Hp):Prop
 |mk(c:Bool)(h:x=.bl c)(q:Q c H)
def tB(t:TE):TT:=fun σ H Q=>t σ H (Sq Q)
def pt_val{e:Expr}{t:TE}(h:PE X e t)(D:∀g,isTrue e X.env g=(do let v <- g;standAt e.pos;holding [v] (truthy v)):=by intro _;rfl):PT X e (tB t):=by
 intro pins s σ H Q I J;refine isTrue_plain (thn (h pins s σ H _ I J) fun v N ⟨x,H1,B,M,L⟩=>?_) (D _);obtain⟨d,rfl,q⟩:=L;cases M;exact Aw ⟨H1,B,q⟩
variable {tA tB':TT}{rest:List Expr}
def tAnd(t u:TT):TT:=fun σ H Q=>t σ H fun c H1=>if c=true then u σ H1 Q else Q false H1
def tOr(t u:TT):TT:=fun σ H Q=>t σ H fun c H1=>if c=true then Q true H1 else u σ H1 Q
def tNot(t:TT):TT:=fun σ H Q=>t σ H fun c H1=>Q (!c) H1
def pw_and1(g:PT X a tA):PW X (.BoolOp .And [a] pos) tA:=by
 intro B pins s σ H Q I h;refine isTrue_and (thn (g pins s σ H Q I h) fun c q e=>?_)
 cases c with
 |true=>exact isTrue_and_nil e
 |false=>exact e
def pw_or1(g:PT X a tA):PW X (.BoolOp .Or [a] pos) tA:=by
 intro B pins s σ H Q I h;refine isTrue_or (thn (g pins s σ H Q I h) fun c q e=>?_)
 cases c with
 |false=>exact isTrue_or_nil e
 |true=>exact e
def pw_and(B:PT X a tA)(D:PW X (.BoolOp .And (b::rest) pos) tB'):PW X (.BoolOp .And (a::b::rest) pos) (tAnd tA tB'):=by
 intro L pins s σ H Q I h;refine isTrue_and (thn (B pins s σ H _ I h) fun c J ⟨H1,g,q⟩=>?_)
 cases c with
 |true=>exact D L pins J σ H1 Q g q
 |false=>exact⟨H1,g,q⟩
def pw_or(B:PT X a tA)(D:PW X (.BoolOp .Or (b::rest) pos) tB'):PW X (.BoolOp .Or (a::b::rest) pos) (tOr tA tB'):=by
 intro L pins s σ H Q I h;refine isTrue_or (thn (B pins s σ H _ I h) fun c J ⟨H1,g,q⟩=>?_)
 cases c with
 |true=>exact⟨H1,g,q⟩
 |false=>exact D L pins J σ H1 Q g q
def pt_not(g:PT X a tA):PT X (.UnaryOp .Not a pos) (tNot tA):=by
 intro pins s σ H Q I h;exact isTrue_not (g pins s σ H (fun c H1=>Q (!c) H1) I h)
def tAndV(ta tb:TE):TE:=fun σ H Q=>ta σ H fun x H1=>∃c,x=.bl c/\if c=true then tb σ H1 Q else Q (.bl false) H1
def tOrV(ta tb:TE):TE:=fun σ H Q=>ta σ H fun x H1=>∃c,x=.bl c/\if c=true then Q (.bl true) H1 else tb σ H1 Q
def tNotV(ta:TE):TE:=fun σ H Q=>ta σ H fun x H1=>∃c,x=.bl c/\Q (.bl (!c)) H1
def pe_one{op}{t:TE}(h:PE X a t):PE X (.BoolOp op [a] pos) t:=fun pins s σ H Q I g=>BoolOp_one (h pins s σ H Q I g)
def pe_and(B:PE X a ta)(D:PE X (.BoolOp .And (b::rest) pos) tb):PE X (.BoolOp .And (a::b::rest) pos) (tAndV ta tb):=by
 intro pins s σ H Q I h;refine BoolOp_and (thn (B pins s σ H _ I h) fun v L ⟨x,H1,q,J,g⟩=>?_);obtain⟨c,rfl,g⟩:=g;cases J;refine Aw ?_
 cases c with
 |true=>exact D pins L σ H1 Q q g
 |false=>exact⟨.bl false,H1,q,rfl,g⟩
def pe_or(B:PE X a ta)(D:PE X (.BoolOp .Or (b::rest) pos) tb):PE X (.BoolOp .Or (a::b::rest) pos) (tOrV ta tb):=by
 intro pins s σ H Q I h;refine BoolOp_or (thn (B pins s σ H _ I h) fun v L ⟨x,H1,q,J,g⟩=>?_);obtain⟨c,rfl,g⟩:=g;cases J;refine Aw ?_
 cases c with
 |false=>exact D pins L σ H1 Q q g
 |true=>exact⟨.bl true,H1,q,rfl,g⟩
def pe_not(B:PE X a ta):PE X (.UnaryOp .Not a pos) (tNotV ta):=by
 intro pins s σ H Q I h;refine UnaryOp_ (thn (B pins s σ H _ I h) fun v J ⟨x,H1,q,D,g⟩=>?_);obtain⟨c,rfl,g⟩:=g;cases D;exact not_of (Aw ⟨.bl (!c),H1,q,rfl,g⟩)
def tIf(t:TT)(ta tb:TE):TE:=fun σ H Q=>t σ H fun c H1=>if c=true then ta σ H1 Q else tb σ H1 Q
def Vg{c:Expr}(L:PT X c tA)(D:PE X a ta)(J:PE X b tb):PE X (.IfExp c a b pos) (tIf tA ta tb):=by
 intro pins s σ H Q I h;refine wpAny_IfExp (thn (L pins s σ H _ I h) fun d B ⟨H1,g,q⟩=>?_)
 cases d with
 |true=>exact D pins B σ H1 Q g q
 |false=>exact J pins B σ H1 Q g q
end
def SqL(K:DD)(H:Hp)(a:Addr)(xs:List V):Prop :=
 Rd H a (.lst xs) \/
  ∃(o:Obj)(its:Array Value)(n:Nat),K.lookup a=some o/\o.cls=.type "list"/\o.dict=none/\o.data=.seq its n/\its.size<=sizeLine/\Vals xs its.toList
def SqT(K:DD)(H:Hp)(a:Addr)(xs:List V):Prop :=
 Rd H a (.tup xs) \/
  ∃(o:Obj)(its:Array Value)(n:Nat),K.lookup a=some o/\o.cls=.type "tuple"/\o.data=.seq its n/\its.size<=sizeLine/\Vals xs its.toList
def absV:Value->Option V
 |.none=>some .non
 |.bool b=>some (.bl b)
 |.int i _=>some (.int i)
 |.str x _=>some (.str x)
 |.bytes b _=>some (.byt b)
 |.float b _=>some (.flt b)
 |.ref a=>some (.ref a)
 |.type n=>some (.ty n)
 |_=>none
def RelV.abs{x:V}{u:Value}(r:RelV x u):absV u=some x:=by
 cases x with
 |non=>cases r;rfl
 |bl _=>cases r;rfl
 |int _=>obtain⟨t,rfl⟩:=r;rfl
 |str _=>obtain⟨t,rfl⟩:=r;rfl
 |byt _=>obtain⟨t,rfl⟩:=r;rfl
 |flt _=>obtain⟨t,rfl⟩:=r;rfl
 |ref _=>cases r;rfl
 |ty _=>cases r;rfl
def RelV.inj{x y:V}{u:Value}(r:RelV x u)(q:RelV y u):x=y:=An (r.abs.symm.trans q.abs)
theorem Vals.inj:∀{xs ys:List V}{us:List Value},Vals xs us->Vals ys us->xs=ys
 |_,_,_,.nil,.nil=>rfl
 |_,_,_,.cons r t,.cons g t'=>by rw[r.inj g,Vals.inj t t']
section
variable {X:Cx}{pins:List (Addr×Obj)}{σ:St}{H:Hp}{s:Shared}{a:Addr}{xs ys:List V}
def SqL.of{K:DD}(h:H a=some (.lst xs)):SqL K H a xs:=.inl (.inl h)
def SqT.of{K:DD}(h:H a=some (.tup xs)):SqT K H a xs:=.inl (.inl h)
def Inv.list(I:Inv X pins σ H s)(h:SqL X.K H a xs):∃its:List Value,Vals xs its/\PlainL s.heap a its.toArray/\xs.length<=sizeLine:=by
 rcases h with h | ⟨o,its,n,B,g,q,hs,hz,r⟩
 .obtain ⟨z,its,n,r,e⟩:=h.ok I.hok
  exact⟨its,r,⟨_,n,e,rfl,rfl,rfl⟩,z⟩
 .refine ⟨its.toList,r,⟨o,n,I.kIn a o B,g,q,by simpa using hs⟩,?_⟩
  have e:=r.length
  simp only[Array.length_toList] at e
  omega
def Inv.tuple(I:Inv X pins σ H s)(h:SqT X.K H a xs):∃its:List Value,Vals xs its/\IsTup s.heap a its.toArray/\xs.length<=sizeLine:=by
 rcases h with h | ⟨o,its,n,q,g,hs,hz,r⟩
 .obtain ⟨z,its,r,p⟩:=h.ok I.hok
  exact⟨its,r,j8.is p,z⟩
 .refine ⟨its.toList,r,⟨o,I.kIn a o q,g,n,by simpa using hs⟩,?_⟩
  have e:=r.length
  simp only[Array.length_toList] at e
  omega
def Inv.list_inj(I:Inv X pins σ H s)(h:SqL X.K H a xs)(h':SqL X.K H a ys):xs=ys:=by
 obtain⟨its,r,⟨o,n,e,_,_,d⟩,_⟩:=I.list h;obtain⟨its',q,⟨o',B,g,_,_,d'⟩,_⟩:=I.list h';rw[e] at g;cases g
 rw[d] at d';injection d' with d1 _
 have:its=its':=by simpa using A3 Array.toList d1
 subst this;exact r.inj q
def Inv.tuple_inj(I:Inv X pins σ H s)(h:SqT X.K H a xs)(h':SqT X.K H a ys):xs=ys:=by
 obtain⟨its,r,⟨o,e,_,n,d⟩,_⟩:=I.tuple h;obtain⟨its',q,⟨o',g,_,B,d'⟩,_⟩:=I.tuple h';rw[e] at g;cases g
 rw[d] at d';injection d' with d1 _
 have:its=its':=by simpa using A3 Array.toList d1
 subst this;exact r.inj q
end
abbrev Cx.wish(X:Cx)(E:Value->Shared->Prop):Cx:={ X with xe:=E }
abbrev Cx.nox(X:Cx):Cx:=X.wish fun _ _=>False
def Cx.Ok.wish{X:Cx}(g:X.Ok)(E:Value->Shared->Prop):(X.wish E).Ok :=
 ⟨g.mod,g.kind,g.glob,g.blt,g.above,g.inj,g.has,g.cab,g.hd,g.frames,g.stk,g.exf,g.bs,g.bsz,g.noex,g.exfs,g.funs,g.frf⟩
def Cx.Ok.unwish{X:Cx}{E:Value->Shared->Prop}(g:(X.wish E).Ok):X.Ok :=
 ⟨g.mod,g.kind,g.glob,g.blt,g.above,g.inj,g.has,g.cab,g.hd,g.frames,g.stk,g.exf,g.bs,g.bsz,g.noex,g.exfs,g.funs,g.frf⟩
section
variable {X:Cx}{pins:List (Addr×Obj)}{σ:St}{H:Hp}{s:Shared}{E:Value->Shared->Prop}
def Inv.wish(I:Inv X pins σ H s)(E:Value->Shared->Prop):Inv (X.wish E) pins σ H s:=⟨I.ok.wish E,I.os,I.bare,I.base,I.loc,I.cell,I.free,I.freeC,I.pin,I.hok,I.len⟩
def Inv.unwish(I:Inv (X.wish E) pins σ H s):Inv X pins σ H s:=⟨I.ok.unwish,I.os,I.bare,I.base,I.loc,I.cell,I.free,I.freeC,I.pin,I.hok,I.len⟩
def SP.unwish{D:Zg}{f:Flow}{s':Shared}(h:SP (X.wish E) pins D f s'):SP X pins D f s':=by
 cases f with
 |next=>obtain⟨g,H',I,q⟩:=h;exact⟨g,H',I.unwish,q⟩
 |brk=>obtain⟨g,H',I,q⟩:=h;exact⟨g,H',I.unwish,q⟩
 |cont=>obtain⟨g,H',I,q⟩:=h;exact⟨g,H',I.unwish,q⟩
 |ret u=>obtain⟨v,g,H',I,r,q⟩:=h;exact⟨v,g,H',I.unwish,r,q⟩
def PSs.nox{st:List Stmt}{t:TS}(h:PSs X.nox st t):PSs X st t:=fun pins s σ H D I g=>
 Ba (h pins s σ H D (I.wish _) g) (fun _ _ q=>q.unwish) fun _ _ z=>False.elim z
end
section
variable {X:Cx}{st:Stmt}{rest:List Stmt}{t u:TS}{e:Expr}{te:TE}{pos:Pos}
def tNext:TS:=fun D σ H=>D.nx σ H
def tSeq(t u:TS):TS:=fun D σ H=>t { D with nx:=u D } σ H
def pss_nil:PSs X [] tNext:=fun _ _ σ H _ I h=>Cu ⟨σ,H,I,h⟩
def K3(h1:PS X st t)(h2:PSs X rest u):PSs X (st::rest) (tSeq t u):=by
 intro pins s σ H D I h;refine wpAny_execs_cons (thn (h1 pins s σ H { D with nx:=u D } I h) fun f B q=>?_)
 cases f with
 |next =>
  obtain⟨J,H',g,q⟩:=q;exact h2 pins B J H' D g q
 |ret v=>exact q
 |brk=>exact q
 |cont=>exact q
def pss_one(h1:PS X st t):PSs X [st] t:=by
 intro pins s σ H D I h;refine wpAny_execs_cons (thn (h1 pins s σ H D I h) fun f g q=>?_)
 cases f with
 |next=>exact Cu q
 |ret v=>exact q
 |brk=>exact q
 |cont=>exact q
def Inv.quiet{pins:List (Addr×Obj)}{σ:St}{H:Hp}{s:Shared}(I:Inv X pins σ H s):interactive X.env=false:=by simp[interactive,I.ok.kind]
def tDrop(te:TE):TS:=fun D σ H=>te σ H fun _ H1=>D.nx σ H1
def ps_expr(q:PE X e te)(hs:swapsWith e none pos.line X.env=pure false:=by rfl):PS X (.Expr e pos) (tDrop te):=by
 intro pins s σ H D I h;exact wpAny_Expr_any (thn (q pins s σ H _ I h) fun v L ⟨x,H1,g,J,B⟩=>⟨σ,H1,g,B⟩) I.quiet hs
def tRet(te:TE):TS:=fun D σ H=>te σ H D.rt
def ps_ret(q:PE X e te):PS X (.Return (some e) pos) (tRet te):=by
 intro pins s σ H D I h;exact wpAny_Return_some (thn (q pins s σ H _ I h) fun v L ⟨x,H1,g,J,B⟩=>⟨x,σ,H1,g,J,B⟩)
def tIfS(c:TT)(t u:TS):TS:=fun D σ H=>c σ H fun b H1=>if b=true then t D σ H1 else u D σ H1
def ps_if{c:Expr}{a b:List Stmt}{tc:TT}(M:PT X c tc)(J:PSs X a t)(L:PSs X b u):PS X (.If c a b pos) (tIfS tc t u):=by
 intro pins s σ H D I h;refine wpAny_If (thn (M pins s σ H _ I h) fun d B ⟨H1,g,q⟩=>?_)
 cases d with
 |true=>exact J pins B σ H1 D g q
 |false=>exact L pins B σ H1 D g q
end
abbrev TG:=V->St->Hp->(St->Hp->Prop)->Prop
abbrev TGs:=List V->St->Hp->(St->Hp->Prop)->Prop
def PG(X:Cx)(q:Expr)(t:TG):Prop :=
 ∀(pins:List (Addr×Obj))(s:Shared)(σ:St)(H:Hp)(v:V)(u:Value)(Q:St->Hp->Prop),Inv X pins σ H s->RelV v u->t v σ H Q ->
  wpAny (model X.prog X.w) X.A (assign q X.env u) (fun _ s'=>∃g H',Inv X pins g H' s'/\Q g H') X.xe s
def PGs(X:Cx)(ts:List Expr)(t:TGs):Prop :=
 ∀(pins:List (Addr×Obj))(s:Shared)(σ:St)(H:Hp)(vs:List V)(us:List Value)(Q:St->Hp->Prop),Inv X pins σ H s->Vals vs us->t vs σ H Q ->
  wpAny (model X.prog X.w) X.A (assignInOrder ((assignEach ts X.env).map (·.2)) us) (fun _ s'=>∃g H',Inv X pins g H' s'/\Q g H') X.xe s
abbrev TSet:=V->V->V->Hp->(Hp->Prop)->Prop
def PSet(X:Cx)(t:TSet):Prop :=
 ∀(pins:List (Addr×Obj))(s:Shared)(σ:St)(H:Hp)(o i v:V)(q g u:Value)(Q:Hp->Prop),Inv X pins σ H s->RelV o q->RelV i g->RelV v u->t o i v H Q ->
  wpAny (model X.prog X.w) X.A (setItem q g u) (fun _ s'=>∃H',Inv X pins σ H' s'/\Q H') X.xe s
abbrev TIp:=V->V->Hp->VK->Prop
def PIp(X:Cx)(op:Operator)(t:TIp):Prop :=
 ∀(pins:List (Addr×Obj))(s:Shared)(σ:St)(H:Hp)(x y:V)(v u:Value)(Q:VK),Inv X pins σ H s->RelV x v->RelV y u->t x y H Q ->
  wpAny (model X.prog X.w) X.A (inplaceOp op v u) (EP X pins σ Q) X.xe s
section
variable {X:Cx}{pos:Pos}
def fB(i:Nat):TG:=fun v σ H Q=>Q (σ.set i (some v)) H
def mD{i:Nat}{x:Str}(q:X.N.Nodup)(hi:X.N[i]?=some x)(D:Loc X.env.scope x)(B:X.fn x=true\/X.env.scope.names.lookup x=some .local:=by first | exact .inl rfl | exact .inr rfl | assumption):PG X (.Name x pos) (fB i):=by
 intro pins s σ H v u Q I r h;exact wpAny_assign_Name (uN I q hi D r (fun s' g=>⟨_,H,g,h⟩) B)
def gNil:TGs:=fun vs σ H Q=>vs=[]/\Q σ H
def fP(t:TG)(u:TGs):TGs:=fun vs σ H Q=>∃v r,vs=v::r/\t v σ H fun g H'=>u r g H' Q
def Zu:PGs X [] gNil:=by
 intro pins s σ H vs us Q I r h;obtain⟨e,h⟩:=h;subst e;cases r;exact assignInOrder_nil ⟨σ,H,I,h⟩
def qC{e:Expr}{es:List Expr}{t:TG}{u:TGs}(h1:PG X e t)(h2:PGs X es u)(hs:(assignEach (e::es) X.env).map (·.2)=assign e X.env::(assignEach es X.env).map (·.2):=by rfl):PGs X (e::es) (fP t u):=by
 intro pins s σ H vs us Q I r h;obtain⟨v,M,q,h⟩:=h;subst q
 cases r with
 |cons r D =>
  rw[hs];refine assignInOrder_cons (thn (h1 pins s σ H _ _ _ I r h) fun _ J ⟨L,H1,g,B⟩=>?_);exact h2 pins J L H1 _ _ Q g D B
def gTup(K:DD)(n:Nat)(t:TGs):TG:=fun v σ H Q=>∃a xs,v=.ref a/\SqT K H a xs/\xs.length=n/\t xs σ H Q
def Vb{es:List Expr}{k:Nat}{t:TGs}{n:Nat}(J:X.calm=true)(h:PGs X es t)(M:(assignEach es X.env).length=n:=by rfl)(O:(assignEach es X.env).findIdx? (·.1)=none:=by rfl):PG X (.Tuple es k pos) (gTup X.K n t):=by
 intro pins s σ H v u Q I r g;obtain⟨a,xs,D,N,L,g⟩:=g;subst D;cases r;obtain⟨its,q,S,hz⟩:=I.tuple N;refine assign_Tuple_tuple (I.ok.hd J) S (by simp[M,<- L,q.length]) O fun h' U=>?_;have B:Inv X pins σ H { s with heap:=h' }:=I.kept (t':=s.toks) fun b o e=>U b o (Av (Aa e)) e;exact h pins _ σ H xs _ Q B (by simpa using q) g
def gSub(to q:TE)(t:TSet):TG:=fun v σ H Q=>to σ H fun o H1=>q σ H1 fun i H2=>t o i v H2 fun g=>Q σ g
def pg_sub{o i:Expr}{to B:TE}{t:TSet}(O:PE X o to)(hi:PE X i B)(hs:PSet X t)(N:∀v,assign (.Subscript o i pos) X.env v=(do
   let g <- holding [v] (eval o X.env)
   let q <- holding [v,g] (eval i X.env)
   standAt pos
   holding [v,g,q] (setItem g q v)
   release [v,g,q] []):=by intro _;rfl):PG X (.Subscript o i pos) (gSub to B t):=by
 intro pins s σ H v u Q I r h;rw[N];refine AC (BE (thn (O pins s σ H _ I h) fun g aa ⟨x,H1,J,Z,S⟩=>?_));refine AC (BE (thn (hi pins aa σ H1 _ J S) fun q ab ⟨y,H2,L,r2,U⟩=>?_));refine AC (wpAny_standAt (AC (BE (thn (hs pins ab σ H2 x y v g q u _ L Z r2 r U) fun _ ae ⟨D,M,Y⟩=>?_))));exact wpAny_release ⟨σ,D,M,Y⟩
def tAsg(te:TE)(g:TG):TS:=fun D σ H=>te σ H fun x H1=>g x σ H1 D.nx
def ps_asg{tg e:Expr}{te:TE}{g:TG}(J:PE X e te)(L:PG X tg g)(hs:swapsWithSole [tg] e pos.line X.env=pure false:=by rfl)(M:swappedStores [tg] e X.env=pure none:=by rfl)(h1:(assignEach [tg] X.env).map (·.2)=[assign tg X.env]:=by rfl):PS X (.Assign [tg] e pos) (tAsg te g):=by
 intro pins s σ H D I h;refine wpAny_Assign_stores (thn (J pins s σ H _ I h) fun v S ⟨x,H1,B,O,N⟩=>?_) hs M;rw[h1];exact thn (L pins S σ H1 x v _ B O N) fun _ U q=>q
def ps_set{i:Nat}{x:Str}{e:Expr}{te:TE}{pos':Pos}(B:X.N.Nodup)(hi:X.N[i]?=some x)(M:Loc X.env.scope x)(J:PE X e te)(hs:swapsWith e (some (.Name x pos')) pos.line X.env=pure false:=by rfl)(L:X.fn x=true\/X.env.scope.names.lookup x=some .local:=by first | exact .inl rfl | exact .inr rfl | assumption):
  PS X (.Assign [.Name x pos'] e pos) (tAsg te (fB i)):=by
 intro pins s σ H D I h;refine wpAny_Assign_Name (thn (J pins s σ H _ I h) fun v S ⟨y,H1,g,O,N⟩=>?_) hs;exact uN g B hi M O (fun U q=>⟨_,H1,q,N⟩) L
def tAug(i:Nat)(te:TE)(g:TIp):TS:=fun D σ H=>∃x,σ[i]?=some (some x)/\te σ H fun y H1=>g x y H1 fun z H2=>D.nx (σ.set i (some z)) H2
def ps_aug{i:Nat}{x:Str}{e:Expr}{te:TE}{op:Operator}{J:TIp}{pos':Pos}(S:X.N.Nodup)(hi:X.N[i]?=some x)(q:Loc X.env.scope x)(Z:PE X e te)(ho:PIp X op J)(aa:X.fn x=true\/X.env.scope.names.lookup x=some .local:=by first | exact .inl rfl | exact .inr rfl | assumption):
  PS X (.AugAssign (.Name x pos') op e pos) (tAug i te J):=by
 intro pins s σ H D I h;obtain⟨v,O,h⟩:=h;obtain⟨m,hn,hl⟩:=I.loc;have ah:Vis X.env.scope x:=by rcases q with k | k;exact .inl k;exact .inr (.inl k)
 obtain⟨u,r,l⟩:=hl i x v hi O ah;refine wpAny_AugAssign_Name ?_
 have B:wpAny (model X.prog X.w) X.A (eval e X.env) (fun w af=>wpAny (model X.prog X.w) X.A (inplaceOp op u w) (fun r ag=>wpAny (model X.prog X.w) X.A (storeName X.env x r) (fun _=>SP X pins D .next) X.xe ag) X.xe af) X.xe s:=by
  refine thn (Z pins s σ H _ I h) fun w ae ⟨y,H1,L,r1,q1⟩=>?_;refine thn (ho pins ae σ H1 v y u w _ L r r1 q1) fun z ai ⟨zv,H2,M,r2,q2⟩=>?_;exact uN M S hi q r2 (fun aj N=>⟨_,H2,N,q2⟩) aa
 rcases l with ⟨g,ab⟩ | ⟨g,c,U,Y⟩
 .exact wpAny_loadName_local I.ok.kind g hn ab B
 .rcases g with g | g
  .exact wpAny_loadName_cell I.ok.kind g U Y B
  .rcases q with k | k
   .have:X.env.scope.names.lookup x=some .free:=g
    rw[k] at this;cases this
   .have:X.env.scope.names.lookup x=some .free:=g
    rw[k] at this;cases this
def tWhile(c:TT)(tb:TS):TS:=fun D σ H=>∃W:Nat->St->Hp->Prop,(∃m,W m σ H)/\∀m σ H,W m σ H ->
 c σ H fun b H1=>if b=true then ∃N:St->Hp->Prop,(∀q H',N q H'->∃g,g < m/\W g q H')/\tb { D with nx:=N,ct:=N,bk:=D.nx } σ H1 else D.nx σ H1
def K4{c:Expr}{Y:List Stmt}{tc:TT}{tb:TS}(hp:PassesOwn (model X.prog X.w) X.A X.env X.xe)(hc:PT X c tc)(hb:PSs X Y tb):PS X (.While c Y [] pos) (tWhile tc tb):=by
 intro pins s σ H ai ab h;obtain⟨W,⟨ae,w0⟩,ah⟩:=h;refine wpAny_While (codeAny_whileLoop (fun n s'=>∃aa H',Inv X pins aa H' s'/\W n aa H') ?_ ae ⟨σ,H,ab,w0⟩);rintro n af ⟨I,H1,I1,w1⟩;refine Bm hp (thn (hc pins af I H1 _ I1 (ah n I H1 w1)) fun b ag ⟨H2,U,B⟩=>?_)
 cases b with
 |true =>
  obtain⟨N,Z,B⟩:=B;rw[Al rfl];refine Bm hp (thn (hb pins ag I H2 _ U B) fun f aj D=>?_)
  cases f with
  |next =>
   obtain⟨q,g,J,O⟩:=D;obtain⟨M,L,S⟩:=Z q g O;exact⟨M,L,q,g,J,S⟩
  |cont =>
   obtain⟨q,g,J,O⟩:=D;obtain⟨M,L,S⟩:=Z q g O;exact⟨M,L,q,g,J,S⟩
  |brk=>exact D
  |ret v=>exact D
 |false =>
  rw[Am AU];exact Cu ⟨I,H2,U,B⟩
end
structure It where
 go:Nat->Hp->Prop
 yld:Nat->Hp->V->Hp->Prop
 stop:Nat->Hp->Prop
def mI(X:Cx)(pins:List (Addr×Obj))(H:Hp)(b:Addr):Prop :=
 H b=none/\b≠X.env.locals/\b∉X.fs/\(b∈X.ex\/X.s₀.heap.objs.size<=b)/\(∀x c,X.env.cells.lookup x=some c->c≠b)/\∀p∈X.pn++pins,p.1≠b
def Inv.fpOk{X:Cx}{pins:List (Addr×Obj)}{σ:St}{H H':Hp}{s:Shared}{b:Addr}(I:Inv X pins σ H s)(g:s.heap.objs.size<=b)(B:H' b=none):mI X pins H' b:=by
 refine⟨B,Nat.ne_of_gt (AK I.lt g),I.nofs g,.inr (AR I.sz g),fun x c e z=>?_,fun p D z=>?_⟩
 .obtain ⟨v,q⟩:=I.cell x c e
  exact absurd (AK q.lt (by rw[z];exact g)) (BM _)
 .exact absurd (AK (Aa (I.pin p D).1) (by rw[z];exact g)) (BM _)
structure Xb(P:Program)(w:World)(K:DD)(tg:Expr)(J:It)(fp:List Addr)(it:Addr)(tn:Nat->Heap->Prop):Prop where
 mem:it∈fp
 obj:∀i h,tn i h->∀b∈fp,∃o,h.get? b=some o/\∀v,o.data≠.cell v
 keep:∀i h h',tn i h->(∀b∈fp,∀o,h.get? b=some o->h'.get? b=some o)->tn i h'
 item:∀(X:Cx),X.prog=P->X.w=w->X.K=K->X.calm=true->∀(i:Nat)(pins:List (Addr×Obj))(s:Shared)(σ:St)(H:Hp)(E:Value->Shared->Prop),Inv X pins σ H s->(∀b∈fp,mI X pins H b)->tn i s.heap->J.go i H ->
  wpAny (model P w) X.A (pyNext (.ref it)) (fun r s1=>∃u,r=some u /\
   wpAny (model P w) X.A (letOwnedTupleGo tg (.ref it) u) (fun _ s2=>∃x H',Inv X pins σ H' s2/\RelV x u/\J.yld i H x H'/\tn (i+1) s2.heap/\∀b∈fp,H' b=none) E s1) E s
 done:∀(X:Cx),X.prog=P->X.w=w->X.K=K->X.calm=true->∀(i:Nat)(pins:List (Addr×Obj))(s:Shared)(σ:St)(H:Hp)(E:Value->Shared->Prop),Inv X pins σ H s->(∀b∈fp,mI X pins H b)->tn i s.heap->J.stop i H ->
  wpAny (model P w) X.A (pyNext (.ref it)) (fun r s1=>r=none/\Inv X pins σ H s1) E s
 self:∀(A:Around)(i:Nat)(s:Shared)(Q:Value->Shared->Prop)(E:Value->Shared->Prop),tn i s.heap->Q (.ref it) s->wpAny (model P w) A (pyIter (.ref it)) Q E s
abbrev TI:=St->Hp->(It->Hp->Prop)->Prop
def PIE(X:Cx)(pins:List (Addr×Obj))(σ:St)(tg:Expr)(R:It->Hp->Prop)(D:Value)(q:Shared):Prop :=
 ∃(it:Addr)(g:List Addr)(B:Nat->Heap->Prop)(J:It)(H':Hp),D=.ref it/\Inv X pins σ H' q/\Xb X.prog X.w X.K tg J g it B/\B 0 q.heap/\(∀b∈g,mI X pins H' b)/\R J H'
def PI(X:Cx)(tg g:Expr)(B:TI):Prop :=
 ∀(pins:List (Addr×Obj))(s:Shared)(σ:St)(H:Hp)(R:It->Hp->Prop),Inv X pins σ H s->B σ H R ->
  wpAny (model X.prog X.w) X.A (eval g X.env) (fun v q=>wpAny (model X.prog X.w) X.A (pyIter v) (PIE X pins σ tg R) X.xe q) X.xe s
def QF{M:Model}{A:Around}{E:Value->Shared->Prop}{s:Shared}{tg:Expr}{it:Addr}{u:Value}{o:Obj}{n:String}{vs:Array Value}{Q:Unit->Shared->Prop}(I:s.heap.get? it=some o)(q:o.cls=.type n)(B:o.data=.fields vs)(D:["enumerate","zip","dict_itemiterator","dict_reverseitemiterator","odict_iterator","itertools.zip_longest","itertools.pairwise"].contains n=false)(g:Q () s):wpAny M A (letOwnedTupleGo tg (.ref it) u) Q E s:=by
 unfold letOwnedTupleGo
 cases tg<;>first
  |exact AE g
  | (cases u<;>first
    |exact AE g
    | (refine AC (wpAny_load I ?_)
       rw[q,B];show wpAny M A (if (["enumerate","zip","dict_itemiterator","dict_reverseitemiterator","odict_iterator","itertools.zip_longest","itertools.pairwise"].contains n&&vs[0]?==some (rawInt _))=true then _ else _) Q E s;rw[Am (by intro h;rw[D,Bool.false_and] at h;cases h)]
       exact AE g))
def Itl(K:DD)(a:Addr):It :=
 ⟨fun i H=>∃xs x,SqL K H a xs/\xs[i]?=some x,fun i H x H'=>H'=H/\∀xs,SqL K H a xs->xs[i]?=some x,fun i H=>∃xs,SqL K H a xs/\xs.length<=i⟩
def Itt(K:DD)(a:Addr):It :=
 ⟨fun i H=>∃xs x,SqT K H a xs/\xs[i]?=some x,fun i H x H'=>H'=H/\∀xs,SqT K H a xs->xs[i]?=some x,fun i H=>∃xs,SqT K H a xs/\xs.length<=i⟩
def Itr(lo:Int)(n:Nat):It:=⟨fun i _=>i < n,fun i H x H'=>H'=H/\x=.int (lo+i),fun i _=>n<=i⟩
def Jf{P:Program}{w:World}{K:DD}{tg:Expr}(a it:Addr):Xb P w K tg (Itl K a) [it] it (fun i h=>h.IsListIter it a i) where
 mem:=by simp
 obj:=fun i h st b g=>by
  have e:b=it:=by simpa using g
  subst e;obtain⟨o,e,c,d⟩:=st;exact⟨o,e,fun v z=>by rw[d] at z;cases z⟩
 keep:=fun i h h' st k=>st.at fun o e=>k it (by simp) o e
 item:=by
  intro X S Y O hc i pins s σ H E I q st U;subst S Y O;obtain⟨xs,x,B,Z⟩:=U;obtain⟨its,rv,p,hz⟩:=I.list B;obtain⟨u,hu,ru⟩:=rv.get Z;obtain⟨D,J,ab,L,M,N⟩:=q it (by simp);refine wpAny_pyNext_list_item st p.isList (x:=u) (by simpa using hu) fun h' aa ae=>?_;have I1:Inv X pins σ H { s with heap:=h' }:=I.turned (t':=s.toks) (fun b o g e=>(ae.2 b g).trans e) D J L M N;obtain⟨o,e,c,d⟩:=id aa
  exact⟨u,rfl,QF (s:={ s with heap:=h' }) e c d (by decide) ⟨x,H,I1,ru,⟨rfl,fun ys hy=>by rw[I.list_inj hy B];exact Z⟩,aa,fun b g=>(q b g).1⟩⟩
 done:=by
  intro X S Y O hc i pins s σ H E I q st U;subst S Y O;obtain⟨xs,B,Z⟩:=U;obtain⟨its,rv,p,hz⟩:=I.list B;obtain⟨D,J,ab,L,M,N⟩:=q it (by simp);have hl:=rv.length;exact wpAny_pyNext_list_end (I.ok.hd hc) st p.isList (by simp;omega) fun h' eb=>⟨rfl,I.turned (t':=s.toks) (fun b o g e=>eb b o g e) D J L M N⟩
 self:=fun _ _ _ _ _ st h=>wpAny_pyIter_listiter st h
def Xn{P:Program}{w:World}{K:DD}{tg:Expr}(a it:Addr):Xb P w K tg (Itt K a) [it] it (fun i h=>h.IsTupleIter it a i) where
 mem:=by simp
 obj:=fun i h st b g=>by
  have e:b=it:=by simpa using g
  subst e;obtain⟨o,e,c,d⟩:=st;exact⟨o,e,fun v z=>by rw[d] at z;cases z⟩
 keep:=fun i h h' st k=>st.at fun o e=>k it (by simp) o e
 item:=by
  intro X S Y O hc i pins s σ H E I q st U;subst S Y O;obtain⟨xs,x,B,Z⟩:=U;obtain⟨its,rv,p,hz⟩:=I.tuple B;obtain⟨u,hu,ru⟩:=rv.get Z;obtain⟨D,J,ab,L,M,N⟩:=q it (by simp);refine wpAny_pyNext_tuple_item st (show s.heap.IsTuple a its.toArray from p) (x:=u) (by simpa using hu) fun h' aa ae=>?_;have I1:Inv X pins σ H { s with heap:=h' }:=I.turned (t':=s.toks) (fun b o g e=>(ae.2 b g).trans e) D J L M N
  obtain⟨o,e,c,d⟩:=id aa;exact⟨u,rfl,QF (s:={ s with heap:=h' }) e c d (by decide) ⟨x,H,I1,ru,⟨rfl,fun ys hy=>by rw[I.tuple_inj hy B];exact Z⟩,aa,fun b g=>(q b g).1⟩⟩
 done:=by
  intro X S Y O hc i pins s σ H E I q st U;subst S Y O;obtain⟨xs,B,Z⟩:=U;obtain⟨its,rv,p,hz⟩:=I.tuple B;obtain⟨D,J,ab,L,M,N⟩:=q it (by simp);have hl:=rv.length;exact wpAny_pyNext_tuple_end (I.ok.hd hc) st (show s.heap.IsTuple a its.toArray from p) (by simp;omega) fun h' eb=>⟨rfl,I.turned (t':=s.toks) (fun b o g e=>eb b o g e) D J L M N⟩
 self:=fun _ _ _ _ _ st h=>wpAny_pyIter_tupleiter st h
def Xo{P:Program}{w:World}{K:DD}{tg:Expr}(it:Addr)(lo:Int)(n:Nat):Xb P w K tg (Itr lo n) [it] it (fun i h=>IsRangeIter h it (lo+(i:Nat) * 1) ((n:Int) - (i:Nat)) 1) where
 mem:=by simp
 obj:=fun i h st b g=>by
  have e:b=it:=by simpa using g
  subst e
  exact⟨_,st,fun v z=>by
   have z':Data.fields _=Data.cell v:=z
   cases z'⟩
 keep:=fun i h h' st k=>k it (by simp) _ st
 item:=by
  intro X O Y N S i pins s σ H E I q st U;subst O Y N;obtain⟨B,D,ab,J,L,M⟩:=q it (by simp);have W:=Walks.range (prog:=X.prog) (w:=X.w) (I.ok.hd S) it lo 1 n;refine W.item i s _ _ U st fun v h' aa hv Z kk=>?_;obtain⟨t,rfl⟩:=hv;have I1:Inv X pins σ H { s with heap:=h',toks:=aa }:=I.turned (fun b o g e=>kk b o (by simpa using g) e) B D J L M;refine⟨_,rfl,QF (s:={ s with heap:=h',toks:=aa }) (n:="range_iterator") Z rfl rfl (by decide) ⟨.int (lo+i),H,I1,⟨t,?_⟩,⟨rfl,rfl⟩,Z,fun b g=>(q b g).1⟩⟩
  rw[Int.mul_one]
 done:=by
  intro X O Y N S i pins s σ H E I q st U;subst O Y N;obtain⟨B,D,ab,J,L,M⟩:=q it (by simp);exact wpAny_pyNext_range_end (I.ok.hd S) st (by have:n<=i:=U;omega) fun h' eb=>⟨rfl,I.turned (t':=s.toks) (fun b o g e=>eb b o g e) B D J L M⟩
 self:=fun _ _ _ _ _ st h=>wpAny_pyIter_rangeiter st h
section
variable {X:Cx}{tg:Expr}
def iList(K:DD)(tl:TE):TI:=fun σ H R=>tl σ H fun x H1=>∃a,x=.ref a/\(∃xs,SqL K H1 a xs)/\R (Itl K a) H1
def iTup(K:DD)(tl:TE):TI:=fun σ H R=>tl σ H fun x H1=>∃a,x=.ref a/\(∃xs,SqT K H1 a xs)/\R (Itt K a) H1
def Zt{l:Expr}{tl:TE}(J:PE X l tl):PI X tg l (iList X.K tl):=by
 intro pins s σ H R I h;refine thn (J pins s σ H _ I h) fun v B ⟨x,H1,g,N,M⟩=>?_;obtain⟨a,e,⟨xs,L⟩,q⟩:=M;subst e;cases N;obtain⟨its,O,p,hz⟩:=g.list L;refine wpAny_pyIter_list p.isList ?_;refine⟨B.heap.objs.size,[B.heap.objs.size],_,_,H1,rfl,g.kept (t':=B.toks) fun b o e=>AW _ e,Jf a _,⟨_,Ae _ rfl,rfl,rfl⟩,fun b D=>?_,q⟩;have e:b=B.heap.objs.size:=by simpa using D
 subst e;exact g.fpOk (AO _) (g.hok.fresh (AO _))
def Va{l:Expr}{tl:TE}(J:PE X l tl):PI X tg l (iTup X.K tl):=by
 intro pins s σ H R I h;refine thn (J pins s σ H _ I h) fun v g ⟨x,H1,B,N,M⟩=>?_;obtain⟨a,e,⟨xs,L⟩,q⟩:=M;subst e;cases N;obtain⟨its,O,p,hz⟩:=B.tuple L;refine wpAny_pyIter_tuple (show g.heap.IsTuple a its.toArray from p) ?_;refine⟨g.heap.objs.size,[g.heap.objs.size],_,_,H1,rfl,B.kept (t':=g.toks) fun b o e=>AW _ e,Xn a _,⟨_,Ae _ rfl,rfl,rfl⟩,fun b D=>?_,q⟩
 have e:b=g.heap.objs.size:=by simpa using D
 subst e;exact B.fpOk (AO _) (B.hok.fresh (AO _))
def KW{pins:List (Addr×Obj)}{σ:St}{H:Hp}{s:Shared}{R:It->Hp->Prop}{E:Value->Shared->Prop}{lo hi:Int}{t u v:Tok}{B:Nat}(I:Inv X pins σ H s)(h1 : -(2 ^ 62)<=lo)(h2:lo < 2 ^ 62)(L : -(2 ^ 62)<=hi)(M:hi < 2 ^ 62)(q:R (Itr lo (hi - lo).toNat) H):wpAny (model X.prog X.w) X.A (pyIter (.ref s.heap.objs.size)) (PIE X pins σ tg R) E { s with heap:=s.heap.push { cls:=.type "range",data:=.fields #[.int lo t,.int hi u,.int 1 v] },toks:=B }:=by
 refine wpAny_pyIter_range (IsRange.new ..) (small_one h1 h2 L M) ?_;have g:Inv X pins σ H { s with heap:=s.heap.push { cls:=.type "range",data:=.fields #[.int lo t,.int hi u,.int 1 v] },toks:=B }:=I.kept fun b o e=>AW _ e
 refine⟨(s.heap.push { cls:=.type "range",data:=.fields #[.int lo t,.int hi u,.int 1 v] }).objs.size,[(s.heap.push { cls:=.type "range",data:=.fields #[.int lo t,.int hi u,.int 1 v] }).objs.size],_,_,H,rfl,
  g.kept (t':=B) fun b o e=>AW _ e,Xo _ lo (hi - lo).toNat,?_,fun b N=>?_,q⟩
 .have D:lo+((0:Nat):Int) * 1=lo:=by simp
  have J:(((hi - lo).toNat:Nat):Int) - ((0:Nat):Int)=Builtin.Range.rangeSize lo hi 1:=by rw[rangeSize_one];split<;>omega
  show IsRangeIter _ _ (lo+((0:Nat):Int) * 1) ((((hi - lo).toNat:Nat):Int) - ((0:Nat):Int)) 1;rw[D,J];exact Ae _ rfl
 .have e:b=(s.heap.push { cls:=.type "range",data:=.fields #[.int lo t,.int hi u,.int 1 v] }).objs.size:=by simpa using N
  subst e;exact g.fpOk (AO _) (g.hok.fresh (AO _))
def iRng1(ta:TA):TI:=fun σ H R=>ta σ H fun vs H1=>∃j:Int,vs=[.int j]/\-(2 ^ 62)<=j/\j < 2 ^ 62/\R (Itr 0 j.toNat) H1
def lT{a:Expr}{ta:TA}{p pos:Pos}(J:Gl X "range")(L:X.mg "range" = none)(D:PA X [a] ta)(hs:starEach [a] X.env=[(false,eval a X.env)]:=by rfl):PI X tg (.Call (.Name "range" p) [a] [] pos) (iRng1 ta):=by
 intro pins s σ H R I h;refine Call_ (rL I J L boot_range (Bo (thn (D pos pins s σ H _ I h) fun us S ⟨vs,H1,B,N,g⟩=>?_) hs rfl));obtain⟨j,e,g,M,q⟩:=g;subst e
 cases N with
 |cons r O =>
  cases O;obtain⟨t,rfl⟩:=r;exact call_range_1 (KW B (by omega) (by omega) g M (by simpa using q))
def tFor(I:TI)(g:TG)(tb:TS):TS:=fun D σ H=>I σ H fun J H1=>∃W:Nat->Nat->St->Hp->Prop,(∃m,W 0 m σ H1)/\∀i m σ H,W i m σ H ->
 (J.stop i H/\D.nx σ H)\/(J.go i H/\∃N:St->Hp->Prop,(∀B H',N B H'->∃q,q < m/\W (i+1) q B H')/\∀x H',J.yld i H x H'->g x σ H' fun L H2=>tb { D with nx:=N,ct:=N,bk:=D.nx } L H2)
def iN(g:List Addr)(h:Heap):List (Addr×Obj):=g.filterMap fun b=>(h.get? b).map fun o=>(b,o)
def nU{g:List Addr}{h:Heap}{b:Addr}{o:Obj}(q:b∈g)(e:h.get? b=some o):(b,o)∈iN g h:=List.mem_filterMap.mpr ⟨b,q,by rw[e];rfl⟩
def Jv{g:List Addr}{h:Heap}{p:Addr×Obj}(I:p∈iN g h):p.1∈g/\h.get? p.1=some p.2:=by
 obtain⟨b,D,e⟩:=List.mem_filterMap.mp I
 cases q:h.get? b with
 |none=>rw[q] at e;cases e
 |some o =>
  rw[q] at e;have B:(b,o)=p:=An e;subst B;exact⟨D,q⟩
def Inv.pinned{pins:List (Addr×Obj)}{σ:St}{H:Hp}{s:Shared}{g:List Addr}(I:Inv X pins σ H s)(M:∀b∈g,mI X pins H b)(N:∀b∈g,∃o,s.heap.get? b=some o/\∀v,o.data≠.cell v):Inv X (pins++iN g s.heap) σ H s :=
 I.pins_of fun p O=>(AQ.mp O).elim (fun z=>I.pin p (A0 _ z)) fun z=>by
  obtain⟨B,e⟩:=Jv z;obtain⟨D,J,L,_⟩:=M p.1 B;obtain⟨o,q,d⟩:=N p.1 B;rw[e] at q;cases q
  exact⟨e,D,J,L,d⟩
def Inv.unpinned{pins pl:List (Addr×Obj)}{σ:St}{H:Hp}{s:Shared}(I:Inv X (pins++pl) σ H s):Inv X pins σ H s:=I.pins_of fun p g=>I.pin p (A0 _ (Ap _ g))
def oN{aa:Expr}{ag:List Stmt}{wi:TI}{g:TG}{tb:TS}{pos:Pos}(M:PassesOwn (model X.prog X.w) X.A X.env X.xe)(hc:X.calm=true)(hi:PI X tg aa wi)(hg:PG X tg g)(D:PSs X ag tb)(hs:∀x,foldedSetIterable aa X.env x=pure x:=by intro _;rfl):PS X (.For tg aa ag [] pos) (tFor wi g tb):=by
 intro pins s σ H a7 aq h;refine wpAny_For (thn (hi pins s σ H _ aq h) fun v ba h1=>thn h1 fun a9 bb h2=>?_) hs;obtain⟨it,L,tn,a8,H2,e,I2,T,az,ah,W,⟨ax,w0⟩,a4⟩:=h2;subst e;have ae:∀{H':Hp},(∀b∈L,H' b=none)->∀b∈L,mI X pins H' b:=fun hn b D=>⟨hn b D,(ah b D).2⟩;refine codeAny_forLoop_any (fun n s'=>∃i S H',Inv X pins S H' s'/\tn i s'.heap/\(∀b∈L,H' b=none)/\W i n S H') ?_ ax ⟨0,σ,H2,I2,az,fun b D=>(ah b D).1,w0⟩
 rintro n aj ⟨i,U,Y,I3,ao,ai,a5⟩
 rcases a4 i n U Y a5 with ⟨a3,qn⟩ | ⟨av,N,hN,a0⟩
 .refine Bm M (thn (T.done X rfl rfl rfl hc i pins aj U Y X.xe I3 (ae ai) ao a3) fun r ay ⟨Z,I4⟩=>?_)
  subst Z;exact Cu ⟨U,Y,I4,qn⟩
 .refine Bm M (thn (T.item X rfl rfl rfl hc i pins aj U Y X.xe I3 (ae ai) ao av) fun r ay ⟨u,Z,h4⟩=>?_)
  subst Z;refine Bm M (thn h4 fun _ ak ⟨x,H5,I5,r5,y5,ab,au⟩=>?_);have ar:=I5.pinned (ae au) (T.obj _ _ ab);refine Bm M (thn (hg _ ak U H5 x u _ ar r5 (a0 x H5 y5)) fun _ s6 ⟨a6,H6,I6,q6⟩=>?_);refine Bm M (thn (D _ s6 a6 H6 _ I6 q6) fun f s7 J=>?_)
  have af:∀{I:St}{q:Hp},Inv X (pins++iN L ak.heap) I q s7->N I q->∃m,m < n/\∃i S H',Inv X pins S H' s7/\tn i s7.heap/\(∀b∈L,H' b=none)/\W i m S H':=fun {I q}B O=>by
   obtain⟨m',aw,w7⟩:=hN I q O;refine⟨m',aw,i+1,I,q,B.unpinned,T.keep _ _ _ ab fun b D o e=>(B.pin (b,o) (A0 _ (A0 _ (nU D e)))).1,fun b D=>?_,w7⟩;obtain⟨o,e,d⟩:=T.obj _ _ ab b D;exact(B.pin (b,o) (A0 _ (A0 _ (nU D e)))).2.1
  cases f with
  |next=>obtain⟨I,q,B,O⟩:=J;exact af B O
  |cont=>obtain⟨I,q,B,O⟩:=J;exact af B O
  |brk=>obtain⟨I,q,B,J⟩:=J;exact⟨I,q,B.unpinned,J⟩
  |ret v=>obtain⟨x7,I,q,B,r7,J⟩:=J;exact⟨x7,I,q,B.unpinned,r7,J⟩
end
abbrev R2:=V->V->Hp->VK->Prop
def OpR(X:Cx)(f:Value->Value->Sem Value)(r:R2):Prop :=
 ∀(pins:List (Addr×Obj))(s:Shared)(σ:St)(H:Hp)(x y:V)(v u:Value)(Q:VK),Inv X pins σ H s->RelV x v->RelV y u->r x y H Q ->
  wpAny (model X.prog X.w) X.A (f v u) (EP X pins σ Q) X.xe s
def UnR(X:Cx)(f:Value->Sem Value)(r:V->Hp->VK->Prop):Prop :=
 ∀(pins:List (Addr×Obj))(s:Shared)(σ:St)(H:Hp)(x:V)(v:Value)(Q:VK),Inv X pins σ H s->RelV x v->r x H Q ->
  wpAny (model X.prog X.w) X.A (f v) (EP X pins σ Q) X.xe s
def CallR(X:Cx)(f:Value)(r:List V->Hp->VK->Prop):Prop :=
 ∀(pins:List (Addr×Obj))(s:Shared)(σ:St)(H:Hp)(xs:List V)(us:List Value)(Q:VK),Inv X pins σ H s->Vals xs us->r xs H Q ->
  wpAny (model X.prog X.w) X.A (call f us) (EP X pins σ Q) X.xe s
def TruR(X:Cx)(r:V->Hp->(Bool->Hp->Prop)->Prop):Prop :=
 ∀(pins:List (Addr×Obj))(s:Shared)(σ:St)(H:Hp)(x:V)(v:Value)(Q:Bool->Hp->Prop),Inv X pins σ H s->RelV x v->r x H Q ->
  wpAny (model X.prog X.w) X.A (truthy v) (TP X pins σ Q) X.xe s
def tOp(r:R2)(ta tb:TE):TE:=fun σ H Q=>ta σ H fun x H1=>tb σ H1 fun y H2=>r x y H2 Q
def tUn(r:V->Hp->VK->Prop)(ta:TE):TE:=fun σ H Q=>ta σ H fun x H1=>r x H1 Q
inductive II(C:Int->Int->Prop)(g:Int->Int->V)(x y:V)(H:Hp)(Q:VK):Prop
 |mk(i j:Int)(h:x=.int i)(h':y=.int j)(c:C i j)(q:Q (g i j) H)
def rI(C:Int->Int->Prop)(g:Int->Int->V):R2:=II C g
inductive S7(g:Int->Int->V)(x y:V)(H:Hp)(Q:VK):Prop
 |mk(i j:Int)(h:x=.int i)(h':y=.int j)(q:Q (g i j) H)
def rI0(g:Int->Int->V):R2:=S7 g
def rU(g:Int->V):V->Hp->VK->Prop:=fun x H Q=>∃i,x=.int i/\Q (g i) H
section
variable {X:Cx}{a b c:Expr}{ta tb tc:TE}{pos:Pos}
def binT(D:PE X a ta)(J:PE X b tb){pins:List (Addr×Obj)}{s:Shared}{σ:St}{H:Hp}{R:V->V->Hp->Prop}(I:Inv X pins σ H s)(h:ta σ H fun x H1=>tb σ H1 fun y H2=>R x y H2){Q:Value->Shared->Prop}{f:Value->Value->Sem Value}(L:∀v u g x y H2,Inv X pins σ H2 g->RelV x v->RelV y u->R x y H2->wpAny (model X.prog X.w) X.A (f v u) Q X.xe g):
  wpAny (model X.prog X.w) X.A (eval a X.env) (fun v Y=>wpAny (model X.prog X.w) X.A (eval b X.env) (fun u Z=>wpAny (model X.prog X.w) X.A (f v u) Q X.xe Z) X.xe Y) X.xe s:=by
 refine thn (D pins s σ H _ I h) fun v U ⟨x,H1,q,O,M⟩=>?_;refine thn (J pins U σ H1 _ q M) fun u g ⟨y,H2,B,S,N⟩=>?_;exact L v u g x y H2 B O S N
def pe_op{op:Operator}{r:R2}(J:OpR X (binaryOp op) r)(B:PE X a ta)(D:PE X b tb):PE X (.BinOp a op b pos) (tOp r ta tb):=by
 intro pins s σ H Q I h;exact wpAny_BinOp (binT B D I h fun v u N x y H2 g L M q=>J pins N σ H2 x y v u Q g L M q)
def pe_un{op:UnaryOp}{r:V->Hp->VK->Prop}(B:UnR X (unaryOp op) r)(q:PE X a ta):PE X (.UnaryOp op a pos) (tUn r ta):=by
 intro pins s σ H Q I h;exact UnaryOp_ (thn (q pins s σ H _ I h) fun v L ⟨x,H1,g,J,D⟩=>B pins L σ H1 x v Q g J D)
def opI{f:Value->Value->Sem Value}{C:Int->Int->Prop}{g:Int->Int->Int}(D:∀(i j:Int)(t u:Tok)(s:Shared)(Q:Value->Shared->Prop)(E:Value->Shared->Prop),C i j->Q (.int (g i j) s.toks) { s with toks:=s.toks+1 }->wpAny (model X.prog X.w) X.A (f (.int i t) (.int j u)) Q E s):
  OpR X f (rI C fun i j=>.int (g i j)):=by
 intro pins s σ H x y v u Q I J L h;obtain⟨i,j,rfl,rfl,B,q⟩:=h;obtain⟨t,rfl⟩:=J;obtain⟨t',rfl⟩:=L;exact D i j t t' s _ _ B ⟨.int (g i j),H,I.tok _,⟨_,rfl⟩,q⟩
def opI0{f:Value->Value->Sem Value}{g:Int->Int->Int}(B:∀(i j:Int)(t u:Tok)(s:Shared)(Q:Value->Shared->Prop)(E:Value->Shared->Prop),Q (.int (g i j) s.toks) { s with toks:=s.toks+1 }->wpAny (model X.prog X.w) X.A (f (.int i t) (.int j u)) Q E s):
  OpR X f (rI0 fun i j=>.int (g i j)):=by
 intro pins s σ H x y v u Q I D J h;obtain⟨i,j,rfl,rfl,q⟩:=h;obtain⟨t,rfl⟩:=D;obtain⟨t',rfl⟩:=J;exact B i j t t' s _ _ ⟨.int (g i j),H,I.tok _,⟨_,rfl⟩,q⟩
def opB0{f:Value->Value->Sem Value}{g:Int->Int->Bool}(B:∀(i j:Int)(t u:Tok)(s:Shared)(Q:Value->Shared->Prop)(E:Value->Shared->Prop),Q (.bool (g i j)) s->wpAny (model X.prog X.w) X.A (f (.int i t) (.int j u)) Q E s):
  OpR X f (rI0 fun i j=>.bl (g i j)):=by
 intro pins s σ H x y v u Q I D J h;obtain⟨i,j,rfl,rfl,q⟩:=h;obtain⟨t,rfl⟩:=D;obtain⟨t',rfl⟩:=J;exact B i j t t' s _ _ ⟨.bl (g i j),H,I,rfl,q⟩
def CPow(i j:Int):Prop:=0<=j/\j<=1000000/\i.natAbs < 2 ^ 64
def CMul(i j:Int):Prop:=(-(2 ^ 64) < i/\i < 2 ^ 64)\/(-(2 ^ 64) < j/\j < 2 ^ 64)
def CMul.ok{i j:Int}(h:CMul i j):IntMulOk i j:=by
 rcases h with ⟨h1,h2⟩ | ⟨h1,h2⟩
 .exact .of_left (intBits_le_64 h1 h2)
 .exact .of_right (intBits_le_64 h1 h2)
def op_add:OpR X (binaryOp .Add) (rI0 fun i j=>.int (i+j)):=opI0 fun _ _ _ _ _ _ _ q=>add_int q
def qV:OpR X (binaryOp .Sub) (rI0 fun i j=>.int (i - j)):=opI0 fun _ _ _ _ _ _ _ q=>sub_int q
def jC:OpR X (binaryOp .Mult) (rI CMul fun i j=>.int (i * j)):=opI fun _ _ _ _ _ _ _ g q=>mul_int q g.ok
def iB:OpR X (binaryOp .Mod) (rI (fun _ j=>0 < j) fun i j=>.int (i % j)):=opI fun i j _ _ _ _ _ g q=>by
 have h1:(0:Int) < j:=g;exact mod_int' (by omega) (by rw[Int.fmod_eq_emod_of_nonneg i (by omega)];exact q)
def Xx:OpR X (binaryOp .Pow) (rI CPow fun i j=>.int (i ^ j.toNat)):=opI fun _ _ _ _ _ _ _ g q=>pow_int_small g.1 g.2.1 g.2.2 q
def unI{f:Value->Sem Value}{g:Int->Int}(B:∀(i:Int)(t:Tok)(s:Shared)(Q:Value->Shared->Prop)(E:Value->Shared->Prop),Q (.int (g i) s.toks) { s with toks:=s.toks+1 }->wpAny (model X.prog X.w) X.A (f (.int i t)) Q E s):
  UnR X f (rU fun i=>.int (g i)):=by
 intro pins s σ H x v Q I D h;obtain⟨i,rfl,q⟩:=h;obtain⟨t,rfl⟩:=D;exact B i t s _ _ ⟨.int (g i),H,I.tok _,⟨_,rfl⟩,q⟩
def iK:UnR X (unaryOp .USub) (rU fun i=>.int (-i)):=unI fun _ _ _ _ _ q=>neg_int q
end
def scal:V->V->Bool
 |.non,.non=>true | .non,.int _=>true | .int _,.non=>true | .non,.bl _=>true | .bl _,.non=>true | .non,.str _=>true | .str _,.non=>true
 |.int _,.int _=>true | .bl _,.bl _=>true | .str _,.str _=>true | .byt _,.byt _=>true
 |.int _,.str _=>true | .str _,.int _=>true | .bl _,.str _=>true | .str _,.bl _=>true
 |_,_=>false
def rEq:R2:=fun x y H Q=>scal x y=true/\Q (.bl (decide (x=y))) H
def rNe:R2:=fun x y H Q=>scal x y=true/\Q (.bl (!decide (x=y))) H
def ZV{i j:Int}:decide (V.int i=V.int j)=(i==j):=by
 rw[B5]
 simp
def Wh{i j:Bool}:decide (V.bl i=V.bl j)=(i==j):=by
 rw[B5]
 simp
def ZU{i j:Str}:decide (V.str i=V.str j)=(i==j):=by
 rw[B5]
 simp
def ZW{i j:Array UInt8}:decide (V.byt i=V.byt j)=(i.toList==j.toList):=by
 rw[B5];cases i;cases j
 simp
section
variable {X:Cx}{a b c:Expr}{ta tb tc:TE}{pos:Pos}
def bZ{pins:List (Addr×Obj)}{σ:St}{H:Hp}{s:Shared}{Q:VK}{k g:Bool}(I:Inv X pins σ H s)(q:Q (.bl k) H)(e:k=g):EP X pins σ Q (.bool g) s:=by
 subst e;exact⟨.bl k,H,I,rfl,q⟩
def fX:OpR X (compareOp .Eq) rEq:=by
 intro pins s σ H x y v u Q I B g h;obtain⟨hs,q⟩:=h
 cases x with
 |non =>
  cases B
  cases y with
  |non=>cases g;exact PySem.EqNone.eq_none_none (bZ I q (by simp))
  |bl j=>cases g;exact PySem.EqNone.eq_none_bool (bZ I q (by simp))
  |int j=>obtain⟨t',rfl⟩:=g;exact PySem.EqNone.eq_none_int (bZ I q (by simp))
  |str j=>obtain⟨t',rfl⟩:=g;exact PySem.EqNone.eq_none_str (bZ I q (by simp))
  |_=>exact absurd (show false=true from hs) AU
 |bl i =>
  cases B
  cases y with
  |non=>cases g;exact PySem.EqNone.eq_bool_none (bZ I q (by simp))
  |bl j=>cases g;exact eq_bool (bZ I q Wh)
  |str j=>obtain⟨t',rfl⟩:=g;exact PySem.EqMixed.eq_bool_str (bZ I q (by simp))
  |_=>exact absurd (show false=true from hs) AU
 |int i =>
  obtain⟨t,rfl⟩:=B
  cases y with
  |non=>cases g;exact PySem.EqNone.eq_int_none (bZ I q (by simp))
  |int j=>obtain⟨t',rfl⟩:=g;exact eq_int (bZ I q ZV)
  |str j=>obtain⟨t',rfl⟩:=g;exact PySem.EqMixed.eq_int_str (bZ I q (by simp))
  |_=>exact absurd (show false=true from hs) AU
 |str i =>
  obtain⟨t,rfl⟩:=B
  cases y with
  |non=>cases g;exact PySem.EqNone.eq_str_none (bZ I q (by simp))
  |bl j=>cases g;exact PySem.EqMixed.eq_str_bool (bZ I q (by simp))
  |int j=>obtain⟨t',rfl⟩:=g;exact PySem.EqMixed.eq_str_int (bZ I q (by simp))
  |str j=>obtain⟨t',rfl⟩:=g;exact eq_str (bZ I q ZU)
  |_=>exact absurd (show false=true from hs) AU
 |byt i =>
  obtain⟨t,rfl⟩:=B
  cases y with
  |byt j=>obtain⟨t',rfl⟩:=g;exact PySem.W.eq_bytes (bZ I q ZW)
  |_=>exact absurd (show false=true from hs) AU
 |_=>cases y<;>exact absurd (show false=true from hs) AU
def dD:OpR X (compareOp .NotEq) rNe:=by
 intro pins s σ H x y v u Q I B g h;obtain⟨hs,q⟩:=h
 cases x with
 |non =>
  cases B
  cases y with
  |non=>cases g;exact PySem.EqNone.ne_none_none (bZ I q (by simp))
  |bl j=>cases g;exact PySem.EqNone.ne_none_bool (bZ I q (by simp))
  |int j=>obtain⟨t',rfl⟩:=g;exact PySem.EqNone.ne_none_int (bZ I q (by simp))
  |str j=>obtain⟨t',rfl⟩:=g;exact PySem.EqNone.ne_none_str (bZ I q (by simp))
  |_=>exact absurd (show false=true from hs) AU
 |bl i =>
  cases B
  cases y with
  |non=>cases g;exact PySem.EqNone.ne_bool_none (bZ I q (by simp))
  |bl j=>cases g;exact ne_bool (bZ I q (A3 not Wh))
  |str j=>obtain⟨t',rfl⟩:=g;exact PySem.EqMixed.ne_bool_str (bZ I q (by simp))
  |_=>exact absurd (show false=true from hs) AU
 |int i =>
  obtain⟨t,rfl⟩:=B
  cases y with
  |non=>cases g;exact PySem.EqNone.ne_int_none (bZ I q (by simp))
  |int j=>obtain⟨t',rfl⟩:=g;exact ne_int (bZ I q (A3 not ZV))
  |str j=>obtain⟨t',rfl⟩:=g;exact PySem.EqMixed.ne_int_str (bZ I q (by simp))
  |_=>exact absurd (show false=true from hs) AU
 |str i =>
  obtain⟨t,rfl⟩:=B
  cases y with
  |non=>cases g;exact PySem.EqNone.ne_str_none (bZ I q (by simp))
  |bl j=>cases g;exact PySem.EqMixed.ne_str_bool (bZ I q (by simp))
  |int j=>obtain⟨t',rfl⟩:=g;exact PySem.EqMixed.ne_str_int (bZ I q (by simp))
  |str j=>obtain⟨t',rfl⟩:=g;exact ne_str (bZ I q (A3 not ZU))
  |_=>exact absurd (show false=true from hs) AU
 |byt i =>
  obtain⟨t,rfl⟩:=B
  cases y with
  |byt j=>obtain⟨t',rfl⟩:=g;exact PySem.W.ne_bytes (bZ I q (A3 not ZW))
  |_=>exact absurd (show false=true from hs) AU
 |_=>cases y<;>exact absurd (show false=true from hs) AU
def qM:OpR X (compareOp .Lt) (rI0 fun i j=>.bl (decide (i < j))):=opB0 fun _ _ _ _ _ _ _ q=>lt_int q
def yF:OpR X (compareOp .LtE) (rI0 fun i j=>.bl (decide (i<=j))):=opB0 fun _ _ _ _ _ _ _ q=>le_int q
def kK:OpR X (compareOp .Gt) (rI0 fun i j=>.bl (decide (j < i))):=opB0 fun _ _ _ _ _ _ _ q=>gt_int q
def op_ge:OpR X (compareOp .GtE) (rI0 fun i j=>.bl (decide (j<=i))):=opB0 fun _ _ _ _ _ _ _ q=>ge_int q
def rT:OpR X (compareOp .In) (fun x y H Q=>∃i j,x=.str i/\y=.str j/\Q (.bl (!(Builtin.Str.occurrences j i 0 j.length 1).isEmpty)) H):=by
 intro pins s σ H x y v u Q I g B h;obtain⟨i,j,rfl,rfl,q⟩:=h;obtain⟨t,rfl⟩:=g;obtain⟨t',rfl⟩:=B;exact in_str (bZ I q rfl)
def zM:OpR X (compareOp .Is) (fun x y H Q=>y=.non/\Q (.bl (decide (x=.non))) H):=by
 intro pins s σ H x y v u Q I g B h;obtain⟨rfl,q⟩:=h;cases B;refine is_none_gen (bZ I q ?_)
 cases x<;>first
  | (cases g;rfl)
  | (obtain⟨t,rfl⟩:=g;rfl)
def Zx:OpR X (compareOp .IsNot) (fun x y H Q=>y=.non/\Q (.bl (!decide (x=.non))) H):=by
 intro pins s σ H x y v u Q I g B h;obtain⟨rfl,q⟩:=h;cases B;refine isnot_none_gen (bZ I q ?_)
 cases x<;>first
  | (cases g;rfl)
  | (obtain⟨t,rfl⟩:=g;rfl)
def OpR.or{f:Value->Value->Sem Value}{r g:R2}(h:OpR X f r)(h':OpR X f g):OpR X f (fun x y H Q=>r x y H Q\/g x y H Q):=by
 intro pins s σ H x y v u Q I B D q
 rcases q with q | q
 .exact h pins s σ H x y v u Q I B D q
 .exact h' pins s σ H x y v u Q I B D q
def oJ(b:Expr){op:CmpOp}(h:op≠.In:=by decide)(h2:op≠.NotIn:=by decide):behindInMarks op b=false:=by
 have g:(op==CmpOp.In)=false:=by cases op<;>first | rfl | exact absurd rfl h
 have q:(op==CmpOp.NotIn)=false:=by cases op<;>first | rfl | exact absurd rfl h2
 cases b<;>simp[behindInMarks,g,q]
def pe_cmpR{op:CmpOp}{r:R2}(L:OpR X (compareOp op) r)(B:PE X a ta)(D:PE X b tb)(J:behindInMarks op b=false):PE X (.Compare a [op] [b] pos) (tOp r ta tb):=by
 intro pins s σ H Q I h;exact wpAny_Compare1 (binT B D I h fun v u O x y H2 g M N q=>L pins O σ H2 x y v u Q g M N q) J
def KA(t:TE):TT:=fun σ H Q=>t σ H (Sq Q)
def pt_cmpR{op:CmpOp}{r:R2}(N:OpR X (compareOp op) r)(J:PE X a ta)(L:PE X b tb)(M:behindInMarks op b=false):PT X (.Compare a [op] [b] pos) (KA (tOp r ta tb)):=by
 intro pins s σ H Q I h
 refine wpAny_isTrue_Compare1 (thn (J pins s σ H _ I h) fun v aa ⟨x,H1,q,Y,O⟩=>thn (L pins aa σ H1 _ q O) fun u ab ⟨y,H2,B,Z,S⟩ =>
  thn (N pins ab σ H2 x y v u _ B Y Z S) fun c ae ⟨z,g,D,r3,k,e,U⟩=>?_) M
 subst e;cases r3;exact Aw ⟨g,D,U⟩
def Xp(r B:R2)(ta tb tc:TE):TE:=fun σ H Q=>ta σ H fun x H1=>tb σ H1 fun y H2=>r x y H2 fun z g=>∃k,z=.bl k /\
 (if k=true then tc σ g fun D q=>B y D q Q else Q (.bl false) g)
def Vi{op g:CmpOp}{r J:R2}(ho:OpR X (compareOp op) r)(ab:OpR X (compareOp g) J)(U:PE X a ta)(Y:PE X b tb)(Z:PE X c tc)(aa:lastMarks [op,g] [b,c]=false:=by with_unfolding_all rfl):PE X (.Compare a [op,g] [b,c] pos) (Xp r J ta tb tc):=by
 intro pins s σ H Q I h
 refine Compare_chain (thn (U pins s σ H _ I h) fun v ae ⟨x,H1,N,r1,q1⟩=>chain_link (thn (Y pins ae σ H1 _ N q1) fun u af ⟨y,H2,O,L,q2⟩ =>
  thn (ho pins af σ H2 x y v u _ O r1 L q2) fun d ag ⟨z,q,B,r3,k,e,D⟩=>?_)) aa
 subst e;cases r3;refine Aw ?_
 cases k with
 |false=>exact ite_ff ⟨.bl false,q,B,rfl,D⟩
 |true=>exact ite_tt (chain_last (thn (Z pins ag σ q _ B D) fun w' ah ⟨z',M,S,r4,q4⟩=>ab pins ah σ M y z' u w' Q S L r4 q4))
def K2{op g:CmpOp}{r J:R2}(ho:OpR X (compareOp op) r)(ab:OpR X (compareOp g) J)(ha:PE X a ta)(hb:PE X b tb)(hc:PE X c tc)(aa:lastMarks [op,g] [b,c]=false:=by with_unfolding_all rfl):PT X (.Compare a [op,g] [b,c] pos) (KA (Xp r J ta tb tc)):=by
 intro pins s σ H Q I h
 refine isTrue_chain (thn (ha pins s σ H _ I h) fun v ae ⟨x,H1,O,r1,q1⟩=>test_link (thn (hb pins ae σ H1 _ O q1) fun u af ⟨y,H2,S,L,q2⟩ =>
  thn (ho pins af σ H2 x y v u _ S r1 L q2) fun d ag ⟨z,q,B,r3,k,e,D⟩=>?_)) aa
 subst e;cases r3;refine Aw ?_
 cases k with
 |false =>
  obtain⟨k',Z,q'⟩:=D;cases Z;exact ite_ff ⟨q,B,q'⟩
 |true =>
  refine ite_tt (test_last (thn (hc pins ag σ q _ B D) fun w' ah ⟨z',M,U,r4,q4⟩=>thn (ab pins ah σ M y z' u w' _ U L r4 q4) fun d' ai ⟨z2,N,Y,r5,k2,e2,q5⟩=>?_));subst e2;cases r5;exact Aw ⟨N,Y,q5⟩
def TruV(K:DD)(x:V)(H:Hp)(k:Bool):Prop :=
 match x with
 |.non=>k=false
 |.bl b=>k=b
 |.int i=>k=(i != 0)
 |.str y=>y.length<=sizeLine/\k=((y.length:Int) != 0)
 |.byt y=>y.size<=sizeLine/\k=((y.size:Int) != 0)
 |.ref p=>(∃xs,SqL K H p xs/\k = !xs.isEmpty)\/(∃xs,SqT K H p xs/\k = !xs.isEmpty)\/∃kvs,H p=some (.dK kvs)/\k = !kvs.isEmpty
 |_=>False
def XO{κ:Type}{kvs:List (κ×V)}{vs:List (κ×Value)}(r:KV kvs vs):(!vs.isEmpty) = !kvs.isEmpty:=by
 cases r<;>rfl
def bC{xs:List V}{its:List Value}(r:Vals xs its):(!its.toArray.isEmpty) = !xs.isEmpty:=by
 cases r<;>simp
def sU:(sizeLine:Nat) < 2 ^ 63:=by rw[Bi];decide
def tru_ok:TruR X (fun x H Q=>∃k,TruV X.K x H k/\Q k H):=by
 intro pins s σ H x v Q I B h;obtain⟨k,e,q⟩:=h;have N:=sU;have hs:sizeLine=16777216:=Bi
 cases x with
 |non =>
  cases B;have g:k=false:=e;subst g;exact truthy_none ⟨H,I,q⟩
 |bl b =>
  cases B;have g:k=b:=e;subst g;exact Aw ⟨H,I,q⟩
 |int i =>
  obtain⟨t,rfl⟩:=B;have g:k=(i != 0):=e;subst g;exact PySem.P.truthy_int ⟨H,I,q⟩
 |str y =>
  obtain⟨t,rfl⟩:=B;obtain⟨M,g⟩:y.length<=sizeLine/\k=((y.length:Int) != 0):=e;subst g;exact PySem.P.truthy_str (by omega) ⟨H,I.tok _,q⟩
 |byt y =>
  obtain⟨t,rfl⟩:=B;obtain⟨M,g⟩:y.size<=sizeLine/\k=((y.size:Int) != 0):=e;subst g;exact PySem.W.truthy_bytes (by omega) ⟨H,I.tok _,q⟩
 |ref p =>
  cases B;have g:(∃xs,SqL X.K H p xs/\k = !xs.isEmpty)\/(∃xs,SqT X.K H p xs/\k = !xs.isEmpty)\/∃kvs,H p=some (.dK kvs)/\k = !kvs.isEmpty:=e
  rcases g with ⟨xs,D,g⟩ | ⟨xs,D,g⟩ | ⟨kvs,D,g⟩
  .subst g
   obtain⟨its,r,pl,hz⟩:=I.list D;have J:=r.length;exact wpAny_truthy_list pl.isList (by simp only[List.size_toArray];omega) ⟨H,I.tok _,by rw[bC r];exact q⟩
  .subst g
   obtain⟨its,r,pl,hz⟩:=I.tuple D;have J:=r.length;exact truthy_tuple pl (by simp only[List.size_toArray];omega) ⟨H,I.tok _,by rw[bC r];exact q⟩
  .subst g
   obtain⟨hz,L,vs,r,m⟩:kvs.length<=sizeLine/\(p==sysModules)=false/\∃vs,KV kvs vs/\s.heap.DictOf (jZ X.prog X.w) p vs:=I.hok p _ D;have J:kvs.length=vs.length:=Paired.length r;exact wpAny_truthy_dict L m (by omega) ⟨H,I.tok _,by rw[XO r];exact q⟩
 |_=>exact(show False from e).elim
def K0(B:PE X a ta)(D:∀g,isTrue a X.env g=(do let v <- g;standAt a.pos;holding [v] (truthy v))):
  PT X a (fun σ H Q=>ta σ H fun x H'=>∃k,TruV X.K x H' k/\Q k H'):=by
 intro pins s σ H Q I h;exact isTrue_plain (thn (B pins s σ H _ I h) fun v M ⟨x,H1,q,L,J⟩=>tru_ok pins M σ H1 x v Q q L J) (D _)
def Xy:OpR X (binaryOp .Add) (fun x y H Q=>∃i j,x=.str i/\y=.str j/\i.length+j.length<=sizeLine/\Q (.str (i++j)) H):=by
 intro pins s σ H x y v u Q I g B h;obtain⟨i,j,rfl,rfl,hz,q⟩:=h;obtain⟨t,rfl⟩:=g;obtain⟨t',rfl⟩:=B;exact add_str (fun t' tk=>⟨.str (i++j),H,I.tok _,⟨_,rfl⟩,q⟩) hz
def yG{x:V}{us:List Value}(r:Vals [x] us):∃u,us=[u]/\RelV x u:=by
 cases r with
 |cons g q=>cases q;exact⟨_,rfl,g⟩
def vals2{x y:V}{us:List Value}(r:Vals [x,y] us):∃u g,us=[u,g]/\RelV x u/\RelV y g:=by
 cases r with
 |cons q B =>
  cases B with
  |cons D I=>cases I;exact⟨_,_,rfl,q,D⟩
def Wy:CallR X (.builtin "abs") (fun xs H Q=>∃i,xs=[.int i]/\Q (.int (if i < 0 then -i else i)) H):=by
 intro pins s σ H xs us Q I r h;obtain⟨i,rfl,q⟩:=h;obtain⟨u,rfl,t,rfl⟩:=yG r;exact call_abs_int fun u g=>⟨.int (if i < 0 then -i else i),H,I.tok _,⟨_,rfl⟩,q⟩
def J8(g:X.calm=true):CallR X (.builtin "max") (fun xs H Q=>∃i j,xs=[.int i,.int j]/\Q (.int (if j > i then j else i)) H):=by
 intro pins s σ H xs us Q I r h;obtain⟨i,j,rfl,q⟩:=h;obtain⟨u,D,rfl,⟨t,rfl⟩,⟨t',rfl⟩⟩:=vals2 r;refine max_two_ints (I.ok.hd g) fun h' B k=>⟨_,H,I.kept k,?_,q⟩
 by_cases hj:j > i
 .rw [Al hj,Al hj];exact⟨_,rfl⟩
 .rw [Am hj,Am hj];exact⟨_,rfl⟩
def wY:CallR X (.type "int") (fun xs H Q=>(∃i,xs=[.int i]/\Q (.int i) H)\/∃k,xs=[.bl k]/\Q (.int (if k then 1 else 0)) H):=by
 intro pins s σ H xs us Q I r h
 rcases h with ⟨i,rfl,q⟩ | ⟨k,rfl,q⟩
 .obtain ⟨u,rfl,t,rfl⟩:=yG r
  exact call_int_int ⟨.int i,H,I,⟨_,rfl⟩,q⟩
 .obtain ⟨u,rfl,g⟩:=yG r
  cases g;exact call_int_bool ⟨.int (if k then 1 else 0),H,I.tok _,⟨_,rfl⟩,q⟩
def zK:CallR X (.type "str") (fun xs H Q=>∃i,xs=[.int i]/\i.natAbs.log2 < 1920/\Q (.str (toString i)) H):=by
 intro pins s σ H xs us Q I r h;obtain⟨i,rfl,hz,q⟩:=h;obtain⟨u,rfl,t,rfl⟩:=yG r;exact PySem.P.str_of_int hz ⟨.str _,H,I.tok _,⟨_,rfl⟩,q⟩
end
structure ObjM(h:Heap)(x dx C:Addr)(mA:Str->Option Value):Prop where
 obj:h.get? x=some (PySem.W.instObj C dx)
 ns:h.Ns1 dx mA
 ne:dx≠x
def Jz{h:Heap}{dx:Addr}{mA:Str->Option Value}(n:h.Ns1 dx mA):∃g,h.get? dx=some g/\∀name,PySem.W.lookIn name g=some (mA name):=by
 obtain⟨o,es,ep,M,D,I,_,L⟩:=n;refine⟨o,M,fun name=>?_⟩;have e:=L name;unfold nsFind findBy at e;rw[<- Array.find?_toList] at e;unfold PySem.W.lookIn;rw[D];dsimp only
 split
 .rename_i y q
  rw[q] at e;exact A3 some e
 .rename_i q
  rw[q] at e
  have a:es.toList.any (·.refKey)=false:=by
   rw[List.any_eq_false];intro y N;obtain⟨z,t,J⟩:=I y (DC.mp N)
   simp[DictEntry.refKey,J]
  have B:¬ es.toList.any (·.refKey)=true:=by rw[a];exact AU
  rw[Am B];exact A3 some e
def ObjM.look{h:Heap}{x dx C:Addr}{mA:Str->Option Value}(I:ObjM h x dx C mA):∃g,PySem.W.InstAt h x (PySem.W.instObj C dx) C (some g)/\∀name,PySem.W.lookIn name g=some (mA name) :=
 let ⟨g,B,q⟩:=Jz I.ns
 ⟨g,⟨I.obj,rfl,rfl,B⟩,q⟩
section
variable {prog:Program}{w:World}{A:Around}{E:Value->Shared->Prop}{s:Shared}{K:DD}{x dx C f:Addr}{mA:Str->Option Value}{name:Str}{v:Value}
def get_map{g:Bool}{Q:Value->Shared->Prop}(X:K.In s.heap)(I:ObjM s.heap x dx C mA)(B:PySem.W.plainGet K C name=true)(D:PySem.W.hasDictIn K C=true)(q:PySem.W.findIn K (.ref C) name=some none)(M:mA name=some v)(N:PySem.W.handedIn v=true)(h:Q v { s with toks:=s.toks+1 }):
  wpAny (model prog w) A (getAttr (.ref x) name g) Q E s:=by
 obtain⟨O,J,L⟩:=I.look;exact PySem.W.get_value X J (PySem.W.plainGet_of B).1 (PySem.W.findObj_own D q rfl (by rw[L,M])) N h
def VY{pl:Sem Bool}{Q:Value×List Value->Shared->Prop}(X:K.In s.heap)(I:ObjM s.heap x dx C mA)(g:PySem.W.plainGet K C name=true)(q:PySem.W.findIn K (.ref C) name=some (some (.ref f)))(D:PySem.W.isFn K (.ref f)=true)(L:mA name=none)(h:Q (.ref f,[.ref x]) s):
  wpAny (model prog w) A (getMethod (.ref x) name pl) Q E s:=by
 obtain⟨M,J,B⟩:=I.look;exact PySem.W.method_fn X J (PySem.W.plainGet_of g).1 (PySem.W.plainGet_of g).2 q (Cg.mp D) (by show(PySem.W.lookIn name M).map (·.isSome)=some false;rw[B,L];rfl) h
def set_map{ns:List Str}{Q:Unit->Shared->Prop}(X:K.In s.heap)(I:ObjM s.heap x dx C mA)(hs:PySem.W.findIn K (.ref C) "__setattr__" = some (some (.builtin "object.__setattr__")))(S:PySem.W.plainOver K C=true)(U:PySem.W.takerIn K C name=some none)(N:PySem.W.hasDictIn K C=true)(Y:PySem.Within mA ns)(hsz:ns.length<=sizeLine)(h:∀h',ObjM h' x dx C (fun y=>if y=name then some v else mA y)->Heap.SameBut dx s.heap h'->Q () { s with heap:=h',toks:=s.toks+2 }):
  wpAny (model prog w) A (setAttr (.ref x) name v) Q E s:=by
 obtain⟨od,J,hl⟩:=I.look;refine PySem.W.set_plain X J hs (PySem.W.osa_open (s:={ s with toks:=s.toks+1 }) (r:=none) X J S U fun b=>?_);obtain⟨aa,B,L⟩:=PySem.W.any_some N;have Z:s.heap.get? x=some ⟨.ref C,some dx,.plain,#[]⟩:=I.obj;refine AC (AE (AC (AC (wpAny_loadPart Z (AC (PySem.W.Looks.here (s:={ s with toks:=s.toks+1 }) (PySem.W.looks_clsIn X B) ?_))))))
 rw[L];refine AE (a:=some dx) (AC (AE (AC ?_)));refine wpAny_nsSet1 (s:={ s with toks:=s.toks+1 }) I.ns fun h' g q=>?_;obtain⟨oD,ae,ab,O,M,D⟩:=g.count (PySem.Within.cons name v Y);refine AC (wpAny_lookBehind O (by rw[M];exact pastItsLine_dict (AR D (by rw[AD];omega))) ?_);exact AE (h _ ⟨(q.2 _ (Ne.symm I.ne)).trans I.obj,g,I.ne⟩ q)
def VD{R:Result->Shared->Prop}{vs:List Value}{q:List (Str×Value)}(X:K.In s.heap)(D:PySem.W.makesIn K C=true)(hi:PySem.W.findIn K (.ref C) "__init__" = some (some (.ref f)))(B:PySem.W.typeIn K (.ref f)=some (.type "function"))(h:codeAny (model prog w) (A.under (.builtin "type.__call__" ⟨.ref C::vs,q⟩)) (.call (.ref f) ⟨.ref (s.heap.objs.size+1)::vs,q⟩) (PySem.W.InitBack (s.heap.objs.size+1) R)
   { s with heap:=(s.heap.push PySem.W.emptyDict).push (PySem.W.instObj C s.heap.objs.size) }):
  codeAny (model prog w) A (.call (.ref C) ⟨vs,q⟩) R s:=by
 obtain⟨J,g,d,t,L⟩:=s;exact PySem.W.make_core (PySem.W.makes_of X D) (PySem.W.looks_findIn X hi) (fun I=>PySem.W.bind_fn X I B) (.inl rfl) h
end
def sG(f:Str)(v:V):List (Str×V)->List (Str×V)
 |[]=>[(f,v)]
 | (g,x)::r=>if g=f then (g,v)::r else (g,x)::sG f v r
theorem yP(f g:Str)(v:V):∀fs:List (Str×V),(sG f v fs).lookup g=if g=f then some v else fs.lookup g
 |[]=>by
  show List.lookup g [(f,v)]=_
  by_cases h:g=f
  .have q:(g==f)=true:=Cg.mpr h
   simp only[List.lookup,q,if_pos h]
  .have q:(g==f)=false:=Bb.mpr h
   simp only[List.lookup,q,if_neg h]
 | (k,x)::r=>by
  have D:=yP f g v r;rw[show sG f v ((k,x)::r)=(if k=f then (k,v)::r else (k,x)::sG f v r) from rfl]
  by_cases B:k=f
  .rw [Al B]
   by_cases h:g=k
   .have q:(g==k)=true:=Cg.mpr h
    simp only[List.lookup,q,if_pos (h.trans B)]
   .have q:(g==k)=false:=Bb.mpr h
    simp only[List.lookup,q,if_neg (fun e:g=f=>h (e.trans B.symm))]
  .rw [Am B]
   by_cases h:g=k
   .have q:(g==k)=true:=Cg.mpr h
    simp only[List.lookup,q,if_neg (fun e:g=f=>B (h.symm.trans e))]
   .have q:(g==k)=false:=Bb.mpr h
    simp only[List.lookup,q]
    exact D
theorem nL(f:Str)(v:V):∀fs:List (Str×V),f∈(sG f v fs).map (·.1)/\∀g,g∈fs.map (·.1)->g∈(sG f v fs).map (·.1)
 |[]=>⟨by simp[sG],fun g h=>by simp at h⟩
 | (k,x)::r=>by
  obtain⟨B,D⟩:=nL f v r;rw[show sG f v ((k,x)::r)=(if k=f then (k,v)::r else (k,x)::sG f v r) from rfl]
  by_cases q:k=f
  .rw [Al q]
   subst q;exact⟨by simp,fun g h=>by simpa using h⟩
  .rw [Am q]
   refine⟨?_,fun g h=>?_⟩
   .rw [Ak]
    exact AF _ B
   .rw [Ak] at h ⊢
    rcases AX.mp h with e | e
    .exact AX.mpr (.inl e)
    .exact AF _ (D g e)
theorem uP(f:Str)(v:V):∀fs:List (Str×V),(sG f v fs).length<=fs.length+1
 |[]=>by simp[sG]
 | (k,x)::r=>by
  have q:=uP f v r;rw[show sG f v ((k,x)::r)=(if k=f then (k,v)::r else (k,x)::sG f v r) from rfl]
  by_cases g:k=f
  .rw [Al g,AD,AD];omega
  .rw [Am g,AD,AD];omega
def RelO.some_of{v:V}{o:Option Value}(r:RelO (some v) o):∃u,o=some u/\RelV v u:=by
 cases o with
 |none=>exact(show False from r).elim
 |some u=>exact⟨u,rfl,r⟩
def RelO.none_of{o:Option Value}(r:RelO none o):o=none:=by
 cases o with
 |none=>rfl
 |some u=>exact(show False from r).elim
def JR{v:V}{u:Value}(r:RelV v u):PySem.W.handedIn u=true:=by
 cases v with
 |non=>cases (show u=Value.none from r);rfl
 |bl b=>cases (show u=Value.bool b from r);rfl
 |int i=>obtain⟨t,e⟩:=(show ∃t,u=Value.int i t from r);cases e;rfl
 |str x=>obtain⟨t,e⟩:=(show ∃t,u=Value.str x t from r);cases e;rfl
 |byt b=>obtain⟨t,e⟩:=(show ∃t,u=Value.bytes b t from r);cases e;rfl
 |flt b=>obtain⟨t,e⟩:=(show ∃t,u=Value.float b t from r);cases e;rfl
 |ref a=>cases (show u=Value.ref a from r);rfl
 |ty n=>cases (show u=Value.type n from r);rfl
section
variable {P:Program}{w:World}{H H':Hp}{h h':Heap}{a C dx:Addr}{fs fs':List (Str×V)}
def cH(g:HOk P w H h)(e:H a=some (.ins C dx fs)):∃mA,ObjM h a dx C mA/\(∀f,RelO (fs.lookup f) (mA f))/\PySem.Within mA (fs.map (·.1))/\fs.length<=1000/\H dx=some (.own a):=by
 obtain⟨d,z,B,D,mA,n,r,q⟩:=(show ObjOk P w H h a (.ins C dx fs) from g a _ e);exact⟨mA,⟨D,n,B⟩,r,q,z,d⟩
end
structure Cls(K:DD)(C:Addr):Prop where
 pg:PySem.W.plainGet K C Str.empty=true
 hd:PySem.W.hasDictIn K C=true
 po:PySem.W.plainOver K C=true
 sa:PySem.W.findIn K (.ref C) "__setattr__" = some (some (.builtin "object.__setattr__"))
def Cls.get{K:DD}{C:Addr}(c:Cls K C)(f:Str):PySem.W.plainGet K C f=true:=c.pg
def NoAttr(K:DD)(C:Addr)(f:Str):Prop:=PySem.W.findIn K (.ref C) f=some none
def NoAttr.taker{K:DD}{C:Addr}{f:Str}(n:NoAttr K C f):PySem.W.takerIn K C f=some none:=by
 unfold PySem.W.takerIn;rw[show PySem.W.findIn K (.ref C) f=some none from n]
 rfl
structure WY(K:DD)(C:Addr)(m:Str)(f:Addr):Prop where
 at_:PySem.W.findIn K (.ref C) m=some (some (.ref f))
 fn:PySem.W.isFn K (.ref f)=true
 kp:PySem.W.keepIn K (.ref f)=true
section
variable {X:Cx}{pins:List (Addr×Obj)}{σ:St}{H:Hp}{s:Shared}{a C dx:Addr}{fs:List (Str×V)}{f:Str}{v:V}{A:Around}{E:Value->Shared->Prop}
def dC{b:Bool}{Q:Value->Shared->Prop}(I:Inv X pins σ H s)(e:H a=some (.ins C dx fs))(c:Cls X.K C)(n:NoAttr X.K C f)(l:fs.lookup f=some v)(h:∀u s',Inv X pins σ H s'->RelV v u->Q u s'):wpAny (model X.prog X.w) A (getAttr (.ref a) f b) Q E s:=by
 obtain⟨mA,O,r,_,_,_⟩:=cH I.hok e;obtain⟨u,q,g⟩:=RelO.some_of (v:=v) (o:=mA f) (by rw[<- l];exact r f);exact get_map I.kIn O (c.get f) c.hd n q (JR g) (h u _ (I.tok _) g)
def pC{m:Str}{g:Addr}{pl:Sem Bool}{Q:Value×List Value->Shared->Prop}(I:Inv X pins σ H s)(e:H a=some (.ins C dx fs))(c:Cls X.K C)(k:WY X.K C m g)(l:fs.lookup m=none)(h:Q (.ref g,[.ref a]) s):wpAny (model X.prog X.w) A (getMethod (.ref a) m pl) Q E s:=by
 obtain⟨mA,O,r,_,_,_⟩:=cH I.hok e;have q:mA m=none:=RelO.none_of (by rw[<- l];exact r m);exact VY I.kIn O (c.get m) k.at_ k.fn q h
def cN{y:V}{u:Value}{Q:Unit->Shared->Prop}(I:Inv X pins σ H s)(e:H a=some (.ins C dx fs))(c:Cls X.K C)(n:NoAttr X.K C f)(Z:fs.length < 1000)(U:RelV y u)(h:∀s',Inv X pins σ (upd H a (.ins C dx (sG f y fs))) s'->Q () s'):wpAny (model X.prog X.w) A (setAttr (.ref a) f u) Q E s:=by
 obtain⟨mA,O,r,J,_,D⟩:=cH I.hok e;have hz:(fs.map (·.1)).length<=sizeLine:=by rw[AB,Bi];omega
 refine set_map I.kIn O c.sa c.po n.taker c.hd J hz fun h' B Y=>h _ ?_;have N:∃o,h'.get? dx=some o:=let ⟨o,_,_,L,_⟩:=B.ns;⟨o,L⟩
 refine I.write (x:=a) (e:=dx) (by rw[e];exact True.intro) (.inr D) (fun b q M z=>(Y.2 b M).trans z) N ?_;refine⟨by rw[cX O.ne];exact D,?_,O.ne,B.obj,_,B.ns,fun g=>?_,fun g S=>?_⟩
 .have:=uP f y fs;omega
 .show RelO ((sG f y fs).lookup g) (if g=f then some u else mA g)
  rw[yP]
  by_cases q:g=f
  .rw [Al q,Al q];exact U
  .rw [Am q,Am q];exact r g
 .by_cases q:g=f
  .rw [q];exact(nL f y fs).1
  .refine (nL f y fs).2 g (J g fun z=>S ?_)
   show(if g=f then some u else mA g)=none;rw[Am q];exact z
def Inv.made(I:Inv X pins σ H s):Inv X pins σ (upd (upd H s.heap.objs.size (.own (s.heap.objs.size+1))) (s.heap.objs.size+1) (.ins C s.heap.objs.size []))
  { s with heap:=(s.heap.push PySem.W.emptyDict).push (PySem.W.instObj C s.heap.objs.size) }:=by
 have g:(s.heap.push PySem.W.emptyDict).get? s.heap.objs.size=some PySem.W.emptyDict:=Ae s.heap rfl
 have J:((s.heap.push PySem.W.emptyDict).push (PySem.W.instObj C s.heap.objs.size)).get? (s.heap.objs.size+1)=some (PySem.W.instObj C s.heap.objs.size):=by
  have:=Ae (s.heap.push PySem.W.emptyDict) (o:=PySem.W.instObj C s.heap.objs.size) rfl
  rwa [Heap.size_push] at this
 have L:(s.heap.push PySem.W.emptyDict).Ns s.heap.objs.size (fun _=>none):=⟨PySem.W.emptyDict,#[],_,g,rfl,(fun e M=>absurd M (by simp)),fun _=>rfl⟩;have D:=I.laid (a:=s.heap.objs.size) (o:=.own (s.heap.objs.size+1)) (h':=s.heap.push PySem.W.emptyDict) (t':=s.toks) (fun b u q=>AW _ q) (AO _) ⟨_,g⟩;refine D.laid (a:=s.heap.objs.size+1) (o:=.ins C s.heap.objs.size []) (t':=s.toks) (fun b u q=>AW _ q) (Nat.le_of_eq (Heap.size_push _ _)) ?_
 have B:s.heap.objs.size≠s.heap.objs.size+1:=Av (BB _);refine⟨by rw[cX B,vX],AM _,B,J,fun _=>none,(Heap.Ns1.of_empty L).at fun o q=>AW _ q,fun _=>True.intro,fun y N=>absurd rfl N⟩
def attr_of{prog:Program}{w:World}{g:Env}{e:Expr}{f:Str}{pos:Pos}{s:Shared}{Q:Value->Shared->Prop}(q:attributeBase e f g (eval e g)=eval e g)(h:wpAny (model prog w) A (eval e g) (fun o B=>wpAny (model prog w) A (getAttr o f true) Q E B) E s):wpAny (model prog w) A (eval (.Attribute e f pos) g) Q E s :=
 Attribute_any_ h (by rw[arm_eval_Attribute,q])
end
def tFld(K:DD)(ta:TE)(f:Str):TE:=fun σ H Q=>ta σ H fun x H1=>∃a C dx fs v,x=.ref a/\H1 a=some (.ins C dx fs)/\Cls K C/\NoAttr K C f/\fs.lookup f=some v/\Q v H1
def sFld(K:DD)(ta tv:TE)(f:Str):TS:=fun D σ H=>tv σ H fun y H1=>ta σ H1 fun x H2=>∃a C dx fs,x=.ref a/\H2 a=some (.ins C dx fs)/\Cls K C/\NoAttr K C f/\fs.length < 1000 /\
 D.nx σ (upd H2 a (.ins C dx (sG f y fs)))
def InOp(X:Cx)(op:Operator)(g:V->V->Hp->VK->Prop):Prop :=
 ∀(pins:List (Addr×Obj))(s:Shared)(σ:St)(H:Hp)(x y:V)(u v:Value)(Q:VK),Inv X pins σ H s->RelV x u->RelV y v->g x y H Q->wpAny (model X.prog X.w) X.A (inplaceOp op u v) (EP X pins σ Q) X.xe s
def sFldAug(K:DD)(ta tv:TE)(B:V->V->Hp->VK->Prop)(f:Str):TS:=fun D σ H=>ta σ H fun x H1=>∃a C dx fs v,x=.ref a/\H1 a=some (.ins C dx fs)/\Cls K C/\NoAttr K C f/\fs.lookup f=some v /\
 tv σ H1 fun y H2=>B v y H2 fun z g=>∃q fs',g a=some (.ins C q fs')/\fs'.length < 1000/\D.nx σ (upd g a (.ins C q (sG f z fs')))
section
variable {X:Cx}{o e value:Expr}{f:Str}{pos pos' tpos:Pos}{ta tv:TE}
def pe_fld(L:PE X e ta)(J:attributeBase e f X.env (eval e X.env)=eval e X.env):PE X (.Attribute e f pos) (tFld X.K ta f):=by
 intro pins s σ H Q I h;refine attr_of J (thn (L pins s σ H _ I h) fun u O ⟨x,H1,g,N,a,C,dx,fs,v,ex,D,c,n,l,q⟩=>?_);subst ex;obtain rfl:u=Value.ref a:=N;exact dC g D c n l fun U S B M=>⟨v,H1,B,M,q⟩
def ps_fld(M:PE X o ta)(N:PE X value tv)(hs:swapsWith value (some (.Attribute o f pos')) pos.line X.env=pure false):PS X (.Assign [.Attribute o f pos'] value pos) (sFld X.K ta tv f):=by
 intro pins s σ H D I h;refine plainObj_wpAny_Assign_Attribute (thn (N pins s σ H _ I h) fun u Z ⟨y,H1,g,Y,q⟩=>thn (M pins Z σ H1 _ g q) fun O aa ⟨x,H2,B,U,a,C,dx,fs,ex,L,c,n,l,S⟩=>?_) hs;subst ex;obtain rfl:O=Value.ref a:=U;exact cN B L c n l Y fun ab J=>⟨σ,_,J,S⟩
def Jn{op:Operator}{g:V->V->Hp->VK->Prop}(O:PE X o ta)(U:PE X value tv)(S:InOp X op g):PS X (.AugAssign (.Attribute o f tpos) op value pos) (sFldAug X.K ta tv g f):=by
 intro pins s σ H ag I h;refine wpAny_AugAssign_AttributeAny (thn (O pins s σ H _ I h) fun Z ai ⟨x,H1,q,rx,a,C,dx,fs,v,ex,M,c,n,l,aa⟩=>?_);subst ex;obtain rfl:Z=Value.ref a:=rx;refine dC q M c n l fun u ab B ru=>thn (U pins ab σ H1 _ B aa) fun af ae ⟨y,H2,D,ry,q3⟩=>thn (S pins ae σ H2 v y u af _ D ru ry q3) fun w4 aj ⟨z,H3,J,rz,ah,fs',N,Y,q4⟩=>?_;exact cN J N c n Y rz fun ak L=>⟨σ,_,L,q4⟩
def rAdd:V->V->Hp->VK->Prop:=fun x y H Q=>∃i j,x=.int i/\y=.int j/\Q (.int (i+j)) H
def VR:InOp X .Add rAdd:=by
 rintro pins s σ H x y u v Q I g B ⟨i,j,rfl,rfl,q⟩;obtain⟨t,rfl⟩:=(show ∃t,u=Value.int i t from g);obtain⟨t',rfl⟩:=(show ∃t',v=Value.int j t' from B);exact PyProof.Rows.iadd_int ⟨.int (i+j),H,I.tok _,⟨_,rfl⟩,q⟩
end
section
variable {X:Cx}{pins:List (Addr×Obj)}{σ:St}{H:Hp}{s:Shared}{A:Around}{E:Value->Shared->Prop}{Q:Value->Shared->Prop}{c:Value}{b:Bool}
inductive jP(K:DD)(H:Hp):V->Value->Prop where
 |non:jP K H .non (.type "NoneType")
 |bl (x:Bool):jP K H (.bl x) (.type "bool")
 |int (i:Int):jP K H (.int i) (.type "int")
 |str (x:Str):jP K H (.str x) (.type "str")
 |flt (x:UInt64):jP K H (.flt x) (.type "float")
 |lst {a:Addr} {xs:List V} (e:H a=some (.lst xs)):jP K H (.ref a) (.type "list")
 |frz {a:Addr} {o:Obj} {xs:List V} (e:H a=some (.frz o (.lst xs))):jP K H (.ref a) (.type "list")
 |tup {a:Addr} {xs:List V} (e:H a=some (.tup xs)):jP K H (.ref a) (.type "tuple")
 |dK {a:Addr} {kvs:List (Key×V)} (e:H a=some (.dK kvs)):jP K H (.ref a) (.type "dict")
 |dT {a:Addr} {kvs:List (List Key×V)} (e:H a=some (.dT kvs)):jP K H (.ref a) (.type "dict")
 |ins {a C dx:Addr} {fs:List (Str×V)} (e:H a=some (.ins C dx fs)) (cl:Cls K C) (ha:PySem.W.findIn K (.ref C) "__class__" = some (some (.builtin "object.__class__")))
   (hn:PySem.W.specialIn K (.builtin "object.__class__") "__get__" = some (some (.builtin "getset_descriptor.__get__"))) (htk:PySem.W.takesIn K (.builtin "object.__class__")=some true)
   (hm:PySem.W.mroIn K C (.type "object")=some true):jP K H (.ref a) (.ref C)
def JK{x:V}{u t:Value}(I:Inv X pins σ H s)(B:RelV x u)(ty:jP X.K H x t)(e:PySem.W.kitOne X.K t c=some b)(h:∀Y,Q (.bool b) { s with toks:=Y }):
  wpAny (model X.prog X.w) A (call (.builtin "isinstance") [u,c]) Q E s:=by
 cases ty with
 |non=>cases (show u=Value.none from B);exact BD PySem.W.kitx_none I.kIn True.intro e (fun z=>nomatch z) h
 |bl y=>cases (show u=Value.bool y from B);exact BD PySem.W.kitx_bool I.kIn True.intro e (fun z=>nomatch z) h
 |int i=>obtain⟨t,q⟩:=(show ∃t,u=Value.int i t from B);cases q;exact BD PySem.W.kitx_int I.kIn True.intro e (fun z=>nomatch z) h
 |str y=>obtain⟨t,q⟩:=(show ∃t,u=Value.str y t from B);cases q;exact BD PySem.W.kitx_str I.kIn True.intro e (fun z=>nomatch z) h
 |flt y=>obtain⟨t,q⟩:=(show ∃t,u=Value.float y t from B);cases q;exact BD PySem.W.kitx_float I.kIn True.intro e (fun z=>nomatch z) h
 |@lst a xs g =>
  cases (show u=Value.ref a from B);obtain⟨_,_,n,_,h1⟩:=(show ObjOk X.prog X.w H s.heap a (.lst xs) from I.hok a _ g);exact BD PySem.W.kitx_list I.kIn ⟨_,h1,rfl⟩ e (fun z=>nomatch z) h
 |@frz a U xs g =>
  cases (show u=Value.ref a from B);obtain⟨_,_,_,n,_,h1⟩:=(show ObjOk X.prog X.w H s.heap a (.frz U (.lst xs)) from I.hok a _ g);exact BD PySem.W.kitx_list I.kIn ⟨_,h1,rfl⟩ e (fun z=>nomatch z) h
 |@tup a xs g =>
  cases (show u=Value.ref a from B);obtain⟨_,_,_,p⟩:=(show ObjOk X.prog X.w H s.heap a (.tup xs) from I.hok a _ g);obtain⟨o,h1,h2,_⟩:=p;exact BD PySem.W.kitx_tuple I.kIn ⟨o,h1,h2⟩ e (fun z=>nomatch z) h
 |@dK a kvs g =>
  cases (show u=Value.ref a from B);obtain⟨_,_,vs,_,p⟩:=(show ObjOk X.prog X.w H s.heap a (.dK kvs) from I.hok a _ g);obtain⟨o,es,ep,h1,h2,_⟩:=p;exact BD PySem.W.kitx_dict I.kIn ⟨o,h1,h2.1⟩ e (fun z=>nomatch z) h
 |@dT a kvs g =>
  cases (show u=Value.ref a from B);obtain⟨_,_,xs,_,o,es,ep,h1,h2,_⟩:=(show ObjOk X.prog X.w H s.heap a (.dT kvs) from I.hok a _ g);exact BD PySem.W.kitx_dict I.kIn ⟨o,h1,h2.1⟩ e (fun z=>nomatch z) h
 |@ins a C dx fs g D L N S M =>
  cases (show u=Value.ref a from B);obtain⟨mA,O,_⟩:=cH I.hok g;obtain⟨Z,J,_⟩:=O.look;exact BD (PySem.W.kitx_own (D.get _) D.hd L N S M) I.kIn J e (fun z=>nomatch z) h
end
structure Room(k:Nat)(A:Around):Prop where
 hd:A.handled=none
 dp:A.depth+3 * k+5 < recursionLimit
 un:A.units+16 * k+200 < cLine
 gd:A.guards=some []
def Room.mono{j k:Nat}{A:Around}(r:Room k A)(h:j<=k):Room j A:=⟨r.hd,by have:=r.dp;omega,by have:=r.un;omega,r.gd⟩
def Room.deeper{k:Nat}{A:Around}(r:Room (k+1) A)(g:Env):Room k (A.deeper g) :=
 ⟨r.hd,by have:=r.dp;show A.depth+1+3 * k+5 < _;omega,by have:=r.un;show A.units+3+16 * k+200 < _;omega,r.gd⟩
def XI{A:Around}{C:Addr}{us:List Value}{g:List (Str×Value)}:(A.under (.builtin "type.__call__" ⟨.ref C::us,g⟩)).depth=A.depth+1:=by
 first | rfl | simp[Around.under,Code.weight,Code.isCreation,Code.isGuard,Code.isCaller,Code.frames,Code.isFrame,guardIds]
def XH{A:Around}{C:Addr}{us:List Value}{g:List (Str×Value)}:(A.under (.builtin "type.__call__" ⟨.ref C::us,g⟩)).units=A.units+1:=by
 first | rfl | simp[Around.under,Code.cUnits,Code.frames,Code.isFrame]
def Qr{A:Around}{C:Addr}{us:List Value}{g:List (Str×Value)}:(A.under (.builtin "type.__call__" ⟨.ref C::us,g⟩)).guards=A.guards:=by
 first | rfl | simp[Around.under,Code.isGuard,guardIds]
def Room.make{k:Nat}{A:Around}(r:Room (k+1) A)(C:Addr)(us:List Value)(g:List (Str×Value)):Room k (A.under (.builtin "type.__call__" ⟨.ref C::us,g⟩)) :=
 ⟨r.hd,by have:=r.dp;rw[XI];omega,by have:=r.un;rw[XH];omega,by rw[Qr];exact r.gd⟩
def Room.depth{k:Nat}{A:Around}(r:Room k A):A.depth < recursionLimit:=by have:=r.dp;omega
def Room.units{k:Nat}{A:Around}(r:Room k A):A.units+64 < cLine:=by have:=r.un;omega
def tNil:TA:=fun _ H Q=>Q [] H
def KB(ta:TE)(g:TA):TA:=fun σ H Q=>ta σ H fun x H1=>g σ H1 fun xs H2=>Q (x::xs) H2
section
variable {X:Cx}{e:Expr}{es:List Expr}{te:TE}{t:TA}{pos:Pos}
def cL:PA X [] tNil:=fun _ _ _ _ H Q I h=>Calls.spliced_nil ⟨[],H,I,.nil,h⟩
def Zw(B:PE X e te)(D:PA X es t)(hs:starEach (e::es) X.env=(false,eval e X.env)::starEach es X.env:=by rfl):PA X (e::es) (KB te t):=by
 intro pos pins s σ H Q I h;rw[hs];show wpAny _ _ (spliced ((false,eval e X.env)::backTo pos (starEach es X.env))) _ _ s;refine Calls.spliced_cons (thn (B pins s σ H _ I h) fun u O ⟨x,H1,g,M,J⟩=>?_);exact thn (D pos pins O σ H1 _ g J) fun us S ⟨xs,H2,q,N,L⟩=>⟨x::xs,H2,q,.cons M N,L⟩
inductive Oz(o:List V->HO)(Q:VK)(xs:List V)(H:Hp):Prop
 |mk(h:xs.length<=sizeLine)(q:∀p,H p=none->Q (.ref p) (upd H p (o xs)))
def tTup(t:TA):TE:=fun σ H Q=>t σ H (Oz .tup Q)
def tLst(t:TA):TE:=fun σ H Q=>t σ H (Oz .lst Q)
def pe_tup{L}(h:PA X es t):PE X (.Tuple es L pos) (tTup t):=by
 intro pins s σ H Q I J;refine wpAny_Tuple_spliced (thn (h pos pins s σ H _ I J) fun us g ⟨xs,H1,B,r,z,q⟩=>⟨by rw[<- r.length];exact z,?_⟩);have D:H1 g.heap.objs.size=none:=B.hok.fresh (AO _);refine⟨.ref g.heap.objs.size,upd H1 g.heap.objs.size (.tup xs),B.laid (t':=g.toks) (fun b u e=>AW _ e) (AO _) ?_,rfl,q _ D⟩;exact⟨z,us,r,⟨_,Ae _ rfl,rfl,⟨_,rfl⟩,rfl⟩⟩
def pe_lst(h:PA X es t):PE X (.List es pos) (tLst t):=by
 intro pins s σ H Q I J;refine wpAny_List_spliced (thn (h pos pins s σ H _ I J) fun us g ⟨xs,H1,B,r,z,q⟩=>⟨by rw[<- r.length];exact z,?_⟩);have D:H1 g.heap.objs.size=none:=B.hok.fresh (AO _);refine⟨.ref g.heap.objs.size,upd H1 g.heap.objs.size (.lst xs),B.laid (t':=g.toks) (fun b u e=>AW _ e) (AO _) ?_,rfl,q _ D⟩;exact⟨z,us,0,r,Ae _ rfl⟩
end
abbrev Sp:=List V->Hp->VK->XK->Prop
abbrev CXT:=List Env->Hp->Shared->XK->Value->Shared->Prop
structure Env0(P:Program)(w:World)(K:DD)(mg:Str->Option Value)(base:Heap)(A:Around)(outer:List Env)(s:Shared)(H:Hp):Prop where
 frames:A.frames=some outer
 mod:Mod K mg base
 bs:∀b o,base.get? b=some o->s.heap.get? b=some o/\H b=none
 bsz:base.objs.size<=s.heap.objs.size
 funs:s.heap.FunFrames base outer
 frf:∀b∈frs outer,H b=none
 hok:HOk P w H s.heap
 bare:AllBare s.gens
def CE(g:List Env)(P:Program)(w:World)(H:Hp)(s:Shared)(Q:VK)(u:Value)(s':Shared):Prop :=
 ∃v H',s'.os=s.os/\AllBare s'.gens/\Un (frs g) [] H H' s.heap s'.heap/\HOk P w H' s'.heap/\RelV v u/\Q v H'
def CR(CX:CXT)(g:List Env)(P:Program)(w:World)(H:Hp)(s:Shared)(Q:VK)(E:XK)(r:Result)(s':Shared):Prop :=
 match r with
 |.ok (.ret u)=>CE g P w H s Q u s'
 |.ok _=>False
 |.error e=>CX g H s E e s'
structure FnOk(P:Program)(w:World)(K:DD)(mg:Str->Option Value)(base:Heap)(CX:CXT)(k:Nat)(f:Addr)(fd:FuncData)(ps:List Str)(sp:Sp):Prop where
 len:∀vs H Q E,sp vs H Q E->vs.length=ps.length
 run:∀(A:Around)(outer:List Env)(s:Shared)(H:Hp)(args:Args)(us:List Value)(vs:List V)(Q:VK)(E:XK),Room k A->Env0 P w K mg base A outer s H->BindsTo s fd args (ps.zip us)->Vals vs us->sp vs H Q E ->
  codeAny (model P w) A (.call (.ref f) args) (CR CX outer P w H s Q E) s
def FnOk.mono{P:Program}{w:World}{K:DD}{mg:Str->Option Value}{base:Heap}{CX:CXT}{j k:Nat}{f:Addr}{fd:FuncData}{ps:List Str}{sp:Sp}(F:FnOk P w K mg base CX j f fd ps sp)(h:j<=k):
  FnOk P w K mg base CX k f fd ps sp:=⟨F.len,fun A B s H g us vs Q E q=>F.run A B s H g us vs Q E (q.mono h)⟩
def Env0.make{P:Program}{w:World}{K:DD}{mg:Str->Option Value}{base:Heap}{A:Around}{g:List Env}{s:Shared}{H:Hp}(e:Env0 P w K mg base A g s H)(C:Addr)(us:List Value)(q:List (Str×Value)):
  Env0 P w K mg base (A.under (.builtin "type.__call__" ⟨.ref C::us,q⟩)) g s H:=⟨by first | exact e.frames | (simpa [Around.under,Code.envs,Code.isFrame,pushEnvs] using e.frames),e.mod,e.bs,e.bsz,e.funs,e.frf,e.hok,e.bare⟩
section
variable {X:Cx}{pins:List (Addr×Obj)}{σ:St}{H:Hp}{s s':Shared}
def Inv.env0(I:Inv X pins σ H s):Env0 X.prog X.w X.K X.mg X.base X.A X.stack s H :=
 ⟨I.ok.frames,I.ok.mod,I.bs,AR I.ok.bsz I.sz,I.stack,I.stkFree,I.hok,I.bare⟩
def Inv.after{Q:VK}{u:Value}(I:Inv X pins σ H s)(h:CE X.stack X.prog X.w H s Q u s'):EP X pins σ Q u s':=by
 obtain⟨v,H',L,B,N,J,r,q⟩:=h;obtain⟨D,g,d,t,M⟩:=s';obtain rfl:M=s.os:=L;exact⟨v,H',I.call (h':=D) (g':=g) (d':=d) (t':=t) (ch:=[]) N J B (fun b z=>absurd z (by simp)),r,q⟩
end
def KC(sp:Sp)(dvs:List V)(E:XK)(t:TA):TE:=fun σ H Q=>t σ H fun vs H1=>sp (vs++dvs) H1 Q E
def tMeth(C:Addr)(m:Str)(sp:Sp)(dvs:List V)(E:XK)(ta:TE)(t:TA):TE:=fun σ H Q=>ta σ H fun x H1=>∃a dx fs,x=.ref a/\H1 a=some (.ins C dx fs)/\fs.lookup m=none /\
 t σ H1 fun vs H2=>sp (x::(vs++dvs)) H2 Q E
def tMake(C:Addr)(sp:Sp)(dvs:List V)(E:XK)(t:TA):TE:=fun σ H Q=>t σ H fun vs H1=>∀x dx,H1 x=none->H1 dx=none->dx≠x ->
 sp (.ref x::(vs++dvs)) (upd (upd H1 dx (.own x)) x (.ins C dx [])) (fun v H2=>v=.non/\Q (.ref x) H2) E
def Binds(K:DD)(fd:FuncData)(ps:List Str)(ds:List Value):Prop :=
 ∀(s:Shared)(us:List Value),K.In s.heap->(us++ds).length=ps.length->BindsTo s fd ⟨us,[]⟩ (ps.zip (us++ds))
def Binds.all{K:DD}{fd:FuncData}{ps:List Str}(h:∀us:List Value,us.length=ps.length->bindArgs fd ⟨us,[]⟩=pure (ps.zip us)):Binds K fd ps []:=fun s us _ g=>by
 rw[AH] at g ⊢;exact .of_eq (h us g)
def jW(CX:CXT)(X:Cx)(E:XK):Prop:=∀(pins:List (Addr×Obj))(σ:St)(H:Hp)(s:Shared)(e:Value)(s':Shared),Inv X pins σ H s->CX X.stack H s E e s'->X.xe e s'
section
variable {X:Cx}{CX:CXT}{k:Nat}{f C:Addr}{fd:FuncData}{ps:List Str}{sp:Sp}{dvs:List V}{ds:List Value}{E:XK}{x m:Str}{p pos apos:Pos}{e o:Expr}{es:List Expr}{ta:TE}{t:TA}
def Xt{pins:List (Addr×Obj)}{σ:St}{H:Hp}{s:Shared}{Q:VK}{us:List Value}{vs:List V}(F:FnOk X.prog X.w X.K X.mg X.base CX k f fd ps sp)(M:Room k X.A)(D:Binds X.K fd ps ds)(J:Vals dvs ds)(N:jW CX X E)(I:Inv X pins σ H s)(r:Vals vs us)(h:sp (vs++dvs) H Q E):wpAny (model X.prog X.w) X.A (call (.ref f) us) (EP X pins σ Q) X.xe s:=by
 have q:Vals (vs++dvs) (us++ds):=r.append J;have L:(us++ds).length=ps.length:=by rw[<- q.length];exact F.len _ _ _ _ h
 refine wpAny_call (codeAny_mono (F.run X.A X.stack s H ⟨us,[]⟩ (us++ds) (vs++dvs) Q E M I.env0 (D s us I.kIn L) q h) fun r s' g=>?_)
 cases r with
 |error e=>exact N pins σ H s e s' I g
 |ok B =>
  cases B with
  |ret u=>exact I.after g
  |next=>exact False.elim g
  |brk=>exact False.elim g
  |cont=>exact False.elim g
def pe_call(F:FnOk X.prog X.w X.K X.mg X.base CX k f fd ps sp)(Y:Room k X.A)(N:Gl X x)(S:X.mg x=some (.ref f))(O:PySem.W.keepIn X.K (.ref f)=true)(D:Binds X.K fd ps ds)(J:Vals dvs ds)(Z:jW CX X E)(B:PA X (e::es) t)(L:(x==("__debug__" : Str))=false:=by decide)(M:starEach (e::es) X.env=(false,eval e X.env)::starEach es X.env:=by rfl)(U:(backTo pos (starEach es X.env)).any (·.1)=false:=by rfl):
  PE X (.Call (.Name x p) (e::es) [] pos) (KC sp dvs E t):=by
 intro pins s σ H Q I h;refine B6 (dH I N S ?_ L);refine PySem.W.callWith_K (h₀:=X.base) I.ok.mod.kin O (thn (B pos pins s σ H _ I h) fun us aa ⟨vs,H1,g,r,q⟩=>⟨g.kIn,?_⟩) M U;exact Xt F Y D J Z g r q
def pe_meth{pl:Sem Bool}(O:PE X o ta)(c:Cls X.K C)(B:WY X.K C m f)(F:FnOk X.prog X.w X.K X.mg X.base CX k f fd ps sp)(U:Room k X.A)(M:Binds X.K fd ps ds)(N:Vals dvs ds)(hx:jW CX X E)(L:PA X (e::es) t)(Y:starEach (e::es) X.env=(false,eval e X.env)::starEach es X.env:=by rfl)(S:(backTo pos (starEach es X.env)).any (·.1)=false:=by rfl)(Z:eval (.Call (.Attribute o m apos) (e::es) [] pos) X.env=(do
   let D <- eval o X.env
   standAt apos.atName
   let (f,first) <- holding [D] (getMethod D m pl)
   callWith pos f first (backTo pos (starEach (e::es) X.env)) (backToKw pos (keywordEach [] X.env))):=by rfl):
  PE X (.Call (.Attribute o m apos) (e::es) [] pos) (tMeth C m sp dvs E ta t):=by
 intro pins s σ H Q I h;refine PySem.W.methodCall_KW (pl:=pl) (thn (O pins s σ H _ I h) fun u ab ⟨x,H1,g,rx,a,dx,fs,ex,J,l,aa⟩=>?_) Z;subst ex;obtain rfl:u=Value.ref a:=rx;refine pC g J c B l ?_;refine PySem.W.callWith_K (first:=[.ref a]) (h₀:=X.base) I.ok.mod.kin B.kp (thn (L pos pins ab σ H1 _ g aa) fun us ae ⟨vs,H2,q,r,q2⟩=>⟨q.kIn,?_⟩) Y S;exact Xt (us:=.ref a::us) (vs:=.ref a::vs) F U M N hx q (.cons rfl r) q2
def Vd{pl:Sem Bool}(N:PE X o ta)(c:Cls X.K C)(B:WY X.K C m f)(F:FnOk X.prog X.w X.K X.mg X.base CX k f fd ps sp)(O:Room k X.A)(L:Binds X.K fd ps ds)(M:Vals dvs ds)(U:jW CX X E)(S:eval (.Call (.Attribute o m apos) [] [] pos) X.env=(do
   let D <- eval o X.env
   standAt apos.atName
   let (f,first) <- holding [D] (getMethod D m pl)
   callWith pos f first (backTo pos (starEach [] X.env)) (backToKw pos (keywordEach [] X.env))):=by rfl):
  PE X (.Call (.Attribute o m apos) [] [] pos) (tMeth C m sp dvs E ta tNil):=by
 intro pins s σ H Q I h;refine PySem.W.methodCall_KW (pl:=pl) (thn (N pins s σ H _ I h) fun u Z ⟨x,H1,g,Y,a,dx,fs,ex,J,l,q⟩=>?_) S;subst ex;obtain rfl:u=Value.ref a:=Y;refine pC g J c B l ?_;exact PySem.W.callWith_K0 (first:=[.ref a]) g.kIn B.kp (Xt (us:=[.ref a]) (vs:=[.ref a]) F O L M U g (.cons rfl .nil) q)
structure Mk(K:DD)(C f:Addr):Prop where
 makes:PySem.W.makesIn K C=true
 init:PySem.W.findIn K (.ref C) "__init__" = some (some (.ref f))
 fn:PySem.W.isFn K (.ref f)=true
 kp:PySem.W.keepIn K (.ref C)=true
def Qb{pins:List (Addr×Obj)}{σ:St}{H:Hp}{s:Shared}{Q:VK}{us:List Value}{vs:List V}(M:Mk X.K C f)(F:FnOk X.prog X.w X.K X.mg X.base CX k f fd ps sp)(Y:Room (k+1) X.A)(O:Binds X.K fd ps ds)(S:Vals dvs ds)(Z:jW CX X E)(I:Inv X pins σ H s)(r:Vals vs us)(h:∀x dx,H x=none->H dx=none->dx≠x->sp (.ref x::(vs++dvs)) (upd (upd H dx (.own x)) x (.ins C dx [])) (fun v H2=>v=.non/\Q (.ref x) H2) E):
  wpAny (model X.prog X.w) X.A (call (.ref C) us) (EP X pins σ Q) X.xe s:=by
 have B:=h (s.heap.objs.size+1) s.heap.objs.size (I.hok.fresh (B9 _)) (I.hok.fresh (AO _)) (Av (BB _));have q:=Inv.made (C:=C) I;have D:Vals (V.ref (s.heap.objs.size+1)::(vs++dvs)) (Value.ref (s.heap.objs.size+1)::(us++ds)):=.cons rfl (r.append S)
 have U:(Value.ref (s.heap.objs.size+1)::us++ds).length=ps.length:=by
  have e:=D.length;rw[F.len _ _ _ _ B] at e;exact e.symm
 refine wpAny_call (VD (f:=f) I.kIn M.makes M.init (Cg.mp M.fn) (codeAny_mono (F.run _ X.stack _ _ ⟨Value.ref (s.heap.objs.size+1)::us,[]⟩ (Value.ref (s.heap.objs.size+1)::(us++ds)) _ _ E (Y.make C us [])
  (q.env0.make C us []) (O _ (Value.ref (s.heap.objs.size+1)::us) q.kIn U) D B) fun r s' g=>?_))
 cases r with
 |error e=>exact Z pins σ _ _ e s' q g
 |ok N =>
  cases N with
  |ret u =>
   obtain⟨v,H',J,rv,L,q3⟩:=q.after g;subst L;exact⟨rv,⟨V.ref (s.heap.objs.size+1),H',J,rfl,q3⟩⟩
  |next=>exact False.elim g
  |brk=>exact False.elim g
  |cont=>exact False.elim g
def pe_make(M:Mk X.K C f)(F:FnOk X.prog X.w X.K X.mg X.base CX k f fd ps sp)(Y:Room (k+1) X.A)(O:Gl X x)(S:X.mg x=some (.ref C))(D:Binds X.K fd ps ds)(J:Vals dvs ds)(Z:jW CX X E)(B:PA X (e::es) t)(L:(x==("__debug__" : Str))=false:=by decide)(N:starEach (e::es) X.env=(false,eval e X.env)::starEach es X.env:=by rfl)(U:(backTo pos (starEach es X.env)).any (·.1)=false:=by rfl):
  PE X (.Call (.Name x p) (e::es) [] pos) (tMake C sp dvs E t):=by
 intro pins s σ H Q I h;refine B6 (dH I O S ?_ L);refine PySem.W.callWith_K (h₀:=X.base) I.ok.mod.kin M.kp (thn (B pos pins s σ H _ I h) fun us aa ⟨vs,H1,g,r,q⟩=>⟨g.kIn,?_⟩) N U;exact Qb M F Y D J Z g r q
def Ve(M:Mk X.K C f)(F:FnOk X.prog X.w X.K X.mg X.base CX k f fd ps sp)(L:Room (k+1) X.A)(D:Gl X x)(J:X.mg x=some (.ref C))(g:Binds X.K fd ps ds)(q:Vals dvs ds)(N:jW CX X E)(B:(x==("__debug__" : Str))=false:=by decide):PE X (.Call (.Name x p) [] [] pos) (tMake C sp dvs E tNil):=by
 intro pins s σ H Q I h;refine B6 (dH I D J ?_ B);exact PySem.W.callWith_K0 I.kIn M.kp (Qb (us:=[]) M F L g q N I .nil h)
end
structure FnScope(N P:List Str)(sc:Scope):Prop where
 kind:sc.kind=.function
 co:sc.isCoroutine=false
 gen:sc.isGenerator=false
 nd:N.Nodup
 pre:N.take P.length=P
 par:∀x∈P,sc.names.lookup x=some .local\/sc.names.lookup x=some .cell
 nofree:∀y∈sc.names,y.2≠.free
theorem lO{B:Str->Option NameKind}{x:Str}:∀{g:List (Str×Value)}{m:Str->Option Value},(∀v,(x,v)∉g)->bindL B g m x=m x
 |[],_,_=>rfl
 | (n,v)::r,m,h=>by
  unfold bindL;rw[lO fun w q=>h w (AF _ q)]
  split
  .have:x≠n:=by rintro rfl;exact h v AI
   simp[this]
  .rfl
theorem nO{B:Str->Option NameKind}{x:Str}:∀{g:List (Str×Value)}{m:Str->Option Value},(∀v,(x,v)∉g)->bindC B g m x=m x
 |[],_,_=>rfl
 | (n,v)::r,m,h=>by
  unfold bindC;rw[nO fun w q=>h w (AF _ q)]
  split
  .rfl
  .have:x≠n:=by rintro rfl;exact h v AI
   simp[this]
theorem rO{g:Str->Option NameKind}{x:Str}{v:Value}:∀{P:List Str}{vs:List Value}{i:Nat}{m:Str->Option Value},P.Nodup->P[i]?=some x->vs[i]?=some v->g x=some .local ->
  bindL g (P.zip vs) m x=some v
 |[],_,_,_,_,h,_,_=>by simp at h
 |_::_,[],_,_,_,_,h,_=>by simp at h
 |p::P,w::vs,0,m,nd,h1,h2,q=>by
  simp at h1 h2;subst h1;subst h2
  show bindL g ((p,w)::P.zip vs) m p=_;unfold bindL;rw[lO fun v B=>(B3.mp nd).1 (List.of_mem_zip B).1,Al q]
  simp
 |p::P,w::vs,i+1,m,nd,h1,h2,q=>by
  show bindL g ((p,w)::P.zip vs) m x=_;unfold bindL;exact rO (i:=i) (B3.mp nd).2 (by simpa using h1) (by simpa using h2) q
theorem sO{g:Str->Option NameKind}{x:Str}{v:Value}:∀{P:List Str}{vs:List Value}{i:Nat}{m:Str->Option Value},P.Nodup->P[i]?=some x->vs[i]?=some v->g x≠some .local ->
  bindC g (P.zip vs) m x=some v
 |[],_,_,_,_,h,_,_=>by simp at h
 |_::_,[],_,_,_,_,h,_=>by simp at h
 |p::P,w::vs,0,m,nd,h1,h2,q=>by
  simp at h1 h2;subst h1;subst h2
  show bindC g ((p,w)::P.zip vs) m p=_;unfold bindC;rw[nO fun v B=>(B3.mp nd).1 (List.of_mem_zip B).1,Am q]
  simp
 |p::P,w::vs,i+1,m,nd,h1,h2,q=>by
  show bindC g ((p,w)::P.zip vs) m x=_;unfold bindC;exact sO (i:=i) (B3.mp nd).2 (by simpa using h1) (by simpa using h2) q
def start(N:List Str)(vs:List V):St:=vs.map some++List.replicate (N.length - vs.length) none
def lA(CX:CXT)(P:Program)(w:World)(K:DD)(mg:Str->Option Value)(base:Heap)(N:List Str)(B:Str)(D:Scope)(f:Addr)(g:Value)(A:Around)(q:List Env)(s:Shared)(H:Hp)(E:XK):Cx where
 prog:=P
 w:=w
 K:=K
 mg:=mg
 base:=base
 A:=A.deeper (envOfC B D s.heap.objs.size f g)
 N:=N
 s₀:=s
 H₀:=H
 env:=envOfC B D s.heap.objs.size f g
 outer:=q
 stack:=envOfC B D s.heap.objs.size f g::q
 ex:=[]
 calm:=true
 fn:=fun _=>true
 pn:=[]
 xe:=fun e s'=>wpAny (model P w) (A.deeper (envOfC B D s.heap.objs.size f g)) (leaving (envOfC B D s.heap.objs.size f g) e) (fun _ I=>CX q H s E e I) (fun J I=>CX q H s E J I) s'
def kR{g:Scope}{n:Nat}{x:Str}(h:g.names.lookup x=some .cell):∃c,(cellsFrom n g.names []).lookup x=some c:=by
 have q:=PySem.W.cellsFrom_some g.names n [] (.inl h);exact Option.isSome_iff_exists.mp q
def JL{CX:CXT}{P:Program}{w:World}{K:DD}{mg:Str->Option Value}{base:Heap}{N ps:List Str}{L:Str}{B:Scope}{f:Addr}{J:Value}{A:Around}{O:List Env}{s aa:Shared}{H:Hp}{E:XK}{us:List Value}{vs:List V}(S:FnScope N ps B)(ab:A.handled=none)(g:Env0 P w K mg base A O s H)(hl:vs.length=ps.length)(r:Vals vs us)(x:InCallC s s.heap.objs.size (bindL (envOfC L B s.heap.objs.size f J).kindOf (ps.zip us) fun _=>none) (cellsFrom (s.heap.objs.size+1) B.names []) (bindC (envOfC L B s.heap.objs.size f J).kindOf (ps.zip us) fun _=>none) aa):
  Inv (lA CX P w K mg base N L B f J A O s H E) [] (start N vs) H aa:=by
 have ae:ps.length<=N.length:=by have:=A3 List.length S.pre;rw[CV] at this;omega
 obtain⟨h1,af,rfl,U⟩:=x.done;have M:∀b:Addr,b∉(lA CX P w K mg base N L B f J A O s H E).ex:=fun b z=>absurd (show b∈([]:List Addr) from z) (by simp)
 refine⟨⟨g.mod,S.kind,rfl,rfl,AO _,fun y z c h1 h2=>?_,fun y D=>?_,fun y c _ h=>?_,fun _=>ab,Around.frames_deeper g.frames,.inr ⟨rfl,rfl⟩,fun b z=>absurd z (M b),g.bs,g.bsz,fun b _ _=>M b,fun b z=>absurd z (M b),g.funs,g.frf⟩,
  rfl,g.bare,Un.kept U,⟨_,x.toInCall.ns,fun i y v h1 h2 h3=>?_⟩,fun y c h=>⟨_,x.cell y c h⟩,g.hok.fresh (AO _),fun y c h=>?_,fun p I=>absurd (show p∈([]:List (Addr×Obj)) from I) (by simp),g.hok.kept U,?_⟩
 .exact name_of_addr x.apart (By h1) (By h2)
 .have D:B.names.lookup y=some .cell\/B.names.lookup y=some .free:=D
  rcases D with D | D
  .exact kR D
  .exact absurd rfl (S.nofree _ (By D))
 .exact Nat.le_of_lt (x.above y c (By h))
 .have hi:i < vs.length:=by
   unfold start at h2
   by_cases hi:i < vs.length
   .exact hi
   .rw [A8 (by simpa using hi)] at h2
    rw[List.getElem?_replicate] at h2
    split at h2<;>cases h2
  have ha:vs[i]?=some v:=by
   unfold start at h2;rw[Bw (by simpa using hi),Ah] at h2
   cases e:vs[i]? with
   |none=>rw[e] at h2;cases h2
   |some a=>rw[e] at h2;cases h2;rfl
  obtain⟨u,Y,rv⟩:=r.get ha
  have I:ps[i]?=some y:=by
   rw[<- S.pre,List.getElem?_take_of_lt (by omega)];exact h1
  have Z:ps.Nodup:=by rw[<- S.pre];exact S.nd.sublist (CM _ _)
  refine⟨u,rv,?_⟩
  rcases S.par y (Ao I) with k | k
  .exact .inl ⟨k,rO Z I Y k⟩
  .obtain ⟨c,e⟩:=kR (n:=s.heap.objs.size+1) k
   refine .inr ⟨.inl k,c,e,?_⟩;have q:=x.cell y c e;rw[sO Z I Y (by show B.names.lookup y≠_;rw[k];decide)] at q;exact q
 .exact g.hok.fresh (Nat.le_of_lt (x.above y c (By h)))
 .unfold start
  show _=N.length;rw[AA,AB,BX];omega
def fn_of{CX:CXT}{P:Program}{w:World}{K:DD}{mg:Str->Option Value}{base:Heap}{k:Nat}{f:Addr}{name D:Str}{ai:Arguments}{O:List Stmt}{g:Scope}{dV ag ab aj B ct oc:Value}{aa od:Option Addr}{ay:Array (Option Value)}{N ps:List Str}{sp:Sp}(ax:K.lookup f=some ⟨oc,od,.func (PySem.W.fnOf name D ai O g dV ag ab aj aa B ct),ay⟩)(ar:PySem.W.codeIn K B D=true)(S:FnScope N ps g)(ah:∀vs H Q E,sp vs H Q E->vs.length=ps.length)(aq:∀(A:Around)(I:List Env)(s:Shared)(H:Hp)(vs:List V)(Q:VK)(E:XK),Room k (A.deeper (envOfC D g s.heap.objs.size f B))->sp vs H Q E ->
   ∃t,PSs (lA CX P w K mg base N D g f B A I s H E) O t/\t { nx:=fun _ H'=>Q .non H',rt:=Q } (start N vs) H):
  FnOk P w K mg base CX (k+1) f (PySem.W.fnOf name D ai O g dV ag ab aj aa B ct) ps sp:=by
 refine⟨ah,fun A I s H az us vs Q E U L hb r af=>?_⟩;have hl:=ah _ _ _ _ af;have Z:K.In s.heap:=L.mod.kin.keeps fun b o e=>(L.bs b o e).1;have aw:s.heap.NoLimit:=L.mod.nolimit.keeps fun b o e=>(L.bs b o e).1
 have av:∀y∈ps.zip us,g.names.lookup y.1=some .local\/(g.names.lookup y.1=some .cell/\((cellsFrom (s.heap.objs.size+1) g.names []).lookup y.1).isSome=true):=fun⟨n,v⟩ hy=>by
  rcases S.par n (List.of_mem_zip hy).1 with q | q
  .exact .inl q
  .exact .inr ⟨q,PySem.W.cellsFrom_some _ _ _ (.inl q)⟩
 refine codeAny_call_function U.depth (Z _ _ ax) rfl S.co S.gen rfl (PySem.W.codeRec_of Z ar) (hb _ _ _ _ ?_);refine wpAny_newFunctionEnv_cells S.kind av fun a0 au ak x=>?_;subst au;refine⟨aw.keeps x.toInCall.keep,codeAny_func ?_⟩;obtain⟨t,ht,hq⟩:=aq A I s H vs Q E (U.deeper _) af;have ao:Inv (lA CX P w K mg base N D g f B A I s H E) [] (start N vs) H ak:=JL S U.hd L hl r x
 refine Ba (ht [] ak (start N vs) H _ ao hq) (fun fl s' hs=>?_) fun e s' hs=>hs
 have ae:∀{M:St}{H':Hp}{v:V}{u:Value},Inv (lA CX P w K mg base N D g f B A I s H E) [] M H' s'->RelV v u->Q v H'->CE I P w H s Q u s' :=
  fun {M H' v u}J Y q=>⟨v,H',J.os,J.bare,J.base,J.hok,Y,q⟩
 cases fl with
 |ret u =>
  obtain⟨v,M,H',J,Y,q⟩:=hs;exact ae J Y q
 |next =>
  obtain⟨M,H',J,q⟩:=hs;exact ae (v:=V.non) (u:=Value.none) J rfl q
 |brk =>
  obtain⟨_,_,_,q⟩:=hs;exact False.elim q
 |cont =>
  obtain⟨_,_,_,q⟩:=hs;exact False.elim q
section
variable {X:Cx}{x:Str}{p pos:Pos}{e:Expr}{es:List Expr}{t:TA}{id T:String}{r:List V->Hp->VK->Prop}
def tCB(r:List V->Hp->VK->Prop)(t:TA):TE:=fun σ H Q=>t σ H fun vs H1=>r vs H1 Q
def Vj(B:CallR X (.builtin id) r)(L:Gl X x)(M:X.mg x=none)(S:bootBuiltins x=some (.builtin id))(q:PA X (e::es) t)(N:x ≠ "__name__":=by decide)(D:(x==("__debug__" : Str))=false:=by decide)(J:starEach (e::es) X.env=(false,eval e X.env)::starEach es X.env:=by rfl)(O:(backTo pos (starEach es X.env)).any (·.1)=false:=by rfl):PE X (.Call (.Name x p) (e::es) [] pos) (tCB r t):=by
 intro pins s σ H Q I h;refine B6 (rL I L M S ?_ N D);exact PyProof.Rows.callWith_builtin1 (thn (q pos pins s σ H _ I h) fun us Z ⟨vs,H1,g,Y,U⟩=>B pins Z σ H1 vs us Q g Y U) J O
def Jp(B:CallR X (.type T) r)(L:Gl X x)(M:X.mg x=none)(S:bootBuiltins x=some (.type T))(q:PA X (e::es) t)(N:x ≠ "__name__":=by decide)(D:(x==("__debug__" : Str))=false:=by decide)(J:starEach (e::es) X.env=(false,eval e X.env)::starEach es X.env:=by rfl)(O:(backTo pos (starEach es X.env)).any (·.1)=false:=by rfl):PE X (.Call (.Name x p) (e::es) [] pos) (tCB r t):=by
 intro pins s σ H Q I h;refine B6 (rL I L M S ?_ N D);exact Bo (thn (q pos pins s σ H _ I h) fun us Z ⟨vs,H1,g,Y,U⟩=>B pins Z σ H1 vs us Q g Y U) J O
end
end L2
namespace HT
open PySem PyProof.Rows
section
variable {prog:Program}{w:World}{A:Around}{E:Value->Shared->Prop}{s:Shared}
def cat_tup{t b:Addr}{vs ws:List Value}{Q:Value->Shared->Prop}(ht:IsTup s.heap t vs.toArray)(hb:IsTup s.heap b ws.toArray)(O:vs≠[])(h1:ws=[]->Q (.ref t) s)(h2:ws≠[]->Q (.ref s.heap.objs.size) { s with heap:=s.heap.push { cls:=.type "tuple",data:=.seq (vs++ws).toArray } })(hsz:vs.length+ws.length<=sizeLine):wpAny (model prog w) A (binaryOp .Add (.ref t) (.ref b)) Q E s:=by
 obtain⟨⟨Z,D,aa,U⟩,g,J,n,M⟩:=id ht;obtain⟨⟨ab,I,ae,Y⟩,q,L,S,N⟩:=id hb
 simp only at J M L N
 subst J M L N;have e:vs.toArray++ws.toArray=(vs++ws).toArray:=by simp
 by_cases B:ws=[]
 .exact concat_meets ⟨_,g,rfl⟩ ⟨_,q,rfl⟩ noFill_tuple_add seq_tuple_add Cr Cp (Ck _ _)
   (tuple_addW1 t b vs.toArray ws.toArray n S D I U Y (by simpa using O) (by simp[B])) ⟨g,q,h1 B⟩
 .refine concat_meets ⟨_,g,rfl⟩ ⟨_,q,rfl⟩ noFill_tuple_add seq_tuple_add Cr Cp (Ck _ _)
   (tuple_addW2 t b vs.toArray ws.toArray n S D I U Y (by simpa using O) (by simpa using B) (by rw[AV,AV];exact hsz)) ⟨g,q,?_⟩
  rw[e];exact h2 B
def sIx(n d:Nat):Option Int->Nat
 |none=>d
 |some v=>if v < 0 then (v+(n:Int)).toNat else min v.toNat n
def sIx_none(n d:Nat):sIx n d none=d:=rfl
def sIx_nat(n d k:Nat):sIx n d (some (k:Int))=min k n:=by
 show(if (k:Int) < 0 then ((k:Int)+(n:Int)).toNat else min (k:Int).toNat n)=min k n;rw[Am (by omega),Bp]
def sIx_le(n d:Nat)(q:d<=n)(o:Option Int):sIx n d o<=n:=by
 cases o with
 |none=>exact q
 |some v =>
  show(if v < 0 then (v+(n:Int)).toNat else min v.toNat n)<=n
  by_cases g:v < 0
  .rw [Al g];omega
  .rw [Am g];exact Nat.min_le_right _ _
def Z1(v:Int)(n d:Nat):(if v < 0 then max (v+(n:Int)) 0 else min v (n:Int))=((sIx n d (some v):Nat):Int):=by
 show(if v < 0 then max (v+(n:Int)) 0 else min v (n:Int))=(((if v < 0 then (v+(n:Int)).toNat else min v.toNat n):Nat):Int)
 by_cases g:v < 0
 .simp only[if_pos g];omega
 .simp only[if_neg g];omega
def Za(lo hi:Option Int)(n:Nat):Builtin.Slice.sliceAdjust lo hi 1 (n:Int)=(((sIx n 0 lo:Nat):Int),((sIx n n hi:Nat):Int)):=by
 have h1:¬ ((1:Int) < 0):=by omega
 unfold Builtin.Slice.sliceAdjust
 simp only[h1,if_false]
 refine Prod.ext ?_ ?_
 .cases lo with
  |none=>rfl
  |some v=>exact Z1 v n 0
 .cases hi with
  |none=>rfl
  |some v=>exact Z1 v n n
def Xw(i j:Nat):Builtin.Slice.slicePlaces (i:Int) (j:Int) 1=j - i:=by
 unfold Builtin.Slice.slicePlaces;have h1:(1:Int) > 0:=by omega
 simp only[h1,if_true,Int.ediv_one]
 split<;>omega
def mN{v:Value}{o:Option Int}{Q:Option Int->Shared->Prop}(p:IsPart v o)(h:Q o s):wpAny (model prog w) A (Builtin.Slice.slicePartIndex v) Q E s:=by
 cases p with
 |none=>exact slicePart_none h
 |int i t=>exact slicePart_int h
def gL{I:Addr}{B D:Value}{lo hi:Option Int}{n:Nat}{Q:Int×Int×Nat->Shared->Prop}(hs:s.heap.IsSliceOf I B D .none)(pl:IsPart B lo)(J:IsPart D hi)(h:Q (((sIx n 0 lo:Nat):Int),1,sIx n n hi - sIx n 0 lo) s):wpAny (model prog w) A (Builtin.Slice.sliceApplied (.ref I) (pure (n:Int))) Q E s:=by
 obtain⟨M,q,L,g⟩:=id hs;unfold Builtin.Slice.sliceApplied Builtin.Slice.sliceFields;refine AC (AC (Bh q g (x:=B) rfl (AC (Bh q g (x:=D) rfl (AC (Bh q g (x:=.none) rfl (AE ?_)))))));refine AC (slicePart_none ?_);show wpAny _ _ (if ((1:Int)==0)=true then _ else _) _ _ s;rw[Am (by decide)];refine AC (mN pl (AC (mN J (AC (AE ?_)))))
 show wpAny _ _ (match Builtin.Slice.sliceAdjust lo hi 1 (n:Int) with | (lo,hi)=>pure (lo,(1:Int),Builtin.Slice.slicePlaces lo hi 1)) _ _ s;rw[Za lo hi n];show wpAny _ _ (pure (((sIx n 0 lo:Nat):Int),(1:Int),Builtin.Slice.slicePlaces ((sIx n 0 lo:Nat):Int) ((sIx n n hi:Nat):Int) 1)) _ _ s;rw[Xw];exact AE h
def K9(xs:Array Value)(i k:Nat):((List.range k).filterMap fun(m:Nat)=>xs[((i:Int)+(m:Int) * 1).toNat]?).toArray=((xs.toList.drop i).take k).toArray:=by
 have e:(fun(m:Nat)=>xs[((i:Int)+(m:Int) * 1).toNat]?)=fun m=>xs[i+m]?:=by
  funext m
  have:((i:Int)+(m:Int) * 1).toNat=i+m:=by omega
  rw[this]
 rw[e];have:=pick_run xs i k;rw[List.filterMap_map] at this;have g:((fun x=>xs[x]?) ∘ fun x=>i+x)=fun m=>xs[i+m]?:=rfl;rw[g] at this;rw[this]
def getItem_tuple_cut{t I:Addr}{g:Array Value}{J L:Value}{lo hi:Option Int}{Q:Value->Shared->Prop}(B:IsTup s.heap t g)(hs:s.heap.IsSliceOf I J L .none)(pl:IsPart J lo)(Z:IsPart L hi)(U:¬ (sIx g.size 0 lo=0/\sIx g.size g.size hi=g.size))(h:Q (.ref s.heap.objs.size) { s with heap:=s.heap.push { cls:=.type "tuple",data:=.seq ((g.toList.drop (sIx g.size 0 lo)).take (sIx g.size g.size hi - sIx g.size 0 lo)).toArray } })(hsz:g.size<=sizeLine):wpAny (model prog w) A (getItem (.ref t) (.ref I)) Q E s:=by
 have D:sizeOk (.seq ((g.toList.drop (sIx g.size 0 lo)).take (sIx g.size g.size hi - sIx g.size 0 lo)).toArray):=by
  show((g.toList.drop (sIx g.size 0 lo)).take (sIx g.size g.size hi - sIx g.size 0 lo)).toArray.size<=sizeLine;rw[AV,CV,CY,Cc];omega
 have hj:sIx g.size g.size hi<=g.size:=sIx_le _ _ (AO _) hi;obtain⟨Y,S,N,aa⟩:=id hs;have M:s.TypeIs (.ref I) "slice":=⟨Y,S,N⟩;unfold getItem
 try with_reducible refine BE ?_
 first | refine AC (AE ?_) | skip
 refine AC (wpAny_sequenceKey B.typeIs (by decide) ?_)
 refine AC (Co (name:=Str.ofString "__getitem__") B.typeIs CQ
  (A2 CQ B.typeIs entry_tuple_getitem ?_ (args_tuple_getitem _ _)))
 show wpAny _ _ (Builtin.Tuple.tupleItemsOf (.ref t) >>= _) _ _ s;refine AC (tupleItemsOf_ B ?_);refine AC (wpAny_typeOf M ?_);rw[Al (by decide)];refine AC (gL hs pl Z ?_)
 have O:¬ ((((sIx g.size 0 lo:Nat):Int)==0&&(1:Int)==1&&(sIx g.size g.size hi - sIx g.size 0 lo)==g.size)=true):=by
  intro q;rw[Ax,Ax] at q;have q1:((sIx g.size 0 lo:Nat):Int)=0:=eq_of_beq q.1.1;have q2:sIx g.size g.size hi - sIx g.size 0 lo=g.size:=eq_of_beq q.2;exact U ⟨by omega,by omega⟩
 show wpAny _ _ (if (((sIx g.size 0 lo:Nat):Int)==0&&(1:Int)==1&&(sIx g.size g.size hi - sIx g.size 0 lo)==g.size)=true then _ else _) _ _ s;rw[Am O,K9]
 first
  |exact AC (m:=Builtin.Tuple.tupleExact _) (BO (AE ⟨_,rfl,AE h⟩) D)
  |exact AC (m:=Builtin.Tuple.tupleExact _) (BO (AC (AE (AE ⟨_,rfl,AE h⟩))) D)
  |exact AC (AC (m:=Builtin.Tuple.tupleExact _) (BO (AE (AE ⟨_,rfl,AE h⟩)) D))
  |exact AC (AC (m:=Builtin.Tuple.tupleExact _) (BO (AE ⟨_,rfl,AE h⟩) D))
end
end HT
namespace L2
open PySem PySem.Spec PyProof.Rows
abbrev TO:=St->Hp->(Option Int->Hp->Prop)->Prop
def PO(X:Cx)(e:Option Expr)(t:TO):Prop :=
 ∀(pins:List (Addr×Obj))(s:Shared)(σ:St)(H:Hp)(Q:Option Int->Hp->Prop),Inv X pins σ H s->t σ H Q ->
  wpAny (model X.prog X.w) X.A (evalPart e X.env) (fun u s'=>∃o H',Inv X pins σ H' s'/\IsPart u o/\Q o H') X.xe s
def tNoPart:TO:=fun _ H Q=>Q none H
def tPart(t:TE):TO:=fun σ H Q=>t σ H fun x H1=>∃i,x=.int i/\Q (some i) H1
section
variable {X:Cx}{e:Expr}{te:TE}{lo hi:Option Expr}{tl th:TO}{pos p2:Pos}
def po_none:PO X none tNoPart:=by
 intro pins s σ H Q I h;rw[evalPart_none];exact AE ⟨none,H,I,.none,h⟩
def po_some(h:PE X e te):PO X (some e) (tPart te):=by
 intro pins s σ H Q I B;rw[evalPart_some];refine thn (h pins s σ H _ I B) fun u L ⟨x,H1,g,J,D⟩=>?_;obtain⟨i,rfl,q⟩:=D;obtain⟨t,rfl⟩:=J;exact⟨some i,H1,g,.int i t,q⟩
def SlR(X:Cx)(r:V->Option Int->Option Int->Hp->VK->Prop):Prop :=
 ∀(pins:List (Addr×Obj))(s:Shared)(σ:St)(H:Hp)(x:V)(v q B:Value)(lo hi:Option Int)(g:Addr)(Q:VK),Inv X pins σ H s->RelV x v->s.heap.IsSliceOf g q B .none->IsPart q lo->IsPart B hi->r x lo hi H Q ->
  ∃T id,typeLookup (.type T) "__getitem__" = pure (some (.builtin id))/\s.TypeIs v T/\wpAny (model X.prog X.w) X.A (getItem v (.ref g)) (EP X pins σ Q) X.xe s
def tSl(r:V->Option Int->Option Int->Hp->VK->Prop)(te:TE)(tl th:TO):TE:=fun σ H Q=>te σ H fun x H1=>tl σ H1 fun l H2=>th σ H2 fun u g=>r x l u g Q
def zC{r:V->Option Int->Option Int->Hp->VK->Prop}(Z:SlR X r)(S:PE X e te)(Y:PO X lo tl)(hu:PO X hi th):PE X (.Subscript e (.Slice lo hi none p2) pos) (tSl r te tl th):=by
 intro pins s σ H Q I h;refine Subscript_ (thn (S pins s σ H _ I h) fun v ae ⟨x,H1,J,r1,q1⟩=>?_);refine wpAny_Slice (thn (Y pins ae σ H1 _ J q1) fun q af ⟨l,H2,L,pl,q2⟩=>thn (hu pins af σ H2 _ L q2) fun B g ⟨u,D,M,aa,q3⟩=>?_);rw[evalPart_none];refine AE ?_;have N:Inv X pins σ D { g with heap:=g.heap.push { cls:=.type "slice",data:=.fields #[q,B,.none] } }:=M.kept (t':=g.toks) fun b ob ab=>AW _ ab
 obtain⟨T,id,O,ht,U⟩:=Z pins { g with heap:=g.heap.push { cls:=.type "slice",data:=.fields #[q,B,.none] } } σ D x v q B l u g.heap.objs.size Q N r1 (Heap.IsSliceOf.new ..) pl aa q3;show wpAny (model X.prog X.w) X.A (subscriptTail e (.Slice lo hi none p2) v (.ref g.heap.objs.size)) (EP X pins σ Q) X.xe { g with heap:=g.heap.push { cls:=.type "slice",data:=.fields #[q,B,.none] } };exact tail_any (ops:=[.ref g.heap.objs.size,v]) ht O U (by with_unfolding_all rfl)
def QV(xs:List V)(lo hi:Option Int):List V:=(xs.drop (HT.sIx xs.length 0 lo)).take (HT.sIx xs.length xs.length hi - HT.sIx xs.length 0 lo)
def pP(xs:List V)(lo hi:Option Int):(QV xs lo hi).length<=xs.length:=by
 unfold QV;rw[CV,CY];omega
def rSlT(K:DD):V->Option Int->Option Int->Hp->VK->Prop:=fun x lo hi H Q=>∃a xs,x=.ref a/\SqT K H a xs /\
 ¬ (HT.sIx xs.length 0 lo=0/\HT.sIx xs.length xs.length hi=xs.length)/\∀p,H p=none->Q (.ref p) (upd H p (.tup (QV xs lo hi)))
def sl_tup:SlR X (rSlT X.K):=by
 intro pins s σ H x v S U lo hi O Q I M hs pl L h;obtain⟨a,xs,rfl,J,D,q⟩:=h;cases M;obtain⟨its,r,B,hz⟩:=I.tuple J;have g:its.toArray.size=xs.length:=by rw[AV];exact r.length.symm
 refine⟨"tuple",_,CQ.lookup,B.typeIs,?_⟩;refine HT.getItem_tuple_cut B hs pl L (by rw[g];exact D) ?_ (by rw[g];exact hz);rw[g];refine⟨.ref s.heap.objs.size,_,I.laid (t':=s.toks) (o:=.tup (QV xs lo hi)) (fun b N q=>AW _ q) (AO _) ?_,rfl,q _ (I.hok.fresh (AO _))⟩;exact⟨AR (pP xs lo hi) hz,_,(r.drop (HT.sIx xs.length 0 lo)).take (HT.sIx xs.length xs.length hi - HT.sIx xs.length 0 lo),j8.new _ _⟩
def rCatT(K:DD):R2:=fun x y H Q=>∃a b xs ys,x=.ref a/\y=.ref b/\SqT K H a xs/\SqT K H b ys/\xs≠[]/\xs.length+ys.length<=sizeLine /\
 (ys=[]->Q (.ref a) H)/\(ys≠[]->∀p,H p=none->Q (.ref p) (upd H p (.tup (xs++ys))))
def Vals.nil_iff{xs:List V}{us:List Value}(r:Vals xs us):us=[]↔xs=[]:=by
 cases r with
 |nil=>simp
 |cons _ _=>simp
def op_catT:OpR X (binaryOp .Add) (rCatT X.K):=by
 intro pins s σ H x y v u Q I O S h;obtain⟨a,b,xs,ys,rfl,rfl,D,J,L,hz,M,N⟩:=h;cases O;cases S;obtain⟨its,B,p1,_⟩:=I.tuple D;obtain⟨U,g,p2,_⟩:=I.tuple J;refine HT.cat_tup p1 p2 (fun z=>L (B.nil_iff.mp z)) (fun z=>⟨.ref a,H,I,rfl,M (g.nil_iff.mp z)⟩) (fun z=>?_) (by rw[<- B.length,<- g.length];exact hz);refine⟨.ref s.heap.objs.size,_,I.laid (t':=s.toks) (o:=.tup (xs++ys)) (fun b Y q=>AW _ q) (AO _) ?_,rfl,N (fun w=>z (g.nil_iff.mpr w)) _ (I.hok.fresh (AO _))⟩
 exact⟨by rw[AA];exact hz,_,B.append g,j8.new _ _⟩
end
def ixN(n:Nat)(i:Int):Option Nat:=if 0<=i then (if i < n then some i.toNat else none) else if -(n:Int)<=i then some (i+n).toNat else none
def atI{g:Type}(xs:List g)(i:Int):Option g:=(ixN xs.length i).bind fun j=>xs[j]?
def ZK{n:Nat}{i:Int}{j:Nat}(h:ixN n i=some j):seqIndex? i n=some j/\j < n/\-(n:Int)<=i/\i < n:=by
 unfold ixN at h
 by_cases h0:0<=i
 .rw [Al h0] at h
  by_cases h1:i < n
  .rw [Al h1] at h
   have e:i.toNat=j:=An h;exact⟨by rw[seqIndex_of h0 h1,e],by omega,by omega,h1⟩
  .rw [Am h1] at h;cases h
 .rw [Am h0] at h
  by_cases h1 : -(n:Int)<=i
  .rw [Al h1] at h
   have e:(i+n).toNat=j:=An h;exact⟨by rw[seqIndex_neg (by omega) h1,e],by omega,h1,by omega⟩
  .rw [Am h1] at h;cases h
def kI{g:Type}{xs:List g}{i:Int}{v:g}(h:atI xs i=some v):∃j,seqIndex? i xs.length=some j/\xs[j]?=some v/\j < xs.length/\-(xs.length:Int)<=i/\i < xs.length:=by
 unfold atI at h
 cases e:ixN xs.length i with
 |none=>rw[e] at h;cases h
 |some j =>
  rw[e] at h;obtain⟨h1,h2,q,B⟩:=ZK e;exact⟨j,h1,h,h2,q,B⟩
def zF{g:Type}{xs:List g}{j:Nat}{v:g}(h:xs[j]?=some v):atI xs (j:Int)=some v:=by
 have hj:j < xs.length:=(AZ.mp h).1
 have e:ixN xs.length (j:Int)=some j:=by
  unfold ixN;rw[Al (by omega),Al (by omega)];simp
 unfold atI;rw[e];exact h
def tH(b:Expr):Prop:=∀o i,subscripted b false o i=operate [o,i] (getItem o i)
def IxR(X:Cx)(r:R2):Prop :=
 ∀(value g:Expr)(pins:List (Addr×Obj))(s:Shared)(σ:St)(H:Hp)(x y:V)(v u:Value)(Q:VK),Inv X pins σ H s->RelV x v->RelV y u->r x y H Q ->
  subscripted g false v u=operate [v,u] (getItem v u)->wpAny (model X.prog X.w) X.A (subscriptTail value g v u) (EP X pins σ Q) X.xe s
def MtR(X:Cx)(id:String)(r:V->List V->Hp->VK->Prop):Prop :=
 ∀(pins:List (Addr×Obj))(s:Shared)(σ:St)(H:Hp)(x:V)(xs:List V)(v:Value)(us:List Value)(Q:VK),Inv X pins σ H s->RelV x v->Vals xs us->r x xs H Q ->
  wpAny (model X.prog X.w) X.A (call (.builtin id) (v::us)) (EP X pins σ Q) X.xe s
section
variable {X:Cx}{a b:Expr}{ta tb:TE}{pos:Pos}
def IxR.or{r g:R2}(h:IxR X r)(h':IxR X g):IxR X (fun x y H Q=>r x y H Q\/g x y H Q):=by
 intro value J pins s σ H x y v u Q I B D q hs
 rcases q with q | q
 .exact h value J pins s σ H x y v u Q I B D q hs
 .exact h' value J pins s σ H x y v u Q I B D q hs
def pe_ix{r:R2}(J:IxR X r)(B:PE X a ta)(D:PE X b tb)(hs:tH b):PE X (.Subscript a b pos) (tOp r ta tb):=by
 intro pins s σ H Q I h;exact Subscript_ (binT B D I h fun v u N x y H2 g L M q=>J a b pins N σ H2 x y v u Q g L M q (hs _ _))
inductive Sh(S:Hp->Addr->List V->Prop)(x y:V)(H:Hp)(Q:VK):Prop
 |mk(p:Addr)(xs:List V)(i:Int)(v:V)(h:x=.ref p)(h':y=.int i)(s:S H p xs)(a:atI xs i=some v)(q:Q v H)
def rIxL(K:DD):R2:=Sh (SqL K)
def rIxT(K:DD):R2:=Sh (SqT K)
def rIxS:R2:=fun x y H Q=>∃z i c,x=.str z/\y=.int i/\z.length<=sizeLine/\atI z.cps.toList i=some c/\Q (.str ⟨#[c]⟩) H
def ix_list:IxR X (rIxL X.K):=by
 intro value aa pins s σ H x y v u Q I S U h hs;obtain⟨p,xs,i,z,rfl,rfl,N,L,q⟩:=h;cases S;obtain⟨t,rfl⟩:=U;obtain⟨its,r,pl,hz⟩:=I.list N;obtain⟨j,h1,h2,Y,D,J⟩:=kI L;obtain⟨w,g,O⟩:=r.get h2;have M:=r.length;have Z:=sU;have B:EP X pins σ Q w s:=⟨z,H,I,O,q⟩
 by_cases h0:0<=i
 .have hj:i.toNat=j:=by
   rw[seqIndex_of h0 J] at h1;exact An h1
  exact item_listR pl.isList h0 (by omega) (by rw[hj];simpa using g) B hs
 .have hj:(i+(its.toArray.size:Int)).toNat=j:=by
   rw[seqIndex_neg (by omega) D] at h1;rw[AV,<- M];exact An h1
  exact subscriptTail_builtinR (x:=w) pl.isList.typeIs slot_list_getitem.lookup
   (wpAny_getItem_list_neg (Q:=fun r s'=>r=w/\EP X pins σ Q r s') pl.isList (by omega) (by rw[AV]<;>omega) (by omega) (by rw[hj];simpa using g) ⟨rfl,B⟩) hs
def ix_tup:IxR X (rIxT X.K):=by
 intro value aa pins s σ H x y v u Q I N O h hs;obtain⟨p,xs,i,z,rfl,rfl,L,D,q⟩:=h;cases N;obtain⟨t,rfl⟩:=O;obtain⟨its,r,pl,hz⟩:=I.tuple L;obtain⟨j,h1,h2,S,U,Y⟩:=kI D;obtain⟨w,g,M⟩:=r.get h2;have J:=r.length;have Z:=sU;have B:EP X pins σ Q w s:=⟨z,H,I,M,q⟩
 exact subscriptTail_builtinR (x:=w) pl.typeIs slot_tuple_getitem.lookup
  (getItem_tuple (j:=j) (Q:=fun r s'=>r=w/\EP X pins σ Q r s') pl (by omega) (by omega) (by rw[AV,<- J];exact h1) (by simpa using g) ⟨rfl,B⟩) hs
def ix_str:IxR X rIxS:=by
 intro value Y pins s σ H x y v u Q I N O h hs;obtain⟨z,i,c,rfl,rfl,hz,L,q⟩:=h;obtain⟨t,rfl⟩:=N;obtain⟨t',rfl⟩:=O;obtain⟨j,h1,h2,S,D,J⟩:=kI L;have M:z.cps.toList.length=z.length:=by simp[Str.length]
 rw[M] at h1 D J;have U:=sU
 exact tail_any (Bq s z t) slot_str_getitem.lookup (getItem_str (c:=c) (by
  have g:decide (i < -(2 ^ 63:Int))=false:=Ad (by omega);have B:decide (i >= 2 ^ 63)=false:=Ad (by omega)
  rw[g,B,Bool.or_false]) (by rw[h1];simpa using h2) ⟨.str ⟨#[c]⟩,H,I.tok _,⟨_,rfl⟩,q⟩) hs
def rIx(K:DD):R2:=fun x y H Q=>rIxL K x y H Q\/rIxT K x y H Q\/rIxS x y H Q
def ix_seq:IxR X (rIx X.K):=ix_list.or (ix_tup.or ix_str)
def XG(its:List Value)(n j:Nat)(u:Value):Obj.mapSeq (·.setIfInBounds j u) { cls:=.type "list",data:=.seq its.toArray n }={ cls:=.type "list",data:=.seq (its.set j u).toArray n }:=by
 simp[Obj.mapSeq]
def Inv.lst{pins:List (Addr×Obj)}{σ:St}{H:Hp}{s:Shared}{p:Addr}{xs:List V}(I:Inv X pins σ H s)(h:H p=some (.lst xs)):
  ∃(its:List Value)(n:Nat),Vals xs its/\s.heap.get? p=some { cls:=.type "list",data:=.seq its.toArray n }/\xs.length<=sizeLine:=by
 obtain⟨z,its,n,r,e⟩:=I.hok p _ h;exact⟨its,n,r,e,z⟩
def Inv.lstUpd{pins:List (Addr×Obj)}{σ:St}{H:Hp}{s:Shared}{p:Addr}{xs ys:List V}{its its':List Value}{n g:Nat}{f:Obj->Obj}(I:Inv X pins σ H s)(h:H p=some (.lst xs))(J:s.heap.get? p=some { cls:=.type "list",data:=.seq its.toArray n })(B:f { cls:=.type "list",data:=.seq its.toArray n }={ cls:=.type "list",data:=.seq its'.toArray g })(r:Vals ys its')(hz:ys.length<=sizeLine)(t:Nat):
  Inv X pins σ (upd H p (.lst ys)) { s with heap:=s.heap.update p f,toks:=t }:=by
 have e:(s.heap.update p f).get? p=some { cls:=.type "list",data:=.seq its'.toArray g }:=by
  rw[BY f J (by rw[B]<;>rfl),B]
 refine I.write (x:=p) (e:=p) (by rw[h];trivial) (.inl rfl) (fun b u D q=>(BF _ _ (Ne.symm D)).trans q) ⟨_,e⟩ ?_;exact⟨hz,its',g,r,e⟩
def rSetL:V->V->V->Hp->(Hp->Prop)->Prop:=fun o i v H Q=>∃p xs k j,o=.ref p/\i=.int k/\H p=some (.lst xs)/\ixN xs.length k=some j/\Q (upd H p (.lst (xs.set j v)))
def KM:PSet X rSetL:=by
 intro pins s σ H o i v ov Z u Q I S O U h;obtain⟨p,xs,k,j,rfl,rfl,N,hj,q⟩:=h;cases S;obtain⟨t,rfl⟩:=O;obtain⟨its,n,r,D,hz⟩:=I.lst N;obtain⟨h1,h2,L,M⟩:=ZK hj;have B:=r.length;have Y:=sU
 have J:Inv X pins σ (upd H p (.lst (xs.set j v))) { s with heap:=s.heap.update p (Obj.mapSeq (·.setIfInBounds j u)) } :=
  I.lstUpd N D (XG its n j u) (r.set U j) (by rw[List.length_set];exact hz) s.toks
 by_cases h0:0<=k
 .have g:k.toNat=j:=by
   rw[seqIndex_of h0 M] at h1;exact An h1
  exact PySem.W.ki_setAt D h0 (by omega) (by rw[AV,<- B];exact M) (by rw[g];exact⟨_,J,q⟩)
 .have g:(k+(its.toArray.size:Int)).toNat=j:=by
   rw[seqIndex_neg (by omega) L] at h1;rw[AV,<- B];exact An h1
  exact PySem.W.ki_setBack D (by omega) (by rw[AV,<- B];exact L) (by omega) (by rw[g];exact⟨_,J,q⟩)
def kE(lo hi:Option Int)(n:Nat):(sliceBounds lo hi none n).1=((HT.sIx n 0 lo:Nat):Int)/\(sliceBounds lo hi none n).2.1=((HT.sIx n n hi:Nat):Int)/\(sliceBounds lo hi none n).2.2=1:=by
 refine⟨?_,?_,rfl⟩
 .cases lo with
  |none=>simp[sliceBounds,HT.sIx]
  |some i =>
   simp only[sliceBounds,HT.sIx,Option.getD_none,show(1:Int) > 0 by decide,if_true]
   by_cases h:i < 0
   .simp only[h,if_true]<;>omega
   .simp only[h,if_false]<;>omega
 .cases hi with
  |none=>simp[sliceBounds,HT.sIx]
  |some i =>
   simp only[sliceBounds,HT.sIx,Option.getD_none,show(1:Int) > 0 by decide,if_true]
   by_cases h:i < 0
   .simp only[h,if_true]<;>omega
   .simp only[h,if_false]<;>omega
def xS(its:List Value)(lo hi:Option Int):slicePick its.toArray lo hi none=((its.drop (HT.sIx its.length 0 lo)).take (HT.sIx its.length its.length hi - HT.sIx its.length 0 lo)).toArray:=by
 obtain⟨h1,h2,g⟩:=kE lo hi its.toArray.size;unfold slicePick;rw[h1,h2,g]
 simp only[sliceRange_one,pick_run,List.size_toArray]<;>rfl
def rSlL(K:DD):V->Option Int->Option Int->Hp->VK->Prop:=fun x lo hi H Q=>∃a xs,x=.ref a/\SqL K H a xs/\∀p,H p=none->Q (.ref p) (upd H p (.lst (QV xs lo hi)))
def sl_list:SlR X (rSlL X.K):=by
 intro pins s σ H x v O S lo hi N Q I L hs pl J h;obtain⟨a,xs,rfl,D,q⟩:=h;cases L;obtain⟨its,r,g,hz⟩:=I.list D;have B:=r.length;refine⟨"list",_,slot_list_getitem.lookup,g.isList.typeIs,?_⟩;refine wpAny_getItem_list_slice g.isList hs pl J .none (by simp) ?_ (by rw[AV]<;>omega);rw[xS,<- B];refine⟨.ref s.heap.objs.size,_,I.laid (t':=s.toks) (o:=.lst (QV xs lo hi)) (fun b M q=>AW _ q) (AO _) ?_,rfl,q _ (I.hok.fresh (AO _))⟩
 exact⟨AR (pP xs lo hi) hz,_,0,(r.drop (HT.sIx xs.length 0 lo)).take (HT.sIx xs.length xs.length hi - HT.sIx xs.length 0 lo),Ae _ rfl⟩
def bF:V->Bool
 |.non=>true
 |.bl _=>true
 |.int _=>true
 |.str _=>true
 |_=>false
def eqV:V->V->Bool
 |.non,.non=>true
 |.bl a,.bl b=>a==b
 |.bl a,.int b=>(if a then 1 else 0)==b
 |.int a,.bl b=>a==(if b then 1 else 0)
 |.int a,.int b=>a==b
 |.str a,.str b=>a==b
 |_,_=>false
def oC{A:Around}{s:Shared}{y x:V}{u v:Value}(B:RelV y u)(g:RelV x v)(D:bF y=true)(q:bF x=true):SeqAt.EqAt A s u v (eqV y x):=by
 cases y with
 |non =>
  cases B
  cases x with
  |non=>cases g;exact Cb _
  |bl b=>cases g;exact SeqAt.EqAt.none_bool b
  |int b=>obtain⟨t,rfl⟩:=g;exact SeqAt.EqAt.none_int b t
  |str b=>obtain⟨t,rfl⟩:=g;exact SeqAt.EqAt.none_str b t
  |_=>exact absurd (show false=true from q) AU
 |bl a =>
  cases B
  cases x with
  |non=>cases g;exact SeqAt.EqAt.bool_none a
  |bl b=>cases g;exact DB a b
  |int b=>obtain⟨t,rfl⟩:=g;exact SeqAt.EqAt.bool_int a b t
  |str b=>obtain⟨t,rfl⟩:=g;exact SeqAt.EqAt.bool_str a b t
  |_=>exact absurd (show false=true from q) AU
 |int a =>
  obtain⟨t',rfl⟩:=B
  cases x with
  |non=>cases g;exact SeqAt.EqAt.int_none a t'
  |bl b=>cases g;exact SeqAt.EqAt.int_bool a t' b
  |int b=>obtain⟨t,rfl⟩:=g;exact SeqAt.EqAt.int_int a t' b t
  |str b=>obtain⟨t,rfl⟩:=g;exact SeqAt.EqAt.int_str a t' b t
  |_=>exact absurd (show false=true from q) AU
 |str a =>
  obtain⟨t',rfl⟩:=B
  cases x with
  |non=>cases g;exact SeqAt.EqAt.str_none a t'
  |bl b=>cases g;exact SeqAt.EqAt.str_bool a t' b
  |int b=>obtain⟨t,rfl⟩:=g;exact SeqAt.EqAt.str_int a t' b t
  |str b=>obtain⟨t,rfl⟩:=g;exact Ci a t' b t
  |_=>exact absurd (show false=true from q) AU
 |_=>exact absurd (show false=true from D) AU
def eqU(x:V)(u:Value):Bool:=match u with
 |.none=>eqV .non x
 |.bool b=>eqV (.bl b) x
 |.int i _=>eqV (.int i) x
 |.str z _=>eqV (.str z) x
 |_=>false
def Wa{x y:V}{u:Value}(r:RelV y u)(f:bF y=true):eqU x u=eqV y x:=by
 cases y with
 |non=>cases r;rfl
 |bl b=>cases r;rfl
 |int i=>obtain⟨t,rfl⟩:=r;rfl
 |str z=>obtain⟨t,rfl⟩:=r;rfl
 |_=>exact absurd (show false=true from f) AU
theorem jL{x:V}:∀{xs:List V}{us:List Value},Vals xs us->xs.all bF=true->us.any (eqU x)=xs.any fun y=>eqV y x
 |_,_,.nil,_=>rfl
 |y::xs,u::us,.cons r t,f=>by
  rw[Cn,Ax] at f;rw[Bn,Bn,Wa r f.1,jL t f.2]
theorem vM{A:Around}{s:Shared}{x:V}{v:Value}(B:RelV x v)(q:bF x=true):∀{xs:List V}{us:List Value},Vals xs us->xs.all bF=true->∀u∈us,SeqAt.EqAt A s u v (eqU x u)
 |_,_,.nil,_=>fun u g=>by cases g
 |y::xs,u::us,.cons r t,f=>fun D g=>by
  rw[Cn,Ax] at f
  rcases AX.mp g with rfl | g
  .rw [Wa r f.1];exact oC r B f.1 q
  .exact vM B q t f.2 D g
def inV(x:V)(xs:List V):Bool:=xs.any fun y=>eqV y x
def rIn(K:DD)(g:Bool):R2:=fun x y H Q=>∃p xs,y=.ref p/\(SqL K H p xs\/SqT K H p xs)/\bF x=true/\xs.all bF=true/\Q (.bl (if g then !inV x xs else inV x xs)) H
def eM:OpR X (compareOp .In) (rIn X.K false):=by
 intro pins s σ H x y v u Q I J L h;obtain⟨p,xs,rfl,g,D,fs,q⟩:=h;cases L
 rcases g with g | g
 .obtain ⟨its,r,pl,hz⟩:=I.list g
  refine SeqAt.in_listAt (eqU x) pl.isList (fun w B=>vM J D r fs w (by simpa using B)) ⟨.bl _,H,I,rfl,?_⟩;rw[show its.toArray.any (eqU x)=its.any (eqU x) by simp,jL r fs];exact q
 .obtain ⟨its,r,pl,hz⟩:=I.tuple g
  refine SeqAt.in_tupleAt (eqU x) pl (fun w B=>vM J D r fs w (by simpa using B)) ⟨.bl _,H,I,rfl,?_⟩;rw[show its.toArray.any (eqU x)=its.any (eqU x) by simp,jL r fs];exact q
def lV:OpR X (compareOp .NotIn) (rIn X.K true):=by
 intro pins s σ H x y v u Q I J L h;obtain⟨p,xs,rfl,g,D,fs,q⟩:=h;cases L
 rcases g with g | g
 .obtain ⟨its,r,pl,hz⟩:=I.list g
  refine SeqAt.notIn_listAt (eqU x) pl.isList (fun w B=>vM J D r fs w (by simpa using B)) ⟨.bl _,H,I,rfl,?_⟩;rw[show its.toArray.any (eqU x)=its.any (eqU x) by simp,jL r fs];exact q
 .obtain ⟨its,r,pl,hz⟩:=I.tuple g
  refine SeqAt.notIn_tupleAt (eqU x) pl (fun w B=>vM J D r fs w (by simpa using B)) ⟨.bl _,H,I,rfl,?_⟩;rw[show its.toArray.any (eqU x)=its.any (eqU x) by simp,jL r fs];exact q
def qI:CallR X (.builtin "len") (fun xs H Q=>∃p ys,xs=[.ref p]/\(SqL X.K H p ys\/SqT X.K H p ys)/\Q (.int ys.length) H):=by
 intro pins s σ H xs us Q I r h;obtain⟨p,ys,rfl,g,q⟩:=h;obtain⟨u,rfl,J⟩:=yG r;cases J;have L:=sU
 rcases g with g | g
 .obtain ⟨its,D,pl,hz⟩:=I.list g
  have B:=D.length;exact Calls.call_len_list pl.isList (by simp only[List.size_toArray]<;>omega) ⟨.int ys.length,H,I.tok _,⟨s.toks+1,by rw[AV,B]⟩,q⟩
 .obtain ⟨its,D,pl,hz⟩:=I.tuple g
  have B:=D.length;exact len_tuple pl (by simp only[List.size_toArray]<;>omega) ⟨.int ys.length,H,I.tok _,⟨s.toks+1,by rw[AV,B]⟩,q⟩
def iA:CallR X (.builtin "len") (fun xs H Q=>∃z,xs=[.str z]/\z.length<=sizeLine/\Q (.int z.length) H):=by
 intro pins s σ H xs us Q I r h;obtain⟨z,rfl,hz,q⟩:=h;obtain⟨u,rfl,t,rfl⟩:=yG r;have g:=sU;exact len_str (by omega) ⟨.int z.length,H,I.tok _,⟨_,rfl⟩,q⟩
def CallR.or{f:Value}{r g:List V->Hp->VK->Prop}(h:CallR X f r)(h':CallR X f g):CallR X f (fun xs H Q=>r xs H Q\/g xs H Q):=by
 intro pins s σ H xs us Q I B q
 rcases q with q | q
 .exact h pins s σ H xs us Q I B q
 .exact h' pins s σ H xs us Q I B q
def qL:CallR X (.type "list") (fun xs H Q=>∃p ys,xs=[.ref p]/\(SqL X.K H p ys\/SqT X.K H p ys)/\∀l,H l=none->Q (.ref l) (upd H l (.lst ys))):=by
 intro pins s σ H xs us Q I r h;obtain⟨p,ys,rfl,D,q⟩:=h;obtain⟨u,rfl,U⟩:=yG r;cases U
 have O:∀(its:List Value),Vals ys its->ys.length<=sizeLine->∀(h':Heap)(g:Nat),(∀b o',s.heap.get? b=some o'->h'.get? b=some o') ->
   h'.get? s.heap.objs.size=some { cls:=.type "list",dict:=none,data:=.seq its.toArray g,slots:=#[] }->EP X pins σ Q (.ref s.heap.objs.size) { s with heap:=h' }:=fun its B hz h' g J e=>
  ⟨.ref s.heap.objs.size,_,I.laid (t':=s.toks) J (AO _) (show ObjOk X.prog X.w _ h' _ (.lst ys) from⟨hz,its,g,B,e⟩),rfl,q _ (I.hok.fresh (AO _))⟩
 rcases D with D | D
 .obtain ⟨its,B,pl,hz⟩:=I.list D
  have S:=B.length;obtain⟨o,N,L,n,M⟩:=pl.isList;exact call_list_seq p (.inl rfl) N L M (fun h' g J e=>O its B hz h' g J e) (by simp only[List.size_toArray]<;>omega)
 .obtain ⟨its,B,pl,hz⟩:=I.tuple D
  have S:=B.length;obtain⟨o,N,L,n,M⟩:=pl;exact call_list_seq p (.inr rfl) N L M (fun h' g J e=>O its B hz h' g J e) (by simp only[List.size_toArray]<;>omega)
def dS:CallR X (.type "tuple") (fun xs H Q=>∃p ys,xs=[.ref p]/\((SqL X.K H p ys/\∀l,H l=none->Q (.ref l) (upd H l (.tup ys)))\/(SqT X.K H p ys/\Q (.ref p) H))):=by
 intro pins s σ H xs us Q I r h;obtain⟨p,ys,rfl,h⟩:=h;obtain⟨u,rfl,M⟩:=yG r;cases M
 rcases h with ⟨g,q⟩ | ⟨g,q⟩
 .obtain ⟨its,B,pl,hz⟩:=I.list g
  have N:=B.length;refine call_tuple_list pl.isList (fun h' L=>?_) (by simp only[List.size_toArray]<;>omega);have D:Inv X pins σ H { s with heap:=h' }:=I.kept (t':=s.toks) L
  have J:Inv X pins σ (upd H h'.objs.size (.tup ys)) { s with heap:=h'.push { cls:=.type "tuple",data:=.seq its.toArray } } :=
   D.laid (t':=s.toks) (fun b o e=>AW _ e) (AO _) (show ObjOk X.prog X.w _ _ _ (.tup ys) from⟨hz,its,B,j8.new _ _⟩)
  exact⟨.ref h'.objs.size,_,J,rfl,q _ (D.hok.fresh (AO _))⟩
 .obtain ⟨its,B,pl,hz⟩:=I.tuple g
  exact call_tuple_same pl ⟨.ref p,H,I,rfl,q⟩
def tyV(K:DD)(T:String)(x:V)(H:Hp):Prop:=match x with
 |.str _=>T = "str"
 |.int _=>T = "int"
 |.ref p=>(T = "list"/\∃xs,SqL K H p xs)\/(T = "tuple"/\∃o,K.lookup p=some o/\o.cls=.type "tuple"/\o.dict=none) \/
   (T = "dict"/\((∃kvs,H p=some (.dK kvs))\/∃kvs,H p=some (.dT kvs)))\/(T = "set"/\∃S n,H p=some (.set S n))
 |_=>False
def Ky{pins:List (Addr×Obj)}{σ:St}{H:Hp}{s:Shared}{T:String}{x:V}{v:Value}(I:Inv X pins σ H s)(r:RelV x v)(ty:tyV X.K T x H):
  s.TypeIs v T/\∀a,v=.ref a->∃D,s.heap.get? a=some D/\D.dict=none:=by
 cases x with
 |str z =>
  obtain⟨t,rfl⟩:=r;cases (show T = "str" from ty);exact⟨Bq s z t,fun _ e=>nomatch e⟩
 |int i =>
  obtain⟨t,rfl⟩:=r;cases (show T = "int" from ty);exact⟨typeIs_int s i t,fun _ e=>nomatch e⟩
 |ref p =>
  cases r
  rcases ty with ⟨rfl,xs,L⟩ | ⟨rfl,o,g,J,B⟩ | ⟨rfl,g⟩ | ⟨rfl,S,n,g⟩
  .obtain ⟨its,_,pl,_⟩:=I.list L
   refine⟨pl.isList.typeIs,fun a e=>?_⟩;cases e;obtain⟨o,n,e,c,B,_⟩:=pl;exact⟨o,e,B⟩
  .refine ⟨⟨o,I.kIn p o g,J⟩,fun a e=>?_⟩
   cases e;exact⟨o,I.kIn _ o g,B⟩
  .have z:∃o,s.heap.get? p=some o/\o.ExactDict:=by
    rcases g with ⟨kvs,g⟩ | ⟨kvs,g⟩
    .obtain ⟨_,_,_,_,o,_,_,e,ex,_⟩:=I.hok p _ g
     exact⟨o,e,ex⟩
    .obtain ⟨_,_,_,_,o,_,_,e,ex,_⟩:=I.hok p _ g
     exact⟨o,e,ex⟩
   obtain⟨o,e,ex⟩:=z;refine⟨⟨o,e,ex.1⟩,fun a q=>?_⟩;cases q;exact⟨o,e,ex.2.1⟩
  .obtain ⟨o,_,_,_,e,ex,_⟩:=I.hok p _ g
   refine⟨⟨o,e,ex.1⟩,fun a q=>?_⟩;cases q;exact⟨o,e,ex.2.1⟩
 |_=>exact False.elim ty
def tBM0(K:DD)(T:String)(r:V->List V->Hp->VK->Prop)(to:TE):TE:=fun σ H Q=>to σ H fun x H1=>tyV K T x H1/\r x [] H1 Q
def tBM(K:DD)(T:String)(r:V->List V->Hp->VK->Prop)(to:TE)(t:TA):TE:=fun σ H Q=>to σ H fun x H1=>tyV K T x H1/\t σ H1 fun xs H2=>r x xs H2 Q
variable {o e:Expr}{es:List Expr}{to:TE}{t:TA}{name:Str}{apos cpos:Pos}{T id:String}{r:V->List V->Hp->VK->Prop}
def pe_bm0(N:PlainAttrs T)(U:Slot T name id)(M:typeOf (.builtin id)=pure (.type "method_descriptor"))(J:MtR X id r)(L:PE X o to)(B:attributeBase o name X.env (eval o X.env)=eval o X.env:=by rfl)(D:(apos.endLine==cpos.line)=true:=by rfl):PE X (.Call (.Attribute o name apos) [] [] cpos) (tBM0 X.K T r to):=by
 intro pins s σ H Q I h;refine wpAny_Call_method0_late B D (thn (L pins s σ H _ I h) fun v S ⟨x,H1,g,q,ty,O⟩=>?_);obtain⟨h1,h2⟩:=Ky g q ty;exact⟨T,id,N,U,M,h1,h2,Cs rfl (PySem.evalArgs_none (J pins S σ H1 x [] v [] Q g q .nil O))⟩
def Vk(Z:PlainAttrs T)(ae:Slot T name id)(Y:typeOf (.builtin id)=pure (.type "method_descriptor"))(O:MtR X id r)(S:PE X o to)(J:PA X (e::es) t)(L:attributeBase o name X.env (eval o X.env)=eval o X.env:=by rfl)(M:((backTo cpos (starEach (e::es) X.env)).all (fun x=>!x.1)&&(backToKw cpos (keywordEach [] X.env)).all (fun x=>x.1.isSome)
   && decide ((e::es).length+([]:List Keyword).length+(if ([]:List Keyword).isEmpty then 0 else 1) < 30))=true:=by rfl)(N:(apos.endLine==cpos.line)=true:=by rfl)(hs:starEach (e::es) X.env=(false,eval e X.env)::starEach es X.env:=by rfl)(U:(backTo cpos (starEach es X.env)).any (·.1)=false:=by rfl):
  PE X (.Call (.Attribute o name apos) (e::es) [] cpos) (tBM X.K T r to t):=by
 intro pins s σ H Q I h;refine wpAny_Call_method_late L M N rfl (thn (S pins s σ H _ I h) fun v aa ⟨x,H1,g,B,ty,q1⟩=>?_);obtain⟨h1,h2⟩:=Ky g B ty;refine⟨T,id,Z,ae,Y,h1,h2,?_⟩;have q:=J cpos pins aa σ H1 _ g q1;rw[hs] at q ⊢;refine Cs (by show(false || (backTo cpos (starEach es X.env)).any (·.1))=false;rw[U]<;>rfl) (Calls.evalArgs_plain ?_);exact thn q fun us ab ⟨vs,H2,D,r2,q2⟩=>O pins ab σ H2 x vs v us Q D B r2 q2
end
def MtM(X:Cx)(id:String)(r:V->List V->Hp->VK->Prop):Prop :=
 ∀(pins:List (Addr×Obj))(s:Shared)(σ:St)(H:Hp)(x:V)(xs:List V)(v:Value)(us:List Value)(Q:VK),Inv X pins σ H s->RelV x v->Vals xs us->r x xs H Q ->
  wpAny (model X.prog X.w) X.A (call (.builtin id) (v::us)) (EP X pins σ Q) X.xe s
theorem Vals.one:∀{x:V}{us:List Value},Vals [x] us->∃u,us=[u]/\RelV x u
 |_,_,.cons r .nil=>⟨_,rfl,r⟩
theorem Vals.zero:∀{us:List Value},Vals [] us->us=[]
 |_,.nil=>rfl
def Vals.dropLast{xs:List V}{us:List Value}(h:Vals xs us):Vals xs.dropLast us.dropLast:=by
 induction h with
 |nil=>exact .nil
 |cons r t g =>
  cases t with
  |nil=>exact .nil
  |cons q t'=>exact .cons r g
def Vals.reverse{xs:List V}{us:List Value}(h:Vals xs us):Vals xs.reverse us.reverse:=by
 induction h with
 |nil=>exact .nil
 |cons r t g=>rw[A4,A4];exact Vals.append g (.cons r .nil)
def XZ{q:Type}(l:List q):l.eraseIdx (l.length - 1)=l.dropLast:=by
 induction l with
 |nil=>rfl
 |cons a r g =>
  cases r with
  |nil=>rfl
  |cons b r =>
   have e:(a::b::r).length - 1=((b::r).length - 1)+1:=by
    have h1:(a::b::r).length=r.length+2:=rfl;have h2:(b::r).length=r.length+1:=rfl;omega
   rw[e,List.eraseIdx_cons_succ,g]
   all_goals rfl
section
variable {X:Cx}{pins:List (Addr×Obj)}{σ:St}{H:Hp}{s:Shared}{l b:Addr}{xs ys zs:List V}
def Inv.lset{its its':List Value}{n:Nat}{f:Array Value->Array Value}{t':Nat}(I:Inv X pins σ H s)(g:H l=some (.lst xs))(e:s.heap.get? l=some { cls:=.type "list",data:=.seq its.toArray n })(D:f its.toArray=its'.toArray)(L:Vals ys its')(hz:ys.length<=sizeLine):
  Inv X pins σ (upd H l (.lst ys)) { s with heap:=s.heap.update l (Obj.mapSeq f),toks:=t' }:=by
 have q:=PySem.IsL.update e f;rw[D] at q;refine I.write (x:=l) (e:=l) (by rw[g];exact trivial) (.inl rfl) (fun M u B J=>(BF s.heap (Obj.mapSeq f) (Ne.symm B)).trans J) ⟨_,q⟩ ?_;exact⟨hz,its',_,L,q⟩
def Inv.lnew{its:List Value}{t':Nat}(I:Inv X pins σ H s)(g:Vals ys its)(hz:ys.length<=sizeLine):
  Inv X pins σ (upd H s.heap.objs.size (.lst ys)) { s with heap:=s.heap.push { cls:=.type "list",data:=.seq its.toArray },toks:=t' } :=
 I.laid (fun _ _ q=>AW _ q) (AO _) ⟨hz,its,0,g,Ae _ rfl⟩
def Inv.fresh(I:Inv X pins σ H s):H s.heap.objs.size=none:=I.hok.fresh (AO _)
def Inv.lstM(I:Inv X pins σ H s)(g:H l=some (.lst xs)):xs.length<=sizeLine/\∃(its:List Value)(n:Nat),Vals xs its/\xs.length=its.length/\s.heap.get? l=some { cls:=.type "list",data:=.seq its.toArray n }:=by
 obtain⟨z,its,n,r,e⟩:=I.hok l _ g;exact⟨z,its,n,r,r.length,e⟩
def Qm{n:Nat}(h:n<=sizeLine):Builtin.List.listTooLong n=false:=by
 unfold Builtin.List.listTooLong;exact Ad (by omega)
end
section
variable {X:Cx}
def Zs:V->List V->Hp->VK->Prop:=fun x vs H Q=>∃l xs y,x=.ref l/\vs=[y]/\H l=some (.lst xs)/\xs.length < sizeLine/\Q .non (upd H l (.lst (xs++[y])))
def aT:MtM X "list.append" Zs:=by
 intro pins s σ H x vs v us Q I J D h;obtain⟨l,xs,y,rfl,rfl,g,hz,q⟩:=h;cases J;obtain⟨u,rfl,B⟩:=D.one;obtain⟨z,its,n,r,L,e⟩:=I.lstM g;refine BU F.slot_list_append ⟨_,e,rfl⟩ F.entry_list_append (F.args_list_append_2 _ _) (PySem.list_append l its.toArray n u (by rw[AV];omega)) ⟨e,?_⟩;refine⟨.non,_,I.lset (its':=its++[u]) g e (by simp) (r.append (.cons B .nil)) ?_,rfl,q⟩
 rw[AA,Aq];omega
def Zr:V->List V->Hp->VK->Prop:=fun x vs H Q=>∃l b xs zs,x=.ref l/\vs=[.ref b]/\H l=some (.lst xs)/\H b=some (.lst zs)/\xs.length+zs.length<=sizeLine/\Q .non (upd H l (.lst (xs++zs)))
def tJ:MtM X "list.extend" Zr:=by
 intro pins s σ H x vs v us Q I U S h;obtain⟨l,b,xs,zs,rfl,rfl,B,J,hz,q⟩:=h;cases U;obtain⟨u,rfl,O⟩:=S.one;cases O;obtain⟨z,its,n,r,Y,e⟩:=I.lstM B;obtain⟨z2,g,M,N,Z,D⟩:=I.lstM J;have hsz:its.toArray.size+g.toArray.size<=sizeLine:=by rw[AV,AV];omega
 have L:¬ (!its.toArray.isEmpty&&Builtin.List.listTooLong (its.toArray.size+g.toArray.size))=true:=by
  rw[Qm hsz,Bool.and_false];exact AU
 refine BU F.slot_list_extend ⟨_,e,rfl⟩ F.entry_list_extend (F.args_list_extend_2 _ _)
  (AutoSeq1.list_extend_list_list_0 l its.toArray n b g.toArray M L (by rw[AV];omega) (by omega)) ⟨e,D,?_⟩
 refine⟨.non,_,I.lset (its':=its++g) B e (by simp) (r.append N) ?_,rfl,q⟩;rw[AA];omega
def rPop:V->List V->Hp->VK->Prop:=fun x vs H Q=>∃l xs y,x=.ref l/\vs=[]/\H l=some (.lst xs)/\xs[xs.length - 1]?=some y/\Q y (upd H l (.lst xs.dropLast))
def cF:MtM X "list.pop" rPop:=by
 intro pins s σ H x vs v us Q I S O h;obtain⟨l,xs,y,rfl,rfl,g,L,q⟩:=h;cases S;have J:=O.zero;subst J;obtain⟨z,its,n,r,B,e⟩:=I.lstM g;obtain⟨u,D,N⟩:=r.get L
 have M:its.toArray[its.toArray.size - 1]?=some u:=by
  show its.toArray[its.length - 1]?=some u;rw[<- DA,<- B];exact D
 refine BU F.slot_list_pop ⟨_,e,rfl⟩ F.entry_list_pop (F.args_list_pop_1 _) (MeetsSeq.list_pop_last l its.toArray n u M (by rw[AV];omega)) ⟨e,?_⟩;refine⟨y,_,I.lset (its':=its.dropLast) g e ?_ r.dropLast ?_,N,q⟩
 .show its.toArray.eraseIdxIfInBounds (its.toArray.size - 1)=its.dropLast.toArray
  rw[AV,List.eraseIdxIfInBounds_toArray,XZ]
 .rw [List.length_dropLast]
  omega
def Qd:V->List V->Hp->VK->Prop:=fun x vs H Q=>∃l xs,x=.ref l/\vs=[]/\H l=some (.lst xs)/\Q .non (upd H l (.lst xs.reverse))
def XD:MtM X "list.reverse" Qd:=by
 intro pins s σ H x vs v us Q I J D h;obtain⟨l,xs,rfl,rfl,g,q⟩:=h;cases J;have B:=D.zero;subst B;obtain⟨z,its,n,r,L,e⟩:=I.lstM g;refine BU F.slot_list_reverse ⟨_,e,rfl⟩ F.entry_list_reverse (F.args_list_reverse_1 _) (AutoSeq1.list_reverse_list_0 l its.toArray n (by rw[AV];omega)) ⟨e,?_⟩;refine⟨.non,_,I.lset (its':=its.reverse) g e (by simp) r.reverse ?_,rfl,q⟩
 rw[A1];omega
def rCat:R2:=fun x y H Q=>∃l b xs zs,x=.ref l/\y=.ref b/\H l=some (.lst xs)/\H b=some (.lst zs)/\xs.length+zs.length<=sizeLine/\∀p,H p=none->Q (.ref p) (upd H p (.lst (xs++zs)))
def op_cat:OpR X (binaryOp .Add) rCat:=by
 intro pins s σ H x y v u Q I N O h;obtain⟨l,b,xs,zs,rfl,rfl,L,J,hz,q⟩:=h;cases N;cases O;obtain⟨z,its,n,r,S,e⟩:=I.lstM L;obtain⟨Z,g,Y,M,U,B⟩:=I.lstM J;refine PySem.P.add_list e B ?_ (by rw[AV,AV];omega);have D:its.toArray++g.toArray=(its++g).toArray:=by simp
 rw[D];exact⟨.ref _,_,I.lnew (t':=s.toks) (r.append M) (by rw[AA];omega),rfl,q _ I.fresh⟩
end
section
variable {κ:Type}[DecidableEq κ]
def oK(kvs:List (κ×V))(k:κ):Option V:=(kvs.find? fun g=>decide (g.1=k)).map (·.2)
def lU(kvs:List (κ×V))(k:κ)(v:V):List (κ×V) :=
 if (kvs.any fun g=>decide (g.1=k))=true then kvs.map (fun g=>if g.1=k then (g.1,v) else g) else kvs++[(k,v)]
theorem xN{p:κ×V}{r:List (κ×V)}{k:κ}(e:p.1=k):oK (p::r) k=some p.2:=by simp[oK,List.find?_cons,e]
def kN{p:κ×V}{r:List (κ×V)}{k:κ}(e:¬ p.1=k):oK (p::r) k=oK r k:=by simp[oK,List.find?_cons,e]
theorem dI(k:κ):∀kvs:List (κ×V),(kvs.any fun g=>decide (g.1=k))=(oK kvs k).isSome
 |[]=>rfl
 |p::r=>by
  rw[Bn]
  by_cases e:p.1=k
  .simp only[xN e,decide_eq_true e,Bool.true_or,Option.isSome_some]
  .rw [kN e,Ad e,Bool.false_or];exact dI k r
def wM(kvs:List (κ×V))(k:κ)(v:V):(lU kvs k v).length<=kvs.length+1:=by
 unfold lU
 split
 .rw [AB];omega
 .rw [AA,AD,A9];omega
def RelO.isSome_eq{o:Option V}{u:Option Value}(r:RelO o u):o.isSome=u.isSome:=by
 cases o with
 |none=>cases u with
  |none=>rfl
  |some _=>exact(show False from r).elim
 |some _=>cases u with
  |none=>exact(show False from r).elim
  |some _=>rfl
def RelO.getD{o:Option V}{u:Option Value}{d:V}{d':Value}(r:RelO o u)(g:RelV d d'):RelV (o.getD d) (u.getD d'):=by
 cases o with
 |none=>cases u with
  |none=>exact g
  |some _=>exact(show False from r).elim
 |some _=>cases u with
  |none=>exact(show False from r).elim
  |some _=>exact r
def KV.val{kvs:List (κ×V)}{vs:List (κ×Value)}(r:KV kvs vs)(k:κ):RelO (oK kvs k) (valueAt vs k):=by
 unfold KV at r
 induction r with
 |nil=>exact True.intro
 |@cons p q ps B h t D =>
  obtain⟨h1,h2⟩:=h
  by_cases e:p.1=k
  .have g:q.1=k:=h1.symm.trans e
   have b:valueAt (q::B) k=some q.2:=by simp[valueAt,List.find?_cons,g]
   rw[xN e,b];exact h2
  .have g:¬ q.1=k:=fun z=>e (h1.trans z)
   have b:valueAt (q::B) k=valueAt B k:=by simp[valueAt,List.find?_cons,g]
   rw[kN e,b];exact D
def KV.any{kvs:List (κ×V)}{vs:List (κ×Value)}(r:KV kvs vs)(k:κ):(kvs.any fun g=>decide (g.1=k))=vs.any fun g=>decide (g.1=k):=by
 unfold KV at r
 induction r with
 |nil=>rfl
 |cons h t q=>rw[Bn,Bn,q,h.1]
def KV.repl{kvs:List (κ×V)}{vs:List (κ×Value)}(r:KV kvs vs)(k:κ){y:V}{u:Value}(D:RelV y u):
  KV (kvs.map fun g=>if g.1=k then (g.1,y) else g) (vs.map fun g=>if g.1=k then (g.1,u) else g):=by
 unfold KV at r ⊢
 induction r with
 |nil=>exact .nil
 |@cons p q ps I h t B =>
  rw[Ak,Ak];refine .cons ?_ B;obtain⟨h1,h2⟩:=h
  by_cases e:p.1=k
  .rw [Al e,Al (h1.symm.trans e)];exact⟨h1,D⟩
  .rw [Am e,Am (fun z=>e (h1.trans z))];exact⟨h1,h2⟩
theorem KV.put{kvs:List (κ×V)}{vs:List (κ×Value)}(r:KV kvs vs)(k:κ){y:V}{u:Value}(g:RelV y u):KV (lU kvs k y) (stored vs k u):=by
 unfold lU stored;rw[r.any k]
 by_cases e:(vs.any fun q=>decide (q.1=k))=true
 .rw [Al e,Al e];exact r.repl k g
 .rw [Am e,Am e];exact Paired.snoc r ⟨rfl,g⟩
def KV.length{kvs:List (κ×V)}{vs:List (κ×Value)}(r:KV kvs vs):kvs.length=vs.length:=Paired.length r
end
def mP{P:Program}{w:World}{k:Key}{u:Value}(r:RelV (kV k) u):(jZ P w).is k u=true:=by
 rcases k with (_ | i) | x
 .cases (show u=Value.none from r);exact hE P w
 .obtain ⟨t,e⟩:=(show ∃t,u=Value.int i t from r);subst e;exact Qq P w i t
 .obtain ⟨t,e⟩:=(show ∃t,u=Value.str x t from r);subst e;exact Qp P w x t
theorem jO{P:Program}{w:World}:∀{ks:List Key}{us:List Value},Vals (ks.map kV) us->ItemsAre (jZ P w) ks us
 |[],_,r=>by rw[Ce] at r;cases r;exact .nil
 |k::ks,_,r=>by
  rw[Ak] at r
  cases r with
  |cons h t=>exact .cons (mP h) (jO t)
abbrev KT(H:Hp):List (List Key×V)->List (List Key×Addr×Value)->Prop:=Paired fun p q=>p.1=q.1/\H q.2.1=some (.tup (p.1.map kV))/\RelV p.2 q.2.2
def KT.val{H:Hp}{kvs:List (List Key×V)}{xs:List (List Key×Addr×Value)}(r:KT H kvs xs)(k:List Key):RelO (oK kvs k) ((atKey xs k).map (·.2)):=by
 induction r with
 |nil=>exact True.intro
 |@cons p q ps B h t D =>
  obtain⟨h1,_,h2⟩:=h
  by_cases e:p.1=k
  .have g:q.1=k:=h1.symm.trans e
   have b:atKey (q::B) k=some q.2:=by simp[atKey,List.find?_cons,g]
   rw[xN e,b];exact h2
  .have g:¬ q.1=k:=fun z=>e (h1.trans z)
   have b:atKey (q::B) k=atKey B k:=by simp[atKey,List.find?_cons,g]
   rw[kN e,b];exact D
def KT.repl{H:Hp}{kvs:List (List Key×V)}{xs:List (List Key×Addr×Value)}(r:KT H kvs xs)(k:List Key){y:V}{u:Value}(I:RelV y u):
  KT H (kvs.map fun g=>if g.1=k then (g.1,y) else g) (xs.map (putAt k u)):=by
 induction r with
 |nil=>exact .nil
 |@cons p q ps J h t D =>
  rw[Ak,Ak];refine .cons ?_ D;obtain⟨h1,h2,B⟩:=h;unfold putAt
  by_cases e:p.1=k
  .rw [Al e,Al (h1.symm.trans e)];exact⟨h1,h2,I⟩
  .rw [Am e,Am (fun z=>e (h1.trans z))];exact⟨h1,h2,B⟩
theorem KT.put{H:Hp}{kvs:List (List Key×V)}{xs:List (List Key×Addr×Value)}(r:KT H kvs xs)(k:List Key){b:Addr}{y:V}{u:Value}(B:H b=some (.tup (k.map kV)))(g:RelV y u):
  KT H (lU kvs k y) (storedH xs k b u):=by
 have e:(kvs.any fun D=>decide (D.1=k))=(atKey xs k).isSome:=by
  rw[dI,(r.val k).isSome_eq,Option.isSome_map]
 unfold lU storedH;rw[e]
 by_cases q:(atKey xs k).isSome=true
 .rw [Al q,Al q];exact r.repl k g
 .rw [Am q,Am q];exact Paired.snoc r ⟨rfl,B,g⟩
def KT.keeps{H H':Hp}{kvs:List (List Key×V)}{xs:List (List Key×Addr×Value)}(r:KT H kvs xs)(g:∀b ys,H b=some (.tup ys)->H' b=some (.tup ys)):KT H' kvs xs :=
 Paired.mapP r fun _ _ z=>⟨z.1,g _ _ z.2.1,z.2.2⟩
section
variable {P:Program}{w:World}{H:Hp}{h:Heap}{a:Addr}
def rd_of{u:HO}(g:HOk P w H h)(e:Rd H a u):ObjOk P w H h a u:=e.ok g
def QR{kvs:List (Key×V)}(g:HOk P w H h)(e:Rd H a (.dK kvs)):kvs.length<=sizeLine/\(a==sysModules)=false/\∃vs,KV kvs vs/\h.DictOf (jZ P w) a vs :=
 show ObjOk P w H h a (.dK kvs) from rd_of g e
def dk_of{kvs:List (Key×V)}(g:HOk P w H h)(e:H a=some (.dK kvs)):kvs.length<=sizeLine/\(a==sysModules)=false/\∃vs,KV kvs vs/\h.DictOf (jZ P w) a vs:=QR g (.inl e)
def yM{ks:List Key}(q:HOk P w H h)(e:H a=some (.tup (ks.map kV))):(tupleKind (jZ P w)).is h ks a:=by
 obtain⟨_,its,r,o,h1,h2,⟨n,g⟩,_⟩:=(show ObjOk P w H h a (.tup (ks.map kV)) from q a _ e);exact⟨o,its.toArray,n,h1,h2,g,by simpa using jO r⟩
def ZS{kvs:List (List Key×V)}(D:HOk P w H h)(e:Rd H a (.dT kvs)):kvs.length<=sizeLine/\(a==sysModules)=false /\
  ∃xs,KT H kvs xs/\h.DictOfH (tupleKind (jZ P w)) a xs:=by
 obtain⟨z,y,xs,r,o,es,ep,h1,h2,J,L,M⟩:=(show ObjOk P w H h a (.dT kvs) from rd_of D e);refine⟨z,y,xs,r,o,es,ep,h1,h2,J,L,fun x g=>?_,M⟩
 have I:∀{l:List (List Key×V)}{m:List (List Key×Addr×Value)},KT H l m->∀x∈m,(tupleKind (jZ P w)).is h x.1 x.2.1:=by
  intro l m q
  induction q with
  |nil=>intro x g;exact nomatch g
  |@cons p q ps O B t N =>
   intro x g
   rcases AX.mp g with e | g
   .subst e
    exact yM D (by rw[<- B.1];exact B.2.1)
   .exact N x g
 exact I r x g
def dt_of{kvs:List (List Key×V)}(g:HOk P w H h)(e:H a=some (.dT kvs)):kvs.length<=sizeLine/\(a==sysModules)=false /\
  ∃xs,KT H kvs xs/\h.DictOfH (tupleKind (jZ P w)) a xs:=ZS g (.inl e)
end
def Xk(H:Hp)(a:Addr)(y:V)(r:Option V):Prop :=
 (∃kvs k,Rd H a (.dK kvs)/\y=kV k/\r=oK kvs k)\/∃kvs k b,Rd H a (.dT kvs)/\y=.ref b/\H b=some (.tup (k.map kV))/\r=oK kvs k
def DPut(H:Hp)(a:Addr)(y v:V)(H':Hp):Prop :=
 (∃kvs k,H a=some (.dK kvs)/\y=kV k/\kvs.length < sizeLine/\H'=upd H a (.dK (lU kvs k v))) \/
 ∃kvs k b,H a=some (.dT kvs)/\y=.ref b/\H b=some (.tup (k.map kV))/\kvs.length < sizeLine/\H'=upd H a (.dT (lU kvs k v))
theorem DPut.k{H:Hp}{a:Addr}{kvs:List (Key×V)}{k:Key}{v:V}(e:H a=some (.dK kvs))(g:kvs.length < sizeLine):DPut H a (kV k) v (upd H a (.dK (lU kvs k v))):=.inl ⟨kvs,k,e,rfl,g,rfl⟩
section
variable {X:Cx}{pins:List (Addr×Obj)}{σ:St}{H:Hp}{s:Shared}{a:Addr}{y v:V}{u r:Value}{o:Option V}{A:Around}{E:Value->Shared->Prop}
def Inv.big(I:Inv X pins σ H s):sysModules < s.heap.objs.size:=by
 have h:mainGlobals < s.heap.objs.size:=(I.mod.glob.keeps I.bk).lt;exact Nat.lt_trans (by decide) h
def J0{Q:Value->Shared->Prop}(Z:A.units+1 < cLine)(I:Inv X pins σ H s)(g:Xk H a y (some v))(N:RelV y u)(h:∀q s',Inv X pins σ H s'->RelV v q->Q q s'):
  wpAny (model X.prog X.w) A (getItem (.ref a) u) Q E s:=by
 rcases g with ⟨kvs,k,e,D,l⟩ | ⟨kvs,k,b,e,D,O,l⟩
 .subst D
  obtain⟨z,S,vs,L,B⟩:=QR I.hok e;obtain⟨q,J,M⟩:=RelO.some_of (v:=v) (o:=valueAt vs k) (by rw[l];exact L.val k);exact wpAny_getItem_of (mP N) B.mapOf J (h q _ (I.tok _) M)
 .subst D
  cases (show u=Value.ref b from N);obtain⟨z,S,xs,L,B⟩:=ZS I.hok e;obtain⟨q,J,M⟩:=RelO.some_of (v:=v) (o:=(atKey xs k).map (·.2)) (by rw[l];exact L.val k);obtain⟨p,U,Y⟩:=Option.map_eq_some_iff.mp J;refine wpAny_getItem_heap (B7 Z) (yM I.hok O) B U ?_;rw[Y];exact h q _ (I.tok _) M
def d_in{Q:Value->Shared->Prop}(O:A.units+1 < cLine)(I:Inv X pins σ H s)(g:Xk H a y o)(M:RelV y u)(h:∀s',Inv X pins σ H s'->Q (.bool o.isSome) s'):
  wpAny (model X.prog X.w) A (compareOp .In u (.ref a)) Q E s:=by
 rcases g with ⟨kvs,k,e,D,l⟩ | ⟨kvs,k,b,e,D,N,l⟩
 .subst D
  obtain⟨z,J,vs,L,B⟩:=QR I.hok e;refine wpAny_in_of (mP M) J B.mapOf ?_;rw[<- (L.val k).isSome_eq,<- l];exact h _ (I.tok _)
 .subst D
  cases (show u=Value.ref b from M);obtain⟨z,J,xs,L,B⟩:=ZS I.hok e;refine wpAny_in_heap (B7 O) (yM I.hok N) J B ?_;have q:=(L.val k).isSome_eq;rw[Option.isSome_map] at q;rw[<- q,<- l];exact h _ (I.tok _)
def cA{h':Heap}{t':Nat}{g:HO}(I:Inv X pins σ H s)(J:Mut (H a))(hs:Heap.SameBut a s.heap h')(D:∃q,h'.get? a=some q)(L:ObjOk X.prog X.w (upd H a g) h' a g):
  Inv X pins σ (upd H a g) { s with heap:=h',toks:=t' } :=
 I.write (x:=a) (e:=a) J (.inl rfl) (fun b q B z=>(hs.2 b B).trans z) D L
def Wf{P:Program}{w:World}{H':Hp}{h':Heap}{kvs:List (Key×V)}{vs:List (Key×Value)}(z:kvs.length<=sizeLine)(q:(a==sysModules)=false)(B:KV kvs vs)(g:h'.DictOf (jZ P w) a vs):
  ObjOk P w H' h' a (.dK kvs):=⟨z,q,vs,B,g⟩
def JZ{H':Hp}{Q:Unit->Shared->Prop}(hu:A.units+1 < cLine)(I:Inv X pins σ H s)(g:DPut H a y v H')(ry:RelV y u)(Z:RelV v r)(h:∀s',Inv X pins σ H' s'->Q () s'):
  wpAny (model X.prog X.w) A (setItem (.ref a) u r) Q E s:=by
 rcases g with ⟨kvs,k,e,N,l,M⟩ | ⟨kvs,k,b,e,N,U,l,M⟩
 .subst N M
  obtain⟨z,O,vs,B,L⟩:=dk_of I.hok e;have hz:vs.length<=sizeLine:=by rw[<- B.length];exact z
  have S:(lU kvs k v).length<=sizeLine:=by have:=wM kvs k v;omega
  refine wpAny_setItem_pairs (hsz:=hz) (mP ry) L fun h' D hs=>h _ ?_;have aa:∃q,h'.get? a=some q:=let ⟨q,_,_,J,_⟩:=D;⟨q,J⟩
  exact cA I (by rw[e];exact True.intro) hs aa (Wf S O (B.put k Z) D)
 .subst N M
  cases (show u=Value.ref b from ry);obtain⟨z,O,xs,B,L⟩:=dt_of I.hok e;have hz:xs.length<=sizeLine:=by rw[<- Paired.length B];exact z
  have S:(lU kvs k v).length<=sizeLine:=by have:=wM kvs k v;omega
  refine wpAny_setItem_heap (hsz:=hz) (B7 hu) (yM I.hok U) L fun h' D hs=>h _ ?_;obtain⟨q,es,ep,J,h2,h3,h4,_,h5⟩:=D;refine cA I (by rw[e];exact True.intro) hs ⟨q,J⟩ ⟨S,O,_,(B.put k U Z).keeps fun c ys Y=>?_,q,es,ep,J,h2,h3,h4,h5⟩;rw[cX (ne_of Y e (fun z=>nomatch z))];exact Y
end
section
variable {X:Cx}{pins:List (Addr×Obj)}{σ:St}{H:Hp}{s:Shared}{a:Addr}{kvs:List (Key×V)}{k:Key}{u:Value}{A:Around}{E:Value->Shared->Prop}
def d_len{Q:Value->Shared->Prop}(I:Inv X pins σ H s)(e:Rd H a (.dK kvs))(h:∀t s',Inv X pins σ H s'->Q (.int kvs.length t) s'):wpAny (model X.prog X.w) A (call (.builtin "len") [.ref a]) Q E s:=by
 obtain⟨z,B,vs,g,q⟩:=QR I.hok e;refine call_len_dict B q (by rw[<- g.length];rw[Bi] at z;omega) ?_;rw[<- g.length];exact h _ _ (I.tok _)
end
def NoSl(i:Expr):Prop:=∀q g,subscripted i false q g=operate [q,g] (getItem q g)
def subD_of{prog:Program}{w:World}{A:Around}{E:Value->Shared->Prop}{s:Shared}{B:Env}{value g:Expr}{pos:Pos}{T id:String}{Q:Value->Shared->Prop}(N:typeLookup (.type T) "__getitem__" = pure (some (.builtin id)))(hs:NoSl g)(h:wpAny (model prog w) A (eval value B) (fun o L=>wpAny (model prog w) A (eval g B) (fun i q=>q.TypeIs o T/\wpAny (model prog w) A (getItem o i) Q E q) E L) E s):
  wpAny (model prog w) A (eval (.Subscript value g pos) B) Q E s:=by
 refine Subscript_ (Ba h (fun o L O=>Ba O (fun i q I=>?_) fun _ _ x=>x) fun _ _ x=>x);obtain⟨J,I⟩:=I;unfold subscriptTail;refine AC ?_;rw[getitemInPython_of_ne J.not_modules];refine AC (Au J N ?_)
 have D:wpAny (model prog w) A (subscripted g false o i) (fun r M=>wpAny (model prog w) A (letTemporaryGo value o r >>= fun _=>pure r) Q E M) E q:=by
  rw[hs o i];exact wpAny_operating (Ba I (fun r M S=>AC (wpAny_letTemporaryGo (AE S))) fun _ _ x=>x)
 first
  |exact AE (AC D)
  |exact AC (AE (AC D))
  |exact AC D
def QT{X:Cx}{pins:List (Addr×Obj)}{σ:St}{H:Hp}{s:Shared}{a:Addr}{y:V}{o:Option V}(I:Inv X pins σ H s)(g:Xk H a y o):s.TypeIs (.ref a) "dict":=by
 rcases g with ⟨kvs,k,e,_,_⟩ | ⟨kvs,k,b,e,_,_,_⟩
 .obtain ⟨_,_,vs,_,q⟩:=QR I.hok e
  exact q.typeIs
 .obtain ⟨_,_,xs,_,q⟩:=ZS I.hok e
  exact q.typeIs
def tDGet(td ty:TE):TE:=fun σ H Q=>td σ H fun x H1=>ty σ H1 fun y H2=>∃a v,x=.ref a/\Xk H2 a y (some v)/\Q v H2
def sDPut(td ty tv:TE):TS:=fun D σ H=>tv σ H fun v H1=>td σ H1 fun x H2=>ty σ H2 fun y q=>∃a g,x=.ref a/\DPut q a y v g/\D.nx σ g
section
variable {X:Cx}{o i e value:Expr}{pos pos' tpos:Pos}{td ty tv:TE}
def pe_dget(L:X.A.units+1 < cLine)(J:PE X o td)(hi:PE X i ty)(hs:NoSl i):PE X (.Subscript o i pos) (tDGet td ty):=by
 intro pins s σ H Q I h;refine subD_of PySem.F.slot_dict_getitem.lookup hs (thn (J pins s σ H _ I h) fun u Y ⟨x,H1,B,S,M⟩=>thn (hi pins Y σ H1 _ B M) fun Z aa ⟨y,H2,q,U,a,v,ex,g,N⟩=>?_);subst ex;obtain rfl:u=Value.ref a:=S;exact⟨QT q g,J0 L q g U fun w' ab D O=>⟨v,H2,D,O,N⟩⟩
def ps_dput(N:X.A.units+1 < cLine)(M:PE X o td)(hi:PE X i ty)(O:PE X value tv)(hs:swapsWith value (some (.Subscript o i pos')) pos.line X.env=pure false):
  PS X (.Assign [.Subscript o i pos'] value pos) (sDPut td ty tv):=by
 intro pins s σ H ae I h;refine wpAny_Assign_Subscript (thn (O pins s σ H _ I h) fun r aa ⟨v,H1,B,Z,S⟩=>thn (M pins aa σ H1 _ B S) fun u ab ⟨x,H2,D,rx,U⟩=>thn (hi pins ab σ H2 _ D U) fun iv af ⟨y,H3,J,ry,a,q,ex,g,Y⟩=>?_) hs;subst ex;obtain rfl:u=Value.ref a:=rx;exact JZ N J g ry Z fun ag L=>⟨σ,q,L,Y⟩
end
def QS{P:Program}{w:World}{H:Hp}(h:Heap)(g:sysModules < h.objs.size):ObjOk P w H (h.push { cls:=.type "dict",data:=.dict #[] }) h.objs.size (.dK []) :=
 ⟨AM _,Bb.mpr (Ne.symm (Av g)),[],.nil,Heap.DictOf.new h⟩
def tDNewK:TE:=fun _ H Q=>∀p,H p=none->Q (.ref p) (upd H p (.dK []))
section
variable {X:Cx}{pos:Pos}
def Vh:PE X (.Dict [] [] pos) tDNewK:=fun pins s σ H Q I h=>
 wpAny_Dict_empty ⟨.ref s.heap.objs.size,_,I.laid (a:=s.heap.objs.size) (o:=.dK []) (t':=s.toks) (fun _ _ q=>AW _ q) (AO _) (QS s.heap I.big),rfl,h _ (I.hok.fresh (AO _))⟩
end
def zE:List (TE×TE)->St->Hp->(List (V×V)->Hp->Prop)->Prop
 |[],_,H,Q=>Q [] H
 | (q,tv)::r,σ,H,Q=>q σ H fun x H1=>tv σ H1 fun y H2=>zE r σ H2 fun ps g=>Q ((x,y)::ps) g
abbrev VV:List (V×V)->List (Value×Value)->Prop:=Paired fun p q=>RelV p.1 q.1/\RelV p.2 q.2
def PPs(X:Cx)(pos:Pos)(keys:List (Option Expr))(values:List Expr)(g:List (TE×TE)):Prop :=
 ∀(pins:List (Addr×Obj))(s:Shared)(σ:St)(H:Hp)(Q:List (V×V)->Hp->Prop),Inv X pins σ H s->zE g σ H Q ->
  wpAny (model X.prog X.w) X.A (evalPairs (pairTrees keys values X.env pos)) (fun vs s'=>∃ps H',Inv X pins σ H' s'/\VV ps vs/\Q ps H') X.xe s
def pps_nil{X:Cx}{pos:Pos}:PPs X pos [] [] []:=fun pins s σ H Q I h=>pairTrees_nil_walk ⟨[],H,I,.nil,h⟩
def K6{X:Cx}{pos:Pos}{k v:Expr}{ks:List (Option Expr)}{vs:List Expr}{g tv:TE}{q:List (TE×TE)}(M:PE X k g)(O:PE X v tv)(N:PPs X pos ks vs q):
  PPs X pos (some k::ks) (v::vs) ((g,tv)::q):=fun pins s σ H Q I h=>
 pairTrees_cons_walk (thn (M pins s σ H _ I h) fun u aa ⟨x,H1,D,rx,S⟩=>thn (O pins aa σ H1 _ D S) fun w2 ab ⟨y,H2,J,ry,U⟩ =>
  thn (N pins ab σ H2 _ J U) fun ws ae ⟨ps,B,L,Z,Y⟩=>⟨(x,y)::ps,B,L,.cons ⟨rx,ry⟩ Z,Y⟩)
def rF(kvs B:List (Key×V)):List (Key×V):=B.foldl (fun q g=>lU q g.1 g.2) kvs
def KV.merge:∀{g:List (Key×V)}{B:List (Key×Value)}{kvs:List (Key×V)}{vs:List (Key×Value)},KV g B->KV kvs vs->KV (rF kvs g) (merged vs B):=by
 intro g B kvs vs r;unfold KV at r
 induction r generalizing kvs vs with
 |nil=>intro q;exact q
 |@cons p q ps J h t D =>
  intro I
  have e:KV (lU kvs p.1 p.2) (stored vs q.1 q.2):=by
   have:=I.put p.1 h.2;rw[<- h.1];exact this
  exact D e
theorem uF:∀(g kvs:List (Key×V)),(rF kvs g).length<=kvs.length+g.length
 |[],kvs=>by show kvs.length<=kvs.length+0;omega
 |p::r,kvs=>by
  have h1:=uF r (lU kvs p.1 p.2);have h2:=wM kvs p.1 p.2;show(rF (lU kvs p.1 p.2) r).length<=_;rw[AD];omega
theorem wR{P:Program}{w:World}:∀{kvs:List (Key×V)}{ws:List (Value×Value)},VV (kvs.map fun B=>(kV B.1,B.2)) ws->∃g,Carries (jZ P w) ws g/\KV kvs g
 |[],_,r=>by rw[Ce] at r;cases r;exact⟨[],True.intro,.nil⟩
 |p::kvs,_,r=>by
  rw[Ak] at r
  cases r with
  |@cons a b as bs h t =>
   obtain⟨g,c,q⟩:=wR (P:=P) (w:=w) t;obtain⟨I,D⟩:=b;exact⟨(p.1,D)::g,⟨mP h.1,rfl,c⟩,.cons ⟨rfl,h.2⟩ q⟩
def tDisp(q:List (TE×TE)):TE:=fun σ H Q=>∀p,H p=none->zE q σ (upd H p (.dK [])) fun ps H2=>H2 p=some (.dK [])/\∃kvs:List (Key×V),ps=kvs.map (fun g=>(kV g.1,g.2))/\kvs.length<=15/\Q (.ref p) (upd H2 p (.dK (rF [] kvs)))
def pe_disp{X:Cx}{pos:Pos}{keys:List (Option Expr)}{values:List Expr}{D:List (TE×TE)}(h:PPs X pos keys values D)(N:keys.all (·.isSome)=true)(U:keys.length=values.length)(h0:keys≠[])(M:keys.length<=15):PE X (.Dict keys values pos) (tDisp D):=by
 intro pins s σ H Q I q;have Y:=I.hok.fresh (AO s.heap.objs.size);have J:=I.laid (a:=s.heap.objs.size) (o:=.dK []) (h':=s.heap.push { cls:=.type "dict",data:=.dict #[] }) (t':=s.toks) (fun _ _ q=>AW _ q) (AO _) (QS s.heap I.big);refine wpAny_Dict_walk (knd:=jZ X.prog X.w) N U h0 M (thn (h pins _ σ _ _ J (q _ Y)) fun ws af ⟨ps,H2,g,aa,e,kvs,ep,ae,q2⟩=>?_)
 subst ep;obtain⟨ab,c,rk⟩:=wR (P:=X.prog) (w:=X.w) aa;obtain⟨z,O,ag,r0,L⟩:=dk_of g.hok e;cases r0;refine⟨ab,c,L,fun h' B hs=>⟨.ref s.heap.objs.size,_,?_,rfl,q2⟩⟩
 have hz:(rF [] kvs).length<=sizeLine:=by
  have h1:=uF kvs [];rw[A9] at h1;rw[Bi];omega
 have S:∃q,h'.get? s.heap.objs.size=some q:=let ⟨q,_,_,Z,_⟩:=B;⟨q,Z⟩
 exact cA g (by rw[e];exact True.intro) hs S (Wf hz O (rk.merge .nil) B)
structure M2(X:Cx)(o:Expr)(m:Str)(apos:Pos)(e f:Expr)(cpos:Pos):Prop where
 base:attributeBase o m X.env (eval o X.env)=eval o X.env
 few:((backTo cpos (starEach [e,f] X.env)).all (fun x=>!x.1)&&(backToKw cpos (keywordEach [] X.env)).all (fun x=>x.1.isSome)
  && decide (([e,f]:List Expr).length+([]:List Keyword).length+(if ([]:List Keyword).isEmpty then 0 else 1) < 30))=true
 line:(apos.endLine==cpos.line)=true
 trees:backTo cpos (starEach [e,f] X.env)=[(false,eval e X.env),(false,eval f X.env)]
end L2
namespace Att
open PySem PySem.W PySem.Calls PyProof.Rows
def wH{P:Params}{h:Heap}:∀(ns:List Int)(vs:List Value),WellAll P h vs (ns.map WData.int)->IntsAre vs ns:=by
 intro ns
 induction ns with
 |nil =>
  intro vs w;rw[Ce] at w;cases w;exact .nil
 |cons n ns g =>
  intro vs w;rw[Ak] at w
  cases w with
  |cons a b =>
   cases a;exact .cons _ _ (g _ b)
def Jk{l:OpenLaw}{n:Nat}(O:l.most=some n){P:Params}{h:Heap}{g:List WData}{J:List Value}(I:l.row.toRowW.claim.pre g=true)(Y:WellAll P h J g):
  ∃a vs ns,J=[Value.ref a]/\g=[WData.list (ns.map WData.int)]/\h.get? a=some { cls:=.type "list",data:=.seq vs.toArray }/\IntsAre vs ns/\ns.length<=n:=by
 have U:WShape.hasAll [] g [.list .int]=true:=(pre_splitW I).1;have D:l.pre.holds [] { args:=g }=true:=(pre_splitW I).2;obtain⟨d,r,rfl,h1,h2⟩:=hasAllW_cons U;obtain rfl:=hasAllW_nil h2;obtain⟨xs,rfl,L⟩:=hasW_list h1;obtain⟨ns,rfl⟩:=items_int L
 have N:ns.length<=n:=by
  unfold OpenLaw.pre at D
  have q:(WTm.not (.lt (.lit (.int (n:Int))) (.len (.arg 0)))).holds [] { args:=[.list (ns.map .int)] }=true:=by
   have q:=(holds_andW D).1;rw[O] at q;exact q
  have B:=condW_of q (w_not (w_lt w_lit (w_len_list (w_arg rfl))));rw[AB] at B;refine Nat.le_of_not_lt fun aa=>?_;have Z:(n:Int) < ((ns.length:Nat):Int):=by omega
  first
   | (rw[Ai Z] at B;exact absurd B (by decide))
   | (simp at B;omega)
 cases Y with
 |cons w1 w2 =>
  cases w2
  cases w1 with
  |list S M=>exact⟨_,_,ns,rfl,rfl,S,wH ns _ M,N⟩
def Jo(l:OpenLaw)(g:List WData):l.row.toRowW.claim.post g (.bool true) g=true :=
 postW_of (r:=l.row.toRowW) (X:=(true==true))
  (show WShape.has [] (.bool true) .bool=true by first | rfl | decide | simp[WShape.has,WShape.arms,WShape.armsAll])
  (show(WTm.eq .res (.lit (.bool true))).value [] { args:=g,res:=some (.bool true),after:=g }=some (.bool (true==true)) from w_eq_bool (w_res rfl) w_lit) rfl
def attach_call{l:OpenLaw}{n:Nat}{q:Program}{S:List Str}{M:(Str->Option Value)->Heap->Prop}{N:World->Heap->Prop}{d:DefRec}(hn:l.most=some n)(ae:d.params.defaults=[])(U:∀(w:World)(L g:Shared)(mg I:Str->Option Value)(fa:Addr)(o:Obj)(J B D:Value)(a:Addr)(vs:List Value)(ns:List Int),
   Ground q S [] M w L mg I g.heap->N w g.heap ->
   g.heap.get? fa=some o->o.data=.func (docDef d.name d.params d.body d.scope J B D)->g.heap.CodeRec B d.name->mg d.name=some (.ref fa) ->
   g.heap.get? a=some { cls:=.type "list",data:=.seq vs.toArray }->IntsAre vs ns->ns.length<=n->g.gens = #[] ->
   codeAny (model l.prog w) callerA (.call (.ref fa) ⟨[.ref a],[]⟩) (fun r s'=>r=.ok (.ret (.bool true))/\OldK g.heap s'.heap/\s'.os=g.os/\AllBare s'.gens) g):
  WalkO q S M N l.row.toRowW d [] (fun f vs=>PySem.call f vs):=by
 intro w L g mg I G Y fa o J B D Z aq ho ab aa O ai hg ar ax as ak au aw ao av;obtain rfl:Z=.none:=Dflts.none O ae;obtain rfl:aq=.none:=Dflts.noKw O;obtain⟨a,vs,ns,rfl,rfl,aj,af,ag⟩:=Jk hn ak ao;refine enter_call (codeAny_mono (U w L g mg I fa o J B D a vs ns G Y ho (fd_plain ab) aa ai aj af ag hg) fun r s' hq=>?_);obtain⟨rfl,h2,h3,h4⟩:=hq
 exact⟨.inl ⟨.bool true,.bool true,[],rfl,fun _=>rfl,.bool true,Jo l _,fun _=>⟨List.Pairwise.nil,fun _ ah=>(nomatch ah)⟩⟩,h2,h3,h4⟩
end Att
namespace L2
open PySem PySem.Spec PyProof.Rows
theorem zT:∀{vs:List Value}{ns:List Int},IntsAre vs ns->Vals (ns.map V.int) vs
 |_,_,.nil=>.nil
 |_,_,.cons n t h=>.cons ⟨t,rfl⟩ (zT h)
def Only(H:Hp):Prop:=∀b,H b=none\/∃o xs,H b=some (.frz o (.lst xs))
def VG{P:Program}{w:World}{K:DD}{mg N:Str->Option Value}{CX:CXT}{k:Nat}{fa a:Addr}{fd:FuncData}{x:Str}{sp:Sp}{g:Shared}{vs:List Value}{ns:List Int}(O:K.In g.heap)(ab:g.heap.Ns mainGlobals mg)(B:g.heap.Ns builtinsNs N)(aj:∀x:Str,x ≠ "__name__"->N x=bootBuiltins x)(ao:g.heap.NoLimit)(hg:g.gens = #[])(I:g.heap.get? a=some { cls:=.type "list",data:=.seq vs.toArray })(hi:IntsAre vs ns)(hl:ns.length<=sizeLine)(ar:Room k callerA)(F:∀base:Heap,K.In base->base.Ns mainGlobals mg->FnOk P w K mg base CX k fa fd [x] sp)(ak:∀(s:Shared)(u:Value),BindsTo s fd ⟨[u],[]⟩ [(x,u)])(au:∀H:Hp,Only H->SqL K H a (ns.map V.int)->sp [.ref a] H (fun v _=>v=.bl true) fun _ _ _=>False)(ah:∀H e s',CX [] H g (fun _ _ _=>False) e s'->False):
  codeAny (model P w) callerA (.call (.ref fa) ⟨[.ref a],[]⟩) (fun r s'=>r=.ok (.ret (.bool true))/\OldK g.heap s'.heap/\s'.os=g.os/\AllBare s'.gens) g:=by
 have rv:=zT hi;have av:=hi.length
 have U:∀H:Hp,Only H->SqL K H a (ns.map V.int)->HOk P w H g.heap->(∀b,H b≠none->b=a)->(H a≠none->K.lookup a=none) ->
   codeAny (model P w) callerA (.call (.ref fa) ⟨[.ref a],[]⟩) (fun r s'=>r=.ok (.ret (.bool true))/\OldK g.heap s'.heap/\s'.os=g.os/\AllBare s'.gens) g:=by
  intro H hO hS ae Z ai;have S:∀{b:Addr}{o:Obj},g.heap.get? b=some o->H b=none->(zA g.heap H).get? b=some o:=fun e n=>VW e n
  have aw:∀{b:Addr}{o:Obj}{es:Array DictEntry}{ep:Nat},g.heap.get? b=some o->o.data=.dict es ep->H b=none:=fun {b o es ep}e d=>by
   cases q:H b with
   |none=>rfl
   |some u =>
    have L:b=a:=Z b (by rw[q];simp);subst L;rw[I] at e;cases e
    have d':Data.seq vs.toArray _=Data.dict es ep:=d;cases d'
  have J:∀{b:Addr}{m:Str->Option Value},g.heap.Ns b m->(zA g.heap H).Ns b m:=fun {b m} ⟨o,es,ep,e,d,r⟩=>⟨o,es,ep,S e (aw e d),d,r⟩
  have aa:K.In (zA g.heap H):=fun b o e=>S (O b o e) (by
   cases q:H b with
   |none=>rfl
   |some u =>
    have L:b=a:=Z b (by rw[q];simp);subst L
    rw[ai (by rw[q];simp)] at e;cases e)
  have hM:Mod K mg (zA g.heap H):=⟨aa,J ab,⟨N,J B,aj⟩,let ⟨mc,h1,h2⟩:=ao;⟨mc,J h1,h2⟩⟩;have e0:Env0 P w K mg (zA g.heap H) callerA [] g H:=⟨rfl,hM,fun b o e=>of_hidT e,Nat.le_of_eq (JP _ _),trivial,fun b B=>absurd (show b∈([]:List Addr) from B) (by simp),ae,.of_eq hg⟩;refine codeAny_mono ((F _ aa (J ab)).run callerA [] g H ⟨[.ref a],[]⟩ [.ref a] [.ref a] _ _ ar e0 (ak g (.ref a)) (.cons rfl .nil) (au H hO hS)) fun r s' h=>?_
  cases r with
  |error e=>exact(ah H e s' h).elim
  |ok fl =>
   cases fl with
   |next=>exact False.elim h
   |brk=>exact False.elim h
   |cont=>exact False.elim h
   |ret u =>
    obtain⟨v,H',ax,ag,af,aq,r',q⟩:=h;have q':v=.bl true:=q;subst q';obtain rfl:u=Value.bool true:=r';refine⟨rfl,OldK.of_keep fun b o e=>?_,ax,ag⟩
    cases q:H b with
    |none=>exact af.keep b o e q (by intro z;exact absurd (show b∈([]:List Addr) from z) (by simp)) (by simp)
    |some u =>
     rcases hO b with z | ⟨ob,xs,z⟩
     .rw [q] at z;cases z
     .have z2:=af.frzs b ob _ z
      obtain⟨Y,_⟩:=ae b _ z;obtain⟨e2,_⟩:=aq b _ z2;rw[e] at Y;cases Y
      exact e2
 cases M:K.lookup a with
 |some o =>
  have e:=O a o M;rw[I] at e;cases e;refine U (fun _=>none) (fun _=>.inl rfl) (.inr ⟨_,vs.toArray,_,M,rfl,rfl,rfl,by rw[AV,av];exact hl,by simpa using rv⟩) (fun b u z=>by have D:(none:Option HO)=some u:=z;cases D) (fun b z=>absurd rfl z) fun z=>absurd rfl z
 |none =>
  refine U (fun b=>if b=a then some (.frz { cls:=.type "list",data:=.seq vs.toArray } (.lst (ns.map V.int))) else none) (fun b=>?_) (.inl (.inr ⟨{ cls:=.type "list",data:=.seq vs.toArray },Al rfl⟩)) (fun b u z=>?_) (fun b z=>?_) fun _=>M
  .by_cases B:b=a
   .exact .inr ⟨_,_,Al B⟩
   .exact .inl (Am B)
  .by_cases B:b=a
   .have D:=(Al B).symm.trans z
    cases D;subst B;exact⟨I,by rw[AB];exact hl,vs,_,rv,I⟩
   .have D:=(Am B).symm.trans z
    cases D
  .by_cases B:b=a
   .exact B
   .exact absurd (Am B) z
def walk_of{l:PySem.W.OpenLaw}{n k:Nat}{ai:Program}{ah:List Str}{D:(Str->Option Value)->Heap->Prop}{q:World->Heap->Prop}{d:DefRec}{K:Params->DD}{CX:World->CXT}{sp:World->Sp}{x:Str}(hn:l.most=some n)(ab:n<=sizeLine)(S:d.params.defaults=[])(af:Room k callerA)(N:∀(w:World)(h:Heap),q w h->(K w.params).In h)(F:∀(w:World)(mg:Str->Option Value)(fa:Addr)(h:Heap),(K w.params).In h->h.Ns mainGlobals mg->mg d.name=some (.ref fa) ->
   ∃fd:FuncData,(∀(s:Shared)(u:Value),BindsTo s fd ⟨[u],[]⟩ [(x,u)]) /\
    ∀base:Heap,(K w.params).In base->base.Ns mainGlobals mg->FnOk l.prog w (K w.params) mg base (CX w) k fa fd [x] (sp w))(ag:∀(w:World)(H:Hp)(a:Addr)(ns:List Int),ns.length<=n->Only H->SqL (K w.params) H a (ns.map V.int)->sp w [.ref a] H (fun v _=>v=.bl true) fun _ _ _=>False)(I:∀(w:World)(H:Hp)(s:Shared)(e:Value)(s':Shared),CX w [] H s (fun _ _ _=>False) e s'->False):
  PySem.W.WalkO ai ah D q l.row.toRowW d [] (fun f vs=>PySem.call f vs):=by
 refine Att.attach_call hn S fun w av aj mg mb fa o au ak ao a vs ns G Y ho ar aq aa ae Z B U=>?_;have g:=N w _ Y;obtain⟨fd,O,J⟩:=F w mg fa _ g G.T.g aa;exact VG g G.T.g G.T.b G.T.builtins G.T.nolimit U ae Z (AR B ab) af J O (fun H L M=>ag w H a ns B L M) fun H e s'=>I w H aj e s'
def wJ(s:Stmt)(j:Nat):Stmt:=match s with
 |.ClassDef _ _ _ g _ _ _ _ _ _ _=>g.getD j (.Pass ⟨0,0,0,0⟩)
 |_=>.Pass ⟨0,0,0,0⟩
def fG(s:Stmt):Arguments:=match s with
 |.FunctionDef _ a _ _ _ _ _ _ _ _=>a
 |_=>{ posonlyargs:=[],args:=[],vararg:=none,kwonlyargs:=[],kw_defaults:=[],kwarg:=none,defaults:=[] }
def rV(s:Stmt):List Stmt:=match s with
 |.FunctionDef _ _ b _ _ _ _ _ _ _=>b
 |_=>[]
def cZ(s:Stmt):Scope:=match s with
 |.FunctionDef _ _ _ _ _ _ g _ _ _=>g
 |_=>{ kind:=.function,names:=[],isGenerator:=false,isCoroutine:=false }
abbrev CX0:CXT:=fun _ _ _ _ _ _=>False
abbrev E0:XK:=fun _ _ _=>False
def Qh{X:Cx}:jW CX0 X E0:=fun _ _ _ _ _ _ _ h=>h.elim
structure Fun(K:DD)(x qual:Str)(st:Stmt)(f:Addr)(fd:FuncData):Prop where
 ex:∃(oc:Value)(od:Option Addr)(kV doc pm:Value)(an:Option Addr)(cdv ct:Value)(osl:Array (Option Value)),
  fd=PySem.W.fnOf x qual (fG st) (rV st) (cZ st) .none kV doc pm an cdv ct/\K.lookup f=some ⟨oc,od,.func fd,osl⟩/\PySem.W.codeIn K cdv qual=true
 kp:PySem.W.keepIn K (.ref f)=true
section
variable {P:Program}{w:World}{K:DD}{mg:Str->Option Value}{base:Heap}
def Fun.ok{x D:Str}{st:Stmt}{f:Addr}{fd:FuncData}{N ps:List Str}{k:Nat}{sp:Sp}(F:Fun K x D st f fd)(S:FnScope N ps (cZ st))(O:∀vs H Q E,sp vs H Q E->vs.length=ps.length)(I:∀(g:Value)(A:Around)(B:List Env)(s:Shared)(H:Hp)(vs:List V)(Q:VK)(E:XK),Room k (A.deeper (envOfC D (cZ st) s.heap.objs.size f g))->sp vs H Q E ->
   ∃t,PSs (lA CX0 P w K mg base N D (cZ st) f g A B s H E).nox (rV st) t/\t { nx:=fun _ H'=>Q .non H',rt:=Q } (start N vs) H):FnOk P w K mg base CX0 (k+1) f fd ps sp:=by
 obtain⟨oc,od,ab,aa,af,Y,g,Z,ae,rfl,U,J⟩:=F.ex;refine fn_of U J S O fun A B s H vs Q E L M=>?_;obtain⟨t,h,q⟩:=I g A B s H vs Q E L M;exact⟨t,h.nox,q⟩
def Fun.binds{x L:Str}{st:Stmt}{f:Addr}{fd:FuncData}{ps:List Str}(F:Fun K x L st f fd)(h:∀(I D J:Value)(g:Option Addr)(q B:Value)(us:List Value),us.length=ps.length->bindArgs (PySem.W.fnOf x L (fG st) (rV st) (cZ st) .none I D J g q B) ⟨us,[]⟩=pure (ps.zip us)):Binds K fd ps []:=by
 obtain⟨O,S,I,D,J,g,q,B,U,rfl,N,M⟩:=F.ex;exact .all (h I D J g q B)
def vA{x q:Str}{st:Stmt}{f:Addr}{M:Value}{N B:Option Addr}{O:Array (Option Value)}{J I L g D:Value}(l:K.lookup f=some ⟨M,N,.func (PySem.W.fnOf x q (fG st) (rV st) (cZ st) .none J I L B g D),O⟩)(c:PySem.W.codeIn K g q=true)(k:PySem.W.keepIn K (.ref f)=true):Fun K x q st f (PySem.W.fnOf x q (fG st) (rV st) (cZ st) .none J I L B g D):=⟨⟨M,N,J,I,L,B,g,D,O,rfl,l,c⟩,k⟩
end
def gZ{A:Around}{k:Nat}(g:Room k A):A.units+1 < cLine:=Cj (Nat.add_le_add_left (by decide:1<=64) _) g.units
section
variable {X:Cx}
def pv(i:Nat){x:Str}{pos:Pos}(g:X.N[i]?=some x:=by rfl)(D:Vis X.env.scope x:=by first | exact Or.inl rfl | exact Or.inr (Or.inl rfl) | exact Or.inr (Or.inr rfl))(B:(x==("__debug__" : Str))=false:=by decide)(q:(x==("__classdict__" : Str))=false:=by decide):PE X (.Name x pos) (tVar i):=Vc g D B q
end
def Same(H H':Hp):Prop:=∀b o,H b=some o->H' b=some o
def Same.refl(H:Hp):Same H H:=fun _ _ h=>h
section
variable {X:Cx}
def J9:CallR X (.builtin "len") (fun xs H Q=>∃a kvs,xs=[V.ref a]/\H a=some (.dK kvs)/\Q (.int kvs.length) H):=by
 intro pins s σ H xs us Q I r h;obtain⟨a,kvs,rfl,B,q⟩:=h;obtain⟨u,rfl,D⟩:=yG r;cases D;exact d_len I (.inl B) fun t s' g=>⟨.int kvs.length,H,g,⟨t,rfl⟩,q⟩
end
def hX:Expr->Bool
 |.Starred _ _=>false
 |_=>true
def xJ(h:hX e=true):starEach (e::es) g=(false,eval e g)::starEach es g:=by
 cases e<;>first | rfl | exact absurd h AU
theorem nB: ∀{es},es.all hX=true->(backTo pos (starEach es g)).any (·.1)=false
 |[],_=>rfl
 |e::es,h=>by
  rw[Cn,Ax] at h;rw[xJ h.1];show(false || (backTo pos (starEach es g)).any (·.1))=false;rw[nB h.2]
  rfl
section
variable {X:Cx}{e:Expr}{es:List Expr}{te:TE}{t:TA}{x:Str}{p pos:Pos}
def bE(g:PE X e te)(q:PA X es t)(hs:hX e=true:=by rfl):PA X (e::es) (KB te t):=Zw g q (xJ hs)
def w5(F:FnOk X.prog X.w X.K X.mg X.base CX k f fd ps sp)(N:Room k X.A)(J:Gl X x)(M:X.mg x=some (.ref f))(L:PySem.W.keepIn X.K (.ref f)=true)(B:Binds X.K fd ps ds)(D:Vals dvs ds)(O:jW CX X E)(g:PA X (e::es) t)(I:(x==("__debug__" : Str))=false:=by decide)(hs:hX e=true:=by rfl)(q:es.all hX=true:=by rfl):PE X (.Call (.Name x p) (e::es) [] pos) (KC sp dvs E t) :=
 pe_call F N J M L B D O g I (xJ hs) (nB q)
def KY{id}(B:CallR X (.builtin id) r)(I:Gl X x)(J:X.mg x=none)(M:bootBuiltins x=some (.builtin id))(g:PA X (e::es) t)(L:x ≠ "__name__":=by decide)(D:(x==("__debug__" : Str))=false:=by decide)(hs:hX e=true:=by rfl)(q:es.all hX=true:=by rfl):PE X (.Call (.Name x p) (e::es) [] pos) (tCB r t):=Vj B I J M g L D (xJ hs) (nB q)
def Jl(B:CallR X (.type T) r)(I:Gl X x)(J:X.mg x=none)(M:bootBuiltins x=some (.type T))(g:PA X (e::es) t)(L:x ≠ "__name__":=by decide)(D:(x==("__debug__" : Str))=false:=by decide)(hs:hX e=true:=by rfl)(q:es.all hX=true:=by rfl):PE X (.Call (.Name x p) (e::es) [] pos) (tCB r t):=Jp B I J M g L D (xJ hs) (nB q)
end
section
variable {prog:Program}{w:World}{A:Around}{R:Result->Shared->Prop}{s:Shared}
def aA(I:Nat->Shared->Prop)(ah:∀n s,I n s->wpAny (model prog w) A (pyNext it) (fun r q=>match r with
   |none=>R (.ok .next) q
   |some v=>wpAny (model prog w) A (letOwnedTupleGo S it v) (fun _ q=>wpAny (model prog w) A (assign S B v) (fun _ M=>
     wpAny (model prog w) A (forIn ag true fun c r=>if r=true then do let g <- isTrue c B (eval c B);pure (ForInStep.yield g) else pure (ForInStep.yield r)) (fun g D=>
      if g=true then wpAny (model prog w) A (eval Y B) (fun x N=>
       wpAny (model prog w) A (call (.builtin "list.append") [U,x]) (fun _ O=>∃m,m < n/\I m O) (fun _ _=>False) N) (fun _ _=>False) D
      else ∃m,m < n/\I m D) (fun _ _=>False) M) (fun _ _=>False) q) (fun _ _=>False) q) (fun _ _=>False) s)n(h:I n s):
  codeAny (model prog w) A (.compLoop (.ListComp Y [⟨S,ai,ag,0⟩] aj pos) 0 it U B) R s:=by
 refine codeAny_loop rfl I (fun n s Z=>wpAny_noted (AC (wpAny_standAt (AC (Ba (ah n s Z) (fun r q J=>?_) fun _ _ h'=>False.elim h'))))) n h
 cases r with
 |none=>exact AE J
 |some v =>
  refine AC (Ba J (fun _ ak aa=>AC (Ba aa (fun _ M ab=>AC (Ba ab (fun g D L=>?_) fun _ _ h'=>False.elim h')) fun _ _ h'=>False.elim h')) fun _ _ h'=>False.elim h')
  cases g with
  |false=>exact AE ⟨rfl,L⟩
  |true =>
   exact AC (AC (Ba L (fun x N ae=>AC (Ba ae (fun _ O af=>AE (AE ⟨rfl,af⟩)) fun _ _ h'=>False.elim h')) fun _ _ h'=>False.elim h'))
end
theorem fV{g:Env}:∀{D:List (Str×NameKind)}{y:Str}{k:NameKind},
  (D.map fun(n,k)=>if (k==NameKind.free&&g.scope.kind==.function&&g.kindOf n==some .cell) then (n,NameKind.cell) else (n,k)).lookup y=some k ->
   ∃B,(y,B)∈D/\(k=B\/(B=.free/\k=.cell))
 |[],_,_,h=>by simp at h
 | (n,I)::r,y,k,h=>by
  cases L:y==n with
  |true =>
   by_cases J:(I==NameKind.free&&g.scope.kind==.function&&g.kindOf y==some .cell)=true
   .grind
   .grind
  |false =>
   have h2:(r.map fun(n,k)=>if (k==NameKind.free&&g.scope.kind==.function&&g.kindOf n==some .cell) then (n,NameKind.cell) else (n,k)).lookup y=some k :=by grind
   exact hV ((@fV g r y k) h2) fun B m q=>⟨B,AF _ m,q⟩
def WX(X:Cx)(g:List Expr)(t:TT):Prop :=
 ∀(pins:List (Addr×Obj))(s:Shared)(σ:St)(H:Hp)(Q:Bool->Hp->Prop),Inv X pins σ H s->t σ H Q ->
  wpAny (model X.prog X.w) X.A (forIn g true fun c r=>if r=true then do let q <- isTrue c X.env (eval c X.env);pure (ForInStep.yield q) else pure (ForInStep.yield r)) (TP X pins σ Q) X.xe s
def Pk:TT:=fun _ H Q=>Q true H
def K8: WX X [] Pk:=fun _ _ _ H _ I h=>wpAny_tests_nil ⟨H,I,h⟩
def K7(h:PT X c t):WX X [c] t:=fun pins s σ H Q I g=>wpAny_tests_one (h pins s σ H Q I g)
def um(X:Cx)(xs:List Str)(D:Scope)(q:List (Str×Addr))(B:List Addr)(C:Addr)(I:Shared)(g:Hp):Cx where
 prog:=X.prog
 w:=X.w
 K:=X.K
 mg:=X.mg
 base:=X.base
 A:=X.A
 N:=xs++X.N
 s₀:=I
 H₀:=g
 env:=compEnvC D q C X.env
 outer:=X.stack
 stack:=X.stack
 ex:=B
 fn:=fun _=>false
 calm:=X.calm
 pn:=[]
 xe:=fun _ _=>False
abbrev nV X x:=um X [x]
def aI(B:TI)(tc:TT)(te:TE):TE:=fun σ H Q=>B σ H fun J H1=>∀D,H1 D=none->∃W:Nat->Nat->List V->Hp->Prop,(∃m,W 0 m [] (upd H1 D (.lst [])))/\∀i m ys H,W i m ys H ->
 (J.stop i H/\Q (.ref D) H)\/(J.go i H/\∀x H',J.yld i H x H'->tc (some x::σ) H' fun b H2=>
  if b=true then te (some x::σ) H2 fun y q=>q D=some (.lst ys)/\ys.length < sizeLine/\∃g,g < m/\W (i+1) g (ys++[y]) (upd q D (.lst (ys++[y])))
  else ∃g,g < m/\W (i+1) g ys H2)
section
variable {X:Cx}
structure aH(X:Cx)(xs:List Str)(scope:Scope)(cl:List (Str×Addr)):Prop where
 clos:closureFor scope X.env=pure cl
 cell:∀y∈scope.names,y.2≠.cell
 kind:scope.kind=.function
 names:∀y∈scope.names,y.2=.local->scope.names.lookup y.1=some .local
 hx:∀x∈xs,scope.names.lookup x=some .local
 loc:∀y∈scope.names,y.2=.local->y.1∉X.N
 free:∀y∈scope.names,y.2=.free->X.env.kindOf y.1≠some .local/\(X.env.kindOf y.1=some .cell\/X.env.kindOf y.1=some .free)/\∃c,cl.lookup y.1=some c
 cl:∀y c,cl.lookup y=some c->X.env.cells.lookup y=some c
abbrev xD X x:=aH X [x]
def cP{te:TE}{g:TG}{Tk:V->Hp->List V->Prop}{RR:Value->Addr->Result->Shared->Prop}{EE:Value->Shared->Prop}(hc:X.calm=true)(K:aH X xs N S)(hg:∀M C B J,PG (um X xs N S M C B J) tg g)(ht:∀M C B J,WX (um X xs N S M C B J) ba tc)(b2:∀M C B J,PE (um X xs N S M C B J) a4 te){pins:List (Addr×Obj)}{σ:St}{B:Shared}{J:Hp}{it:Addr}{M:List Addr}{tn:Nat->Heap->Prop}{ak:It}{Q:VK}(hG:∀ws vs x H Q,ws.length=xs.length->Tk x H vs->vs.length=xs.length->Q (vs.map some++σ) H->g x (ws++σ) H Q)(L:Inv X pins σ J B)(T:Xb X.prog X.w X.K tg ak M it tn)(bh:tn 0 B.heap)(Z:∀b∈M,mI X pins J b)(R:∀D,J D=none->∃W:Nat->Nat->List V->Hp->Prop,(∃m,W 0 m [] (upd J D (.lst [])))/\∀i m ys H,W i m ys H ->
   (ak.stop i H/\Q (.ref D) H)\/(ak.go i H/\∀x H',ak.yld i H x H'->∃vs,Tk x H' vs/\vs.length=xs.length/\tc (vs.map some++σ) H' fun b H2=>
    if b=true then te (vs.map some++σ) H2 fun y H3=>H3 D=some (.lst ys)/\ys.length < sizeLine/\∃Y,Y < m/\W (i+1) Y (ys++[y]) (upd H3 D (.lst (ys++[y])))
    else ∃Y,Y < m/\W (i+1) Y ys H2))(bz:∀(D C:Addr)(H:Hp)(aa:Shared)(m:Str->Option Value),aa.heap.Ns C m->C≠X.env.locals->H C=none->(∀x c,X.env.cells.lookup x=some c->c≠C)->B.heap.objs.size<=C->Inv X pins σ H aa ->
   Q (.ref D) H->RR (.ref D) C (.ok .next) aa):
  wpAny (model X.prog X.w) X.A (newList []) (fun az aj=>wpAny (model X.prog X.w) X.A (newFunctionEnv N X.env.globals S [] X.env.qual none .none (some X.env)) (fun a3 cn=>
   codeAny (model X.prog X.w) X.A (.compStart (.ListComp a4 [⟨tg,b5,ba,0⟩] N pos) 0 (.ref it) az { a3 with scope:=relabel N X.env }) (RR az a3.locals) cn) EE aj) EE B:=by
 refine BO (wpAny_newFunctionEnv K.cell (by intro y hy;simp at hy) (fun aq av ao=>?_) K.kind);dsimp only at av ao ⊢;generalize au:B.heap.push { cls:=.type "list",dict:=none,data:=.seq ([]:List Value).toArray }=H2 at av ao ⊢;have hC:H2.objs.size=B.heap.objs.size+1:=by rw[<- au,Heap.size_push]
 have a8:B.heap.objs.size≠H2.objs.size :=hC▸Av (BB _);have af:∀b,b < B.heap.objs.size->b≠H2.objs.size/\b≠B.heap.objs.size:=fun b I=>⟨by exact hC▸Av (Nat.lt_succ_of_lt I),Av I⟩;have ai:∀b o,B.heap.get? b=some o->aq.get? b=some o:=fun b o e=>ao.extBut b o (af b (Aa e)).1 (AW _ (au▸AW _ e));have fD:=L.hok.fresh (AO _)
 have fC:J H2.objs.size=none:=L.hok.fresh (hC▸B9 _);have a5:∀b∈M,b < B.heap.objs.size:=fun b I=>let ⟨o,e,_⟩:=T.obj _ _ bh b I;Aa e
 obtain⟨W,⟨b7,w0⟩,cp⟩:=R B.heap.objs.size fD
 have ar:(um X xs N S M H2.objs.size B J).Ok:=by
  refine⟨L.ok.mod,K.kind,L.ok.glob,L.ok.blt,?_,fun y z c h1 h2=>L.ok.inj y z c (K.cl y c h1) (K.cl z c h2),fun y hy=>?_,fun y c h _=>?_,L.ok.hd,L.ok.frames,.inl rfl,fun b I=>⟨(af b (a5 b I)).1,fun y c h=>(Z b I).2.2.2.2.1 y c (K.cl y c h)⟩,L.bs,
   AR L.ok.bsz L.sz,fun b o e I=>?_,fun b I z=>?_,L.stack,L.stkFree⟩
  .exact hC▸B9 _
  .have br:(y,NameKind.free)∈N.names:=by
    rcases hy with q | q
    .obtain ⟨k0,O,z | ⟨z,_⟩⟩:=fV q
     .subst z;exact absurd rfl (K.cell _ O)
     .subst z;exact O
    .obtain ⟨k0,O,z | ⟨z,w⟩⟩:=fV q
     .subst z;exact O
     .cases w
   exact(K.free _ br rfl).2.2
  .exact absurd h AU
  .refine HH (Z b I) fun _ _ _ f3 _=>?_
   rcases f3 with z | z
   .exact L.ok.noex b o e z
   .exact absurd (AK (Aa (L.ok.bs b o e).1) z) (BM _)
  .refine P0 (Z b I) fun _ bo bp _=>?_
   rcases AX.mp (L.stkSub b z) with q | q
   .exact bo q
   .exact bp q
 have cw:∀b,J b≠none->b≠B.heap.objs.size:=fun b I z=>I (z▸fD);have b6:HOk X.prog X.w (upd J B.heap.objs.size (.lst [])) aq:=L.hok.laid ai (AO _) ⟨AM _,[],_,.nil,(ao.extBut _ _ a8 (AW _ (au▸Ae _ rfl)))⟩
 have cq:∀y,Vis (relabel N X.env) y->y∈X.N->(y,NameKind.free)∈N.names/\((relabel N X.env).names.lookup y=some .cell\/(relabel N X.env).names.lookup y=some .free):=by
  intro y hv b4
  rcases hv with q | q | q
  .obtain ⟨k0,O,z | ⟨z,w⟩⟩:=fV q
   .subst z;exact absurd b4 (K.loc _ O rfl)
   .cases w
  .obtain ⟨k0,O,z | ⟨z,w⟩⟩:=fV q
   .subst z;exact absurd rfl (K.cell _ O)
   .subst z;exact⟨O,.inl q⟩
  .obtain ⟨k0,O,z | ⟨z,w⟩⟩:=fV q
   .subst z;exact⟨O,.inr q⟩
   .cases w
 have I':∀ag,Inv (um X xs N S M H2.objs.size B J) [] (List.replicate xs.length none++σ) (upd J B.heap.objs.size (.lst [])) { B with heap:=aq,toks:=ag }:=by
  intro ag;refine⟨ar,rfl,L.bare,Un.laid ai (AO _) fD,⟨_,av,fun i y v h1 h2 h3=>?_⟩,fun y c h=>?_,?_,fun y c h=>?_,fun p hp=>absurd hp (by simp[um]),b6,?_⟩
  .rcases Nat.lt_or_ge i xs.length with hi | hi
   .rw [Bw (by rwa [BX]),List.getElem?_replicate,Al hi] at h2
    cases h2
   .have a7:X.N[i - xs.length]?=some y:=by
     have h1:(xs++X.N)[i]?=some y:=h1
     rwa [A8 hi] at h1
    have bw:σ[i - xs.length]?=some (some v):=by
     rw[A8 (by rwa [BX]),BX] at h2;exact h2
    obtain⟨fm,kk⟩:=cq y h3 (Ao a7);obtain⟨b8,vz,c,a9⟩:=K.free _ fm rfl;refine hV L.loc fun mm hn hl=>hV (hl (i - xs.length) y v a7 bw (vz.elim (fun z=>.inr (.inl z)) fun z=>.inr (.inr z))) fun u ru l=>?_
    rcases l with ⟨z,_⟩ | ⟨_,c',b0,b1⟩
    .exact absurd z b8
    .have ec:=An (b0.symm.trans (K.cl _ _ a9))
     subst ec;obtain⟨o,ho,ah⟩:=b1;exact⟨u,ru,.inr ⟨kk,c',a9,o,ai _ _ ho,ah⟩⟩
  .obtain ⟨v,o,ho,ah⟩:=L.cell y c (K.cl y c h)
   exact⟨v,o,ai _ _ ho,ah⟩
  .show upd J _ _ H2.objs.size=none
   rwa [cX (Ne.symm a8)]
  .obtain ⟨v,o,ho,ah⟩:=L.cell y c (K.cl y c h)
   exact(cX (af c (Aa ho)).2)▸L.freeC y c (K.cl y c h)
  .show (List.replicate xs.length none++σ).length=(xs++X.N).length
   rw[AA,AA,BX,L.len]
 have ay:∀{H':Hp},(∀b∈M,H' b=none)->∀b∈M,mI (um X xs N S M H2.objs.size B J) [] H' b:=fun hn b I=>
  ⟨hn b I,(ar.exf b I).1,ar.exfs b I,.inl I,(ar.exf b I).2,fun p hp=>absurd hp (by simp[um])⟩
 have bj:=T.keep _ _ _ bh fun b _ o e=>ai b o e;have bq:∀b∈M,upd J B.heap.objs.size (.lst []) b=none:=fun b I=>(cX (af b (a5 b I)).2)▸(Z b I).1
 have bb:∀aj:Shared,(∃ag,aj={ B with heap:=aq,toks:=ag }) ->
   codeAny (model X.prog X.w) X.A (.compLoop (.ListComp a4 [⟨tg,b5,ba,0⟩] N pos) 0 (.ref it) (.ref B.heap.objs.size) (compEnvC N S H2.objs.size X.env))
    (RR (.ref B.heap.objs.size) H2.objs.size) aj:=by
  rintro aj ⟨ag,rfl⟩
  refine aA (fun n s'=>∃i ys H' ab,ab.length=xs.length/\Inv (um X xs N S M H2.objs.size B J) [] (ab++σ) H' s'/\tn i s'.heap/\(∀b∈M,H' b=none)/\W i n ys H') ?_ b7
   ⟨0,[],_,List.replicate xs.length none,BX,I' ag,bj,bq,w0⟩
  rintro n bc ⟨i,ys,H3,ab,l0,I3,bg,a6,ct⟩
  rcases cp i n ys H3 ct with ⟨ck,qn⟩ | ⟨bu,cj⟩
  .refine thn (T.done (um X xs N S M H2.objs.size B J) rfl rfl rfl hc i [] bc (ab++σ) H3 (fun _ _=>False) I3 (ay a6) bg ck) fun r aa U=>X0 U fun aw I4=> ?_
   subst aw;show RR _ _ (.ok .next) aa;refine hV I4.loc fun m hn _=>?_;have cc:=I4.os;refine bz _ _ H3 aa m hn ?_ I4.free (fun y c h z=>?_) (hC▸B9 _) ?_ qn
   .exact Ne.symm (af _ L.lt).1
   .exact HD (L.cell y c h) fun v o ho ah=>(af c (Aa ho)).1 z
   .obtain ⟨hh,g,d,t,cb⟩:=aa
    obtain rfl:cb=B.os:=cc;exact L.call (h':=hh) (g':=g) (d':=d) (t':=t) I4.base I4.hok I4.bare fun b I=>⟨(Z b I).2.2.2.1,(Z b I).2.1,(Z b I).2.2.2.2.1,(Z b I).2.2.2.2.2⟩
  .refine thn (T.item (um X xs N S M H2.objs.size B J) rfl rfl rfl hc i [] bc (ab++σ) H3 (fun _ _=>False) I3 (ay a6) bg bu) fun r aa U=>hV U fun u aw h4=> ?_
   subst aw;refine thn h4 fun _ bf U=>PQ U fun x5 H5 I5 r5 y5 ax bt=> ?_
   have a0:∀{H':Hp}{s':Shared}{τ:St},Inv (um X xs N S M H2.objs.size B J) ([]++iN M bf.heap) τ H' s'->tn (i+1) s'.heap/\∀b∈M,H' b=none:=fun I7=>
    ⟨T.keep _ _ _ ax fun b I o e=>(I7.pin (b,o) (A0 _ (A0 _ (nU I e)))).1,fun b I=>hV (T.obj _ _ ax b I) fun o e d=>(I7.pin (b,o) (A0 _ (A0 _ (nU I e)))).2.1⟩
   refine JY (cj x5 H5 y5) fun ae cg l5 q5=>thn (hg M _ B J _ bf (ab++σ) H5 x5 u (fun cu H'=>cu=ae.map some++σ/\H'=H5) (I5.pinned (ay bt) (T.obj _ _ ax)) r5 (hG ab ae x5 H5 _ l0 cg l5 ⟨rfl,rfl⟩)) fun _ s6 U=>Wc U fun cy H6 I6 e6 bl=> ?_;subst e6 bl;have l6:(ae.map some).length=xs.length:=by rwa [AB]
   refine thn (ht M _ B J _ s6 (ae.map some++σ) H6 _ I6 q5) fun b9 s7 U=>hV U fun H7 I7 q7=> ?_
   cases b9 with
   |false =>
    rw[Am AU] at q7;rw[Am AU];refine hV q7 fun Y O w7=>?_;obtain⟨k1,k2⟩:=a0 I7;exact⟨Y,O,i+1,ys,H7,ae.map some,l6,I7.unpinned,k1,k2,w7⟩
   |true =>
    rw[Al rfl] at q7;rw[Al rfl];refine thn (b2 M _ B J _ s7 (ae.map some++σ) H7 _ I7 q7) fun y s8 ⟨y8,H8,I8,r8,bx,b3,Y,O,w8⟩=>thn (aT _ s8 _ H8 (.ref B.heap.objs.size) [y8] (.ref B.heap.objs.size) [y] (fun _ H9=>H9=upd H8 B.heap.objs.size (.lst (ys++[y8]))) I8 rfl (.cons r8 .nil) ⟨_,ys,y8,rfl,rfl,bx,b3,rfl⟩) fun _ s9 U=>Wc U fun _ H9 I9 _ e9=> ?_;subst e9;obtain⟨k1,k2⟩:=a0 I9
    exact⟨Y,O,i+1,ys++[y8],_,ae.map some,l6,I9.unpinned,k1,k2,w8⟩
 exact codeAny_compStart_list (bb _ ⟨_,rfl⟩) (T.self _ 0 _ _ _ bj (bb _ ⟨_,rfl⟩))
def xu{S O:Expr}{x:Str}{Z pos:Pos}{Y:List Expr}{J:Scope}{N:List (Str×Addr)}{wi:TI}{tc:TT}{te:TE}(hc:X.calm=true)(hN:(x::X.N).Nodup)(K:xD X x J N)(hi:PI X (.Name x Z) O wi)(ht:∀I C L B,WX (nV X x J N I C L B) Y tc)(ah:∀I C L B,PE (nV X x J N I C L B) S te)(hs:∀v,foldedSetIterable O X.env v=pure v:=by intro _;rfl):PE X (.ListComp S [⟨.Name x Z,O,Y,0⟩] J pos) (aI wi tc te):=by
 intro pins s σ H Q aa h;rw[eval_ListComp];refine wpAny_comprehension_free (use:=none) rfl hs K.clos K.kind K.names (thn (hi pins s σ H _ aa h) fun xv av aj=>thn aj fun au L ak=>?_);obtain⟨it,I,tn,ar,B,e,M,T,aq,ab,R⟩:=ak;subst e;refine cP (g:=fB 0) (Tk:=fun x _ vs=>vs=[x]) hc K (fun _ _ _ _=>mD (i:=0) (x:=x) hN rfl (.inl (Ca (K.hx x (.head _)))) (.inr (Ca (K.hx x (.head _))))) ht ah (by rintro ws vs y H Q l rfl _ q;match ws,l with | [_],_=>exact q) M T aq ab (fun D hD=>let ⟨W,w0,tu⟩:=R D hD;⟨W,w0,fun i m ys H w=>(tu i m ys H w).imp id fun zz=>X0 zz fun g st=> ⟨g,fun x H' y=>⟨[x],rfl,rfl,st x H' y⟩⟩⟩) ?_
 intro D C H ao m hn af ae ag U I4 q;refine⟨m,hn,fun h' ai=>⟨.ref D,H,?_,rfl,q⟩⟩;refine I4.turned (it:=C) (t':=ao.toks) (fun b o hb e=>(ai.2 b hb).trans e) ae af (.inr (AR M.sz U)) ag fun p hp z=>?_;exact absurd (AK (Aa (M.pin p hp).1) (by rw[z];exact U)) (BM _)
end
def Its(x:Str):It:=⟨fun i _=>i < x.cps.size,fun i H v H'=>H'=H/\∃c,x.cps[i]?=some c/\v=.str ⟨#[c]⟩,fun i _=>x.cps.size<=i⟩
def aS(q:ty = "str_ascii_iterator"\/ty = "str_iterator")(g:A.handled=none)it x t:
  Walks P w A it [it] [it] x.cps.size (SignAt x) (fun i h=>h.IsStrIter it ty x t i):=by
 rcases q with rfl | rfl
 .exact Walks.strAscii g it x t
 .exact Walks.strWide g it x t
def Kz{K}(D:ty = "str_ascii_iterator"\/ty = "str_iterator")x t it:
  Xb P w K tg (Its x) [it] it (fun i h=>h.IsStrIter it ty x t i/\i<=x.cps.size) where
 mem:=by simp
 obj:=fun i h st b g=>by
  have e:b=it :=by grind
  subst e;obtain⟨⟨o,e,c,d⟩,_⟩:=st;exact⟨o,e,fun v z=>by rw[d] at z;cases z⟩
 keep:=fun i h h' st k=>⟨let ⟨o,ho,r⟩:=st.1;⟨o,k it (by simp) o ho,r⟩,st.2⟩
 item:=by
  intro X hP ae ab S i pins s σ H E I q st B;refine NZ (q it (by simp)) fun J L aa M N O=>?_;refine(aS D (I.ok.hd S) it x t).item i s _ _ B st.1 fun v h' Z hv Y U=>?_;obtain⟨c,u,hx,rfl⟩:=hv;have I1:Inv X pins σ H { s with heap:=h',toks:=Z }:=I.turned (fun b o g e=>U b o (by simp_all) e) J L M N O;exact JY (id Y) fun o e cc d=>⟨_,rfl,QF e cc d (by rcases D with rfl | rfl<;>decide) ⟨.str ⟨#[c]⟩,H,I1,⟨u,rfl⟩,⟨rfl,c,hx,rfl⟩,⟨Y,B⟩,fun b g=>(q b g).1⟩⟩
 done:=by
  intro X hP ae ab S i pins s σ H E I q st B;refine NZ (q it (by simp)) fun J L aa M N O=>?_;refine(aS D (I.ok.hd S) it x t).done s _ _ ((Nat.le_antisymm st.2 B)▸st.1) fun h' Z U=>⟨rfl,I.turned (fun b o g e=>U b o (by simpa using g) e) J L M N O⟩
 self:=fun A i s Q E st h=>by
  rcases D with rfl | rfl
  .exact wpAny_pyIter_striter_ascii st.1 h
  .exact wpAny_pyIter_striter_wide st.1 h
def Nk(tl:TE):TI:=fun σ H R=>tl σ H fun x H1=>∃z,x=.str z/\R (Its z) H1
section
variable {X:Cx}{tg:Expr}
def Gx(L:PE X l tl):PI X tg l (Nk tl):=by
 intro pins s σ H R I h;refine thn (L pins s σ H _ I h) fun v g S=>Wc S fun x H1 B O N=> ?_;obtain⟨z,rfl,q⟩:=N;obtain⟨t,rfl⟩:=O
 have D:∀ty o,(ty = "str_ascii_iterator"\/ty = "str_iterator")->(g.heap.push o).IsStrIter g.heap.objs.size ty z t 0->PIE X pins σ tg R (.ref g.heap.objs.size) { g with heap:=g.heap.push o }:=fun ty o M st=>by
  refine⟨g.heap.objs.size,[g.heap.objs.size],_,_,H1,rfl,B.kept (t':=g.toks) fun b o e=>AW _ e,Kz M z t _,⟨st,AM _⟩,fun b U=>?_,q⟩;have e:b=g.heap.objs.size :=by grind
  subst e;exact B.fpOk (AO _) (B.hok.fresh (AO _))
 cases J:z.cps.all (· < 128)
 .exact wpAny_pyIter_wide J (D _ _ (.inr rfl) ⟨_,Ae _ rfl,rfl,rfl⟩)
 .exact wpAny_pyIter_ascii J (D _ _ (.inl rfl) ⟨_,Ae _ rfl,rfl,rfl⟩)
end
def Kj(ys:List Bool):((List.range ys.length).all fun i=>(ys[i]?).getD false)=ys.all id:=by
 rw[B5,BR,BR]
 constructor
 .intro h b q
  obtain⟨i,hi⟩:=Cz.mp q;have g:=(AZ.mp hi).1;have:=h i (Bu.mpr g)
  rwa [hi] at this
 .intro h i hi
  have g:=Bu.mp hi;exact(AL g)▸h _ (Bf g)
section
variable {X:Cx}
def nW(O:X.calm=true):CallR X (.builtin "all") (fun xs H Q=>∃p ys,xs=[.ref p]/\SqL X.K H p (List.map V.bl ys)/\Q (.bl (ys.all id)) H):=by
 intro pins s σ H xs us Q I r h;obtain⟨p,ys,rfl,U,q⟩:=h;obtain⟨u,rfl,rfl⟩:=yG r;obtain⟨its,L,pl,hz⟩:=(I.list U);have B:its.length=ys.length:=by rw[<- L.length,AB]
 refine HD (id pl) fun o n S _=>call_all_walk (wpAny_pyIter_list pl.isList ⟨s.heap.objs.size,_,_,_,_,_,fun i=>(ys[i]?).getD false,rfl,Walks.list (A:=X.A.in1) (I.ok.hd O) s.heap.objs.size p (Av (Aa S)) its.toArray,⟨⟨_,Ae _ rfl,rfl,rfl⟩,pl.isList.push _⟩,fun i v s' N E' hP g=>?_,fun h' aa Z=>?_⟩)
 .have J:its[i]?=some v :=by simp_all
  have hi :=B▸(AZ.mp J).1;have Y:(List.map V.bl ys)[i]?=some (.bl ys[i]):=by rw[Ah,AL hi];rfl
  obtain⟨u,D,ru⟩:=(L.get Y);rw[J] at D;cases D;cases ru;have g:N ((ys[i]?).getD false) s':=g;rw[AL hi] at g;exact Aw g
 .have M:Inv X pins σ H { s with heap:=h',toks:=aa }:=I.kept fun b o e=>Z b o (by intro z;exact absurd (Aa e) ((AJ.mp z)▸BM _)) (AW _ e)
  have e:((List.range its.toArray.size).all fun i=>(ys[i]?).getD false)=ys.all id:=by rw[AV,B,Kj]
  exact e▸⟨.bl (ys.all id),H,M,rfl,q⟩
inductive Ty where
 |non | bl | int | str | lst | tup | dct
 deriving DecidableEq
def rB:Ty->String
 |.non=>"NoneType" | .bl=>"bool" | .int=>"int" | .str=>"str" | .lst=>"list" | .tup=>"tuple" | .dct=>"dict"
def Iz:HO->Option Ty
 |.lst _=>some .lst
 |.frz _ (.lst _)=>some .lst
 |.tup _=>some .tup
 |.dK _=>some .dct
 |.dT _=>some .dct
 |_=>none
def Iw(H:Hp):V->Option Ty
 |.non=>some .non
 |.bl _=>some .bl
 |.int _=>some .int
 |.str _=>some .str
 |.ref a=>(H a).bind Iz
 |_=>none
def v5{K}(h:Iw H x=some n):jP K H x (.type (rB n)):=by
 cases x with
 |non=>cases h;exact .non
 |bl b=>cases h;exact .bl b
 |int i=>cases h;exact .int i
 |str z=>cases h;exact .str z
 |ref a =>
  have h:(H a).bind Iz=some n:=h
  cases e:H a with
  |none=>rw[e] at h;cases h
  |some o =>
   rw[e] at h
   cases o with
   |lst xs=>cases h;exact .lst e
   |tup xs=>cases h;exact .tup e
   |dK kvs=>cases h;exact .dK e
   |dT kvs=>cases h;exact .dT e
   |frz g u =>
    cases u with
    |lst xs=>cases h;exact .frz e
    |_=>cases h
   |_=>cases h
 |byt b=>cases h
 |flt b=>cases h
 |ty n=>cases h
def fJ:Ty->Ty->Bool
 |.bl,.int=>true
 |a,b=>decide (a=b)
def yo K n T:PySem.W.kitOne K (.type (rB n)) (.type (rB T))=some (fJ n T):=by
 cases n<;>cases T<;>with_unfolding_all rfl
def uX:CallR X (.builtin "isinstance") (fun xs H Q=>∃x T n,xs=[x,.ty (rB T)]/\Iw H x=some n/\Q (.bl (fJ n T)) H):=by
 intro pins s σ H xs us Q I r h;obtain⟨x,T,n,rfl,g,q⟩:=h;obtain⟨u,J,rfl,B,rfl⟩:=vals2 r;exact JK I B (v5 g) (yo X.K n T) fun D=>⟨.bl (fJ n T),H,I.tok D,rfl,q⟩
def Gk:SlR X (fun x lo hi H Q=>∃z,x=.str z/\z.length<=sizeLine/\Q (.str (Txt.slice z lo hi)) H):=by
 intro pins s σ H x v N O lo hi M Q I L hs pl D h;obtain⟨z,rfl,hz,q⟩:=h;obtain⟨t,rfl⟩:=L;refine⟨"str",_,F.slot_str_getitem.lookup,Bq _ _ _,?_⟩;have g:∀(t':Tok)(k:Nat),EP X pins σ Q (.str (Txt.slice z lo hi) t') { s with toks:=k }:=fun t' k=>⟨.str _,H,I.tok k,⟨_,rfl⟩,q⟩
 cases pl with
 |none =>
  cases D with
  |none=>exact B8 (l:=none) (u:=none) (st:=none) hs rfl (Cv ⟨AR (Txt.slice_le z _ _) hz,g⟩)
  |int j B=>exact B8 (l:=none) (u:=some (j,B)) (st:=none) hs rfl (Cv ⟨AR (Txt.slice_le z _ _) hz,g⟩)
 |int i J =>
  cases D with
  |none=>exact B8 (l:=some (i,J)) (u:=none) (st:=none) hs rfl (Cv ⟨AR (Txt.slice_le z _ _) hz,g⟩)
  |int j B=>exact B8 (l:=some (i,J)) (u:=some (j,B)) (st:=none) hs rfl (Cv ⟨AR (Txt.slice_le z _ _) hz,g⟩)
def Qi:OpR X (binaryOp .FloorDiv) (rI (fun _ j=>0 < j/\j < 18446744073709551616) fun i j=>.int (i / j)):=opI fun i j _ _ _ _ _ B q=>by
 refine floordiv_int (by lia) (by grind) (.inl (PyProof.noPylong_of_log2 ?_));have g:j.natAbs < 2 ^ 64 :=by lia
 exact AK ((Nat.log2_lt (by omega)).mpr g) (by decide)
end
structure JE(X:Cx)(e:Expr)(t:TE):Prop where
 h:PE X e t
structure JT(X:Cx)(e:Expr)(t:TT):Prop where
 h:PT X e t
structure JW(X:Cx)(e:Expr)(t:TT):Prop where
 h:PW X e t
structure JA(X:Cx)(es:List Expr)(t:TA):Prop where
 h:PA X es t
structure JS(X:Cx)(st:Stmt)(t:TS):Prop where
 h:PS X st t
structure JB(X:Cx)(st:List Stmt)(t:TS):Prop where
 h:PSs X st t
structure JG(X:Cx)(e:Expr)(t:TG):Prop where
 h:PG X e t
structure Lb(X:Cx)(es:List Expr)(t:TGs):Prop where
 h:PGs X es t
structure JI(X:Cx)(tg e:Expr)(t:TI):Prop where
 h:PI X tg e t
structure JF(X:Cx)(ifs:List Expr)(t:TT):Prop where
 h:WX X ifs t
structure JO(X:Cx)(e:Option Expr)(t:TO):Prop where
 h:PO X e t
section
variable {X:Cx}{a b c e o i:Expr}{es:List Expr}{ta tb tc te:TE}{tA tB':TT}{t:TA}{pos:Pos}{rest:List Expr}
def yu(q:Gl X x)(B:X.mg x=none)(I:bootBuiltins x=some u)(r:RelV v u)(D:x ≠ "__name__":=by decide)(g:(x==("__debug__" : Str))=false:=by decide):JE X (.Name x pos) (tC v):=⟨pe_bltn q B I r D g⟩
def fL:Expr->Bool
 |.Name _ _=>true | .Call _ _ _ _=>true | .Subscript _ _ _=>true | .Attribute _ _ _=>true | .IfExp _ _ _ _=>false | _=>false
def aN(h:fL e=true):∀g,isTrue e q g=(do let v <- g;standAt e.pos;holding [v] (truthy v)):=by
 cases e<;>first | (intro _;rfl) | exact absurd h AU
def tE(g:JE X e te)(q:JA X es t)(hs:hX e=true:=by rfl):JA X (e::es) (KB te t):=⟨bE g.h q.h hs⟩
def yt{p}(F:FnOk X.prog X.w X.K X.mg X.base CX k f fd ps sp)(N:Room k X.A)(J:Gl X x)(M:X.mg x=some (.ref f))(L:PySem.W.keepIn X.K (.ref f)=true)(B:Binds X.K fd ps ds)(D:Vals dvs ds)(O:jW CX X E)(g:JA X (e::es) t)(I:(x==("__debug__" : Str))=false:=by decide)(hs:hX e=true:=by rfl)(q:es.all hX=true:=by rfl):JE X (.Call (.Name x p) (e::es) [] pos) (KC sp dvs E t):=⟨w5 F N J M L B D O g.h I hs q⟩
def sL{p}(B:CallR X (.type T) r)(I:Gl X x)(J:X.mg x=none)(M:bootBuiltins x=some (.type T))(g:JA X (e::es) t)(L:x ≠ "__name__":=by decide)(D:(x==("__debug__" : Str))=false:=by decide)(hs:hX e=true:=by rfl)(q:es.all hX=true:=by rfl):JE X (.Call (.Name x p) (e::es) [] pos) (tCB r t):=⟨Jl B I J M g.h L D hs q⟩
def yr{L J:Expr}{x:Str}{N:Pos}{M:List Expr}{D:Scope}{I:List (Str×Addr)}{O:TI}{tc:TT}(U:X.calm=true)(S:(x::X.N).Nodup)(K:xD X x D I)(hi:JI X (.Name x N) J O)(Z:∀q C B g,JF (nV X x D I q C B g) M tc)(Y:∀q C B g,JE (nV X x D I q C B g) L te)(hs:∀v,foldedSetIterable J X.env v=pure v:=by intro _;rfl):JE X (.ListComp L [⟨.Name x N,J,M,0⟩] D pos) (aI O tc te) :=
 ⟨xu U S K hi.h (fun q C B g=>(Z q C B g).h) (fun q C B g=>(Y q C B g).h) hs⟩
variable {tg:Expr}
end
section
variable {X:Cx}{st:Stmt}{sts:List Stmt}{t u:TS}{e c:Expr}{te:TE}{tc:TT}{pos:Pos}
end
section
variable {P:Program}{w:World}{K:DD}{mg:Str->Option Value}{base:Heap}
def Fun.Sx{st}(F:Fun K x D st f fd)(S:FnScope N ps (cZ st))(M:∀vs H Q E,sp vs H Q E->vs.length=ps.length)(I:∀g A B s H vs Q E,Room k (A.deeper (envOfC D (cZ st) s.heap.objs.size f g))->sp vs H Q E ->
   ∃t,JB (lA CX0 P w K mg base N D (cZ st) f g A B s H E).nox (rV st) t/\t { nx:=fun _ H'=>Q .non H',rt:=Q } (start N vs) H):FnOk P w K mg base CX0 (k+1) f fd ps sp :=
 F.ok S M fun g A B s H vs Q E J h=>let ⟨t,L,q⟩:=I g A B s H vs Q E J h;⟨t,L.h,q⟩
end
structure KD(K:DD)(P:Program)(w:World)(d:Addr)(kvs:List (Key×V)):Prop where
 all:∀h:Heap,K.In h->∃vs,KV kvs vs/\h.DictOf (jZ P w) d vs
 ne:(d==sysModules)=false
def mH(p:Params)(l:List (Str×Tok×Int×Tok)):List DictEntry:=l.map fun x=>{ hash:=PyData.keyHash p x.1,key:=.str x.1 x.2.1,val:=.int x.2.2.1 x.2.2.2 }
def Gj(l:List (Str×Tok×Int×Tok)):List (Key×V):=l.map fun x=>(Sum.inr x.1,.int x.2.2.1)
def Fj{K:DD}{P:Program}{w:World}{d:Addr}{l:List (Str×Tok×Int×Tok)}{n:Nat}(h:K.lookup d=some { cls:=.type "dict",data:=.dict (mH w.params l).toArray n })(g:(l.map (·.1)).Nodup)(D:(d==sysModules)=false)(L:∀x:Str,PyData.keyHash w.params x=hashStr w x):KD K P w d (Gj l):=by
 refine⟨fun M X=>?_,D⟩;refine⟨l.map fun x=>(Sum.inr x.1,.int x.2.2.1 x.2.2.2),?_,_,(mH w.params l).toArray,n,X d _ h,⟨rfl,rfl,rfl⟩,rfl,?_,?_,?_⟩
 .clear h g
  induction l with
  |nil=>exact .nil
  |cons x r q=>exact .cons ⟨rfl,_,rfl⟩ q
 .intro e I
  have J:e∈mH w.params l:=by simpa using I
  obtain⟨x,_,rfl⟩:=AS.mp J;exact⟨Sum.inr x.1,wU x.1 x.2.1,L _⟩
 .show Pairs (jZ P w) (mH w.params l) _
  clear h g
  induction l with
  |nil=>exact .nil
  |cons x r q=>exact .cons (wU x.1 x.2.1) rfl q
 .have e:(l.map fun x=>((Sum.inr x.1:Key),Value.int x.2.2.1 x.2.2.2)).map (·.1)=(l.map (·.1)).map Sum.inr:=by
   rw[Aj,Aj];rfl
  rw[e];exact List.Pairwise.map Sum.inr (fun a b B z=>B (Sum.inr.inj z)) g
section
variable {X:Cx}{d:Addr}{kvs:List (Key×V)}
def jM(g:KD X.K X.prog X.w d kvs):OpR X (compareOp .In) (fun x y H Q=>∃z,x=.str z/\y=.ref d/\Q (.bl (oK kvs (Sum.inr z)).isSome) H):=by
 intro pins s σ H x y v u Q I J M h;obtain⟨z,rfl,rfl,q⟩:=h;cases (show u=Value.ref d from M);obtain⟨vs,D,B⟩:=g.all s.heap I.kIn;have L:RelV (kV (Sum.inr z)) v:=J;refine wpAny_in_of (mP L) g.ne B.mapOf ?_;rw[<- (D.val (Sum.inr z)).isSome_eq];exact⟨.bl _,H,I.tok _,rfl,q⟩
def Nb(J:KD X.K X.prog X.w d kvs):IxR X (fun x y H Q=>∃z v,x=.ref d/\y=.str z/\oK kvs (Sum.inr z)=some v/\Q v H):=by
 intro value U pins s σ H x y v u Q I N O h hs;obtain⟨z,r,rfl,rfl,l,q⟩:=h;cases (show v=Value.ref d from N);obtain⟨vs,L,g⟩:=J.all s.heap I.kIn;have S:RelV (kV (Sum.inr z)) u:=O;obtain⟨Y,D,M⟩:=RelO.some_of (v:=r) (o:=valueAt vs (Sum.inr z)) (by rw[<- l];exact L.val (Sum.inr z));obtain⟨o,es,ep,B,ex,_⟩:=id g;exact tail_any (ops:=[.ref d,u]) (T:="dict") ⟨o,B,ex.1⟩ PySem.F.slot_dict_getitem.lookup (wpAny_getItem_of (mP S) g.mapOf D ⟨r,H,I.tok _,M,q⟩) hs
end
theorem oF: ∀(M:List (Str×NameKind))q,(∀y∈M,y.2=.free->∃c,I.cells.lookup y.1=some c)->(∀y c,q.lookup y=some c->I.cells.lookup y=some c) ->
  ∃B,(forIn M q fun x r=>(do
    if x.2==NameKind.free then do
     let c <- cellOf I x.1
     pure (ForInStep.yield ((x.1,c)::r))
    else pure (ForInStep.yield r):Sem (ForInStep (List (Str×Addr)))))=pure B/\(∀y c,B.lookup y=some c->I.cells.lookup y=some c)/\(∀y∈M,y.2=.free->∃c,B.lookup y.1=some c)/\∀y c,q.lookup y=some c->∃D,B.lookup y=some D
 |[],q,_,J=>⟨q,rfl,J,fun y g=>absurd g (by simp),fun y c h=>⟨c,h⟩⟩
 | (n,k)::r,q,L,J=>by
  cases hk:(k==NameKind.free) with
  |false =>
   refine HF (oF r q (fun y g=>L y (AF _ g)) J) fun B e h1 h2 N=>⟨B,?_,h1,fun y g Y=>?_,N⟩
   .grind
   .grind
  |true =>
   have S:k=.free :=by lia
   refine PX (L (n,k) AI S) fun c O=>?_
   have U:∀y D,((n,c)::q).lookup y=some D->I.cells.lookup y=some D:=fun y D h=>by
    rw[List.lookup_cons] at h
    cases g:y==n with
    |true =>
     rw[g] at h;have:y=n :=by lia
     subst this
     rwa [O]
    |false =>
     rw[g] at h;exact J y D h
   refine HF (oF r ((n,c)::q) (fun y g=>L y (AF _ g)) U) fun B e h1 h2 N=>?_;have Z:cellOf I n=pure c:=by delta cellOf;rw[O]
   refine⟨B,?_,h1,fun y g Y=>?_,fun y D h=>?_⟩
   .grind
   .grind
   .grind
def jR(xs:List Str)(g:Scope)(N:List Str)(q:Scope):Bool :=
 g.names.all (fun y=>decide (y.2≠.cell)&&(decide (y.2≠.free) || decide (q.names.lookup y.1=some .cell))&&(decide (y.2≠.local) || (decide (g.names.lookup y.1=some .local)&&decide (y.1∉N))))&&decide (g.kind=.function)&&xs.all (fun x=>decide (g.names.lookup x=some .local))
def Wl(S:X.N=N)(Z:X.env.scope=J)(U:X.env.cells=cellsFrom L J.names [])(h:jR xs D N J=true):∃I,aH X xs D I:=by
 subst S Z
 delta jR at h
 rw[Ax,Ax,BR] at h;obtain⟨⟨h1,h2⟩,O⟩:=h
 have B:∀y∈D.names,y.2≠.cell/\(y.2=.free->X.env.scope.names.lookup y.1=some .cell)/\(y.2=.local->D.names.lookup y.1=some .local/\y.1∉X.N):=fun y g=>by
  have q:=h1 y g;rw[Ax,Ax] at q;obtain⟨⟨q1,q2⟩,q3⟩:=q;refine⟨Af q1,fun e=>?_,fun e=>?_⟩
  .lia
  .lia
 refine HF (oF D.names [] (fun y g Y=>U▸kR ((B y g).2.1 Y)) (fun y c z=>by simp at z)) fun I e k1 k2 _=>?_;refine⟨I,⟨?_,fun y g=>(B y g).1,Af h2,fun y g q=>((B y g).2.2 q).1,fun x hx=>Af (BR.1 O x hx),fun y g q=>((B y g).2.2 q).2,fun y g q=>⟨?_,.inl ((B y g).2.1 q),k2 y g q⟩,k1⟩⟩
 .have M:=A3 (fun m:Sem (List (Str×Addr))=>m >>= fun cs=>(pure cs:Sem (List (Str×Addr)))) e
  exact M
 .show X.env.scope.names.lookup y.1≠some .local
  rw[(B y g).2.1 q]
  decide
def Qw{X:Cx}{L I:Expr}{x:Str}{N pos:Pos}{M:List Expr}{q:Scope}{O:TI}{tc:TT}{te:TE}(U:X.calm=true)(S:(x::X.N).Nodup)(K:∃g,xD X x q g)(hi:JI X (.Name x N) I O)(Z:∀g D C J B,JF (nV X x q g D C J B) M tc)(Y:∀g D C J B,JE (nV X x q g D C J B) L te)(hs:∀v,foldedSetIterable I X.env v=pure v:=by intro _;rfl):JE X (.ListComp L [⟨.Name x N,I,M,0⟩] q pos) (aI O tc te) :=
 let ⟨g,K⟩:=K
 yr U S K hi (Z g) (Y g) hs
section
variable {X:Cx}{o e:Expr}{es:List Expr}{to:TE}{t:TA}{name:Str}{apos cpos:Pos}{T id:String}{r:V->List V->Hp->VK->Prop}
def Fl(N:PlainAttrs T)(O:Slot T name id)(M:typeOf (.builtin id)=pure (.type "method_descriptor"))(J:MtR X id r)(L:JE X o to)(g:JA X (e::es) t)(B:attributeBase o name X.env (eval o X.env)=eval o X.env:=by rfl)(D:((backTo cpos (starEach (e::es) X.env)).all (fun x=>!x.1)&&(backToKw cpos (keywordEach [] X.env)).all (fun x=>x.1.isSome)
   && decide ((e::es).length+([]:List Keyword).length+(if ([]:List Keyword).isEmpty then 0 else 1) < 30))=true:=by rfl)(I:(apos.endLine==cpos.line)=true:=by rfl)(hs:hX e=true:=by rfl)(q:es.all hX=true:=by rfl):
  JE X (.Call (.Attribute o name apos) (e::es) [] cpos) (tBM X.K T r to t):=⟨Vk N O M J L.h g.h B D I (xJ hs) (nB q)⟩
end
section
variable {X:Cx}{pos:Pos}
def M5(q:attributeBase o m X.env (eval o X.env)=eval o X.env)(I:(apos.endLine==cpos.line)=true)(B:hX e=true)(D:hX f=true):M2 X o m apos e f cpos:=by
 have g:starEach [e,f] X.env=[(false,eval e X.env),(false,eval f X.env)]:=by
  rw[xJ B,xJ D]
  rfl
 refine⟨q,?_,I,?_⟩
 .rw [g];rfl
 .rw [g];rfl
end
end L2
namespace L2
open PySem PySem.W PyProof.Rows
section
variable {n:Nat}(h0:0 < n)
include h0
end
end L2
namespace HT
open PySem PyProof.Rows
end HT
namespace L2
open PySem PySem.W PyProof.Rows
end L2
namespace L2
open PySem PySem.Spec PyProof.Rows
def uH(p:Params)(l:List (Str×Tok×Value×V)):List DictEntry:=l.map fun x=>{ hash:=PyData.keyHash p x.1,key:=.str x.1 x.2.1,val:=x.2.2.1 }
def Ge(l:List (Str×Tok×Value×V)):List (Key×V):=l.map fun x=>(Sum.inr x.1,x.2.2.2)
def VJ{K:DD}{P:Program}{w:World}{d:Addr}{l:List (Str×Tok×Value×V)}{n:Nat}(h:K.lookup d=some { cls:=.type "dict",data:=.dict (uH w.params l).toArray n })(g:(l.map (·.1)).Nodup)(I:(d==sysModules)=false)(M:∀x:Str,PyData.keyHash w.params x=hashStr w x)(B:Vals (l.map (·.2.2.2)) (l.map (·.2.2.1))):KD K P w d (Ge l):=by
 refine⟨fun N X=>?_,I⟩;refine⟨l.map fun x=>(Sum.inr x.1,x.2.2.1),?_,_,(uH w.params l).toArray,n,X d _ h,⟨rfl,rfl,rfl⟩,rfl,?_,?_,?_⟩
 .clear h g
  induction l with
  |nil=>exact .nil
  |cons x r q =>
   cases B with
   |cons a b=>exact .cons ⟨rfl,a⟩ (q b)
 .intro e J
  have L:e∈uH w.params l:=by simpa using J
  obtain⟨x,_,rfl⟩:=AS.mp L;exact⟨Sum.inr x.1,wU x.1 x.2.1,M _⟩
 .show Pairs (jZ P w) (uH w.params l) _
  clear h g B
  induction l with
  |nil=>exact .nil
  |cons x r q=>exact .cons (wU x.1 x.2.1) rfl q
 .have e:(l.map fun x=>((Sum.inr x.1:Key),x.2.2.1)).map (·.1)=(l.map (·.1)).map Sum.inr:=by
   rw[Aj,Aj];rfl
  rw[e];exact List.Pairwise.map Sum.inr (fun a b D z=>D (Sum.inr.inj z)) g
section
variable {X:Cx}{o i value:Expr}{td ty tv:TE}{pos pos':Pos}
def Gz(J:X.A.units+1 < cLine):OpR X (compareOp .In) (fun x y H Q=>∃d B,y=.ref d/\Xk H d x B/\Q (.bl B.isSome) H):=by
 intro pins s σ H x y v u Q I L M h;obtain⟨d,B,rfl,g,q⟩:=h;cases M;exact d_in J I g L fun N D=>⟨.bl B.isSome,H,D,rfl,q⟩
end
end L2
namespace PySem.SeqAt
open MeetsSeq
def Xm b u l q es n D:
  Meets (Builtin.«str.__eq__» ⟨[.str b u,.ref l],[]⟩) (fun _ R s=>s.heap.get? l=some ⟨.type "dict",q,.dict es n,D⟩/\R (.ok (.ret .notImplemented)) s) :=
 .of_wp fun prog w A R s h=>by
  obtain⟨I,g,d,L,J⟩:=s;obtain⟨B,h⟩:=h
  wp_walk using wpAny_load B
  exact⟨_,rfl,h⟩
def pI b u l q es n D:
  Meets (Builtin.«dict.__eq__» ⟨[.ref l,.str b u],[]⟩) (fun _ R s=>s.heap.get? l=some ⟨.type "dict",q,.dict es n,D⟩/\R (.ok (.ret .notImplemented)) s) :=
 .of_wp fun prog w A R s h=>by
  obtain⟨J,g,d,M,L⟩:=s;obtain⟨B,h⟩:=h;have I:=F.sub_str_dict
  wp_walk using wpAny_load B
  exact⟨_,rfl,h⟩
def mj(q:s.heap.get? l=some ⟨.type "dict",B,.dict es n,D⟩)(J:A.units < cLine):
  EqAt A s (.str b u) (.ref l) false:=fun prog w E Q h=>by
 refine BE (Ac (fun I=>absurd (eq_of_beq I) nofun) (fun _=>AC ?_))
 have R:RcAt A s (.str b u) (.ref l) false:=fun prog w E Q h=>rc_eq_decline_or (Bq s b u) ⟨_,q,rfl⟩ rfl F.sub_dict_str F.slot_str_eq F.slot_dict_eq_refl
  (fun _ g=>BU F.slot_str_eq (Bq s b u) F.entry_str_eq (F.args_str_eq_2 _ _) (Xm b u l B es n D) ⟨q,g⟩)
  (fun _ g=>BU F.slot_dict_eq_refl ⟨_,q,rfl⟩ F.entry_dict_eq (F.args_dict_eq_2 _ _) (pI b u l B es n D) ⟨q,g⟩)
  (fun _ g=>Bg rfl g) (.inr J) h
 exact R prog w E _ (Aw h)
end PySem.SeqAt
namespace L2
open PySem PySem.Spec PyProof.Rows
section
variable {X:Cx}
theorem rE(q:∀(z:Str)(t:Tok),SeqAt.EqAt A s (.str z t) v (eqV (.str z) x)):∀{l:List Str}{us},Vals (l.map V.str) us->∀u∈us,SeqAt.EqAt A s u v (eqU x u)
 |[],_,.nil=>fun u g=>by cases g
 |z::l,u::us,.cons r t=>fun B g=>by
  rcases AX.mp g with rfl | g
  .obtain ⟨t',rfl⟩:=r
   exact q z t'
  .exact rE q t B g
def sC(I:Inv X pins σ H s)(D:RelV x v)(g:Iw H x=some c)(q:A.units < cLine)z t:
  SeqAt.EqAt A s (.str z t) v (eqV (.str z) x):=by
 cases x with
 |non=>exact oC ⟨t,rfl⟩ D rfl rfl
 |bl b=>exact oC ⟨t,rfl⟩ D rfl rfl
 |int i=>exact oC ⟨t,rfl⟩ D rfl rfl
 |str y=>exact oC ⟨t,rfl⟩ D rfl rfl
 |ref a =>
  cases D;have g:(H a).bind Iz=some c:=g
  cases e:H a with
  |none=>rw[e] at g;cases g
  |some o =>
   rw[e] at g;have B:=I.hok a o e
   cases o with
   |lst xs =>
    obtain⟨_,its,n,_,h1⟩:=B;exact SeqAt.EqAt.str_list z t ⟨_,h1,rfl,n,rfl⟩ q
   |tup xs =>
    obtain⟨_,its,_,p⟩:=B;exact SeqAt.EqAt.str_tuple z t (j8.is p) q
   |dK kvs =>
    obtain⟨_,_,vs,_,p⟩:=B;obtain⟨⟨L,N,M,O⟩,es,ep,h1,h2,J,_⟩:=p;have h2:=h2.1;subst h2 J;exact SeqAt.mj h1 q
   |dT kvs =>
    obtain⟨_,_,xs,_,⟨L,N,M,O⟩,es,ep,h1,h2,J,_⟩:=B;have h2:=h2.1;subst h2 J;exact SeqAt.mj h1 q
   |frz S u =>
    cases u with
    |lst xs =>
     obtain⟨_,_,its,n,_,h1⟩:=B;exact SeqAt.EqAt.str_list z t ⟨_,h1,rfl,n,rfl⟩ q
    |_=>cases g
   |_=>cases g
 |byt b=>cases g
 |flt b=>cases g
 |ty b=>cases g
def OJ(l:List Str):V->Bool
 |.str z=>l.contains z
 |_=>false
theorem cR x:∀{l}{us},Vals (l.map V.str) us->us.any (eqU x)=OJ l x
 |[],_,.nil=>by cases x<;>rfl
 |z::l,u::us,.cons r t=>by
  obtain⟨t',rfl⟩:=r;rw[Bn,cR x t]
  cases x with
  |str y =>
   show((z==y) || l.contains y)=(z::l).contains y
   congr 1
   rw[B5,Cg,Cg];exact eq_comm
  |_=>rfl
def Lk(K:DD)(g:Bool):R2:=fun x y H Q=>∃p l c,y=.ref p/\(SqL K H p (List.map V.str l)\/SqT K H p (List.map V.str l))/\Iw H x=some c/\Q (.bl (if g then !OJ l x else OJ l x)) H
def vU(D:X.A.units+1 < cLine):OpR X (compareOp .In) (Lk X.K false):=by
 intro pins s σ H x y v u Q I L M h;obtain⟨p,l,c,rfl,g,B,q⟩:=h;cases M
 rcases g with g | g
 .obtain ⟨its,r,pl,hz⟩:=I.list g
  refine SeqAt.in_listAt (eqU x) pl.isList (fun w J=>rE (sC I L B D) r w (by grind)) ⟨.bl _,H,I,rfl,?_⟩;rw[show its.toArray.any (eqU x)=its.any (eqU x) by simp,cR x r];exact q
 .obtain ⟨its,r,pl,hz⟩:=I.tuple g
  refine SeqAt.in_tupleAt (eqU x) pl (fun w J=>rE (sC I L B D) r w (by simpa using J)) ⟨.bl _,H,I,rfl,?_⟩;rw[show its.toArray.any (eqU x)=its.any (eqU x) by simp,cR x r];exact q
def Gu(K:DD):R2:=fun x y H Q=>∃a b xs ys,x=.ref a/\y=.ref b/\SqT K H a xs/\SqT K H b ys/\xs.length+ys.length<=sizeLine /\
 (xs=[]->Q (.ref b) H)/\(xs≠[]->ys=[]->Q (.ref a) H)/\(xs≠[]->ys≠[]->∀p,H p=none->Q (.ref p) (upd H p (.tup (xs++ys))))
def Vo:OpR X (binaryOp .Add) (Gu X.K):=by
 intro pins s σ H x y v u Q I L M h;obtain⟨a,b,xs,ys,rfl,rfl,q,B,hz,q0,q1,q2⟩:=h
 by_cases g:xs=[]
 .cases L
  cases M;refine JY (I.tuple q) fun its r1 p1 _=>JY (I.tuple B) fun aa r2 p2 _=>?_;have e:=r1.nil_iff.mpr g;subst e;obtain⟨⟨ae,N,ag,sl⟩,D,S,n,Y⟩:=id p1;obtain⟨⟨af,O,ah,ab⟩,J,U,n2,Z⟩:=id p2;subst S Y U Z
  exact concat_meets ⟨_,D,rfl⟩ ⟨_,J,rfl⟩ noFill_tuple_add seq_tuple_add Cr Cp (Ck _ _)
   (tuple_addW0 a b _ aa.toArray n n2 N O sl ab rfl) ⟨D,J,⟨.ref b,H,I,rfl,q0 g⟩⟩
 .exact op_catT pins s σ H (.ref a) (.ref b) v u Q I L M ⟨a,b,xs,ys,rfl,rfl,q,B,g,hz,q1 g,q2 g⟩
def yp{U S pos ab}(ak:X.N.Nodup)(hi:X.N[i]?=some y)(hy:Loc X.env.scope y)(hc:X.calm=true)(hN:(x::X.N).Nodup)(K:xD X x L Y)(hI:JI X (.Name x S) O wi)(ht:∀I C J B,JF (nV X x L Y I C J B) aa tc)(aq:∀I C J B,JE (nV X x L Y I C J B) Z te)(hs:∀v,foldedSetIterable O X.env v=pure v:=by intro _;rfl)(av:swapsWith (.ListComp Z [⟨.Name x S,O,aa,0⟩] L pos) (some (.Name y U)) ab.line X.env=pure true:=by rfl)(ar:X.fn y=true\/X.env.scope.names.lookup y=some .local:=by first | exact .inl rfl | exact .inr rfl | assumption):
  JS X (.Assign [.Name y U] (.ListComp Z [⟨.Name x S,O,aa,0⟩] L pos) ab) (tAsg (aI wi tc te) (fB i)):=by
 refine⟨fun pins s σ H D ae h=>?_⟩;rw[exec_Assign_Name_used _ _ _ _ av];refine AC (wpAny_standAt (AC (AC (wpAny_comprehension_free (use:=some (assign (.Name y U) X.env)) rfl hs K.clos K.kind K.names (thn (hI.h pins s σ H _ ae h) fun xv a5 aw=>thn aw fun a3 J ax=>?_)))));obtain⟨it,I,tn,a0,B,e,M,T,az,af,R⟩:=ax;subst e
 apply cP (Q:=fun x H1=>fB i x σ H1 D.nx) hc K (fun _ _ _ _=>mD (i:=0) hN rfl (.inl (Ca (K.hx x (.head _)))) (.inr (Ca (K.hx x (.head _))))) (fun I C J B=>(ht I C J B).h) (fun I C J B=>(aq I C J B).h) (by rintro ws vs y H Q l rfl _ q;match ws,l with | [_],_=>exact q) M T az af (fun D hD=>let ⟨W,w0,tu⟩:=R D hD;⟨W,w0,fun i m ys H w=>(tu i m ys H w).imp id fun zz=>X0 zz fun g st=> ⟨g,fun x H' y=>⟨[x],rfl,rfl,st x H' y⟩⟩⟩)
 intro D' C H' a4 m hn ah ag ai aj I4 q;refine wpAny_assign_Name (xT I4 ak hi hy (v:=.ref D') rfl (fun ay I5 N=>?_) ar);obtain⟨b,N,hb⟩:=N;have ao:C≠b :=by grind
 exact⟨m,hn.at' fun o e=>(N.2 C ao).trans e,fun h' au=>AE (AE ⟨_,H',I5.turned (t':=ay.toks) (fun b o hb e=>(au.2 b hb).trans e) ag ah (.inr (AR M.sz aj)) ai fun p hp z=>absurd (AK (Aa (M.pin p hp).1) (by lia)) (BM _),q⟩)⟩
end
theorem sameNew(h:H p=none)o:Same H (upd H p o):=fun b u q=>by rwa [cX (qK q h)]
section
variable {X:Cx}
def Es:R2:=fun x y H Q=>∃a b xs ys,x=.ref a/\y=.ref b/\H a=some (.tup xs)/\H b=some (.tup ys)/\xs.length+ys.length<=sizeLine/\∀r H',Same H H'->H' r=some (.tup (xs++ys))->(H r=none\/r=a\/r=b)->Q (.ref r) H'
def ye:OpR X (binaryOp .Add) Es:=by
 intro pins s σ H x y v u Q I M N h;exact PN h fun a b xs ys B D J L hz q=>Vo pins s σ H x y v u Q I M N ⟨a,b,xs,ys,B,D,SqT.of J,SqT.of L,hz,fun h=>q b H (Same.refl H) (by rwa [h]) (.inr (.inr rfl)),fun _ h=>q a H (Same.refl H) (by grind) (.inr (.inl rfl)),fun _ _ p g=>q p _ (sameNew g _) vX (.inl g)⟩
end
end L2
namespace L2
open PySem PySem.W PyProof.Rows
section
variable {X:Cx}
abbrev yz(v d:Addr):Heap->Prop:=fun h=>h.IsItemsView v d
end
end L2
namespace L2
open PySem PySem.W PySem.Spec PyProof.Rows
section
variable {X:Cx}
def yc(L:X.A.units < cLine):OpR X (compareOp .Eq) (fun x y H Q=>∃(a b:Addr)(ks js:List Key),x=.ref a/\y=.ref b/\H a=some (.tup (ks.map kV))/\H b=some (.tup (js.map kV))/\Q (.bl (decide (ks=js))) H):=by
 intro pins s σ H x y v u Q I M N h;obtain⟨a,b,ks,js,rfl,rfl,D,J,q⟩:=h;cases (show v=Value.ref a from M);cases (show u=Value.ref b from N);have g:=yM I.hok D;have B:=yM I.hok J;exact Cd (op:=.Eq) (IsTupleKey.typeIs g) (IsTupleKey.typeIs B) BH (A2 BH (IsTupleKey.typeIs g) F.entry_tuple_eq (tuple_eq_tree g B ⟨_,rfl,(fun e=>nomatch e),⟨.bl (decide (ks=js)),H,I,rfl,q⟩⟩) (F.args_tuple_eq_2 _ _)) L
end
end L2
namespace CL
open PySem PySem.Spec L2
open PyProof.Rows hiding St
inductive PV where
 |non | bl (b:Bool) | int (i:Int) | str (x:Str) | ty (n:String) | tup (xs:List PV) | kt (xs:List PV) | fz (xs:List PV) | vw (d:Addr) | ref (a:Addr)
def gw:HO->Bool
 |.tup _=>true
 |.frz _ (.dK _)=>false
 |.frz _ (.dT _)=>false
 |.frz _ _=>true
 |.ext _=>true
 |_=>false
def jz(H H':Hp):Prop:=∀a o,gw o=true->H a=some o->H' a=some o
def jz.new(g:H p=none)o:jz H (upd H p o):=fun a u _ e=>by
 rwa [cX (qK e g)]
def jz.mut(g:H p=some u)(q:gw u=false)o:jz H (upd H p o):=fun a v i e=>by
 have:a≠p:=by
  intro z;subst z;rw[g] at e;cases e;rw[q] at i;cases i
 rwa [cX this]
def Fz(K:DD)(H:Hp)(a:Addr)(xs:List V):Prop :=
 (∃o,H a=some (.frz o (.lst xs))) \/
  ∃(o:Obj)(its:Array Value)(n:Nat),K.lookup a=some o/\o.cls=.type "list"/\o.dict=none/\o.data=.seq its n/\its.size<=sizeLine/\Vals xs its.toList
def Fz.sq{K}(h:Fz K H a xs):SqL K H a xs:=by
 rcases h with ⟨o,h⟩ | h
 .exact .inl (.inr ⟨o,h⟩)
 .exact .inr h
def Fz.gw{K}(h:Fz K H a xs)(k:jz H H'):Fz K H' a xs:=by
 rcases h with ⟨o,h⟩ | h
 .exact .inl ⟨o,k _ _ rfl h⟩
 .exact .inr h
def SqT.gw{K}(h:SqT K H a xs)(k:jz H H'):SqT K H' a xs:=by
 rcases h with (h | ⟨o,h⟩) | h
 .exact .inl (.inl (k _ _ rfl h))
 .exact .inl (.inr ⟨o,k _ _ rfl h⟩)
 .exact .inr h
mutual
inductive Rep(K:DD)(H:Hp):V->PV->Prop
 |non:Rep K H .non .non
 |bl (b:Bool):Rep K H (.bl b) (.bl b)
 |int (i:Int):Rep K H (.int i) (.int i)
 |str (x:Str):Rep K H (.str x) (.str x)
 |ty (n:String):Rep K H (.ty n) (.ty n)
 |ref (a:Addr):Rep K H (.ref a) (.ref a)
 |tup {a:Addr} {vs:List V} {ts:List PV} (h:H a=some (.tup vs)) (r:iw K H vs ts):Rep K H (.ref a) (.tup ts)
 |kt {a:Addr} {vs:List V} {ts:List PV} (h:SqT K H a vs) (r:iw K H vs ts):Rep K H (.ref a) (.kt ts)
 |fz {a:Addr} {vs:List V} {ts:List PV} (h:Fz K H a vs) (r:iw K H vs ts):Rep K H (.ref a) (.fz ts)
 |vw {a d:Addr} (h:H a=some (.ext (yz a d))):Rep K H (.ref a) (.vw d)
inductive iw(K:DD)(H:Hp):List V->List PV->Prop
 |nil:iw K H [] []
 |cons {v:V} {t:PV} {vs:List V} {ts:List PV} (h:Rep K H v t) (r:iw K H vs ts):iw K H (v::vs) (t::ts)
end
section
variable {K:DD}{H H' H1 H2:Hp}
mutual
theorem Rep.gw{v:V}{t:PV}(k:jz H H'):Rep K H v t->Rep K H' v t
 |.non=>.non
 |.bl b=>.bl b
 |.int i=>.int i
 |.str x=>.str x
 |.ty n=>.ty n
 |.ref a=>.ref a
 |.tup h r=>.tup (k _ _ rfl h) (iw.gw k r)
 |.kt h r=>.kt (SqT.gw h k) (iw.gw k r)
 |.fz h r=>.fz (Fz.gw h k) (iw.gw k r)
 |.vw h=>.vw (k _ _ rfl h)
theorem iw.gw{vs:List V}{ts:List PV}(k:jz H H'):iw K H vs ts->iw K H' vs ts
 |.nil=>.nil
 |.cons h r=>.cons (Rep.gw k h) (iw.gw k r)
end
theorem iw.len: iw K H vs ts->vs.length=ts.length
 |.nil=>rfl
 |.cons _ r=>A3 (· + 1) r.len
theorem iw.get{i:Nat}: iw K H vs ts->ts[i]?=some t->∃v,vs[i]?=some v/\Rep K H v t
 |.nil,e=>by cases e
 |.cons h r,e=>by
  cases i with
  |zero=>cases e;exact⟨_,rfl,h⟩
  |succ i=>exact r.get e
theorem iw.append: iw K H vs ts->iw K H us ss->iw K H (vs++us) (ts++ss)
 |.nil,r=>r
 |.cons h t,r=>.cons h (t.append r)
theorem iw.take: ∀n,iw K H vs ts->iw K H (vs.take n) (ts.take n)
 |0,_=>.nil
 |_+1,.nil=>.nil
 |n+1,.cons h r=>.cons h (r.take n)
theorem iw.drop: ∀n,iw K H vs ts->iw K H (vs.drop n) (ts.drop n)
 |0,r=>r
 |_+1,.nil=>.nil
 |n+1,.cons _ r=>r.drop n
theorem iw.set(h:Rep K H v t):∀n,iw K H vs ts->iw K H (vs.set n v) (ts.set n t)
 |_,.nil=>.nil
 |0,.cons _ r=>.cons h r
 |n+1,.cons g r=>.cons g (r.set h n)
def iw.reverse(r:iw K H vs ts):iw K H vs.reverse ts.reverse:=by
 induction vs generalizing ts with
 |nil=>cases r;exact .nil
 |cons v vs g =>
  cases r with
  |cons h r=>rw[A4,A4];exact(g r).append (.cons h .nil)
end
inductive CO where
 |lst (xs:List PV)
 |dK (kvs:List (Key×PV))
 |fK (kvs:List (Key×PV))
 |dT (kvs:List (List Key×PV))
 |fT (kvs:List (List Key×PV))
 |dP (kvs:List (List (List Key)×PV))
 |dA (kvs:List (List (List (List Key))×PV))
 |ins (c dx:Addr) (fs:List (Str×PV))
abbrev CH:=Addr->Option CO
def gQ(C:CH)(a:Addr)(o:CO):CH:=fun b=>if b=a then some o else C b
theorem zQ: gQ C a o a=some o:=Al rfl
def vQ(h:b≠a):gQ C a o b=C b:=Am h
abbrev FP(K:DD)(H:Hp):List (κ×V)->List (κ×PV)->Prop:=Paired fun p q=>p.1=q.1/\Rep K H p.2 q.2
abbrev KP(K:DD)(H:Hp):List (Key×V)->List (Key×PV)->Prop:=Paired fun p q=>p.1=q.1/\Rep K H p.2 q.2
def qG(K:DD)(H:Hp)(a:Addr):CO->Prop
 |.lst ts=>∃vs,H a=some (.lst vs)/\iw K H vs ts
 |.dK kvs=>∃vs,H a=some (.dK vs)/\KP K H vs kvs
 |.fK kvs=>∃o vs,H a=some (.frz o (.dK vs))/\KP K H vs kvs
 |.dT kvs=>∃vs,H a=some (.dT vs)/\FP K H vs kvs
 |.fT kvs=>∃o vs,H a=some (.frz o (.dT vs))/\FP K H vs kvs
 |.dP kvs=>∃vs,H a=some (.dP vs)/\FP K H vs kvs
 |.dA kvs=>∃vs,H a=some (.dA vs)/\FP K H vs kvs
 |.ins c dx fs=>∃g,H a=some (.ins c dx g)/\FP K H g fs
def iu(K:DD)(H:Hp)(C:CH):Prop:=∀a o,C a=some o->qG K H a o
def still:Option CO->Bool
 |none=>true
 |some (.fK _)=>true
 |some (.fT _)=>true
 |_=>false
def Fw(H:Hp)(C:CH)(H':Hp)(C':CH):Prop:=∀a,still (C a)=true->H a≠none->C' a=C a/\H' a=H a
section
variable {K:DD}{H H' H1 H2:Hp}{C C' C1 C2:CH}
def Fw.refl:Fw H C H C:=fun _ _ _=>⟨rfl,rfl⟩
theorem Fw.trans(f:Fw H C H1 C1)(g:Fw H1 C1 H2 C2):Fw H C H2 C2:=fun a h n=>by
 obtain⟨c,e⟩:=f a h n;obtain⟨q,B⟩:=g a (by rwa [c]) (by rwa [e]);exact⟨q.trans c,B.trans e⟩
def qG.mut(h:qG K H a o):∃u,H a=some u/\gw u=false:=by
 cases o with
 |lst ts=>obtain⟨vs,e,_⟩:=h;exact⟨_,e,rfl⟩
 |dK ts=>obtain⟨vs,e,_⟩:=h;exact⟨_,e,rfl⟩
 |fK ts=>obtain⟨o,vs,e,_⟩:=h;exact⟨_,e,rfl⟩
 |dT ts=>obtain⟨vs,e,_⟩:=h;exact⟨_,e,rfl⟩
 |fT ts=>obtain⟨o,vs,e,_⟩:=h;exact⟨_,e,rfl⟩
 |dP ts=>obtain⟨vs,e,_⟩:=h;exact⟨_,e,rfl⟩
 |dA ts=>obtain⟨vs,e,_⟩:=h;exact⟨_,e,rfl⟩
 |ins c dx fs=>obtain⟨vs,e,_⟩:=h;exact⟨_,e,rfl⟩
def iu.hid(h:iu K H C)(i:gw o=true)(e:H a=some o):C a=none:=by
 cases c:C a with
 |none=>rfl
 |some u =>
  obtain⟨v,g,q⟩:=((h a u c).mut);rw[e] at g;cases g;rw[i] at q;cases q
def iu.fresh(h:iu K H C)(e:H a=none):C a=none:=by
 cases c:C a with
 |none=>rfl
 |some u =>
  obtain⟨v,g,q⟩:=((h a u c).mut);rw[e] at g;cases g
def Fw.gw(f:Fw H C H' C')(h:iu K H C):jz H H':=fun a o i e=>by
 rw[(f a (by rw[h.hid i e];rfl) (by lia)).2];exact e
def qG.gw(h:qG K H a o)(k:jz H H')(e:H' a=H a):qG K H' a o:=by
 cases o with
 |lst ts=>obtain⟨vs,q,r⟩:=h;exact⟨vs,e.trans q,r.gw k⟩
 |dK ts=>obtain⟨vs,q,r⟩:=h;exact⟨vs,e.trans q,Paired.mapP r fun _ _ z=>⟨z.1,z.2.gw k⟩⟩
 |fK ts=>obtain⟨o,vs,q,r⟩:=h;exact⟨o,vs,e.trans q,Paired.mapP r fun _ _ z=>⟨z.1,z.2.gw k⟩⟩
 |dT ts=>obtain⟨vs,q,r⟩:=h;exact⟨vs,e.trans q,Paired.mapP r fun _ _ z=>⟨z.1,z.2.gw k⟩⟩
 |fT ts=>obtain⟨o,vs,q,r⟩:=h;exact⟨o,vs,e.trans q,Paired.mapP r fun _ _ z=>⟨z.1,z.2.gw k⟩⟩
 |dP ts=>obtain⟨vs,q,r⟩:=h;exact⟨vs,e.trans q,Paired.mapP r fun _ _ z=>⟨z.1,z.2.gw k⟩⟩
 |dA ts=>obtain⟨vs,q,r⟩:=h;exact⟨vs,e.trans q,Paired.mapP r fun _ _ z=>⟨z.1,z.2.gw k⟩⟩
 |ins c dx fs=>obtain⟨vs,q,r⟩:=h;exact⟨vs,e.trans q,Paired.mapP r fun _ _ z=>⟨z.1,z.2.gw k⟩⟩
def iu.new(h:iu K H C)(g:H p=none)o:iu K (upd H p o) C:=fun a u c=>hV ((h a u c).mut) fun v e _=>(h a u c).gw (jz.new g o) (cX (qK e g))
def Fw.new(g:H p=none)o:Fw H C (upd H p o) C:=fun a c n=>⟨rfl,cX fun z=>n (z▸g)⟩
def iu.lay(h:iu K H C)(g:H p=none)(r:qG K (upd H p o) p u):iu K (upd H p o) (gQ C p u):=fun a v c=>by
 by_cases e:a=p
 .subst e;rw[zQ] at c;cases c;exact r
 .rw [vQ e] at c;exact h.new g o a v c
def Fw.lay(g:H p=none)o u:Fw H C (upd H p o) (gQ C p u):=fun a c n=>by
 have e:a≠p:=fun z=>n (z▸g);exact⟨vQ e,cX e⟩
theorem iu.put(h:iu K H C)(g:H p=some q)(hi:gw q=false)(r:qG K (upd H p o) p u):iu K (upd H p o) (gQ C p u):=fun a v c=>by
 by_cases e:a=p
 .subst e;rw[zQ] at c;cases c;exact r
 .rw [vQ e] at c;exact(h a v c).gw (jz.mut g hi o) (cX e)
theorem Fw.put(g:C p=some q)o u(hs:still (some q)=false:=by rfl):Fw H C (upd H p o) (gQ C p u):=fun a c n=>by
 have e:a≠p:=fun z=>by subst z;rw[g,hs] at c;cases c
 exact⟨vQ e,cX e⟩
end
abbrev jx:=List (Option PV)
abbrev K1:=PV->CH->Prop
def vh(K:DD)(H:Hp):Option V->Option PV->Prop
 |_,none=>True
 |some v,some t=>Rep K H v t
 |none,some _=>False
def jn(K:DD)(H:Hp):St->jx->Prop:=Paired (vh K H)
section
variable {K:DD}{H H':Hp}{C C':CH}
def vh.gw(k:jz H H')(h:vh K H v t):vh K H' v t:=by
 cases t with
 |none=>cases v<;>trivial
 |some t=>cases v with
  |none=>exact h
  |some v=>exact Rep.gw k h
def jn.gw(s:jn K H σ g)(k:jz H H'):jn K H' σ g:=Paired.mapP s fun _ _=>vh.gw k
def jn.get{i:Nat}(s:jn K H σ q)(e:q[i]?=some (some t)):∃v,σ[i]?=some (some v)/\Rep K H v t:=by
 induction s generalizing i with
 |nil=>cases e
 |@cons a b B D h r g =>
  cases i with
  |zero =>
   cases e
   cases a with
   |none=>exact h.elim
   |some v=>exact⟨v,rfl,h⟩
  |succ i=>exact g e
def jn.set(s:jn K H σ q)(h:Rep K H v t)i:jn K H (σ.set i (some v)) (q.set i (some t)):=by
 induction s generalizing i with
 |nil=>exact .nil
 |cons h' r g =>
  cases i with
  |zero=>exact .cons h r
  |succ i=>exact .cons h' (g i)
end
def vV{g β:Type}(K:DD)(B:Hp->g->β->Prop)(c:jx->CH->(β->CH->Prop)->Prop):St->Hp->(g->Hp->Prop)->Prop:=fun σ H Q=>
 ∃q C R,jn K H σ q/\iu K H C/\c q C R/\∀v H' t C',R t C'->B H' v t->iu K H' C'->Fw H C H' C'->Q v H'
abbrev jf:=jx->CH->K1->Prop
abbrev qb:=jx->CH->(Bool->CH->Prop)->Prop
abbrev uh:=jx->CH->(List PV->CH->Prop)->Prop
abbrev uE:Hp->Bool->Bool->Prop:=fun _ a b=>a=b
structure ig where
 nx:jx->CH->Prop
 rt:K1
 bk:jx->CH->Prop:=fun _ _=>False
 ct:jx->CH->Prop:=fun _ _=>False
abbrev ig.wn(E:ig)(k:jx->CH->Prop):ig:={ E with nx:=k }
abbrev ig.lp(E:ig)(k:jx->CH->Prop):ig:={ nx:=k,ct:=k,bk:=E.nx,rt:=E.rt }
abbrev ig.go(R:K1):ig:={ nx:=fun _ C'=>R .non C',rt:=R }
abbrev lg:=ig->jx->CH->Prop
structure uq(K:DD)(H:Hp)(C:CH)(E:ig)(D:Zg):Prop where
 nx:∀σ' H' ρ' C',E.nx ρ' C'->jn K H' σ' ρ'->iu K H' C'->Fw H C H' C'->D.nx σ' H'
 rt:∀v H' t C',E.rt t C'->Rep K H' v t->iu K H' C'->Fw H C H' C'->D.rt v H'
 bk:∀σ' H' ρ' C',E.bk ρ' C'->jn K H' σ' ρ'->iu K H' C'->Fw H C H' C'->D.bk σ' H'
 ct:∀σ' H' ρ' C',E.ct ρ' C'->jn K H' σ' ρ'->iu K H' C'->Fw H C H' C'->D.ct σ' H'
def uq.fw{K}(e:uq K H C E D)(f:Fw H C H1 C1):uq K H1 C1 E D :=
 ⟨fun B H' q C' h s r g=>e.nx B H' q C' h s r (f.trans g),fun v H' t C' h s r g=>e.rt v H' t C' h s r (f.trans g),fun B H' q C' h s r g=>e.bk B H' q C' h s r (f.trans g),fun B H' q C' h s r g=>e.ct B H' q C' h s r (f.trans g)⟩
def ZI(K:DD)(c:lg):TS:=fun D σ H=>∃g C E,jn K H σ g/\iu K H C/\c E g C/\uq K H C E D
structure CE(X:Cx)(e:Expr)(c:jf):Prop where
 h:JE X e (vV X.K (Rep X.K) c)
structure CT(X:Cx)(e:Expr)(c:qb):Prop where
 h:JT X e (vV X.K uE c)
structure CW(X:Cx)(e:Expr)(c:qb):Prop where
 h:JW X e (vV X.K uE c)
structure CA(X:Cx)(es:List Expr)(c:uh):Prop where
 h:JA X es (vV X.K (iw X.K) c)
structure CS(X:Cx)(st:Stmt)(c:lg):Prop where
 h:JS X st (ZI X.K c)
structure CB(X:Cx)(st:List Stmt)(c:lg):Prop where
 h:JB X st (ZI X.K c)
section
variable {X:Cx}{a b c e o i:Expr}{es:List Expr}{pos:Pos}{rest:List Expr}{st:Stmt}{sts:List Stmt}
def JE.weak(h:JE X e t)(w:∀σ H Q,t' σ H Q->t σ H Q):JE X e t':=⟨fun pins s σ H Q I q=>h.h pins s σ H Q I (w σ H Q q)⟩
def JT.weak(h:JT X e t)(w:∀σ H Q,t' σ H Q->t σ H Q):JT X e t':=⟨fun pins s σ H Q I q=>h.h pins s σ H Q I (w σ H Q q)⟩
def JW.weak(h:JW X e t)(w:∀σ H Q,t' σ H Q->t σ H Q):JW X e t':=⟨fun g pins s σ H Q I q=>h.h g pins s σ H Q I (w σ H Q q)⟩
def JA.weak(h:JA X es t)(w:∀σ H Q,t' σ H Q->t σ H Q):JA X es t':=⟨fun p pins s σ H Q I q=>h.h p pins s σ H Q I (w σ H Q q)⟩
def JS.weak(h:JS X st t)(w:∀D σ H,t' D σ H->t D σ H):JS X st t':=⟨fun pins s σ H D I q=>h.h pins s σ H D I (w D σ H q)⟩
def JB.weak(h:JB X sts t)(w:∀D σ H,t' D σ H->t D σ H):JB X sts t':=⟨fun pins s σ H D I q=>h.h pins s σ H D I (w D σ H q)⟩
def uV(i:Nat):jf:=fun g C Q=>match g[i]? with
 |some (some t)=>Q t C
 |_=>False
def cC(t:PV):jf:=fun _ C Q=>Q t C
def cv i(B:X.N[i]?=some x:=by rfl)(J:Vis X.env.scope x:=by first | exact Or.inl rfl | exact Or.inr (Or.inl rfl) | exact Or.inr (Or.inr rfl))(I:(x==("__debug__" : Str))=false:=by decide)(D:(x==("__classdict__" : Str))=false:=by decide):CE X (.Name x pos) (uV i):=⟨JE.weak ⟨Vc B J I D⟩ fun σ H Q L=>eX L fun M C R s h q f=> by
 delta uV at q
 split at q
 .next t e =>
  exact hV (s.get e) fun v g r=>⟨v,g,f v H t C q r h Fw.refl⟩
 .exact q.elim⟩
def J7(h:JE X e (tC v))(r:∀H,Rep X.K H v t):CE X e (cC t):=⟨JE.weak h fun σ H Q g=>eX g fun B C R s h q f=> f v H t C q (r H) h Fw.refl⟩
def jQ{i j pos}:CE X (.Constant (.int i) j pos) (cC (.int i)):=J7 ⟨Vf⟩ fun _=>.int i
def fZ{b j pos}:CE X (.Constant (.bool b) j pos) (cC (.bl b)):=J7 ⟨pe_bl⟩ fun _=>.bl b
def eJ{j pos}:CE X (.Constant .none j pos) (cC .non):=J7 ⟨pe_non⟩ fun _=>.non
def wQ{x j pos}:CE X (.Constant (.str x) j pos) (cC (.str x)):=J7 ⟨pe_str⟩ fun _=>.str x
def oX(B:Gl X x)(D:X.mg x=some u)(r:RelV v u)(q:∀H,Rep X.K H v t)(g:(x==("__debug__" : Str))=false:=by decide):CE X (.Name x pos) (cC t):=J7 ⟨pe_glob B D r g⟩ q
def aK(q:Gl X x)(B:X.mg x=none)(I:bootBuiltins x=some (.type n))(D:x ≠ "__name__":=by decide)(g:(x==("__debug__" : Str))=false:=by decide):CE X (.Name x pos) (cC (.ty n)):=J7 (yu (v:=.ty n) q B I rfl D g) fun _=>.ty n
abbrev qw:=PV->PV->CH->K1->Prop
def km(K:DD)(r:R2)(B:qw):Prop:=∀x y g q H C Q R,Rep K H x g->Rep K H y q->iu K H C->B g q C R->(∀v H' t C',R t C'->Rep K H' v t->iu K H' C'->Fw H C H' C'->Q v H')->r x y H Q
def ut(B:qw)(ca q:jf):jf:=fun g C Q=>ca g C fun x C1=>q g C1 fun y C2=>B x y C2 Q
def pH{K}(M:km K r J){Q:VK}(h:vV K (Rep K) (ut J ca I) σ H Q):tOp r (vV K (Rep K) ca) (vV K (Rep K) I) σ H Q :=eX h fun D C R s h q f=>⟨D,C,_,s,h,q,fun x H1 N C1 U rx h1 g=>⟨D,C1,_,s.gw (g.gw h),h1,U,fun y H2 O C2 Y ry h2 B=>
  M x y N O H2 C2 Q R (rx.gw (B.gw h1)) ry h2 Y fun v H' t C' S Z h' L=>f v H' t C' S Z h' (g.trans (B.trans L))⟩⟩
def aQ(I:OpR X (binaryOp op) r)(J:km X.K r q)(B:CE X a ca)(D:CE X b g):CE X (.BinOp a op b pos) (ut q ca g):=⟨JE.weak ⟨pe_op I B.h.h D.h.h⟩ fun _ _ _ h=>pH J h⟩
def jJ(J:OpR X (compareOp op) r)(L:km X.K r q)(B:CE X a ca)(D:CE X b g)(I:behindInMarks op b=false):CE X (.Compare a [op] [b] pos) (ut q ca g):=⟨JE.weak ⟨pe_cmpR J B.h.h D.h.h I⟩ fun _ _ _ h=>pH L h⟩
def xC(k:Bool->CH->Prop):PV->CH->Prop
 |.bl b,C=>k b C
 |_,_=>False
def Q7(c:jf):qb:=fun g C Q=>c g C (xC Q)
def dR{K}(q:xC Q t C)(r:Rep K H v t):∃b,t=.bl b/\v=.bl b/\Q b C:=by
 cases t with
 |bl b=>cases r;exact⟨b,rfl,rfl,q⟩
 |_=>exact q.elim
def JD{K}{c}(h:vV K uE (Q7 c) σ H Q):KA (vV K (Rep K) c) σ H Q :=eX h fun J C R s h q f=>⟨J,C,_,s,h,q,fun x H1 L C1 B I h1 g=>by
  obtain⟨b,rfl,rfl,D⟩:=dR B I
  exact⟨b,rfl,f b H1 b C1 D rfl h1 g⟩⟩
def rK(M:OpR X (compareOp op) r)(N:km X.K r B)(I:CE X a ca)(J:CE X b g)(L:behindInMarks op b=false):CT X (.Compare a [op] [b] pos) (Q7 (ut B ca g)) :=
 ⟨JT.weak ⟨pt_cmpR M I.h.h J.h.h L⟩ fun σ H Q h=>by
  refine eX h fun Y C R s h q f=>pH N ⟨Y,C,_,s,h,q,fun x H1 Z C1 O U h1 D=>?_⟩;obtain⟨b,rfl,rfl,S⟩:=dR O U
  exact⟨b,rfl,f b H1 b C1 S rfl h1 D⟩⟩
def bX{c}(h:CE X e c)(g:fL e=true:=by rfl):CT X e (Q7 c):=⟨JT.weak ⟨pt_val h.h.h (aN g)⟩ fun _ _ _ h=>JD h⟩
def X8(J L:qw)(ca D I:jf):jf:=fun g C Q=>ca g C fun x C1=>D g C1 fun y C2=>J x y C2 (xC fun b q=>if b=true then I g q fun z B=>L y z B Q else Q (.bl false) q)
def yC{K}(ae:km K r aa)(af:km K D ab){Q:VK}(h:vV K (Rep K) (X8 aa ab ca cb cc) σ H Q):Xp r D (vV K (Rep K) ca) (vV K (Rep K) cb) (vV K (Rep K) cc) σ H Q:=by
 refine eX h fun I C R s h ag f=>⟨I,C,_,s,h,ag,fun x H1 px C1 q1 rx h1 g=>⟨I,C1,_,s.gw (g.gw h),h1,q1,fun y H2 N C2 q2 S h2 q=>
  ae x y px N H2 C2 _ _ (rx.gw (q.gw h1)) S h2 q2 fun v Y t J q3 r3 M B=>by
   obtain⟨b,rfl,rfl,O⟩:=dR q3 r3;refine⟨b,rfl,?_⟩
   cases b with
   |true =>
    exact⟨I,J,_,(s.gw (g.gw h)).gw ((q.trans B).gw h1),M,O,fun z Z pz U q5 rz h4 L=>af y z N pz Z U Q R (S.gw ((B.trans L).gw h2)) rz h4 q5 fun v H' t C' q' D h' f'=>f v H' t C' q' D h' (g.trans (q.trans (B.trans (L.trans f'))))⟩
   |false=>exact f _ Y _ J O (.bl false) M (g.trans (q.trans B))⟩⟩
def Ww(O:OpR X (compareOp op) r)(S:OpR X (compareOp g) Z)(U:km X.K r D)(Y:km X.K Z I)(J:CE X a ca)(L:CE X b q)(M:CE X c B)(N:lastMarks [op,g] [b,c]=false:=by with_unfolding_all rfl):CE X (.Compare a [op,g] [b,c] pos) (X8 D I ca q B):=⟨JE.weak ⟨Vi O S J.h.h L.h.h M.h.h N⟩ fun _ _ _ h=>yC U Y h⟩
def eD(S:OpR X (compareOp op) r)(U:OpR X (compareOp g) r')(Y:km X.K r D)(Z:km X.K r' I)(L:CE X a ca)(M:CE X b q)(N:CE X c B)(O:lastMarks [op,g] [b,c]=false:=by with_unfolding_all rfl):CT X (.Compare a [op,g] [b,c] pos) (Q7 (X8 D I ca q B)) :=
 ⟨JT.weak ⟨K2 S U L.h.h M.h.h N.h.h O⟩ fun σ H Q h=>by
  refine eX h fun ρ C R s h aa f=>yC Y Z ⟨ρ,C,_,s,h,aa,fun x H1 px C1 q1 rx h1 J=>?_⟩;obtain⟨b,rfl,rfl,q2⟩:=dR q1 rx
  exact⟨b,rfl,f b H1 b C1 q2 rfl h1 J⟩⟩
def SQ(g:PV->CH->K1->Prop)(ca:jf):jf:=fun q C Q=>ca q C fun x C1=>g x C1 Q
def Ss(K:DD)(r:V->Hp->VK->Prop)(q:PV->CH->K1->Prop):Prop:=∀x g H C Q R,Rep K H x g->iu K H C->q g C R->(∀v H' t C',R t C'->Rep K H' v t->iu K H' C'->Fw H C H' C'->Q v H')->r x H Q
def aW(J:UnR X (unaryOp op) r)(L:Ss X.K r g)(I:CE X a ca):CE X (.UnaryOp op a pos) (SQ g ca):=⟨JE.weak ⟨pe_un J I.h.h⟩ fun σ H Q Y=>eX Y fun Z C R s h q f=>
 ⟨Z,C,_,s,h,q,fun x H1 M C1 O U h1 D=>L x M H1 C1 Q R U h1 O fun v H' t C' N S h' B=>f v H' t C' N S h' (D.trans B)⟩⟩
def Rr(t u:qb):qb:=fun g C Q=>t g C fun b C1=>if b=true then u g C1 Q else Q false C1
def SX(t u:qb):qb:=fun g C Q=>t g C fun b C1=>if b=true then Q true C1 else u g C1 Q
def Ri(t:qb):qb:=fun g C Q=>t g C fun b C1=>Q (!b) C1
def iz(h:CW X e t):CT X e t:=⟨⟨h.h.h.pt⟩⟩
def jh(h:CT X a t):CW X (.BoolOp .And [a] pos) t:=⟨⟨pw_and1 h.h.h⟩⟩
def je(h:CT X a t):CW X (.BoolOp .Or [a] pos) t:=⟨⟨pw_or1 h.h.h⟩⟩
def jm(J:CT X a t)(L:CW X (.BoolOp .And (b::rest) pos) u):CW X (.BoolOp .And (a::b::rest) pos) (Rr t u):=⟨JW.weak ⟨pw_and J.h.h L.h.h⟩ fun σ H Q O=>eX O fun D C R s h q f=>
 ⟨D,C,_,s,h,q,fun x H1 y C1 B e h1 g=>by
  cases e
  cases x with
  |true=>exact⟨D,C1,R,s.gw (g.gw h),h1,B,fun v H' t C' M N h' I=>f v H' t C' M N h' (g.trans I)⟩
  |false=>exact f false H1 false C1 B rfl h1 g⟩⟩
def jl(J:CT X a t)(L:CW X (.BoolOp .Or (b::rest) pos) u):CW X (.BoolOp .Or (a::b::rest) pos) (SX t u):=⟨JW.weak ⟨pw_or J.h.h L.h.h⟩ fun σ H Q O=>eX O fun D C R s h q f=>
 ⟨D,C,_,s,h,q,fun x H1 y C1 B e h1 g=>by
  cases e
  cases x with
  |true=>exact f true H1 true C1 B rfl h1 g
  |false=>exact⟨D,C1,R,s.gw (g.gw h),h1,B,fun v H' t C' M N h' I=>f v H' t C' M N h' (g.trans I)⟩⟩⟩
def sX(B:CT X a t):CT X (.UnaryOp .Not a pos) (Ri t):=⟨JT.weak ⟨pt_not B.h.h⟩ fun σ H Q I=>eX I fun J C R s h q f=>
 ⟨J,C,_,s,h,q,fun x H1 y C1 D e h1 g=>by cases e;exact f _ H1 _ C1 D rfl h1 g⟩⟩
def Ov(ca q:jf):jf:=fun g C Q=>ca g C (xC fun b C1=>if b=true then q g C1 Q else Q (.bl false) C1)
def Rh(ca q:jf):jf:=fun g C Q=>ca g C (xC fun b C1=>if b=true then Q (.bl true) C1 else q g C1 Q)
def N8(ca:jf):jf:=fun g C Q=>ca g C (xC fun b C1=>Q (.bl (!b)) C1)
def iG{op}{c}(h:CE X a c):CE X (.BoolOp op [a] pos) c:=⟨⟨pe_one h.h.h⟩⟩
def zB(L:CE X a ca)(M:CE X (.BoolOp .And (b::rest) pos) I):CE X (.BoolOp .And (a::b::rest) pos) (Ov ca I):=⟨JE.weak ⟨pe_and L.h.h M.h.h⟩ fun σ H Q Y=>eX Y fun D C R s h q f=>
 ⟨D,C,_,s,h,q,fun x H1 Z C1 O U h1 g=>by
  obtain⟨b,rfl,rfl,B⟩:=dR O U;refine⟨b,rfl,?_⟩
  cases b with
  |true=>exact⟨D,C1,R,s.gw (g.gw h),h1,B,fun v H' t C' N S h' J=>f v H' t C' N S h' (g.trans J)⟩
  |false=>exact f _ H1 _ C1 B (.bl false) h1 g⟩⟩
def Wt{ca B:jf}(L:CE X a ca)(M:CE X (.BoolOp .Or (b::rest) pos) B):CE X (.BoolOp .Or (a::b::rest) pos) (Rh ca B):=⟨JE.weak ⟨pe_or L.h.h M.h.h⟩ fun σ H Q Y=>eX Y fun I C R s h q f=>
 ⟨I,C,_,s,h,q,fun x H1 Z C1 O U h1 g=>by
  obtain⟨b,rfl,rfl,D⟩:=dR O U;refine⟨b,rfl,?_⟩
  cases b with
  |true=>exact f _ H1 _ C1 D (.bl true) h1 g
  |false=>exact⟨I,C1,R,s.gw (g.gw h),h1,D,fun v H' t C' N S h' J=>f v H' t C' N S h' (g.trans J)⟩⟩⟩
def Ia{ca:jf}(B:CE X a ca):CE X (.UnaryOp .Not a pos) (N8 ca):=⟨JE.weak ⟨pe_not B.h.h⟩ fun σ H Q L=>eX L fun M C R s h q f=>
 ⟨M,C,_,s,h,q,fun x H1 N C1 D J h1 g=>by
  obtain⟨b,rfl,rfl,I⟩:=dR D J
  exact⟨b,rfl,f _ H1 _ C1 I (.bl _) h1 g⟩⟩⟩
def S5(t:qb)(ca q:jf):jf:=fun g C Q=>t g C fun b C1=>if b=true then ca g C1 Q else q g C1 Q
def rP(S:CT X c t)(N:CE X a ca)(O:CE X b M):CE X (.IfExp c a b pos) (S5 t ca M):=⟨JE.weak ⟨Vg S.h.h N.h.h O.h.h⟩ fun σ H Q U=>eX U fun J C R s h q f=>
 ⟨J,C,_,s,h,q,fun x H1 y C1 L e h1 g=>by
  cases e
  cases x with
  |true=>exact⟨J,C1,R,s.gw (g.gw h),h1,L,fun v H' t C' D I h' B=>f v H' t C' D I h' (g.trans B)⟩
  |false=>exact⟨J,C1,R,s.gw (g.gw h),h1,L,fun v H' t C' D I h' B=>f v H' t C' D I h' (g.trans B)⟩⟩⟩
def fU:uh:=fun _ C Q=>Q [] C
def mK(ca:jf)(q:uh):uh:=fun g C Q=>ca g C fun x C1=>q g C1 fun xs C2=>Q (x::xs) C2
def aX:CA X [] fU:=⟨JA.weak ⟨cL⟩ fun σ H Q g=>eX g fun B C R s h q f=> f [] H [] C q .nil h Fw.refl⟩
def qQ(J:CE X e ca)(L:CA X es I)(hs:hX e=true:=by rfl):CA X (e::es) (mK ca I):=⟨JA.weak (tE J.h L.h hs) fun σ H Q Y=>eX Y fun D C R s h q f=>
 ⟨D,C,_,s,h,q,fun x H1 M C1 N U h1 g=>⟨D,C1,_,s.gw (g.gw h),h1,N,fun xs H2 ps C2 O S h2 B=>f (x::xs) H2 (M::ps) C2 O (.cons (U.gw (B.gw h1)) S) h2 (g.trans B)⟩⟩⟩
def Ie(ca:uh):jf:=fun g C Q=>ca g C fun xs C1=>xs.length<=sizeLine/\Q (.tup xs) C1
def Od(ca:uh):jf:=fun g C Q=>ca g C fun xs C1=>xs.length<=sizeLine/\∀p,C1 p=none->Q (.ref p) (gQ C1 p (.lst xs))
def pX{J}(h:CA X es ca):CE X (.Tuple es J pos) (Ie ca):=⟨JE.weak ⟨pe_tup h.h.h⟩ fun σ H Q L=>eX L fun M C R s h q f=>
 ⟨M,C,_,s,h,q,fun xs H1 ps C1 B D h1 I=>⟨by rw[D.len];exact B.1,fun p g=>f (.ref p) _ (.tup ps) C1 B.2 (.tup vX (D.gw (jz.new g _))) (h1.new g _) (I.trans (Fw.new g _))⟩⟩⟩
def mQ(h:CA X es ca):CE X (.List es pos) (Od ca):=⟨JE.weak ⟨pe_lst h.h.h⟩ fun σ H Q J=>eX J fun L C R s h q f=>
 ⟨L,C,_,s,h,q,fun xs H1 ps C1 B D h1 I=>⟨by rw[D.len];exact B.1,fun p g=>f (.ref p) _ (.ref p) _ (B.2 p (h1.fresh g)) (.ref p) (h1.lay g ⟨xs,vX,D.gw (jz.new g _)⟩) (I.trans (Fw.lay g _ _))⟩⟩⟩
def Oq:jf:=fun _ C Q=>∀p,C p=none->Q (.ref p) (gQ C p (.dK []))
def Du:CE X (.Dict [] [] pos) Oq:=⟨JE.weak ⟨Vh⟩ fun σ H Q B=>eX B fun D C R s h q f=> fun p g=>f (.ref p) _ (.ref p) _ (q p (h.fresh g)) (.ref p) (h.lay g ⟨[],vX,.nil⟩) (Fw.lay g _ _)⟩
abbrev GC:=List PV->CH->K1->Prop
def q9(K:DD)(G:GC):Sp:=fun vs H Q _=>∃ts C R,iw K H vs ts/\iu K H C/\G ts C R/\∀v H' t C',R t C'->Rep K H' v t->iu K H' C'->Fw H C H' C'->Q v H'
def dB(G:GC)(ca:uh):jf:=fun g C Q=>ca g C fun xs C1=>G xs C1 Q
def Dw{p}(F:FnOk X.prog X.w X.K X.mg X.base CX k f fd ps (q9 X.K G))(S:Room k X.A)(M:Gl X x)(O:X.mg x=some (.ref f))(N:PySem.W.keepIn X.K (.ref f)=true)(J:Binds X.K fd ps [])(U:jW CX X E)(D:CA X (e::es) ca)(L:(x==("__debug__" : Str))=false:=by decide)(hs:hX e=true:=by rfl)(I:es.all hX=true:=by rfl):CE X (.Call (.Name x p) (e::es) [] pos) (dB G ca) :=
 ⟨JE.weak (yt F S M O N J .nil U D.h L hs I) fun σ H Q zz=>eX zz fun ρ C R s h q f=>
  ⟨ρ,C,_,s,h,q,fun xs H1 ts C1 Z aa h1 B=>⟨ts,C1,R,by rw[AH];exact aa,h1,Z,fun v H' t C' Y r' h' g=>f v H' t C' Y r' h' (B.trans g)⟩⟩⟩
def uw(K:DD)(r:List V->Hp->VK->Prop)(g:GC):Prop:=∀xs ps H C Q R,iw K H xs ps->iu K H C->g ps C R->(∀v H' t C',R t C'->Rep K H' v t->iu K H' C'->Fw H C H' C'->Q v H')->r xs H Q
def gX{id}{p}(L:CallR X (.builtin id) r)(U:uw X.K r g)(N:Gl X x)(O:X.mg x=none)(Y:bootBuiltins x=some (.builtin id))(I:CA X (e::es) ca)(S:x ≠ "__name__":=by decide)(M:(x==("__debug__" : Str))=false:=by decide)(hs:hX e=true:=by rfl)(J:es.all hX=true:=by rfl):CE X (.Call (.Name x p) (e::es) [] pos) (dB g ca):=⟨JE.weak ⟨KY L N O Y I.h.h S M hs J⟩ fun σ H Q zz=>eX zz fun ρ C R s h q f=>
  ⟨ρ,C,_,s,h,q,fun xs H1 ts C1 q1 aa h1 D=>U xs ts H1 C1 Q R aa h1 q1 fun v H' t C' Z r' h' B=>f v H' t C' Z r' h' (D.trans B)⟩⟩
def dZ{p}(L:CallR X (.type T) r)(U:uw X.K r g)(N:Gl X x)(O:X.mg x=none)(Y:bootBuiltins x=some (.type T))(I:CA X (e::es) ca)(S:x ≠ "__name__":=by decide)(M:(x==("__debug__" : Str))=false:=by decide)(hs:hX e=true:=by rfl)(J:es.all hX=true:=by rfl):CE X (.Call (.Name x p) (e::es) [] pos) (dB g ca):=⟨JE.weak (sL L N O Y I.h S M hs J) fun σ H Q zz=>eX zz fun ρ C R s h q f=>
  ⟨ρ,C,_,s,h,q,fun xs H1 ts C1 q1 aa h1 D=>U xs ts H1 C1 Q R aa h1 q1 fun v H' t C' Z r' h' B=>f v H' t C' Z r' h' (D.trans B)⟩⟩
def FJ(I:IxR X r)(J:km X.K r q)(B:CE X a ca)(D:CE X b g)(hs:tH b):CE X (.Subscript a b pos) (ut q ca g):=⟨JE.weak ⟨pe_ix I B.h.h D.h.h hs⟩ fun _ _ _ h=>pH J h⟩
def FN:lg:=fun E g C=>E.nx g C
def WA(t u:lg):lg:=fun E g C=>t (E.wn (u E)) g C
def dQ:CB X [] FN:=⟨JB.weak ⟨pss_nil⟩ fun D σ H g=>eX g fun B C E s h q f=> f.nx σ H B C q s h Fw.refl⟩
def kQ(h:CS X st t):CB X [st] t:=⟨⟨pss_one h.h.h⟩⟩
def xQ(h1:CS X st t)(h2:CB X sts u):CB X (st::sts) (WA t u):=⟨JB.weak ⟨K3 h1.h.h h2.h.h⟩ fun D σ H B=>eX B fun I C E s h q f=>
 ⟨I,C,_,s,h,q,⟨fun L H' J C' n s' h' g=>⟨J,C',E,s',h',n,f.fw g⟩,f.rt,f.bk,f.ct⟩⟩⟩
def Z9(q:jf):lg:=fun E g C=>q g C fun _ C1=>E.nx g C1
def wX(J:CE X e I)(hs:swapsWith e none pos.line X.env=pure false:=by rfl):CS X (.Expr e pos) (Z9 I):=⟨JS.weak ⟨ps_expr J.h.h hs⟩ fun D σ H M=>eX M fun B C E s h q f=>
 ⟨B,C,_,s,h,q,fun x H1 N C1 L O h1 g=>f.nx σ H1 B C1 L (s.gw (g.gw h)) h1 g⟩⟩
def N6(g:jf):lg:=fun E q C=>g q C E.rt
def uQ(I:CE X e g):CS X (.Return (some e) pos) (N6 g):=⟨JS.weak ⟨ps_ret I.h.h⟩ fun D σ H N=>eX N fun O C E s h q f=>
 ⟨O,C,_,s,h,q,fun x H1 J C1 L M h1 B=>f.rt x H1 J C1 L M h1 B⟩⟩
def Rn(t:qb)(u v:lg):lg:=fun E g C=>t g C fun b C1=>if b=true then u E g C1 else v E g C1
def nQ(M:CT X c t)(J:CB X x u)(L:CB X y v):CS X (.If c x y pos) (Rn t u v):=⟨JS.weak ⟨ps_if M.h.h J.h.h L.h.h⟩ fun D σ H N=>eX N fun B C E s h q f=>
 ⟨B,C,_,s,h,q,fun x H1 y C1 I e h1 g=>by
  cases e
  cases x with
  |true=>exact⟨B,C1,E,s.gw (g.gw h),h1,I,f.fw g⟩
  |false=>exact⟨B,C1,E,s.gw (g.gw h),h1,I,f.fw g⟩⟩⟩
def Wz(i:Nat)(q:jf):lg:=fun E g C=>q g C fun t C1=>E.nx (g.set i (some t)) C1
def HN{i}(I:X.N.Nodup)(hi:X.N[i]?=some x)(M:Loc X.env.scope x)(J:CE X e B)(hs:swapsWith e (some (.Name x pos')) pos.line X.env=pure false:=by rfl)(L:X.fn x=true\/X.env.scope.names.lookup x=some .local:=by first | exact .inl rfl | exact .inr rfl | assumption):
  CS X (.Assign [.Name x pos'] e pos) (Wz i B):=⟨JS.weak ⟨ps_set I hi M J.h.h hs L⟩ fun D σ H S=>eX S fun U C E s h q f=>
 ⟨U,C,_,s,h,q,fun x H1 Y C1 N O h1 g=>f.nx _ H1 _ C1 N ((s.gw (g.gw h)).set O i) h1 g⟩⟩
abbrev qu:=PV->jx->CH->(jx->CH->Prop)->Prop
abbrev Kl:=List PV->jx->CH->(jx->CH->Prop)->Prop
def XM(K:DD)(c:qu):TG:=fun v σ H Q=>∃t g C R,Rep K H v t/\jn K H σ g/\iu K H C/\c t g C R/\∀B H' q C',R q C'->jn K H' B q->iu K H' C'->Fw H C H' C'->Q B H'
def G9(K:DD)(c:Kl):TGs:=fun v σ H Q=>∃t g C R,iw K H v t/\jn K H σ g/\iu K H C/\c t g C R/\∀B H' q C',R q C'->jn K H' B q->iu K H' C'->Fw H C H' C'->Q B H'
structure CG(X:Cx)(e:Expr)(c:qu):Prop where
 h:JG X e (XM X.K c)
structure Pj(X:Cx)(es:List Expr)(c:Kl):Prop where
 h:Lb X es (G9 X.K c)
def JG.weak(h:JG X e t)(w:∀v σ H Q,t' v σ H Q->t v σ H Q):JG X e t':=⟨fun pins s σ H v u Q I r q=>h.h pins s σ H v u Q I r (w v σ H Q q)⟩
def Lb.weak(h:Lb X es t)(w:∀v σ H Q,t' v σ H Q->t v σ H Q):Lb X es t':=⟨fun pins s σ H v u Q I r q=>h.h pins s σ H v u Q I r (w v σ H Q q)⟩
def dName(i:Nat):qu:=fun t g C Q=>Q (g.set i (some t)) C
def Rc:Kl:=fun ts g C Q=>match ts with
 |[]=>Q g C
 |_=>False
def N5(g:qu)(u:Kl):Kl:=fun ts q C Q=>match ts with
 |t::r=>g t q C fun B C'=>u r B C' Q
 |[]=>False
def dTup(n:Nat)(u:Kl):qu:=fun t g C Q=>match t with
 |.tup ts=>ts.length=n/\u ts g C Q
 |_=>False
def Dr{i}(g:X.N.Nodup)(hi:X.N[i]?=some x)(D:Loc X.env.scope x)(B:X.fn x=true\/X.env.scope.names.lookup x=some .local:=by first | exact .inl rfl | exact .inr rfl | assumption):CG X (.Name x pos) (dName i) :=
 ⟨JG.weak ⟨mD g hi D B⟩ fun v σ H Q I=>Wb I fun t J C R r s h q f=> f _ H _ C q (s.set r i) h Fw.refl⟩
def Z2:Pj X [] Rc:=⟨Lb.weak ⟨Zu⟩ fun vs σ H Q g=>Wb g fun ts B C R r s h q f=> by
 cases r with
 |nil=>exact⟨rfl,f σ H B C q s h Fw.refl⟩
 |cons _ _=>exact q.elim⟩
def lW(h1:CG X e g)(h2:Pj X es u)(hs:(assignEach (e::es) X.env).map (·.2)=assign e X.env::(assignEach es X.env).map (·.2):=by rfl):Pj X (e::es) (N5 g u):=⟨Lb.weak ⟨qC h1.h.h h2.h.h hs⟩ fun vs σ H Q N=>Wb N fun ts O C R r s h q f=> by
 cases r with
 |nil=>exact q.elim
 |@cons v t vs ts L r =>
  exact⟨v,vs,rfl,t,O,C,_,L,s,h,q,fun Z H' S C' I s' h' B=>⟨ts,S,C',R,r.gw (B.gw h),s',h',I,fun Y H2 U C2 J M h2 D=>f Y H2 U C2 J M h2 (B.trans D)⟩⟩⟩
def Wr{k}(g:X.calm=true)(h:Pj X es u)(B:(assignEach es X.env).length=n:=by rfl)(D:(assignEach es X.env).findIdx? (·.1)=none:=by rfl):CG X (.Tuple es k pos) (dTup n u):=⟨JG.weak ⟨Vb g h.h.h B D⟩ fun v σ H Q L=>Wb L fun t M C R r s h q f=> by
 cases r with
 |@tup a vs ts e r =>
  obtain⟨I,J⟩:=q;exact⟨a,vs,rfl,SqT.of e,by exact r.len▸I,ts,M,C,R,r,s,h,J,f⟩
 |_=>exact q.elim⟩
def Rq(B:jf)(g:qu):lg:=fun E q C=>B q C fun t C1=>g t q C1 E.nx
def qR(L:CE X e I)(M:CG X tg g)(hs:swapsWithSole [tg] e pos.line X.env=pure false:=by rfl)(N:swappedStores [tg] e X.env=pure none:=by rfl)(h1:(assignEach [tg] X.env).map (·.2)=[assign tg X.env]:=by rfl):CS X (.Assign [tg] e pos) (Rq I g):=⟨JS.weak ⟨ps_asg L.h.h M.h.h hs N h1⟩ fun ae σ H Z=>eX Z fun D C E s h q f=>
 ⟨D,C,_,s,h,q,fun x H1 O C1 U Y h1 B=>⟨O,D,C1,E.nx,Y,s.gw (B.gw h),h1,U,fun ab H' aa C' S s' h' J=>f.nx ab H' aa C' S s' h' (B.trans J)⟩⟩⟩
@[irreducible] def Z5:PV->PV->PV->CH->(CH->Prop)->Prop:=fun o i v C Q=>match o,i with
 |.ref p,.int k=>match C p with
  |some (.lst xs)=>match ixN xs.length k with
   |some j=>Q (gQ C p (.lst (xs.set j v)))
   |none=>False
  |_=>False
 |_,_=>False
def Ra(co B:jf)(u:PV->PV->PV->CH->(CH->Prop)->Prop):qu:=fun t g C Q=>co g C fun o C1=>B g C1 fun i C2=>u o i t C2 fun q=>Q g q
def iD{co N:jf}(Y:CE X o co)(hi:CE X i N)(U:∀v,assign (.Subscript o i pos) X.env v=(do
   let J <- holding [v] (eval o X.env)
   let L <- holding [v,J] (eval i X.env)
   standAt pos
   holding [v,J,L] (setItem J L v)
   release [v,J,L] []):=by intro _;rfl):CG X (.Subscript o i pos) (Ra co N Z5):=⟨JG.weak ⟨pg_sub Y.h.h hi.h.h KM U⟩ fun v σ H Q zz=>Wb zz fun t M C R r s h q f=>
 ⟨M,C,_,s,h,q,fun x H1 px C1 Z rx h1 D=>⟨M,C1,_,s.gw (D.gw h),h1,Z,fun y H2 ae C2 g ry h2 I=>by
  have r2:=r.gw ((D.trans I).gw h);have ab:=s.gw ((D.trans I).gw h);unfold Z5 at g
  split at g
  .next p k =>
   split at g
   .next xs e =>
    split at g
    .next j S =>
     obtain⟨vs,B,O⟩:=h2 p _ e;have aa:=rx.gw (I.gw h1);cases aa;cases ry;refine⟨p,vs,k,j,rfl,rfl,B,by rw[O.len];exact S,?_⟩;exact f σ _ M _ g (ab.gw (jz.mut B rfl _)) (h2.put B rfl ⟨_,vX,(O.set r2 j).gw (jz.mut B rfl _)⟩) (D.trans (I.trans (Fw.put e _ _)))
    .exact g.elim
   .exact g.elim
  .exact g.elim⟩⟩⟩
def Kb(t:qb)(u:lg)(E:ig):Nat->jx->CH->Prop
 |0,_,_=>False
 |n+1,g,C=>t g C fun b C1=>if b=true then u (E.lp (Kb t u E n)) g C1 else E.nx g C1
def Ib(t:qb)(u:lg):lg:=fun E g C=>∃n,Kb t u E n g C
def bU(Z:PassesOwn (model X.prog X.w) X.A X.env X.xe)(Y:CT X c t)(U:CB X S u):CS X (.While c S [] pos) (Ib t u):=⟨JS.weak ⟨K4 Z Y.h.h U.h.h⟩ fun ae σ H ⟨ρ,C,E,s,h,⟨n,aa⟩,f⟩=>by
 refine⟨fun m q H'=>∃g C',jn X.K H' q g/\iu X.K H' C'/\Fw H C H' C'/\Kb t u E m g C',⟨n,ρ,C,s,h,Fw.refl,aa⟩,?_⟩;rintro m ab H1 ⟨M,C1,L,h1,J,N⟩
 cases m with
 |zero=>exact N.elim
 |succ m =>
  refine⟨M,C1,_,L,h1,N,fun b H2 b' C2 O e h2 D=>?_⟩;cases e
  cases b with
  |true =>
   exact(Al rfl)▸⟨fun q H'=>∃g C',jn X.K H' q g/\iu X.K H' C'/\Fw H C H' C'/\Kb t u E m g C',fun q H' z=>⟨m,BB m,z⟩,
    M,C2,_,L.gw (D.gw h1),h2,O,⟨fun q H' g C' I s' h' B=>⟨g,C',s',h',J.trans (D.trans B),I⟩,fun v H' t C' I r' h' B=>f.rt v H' t C' I r' h' (J.trans (D.trans B)),
     fun q H' g C' I s' h' B=>f.nx q H' g C' I s' h' (J.trans (D.trans B)),fun q H' g C' I s' h' B=>⟨g,C',s',h',J.trans (D.trans B),I⟩⟩⟩
  |false =>
   exact(Am AU)▸f.nx ab H2 M C2 O (L.gw (D.gw h1)) h2 (J.trans D)⟩
def rG(g:qu)(u:lg)(E:ig):List PV->jx->CH->Prop
 |[],q,C=>E.nx q C
 |x::r,q,C=>g x q C fun B C1=>u (E.lp (rG g u E r)) B C1
structure Zd(K:DD)(H:Hp)(J:It)(ps:List PV):Prop where
 go:∀i H',i < ps.length->jz H H'->J.go i H'
 yl:∀i H' x H'',jz H H'->J.yld i H' x H''->H''=H'/\∀t,ps[i]?=some t->Rep K H' x t
 st:∀H',jz H H'->J.stop ps.length H'
def yH{K}(j:Zd K H ab ps)(s:jn K H σ ρ)(h:iu K H C)(ah:rG g u E ps ρ C)(f:uq K H C E aa):
  ∃W:Nat->Nat->St->Hp->Prop,(∃m,W 0 m σ H)/\∀i m σ H,W i m σ H ->
   (ab.stop i H/\aa.nx σ H)\/(ab.go i H/\∃N,(∀q H',N q H'->∃m',m' < m/\W (i+1) m' q H')/\∀x H',ab.yld i H x H'->XM K g x σ H' fun aj H2=>ZI K u { aa with nx:=N,ct:=N,bk:=aa.nx } aj H2):=by
 refine⟨fun i m q H'=>m=ps.length - i/\i<=ps.length/\∃L C',jn K H' q L/\iu K H' C'/\Fw H C H' C'/\rG g u E (ps.drop i) L C',⟨ps.length,rfl,AM _,ρ,C,s,h,Fw.refl,ah⟩,?_⟩;rintro i m ai H1 ⟨rfl,hi,ag,C1,af,h1,M,q1⟩;have k1:=M.gw h
 by_cases Z:i < ps.length
 .refine .inr ⟨j.go i H1 Z k1,fun q H'=>∃L C',jn K H' q L/\iu K H' C'/\Fw H C H' C'/\rG g u E (ps.drop (i+1)) L C',fun q H' z=>⟨ps.length - (i+1),by omega,rfl,Z,z⟩,fun x H2 y=>?_⟩
  obtain⟨rfl,y⟩:=j.yl i H1 x H2 k1 y;rw[A6 Z] at q1
  exact⟨ps[i],ag,C1,_,y _ (AL Z),af,h1,q1,fun q H' L C' q' s' h' Y=>⟨L,C',_,s',h',q',⟨fun ae O U B J S I D=>⟨U,B,S,I,M.trans (Y.trans D),J⟩,fun v O t B J r3 I D=>f.rt v O t B J r3 I (M.trans (Y.trans D)),
   fun ae O U B J S I D=>f.nx ae O U B J S I (M.trans (Y.trans D)),fun ae O U B J S I D=>⟨U,B,S,I,M.trans (Y.trans D),J⟩⟩⟩⟩
 .have e:i=ps.length:=by lia
  subst e;rw[CZ] at q1;exact .inl ⟨j.st H1 k1,f.nx ai H1 ag C1 q1 af h1 M⟩
def aE{K}{a}(h:SqT K H a vs)(r:iw K H vs ts):Zd K H (Itt K a) ts where
 go:=fun i H' l k=>⟨vs,vs[i]'(by rwa [r.len]),SqT.gw h k,AL _⟩
 yl:=fun i H' x B k y=>⟨y.1,fun t e=>by
  obtain⟨v,g,q⟩:=((r.gw k).get e);have:=y.2 vs (SqT.gw h k)
  rw[g] at this;cases this;exact q⟩
 st:=fun H' k=>⟨vs,SqT.gw h k,by exact r.len▸AO _⟩
def Nh{K}{a}(h:Fz K H a vs)(r:iw K H vs ts):Zd K H (Itl K a) ts where
 go:=fun i H' l k=>⟨vs,vs[i]'(by rwa [r.len]),(h.gw k).sq,AL _⟩
 yl:=fun i H' x B k y=>⟨y.1,fun t e=>by
  obtain⟨v,g,q⟩:=((r.gw k).get e);have:=y.2 vs (h.gw k).sq
  rw[g] at this;cases this;exact q⟩
 st:=fun H' k=>⟨vs,(h.gw k).sq,by exact r.len▸AO _⟩
def VP{K}: Zd K H (Itr 0 n) ((List.range n).map fun k=>PV.int (k:Nat)) where
 go:=fun i H' l k=>by rwa [AB,A5] at l
 yl:=fun i H' x g k y=>⟨y.1,fun t e=>by
  rw[y.2];rw[Ah] at e
  cases z:(List.range n)[i]? with
  |none=>rw[z] at e;cases e
  |some w =>
   rw[z] at e;cases e;have:=AZ.mp z;obtain⟨l,e⟩:=this;rw[List.getElem_range] at e;subst e;rw[Int.zero_add]
   exact .int _⟩
 st:=fun H' k=>by rw[AB,A5];exact AO _
@[irreducible] def cO(B:jf)(g:qu)(u:lg):lg:=fun E q C=>B q C fun t C1=>match t with
 |.tup xs=>rG g u E xs q C1
 |.kt xs=>rG g u E xs q C1
 |_=>False
def gW{tg D:Expr}{J:List Stmt}{L:jf}{g:qu}{u:lg}(S:PassesOwn (model X.prog X.w) X.A X.env X.xe)(N:X.calm=true)(hi:CE X D L)(O:CG X tg g)(M:CB X J u)(hs:∀x,foldedSetIterable D X.env x=pure x:=by intro _;rfl):CS X (.For tg D J [] pos) (cO L g u):=⟨JS.weak ⟨oN S N (Va hi.h.h) O.h.h M.h.h hs⟩ fun aa σ H Y=>eX Y fun Z C E s h q f=> by
 unfold cO at q
 exact⟨Z,C,_,s,h,q,fun x H1 px C1 I U h1 B=>by
  cases U with
  |@tup a vs ts e r=>exact⟨a,rfl,⟨vs,SqT.of e⟩,yH (aE (SqT.of e) r) (s.gw (B.gw h)) h1 I (f.fw B)⟩
  |@kt a vs ts e r=>exact⟨a,rfl,⟨vs,e⟩,yH (aE e r) (s.gw (B.gw h)) h1 I (f.fw B)⟩
  |_=>exact I.elim⟩⟩
def Oh(ca:uh)(g:qu)(u:lg):lg:=fun E q C=>ca q C fun ts C1=>match ts with
 |[.int j]=>-(2 ^ 62)<=j/\j < 2 ^ 62/\rG g u E ((List.range j.toNat).map fun k=>PV.int (k:Nat)) q C1
 |_=>False
def nA{tg:Expr}{D:List Stmt}{ca:uh}{g:qu}{u:lg}{p J:Pos}(Y:PassesOwn (model X.prog X.w) X.A X.env X.xe)(N:X.calm=true)(S:Gl X "range")(U:X.mg "range" = none)(L:CA X [a] ca)(O:CG X tg g)(M:CB X D u)(Z:hX a=true:=by rfl)(hs:∀x,foldedSetIterable (.Call (.Name "range" p) [a] [] J) X.env x=pure x:=by intro _;rfl):CS X (.For tg (.Call (.Name "range" p) [a] [] J) D [] pos) (Oh ca g u):=⟨JS.weak ⟨oN Y N (lT S U L.h.h (xJ Z)) O.h.h M.h.h hs⟩ fun ab σ H zz=>eX zz fun ρ C E s h q f=>
 ⟨ρ,C,_,s,h,q,fun xs H1 ts C1 B aa h1 I=>by
  split at B
  .next j =>
   cases aa with
   |cons r0 r =>
    cases r;cases r0;exact⟨j,rfl,B.1,B.2.1,yH VP (s.gw (I.gw h)) h1 B.2.2 (f.fw I)⟩
  .exact B.elim⟩⟩
def pM(a:Addr)(g:qu)(u:lg)(E:ig):Nat->Nat->jx->CH->Prop
 |0,_,_,_=>False
 |n+1,i,q,C=>match C a with
  |some (.lst xs)=>match xs[i]? with
   |some x=>g x q C fun B C1=>u (E.lp (pM a g u E n (i+1))) B C1
   |none=>E.nx q C
  |_=>False
def Oi(B:jf)(g:qu)(u:lg):lg:=fun E q C=>B q C fun t C1=>match t with
 |.ref a=>∃n,pM a g u E n 0 q C1
 |.fz xs=>rG g u E xs q C1
 |_=>False
def ZX{tg ab:Expr}{af:List Stmt}{ag:jf}{g:qu}{u:lg}(hp:PassesOwn (model X.prog X.w) X.A X.env X.xe)(hc:X.calm=true)(hi:CE X ab ag)(hg:CG X tg g)(hb:CB X af u)(hs:∀x,foldedSetIterable ab X.env x=pure x:=by intro _;rfl):CS X (.For tg ab af [] pos) (Oi ag g u):=⟨JS.weak ⟨oN hp hc (Zt hi.h.h) hg.h.h hb.h.h hs⟩ fun aq σ H zz=>eX zz fun ρ C E s h ak f=>
 ⟨ρ,C,_,s,h,ak,fun x H1 px C1 q rx h1 O=>by
  cases rx with
  |@fz a vs ts e r=>exact⟨a,rfl,⟨vs,e.sq⟩,yH (Nh e r) (s.gw (O.gw h)) h1 q (f.fw O)⟩
  |ref a =>
   obtain⟨n,q⟩:=q
   have ex:∃ys,SqL X.K H1 a ys:=by
    cases n with
    |zero=>exact q.elim
    |succ n =>
     unfold pM at q
     split at q
     .next xs e=>obtain⟨vs,S,_⟩:=h1 a _ e;exact⟨vs,SqL.of S⟩
     .exact q.elim
   refine⟨a,rfl,ex,fun i m aa H'=>∃M C',jn X.K H' aa M/\iu X.K H' C'/\Fw H1 C1 H' C'/\pM a g u E m i M C',⟨n,ρ,C1,s.gw (O.gw h),h1,Fw.refl,q⟩,?_⟩;rintro i m ao H2 ⟨aj,C2,ai,h2,U,J⟩
   cases m with
   |zero=>exact J.elim
   |succ m =>
    unfold pM at J
    split at J
    .next xs e =>
     obtain⟨vs,S,rv⟩:=h2 a _ e
     split at J
     .next x ex =>
      obtain⟨v,ah,rx⟩:=rv.get ex;refine .inr ⟨⟨vs,v,SqL.of S,ah⟩,fun aa H'=>∃M C',jn X.K H' aa M/\iu X.K H' C'/\Fw H1 C1 H' C'/\pM a g u E m (i+1) M C',fun aa H' z=>⟨m,BB m,z⟩,fun y N hy=>?_⟩;obtain⟨rfl,hy⟩:=hy;have:=hy vs (SqL.of S);rw[ah] at this;cases this
      exact⟨x,aj,C2,_,rx,ai,h2,J,fun aa H' M C' q' s' h' f'=>⟨M,C',_,s',h',q',⟨fun ae N Z B L Y I D=>⟨Z,B,Y,I,U.trans (f'.trans D),L⟩,fun v N t B L r3 I D=>f.rt v N t B L r3 I (O.trans (U.trans (f'.trans D))),
       fun ae N Z B L Y I D=>f.nx ae N Z B L Y I (O.trans (U.trans (f'.trans D))),fun ae N Z B L Y I D=>⟨Z,B,Y,I,U.trans (f'.trans D),L⟩⟩⟩⟩
     .next ex =>
      refine .inl ⟨⟨vs,SqL.of S,?_⟩,f.nx ao H2 aj C2 J ai h2 (O.trans U)⟩;rw[rv.len];exact List.getElem?_eq_none_iff.mp ex
    .exact J.elim
  |_=>exact q.elim⟩⟩
def jK(t:qb)(c:jf)(q:jx)(Q:K1):List PV->List PV->CH->Prop
 |[],g,C=>∀p,C p=none->Q (.ref p) (gQ C p (.lst g))
 |x::r,g,C=>t (some x::q) C fun b C1=>if b=true then c (some x::q) C1 fun y C2=>g.length < sizeLine/\jK t c q Q r (g++[y]) C2 else jK t c q Q r g C1
structure CF(X:Cx)(ifs:List Expr)(c:qb):Prop where
 h:JF X ifs (vV X.K uE c)
def fM:qb:=fun _ C Q=>Q true C
def JF.weak(h:JF X g t)(w:∀σ H Q,t' σ H Q->t σ H Q):JF X g t':=⟨fun pins s σ H Q I q=>h.h pins s σ H Q I (w σ H Q q)⟩
def lZ:CF X [] fM:=⟨JF.weak ⟨K8⟩ fun σ H Q g=>eX g fun B C R s h q f=> f true H true C q rfl h Fw.refl⟩
def HX(h:CT X c t):CF X [c] t:=⟨⟨K7 h.h.h⟩⟩
def Dm{K}{c}{Q:VK}(j:Zd K H aa ps)(s:jn K H σ ρ)(h:iu K H C)(ah:jK t c ρ R ps [] C)(h0:iu K H0 C0)(ag:Fw H0 C0 H C)(f:∀v H' p C',R p C'->Rep K H' v p->iu K H' C'->Fw H0 C0 H' C'->Q v H')(q:H D=none):
  ∃W:Nat->Nat->List V->Hp->Prop,(∃m,W 0 m [] (upd H D (.lst [])))/\∀i m ys H,W i m ys H ->
   (aa.stop i H/\Q (.ref D) H)\/(aa.go i H/\∀x H',aa.yld i H x H'->vV K uE t (some x::σ) H' fun b H2=>
    if b=true then vV K (Rep K) c (some x::σ) H2 fun y H3=>H3 D=some (.lst ys)/\ys.length < sizeLine/\∃J,J < m/\W (i+1) J (ys++[y]) (upd H3 D (.lst (ys++[y])))
    else ∃J,J < m/\W (i+1) J ys H2):=by
 refine⟨fun i m ys H'=>m=ps.length - i/\i<=ps.length/\∃g C',H' D=some (.lst ys)/\C' D=none/\iw K H' ys g/\iu K H' C'/\Fw H C H' C'/\jK t c ρ R (ps.drop i) g C',
  ⟨ps.length,rfl,AM _,[],C,vX,h.fresh q,.nil,h.new q _,Fw.new q _,ah⟩,?_⟩
 rintro i m ys H1 ⟨rfl,hi,g,C1,e1,n1,Y,h1,L,U⟩;have I:=L.gw h
 by_cases B:i < ps.length
 .refine .inr ⟨j.go i H1 B I,fun x H2 y=>?_⟩
  obtain⟨rfl,y⟩:=j.yl i H1 x H2 I y;have rx:=y _ (AL B);rw[A6 B] at U;refine⟨some ps[i]::ρ,C1,_,.cons rx (s.gw I),h1,U,fun b H3 b' C3 q3 e h3 M=>?_⟩;cases e;obtain⟨O,e3⟩:=M D (by rw[n1];rfl) (by lia);rw[e1] at e3;rw[n1] at O;have N:=M.gw h1
  cases b with
  |true =>
   refine⟨some ps[i]::ρ,C3,_,.cons (rx.gw N) ((s.gw I).gw N),h3,q3,fun v H4 p C4 q4 r4 h4 ab=>X0 (ab D (by rw[O];rfl) (by lia)) fun n4 e4=>?_⟩;rw[e3] at e4;rw[O] at n4;have m4:jz H4 (upd H4 D (.lst (ys++[v]))):=jz.mut e4 rfl _;refine⟨e4,by rw[Y.len];exact q4.1,ps.length - (i+1),by lia,rfl,B,g++[p],C4,vX,n4,?_,?_,?_,q4.2⟩
   .exact (((Y.gw N).gw (ab.gw h3)).append (.cons r4 .nil)).gw m4
   .intro a o ca
    have ae:a≠D:=fun z=>by subst z;rw[n4] at ca;cases ca
    exact(h4 a o ca).gw m4 (cX ae)
   .intro a ca S
    have ae:a≠D:=fun z=>S (z▸q);exact X0 ((L.trans (M.trans ab)) a ca S) fun Z x2=>⟨Z,(cX ae).trans x2⟩
  |false =>
   exact⟨ps.length - (i+1),by lia,rfl,B,g,C3,e3,O,Y.gw N,h3,L.trans M,q3⟩
 .have e:i=ps.length:=by lia
  subst e;rw[CZ] at U;refine .inl ⟨j.st H1 I,f (.ref D) H1 (.ref D) _ (U D n1) (.ref D) ?_ ?_⟩
  .intro a o ca
   by_cases z:a=D
   .subst z;rw[zQ] at ca;cases ca;exact⟨ys,e1,Y⟩
   .rw [vQ z] at ca;exact h1 a o ca
  .intro a ca S
   obtain⟨Z,x2⟩:=ag a ca S;have af:H a≠none:=by rwa [x2]
   obtain⟨y1,y2⟩:=L a (by rwa [Z]) af;exact⟨(vQ (show a≠D from fun z=>af (z▸q))).trans (y1.trans Z),y2.trans x2⟩
structure CI(X:Cx)(tg it:Expr)(wi:TI)(c:jx->CH->(List PV->CH->Prop)->Prop):Prop where
 j:JI X tg it wi
 w:∀σ H ρ C R Q,jn X.K H σ ρ->iu X.K H C->c ρ C R->(∀J H' ps C',R ps C'->Zd X.K H' J ps->iu X.K H' C'->Fw H C H' C'->Q J H')->wi σ H Q
def Rj(g:jf):jx->CH->(List PV->CH->Prop)->Prop:=fun q C Q=>g q C fun t C1=>match t with
 |.tup xs=>Q xs C1
 |.kt xs=>Q xs C1
 |_=>False
def uK(h:CE X e B):CI X tg e (iTup X.K (vV X.K (Rep X.K) B)) (Rj B):=⟨⟨Va h.h.h⟩,fun σ H J C R Q s h q f=>⟨J,C,_,s,h,q,fun x H1 L C1 g I h1 D=>by
  cases I with
  |@tup a vs ts e r=>exact⟨a,rfl,⟨vs,SqT.of e⟩,f _ H1 ts C1 g (aE (SqT.of e) r) h1 D⟩
  |@kt a vs ts e r=>exact⟨a,rfl,⟨vs,e⟩,f _ H1 ts C1 g (aE e r) h1 D⟩
  |_=>exact g.elim⟩⟩
def Oe(ca:uh):jx->CH->(List PV->CH->Prop)->Prop:=fun g C Q=>ca g C fun ts C1=>match ts with
 |[.int j]=>-(2 ^ 62)<=j/\j < 2 ^ 62/\Q ((List.range j.toNat).map fun k=>PV.int (k:Nat)) C1
 |_=>False
def xR(I:Gl X "range")(J:X.mg "range" = none)(D:CA X [a] ca)(L:hX a=true:=by rfl):CI X tg (.Call (.Name "range" p) [a] [] S) (iRng1 (vV X.K (iw X.K) ca)) (Oe ca):=⟨⟨lT I J D.h.h (xJ L)⟩,fun σ H O C R Q s h q f=>⟨O,C,_,s,h,q,fun xs H1 ts C1 g N h1 B=>by
  split at g
  .next j =>
   cases N with
   |cons M r =>
    cases r;cases M;exact⟨j,rfl,g.1,g.2.1,f _ H1 _ C1 g.2.2 VP h1 B⟩
  .exact g.elim⟩⟩
def Ja(q:jx->CH->(List PV->CH->Prop)->Prop)(t:qb)(c:jf):jf:=fun g C Q=>q g C fun ps C1=>jK t c g Q ps [] C1
def qO{c}(hi:CI X tg it M B){Q:VK}(h:vV X.K (Rep X.K) (Ja B t c) σ H Q):aI M (vV X.K uE t) (vV X.K (Rep X.K) c) σ H Q :=eX h fun N C R s h q f=>hi.w σ H N C _ _ s h q fun J H' ps C' L j h' g D I=>Dm j (s.gw (g.gw h)) h' L h g f I
def aZ{M J:Expr}{x:Str}{O:Pos}{N:List Expr}{I:Scope}{wi:TI}{L:jx->CH->(List PV->CH->Prop)->Prop}{t:qb}{c:jf}(U:X.calm=true)(S:(x::X.N).Nodup)(K:∃g,xD X x I g)(hi:CI X (.Name x O) J wi L)(Z:∀g B C D q,CF (nV X x I g B C D q) N t)(Y:∀g B C D q,CE (nV X x I g B C D q) M c)(hs:∀v,foldedSetIterable J X.env v=pure v:=by intro _;rfl):CE X (.ListComp M [⟨.Name x O,J,N,0⟩] I pos) (Ja L t c) :=
 ⟨JE.weak (Qw U S K hi.j (fun g B C D q=>(Z g B C D q).h) (fun g B C D q=>(Y g B C D q).h) hs) fun _ _ _ h=>qO hi h⟩
end
def gN(N:List Str)(ts:List PV):jx:=ts.map some++List.replicate (N.length - ts.length) none
theorem kT{K}: ∀n,jn K H (List.replicate n none) (List.replicate n none)
 |0=>.nil
 |n+1=>.cons trivial (kT n)
theorem Qa{K}(s:jn K H σ g):∀{vs}{ts},iw K H vs ts->jn K H (vs.map some++σ) (ts.map some++g)
 |_,_,.nil=>s
 |_,_,.cons h r=>.cons h (Qa s r)
def Xq{K}(r:iw K H vs ts):jn K H (L2.start N vs) (gN N ts):=by
 delta L2.start gN
 exact r.len▸Qa (kT _) r
section
variable {P:Program}{w:World}{K:DD}{mg:Str->Option Value}{base:Heap}
def Fun.Sy{st}(F:Fun K x J st f fd)(S:FnScope N ps (cZ st))(Y:∀ts C R,G ts C R->ts.length=ps.length)(M:∀D A I s H E,Room k (A.deeper (envOfC J (cZ st) s.heap.objs.size f D)) ->
   ∃c,CB (lA CX0 P w K mg base N J (cZ st) f D A I s H E).nox (rV st) c/\∀ts C R,G ts C R->c (.go R) (gN N ts) C):FnOk P w K mg base CX0 (k+1) f fd ps (q9 K G):=by
 refine F.Sx S ?_ ?_
 .rintro vs H Q E ⟨ts,C,R,r,h,g,f⟩
  exact r.len▸Y ts C R g
 .rintro D A I s H vs Q E U ⟨ts,C,R,r,h,g,f⟩
  exact hV (M D A I s H E U) fun c O q=>⟨_,O.h,gN N ts,C,_,Xq r,h,q ts C R g,⟨fun aa H' Z C' B s' h' L=>f .non H' .non C' B .non h' L,f,fun _ _ _ _ B _ _ _=>B.elim,fun _ _ _ _ B _ _ _=>B.elim⟩⟩
end
section
variable {X:Cx}{a b c e o i:Expr}{es:List Expr}{pos:Pos}
@[irreducible] def cI(g:Int->Int->PV):qw:=fun x y C Q=>match x,y with
 |.int i,.int j=>Q (g i j) C
 |_,_=>False
def KH(P:Int->Int->Prop)(g:Int->Int->PV):qw:=fun x y C Q=>match x,y with
 |.int i,.int j=>P i j/\Q (g i j) C
 |_,_=>False
def QY{K}(B:∀i j H,Rep K H (g i j) (g' i j)):km K (rI0 g) (cI g'):=fun x y J L H C Q R D I h q f=>by
 delta cI at q
 split at q
 .cases D;cases I
  exact⟨_,_,rfl,rfl,f _ H _ C q (B _ _ _) h Fw.refl⟩
 .exact q.elim
def eA{K}(B:∀i j H,Rep K H (g i j) (g' i j)):km K (rI P g) (KH P g'):=fun x y J L H C Q R D I h q f=>by
 delta KH at q
 split at q
 .cases D;cases I
  exact⟨_,_,rfl,rfl,q.1,f _ H _ C q.2 (B _ _ _) h Fw.refl⟩
 .exact q.elim
def nJ{K}:km K (rI0 fun i j=>.int (i - j)) (cI fun i j=>.int (i - j)):=QY fun _ _ _=>.int _
def aD{K}:km K (rI CMul fun i j=>.int (i * j)) (KH CMul fun i j=>.int (i * j)):=eA fun _ _ _=>.int _
def QX{K}:km K (rI (fun _ j=>0 < j/\j < 18446744073709551616) fun i j=>.int (i / j)) (KH (fun _ j=>0 < j/\j < 18446744073709551616) fun i j=>.int (i / j)):=eA fun _ _ _=>.int _
def pG{K}:km K (rI (fun _ j=>0 < j) fun i j=>.int (i % j)) (KH (fun _ j=>0 < j) fun i j=>.int (i % j)):=eA fun _ _ _=>.int _
def oA{K}:km K (rI CPow fun i j=>.int (i ^ j.toNat)) (KH CPow fun i j=>.int (i ^ j.toNat)):=eA fun _ _ _=>.int _
def cY{K}:km K (rI0 fun i j=>.bl (decide (i < j))) (cI fun i j=>.bl (decide (i < j))):=QY fun _ _ _=>.bl _
def aG{K}:km K (rI0 fun i j=>.bl (decide (i<=j))) (cI fun i j=>.bl (decide (i<=j))):=QY fun _ _ _=>.bl _
def vJ{K}:km K (rI0 fun i j=>.bl (decide (j < i))) (cI fun i j=>.bl (decide (j < i))):=QY fun _ _ _=>.bl _
def HR{K:DD}:km K (rI0 fun i j=>.bl (decide (j<=i))) (cI fun i j=>.bl (decide (j<=i))):=QY fun _ _ _=>.bl _
def Oa:PV->CH->K1->Prop:=fun x C Q=>match x with
 |.int i=>Q (.int (-i)) C
 |_=>False
def rJ{K}:Ss K (rU fun i=>.int (-i)) Oa:=fun x B H C Q R g h q f=>by
 delta Oa at q
 split at q
 .cases g;exact⟨_,rfl,f _ H _ C q (.int _) h Fw.refl⟩
 .exact q.elim
def zu(s:Same H H'):Fw H C H' C:=fun a c n=>⟨rfl,by
 cases e:H a with
 |none=>exact absurd e n
 |some o=>exact s a o e⟩
def JN{K}(h:iu K H C)(s:Same H H'):iu K H' C:=fun a o c=>hV ((h a o c).mut) fun u e _=>(h a o c).gw (fun b v _ e=>s b v e) ((s a u e).trans e.symm)
@[irreducible] def qP:qw:=fun x y C Q=>match x,y with
 |.int i,.int j=>Q (.int (i+j)) C
 |.str i,.str j=>i.length+j.length<=sizeLine/\Q (.str (i++j)) C
 |.tup xs,.tup ys=>xs.length+ys.length<=sizeLine/\Q (.tup (xs++ys)) C
 |.ref a,.ref b=>match C a,C b with
  |some (.lst xs),some (.lst ys)=>xs.length+ys.length<=sizeLine/\∀p,C p=none->Q (.ref p) (gQ C p (.lst (xs++ys)))
  |_,_=>False
 |_,_=>False
abbrev Et:R2:=fun x y H Q=>rI0 (fun i j=>.int (i+j)) x y H Q\/((∃i j,x=.str i/\y=.str j/\i.length+j.length<=sizeLine/\Q (.str (i++j)) H)\/(Es x y H Q\/rCat x y H Q))
def oQ:OpR X (binaryOp .Add) Et:=OpR.or op_add (OpR.or Xy (OpR.or ye op_cat))
def tQ{K}:km K Et qP:=fun x y Y Z H C Q R B D h q f=>by
 delta qP at q
 split at q
 .cases B;cases D
  exact .inl ⟨_,_,rfl,rfl,f _ H _ C q (.int _) h Fw.refl⟩
 .cases B;cases D
  exact .inr (.inl ⟨_,_,rfl,rfl,q.1,f _ H _ C q.2 (.str _) h Fw.refl⟩)
 .cases B with
  |tup e r=>cases D with
   |tup M I =>
    refine .inr (.inr (.inl ⟨_,_,_,_,rfl,rfl,e,M,by rw[r.len,I.len];exact q.1,fun z H' s hz _=>?_⟩));exact f _ H' _ C q.2 (.tup hz ((r.append I).gw fun b v _ e=>s b v e)) (JN h s) (zu s)
 .split at q
  .next xs ys N O =>
   refine hV (h _ _ N) fun vs U L=>hV (h _ _ O) fun us S J=>?_;cases B;cases D
   refine .inr (.inr (.inr ⟨_,_,_,_,rfl,rfl,U,S,by rw[L.len,J.len];exact q.1,fun p g=>?_⟩));exact f _ _ _ _ (q.2 p (h.fresh g)) (.ref p) (h.lay g ⟨_,vX,(L.append J).gw (jz.new g _)⟩) (Fw.lay g _ _)
  .exact q.elim
 .exact q.elim
def sEq:PV->PV->Option Bool
 |.non,.non=>some true | .non,.int _=>some false | .int _,.non=>some false | .non,.bl _=>some false | .bl _,.non=>some false | .non,.str _=>some false | .str _,.non=>some false
 |.int i,.int j=>some (decide (i=j)) | .bl b,.bl c=>some (decide (b=c)) | .str x,.str y=>some (decide (x=y))
 |.int _,.str _=>some false | .str _,.int _=>some false | .bl _,.str _=>some false | .str _,.bl _=>some false
 |_,_=>none
@[irreducible] def La(k:Bool->Bool):qw:=fun x y C Q=>match sEq x y with
 |some b=>Q (.bl (k b)) C
 |none=>False
def toV:PV->Option V
 |.non=>some .non | .bl b=>some (.bl b) | .int i=>some (.int i) | .str x=>some (.str x) | _=>none
def Zi{K}(r:Rep K H x g)(e:toV g=some v):x=v:=by
 cases r<;>cases e<;>rfl
def wj{b}(e:sEq g q=some b):∃v u,toV g=some v/\toV q=some u/\scal v u=true/\decide (v=u)=b:=by
 cases g<;>cases q<;>cases e<;>exact⟨_,_,rfl,rfl,rfl,by simp⟩
def Zm{K}{b}(I:Rep K H x B)(J:Rep K H y D)(e:sEq B D=some b):scal x y=true/\decide (x=y)=b:=by
 refine NQ (wj e) fun v u h1 h2 g q=>?_;cases Zi I h1;cases Zi J h2;exact⟨g,q⟩
def qX{K}:km K rEq (La id):=fun x y D I H C Q R g B h q f=>by
 delta La at q
 split at q
 .next b e =>
  obtain⟨h1,h2⟩:=Zm g B e;exact⟨h1,h2▸f _ H _ C q (.bl _) h Fw.refl⟩
 .exact q.elim
def aU{K}:km K rNe (La not):=fun x y D I H C Q R g B h q f=>by
 delta La at q
 split at q
 .next b e =>
  obtain⟨h1,h2⟩:=Zm g B e;exact⟨h1,h2▸f _ H _ C q (.bl _) h Fw.refl⟩
 .exact q.elim
def oU:PV->Bool
 |.non=>true
 |_=>false
def R8(k:Bool->Bool):qw:=fun x y C Q=>match y with
 |.non=>Q (.bl (k (oU x))) C
 |_=>False
def Qy{K}(r:Rep K H x g):decide (x=.non)=oU g:=by
 cases r<;>simp[oU]
def dG{K}:km K (fun x y H Q=>y=.non/\Q (.bl (decide (x=.non))) H) (R8 id):=fun x y D I H C Q R g B h q f=>by
 cases B with
 |non=>exact⟨rfl,by exact(Qy g)▸f _ H _ C q (.bl _) h Fw.refl⟩
 |_=>exact q.elim
def QW{K}:km K (fun x y H Q=>y=.non/\Q (.bl (!decide (x=.non))) H) (R8 not):=fun x y D I H C Q R g B h q f=>by
 cases B with
 |non=>exact⟨rfl,by exact(Qy g)▸f _ H _ C q (.bl _) h Fw.refl⟩
 |_=>exact q.elim
def uo(xs:List PV)(i:Int)(C:CH)(Q:K1):Prop:=match atI xs i with
 |some v=>Q v C
 |none=>False
@[irreducible] def vg:qw:=fun x y C Q=>match x,y with
 |.tup xs,.int i=>uo xs i C Q
 |.kt xs,.int i=>uo xs i C Q
 |.fz xs,.int i=>uo xs i C Q
 |.ref a,.int i=>match C a with
  |some (.lst xs)=>uo xs i C Q
  |_=>False
 |.str z,.int i=>z.length<=sizeLine/\match atI z.cps.toList i with
  |some c=>Q (.str ⟨#[c]⟩) C
  |none=>False
 |_,_=>False
theorem iw.at{K}{i}(r:iw K H vs ts)(e:atI ts i=some t):∃v,atI vs i=some v/\Rep K H v t:=by
 delta atI at e ⊢
 rw[r.len]
 cases z:ixN ts.length i with
 |none=>rw[z] at e;cases e
 |some j =>
  rw[z] at e;exact r.get e
def xI{K}{i}(r:iw K H vs ts)(q:uo ts i C R):∃v t,atI vs i=some v/\Rep K H v t/\R t C:=by
 delta uo at q
 split at q
 .next t e =>
  exact hV (r.at e) fun v g B=>⟨v,t,g,B,q⟩
 .exact q.elim
def HQ{K}:km K (rIx K) vg:=fun x y O S H C Q R D I h q f=>by
 delta vg at q
 split at q
 .cases I
  cases D with
  |tup e r =>
   obtain⟨v,t,g,B,q⟩:=xI r q;exact .inr (.inl ⟨_,_,_,v,rfl,rfl,SqT.of e,g,f _ H _ C q B h Fw.refl⟩)
 .cases I
  cases D with
  |kt e r =>
   obtain⟨v,t,g,B,q⟩:=xI r q;exact .inr (.inl ⟨_,_,_,v,rfl,rfl,e,g,f _ H _ C q B h Fw.refl⟩)
 .cases I
  cases D with
  |fz e r =>
   obtain⟨v,t,g,B,q⟩:=xI r q;exact .inl ⟨_,_,_,v,rfl,rfl,e.sq,g,f _ H _ C q B h Fw.refl⟩
 .cases I
  split at q
  .next xs e =>
   obtain⟨vs,L,N⟩:=(h _ _ e);cases D;exact Wc (xI N q) fun v t g B q=>.inl ⟨_,_,_,v,rfl,rfl,SqL.of L,g,f _ H _ C q B h Fw.refl⟩
  .exact q.elim
 .cases I;cases D
  obtain⟨M,J⟩:=q
  split at J
  .next c e=>exact .inr (.inr ⟨_,_,c,rfl,rfl,M,e,f _ H _ C J (.str _) h Fw.refl⟩)
  .exact J.elim
 .exact q.elim
def yw:IxR X (rIx X.K):=ix_seq
@[irreducible] def bR:GC:=fun ts C Q=>match ts with
 |[.tup xs]=>Q (.int xs.length) C
 |[.kt xs]=>Q (.int xs.length) C
 |[.fz xs]=>Q (.int xs.length) C
 |[.ref a]=>match C a with
  |some (.lst xs)=>Q (.int xs.length) C
  |some (.dK kvs)=>Q (.int kvs.length) C
  |_=>False
 |[.str z]=>z.length<=sizeLine/\Q (.int z.length) C
 |_=>False
abbrev Er(K:DD):List V->Hp->VK->Prop:=fun xs H Q=>(∃p ys,xs=[.ref p]/\(SqL K H p ys\/SqT K H p ys)/\Q (.int ys.length) H)\/((∃a kvs,xs=[V.ref a]/\H a=some (.dK kvs)/\Q (.int kvs.length) H)\/∃z,xs=[.str z]/\z.length<=sizeLine/\Q (.int z.length) H)
def Ka:CallR X (.builtin "len") (Er X.K):=CallR.or qI (CallR.or J9 iA)
def sZ{K}(r:iw K H xs [t]):∃v,xs=[v]/\Rep K H v t:=by
 cases r with
 |cons h r=>cases r;exact⟨_,rfl,h⟩
def Zo{K}(r:iw K H xs [t,u]):∃v w,xs=[v,w]/\Rep K H v t/\Rep K H w u:=by
 cases r with
 |cons h r=>obtain⟨w,rfl,h'⟩:=sZ r;exact⟨_,w,rfl,h,h'⟩
def DG{K}:uw K (Er K) bR:=fun xs ps H C Q R g h q f=>by
 delta bR at q
 split at q
 .obtain ⟨v,rfl,r⟩:=sZ g
  cases r with
  |tup e r=>exact .inl ⟨_,_,rfl,.inr (SqT.of e),f _ H _ C (by rwa [r.len]) (.int _) h Fw.refl⟩
 .obtain ⟨v,rfl,r⟩:=sZ g
  cases r with
  |kt e r=>exact .inl ⟨_,_,rfl,.inr e,f _ H _ C (by rwa [r.len]) (.int _) h Fw.refl⟩
 .obtain ⟨v,rfl,r⟩:=sZ g
  cases r with
  |fz e r=>exact .inl ⟨_,_,rfl,.inl e.sq,f _ H _ C (by rwa [r.len]) (.int _) h Fw.refl⟩
 .obtain ⟨v,rfl,r⟩:=sZ g
  split at q
  .next xs e =>
   obtain⟨vs,B,D⟩:=h _ _ e;cases r;exact .inl ⟨_,_,rfl,.inl (SqL.of B),f _ H _ C (by rwa [D.len]) (.int _) h Fw.refl⟩
  .next kvs e =>
   obtain⟨vs,B,D⟩:=h _ _ e;cases r;exact .inr (.inl ⟨_,_,rfl,B,f _ H _ C (by rwa [Paired.length D]) (.int _) h Fw.refl⟩)
  .exact q.elim
 .obtain ⟨v,rfl,r⟩:=sZ g
  cases r;exact .inr (.inr ⟨_,rfl,q.1,f _ H _ C q.2 (.int _) h Fw.refl⟩)
 .exact q.elim
def tyP(C:CH):PV->Option Ty
 |.non=>some .non
 |.bl _=>some .bl
 |.int _=>some .int
 |.str _=>some .str
 |.tup _=>some .tup
 |.ref a=>match C a with
  |some (.lst _)=>some .lst
  |some (.dK _)=>some .dct
  |_=>none
 |_=>none
def Zh{K}(r:Rep K H x t)(h:iu K H C)(e:tyP C t=some n):Iw H x=some n:=by
 cases r with
 |tup q _=>cases e;show(H _).bind Iz=_;rw[q];rfl
 |ref a =>
  delta tyP at e
  dsimp only at e
  split at e
  .next xs c=>cases e;obtain⟨vs,g,_⟩:=h _ _ c;show(H _).bind Iz=_;rw[g];rfl
  .next xs c=>cases e;obtain⟨vs,g,_⟩:=h _ _ c;show(H _).bind Iz=_;rw[g];rfl
  .cases e
 |kt _ _=>cases e
 |fz _ _=>cases e
 |ty _=>cases e
 |vw _=>cases e
 |_=>cases e;rfl
def wD(n:String):Option Ty:=[Ty.non,.bl,.int,.str,.lst,.tup,.dct].find? fun t=>rB t==n
def lI(h:wD n=some t):n=rB t:=by
 have:=List.find?_some h;exact(eq_of_beq this).symm
@[irreducible] def WD:GC:=fun ts C Q=>match ts with
 |[x,.ty n]=>match wD n,tyP C x with
  |some T,some k=>Q (.bl (fJ k T)) C
  |_,_=>False
 |_=>False
def iZ{K}:uw K (fun xs H Q=>∃x T n,xs=[x,.ty (rB T)]/\Iw H x=some n/\Q (.bl (fJ n T)) H) WD:=fun xs ps H C Q R J h q f=>by
 delta WD at q
 split at q
 .split at q
  .next T k g B =>
   obtain⟨v,w,rfl,D,I⟩:=Zo J;cases I;exact(lI g)▸⟨v,T,k,rfl,Zh D h B,f _ H _ C q (.bl _) h Fw.refl⟩
  .exact q.elim
 .exact q.elim
def cAbs:GC:=fun ts C Q=>match ts with
 |[.int i]=>Q (.int (if i < 0 then -i else i)) C
 |_=>False
def DK{K}:uw K (fun xs H Q=>∃i,xs=[.int i]/\Q (.int (if i < 0 then -i else i)) H) cAbs:=fun xs ps H C Q R g h q f=>by
 delta cAbs at q
 split at q
 .obtain ⟨v,rfl,r⟩:=sZ g
  cases r;exact⟨_,rfl,f _ H _ C q (.int _) h Fw.refl⟩
 .exact q.elim
@[irreducible] def jB:GC:=fun ts C Q=>match ts with
 |[.tup xs]=>Q (.tup xs) C
 |[.ref a]=>match C a with
  |some (.lst xs)=>Q (.tup xs) C
  |_=>False
 |_=>False
def Dy{K}:uw K (fun xs H Q=>∃p ys,xs=[.ref p]/\((SqL K H p ys/\∀l,H l=none->Q (.ref l) (upd H l (.tup ys)))\/(SqT K H p ys/\Q (.ref p) H))) jB:=fun xs ps H C Q R B h q f=>by
 delta jB at q
 split at q
 .obtain ⟨v,rfl,r⟩:=sZ B
  cases r with
  |tup e r=>exact⟨_,_,rfl,.inr ⟨SqT.of e,f _ H _ C q (.tup e r) h Fw.refl⟩⟩
 .obtain ⟨v,rfl,r⟩:=sZ B
  split at q
  .next xs e =>
   obtain⟨vs,D,I⟩:=(h _ _ e);cases r;exact⟨_,_,rfl,.inl ⟨SqL.of D,fun l g=>f _ _ _ C q (.tup vX (I.gw (jz.new g _))) (h.new g _) (Fw.new g _)⟩⟩
  .exact q.elim
 .exact q.elim
def zI:GC:=fun ts C Q=>match ts with
 |[.tup xs]=>∀p,C p=none->Q (.ref p) (gQ C p (.lst xs))
 |[.ref a]=>match C a with
  |some (.lst xs)=>∀p,C p=none->Q (.ref p) (gQ C p (.lst xs))
  |_=>False
 |_=>False
def Z3{K}:uw K (fun xs H Q=>∃p ys,xs=[.ref p]/\(SqL K H p ys\/SqT K H p ys)/\∀l,H l=none->Q (.ref l) (upd H l (.lst ys))) zI:=fun xs ps H C Q R B h q f=>by
 delta zI at q
 split at q
 .obtain ⟨v,rfl,r⟩:=sZ B
  cases r with
  |tup e r=>exact⟨_,_,rfl,.inr (SqT.of e),fun l g=>f _ _ _ _ (q l (h.fresh g)) (.ref l) (h.lay g ⟨_,vX,r.gw (jz.new g _)⟩) (Fw.lay g _ _)⟩
 .obtain ⟨v,rfl,r⟩:=sZ B
  split at q
  .next xs e =>
   obtain⟨vs,D,I⟩:=(h _ _ e);cases r;exact⟨_,_,rfl,.inl (SqL.of D),fun l g=>f _ _ _ _ (q l (h.fresh g)) (.ref l) (h.lay g ⟨_,vX,I.gw (jz.new g _)⟩) (Fw.lay g _ _)⟩
  .exact q.elim
 .exact q.elim
def pR:List PV->Option (List Bool)
 |[]=>some []
 |.bl b::r=>(pR r).map (b :: ·)
 |_=>none
@[irreducible] def WI:GC:=fun ts C Q=>match ts with
 |[.ref a]=>match C a with
  |some (.lst xs)=>match pR xs with
   |some bs=>Q (.bl (bs.all id)) C
   |none=>False
  |_=>False
 |_=>False
def Kh{K}(r:iw K H vs ts)(e:pR ts=some bs):vs=bs.map V.bl:=by
 induction ts generalizing vs bs with
 |nil=>cases r;cases e;rfl
 |cons t ts g =>
  cases r with
  |@cons v _ vs _ h r =>
   cases t with
   |bl b =>
    unfold pR at e
    cases z:pR ts with
    |none=>rw[z] at e;cases e
    |some cs =>
     rw[z] at e;injection e with e
     subst e;cases h;rw[g r z];rfl
   |_=>cases e
def lG{K}:uw K (fun xs H Q=>∃p ys,xs=[.ref p]/\SqL K H p (List.map V.bl ys)/\Q (.bl (ys.all id)) H) WI:=fun xs ps H C Q R D h q f=>by
 delta WI at q
 split at q
 .obtain ⟨v,rfl,r⟩:=sZ D
  split at q
  .next xs e =>
   split at q
   .next bs g =>
    obtain⟨vs,B,I⟩:=(h _ _ e);cases r;have:=Kh I g;subst this;exact⟨_,bs,rfl,SqL.of B,f _ H _ C q (.bl _) h Fw.refl⟩
   .exact q.elim
  .exact q.elim
 .exact q.elim
def Ni(x:PV)(C:CH):Prop:=match x with
 |.ref a=>match C a with
  |some (.lst _)=>True
  |_=>False
 |_=>False
def Ot(q:PV->List PV->CH->K1->Prop)(co:jf)(ca:uh):jf:=fun g C Q=>co g C fun x C1=>Ni x C1/\ca g C1 fun xs C2=>q x xs C2 Q
def vy(K:DD)(r:V->List V->Hp->VK->Prop)(q:PV->List PV->CH->K1->Prop):Prop:=∀x g xs ps H C Q R,Rep K H x g->iw K H xs ps->iu K H C->q g ps C R->(∀v H' t C',R t C'->Rep K H' v t->iu K H' C'->Fw H C H' C'->Q v H')->r x xs H Q
def VQ{K}(l:Ni t C)(r:Rep K H x t)(h:iu K H C):tyV K "list" x H:=by
 delta Ni at l
 split at l
 .split at l
  .next e=>obtain⟨vs,g,_⟩:=(h _ _ e);cases r;exact .inl ⟨rfl,vs,SqL.of g⟩
  .exact l.elim
 .exact l.elim
def lY{id}{apos cpos}(ae:PlainAttrs "list")(ah:Slot "list" name id)(ab:typeOf (.builtin id)=pure (.type "method_descriptor"))(Y:MtR X id r)(aa:vy X.K r J)(Z:CE X o co)(M:CA X (e::es) ca)(O:attributeBase o name X.env (eval o X.env)=eval o X.env:=by rfl)(S:((backTo cpos (starEach (e::es) X.env)).all (fun x=>!x.1)&&(backToKw cpos (keywordEach [] X.env)).all (fun x=>x.1.isSome)
   && decide ((e::es).length+([]:List Keyword).length+(if ([]:List Keyword).isEmpty then 0 else 1) < 30))=true:=by rfl)(U:(apos.endLine==cpos.line)=true:=by rfl)(hs:hX e=true:=by rfl)(N:es.all hX=true:=by rfl):
  CE X (.Call (.Attribute o name apos) (e::es) [] cpos) (Ot J co ca):=⟨JE.weak (Fl ae ah ab Y Z.h M.h O S U hs N) fun σ H Q zz=>eX zz fun I C R s h af f=>
 ⟨I,C,_,s,h,af,fun x H1 px C1 B D h1 g=>⟨VQ B.1 D h1,I,C1,_,s.gw (g.gw h),h1,B.2,fun xs H2 ps C2 q2 ag h2 q=>
  aa x px xs ps H2 C2 Q R (D.gw (q.gw h1)) ag h2 q2 fun v H' t C' q' r' h' L=>f v H' t C' q' r' h' (g.trans (q.trans L))⟩⟩⟩
@[irreducible] def xY:PV->List PV->CH->K1->Prop:=fun x ts C Q=>match x,ts with
 |.ref a,[y]=>match C a with
  |some (.lst xs)=>xs.length < sizeLine/\Q .non (gQ C a (.lst (xs++[y])))
  |_=>False
 |_,_=>False
def X5{K}:vy K Zs xY:=fun x J xs ps H C Q R I D h q f=>by
 delta xY at q
 split at q
 .split at q
  .next ys e =>
   obtain⟨vs,g,B⟩:=(h _ _ e);obtain⟨v,rfl,r⟩:=sZ D;cases I;exact⟨_,vs,v,rfl,rfl,g,by exact B.len▸q.1,f _ _ _ _ q.2 .non (h.put g rfl ⟨_,vX,(B.append (.cons r .nil)).gw (jz.mut g rfl _)⟩) (Fw.put e _ _)⟩
  .exact q.elim
 .exact q.elim
end
def wV:PV->Option Key
 |.non=>some (.inl none)
 |.int i=>some (.inl (some i))
 |.str x=>some (.inr x)
 |_=>none
def vY{K}(r:Rep K H v t)(e:wV t=some k):v=kV k:=by
 cases r<;>cases e<;>rfl
def cB(kvs:List (Key×PV))(k:Key):Option PV:=(kvs.find? fun g=>decide (g.1=k)).map (·.2)
def vH(kvs:List (Key×PV))(k:Key)(v:PV):List (Key×PV):=if (kvs.any fun g=>decide (g.1=k))=true then kvs.map fun g=>if g.1=k then (g.1,v) else g else kvs++[(k,v)]
def lF(kvs B:List (Key×PV)):List (Key×PV):=B.foldl (fun q g=>vH q g.1 g.2) kvs
section
variable {K:DD}{H:Hp}{vs:List (Key×V)}{kvs:List (Key×PV)}
def KP.val(r:KP K H vs kvs)k:(∃v t,oK vs k=some v/\cB kvs k=some t/\Rep K H v t)\/(oK vs k=none/\cB kvs k=none):=by
 induction r with
 |nil=>exact .inr ⟨rfl,rfl⟩
 |@cons p q B D h r g =>
  delta oK cB
  rw[List.find?_cons,List.find?_cons,h.1]
  by_cases e:q.1=k
  .grind
  .rwa [Ad e]
def KP.any(r:KP K H vs kvs)k:(vs.any fun g=>decide (g.1=k))=(kvs.any fun g=>decide (g.1=k)):=by
 induction r with
 |nil=>rfl
 |@cons p q D I h r B=>rw[Bn,Bn,h.1,B]
theorem KP.put(r:KP K H vs kvs)k(h:Rep K H v t):KP K H (lU vs k v) (vH kvs k t):=by
 delta lU vH
 rw[r.any k]
 have D:KP K H (vs.map fun g=>if g.1=k then (g.1,v) else g) (kvs.map fun g=>if g.1=k then (g.1,t) else g):=by
  induction r with
  |nil=>exact .nil
  |@cons p q I J h' r B =>
   refine .cons ?_ B
   by_cases e:q.1=k
   .lia
   .lia
 split
 .exact D
 .exact Paired.snoc r ⟨rfl,h⟩
def KP.merge(r:KP K H vs kvs)(m:KP K H ws I):KP K H (rF vs ws) (lF kvs I):=by
 induction m generalizing vs kvs with
 |nil=>exact r
 |@cons p q B D h _ g =>
  show KP K H (rF (lU vs p.1 p.2) B) (lF (vH kvs q.1 q.2) D);rw[h.1];exact g (r.put q.1 h.2)
end
def Rb:Option CO->Option (List (Key×PV))
 |some (.dK kvs)=>some kvs
 |some (.fK kvs)=>some kvs
 |_=>none
def HJ{K}(h:iu K H C)(e:Rb (C a)=some kvs):∃vs,Rd H a (.dK vs)/\KP K H vs kvs:=by
 cases c:C a with
 |none=>rw[c] at e;cases e
 |some o =>
  rw[c] at e
  cases o with
  |lst xs=>cases e
  |dT l=>cases e
  |fT l=>cases e
  |dP l=>cases e
  |dA l=>cases e
  |ins c dx fs=>cases e
  |dK l=>cases e;obtain⟨vs,q,r⟩:=h a _ c;exact⟨vs,.inl q,r⟩
  |fK l=>cases e;exact HD (h a _ c) fun o vs q r=>⟨vs,.inr ⟨o,q⟩,r⟩
section
variable {X:Cx}{a b c e o i f:Expr}{es:List Expr}{pos:Pos}{value:Expr}
@[irreducible] def Ed:qw:=fun x y C Q=>match x with
 |.ref a=>match Rb (C a),wV y with
  |some kvs,some k=>match cB kvs k with
   |some v=>Q v C
   |none=>False
  |_,_=>False
 |_=>False
def Dd{K}{a}(h:iu K H C)(g:Rb (C a)=some kvs)(L:Rep K H y J)(B:wV J=some k):
  (∃v t,Xk H a y (some v)/\cB kvs k=some t/\Rep K H v t)\/(Xk H a y none/\cB kvs k=none):=by
 obtain⟨vs,q,r⟩:=(HJ h g);have D:=vY L B;subst D
 rcases r.val k with ⟨v,t,h1,h2,I⟩ | ⟨h1,h2⟩
 .exact .inl ⟨v,t,.inl ⟨vs,k,q,rfl,h1.symm⟩,h2,I⟩
 .exact .inr ⟨.inl ⟨vs,k,q,rfl,h1.symm⟩,h2⟩
def mJ(Y:X.A.units+1 < cLine)(U:CE X o co)(hi:CE X i N)(hs:NoSl i):CE X (.Subscript o i pos) (ut Ed co N):=⟨JE.weak ⟨pe_dget Y U.h.h hi.h.h hs⟩ fun σ H Q zz=>eX zz fun M C R s h q f=>
 ⟨M,C,_,s,h,q,fun x H1 px C1 Z rx h1 J=>⟨M,C1,_,s.gw (J.gw h),h1,Z,fun y H2 ab C2 B ry h2 L=>by
  delta Ed at B
  split at B
  .next a =>
   split at B
   .next kvs k O S =>
    split at B
    .next t I =>
     have aa:=rx.gw (L.gw h1);cases aa
     rcases Dd h2 O ry S with ⟨v,t',g,D,r⟩ | ⟨_,D⟩
     .rw [I] at D
      cases D;exact⟨a,v,rfl,g,f v H2 t C2 B r h2 (J.trans L)⟩
     .rw [I] at D;cases D
    .exact B.elim
   .exact B.elim
  .exact B.elim⟩⟩⟩
@[irreducible] def gR:PV->PV->PV->CH->(CH->Prop)->Prop:=fun x y v C Q=>match x with
 |.ref a=>match C a,wV y with
  |some (.dK kvs),some k=>kvs.length < sizeLine/\Q (gQ C a (.dK (vH kvs k v)))
  |_,_=>False
 |_=>False
def Oo(co D I:jf):lg:=fun E g C=>I g C fun v C1=>co g C1 fun x C2=>D g C2 fun y q=>gR x y v q fun B=>E.nx g B
def sV{M N}(hu:X.A.units+1 < cLine)(Z:CE X o co)(hi:CE X i M)(hv:CE X value N)(hs:swapsWith value (some (.Subscript o i pos')) pos.line X.env=pure false:=by rfl):
  CS X (.Assign [.Subscript o i pos'] value pos) (Oo co M N):=⟨JS.weak ⟨ps_dput hu Z.h.h hi.h.h hv.h.h hs⟩ fun af σ H zz=>eX zz fun I C E s h aa f=>
 ⟨I,C,_,s,h,aa,fun v H1 ag C1 q1 rv h1 q=>⟨I,C1,_,s.gw (q.gw h),h1,q1,fun x H2 px C2 q2 rx h2 B=>⟨I,C2,_,(s.gw (q.gw h)).gw (B.gw h1),h2,q2,fun y L ah C3 g ry S D=>by
  have ab:=rv.gw ((B.trans D).gw h1)
  delta gR at g
  split at g
  .next a =>
   split at g
   .next kvs k O U =>
    have ae:=rx.gw (D.gw h2);cases ae;refine hV (S a _ O) fun vs J r=>?_;have Y:=vY ry U;subst Y;have m:jz L (upd L a (.dK (lU vs k v))):=jz.mut J rfl _;refine⟨a,_,rfl,DPut.k J ((Paired.length r)▸g.1),f.nx σ _ I _ g.2 ((((s.gw (q.gw h)).gw (B.gw h1)).gw (D.gw h2)).gw m) (S.put J rfl ⟨_,vX,Paired.mapP (r.put k ab) fun _ _ z=>⟨z.1,z.2.gw m⟩⟩) (q.trans (B.trans (D.trans (Fw.put O _ _))))⟩
   .exact g.elim
  .exact g.elim⟩⟩⟩⟩
end
end CL
namespace CL
open PySem PySem.Spec L2 PySem.W
open PyProof.Rows hiding St
def qY(c:Str×Int):PV:=.tup [.str c.1,.int c.2]
section
variable {K:DD}{H:Hp}{X:Cx}
end
section
variable {X:Cx}{pos:Pos}
end
section
variable {X:Cx}{a b c e o i f:Expr}{es:List Expr}{pos:Pos}{value:Expr}
abbrev Pn:Hp->Option Int->Option Int->Prop:=fun _ a b=>a=b
abbrev TCO:=jx->CH->(Option Int->CH->Prop)->Prop
structure Gd(X:Cx)(e:Option Expr)(c:TCO):Prop where
 h:JO X e (vV X.K Pn c)
def JO.weak{e}(h:JO X e t)(w:∀σ H Q,t' σ H Q->t σ H Q):JO X e t':=⟨fun pins s σ H Q I q=>h.h pins s σ H Q I (w σ H Q q)⟩
def DW:TCO:=fun _ C Q=>Q none C
def N7(g:jf):TCO:=fun q C Q=>g q C fun t C1=>match t with
 |.int i=>Q (some i) C1
 |_=>False
def cG:Gd X none DW:=⟨JO.weak ⟨po_none⟩ fun σ H Q g=>eX g fun B C R s h q f=> f none H none C q rfl h Fw.refl⟩
def bW(h:CE X e B):Gd X (some e) (N7 B):=⟨JO.weak ⟨po_some h.h.h⟩ fun σ H Q J=>eX J fun L C R s h q f=> ⟨L,C,_,s,h,q,fun x H1 M C1 g I h1 D=>by
 split at g
 .cases I;exact⟨_,rfl,f _ H1 _ C1 g rfl h1 D⟩
 .exact g.elim⟩⟩
def xF(xs:List PV)(lo hi:Option Int):List PV:=(xs.drop (HT.sIx xs.length 0 lo)).take (HT.sIx xs.length xs.length hi - HT.sIx xs.length 0 lo)
def iw.cut{K}(r:iw K H vs ts)lo hi:iw K H (QV vs lo hi) (xF ts lo hi):=by
 delta QV xF
 exact r.len▸(r.drop _).take _
@[irreducible] def Kc:PV->Option Int->Option Int->CH->K1->Prop:=fun x lo hi C Q=>match x with
 |.ref a=>match C a with
  |some (.lst xs)=>∀p,C p=none->Q (.ref p) (gQ C p (.lst (xF xs lo hi)))
  |_=>False
 |_=>False
def Rf(I:PV->Option Int->Option Int->CH->K1->Prop)(B:jf)(D ch:TCO):jf:=fun g C Q=>B g C fun x C1=>D g C1 fun l C2=>ch g C2 fun u q=>I x l u q Q
def vR{lo}(Y:CE X e M)(Z:Gd X lo N)(hu:Gd X hi ch):CE X (.Subscript e (.Slice lo hi none p2) pos) (Rf Kc M N ch):=⟨JE.weak ⟨zC sl_list Y.h.h Z.h.h hu.h.h⟩ fun σ H Q zz=>eX zz fun J C R s h aa f=>
 ⟨J,C,_,s,h,aa,fun x H1 px C1 q1 rx h1 B=>⟨J,C1,_,s.gw (B.gw h),h1,q1,fun l H2 l' C2 q2 O h2 D=>⟨J,C2,_,(s.gw (B.gw h)).gw (D.gw h1),h2,q2,fun u H3 u' C3 g S I L=>by
  cases O;cases S
  delta Kc at g
  split at g
  .split at g
   .next xs e =>
    refine hV (I _ _ e) fun vs U r=>?_;have ab:=rx.gw ((D.trans L).gw h1);cases ab;exact⟨_,vs,rfl,SqL.of U,fun p q=>f _ _ _ _ (g p (I.fresh q)) (.ref p) (I.lay q ⟨_,vX,(r.cut l u).gw (jz.new q _)⟩) (B.trans (D.trans (L.trans (Fw.lay q _ _))))⟩
   .exact g.elim
  .exact g.elim⟩⟩⟩⟩
def rA{i:Nat}{y x:Str}{Y L pos Z:Pos}{M J:Expr}{N:List Expr}{I:Scope}{wi:TI}{O:jx->CH->(List PV->CH->Prop)->Prop}{t:qb}{c:jf}(ab:X.N.Nodup)(hi:X.N[i]?=some y)(hy:Loc X.env.scope y)(hc:X.calm=true)(hN:(x::X.N).Nodup)(K:∃g,xD X x I g)(U:CI X (.Name x L) J wi O)(ht:∀g B C D q,CF (nV X x I g B C D q) N t)(ae:∀g B C D q,CE (nV X x I g B C D q) M c)(hs:∀v,foldedSetIterable J X.env v=pure v:=by intro _;rfl)(ag:swapsWith (.ListComp M [⟨.Name x L,J,N,0⟩] I pos) (some (.Name y Y)) Z.line X.env=pure true:=by rfl)(af:X.fn y=true\/X.env.scope.names.lookup y=some .local:=by first | exact .inl rfl | exact .inr rfl | assumption):
  CS X (.Assign [.Name y Y] (.ListComp M [⟨.Name x L,J,N,0⟩] I pos) Z) (Wz i (Ja O t c)):=by
 obtain⟨g,K⟩:=K;refine⟨JS.weak (yp (te:=vV X.K (Rep X.K) c) (tc:=vV X.K uE t) ab hi hy hc hN K U.j (fun B C D q=>(ht g B C D q).h) (fun B C D q=>(ae g B C D q).h) hs ag af) fun aa σ H zz=>eX zz fun ρ C E s h ah f=> ?_⟩;exact qO (Q:=fun x H'=>aa.nx (σ.set i (some x)) H') U ⟨ρ,C,_,s,h,ah,fun x H1 L C1 q1 rx h1 S=>f.nx _ H1 _ C1 q1 ((s.gw (S.gw h)).set rx i) h1 S⟩
def nY(S:CH->Prop)(t:qb)(c:jf)(q:jx)(Q:K1):List PV->List PV->CH->Prop
 |[],g,C=>S C/\∀p,C p=none->Q (.ref p) (gQ C p (.lst g))
 |x::r,g,C=>S C/\t (some x::q) C fun b C1=>if b=true then c (some x::q) C1 fun y C2=>g.length < sizeLine/\nY S t c q Q r (g++[y]) C2 else nY S t c q Q r g C1
structure Sd(K:DD)(S:CH->Prop)(J:It)(ps:List PV):Prop where
 go:∀i H' C',i < ps.length->iu K H' C'->S C'->J.go i H'
 yl:∀i H' C' x H'',iu K H' C'->S C'->J.yld i H' x H''->H''=H'/\∀t,ps[i]?=some t->Rep K H' x t
 st:∀H' C',iu K H' C'->S C'->J.stop ps.length H'
def HW{K}{c}{Q:VK}(j:Sd K S aa ps)(s:jn K H σ ρ)(h:iu K H C)(ah:nY S t c ρ R ps [] C)(h0:iu K H0 C0)(ag:Fw H0 C0 H C)(f:∀v H' p C',R p C'->Rep K H' v p->iu K H' C'->Fw H0 C0 H' C'->Q v H')(B:H D=none):
  ∃W:Nat->Nat->List V->Hp->Prop,(∃m,W 0 m [] (upd H D (.lst [])))/\∀i m ys H,W i m ys H ->
   (aa.stop i H/\Q (.ref D) H)\/(aa.go i H/\∀x H',aa.yld i H x H'->vV K uE t (some x::σ) H' fun b H2=>
    if b=true then vV K (Rep K) c (some x::σ) H2 fun y H3=>H3 D=some (.lst ys)/\ys.length < sizeLine/\∃J,J < m/\W (i+1) J (ys++[y]) (upd H3 D (.lst (ys++[y])))
    else ∃J,J < m/\W (i+1) J ys H2):=by
 refine⟨fun i m ys H'=>m=ps.length - i/\i<=ps.length/\∃q C',H' D=some (.lst ys)/\C' D=none/\iw K H' ys q/\iu K H' C'/\Fw H C H' C'/\nY S t c ρ R (ps.drop i) q C',
  ⟨ps.length,rfl,AM _,[],C,vX,h.fresh B,.nil,h.new B _,Fw.new B _,ah⟩,?_⟩
 rintro i m ys H1 ⟨rfl,hi,q,C1,e1,n1,Y,h1,L,g⟩;have k1:=L.gw h
 have q0:S C1:=by
  cases z:ps.drop i with
  |nil=>rw[z] at g;exact g.1
  |cons x r=>rw[z] at g;exact g.1
 by_cases I:i < ps.length
 .refine .inr ⟨j.go i H1 C1 I h1 q0,fun x H2 y=>?_⟩
  obtain⟨rfl,y⟩:=j.yl i H1 C1 x H2 h1 q0 y;have rx:=y _ (AL I);rw[A6 I] at g
  replace g:=g.2
  refine⟨some ps[i]::ρ,C1,_,.cons rx (s.gw k1),h1,g,fun b H3 b' C3 q3 e h3 M=>?_⟩;cases e;obtain⟨O,e3⟩:=M D (by rw[n1];rfl) (by lia);rw[e1] at e3;rw[n1] at O;have N:=M.gw h1
  cases b with
  |true =>
   refine⟨some ps[i]::ρ,C3,_,.cons (rx.gw N) ((s.gw k1).gw N),h3,q3,fun v H4 p C4 q4 r4 h4 ab=>X0 (ab D (by rw[O];rfl) (by lia)) fun n4 e4=>?_⟩;rw[e3] at e4;rw[O] at n4;have m4:jz H4 (upd H4 D (.lst (ys++[v]))):=jz.mut e4 rfl _;refine⟨e4,by rw[Y.len];exact q4.1,ps.length - (i+1),by lia,rfl,I,q++[p],C4,vX,n4,?_,?_,?_,q4.2⟩
   .exact (((Y.gw N).gw (ab.gw h3)).append (.cons r4 .nil)).gw m4
   .intro a o ca
    have ae:a≠D:=fun z=>by subst z;rw[n4] at ca;cases ca
    exact(h4 a o ca).gw m4 (cX ae)
   .intro a ca U
    have ae:a≠D:=fun z=>U (z▸B);exact X0 ((L.trans (M.trans ab)) a ca U) fun Z x2=>⟨Z,(cX ae).trans x2⟩
  |false =>
   exact⟨ps.length - (i+1),by lia,rfl,I,q,C3,e3,O,Y.gw N,h3,L.trans M,q3⟩
 .have e:i=ps.length:=by lia
  subst e;rw[CZ] at g
  replace g:=g.2
  refine .inl ⟨j.st H1 C1 h1 q0,f (.ref D) H1 (.ref D) _ (g D n1) (.ref D) ?_ ?_⟩
  .intro a o ca
   by_cases z:a=D
   .subst z;rw[zQ] at ca;cases ca;exact⟨ys,e1,Y⟩
   .rw [vQ z] at ca;exact h1 a o ca
  .intro a ca U
   obtain⟨Z,x2⟩:=ag a ca U;have af:H a≠none:=by rwa [x2]
   obtain⟨y1,y2⟩:=L a (by rwa [Z]) af;exact⟨(vQ (show a≠D from fun z=>af (z▸B))).trans (y1.trans Z),y2.trans x2⟩
def Hm{K}{a}: Sd K (fun C=>C a=some (.lst xs)) (Itl K a) xs where
 go:=fun i H' C' l h s=>by
  refine hV (h a _ s) fun vs e r=>hV (r.get (AL l)) fun v g _=>?_;exact⟨vs,v,SqL.of e,g⟩
 yl:=fun i H' C' x D h s y=>⟨y.1,fun t q=>by
  refine hV (h a _ s) fun vs e r=>hV (r.get q) fun v g B=>?_;have:=y.2 vs (SqL.of e)
  rw[g] at this;cases this;exact B⟩
 st:=fun H' C' h s=>hV (h a _ s) fun vs e r=>⟨vs,SqL.of e,by exact r.len▸AO _⟩
@[irreducible] def sY(q:jf)(t:qb)(c:jf):jf:=fun g C Q=>q g C fun x C1=>match x with
 |.ref a=>match C1 a with
  |some (.lst xs)=>nY (fun C=>C a=some (.lst xs)) t c g Q xs [] C1
  |_=>False
 |_=>False
def hW{O M:Expr}{x:Str}{Y:Pos}{U:List Expr}{L:Scope}{N:jf}{t:qb}{c:jf}(hc:X.calm=true)(hN:(x::X.N).Nodup)(K:∃g,xD X x L g)(hi:CE X M N)(ht:∀g D C I B,CF (nV X x L g D C I B) U t)(aa:∀g D C I B,CE (nV X x L g D C I B) O c)(hs:∀v,foldedSetIterable M X.env v=pure v:=by intro _;rfl):CE X (.ListComp O [⟨.Name x Y,M,U,0⟩] L pos) (sY N t c) :=
 ⟨JE.weak (Qw (te:=vV X.K (Rep X.K) c) (tc:=vV X.K uE t) hc hN K ⟨Zt hi.h.h⟩ (fun g D C I B=>(ht g D C I B).h) (fun g D C I B=>(aa g D C I B).h) hs) fun σ H Q zz=>eX zz fun ρ C R s h q f=> by
  unfold sY at q
  exact⟨ρ,C,_,s,h,q,fun xv H1 Y C1 J rx h1 S=>by
   split at J
   .next a =>
    split at J
    .next xs e =>
     obtain⟨vs,Z,r⟩:=h1 a _ e;cases rx;exact⟨a,rfl,⟨vs,SqL.of Z⟩,fun ab hD=>HW (Q:=Q) Hm (s.gw (S.gw h)) h1 J h S f hD⟩
    .exact J.elim
   .exact J.elim⟩⟩
end
section
variable {C:CH}{a p:Addr}{xs ys:List PV}{i:Int}{v:PV}{Q:K1}
def vZ(h:C a=some (.lst xs))(e:atI xs i=some v)(q:Q v C):vg (.ref a) (.int i) C Q:=by
 delta vg
 show(match C a with | some (.lst xs)=>uo xs i C Q | _=>False);rw[h];show uo xs i C Q
 delta uo
 rwa [e]
def Nf(e:atI xs i=some v)(q:Q v C):vg (.fz xs) (.int i) C Q:=by
 delta vg
 show uo xs i C Q
 delta uo
 rwa [e]
theorem bQ(e:atI xs i=some v)(q:Q v C):vg (.tup xs) (.int i) C Q:=by
 delta vg
 show uo xs i C Q
 delta uo
 rwa [e]
def KN{Q}(h:C p=some (.lst xs))(e:ixN xs.length k=some j)(q:Q (gQ C p (.lst (xs.set j v)))):Z5 (.ref p) (.int k) v C Q:=by
 delta Z5
 dsimp only;rw[h];dsimp only
 rwa [e]
def eK(h:C a=some (.lst xs))(q:Q (.int xs.length) C):bR [.ref a] C Q:=by
 delta bR
 show(match C a with | some (.lst xs)=>Q (.int xs.length) C | some (.dK kvs)=>Q (.int kvs.length) C | _=>False)
 rwa [h]
def VE(q:Q (.int xs.length) C):bR [.fz xs] C Q:=by
 delta bR
 exact q
theorem nZ(q:Q (.int xs.length) C):bR [.tup xs] C Q:=by
 delta bR
 exact q
def nK(h:C a=some (.lst xs))(z:xs.length < sizeLine)(q:Q .non (gQ C a (.lst (xs++[v])))):xY (.ref a) [v] C Q :=by simp_all[xY]
def qZ(h:C a=some (.lst xs)):Ni (.ref a) C:=by
 show(match C a with | some (.lst _)=>True | _=>False);rw[h]
 trivial
end
def jo(q:Q (g i j) C):cI g (.int i) (.int j) C Q:=by
 delta cI
 exact q
def cV(q:Q (.int (i+j)) C):qP (.int i) (.int j) C Q:=by
 delta qP
 exact q
def jd(h:xs.length+ys.length<=sizeLine)(q:Q (.tup (xs++ys)) C):qP (.tup xs) (.tup ys) C Q:=by
 delta qP
 exact⟨h,q⟩
def Ho{q:Prop}(h1:b=true->p)(h2:b=false->q):if b=true then p else q :=by grind
def XQ{q:Prop}(e:b=true)(h:p):if b=true then p else q:=by rwa [Al e]
def xG{q:Prop}(e:b=false)(h:q):if b=true then p else q :=by grind
theorem tX{p q:CH->Prop}(e:b=true)(h:p C):xC (fun b C1=>if b=true then p C1 else q C1) (.bl b) C:=by cases e;exact h
theorem cQ{p q:CH->Prop}(e:b=false)(h:q C):xC (fun b C1=>if b=true then p C1 else q C1) (.bl b) C:=by cases e;exact h
def lJ{p q:CH->Prop}(h1:b=true->p C)(h2:b=false->q C):xC (fun b C1=>if b=true then p C1 else q C1) (.bl b) C:=by
 cases b with
 |true=>exact h1 rfl
 |false=>exact h2 rfl
def wZ{p q:CH->Prop}(h:q C):xC (fun b C1=>if (!b)=true then p C1 else q C1) (.bl true) C :=h
theorem fQ(e:sEq x y=some b)(q:Q (.bl (k b)) C):La k x y C Q :=by simp_all[La]
def yQ x y:sEq (.str x) (.str y)=some (decide (x=y)):=rfl
theorem zX x y:sEq (.int x) (.int y)=some (decide (x=y)):=rfl
def mO(h:t (some x::g) C fun b C1=>if b=true then c (some x::g) C1 fun y C2=>q.length < sizeLine/\jK t c g Q r (q++[y]) C2 else jK t c g Q r q C1):jK t c g Q (x::r) q C:=h
def QZ(h:∀p,C p=none->Q (.ref p) (gQ C p (.lst g))):jK t c q Q [] g C:=h
def iX(g:wD n=some T)(B:tyP C x=some k)(q:Q (.bl (fJ k T)) C):WD [x,.ty n] C Q:=by
 delta WD
 show(match wD n,tyP C x with | some T,some k=>Q (.bl (fJ k T)) C | _,_=>False)
 rwa [g,B]
theorem rR(h1:C a=some (.lst xs))(h2:C b=some (.lst ys))(z:xs.length+ys.length<=sizeLine)(q:∀p,C p=none->Q (.ref p) (gQ C p (.lst (xs++ys)))):qP (.ref a) (.ref b) C Q:=by
 delta qP
 show(match C a,C b with | some (.lst xs),some (.lst ys)=>xs.length+ys.length<=sizeLine/\∀p,C p=none->Q (.ref p) (gQ C p (.lst (xs++ys))) | _,_=>False);exact h1▸h2▸⟨z,q⟩
def xU(m:C p=some (.lst xs))(q:Q (.tup xs) C):jB [.ref p] C Q:=by
 delta jB
 show(match C p with | some (.lst xs)=>Q (.tup xs) C | _=>False)
 rwa [m]
def Gr(C C':CH):Prop:=∀b o,C b=some o->C' b=some o
def Gr.refl: Gr C C:=fun _ _ h=>h
theorem Gr.trans(h:Gr C C1)(h':Gr C1 C2):Gr C C2:=fun b o e=>h' b o (h b o e)
theorem Gr.new(g:C p=none)o:Gr C (gQ C p o):=fun b u e=>by
 rw[vQ (fun z=>by subst z;rw[g] at e;cases e)];exact e
def lQ(h:E.nx g C):FN E g C:=h
def mX(h:q g C fun v C1=>u E (g.set i (some v)) C1):WA (Wz i q) u E g C:=h
def aJ(h:t (E.wn (u E)) g C):WA t u E g C:=h
def R7(h:Q v C):cC v g C Q:=h
def lX(P:jx->CH->Prop)(h1:∀K:jx->CH->Prop,(∀g C',P g C'->K g C')->t (E.wn K) q C)(h2:∀g C',P g C'->u E g C'):WA t u E q C:=h1 _ h2
section
variable {X:Cx}{o e value i f:Expr}{es:List Expr}{pos pos':Pos}
def cT(f:Str)(v:PV):List (Str×PV)->List (Str×PV)
 |[]=>[(f,v)]
 | (g,x)::r=>if g=f then (g,v)::r else (g,x)::cT f v r
theorem FP.put{K}{f}(h:Rep K H v t):∀{B}{fs},FP K H B fs->FP K H (sG f v B) (cT f t fs):=by
 intro B fs r
 induction r with
 |nil=>exact .cons ⟨rfl,h⟩ .nil
 |@cons p q I J h' r D =>
  obtain⟨g,x⟩:=p;obtain⟨g',y⟩:=q;obtain⟨rfl,h2⟩:=h';unfold sG cT
  by_cases e:g=f
  .rw [Al e,Al e];exact .cons ⟨rfl,h⟩ r
  .rw [Am e,Am e];exact .cons ⟨rfl,h2⟩ D
def FP.look{K}{f}:∀{B}{fs:List (Str×PV)},FP K H B fs->(∃v t,B.lookup f=some v/\fs.lookup f=some t/\Rep K H v t)\/(B.lookup f=none/\fs.lookup f=none):=by
 intro B fs r
 induction r with
 |nil=>exact .inr ⟨rfl,rfl⟩
 |@cons p q I J h' r D =>
  obtain⟨g,x⟩:=p;obtain⟨g',y⟩:=q;obtain⟨rfl,h2⟩:=h';unfold List.lookup
  cases e:(f==g) with
  |true=>exact .inl ⟨x,y,rfl,rfl,h2⟩
  |false=>exact D
@[irreducible] def WG(c:Addr)(f:Str):PV->CH->K1->Prop:=fun x C Q=>match x with
 |.ref p=>match C p with
  |some (.ins g _ fs)=>g=c/\match fs.lookup f with
   |some v=>Q v C
   |none=>False
  |_=>False
 |_=>False
def zJ{f}(Y:Cls X.K c)(Z:NoAttr X.K c f)(ho:CE X o co)(U:attributeBase o f X.env (eval o X.env)=eval o X.env:=by rfl):CE X (.Attribute o f pos) (fun B C Q=>co B C fun x C1=>WG c f x C1 Q) :=
 ⟨JE.weak ⟨pe_fld ho.h.h U⟩ fun σ H Q zz=>eX zz fun B C R s h aa N=> ⟨B,C,_,s,h,aa,fun x H1 px C1 g rx h1 O=>by
  delta WG at g
  split at g
  .next p =>
   split at g
   .next J dx fs L =>
    obtain⟨rfl,g⟩:=g
    split at g
    .next t D =>
     refine hV (h1 p _ L) fun S M r=>?_;cases rx
     rcases FP.look r with ⟨v,t',I,q,rv⟩ | ⟨I,q⟩
     .rw [D] at q
      cases q;exact⟨p,J,dx,S,v,rfl,M,Y,Z,I,N v H1 t C1 g rv h1 O⟩
     .rw [D] at q;cases q
    .exact g.elim
   .exact g.elim
  .exact g.elim⟩⟩
@[irreducible] def Z7(c:Addr)(f:Str):PV->PV->CH->(CH->Prop)->Prop:=fun x v C Q=>match x with
 |.ref p=>match C p with
  |some (.ins g dx fs)=>g=c/\fs.length < 1000/\Q (gQ C p (.ins g dx (cT f v fs)))
  |_=>False
 |_=>False
def gM{f}{L}(U:Cls X.K c)(Y:NoAttr X.K c f)(Z:CE X o co)(hv:CE X value L)(hs:swapsWith value (some (.Attribute o f pos')) pos.line X.env=pure false:=by rfl):
  CS X (.Assign [.Attribute o f pos'] value pos) (fun E q C=>L q C fun v C1=>co q C1 fun x C2=>Z7 c f x v C2 fun O=>E.nx q O):=⟨JS.weak ⟨ps_fld Z.h.h hv.h.h hs⟩ fun ae σ H zz=>eX zz fun q C E s h aa S=>
 ⟨q,C,_,s,h,aa,fun v H1 af C1 q1 rv h1 D=>⟨q,C1,_,s.gw (D.gw h),h1,q1,fun x H2 px C2 g rx h2 I=>by
  have ab:=rv.gw (I.gw h1)
  delta Z7 at g
  split at g
  .next p =>
   split at g
   .next J dx fs M =>
    obtain⟨rfl,ql,g⟩:=g;refine hV (h2 p _ M) fun N B r=>?_;cases rx;have m:jz H2 (upd H2 p (.ins J dx (sG f v N))):=jz.mut B rfl _;exact⟨p,J,dx,N,rfl,B,U,Y,by exact(Paired.length r)▸ql,S.nx σ _ q _ g (((s.gw (D.gw h)).gw (I.gw h1)).gw m) (h2.put B rfl ⟨_,vX,Paired.mapP (FP.put ab r) fun _ _ z=>⟨z.1,z.2.gw m⟩⟩) (D.trans (I.trans (Fw.put M _ _)))⟩
   .exact g.elim
  .exact g.elim⟩⟩⟩
def xO(c:Addr)(m:Str)(x:PV)(C:CH):Prop:=match x with
 |.ref p=>match C p with
  |some (.ins g _ fs)=>g=c/\fs.lookup m=none
  |_=>False
 |_=>False
def Qz{K}(d:xO c m t C)(r:Rep K H x t)(h:iu K H C):∃a dx g,x=.ref a/\t=.ref a/\H a=some (.ins c dx g)/\g.lookup m=none:=by
 delta xO at d
 split at d
 .split at d
  .next e =>
   obtain⟨rfl,d⟩:=d;obtain⟨g,D,I⟩:=(h _ _ e);cases r;refine⟨_,_,g,rfl,rfl,D,?_⟩
   rcases FP.look I with ⟨v,t',q,B,_⟩ | ⟨q,B⟩
   .rw [B] at d;cases d
   .exact q
  .exact d.elim
 .exact d.elim
def FQ(c:Addr)(m:Str)(G:GC)(co:jf)(ca:uh):jf:=fun g C Q=>co g C fun x C1=>xO c m x C1/\ca g C1 fun xs C2=>G (x::xs) C2 Q
def Ds{apos}{pl}(S:Cls X.K c)(U:WY X.K c m fa)(F:FnOk X.prog X.w X.K X.mg X.base CX k fa fd ps (q9 X.K G))(aa:Room k X.A)(O:Binds X.K fd ps [])(hx:jW CX X E)(Y:CE X o co)(N:CA X (e::es) ca)(ab:starEach (e::es) X.env=(false,eval e X.env)::starEach es X.env:=by rfl)(Z:(backTo pos (starEach es X.env)).any (·.1)=false:=by rfl)(ht:eval (.Call (.Attribute o m apos) (e::es) [] pos) X.env=(do
   let q <- eval o X.env
   standAt apos.atName
   let (f,first) <- holding [q] (getMethod q m pl)
   callWith pos f first (backTo pos (starEach (e::es) X.env)) (backToKw pos (keywordEach [] X.env))):=by rfl):
  CE X (.Call (.Attribute o m apos) (e::es) [] pos) (FQ c m G co ca) :=
 ⟨JE.weak ⟨pe_meth Y.h.h S U F aa O .nil hx N.h.h ab Z ht⟩ fun σ H Q zz=>eX zz fun D C R s h af f=> ⟨D,C,_,s,h,af,fun x H1 px C1 B rx h1 g=>by
  obtain⟨a,dx,M,rfl,rfl,I,ae⟩:=Qz B.1 rx h1
  exact⟨a,dx,M,rfl,I,ae,D,C1,_,s.gw (g.gw h),h1,B.2,fun xs H2 ts C2 q2 ag h2 L=>⟨.ref a::ts,C2,R,.cons (.ref a) (by grind),h2,q2,fun v H' t C' q' r' h' J=>f v H' t C' q' r' h' (g.trans (L.trans J))⟩⟩⟩⟩
def Oc(c:Addr)(G:GC)(ca:uh):jf:=fun g C Q=>ca g C fun xs C1=>∀x dx,C1 x=none->C1 dx=none->dx≠x->G (.ref x::xs) (gQ C1 x (.ins c dx [])) fun v C2=>v=.non/\Q (.ref x) C2
def Dt{p}(M:Mk X.K c fa)(F:FnOk X.prog X.w X.K X.mg X.base CX k fa fd ps (q9 X.K G))(Y:Room (k+1) X.A)(O:Gl X x)(S:X.mg x=some (.ref c))(L:Binds X.K fd ps [])(hx:jW CX X E)(J:CA X (e::es) ca)(N:(x==("__debug__" : Str))=false:=by decide)(Z:starEach (e::es) X.env=(false,eval e X.env)::starEach es X.env:=by rfl)(U:(backTo pos (starEach es X.env)).any (·.1)=false:=by rfl):CE X (.Call (.Name x p) (e::es) [] pos) (Oc c G ca) :=
 ⟨JE.weak ⟨pe_make M F Y O S L .nil hx J.h.h N Z U⟩ fun σ H Q zz=>eX zz fun ρ C R s h aa f=> ⟨ρ,C,_,s,h,aa,fun xs H1 ts C1 q1 ab h1 I=>fun y dx hy g nd=>by
  have q:upd H1 dx (.own y) y=none:=by rwa [cX (Ne.symm nd)]
  have k2:jz (upd H1 dx (.own y)) (upd (upd H1 dx (.own y)) y (.ins c dx [])):=jz.new q _;refine⟨.ref y::ts,gQ C1 y (.ins c dx []),_,.cons (.ref y) (by rw[AH];exact(ab.gw (jz.new g _)).gw k2),(h1.new g (.own y)).lay q ⟨[],vX,.nil⟩,q1 y dx (h1.fresh hy) (h1.fresh g) nd,fun v H' t C' B r' h' D=>?_⟩;obtain⟨rfl,B⟩:=B;cases r'
  exact⟨rfl,f _ H' _ C' B (.ref y) h' (I.trans (((Fw.new g _).trans (Fw.lay q _ _)).trans D))⟩⟩⟩
end
end CL
namespace L2
open PySem PySem.Spec PyProof.Rows PySem.W
section
variable {X:Cx}
def WJ{bs:List Bool}{its:List Value}(r:Vals (bs.map V.bl) its):its=bs.map Value.bool:=by
 induction bs generalizing its with
 |nil=>cases r;rfl
 |cons b bs g =>
  rw[Ak] at r
  cases r with
  |cons a t =>
   cases (show _=Value.bool b from a);rw[g t]
   rfl
def Zp:V->List V->Hp->VK->Prop:=fun x vs H Q=>∃(l:Addr)(bs:List Bool)(j:Nat),x=.ref l/\vs=[.bl true]/\H l=some (.lst (bs.map V.bl))/\bs[j]?=some true/\(∀m,m < j->bs[m]?=some false)/\Q (.int j) H
def Jx:MtM X "list.index" Zp:=by
 intro pins s σ H x vs v us Q I Y U h;obtain⟨l,bs,j,rfl,rfl,L,hj,O,q⟩:=h;cases Y;obtain⟨u,rfl,S⟩:=U.one;cases (show u=Value.bool true from S);obtain⟨z,its,n,r,hl,e⟩:=I.lstM L;have J:=WJ r;subst J
 have B:j < bs.length:=by
  rcases Nat.lt_or_ge j bs.length with h | h
  .exact h
  .rw [List.getElem?_eq_none h] at hj;cases hj
 have hz:=sU;have Z:bs.length<=sizeLine:=by rw[AB] at z;exact z
 have ab:∀v:Value,Bool:=fun v=>match v with
  |.bool b=>b
  |_=>false
 refine BU F.slot_list_index ⟨_,e,rfl⟩ F.entry_list_index (F.args_list_index_2 _ _)
  (SeqAt.list_indexAt l (bs.map Value.bool).toArray n none #[] (.bool true) (fun v=>v==.bool true) j (by simpa using B) (by omega) ?_ ?_) ⟨e,fun y g=>?_,⟨.int j,H,I.tok _,⟨_,rfl⟩,q⟩⟩
 .have:bs[j]=true:=by rw[AL B] at hj;exact An hj
  simp[this]
 .intro m aa M
  have N:m < bs.length:=by omega
  have:bs[m]=false:=by have:=O m M;rw[AL N] at this;exact An this
  simp[this]
 .have g:y∈bs.map Value.bool:=by simpa using g
  obtain⟨b,_,rfl⟩:=AS.mp g;have:=DB (A:=X.A.in1) (s:=s) b true;have D:(Value.bool b==Value.bool true)=(b==true):=by cases b<;>rfl
  rw[D];exact this
end
end L2
namespace CL
open PySem PySem.Spec L2 PySem.W
open PyProof.Rows hiding St
def sF:List PV->Option (List Key)
 |[]=>some []
 |t::r=>match wV t,sF r with
  |some k,some ks=>some (k::ks)
  |_,_=>none
def uL:PV->Option (List Key)
 |.tup ts=>sF ts
 |_=>none
def XN{K}(r:iw K H vs ts)(e:sF ts=some ks):vs=ks.map kV:=by
 induction ts generalizing vs ks with
 |nil=>cases r;cases e;rfl
 |cons t ts B =>
  cases r with
  |cons h r =>
   unfold sF at e
   split at e
   .next k D g q=>cases e;rw[vY h g,B r q];rfl
   .cases e
def oI{K}(r:Rep K H v t)(e:uL t=some ks):∃b,v=.ref b/\H b=some (.tup (ks.map kV)):=by
 cases r<;>try (cases e)
 next a vs ts h r=>exact⟨a,rfl,by rw[h,XN r e]⟩
section
variable {κ:Type}[DecidableEq κ]
end
section
variable {X:Cx}{a b c e o i f value:Expr}{es:List Expr}{pos pos':Pos}
@[irreducible] def DX:GC:=fun ts C Q=>match ts with
 |[.int i,.int j]=>Q (.int (if j > i then j else i)) C
 |_=>False
def Dz{K}:uw K (fun xs H Q=>∃i j,xs=[.int i,.int j]/\Q (.int (if j > i then j else i)) H) DX:=fun xs ts H C Q R D h q f=>by
 delta DX at q
 split at q
 .obtain ⟨I,J,rfl,g,B⟩:=Zo D
  cases g;cases B
  exact⟨_,_,rfl,f _ H _ C q (.int _) h Fw.refl⟩
 .exact q.elim
@[irreducible] def sH:PV->List PV->CH->K1->Prop:=fun x ts C Q=>match x,ts with
 |.ref a,[.bl true]=>match C a with
  |some (.lst xs)=>∃(bs:List Bool)(j:Nat),xs=bs.map PV.bl/\bs[j]?=some true/\(∀m,m < j->bs[m]?=some false)/\Q (.int (j:Nat)) C
  |_=>False
 |_,_=>False
theorem fR{K:DD}{H:Hp}:∀{bs:List Bool}{vs:List V},iw K H vs (bs.map PV.bl)->vs=bs.map V.bl
 |[],_,r=>by cases r;rfl
 |b::bs,_,r=>by
  cases r with
  |cons h r=>cases h;rw[fR r];rfl
def X3{K:DD}:vy K Zp sH:=fun x L xs ts H C Q R J D h q f=>by
 unfold sH at q
 split at q
 .split at q
  .next ys g =>
   obtain⟨bs,j,rfl,h1,h2,q⟩:=q;obtain⟨v,rfl,r⟩:=sZ D;obtain⟨vs,B,I⟩:=h _ _ g;cases J;cases r;exact⟨_,bs,j,rfl,rfl,by rw[B,fR I],h1,h2,f _ H _ C q (.int _) h Fw.refl⟩
  .exact q.elim
 .exact q.elim
@[irreducible] def Ec(k:Bool->Bool):qw:=fun x y C Q=>match uL x,uL y with
 |some ks,some js=>Q (.bl (k (decide (ks=js)))) C
 |_,_=>False
def Dk{K:DD}:km K (fun x y H Q=>∃(a b:Addr)(ks js:List Key),x=.ref a/\y=.ref b/\H a=some (.tup (ks.map kV))/\H b=some (.tup (js.map kV))/\Q (.bl (decide (ks=js))) H) (Ec id):=fun x y M N H C Q R J L h q f=>by
 unfold Ec at q
 split at q
 .next ks js g B =>
  obtain⟨a,rfl,D⟩:=oI J g;obtain⟨b,rfl,I⟩:=oI L B;exact⟨a,b,ks,js,rfl,rfl,D,I,f _ H _ C q (.bl _) h Fw.refl⟩
 .exact q.elim
def uO:PV->Option V
 |.non=>some .non
 |.bl b=>some (.bl b)
 |.int i=>some (.int i)
 |.str x=>some (.str x)
 |_=>none
def yO{K}(r:Rep K H v t)(e:uO t=some w):v=w/\bF w=true:=by
 cases r<;>cases e<;>exact⟨rfl,rfl⟩
def eU:List PV->Option (List V)
 |[]=>some []
 |t::r=>match uO t,eU r with
  |some v,some vs=>some (v::vs)
  |_,_=>none
def XW{K}(r:iw K H vs ts)(e:eU ts=some ws):vs=ws/\ws.all bF=true:=by
 induction ts generalizing vs ws with
 |nil=>cases r;cases e;exact⟨rfl,rfl⟩
 |cons t ts I =>
  cases r with
  |cons h r =>
   unfold eU at e
   split at e
   .next v us g q =>
    cases e;obtain⟨rfl,B⟩:=yO h g;obtain⟨rfl,D⟩:=I r q;exact⟨rfl,by rw[Cn,B,D];rfl⟩
   .cases e
def Xs(C:CH):PV->Option (List PV)
 |.tup xs=>some xs
 |.kt xs=>some xs
 |.ref a=>match C a with
  |some (.lst xs)=>some xs
  |_=>none
 |_=>none
@[irreducible] def Q8(g:Bool):qw:=fun x y C Q=>match Xs C y,uO x with
 |some ts,some v=>match eU ts with
  |some vs=>Q (.bl (if g then !inV v vs else inV v vs)) C
  |none=>False
 |_,_=>False
def jY{K}: km K (rIn K N) (Q8 N):=fun x y Z aa H C Q R U Y h q f=>by
 delta Q8 at q
 split at q
 .next ts v g B =>
  split at q
  .next vs D =>
   obtain⟨rfl,J⟩:=yO U B
   have M:∃p ws,y=.ref p/\(SqL K H p ws\/SqT K H p ws)/\iw K H ws ts:=by
    cases Y<;>try (cases g)
    .next a =>
     delta Xs at g
     dsimp only at g
     split at g
     .next xs e =>
      cases g;exact hV (h _ _ e) fun us I S=>⟨a,us,rfl,.inl (SqL.of I),S⟩
     .cases g
    .next p us L r=>exact⟨p,us,rfl,.inr (SqT.of L),r⟩
    .grind
   obtain⟨p,ws,rfl,hs,O⟩:=M;obtain⟨rfl,fs⟩:=XW O D;exact⟨p,ws,rfl,hs,J,fs,f _ H _ C q (.bl _) h Fw.refl⟩
  .exact q.elim
 .exact q.elim
end
section
variable {K:DD}{H:Hp}{X:Cx}
end
def X7:List (jf×jf)->jx->CH->(List (PV×PV)->CH->Prop)->Prop
 |[],_,C,Q=>Q [] C
 | (B,D)::r,g,C,Q=>B g C fun x C1=>D g C1 fun y C2=>X7 r g C2 fun ps q=>Q ((x,y)::ps) q
abbrev R9(K:DD)(H:Hp):List (V×V)->List (PV×PV)->Prop:=Paired fun p q=>Rep K H p.1 q.1/\Rep K H p.2 q.2
def Ff(K:DD)(cs:List (jf×jf)):List (TE×TE):=cs.map fun p=>(vV K (Rep K) p.1,vV K (Rep K) p.2)
structure Ph(X:Cx)(pos:Pos)(keys:List (Option Expr))(values:List Expr)(cs:List (jf×jf)):Prop where
 h:PPs X pos keys values (Ff X.K cs)
def Di: Ph X pos [] [] []:=⟨pps_nil⟩
def mU{g}(B:CE X k q)(I:CE X v g)(D:Ph X pos ks vs cs):Ph X pos (some k::ks) (v::vs) ((q,g)::cs):=⟨K6 B.h.h I.h.h D.h⟩
def XJ{K}: ∀{cs}{H}{C}{R}{Q},jn K H σ I->iu K H C->X7 cs I C R ->
  (∀vs H' ts C',R ts C'->R9 K H' vs ts->iu K H' C'->Fw H C H' C'->Q vs H')->zE (Ff K cs) σ H Q:=by
 intro cs
 induction cs with
 |nil=>intro H C R Q s h q f;exact f [] H [] C q .nil h Fw.refl
 |cons p cs N =>
  obtain⟨ck,aa⟩:=p;intro H C R Q s h q f;exact⟨I,C,_,s,h,q,fun x H1 px C1 O Z h1 g=>⟨I,C1,_,s.gw (g.gw h),h1,O,fun y H2 ab C2 S ry h2 B=>N ((s.gw (g.gw h)).gw (B.gw h1)) h2 S fun vs L ts J U Y M D=>f _ L _ J U (.cons ⟨(Z.gw (B.gw h1)).gw (D.gw h2),ry.gw (D.gw h2)⟩ Y) M (g.trans (B.trans D))⟩⟩
def Lr:List (PV×PV)->Option (List (Key×PV))
 |[]=>some []
 | (x,y)::r=>match wV x,Lr r with
  |some k,some ps=>some ((k,y)::ps)
  |_,_=>none
def xm{K}(r:R9 K H vs ts)(e:Lr ts=some ps):∃kvs,vs=kvs.map (fun g=>(kV g.1,g.2))/\KP K H kvs ps:=by
 induction r generalizing ps with
 |nil=>cases e;exact⟨[],rfl,.nil⟩
 |@cons p q N O h r J =>
  obtain⟨x,y⟩:=q;unfold Lr at e
  split at e
  .next k S B D =>
   cases e;obtain⟨kvs,rfl,L⟩:=J D;obtain⟨U,M⟩:=p;have I:=vY h.1 B;subst I;exact⟨(k,M)::kvs,rfl,.cons ⟨rfl,h.2⟩ L⟩
  .cases e
section
variable {X:Cx}{pos:Pos}{keys:List (Option Expr)}{values:List Expr}{cs:List (jf×jf)}
@[irreducible] def nH(p:Addr):List (PV×PV)->CH->K1->Prop:=fun ts C Q=>C p=some (.dK [])/\match Lr ts with
 |some ps=>ps.length<=15/\Q (.ref p) (gQ C p (.dK (lF [] ps)))
 |none=>False
def Om(cs:List (jf×jf)):jf:=fun g C Q=>∀p,C p=none->X7 cs g (gQ C p (.dK [])) fun ts C2=>nH p ts C2 Q
def Dv(h:Ph X pos keys values cs)(S:keys.all (·.isSome)=true:=by rfl)(U:keys.length=values.length:=by rfl)(h0:keys≠[]:=by exact fun z=>nomatch z)(O:keys.length<=15:=by decide):CE X (.Dict keys values pos) (Om cs) :=
 ⟨JE.weak ⟨pe_disp h.h S U h0 O⟩ fun σ H Q zz=>eX zz fun ρ C R s J q f=> fun p B=>by
  refine XJ (C:=gQ C p (.dK [])) (s.gw (jz.new B _)) (J.lay B ⟨[],vX,.nil⟩) (q p (J.fresh B)) fun vs H2 ts C2 g Y h2 N=>?_;unfold nH at g;obtain⟨I,g⟩:=g
  split at g
  .next ps M =>
   obtain⟨kvs,rfl,L⟩:=xm Y M;obtain⟨us,D,Z⟩:=(h2 p _ I);have z:us=[]:=by cases Z;rfl
   subst z;refine⟨D,kvs,rfl,by exact(Paired.length L)▸g.1,?_⟩;exact f _ _ _ _ g.2 (.ref p) (h2.put D rfl ⟨_,vX,Paired.mapP (KP.merge .nil L) fun _ _ z=>⟨z.1,z.2.gw (jz.mut D rfl _)⟩⟩) ((Fw.lay B _ _).trans (N.trans (Fw.put I _ _)))
  .exact g.elim⟩
end
def Hr(g:Room k A):A.units+2 < cLine:=by have:=g.un;lia
def Hs{A:Around}{k:Nat}(g:Room k A):A.units < cLine:=by have:=g.un;omega
section
variable {C:CH}{p:Addr}{Q:K1}{x y v z:PV}
def kJ(m:C p=some (.ins c dx fs))(e:fs.lookup f=some v)(q:Q v C):WG c f (.ref p) C Q :=by simp_all[WG]
def aB{Q}(m:C p=some (.ins c dx fs))(h:fs.length < 1000)(q:Q (gQ C p (.ins c dx (cT f v fs)))):Z7 c f (.ref p) v C Q :=by simp_all[Z7]
def jX(m:C p=some (.ins c dx fs))(e:fs.lookup f=none):xO c f (.ref p) C:=by
 delta xO
 dsimp only;exact m▸⟨rfl,e⟩
def lK(m:C p=some (.dK kvs))(g:wV y=some k)(B:cB kvs k=some v)(q:Q v C):Ed (.ref p) y C Q:=by
 delta Ed
 dsimp only;rw[m,g];show(match cB kvs k with | some v=>Q v C | none=>False)
 rwa [B]
def oG{Q}(m:C p=some (.dK kvs))(g:wV y=some k)(h:kvs.length<=1000)(q:Q (gQ C p (.dK (vH kvs k v)))):gR (.ref p) y v C Q:=by
 delta gR
 dsimp only;exact m▸g▸⟨Cj h (by decide),q⟩
def ZO{g:Bool}(h1:Xs C y=some ts)(h2:uO x=some w)(B:eU ts=some vs)(q:Q (.bl (if g then !inV w vs else inV w vs)) C):Q8 g x y C Q :=by simp_all[Q8]
def wA(h:B q C fun t C1=>match t with | .tup xs=>rG g u E xs q C1 | .kt xs=>rG g u E xs q C1 | _=>False):cO B g u E q C:=by
 delta cO
 exact h
end
def aL(B:q[i]?=some (some (.tup xs)))(h:rG g u E xs q C):cO (uV i) g u E q C:=by
 delta cO uV
 rwa [B]
def MT(q:Q (.int (if j > i then j else i)) C):DX [.int i,.int j] C Q:=by
 delta DX
 exact q
def WL{xs:List PV}(h:k < xs.length):atI xs k=some xs[k] :=by grind[atI,ixN,lia,Int.toNat_natCast]
def Jc{r:List PV}:atI (x::r) 0=some x:=WL (Nat.zero_lt_succ _)
def sJ(I:List PV->jx->CH->Prop)(M:∀x r q C,I (x::r) q C->∀L:jx->CH->Prop,(∀B C',I r B C'->L B C')->g x q C fun N C1=>u (E.lp L) N C1)(D:∀q C,I [] q C->E.nx q C):
  ∀xs q C,I xs q C->rG g u E xs q C:=by
 intro xs
 induction xs with
 |nil=>intro q C h;exact D q C h
 |cons x r J=>intro q C h;exact M x r q C h _ J
def vW(I:List PV->List PV->CH->Prop)(D:∀x r g C,I (x::r) g C->∀L:K1,(∀y C2,g.length < sizeLine/\I r (g++[y]) C2->L y C2)->c (some x::J) C L)(q:∀g C,I [] g C->∀p,C p=none->Q (.ref p) (gQ C p (.lst g))):
  ∀xs g C,I xs g C->jK fM c J Q xs g C:=by
 intro xs
 induction xs with
 |nil=>intro g C h;exact q g C h
 |cons x r B =>
  intro g C h;exact D x r g C h _ fun y C2 z=>⟨z.1,B _ _ z.2⟩
def J5(I:List PV->List PV->CH->Prop)(q:∀r g C,I r g C->S C)(J:∀x r g C,I (x::r) g C->∀L:K1,(∀y C2,g.length < sizeLine/\I r (g++[y]) C2->L y C2)->c (some x::M) C L)(B:∀g C,I [] g C->∀p,C p=none->Q (.ref p) (gQ C p (.lst g))):
  ∀xs g C,I xs g C->nY S fM c M Q xs g C:=by
 intro xs
 induction xs with
 |nil=>intro g C h;exact⟨q _ _ _ h,B g C h⟩
 |cons x r D =>
  intro g C h;exact⟨q _ _ _ h,J x r g C h _ fun y C2 z=>⟨z.1,D _ _ z.2⟩⟩
def kZ(g:Gr C C')(h:C' p=none):C p=none:=by
 cases e:C p with
 |none=>rfl
 |some o=>rw[g p o e] at h;cases h
def j4(S:List Addr)(C C':CH):Prop:=∀b o,b∉S->C b=some o->C' b=some o
def j4.refl: j4 S C C:=fun _ _ _ h=>h
theorem j4.trans(h:j4 S C C1)(h':j4 S C1 C2):j4 S C C2:=fun b o n e=>h' b o n (h b o n e)
theorem j4.at(h:j4 S C C1)(g:p∈S)o:j4 S C (gQ C1 p o):=fun b u n e=>by
 rw[vQ (fun z=>n (by rwa [z]))];exact h b u n e
theorem j4.put(h:j4 S C C1)(g:C p=none)o:j4 S C (gQ C1 p o):=fun b u n e=>by
 rw[vQ (fun z=>by subst z;rw[g] at e;cases e)];exact h b u n e
theorem j4.none(g:j4 S C C')(n:p∉S)(h:C' p=none):C p=none:=by
 cases e:C p with
 |none=>rfl
 |some o=>rw[g p o n e] at h;cases h
section
variable {X:Cx}{pos:Pos}
end
end CL
namespace L2
open PySem PySem.W PySem.Spec PyProof.Rows
end L2
namespace CL
open PySem PySem.Spec L2 PySem.W
open PyProof.Rows hiding St
section
variable {X:Cx}{a b c e o i f value:Expr}{es:List Expr}{pos pos':Pos}
@[irreducible] def Kf:GC:=fun ts C Q=>match ts with
 |[.bl b]=>Q (.int (if b then 1 else 0)) C
 |[.int i]=>Q (.int i) C
 |_=>False
def qF{K}:uw K (fun xs H Q=>(∃i,xs=[.int i]/\Q (.int i) H)\/∃k,xs=[.bl k]/\Q (.int (if k then 1 else 0)) H) Kf:=fun xs ts H C Q R g h q f=>by
 delta Kf at q
 split at q
 .obtain ⟨v,rfl,r⟩:=sZ g
  cases r;exact .inr ⟨_,rfl,f _ H _ C q (.int _) h Fw.refl⟩
 .obtain ⟨v,rfl,r⟩:=sZ g
  cases r;exact .inl ⟨_,rfl,f _ H _ C q (.int _) h Fw.refl⟩
 .exact q.elim
@[irreducible] def xB:PV->List PV->CH->K1->Prop:=fun x ts C Q=>match x,ts with
 |.ref a,[.ref b]=>match C a,C b with
  |some (.lst xs),some (.lst ys)=>xs.length+ys.length<=sizeLine/\Q .non (gQ C a (.lst (xs++ys)))
  |_,_=>False
 |_,_=>False
def bJ{K}:vy K Zr xB:=fun x O xs ps H C Q R N M h q f=>by
 delta xB at q
 split at q
 .split at q
  .next ys zs B J =>
   refine hV (h _ _ B) fun vs g D=>hV (h _ _ J) fun ws L I=>?_;obtain⟨v,rfl,r⟩:=sZ M;cases N;cases r
   exact⟨_,_,vs,ws,rfl,rfl,g,L,by exact D.len▸I.len▸q.1,f _ _ _ _ q.2 .non (h.put g rfl ⟨_,vX,(D.append I).gw (jz.mut g rfl _)⟩) (Fw.put B _ _)⟩
  .exact q.elim
 .exact q.elim
def Ik(g:PV->List PV->CH->K1->Prop)(co:jf):jf:=fun q C Q=>co q C fun x C1=>Ni x C1/\g x [] C1 Q
def mM{id}{apos cpos}(Y:PlainAttrs "list")(aa:Slot "list" name id)(U:typeOf (.builtin id)=pure (.type "method_descriptor"))(N:MtR X id r)(S:vy X.K r D)(O:CE X o co)(L:attributeBase o name X.env (eval o X.env)=eval o X.env:=by rfl)(M:(apos.endLine==cpos.line)=true:=by rfl):CE X (.Call (.Attribute o name apos) [] [] cpos) (Ik D co):=⟨JE.weak ⟨pe_bm0 Y aa U N O.h.h L M⟩ fun σ H Q zz=>eX zz fun ρ C R s h q f=>
 ⟨ρ,C,_,s,h,q,fun x H1 Z C1 g B h1 J=>⟨VQ g.1 B h1,S x Z [] [] H1 C1 Q R B .nil h1 g.2 fun v H' t C' q' r' h' I=>f v H' t C' q' r' h' (J.trans I)⟩⟩⟩
@[irreducible] def zL:PV->List PV->CH->K1->Prop:=fun x ts C Q=>match x,ts with
 |.ref a,[]=>match C a with
  |some (.lst xs)=>Q .non (gQ C a (.lst xs.reverse))
  |_=>False
 |_,_=>False
def Q2{K}:vy K Qd zL:=fun x L xs ps H C Q R J D h q f=>by
 delta zL at q
 split at q
 .split at q
  .next ys B =>
   obtain⟨vs,g,I⟩:=(h _ _ B);cases D;cases J;exact⟨_,vs,rfl,rfl,g,f _ _ _ _ q .non (h.put g rfl ⟨_,vX,I.reverse.gw (jz.mut g rfl _)⟩) (Fw.put B _ _)⟩
  .exact q.elim
 .exact q.elim
@[irreducible] def DQ:PV->Option Int->Option Int->CH->K1->Prop:=fun x lo hi C Q=>match x with
 |.tup xs=>¬ (HT.sIx xs.length 0 lo=0/\HT.sIx xs.length xs.length hi=xs.length)/\Q (.tup (xF xs lo hi)) C
 |_=>False
def X6{lo}(Y:CE X e M)(Z:Gd X lo N)(hu:Gd X hi ch):CE X (.Subscript e (.Slice lo hi none p2) pos) (Rf DQ M N ch):=⟨JE.weak ⟨zC sl_tup Y.h.h Z.h.h hu.h.h⟩ fun σ H Q zz=>eX zz fun I C R s h aa f=>
 ⟨I,C,_,s,h,aa,fun x H1 px C1 q1 rx h1 q=>⟨I,C1,_,s.gw (q.gw h),h1,q1,fun l H2 l' C2 q2 O h2 B=>⟨I,C2,_,(s.gw (q.gw h)).gw (B.gw h1),h2,q2,fun u H3 u' L g S U J=>by
  cases O;cases S
  delta DQ at g
  split at g
  .have ab:=rx.gw ((B.trans J).gw h1)
   cases ab with
   |@tup a vs ts e r =>
    exact⟨a,vs,rfl,SqT.of e,by rw[r.len];exact g.1,fun p D=>f _ _ _ L g.2 (.tup vX ((r.cut l u).gw (jz.new D _))) (U.new D _) (q.trans (B.trans (J.trans (Fw.new D _))))⟩
  .exact g.elim⟩⟩⟩⟩
end
inductive Pl:Nat->PV->Prop
 |non {d:Nat}:Pl d .non
 |bl {d:Nat} (b:Bool):Pl d (.bl b)
 |int {d:Nat} (i:Int):Pl d (.int i)
 |str {d:Nat} (x:Str):Pl d (.str x)
 |tup {d:Nat} {ts:List PV} (h:∀t∈ts,Pl d t):Pl (d+1) (.tup ts)
section
variable {X:Cx}{pins:List (Addr×Obj)}{σ:St}{H:Hp}{s:Shared}
def uC(J:∀t∈ts,∀{A:Around}{v M:V}{u L:Value},Rep X.K H v t->Rep X.K H M t->RelV v u->RelV M L->A.units+d < cLine->SeqAt.EqAt A s u L true)(Y:A.units+d < cLine)(q:iw X.K H vs ts)(B:iw X.K H ws ts)(D:Vals vs its)(I:Vals ws g):
  its.length=g.length/\∀j h1(h2:j < g.toArray.size),SeqAt.EqAt A s its.toArray[j] g.toArray[j] true:=by
 induction ts generalizing vs ws its g with
 |nil =>
  cases q;cases B;cases D;cases I
  exact⟨rfl,fun j h1=>absurd h1 (by simp)⟩
 |cons t ts Z =>
  cases q with
  |cons N q =>
   cases B with
   |cons O B =>
    cases D with
    |cons S D =>
     cases I with
     |cons U I =>
      obtain⟨l,k⟩:=Z (fun t' m=>J t' (AF _ m)) q B D I;refine⟨by rw[AD,AD,l],fun j h1 h2=>?_⟩
      cases j with
      |zero=>exact J t AI N O S U Y
      |succ j =>
       have:=k j (by simp_all) (by simp_all)
       simpa using this
def ZR(I:Inv X pins σ H s)(p:Pl d t):∀{A}{v D}{u B},Rep X.K H v t->Rep X.K H D t->RelV v u->RelV D B->A.units+d < cLine->SeqAt.EqAt A s u B true:=by
 induction p with
 |non =>
  intro A v D u B r q e g J;cases r;cases q
  cases e;cases g
  exact Cb _
 |bl b =>
  intro A v D u B r q e g J;cases r;cases q
  cases e;cases g
  exact Cb _
 |int i =>
  intro A v D u B r q e g J;cases r;cases q
  obtain⟨L,rfl⟩:=e;obtain⟨M,rfl⟩:=g;have:=SeqAt.EqAt.int_int (A:=A) (s:=s) i L i M
  rwa [beq_self_eq_true] at this
 |str x =>
  intro A v D u B r q e g J;cases r;cases q
  obtain⟨L,rfl⟩:=e;obtain⟨M,rfl⟩:=g;have:=Ci (A:=A) (s:=s) x L x M
  rwa [beq_self_eq_true] at this
 |@tup d ts hp ih =>
  intro A v D u B r q e g J
  cases r with
  |@tup S vs _ Y r1 =>
   cases q with
   |@tup U ws _ Z r2 =>
    cases e;cases g
    by_cases N:S=U
    .subst N;exact Cb _
    .refine JY (I.tuple (SqT.of Y)) fun its w1 p1 _=>JY (I.tuple (SqT.of Z)) fun O w2 p2 _=>?_
     have ab:A.in1.units+d < cLine :=by lia
     obtain⟨hl,aa⟩:=uC (fun t m=>ih t m) ab r1 r2 w1 w2;have R:=SeqAt.RcAt.tuples p1 p2 (by lia) aa;rw[show((List.range (min its.toArray.size O.toArray.size)).all (fun _=>true)&&its.toArray.size==O.toArray.size)=true by simp[hl]] at R;exact SeqAt.EqAt.of_refs N R
end
section
variable {X:Cx}
def yN:List PV->Option (List Str)
 |[]=>some []
 |.str x::r=>(yN r).map (x :: ·)
 |_=>none
def KG(e:yN ts=some zs):ts=zs.map PV.str:=by
 induction ts generalizing zs with
 |nil=>cases e;rfl
 |cons t ts g =>
  unfold yN at e
  split at e
  .lia
  .rename_i x r h
   cases h
   cases z:yN ts with
   |none=>rw[z] at e;cases e
   |some ds=>rw[z] at e;cases e;rw[g z];rfl
  .cases e
def Jj{K:DD}{H:Hp}{zs:List Str}{vs:List V}(r:iw K H vs (zs.map PV.str)):vs=zs.map V.str:=by
 induction zs generalizing vs with
 |nil=>cases r;rfl
 |cons z zs g =>
  cases r with
  |cons h r=>cases h;rw[g r];rfl
end
section
variable {X:Cx}{pos:Pos}
end
end CL
namespace L2
open PySem PySem.W PyProof.Rows
def drop(H:Hp)(a:Addr):Hp:=fun b=>if b=a then none else H b
theorem gO: drop H a a=none :=by grind[drop]
theorem lH(h:b≠a):drop H a b=H b :=by grind[drop]
def We(h:H a=none):drop (upd H a o) a=H :=by grind[gO,lH,cX]
section
variable {X:Cx}{pins:List (Addr×Obj)}{σ:St}{H:Hp}{s:Shared}{h':Heap}
def Inv.gone{l:Addr}(I:Inv X pins σ H s)(B:H it=some (.ext φ))(h0:X.s₀.heap.objs.size<=it)(k:∀b o,b≠it->s.heap.get? b=some o->h'.get? b=some o)(J:s.heap.objs.size<=l)(Y:ObjOk X.prog X.w (upd (drop H it) l o) h' l o):Inv X pins σ (upd (drop H it) l o) { s with heap:=h',toks:=t' }:=by
 have Z:∀{b u},H b=some u->b≠l:=fun e z=>by rw[z,(I.hok.fresh J)] at e;cases e
 have U:∀{b u},H b=some u->(∀L,u≠.ext L)->b≠it:=fun e h z=>by rw[z,B] at e;exact h φ (An e).symm
 have D:∀{b u},H b=some u->(∀L,u≠.ext L)->upd (drop H it) l o b=some u:=fun e h=>by rwa [cX (Z e),lH (U e h)]
 refine I.step (g':=s.gens) (d':=s.drawn) (ch:=[it]) (fun b hb=>?_) (fun b o _ _ g e _=>k b o (fun z=>g (by simp[z])) e) (fun b o _ _ g e _=>⟨o.slots,k b o (fun z=>g (by simp[z])) e⟩) (fun b u g e n=>?_)
  (fun b o g e=>⟨o,k b o (fun z=>g (by simp[z])) e⟩) (fun b xs e=>D e fun _ z=>nomatch z) (fun b o u e=>D e fun _ z=>nomatch z) (fun b ps e=>⟨#[],by rw[D e fun _ z=>nomatch z];simp⟩) (fun m O=>?_) (fun b u e=>?_) I.bare
 .have e:b=it :=by grind
  subst e;refine⟨.inr h0,fun z=>?_,fun x c e z=>?_,fun p J z=>?_⟩
  .rw [z,I.free] at B;cases B
  .have:=I.freeC x c e;rw[z,B] at this;cases this
  .have:=(I.pin p J).2.1;rw[z,B] at this;cases this
 .rw [cX (Av (AK (Aa e) J)),lH (fun z=>g (by simp[z]))];exact n
 .exact PP O fun o es ep S r=>⟨o,es,ep,k _ o (fun z=>by have:=I.free;rw[z,B] at this;cases this) S,r⟩
 .by_cases N:b=l
  .subst N;rw[vX] at e;cases e;exact Y
  .rw [cX N] at e
   by_cases M:b=it
   .rw [M,gO] at e;cases e
   .rw [lH M] at e
    refine(I.hok b u e).stay (fun c v g q=>k c v ?_ q) (fun c q=>D q fun _ z=>nomatch z) fun c xs q=>D q fun _ z=>nomatch z
    rcases g with z | z
    .rwa [z]
    .lia
end
section
variable {X:Cx}
def rS:bootBuiltins "reversed" = some (.type "reversed"):=by rfl
def Kx(r:Vals ys its):Vals ys.reverse its.reverse:=by
 induction r with
 |nil=>exact .nil
 |cons h _ g=>rw[A4,A4];exact g.append (.cons h .nil)
end
end L2
namespace CL
open PySem PySem.Spec L2 PySem.W
open PyProof.Rows hiding St
section
variable {X:Cx}{a b c e o i f value:Expr}{es:List Expr}{pos pos':Pos}
@[irreducible] def Kd:PV->List PV->CH->K1->Prop:=fun x ts C Q=>match x,ts with
 |.ref a,[]=>match C a with
  |some (.lst xs)=>match xs[xs.length - 1]? with
   |some y=>Q y (gQ C a (.lst xs.dropLast))
   |none=>False
  |_=>False
 |_,_=>False
def qB{K}:vy K rPop Kd:=fun x S xs ps H C Q R O N h q f=>by
 delta Kd at q
 split at q
 .split at q
  .next ys D =>
   split at q
   .next y I =>
    obtain⟨vs,g,B⟩:=(h _ _ D);cases N;cases O;obtain⟨v,L,M⟩:=(B.get I)
    have J:iw K H vs.dropLast ys.dropLast:=by
     rw[List.dropLast_eq_take,List.dropLast_eq_take,B.len];exact B.take _
    exact⟨_,vs,v,rfl,rfl,g,by exact B.len▸L,f _ _ _ _ q (M.gw (jz.mut g rfl _)) (h.put g rfl ⟨_,vX,J.gw (jz.mut g rfl _)⟩) (Fw.put D _ _)⟩
   .exact q.elim
  .exact q.elim
 .exact q.elim
@[irreducible] def DN(c:jf):qb:=fun g C Q=>c g C fun x C1=>match x with
 |.ref a=>match C1 a with
  |some (.lst xs)=>Q (!xs.isEmpty) C1
  |_=>False
 |_=>False
def iC{c}(h:CE X e c)(J:fL e=true:=by rfl):CT X e (DN c):=⟨JT.weak ⟨K0 h.h.h (aN J)⟩ fun σ H Q N=>eX N fun O C R s h q f=> by
 delta DN at q
 exact⟨O,C,_,s,h,q,fun x H1 S C1 g M h1 I=>by
  split at g
  .split at g
   .next xs B =>
    refine hV (h1 _ _ B) fun vs D L=>?_;cases M;refine⟨!xs.isEmpty,.inl ⟨vs,SqL.of D,?_⟩,f _ H1 _ C1 g rfl h1 I⟩;have:=L.len;cases vs<;>cases xs<;>simp_all
   .exact g.elim
  .exact g.elim⟩⟩
def WB(c:Addr)(m:Str)(G:GC)(co:jf):jf:=fun g C Q=>co g C fun x C1=>xO c m x C1/\G [x] C1 Q
def Wu{c}(M:Cls X.K c)(N:WY X.K c m fa)(F:FnOk X.prog X.w X.K X.mg X.base CX k fa fd ps (q9 X.K G))(S:Room k X.A)(L:Binds X.K fd ps [])(Y:jW CX X E)(O:CE X o co)(U:eval (.Call (.Attribute o m apos) [] [] pos) X.env=(do
   let g <- eval o X.env
   standAt apos.atName
   let (f,first) <- holding [g] (getMethod g m pl)
   callWith pos f first (backTo pos (starEach [] X.env)) (backToKw pos (keywordEach [] X.env))):=by rfl):
  CE X (.Call (.Attribute o m apos) [] [] pos) (WB c m G co) :=
 ⟨JE.weak ⟨Vd O.h.h M N F S L .nil Y U⟩ fun σ H Q zz=>eX zz fun ρ C R s h aa f=> ⟨ρ,C,_,s,h,aa,fun x H1 px C1 q rx h1 I=>by
  obtain⟨a,dx,J,rfl,rfl,B,Z⟩:=Qz q.1 rx h1
  exact⟨a,dx,J,rfl,B,Z,⟨[.ref a],C1,R,.cons (.ref a) .nil,h1,q.2,fun v H' t C' q' r' h' D=>f v H' t C' q' r' h' (I.trans D)⟩⟩⟩⟩
def eN(m:C p=some (.lst xs))(e:xs[xs.length - 1]?=some y)(q:Q y (gQ C p (.lst xs.dropLast))):Kd (.ref p) [] C Q :=by simp_all[Kd]
end
structure Row where
 k:Option Str
 nm:Str
 q:Str
 st:Stmt
 ps:List Str
 N:List Str
def vo(p:Row->Prop):List Row->Prop
 |[]=>True
 |r::g=>p r/\vo p g
def FH(K:DD)(r:Row):Prop:=match r with
 |⟨none,B,q,st,_,_⟩=>∃(f:Addr)(M:Value)(N:Option Addr)(L J O:Value)(D:Option Addr)(g I:Value)(S:Array (Option Value)),
  PySem.W.nsIn K mainGlobals B=some (some (.ref f))/\K.lookup f=some ⟨M,N,.func (PySem.W.fnOf B q (fG st) (rV st) (cZ st) .none L J O D g I),S⟩/\PySem.W.codeIn K g q=true/\PySem.W.keepIn K (.ref f)=true
 |⟨some c,B,q,st,_,_⟩=>∃(U f:Addr)(M:Value)(N:Option Addr)(L J O:Value)(D:Option Addr)(g I:Value)(S:Array (Option Value)),
  PySem.W.nsIn K mainGlobals c=some (some (.ref U))/\PySem.W.findIn K (.ref U) B=some (some (.ref f))/\K.lookup f=some ⟨M,N,.func (PySem.W.fnOf B q (fG st) (rV st) (cZ st) .none L J O D g I),S⟩/\PySem.W.codeIn K g q=true/\PySem.W.keepIn K (.ref f)=true/\PySem.W.isFn K (.ref f)=true
def RB(r:Row):Prop:=FnScope r.N r.ps (cZ r.st)/\∀(I D J:Value)(g:Option Addr)(q B:Value)(us:List Value),us.length=r.ps.length->bindArgs (PySem.W.fnOf r.nm r.q (fG r.st) (rV r.st) (cZ r.st) .none I D J g q B) ⟨us,[]⟩=pure (r.ps.zip us)
structure FI(K:DD)(mg:Str->Option Value)(k:Option Str)(nm q:Str)(st:Stmt)(ps N:List Str)(f:Addr)(d:FuncData):Prop where
 m:k=none->mg nm=some (.ref f)
 M:∀c ca,k=some c->mg c=some (.ref ca)->PySem.W.findIn K (.ref ca) nm=some (some (.ref f))/\PySem.W.isFn K (.ref f)=true
 F:Fun K nm q st f d
 s:FnScope N ps (cZ st)
 b:Binds K d ps []
section
variable {P:List Value->Prop}
def Jd(h:∀a(us:List Value),us.length=n->P (a::us))us(e:us.length=n+1):P us:=by
 cases us with
 |nil=>cases e
 |cons a us=>exact h a us (Bv e)
def Ox(h:P [])us(e:us.length=0):P us :=by grind
def args1(h:∀a,P [a]):∀us,us.length=1->P us:=Jd fun a=>Ox (h a)
def args2(h:∀a b,P [a,b]):∀us,us.length=2->P us:=Jd fun a=>args1 (h a)
def Ga(h:∀a b c,P [a,b,c]):∀us,us.length=3->P us:=Jd fun a=>args2 (h a)
def Ow(h:∀a b c d,P [a,b,c,d]):∀us,us.length=4->P us:=Jd fun a=>Ga (h a)
end
def Hz{K}(X:K.In h)(G:h.Ns mainGlobals mg)(x:FH K r)(y:RB r):∃f d,FI K mg r.k r.nm r.q r.st r.ps r.N f d:=by
 obtain⟨k,ab,ae,st,ps,N⟩:=r;obtain⟨B,D⟩:=y
 cases k with
 |none =>
  obtain⟨f,Y,Z,U,M,aa,I,J,L,sl,h1,h2,g,q⟩:=x;exact⟨f,_,⟨fun _=>Ag X G h1,fun _ _ e=>(nomatch e),vA h2 g q,B,Fun.binds (vA h2 g q) D⟩⟩
 |some c =>
  obtain⟨cc,f,Y,Z,U,M,aa,I,J,L,sl,h0,h1,h2,g,q,S⟩:=x;refine⟨f,_,⟨fun e=>(nomatch e),fun c' ca e O=>?_,vA h2 g q,B,Fun.binds (vA h2 g q) D⟩⟩;cases e;have:=(Ag X G h0).symm.trans O;cases this;exact⟨h1,S⟩
theorem vd{K}(X:K.In h)(G:h.Ns mainGlobals mg):∀{t},vo (FH K) t->vo RB t->∃(f:Nat->Addr)(d:Nat->FuncData),∀i{k}{g q}{st}{ps N},t[i]?=some ⟨k,g,q,st,ps,N⟩->FI K mg k g q st ps N (f i) (d i)
 |[],_,_=>⟨fun _=>mainGlobals,fun _=>PySem.W.fnOf "" "" (fG (.Pass ⟨0,0,0,0⟩)) [] (cZ (.Pass ⟨0,0,0,0⟩)) .none .none .none .none none .none .none,fun i _ _ _ _ _ _ e=>by simp at e⟩
 |r::t,x,y=>by
  refine NT (Hz X G x.1 y.1) fun D B h0=>NT (vd X G x.2 y.2) fun f d h=>⟨fun i=>match i with | 0=>D | i+1=>f i,fun i=>match i with | 0=>B | i+1=>d i,fun i=>?_⟩
  cases i with
  |zero=>intro k g q st ps N e;cases e;exact h0
  |succ i=>intro k g q st ps N e;exact h i e
section
variable {P:Program}{w:World}{K:DD}{mg:Str->Option Value}{base:Heap}
def FI.ok{st}(F:FI K mg J x q st ps N f fd)(D:∀ts C R,G ts C R->ts.length=ps.length)(B:∀g A I s H E,Room k (A.deeper (envOfC q (cZ st) s.heap.objs.size f g)) ->
   ∃c,CB (lA CX0 P w K mg base N q (cZ st) f g A I s H E).nox (rV st) c/\∀ts C R,G ts C R->c (.go R) (gN N ts) C):FnOk P w K mg base CX0 (k+1) f fd ps (q9 K G):=Fun.Sy F.F F.s D B
end
section
variable {X:Cx}{e o:Expr}{es:List Expr}{pos:Pos}
def cf{st}{p}(T:FI X.K X.mg none x q st ps N f fd)(F:FnOk X.prog X.w X.K X.mg X.base CX0 k f fd ps (q9 X.K G))(J:Room k X.A)(g:CA X (e::es) ca)(I:Gl X x:=by rfl)(D:(x==("__debug__" : Str))=false:=by decide)(hs:hX e=true:=by rfl)(B:es.all hX=true:=by rfl):CE X (.Call (.Name x p) (e::es) [] pos) (dB G ca) :=
 Dw F J I (T.m rfl) T.F.kp T.b Qh g D hs B
def cm{st}{apos}{pl}(J:Cls X.K c)(T:FI X.K X.mg (some D) m q st ps N fa fd)(g:X.mg D=some (.ref c))(F:FnOk X.prog X.w X.K X.mg X.base CX0 k fa fd ps (q9 X.K G))(O:Room k X.A)(L:CE X o co)(I:CA X (e::es) ca)(S:starEach (e::es) X.env=(false,eval e X.env)::starEach es X.env:=by rfl)(M:(backTo pos (starEach es X.env)).any (·.1)=false:=by rfl)(U:eval (.Call (.Attribute o m apos) (e::es) [] pos) X.env=(do
   let B <- eval o X.env
   standAt apos.atName
   let (f,first) <- holding [B] (getMethod B m pl)
   callWith pos f first (backTo pos (starEach (e::es) X.env)) (backToKw pos (keywordEach [] X.env))):=by rfl):
  CE X (.Call (.Attribute o m apos) (e::es) [] pos) (FQ c m G co ca) :=
 Ds J ⟨(T.M _ _ rfl g).1,(T.M _ _ rfl g).2,T.F.kp⟩ F O T.b Qh L I S M U
def o9{st}(I:Cls X.K c)(T:FI X.K X.mg (some D) m q st ps N fa fd)(g:X.mg D=some (.ref c))(F:FnOk X.prog X.w X.K X.mg X.base CX0 k fa fd ps (q9 X.K G))(L:Room k X.A)(J:CE X o co)(M:eval (.Call (.Attribute o m apos) [] [] pos) X.env=(do
   let B <- eval o X.env
   standAt apos.atName
   let (f,first) <- holding [B] (getMethod B m pl)
   callWith pos f first (backTo pos (starEach [] X.env)) (backToKw pos (keywordEach [] X.env))):=by rfl):
  CE X (.Call (.Attribute o m apos) [] [] pos) (WB c m G co) :=
 Wu I ⟨(T.M _ _ rfl g).1,(T.M _ _ rfl g).2,T.F.kp⟩ F L T.b Qh J M
def cx(q:CE X a ca)(B:CE X b g)(hs:tH b:=by exact fun _ _=>rfl):CE X (.Subscript a b pos) (ut vg ca g):=FJ yw HQ q B hs
def dN(g:CE X e ca)(hs:hX e=true:=by rfl):CA X [e] (mK ca fU):=qQ g aX hs
def jb i{pos'}(q:X.N.Nodup)(B:CE X e g)(hi:X.N[i]?=some x:=by rfl)(I:Loc X.env.scope x:=by first | exact Or.inl rfl | exact Or.inr rfl)(hs:swapsWith e (some (.Name x pos')) pos.line X.env=pure false:=by rfl)(D:X.fn x=true\/X.env.scope.names.lookup x=some .local:=by first | exact .inl rfl | exact .inr rfl | assumption):
  CS X (.Assign [.Name x pos'] e pos) (Wz i g):=HN q hi I B hs D
def qi i(g:X.N.Nodup)(hi:X.N[i]?=some x:=by rfl)(B:Loc X.env.scope x:=by first | exact Or.inl rfl | exact Or.inr rfl)(q:X.fn x=true\/X.env.scope.names.lookup x=some .local:=by first | exact .inl rfl | exact .inr rfl | assumption):CG X (.Name x pos) (dName i):=Dr g hi B q
def kh{p}(B:X.mg "len" = none)(g:CE X e ca)(q:Gl X "len":=by rfl)(hs:hX e=true:=by rfl):CE X (.Call (.Name "len" p) [e] [] pos) (dB bR (mK ca fU)):=gX Ka DG q B rfl (dN g hs) (hs:=hs)
def t6{p}(B:X.mg "tuple" = none)(g:CE X e ca)(q:Gl X "tuple":=by rfl)(hs:hX e=true:=by rfl):CE X (.Call (.Name "tuple" p) [e] [] pos) (dB jB (mK ca fU)):=dZ dS Dy q B rfl (dN g hs) (hs:=hs)
def cap{apos cpos}(I:CE X o co)(g:CE X e ca)(q:attributeBase o "append" X.env (eval o X.env)=eval o X.env:=by rfl)(B:((backTo cpos (starEach [e] X.env)).all (fun x=>!x.1)&&(backToKw cpos (keywordEach [] X.env)).all (fun x=>x.1.isSome)
   && decide ([e].length+([]:List Keyword).length+(if ([]:List Keyword).isEmpty then 0 else 1) < 30))=true:=by rfl)(D:(apos.endLine==cpos.line)=true:=by rfl)(hs:hX e=true:=by rfl):CE X (.Call (.Attribute o "append" apos) [e] [] cpos) (Ot xY co (mK ca fU)) :=
 lY AY PySem.F.slot_list_append PySem.F.type_list_append aT X5 I (dN g hs) q B D hs
def ct2(J:OpR X (compareOp op) r)(L:km X.K r q)(B:CE X a ca)(D:CE X b g)(I:behindInMarks op b=false:=by exact oJ _):CT X (.Compare a [op] [b] pos) (Q7 (ut q ca g)):=rK J L B D I
end
end CL
namespace L2
open PySem
theorem FnScope.c(S:FnScope N ps g)(h:N.contains x=false):(x::N).Nodup:=by
 refine B3.2 ⟨fun m=>?_,S.nd⟩;rw[List.contains_iff_mem.2 m] at h;cases h
theorem FnScope.k(S:FnScope N ps g)(B:X.N=N)(I:X.env.scope=g)(D:X.env.cells=cellsFrom L g.names [])(h:jR xs J N g=true):∃q,aH X xs J q:=Wl B I D h
end L2
namespace TB
def step(M i:Nat):Nat:=(i * 5+1) % M
end TB
namespace TB
open PySem SetTable
structure S6(t:SetTable)(k:Nat):Prop where
 mask:t.mask+1=2 ^ k
 dum:t.dummies = #[]
 few:t.place.size<=t.mask
end TB
namespace PySem
open Sem (wp)
open TB
section
variable {prog:Program}{w:World}{K:Type}[DecidableEq K]{knd:KeyKind prog w K}
variable (knd)
def PL(x:List (List K)×Addr):Int×Value:=(uY knd x.1,.ref x.2)
structure PSet(h:Heap)(a:Addr)(xs:List (List (List K)×Addr))(o:Obj)(es:Array (Int×Value))(ep:Nat)(t:SetTable)(k:Nat):Prop where
 at':h.get? a=some o
 ex:o.ExactSet
 dat:o.data=.set es ep t
 tok:S6 t k
 size:t.place.size=es.size
 ents:es.toList=xs.map (PL knd)
 keys:∀x∈xs,iy knd h x.1 x.2
 big:2<=t.mask
variable {knd}{A:Around}{E:Value->Shared->Prop}{s:Shared}{a:Addr}{xs:List (List (List K)×Addr)}{o:Obj}{es:Array (Int×Value)}{ep:Nat}{t:SetTable}{k:Nat}
end
end PySem
namespace L2
open PySem PySem.W PyProof.Rows
section
variable {X:Cx}
theorem Qu(g:Str):∀zs:List Str,(Str.join g zs).length<=(zs.map (·.length)).sum+zs.length * g.length
 |[]=>AM _
 |[x]=>by
  show x.length<=x.length+0+1 * g.length;omega
 |x::y::r=>by
  have q:=Qu g (y::r)
  have e:(Str.join g (x::y::r)).length=x.length+g.length+(Str.join g (y::r)).length:=by
   show(x++g++Str.join g (y::r)).length=_;rw[Str.length_append,Str.length_append]
  rw[e,Ak,List.sum_cons,AD,Nat.succ_mul];omega
def rJoin:V->List V->Hp->VK->Prop:=fun x vs H Q=>∃(g:Str)(l:Addr)(zs:List Str),x=.str g/\vs=[.ref l]/\H l=some (.lst (zs.map V.str))/\(zs.map (·.length)).sum+zs.length * g.length<=16777216/\Q (.str (Str.join g zs)) H
def ym:MtR X "str.join" rJoin:=by
 intro pins s σ H x vs v us Q I U S h;obtain⟨B,l,zs,rfl,rfl,L,hz,q⟩:=h;obtain⟨t,rfl⟩:=U;obtain⟨u,rfl,O⟩:=S.one;cases O;obtain⟨its,Z,p1,_⟩:=I.list (SqL.of L)
 have Y:∀{zs:List Str}{its:List Value},Vals (zs.map V.str) its->∃g:List (Str×Tok),its=strValues g/\g.map (·.1)=zs:=by
  intro zs
  induction zs with
  |nil=>intro its r;cases r;exact⟨[],rfl,rfl⟩
  |cons z zs N =>
   intro its r;rw[Ak] at r
   cases r with
   |cons a b =>
    obtain⟨t,rfl⟩:=a;obtain⟨g,rfl,rfl⟩:=N b;exact⟨(z,t)::g,rfl,rfl⟩
 obtain⟨g,rfl,D⟩:=Y Z
 have M:Builtin.Str.tooLong ((g.map (·.1)).toArray.foldl (· + ·.length+B.length) 0)=false:=by
  rw[StrLaws.joinTotal,D];unfold Builtin.Str.tooLong;rw[Bi];exact Ad (by omega)
 refine BU F.slot_str_join (Bq s B t) F.entry_str_join (F.args_str_join_2 _ _) (meets_str_join_list B t l g M) ⟨p1.isList,?_⟩;unfold joinMade
 split
 .next p =>
  have J:[p.1]=zs:=D;subst J;exact⟨.str p.1,H,I,⟨_,rfl⟩,q⟩
 .rw [StrLaws.glued_eq_join,D]
  refine⟨?_,.str _,H,I.tok _,⟨_,rfl⟩,q⟩;have:=Qu B zs;rw[Bi];omega
end
end L2
namespace CL
open PySem PySem.Spec L2 PySem.W
open PyProof.Rows hiding St
section
variable {X:Cx}{e o:Expr}{es:List Expr}
@[irreducible] def nP:PV->List PV->CH->K1->Prop:=fun x ts C Q=>match x,ts with
 |.str g,[.ref a]=>match C a with
  |some (.lst xs)=>∃zs:List Str,xs=zs.map PV.str/\(zs.map (·.length)).sum+zs.length * g.length<=16777216/\Q (.str (Str.join g zs)) C
  |_=>False
 |_,_=>False
def Wn{K:DD}:vy K rJoin nP:=fun x J xs ps H C Q R I B h q f=>by
 unfold nP at q
 split at q
 .split at q
  .next ys e =>
   obtain⟨v,rfl,r⟩:=sZ B;cases r;cases I;obtain⟨zs,rfl,hz,q⟩:=q;obtain⟨vs,g,D⟩:=h _ _ e;rw[Jj D] at g;exact⟨_,_,zs,rfl,rfl,g,hz,f _ H _ C q (.str _) h Fw.refl⟩
  .exact q.elim
 .exact q.elim
def Rp(q:PV->List PV->CH->K1->Prop)(co:jf)(ca:uh):jf:=fun g C Q=>co g C fun x C1=>(∃z,x=.str z)/\ca g C1 fun xs C2=>q x xs C2 Q
def tK{apos cpos:Pos}{co:jf}{ca:jf}(S:CE X o co)(L:CE X e ca)(M:attributeBase o "join" X.env (eval o X.env)=eval o X.env:=by rfl)(N:((backTo cpos (starEach [e] X.env)).all (fun x=>!x.1)&&(backToKw cpos (keywordEach [] X.env)).all (fun x=>x.1.isSome)
   && decide ([e].length+([]:List Keyword).length+(if ([]:List Keyword).isEmpty then 0 else 1) < 30))=true:=by rfl)(O:(apos.endLine==cpos.line)=true:=by rfl)(hs:hX e=true:=by rfl):
  CE X (.Call (.Attribute o "join" apos) [e] [] cpos) (Rp nP co (mK ca fU)):=⟨JE.weak (Fl F.plainAttrs_str F.slot_str_join F.type_str_join ym S.h (dN L hs).h M N O hs) fun σ H Q zz=>eX zz fun D C R s h q f=>
 ⟨D,C,_,s,h,q,fun x H1 px C1 g rx h1 B=>by
  obtain⟨⟨z,rfl⟩,g⟩:=g;cases rx
  exact⟨rfl,D,C1,_,s.gw (B.gw h),h1,g,fun xs H2 ps C2 Y aa h2 J=>
   Wn _ _ xs ps H2 C2 Q R (.str z) aa h2 Y fun v H' t C' U Z h' I=>f v H' t C' U Z h' (B.trans (J.trans I))⟩⟩⟩
def VM{a:Addr}{g:Str}{zs:List Str}{C:CH}{Q:K1}(m:C a=some (.lst (zs.map PV.str)))(hz:(zs.map (·.length)).sum+zs.length * g.length<=16777216)(q:Q (.str (Str.join g zs)) C):nP (.str g) [.ref a] C Q:=by
 unfold nP;dsimp only;rw[m];exact⟨zs,rfl,hz,q⟩
def jw(i:Int):Str:=toString i
@[irreducible] def Z4:GC:=fun ts C Q=>match ts with
 |[.int i]=>i.natAbs<=1000000000000/\Q (.str (jw i)) C
 |_=>False
def rY{K:DD}:uw K (fun xs H Q=>∃i,xs=[.int i]/\i.natAbs.log2 < 1920/\Q (.str (toString i)) H) Z4:=fun xs ps H C Q R g h q f=>by
 unfold Z4 at q
 split at q
 .next i =>
  obtain⟨v,rfl,r⟩:=sZ g;cases r;refine⟨i,rfl,?_,f _ H _ C q.2 (.str _) h Fw.refl⟩
  by_cases h0:i.natAbs=0
  .rw [h0];decide
  .rw [Nat.log2_lt h0]
   exact Cj q.1 (AK (show 1000000000000 < 2 ^ 40 by decide) (Nat.pow_le_pow_right (by decide) (by decide)))
 .exact q.elim
def fF{i:Int}{C:CH}{Q:K1}(h:i.natAbs<=1000000000000)(q:Q (.str (jw i)) C):Z4 [.int i] C Q:=by
 unfold Z4;exact⟨h,q⟩
end
section
variable {X:Cx}{e:Expr}{pos:Pos}
end
section
variable {X:Cx}{e:Expr}
def uB(z:Str):List PV:=z.cps.toList.map fun c=>PV.str ⟨#[c]⟩
def Hl{K}z:Zd K H (Its z) (uB z) where
 go:=fun i H' l k=>by
  delta uB at l
  rwa [AB,Cc] at l
 yl:=fun i H' x q k y=>by
  obtain⟨rfl,c,g,rfl⟩:=y;refine⟨rfl,fun t e=>?_⟩;unfold uB at e;rw[Ah,DA,g] at e;cases e;exact .str _
 st:=fun H' k=>by
  delta uB
  rw[AB,Cc];exact AO _
def Rm(g:jf):jx->CH->(List PV->CH->Prop)->Prop:=fun q C Q=>g q C fun t C1=>match t with
 |.str z=>Q (uB z) C1
 |_=>False
def Wp(h:CE X e g):CI X tg e (Nk (vV X.K (Rep X.K) g)) (Rm g):=⟨⟨Gx h.h.h⟩,fun σ H J C R Q s h q f=>⟨J,C,_,s,h,q,fun x H1 L C1 B I h1 D=>by
  cases I with
  |str z=>exact⟨z,rfl,f _ H1 (uB z) C1 B (Hl z) h1 D⟩
  |_=>exact B.elim⟩⟩
end
section
variable {X:Cx}{a b:Expr}{pos:Pos}
end
section
variable {X:Cx}
@[irreducible] def Ea:qw:=fun x y C Q=>match x,y with
 |.str i,.str j=>Q (.bl (!(Builtin.Str.occurrences j i 0 j.length 1).isEmpty)) C
 |_,_=>False
def Z0{K}:km K (fun x y H Q=>∃i j,x=.str i/\y=.str j/\Q (.bl (!(Builtin.Str.occurrences j i 0 j.length 1).isEmpty)) H) Ea:=fun x y D I H C Q R g B h q f=>by
 delta Ea at q
 split at q
 .cases g;cases B
  exact⟨_,_,rfl,rfl,f _ H _ C q (.bl _) h Fw.refl⟩
 .exact q.elim
def Fp(q:Q (.bl (!(Builtin.Str.occurrences j i 0 j.length 1).isEmpty)) C):Ea (.str i) (.str j) C Q:=by
 delta Ea
 exact q
end
theorem iI{K}: ∀{l:List Str}{vs},iw K H vs (l.map PV.str)->vs=l.map V.str
 |[],_,.nil=>rfl
 |z::l,_,.cons h t=>by cases h;rw[iI t];rfl
def qA(l:List Str):PV->Bool
 |.str z=>l.contains z
 |_=>false
@[irreducible] def Eb:qw:=fun x y C Q=>match y with
 |.kt ys=>match yN ys,tyP C x with
  |some l,some _=>Q (.bl (qA l x)) C
  |_,_=>False
 |_=>False
def iM{K}:km K (Lk K false) Eb:=fun x y L N H C Q R B M h q f=>by
 delta Eb at q
 split at q
 .split at q
  .next l c D I =>
   cases M with
   |kt e r =>
    have g:=KG D;subst g;have g:=iI r;subst g;refine⟨_,l,c,rfl,.inr e,Zh B h I,?_⟩;have J:OJ l x=qA l L:=by cases B<;>rfl
    exact J▸f _ H _ C q (.bl _) h Fw.refl
  .exact q.elim
 .exact q.elim
def cK(g:yN ys=some l)(B:tyP C x=some c)(q:Q (.bl (qA l x)) C):Eb x (.kt ys) C Q :=by simp_all[Eb]
end CL
namespace CL
open PySem L2 PySem.W
theorem cU(I:Nat->jx->CH->Prop)(B:∀n g C(L:jx->CH->Prop),I n g C->(∀m q C',m < n->I m q C'->L q C')->t g C fun b C1=>if b=true then u (E.lp L) g C1 else E.nx g C1):∀k n g C,n < k->I n g C->Kb t u E k g C
 |0,n,_,_,h,_=>absurd h (Nat.not_lt_zero n)
 |k+1,n,g,C,h,D=>B n g C (Kb t u E k) D fun m q C' M J=>cU I B k m q C' (by lia) J
theorem oV f:∀xs B C,Gr C0 C->B.length+xs.length<=sizeLine->(∀x∈xs,∀C D,Gr C0 C->(∀C',Gr C C'->D (f x) C')->c (some x::N) C D)->(∀p C',C0 p=none->Gr C0 C'->C' p=some (.lst (B++xs.map f))->Q (.ref p) C')->jK fM c N Q xs B C
 |[],B,C,g,_,_,q=>QZ fun p I=>q p _ (kZ g I) (g.trans (Gr.new I _)) (by rw[zQ,Ce,AH])
 |x::xs,B,C,g,L,h,q=>by
  rw[AD] at L;refine mO (h x AI C _ g fun C' g'=>⟨by lia,oV f xs _ C' (g.trans g') (by grind) (fun y M=>h y (AF _ M)) fun p C2 h1 h2 J=>q p C2 h1 h2 ?_⟩);rw[J,AG]
  rfl
theorem Jb:∀bs,pR (bs.map PV.bl)=some bs
 |[]=>rfl
 |b::bs=>by show(pR (bs.map PV.bl)).map _=_;rw[Jb bs];rfl
def WT{bs:List Bool}(h:C p=some (.lst (bs.map PV.bl)))(q:Q (.bl (bs.all id)) C):WI [.ref p] C Q:=by
 delta WI
 dsimp only;rw[h];dsimp only
 rwa [Jb]
def Fi(h:z.length<=sizeLine)(q:Q (.int z.length) C):bR [.str z] C Q:=by
 delta bR
 exact⟨h,q⟩
end CL
namespace CL
open PySem PySem.Spec L2 PySem.W
open PyProof.Rows hiding St
section
variable {X:Cx}{a b c e o i f:Expr}{es:List Expr}{pos:Pos}{value:Expr}
@[irreducible] def DR:PV->Option Int->Option Int->CH->K1->Prop:=fun x lo hi C Q=>match x with
 |.str z=>z.length<=sizeLine/\Q (.str (Txt.slice z lo hi)) C
 |_=>False
def HY{lo hi:Option Expr}{D:jf}{I ch:TCO}{p2:Pos}(Y:CE X e D)(Z:Gd X lo I)(hu:Gd X hi ch):CE X (.Subscript e (.Slice lo hi none p2) pos) (Rf DR D I ch):=⟨JE.weak ⟨zC Gk Y.h.h Z.h.h hu.h.h⟩ fun σ H Q ⟨B,C,R,s,h,aa,f⟩ =>
 ⟨B,C,_,s,h,aa,fun x H1 px C1 q1 rx h1 q=>⟨B,C1,_,s.gw (q.gw h),h1,q1,fun l H2 l' C2 q2 N h2 J=>⟨B,C2,_,(s.gw (q.gw h)).gw (J.gw h1),h2,q2,fun u M u' L g O U S=>by
  cases N;cases O
  unfold DR at g
  split at g
  .cases rx
   exact⟨_,rfl,g.1,f _ M _ L g.2 (.str _) U (q.trans (J.trans S))⟩
  .exact g.elim⟩⟩⟩⟩
def Lg{z:Str}{lo hi:Option Int}{C:CH}{Q:K1}(h:z.length<=sizeLine)(q:Q (.str (Txt.slice z lo hi)) C):DR (.str z) lo hi C Q:=by
 unfold DR;exact⟨h,q⟩
end
section
variable {X:Cx}
end
section
variable {cs:List (List Str×Int)}(nd:(cs.map (·.1)).Nodup){i j:Nat}(hi:i < cs.length)(hj:j < cs.length)
include nd hi hj
end
section
variable {X:Cx}{e o:Expr}{es:List Expr}
end
section
variable {X:Cx}{a b c e o i f value:Expr}{es:List Expr}{pos pos':Pos}
end
end CL
namespace CL
open PySem PySem.Spec L2
open PyProof.Rows hiding St
end CL
namespace CL
open PySem PySem.Spec L2 PySem.W
open PyProof.Rows hiding St
section
variable {X:Cx}
end
end CL
namespace L2
open PySem PySem.W PySem.Spec PyProof.Rows
end L2
namespace CL
open PySem PySem.Spec L2 PySem.W
open PyProof.Rows hiding St
section
variable {X:Cx}{a b c e o i f value:Expr}{es:List Expr}{pos pos':Pos}
end
end CL
namespace PySem
namespace F
def lL:Manifest.owners.lookup (String.ofList ['d','e','s','r','e','v','e','r'].reverse)=some Manifest.sig_reversed:=by kernel_rfl
def jr:Slot "reversed" "__next__" "reversed.__next__" :=
 .of (owner:="reversed") (n:="__next__") (by rw[B0,BW];kernel_rfl) (by decide +kernel) (by decide +kernel) (by decide +kernel)
  (by first | exact .inl (by decide +kernel) | exact .inr (by decide +kernel)) (by rw[Br];kernel_rfl)
def oh:Slot "reversed" "__iter__" "reversed.__iter__" :=
 .of (owner:="reversed") (n:="__iter__") (by rw[B0,BW];kernel_rfl) (by decide +kernel) (by decide +kernel) (by decide +kernel)
  (by first | exact .inl (by decide +kernel) | exact .inr (by decide +kernel)) (by rw[Br];kernel_rfl)
def j7:Slot "reversed" "__length_hint__" "reversed.__length_hint__" :=
 .of (owner:="reversed") (n:="__length_hint__") (by rw[B0,BW];kernel_rfl) (by decide +kernel) (by decide +kernel) (by decide +kernel)
  (by first | exact .inl (by decide +kernel) | exact .inr (by decide +kernel)) (by rw[Br];kernel_rfl)
def jS:Slot "reversed" "__init__" "object.__init__" :=
 .of (owner:="object") (n:="__init__") (by rw[B0,BW];kernel_rfl) (by decide +kernel) (by decide +kernel) (by decide +kernel)
  (by first | exact .inl (by decide +kernel) | exact .inr (by decide +kernel)) (by rw[Br];kernel_rfl)
def my:entryFor table "reversed.__next__" = some Builtin.«reversed.__next__»:=entryFor_of_tree (by kernel_rfl)
def qg:entryFor table "reversed.__length_hint__" = some Builtin.«reversed.__length_hint__»:=entryFor_of_tree (by kernel_rfl)
def qe:entryFor table "reversed.__iter__" = some Builtin.«dict_keyiterator.__iter__» :=
 entryFor_alias (id':="dict_keyiterator.__iter__") (by kernel_rfl) (by first | rfl | decide +kernel | (unfold String.splitOn;simp +decide [String.splitOnAux])) (by decide +kernel) (by kernel_rfl)
def ou(a:Value):argsOk "reversed.__next__" ⟨[a],[]⟩:=by
 unfold argsOk;rw[signature?_of (id:="reversed.__next__") (n:=['_','_','t','x','e','n','_','_']) (o:=['d','e','s','r','e','v','e','r']) (by kernel_rfl) lL];kernel_rfl
def qm(a:Value):argsOk "reversed.__iter__" ⟨[a],[]⟩:=by
 unfold argsOk;rw[signature?_of (id:="reversed.__iter__") (n:=['_','_','r','e','t','i','_','_']) (o:=['d','e','s','r','e','v','e','r']) (by kernel_rfl) lL];kernel_rfl
def qt(a:Value):argsOk "reversed.__length_hint__" ⟨[a],[]⟩:=by
 unfold argsOk;rw[signature?_of (id:="reversed.__length_hint__") (n:=['_','_','t','n','i','h','_','h','t','g','n','e','l','_','_']) (o:=['d','e','s','r','e','v','e','r']) (by kernel_rfl) lL];kernel_rfl
def qp(a b:Value):argsOk "object.__init__" ⟨[a,b],[]⟩:=by
 unfold argsOk;rw[signature?_of (id:="object.__init__") (n:=['_','_','t','i','n','i','_','_']) (o:=['t','c','e','j','b','o']) (by kernel_rfl) owner_object];kernel_rfl
def oR:TypeCalled "reversed" "reversed.__new__" "object.__init__" :=
 ⟨by decide +kernel,by decide +kernel,⟨_,_,mro_reversed⟩,made_reversed,by decide +kernel,by rw[Br];kernel_rfl,jS⟩
def sr:typeLookup (.type "tuple") "__reversed__" = pure none:=by rw[B0,BW];kernel_rfl
def sy:typeLookup (.type "reversed") "__len__" = pure none:=by rw[B0,BW];kernel_rfl
end F
section
open PyProof.Rows
variable {prog:Program}{w:World}{A:Around}{E:Value->Shared->Prop}{s:Shared}
def wy(t:Addr)(i:Int):Obj:={ cls:=.type "reversed",data:=.fields #[.ref t,rawInt i] }
def Heap.ju(h:Heap)(a t:Addr)(i:Int):Prop:=∃o,h.get? a=some o/\o.cls=.type "reversed"/\o.data=.fields #[.ref t,rawInt i]
def Heap.ju.typeIs{a t:Addr}{i:Int}(x:s.heap.ju a t i):s.TypeIs (.ref a) "reversed":=let ⟨o,q,g,_⟩:=x;⟨o,q,g⟩
theorem Heap.ju.at{h h':Heap}{a t:Addr}{i:Int}(x:h.ju a t i)(e:∀o,h.get? a=some o->h'.get? a=some o):h'.ju a t i:=let ⟨o,g,r⟩:=x;⟨o,e _ g,r⟩
def wu{t:Addr}{B:Array Value}{Q₁:Value->Shared->Prop}(q:IsTup s.heap t B)(D:(B.size:Int) < 2 ^ 63)(h:Q₁ (.ref s.heap.objs.size) { s with heap:=s.heap.push (wy t ((B.size:Int) - 1)),toks:=s.toks+1+1 }):
  codeAny (model prog w) A (.call (.builtin "reversed.__new__") ⟨[.type "reversed",.ref t],[]⟩) (wants Q₁ E) s:=by
 refine codeAny_of_tree ?_;show wpAny _ A.in1 (do checkBuiltinCall "reversed.__new__" ⟨[.type "reversed",.ref t],[]⟩;again (.builtin "reversed.__new__" ⟨[.type "reversed",.ref t],[]⟩)) _ _ s;refine AC (Bg (F.newCall_reversed_1 _) (AE ⟨plainId_quiet F.plain_reversed_new _,codeAny_builtin F.entry_reversed_new ?_⟩));rw[Around.under_plainId F.plain_reversed_new _];unfold Builtin.«reversed.__new__»
 refine AC (Bg (newClass_reversed _) ?_)
 try dsimp only
 refine AC (Bg (a:=()) (by first | rfl | kernel_rfl) ?_);refine AC (Bg (a:=()) (by first | rfl | kernel_rfl) ?_)
 try dsimp only
 refine AC (Au q.typeIs F.sr ?_);refine AC ?_
 wp_delta
 refine AC (BL (b:=false) q.typeIs (by rw[Br];kernel_rfl) ?_);refine Ac (fun g=>absurd g (by decide)) (fun _=>?_);refine AC (Au q.typeIs F.slot_tuple_getitem.lookup ?_)
 try dsimp only
 refine Ac (fun _=>AE ?_) (fun g=>absurd (by decide +kernel) g);refine Ac (fun g=>absurd g (by decide)) (fun _=>?_);refine AC (len_tuple q D ?_);refine AC (m:=asInt? _) (AE ?_);refine AC (m:=Builtin.SmallTypes.newRecord _ _) ?_;show wpAny _ _ (newObj (.type "reversed") (.fields #[.ref t,rawInt ((B.size:Int) - 1)])) _ _ _
 exact BO (AE h)
def Wx{t:Addr}{g:Array Value}{Q:Value->Shared->Prop}(I:IsTup s.heap t g)(D:(g.size:Int) < 2 ^ 63)(h:Q (.ref s.heap.objs.size) { s with heap:=s.heap.push (wy t ((g.size:Int) - 1)),toks:=s.toks+1+1 }):wpAny (model prog w) A (call (.type "reversed") [.ref t]) Q E s:=by
 refine callType_codes (Q₁:=fun q B=>q=.ref s.heap.objs.size/\B={ s with heap:=s.heap.push (wy t ((g.size:Int) - 1)),toks:=s.toks+1+1 }) F.oR (F.typeCall_reversed_1 _) F.entry_object_init (wu I D ⟨rfl,rfl⟩) ?_;rintro q B ⟨rfl,rfl⟩;refine⟨⟨_,Ae _ rfl,rfl⟩,F.qp _ _,?_⟩;exact object_init_meets F.oR.init.lookup F.oR.made (by decide) prog w A.in1 _ _ ⟨⟨_,Ae _ rfl,rfl⟩,rfl,h⟩
def VA{it t:Addr}{i:Nat}{B:Array Value}{x:Value}{Q:Option Value->Shared->Prop}(D:s.heap.ju it t (i:Int))(I:IsTup s.heap t B)(J:B[i]?=some x)(S:(B.size:Int) < 2 ^ 63)(L:∀h' O,h'.ju it t ((i:Int) - 1)->Heap.SameBut it s.heap h'->Q (some x) { s with heap:=h',toks:=O }):wpAny (model prog w) A (pyNext (.ref it)) Q E s:=by
 obtain⟨o,q,N,g⟩:=id D;have hi:i < B.size:=(Array.getElem?_eq_some_iff.1 J).1;unfold pyNext
 refine AC (wpAny_attempt (Co (name:=Str.ofString "__next__") D.typeIs F.jr
  (A2 F.jr D.typeIs F.my ?_ (F.ou _))))
 unfold Builtin.«reversed.__next__»;refine AC (Bg (a:=(Value.ref it,[])) rfl ?_)
 try dsimp only
 refine AC (Bh q g (x:=.ref t) rfl ?_);refine AC (Bh q g (x:=rawInt (i:Int)) rfl ?_);show wpAny _ _ (if (i:Int) < 0 then _ else _) _ _ s;rw[Am (by omega)];refine AC (Au I.typeIs F.slot_tuple_getitem.lookup ?_);refine Ac (fun M=>absurd M (by simp)) (fun _=>?_);refine AC (wpAny_mkInt ?_);refine AC (wpAny_attempt (getItem_tuple (j:=i) (x:=x) (s:={ s with toks:=s.toks+1 }) I (by omega) (by omega) ?_ J ?_))
 .have h0:¬ (i:Int) < 0:=by omega
  simp[seqIndex?,h0,hi]
 try dsimp only
 refine AC (Bh (s:={ s with toks:=s.toks+1 }) q g (x:=rawInt (i:Int)) rfl ?_);show wpAny _ _ (setField (.ref it) 1 (rawInt ((i:Int) - 1)) >>= _) _ _ _;refine AC (wpAny_setField (s:={ s with toks:=s.toks+1 }) q g (by simp) ?_);refine AE ⟨x,rfl,AE (L _ _ ?_ (Heap.SameBut.update ..))⟩
 exact⟨_,BY _ q (Obj.isFreed_of_fields (Obj.data_mapFields g _)),(Obj.cls_mapFields ..).trans N,by
  rw[Obj.data_mapFields g];simp⟩
def Dc{it t:Addr}{Q:Option Value->Shared->Prop}(I:A.handled=none)(B:s.heap.ju it t (-1))(L:∀h',Heap.ExtBut it s.heap h'->Q none { s with heap:=h' }):wpAny (model prog w) A (pyNext (.ref it)) Q E s:=by
 obtain⟨o,q,M,g⟩:=id B;unfold pyNext
 refine AC (wpAny_attempt (Co (name:=Str.ofString "__next__") B.typeIs F.jr
  (A2 F.jr B.typeIs F.my ?_ (F.ou _))))
 unfold Builtin.«reversed.__next__»;refine AC (Bg (a:=(Value.ref it,[])) rfl ?_)
 try dsimp only
 refine AC (Bh q g (x:=.ref t) rfl ?_);refine AC (Bh q g (x:=rawInt (-1)) rfl ?_);show wpAny _ _ (if (-1:Int) < 0 then _ else _) _ _ s;rw[Al (by decide)];refine AC (BS ?_);refine AC ?_
 wp_delta
 refine AC (wpAny_setField q g (by simp) ?_);have h1:=BY (Obj.mapFields (fun x=>x.setIfInBounds 1 (rawInt (-1)))) q (Obj.isFreed_of_fields (Obj.data_mapFields g _));refine wpAny_setField (s:={ s with heap:=s.heap.update it (Obj.mapFields (fun x=>x.setIfInBounds 1 (rawInt (-1)))) }) h1 (Obj.data_mapFields g _) (by simp) ?_
 have J:Heap.ExtBut it s.heap ((s.heap.update it (Obj.mapFields (fun x=>x.setIfInBounds 1 (rawInt (-1))))).update it (Obj.mapFields (fun x=>x.setIfInBounds 0 Value.none))):=fun b o D e=>
  (BF _ _ (Ne.symm D)).trans ((BF _ _ (Ne.symm D)).trans e)
 refine AC ?_;show wpAny _ _ (newExc (.type "StopIteration") [] >>= _) _ _ _;refine AC ?_
 simp only[newExc,newTuple]
 refine AC (BO ?_ (by size_fits));refine AC (m:=firstArgMember _ _) (Bg (a:=Value.none) (by first | rfl | (simp only[firstArgMember];rfl)) ?_);refine BO ?_ (by size_fits)
 simp only[raiseNew]
 refine AC (wpAny_handled ?_)
 first | rw[show A.in1.handled=none from I] | rw[I]
 refine AC (AE (wpAny_throw ?_));refine AC (BL (T:="StopIteration") (b:=true) ⟨_,Ae _ rfl,rfl⟩ isSubtype_stop ?_);exact AE (L _ ((J.push _).push _))
def Qx{it t:Addr}{i:Int}{Q:Value->Shared->Prop}(g:s.heap.ju it t i)(h:Q (.ref it) s):wpAny (model prog w) A (pyIter (.ref it)) Q E s:=by
 refine wpAny_pyIter_slot g.typeIs F.oh (A2 F.oh g.typeIs F.qe ?_ (F.qm _));show wpAny _ _ (ret (.ref it)) _ _ s;exact AE ⟨_,rfl,"reversed",_,g.typeIs,F.jr.lookup,h⟩
end
end PySem
namespace PySem
section
open PyProof.Rows
def Je{prog:Program}{w:World}{A:Around}(hh:A.handled=none)(I t:Addr)(aa:t≠I)(g:Array Value)(Z:(g.size:Int) < 2 ^ 63):
  Walks prog w A I [I,t] [I] g.size (fun i v=>g[g.size - 1 - i]?=some v) (fun i h=>i<=g.size/\h.ju I t ((g.size:Int) - 1 - (i:Int))/\IsTup h t g) where
 sub:=fun b q=>by simp at q;simp[q]
 frame:=fun _ _ _ x N=>⟨x.1,x.2.1.at fun o e=>N I (by simp) o e,let ⟨o,L,r⟩:=x.2.2;⟨o,N t (by simp) o L,r⟩⟩
 item:=fun i s Q E hi x B=>by
  have e:(g.size:Int) - 1 - (i:Int)=((g.size - 1 - i:Nat):Int):=by omega
  have D:=x.2.1;rw[e] at D;have S:g[g.size - 1 - i]?=some (g[g.size - 1 - i]'(by omega)):=Bx (by omega);refine VA D x.2.2 S Z fun h' ab M O=>?_;have U:((g.size - 1 - i:Nat):Int) - 1=(g.size:Int) - 1 - ((i+1:Nat):Int):=by omega
  rw[U] at M;exact B _ h' ab S ⟨hi,M,let ⟨o,L,r⟩:=x.2.2;⟨o,(O.2 t aa).trans L,r⟩⟩ fun b o q J=>O.extBut b o (fun h=>q (by simp[h])) J
 done:=fun s Q E x B=>by
  have e:(g.size:Int) - 1 - (g.size:Int) = -1:=by omega
  have D:=x.2.1;rw[e] at D;exact Dc hh D fun h' Y=>B h' s.toks fun b o q J=>Y b o (fun h=>q (by simp[h])) J
 self:=fun _ _ _ _ x B=>Qx x.2.1 B
variable {prog:Program}{w:World}{A:Around}{E:Value->Shared->Prop}{s:Shared}
def VU{I t:Addr}{g:Array Value}{Q:Bool->Shared->Prop}(B:s.heap.ju I t ((g.size:Int) - 1))(S:IsTup s.heap t g)(O:g.size<=sizeLine)(h:∀Z,Q ((g.size:Int) != 0) { s with toks:=Z }):wpAny (model prog w) A (Builtin.List.listLengthHint (.ref I)) Q E s:=by
 obtain⟨o,L,hc,D⟩:=id B;rw[Bi] at O;unfold Builtin.List.listLengthHint;refine AC (Au B.typeIs F.sy ?_);refine AC (Au B.typeIs F.j7.lookup ?_);generalize J:("reversed.__length_hint__" : String)=Y
 wp_delta
 rw[show splitId Y=some ("reversed","__length_hint__") from by subst J;decide +kernel];subst J;refine AC (BL (b:=true) B.typeIs (by rw[Br];kernel_rfl) ?_);refine Ac (fun q=>absurd q (by decide)) (fun _=>?_);refine Ac (fun q=>absurd q (by decide +kernel)) (fun _=>?_);refine AC (BS ?_);refine AC (Bg (F.j7.bind _) ?_)
 refine AC (wpAny_attempt (A2 F.j7 B.typeIs F.qg ?_ (F.qt _)));unfold Builtin.«reversed.__length_hint__»;refine AC (Bg (a:=Value.ref I) rfl ?_);refine AC (Bh L D (x:=.ref t) rfl ?_);refine Ac (fun q=>absurd q (by simp)) (fun _=>?_);refine AC (len_tuple S (by omega) ?_);refine AC (m:=asInt? _) (AE ?_)
 try dsimp only
 refine AC (Bh (s:={ s with toks:=s.toks+1+1 }) L D (x:=rawInt ((g.size:Int) - 1)) rfl ?_);show wpAny _ _ (if (g.size:Int) < ((g.size:Int) - 1)+1 then _ else _) _ _ _;rw[Am (by omega)];rw[show(g.size:Int) - 1+1=g.size by omega];refine AC (wpAny_mkInt (AE ⟨_,rfl,?_⟩));dsimp only;have M:asInt? (Value.int (g.size:Int) (s.toks+1+1))=pure (some (g.size:Int)):=by with_unfolding_all rfl
 rw[M,pure_bind];dsimp only
 have N:Builtin.List.listFitsIndex (g.size:Int)=true:=by
  unfold Builtin.List.listFitsIndex;rw[Ax];exact⟨Ai (by omega),Ai (by omega)⟩
 have U:Builtin.List.listTooLong ((g.size:Int).toNat)=false:=by simp[Builtin.List.listTooLong,sizeLine_eq];omega
 have h0:¬ (g.size:Int) < 0:=by omega
 rw[N,U,Am (show ¬ (!true)=true by decide),Am h0,Am AU];exact AE (h _)
def XY{R:Result->Shared->Prop}{I t:Addr}(hh:A.handled=none)(av:t≠I)(g:Array Value)(S:Addr)(N:Value)(ab:Nat)(Y:S≠I)(ae:S≠t)(L:s.heap.ju I t ((g.size:Int) - 1))(ht:IsTup s.heap t g)(U:s.heap.get? S=some { cls:=.type "list",data:=.seq #[] ab })(hR:∀h' q J B,(∀b o,b≠S->b≠I->s.heap.get? b=some o->h'.get? b=some o)->h'.get? S=some { cls:=.type "list",dict:=none,data:=.seq J B,slots:=#[] } ->
   ItemsOf (fun i v=>g[g.size - 1 - i]?=some v) J g.size->R (.ok (.ret N)) { s with heap:=h',toks:=q })(hn:g.size<=sizeLine):
  wpAny (model prog w) A.in1 (Builtin.List.listExtendWith (.ref S) (.ref I) N)
   (fun ah s'=>match ah with | .done f=>R (.ok f) s' | .again B=>B.quiet=true/\codeAny (model prog w) A B R s') (fun e s'=>R (.error e) s') s:=by
 have au:(g.size:Int) < 2 ^ 63:=by rw[Bi] at hn;omega
 have aj:S∉[I,t]:=fun M=>by
  rcases AX.mp M with e | e
  .exact Y e
  .exact ae (AJ.mp e)
 have W:=(Je (prog:=prog) (w:=w) (A:=A.in1) hh I t av g au).toS
 have ag:∀(h:Heap)(O q:Nat),(∀b o,b≠S->s.heap.get? b=some o->h.get? b=some o) ->
   h.get? S=some { cls:=.type "list",data:=.seq #[] O }->codeAny (model prog w) A (.builtin "list.extend.loop" ⟨[.ref S,.ref I,N],[]⟩) R { s with heap:=h,toks:=q }:=by
  intro h O q Z ak;refine codeAny_extend_loopS W hn S aj N g.size 0 _ #[] O rfl (AM _) ⟨AM _,by simpa using L.at fun o e=>Z I o (Ne.symm Y) e,let ⟨o,ho,r⟩:=ht;⟨o,Z t o (Ne.symm ae) ho,r⟩⟩ ak (ItemsOf.nil _) fun s' J B M ai aq=>?_;rw[Moved.eq_with M];refine hR s'.heap s'.toks J B (fun b o D ar e=>M.heap b o (fun aa=>?_) (Z b o D e)) ai aq
  rcases AX.mp aa with e' | aa
  .exact D e'
  .exact ar (AJ.mp aa)
 unfold Builtin.List.listExtendWith;refine AC (wpAny_typeOf L.typeIs ?_);have h1:Builtin.List.listSameRef (.ref S) (.ref I)=false:=by simp[Builtin.List.listSameRef,Y]
 have h2:(Value.type "reversed" == Value.type "list")=false:=by decide
 have h3:(Value.type "reversed" == Value.type "tuple")=false:=by decide
 simp only[h1,h2,h3,Bool.or_false,Bool.false_eq_true,if_false]
 refine AC (Qx L ?_);refine AC (BE (VU L ht hn fun q=>?_));refine Ac (fun _=>?_) (fun _=>AE ⟨plainId_quiet F.plain_extend_loop _,ag _ ab _ (fun b o _ e=>e) U⟩);refine AC (BS ?_);refine AC ?_;show wpAny _ _ (updateSeq S (·.push .none) >>= fun _=>updateSeq S (·.pop)) _ _ _;refine AC (Ct (s:={ s with toks:=q }) U rfl ?_)
 have af:=BY (Obj.mapSeq (·.push Value.none)) U rfl;refine Ct (hz:=by seq_fits) (s:={ s with heap:=s.heap.update S (Obj.mapSeq (·.push Value.none)),toks:=q }) af rfl ?_;have ao:=BY (Obj.mapSeq (·.pop)) af rfl;exact AE ⟨plainId_quiet F.plain_extend_loop _,ag _ _ _ (fun b o D e=>(BF _ _ (Ne.symm D)).trans ((BF _ _ (Ne.symm D)).trans e)) ao⟩
def vS{R:Result->Shared->Prop}{I t:Addr}(hh:A.handled=none)(ag:t≠I)(g:Array Value)(S:Addr)(N:S≠I)(O:S≠t)(af:s.heap.ju I t ((g.size:Int) - 1))(ht:IsTup s.heap t g)(J:s.heap.get? S=some { cls:=.type "list",data:=.seq #[] })(Y:∀h' M B q,(∀b o,b≠S->b≠I->s.heap.get? b=some o->h'.get? b=some o)->h'.get? S=some { cls:=.type "list",dict:=none,data:=.seq B q,slots:=#[] } ->
   ItemsOf (fun i v=>g[g.size - 1 - i]?=some v) B g.size->R (.ok (.ret .none)) { s with heap:=h',toks:=M })(hn:g.size<=sizeLine):
  wpAny (model prog w) A.in1 (Builtin.«list.__init__» ⟨[.ref S,.ref I],[]⟩)
   (fun U s'=>match U with | .done f=>R (.ok f) s' | .again q=>q.quiet=true/\codeAny (model prog w) A q R s') (fun e s'=>R (.error e) s') s:=by
 apply AC
 refine AC (Cf J rfl (AE (AC (Ct J rfl ?_))));have aa:=BY (Obj.mapSeq (fun _=>(#[]:Array Value))) J rfl
 have L:∀b o,b≠S->s.heap.get? b=some o->(s.heap.update S (Obj.mapSeq (fun _=>(#[]:Array Value)))).get? b=some o :=
  fun b o D e=>(BF _ _ (Ne.symm D)).trans e
 exact AC (wpAny_letGo (XY (s:={ s with heap:=s.heap.update S (Obj.mapSeq (fun _=>(#[]:Array Value))) }) hh ag g S .none _ N O (af.at fun o e=>L I o (Ne.symm N) e) (let ⟨o,ho,r⟩:=ht;⟨o,L t o (Ne.symm O) ho,r⟩) aa (fun h' M B q hk Z ab=>Y h' M B q (fun b o D ae e=>hk b o D ae (L b o D e)) Z ab) hn))
def cS{Q:Value->Shared->Prop}{I t:Addr}(hh:A.handled=none)(ae:t≠I)(g:Array Value)(M:s.heap.ju I t ((g.size:Int) - 1))(N:IsTup s.heap t g)(Y:∀h' J B D,(∀b o,b≠I->s.heap.get? b=some o->h'.get? b=some o)->h'.get? s.heap.objs.size=some { cls:=.type "list",dict:=none,data:=.seq B D,slots:=#[] } ->
   ItemsOf (fun i v=>g[g.size - 1 - i]?=some v) B g.size->Q (.ref s.heap.objs.size) { s with heap:=h',toks:=J })(hn:g.size<=sizeLine):
  wpAny (model prog w) A (call (.type "list") [.ref I]) Q E s:=by
 have U:=let ⟨o,q,_⟩:=M;Aa q
 have ab:=let ⟨o,q,_⟩:=N;Aa q
 refine callType_codes (Q₁:=fun O S=>O=.ref s.heap.objs.size/\S={ s with heap:=s.heap.push { cls:=.type "list",data:=.seq #[] } }) F.called_list (F.typeCall_list_1 _) F.entry_list_init
  (code_list_new _ ⟨rfl,rfl⟩) fun O S af=>?_
 obtain⟨rfl,rfl⟩:=af;have L:(s.heap.push { cls:=.type "list",data:=.seq #[] }).get? s.heap.objs.size=some { cls:=.type "list",data:=.seq #[] }:=Ae _ rfl;refine⟨⟨_,L,rfl⟩,F.args_list_init_2 _ _,vS (A:=A.in1) hh ae g _ (fun e=>BM _ (e▸U)) (fun e=>BM _ (e▸ab)) (M.at fun o e=>AW _ e) (let ⟨o,q,r⟩:=N;⟨o,AW _ q,r⟩) L (fun h' J B D hk Z aa=>?_) hn⟩
 exact⟨rfl,Y h' J B D (fun b o hb e=>hk b o (Av (Aa e)) hb (AW _ e)) Z aa⟩
end
end PySem
namespace L2
open PySem PySem.W PyProof.Rows
section
variable {X:Cx}
abbrev Fo(z:Nat)(it p:Addr)(n:Nat):Heap->Prop:=fun h=>z<=it/\h.ju it p ((n:Int) - 1)
def uR:CallR X (.type "reversed") (fun xs H Q=>∃p ys,xs=[.ref p]/\H p=some (.tup ys)/\∀it,H it=none->Q (.ref it) (upd H it (.ext (Fo X.s₀.heap.objs.size it p ys.length)))):=by
 intro pins s σ H xs us Q I r h;obtain⟨p,ys,rfl,J,q⟩:=h;obtain⟨u,rfl,rfl⟩:=yG r;obtain⟨its,g,pl,hz⟩:=I.tuple (SqT.of J);have D:(its.toArray.size:Int) < 2 ^ 63:=by rw[AV,<- g.length];rw[Bi] at hz;omega
 refine Wx pl D ⟨.ref s.heap.objs.size,_,I.laid (t':=s.toks+1+1) (fun b o e=>AW _ e) (AO _) ?_,rfl,q _ (I.hok.fresh (AO _))⟩;refine⟨⟨I.sz,_,Ae _ rfl,rfl,by simp[wy,g.length]⟩,⟨_,Ae _ rfl⟩,?_⟩;rintro h1 h2 ⟨z,B⟩ e;exact⟨z,B.at e⟩
def lS(S:X.calm=true):CallR X (.type "list") (fun xs H Q=>∃it p ys,xs=[.ref it]/\H it=some (.ext (Fo X.s₀.heap.objs.size it p ys.length))/\H p=some (.tup ys)/\∀l,H l=none->Q (.ref l) (upd (drop H it) l (.lst ys.reverse))):=by
 intro pins s σ H xs us Q I r h;obtain⟨it,p,ys,rfl,hi,g,q⟩:=h;obtain⟨u,rfl,rfl⟩:=yG r;obtain⟨its,L,pl,hz⟩:=I.tuple (SqT.of g);have J:=L.length;obtain⟨⟨h0,Y⟩,_,_⟩:=(I.hok it _ hi);have U:p≠it:=fun z=>by rw[z,hi] at g;cases g
 refine cS (I.ok.hd S) U its.toArray (by rw[AV,<- J];exact Y) pl (fun h' aa B M Z e D=>?_) (by rw[AV,<- J];exact hz)
 have O:B=its.reverse.toArray:=by
  apply Array.ext
  .rw [D.1,AV,AV,A1]
  .intro i h1 h2
   have:=D.2 i B[i] (Bx h1);rw[AV,List.getElem?_toArray] at this;have ab:i < its.length :=by simp_all
   rw[AL (by omega)] at this;have N:its.reverse.toArray[i]=its[its.length - 1 - i]:=by simp
   exact N▸(An this).symm
 subst O;exact⟨.ref s.heap.objs.size,_,I.gone (t':=aa) hi h0 Z (AO _) (show ObjOk X.prog X.w _ h' _ (.lst ys.reverse) from⟨by rw[A1];exact hz,its.reverse,M,Kx L,e⟩),rfl,q _ (I.hok.fresh (AO _))⟩
end
end L2
namespace CL
open PySem PySem.Spec L2 PySem.W
open PyProof.Rows hiding St
section
variable {X:Cx}{a b c e o i f value:Expr}{es:List Expr}{pos pos':Pos}
@[irreducible] def Z6:PV->CH->K1->Prop:=fun x C Q=>match x with
 |.tup xs=>∀p,C p=none->Q (.ref p) (gQ C p (.lst xs.reverse))
 |_=>False
def Ke(g:jf):jf:=fun q C Q=>g q C fun x C1=>Z6 x C1 Q
def Q5(M:X.calm=true)(O:Gl X "list")(S:Gl X "reversed")(U:X.mg "list" = none)(Y:X.mg "reversed" = none)(N:CE X e J)(hs:hX e=true:=by rfl):
  CE X (.Call (.Name "list" p) [.Call (.Name "reversed" p2) [e] [] aa] [] pos) (Ke J):=⟨JE.weak (sL (lS M) O U rfl (tE (sL uR S Y rfl (tE N.h ⟨cL⟩ hs) (by decide) rfl hs rfl) ⟨cL⟩)) fun σ H Q zz=>eX zz fun ρ C R s h q f=>
  ⟨ρ,C,_,s,h,q,fun x H1 px C1 D rx h1 L=>by
   delta Z6 at D
   split at D
   .next xs =>
    cases rx with
    |@tup a vs ts B rv =>
    refine⟨_,vs,rfl,B,fun it I=>⟨it,_,vs,rfl,vX,?_,fun l g=>?_⟩⟩
    .rw [cX (fun z=>by rw[z,I] at B;cases B)];exact B
    .have Z:l≠it:=fun z=>by rw[z,vX] at g;cases g
     rw[cX Z] at g;rw[We I];exact f _ _ _ _ (D l (h1.fresh g)) (.ref l) (h1.lay g ⟨_,vX,rv.reverse.gw (jz.new g _)⟩) (L.trans (Fw.lay g _ _))
   .exact D.elim⟩⟩
def ZH{xs:List PV}{C:CH}{Q:K1}(q:∀g,C g=none->Q (.ref g) (gQ C g (.lst xs.reverse))):Z6 (.tup xs) C Q:=by
 unfold Z6;exact q
end
section
variable {X:Cx}{pos:Pos}
end
end CL
namespace L2
open PySem PySem.Spec PySem.Builtin.Str
open PyProof.Rows hiding St
section
variable {X:Cx}
def Gs:V->List V->Hp->VK->Prop:=fun x vs H Q=>∃z y,x=.str z/\vs=[.str y]/\(y.length==0)=false/\z.length<=sizeLine/\(partsBetween z (occurrences z y 0 z.length (z.length+1)) y.length).length<=sizeLine/\(Txt.split z y).length<=sizeLine /\
 ∀p,H p=none->Q (.ref p) (upd H p (.lst ((Txt.split z y).map V.str)))
theorem qT:∀(l:List (Str×Tok)),Vals ((l.map (·.1)).map V.str) (strValues l)
 |[]=>.nil
 | (z,t)::l=>.cons ⟨t,rfl⟩ (qT l)
def VC:MtR X "str.split" Gs:=by
 intro pins s σ H x vs v us Q I O N h;obtain⟨z,y,rfl,rfl,D,hz,L,J,q⟩:=h;obtain⟨t,rfl⟩:=O;obtain⟨S,rfl,M⟩:=N.one;obtain⟨u,rfl⟩:=M
 have B:∀(l:List (Str×Tok))(t':Nat),l.map (·.1)=Txt.split z y->EP X pins σ Q (.ref s.heap.objs.size) { s with heap:=s.heap.push { cls:=.type "list",data:=.seq (strValues l).toArray },toks:=t' }:=fun l t' e=>
  ⟨.ref _,_,I.lnew (ys:=(Txt.split z y).map V.str) (t':=t') (by rw[<- e];exact qT l) (by rw[AB];exact J),rfl,q _ I.fresh⟩
 cases h1:(decide (z.length < y.length) || decide (strKind z < strKind y))
 .cases g:(occurrences z y 0 z.length (z.length+1)).isEmpty
  .refine BU Cq (Bq _ _ _) F.entry_str_split (F.args_str_split_2 _ _) (meets_str_split_sep z y t u h1 D g hz L) ?_
   show wants (EP X pins σ Q) X.xe _ { s with toks:=_,heap:=s.heap.push { cls:=.type "list",data:=.seq (strsFrom s.toks (partsBetween z (occurrences z y 0 z.length (z.length+1)) y.length)).toArray } };rw[strsFrom_eq];exact B (numbered s.toks _) _ ((numbered_texts _ _).trans ((Am (ne_true_of_eq_false h1)).trans (Am (ne_true_of_eq_false g))).symm)
  .exact BU Cq (Bq _ _ _) F.entry_str_split (F.args_str_split_2 _ _) (meets_str_split_not_found z y t u h1 D g)
    (B [(z,t)] s.toks ((Am (ne_true_of_eq_false h1)).trans (Al g)).symm)
 .exact BU Cq (Bq _ _ _) F.entry_str_split (F.args_str_split_2 _ _) (meets_str_split_cannot_occur z y t u h1)
   (B [(z,t)] s.toks (Al h1).symm)
end
end L2
namespace CL
open PySem PySem.Spec L2 PySem.Builtin.Str
open PyProof.Rows hiding St
section
variable {X:Cx}{o e:Expr}{co ca:jf}
def Ig(co ca:jf):jf:=fun g C Q=>co g C fun x C1=>∃z,x=.str z/\ca g C1 fun y C2=>∃w,y=.str w/\(w.length==0)=false/\z.length<=sizeLine/\(partsBetween z (occurrences z w 0 z.length (z.length+1)) w.length).length<=sizeLine/\(Txt.split z w).length<=sizeLine /\
 ∀p,C2 p=none->Q (.ref p) (gQ C2 p (.lst ((Txt.split z w).map PV.str)))
theorem mT{K:DD}{H:Hp}:∀zs:List Str,iw K H (zs.map V.str) (zs.map PV.str)
 |[]=>.nil
 |z::zs=>.cons (.str z) (mT zs)
def Ws{apos cpos:Pos}(Y:CE X o co)(L:CE X e ca)(M:attributeBase o "split" X.env (eval o X.env)=eval o X.env:=by rfl)(N:((backTo cpos (starEach [e] X.env)).all (fun x=>!x.1)&&(backToKw cpos (keywordEach [] X.env)).all (fun x=>x.1.isSome)
   && decide ([e].length+([]:List Keyword).length+(if ([]:List Keyword).isEmpty then 0 else 1) < 30))=true:=by rfl)(S:(apos.endLine==cpos.line)=true:=by rfl)(hs:hX e=true:=by rfl):CE X (.Call (.Attribute o "split" apos) [e] [] cpos) (Ig co ca) :=
 ⟨JE.weak ⟨Vk F.plainAttrs_str Cq F.type_str_split VC Y.h.h (bE L.h.h cL hs) M N S (xJ hs)⟩ fun σ H Q zz=>eX zz fun B C R s h aa f=>
  ⟨B,C,_,s,h,aa,fun x H1 px C1 ⟨z,D,q1⟩ rx h1 q=>by
   subst D;cases rx;refine⟨rfl,B,C1,_,s.gw (q.gw h),h1,q1,fun y H2 ab C2 ⟨w,I,Z,hz,U,O,q2⟩ ry h2 J=>?_⟩;subst I;cases ry;refine⟨z,w,rfl,rfl,Z,hz,U,O,fun p g=>?_⟩
   exact f _ _ _ _ (q2 p (h2.fresh g)) (.ref p) (h2.lay g ⟨_,vX,mT _⟩) (q.trans (J.trans (Fw.lay g _ _)))⟩⟩
end
end CL
namespace L2
open PySem PySem.Spec PySem.Builtin.Str
open PyProof.Rows hiding St
section
variable {X:Cx}
abbrev WK(z y:Str):Bool:=0+y.length<=z.length&&subAt z y 0
def wK:V->List V->Hp->VK->Prop:=fun x vs H Q=>∃z y,x=.str z/\vs=[.str y]/\Q (.bl (WK z y)) H
def Jw:MtR X "str.startswith" wK:=by
 intro pins s σ H x vs v us Q I D B h;obtain⟨z,y,rfl,rfl,q⟩:=h;obtain⟨t,rfl⟩:=D;obtain⟨J,rfl,g⟩:=B.one;obtain⟨u,rfl⟩:=g;exact call_gives F.slot_str_startswith (Bq _ _ _) F.entry_str_startswith (F.args_str_startswith_2 _ _) (gives_str_startswith z y t u) ⟨.bl _,H,I,rfl,q⟩
end
end L2
namespace CL
open PySem PySem.Spec L2 PySem.Builtin.Str
open PyProof.Rows hiding St
section
variable {X:Cx}{o e:Expr}{co ca:jf}
def DP(co ca:jf):jf:=fun g C Q=>co g C fun x C1=>∃z,x=.str z/\ca g C1 fun y C2=>∃w,y=.str w/\Q (.bl (WK z w)) C2
def J6{apos cpos:Pos}(S:CE X o co)(L:CE X e ca)(M:attributeBase o "startswith" X.env (eval o X.env)=eval o X.env:=by rfl)(N:((backTo cpos (starEach [e] X.env)).all (fun x=>!x.1)&&(backToKw cpos (keywordEach [] X.env)).all (fun x=>x.1.isSome)
   && decide ([e].length+([]:List Keyword).length+(if ([]:List Keyword).isEmpty then 0 else 1) < 30))=true:=by rfl)(O:(apos.endLine==cpos.line)=true:=by rfl)(hs:hX e=true:=by rfl):CE X (.Call (.Attribute o "startswith" apos) [e] [] cpos) (DP co ca) :=
 ⟨JE.weak ⟨Vk F.plainAttrs_str F.slot_str_startswith F.type_str_startswith Jw S.h.h (bE L.h.h cL hs) M N O (xJ hs)⟩ fun σ H Q zz=>eX zz fun B C R s h q f=>
  ⟨B,C,_,s,h,q,fun x H1 px C1 ⟨z,D,U⟩ Z h1 g=>by
   subst D;cases Z;refine⟨rfl,B,C1,_,s.gw (g.gw h),h1,U,fun y H2 aa C2 ⟨w,I,Y⟩ ry h2 J=>?_⟩;subst I;cases ry
   exact⟨z,w,rfl,rfl,f _ _ _ _ Y (.bl _) h2 (g.trans J)⟩⟩⟩
end
end CL
namespace L2
open PySem PySem.Spec
open PyProof.Rows hiding St
section
variable {X:Cx}{pins:List (Addr×Obj)}{σ:List (Option V)}{H H':Hp}{s:Shared}{h':Heap}
def Inv.v7{t':Nat}{its:List Addr}{a:Addr}{o:HO}(I:Inv X pins σ H s)(k:∀b o,b∉its->s.heap.get? b=some o->h'.get? b=some o)(D:∀b∈its,mI X pins H b)(L:s.heap.objs.size<=a)(U:ObjOk X.prog X.w (upd H a o) h' a o):Inv X pins σ (upd H a o) { s with heap:=h',toks:=t' }:=by
 have O:=I.hok.fresh L;have J:∀b u,H b=some u->upd H a o b=some u:=fun b u e=>by rw[cX (qK e O)];exact e
 have M:∀b u,H b=some u->b∉its:=fun b u e z=>by rw[(D b z).1] at e;cases e
 refine I.step (g':=s.gens) (d':=s.drawn) (ch:=its) (fun b g=>⟨(D b g).2.2.2.1,(D b g).2.1,(D b g).2.2.2.2.1,(D b g).2.2.2.2.2⟩) (fun b o _ _ B e _=>k b o B e) (fun b o _ _ B e _=>⟨o.slots,k b o B e⟩) (fun b Y _ e n=>?_)
  (fun b o B e=>⟨o,k b o B e⟩) (fun b _ e=>J b _ e) (fun b _ _ e=>J b _ e) (fun b ps e=>⟨#[],by rw[J b _ e];simp⟩) (fun m N=>?_) (fun b u e=>?_) I.bare
 .rw [cX (Av (AK (Aa e) L))];exact n
 .obtain ⟨o,es,ep,S,r⟩:=N
  exact⟨o,es,ep,k _ o (fun z=>(D _ z).2.1 rfl) S,r⟩
 .by_cases g:b=a
  .subst g;rw[vX] at e;cases e;exact U
  .rw [cX g] at e
   refine(I.hok b u e).stay (fun c v B q=>k c v ?_ q) (fun c q=>J c _ q) fun c _ q=>J c _ q
   rcases B with z | z
   .rw [z];exact M b u e
   .exact M c _ z
end
def Ite(K:DD)(a:Addr):It :=
 ⟨fun i H=>∃xs x,SqL K H a xs/\xs[i]?=some x,fun i H x H'=>∃b y,x=.ref b/\H b=none/\H'=upd H b (.tup [.int i,y])/\∀xs,SqL K H a xs->xs[i]?=some y,fun i H=>∃xs,SqL K H a xs/\xs.length<=i⟩
def Jg{P:Program}{w:World}{K:DD}{es:List Expr}{x1:Nat}{ax:Pos}(a e it:Addr)(af:e≠it)(a0:a≠e)(a3:a≠it):
  Xb P w K (.Tuple es x1 ax) (Ite K a) [e,it] e (fun i h=>∃D,IsEnum h e it ((i:Nat):Int) D/\h.IsListIter it a i) where
 mem:=by simp
 obj:=fun i h ⟨D,B,o,Z,U,aj⟩ b g=>by
  rcases AX.1 g with rfl | g
  .exact ⟨_,B,fun v z=>by cases z⟩
  .have J:b=it:=by simpa using g
   subst J;exact⟨o,Z,fun v z=>by rw[aj] at z;cases z⟩
 keep:=fun i h h' ⟨D,B,st⟩ k=>⟨D,k e (by simp) _ B,st.at fun o q=>k it (by simp) o q⟩
 item:=by
  intro X S aa O U i pins s σ H E I M ⟨D,B,st⟩ Y;subst S aa O;obtain⟨xs,x,N,hx⟩:=Y;obtain⟨its,rv,p,hz⟩:=I.list N;obtain⟨u,hu,ru⟩:=rv.get hx;refine wpAny_pyNext_enum_item B st p.isList (x:=u) (by simpa using hu) af fun aw ak aq au az ar=>?_;refine⟨_,rfl,wpAny_letOwnedTupleGo_enum ak fun ae ao L=>?_⟩
  replace L:Heap.SameBut e aw ae:=L
  have ab:e < s.heap.objs.size:=Aa B;have av:=(L.2 _ (Nat.ne_of_gt ab)).trans au
  have I1:Inv X pins σ (upd H s.heap.objs.size (.tup [.int i,x])) { s with heap:=ae,toks:=s.toks+1 } :=
   I.v7 (its:=[e,it]) (fun b o g q=>(L.2 b (fun z=>g (by simp[z]))).trans (ar b o (fun z=>g (by simp[z])) (fun z=>g (by simp[z])) q)) M (AO _)
    ⟨y0 2 rfl,[.int i s.toks,u],.cons ⟨_,rfl⟩ (.cons ru .nil),_,av,rfl,⟨_,rfl⟩,rfl⟩
  refine⟨.ref s.heap.objs.size,_,I1,rfl,⟨_,x,rfl,I.hok.fresh (AO _),rfl,fun ys hy=>by rw[I.list_inj hy N];exact hx⟩,⟨u,?_,aq.at fun o q=>(L.2 it (Ne.symm af)).trans q⟩,fun b g=>?_⟩
  .have e1:(((i+1:Nat):Nat):Int)=(i:Int)+1:=by push_cast;rfl
   rw[e1];exact ao
  .rw [cX]
   .exact (M b g).1
   .obtain ⟨o,Z,_⟩:=st
    rcases AX.1 g with rfl | g
    .exact Av ab
    .have J:b=it:=by simpa using g
     rw[J];exact Av (Aa Z)
 done:=by
  intro X S aa O U i pins s σ H E I M ⟨D,B,st⟩ Y;subst S aa O;obtain⟨xs,N,hx⟩:=Y;obtain⟨its,rv,p,hz⟩:=I.list N;obtain⟨ag,ah,ay,f3,ai,f5⟩:=M it (by simp);have hl:=rv.length;exact wpAny_pyNext_enum_end (I.ok.hd U) B st p.isList (by simp;omega) fun h' J=>⟨rfl,I.turned (t':=s.toks) (fun b o g q=>J b o g q) ag ah f3 ai f5⟩
 self:=fun _ _ _ _ _ ⟨_,B,_⟩ h=>wpAny_pyIter_enum B h
section
variable {X:Cx}
def Fq(K:DD)(ta:TA):TI:=fun σ H R=>ta σ H fun vs H1=>∃a xs,vs=[.ref a]/\H1 a=some (.lst xs)/\R (Ite K a) H1
def Kg:bootBuiltins "enumerate" = some (.type "enumerate"):=by decide +kernel
def xr{es:List Expr}{x1:Nat}{aa:Pos}{a:Expr}{ta:TA}{p pos:Pos}(S:Gl X "enumerate")(Z:X.mg "enumerate" = none)(O:PA X [a] ta)(hs:starEach [a] X.env=[(false,eval a X.env)]:=by rfl):
  PI X (.Tuple es x1 aa) (.Call (.Name "enumerate" p) [a] [] pos) (Fq X.K ta):=by
 intro pins s σ H R I h;refine Call_ (rL I S Z Kg (Bo (thn (O pos pins s σ H _ I h) fun us g ⟨vs,H1,q,r1,q1⟩=>?_) hs rfl));obtain⟨l,xs,e,L,ab⟩:=q1;subst e
 cases r1 with
 |cons r rr =>
  cases rr;cases r;obtain⟨its,rv,pl,hz⟩:=q.list (SqL.of L);refine call_enumerate_list pl.isList fun h' J U hsz Y=>?_;have N:Inv X pins σ H1 { g with heap:=h' }:=q.kept (t':=g.toks) Y;have M:l < g.heap.objs.size:=q.hok.lt L;refine wpAny_pyIter_enum J ⟨g.heap.objs.size+1,[g.heap.objs.size+1,g.heap.objs.size],_,_,H1,rfl,N,Jg l _ _ (Nat.succ_ne_self _) (Av (Nat.lt_succ_of_lt M)) (Av M),⟨_,J,U⟩,fun b B=>?_,ab⟩
  have D:g.heap.objs.size<=b:=by
   rcases AX.1 B with rfl | B
   .exact B9 _
   .have e:b=g.heap.objs.size:=by simpa using B
    exact Nat.le_of_eq e.symm
  exact q.fpOk D (q.hok.fresh D)
end
end L2
namespace PySem
open Sem (wp)
structure kB(prog:Program)(w:World)(K:Type)[DecidableEq K]where
 is:Heap->K->Value->Prop
 hash:K->Int
 draws:K->Nat
 room:Around->Prop
 inj:∀{h:Heap}{v:Value}{x y:K},is h x v->is h y v->x=y
 keeps:∀{h h':Heap}{k:K}{v:Value}{d:Addr}{o:Obj}{es:Array DictEntry}{ep:Nat},is h k v->h.get? d=some o->o.data=.dict es ep->Heap.SameBut d h h'->is h' k v
 pyHash:∀{A:Around}{E:Value->Shared->Prop}{s:Shared}{k:K}{v:Value}{Q:Int->Shared->Prop},room A->is s.heap k v->Q (hash k) { s with toks:=s.toks+draws k }->wpAny (model prog w) A (pyHash v) Q E s
 eqBool:∀{A:Around}{E:Value->Shared->Prop}{s:Shared}{x y:K}{u v:Value}{Q:Bool->Shared->Prop},room A->is s.heap x u->is s.heap y v->Q (decide (x=y)) s->wpAny (model prog w) A (eqBool u v) Q E s
 quiet:∀{A:Around}{E:Value->Shared->Prop}{s:Shared}{k:K}{v:Value}{Q:Bool->Shared->Prop},is s.heap k v->Q true s->wpAny (model prog w) A (eqIsQuiet 8 v) Q E s
 sx:∀{h:Heap}{k k':K}{x:Str}{t:Tok}{v:Value},is h k (.str x t)->is h k' v->isExactStrKey v=true->(k'=k↔v.isStr x=true)
section
variable {prog:Program}{w:World}{K:Type}[DecidableEq K]{knd:kB prog w K}{A:Around}{E:Value->Shared->Prop}{s:Shared}{d:Addr}{o:Obj}{es:Array DictEntry}{ep:Nat}{xs:List (K×Value×Value)}{k:K}{u:Value}
def bV(knd:kB prog w K)(x:K×Value×Value):DictEntry:=⟨knd.hash x.1,x.2.1,x.2.2⟩
def Heap.j6(knd:kB prog w K)(h:Heap)(d:Addr)(xs:List (K×Value×Value)):Prop:=∃o es ep,h.get? d=some o/\o.ExactDict/\o.data=.dict es ep/\es.toList=xs.map (bV knd)/\(∀x∈xs,knd.is h x.1 x.2.1)/\(xs.map (·.1)).Nodup
structure j9(knd:kB prog w K)(s:Shared)(d:Addr)(es:Array DictEntry)(ep:Nat)(xs:List (K×Value×Value))(k:K)(u:Value):Prop where
 h1:∃o,s.heap.get? d=some o/\o.data=.dict es ep
 kk:knd.is s.heap k u
 h4:es.toList=xs.map (bV knd)
 h5:∀x∈xs,knd.is s.heap x.1 x.2.1
 h6:(xs.map (·.1)).Nodup
abbrev Ls(knd:kB prog w K)(es:Array DictEntry)(k:K):List Nat:=placesWithHash es.size (fun i=>Option.map (fun x=>x.hash) es[i]?) (knd.hash k)
section
variable (F:j9 knd s d es ep xs k u)
include F
def j9.ent(i:Nat):es[i]?=(xs[i]?).map (bV knd):=by rw[<- DA,F.h4,Ah]
def j9.mem{j:Nat}{p:Value×Value}(h:xs[j]?=some (k,p)):j∈Ls knd es k:=by
 have e:=F.ent j;rw[h] at e;have hj:j < es.size:=(Array.getElem?_eq_some_iff.1 e).1;refine Cw.2 ⟨Bu.2 hj,?_⟩;dsimp only;rw[e]
 simp[bV]
theorem j9.at{i:Nat}(h:i∈Ls knd es k):∃x,xs[i]?=some x/\es[i]?=some (bV knd x)/\knd.hash x.1=knd.hash k/\knd.is s.heap x.1 x.2.1:=by
 obtain⟨h1,h2⟩:=Cw.1 h;dsimp only at h2;have e:=F.ent i
 cases g:xs[i]? with
 |none=>rw[g] at e;rw[e] at h2;simp at h2
 |some x =>
  rw[g] at e;rw[e] at h2;exact⟨x,rfl,e,by simpa [bV] using h2,F.h5 x (Ao g)⟩
def j9.one{i j:Nat}{x y:K×Value×Value}(hi:xs[i]?=some x)(hj:xs[j]?=some y)(e:x.1=y.1):i=j:=by
 have l:i < (xs.map (·.1)).length:=by rw[AB];exact(AZ.1 hi).1
 exact(List.getElem?_inj l F.h6).1 (by rw[Ah,Ah,hi,hj,Option.map_some,Option.map_some,e])
def j9.plain{Q:Option Nat->Shared->Prop}(U:knd.room A)(S:(∀(j:Nat)(p:Value×Value),xs[j]?≠some (k,p))->Q none s)(Z:∀(j:Nat)(p:Value×Value),xs[j]?=some (k,p)->Q (some j) s):
  wpAny (model prog w) A (dictWalkPlain d u (knd.hash k) es (Ls knd es k)) Q E s:=by
 obtain⟨o,h1,B⟩:=F.h1;unfold dictWalkPlain;refine AC (BA _ (fun rest r s'=>r.1=none/\s'=s/\(∀i∈rest,i∈Ls knd es k)/\∀(j:Nat)(p:Value×Value),xs[j]?=some (k,p)->j∈rest) _ ?_ ?_ _ _ ⟨rfl,rfl,fun _ h=>h,fun j p h=>F.mem h⟩)
 .rintro i rest r s' ⟨D,rfl,I,q⟩
  obtain⟨x,J,ex,L,N⟩:=F.at (I i AI);rw[ex];dsimp only;refine Ac (fun _=>?_) fun g=>(g (by simp[bV,L])).elim;refine AC (Bz h1 B (AC (knd.eqBool U N F.kk (AC (Bz h1 B ?_)))));refine Ac (fun g=>by simp at g) fun _=>?_;refine Ac (fun g=>?_) fun g=>?_
  .have e:=Af g
   obtain⟨x1,Y⟩:=x;cases e;exact AC (BS (AE (AE (Z i Y J))))
  .have O:x.1≠k:=fun z=>g (Ai z)
   refine AC (BS (AE ⟨rfl,rfl,fun M h=>I M (AF _ h),fun j p hj=>?_⟩))
   rcases AX.1 (q j p hj) with rfl | h
   .rw [J] at hj;cases hj;exact(O rfl).elim
   .exact h
 .rintro ⟨r1,r2⟩ s' ⟨D,rfl,_,q⟩
  cases D;exact AE (S fun j p hj=>nomatch q j p hj)
def j9.tell{Q:Bool->Shared->Prop}(S:List Value)(I:∀v∈S,∃g,knd.is s.heap g v)(q:Q false s):wpAny (model prog w) A (tableMayTell u S) Q E s:=by
 unfold tableMayTell;refine Ac (fun _=>AE q) fun _=>?_;refine AC (knd.quiet F.kk ?_);refine Ac (fun B=>by simp at B) fun _=>?_;refine AC (BA _ (fun rest r s'=>r.1=none/\s'=s/\∀v∈rest,∃g,knd.is s.heap g v) _ ?_ ?_ _ _ ⟨rfl,rfl,I⟩)
 .rintro v rest r s' ⟨D,rfl,h⟩
  obtain⟨g,J⟩:=h v AI;exact AC (knd.quiet J (Ac (fun B=>by simp at B) fun _=>AE ⟨rfl,rfl,fun v L=>h v (AF _ L)⟩))
 .rintro ⟨M,N⟩ s' ⟨D,rfl,_⟩
  cases D;exact AE q
theorem j9.stored:∀v∈List.filterMap (fun i=>Option.map (fun x=>x.key) es[i]?) (Ls knd es k),∃B,knd.is s.heap B v:=fun v g=>by
 obtain⟨i,hi,g⟩:=List.mem_filterMap.1 g;obtain⟨x,_,ex,_,q⟩:=F.at hi;rw[ex] at g;cases g;exact⟨x.1,q⟩
def j9.find{Q:Option Nat->Shared->Prop}(Z:knd.room A)(Y:(∀(j:Nat)(p:Value×Value),xs[j]?≠some (k,p))->Q none s)(N:∀(j:Nat)(p:Value×Value),xs[j]?=some (k,p)->Q (some j) s):
  wpAny (model prog w) A (dictFind d u (knd.hash k)) Q E s:=by
 obtain⟨o,h1,I⟩:=id F.h1;unfold dictFind;refine BE (AC (wpAny_dictEntries h1 I ?_));have hS:=F.stored;have hP:=F.plain (E:=E) Z Y N
 extract_lets P S ar aj ai ah
 have nd:P.Nodup:=List.nodup_range.filter _
 have H2:wpAny (model prog w) A (aj false) Q E s:=by
  dsimp only[aj];refine Ac (fun g=>by simp at g) fun _=>?_;refine AC (BA _ (fun rest r s'=>r.1=none/\s'=s/\(∀i∈rest,i∈P)/\rest.Nodup/\((r.2=none/\∀(j:Nat)(p:Value×Value),xs[j]?=some (k,p)->j∈rest)\/∃(j:Nat)(p:Value×Value),r.2=some j/\xs[j]?=some (k,p)/\j∉rest)) _ ?_ ?_ _ _ ⟨rfl,rfl,fun _ h=>h,nd,.inl ⟨rfl,fun j p h=>F.mem h⟩⟩)
  .rintro i rest ⟨r1,M⟩ s' ⟨ae,rfl,af,J,B⟩
   obtain⟨x,q,ex,hh,ix⟩:=F.at (af i AI);obtain⟨ni,J⟩:=B3.1 J;have ag:∀U∈rest,U∈P:=fun U h=>af U (AF _ h);rw[ex];dsimp only;refine Ac (fun _=>?_) fun g=>(g (by simp[bV,hh])).elim;refine AC (Bz h1 I (AC (knd.eqBool Z ix F.kk (AC (Bz h1 I ?_)))));refine Ac (fun g=>by simp at g) fun _=>?_
   refine Ac (fun g=>?_) fun g=>?_
   .have e:=Af g
    obtain⟨x1,x2⟩:=x;cases e;refine Ac (fun g=>?_) fun _=>?_
    .exfalso
     rcases B with ⟨h,_⟩ | ⟨j,p,_,hj,L⟩
     .have h:M=none:=h
      rw[h] at g;cases g
     .have:=F.one q hj rfl
      subst this;exact L AI
    .exact AC (BS (Ac (fun _=>AE (AE (N i x2 q))) fun _=>AE ⟨rfl,rfl,ag,J,.inr ⟨i,x2,rfl,q,ni⟩⟩))
   .have aq:x.1≠k:=fun z=>g (Ai z)
    refine AC (BS (Ac (fun g=>by simp at g) fun _=>AE ⟨rfl,rfl,ag,J,?_⟩))
    rcases B with ⟨h,B⟩ | ⟨j,p,h,hj,L⟩
    .refine .inl ⟨h,fun j p hj=>?_⟩
     rcases AX.1 (B j p hj) with rfl | h
     .rw [q] at hj;cases hj;exact(aq rfl).elim
     .exact h
    .exact .inr ⟨j,p,h,hj,fun z=>L (AF _ z)⟩
  .rintro ⟨r1,M⟩ s' ⟨ae,rfl,_,_,B⟩
   cases ae
   rcases B with ⟨h,B⟩ | ⟨j,p,h,hj,L⟩
   .have h:M=none:=h
    subst h;exact AE (Y fun j p hj=>nomatch B j p hj)
   .have h:M=some j:=h
    subst h;exact AE (N j p hj)
 have H1:wpAny (model prog w) A (ai ()) Q E s:=by
  dsimp only[ai];exact Ac (fun _=>AC (AE H2)) fun _=>AC (F.tell _ hS H2)
 have H0:wpAny (model prog w) A (ah ()) Q E s:=by
  dsimp only[ah];refine Ac (fun _=>hP) fun _=>?_
  split
  .next a0 _ =>
   refine Ac (fun g=>?_) fun _=>H1
   exfalso
   rw[Array.any_eq_true'] at g;obtain⟨e,ao,g⟩:=g;obtain⟨y,O,rfl⟩:=AS.1 (show e∈xs.map (bV knd) by rw[<- F.h4];exact DC.2 ao);rw[Ax] at g;have e1:y.2.1=.ref a0:=by simpa [bV] using g.1
   have i1:=F.h5 y O;rw[e1] at i1;have:=knd.inj i1 F.kk;have h2:=g.2
   simp[bV,this] at h2
  .exact H1
 split
 .next z x au =>
  refine Ac (fun aa=>?_) fun _=>H0;unfold foundByValue;rw[Array.all_eq_true'] at aa;have ak:∀y∈xs,isExactStrKey y.2.1=true:=fun y O=>aa (bV knd y) (by rw[<- DC,F.h4];exact AS.2 ⟨y,O,rfl⟩)
  cases hi:Array.findIdx? (fun y=>y.key.isStr x) es with
  |none =>
   dsimp only;refine AE (Y fun j p hj=>?_);have e:=F.ent j;rw[hj] at e;have D:=Ao hj;have:=Array.findIdx?_eq_none_iff.1 hi (bV knd (k,p)) (Array.mem_of_getElem? e);have h2:=(knd.sx F.kk (F.h5 _ D) (ak _ D)).1 rfl;have this:p.1.isStr x=false:=this;rw[h2] at this;cases this
  |some i =>
   dsimp only;obtain⟨ab,hp,_⟩:=Array.findIdx?_eq_some_iff_getElem.1 hi;have e:=F.ent i;rw[Bx ab] at e
   cases q:xs[i]? with
   |none=>rw[q] at e;cases e
   |some y =>
    rw[q] at e;have e:=An e;have D:=Ao q;rw[Bx ab,e];dsimp only;rw[e] at hp;have ek:=(knd.sx F.kk (F.h5 _ D) (ak _ D)).2 hp;refine AC (Bz h1 I (AC (knd.eqBool Z (F.h5 _ D) F.kk (AC (Bz h1 I ?_)))));refine Ac (fun g=>by simp at g) fun _=>?_;refine Ac (fun _=>?_) fun g=>(g (Ai ek)).elim
    obtain⟨y1,y2⟩:=y;cases ek;exact AC (BS (AE (N i y2 q)))
 .exact H0
end
end
end PySem
namespace L2
open PySem PySem.Spec PyProof.Rows
def bI(b:Bool):Int:=if b=true then 1 else 0
section
variable {prog:Program}{w:World}{A:Around}{E:Value->Shared->Prop}{s:Shared}
def JQ{Q:Int->Shared->Prop}{b:Bool}(h:Q (hashInt (bI b)) { s with toks:=s.toks+1 }):wpAny (model prog w) A (pyHash (.bool b)) Q E s:=by
 apply AC
 apply AE
 have ty:s.TypeIs (.bool b) "bool":=rfl
 refine AC (Au ty CK.lookup (AC (Au ty CK.lookup (AC (BI ty CK
  (A2 CK ty PySem.F.entry_int_hash ?_ (PySem.F.args_int_hash_1 _)))))))
 cases b
 .unfold Builtin.«int.__hash__»
  wp_walk
  exact⟨_,rfl,AE h⟩
 .unfold Builtin.«int.__hash__»
  wp_walk
  exact⟨_,rfl,AE h⟩
end
abbrev Xd:=Sum Key (List Key)
def M4(prog:Program)(w:World):Xd->Int
 |.inl k=>keyH w k
 |.inr ks=>tupleKeyHash (jZ prog w) ks
inductive uv(prog:Program)(w:World)(h:Heap):Xd->Value->Prop
 |int (i:Int) (t:Tok):uv prog w h (.inl (.inl (some i))) (.int i t)
 |bl (b:Bool):uv prog w h (.inl (.inl (some (bI b)))) (.bool b)
 |str (x:Str) (t:Tok):uv prog w h (.inl (.inr x)) (.str x t)
 |non:uv prog w h (.inl (.inl none)) .none
 |tup {ks:List Key} {a:Addr} (hk:IsTupleKey (jZ prog w) h ks a):uv prog w h (.inr ks) (.ref a)
def G8:Xd->Nat
 |.inl _=>1
 |.inr ks=>ks.length+1
def sI{prog:Program}{w:World}{h:Heap}{ks:List Key}{a:Addr}(B:IsTupleKey (jZ prog w) h ks a):∃g,h.IsTuple a g:=by
 obtain⟨o,g,n,h1,h2,q,_⟩:=B;exact⟨g,o,h1,h2,n,q⟩
def SJ{prog:Program}{w:World}{A:Around}{E:Value->Shared->Prop}{s:Shared}{x y:Xd}{u v:Value}{Q:Bool->Shared->Prop}(B:A.units < cLine)(N:uv prog w s.heap x u)(I:uv prog w s.heap y v)(h:Q (decide (x=y)) s):wpAny (model prog w) A (eqBool u v) Q E s:=by
 have g:∀b:Bool,decide (x=y)=b->Q b s:=fun b e=>e▸h
 cases N with
 |int i t =>
  cases I with
  |int j u=>exact wpAny_eqBool_int (g _ (by simp[Bool.beq_eq_decide_eq]))
  |bl b=>exact SeqAt.EqAt.int_bool i t b _ _ _ _ (g _ (by cases b<;>simp[bI,Bool.beq_eq_decide_eq]))
  |str y u=>exact SeqAt.EqAt.int_str i t y u _ _ _ _ (g _ (by simp))
  |non=>exact SeqAt.EqAt.int_none i t _ _ _ _ (g _ (by simp))
  |tup q=>obtain⟨its,D⟩:=sI q;exact SeqAt.EqAt.int_tuple i t D B _ _ _ _ (g _ (by simp))
 |bl b =>
  cases I with
  |int j u=>exact SeqAt.EqAt.bool_int b j u _ _ _ _ (g _ (by cases b<;>simp[bI,Bool.beq_eq_decide_eq]))
  |bl L=>exact DB b L _ _ _ _ (g _ (by cases b<;>cases L<;>simp[bI]))
  |str y u=>exact SeqAt.EqAt.bool_str b y u _ _ _ _ (g _ (by simp))
  |non=>exact SeqAt.EqAt.bool_none b _ _ _ _ (g _ (by simp))
  |tup q=>obtain⟨its,D⟩:=sI q;exact SeqAt.EqAt.bool_tuple b D B _ _ _ _ (g _ (by simp))
 |str x t =>
  cases I with
  |int j u=>exact SeqAt.EqAt.str_int x t j u _ _ _ _ (g _ (by simp))
  |bl b=>exact SeqAt.EqAt.str_bool x t b _ _ _ _ (g _ (by simp))
  |str y u=>exact wpAny_eqBool_str (g _ (by simp))
  |non=>exact SeqAt.EqAt.str_none x t _ _ _ _ (g _ (by simp))
  |tup q=>obtain⟨its,D⟩:=sI q;exact SeqAt.EqAt.str_tuple x t D B _ _ _ _ (g _ (by simp))
 |non =>
  cases I with
  |int j u=>exact SeqAt.EqAt.none_int j u _ _ _ _ (g _ (by simp))
  |bl b=>exact SeqAt.EqAt.none_bool b _ _ _ _ (g _ (by simp))
  |str y u=>exact SeqAt.EqAt.none_str y u _ _ _ _ (g _ (by simp))
  |non=>exact QP (g _ (by simp))
  |tup q=>obtain⟨its,D⟩:=sI q;exact SeqAt.EqAt.none_tuple D B _ _ _ _ (g _ (by simp))
 |tup M =>
  obtain⟨its',J⟩:=sI M
  cases I with
  |int j u=>exact SeqAt.EqAt.tuple_int j u J B _ _ _ _ (g _ (by simp))
  |bl b=>exact SeqAt.EqAt.tuple_bool b J B _ _ _ _ (g _ (by simp))
  |str y u=>exact SeqAt.EqAt.tuple_str y u J B _ _ _ _ (g _ (by simp))
  |non=>exact SeqAt.EqAt.tuple_none J B _ _ _ _ (g _ (by simp))
  |tup q=>exact wpAny_eqBool_tuple B M q (g _ (by simp))
def oH(prog:Program)(w:World):kB prog w Xd where
 is:=uv prog w
 hash:=M4 prog w
 draws:=G8
 room:=fun A=>A.units < cLine
 inj:=fun g B=>by
  cases g with
  |tup h1 =>
   cases B with
   |tup h2=>rw[h1.inj h2]
  |int i t=>cases B;rfl
  |bl b=>cases B;rfl
  |str x t=>cases B;rfl
  |non=>cases B;rfl
 keeps:=fun g L I hs=>by
  cases g with
  |int i t=>exact .int i t
  |bl b=>exact .bl b
  |str x t=>exact .str x t
  |non=>exact .non
  |tup q=>exact .tup (q.keeps L I hs)
 pyHash:=fun D g h=>by
  cases g with
  |int i t=>exact wpAny_pyHash_int h
  |bl b=>exact JQ h
  |str x t=>exact wpAny_pyHash_str h
  |non=>exact kO h
  |tup q=>exact wpAny_pyHash_tuple D q h
 eqBool:=fun D g B h=>SJ D g B h
 quiet:=fun g h=>by
  cases g with
  |tup q=>exact eB 7 q h
  |int i t=>rw[CJ _ (by rfl)];exact AE h
  |bl b=>rw[CJ _ (by rfl)];exact AE h
  |str x t=>rw[CJ _ (by rfl)];exact AE h
  |non=>rw[CJ _ (by rfl)];exact AE h
 sx:=fun q M J=>by
  cases q
  cases M with
  |str y u=>simp[Value.isStr]
  |_=>cases J
end L2
namespace CL
open PySem PySem.Spec L2 PySem.W
open PyProof.Rows hiding St
section
variable {X:Cx}{a b c e o i f value:Expr}{es:List Expr}{pos pos':Pos}
end
end CL
namespace PySem
open PySem.Spec PyProof.Rows PyProof.Rows.F
section
variable {K β:Type}[DecidableEq K]{xs:List (K×β)}{k:K}
def Ej(xs:List (K×β))(k:K):Option β:=(xs.find? fun x=>decide (x.1=k)).map (·.2)
def Ei(nd:(xs.map (·.1)).Nodup){i:Nat}{p:β}(h:xs[i]?=some (k,p)):Ej xs k=some p:=by
 unfold Ej
 cases e:xs.find? fun x=>decide (x.1=k) with
 |none=>simpa using List.find?_eq_none.1 e _ (Ao h)
 |some q =>
  have g:q.1=k:=by simpa using List.find?_some e
  obtain⟨j,hj⟩:=Cz.1 (List.mem_of_find?_eq_some e);have l:i < (xs.map (·.1)).length:=by rw[AB];exact(AZ.1 h).1
  have:i=j:=(List.getElem?_inj l nd).1 (by rw[Ah,Ah,h,hj];simp[g]);subst this;rw[h] at hj;cases hj
  rfl
def WQ(h:∀(j:Nat)(p:β),xs[j]?≠some (k,p)):Ej xs k=none:=by
 unfold Ej;rw[Option.map_eq_none_iff,List.find?_eq_none];rintro⟨q,B⟩ g e;obtain⟨j,hj⟩:=Cz.1 g;obtain rfl:q=k:=by simpa using e
 exact h j B hj
end
section
variable {prog:Program}{w:World}{K:Type}[DecidableEq K]{knd:kB prog w K}{A:Around}{E:Value->Shared->Prop}{s:Shared}{d:Addr}{xs:List (K×Value×Value)}{k:K}{u v:Value}
def Heap.j6.type(g:s.heap.j6 knd d xs):s.TypeIs (.ref d) "dict":=by
 obtain⟨o,_,_,h1,h2,_⟩:=g;exact⟨o,h1,h2.1⟩
def Heap.j6.in'{o:Obj}{es:Array DictEntry}{ep:Nat}{n:Nat}(I:knd.is s.heap k u)(h1:s.heap.get? d=some o)(g:o.data=.dict es ep)(q:es.toList=xs.map (bV knd))(B:∀x∈xs,knd.is s.heap x.1 x.2.1)(D:(xs.map (·.1)).Nodup):j9 knd { s with toks:=n } d es ep xs k u:=⟨⟨o,h1,g⟩,I,q,B,D⟩
def Wg{Q:Option Value->Shared->Prop}(D:knd.room A)(B:knd.is s.heap k u)(I:s.heap.j6 knd d xs)(h:Q ((Ej xs k).map (·.2)) { s with toks:=s.toks+knd.draws k }):wpAny (model prog w) A (dictGet d u) Q E s:=by
 obtain⟨o,es,ep,h1,h2,g,J,L,q⟩:=I;have F:=Heap.j6.in' (n:=s.toks+knd.draws k) B h1 g J L q;refine BE (AC (knd.pyHash D B (AC (F.find D (fun M=>?_) fun j p hj=>?_))))
 .rw [WQ M] at h
  exact AE h
 .rw [Ei q hj] at h
  refine AC (wpAny_dictEntries (s:={ s with toks:=s.toks+knd.draws k }) h1 g ?_);rw[F.ent j,hj];exact AE h
def X2{Q:Bool->Shared->Prop}(I:knd.room A.in1)(D:knd.is s.heap k u)(B:(d==sysModules)=false)(g:s.heap.j6 knd d xs)(h:Q (Ej xs k).isSome { s with toks:=s.toks+knd.draws k }):wpAny (model prog w) A (contains (.ref d) u) Q E s:=by
 refine BE (AC (Au g.type slot_dict_contains.lookup ?_));rw[Am (by rw[beq_builtin_none];exact AU)]
 refine AC (wpAny_callSpecialUnlessNone?_slot (name:=Str.ofString "__contains__") g.type slot_dict_contains
  (A2 slot_dict_contains g.type entry_dict_contains ?_ (args_dict_contains _ _)))
 show wpAny _ _ (dictGet d u >>= _) _ _ s;refine AC (Wg I D g ?_)
 cases q:Ej xs k with
 |some p =>
  rw[q] at h;exact AE ⟨_,rfl,Aw h⟩
 |none =>
  rw[q] at h;exact AC (wpAny_pendingKey_other B (AE ⟨_,rfl,Aw h⟩))
def Pu{Q:Value->Shared->Prop}(D:knd.room A.in1)(B:knd.is s.heap k u)(q:(d==sysModules)=false)(g:s.heap.j6 knd d xs)(h:Q (.bool (Ej xs k).isSome) { s with toks:=s.toks+knd.draws k }):wpAny (model prog w) A (compareOp .In u (.ref d)) Q E s:=AC (X2 D B q g (AE h))
end
end PySem
namespace L2
open PySem PySem.W PyProof.Rows PySem.Spec
def Ip(K:DD)(a:Addr)(n:Nat):It :=
 ⟨fun i H=>i < n/\∃xs,SqL K H a xs/\xs.length=n,fun i H x H'=>H'=H/\∀xs,SqL K H a xs->xs[n - 1 - i]?=some x,fun i H=>i=n⟩
def v8{P:Program}{w:World}{K:DD}{tg:Expr}(a it:Addr)(n:Nat):Xb P w K tg (Ip K a n) [it] it (fun i h=>h.IsRevIter it a ((n:Int) - 1 - i)) where
 mem:=by simp
 obj:=fun i h st b g=>by
  have e:b=it:=by simpa using g
  subst e;obtain⟨o,e,c,d⟩:=st;exact⟨o,e,fun v z=>by rw[d] at z;cases z⟩
 keep:=fun i h h' st k=>st.at fun o e=>k it (by simp) o e
 item:=by
  intro X U Y S hc i pins s σ H E I q st B;subst U Y S;obtain⟨hi,xs,hq,hn⟩:=B;obtain⟨its,rv,p,hz⟩:=I.list hq;obtain⟨J,L,aa,M,N,O⟩:=q it (by simp);have hk:xs[n - 1 - i]?=some (xs[n - 1 - i]'(by omega)):=AL _;obtain⟨u,hu,ru⟩:=rv.get hk;have D:(n:Int) - 1 - i=((n - 1 - i:Nat):Int):=by omega
  rw[D] at st;refine wpAny_pyNext_rev_item st p.isList (by simpa using hu) fun h' Z ab=>?_;have e1:((n - 1 - i:Nat):Int) - 1=(n:Int) - 1 - ((i+1:Nat):Int):=by omega
  rw[e1] at Z;have I1:Inv X pins σ H { s with heap:=h' }:=I.turned (t':=s.toks) (fun b o g e=>(ab.2 b g).trans e) J L M N O;obtain⟨ob,e,c,dt⟩:=id Z;exact⟨u,rfl,QF (s:={ s with heap:=h' }) e c dt (by decide) ⟨_,H,I1,ru,⟨rfl,fun ys hy=>by rw[I.list_inj hy hq];exact hk⟩,Z,fun b g=>(q b g).1⟩⟩
 done:=by
  intro X U Y S hc i pins s σ H E I q st B;subst U Y S;obtain⟨J,L,aa,M,N,O⟩:=q it (by simp);have B:i=n:=B;have D:(n:Int) - 1 - i = -1:=by omega
  rw[D] at st;exact wpAny_pyNext_rev_end (I.ok.hd hc) st fun h' eb=>⟨rfl,I.turned (t':=s.toks) (fun b o g e=>eb b o g e) J L M N O⟩
 self:=fun _ _ _ _ _ st h=>wpAny_pyIter_revIter st h
section
variable {X:Cx}{tg:Expr}{a:Expr}{p pos:Pos}{ta:TA}
def Px(K:DD)(ta:TA):TI:=fun σ H R=>ta σ H fun vs H1=>∃l ys,vs=[.ref l]/\H1 l=some (.lst ys)/\R (Ip K l ys.length) H1
def Gy(L:Gl X "reversed")(N:X.mg "reversed" = none)(D:PA X [a] ta)(hs:starEach [a] X.env=[(false,eval a X.env)]:=by rfl):PI X tg (.Call (.Name "reversed" p) [a] [] pos) (Px X.K ta):=by
 intro pins s σ H R I h;refine Call_ (rL I L N rS (Bo (thn (D pos pins s σ H _ I h) fun us g Z=>?_) hs rfl));obtain⟨vs,H1,B,U,l,ys,rfl,M,q⟩:=Z;obtain⟨u,rfl,Y⟩:=yG U;cases Y;obtain⟨its,S,pl,hz⟩:=B.list (SqL.of M);refine call_reversed_list pl.isList ?_;have O:its.toArray.size=ys.length:=by rw[AV,S.length]
 rw[O];have st:(g.heap.push (revObj l ((ys.length:Int) - 1))).IsRevIter g.heap.objs.size l ((ys.length:Int) - 1 - (0:Nat)):=⟨_,Ae _ rfl,rfl,by simp[revObj]⟩;refine wpAny_pyIter_revIter st ⟨g.heap.objs.size,[g.heap.objs.size],_,_,H1,rfl,B.kept (t':=g.toks) fun b o e=>AW _ e,v8 l _ ys.length,st,fun b J=>?_,q⟩;have e:b=g.heap.objs.size:=by simpa using J
 subst e;exact B.fpOk (AO _) (B.hok.fresh (AO _))
end
section
variable {X:Cx}
def VL{d:Addr}{kvs:List (Key×V)}(kd:KD X.K X.prog X.w d kvs){h:Heap}(hk:X.K.In h):∃xs,h.j6 (oH X.prog X.w) d xs/\∀ks,Ej xs (.inr ks)=none:=by
 obtain⟨vs,ai,o,es,ep,h1,h2,h3,ae,af,nd⟩:=kd.all h hk
 have ag:∀{l:List DictEntry}{vs:List (Key×Value)},(∀e∈l,∃k,bP k e.key=true/\e.hash=keyH X.w k)->Pairs (jZ X.prog X.w) l vs->∃xs:List (Xd×Value×Value),l=xs.map (bV (oH X.prog X.w))/\(∀x∈xs,uv X.prog X.w h x.1 x.2.1)/\xs.map (·.1)=vs.map (fun z=>Sum.inl z.1):=by
  intro l vs U hp
  induction hp with
  |nil=>exact⟨[],rfl,⟨(fun _ z=>by cases z),rfl⟩⟩
  |@cons e J es vs hi hv ah ih =>
   obtain⟨xs,L,M,D⟩:=ih fun e B=>U e (AF _ B);obtain⟨k',ab,hh⟩:=U e AI;have S:bP J.1 e.key=true:=hi
   have hs:uv X.prog X.w h (.inl J.1) e.key:=by
    rcases uJ S with ⟨i,t,g,q⟩ | ⟨x,t,g,q⟩ | ⟨g,q⟩<;>rw[g,q]
    .exact .int i t
    .exact .str x t
    .exact .non
   have B:k'=J.1:=by
    rcases uJ S with ⟨i,t,g,q⟩ | ⟨x,t,g,q⟩ | ⟨g,q⟩<;>rcases uJ ab with ⟨i',t',N,I⟩ | ⟨x',t',N,I⟩ | ⟨N,I⟩<;>rw[q] at I<;>cases I<;>rw[g,N]
   subst B;refine⟨(.inl J.1,e.key,e.val)::xs,?_,fun x O=>?_,by simp[D]⟩
   .rw [Ak,<- L]
    congr 1
    obtain⟨eh,g,q⟩:=e;show DictEntry.mk eh g q=DictEntry.mk _ g q
    congr 1
   .rcases AX.1 O with rfl | O
    .exact hs
    .exact M x O
 obtain⟨xs,L,M,D⟩:=ag (fun e B=>ae e (by simpa using B)) af;refine⟨xs,⟨o,es,ep,h1,h2,h3,L,M,?_⟩,fun ks=>WQ fun j p hj=>?_⟩
 .rw [D]
  have Z:vs.map (fun z=>(Sum.inl z.1:Xd))=(vs.map (·.1)).map Sum.inl:=by rw[Aj];rfl
  rw[Z];exact List.Pairwise.map Sum.inl (fun a b aa z=>aa (Sum.inl.inj z)) nd
 .have Y:(Sum.inr ks:Xd)∈xs.map (·.1):=AS.2 ⟨_,Ao hj,rfl⟩
  rw[D] at Y;obtain⟨z,_,hz⟩:=AS.1 Y;cases hz
variable {d:Addr}{kvs:List (Key×V)}
def Jr(g:KD X.K X.prog X.w d kvs)(J:X.A.units+1 < cLine):OpR X (compareOp .In) (fun x y H Q=>∃(b:Addr)(ks:List Key),x=.ref b/\y=.ref d/\H b=some (.tup (ks.map kV))/\Q (.bl false) H):=by
 intro pins s σ H x y v u Q I M N h;obtain⟨b,ks,rfl,rfl,D,q⟩:=h;cases (show u=Value.ref d from N);cases (show v=Value.ref b from M);obtain⟨xs,B,L⟩:=VL g I.kIn;refine Pu (knd:=oH X.prog X.w) (k:=.inr ks) (B7 (knd:=jZ X.prog X.w) J) (uv.tup (yM I.hok D)) g.ne B ?_;rw[L];exact⟨.bl false,H,I.tok _,rfl,q⟩
def dO:CallR X (.type "int") (fun xs H Q=>∃z n,xs=[.str z]/\z.length<=640/\PySem.intText? z=some n/\Q (.int n) H):=by
 intro pins s σ H xs us Q I r h;obtain⟨z,n,rfl,g,B,q⟩:=h;obtain⟨u,rfl,D⟩:=yG r;obtain⟨t,rfl⟩:=D;exact PySem.W.KIN.call_text B g ⟨.int n,H,I.tok _,⟨_,rfl⟩,q⟩
end
end L2
namespace CL
open PySem PySem.Spec L2 PySem.W
open PyProof.Rows hiding St
def Og:GC:=fun ts C Q=>∃z n,ts=[.str z]/\z.length<=640/\PySem.intText? z=some n/\Q (.int n) C
def Q6{K:DD}:uw K (fun xs H Q=>∃z n,xs=[.str z]/\z.length<=640/\PySem.intText? z=some n/\Q (.int n) H) Og:=fun xs ps H C Q R D h q f=>by
 obtain⟨z,n,rfl,g,B,q⟩:=q;obtain⟨v,rfl,r⟩:=sZ D;cases r;exact⟨z,n,rfl,g,B,f _ _ _ _ q (.int n) h Fw.refl⟩
theorem rN{K:DD}{H:Hp}:∀{vs:List V}{xs:List PV}{ks:List Key},iw K H vs xs->xs.map wV=ks.map some->vs=ks.map kV
 |_,_,[],.nil,_=>rfl
 |_,_,[],.cons _ _,e=>by cases e
 |_,_,_::_,.nil,e=>by cases e
 |_,_,k::ks,.cons r B,e=>by
  rw[Ak,Ak] at e;injection e with g q
  rw[vY r g,rN B q]
  rfl
def Ro:qw:=fun x y C Q=>∃d kvs k,y=.ref d/\C d=some (.dK kvs)/\wV x=some k/\Q (.bl (cB kvs k).isSome) C
def Dl{K:DD}:km K (fun x y H Q=>∃d D,y=.ref d/\Xk H d x D/\Q (.bl D.isSome) H) Ro:=fun x y S U H C Q R N O h ⟨d,kvs,k,I,J,L,q⟩ f=>by
 subst I;cases O;obtain⟨vs,M,r⟩:=h d _ J;refine⟨d,oK vs k,rfl,.inl ⟨vs,k,Rd.of M,vY N L,rfl⟩,?_⟩
 rcases KP.val r k with ⟨v,t,g,B,Y⟩ | ⟨g,B⟩
 .rw [B] at q;rw[g];exact f _ _ _ _ q (.bl _) h Fw.refl
 .rw [B] at q;rw[g];exact f _ _ _ _ q (.bl _) h Fw.refl
def WE(d:Addr):qw:=fun x y C Q=>∃(xs:List PV)(ks:List Key),x=.tup xs/\y=.ref d/\xs.map wV=List.map some ks/\Q (.bl false) C
def J2{K:DD}{d:Addr}:km K (fun x y H Q=>∃(b:Addr)(ks:List Key),x=.ref b/\y=.ref d/\H b=some (.tup (ks.map kV))/\Q (.bl false) H) (WE d):=fun x y L M H C Q R I J h ⟨xs,ks,g,B,D,q⟩ f=>by
 subst g B;cases J
 cases I with
 |tup e r =>
  rw[rN r D] at e;exact⟨_,ks,rfl,rfl,e,f _ _ _ _ q (.bl _) h Fw.refl⟩
structure Sg(K:DD)(S:CH->Prop)(J:It)(ps:List PV):Prop where
 go:∀i H' C',i < ps.length->iu K H' C'->S C'->J.go i H'
 yl:∀i H' C' x H'',iu K H' C'->S C'->J.yld i H' x H''->H''=H'/\∀t,ps[i]?=some t->Rep K H' x t
 st:∀H' C',iu K H' C'->S C'->J.stop ps.length H'
def tF(S:CH->Prop)(g:qu)(u:lg)(E:ig):List PV->jx->CH->Prop
 |[],q,C=>S C/\E.nx q C
 |x::r,q,C=>S C/\g x q C fun B C1=>u (E.lp (tF S g u E r)) B C1
def Kv{K:DD}{S:CH->Prop}{ab:It}{ps:List PV}{H:Hp}{C:CH}{σ:St}{ρ:jx}{g:qu}{u:lg}{E:ig}{aa}(j:Sg K S ab ps)(s:jn K H σ ρ)(h:iu K H C)(ai:tF S g u E ps ρ C)(f:uq K H C E aa):
  ∃W:Nat->Nat->St->Hp->Prop,(∃m,W 0 m σ H)/\∀i m σ H,W i m σ H ->
   (ab.stop i H/\aa.nx σ H)\/(ab.go i H/\∃N,(∀q H',N q H'->∃m',m' < m/\W (i+1) m' q H')/\∀x H',ab.yld i H x H'->XM K g x σ H' fun ak H2=>ZI K u { aa with nx:=N,ct:=N,bk:=aa.nx } ak H2):=by
 refine⟨fun i m q H'=>m=ps.length - i/\i<=ps.length/\∃M C',jn K H' q M/\iu K H' C'/\Fw H C H' C'/\tF S g u E (ps.drop i) M C',⟨ps.length,rfl,AM _,ρ,C,s,h,Fw.refl,ai⟩,?_⟩;rintro i m aj H1 ⟨rfl,hi,ah,C1,ag,h1,U,J⟩
 by_cases ae:i < ps.length
 .rw [A6 ae] at J
  refine .inr ⟨j.go i H1 C1 ae h1 J.1,fun q H'=>∃M C',jn K H' q M/\iu K H' C'/\Fw H C H' C'/\tF S g u E (ps.drop (i+1)) M C',fun q H' z=>⟨ps.length - (i+1),by omega,rfl,ae,z⟩,fun x H2 y=>?_⟩;obtain⟨rfl,y⟩:=j.yl i H1 C1 x H2 h1 J.1 y
  exact⟨ps[i],ah,C1,_,y _ (AL ae),ag,h1,J.2,fun q H' M C' q' s' h' f'=>⟨M,C',_,s',h',q',⟨fun af O Z B L Y I D=>⟨Z,B,Y,I,U.trans (f'.trans D),L⟩,fun v O t B L r3 I D=>f.rt v O t B L r3 I (U.trans (f'.trans D)),
   fun af O Z B L Y I D=>f.nx af O Z B L Y I (U.trans (f'.trans D)),fun af O Z B L Y I D=>⟨Z,B,Y,I,U.trans (f'.trans D),L⟩⟩⟩⟩
 .have e:i=ps.length:=by omega
  subst e;rw[CZ] at J;exact .inl ⟨j.st H1 C1 h1 J.1,f.nx aj H1 ah C1 J.2 ag h1 U⟩
def Ng{K:DD}{a:Addr}{n:Nat}{xs:List PV}(B:n=xs.length):Sg K (fun C=>C a=some (.lst xs)) (Ip K a n) xs.reverse where
 go:=fun i H' C' l h s=>by
  obtain⟨vs,q,r⟩:=h a _ s;rw[A1] at l;exact⟨by omega,vs,SqL.of q,by rw[r.len,B]⟩
 yl:=fun i H' C' x L h s y=>by
  obtain⟨vs,q,r⟩:=h a _ s;refine⟨y.1,fun t g=>?_⟩;have D:=y.2 vs (SqL.of q)
  have hi:i < xs.length:=by
   have:=(AZ.1 g).1
   rwa [A1] at this
  rw[List.getElem?_reverse hi] at g;obtain⟨v,I,J⟩:=r.get g;rw[B,I] at D;cases D;exact J
 st:=fun H' C' h s=>by
  rw[A1];exact B.symm
section
variable {X:Cx}{pos:Pos}{a e:Expr}
def Z8(B:jf)(g:qu)(u:lg):lg:=fun E q C=>B q C fun t C1=>match t with
 |.ref d=>match C1 d with
  |some (.lst xs)=>tF (fun C=>C d=some (.lst xs)) g u E xs.reverse q C1
  |_=>False
 |_=>False
def Dg{tg:Expr}{D:List Stmt}{I:jf}{g:qu}{u:lg}{p M:Pos}(hp:PassesOwn (model X.prog X.w) X.A X.env X.xe)(S:X.calm=true)(Z:Gl X "reversed")(aa:X.mg "reversed" = none)(U:CE X a I)(Y:CG X tg g)(O:CB X D u)(L:hX a=true:=by rfl)(hs:∀x,foldedSetIterable (.Call (.Name "reversed" p) [a] [] M) X.env x=pure x:=by intro _;rfl):CS X (.For tg (.Call (.Name "reversed" p) [a] [] M) D [] pos) (Z8 I g u) :=
 ⟨JS.weak ⟨oN hp S (Gy Z aa (Zw U.h.h cL (xJ L)) (xJ L)) Y.h.h O.h.h hs⟩ fun ab σ H zz=>eX zz fun ρ C E s h q f=> by
 unfold Z8 at q
 exact⟨ρ,C,_,s,h,q,fun x H1 px C1 B rx h1 J=>by
  split at B
  .next d =>
   split at B
   .next xs e =>
    cases rx;obtain⟨vs,N,r⟩:=h1 d _ e;exact⟨d,vs,rfl,N,Kv (Ng r.len) (s.gw (J.gw h)) h1 B (f.fw J)⟩
   .exact B.elim
  .exact B.elim⟩⟩
end
end CL
namespace CL
open PySem PySem.Spec L2
open PyProof.Rows hiding St
section
variable {X:Cx}{o:Expr}{co:jf}{c:Addr}{tpos pos p1:Pos}{f:Str}
def ZY{j k}(U:Cls X.K c)(Y:NoAttr X.K c f)(Z:CE X o co):CS X (.AugAssign (.Attribute o f tpos) .Add (.Constant (.int j) k p1) pos)
  (fun E B C=>co B C fun x C1=>∃p dx fs i,x=.ref p/\C1 p=some (.ins c dx fs)/\fs.lookup f=some (.int i)/\fs.length < 1000/\E.nx B (gQ C1 p (.ins c dx (cT f (.int (i+j)) fs)))) :=
 ⟨JS.weak ⟨Jn Z.h.h Vf VR⟩ fun aa σ H zz=>eX zz fun B C E s h q S=>
 ⟨B,C,_,s,h,q,fun x H1 px C1 ⟨p,dx,fs,i,O,J,L,ql,q1⟩ rx h1 M=>by
  subst O;cases rx;obtain⟨I,D,r⟩:=h1 p _ J
  rcases FP.look r (f:=f) with ⟨v,t',N,g,rv⟩ | ⟨N,g⟩
  .rw [L] at g
   cases g;cases rv;have m:jz H1 (upd H1 p (.ins c dx (sG f (.int (i+j)) I))):=jz.mut D rfl _;exact⟨p,c,dx,I,.int i,rfl,D,U,Y,N,i,j,rfl,rfl,dx,I,D,by rw[Paired.length r];exact ql,S.nx σ _ B _ q1 ((s.gw (M.gw h)).gw m) (h1.put D rfl ⟨_,vX,Paired.mapP (FP.put (.int (i+j)) r) fun _ _ z=>⟨z.1,z.2.gw m⟩⟩) (M.trans (Fw.put J _ _))⟩
  .rw [L] at g;cases g⟩⟩
end
def rW{X:Cx}{sts:List Stmt}:CB X sts (fun _ _ _=>False):=⟨⟨fun _ _ _ _ _ _ h=>by obtain⟨_,_,_,_,_,q,_⟩:=h;exact q.elim⟩⟩
def FW(kvs:List (Key×V))(d:Addr):qw:=fun x y C Q=>∃z,x=.str z/\y=.ref d/\Q (.bl (oK kvs (Sum.inr z)).isSome) C
def bM{K:DD}{kvs:List (Key×V)}{d:Addr}:km K (fun x y H Q=>∃z,x=.str z/\y=.ref d/\Q (.bl (oK kvs (Sum.inr z)).isSome) H) (FW kvs d):=fun x y J L H C Q R D I h ⟨z,g,B,q⟩ f=>by
 subst g B;cases D;cases I;exact⟨z,rfl,rfl,f _ _ _ _ q (.bl _) h Fw.refl⟩
theorem Q0{S:CH->Prop}{C0:CH}{c:jf}{L:jx}{Q:K1}(D:∀C,Gr C0 C->S C)(f:PV->PV):∀xs B C,Gr C0 C->B.length+xs.length<=sizeLine->(∀x∈xs,∀C I,Gr C0 C->(∀C',Gr C C'->I (f x) C')->c (some x::L) C I)->(∀p C',C0 p=none->Gr C0 C'->C' p=some (.lst (B++xs.map f))->Q (.ref p) C')->nY S fM c L Q xs B C
 |[],B,C,g,_,_,q=>⟨D C g,fun p J=>q p _ (kZ g J) (g.trans (Gr.new J _)) (by rw[zQ,Ce,AH])⟩
 |x::xs,B,C,g,N,h,q=>by
  rw[AD] at N;refine⟨D C g,h x AI C _ g fun C' g'=>⟨by omega,Q0 D f xs _ C' (g.trans g') (by rw[AA,Aq];omega) (fun y O=>h y (AF _ O)) fun p C2 h1 h2 M=>q p C2 h1 h2 ?_⟩⟩;rw[M,AG]
  rfl
def Dn{i:Nat}{t:qb}{c:jf}{g:jx}{C:CH}{Q:K1}{p:Addr}{xs:List PV}(e:g[i]?=some (some (.ref p)))(m:C p=some (.lst xs))(q:nY (fun C=>C p=some (.lst xs)) t c g Q xs [] C):sY (uV i) t c g C Q:=by
 unfold sY uV
 simp only[e,m]
 exact q
section
variable {X:Cx}{x:Str}{c fa:Addr}{fd:FuncData}{ps:List Str}{k:Nat}{G:GC}{CX:List Env->Program->World->Hp->Shared->XK->Value->Shared->Prop}
def Ih(c:Addr)(G:GC):jf:=fun _ C Q=>∀x dx,C x=none->C dx=none->dx≠x->G [.ref x] (gQ C x (.ins c dx [])) fun v C2=>v=.non/\Q (.ref x) C2
def Wv{p pos:Pos}(M:Mk X.K c fa)(F:FnOk X.prog X.w X.K X.mg X.base CX0 k fa fd ps (q9 X.K G))(S:Room (k+1) X.A)(N:Gl X x)(O:X.mg x=some (.ref c))(J:Binds X.K fd ps [])(L:(x==("__debug__" : Str))=false:=by decide):CE X (.Call (.Name x p) [] [] pos) (Ih c G) :=
 ⟨JE.weak ⟨Ve M F S N O J .nil Qh L⟩ fun σ H Q Z=>eX Z fun ρ C R s h q f=>fun y dx U g nd=>by
  have B:upd H dx (.own y) y=none:=by rwa [cX (Ne.symm nd)]
  have k2:jz (upd H dx (.own y)) (upd (upd H dx (.own y)) y (.ins c dx [])):=jz.new B _;refine⟨[.ref y],gQ C y (.ins c dx []),_,.cons (.ref y) .nil,(h.new g (.own y)).lay B ⟨[],vX,.nil⟩,q y dx (h.fresh U) (h.fresh g) nd,fun v H' t C' D Y h' I=>?_⟩;obtain⟨rfl,D⟩:=D;cases Y
  exact⟨rfl,f _ H' _ C' D (.ref y) h' (((Fw.new g _).trans (Fw.lay B _ _)).trans I)⟩⟩
end
section
variable {X:Cx}
def Ou(i:Nat)(q:jf):lg:=fun E g C=>∃x:Int,g[i]?=some (some (.int x))/\q g C fun y C1=>∃z:Int,y=.int z/\E.nx (g.set i (some (.int (x+z)))) C1
def sA{e:Expr}{x:Str}{g:jf}{pos pos':Pos}(i:Nat)(J:X.N.Nodup)(L:CE X e g)(hi:X.N[i]?=some x:=by rfl)(N:Loc X.env.scope x:=by first | exact Or.inl rfl | exact Or.inr rfl)(M:X.fn x=true\/X.env.scope.names.lookup x=some .local:=by first | exact .inl rfl | exact .inr rfl | assumption):
  CS X (.AugAssign (.Name x pos') .Add e pos) (Ou i g) :=
 ⟨JS.weak ⟨ps_aug J hi N L.h.h VR M⟩ fun aa σ H Y=>eX Y fun Z C E s h q f=>by
  obtain⟨x,ex,q⟩:=q;obtain⟨v,D,S⟩:=s.get ex;cases S;refine⟨_,D,Z,C,_,s,h,q,fun y H1 ab C1 ⟨z,I,O⟩ U h1 B=>?_⟩;subst I;cases U
  exact⟨x,z,rfl,rfl,f.nx _ _ _ _ O ((s.gw (B.gw h)).set (.int _) i) h1 B⟩⟩
end
section
variable {K:DD}
def Pb(K:DD)(H0:Hp)(C0:CH)(I:jx->CH->Prop):St->Hp->Prop:=fun σ H=>∃g C,I g C/\jn K H σ g/\iu K H C/\Fw H0 C0 H C
def JV{H0 H:Hp}{C0 C:CH}{σ:St}{g:jx}{D:Zg}{tb:TS}{p:Addr}{xs:List PV}(r L N:Nat)(I:Nat->jx->CH->Prop)(hp:g[r]?=some (some (.ref p)))(Z:∀i g C,I i g C->C p=some (.lst xs))(h0:I 0 g C)(s:jn K H σ g)(h:iu K H C)(f:Fw H0 C0 H C)(ai:∀i x g C σ H,xs[i]?=some x->I i g C->jn K H σ ((g.set L (some (.int i))).set N (some x))->iu K H C->Fw H0 C0 H C->tb { D with nx:=Pb K H0 C0 (I (i+1)),ct:=Pb K H0 C0 (I (i+1)),bk:=D.nx } σ H)(af:∀g C σ H,I xs.length g C->jn K H σ g->iu K H C->Fw H0 C0 H C->D.nx σ H):tFor (Fq K (vV K (iw K) (mK (uV r) fU))) (gTup K 2 (fP (fB L) (fP (fB N) gNil))) tb D σ H:=by
 refine⟨g,C,fun ts C1=>ts=[.ref p]/\C=C1,s,h,?_,?_⟩
 .unfold mK uV
  simp only[hp]
  exact⟨rfl,rfl⟩
 rintro vs H1 _ _ ⟨rfl,rfl⟩ ag h1 U;obtain⟨v,rfl,rv⟩:=sZ ag;cases rv;obtain⟨ys,B,ry⟩:=h1 p _ (Z 0 g C h0);refine⟨p,ys,rfl,B,fun i m ae H'=>m=xs.length - i/\i<=xs.length/\Pb K H0 C0 (I i) ae H',⟨xs.length,by simp,AM _,g,C,h0,s.gw (U.gw h),h1,f.trans U⟩,?_⟩;rintro i m aj H2 ⟨rfl,hi,O,C2,M,ab,h2,Y⟩;obtain⟨zs,J,rz⟩:=h2 p _ (Z i O C2 M);have hl:zs.length=xs.length:=rz.len
 by_cases aa:i < xs.length
 .refine .inr ⟨⟨zs,zs[i]'(by omega),SqL.of J,AL _⟩,Pb K H0 C0 (I (i+1)),fun ae H' z=>⟨xs.length - (i+1),by omega,rfl,aa,z⟩,?_⟩
  rintro _ _ ⟨b,y,rfl,q,rfl,hy⟩;have B:=hy zs (SqL.of J);obtain⟨x,ex⟩:∃x,xs[i]?=some x:=⟨_,AL aa⟩;obtain⟨y',S,ah⟩:=rz.get ex;rw[B] at S;cases S;refine⟨b,_,rfl,SqT.of vX,rfl,_,_,rfl,_,_,rfl,rfl,?_⟩;exact ai i x O C2 _ _ ex M (((ab.gw (jz.new q _)).set (.int _) L).set (ah.gw (jz.new q _)) N) (h2.new q _) (Y.trans (Fw.new q _))
 .have e:i=xs.length:=by omega
  subst e;exact .inl ⟨⟨zs,SqL.of J,by omega⟩,af O C2 aj H2 M ab h2 Y⟩
end
end CL
namespace CL
open PySem PySem.Spec L2 PySem.W
open PyProof.Rows hiding St
inductive Iu(K:DD)(H:Hp)(d:Nat):V->V->Prop
 |pl {t:PV} {v v':V} (p:Pl d t) (r:Rep K H v t) (r':Rep K H v' t):Iu K H d v v'
 |lst {a b:Addr} {vs ws:List V} {ts:List PV} (e1:H a=some (.lst vs)) (e2:H b=some (.lst ws)) (r1:iw K H vs ts) (r2:iw K H ws ts) (p:∀t∈ts,Pl d t):Iu K H d (.ref a) (.ref b)
section
variable {X:Cx}
def HB{pins:List (Addr×Obj)}{σ:St}{H:Hp}{s:Shared}{A:Around}{d:Nat}{v D:V}{u B:Value}(I:Inv X pins σ H s)(h:Iu X.K H d v D)(e:RelV v u)(g:RelV D B)(O:A.units+1+d < cLine):SeqAt.EqAt A s u B true:=by
 cases h with
 |pl p r S=>exact ZR I p r S e g (by omega)
 |@lst a b vs ws ts J L U Y p =>
  cases e;cases g
  by_cases q:a=b
  .subst q;exact Cb _
  .obtain ⟨its,Z,p1,_⟩:=I.list (SqL.of J)
   obtain⟨aa,w2,p2,_⟩:=I.list (SqL.of L);obtain⟨N,M⟩:=uC (A:=A.in1) (d:=d) (fun t m=>ZR I (p t m)) O U Y Z w2;have R:=SeqAt.RcAt.lists p1.isList p2.isList (by simpa using N) (by omega) M;rw[show((List.range its.toArray.size).all fun _=>true)=true by simp] at R;exact SeqAt.EqAt.of_refs q R
theorem zO{pins:List (Addr×Obj)}{σ:St}{H:Hp}{s:Shared}{A:Around}{d:Nat}(I:Inv X pins σ H s)(q:A.units+1+d < cLine):∀{vs ws:List V}{its g:List Value},Paired (Iu X.K H d) vs ws->Vals vs its->Vals ws g ->
  its.length=g.length/\∀j(h1:j < its.toArray.size)(h2:j < g.toArray.size),SeqAt.EqAt A s its.toArray[j] g.toArray[j] true
 |_,_,_,_,.nil,.nil,.nil=>⟨rfl,fun j h1=>absurd h1 (by simp)⟩
 |_,_,_,_,.cons h r,.cons B J,.cons D L=>by
  obtain⟨l,k⟩:=zO I q r J L;refine⟨by rw[AD,AD,l],fun j h1 h2=>?_⟩
  cases j with
  |zero=>exact HB I h B D q
  |succ j =>
   have:=k j (by simp_all) (by simp_all)
   simpa using this
def xx{d:Nat}(U:X.A.units+2+d < cLine):OpR X (compareOp .NotEq) (fun x y H Q=>∃a b vs ws,x=.ref a/\y=.ref b/\H a=some (.lst vs)/\H b=some (.lst ws)/\Paired (Iu X.K H d) vs ws/\Q (.bl false) H):=by
 intro pins s σ H x y v u Q I M N h;obtain⟨a,b,vs,ws,rfl,rfl,g,B,L,q⟩:=h;cases M;cases N;obtain⟨its,O,p1,_⟩:=I.list (SqL.of g);obtain⟨Y,S,p2,_⟩:=I.list (SqL.of B);obtain⟨J,D⟩:=zO (A:=X.A.in1) I (by show X.A.units+1+1+d < cLine;omega) L O S;have R:=SeqAt.RcNeAt.lists p1.isList p2.isList (by simpa using J) (by omega) D;rw[show(!(List.range its.toArray.size).all fun _=>true)=false by simp] at R
 exact R _ _ _ _ ⟨.bl false,H,I,rfl,q⟩
def Rx(C:CH)(d:Nat)(x y:PV):Prop:=(x=y/\Pl d x)\/∃p q zs,x=.ref p/\y=.ref q/\C p=some (.lst zs)/\C q=some (.lst zs)/\∀t∈zs,Pl d t
def Ob(d:Nat):qw:=fun x y C Q=>∃a b xs ys,x=.ref a/\y=.ref b/\C a=some (.lst xs)/\C b=some (.lst ys)/\Paired (Rx C d) xs ys/\Q (.bl false) C
theorem QQ{K:DD}{H:Hp}{C:CH}{d:Nat}(h:iu K H C):∀{xs ys:List PV}{vs ws:List V},Paired (Rx C d) xs ys->iw K H vs xs->iw K H ws ys->Paired (Iu K H d) vs ws
 |_,_,_,_,.nil,.nil,.nil=>.nil
 |_,_,_,_,.cons e r,.cons g S,.cons B U=>by
  refine .cons ?_ (QQ h r S U)
  rcases e with ⟨rfl,p⟩ | ⟨p,q,zs,rfl,rfl,D,I,M⟩
  .exact .pl p g B
  .cases g;cases B
   obtain⟨vs,J,N⟩:=h p _ D;obtain⟨ws,L,O⟩:=h q _ I;exact .lst J L N O M
def Wi{K:DD}{d:Nat}:km K (fun x y H Q=>∃a b vs ws,x=.ref a/\y=.ref b/\H a=some (.lst vs)/\H b=some (.lst ws)/\Paired (Iu K H d) vs ws/\Q (.bl false) H) (Ob d):=fun x y Y Z H C Q R S U h ⟨a,b,xs,ys,g,B,D,I,M,q⟩ f=>by
 subst g B;cases S;cases U
 obtain⟨vs,J,N⟩:=h a _ D;obtain⟨ws,L,O⟩:=h b _ I;exact⟨a,b,vs,ws,rfl,rfl,J,L,QQ h M N O,f _ H _ C q (.bl _) h Fw.refl⟩
end
end CL
namespace CL
open PySem PySem.Spec L2
open PyProof.Rows hiding St
def yV{C:CH}{a b:Addr}{xs ys:List PV}{Q:K1}(g:C a=some (.lst xs))(B:C b=some (.lst ys))(l:xs.length+ys.length<=sizeLine)(q:Q .non (gQ C a (.lst (xs++ys)))):xB (.ref a) [.ref b] C Q:=by
 unfold xB
 simp only[g,B]
 exact⟨l,q⟩
def rX{C:CH}{x y:Addr}{o:CO}(q:C x=none)(g:C y=some o):y≠x:=fun z=>by rw[z,q] at g;cases g
def nI{i:Nat}{g:jx}{C:CH}{Q:Bool->CH->Prop}{p:Addr}{xs:List PV}(e:g[i]?=some (some (.ref p)))(m:C p=some (.lst xs))(q:Q (!xs.isEmpty) C):DN (uV i) g C Q:=by
 unfold DN uV
 simp only[e,m]
 exact q
def Hx{i:Nat}{g:qu}{u:lg}{E:ig}{B:jx}{C:CH}{p:Addr}{xs:List PV}(e:B[i]?=some (some (.ref p)))(m:C p=some (.lst xs))(q:tF (fun C=>C p=some (.lst xs)) g u E xs.reverse B C):Z8 (uV i) g u E B C:=by
 unfold Z8 uV
 simp only[e,m]
 exact q
section
variable {X:Cx}
def Oj(r q B:Nat)(u:lg):lg:=fun E g C=>∃(p:Addr)(xs:List PV)(I:Nat->jx->CH->Prop),g[r]?=some (some (.ref p))/\(∀i g C,I i g C->C p=some (.lst xs))/\I 0 g C /\
 (∀(i:Nat)x g C,xs[i]?=some x->I i g C->u (E.lp (I (i+1))) ((g.set q (some (.int i))).set B (some x)) C)/\∀g C,I xs.length g C->E.nx g C
def Dh{x y v:Str}{p1 p2 p3 p4 p5 Z pos:Pos}{k:Nat}{S:List Stmt}{u:lg}(r J L:Nat)(hp:PassesOwn (model X.prog X.w) X.A X.env X.xe)(Y:X.calm=true)(U:X.N.Nodup)(af:Gl X "enumerate")(ag:X.mg "enumerate" = none)(ha:CE X (.Name v Z) (uV r))(hb:CB X S u)(h1:X.N[J]?=some x:=by rfl)(h2:X.N[L]?=some y:=by rfl)(D:Loc X.env.scope x:=by first | exact Or.inl rfl | exact Or.inr rfl)(hy:Loc X.env.scope y:=by first | exact Or.inl rfl | exact Or.inr rfl)(ab:X.fn x=true\/X.env.scope.names.lookup x=some .local:=by first | exact .inl rfl | exact .inr rfl | assumption)(ae:X.fn y=true\/X.env.scope.names.lookup y=some .local:=by first | exact .inl rfl | exact .inr rfl | assumption):
  CS X (.For (.Tuple [.Name x p1,.Name y p2] k p3) (.Call (.Name "enumerate" p4) [.Name v Z] [] p5) S [] pos) (Oj r J L u) :=
 ⟨JS.weak ⟨oN hp Y (xr af ag (JA.h (CA.h (dN ha)))) (Vb Y (qC (mD U h1 D ab) (qC (mD U h2 hy ae) Zu))) hb.h.h⟩ fun aj σ H zz=>eX zz fun ρ C E s h ah f=>by
  obtain⟨p,xs,aa,e1,e2,e3,e4,e5⟩:=ah;refine JV (H0:=H) (C0:=C) (p:=p) (xs:=xs) r J L aa e1 e2 e3 s h Fw.refl (fun i x N C1 ai H1 D I M h1 q=>?_) fun N C1 ai H1 I M h1 q=>f.nx _ _ _ _ (e5 N C1 I) M h1 q
  exact⟨_,C1,_,M,h1,e4 i x N C1 D I,⟨fun O H' B C' k s' h' g=>⟨B,C',k,s',h',q.trans g⟩,fun v H' t C' k r' h' g=>f.rt v H' t C' k r' h' (q.trans g),fun O H' B C' k s' h' g=>f.nx O H' B C' k s' h' (q.trans g),fun O H' B C' k s' h' g=>⟨B,C',k,s',h',q.trans g⟩⟩⟩⟩
end
end CL
namespace PySem
open Sem (wp)
open AutoSeq1
def XX(l:Addr)(q:Array Value)(n:Nat)(b:Addr)(B:Array Value)(N:Nat)(O:Array (Option Value))(aa:¬(!q.isEmpty&&Builtin.List.listTooLong (q.size+B.size))=true)(J:q.size<=sizeLine)(L:q.size+B.size<=sizeLine+1):
  Meets (Builtin.«list.extend» ⟨[.ref l,.ref b],[]⟩) (fun _ R s=>s.heap.get? l=some { cls:=.type "list",dict:=none,data:=.seq q n,slots:=#[] }/\s.heap.get? b=some { cls:=.type "tuple",dict:=none,data:=.seq B N,slots:=O }/\R (.ok (.ret Value.none)) { s with heap:=s.heap.update l (Obj.mapSeq fun x=>x++B),toks:=s.toks }) :=
 .of_wp fun prog w A R s h=>by
  obtain⟨hp,g,d,ae,ab⟩:=s;obtain⟨D,I,h⟩:=h;have S:=idx_int;have U:=sub_tuple_tuple;have Y:=sub_list_list;have Z:=sub_tuple_list;have f5:=sub_list_tuple;
  have M:(q++B).size<=sizeLine+1:=by rw[Array.size_append];exact L
  wp_walk using(Ct D rfl (hz:=J) (_hz':=M)),wpAny_loadPart' D,wpAny_loadPart' I;exact⟨_,rfl,h⟩
end PySem
namespace L2
open PySem PySem.Spec PyProof.Rows
section
variable {X:Cx}
def Qe:V->List V->Hp->VK->Prop:=fun x vs H Q=>∃l b xs zs,x=.ref l/\vs=[.ref b]/\H l=some (.lst xs)/\H b=some (.tup zs)/\xs.length+zs.length<=sizeLine/\Q .non (upd H l (.lst (xs++zs)))
def XE:MtM X "list.extend" Qe:=by
 intro pins s σ H x vs v us Q I rx rv h;obtain⟨l,b,xs,zs,rfl,rfl,B,O,hz,q⟩:=h;cases rx;obtain⟨u,rfl,ru⟩:=rv.one;cases ru;obtain⟨z,its,n,r,hl,e⟩:=I.lstM B;obtain⟨_,g,J,⟨L,d2,M,aa⟩,N,S,⟨D,U⟩,Z⟩:=I.hok b _ O;obtain rfl:L=.type "tuple":=S;obtain rfl:d2=none:=Z;obtain rfl:M=.seq g.toArray D:=U;have ab:zs.length=g.length:=J.length;have hsz:its.toArray.size+g.toArray.size<=sizeLine:=by rw[AV,AV];omega
 have Y:¬ (!its.toArray.isEmpty&&Builtin.List.listTooLong (its.toArray.size+g.toArray.size))=true:=by
  rw[Qm hsz,Bool.and_false];exact AU
 refine BU F.slot_list_extend ⟨_,e,rfl⟩ F.entry_list_extend (F.args_list_extend_2 _ _)
  (XX l its.toArray n b g.toArray D aa Y (by rw[AV];omega) (by omega)) ⟨e,N,?_⟩
 refine⟨.non,_,I.lset (its':=its++g) B e (by simp) (r.append J) ?_,rfl,q⟩;rw[AA];omega
end
end L2
namespace CL
open PySem PySem.Spec L2
open PyProof.Rows hiding St
def WH:PV->List PV->CH->K1->Prop:=fun x ts C Q=>∃a xs ys,x=.ref a/\ts=[.tup ys]/\C a=some (.lst xs)/\xs.length+ys.length<=sizeLine/\Q .non (gQ C a (.lst (xs++ys)))
def Q3{K:DD}:vy K Qe WH:=fun x M xs ps H C Q R L J h q f=>by
 obtain⟨a,xs,ys,rfl,rfl,B,I,q⟩:=q;obtain⟨vs,g,D⟩:=h _ _ B;obtain⟨v,rfl,r⟩:=sZ J;cases L
 cases r with
 |tup e r =>
  exact⟨_,_,vs,_,rfl,rfl,g,e,by rw[D.len,r.len];exact I,f _ _ _ _ q .non (h.put g rfl ⟨_,vX,(D.append r).gw (jz.mut g rfl _)⟩) (Fw.put B _ _)⟩
end CL
namespace L2
open PySem PySem.W PyProof.Rows PySem.Spec
section
variable {X:Cx}{d:Addr}{kvs:List (Key×V)}
def Gh(d:Addr)(kvs:List (Key×V))(td ty q:TE):TE:=fun σ H Q=>td σ H fun x H1=>x=.ref d/\ty σ H1 fun y H2=>q σ H2 fun z g=>(∃k,y=kV k/\Q ((oK kvs k).getD z) g)\/∃(b:Addr)(ks:List Key),y=.ref b/\g b=some (.tup (ks.map kV))/\Q z g
def JJ{o e f:Expr}{td ty tx:TE}{apos cpos:Pos}(B:KD X.K X.prog X.w d kvs)(hu:X.A.units+1 < cLine)(ho:JE X o td)(ae:JE X e ty)(af:JE X f tx)(J:attributeBase o "get" X.env (eval o X.env)=eval o X.env:=by rfl)(hl:(apos.endLine==cpos.line)=true:=by rfl)(h1:hX e=true:=by rfl)(h2:hX f=true:=by rfl):JE X (.Call (.Attribute o "get" apos) [e,f] [] cpos) (Gh d kvs td ty tx):=by
 refine⟨fun pins s σ H Q ab h=>?_⟩;have m:M2 X o "get" apos e f cpos:=M5 J hl h1 h2;refine wpAny_Call_method m.base m.few m.line PySem.F.plainAttrs_dict Cy PySem.F.type_dict_get (thn (ho.h pins s σ H _ ab h) fun u aa L=>NQ L fun x H1 N rx ex q1=> ?_);subst ex;obtain rfl:u=Value.ref d:=rx;obtain⟨vs,U,q⟩:=B.all aa.heap N.kIn;refine⟨q.typeIs,fun b ah=>?_,?_⟩
 .cases ah
  obtain⟨ob,_,_,e1,e2,_⟩:=q;exact⟨ob,e1,e2.2.1⟩
 rw[m.trees]
 refine Cs rfl (Calls.evalArgs_plain (Calls.spliced_cons (thn (ae.h pins aa σ H1 _ N q1) fun iv ai L=>Wc L fun y H2 I2 Y q2=>
  Calls.spliced_cons (thn (af.h pins ai σ H2 _ I2 q2) fun S aj ⟨z,M,g,Z,D⟩=>Calls.spliced_nil ?_))))
 rcases D with ⟨k,I,D⟩ | ⟨b,ks,I,J,D⟩
 .subst I
  obtain⟨vs,U,q⟩:=B.all aj.heap g.kIn;exact call_meetsIn Cy q.typeIs PySem.F.entry_dict_get (PySem.F.args_dict_get_3 _ _ _) (meets_dict_get_default (jZ X.prog X.w) d (mP Y) B.ne S) ⟨_,q.mapOf,⟨_,M,g.tok _,(U.val k).getD Z,D⟩⟩
 .subst I
  cases (show iv=Value.ref b from Y);obtain⟨xs,O,ag⟩:=VL B g.kIn;refine A2 Cy O.type PySem.F.entry_dict_get ?_ (PySem.F.args_dict_get_3 _ _ _);show wpAny _ _ (dictGet d (.ref b) >>= _) _ _ _;refine AC (Wg (knd:=oH X.prog X.w) (k:=.inr ks) (B7 (knd:=jZ X.prog X.w) hu) (uv.tup (yM g.hok J)) O ?_);rw[ag];show wpAny _ _ (Builtin.Dict.missed d (.ref b) >>= _) _ _ _
  exact AC (wpAny_missed_other B.ne (AE ⟨S,rfl,z,M,g.tok _,Z,D⟩))
end
end L2
namespace CL
open PySem PySem.Spec L2 PySem.W
open PyProof.Rows hiding St
def Nj:Option V->PV->Option PV
 |some (.int i),_=>some (.int i)
 |none,z=>some z
 |_,_=>none
def Ii(d:Addr)(kvs:List (Key×V))(B D I:jf):jf:=fun g C Q=>B g C fun x C1=>x=.ref d/\D g C1 fun y C2=>I g C2 fun z q=>(∃u t,y=.str u/\Nj (oK kvs (Sum.inr u)) z=some t/\Q t q)\/∃(xs:List PV)(ks:List Key),y=.tup xs/\xs.map wV=List.map some ks/\Q z q
def pO{X:Cx}{d:Addr}{kvs:List (Key×V)}{o e f:Expr}{N O S:jf}{apos cpos:Pos}(kd:KD X.K X.prog X.w d kvs)(hu:X.A.units+1 < cLine)(ho:CE X o N)(ab:CE X e O)(ae:CE X f S)(hb:attributeBase o "get" X.env (eval o X.env)=eval o X.env:=by rfl)(hl:(apos.endLine==cpos.line)=true:=by rfl)(h1:hX e=true:=by rfl)(h2:hX f=true:=by rfl):CE X (.Call (.Attribute o "get" apos) [e,f] [] cpos) (Ii d kvs N O S) :=
 ⟨JE.weak (JJ kd hu ho.h ab.h ae.h hb hl h1 h2) fun σ H Q zz=>eX zz fun M C R s h af J=>
  ⟨M,C,_,s,h,af,fun x H1 px C1 ⟨ex,q1⟩ rx h1 Y=>by
   subst ex;cases rx;refine⟨rfl,M,C1,_,s.gw (Y.gw h),h1,q1,fun y H2 ag C2 q2 ry h2 aa=>?_⟩;have B:=Y.trans aa;refine⟨M,C2,_,s.gw (B.gw h),h2,q2,fun z H3 pz C3 g rz L D=>?_⟩;have Z:=ry.gw (D.gw h2)
   rcases g with ⟨u,t,I,q,g⟩ | ⟨xs,ks,I,e3,g⟩
   .subst I
    cases Z;refine .inl ⟨Sum.inr u,rfl,?_⟩
    cases U:oK kvs (Sum.inr u) with
    |none=>rw[U] at q;cases q;exact J _ _ _ _ g rz L (B.trans D)
    |some v =>
     rw[U] at q;cases v<;>cases q
     exact J _ _ _ _ g (.int _) L (B.trans D)
   .subst I
    cases Z with
    |tup e r =>
     rw[rN r e3] at e
     exact .inr ⟨_,ks,rfl,e,J _ _ _ _ g rz L (B.trans D)⟩⟩⟩
def Ij(kvs:List (Key×V))(d:Addr):qw:=fun x y C Q=>FW kvs d x y C Q\/WE d x y C Q
def J3{K:DD}{kvs:List (Key×V)}{d:Addr}:km K (fun x y H Q=>(∃z,x=.str z/\y=.ref d/\Q (.bl (oK kvs (Sum.inr z)).isSome) H)\/(∃(b:Addr)(ks:List Key),x=.ref b/\y=.ref d/\H b=some (.tup (ks.map kV))/\Q (.bl false) H)) (Ij kvs d):=fun x y g B H C Q R D I h q f=>
 q.elim (fun q=>.inl (bM x y g B H C Q R D I h q f)) fun q=>.inr (J2 x y g B H C Q R D I h q f)
def WC(d:Addr)(g:Str->Option PV):qw:=fun x y C Q=>∃z t,x=.ref d/\y=.str z/\g z=some t/\Q t C
def Wj{K:DD}{kvs:List (Key×V)}{d:Addr}{g:Str->Option PV}(J:∀z t,g z=some t->∃v,oK kvs (Sum.inr z)=some v/\∀H,Rep K H v t):km K (fun x y H Q=>∃z v,x=.ref d/\y=.str z/\oK kvs (Sum.inr z)=some v/\Q v H) (WC d g):=fun x y S U H C Q R N O h ⟨z,t,B,D,I,q⟩ f=>by
 subst B D;cases N;cases O
 obtain⟨v,M,L⟩:=J z t I;exact⟨z,v,rfl,rfl,M,f _ H _ C q (L H) h Fw.refl⟩
def rH{X:Cx}{d:Addr}{kvs:List (Key×V)}{g:Str->Option PV}{a b:Expr}{ca q:jf}{pos:Pos}(J:KD X.K X.prog X.w d kvs)(I:∀z t,g z=some t->∃v,oK kvs (Sum.inr z)=some v/\∀H,Rep X.K H v t)(B:CE X a ca)(D:CE X b q)(hs:tH b:=by exact fun _ _=>rfl):CE X (.Subscript a b pos) (ut (WC d g) ca q):=FJ (Nb J) (Wj I) B D hs
end CL
namespace L2
open PySem PySem.Spec PyProof.Rows PySem.W
section
variable {X:Cx}
theorem Vals.Fb:∀{xs:List V}{us:List Value},Vals xs us->∀u∈us,∃x∈xs,RelV x u
 |_,_,.nil=>fun u g=>by cases g
 |y::xs,u::us,.cons r t=>fun D g=>by
  rcases AX.mp g with rfl | g
  .exact ⟨y,AI,r⟩
  .obtain ⟨x,B,q⟩:=Vals.Fb t D g
   exact⟨x,AF _ B,q⟩
def SN(z:Str):Value->Bool
 |.str y _=>y==z
 |_=>false
def Zq:V->List V->Hp->VK->Prop:=fun x vs H Q=>∃(l:Addr)(zs:List Str)(z:Str)(j:Nat),x=.ref l/\vs=[.str z]/\H l=some (.lst (zs.map V.str))/\zs[j]?=some z/\(∀m,m < j->zs[m]?≠some z)/\Q (.int j) H
def Jy:MtM X "list.index" Zq:=by
 intro pins s σ H x vs v us Q I rx rv h;obtain⟨l,zs,z,j,rfl,rfl,M,hj,Y,aa⟩:=h;cases rx;obtain⟨u,rfl,ru⟩:=rv.one;obtain⟨t,rfl⟩:=ru;obtain⟨hz,its,n,r,S,e⟩:=I.lstM M;rw[AB] at hz S;have af:j < zs.length:=(AZ.mp hj).1;have ag:=sU
 have B:∀m(g:m < its.toArray.size)(k:Str),zs[m]?=some k->∃t',its.toArray[m]=.str k t':=fun m g k O=>by
  obtain⟨w1,D,ae,L⟩:=r.get (show(zs.map V.str)[m]?=some (V.str k) by rw[Ah,O];rfl);refine⟨ae,?_⟩;rw[List.getElem_toArray];rw[AL (by rw[AV] at g;exact g)] at D;rw[An D,L]
 refine BU F.slot_list_index ⟨_,e,rfl⟩ F.entry_list_index (F.args_list_index_2 _ _)
  (SeqAt.list_indexAt l its.toArray n none #[] (.str z t) (SN z) j (by rw[AV];omega) (by omega) ?_ ?_) ⟨e,fun y hy=>?_,⟨.int j,H,I.tok _,⟨_,rfl⟩,aa⟩⟩
 .obtain ⟨t',q⟩:=B j (by rw[AV];omega) z hj
  rw[q];exact beq_self_eq_true z
 .intro m g U
  have J:m < zs.length:=by rw[AV] at g;omega
  obtain⟨t',q⟩:=B m g zs[m] (AL J);rw[q];show(zs[m]==z)=false;rw[Bool.eq_false_iff];intro N;exact Y m U (by rw[AL J,eq_of_beq N])
 .obtain ⟨x',Z,ab⟩:=Vals.Fb r y (by simpa using hy)
  obtain⟨k,_,rfl⟩:=AS.mp Z;obtain⟨t',rfl⟩:=ab;exact Ci (A:=X.A.in1) (s:=s) k t' z t
end
end L2
namespace CL
open PySem PySem.Spec L2 PySem.W
open PyProof.Rows hiding St
theorem bG{K:DD}{H:Hp}:∀{zs:List Str}{vs:List V},iw K H vs (zs.map PV.str)->vs=zs.map V.str
 |[],_,r=>by cases r;rfl
 |b::bs,_,r=>by
  cases r with
  |cons h r=>cases h;rw[bG r];rfl
def DY:PV->List PV->CH->K1->Prop:=fun x ts C Q=>∃(a:Addr)(zs:List Str)(z:Str)(j:Nat),x=.ref a/\ts=[.str z]/\C a=some (.lst (zs.map PV.str))/\zs[j]?=some z/\(∀m,m < j->zs[m]?≠some z)/\Q (.int (j:Nat)) C
def X4{K:DD}:vy K Zq DY:=fun x N xs ts H C Q R M J h ⟨a,zs,z,j,g,B,D,h1,h2,q⟩ f=>by
 subst g B;obtain⟨v,rfl,r⟩:=sZ J;obtain⟨vs,I,L⟩:=h _ _ D;cases M;cases r;exact⟨_,zs,z,j,rfl,rfl,by rw[I,bG L],h1,h2,f _ H _ C q (.int _) h Fw.refl⟩
end CL
namespace L2
open PySem PySem.Spec PyProof.Rows PySem.W
section
variable {X:Cx}
def yd(hu:X.A.units+1 < cLine):OpR X (compareOp .Eq) (fun x y H Q=>∃(a b:Addr)(w u:Str),x=.ref a/\y=.ref b/\H a=some (.lst [.str w])/\H b=some (.lst [.str u])/\Q (.bl (w==u)) H):=by
 intro pins s σ H x y v u Q I O S h;obtain⟨a,b,w,z,rfl,rfl,B,D,q⟩:=h;cases O;cases S;obtain⟨its,Y,p1,_⟩:=I.list (SqL.of B);obtain⟨aa,Z,p2,_⟩:=I.list (SqL.of D)
 cases Y with
 |cons M J =>
 cases J
 cases Z with
 |cons N L =>
 cases L;obtain⟨g,rfl⟩:=M;obtain⟨U,rfl⟩:=N
 have R:=SeqAt.RcAt.lists (A:=X.A) (e:=fun _=>w==z) p1.isList p2.isList rfl (by omega) (fun j h1 h2=>by
  have:j=0:=by simpa using h1
  subst this
  exact Ci (A:=X.A.in1) (s:=s) w g z U)
 have e:(List.range [Value.str w g].toArray.size).all (fun _=>w==z)=(w==z):=by simp
 rw[e] at R;exact R _ _ _ _ ⟨.bl _,H,I,rfl,q⟩
end
end L2
namespace CL
open PySem PySem.Spec L2 PySem.W
open PyProof.Rows hiding St
def Ol:qw:=fun x y C Q=>∃(a b:Addr)(w u:Str),x=.ref a/\y=.ref b/\C a=some (.lst [.str w])/\C b=some (.lst [.str u])/\Q (.bl (w==u)) C
def Wk{K:DD}:km K (fun x y H Q=>∃(a b:Addr)(w u:Str),x=.ref a/\y=.ref b/\H a=some (.lst [.str w])/\H b=some (.lst [.str u])/\Q (.bl (w==u)) H) Ol:=fun x y U Y H C Q R O S h ⟨a,b,w,u,g,B,D,I,q⟩ f=>by
 subst g B;cases O;cases S
 obtain⟨vs,J,M⟩:=h a _ D;obtain⟨ws,L,N⟩:=h b _ I;have h1:=bG (zs:=[w]) M;have h2:=bG (zs:=[u]) N;subst h1 h2;exact⟨a,b,w,u,rfl,rfl,J,L,f _ H _ C q (.bl _) h Fw.refl⟩
end CL
namespace K13
open PySem L2
abbrev U0:List Str:=["_law_tape_here","_law_kit","_law_turns","_law_deep"]
abbrev U1:List Str:=["_law_tape_here","_law_kit","_law_turns"]
abbrev U2:List Str:=["_law_tape_here","_law_kit","_law_deep"]
abbrev U3:List Str:=["_law_tape_here","_law_many"]
abbrev U4:List Str:=["_law_tape_here","_law_names_here","_law_k","_law_keyed"]
abbrev U5:List Str:=["_law_tape_here","_law_kit","_law_turns","_law_most"]
abbrev U6:List Str:=["_law_tape_here","_law_kit","_law_turns","_law_name"]
abbrev U7:List Str:=["_law_tape_here","_law_kit","_law_turns","_law_way"]
abbrev U8:List Str:=["_law_words_here","_law_rule"]
abbrev U9:List Str:=["_law_tape_here"]
abbrev O9:List Str:=["_law_lines_here"]
def top(i:Nat):Stmt:=PySem.Challenge.pw_viewwood_k13_houses_shown_and_read.main.body.getD i (.Pass ⟨0,0,0,0⟩)
def tab:List CL.Row:=[
 ⟨none,"is_number","is_number",(top 7),["thing"],["thing"]⟩,
 ⟨none,"is_name","is_name",(top 8),["thing"],["thing"]⟩,
 ⟨none,"is_reckoning","is_reckoning",(top 16),["thing"],["thing","waiting","count","inner"]⟩,
 ⟨none,"inner_things","inner_things",(top 17),["thing"],["thing","word"]⟩,
 ⟨none,"stands_alone","stands_alone",(top 18),["thing"],["thing"]⟩,
 ⟨none,"lines_fit","lines_fit",(top 24),["lines","boxes"],["lines","boxes","waiting","count","place","line","turns"]⟩,
 ⟨none,"inner_lines","inner_lines",(top 25),["line"],["line"]⟩,
 ⟨none,"turns_within","turns_within",(top 26),["line","turns"],["line","turns"]⟩,
 ⟨none,"line_fits","line_fits",(top 27),["line","boxes","turns"],["line","boxes","turns","word"]⟩,
 ⟨none,"key_fits","key_fits",(top 28),["key","boxes","turns"],["key","boxes","turns"]⟩,
 ⟨none,"reckoning_fits","reckoning_fits",(top 29),["thing","boxes","turns"],["thing","boxes","turns","waiting","inner"]⟩,
 ⟨none,"pairs_fit","pairs_fit",(top 30),["thing","boxes","turns"],["thing","boxes","turns"]⟩,
 ⟨none,"begins_with_names","begins_with_names",(top 31),["thing","size"],["thing","size","names","inner"]⟩,
 ⟨none,"hands_fit","hands_fit",(top 32),["thing","boxes","turns"],["thing","boxes","turns"]⟩,
 ⟨none,"hand_fits","hand_fits",(top 33),["hand","boxes","turns"],["hand","boxes","turns"]⟩,
 ⟨none,"change_fits","change_fits",(top 34),["change","boxes","turns"],["change","boxes","turns"]⟩,
 ⟨none,"is_part","is_part",(top 39),["thing"],["thing","boxes"]⟩,
 ⟨none,"boxes_fit","boxes_fit",(top 40),["thing"],["thing"]⟩,
 ⟨none,"is_house","is_house",(top 41),["thing"],["thing"]⟩,
 ⟨none,"names_only","names_only",(top 42),["part","names"],["part","names","waiting","lines","line"]⟩,
 ⟨none,"behind","behind",(top 43),["house","name"],["house","name","names"]⟩,
 ⟨none,"shown_key","shown_key",(top 47),["key"],["key"]⟩,
 ⟨none,"shown_reckoning","shown_reckoning",(top 48),["reckoning"],["reckoning","words","waiting","inner"]⟩,
 ⟨none,"number_shown","number_shown",(top 49),["word"],["word","figures","number"]⟩,
 ⟨none,"joined_items","joined_items",(top 51),["items"],["items","made","item","inner"]⟩,
 ⟨none,"shown_house","shown_house",(top 56),["house"],["house","rows","part"]⟩,
 ⟨none,"shown_pairs","shown_pairs",(top 57),["word","pairs"],["word","pairs"]⟩,
 ⟨none,"shown_lines","shown_lines",(top 58),["lines"],["lines","rows","line"]⟩,
 ⟨none,"shown_line","shown_line",(top 59),["line"],["line","head"]⟩,
 ⟨none,"shown_hands","shown_hands",(top 60),["hands"],["hands","rows","hand"]⟩,
 ⟨none,"read_house","read_house",(top 61),["rows"],["rows","reader","line","row","house"]⟩,
 ⟨none,"begun_line","begun_line",(top 63),["word","row"],["word","row","name","number"]⟩,
 ⟨none,"closed","closed",(top 64),["thing"],["thing"]⟩,
 ⟨none,"_law_tape","_law_tape",(top 66),["_law_script"],["_law_script"]⟩,
 ⟨none,"_law_draw","_law_draw",(top 67),U3,["_law_tape_here","_law_many","_law_script","_law_digit","_law_cell","_law_mixed"]⟩,
 ⟨none,"_law_names","_law_names",(top 68),U3,["_law_tape_here","_law_many","_law_pool","_law_start","_law_stride"]⟩,
 ⟨none,"_law_number","_law_number",(top 69),U9,U9⟩,
 ⟨none,"_law_leaf","_law_leaf",(top 70),U1,U7⟩,
 ⟨none,"_law_sum","_law_sum",(top 71),U0,["_law_tape_here","_law_kit","_law_turns","_law_deep","_law_way","_law_word","_law_many"]⟩,
 ⟨none,"_law_key","_law_key",(top 72),U1,U7⟩,
 ⟨none,"_law_pairs","_law_pairs",(top 73),U5,["_law_tape_here","_law_kit","_law_turns","_law_most","_law_names_here"]⟩,
 ⟨none,"_law_hands","_law_hands",(top 74),U1,["_law_tape_here","_law_kit","_law_turns","_law_hands_here","_law_event","_law_changes","_law_k","_law_box","_law_word"]⟩,
 ⟨none,"_law_plain","_law_plain",(top 75),U0,["_law_tape_here","_law_kit","_law_turns","_law_deep","_law_key_here","_law_tag","_law_sets","_law_hands_here","_law_lines_here"]⟩,
 ⟨none,"_law_part_line","_law_part_line",(top 76),U6,["_law_tape_here","_law_kit","_law_turns","_law_name","_law_key_here","_law_names_here"]⟩,
 ⟨none,"_law_each","_law_each",(top 77),U2,["_law_tape_here","_law_kit","_law_deep","_law_name","_law_number_here","_law_spare","_law_lines_here","_law_k"]⟩,
 ⟨none,"_law_line","_law_line",(top 78),U0,["_law_tape_here","_law_kit","_law_turns","_law_deep","_law_way","_law_name","_law_key_here","_law_number_here","_law_lines_here"]⟩,
 ⟨none,"_law_lines","_law_lines",(top 79),U0,["_law_tape_here","_law_kit","_law_turns","_law_deep","_law_lines_here","_law_k"]⟩,
 ⟨none,"_law_part","_law_part",(top 80),U4,["_law_tape_here","_law_names_here","_law_k","_law_keyed","_law_many","_law_boxes","_law_kit","_law_first","_law_lines_here","_law_work_names","_law_works"]⟩,
 ⟨none,"_law_house","_law_house",(top 81),U9,["_law_tape_here","_law_names_here","_law_keyed"]⟩,
 ⟨none,"_law_words","_law_words",(top 82),["_law_rule"],["_law_rule","_law_words_here","_law_one"]⟩,
 ⟨none,"_law_row","_law_row",(top 83),U8,U8⟩,
 ⟨none,"_law_line_rows","_law_line_rows",(top 84),["_law_line_here"],["_law_line_here","_law_rows_here","_law_event","_law_rank","_law_last","_law_changes"]⟩,
 ⟨none,"_law_rows","_law_rows",(top 85),O9,["_law_lines_here","_law_rows_here","_law_line_here"]⟩,
 ⟨none,"_law_house_rows","_law_house_rows",(top 86),["_law_house_here"],["_law_house_here","_law_rows_here","_law_name","_law_boxes","_law_works","_law_lines_here"]⟩,
 ⟨none,"_law_kind","_law_kind",(top 87),["_law_thing"],["_law_thing","_law_sorts"]⟩,
 ⟨none,"_law_alike","_law_alike",(top 88),["_law_one","_law_other"],["_law_one","_law_other","_law_sort","_law_key_here","_law_twins"]⟩,
 ⟨none,"law","law",(top 89),["_law_script"],["_law_script","_law_tape_here","_law_house_here","_law_due","_law_rows_here","_law_found","_law_least"]⟩,
 ⟨some "NoText","__init__","NoText.__init__",(wJ (top 2) 0),["self","line","word"],["self","line","word"]⟩,
 ⟨some "RowReader","__init__","RowReader.__init__",(wJ (top 50) 0),["self","row","line"],["self","row","line"]⟩,
 ⟨some "RowReader","next_word","RowReader.next_word",(wJ (top 50) 1),["self"],["self"]⟩,
 ⟨some "RowReader","refuse","RowReader.refuse",(wJ (top 50) 2),["self"],["self"]⟩,
 ⟨some "RowReader","finish","RowReader.finish",(wJ (top 50) 3),["self"],["self"]⟩,
 ⟨some "RowReader","one_of","RowReader.one_of",(wJ (top 50) 4),["self","words"],["self","words","word"]⟩,
 ⟨some "RowReader","name","RowReader.name",(wJ (top 50) 5),["self"],["self","word"]⟩,
 ⟨some "RowReader","number","RowReader.number",(wJ (top 50) 6),["self"],["self","number"]⟩,
 ⟨some "RowReader","key","RowReader.key",(wJ (top 50) 7),["self"],["self"]⟩,
 ⟨some "RowReader","reckoning","RowReader.reckoning",(wJ (top 50) 8),["self"],["self","items","lacking","item"]⟩,
 ⟨some "RowReader","item","RowReader.item",(wJ (top 50) 9),["self"],["self","word","number"]⟩,
 ⟨some "HouseReader","__init__","HouseReader.__init__",(wJ (top 62) 0),["self"],["self"]⟩,
 ⟨some "HouseReader","house","HouseReader.house",(wJ (top 62) 1),["self"],["self"]⟩,
 ⟨some "HouseReader","read","HouseReader.read",(wJ (top 62) 2),["self","row"],["self","row","word"]⟩,
 ⟨some "HouseReader","may_stand","HouseReader.may_stand",(wJ (top 62) 3),["self","word"],["self","word","waits"]⟩,
 ⟨some "HouseReader","begin_part","HouseReader.begin_part",(wJ (top 62) 4),["self","row"],["self","row","name"]⟩,
 ⟨some "HouseReader","begin","HouseReader.begin",(wJ (top 62) 5),["self","word","row"],["self","word","row","line"]⟩,
 ⟨some "HouseReader","end_line","HouseReader.end_line",(wJ (top 62) 6),["self"],["self","line"]⟩,
 ⟨some "HouseReader","fill","HouseReader.fill",(wJ (top 62) 7),["self","word","row"],["self","word","row","name","inmost","rank","changing"]⟩]
set_option genInjectivity false in
structure Adr where
 f:Nat->Addr
 d:Nat->FuncData
 t_BOUND:Tok
 Jh:Tok
 wN:Tok
 NAMING:Addr
 JOINING:Addr
 LINE_SIZES:Addr
 INNER_PLACES:Addr
 iY:Addr
 aY:Addr
 eY:Addr
 tY:Addr
 oY:Addr
 CHANGING:Addr
 yD:Tok
 iO:Tok
 tI:Tok
 zS:Tok
 eI:Tok
 qE:Tok
 eO:Tok
 aO:Tok
 Ji:Tok
 vN:Tok
 RANKS:Addr
 RIGHT_BEHIND:Addr
 zW:Addr
 qW:Addr
 iV:Addr
 aV:Addr
 eV:Addr
 tV:Addr
 BEGINNING:Addr
 ViewError:Addr
 NoText:Addr
 RowReader:Addr
 HouseReader:Addr
structure Txt(P:Program)(w:World)(K:DD)(mg:Str->Option Value)(a:Adr):Prop where
 F:∀(i:Nat){k:Option Str}{nm q:Str}{st:Stmt}{ps N:List Str},tab[i]?=some ⟨k,nm,q,st,ps,N⟩->CL.FI K mg k nm q st ps N (a.f i) (a.d i)
 V6:mg "BOUND" = some (.int 1000000000 a.t_BOUND)
 V2:mg "LETTERS" = some (.str "abcdefghijklmnopqrstuvwxyz" a.Jh)
 gS:mg "LONGEST_NAME" = some (.int 8 a.wN)
 xA:mg "NAMING" = some (.ref a.NAMING)
 mE:∀H:Hp,SqT K H a.NAMING [.str "take",.str "box",.str "down",.str "turn"]
 yU:mg "JOINING" = some (.ref a.JOINING)
 gU:KD K P w a.JOINING [(Sum.inr "add",.int 2),(Sum.inr "times",.int 2),(Sum.inr "less",.int 2),(Sum.inr "pick",.int 3)]
 QL:mg "LINE_SIZES" = some (.ref a.LINE_SIZES)
 QU:KD K P w a.LINE_SIZES [(Sum.inr "plain",.int 6),(Sum.inr "part",.int 4),(Sum.inr "give",.int 5),(Sum.inr "when",.int 4),(Sum.inr "each",.int 4)]
 bS:mg "INNER_PLACES" = some (.ref a.INNER_PLACES)
 fS:KD K P w a.INNER_PLACES [(Sum.inr "plain",.ref a.iY),(Sum.inr "part",.ref a.aY),(Sum.inr "give",.ref a.eY),(Sum.inr "when",.ref a.tY),(Sum.inr "each",.ref a.oY)]
 kH:∀H:Hp,SqT K H a.iY [.int 5]
 xH:∀H:Hp,SqT K H a.aY []
 jH:∀H:Hp,SqT K H a.eY [.int 4]
 zH:∀H:Hp,SqT K H a.tY [.int 2,.int 3]
 qH:∀H:Hp,SqT K H a.oY [.int 3]
 wO:mg "CHANGING" = some (.ref a.CHANGING)
 pT:∀H:Hp,SqT K H a.CHANGING [.str "set",.str "add",.str "times"]
 tL:mg "MOST_RECKONINGS" = some (.int 20 a.yD)
 QJ:mg "MOST_LINES" = some (.int 30 a.iO)
 XS:mg "MOST_DEEP" = some (.int 6 a.tI)
 kA:mg "MOST_EACHES" = some (.int 2 a.zS)
 XT:mg "LAST_RANK" = some (.int 3 a.eI)
 QK:mg "MOST_BOXES" = some (.int 4 a.qE)
 QH:mg "MOST_WORKS" = some (.int 4 a.eO)
 QI:mg "MOST_PARTS" = some (.int 6 a.aO)
 V4:mg "FIGURES" = some (.str "0123456789" a.Ji)
 uS:mg "MOST_FIGURES" = some (.int 10 a.vN)
 gRANKS:mg "RANKS" = some (.ref a.RANKS)
 qRANKS:∀H:Hp,SqT K H a.RANKS [.str "1",.str "2",.str "3"]
 tG:mg "RIGHT_BEHIND" = some (.ref a.RIGHT_BEHIND)
 eG:KD K P w a.RIGHT_BEHIND [(Sum.inr "box",.ref a.zW),(Sum.inr "work",.ref a.qW),(Sum.inr "set",.ref a.iV),(Sum.inr "hand",.ref a.aV),(Sum.inr "change",.ref a.eV),(Sum.inr "with",.ref a.tV)]
 iP:∀H:Hp,SqT K H a.zW [.str "part",.str "box"]
 aP:∀H:Hp,SqT K H a.qW [.str "part",.str "box",.str "work"]
 eP:∀H:Hp,SqT K H a.iV [.str "plain",.str "set"]
 tP:∀H:Hp,SqT K H a.aV [.str "plain",.str "set",.str "hand",.str "change"]
 oP:∀H:Hp,SqT K H a.eV [.str "hand",.str "change"]
 sP:∀H:Hp,SqT K H a.tV [.str "draw",.str "with"]
 nC:mg "BEGINNING" = some (.ref a.BEGINNING)
 nN:∀H:Hp,SqT K H a.BEGINNING [.str "plain",.str "draw",.str "give",.str "when",.str "each"]
 z_ValueError:mg "ValueError" = none
 z_abs:mg "abs" = none
 vP:mg "all" = none
 Xl:mg "bool" = none
 fI:mg "enumerate" = none
 wF:mg "int" = none
 kX:mg "isinstance" = none
 rZ:mg "len" = none
 wL:mg "list" = none
 z_max:mg "max" = none
 kG:mg "range" = none
 iH:mg "reversed" = none
 lB:mg "str" = none
 hZ:mg "tuple" = none
 m_ViewError:mg "ViewError" = some (.ref a.ViewError)
 m_NoText:mg "NoText" = some (.ref a.NoText)
 xX:mg "RowReader" = some (.ref a.RowReader)
 pQ:Cls K a.RowReader
 lE:Mk K a.RowReader (a.f 58)
 xP:NoAttr K a.RowReader "line"
 pZ:NoAttr K a.RowReader "taken"
 dJ:NoAttr K a.RowReader "words"
 yJ:mg "HouseReader" = some (.ref a.HouseReader)
 rQ:Cls K a.HouseReader
 wC:Mk K a.HouseReader (a.f 68)
 jV:NoAttr K a.HouseReader "ahead"
 sQ:NoAttr K a.HouseReader "around"
 zV:NoAttr K a.HouseReader "parts"
def Gg:CL.vo CL.RB tab:=by
 unfold tab
 repeat refine⟨⟨⟨rfl,rfl,rfl,by decide +kernel,rfl,by decide +kernel,by decide +kernel⟩,fun _ _ _ _ _ _=>by first | (refine CL.args1 ?_;exact fun _=>rfl) | (refine CL.args2 ?_;exact fun _ _=>rfl) | (refine CL.Ga ?_;exact fun _ _ _=>rfl) | (refine CL.Ow ?_;exact fun _ _ _ _=>rfl)⟩,?_⟩
 exact trivial
def txt_mk{P:Program}{w:World}{K:DD}{h:Heap}{mg:Str->Option Value}(X:K.In h)(G:h.Ns mainGlobals mg){aj aa ab ae N O S U Y ak ah Z B D I J L M ai ao aq g q:Addr}{bh bj t2 f5 f6 f7 f9 az a0 a3 a4 bx bz b0 b1 a5 a6 a7 a8 a9 b2 b3 b4 b5 b6 ba bb bc bf bg gb gc gf gg gh gi gj gk t8 t9 bl bo bp bq br bt bu bw e7 e8 e9 ar au av aw ax ay fb fc fe ff fg fh fi fj fk fl fm fo fp fq ft fu fv fy fz f3:Tok}{dp dq dr dt d3 d4 d5 d6 d7 du dk dm dw dy dz d0 d1 d2 dn:Nat}(dv:CL.vo (CL.FH K) tab)(cy:PySem.W.nsIn K mainGlobals "BOUND" = some (some (.int 1000000000 bh)))(cz:PySem.W.nsIn K mainGlobals "LETTERS" = some (some (.str "abcdefghijklmnopqrstuvwxyz" bj)))(da:PySem.W.nsIn K mainGlobals "LONGEST_NAME" = some (some (.int 8 t2)))(dd:PySem.W.nsIn K mainGlobals "NAMING" = some (some (.ref aj)))(ey:K.lookup aj=some { cls:=.type "tuple",data:=.seq #[.str "take" f5,.str "box" f6,.str "down" f7,.str "turn" f9] dp })(de:PySem.W.nsIn K mainGlobals "JOINING" = some (some (.ref aa)))(ez:K.lookup aa=some { cls:=.type "dict",data:=.dict #[{ hash:=PyData.keyHash w.params "add",key:=.str "add" az,val:=.int 2 bx },{ hash:=PyData.keyHash w.params "times",key:=.str "times" a0,val:=.int 2 bz },{ hash:=PyData.keyHash w.params "less",key:=.str "less" a3,val:=.int 2 b0 },{ hash:=PyData.keyHash w.params "pick",key:=.str "pick" a4,val:=.int 3 b1 }] dq })(e4:(aa==sysModules)=false)(df:PySem.W.nsIn K mainGlobals "LINE_SIZES" = some (some (.ref ab)))(e0:K.lookup ab=some { cls:=.type "dict",data:=.dict #[{ hash:=PyData.keyHash w.params "plain",key:=.str "plain" a5,val:=.int 6 b2 },{ hash:=PyData.keyHash w.params "part",key:=.str "part" a6,val:=.int 4 b3 },{ hash:=PyData.keyHash w.params "give",key:=.str "give" a7,val:=.int 5 b4 },{ hash:=PyData.keyHash w.params "when",key:=.str "when" a8,val:=.int 4 b5 },{ hash:=PyData.keyHash w.params "each",key:=.str "each" a9,val:=.int 4 b6 }] dr })(e5:(ab==sysModules)=false)(dg:PySem.W.nsIn K mainGlobals "INNER_PLACES" = some (some (.ref ae)))(e1:K.lookup ae=some { cls:=.type "dict",data:=.dict #[{ hash:=PyData.keyHash w.params "plain",key:=.str "plain" ba,val:=.ref N },{ hash:=PyData.keyHash w.params "part",key:=.str "part" bb,val:=.ref O },{ hash:=PyData.keyHash w.params "give",key:=.str "give" bc,val:=.ref S },{ hash:=PyData.keyHash w.params "when",key:=.str "when" bf,val:=.ref U },{ hash:=PyData.keyHash w.params "each",key:=.str "each" bg,val:=.ref Y }] dt })(e6:(ae==sysModules)=false)(ek:K.lookup N=some { cls:=.type "tuple",data:=.seq #[.int 5 gb] d3 })(el:K.lookup O=some { cls:=.type "tuple",data:=.seq #[] d4 })(en:K.lookup S=some { cls:=.type "tuple",data:=.seq #[.int 4 gc] d5 })(eo:K.lookup U=some { cls:=.type "tuple",data:=.seq #[.int 2 gf,.int 3 gg] d6 })(er:K.lookup Y=some { cls:=.type "tuple",data:=.seq #[.int 3 gh] d7 })(dh:PySem.W.nsIn K mainGlobals "CHANGING" = some (some (.ref ak)))(e2:K.lookup ak=some { cls:=.type "tuple",data:=.seq #[.str "set" gi,.str "add" gj,.str "times" gk] du })(di:PySem.W.nsIn K mainGlobals "MOST_RECKONINGS" = some (some (.int 20 t8)))(dj:PySem.W.nsIn K mainGlobals "MOST_LINES" = some (some (.int 30 t9)))(c0:PySem.W.nsIn K mainGlobals "MOST_DEEP" = some (some (.int 6 bl)))(c1:PySem.W.nsIn K mainGlobals "MOST_EACHES" = some (some (.int 2 bo)))(c2:PySem.W.nsIn K mainGlobals "LAST_RANK" = some (some (.int 3 bp)))(c3:PySem.W.nsIn K mainGlobals "MOST_BOXES" = some (some (.int 4 bq)))(c4:PySem.W.nsIn K mainGlobals "MOST_WORKS" = some (some (.int 4 br)))(c5:PySem.W.nsIn K mainGlobals "MOST_PARTS" = some (some (.int 6 bt)))(c6:PySem.W.nsIn K mainGlobals "FIGURES" = some (some (.str "0123456789" bu)))(c7:PySem.W.nsIn K mainGlobals "MOST_FIGURES" = some (some (.int 10 bw)))(c8:PySem.W.nsIn K mainGlobals "RANKS" = some (some (.ref ah)))(et:K.lookup ah=some { cls:=.type "tuple",data:=.seq #[.str "1" e7,.str "2" e8,.str "3" e9] dk })(c9:PySem.W.nsIn K mainGlobals "RIGHT_BEHIND" = some (some (.ref Z)))(eu:K.lookup Z=some { cls:=.type "dict",data:=.dict #[{ hash:=PyData.keyHash w.params "box",key:=.str "box" ar,val:=.ref B },{ hash:=PyData.keyHash w.params "work",key:=.str "work" au,val:=.ref D },{ hash:=PyData.keyHash w.params "set",key:=.str "set" av,val:=.ref I },{ hash:=PyData.keyHash w.params "hand",key:=.str "hand" aw,val:=.ref J },{ hash:=PyData.keyHash w.params "change",key:=.str "change" ax,val:=.ref L },{ hash:=PyData.keyHash w.params "with",key:=.str "with" ay,val:=.ref M }] dm })(e3:(Z==sysModules)=false)(ee:K.lookup B=some { cls:=.type "tuple",data:=.seq #[.str "part" fb,.str "box" fc] dw })(ef:K.lookup D=some { cls:=.type "tuple",data:=.seq #[.str "part" fe,.str "box" ff,.str "work" fg] dy })(eg:K.lookup I=some { cls:=.type "tuple",data:=.seq #[.str "plain" fh,.str "set" fi] dz })(eh:K.lookup J=some { cls:=.type "tuple",data:=.seq #[.str "plain" fj,.str "set" fk,.str "hand" fl,.str "change" fm] d0 })(ei:K.lookup L=some { cls:=.type "tuple",data:=.seq #[.str "hand" fo,.str "change" fp] d1 })(ej:K.lookup M=some { cls:=.type "tuple",data:=.seq #[.str "draw" fq,.str "with" ft] d2 })(dc:PySem.W.nsIn K mainGlobals "BEGINNING" = some (some (.ref ai)))(ew:K.lookup ai=some { cls:=.type "tuple",data:=.seq #[.str "plain" fu,.str "draw" fv,.str "give" fy,.str "when" fz,.str "each" f3] dn })(z0:PySem.W.nsIn K mainGlobals "ValueError" = some none)(z1:PySem.W.nsIn K mainGlobals "abs" = some none)(z2:PySem.W.nsIn K mainGlobals "all" = some none)(z3:PySem.W.nsIn K mainGlobals "bool" = some none)(z4:PySem.W.nsIn K mainGlobals "enumerate" = some none)(z5:PySem.W.nsIn K mainGlobals "int" = some none)(z6:PySem.W.nsIn K mainGlobals "isinstance" = some none)(z7:PySem.W.nsIn K mainGlobals "len" = some none)(z8:PySem.W.nsIn K mainGlobals "list" = some none)(z9:PySem.W.nsIn K mainGlobals "max" = some none)(gm:PySem.W.nsIn K mainGlobals "range" = some none)(gn:PySem.W.nsIn K mainGlobals "reversed" = some none)(gp:PySem.W.nsIn K mainGlobals "str" = some none)(gq:PySem.W.nsIn K mainGlobals "tuple" = some none)(b7:PySem.W.nsIn K mainGlobals "ViewError" = some (some (.ref ao)))(b8:PySem.W.nsIn K mainGlobals "NoText" = some (some (.ref aq)))(af:PySem.W.nsIn K mainGlobals "RowReader" = some (some (.ref g)))(b9:PySem.W.plainGet K g Str.empty=true)(cc:PySem.W.hasDictIn K g=true)(cj:PySem.W.plainOver K g=true)(cn:PySem.W.findIn K (.ref g) "__setattr__" = some (some (.builtin "object.__setattr__")))(cq:PySem.W.makesIn K g=true)(cu:PySem.W.keepIn K (.ref g)=true)(d8:PySem.W.findIn K (.ref g) "line" = some none)(d9:PySem.W.findIn K (.ref g) "taken" = some none)(ea:PySem.W.findIn K (.ref g) "words" = some none)(ag:PySem.W.nsIn K mainGlobals "HouseReader" = some (some (.ref q)))(cb:PySem.W.plainGet K q Str.empty=true)(cg:PySem.W.hasDictIn K q=true)(ck:PySem.W.plainOver K q=true)(cp:PySem.W.findIn K (.ref q) "__setattr__" = some (some (.builtin "object.__setattr__")))(ct:PySem.W.makesIn K q=true)(cw:PySem.W.keepIn K (.ref q)=true)(eb:PySem.W.findIn K (.ref q) "ahead" = some none)(ec:PySem.W.findIn K (.ref q) "around" = some none)(ed:PySem.W.findIn K (.ref q) "parts" = some none): ∃a:Adr,Txt P w K mg a:=by
 obtain⟨f,d,F⟩:=CL.vd X G dv Gg
 exact⟨⟨f,d,bh,bj,t2,aj,aa,ab,ae,N,O,S,U,Y,ak,t8,t9,bl,bo,bp,bq,br,bt,bu,bw,ah,Z,B,D,I,J,L,M,ai,ao,aq,g,q⟩,F,
  Ag X G cy,
  Ag X G cz,
  Ag X G da,
  Ag X G dd,
  fun _=>.inr ⟨_,_,_,ey,rfl,rfl,y0 4 rfl,(.cons ⟨_,rfl⟩ (.cons ⟨_,rfl⟩ (.cons ⟨_,rfl⟩ (.cons ⟨_,rfl⟩ .nil))))⟩,
  Ag X G de,
  Fj (l:=[("add",az,2,bx),("times",a0,2,bz),("less",a3,2,b0),("pick",a4,3,b1)]) ez (by show(["add","times","less","pick"]:List Str).Nodup;decide +kernel) e4 (fun _=>rfl),
  Ag X G df,
  Fj (l:=[("plain",a5,6,b2),("part",a6,4,b3),("give",a7,5,b4),("when",a8,4,b5),("each",a9,4,b6)]) e0 (by show(["plain","part","give","when","each"]:List Str).Nodup;decide +kernel) e5 (fun _=>rfl),
  Ag X G dg,
  VJ (l:=[("plain",ba,.ref N,.ref N),("part",bb,.ref O,.ref O),("give",bc,.ref S,.ref S),("when",bf,.ref U,.ref U),("each",bg,.ref Y,.ref Y)]) e1 (by show(["plain","part","give","when","each"]:List Str).Nodup;decide +kernel) e6 (fun _=>rfl) (.cons rfl (.cons rfl (.cons rfl (.cons rfl (.cons rfl (.nil)))))),
  fun _=>.inr ⟨_,_,_,ek,rfl,rfl,y0 1 rfl,(.cons ⟨_,rfl⟩ .nil)⟩,
  fun _=>.inr ⟨_,_,_,el,rfl,rfl,y0 0 rfl,.nil⟩,
  fun _=>.inr ⟨_,_,_,en,rfl,rfl,y0 1 rfl,(.cons ⟨_,rfl⟩ .nil)⟩,
  fun _=>.inr ⟨_,_,_,eo,rfl,rfl,y0 2 rfl,(.cons ⟨_,rfl⟩ (.cons ⟨_,rfl⟩ .nil))⟩,
  fun _=>.inr ⟨_,_,_,er,rfl,rfl,y0 1 rfl,(.cons ⟨_,rfl⟩ .nil)⟩,
  Ag X G dh,
  fun _=>.inr ⟨_,_,_,e2,rfl,rfl,y0 3 rfl,(.cons ⟨_,rfl⟩ (.cons ⟨_,rfl⟩ (.cons ⟨_,rfl⟩ .nil)))⟩,
  Ag X G di,
  Ag X G dj,
  Ag X G c0,
  Ag X G c1,
  Ag X G c2,
  Ag X G c3,
  Ag X G c4,
  Ag X G c5,
  Ag X G c6,
  Ag X G c7,
  Ag X G c8,
  fun _=>.inr ⟨_,_,_,et,rfl,rfl,y0 3 rfl,(.cons ⟨_,rfl⟩ (.cons ⟨_,rfl⟩ (.cons ⟨_,rfl⟩ .nil)))⟩,
  Ag X G c9,
  VJ (l:=[("box",ar,.ref B,.ref B),("work",au,.ref D,.ref D),("set",av,.ref I,.ref I),("hand",aw,.ref J,.ref J),("change",ax,.ref L,.ref L),("with",ay,.ref M,.ref M)]) eu (by show(["box","work","set","hand","change","with"]:List Str).Nodup;decide +kernel) e3 (fun _=>rfl) (.cons rfl (.cons rfl (.cons rfl (.cons rfl (.cons rfl (.cons rfl (.nil))))))),
  fun _=>.inr ⟨_,_,_,ee,rfl,rfl,y0 2 rfl,(.cons ⟨_,rfl⟩ (.cons ⟨_,rfl⟩ .nil))⟩,
  fun _=>.inr ⟨_,_,_,ef,rfl,rfl,y0 3 rfl,(.cons ⟨_,rfl⟩ (.cons ⟨_,rfl⟩ (.cons ⟨_,rfl⟩ .nil)))⟩,
  fun _=>.inr ⟨_,_,_,eg,rfl,rfl,y0 2 rfl,(.cons ⟨_,rfl⟩ (.cons ⟨_,rfl⟩ .nil))⟩,
  fun _=>.inr ⟨_,_,_,eh,rfl,rfl,y0 4 rfl,(.cons ⟨_,rfl⟩ (.cons ⟨_,rfl⟩ (.cons ⟨_,rfl⟩ (.cons ⟨_,rfl⟩ .nil))))⟩,
  fun _=>.inr ⟨_,_,_,ei,rfl,rfl,y0 2 rfl,(.cons ⟨_,rfl⟩ (.cons ⟨_,rfl⟩ .nil))⟩,
  fun _=>.inr ⟨_,_,_,ej,rfl,rfl,y0 2 rfl,(.cons ⟨_,rfl⟩ (.cons ⟨_,rfl⟩ .nil))⟩,
  Ag X G dc,
  fun _=>.inr ⟨_,_,_,ew,rfl,rfl,y0 5 rfl,(.cons ⟨_,rfl⟩ (.cons ⟨_,rfl⟩ (.cons ⟨_,rfl⟩ (.cons ⟨_,rfl⟩ (.cons ⟨_,rfl⟩ .nil)))))⟩,
  Ay X G z0,
  Ay X G z1,
  Ay X G z2,
  Ay X G z3,
  Ay X G z4,
  Ay X G z5,
  Ay X G z6,
  Ay X G z7,
  Ay X G z8,
  Ay X G z9,
  Ay X G gm,
  Ay X G gn,
  Ay X G gp,
  Ay X G gq,
  Ag X G b7,
  Ag X G b8,
  Ag X G af,
  ⟨b9,cc,cj,cn⟩,
  ⟨cq,((F 58 rfl).M _ _ rfl (Ag X G af)).1,((F 58 rfl).M _ _ rfl (Ag X G af)).2,cu⟩,
  d8,
  d9,
  ea,
  Ag X G ag,
  ⟨cb,cg,ck,cp⟩,
  ⟨ct,((F 68 rfl).M _ _ rfl (Ag X G ag)).1,((F 68 rfl).M _ _ rfl (Ag X G ag)).2,cw⟩,
  eb,
  ec,
  ed⟩
structure Wd where
 P:Program
 w:World
 K:DD
 mg:Str->Option Value
 base:Heap
abbrev Tx(W:Wd)(a:Adr):Prop:=Txt W.P W.w W.K W.mg a
abbrev Ok(W:Wd)(a:Adr)(r i:Nat)(ps:List Str)(G:CL.GC):Prop:=FnOk W.P W.w W.K W.mg W.base CX0 r (a.f i) (a.d i) ps (CL.q9 W.K G)
end K13
namespace K13
open PySem L2 CL
section
variable {W:Wd}{a:Adr}
structure Tp(C:CH)(t:Addr)(ns:List Int):Prop where
 at_:∃a b c:Int,C t=some (.lst [.fz (ns.map PV.int),.int a,.int b,.int c])/\0<=a/\0<=b/\0<=c
 len:ns.length<=63
def Ex(t:Addr)(C C':CH):Prop:=∀b o,b≠t->C b=some o->C' b=some o
def Ex.refl: Ex t C C:=fun _ _ _ h=>h
theorem Ex.trans(h:Ex t C C1)(h':Ex t C1 C2):Ex t C C2:=fun b o n e=>h' b o n (h b o n e)
theorem Ex.new(g:C p=none)o:Ex t C (gQ C p o):=fun b u _ e=>by
 rw[vQ (fun z=>by subst z;rw[g] at e;cases e)];exact e
inductive VZ(ts:List PV)(C:CH)(Q:K1):Prop
 |mk(ns:List Int)(z0:ts=[.fz (ns.map PV.int)])(z1:ns.length<=63)(z2:∀t C',C t=none->Ex t C C'->Tp C' t ns->Q (.ref t) C')
def yf(T:Tx W a):Ok W a 1 33 ["_law_script"] VZ:=by
 refine(T.F 33 rfl).ok (fun ts C R h=>?_) fun D A J s H E I=>⟨_,(kQ (uQ (mQ (qQ (cv 0) (qQ jQ (qQ jQ (dN jQ))))))),?_⟩
 .obtain ⟨ns,rfl,_⟩:=h;rfl
 rintro ts C R ⟨ns,rfl,B,q⟩;show 4<=sizeLine/\∀p,C p=none->R (.ref p) (gQ C p (.lst [.fz (ns.map PV.int),.int 0,.int 0,.int 0]));exact⟨by decide,fun p g=>q p _ g (Ex.new g _) ⟨⟨0,0,0,zQ,by decide,by decide,by decide⟩,B⟩⟩
def Ex.wg o:Ex t C (gQ C t o):=fun b u n e=>by rwa [vQ n]
def WO{ns:List Int}(h0:0<=k)(h1:k < ((ns.map PV.int).length:Int)):∃v,atI (ns.map PV.int) k=some (.int v):=by
 delta atI ixN
 rw[Al h0,Al h1];rw[AB] at h1;show ∃v,(ns.map PV.int)[k.toNat]?=some (.int v);rw[Ah,AL (by lia)];exact⟨_,rfl⟩
inductive V5(ts:List PV)(C:CH)(Q:K1):Prop
 |mk(t:Addr)(m:Int)(ns:List Int)(z0:ts=[.ref t,.int m])(z1:Tp C t ns)(z2:0 < m)(z3:m < 4611686018427387904)(z4:∀(v:Int)(C':CH),0<=v->v < m->Tp C' t ns->Ex t C C'->Q (.int v) C')
def bK(T:Tx W a):Ok W a 1 34 U3 V5:=by
 have S:=(T.F 34 rfl).s
 refine(T.F 34 rfl).ok (fun ts C R h=>?_) fun ab A af s H E ae=>⟨_,(xQ (jb 2 S.nd (cx (cv 0) jQ))
  (xQ (qR (aQ oQ tQ (cx (cv 0) jQ) jQ) (iD (cv 0) jQ))
  (xQ (nQ (iz (jm (ct2 fX qX (cx (cv 0) jQ) jQ) (jh (ct2 qM cY (cx (cv 0) jQ) (kh T.rZ (cv 2)))))) (xQ (qR (aQ Qi QX (gX Wy DK rfl T.z_abs rfl (dN (cx (cv 2) (cx (cv 0) jQ)))) (aQ Xx oA jQ jQ)) (iD (cv 0) jQ))
  (kQ (qR (aQ oQ tQ (cx (cv 0) jQ) jQ) (iD (cv 0) jQ)))) dQ)
  (xQ (nQ (ct2 kK vJ (cx (cv 0) jQ) jQ) (xQ (jb 3 S.nd (aQ iB pG (cx (cv 0) jQ) (cv 1)))
  (xQ (qR (aQ Qi QX (cx (cv 0) jQ) (cv 1)) (iD (cv 0) jQ))
  (kQ (uQ (cv 3))))) dQ)
  (xQ (jb 4 S.nd jQ)
  (xQ (nQ (ct2 kK vJ (kh T.rZ (cv 2)) jQ) (kQ (jb 4 S.nd (cx (cv 2) (aQ iB pG (cx (cv 0) jQ) (kh T.rZ (cv 2)))))) dQ)
  (xQ (jb 5 S.nd (aQ iB pG (aQ oQ tQ (aQ oQ tQ (aQ jC aD (aQ iB pG (cv 4) jQ) jQ) (aQ jC aD (cx (cv 0) jQ) jQ)) jQ) jQ))
  (xQ (jb 5 S.nd (aQ iB pG (aQ jC aD (cv 5) (aQ oQ tQ (cv 5) jQ)) jQ))
  (kQ (uQ (aQ iB pG (aQ iB pG (aQ jC aD (cv 5) jQ) jQ) (cv 1)))))))))))),?_⟩
 .obtain ⟨t,m,ns,rfl,_⟩:=h;rfl
 rintro ts C R ⟨t,m,ns,rfl,⟨⟨x,y,z,h,hx,U,hz⟩,N⟩,D,m1,aa⟩;refine vZ h rfl (vZ h rfl (cV (KN h rfl ?_)));dsimp only;have h1:(gQ C t (.lst [.fz (ns.map PV.int),.int (x+1),.int y,.int z])) t=_:=zQ;have g:Ex t C (gQ C t (.lst [.fz (ns.map PV.int),.int (x+1),.int y,.int z])):=Ex.wg _;refine lX (fun I C'=>I=[some (.ref t),some (.int m),some (.fz (ns.map PV.int)),none,none,none]/\∃y z:Int,C' t=some (.lst [.fz (ns.map PV.int),.int (x+1),.int y,.int z])/\0<=y/\0<=z/\Ex t C C') (fun L q=>?_) ?_
 .refine vZ h1 rfl (fQ (zX _ _) (lJ (fun M=>?_) fun M=>?_))
  .refine vZ h1 rfl (VE (jo (lJ (fun B=>?_) fun B=>?_)))
   .obtain ⟨c,J⟩:=WO hz (Af B)
    refine vZ h1 rfl (Nf J ⟨⟨by decide,by decide,by decide⟩,⟨by decide,by decide⟩,?_⟩);refine KN h1 rfl (vZ zQ rfl (cV (KN zQ rfl (q _ _ ⟨rfl,_,_,zQ,?_,by lia,(g.trans (Ex.wg _)).trans (Ex.wg _)⟩))));refine Int.ediv_nonneg ?_ (by decide)
    split<;>lia
   .exact lQ (q _ _ ⟨rfl,y,z,h1,U,hz,g⟩)
  .exact xG rfl (lQ (q _ _ ⟨rfl,y,z,h1,U,hz,g⟩))
 clear h1 g;rintro I C1 ⟨rfl,y',z',h1,Y,Z,g⟩;refine aJ (vZ h1 rfl (jo (lJ (fun M=>?_) fun M=>?_)))
 .refine vZ h1 rfl ⟨D,vZ h1 rfl ⟨⟨D,by lia⟩,?_⟩⟩
  exact KN h1 rfl (aa _ _ (B4 _ (by lia)) (Bk _ D) ⟨⟨_,_,_,zQ,by lia,Int.ediv_nonneg Y (by lia),Z⟩,N⟩ (g.trans (Ex.wg _)))
 .refine lQ (mX (R7 ?_))
  try dsimp only
  refine lX (fun I C'=>C'=C1/\∃v:Int,I=[some (.ref t),some (.int m),some (.fz (ns.map PV.int)),none,some (.int v),none]) (fun L q=>?_) ?_
  .refine VE (jo (lJ (fun B=>?_) fun B=>?_))
   .have O:(0:Int) < ((ns.map PV.int).length:Int):=Af B
    obtain⟨c,J⟩:=WO (B4 (x+1) (b:=((ns.map PV.int).length:Int)) (by lia)) (Bk (x+1) O);exact vZ h1 rfl (VE ⟨O,Nf J (q _ _ ⟨rfl,_,rfl⟩)⟩)
   .exact lQ (q _ _ ⟨rfl,0,rfl⟩)
  .rintro I C2 ⟨rfl,v,rfl⟩
   refine mX ⟨(by show(0:Int) < _;decide),?_⟩;refine⟨.inr ⟨by decide,by decide⟩,?_⟩;refine vZ h1 rfl ⟨.inr ⟨by decide,by decide⟩,?_⟩;refine cV (cV ⟨(by show(0:Int) < _;decide),?_⟩);have b0:=B4 (v % 2147483647 * 48271+(x+1) * 7919+12345) (b:=2147483629) (by decide);have b1:=Bk (v % 2147483647 * 48271+(x+1) * 7919+12345) (b:=2147483629) (by decide);refine mX (cV ⟨.inl ⟨by lia,by lia⟩,?_⟩)
   refine⟨(by show(0:Int) < _;decide),?_⟩;refine⟨.inr ⟨by decide,by decide⟩,?_⟩;refine⟨(by show(0:Int) < _;decide),?_⟩;exact⟨D,aa _ _ (B4 _ (by lia)) (Bk _ D) ⟨⟨_,_,_,h1,by lia,Y,Z⟩,N⟩ g⟩
theorem Tp.ne(h:Tp C t ns)(g:C p=none):p≠t:=fun e=>by
 obtain⟨⟨x,y,z,h,_⟩,_⟩:=h;rw[<- e,g] at h;cases h
def Tp.new(h:Tp C t ns)(g:C p=none)o:Tp (gQ C p o) t ns:=by
 have n:=h.ne g;obtain⟨⟨x,y,z,h,q⟩,l⟩:=h;exact⟨⟨x,y,z,(vQ (Ne.symm n)).trans h,q⟩,l⟩
def El:List Str:=["a","ab","abc","b","ba","box","end","give","part","plain","turn","abcdefgh"]
def oW{g:Type}{f:g->PV}{ss:List g}d(h0:0<=k)(h1:k < (ss.length:Int)):atI (ss.map f) k=some (f (ss.getD k.toNat d)):=by
 delta atI ixN
 rw[Al h0,Al (by simp_all)];show(ss.map f)[k.toNat]?=_;rw[Ah,List.getD_eq_getElem?_getD,AL (by lia)]
 rfl
def XB(v c:Int)(i:Nat):Str:=El.getD ((v+c * (i:Int)) % 12).toNat ""
def uW(v c:Int)(m:Nat):List Str:=(List.range m).map (XB v c)
def Kk:∀v∈List.range 12,∀c∈[1,5,7,11],(uW v (c:Nat) 12).Nodup:=by decide +kernel
def Qo(D:0<=v)(J:v < 12)(q:c=1\/c=5\/c=7\/c=11)(B:m<=12):(uW v c m).Nodup:=by
 have g:(uW v c 12).Nodup:=by
  have:=Kk v.toNat (Bu.2 (by lia));have I:=Int.toNat_of_nonneg D
  rcases q with rfl | rfl | rfl | rfl
  .grind
  .grind
  .grind
  .grind
 have e:uW v c m=(uW v c 12).take m:=by
  delta uW
  rw[<- List.map_take,List.take_range,Nat.min_eq_left B]
 exact e▸g.sublist (CM _ _)
def Wm f(I:CH->Prop)m(h:∀k C D,k < m->I C->(∀C',I C'->D (f k) C')->c (some (.int k )::L) C D)(q:∀p C',I C'->C' p=none->Q (.ref p) (gQ C' p (.lst ((List.range m).map f)))):∀n C,n<=m->m<=1000->I C->jK fM c L Q ((List.range m).drop n |>.map fun k=>PV.int (k:Nat)) ((List.range n).map f) C:=by
 suffices ∀j n C,n+j=m->m<=1000->I C->jK fM c L Q ((List.range m).drop n |>.map fun k=>PV.int (k:Nat)) ((List.range n).map f) C by
  intro n C J B g;exact this (m - n) n C (by lia) B g
 intro j
 induction j with
 |zero =>
  intro n C J B g;have e:n=m:=by lia
  subst e;rw[List.drop_of_length_le (A5▸AO _)];exact QZ fun p N=>q p C g N
 |succ j O =>
  intro n C J B g;rw[A6 (by grind),Ak,List.getElem_range];refine mO (h n C _ (by lia) g fun C' M=>⟨?_,?_⟩)
  .rw [AB,A5]
   exact AK (show n < 1001 by lia) (by decide)
  .have e:(List.range n).map f++[f n]=(List.range (n+1)).map f:=by rw[List.range_succ,AN];rfl
   exact e▸O (n+1) C' (by lia) B M
def QE(c:Nat):Bool:=!(Builtin.Str.occurrences ("abcdefghijklmnopqrstuvwxyz" : Str) ⟨#[c]⟩ 0 ("abcdefghijklmnopqrstuvwxyz" : Str).length 1).isEmpty
def zZ(z:Str):Bool:=(decide ((1:Int)<=(z.length:Nat))&&decide (((z.length:Nat):Int)<=8))&&z.cps.toList.all QE
def xq:El.all zZ=true:=by decide +kernel
def OD(h:zZ z=true):z.length<=8 :=by grind[zZ]
def VB v c n:∀s∈uW v c n,zZ s=true:=by
 intro s hs;obtain⟨i,_,rfl⟩:=AS.1 hs
 delta XB
 have g:((v+c * (i:Int)) % 12).toNat < El.length:=by
  have h1:=B4 (v+c * (i:Int)) (show(12:Int)≠0 by decide);have h2:=Bk (v+c * (i:Int)) (show(0:Int) < 12 by decide);show _ < 12
  lia
 exact List.getD_eq_getElem?_getD▸(AL g)▸BR.1 xq _ (Bf g)
inductive XR(ts:List PV)(C:CH)(Q:K1):Prop
 |mk(t:Addr)(m:Int)(ns:List Int)(z0:ts=[.ref t,.int m])(z1:Tp C t ns)(z2:0<=m)(z3:m<=12)(z4:∀(p:Addr)(ss:List Str)(C':CH),C' p=some (.lst (ss.map PV.str))->C p=none->p≠t->ss.length=m.toNat->(ss.Nodup/\∀s∈ss,zZ s=true)->Tp C' t ns->Ex t C C'->Q (.ref p) C')
def xM(T:Tx W a):Ok W a 2 35 U3 XR:=by
 have S:=(T.F 35 rfl).s;have eQ:=bK T
 refine(T.F 35 rfl).ok (fun ts C R h=>?_) fun ai A ak s H E aa=>⟨_,(xQ (jb 2 S.nd (mQ (qQ wQ (qQ wQ (qQ wQ (qQ wQ (qQ wQ (qQ wQ (qQ wQ (qQ wQ (qQ wQ (qQ wQ (qQ wQ (dN wQ))))))))))))))
  (xQ (jb 3 S.nd (cf (T.F 34 rfl) eQ aa (qQ (cv 0) (dN jQ))))
  (xQ (jb 4 S.nd (cx (mQ (qQ jQ (qQ jQ (qQ jQ (dN jQ))))) (cf (T.F 34 rfl) eQ aa (qQ (cv 0) (dN jQ)))))
  (kQ (uQ (aZ rfl (S.c (by decide +kernel)) (S.k rfl rfl rfl (by decide +kernel)) (xR rfl T.kG (dN (cv 1))) (fun _ _ _ _ _=>lZ) (fun _ _ _ _ _=>(cx (cv 3) (aQ iB pG (aQ oQ tQ (cv 4) (aQ jC aD (cv 5) (cv 0))) jQ))))))))),?_⟩
 .obtain ⟨t,m,ns,rfl,_⟩:=h;rfl
 rintro ts C R ⟨t,m,ns,rfl,L,aj,m1,af⟩;refine⟨by decide,fun p B=>?_⟩;refine⟨t,12,ns,rfl,L.new B _,by decide,by decide,fun v C1 ag ah N U=>?_⟩;refine⟨by decide,fun p2 M=>⟨t,4,ns,rfl,N.new M _,by decide,by decide,fun k C2 k0 k1 I Z=>?_⟩⟩;have ae:=U p _ (L.ne B) zQ;have Y:=(Ex.new M _).trans Z;have m2:=Z p2 _ (N.ne M) zQ;have J:=oW (f:=PV.int) (ss:=[1,5,7,11]) 0 k0 k1
 have q:[1,5,7,11].getD k.toNat (0:Int)=1\/[1,5,7,11].getD k.toNat (0:Int)=5\/[1,5,7,11].getD k.toNat (0:Int)=7\/[1,5,7,11].getD k.toNat (0:Int)=11:=by
  have:k=0\/k=1\/k=2\/k=3:=by lia
  rcases this with rfl | rfl | rfl | rfl
  .exact .inl rfl
  .exact .inr (.inl rfl)
  .exact .inr (.inr (.inl rfl))
  .exact .inr (.inr (.inr rfl))
 revert J q;generalize [1,5,7,11].getD k.toNat (0:Int)=c;intro J q;refine vZ m2 J ⟨by lia,by lia,?_⟩;have m3:=Y p _ (L.ne B) ae;have O:=((Ex.new B _).trans U).trans Y;have hb:c<=11/\1<=c:=by rcases q with rfl | rfl | rfl | rfl<;>lia
 refine Wm (fun i=>.str (XB v c i)) (fun C'=>C'=C2) m.toNat (fun i C3 Q' hi e hq=>?_) (fun D C3 e g=>?_) 0 C2 (AM _) (by lia) rfl
 .subst e
  refine⟨.inr ⟨by lia,by lia⟩,?_⟩;refine cV ⟨(by show(0:Int) < _;decide),?_⟩;have r0:=B4 (v+c * (i:Int)) (b:=12) (by decide);have r1:=Bk (v+c * (i:Int)) (b:=12) (by decide);exact vZ m3 (oW (ss:=El) "" r0 r1) (hq _ rfl)
 .subst e
  have ab:C D=none:=by
   cases z:C D with
   |none=>rfl
   |some o =>
    have n1:=I.ne g;rw[O D o n1 z] at g;cases g
  refine af D (uW v c m.toNat) _ ?_ ab (I.ne g) ?_ ⟨Qo ag ah q (by lia),VB v c m.toNat⟩ (I.new g _) (O.trans (Ex.new g _))
  .rw [zQ]
   delta uW
   rw[Aj]
   rfl
  .delta uW
   rw[AB,A5]
inductive jA(ts:List PV)(C:CH)(Q:K1):Prop
 |mk(t:Addr)(ns:List Int)(z0:ts=[.ref t])(z1:Tp C t ns)(z2:∀(i:Int)(C':CH),-1000000000<=i->i<=1000000000->Tp C' t ns->Ex t C C'->Q (.int i) C')
def Eh{ns:List Int}(g:∀x∈ns,lo<=x/\x<=hi)(h0:0<=k)(h1:k < ((ns.map PV.int).length:Int)):∃v,atI (ns.map PV.int) k=some (.int v)/\lo<=v/\v<=hi:=by
 delta atI ixN
 rw[Al h0,Al h1];rw[AB] at h1;show ∃v,(ns.map PV.int)[k.toNat]?=some (.int v)/\lo<=v/\v<=hi;rw[Ah,AL (by lia)];exact⟨_,rfl,g _ (Bf _)⟩
def nT(T:Tx W a):Ok W a 2 36 U9 jA:=by
 have I:=bK T
 refine(T.F 36 rfl).ok (fun ts C R h=>?_) fun ae A af s H E L=>⟨_,(xQ (nQ (ct2 kK vJ (cf (T.F 34 rfl) I L (qQ (cv 0) (dN jQ))) jQ) (kQ (uQ (aQ qV nJ (cf (T.F 34 rfl) I L (qQ (cv 0) (dN jQ))) jQ))) dQ)
  (kQ (uQ (cx (mQ (qQ (aQ Xx oA jQ jQ) (qQ (aW iK rJ (aQ Xx oA jQ jQ)) (qQ jQ (dN (aW iK rJ jQ)))))) (cf (T.F 34 rfl) I L (qQ (cv 0) (dN jQ))))))),?_⟩
 .obtain ⟨t,ns,rfl,_⟩:=h;rfl
 rintro ts C R ⟨t,ns,rfl,U,q⟩;refine⟨t,8,ns,rfl,U,by decide,by decide,fun v C1 aa ab B M=>?_⟩;refine jo (lJ (fun Y=>?_) fun Y=>?_)
 .refine ⟨t,9,ns,rfl,B,by decide,by decide,fun v C2 aa ab D g=>?_⟩
  exact jo (q (v - 3) C2 (by lia) (by lia) D (M.trans g))
 .refine lQ ⟨⟨by decide,by decide,by decide⟩,?_⟩
  refine⟨⟨by decide,by decide,by decide⟩,?_⟩;refine⟨by decide,fun p2 J=>?_⟩;refine⟨t,4,ns,rfl,B.new J _,by decide,by decide,fun k C2 Z k1 D g=>?_⟩;obtain⟨c,S,N,O⟩:=(Eh (ns:=[10 ^ 9,-10 ^ 9,999983,-70001]) (lo:=-1000000000) (hi:=1000000000) (by decide) Z k1);exact vZ (g p2 _ (B.ne J) zQ) S (q c C2 N O D ((M.trans (Ex.new J _)).trans g))
end
inductive Rk where
 |num (i:Int) | turn (n:Str) | ask (s n:Str) | bin (w:Str) (x y:Rk) | pick (x y z:Rk)
def Rk.pv:Rk->PV
 |.num i=>.tup [.str "num",.int i]
 |.turn n=>.tup [.str "turn",.str n]
 |.ask s n=>.tup [.str s,.str n]
 |.bin w x y=>.tup [.str w,x.pv,y.pv]
 |.pick x y z=>.tup [.str "pick",x.pv,y.pv,z.pv]
def WS(bs:List Str)(s n:Str):Prop:=((s = "take"\/s = "down")/\n∈(["a","ab","b"]:List Str))\/(s = "box"/\n∈bs)
def Rk.ok(bs τ:List Str):Nat->Rk->Prop
 |_,.num i=>-1000000000<=i/\i<=1000000000
 |_,.turn n=>n∈τ
 |_,.ask s n=>WS bs s n
 |0,.bin _ _ _=>False
 |0,.pick _ _ _=>False
 |d+1,.bin w x y=>(w = "add"\/w = "times"\/w = "less")/\x.ok bs τ d/\y.ok bs τ d
 |d+1,.pick x y z=>x.ok bs τ d/\y.ok bs τ d/\z.ok bs τ d
theorem Rk.ok.up: ∀{d}{r:Rk},r.ok bs τ d->r.ok bs τ (d+1)
 |d,.num i,h=>by unfold Rk.ok at h ⊢;exact h
 |d,.turn n,h=>by unfold Rk.ok at h ⊢;exact h
 |d,.ask s n,h=>by unfold Rk.ok at h ⊢;exact h
 |0,.bin _ _ _,h =>h.elim
 |0,.pick _ _ _,h =>h.elim
 |d+1,.bin w x y,h =>⟨h.1,h.2.1.up,h.2.2.up⟩
 |d+1,.pick x y z,h =>⟨h.1.up,h.2.1.up,h.2.2.up⟩
def Rk.ok.mono{r:Rk}(h:r.ok bs τ d)(l:d<=e):r.ok bs τ e:=by
 induction l with
 |refl=>exact h
 |step _ g=>exact g.up
structure Kt where
 b:Addr
 r:Addr
 bs:List Str
 rs:List Str
 l:Int
 p:Int
 e:Int
 la:Option Str
def mY:Option Str->PV
 |none=>.non
 |some s=>.str s
def oZ(b r:Addr)(l p e:Int)(la:PV):List (Key×PV):=[(.inr "boxes",.ref b),(.inr "rest",.ref r),(.inr "left",.int l),(.inr "parts",.int p),(.inr "eaches",.int e),(.inr "last",la)]
structure lu(C:CH)(t k:Addr)(κ:Kt):Prop where
 at_:C k=some (.dK (oZ κ.b κ.r κ.l κ.p κ.e (mY κ.la)))
 bx:C κ.b=some (.lst (κ.bs.map PV.str))
 rx:C κ.r=some (.lst (κ.rs.map PV.str))
 nk:k≠t
 nb:κ.b≠t
 nr:κ.r≠t
 lb:κ.bs.length<=4
 lr:κ.rs.length<=6
def lu.ex(h:lu C t k κ)(e:Ex t C C'):lu C' t k κ :=
 ⟨e _ _ h.nk h.at_,e _ _ h.nb h.bx,e _ _ h.nr h.rx,h.nk,h.nb,h.nr,h.lb,h.lr⟩
section
variable {b r:Addr}{l p e:Int}{la:PV}
def kY:cB (oZ b r l p e la) (.inr "boxes")=some (.ref b):=rfl
def qN:cB (oZ b r l p e la) (.inr "rest")=some (.ref r):=rfl
def yY:cB (oZ b r l p e la) (.inr "left")=some (.int l):=rfl
def jT:cB (oZ b r l p e la) (.inr "parts")=some (.int p):=rfl
def jN:cB (oZ b r l p e la) (.inr "eaches")=some (.int e):=rfl
def zN:cB (oZ b r l p e la) (.inr "last")=some la:=rfl
def bD: vH (oZ b r l p e la) (.inr "left") (.int g)=oZ b r g p e la:=rfl
def Jm: vH (oZ b r l p e la) (.inr "parts") (.int g)=oZ b r l g e la:=rfl
def sN: vH (oZ b r l p e la) (.inr "eaches") (.int g)=oZ b r l p g la:=rfl
end
def dW{ss:List Str}(h0:0<=i)(h1:i < (ss.length:Int)):ss.getD i.toNat "" ∈ ss :=by grind
section
variable {W:Wd}{a:Adr}
inductive V1(ts:List PV)(C:CH)(Q:K1):Prop
 |mk(t k:Addr)(τ:List Str)(ns:List Int)(κ:Kt)(z0:ts=[.ref t,.ref k,.tup (τ.map PV.str)])(z1:Tp C t ns)(z2:lu C t k κ)(z3:τ.length<=4)(z4:∀(r:Rk)(C':CH),r.ok κ.bs τ 0->Tp C' t ns->Ex t C C'->Q r.pv C')
def cE(T:Tx W a):Ok W a 3 37 U1 V1:=by
 have S:=(T.F 37 rfl).s;have Z:=(bK T).mono (show 1<=2 by decide);have aF:=nT T
 refine(T.F 37 rfl).ok (fun ts C R h=>?_) fun ah A aj s H E I=>⟨_,(xQ (jb 3 S.nd (cf (T.F 34 rfl) Z I (qQ (cv 0) (dN jQ))))
  (xQ (nQ (ct2 fX qX (cv 3) jQ) (kQ (uQ (pX (qQ wQ (dN (cx (mQ (qQ wQ (qQ wQ (dN wQ)))) (cf (T.F 34 rfl) Z I (qQ (cv 0) (dN jQ))))))))) dQ)
  (xQ (nQ (ct2 fX qX (cv 3) jQ) (kQ (uQ (pX (qQ wQ (dN (cx (mQ (qQ wQ (qQ wQ (dN wQ)))) (cf (T.F 34 rfl) Z I (qQ (cv 0) (dN jQ))))))))) dQ)
  (xQ (nQ (iz (jm (ct2 qM cY (cv 3) jQ) (jh (ct2 kK vJ (kh T.rZ (mJ (gZ I) (cv 1) wQ (fun _ _=>rfl))) jQ)))) (kQ (uQ (pX (qQ wQ (dN (cx (mJ (gZ I) (cv 1) wQ (fun _ _=>rfl)) (cf (T.F 34 rfl) Z I (qQ (cv 0) (dN (kh T.rZ (mJ (gZ I) (cv 1) wQ (fun _ _=>rfl)))))))))))) dQ)
  (xQ (nQ (iz (jm (ct2 fX qX (cv 3) jQ) (jh (ct2 kK vJ (kh T.rZ (cv 2)) jQ)))) (kQ (uQ (pX (qQ wQ (dN (cx (cv 2) (cf (T.F 34 rfl) Z I (qQ (cv 0) (dN (kh T.rZ (cv 2))))))))))) dQ)
  (kQ (uQ (pX (qQ wQ (dN (cf (T.F 36 rfl) aF I (dN (cv 0))))))))))))),?_⟩
 .obtain ⟨t,k,τ,ns,κ,rfl,_⟩:=h;rfl
 rintro ts C R ⟨t,k,τ,ns,κ,rfl,hT,hk,ai,aa⟩;refine⟨t,6,ns,rfl,hT,by decide,by decide,fun v C1 ak ao J Y=>?_⟩
 try dsimp only
 have O:=hk.ex Y
 have ag:∀C2,Tp C2 t ns->Ex t C C2->jA [.ref t] C2 fun x C3=>2<=sizeLine/\R (.tup [.str "num",x]) C3:=by
  intro C2 D B;refine⟨t,ns,rfl,D,fun i C3 g q T3 e3=>⟨by decide,?_⟩⟩;exact aa (.num i) C3 ⟨g,q⟩ T3 (B.trans e3)
 refine aJ (fQ (zX _ _) (lJ (fun M=>?_) fun M=>?_))
 .refine ⟨by decide,fun p U=>?_⟩
  refine⟨t,3,ns,rfl,J.new U _,by decide,by decide,fun i C2 g q D B=>?_⟩;refine vZ (B p _ (J.ne U) zQ) (oW (f:=PV.str) (ss:=["a","ab","b"]) "" g q) ⟨y0 2 rfl,?_⟩;exact aa (.ask "take" _) C2 (.inl ⟨.inl rfl,dW g q⟩) D ((Y.trans (Ex.new U _)).trans B)
 refine lQ (aJ (fQ (zX _ _) (lJ (fun M=>?_) fun M=>?_)))
 .refine ⟨by decide,fun p U=>?_⟩
  refine⟨t,3,ns,rfl,J.new U _,by decide,by decide,fun i C2 g q D B=>?_⟩;refine vZ (B p _ (J.ne U) zQ) (oW (f:=PV.str) (ss:=["a","ab","b"]) "" g q) ⟨y0 2 rfl,?_⟩;exact aa (.ask "down" _) C2 (.inl ⟨.inr rfl,dW (ss:=["a","ab","b"]) g q⟩) D ((Y.trans (Ex.new U _)).trans B)
 apply lQ
 try dsimp only
 refine lX (fun ab C'=>C'=C1/\ab=[some (.ref t),some (.ref k),some (.tup (τ.map PV.str)),some (.int v)]) (fun L hL=>?_) ?_
 .refine jo (lJ (fun M=>?_) fun M=>?_)
  .refine lK O.at_ rfl kY (eK O.bx (jo (lJ (fun N=>?_) fun N=>?_)))
   .refine lK O.at_ rfl kY (lK O.at_ rfl kY (eK O.bx ?_))
    have hl:=O.lb;rw[AB] at N ⊢;have ae:=Af N;refine⟨t,_,ns,rfl,J,ae,by lia,fun i C2 g q D B=>?_⟩;refine vZ ((O.ex B).bx) (oW (f:=PV.str) "" g q) ⟨y0 2 rfl,?_⟩;exact aa (.ask "box" _) C2 (.inr ⟨rfl,dW g q⟩) D (Y.trans B)
   .exact lQ (hL _ _ ⟨rfl,rfl⟩)
  .exact xG rfl (lQ (hL _ _ ⟨rfl,rfl⟩))
 rintro ab C' ⟨rfl,rfl⟩;refine lX (fun ab af=>af=C'/\ab=[some (.ref t),some (.ref k),some (.tup (τ.map PV.str)),some (.int v)]) (fun L hL=>?_) ?_
 .refine fQ (zX _ _) (lJ (fun M=>?_) fun M=>?_)
  .refine nZ (jo (lJ (fun N=>?_) fun N=>?_))
   .apply nZ
    rw[AB] at N ⊢;have ae:=Af N;refine⟨t,_,ns,rfl,J,ae,by lia,fun i C2 g q D B=>?_⟩;refine bQ (oW (f:=PV.str) "" g q) ⟨y0 2 rfl,?_⟩;exact aa (.turn _) C2 (dW g q) D (Y.trans B)
   .exact lQ (hL _ _ ⟨rfl,rfl⟩)
  .exact xG rfl (lQ (hL _ _ ⟨rfl,rfl⟩))
 rintro ab af ⟨rfl,rfl⟩;exact ag _ J Y
end
def QC(q:Q (.int (if b then 1 else 0)) C):Kf [.bl b] C Q:=by
 delta Kf
 exact q
def Gp(m:Nat):List PV:=(List.range m).map fun k=>PV.int (k:Nat)
def KU m:(Gp m).length=m :=by grind[Gp,List.length_map,List.length_range]
section
variable {W:Wd}{a:Adr}
inductive QG(d:Nat)(ts:List PV)(C:CH)(Q:K1):Prop
 |mk(t k:Addr)(τ:List Str)(ns:List Int)(κ:Kt)(z0:ts=[.ref t,.ref k,.tup (τ.map PV.str),.int (d:Nat)])(z1:Tp C t ns)(z2:lu C t k κ)(z3:τ.length<=4)(z4:∀(r:Rk)(C':CH),r.ok κ.bs τ d->Tp C' t ns->Ex t C C'->Q r.pv C')
def kC(T:Tx W a)(d:Nat):Ok W a (d+4) 38 U0 (QG d):=by
 have ak:∀n,(∀d',n=d'+1->Ok W a (d'+4) 38 U0 (QG d'))->Ok W a (n+4) 38 U0 (QG n):=by
  intro n ih;have S:=(T.F 38 rfl).s;have eQ:=(bK T).mono (show 1<=n+3 by lia);have lM:=(cE T).mono (show 3<=n+3 by lia)
  have gV:Ok W a (n+3) 38 U0 (fun ts C Q=>∃d',n=d'+1/\QG d' ts C Q):=by
   cases n with
   |zero=>exact⟨fun vs H Q E ⟨ts,C,R,_,_,⟨d',e,_⟩,_⟩=>by lia,fun _ _ _ _ _ _ _ _ _ _ _ _ _ ⟨ts,C,R,_,_,⟨d',e,_⟩,_⟩=>by lia⟩
   |succ d' =>
    have:=ih d' rfl
    have e:(fun ts C Q=>∃ab,d'+1=ab+1/\QG ab ts C Q)=QG d':=by
     funext ts C Q
     refine propext ⟨fun zz=>hV zz fun ab e h=> ?_,fun h=>⟨d',rfl,h⟩⟩;cases Bv e;exact h
    rw[e];exact this
  refine(T.F 38 rfl).ok (fun ts C R h=>?_) fun az A a3 s H E D=>⟨_,(xQ (jb 4 S.nd (cf (T.F 34 rfl) eQ D (qQ (cv 0) (dN jQ))))
  (xQ (nQ (iz (jl (ct2 fX qX (cv 3) jQ) (je (ct2 qM cY (cv 4) jQ)))) (kQ (uQ (cf (T.F 37 rfl) lM D (qQ (cv 0) (qQ (cv 1) (dN (cv 2))))))) dQ)
  (xQ (jb 5 S.nd (cx (mQ (qQ wQ (qQ wQ (qQ wQ (dN wQ))))) (aQ qV nJ (cv 4) jQ)))
  (xQ (jb 6 S.nd (cx (mQ (qQ jQ (dN jQ))) (dZ wY qF rfl T.wF rfl (dN (jJ fX qX (cv 5) wQ (oJ _))))))
  (kQ (uQ (aQ oQ tQ (pX (dN (cv 5))) (t6 T.hZ (aZ rfl (S.c (by decide +kernel)) (S.k rfl rfl rfl (by decide +kernel)) (xR rfl T.kG (dN (cv 6))) (fun _ _ _ _ _=>lZ) (fun _ _ _ _ _=>(cf (T.F 38 rfl) gV D (qQ (cv 1) (qQ (cv 2) (qQ (cv 3) (dN (aQ qV nJ (cv 4) jQ)))))))))))))))),?_⟩
  .obtain ⟨t,k,τ,ns,κ,rfl,_⟩:=h;rfl
  rintro ts C R ⟨t,k,τ,ns,κ,rfl,hT,hk,ai,ao⟩;refine⟨t,8,ns,rfl,hT,by decide,by decide,fun v C1 a4 a5 T1 e1=>?_⟩
  try dsimp only
  have aw:=hk.ex e1
  have aj:∀E':K1,E'=R->V1 [.ref t,.ref k,.tup (τ.map PV.str)] C1 E':=by
   rintro E' rfl;exact⟨t,k,τ,ns,κ,rfl,T1,aw,ai,fun r C2 D U Y=>ao r C2 (D.mono (AM _)) U (e1.trans Y)⟩
  refine lX (fun aq C'=>C'=C1/\0 < n/\4<=v/\aq=[some (.ref t),some (.ref k),some (.tup (τ.map PV.str)),some (.int (n:Nat)),some (.int v),none,none]) (fun L Z=>?_) ?_
  .refine fQ (zX _ _) (lJ (fun hb=>?_) fun hb=>?_)
   .exact XQ rfl (aj _ rfl)
   .refine jo (lJ (fun ag=>?_) fun ag=>?_)
    .exact aj _ rfl
    .apply lQ
     have:=of_decide_eq_false hb;have:=of_decide_eq_false ag;exact Z _ _ ⟨rfl,by lia,by lia,rfl⟩
  rintro aq C' ⟨rfl,hn,hv,rfl⟩;obtain⟨d',rfl⟩:∃d',n=d'+1:=⟨n - 1,by lia⟩
  have ae:∀(q:Str)(m:Nat)(C2:CH),(m=2/\(q = "add"\/q = "times"\/q = "less"))\/(m=3/\q = "pick")->Tp C2 t ns->Ex t C C2 ->
    ∀(c:jf)(ρ:jx)(Q:K1),(∀x g(L:K1),Tp g t ns->Ex t C g->(∀r O,Rk.ok κ.bs τ d' r->Tp O t ns->Ex t C O->L r.pv O)->c (some x::ρ) g L)->(∀(p:Addr)(B:List Rk)(g:CH),Tp g t ns->Ex t C g->g p=some (.lst (B.map Rk.pv))->(∃r:Rk,r.ok κ.bs τ (d'+1)/\r.pv=.tup (.str q::B.map Rk.pv)/\B.length<=3)->Q (.ref p) g) ->
    jK fM c ρ Q (Gp m) [] C2:=by
   intro q m C2 I U Y c ρ Q ay ae;refine vW (fun zs aa g=>Tp g t ns/\Ex t C g/\∃B:List Rk,aa=B.map Rk.pv/\B.length+zs.length=m/\∀r∈B,Rk.ok κ.bs τ d' r) ?_ ?_ _ _ _ ⟨U,Y,[],rfl,by rw[KU];exact BZ _,fun r D=>nomatch D⟩
   .rintro x r aa g ⟨M,J,B,rfl,hl,N⟩ L Z
    refine ay x g L M J fun r4 O af T4 e4=>Z _ _ ⟨?_,T4,e4,B++[r4],by rw[AN];rfl,by rw[AA,Aq];rw[AD] at hl;lia,fun r D=>?_⟩
    .rw [AB]
     exact AK (show B.length < 4 by lia) (by decide)
    .rcases AQ.1 D with D | D
     .exact N r D
     .cases AJ.1 D;exact af
   .rintro aa g ⟨M,J,B,rfl,hl,N⟩ p hp
    apply ae p B _ (M.new hp _) (J.trans (Ex.new hp _)) zQ
    rw[A9,A7] at hl
    rcases I with ⟨rfl,I⟩ | ⟨rfl,I⟩
    .match B,hl with
     |[x,y],_=>exact⟨.bin q x y,by unfold Rk.ok;exact⟨I,N x (by simp),N y (by simp)⟩,rfl,by show 2<=3;decide⟩
    .match B,hl with
     |[x,y,z],_=>exact⟨.pick x y z,by unfold Rk.ok;exact⟨N x (by simp),N y (by simp),N z (by simp)⟩,by rw[I];rfl,by show 3<=3;decide⟩
  refine mX ⟨by decide,fun p hp=>?_⟩
  apply jo
  have U:=T1.new hp (.lst [PV.str "add",PV.str "times",PV.str "less",PV.str "pick"]);have Y:=e1.trans (Ex.new hp (.lst [PV.str "add",PV.str "times",PV.str "less",PV.str "pick"]));have ar:v=4\/v=5\/v=6\/v=7:=by lia
  obtain⟨q,m,au,I⟩:∃(q:Str)(m:Nat),atI ([PV.str "add",PV.str "times",PV.str "less",PV.str "pick"]) (v - 4)=some (.str q)/\((m=2/\(q = "add"\/q = "times"\/q = "less"))\/(m=3/\q = "pick")):=by
   rcases ar with rfl | rfl | rfl | rfl
   .exact ⟨"add",2,rfl,.inl ⟨rfl,.inl rfl⟩⟩
   .exact ⟨"times",2,rfl,.inl ⟨rfl,.inr (.inl rfl)⟩⟩
   .exact ⟨"less",2,rfl,.inl ⟨rfl,.inr (.inr rfl)⟩⟩
   .exact ⟨"pick",3,rfl,.inr ⟨rfl,rfl⟩⟩
  refine vZ zQ au (mX ⟨by decide,fun p2 ah=>?_⟩);refine fQ (yQ _ _) (QC ?_)
  have av:atI [PV.int 2,PV.int 3] (if decide (q = "pick") then 1 else 0)=some (.int (m:Nat)):=by
   rcases I with ⟨rfl,I⟩ | ⟨rfl,rfl⟩
   .have:¬ q = "pick":=by rcases I with rfl | rfl | rfl<;>decide
    rw[Ad this];rfl
   .rfl
  refine vZ zQ av ⟨y0 1 rfl,?_⟩;have a0:m<=3:=by rcases I with ⟨rfl,_⟩ | ⟨rfl,_⟩<;>decide
  refine⟨by lia,by lia,?_⟩;refine ae q m _ I (U.new ah _) (Y.trans (Ex.new ah _)) _ _ _ (fun x g L M J Z=>?_) fun p3 B g M J m3 D=>?_
  .refine jo ⟨d',rfl,t,k,τ,ns,κ,?_,M,hk.ex J,ai,fun r O af T4 e4=>Z r O af T4 (J.trans e4)⟩
   have:((d'+1:Nat):Int) - 1=(d':Nat):=by lia
   rw[this]
  .obtain ⟨r,ax,ep,lr⟩:=D
   refine xU m3 (jd (by rw[AB];exact AR (show 1+B.length<=4 by lia) (by decide)) ?_);have:=ao r g ax M J;rw[ep] at this;exact this
 induction d with
 |zero=>exact ak 0 fun d' e=>by lia
 |succ d ih=>exact ak (d+1) fun d' e=>by cases Bv e;exact ih
end
def pK:Option Rk->PV
 |none=>.non
 |some r=>r.pv
def Qt(bs τ:List Str):Option Rk->Prop
 |none=>True
 |some r=>r.ok bs τ 0
def iJ(c:Str×Rk):PV:=.tup [.str c.1,c.2.pv]
def wI(bs τ:List Str)(d:Nat)(ps:List (Str×Rk)):Prop:=(∀c∈ps,c.2.ok bs τ d/\zZ c.1=true)/\(ps.map (·.1)).Nodup
def Eg{τ:List Str}(h:0 < τ.length):∃s∈τ,atI (τ.map PV.str) (-1)=some (.str s):=by
 delta atI ixN
 rw[Am (by decide),AB,Al (by lia)];have:((τ.length:Int) + -1).toNat < τ.length:=by lia
 refine⟨τ[((τ.length:Int) + -1).toNat],Bf _,?_⟩;show(τ.map PV.str)[((τ.length:Int) + -1).toNat]?=_;rw[Ah,AL this]
 rfl
def Dq(h:C a=some (.lst xs))(B:g[i]?=some (some (.ref a)))(q:nY (fun C=>C a=some (.lst xs)) t c g Q xs [] C):sY (uV i) t c g C Q :=by simp_all[sY,uV]
def iU{β:Type}D(I:β->Prop)(J:CH->Prop)(O:∀C,J C->C p=some (.lst (ss.map PV.str)))(hl:ss.length<=1000)(Z:∀z C L,J C->(∀b C',I b->J C'->L (D (z,b)) C')->c (some (.str z)::ρ) C L)(M:∀(bs:List (Str×β))C g,J C->C g=none->bs.map (·.1)=ss->(∀x∈bs,I x.2)->Q (.ref g) (gQ C g (.lst (bs.map D))))(N:J C):
  nY (fun C=>C p=some (.lst (ss.map PV.str))) fM c ρ Q (ss.map PV.str) [] C:=by
 refine J5 (fun zs q C=>J C/\∃(bs:List (Str×β))(us:List Str),zs=us.map PV.str/\q=bs.map D/\bs.map (·.1)++us=ss/\∀x∈bs,I x.2) (fun _ _ _ h=>O _ h.1) ?_ ?_ _ _ _ ⟨N,[],ss,rfl,rfl,rfl,fun x h=>nomatch h⟩
 .rintro x r q C1 ⟨B,bs,us,hz,rfl,e,o⟩ L S
  cases us with
  |nil=>cases hz
  |cons u us =>
   obtain⟨rfl,rfl⟩:=Ab hz;refine Z u C1 L B fun b C' ob Y=>S _ _ ⟨?_,Y,bs++[(u,b)],us,rfl,by rw[AN];rfl,by rw[AN,AG];exact e,fun x hx=>?_⟩
   .have:=A3 List.length e
    rw[AA,AB] at this;rw[AB];exact AK (show bs.length < 1001 by lia) (by decide)
   .grind
 .rintro q C1 ⟨B,bs,us,hz,rfl,e,o⟩ g U
  cases us with
  |nil=>rw[AH] at e;exact M bs C1 g B U e o
  |cons u us=>cases hz
section
variable {W:Wd}{a:Adr}
inductive PB(ts:List PV)(C:CH)(Q:K1):Prop
 |mk(t k:Addr)(τ:List Str)(ns:List Int)(κ:Kt)(z0:ts=[.ref t,.ref k,.tup (τ.map PV.str)])(z1:Tp C t ns)(z2:lu C t k κ)(z3:τ.length<=4)(z4:∀(o:Option Rk)(C':CH),Qt κ.bs τ o->Tp C' t ns->Ex t C C'->Q (pK o) C')
def Xz(T:Tx W a):Ok W a 4 39 U1 PB:=by
 have U:=(bK T).mono (show 1<=3 by decide);have lM:=cE T
 refine(T.F 39 rfl).ok (fun ts C R h=>?_) fun ab A af s H E B=>⟨_,(xQ (jb 3 ((T.F 39 rfl).s).nd (cf (T.F 34 rfl) U B (qQ (cv 0) (dN jQ))))
  (xQ (nQ (ct2 qM cY (cv 3) jQ) (kQ (uQ eJ)) dQ)
  (xQ (nQ (iz (jm (ct2 fX qX (cv 3) jQ) (jh (ct2 kK vJ (kh T.rZ (cv 2)) jQ)))) (kQ (uQ (pX (qQ wQ (dN (cx (cv 2) (aW iK rJ jQ))))))) dQ)
  (kQ (uQ (cf (T.F 37 rfl) lM B (qQ (cv 0) (qQ (cv 1) (dN (cv 2)))))))))),?_⟩
 .obtain ⟨t,k,τ,ns,κ,rfl,_⟩:=h;rfl
 rintro ts C R ⟨t,k,τ,ns,κ,rfl,Y,Z,aa,q⟩;refine⟨t,4,ns,rfl,Y,by decide,by decide,fun v C1 ag ah D g=>?_⟩;refine aJ (jo (lJ (fun I=>?_) fun I=>?_))
 .exact q none C1 trivial D g
 apply lQ
 try dsimp only
 refine lX (fun N C'=>C'=C1/\N=[some (.ref t),some (.ref k),some (.tup (τ.map PV.str)),some (.int v)]) (fun L M=>?_) ?_
 .refine fQ (zX _ _) (lJ (fun I=>?_) fun I=>?_)
  .refine nZ (jo (lJ (fun J=>?_) fun J=>?_))
   .rw [AB] at J
    have ae:=Af J;obtain⟨s,hs,es⟩:=(Eg (τ:=τ) (by lia));refine bQ es ⟨y0 2 rfl,?_⟩;exact q (some (.turn s)) C1 hs D g
   .exact lQ (M _ _ ⟨rfl,rfl⟩)
  .exact xG rfl (lQ (M _ _ ⟨rfl,rfl⟩))
 rintro N C' ⟨rfl,rfl⟩;exact⟨t,k,τ,ns,κ,rfl,D,(Z.ex g),aa,fun r C2 B O S=>q (some r) C2 B O (g.trans S)⟩
inductive V0(ts:List PV)(C:CH)(Q:K1):Prop
 |mk(t k:Addr)(τ:List Str)(ns:List Int)(κ:Kt)(z0:ts=[.ref t,.ref k,.tup (τ.map PV.str),.int 2])(z1:Tp C t ns)(z2:lu C t k κ)(z3:τ.length<=4)(z4:∀(ps:List (Str×Rk))(C':CH),wI κ.bs τ 2 ps->ps.length<=4->Tp C' t ns->Ex t C C'->Q (.tup (ps.map iJ)) C')
def Vt(T:Tx W a):Ok W a 7 40 U5 V0:=by
 have S:=(T.F 40 rfl).s;have eQ:=(bK T).mono (show 1<=6 by decide);have vK:=(xM T).mono (show 2<=6 by decide);have gV:=kC T 2
 refine(T.F 40 rfl).ok (fun ts C R h=>?_) fun ag A ah s H E g=>⟨_,(xQ (jb 4 S.nd (cf (T.F 35 rfl) vK g (qQ (cv 0) (dN (cf (T.F 34 rfl) eQ g (qQ (cv 0) (dN (aQ oQ tQ (cv 3) jQ))))))))
  (kQ (uQ (t6 T.hZ (hW rfl (S.c (by decide +kernel)) (S.k rfl rfl rfl (by decide +kernel)) (cv 4) (fun _ _ _ _ _=>lZ) (fun _ _ _ _ _=>(pX (qQ (cv 0) (dN (cf (T.F 38 rfl) gV g (qQ (cv 1) (qQ (cv 2) (qQ (cv 3) (dN jQ)))))))))))))),?_⟩
 .obtain ⟨t,k,τ,ns,κ,rfl,_⟩:=h;rfl
 rintro ts C R ⟨t,k,τ,ns,κ,rfl,hT,hk,aa,ae⟩;refine cV ⟨t,3,ns,rfl,hT,by decide,by decide,fun v C1 af ai Z e1=>?_⟩;refine⟨t,v,ns,rfl,Z,af,by lia,fun p ss C2 N n2 ab hl nd T2 e2=>?_⟩;refine Dq N rfl (iU iJ (fun r=>r.ok κ.bs τ 2) (fun C'=>Tp C' t ns/\Ex t C C'/\C' p=some (.lst (ss.map PV.str))) (fun _ h=>h.2.2) (by lia) (fun z U L ⟨B,q,O⟩ hL=>?_) (fun bs U p3 ⟨B,q,O⟩ M I ho=>?_) ⟨T2,e1.trans e2,N⟩)
 .refine ⟨t,k,τ,ns,κ,rfl,B,hk.ex q,aa,fun r Y g T4 D=>⟨y0 2 rfl,hL r Y g ⟨T4,q.trans D,D _ _ ab O⟩⟩⟩
 .exact xU zQ (ae bs _ ⟨fun c J=>⟨ho c J,nd.2 c.1 (I▸AS.2 ⟨c,J,rfl⟩)⟩,I▸nd.1⟩ (by grind) (B.new M _) (q.trans (Ex.new M _)))
end
structure Hd where
 ev:Str
 rank:Int
 last:Bool
 ch:List (Str×Str×Rk)
def pS(c:Str×Str×Rk):PV:=.tup [.str c.1,.str c.2.1,c.2.2.pv]
def Hd.pv(h:Hd):PV:=.tup [.str h.ev,.int h.rank,.bl h.last,.tup (h.ch.map pS)]
def Hd.ok(bs τ:List Str)(h:Hd):Prop:=h.ch.length<=4/\(∀c∈h.ch,c.2.2.ok bs τ 1/\c.1∈bs/\c.2.1∈(["set","add","times"]:List Str))/\zZ h.ev=true/\1<=h.rank/\h.rank<=3
theorem Ex.put(g:Ex t C C1)(q:C p=none)o:Ex t C (gQ C1 p o):=fun b u n e=>by
 rw[vQ (fun z=>by subst z;rw[q] at e;cases e)];exact g b u n e
theorem Tp.put(h:Tp C t ns)(g:p≠t)o:Tp (gQ C p o) t ns:=by
 obtain⟨⟨a,b,c,e,r⟩,l⟩:=h;exact⟨⟨a,b,c,by exact(vQ (Ne.symm g))▸e,r⟩,l⟩
theorem Ex.none(g:Ex t C C')(n:p≠t)(h:C' p=none):C p=none:=by
 cases e:C p with
 |none=>rfl
 |some o=>rw[g p o n e] at h;cases h
def Kw(I:Nat->jx->CH->Prop)(J:∀i q C,I i q C->C b=some (.lst xs))(N:∀i x q C,xs[i]?=some x->I i q C->∀L:jx->CH->Prop,(∀B C',I (i+1) B C'->L B C')->g x q C fun O C1=>u { nx:=L,ct:=L,bk:=E.nx,rt:=E.rt } O C1)(D:∀q C,I xs.length q C->E.nx q C):
  ∀n i q C,I i q C->i+n=xs.length+1->i<=xs.length->pM b g u E n i q C:=by
 intro n
 induction n with
 |zero=>lia
 |succ n M =>
  intro i q C h h1 h2;unfold pM;rw[J i q C h];dsimp only
  cases e:xs[i]? with
  |none =>
   have:=List.getElem?_eq_none_iff.1 e;have:i=xs.length:=by lia
   subst this;exact D q C h
  |some x =>
   have hi:=(AZ.1 e).1;exact N i x q C e h _ fun B C' h'=>M (i+1) B C' h' (by lia) (by lia)
def Gm(h:C b=some (.lst xs))(q:∀p,C p=none->Q (.ref p) (gQ C p (.lst (xF xs lo hi)))):Kc (.ref b) lo hi C Q:=by
 delta Kc
 dsimp only
 rwa [h]
def De v(h0:0<=v)(h1:v < 3):xF [PV.str "tap",PV.str "key"] none (some v)=((["tap","key"]:List Str).take v.toNat).map PV.str:=by
 have:v=0\/v=1\/v=2:=by lia
 rcases this with rfl | rfl | rfl<;>rfl
section
variable {W:Wd}{a:Adr}
inductive V3(ts:List PV)(C:CH)(Q:K1):Prop
 |mk(t k:Addr)(τ:List Str)(ns:List Int)(κ:Kt)(z0:ts=[.ref t,.ref k,.tup (τ.map PV.str)])(z1:Tp C t ns)(z2:lu C t k κ)(z3:τ.length<=4)(z4:∀(hs:List Hd)(C':CH),(∀h∈hs,h.ok κ.bs τ)->hs.length<=4->(hs.map (·.ev)).Nodup->Tp C' t ns->Ex t C C'->Q (.tup (hs.map Hd.pv)) C')
def Vx(T:Tx W a):Ok W a 6 41 U1 V3:=by
 have S:=(T.F 41 rfl).s;have U:=(bK T).mono (show 1<=5 by decide);have gV:=kC T 1
 refine(T.F 41 rfl).ok (fun ts C R h=>?_) fun b4 A b6 s H E g=>⟨_,(xQ (jb 3 S.nd (mQ aX))
  (xQ (ZX PassesOwn.never rfl (vR (mQ (qQ wQ (dN wQ))) cG (bW (cf (T.F 34 rfl) U g (qQ (cv 0) (dN jQ))))) (qi 4 S.nd) (xQ (jb 5 S.nd (mQ aX))
  (xQ (nQ (ct2 kK vJ (kh T.rZ (mJ (gZ g) (cv 1) wQ (fun _ _=>rfl))) jQ) (kQ (nA PassesOwn.never rfl rfl T.kG (dN (cf (T.F 34 rfl) U g (qQ (cv 0) (dN jQ)))) (qi 6 S.nd) (xQ (jb 7 S.nd (cx (mJ (gZ g) (cv 1) wQ (fun _ _=>rfl)) (cf (T.F 34 rfl) U g (qQ (cv 0) (dN (kh T.rZ (mJ (gZ g) (cv 1) wQ (fun _ _=>rfl))))))))
  (xQ (jb 8 S.nd (cx (mQ (qQ wQ (qQ wQ (dN wQ)))) (cf (T.F 34 rfl) U g (qQ (cv 0) (dN jQ)))))
  (kQ (wX (cap (cv 5) (pX (qQ (cv 7) (qQ (cv 8) (dN (cf (T.F 38 rfl) gV g (qQ (cv 0) (qQ (cv 1) (qQ (cv 2) (dN jQ)))))))))))))))) dQ)
  (kQ (wX (cap (cv 3) (pX (qQ (cv 4) (qQ (aQ oQ tQ jQ (cf (T.F 34 rfl) U g (qQ (cv 0) (dN jQ)))) (qQ (jJ fX qX (cf (T.F 34 rfl) U g (qQ (cv 0) (dN jQ))) jQ (oJ _)) (dN (t6 T.hZ (cv 5)))))))))))))
  (kQ (uQ (t6 T.hZ (cv 3)))))),?_⟩
 .obtain ⟨t,k,τ,ns,κ,rfl,_⟩:=h;rfl
 rintro ts C R ⟨t,k,τ,ns,κ,rfl,hT,hk,bw,b1⟩;refine mX ⟨by decide,fun h hh=>?_⟩;have ah:=hT.ne hh;refine lX (fun ai C'=>∃(hs:List Hd)(x4 x5 q B D:Option PV),ai=[some (.ref t),some (.ref k),some (.tup (τ.map PV.str)),some (.ref h),x4,x5,q,B,D]/\C' h=some (.lst (hs.map Hd.pv))/\hs.length<=2/\((∀h∈hs,h.ok κ.bs τ)/\(hs.map (·.ev)).Nodup)/\Tp C' t ns/\Ex t C C') (fun L hL=>?_) ?_
 .refine ⟨by decide,fun p1 ag=>?_⟩
  have T1:=(hT.new hh (.lst [])).new ag (.lst [PV.str "tap",PV.str "key"]);refine⟨t,3,ns,rfl,T1,by decide,by decide,fun v C2 b2 b3 T2 e2=>?_⟩;have b0:p1≠t:=(hT.new hh (.lst [])).ne ag;have m2:C2 p1=_:=e2 p1 _ b0 zQ;have bz:h≠p1:=fun z=>by subst z;rw[zQ] at ag;cases ag
  have ay:C2 h=some (.lst []):=e2 h _ ah (by rw[vQ bz];exact zQ);refine Gm m2 fun p2 aq=>?_;rw[De v b2 b3];have a3:p2≠t:=T2.ne aq;have bc:h≠p2:=fun z=>by subst z;rw[aq] at ay;cases ay
  have bf:Ex t C C2:=fun b o n e=>e2 b o n (Gr.new ag _ _ _ (Gr.new hh _ _ _ e));generalize ax:(["tap","key"]:List Str).take v.toNat=ss;have br:∀s∈ss,zZ s=true:=fun s hs=>(by decide +kernel:∀s∈(["tap","key"]:List Str),zZ s=true) s (List.mem_of_mem_take (ax▸hs));have bt:ss.Nodup:=ax▸List.Nodup.sublist (CM _ _) (by decide +kernel);have b5:ss.length<=2:=by rw[<- ax,CV];exact Nat.min_le_right _ _
  refine⟨ss.length+1,Kw (xs:=ss.map PV.str) (fun i M C'=>C' p2=some (.lst (ss.map PV.str))/\∃(hs:List Hd)(x4 x5 q B D:Option PV),M=[some (.ref t),some (.ref k),some (.tup (τ.map PV.str)),some (.ref h),x4,x5,q,B,D]/\C' h=some (.lst (hs.map Hd.pv))/\hs.length=i/\i<=ss.length/\((∀h∈hs,h.ok κ.bs τ)/\hs.map (·.ev)=ss.take i)/\Tp C' t ns/\Ex t C C') (fun _ _ _ h=>h.1) ?_ ?_ _ 0 _ _ ⟨zQ,[],_,_,_,_,_,rfl,?_,rfl,AM _,⟨(fun _ z=>nomatch z),rfl⟩,T2.new aq _,bf.trans (Ex.new aq _)⟩ (by rw[AB];lia) (AM _)⟩
  .rintro i x M C3 Y ⟨m3,hs,x4,x5,q,B,D,rfl,mh,hl,hi,I,T3,e3⟩ L1 bh
   have bu:∃z:Str,x=.str z/\zZ z=true/\ss[i]?=some z:=by
    rw[Ah] at Y
    cases z:ss[i]? with
    |none=>rw[z] at Y;cases Y
    |some u=>rw[z] at Y;cases Y;exact⟨u,rfl,br u (Ao z),rfl⟩
   have bq:i < ss.length:=by
    have:=(AZ.1 Y).1;rw[AB] at this;exact this
   obtain⟨au,rfl,bp,bo⟩:=bu;refine mX ⟨by decide,fun c J=>?_⟩;have aa:=T3.ne J;have ba:c≠h:=fun z=>by subst z;rw[mh] at J;cases J
   have bb:c≠p2:=fun z=>by subst z;rw[m3] at J;cases J
   have av:C c=none:=e3.none aa J;refine lX (fun ai C'=>∃(cs:List (Str×Str×Rk))(q B D:Option PV),ai=[some (.ref t),some (.ref k),some (.tup (τ.map PV.str)),some (.ref h),some (.str au),some (.ref c),q,B,D]/\C' c=some (.lst (cs.map pS))/\cs.length<=2/\(∀c∈cs,c.2.2.ok κ.bs τ 1/\c.1∈κ.bs/\c.2.1∈(["set","add","times"]:List Str))/\C' h=some (.lst (hs.map Hd.pv))/\C' p2=some (.lst (ss.map PV.str))/\Tp C' t ns/\Ex t C C') (fun L2 a6=>?_) ?_
   .have k3:=hk.ex (e3.put av (.lst []))
    refine lK k3.at_ rfl kY (eK k3.bx (jo ?_));have a4:=T3.new J (.lst []);have a5:Ex t C (gQ C3 c (.lst [])):=e3.put av _;have a7:gQ C3 c (.lst []) h=some (.lst (hs.map Hd.pv)):=by rw[vQ (Ne.symm ba)];exact mh
    have a9:gQ C3 c (.lst []) p2=some (.lst (ss.map PV.str)):=by rw[vQ (Ne.symm bb)];exact m3
    refine lJ (fun hb=>?_) fun hb=>?_
    .rw [AB] at hb
     have bl:=Af hb;refine⟨t,3,ns,rfl,a4,by decide,by decide,fun n C4 n0 n1 T4 N=>?_⟩;refine⟨by lia,by lia,?_⟩;refine sJ (fun zs M C'=>∃(cs:List (Str×Str×Rk))(q B D:Option PV),M=[some (.ref t),some (.ref k),some (.tup (τ.map PV.str)),some (.ref h),some (.str au),some (.ref c),q,B,D]/\C' c=some (.lst (cs.map pS))/\cs.length+zs.length<=2/\(∀c∈cs,c.2.2.ok κ.bs τ 1/\c.1∈κ.bs/\c.2.1∈(["set","add","times"]:List Str))/\C' h=some (.lst (hs.map Hd.pv))/\C' p2=some (.lst (ss.map PV.str))/\Tp C' t ns/\Ex t C C') ?_ ?_ _ _ _ ⟨[],_,_,_,rfl,N _ _ aa zQ,by rw[AB,A5];show 0+_<=2;lia,(fun _ z=>nomatch z),N _ _ ah a7,N _ _ a3 a9,T4,a5.trans N⟩
     .rintro z zs M C5 ⟨cs,y6,y7,y8,rfl,Z,ao,ae,az,a0,T5,O⟩ L3 bj
      have k5:=hk.ex O;refine mX (lK k5.at_ rfl kY (lK k5.at_ rfl kY (eK k5.bx ?_)));have lb:=hk.lb;rw[AB];refine⟨t,_,ns,rfl,T5,bl,by lia,fun i C6 i0 i1 T6 e6=>?_⟩;refine vZ ((k5.ex e6).bx) (oW (f:=PV.str) "" i0 i1) (mX ⟨by decide,fun p4 aw=>?_⟩);refine⟨t,3,ns,rfl,T6.new aw _,by decide,by decide,fun j C7 j0 j1 T7 e7=>?_⟩
      apply vZ (e7 p4 _ (T6.ne aw) zQ) (oW (f:=PV.str) (ss:=["set","add","times"]) "" j0 j1)
      have bg:Ex t C6 C7:=(Ex.new aw _).trans e7;have ar:Ex t C5 C7:=e6.trans bg;refine⟨qZ (ar _ _ aa Z),⟨t,k,τ,ns,κ,rfl,T7,k5.ex ar,bw,fun r C8 g T8 e8=>⟨y0 3 rfl,?_⟩⟩⟩;have ak:Ex t C5 C8:=ar.trans e8
      apply nK (ak _ _ aa Z) (by rw[AB];exact AK (show cs.length < 3 by rw[AD] at ao;lia) (by decide))
      refine bj _ _ ⟨cs++[(_,_,r)],_,_,_,rfl,by rw[zQ,AN];rfl,by rw[AA,Aq];rw[AD] at ao;lia,fun c' ab=>?_,?_,?_,T8.put aa _,(O.trans ak).put av _⟩
      .rcases AQ.1 ab with ab | ab
       .exact ae c' ab
       .cases AJ.1 ab;exact⟨g,dW i0 i1,dW j0 j1⟩
      .rw [vQ (Ne.symm ba)];exact ak _ _ ah az
      .rw [vQ (Ne.symm bb)];exact ak _ _ a3 a0
     .rintro M C5 ⟨cs,y6,y7,y8,rfl,Z,ao,ae,az,a0,T5,O⟩
      exact a6 _ _ ⟨cs,_,_,_,rfl,Z,by lia,ae,az,a0,T5,O⟩
    .exact lQ (a6 _ _ ⟨[],_,_,_,rfl,zQ,AM _,(fun _ z=>nomatch z),a7,a9,a4,a5⟩)
   rintro ai C4 ⟨cs,y6,y7,y8,rfl,Z,ao,ae,a8,bx,T4,N⟩;refine⟨qZ a8,⟨t,3,ns,rfl,T4,by decide,by decide,fun rk C5 r0 r1 T5 O=>?_⟩⟩;refine cV ⟨t,2,ns,rfl,T5,by decide,by decide,fun z C6 z0 z1 T6 e6=>?_⟩
   apply fQ (zX _ _)
   have aj:=O.trans e6;refine xU (aj _ _ aa Z) ⟨y0 4 rfl,?_⟩
   apply nK (aj _ _ ah a8) (by rw[AB];exact AK (show hs.length < 3 by lia) (by decide))
   refine bh _ _ ⟨by rw[vQ (Ne.symm bc)];exact aj _ _ a3 bx,hs++[⟨au,1+rk,decide (z=0),cs⟩],_,_,_,_,_,rfl,by rw[zQ,AN];rfl,by rw[AA,Aq,hl],bq,⟨fun h' af=>?_,by rw[AN,I.2,List.take_add_one,bo];rfl⟩,T6.put ah _,(N.trans aj).put hh _⟩
   rcases AQ.1 af with af | af
   .exact I.1 h' af
   .cases AJ.1 af;exact⟨by lia,ae,bp,by lia,by lia⟩
  .rintro M C3 ⟨m3,hs,x4,x5,q,B,D,rfl,mh,hl,hi,I,T3,e3⟩
   exact hL _ _ ⟨hs,_,_,_,_,_,rfl,mh,by lia,⟨I.1,I.2▸bt.sublist (CM _ _)⟩,T3,e3⟩
  .rw [vQ bc];exact ay
 rintro ai C' ⟨hs,x4,x5,q,B,D,rfl,mh,hl,I,T',e'⟩;exact xU mh (b1 hs C' I.1 (by lia) I.2 T' e')
end
inductive Ln where
 |plain (k:Option Rk) (tag:Str) (sets:List (Str×Rk)) (hands:List Hd) (ls:List Ln)
 |part (k:Option Rk) (name:Str) (gives:List (Str×Rk))
 |give (k:Option Rk) (name:Str) (r:Rk) (ls:List Ln)
 |when (r:Rk) (l1 l2:List Ln)
 |each (name:Str) (r:Rk) (ls:List Ln)
mutual
def Ln.pv:Ln->PV
 |.plain k I s h q=>.tup [.str "plain",pK k,.str I,.tup (s.map iJ),.tup (h.map Hd.pv),.tup (Ln.kj q)]
 |.part k n g=>.tup [.str "part",pK k,.str n,.tup (g.map iJ)]
 |.give k n r q=>.tup [.str "give",pK k,.str n,r.pv,.tup (Ln.kj q)]
 |.when r B D=>.tup [.str "when",r.pv,.tup (Ln.kj B),.tup (Ln.kj D)]
 |.each n r q=>.tup [.str "each",.str n,r.pv,.tup (Ln.kj q)]
def Ln.kj:List Ln->List PV
 |[]=>[]
 |l::q=>l.pv::Ln.kj q
end
theorem Ln.iT g:Ln.kj g=g.map Ln.pv:=by
 induction g with
 |nil=>rfl
 |cons l g q=>rw[Ak,<- q];rfl
mutual
def Ln.tw:Ln->Nat
 |.plain _ _ _ _ g=>1+Ln.jk g
 |.part _ _ _=>1
 |.give _ _ _ g=>1+Ln.jk g
 |.when _ q B=>1+(Ln.jk q+Ln.jk B)
 |.each _ _ g=>1+Ln.jk g
def Ln.jk:List Ln->Nat
 |[]=>0
 |l::g=>l.tw+Ln.jk g
end
mutual
def Ln.pw:Ln->Nat
 |.plain _ _ _ _ g=>Ln.o8 g
 |.part _ _ _=>1
 |.give _ _ _ g=>Ln.o8 g
 |.when _ q B=>Ln.o8 q+Ln.o8 B
 |.each _ _ g=>8 * Ln.o8 g
def Ln.o8:List Ln->Nat
 |[]=>0
 |l::g=>l.pw+Ln.o8 g
end
def Ln.j5 xs ys:Ln.jk (xs++ys)=Ln.jk xs+Ln.jk ys:=by
 induction xs with
 |nil=>show _=0+_;rw[BZ];rfl
 |cons x xs g=>show x.tw+Ln.jk (xs++ys)=x.tw+Ln.jk xs+Ln.jk ys;lia
def Ln.t7 xs ys:Ln.o8 (xs++ys)=Ln.o8 xs+Ln.o8 ys:=by
 induction xs with
 |nil=>show _=0+_;rw[BZ];rfl
 |cons x xs g=>show x.pw+Ln.o8 (xs++ys)=x.pw+Ln.o8 xs+Ln.o8 ys;lia
def jt(bs B:List Str):Nat->List Str->Ln->Prop
 |0,_,_=>False
 |d+1,τ,.plain k J s h q=>Qt bs τ k/\(wI bs τ 2 s/\s.length<=4)/\((∀x∈h,x.ok bs τ)/\h.length<=4/\(h.map (·.ev)).Nodup)/\(∀x∈q,jt bs B d τ x)/\q.length<=6/\zZ J=true
 |_+1,τ,.part k n g=>Qt bs τ k/\n∈B/\wI bs τ 1 g/\g.length<=4
 |d+1,τ,.give k n r q=>Qt bs τ k/\n∈(["a","ab","b"]:List Str)/\r.ok bs τ 1/\(∀x∈q,jt bs B d τ x)/\q.length<=6
 |d+1,τ,.when r D I=>r.ok bs τ 1/\((∀x∈D,jt bs B d τ x)/\D.length<=6)/\(∀x∈I,jt bs B d τ x)/\I.length<=6
 |d+1,τ,.each n r q=>(r.ok bs τ 1/\τ=[]/\zZ n=true)/\(∀x∈q,jt bs B d (n::τ) x)/\q.length<=6
def jt.up: ∀{d}{τ}{l},jt bs M d τ l->jt bs M (d+1) τ l:=by
 intro d
 induction d with
 |zero=>intro τ l h;exact h.elim
 |succ d J =>
  intro τ l h
  cases l with
  |plain k t s N L=>exact HH h fun h1 h2 B D I=>⟨h1,h2,B,fun x q=>J (D x q),I⟩
  |part k n g=>exact h
  |give k n r L=>exact HH h fun h1 h2 B D I=>⟨h1,h2,B,fun x q=>J (D x q),I⟩
  |when r O S=>obtain⟨h1,⟨h2,B⟩,D,I⟩:=h;exact⟨h1,⟨fun x q=>J (h2 x q),B⟩,fun x q=>J (D x q),I⟩
  |each n r L=>exact Qg h fun h1 h2 B=>⟨h1,fun x q=>J (h2 x q),B⟩
def jt.mono(h:jt bs B d τ l)(q:d<=e):jt bs B e τ l:=by
 induction q with
 |refl=>exact h
 |step _ g=>exact g.up
structure o6(κ κ':Kt):Prop where
 b:κ'.b=κ.b
 r:κ'.r=κ.r
 bs:κ'.bs=κ.bs
 rs:κ'.rs=κ.rs
 la:κ'.la=κ.la
 l0:0<=κ'.l
 l1:κ'.l<=κ.l
 p0:0<=κ'.p
 p1:κ'.p<=κ.p
 e0:0<=κ'.e
 e1:κ'.e<=κ.e
structure Em(κ:Kt)(e:Nat)(τ:List Str):Prop where
 l0:0<=κ.l
 l1:κ.l<=6
 p0:0<=κ.p
 p1:κ.p<=2
 e0:0<=κ.e
 e1:κ.e<=(e:Nat)
 t:0 < e->τ=[]
 ly:0 < κ.e->∀s,κ.la=some s->s∈κ.rs
 tl:τ.length<=4
def o6.refl(h:Em κ e τ):o6 κ κ:=⟨rfl,rfl,rfl,rfl,rfl,h.l0,BG _,h.p0,BG _,h.e0,BG _⟩
theorem o6.trans(h:o6 κ q)(g:o6 q B):o6 κ B:=⟨g.b.trans h.b,g.r.trans h.r,g.bs.trans h.bs,g.rs.trans h.rs,g.la.trans h.la,g.l0,CP g.l1 h.l1,g.p0,CP g.p1 h.p1,g.e0,CP g.e1 h.e1⟩
def Em.chg(h:Em κ e τ)(g:o6 κ q):Em q e τ:=⟨g.l0,CP g.l1 h.l1,g.p0,CP g.p1 h.p1,g.e0,CP g.e1 h.e1,h.t,fun z s hs=>g.rs▸h.ly (Int.lt_of_lt_of_le z g.e1) s (by rwa [<- g.la]),h.tl⟩
def rn(κ:Kt):Int:=if κ.la.isSome then 16 else 0
def v4(g:o6 κ q):rn q=rn κ :=by simp_all[rn,g.la]
def M3(e:Nat):Int:=1
def dY(e d:Nat):Nat:=if e=0 then d+1 else d+3
structure pq(e:Nat)(τ:List Str)(κ κ':Kt)(extra:Int)(tw pw:Nat):Prop where
 t:(tw:Int)<=M3 e * (extra+(κ.l - κ'.l))
 p:(pw:Int)<=(κ.p - κ'.p)+rn κ * (κ.e - κ'.e)
 n:τ≠[]->pw=0/\κ'.p=κ.p
theorem j4.mq(h:Ex t C C'):j4 [t,k] C C':=fun b o n e=>h b o (fun z=>n (z▸AI)) e
section
variable {W:Wd}{a:Adr}
inductive vO(ts:List PV)(C:CH)(Q:K1):Prop
 |mk(t k:Addr)(τ:List Str)(ns:List Int)(κ:Kt)(name:Str)(z0:ts=[.ref t,.ref k,.tup (τ.map PV.str),.str name])(z1:Tp C t ns)(z2:lu C t k κ)(z3:τ.length<=4)(z4:∀(o:Option Rk)(g:List (Str×Rk))(C':CH),Qt κ.bs τ o->wI κ.bs τ 1 g->g.length<=4->Tp C' t ns->Ex t C C'->Q (Ln.part o name g).pv C')
def J1 v(h0:0<=v)(h1:v < 4):xF [PV.str "a",PV.str "ab",PV.str "b"] none (some v)=((["a","ab","b"]:List Str).take v.toNat).map PV.str:=by
 have:v=0\/v=1\/v=2\/v=3:=by lia
 rcases this with rfl | rfl | rfl | rfl<;>rfl
def Lj(h:C b=some (.lst xs))(q:Q .non (gQ C b (.lst xs.reverse))):zL (.ref b) [] C Q:=by
 delta zL
 dsimp only
 rwa [h]
def cD(T:Tx W a):Ok W a 6 43 U6 vO:=by
 have S:=(T.F 43 rfl).s;have eQ:=(bK T).mono (show 1<=5 by decide);have vL:=(Xz T).mono (show 4<=5 by decide);have gV:=kC T 1
 refine(T.F 43 rfl).ok (fun ts C R h=>?_) fun aw A az s H E g=>⟨_,(xQ (jb 4 S.nd (cf (T.F 39 rfl) vL g (qQ (cv 0) (qQ (cv 1) (dN (cv 2))))))
  (xQ (jb 5 S.nd (vR (mQ (qQ wQ (qQ wQ (dN wQ)))) cG (bW (cf (T.F 34 rfl) eQ g (qQ (cv 0) (dN jQ))))))
  (xQ (nQ (ct2 fX qX (cf (T.F 34 rfl) eQ g (qQ (cv 0) (dN jQ))) jQ) (kQ (wX (mM AY PySem.F.slot_list_reverse PySem.F.type_list_reverse XD Q2 (cv 5)))) dQ)
  (kQ (uQ (pX (qQ wQ (qQ (cv 4) (qQ (cv 3) (dN (t6 T.hZ (hW rfl (S.c (by decide +kernel)) (S.k rfl rfl rfl (by decide +kernel)) (cv 5) (fun _ _ _ _ _=>lZ) (fun _ _ _ _ _=>(pX (qQ (cv 0) (dN (cf (T.F 38 rfl) gV g (qQ (cv 1) (qQ (cv 2) (qQ (cv 3) (dN jQ))))))))))))))))))))),?_⟩
 .obtain ⟨t,k,τ,ns,κ,name,rfl,_⟩:=h;rfl
 rintro ts C R ⟨t,k,τ,ns,κ,name,rfl,hT,hk,ai,ar⟩;refine mX ⟨t,k,τ,ns,κ,rfl,hT,hk,ai,fun o C1 ho T1 e1=>mX ⟨by decide,fun p1 U=>?_⟩⟩;refine⟨t,4,ns,rfl,T1.new U _,by decide,by decide,fun v C2 au av T2 e2=>?_⟩;have aa:Ex t C C2:=fun b o n e=>e2 b o n (Gr.new U _ _ _ (e1 b o n e));refine Gm (e2 p1 _ (T1.ne U) zQ) fun p2 Y=>?_;rw[J1 v au av];have N:=T2.ne Y;have ae:=aa.none N Y
 generalize Z:(["a","ab","b"]:List Str).take v.toNat=ss;have ag:∀s∈ss,zZ s=true:=fun s hs=>(by decide +kernel:∀s∈(["a","ab","b"]:List Str),zZ s=true) s (List.mem_of_mem_take (Z▸hs));have ah:ss.Nodup:=Z▸List.Nodup.sublist (CM _ _) (by decide +kernel);have ax:ss.length<=3 :=Z▸CV▸Nat.min_le_right _ _;refine lX (fun aj C'=>∃us:List Str,(us.length=ss.length/\us.Nodup/\∀s∈us,zZ s=true)/\aj=[some (.ref t),some (.ref k),some (.tup (τ.map PV.str)),some (.str name),some (pK o),some (.ref p2)]/\C' p2=some (.lst (us.map PV.str))/\Tp C' t ns/\Ex t C C') (fun L M=>?_) ?_
 .refine ⟨t,2,ns,rfl,T2.new Y _,by decide,by decide,fun z C3 z0 z1 D I=>?_⟩
  have q:=I p2 _ N zQ;have ab:=(aa.put ae _).trans I;refine fQ (zX _ _) (lJ (fun B=>?_) fun B=>?_)
  .exact ⟨qZ q,Lj q (M _ _ ⟨ss.reverse,⟨A1,((List.reverse_perm _).nodup_iff).2 ah,fun s hs=>ag s (List.mem_reverse.1 hs)⟩,rfl,by rw[zQ,List.map_reverse],D.put N _,ab.put ae _⟩)⟩
  .exact lQ (M _ _ ⟨ss,⟨rfl,ah,ag⟩,rfl,q,D,ab⟩)
 rintro aj C3 ⟨us,⟨ay,aq,ao⟩,rfl,q,D,I⟩;refine Dq q rfl (iU iJ (fun r=>r.ok κ.bs τ 1) (fun C'=>Tp C' t ns/\Ex t C C'/\C' p2=some (.lst (us.map PV.str))) (fun _ h=>h.2.2) (by lia) (fun z C4 L ⟨O,J,m4⟩ M=>?_) (fun bs C4 p3 ⟨O,J,m4⟩ af B ak=>?_) ⟨D,I,q⟩)
 .refine ⟨t,k,τ,ns,κ,rfl,O,hk.ex J,ai,fun r C5 g T5 e5=>⟨y0 2 rfl,M r C5 g ⟨T5,J.trans e5,e5 _ _ N m4⟩⟩⟩
 .refine xU zQ ⟨y0 4 rfl,?_⟩
  exact ar o bs _ ho ⟨fun c hc=>⟨ak c hc,ao c.1 (B▸AS.2 ⟨c,hc,rfl⟩)⟩,B▸aq⟩ (by have:=A3 List.length B;rw[AB] at this;lia) (O.new af _) (J.trans (Ex.new af _))
end
def nE e:M3 e=1\/M3 e=8 :=by grind[M3]
def pq.one(h:pq e τ κ B 0 q g):pq e τ κ B 1 (1+q) g:=by
 refine⟨?_,h.p,h.n⟩;have:=h.t
 rcases nE e with z | z<;>rw[z] at this ⊢ <;> lia
def pq.add(h:pq e τ κ q x I p1)(g:pq e τ q L y J p2)(c:o6 κ q):pq e τ κ L (x+y) (I+J) (p1+p2):=by
 refine⟨?_,?_,fun z=>?_⟩
 .have h1:=h.t
  have h2:=g.t
  rcases nE e with z | z<;>rw[z] at h1 h2 ⊢ <;> lia
 .have h1:=h.p
  have h2:=g.p;rw[v4 c] at h2
  lia
 .obtain ⟨M,B⟩:=h.n z
  obtain⟨N,D⟩:=g.n z;exact⟨by lia,D.trans B⟩
theorem pq.nil: pq e τ κ κ 0 0 0:=by
 refine⟨?_,?_,fun _=>⟨rfl,rfl⟩⟩
 .lia
 .lia
theorem lu.put(h:lu C t k κ)l p e la:lu (gQ C k (.dK (oZ κ.b κ.r l p e (mY la)))) t k { κ with l:=l,p:=p,e:=e,la:=la }:=by
 have g:κ.b≠k:=fun z=>by have:=h.bx;rw[z,h.at_] at this;cases this
 have q:κ.r≠k:=fun z=>by have:=h.rx;rw[z,h.at_] at this;cases this
 exact⟨zQ,by rw[vQ g];exact h.bx,by exact(vQ q)▸h.rx,h.nk,h.nb,h.nr,h.lb,h.lr⟩
inductive uM(e d:Nat)(ts:List PV)(C:CH)(Q:K1):Prop
 |mk(t k:Addr)(τ:List Str)(ns:List Int)(κ:Kt)(z0:ts=[.ref t,.ref k,.tup (τ.map PV.str),.int (d:Nat)])(z1:Tp C t ns)(z2:lu C t k κ)(z3:Em κ e τ)(z4:∀(ls:List Ln)(κ':Kt)(C':CH),(∀x∈ls,jt κ.bs κ.rs (dY e d) τ x)->ls.length<=6->pq e τ κ κ' 0 (Ln.jk ls) (Ln.o8 ls)->o6 κ κ'->Tp C' t ns->lu C' t k κ'->j4 [t,k] C C'->Q (.tup (Ln.kj ls)) C')
inductive sD(e d:Nat)(ts:List PV)(C:CH)(Q:K1):Prop
 |mk(t k:Addr)(τ:List Str)(ns:List Int)(κ:Kt)(z0:ts=[.ref t,.ref k,.tup (τ.map PV.str),.int (d:Nat)])(z1:Tp C t ns)(z2:lu C t k κ)(z3:Em κ e τ)(z4:∀(l:Ln)(κ':Kt)(C':CH),jt κ.bs κ.rs (dY e d) τ l->pq e τ κ κ' 1 l.tw l.pw->o6 κ κ'->Tp C' t ns->lu C' t k κ'->j4 [t,k] C C'->Q l.pv C')
inductive rC(e d:Nat)(ts:List PV)(C:CH)(Q:K1):Prop
 |mk d'(z0:d=d'+1)(z1:uM e d' ts C Q)
def eC e d:dY e (d+1)=dY e d+1:=by delta dY;split<;>rfl
def bO e d:∃n,dY e d=n+1:=by delta dY;split;exact⟨_,rfl⟩;exact⟨d+2,rfl⟩
section
variable {W:Wd}{a:Adr}
def vC(T:Tx W a)e d r(h7:7<=r)(wW:Ok W a r 46 U0 (rC e d)):
  Ok W a (r+1) 42 U0 (sD e d):=by
 have S:=(T.F 42 rfl).s;have eQ:=(bK T).mono (show 1<=r by lia);have vK:=(xM T).mono (show 2<=r by lia);have vL:=(Xz T).mono (show 4<=r by lia);have Ko:=(Vt T).mono (show 7<=r by lia);have Kq:=(Vx T).mono (show 6<=r by lia)
 refine(T.F 42 rfl).ok (fun ts C R h=>?_) fun au A aw s H E B=>⟨_,(xQ (jb 4 S.nd (cf (T.F 39 rfl) vL B (qQ (cv 0) (qQ (cv 1) (dN (cv 2))))))
  (xQ (jb 5 S.nd (cx (cf (T.F 35 rfl) vK B (qQ (cv 0) (dN jQ))) jQ))
  (xQ (jb 6 S.nd (cf (T.F 40 rfl) Ko B (qQ (cv 0) (qQ (cv 1) (qQ (cv 2) (dN jQ))))))
  (xQ (jb 7 S.nd (cf (T.F 41 rfl) Kq B (qQ (cv 0) (qQ (cv 1) (dN (cv 2))))))
  (xQ (jb 8 S.nd (pX aX))
  (xQ (nQ (iz (jm (ct2 kK vJ (cv 3) jQ) (jh (ct2 fX qX (cf (T.F 34 rfl) eQ B (qQ (cv 0) (dN jQ))) jQ)))) (kQ (jb 8 S.nd (cf (T.F 46 rfl) wW B (qQ (cv 0) (qQ (cv 1) (qQ (cv 2) (dN (aQ qV nJ (cv 3) jQ)))))))) dQ)
  (kQ (uQ (pX (qQ wQ (qQ (cv 4) (qQ (cv 5) (qQ (cv 6) (qQ (cv 7) (dN (cv 8)))))))))))))))),?_⟩
 .obtain ⟨t,k,τ,ns,κ,rfl,_⟩:=h;rfl
 rintro ts C R ⟨t,k,τ,ns,κ,rfl,hT,O,D,ar⟩;refine mX ⟨t,k,τ,ns,κ,rfl,hT,O,D.tl,fun o C1 ho T1 U=>mX ⟨t,1,ns,rfl,T1,by decide,by decide,fun p ss C2 m2 _ ax hl nd T2 Y=>?_⟩⟩
 obtain⟨I,rfl⟩:∃I,ss=[I]:=by
  match ss,hl with
  |[x],_=>exact⟨x,rfl⟩
 refine vZ m2 Jc (mX ⟨t,k,τ,ns,κ,rfl,T2,(O.ex U).ex Y,D.tl,fun ps C3 ao ak T3 e3=>mX ⟨t,k,τ,ns,κ,rfl,T3,((O.ex U).ex Y).ex e3,D.tl,fun hs C4 ah af ag T4 e4=>mX ⟨by decide,?_⟩⟩⟩);have M:=((U.trans Y).trans e3).trans e4;have k4:=O.ex M
 have ab:∀g q C',(∀x∈g,∃d',d=d'+1/\jt κ.bs κ.rs (dY e d') τ x)->g.length<=6->pq e τ κ q 0 (Ln.jk g) (Ln.o8 g)->o6 κ q->Tp C' t ns->lu C' t k q->j4 [t,k] C C' ->
   R (.tup [.str "plain",pK o,.str I,.tup (ps.map iJ),.tup (hs.map Hd.pv),.tup (Ln.kj g)]) C':=by
  intro g q C' aj ai aq hc T' k' x';refine ar (.plain o I ps hs g) q C' ?_ aq.one hc T' k' x';obtain⟨n,en⟩:=bO e d;rw[en];refine⟨ho,⟨ao,ak⟩,⟨ah,af,ag⟩,fun x hx=>?_,ai,nd.2 I AI⟩;obtain⟨d',rfl,av⟩:=aj x hx;rw[eC] at en;have:n=dY e d':=by lia
  rwa [this]
 refine lX (fun aa C'=>∃g q,aa=[some (.ref t),some (.ref k),some (.tup (τ.map PV.str)),some (.int (d:Nat)),some (pK o),some (.str I),some (.tup (ps.map iJ)),some (.tup (hs.map Hd.pv)),some (.tup (Ln.kj g))]/\(∀x∈g,∃d',d=d'+1/\jt κ.bs κ.rs (dY e d') τ x)/\g.length<=6/\pq e τ κ q 0 (Ln.jk g) (Ln.o8 g)/\o6 κ q/\Tp C' t ns/\lu C' t k q/\j4 [t,k] C C') (fun L hL=>?_) ?_
 .refine jo (lJ (fun hb=>?_) fun hb=>?_)
  .have hb:=Af hb
   refine⟨t,2,ns,rfl,T4,by decide,by decide,fun z C5 z0 z1 J N=>?_⟩;refine fQ (zX _ _) (lJ (fun ae=>?_) fun ae=>?_)
   .apply jo
    obtain⟨d',rfl⟩:∃d',d=d'+1:=⟨d - 1,by lia⟩;refine⟨d',rfl,t,k,τ,ns,κ,?_,J,k4.ex N,D,fun g q C6 h1 h2 Z h4 T6 k6 x6=>?_⟩
    .have:((d'+1:Nat):Int) - 1=(d':Nat):=by lia
     rw[this]
    .exact hL _ _ ⟨g,q,rfl,fun x hx=>⟨d',rfl,h1 x hx⟩,h2,Z,h4,T6,k6,(j4.mq (M.trans N)).trans x6⟩
   .exact lQ (hL _ _ ⟨[],κ,rfl,(fun _ z=>nomatch z),AM _,pq.nil,o6.refl D,J,k4.ex N,j4.mq (M.trans N)⟩)
  .exact xG rfl (lQ (hL _ _ ⟨[],κ,rfl,(fun _ z=>nomatch z),AM _,pq.nil,o6.refl D,T4,k4,j4.mq M⟩))
 rintro aa C5 ⟨g,q,rfl,h1,h2,Z,h4,J,k5,x5⟩;refine⟨y0 6 rfl,?_⟩;exact ab g q C5 h1 h2 Z h4 J k5 x5
end
inductive QM(e:Nat)(ts:List PV)(C:CH)(Q:K1):Prop
 |mk(t k:Addr)(d:Nat)(ns:List Int)(κ:Kt)(z0:ts=[.ref t,.ref k,.int (d:Nat)])(z1:Tp C t ns)(z2:lu C t k κ)(z3:Em κ e [])(z4:0 < κ.e)(z5:∀(l:Ln)(κ':Kt)(C':CH),jt κ.bs κ.rs 3 [] l->pq e [] κ κ' 1 l.tw l.pw->o6 κ κ'->Tp C' t ns->lu C' t k κ'->j4 [t,k] C C'->Q l.pv C')
def NK(h1:uL x=some ks)(h2:uL y=some js)(q:Q (.bl (f (decide (ks=js)))) C):Ec f x y C Q :=by simp_all[Ec]
theorem gP:∀ss:List Str,sF (ss.map PV.str)=some (ss.map Sum.inr)
 |[]=>rfl
 |s::ss=>by
  show(match wV (.str s),sF (ss.map PV.str) with | some k,some ks=>some (k::ks) | _,_=>none)=_;rw[gP ss]
  rfl
section
variable {W:Wd}{a:Adr}
def dE(T:Tx W a)(e d r:Nat)(h7:7<=r)(wW:Ok W a r 46 U0 (rC e d))(Kn:Ok W a r 42 U0 (sD e d))(W1:Ok W a r 44 U2 (QM e)):
  Ok W a (r+1) 45 U0 (sD e d):=by
 have S:=(T.F 45 rfl).s;have eQ:=(bK T).mono (show 1<=r by lia);have vL:=(Xz T).mono (show 4<=r by lia);have gV:=(kC T 1).mono (show 5<=r by lia);have qU:=(cD T).mono (show 6<=r by lia)
 refine(T.F 45 rfl).ok (fun ts C R h=>?_) fun ay A az s H E q=>⟨_,(xQ (jb 4 S.nd (cf (T.F 34 rfl) eQ q (qQ (cv 0) (dN jQ))))
  (xQ (nQ (iz (jm (ct2 qM cY (cv 4) jQ) (jm (ct2 kK vJ (mJ (gZ q) (cv 1) wQ (fun _ _=>rfl)) jQ) (jm (ct2 kK vJ (kh T.rZ (mJ (gZ q) (cv 1) wQ (fun _ _=>rfl))) jQ) (jh (ct2 (yc (Hs q)) Dk (cv 2) (pX aX))))))) (xQ (sV (gZ q) (cv 1) wQ (aQ qV nJ (mJ (gZ q) (cv 1) wQ (fun _ _=>rfl)) jQ))
  (kQ (uQ (cf (T.F 43 rfl) qU q (qQ (cv 0) (qQ (cv 1) (qQ (cv 2) (dN (cx (mJ (gZ q) (cv 1) wQ (fun _ _=>rfl)) (cf (T.F 34 rfl) eQ q (qQ (cv 0) (dN (kh T.rZ (mJ (gZ q) (cv 1) wQ (fun _ _=>rfl))))))))))))))) dQ)
  (xQ (nQ (iz (jm (ct2 fX qX (cv 4) jQ) (jh (ct2 kK vJ (cv 3) jQ)))) (xQ (jb 5 S.nd (cx (mQ (qQ wQ (qQ wQ (dN wQ)))) (cf (T.F 34 rfl) eQ q (qQ (cv 0) (dN jQ)))))
  (xQ (jb 6 S.nd (cf (T.F 39 rfl) vL q (qQ (cv 0) (qQ (cv 1) (dN (cv 2))))))
  (kQ (uQ (pX (qQ wQ (qQ (cv 6) (qQ (cv 5) (qQ (cf (T.F 38 rfl) gV q (qQ (cv 0) (qQ (cv 1) (qQ (cv 2) (dN jQ))))) (dN (cf (T.F 46 rfl) wW q (qQ (cv 0) (qQ (cv 1) (qQ (cv 2) (dN (aQ qV nJ (cv 3) jQ)))))))))))))))) dQ)
  (xQ (nQ (iz (jm (ct2 fX qX (cv 4) jQ) (jh (ct2 kK vJ (cv 3) jQ)))) (xQ (jb 7 S.nd (cf (T.F 38 rfl) gV q (qQ (cv 0) (qQ (cv 1) (qQ (cv 2) (dN jQ))))))
  (xQ (jb 8 S.nd (cf (T.F 46 rfl) wW q (qQ (cv 0) (qQ (cv 1) (qQ (cv 2) (dN (aQ qV nJ (cv 3) jQ)))))))
  (kQ (uQ (pX (qQ wQ (qQ (cv 7) (qQ (cv 8) (dN (cf (T.F 46 rfl) wW q (qQ (cv 0) (qQ (cv 1) (qQ (cv 2) (dN (aQ qV nJ (cv 3) jQ))))))))))))))) dQ)
  (xQ (nQ (iz (jm (ct2 kK vJ (cv 4) jQ) (jh (ct2 kK vJ (mJ (gZ q) (cv 1) wQ (fun _ _=>rfl)) jQ)))) (kQ (uQ (cf (T.F 44 rfl) W1 q (qQ (cv 0) (qQ (cv 1) (dN (cv 3))))))) dQ)
  (kQ (uQ (cf (T.F 42 rfl) Kn q (qQ (cv 0) (qQ (cv 1) (qQ (cv 2) (dN (cv 3))))))))))))),?_⟩
 .obtain ⟨t,k,τ,ns,κ,rfl,_⟩:=h;rfl
 rintro ts C R ⟨t,k,τ,ns,κ,rfl,hT,hk,D,ae⟩;refine mX ⟨t,9,ns,rfl,hT,by decide,by decide,fun v C1 a0 a3 T1 e1=>?_⟩;have J:=hk.ex e1;obtain⟨dn,ag⟩:=bO e d
 have ak:∀(N:List Ln),(∀x∈N,∃d',d=d'+1/\jt κ.bs κ.rs (dY e d') τ x)->∀x∈N,jt κ.bs κ.rs dn τ x:=by
  intro N h x hx;obtain⟨d',rfl,h'⟩:=h x hx;rw[eC] at ag;have:dn=dY e d':=by lia
  rw[this];exact h'
 refine lX (fun M C'=>C'=C1/\M=[some (.ref t),some (.ref k),some (.tup (τ.map PV.str)),some (.int (d:Nat)),some (.int v),none,none,none,none]) (fun L I=>?_) ?_
 .refine jo (lJ (fun hb=>?_) fun hb=>?_)
  .refine lK J.at_ rfl jT (jo (lJ (fun B=>?_) fun B=>?_))
   .refine lK J.at_ rfl qN (eK J.rx (jo (lJ (fun ab=>?_) fun ab=>?_)))
    .refine ⟨y0 0 rfl,NK (ks:=τ.map Sum.inr) (js:=[]) (gP τ) rfl (lJ (fun ao=>?_) fun ao=>?_)⟩
     .have aj:τ=[]:=List.map_eq_nil_iff.1 (Af ao)
      have B:=Af B;rw[AB] at ab;have ab:=Af ab;refine aJ (lK J.at_ rfl jT (jo (oG J.at_ rfl (by show 6<=1000;decide) ?_)));rw[Jm];have k2:=J.put κ.l (κ.p - 1) κ.e κ.la;have T2:=T1.put J.nk (.dK (oZ κ.b κ.r κ.l (κ.p - 1) κ.e (mY κ.la)));refine lK k2.at_ rfl qN (lK k2.at_ rfl qN (eK k2.rx ?_));have lr:=hk.lr;have el:(κ.rs.map PV.str).length=κ.rs.length:=AB _
      refine⟨t,_,ns,rfl,T2,by rw[el];exact ab,by rw[el];lia,fun i C3 i0 U T3 e3=>?_⟩;have U:i < (((κ.rs.map PV.str).length:Nat):Int):=U;rw[el] at U;have k3:=k2.ex e3;refine vZ k3.rx (oW (f:=PV.str) "" i0 U) ⟨t,k,τ,ns,{ κ with p:=κ.p - 1 },_,rfl,T3,k3,D.tl,fun o g C4 ho hg aw T4 O=>?_⟩;have p0:=D.p0;refine ae _ { κ with p:=κ.p - 1 } C4 ?_ ?_ ?_ T4 (k3.ex O) ?_
      .rw [ag];exact⟨ho,dW i0 U,hg,aw⟩
      .refine ⟨?_,?_,fun z=>absurd aj z⟩
       .show ((1:Nat):Int)<=M3 e * (1+(κ.l - κ.l))
        rcases nE e with z | z<;>rw[z]<;>lia
       .show ((1:Nat):Int)<=(κ.p - (κ.p - 1))+rn κ * (κ.e - κ.e)
        rw[Int.sub_self κ.e,Int.mul_zero];lia
      .exact ⟨rfl,rfl,rfl,rfl,rfl,D.l0,BG _,by lia,by lia,D.e0,BG _⟩
      .exact (((j4.mq e1).at (by simp) _).trans (j4.mq e3)).trans (j4.mq O)
     .exact lQ (I _ _ ⟨rfl,rfl⟩)
    .exact xG rfl (lQ (I _ _ ⟨rfl,rfl⟩))
   .exact xG rfl (lQ (I _ _ ⟨rfl,rfl⟩))
  .exact xG rfl (lQ (I _ _ ⟨rfl,rfl⟩))
 rintro M C' ⟨rfl,rfl⟩;refine lX (fun M ah=>ah=C'/\M=[some (.ref t),some (.ref k),some (.tup (τ.map PV.str)),some (.int (d:Nat)),some (.int v),none,none,none,none]) (fun L I=>?_) ?_
 .refine fQ (zX _ _) (lJ (fun hb=>?_) fun hb=>?_)
  .refine jo (lJ (fun B=>?_) fun B=>?_)
   .have B:=Af B
    obtain⟨d',rfl⟩:∃d',d=d'+1:=⟨d - 1,by lia⟩;refine mX ⟨by decide,fun p hp=>?_⟩;refine⟨t,3,ns,rfl,T1.new hp _,by decide,by decide,fun i C2 i0 U T2 e2=>?_⟩
    apply vZ (e2 p _ (T1.ne hp) zQ) (oW (f:=PV.str) (ss:=["a","ab","b"]) "" i0 U)
    have af:Ex t C C2:=fun b o n z=>e2 b o n (Gr.new hp _ _ _ (e1 b o n z));refine mX ⟨t,k,τ,ns,κ,rfl,T2,hk.ex af,D.tl,fun o C3 ho T3 e3=>⟨t,k,τ,ns,κ,rfl,T3,(hk.ex af).ex e3,D.tl,fun rk C4 ai T4 O=>jo ⟨d',rfl,t,k,τ,ns,κ,?_,T4,((hk.ex af).ex e3).ex O,D,fun N aa C5 h1 h2 Z h4 Y k5 x5=>⟨y0 5 rfl,?_⟩⟩⟩⟩
    .have:((d'+1:Nat):Int) - 1=(d':Nat):=by lia
     rw[this]
    refine ae (.give o _ rk N) aa C5 ?_ Z.one h4 Y k5 ((j4.mq ((af.trans e3).trans O)).trans x5);rw[ag];exact⟨ho,dW (ss:=["a","ab","b"]) i0 U,ai,ak N fun x hx=>⟨d',rfl,h1 x hx⟩,h2⟩
   .exact lQ (I _ _ ⟨rfl,rfl⟩)
  .exact xG rfl (lQ (I _ _ ⟨rfl,rfl⟩))
 rintro M ah ⟨rfl,rfl⟩;refine lX (fun M C'=>C'=ah/\M=[some (.ref t),some (.ref k),some (.tup (τ.map PV.str)),some (.int (d:Nat)),some (.int v),none,none,none,none]) (fun L I=>?_) ?_
 .refine fQ (zX _ _) (lJ (fun hb=>?_) fun hb=>?_)
  .refine jo (lJ (fun B=>?_) fun B=>?_)
   .have B:=Af B
    obtain⟨d',rfl⟩:∃d',d=d'+1:=⟨d - 1,by lia⟩;have ed:((d'+1:Nat):Int) - 1=(d':Nat):=by lia
    refine mX ⟨t,k,τ,ns,κ,rfl,T1,J,D.tl,fun rk C4 ai T4 O=>mX (jo ⟨d',rfl,t,k,τ,ns,κ,by rw[ed],T4,J.ex O,D,fun N aa C5 h1 h2 Z h4 Y k5 x5=>?_⟩)⟩;refine jo ⟨d',rfl,t,k,τ,ns,aa,by rw[ed],Y,k5,D.chg h4,fun aq ax C6 ar au av g4 T6 k6 x6=>⟨y0 4 rfl,?_⟩⟩;refine ae (.when rk N aq) ax C6 ?_ (Z.add av h4).one (h4.trans g4) T6 k6 (((j4.mq (e1.trans O)).trans x5).trans x6)
    rw[ag];refine⟨ai,⟨ak N fun x hx=>⟨d',rfl,h1 x hx⟩,h2⟩,ak aq fun x hx=>⟨d',rfl,?_⟩,au⟩;have:=ar x hx;rw[h4.bs,h4.rs] at this;exact this
   .exact lQ (I _ _ ⟨rfl,rfl⟩)
  .exact xG rfl (lQ (I _ _ ⟨rfl,rfl⟩))
 rintro M C2 ⟨rfl,rfl⟩;refine lX (fun M C'=>C'=C2/\M=[some (.ref t),some (.ref k),some (.tup (τ.map PV.str)),some (.int (d:Nat)),some (.int v),none,none,none,none]) (fun L I=>?_) ?_
 .refine jo (lJ (fun hb=>?_) fun hb=>?_)
  .refine lK J.at_ rfl jN (jo (lJ (fun B=>?_) fun B=>?_))
   .have B:=Af B
    have aj:=D.t (by have:=D.e1;lia);subst aj;refine⟨t,k,d,ns,κ,rfl,T1,J,D,B,fun l aa C5 h1 h2 Z Y k5 x5=>ae l aa C5 (h1.mono ?_) h2 Z Y k5 ((j4.mq e1).trans x5)⟩;have:=D.e1
    delta dY
    rw[Am (by lia)]
    lia
   .exact lQ (I _ _ ⟨rfl,rfl⟩)
  .exact xG rfl (lQ (I _ _ ⟨rfl,rfl⟩))
 rintro M C3 ⟨rfl,rfl⟩;exact⟨t,k,τ,ns,κ,rfl,T1,J,D,fun l aa C5 h1 h2 Z Y k5 x5=>ae l aa C5 h1 h2 Z Y k5 ((j4.mq e1).trans x5)⟩
end
def Ln.ud xs ys:Ln.kj (xs++ys)=Ln.kj xs++Ln.kj ys :=by grind[Ln.iT,List.map_append]
def Ln.uc xs:(Ln.kj xs).length=xs.length:=by rw[Ln.iT,AB]
def pq.pay(h:pq e τ { κ with l:=κ.l - 1 } g 1 D B):pq e τ κ g 0 D B:=by
 refine⟨?_,h.p,h.n⟩;have:=h.t;have q:1+(κ.l - 1 - g.l)=0+(κ.l - g.l):=by lia
 rwa [q] at this
theorem lu.upd(h:lu C t k κ)(g:p≠k)(q:p≠κ.b)(B:p≠κ.r)o:lu (gQ C p o) t k κ :=
 ⟨by rw[vQ (Ne.symm g)];exact h.at_,by rw[vQ (Ne.symm q)];exact h.bx,by exact(vQ (Ne.symm B))▸h.rx,h.nk,h.nb,h.nr,h.lb,h.lr⟩
section
variable {W:Wd}{a:Adr}
def Qk(T:Tx W a)e d r(h1:1<=r)(tR:Ok W a r 45 U0 (sD e d)):
  Ok W a (r+1) 46 U0 (uM e d):=by
 have S:=(T.F 46 rfl).s;have eQ:=(bK T).mono (show 1<=r by lia)
 refine(T.F 46 rfl).ok (fun ts C R h=>?_) fun aw A az s H E Z=>⟨_,(xQ (jb 4 S.nd (mQ aX))
  (xQ (nA PassesOwn.never rfl rfl T.kG (dN (aQ qV nJ (aQ oQ tQ jQ (cf (T.F 34 rfl) eQ Z (qQ (cv 0) (dN jQ)))) (dZ wY qF rfl T.wF rfl (dN (jJ qM cY (cv 3) jQ (oJ _)))))) (qi 5 S.nd) (kQ (nQ (ct2 kK vJ (mJ (gZ Z) (cv 1) wQ (fun _ _=>rfl)) jQ) (xQ (sV (gZ Z) (cv 1) wQ (aQ qV nJ (mJ (gZ Z) (cv 1) wQ (fun _ _=>rfl)) jQ))
  (kQ (wX (cap (cv 4) (cf (T.F 45 rfl) tR Z (qQ (cv 0) (qQ (cv 1) (qQ (cv 2) (dN (cv 3)))))))))) dQ)))
  (kQ (uQ (t6 T.hZ (cv 4)))))),?_⟩
 .obtain ⟨t,k,τ,ns,κ,rfl,_⟩:=h;rfl
 rintro ts C R ⟨t,k,τ,ns,κ,rfl,hT,hk,ai,au⟩;refine mX ⟨by decide,fun h D=>?_⟩;have af:=hT.ne D;have ae:h≠k:=fun z=>by subst z;rw[hk.at_] at D;cases D
 have nS:h∉[t,k]:=fun z=>by
  rcases AX.1 z with z | z
  .exact af z
  .exact ae (AJ.1 z)
 have ay:h≠κ.b:=fun z=>by rw[z,hk.bx] at D;cases D
 have nr:h≠κ.r:=fun z=>by rw[z,hk.rx] at D;cases D
 have e1:Ex t C (gQ C h (.lst [])):=Ex.new D _;refine lX (fun aj C'=>∃q M J,aj=[some (.ref t),some (.ref k),some (.tup (τ.map PV.str)),some (.int (d:Nat)),some (.ref h),J]/\C' h=some (.lst (Ln.kj q))/\(∀x∈q,jt κ.bs κ.rs (dY e d) τ x)/\q.length<=3/\pq e τ κ M 0 (Ln.jk q) (Ln.o8 q)/\o6 κ M/\Tp C' t ns/\lu C' t k M/\j4 [t,k] C C') (fun L hL=>?_) ?_
 .refine ⟨t,3,ns,rfl,hT.new D _,by decide,by decide,fun v C2 a0 a3 T2 e2=>?_⟩
  refine cV (jo (QC (jo ?_)));generalize hn:1+v - (if decide ((d:Int) < 2)=true then (1:Int) else 0)=n;have ax:n<=3/\0<=n:=by rw[<- hn];split<;>lia
  refine⟨by lia,by lia,?_⟩;refine sJ (fun zs ρ C'=>∃q M J,ρ=[some (.ref t),some (.ref k),some (.tup (τ.map PV.str)),some (.int (d:Nat)),some (.ref h),J]/\C' h=some (.lst (Ln.kj q))/\(∀x∈q,jt κ.bs κ.rs (dY e d) τ x)/\q.length+zs.length<=3/\pq e τ κ M 0 (Ln.jk q) (Ln.o8 q)/\o6 κ M/\Tp C' t ns/\lu C' t k M/\j4 [t,k] C C') ?_ ?_ _ _ _ ⟨[],κ,_,rfl,e2 _ _ af zQ,(fun _ z=>nomatch z),by rw[AB,A5];show 0+_<=3;lia,pq.nil,o6.refl ai,T2,(hk.ex e1).ex e2,j4.mq (e1.trans e2)⟩
  .rintro z zs ρ C3 ⟨q,g,J,rfl,mh,O,aa,U,B,N,I,Y⟩ L3 ag
   have ar:=ai.chg B;refine lK I.at_ rfl yY (jo (lJ (fun hb=>?_) fun hb=>?_))
   .have hb:=Af hb
    refine aJ (lK I.at_ rfl yY (jo (oG I.at_ rfl (by show 6<=1000;decide) ?_)));rw[bD];have k4:=I.put (g.l - 1) g.p g.e g.la;have T4:=N.put I.nk (.dK (oZ g.b g.r (g.l - 1) g.p g.e (mY g.la)));have ah:gQ C3 k (.dK (oZ g.b g.r (g.l - 1) g.p g.e (mY g.la))) h=some (.lst (Ln.kj q)):=by rwa [vQ ae]
    have c4:o6 g { g with l:=g.l - 1 }:=⟨rfl,rfl,rfl,rfl,rfl,by lia,by lia,B.p0,BG _,B.e0,BG _⟩;refine⟨qZ ah,⟨t,k,τ,ns,_,rfl,T4,k4,ar.chg c4,fun l av C5 ak ao ab T5 k5 J=>?_⟩⟩;have aq:=J h _ nS ah
    apply nK aq (by rw[Ln.uc];exact AK (show q.length < 4 by lia) (by decide))
    refine ag _ _ ⟨q++[l],av,_,rfl,by rw[zQ,Ln.ud];rfl,fun x hx=>?_,by rw[AA,Aq];rw[AD] at aa;lia,?_,B.trans (c4.trans ab),T5.put af _,?_,?_⟩
    .rcases AQ.1 hx with hx | hx
     .exact O x hx
     .cases AJ.1 hx
      have:=ak
      rwa [B.bs,B.rs] at this
    .rw [Ln.j5,Ln.t7]
     have:=U.add ao.pay B;exact this
    .exact k5.upd ae (by rw[ab.b];rwa [B.b]) (by rw[ab.r];rwa [B.r]) _
    .exact (((Y.at (by simp) _).trans J).put D _)
   .exact lQ (ag _ _ ⟨q,g,_,rfl,mh,O,by rw[AD] at aa;lia,U,B,N,I,Y⟩)
  .rintro ρ C3 ⟨q,g,J,rfl,mh,O,aa,U,B,N,I,Y⟩
   exact hL _ _ ⟨q,g,_,rfl,mh,O,by lia,U,B,N,I,Y⟩
 rintro aj C3 ⟨q,g,J,rfl,mh,O,aa,U,B,N,I,Y⟩;exact xU mh (au q g C3 O (by lia) U B N I Y)
structure EI(C0 C:CH)(t k h:Addr)(ns:List Int)(κ κ':Kt)(name:Str)(ls:List Ln)(m:Nat):Prop where
 mh:C h=some (.lst (Ln.kj ls))
 ok:∀x∈ls,jt κ.bs κ.rs 2 [name] x
 len:ls.length+m<=2
 tw:(Ln.jk ls:Int)<=κ.l - κ'.l
 pw:Ln.o8 ls<=if κ.la.isSome then ls.length else 0
 ch:o6 κ κ'
 p:κ'.p=κ.p
 e:κ'.e=κ.e
 tp:Tp C t ns
 kt:lu C t k κ'
 ex:j4 [t,k] C0 C
def yh(T:Tx W a)(r:Nat)(h1:6<=r)(tR:Ok W a r 45 U0 (sD 0 1)):
  Ok W a (r+1) 44 U2 (QM 1):=by
 have S:=(T.F 44 rfl).s;have eQ:=(bK T).mono (show 1<=r by lia);have vK:=(xM T).mono (show 2<=r by lia);have lM:=(cE T).mono (show 3<=r by lia);have qU:=(cD T).mono (show 6<=r by lia)
 refine(T.F 44 rfl).ok (fun ts C R h=>?_) fun br A b3 s H E D=>⟨_,(xQ (sV (gZ D) (cv 1) wQ (aQ qV nJ (mJ (gZ D) (cv 1) wQ (fun _ _=>rfl)) jQ))
  (xQ (jb 3 S.nd (cx (cf (T.F 35 rfl) vK D (qQ (cv 0) (dN jQ))) jQ))
  (xQ (jb 4 S.nd (pX (qQ wQ (dN (cf (T.F 34 rfl) eQ D (qQ (cv 0) (dN jQ)))))))
  (xQ (nQ (ct2 fX qX (cf (T.F 34 rfl) eQ D (qQ (cv 0) (dN jQ))) jQ) (kQ (jb 4 S.nd (cf (T.F 37 rfl) lM D (qQ (cv 0) (qQ (cv 1) (dN (pX aX))))))) dQ)
  (xQ (jb 5 S.nd (gX (J8 rfl) Dz rfl T.z_max rfl (qQ jQ (dN (aQ oQ tQ (aQ qV nJ (mJ (gZ D) (cv 1) wQ (fun _ _=>rfl)) jQ) (dZ wY qF rfl T.wF rfl (dN (jJ Zx QW (mJ (gZ D) (cv 1) wQ (fun _ _=>rfl)) eJ (oJ _)))))))))
  (xQ (sV (gZ D) (cv 1) wQ (aQ qV nJ (mJ (gZ D) (cv 1) wQ (fun _ _=>rfl)) (cv 5)))
  (xQ (jb 6 S.nd (mQ aX))
  (xQ (nA PassesOwn.never rfl rfl T.kG (dN (aQ oQ tQ jQ (cf (T.F 34 rfl) eQ D (qQ (cv 0) (dN jQ))))) (qi 7 S.nd) (kQ (nQ (ct2 kK vJ (mJ (gZ D) (cv 1) wQ (fun _ _=>rfl)) jQ) (xQ (sV (gZ D) (cv 1) wQ (aQ qV nJ (mJ (gZ D) (cv 1) wQ (fun _ _=>rfl)) jQ))
  (kQ (nQ (iz (jm (ct2 Zx QW (mJ (gZ D) (cv 1) wQ (fun _ _=>rfl)) eJ) (jh (ct2 fX qX (cf (T.F 34 rfl) eQ D (qQ (cv 0) (dN jQ))) jQ)))) (kQ (wX (cap (cv 6) (cf (T.F 43 rfl) qU D (qQ (cv 0) (qQ (cv 1) (qQ (pX (dN (cv 3))) (dN (mJ (gZ D) (cv 1) wQ (fun _ _=>rfl)))))))))) (kQ (wX (cap (cv 6) (cf (T.F 45 rfl) tR D (qQ (cv 0) (qQ (cv 1) (qQ (pX (dN (cv 3))) (dN jQ))))))))))) dQ)))
  (xQ (sV (gZ D) (cv 1) wQ (aQ oQ tQ (mJ (gZ D) (cv 1) wQ (fun _ _=>rfl)) (cv 5)))
  (kQ (uQ (pX (qQ wQ (qQ (cv 3) (qQ (cv 4) (dN (t6 T.hZ (cv 6)))))))))))))))))),?_⟩
 .obtain ⟨t,k,d,ns,κ,rfl,_⟩:=h;rfl
 rintro ts C R ⟨t,k,d,ns,κ,rfl,hT,hk,aa,bc,bl⟩;have b1:κ.e=1:=by have:=aa.e1;lia
 refine aJ (lK hk.at_ rfl jN (jo (oG hk.at_ rfl (by show 6<=1000;decide) ?_)));rw[sN]
 try dsimp only
 have k1:=hk.put κ.l κ.p (κ.e - 1) κ.la;have T1:=hT.put hk.nk (.dK (oZ κ.b κ.r κ.l κ.p (κ.e - 1) (mY κ.la)));have x1:j4 [t,k] C (gQ C k (.dK (oZ κ.b κ.r κ.l κ.p (κ.e - 1) (mY κ.la)))):=j4.refl.at (by simp) _;refine mX ⟨t,1,ns,rfl,T1,by decide,by decide,fun p ss C2 m2 _ b4 hl nd T2 e2=>?_⟩;have hl:ss.length=1:=hl
 obtain⟨name,rfl⟩:∃bo,ss=[bo]:=by
  match ss,hl with
  |[x],_=>exact⟨x,rfl⟩
 refine vZ m2 Jc (mX ⟨t,4,ns,rfl,T2,by decide,by decide,fun v C3 b6 b7 T3 e3=>⟨y0 2 rfl,?_⟩⟩);have k3:=(k1.ex e2).ex e3;have x3:j4 [t,k] C C3:=x1.trans (j4.mq (e2.trans e3));refine lX (fun Z C'=>∃N:Rk,N.ok κ.bs [] 0/\Z=[some (.ref t),some (.ref k),some (.int (d:Nat)),some (.str name),some N.pv,none,none,none]/\Tp C' t ns/\Ex t C3 C') (fun L hL=>?_) ?_
 .refine ⟨t,3,ns,rfl,T3,by decide,by decide,fun z C4 z0 z1 T4 e4=>?_⟩
  refine fQ (zX _ _) (lJ (fun hb=>?_) fun hb=>?_)
  .refine ⟨by decide,?_⟩
   exact⟨t,k,[],ns,_,rfl,T4,k3.ex e4,AM _,fun N C5 aq T5 e5=>hL _ _ ⟨N,aq,rfl,T5,e4.trans e5⟩⟩
  .exact lQ (hL _ _ ⟨.num v,⟨by lia,by lia⟩,rfl,T4,e4⟩)
 rintro Z C4 ⟨N,aq,rfl,T4,e4⟩;have k4:=k3.ex e4;have x4:j4 [t,k] C C4:=x3.trans (j4.mq e4);refine mX (lK k4.at_ rfl yY (jo (lK k4.at_ rfl zN (QC (cV (MT ?_))))));generalize bh:(if κ.l - 3+(if (!oU (mY κ.la))=true then (1:Int) else 0) > 0 then κ.l - 3+(if (!oU (mY κ.la))=true then (1:Int) else 0) else 0)=sp;have b5:0<=sp/\sp<=κ.l:=by have:=aa.l0;rw[<- bh];split<;>split<;>lia
 refine aJ (lK k4.at_ rfl yY (jo (oG k4.at_ rfl (by show 6<=1000;decide) ?_)));rw[bD];have k5:lu _ t k { κ with l:=κ.l - sp,e:=κ.e - 1 }:=k4.put (κ.l - sp) κ.p (κ.e - 1) κ.la;have T5:=T4.put hk.nk (.dK (oZ κ.b κ.r (κ.l - sp) κ.p (κ.e - 1) (mY κ.la)));have x5:j4 [t,k] C (gQ C4 k (.dK (oZ κ.b κ.r (κ.l - sp) κ.p (κ.e - 1) (mY κ.la)))):=x4.at (by simp) _;generalize gQ C4 k (.dK (oZ κ.b κ.r (κ.l - sp) κ.p (κ.e - 1) (mY κ.la)))=C5 at k5 T5 x5 ⊢
 try dsimp only
 refine mX ⟨by decide,fun h hh=>?_⟩;have ag:=T5.ne hh;have af:h≠k:=fun z=>by subst z;rw[k5.at_] at hh;cases hh
 have a5:h≠κ.b:=fun z=>by have:=k5.bx;rw[<- z,hh] at this;cases this
 have nr:h≠κ.r:=fun z=>by have:=k5.rx;rw[<- z,hh] at this;cases this
 have nS:h∉[t,k]:=fun z=>by
  rcases AX.1 z with z | z
  .exact ag z
  .exact af (AJ.1 z)
 have a3:C h=none:=x5.none nS hh;have c5:o6 κ { κ with l:=κ.l - sp,e:=κ.e - 1 }:=⟨rfl,rfl,rfl,rfl,rfl,by show 0<=κ.l - sp;lia,by show κ.l - sp<=κ.l;lia,aa.p0,BG _,by lia,by lia⟩;have a6:Em { κ with l:=κ.l - sp,e:=κ.e - 1 } 0 [name]:=⟨c5.l0,CP c5.l1 aa.l1,aa.p0,aa.p1,c5.e0,by lia,fun z=>absurd z (by decide),fun z=>absurd (show(0:Int) < κ.e - 1 from z) (by lia),by show 1<=4;decide⟩
 refine lX (fun Z C'=>∃(B:List Ln)(ah:Kt)(Y:Option PV),Z=[some (.ref t),some (.ref k),some (.int (d:Nat)),some (.str name),some N.pv,some (.int sp),some (.ref h),Y]/\EI C C' t k h ns { κ with l:=κ.l - sp,e:=κ.e - 1 } ah name B 0) (fun L hL=>?_) ?_
 .refine ⟨t,2,ns,rfl,T5.new hh _,by decide,by decide,fun b8 C6 b9 cb T6 e6=>?_⟩
  refine cV ⟨by lia,by lia,?_⟩;have k6:lu C6 t k { κ with l:=κ.l - sp,e:=κ.e - 1 }:=(k5.upd af a5 nr _).ex e6;refine sJ (fun zs ρ C'=>∃(B:List Ln)(ah:Kt)(Y:Option PV),ρ=[some (.ref t),some (.ref k),some (.int (d:Nat)),some (.str name),some N.pv,some (.int sp),some (.ref h),Y]/\EI C C' t k h ns { κ with l:=κ.l - sp,e:=κ.e - 1 } ah name B zs.length) ?_ ?_ _ _ _ ⟨[],_,_,rfl,⟨e6 _ _ ag zQ,(fun _ z=>nomatch z),by rw[AB,A5];show 0+_<=2;lia,by show(0:Int)<=_ - _;lia,AM _,o6.refl a6,rfl,rfl,T6,k6,(x5.put a3 _).trans (j4.mq e6)⟩⟩
  .rintro z zs ρ C7 ⟨B,q,Y,rfl,I⟩ L3 ao
   have a7:=a6.chg I.ch;have bg:=I.len;rw[AD] at bg;refine lK I.kt.at_ rfl yY (jo (lJ (fun hb=>?_) fun hb=>?_))
   .have hb:=Af hb
    refine aJ (lK I.kt.at_ rfl yY (jo (oG I.kt.at_ rfl (by show 6<=1000;decide) ?_)));rw[bD];have k8:=I.kt.put (q.l - 1) q.p q.e q.la;have T8:=I.tp.put hk.nk (.dK (oZ q.b q.r (q.l - 1) q.p q.e (mY q.la)));have ae:gQ C7 k (.dK (oZ q.b q.r (q.l - 1) q.p q.e (mY q.la))) h=some (.lst (Ln.kj B)):=by rw[vQ af];exact I.mh
    have x8:j4 [t,k] C (gQ C7 k (.dK (oZ q.b q.r (q.l - 1) q.p q.e (mY q.la)))):=I.ex.at (by simp) _;generalize gQ C7 k (.dK (oZ q.b q.r (q.l - 1) q.p q.e (mY q.la)))=C8 at k8 T8 ae x8 ⊢;have k8:lu C8 t k { q with l:=q.l - 1 }:=k8;have c8:o6 q { q with l:=q.l - 1 }:=⟨rfl,rfl,rfl,rfl,rfl,by lia,by lia,I.ch.p0,BG _,I.ch.e0,BG _⟩;have ay:q.la=κ.la:=I.ch.la
    have a4:∀(l:Ln)(J:Kt)(M:CH),jt κ.bs κ.rs 2 [name] l->(l.tw:Int)<=1+(q.l - 1 - J.l)->(l.pw<=if κ.la.isSome then 1 else 0)->o6 { q with l:=q.l - 1 } J->J.p=q.p->J.e=q.e->Tp M t ns->lu M t k J->j4 [t,k] C8 M->(∀Z C',(∃(B:List Ln)(ah:Kt)(Y:Option PV),Z=[some (.ref t),some (.ref k),some (.int (d:Nat)),some (.str name),some N.pv,some (.int sp),some (.ref h),Y]/\EI C C' t k h ns { κ with l:=κ.l - sp,e:=κ.e - 1 } ah name B zs.length)->L3 Z C') ->
      xY (.ref h) [l.pv] M fun _ C'=>L3 [some (.ref t),some (.ref k),some (.int (d:Nat)),some (.str name),some N.pv,some (.int sp),some (.ref h),some z] C':=by
     intro l J M h1 h2 h3 h4 h5 h6 T9 k9 x9 ba;have au:=x9 h _ nS ae
     apply nK au (by rw[Ln.uc];exact AK (show B.length < 4 by lia) (by decide))
     have b2:h≠J.b:=by rw[h4.b];rw[I.ch.b];exact a5
     have r2:h≠J.r:=by rw[h4.r];rw[I.ch.r];exact nr
     refine ba _ _ ⟨B++[l],J,_,rfl,⟨by rw[zQ,Ln.ud];rfl,fun x hx=>?_,by rw[AA,Aq];lia,?_,?_,I.ch.trans (c8.trans h4),h5.trans I.p,h6.trans I.e,T9.put ag _,k9.upd af b2 r2 _,(x8.trans x9).put a3 _⟩⟩
     .rcases AQ.1 hx with hx | hx
      .exact I.ok x hx
      .cases AJ.1 hx;exact h1
     .rw [Ln.j5]
      have:=I.tw;show((Ln.jk B+(l.tw+0):Nat):Int)<=_
      lia
     .rw [Ln.t7,AA,Aq]
      have g:=I.pw;have g:Ln.o8 B<=if κ.la.isSome then B.length else 0:=g
      show Ln.o8 B+(l.pw+0)<=if κ.la.isSome then B.length+1 else 0
      cases hz:κ.la.isSome with
      |true=>rw[hz,Al rfl] at g h3;rw[Al rfl];lia
      |false=>rw[hz,Am AU] at g h3;rw[Am AU];lia
    have b0:q.e=0:=by have:=I.e;have:q.e=κ.e - 1:=this;lia
    have az:∀M,Tp M t ns->Ex t C8 M->sD 0 1 [.ref t,.ref k,.tup [.str name],.int 1] M fun v C'=>xY (.ref h) [v] C' fun _ a8=>L3 [some (.ref t),some (.ref k),some (.int (d:Nat)),some (.str name),some N.pv,some (.int sp),some (.ref h),some z] a8:=by
     intro M T9 O;refine⟨t,k,[name],ns,_,rfl,T9,k8.ex O,a7.chg c8,fun l J ai a9 a0 ak aj bj bp=>?_⟩;obtain⟨n1,n2⟩:=a0.n (fun z=>nomatch z);refine a4 l J ai ?_ ?_ (by rw[n1];exact AM _) ak n2 ?_ aj bj ((j4.mq O).trans bp) ao
     .have:jt q.bs q.rs 2 [name] l:=a9
      rw[I.ch.bs,I.ch.rs] at this;exact this
     .have:=a0.t
      have this:(l.tw:Int)<=1 * (1+(q.l - 1 - J.l)):=this
      lia
     .have bq:=ak.e0
      have av:=ak.e1;have av:J.e<=q.e:=av
      lia
    refine lK k8.at_ rfl zN (R7 (Ho (fun ab=>?_) fun ab=>?_))
    .refine ⟨t,2,ns,rfl,T8,by decide,by decide,fun z2 M cc cg T9 O=>?_⟩
     refine fQ (zX _ _) (lJ (fun bb=>?_) fun bb=>?_)
     .have ab:(!oU (mY q.la))=true:=ab
      obtain⟨U,ar⟩:∃U,q.la=some U:=by
       cases hz:q.la with
       |none=>rw[hz] at ab;cases ab
       |some U=>exact⟨U,rfl⟩
      have k9:=k8.ex O;refine⟨qZ (O _ _ ag ae),⟨y0 1 rfl,?_⟩⟩
      apply lK k9.at_ rfl (v:=.str U) (by rw[zN];show some (mY q.la)=_;rw[ar];rfl)
      refine⟨t,k,[name],ns,_,U,rfl,T9,k9,by show 1<=4;decide,fun o g ai ho hg bf aj ax=>?_⟩;refine a4 (.part o U g) { q with l:=q.l - 1 } ai ?_ ?_ ?_ (o6.refl (a7.chg c8)) rfl rfl aj (k9.ex ax) ((j4.mq O).trans (j4.mq ax)) ao
      .have ho:Qt q.bs [name] o:=ho
       have hg:wI q.bs [name] 1 g:=hg;rw[I.ch.bs] at ho hg;exact⟨ho,aa.ly bc U (by rw[<- ay];exact ar),hg,bf⟩
      .show ((1:Nat):Int)<=1+(q.l - 1 - (q.l - 1));lia
      .rw [<- ay,ar];exact AO _
     .refine ⟨qZ (O _ _ ag ae),⟨y0 1 rfl,?_⟩⟩
      exact az M T9 O
    .refine xG rfl ⟨qZ ae,⟨y0 1 rfl,?_⟩⟩
     exact az C8 T8 Ex.refl
   .exact lQ (ao _ _ ⟨B,q,_,rfl,⟨I.mh,I.ok,by lia,I.tw,I.pw,I.ch,I.p,I.e,I.tp,I.kt,I.ex⟩⟩)
  .rintro ρ C7 ⟨B,q,Y,rfl,I⟩
   exact hL _ _ ⟨B,q,_,rfl,I⟩
 rintro Z C7 ⟨B,q,Y,rfl,I⟩;refine aJ (lK I.kt.at_ rfl yY (cV (oG I.kt.at_ rfl (by show 6<=1000;decide) ?_)));rw[bD];have au:gQ C7 k (.dK (oZ q.b q.r (q.l+sp) q.p q.e (mY q.la))) h=some (.lst (Ln.kj B)):=by rw[vQ af];exact I.mh
 refine xU au ⟨y0 4 rfl,?_⟩;have bu:=I.ch.l0;have bw:q.l<=κ.l - sp:=I.ch.l1;have bt:q.e=κ.e - 1:=I.e;have cp:q.p=κ.p:=I.p;have bz:(Ln.jk B:Int)<=κ.l - sp - q.l:=I.tw;have aw:Ln.o8 B<=if κ.la.isSome then B.length else 0:=I.pw
 have bx:B.length+0<=2:=I.len;refine bl (.each name N B) { q with l:=q.l+sp } _ ?_ ?_ ?_ (I.tp.put hk.nk _) (I.kt.put (q.l+sp) q.p q.e q.la) (I.ex.at (by simp) _)
 .exact ⟨⟨aq.mono (show 0<=1 by decide),rfl,nd.2 name AI⟩,fun x hx=>(I.ok x hx).mono (by decide),by lia⟩
 .refine ⟨?_,?_,fun z=>absurd rfl z⟩
  .show ((1+Ln.jk B:Nat):Int)<=1 * (1+(κ.l - (q.l+sp)))
   lia
  .show ((8 * Ln.o8 B:Nat):Int)<=(κ.p - q.p)+rn κ * (κ.e - q.e)
   have e1:κ.e - q.e=1:=by lia
   rw[e1,Int.mul_one]
   delta rn
   cases hz:κ.la.isSome with
   |true=>rw[hz,Al rfl] at aw;rw[Al rfl];lia
   |false=>rw[hz,Am AU] at aw;rw[Am AU];lia
 .exact ⟨I.ch.b,I.ch.r,I.ch.bs,I.ch.rs,I.ch.la,by show 0<=q.l+sp;lia,by show q.l+sp<=κ.l;lia,I.ch.p0,I.ch.p1,I.ch.e0,by show q.e<=κ.e;lia⟩
end
structure Pt where
 name:Str
 first:List (Str×Int)
 works:List (Str×Rk)
 ls:List Ln
def Pt.pv(x:Pt):PV:=.tup [.str x.name,.tup (x.first.map qY),.tup (x.works.map iJ),.tup (Ln.kj x.ls)]
structure Rt(rs:List Str)(cap:Nat)(x:Pt):Prop where
 fl:x.first.length<=4
 wk:wI (x.first.map (·.1)) [] 1 x.works
 wl:x.works.length<=4
 ls:∀l∈x.ls,jt (x.first.map (·.1)) rs 6 [] l
 ll:x.ls.length<=7
 tw:Ln.jk x.ls<=120
 pw:Ln.o8 x.ls<=cap
 fb:∀c∈x.first,-1000000000<=c.2/\c.2<=1000000000
 bn:∀c∈x.first,zZ c.1=true
 bd:(x.first.map (·.1)).Nodup
structure Im(rs:List Str)(cap:Nat)(x:Pt):Prop where
 ok:Rt rs cap x
 ll:x.ls.length<=6
 tw:Ln.jk x.ls<=6
def KZ(m:C p=some (.dK []))(e:Lr ts=some ps)(h:ps.length<=15)(q:Q (.ref p) (gQ C p (.dK (lF [] ps)))):nH p ts C Q :=by simp_all[nH]
def aC{ss:List Str}(n:Nat):xF (ss.map PV.str) (some ( n+1)) none=(ss.drop (n+1)).map PV.str:=by
 delta xF
 have e:HT.sIx (ss.map PV.str).length 0 (some ((n:Int)+1))=min (n+1) ss.length:=by
  have:((n:Int)+1)=((n+1:Nat):Int):=by lia
  rw[this,HT.sIx_nat,AB]
 rw[e,HT.sIx_none,<- List.map_drop,CN (by grind)]
 congr 1
 by_cases h:n+1<=ss.length
 .lia
 .simp_all
def WN{ss:List Str}(h:1 < ss.length):∃s∈ss.drop 1,atI (ss.map PV.str) (-1)=some (.str s):=by
 delta atI ixN
 rw[Am (by decide),AB,Al (by lia)];have e:((ss.length:Int) + -1).toNat=ss.length - 1:=by lia
 refine⟨ss[ss.length - 1],?_,?_⟩
 .have:ss[ss.length - 1]=(ss.drop 1)[ss.length - 2]'(by rw[CY];lia):=by
   rw[List.getElem_drop]
   congr 1
   lia
  rw[this];exact Bf _
 .show (ss.map PV.str)[((ss.length:Int) + -1).toNat]?=_
  rw[e,Ah,AL (by lia)]
  rfl
def X9{ss:List Str}(h:n < ss.length):atI (ss.map PV.str) n=some (.str ss[n]):=by
 have:=WL (xs:=ss.map PV.str) (by rwa [AB])
 rwa [List.getElem_map] at this
section
variable {W:Wd}{a:Adr}
def gY(h:∀ts C Q,¬ G ts C Q):FnOk W.P W.w W.K W.mg W.base CX0 r f fd ps (q9 W.K G) :=
 ⟨fun vs H Q E g=>eX g fun ts C R _ _ z _=> (h _ _ _ z).elim,fun _ _ _ _ _ _ _ _ _ _ _ _ _ g=>eX g fun ts C R _ _ z _=> (h _ _ _ z).elim⟩
def lD(h:∀d',d=d'+1->Ok W a r 46 U0 (uM e d')):Ok W a r 46 U0 (rC e d):=by
 cases d with
 |zero=>exact gY fun ts C Q ⟨d',e,_⟩=>by lia
 |succ d' =>
  have e:rC e (d'+1)=uM e d':=by
   funext ts C Q
   refine propext ⟨fun⟨g,z,h⟩=>?_,fun h=>⟨d',rfl,h⟩⟩;cases Bv z;exact h
  exact e▸h d' rfl
def Jt(T:Tx W a):Ok W a 8 42 U0 (sD 0 0) :=
 vC T 0 0 7 (by decide) (lD fun d' e=>by omega)
def sT: Ok W a r 44 U2 (QM 0):=gY fun ts C Q ⟨t,k,d,ns,κ,_,_,_,g,h,_⟩=>by have:=g.e1;lia
def Ju(T:Tx W a):Ok W a 12 45 U0 (sD 0 1) :=
 have g:=Qk T 0 0 9 (by decide) (dE T 0 0 8 (by decide) (lD fun d' e=>by omega) (Jt T) sT);have lo:=lD fun d' e=>by cases Bv e;exact g
 dE T 0 1 11 (by decide) (lo.mono (by decide)) (vC T 0 1 10 (by decide) lo) sT
def Vy(T:Tx W a):Ok W a 13 44 U2 (QM 1):=yh T 12 (by decide) (Ju T)
def tT(T:Tx W a)d:Ok W a (15+3 * d) 46 U0 (uM 1 d):=by
 have g:∀d,(∀d',d=d'+1->Ok W a (12+3 * d) 46 U0 (uM 1 d'))->Ok W a (15+3 * d) 46 U0 (uM 1 d):=by
  intro d h;have lo:=lD h;have B:=dE T 1 d (12+3 * d+1) (by lia) (lo.mono (B9 _)) (vC T 1 d (12+3 * d) (by lia) lo) ((Vy T).mono (by lia));have:=Qk T 1 d (12+3 * d+1+1) (Nat.succ_pos _) B;have e:12+3 * d+1+1+1=15+3 * d:=by lia
  rwa [e] at this
 induction d with
 |zero=>exact g 0 fun d' e=>by lia
 |succ d q=>exact g (d+1) fun d' e=>by cases Bv e;exact q.mono (by lia)
def Ma(h1:FnOk W.P W.w W.K W.mg W.base CX0 r f fd ps (q9 W.K M))(h2:FnOk W.P W.w W.K W.mg W.base CX0 r f fd ps (q9 W.K N)):FnOk W.P W.w W.K W.mg W.base CX0 r f fd ps (q9 W.K (fun ts C Q=>M ts C Q\/N ts C Q)) :=
 ⟨fun vs H Q E g=>eX g fun ts C R x y z u=> by
  rcases z with z | z
  .exact h1.len vs H Q E ⟨ts,C,R,x,y,z,u⟩
  .exact h2.len vs H Q E ⟨ts,C,R,x,y,z,u⟩,fun A I s H q us vs Q E J D B L g=>eX g fun ts C R x y z u=> by
  rcases z with z | z
  .exact h1.run A I s H q us vs Q E J D B L ⟨ts,C,R,x,y,z,u⟩
  .exact h2.run A I s H q us vs Q E J D B L ⟨ts,C,R,x,y,z,u⟩⟩
def yR(k:Nat):Nat:=if k=0 then 18 else 2
structure KS(κ:Kt)(bl rl:Addr)(bs rs:List Str)(k:Nat):Prop where
 b:κ.b=bl
 r:κ.r=rl
 bs:κ.bs=bs
 rs:κ.rs=rs
 l:κ.l=6
 p0:1<=κ.p
 p1:κ.p<=2
 e0:0<=κ.e
 e1:κ.e<=1
 ly:0 < κ.e->∀s,κ.la=some s->s∈κ.rs
 cap:κ.p+rn κ * κ.e<=(yR k:Nat)
inductive Nr(ts:List PV)(C:CH)(Q:K1):Prop
 |mk(t nl:Addr)(ns:List Int)(names:List Str)(k:Nat)(keyed:Bool)(z0:ts=[.ref t,.ref nl,.int (k:Nat),.bl keyed])(z1:Tp C t ns)(z2:C nl=some (.lst (names.map PV.str)))(z3:nl≠t)(z4:names.length<=6)(z5:k < names.length)(z6:∀(x:Pt)(C':CH),names[k]?=some x.name->Im (names.drop (k+1)) (yR k) x->Tp C' t ns->Ex t C C'->Q x.pv C')
def yg(T:Tx W a):Ok W a 25 47 U4 Nr:=by
 have S:=(T.F 47 rfl).s;have eQ:=(bK T).mono (show 1<=24 by decide);have vK:=(xM T).mono (show 2<=24 by decide);have aF:=(nT T).mono (show 2<=24 by decide);have gV:=(kC T 1).mono (show 5<=24 by decide);have wW:=Ma (tT T 3) ((tT T 1).mono (show 15+3 * 1<=24 by decide))
 refine(T.F 47 rfl).ok (fun ts C R h=>?_) fun c9 A dg s H E N=>⟨_,(xQ (jb 4 S.nd (cx (mQ (qQ jQ (qQ jQ (qQ jQ (qQ jQ (qQ jQ (dN jQ))))))) (cf (T.F 34 rfl) eQ N (qQ (cv 0) (dN jQ)))))
  (xQ (jb 5 S.nd (cf (T.F 35 rfl) vK N (qQ (cv 0) (dN (cv 4)))))
  (xQ (jb 6 S.nd (Dv (mU wQ (cv 5) (mU wQ (vR (cv 1) (bW (aQ oQ tQ (cv 2) jQ)) cG) (mU wQ jQ (mU wQ jQ (mU wQ jQ (mU wQ eJ Di))))))))
  (xQ (nQ (iz (jl (ct2 qM cY (kh T.rZ (cv 1)) jQ) (je (iz (jm (bX (cv 3)) (jh (ct2 fX qX (cv 2) jQ))))))) (kQ (sV (gZ N) (cv 6) wQ jQ)) dQ)
  (xQ (nQ (bX (cv 3)) (xQ (sV (gZ N) (cv 6) wQ (dZ wY qF rfl T.wF rfl (dN (jJ fX qX (cv 2) jQ (oJ _)))))
  (xQ (nQ (ct2 kK vJ (kh T.rZ (cv 1)) jQ) (kQ (sV (gZ N) (cv 6) wQ (cx (cv 1) (aW iK rJ jQ)))) dQ)
  (kQ (nQ (ct2 kK vJ (cv 2) jQ) (kQ (sV (gZ N) (cv 6) wQ jQ)) dQ)))) dQ)
  (xQ (jb 7 S.nd (t6 T.hZ (hW rfl (S.c (by decide +kernel)) (S.k rfl rfl rfl (by decide +kernel)) (cv 5) (fun _ _ _ _ _=>lZ) (fun _ _ _ _ _=>(pX (qQ (cv 0) (dN (cf (T.F 36 rfl) aF N (dN (cv 1))))))))))
  (xQ (jb 8 S.nd (cf (T.F 46 rfl) wW N (qQ (cv 0) (qQ (cv 6) (qQ (pX aX) (dN (cx (mQ (qQ jQ (dN jQ))) (dZ wY qF rfl T.wF rfl (dN (jJ kK vJ (kh T.rZ (cv 1)) jQ (oJ _)))))))))))
  (xQ (jb 9 S.nd (cf (T.F 35 rfl) vK N (qQ (cv 0) (dN (cf (T.F 34 rfl) eQ N (qQ (cv 0) (dN jQ)))))))
  (xQ (jb 10 S.nd (t6 T.hZ (hW rfl (S.c (by decide +kernel)) (S.k rfl rfl rfl (by decide +kernel)) (cv 9) (fun _ _ _ _ _=>lZ) (fun _ _ _ _ _=>(pX (qQ (cv 0) (dN (cf (T.F 38 rfl) gV N (qQ (cv 1) (qQ (cv 7) (qQ (pX aX) (dN jQ))))))))))))
  (kQ (uQ (pX (qQ (cx (cv 1) (cv 2)) (qQ (cv 7) (qQ (cv 10) (dN (cv 8))))))))))))))))),?_⟩
 .obtain ⟨t,aa,ns,J,k,ak,rfl,_⟩:=h;rfl
 rintro ts C R ⟨t,aa,ns,J,k,ak,rfl,hT,mn,nt,dd,bf,c3⟩;refine mX ⟨by decide,fun p1 ax=>?_⟩;refine⟨t,6,ns,rfl,hT.new ax _,by decide,by decide,fun v C1 a4 bw T1 e1=>?_⟩;have b6:Ex t C C1:=(Ex.new ax _).trans e1
 apply vZ (e1 p1 _ (hT.ne ax) zQ) (oW (f:=PV.int) (ss:=[0,1,1,2,2,4]) 0 a4 bw)
 have bg:0<=([0,1,1,2,2,4]:List Int).getD v.toNat 0/\([0,1,1,2,2,4]:List Int).getD v.toNat 0<=4:=by
  have:v=0\/v=1\/v=2\/v=3\/v=4\/v=5:=by lia
  rcases this with rfl | rfl | rfl | rfl | rfl | rfl<;>decide
 generalize ([0,1,1,2,2,4]:List Int).getD v.toNat 0=m at bg ⊢;refine mX ⟨t,m,ns,rfl,T1,bg.1,by lia,fun B bs C2 m2 n2 bt da nd T2 e2=>?_⟩;have aq:=b6.trans e2;have bb:bs.length<=4:=by lia
 apply mX
 intro q ag;have T3:=T2.new ag (.dK []);have ae:=T2.ne ag;refine cV (Gm (Gr.new ag _ _ _ (aq _ _ nt mn)) fun D ah=>?_);have T4:=T3.new ah (.lst (xF (J.map PV.str) (some ((k:Int)+1)) none));have c1:=T3.ne ah;have a0:q≠D:=fun z=>by subst z;rw[zQ] at ah;cases ah
 have cq:C2 D=none:=by rw[vQ (Ne.symm a0)] at ah;exact ah
 have br:B≠q:=fun z=>by rw[z,ag] at m2;cases m2
 have cy:B≠D:=fun z=>by rw[z,cq] at m2;cases m2
 rw[aC];rw[aC] at T4
 apply KZ (ps:=oZ B D 6 1 1 .non) (by rw[vQ a0];exact zQ) rfl (by show 6<=15;decide)
 rw[show lF [] (oZ B D 6 1 1 .non)=oZ B D 6 1 1 .non from rfl];have T5:=T4.put ae (.dK (oZ B D 6 1 1 .non))
 have x5:Ex t C (gQ (gQ (gQ C2 q (.dK [])) D (.lst ((J.drop (k+1)).map PV.str))) q (.dK (oZ B D 6 1 1 .non))) :=
  ((aq.trans (Ex.new ag _)).trans (Ex.new ah _)).put (aq.none ae ag) _
 have k5:lu (gQ (gQ (gQ C2 q (.dK [])) D (.lst ((J.drop (k+1)).map PV.str))) q (.dK (oZ B D 6 1 1 .non))) t q ⟨B,D,bs,J.drop (k+1),6,1,1,none⟩:=by
  refine⟨zQ,?_,?_,ae,bt,c1,bb,?_⟩
  .rw [vQ br,vQ cy,vQ br];exact m2
  .rw [vQ (Ne.symm a0)];exact zQ
  .rw [CY];lia
 have aj:C q=none:=aq.none ae ag;generalize gQ (gQ (gQ C2 q (.dK [])) D (.lst ((J.drop (k+1)).map PV.str))) q (.dK (oZ B D 6 1 1 .non))=C5 at T5 x5 k5 ⊢;refine lX (fun af C'=>∃p:Int,1<=p/\p<=2/\af=[some (.ref t),some (.ref aa),some (.int (k:Nat)),some (.bl ak),some (.int m),some (.ref B),some (.ref q),none,none,none,none]/\Tp C' t ns/\Ex t C C'/\lu C' t q ⟨B,D,bs,J.drop (k+1),6,p,1,none⟩) (fun L Y=>?_) ?_
 .have bx:∀L':jx->CH->Prop,L'=L->gR (.ref q) (.str "parts") (.int 2) C5 fun C4=>L' [some (.ref t),some (.ref aa),some (.int (k:Nat)),some (.bl ak),some (.int m),some (.ref B),some (.ref q),none,none,none,none] C4:=by
   rintro L' rfl
   apply oG k5.at_ rfl (by show 6<=1000;decide)
   exact Y _ _ ⟨2,by decide,by decide,rfl,T5.put ae _,x5.put aj _,k5.put 6 2 1 none⟩
  refine eK (x5 _ _ nt mn) (jo (lJ (fun Z=>?_) fun Z=>?_))
  .exact XQ rfl (bx _ rfl)
  .refine Ho (fun O=>?_) fun O=>?_
   .refine fQ (zX _ _) (lJ (fun cg=>?_) fun cg=>?_)
    .exact bx _ rfl
    .exact lQ (Y _ _ ⟨1,by decide,by decide,rfl,T5,x5,k5⟩)
   .exact xG rfl (lQ (Y _ _ ⟨1,by decide,by decide,rfl,T5,x5,k5⟩))
 clear k5 T5 x5;rintro af C6 ⟨p,p0,p1,rfl,T6,x6,k6⟩;have c7:∀κ:Kt,rn κ<=16:=fun κ=>by delta rn;split<;>decide
 refine lX (fun af C'=>∃κ:Kt,KS κ B D bs (J.drop (k+1)) k/\af=[some (.ref t),some (.ref aa),some (.int (k:Nat)),some (.bl ak),some (.int m),some (.ref B),some (.ref q),none,none,none,none]/\Tp C' t ns/\Ex t C C'/\lu C' t q κ) (fun L Y=>?_) ?_
 .refine Ho (fun Z=>?_) fun Z=>?_
  .refine aJ (fQ (zX _ _) (QC (oG k6.at_ rfl (by show 6<=1000;decide) ?_)))
   rw[sN]
   try dsimp only
   have ck:∃e:Int,(if id (decide ((k:Int)=0))=true then (1:Int) else 0)=e/\((k=0/\e=1)\/(0 < k/\e=0)):=by
    by_cases ai:k=0
    .refine ⟨1,?_,.inl ⟨ai,rfl⟩⟩
     rw[Al (by exact Ai (by lia))]
    .refine ⟨0,?_,.inr ⟨by lia,rfl⟩⟩
     rw[Am (by rw[Ad (by lia)];decide)]
   obtain⟨e,ee,dc⟩:=ck;rw[ee];have k7:=k6.put 6 p e none;have T7:=T6.put ae (.dK (oZ B D 6 p e (mY none)));have x7:=x6.put aj (.dK (oZ B D 6 p e (mY none)));have e7:(CO.dK (oZ B D 6 p e .non))=.dK (oZ B D 6 p e (mY none)):=rfl;generalize gQ C6 q (CO.dK (oZ B D 6 p e (mY none)))=C7 at k7 T7 x7 ⊢;refine lX (fun af C'=>∃la:Option Str,(k=0->∀s,la=some s->s∈J.drop (k+1))/\af=[some (.ref t),some (.ref aa),some (.int (k:Nat)),some (.bl ak),some (.int m),some (.ref B),some (.ref q),none,none,none,none]/\Tp C' t ns/\Ex t C C'/\lu C' t q ⟨B,D,bs,J.drop (k+1),6,p,e,la⟩) (fun L1 ba=>?_) ?_
   .refine eK (x7 _ _ nt mn) (jo (lJ (fun O=>?_) fun O=>?_))
    .have O:=Af O
     rw[AB] at O;obtain⟨sl,ct,cb⟩:=WN (ss:=J) (by lia);refine vZ (x7 _ _ nt mn) cb (oG k7.at_ rfl (by show 6<=1000;decide) ?_);exact ba _ _ ⟨some sl,fun ai s hs=>by cases hs;rw[ai];exact ct,rfl,T7.put ae _,x7.put aj _,k7.put 6 p e (some sl)⟩
    .exact lQ (ba _ _ ⟨none,(fun _ _ z=>nomatch z),rfl,T7,x7,k7⟩)
   rintro af C8 ⟨la,cp,rfl,T8,x8,k8⟩;refine jo (lJ (fun O=>?_) fun O=>?_)
   .have O:=Af O
    have e0:e=0:=by lia
    subst e0
    apply oG k8.at_ rfl (by show 6<=1000;decide)
    refine Y _ _ ⟨⟨B,D,bs,J.drop (k+1),6,1,0,la⟩,⟨rfl,rfl,rfl,rfl,rfl,BG _,(by show(1:Int)<=2;decide),BG _,(by show(0:Int)<=1;decide),fun z=>absurd (show(0:Int) < 0 from z) (by decide),?_⟩,rfl,T8.put ae _,x8.put aj _,k8.put 6 1 0 la⟩;show(1:Int)+rn _ * 0<=_;rw[Int.mul_zero]
    delta yR
    split<;>decide
   .apply lQ
    have O:=of_decide_eq_false O;have ai:k=0:=by lia
    have e1:e=1:=by lia
    subst e1;refine Y _ _ ⟨⟨B,D,bs,J.drop (k+1),6,p,1,la⟩,⟨rfl,rfl,rfl,rfl,rfl,p0,p1,(by show(0:Int)<=1;decide),BG _,fun _=>cp ai,?_⟩,rfl,T8,x8,k8⟩;show p+rn _ * 1<=_;rw[Int.mul_one];have:=c7 ⟨B,D,bs,J.drop (k+1),6,p,1,la⟩
    delta yR
    rw[Al ai]
    lia
  .refine lQ (Y _ _ ⟨⟨B,D,bs,J.drop (k+1),6,p,1,none⟩,⟨rfl,rfl,rfl,rfl,rfl,p0,p1,(by show(0:Int)<=1;decide),BG _,(fun _ _ z=>nomatch z),?_⟩,rfl,T6,x6,k6⟩)
   show p+0 * 1<=_
   delta yR
   split<;>lia
 clear k6 T6 x6;rintro af C7 ⟨κ,ks,rfl,T7,x7,k7⟩;have bq:C7 B=some (.lst (bs.map PV.str)):=by have:=k7.bx;rw[ks.b,ks.bs] at this;exact this
 refine mX (Dq bq rfl (iU (β:=Int) qY (fun i:Int=>-1000000000<=i/\i<=1000000000) (fun C'=>Tp C' t ns/\Ex t C7 C') (fun C' h=>h.2 _ _ bt bq) (by lia) (fun z C8 L ⟨T8,e8⟩ Y=>?_) (fun fs C8 p8 ⟨T8,e8⟩ bj bc cn=>?_) ⟨T7,Ex.refl⟩))
 .exact ⟨t,ns,rfl,T8,fun i C9 i0 i1 T9 e9=>⟨y0 2 rfl,Y i C9 ⟨i0,i1⟩ ⟨T9,e8.trans e9⟩⟩⟩
 apply xU zQ
 have T9:=T8.new bj (.lst (fs.map qY));have e9:Ex t C7 (gQ C8 p8 (.lst (fs.map qY))):=e8.trans (Ex.new bj _);generalize gQ C8 p8 (.lst (fs.map qY))=C9 at T9 e9 ⊢;have k9:=k7.ex e9;have x9:Ex t C C9:=x7.trans e9;have bu:Em κ 1 []:=⟨by rw[ks.l];decide,by rw[ks.l];decide,by have:=ks.p0;lia,ks.p1,ks.e0,ks.e1,fun _=>rfl,ks.ly,AM _⟩;refine mX ⟨y0 0 rfl,?_⟩;refine⟨y0 2 rfl,fun a3 ay=>?_⟩
 have a7:=T9.new ay (.lst [PV.int 3,PV.int 1]);have bo:=k9.ex (Ex.new ay (.lst [PV.int 3,PV.int 1]));have a5:Ex t C (gQ C9 a3 (.lst [PV.int 3,PV.int 1])):=x9.trans (Ex.new ay _);refine eK (a5 _ _ nt mn) (jo (QC ?_))
 have cc:∀(I:List Ln)(M:Kt)(C':CH),(∀x∈I,jt κ.bs κ.rs 6 [] x)->I.length<=6->pq 1 [] κ M 0 (Ln.jk I) (Ln.o8 I)->o6 κ M->Tp C' t ns->lu C' t q M->j4 [t,q] (gQ C9 a3 (.lst [PV.int 3,PV.int 1])) C'->∀(x:Pt),x.name=J[k]->x.first=fs->x.ls=I->wI bs [] 1 x.works->x.works.length<=4->∀ab,Tp ab t ns->Ex t C' ab->R x.pv ab:=by
  intro I M C' h1 h2 h3 U T' k' x' x xn xf xl xw c6 ab b1 b5;refine c3 x ab (by rw[AL bf,xn]) ?_ b1 ?_
  .have au:x.first.map (·.1)=bs:=by rw[xf];exact bc
   have bl:Ln.jk I<=6:=by
    have:=h3.t;have l0:=U.l0;have kl:=ks.l;have this:(Ln.jk I:Int)<=1 * (0+(κ.l - M.l)):=this
    lia
   refine⟨⟨by rw[xf,<- AB (f:=(·.1)),bc];exact bb,by rw[au];exact xw,c6,?_,by rw[xl];exact AR h2 (by decide),by rw[xl];exact AR bl (by decide),?_,by rw[xf];exact cn,fun c hc=>nd.2 c.1 (by rw[<- au];exact AS.2 ⟨c,hc,rfl⟩),by rw[au];exact nd.1⟩,by rw[xl];exact h2,by rw[xl];exact bl⟩
   .rw [xl,au]
    intro l hl;have:=h1 l hl;rw[ks.bs,ks.rs] at this;exact this
   .rw [xl]
    have g:=h3.p;have c:=ks.cap;have e0:=U.e0;have e1:=U.e1;have q0:=U.p0;have z:rn κ=0\/rn κ=16:=by delta rn;split;exact .inr rfl;exact .inl rfl
    rcases z with z | z<;>rw[z] at g c<;>lia
  .intro b o az Z
   have nk:b≠q:=fun z=>by rw[z,aj] at Z;cases Z
   exact b5 b o az (x' b o (fun z=>by
    rcases AX.1 z with z | z
    .exact az z
    .exact nk (AJ.1 z)) (a5 b o az Z))
 have rest:∀(I:List Ln)(M:Kt)(C':CH),(∀x∈I,jt κ.bs κ.rs 6 [] x)->I.length<=6->pq 1 [] κ M 0 (Ln.jk I) (Ln.o8 I)->o6 κ M->Tp C' t ns->lu C' t q M->j4 [t,q] (gQ C9 a3 (.lst [PV.int 3,PV.int 1])) C' ->
   V5 [.ref t,.int 3] C' fun v C1=>XR [.ref t,v] C1 fun c4 C2=>sY (uV 9) fM (Ie (mK (uV 0) (mK (dB (QG 1) (mK (uV 1) (mK (uV 7) (mK (Ie fU) (mK (cC (.int 1)) fU))))) fU))) [some (.ref t),some (.ref aa),some (.int (k:Nat)),some (.bl ak),some (.int m),some (.ref B),some (.ref q),some (.tup (fs.map qY)),some (.tup (Ln.kj I)),some c4,none] C2 fun cu C3=>jB [cu] C3 fun c5 C4=>vg (.ref aa) (.int (k:Nat)) C4 fun cz C5=>4<=sizeLine/\R (.tup [cz,.tup (fs.map qY),c5,.tup (Ln.kj I)]) C5:=by
  intro I M C' h1 h2 h3 U T' k' x';refine⟨t,3,ns,rfl,T',by decide,by decide,fun v c8 a4 bw b2 b7=>?_⟩;refine⟨t,v,ns,rfl,b2,a4,by lia,fun dh ws bz bp df wt de nd b3 b8=>?_⟩
  apply Dq bp rfl
  have a9:=b7.trans b8;refine iU (β:=Rk) iJ (fun r=>r.ok bs [] 1) (fun ab=>Tp ab t ns/\Ex t bz ab) (fun ab h=>h.2 _ _ wt bp) (by lia) (fun z a6 L ⟨av,ar⟩ Y=>?_) (fun ao a6 c2 ⟨av,ar⟩ bh Z ho=>?_) ⟨b3,Ex.refl⟩
  .refine ⟨y0 0 rfl,?_⟩
   refine⟨t,q,[],ns,M,rfl,av,k'.ex (a9.trans ar),AM _,fun r b0 N b4 b9=>⟨y0 2 rfl,Y r b0 ?_ ⟨b4,ar.trans b9⟩⟩⟩;rw[U.bs,ks.bs] at N;exact N
  .apply xU zQ
   have a8:Ex t C' (gQ a6 c2 (.lst (ao.map iJ))):=(a9.trans ar).trans (Ex.new bh _);have c0:aa≠q:=fun z=>by rw[z,aj] at mn;cases mn
   have cw:C' aa=some (.lst (J.map PV.str)):=x' aa _ (fun z=>by
    rcases AX.1 z with z | z
    .exact nt z
    .exact c0 (AJ.1 z)) (a5 _ _ nt mn)
   refine vZ (a8 _ _ nt cw) (X9 bf) ⟨by decide,?_⟩;exact cc I M C' h1 h2 h3 U T' k' x' ⟨J[k],fs,ao,I⟩ rfl rfl rfl ⟨fun c hc=>⟨ho c hc,nd.2 c.1 (by rw[<- Z];exact AS.2 ⟨c,hc,rfl⟩)⟩,by show(ao.map (·.1)).Nodup;rw[Z];exact nd.1⟩ (by show ao.length<=4;have:=A3 List.length Z;rw[AB] at this;lia) _ (av.new bh _) a8
 have cj:atI [PV.int 3,PV.int 1] (if decide ((((J.map PV.str).length:Nat):Int) > 3)=true then (1:Int) else 0)=some (.int 3)\/atI [PV.int 3,PV.int 1] (if decide ((((J.map PV.str).length:Nat):Int) > 3)=true then (1:Int) else 0)=some (.int 1):=by
  cases decide ((((J.map PV.str).length:Nat):Int) > 3) with
  |false=>exact .inl rfl
  |true=>exact .inr rfl
 rcases cj with aw | aw
 .exact vZ zQ aw (.inl ⟨t,q,[],ns,κ,rfl,a7,bo,bu,fun I M C' h1 h2 h3 U T' k' x'=>rest I M C' (fun x hx=>(h1 x hx).mono (by decide)) h2 h3 U T' k' x'⟩)
 .exact vZ zQ aw (.inr ⟨t,q,[],ns,κ,rfl,a7,bo,bu,fun I M C' h1 h2 h3 U T' k' x'=>rest I M C' (fun x hx=>(h1 x hx).mono (by decide)) h2 h3 U T' k' x'⟩)
end
def pV(g:List Pt):List Str:=g.map (·.name)
structure Km(pts:List Pt):Prop where
 n1:1<=pts.length
 n6:pts.length<=6
 nd:(pV pts).Nodup
 nn:∀s∈pV pts,zZ s=true
 ok:∀k x,pts[k]?=some x->Im ((pV pts).drop (k+1)) (yR k) x
def kS(h:z::zs=((List.range N).drop j).map (fun k:Nat=>PV.int (k:Nat))):j < N/\z=.int j/\zs=((List.range N).drop (j+1)).map (fun k:Nat=>PV.int (k:Nat)) :=by grind[List.drop_of_length_le,List.drop_eq_getElem_cons,List.map_cons,List.getElem_range,List.length_range]
section
variable {W:Wd}{a:Adr}
inductive XU(ts:List PV)(C:CH)(Q:K1):Prop
 |mk(t:Addr)(ns:List Int)(z0:ts=[.ref t])(z1:Tp C t ns)(z2:∀(pts:List Pt)(C':CH),Km pts->Tp C' t ns->Ex t C C'->Q (.tup (pts.map Pt.pv)) C')
def Vw(T:Tx W a):Ok W a 26 48 U9 XU:=by
 have S:=(T.F 48 rfl).s;have eQ:=(bK T).mono (show 1<=25 by decide);have vK:=(xM T).mono (show 2<=25 by decide);have W0:=yg T
 refine(T.F 48 rfl).ok (fun ts C R h=>?_) fun ak A aq s H E I=>⟨_,(xQ (jb 1 S.nd (cf (T.F 35 rfl) vK I (qQ (cv 0) (dN (cx (mQ (qQ jQ (qQ jQ (qQ jQ (qQ jQ (qQ jQ (qQ jQ (qQ jQ (dN jQ))))))))) (cf (T.F 34 rfl) eQ I (qQ (cv 0) (dN jQ))))))))
  (xQ (jb 2 S.nd (jJ fX qX (cf (T.F 34 rfl) eQ I (qQ (cv 0) (dN jQ))) jQ (oJ _)))
  (kQ (uQ (t6 T.hZ (aZ rfl (S.c (by decide +kernel)) (S.k rfl rfl rfl (by decide +kernel)) (xR rfl T.kG (dN (kh T.rZ (cv 1)))) (fun _ _ _ _ _=>lZ) (fun _ _ _ _ _=>(cf (T.F 47 rfl) W0 I (qQ (cv 1) (qQ (cv 2) (qQ (cv 0) (dN (cv 3))))))))))))),?_⟩
 .obtain ⟨t,ns,rfl,_⟩:=h;rfl
 rintro ts C R ⟨t,ns,rfl,hT,ah⟩;refine mX ⟨by decide,fun p1 O=>?_⟩;refine⟨t,8,ns,rfl,hT.new O _,by decide,by decide,fun v C1 ai aj T1 e1=>?_⟩
 apply vZ (e1 p1 _ (hT.ne O) zQ) (oW (ss:=[1,2,2,3,3,4,2,6]) 0 ai aj)
 have ab:1<=([1,2,2,3,3,4,2,6]:List Int).getD v.toNat 0/\([1,2,2,3,3,4,2,6]:List Int).getD v.toNat 0<=6:=by
  have:v=0\/v=1\/v=2\/v=3\/v=4\/v=5\/v=6\/v=7:=by lia
  rcases this with rfl | rfl | rfl | rfl | rfl | rfl | rfl | rfl<;>decide
 generalize ([1,2,2,3,3,4,2,6]:List Int).getD v.toNat 0=m at ab ⊢;refine⟨t,m,ns,rfl,T1,by lia,by lia,fun af q C2 m2 n2 Z ao nd T2 e2=>?_⟩;refine mX ⟨t,2,ns,rfl,T2,by decide,by decide,fun z C3 z0 z1 T3 e3=>?_⟩
 apply fQ (zX _ _)
 have m3:=e3 _ _ Z m2
 apply eK m3
 rw[AB];refine⟨by lia,by lia,?_⟩;rw[Bp];refine vW (fun zs M C'=>Tp C' t ns/\Ex t C3 C'/\∃g:List Pt,M=g.map Pt.pv/\zs=((List.range q.length).drop g.length).map (fun k:Nat=>PV.int (k:Nat))/\g.length<=q.length/\pV g=q.take g.length/\∀k x,g[k]?=some x->Im (q.drop (k+1)) (yR k) x) ?_ ?_ _ _ _ ⟨T3,Ex.refl,[],rfl,rfl,AM _,rfl,(fun k x h=>by simp at h)⟩
 .rintro x r M C4 ⟨J,D,g,rfl,hz,ae,U,Y⟩ L hL
  obtain⟨hj,rfl,rfl⟩:=kS hz;refine⟨t,af,ns,q,g.length,_,rfl,J,D _ _ Z m3,Z,by lia,hj,fun x C5 hx ag T5 e5=>hL _ _ ⟨?_,T5,D.trans e5,g++[x],by rw[AN];rfl,by rw[AA,Aq],by rw[AA,Aq];lia,?_,fun k y B=>?_⟩⟩
  .rw [AB]
   exact AK (show g.length < 7 by lia) (by decide)
  .rw [AA,Aq,List.take_add_one,<- U,hx]
   delta pV
   rw[AN]
   rfl
  .rcases Nat.lt_trichotomy k g.length with h | h | h
   .rw [Bw h] at B
    exact Y k y B
   .subst h
    rw[A8 (AO _),Nat.sub_self] at B;cases B;exact ag
   .rw [List.getElem?_eq_none (by rw[AA,Aq];lia)] at B
    cases B
 .rintro M C4 ⟨J,D,g,rfl,hz,ae,U,Y⟩ p hp
  have aa:g.length=q.length:=by
   rcases Nat.lt_or_ge g.length q.length with h | h
   .rw [A6 (by rwa [A5])] at hz
    cases hz
   .lia
  apply xU zQ
  have N:pV g=q:=by rw[U,aa,CN (AO _)]
  exact ah g _ ⟨by lia,by lia,by rw[N];exact nd.1,fun s hs=>(nd.2 s (by rwa [N] at hs)),fun k x hk=>N▸Y k x hk⟩ (J.new hp _) ((((((Ex.new O _).trans e1).trans e2).trans e3).trans D).trans (Ex.new hp _))
end
def nb(z:Str):Prop:=32∉z.cps.toList
theorem Xa:∀{x y A B:List Nat},32∉x->32∉y->x++32::A=y++32::B->x=y/\A=B
 |[],[],A,B,_,_,e=>⟨rfl,(Ab e).2⟩
 |[],b::y,A,B,_,h,e=>absurd (Ab e).1 (fun z=>h (z▸AI))
 |a::x,[],A,B,h,_,e=>absurd (Ab e).1 (fun z=>h (z▸AI))
 |a::x,b::y,A,B,h,h',e=>by
  obtain⟨g,q⟩:=Ab e;obtain⟨D,I⟩:=Xa (fun z=>h (AF _ z)) (fun z=>h' (AF _ z)) q;exact⟨by rw[g,D],I⟩
def ZZ(x y:Str):(x++y).cps.toList=x.cps.toList++y.cps.toList:=Array.toList_append
def nD(x y:Str)(r:List Str):(Str.join " " (x::y::r)).cps.toList=x.cps.toList++32::(Str.join " " (y::r)).cps.toList:=by
 show(x ++ " " ++ Str.join " " (y::r)).cps.toList=_;rw[ZZ,ZZ,AG]
 rfl
def xE{x y:Str}(h:x.cps.toList=y.cps.toList):x=y:=Str.ext' (Array.toList_inj.mp h)
theorem Qv:∀(us ws:List Str),us≠[]->ws≠[]->(∀w∈us,nb w)->(∀w∈ws,nb w)->Str.join " " us=Str.join " " ws->us=ws
 |[],_,h,_,_,_,_=>absurd rfl h
 |_,[],_,h,_,_,_=>absurd rfl h
 |[x],[y],_,_,_,_,e=>by rw[show x=y from e]
 |[x],y::z::r,_,_,h,_,e=>by
  have e:=A3 (fun s:Str=>s.cps.toList) e;rw[nD] at e;exact absurd (show 32∈x.cps.toList from(show x.cps.toList=_ from e)▸by simp) (h x AI)
 |x::z::r,[y],_,_,_,h,e=>by
  have e:=A3 (fun s:Str=>s.cps.toList) e;rw[nD] at e;exact absurd (show 32∈y.cps.toList from(show _=y.cps.toList from e)▸by simp) (h y AI)
 |x::I::r,y::J::D,_,_,h,h',e=>by
  have e:=A3 (fun s:Str=>s.cps.toList) e;rw[nD,nD] at e;obtain⟨q,B⟩:=Xa (h x AI) (h' y AI) e;have:=Qv (I::r) (J::D) (fun z=>nomatch z) (fun z=>nomatch z) (fun w g=>h w (AF _ g)) (fun w g=>h' w (AF _ g)) (xE B);rw[xE q,this]
def KI(x y:Str):Txt.split x y≠[]:=by
 unfold Txt.split
 split
 .exact fun z=>nomatch z
 .split
  .exact fun z=>nomatch z
  .unfold Builtin.Str.partsBetween
   intro z;have:=A3 List.length z
   simp at this
def Xr{ws:List Str}(h:ws≠[])(g:∀w∈ws,nb w):Txt.split (Str.join " " ws) " " = ws :=
 Qv _ _ (KI _ _) h (fun w q=>StrLaws.split_free (Str.join " " ws) 32 w q) g (StrLaws.join_split _ _)
def Jq(z:Str):(Builtin.Str.partsBetween z (Builtin.Str.occurrences z " " 0 z.length (z.length+1)) (" " : Str).length).length<=z.length+2:=by
 unfold Builtin.Str.partsBetween;have:=StrLaws.occ_length_le z " " 0 z.length (z.length+1)
 simp
 omega
def qj(m:Nat):List Nat:=(Nat.toDigits 10 m).map Char.toNat
def oB(m:Nat):(jw (m:Nat)).cps.toList=qj m:=PySem.W.KIN.signs_num m
def bL(m:Nat):(jw (Int.negSucc m)).cps.toList=45::qj (m+1):=by
 show(Str.ofString (toString (Int.negSucc m))).cps.toList=_;rw[PyProof.Rows.signs_ofString];show("-" ++ Nat.repr (m+1)).toList.map Char.toNat=_;rw[String.toList_append,Nat.toList_repr]
 rfl
def aM(m:Nat):NumText.AllDigits (qj m):=by
 intro c g;obtain⟨ch,q,e⟩:=AS.mp g;have r:=PyProof.Rows.digit_range (Nat.isDigit_of_mem_toDigits (by decide) (by decide) q);rw[<- e];exact r
def X1(m:Nat):qj m≠[]:=by
 intro e;have h:=PySem.toDigits_len_ge 10 m;rw[List.map_eq_nil_iff.mp e] at h;exact absurd h (by decide)
def ZT(m:Nat):NumText.digitsVal (qj m)=m:=PySem.W.KIN.val_back m
def fA{m:Nat}(h:m<=1000000000):(qj m).length<=10:=by
 have:=PySem.W.KT.len_num (n:=(m:Nat)) (by omega) (by omega)
 have e:(Str.ofString (toString ((m:Nat):Int))).length=(qj m).length:=by
  rw[<- oB];rfl
 omega
def rD{i:Int}(h0 : -1000000000<=i)(h1:i<=1000000000):(jw i).length<=11/\PySem.intText? (jw i)=some i:=by
 rcases i with m | m
 .have h1:(m:Int)<=1000000000:=h1
  have l:(jw (m:Nat)).length<=10:=by
   have:(jw (m:Nat)).length=(qj m).length:=by rw[<- oB];rfl
   have:=fA (m:=m) (by omega);omega
  refine⟨by show(jw (m:Nat)).length<=11;omega,?_⟩;show PySem.intText? (jw (m:Nat))=some ((m:Nat):Int);have e:=intText_digits (x:=jw (m:Nat)) (by rw[oB];exact aM m) (by rw[oB];exact X1 m) (by omega);rw[e,oB,ZT]
 .have l:(jw (Int.negSucc m)).length=(qj (m+1)).length+1:=by
   have:(jw (Int.negSucc m)).length=(jw (Int.negSucc m)).cps.toList.length:=rfl;rw[this,bL,AD]
  have g:=fA (m:=m+1) (by omega);refine⟨by omega,?_⟩;have e:=intText_neg (bL m) (aM _) (X1 _) (by omega);rw[e,ZT]
  rfl
def Q9(z:Str):WK z "-" = true↔z.cps.toList[0]?=some 45:=by
 rw[<- StrLaws.subAt_one z 45 0];show(decide (0+("-" : Str).length<=z.length)&&Builtin.Str.subAt z "-" 0)=true↔_;rw[Ax,decide_eq_true_eq];exact Iff.rfl
def JX(i:Int):Str:=⟨(qj i.natAbs).toArray⟩
def uA{i:Int}:(i < 0->WK (jw i) "-" = true/\Txt.slice (jw i) (some 1) none=JX i)/\(0<=i->WK (jw i) "-" = false/\jw i=JX i):=by
 rcases i with m | m
 .refine ⟨fun h=>absurd h (by show ¬ ((m:Int) < 0);omega),fun _=>⟨?_,?_⟩⟩
  .rw [Bool.eq_false_iff]
   intro h;have h:=(Q9 _).1 h;rw[show(jw (Int.ofNat m)).cps.toList=qj m from oB m] at h;have:=aM m 45 (Ao h);omega
  .exact xE (by rw[show(jw (Int.ofNat m)).cps.toList=qj m from oB m];rfl)
 .refine ⟨fun _=>⟨(Q9 _).2 (by rw[bL];rfl),?_⟩,fun h=>absurd h (by omega)⟩
  have l:(jw (Int.negSucc m)).cps.toList.length=(qj (m+1)).length+1:=by rw[bL,AD]
  have e:Txt.slice (jw (Int.negSucc m)) (some 1) none=_:=StrLaws.sliceText_from (x:=jw (Int.negSucc m)) (i:=1) ⟨by decide,by omega⟩;rw[e]
  apply xE
  show List.take _ (List.drop 1 _)=qj (m+1);rw[bL];show List.take _ (qj (m+1))=_;exact CN (by simp)
def ZP(c:Nat):Bool:=!(Builtin.Str.occurrences ("0123456789" : Str) ⟨#[c]⟩ 0 ("0123456789" : Str).length 1).isEmpty
def Hy{c:Nat}(h:48<=c/\c<=57):ZP c=true:=by
 have:=(by decide +kernel:∀c∈List.range' 48 10,ZP c=true);exact this c (by rw[List.mem_range'_1];omega)
def G7(i:Int):nb (jw i):=by
 rcases i with m | m
 .show 32∉(jw (m:Nat)).cps.toList
  rw[oB];exact fun h=>by have:=aM m 32 h;omega
 .unfold nb
  rw[bL];intro h
  rcases AX.1 h with h | h
  .cases h
  .have:=aM _ 32 h;omega
section
variable {W:Wd}{a:Adr}
def iE(i:Int):Bool:=decide (-1000000000<=i)&&decide (i<=1000000000)
inductive RK(ts:List PV)(C:CH)(Q:K1):Prop
 |mk(i:Int)(z0:ts=[.int i])(z2:Q (.bl (iE i)) C)
def zY(T:Tx W a){k:Nat}:Ok W a (k+1) 0 ["thing"] RK:=by
 have S:=(T.F 0 rfl).s
 refine(T.F 0 rfl).ok (fun ts C R h=>?_) fun B A I s H E D=>⟨_,(xQ (nQ (iz (jl (bX (gX uX iZ rfl T.kX rfl (qQ (cv 0) (dN (aK rfl T.Xl rfl))))) (je (sX (bX (gX uX iZ rfl T.kX rfl (qQ (cv 0) (dN (aK rfl T.wF rfl))))))))) (kQ (uQ fZ)) dQ)
  (kQ (uQ (Ww yF yF aG aG (aW iK rJ (oX (v:=.int 1000000000) rfl T.V6 ⟨_,rfl⟩ (fun _=>.int _))) (cv 0) (oX (v:=.int 1000000000) rfl T.V6 ⟨_,rfl⟩ (fun _=>.int _)))))),?_⟩
 .obtain ⟨_,rfl,_⟩:=h;rfl
 rintro ts C R ⟨i,rfl,q⟩;refine iX rfl rfl (cQ rfl (iX rfl rfl (wZ (lQ (jo (lJ (fun g=>?_) fun g=>?_))))))
 .apply jo
  have e:iE i=decide (i<=1000000000):=by show(decide (-1000000000<=i)&&decide (i<=1000000000))=_;rw[g];rfl
  rwa [e] at q
 .have e:iE i=false:=by show(decide (-1000000000<=i)&&decide (i<=1000000000))=_;rw[g];rfl
  rwa [e] at q
def Bd(i:Int):Prop:=-1000000000<=i/\i<=1000000000
inductive Pz(ts:List PV)(C:CH)(Q:K1):Prop
 |mk(i:Int)(z0:ts=[.str (jw i)])(zb:Bd i)(z1:∀C',Gr C C'->Q (.int i) C')
def Ew(T:Tx W a){k:Nat}:Ok W a (k+2) 23 ["word"] Pz:=by
 have S:=(T.F 23 rfl).s
 refine(T.F 23 rfl).ok (fun ts C R h=>?_) fun aa A ae s H E D=>⟨_,(xQ (jb 1 S.nd (rP (bX (J6 (cv 0) wQ)) (HY (cv 0) (bW jQ) cG) (cv 0)))
  (xQ (nQ (iz (jl (sX (eD yF yF aG aG jQ (kh T.rZ (cv 1)) (oX (v:=.int 10) (t:=.int 10) rfl T.uS ⟨_,rfl⟩ (fun _=>.int _)))) (je (sX (bX (gX (nW rfl) lG rfl T.vP rfl (dN (aZ rfl (S.c (by decide +kernel)) (S.k (L:=0) rfl rfl rfl (by decide +kernel)) (Wp (cv 1)) (fun _ _ _ _ _=>lZ) (fun _ _ _ _ _=>(jJ rT Z0 (cv 0) (oX (v:=.str "0123456789") rfl T.V4 ⟨_,rfl⟩ (fun _=>.str _)) rfl)))))))))) (kQ (uQ eJ)) dQ)
  (xQ (jb 2 S.nd (dZ dO Q6 rfl T.wF rfl (dN (cv 0))))
  (kQ (uQ (rP (iz (jm (bX (cf (T.F 0 rfl) (zY (k:=k) T) D (dN (cv 2)))) (jh (ct2 fX qX (dZ zK rY rfl T.lB rfl (dN (cv 2))) (cv 0))))) (cv 2) eJ)))))),?_⟩
 .obtain ⟨_,rfl,_⟩:=h;rfl
 rintro ts C R ⟨i,rfl,B,q⟩;obtain⟨M,D⟩:=rD B.1 B.2;have sl:(jw i).length<=sizeLine:=AR M (by decide);refine lX (fun N C'=>N=[some (.str (jw i)),some (.str (JX i)),none]/\C'=C) (fun L J=>?_) ?_
 .refine ⟨jw i,rfl,"-",rfl,lJ (fun e=>?_) fun e=>?_⟩
  .have h0:i < 0:=by
    rcases Int.lt_or_le i 0 with h | h
    .exact h
    .rw [(uA.2 h).1] at e;cases e
   refine Lg sl ?_;rw[(uA.1 h0).2];exact J _ _ ⟨rfl,rfl⟩
  .have h0:0<=i:=by
    rcases Int.lt_or_le i 0 with h | h
    .rw [(uA.1 h).1] at e;cases e
    .exact h
   exact J _ _ ⟨by rw[<- (uA.2 h0).2];rfl,rfl⟩
 rintro N C' ⟨rfl,rfl⟩;have O:(JX i).length=(qj i.natAbs).length:=rfl;have I:=fA (m:=i.natAbs) (by have:=B.1;have:=B.2;omega)
 have ab:1<=(qj i.natAbs).length:=by
  rcases Nat.eq_zero_or_pos (qj i.natAbs).length with z | z
  .exact absurd (Be.1 z) (X1 _)
  .exact z
 refine aJ (Fi (by rw[O];exact AR I (by decide)) (jo (tX (Ai (by omega)) (jo ?_))));rw[show decide ((((JX i).length:Nat):Int)<=10)=true from Ai (by omega)];refine wZ (oV (fun s=>match s with | .str u=>.bl (!(Builtin.Str.occurrences ("0123456789" : Str) u 0 ("0123456789" : Str).length 1).isEmpty) | _=>.non) (uB (JX i)) [] C' Gr.refl ?_ (fun x Z C1 Q' g Y=>?_) fun p C1 h3 g m=>?_)
 .delta uB
  rw[AB,A9,BZ];show(qj i.natAbs).length<=_;exact AR I (by decide)
 .obtain ⟨c,_,rfl⟩:=AS.1 Z
  exact Fp (Y C1 Gr.refl)
 .refine WT (bs:=(qj i.natAbs).map ZP) (by rw[m];delta uB;rw[Aj,Aj];rfl) ?_
  rw[show((qj i.natAbs).map ZP).all id=true from by
   rw[List.all_map,BR]
   exact fun c U=>Hy (aM _ c U)]
  refine wZ (lQ ?_);refine⟨jw i,i,rfl,AR M (by decide),D,?_⟩;dsimp only[ig.wn];refine RK.mk i rfl (tX (by show(decide (-1000000000<=i)&&decide (i<=1000000000))=true;rw[Ai B.1,Ai B.2];rfl) (fF (by have:=B.1;have:=B.2;omega) (fQ (b:=true) ?_ (q _ g))));rw[yQ];exact A3 some (Ai rfl)
end
def Rk.ie:Rk->List Str
 |.num i=>[jw i]
 |.turn n=>["turn",n]
 |.ask s n=>[s,n]
 |.bin w x y=>w::(x.ie++y.ie)
 |.pick x y z=>"pick" :: (x.ie++(y.ie++z.ie))
def jj:Option Rk->List Str
 |none=>["-"]
 |some r=>r.ie
def o5(w:Str)(c:Str×Rk):List Str:=w::c.1::c.2.ie
def vf(c:Str×Str×Rk):List Str:="change" :: c.1::c.2.1::c.2.2.ie
def eW(b:Bool):Str:=if b=true then "last" else "on"
def Hd.ie(h:Hd):List (List Str):=["hand",h.ev,jw h.rank,eW h.last]::h.ch.map vf
mutual
def Ln.rows:Ln->List (List Str)
 |.plain k I s h q=>("plain" :: I::jj k)::(s.map (o5 "set")++(h.flatMap Hd.ie++(Ln.ik q++[[("end" : Str)]])))
 |.part k n g=>("draw" :: n::jj k)::g.map (o5 "with")
 |.give k n r q=>("give" :: n::(r.ie++jj k))::(Ln.ik q++[[("end" : Str)]])
 |.when r B D=>("when" :: r.ie)::(Ln.ik B++([("else" : Str)]::(Ln.ik D++[[("end" : Str)]])))
 |.each n r q=>("each" :: n::r.ie)::(Ln.ik q++[[("end" : Str)]])
def Ln.ik:List Ln->List (List Str)
 |[]=>[]
 |l::q=>l.rows++Ln.ik q
end
def FZ(c:Str×Int):List Str:=["box",c.1,jw c.2]
def Pt.rows(x:Pt):List (List Str):=["part",x.name]::(x.first.map FZ++(x.works.map (o5 "work")++Ln.ik x.ls))
def nX(g:List Pt):List (List Str):=g.flatMap Pt.rows
def iQ(ws:List Str):Str:=Str.join " " ws
def xV(xs:List Str){ys:List Str}(h:ys≠[]):iQ (xs++[iQ ys])=iQ (xs++ys):=by
 induction xs with
 |nil=>rfl
 |cons x xs g =>
  cases xs with
  |nil =>
   cases ys with
   |nil=>exact absurd rfl h
   |cons y ys=>rfl
  |cons q xs=>exact A3 (fun z=>x ++ " " ++ z) g
theorem Rk.lz:∀r:Rk,r.ie≠[]
 |.num _=>fun z=>nomatch z
 |.turn _=>fun z=>nomatch z
 |.ask _ _=>fun z=>nomatch z
 |.bin _ _ _=>fun z=>nomatch z
 |.pick _ _ _=>fun z=>nomatch z
theorem oE:∀k,jj k≠[]
 |none=>fun z=>nomatch z
 |some r=>r.lz
structure Wo(w:Str):Prop where
 nb:nb w
 len:w.length<=11
def VS:QE 32=false:=by decide +kernel
def gJ{z:Str}(h:zZ z=true):Wo z:=by
 refine⟨fun hz=>?_,AR (OD h) (by decide)⟩
 have h2:z.cps.toList.all QE=true:=by
  unfold zZ at h;rw[Ax] at h;exact h.2
 have:=BR.1 h2 32 hz;rw[VS] at this;cases this
def kM{i:Int}(h:Bd i):Wo (jw i):=⟨G7 i,(rD h.1 h.2).1⟩
structure qz(bs τ:List Str):Prop where
 b:∀s∈bs,zZ s=true
 t:∀s∈τ,zZ s=true
def Zb:∀s∈(["a","ab","b"]:List Str),zZ s=true:=by decide +kernel
def Ks:∀w∈(["turn","take","down","box","add","times","less","pick","num","-","plain","draw","give","when","each","set","with","work","hand","change","last","on","part","end","else","1","2","3"]:List Str),decide (32∉w.cps.toList)=true/\w.length<=11:=by decide +kernel
def yZ{w:Str}(h:w∈(["turn","take","down","box","add","times","less","pick","num","-","plain","draw","give","when","each","set","with","work","hand","change","last","on","part","end","else","1","2","3"]:List Str)):Wo w:=⟨Af (p:=32∉w.cps.toList) (Ks w h).1,(Ks w h).2⟩
def WR{bs τ:List Str}(N:qz bs τ){s n:Str}(h:WS bs s n):(s = "take"\/s = "down"\/s = "box")/\zZ n=true:=by
 rcases h with ⟨h,h'⟩ | ⟨h,h'⟩
 .exact ⟨by rcases h with h | h;exact .inl h;exact .inr (.inl h),Zb n h'⟩
 .exact ⟨.inr (.inr h),N.b n h'⟩
def wb:Nat->Nat
 |0=>2
 |d+1=>1+3 * wb d
theorem Ku:∀d,2<=wb d
 |0=>AO _
 |d+1=>by have:=Ku d;show 2<=1+3 * wb d;omega
def Rk.words{bs τ:List Str}(N:qz bs τ):∀{d:Nat}{r:Rk},r.ok bs τ d->(∀w∈r.ie,Wo w)/\r.ie.length<=wb d:=by
 intro d
 have J:∀{d:Nat}{r:Rk},r.ok bs τ 0->(∀w∈r.ie,Wo w)/\r.ie.length<=wb d:=by
  intro d r h;have U:=Ku d
  cases r with
  |num i=>exact⟨fun w q=>by rw[AJ.1 q];exact kM h,by show 1<=wb d;omega⟩
  |turn n =>
   refine⟨fun w q=>?_,by show 2<=wb d;omega⟩
   rcases AX.1 q with rfl | q
   .exact yZ (by decide +kernel)
   .rw [AJ.1 q];exact gJ (N.t n h)
  |ask s n =>
   obtain⟨hs,S⟩:=WR N h;refine⟨fun w q=>?_,by show 2<=wb d;omega⟩
   rcases AX.1 q with rfl | q
   .rcases hs with rfl | rfl | rfl<;>exact yZ (by decide +kernel)
   .rw [AJ.1 q];exact gJ S
  |bin w x y=>exact h.elim
  |pick x y z=>exact h.elim
 induction d with
 |zero=>exact fun h=>J h
 |succ d B =>
  intro r h
  cases r with
  |num i=>exact J (d:=d+1) (r:=.num i) h
  |turn n=>exact J (d:=d+1) (r:=.turn n) h
  |ask s n=>exact J (d:=d+1) (r:=.ask s n) h
  |bin w x y =>
   obtain⟨q,L,M⟩:=h;have D:=B L;have I:=B M;refine⟨fun u g=>?_,by show(w::(x.ie++y.ie)).length<=1+3 * wb d;rw[AD,AA];have:=D.2;have:=I.2;omega⟩
   rcases AX.1 g with rfl | g
   .rcases q with rfl | rfl | rfl<;>exact yZ (by decide +kernel)
   .rcases AQ.1 g with g | g
    .exact D.1 u g
    .exact I.1 u g
  |pick x y z =>
   obtain⟨L,M,hz⟩:=h;have D:=B L;have I:=B M;have O:=B hz;refine⟨fun u g=>?_,by show((("pick" : Str))::(x.ie++(y.ie++z.ie))).length<=1+3 * wb d;rw[AD,AA,AA];have:=D.2;have:=I.2;have:=O.2;omega⟩
   rcases AX.1 g with rfl | g
   .exact yZ (by decide +kernel)
   .rcases AQ.1 g with g | g
    .exact D.1 u g
    .rcases AQ.1 g with g | g
     .exact I.1 u g
     .exact O.1 u g
def KF{ws:List Str}(h:∀w∈ws,w.length<=11):(ws.map (·.length)).sum<=11 * ws.length:=by
 induction ws with
 |nil=>exact AO _
 |cons w ws q =>
  have:=q fun u g=>h u (AF _ g);have:=h w AI;rw[Ak,List.sum_cons,AD];omega
def vE{ws:List Str}(h:∀w∈ws,Wo w):(iQ ws).length<=12 * ws.length:=by
 have:=StrLaws.join_length_le " " ws;have:=KF fun w g=>(h w g).len;have e:ws.length * (" " : Str).length=ws.length:=Nat.mul_one _;show(Str.join " " ws).length<=_;omega
def Rk.gd:Rk->Prop
 |.num i=>Bd i
 |.turn n=>zZ n=true
 |.ask s n=>(s = "take"\/s = "down"\/s = "box")/\zZ n=true
 |.bin w x y=>(w = "add"\/w = "times"\/w = "less")/\x.gd/\y.gd
 |.pick x y z=>x.gd/\y.gd/\z.gd
theorem Rk.o7{bs τ:List Str}(N:qz bs τ):∀{d:Nat}{r:Rk},r.ok bs τ d->r.gd
 |_,.num i,h=>by unfold Rk.ok at h;exact h
 |_,.turn n,h=>by unfold Rk.ok at h;exact N.t n h
 |_,.ask s n,h=>by unfold Rk.ok at h;exact WR N h
 |0,.bin _ _ _,h=>h.elim
 |0,.pick _ _ _,h=>h.elim
 |d+1,.bin w x y,h=>⟨h.1,Rk.o7 N h.2.1,Rk.o7 N h.2.2⟩
 |d+1,.pick x y z,h=>⟨Rk.o7 N h.1,Rk.o7 N h.2.1,Rk.o7 N h.2.2⟩
theorem Rk.wo:∀{r:Rk},r.gd->∀w∈r.ie,Wo w
 |.num i,h,w,g=>by rw[AJ.1 g];exact kM h
 |.turn n,h,w,g=>by
  rcases AX.1 g with rfl | g
  .exact yZ (by decide +kernel)
  .rw [AJ.1 g];exact gJ h
 |.ask s n,h,w,g=>by
  rcases AX.1 g with rfl | g
  .rcases h.1 with rfl | rfl | rfl<;>exact yZ (by decide +kernel)
  .rw [AJ.1 g];exact gJ h.2
 |.bin u x y,h,w,g=>by
  rcases AX.1 g with rfl | g
  .rcases h.1 with rfl | rfl | rfl<;>exact yZ (by decide +kernel)
  .rcases AQ.1 g with g | g
   .exact Rk.wo h.2.1 w g
   .exact Rk.wo h.2.2 w g
 |.pick x y z,h,w,g=>by
  rcases AX.1 g with rfl | g
  .exact yZ (by decide +kernel)
  .rcases AQ.1 g with g | g
   .exact Rk.wo h.1 w g
   .rcases AQ.1 g with g | g
    .exact Rk.wo h.2.1 w g
    .exact Rk.wo h.2.2 w g
structure Rg(r:Rk):Prop where
 g:r.gd
 l:r.ie.length<=22
def bT{bs τ:List Str}(N:qz bs τ){d:Nat}{r:Rk}(h:r.ok bs τ d)(g:d<=2):Rg r:=by
 refine⟨Rk.o7 N h,AR (Rk.words N h).2 ?_⟩;have:d=0\/d=1\/d=2:=by omega
 rcases this with rfl | rfl | rfl<;>decide
def xK(g:List Rk):List Str:=g.flatMap Rk.ie
section
variable {W:Wd}{a:Adr}
def VN{C:CH}{p:Addr}{ws:List Str}{Q:K1}(m:C p=some (.lst (ws.map PV.str)))(h:∀w∈ws,Wo w)(l:ws.length<=1000)(q:Q (.str (iQ ws)) C):nP (.str " ") [.ref p] C Q:=by
 refine VM m ?_ q;have:=KF fun w g=>(h w g).len;have e:ws.length * (" " : Str).length=ws.length:=Nat.mul_one _;omega
def pN{x:PV}{xs:List PV}{C:CH}{Q:K1}(q:Q (.tup xs) C):DQ (.tup (x::xs)) (some 1) none C Q:=by
 unfold DQ
 have g:HT.sIx (x::xs).length 0 (some (1:Int))=1:=by
  rw[show(1:Int)=((1:Nat):Int) from rfl,HT.sIx_nat]
  simp
 refine⟨fun z=>by rw[g] at z;exact absurd z.1 (by decide),?_⟩
 have B:xF (x::xs) (some 1) none=xs:=by
  unfold xF;rw[g,HT.sIx_none];show List.take _ xs=xs;exact CN (by simp)
 rw[B];exact q
inductive Ft(ts:List PV)(C:CH)(Q:K1):Prop
 |mk(r:Rk)(z0:ts=[r.pv])(zg:Rg r)(z1:∀C',Gr C C'->Q (.str (iQ r.ie)) C')
def Zz(T:Tx W a){k:Nat}:Ok W a (k+1) 22 ["reckoning"] Ft:=by
 have S:=(T.F 22 rfl).s
 refine(T.F 22 rfl).ok (fun ts C R h=>?_) fun ay A a3 s H E au=>⟨_,(xQ (jb 1 S.nd (mQ aX))
  (xQ (jb 2 S.nd (mQ (dN (cv 0))))
  (xQ (bU PassesOwn.never (iC (cv 2)) (xQ (jb 3 S.nd (mM AY BK BJ cF qB (cv 2)))
  (kQ (nQ (ct2 fX qX (cx (cv 3) jQ) wQ) (kQ (wX (cap (cv 1) (dZ zK rY rfl T.lB rfl (dN (cx (cv 3) jQ)))))) (kQ (nQ (rK (vU (gZ au)) iM (cx (cv 3) jQ) (oX (v:=.ref a.NAMING) (t:=.kt [.str "take",.str "box",.str "down",.str "turn"]) rfl T.xA rfl (fun H=>.kt (T.mE H) (.cons (.str _) (.cons (.str _) (.cons (.str _) (.cons (.str _) .nil)))))) rfl) (kQ (wX (lY AY As Ar (fun p s σ H x vs v us Q=>XE p s σ H x vs v us Q) Q3 (cv 1) (dN (cv 3))))) (xQ (wX (cap (cv 1) (cx (cv 3) jQ)))
  (kQ (wX (lY AY As Ar (fun p s σ H x vs v us Q=>tJ p s σ H x vs v us Q) bJ (cv 2) (dN (Q5 rfl rfl rfl T.wL T.iH (X6 (cv 3) (bW jQ) cG)))))))))))))
  (kQ (uQ (tK wQ (cv 1))))))),?_⟩
 .obtain ⟨_,rfl,_⟩:=h;rfl
 rintro ts C R ⟨r,rfl,hg,ax⟩;refine⟨AM _,fun B ai=>⟨y0 1 rfl,fun D ht=>?_⟩⟩;have O:B≠D:=fun z=>by rw[z,zQ] at ht;cases ht
 have af:C D=none:=by rwa [vQ O.symm] at ht
 have g0:Gr C (gQ (gQ C B (.lst [])) D (.lst [r.pv])):=(Gr.new ai _).trans (Gr.new ht _);dsimp only[ig.wn];refine lX (fun ak C'=>∃x3,ak=[some r.pv,some (.ref B),some (.ref D),x3]/\C' B=some (.lst (r.ie.map PV.str))/\Gr C C') (fun L hL=>?_) ?_
 .refine ⟨r.ie.length+1,cU (fun n ρ C'=>∃I q x3,n=(xK q).length/\I++xK q=r.ie/\(∀x∈q,x.gd)/\ρ=[some r.pv,some (.ref B),some (.ref D),x3]/\C' B=some (.lst (I.map PV.str))/\C' D=some (.lst (q.map Rk.pv).reverse)/\q.length<=22/\Gr C C') ?_ _ (r.ie.length) _ _ (BB _) ⟨[],[r],_,by show _=(r.ie++[]).length;rw[AH],by show[]++(r.ie++[])=_;rw[AH];rfl,fun x M=>by rw[AJ.1 M];exact hg.g,rfl,(vQ O).trans zQ,zQ,by show 1<=22;decide,g0⟩⟩
  rintro n ρ C' L1 ⟨I,q,x3,rfl,ed,ah,rfl,mw,ae,hl,g⟩ ar;refine nI rfl ae ?_
  cases q with
  |nil =>
   refine xG rfl ?_;rw[show I=r.ie from by rw[<- ed];show _=I++[];rw[AH]] at mw;exact hL _ _ ⟨_,rfl,mw,g⟩
  |cons x q =>
   rw[Ak,A4] at ae ⊢;refine XQ (by cases h:(q.map Rk.pv).reverse<;>rfl) ?_;have az:I.length+(x.ie.length+(xK q).length)=r.ie.length:=by rw[<- ed,AA];show _=_+(x.ie++xK q).length;rw[AA]
   have a4:=hg.l;refine⟨qZ ae,eN ae (y:=x.pv) (by simp) ?_⟩;rw[BN];dsimp only[ig.wn];have N:gQ C' D (.lst (q.map Rk.pv).reverse) B=some (.lst (I.map PV.str)):=(vQ O).trans mw;have aa:gQ C' D (.lst (q.map Rk.pv).reverse) D=some (.lst (q.map Rk.pv).reverse):=zQ;have ao:Gr C (gQ C' D (.lst (q.map Rk.pv).reverse)):=fun b o J=>(vQ (rX af J)).trans (g _ _ J);generalize gQ C' D (.lst (q.map Rk.pv).reverse)=C1 at *
   have M:=ah x AI;have av:∀y∈q,y.gd:=fun y hy=>ah y (AF _ hy);have Z:∀{o:CO},Gr C (gQ C1 B o):=fun {o}b u J=>(vQ (rX ai J)).trans (ao _ _ J);have aj:I.length+2<=sizeLine:=AR (show I.length+2<=1000 by omega) (by decide)
   have Y:∀(C2:CH)(ws:List Str)(ys:List Rk),ws++xK ys=x.ie->(∀y∈ys,y.gd)->C2 B=some (.lst ((I++ws).map PV.str))->C2 D=some (.lst ((ys++q).map Rk.pv).reverse)->ys.length<=3->Gr C C2->1<=ws.length->L1 [some r.pv,some (.ref B),some (.ref D),some x.pv] C2:=by
    intro C2 ws ys e1 hy m1 m2 ly aq a0;have e2:xK (x::q)=ws++(xK ys++xK q):=by show x.ie++xK q=_;rw[<- e1,AG]
    have e3:xK (ys++q)=xK ys++xK q:=Az;refine ar (xK (ys++q)).length _ _ ?_ ⟨I++ws,ys++q,_,rfl,?_,fun y aw=>?_,rfl,m1,m2,?_,aq⟩
    .rw [e2,e3,AA (as:=ws)];omega
    .rw [e3,AG,<- e2];exact ed
    .rcases AQ.1 aw with h | h
     .exact hy y h
     .exact av y h
    .rw [AA]
     have:∀zs:List Rk,zs.length<=(xK zs).length:=by
      intro zs
      induction zs with
      |nil=>exact AO _
      |cons z zs ih =>
       show zs.length+1<=(z.ie++xK zs).length;rw[AA]
       have:1<=z.ie.length:=by
        rcases Nat.eq_zero_or_pos z.ie.length with h | h
        .exact absurd (Be.1 h) z.lz
        .exact h
       omega
     have h1:=this (ys++q);rw[e3,AA,AA] at h1;have h2:=A3 List.length e1;rw[AA] at h2;omega
   cases x with
   |num i =>
    have hi:Bd i:=M;refine bQ rfl (fQ (yQ _ _) (tX (by decide +kernel) ⟨qZ N,bQ rfl (fF (by have:=hi.1;have:=hi.2;omega) (nK N (by rw[AB];omega) ?_))⟩));exact Y _ [jw i] [] rfl (fun _ z=>nomatch z) (by rw[zQ,AN];rfl) ((vQ O.symm).trans aa) (by decide) Z (by show 1<=1;decide)
   |turn n =>
    refine bQ rfl (fQ (yQ _ _) (cQ (by decide +kernel) (bQ rfl (cK rfl rfl (tX (by decide +kernel) ⟨qZ N,B,_,_,rfl,rfl,N,by rw[AB];exact aj,?_⟩)))));exact Y _ ["turn",n] [] rfl (fun _ z=>nomatch z) (by rw[zQ,AN];rfl) ((vQ O.symm).trans aa) (by decide) Z (by show 1<=2;decide)
   |ask s n =>
    have hs:decide (s = "num")=false/\qA ["take","box","down","turn"] (.str s)=true:=by rcases M.1 with rfl | rfl | rfl<;>decide +kernel
    refine bQ rfl (fQ (yQ _ _) (cQ hs.1 (bQ rfl (cK rfl rfl (tX hs.2 ⟨qZ N,B,_,_,rfl,rfl,N,by rw[AB];exact aj,?_⟩)))));exact Y _ [s,n] [] rfl (fun _ z=>nomatch z) (by rw[zQ,AN];rfl) ((vQ O.symm).trans aa) (by decide) Z (by show 1<=2;decide)
   |bin w y z =>
    have hs:decide (w = "num")=false/\qA ["take","box","down","turn"] (.str w)=false:=by rcases M.1 with rfl | rfl | rfl<;>decide +kernel
    refine bQ rfl (fQ (yQ _ _) (cQ hs.1 (bQ rfl (cK rfl rfl (cQ hs.2 (aJ ⟨qZ N,bQ rfl (nK N (by rw[AB];omega) ?_)⟩))))));have ab:gQ C1 B (.lst (I.map PV.str++[.str w])) D=some (.lst (q.map Rk.pv).reverse):=(vQ O.symm).trans aa;refine⟨qZ ab,pN (ZH fun p' U=>yV (Gr.new U _ _ _ ab) zQ (by rw[A1,AB];exact AR (show q.length+2<=1000 by rw[AD] at hl;omega) (by decide)) ?_)⟩
    have ag:B≠p':=rX U zQ;refine Y _ [w] [y,z] (by show w::(y.ie++(z.ie++[]))=_;rw[AH];rfl) (fun u hu=>?_) ((vQ O).trans ((vQ ag).trans (by rw[zQ,AN];rfl))) (by rw[zQ];simp) (by show 2<=3;decide) (fun b u J=>(vQ (rX af J)).trans (Gr.new U _ _ _ (Z _ _ J))) (by show 1<=1;decide)
    simp only[List.mem_cons,List.not_mem_nil,or_false] at hu
    rcases hu with rfl | rfl
    .exact M.2.1
    .exact M.2.2
   |pick y z v =>
    refine bQ rfl (fQ (yQ _ _) (cQ (by decide +kernel) (bQ rfl (cK rfl rfl (cQ (by decide +kernel) (aJ ⟨qZ N,bQ rfl (nK N (by rw[AB];omega) ?_)⟩))))));have ab:gQ C1 B (.lst (I.map PV.str++[.str "pick"])) D=some (.lst (q.map Rk.pv).reverse):=(vQ O.symm).trans aa;refine⟨qZ ab,pN (ZH fun p' U=>yV (Gr.new U _ _ _ ab) zQ (by rw[A1,AB];exact AR (show q.length+3<=1000 by rw[AD] at hl;omega) (by decide)) ?_)⟩
    have ag:B≠p':=rX U zQ;refine Y _ ["pick"] [y,z,v] (by show("pick" : Str)::(y.ie++(z.ie++(v.ie++[])))=_;rw[AH];rfl) (fun u hu=>?_) ((vQ O).trans ((vQ ag).trans (by rw[zQ,AN];rfl))) (by rw[zQ];simp) (by show 3<=3;decide) (fun b u J=>(vQ (rX af J)).trans (Gr.new U _ _ _ (Z _ _ J))) (by show 1<=1;decide)
    simp only[List.mem_cons,List.not_mem_nil,or_false] at hu
    rcases hu with rfl | rfl | rfl
    .exact M.1
    .exact M.2.1
    .exact M.2.2
 rintro ak C' ⟨x3,rfl,mw,g⟩;exact⟨⟨_,rfl⟩,VN mw (Rk.wo hg.g) (AR hg.l (by decide)) (ax C' g)⟩
end
def rm(k:Option Rk):Prop:=∀r,k=some r->Rg r
def Io(ps:List (Str×Rk)):Prop:=(∀c∈ps,zZ c.1=true/\Rg c.2)/\ps.length<=4
structure Ir(h:Hd):Prop where
 ev:zZ h.ev=true
 r1:1<=h.rank
 r3:h.rank<=3
 ch:∀c∈h.ch,zZ c.1=true/\c.2.1∈(["set","add","times"]:List Str)/\Rg c.2.2
 cl:h.ch.length<=4
def Ln.gd:Nat->Ln->Prop
 |0,_=>False
 |d+1,.plain k I s h q=>(rm k/\zZ I=true)/\(Io s/\(∀x∈h,Ir x)/\h.length<=4)/\(∀x∈q,Ln.gd d x)/\q.length<=6
 |_+1,.part k n g=>(rm k/\zZ n=true)/\Io g
 |d+1,.give k n r q=>(rm k/\zZ n=true)/\Rg r/\(∀x∈q,Ln.gd d x)/\q.length<=6
 |d+1,.when r B D=>Rg r/\((∀x∈B,Ln.gd d x)/\B.length<=6)/\(∀x∈D,Ln.gd d x)/\D.length<=6
 |d+1,.each n r q=>(Rg r/\zZ n=true)/\(∀x∈q,Ln.gd d x)/\q.length<=6
structure Ek(x:Pt):Prop where
 nm:zZ x.name=true
 fs:∀c∈x.first,zZ c.1=true/\Bd c.2
 fl:x.first.length<=4
 wk:Io x.works
 ls:∀l∈x.ls,Ln.gd 6 l
 ll:x.ls.length<=6
 tw:Ln.jk x.ls<=6
def jq(g:List (List Str)):List PV:=g.map fun ws=>PV.str (iQ ws)
def iW(a b:List (List Str)):jq (a++b)=jq a++jq b:=AN
def pJ(a:List (List Str)):(jq a).length=a.length:=AB _
theorem Wo.l{w:Str}(h:Wo w):w.length<=400:=AR h.len (by decide)
def Rg.rl{r:Rk}(h:Rg r):(iQ r.ie).length<=400:=by
 have:=vE (Rk.wo h.g);have:=h.l;omega
def rm.wo{k:Option Rk}(h:rm k):(∀w∈jj k,Wo w)/\(jj k).length<=22:=by
 cases k with
 |none=>exact⟨fun w g=>by rw[AJ.1 g];exact yZ (by decide +kernel),by show 1<=22;decide⟩
 |some r=>exact⟨Rk.wo (h r rfl).g,(h r rfl).l⟩
def rm.rl{k:Option Rk}(h:rm k):(iQ (jj k)).length<=400:=by
 have:=vE h.wo.1;have:=h.wo.2;omega
def fY{C:CH}{p:Addr}{ws:List Str}{Q:K1}(m:C p=some (.lst (ws.map PV.str)))(h:∀w∈ws,w.length<=400)(l:ws.length<=100)(q:Q (.str (iQ ws)) C):nP (.str " ") [.ref p] C Q:=by
 refine VM m ?_ q
 have s:(ws.map (·.length)).sum<=400 * ws.length:=by
  clear m q l
  induction ws with
  |nil=>exact AO _
  |cons w ws B =>
   have:=B fun u g=>h u (AF _ g);have:=h w AI;rw[Ak,List.sum_cons,AD];omega
 have e:ws.length * (" " : Str).length=ws.length:=Nat.mul_one _;omega
def u5(h:Hd):List Str:=["hand",h.ev,jw h.rank,eW h.last]
def sE(b:Bool):Wo (eW b):=by cases b<;>exact yZ (by decide +kernel)
def Lw{b:Bool}{g:List (Option PV)}{C:CH}{Q:K1}(h:Q (.str (eW b)) C):xC (fun b C1=>if b=true then cC (.str "last") g C1 Q else cC (.str "on") g C1 Q) (.bl b) C:=by
 cases b
 .exact h
 .exact h
section
variable {W:Wd}{a:Adr}
inductive O2(ts:List PV)(C:CH)(Q:K1):Prop
 |mk(o:Option Rk)(z0:ts=[pK o])(zg:rm o)(z1:∀C',Gr C C'->Q (.str (iQ (jj o))) C')
theorem yE:∀r:Rk,oU r.pv=false
 |.num _=>rfl
 |.turn _=>rfl
 |.ask _ _=>rfl
 |.bin _ _ _=>rfl
 |.pick _ _ _=>rfl
def Lz(T:Tx W a){k:Nat}:Ok W a (k+2) 21 ["key"] O2:=by
 have S:=(T.F 21 rfl).s;have D:=Zz (k:=k) T;refine(T.F 21 rfl).ok (fun ts C R h=>?_) fun I A J s H E B=>⟨_,(kQ (uQ (rP (ct2 zM dG (cv 0) eJ) wQ (cf (T.F 22 rfl) D B (dN (cv 0)))))),?_⟩
 .obtain ⟨_,rfl,_⟩:=h;rfl
 rintro ts C R ⟨o,rfl,g,q⟩
 cases o with
 |none=>exact(show R (.str "-") C from q C Gr.refl)
 |some r =>
  show(if id (oU r.pv)=true then R (.str "-") C else Ft [r.pv] C R);rw[yE];exact Ft.mk r rfl (g r rfl) q
def nR(C:CH)(xs:List PV)(Q:K1):Prop:=∀p C',C p=none->Gr C C'->C' p=some (.lst xs)->Q (.ref p) C'
inductive O1(ts:List PV)(C:CH)(Q:K1):Prop
 |mk(w:Str)(ps:List (Str×Rk))(z0:ts=[.str w,.tup (ps.map iJ)])(zw:Wo w)(zg:Io ps)(z1:nR C (jq (ps.map (o5 w))) Q)
def Eu(T:Tx W a){k:Nat}:Ok W a (k+2) 26 ["word","pairs"] O1:=by
 have S:=(T.F 26 rfl).s;have xZ:=Zz (k:=k) T;refine(T.F 26 rfl).ok (fun ts C R h=>?_) fun aa A ae s H E U=>⟨_,(kQ (uQ (aZ rfl (S.c (by decide +kernel)) (S.k rfl rfl rfl (by decide +kernel)) (uK (cv 1)) (fun _ _ _ _ _=>lZ) (fun _ _ _ _ _=>(tK wQ (mQ (qQ (cv 1) (qQ (cx (cv 0) jQ) (dN (cf (T.F 22 rfl) xZ U (dN (cx (cv 0) jQ)))))))))))),?_⟩
 .obtain ⟨_,_,rfl,_⟩:=h;rfl
 rintro ts C R ⟨w,ps,rfl,Y,J,q⟩
 have ab:∀x∈ps.map iJ,∃c∈ps,x=iJ c:=fun x Z=>by
  obtain⟨c,B,rfl⟩:=AS.1 Z;exact⟨c,B,rfl⟩
 refine vW (fun zs I C'=>Gr C C'/\∃ds es:List (Str×Rk),ds++es=ps/\zs=es.map iJ/\I=jq (ds.map (o5 w))) ?_ ?_ _ _ _ ⟨Gr.refl,[],ps,rfl,rfl,rfl⟩
 .rintro x zs I C1 ⟨g,ds,es,e,hz,rfl⟩ L O
  cases es with
  |nil=>cases hz
  |cons c es =>
   obtain⟨rfl,rfl⟩:=Ab hz;have B:=J.1 c (by rw[<- e];simp);refine⟨⟨_,rfl⟩,bQ rfl (bQ rfl (Ft.mk c.2 rfl B.2 fun C2 N=>⟨y0 3 rfl,fun p D=>fY (ws:=[w,c.1,iQ c.2.ie]) zQ (fun u M=>?_) (by show 3<=100;decide) ?_⟩))⟩
   .simp only[List.mem_cons,List.not_mem_nil,or_false] at M
    rcases M with rfl | rfl | rfl
    .exact Y.l
    .exact (gJ B.1).l
    .exact B.2.rl
   .rw [show iQ [w,c.1,iQ c.2.ie]=iQ (o5 w c) from xV [w,c.1] c.2.lz]
    refine O _ _ ⟨?_,g.trans (N.trans (Gr.new D _)),ds++[c],es,by rw[AG];exact e,rfl,by rw[AN,iW];rfl⟩;have:=J.2;rw[pJ,AB];have:=A3 List.length e;rw[AA,AD] at this;exact AK (show ds.length < 5 by omega) (by decide)
 .rintro I C1 ⟨g,ds,es,e,hz,rfl⟩ p D
  cases es with
  |nil =>
   rw[AH] at e;subst e;exact q p _ (kZ g D) (g.trans (Gr.new D _)) zQ
  |cons c es=>cases hz
inductive RD(ts:List PV)(C:CH)(Q:K1):Prop
 |mk(hs:List Hd)(z0:ts=[.tup (hs.map Hd.pv)])(zg:∀x∈hs,Ir x)(zl:hs.length<=4)(z1:nR C (jq (hs.flatMap Hd.ie)) Q)
def VX{h:Hd}(g:Ir h):h.ie.length<=5:=by
 show(h.ch.map vf).length+1<=5;rw[AB];have:=g.cl;omega
def Wq{w:Str}(h:w∈(["set","add","times"]:List Str)):Wo w:=by
 simp only[List.mem_cons,List.not_mem_nil,or_false] at h
 rcases h with rfl | rfl | rfl<;>exact yZ (by decide +kernel)
theorem yA{β:Type}{f:Hd->List β}{n:Nat}:∀{hs:List Hd},(∀h∈hs,(f h).length<=n)->(hs.flatMap f).length<=n * hs.length
 |[],_=>AM _
 |h::hs,g=>by
  have:=yA fun x q=>g x (AF _ q);have:=g h AI;rw[List.flatMap_cons,AA,AD,Nat.mul_succ];omega
def LC(T:Tx W a){k:Nat}:Ok W a (k+2) 29 ["hands"] RD:=by
 have S:=(T.F 29 rfl).s;have xZ:=Zz (k:=k) T
 refine(T.F 29 rfl).ok (fun ts C R h=>?_) fun ai A ao s H E ag=>⟨_,(xQ (jb 1 S.nd (mQ aX))
  (xQ (gW PassesOwn.never rfl (cv 0) (qi 2 S.nd) (xQ (wX (cap (cv 1) (tK wQ (mQ (qQ wQ (qQ (cx (cv 2) jQ) (qQ (dZ zK rY rfl T.lB rfl (dN (cx (cv 2) jQ))) (dN (rP (bX (cx (cv 2) jQ)) wQ wQ)))))))))
  (kQ (wX (lY AY As Ar (fun p s σ H x vs v us Q=>tJ p s σ H x vs v us Q) bJ (cv 1) (dN (aZ rfl (S.c (by decide +kernel)) (S.k (L:=0) rfl rfl rfl (by decide +kernel)) (uK (cx (cv 2) jQ)) (fun _ _ _ _ _=>lZ) (fun _ _ _ _ _=>(tK wQ (mQ (qQ wQ (qQ (cx (cv 0) jQ) (qQ (cx (cv 0) jQ) (dN (cf (T.F 22 rfl) xZ ag (dN (cx (cv 0) jQ)))))))))))))))))
  (kQ (uQ (cv 1))))),?_⟩
 .obtain ⟨_,rfl,_⟩:=h;rfl
 rintro ts C R ⟨hs,rfl,hg,hl,ah⟩;refine⟨AM _,fun p U=>?_⟩;dsimp only[ig.wn];refine aJ (aL rfl (sJ (fun zs Z C'=>∃ds es Y,ds++es=hs/\zs=es.map Hd.pv/\Z=[some (.tup (hs.map Hd.pv)),some (.ref p),Y]/\C' p=some (.lst (jq (ds.flatMap Hd.ie)))/\Gr C C') ?_ ?_ _ _ _ ⟨[],hs,_,rfl,rfl,rfl,zQ,Gr.new U _⟩))
 .rintro z zs Z C1 ⟨ds,es,Y,e,hz,rfl,m,g⟩ L hL
  cases es with
  |nil=>cases hz
  |cons h es =>
   obtain⟨rfl,rfl⟩:=Ab hz;have q:=hg h (by rw[<- e];simp);have aj:(ds.flatMap Hd.ie).length<=5 * ds.length:=yA fun x hx=>VX (hg x (by rw[<- e];exact Ap _ hx));have ak:ds.length<=4:=by have:=A3 List.length e;rw[AA] at this;omega
   have gp:∀{C2:CH}{o:CO},Gr C C2->Gr C (gQ C2 p o):=fun O b o eb=>(vQ (rX U eb)).trans (O _ _ eb);refine⟨qZ m,⟨⟨_,rfl⟩,bQ rfl (bQ rfl (fF (by have:=q.r1;have:=q.r3;omega) (bQ rfl ?_)))⟩⟩;refine Lw ?_;refine⟨y0 4 rfl,fun p1 aa=>fY (ws:=(u5 h)) zQ (fun u D=>?_) (by show 4<=100;decide) ?_⟩
   .unfold u5 at D
    simp only[List.mem_cons,List.not_mem_nil,or_false] at D
    rcases D with rfl | rfl | rfl | rfl
    .exact (yZ (by decide +kernel)).l
    .exact (gJ q.ev).l
    .exact (kM ⟨by have:=q.r1;omega,by have:=q.r3;omega⟩).l
    .exact (sE _).l
   have m1:=Gr.new aa (.lst ([PV.str "hand",PV.str h.ev,PV.str (jw h.rank),PV.str (eW h.last)])) _ _ m;refine nK m1 (by rw[pJ];exact AK (show(ds.flatMap Hd.ie).length < 100 by omega) (by decide)) ?_;have m2:=(zQ:gQ (gQ C1 p1 (.lst ([PV.str "hand",PV.str h.ev,PV.str (jw h.rank),PV.str (eW h.last)]))) p (.lst (jq (ds.flatMap Hd.ie)++[.str (iQ (u5 h))])) p=_);have O:=gp (o:=.lst (jq (ds.flatMap Hd.ie)++[.str (iQ (u5 h))])) (g.trans (Gr.new aa (.lst ([PV.str "hand",PV.str h.ev,PV.str (jw h.rank),PV.str (eW h.last)]))))
   generalize gQ (gQ C1 p1 (.lst ([PV.str "hand",PV.str h.ev,PV.str (jw h.rank),PV.str (eW h.last)]))) p (.lst (jq (ds.flatMap Hd.ie)++[.str (iQ (u5 h))]))=C2 at *
   refine⟨qZ m2,bQ rfl ?_⟩;refine vW (fun zs N C'=>Gr C2 C'/\∃cs fs:List (Str×Str×Rk),cs++fs=h.ch/\zs=fs.map pS/\N=jq (cs.map vf)) ?_ ?_ _ _ _ ⟨Gr.refl,[],h.ch,rfl,rfl,rfl⟩
   .rintro x zs N C3 ⟨I,cs,fs,B,M,rfl⟩ L3 ae
    cases fs with
    |nil=>cases M
    |cons c fs =>
     obtain⟨rfl,rfl⟩:=Ab M;have J:=q.ch c (by rw[<- B];simp);refine⟨⟨_,rfl⟩,bQ rfl (bQ rfl (bQ rfl (Ft.mk c.2.2 rfl J.2.2 fun C4 g4=>⟨y0 4 rfl,fun p4 af=>fY (ws:=["change",c.1,c.2.1,iQ c.2.2.ie]) zQ (fun u D=>?_) (by show 4<=100;decide) ?_⟩)))⟩
     .simp only[List.mem_cons,List.not_mem_nil,or_false] at D
      rcases D with rfl | rfl | rfl | rfl
      .exact (yZ (by decide +kernel)).l
      .exact (gJ J.1).l
      .exact (Wq J.2.1).l
      .exact J.2.2.rl
     .rw [show iQ ["change",c.1,c.2.1,iQ c.2.2.ie]=iQ (vf c) from xV ["change",c.1,c.2.1] c.2.2.lz]
      refine ae _ _ ⟨?_,I.trans (g4.trans (Gr.new af _)),cs++[c],fs,by rw[AG];exact B,rfl,by rw[AN,iW];rfl⟩;have:=q.cl;rw[pJ,AB];have:=A3 List.length B;rw[AA,AD] at this;exact AK (show cs.length < 5 by omega) (by decide)
   .rintro N C3 ⟨I,cs,fs,B,M,rfl⟩ p3 ab
    cases fs with
    |cons c fs=>cases M
    |nil =>
     rw[AH] at B;subst B;refine yV (Gr.new ab _ _ _ (I _ _ m2)) zQ ?_ (hL _ _ ⟨ds++[h],es,_,by rw[AG];exact e,rfl,rfl,?_,gp (O.trans (I.trans (Gr.new ab _)))⟩)
     .rw [AA,pJ,pJ,AB]
      have:=q.cl;exact AR (show(ds.flatMap Hd.ie).length+1+h.ch.length<=1000 by omega) (by decide)
     .rw [zQ,Az,iW,AG]
      show _=some (CO.lst (_++jq (((u5 h)::h.ch.map vf)++[])));rw[AH]
      rfl
 .rintro Z C1 ⟨ds,es,Y,e,hz,rfl,m,g⟩
  cases es with
  |nil =>
   rw[AH] at e;subst e;exact ah p C1 U g m
  |cons c es=>cases hz
inductive IV(d:Nat)(ts:List PV)(C:CH)(Q:K1):Prop
 |mk(l:Ln)(z0:ts=[l.pv])(zg:l.gd d)(zl:l.rows.length<=1000)(z1:nR C (jq l.rows) Q)
inductive tU(d:Nat)(ts:List PV)(C:CH)(Q:K1):Prop
 |mk(ls:List Ln)(z0:ts=[.tup (ls.map Ln.pv)])(zg:∀l∈ls,l.gd d)(zl:(Ln.ik ls).length<=1000)(z1:nR C (jq (Ln.ik ls)) Q)
def w3{x y z:Str}(q:Wo x)(B:Wo y)(hz:z.length<=400):∀w∈[x,y,z],w.length<=400:=by
 intro u g
 simp only[List.mem_cons,List.not_mem_nil,or_false] at g
 rcases g with rfl | rfl | rfl
 .exact q.l
 .exact B.l
 .exact hz
def jd{C:CH}{a b:Addr}{xs ys:List (List Str)}{Q:K1}(B:C a=some (.lst (jq xs)))(D:C b=some (.lst (jq ys)))(l:xs.length+ys.length<=1000)(q:nR C (jq (xs++ys)) Q):qP (.ref a) (.ref b) C Q:=by
 refine rR B D (by rw[pJ,pJ];exact AR l (by decide)) fun p g=>q p _ g (Gr.new g _) ?_;rw[zQ,iW]
def oM(x y z:Str):x++y++z=x++(y++z):=PySem.Str.append_assoc x y z
theorem Qc(z:Str)(zs:List Str):∀{ys:List Str},ys≠[]->iQ (iQ ys::z::zs)=iQ (ys++z::zs)
 |[],h=>absurd rfl h
 |[_],_=>rfl
 |y::g::ys,_=>by
  have q:=Qc z zs (ys:=g::ys) (fun e=>nomatch e);show y ++ " " ++ iQ (g::ys) ++ " " ++ iQ (z::zs)=y ++ " " ++ iQ (g::ys++z::zs);rw[<- q];show _=y ++ " " ++ (iQ (g::ys) ++ " " ++ iQ (z::zs));rw[oM (y ++ " ") (iQ (g::ys)) " ",oM (y ++ " ")]
def KR(xs:List Str){ys zs:List Str}(h:ys≠[]):iQ (xs++[iQ ys]++zs)=iQ (xs++(ys++zs)):=by
 cases zs with
 |nil=>rw[AH,AH];exact xV xs h
 |cons z zs =>
  rw[AG,<- xV xs (ys:=[iQ ys]++z::zs) (fun e=>nomatch e),<- xV xs (ys:=ys++z::zs) (fun e=>h (List.append_eq_nil_iff.1 e).1)];rw[<- Qc z zs h]
  rfl
def V9{C0 C:CH}{p b:Addr}{xs ys:List (List Str)}{Q:K1}(D:C0 p=none)(g:Gr C0 C)(I:C p=some (.lst (jq xs)))(J:C b=some (.lst (jq ys)))(l:xs.length+ys.length<=1000)(q:∀C',Gr C0 C'->C' p=some (.lst (jq (xs++ys)))->Q .non C'):xB (.ref p) [.ref b] C Q :=
 yV I J (by rw[pJ,pJ];exact AR l (by decide)) (q _ (fun b o B=>(vQ (rX D B)).trans (g _ _ B)) (by rw[zQ,iW]))
def Gb{C0 C:CH}{p:Addr}{xs:List (List Str)}{s:Str}{ws:List Str}{Q:K1}(D:C0 p=none)(g:Gr C0 C)(I:C p=some (.lst (jq xs)))(e:s=iQ ws)(l:xs.length+1<=1000)(q:∀C',Gr C0 C'->C' p=some (.lst (jq (xs++[ws])))->Q .non C'):xY (.ref p) [.str s] C Q :=
 nK I (by rw[pJ];exact AK l (by decide)) (q _ (fun b o B=>(vQ (rX D B)).trans (g _ _ B)) (by rw[zQ,iW,e];rfl))
def tM(xs ys:List Ln):Ln.ik (xs++ys)=Ln.ik xs++Ln.ik ys:=by
 induction xs with
 |nil=>rfl
 |cons x xs g =>
  show x.rows++Ln.ik (xs++ys)=x.rows++Ln.ik xs++Ln.ik ys;rw[g,AG]
def Ly(T:Tx W a)(d r:Nat)(h3:3<=r)(cJ:Ok W a r 27 ["lines"] (tU d)):Ok W a (r+1) 28 ["line"] (IV (d+1)):=by
 obtain⟨k,rfl⟩:∃k,r=k+2:=⟨r - 2,by omega⟩;have S:=(T.F 28 rfl).s;have xZ:=(Zz (k:=k) T).mono (B9 _);have dM:=Lz (k:=k) T;have mW:=Eu (k:=k) T;have sS:=LC (k:=k) T
 refine(T.F 28 rfl).ok (fun ts C R h=>?_) fun aq A ar s H E D=>⟨_,(xQ (nQ (ct2 fX qX (cx (cv 0) jQ) wQ) (xQ (jb 1 S.nd (mQ (dN (tK wQ (mQ (qQ wQ (qQ (cx (cv 0) jQ) (dN (cf (T.F 21 rfl) dM D (dN (cx (cv 0) jQ)))))))))))
  (kQ (uQ (aQ oQ tQ (aQ oQ tQ (aQ oQ tQ (aQ oQ tQ (cv 1) (cf (T.F 26 rfl) mW D (qQ wQ (dN (cx (cv 0) jQ))))) (cf (T.F 29 rfl) sS D (dN (cx (cv 0) jQ)))) (cf (T.F 27 rfl) cJ D (dN (cx (cv 0) jQ)))) (mQ (dN wQ)))))) dQ)
  (xQ (nQ (ct2 fX qX (cx (cv 0) jQ) wQ) (kQ (uQ (aQ oQ tQ (mQ (dN (tK wQ (mQ (qQ wQ (qQ (cx (cv 0) jQ) (dN (cf (T.F 21 rfl) dM D (dN (cx (cv 0) jQ)))))))))) (cf (T.F 26 rfl) mW D (qQ wQ (dN (cx (cv 0) jQ))))))) dQ)
  (xQ (nQ (ct2 fX qX (cx (cv 0) jQ) wQ) (xQ (jb 1 S.nd (mQ (dN (tK wQ (mQ (qQ wQ (qQ (cx (cv 0) jQ) (qQ (cf (T.F 22 rfl) xZ D (dN (cx (cv 0) jQ))) (dN (cf (T.F 21 rfl) dM D (dN (cx (cv 0) jQ))))))))))))
  (kQ (uQ (aQ oQ tQ (aQ oQ tQ (cv 1) (cf (T.F 27 rfl) cJ D (dN (cx (cv 0) jQ)))) (mQ (dN wQ)))))) dQ)
  (xQ (nQ (ct2 fX qX (cx (cv 0) jQ) wQ) (xQ (jb 1 S.nd (mQ (dN (tK wQ (mQ (qQ wQ (dN (cf (T.F 22 rfl) xZ D (dN (cx (cv 0) jQ))))))))))
  (kQ (uQ (aQ oQ tQ (aQ oQ tQ (aQ oQ tQ (aQ oQ tQ (cv 1) (cf (T.F 27 rfl) cJ D (dN (cx (cv 0) jQ)))) (mQ (dN wQ))) (cf (T.F 27 rfl) cJ D (dN (cx (cv 0) jQ)))) (mQ (dN wQ)))))) dQ)
  (xQ (jb 1 S.nd (mQ (dN (tK wQ (mQ (qQ wQ (qQ (cx (cv 0) jQ) (dN (cf (T.F 22 rfl) xZ D (dN (cx (cv 0) jQ)))))))))))
  (kQ (uQ (aQ oQ tQ (aQ oQ tQ (cv 1) (cf (T.F 27 rfl) cJ D (dN (cx (cv 0) jQ)))) (mQ (dN wQ)))))))))),?_⟩
 .obtain ⟨_,rfl,_⟩:=h;rfl
 rintro ts C R ⟨l,rfl,q,hl,af⟩
 cases l with
 |plain k L s h ab =>
  have l0:(s.map (o5 "set")).length+((h.flatMap Hd.ie).length+((Ln.ik ab).length+1))+1<=1000:=by
   have:=hl;unfold Ln.rows at this
   simpa only[List.length_cons,List.length_append,List.length_nil,Nat.zero_add] using this
  refine bQ rfl (fQ (yQ _ _) (tX (by decide +kernel) ?_));refine⟨⟨_,rfl⟩,bQ rfl (bQ rfl (O2.mk k rfl q.1.1 fun C1 ae=>⟨y0 3 rfl,fun p1 O=>fY (ws:=["plain",L,iQ (jj k)]) zQ (w3 (yZ (by decide +kernel)) (gJ q.1.2) q.1.1.rl) (by show 3<=100;decide) ⟨y0 1 rfl,fun p2 U=>?_⟩⟩))⟩
  have Z:(gQ (gQ C1 p1 (.lst [PV.str "plain",PV.str L,PV.str (iQ (jj k))])) p2 (.lst [PV.str (iQ ["plain",L,iQ (jj k)])])) p2=some (.lst (jq ["plain" :: L::jj k])):=by
   rw[zQ,show iQ ["plain",L,iQ (jj k)]=iQ ("plain" :: L::jj k) from by
    exact xV ["plain",L] (oE k)
]
   rfl
  have M:Gr C (gQ (gQ C1 p1 (.lst [PV.str "plain",PV.str L,PV.str (iQ (jj k))])) p2 (.lst [PV.str (iQ ["plain",L,iQ (jj k)])])):=((ae.trans (Gr.new O _))).trans (Gr.new U _);dsimp only[ig.wn];generalize gQ (gQ C1 p1 (.lst [PV.str "plain",PV.str L,PV.str (iQ (jj k))])) p2 (.lst [PV.str (iQ ["plain",L,iQ (jj k)])])=C2 at *
  refine bQ rfl (O1.mk "set" s rfl (yZ (by decide +kernel)) q.2.1.1 fun p3 C3 aj aa m3=>jd (aa _ _ Z) m3 (by show 1+_<=_;omega) fun p4 C4 ak g4 m4=>bQ rfl (RD.mk h rfl q.2.1.2.1 q.2.1.2.2 fun p5 C5 ag g5 m5=>jd (g5 _ _ m4) m5 (by rw[AA];show 1+_+_<=_;omega) fun p6 C6 ao g6 m6=>bQ rfl (tU.mk ab (by rw[Ln.iT]) q.2.2.1 (by omega) fun p7 C7 ah I m7=>jd (I _ _ m6) m7 (by rw[AA,AA];show 1+_+_+_<=_;omega) fun p8 C8 ai g8 m8=>⟨y0 1 rfl,fun p9 J=>jd (ys:=[["end"]]) (Gr.new J _ _ _ m8) zQ (by rw[AA,AA,AA];show 1+_+_+_+1<=_;omega) fun p C' N g' Y=>?_⟩)))
  have B:=M.trans (aa.trans (g4.trans (g5.trans (g6.trans (I.trans (g8.trans (Gr.new J (.lst [.str "end"]))))))));refine af p C' (kZ B N) (B.trans g') ?_;rw[Y];unfold Ln.rows
  simp only[List.append_assoc,List.cons_append,List.nil_append]
 |part k n g =>
  have l0:(g.map (o5 "with")).length+1<=1000:=by
   have:=hl;unfold Ln.rows at this
   simpa only[List.length_cons,List.length_append,List.length_nil,Nat.zero_add] using this
  refine bQ rfl (fQ (yQ _ _) (cQ (by decide +kernel) ?_));refine bQ rfl (fQ (yQ _ _) (tX (by decide +kernel) ?_));refine⟨⟨_,rfl⟩,bQ rfl (bQ rfl (O2.mk k rfl q.1.1 fun C1 ae=>⟨y0 3 rfl,fun p1 O=>fY (ws:=["draw",n,iQ (jj k)]) zQ (w3 (yZ (by decide +kernel)) (gJ q.1.2) q.1.1.rl) (by show 3<=100;decide) ⟨y0 1 rfl,fun p2 U=>?_⟩⟩))⟩
  have Z:(gQ (gQ C1 p1 (.lst [PV.str "draw",PV.str n,PV.str (iQ (jj k))])) p2 (.lst [PV.str (iQ ["draw",n,iQ (jj k)])])) p2=some (.lst (jq ["draw" :: n::jj k])):=by
   rw[zQ,show iQ ["draw",n,iQ (jj k)]=iQ ("draw" :: n::jj k) from by
    exact xV ["draw",n] (oE k)
]
   rfl
  have M:Gr C (gQ (gQ C1 p1 (.lst [PV.str "draw",PV.str n,PV.str (iQ (jj k))])) p2 (.lst [PV.str (iQ ["draw",n,iQ (jj k)])])):=((ae.trans (Gr.new O _))).trans (Gr.new U _);dsimp only[ig.wn];generalize gQ (gQ C1 p1 (.lst [PV.str "draw",PV.str n,PV.str (iQ (jj k))])) p2 (.lst [PV.str (iQ ["draw",n,iQ (jj k)])])=C2 at *
  refine bQ rfl (O1.mk "with" g rfl (yZ (by decide +kernel)) q.2 fun p3 C3 aj aa m3=>jd (aa _ _ Z) m3 (by show 1+_<=_;omega) fun p C' N g' Y=>?_);have B:=M.trans aa;refine af p C' (kZ B N) (B.trans g') ?_;rw[Y];unfold Ln.rows
  simp only[List.append_assoc,List.cons_append,List.nil_append]
 |give k n r ab =>
  have l0:((Ln.ik ab).length+1)+1<=1000:=by
   have:=hl;unfold Ln.rows at this
   simpa only[List.length_cons,List.length_append,List.length_nil,Nat.zero_add] using this
  refine bQ rfl (fQ (yQ _ _) (cQ (by decide +kernel) ?_));refine bQ rfl (fQ (yQ _ _) (cQ (by decide +kernel) ?_));refine bQ rfl (fQ (yQ _ _) (tX (by decide +kernel) ?_));refine⟨⟨_,rfl⟩,bQ rfl (bQ rfl (Ft.mk r rfl q.2.1 fun C0 g0=>bQ rfl (O2.mk k rfl q.1.1 fun C1 ae=>⟨y0 4 rfl,fun p1 O=>fY (ws:=["give",n,iQ r.ie,iQ (jj k)]) zQ (fun u hu=>?_) (by show 4<=100;decide) ⟨y0 1 rfl,fun p2 U=>?_⟩⟩)))⟩
  .simp only[List.mem_cons,List.not_mem_nil,or_false] at hu
   rcases hu with rfl | rfl | rfl | rfl
   .exact (yZ (by decide +kernel)).l
   .exact (gJ q.1.2).l
   .exact q.2.1.rl
   .exact q.1.1.rl
  have Z:(gQ (gQ C1 p1 (.lst [PV.str "give",PV.str n,PV.str (iQ r.ie),PV.str (iQ (jj k))])) p2 (.lst [PV.str (iQ ["give",n,iQ r.ie,iQ (jj k)])])) p2=some (.lst (jq ["give" :: n::(r.ie++jj k)])):=by
   rw[zQ,show iQ ["give",n,iQ r.ie,iQ (jj k)]=iQ ("give" :: n::(r.ie++jj k)) from by
    rw[show iQ ["give",n,iQ r.ie,iQ (jj k)]=iQ ((["give",n,iQ r.ie]:List Str)++jj k) from xV ["give",n,iQ r.ie] (oE k)];exact KR ["give",n] r.lz
]
   rfl
  have M:Gr C (gQ (gQ C1 p1 (.lst [PV.str "give",PV.str n,PV.str (iQ r.ie),PV.str (iQ (jj k))])) p2 (.lst [PV.str (iQ ["give",n,iQ r.ie,iQ (jj k)])])):=((g0.trans (ae.trans (Gr.new O _)))).trans (Gr.new U _);dsimp only[ig.wn];generalize gQ (gQ C1 p1 (.lst [PV.str "give",PV.str n,PV.str (iQ r.ie),PV.str (iQ (jj k))])) p2 (.lst [PV.str (iQ ["give",n,iQ r.ie,iQ (jj k)])])=C2 at *
  refine bQ rfl (tU.mk ab (by rw[Ln.iT]) q.2.2.1 (by omega) fun p7 C7 ah I m7=>jd (I _ _ Z) m7 (by show 1+_<=_;omega) fun p8 C8 ai g8 m8=>⟨y0 1 rfl,fun p9 J=>jd (ys:=[["end"]]) (Gr.new J _ _ _ m8) zQ (by rw[AA];show 1+_+1<=_;omega) fun p C' N g' Y=>?_⟩);have B:=M.trans (I.trans (g8.trans (Gr.new J (.lst [.str "end"]))));refine af p C' (kZ B N) (B.trans g') ?_
  rw[Y];unfold Ln.rows
  simp only[List.append_assoc,List.cons_append,List.nil_append]
 |when r l1 l2 =>
  have l0:((Ln.ik l1).length+((Ln.ik l2).length+1+1))+1<=1000:=by
   have:=hl;unfold Ln.rows at this
   simpa only[List.length_cons,List.length_append,List.length_nil,Nat.zero_add] using this
  refine bQ rfl (fQ (yQ _ _) (cQ (by decide +kernel) ?_));refine bQ rfl (fQ (yQ _ _) (cQ (by decide +kernel) ?_));refine bQ rfl (fQ (yQ _ _) (cQ (by decide +kernel) ?_));refine bQ rfl (fQ (yQ _ _) (tX (by decide +kernel) ?_));refine⟨⟨_,rfl⟩,bQ rfl (Ft.mk r rfl q.1 fun C0 g0=>⟨y0 2 rfl,fun p1 O=>fY (ws:=["when",iQ r.ie]) zQ (fun u hu=>?_) (by show 2<=100;decide) ⟨y0 1 rfl,fun p2 U=>?_⟩⟩)⟩
  .simp only[List.mem_cons,List.not_mem_nil,or_false] at hu
   rcases hu with rfl | rfl
   .exact (yZ (by decide +kernel)).l
   .exact q.1.rl
  have Z:(gQ (gQ C0 p1 (.lst [PV.str "when",PV.str (iQ r.ie)])) p2 (.lst [PV.str (iQ ["when",iQ r.ie])])) p2=some (.lst (jq ["when" :: r.ie])):=by
   rw[zQ,show iQ ["when",iQ r.ie]=iQ ("when" :: r.ie) from by
    exact xV ["when"] r.lz
]
   rfl
  have M:Gr C (gQ (gQ C0 p1 (.lst [PV.str "when",PV.str (iQ r.ie)])) p2 (.lst [PV.str (iQ ["when",iQ r.ie])])):=((g0.trans (Gr.new O _))).trans (Gr.new U _);dsimp only[ig.wn];generalize gQ (gQ C0 p1 (.lst [PV.str "when",PV.str (iQ r.ie)])) p2 (.lst [PV.str (iQ ["when",iQ r.ie])])=C2 at *
  refine bQ rfl (tU.mk l1 (by rw[Ln.iT]) q.2.1.1 (by omega) fun p3 C3 aj aa m3=>jd (aa _ _ Z) m3 (by show 1+_<=_;omega) fun p4 C4 ak g4 m4=>⟨y0 1 rfl,fun p5 ag=>jd (ys:=[["else"]]) (Gr.new ag _ _ _ m4) zQ (by rw[AA];show 1+_+1<=_;omega) fun p6 C6 ao g6 m6=>bQ rfl (tU.mk l2 (by rw[Ln.iT]) q.2.2.1 (by omega) fun p7 C7 ah I m7=>jd (I _ _ m6) m7 (by rw[AA,AA];show 1+_+1+_<=_;omega) fun p8 C8 ai g8 m8=>⟨y0 1 rfl,fun p9 J=>jd (ys:=[["end"]]) (Gr.new J _ _ _ m8) zQ (by rw[AA,AA,AA];show 1+_+1+_+1<=_;omega) fun p C' N g' Y=>?_⟩)⟩)
  have B:=M.trans (aa.trans (g4.trans ((Gr.new ag (.lst [.str "else"])).trans (g6.trans (I.trans (g8.trans (Gr.new J (.lst [.str "end"]))))))));refine af p C' (kZ B N) (B.trans g') ?_;rw[Y];unfold Ln.rows
  simp only[List.append_assoc,List.cons_append,List.nil_append]
 |each n r ab =>
  have l0:((Ln.ik ab).length+1)+1<=1000:=by
   have:=hl;unfold Ln.rows at this
   simpa only[List.length_cons,List.length_append,List.length_nil,Nat.zero_add] using this
  refine bQ rfl (fQ (yQ _ _) (cQ (by decide +kernel) ?_));refine bQ rfl (fQ (yQ _ _) (cQ (by decide +kernel) ?_));refine bQ rfl (fQ (yQ _ _) (cQ (by decide +kernel) ?_));refine bQ rfl (fQ (yQ _ _) (cQ (by decide +kernel) ?_));refine⟨⟨_,rfl⟩,bQ rfl (bQ rfl (Ft.mk r rfl q.1.1 fun C1 ae=>⟨y0 3 rfl,fun p1 O=>fY (ws:=["each",n,iQ r.ie]) zQ (w3 (yZ (by decide +kernel)) (gJ q.1.2) q.1.1.rl) (by show 3<=100;decide) ⟨y0 1 rfl,fun p2 U=>?_⟩⟩))⟩
  have Z:(gQ (gQ C1 p1 (.lst [PV.str "each",PV.str n,PV.str (iQ r.ie)])) p2 (.lst [PV.str (iQ ["each",n,iQ r.ie])])) p2=some (.lst (jq ["each" :: n::r.ie])):=by
   rw[zQ,show iQ ["each",n,iQ r.ie]=iQ ("each" :: n::r.ie) from by
    exact xV ["each",n] r.lz
]
   rfl
  have M:Gr C (gQ (gQ C1 p1 (.lst [PV.str "each",PV.str n,PV.str (iQ r.ie)])) p2 (.lst [PV.str (iQ ["each",n,iQ r.ie])])):=((ae.trans (Gr.new O _))).trans (Gr.new U _);dsimp only[ig.wn];generalize gQ (gQ C1 p1 (.lst [PV.str "each",PV.str n,PV.str (iQ r.ie)])) p2 (.lst [PV.str (iQ ["each",n,iQ r.ie])])=C2 at *
  refine bQ rfl (tU.mk ab (by rw[Ln.iT]) q.2.1 (by omega) fun p7 C7 ah I m7=>jd (I _ _ Z) m7 (by show 1+_<=_;omega) fun p8 C8 ai g8 m8=>⟨y0 1 rfl,fun p9 J=>jd (ys:=[["end"]]) (Gr.new J _ _ _ m8) zQ (by rw[AA];show 1+_+1<=_;omega) fun p C' N g' Y=>?_⟩);have B:=M.trans (I.trans (g8.trans (Gr.new J (.lst [.str "end"]))));refine af p C' (kZ B N) (B.trans g') ?_
  rw[Y];unfold Ln.rows
  simp only[List.append_assoc,List.cons_append,List.nil_append]
def Vq(T:Tx W a)(d r:Nat)(yI:Ok W a r 28 ["line"] (IV d)):Ok W a (r+1) 27 ["lines"] (tU d):=by
 have S:=(T.F 27 rfl).s
 refine(T.F 27 rfl).ok (fun ts C R h=>?_) fun ae A ag s H E aa=>⟨_,(xQ (jb 1 S.nd (mQ aX))
  (xQ (gW PassesOwn.never rfl (cv 0) (qi 2 S.nd) (kQ (wX (lY AY As Ar (fun p s σ H x vs v us Q=>tJ p s σ H x vs v us Q) bJ (cv 1) (dN (cf (T.F 28 rfl) yI aa (dN (cv 2))))))))
  (kQ (uQ (cv 1))))),?_⟩
 .obtain ⟨_,rfl,_⟩:=h;rfl
 rintro ts C R ⟨D,rfl,Y,q,ab⟩;refine⟨AM _,fun p B=>?_⟩;dsimp only[ig.wn];refine aJ (aL rfl (sJ (fun zs J C'=>∃ds es I,ds++es=D/\zs=es.map Ln.pv/\J=[some (.tup (D.map Ln.pv)),some (.ref p),I]/\C' p=some (.lst (jq (Ln.ik ds)))/\Gr C C') ?_ ?_ _ _ _ ⟨[],D,_,rfl,rfl,rfl,zQ,Gr.new B _⟩))
 .rintro z zs J C1 ⟨ds,es,I,e,hz,rfl,m,g⟩ L U
  cases es with
  |nil=>cases hz
  |cons l es =>
   obtain⟨rfl,rfl⟩:=Ab hz;have Z:=Y l (by rw[<- e];simp)
   have ll:(Ln.ik ds).length+(l.rows.length+(Ln.ik es).length)<=1000:=by
    rw[<- e,tM,AA] at q;have:Ln.ik (l::es)=l.rows++Ln.ik es:=rfl;rw[this,AA] at q;exact q
   refine⟨qZ m,IV.mk l rfl Z (by omega) fun p3 O af N m3=>?_⟩;have g':Gr C (gQ O p (.lst (jq (Ln.ik ds)++jq l.rows))):=fun b o M=>(vQ (rX B M)).trans ((g.trans N) _ _ M);refine yV (N _ _ m) m3 ?_ (U _ _ ⟨ds++[l],es,_,by rw[AG];exact e,rfl,rfl,?_,g'⟩)
   .rw [pJ,pJ]
    exact AR (show _<=1000 by omega) (by decide)
   .rw [zQ,tM,iW]
    show _=some (CO.lst (_++jq (l.rows++[])));rw[AH]
 .rintro J C1 ⟨ds,es,I,e,hz,rfl,m,g⟩
  cases es with
  |nil =>
   rw[AH] at e;subst e;exact ab p C1 B g m
  |cons c es=>cases hz
theorem ZA(T:Tx W a):∀d,Ok W a (2 * d+4) 27 ["lines"] (tU d)
 |0=>Vq T 0 3 (gY fun ts C Q ⟨l,_,h,_,_⟩=>by cases l<;>exact h)
 |d+1=>Vq T (d+1) (2 * d+5) (Ly T d (2 * d+4) (by omega) (ZA T d))
inductive JU(ts:List PV)(C:CH)(Q:K1):Prop
 |mk(pts:List Pt)(z0:ts=[.tup (pts.map Pt.pv)])(zg:∀x∈pts,Ek x)(zl:(nX pts).length<=1000)(z1:nR C (jq (nX pts)) Q)
def GF(T:Tx W a):Ok W a 17 25 ["house"] JU:=by
 have S:=(T.F 25 rfl).s;have mW:=Eu (k:=14) T;have cJ:=ZA T 6
 refine(T.F 25 rfl).ok (fun ts C R h=>?_) fun aj A aq s H E ae=>⟨_,(xQ (jb 1 S.nd (mQ aX))
  (xQ (gW PassesOwn.never rfl (cv 0) (qi 2 S.nd) (xQ (wX (cap (cv 1) (tK wQ (mQ (qQ wQ (dN (cx (cv 2) jQ)))))))
  (xQ (wX (lY AY As Ar (fun p s σ H x vs v us Q=>tJ p s σ H x vs v us Q) bJ (cv 1) (dN (aZ rfl (S.c (by decide +kernel)) (S.k (L:=0) rfl rfl rfl (by decide +kernel)) (uK (cx (cv 2) jQ)) (fun _ _ _ _ _=>lZ) (fun _ _ _ _ _=>(tK wQ (mQ (qQ wQ (qQ (cx (cv 0) jQ) (dN (dZ zK rY rfl T.lB rfl (dN (cx (cv 0) jQ)))))))))))))
  (xQ (wX (lY AY As Ar (fun p s σ H x vs v us Q=>tJ p s σ H x vs v us Q) bJ (cv 1) (dN (cf (T.F 26 rfl) mW ae (qQ wQ (dN (cx (cv 2) jQ)))))))
  (kQ (wX (lY AY As Ar (fun p s σ H x vs v us Q=>tJ p s σ H x vs v us Q) bJ (cv 1) (dN (cf (T.F 27 rfl) cJ ae (dN (cx (cv 2) jQ)))))))))))
  (kQ (uQ (cv 1))))),?_⟩
 .obtain ⟨_,rfl,_⟩:=h;rfl
 rintro ts C R ⟨U,rfl,hg,hl,ai⟩;refine⟨AM _,fun p B=>?_⟩;dsimp only[ig.wn];refine aJ (aL rfl (sJ (fun zs Z C'=>∃ds es Y,ds++es=U/\zs=es.map Pt.pv/\Z=[some (.tup (U.map Pt.pv)),some (.ref p),Y]/\C' p=some (.lst (jq (nX ds)))/\Gr C C') ?_ ?_ _ _ _ ⟨[],U,_,rfl,rfl,rfl,zQ,Gr.new B _⟩))
 .rintro z zs Z C1 ⟨ds,es,Y,e,hz,rfl,m,g⟩ L hL
  cases es with
  |nil=>cases hz
  |cons x es =>
   obtain⟨rfl,rfl⟩:=Ab hz;have D:=hg x (by rw[<- e];simp)
   have ll:(nX ds).length+((x.first.map FZ).length+((x.works.map (o5 "work")).length+(Ln.ik x.ls).length)+1)<=1000:=by
    have O:nX (ds++x::es)=nX ds++(x.rows++nX es):=Az;rw[<- e,O,AA,AA] at hl
    have:x.rows.length=(x.first.map FZ).length+((x.works.map (o5 "work")).length+(Ln.ik x.ls).length)+1:=by
     unfold Pt.rows;rw[AD,AA,AA]
    omega
   refine⟨qZ m,⟨⟨_,rfl⟩,bQ rfl ⟨y0 2 rfl,fun p1 aa=>fY (ws:=["part",x.name]) zQ (fun u hu=>?_) (by show 2<=100;decide) (Gb (ws:=["part",x.name]) B (g.trans (Gr.new aa _)) (Gr.new aa _ _ _ m) rfl (by omega) fun C2 af m2=>?_)⟩⟩⟩
   .simp only[List.mem_cons,List.not_mem_nil,or_false] at hu
    rcases hu with rfl | rfl
    .exact (yZ (by decide +kernel)).l
    .exact (gJ D.nm).l
   dsimp only[ig.wn];refine⟨qZ m2,bQ rfl ?_⟩;refine vW (fun zs N C'=>Gr C2 C'/\∃cs fs:List (Str×Int),cs++fs=x.first/\zs=fs.map qY/\N=jq (cs.map FZ)) ?_ ?_ _ _ _ ⟨Gr.refl,[],x.first,rfl,rfl,rfl⟩
   .rintro y zs N C3 ⟨I,cs,fs,q,M,rfl⟩ L3 ag
    cases fs with
    |nil=>cases M
    |cons c fs =>
     obtain⟨rfl,rfl⟩:=Ab M;have J:=D.fs c (by rw[<- q];simp);refine⟨⟨_,rfl⟩,bQ rfl (bQ rfl (fF (by have:=J.2.1;have:=J.2.2;omega) ⟨y0 3 rfl,fun p4 ah=>fY (ws:=["box",c.1,jw c.2]) zQ (w3 (yZ (by decide +kernel)) (gJ J.1) (kM J.2).l) (by show 3<=100;decide) ?_⟩))⟩;refine ag _ _ ⟨?_,I.trans (Gr.new ah _),cs++[c],fs,by rw[AG];exact q,rfl,by rw[AN,iW];rfl⟩
     have:=D.fl;rw[pJ,AB];have:=A3 List.length q;rw[AA,AD] at this;exact AK (show cs.length < 5 by omega) (by decide)
   .rintro N C3 ⟨I,cs,fs,q,M,rfl⟩ p3 ab
    cases fs with
    |cons c fs=>cases M
    |nil =>
     rw[AH] at q;subst q;refine V9 B (af.trans (I.trans (Gr.new ab _))) (Gr.new ab _ _ _ (I _ _ m2)) zQ (by rw[AA];show _+1+_<=_;omega) fun C4 g4 m4=>?_;refine⟨qZ m4,bQ rfl (O1.mk "work" x.works rfl (yZ (by decide +kernel)) D.wk fun p5 C5 ak g5 m5=>V9 B (g4.trans g5) (g5 _ _ m4) m5 (by rw[AA,AA];show _+1+_+_<=_;omega) fun C6 g6 m6=>?_)⟩
     refine⟨qZ m6,bQ rfl (tU.mk x.ls (by rw[Ln.iT]) D.ls (by omega) fun p7 C7 ao g7 m7=>V9 B (g6.trans g7) (g7 _ _ m6) m7 (by rw[AA,AA,AA];show _+1+_+_+_<=_;omega) fun C8 g8 m8=>hL _ _ ⟨ds++[x],es,_,by rw[AG];exact e,rfl,rfl,?_,g8⟩)⟩;rw[m8];have O:nX (ds++[x])=nX ds++(x.rows++[]):=Az;rw[O,AH]
     unfold Pt.rows
     simp only[List.append_assoc,List.cons_append,List.nil_append]
 .rintro Z C1 ⟨ds,es,Y,e,hz,rfl,m,g⟩
  cases es with
  |nil =>
   rw[AH] at e;subst e;exact ai p C1 B g m
  |cons c es=>cases hz
end
def Q1{B:Type}{f:B->PV}{w:B->List Str}{xs:List B}{c:jf}{J:jx}{C:CH}{Q:K1}(l:xs.length<=1000)(O:∀x∈xs,∀C1,Gr C C1->∀L:K1,(∀C2,Gr C1 C2->L (.str (iQ (w x))) C2)->c (some (f x)::J) C1 L)(q:nR C (jq (xs.map w)) Q):jK fM c J Q (xs.map f) [] C:=by
 refine vW (fun zs D C'=>Gr C C'/\∃ds es:List B,ds++es=xs/\zs=es.map f/\D=jq (ds.map w)) ?_ ?_ _ _ _ ⟨Gr.refl,[],xs,rfl,rfl,rfl⟩
 .rintro x zs D C1 ⟨g,ds,es,e,hz,rfl⟩ L N
  cases es with
  |nil=>cases hz
  |cons c es =>
   obtain⟨rfl,rfl⟩:=Ab hz;refine O c (by rw[<- e];simp) C1 g L fun C2 M=>N _ _ ⟨?_,g.trans M,ds++[c],es,by rw[AG];exact e,rfl,by rw[AN,iW];rfl⟩;rw[pJ,AB];have:=A3 List.length e;rw[AA,AD] at this;exact AK (show ds.length < 1000 by omega) (by decide)
 .rintro D C1 ⟨g,ds,es,e,hz,rfl⟩ p I
  cases es with
  |nil =>
   rw[AH] at e;subst e;exact q p _ (kZ g I) (g.trans (Gr.new I _)) zQ
  |cons c es=>cases hz
theorem Ki{x:PV}{xs:List PV}:atI (x::xs) 0=some x:=by
 have:ixN (x::xs).length 0=some 0:=by
  unfold ixN;rw[Al (by decide),AD,Al (by omega)]
  rfl
 unfold atI;rw[this]
 rfl
inductive Pa:Rk->Prop
 |num (i:Int):Pa (.num i)
 |two (r:Rk) (w n:Str) (e1:r.pv=.tup [.str w,.str n]) (e2:r.ie=[w,n]) (hw:w ≠ "num"):Pa r
 |more (r:Rk) (w:Str) (ys:List Rk) (e1:r.pv=.tup (.str w::ys.map Rk.pv)) (e2:r.ie=w::xK ys) (hw:w ≠ "num") (hl:2<=ys.length) (hg:∀y∈ys,y.gd) (hs:∀y∈ys,y.ie.length < r.ie.length):Pa r
def Rk.form{r:Rk}(h:r.gd):Pa r:=by
 cases r with
 |num i=>exact .num i
 |turn n=>exact .two _ "turn" n rfl rfl (by decide +kernel)
 |ask s n=>exact .two _ s n rfl rfl (by rcases h.1 with rfl | rfl | rfl<;>decide +kernel)
 |bin w x y =>
  refine .more _ w [x,y] rfl (by show w::(x.ie++y.ie)=w::(x.ie++(y.ie++[]));rw[AH]) (by rcases h.1 with rfl | rfl | rfl<;>decide +kernel) (AO _) (fun u g=>?_) fun u g=>?_
  .simp only[List.mem_cons,List.not_mem_nil,or_false] at g
   rcases g with rfl | rfl
   .exact h.2.1
   .exact h.2.2
  .have:(Rk.bin w x y).ie.length=x.ie.length+y.ie.length+1:=by show(w::(x.ie++y.ie)).length=_;rw[AD,AA]
   simp only[List.mem_cons,List.not_mem_nil,or_false] at g
   rcases g with rfl | rfl<;>omega
 |pick x y z =>
  refine .more _ "pick" [x,y,z] rfl (by show("pick" : Str)::(x.ie++(y.ie++z.ie))=("pick" : Str)::(x.ie++(y.ie++(z.ie++[])));rw[AH]) (by decide +kernel) (by show 2<=3;decide) (fun u g=>?_) fun u g=>?_
  .simp only[List.mem_cons,List.not_mem_nil,or_false] at g
   rcases g with rfl | rfl | rfl
   .exact h.1
   .exact h.2.1
   .exact h.2.2
  .have:(Rk.pick x y z).ie.length=x.ie.length+(y.ie.length+z.ie.length)+1:=by show(("pick" : Str)::(x.ie++(y.ie++z.ie))).length=_;rw[AD,AA,AA]
   simp only[List.mem_cons,List.not_mem_nil,or_false] at g
   rcases g with rfl | rfl | rfl<;>omega
section
variable {W:Wd}{a:Adr}
inductive Hw(n:Nat)(ts:List PV)(C:CH)(Q:K1):Prop
 |mk(r:Rk)(z0:ts=[r.pv])(zg:r.gd)(zn:r.ie.length<=n)(z1:nR C (r.ie.map PV.str) Q)
def GD(T:Tx W a){n:Nat}(hn:n<=22)(pU:Ok W a (n+1) 49 ["_law_rule"] (Hw n)):Ok W a (n+2) 49 ["_law_rule"] (Hw (n+1)):=by
 have S:=(T.F 49 rfl).s
 refine(T.F 49 rfl).ok (fun ts C R h=>?_) fun af A ah s H E ab=>⟨_,(xQ (nQ (ct2 fX qX (cx (cv 0) jQ) wQ) (kQ (uQ (mQ (dN (dZ zK rY rfl T.lB rfl (dN (cx (cv 0) jQ))))))) dQ)
  (xQ (nQ (ct2 fX qX (kh T.rZ (cv 0)) jQ) (kQ (uQ (mQ (qQ (cx (cv 0) jQ) (dN (cx (cv 0) jQ)))))) dQ)
  (xQ (jb 1 S.nd (mQ (dN (cx (cv 0) jQ))))
  (xQ (gW PassesOwn.never rfl (X6 (cv 0) (bW jQ) cG) (qi 2 S.nd) (kQ (jb 1 S.nd (aQ oQ tQ (cv 1) (cf (T.F 49 rfl) pU ab (dN (cv 2)))))))
  (kQ (uQ (cv 1))))))),?_⟩
 .obtain ⟨_,rfl,_⟩:=h;rfl
 rintro ts C R ⟨r,rfl,Z,hl,q⟩
 cases Rk.form Z with
 |num i =>
  have Y:Bd i:=Z;exact bQ rfl (fQ (yQ _ _) (tX (by decide +kernel) (bQ rfl (fF (by have:=Y.1;have:=Y.2;omega) ⟨y0 1 rfl,fun p B=>q p _ B (Gr.new B _) zQ⟩))))
 |two _ w n I D N =>
  rw[I];rw[D] at q;exact bQ rfl (fQ (yQ _ _) (cQ (by simpa using N) (nZ (fQ (zX _ _) (tX rfl (bQ rfl (bQ rfl ⟨y0 2 rfl,fun p B=>q p _ B (Gr.new B _) zQ⟩)))))))
 |more _ w ys I D N h2 ae hsz =>
  rw[I];refine bQ Ki (fQ (yQ _ _) (cQ (by simpa using N) (nZ (fQ (zX _ _) (cQ ?_ (bQ Ki ⟨y0 1 rfl,fun p B=>?_⟩))))))
  .rw [AD,AB]
   exact Ad (by omega)
  dsimp only[ig.wn];refine aJ (wA (pN ?_));refine sJ (fun zs U C'=>∃ds es p O,ds++es=ys/\zs=es.map Rk.pv/\U=[some (.tup (.str w::ys.map Rk.pv)),some (.ref p),O]/\C' p=some (.lst ((w::xK ds).map PV.str))/\C p=none/\Gr C C') ?_ ?_ _ _ _ ⟨[],ys,p,_,rfl,rfl,rfl,zQ,B,Gr.new B _⟩
  .rintro z zs U C1 ⟨ds,es,p,O,e,hz,rfl,m,B,g⟩ L hL
   cases es with
   |nil=>cases hz
   |cons y es =>
    obtain⟨rfl,rfl⟩:=Ab hz;have hy:y∈ys:=by rw[<- e];simp
    have l1:(w::xK ds).length+y.ie.length<=23:=by
     have:r.ie.length<=n+1:=hl;rw[D,<- e] at this;have J:xK (ds++y::es)=xK ds++(y.ie++xK es):=Az;rw[J,AD,AA,AA] at this;rw[AD];omega
    refine Hw.mk y rfl (ae y hy) (by have:=hsz y hy;omega) fun p3 C3 ag M m3=>rR (M _ _ m) m3 (by rw[AB,AB];exact AR l1 (by decide)) fun p4 aa=>hL _ _ ⟨ds++[y],es,p4,_,by rw[AG];exact e,rfl,rfl,?_,kZ (g.trans M) aa,g.trans (M.trans (Gr.new aa _))⟩;rw[zQ,<- AN];have J:xK (ds++[y])=xK ds++(y.ie++[]):=Az
    rw[J,AH]
    rfl
  .rintro U C1 ⟨ds,es,p,O,e,hz,rfl,m,B,g⟩
   cases es with
   |nil =>
    rw[AH] at e;subst e;refine q p C1 B g ?_;rw[m,D]
   |cons c es=>cases hz
theorem Vp(T:Tx W a):∀{n:Nat},n<=22->Ok W a (n+1) 49 ["_law_rule"] (Hw n)
 |0,_=>gY fun ts C Q ⟨r,_,_,h,_⟩=>by
  have:=Be.1 (Nat.le_zero.1 h);exact r.lz this
 |n+1,h=>GD T (Nat.le_of_succ_le h) (Vp T (Nat.le_of_succ_le h))
inductive lC(ts:List PV)(C:CH)(Q:K1):Prop
 |mk(p:Addr)(ws:List Str)(o:Option Rk)(z0:ts=[.ref p,pK o])(zm:C p=some (.lst (ws.map PV.str)))(zw:∀w∈ws,Wo w)(zl:ws.length<=60)(zg:rm o)(z1:∀C',Gr C C'->Q (.str (iQ (ws++jj o))) C')
def Vr(T:Tx W a):Ok W a 24 50 U8 lC:=by
 have S:=(T.F 50 rfl).s;have O:=Vp T (n:=22) (AO _);refine(T.F 50 rfl).ok (fun ts C R h=>?_) fun U A Z s H E M=>⟨_,(kQ (uQ (tK wQ (aQ oQ tQ (cv 0) (rP (ct2 zM dG (cv 1) eJ) (mQ (dN wQ)) (cf (T.F 49 rfl) O M (dN (cv 1)))))))),?_⟩
 .obtain ⟨_,_,_,rfl,_⟩:=h;rfl
 rintro ts C R ⟨p,ws,o,rfl,m,N,Y,g,q⟩
 have I:∀p1 C1,Gr C C1->C1 p1=some (.lst ((jj o).map PV.str))->qP (.ref p) (.ref p1) C1 fun x C2=>nP (.str " ") [x] C2 R:=by
  intro p1 C1 B D;refine rR (B _ _ m) D (by rw[AB,AB];have:=g.wo.2;exact AR (show ws.length+_<=100 by omega) (by decide)) fun p2 L=>?_;refine VN (ws:=ws++jj o) (by rw[zQ,AN]) (fun w h=>?_) (by rw[AA];have:=g.wo.2;omega) (q _ (B.trans (Gr.new L _)))
  rcases AQ.1 h with h | h
  .exact N w h
  .exact g.wo.1 w h
 refine⟨⟨_,rfl⟩,?_⟩
 cases o with
 |none=>exact(⟨y0 1 rfl,fun p1 J=>I p1 _ (Gr.new J _) zQ⟩:_/\_)
 |some r =>
  show(if id (oU r.pv)=true then _ else dB (Hw 22) (mK (uV 1) fU) _ _ _);rw[yE];exact Hw.mk r rfl (g r rfl).g (g r rfl).l fun p1 C1 J B D=>I p1 C1 B D
end
def Sw{x:Str}(q:Wo x):∀w∈[x],Wo w:=fun u g=>by rw[AJ.1 g];exact q
def Iv{x y:Str}(q:Wo x)(B:Wo y):∀w∈[x,y],Wo w:=by
 intro u g
 simp only[List.mem_cons,List.not_mem_nil,or_false] at g
 rcases g with rfl | rfl
 .exact q
 .exact B
def Sv{x y z:Str}(q:Wo x)(B:Wo y)(hz:Wo z):∀w∈[x,y,z],Wo w:=by
 intro u g
 simp only[List.mem_cons,List.not_mem_nil,or_false] at g
 rcases g with rfl | rfl | rfl
 .exact q
 .exact B
 .exact hz
def Hn{b:Bool}{C:CH}{Q:K1}(q:Q (.int (if b then 1 else 0)) C):Kf [.bl b] C Q:=by
 unfold Kf;exact q
def WM(b:Bool):atI [PV.str "on",PV.str "last"] (if b then 1 else 0)=some (.str (eW b)):=by cases b<;>rfl
def Rg.ko{r:Rk}(h:Rg r):rm (some r):=fun _ e=>by cases e;exact h
section
variable {W:Wd}{a:Adr}
def Mi(T:Tx W a)(d r:Nat)(h3:24<=r)(zG:Ok W a r 52 O9 (tU d)):Ok W a (r+1) 51 ["_law_line_here"] (IV (d+1)):=by
 have S:=(T.F 51 rfl).s;have pU:=(Vp T (n:=22) (AO _)).mono (show 23<=r by omega);have fW:=(Vr T).mono h3
 refine(T.F 51 rfl).ok (fun ts C R h=>?_) fun az A a3 s H E D=>⟨_,(xQ (nQ (ct2 fX qX (cx (cv 0) jQ) wQ) (kQ (uQ (aQ oQ tQ (mQ (dN (cf (T.F 50 rfl) fW D (qQ (mQ (qQ wQ (dN (cx (cv 0) jQ)))) (dN (cx (cv 0) jQ)))))) (aZ rfl (S.c (by decide +kernel)) (S.k (L:=0) rfl rfl rfl (by decide +kernel)) (uK (cx (cv 0) jQ)) (fun _ _ _ _ _=>lZ) (fun _ _ _ _ _=>(cf (T.F 50 rfl) fW D (qQ (mQ (qQ wQ (dN (cx (cv 0) jQ)))) (dN (cx (cv 0) jQ))))))))) dQ)
  (xQ (nQ (ct2 fX qX (cx (cv 0) jQ) wQ) (kQ (uQ (aQ oQ tQ (aQ oQ tQ (mQ (dN (cf (T.F 50 rfl) fW D (qQ (aQ oQ tQ (mQ (qQ wQ (dN (cx (cv 0) jQ)))) (cf (T.F 49 rfl) pU D (dN (cx (cv 0) jQ)))) (dN (cx (cv 0) jQ)))))) (cf (T.F 52 rfl) zG D (dN (cx (cv 0) jQ)))) (mQ (dN wQ))))) dQ)
  (xQ (nQ (ct2 fX qX (cx (cv 0) jQ) wQ) (kQ (uQ (aQ oQ tQ (aQ oQ tQ (aQ oQ tQ (aQ oQ tQ (mQ (dN (cf (T.F 50 rfl) fW D (qQ (mQ (dN wQ)) (dN (cx (cv 0) jQ)))))) (cf (T.F 52 rfl) zG D (dN (cx (cv 0) jQ)))) (mQ (dN wQ))) (cf (T.F 52 rfl) zG D (dN (cx (cv 0) jQ)))) (mQ (dN wQ))))) dQ)
  (xQ (nQ (ct2 fX qX (cx (cv 0) jQ) wQ) (kQ (uQ (aQ oQ tQ (aQ oQ tQ (mQ (dN (cf (T.F 50 rfl) fW D (qQ (mQ (qQ wQ (dN (cx (cv 0) jQ)))) (dN (cx (cv 0) jQ)))))) (cf (T.F 52 rfl) zG D (dN (cx (cv 0) jQ)))) (mQ (dN wQ))))) dQ)
  (xQ (jb 1 S.nd (aQ oQ tQ (mQ (dN (cf (T.F 50 rfl) fW D (qQ (mQ (qQ wQ (dN (cx (cv 0) jQ)))) (dN (cx (cv 0) jQ)))))) (aZ rfl (S.c (by decide +kernel)) (S.k (L:=0) rfl rfl rfl (by decide +kernel)) (uK (cx (cv 0) jQ)) (fun _ _ _ _ _=>lZ) (fun _ _ _ _ _=>(cf (T.F 50 rfl) fW D (qQ (mQ (qQ wQ (dN (cx (cv 0) jQ)))) (dN (cx (cv 0) jQ))))))))
  (xQ (gW PassesOwn.never rfl (cx (cv 0) jQ) (Wr rfl (lW (qi 2 S.nd) (lW (qi 3 S.nd) (lW (qi 4 S.nd) (lW (qi 5 S.nd) Z2))))) (xQ (wX (cap (cv 1) (tK wQ (mQ (qQ wQ (qQ (cv 2) (qQ (dZ zK rY rfl T.lB rfl (dN (cv 3))) (dN (cx (mQ (qQ wQ (dN wQ))) (dZ wY qF rfl T.wF rfl (dN (cv 4))))))))))))
  (kQ (jb 1 S.nd (aQ oQ tQ (cv 1) (aZ rfl (S.c (by decide +kernel)) (S.k (L:=0) rfl rfl rfl (by decide +kernel)) (uK (cv 5)) (fun _ _ _ _ _=>lZ) (fun _ _ _ _ _=>(cf (T.F 50 rfl) fW D (qQ (mQ (qQ wQ (qQ (cx (cv 0) jQ) (dN (cx (cv 0) jQ))))) (dN (cx (cv 0) jQ)))))))))))
  (kQ (uQ (aQ oQ tQ (aQ oQ tQ (cv 1) (cf (T.F 52 rfl) zG D (dN (cx (cv 0) jQ)))) (mQ (dN wQ))))))))))),?_⟩
 .obtain ⟨_,rfl,_⟩:=h;rfl
 rintro ts C R ⟨l,rfl,q,hl,aj⟩
 cases l with
 |plain k ag s h af =>
  have l0:(s.map (o5 "set")).length+((h.flatMap Hd.ie).length+((Ln.ik af).length+1))+1<=1000:=by
   have:=hl;unfold Ln.rows at this
   simpa only[List.length_cons,List.length_append,List.length_nil,Nat.zero_add] using this
  refine bQ rfl (fQ (yQ _ _) (cQ (by decide +kernel) ?_));refine bQ rfl (fQ (yQ _ _) (cQ (by decide +kernel) ?_));refine bQ rfl (fQ (yQ _ _) (cQ (by decide +kernel) ?_));refine bQ rfl (fQ (yQ _ _) (cQ (by decide +kernel) ?_));refine bQ rfl ⟨y0 2 rfl,fun p1 aa=>bQ rfl (lC.mk p1 ["plain",ag] k rfl zQ (Iv (yZ (by decide +kernel)) (gJ q.1.2)) (by show 2<=60;decide) q.1.1 fun C1 Y=>⟨y0 1 rfl,fun p2 ab=>?_⟩)⟩
  have m2:(gQ C1 p2 (.lst [PV.str (iQ ([("plain" : Str),ag]++jj k))])) p2=some (.lst (jq ["plain" :: ag::jj k])):=zQ;have O:Gr C (gQ C1 p2 (.lst [PV.str (iQ ([("plain" : Str),ag]++jj k))])):=((Gr.new aa _).trans Y).trans (Gr.new ab _);dsimp only[ig.wn];generalize gQ C1 p2 (.lst [PV.str (iQ ([("plain" : Str),ag]++jj k))])=C2 at *
  refine bQ rfl (Q1 (w:=o5 "set") (by have:=q.2.1.1.2;omega) (fun c Z C3 J L hL=>?_) fun p3 C3 ak J m3=>jd (J _ _ m2) m3 (by show 1+_<=_;omega) fun p4 C4 ar g4 m4=>?_)
  .exact bQ rfl ⟨y0 2 rfl,fun p5 ae=>bQ rfl (lC.mk p5 ["set",c.1] (some c.2) rfl zQ (Iv (yZ (by decide +kernel)) (gJ (q.2.1.1.1 c Z).1)) (by show 2<=60;decide) (q.2.1.1.1 c Z).2.ko fun C6 g6=>hL _ ((Gr.new ae _).trans g6))⟩
  have n4:C p4=none:=kZ (O.trans J) ar;have au:Gr C C4:=O.trans (J.trans g4);refine aJ (wA (bQ rfl ?_));refine sJ (fun zs ρ C'=>∃ds es p x2 x3 x4 x5,ds++es=h/\zs=es.map Hd.pv/\ρ=[some (Ln.plain k ag s h af).pv,some (.ref p),x2,x3,x4,x5]/\C' p=some (.lst (jq (((("plain" : Str)::ag::jj k)::s.map (o5 "set"))++ds.flatMap Hd.ie)))/\C p=none/\Gr C C') ?_ ?_ _ _ _ ⟨[],h,p4,_,_,_,_,rfl,rfl,rfl,by rw[m4];simp,n4,au⟩
  .rintro z zs ρ C5 ⟨ds,es,p,x2,x3,x4,x5,e,hz,rfl,m,N,g⟩ L hL
   cases es with
   |nil=>cases hz
   |cons x es =>
    obtain⟨rfl,rfl⟩:=Ab hz;have hh:=q.2.1.2.1 x (by rw[<- e];simp)
    have ll:(s.map (o5 "set")).length+1+(ds.flatMap Hd.ie).length+(1+(x.ch.map vf).length)<=1000:=by
     have e3:(ds++x::es).flatMap Hd.ie=ds.flatMap Hd.ie++(x.ie++es.flatMap Hd.ie):=Az;rw[<- e,e3,AA,AA] at l0;have:x.ie.length=(x.ch.map vf).length+1:=rfl;omega
    refine⟨rfl,qZ m,⟨_,rfl⟩,fF (by have:=hh.r1;have:=hh.r3;omega) ⟨y0 2 rfl,fun p6 ao=>Hn (vZ zQ (WM _) ⟨y0 4 rfl,fun p7 ah=>fY (ws:=u5 x) zQ (fun u hu=>?_) (by show 4<=100;decide) (Gb (ws:=u5 x) N (g.trans ((Gr.new ao _).trans (Gr.new ah _))) (Gr.new ah _ _ _ (Gr.new ao _ _ _ m)) rfl (by rw[AA,AD];omega) fun C8 U m8=>?_)⟩)⟩⟩
    .unfold u5 at hu
     simp only[List.mem_cons,List.not_mem_nil,or_false] at hu
     rcases hu with rfl | rfl | rfl | rfl
     .exact (yZ (by decide +kernel)).l
     .exact (gJ hh.ev).l
     .exact (kM ⟨by have:=hh.r1;omega,by have:=hh.r3;omega⟩).l
     .exact (sE _).l
    refine Q1 (w:=vf) (by have:=hh.cl;omega) (fun c Z C9 g9 L' av=>?_) fun p9 C9 I g9 m9=>jd (g9 _ _ m8) m9 (by rw[AA,AA,AD];show _+_+1+_<=_;omega) fun pA ay aw gA mA=>hL _ _ ⟨ds++[x],es,pA,_,_,_,_,by rw[AG];exact e,rfl,rfl,?_,kZ (U.trans g9) aw,U.trans (g9.trans gA)⟩
    .exact bQ rfl (bQ rfl ⟨y0 3 rfl,fun p5 ae=>bQ rfl (lC.mk p5 ["change",c.1,c.2.1] (some c.2.2) rfl zQ (Sv (yZ (by decide +kernel)) (gJ (hh.ch c Z).1) (Wq (hh.ch c Z).2.1)) (by show 3<=60;decide) (hh.ch c Z).2.2.ko fun C6 g6=>av _ ((Gr.new ae _).trans g6))⟩)
    .rw [mA]
     have e3:(ds++[x]).flatMap Hd.ie=ds.flatMap Hd.ie++(x.ie++[]):=Az;rw[e3,AH];show _=some (CO.lst (jq (_++(_++(u5 x::x.ch.map vf)))))
     simp only[List.append_assoc,List.cons_append,List.nil_append]
  .rintro ρ C5 ⟨ds,es,p5,x2,x3,x4,x5,e,hz,rfl,m5,ae,g5⟩
   cases es with
   |cons c es=>cases hz
   |nil =>
    rw[AH] at e;subst e;refine bQ rfl (tU.mk af (by rw[Ln.iT]) q.2.2.1 (by omega) fun p7 C7 ah M m7=>jd (M _ _ m5) m7 (by rw[AA];show _+1+_+_<=_;omega) fun p8 C8 aq U m8=>⟨y0 1 rfl,fun p9 I=>jd (ys:=[["end"]]) (Gr.new I _ _ _ m8) zQ (by rw[AA,AA];show _+1+_+_+1<=_;omega) fun p C' N g' m'=>?_⟩)
    have B:=g5.trans (M.trans (U.trans (Gr.new I (.lst [.str "end"]))));refine aj p C' (kZ B N) (B.trans g') ?_;rw[m'];unfold Ln.rows
    simp only[List.append_assoc,List.cons_append,List.nil_append]
 |part k n g =>
  have l0:(g.map (o5 "with")).length+1<=1000:=by
   have:=hl;unfold Ln.rows at this
   simpa only[List.length_cons,List.length_append,List.length_nil,Nat.zero_add] using this
  refine bQ rfl (fQ (yQ _ _) (tX (by decide +kernel) ?_));refine bQ rfl ⟨y0 2 rfl,fun p1 aa=>bQ rfl (lC.mk p1 ["draw",n] k rfl zQ (Iv (yZ (by decide +kernel)) (gJ q.1.2)) (by show 2<=60;decide) q.1.1 fun C1 Y=>⟨y0 1 rfl,fun p2 ab=>?_⟩)⟩;have m2:(gQ C1 p2 (.lst [PV.str (iQ ([("draw" : Str),n]++jj k))])) p2=some (.lst (jq ["draw" :: n::jj k])):=zQ;have O:Gr C (gQ C1 p2 (.lst [PV.str (iQ ([("draw" : Str),n]++jj k))])):=((Gr.new aa _).trans Y).trans (Gr.new ab _)
  dsimp only[ig.wn];generalize gQ C1 p2 (.lst [PV.str (iQ ([("draw" : Str),n]++jj k))])=C2 at *
  refine bQ rfl (Q1 (w:=o5 "with") (by have:=q.2.2;omega) (fun c Z C3 J L hL=>?_) fun p3 C3 ak J m3=>jd (J _ _ m2) m3 (by show 1+_<=_;omega) fun p C' N g' m'=>?_)
  .exact bQ rfl ⟨y0 2 rfl,fun p5 ae=>bQ rfl (lC.mk p5 ["with",c.1] (some c.2) rfl zQ (Iv (yZ (by decide +kernel)) (gJ (q.2.1 c Z).1)) (by show 2<=60;decide) (q.2.1 c Z).2.ko fun C6 g6=>hL _ ((Gr.new ae _).trans g6))⟩
  have B:=O.trans J;refine aj p C' (kZ B N) (B.trans g') ?_;rw[m'];unfold Ln.rows
  simp only[List.append_assoc,List.cons_append,List.nil_append]
 |give k n r af =>
  have l0:((Ln.ik af).length+1)+1<=1000:=by
   have:=hl;unfold Ln.rows at this
   simpa only[List.length_cons,List.length_append,List.length_nil,Nat.zero_add] using this
  refine bQ rfl (fQ (yQ _ _) (cQ (by decide +kernel) ?_));refine bQ rfl (fQ (yQ _ _) (tX (by decide +kernel) ?_));refine bQ rfl ⟨y0 2 rfl,fun p1 aa=>bQ rfl (Hw.mk r rfl q.2.1.g q.2.1.l fun p0 C0 a0 g0 ax=>rR (xs:=[.str "give",.str n]) (g0 _ _ zQ) ax (by have:=q.2.1.l;rw[AB];exact AR (show 2+r.ie.length<=100 by omega) (by decide)) fun p3 ak=>bQ rfl (lC.mk p3 (("give" : Str)::n::r.ie) k rfl zQ (fun w ai=>?_) (by show r.ie.length+1+1<=60;have:=q.2.1.l;omega) q.1.1 fun C1 Y=>⟨y0 1 rfl,fun p2 ab=>?_⟩))⟩
  .rcases AX.1 ai with rfl | ai
   .exact yZ (by decide +kernel)
   .rcases AX.1 ai with rfl | ai
    .exact gJ q.1.2
    .exact Rk.wo q.2.1.g w ai
  have m2:(gQ C1 p2 (.lst [PV.str (iQ ((("give" : Str)::n::r.ie)++jj k))])) p2=some (.lst (jq ["give" :: n::(r.ie++jj k)])):=zQ;have O:Gr C (gQ C1 p2 (.lst [PV.str (iQ ((("give" : Str)::n::r.ie)++jj k))])):=((((Gr.new aa _).trans g0).trans (Gr.new ak _)).trans Y).trans (Gr.new ab _);dsimp only[ig.wn];generalize gQ C1 p2 (.lst [PV.str (iQ ((("give" : Str)::n::r.ie)++jj k))])=C2 at *
  refine bQ rfl (tU.mk af (by rw[Ln.iT]) q.2.2.1 (by omega) fun p7 C7 ah M m7=>jd (M _ _ m2) m7 (by show 1+_<=_;omega) fun p8 C8 aq U m8=>⟨y0 1 rfl,fun p9 I=>jd (ys:=[["end"]]) (Gr.new I _ _ _ m8) zQ (by rw[AA];show 1+_+1<=_;omega) fun p C' N g' m'=>?_⟩);have B:=O.trans (M.trans (U.trans (Gr.new I (.lst [.str "end"]))));refine aj p C' (kZ B N) (B.trans g') ?_
  rw[m'];unfold Ln.rows
  simp only[List.append_assoc,List.cons_append,List.nil_append]
 |when r l1 l2 =>
  have l0:((Ln.ik l1).length+((Ln.ik l2).length+1+1))+1<=1000:=by
   have:=hl;unfold Ln.rows at this
   simpa only[List.length_cons,List.length_append,List.length_nil,Nat.zero_add] using this
  refine bQ rfl (fQ (yQ _ _) (cQ (by decide +kernel) ?_));refine bQ rfl (fQ (yQ _ _) (cQ (by decide +kernel) ?_));refine bQ rfl (fQ (yQ _ _) (tX (by decide +kernel) ?_));refine⟨y0 1 rfl,fun p1 aa=>bQ rfl (lC.mk p1 ["when"] (some r) rfl zQ (Sw (yZ (by decide +kernel))) (by show 1<=60;decide) q.1.ko fun C1 Y=>⟨y0 1 rfl,fun p2 ab=>?_⟩)⟩;have m2:(gQ C1 p2 (.lst [PV.str (iQ ([("when" : Str)]++jj (some r)))])) p2=some (.lst (jq ["when" :: r.ie])):=zQ
  have O:Gr C (gQ C1 p2 (.lst [PV.str (iQ ([("when" : Str)]++jj (some r)))])):=((Gr.new aa _).trans Y).trans (Gr.new ab _);dsimp only[ig.wn];generalize gQ C1 p2 (.lst [PV.str (iQ ([("when" : Str)]++jj (some r)))])=C2 at *
  refine bQ rfl (tU.mk l1 (by rw[Ln.iT]) q.2.1.1 (by omega) fun p3 C3 ak J m3=>jd (J _ _ m2) m3 (by show 1+_<=_;omega) fun p4 C4 ar g4 m4=>⟨y0 1 rfl,fun p5 ae=>jd (ys:=[["else"]]) (Gr.new ae _ _ _ m4) zQ (by rw[AA];show 1+_+1<=_;omega) fun p6 C6 ao g6 m6=>bQ rfl (tU.mk l2 (by rw[Ln.iT]) q.2.2.1 (by omega) fun p7 C7 ah M m7=>jd (M _ _ m6) m7 (by rw[AA,AA];show 1+_+1+_<=_;omega) fun p8 C8 aq U m8=>⟨y0 1 rfl,fun p9 I=>jd (ys:=[["end"]]) (Gr.new I _ _ _ m8) zQ (by rw[AA,AA,AA];show 1+_+1+_+1<=_;omega) fun p C' N g' m'=>?_⟩)⟩)
  have B:=O.trans (J.trans (g4.trans ((Gr.new ae (.lst [.str "else"])).trans (g6.trans (M.trans (U.trans (Gr.new I (.lst [.str "end"]))))))));refine aj p C' (kZ B N) (B.trans g') ?_;rw[m'];unfold Ln.rows
  simp only[List.append_assoc,List.cons_append,List.nil_append]
 |each n r af =>
  have l0:((Ln.ik af).length+1)+1<=1000:=by
   have:=hl;unfold Ln.rows at this
   simpa only[List.length_cons,List.length_append,List.length_nil,Nat.zero_add] using this
  refine bQ rfl (fQ (yQ _ _) (cQ (by decide +kernel) ?_));refine bQ rfl (fQ (yQ _ _) (cQ (by decide +kernel) ?_));refine bQ rfl (fQ (yQ _ _) (cQ (by decide +kernel) ?_));refine bQ rfl (fQ (yQ _ _) (tX (by decide +kernel) ?_));refine bQ rfl ⟨y0 2 rfl,fun p1 aa=>bQ rfl (lC.mk p1 ["each",n] (some r) rfl zQ (Iv (yZ (by decide +kernel)) (gJ q.1.2)) (by show 2<=60;decide) q.1.1.ko fun C1 Y=>⟨y0 1 rfl,fun p2 ab=>?_⟩)⟩
  have m2:(gQ C1 p2 (.lst [PV.str (iQ ([("each" : Str),n]++jj (some r)))])) p2=some (.lst (jq ["each" :: n::r.ie])):=zQ;have O:Gr C (gQ C1 p2 (.lst [PV.str (iQ ([("each" : Str),n]++jj (some r)))])):=((Gr.new aa _).trans Y).trans (Gr.new ab _);dsimp only[ig.wn];generalize gQ C1 p2 (.lst [PV.str (iQ ([("each" : Str),n]++jj (some r)))])=C2 at *
  refine bQ rfl (tU.mk af (by rw[Ln.iT]) q.2.1 (by omega) fun p7 C7 ah M m7=>jd (M _ _ m2) m7 (by show 1+_<=_;omega) fun p8 C8 aq U m8=>⟨y0 1 rfl,fun p9 I=>jd (ys:=[["end"]]) (Gr.new I _ _ _ m8) zQ (by rw[AA];show 1+_+1<=_;omega) fun p C' N g' m'=>?_⟩);have B:=O.trans (M.trans (U.trans (Gr.new I (.lst [.str "end"]))));refine aj p C' (kZ B N) (B.trans g') ?_
  rw[m'];unfold Ln.rows
  simp only[List.append_assoc,List.cons_append,List.nil_append]
def Vu(T:Tx W a)(d r:Nat)(oS:Ok W a r 51 ["_law_line_here"] (IV d)):Ok W a (r+1) 52 O9 (tU d):=by
 have S:=(T.F 52 rfl).s
 refine(T.F 52 rfl).ok (fun ts C R h=>?_) fun ae A ag s H E aa=>⟨_,(xQ (jb 1 S.nd (mQ aX))
  (xQ (gW PassesOwn.never rfl (cv 0) (qi 2 S.nd) (kQ (jb 1 S.nd (aQ oQ tQ (cv 1) (cf (T.F 51 rfl) oS aa (dN (cv 2)))))))
  (kQ (uQ (cv 1))))),?_⟩
 .obtain ⟨_,rfl,_⟩:=h;rfl
 rintro ts C R ⟨I,rfl,U,D,ab⟩;refine⟨AM _,fun p q=>?_⟩;dsimp only[ig.wn];refine aJ (aL rfl (sJ (fun zs M C'=>∃ds es p J,ds++es=I/\zs=es.map Ln.pv/\M=[some (.tup (I.map Ln.pv)),some (.ref p),J]/\C' p=some (.lst (jq (Ln.ik ds)))/\C p=none/\Gr C C') ?_ ?_ _ _ _ ⟨[],I,p,_,rfl,rfl,rfl,zQ,q,Gr.new q _⟩))
 .rintro z zs M C1 ⟨ds,es,p,J,e,hz,rfl,m,q,g⟩ L O
  cases es with
  |nil=>cases hz
  |cons l es =>
   obtain⟨rfl,rfl⟩:=Ab hz;have Y:=U l (by rw[<- e];simp)
   have ll:(Ln.ik ds).length+(l.rows.length+(Ln.ik es).length)<=1000:=by
    rw[<- e,tM,AA] at D;have:Ln.ik (l::es)=l.rows++Ln.ik es:=rfl;rw[this,AA] at D;exact D
   refine IV.mk l rfl Y (by omega) fun p3 C3 af B m3=>jd (B _ _ m) m3 (by omega) fun p4 C4 Z N m4=>O _ _ ⟨ds++[l],es,p4,_,by rw[AG];exact e,rfl,rfl,?_,kZ (g.trans B) Z,g.trans (B.trans N)⟩;rw[m4,tM];show _=some (CO.lst (jq (_++(l.rows++[]))));rw[AH]
 .rintro M C1 ⟨ds,es,p,J,e,hz,rfl,m,q,g⟩
  cases es with
  |nil =>
   rw[AH] at e;subst e;exact ab p C1 q g m
  |cons c es=>cases hz
theorem ZE(T:Tx W a):∀d,Ok W a (2 * d+25) 52 O9 (tU d)
 |0=>Vu T 0 24 (gY fun ts C Q ⟨l,_,h,_,_⟩=>by cases l<;>exact h)
 |d+1=>Vu T (d+1) (2 * d+26) (Mi T d (2 * d+25) (by omega) (ZE T d))
def Ef(n t:Str):("box " : Str)++n ++ " " ++ t=iQ ["box",n,t]:=by
 show _=("box" : Str) ++ " " ++ (n ++ " " ++ t);rw[show("box " : Str) = "box" ++ " " from by decide +kernel,oM ("box" ++ " ") n " ",oM ("box" ++ " ")]
def Vm(n:Str):("part " : Str)++n=iQ ["part",n]:=by
 show _=("part" : Str) ++ " " ++ n;rw[show("part " : Str) = "part" ++ " " from by decide +kernel]
def kL{x y:Str}{C:CH}{Q:K1}(l:x.length+y.length<=1000)(q:Q (.str (x++y)) C):qP (.str x) (.str y) C Q:=by
 delta qP
 exact⟨AR l (by decide),q⟩
def jE(x y:Str):(x++y).length=x.length+y.length:=PySem.Str.length_append x y
def G3(T:Tx W a):Ok W a 38 53 ["_law_house_here"] JU:=by
 have S:=(T.F 53 rfl).s;have fW:=(Vr T).mono (show 24<=37 by decide);have zG:=ZE T 6
 refine(T.F 53 rfl).ok (fun ts C R h=>?_) fun aj A aw s H E af=>⟨_,(xQ (jb 1 S.nd (mQ aX))
  (xQ (gW PassesOwn.never rfl (cv 0) (Wr rfl (lW (qi 2 S.nd) (lW (qi 3 S.nd) (lW (qi 4 S.nd) (lW (qi 5 S.nd) Z2))))) (xQ (jb 1 S.nd (aQ oQ tQ (aQ oQ tQ (cv 1) (mQ (dN (aQ oQ tQ wQ (cv 2))))) (aZ rfl (S.c (by decide +kernel)) (S.k (L:=0) rfl rfl rfl (by decide +kernel)) (uK (cv 3)) (fun _ _ _ _ _=>lZ) (fun _ _ _ _ _=>(aQ oQ tQ (aQ oQ tQ (aQ oQ tQ wQ (cx (cv 0) jQ)) wQ) (dZ zK rY rfl T.lB rfl (dN (cx (cv 0) jQ))))))))
  (kQ (jb 1 S.nd (aQ oQ tQ (aQ oQ tQ (cv 1) (aZ rfl (S.c (by decide +kernel)) (S.k (L:=0) rfl rfl rfl (by decide +kernel)) (uK (cv 4)) (fun _ _ _ _ _=>lZ) (fun _ _ _ _ _=>(cf (T.F 50 rfl) fW af (qQ (mQ (qQ wQ (dN (cx (cv 0) jQ)))) (dN (cx (cv 0) jQ))))))) (cf (T.F 52 rfl) zG af (dN (cv 5))))))))
  (kQ (uQ (cv 1))))),?_⟩
 .obtain ⟨_,rfl,_⟩:=h;rfl
 rintro ts C R ⟨Z,rfl,hg,hl,ai⟩;refine⟨AM _,fun p B=>?_⟩;dsimp only[ig.wn];refine aJ (aL rfl (sJ (fun zs ρ C'=>∃ds es p x2 x3 x4 x5,ds++es=Z/\zs=es.map Pt.pv/\ρ=[some (.tup (Z.map Pt.pv)),some (.ref p),x2,x3,x4,x5]/\C' p=some (.lst (jq (nX ds)))/\C p=none/\Gr C C') ?_ ?_ _ _ _ ⟨[],Z,p,_,_,_,_,rfl,rfl,rfl,zQ,B,Gr.new B _⟩))
 .rintro z zs ρ C1 ⟨ds,es,p,x2,x3,x4,x5,e,hz,rfl,m,B,g⟩ L hL
  cases es with
  |nil=>cases hz
  |cons x es =>
   obtain⟨rfl,rfl⟩:=Ab hz;have q:=hg x (by rw[<- e];simp)
   have ll:(nX ds).length+((x.first.map FZ).length+((x.works.map (o5 "work")).length+(Ln.ik x.ls).length)+1)<=1000:=by
    have O:nX (ds++x::es)=nX ds++(x.rows++nX es):=Az;rw[<- e,O,AA,AA] at hl
    have:x.rows.length=(x.first.map FZ).length+((x.works.map (o5 "work")).length+(Ln.ik x.ls).length)+1:=by
     unfold Pt.rows;rw[AD,AA,AA]
    omega
   have av:=OD q.nm;have c5:("part " : Str).length=5:=by decide +kernel
   have c4:("box " : Str).length=4:=by decide +kernel
   have c1:(" " : Str).length=1:=by decide +kernel
   refine⟨rfl,kL (by omega) ⟨y0 1 rfl,fun p1 ab=>jd (ys:=[["part",x.name]]) (Gr.new ab _ _ _ m) (by rw[zQ,Vm];rfl) (by show _+1<=_;omega) fun p2 C2 ak ag m2=>?_⟩⟩;have aa:Gr C C2:=g.trans ((Gr.new ab _).trans ag);refine Q1 (f:=qY) (w:=FZ) (by have:=q.fl;omega) (fun c N C3 D L' Y=>?_) fun p3 C3 ao D m3=>jd (D _ _ m2) m3 (by rw[AA];show _+1+_<=_;omega) fun p4 C4 aq g4 m4=>?_
   .have M:=q.fs c N
    have l1:=OD M.1;have l2:=(kM M.2).len;refine bQ rfl (kL (by omega) (kL (by rw[jE];omega) (bQ rfl (fF (by have:=M.2.1;have:=M.2.2;omega) (kL (by rw[jE,jE];omega) ?_)))));rw[Ef];exact Y _ Gr.refl
   dsimp only[ig.wn];refine Q1 (f:=iJ) (w:=o5 "work") (by have:=q.wk.2;omega) (fun c N C5 I L' Y=>?_) fun p5 C5 ae I m5=>jd (I _ _ m4) m5 (by rw[AA,AA];show _+1+_+_<=_;omega) fun p6 C6 ar J m6=>tU.mk x.ls (by rw[Ln.iT]) q.ls (by omega) fun p7 C7 au U m7=>jd (U _ _ m6) m7 (by rw[AA,AA,AA];show _+1+_+_+_<=_;omega) fun p8 C8 ah g8 m8=>hL _ _ ⟨ds++[x],es,p8,_,_,_,_,by rw[AG];exact e,rfl,rfl,?_,kZ (aa.trans (D.trans (g4.trans (I.trans (J.trans U))))) ah,aa.trans (D.trans (g4.trans (I.trans (J.trans (U.trans g8)))))⟩
   .exact bQ rfl ⟨y0 2 rfl,fun p5 ae=>bQ rfl (lC.mk p5 ["work",c.1] (some c.2) rfl zQ (Iv (yZ (by decide +kernel)) (gJ (q.wk.1 c N).1)) (by show 2<=60;decide) (q.wk.1 c N).2.ko fun C6 J=>Y _ ((Gr.new ae _).trans J))⟩
   .rw [m8]
    have O:nX (ds++[x])=nX ds++(x.rows++[]):=Az;rw[O,AH];unfold Pt.rows
    simp only[List.append_assoc,List.cons_append,List.nil_append]
 .rintro ρ C1 ⟨ds,es,p,x2,x3,x4,x5,e,hz,rfl,m,B,g⟩
  cases es with
  |nil =>
   rw[AH] at e;subst e;exact ai p C1 B g m
  |cons c es=>cases hz
end
def Rk.ins:Rk->List Rk
 |.bin _ x y=>[x,y]
 |.pick x y z=>[x,y,z]
 |_=>[]
def Rk.sz:Rk->Nat
 |.bin _ x y=>1+(x.sz+y.sz)
 |.pick x y z=>1+(x.sz+(y.sz+z.sz))
 |_=>1
def q8(g:List Rk):Nat:=(g.map Rk.sz).sum
theorem Rk.su:∀r:Rk,r.sz=1+q8 r.ins
 |.num _=>rfl
 |.turn _=>rfl
 |.ask _ _=>rfl
 |.bin _ _ _=>rfl
 |.pick _ _ _=>rfl
def uG(a b:List Rk):q8 (a++b)=q8 a+q8 b:=by unfold q8;rw[AN,List.sum_append]
def Rk.Gi(r:Rk):1<=r.sz:=by rw[r.su];omega
def bH(g:List Rk):g.length<=q8 g:=by
 induction g with
 |nil=>exact AM _
 |cons r g q=>show g.length+1<=r.sz+q8 g;have:=r.Gi;omega
def Rk.u6{r:Rk}(h:r.gd):∀x∈r.ins,x.gd:=by
 intro x g
 cases r with
 |num i=>cases g
 |turn n=>cases g
 |ask s n=>cases g
 |bin w y z =>
  simp only[Rk.ins,List.mem_cons,List.not_mem_nil,or_false] at g
  rcases g with rfl | rfl
  .exact h.2.1
  .exact h.2.2
 |pick y z v =>
  simp only[Rk.ins,List.mem_cons,List.not_mem_nil,or_false] at g
  rcases g with rfl | rfl | rfl
  .exact h.1
  .exact h.2.1
  .exact h.2.2
def sb:Nat->Nat
 |0=>1
 |d+1=>1+3 * sb d
theorem Rk.qx{bs τ:List Str}:∀{d:Nat}{r:Rk},r.ok bs τ d->r.sz<=sb d
 |d,.num i,_=>by show 1<=sb d;cases d<;>simp[sb]
 |d,.turn n,_=>by show 1<=sb d;cases d<;>simp[sb]
 |d,.ask s n,_=>by show 1<=sb d;cases d<;>simp[sb]
 |0,.bin _ _ _,h=>h.elim
 |0,.pick _ _ _,h=>h.elim
 |d+1,.bin w x y,h=>by
  have:=Rk.qx h.2.1;have:=Rk.qx h.2.2;show 1+(x.sz+y.sz)<=1+3 * sb d;omega
 |d+1,.pick x y z,h=>by
  have:=Rk.qx h.1;have:=Rk.qx h.2.1;have:=Rk.qx h.2.2;show 1+(x.sz+(y.sz+z.sz))<=1+3 * sb d;omega
section
variable {W:Wd}{a:Adr}
inductive vq(ts:List PV)(C:CH)(Q:K1):Prop
 |mk(z:Str)(z0:ts=[.str z])(zn:zZ z=true)(z1:∀C',Gr C C'->Q (.bl true) C')
def bY(T:Tx W a){k:Nat}:Ok W a (k+1) 1 ["thing"] vq:=by
 have S:=(T.F 1 rfl).s
 refine(T.F 1 rfl).ok (fun ts C R h=>?_) fun M A U s H E O=>⟨_,(xQ (nQ (iz (jl (sX (bX (gX uX iZ rfl T.kX rfl (qQ (cv 0) (dN (aK (n:="str") rfl T.lB rfl)))))) (je (sX (eD yF yF aG aG jQ (kh T.rZ (cv 0)) (oX (v:=.int 8) (t:=.int 8) rfl T.gS ⟨_,rfl⟩ (fun _=>.int _))))))) (kQ (uQ fZ)) dQ)
  (kQ (uQ (gX (nW rfl) lG rfl T.vP rfl (dN (aZ rfl (S.c (by decide +kernel)) (S.k (L:=0) rfl rfl rfl (by decide +kernel)) (Wp (cv 0)) (fun _ _ _ _ _=>lZ) (fun _ _ _ _ _=>(jJ rT Z0 (cv 0) (oX (v:=.str "abcdefghijklmnopqrstuvwxyz") (t:=.str "abcdefghijklmnopqrstuvwxyz") rfl T.V2 ⟨_,rfl⟩ (fun _=>.str _)) rfl)))))))),?_⟩
 .obtain ⟨_,rfl,_⟩:=h;rfl
 rintro ts C R ⟨z,rfl,hz,q⟩;have B:z.length<=sizeLine:=AR (OD hz) (by decide);unfold zZ at hz;rw[Ax,Ax] at hz;refine iX rfl rfl (wZ (Fi B (jo (lJ (fun h1=>?_) fun h1=>?_))))
 .refine jo ?_
  rw[hz.1.2];refine wZ (lQ ?_)
  try dsimp only
  refine oV (fun s=>match s with | .str u=>.bl (!(Builtin.Str.occurrences ("abcdefghijklmnopqrstuvwxyz" : Str) u 0 ("abcdefghijklmnopqrstuvwxyz" : Str).length 1).isEmpty) | _=>.non) (uB z) [] C Gr.refl ?_ (fun x I C1 J g D=>?_) fun p C1 N g m=>?_
  .unfold uB
   rw[AB,A9,BZ,Cc];exact B
  .obtain ⟨c,_,rfl⟩:=AS.1 I
   exact Fp (D C1 Gr.refl)
  .refine WT (bs:=z.cps.toList.map QE) (by rw[m];unfold uB;rw[Aj,Aj];rfl) ?_
   rw[show(z.cps.toList.map QE).all id=true from by rw[List.all_map];exact hz.2];exact q C1 g
 .rw [hz.1.1] at h1
  cases h1
inductive IW(ts:List PV)(C:CH)(Q:K1):Prop
 |mk(r:Rk)(z0:ts=[r.pv])(zg:r.gd)(zi:r.ins=[])(z1:∀C',Gr C C'->Q (.bl true) C')
def Js(T:Tx W a){k:Nat}:Ok W a (k+2) 4 ["thing"] IW:=by
 have S:=(T.F 4 rfl).s;have J:=zY (k:=k) T;have L:=bY (k:=k) T
 refine(T.F 4 rfl).ok (fun ts C R h=>?_) fun M A N s H E B=>⟨_,(xQ (nQ (ct2 dD aU (kh T.rZ (cv 0)) jQ) (kQ (uQ fZ)) dQ)
  (xQ (nQ (ct2 fX qX (cx (cv 0) jQ) wQ) (kQ (uQ (cf (T.F 0 rfl) J B (dN (cx (cv 0) jQ))))) dQ)
  (kQ (uQ (zB (jJ (vU (gZ B)) iM (cx (cv 0) jQ) (oX (v:=.ref a.NAMING) (t:=.kt [.str "take",.str "box",.str "down",.str "turn"]) rfl T.xA rfl (fun H=>.kt (T.mE H) (.cons (.str _) (.cons (.str _) (.cons (.str _) (.cons (.str _) .nil)))))) rfl) (iG (cf (T.F 1 rfl) L B (dN (cx (cv 0) jQ))))))))),?_⟩
 .obtain ⟨_,rfl,_⟩:=h;rfl
 rintro ts C R ⟨r,rfl,g,hi,q⟩
 cases r with
 |num i =>
  have D:Bd i:=g;refine nZ (fQ (zX _ _) (cQ rfl (bQ rfl (fQ (yQ _ _) (tX (by decide +kernel) (bQ rfl ⟨i,rfl,?_⟩))))));rw[show iE i=true from by unfold iE;rw[Ai D.1,Ai D.2];rfl];exact q C Gr.refl
 |turn n=>exact nZ (fQ (zX _ _) (cQ rfl (bQ rfl (fQ (yQ _ _) (cQ (by decide +kernel) (bQ rfl (cK rfl rfl (tX (by decide +kernel) (bQ rfl (vq.mk n rfl g q))))))))))
 |ask s n =>
  obtain⟨hs,I⟩:=g
  rcases hs with rfl | rfl | rfl<;>exact nZ (fQ (zX _ _) (cQ rfl (bQ rfl (fQ (yQ _ _) (cQ (by decide +kernel) (bQ rfl (cK rfl rfl (tX (by decide +kernel) (bQ rfl (vq.mk n rfl I q))))))))))
 |bin w x y=>cases hi
 |pick x y z=>cases hi
end
def M8(z:Str):Option PV:=if z = "add"\/z = "times"\/z = "less" then some (.int 2) else if z = "pick" then some (.int 3) else none
def M9:List (Key×V):=[(Sum.inr "add",.int 2),(Sum.inr "times",.int 2),(Sum.inr "less",.int 2),(Sum.inr "pick",.int 3)]
def ZJ{K:DD}:∀z t,M8 z=some t->∃v,oK M9 (Sum.inr z)=some v/\∀H,Rep K H v t:=by
 intro z t h;unfold M8 at h
 split at h
 .next e =>
  cases h;exact⟨.int 2,by rcases e with rfl | rfl | rfl<;>rfl,fun H=>.int _⟩
 .split at h
  .next e =>
   cases h;exact⟨.int 3,by subst e;rfl,fun H=>.int _⟩
  .cases h
def fH{xs:List PV}{C:CH}{Q:K1}(q:∀p,C p=none->Q (.ref p) (gQ C p (.lst xs))):zI [.tup xs] C Q:=by
 delta zI
 exact q
section
variable {W:Wd}{a:Adr}
inductive O7(ts:List PV)(C:CH)(Q:K1):Prop
 |mk(r:Rk)(z0:ts=[r.pv])(zg:r.gd)(z1:nR C (r.ins.map Rk.pv) Q)
def Ql(T:Tx W a){k:Nat}:Ok W a (k+3) 3 ["thing"] O7:=by
 have S:=(T.F 3 rfl).s;have M:=Js (k:=k) T;have J:=ZJ (K:=W.K)
 refine(T.F 3 rfl).ok (fun ts C R h=>?_) fun N A U s H E L=>⟨_,(xQ (nQ (iz (jl (sX (bX (gX uX iZ rfl T.kX rfl (qQ (cv 0) (dN (aK (n:="tuple") rfl T.hZ rfl)))))) (je (ct2 fX qX (kh T.rZ (cv 0)) jQ)))) (kQ (uQ eJ)) dQ)
  (xQ (jb 1 S.nd (cx (cv 0) jQ))
  (xQ (nQ (sX (bX (gX uX iZ rfl T.kX rfl (qQ (cv 1) (dN (aK (n:="str") rfl T.lB rfl)))))) (kQ (uQ eJ)) dQ)
  (xQ (nQ (rK (jM T.gU) bM (cv 1) (oX (v:=.ref a.JOINING) (t:=.ref a.JOINING) rfl T.yU rfl (fun _=>.ref _)) rfl) (kQ (uQ (rP (ct2 fX qX (kh T.rZ (cv 0)) (aQ oQ tQ jQ (rH T.gU J (oX (v:=.ref a.JOINING) (t:=.ref a.JOINING) rfl T.yU rfl (fun _=>.ref _)) (cv 1) (fun _ _=>rfl)))) (dZ qL Z3 rfl T.wL rfl (dN (X6 (cv 0) (bW jQ) cG))) eJ))) dQ)
  (kQ (uQ (rP (bX (cf (T.F 4 rfl) M L (dN (cv 0)))) (mQ aX) eJ))))))),?_⟩
 .obtain ⟨_,rfl,_⟩:=h;rfl
 rintro ts C R ⟨r,rfl,D,q⟩
 cases r with
 |num i=>exact iX rfl rfl (wZ (nZ (fQ (zX _ _) (cQ rfl (lQ (bQ rfl (iX rfl rfl (wZ (lQ ⟨_,rfl,rfl,cQ (by decide +kernel) (lQ (IW.mk (.num i) rfl D rfl fun C' g=>tX rfl ⟨AM _,fun p B=>q p _ (kZ g B) (g.trans (Gr.new B _)) zQ⟩))⟩)))))))))
 |turn n=>exact iX rfl rfl (wZ (nZ (fQ (zX _ _) (cQ rfl (lQ (bQ rfl (iX rfl rfl (wZ (lQ ⟨_,rfl,rfl,cQ (by decide +kernel) (lQ (IW.mk (.turn n) rfl D rfl fun C' g=>tX rfl ⟨AM _,fun p B=>q p _ (kZ g B) (g.trans (Gr.new B _)) zQ⟩))⟩)))))))))
 |ask s n =>
  have I:=D;obtain⟨hs,O⟩:=D
  rcases hs with rfl | rfl | rfl
  .exact iX rfl rfl (wZ (nZ (fQ (zX _ _) (cQ rfl (lQ (bQ rfl (iX rfl rfl (wZ (lQ ⟨_,rfl,rfl,cQ (by decide +kernel) (lQ (IW.mk (.ask _ n) rfl I rfl fun C' g=>tX rfl ⟨AM _,fun p B=>q p _ (kZ g B) (g.trans (Gr.new B _)) zQ⟩))⟩)))))))))
  .exact iX rfl rfl (wZ (nZ (fQ (zX _ _) (cQ rfl (lQ (bQ rfl (iX rfl rfl (wZ (lQ ⟨_,rfl,rfl,cQ (by decide +kernel) (lQ (IW.mk (.ask _ n) rfl I rfl fun C' g=>tX rfl ⟨AM _,fun p B=>q p _ (kZ g B) (g.trans (Gr.new B _)) zQ⟩))⟩)))))))))
  .exact iX rfl rfl (wZ (nZ (fQ (zX _ _) (cQ rfl (lQ (bQ rfl (iX rfl rfl (wZ (lQ ⟨_,rfl,rfl,cQ (by decide +kernel) (lQ (IW.mk (.ask _ n) rfl I rfl fun C' g=>tX rfl ⟨AM _,fun p B=>q p _ (kZ g B) (g.trans (Gr.new B _)) zQ⟩))⟩)))))))))
 |bin w x y =>
  rcases D.1 with rfl | rfl | rfl
  .exact iX rfl rfl (wZ (nZ (fQ (zX _ _) (cQ rfl (lQ (bQ rfl (iX rfl rfl (wZ (lQ ⟨_,rfl,rfl,tX (by decide +kernel) (nZ ⟨_,_,rfl,rfl,rfl,cV (fQ (zX _ _) (tX rfl (pN (fH fun p B=>q p _ B (Gr.new B _) zQ))))⟩)⟩)))))))))
  .exact iX rfl rfl (wZ (nZ (fQ (zX _ _) (cQ rfl (lQ (bQ rfl (iX rfl rfl (wZ (lQ ⟨_,rfl,rfl,tX (by decide +kernel) (nZ ⟨_,_,rfl,rfl,rfl,cV (fQ (zX _ _) (tX rfl (pN (fH fun p B=>q p _ B (Gr.new B _) zQ))))⟩)⟩)))))))))
  .exact iX rfl rfl (wZ (nZ (fQ (zX _ _) (cQ rfl (lQ (bQ rfl (iX rfl rfl (wZ (lQ ⟨_,rfl,rfl,tX (by decide +kernel) (nZ ⟨_,_,rfl,rfl,rfl,cV (fQ (zX _ _) (tX rfl (pN (fH fun p B=>q p _ B (Gr.new B _) zQ))))⟩)⟩)))))))))
 |pick x y z=>exact iX rfl rfl (wZ (nZ (fQ (zX _ _) (cQ rfl (lQ (bQ rfl (iX rfl rfl (wZ (lQ ⟨_,rfl,rfl,tX (by decide +kernel) (nZ ⟨_,_,rfl,rfl,rfl,cV (fQ (zX _ _) (tX rfl (pN (fH fun p B=>q p _ B (Gr.new B _) zQ))))⟩)⟩)))))))))
inductive RQ(ts:List PV)(C:CH)(Q:K1):Prop
 |mk(r:Rk)(z0:ts=[r.pv])(zg:r.gd)(zs:r.sz<=20)(z1:∀C',Gr C C'->Q (.bl true) C')
def GR(T:Tx W a){k:Nat}:Ok W a (k+4) 2 ["thing"] RQ:=by
 have S:=(T.F 2 rfl).s;have jG:=Ql (k:=k) T
 refine(T.F 2 rfl).ok (fun ts C R h=>?_) fun ag A ai s H E ab=>⟨_,(xQ (jb 1 S.nd (mQ (dN (cv 0))))
  (xQ (jb 2 S.nd jQ)
  (xQ (bU PassesOwn.never (iC (cv 1)) (xQ (sA 2 S.nd jQ)
  (xQ (jb 3 S.nd (cf (T.F 3 rfl) jG ab (dN (mM AY BK BJ cF qB (cv 1)))))
  (xQ (nQ (iz (jl (ct2 zM dG (cv 3) eJ) (je (ct2 kK vJ (cv 2) (oX (v:=.int 20) (t:=.int 20) rfl T.tL ⟨_,rfl⟩ (fun _=>.int _)))))) (kQ (uQ fZ)) dQ)
  (kQ (wX (lY AY As Ar (fun p s σ H x vs v us Q=>tJ p s σ H x vs v us Q) bJ (cv 1) (dN (cv 3)))))))))
  (kQ (uQ fZ))))),?_⟩
 .obtain ⟨_,rfl,_⟩:=h;rfl
 rintro ts C R ⟨r,rfl,hg,hz,ae⟩;refine⟨y0 1 rfl,fun p J=>?_⟩;dsimp only[ig.wn];refine mX ?_;refine lX (fun af C'=>Gr C C') (fun L hL=>?_) fun af C' g=>ae C' g;refine⟨r.sz+1,cU (fun n U C'=>∃(q:List Rk)(c:Nat)(O:Option PV),n=q8 q/\c+q8 q=r.sz/\(∀x∈q,x.gd)/\U=[some r.pv,some (.ref p),some (.int c),O]/\C' p=some (.lst (q.map Rk.pv))/\Gr C C') ?_ _ r.sz _ _ (BB _) ⟨[r],0,_,by show _=r.sz+0;omega,by show 0+(r.sz+0)=_;omega,fun x D=>by rw[AJ.1 D];exact hg,rfl,zQ,Gr.new J _⟩⟩
 rintro n U C1 L1 ⟨q,c,O,rfl,Y,M,rfl,m,g⟩ aa;refine nI rfl m ?_
 rcases q.eq_nil_or_concat with rfl | ⟨ys,x,rfl⟩
 .exact xG rfl (hL _ _ g)
 .rw [CU] at *
  rw[uG,show q8 [x]=x.sz from A7 _] at Y;rw[AN] at m ⊢;refine XQ (by cases h:ys.map Rk.pv<;>rfl) ?_;refine aJ ⟨_,rfl,_,rfl,?_⟩;dsimp only[ig.wn];refine⟨qZ m,eN m (y:=x.pv) (by simp) ?_⟩;rw[show(ys.map Rk.pv++[x].map Rk.pv).dropLast=ys.map Rk.pv from BN];have N:gQ C1 p (.lst (ys.map Rk.pv)) p=some (.lst (ys.map Rk.pv)):=zQ;have Z:Gr C (gQ C1 p (.lst (ys.map Rk.pv))):=fun b o B=>(vQ (rX J B)).trans (g _ _ B)
  generalize gQ C1 p (.lst (ys.map Rk.pv))=C2 at *
  have D:=M x (by simp);have ei:=x.su;have yl:=bH ys;have il:=bH x.ins;refine O7.mk x rfl D fun p3 C3 ah I m3=>?_;dsimp only[ig.wn];refine(show cI _ _ _ _ _ from jo (cQ (Ad (by omega)) (lQ ?_)));refine⟨qZ (I _ _ N),yV (I _ _ N) m3 (by rw[AB,AB];exact AR (show _<=1000 by omega) (by decide)) ?_⟩;refine aa (q8 (ys++x.ins)) _ _ (by rw[uG,uG,show q8 [x]=x.sz from A7 _];omega) ⟨ys++x.ins,c+1,_,rfl,by rw[uG];omega,fun y hy=>?_,rfl,by rw[zQ,AN],fun b o B=>(vQ (rX J B)).trans ((Z.trans I) _ _ B)⟩
  rcases AQ.1 hy with h | h
  .exact M y (Ap _ h)
  .exact Rk.u6 D y h
end
def iL(ss:List Str):eU (ss.map PV.str)=some (ss.map V.str):=by
 induction ss with
 |nil=>rfl
 |cons s ss g =>
  show(match uO (.str s),eU (ss.map PV.str) with | some v,some vs=>some (v::vs) | _,_=>none)=_;rw[g]
  rfl
def ZN{n:Str}{ss:List Str}(h:n∈ss):inV (.str n) (ss.map V.str)=true:=by
 unfold inV;rw[List.any_eq_true];refine⟨.str n,AS.2 ⟨n,h,rfl⟩,?_⟩
 simp[eqV]
def JM{n:Str}{ss:List Str}{y:PV}{C:CH}{Q:K1}(hs:Xs C y=some (ss.map PV.str))(h:n∈ss)(q:Q (.bl true) C):Q8 false (.str n) y C Q:=by
 refine ZO hs rfl (iL ss) ?_;rw[ZN h];exact q
def ZM{n:Str}{ss:List Str}{y:PV}{C:CH}{Q:K1}(hs:Xs C y=some (ss.map PV.str))(h:n∈ss)(q:Q (.bl false) C):Q8 true (.str n) y C Q:=by
 refine ZO hs rfl (iL ss) ?_;rw[ZN h];exact q
def Rk.GX{bs τ:List Str}{d:Nat}{r:Rk}(h:r.ok bs τ d):∀y∈r.ins,∃d',y.ok bs τ d':=by
 intro y g
 cases r with
 |num i=>cases g
 |turn n=>cases g
 |ask s n=>cases g
 |bin w x z =>
  cases d with
  |zero=>exact h.elim
  |succ d =>
   simp only[Rk.ins,List.mem_cons,List.not_mem_nil,or_false] at g
   rcases g with rfl | rfl
   .exact ⟨d,h.2.1⟩
   .exact ⟨d,h.2.2⟩
 |pick x z v =>
  cases d with
  |zero=>exact h.elim
  |succ d =>
   simp only[Rk.ins,List.mem_cons,List.not_mem_nil,or_false] at g
   rcases g with rfl | rfl | rfl
   .exact ⟨d,h.1⟩
   .exact ⟨d,h.2.1⟩
   .exact ⟨d,h.2.2⟩
def tN(ss:List Str):PV:=.tup (ss.map PV.str)
section
variable {W:Wd}{a:Adr}
inductive Fv(ts:List PV)(C:CH)(Q:K1):Prop
 |mk(bs τ:List Str)(d:Nat)(r:Rk)(z0:ts=[r.pv,tN bs,tN τ])(zo:r.ok bs τ d)(zd:d<=2)(zn:qz bs τ)(z1:∀C',Gr C C'->Q (.bl true) C')
def ZD(T:Tx W a){k:Nat}:Ok W a (k+5) 10 ["thing","boxes","turns"] Fv:=by
 have S:=(T.F 10 rfl).s;have jG:=(Ql (k:=k) T).mono (B9 _);have iR:=GR (k:=k) T
 refine(T.F 10 rfl).ok (fun ts C R h=>?_) fun aj A aq s H E ab=>⟨_,(xQ (nQ (sX (bX (cf (T.F 2 rfl) iR ab (dN (cv 0))))) (kQ (uQ fZ)) dQ)
  (xQ (jb 3 S.nd (mQ (dN (cv 0))))
  (xQ (bU PassesOwn.never (iC (cv 3)) (xQ (jb 4 S.nd (mM AY BK BJ cF qB (cv 3)))
  (xQ (nQ (iz (jm (ct2 fX qX (cx (cv 4) jQ) wQ) (jh (rK lV jY (cx (cv 4) jQ) (cv 1) rfl)))) (kQ (uQ fZ)) dQ)
  (xQ (nQ (iz (jm (ct2 fX qX (cx (cv 4) jQ) wQ) (jh (rK lV jY (cx (cv 4) jQ) (cv 2) rfl)))) (kQ (uQ fZ)) dQ)
  (kQ (wX (lY AY As Ar (fun p s σ H x vs v us Q=>tJ p s σ H x vs v us Q) bJ (cv 3) (dN (cf (T.F 3 rfl) jG ab (dN (cv 4)))))))))))
  (kQ (uQ fZ))))),?_⟩
 .obtain ⟨_,_,_,_,rfl,_⟩:=h;rfl
 rintro ts C R ⟨bs,τ,d,r,rfl,J,ak,N,ah⟩
 have hz:r.sz<=20:=by
  have:=Rk.qx J;have:d=0\/d=1\/d=2:=by omega
  rcases this with rfl | rfl | rfl<;>simp[sb] at * <;> omega
 refine RQ.mk r rfl (Rk.o7 N J) hz fun C0 M=>wZ (lQ ?_);refine⟨y0 1 rfl,fun p Z=>?_⟩;have aa:C p=none:=kZ M Z;dsimp only[ig.wn];refine lX (fun ai C'=>Gr C C') (fun L hL=>?_) fun ai C' g=>ah C' g;refine⟨r.sz+1,cU (fun n ρ C'=>∃(I:List Rk)(x4:Option PV),n=q8 I/\n<=20/\(∀x∈I,∃d,x.ok bs τ d)/\ρ=[some r.pv,some (tN bs),some (tN τ),some (.ref p),x4]/\C' p=some (.lst (I.map Rk.pv))/\Gr C C') ?_ _ r.sz _ _ (BB _) ⟨[r],_,by show _=r.sz+0;omega,hz,fun x q=>by rw[AJ.1 q];exact⟨d,J⟩,rfl,zQ,M.trans (Gr.new Z _)⟩⟩
 rintro n ρ C1 L1 ⟨I,x4,rfl,en,U,rfl,m,g⟩ af;refine nI rfl m ?_
 rcases I.eq_nil_or_concat with rfl | ⟨ys,x,rfl⟩
 .exact xG rfl (hL _ _ g)
 .rw [CU] at *
  rw[uG,show q8 [x]=x.sz from A7 _] at en;rw[AN] at m ⊢;refine XQ (by cases h:ys.map Rk.pv<;>rfl) ?_;refine⟨qZ m,eN m (y:=x.pv) (by simp) ?_⟩;rw[show(ys.map Rk.pv++[x].map Rk.pv).dropLast=ys.map Rk.pv from BN];have m2:gQ C1 p (.lst (ys.map Rk.pv)) p=some (.lst (ys.map Rk.pv)):=zQ;have ae:Gr C (gQ C1 p (.lst (ys.map Rk.pv))):=fun b o D=>(vQ (rX aa D)).trans (g _ _ D)
  generalize gQ C1 p (.lst (ys.map Rk.pv))=C2 at *
  obtain⟨dx,q⟩:=U x (by simp);have ei:=x.su;have yl:=bH ys;have il:=bH x.ins;dsimp only[ig.wn]
  have B:Z9 (Ot xB (uV 3) (mK (dB O7 (mK (uV 4) fU)) fU)) ((((ig.go R).wn L).lp L1)) [some r.pv,some (tN bs),some (tN τ),some (.ref p),some x.pv] C2:=by
   refine⟨qZ m2,O7.mk x rfl (Rk.o7 N q) fun p3 C3 ao O m3=>yV (O _ _ m2) m3 (by rw[AB,AB];exact AR (show _<=1000 by omega) (by decide)) ?_⟩;refine af (q8 (ys++x.ins)) _ _ (by rw[uG,uG,show q8 [x]=x.sz from A7 _];omega) ⟨ys++x.ins,_,rfl,by rw[uG];omega,fun y hy=>?_,rfl,by rw[zQ,AN],fun b o D=>(vQ (rX aa D)).trans ((ae.trans O) _ _ D)⟩
   rcases AQ.1 hy with h | h
   .exact U y (Ap _ h)
   .exact Rk.GX q y h
  cases x with
  |num i=>exact bQ rfl (fQ (yQ _ _) (cQ (by decide +kernel) (lQ (bQ rfl (fQ (yQ _ _) (cQ (by decide +kernel) (lQ B)))))))
  |turn n=>exact bQ rfl (fQ (yQ _ _) (cQ (by decide +kernel) (lQ (bQ rfl (fQ (yQ _ _) (tX (by decide +kernel) (bQ rfl (ZM (ss:=τ) rfl (by cases dx<;>exact q) (cQ rfl (lQ B))))))))))
  |ask s n =>
   have hs:WS bs s n:=by cases dx<;>exact q
   rcases hs with ⟨hs,Y⟩ | ⟨rfl,Y⟩
   .rcases hs with rfl | rfl
    .exact bQ rfl (fQ (yQ _ _) (cQ (by decide +kernel) (lQ (bQ rfl (fQ (yQ _ _) (cQ (by decide +kernel) (lQ B)))))))
    .exact bQ rfl (fQ (yQ _ _) (cQ (by decide +kernel) (lQ (bQ rfl (fQ (yQ _ _) (cQ (by decide +kernel) (lQ B)))))))
   .exact bQ rfl (fQ (yQ _ _) (tX (by decide +kernel) (bQ rfl (ZM (ss:=bs) rfl Y (cQ rfl (lQ (bQ rfl (fQ (yQ _ _) (cQ (by decide +kernel) (lQ B))))))))))
  |bin w y z =>
   have ag:w = "add"\/w = "times"\/w = "less":=by
    cases dx with
    |zero=>exact q.elim
    |succ d=>exact q.1
   rcases ag with rfl | rfl | rfl<;>exact bQ rfl (fQ (yQ _ _) (cQ (by decide +kernel) (lQ (bQ rfl (fQ (yQ _ _) (cQ (by decide +kernel) (lQ B)))))))
  |pick y z v=>exact bQ rfl (fQ (yQ _ _) (cQ (by decide +kernel) (lQ (bQ rfl (fQ (yQ _ _) (cQ (by decide +kernel) (lQ B)))))))
inductive O6(ts:List PV)(C:CH)(Q:K1):Prop
 |mk(bs τ:List Str)(o:Option Rk)(z0:ts=[pK o,tN bs,tN τ])(zo:Qt bs τ o)(zn:qz bs τ)(z1:∀C',Gr C C'->Q (.bl true) C')
def Mm(T:Tx W a){k:Nat}:Ok W a (k+6) 9 ["key","boxes","turns"] O6:=by
 have S:=(T.F 9 rfl).s;have D:=ZD (k:=k) T;refine(T.F 9 rfl).ok (fun ts C R h=>?_) fun I A J s H E B=>⟨_,(kQ (uQ (Wt (jJ zM dG (cv 0) eJ (oJ _)) (iG (cf (T.F 10 rfl) D B (qQ (cv 0) (qQ (cv 1) (dN (cv 2))))))))),?_⟩
 .obtain ⟨_,_,_,rfl,_⟩:=h;rfl
 rintro ts C R ⟨bs,τ,o,rfl,g,N,q⟩
 cases o with
 |none=>exact q C Gr.refl
 |some r =>
  show(if id (oU r.pv)=true then R (.bl true) C else Fv [r.pv,tN bs,tN τ] C R);rw[yE];exact Fv.mk bs τ 0 r rfl g (AM _) N q
end
def lP{xs:List PV}{c:jf}{B:jx}{C:CH}{Q:K1}(l:xs.length<=1000)(J:∀x∈xs,∀C1,Gr C C1->∀L:K1,(∀C2,Gr C1 C2->L (.bl true) C2)->c (some x::B) C1 L)(q:∀p C',Gr C C'->C' p=some (.lst ((xs.map fun _=>true).map PV.bl))->Q (.ref p) C'):jK fM c B Q xs [] C :=
 oV (fun _=>.bl true) xs [] C Gr.refl (by rw[A9,BZ];exact AR l (by decide)) (fun x I C1 D g h=>J x I C1 g D h) fun p C' _ g m=>q p C' g (by rw[m,Aj];rfl)
def Il(xs:List PV):(xs.map fun _=>true).all id=true:=by
 rw[List.all_map,BR];intro x _
 rfl
def oO{xs:List PV}{p:Addr}{C:CH}{Q:K1}(m:C p=some (.lst ((xs.map fun _=>true).map PV.bl)))(q:Q (.bl true) C):WI [.ref p] C Q:=by
 refine WT m ?_;rw[Il];exact q
def G6(c:Str×List PV):PV:=.tup (.str c.1::c.2)
def uD(ds:List (Str×List PV)):List (Key×PV):=ds.map fun c=>(Sum.inr c.1,.bl true)
def KO{ds:List (Str×List PV)}{s:Str}(h:s∉ds.map (·.1)):cB (uD ds) (Sum.inr s)=none:=by
 unfold cB uD;rw[Option.map_eq_none_iff,List.find?_eq_none];intro B q;obtain⟨c,g,rfl⟩:=AS.1 q
 simp only[decide_eq_true_eq]
 intro e;exact h (AS.2 ⟨c,g,Sum.inr.inj e⟩)
def KQ{ds:List (Str×List PV)}{c:Str×List PV}(h:c.1∉ds.map (·.1)):vH (uD ds) (Sum.inr c.1) (.bl true)=uD (ds++[c]):=by
 unfold vH;rw[Am]
 .unfold uD;rw[AN];rfl
 .rw [List.any_eq_true]
  rintro⟨D,B,e⟩;obtain⟨g,q,rfl⟩:=AS.1 B
  simp only[decide_eq_true_eq] at e
  exact h (AS.2 ⟨g,q,Sum.inr.inj e⟩)
def Lp{kvs:List (Key×PV)}{p:Addr}{s:Str}{v:PV}{C:CH}{Q:CH->Prop}(m:C p=some (.dK kvs))(l:kvs.length<=100)(q:Q (gQ C p (.dK (vH kvs (Sum.inr s) v)))):gR (.ref p) (.str s) v C Q:=by
 unfold gR
 simp only[m]
 exact⟨Cj l (by decide),q⟩
section
variable {W:Wd}{a:Adr}
inductive Nz(ts:List PV)(C:CH)(Q:K1):Prop
 |mk(ps:List (Str×List PV))(k:Int)(z0:ts=[.tup (ps.map G6),.int k])(zn:∀c∈ps,zZ c.1=true/\((c.2.length:Nat):Int)+1=k)(zd:(ps.map (·.1)).Nodup)(zl:ps.length<=100)(z1:∀C',Gr C C'->Q (.bl true) C')
def ZG(T:Tx W a){k:Nat}:Ok W a (k+2) 12 ["thing","size"] Nz:=by
 have S:=(T.F 12 rfl).s;have yK:=bY (k:=k) T
 refine(T.F 12 rfl).ok (fun ts C R h=>?_) fun ae A af s H E B=>⟨_,(xQ (nQ (sX (bX (gX uX iZ rfl T.kX rfl (qQ (cv 0) (dN (aK (n:="tuple") rfl T.hZ rfl)))))) (kQ (uQ fZ)) dQ)
  (xQ (jb 2 S.nd Du)
  (xQ (gW PassesOwn.never rfl (cv 0) (qi 3 S.nd) (xQ (nQ (iz (jl (sX (bX (gX uX iZ rfl T.kX rfl (qQ (cv 3) (dN (aK (n:="tuple") rfl T.hZ rfl)))))) (je (ct2 dD aU (kh T.rZ (cv 3)) (cv 1))))) (kQ (uQ fZ)) dQ)
  (xQ (nQ (iz (jl (sX (bX (cf (T.F 1 rfl) yK B (dN (cx (cv 3) jQ))))) (je (rK (Gz (gZ B)) Dl (cx (cv 3) jQ) (cv 2) rfl)))) (kQ (uQ fZ)) dQ)
  (kQ (sV (gZ B) (cv 2) (cx (cv 3) jQ) fZ)))))
  (kQ (uQ fZ))))),?_⟩
 .obtain ⟨_,_,rfl,_⟩:=h;rfl
 rintro ts C R ⟨ps,k,rfl,Z,N,hl,ab⟩;refine iX rfl rfl (wZ (lQ fun p U=>?_));dsimp only[ig.wn];refine aJ (aL rfl (sJ (fun zs I C'=>∃ds es D,ds++es=ps/\zs=es.map G6/\I=[some (.tup (ps.map G6)),some (.int k),some (.ref p),D]/\C' p=some (.dK (uD ds))/\Gr C C') ?_ ?_ _ _ _ ⟨[],ps,_,rfl,rfl,rfl,zQ,Gr.new U _⟩))
 .rintro z zs I C1 ⟨ds,es,D,e,hz,rfl,m,g⟩ L Y
  cases es with
  |nil=>cases hz
  |cons c es =>
   obtain⟨rfl,rfl⟩:=Ab hz;have M:=Z c (by rw[<- e];simp)
   have O:c.1∉ds.map (·.1):=by
    rw[<- e,AN,Ak] at N;intro h;exact(List.nodup_append.1 N).2.2 _ h _ AI rfl
   have aa:(uD ds).length<=100:=by
    unfold uD;rw[AB];have:=A3 List.length e;rw[AA] at this;omega
   refine iX rfl rfl (wZ (nZ (fQ (zX _ _) (cQ ?_ (lQ (bQ Ki (vq.mk c.1 rfl M.1 fun C2 q=>wZ (bQ Ki ⟨p,uD ds,Sum.inr c.1,rfl,q _ _ m,rfl,?_⟩))))))))
   .rw [AD,Ai (by rw[<- M.2];omega)]
    rfl
   .rw [KO O]
    refine cQ rfl (lQ (bQ Ki (Lp (q _ _ m) aa (Y _ _ ⟨ds++[c],es,_,by rw[AG];exact e,rfl,rfl,by rw[zQ,KQ O],fun b o J=>(vQ (rX U J)).trans ((g.trans q) _ _ J)⟩))))
 .rintro I C1 ⟨ds,es,D,e,hz,rfl,m,g⟩
  exact ab C1 g
inductive O3(ts:List PV)(C:CH)(Q:K1):Prop
 |mk(bs τ:List Str)(d:Nat)(ps:List (Str×Rk))(z0:ts=[.tup (ps.map iJ),tN bs,tN τ])(zo:wI bs τ d ps)(zl:ps.length<=4)(zd:d<=2)(zn:qz bs τ)(z1:∀C',Gr C C'->Q (.bl true) C')
def Ey(T:Tx W a){k:Nat}:Ok W a (k+6) 11 ["thing","boxes","turns"] O3:=by
 have S:=(T.F 11 rfl).s;have Z:=(ZG (k:=k+3) T);have uZ:=ZD (k:=k) T
 refine(T.F 11 rfl).ok (fun ts C R h=>?_) fun ab A ae s H E D=>⟨_,(xQ (nQ (sX (bX (cf (T.F 12 rfl) Z D (qQ (cv 0) (dN jQ))))) (kQ (uQ fZ)) dQ)
  (kQ (uQ (gX (nW rfl) lG rfl T.vP rfl (dN (aZ rfl (S.c (by decide +kernel)) (S.k rfl rfl rfl (by decide +kernel)) (uK (cv 0)) (fun _ _ _ _ _=>lZ) (fun _ _ _ _ _=>(cf (T.F 10 rfl) uZ D (qQ (cx (cv 0) jQ) (qQ (cv 2) (dN (cv 3)))))))))))),?_⟩
 .obtain ⟨_,_,_,_,rfl,_⟩:=h;rfl
 rintro ts C R ⟨bs,τ,d,ps,rfl,q,hl,U,N,aa⟩;refine Nz.mk (ps.map fun c=>(c.1,[c.2.pv])) 2 (by rw[Aj];rfl) (fun c g=>?_) (by rw[Aj];exact q.2) (by rw[AB];omega) fun C1 J=>wZ (lQ ?_)
 .obtain ⟨I,O,rfl⟩:=AS.1 g
  exact⟨(q.1 I O).2,rfl⟩
 refine lP (by rw[AB];omega) (fun x Y C2 B L M=>?_) fun p C2 B m=>oO m (aa C2 (J.trans B));obtain⟨c,g,rfl⟩:=AS.1 Y;exact bQ rfl (Fv.mk bs τ d c.2 rfl (q.1 c g).1 U N M)
inductive R3(ts:List PV)(C:CH)(Q:K1):Prop
 |mk(bs τ:List Str)(c:Str×Str×Rk)(z0:ts=[pS c,tN bs,tN τ])(zo:c.2.2.ok bs τ 1/\c.1∈bs/\c.2.1∈(["set","add","times"]:List Str))(zn:qz bs τ)(z1:∀C',Gr C C'->Q (.bl true) C')
def Mz(T:Tx W a){k:Nat}:Ok W a (k+6) 15 ["change","boxes","turns"] R3:=by
 have S:=(T.F 15 rfl).s;have J:=ZD (k:=k) T
 refine(T.F 15 rfl).ok (fun ts C R h=>?_) fun L A M s H E g=>⟨_,(xQ (nQ (iz (jl (sX (bX (gX uX iZ rfl T.kX rfl (qQ (cv 0) (dN (aK (n:="tuple") rfl T.hZ rfl)))))) (je (ct2 dD aU (kh T.rZ (cv 0)) jQ)))) (kQ (uQ fZ)) dQ)
  (kQ (uQ (zB (jJ eM jY (cx (cv 0) jQ) (cv 1) rfl) (zB (jJ (vU (gZ g)) iM (cx (cv 0) jQ) (oX (v:=.ref a.CHANGING) (t:=.kt [.str "set",.str "add",.str "times"]) rfl T.wO rfl (fun H=>.kt (T.pT H) (.cons (.str _) (.cons (.str _) (.cons (.str _) .nil))))) rfl) (iG (cf (T.F 10 rfl) J g (qQ (cx (cv 0) jQ) (qQ (cv 1) (dN (cv 2))))))))))),?_⟩
 .obtain ⟨_,_,_,rfl,_⟩:=h;rfl
 rintro ts C R ⟨bs,τ,⟨s,w,r⟩,rfl,⟨I,D,B⟩,N,q⟩;refine iX rfl rfl (wZ (nZ (fQ (zX _ _) (cQ rfl (lQ (bQ rfl (JM (ss:=bs) rfl D (tX rfl (bQ rfl ?_)))))))))
 simp only[List.mem_cons,List.not_mem_nil,or_false] at B
 rcases B with rfl | rfl | rfl<;>exact cK rfl rfl (tX (by dsimp only;decide +kernel) (bQ rfl (Fv.mk bs τ 1 r rfl I (by decide) N q)))
inductive RZ(ts:List PV)(C:CH)(Q:K1):Prop
 |mk(bs τ:List Str)(h:Hd)(z0:ts=[h.pv,tN bs,tN τ])(zo:h.ok bs τ)(zn:qz bs τ)(z1:∀C',Gr C C'->Q (.bl true) C')
def Mu(T:Tx W a){k:Nat}:Ok W a (k+7) 14 ["hand","boxes","turns"] RZ:=by
 have S:=(T.F 14 rfl).s;have U:=zY (k:=k+5) T;have Y:=Mz (k:=k) T
 refine(T.F 14 rfl).ok (fun ts C R h=>?_) fun Z A ab s H E B=>⟨_,(xQ (nQ (iz (jl (sX (bX (cf (T.F 0 rfl) U B (dN (cx (cv 0) jQ))))) (je (sX (eD yF yF aG aG jQ (cx (cv 0) jQ) (oX (v:=.int 3) (t:=.int 3) rfl T.XT ⟨_,rfl⟩ (fun _=>.int _))))))) (kQ (uQ fZ)) dQ)
  (xQ (nQ (iz (jl (sX (bX (gX uX iZ rfl T.kX rfl (qQ (cx (cv 0) jQ) (dN (aK (n:="bool") rfl T.Xl rfl)))))) (je (sX (bX (gX uX iZ rfl T.kX rfl (qQ (cx (cv 0) jQ) (dN (aK (n:="tuple") rfl T.hZ rfl))))))))) (kQ (uQ fZ)) dQ)
  (kQ (uQ (gX (nW rfl) lG rfl T.vP rfl (dN (aZ rfl (S.c (by decide +kernel)) (S.k rfl rfl rfl (by decide +kernel)) (uK (cx (cv 0) jQ)) (fun _ _ _ _ _=>lZ) (fun _ _ _ _ _=>(cf (T.F 15 rfl) Y B (qQ (cv 0) (qQ (cv 2) (dN (cv 3))))))))))))),?_⟩
 .obtain ⟨_,_,_,rfl,_⟩:=h;rfl
 rintro ts C R ⟨bs,τ,h,rfl,⟨hl,J,aa,h1,D⟩,N,q⟩;refine bQ rfl ⟨h.rank,rfl,?_⟩;rw[show iE h.rank=true from by unfold iE;rw[Ai (by omega),Ai (by omega)];rfl];refine wZ (bQ rfl (jo (tX (Ai h1) (jo ?_))));rw[Ai D];refine wZ (lQ (bQ rfl (iX rfl rfl (wZ (bQ rfl (iX rfl rfl (wZ (lQ (bQ rfl ?_)))))))));refine lP (by rw[AB];omega) (fun x O C2 g L I=>?_) fun p C2 g m=>oO m (q C2 g)
 obtain⟨c,M,rfl⟩:=AS.1 O;exact R3.mk bs τ c rfl (J c M) N I
inductive Ny(ts:List PV)(C:CH)(Q:K1):Prop
 |mk(bs τ:List Str)(hs:List Hd)(z0:ts=[.tup (hs.map Hd.pv),tN bs,tN τ])(zo:(∀x∈hs,x.ok bs τ)/\hs.length<=4/\(hs.map (·.ev)).Nodup)(zn:qz bs τ)(z1:∀C',Gr C C'->Q (.bl true) C')
def GZ(T:Tx W a){k:Nat}:Ok W a (k+8) 13 ["thing","boxes","turns"] Ny:=by
 have S:=(T.F 13 rfl).s;have mZ:=(ZG (k:=k+5) T);have I:=Mu (k:=k) T
 refine(T.F 13 rfl).ok (fun ts C R h=>?_) fun ab A ae s H E D=>⟨_,(xQ (nQ (sX (bX (cf (T.F 12 rfl) mZ D (qQ (cv 0) (dN jQ))))) (kQ (uQ fZ)) dQ)
  (kQ (uQ (gX (nW rfl) lG rfl T.vP rfl (dN (aZ rfl (S.c (by decide +kernel)) (S.k rfl rfl rfl (by decide +kernel)) (uK (cv 0)) (fun _ _ _ _ _=>lZ) (fun _ _ _ _ _=>(cf (T.F 14 rfl) I D (qQ (cv 0) (qQ (cv 2) (dN (cv 3)))))))))))),?_⟩
 .obtain ⟨_,_,_,rfl,_⟩:=h;rfl
 rintro ts C R ⟨bs,τ,hs,rfl,⟨B,hl,Y⟩,N,aa⟩;refine Nz.mk (hs.map fun h=>(h.ev,[.int h.rank,.bl h.last,.tup (h.ch.map pS)])) 4 (by rw[Aj];rfl) (fun c g=>?_) (by rw[Aj];exact Y) (by rw[AB];omega) fun C1 M=>wZ (lQ ?_)
 .obtain ⟨J,U,rfl⟩:=AS.1 g
  exact⟨(B J U).2.2.1,rfl⟩
 refine lP (by rw[AB];omega) (fun x Z C2 q L O=>?_) fun p C2 q m=>oO m (aa C2 (M.trans q));obtain⟨c,g,rfl⟩:=AS.1 Z;exact RZ.mk bs τ c rfl (B c g) N O
inductive R6(ts:List PV)(C:CH)(Q:K1):Prop
 |mk(fs:List (Str×Int))(z0:ts=[.tup (fs.map qY)])(zl:fs.length<=4)(zb:∀c∈fs,zZ c.1=true/\Bd c.2)(zd:(fs.map (·.1)).Nodup)(z1:∀C',Gr C C'->Q (.bl true) C')
def MN(T:Tx W a){k:Nat}:Ok W a (k+3) 17 ["thing"] R6:=by
 have S:=(T.F 17 rfl).s;have Z:=(ZG (k:=k) T);have sW:=zY (k:=k+1) T
 refine(T.F 17 rfl).ok (fun ts C R h=>?_) fun aa A ab s H E I=>⟨_,(xQ (nQ (iz (jl (sX (bX (cf (T.F 12 rfl) Z I (qQ (cv 0) (dN jQ))))) (je (ct2 kK vJ (kh T.rZ (cv 0)) (oX (v:=.int 4) (t:=.int 4) rfl T.QK ⟨_,rfl⟩ (fun _=>.int _)))))) (kQ (uQ fZ)) dQ)
  (kQ (uQ (gX (nW rfl) lG rfl T.vP rfl (dN (aZ rfl (S.c (by decide +kernel)) (S.k (L:=0) rfl rfl rfl (by decide +kernel)) (uK (cv 0)) (fun _ _ _ _ _=>lZ) (fun _ _ _ _ _=>(cf (T.F 0 rfl) sW I (dN (cx (cv 0) jQ)))))))))),?_⟩
 .obtain ⟨_,rfl,_⟩:=h;rfl
 rintro ts C R ⟨fs,rfl,hl,B,U,q⟩;refine Nz.mk (fs.map fun c=>(c.1,[.int c.2])) 2 (by rw[Aj];rfl) (fun c g=>?_) (by rw[Aj];exact U) (by rw[AB];omega) fun C1 M=>wZ (nZ (jo (cQ (Ad (by rw[AB];omega)) (lQ ?_))))
 .obtain ⟨J,O,rfl⟩:=AS.1 g
  exact⟨(B J O).1,rfl⟩
 refine lP (by rw[AB];omega) (fun x Y C2 D L N=>?_) fun p C2 D m=>oO m (q C2 (M.trans D));obtain⟨c,g,rfl⟩:=AS.1 Y;refine bQ rfl ⟨c.2,rfl,?_⟩;rw[show iE c.2=true from by unfold iE;rw[Ai (B c g).2.1,Ai (B c g).2.2];rfl];exact N C2 Gr.refl
end
def Ln.inl:Ln->List (List Ln)
 |.plain _ _ _ _ g=>[g]
 |.part _ _ _=>[]
 |.give _ _ _ g=>[g]
 |.when _ q B=>[q,B]
 |.each _ _ g=>[g]
def Ln.tau(τ:List Str):Ln->List Str
 |.each n _ _=>τ++[n]
 |_=>τ
def pW(g:List Ln):PV:=.tup (Ln.kj g)
def Rz(z:Str):Option PV:=if z = "plain" then some (.kt [.int 5]) else if z = "part" then some (.kt []) else if z = "give" then some (.kt [.int 4]) else if z = "when" then some (.kt [.int 2,.int 3]) else if z = "each" then some (.kt [.int 3]) else none
section
variable {W:Wd}{a:Adr}
def za(T:Tx W a):∀z t,Rz z=some t->∃v,oK ([(Sum.inr "plain",.ref a.iY),(Sum.inr "part",.ref a.aY),(Sum.inr "give",.ref a.eY),(Sum.inr "when",.ref a.tY),(Sum.inr "each",.ref a.oY)]:List (Key×V)) (Sum.inr z)=some v/\∀H,Rep W.K H v t:=by
 intro z t h;unfold Rz at h
 split at h
 .next e=>cases h;subst e;exact⟨_,rfl,fun H=>.kt (T.kH H) (.cons (.int _) .nil)⟩
 split at h
 .next e=>cases h;subst e;exact⟨_,rfl,fun H=>.kt (T.xH H) .nil⟩
 split at h
 .next e=>cases h;subst e;exact⟨_,rfl,fun H=>.kt (T.jH H) (.cons (.int _) .nil)⟩
 split at h
 .next e=>cases h;subst e;exact⟨_,rfl,fun H=>.kt (T.zH H) (.cons (.int _) (.cons (.int _) .nil))⟩
 split at h
 .next e=>cases h;subst e;exact⟨_,rfl,fun H=>.kt (T.qH H) (.cons (.int _) .nil)⟩
 .cases h
inductive Nx(ts:List PV)(C:CH)(Q:K1):Prop
 |mk(l:Ln)(z0:ts=[l.pv])(z1:nR C (l.inl.map pW) Q)
def Ez(T:Tx W a){k:Nat}:Ok W a (k+1) 6 ["line"] Nx:=by
 have S:=(T.F 6 rfl).s;have M:=za T;refine(T.F 6 rfl).ok (fun ts C R h=>?_) fun U A Z s H E Y=>⟨_,(kQ (uQ (aZ rfl (S.c (by decide +kernel)) (S.k rfl rfl rfl (by decide +kernel)) (uK (rH T.fS M (oX (v:=.ref a.INNER_PLACES) (t:=.ref a.INNER_PLACES) rfl T.bS rfl (fun _=>.ref _)) (cx (cv 0) jQ) (fun _ _=>rfl))) (fun _ _ _ _ _=>lZ) (fun _ _ _ _ _=>(cx (cv 1) (cv 0)))))),?_⟩
 .obtain ⟨_,rfl,_⟩:=h;rfl
 rintro ts C R ⟨l,rfl,q⟩
 cases l with
 |plain k aa s h J =>
  refine bQ rfl ⟨_,_,rfl,rfl,rfl,?_⟩;refine oV (fun _=>pW J) _ [] C Gr.refl (y0 1 rfl) (fun x B C1 L g I=>?_) fun p C1 D g m=>q p C1 D g m;rw[AJ.1 B];exact bQ rfl (I C1 Gr.refl)
 |part k n g =>
  refine bQ rfl ⟨_,_,rfl,rfl,rfl,?_⟩;exact oV (fun _=>PV.non) [] [] C Gr.refl (y0 0 rfl) (fun x B C1 L g I=>by cases B) fun p C1 D g m=>q p C1 D g m
 |give k n r J =>
  refine bQ rfl ⟨_,_,rfl,rfl,rfl,?_⟩;refine oV (fun _=>pW J) _ [] C Gr.refl (y0 1 rfl) (fun x B C1 L g I=>?_) fun p C1 D g m=>q p C1 D g m;rw[AJ.1 B];exact bQ rfl (I C1 Gr.refl)
 |when r N O =>
  refine bQ rfl ⟨_,_,rfl,rfl,rfl,?_⟩;refine oV (fun x=>match x with | .int 2=>pW N | _=>pW O) _ [] C Gr.refl (y0 2 rfl) (fun x B C1 L g I=>?_) fun p C1 D g m=>q p C1 D g m
  simp only[List.mem_cons,List.not_mem_nil,or_false] at B
  rcases B with rfl | rfl
  .exact bQ rfl (I C1 Gr.refl)
  .exact bQ rfl (I C1 Gr.refl)
 |each n r J =>
  refine bQ rfl ⟨_,_,rfl,rfl,rfl,?_⟩;refine oV (fun _=>pW J) _ [] C Gr.refl (y0 1 rfl) (fun x B C1 L g I=>?_) fun p C1 D g m=>q p C1 D g m;rw[AJ.1 B];exact bQ rfl (I C1 Gr.refl)
inductive RC(ts:List PV)(C:CH)(Q:K1):Prop
 |mk(l:Ln)(τ:List Str)(z0:ts=[l.pv,tN τ])(zl:τ.length<=10)(z1:Q (tN (l.tau τ)) C)
def Lx(T:Tx W a){k:Nat}:Ok W a (k+1) 7 ["line","turns"] RC:=by
 have S:=(T.F 7 rfl).s;refine(T.F 7 rfl).ok (fun ts C R h=>?_) fun D A N s H E J=>⟨_,(kQ (uQ (rP (ct2 fX qX (cx (cv 0) jQ) wQ) (aQ oQ tQ (cv 1) (pX (dN (cx (cv 0) jQ)))) (cv 1)))),?_⟩
 .obtain ⟨_,_,rfl,_⟩:=h;rfl
 rintro ts C R ⟨l,τ,rfl,I,q⟩
 cases l with
 |plain k O s h B=>exact bQ rfl (fQ (yQ _ _) (cQ (by decide +kernel) q))
 |part k n g=>exact bQ rfl (fQ (yQ _ _) (cQ (by decide +kernel) q))
 |give k n r B=>exact bQ rfl (fQ (yQ _ _) (cQ (by decide +kernel) q))
 |when r L M=>exact bQ rfl (fQ (yQ _ _) (cQ (by decide +kernel) q))
 |each n r B =>
  refine bQ rfl (fQ (yQ _ _) (tX (by decide +kernel) (bQ rfl ⟨y0 1 rfl,CL.jd (by rw[AB];exact AR (show τ.length+1<=11 by omega) (by decide)) ?_⟩)))
  have e:tN ((Ln.each n r B).tau τ)=.tup (τ.map PV.str++[.str n]):=by
   show PV.tup ((τ++[n]).map PV.str)=_;rw[AN]
   rfl
  rw[e] at q;exact q
inductive RN(ts:List PV)(C:CH)(Q:K1):Prop
 |mk(bs rs τ:List Str)(d:Nat)(l:Ln)(z0:ts=[l.pv,tN bs,tN τ])(zo:jt bs rs d τ l)(zn:qz bs τ)(zr:∀s∈rs,zZ s=true)(z1:∀C',Gr C C'->Q (.bl true) C')
def Mj(T:Tx W a){k:Nat}:Ok W a (k+9) 8 ["line","boxes","turns"] RN:=by
 have S:=(T.F 8 rfl).s;have uZ:=ZD (k:=k+3) T;have yK:=bY (k:=k+7) T;have Ze:=Mm (k:=k+2) T;have Xh:=GZ (k:=k) T;have cM:=Ey (k:=k+2) T
 refine(T.F 8 rfl).ok (fun ts C R h=>?_) fun ah A ai s H E B=>⟨_,(xQ (nQ (iz (jl (sX (bX (gX uX iZ rfl T.kX rfl (qQ (cv 0) (dN (aK (n:="tuple") rfl T.hZ rfl)))))) (jl (ct2 fX qX (kh T.rZ (cv 0)) jQ) (je (sX (bX (gX uX iZ rfl T.kX rfl (qQ (cx (cv 0) jQ) (dN (aK (n:="str") rfl T.lB rfl)))))))))) (kQ (uQ fZ)) dQ)
  (xQ (jb 3 S.nd (cx (cv 0) jQ))
  (xQ (nQ (ct2 dD aU (kh T.rZ (cv 0)) (pO T.QU (gZ B) (oX (v:=.ref a.LINE_SIZES) (t:=.ref a.LINE_SIZES) rfl T.QL rfl (fun _=>.ref _)) (cv 3) jQ)) (kQ (uQ fZ)) dQ)
  (xQ (nQ (ct2 fX qX (cv 3) wQ) (kQ (uQ (cf (T.F 10 rfl) uZ B (qQ (cx (cv 0) jQ) (qQ (cv 1) (dN (cv 2))))))) dQ)
  (xQ (nQ (ct2 fX qX (cv 3) wQ) (kQ (uQ (zB (cf (T.F 1 rfl) yK B (dN (cx (cv 0) jQ))) (zB (cf (T.F 10 rfl) uZ B (qQ (cx (cv 0) jQ) (qQ (cv 1) (dN (cv 2))))) (iG (jJ qM cY (kh T.rZ (cv 2)) (oX (v:=.int 2) (t:=.int 2) rfl T.kA ⟨_,rfl⟩ (fun _=>.int _)) (oJ _))))))) dQ)
  (xQ (nQ (iz (jl (sX (bX (cf (T.F 9 rfl) Ze B (qQ (cx (cv 0) jQ) (qQ (cv 1) (dN (cv 2))))))) (je (sX (bX (cf (T.F 1 rfl) yK B (dN (cx (cv 0) jQ)))))))) (kQ (uQ fZ)) dQ)
  (xQ (nQ (ct2 fX qX (cv 3) wQ) (kQ (uQ (cf (T.F 10 rfl) uZ B (qQ (cx (cv 0) jQ) (qQ (cv 1) (dN (cv 2))))))) dQ)
  (xQ (nQ (iz (jm (ct2 fX qX (cv 3) wQ) (jh (sX (bX (cf (T.F 13 rfl) Xh B (qQ (cx (cv 0) jQ) (qQ (cv 1) (dN (cv 2)))))))))) (kQ (uQ fZ)) dQ)
  (kQ (uQ (cf (T.F 11 rfl) cM B (qQ (cx (cv 0) jQ) (qQ (cv 1) (dN (cv 2))))))))))))))),?_⟩
 .obtain ⟨_,_,_,_,_,rfl,_⟩:=h;rfl
 rintro ts C R ⟨bs,aj,τ,d,l,rfl,J,N,ae,q⟩
 cases d with
 |zero=>cases l<;>exact J.elim
 |succ d =>
 cases l with
 |plain k ag s h aa =>
  obtain⟨O,⟨hs,af⟩,hh,_,_,Z⟩:=J;refine iX rfl rfl (wZ (nZ (fQ (zX _ _) (cQ rfl (bQ rfl (iX rfl rfl (wZ (lQ (bQ rfl (nZ ⟨rfl,.inl ⟨_,_,rfl,rfl,fQ (zX _ _) (cQ rfl (lQ ?_))⟩⟩))))))))));refine fQ (yQ _ _) (cQ (by decide +kernel) (lQ (fQ (yQ _ _) (cQ (by decide +kernel) (lQ ?_)))));refine bQ rfl (O6.mk bs τ k rfl O N fun C1 D=>wZ (bQ rfl (vq.mk ag rfl Z fun C2 I=>wZ (lQ ?_))));refine fQ (yQ _ _) (cQ (by decide +kernel) (lQ (fQ (yQ _ _) (tX (by decide +kernel) ?_))))
  refine bQ rfl (Ny.mk bs τ h rfl hh N fun C3 ab=>wZ (lQ (bQ rfl (O3.mk bs τ 2 s rfl hs af (AO _) N fun L M=>q L (D.trans (I.trans (ab.trans M)))))))
 |part k n g =>
  obtain⟨O,U,hg,hl⟩:=J;refine iX rfl rfl (wZ (nZ (fQ (zX _ _) (cQ rfl (bQ rfl (iX rfl rfl (wZ (lQ (bQ rfl (nZ ⟨rfl,.inl ⟨_,_,rfl,rfl,fQ (zX _ _) (cQ rfl (lQ ?_))⟩⟩))))))))));refine fQ (yQ _ _) (cQ (by decide +kernel) (lQ (fQ (yQ _ _) (cQ (by decide +kernel) (lQ ?_)))));refine bQ rfl (O6.mk bs τ k rfl O N fun C1 D=>wZ (bQ rfl (vq.mk n rfl (ae n U) fun C2 I=>wZ (lQ ?_))));refine fQ (yQ _ _) (cQ (by decide +kernel) (lQ (fQ (yQ _ _) (cQ (by decide +kernel) (lQ ?_)))))
  refine bQ rfl (O3.mk bs τ 1 g rfl hg hl (by decide) N fun L M=>q L (D.trans (I.trans M)))
 |give k n r aa =>
  obtain⟨O,U,Y,_⟩:=J;refine iX rfl rfl (wZ (nZ (fQ (zX _ _) (cQ rfl (bQ rfl (iX rfl rfl (wZ (lQ (bQ rfl (nZ ⟨rfl,.inl ⟨_,_,rfl,rfl,fQ (zX _ _) (cQ rfl (lQ ?_))⟩⟩))))))))));refine fQ (yQ _ _) (cQ (by decide +kernel) (lQ (fQ (yQ _ _) (cQ (by decide +kernel) (lQ ?_)))));refine bQ rfl (O6.mk bs τ k rfl O N fun C1 D=>wZ (bQ rfl (vq.mk n rfl (Zb n U) fun C2 I=>wZ (lQ ?_))));refine fQ (yQ _ _) (tX (by decide +kernel) ?_)
  refine bQ rfl (Fv.mk bs τ 1 r rfl Y (by decide) N fun L M=>q L (D.trans (I.trans M)))
 |when r l1 l2 =>
  refine iX rfl rfl (wZ (nZ (fQ (zX _ _) (cQ rfl (bQ rfl (iX rfl rfl (wZ (lQ (bQ rfl (nZ ⟨rfl,.inl ⟨_,_,rfl,rfl,fQ (zX _ _) (cQ rfl (lQ ?_))⟩⟩))))))))));refine fQ (yQ _ _) (tX (by decide +kernel) ?_);exact bQ rfl (Fv.mk bs τ 1 r rfl J.1 (by decide) N q)
 |each n r aa =>
  obtain⟨⟨Y,Z,U⟩,_⟩:=J;subst Z;refine iX rfl rfl (wZ (nZ (fQ (zX _ _) (cQ rfl (bQ rfl (iX rfl rfl (wZ (lQ (bQ rfl (nZ ⟨rfl,.inl ⟨_,_,rfl,rfl,fQ (zX _ _) (cQ rfl (lQ ?_))⟩⟩))))))))));refine fQ (yQ _ _) (cQ (by decide +kernel) (lQ (fQ (yQ _ _) (tX (by decide +kernel) ?_))));exact bQ rfl (vq.mk n rfl U fun C1 D=>tX rfl (bQ rfl (Fv.mk bs [] 1 r rfl Y (by decide) N fun C2 I=>tX rfl (nZ (jo (q C2 (D.trans I)))))))
end
abbrev qy:=List Ln×Nat×List Str
def pL(q:qy):PV:=.tup [pW q.1,.int (q.2.1:Nat),tN q.2.2]
structure WV(bs rs:List Str)(q:qy):Prop where
 ok:∃d,d+q.2.1=6/\∀l∈q.1,jt bs rs d q.2.2 l
 nm:qz bs q.2.2
 tl:q.2.2.length<=1
def v6(ps:List qy):Nat:=(ps.map fun q=>Ln.jk q.1).sum
def qd(ps:List qy):Nat:=(ps.map fun q=>1+3 * Ln.jk q.1).sum
def tO(a b:List qy):v6 (a++b)=v6 a+v6 b:=by unfold v6;rw[AN,List.sum_append]
def yW(a b:List qy):qd (a++b)=qd a+qd b:=by unfold qd;rw[AN,List.sum_append]
def sM(ps:List qy):ps.length<=qd ps:=by
 induction ps with
 |nil=>exact AM _
 |cons r g q=>show g.length+1<=(1+3 * Ln.jk r.1)+qd g;omega
def j5(a b:List Ln):Ln.jk (a++b)=Ln.jk a+Ln.jk b:=by
 induction a with
 |nil=>show _=0+_;rw[BZ];rfl
 |cons l a g=>show l.tw+Ln.jk (a++b)=l.tw+Ln.jk a+Ln.jk b;rw[g];omega
def Ln.nxt(l:Ln)(e:Nat)(τ:List Str):List qy:=l.inl.map fun g=>(g,e+1,l.tau τ)
def Ln.uy(l:Ln)(e:Nat)(τ:List Str):l.tw=1+v6 (l.nxt e τ)/\qd (l.nxt e τ)+1<=3 * l.tw:=by
 have h:∀n:Nat,n=n+0:=fun n=>rfl
 cases l with
 |plain k I s h q=>exact⟨by show 1+Ln.jk q=1+(Ln.jk q+0);omega,by show((1+3 * Ln.jk q)+0)+1<=3 * (1+Ln.jk q);omega⟩
 |part k n g=>exact⟨rfl,by show 0+1<=3 * 1;decide⟩
 |give k n r q=>exact⟨by show 1+Ln.jk q=1+(Ln.jk q+0);omega,by show((1+3 * Ln.jk q)+0)+1<=3 * (1+Ln.jk q);omega⟩
 |when r B D=>exact⟨by show 1+(Ln.jk B+Ln.jk D)=1+(Ln.jk B+(Ln.jk D+0));omega,by show((1+3 * Ln.jk B)+((1+3 * Ln.jk D)+0))+1<=3 * (1+(Ln.jk B+Ln.jk D));omega⟩
 |each n r q=>exact⟨by show 1+Ln.jk q=1+(Ln.jk q+0);omega,by show((1+3 * Ln.jk q)+0)+1<=3 * (1+Ln.jk q);omega⟩
def Ln.uz{bs L τ:List Str}{d e:Nat}{l:Ln}(h:jt bs L (d+1) τ l)(N:qz bs τ)(I:τ.length<=1)(U:d+1+e=6):∀q∈l.nxt e τ,WV bs L q:=by
 intro q S;obtain⟨aa,B,rfl⟩:=AS.1 S;have D:d+(e+1)=6:=by omega
 cases l with
 |plain k ab s h' J =>
  rw[AJ.1 B];exact⟨⟨d,D,h.2.2.2.1⟩,N,I⟩
 |part k n g=>cases B
 |give k n r J =>
  rw[AJ.1 B];exact⟨⟨d,D,h.2.2.2.1⟩,N,I⟩
 |when r Z l2 =>
  simp only[Ln.inl,List.mem_cons,List.not_mem_nil,or_false] at B
  rcases B with rfl | rfl
  .exact ⟨⟨d,D,h.2.1.1⟩,N,I⟩
  .exact ⟨⟨d,D,h.2.2.1⟩,N,I⟩
 |each n r J =>
  rw[AJ.1 B];obtain⟨⟨Y,rfl,O⟩,M,_⟩:=h;refine⟨⟨d,D,M⟩,⟨N.b,fun s hs=>?_⟩,AO _⟩;have:s=n:=AJ.1 hs;rw[this];exact O
section
variable {W:Wd}{a:Adr}
inductive Nt(ts:List PV)(C:CH)(Q:K1):Prop
 |mk(bs rs:List Str)(ls:List Ln)(z0:ts=[pW ls,tN bs])(zo:∀l∈ls,jt bs rs 6 [] l)(zt:Ln.jk ls<=6)(zb:∀s∈bs,zZ s=true)(zr:∀s∈rs,zZ s=true)(z1:∀C',Gr C C'->Q (.bl true) C')
def GK(T:Tx W a){k:Nat}:Ok W a (k+10) 5 ["lines","boxes"] Nt:=by
 have S:=(T.F 5 rfl).s;have Xf:=Mj (k:=k) T;have sR:=Lx (k:=k+8) T;have zU:=Ez (k:=k+8) T
 refine(T.F 5 rfl).ok (fun ts C R h=>?_) fun az A a4 s H E ab=>⟨_,(xQ (jb 2 S.nd (mQ (dN (pX (qQ (cv 0) (qQ jQ (dN (pX aX))))))))
  (xQ (jb 3 S.nd jQ)
  (xQ (bU PassesOwn.never (iC (cv 2)) (xQ (jb 4 S.nd (mM AY BK BJ cF qB (cv 2)))
  (xQ (nQ (sX (bX (gX uX iZ rfl T.kX rfl (qQ (cx (cv 4) jQ) (dN (aK (n:="tuple") rfl T.hZ rfl)))))) (kQ (uQ fZ)) dQ)
  (kQ (gW PassesOwn.never rfl (cx (cv 4) jQ) (qi 5 S.nd) (xQ (sA 3 S.nd jQ)
  (xQ (nQ (iz (jl (ct2 kK vJ (cv 3) (oX (v:=.int 30) (t:=.int 30) rfl T.QJ ⟨_,rfl⟩ (fun _=>.int _))) (jl (ct2 op_ge HR (cx (cv 4) jQ) (oX (v:=.int 6) (t:=.int 6) rfl T.XS ⟨_,rfl⟩ (fun _=>.int _))) (je (sX (bX (cf (T.F 8 rfl) Xf ab (qQ (cv 5) (qQ (cv 1) (dN (cx (cv 4) jQ))))))))))) (kQ (uQ fZ)) dQ)
  (xQ (jb 6 S.nd (cf (T.F 7 rfl) sR ab (qQ (cv 5) (dN (cx (cv 4) jQ)))))
  (kQ (wX (lY AY As Ar (fun p s σ H x vs v us Q=>tJ p s σ H x vs v us Q) bJ (cv 2) (dN (hW rfl (S.c (by decide +kernel)) (S.k rfl rfl rfl (by decide +kernel)) (cf (T.F 6 rfl) zU ab (dN (cv 5))) (fun _ _ _ _ _=>lZ) (fun _ _ _ _ _=>(pX (qQ (cv 0) (qQ (aQ oQ tQ (cx (cv 5) jQ) jQ) (dN (cv 7)))))))))))))))))))
  (kQ (uQ fZ))))),?_⟩
 .obtain ⟨_,_,_,rfl,_⟩:=h;rfl
 rintro ts C R ⟨bs,ae,D,rfl,ho,ht,hb,av,ax⟩;refine⟨y0 0 rfl,y0 3 rfl,y0 1 rfl,fun p hp=>?_⟩;dsimp only[ig.wn];refine mX ?_;refine lX (fun ay C'=>Gr C C') (fun L hL=>?_) fun ay C' g=>ax C' g;have w0:qd [(D,0,[])]=1+3 * Ln.jk D:=A7 _;have a5:v6 [(D,0,[])]=Ln.jk D:=A7 _;refine⟨qd [(D,0,[])]+1,cU (fun n M C'=>∃(ps:List qy)(c:Nat)(x4 Y Z:Option PV),n=qd ps/\n<=19/\c+v6 ps<=6/\(∀x∈ps,WV bs ae x)/\M=[some (pW D),some (tN bs),some (.ref p),some (.int c),x4,Y,Z]/\C' p=some (.lst (ps.map pL))/\Gr C C') ?_ _ (qd [(D,0,[])]) _ _ (BB _) ⟨[(D,0,[])],0,_,_,_,rfl,by omega,by omega,fun x I=>by rw[AJ.1 I];exact⟨⟨6,rfl,ho⟩,⟨hb,fun s hs=>by cases hs⟩,AM _⟩,rfl,zQ,Gr.new hp _⟩⟩
 rintro n M C1 L1 ⟨ps,c,x4,Y,Z,rfl,en,ec,ai,rfl,m,g⟩ aq;refine nI rfl m ?_
 rcases ps.eq_nil_or_concat with rfl | ⟨ys,x,rfl⟩
 .exact xG rfl (hL _ _ g)
 .rw [CU] at *
  obtain⟨q,ex,τ⟩:=x;rw[yW,show qd [(q,ex,τ)]=1+3 * Ln.jk q from A7 _] at en;rw[tO,show v6 [(q,ex,τ)]=Ln.jk q from A7 _] at ec;rw[AN] at m ⊢;refine XQ (by cases h:ys.map pL<;>rfl) ?_;refine⟨qZ m,eN m (y:=pL (q,ex,τ)) (by simp) ?_⟩;rw[show(ys.map pL++[(q,ex,τ)].map pL).dropLast=ys.map pL from BN];have m2:gQ C1 p (.lst (ys.map pL)) p=some (.lst (ys.map pL)):=zQ
  have ao:Gr C (gQ C1 p (.lst (ys.map pL))):=fun b o O=>(vQ (rX hp O)).trans (g _ _ O);generalize gQ C1 p (.lst (ys.map pL))=C2 at *
  obtain⟨⟨d,ag,ah⟩,N,aj⟩:=ai (q,ex,τ) (by simp);dsimp only at ag ah N aj;dsimp only[ig.wn];refine bQ rfl (iX rfl rfl (wZ (lQ ?_)));dsimp only[ig.wn];refine wA (bQ rfl ?_);show rG _ _ _ (Ln.kj q) _ _;rw[Ln.iT];refine sJ (fun zs M C'=>∃(ds es:List Ln)(B:List qy)(J:Nat)(Y Z:Option PV),ds++es=q/\zs=es.map Ln.pv/\M=[some (pW D),some (tN bs),some (.ref p),some (.int J),some (pL (q,ex,τ)),Y,Z]/\C' p=some (.lst ((ys++B).map pL))/\(∀x∈B,WV bs ae x)/\qd B<=3 * Ln.jk ds/\J+v6 B=c+Ln.jk ds/\Gr C C') ?_ ?_ _ _ _ ⟨[],q,[],c,_,_,rfl,rfl,rfl,by rw[AH];exact m2,(fun x I=>by cases I),AO _,rfl,ao⟩
  .rintro z zs M C3 ⟨ds,es,B,J,y5,y6,e,hz,rfl,U,hq,aw,hc,aa⟩ L3 ar
   cases es with
   |nil=>cases hz
   |cons l es =>
    obtain⟨rfl,rfl⟩:=Ab hz;have hl:=ah l (by rw[<- e];simp);have et:Ln.jk ds+(l.tw+Ln.jk es)=Ln.jk q:=by rw[<- e,j5];rfl
    obtain⟨a6,a7⟩:=l.uy ex τ
    cases d with
    |zero=>cases l<;>exact hl.elim
    |succ d =>
    refine aJ ⟨_,rfl,_,rfl,?_⟩;dsimp only[ig.wn];refine jo (cQ (Ad (by omega)) (bQ rfl (jo (cQ (Ad (by show ¬ (6:Int)<=(ex:Nat);omega)) (bQ rfl (RN.mk bs ae τ (d+1) l rfl hl N av fun C4 g4=>wZ (lQ ?_)))))));refine bQ rfl (RC.mk l τ rfl (by omega) ?_);dsimp only[ig.wn];refine⟨qZ (g4 _ _ U),?_⟩;have il:l.inl.length<=2:=by cases l<;>simp[Ln.inl]
    show sY (dB Nx (mK (uV 5) fU)) fM _ _ _ _
    delta sY
    refine Nx.mk l rfl fun p5 C5 a0 g5 m5=>?_;dsimp only;rw[m5];refine Q0 (C0:=C5) (fun C' g'=>g' _ _ m5) (fun x=>.tup [x,.int ((ex:Nat)+1),tN (l.tau τ)]) _ [] C5 Gr.refl (by rw[A9,AB];exact AR (show _<=2 by omega) (by decide)) (fun x I C6 Q' g6 au=>?_) fun p7 C7 a3 g7 m7=>?_
    .exact bQ rfl (cV ⟨y0 3 rfl,au C6 Gr.refl⟩)
    have ak:[]++(l.inl.map pW).map (fun x=>PV.tup [x,.int ((ex:Nat)+1),tN (l.tau τ)])=(l.nxt ex τ).map pL:=by
     unfold Ln.nxt;rw[BQ,Aj,Aj]
     rfl
    rw[ak] at m7;have af:Gr C4 C7:=g5.trans g7;have l1:=sM ys;have l2:=sM B;have l3:=sM (l.nxt ex τ);refine yV (af _ _ (g4 _ _ U)) m7 (by rw[AB,AB,AA];exact AR (show _<=1000 by omega) (by decide)) ?_;refine ar _ _ ⟨ds++[l],es,B++l.nxt ex τ,J+1,_,_,by rw[AG];exact e,rfl,rfl,by rw[zQ,<- AN,AG],fun x I=>?_,?_,?_,fun b o O=>(vQ (rX hp O)).trans ((aa.trans (g4.trans af)) _ _ O)⟩
    .rcases AQ.1 I with h | h
     .exact hq x h
     .exact Ln.uz hl N aj ag x h
    .rw [yW,j5,show Ln.jk [l]=l.tw from A7 _]
     omega
    .rw [tO,j5,show Ln.jk [l]=l.tw from A7 _]
     omega
  .rintro M C3 ⟨ds,es,B,J,y5,y6,e,hz,rfl,U,hq,aw,hc,aa⟩
   cases es with
   |cons c es=>cases hz
   |nil =>
    rw[AH] at e;subst e;refine aq (qd (ys++B)) _ _ (by rw[yW,yW,show qd [(ds,ex,τ)]=1+3 * Ln.jk ds from A7 _];omega) ⟨ys++B,J,_,_,_,rfl,by rw[yW];omega,by rw[tO];omega,fun x I=>?_,rfl,U,aa⟩
    rcases AQ.1 I with h | h
    .exact ai x (Ap _ h)
    .exact hq x h
inductive RL(ts:List PV)(C:CH)(Q:K1):Prop
 |mk(x:Pt)(p:Addr)(bs rs:List Str)(z0:ts=[x.pv,.ref p])(zm:C p=some (.lst (rs.map PV.str)))(zo:∀l∈x.ls,jt bs rs 6 [] l)(zb:∀s∈bs,zZ s=true)(zt:Ln.jk x.ls<=6)(z1:∀C',Gr C C'->Q (.bl true) C')
def Mg(T:Tx W a){k:Nat}:Ok W a (k+2) 19 ["part","names"] RL:=by
 have S:=(T.F 19 rfl).s;have zU:=Ez (k:=k) T
 refine(T.F 19 rfl).ok (fun ts C R h=>?_) fun av A ax s H E aq=>⟨_,(xQ (jb 2 S.nd (mQ (dN (cx (cv 0) jQ))))
  (xQ (bU PassesOwn.never (iC (cv 2)) (xQ (jb 3 S.nd (mM AY BK BJ cF qB (cv 2)))
  (kQ (gW PassesOwn.never rfl (cv 3) (qi 4 S.nd) (xQ (nQ (iz (jm (ct2 fX qX (cx (cv 4) jQ) wQ) (jh (rK lV jY (cx (cv 4) jQ) (cv 1) rfl)))) (kQ (uQ fZ)) dQ)
  (kQ (wX (lY AY As Ar (fun p s σ H x vs v us Q=>tJ p s σ H x vs v us Q) bJ (cv 2) (dN (cf (T.F 6 rfl) zU aq (dN (cv 4))))))))))))
  (kQ (uQ fZ)))),?_⟩
 .obtain ⟨_,_,_,_,rfl,_⟩:=h;rfl
 rintro ts C R ⟨I,pn,bs,aa,rfl,mn,ho,hb,ht,q⟩;refine bQ rfl ⟨y0 1 rfl,fun p hp=>?_⟩;dsimp only[ig.wn];refine lX (fun au C'=>Gr C C') (fun L hL=>?_) fun au C' g=>q C' g;have w0:qd [(I.ls,0,[])]=1+3 * Ln.jk I.ls:=A7 _;refine⟨qd [(I.ls,0,[])]+1,cU (fun n M C'=>∃(ps:List qy)(x3 x4:Option PV),n=qd ps/\n<=19/\(∀x∈ps,WV bs aa x)/\M=[some I.pv,some (.ref pn),some (.ref p),x3,x4]/\C' p=some (.lst (ps.map fun q=>pW q.1))/\Gr C C') ?_ _ (qd [(I.ls,0,[])]) _ _ (BB _) ⟨[(I.ls,0,[])],_,_,rfl,by omega,fun x J=>by rw[AJ.1 J];exact⟨⟨6,rfl,ho⟩,⟨hb,fun s hs=>by cases hs⟩,AM _⟩,rfl,zQ,Gr.new hp _⟩⟩
 rintro n M C1 L1 ⟨ps,x3,x4,rfl,en,af,rfl,m,g⟩ ak;refine nI rfl m ?_
 rcases ps.eq_nil_or_concat with rfl | ⟨ys,x,rfl⟩
 .exact xG rfl (hL _ _ g)
 .rw [CU] at *
  obtain⟨B,ex,τ⟩:=x;rw[yW,show qd [(B,ex,τ)]=1+3 * Ln.jk B from A7 _] at en;rw[AN] at m ⊢;refine XQ (by cases h:ys.map (fun q:qy=>pW q.1)<;>rfl) ?_;refine⟨qZ m,eN m (y:=pW B) (by simp) ?_⟩;rw[show(ys.map (fun q:qy=>pW q.1)++[(B,ex,τ)].map (fun q:qy=>pW q.1)).dropLast=ys.map (fun q:qy=>pW q.1) from BN];have m2:gQ C1 p (.lst (ys.map fun q:qy=>pW q.1)) p=some (.lst (ys.map fun q:qy=>pW q.1)):=zQ
  have aj:Gr C (gQ C1 p (.lst (ys.map fun q:qy=>pW q.1))):=fun b o O=>(vQ (rX hp O)).trans (g _ _ O);generalize gQ C1 p (.lst (ys.map fun q:qy=>pW q.1))=C2 at *
  obtain⟨⟨d,ab,ae⟩,N,ag⟩:=af (B,ex,τ) (by simp);dsimp only at ab ae N ag;dsimp only[ig.wn];refine wA ?_;show rG _ _ _ (Ln.kj B) _ _;rw[Ln.iT];refine sJ (fun zs M C'=>∃(ds es:List Ln)(D:List qy)(x4:Option PV),ds++es=B/\zs=es.map Ln.pv/\M=[some I.pv,some (.ref pn),some (.ref p),some (pW B),x4]/\C' p=some (.lst ((ys++D).map fun q=>pW q.1))/\(∀x∈D,WV bs aa x)/\qd D<=3 * Ln.jk ds/\Gr C C') ?_ ?_ _ _ _ ⟨[],B,[],_,rfl,rfl,rfl,by rw[AH];exact m2,(fun x J=>by cases J),AO _,aj⟩
  .rintro z zs M C3 ⟨ds,es,D,y4,e,hz,rfl,Z,hq,ar,Y⟩ L3 ao
   cases es with
   |nil=>cases hz
   |cons l es =>
    obtain⟨rfl,rfl⟩:=Ab hz;have hl:=ae l (by rw[<- e];simp);have et:Ln.jk ds+(l.tw+Ln.jk es)=Ln.jk B:=by rw[<- e,j5];rfl
    obtain⟨az,a0⟩:=l.uy ex τ
    cases d with
    |zero=>cases l<;>exact hl.elim
    |succ d =>
    have U:Z9 (Ot xB (uV 2) (mK (dB Nx (mK (uV 4) fU)) fU)) ((((ig.go R).wn L).lp L1).lp L3) [some I.pv,some (.ref pn),some (.ref p),some (pW B),some l.pv] C3:=by
     refine⟨qZ Z,Nx.mk l rfl fun p5 C5 aw g5 m5=>?_⟩
     have ai:l.inl.map pW=(l.nxt ex τ).map fun q=>pW q.1:=by
      unfold Ln.nxt;rw[Aj]
      rfl
     rw[ai] at m5;have l1:=sM ys;have l2:=sM D;have l3:=sM (l.nxt ex τ);refine yV (g5 _ _ Z) m5 (by rw[AB,AB,AA];exact AR (show _<=1000 by omega) (by decide)) ?_;refine ao _ _ ⟨ds++[l],es,D++l.nxt ex τ,_,by rw[AG];exact e,rfl,rfl,by rw[zQ,<- AN,AG],fun x J=>?_,?_,fun b o O=>(vQ (rX hp O)).trans ((Y.trans g5) _ _ O)⟩
     .rcases AQ.1 J with h | h
      .exact hq x h
      .exact Ln.uz hl N ag ab x h
     .rw [yW,j5,show Ln.jk [l]=l.tw from A7 _]
      omega
    cases l with
    |plain k ay s h ah=>exact bQ rfl (fQ (yQ _ _) (cQ (by decide +kernel) (lQ U)))
    |part k n gs=>exact bQ rfl (fQ (yQ _ _) (tX (by decide +kernel) (bQ rfl (ZM (ss:=aa) (by show(match C3 pn with | some (.lst xs)=>some xs | _=>none)=_;rw[Y _ _ mn]) hl.2.1 (cQ rfl (lQ U))))))
    |give k n r ah=>exact bQ rfl (fQ (yQ _ _) (cQ (by decide +kernel) (lQ U)))
    |when r l1 l2=>exact bQ rfl (fQ (yQ _ _) (cQ (by decide +kernel) (lQ U)))
    |each n r ah=>exact bQ rfl (fQ (yQ _ _) (cQ (by decide +kernel) (lQ U)))
  .rintro M C3 ⟨ds,es,D,y4,e,hz,rfl,Z,hq,ar,Y⟩
   cases es with
   |cons c es=>cases hz
   |nil =>
    rw[AH] at e;subst e;refine ak (qd (ys++D)) _ _ (by rw[yW,yW,show qd [(ds,ex,τ)]=1+3 * Ln.jk ds from A7 _];omega) ⟨ys++D,_,_,rfl,by rw[yW];omega,fun x J=>?_,rfl,Z,Y⟩
    rcases AQ.1 J with h | h
    .exact af x (Ap _ h)
    .exact hq x h
end
def Eo{x:Addr}{xs:List PV}{lo hi:Option Int}{C:CH}{Q:K1}(m:C x=some (.lst xs))(q:∀p,C p=none->Q (.ref p) (gQ C p (.lst (xF xs lo hi)))):Kc (.ref x) lo hi C Q:=by
 delta Kc
 dsimp only;rw[m];exact q
def v9{p:Addr}{xs:List PV}{C:CH}{Q:K1}(m:C p=some (.lst xs))(q:Q (.tup xs) C):jB [.ref p] C Q:=by
 delta jB
 dsimp only;rw[m];exact q
section
variable {W:Wd}{a:Adr}
inductive R5(ts:List PV)(C:CH)(Q:K1):Prop
 |mk(pts:List Pt)(k:Nat)(x:Pt)(z0:ts=[.tup (pts.map Pt.pv),.str x.name])(zk:pts[k]?=some x)(zd:(pV pts).Nodup)(zl:pts.length<=6)(z1:nR C (((pV pts).drop (k+1)).map PV.str) Q)
def MK(T:Tx W a){k:Nat}:Ok W a (k+1) 20 ["house","name"] R5:=by
 have S:=(T.F 20 rfl).s
 refine(T.F 20 rfl).ok (fun ts C R h=>?_) fun aa A af s H E ae=>⟨_,(xQ (rA (i:=2) S.nd rfl (Or.inl rfl) rfl (S.c (by decide +kernel)) (S.k (L:=0) rfl rfl rfl (by decide +kernel)) (uK (cv 0)) (fun _ _ _ _ _=>lZ) (fun _ _ _ _ _=>(cx (cv 0) jQ)))
  (kQ (uQ (vR (cv 2) (bW (aQ oQ tQ (lY AY PySem.F.slot_list_index PySem.F.type_list_index (fun p s σ H x vs v us Q=>Jy p s σ H x vs v us Q) X4 (cv 2) (dN (cv 1))) jQ)) cG)))),?_⟩
 .obtain ⟨_,_,_,rfl,_⟩:=h;rfl
 rintro ts C R ⟨B,k,x,rfl,J,U,hl,q⟩;have ab:k < B.length:=(AZ.1 J).1;refine oV (fun x=>match x with | .tup (n::_)=>n | _=>.non) _ [] C Gr.refl (by rw[A9,AB];exact AR (show _<=6 by omega) (by decide)) (fun x D C1 Q' g Y=>?_) fun p C1 h3 g m=>?_
 .obtain ⟨y,_,rfl⟩:=AS.1 D
  exact bQ rfl (Y C1 Gr.refl)
 have O:[]++(B.map Pt.pv).map (fun x=>match x with | .tup (n::_)=>n | _=>PV.non)=(pV B).map PV.str:=by
  rw[BQ,Aj,pV,Aj]
  rfl
 rw[O] at m;have D:(pV B)[k]?=some x.name:=by unfold pV;rw[Ah,J];rfl
 dsimp only[ig.wn];refine⟨qZ m,⟨p,pV B,x.name,k,rfl,rfl,m,D,fun j hj e=>?_,cV (Eo m fun Z N=>?_)⟩⟩
 .have I:j < (pV B).length:=by unfold pV;rw[AB];omega
  have M:k < (pV B).length:=by unfold pV;rw[AB];omega
  rw[AL I] at e;rw[AL M] at D;exact List.pairwise_iff_getElem.1 U j k I M hj ((An e).trans (An D).symm)
 .refine q Z _ (kZ g N) (g.trans (Gr.new N _)) ?_
  rw[zQ,aC]
inductive RT(ts:List PV)(C:CH)(Q:K1):Prop
 |mk(x:Pt)(rs:List Str)(cap:Nat)(z0:ts=[x.pv])(zo:Im rs cap x)(zn:zZ x.name=true)(zr:∀s∈rs,zZ s=true)(z1:∀C',Gr C C'->Q (.bl true) C')
def Im.O8{B:List Str}{g:Nat}{x:Pt}(h:Im B g x):∀s∈x.first.map (·.1),zZ s=true:=fun s hs=>by
 obtain⟨c,q,rfl⟩:=AS.1 hs;exact h.ok.bn c q
def Mq(T:Tx W a){k:Nat}:Ok W a (k+11) 16 ["thing"] RT:=by
 have S:=(T.F 16 rfl).s;have yK:=bY (k:=k+9) T;have O:=MN (k:=k+7) T;have U:=Ey (k:=k+4) T;have M:=GK (k:=k) T
 refine(T.F 16 rfl).ok (fun ts C R h=>?_) fun ai A aj s H E B=>⟨_,(xQ (nQ (iz (jl (sX (bX (gX uX iZ rfl T.kX rfl (qQ (cv 0) (dN (aK (n:="tuple") rfl T.hZ rfl)))))) (je (ct2 dD aU (kh T.rZ (cv 0)) jQ)))) (kQ (uQ fZ)) dQ)
  (xQ (nQ (iz (jl (sX (bX (cf (T.F 1 rfl) yK B (dN (cx (cv 0) jQ))))) (je (sX (bX (cf (T.F 17 rfl) O B (dN (cx (cv 0) jQ)))))))) (kQ (uQ fZ)) dQ)
  (xQ (jb 1 S.nd (t6 T.hZ (aZ rfl (S.c (by decide +kernel)) (S.k (L:=0) rfl rfl rfl (by decide +kernel)) (uK (cx (cv 0) jQ)) (fun _ _ _ _ _=>lZ) (fun _ _ _ _ _=>(cx (cv 0) jQ)))))
  (xQ (nQ (iz (jl (sX (bX (cf (T.F 11 rfl) U B (qQ (cx (cv 0) jQ) (qQ (cv 1) (dN (pX aX))))))) (je (ct2 kK vJ (kh T.rZ (cx (cv 0) jQ)) (oX (v:=.int 4) (t:=.int 4) rfl T.QH ⟨_,rfl⟩ (fun _=>.int _)))))) (kQ (uQ fZ)) dQ)
  (kQ (uQ (cf (T.F 5 rfl) M B (qQ (cx (cv 0) jQ) (dN (cv 1)))))))))),?_⟩
 .obtain ⟨_,_,_,rfl,_⟩:=h;rfl
 rintro ts C R ⟨x,ag,ah,rfl,q,hn,ae,af⟩;refine iX rfl rfl (wZ (nZ (fQ (zX _ _) (cQ rfl (lQ ?_)))));refine bQ rfl (vq.mk x.name rfl hn fun C1 Z=>wZ (bQ rfl (R6.mk x.first rfl q.ok.fl (fun c I=>⟨q.ok.bn c I,q.ok.fb c I⟩) q.ok.bd fun C2 aa=>wZ (lQ ?_))));refine bQ rfl (oV (fun x=>match x with | .tup (n::_)=>n | _=>.non) _ [] C2 Gr.refl (by rw[A9,AB];have:=q.ok.fl;exact AR (show _<=4 by omega) (by decide)) (fun x hx D Q' g hq=>?_) fun p D h3 ab m=>?_)
 .obtain ⟨y,_,rfl⟩:=AS.1 hx
  exact bQ rfl (hq D Gr.refl)
 have Y:[]++(x.first.map qY).map (fun x=>match x with | .tup (n::_)=>n | _=>PV.non)=(x.first.map (·.1)).map PV.str:=by
  rw[BQ,Aj,Aj]
  rfl
 rw[Y] at m;refine v9 m ?_;dsimp only[ig.wn];have N:qz (x.first.map (·.1)) []:=⟨q.O8,fun s hs=>by cases hs⟩;refine bQ rfl ⟨AM _,O3.mk (x.first.map (·.1)) [] 1 x.works rfl q.ok.wk q.ok.wl (by decide) N fun C4 g4=>wZ (bQ rfl (nZ (jo (cQ (Ad (by rw[AB];have:=q.ok.wl;omega)) (lQ ?_)))))⟩;exact bQ rfl (Nt.mk (x.first.map (·.1)) ag x.ls rfl q.ok.ls q.tw q.O8 ae fun J g5=>af J (Z.trans (aa.trans (ab.trans (g4.trans g5)))))
inductive RV(ts:List PV)(C:CH)(Q:K1):Prop
 |mk(pts:List Pt)(z0:ts=[.tup (pts.map Pt.pv)])(zo:Km pts)(z1:∀C',Gr C C'->Q (.bl true) C')
def Mr(T:Tx W a){k:Nat}:Ok W a (k+12) 18 ["thing"] RV:=by
 have S:=(T.F 18 rfl).s;have Kr:=Mq (k:=k) T;have mZ:=ZG (k:=k+9) T;have uI:=Mg (k:=k+9) T;have W2:=MK (k:=k+10) T
 refine(T.F 18 rfl).ok (fun ts C R h=>?_) fun af A ah s H E J=>⟨_,(xQ (nQ (iz (jl (sX (bX (gX uX iZ rfl T.kX rfl (qQ (cv 0) (dN (aK (n:="tuple") rfl T.hZ rfl)))))) (je (sX (eD yF yF aG aG jQ (kh T.rZ (cv 0)) (oX (v:=.int 6) (t:=.int 6) rfl T.QI ⟨_,rfl⟩ (fun _=>.int _))))))) (kQ (uQ fZ)) dQ)
  (xQ (nQ (iz (jl (sX (bX (gX (nW rfl) lG rfl T.vP rfl (dN (aZ rfl (S.c (by decide +kernel)) (S.k rfl rfl rfl (by decide +kernel)) (uK (cv 0)) (fun _ _ _ _ _=>lZ) (fun _ _ _ _ _=>(cf (T.F 16 rfl) Kr J (dN (cv 0))))))))) (je (sX (bX (cf (T.F 12 rfl) mZ J (qQ (cv 0) (dN jQ)))))))) (kQ (uQ fZ)) dQ)
  (kQ (uQ (gX (nW rfl) lG rfl T.vP rfl (dN (aZ rfl (S.c (by decide +kernel)) (S.k rfl rfl rfl (by decide +kernel)) (uK (cv 0)) (fun _ _ _ _ _=>lZ) (fun _ _ _ _ _=>(cf (T.F 19 rfl) uI J (qQ (cv 0) (dN (cf (T.F 20 rfl) W2 J (qQ (cv 1) (dN (cx (cv 0) jQ))))))))))))))),?_⟩
 .obtain ⟨_,rfl,_⟩:=h;rfl
 rintro ts C R ⟨B,rfl,g,ae⟩;have h1:=g.n1;have h6:=g.n6;refine iX rfl rfl (wZ (nZ (jo (tX (Ai (by rw[AB];omega)) (jo ?_)))));rw[Ai (by rw[AB];omega)];refine wZ (lQ ?_);have ab:∀k,∀s∈(pV B).drop k,zZ s=true:=fun k s hs=>g.nn s (List.mem_of_mem_drop hs);have Y:∀x∈B,∃k:Nat,B[k]?=some x:=fun x q=>List.getElem?_of_mem q;have Z:∀x∈B,zZ x.name=true:=fun x q=>g.nn _ (AS.2 ⟨x,q,rfl⟩)
 refine lP (by rw[AB];omega) (fun x q C2 O L M=>?_) fun p C2 O m=>oO m (wZ (Nz.mk (B.map fun x=>(x.name,[.tup (x.first.map qY),.tup (x.works.map iJ),.tup (Ln.kj x.ls)])) 4 (by rw[Aj];rfl) (fun c hc=>?_) (by rw[Aj];exact g.nd) (by rw[AB];omega) fun C3 aa=>wZ (lQ (lP (by rw[AB];omega) (fun x q N U L M=>?_) fun p N U m=>oO m (ae N (O.trans (aa.trans U)))))))
 .obtain ⟨y,D,rfl⟩:=AS.1 q
  obtain⟨k,I⟩:=Y y D;exact RT.mk y _ _ rfl (g.ok k y I) (Z y D) (ab (k+1)) M
 .obtain ⟨y,D,rfl⟩:=AS.1 hc
  exact⟨Z y D,rfl⟩
 .obtain ⟨y,D,rfl⟩:=AS.1 q
  obtain⟨k,I⟩:=Y y D;have hs:=g.ok k y I;exact bQ rfl (R5.mk B k y rfl I g.nd h6 fun p5 C5 ag g5 m5=>RL.mk y p5 (y.first.map (·.1)) ((pV B).drop (k+1)) rfl m5 hs.ok.ls hs.O8 hs.tw fun C6 g6=>M _ (g5.trans g6))
abbrev ur(a:Adr)(dx wl:Addr)(l:Int)(t:Nat):CO:=.ins a.RowReader dx [((("words" : Str)),.ref wl),((("line" : Str)),.int l),((("taken" : Str)),.int t)]
structure Rd where
 r:Addr
 dx:Addr
 wl:Addr
 ws:List Str
 l:Int
structure nj(a:Adr)(C:CH)(R:Rd)(t:Nat):Prop where
 o:C R.r=some (ur a R.dx R.wl R.l t)
 w:C R.wl=some (.lst (R.ws.map PV.str))
 n:R.ws.length<=1000
theorem nj.ne{C:CH}{R:Rd}{t:Nat}(h:nj a C R t):R.wl≠R.r:=fun z=>by
 have:=h.w;rw[z,h.o] at this;cases this
def Tk(a:Adr)(R:Rd)(t:Nat)(C C':CH):Prop:=Gr (gQ C R.r (ur a R.dx R.wl R.l t)) C'
theorem Tk.at{C C':CH}{R:Rd}{t t':Nat}(h:nj a C R t)(k:Tk a R t' C C'):nj a C' R t' :=
 ⟨k _ _ zQ,k _ _ ((vQ h.ne).trans h.w),h.n⟩
def Tk.one{C:CH}{R:Rd}{t:Nat}:Tk a R t C (gQ C R.r (ur a R.dx R.wl R.l t)):=Gr.refl
def Tk.gr{C C1 C':CH}{R:Rd}{t:Nat}(k:Tk a R t C C1)(g:Gr C1 C'):Tk a R t C C':=Gr.trans k g
theorem Tk.trans{C C1 C':CH}{R:Rd}{t t':Nat}(k:Tk a R t C C1)(q:Tk a R t' C1 C'):Tk a R t' C C':=fun b o e=>by
 by_cases g:b=R.r
 .subst g
  rw[zQ] at e;exact q _ _ (zQ.trans e)
 .rw [vQ g] at e
  exact q _ _ ((vQ g).trans (k _ _ ((vQ g).trans e)))
def Tk.of{C C':CH}{R:Rd}{t:Nat}(h:nj a C R t)(g:Gr C C'):Tk a R t C C':=fun b o e=>by
 by_cases q:b=R.r
 .subst q
  rw[zQ] at e;exact g _ _ (h.o.trans e)
 .exact g _ _ ((vQ q).symm.trans e)
def Tk.pre{C C0 C':CH}{R:Rd}{t q:Nat}(h:nj a C R q)(g:Gr C C0)(k:Tk a R t C0 C'):Tk a R t C C':=(Tk.of h g).trans k
inductive vp(a:Adr)(ts:List PV)(C:CH)(Q:K1):Prop
 |mk(R:Rd)(t:Nat)(w:Str)(z0:ts=[.ref R.r])(z1:nj a C R t)(z2:R.ws[t]?=some w)(z3:∀C',Tk a R (t+1) C C'->Q (.str w) C')
def Qj(T:Tx W a){k:Nat}:Ok W a (k+1) 59 ["self"] (vp a):=by
 have S:=(T.F 59 rfl).s
 refine(T.F 59 rfl).ok (fun ts C R h=>?_) fun D A L s H E I=>⟨_,(xQ (nQ (ct2 fX qX (zJ T.pQ T.pZ (cv 0)) (kh T.rZ (zJ T.pQ T.dJ (cv 0)))) rW dQ)
  (xQ (ZY T.pQ T.pZ (cv 0))
  (kQ (uQ (cx (zJ T.pQ T.dJ (cv 0)) (aQ qV nJ (zJ T.pQ T.pZ (cv 0)) jQ)))))),?_⟩
 .obtain ⟨_,_,_,rfl,_⟩:=h;rfl
 rintro ts C Q ⟨R,t,w,rfl,h,g,q⟩;have J:t < R.ws.length:=(AZ.1 g).1;refine kJ h.o rfl (kJ h.o rfl (eK h.w (fQ (b:=false) ?_ (cQ rfl (lQ ?_)))))
 .rw [AB]
  show some (decide _)=some false
  congr 1
  refine Ad ?_;omega
 refine⟨R.r,R.dx,_,t,rfl,h.o,rfl,by show 3 < 1000;decide,?_⟩;show WG _ _ _ _ _;have B:Tk a R (t+1) C (gQ C R.r (ur a R.dx R.wl R.l (t+1))):=Tk.one;refine kJ zQ rfl (kJ zQ rfl (jo ?_));rw[show(t:Int)+1 - 1=t from by omega];exact vZ ((vQ h.ne).trans h.w) (zF (by rw[Ah,g];rfl)) (q _ B)
inductive R0(a:Adr)(ts:List PV)(C:CH)(Q:K1):Prop
 |mk(R:Rd)(z0:ts=[.ref R.r])(z1:nj a C R R.ws.length)(z3:Q .non C)
def Mw(T:Tx W a){k:Nat}:Ok W a (k+1) 61 ["self"] (R0 a):=by
 have S:=(T.F 61 rfl).s;refine(T.F 61 rfl).ok (fun ts C R h=>?_) fun g A D s H E B=>⟨_,(kQ (nQ (ct2 qM cY (zJ T.pQ T.pZ (cv 0)) (kh T.rZ (zJ T.pQ T.dJ (cv 0)))) rW dQ)),?_⟩
 .obtain ⟨_,rfl,_⟩:=h;rfl
 rintro ts C Q ⟨R,rfl,h,q⟩;refine kJ h.o rfl (kJ h.o rfl (eK h.w (jo (cQ (Ad (by rw[AB];omega)) (lQ q)))))
inductive O4(a:Adr)(ts:List PV)(C:CH)(Q:K1):Prop
 |mk(R:Rd)(t:Nat)(w:Str)(y:PV)(ss:List Str)(z0:ts=[.ref R.r,y])(z1:nj a C R t)(z2:R.ws[t]?=some w)(zy:∀C,Xs C y=some (ss.map PV.str))(zw:w∈ss)(z3:∀C',Tk a R (t+1) C C'->Q (.str w) C')
def Mf(T:Tx W a){k:Nat}:Ok W a (k+2) 62 ["self","words"] (O4 a):=by
 have S:=(T.F 62 rfl).s;have g:=Qj (k:=k) T
 refine(T.F 62 rfl).ok (fun ts C R h=>?_) fun L A M s H E B=>⟨_,(xQ (jb 2 S.nd (o9 T.pQ (T.F 59 rfl) T.xX g B (cv 0)))
  (xQ (nQ (rK lV jY (cv 2) (cv 1) rfl) rW dQ)
  (kQ (uQ (cv 2))))),?_⟩
 .obtain ⟨_,_,_,_,_,rfl,_⟩:=h;rfl
 rintro ts C Q ⟨R,t,w,y,ss,rfl,h,D,I,hs,q⟩;exact⟨jX h.o rfl,vp.mk R t w rfl h D fun C1 J=>ZM (I C1) hs (cQ rfl (lQ (q C1 J)))⟩
inductive ug(a:Adr)(ts:List PV)(C:CH)(Q:K1):Prop
 |mk(R:Rd)(t:Nat)(w:Str)(z0:ts=[.ref R.r])(z1:nj a C R t)(z2:R.ws[t]?=some w)(zw:zZ w=true)(z3:∀C',Tk a R (t+1) C C'->Q (.str w) C')
def ZC(T:Tx W a){k:Nat}:Ok W a (k+2) 63 ["self"] (ug a):=by
 have S:=(T.F 63 rfl).s;have B:=Qj (k:=k) T;have M:=bY (k:=k) T
 refine(T.F 63 rfl).ok (fun ts C R h=>?_) fun N A O s H E g=>⟨_,(xQ (jb 1 S.nd (o9 T.pQ (T.F 59 rfl) T.xX B g (cv 0)))
  (xQ (nQ (sX (bX (cf (T.F 1 rfl) M g (dN (cv 1))))) rW dQ)
  (kQ (uQ (cv 1))))),?_⟩
 .obtain ⟨_,_,_,rfl,_⟩:=h;rfl
 rintro ts C Q ⟨R,t,w,rfl,h,J,I,q⟩;exact⟨jX h.o rfl,vp.mk R t w rfl h J fun C1 L=>vq.mk w rfl I fun C2 D=>wZ (lQ (q C2 (L.gr D)))⟩
inductive RG(a:Adr)(ts:List PV)(C:CH)(Q:K1):Prop
 |mk(R:Rd)(t:Nat)(i:Int)(z0:ts=[.ref R.r])(z1:nj a C R t)(z2:R.ws[t]?=some (jw i))(zw:Bd i)(z3:∀C',Tk a R (t+1) C C'->Q (.int i) C')
def LK(T:Tx W a){k:Nat}:Ok W a (k+3) 64 ["self"] (RG a):=by
 have S:=(T.F 64 rfl).s;have B:=Qj (k:=k+1) T;have M:=Ew (k:=k) T
 refine(T.F 64 rfl).ok (fun ts C R h=>?_) fun N A O s H E g=>⟨_,(xQ (jb 1 S.nd (cf (T.F 23 rfl) M g (dN (o9 T.pQ (T.F 59 rfl) T.xX B g (cv 0)))))
  (xQ (nQ (ct2 zM dG (cv 1) eJ) rW dQ)
  (kQ (uQ (cv 1))))),?_⟩
 .obtain ⟨_,_,_,rfl,_⟩:=h;rfl
 rintro ts C Q ⟨R,t,i,rfl,h,J,I,q⟩;refine⟨jX h.o rfl,vp.mk R t _ rfl h J fun C1 L=>Pz.mk i rfl I fun C2 D=>?_⟩;exact lQ (q C2 (L.gr D))
end
def IK:List Str:=["add","times","less","pick","take","box","down","turn","-"]
def Li:∀w∈IK,PySem.intText? w=none:=by decide +kernel
def XA{i:Int}(h:Bd i):jw i∉IK:=fun g=>by
 have:=Li _ g;rw[(rD h.1 h.2).2] at this;cases this
def yq{z:Str}(h:z∉IK):(oK M9 (Sum.inr z)).isSome=false:=by
 have g:∀w∈IK,w≠z:=fun w D e=>h (e▸D);have h1:=g "add" (by decide +kernel);have h2:=g "times" (by decide +kernel);have q:=g "less" (by decide +kernel);have B:=g "pick" (by decide +kernel)
 simp[oK,M9,List.find?,h1,h2,q,B]
def yj{z:Str}(h:z∉IK):qA ["take","box","down","turn"] (.str z)=false:=by
 have g:∀w∈IK,w≠z:=fun w D e=>h (e▸D);have h1:=g "take" (by decide +kernel);have h2:=g "box" (by decide +kernel);have q:=g "down" (by decide +kernel);have B:=g "turn" (by decide +kernel)
 simp[qA,h1,h2,q,B,h1.symm,h2.symm,q.symm,B.symm]
def Rk.lq:Rk->List PV
 |.num i=>[.tup [.str "num",.int i]]
 |.turn n=>[.tup [.str "turn",.str n]]
 |.ask s n=>[.tup [.str s,.str n]]
 |.bin w x y=>.str w::(x.lq++y.lq)
 |.pick x y z=>.str "pick" :: (x.lq++(y.lq++z.lq))
def Rk.hd:Rk->PV
 |.num i=>.tup [.str "num",.int i]
 |.turn n=>.tup [.str "turn",.str n]
 |.ask s n=>.tup [.str s,.str n]
 |.bin w _ _=>.str w
 |.pick _ _ _=>.str "pick"
def Rk.hw:Rk->Nat
 |.turn _=>2
 |.ask _ _=>2
 |_=>1
def eE(g:List Rk):List PV:=g.flatMap Rk.lq
theorem Rk.Hk:∀r:Rk,r.lq=r.hd::eE r.ins
 |.num _=>rfl
 |.turn _=>rfl
 |.ask _ _=>rfl
 |.bin w x y=>by show PV.str w::(x.lq++y.lq)=.str w::(x.lq++(y.lq++[]));rw[AH]
 |.pick x y z=>by show PV.str "pick" :: (x.lq++(y.lq++z.lq))=.str "pick" :: (x.lq++(y.lq++(z.lq++[])));rw[AH]
def Rk.hws:Rk->List Str
 |.num i=>[jw i]
 |.turn n=>["turn",n]
 |.ask s n=>[s,n]
 |.bin w _ _=>[w]
 |.pick _ _ _=>["pick"]
theorem Rk.ux:∀r:Rk,r.ie=r.hws++xK r.ins
 |.num _=>rfl
 |.turn _=>rfl
 |.ask _ _=>rfl
 |.bin w x y=>by show w::(x.ie++y.ie)=w::(x.ie++(y.ie++[]));rw[AH]
 |.pick x y z=>by show("pick" : Str)::(x.ie++(y.ie++z.ie))=("pick" : Str)::(x.ie++(y.ie++(z.ie++[])));rw[AH]
theorem Rk.uf:∀r:Rk,r.hws.length=r.hw
 |.num _=>rfl
 |.turn _=>rfl
 |.ask _ _=>rfl
 |.bin _ _ _=>rfl
 |.pick _ _ _=>rfl
def tZ{ws:List Str}{t:Nat}{w:Str}{rest:List Str}(h:ws.drop t=w::rest):ws[t]?=some w:=by
 have:(ws.drop t)[0]?=some w:=by rw[h];rfl
 rwa [List.getElem?_drop,A7] at this
def eZ{ws:List Str}{t:Nat}{us rest:List Str}(h:ws.drop t=us++rest):ws.drop (t+us.length)=rest:=by
 rw[<- List.drop_drop,h,List.drop_left]
section
variable {W:Wd}{a:Adr}
inductive Nv(a:Adr)(ts:List PV)(C:CH)(Q:K1):Prop
 |mk(R:Rd)(t:Nat)(r:Rk)(rest:List Str)(z0:ts=[.ref R.r])(z1:nj a C R t)(z2:R.ws.drop t=r.hws++rest)(zw:r.gd)(z3:∀C',Tk a R (t+r.hw) C C'->Q r.hd C')
def GQ(T:Tx W a){k:Nat}:Ok W a (k+3) 67 ["self"] (Nv a):=by
 have S:=(T.F 67 rfl).s;have M:=Qj (k:=k+1) T;have U:=ZC (k:=k) T;have O:=Ew (k:=k) T
 refine(T.F 67 rfl).ok (fun ts C R h=>?_) fun Y A Z s H E I=>⟨_,(xQ (jb 1 S.nd (o9 T.pQ (T.F 59 rfl) T.xX M I (cv 0)))
  (xQ (nQ (rK (jM T.gU) bM (cv 1) (oX (v:=.ref a.JOINING) (t:=.ref a.JOINING) rfl T.yU rfl (fun _=>.ref _)) rfl) (kQ (uQ (cv 1))) dQ)
  (xQ (nQ (rK (vU (gZ I)) iM (cv 1) (oX (v:=.ref a.NAMING) (t:=.kt [.str "take",.str "box",.str "down",.str "turn"]) rfl T.xA rfl (fun H=>.kt (T.mE H) (.cons (.str _) (.cons (.str _) (.cons (.str _) (.cons (.str _) .nil)))))) rfl) (kQ (uQ (pX (qQ (cv 1) (dN (o9 T.pQ (T.F 63 rfl) T.xX U I (cv 0))))))) dQ)
  (xQ (jb 2 S.nd (cf (T.F 23 rfl) O I (dN (cv 1))))
  (xQ (nQ (ct2 zM dG (cv 2) eJ) rW dQ)
  (kQ (uQ (pX (qQ wQ (dN (cv 2))))))))))),?_⟩
 .obtain ⟨_,_,_,_,rfl,_⟩:=h;rfl
 rintro ts C Q ⟨R,t,r,rest,rfl,h,B,D,q⟩
 cases r with
 |num i =>
  have J:Bd i:=D;refine⟨jX h.o rfl,vp.mk R t (jw i) rfl h (tZ B) fun C1 g=>⟨_,rfl,rfl,cQ (yq (XA J)) (lQ (cK rfl rfl (cQ (yj (XA J)) (lQ (Pz.mk i rfl J fun C2 N=>lQ ⟨y0 2 rfl,q C2 (g.gr N)⟩)))))⟩⟩
 |turn n=>exact⟨jX h.o rfl,vp.mk R t "turn" rfl h (tZ B) fun C1 g=>⟨_,rfl,rfl,cQ (by decide +kernel) (lQ (cK rfl rfl (tX (by decide +kernel) ⟨jX (g.at h).o rfl,ug.mk R (t+1) n rfl (g.at h) (tZ (eZ (us:=["turn"]) B)) D fun C2 L=>⟨y0 2 rfl,q C2 (g.trans L)⟩⟩)))⟩⟩
 |ask s n =>
  refine⟨jX h.o rfl,vp.mk R t s rfl h (tZ B) fun C1 g=>⟨_,rfl,rfl,cQ ?_ (lQ (cK rfl rfl (tX ?_ ⟨jX (g.at h).o rfl,ug.mk R (t+1) n rfl (g.at h) (tZ (eZ (us:=[s]) B)) D.2 fun C2 L=>⟨y0 2 rfl,q C2 (g.trans L)⟩⟩)))⟩⟩
  .rcases D.1 with rfl | rfl | rfl<;>decide +kernel
  .rcases D.1 with rfl | rfl | rfl<;>decide +kernel
 |bin w x y =>
  refine⟨jX h.o rfl,vp.mk R t w rfl h (tZ B) fun C1 g=>⟨_,rfl,rfl,tX ?_ (q C1 g)⟩⟩
  rcases D.1 with rfl | rfl | rfl<;>decide +kernel
 |pick x y z=>exact⟨jX h.o rfl,vp.mk R t "pick" rfl h (tZ B) fun C1 g=>⟨_,rfl,rfl,tX (by decide +kernel) (q C1 g)⟩⟩
end
end K13
namespace CL
open PySem PySem.Spec L2 PySem.W
open PyProof.Rows hiding St
def Vn{X:Cx}{d:Addr}{kvs:List (Key×V)}(g:KD X.K X.prog X.w d kvs)(D:X.A.units+1 < cLine):OpR X (compareOp .In) (fun x y H Q=>(∃z,x=.str z/\y=.ref d/\Q (.bl (oK kvs (Sum.inr z)).isSome) H)\/(∃(b:Addr)(ks:List Key),x=.ref b/\y=.ref d/\H b=some (.tup (ks.map kV))/\Q (.bl false) H)):=fun pins s σ H x y v u Q I q B h=>h.elim (fun h=>jM g pins s σ H x y v u Q I q B h) fun h=>Jr g D pins s σ H x y v u Q I q B h
theorem iS{S:CH->Prop}{g:qu}{u:lg}{E:ig}(I:List PV->jx->CH->Prop)(D:∀zs q C,I zs q C->S C)(M:∀x r q C,I (x::r) q C->∀L:jx->CH->Prop,(∀B C',I r B C'->L B C')->g x q C fun N C1=>u (E.lp L) N C1)(J:∀q C,I [] q C->E.nx q C):∀xs q C,I xs q C->tF S g u E xs q C
 |[],q,C,h=>⟨D _ _ _ h,J q C h⟩
 |x::r,q,C,h=>⟨D _ _ _ h,M x r q C h _ fun B C' h'=>iS I D M J r B C' h'⟩
end CL
namespace K13
open PySem L2 CL
def run:List PV->List PV->Option (List PV)
 |[],M=>some M
 |.str w::zs,x::y::M =>
  if w = "pick" then
   match M with
   |z::g=>run zs (.tup [.str w,x,y,z]::g)
   |[]=>none
  else if w = "add"\/w = "times"\/w = "less" then run zs (.tup [.str w,x,y]::M) else none
 |.tup xs::zs,M=>if xs.all (fun x=>(wV x).isSome)=true then run zs (.tup xs::M) else none
 |_::_,_=>none
theorem mL:∀{r:Rk},r.gd->∀zs M,run (r.lq.reverse++zs) M=run zs (r.pv::M)
 |.num i,_,zs,M=>rfl
 |.turn n,_,zs,M=>rfl
 |.ask s n,_,zs,M=>rfl
 |.bin w x y,h,zs,M=>by
  show run ((.str w::(x.lq++y.lq)).reverse++zs) M=_;rw[A4,List.reverse_append,AG,AG,mL h.2.2,mL h.2.1];show(if w = "pick" then _ else if w = "add"\/w = "times"\/w = "less" then run zs (.tup [.str w,x.pv,y.pv]::M) else none)=_;rw[Am (by rcases h.1 with rfl | rfl | rfl<;>decide +kernel),Al h.1]
  rfl
 |.pick x y z,h,zs,M=>by
  show run ((PV.str "pick" :: (x.lq++(y.lq++z.lq))).reverse++zs) M=_;rw[A4,List.reverse_append,List.reverse_append,AG,AG,AG,mL h.2.2,mL h.2.1,mL h.1];show(if ("pick" : Str) = "pick" then run zs (.tup [.str "pick",x.pv,y.pv,z.pv]::M) else _)=_;rw[Al rfl]
  rfl
def J4{C0 C:CH}{p B:Addr}{x2 x3:Option PV}{Q:K1}(hp:C0 B=none)(J O:List PV){zs:List PV}(hz:zs.length=J.length)(m:C B=some (.lst (J++O).reverse))(g:Gr C0 C)(l:J.length<=3)(ab:∀I C',B≠I->C' I=some (.lst J)->C' B=some (.lst O.reverse)->Gr C0 C'->Q (.ref I) C'):jK fM (Ik Kd (uV 2)) [some (.ref p),some (.ref B),x2,x3] Q zs [] C:=by
 refine vW (fun zs M C'=>∃q,M++q=J/\q.length=zs.length/\C' B=some (.lst (q++O).reverse)/\Gr C0 C') ?_ ?_ _ _ _ ⟨J,rfl,hz.symm,m,g⟩
 .rintro x r M C1 ⟨q,e,N,D,S⟩ L hL
  cases q with
  |nil=>cases N
  |cons y q =>
   rw[BC,A4] at D;refine⟨qZ D,eN D (y:=y) (by simp) (hL _ _ ⟨?_,q,by rw[AG];exact e,Bv N,?_,fun b o U=>(vQ (rX hp U)).trans (S _ _ U)⟩)⟩
   .have:=A3 List.length e
    rw[AA,AD] at this;exact AK (show M.length < 4 by omega) (by decide)
   .rw [zQ,BN]
 .rintro M C1 ⟨q,e,N,D,S⟩ I Y
  have aa:q=[]:=Be.1 N;subst aa;rw[AH] at e;subst e;have Z:B≠I:=rX Y D;exact ab I _ Z zQ ((vQ Z).trans D) (S.trans (Gr.new Y _))
section
variable {W:Wd}{a:Adr}
inductive RP(ts:List PV)(C:CH)(Q:K1):Prop
 |mk(p:Addr)(r:Rk)(z0:ts=[.ref p])(z1:C p=some (.lst r.lq))(zg:r.gd)(zl:r.lq.length<=100)(z3:∀C',Gr C C'->Q r.pv C')
def Mp(T:Tx W a){k:Nat}:Ok W a (k+1) 24 ["items"] RP:=by
 have S:=(T.F 24 rfl).s;have ag:=ZJ (K:=W.K)
 refine(T.F 24 rfl).ok (fun ts C R h=>?_) fun ar A au s H E ah=>⟨_,(xQ (jb 1 S.nd (mQ aX))
  (xQ (Dg PassesOwn.never rfl rfl T.iH (cv 0) (qi 2 S.nd) (kQ (nQ (rK (Vn T.gU (gZ ah)) J3 (cv 2) (oX (v:=.ref a.JOINING) (t:=.ref a.JOINING) rfl T.yU rfl (fun _=>.ref _)) rfl) (xQ (rA (i:=3) S.nd rfl (Or.inl rfl) rfl (S.c (by decide +kernel)) (S.k rfl rfl rfl (by decide +kernel)) (xR rfl T.kG (dN (rH T.gU ag (oX (v:=.ref a.JOINING) (t:=.ref a.JOINING) rfl T.yU rfl (fun _=>.ref _)) (cv 2) (fun _ _=>rfl)))) (fun _ _ _ _ _=>lZ) (fun _ _ _ _ _=>(mM AY BK BJ cF qB (cv 2))))
  (kQ (wX (cap (cv 1) (t6 T.hZ (aQ oQ tQ (mQ (dN (cv 2))) (cv 3))))))) (kQ (wX (cap (cv 1) (cv 2)))))))
  (kQ (uQ (cx (cv 1) jQ))))),?_⟩
 .obtain ⟨_,_,rfl,_⟩:=h;rfl
 rintro ts C Q ⟨p,r,rfl,m,hg,hl,ao⟩;refine⟨AM _,fun Y N=>?_⟩;have ak:p≠Y:=rX N m;dsimp only[ig.wn];refine aJ (Hx rfl ((vQ ak).trans m) (iS (fun zs ρ C'=>∃(M:List PV)(Z x3:Option PV),ρ=[some (.ref p),some (.ref Y),Z,x3]/\C' Y=some (.lst M.reverse)/\run zs M=some [r.pv]/\M.length+zs.length<=100/\Gr C C') ?_ ?_ ?_ _ _ _ ⟨[],_,_,rfl,zQ,?_,?_,Gr.new N _⟩))
 .rintro zs ρ C' ⟨M,Z,x3,rfl,_,_,_,g⟩
  exact g _ _ m
 .rintro it zs ρ C1 ⟨M,Z,x3,rfl,D,q,O,g⟩ L hL
  rw[AD] at O
  cases it with
  |str w =>
   rcases M with _ | ⟨x,_ | ⟨y,M⟩⟩
   .cases q
   .cases q
   .have aj:(oK M9 (Sum.inr w)).isSome=true:=by
     unfold run at q
     by_cases h1:w = "pick"
     .rw [h1];decide +kernel
     .rw [Am h1] at q
      by_cases h2:w = "add"\/w = "times"\/w = "less"
      .rcases h2 with rfl | rfl | rfl<;>decide +kernel
      .rw [Am h2] at q;cases q
    refine Or.inl ⟨w,rfl,rfl,tX aj ?_⟩
    have ab:∀(B I:List PV),x::y::M=B++I->M8 w=some (.int (B.length:Nat))->2<=B.length->B.length<=3->run zs (.tup (.str w::B)::I)=some [r.pv]->WA (Wz 3 (Ja (Oe (mK (ut (WC a.JOINING M8) (cC (PV.ref a.JOINING)) (uV 2)) fU)) fM (Ik Kd (uV 2)))) (Z9 (Ot xY (uV 1) (mK (dB jB (mK (ut qP (Od (mK (uV 2) fU)) (uV 3)) fU)) fU))) (((ig.go Q).wn (N6 (ut vg (uV 1) (cC (PV.int 0))) (ig.go Q))).lp L) ([some (PV.ref p),some (PV.ref Y),Z,x3].set 2 (some (PV.str w))) C1:=by
     intro B I e hj t2 aq ai;rw[e] at D O;refine aJ ⟨w,_,rfl,rfl,hj,by omega,by omega,?_⟩;refine J4 (p:=p) N B I (by rw[AB,A5];omega) D g aq fun p5 C5 h5 m5 U g5=>?_;have n5:Y≠p5:=h5;refine⟨qZ U,⟨y0 1 rfl,fun p6 aa=>rR (xs:=[.str w]) (ys:=B) zQ ((vQ (rX aa m5)).trans m5) (AR (show 1+B.length<=4 by omega) (by decide)) fun p7 ae=>xU zQ (nK ((vQ ?_).trans ((vQ (rX aa U)).trans U)) (by rw[A1];exact AK (show _ < 101 by rw[AA] at O;omega) (by decide)) ?_)⟩⟩
     .exact rX ae ((vQ (rX aa U)).trans U)
     .refine hL _ _ ⟨.tup (.str w::B)::I,_,_,rfl,by rw[zQ,A4];rfl,ai,by rw[AA] at O;rw[AD];omega,fun b o J=>(vQ (rX N J)).trans (Gr.new ae _ _ _ (Gr.new aa _ _ _ (g5 _ _ J)))⟩
    unfold run at q
    by_cases h1:w = "pick"
    .rw [Al h1] at q
     cases M with
     |nil=>cases q
     |cons z M=>exact ab [x,y,z] M rfl (by rw[h1];rfl) (by show 2<=3;decide) (by show 3<=3;decide) q
    .rw [Am h1] at q
     by_cases h2:w = "add"\/w = "times"\/w = "less"
     .rw [Al h2] at q
      exact ab [x,y] M rfl (by unfold M8;rw[Al h2];rfl) (by show 2<=2;decide) (by show 2<=3;decide) q
     .rw [Am h2] at q;cases q
  |tup xs =>
   have hx:xs.all (fun x=>(wV x).isSome)=true:=by
    by_cases h:xs.all (fun x=>(wV x).isSome)=true
    .exact h
    .unfold run at q;rw[Am h] at q;cases q
   have af:run zs (.tup xs::M)=some [r.pv]:=by unfold run at q;rwa [Al hx] at q
   have hk:∃ks:List Key,xs.map wV=List.map some ks:=by
    clear q af
    induction xs with
    |nil=>exact⟨[],rfl⟩
    |cons x xs ih =>
     rw[Cn,Ax] at hx;obtain⟨ks,e⟩:=ih hx.2;obtain⟨k,ek⟩:=Option.isSome_iff_exists.1 hx.1;exact⟨k::ks,by rw[Ak,Ak,e,ek]⟩
   obtain⟨ks,hk⟩:=hk;refine Or.inr ⟨xs,ks,rfl,rfl,hk,cQ rfl ⟨qZ D,nK D (by rw[A1];exact AK (show _ < 101 by omega) (by decide)) (hL _ _ ⟨.tup xs::M,_,_,rfl,by rw[zQ,A4],af,by rw[AD];omega,fun b o J=>(vQ (rX N J)).trans (g _ _ J)⟩)⟩⟩
  |_=>cases q
 .rintro ρ C1 ⟨M,Z,x3,rfl,D,q,O,g⟩
  have:M=[r.pv]:=An q;subst this;exact vZ D rfl (ao C1 g)
 .have:=mL hg [] []
  rw[AH] at this;exact this
 .rw [A9,A1,BZ]
  exact hl
end
def VO(a b:List Rk):eE (a++b)=eE a++eE b:=Az
def lN(a b:List Rk):xK (a++b)=xK a++xK b:=Az
theorem Rk.nu:∀r:Rk,r.lq.length<=r.ie.length
 |.num _=>AO _
 |.turn _=>by show 1<=2;decide
 |.ask _ _=>by show 1<=2;decide
 |.bin w x y=>by
  have:=x.nu;have:=y.nu;show(PV.str w::(x.lq++y.lq)).length<=(w::(x.ie++y.ie)).length;rw[AD,AD,AA,AA];omega
 |.pick x y z=>by
  have:=x.nu;have:=y.nu;have:=z.nu;show(PV.str "pick" :: (x.lq++(y.lq++z.lq))).length<=(("pick" : Str)::(x.ie++(y.ie++z.ie))).length;rw[AD,AD,AA,AA,AA,AA];omega
def Rk.lk(r:Rk):Int:=(r.ins.length:Nat)
section
variable {W:Wd}{a:Adr}
inductive zj(a:Adr)(ts:List PV)(C:CH)(Q:K1):Prop
 |mk(R:Rd)(t:Nat)(r:Rk)(rest:List Str)(z0:ts=[.ref R.r])(z1:nj a C R t)(z2:R.ws.drop t=r.ie++rest)(zw:Rg r)(z3:∀C',Tk a R (t+r.ie.length) C C'->Q r.pv C')
def Hv(r:Rk)(g:r.gd):(∃u,r.hd=.str u/\Nj (oK M9 (Sum.inr u)) (.int 0)=some (.int r.lk))\/∃(xs:List PV)(ks:List Key),r.hd=.tup xs/\xs.map wV=List.map some ks/\r.lk=0:=by
 cases r with
 |num i=>exact .inr ⟨_,[.inr "num",.inl (some i)],rfl,rfl,rfl⟩
 |turn n=>exact .inr ⟨_,[.inr "turn",.inr n],rfl,rfl,rfl⟩
 |ask s n=>exact .inr ⟨_,[.inr s,.inr n],rfl,rfl,rfl⟩
 |bin w x y =>
  refine .inl ⟨w,rfl,?_⟩
  rcases g.1 with rfl | rfl | rfl<;>rfl
 |pick x y z=>exact .inl ⟨"pick",rfl,rfl⟩
def Vs(T:Tx W a){k:Nat}:Ok W a (k+4) 66 ["self"] (zj a):=by
 have S:=(T.F 66 rfl).s;have kP:=GQ (k:=k) T;have aR:=Mp (k:=k+2) T
 refine(T.F 66 rfl).ok (fun ts C R h=>?_) fun ar A ax s H E ab=>⟨_,(xQ (jb 1 S.nd (mQ aX))
  (xQ (jb 2 S.nd jQ)
  (xQ (bU PassesOwn.never (ct2 kK vJ (cv 2) jQ) (xQ (jb 3 S.nd (o9 T.pQ (T.F 67 rfl) T.xX kP ab (cv 0)))
  (xQ (wX (cap (cv 1) (cv 3)))
  (kQ (sA 2 S.nd (aQ qV nJ (pO T.gU (gZ ab) (oX (v:=.ref a.JOINING) (t:=.ref a.JOINING) rfl T.yU rfl (fun _=>.ref _)) (cv 3) jQ) jQ))))))
  (kQ (uQ (cf (T.F 24 rfl) aR ab (dN (cv 1)))))))),?_⟩
 .obtain ⟨_,_,_,_,rfl,_⟩:=h;rfl
 rintro ts C Q ⟨R,t,r,rest,rfl,h,aj,M,aq⟩;refine⟨AM _,fun p N=>?_⟩;have af:p≠R.r:=fun z=>by rw[z,h.o] at N;cases N
 dsimp only[ig.wn];refine mX ?_;refine lX (fun ag C'=>∃x2 J,ag=[some (.ref R.r),some (.ref p),x2,J]/\C' p=some (.lst r.lq)/\Tk a R (t+r.ie.length) C C') (fun L hL=>?_) ?_
 .refine ⟨r.ie.length+1,cU (fun n ρ C'=>∃(g:List Rk)(q:List PV)(B:Nat)(J:Option PV),n=(xK g).length/\B+n=r.ie.length/\q++eE g=r.lq/\(∀x∈g,x.gd)/\R.ws.drop (t+B)=xK g++rest/\ρ=[some (.ref R.r),some (.ref p),some (.int (g.length:Nat)),J]/\C' p=some (.lst q)/\q.length<=B/\Tk a R (t+B) C C') ?_ _ (r.ie.length) _ _ (BB _) ⟨[r],[],0,_,by show _=(r.ie++[]).length;rw[AH],by omega,by show[]++(r.lq++[])=_;rw[AH];rfl,fun x I=>by rw[AJ.1 I];exact M.g,by show R.ws.drop t=(r.ie++[])++rest;rw[AH];exact aj,rfl,zQ,AO _,Tk.of h (Gr.new N _)⟩⟩
  rintro n ρ C1 L1 ⟨g,q,B,J,rfl,en,ed,ae,aa,rfl,m,au,O⟩ ai;have h1:=O.at h
  cases g with
  |nil =>
   refine jo (cQ rfl ?_);have e0:q=r.lq:=by rw[<- ed];show _=q++[];rw[AH]
   have D:B=r.ie.length:=by rw[<- en];rfl
   subst e0;rw[D] at O;exact hL _ _ ⟨_,_,rfl,m,O⟩
  |cons x g =>
   refine jo (tX (Ai (by rw[AD];omega)) ?_);have I:=ae x AI;have ew:xK (x::g)=x.hws++(xK x.ins++xK g):=by show x.ie++xK g=_;rw[x.ux,AG]
   have ei:eE (x::g)=x.hd::(eE x.ins++eE g):=by show x.lq++eE g=_;rw[x.Hk];rfl
   have hl:=x.uf;have av:1<=x.hw:=by cases x<;>simp[Rk.hw]
   rw[ew,AG] at aa;refine⟨jX h1.o rfl,Nv.mk R (t+B) x _ rfl h1 aa I fun C2 k2=>?_⟩;have ak:=O.trans k2;have m2:C2 p=some (.lst q):=k2 _ _ ((vQ af).trans m);have aw:x.hw+(xK x.ins++xK g).length=(xK (x::g)).length:=by rw[ew,AA (as:=x.hws),hl]
   have ay:=M.l;dsimp only[ig.wn];refine⟨qZ m2,nK m2 (AK (show _ < 100 by omega) (by decide)) ?_⟩
   have k3:Tk a R (t+B+x.hw) C (gQ C2 p (.lst (q++[x.hd]))):=fun b o Y=>by
    have ao:b≠p:=fun z=>by
     rw[z,vQ af,N] at Y;cases Y
    exact(vQ ao).trans (ak _ _ Y)
   dsimp only[ig.wn]
   have Z:L1 [some (PV.ref R.r),some (PV.ref p),some (PV.int (((x::g).length:Nat)+(x.lk - 1))),some x.hd] (gQ C2 p (.lst (q++[x.hd]))):=by
    refine ai (xK (x.ins++g)).length _ _ (by rw[lN];omega) ⟨x.ins++g,q++[x.hd],B+x.hw,some x.hd,rfl,by rw[lN];omega,?_,fun y hy=>?_,?_,?_,zQ,by rw[AA];show q.length+1<=_;omega,by rw[<- Cm];exact k3⟩
    .rw [VO,AG,<- ed,ei]
     rfl
    .rcases AQ.1 hy with h | h
     .exact Rk.u6 I y h
     .exact ae y (AF _ h)
    .have:=eZ aa
     rw[hl,<- Cm] at *
     rw[lN,AG];rw[AG] at this;exact this
    .have:((x::g).length:Int)+(x.lk - 1)=((x.ins++g).length:Nat):=by
      unfold Rk.lk;rw[AD,AA];omega
     show[some (PV.ref R.r),some (PV.ref p),some (PV.int (((x::g).length:Nat)+(x.lk - 1))),some x.hd]=_;rw[this]
   refine⟨_,rfl,⟨rfl,?_⟩⟩
   rcases Hv x I with ⟨u,D,U⟩ | ⟨xs,ks,D,U,e3⟩
   .exact Or.inl ⟨u,_,D,U,jo ⟨_,rfl,Z⟩⟩
   .rw [e3] at Z
    exact Or.inr ⟨xs,ks,D,U,jo ⟨_,rfl,Z⟩⟩
 .rintro ag C' ⟨x2,J,rfl,m,k⟩
  exact RP.mk p r rfl m M.g (by have:=r.nu;have:=M.l;omega) fun C2 ah=>aq C2 (k.gr ah)
inductive O5(a:Adr)(ts:List PV)(C:CH)(Q:K1):Prop
 |mk(R:Rd)(t:Nat)(o:Option Rk)(rest:List Str)(z0:ts=[.ref R.r])(z1:nj a C R t)(z2:R.ws.drop t=jj o++rest)(zw:rm o)(z3:∀C',Tk a R (t+(jj o).length) C C'->Q (pK o) C')
def Hq{r:Rk}(g:r.gd):∀{w us},r.hws=w::us->(w==("-" : Str))=false:=by
 intro w us e;rw[Bb]
 cases r with
 |num i =>
  have q:Bd i:=g;obtain⟨rfl,_⟩:=Ab e;exact fun z=>XA q (by rw[z];decide +kernel)
 |turn n=>obtain⟨rfl,_⟩:=Ab e;decide +kernel
 |ask s n =>
  obtain⟨rfl,_⟩:=Ab e
  rcases g.1 with rfl | rfl | rfl<;>decide +kernel
 |bin w x y =>
  obtain⟨rfl,_⟩:=Ab e
  rcases g.1 with rfl | rfl | rfl<;>decide +kernel
 |pick x y z=>obtain⟨rfl,_⟩:=Ab e;decide +kernel
def Df{ws:List Str}{t:Nat}{w:Str}(h:ws[t]?=some w):xF (ws.map PV.str) (some (t:Nat)) (some ((t:Nat)+1))=[.str w]:=by
 have g:t < ws.length:=(AZ.1 h).1;unfold xF;rw[HT.sIx_nat,show((t:Nat):Int)+1=((t+1:Nat):Int) from rfl,HT.sIx_nat,AB];rw[Nat.min_eq_left (by omega),Nat.min_eq_left (by omega),<- List.map_drop,show t+1 - t=1 from by omega];rw[A6 g];rw[AL g] at h;rw[An h]
 rfl
def Ml(T:Tx W a){k:Nat}:Ok W a (k+5) 65 ["self"] (O5 a):=by
 have S:=(T.F 65 rfl).s;have yX:=Vs (k:=k) T
 refine(T.F 65 rfl).ok (fun ts C R h=>?_) fun aa A ab s H E N=>⟨_,(xQ (nQ (ct2 (yd (gZ N)) Wk (vR (zJ T.pQ T.dJ (cv 0)) (bW (zJ T.pQ T.pZ (cv 0))) (bW (aQ oQ tQ (zJ T.pQ T.pZ (cv 0)) jQ))) (mQ (dN wQ))) (xQ (ZY T.pQ T.pZ (cv 0))
  (kQ (uQ eJ))) dQ)
  (kQ (uQ (o9 T.pQ (T.F 66 rfl) T.xX yX N (cv 0))))),?_⟩
 .obtain ⟨_,_,_,_,rfl,_⟩:=h;rfl
 rintro ts C Q ⟨R,t,o,rest,rfl,h,O,J,q⟩
 obtain⟨w,us,B⟩:∃w us,jj o=w::us:=by
  cases U:jj o with
  |nil=>exact absurd U (oE o)
  |cons w us=>exact⟨w,us,rfl⟩
 have Z:R.ws[t]?=some w:=tZ (by rw[O,B];rfl);refine kJ h.o rfl (kJ h.o rfl (kJ h.o rfl (cV (Eo h.w fun p1 Y=>⟨y0 1 rfl,fun p2 M=>?_⟩))));rw[Df Z] at *
 refine⟨p1,p2,w,"-",rfl,rfl,(vQ (rX M zQ)).trans zQ,zQ,?_⟩;have D:Gr C (gQ (gQ C p1 (.lst [.str w])) p2 (.lst [.str "-"])):=(Gr.new Y _).trans (Gr.new M _);generalize gQ (gQ C p1 (.lst [.str w])) p2 (.lst [.str "-"])=C1 at *
 have h1:nj a C1 R t:=(Tk.of h D).at h
 cases o with
 |none =>
  obtain⟨rfl,_⟩:=Ab B;refine tX (by decide +kernel) ⟨R.r,R.dx,_,t,rfl,h1.o,rfl,by show 3 < 1000;decide,?_⟩;exact q _ (Tk.pre h D Tk.one)
 |some r =>
  have I:r.hws++xK r.ins=w::us:=by rw[<- r.ux];exact B
  have g:∃vs,r.hws=w::vs:=by
   cases L:r.hws with
   |nil=>exfalso;have:=r.uf;rw[L] at this;cases r<;>simp[Rk.hw] at this
   |cons v vs=>rw[L] at I;exact⟨vs,by rw[(Ab I).1]⟩
  obtain⟨vs,g⟩:=g;refine cQ (Hq (J r rfl).g g) (lQ ⟨jX h1.o rfl,zj.mk R t r rest rfl h1 O (J r rfl) fun C2 k2=>q C2 (Tk.pre h D k2)⟩)
end
def Lf:PV->Prop
 |.non=>True
 |.bl _=>True
 |.int _=>True
 |.str _=>True
 |.tup _=>True
 |_=>False
def Cl(C:CH):Nat->PV->PV->Prop
 |0,v,t=>Lf v/\t=v
 |d+1,v,t=>(Lf v/\t=v)\/∃p vs ts,v=.ref p/\C p=some (.lst vs)/\t=.tup ts/\vs.length<=1000/\vs.length=ts.length/\∀(i:Nat)x y,vs[i]?=some x->ts[i]?=some y->Cl C d x y
theorem Cl.leaf{C:CH}{x:PV}(h:Lf x):∀{d:Nat},Cl C d x x
 |0=>⟨h,rfl⟩
 |_+1=>.inl ⟨h,rfl⟩
theorem Cl.mono{C C':CH}(g:Gr C C'):∀{d:Nat}{v t:PV},Cl C d v t->Cl C' d v t
 |0,_,_,h=>h
 |d+1,_,_,.inl h=>.inl h
 |d+1,_,_,.inr ⟨p,vs,ts,q,B,D,l,e,h⟩=>.inr ⟨p,vs,ts,q,g _ _ B,D,l,e,fun i x y I J=>Cl.mono g (h i x y I J)⟩
def Do{C:CH}{d:Nat}{p:Addr}{vs:List PV}{f:PV->PV}(m:C p=some (.lst vs))(l:vs.length<=1000)(h:∀x∈vs,Cl C d x (f x)):Cl C (d+1) (.ref p) (.tup (vs.map f)) :=
 .inr ⟨p,vs,_,rfl,m,rfl,l,by rw[AB],fun i x y g q=>by
  rw[Ah,g] at q;cases q
  exact h x (Ao g)⟩
theorem zR{S:CH->Prop}{C0:CH}{c:jf}{M:jx}{Q:K1}{d:Nat}(D:∀C,Gr C0 C->S C)(J:∀x t C I,Cl C0 d x t->Gr C0 C->(∀C',Gr C C'->I t C')->c (some x::M) C I):∀(xs ts B:List PV)C,Gr C0 C->B.length+xs.length<=sizeLine->xs.length=ts.length->(∀(i:Nat)x y,xs[i]?=some x->ts[i]?=some y->Cl C0 d x y)->(∀p C',C0 p=none->Gr C0 C'->C' p=some (.lst (B++ts))->Q (.ref p) C')->nY S fM c M Q xs B C
 |[],ts,B,C,g,_,e,_,q=>⟨D C g,fun p L=>q p _ (kZ g L) (g.trans (Gr.new L _)) (by
  have:ts=[]:=Be.1 e.symm
  rw[zQ,this,AH])⟩
 |x::xs,ts,B,C,g,Y,e,h,q=>by
  cases ts with
  |nil=>cases e
  |cons t ts =>
   rw[AD] at Y;refine⟨D C g,J x t C _ (h 0 x t rfl rfl) g fun C' g'=>⟨by omega,zR D J xs ts _ C' (g.trans g') (by rw[AA,Aq];omega) (Bv e) (fun i a b O U=>h (i+1) a b O U) fun p C2 h1 h2 N=>q p C2 h1 h2 ?_⟩⟩;rw[N,AG]
   rfl
section
variable {W:Wd}{a:Adr}
inductive Fy(d:Nat)(ts:List PV)(C:CH)(Q:K1):Prop
 |mk(v t:PV)(z0:ts=[v])(z1:Cl C d v t)(z3:∀C',Gr C C'->Q t C')
def VF{x:PV}(h:Lf x){C:CH}{Q:PV->CH->Prop}(q:Q (.bl false) C):WD [x,.ty "list"] C Q:=by
 cases x with
 |non=>exact iX rfl rfl q
 |bl b=>exact iX rfl rfl q
 |int i=>exact iX rfl rfl q
 |str s=>exact iX rfl rfl q
 |tup xs=>exact iX rfl rfl q
 |_=>exact h.elim
def G5(T:Tx W a):Ok W a 2 32 ["thing"] (Fy 0):=by
 have S:=(T.F 32 rfl).s;have D:Ok W a 1 32 ["thing"] (fun _ _ _=>False):=gY fun _ _ _ h=>h
 refine(T.F 32 rfl).ok (fun ts C R h=>?_) fun I A J s H E B=>⟨_,(xQ (nQ (bX (gX uX iZ rfl T.kX rfl (qQ (cv 0) (dN (aK (n:="list") rfl T.wL rfl))))) (kQ (uQ (t6 T.hZ (hW rfl (S.c (by decide +kernel)) (S.k (L:=0) rfl rfl rfl (by decide +kernel)) (cv 0) (fun _ _ _ _ _=>lZ) (fun _ _ _ _ _=>(cf (T.F 32 rfl) D B (dN (cv 0)))))))) dQ)
  (kQ (uQ (cv 0)))),?_⟩
 .obtain ⟨_,_,rfl,_⟩:=h;rfl
 rintro ts C Q ⟨v,t,rfl,⟨g,rfl⟩,q⟩;exact VF g (cQ rfl (lQ (q C Gr.refl)))
def G4(T:Tx W a){d r:Nat}(O:Ok W a r 32 ["thing"] (Fy d)):Ok W a (r+1) 32 ["thing"] (Fy (d+1)):=by
 have S:=(T.F 32 rfl).s
 refine(T.F 32 rfl).ok (fun ts C R h=>?_) fun Y A Z s H E J=>⟨_,(xQ (nQ (bX (gX uX iZ rfl T.kX rfl (qQ (cv 0) (dN (aK (n:="list") rfl T.wL rfl))))) (kQ (uQ (t6 T.hZ (hW rfl (S.c (by decide +kernel)) (S.k (L:=0) rfl rfl rfl (by decide +kernel)) (cv 0) (fun _ _ _ _ _=>lZ) (fun _ _ _ _ _=>(cf (T.F 32 rfl) O J (dN (cv 0)))))))) dQ)
  (kQ (uQ (cv 0)))),?_⟩
 .obtain ⟨_,_,rfl,_⟩:=h;rfl
 rintro ts C Q ⟨v,t,rfl,h,q⟩
 rcases h with ⟨D,rfl⟩ | ⟨p,vs,ts,rfl,m,rfl,l,e,h⟩
 .exact VF D (cQ rfl (lQ (q C Gr.refl)))
 .exact iX rfl (by show(match C p with | some (.lst _)=>some Ty.lst | some (.dK _)=>some Ty.dct | _=>none)=_;rw[m]) (tX rfl (Dn rfl m (zR (d:=d) (C0:=C) (fun C' g=>g _ _ m) (fun x t C1 U M g I=>Fy.mk x t rfl (M.mono g) I) vs ts [] C Gr.refl (by rw[A9,BZ];exact AR l (by decide)) e h fun p1 C1 h1 B N=>xU N (q C1 B))))
theorem ZF(T:Tx W a):∀d,Ok W a (d+2) 32 ["thing"] (Fy d)
 |0=>G5 T
 |d+1=>G4 T (ZF T d)
end
abbrev nM:=Addr×CO
inductive It
 |lf (x:PV)
 |sub (q:Addr) (xs:List PV) (p:Addr) (ys:List PV)
def It.root:It->PV
 |.lf x=>x
 |.sub q _ _ _=>.ref q
def It.cl:It->PV
 |.lf x=>x
 |.sub _ xs _ ys=>.tup (xs++[.tup ys])
def It.cells:It->List nM
 |.lf _=>[]
 |.sub q xs p ys=>[(q,.lst (xs++[.ref p])),(p,.lst ys)]
def It.ok:It->Prop
 |.lf x=>Lf x
 |.sub _ xs _ ys=>(∀x∈xs,Lf x)/\(∀y∈ys,Lf y)/\xs.length<=100/\ys.length<=100
inductive Fd
 |lf (x:PV)
 |ls (p:Addr) (its:List It)
def Fd.root:Fd->PV
 |.lf x=>x
 |.ls p _=>.ref p
def Fd.cl:Fd->PV
 |.lf x=>x
 |.ls _ its=>.tup (its.map It.cl)
def Fd.cells:Fd->List nM
 |.lf _=>[]
 |.ls p its=>(p,.lst (its.map It.root))::its.flatMap It.cells
def Fd.ok:Fd->Prop
 |.lf x=>Lf x
 |.ls _ its=>(∀i∈its,i.ok)/\its.length<=100
structure Fr where
 f:Addr
 fds:List Fd
def Fr.cl(T:Fr):PV:=.tup (T.fds.map Fd.cl)
def Fr.cells(T:Fr):List nM:=(T.f,.lst (T.fds.map Fd.root))::T.fds.flatMap Fd.cells
def Fr.ok(T:Fr):Prop:=(∀d∈T.fds,d.ok)/\T.fds.length<=10
structure HS where
 h:Addr
 dx:Addr
 pp:Addr
 pa:Addr
 parts:List PV
 frs:List Fr
 ahead:Str
abbrev ph(a:Adr)(dx pp pa:Addr)(s:Str):CO:=.ins a.HouseReader dx [((("parts" : Str)),.ref pp),((("around" : Str)),.ref pa),((("ahead" : Str)),.str s)]
def HS.cells(a:Adr)(S:HS):List nM:=(S.h,ph a S.dx S.pp S.pa S.ahead)::(S.pp,.lst S.parts)::(S.pa,.lst (S.frs.map fun T=>.ref T.f))::S.frs.flatMap Fr.cells
def Holds(C:CH)(cs:List nM):Prop:=∀c∈cs,C c.1=some c.2
def Dj(cs:List nM):Prop:=(cs.map (·.1)).Nodup
structure jy(a:Adr)(C:CH)(S:HS):Prop where
 ho:Holds C (S.cells a)
 nd:Dj (S.cells a)
 ok:∀T∈S.frs,T.ok
 fl:S.frs.length<=100
 pl:S.parts.length<=100
def Holds.gr{C C':CH}{cs:List nM}(h:Holds C cs)(g:Gr C C'):Holds C' cs:=fun c q=>g _ _ (h c q)
def Holds.tk{a:Adr}{R:Rd}{t:Nat}{C C':CH}{cs:List nM}(h:Holds C cs)(k:Tk a R t C C')(n:R.r∉cs.map (·.1)):Holds C' cs:=fun c g=>k _ _ ((vQ fun z=>n (AS.2 ⟨c,g,z⟩)).trans (h c g))
def Holds.fresh{C:CH}{cs:List nM}{p:Addr}(h:Holds C cs)(g:C p=none):p∉cs.map (·.1):=fun z=>by
 obtain⟨c,q,rfl⟩:=AS.1 z;rw[h c q] at g;cases g
def Holds.app{C:CH}{xs ys:List nM}:Holds C (xs++ys)↔Holds C xs/\Holds C ys :=
 ⟨fun h=>⟨fun c g=>h c (Ap _ g),fun c g=>h c (A0 _ g)⟩,fun h c g=>(AQ.1 g).elim (h.1 c) (h.2 c)⟩
theorem Holds.ne{C:CH}{cs:List nM}{p:Addr}{o:CO}(h:Holds C cs)(n:p∉cs.map (·.1)):Holds (gQ C p o) cs:=fun c g=>(vQ fun z=>n (AS.2 ⟨c,g,z⟩)).trans (h c g)
def Dj.app{xs ys:List nM}:Dj (xs++ys)↔Dj xs/\Dj ys/\∀p∈xs.map (·.1),p∉ys.map (·.1):=by
 unfold Dj;rw[AN,List.nodup_append];exact⟨fun h=>⟨h.1,h.2.1,fun p g B=>h.2.2 p g p B rfl⟩,fun h=>⟨h.1,h.2.1,fun p g q B e=>h.2.2 p g (e▸B)⟩⟩
def fO{C:CH}{A J N L:List nM}{p:Addr}{o o':CO}(h:Holds C (A++(p,o)::(J++L)))(d:Dj (A++(p,o)::(J++L)))(S:Holds C N)(O:Dj N)(M:∀q∈N.map (·.1),q∉(A++(p,o)::(J++L)).map (·.1)):Holds (gQ C p o') (A++(p,o')::(J++N++L))/\Dj (A++(p,o')::(J++N++L)):=by
 unfold Dj at *
 simp only[List.map_append,List.map_cons,List.nodup_append,List.nodup_cons,List.mem_append,List.mem_cons,List.mem_map] at *
 have I:∀c,c∈A\/c∈J\/c∈N\/c∈L->c.1≠p:=by
  rintro c g rfl
  rcases g with g | g | g | g
  .exact d.2.2 c.1 ⟨c,g,rfl⟩ c.1 (.inl rfl) rfl
  .exact d.2.1.1 (.inl ⟨c,g,rfl⟩)
  .exact M c.1 ⟨c,g,rfl⟩ (.inr (.inl rfl))
  .exact d.2.1.1 (.inr ⟨c,g,rfl⟩)
 refine⟨fun c g=>?_,d.1,⟨?_,⟨d.2.1.2.1,O,?_⟩,d.2.1.2.2.1,?_⟩,?_⟩
 .simp only[List.mem_append,List.mem_cons] at g
  rcases g with g | rfl | (g | g) | g
  .exact (vQ (I c (.inl g))).trans (h c (by simp[g]))
  .exact zQ
  .exact (vQ (I c (.inr (.inl g)))).trans (h c (by simp[g]))
  .exact (vQ (I c (.inr (.inr (.inl g))))).trans (S c g)
  .exact (vQ (I c (.inr (.inr (.inr g))))).trans (h c (by simp[g]))
 .rintro ((⟨c,g,e⟩ | ⟨c,g,e⟩) | ⟨c,g,e⟩)
  .exact I c (.inr (.inl g)) e
  .exact I c (.inr (.inr (.inl g))) e
  .exact I c (.inr (.inr (.inr g))) e
 .rintro x ⟨c,g,rfl⟩ y ⟨B,D,rfl⟩ e
  exact M B.1 ⟨B,D,rfl⟩ (.inr (.inr (.inl ⟨c,g,e⟩)))
 .rintro x (⟨c,g,rfl⟩ | ⟨c,g,rfl⟩) y ⟨B,D,rfl⟩ e
  .exact d.2.1.2.2.2 c.1 ⟨c,g,rfl⟩ B.1 ⟨B,D,rfl⟩ e
  .exact M c.1 ⟨c,g,rfl⟩ (.inr (.inr (.inr ⟨B,D,e.symm⟩)))
 .rintro x ⟨c,g,rfl⟩ y (rfl | (⟨B,D,rfl⟩ | ⟨B,D,rfl⟩) | ⟨B,D,rfl⟩) e
  .exact I c (.inl g) e
  .exact d.2.2 c.1 ⟨c,g,rfl⟩ B.1 (.inr (.inl ⟨B,D,rfl⟩)) e
  .exact M B.1 ⟨B,D,rfl⟩ (.inl ⟨c,g,e⟩)
  .exact d.2.2 c.1 ⟨c,g,rfl⟩ B.1 (.inr (.inr ⟨B,D,rfl⟩)) e
def It.clo{C:CH}{i:It}(h:Holds C i.cells)(o:i.ok):Cl C 2 i.root i.cl:=by
 cases i with
 |lf x=>exact Cl.leaf o
 |sub q xs p ys =>
  have I:C q=some (.lst (xs++[.ref p])):=h _ AI;have D:C p=some (.lst ys):=h _ (AF _ AI);refine .inr ⟨q,_,_,rfl,I,rfl,by rw[AA];have:=o.2.2.1;show _+1<=_;omega,by rw[AA,AA];rfl,fun i x y g B=>?_⟩
  by_cases hi:i < xs.length
  .rw [Bw hi] at g B
   rw[g] at B;cases B;exact Cl.leaf (o.1 x (Ao g))
  .rw [A8 (by omega)] at g B
   have e:i - xs.length=0:=by
    have:=(AZ.1 g).1;rw[Aq] at this;omega
   rw[e] at g B;cases g;cases B;have:=Do (d:=0) (f:=id) D (by have:=o.2.2.2;omega) (fun x g=>Cl.leaf (o.2.1 x g))
   rwa [List.map_id] at this
def Fd.clo{C:CH}{i:Fd}(h:Holds C i.cells)(o:i.ok):Cl C 3 i.root i.cl:=by
 cases i with
 |lf x=>exact Cl.leaf o
 |ls p its =>
  have I:C p=some (.lst (its.map It.root)):=h _ AI;refine .inr ⟨p,_,_,rfl,I,rfl,by rw[AB];have:=o.2;omega,by rw[AB,AB],fun i x y g q=>?_⟩;rw[Ah] at g q
  cases e:its[i]? with
  |none=>rw[e] at g;cases g
  |some u =>
   rw[e] at g q;cases g;cases q;have B:=Ao e;exact It.clo (fun c D=>h c (AF _ (Bc.2 ⟨u,B,D⟩))) (o.1 u B)
def Fr.clo{C:CH}{T:Fr}(h:Holds C T.cells)(o:T.ok):Cl C 4 (.ref T.f) T.cl:=by
 have I:C T.f=some (.lst (T.fds.map Fd.root)):=h _ AI;refine .inr ⟨T.f,_,_,rfl,I,rfl,by rw[AB];have:=o.2;omega,by rw[AB,AB],fun i x y g q=>?_⟩;rw[Ah] at g q
 cases e:T.fds[i]? with
 |none=>rw[e] at g;cases g
 |some u =>
  rw[e] at g q;cases g;cases q;have B:=Ao e;exact Fd.clo (fun c D=>h c (AF _ (Bc.2 ⟨u,B,D⟩))) (o.1 u B)
section
variable {a:Adr}
def Ext(a:Adr)(C:CH)(S:HS)(C':CH)(g:HS):Prop:=∀b o,C b=some o->b∉(S.cells a).map (·.1)->C' b=some o/\b∉(g.cells a).map (·.1)
theorem Ext.trans{C C1 C2:CH}{S g q:HS}(h:Ext a C S C1 g)(h':Ext a C1 g C2 q):Ext a C S C2 q:=fun b o e n=>by
 obtain⟨B,D⟩:=h b o e n;exact h' b o B D
def jy.gr{C C':CH}{S:HS}(h:jy a C S)(g:Gr C C'):jy a C' S:=⟨h.ho.gr g,h.nd,h.ok,h.fl,h.pl⟩
def jy.tk{C C':CH}{S:HS}{R:Rd}{t:Nat}(h:jy a C S)(k:Tk a R t C C')(n:R.r∉(S.cells a).map (·.1)):jy a C' S:=⟨h.ho.tk k n,h.nd,h.ok,h.fl,h.pl⟩
def jy.hr{C:CH}{S:HS}(h:jy a C S):C S.h=some (ph a S.dx S.pp S.pa S.ahead):=h.ho _ AI
def jy.pp{C:CH}{S:HS}(h:jy a C S):C S.pp=some (.lst S.parts):=h.ho _ (AF _ AI)
def jy.pa{C:CH}{S:HS}(h:jy a C S):C S.pa=some (.lst (S.frs.map fun T=>.ref T.f)):=h.ho _ (AF _ (AF _ AI))
theorem jy.fr{C:CH}{S:HS}(h:jy a C S){T:Fr}(g:T∈S.frs):Holds C T.cells:=fun c q=>h.ho c (AF _ (AF _ (AF _ (Bc.2 ⟨T,g,q⟩))))
def jy.tf{C:CH}{S:HS}(h:jy a C S){T:Fr}(g:T∈S.frs):C T.f=some (.lst (T.fds.map Fd.root)):=h.fr g _ AI
def jy.fd{C:CH}{S:HS}(h:jy a C S){T:Fr}(g:T∈S.frs){p:Addr}{its:List It}(q:Fd.ls p its∈T.fds):C p=some (.lst (its.map It.root)):=h.fr g _ (AF _ (Bc.2 ⟨_,q,AI⟩))
theorem jy.it{C:CH}{S:HS}(h:jy a C S){T:Fr}(g:T∈S.frs){p:Addr}{its:List It}(B:Fd.ls p its∈T.fds){i:It}(hi:i∈its):Holds C i.cells:=fun c q=>h.fr g _ (AF _ (Bc.2 ⟨_,B,AF _ (Bc.2 ⟨i,hi,q⟩)⟩))
def bN{C:CH}{S g:HS}{A B N D:List nM}{p:Addr}{o o':CO}(h:jy a C S)(e:S.cells a=A++(p,o)::(B++D))(I:g.cells a=A++(p,o')::(B++N++D))(Y:Holds C N)(L:Dj N)(J:∀q∈N.map (·.1),q∉(S.cells a).map (·.1))(Z:∀T∈g.frs,T.ok)(M:g.frs.length<=100)(pl:g.parts.length<=100):jy a (gQ C p o') g:=by
 have h1:=h.ho;have h2:=h.nd;rw[e] at h1 h2 J;obtain⟨O,U⟩:=fO (o':=o') h1 h2 Y L J;exact⟨by rw[I];exact O,by rw[I];exact U,Z,M,pl⟩
theorem tD{C0 C:CH}{S L:HS}{A I N J:List nM}{p:Addr}{o o':CO}(g:Gr C0 C)(e:S.cells a=A++(p,o)::(I++J))(M:L.cells a=A++(p,o')::(I++N++J))(O:∀q∈N.map (·.1),C0 q=none):Ext a C0 S (gQ C p o') L:=fun b u D B=>by
 rw[e] at B;have Y:b≠p:=fun z=>B (by rw[z];simp);refine⟨(vQ Y).trans (g _ _ D),?_⟩;rw[M]
 simp only[List.map_append,List.map_cons,List.mem_append,List.mem_cons,not_or] at B ⊢
 refine⟨B.1,B.2.1,⟨B.2.2.1,fun U=>?_⟩,B.2.2.2⟩;rw[O b U] at D;cases D
def gH{C0 C:CH}{S:HS}{fs:List Fr}{f p:Addr}{d1 d2:List Fd}{its:List It}{x:It}(g:Gr C0 C)(h:jy a C S)(D:S.frs=fs++[⟨f,d1++.ls p its::d2⟩])(U:Holds C x.cells)(dx:Dj x.cells)(L:∀q∈x.cells.map (·.1),C0 q=none)(M:Holds C0 (S.cells a))(Z:x.ok)(l:its.length < 100):
  jy a (gQ C p (.lst (its.map It.root++[x.root]))) { S with frs:=fs++[⟨f,d1++.ls p (its++[x])::d2⟩] }/\Ext a C0 S (gQ C p (.lst (its.map It.root++[x.root]))) { S with frs:=fs++[⟨f,d1++.ls p (its++[x])::d2⟩] }:=by
 have e:S.cells a=((S.h,ph a S.dx S.pp S.pa S.ahead)::(S.pp,.lst S.parts)::(S.pa,.lst (S.frs.map fun T=>.ref T.f))::(fs.flatMap Fr.cells++((f,.lst ((d1++.ls p its::d2).map Fd.root))::d1.flatMap Fd.cells)))++(p,.lst (its.map It.root))::(its.flatMap It.cells++d2.flatMap Fd.cells):=by
  unfold HS.cells;rw[D]
  simp[Fr.cells,Fd.cells]
 have J:({ S with frs:=fs++[⟨f,d1++.ls p (its++[x])::d2⟩] }:HS).cells a=((S.h,ph a S.dx S.pp S.pa S.ahead)::(S.pp,.lst S.parts)::(S.pa,.lst (S.frs.map fun T=>.ref T.f))::(fs.flatMap Fr.cells++((f,.lst ((d1++.ls p its::d2).map Fd.root))::d1.flatMap Fd.cells)))++(p,.lst (its.map It.root++[x.root]))::(its.flatMap It.cells++x.cells++d2.flatMap Fd.cells):=by
  unfold HS.cells;rw[D]
  simp[Fr.cells,Fd.cells,Fd.root]
 have N:∀q∈x.cells.map (·.1),q∉(S.cells a).map (·.1):=fun q O=>M.fresh (L q O);refine⟨(bN h e J U dx N ?_ (by have:=h.fl;rw[D] at this;simpa using this) h.pl),tD g e J L⟩;intro T I
 rcases AQ.1 I with I | I
 .exact h.ok T (by rw[D];exact Ap _ I)
 .rw [AJ.1 I]
  have o:=h.ok ⟨f,d1++.ls p its::d2⟩ (by rw[D];simp);refine⟨fun d B=>?_,by have:=o.2;simpa using this⟩
  rcases AQ.1 B with B | B
  .exact o.1 d (Ap _ B)
  .rcases AX.1 B with rfl | B
   .have Y:=o.1 (.ls p its) (by simp)
    refine⟨fun i hi=>?_,by rw[AA];show _+1<=_;omega⟩
    rcases AQ.1 hi with hi | hi
    .exact Y.1 i hi
    .rw [AJ.1 hi];exact Z
   .exact o.1 d (by simp[B])
def Zj{C0 C:CH}{S:HS}{fs:List Fr}{f pl q p:Addr}{d1 d2:List Fd}{its:List It}{xs ys:List PV}{y:PV}(g:Gr C0 C)(h:jy a C S)(D:S.frs=fs++[⟨f,d1++Fd.ls pl (its++[It.sub q xs p ys])::d2⟩])(U:Lf y)(l:ys.length < 100):
  jy a (gQ C p (.lst (ys++[y]))) { S with frs:=fs++[⟨f,d1++Fd.ls pl (its++[It.sub q xs p (ys++[y])])::d2⟩] }/\Ext a C0 S (gQ C p (.lst (ys++[y]))) { S with frs:=fs++[⟨f,d1++Fd.ls pl (its++[It.sub q xs p (ys++[y])])::d2⟩] }:=by
 have e:S.cells a=((S.h,ph a S.dx S.pp S.pa S.ahead)::(S.pp,.lst S.parts)::(S.pa,.lst (S.frs.map fun T=>.ref T.f))::(fs.flatMap Fr.cells++((f,.lst ((d1++Fd.ls pl (its++[It.sub q xs p ys])::d2).map Fd.root))::(d1.flatMap Fd.cells++((pl,.lst ((its++[It.sub q xs p ys]).map It.root))::(its.flatMap It.cells++[(q,.lst (xs++[.ref p]))]))))))++(p,.lst ys)::([]++d2.flatMap Fd.cells):=by
  unfold HS.cells;rw[D]
  simp[Fr.cells,Fd.cells,It.cells]
 have N:({ S with frs:=fs++[⟨f,d1++Fd.ls pl (its++[It.sub q xs p (ys++[y])])::d2⟩] }:HS).cells a=((S.h,ph a S.dx S.pp S.pa S.ahead)::(S.pp,.lst S.parts)::(S.pa,.lst (S.frs.map fun T=>.ref T.f))::(fs.flatMap Fr.cells++((f,.lst ((d1++Fd.ls pl (its++[It.sub q xs p ys])::d2).map Fd.root))::(d1.flatMap Fd.cells++((pl,.lst ((its++[It.sub q xs p ys]).map It.root))::(its.flatMap It.cells++[(q,.lst (xs++[.ref p]))]))))))++(p,.lst (ys++[y]))::([]++[]++d2.flatMap Fd.cells):=by
  unfold HS.cells;rw[D]
  simp[Fr.cells,Fd.cells,Fd.root,It.cells,It.root]
 refine⟨(bN h e N (fun c O=>by cases O) Bt (fun q J=>by cases J) ?_ (by have:=h.fl;rw[D] at this;simpa using this) h.pl),tD g e N (fun q J=>by cases J)⟩;intro T I
 rcases AQ.1 I with I | I
 .exact h.ok T (by rw[D];exact Ap _ I)
 .rw [AJ.1 I]
  have o:=h.ok ⟨f,d1++Fd.ls pl (its++[It.sub q xs p ys])::d2⟩ (by rw[D];simp);refine⟨fun d B=>?_,by have:=o.2;simpa using this⟩
  rcases AQ.1 B with B | B
  .exact o.1 d (Ap _ B)
  .rcases AX.1 B with rfl | B
   .have L:=o.1 (Fd.ls pl (its++[It.sub q xs p ys])) (by simp)
    refine⟨fun i hi=>?_,by have:=L.2;simpa using this⟩
    rcases AQ.1 hi with hi | hi
    .exact L.1 i (Ap _ hi)
    .rw [AJ.1 hi]
     have M:=L.1 (.sub q xs p ys) (by simp);refine⟨M.1,fun z hz=>?_,M.2.2.1,by rw[AA];show _+1<=_;omega⟩
     rcases AQ.1 hz with hz | hz
     .exact M.2.1 z hz
     .rw [AJ.1 hz];exact U
   .exact o.1 d (by simp[B])
def w6{C0 C:CH}{S:HS}{T:Fr}(g:Gr C0 C)(h:jy a C S)(M:Holds C T.cells)(J:Dj T.cells)(I:∀q∈T.cells.map (·.1),C0 q=none)(L:Holds C0 (S.cells a))(O:T.ok)(l:S.frs.length < 100):
  jy a (gQ C S.pa (.lst ((S.frs.map fun T=>PV.ref T.f)++[.ref T.f]))) { S with frs:=S.frs++[T] }/\Ext a C0 S (gQ C S.pa (.lst ((S.frs.map fun T=>PV.ref T.f)++[.ref T.f]))) { S with frs:=S.frs++[T] }:=by
 have e:S.cells a=[(S.h,ph a S.dx S.pp S.pa S.ahead),(S.pp,.lst S.parts)]++(S.pa,.lst (S.frs.map fun T=>.ref T.f))::(S.frs.flatMap Fr.cells++[]):=by
  unfold HS.cells
  simp
 have D:({ S with frs:=S.frs++[T] }:HS).cells a=[(S.h,ph a S.dx S.pp S.pa S.ahead),(S.pp,.lst S.parts)]++(S.pa,.lst ((S.frs.map fun T=>.ref T.f)++[.ref T.f]))::(S.frs.flatMap Fr.cells++T.cells++[]):=by
  unfold HS.cells
  simp
 refine⟨(bN h e D M J (fun q N=>L.fresh (I q N)) ?_ (by show(S.frs++[T]).length<=_;rw[AA];show _+1<=_;omega) h.pl),tD g e D I⟩;intro U B
 rcases AQ.1 B with B | B
 .exact h.ok U B
 .rw [AJ.1 B];exact O
def xg{C0 C:CH}{S:HS}{fs:List Fr}{f p:Addr}{ds:List Fd}(g:Gr C0 C)(h:jy a C S)(B:S.frs=fs++[⟨f,ds⟩])(Y:C p=some (.lst []))(O:C0 p=none)(N:Holds C0 (S.cells a))(l:ds.length < 10):
  jy a (gQ C f (.lst (ds.map Fd.root++[.ref p]))) { S with frs:=fs++[⟨f,ds++[.ls p []]⟩] }/\Ext a C0 S (gQ C f (.lst (ds.map Fd.root++[.ref p]))) { S with frs:=fs++[⟨f,ds++[.ls p []]⟩] }:=by
 have e:S.cells a=((S.h,ph a S.dx S.pp S.pa S.ahead)::(S.pp,.lst S.parts)::(S.pa,.lst (S.frs.map fun T=>.ref T.f))::fs.flatMap Fr.cells)++(f,.lst (ds.map Fd.root))::(ds.flatMap Fd.cells++[]):=by
  unfold HS.cells;rw[B]
  simp[Fr.cells]
 have L:({ S with frs:=fs++[⟨f,ds++[.ls p []]⟩] }:HS).cells a=((S.h,ph a S.dx S.pp S.pa S.ahead)::(S.pp,.lst S.parts)::(S.pa,.lst (S.frs.map fun T=>.ref T.f))::fs.flatMap Fr.cells)++(f,.lst (ds.map Fd.root++[.ref p]))::(ds.flatMap Fd.cells++[(p,.lst [])]++[]):=by
  unfold HS.cells;rw[B]
  simp[Fr.cells,Fd.cells,Fd.root]
 have M:∀q∈[((p,CO.lst []):nM)].map (·.1),C0 q=none:=fun q J=>by
  rw[AJ.1 J];exact O
 refine⟨bN h e L (fun c U=>by rw[AJ.1 U];exact Y) (by unfold Dj;simp) (fun q J=>N.fresh (M q J)) ?_ (by have:=h.fl;rw[B] at this;simpa using this) h.pl,tD g e L M⟩;intro T D
 rcases AQ.1 D with D | D
 .exact h.ok T (by rw[B];exact Ap _ D)
 .rw [AJ.1 D]
  have o:=h.ok ⟨f,ds⟩ (by rw[B];simp);refine⟨fun d I=>?_,by rw[AA];show _+1<=_;omega⟩
  rcases AQ.1 I with I | I
  .exact o.1 d I
  .rw [AJ.1 I]
   exact⟨fun i hi=>(by cases hi),AM _⟩
def Gn{C0 C:CH}{S:HS}(g:Gr C0 C)(h:jy a C S)(w:Str):jy a (gQ C S.h (ph a S.dx S.pp S.pa w)) { S with ahead:=w }/\Ext a C0 S (gQ C S.h (ph a S.dx S.pp S.pa w)) { S with ahead:=w }:=by
 have e:S.cells a=[]++(S.h,ph a S.dx S.pp S.pa S.ahead)::([]++((S.pp,.lst S.parts)::(S.pa,.lst (S.frs.map fun T=>.ref T.f))::S.frs.flatMap Fr.cells)):=rfl;have D:({ S with ahead:=w }:HS).cells a=[]++(S.h,ph a S.dx S.pp S.pa w)::([]++[]++((S.pp,.lst S.parts)::(S.pa,.lst (S.frs.map fun T=>.ref T.f))::S.frs.flatMap Fr.cells)):=rfl;exact⟨bN h e D (fun c I=>by cases I) Bt (fun q B=>by cases B) h.ok h.fl h.pl,tD g e D (fun q B=>by cases B)⟩
def Gw{C0 C:CH}{S:HS}{fs:List Fr}{T:Fr}(g:Gr C0 C)(h:jy a C S)(D:S.frs=fs++[T]):jy a (gQ C S.pa (.lst (fs.map fun T=>.ref T.f))) { S with frs:=fs }/\Ext a C0 S (gQ C S.pa (.lst (fs.map fun T=>.ref T.f))) { S with frs:=fs }/\Holds (gQ C S.pa (.lst (fs.map fun T=>.ref T.f))) T.cells:=by
 have e:S.cells a=[(S.h,ph a S.dx S.pp S.pa S.ahead),(S.pp,.lst S.parts)]++(S.pa,.lst (S.frs.map fun T=>.ref T.f))::(fs.flatMap Fr.cells++T.cells):=by
  unfold HS.cells;rw[D]
  simp
 have B:({ S with frs:=fs }:HS).cells a=[(S.h,ph a S.dx S.pp S.pa S.ahead),(S.pp,.lst S.parts)]++(S.pa,.lst (fs.map fun T=>.ref T.f))::fs.flatMap Fr.cells:=by
  unfold HS.cells
  simp
 have h1:=h.ho;have h2:=h.nd;rw[e] at h1 h2;obtain⟨I,J⟩:=fO (o':=.lst (fs.map fun T=>.ref T.f)) h1 h2 (N:=[]) (fun c hc=>by cases hc) Bt (fun ae hq=>by cases hq);rw[AH,<- BC,<- AG] at I J;obtain⟨O,Y⟩:=Holds.app.1 I;obtain⟨L,ab,dd⟩:=Dj.app.1 J;refine⟨⟨by rw[B];exact O,by rw[B];exact L,fun U Z=>h.ok U (by rw[D];exact Ap _ Z),by have:=h.fl;rw[D,AA] at this;show fs.length<=_;omega,h.pl⟩,fun b u M q=>?_,Y⟩
 rw[e] at q;have aa:b≠S.pa:=fun z=>q (by rw[z];simp);refine⟨(vQ aa).trans (g _ _ M),?_⟩;rw[B]
 simp only[List.map_append,List.map_cons,List.mem_append,List.mem_cons,not_or] at q ⊢
 exact⟨q.1,q.2.1,q.2.2.1⟩
end
theorem Tk.none{a:Adr}{R:Rd}{t:Nat}{C C1:CH}(k:Tk a R t C C1){q:Addr}(h:C1 q=none):C q=none:=by
 cases e:C q with
 |none=>rfl
 |some o =>
  exfalso
  by_cases g:q=R.r
  .rw [g] at h
   have:=k _ _ zQ;rw[this] at h;cases h
  .have:=k _ _ ((vQ g).trans e)
   rw[this] at h;cases h
inductive ul:Str->List Str->List PV->Nat->Prop
 |when (r:Rk) (hg:Rg r):ul "when" r.ie [.str "when",r.pv] 1
 |each (n:Str) (r:Rk) (hn:zZ n=true) (hg:Rg r):ul "each" (n::r.ie) [.str "each",.str n,r.pv] 1
 |give (n:Str) (r:Rk) (k:Option Rk) (hn:zZ n=true) (hg:Rg r) (hk:rm k):ul "give" (n::(r.ie++jj k)) [.str "give",pK k,.str n,r.pv] 1
 |draw (n:Str) (k:Option Rk) (hn:zZ n=true) (hk:rm k):ul "draw" (n::jj k) [.str "part",pK k,.str n] 1
 |plain (n:Str) (k:Option Rk) (hn:zZ n=true) (hk:rm k):ul "plain" (n::jj k) [.str "plain",pK k,.str n] 3
def cW{ws us:List Str}{t:Nat}(h:ws.drop t=us)(g:t<=ws.length):t+us.length=ws.length:=by
 rw[<- h,CY];omega
section
variable {W:Wd}{a:Adr}
inductive PJ(a:Adr)(ts:List PV)(C:CH)(Q:K1):Prop
 |mk(R:Rd)(t:Nat)(w:Str)(us:List Str)(xs:List PV)(m:Nat)(z0:ts=[.str w,.ref R.r])(z1:nj a C R t)(z2:R.ws.drop t=us)(z2':t<=R.ws.length)(zb:ul w us xs m)(z3:∀f ps C',ps.length=m->(f::ps).Nodup->(∀q∈f::ps,C q=none)->Tk a R R.ws.length C C'->C' f=some (.lst (xs++ps.map PV.ref))->(∀p∈ps,C' p=some (.lst []))->Q (.ref f) C')
def Zy{R:Rd}{t:Nat}{C C1:CH}{xs:List PV}{Q:K1}(k:Tk a R t C C1)(I:t=R.ws.length)(l:xs.length<=10)(q:∀f ps C',ps.length=1->(f::ps).Nodup->(∀q∈f::ps,C q=none)->Tk a R R.ws.length C C'->C' f=some (.lst (xs++ps.map PV.ref))->(∀p∈ps,C' p=some (.lst []))->Q (.ref f) C')(p1:Addr)(h1:C1 p1=none)(f:Addr)(g:gQ C1 p1 (.lst []) f=none):Q (.ref f) (gQ (gQ C1 p1 (.lst [])) f (.lst (xs++[.ref p1]))):=by
 have B:f≠p1:=fun z=>by rw[z,zQ] at g;cases g
 have J:C1 f=none:=by rwa [vQ B] at g
 refine q f [p1] _ rfl (by simp[B]) (fun q D=>?_) (I▸k.gr ((Gr.new h1 _).trans (Gr.new g _))) zQ (fun p L=>?_)
 .simp only[List.mem_cons,List.not_mem_nil,or_false] at D
  rcases D with rfl | rfl
  .exact k.none J
  .exact k.none h1
 .rw [AJ.1 L]
  exact(vQ B.symm).trans zQ
def MJ(T:Tx W a){k:Nat}:Ok W a (k+6) 31 ["word","row"] (PJ a):=by
 have S:=(T.F 31 rfl).s;have yX:=(Vs (k:=k+1) T);have qJ:=ZC (k:=k+3) T;have tW:=Ml (k:=k) T
 refine(T.F 31 rfl).ok (fun ts C R h=>?_) fun ay A az s H E M=>⟨_,(xQ (nQ (ct2 fX qX (cv 0) wQ) (kQ (uQ (mQ (qQ wQ (qQ (o9 T.pQ (T.F 66 rfl) T.xX yX M (cv 1)) (dN (mQ aX))))))) dQ)
  (xQ (jb 2 S.nd (o9 T.pQ (T.F 63 rfl) T.xX qJ M (cv 1)))
  (xQ (nQ (ct2 fX qX (cv 0) wQ) (kQ (uQ (mQ (qQ wQ (qQ (cv 2) (qQ (o9 T.pQ (T.F 66 rfl) T.xX yX M (cv 1)) (dN (mQ aX)))))))) dQ)
  (xQ (nQ (ct2 fX qX (cv 0) wQ) (xQ (jb 3 S.nd (o9 T.pQ (T.F 66 rfl) T.xX yX M (cv 1)))
  (kQ (uQ (mQ (qQ wQ (qQ (o9 T.pQ (T.F 65 rfl) T.xX tW M (cv 1)) (qQ (cv 2) (qQ (cv 3) (dN (mQ aX)))))))))) dQ)
  (xQ (nQ (ct2 fX qX (cv 0) wQ) (kQ (uQ (mQ (qQ wQ (qQ (o9 T.pQ (T.F 65 rfl) T.xX tW M (cv 1)) (qQ (cv 2) (dN (mQ aX)))))))) dQ)
  (kQ (uQ (mQ (qQ wQ (qQ (o9 T.pQ (T.F 65 rfl) T.xX tW M (cv 1)) (qQ (cv 2) (qQ (mQ aX) (qQ (mQ aX) (dN (mQ aX))))))))))))))),?_⟩
 .obtain ⟨_,_,_,_,_,_,rfl,_⟩:=h;rfl
 rintro ts C Q ⟨R,t,w,us,xs,m,rfl,h,I,aw,hb,q⟩;have U:=cW I aw
 cases hb with
 |when r Y =>
  refine fQ (yQ _ _) (tX (by decide +kernel) ⟨jX h.o rfl,zj.mk R t r [] rfl h (by rw[I,AH]) Y fun C1 g=>⟨AM _,fun p1 h1=>⟨y0 3 rfl,fun f B=>?_⟩⟩⟩);exact Zy g U (by show 2<=10;decide) q p1 h1 f B
 |each n r L Y =>
  refine fQ (yQ _ _) (cQ (by decide +kernel) (lQ ⟨jX h.o rfl,ug.mk R t n rfl h (tZ I) L fun C1 g=>?_⟩));refine fQ (yQ _ _) (tX (by decide +kernel) ⟨jX (g.at h).o rfl,zj.mk R (t+1) r [] rfl (g.at h) (by rw[AH];exact eZ (us:=[n]) I) Y fun C2 k2=>⟨AM _,fun p1 h1=>⟨y0 4 rfl,fun f B=>?_⟩⟩⟩);exact Zy (g.trans k2) (by rw[<- U,AD];omega) (by show 3<=10;decide) q p1 h1 f B
 |give n r D L Y Z =>
  refine fQ (yQ _ _) (cQ (by decide +kernel) (lQ ⟨jX h.o rfl,ug.mk R t n rfl h (tZ I) L fun C1 g=>?_⟩));have O:R.ws.drop (t+1)=r.ie++jj D:=eZ (us:=[n]) I;have ax:R.ws.drop (t+1+r.ie.length)=jj D++[]:=by rw[AH];exact eZ O
  refine fQ (yQ _ _) (cQ (by decide +kernel) (lQ (fQ (yQ _ _) (tX (by decide +kernel) ⟨jX (g.at h).o rfl,zj.mk R (t+1) r (jj D) rfl (g.at h) O Y fun C2 k2=>?_⟩))));have ag:=g.trans k2;refine⟨jX (ag.at h).o rfl,O5.mk R _ D [] rfl (ag.at h) ax Z fun J k3=>⟨AM _,fun p1 h1=>⟨y0 5 rfl,fun f B=>?_⟩⟩⟩;exact Zy (ag.trans k3) (by rw[<- U,AD,AA];omega) (by show 4<=10;decide) q p1 h1 f B
 |draw n D L Z =>
  refine fQ (yQ _ _) (cQ (by decide +kernel) (lQ ⟨jX h.o rfl,ug.mk R t n rfl h (tZ I) L fun C1 g=>?_⟩));have O:R.ws.drop (t+1)=jj D++[]:=by rw[AH];exact eZ (us:=[n]) I
  refine fQ (yQ _ _) (cQ (by decide +kernel) (lQ (fQ (yQ _ _) (cQ (by decide +kernel) (lQ (fQ (yQ _ _) (tX (by decide +kernel) ?_)))))));refine⟨jX (g.at h).o rfl,O5.mk R _ D [] rfl (g.at h) O Z fun J k3=>⟨AM _,fun p1 h1=>⟨y0 4 rfl,fun f B=>?_⟩⟩⟩;exact Zy (g.trans k3) (by rw[<- U,AD];omega) (by show 3<=10;decide) q p1 h1 f B
 |plain n D L Z =>
  refine fQ (yQ _ _) (cQ (by decide +kernel) (lQ ⟨jX h.o rfl,ug.mk R t n rfl h (tZ I) L fun C1 g=>?_⟩));have O:R.ws.drop (t+1)=jj D++[]:=by rw[AH];exact eZ (us:=[n]) I
  refine fQ (yQ _ _) (cQ (by decide +kernel) (lQ (fQ (yQ _ _) (cQ (by decide +kernel) (lQ (fQ (yQ _ _) (cQ (by decide +kernel) (lQ ?_))))))));refine⟨jX (g.at h).o rfl,O5.mk R _ D [] rfl (g.at h) O Z fun J k3=>⟨AM _,fun p1 h1=>⟨AM _,fun p2 h2=>⟨AM _,fun N h3=>⟨y0 6 rfl,fun f B=>?_⟩⟩⟩⟩⟩;have aa:=g.trans k3;have ah:p2≠p1:=fun z=>by rw[z,zQ] at h2;cases h2
  have ar:J p2=none:=by rwa [vQ ah] at h2
  have aj:N≠p2:=fun z=>by rw[z,zQ] at h3;cases h3
  have ab:gQ J p1 (.lst []) N=none:=by rwa [vQ aj] at h3
  have ai:N≠p1:=fun z=>by rw[z,zQ] at ab;cases ab
  have au:J N=none:=by rwa [vQ ai] at ab
  have aq:f≠N:=fun z=>by rw[z,zQ] at B;cases B
  have ae:gQ (gQ J p1 (.lst [])) p2 (.lst []) f=none:=by rwa [vQ aq] at B
  have ao:f≠p2:=fun z=>by rw[z,zQ] at ae;cases ae
  have af:gQ J p1 (.lst []) f=none:=by rwa [vQ ao] at ae
  have ak:f≠p1:=fun z=>by rw[z,zQ] at af;cases af
  have av:J f=none:=by rwa [vQ ak] at af
  refine q f [p1,p2,N] _ rfl ?_ (fun q hq=>?_) ?_ zQ (fun p hp=>?_)
  .simp [ak,ao,aq,ah.symm,ai.symm,aj.symm]
  .simp only[List.mem_cons,List.not_mem_nil,or_false] at hq
   rcases hq with rfl | rfl | rfl | rfl
   .exact aa.none av
   .exact aa.none h1
   .exact aa.none ar
   .exact aa.none au
  .have:=aa.gr (((Gr.new h1 (.lst [])).trans (Gr.new h2 (.lst []))).trans ((Gr.new h3 (.lst [])).trans (Gr.new B (.lst [.str "plain",pK D,.str n,.ref p1,.ref p2,.ref N]))))
   rw[show t+1+(jj D).length=R.ws.length from by rw[<- U,AD];omega] at this;exact this
  .simp only[List.mem_cons,List.not_mem_nil,or_false] at hp
   rcases hp with rfl | rfl | rfl
   .exact (vQ ak.symm).trans ((vQ ai.symm).trans ((vQ ah.symm).trans zQ))
   .exact (vQ ao.symm).trans ((vQ aj.symm).trans zQ)
   .exact (vQ aq.symm).trans zQ
end
def gK{xs:List PV}{x:PV}:atI (xs++[x]) (-1)=some x:=by
 have:ixN (xs++[x]).length (-1)=some xs.length:=by
  unfold ixN;rw[Am (by decide),Al (by rw[AA];show -((xs.length+1:Nat):Int)<=_;omega),AA];show some ((-1+((xs.length+1:Nat):Int)).toNat)=_
  congr 1
  omega
 unfold atI;rw[this];show(xs++[x])[xs.length]?=some x;rw[A8 (AO _),Nat.sub_self]
 rfl
theorem Zn:∀r:Rk,Lf r.pv
 |.num _=>trivial
 |.turn _=>trivial
 |.ask _ _=>trivial
 |.bin _ _ _=>trivial
 |.pick _ _ _=>trivial
theorem VH:∀k:Option Rk,Lf (pK k)
 |none=>trivial
 |some r=>Zn r
def ul.lf{w:Str}{us:List Str}{xs:List PV}{m:Nat}(h:ul w us xs m):(∀x∈xs,Lf x)/\xs.length<=4/\m<=3:=by
 cases h with
 |when r B=>exact⟨fun x g=>by simp only[List.mem_cons,List.not_mem_nil,or_false] at g;rcases g with rfl | rfl;trivial;exact Zn r,by show 2<=4;decide,by decide⟩
 |each n r q B=>exact⟨fun x g=>by simp only[List.mem_cons,List.not_mem_nil,or_false] at g;rcases g with rfl | rfl | rfl;trivial;trivial;exact Zn r,by show 3<=4;decide,by decide⟩
 |give n r k q B D=>exact⟨fun x g=>by simp only[List.mem_cons,List.not_mem_nil,or_false] at g;rcases g with rfl | rfl | rfl | rfl;trivial;exact VH k;trivial;exact Zn r,by show 4<=4;decide,by decide⟩
 |draw n k q D=>exact⟨fun x g=>by simp only[List.mem_cons,List.not_mem_nil,or_false] at g;rcases g with rfl | rfl | rfl;trivial;exact VH k;trivial,by show 3<=4;decide,by decide⟩
 |plain n k q D=>exact⟨fun x g=>by simp only[List.mem_cons,List.not_mem_nil,or_false] at g;rcases g with rfl | rfl | rfl;trivial;exact VH k;trivial,by show 3<=4;decide,by decide⟩
section
variable {W:Wd}{a:Adr}
structure RO(a:Adr)(C:CH)(S:HS)(R:Rd)(t:Nat):Prop where
 rr:nj a C R t
 nr:R.r∉(S.cells a).map (·.1)
 nw:R.wl∉(S.cells a).map (·.1)
structure n8(a:Adr)(R:Rd)(t:Nat)(C:CH)(S:HS)(C':CH)(S':HS):Prop where
 st:jy a C' S'
 ro:RO a C' S' R t
 ex:∀b o,C b=some o->b∉(S.cells a).map (·.1)->b≠R.r->C' b=some o/\b∉(S'.cells a).map (·.1)
def n8.tk{C C':CH}{S:HS}{R:Rd}{t t':Nat}(h:jy a C S)(r:RO a C S R t)(k:Tk a R t' C C'):n8 a R t' C S C' S :=
 ⟨h.tk k r.nr,⟨k.at r.rr,r.nr,r.nw⟩,fun b o e n g=>⟨k _ _ ((vQ g).trans e),n⟩⟩
def n8.ext{C C1 C2:CH}{S q g:HS}{R:Rd}{t:Nat}(e:n8 a R t C S C1 q)(h2:jy a C2 g)(x:Ext a C1 q C2 g):n8 a R t C S C2 g:=by
 obtain⟨O,I⟩:=x _ _ e.ro.rr.o e.ro.nr;obtain⟨U,L⟩:=x _ _ e.ro.rr.w e.ro.nw;refine⟨h2,⟨⟨O,U,e.ro.rr.n⟩,I,L⟩,fun b o D M N=>?_⟩;obtain⟨B,J⟩:=e.ex b o D M N;exact x _ _ B J
theorem n8.trans{C C1 C2:CH}{S q B:HS}{R:Rd}{t t':Nat}(e:n8 a R t C S C1 q)(g:n8 a R t' C1 q C2 B):n8 a R t' C S C2 B:=by
 refine⟨g.st,g.ro,fun b o J M D=>?_⟩;obtain⟨I,L⟩:=e.ex b o J M D;exact g.ex b o I L D
def n8.of{C C2:CH}{S g:HS}{R:Rd}{t t':Nat}(r:RO a C S R t)(x:Ext a (gQ C R.r (ur a R.dx R.wl R.l t')) S C2 g)(h2:jy a C2 g):n8 a R t' C S C2 g:=by
 obtain⟨L,B⟩:=x _ _ zQ r.nr;obtain⟨M,D⟩:=x _ _ ((vQ r.rr.ne).trans r.rr.w) r.nw;exact⟨h2,⟨⟨L,M,r.rr.n⟩,B,D⟩,fun b o q I J=>x _ _ ((vQ J).trans q) I⟩
def RO.fresh{C:CH}{S:HS}{R:Rd}{t:Nat}(r:RO a C S R t){q:Addr}{o:CO}(h:C q=none):gQ C R.r o q=none:=by
 rw[vQ fun z=>by rw[z,r.rr.o] at h;cases h];exact h
def u9(f:Addr)(xs:List PV)(ps:List Addr):Fr:=⟨f,xs.map Fd.lf++ps.map fun p=>.ls p []⟩
def V7(f:Addr)(xs:List PV)(ps:List Addr):(u9 f xs ps).fds.map Fd.root=xs++ps.map PV.ref:=by
 unfold u9;rw[AN,Aj,Aj]
 congr 1
 exact(List.map_congr_left fun x _=>rfl).trans (List.map_id xs)
def eL(f:Addr)(xs:List PV)(ps:List Addr):(u9 f xs ps).cells=(f,.lst (xs++ps.map PV.ref))::ps.map fun p=>(p,.lst []):=by
 unfold Fr.cells;rw[V7]
 congr 1
 unfold u9;rw[Az]
 have h1:(xs.map Fd.lf).flatMap Fd.cells=[]:=by
  induction xs with
  |nil=>rfl
  |cons x xs g=>exact g
 have h2:(ps.map fun p=>Fd.ls p []).flatMap Fd.cells=ps.map fun p=>((p,.lst []):nM):=by
  induction ps with
  |nil=>rfl
  |cons p ps g =>
   show(p,CO.lst [])::([]++(ps.map fun p=>Fd.ls p []).flatMap Fd.cells)=(p,CO.lst [])::ps.map _;rw[BQ,g]
 rw[h1,h2,BQ]
def V8{f:Addr}{xs:List PV}{ps:List Addr}(h:∀x∈xs,Lf x)(l:xs.length+ps.length<=10):(u9 f xs ps).ok:=by
 refine⟨fun d g=>?_,by show(xs.map Fd.lf++ps.map _).length<=10;rw[AA,AB,AB];exact l⟩
 rcases AQ.1 g with g | g
 .obtain ⟨x,q,rfl⟩:=AS.1 g
  exact h x q
 .obtain ⟨x,q,rfl⟩:=AS.1 g
  exact⟨fun i hi=>(by cases hi),AM _⟩
inductive NB(a:Adr)(ts:List PV)(C:CH)(Q:K1):Prop
 |nd (S:HS) (R:Rd) (t:Nat) (w:Str) (us:List Str) (xs:List PV) (m:Nat) (z0:ts=[.ref S.h,.str w,.ref R.r]) (z1:jy a C S) (z2:RO a C S R t) (z3:R.ws.drop t=us) (z3':t<=R.ws.length) (zb:ul w us xs m) (zw:w ≠ "draw") (zl:S.frs.length < 100) (z4:∀f ps C',ps.length=m->n8 a R R.ws.length C S C' { S with frs:=S.frs++[u9 f xs ps] }->Q .non C'):NB a ts C Q
 |dr (S:HS) (R:Rd) (t:Nat) (us:List Str) (xs:List PV) (m:Nat) (fs:List Fr) (f p:Addr) (d1:List Fd) (its:List It) (z0:ts=[.ref S.h,.str "draw",.ref R.r]) (z1:jy a C S) (z2:RO a C S R t) (z3:R.ws.drop t=us) (z3':t<=R.ws.length) (zb:ul "draw" us xs m) (zf:S.frs=fs++[⟨f,d1++[.ls p its]⟩]) (zl:its.length < 100) (z4:∀q pl C',n8 a R R.ws.length C S C' { S with frs:=fs++[⟨f,d1++[.ls p (its++[.sub q xs pl []])]⟩] }->Q .non C'):NB a ts C Q
def MP(T:Tx W a){k:Nat}:Ok W a (k+7) 73 ["self","word","row"] (NB a):=by
 have S:=(T.F 73 rfl).s;have gI:=MJ (k:=k) T
 refine(T.F 73 rfl).ok (fun ts C R h=>?_) fun ao A aq s H E ak=>⟨_,(xQ (jb 3 S.nd (cf (T.F 31 rfl) gI ak (qQ (cv 1) (dN (cv 2)))))
  (kQ (nQ (ct2 fX qX (cv 1) wQ) (kQ (wX (cap (cx (cx (zJ T.rQ T.sQ (cv 0)) (aW iK rJ jQ)) (aW iK rJ jQ)) (cv 3)))) (kQ (wX (cap (zJ T.rQ T.sQ (cv 0)) (cv 3))))))),?_⟩
 .rcases h with ⟨_,_,_,_,_,_,_,rfl,_⟩ | ⟨_,_,_,_,_,_,_,_,_,_,_,rfl,_⟩<;>rfl
 rintro ts C Q h
 rcases h with ⟨S,R,t,w,us,xs,m,rfl,h,g,ae,ab,J,aj,N,q⟩ | ⟨S,R,t,us,xs,m,fs,f,p,d1,its,rfl,h,g,ae,ab,J,aa,N,q⟩
 .refine PJ.mk R t w us xs m rfl g.rr ae ab J fun f ps C1 U nd Z I mf af=>?_
  have D:=n8.tk h g I;refine fQ (yQ _ _) (cQ (by simpa using aj) ?_)
  have B:Holds C1 (u9 f xs ps).cells:=by
   rw[eL];intro c B
   rcases AX.1 B with rfl | B
   .exact mf
   .obtain ⟨p,hp,rfl⟩:=AS.1 B
    exact af p hp
  have ah:(u9 f xs ps).cells.map (·.1)=f::ps:=by
   rw[eL,Ak,Aj]
   congr 1
   exact(List.map_congr_left fun x _=>rfl).trans (List.map_id ps)
  have L:=J.lf;have M:=w6 (C0:=gQ C R.r (ur a R.dx R.wl R.l R.ws.length)) I (h.tk I g.nr) B (by unfold Dj;rw[ah];exact nd) (fun q Y=>g.fresh (Z q (by rw[ah] at Y;exact Y))) (h.ho.ne g.nr) (V8 L.1 (by have:=L.2.1;have:=L.2.2;omega)) N;have O:=D.st.pa;refine kJ D.st.hr rfl ⟨qZ O,nK O (by rw[AB];exact AK N (by decide)) ?_⟩;exact q f ps _ U (n8.of g M.2 M.1)
 .refine PJ.mk R t "draw" us xs m rfl g.rr ae ab J fun q0 ps C1 U nd Z I mf af=>?_
  have D:=n8.tk h g I;have L:=J.lf;have m1:m=1:=by cases J;rfl
  subst m1
  obtain⟨pl,rfl⟩:∃pl,ps=[pl]:=by
   cases ps with
   |nil=>cases U
   |cons p ps =>
    cases ps with
    |nil=>exact⟨p,rfl⟩
    |cons _ _=>cases U
  refine fQ (yQ _ _) (tX (by decide +kernel) ?_);have hT:(⟨f,d1++[.ls p its]⟩:Fr)∈S.frs:=by rw[aa];simp
  have M:=gH (C0:=gQ C R.r (ur a R.dx R.wl R.l R.ws.length)) (x:=.sub q0 xs pl []) (d2:=[]) I (h.tk I g.nr) aa (fun c B=>by
   simp only[It.cells,List.mem_cons,List.not_mem_nil,or_false] at B
   rcases B with rfl | rfl
   .exact mf
   .exact af pl (by simp)) nd (fun q Y=>g.fresh (Z q Y)) (h.ho.ne g.nr) ⟨L.1,(fun y hy=>by cases hy),by have:=L.2.1;omega,AM _⟩ N
  have O:=D.st.pa;have ai:=D.st.tf hT;have ag:=D.st.fd hT (p:=p) (its:=its) (by simp);rw[aa,AN] at O;rw[AN] at ai;refine kJ D.st.hr rfl (vZ O gK (vZ ai gK ⟨qZ ag,nK ag (by rw[AB];exact AK N (by decide)) ?_⟩));exact q q0 pl _ (n8.of g M.2 M.1)
end
def eF{xs ys:List PV}{x:PV}{k:Nat}(h:xs.length=k):atI (xs++x::ys) (k:Nat)=some x:=by
 refine zF ?_;rw[A8 (by omega),h,Nat.sub_self]
 rfl
section
variable {W:Wd}{a:Adr}
inductive R1(a:Adr)(ts:List PV)(C:CH)(Q:K1):Prop
 |mk(S:HS)(fs:List Fr)(f p:Addr)(d1:List Fd)(its:List It)(T:Fr)(z0:ts=[.ref S.h])(z1:jy a C S)(zf:S.frs=(fs++[⟨f,d1++[.ls p its]⟩])++[T])(zl:its.length < 100)(z4:∀C',jy a C' { S with frs:=fs++[⟨f,d1++[.ls p (its++[.lf T.cl])]⟩] }->Ext a C S C' { S with frs:=fs++[⟨f,d1++[.ls p (its++[.lf T.cl])]⟩] }->Q .non C')
def Mx(T:Tx W a):Ok W a 7 74 ["self"] (R1 a):=by
 have S:=(T.F 74 rfl).s;have xW:=ZF T 4
 refine(T.F 74 rfl).ok (fun ts C R h=>?_) fun ab A ae s H E aa=>⟨_,(xQ (jb 1 S.nd (cf (T.F 32 rfl) xW aa (dN (mM AY BK BJ cF qB (zJ T.rQ T.sQ (cv 0))))))
  (kQ (wX (cap (cx (cx (zJ T.rQ T.sQ (cv 0)) (aW iK rJ jQ)) (aW iK rJ jQ)) (cv 1))))),?_⟩
 .obtain ⟨_,_,_,_,_,_,_,rfl,_⟩:=h;rfl
 rintro ts C Q ⟨S,fs,f,p,d1,its,T,rfl,h,B,N,q⟩;have D:=h.pa;rw[B,AN] at D;obtain⟨U,x1,Z⟩:=Gw (C0:=C) Gr.refl h B;refine kJ h.hr rfl ⟨qZ D,eN D (y:=.ref T.f) (by simp) ?_⟩;rw[show List.map (fun T:Fr=>PV.ref T.f) [T]=[PV.ref T.f] from rfl,BN];generalize gQ C S.pa (.lst ((fs++[(⟨f,d1++[.ls p its]⟩:Fr)]).map fun T:Fr=>PV.ref T.f))=C1 at *
 refine Fy.mk (.ref T.f) T.cl rfl (Fr.clo Z (h.ok T (by rw[B];simp))) fun C2 L=>?_;have g:=U.gr L;have I:=gH (C0:=C1) (x:=.lf T.cl) (d2:=[]) (f:=f) (p:=p) (its:=its) (d1:=d1) (fs:=fs) L g rfl (fun c hc=>by cases hc) Bt (fun q hq=>by cases hq) U.ho trivial N;have M:(⟨f,d1++[.ls p its]⟩:Fr)∈fs++[⟨f,d1++[.ls p its]⟩]:=by simp
 have O:=g.pa;have Y:=g.tf M;have J:=g.fd M (p:=p) (its:=its) (by simp);rw[show({ S with frs:=fs++[⟨f,d1++[.ls p its]⟩] }:HS).frs.map (fun T:Fr=>PV.ref T.f)=fs.map (fun T:Fr=>PV.ref T.f)++[.ref f] from by simp] at O;rw[AN] at Y;dsimp only[ig.wn];refine kJ g.hr rfl (vZ O gK (vZ Y gK ⟨qZ J,nK J (by rw[AB];exact AK N (by decide)) ?_⟩))
 exact q _ I.1 (x1.trans I.2)
inductive Pg(R:Rd)(t:Nat):Str->Nat->PV->Prop
 |box (n:Str) (i:Int) (hw:R.ws.drop t=[n,jw i]) (hn:zZ n=true) (hb:Bd i):Pg R t "box" 1 (.tup [.str n,.int i])
 |work (n:Str) (r:Rk) (hw:R.ws.drop t=n::r.ie) (hn:zZ n=true) (hg:Rg r):Pg R t "work" 2 (.tup [.str n,r.pv])
 |set (n:Str) (r:Rk) (hw:R.ws.drop t=n::r.ie) (hn:zZ n=true) (hg:Rg r):Pg R t "set" 3 (.tup [.str n,r.pv])
inductive zp(a:Adr)(ts:List PV)(C:CH)(Q:K1):Prop
 |lf (S:HS) (R:Rd) (t:Nat) (w:Str) (k:Nat) (y:PV) (fs:List Fr) (f p:Addr) (d1 d2:List Fd) (its:List It) (z0:ts=[.ref S.h,.str w,.ref R.r]) (z1:jy a C S) (z2:RO a C S R t) (zt:t<=R.ws.length) (zs:Pg R t w k y) (zf:S.frs=fs++[⟨f,d1++.ls p its::d2⟩]) (zk:d1.length=k) (zl:its.length < 100) (z4:∀C',n8 a R R.ws.length C S C' { S with frs:=fs++[⟨f,d1++.ls p (its++[.lf y])::d2⟩] }->Q .non C'):zp a ts C Q
 |wi (S:HS) (R:Rd) (t:Nat) (n:Str) (r:Rk) (fs:List Fr) (f pl q p:Addr) (d1:List Fd) (its:List It) (xs ys:List PV) (z0:ts=[.ref S.h,.str "with",.ref R.r]) (z1:jy a C S) (z2:RO a C S R t) (zt:t<=R.ws.length) (zw:R.ws.drop t=n::r.ie) (zn:zZ n=true) (zg:Rg r) (zf:S.frs=fs++[⟨f,d1++[.ls pl (its++[.sub q xs p ys])]⟩]) (zx:xs.length=3) (zl:ys.length < 100) (z4:∀C',n8 a R R.ws.length C S C' { S with frs:=fs++[⟨f,d1++[.ls pl (its++[.sub q xs p (ys++[.tup [.str n,r.pv]])])]⟩] }->Q .non C'):zp a ts C Q
 |hd (S:HS) (R:Rd) (t:Nat) (n:Str) (i:Int) (b:Bool) (fs:List Fr) (f p:Addr) (d1 d2:List Fd) (its:List It) (z0:ts=[.ref S.h,.str "hand",.ref R.r]) (z1:jy a C S) (z2:RO a C S R t) (zt:t<=R.ws.length) (zw:R.ws.drop t=[n,jw i,eW b]) (zn:zZ n=true) (zi:i=1\/i=2\/i=3) (zf:S.frs=fs++[⟨f,d1++.ls p its::d2⟩]) (zk:d1.length=4) (zl:its.length < 100) (z4:∀q pl C',n8 a R R.ws.length C S C' { S with frs:=fs++[⟨f,d1++.ls p (its++[.sub q [.str n,.int i,.bl b] pl []])::d2⟩] }->Q .non C'):zp a ts C Q
 |ch (S:HS) (R:Rd) (t:Nat) (n c:Str) (r:Rk) (fs:List Fr) (f pl q p:Addr) (d1 d2:List Fd) (its:List It) (xs ys:List PV) (z0:ts=[.ref S.h,.str "change",.ref R.r]) (z1:jy a C S) (z2:RO a C S R t) (zt:t<=R.ws.length) (zw:R.ws.drop t=n::c::r.ie) (zn:zZ n=true) (zc:c∈(["set","add","times"]:List Str)) (zg:Rg r) (zf:S.frs=fs++[⟨f,d1++.ls pl (its++[.sub q xs p ys])::d2⟩]) (zk:d1.length=4) (zx:xs.length=3) (zl:ys.length < 100) (z4:∀C',n8 a R R.ws.length C S C' { S with frs:=fs++[⟨f,d1++.ls pl (its++[.sub q xs p (ys++[.tup [.str n,.str c,r.pv]])])::d2⟩] }->Q .non C'):zp a ts C Q
def Mv(T:Tx W a){k:Nat}:Ok W a (k+5) 75 ["self","word","row"] (zp a):=by
 have S:=(T.F 75 rfl).s;have qJ:=ZC (k:=k+2) T;have iF:=LK (k:=k+1) T;have yX:=Vs (k:=k) T;have mV:=Mf (k:=k+2) T
 refine(T.F 75 rfl).ok (fun ts C R h=>?_) fun ba A bb s H E ab=>⟨_,(xQ (jb 3 S.nd (o9 T.pQ (T.F 63 rfl) T.xX qJ ab (cv 2)))
  (xQ (jb 4 S.nd (cx (zJ T.rQ T.sQ (cv 0)) (aW iK rJ jQ)))
  (kQ (nQ (ct2 fX qX (cv 1) wQ) (kQ (wX (cap (cx (cv 4) jQ) (pX (qQ (cv 3) (dN (o9 T.pQ (T.F 64 rfl) T.xX iF ab (cv 2)))))))) (kQ (nQ (ct2 fX qX (cv 1) wQ) (kQ (wX (cap (cx (cv 4) jQ) (pX (qQ (cv 3) (dN (o9 T.pQ (T.F 66 rfl) T.xX yX ab (cv 2)))))))) (kQ (nQ (ct2 fX qX (cv 1) wQ) (kQ (wX (cap (cx (cv 4) jQ) (pX (qQ (cv 3) (dN (o9 T.pQ (T.F 66 rfl) T.xX yX ab (cv 2)))))))) (kQ (nQ (ct2 fX qX (cv 1) wQ) (kQ (wX (cap (cx (cx (cx (cv 4) (aW iK rJ jQ)) (aW iK rJ jQ)) jQ) (pX (qQ (cv 3) (dN (o9 T.pQ (T.F 66 rfl) T.xX yX ab (cv 2)))))))) (kQ (nQ (ct2 fX qX (cv 1) wQ) (xQ (jb 5 S.nd (dZ dO Q6 rfl T.wF rfl (dN (cm T.pQ (T.F 62 rfl) T.xX mV ab (cv 2) (dN (oX (v:=.ref a.RANKS) (t:=.kt [.str "1",.str "2",.str "3"]) rfl T.gRANKS rfl (fun H=>.kt (T.qRANKS H) (.cons (.str _) (.cons (.str _) (.cons (.str _) .nil))))))))))
  (kQ (wX (cap (cx (cv 4) jQ) (mQ (qQ (cv 3) (qQ (cv 5) (qQ (jJ fX qX (cm T.pQ (T.F 62 rfl) T.xX mV ab (cv 2) (dN (pX (qQ wQ (dN wQ))))) wQ (oJ _)) (dN (mQ aX)))))))))) (xQ (jb 6 S.nd (cm T.pQ (T.F 62 rfl) T.xX mV ab (cv 2) (dN (oX (v:=.ref a.CHANGING) (t:=.kt [.str "set",.str "add",.str "times"]) rfl T.wO rfl (fun H=>.kt (T.pT H) (.cons (.str _) (.cons (.str _) (.cons (.str _) .nil))))))))
  (kQ (wX (cap (cx (cx (cx (cv 4) jQ) (aW iK rJ jQ)) jQ) (pX (qQ (cv 3) (qQ (cv 6) (dN (o9 T.pQ (T.F 66 rfl) T.xX yX ab (cv 2)))))))))))))))))))))),?_⟩
 .cases h<;>simp_all
 rintro ts C Q h
 cases h with
 |lf S R t w k y fs f p d1 d2 its z0 h g ae hs O hk hl q =>
  subst z0;have U:(⟨f,d1++.ls p its::d2⟩:Fr)∈S.frs:=by rw[O];simp
  have ao:∀C2,Tk a R R.ws.length C C2->Lf y->Q .non (gQ C2 p (.lst (its.map It.root++[y]))):=fun C2 L hy=>by
   have Z:=gH (C0:=gQ C R.r (ur a R.dx R.wl R.l R.ws.length)) (x:=.lf y) L (h.tk L g.nr) O (fun c hc=>by cases hc) Bt (fun q hq=>by cases hq) (h.ho.ne g.nr) hy hl;exact q _ (n8.of g Z.2 Z.1)
  have M:∀{C1:CH}{ag:Nat},Tk a R ag C C1->C1 S.pa=some (.lst (fs.map (fun T:Fr=>PV.ref T.f)++[.ref f]))/\C1 f=some (.lst (d1.map Fd.root++.ref p::d2.map Fd.root))/\C1 p=some (.lst (its.map It.root))/\C1 S.h=some (ph a S.dx S.pp S.pa S.ahead):=fun B=>by
   have h1:=h.tk B g.nr;have I:=h1.pa;rw[O,AN] at I;have J:=h1.tf U;rw[AN] at J;exact⟨I,J,h1.fd U (by simp),h1.hr⟩
  have ll:(its.map It.root).length < sizeLine:=by rw[AB];exact AK hl (by decide)
  cases hs with
  |box n i D hn hb =>
   refine⟨jX g.rr.o rfl,ug.mk R t n rfl g.rr (tZ D) hn fun C1 B=>?_⟩;obtain⟨I,J,N,aa⟩:=M B;refine kJ aa rfl (vZ I gK (fQ (yQ _ _) (tX (by decide +kernel) (vZ J (eF (by rw[AB,hk])) ⟨qZ N,⟨jX (B.at g.rr).o rfl,RG.mk R (t+1) i rfl (B.at g.rr) (tZ (eZ (us:=[n]) D)) hb fun C2 L=>⟨y0 2 rfl,nK (M (B.trans L)).2.2.1 ll (ao C2 (by rw[<- cW D ae];exact B.trans L) trivial)⟩⟩⟩))))
  |work n r D hn hg =>
   refine⟨jX g.rr.o rfl,ug.mk R t n rfl g.rr (tZ D) hn fun C1 B=>?_⟩;obtain⟨I,J,N,aa⟩:=M B;refine kJ aa rfl (vZ I gK ?_);refine fQ (yQ _ _) (cQ (by decide +kernel) ?_);refine fQ (yQ _ _) (tX (by decide +kernel) (vZ J (eF (by rw[AB,hk])) ⟨qZ N,⟨jX (B.at g.rr).o rfl,zj.mk R (t+1) r [] rfl (B.at g.rr) (by rw[AH];exact eZ (us:=[n]) D) hg fun C2 L=>⟨y0 2 rfl,nK (M (B.trans L)).2.2.1 ll (ao C2 (by rw[<- cW D ae,AD,Nat.add_comm r.ie.length 1,<- Cm];exact B.trans L) trivial)⟩⟩⟩))
  |set n r D hn hg =>
   refine⟨jX g.rr.o rfl,ug.mk R t n rfl g.rr (tZ D) hn fun C1 B=>?_⟩;obtain⟨I,J,N,aa⟩:=M B;refine kJ aa rfl (vZ I gK ?_);refine fQ (yQ _ _) (cQ (by decide +kernel) ?_);refine fQ (yQ _ _) (cQ (by decide +kernel) ?_);refine fQ (yQ _ _) (tX (by decide +kernel) (vZ J (eF (by rw[AB,hk])) ⟨qZ N,⟨jX (B.at g.rr).o rfl,zj.mk R (t+1) r [] rfl (B.at g.rr) (by rw[AH];exact eZ (us:=[n]) D) hg fun C2 L=>⟨y0 2 rfl,nK (M (B.trans L)).2.2.1 ll (ao C2 (by rw[<- cW D ae,AD,Nat.add_comm r.ie.length 1,<- Cm];exact B.trans L) trivial)⟩⟩⟩))
 |wi S R t n r fs f pl q p d1 its xs ys z0 h g ae D hn hg O hx hl qq =>
  subst z0;have U:(⟨f,d1++[.ls pl (its++[It.sub q xs p ys])]⟩:Fr)∈S.frs:=by rw[O];simp
  have M:∀{C1:CH}{ag:Nat},Tk a R ag C C1->C1 S.pa=some (.lst (fs.map (fun T:Fr=>PV.ref T.f)++[.ref f]))/\C1 f=some (.lst (d1.map Fd.root++[.ref pl]))/\C1 pl=some (.lst (its.map It.root++[.ref q]))/\C1 q=some (.lst (xs++[.ref p]))/\C1 p=some (.lst ys)/\C1 S.h=some (ph a S.dx S.pp S.pa S.ahead):=fun B=>by
   have h1:=h.tk B g.nr;have I:=h1.pa;rw[O,AN] at I;have J:=h1.tf U;rw[AN] at J;have N:=h1.fd U (p:=pl) (its:=its++[It.sub q xs p ys]) (by simp);have ai:=h1.it U (p:=pl) (its:=its++[It.sub q xs p ys]) (by simp) (i:=.sub q xs p ys) (by simp);rw[AN] at N;exact⟨I,J,N,ai (q,.lst (xs++[.ref p])) (by simp[It.cells]),ai (p,.lst ys) (by simp[It.cells]),h1.hr⟩
  refine⟨jX g.rr.o rfl,ug.mk R t n rfl g.rr (tZ D) hn fun C1 B=>?_⟩;obtain⟨I,J,N,ay,ax,aa⟩:=M B;refine kJ aa rfl (vZ I gK ?_);refine fQ (yQ _ _) (cQ (by decide +kernel) ?_);refine fQ (yQ _ _) (cQ (by decide +kernel) ?_);refine fQ (yQ _ _) (cQ (by decide +kernel) ?_);refine fQ (yQ _ _) (tX (by decide +kernel) (vZ J gK (vZ N gK (vZ ay (eF (k:=3) hx) ⟨qZ ax,⟨jX (B.at g.rr).o rfl,zj.mk R (t+1) r [] rfl (B.at g.rr) (by rw[AH];exact eZ (us:=[n]) D) hg fun C2 L=>⟨y0 2 rfl,?_⟩⟩⟩))))
  have Y:Tk a R R.ws.length C C2:=by rw[<- cW D ae,AD,Nat.add_comm r.ie.length 1,<- Cm];exact B.trans L
  have Z:=Zj (C0:=gQ C R.r (ur a R.dx R.wl R.l R.ws.length)) (y:=.tup [.str n,r.pv]) (d2:=[]) Y (h.tk Y g.nr) O trivial hl;exact nK (M Y).2.2.2.2.1 (AK hl (by decide)) (qq _ (n8.of g Z.2 Z.1))
 |hd S R t n i b fs f p d1 d2 its z0 h g ae D hn hi O hk hl qq =>
  subst z0;have U:(⟨f,d1++.ls p its::d2⟩:Fr)∈S.frs:=by rw[O];simp
  have M:∀{C1:CH}{ag:Nat},Tk a R ag C C1->C1 S.pa=some (.lst (fs.map (fun T:Fr=>PV.ref T.f)++[.ref f]))/\C1 f=some (.lst (d1.map Fd.root++.ref p::d2.map Fd.root))/\C1 p=some (.lst (its.map It.root))/\C1 S.h=some (ph a S.dx S.pp S.pa S.ahead):=fun B=>by
   have h1:=h.tk B g.nr;have I:=h1.pa;rw[O,AN] at I;have J:=h1.tf U;rw[AN] at J;exact⟨I,J,h1.fd U (by simp),h1.hr⟩
  have ah:R.ws.drop (t+1)=[jw i,eW b]:=eZ (us:=[n]) D;have a6:R.ws.drop (t+1+1)=[eW b]:=eZ (us:=[jw i]) ah;have el:=cW D ae;have a3:jw i∈(["1","2","3"]:List Str):=by rcases hi with rfl | rfl | rfl<;>decide +kernel
  have au:(jw i).length<=640/\PySem.intText? (jw i)=some i:=by
   have:=rD (i:=i) (by omega) (by omega);exact⟨AR this.1 (by decide),this.2⟩
  have a0:eW b∈(["last","on"]:List Str):=by cases b<;>decide +kernel
  have az:sEq (.str (eW b)) (.str "last")=some b:=by cases b<;>rfl
  refine⟨jX g.rr.o rfl,ug.mk R t n rfl g.rr (tZ D) hn fun C1 B=>?_⟩;obtain⟨I,J,N,aa⟩:=M B;refine kJ aa rfl (vZ I gK ?_);refine fQ (yQ _ _) (cQ (by decide +kernel) ?_);refine fQ (yQ _ _) (cQ (by decide +kernel) ?_);refine fQ (yQ _ _) (cQ (by decide +kernel) ?_);refine fQ (yQ _ _) (cQ (by decide +kernel) ?_);refine fQ (yQ _ _) (tX (by decide +kernel) ⟨jX (B.at g.rr).o rfl,O4.mk R (t+1) (jw i) _ ["1","2","3"] rfl (B.at g.rr) (tZ ah) (fun C=>rfl) a3 fun C2 L=>⟨jw i,i,rfl,au.1,au.2,?_⟩⟩)
  have Y:=B.trans L;obtain⟨a9,ar,ak,a5⟩:=M Y;refine vZ ar (eF (k:=4) (by rw[AB,hk])) ⟨qZ ak,⟨jX (Y.at g.rr).o rfl,y0 2 rfl,O4.mk R (t+1+1) (eW b) _ ["last","on"] rfl (Y.at g.rr) (tZ a6) (fun C=>rfl) a0 fun C3 k3=>fQ az ⟨AM _,fun pl av=>⟨y0 4 rfl,fun q0 aj=>?_⟩⟩⟩⟩;have nq:q0≠pl:=fun z=>by rw[z,zQ] at aj;cases aj
  have a4:C3 q0=none:=by rwa [vQ nq] at aj
  have af:Tk a R R.ws.length C C3:=by
   rw[show R.ws.length=t+1+1+1 from by rw[<- el];rfl];exact Y.trans k3
  have aq:Gr C3 (gQ (gQ C3 pl (.lst [])) q0 (.lst ([.str n,.int i,.bl b]++[.ref pl]))):=(Gr.new av _).trans (Gr.new aj _)
  have Z:=gH (C0:=gQ C R.r (ur a R.dx R.wl R.l R.ws.length)) (x:=.sub q0 [.str n,.int i,.bl b] pl []) (Gr.trans af aq) ((h.tk af g.nr).gr aq) O (fun c hc=>by
   simp only[It.cells,List.mem_cons,List.not_mem_nil,or_false] at hc
   rcases hc with rfl | rfl
   .exact zQ
   .exact (vQ nq.symm).trans zQ) (by show[q0,pl].Nodup;simp[nq]) (fun q hq=>g.fresh (by
    have aw:q∈[q0,pl]:=hq
    simp only[List.mem_cons,List.not_mem_nil,or_false] at aw
    rcases aw with rfl | rfl
    .exact af.none a4
    .exact af.none av)) (h.ho.ne g.nr) ⟨fun x hx=>by simp only[List.mem_cons,List.not_mem_nil,or_false] at hx;rcases hx with rfl | rfl | rfl<;>trivial,(fun y hy=>by cases hy),by show 3<=100;decide,AM _⟩ hl
  exact nK (aq _ _ (M af).2.2.1) (by rw[AB];exact AK hl (by decide)) (qq q0 pl _ (n8.of g Z.2 Z.1))
 |ch S R t n c r fs f pl q p d1 d2 its xs ys z0 h g ae D hn hc hg O hk hx hl qq =>
  subst z0;have U:(⟨f,d1++.ls pl (its++[It.sub q xs p ys])::d2⟩:Fr)∈S.frs:=by rw[O];simp
  have M:∀{C1:CH}{ag:Nat},Tk a R ag C C1->C1 S.pa=some (.lst (fs.map (fun T:Fr=>PV.ref T.f)++[.ref f]))/\C1 f=some (.lst (d1.map Fd.root++.ref pl::d2.map Fd.root))/\C1 pl=some (.lst (its.map It.root++[.ref q]))/\C1 q=some (.lst (xs++[.ref p]))/\C1 p=some (.lst ys)/\C1 S.h=some (ph a S.dx S.pp S.pa S.ahead):=fun B=>by
   have h1:=h.tk B g.nr;have I:=h1.pa;rw[O,AN] at I;have J:=h1.tf U;rw[AN] at J;have N:=h1.fd U (p:=pl) (its:=its++[It.sub q xs p ys]) (by simp);have ai:=h1.it U (p:=pl) (its:=its++[It.sub q xs p ys]) (by simp) (i:=.sub q xs p ys) (by simp);rw[AN] at N;exact⟨I,J,N,ai (q,.lst (xs++[.ref p])) (by simp[It.cells]),ai (p,.lst ys) (by simp[It.cells]),h1.hr⟩
  refine⟨jX g.rr.o rfl,ug.mk R t n rfl g.rr (tZ D) hn fun C1 B=>?_⟩;obtain⟨I,J,N,ay,ax,aa⟩:=M B;refine kJ aa rfl (vZ I gK ?_);refine fQ (yQ _ _) (cQ (by decide +kernel) ?_);refine fQ (yQ _ _) (cQ (by decide +kernel) ?_);refine fQ (yQ _ _) (cQ (by decide +kernel) ?_);refine fQ (yQ _ _) (cQ (by decide +kernel) ?_);refine fQ (yQ _ _) (cQ (by decide +kernel) ?_);have ah:R.ws.drop (t+1)=c::r.ie:=eZ (us:=[n]) D
  refine⟨jX (B.at g.rr).o rfl,O4.mk R (t+1) c _ ["set","add","times"] rfl (B.at g.rr) (tZ ah) (fun C=>rfl) hc fun C2 L=>?_⟩;have Y:=B.trans L;obtain⟨a9,ar,ak,a8,a7,a5⟩:=M Y;refine vZ ar (eF (k:=4) (by rw[AB,hk])) (vZ ak gK (vZ a8 (eF (k:=3) hx) ⟨qZ a7,⟨jX (Y.at g.rr).o rfl,zj.mk R (t+1+1) r [] rfl (Y.at g.rr) (by rw[AH];exact eZ (us:=[c]) ah) hg fun C3 k3=>⟨y0 3 rfl,?_⟩⟩⟩))
  have af:Tk a R R.ws.length C C3:=by
   rw[show R.ws.length=t+1+1+r.ie.length from by rw[<- cW D ae,AD,AD];omega];exact Y.trans k3
  have Z:=Zj (C0:=gQ C R.r (ur a R.dx R.wl R.l R.ws.length)) (y:=.tup [.str n,.str c,r.pv]) af (h.tk af g.nr) O trivial hl;exact nK (M af).2.2.2.2.1 (AK hl (by decide)) (qq _ (n8.of g Z.2 Z.1))
end
def Ep:List (Str×List Str):=[("box",["part","box"]),("work",["part","box","work"]),("set",["plain","set"]),("hand",["plain","set","hand","change"]),("change",["hand","change"]),("with",["draw","with"])]
def Pq(z:Str):Option PV:=(Ep.lookup z).map fun ss=>.kt (ss.map PV.str)
section
variable {W:Wd}{a:Adr}
theorem nF{K:DD}{H:Hp}:∀ss:List Str,iw K H (ss.map V.str) (ss.map PV.str)
 |[]=>.nil
 |s::ss=>.cons (.str _) (nF ss)
def wz(T:Tx W a):∀z t,Pq z=some t->∃v,oK ([(Sum.inr "box",.ref a.zW),(Sum.inr "work",.ref a.qW),(Sum.inr "set",.ref a.iV),(Sum.inr "hand",.ref a.aV),(Sum.inr "change",.ref a.eV),(Sum.inr "with",.ref a.tV)]:List (Key×V)) (Sum.inr z)=some v/\∀H,Rep W.K H v t:=by
 intro z t h;unfold Pq at h
 cases e:Ep.lookup z with
 |none=>rw[e] at h;cases h
 |some ss =>
  rw[e] at h;cases h;unfold Ep at e
  simp only[List.lookup] at e
  split at e
  .next g=>cases e;rw[eq_of_beq g];exact⟨_,rfl,fun H=>.kt (T.iP H) (nF ["part","box"])⟩
  split at e
  .next g=>cases e;rw[eq_of_beq g];exact⟨_,rfl,fun H=>.kt (T.aP H) (nF ["part","box","work"])⟩
  split at e
  .next g=>cases e;rw[eq_of_beq g];exact⟨_,rfl,fun H=>.kt (T.eP H) (nF ["plain","set"])⟩
  split at e
  .next g=>cases e;rw[eq_of_beq g];exact⟨_,rfl,fun H=>.kt (T.tP H) (nF ["plain","set","hand","change"])⟩
  split at e
  .next g=>cases e;rw[eq_of_beq g];exact⟨_,rfl,fun H=>.kt (T.oP H) (nF ["hand","change"])⟩
  split at e
  .next g=>cases e;rw[eq_of_beq g];exact⟨_,rfl,fun H=>.kt (T.sP H) (nF ["draw","with"])⟩
  .cases e
inductive Zc(S:HS):Str->Prop
 |fill (w:Str) (ss:List Str) (h:(w,ss)∈Ep) (ha:S.ahead∈ss):Zc S w
 |beg (w:Str) (h:w∈(["plain","draw","give","when","each"]:List Str)) (hf:1<=S.frs.length):Zc S w
 |part (hf:S.frs.length<=1):Zc S "part"
 |els (fs:List Fr) (f l:Addr) (x:PV) (its:List It) (hf:S.frs=fs++[⟨f,[.lf (.str "when"),.lf x,.ls l its]⟩]) (hl:1<=fs.length):Zc S "else"
 |fin (fs:List Fr) (f:Addr) (u:Str) (ds:List Fd) (hf:S.frs=fs++[⟨f,.lf (.str u)::ds⟩]) (hl:1<=fs.length) (hu:u ≠ "when"\/ds.length≠2):Zc S "end"
inductive RM(a:Adr)(ts:List PV)(C:CH)(Q:K1):Prop
 |mk(S:HS)(w:Str)(z0:ts=[.ref S.h,.str w])(z1:jy a C S)(z2:Zc S w)(z3:Q (.bl true) C)
def Mh(T:Tx W a){k:Nat}:Ok W a (k+1) 71 ["self","word"] (RM a):=by
 have S:=(T.F 71 rfl).s;have N:=wz T
 refine(T.F 71 rfl).ok (fun ts C R h=>?_) fun af A ag s H E Z=>⟨_,(xQ (nQ (rK (jM T.eG) bM (cv 1) (oX (v:=.ref a.RIGHT_BEHIND) (t:=.ref a.RIGHT_BEHIND) rfl T.tG rfl (fun _=>.ref _)) rfl) (kQ (uQ (jJ eM jY (zJ T.rQ T.jV (cv 0)) (rH T.eG N (oX (v:=.ref a.RIGHT_BEHIND) (t:=.ref a.RIGHT_BEHIND) rfl T.tG rfl (fun _=>.ref _)) (cv 1) (fun _ _=>rfl)) rfl))) dQ)
  (xQ (nQ (rK (vU (gZ Z)) iM (cv 1) (oX (v:=.ref a.BEGINNING) (t:=.kt [.str "plain",.str "draw",.str "give",.str "when",.str "each"]) rfl T.nC rfl (fun H=>.kt (T.nN H) (.cons (.str _) (.cons (.str _) (.cons (.str _) (.cons (.str _) (.cons (.str _) .nil))))))) rfl) (kQ (uQ (jJ kK vJ (kh T.rZ (zJ T.rQ T.sQ (cv 0))) jQ (oJ _)))) dQ)
  (xQ (nQ (ct2 fX qX (cv 1) wQ) (kQ (uQ (jJ qM cY (kh T.rZ (zJ T.rQ T.sQ (cv 0))) jQ (oJ _)))) dQ)
  (xQ (nQ (ct2 qM cY (kh T.rZ (zJ T.rQ T.sQ (cv 0))) jQ) (kQ (uQ fZ)) dQ)
  (xQ (jb 2 S.nd (zB (jJ fX qX (cx (cx (zJ T.rQ T.sQ (cv 0)) (aW iK rJ jQ)) jQ) wQ (oJ _)) (iG (jJ fX qX (kh T.rZ (cx (zJ T.rQ T.sQ (cv 0)) (aW iK rJ jQ))) jQ (oJ _)))))
  (kQ (uQ (Wt (zB (jJ fX qX (cv 1) wQ (oJ _)) (iG (cv 2))) (iG (zB (jJ fX qX (cv 1) wQ (oJ _)) (iG (Ia (cv 2))))))))))))),?_⟩
 .obtain ⟨_,_,rfl,_⟩:=h;rfl
 rintro ts C Q ⟨S,w,rfl,h,Y,q⟩;have g:=h.pa
 cases Y with
 |fill _ ss aa O =>
  have ae:∀c∈Ep,(oK ([(Sum.inr "box",.ref a.zW),(Sum.inr "work",.ref a.qW),(Sum.inr "set",.ref a.iV),(Sum.inr "hand",.ref a.aV),(Sum.inr "change",.ref a.eV),(Sum.inr "with",.ref a.tV)]:List (Key×V)) (Sum.inr c.1)).isSome=true/\Pq c.1=some (.kt (c.2.map PV.str)):=by
   intro c J;unfold Ep at J
   simp only[List.mem_cons,List.not_mem_nil,or_false] at J
   rcases J with rfl | rfl | rfl | rfl | rfl | rfl<;>exact⟨rfl,rfl⟩
  obtain⟨k1,k2⟩:=ae _ aa;refine⟨w,rfl,rfl,tX k1 (kJ h.hr rfl ⟨w,_,rfl,rfl,k2,JM (ss:=ss) rfl O q⟩)⟩
 |beg _ L B =>
  simp only[List.mem_cons,List.not_mem_nil,or_false] at L
  rcases L with rfl | rfl | rfl | rfl | rfl<;>exact⟨_,rfl,rfl,cQ rfl (lQ (cK rfl rfl (tX (by decide +kernel) (kJ h.hr rfl (eK g (jo (by rw[AB,Ai (show(0:Int) < S.frs.length by omega)];exact q)))))))⟩
 |part B=>exact⟨_,rfl,rfl,cQ rfl (lQ (cK rfl rfl (cQ (by decide +kernel) (lQ (fQ (yQ _ _) (tX (by decide +kernel) (kJ h.hr rfl (eK g (jo (by rw[AB,Ai (show((S.frs.length:Nat):Int) < 2 by omega)];exact q))))))))))⟩
 |els fs f l x its B U =>
  have D:=h.tf (T:=⟨f,[.lf (.str "when"),.lf x,.ls l its]⟩) (by rw[B];simp);rw[B,AN] at g;have I:((fs.map (fun T:Fr=>PV.ref T.f)++[PV.ref f]).length:Int)=fs.length+1:=by rw[AA,AB];rfl
  refine⟨_,rfl,rfl,cQ rfl (lQ (cK rfl rfl (cQ (by decide +kernel) (lQ (fQ (yQ _ _) (cQ (by decide +kernel) (lQ (kJ h.hr rfl (eK g (jo (cQ (Ad (by have:=I;show ¬ ((fs.map (fun T:Fr=>PV.ref T.f)++[PV.ref f]).length:Int) < 2;omega)) (lQ ?_))))))))))))⟩;refine kJ h.hr rfl (vZ g gK (vZ D rfl (fQ (yQ _ _) (tX (by decide +kernel) (kJ h.hr rfl (vZ g gK (eK D (fQ (zX _ _) ?_))))))));exact fQ (yQ _ _) (tX (by decide +kernel) (show Q _ C from q))
 |fin fs f u ds B U hu =>
  have D:=h.tf (T:=⟨f,.lf (.str u)::ds⟩) (by rw[B];simp);rw[B,AN] at g;have I:((fs.map (fun T:Fr=>PV.ref T.f)++[PV.ref f]).length:Int)=fs.length+1:=by rw[AA,AB];rfl
  have M:C f=some (.lst (.str u::ds.map Fd.root)):=D;refine⟨_,rfl,rfl,cQ rfl (lQ (cK rfl rfl (cQ (by decide +kernel) (lQ (fQ (yQ _ _) (cQ (by decide +kernel) (lQ (kJ h.hr rfl (eK g (jo (cQ (Ad (by have:=I;show ¬ ((fs.map (fun T:Fr=>PV.ref T.f)++[PV.ref f]).length:Int) < 2;omega)) (lQ ?_))))))))))))⟩;refine kJ h.hr rfl (vZ g gK (vZ M Ki (fQ (yQ _ _) (lJ (fun e=>?_) fun e=>?_))))
  .refine kJ h.hr rfl (vZ g gK (eK M (fQ (b:=false) ?_ ?_)))
   .have ab:u = "when":=by simpa using e
    have:ds.length≠2:=hu.resolve_left (fun z=>z ab);rw[AD,AB];show some (decide _)=some false
    congr 1
    refine Ad ?_;omega
   .exact fQ (yQ _ _) (cQ (by decide +kernel) (fQ (yQ _ _) (tX (by decide +kernel) (show Q _ C from q))))
  .exact fQ (yQ _ _) (cQ (by decide +kernel) (fQ (yQ _ _) (tX (by decide +kernel) (show Q _ C from q))))
end
def nn{C:CH}{p q:Addr}{o:CO}(h:gQ C p o q=none):q≠p/\C q=none:=by
 have n:q≠p:=fun z=>by rw[z,zQ] at h;cases h
 exact⟨n,by rwa [vQ n] at h⟩
section
variable {W:Wd}{a:Adr}
def HS.part(S:HS)(g f b w l:Addr)(n:Str):HS:={ S with pa:=g,parts:=S.parts++S.frs.map Fr.cl,frs:=[u9 f [.str n] [b,w,l]] }
inductive R4(a:Adr)(ts:List PV)(C:CH)(Q:K1):Prop
 |mk(S:HS)(R:Rd)(t:Nat)(n:Str)(z0:ts=[.ref S.h,.ref R.r])(z1:jy a C S)(z2:RO a C S R t)(zw:R.ws.drop t=[n])(zt:t<=R.ws.length)(zn:zZ n=true)(zl:S.parts.length+S.frs.length<=100)(z4:∀pa f b w l C',n8 a R R.ws.length C S C' (S.part pa f b w l n)->Q .non C')
def MF(T:Tx W a):Ok W a 7 72 ["self","row"] (R4 a):=by
 have S:=(T.F 72 rfl).s;have xW:=ZF T 4;have qJ:=ZC (k:=4) T
 refine(T.F 72 rfl).ok (fun ts C R h=>?_) fun bf A bj s H E ak=>⟨_,(xQ (jb 2 S.nd (o9 T.pQ (T.F 63 rfl) T.xX qJ ak (cv 1)))
  (xQ (wX (lY AY As Ar (fun p s σ H x vs v us Q=>tJ p s σ H x vs v us Q) bJ (zJ T.rQ T.zV (cv 0)) (dN (hW rfl (S.c (by decide +kernel)) (S.k (L:=0) rfl rfl rfl (by decide +kernel)) (zJ T.rQ T.sQ (cv 0)) (fun _ _ _ _ _=>lZ) (fun _ _ _ _ _=>(cf (T.F 32 rfl) xW ak (dN (cv 0))))))))
  (kQ (gM T.rQ T.sQ (cv 0) (mQ (dN (mQ (qQ (cv 2) (qQ (mQ aX) (qQ (mQ aX) (dN (mQ aX)))))))))))),?_⟩
 .obtain ⟨_,_,_,_,rfl,_⟩:=h;rfl
 rintro ts C Q ⟨S,R,t,n,rfl,h,M,ao,a6,hn,hl,bc⟩;refine⟨jX M.rr.o rfl,ug.mk R t n rfl M.rr (tZ ao) hn fun C1 k1=>?_⟩;have el:=cW ao a6;have h1:=h.tk k1 M.nr;dsimp only[ig.wn];refine kJ h1.hr rfl ⟨qZ h1.pp,?_⟩;show sY _ fM _ _ _ _
 delta sY
 refine kJ h1.hr rfl ?_;dsimp only;rw[h1.pa];refine zR (d:=4) (C0:=C1) (fun C' g=>g _ _ h1.pa) (fun x t C2 Q' q g hq=>Fy.mk x t rfl (q.mono g) hq) _ (S.frs.map Fr.cl) [] C1 Gr.refl (by rw[A9,AB,BZ];exact AR h.fl (by decide)) (by rw[AB,AB]) (fun i x y q hy=>?_) fun p2 C2 bg O m2=>?_
 .rw [Ah] at q hy
  cases e:S.frs[i]? with
  |none=>rw[e] at q;cases q
  |some aj =>
   rw[e] at q hy;cases q;cases hy;have U:=Ao e;exact Fr.clo (h1.fr U) (h.ok aj U)
 have h2:=h1.gr O
 have ah:S.h≠S.pp:=by
  have:=h.nd;unfold Dj HS.cells at this
  simp only[List.map_cons,List.nodup_cons,List.mem_cons,not_or] at this
  exact this.1.1
 refine yV h2.pp m2 (by rw[BQ,AB];exact AR hl (by decide)) ?_;rw[BQ] at *
 refine⟨AM _,fun b Y=>⟨AM _,fun w ae=>⟨AM _,fun l aa=>⟨y0 4 rfl,fun f Z=>⟨y0 1 rfl,fun J ab=>?_⟩⟩⟩⟩⟩
 have hh:gQ (gQ (gQ (gQ (gQ (gQ C2 S.pp (.lst (S.parts++S.frs.map Fr.cl))) b (.lst [])) w (.lst [])) l (.lst [])) f (.lst [.str n,.ref b,.ref w,.ref l])) J (.lst [.ref f]) S.h=some (ph a S.dx S.pp S.pa S.ahead):=by
  refine Gr.new ab _ _ _ (Gr.new Z _ _ _ (Gr.new aa _ _ _ (Gr.new ae _ _ _ (Gr.new Y _ _ _ ?_))));exact(vQ ah).trans h2.hr
 refine aB hh (by show 3 < 1000;decide) (bc J f b w l _ ?_);obtain⟨a8,b2⟩:=nn Y;obtain⟨a3,w1⟩:=nn ae;obtain⟨ba,w2⟩:=nn w1;obtain⟨a0,l1⟩:=nn aa;obtain⟨az,l2⟩:=nn l1;obtain⟨a9,l3⟩:=nn l2;obtain⟨ax,a4⟩:=nn Z;obtain⟨ay,a5⟩:=nn a4;obtain⟨aw,f3⟩:=nn a5;obtain⟨nf,ag⟩:=nn f3;obtain⟨ar,p1⟩:=nn ab;obtain⟨au,bb⟩:=nn p1;obtain⟨av,p3⟩:=nn bb;obtain⟨aq,p4⟩:=nn p3;obtain⟨a7,p5⟩:=nn p4
 have D:∀{x},C2 x=none->x≠S.h:=fun q z=>by rw[z,h2.hr] at q;cases q
 have bh:∀{x},C2 x=none->C x=none:=fun q=>k1.none (kZ O q)
 have ec:(S.part J f b w l n).cells a=[(S.h,ph a S.dx S.pp J S.ahead),(S.pp,.lst (S.parts++S.frs.map Fr.cl)),(J,.lst [.ref f]),(f,.lst [.str n,.ref b,.ref w,.ref l]),(b,.lst []),(w,.lst []),(l,.lst [])]:=by
  show _::_::_::((u9 f [.str n] [b,w,l]).cells++[])=_;rw[eL]
  rfl
 have kz:Tk a R R.ws.length C C1:=by rw[<- el];exact k1
 refine⟨⟨?_,?_,fun aj U=>?_,by show 1<=100;decide,by show(S.parts++S.frs.map Fr.cl).length<=100;rw[AA,AB];exact hl⟩,?_,?_⟩
 .rw [ec]
  intro c hc
  simp only[List.mem_cons,List.not_mem_nil,or_false] at hc
  rcases hc with rfl | rfl | rfl | rfl | rfl | rfl | rfl
  .exact zQ
  .exact (vQ ah.symm).trans (Gr.new ab _ _ _ (Gr.new Z _ _ _ (Gr.new aa _ _ _ (Gr.new ae _ _ _ (Gr.new Y _ _ _ zQ)))))
  .exact (vQ (D p5)).trans zQ
  .exact (vQ (D ag)).trans ((vQ ar.symm).trans zQ)
  .exact (vQ (D b2)).trans ((vQ aq.symm).trans ((vQ aw.symm).trans ((vQ az.symm).trans ((vQ a3.symm).trans zQ))))
  .exact (vQ (D w2)).trans ((vQ av.symm).trans ((vQ ay.symm).trans ((vQ a0.symm).trans zQ)))
  .exact (vQ (D l3)).trans ((vQ au.symm).trans ((vQ ax.symm).trans zQ))
 .unfold Dj
  rw[ec]
  simp[ah,(D p5).symm,(D ag).symm,(D b2).symm,(D w2).symm,(D l3).symm,a7.symm,nf.symm,a8.symm,ba.symm,a9.symm,ar,aq,av,au,aw,ay,ax,a3.symm,az.symm,a0.symm]
 .rw [AJ.1 U]
  exact V8 (fun x q=>by rw[AJ.1 q];trivial) (by show 1+3<=10;decide)
 all_goals
  have mS:S.h∈(S.cells a).map (·.1)/\S.pp∈(S.cells a).map (·.1):=by unfold HS.cells;simp
  have ai:∀x o,C1 x=some o->x∉(S.cells a).map (·.1)->gQ (gQ (gQ (gQ (gQ (gQ (gQ C2 S.pp (.lst (S.parts++S.frs.map Fr.cl))) b (.lst [])) w (.lst [])) l (.lst [])) f (.lst [.str n,.ref b,.ref w,.ref l])) J (.lst [.ref f])) S.h (ph a S.dx S.pp J S.ahead) x=some o:=fun x o ex I=>by
   refine(vQ (show x≠S.h from fun z=>I (by rw[z];exact mS.1))).trans (Gr.new ab _ _ _ (Gr.new Z _ _ _ (Gr.new aa _ _ _ (Gr.new ae _ _ _ (Gr.new Y _ _ _ ?_)))));exact(vQ (show x≠S.pp from fun z=>I (by rw[z];exact mS.2))).trans (O _ _ ex)
  have af:∀x o,C1 x=some o->x∉(S.cells a).map (·.1)->x∉((S.part J f b w l n).cells a).map (·.1):=fun x o ex I q=>by
   have B:=O _ _ ex;rw[ec] at q
   simp only[List.map_cons,List.map_nil,List.mem_cons,List.not_mem_nil,or_false] at q
   rcases q with rfl | rfl | rfl | rfl | rfl | rfl | rfl
   .exact I mS.1
   .exact I mS.2
   .rw [p5] at B;cases B
   .rw [ag] at B;cases B
   .rw [b2] at B;cases B
   .rw [w2] at B;cases B
   .rw [l3] at B;cases B
 .have N:=kz.at M.rr
  exact⟨⟨ai _ _ N.o M.nr,ai _ _ N.w M.nw,N.n⟩,af _ _ N.o M.nr,af _ _ N.w M.nw⟩
 .intro x o ex I nr
  have e1:=k1 _ _ ((vQ nr).trans ex);exact⟨ai _ _ e1 I,af _ _ e1 I⟩
end
inductive Ld:Str->List Str->Nat->PV->Prop
 |box (n:Str) (i:Int) (hn:zZ n=true) (hb:Bd i):Ld "box" [n,jw i] 1 (.tup [.str n,.int i])
 |work (n:Str) (r:Rk) (hn:zZ n=true) (hg:Rg r):Ld "work" (n::r.ie) 2 (.tup [.str n,r.pv])
 |set (n:Str) (r:Rk) (hn:zZ n=true) (hg:Rg r):Ld "set" (n::r.ie) 3 (.tup [.str n,r.pv])
inductive o4(S:HS)(K:HS->Prop):List Str->Prop
 |part (n:Str) (hn:zZ n=true) (hf:S.frs.length<=1) (hl:S.parts.length+S.frs.length<=100) (q:∀pa f b w l,K { S.part pa f b w l n with ahead:="part" }):o4 S K ["part",n]
 |beg (w:Str) (us:List Str) (xs:List PV) (m:Nat) (hb:ul w us xs m) (hw:w ≠ "draw") (hf:1<=S.frs.length) (hl:S.frs.length < 100) (q:∀f ps,ps.length=m->K { S with frs:=S.frs++[u9 f xs ps],ahead:=w }):o4 S K (w::us)
 |draw (us:List Str) (xs:List PV) (m:Nat) (fs:List Fr) (f p:Addr) (d1:List Fd) (its:List It) (hb:ul "draw" us xs m) (zf:S.frs=fs++[⟨f,d1++[.ls p its]⟩]) (zl:its.length < 100) (q:∀q pl,K { S with frs:=fs++[⟨f,d1++[.ls p (its++[.sub q xs pl []])]⟩],ahead:="draw" }):o4 S K ("draw" :: us)
 |lf (w:Str) (us:List Str) (k:Nat) (y:PV) (ss:List Str) (fs:List Fr) (f p:Addr) (d1 d2:List Fd) (its:List It) (hr:(w,ss)∈Ep) (ha:S.ahead∈ss) (hs:Ld w us k y) (zf:S.frs=fs++[⟨f,d1++.ls p its::d2⟩]) (zk:d1.length=k) (zl:its.length < 100) (q:K { S with frs:=fs++[⟨f,d1++.ls p (its++[.lf y])::d2⟩],ahead:=w }):o4 S K (w::us)
 |wi (n:Str) (r:Rk) (fs:List Fr) (f pl q p:Addr) (d1:List Fd) (its:List It) (xs ys:List PV) (ha:S.ahead∈(["draw","with"]:List Str)) (zn:zZ n=true) (zg:Rg r) (zf:S.frs=fs++[⟨f,d1++[.ls pl (its++[.sub q xs p ys])]⟩]) (zx:xs.length=3) (zl:ys.length < 100) (z4:K { S with frs:=fs++[⟨f,d1++[.ls pl (its++[.sub q xs p (ys++[.tup [.str n,r.pv]])])]⟩],ahead:="with" }):o4 S K ("with" :: n::r.ie)
 |hd (n:Str) (i:Int) (b:Bool) (fs:List Fr) (f p:Addr) (d1 d2:List Fd) (its:List It) (ha:S.ahead∈(["plain","set","hand","change"]:List Str)) (zn:zZ n=true) (zi:i=1\/i=2\/i=3) (zf:S.frs=fs++[⟨f,d1++.ls p its::d2⟩]) (zk:d1.length=4) (zl:its.length < 100) (z4:∀q pl,K { S with frs:=fs++[⟨f,d1++.ls p (its++[.sub q [.str n,.int i,.bl b] pl []])::d2⟩],ahead:="hand" }):o4 S K ["hand",n,jw i,eW b]
 |ch (n c:Str) (r:Rk) (fs:List Fr) (f pl q p:Addr) (d1 d2:List Fd) (its:List It) (xs ys:List PV) (ha:S.ahead∈(["hand","change"]:List Str)) (zn:zZ n=true) (zc:c∈(["set","add","times"]:List Str)) (zg:Rg r) (zf:S.frs=fs++[⟨f,d1++.ls pl (its++[.sub q xs p ys])::d2⟩]) (zk:d1.length=4) (zx:xs.length=3) (zl:ys.length < 100) (z4:K { S with frs:=fs++[⟨f,d1++.ls pl (its++[.sub q xs p (ys++[.tup [.str n,.str c,r.pv]])])::d2⟩],ahead:="change" }):o4 S K ("change" :: n::c::r.ie)
 |els (fs:List Fr) (f l:Addr) (x:PV) (its:List It) (hf:S.frs=fs++[⟨f,[.lf (.str "when"),.lf x,.ls l its]⟩]) (hl:1<=fs.length) (q:∀p,K { S with frs:=fs++[⟨f,[.lf (.str "when"),.lf x,.ls l its]++[.ls p []]⟩],ahead:="else" }):o4 S K ["else"]
 |fin (fs:List Fr) (f p f':Addr) (d1:List Fd) (its:List It) (u:Str) (ds:List Fd) (hf:S.frs=(fs++[⟨f,d1++[.ls p its]⟩])++[⟨f',.lf (.str u)::ds⟩]) (hu:u ≠ "when"\/ds.length≠2) (zl:its.length < 100) (q:K { S with frs:=fs++[⟨f,d1++[.ls p (its++[.lf (Fr.cl ⟨f',.lf (.str u)::ds⟩)])]⟩],ahead:="end" }):o4 S K ["end"]
def ul.word{w:Str}{us:List Str}{xs:List PV}{m:Nat}(h:ul w us xs m):w∈(["plain","draw","give","when","each"]:List Str):=by
 cases h<;>decide +kernel
def o4.head{S:HS}{ws:List Str}{K:HS->Prop}(h:o4 S K ws):∃w us,ws=w::us/\Zc S w:=by
 cases h with
 |part n hn B L q=>exact⟨_,_,rfl,.part B⟩
 |beg w us xs m J aa B L q=>exact⟨_,_,rfl,.beg w J.word B⟩
 |draw us xs m fs f p d1 its J D I q=>exact⟨_,_,rfl,.beg _ J.word (by rw[D,AA];show 1<=_+1;omega)⟩
 |lf w us k y ss fs f p d1 d2 its Y g hs D N I q=>exact⟨_,_,rfl,.fill w ss Y g⟩
 |wi n r fs f pl q p d1 its xs ys g O zg D zx I M=>exact⟨_,_,rfl,.fill _ ["draw","with"] (by decide +kernel) g⟩
 |hd n i b fs f p d1 d2 its g O zi D N I M=>exact⟨_,_,rfl,.fill _ ["plain","set","hand","change"] (by decide +kernel) g⟩
 |ch n c r fs f pl q p d1 d2 its xs ys g O zc zg D N zx I M=>exact⟨_,_,rfl,.fill _ ["hand","change"] (by decide +kernel) g⟩
 |els fs f l x its B L q=>exact⟨_,_,rfl,.els fs f l x its B L⟩
 |fin fs f p U d1 its u ds B Z I q=>exact⟨_,_,rfl,.fin _ U u ds B (by rw[AA];show 1<=_+1;omega) Z⟩
section
variable {W:Wd}{a:Adr}
inductive RJ(a:Adr)(ts:List PV)(C:CH)(Q:K1):Prop
 |mk(S:HS)(R:Rd)(K:HS->Prop)(z0:ts=[.ref S.h,.ref R.r])(z1:jy a C S)(z2:RO a C S R 0)(zs:o4 S K R.ws)(z4:∀C' S',K S'->S'.h=S.h->jy a C' S'->(∀b o,C b=some o->b∉(S.cells a).map (·.1)->b≠R.r->C' b=some o/\b∉(S'.cells a).map (·.1))->Q .non C')
def LR(T:Tx W a):Ok W a 8 70 ["self","row"] (RJ a):=by
 have S:=(T.F 70 rfl).s;have dX:=Qj (k:=6) T;have dU:=Mh (k:=6) T;have vF:=MP (k:=0) T;have jD:=Mv (k:=2) T;have jU:=MF T;have wB:=Mx T;have qD:=Mw (k:=6) T
 refine(T.F 70 rfl).ok (fun ts C R h=>?_) fun av A a0 s H E Y=>⟨_,(xQ (jb 2 S.nd (o9 T.pQ (T.F 59 rfl) T.xX dX Y (cv 1)))
  (xQ (nQ (sX (bX (cm T.rQ (T.F 71 rfl) T.yJ dU Y (cv 0) (dN (cv 2))))) rW dQ)
  (xQ (nQ (rK (vU (gZ Y)) iM (cv 2) (oX (v:=.ref a.BEGINNING) (t:=.kt [.str "plain",.str "draw",.str "give",.str "when",.str "each"]) rfl T.nC rfl (fun H=>.kt (T.nN H) (.cons (.str _) (.cons (.str _) (.cons (.str _) (.cons (.str _) (.cons (.str _) .nil))))))) rfl) (kQ (wX (cm T.rQ (T.F 73 rfl) T.yJ vF Y (cv 0) (qQ (cv 2) (dN (cv 1)))))) (kQ (nQ (rK (jM T.eG) bM (cv 2) (oX (v:=.ref a.RIGHT_BEHIND) (t:=.ref a.RIGHT_BEHIND) rfl T.tG rfl (fun _=>.ref _)) rfl) (kQ (wX (cm T.rQ (T.F 75 rfl) T.yJ jD Y (cv 0) (qQ (cv 2) (dN (cv 1)))))) (kQ (nQ (ct2 fX qX (cv 2) wQ) (kQ (wX (cm T.rQ (T.F 72 rfl) T.yJ jU Y (cv 0) (dN (cv 1))))) (kQ (nQ (ct2 fX qX (cv 2) wQ) (kQ (wX (cap (cx (zJ T.rQ T.sQ (cv 0)) (aW iK rJ jQ)) (mQ aX)))) (kQ (wX (o9 T.rQ (T.F 74 rfl) T.yJ wB Y (cv 0)))))))))))
  (xQ (wX (o9 T.pQ (T.F 61 rfl) T.xX qD Y (cv 1)))
  (kQ (gM T.rQ T.jV (cv 0) (cv 2))))))),?_⟩
 .obtain ⟨_,_,_,rfl,_⟩:=h;rfl
 rintro ts C Q ⟨S,R,K,rfl,h,ro,hs,q⟩;obtain⟨w,us,B,ag⟩:=hs.head;refine⟨jX ro.rr.o rfl,vp.mk R 0 w rfl ro.rr (by rw[B];rfl) fun C1 k1=>?_⟩;have e1:=n8.tk h ro k1;have h1:=e1.st;have O:=e1.ro;have N:R.ws.drop 1=us:=by rw[B];rfl
 have aa:1<=R.ws.length:=by rw[B,AD];omega
 dsimp only[ig.wn];refine⟨jX h1.hr rfl,RM.mk S w rfl h1 ag (wZ (lQ ?_))⟩;dsimp only[ig.wn];refine lX (fun ao C'=>ao=[some (.ref S.h),some (.ref R.r),some (.str w)]/\∃J,J.h=S.h/\n8 a R R.ws.length C S C' J/\K { J with ahead:=w }) (fun L hL=>?_) ?_
 .have M:∀{C':CH}{J:HS},n8 a R R.ws.length C1 S C' J->J.h=S.h->K { J with ahead:=w }->L [some (.ref S.h),some (.ref R.r),some (.str w)] C':=fun {C' J}g eh kk=>hL _ _ ⟨rfl,J,eh,e1.trans g,kk⟩
  generalize D:R.ws=ws at hs
  cases hs with
  |part n hn Z hl q =>
   obtain⟨rfl,rfl⟩:=Ab (B.symm.trans D);exact cK rfl rfl (cQ (by decide +kernel) ⟨_,rfl,rfl,cQ rfl (fQ (yQ _ _) (tX (by decide +kernel) ⟨jX h1.hr rfl,R4.mk S R 1 n rfl h1 O N aa hn hl fun ae f b w l C' g=>M g rfl (q ae f b w l)⟩))⟩)
  |beg w' ak xs m hb aq Z hl q =>
   obtain⟨rfl,rfl⟩:=Ab (B.symm.trans D);have af:qA ["plain","draw","give","when","each"] (.str w)=true:=by cases hb<;>decide +kernel
   exact cK rfl rfl (tX af ⟨jX h1.hr rfl,NB.nd S R 1 w us xs m rfl h1 O N aa hb aq hl fun f ps C' ag g=>M g rfl (q f ps ag)⟩)
  |draw ak xs m fs f p d1 its hb U I q =>
   obtain⟨rfl,rfl⟩:=Ab (B.symm.trans D);exact cK rfl rfl (tX (by decide +kernel) ⟨jX h1.hr rfl,NB.dr S R 1 us xs m fs f p d1 its rfl h1 O N aa hb U I fun q0 pl C' g=>M g rfl (q q0 pl)⟩)
  |lf w' ak k y ss fs f p d1 d2 its az ha ah U zk I q =>
   obtain⟨rfl,rfl⟩:=Ab (B.symm.trans D);have af:qA ["plain","draw","give","when","each"] (.str w)=false:=by cases ah<;>decide +kernel
   refine cK rfl rfl (cQ af ⟨_,rfl,rfl,tX (by cases ah<;>rfl) ⟨jX h1.hr rfl,zp.lf S R 1 w k y fs f p d1 d2 its rfl h1 O aa ?_ U zk I fun C' g=>M g rfl q⟩⟩)
   cases ah with
   |box n i hn hb=>exact .box n i N hn hb
   |work n r hn hg=>exact .work n r N hn hg
   |set n r hn hg=>exact .set n r N hn hg
  |wi n r fs f pl q0 p d1 its xs ys ha ab zg U zx I z4 =>
   obtain⟨rfl,rfl⟩:=Ab (B.symm.trans D);exact cK rfl rfl (cQ (by decide +kernel) ⟨_,rfl,rfl,tX rfl ⟨jX h1.hr rfl,zp.wi S R 1 n r fs f pl q0 p d1 its xs ys rfl h1 O aa N ab zg U zx I fun C' g=>M g rfl z4⟩⟩)
  |hd n i b fs f p d1 d2 its ha ab zi U zk I z4 =>
   obtain⟨rfl,rfl⟩:=Ab (B.symm.trans D);exact cK rfl rfl (cQ (by decide +kernel) ⟨_,rfl,rfl,tX rfl ⟨jX h1.hr rfl,zp.hd S R 1 n i b fs f p d1 d2 its rfl h1 O aa N ab zi U zk I fun q0 pl C' g=>M g rfl (z4 q0 pl)⟩⟩)
  |ch n c r fs f pl q0 p d1 d2 its xs ys ha ab zc zg U zk zx I z4 =>
   obtain⟨rfl,rfl⟩:=Ab (B.symm.trans D);exact cK rfl rfl (cQ (by decide +kernel) ⟨_,rfl,rfl,tX rfl ⟨jX h1.hr rfl,zp.ch S R 1 n c r fs f pl q0 p d1 d2 its xs ys rfl h1 O aa N ab zc zg U zk zx I fun C' g=>M g rfl z4⟩⟩)
  |els fs f l x its Z hl q =>
   obtain⟨rfl,rfl⟩:=Ab (B.symm.trans D);have ai:R.ws.length=1:=by rw[D];rfl
   have hT:(⟨f,[.lf (.str "when"),.lf x,.ls l its]⟩:Fr)∈S.frs:=by rw[Z];simp
   have aj:=h1.tf hT;have ae:=h1.pa;rw[Z,AN] at ae;refine cK rfl rfl (cQ (by decide +kernel) ⟨_,rfl,rfl,cQ rfl (fQ (yQ _ _) (cQ (by decide +kernel) (fQ (yQ _ _) (tX (by decide +kernel) (kJ h1.hr rfl (vZ ae gK ⟨qZ aj,⟨AM _,fun p hp=>nK (Gr.new hp _ _ _ aj) (by show 3 < sizeLine;decide) ?_⟩⟩))))))⟩);have ax:=xg (C0:=C1) (ds:=[.lf (.str "when"),.lf x,.ls l its]) (Gr.new hp _) (h1.gr (Gr.new hp (.lst []))) Z zQ hp h1.ho (by show 3 < 10;decide)
   exact M (n8.ext (ai▸(⟨h1,O,fun b o e n _=>⟨e,n⟩⟩:n8 a R 1 C1 S C1 S)) ax.1 ax.2) rfl (q p)
  |fin fs f p f' d1 its u ds Z hu I q =>
   obtain⟨rfl,rfl⟩:=Ab (B.symm.trans D);have ai:R.ws.length=1:=by rw[D];rfl
   exact cK rfl rfl (cQ (by decide +kernel) ⟨_,rfl,rfl,cQ rfl (fQ (yQ _ _) (cQ (by decide +kernel) (fQ (yQ _ _) (cQ (by decide +kernel) ⟨jX h1.hr rfl,R1.mk S fs f p d1 its _ rfl h1 Z I fun C' st ex=>M (n8.ext (ai▸(⟨h1,O,fun b o e n _=>⟨e,n⟩⟩:n8 a R 1 C1 S C1 S)) st ex) rfl q⟩))))⟩)
 .rintro ao C' ⟨rfl,⟨h',aw,a5,a3,a4,ay,au⟩,eh,g,kk⟩
  dsimp only at eh;subst eh;have hh:=g.st.hr;refine⟨jX g.ro.rr.o rfl,R0.mk R rfl g.ro.rr ?_⟩;dsimp only[ig.wn];have ax:=Gn (C0:=C') Gr.refl g.st w;refine aB hh (by show 3 < 1000;decide) (q _ _ kk rfl ax.1 fun b o eb ar nr=>?_);obtain⟨e2,n2⟩:=g.ex b o eb ar nr;exact ax.2 b o e2 n2
end
def kW:List (List Str)->(HS->Prop)->HS->Prop
 |[],K,S=>K S
 |ws::rest,K,S=>o4 S (kW rest K) ws
def HS.top(S:HS)(fs:List Fr)(T:Fr)(g:Str):HS:={ S with frs:=fs++[T],ahead:=g }
theorem dF{w:Str}{ss:List Str}{k:Nat}(M:(w,ss)∈Ep)(N:w∈ss)(J:∀c:Str×Rk,zZ c.1=true->Rg c.2->Ld w (c.1::c.2.ie) k (iJ c)){S:HS}{fs:List Fr}{f p:Addr}{d1 d2:List Fd}(L:d1.length=k){rest:List (List Str)}{K:HS->Prop}:∀(cs:List (Str×Rk))(its:List It)(g:Str),g∈ss->(∀c∈cs,zZ c.1=true/\Rg c.2)->its.length+cs.length < 100->(∀B,B∈ss->kW rest K (S.top fs ⟨f,d1++.ls p (its++cs.map fun c=>.lf (iJ c))::d2⟩ B))->kW (cs.map (o5 w)++rest) K (S.top fs ⟨f,d1++.ls p its::d2⟩ g)
 |[],its,g,D,_,_,q=>by have:=q g D;simpa using this
 |c::cs,its,g,D,I,O,q=>by
  rw[AD] at O;refine o4.lf w (c.1::c.2.ie) k (iJ c) ss fs f p d1 d2 its M D (J c (I c AI).1 (I c AI).2) rfl L (by omega) ?_;refine dF M N J L cs (its++[.lf (iJ c)]) w N (fun x U=>I x (AF _ U)) (by rw[AA];show _+1+_ < _;omega) fun B h'=>?_;have:=q B h';rw[Ak] at this;rw[AG]
  exact this
theorem mR{S:HS}{fs:List Fr}{f p:Addr}{d1 d2:List Fd}(J:d1.length=1){rest:List (List Str)}{K:HS->Prop}:∀(cs:List (Str×Int))(its:List It)(g:Str),g∈(["part","box"]:List Str)->(∀c∈cs,zZ c.1=true/\Bd c.2)->its.length+cs.length < 100->(∀B,B∈(["part","box"]:List Str)->kW rest K (S.top fs ⟨f,d1++.ls p (its++cs.map fun c=>.lf (qY c))::d2⟩ B))->kW (cs.map FZ++rest) K (S.top fs ⟨f,d1++.ls p its::d2⟩ g)
 |[],its,g,D,_,_,q=>by have:=q g D;simpa using this
 |c::cs,its,g,D,I,L,q=>by
  rw[AD] at L;refine o4.lf "box" [c.1,jw c.2] 1 (qY c) ["part","box"] fs f p d1 d2 its (by decide +kernel) D (Ld.box c.1 c.2 (I c AI).1 (I c AI).2) rfl J (by omega) ?_;refine mR J cs (its++[.lf (qY c)]) "box" (by decide +kernel) (fun x M=>I x (AF _ M)) (by rw[AA];show _+1+_ < _;omega) fun B h'=>?_;have:=q B h'
  rw[Ak] at this;rw[AG];exact this
theorem eS{S:HS}{fs:List Fr}{f pl J p:Addr}{d1:List Fd}{its:List It}{xs:List PV}(B:xs.length=3){rest:List (List Str)}{K:HS->Prop}:∀(cs:List (Str×Rk))(ys:List PV)(g:Str),g∈(["draw","with"]:List Str)->(∀c∈cs,zZ c.1=true/\Rg c.2)->ys.length+cs.length < 100->(∀D,kW rest K (S.top fs ⟨f,d1++[.ls pl (its++[.sub J xs p (ys++cs.map iJ)])]⟩ D))->kW (cs.map (o5 "with")++rest) K (S.top fs ⟨f,d1++[.ls pl (its++[.sub J xs p ys])]⟩ g)
 |[],ys,g,L,_,_,q=>by have:=q g;simpa using this
 |c::cs,ys,g,L,I,M,q=>by
  rw[AD] at M;refine o4.wi c.1 c.2 fs f pl J p d1 its xs ys L (I c AI).1 (I c AI).2 rfl B (by omega) ?_;refine eS B cs (ys++[iJ c]) "with" (by decide +kernel) (fun x B=>I x (AF _ B)) (by rw[AA];show _+1+_ < _;omega) fun D=>?_;have:=q D;rw[Ak] at this;rw[AG];exact this
theorem Q4{S:HS}{fs:List Fr}{f pl J p:Addr}{d1 d2:List Fd}(M:d1.length=4){its:List It}{xs:List PV}(D:xs.length=3){rest:List (List Str)}{K:HS->Prop}:∀(cs:List (Str×Str×Rk))(ys:List PV)(g:Str),g∈(["hand","change"]:List Str)->(∀c∈cs,zZ c.1=true/\c.2.1∈(["set","add","times"]:List Str)/\Rg c.2.2)->ys.length+cs.length < 100->(∀B,B∈(["hand","change"]:List Str)->kW rest K (S.top fs ⟨f,d1++.ls pl (its++[.sub J xs p (ys++cs.map pS)])::d2⟩ B))->kW (cs.map vf++rest) K (S.top fs ⟨f,d1++.ls pl (its++[.sub J xs p ys])::d2⟩ g)
 |[],ys,g,I,_,_,q=>by have:=q g I;simpa using this
 |c::cs,ys,g,I,L,N,q=>by
  rw[AD] at N;have h0:=L c AI;refine o4.ch c.1 c.2.1 c.2.2 fs f pl J p d1 d2 its xs ys I h0.1 h0.2.1 h0.2.2 rfl M D (by omega) ?_;refine Q4 M D cs (ys++[pS c]) "change" (by decide +kernel) (fun x D=>L x (AF _ D)) (by rw[AA];show _+1+_ < _;omega) fun B h'=>?_;have:=q B h';rw[Ak] at this;rw[AG]
  exact this
theorem mC{S:HS}{fs:List Fr}{f p:Addr}{d1 d2:List Fd}(D:d1.length=4){rest:List (List Str)}{K:HS->Prop}:∀(hs:List Hd)(its:List It)(g:Str),g∈(["plain","set","hand","change"]:List Str)->(∀x∈hs,Ir x)->its.length+hs.length < 100->(∀js B,js.map It.cl=hs.map Hd.pv->js.length=hs.length->kW rest K (S.top fs ⟨f,d1++.ls p (its++js)::d2⟩ B))->kW (hs.flatMap Hd.ie++rest) K (S.top fs ⟨f,d1++.ls p its::d2⟩ g)
 |[],its,g,I,_,_,q=>by have:=q [] g rfl rfl;simpa using this
 |h::hs,its,g,I,J,O,q=>by
  rw[AD] at O;have h0:=J h AI;have hi:h.rank=1\/h.rank=2\/h.rank=3:=by have:=h0.r1;have:=h0.r3;omega
  show kW ((u5 h::h.ch.map vf)++hs.flatMap Hd.ie++rest) K _;rw[BC,BC,AG];refine o4.hd h.ev h.rank h.last fs f p d1 d2 its I h0.ev hi rfl D (by omega) fun Y pl=>?_;refine Q4 D (xs:=[.str h.ev,.int h.rank,.bl h.last]) rfl h.ch [] "hand" (by decide +kernel) h0.ch (by have:=h0.cl;show 0+_ < _;omega) fun B h'=>?_;refine mC D hs (its++[.sub Y [.str h.ev,.int h.rank,.bl h.last] pl ([]++h.ch.map pS)]) B ?_ (fun x U=>J x (AF _ U)) (by rw[AA];show _+1+_ < _;omega) fun js L M N=>?_
  .simp only[List.mem_cons,List.not_mem_nil,or_false] at h' ⊢
   rcases h' with rfl | rfl
   .exact .inr (.inr (.inl rfl))
   .exact .inr (.inr (.inr rfl))
  .rw [AG]
   refine q _ L ?_ ?_
   .show _::js.map It.cl=h.pv::hs.map Hd.pv
    rw[M]
    rfl
   .show js.length+1=hs.length+1
    rw[N]
def Rv(d:Nat):Prop:=∀l:Ln,l.gd d->∀(S:HS)(fs:List Fr)(f p:Addr)(d1:List Fd)(its:List It)(g:Str)(rest:List (List Str))(K:HS->Prop),its.length < 100->fs.length+d < 90->(∀it q,It.cl it=l.pv->kW rest K (S.top fs ⟨f,d1++[.ls p (its++[it])]⟩ q))->kW (l.rows++rest) K (S.top fs ⟨f,d1++[.ls p its]⟩ g)
def Ru(d:Nat):Prop:=∀g:List Ln,(∀l∈g,l.gd d)->∀(S:HS)(fs:List Fr)(f p:Addr)(d1:List Fd)(its:List It)(q:Str)(rest:List (List Str))(K:HS->Prop),its.length+g.length < 100->fs.length+d < 90->(∀js B,js.map It.cl=g.map Ln.pv->kW rest K (S.top fs ⟨f,d1++[.ls p (its++js)]⟩ B))->kW (Ln.ik g++rest) K (S.top fs ⟨f,d1++[.ls p its]⟩ q)
def Fe{d:Nat}(h:Rv d):Ru d:=by
 intro g
 induction g with
 |nil =>
  intro _ S fs f p d1 its B rest K _ _ q;have:=q [] B rfl;rw[AH] at this;exact this
 |cons l g U =>
  intro I S fs f p d1 its B rest K N D q;rw[AD] at N;show kW (l.rows++Ln.ik g++rest) K _;rw[AG];refine h l (I l AI) S fs f p d1 its B _ K (by omega) D fun it J e=>?_;refine U (fun x O=>I x (AF _ O)) S fs f p d1 (its++[it]) J rest K (by rw[AA];show _+1+_ < _;omega) D fun js L M=>?_;rw[AG]
  exact q _ L (by show it.cl::js.map It.cl=l.pv::g.map Ln.pv;rw[e,M])
def Fg(s:List (Str×Rk)):([]++s.map fun c=>It.lf (iJ c)).map It.cl=s.map iJ:=by
 rw[BQ,Aj]
 rfl
def M6{d:Nat}(H:Ru d):Rv (d+1):=by
 intro l B S fs f p d1 its ah rest K U ag q
 have I:∀T:Fr,1<=(fs++[T]).length/\(fs++[T]).length < 100/\(fs++[T]).length+d < 90:=fun T=>by
  rw[AA];show 1<=fs.length+1/\fs.length+1 < 100/\fs.length+1+d < 90;omega
 cases l with
 |plain k N s h M =>
  show kW ((("plain" : Str)::N::jj k)::(s.map (o5 "set")++(h.flatMap Hd.ie++(Ln.ik M++[[("end" : Str)]])))++rest) K _;rw[BC,AG,AG,AG];refine o4.beg "plain" (N::jj k) [.str "plain",pK k,.str N] 3 (.plain N k B.1.2 B.1.1) (by decide +kernel) (I _).1 (I _).2.1 fun D ps J=>?_
  obtain⟨b,c,e,rfl⟩:∃b c e,ps=[b,c,e]:=by
   rcases ps with _ | ⟨b,_ | ⟨c,_ | ⟨e,_ | ⟨_,_⟩⟩⟩⟩
   .cases J
   .cases J
   .cases J
   .exact ⟨b,c,e,rfl⟩
   .cases J
  refine dF (S:=S) (w:="set") (ss:=["plain","set"]) (k:=3) (fs:=fs++[⟨f,d1++[.ls p its]⟩]) (f:=D) (p:=b) (d1:=[.lf (.str "plain"),.lf (pK k),.lf (.str N)]) (d2:=[.ls c [],.ls e []]) (by decide +kernel) (by decide +kernel) (fun c h1 h2=>.set c.1 c.2 h1 h2) rfl s [] "plain" (by decide +kernel) B.2.1.1.1 (by have:=B.2.1.1.2;show 0+_ < _;omega) fun aa h1=>?_;refine mC (S:=S) (fs:=fs++[⟨f,d1++[.ls p its]⟩]) (f:=D) (p:=c) (d1:=[.lf (.str "plain"),.lf (pK k),.lf (.str N),.ls b ([]++s.map fun c=>It.lf (iJ c))]) (d2:=[.ls e []]) rfl h [] aa ?_ B.2.1.2.1 (by have:=B.2.1.2.2;show 0+_ < _;omega) fun js ae ej _=>?_
  .simp only[List.mem_cons,List.not_mem_nil,or_false] at h1 ⊢
   rcases h1 with rfl | rfl
   .exact .inl rfl
   .exact .inr (.inl rfl)
  refine H M B.2.2.1 S (fs++[⟨f,d1++[.ls p its]⟩]) D e [.lf (.str "plain"),.lf (pK k),.lf (.str N),.ls b ([]++s.map fun c=>It.lf (iJ c)),.ls c ([]++js)] [] ae _ K (by have:=B.2.2.2;show 0+_ < _;omega) (I _).2.2 fun L Z O=>?_;refine o4.fin fs f p D d1 its "plain" [.lf (pK k),.lf (.str N),.ls b ([]++s.map fun c=>It.lf (iJ c)),.ls c ([]++js),.ls e ([]++L)] rfl (.inl (by decide +kernel)) U (q (.lf _) "end" ?_)
  show PV.tup [.str "plain",pK k,.str N,.tup (([]++s.map fun c=>It.lf (iJ c)).map It.cl),.tup (js.map It.cl),.tup (L.map It.cl)]=.tup [.str "plain",pK k,.str N,.tup (s.map iJ),.tup (h.map Hd.pv),.tup (Ln.kj M)];rw[Fg,ej,O,Ln.iT]
 |part k n g =>
  show kW ((("draw" : Str)::n::jj k)::g.map (o5 "with")++rest) K _;rw[BC];refine o4.draw (n::jj k) [.str "part",pK k,.str n] 1 fs f p d1 its (.draw n k B.1.2 B.1.1) rfl U fun q0 pl=>?_;refine eS (S:=S) (xs:=[.str "part",pK k,.str n]) rfl g [] "draw" (by decide +kernel) B.2.1 (by have:=B.2.2;show 0+_ < _;omega) fun ab=>q _ ab ?_;show PV.tup ([.str "part",pK k,.str n]++[.tup ([]++g.map iJ)])=_
  rfl
 |give k n r M =>
  show kW ((("give" : Str)::n::(r.ie++jj k))::(Ln.ik M++[[("end" : Str)]])++rest) K _;rw[BC,AG];refine o4.beg "give" (n::(r.ie++jj k)) [.str "give",pK k,.str n,r.pv] 1 (.give n r k B.1.2 B.2.1 B.1.1) (by decide +kernel) (I _).1 (I _).2.1 fun D ps J=>?_
  obtain⟨e,rfl⟩:∃e,ps=[e]:=by
   rcases ps with _ | ⟨b,_ | ⟨_,_⟩⟩
   .cases J
   .exact ⟨b,rfl⟩
   .cases J
  refine H M B.2.2.1 S (fs++[⟨f,d1++[.ls p its]⟩]) D e [.lf (.str "give"),.lf (pK k),.lf (.str n),.lf r.pv] [] "give" _ K (by have:=B.2.2.2;show 0+_ < _;omega) (I _).2.2 fun L Z O=>?_;refine o4.fin fs f p D d1 its "give" [.lf (pK k),.lf (.str n),.lf r.pv,.ls e ([]++L)] rfl (.inl (by decide +kernel)) U (q (.lf _) "end" ?_);show PV.tup [.str "give",pK k,.str n,r.pv,.tup (L.map It.cl)]=.tup [.str "give",pK k,.str n,r.pv,.tup (Ln.kj M)]
  rw[O,Ln.iT]
 |when r l1 l2 =>
  show kW ((("when" : Str)::r.ie)::(Ln.ik l1++([("else" : Str)]::(Ln.ik l2++[[("end" : Str)]])))++rest) K _;rw[BC,AG,BC,AG];refine o4.beg "when" r.ie [.str "when",r.pv] 1 (.when r B.1) (by decide +kernel) (I _).1 (I _).2.1 fun D ps J=>?_
  obtain⟨e,rfl⟩:∃e,ps=[e]:=by
   rcases ps with _ | ⟨b,_ | ⟨_,_⟩⟩
   .cases J
   .exact ⟨b,rfl⟩
   .cases J
  refine H l1 B.2.1.1 S (fs++[⟨f,d1++[.ls p its]⟩]) D e [.lf (.str "when"),.lf r.pv] [] "when" _ K (by have:=B.2.1.2;show 0+_ < _;omega) (I _).2.2 fun Y aa af=>?_;refine o4.els (fs++[⟨f,d1++[.ls p its]⟩]) D e r.pv ([]++Y) rfl (I _).1 fun e2=>?_;refine H l2 B.2.2.1 S (fs++[⟨f,d1++[.ls p its]⟩]) D e2 [.lf (.str "when"),.lf r.pv,.ls e ([]++Y)] [] "else" _ K (by have:=B.2.2.2;show 0+_ < _;omega) (I _).2.2 fun L Z O=>?_
  refine o4.fin fs f p D d1 its "when" [.lf r.pv,.ls e ([]++Y),.ls e2 ([]++L)] rfl (.inr (by show 3≠2;decide)) U (q (.lf _) "end" ?_);show PV.tup [.str "when",r.pv,.tup (Y.map It.cl),.tup (L.map It.cl)]=.tup [.str "when",r.pv,.tup (Ln.kj l1),.tup (Ln.kj l2)];rw[af,O,Ln.iT,Ln.iT]
 |each n r M =>
  show kW ((("each" : Str)::n::r.ie)::(Ln.ik M++[[("end" : Str)]])++rest) K _;rw[BC,AG];refine o4.beg "each" (n::r.ie) [.str "each",.str n,r.pv] 1 (.each n r B.1.2 B.1.1) (by decide +kernel) (I _).1 (I _).2.1 fun D ps J=>?_
  obtain⟨e,rfl⟩:∃e,ps=[e]:=by
   rcases ps with _ | ⟨b,_ | ⟨_,_⟩⟩
   .cases J
   .exact ⟨b,rfl⟩
   .cases J
  refine H M B.2.1 S (fs++[⟨f,d1++[.ls p its]⟩]) D e [.lf (.str "each"),.lf (.str n),.lf r.pv] [] "each" _ K (by have:=B.2.2;show 0+_ < _;omega) (I _).2.2 fun L Z O=>?_;refine o4.fin fs f p D d1 its "each" [.lf (.str n),.lf r.pv,.ls e ([]++L)] rfl (.inl (by decide +kernel)) U (q (.lf _) "end" ?_);show PV.tup [.str "each",.str n,r.pv,.tup (L.map It.cl)]=.tup [.str "each",.str n,r.pv,.tup (Ln.kj M)]
  rw[O,Ln.iT]
theorem Ry:∀d,Rv d
 |0=>fun l h=>by cases l<;>exact h.elim
 |d+1=>M6 (Fe (Ry d))
def SM(d:Nat):Ru d:=Fe (Ry d)
def Lh(s:List (Str×Int)):([]++s.map fun c=>It.lf (qY c)).map It.cl=s.map qY:=by
 rw[BQ,Aj]
 rfl
def xj{x:Pt}(g:Ek x)(S:HS)(rest:List (List Str))(K:HS->Prop)(M:S.frs.length<=1)(N:S.parts.length+S.frs.length<=100)(q:∀B:HS,B.h=S.h->B.parts=S.parts++S.frs.map Fr.cl->B.frs.map Fr.cl=[x.pv]->kW rest K B):kW (x.rows++rest) K S:=by
 unfold Pt.rows;rw[BC,AG,AG];refine o4.part x.name g.nm M N fun D f b w l=>?_;refine mR (S:=S.part D f b w l x.name) (fs:=[]) (f:=f) (p:=b) (d1:=[.lf (.str x.name)]) (d2:=[.ls w [],.ls l []]) rfl x.first [] "part" (by decide +kernel) g.fs (by have:=g.fl;show 0+_ < _;omega) fun I h1=>?_;refine dF (S:=S.part D f b w l x.name) (w:="work") (ss:=["part","box","work"]) (k:=2) (fs:=[]) (f:=f) (p:=w) (d1:=[.lf (.str x.name),.ls b ([]++x.first.map fun c=>It.lf (qY c))]) (d2:=[.ls l []]) (by decide +kernel) (by decide +kernel) (fun c h1 h2=>.work c.1 c.2 h1 h2) rfl x.works [] I ?_ g.wk.1 (by have:=g.wk.2;show 0+_ < _;omega) fun J h2=>?_
 .simp only[List.mem_cons,List.not_mem_nil,or_false] at h1 ⊢
  rcases h1 with rfl | rfl
  .exact .inl rfl
  .exact .inr (.inl rfl)
 refine SM 6 x.ls g.ls (S.part D f b w l x.name) [] f l [.lf (.str x.name),.ls b ([]++x.first.map fun c=>It.lf (qY c)),.ls w ([]++x.works.map fun c=>It.lf (iJ c))] [] J rest K (by have:=g.ll;show 0+_ < _;omega) (by show 0+6 < 90;decide) fun js O L=>?_;refine q _ rfl rfl ?_;show[PV.tup [.str x.name,.tup (([]++x.first.map fun c=>It.lf (qY c)).map It.cl),.tup (([]++x.works.map fun c=>It.lf (iJ c)).map It.cl),.tup (js.map It.cl)]]=[.tup [.str x.name,.tup (x.first.map qY),.tup (x.works.map iJ),.tup (Ln.kj x.ls)]]
 rw[Lh,Fg,L,Ln.iT]
theorem ZQ:∀(B:List Pt),(∀x∈B,Ek x)->∀(S:HS)(K:HS->Prop),S.frs.length<=1->S.parts.length+S.frs.length+B.length<=100->(∀g:HS,g.h=S.h->g.parts++g.frs.map Fr.cl=S.parts++S.frs.map Fr.cl++B.map Pt.pv->g.frs.length<=1->((B=[]->g.frs.length=S.frs.length)/\(B≠[]->g.frs.length=1))->K g)->kW (nX B) K S
 |[],_,S,K,D,_,q=>q S rfl (by rw[Ce,AH]) D ⟨fun _=>rfl,fun h=>absurd rfl h⟩
 |x::B,M,S,K,D,hl,q=>by
  rw[AD] at hl;show kW (x.rows++nX B) K S;refine xj (M x AI) S _ K D (by omega) fun g Z ep J=>?_;have L:g.frs.length=1:=by have:=A3 List.length J;rw[AB] at this;exact this
  refine ZQ B (fun y hy=>M y (AF _ hy)) g K (by omega) (by rw[ep,AA,AB,L];omega) fun N O U Y I=>q N (O.trans Z) ?_ Y ⟨fun z=>(by cases z),fun _=>?_⟩
  .rw [U,J,ep,AG]
   rfl
  .cases B with
   |nil=>exact(I.1 rfl).trans L
   |cons y ys=>exact I.2 (fun z=>nomatch z)
section
variable {W:Wd}{a:Adr}
inductive Np(a:Adr)(ts:List PV)(C:CH)(Q:K1):Prop
 |mk(r dx:Addr)(ws:List Str)(l:Int)(z0:ts=[.ref r,.str (iQ ws),.int l])(z1:C r=some (.ins a.RowReader dx []))(zw:∀w∈ws,Wo w)(zn:ws≠[])(zl:ws.length<=100)(z3:∀wl C',C wl=none->wl≠r->Gr (gQ C r (ur a dx wl l 0)) C'->C' wl=some (.lst (ws.map PV.str))->Q .non C')
def GJ(T:Tx W a){k:Nat}:Ok W a (k+1) 58 ["self","row","line"] (Np a):=by
 have S:=(T.F 58 rfl).s
 refine(T.F 58 rfl).ok (fun ts C R h=>?_) fun U A Z s H E Y=>⟨_,(xQ (gM T.pQ T.dJ (cv 0) (Ws (cv 1) wQ))
  (xQ (gM T.pQ T.xP (cv 0) (cv 2))
  (kQ (gM T.pQ T.pZ (cv 0) jQ)))),?_⟩
 .obtain ⟨_,_,_,_,rfl,_⟩:=h;rfl
 rintro ts C Q ⟨r,dx,ws,l,rfl,h,J,M,L,q⟩;have es:Txt.split (iQ ws) " " = ws:=Xr M fun w h=>(J w h).nb;have O:(iQ ws).length<=1200:=by have:=vE J;omega
 refine⟨iQ ws,rfl," ",rfl,by decide +kernel,AR O (by decide),AR (Jq _) (AR (show _<=1202 by omega) (by decide)),by rw[es];exact AR L (by decide),fun I D=>?_⟩;have B:I≠r:=fun z=>by rw[z,h] at D;cases D
 refine aB ((vQ B.symm).trans h) (by show 0 < 1000;decide) ?_;refine aB zQ (by show 1 < 1000;decide) ?_;refine aB zQ (by show 2 < 1000;decide) ?_;rw[es];refine q I _ D B (fun b o e=>?_) ?_
 .by_cases g:b=r
  .subst g
   rw[zQ] at e;rw[zQ];exact e
  .rw [vQ g] at e
   have N:b≠I:=fun z=>by rw[z,D] at e;cases e
   rw[vQ g,vQ g,vQ g,vQ N];exact e
 .rw [vQ B,vQ B,vQ B,zQ]
inductive RX(a:Adr)(ts:List PV)(C:CH)(Q:K1):Prop
 |mk(r dx:Addr)(z0:ts=[.ref r])(z1:C r=some (.ins a.HouseReader dx []))(z3:∀pp pa C',C pp=none->C pa=none->pp≠pa->Gr (gQ C r (ph a dx pp pa "")) C'->C' pp=some (.lst [])->C' pa=some (.lst [])->Q .non C')
def Mt(T:Tx W a){k:Nat}:Ok W a (k+1) 68 ["self"] (RX a):=by
 have S:=(T.F 68 rfl).s
 refine(T.F 68 rfl).ok (fun ts C R h=>?_) fun Z A ab s H E aa=>⟨_,(xQ (gM T.rQ T.zV (cv 0) (mQ aX))
  (xQ (gM T.rQ T.sQ (cv 0) (mQ aX))
  (kQ (gM T.rQ T.jV (cv 0) wQ)))),?_⟩
 .obtain ⟨_,_,rfl,_⟩:=h;rfl
 rintro ts C Q ⟨r,dx,rfl,h,q⟩;refine⟨AM _,fun J B=>?_⟩;have D:J≠r:=fun z=>by rw[z,h] at B;cases B
 refine aB ((vQ D.symm).trans h) (by show 0 < 1000;decide) ⟨AM _,fun N O=>?_⟩;obtain⟨I,h2⟩:=nn O;obtain⟨M,L⟩:=nn h2;refine aB ((vQ I.symm).trans zQ) (by show 1 < 1000;decide) ?_;refine aB zQ (by show 2 < 1000;decide) ?_;refine q J N _ B L M.symm (fun b o e=>?_) ?_ ?_
 .by_cases g:b=r
  .subst g
   rw[zQ] at e;rw[zQ];exact e
  .rw [vQ g] at e
   have U:b≠J:=fun z=>by rw[z,B] at e;cases e
   have Y:b≠N:=fun z=>by rw[z,L] at e;cases e
   rw[vQ g,vQ g,vQ Y,vQ g,vQ U];exact e
 .rw [vQ D,vQ D,vQ M.symm,vQ D,zQ]
 .rw [vQ I,vQ I,zQ]
inductive RW(a:Adr)(ts:List PV)(C:CH)(Q:K1):Prop
 |mk(S:HS)(xs:List PV)(z0:ts=[.ref S.h])(z1:jy a C S)(z2:S.frs.length=1)(z3:S.parts++S.frs.map Fr.cl=xs)(z4:∀C',Gr C C'->Q (.tup xs) C')
def Ms(T:Tx W a):Ok W a 7 69 ["self"] (RW a):=by
 have S:=(T.F 69 rfl).s;have U:=ZF T 4
 refine(T.F 69 rfl).ok (fun ts C R h=>?_) fun Y A Z s H E O=>⟨_,(xQ (nQ (ct2 dD aU (kh T.rZ (zJ T.rQ T.sQ (cv 0))) jQ) (kQ (uQ eJ)) dQ)
  (kQ (uQ (t6 T.hZ (aQ oQ tQ (zJ T.rQ T.zV (cv 0)) (mQ (dN (cf (T.F 32 rfl) U O (dN (cx (zJ T.rQ T.sQ (cv 0)) jQ)))))))))),?_⟩
 .obtain ⟨_,_,rfl,_⟩:=h;rfl
 rintro ts C Q ⟨S,xs,rfl,h,D,ex,q⟩
 obtain⟨g,B⟩:∃g,S.frs=[g]:=by
  rcases L:S.frs with _ | ⟨g,_ | ⟨_,_⟩⟩
  .rw [L] at D;cases D
  .exact ⟨g,rfl⟩
  .rw [L] at D;cases D
 have I:=h.pa;rw[B] at I;refine kJ h.hr rfl (eK I (fQ (zX _ _) (cQ rfl (lQ (kJ h.hr rfl (kJ h.hr rfl (vZ I rfl (Fy.mk (.ref g.f) g.cl rfl (Fr.clo (h.fr (by rw[B];simp)) (h.ok g (by rw[B];simp))) fun C1 J=>⟨y0 1 rfl,fun p1 M=>rR (Gr.new M _ _ _ (J _ _ h.pp)) zQ (by have:=h.pl;exact AR (show S.parts.length+1<=101 by omega) (by decide)) fun p2 N=>xU zQ ?_⟩))))))))
 rw[show S.parts++[g.cl]=xs from by rw[<- ex,B];rfl];exact q _ (J.trans ((Gr.new M _).trans (Gr.new N _)))
end
structure Xc(ws:List Str):Prop where
 ne:ws≠[]
 wo:∀w∈ws,Wo w
 l:ws.length<=100
section
variable {W:Wd}{a:Adr}
inductive Nq(ts:List PV)(C:CH)(Q:K1):Prop
 |mk(pr:Addr)(pts:List Pt)(z0:ts=[.ref pr])(z1:C pr=some (.lst (jq (nX pts))))(zo:Km pts)(zg:∀x∈pts,Ek x)(zr:∀ws∈nX pts,Xc ws)(z3:∀C',Gr C C'->Q (.tup (pts.map Pt.pv)) C')
def LQ(T:Tx W a):Ok W a 13 30 ["rows"] Nq:=by
 have S:=(T.F 30 rfl).s;have yB:=Mt (k:=10) T;have rM:=GJ (k:=10) T;have zD:=(LR T).mono (show 8<=12 by decide);have kF:=(Ms T).mono (show 7<=12 by decide);have Zf:=Mr (k:=0) T
 refine(T.F 30 rfl).ok (fun ts C R h=>?_) fun bc A bo s H E Y=>⟨_,(xQ (jb 1 S.nd (Wv T.wC yB Y rfl T.yJ (T.F 68 rfl).b))
  (xQ (Dh 0 2 3 PassesOwn.never rfl S.nd rfl T.fI (cv 0) (kQ (wX (cm T.rQ (T.F 70 rfl) T.yJ zD Y (cv 1) (dN (Dt T.lE rM Y rfl T.xX (T.F 58 rfl).b Qh (qQ (cv 3) (dN (cv 2)))))))))
  (xQ (jb 4 S.nd (o9 T.rQ (T.F 69 rfl) T.yJ kF Y (cv 1)))
  (xQ (nQ (iz (jl (ct2 zM dG (cv 4) eJ) (je (sX (bX (cf (T.F 18 rfl) Zf Y (dN (cv 4)))))))) rW dQ)
  (kQ (uQ (cv 4))))))),?_⟩
 .obtain ⟨_,_,rfl,_⟩:=h;rfl
 rintro ts C Q ⟨ai,q,rfl,m,ho,hg,ay,a7⟩;refine fun h0 af ao bf bh=>RX.mk h0 af rfl zQ fun ah ag C1 ax aw a4 aj a3 a0=>⟨rfl,?_⟩;obtain⟨a6,au⟩:=nn ax;obtain⟨a5,ar⟩:=nn aw
 have av:Gr C C1:=fun b o e=>by
  have Z:b≠h0:=rX ao e;exact aj _ _ ((vQ Z).trans ((vQ Z).trans e))
 have a8:jy a C1 ⟨h0,af,ah,ag,[],[],""⟩:=by
  refine⟨fun c hc=>?_,?_,(fun T hT=>by cases hT),AM _,AM _⟩
  .simp only[HS.cells,List.flatMap_nil,List.map_nil,List.mem_cons,List.not_mem_nil,or_false] at hc
   rcases hc with rfl | rfl | rfl
   .exact aj _ _ zQ
   .exact a3
   .exact a0
  .unfold Dj HS.cells
   simp[a6.symm,a5.symm,a4]
 have st:kW (nX q) (fun S=>S.h=h0/\S.parts++S.frs.map Fr.cl=q.map Pt.pv/\S.frs.length=1) ⟨h0,af,ah,ag,[],[],""⟩:=by
  refine ZQ q hg _ _ (AM _) (by have:=ho.n6;show 0+0+_<=_;omega) fun S' e1 e2 e3 e4=>⟨e1,e2,e4.2 fun z=>?_⟩;have:=ho.n1;rw[z] at this;cases this
 dsimp only[ig.wn];refine lX (fun aq C'=>∃(S:HS)(J M:Option PV),aq=[some (.ref ai),some (.ref h0),J,M,none]/\jy a C' S/\(S.h=h0/\S.parts++S.frs.map Fr.cl=q.map Pt.pv/\S.frs.length=1)/\Gr C C') (fun L hL=>?_) ?_
 .refine ⟨ai,jq (nX q),fun i ρ C'=>∃(S:HS)(J M:Option PV),ρ=[some (.ref ai),some (.ref h0),J,M,none]/\jy a C' S/\S.h=h0/\kW ((nX q).drop i) (fun S=>S.h=h0/\S.parts++S.frs.map Fr.cl=q.map Pt.pv/\S.frs.length=1) S/\Gr C C'/\∀b o,C b=some o->b∉(S.cells a).map (·.1),rfl,?_,⟨_,_,_,rfl,a8,rfl,st,av,fun b o e hb=>?_⟩,?_,?_⟩
  .rintro i ρ C' ⟨S,J,M,rfl,_,_,_,g,_⟩
   exact g _ _ m
  .have ak:b∈[h0,ah,ag]:=hb
   simp only[List.mem_cons,List.not_mem_nil,or_false] at ak
   rcases ak with rfl | rfl | rfl
   .rw [ao] at e;cases e
   .rw [au] at e;cases e
   .rw [ar] at e;cases e
  .rintro i x ρ C2 B ⟨S,J,M,rfl,D,O,N,I,ae⟩
   unfold jq at B;rw[Ah] at B
   cases U:(nX q)[i]? with
   |none=>rw[U] at B;cases B
   |some ws =>
    rw[U] at B;cases B;have hi:i < (nX q).length:=(AZ.1 U).1
    have ed:(nX q).drop i=ws::(nX q).drop (i+1):=by
     rw[A6 hi]
     congr 1
     exact(AZ.1 U).2
    rw[ed] at N;have ab:=ay ws (Ao U);subst O;refine⟨jX D.hr rfl,fun x dx B bg bj=>Np.mk x dx ws i rfl zQ ab.wo ab.ne ab.l fun ba C3 az bl aa mw=>⟨rfl,?_⟩⟩
    have gx:Gr C2 C3:=fun b o e=>by
     have Z:b≠x:=rX B e;exact aa _ _ ((vQ Z).trans ((vQ Z).trans e))
    obtain⟨_,bb⟩:=nn az;refine RJ.mk S ⟨x,dx,ba,ws,i⟩ _ rfl (D.gr gx) ⟨⟨aa _ _ zQ,mw,AR ab.l (by decide)⟩,D.ho.fresh B,D.ho.fresh bb⟩ N fun C4 S' ks O a9 ex=>?_;refine⟨S',_,_,by rw[<- O];rfl,a9,O,ks,fun b o e=>?_,fun b o e=>?_⟩
    .exact (ex b o (gx _ _ (I _ _ e)) (ae b o e) (rX B (I _ _ e))).1
    .exact (ex b o (gx _ _ (I _ _ e)) (ae b o e) (rX B (I _ _ e))).2
  .rintro ρ C2 ⟨S,J,M,rfl,D,O,N,I,ae⟩
   unfold jq at N;rw[AB,CZ] at N;exact hL _ _ ⟨S,J,M,rfl,D,N,I⟩
 .rintro aq C2 ⟨S,J,M,rfl,D,⟨rfl,e2,e3⟩,I⟩
  refine⟨jX D.hr rfl,RW.mk S (q.map Pt.pv) rfl D e3 e2 fun C3 aa=>?_⟩;exact RV.mk q rfl ho fun C4 g4=>wZ (lQ (a7 C4 (I.trans (aa.trans g4))))
end
def bB{w:Str}{us:List Str}(q:Wo w)(g:∀u∈us,Wo u)(l:us.length<=99):Xc (w::us) :=
 ⟨List.cons_ne_nil _ _,fun u h=>(AX.1 h).elim (fun e=>e▸q) (g u),by rw[AD];omega⟩
def yL{w:Str}{us:List Str}(q:Wo w)(g:∀u∈us,Wo u):∀u∈w::us,Wo u:=fun u h=>(AX.1 h).elim (fun e=>e▸q) (g u)
def Rg.wo{r:Rk}(h:Rg r):∀w∈r.ie,Wo w:=Rk.wo h.g
def lw{w:Str}(h:w∈(["turn","take","down","box","add","times","less","pick","num","-","plain","draw","give","when","each","set","with","work","hand","change","last","on","part","end","else","1","2","3"]:List Str):=by decide +kernel):Wo w:=yZ h
def K5{w:Str}(q:Wo w){ps:List (Str×Rk)}(h:Io ps):∀ws∈ps.map (o5 w),Xc ws:=fun ws B=>by
 obtain⟨c,g,rfl⟩:=AS.1 B;have:=h.1 c g;exact bB q (yL (gJ this.1) this.2.wo) (by rw[AD];have:=this.2.l;omega)
def Nm{x:Hd}(h:Ir x):∀ws∈x.ie,Xc ws:=fun ws g=>by
 rcases AX.1 g with rfl | g
 .exact bB lw (yL (gJ h.ev) (yL (kM ⟨by have:=h.r1;omega,by have:=h.r3;omega⟩) (yL (sE _) (fun u B=>by cases B)))) (by show 3<=99;decide)
 .obtain ⟨c,q,rfl⟩:=AS.1 g
  have:=h.ch c q;exact bB lw (yL (gJ this.1) (yL (Wq this.2.1) this.2.2.wo)) (by rw[AD,AD];have:=this.2.2.l;omega)
structure Fx(rows:List (List Str))(n:Nat):Prop where
 l:rows.length<=26 * n
 r:∀ws∈rows,Xc ws
def uU{q:List Ln}(h:∀l∈q,Fx l.rows l.tw):Fx (Ln.ik q) (Ln.jk q):=by
 induction q with
 |nil=>exact⟨AO _,fun ws g=>by cases g⟩
 |cons l q D =>
  have h1:=h l AI;have h2:=D fun x B=>h x (AF _ B);refine⟨?_,fun ws g=>?_⟩
  .show (l.rows++Ln.ik q).length<=26 * (l.tw+Ln.jk q)
   rw[AA];have:=h1.l;have:=h2.l;omega
  .rcases AQ.1 g with g | g
   .exact h1.r ws g
   .exact h2.r ws g
def bA:∀ws∈[[("end" : Str)]],Xc ws:=fun ws h=>by
 rw[AJ.1 h];exact bB lw (fun u g=>by cases g) (AM _)
theorem Ln.fx:∀d(l:Ln),l.gd d->Fx l.rows l.tw
 |0,l,h=>by cases l<;>exact h.elim
 |d+1,l,h=>by
  cases l with
  |plain k aa s hs D =>
   have i:=uU fun x B=>Ln.fx d x (h.2.2.1 x B);have hh:(hs.flatMap Hd.ie).length<=5 * hs.length:=yA fun x B=>VX (h.2.1.2.1 x B);have h1:=h.2.1.2.2;have h2:=h.2.1.1.2;have M:=i.l;have I:=h.1.1.wo;refine⟨?_,fun ws J=>?_⟩
   .show (((("plain" : Str))::aa::jj k)::(s.map (o5 "set")++(hs.flatMap Hd.ie++(Ln.ik D++[[("end" : Str)]])))).length<=26 * (1+Ln.jk D)
    simp only[List.length_cons,List.length_append,List.length_map,List.length_nil]
    omega
   .have L:ws∈(((("plain" : Str))::aa::jj k)::(s.map (o5 "set")++(hs.flatMap Hd.ie++(Ln.ik D++[[("end" : Str)]])))):=J
    rcases AX.1 L with rfl | q
    .exact bB lw (yL (gJ h.1.2) I.1) (by rw[AD];have:=I.2;omega)
    rcases AQ.1 q with q | q
    .exact K5 lw h.2.1.1 ws q
    rcases AQ.1 q with q | q
    .obtain ⟨x,B,q⟩:=Bc.1 q
     exact Nm (h.2.1.2.1 x B) ws q
    rcases AQ.1 q with q | q
    .exact i.r ws q
    .exact bA ws q
  |part k n g =>
   have h2:=h.2.2;have I:=h.1.1.wo;refine⟨?_,fun ws J=>?_⟩
   .show (((("draw" : Str))::n::jj k)::g.map (o5 "with")).length<=26 * 1
    rw[AD,AB];omega
   .have L:ws∈(((("draw" : Str))::n::jj k)::g.map (o5 "with")):=J
    rcases AX.1 L with rfl | q
    .exact bB lw (yL (gJ h.1.2) I.1) (by rw[AD];have:=I.2;omega)
    .exact K5 lw h.2 ws q
  |give k n r D =>
   have i:=uU fun x B=>Ln.fx d x (h.2.2.1 x B);have M:=i.l;have I:=h.1.1.wo;have U:=h.2.1.l;refine⟨?_,fun ws J=>?_⟩
   .show (((("give" : Str))::n::(r.ie++jj k))::(Ln.ik D++[[("end" : Str)]])).length<=26 * (1+Ln.jk D)
    simp only[List.length_cons,List.length_append,List.length_nil]
    omega
   .have L:ws∈(((("give" : Str))::n::(r.ie++jj k))::(Ln.ik D++[[("end" : Str)]])):=J
    rcases AX.1 L with rfl | q
    .exact bB lw (yL (gJ h.1.2) fun u N=>(AQ.1 N).elim (h.2.1.wo u) (I.1 u)) (by rw[AD,AA];have:=I.2;omega)
    rcases AQ.1 q with q | q
    .exact i.r ws q
    .exact bA ws q
  |when r O S =>
   have Y:=uU fun x B=>Ln.fx d x (h.2.1.1 x B);have Z:=uU fun x B=>Ln.fx d x (h.2.2.1 x B);have M:=Y.l;have I:=Z.l;have U:=h.1.l;refine⟨?_,fun ws J=>?_⟩
   .show (((("when" : Str))::r.ie)::(Ln.ik O++([("else" : Str)]::(Ln.ik S++[[("end" : Str)]])))).length<=26 * (1+(Ln.jk O+Ln.jk S))
    simp only[List.length_cons,List.length_append,List.length_nil]
    omega
   .have L:ws∈(((("when" : Str))::r.ie)::(Ln.ik O++([("else" : Str)]::(Ln.ik S++[[("end" : Str)]])))):=J
    rcases AX.1 L with rfl | q
    .exact bB lw h.1.wo (by omega)
    rcases AQ.1 q with q | q
    .exact Y.r ws q
    rcases AX.1 q with rfl | q
    .exact bB lw (fun u N=>by cases N) (AM _)
    rcases AQ.1 q with q | q
    .exact Z.r ws q
    .exact bA ws q
  |each n r D =>
   have i:=uU fun x B=>Ln.fx d x (h.2.1 x B);have M:=i.l;have U:=h.1.1.l;refine⟨?_,fun ws J=>?_⟩
   .show (((("each" : Str))::n::r.ie)::(Ln.ik D++[[("end" : Str)]])).length<=26 * (1+Ln.jk D)
    simp only[List.length_cons,List.length_append,List.length_nil]
    omega
   .have L:ws∈(((("each" : Str))::n::r.ie)::(Ln.ik D++[[("end" : Str)]])):=J
    rcases AX.1 L with rfl | q
    .exact bB lw (yL (gJ h.1.2) h.1.1.wo) (by rw[AD];omega)
    rcases AQ.1 q with q | q
    .exact i.r ws q
    .exact bA ws q
def Ha{bs τ:List Str}(N:qz bs τ){k:Option Rk}(h:Qt bs τ k):rm k:=fun r e=>by subst e;exact bT N h (by decide)
def Gv{bs τ:List Str}(N:qz bs τ){d:Nat}{ps:List (Str×Rk)}(h:wI bs τ d ps)(q:d<=2)(l:ps.length<=4):Io ps:=⟨fun c g=>⟨(h.1 c g).2,bT N (h.1 c g).1 q⟩,l⟩
def Py{bs τ:List Str}(N:qz bs τ){x:Hd}(h:x.ok bs τ):Ir x:=⟨h.2.2.1,h.2.2.2.1,h.2.2.2.2,fun c g=>⟨N.b _ (h.2.1 c g).2.1,(h.2.1 c g).2.2,bT N (h.2.1 c g).1 (by decide)⟩,h.1⟩
theorem JC{bs I:List Str}(B:∀s∈I,zZ s=true):∀d{τ:List Str}(N:qz bs τ)(l:Ln),jt bs I d τ l->l.gd d
 |0,_,_,l,h=>by cases l<;>exact h.elim
 |d+1,τ,N,l,h=>by
  cases l with
  |plain k M s hs D=>exact⟨⟨Ha N h.1,h.2.2.2.2.2⟩,⟨Gv N h.2.1.1 (AO _) h.2.1.2,fun x q=>Py N (h.2.2.1.1 x q),h.2.2.1.2.1⟩,fun x q=>JC B d N x (h.2.2.2.1 x q),h.2.2.2.2.1⟩
  |part k n g=>exact⟨⟨Ha N h.1,B n h.2.1⟩,Gv N h.2.2.1 (by decide) h.2.2.2⟩
  |give k n r D=>exact⟨⟨Ha N h.1,Zb n h.2.1⟩,bT N h.2.2.1 (by decide),fun x q=>JC B d N x (h.2.2.2.1 x q),h.2.2.2.2⟩
  |when r J L=>exact⟨bT N h.1 (by decide),⟨fun x q=>JC B d N x (h.2.1.1 x q),h.2.1.2⟩,fun x q=>JC B d N x (h.2.2.1 x q),h.2.2.2⟩
  |each n r D=>exact⟨⟨bT N h.1.1 (by decide),h.1.2.2⟩,fun x q=>JC B d (τ:=n::τ) ⟨N.b,fun s hs=>(AX.1 hs).elim (fun e=>e▸h.1.2.2) (N.t s)⟩ x (h.2.1 x q),h.2.2⟩
def Pr{q:List Str}{B:Nat}{x:Pt}(J:∀s∈q,zZ s=true)(I:zZ x.name=true)(h:Im q B x):Ek x:=by
 have N:qz (x.first.map (·.1)) []:=⟨h.O8,fun s hs=>by cases hs⟩;exact⟨I,fun c g=>⟨h.ok.bn c g,h.ok.fb c g⟩,h.ok.fl,Gv N h.ok.wk (by decide) h.ok.wl,fun l D=>JC J 6 N l (h.ok.ls l D),h.ll,h.tw⟩
def Hu{q:List Pt}(h:Km q):∀x∈q,Ek x:=fun x g=>by
 obtain⟨k,B⟩:=List.getElem?_of_mem g;exact Pr (fun s hs=>h.nn s (List.mem_of_mem_drop hs)) (h.nn _ (AS.2 ⟨x,g,rfl⟩)) (h.ok k x B)
def Lq{x:Pt}(h:Ek x):x.rows.length<=165/\∀ws∈x.rows,Xc ws:=by
 have i:=uU fun l D=>Ln.fx 6 l (h.ls l D);have h1:=i.l;have h2:=h.fl;have J:=h.wk.2;have L:=h.tw;refine⟨?_,fun ws I=>?_⟩
 .unfold Pt.rows
  simp only[List.length_cons,List.length_append,List.length_map]
  omega
 .rcases AX.1 I with rfl | g
  .exact bB lw (yL (gJ h.nm) (fun u q=>by cases q)) (by show 1<=99;decide)
  rcases AQ.1 g with g | g
  .obtain ⟨c,B,rfl⟩:=AS.1 g
   have:=h.fs c B;exact bB lw (yL (gJ this.1) (yL (kM this.2) (fun u q=>by cases q))) (by show 2<=99;decide)
  rcases AQ.1 g with g | g
  .exact K5 lw h.wk ws g
  .exact i.r ws g
def VT{g:List Pt}(h:∀x∈g,Ek x):(nX g).length<=165 * g.length/\∀ws∈nX g,Xc ws:=by
 induction g with
 |nil=>exact⟨AO _,fun ws q=>by cases q⟩
 |cons x g D =>
  have h1:=Lq (h x AI);have h2:=D fun y B=>h y (AF _ B);refine⟨?_,fun ws q=>?_⟩
  .show (x.rows++nX g).length<=165 * (g.length+1)
   rw[AA];omega
  .rcases AQ.1 q with q | q
   .exact h1.2 ws q
   .exact h2.2 ws q
def Ht{g:List Pt}(h:Km g):(nX g).length<=990:=by
 have:=(VT (Hu h)).1;have:=h.n6;omega
def M7:Ty->Str
 |.non=>"none"
 |.bl=>"truth"
 |.int=>"whole"
 |.str=>"text"
 |.tup=>"tuple"
 |.lst=>"list"
 |.dct=>"dict"
def Gf{C C':CH}{x:PV}{n:Ty}(h:tyP C x=some n)(g:Gr C C'):tyP C' x=some n:=by
 cases x with
 |ref a =>
  delta tyP at h ⊢
  dsimp only at h ⊢
  split at h
  .next e=>rwa [g a _ e]
  .next e=>rwa [g a _ e]
  .cases h
 |_=>exact h
def Gq(h:tyP C (.ref a)=some n):n=.lst\/n=.dct:=by
 delta tyP at h
 dsimp only at h
 split at h<;>cases h
 .exact .inl rfl
 .exact .inr rfl
def yx(h:tyP C x=some n):oU x=decide (n=.non):=by
 cases x with
 |ref a=>rcases Gq h with rfl | rfl<;>rfl
 |non=>cases h;rfl
 |bl b=>cases h;rfl
 |int i=>cases h;rfl
 |str z=>cases h;rfl
 |tup ts=>cases h;rfl
 |_=>cases h
def sc:PV->Bool
 |.non=>true
 |.bl _=>true
 |.int _=>true
 |.str _=>true
 |_=>false
section
variable {W:Wd}{a:Adr}
inductive mG(ts:List PV)(C:CH)(Q:K1):Prop
 |mk(x:PV)(n:Ty)(z0:ts=[x])(z1:tyP C x=some n)(z2:∀C',Gr C C'->Q (.str (M7 n)) C')
def pY{bs:List Bool}(m:C p=some (.lst (bs.map PV.bl)))(h1:bs[j]?=some true)(h2:∀m,m < j->bs[m]?=some false)(q:Q (.int (j:Nat)) C):sH (.ref p) [.bl true] C Q:=by
 delta sH
 dsimp only;exact m▸⟨bs,j,rfl,h1,h2,q⟩
def Vv(T:Tx W a):Ok W a 1 54 ["_law_thing"] mG:=by
 have S:=(T.F 54 rfl).s
 refine(T.F 54 rfl).ok (fun ts C R h=>?_) fun aa A ae s H E ab=>⟨_,(xQ (jb 1 S.nd (mQ (qQ (jJ zM dG (cv 0) eJ (oJ _)) (qQ (gX uX iZ rfl T.kX rfl (qQ (cv 0) (dN (aK rfl T.Xl rfl)))) (qQ (gX uX iZ rfl T.kX rfl (qQ (cv 0) (dN (aK rfl T.wF rfl)))) (dN (gX uX iZ rfl T.kX rfl (qQ (cv 0) (dN (aK rfl T.lB rfl))))))))))
  (xQ (jb 1 S.nd (aQ oQ tQ (cv 1) (mQ (qQ (gX uX iZ rfl T.kX rfl (qQ (cv 0) (dN (aK rfl T.hZ rfl)))) (qQ (gX uX iZ rfl T.kX rfl (qQ (cv 0) (dN (aK rfl T.wL rfl)))) (dN fZ))))))
  (kQ (uQ (cx (mQ (qQ wQ (qQ wQ (qQ wQ (qQ wQ (qQ wQ (qQ wQ (dN wQ)))))))) (lY AY PySem.F.slot_list_index PySem.F.type_list_index Jx X3 (cv 1) (dN fZ))))))),?_⟩
 .obtain ⟨x,n,rfl,_⟩:=h;rfl
 rintro ts C R ⟨x,n,rfl,D,q⟩;refine mX ?_;refine iX rfl D ?_;refine iX rfl D ?_;refine iX rfl D ?_;refine⟨y0 4 rfl,fun p1 h1=>?_⟩;have J:Gr C (gQ C p1 (.lst [.bl (id (oU x)),.bl (fJ n .bl),.bl (fJ n .int),.bl (fJ n .str)])):=Gr.new h1 _;have O:gQ C p1 (.lst [.bl (id (oU x)),.bl (fJ n .bl),.bl (fJ n .int),.bl (fJ n .str)]) p1=some (.lst [.bl (id (oU x)),.bl (fJ n .bl),.bl (fJ n .int),.bl (fJ n .str)]):=zQ
 generalize gQ C p1 (.lst [.bl (id (oU x)),.bl (fJ n .bl),.bl (fJ n .int),.bl (fJ n .str)])=C1 at J O ⊢;have N:=Gf D J;refine mX ?_;refine iX rfl N ?_;refine iX rfl N ?_;refine⟨y0 3 rfl,fun p2 h2=>?_⟩;refine rR (Gr.new h2 _ _ _ O) zQ (by show 4+3<=sizeLine;decide) fun I Y=>?_;have L:Gr C1 (gQ (gQ C1 p2 (.lst [.bl (fJ n .tup),.bl (fJ n .lst),.bl true])) I (.lst ([.bl (id (oU x)),.bl (fJ n .bl),.bl (fJ n .int),.bl (fJ n .str)]++[.bl (fJ n .tup),.bl (fJ n .lst),.bl true]))):=(Gr.new h2 _).trans (Gr.new Y _)
 have U:gQ (gQ C1 p2 (.lst [.bl (fJ n .tup),.bl (fJ n .lst),.bl true])) I (.lst ([.bl (id (oU x)),.bl (fJ n .bl),.bl (fJ n .int),.bl (fJ n .str)]++[.bl (fJ n .tup),.bl (fJ n .lst),.bl true])) I=some (.lst (([oU x,fJ n .bl,fJ n .int,fJ n .str,fJ n .tup,fJ n .lst,true]:List Bool).map PV.bl)):=zQ;generalize gQ (gQ C1 p2 (.lst [.bl (fJ n .tup),.bl (fJ n .lst),.bl true])) I (.lst ([.bl (id (oU x)),.bl (fJ n .bl),.bl (fJ n .int),.bl (fJ n .str)]++[.bl (fJ n .tup),.bl (fJ n .lst),.bl true]))=Z at L U ⊢
 refine⟨by decide,fun p4 M=>?_⟩;have g:=Gr.new M (.lst [.str "none",.str "truth",.str "whole",.str "text",.str "tuple",.str "list",.str "dict"]) _ _ U;rw[yx D] at g;have B:=q _ ((J.trans L).trans (Gr.new M (.lst [.str "none",.str "truth",.str "whole",.str "text",.str "tuple",.str "list",.str "dict"])));have i1:∀(j:Nat)(bs:List Bool),bs[j]?=some true->(∀m,m < j->bs[m]?=some false)->True:=fun _ _ _ _=>trivial
 refine⟨qZ g,?_⟩
 cases n with
 |non=>exact pY g rfl (fun m h=>absurd h (Nat.not_lt_zero _)) (vZ zQ rfl B)
 |bl=>exact pY g (j:=1) rfl (by decide) (vZ zQ rfl B)
 |int=>exact pY g (j:=2) rfl (by decide) (vZ zQ rfl B)
 |str=>exact pY g (j:=3) rfl (by decide) (vZ zQ rfl B)
 |tup=>exact pY g (j:=4) rfl (by decide) (vZ zQ rfl B)
 |lst=>exact pY g (j:=5) rfl (by decide) (vZ zQ rfl B)
 |dct=>exact pY g (j:=6) rfl (by decide) (vZ zQ rfl B)
end
def Sc:PV->Prop
 |.non=>True
 |.bl _=>True
 |.int _=>True
 |.str _=>True
 |_=>False
def Same(C:CH):Nat->PV->PV->Prop
 |0,_,_=>False
 |d+1,x,y=>(x=y/\Sc x)\/(∃xs,x=.tup xs/\y=.tup xs/\xs.length<=1000/\∀t∈xs,Same C d t t)\/∃p q xs,x=.ref p/\y=.ref q/\C p=some (.lst xs)/\C q=some (.lst xs)/\xs.length<=1000/\∀t∈xs,Same C d t t
theorem Same.gr{C C':CH}(g:Gr C C'):∀{d:Nat}{x y:PV},Same C d x y->Same C' d x y
 |0,_,_,h=>h
 |_+1,_,_,.inl h=>.inl h
 |_+1,_,_,.inr (.inl ⟨xs,B,D,l,h⟩)=>.inr (.inl ⟨xs,B,D,l,fun t I=>Same.gr g (h t I)⟩)
 |_+1,_,_,.inr (.inr ⟨p,q,xs,B,D,J,L,l,h⟩)=>.inr (.inr ⟨p,q,xs,B,D,g _ _ J,g _ _ L,l,fun t I=>Same.gr g (h t I)⟩)
def QD{n:Str}{ss:List Str}{y:PV}{C:CH}{Q:K1}(hs:Xs C y=some (ss.map PV.str))(h:n∉ss)(q:Q (.bl false) C):Q8 false (.str n) y C Q:=by
 refine ZO hs rfl (iL ss) ?_
 have:inV (.str n) (ss.map V.str)=false:=by
  unfold inV;rw[List.any_eq_false];intro y g;obtain⟨z,hz,rfl⟩:=AS.1 g;intro e;have:z=n:=by simpa [eqV] using e
  exact h (this▸hz)
 rw[this];exact q
theorem QN:∀bs:List Bool,eU (bs.map PV.bl)=some (bs.map V.bl)
 |[]=>rfl
 |b::bs=>by
  show(match uO (.bl b),eU (bs.map PV.bl) with | some v,some vs=>some (v::vs) | _,_=>none)=_;rw[QN bs]
  rfl
def Vz{C:CH}{p:Addr}{xs:List PV}{Q:K1}(m:C p=some (.lst ((xs.map fun _=>true).map PV.bl)))(q:Q (.bl true) C):Q8 true (.bl false) (.ref p) C Q:=by
 refine ZO (ts:=(xs.map fun _=>true).map PV.bl) (w:=.bl false) (vs:=(xs.map fun _=>true).map V.bl) (by show(match C p with | some (.lst xs)=>some xs | _=>none)=_;rw[m]) rfl (QN _) ?_
 have:inV (.bl false) ((xs.map fun _=>true).map V.bl)=false:=by
  unfold inV;rw[List.any_eq_false];intro y B;obtain⟨b,g,rfl⟩:=AS.1 B;obtain⟨_,_,rfl⟩:=AS.1 g
  decide +kernel
 rw[this];exact q
def QB(n:Int):sEq (.int n) (.int n)=some true:=by
 rw[zX]
 simp
section
variable {W:Wd}{a:Adr}
inductive zq(d:Nat)(ts:List PV)(C:CH)(Q:K1):Prop
 |mk(x y:PV)(z0:ts=[x,y])(z1:Same C d x y)(z3:∀C',Gr C C'->Q (.bl true) C')
theorem EY(T:Tx W a):∀d,Ok W a (d+2) 55 ["_law_one","_law_other"] (zq d)
 |0=>gY fun ts C Q ⟨_,_,_,h,_⟩=>h
 |d+1=>by
  have S:=(T.F 55 rfl).s;have Z:=EY T d;have Xg:=(Vv T).mono (show 1<=d+2 by omega)
  refine(T.F 55 rfl).ok (fun ts C R h=>?_) fun aa A ab s H E M=>⟨_,(xQ (jb 2 S.nd (cf (T.F 54 rfl) Xg M (dN (cv 0))))
  (xQ (nQ (ct2 dD aU (cv 2) (cf (T.F 54 rfl) Xg M (dN (cv 1)))) (kQ (uQ fZ)) dQ)
  (xQ (nQ (ct2 fX qX (cv 2) wQ) (kQ (ZX PassesOwn.never rfl (cv 0) (qi 3 S.nd) (xQ (rA (i:=4) S.nd rfl (Or.inl rfl) rfl (S.c (by decide +kernel)) (S.k rfl rfl rfl (by decide +kernel)) (uK (cv 1)) (fun _ _ _ _ _=>(HX (bX (cf (T.F 55 rfl) Z M (qQ (cv 4) (dN (cv 0))))))) (fun _ _ _ _ _=>(cv 0)))
  (kQ (nQ (iz (jl (ct2 dD aU (kh T.rZ (cv 4)) jQ) (je (sX (bX (cf (T.F 55 rfl) Z M (qQ (cx (cv 0) (cv 3)) (dN (cx (cv 1) (cx (cv 4) jQ)))))))))) (kQ (uQ fZ)) dQ))))) dQ)
  (xQ (nQ (iz (jm (rK eM jY (cv 2) (pX (qQ wQ (qQ wQ (dN wQ)))) rfl) (jh (ct2 dD aU (kh T.rZ (cv 0)) (kh T.rZ (cv 1)))))) (kQ (uQ fZ)) dQ)
  (xQ (nQ (rK eM jY (cv 2) (pX (qQ wQ (dN wQ))) rfl) (kQ (uQ (jJ lV jY fZ (aZ rfl (S.c (by decide +kernel)) (S.k rfl rfl rfl (by decide +kernel)) (xR rfl T.kG (dN (kh T.rZ (cv 0)))) (fun _ _ _ _ _=>lZ) (fun _ _ _ _ _=>(cf (T.F 55 rfl) Z M (qQ (cx (cv 1) (cv 0)) (dN (cx (cv 2) (cv 0))))))) rfl))) dQ)
  (kQ (uQ (Wt (jJ fX qX (cv 2) wQ (oJ _)) (iG (jJ fX qX (cv 0) (cv 1) (oJ _))))))))))),?_⟩
  .obtain ⟨_,_,rfl,_⟩:=h;rfl
  rintro ts C Q ⟨x,y,rfl,h,q⟩
  rcases h with ⟨rfl,hs⟩ | ⟨xs,rfl,rfl,l,h⟩ | ⟨p,p',xs,rfl,rfl,m1,m2,l,h⟩
  .cases x with
   |non =>
    refine mG.mk _ .non rfl rfl fun C1 g=>mG.mk _ .non rfl rfl fun C2 B=>?_;refine fQ (yQ _ _) (cQ (by decide +kernel) (lQ (fQ (yQ _ _) (cQ (by decide +kernel) (lQ ?_)))));refine⟨y0 3 rfl,QD (ss:=["tuple","list","dict"]) rfl (by decide +kernel) (cQ rfl (xG rfl (lQ ?_)))⟩;refine⟨y0 2 rfl,QD (ss:=["tuple","list"]) rfl (by decide +kernel) (cQ rfl (lQ ?_))⟩;exact fQ (yQ _ _) (cQ (by decide +kernel) (fQ (b:=true) (by simp[sEq]) (q C2 (g.trans B))))
   |bl b =>
    refine mG.mk _ .bl rfl rfl fun C1 g=>mG.mk _ .bl rfl rfl fun C2 B=>?_;refine fQ (yQ _ _) (cQ (by decide +kernel) (lQ (fQ (yQ _ _) (cQ (by decide +kernel) (lQ ?_)))));refine⟨y0 3 rfl,QD (ss:=["tuple","list","dict"]) rfl (by decide +kernel) (cQ rfl (xG rfl (lQ ?_)))⟩;refine⟨y0 2 rfl,QD (ss:=["tuple","list"]) rfl (by decide +kernel) (cQ rfl (lQ ?_))⟩;exact fQ (yQ _ _) (cQ (by decide +kernel) (fQ (b:=true) (by simp[sEq]) (q C2 (g.trans B))))
   |int i =>
    refine mG.mk _ .int rfl rfl fun C1 g=>mG.mk _ .int rfl rfl fun C2 B=>?_;refine fQ (yQ _ _) (cQ (by decide +kernel) (lQ (fQ (yQ _ _) (cQ (by decide +kernel) (lQ ?_)))));refine⟨y0 3 rfl,QD (ss:=["tuple","list","dict"]) rfl (by decide +kernel) (cQ rfl (xG rfl (lQ ?_)))⟩;refine⟨y0 2 rfl,QD (ss:=["tuple","list"]) rfl (by decide +kernel) (cQ rfl (lQ ?_))⟩;exact fQ (yQ _ _) (cQ (by decide +kernel) (fQ (b:=true) (by simp[sEq]) (q C2 (g.trans B))))
   |str z =>
    refine mG.mk _ .str rfl rfl fun C1 g=>mG.mk _ .str rfl rfl fun C2 B=>?_;refine fQ (yQ _ _) (cQ (by decide +kernel) (lQ (fQ (yQ _ _) (cQ (by decide +kernel) (lQ ?_)))));refine⟨y0 3 rfl,QD (ss:=["tuple","list","dict"]) rfl (by decide +kernel) (cQ rfl (xG rfl (lQ ?_)))⟩;refine⟨y0 2 rfl,QD (ss:=["tuple","list"]) rfl (by decide +kernel) (cQ rfl (lQ ?_))⟩;exact fQ (yQ _ _) (cQ (by decide +kernel) (fQ (b:=true) (by simp[sEq]) (q C2 (g.trans B))))
   |_=>exact hs.elim
  .refine mG.mk _ .tup rfl rfl fun C1 g=>mG.mk _ .tup rfl rfl fun C2 B=>?_
   refine fQ (yQ _ _) (cQ (by decide +kernel) (lQ (fQ (yQ _ _) (cQ (by decide +kernel) (lQ ?_)))));refine⟨y0 3 rfl,JM (ss:=["tuple","list","dict"]) rfl (by decide +kernel) (tX rfl (nZ (nZ (fQ (QB _) (cQ rfl (lQ ?_))))))⟩;refine⟨y0 2 rfl,JM (ss:=["tuple","list"]) rfl (by decide +kernel) (tX rfl (nZ ⟨by omega,by omega,?_⟩))⟩;refine lP (by rw[AB,A5,Bp];exact l) (fun t O J D L N=>?_) fun p3 J D U=>Vz U (q J (g.trans (B.trans D)))
   obtain⟨k,I,rfl⟩:=AS.1 O;rw[Bu,Bp] at I;exact bQ (zF (AL I)) (bQ (zF (AL I)) (zq.mk xs[k] xs[k] rfl ((h _ (Bf I)).gr (g.trans (B.trans D))) N))
  .have ty:∀{C':CH}{r:Addr},C' r=some (.lst xs)->tyP C' (.ref r)=some .lst:=fun e=>by show(match _ with | some (CO.lst _)=>some Ty.lst | some (CO.dK _)=>some Ty.dct | _=>none)=_;rw[e]
   refine mG.mk _ .lst rfl (ty m1) fun C1 g=>mG.mk _ .lst rfl (ty (g _ _ m2)) fun C2 B=>?_;have Y:=B _ _ (g _ _ m1);have n2:=B _ _ (g _ _ m2);refine fQ (yQ _ _) (cQ (by decide +kernel) (lQ (fQ (yQ _ _) (cQ (by decide +kernel) (lQ ?_)))));refine⟨y0 3 rfl,JM (ss:=["tuple","list","dict"]) rfl (by decide +kernel) (tX rfl (eK Y (eK n2 (fQ (QB _) (cQ rfl (lQ ?_))))))⟩;refine⟨y0 2 rfl,JM (ss:=["tuple","list"]) rfl (by decide +kernel) (tX rfl (eK Y ⟨by omega,by omega,?_⟩))⟩
   refine lP (by rw[AB,A5,Bp];exact l) (fun t O J D L N=>?_) fun p3 J D U=>Vz U (q J (g.trans (B.trans D)));obtain⟨k,I,rfl⟩:=AS.1 O;rw[Bu,Bp] at I;exact vZ (D _ _ Y) (zF (AL I)) (vZ (D _ _ n2) (zF (AL I)) (zq.mk xs[k] xs[k] rfl ((h _ (Bf I)).gr (g.trans (B.trans D))) N))
end
variable {C:CH}
theorem Same.up:∀{d:Nat}{x y:PV},Same C d x y->Same C (d+1) x y
 |0,_,_,h=>h.elim
 |_+1,_,_,.inl h=>.inl h
 |_+1,_,_,.inr (.inl ⟨xs,g,B,l,h⟩)=>.inr (.inl ⟨xs,g,B,l,fun t D=>Same.up (h t D)⟩)
 |_+1,_,_,.inr (.inr ⟨p,q,xs,g,B,I,J,l,h⟩)=>.inr (.inr ⟨p,q,xs,g,B,I,J,l,fun t D=>Same.up (h t D)⟩)
def Same.le{d d':Nat}{x y:PV}(h:Same C d x y)(l:d<=d'):Same C d' x y:=by
 induction l with
 |refl=>exact h
 |step _ g=>exact g.up
def jF{d:Nat}{x:PV}(h:Sc x):Same C (d+1) x x:=.inl ⟨rfl,h⟩
def nG{d:Nat}{xs:List PV}(l:xs.length<=1000)(h:∀t∈xs,Same C d t t):Same C (d+1) (.tup xs) (.tup xs):=.inr (.inl ⟨xs,rfl,rfl,l,h⟩)
theorem vT:∀r:Rk,Same C (r.ie.length+1) r.pv r.pv
 |.num i=>nG (by show 2<=1000;decide) fun t g=>by
  simp only[List.mem_cons,List.not_mem_nil,or_false] at g
  rcases g with rfl | rfl<;>exact jF trivial
 |.turn n=>nG (by show 2<=1000;decide) fun t g=>by
  simp only[List.mem_cons,List.not_mem_nil,or_false] at g
  rcases g with rfl | rfl<;>exact jF trivial
 |.ask s n=>nG (by show 2<=1000;decide) fun t g=>by
  simp only[List.mem_cons,List.not_mem_nil,or_false] at g
  rcases g with rfl | rfl<;>exact jF trivial
 |.bin w x y=>by
  have e:(Rk.bin w x y).ie.length=x.ie.length+y.ie.length+1:=by show(w::(x.ie++y.ie)).length=_;rw[AD,AA]
  refine nG (xs:=[.str w,x.pv,y.pv]) (by show 3<=1000;decide) fun t g=>?_
  simp only[List.mem_cons,List.not_mem_nil,or_false] at g
  rcases g with rfl | rfl | rfl
  .rw [e];exact jF trivial
  .exact (vT x).le (by omega)
  .exact (vT y).le (by omega)
 |.pick x y z=>by
  have e:(Rk.pick x y z).ie.length=x.ie.length+(y.ie.length+z.ie.length)+1:=by show(("pick" : Str)::(x.ie++(y.ie++z.ie))).length=_;rw[AD,AA,AA]
  refine nG (xs:=[.str "pick",x.pv,y.pv,z.pv]) (by show 4<=1000;decide) fun t g=>?_
  simp only[List.mem_cons,List.not_mem_nil,or_false] at g
  rcases g with rfl | rfl | rfl | rfl
  .rw [e];exact jF trivial
  .exact (vT x).le (by omega)
  .exact (vT y).le (by omega)
  .exact (vT z).le (by omega)
def yT{r:Rk}(h:Rg r):Same C 23 r.pv r.pv:=(vT r).le (by have:=h.l;omega)
def KL{k:Option Rk}(h:rm k):Same C 23 (pK k) (pK k):=by
 cases k with
 |none=>exact jF trivial
 |some r=>exact yT (h r rfl)
def KJ{ps:List (Str×Rk)}(h:Io ps):Same C 25 (.tup (ps.map iJ)) (.tup (ps.map iJ)):=by
 refine nG (by rw[AB];have:=h.2;omega) fun t g=>?_;obtain⟨c,q,rfl⟩:=AS.1 g;refine nG (xs:=[.str c.1,c.2.pv]) (by show 2<=1000;decide) fun t g=>?_
 simp only[List.mem_cons,List.not_mem_nil,or_false] at g
 rcases g with rfl | rfl
 .exact jF trivial
 .exact yT (h.1 c q).2
def Le{hs:List Hd}(h:∀x∈hs,Ir x)(l:hs.length<=4):Same C 27 (.tup (hs.map Hd.pv)) (.tup (hs.map Hd.pv)):=by
 refine nG (by rw[AB];omega) fun t g=>?_;obtain⟨x,q,rfl⟩:=AS.1 g;refine nG (xs:=[.str x.ev,.int x.rank,.bl x.last,.tup (x.ch.map pS)]) (by show 4<=1000;decide) fun t g=>?_
 simp only[List.mem_cons,List.not_mem_nil,or_false] at g
 rcases g with rfl | rfl | rfl | rfl
 .exact jF trivial
 .exact jF trivial
 .exact jF trivial
 .refine nG (by rw[AB];have:=(h x q).cl;omega) fun t g=>?_
  obtain⟨c,B,rfl⟩:=AS.1 g;refine nG (xs:=[.str c.1,.str c.2.1,c.2.2.pv]) (by show 3<=1000;decide) fun t g=>?_
  simp only[List.mem_cons,List.not_mem_nil,or_false] at g
  rcases g with rfl | rfl | rfl
  .exact jF trivial
  .exact jF trivial
  .exact yT ((h x q).ch c B).2.2
def uT{d:Nat}{g:List Ln}(h:∀l∈g,Same C (28+2 * d) l.pv l.pv)(l:g.length<=6):Same C (28+2 * d+1) (.tup (Ln.kj g)) (.tup (Ln.kj g)):=by
 rw[Ln.iT];refine nG (by rw[AB];omega) fun t q=>?_;obtain⟨x,B,rfl⟩:=AS.1 q;exact h x B
theorem gT:∀d(l:Ln),l.gd d->Same C (28+2 * d) l.pv l.pv
 |0,l,h=>by cases l<;>exact h.elim
 |d+1,l,h=>by
  have st:∀s:Str,Same C (28+2 * d+1) (.str s) (.str s):=fun s=>jF trivial
  cases l with
  |plain k L s hs D =>
   refine nG (d:=28+2 * d+1) (xs:=[.str "plain",pK k,.str L,.tup (s.map iJ),.tup (hs.map Hd.pv),.tup (Ln.kj D)]) (by show 6<=1000;decide) fun t q=>?_
   simp only[List.mem_cons,List.not_mem_nil,or_false] at q
   rcases q with rfl | rfl | rfl | rfl | rfl | rfl
   .exact st _
   .exact (KL h.1.1).le (by omega)
   .exact st _
   .exact (KJ h.2.1.1).le (by omega)
   .exact (Le h.2.1.2.1 h.2.1.2.2).le (by omega)
   .exact uT (fun x B=>gT d x (h.2.2.1 x B)) h.2.2.2
  |part k n g =>
   refine nG (d:=28+2 * d+1) (xs:=[.str "part",pK k,.str n,.tup (g.map iJ)]) (by show 4<=1000;decide) fun t q=>?_
   simp only[List.mem_cons,List.not_mem_nil,or_false] at q
   rcases q with rfl | rfl | rfl | rfl
   .exact st _
   .exact (KL h.1.1).le (by omega)
   .exact st _
   .exact (KJ h.2).le (by omega)
  |give k n r D =>
   refine nG (d:=28+2 * d+1) (xs:=[.str "give",pK k,.str n,r.pv,.tup (Ln.kj D)]) (by show 5<=1000;decide) fun t q=>?_
   simp only[List.mem_cons,List.not_mem_nil,or_false] at q
   rcases q with rfl | rfl | rfl | rfl | rfl
   .exact st _
   .exact (KL h.1.1).le (by omega)
   .exact st _
   .exact (yT h.2.1).le (by omega)
   .exact uT (fun x B=>gT d x (h.2.2.1 x B)) h.2.2.2
  |when r I J =>
   refine nG (d:=28+2 * d+1) (xs:=[.str "when",r.pv,.tup (Ln.kj I),.tup (Ln.kj J)]) (by show 4<=1000;decide) fun t q=>?_
   simp only[List.mem_cons,List.not_mem_nil,or_false] at q
   rcases q with rfl | rfl | rfl | rfl
   .exact st _
   .exact (yT h.1).le (by omega)
   .exact uT (fun x B=>gT d x (h.2.1.1 x B)) h.2.1.2
   .exact uT (fun x B=>gT d x (h.2.2.1 x B)) h.2.2.2
  |each n r D =>
   refine nG (d:=28+2 * d+1) (xs:=[.str "each",.str n,r.pv,.tup (Ln.kj D)]) (by show 4<=1000;decide) fun t q=>?_
   simp only[List.mem_cons,List.not_mem_nil,or_false] at q
   rcases q with rfl | rfl | rfl | rfl
   .exact st _
   .exact st _
   .exact (yT h.1.1).le (by omega)
   .exact uT (fun x B=>gT d x (h.2.1 x B)) h.2.2
def Zl{B:List Pt}(h:∀x∈B,Ek x)(l:B.length<=6):Same C 43 (.tup (B.map Pt.pv)) (.tup (B.map Pt.pv)):=by
 refine nG (by rw[AB];omega) fun t q=>?_;obtain⟨x,D,rfl⟩:=AS.1 q;have g:=h x D;refine nG (xs:=[.str x.name,.tup (x.first.map qY),.tup (x.works.map iJ),.tup (Ln.kj x.ls)]) (by show 4<=1000;decide) fun t q=>?_
 simp only[List.mem_cons,List.not_mem_nil,or_false] at q
 rcases q with rfl | rfl | rfl | rfl
 .exact jF trivial
 .refine nG (by rw[AB];have:=g.fl;omega) fun t q=>?_
  obtain⟨c,I,rfl⟩:=AS.1 q;refine nG (xs:=[.str c.1,.int c.2]) (by show 2<=1000;decide) fun t q=>?_
  simp only[List.mem_cons,List.not_mem_nil,or_false] at q
  rcases q with rfl | rfl<;>exact jF trivial
 .exact (KJ g.wk).le (by omega)
 .exact uT (d:=6) (fun x D=>gT 6 x (g.ls x D)) g.ll
def Zk{p q:Addr}{g:List (List Str)}(D:C p=some (.lst (jq g)))(I:C q=some (.lst (jq g)))(l:g.length<=1000):Same C 2 (.ref p) (.ref q) :=
 .inr (.inr ⟨p,q,_,rfl,rfl,D,I,by rw[pJ];exact l,fun t B=>by
  obtain⟨ws,_,rfl⟩:=AS.1 B
  exact jF trivial⟩)
def Qs:Km [⟨"a",[],[],[]⟩]:=by
 refine⟨by decide,by decide,by simp[pV],fun s hs=>?_,fun k x h=>?_⟩
 .rw [AJ.1 hs];decide +kernel
 .have B:k < 1:=(AZ.1 h).1
  obtain rfl:k=0:=by omega
  cases h;exact⟨⟨AM _,⟨(fun c g=>by cases g),Bt⟩,AM _,(fun l q=>by cases q),AM _,AM _,AM _,(fun c g=>by cases g),(fun c g=>by cases g),Bt⟩,AM _,AM _⟩
theorem QO(C:CH):∀g:List (List Str),Paired (Rx C 0) (jq g) (jq g)
 |[]=>.nil
 |r::g=>.cons (.inl ⟨rfl,.str _⟩) (QO C g)
section
variable {W:Wd}{a:Adr}
inductive Nu(ts:List PV)(C:CH)(Q:K1):Prop
 |mk(ns:List Int)(z0:ts=[.fz (ns.map PV.int)])(z1:ns.length<=63)(z2:∀C',Q (.bl true) C')
def ok_law(T:Tx W a):Ok W a 46 56 ["_law_script"] Nu:=by
 have S:=(T.F 56 rfl).s;have WZ:=(yf T).mono (show 1<=45 by decide);have Kp:=(Vw T).mono (show 26<=45 by decide);have eR:=(G3 T).mono (show 38<=45 by decide);have mF:=(GF T).mono (show 17<=45 by decide);have J:=EY T 43;have vB:=(LQ T).mono (show 13<=45 by decide)
 refine(T.F 56 rfl).ok (fun ts C R h=>?_) fun av A a7 s H E q=>⟨_,(xQ (jb 1 S.nd (cf (T.F 33 rfl) WZ q (dN (cv 0))))
  (xQ (jb 2 S.nd (cf (T.F 48 rfl) Kp q (dN (cv 1))))
  (xQ (jb 3 S.nd (cf (T.F 53 rfl) eR q (dN (cv 2))))
  (xQ (jb 4 S.nd (cf (T.F 25 rfl) mF q (dN (cv 2))))
  (xQ (nQ (sX (bX (cf (T.F 55 rfl) J q (qQ (cv 4) (dN (cv 3)))))) (kQ (uQ fZ)) dQ)
  (xQ (jb 5 S.nd (cf (T.F 30 rfl) vB q (dN (cv 4))))
  (xQ (nQ (iz (jl (sX (bX (cf (T.F 55 rfl) J q (qQ (cv 5) (dN (cv 2)))))) (je (ct2 (xx (d:=0) (Hr q)) Wi (cv 4) (cv 3))))) (kQ (uQ fZ)) dQ)
  (xQ (qR wQ (iD (cv 4) jQ))
  (xQ (wX (cap (cv 4) wQ))
  (xQ (nQ (iz (jl (sX (bX (cf (T.F 55 rfl) J q (qQ (cv 5) (dN (cv 2)))))) (je (sX (bX (cf (T.F 55 rfl) J q (qQ (cf (T.F 25 rfl) mF q (dN (cv 5))) (dN (cv 3))))))))) (kQ (uQ fZ)) dQ)
  (xQ (jb 6 S.nd (pX (dN (pX (qQ wQ (qQ (pX aX) (qQ (pX aX) (dN (pX aX)))))))))
  (kQ (uQ (zB (cf (T.F 55 rfl) J q (qQ (cf (T.F 30 rfl) vB q (dN (dZ qL Z3 rfl T.wL rfl (dN (cv 3))))) (dN (cv 2)))) (iG (cf (T.F 55 rfl) J q (qQ (cf (T.F 30 rfl) vB q (dN (mQ (dN wQ)))) (dN (cv 6))))))))))))))))))),?_⟩
 .obtain ⟨_,rfl,_⟩:=h;rfl
 rintro ts C Q ⟨ns,rfl,hl,ak⟩;refine VZ.mk ns rfl hl fun t C1 ht e1 T1=>?_;refine XU.mk t ns rfl T1 fun g C2 I T2 e2=>?_;have B:=Hu I;have ax:=Ht I;have aa:=(VT B).2;refine JU.mk g rfl B (by omega) fun L C3 az aw m3=>JU.mk g rfl B (by omega) fun D C4 ai g4 Z=>?_;have ag:L≠D:=rX ai m3;have ae:=g4 _ _ m3;refine zq.mk _ _ rfl ((Zk Z ae (by omega)).le (by decide)) fun C5 U=>wZ (lQ ?_)
 refine Nq.mk D g rfl (U _ _ Z) I B aa fun C6 g6=>?_;have af:=g6 _ _ (U _ _ Z);have ab:=g6 _ _ (U _ _ ae);dsimp only[ig.wn];refine zq.mk _ _ rfl (Zl B I.n6) fun M N=>wZ ⟨D,L,_,_,rfl,rfl,N _ _ af,N _ _ ab,?_,cQ rfl (lQ ?_)⟩
 .exact QO M _
 .have ay:0 < (jq (nX g)).length:=by
   rw[pJ]
   cases hp:g with
   |nil=>have:=I.n1;rw[hp] at this;cases this
   |cons x xs=>show 0 < (x.rows++nX xs).length;unfold Pt.rows;simp
  have aj:ixN (jq (nX g)).length 0=some 0:=by
   unfold ixN;rw[Al (by decide),Al (by omega)]
   rfl
  refine KN (N _ _ af) aj ?_;have a3:gQ M D (.lst ((jq (nX g)).set 0 (.str "part z"))) L=some (.lst (jq (nX g))):=(vQ ag).trans (N _ _ ab);have a4:gQ M D (.lst ((jq (nX g)).set 0 (.str "part z"))) D=some (.lst ((jq (nX g)).set 0 (.str "part z"))):=zQ;generalize gQ M D (.lst ((jq (nX g)).set 0 (.str "part z")))=C8 at *
  dsimp only[ig.wn];refine⟨qZ a4,nK a4 (by rw[List.length_set,pJ];exact AK (show _ < 1000 by omega) (by decide)) ?_⟩;have b3:gQ C8 D (.lst ((jq (nX g)).set 0 (.str "part z")++[.str "end"])) L=some (.lst (jq (nX g))):=(vQ ag).trans a3;generalize gQ C8 D (.lst ((jq (nX g)).set 0 (.str "part z")++[.str "end"]))=C9 at *
  dsimp only[ig.wn];refine zq.mk _ _ rfl (Zl B I.n6) fun ao gA=>wZ (JU.mk g rfl B (by omega) fun pB aq a0 gB mB=>zq.mk _ _ rfl ((Zk mB (gB _ _ (gA _ _ b3)) (by omega)).le (by decide)) fun O gC=>wZ (lQ ?_));have c3:=gC _ _ (gB _ _ (gA _ _ b3));refine⟨AM _,AM _,AM _,y0 4 rfl,y0 1 rfl,?_⟩;dsimp only[ig.wn];show(match O L with | some (.lst xs)=>∀p,O p=none->Nq [.ref p] (gQ O p (.lst xs)) _ | _=>False)
  rw[c3];intro pD a5;refine Nq.mk pD g rfl zQ I B aa fun CD gD=>zq.mk _ _ rfl (Zl B I.n6) fun ar gE=>tX rfl ⟨y0 1 rfl,fun pF a6=>?_⟩;have Y:=Hu Qs;exact Nq.mk pF [⟨"a",[],[],[]⟩] rfl (by rw[zQ];rfl) Qs Y (VT Y).2 fun au gF=>zq.mk _ _ rfl (Zl Y (by decide)) fun ah gG=>ak ah
end
theorem QA{K:DD}{H:Hp}:∀ns:List Int,iw K H (ns.map V.int) (ns.map PV.int)
 |[]=>.nil
 |n::ns=>.cons (.int n) (QA ns)
def walk{l:PySem.W.OpenLaw}{q:Program}{Z:List Str}{J:(Str->Option Value)->Heap->Prop}{B:World->Heap->Prop}{d:DefRec}{K:Params->DD}(U:l.most=some 63)(O:d.params.defaults=[])(Y:d.name = "law")(N:∀(w:World)(h:Heap),B w h->(K w.params).In h)(F:∀(w:World)(mg:Str->Option Value)(h:Heap),(K w.params).In h->h.Ns mainGlobals mg->∃a:Adr,Txt l.prog w (K w.params) mg a):
  PySem.W.WalkO q Z J B l.row.toRowW d [] (fun f vs=>PySem.call f vs):=by
 refine L2.walk_of (n:=63) (k:=46) (x:="_law_script") (CX:=fun _=>CX0) (sp:=fun w=>q9 (K w.params) Nu) U (by decide) O ⟨rfl,by decide,by decide,rfl⟩ N ?_ (fun w H a ns S M g=>?_) fun _ _ _ _ _ z=>z
 .intro w mg fa h I G D
  obtain⟨a,T⟩:=F w mg h I G;rw[Y] at D;have e:=D.symm.trans ((T.F 56 rfl).m rfl);cases e;obtain⟨_,_,_,_,_,_,_,_,_,L,_⟩:=(T.F 56 rfl).F.ex;refine⟨a.d 56,?_,fun base _ _=>ok_law (W:=⟨_,_,_,_,base⟩) T⟩;rw[L];exact fun s u=>.of_eq rfl
 .have hz:Fz (K w.params) H a (ns.map V.int):=by
   rcases g with g | g
   .rcases g with g | ⟨o,g⟩
    .rcases M a with h | ⟨o,xs,h⟩
     .rw [g] at h;cases h
     .rw [g] at h;cases h
    .exact .inl ⟨o,g⟩
   .exact .inr g
  refine⟨[.fz (ns.map PV.int)],fun _=>none,fun v _=>v=.bl true,.cons (.fz hz (QA ns)) .nil,(fun _ _ z=>nomatch z),⟨ns,rfl,S,fun _=>rfl⟩,?_⟩;rintro v H' t C' rfl r h' f';cases r
  rfl
end K13
open PySem PySem.W PyProof.Rows
namespace PySem.W.Fast
def Z:=trivial
def tw1146418769799024850:=Z
def tw12390686860976860543:=Z
def tw13771833739311249795:=Z
def tw14119994173797413348:=Z
def tw1775555429669804198:=Z
def tw10003421671393180971:=Z
def tw10030162551222311958:=Z
def tw10067622522231573467:=Z
def tw10107950366031871922:=Z
def tw10138829464590648549:=Z
def tw10344120327811908792:=Z
def tw10517817675318219819:=Z
def tw10583621067283978731:=Z
def tw10625818488912135017:=Z
def tw10696955513992355816:=Z
def tw11035671688347763640:=Z
def tw11041730997195533168:=Z
def tw11201825390100545672:=Z
def tw11263088259552926188:=Z
def tw11263123848380466802:=Z
def tw11375491313454200470:=Z
def tw11383545904877135257:=Z
def tw11438181810601571684:=Z
def tw11538639122320779476:=Z
def tw11742855283299407064:=Z
def tw11769461373146751510:=Z
def tw11941111548204476779:=Z
def tw1198556896934375475:=Z
def tw11989032411495953610:=Z
def tw12102041591023479997:=Z
def tw12105411099466976640:=Z
def tw12113764380341475486:=Z
def tw12215683513099749252:=Z
def tw1229167353930958156:=Z
def tw12324573832351565862:=Z
def tw12379317422597205240:=Z
def tw12409626009690313677:=Z
def tw12475424300658274829:=Z
def tw12516432911716373353:=Z
def tw12524688943769172360:=Z
def tw12566193606330381884:=Z
def tw12585950456763564091:=Z
def tw1260587243746301991:=Z
def tw12777092079384357771:=Z
def tw12908798645467960651:=Z
def tw1300169001481244626:=Z
def tw13028308113874953486:=Z
def tw13095379614275398160:=Z
def tw13171351619721284323:=Z
def tw13203598415166976548:=Z
def tw13233057098339694134:=Z
def tw13371443899857349528:=Z
def tw13619593291706589766:=Z
def tw13644797954508914744:=Z
def tw13646758660343798811:=Z
def tw13802443888265775715:=Z
def tw1390898880339535506:=Z
def tw13937440003752414989:=Z
def tw13974033287038257084:=Z
def tw140641094435848597:=Z
def tw14141807716276937575:=Z
def tw14261689707363441563:=Z
def tw14385467254290274682:=Z
def tw1443039658468276932:=Z
def tw14534508433776042264:=Z
def tw14571540509845273122:=Z
def tw14781232131570538932:=Z
def tw15113596314788840591:=Z
def tw1514649077061101893:=Z
def tw15188094428030276210:=Z
def tw15272872455753840938:=Z
def tw15301293049308461734:=Z
def tw15597001586185211749:=Z
def tw15607922936243187646:=Z
def tw15649237301728760181:=Z
def tw15707126717081916852:=Z
def tw15761378467673941116:=Z
def tw15777520185077606710:=Z
def tw15783387678046981949:=Z
def tw15800998481234910229:=Z
def tw16034608090018993693:=Z
def tw16039334542536281779:=Z
def tw16054731900414504036:=Z
def tw16072540462002621494:=Z
def tw16105617940647415005:=Z
def tw16402604484895004485:=Z
def tw16428589448837607401:=Z
def tw1654715579428035498:=Z
def tw16659471057020512079:=Z
def tw16660298589260015143:=Z
def tw16878921547338849922:=Z
def tw17035842669257244299:=Z
def tw17143356670402189594:=Z
def tw17167153677178354732:=Z
def tw17191147759410004450:=Z
def tw17438997177630570957:=Z
def tw17469862183384228663:=Z
def tw17473943796347310707:=Z
def tw17549723532527815560:=Z
def tw17581984056784713580:=Z
def tw17594882737003662963:=Z
def tw17627907412901090026:=Z
def tw1779775985057222179:=Z
def tw18022925556206873364:=Z
def tw18099608808410193707:=Z
def tw18214301910261191792:=Z
def tw18338478216559986836:=Z
def tw18363708791638935391:=Z
def tw1960416255024116901:=Z
def tw2155309069322410909:=Z
def tw2176740964880979967:=Z
def tw2197693651657392228:=Z
def tw2248065449651213603:=Z
def tw2254809984147840072:=Z
def tw2385595120594518738:=Z
def tw2457563273783964185:=Z
def tw2699697634534659097:=Z
def tw2751280564307116577:=Z
def tw280845926412532299:=Z
def tw2825609433606487421:=Z
def tw2988652168882280150:=Z
def tw3113584441359294921:=Z
def tw3117839876041568444:=Z
def tw3268488862905736019:=Z
def tw3277625129297267916:=Z
def tw3282844465777720196:=Z
def tw3346106957967354285:=Z
def tw3380808289069078845:=Z
def tw3387293454429750336:=Z
def tw3425554966968639178:=Z
def tw3465752507520756329:=Z
def tw3503053287704902609:=Z
def tw3518416873449716528:=Z
def tw3523568807367500034:=Z
def tw3529040088233227136:=Z
def tw3574950143846043036:=Z
def tw3636102046193456428:=Z
def tw3732237891668807173:=Z
def tw375669290243564427:=Z
def tw3770917208961669648:=Z
def tw3777761722924328669:=Z
def tw3908331178008620590:=Z
def tw4023902537801687104:=Z
def tw4047510003140169908:=Z
def tw4190038838674108230:=Z
def tw4235616287944895032:=Z
def tw4291688118998442295:=Z
def tw4304306572106878410:=Z
def tw4466097834632845980:=Z
def tw4497274002530029577:=Z
def tw4497757609663538797:=Z
def tw4498160264017772576:=Z
def tw454443847792308429:=Z
def tw4567535873108604698:=Z
def tw4582265311022648062:=Z
def tw4667143230139662255:=Z
def tw4795500954905939065:=Z
def tw4888327613125470633:=Z
def tw5000112525523765740:=Z
def tw5006192689786973027:=Z
def tw5031603784689263682:=Z
def tw5173310540435486000:=Z
def tw5226930038821199579:=Z
def tw5264693516152961529:=Z
def tw5322587191903516838:=Z
def tw5590358949576280529:=Z
def tw5884294095389808838:=Z
def tw6098412707599717172:=Z
def tw6113209737829465202:=Z
def tw6355028349207428970:=Z
def tw6384390301926853304:=Z
def tw6389323669101099340:=Z
def tw6547225639705768152:=Z
def tw6631215621376860372:=Z
def tw6695813976680603389:=Z
def tw6772114015743427226:=Z
def tw7002384588447260688:=Z
def tw7106589383763516108:=Z
def tw7145655144247646256:=Z
def tw7181314809264363932:=Z
def tw7257824005237047227:=Z
def tw7307484195228971313:=Z
def tw7312217707252081880:=Z
def tw7510697262518060727:=Z
def tw7579768633275629867:=Z
def tw7775407462449525631:=Z
def tw7903646981018821869:=Z
def tw7973604198910044519:=Z
def tw8034808149186674941:=Z
def tw8145348217672590767:=Z
def tw8417387342830026220:=Z
def tw8429104674269896790:=Z
def tw8467698794546623282:=Z
def tw8624457562486969789:=Z
def tw8663462039179167230:=Z
def tw8749024300860863681:=Z
def tw8786849203202273267:=Z
def tw8894442624970221334:=Z
def tw8951359064597307496:=Z
def tw9081248475131558521:=Z
def tw9249832652433137586:=Z
def tw9295837652110990050:=Z
def tw9438066718069036046:=Z
def tw9556995633345031902:=Z
def tw9571263712999908876:=Z
def tw9573633691075658333:=Z
def tw9583953288950571995:=Z
def tw965546021913725529:=Z
def tw9677492814471703809:=Z
def tw9831596650944302979:=Z
def tw997458463526083716:=Z
def tw9976922909149354701:=Z
def tw99889760471512541:=Z
end PySem.W.Fast
set_option maxRecDepth 100000 in
set_option maxHeartbeats 0 in
theorem PySem.Challenge.cw_viewwood_k13_houses_shown_and_read_holds : PySem.Challenge.rw_viewwood_k13_houses_shown_and_read.Holds := by
 w_on;o_law;k_head;(case hw=>w_witness2)
 k_fill
 refine K13.walk (l:=PySem.Challenge.rw_viewwood_k13_houses_shown_and_read) rfl rfl rfl (fun w h Y=>PySem.W.kIn_of Y) ?F
 case F =>
  intro w mg h KX G;refine K13.txt_mk KX G ?_ (by first | k_is | rfl) (by first | k_is | rfl) (by first | k_is | rfl) (by first | k_is | rfl) (by first | k_is | rfl) (by first | k_is | rfl) (by first | k_is | rfl) (by first | k_is | rfl) (by first | k_is | rfl) (by first | k_is | rfl) (by first | k_is | rfl) (by first | k_is | rfl) (by first | k_is | rfl) (by first | k_is | rfl) (by first | k_is | rfl) (by first | k_is | rfl) (by first | k_is | rfl) (by first | k_is | rfl) (by first | k_is | rfl) (by first | k_is | rfl) (by first | k_is | rfl) (by first | k_is | rfl) (by first | k_is | rfl) (by first | k_is | rfl) (by first | k_is | rfl) (by first | k_is | rfl) (by first | k_is | rfl) (by first | k_is | rfl) (by first | k_is | rfl) (by first | k_is | rfl) (by first | k_is | rfl) (by first | k_is | rfl) (by first | k_is | rfl) (by first | k_is | rfl) (by first | k_is | rfl) (by first | k_is | rfl) (by first | k_is | rfl) (by first | k_is | rfl) (by first | k_is | rfl) (by first | k_is | rfl) (by first | k_is | rfl) (by first | k_is | rfl) (by first | k_is | rfl) (by first | k_is | rfl) (by first | k_is | rfl) (by first | k_is | rfl) (by first | k_is | rfl) (by first | k_is | rfl) (by first | k_is | rfl) (by first | k_is | rfl) (by first | k_is | rfl) (by first | k_is | rfl) (by first | k_is | rfl) (by first | k_is | rfl) (by first | k_is | rfl) (by first | k_is | rfl) (by first | k_is | rfl) (by first | k_is | rfl) (by first | k_is | rfl) (by first | k_is | rfl) (by first | k_is | rfl) (by first | k_is | rfl) (by first | k_is | rfl) (by first | k_is | rfl) (by first | k_is | rfl) (by first | k_is | rfl) (by first | k_is | rfl) (by first | k_is | rfl) (by first | k_is | rfl) (by first | k_is | rfl) (by first | k_is | rfl) (by first | k_is | rfl) (by first | k_is | rfl) (by first | k_is | rfl) (by first | k_is | rfl) (by first | k_is | rfl) (by first | k_is | rfl) (by first | k_is | rfl) (by first | k_is | rfl) (by first | k_is | rfl)
  unfold K13.tab
  repeat first | refine⟨⟨_,_,_,_,_,_,_,_,_,_,by k_is,by k_is,by k_is,by k_is⟩,?_⟩ | refine⟨⟨_,_,_,_,_,_,_,_,_,_,_,by k_is,by k_is,by k_is,by k_is,by k_is,by k_is⟩,?_⟩
  exact trivial
