import PyProof.Rows.All
import Wide.All
import OpenK.AllK
import Wide.FinOn
import Lean
import PyProof.EqAt
import PyProof.EqKinds
import PyProof.TupleCall
import PySem.Challenge.RW_springframe_k24_whole_least_three_ways
set_option Elab.async false
set_option linter.all false
set_option maxRecDepth 100000
set_option maxHeartbeats 4000000
open Option renaming some->À, none->Æ, isSome_iff_exists->Ź, map_some->Ž, isSome_map->ϕ, ne_none_iff_exists'->ϱ, toList_some->af0, getD_some->af7, map_eq_some_iff->am0, getD_none->at8
open List renaming getElem?_eq_some_iff->Á, getD_eq_getElem?_getD->Ä, length_map->Å, range->É, mem_append->Ê, replicate->Ë, getElem?_map->Í, mem_of_getElem?->Ð, getElem?_eq_getElem->Ñ, length_cons->Ö, length_append->Ù, length_range->Û, length_replicate->à, size_toArray->á, mem_cons->ã, map_append->ä, mem_map->æ, mem_singleton->è, getElem?_range->ì, getElem?_set_ne->î, map_cons->ñ, getElem?_eq_none->ó, map_map->ù, length_set->û, getElem?_set_self->ÿ, append_assoc->ă, getElem?_of_mem->ć, mem_append_right->Ĉ, lookup_cons->Ċ, append_nil->Č, nodup_cons->č, getElem?_append_left->ď, getElem?_append_right->Ĕ, take_add_one->ĕ, mem_map_of_mem->Ę, mem_take_iff_getElem->ę, append_eq_nil_iff->Ğ, mem_zipIdx_iff_getElem?->ğ, take_length->Ġ, mem_cons_of_mem->Ĥ, mem_range->ħ, length_zipIdx->Ĩ, map_congr_left->Ī, length_take->ĭ, getElem?_replicate->İ, mem_filter->Ĳ, of_mem_zip->ĺ, length_filter_le->Ł, find?_cons->Ń, lookup->ń, ext_getElem?->Ŏ, mem_filterMap->œ, filterMap_cons->Ř, length_singleton->ř, nodup_append->š, getElem?_zipIdx->Ū, mem_append_left->ū, getElem?_zip_eq_some->Ŵ, pairwise_iff_getElem->ŵ, any_eq_true->Ż, length_zip->ż, filter_append->ό, map_replicate->ύ, mem_cons_self->ϐ, length_nil->ϔ, perm_append_comm->ϛ, any_cons->ϣ, filter_sublist->Ϭ, zip_eq_zipWith->ϭ, zipWith->ϯ, getElem_mem->ϸ, zip_cons_cons->ϻ, sublist_append_right->Ι, getElem?_set->Μ, reverse_cons->Ν, eq_of_mem_replicate->Ρ, idxOf_lt_length_iff->Τ, all_cons->Χ, not_mem_nil->h9, cons_append->aa3, find?_cons_of_neg->aa4, toArray->aa5, foldl_cons->ab3, nil_append->ab4, getElem?_zipWith->ac0, length->ad3, take_zero->ad4, replicate_succ->ae0, getElem_idxOf->ae6, map->af4, map_nil->af5, nodup_nil->af6, all_eq_true->ah0, filter_cons->ah1, map_zipWith->ah2, zipWith_map->ah3, range_succ->ai3, map_set->ai9, find?_map->aj9, foldl->ak0, drop_eq_getElem_cons->ak7, mem_of_find?_eq_some->ak8, zip_map'->al9, filter_cons_of_neg->am8, filter_cons_of_pos->am9, any_map->an9, drop_of_length_le->ao0, find?_cons_of_pos->ao1, lookup_cons_self->ap2, getElem?_mapIdx->ar3, mem_of_mem_take->ar4, filter_eq_self->ar9, getElem_of_mem->as0, length_zipWith->as1, zipIdx_map_fst->as2, zipIdx_map_snd->as3, contains_cons->at5, find?_eq_none->at6, pairwise_cons->at7, any_eq_false->au2, filter_congr->au3, flatMap_cons->au4, flatten_cons->au5, foldl_append->au6, isSome_find?->au7, zipWith_self->au8
open Bool renaming true->Â, false->Ç, false_ne_true->â, and_eq_true->å, eq_iff_iff->ŝ, and_self->ϡ, false_eq_true->Ϻ, beq_eq_decide_eq->ab9, false_and->ad2, true_and->ae4, and_true->al7, false_or->al8, or_eq_true_iff->ar6, not_eq_true'->au0
open PySem.Heap renaming get?_push_of_some->Ã, lt_size->Ì, get?_push_size->Ô, get?_update_other->ü, get?_update_self->Ē, get?_none_of_le->Ņ, SameBut->ϳ, size_push->Α, FlyingW->aa7, get?_push_cases->ad5, get?_update_ne->as9, get?_push_at->av0
open PySem renaming wpAny_bind->È, sizeLine->Ò, wpAny->Ú, model->Ü, wpAny_pure->Þ, Program->ê, attributeBase->õ, compareOp->ö, Stmt->Ā, World->Ă, Around->ą, wpAny_mono->Đ, starEach->ē, foldedSetIterable->Ė, Expr->ě, cLine->ģ, wpAny_Call_Name_kw->Ħ, assignEach->ī, sizeLine_eq->Į, FuncData->į, swapsWith->ĳ, bootBuiltins->ŏ, call_meetsIn->Ő, wpAny_truthy_bool->ő, wpAny_holding->Ŗ, mainGlobals->Š, Builtin->Ţ, sysModules->ţ, binaryOp->ŧ, wpAny_passesOwn->Ũ, wpAny_loadPart_at->Ų, wpAny_richCompare_same_room->ų, backTo->Ϗ, tupleKind_room_in1->ϖ, wpAny_Call_method0_late->ϙ, wpAny_getItem_str_slice->Ϛ, NameKind->Ϥ, Value->ϥ, codeAny->Ϧ, behindInMarks->ϴ, plainId_quiet->ϵ, wpAny_standAt->Ϸ, sliceBounds->Ϲ, wpAny_execs_nil->Ε, wpAny_ite_split->Ζ, codeAny_mono->Ξ, Addr->Ψ, Scope->Ω, excClassObj->aa8, keywordEach->aa9, swappedStores->ab6, swapsWithSole->ab7, PassesOwn->ac6, rawInt->ad7, valueAt->ad8, wpAny_call->ad9, codeAny_builtin->ae1, letOwnedTupleGo->ae2, post_val_or_str->ae3, codeAny_call_builtin->af2, ClassData->af9, Keyword->ag0, noteFrame->ag1, standAt->ag2, tupleKind->ag3, backToKw->aj4, callerA->aj5, wpAny_newObj_type->aj6, wpAny_pyIter_list->aj7, plainObj_wpAny_Assign_Attribute->ak5, isTrue->al1, pastItsLine_dict->al2, setFlight->al3, wpAny_call_entry->al4, wpAny_lookBehind->al5, IsRangeIter->am3, wpAny_field->am7, wpAny_specialOf->an6, wpAny_updateSeq->an7, MeetsIn->ao6, notedBy->ao8, GenState->ap9, bindName->aq6, call_meets->aq7, typeLookup->aq8, wpAny_loadPart->aq9, wpAny_setField->ar0, assignInOrder->at0, wpAny_comprehension_free->at1, wpAny_newList->at3, wpAny_pyIter_rangeiter->av1, wpAny_pyNext_range_end->av2
open Nat renaming le_refl->Î, le_trans->Ï, lt_of_lt_of_le->Õ, ne_of_lt->é, lt_of_le_of_lt->ġ, lt_succ_of_lt->Ģ, lt_irrefl->ĸ, zero_le->Ĺ, le_of_lt->ň, pow_le_pow_right->Ů, lt_succ_self->Ŷ, ne_of_gt->ŷ, two_pow_pos->Ϯ, mul_le_mul_left->ϰ, mul_le_mul->Β, le_add_right->aa1, add_assoc->ae7, le_of_dvd->ae8, add_comm->ag4, mul_comm->ag5, pow_succ->ag6, sub_self->ag7, le_succ->ai4, mul_lt_mul_of_pos_right->ak1, le_mul_of_pos_right->ao2, pow_add->ao3, succ_mul->ap3, zero_add->ap4, log2_lt->as4, mul_pos->as5
open Rat renaming divInt->Ó, intCast_pos->ß, mul_nonneg->ç, intCast_mul->í, ne_of_gt->ú, divInt_eq_div->ý, intCast_nonneg->þ, le_of_lt->ā, div_def->Ć, intCast_neg->ĉ, intCast_eq_zero_iff->ĥ, zero_divInt->ĩ, intCast_add->Ķ, intCast_sub->ņ, mul_eq_zero->Ň, le_refl->ŋ, inv_pos->ŗ, div_mul_cancel->ś, mul_inv_cancel->Ŝ, mul_pos->ů, divInt_eq_divInt_iff->ϋ, num_divInt_den->Η, num_nonneg->Θ, mul_comm->ab8, divInt_ofNat->ai0, mul_le_mul_of_nonneg_right->ai1, num_divInt->al6, zero_mul->ar1
open Option.some renaming inj->Ø
open PySem.Value renaming ref->Ý, type->Ŋ, none->Ŧ, builtin->ϟ, bool->aa2, str->ad6, int->ag9, float->aq1
open Int renaming emod_lt_of_pos->ë, mul_zero->ï, ne_of_gt->ð, emod_nonneg->ø, toNat_natCast->Ď, natAbs_natCast->ė, mul_fdiv_cancel_left->ĝ, eq_of_mul_eq_mul_left->Ĭ, natCast_dvd_natCast->Ĵ, le_of_lt->ĵ, natCast_pos->ľ, mul_pos->ō, dvd_trans->ũ, zero_mul->ź, mul_nonneg->ϓ, mul_eq_zero->ϗ, natAbs_dvd_natAbs->ϝ, dvd_mul_left->Ϣ, natAbs_mul->Ϫ, natCast_mul->ϫ, one_dvd->Λ, gcd_dvd_right->Ο, mul_assoc->Υ, natAbs_neg->Φ, sign_eq_one_of_pos->ab0, zero_add->ab1, zero_sub->ab2, mul_comm->ac2, natCast_nonneg->ae9, mul_le_mul_of_nonneg_right->ah6, toNat->ah7, one_mul->ai8, eq_of_mul_eq_mul_right->ak6, eq_ofNat_of_zero_le->an8, add_zero->ao9, dvd_refl->ap0, gcd_comm->ap1, mul_one->ar7, natAbs_of_nonneg->ar8, ediv_dvd_of_dvd->at4, gcd_zero_right->au1
open False renaming elim->ò
open True renaming intro->ô
open PyProof.Rows renaming callWith_type1->Ą, sortedS->Ě, envOfC->Ĝ, AllBare->aa6, assignInOrder_cons->ah8, seqObj->ah9, risingS->ai5, entry_list_sort->an0, list_sort_treeK->an1, IntsAre->ao4, args_list_sort->ap5, slot_list_sort->ap6, sortedHeap_old->ap7, sorted_out_str->ap8, sortedHeap_at->as6, strKind_oneLt->as7, subscriptTail->as8, subscriptTail_builtinR->au9
open PySem.W renaming findIn->ċ, kia_one->Ō, emptyDict->Ÿ, hideAll->ž, keepIn->ώ, hideAll_none->Ϝ, instObj->Κ, funFrames_hide->ab5, Frag->ac7, callWith_K->ac8, excIn->ac9, looks_findIn->ad0, of_hideAll->ad1, looks_clsIn->ae5, fnOf->aj2, isFn->aj3, specialIn->ak4, methodCall_KW->al0, clsIn->am6, kitOne->an4, plainGet->an5, OpenLaw->aq3, hideAll_get->aq4, plainGet_of->aq5
open Ne renaming symm->đ
open PySem.Calls renaming callWith_builtin->ķ, spliced_cons->ļ, spliced_nil->Ş, call_function_entry->Γ, evalArgs_plain->ac3, Name_function_global->aj0
open List.Sublist renaming refl->Ļ
open PySem.SeqAt renaming EqAt->Ľ, RcAt->aj1, RcNeAt->an3
open PySem.NameKind renaming free->ł, cell->ac4
open Array renaming length_toList->Œ, getElem?_eq_some_iff->ť, getElem?_toList->ϑ, toArray_toList->Ϡ, getElem?_setIfInBounds_ne->af3, find?_toList->ar5
open PySem.Builtin.List renaming listExtendWith->Ŕ, listLengthHint->ŕ, listSameRef->af8, listItems->ah4
open PySem.Obj renaming mapSeq->Ś, mapFields->ş, data_mapFields->Δ, isFreed_of_fields->ac5
open Nat.succ renaming inj->Ť
open PySem.Builtin.Range renaming rangeSize->Ŭ, small->ai7
open PySem.MeetsSeq3 renaming plain_eq_loop->ŭ, entry_eq_loop->ah5
open ForInStep renaming yield->Ű
open Or renaming inr->ű, inl->ϲ
open List.Perm renaming append_right->ϊ, cons->Ϩ, refl->aa0, trans->ar2
open Int.ofNat renaming inj->ϒ
open PySem.SeqAt.EqAt renaming same->Ϙ, of_refs->ϧ, int_str->am4, str_int->am5
open PySem.Around renaming under_plainId->Ϟ, under->am1
open Classical renaming byContradiction->ϩ
open PySem.Builtin.Tuple renaming tupleCompareSizes->ac1
open PySem.PassesOwn renaming never->af1
open PySem.Txt renaming slice_le->ag8
open Function renaming comp->ai2
open PySem.AutoSeq1 renaming sub_tuple_tuple->ai6, sub_list_list->ak2
open List.Pairwise renaming map->aj8
open PySem.Builtin.Int renaming intBits->ak3
open PySem.EntryCells renaming newEntry->ak9
open PySem.Builtin.ObjectAttr renaming storeInDict->am2
open PySem.SeqAt.RcAt renaming tuples->an2, lists->ao7
open PySem.Code renaming isFrame->ao5, quiet_builtin->at9
open PySem.Heap.Ns1 renaming of_empty->aq0
open PySem.W.Looks renaming here->aq2
abbrev av3:=@if_neg
abbrev av4:=@if_pos
abbrev av5:=@absurd
abbrev av6:=@decide_eq_true
abbrev av7:=@decide_eq_false
abbrev av8:=@of_decide_eq_true
abbrev av9:=@congrArg
abbrev aw0:=@beq_self_eq_true
local macro_rules|`(tactic|omega)=>`(tactic|first|decide|lia)
abbrev ah:=List PySem.Str
abbrev aT:=List PySem.Value
abbrev aZ:=List (PySem.Addr×PySem.Obj)
abbrev aG:=List Int
abbrev cJ:=List (List Rat)
abbrev aL:=List Rat
abbrev bC:=List (Option Nat)
abbrev br:=PySem.Str->Option PySem.Value
abbrev du:=Option PySem.Value
abbrev aQ:=Nat->Nat->Int
abbrev bT:=Option Int
abbrev b5:=List PySem.Expr
abbrev c6:=List PySem.Addr
abbrev bW:=Option PySem.Addr
abbrev cS:=Array PySem.Value
abbrev cK:=List PySem.Env
abbrev aq:=PySem.W.Frag
abbrev ao:=PySem.Shared
abbrev ar:=PySem.Value
abbrev ai:=PySem.Addr
abbrev aW:=PySem.Heap
theorem autoR(_:0=0:=by rfl):True:=.intro
theorem autoD(_:0=0:=by decide):True:=.intro
def hidG(G:Prop):Prop:=G->False
theorem hidN{G}(h:hidG G->False):G:=Classical.byContradiction h
local macro_rules|`(tactic|∎)=>do
 let z:=Lean.mkIdent `zzz
 `(tactic|first|(refine $z ?_;clear $z)|(refine hidN ?_;intro $z:ident))
local macro_rules|`(tactic|let $p:term:=$e)=>do
 let k:=λx a=>Lean.Syntax.node .none (`Lean.Parser.Tactic++x) a
 let m:=λx=>k `rcasesPatMed #[Lean.mkNullNode #[x]]
 let q:=p.raw.rewriteBottomUp λx=>match x with|.ident ..=>k `rcasesPat.one #[x]|.node _ t a=>if t== `null then x else if a.size<2 then k `rcasesPat.ignore a else k `rcasesPat.tuple #[.atom .none "⟨",Lean.mkNullNode (a[1]!.getArgs.map λy=>if y.isAtom then y else k `rcasesPatLo #[m y,Lean.mkNullNode]),.atom .none "⟩"]|_=>x
 if p.raw[1].getNumArgs<4 then `(tactic|obtain $(⟨m q⟩):rcasesPatMed:=$e) else
 `(tactic|first|(guard_target =ₛ False;obtain $(⟨m q⟩):rcasesPatMed:=$e)|(∎;obtain $(⟨m q⟩):rcasesPatMed:=$e;refine $(Lean.mkIdent `zzz) ?_;clear $(Lean.mkIdent `zzz))|obtain $(⟨m q⟩):rcasesPatMed:=$e)
local macro_rules|`(⋯)=>`(by omega)|`(∎)=>`(by decide)|`(⇑$x)=>`(($x).heap.objs.size)|`(↥$x)=>`(($x).map $(Lean.mkIdent `Pu.ae.t))|`(do $x:term)=>`(autoParam $x $(Lean.mkIdent `autoR._auto_1))|`(~~~$x)=>`(autoParam $x $(Lean.mkIdent `autoD._auto_1))
set_option bootstrap.genMatcherCode false
local macro_rules|`(command|def $i:declId $s:optDeclSig $v:declVal)=>`(command|theorem $i:declId $(⟨.node .none `Lean.Parser.Command.declSig #[s.raw[0],s.raw[1][0]]⟩):declSig $v:declVal)|`(command|abbrev $i:declId $s:optDeclSig $v:declVal)=>`(command|noncomputable def $i:declId $s:optDeclSig $v:declVal)|`(command|nonrec abbrev $i:declId $s:optDeclSig $v:declVal)=>`(command|noncomputable abbrev $i:declId $s:optDeclSig $v:declVal)|`(command|instance $s:declSig $v:declVal)=>`(command|noncomputable instance $s:declSig $v:declVal)
@[inline] def zsx:String:=";aa Mx rs us;ab Ü X.prog X.w;ac pick rs ks;ad aJ rs us;ae Ü prog w;af b7 us rs.length ps;ag j.map aO;ah .ref C;ai cU X scope N P2.objs.size a O fp aa;aj cU X scope N C s H fp pl;ak Gr.aR s;al bp us rs 0;am .ref p;an cU X a N C s H fp pl;ao .inl rfl;ap eval o X.env;aq .Name x pos;ar m.map 1e1;as .dK kvs;at cX us o;au bA us o;av EP X aa j Q;aw .ref a;ax .ref f;ay us.zipIdx.map 1e3;az .dK vs;aA .af f xs;aB jX rs us ps S S2;aC d7 us o;aD fs.lookup f;aE .int i;aF eM X.prog X.w;aG gc X.prog X.w;aH .aF xs;aI .l Ç;aJ .aC o u;aK .ins f c fs;aL ns.map V.int;aM kI CX P w K mg base N d a f bS A outer s H E;aN .Attribute e f pos;aO .Tuple elts x1 pos;aP .Name x p;aQ .builtin id;aR fE us o;aS .ins .o c fs;aT i pos aa s j H _ I h;aU .af .o xs;aV .Attribute o m apos;aW top 23;aX i3 T f rs us sc;aY .int n;aZ .ref x;ba X.cY pn xe;bb bx st;bc .ref c;bd eF ix σ;be ð G.pos;bf cN T f S;bg eval e X.env;bh start N vs;bi tR X.K i r;bj Ü P w;bk .ref e;bl .error e;bm .aP f xs;bn nJ us ps;bo Le.refl F;bp ns.map Tr.int;bq cf ns;br .bl Â;bs .ref b;bt gc P w;bu aC t;bv bP f m;bw bs A S;bx top 22;by fF rs us S;bz .ins C dx fs;bA up S r c;bB cj rs k;bC .str x;bD ps.zip us;bE .int j;bF bs.map V.bl;bG Le.refl _;bH .str n;bI Ý f.objs.size;bJ B.mem_iff.mp m;bK qv 1;bL fh rs us ps S2;bM jn x;bN kF st;bO I.ok.hd hc;bP .l Â;bQ i.keeps b o z;bR bU K z lo n g;bS Ë rs.length 0;bT .int i t;bU aU H a o;bV .af xs;bW aU H p o;bX .ref I;bY ae.t a;bZ .Return (À e) pos;ca hi aa s j H _ I h;cb ö .NotEq;cc .dK d;cd .bl b;ce .ref s.heap.objs.size;cf .aP .o xs;cg hU us o x;ch o.r.plain t;ci dw t r;cj .ins C b vs;ck iu rs us ps S S2;cl truthy v;cm PySem.F.args_dict_get_3 _ _ _;cn tR K i r;co .ref abC;cp cH T f B;cq mT mk;cr cO X.stack;cs q4 r ta tb;ct rW I.aS eb;cu PySem.F.args_dict_values_1 _;cv ea f;cw args_sorted1 _;cx .bl Ç;cy .ref l;cz kA h m;cA y b o e a;cB .ref it;cC I.ok.hd A;cD g i j;cE .type T;cF eF ix j;cG y b u z n;cH Bq Hb H;cI J.set i t;cJ .bl n;cK Sum.inr x;cL dJ 0;cM i5 h ss k;cN rs.map qX;cO cU X scope N C s H fp aa;cP I.base.keep b o e n O C;cQ ks.map V.str;cR ŧ .Mult;cS D.less i;cT qd pg pr;cU ys.map g;cV qv 0;cW S0 rs us;cX c.fdiv 4;cY eM P w;cZ .own a;da .own x;db TP X aa j Q;dc .Constant .none j pos;dd .Expr e pos;de nA f.heap H;df tP X D;dg kH env;dh p2 pr pa pb;di Bq d H;dj .af vs;dk ae.t x;dl iS _ _;dm ae.t r;dn cL (cL (cL BU e) d) b;do Lp.dd m M S;dp bI cs;dq tl rs us S2;dr aX rs;ds .BinOp a .Mult b pos;dt storeName X.env x u;du .UnaryOp .Not a pos;dv ŧ .Add;dw K w.params;dx eF ix G;dy j.set i Æ;dz .UnaryOp .Not e pos;dA l8 n pr;dB Le.of f;dC adr f u fs;dD xs.set n t;dE .int vs.length;dF .Tuple elts x1 tpos;dG .Subscript o j pos';dH eu f;dI gf b;dJ gf a;dK fw m n M mk c S a i;dL tl rs us S;dM .Subscript o i pos;dN .Slice lo hi Æ p2;dO .Subscript a b pos;dP bY dN dO (qv 5) fo;dQ SP X aa D;dR .BinOp a op b pos;dS Κ C s.heap.objs.size;dT ö .NotIn;dU .int m.length;dV nq pi pg pt pe ix;dW .Tuple es x1 tpos;dX W.unset b;dY cV xs;dZ XO C e Æ;ea .af .o xs.reverse;eb up (up v a x) b y;ec up (up v a y) b x;ed cH T .o S;ee cN T .o S;ef rs.zipIdx.take i';eg i5 a ss k;eh cb us 0 o;ei ca us 0 o;ej .IfExp c a b pos;ek f aa s j H _ I h;el i aa s j H _ I h;em vv K a;en .Tuple es x1 pos;eo .ref q;ep qf wi g ti te ix;eq X.bG v;er vt K a;es L aa s j H _ I h;et c.gr a;eu W.gr g;ev .str a;ew kA C J;ex .Tuple es kk pos;ey ae.t q;ez .ref E;eA mT m;eB aU H x o;eC .bool Â;eD mY K H n;eE vx K a b;eF c.gr a.g;eG .af .o a;eH G.map aO;eI je t r u;eJ .exc n P;eK nt b _ z;eL .aP .f m;eM up S r e;eN cH T f S;eO Lp.tt m M S j n;eP Lp.tt m M S j c;eQ þ.mpr q;eR h.d.bs (Î _) m;eS e.take i;eT rs.zip P;"
local macro_rules|`($n:name)=>do
 let a:=λt:String=>if t.front.isDigit then (Lean.Syntax.mkLit (if t.any (·=='e') then `scientific else `num) t).raw else if t=="_" then .node .none `Lean.Parser.Term.hole #[.atom .none t] else if t.front=='.' then .node .none `Lean.Parser.Term.dotIdent #[.atom .none ".",Lean.mkIdent (t.drop 1).toString.toName] else (Lean.mkIdent t.toName).raw
 let p:=λb:Array Lean.Syntax=>if b.size<2 then b[0]! else (Lean.Syntax.mkApp ⟨b[0]!⟩ ((b.drop 1).map (⟨·⟩))).raw
 let [_,u]:=zsx.splitOn s!";{n.getName} "|Lean.Macro.throwUnsupported
 let r:=(((u.splitOn ";").head!.replace "(" "( ").replace ")" " )").splitOn " "|>.foldl (λ(b,l) t=>if t=="(" then (#[],b::l) else if t==")" then (l.head!.push (p b),l.tail!) else (b.push (a t),l)) (#[],([]:List (Array Lean.Syntax)))
 return p r.1
local macro_rules|`(#[$a,*])=>`(⟨$a,*⟩)
local macro_rules|`(tactic|show $e:term)=>`(tactic|refine $e)
local macro_rules|`(↑$x)=>`(($x).length)
local macro_rules|`(∅)=>`(by simp)
local macro_rules|`(1e1)=>`(λp=>((Sum.inr p.1:$(Lean.mkIdent `L2.aI)),$(Lean.mkIdent `Pu.ae.t) p.2))
local macro_rules|`(1e3)=>`(λp=>(p.1,$(Lean.mkIdent `x) p.2))
local macro_rules|`(1e2)=>`(⟨rfl,rfl,rfl,by decide +kernel,rfl,by decide +kernel,by decide +kernel⟩)
namespace L2
open PySem PySem.Spec PyProof.Rows
nonrec abbrev dY(x:Str):Prop:=(x == ("__debug__":Str))=Ç
nonrec abbrev fA(e:ě)(es:b5)(n:Env):Prop:=ē (e::es) n=(Ç,eval e n)::ē es n
nonrec abbrev n6(e:ě)(n:Env):Prop:=ē [e] n=[(Ç,eval e n)]
nonrec abbrev vD(e f:ě)(n:Env):Prop:=ē [e,f] n=[(Ç,eval e n),(Ç,eval f n)]
nonrec abbrev gq(p:Pos)(es:b5)(n:Env):Prop:=(Ϗ p<|ē es n).any (·.1)=Ç
nonrec abbrev aI:=Sum Int Str
nonrec abbrev a9:=List<|aI×bT
abbrev rG:aI->ar->Bool
 |.inl k,v=>Value.isInt k v
 |.inr x,v=>Value.isStrOf x v
abbrev Nz(w:Ă):aI->Int
 |.inl k=>hashInt k
 |.inr x=>hashStr w x
def mv:∀{k:aI}{v:ar},rG k v=Â->(∃i t,k=Sum.inl i/\v=ag9 i t)\/(∃x t,k=Sum.inr x/\v=ad6 x t)
 |.inl i,v,h=>by
  let#[t,e]:=Value.isInt_shape (k:=i) (v:=v) h;show .inl #[i,t,rfl,e]
 |.inr x,v,h=>by
  let#[t,e]:=Value.isStrOf_shape (x:=x) (v:=v) h;show .inr #[x,t,rfl,e]
def Rm(i:Int)(t:Tok):rG (.inl i) `bT=Â:=by simp[rG,Value.isInt]
def Rn(x:Str)(t:Tok):rG (.inr x) (.str x t)=Â:=by simp[rG,Value.isStrOf]
def YY(a b:Int):decide ((Sum.inl a:aI)=Sum.inl b)=(a == b):=by
 by_cases e:a=b
 .subst e;simp
 .have h:¬ (Sum.inl a:aI)=Sum.inl b:=λq=>e<|Sum.inl.inj q
  rw[av7 h];show (beq_eq_false_iff_ne.mpr e).symm
def YZ(a b:Str):decide ((Sum.inr a:aI)=Sum.inr b)=decide (a=b):=by
 by_cases e:a=b
 .subst e;simp
 .have h:¬ (Sum.inr a:aI)=Sum.inr b:=λq=>e<|Sum.inr.inj q
  rw[av7 h,av7 e]
def Yb(a:Int)(b:Str):decide ((Sum.inl a:aI)=Sum.inr b)=Ç:=av7 (λq=>nomatch q)
def Yc(a:Str)(b:Int):decide ((Sum.inr a:aI)=Sum.inl b)=Ç:=av7 (λq=>nomatch q)
abbrev eM(prog:ê)(w:Ă):PySem.KeyKind prog w aI where
 is:=rG
 hash:=Nz w
 inj:=λv a b g f=>by
  rcases mv g with⟨i,t,rfl,rfl⟩ |⟨x,t,rfl,rfl⟩
  .rcases mv f with⟨j,u,rfl,e⟩ |⟨y,u,rfl,e⟩
   .injection e with e1 _;rw[e1]
   .show nomatch e
  .rcases mv f with⟨j,u,rfl,e⟩ |⟨y,u,rfl,e⟩
   .show nomatch e
   .injection e with e1 _;rw[e1]
 byValue:=λk v h=>by
  rcases mv h with⟨i,t,rfl,rfl⟩ |⟨x,t,rfl,rfl⟩<;>rfl
 pyHash:=λd h=>by
  rcases mv d with⟨i,t,rfl,rfl⟩ |⟨x,t,rfl,rfl⟩
  .show wpAny_pyHash_int h
  .show wpAny_pyHash_str h
 eqBool:=λl d h=>by
  rcases mv l with⟨i,t,rfl,rfl⟩ |⟨x,t,rfl,rfl⟩
  .rcases mv d with⟨j,u,rfl,rfl⟩ |⟨y,u,rfl,rfl⟩
   .rw[YY] at h;show wpAny_eqBool_int h
   .rw[Yb] at h;show am4 i t y u _ _ _ _ h
  .rcases mv d with⟨j,u,rfl,rfl⟩ |⟨y,u,rfl,rfl⟩
   .rw[Yc] at h;show am5 x t j u _ _ _ _ h
   .rw[YZ] at h;show wpAny_eqBool_str h
 «strs»:=λk x t v h=>by
  rcases mv h with⟨i,u,rfl,e⟩ |⟨y,u,rfl,e⟩
  .show nomatch e
  .injection e with e1 _
   subst e1;cases v<;>rfl
def PK(prog:ê)(w:Ă)(i:Int)(t:Tok):(eM prog w).is (.inl i) `bT=Â:=Rm i t
def PL(prog:ê)(w:Ă)(x:Str)(t:Tok):(eM prog w).is (.inr x) (.str x t)=Â:=Rn x t
inductive V where
 |aN |bl (b:Bool) |int (i:Int) |str (x:Str) |hX (b:Array UInt8) |nS (b:UInt64) |ref (a:Ψ) |ty (n:String)
 deriving DecidableEq
nonrec abbrev b9:=List<|aI×V
nonrec abbrev ay:=List V
abbrev aE:V->ar->Prop
 |.aN,u=>u=Ŧ
 |.bl b,u=>u=aa2 b
 |.int i,u=>∃t,u=ag9 i t
 |.str x,u=>∃t,u=ad6 x t
 |.hX b,u=>∃t,u=Value.bytes b t
 |.nS b,u=>∃t,u=aq1 b t
 |.ref a,u=>u=Ý a
 |.ty n,u=>u=Ŋ n
nonrec abbrev aH:ay->aT->Prop:=Paired aE
def aH.length(r:aH xs us):↑xs=↑us:=Paired.length r
def aH.get:∀{xs:ay}{us:aT}{i:Nat}{x:V},aH xs us->xs[i]?=À x->∃u,us[i]?=À u/\aE x u
 |_,_,_,_,.nil,e=>by simp at e
 |_,_,0,_,.cons r _,e=>by simp at e;subst e;show#[_,rfl,r]
 |_,_,i + 1,x,.cons _ t,e=>by
  let#[u,a,b]:=aH.get (i:=i) (x:=x) t (by simpa using e);show#[u,by simpa using a,b]
def aH.set(r:aE x u):∀{xs:ay}{us:aT}(i:Nat),aH xs us->aH (xs.set i x) (us.set i u)
 |_,_,_,.nil=>.nil
 |_,_,0,.cons _ t=>.cons r t
 |_,_,i + 1,.cons q t=>.cons q<|aH.set r i t
def aH.append:∀{xs ys:ay}{us a:aT},aH xs us->aH ys a->aH (xs++ys) (us++a):=by
 intro xs ys us a h g
 induction h with
 |nil=>show g
 |cons r t b=>show .cons r b
def aH.take:∀{xs:ay}{us:aT}(n:Nat),aH xs us->aH (xs.take n) (us.take n)
 |_,_,0,_=>.nil
 |_,_,_ + 1,.nil=>.nil
 |_,_,n + 1,.cons r t=>.cons r<|aH.take n t
def aH.drop:∀{xs:ay}{us:aT}(n:Nat),aH xs us->aH (xs.drop n) (us.drop n)
 |_,_,0,r=>r
 |_,_,_ + 1,.nil=>.nil
 |_,_,n + 1,.cons _ t=>aH.drop n t
abbrev cq:Option V->du->Prop
 |some v,À u=>aE v u
 |none,Æ=>True
 |_,_=>False
abbrev KV{j:Type}:List (j×V)->List (j×ar)->Prop:=Paired λ(p:j×V)(q:j×ar)=>p.1=q.1/\aE p.2 q.2
abbrev kV:aI->V
 |.inl i=>.int i
 |.inr x=>.str x
inductive HO where
 |af (xs:List V)
 |aF (xs:List V)
 |dK (kvs:List (aI × V)) |dT (kvs:List (List aI × V))
 |set (S:Int -> Bool) (n:Nat)
 |ins (C dx:Ψ) (fs:List (Str × V))
 |own (x:Ψ)
 |xd (fs:List (Str × V))
 |met (f x:Ψ)
 |yj (lo hi:Int)
 |aC (o:Obj) (u:HO)
 |pM (ps:Array ϥ)
 |ext (φ:Heap -> Prop)
nonrec abbrev Hp:=Ψ->Option HO
abbrev aU(H:Hp)(a:ai)(o:HO):Hp:=λb=>if b=a then À o else H b
def dk:aU H a o a=À o:=by unfold aU;rw[av4 rfl]
def ba{H:Hp}(h:b≠a):aU H a o b=H b:=by unfold aU;rw[av3 h]
def L9{H:Hp}(h:H a=À o)(h':H b=À u)(d:o≠u):a≠b:=by
 intro e;subst e;rw[h] at h';show d<|Ø h'
def kc{H:Hp}(h:H a=À o)(h':H b=Æ):a≠b:=by
 intro e;subst e;rw[h] at h';cases h'
section
variable(P:ê)(w:Ă)
abbrev bc(H:Hp)(h:aW)(a:ai):HO->Prop
 |.af e=>↑e <= Ò /\ ∃(b:aT)(n:Nat),aH e b /\ h.get? a=À { cls:=.type "list",data:=.seq b.toArray n }
 |.aF e=>↑e <= Ò /\ ∃b:aT,aH e b /\ IsTup h a b.toArray
 |.dK d=>↑d <= Ò /\ (a == ţ)=Ç /\ ∃vs,KV d vs /\ h.DictOf `cY a vs
 |.dT d=>↑d <= Ò /\ (a == ţ)=Ç /\ ∃e:List (List aI × Ψ × ϥ),
   Paired (λ(p:List aI×V)(q:List aI×ai×ar)=>p.1=q.1/\H q.2.1=À (.aF<|p.1.map kV)/\aE p.2 q.2.2) d e/\
   ∃o l s,h.get? a=À o/\o.ExactDict/\o.data=.dict l s/\l.toList=e.map (entryOfKey<|ag3<|eM P w)/\(e.map (·.1)).Nodup
 |.set S n=>h.SetOf (intKind P w) a S n
 |.ins C i fs=>H i=À `cZ /\ ↑fs <= 1000 /\ i ≠ a /\ h.get? a=À (Κ C i) /\
   ∃g,h.Ns1 i g/\(∀f,cq `aD<|g f)/\PySem.Within g (fs.map (·.1))
 |.own _=>∃o,h.get? a=À o
 |.xd fs=>∃g,h.Ns1 a g /\ ∀f,cq `aD<|g f
 |.yj lo y=>∃t u v,h.get? a=À { cls:=.type "range",data:=.fields ([.int lo t,.int y u,.int 1 v].toArray) }
 |.aC o u=>h.get? a=À o /\ bc H h a u
 |.pM z=>h.get? a=À { cls:=.none,data:=.fields z }
 |.met f x=>h.get? a=À (W.methodObj `ax<|.ref x)
 |.ext j=>j h /\ (∃o,h.get? a=À o) /\ ∀m r:Heap,j m -> (∀o,m.get? a=À o -> r.get? a=À o) -> j r
abbrev dG(H:Hp)(h:aW):Prop:=∀a o,H a=À o->bc P w H h a o
end
section
variable{P:ê}{w:Ă}{H H':Hp}{h h':aW}{a:ai}{o:HO}
def bc.lt(x:bc P w H h a o):a<h.objs.size:=by
 cases o with
 |af d=>let#[_,_,_,_,e]:=x;show Ì e
 |aF d=>let#[_,_,_,p]:=x;show p.lt
 |dK b=>let#[_,_,_,_,o,_,_,e,_]:=x;show Ì e
 |dT b=>let#[_,_,_,_,o,_,_,e,_]:=x;show Ì e
 |set S n=>let#[o,_,_,_,e,_]:=x;show Ì e
 |ins C g fs=>let#[_,_,_,e,_]:=x;show Ì e
 |own y=>let#[_,e]:=x;show Ì e
 |xd fs=>let#[_,#[_,_,_,e,_],_]:=x;show Ì e
 |yj lo i=>let#[_,_,_,e]:=x;show Ì e
 |aC j u=>let#[e,_]:=x;show Ì e
 |pM l=>show Ì (show h.get? a=À _ from x)
 |met f y=>show Ì (show h.get? a=À _ from x)
 |ext m=>let#[_,#[_,e],_]:=x;show Ì e
def Paired.ve{F G:j->i->Prop}:∀{d:List j}{l₂:List i},Paired F d l₂->(∀a b,F a b->G a b)->Paired G d l₂:=by
 intro d l₂ h f
 induction h with
 |nil=>show .nil
 |cons r t e=>show .cons (f _ _ r) e
def bc.e5(x:bc P w H h a o)(k:∀b u,(b=a\/H b=À `cZ)->h.get? b=À u->h'.get? b=À u)(D:∀b,H b=À `cZ->H' b=À `cZ)(ht:∀b xs,H b=À `aH->H' b=À `aH):bc P w H' h' a o:=by
 induction o with
 |af xs=>let#[z,l,n,r,e]:=x;show#[z,l,n,r,k _ _ `ao e]
 |aF xs=>let#[z,l,r,g,e,c]:=x;show#[z,l,r,g,k _ _ `ao e,c]
 |dK m=>let#[z,y,vs,r,g,j,i,e,c]:=x;show#[z,y,vs,r,g,j,i,k _ _ `ao e,c]
 |dT m=>
  let#[z,y,xs,r,g,j,i,e,c]:=x;show#[z,y,xs,Paired.ve r λp q z=>#[z.1,ht _ _ z.2.1,z.2.2],g,j,i,k _ _ `ao e,c]
 |set S n=>let#[g,j,i,t,e,c]:=x;show#[g,j,i,t,k _ _ `ao e,c]
 |ins C G fs=>
  let#[d,z,ne,e,s,#[od,j,i,B,c],r]:=x;show#[D _ d,z,ne,k _ _ `ao e,s,#[od,j,i,k _ _ (.inr d) B,c],r]
 |own y=>let#[g,e]:=x;show#[g,k _ _ `ao e]
 |xd fs=>let#[s,#[od,j,i,e,c],r]:=x;show#[s,#[od,j,i,k _ _ `ao e,c],r]
 |yj lo I=>let#[t,u,v,e]:=x;show#[t,u,v,k _ _ `ao e]
 |aC g u E=>let#[e,q]:=x;show#[k _ _ `ao e,E q]
 |pM A=>
  have e:h.get? a=À { cls:=.none,data:=.fields A }:=x;change h'.get? a=À { cls:=.none,data:=.fields A };show k a _ `ao e
 |met f y=>
  have e:h.get? a=À (W.methodObj `ax<|.ref y):=x;change h'.get? a=À (W.methodObj `ax<|.ref y);show k a _ `ao e
 |ext J=>let#[p,#[o,e],st]:=x;show#[st _ _ p λo q=>k _ _ `ao q,#[o,k _ _ `ao e],st]
def dG.lt(x:dG P w H h)(e:H a=À o):a<h.objs.size:=(x a o e).lt
def dG.fresh(x:dG P w H h)(e:h.objs.size<=a):H a=Æ:=by
 cases q:H a with
 |none=>rfl
 |some u=>show av5 (Õ (x.lt q) e)<|ĸ _
def dG.kept(x:dG P w H h)(k:∀b u,h.get? b=À u->h'.get? b=À u):dG P w H h':=λa o e=>
 (x a o e).e5 (λb u _ q=>k b u q) (λ_ q=>q) λ_ _ q=>q
def dG.laid(x:dG P w H h)(k:∀b u,h.get? b=À u->h'.get? b=À u)(g:h.objs.size<=a)(d:bc P w `bU h' a o):dG P w `bU h':=λb u e=>by
 have hn:=x.fresh g;by_cases f:b=a
 .subst f;rw[dk] at e;cases e;show d
 .rw[ba f] at e;show (x b u e).e5 (λc v _ q=>k c v q) (λc q=>by rw[ba<|kc q hn];show q) λc i q=>by rw[ba<|kc q hn];show q
end
abbrev Rd(H:Hp)(a:ai)(u:HO):Prop:=H a=À u\/∃o,H a=À `aJ
def Rd.of{H:Hp}(h:H a=À u):Rd H a u:=.inl h
def Rd.ok(r:Rd H a u)(x:dG P w H h):bc P w H h a u:=by
 rcases r with r |⟨o,r⟩
 .show x a u r
 .obtain⟨_,q⟩:=x a _ r;show q
abbrev sR:Option HO->Prop
 |some (.af _)=>True
 |some (.dK _)=>True
 |some (.dT _)=>True
 |some (.set _ _)=>True
 |some (.ins _ _ _)=>True
 |some (.ext _)=>True
 |_=>False
section
variable{P:ê}{w:Ă}{H:Hp}{h h':aW}{x e:ai}{o':HO}
def dG.write(ok:dG P w H h)(j:sR (H x))(o:e=x\/H e=À `da)(k:∀b u,b≠e->h.get? b=À u->h'.get? b=À u)(m:∃u,h'.get? e=À u)(n:bc P w (aU H x o') h' x o'):dG P w (aU H x o') h':=λb u q=>by
 have d:∀c y,H c=À (.own y)->c≠x:=λc y r z=>by subst z;rw[r] at j;show j
 have f:∀c l,H c=À (.aF l)->c≠x:=λc l r z=>by subst z;rw[r] at j;show j
 by_cases g:b=x
 .subst g;rw[dk] at q;cases q;show n
 .rw[ba g] at q;by_cases a:b=e
  .have q':H b=À `da:=by
    rcases o with z |z
    .show av5 (a.trans z) g
    .rw[a];show z
   rw[q] at q';cases q';let#[v,s]:=m;show#[v,by rw[a];show s]
  .show (ok b u q).e5 (λc v i r=>k c v ?_ r) (λc r=>by rw[ba<|d c b r];show r) λc l r=>by rw[ba<|f c l r];show r
   rcases i with rfl |i
   .show a
   .rintro rfl;rcases o with z |z
    .show d c b i z
    .rw[i] at z;cases z;show g rfl
end
structure Un(fs ex:c6)(H H':Hp)(h h':aW):Prop where
 keep:∀b o,h.get? b=À o->H b=Æ->b ∉ fs->b ∉ ex->h'.get? b=À o
 slot:∀b o,h.get? b=À o->H b=Æ->b∈fs->b ∉ ex->∃sl,h'.get? b=À { o with slots:=sl }
 free:∀b o,h.get? b=À o->H b=Æ->b ∉ ex->H' b=Æ
 there:∀b o,h.get? b=À o->b ∉ ex->∃o',h'.get? b=À o'
 eC:∀b xs,H b=À `aH->H' b=À `aH
 bz:∀b o u,H b=À `aJ->H' b=À `aJ
 e7:∀b ps,H b=À (.pM ps)->∃more,H' b=À (.pM<|ps++more)
section
variable{fs fs' ex ex':c6}{H H1 H2:Hp}{h h1 h2 h':aW}{a x e:ai}{o:HO}
def Un.any(u:Un fs ex H H1 h h1){ob:Obj}(q:h.get? b=À ob)(n:H b=Æ)(f:b ∉ ex):∃g,h1.get? b=À { ob with slots:=g }:=by
 by_cases d:b∈fs
 .show u.slot b ob q n d f
 .show#[ob.slots,u.keep b ob q n d f]
def Un.kept(k:∀b u,h.get? b=À u->h'.get? b=À u):Un fs ex H H h h':=
 #[λb d q _ _ _=>k b d q,λb d q _ _ _=>#[d.slots,k b d q],λ_ _ _ n _=>n,λb d q _=>#[d,k b d q],λ_ _ q=>q,λ_ _ _ q=>q,λ_ f q=>#[([].toArray),by rw[q];simp]]
def Un.refl:Un fs ex H H h h:=Un.kept λ_ _ q=>q
def Un.laid(k:∀b u,h.get? b=À u->h'.get? b=À u)(d:h.objs.size<=a)(hn:H a=Æ):Un fs ex H `bU h h' where
 keep:=λb u q _ _ _=>k b u q
 slot:=λb u q _ _ _=>#[u.slots,k b u q]
 free:=λb u q n _=>by rw[ba<|é<|Õ (Ì q) d];show n
 there:=λb u q _=>#[u,k b u q]
 eC:=λb f q=>by rw[ba<|kc q hn];show q
 bz:=λb u f q=>by rw[ba<|kc q hn];show q
 e7:=λb g q=>#[([].toArray),by rw[ba<|kc q hn,q];simp]
def Un.write(f:sR (H x))(l:e=x\/H e=À `da)(k:∀b u,b≠e->h.get? b=À u->h'.get? b=À u)(g:∃u,h'.get? e=À u):Un fs ex H `eB h h':=by
 have j:∀b,H b=Æ->b≠x:=λb n z=>by subst z;rw[n] at f;show f
 have i:∀b,H b=Æ->b≠e:=λb n z=>by
  subst z;rcases l with r |r
  .show j b n r
  .rw[n] at r;cases r
 have hm:∀b u,H b=À u->¬ sR (À u)->b≠x:=λb u q nm z=>by subst z;rw[q] at f;show nm f
 show#[λb u q n _ _=>k b u (i b n) q,λb u q n _ _=>#[u.slots,k b u (i b n) q],λb u q n _=>by rw[ba<|j b n];show n,λb u q _=>?_,
  λb m q=>by rw[ba<|hm b _ q λz=>z];show q,λb u m q=>by rw[ba<|hm b _ q λz=>z];show q,λb s q=>#[([].toArray),by rw[ba<|hm b _ q λz=>z,q];simp]]
 by_cases d:b=e
 .subst d;show g
 .show#[u,k b u d q]
end
abbrev yo(h:aW)(H:Hp):c6:=(É h.objs.size).filter λa=>(H a).isSome
abbrev nA(h:aW)(H:Hp):aW:=ž h<|yo h H
def Ro(h:aW)(H:Hp):(nA h H).objs.size=h.objs.size:=W.hideAll_size _ _
def Tu{H:Hp}(e:h.get? b=À o)(n:H b=Æ):(nA h H).get? b=À o:=
 aq4 _ e λhm=>by
  have q:(H b).isSome=Â:=(Ĳ.mp hm).2;rw[n] at q;simp at q
def WR{H:Hp}(e:(nA h H).get? b=À o):h.get? b=À o/\H b=Æ:=by
 have a:h.get? b=À o:=ad1 (yo h H) e;show#[a,?_];cases q:H b with
 |none=>rfl
 |some x=>
  have hm:b∈yo h H:=Ĳ.mpr #[ħ.mpr<|Ì a,by simp[q]];have z:(nA h H).get? b=Æ:=Ϝ (yo h H) hm;rw[z] at e;cases e
abbrev Nb(g h:aW)(L:ai):aZ:=(É h.objs.size).filterMap λa=>if a=L\/(g.get? a).isSome=Â then Æ else (h.get? a).map λo=>(a,o)
abbrev rest(g h:aW)(L d:ai):aZ:=(Nb g h L).filter λp=>decide<|p.1≠d
structure Mod(K:aq)(mg:br)(base:aW):Prop where
 nU:K.In base
 glob:base.Ns Š mg
 blt:∃mb,base.Ns builtinsNs mb/\∀x:Str,x≠"__name__"->mb x=ŏ x
 nolimit:base.NoLimit
structure Cx where
 prog:ê
 w:Ă
 K:ac7
 mg:br
 base:Heap
 A:ą
 N:ah
 s₀:Shared
 H₀:Hp
 env:Env
 outer:cK
 stack:cK
 ex:c6
 fn:Str->Bool
 calm:Bool
 pn:aZ
 xe:ar->ao->Prop
nonrec abbrev kW(X:Cx)(x:Str):Prop:=X.fn x=Â\/X.env.scope.names.lookup x=À .local
abbrev cO(l:cK):c6:=l.filterMap (·.frame)
nonrec abbrev Cx.fs(X:Cx):c6:=cO X.outer
abbrev pW(sc:Ω)(x:Str):Prop:=sc.names.lookup x=À .local\/sc.names.lookup x=À .cell\/sc.names.lookup x=À .free
abbrev Loc(sc:Ω)(x:Str):Prop:=sc.names.lookup x=À .local\/sc.names.lookup x=À .cell
abbrev Fe(env:Env)(h:aW)(m:br)(x:Str)(u:ar):Prop:=
 (env.kindOf x=À .local/\m x=À u)\/((env.kindOf x=À .cell\/env.kindOf x=À .free)/\∃c,env.cells.lookup x=À c/\h.IsCell c (À u))
structure Cx.Ok(X:Cx):Prop where
 mod:Mod X.K X.mg X.base
 kind:X.env.scope.kind=.function
 glob:X.env.globals=Š
 blt:X.env.builtins=builtinsNs
 above:⇑X.s₀<=X.env.locals
 inj:∀x y c,X.env.cells.lookup x=À c->X.env.cells.lookup y=À c->x=y
 has:∀x,(X.env.kindOf x=À .cell\/X.env.kindOf x=À .free)->∃c,X.env.cells.lookup x=À c
 oM:∀x c,X.fn x=Â->X.env.cells.lookup x=À c->⇑X.s₀<=c
 hd:X.calm=Â->X.A.handled=Æ
 frames:X.A.frames=À X.stack
 q0:X.stack=X.outer\/(X.stack=X.env::X.outer/\X.env.frame=À X.env.locals)
 qM:∀b∈X.ex,b≠X.env.locals/\∀x c,X.env.cells.lookup x=À c->c≠b
 bs:∀b o,X.base.get? b=À o->X.s₀.heap.get? b=À o/\X.H₀ b=Æ
 kL:X.base.objs.size<=⇑X.s₀
 iN:∀b o,X.base.get? b=À o->b ∉ X.ex
 iH:∀b∈X.ex,b ∉ X.fs
 eA:X.s₀.heap.FunFrames X.base X.outer
 mS:∀b∈X.fs,X.H₀ b=Æ
structure ax(X:Cx)(aa:aZ)(j:List (Option V))(H:Hp)(s:ao):Prop where
 ok:X.Ok
 os:s.os=X.s₀.os
 bare:aa6 s.gens
 base:Un X.fs X.ex X.H₀ H X.s₀.heap s.heap
 loc:∃m,s.heap.Ns X.env.locals m/\∀(i:Nat)(x:Str)(v:V),X.N[i]?=À x->j[i]?=À (À v)->pW X.env.scope x->∃u,aE v u/\Fe X.env s.heap m x u
 cell:∀x c,X.env.cells.lookup x=À c->∃v,s.heap.IsCell c v
 free:H X.env.locals=Æ
 cg:∀x c,X.env.cells.lookup x=À c->H c=Æ
 pin:∀p∈X.pn++aa,s.heap.get? p.1=À p.2/\H p.1=Æ/\p.1≠X.env.locals/\p.1 ∉ X.fs/\∀v,p.2.data≠.cell v
 aS:dG X.prog X.w H s.heap
 len:↑j=↑X.N
section
variable{X:Cx}{aa:aZ}{σ:List (Option V)}{H H':Hp}{s:ao}{h':aW}
def Cx.Ok.B2(ok:X.Ok)(e:X.base.get? b=À o):b ∉ X.fs:=λa=>by
 have:=(ok.eA.mem a).1;rw[e] at this;cases this
def ax.bs(I:ax X aa σ H s):∀b o,X.base.get? b=À o->s.heap.get? b=À o/\H b=Æ:=λb o e=>
 #[I.base.keep b o (I.ok.bs b o e).1 (I.ok.bs b o e).2 (I.ok.B2 e)<|I.ok.iN b o e,I.base.free b o (I.ok.bs b o e).1 (I.ok.bs b o e).2<|I.ok.iN b o e]
def ax.bk(I:ax X aa σ H s):∀b o,X.base.get? b=À o->s.heap.get? b=À o:=λb o e=>(I.bs b o e).1
def ax.mod(I:ax X aa σ H s):Mod X.K X.mg X.base:=I.ok.mod
def ax.dh(I:ax X aa σ H s):X.K.In s.heap:=I.ok.mod.nU.keeps I.bk
def ax.lt(I:ax X aa σ H s):X.env.locals<⇑s:=let ⟨_,hn,_⟩:=I.loc;hn.lt
def ax.sz(I:ax X aa σ H s):⇑X.s₀<=⇑s:=Ï I.ok.above<|ň I.lt
def ax.B3(I:ax X aa σ H s)(h:⇑s<=a):a ∉ X.fs:=λb=>by
 let#[_,o,d,_]:=I.ok.eA.mem b;show av5 (Õ (Ì d)<|Ï I.sz h)<|ĸ _
def ax.nL(I:ax X aa σ H s):∀x c,X.env.cells.lookup x=À c->c≠X.env.locals:=λx c e z=>by
 ∎;let#[v,o,d,hd]:=I.cell x c e;let#[m,#[h,g,f,b,a,_],_]:=I.loc;∎;rw[z,b] at d;cases d;rw[a] at hd;cases hd
def ax.eA(I:ax X aa σ H s):s.heap.FunFrames X.base X.outer:=by
 have all:∀(l:cK),(∀b∈cO l,b∈X.fs)->X.s₀.heap.FunFrames X.base l->s.heap.FunFrames X.base l:=by
  intro l
  induction l with
  |nil=>intro _ _;trivial
  |cons env r n=>
   intro g i;let#[h,#[L,o,f,hn,j,hd],m]:=i;have a:L∈X.fs:=g L (by unfold cO;rw[Ř,f];show ϐ);let#[q,e]:=I.base.slot L o j (I.ok.mS L a) a λz=>I.ok.iH L z a
   show#[h,#[L,_,f,hn,e,hd],n (λb d=>g b (by unfold cO;rw[Ř,f];show Ĥ _ d)) m]
 show all X.outer (λ_ d=>d) I.ok.eA
def ax.stack(I:ax X aa σ H s):s.heap.FunFrames X.base X.stack:=by
 rcases I.ok.q0 with e |⟨e,a⟩
 .rw[e];show I.eA
 .rw[e];let#[m,hn,_]:=I.loc;show .cons (by rw[I.ok.kind];decide) a hn ?_ I.eA;show Ņ<|Ï I.ok.kL I.ok.above
def ax.f9(I:ax X aa σ H s):∀b∈cO X.stack,b∈X.env.locals::X.fs:=λb a=>by
 rcases I.ok.q0 with e |⟨e,d⟩
 .rw[e] at a;show Ĥ _ a
 .rw[e] at a;unfold cO at a;rw[Ř,d] at a;show a
def ax.g7(I:ax X aa σ H s):∀b∈cO X.stack,H b=Æ:=λb a=>by
 rcases ã.mp (I.f9 b a) with e |a
 .rw[e];show I.free
 .obtain⟨_,o,ho,_⟩:=I.ok.eA.mem a;show I.base.free b o ho (I.ok.mS b a) λz=>I.ok.iH b z a
def ax.step{g':Array ap9}{t':Nat}{d':Drawn}{ch:c6}(I:ax X aa σ H s)(g:∀b∈ch,(b∈X.ex\/⇑X.s₀<=b)/\b≠X.env.locals/\(∀x c,X.env.cells.lookup x=À c->c≠b)/\∀p∈X.pn++aa,p.1≠b)(keep:∀b o,b≠X.env.locals->b ∉ X.fs->b ∉ ch->s.heap.get? b=À o->H b=Æ->h'.get? b=À o)(slot:∀b o,b≠X.env.locals->b∈X.fs->b ∉ ch->s.heap.get? b=À o->H b=Æ->∃E,h'.get? b=À { o with slots:=E })(free:∀b o,b ∉ ch->s.heap.get? b=À o->H b=Æ->H' b=Æ)(there:∀b o,b ∉ ch->s.heap.get? b=À o->∃o',h'.get? b=À o')(eC:∀b xs,H b=À `aH->H' b=À `aH)(bz:∀b o u,H b=À `aJ->H' b=À `aJ)(e7:∀b ps,H b=À (.pM ps)->∃C,H' b=À (.pM<|ps++C))(ns:∀m,s.heap.Ns X.env.locals m->h'.Ns X.env.locals m)(aS:dG X.prog X.w H' h')(N:aa6 g'):
  ax X aa σ H' { s with heap:=h',gens:=g',drawn:=d',toks:=t' }:=by
 have D:∀b o,X.s₀.heap.get? b=À o->b≠X.env.locals:=λb o e=>é<|Õ (Ì e) I.ok.above
 have y:∀b o,X.s₀.heap.get? b=À o->b ∉ X.ex->b ∉ ch:=λb o e a A=>by
  rcases (g b A).1 with z |z
  .show a z
  .show av5 (Õ (Ì e) z) (ĸ _)
 have f:∀x c,X.env.cells.lookup x=À c->∀v,s.heap.IsCell c v->h'.IsCell c v:=λx c e v ⟨o,ho,hd⟩=>by
  have h:c ∉ ch:=λz=>(g c z).2.2.1 x c e rfl
  by_cases J:c∈X.fs
  .obtain⟨E,q⟩:=slot c o (I.nL x c e) J h ho<|I.cg x c e;show#[_,q,hd]
  .show#[o,keep c o (I.nL x c e) J h ho<|I.cg x c e,hd]
 show#[I.ok,I.os,N,#[λb o e n A a=>?_,λb o e n A a=>?_,λb o e n a=>?_,λb o e a=>?_,λb xs e=>eC b xs<|I.base.eC b xs e,λb o xs e=>bz b o xs<|I.base.bz b o xs e,λb ps e=>?_],?_,λx c e=>?_,?_,λx c e=>?_,λp L=>?_,aS,I.len]
 .show keep b o (D b o e) A `cA (I.base.keep b o e n A a) (I.base.free b o e n a)
 .obtain⟨E,j⟩:=I.base.slot b o e n A a;let#[G,B]:=slot b _ (D b o e) A `cA j<|I.base.free b o e n a;show#[G,B]
 .obtain⟨o',j⟩:=I.base.there b o e a;show free b o' `cA j<|I.base.free b o e n a
 .obtain⟨o',j⟩:=I.base.there b o e a;show there b o' `cA j
 .obtain⟨m1,j⟩:=I.base.e7 b ps e;let#[O,B]:=e7 b _ j;show#[m1++O,by rw[B,Array.append_assoc]]
 .obtain⟨m,hn,hl⟩:=I.loc;show#[m,ns m hn,λi x v j B M=>?_];let#[u,r,l]:=hl i x v j B M;show#[u,r,?_];rcases l with l |⟨k,c,e,z⟩
  .show .inl l
  .show .inr ⟨k,c,e,f x c e _ z⟩
 .obtain⟨v,z⟩:=I.cell x c e;show#[v,f x c e v z]
 .obtain⟨m,⟨o,_,_,ho,_⟩,_⟩:=I.loc;show free _ o (λz=>(g _ z).2.1 rfl) ho I.free
 .obtain⟨v,o,ho,hd⟩:=I.cell x c e;show free c o (λz=>(g c z).2.2.1 x c e rfl) ho<|I.cg x c e
 .obtain⟨e,n,ne,nf,d⟩:=I.pin p L;have h:p.1 ∉ ch:=λz=>(g p.1 z).2.2.2 p L rfl
  show#[keep p.1 p.2 ne nf h e n,free p.1 p.2 h e n,ne,nf,d]
def ax.un{t':Nat}(I:ax X aa σ H s)(u:Un X.fs [] H H' s.heap h')(aS:dG X.prog X.w H' h'):ax X aa σ H' { s with heap:=h',toks:=t' }:=by
 ∎;let#[m,#[o,q,l,h,r],_]:=id I.loc;let#[y,i]:=u.any h I.free ∅;∎;show I.step (g':=s.gens) (d':=s.drawn) (ch:=[]) (λ_ z=>nomatch z) (λb o _ g _ e n=>u.keep b o e n g<|by simp) (λb o _ g _ e n=>u.slot b o e n g<|by simp) (λb o _ e n=>u.free b o e n<|by simp) (λb o _ e=>u.there b o e<|by simp) u.eC u.bz u.e7 (λv hm=>by
  let#[x,f,d,a,j]:=hm;rw[h] at a;cases a;show#[_,f,d,i,j]) aS I.bare
def ax.call{g':Array ap9}{t':Nat}{d':Drawn}{ch:c6}(I:ax X aa σ H s)(u:Un `cr ch H H' s.heap h')(aS:dG X.prog X.w H' h')(q:aa6 g')(d:∀b∈ch,(b∈X.ex\/⇑X.s₀<=b)/\b≠X.env.locals/\(∀x c,X.env.cells.lookup x=À c->c≠b)/\∀p∈X.pn++aa,p.1≠b):
  ax X aa σ H' { s with heap:=h',gens:=g',drawn:=d',toks:=t' }:=by
 let#[m,#[o,A,y,j,r],_]:=id I.loc;let#[D,i]:=u.any j I.free λz=>(d _ z).2.1 rfl
 show I.step (ch:=ch) d (λb o i l a e n=>u.keep b o e n (λz=>(ã.mp<|I.f9 b z).elim i l) a) (λb o _ _ a e n=>u.any e n a) (λb o a e n=>u.free b o e n a) (λb o a e=>u.there b o e a) u.eC u.bz u.e7 (λB hm=>by
  let#[C,h,g,f,v]:=hm;rw[j] at f;cases f;show#[_,h,g,i,v]) aS q
def ax.turned{t':Nat}{it:ai}(I:ax X aa σ H s)(k:∀b o,b≠it->s.heap.get? b=À o->h'.get? b=À o)(hn:H it=Æ)(f:it≠X.env.locals)(g:it∈X.ex\/⇑X.s₀<=it)(h:∀x c,X.env.cells.lookup x=À c->c≠it)(i:∀p∈X.pn++aa,p.1≠it):ax X aa σ H { s with heap:=h',toks:=t' }:=by
 have d:∀b u,H b=À u->b≠it:=λb u e z=>by rw[z,hn] at e;cases e
 show I.step (g':=s.gens) (d':=s.drawn) (ch:=[it]) (λb j=>?_) (λb o _ _ a e _=>k b o (λz=>a<|by simp[z]) e) (λb o _ _ a e _=>#[o.slots,k b o (λz=>a<|by simp[z]) e]) (λ_ _ _ _ n=>n)
  (λb o a e=>#[o,k b o (λz=>a<|by simp[z]) e]) (λ_ _ e=>e) (λ_ _ _ e=>e) (λb l e=>#[([].toArray),by rw[e];simp]) (λm hm=>?_) (λb u e=>?_) I.bare
 .have e:b=it:=by simpa using j
  subst e;show#[g,f,h,i]
 .obtain⟨o,es,ep,ho,r⟩:=hm;show#[o,es,ep,k _ o (đ f) ho,r]
 .show (I.aS b u e).e5 (λc v a q=>k c v ?_ q) (λ_ q=>q) λ_ _ q=>q
  rcases a with z |z
  .rw[z];show d b u e
  .show d c _ z
def ax.tok(I:ax X aa σ H s)(t:Nat):ax X aa σ H { s with toks:=t }:=I.un (h':=s.heap) (t':=t) Un.refl I.aS
def ax.kept(I:ax X aa σ H s)(k:∀b u,s.heap.get? b=À u->h'.get? b=À u):ax X aa σ H { s with heap:=h',toks:=t' }:=I.un (Un.kept k)<|I.aS.kept k
def ax.laid(I:ax X aa σ H s)(k:∀b u,s.heap.get? b=À u->h'.get? b=À u)(d:⇑s<=a)(e:bc X.prog X.w `bU h' a o):
  ax X aa σ `bU { s with heap:=h',toks:=t' }:=I.un (Un.laid k d<|I.aS.fresh d)<|I.aS.laid k d e
def ax.write(I:ax X aa σ H s)(g:sR (H x))(f:e=x\/H e=À `da)(k:∀b u,b≠e->s.heap.get? b=À u->h'.get? b=À u)(a:∃u,h'.get? e=À u)(d:bc X.prog X.w `eB h' x o):ax X aa σ `eB { s with heap:=h',toks:=t' }:=I.un (Un.write g f k a)<|I.aS.write g f k a d
def ax.weak(I:ax X aa σ H s)(e:↑σ'=↑σ)(w:∀(i:Nat) v,σ'[i]?=À (À v)->σ[i]?=À (À v)):ax X aa σ' H s:=
 #[I.ok,I.os,I.bare,I.base,let ⟨m,hn,hl'⟩:=I.loc;#[m,hn,λi x v a b d=>hl' i x v a (w i v b) d],I.cell,I.free,I.cg,I.pin,I.aS,e.trans I.len]
def ax.fN(I:ax X aa σ H s)(h:∀p∈a,s.heap.get? p.1=À p.2/\H p.1=Æ/\p.1≠X.env.locals/\p.1 ∉ X.fs/\∀v,p.2.data≠.cell v):ax X a σ H s:=
 #[I.ok,I.os,I.bare,I.base,I.loc,I.cell,I.free,I.cg,λp b=>(Ê.mp b).elim (λz=>I.pin p<|ū _ z)<|h p,I.aS,I.len]
def Ah{N:ah}(f:N.Nodup){i j:Nat}{x:Str}(a:N[i]?=À x)(b:N[j]?=À x):i=j:=by
 let#[g,d]:=Á.mp a;let#[h,e]:=Á.mp b;show (List.getElem_inj f).mp<|d.trans e.symm
def GH{M:Model}{A:ą}{E:ar->ao->Prop}{i:Nat}{x:Str}{v:V}{u:ar}{Q:Unit->ao->Prop}(I:ax X aa σ H s)(hN:X.N.Nodup)(hi:X.N[i]?=À x)(C:Loc X.env.scope x)(r:aE v u)(h:∀s',ax X aa (σ.set i<|À v) H s'->(∃a,ϳ a s.heap s'.heap/\(a=X.env.locals\/X.env.cells.lookup x=À a))->Q () s')(hf:kW X x:=by first |show .inl rfl |show .inr rfl |assumption):Ú M A `dt Q E s:=by
 let#[m,hn,hl]:=id I.loc;have Y:(X.env.scope.kind == .class || (X.env.scope.kind == .module&&X.env.locals != X.env.globals))=Ç:=by rw[I.ok.kind];rfl
 have J:i<↑σ:=by rw[I.len];show (Á.mp hi).1
 have nL:=I.nL;have l:∀{a:ai}{h':aW},(∃o,s.heap.get? a=À o/\H a=Æ)->ϳ a s.heap h'->dG X.prog X.w H h':=λ{a h'} ha f b ob e=>by
  let#[_,_,D]:=ha;show (I.aS b ob e).e5 (λc w' B q=>(f.2 c ?_).trans q) (λ_ q=>q) λ_ _ q=>q
  rintro rfl;rcases B with rfl |B
  .rw[D] at e;cases e
  .rw[D] at B;cases B
 rcases C with L |L
 .show wpAny_storeName_local L hn (λh' γ f=>?_) Y;let#[oL,_,_,δ,_]:=id hn;show h _ #[I.ok,I.os,I.bare,#[λb o e n O C=>?_,λb o e n O C=>?_,I.base.free,λb o e C=>?_,I.base.eC,I.base.bz,I.base.e7],#[_,γ,λj y v' g G e3=>?_],λy c e=>?_,I.free,I.cg,λp hp=>?_,l #[oL,δ,I.free] f,by simpa using I.len] #[_,f,.inl rfl]
  .show (f.2 b<|é<|Õ (Ì e) I.ok.above).trans `cP
  .obtain⟨sl,g⟩:=I.base.slot b o e n O C;show#[sl,(f.2 b<|é<|Õ (Ì e) I.ok.above).trans g]
  .obtain⟨o',g⟩:=I.base.there b o e C;show#[o',(f.2 b<|é<|Õ (Ì e) I.ok.above).trans g]
  .by_cases hj:j=i
   .subst hj;rw[hi] at g;cases g;rw[ÿ J] at G;cases G;show#[u,r,.inl #[L,by simp]]
   .rw[î<|đ hj] at G;let#[u',r',q]:=hl j y v' g G e3;show#[u',r',?_];rcases q with⟨k,e⟩ |⟨k,c,e,z⟩
    .show .inl ⟨k,?_⟩;have:y≠x:=λe=>hj<|Ah hN g<|e ▸ hi
     simp[this,e]
    .show .inr #[k,c,e,z.sameBut f<|nL y c e]
  .obtain⟨w',z⟩:=I.cell y c e;show#[w',z.sameBut f<|nL y c e]
  .obtain⟨e,n,ne,nf,d⟩:=I.pin p hp;show#[(f.2 p.1 ne).trans e,n,ne,nf,d]
 .have hfn:X.fn x=Â:=by
   rcases hf with z |z
   .show z
   .rw[z] at L;cases L
  let#[c,B]:=I.ok.has x<|.inl L;let#[w',z]:=I.cell x c B;show wpAny_storeName_cell I.ok.kind L B z<|λh' U f=>?_;let#[oc,α,β]:=id z;show h { s with heap:=h' } #[I.ok,I.os,I.bare,#[λb o e n O C=>?_,λb o e n O C=>?_,I.base.free,λb o e C=>?_,I.base.eC,I.base.bz,I.base.e7],#[m,hn.sameBut f<|đ<|nL x c B,λj y v' g G e3=>?_],λy c' e=>?_,I.free,I.cg,λp hp=>?_,l #[oc,α,I.cg x c B] f,by simpa using I.len] #[c,f,.inr B]
  .show (f.2 b<|é<|Õ (Ì e)<|I.ok.oM x c hfn B).trans `cP
  .obtain⟨sl,g⟩:=I.base.slot b o e n O C;show#[sl,(f.2 b<|é<|Õ (Ì e)<|I.ok.oM x c hfn B).trans g]
  .obtain⟨o',g⟩:=I.base.there b o e C;show#[o',(f.2 b<|é<|Õ (Ì e)<|I.ok.oM x c hfn B).trans g]
  .by_cases hj:j=i
   .subst hj;rw[hi] at g;cases g;rw[ÿ J] at G;cases G;show#[u,r,.inr #[.inl L,c,B,U]]
   .rw[î<|đ hj] at G;let#[u',r',q]:=hl j y v' g G e3;show#[u',r',?_];rcases q with q |⟨k,c',e,z'⟩
    .show .inl q
    .show .inr ⟨k,c',e,z'.sameBut f ?_⟩;rintro rfl;show hj<|Ah hN g<|I.ok.inj _ _ _ e B ▸ hi
  .by_cases hcc:c'=c
   .subst hcc;show#[_,U]
   .obtain⟨w2,z2⟩:=I.cell y c' e;show#[w2,z2.sameBut f hcc]
  .obtain⟨e,n,ne,nf,d⟩:=I.pin p hp;show#[(f.2 p.1 ?_).trans e,n,ne,nf,d];intro q;rw[q,α] at e;have q':oc=p.2:=Ø e;show d w' (by rw[<- q'];show β)
def uw{Q:Unit->ao->Prop}(I:ax X aa σ H s)(b:X.N.Nodup)(e:X.N[i]?=À x)(f:Loc X.env.scope x)(r:aE v u)(h:∀s',ax X aa (σ.set i<|À v) H s'->Q () s')(d:kW X x:=by first |show .inl rfl |show .inr rfl |assumption):Ú M A `dt Q E s:=
 GH I b e f r (λs' a _=>h s' a) d
def ax.eO(I:ax X aa σ H s)(f:s'.os=s.os)(u:Un `cr ch H H' s.heap s'.heap)(aS:dG X.prog X.w H' s'.heap)(d:aa6 s'.gens)(a:∀b∈ch,(b∈X.ex\/⇑X.s₀<=b)/\b≠X.env.locals/\(∀x c,X.env.cells.lookup x=À c->c≠b)/\∀p∈X.pn++aa,p.1≠b):ax X aa σ H' s':=by
 let#[h',g',d',t',g]:=s';have e:g=s.os:=f;subst e;show I.call (g':=g') (t':=t') (d':=d') u aS d a
end
nonrec abbrev XK:=ϥ->bW->Hp->Prop
nonrec abbrev St:=List<|Option V
nonrec abbrev VK:=V->Hp->Prop
nonrec abbrev TE:=St->Hp->VK->Prop
nonrec abbrev TT:=St->Hp->(Bool->Hp->Prop)->Prop
nonrec abbrev TA:=St->Hp->(ay->Hp->Prop)->Prop
structure Ends where
 nx:St->Hp->Prop
 rt:VK
 bk:St->Hp->Prop:=λ_ _=>False
 ct:St->Hp->Prop:=λ_ _=>False
nonrec abbrev TS:=Ends->St->Hp->Prop
abbrev EP(X:Cx)(aa:aZ)(j:St)(Q:VK)(u:ar)(s':ao):Prop:=∃v a,ax X aa j a s'/\aE v u/\Q v a
abbrev TP(X:Cx)(aa:aZ)(j:St)(Q:Bool->Hp->Prop)(b:Bool)(s':ao):Prop:=∃a,ax X aa j a s'/\Q b a
abbrev AP(X:Cx)(aa:aZ)(j:St)(Q:ay->Hp->Prop)(us:aT)(s':ao):Prop:=∃vs a,ax X aa j a s'/\aH vs us/\Q vs a
abbrev SP(X:Cx)(aa:aZ)(D:Ends)(f:Flow)(s':ao):Prop:=
 match f with
 |.next=>∃b a,ax X aa b a s' /\ D.nx b a
 |.brk=>∃b a,ax X aa b a s' /\ D.bk b a
 |.cont=>∃b a,ax X aa b a s' /\ D.ct b a
 |.ret u=>∃v b a,ax X aa b a s' /\ aE v u /\ D.rt v a
abbrev PE(X:Cx)(e:ě)(t:TE):Prop:=
 ∀(aa:aZ)(s:ao)(j:St)(H:Hp)(Q:VK),ax X aa j H s->t j H Q->Ú `ab X.A `bg `av X.xe s
abbrev PT(X:Cx)(e:ě)(t:TT):Prop:=
 ∀(aa:aZ)(s:ao)(j:St)(H:Hp)(Q:Bool->Hp->Prop),ax X aa j H s->t j H Q->Ú `ab X.A (al1 e X.env<|eval e X.env) `db X.xe s
abbrev PW(X:Cx)(e:ě)(t:TT):Prop:=
 ∀(whole:Sem ϥ)(aa:aZ)(s:ao)(j:St)(H:Hp)(Q:Bool->Hp->Prop),ax X aa j H s->t j H Q->Ú `ab X.A (al1 e X.env whole) `db X.xe s
def PW.pt(h:PW X e t):PT X e t:=h _
abbrev PA(X:Cx)(a:b5)(t:TA):Prop:=
 ∀(pos:Pos)(aa:aZ)(s:ao)(j:St)(H:Hp)(Q:ay->Hp->Prop),ax X aa j H s->t j H Q->Ú `ab X.A (spliced<|Ϗ pos<|ē a X.env) (AP X aa j Q) X.xe s
abbrev PS(X:Cx)(st:Ā)(t:TS):Prop:=
 ∀(aa:aZ)(s:ao)(j:St)(H:Hp)(D:Ends),ax X aa j H s->t D j H->Ú `ab X.A (exec st X.env) `dQ X.xe s
abbrev fR(X:Cx)(st:List Ā)(t:TS):Prop:=
 ∀(aa:aZ)(s:ao)(j:St)(H:Hp)(D:Ends),ax X aa j H s->t D j H->Ú `ab X.A (execs st X.env) `dQ X.xe s
def bu{Q b:j->ao->Prop}(h:Ú M A t Q E s)(d:∀a s,Q a s->b a s):Ú M A t b E s:=Đ h d λ_ _ x=>x
section
variable{X:Cx}
abbrev hJ(i:Nat):TE:=λj H Q=>∃v,j[i]?=À (À v)/\Q v H
abbrev tC(v:V):TE:=λ_ H Q=>Q v H
def xE(n:X.N[i]?=À x)(q:pW X.env.scope x)(hd: ~~~(dY x))(f: ~~~((x == ("__classdict__":Str))=Ç)):PE X `aq (hJ i):=by
 intro aa s j H Q I h;∎;let#[v,e,h]:=h;let#[m,hn,o]:=I.loc;let#[u,r,l]:=o i x v n e q;∎;have b:EP X aa j Q u s:=#[v,H,I,r,h];rcases l with⟨d,hm⟩ |⟨d,c,g,a⟩
 .show wpAny_Name (wpAny_loadName_local I.ok.kind d hn hm b) hd
 .rcases d with d |d
  .show wpAny_Name (wpAny_loadName_cell I.ok.kind d g a b) hd
  .show wpAny_Name (wpAny_loadName_free I.ok.kind d g a b f) hd
def Yd{i j pos}:PE X (.Constant `aE j pos) (tC<|.int i):=λ_ _ _ H _ I h=>wpAny_Constant_int #[.int i,H,I.tok _,#[_,rfl],h]
def Ma{b j pos}:PE X (.Constant (.bool b) j pos) (tC<|.bl b):=λ_ _ _ H _ I h=>Constant_bool #[.bl b,H,I,rfl,h]
def Ye{j pos}:PE X `dc (tC .aN):=λ_ _ _ H _ I h=>Constant_none #[.aN,H,I,rfl,h]
def Jk{x j pos}:PE X (.Constant `bC j pos) (tC<|.str x):=λ_ _ _ H _ I h=>Calls.Constant_str #[.str x,H,I.tok _,#[_,rfl],h]
abbrev Gl(X:Cx)(x:Str):Prop:=X.env.kindOf x=À .globalImplicit
def oH{Q:ar->ao->Prop}(I:ax X aa j H s)(a:Gl X x)(hm:X.mg x=À u)(h:Q u s)(hd: ~~~(dY x)):Ú `ab X.A (eval `aq X.env) Q E s:=
 aj0 I.ok.kind a (Calls.loadGlobal_global (by rw[I.ok.glob];show I.mod.glob.keeps I.bk) hm h) hd
def k6{Q:ar->ao->Prop}(I:ax X aa j H s)(d:Gl X x)(hm:X.mg x=Æ)(e:ŏ x=À u)(h:Q u s)(hn: ~~~(x≠"__name__"))(hd: ~~~(dY x)):Ú `ab X.A (eval `aq X.env) Q E s:=by
 let#[f,a,b]:=I.mod.blt;show aj0 I.ok.kind d (Calls.loadGlobal_builtin (by rw[I.ok.glob];show I.mod.glob.keeps I.bk) hm (by rw[I.ok.blt];show a.keeps I.bk) ((b x hn).trans e) h) hd
def WS(a:Gl X x)(hm:X.mg x=À u)(r:aE v u)(hd: ~~~(dY x)):PE X `aq (tC v):=
 λ_ _ _ H _ I h=>oH I a hm #[v,H,I,r,h] hd
def WT(a:Gl X x)(hm:X.mg x=Æ)(b:ŏ x=À u)(r:aE v u)(hn: ~~~(x≠"__name__"))(hd: ~~~(dY x)):PE X `aq (tC v):=
 λ_ _ _ H _ I h=>k6 I a hm b #[v,H,I,r,h] hn hd
variable{a b:ě}{ta tb:TE}{pos:Pos}
abbrev tB(t:TE):TT:=λj H Q=>t j H λx H1=>∃c,x=.bl c/\Q c H1
def Yf(h:PE X e t)(l:∀whole,al1 e X.env whole=(do let v <- whole;ag2 e.pos;holding [v] `cl):=by intro _;rfl):PT X e (tB t):=by
 intro aa s j H Q I m;show isTrue_plain (bu (h aa s j H _ I m) λv r f=>?_)<|l _;∎;let#[x,g,i,o,n]:=f;let#[d,rfl,q]:=n;∎;cases o;show ő #[g,i,q]
variable{tA tB':TT}{rest:b5}
abbrev Ff(t u:TT):TT:=λj H Q=>t j H λc d=>if c=Â then u j d Q else Q Ç d
abbrev Kz(t u:TT):TT:=λj H Q=>t j H λc d=>if c=Â then Q Â d else u j d Q
abbrev Fg(t:TT):TT:=λj H Q=>t j H λc H1=>Q (!c) H1
def WU(d:PT X a tA):PW X (.BoolOp .And [a] pos) tA:=by
 intro g aa s j H Q I h;show isTrue_and<|bu (d aa s j H Q I h) λc f e=>?_;cases c with
 |true=>show isTrue_and_nil e
 |false=>show e
def Yg(d:PT X a tA):PW X (.BoolOp .Or [a] pos) tA:=by
 intro g aa s j H Q I h;show isTrue_or<|bu (d aa s j H Q I h) λc f e=>?_;cases c with
 |false=>show isTrue_or_nil e
 |true=>show e
def Yh(i:PT X a tA)(l:PW X (.BoolOp .And (b::rest) pos) tB'):PW X (.BoolOp .And (a::b::rest) pos) (Ff tA tB'):=by
 intro n aa s j H Q I h;show isTrue_and<|bu (i aa s j H _ I h) λc m d=>?_;let#[e,f,g]:=d;cases c with
 |true=>show l n aa m j e Q f g
 |false=>show#[e,f,g]
def Mb(i:PT X a tA)(l:PW X (.BoolOp .Or (b::rest) pos) tB'):PW X (.BoolOp .Or (a::b::rest) pos) (Kz tA tB'):=by
 intro n aa s j H Q I h;show isTrue_or<|bu (i aa s j H _ I h) λc m d=>?_;let#[e,f,g]:=d;cases c with
 |true=>show#[e,f,g]
 |false=>show l n aa m j e Q f g
def Yi(e:PT X a tA):PT X `du (Fg tA):=by
 intro aa s j H Q I h;show isTrue_not<|e aa s j H (λc d=>Q (!c) d) I h
abbrev ED(ta tb:TE):TE:=λj H Q=>ta j H λx d=>∃c,x=.bl c/\if c=Â then tb j d Q else Q `cx d
abbrev Fh(ta tb:TE):TE:=λj H Q=>ta j H λx d=>∃c,x=.bl c/\if c=Â then Q `br d else tb j d Q
abbrev EE(ta:TE):TE:=λj H Q=>ta j H λx d=>∃c,x=.bl c/\Q (.bl (!c)) d
def Yj{op}(h:PE X a t):PE X (.BoolOp op [a] pos) t:=λaa s j H Q I d=>BoolOp_one<|h aa s j H Q I d
def Yk(i:PE X a ta)(l:PE X (.BoolOp .And (b::rest) pos) tb):PE X (.BoolOp .And (a::b::rest) pos) (ED ta tb):=by
 intro aa s j H Q I h;show BoolOp_and<|bu (i aa s j H _ I h) λv n e=>?_;∎;let#[x,f,g,m,d]:=e;let#[c,rfl,d]:=d;∎;cases m;show ő ?_;cases c with
 |true=>show l aa n j f Q g d
 |false=>show#[.bl Ç,f,g,rfl,d]
def Mc(i:PE X a ta)(l:PE X (.BoolOp .Or (b::rest) pos) tb):PE X (.BoolOp .Or (a::b::rest) pos) (Fh ta tb):=by
 intro aa s j H Q I h;show BoolOp_or<|bu (i aa s j H _ I h) λv n e=>?_;∎;let#[x,f,g,m,d]:=e;let#[c,rfl,d]:=d;∎;cases m;show ő ?_;cases c with
 |false=>show l aa n j f Q g d
 |true=>show#[.bl Â,f,g,rfl,d]
def Yl(i:PE X a ta):PE X `du (EE ta):=by
 intro aa s j H Q I h;show UnaryOp_<|bu (i aa s j H _ I h) λv m e=>?_;∎;let#[x,f,g,l,d]:=e;let#[c,rfl,d]:=d;∎;cases l;show not_of<|ő #[.bl (!c),f,g,rfl,d]
abbrev Kx(t:TT)(ta tb:TE):TE:=λj H Q=>t j H λc d=>if c=Â then ta j d Q else tb j d Q
def Tv(o:PT X c tA)(m:PE X a ta)(n:PE X b tb):PE X `ej (Kx tA ta tb):=by
 intro aa s j H Q I h;show wpAny_IfExp<|bu (o aa s j H _ I h) λd l e=>?_;let#[f,g,i]:=e;cases d with
 |true=>show m aa l j f Q g i
 |false=>show n aa l j f Q g i
end
abbrev bw(K:aq)(H:Hp)(a:ai)(xs:ay):Prop:=
 Rd H a `bV\/
  ∃(o:Obj)(b:cS)(n:Nat),K.lookup a=À o/\o.cls=.type "list"/\o.dict=Æ/\o.data=.seq b n/\b.size<=Ò/\aH xs b.toList
abbrev cR(K:aq)(H:Hp)(a:ai)(xs:ay):Prop:=
 Rd H a `aH\/
  ∃(o:Obj)(b:cS)(n:Nat),K.lookup a=À o/\o.cls=.type "tuple"/\o.data=.seq b n/\b.size<=Ò/\aH xs b.toList
abbrev NA:ar->Option V
 |.none=>À .aN
 |.bool b=>À<|.bl b
 |.int i _=>À<|.int i
 |.str x _=>À<|.str x
 |.bytes b _=>À<|.hX b
 |.float b _=>À<|.nS b
 |.ref a=>À<|.ref a
 |.type n=>À<|.ty n
 |_=>Æ
def aE.abs(r:aE x u):NA u=À x:=by
 cases x with
 |aN=>cases r;rfl
 |bl _=>cases r;rfl
 |int _=>let#[t,rfl]:=r;rfl
 |str _=>let#[t,rfl]:=r;rfl
 |hX _=>let#[t,rfl]:=r;rfl
 |nS _=>let#[t,rfl]:=r;rfl
 |ref _=>cases r;rfl
 |ty _=>cases r;rfl
def aE.inj(r:aE x u)(q:aE y u):x=y:=Ø<|r.abs.symm.trans q.abs
def aH.inj:∀{xs ys:ay}{us:aT},aH xs us->aH ys us->xs=ys:=by
 intro xs ys us h
 induction h generalizing ys with
 |nil=>intro g;cases g;rfl
 |cons r t a=>intro g;cases g with
  |cons b d=>rw[r.inj b,a d]
section
variable{X:Cx}{aa:aZ}{σ:St}{H:Hp}{s:ao}{a:ai}{xs ys:ay}
def bw.of{K:aq}(h:H a=À `bV):bw K H a xs:=.inl<|.inl h
def cR.of{K:aq}(h:H a=À `aH):cR K H a xs:=.inl<|.inl h
def ax.list(I:ax X aa σ H s)(h:bw X.K H a xs):∃b:aT,aH xs b/\PlainL s.heap a b.toArray/\↑xs<=Ò:=by
 rcases h with h |⟨o,b,n,f,d,hd,g,i,r⟩
 .obtain⟨z,b,n,r,e⟩:=h.ok I.aS;show#[b,r,#[_,n,e,rfl,rfl,rfl],z]
 .show#[b.toList,r,#[o,n,I.dh a o f,d,hd,by simpa using g],?_];have e:=↑r;simp only[Œ] at e;omega
def ax.tuple(I:ax X aa σ H s)(h:cR X.K H a xs):∃b:aT,aH xs b/\IsTup s.heap a b.toArray/\↑xs<=Ò:=by
 rcases h with h |⟨o,b,n,f,d,g,i,r⟩
 .obtain⟨z,b,r,p⟩:=h.ok I.aS;show#[b,r,p,z]
 .show#[b.toList,r,#[o,I.dh a o f,d,n,by simpa using g],?_];have e:=↑r;simp only[Œ] at e;omega
def ax.eV(I:ax X aa σ H s)(h:bw X.K H a xs)(h':bw X.K H a ys):xs=ys:=by
 ∎;let#[f,r,#[o,n,e,_,_,d],_]:=I.list h;let#[b,j,#[m,l,i,_,_,g],_]:=I.list h';∎;rw[e] at i;cases i;rw[d] at g;injection g with d1 _
 have:f=b:=by simpa using av9 Array.toList d1
 subst this;show r.inj j
end
nonrec abbrev Cx.gA(X:Cx)(E:ar->ao->Prop):Cx:={ X with xe:=E }
nonrec abbrev Cx.sL(X:Cx):Cx:=X.gA λ_ _=>False
def Cx.Ok.gA{X:Cx}(ok:X.Ok)(E:ar->ao->Prop):(X.gA E).Ok:=
 #[ok.mod,ok.kind,ok.glob,ok.blt,ok.above,ok.inj,ok.has,ok.oM,ok.hd,ok.frames,ok.q0,ok.qM,ok.bs,ok.kL,ok.iN,ok.iH,ok.eA,ok.mS]
def Cx.Ok.dP{X:Cx}{E:ar->ao->Prop}(ok:(X.gA E).Ok):X.Ok:=
 #[ok.mod,ok.kind,ok.glob,ok.blt,ok.above,ok.inj,ok.has,ok.oM,ok.hd,ok.frames,ok.q0,ok.qM,ok.bs,ok.kL,ok.iN,ok.iH,ok.eA,ok.mS]
section
variable{X:Cx}{aa:aZ}{σ:St}{H:Hp}{s:ao}{E:ar->ao->Prop}
def ax.gA(I:ax X aa σ H s)(E:ar->ao->Prop):ax (X.gA E) aa σ H s:=#[I.ok.gA E,I.os,I.bare,I.base,I.loc,I.cell,I.free,I.cg,I.pin,I.aS,I.len]
def ax.dP(I:ax (X.gA E) aa σ H s):ax X aa σ H s:=#[I.ok.dP,I.os,I.bare,I.base,I.loc,I.cell,I.free,I.cg,I.pin,I.aS,I.len]
def SP.dP(h:SP (X.gA E) aa D f s'):SP X aa D f s':=by
 cases f with
 |next=>let#[a,b,I,q]:=h;show#[a,b,I.dP,q]
 |brk=>let#[a,b,I,q]:=h;show#[a,b,I.dP,q]
 |cont=>let#[a,b,I,q]:=h;show#[a,b,I.dP,q]
 |ret u=>let#[v,a,b,I,r,q]:=h;show#[v,a,b,I.dP,r,q]
def fR.sL{st:List Ā}{t:TS}(h:fR X.sL st t):fR X st t:=λaa s σ H D I a=>
 Đ (h aa s σ H D (I.gA _) a) (λ_ _ q=>q.dP) λ_ _ z=>ò z
end
section
variable{X:Cx}{st:Ā}{rest:List Ā}{t u:TS}{e:ě}{te:TE}{pos:Pos}
abbrev EF:TS:=λD j H=>D.nx j H
abbrev wu(t u:TS):TS:=λD j H=>t { D with nx:=u D } j H
def WV:fR X [] EF:=λ_ _ j H _ I h=>Ε #[j,H,I,h]
def Ar(d:PS X st t)(g:fR X rest u):fR X (st::rest) (wu t u):=by
 intro aa s j H D I h;show wpAny_execs_cons (bu (d aa s j H { D with nx:=u D } I h) λf l q=>?_);cases f with
 |next=>
  let#[i,a,b,q]:=q;show g aa l i a D b q
 |ret v=>show q
 |brk=>show q
 |cont=>show q
def AF(a:PS X st t):fR X [st] t:=by
 intro aa s j H D I h;show wpAny_execs_cons<|bu (a aa s j H D I h) λf b q=>?_;cases f with
 |next=>show Ε q
 |ret v=>show q
 |brk=>show q
 |cont=>show q
def ax.quiet(I:ax X aa j H s):interactive X.env=Ç:=by simp[interactive,I.ok.kind]
abbrev tO(te:TE):TS:=λD j H=>te j H λ_ H1=>D.nx j H1
def xr(f:PE X e te)(hs:do ĳ e Æ pos.line X.env=pure Ç):PS X `dd (tO te):=by
 intro aa s j H D I h;show wpAny_Expr_any (bu `ek λv l a=>by let#[x,b,d,i,g]:=a;show#[j,b,d,g]) I.quiet hs
abbrev zx(te:TE):TS:=λD j H=>te j H D.rt
def Jl(f:PE X e te):PS X `bZ (zx te):=by
 intro aa s j H D I h;show wpAny_Return_some (bu `ek λv l a=>by let#[x,b,d,i,g]:=a;show#[x,j,b,d,i,g])
abbrev Fi(c:TT)(t u:TS):TS:=λD j H=>c j H λb a=>if b=Â then t D j a else u D j a
def Me(q:PT X c tc)(n:fR X a t)(o:fR X b u):PS X (.If c a b pos) (Fi tc t u):=by
 intro aa s j H D I h;show wpAny_If<|bu (q aa s j H _ I h) λd m f=>?_;let#[g,i,l]:=f;cases d with
 |true=>show n aa m j g D i l
 |false=>show o aa m j g D i l
abbrev Nk:TS:=λ_ _ _=>False
def Tw:PS X st Nk:=λ_ _ _ _ _ _ h=>h.elim
end
nonrec abbrev TG:=V->St->Hp->(St->Hp->Prop)->Prop
nonrec abbrev pU:=ay->St->Hp->(St->Hp->Prop)->Prop
abbrev PG(X:Cx)(a:ě)(t:TG):Prop:=
 ∀(aa:aZ)(s:ao)(j:St)(H:Hp)(v:V)(u:ar)(Q:St->Hp->Prop),ax X aa j H s->aE v u->t v j H Q->
  Ú `ab X.A (assign a X.env u) (λ_ e=>∃d b,ax X aa d b e/\Q d b) X.xe s
abbrev rh(X:Cx)(e:b5)(t:pU):Prop:=
 ∀(aa:aZ)(s:ao)(j:St)(H:Hp)(vs:ay)(us:aT)(Q:St->Hp->Prop),ax X aa j H s->aH vs us->t vs j H Q->
  Ú `ab X.A (at0 ((ī e X.env).map (·.2)) us) (λ_ d=>∃b a,ax X aa b a d/\Q b a) X.xe s
nonrec abbrev Fj:=V->V->V->Hp->(Hp->Prop)->Prop
abbrev Fm(X:Cx)(t:Fj):Prop:=
 ∀(aa:aZ)(s:ao)(j:St)(H:Hp)(o i v:V)(ov b u:ar)(Q:Hp->Prop),ax X aa j H s->aE o ov->aE i b->aE v u->t o i v H Q->
  Ú `ab X.A (setItem ov b u) (λ_ d=>∃a,ax X aa j a d/\Q a) X.xe s
section
variable{X:Cx}{pos:Pos}
abbrev kG(i:Nat):TG:=λv j H Q=>Q (j.set i<|À v) H
def AG(b:X.N.Nodup)(e:X.N[i]?=À x)(f:Loc X.env.scope x)(d:kW X x:=by first |show .inl rfl |show .inr rfl |assumption):PG X `aq (kG i):=by
 intro aa s j H v u Q I r h;show wpAny_assign_Name<|uw I b e f r (λg a=>#[_,H,a,h]) d
abbrev zy:pU:=λvs j H Q=>vs=[]/\Q j H
abbrev yP(t:TG)(u:pU):pU:=λvs j H Q=>∃v r,vs=v::r/\t v j H λb a=>u r b a Q
def Ik:rh X [] zy:=by
 intro aa s j H vs us Q I r h;let#[e,h]:=h;subst e;cases r;show assignInOrder_nil #[j,H,I,h]
def Hl(g:PG X e t)(i:rh X es u)(hs:do (ī (e::es) X.env).map (·.2)=assign e X.env::(ī es X.env).map (·.2)):rh X (e::es) (yP t u):=by
 intro aa s j H vs us Q I r h;let#[v,q,f,h]:=h;subst f;cases r with
 |cons r n=>
  rw[hs];show ah8<|bu (g aa s j H _ _ _ I r h) λ_ o a=>?_;let#[l,b,d,m]:=a;show i aa o l b _ _ Q d n m
abbrev zA(K:aq)(n:Nat)(t:pU):TG:=λv j H Q=>∃a b,v=.ref a/\cR K H a b/\↑b=n/\t b j H Q
def Jm(q:X.calm=Â)(h:rh X es t)(hn:do (ī es X.env).length=n)(d:do (ī es X.env).findIdx? (·.1)=Æ):PG X (.Tuple es k pos) (zA X.K n t):=by
 intro aa s j H v u Q I r f;let#[a,B,l,x,w,f]:=f;subst l;cases r;let#[A,g,y,C]:=I.tuple x;show assign_Tuple_tuple (I.ok.hd q) y (by simp[hn,<- w,g.length]) d λm z=>?_
 have i:ax X aa j H { s with heap:=m }:=I.kept (t':=s.toks) λb o e=>z b o (é<|Ì e) e
 show h aa _ j H B _ Q i (by simpa using g) f
abbrev Fn(f e:TE)(t:Fj):TG:=λv j H Q=>f j H λo a=>e j a λi b=>t o i v b λd=>Q j d
def Ym(w:PE X o to)(q:PE X i ti)(hs:Fm X t)(n:∀v,assign `dM X.env v=(do
   let ov <- holding [v] (eval o X.env)
   let b <- holding [v,ov] (eval i X.env)
   ag2 pos
   holding [v,ov,b] (setItem ov b v)
   release [v,ov,b] []):=by intro _;rfl):PG X `dM (Fn to ti t):=by
 intro aa s j H v u Q I r h;rw[n];show È<|Ŗ<|bu (w aa s j H _ I h) λov D a=>?_;let#[x,d,g,C,z]:=a;show È<|Ŗ<|bu (q aa D j d _ g z) λb E a=>?_;let#[y,e,l,r2,A]:=a;show È<|Ϸ<|È<|Ŗ<|bu (hs aa E j e x y v ov b u _ l C r2 r A) λ_ G a=>?_;let#[f,m,B]:=a;show wpAny_release #[j,f,m,B]
abbrev nB(b:TE)(g:TG):TS:=λD j H=>b j H λx a=>g x j a D.nx
def Jn(i:PE X e te)(l:PG X tg g)(hs:do ab7 [tg] e pos.line X.env=pure Ç)(m:do ab6 [tg] e X.env=pure Æ)(f:do (ī [tg] X.env).map (·.2)=[assign tg X.env]):PS X (.Assign [tg] e pos) (nB te g):=by
 intro aa s j H D I h;show wpAny_Assign_stores (bu `el λv r a=>?_) hs m;let#[x,b,d,o,n]:=a;rw[f];show bu (l aa r j b x v _ d o n) λ_ u q=>q
def xF(g:X.N.Nodup)(n:X.N[i]?=À x)(o:Loc X.env.scope x)(l:PE X e te)(hs:do ĳ e (À<|.Name x pos') pos.line X.env=pure Ç)(m:kW X x:=by first |show .inl rfl |show .inr rfl |assumption):
  PS X (.Assign [.Name x pos'] e pos) (nB te<|kG i):=by
 intro aa s j H D I h;show wpAny_Assign_Name (bu (l aa s j H _ I h) λv u a=>?_) hs;let#[y,b,d,r,q]:=a;show uw d g n o r (λw f=>#[_,b,f,q]) m
abbrev Fo(i j:Nat)(b:TA):TS:=λD G H=>b G H λvs a=>∃v w,vs=[v,w]/\D.nx ((G.set i<|À v).set j<|À w) a
def Yn{kt k2 pt2}(hc:X.calm=Â)(C:X.N.Nodup)(hi:X.N[i]?=À x)(hj:X.N[j]?=À y)(l:i≠j)(E:X.env.scope.names.lookup x=À .local)(J:X.env.scope.names.lookup y=À .local)(Y:PA X [a,b] ta)(hw:ab6 [.Tuple [.Name x px,.Name y py] kt pt] (.Tuple [a,b] k2 pt2) X.env=pure (À [x,y]))(hs:do ab7 [.Tuple [.Name x px,.Name y py] kt pt] (.Tuple [a,b] k2 pt2) pos.line X.env=pure Ç):
  PS X (.Assign [.Tuple [.Name x px,.Name y py] kt pt] (.Tuple [a,b] k2 pt2) pos) (Fo i j ta):=by
 intro aa s G H D I h;rw[exec_Assign_arm];show È<|Ϸ ?_;rw[hs];show È<|Þ ?_;rw[av3 ∎];show È<|Tuple_<|bu (Y _ aa s G H _ I h) λus d u=>?_;∎;let#[vs,z,L,r1,n]:=u;let#[v,w,U,n]:=n;∎;subst U;obtain⟨f,g,rfl,rv,r⟩:∃f g,us=[f,g]/\aE v f/\aE w g:=by
  cases r1 with
  |cons p q=>
   cases q with
   |cons p' q'=>
    cases q';show#[_,_,rfl,p,p']
 show aj6 ?_ (by change 2<=Ò;decide);have M:ax X aa G z { d with heap:=d.heap.push { cls:=.type "tuple",data:=.seq [f,g].toArray } }:=L.kept (t':=d.toks) λb o e=>Ã _ e
 rw[hw];show È<|Þ ?_;change Ú `ab X.A (do rule "assign.swapped-stores";let items <- unpackItems (.ref ⇑d) 2 Æ;at0 [λv=>aq6 X.env y v,λv=>aq6 X.env x v] items.reverse;pure Flow.next) _ _ _;show È<|wpAny_rule<|È<|unpackItems_tuple (items:=([f,g].toArray)) (I.ok.hd hc) (IsTup.new d.heap _) λh' m=>?_;have O:=M.kept (h':=h') (t':=d.toks) λb o e=>m b o (é<|Ì e) e
 change Ú _ _ (at0 [λv=>aq6 X.env y v,λv=>aq6 X.env x v] [g,f] >>= λ_=>pure Flow.next) _ _ _;show È<|ah8<|wpAny_bindName<|uw O C hj (.inl J) r (λs2 Q=>?_)<|.inr J;show ah8<|wpAny_bindName<|uw Q C hi (.inl E) rv (λs3 B=>assignInOrder_nil<|Þ ?_)<|.inr E;rw[List.set_comm _ _<|đ l] at B;show#[_,z,B,n]
abbrev Ee(c:TT)(tb:TS):TS:=λD j H=>∃W:Nat->St->Hp->Prop,(∃m,W m j H)/\∀m j H,W m j H->
 c j H λb d=>if b=Â then ∃N:St->Hp->Prop,(∀e a,N e a->∃f,f<m/\W f e a)/\tb { D with nx:=N,ct:=N,bk:=D.nx } j d else D.nx j d
def Tz(C:ac6 `ab X.A X.env X.xe)(L:PT X c tc)(J:fR X body tb):PS X (.While c body [] pos) (Ee tc tb):=by
 intro aa s j H D I h;let#[W,#[M,Y],turn]:=h;show wpAny_While<|codeAny_whileLoop (λn O=>∃E u,ax X aa E u O/\W n E u) ?_ M #[j,H,I,Y];intro n Q zy;let#[e,x,G,w1]:=zy;show Ũ C<|bu (L aa Q e x _ G<|turn n e x w1) λb U r=>?_;let#[y,z,g]:=r;cases b with
 |true=>
  let#[N,B,g]:=g;rw[av4 rfl];show Ũ C<|bu (J aa U e y _ z g) λf s3 i=>?_;cases f with
  |next=>
   ∎;let#[d,a,l,o]:=i;let#[m,hm,q]:=B d a o;∎;show#[m,hm,d,a,l,q]
  |cont=>
   ∎;let#[d,a,l,o]:=i;let#[m,hm,q]:=B d a o;∎;show#[m,hm,d,a,l,q]
  |brk=>show i
  |ret v=>show i
 |false=>
  rw[av3 â];show Ε #[e,y,z,g]
end
structure It where
 go:Nat->Hp->Prop
 nZ:Nat->Hp->V->Hp->Prop
 stop:Nat->Hp->Prop
abbrev jb(X:Cx)(aa:aZ)(H:Hp)(b:ai):Prop:=
 H b=Æ/\b≠X.env.locals/\b ∉ X.fs/\(b∈X.ex\/⇑X.s₀<=b)/\(∀x c,X.env.cells.lookup x=À c->c≠b)/\∀p∈X.pn++aa,p.1≠b
def ax.gx{H d:Hp}(I:ax X aa j H s)(a:⇑s<=b)(hn:d b=Æ):jb X aa d b:=by
 show#[hn,ŷ<|Õ I.lt a,I.B3 a,.inr<|Ï I.sz a,λx c e z=>?_,λp f z=>?_]
 .obtain⟨v,q⟩:=I.cell x c e;show av5 (Õ q.lt (by rw[z];show a))<|ĸ _
 .show av5 (Õ (Ì (I.pin p f).1) (by rw[z];show a)) (ĸ _)
structure mB(P:ê)(w:Ă)(K:aq)(tg:ě)(J:It)(fp:c6)(it:ai)(tn:Nat->aW->Prop):Prop where
 mem:it∈fp
 obj:∀i h,tn i h->∀b∈fp,∃o,h.get? b=À o/\∀v,o.data≠.cell v
 keep:∀i h h',tn i h->(∀b∈fp,∀o,h.get? b=À o->h'.get? b=À o)->tn i h'
 item:∀(X:Cx),X.prog=P->X.w=w->X.K=K->X.calm=Â->∀(i:Nat)(aa:aZ)(s:ao)(j:St)(H:Hp)(E:ar->ao->Prop),ax X aa j H s->(∀b∈fp,jb X aa H b)->tn i s.heap->J.go i H->
  Ú `bj X.A (pyNext<|.ref it) (λr s1=>∃u,r=À u/\
   Ú `bj X.A (ae2 tg `cB u) (λ_ s2=>∃x H',ax X aa j H' s2/\aE x u/\J.nZ i H x H'/\tn (i+1) s2.heap/\∀b∈fp,H' b=Æ) E s1) E s
 done:∀(X:Cx),X.prog=P->X.w=w->X.K=K->X.calm=Â->∀(i:Nat)(aa:aZ)(s:ao)(j:St)(H:Hp)(E:ar->ao->Prop),ax X aa j H s->(∀b∈fp,jb X aa H b)->tn i s.heap->J.stop i H->
  Ú `bj X.A (pyNext<|.ref it) (λr s1=>r=Æ/\ax X aa j H s1) E s
 self:∀(A:ą)(i:Nat)(s:ao)(Q:ar->ao->Prop)(E:ar->ao->Prop),tn i s.heap->Q `cB s->Ú `bj A (pyIter<|.ref it) Q E s
nonrec abbrev TI:=St->Hp->(It->Hp->Prop)->Prop
abbrev De(X:Cx)(aa:aZ)(j:St)(h:ě)(R:It->Hp->Prop)(d:ar)(f:ao):Prop:=
 ∃(it:ai)(e:c6)(g:Nat->aW->Prop)(J:It)(a:Hp),d=.ref it/\ax X aa j a f/\mB X.prog X.w X.K h J e it g/\g 0 f.heap/\(∀b∈e,jb X aa a b)/\R J a
abbrev PI(X:Cx)(d a:ě)(e:TI):Prop:=
 ∀(aa:aZ)(s:ao)(j:St)(H:Hp)(R:It->Hp->Prop),ax X aa j H s->e j H R->
  Ú `ab X.A (eval a X.env) (λv b=>Ú `ab X.A (pyIter v) (De X aa j d R) X.xe b) X.xe s
def uS{Q:Unit->ao->Prop}(d:s.heap.get? it=À o)(b:o.cls=.type n)(hd:o.data=.fields vs)(hn:["enumerate","zip","dict_itemiterator","dict_reverseitemiterator","odict_iterator","itertools.zip_longest","itertools.pairwise"].contains n=Ç)(a:Q () s):Ú M A (ae2 tg `cB u) Q E s:=by
 unfold ae2;cases tg<;>first
  |show Þ a
  |(cases u<;>first
    |show Þ a
    | (show È (wpAny_load d ?_)
       rw[b,hd];change Ú M A (if (["enumerate","zip","dict_itemiterator","dict_reverseitemiterator","odict_iterator","itertools.zip_longest","itertools.pairwise"].contains n&&vs[0]? == À (ad7 _))=Â then _ else _) Q E s;rw[av3 (by intro h;rw[hn,ad2] at h;cases h)];show Þ a))
abbrev vv(K:aq)(a:ai):It:=
 #[λi H=>∃b x,bw K H a b/\b[i]?=À x,λi H x d=>d=H/\∀b,bw K H a b->b[i]?=À x,λi H=>∃b,bw K H a b/\↑b<=i]
abbrev rg(lo:Int)(n:Nat):It:=#[λi _=>i<n,λi H x a=>a=H/\x=.int (lo+i),λi _=>n<=i]
def Rp{P:ê}{w:Ă}{K:aq}{tg:ě}(a it:ai):mB P w K tg `em [it] it (λi h=>h.IsListIter it a i) where
 mem:=by simp
 obj:=λi h st b f=>by
  have e:b=it:=by simpa using f
  subst e;let#[o,e,c,d]:=st;show#[o,e,λv z=>by rw[d] at z;cases z]
 keep:=λi h l st k=>st.at λo e=>k it ∅ o e
 item:=by
  intro X D J C O i aa s j H E I m st G;subst D J C;∎;let#[xs,x,n,L]:=G;let#[M,N,p,hz]:=I.list n;let#[u,Y,ru]:=N.get L;let#[q,r,U,y,A,B]:=m it ∅;∎;show wpAny_pyNext_list_item st p.isList (x:=u) (by simpa using Y) λl g sb=>?_
  have Q:ax X aa j H { s with heap:=l }:=I.turned (t':=s.toks) (λb o f e=>(sb.2 b f).trans e) q r y A B;let#[o,e,c,d]:=id g;show#[u,rfl,uS (s:={ s with heap:=l }) e c d ∎ #[x,H,Q,ru,#[rfl,λys hy=>by rw[I.eV hy n];show L],g,λb f=>(m b f).1]]
 done:=by
  intro X D J C O i aa s j H E I m st G;subst D J C;∎;let#[xs,n,L]:=G;let#[M,N,p,hz]:=I.list n;let#[q,r,U,y,A,B]:=m it ∅;∎;have hl:=↑N;show wpAny_pyNext_list_end (I.ok.hd O) st p.isList (by simp;omega) λl eb=>#[rfl,I.turned (t':=s.toks) (λb o f e=>eb b o f e) q r y A B]
 self:=λ_ _ _ _ _ st h=>wpAny_pyIter_listiter st h
def Q0{P:ê}{w:Ă}{K:PySem.W.Frag}{N:ě}(it:ai)(lo:Int)(n:Nat):mB P w K N (rg lo n) [it] it (λi h=>am3 h it (lo+(i:Nat)*1) ((n:Int) - (i:Nat)) 1) where
 mem:=by simp
 obj:=λi h st b a=>by
  have e:b=it:=by simpa using a
  subst e;show#[_,st,λv z=>by
   have O:Data.fields _=Data.cell v:=z;cases O]
 keep:=λi h f st k=>k it ∅ _ st
 item:=by
  intro X y C x A i aa s j H E I g st B;subst y C x;let#[l,m,J,q,r,u]:=g it ∅;have W:=Walks.range (prog:=X.prog) (w:=X.w) `cC it lo 1 n;show W.item i s _ _ B st λv f D L d M=>?_
  let#[t,rfl]:=L;have G:ax X aa j H { s with heap:=f,toks:=D }:=I.turned (λb o a e=>M b o (by simpa using a) e) l m q r u;show#[_,rfl,uS (s:={ s with heap:=f,toks:=D }) (n:="range_iterator") d rfl rfl ∎ #[.int<|lo+i,H,G,#[t,?_],#[rfl,rfl],d,λb a=>(g b a).1]];rw[ar7]
 done:=by
  intro X y C x A i aa s j H E I g st B;subst y C x;let#[l,m,J,q,r,u]:=g it ∅;show av2 `cC st (by have:n<=i:=B;omega) λf eb=>#[rfl,I.turned (t':=s.toks) (λb o a e=>eb b o a e) l m q r u]
 self:=λ_ _ _ _ _ st h=>av1 st h
section
variable{X:Cx}{tg:ě}
abbrev EG(K:aq)(tl:TE):TI:=λj H R=>tl j H λx b=>∃a,x=.ref a/\(∃d,bw K b a d)/\R `em b
def WW{l:ě}{tl:TE}(n:PE X l tl):PI X tg l (EG X.K tl):=by
 intro aa s j H R I h;show bu (n aa s j H _ I h) λv f g=>?_
 ∎;let#[x,i,d,y,w]:=g;let#[a,e,#[B,r],q]:=w;∎;subst e;cases y;let#[u,A,p,z]:=d.list r;show aj7 p.isList ?_;show#[⇑f,[⇑f],_,_,i,rfl,d.kept (t':=f.toks) λb o e=>Ã _ e,Rp a _,#[_,Ô _ rfl,rfl,rfl],λb m=>?_,q];have e:b=⇑f:=by simpa using m
 subst e;show d.gx (Î _)<|d.aS.fresh<|Î _
def TB{aa:aZ}{j:St}{H:Hp}{s:ao}{R:It->Hp->Prop}{E:ar->ao->Prop}{lo a:Int}{t u v:Tok}{f:Nat}(I:ax X aa j H s)(h:-(2 ^ 62)<=lo)(i:lo<2 ^ 62)(l:-(2 ^ 62)<=a)(m:a<2 ^ 62)(q:R (rg lo (a - lo).toNat) H):Ú `ab X.A (pyIter<|.ref ⇑s) (De X aa j tg R) E { s with heap:=s.heap.push { cls:=.type "range",data:=.fields ([.int lo t,.int a u,.int 1 v].toArray) },toks:=f }:=by
 show wpAny_pyIter_range (IsRange.new ..) (small_one h i l m) ?_;have d:ax X aa j H { s with heap:=s.heap.push { cls:=.type "range",data:=.fields ([.int lo t,.int a u,.int 1 v].toArray) },toks:=f }:=I.kept λb o e=>Ã _ e
 show#[(s.heap.push { cls:=.type "range",data:=.fields ([.int lo t,.int a u,.int 1 v].toArray) }).objs.size,[(s.heap.push { cls:=.type "range",data:=.fields ([.int lo t,.int a u,.int 1 v].toArray) }).objs.size],_,_,H,rfl,
  d.kept (t':=f) λb o e=>Ã _ e,Q0 _ lo (a - lo).toNat,?_,λb n=>?_,q]
 .have e1:lo+((0:Nat):Int)*1=lo:=by simp
  have g:(((a - lo).toNat:Nat):Int) - ((0:Nat):Int)=Ŭ lo a 1:=by rw[rangeSize_one];split<;>omega
  change am3 _ _ (lo+((0:Nat):Int)*1) ((((a - lo).toNat:Nat):Int) - ((0:Nat):Int)) 1;rw[e1,g];show Ô _ rfl
 .have e:b=(s.heap.push { cls:=.type "range",data:=.fields ([.int lo t,.int a u,.int 1 v].toArray) }).objs.size:=by simpa using n
  subst e;show d.gx (Î _)<|d.aS.fresh<|Î _
abbrev EH(b:TA):TI:=λi H R=>b i H λvs a=>∃j:Int,vs=[.int j]/\-(2 ^ 62)<=j/\j<2 ^ 62/\R (rg 0 j.toNat) a
def Rq{a:ě}{f:TA}{p pos:Pos}(m:Gl X "range")(hm:X.mg "range"=Æ)(l:PA X [a] f)(hs:do n6 a X.env):PI X tg (.Call (.Name "range" p) [a] [] pos) (EH f):=by
 intro aa s i H R I h;show Call_<|k6 I m hm boot_range<|Ą (bu (l pos aa s i H _ I h) λus w d=>?_) hs rfl;∎;let#[vs,v,g,o,b]:=d;let#[j,e,b,n,q]:=b;∎;subst e;cases o with
 |cons r u=>
  cases u;let#[t,rfl]:=r;show call_range_1 (TB g ⋯ ⋯ b n (by simpa using q))
abbrev zB(l:TI)(g:TG)(tb:TS):TS:=λD j H=>l j H λJ e=>∃W:Nat->Nat->St->Hp->Prop,(∃m,W 0 m j e)/\∀i m j H,W i m j H->
 (J.stop i H/\D.nx j H)\/(J.go i H/\∃N:St->Hp->Prop,(∀b a,N b a->∃d,d<m/\W (i+1) d b a)/\∀x a,J.nZ i H x a->g x j a λh f=>tb { D with nx:=N,ct:=N,bk:=D.nx } h f)
abbrev tT(fp:c6)(h:aW):aZ:=fp.filterMap λb=>(h.get? b).map λo=>(b,o)
def wU(a:b∈fp)(e:h.get? b=À o):(b,o)∈tT fp h:=œ.mpr #[b,a,by rw[e];rfl]
def Rr(f:p∈tT fp h):p.1∈fp/\h.get? p.1=À p.2:=by
 let#[b,d,e]:=œ.mp f;cases q:h.get? b with
 |none=>rw[q] at e;cases e
 |some o=>
  rw[q] at e;have a:(b,o)=p:=Ø e;subst a;show#[d,q]
def ax.pinned(I:ax X aa j H s)(l:∀b∈fp,jb X aa H b)(m:∀b∈fp,∃o,s.heap.get? b=À o/\∀v,o.data≠.cell v):ax X (aa++tT fp s.heap) j H s:=
 I.fN λp n=>(Ê.mp n).elim (λz=>I.pin p<|Ĉ _ z) λz=>by
  ∎;let#[f,e]:=Rr z;let#[g,h,i,_]:=l p.1 f;let#[o,a,d]:=m p.1 f;∎;rw[e] at a;cases a;show#[e,g,h,i,d]
def ax.gb(I:ax X (aa++pl) j H s):ax X aa j H s:=I.fN λp a=>I.pin p<|Ĉ _<|ū _ a
def Jo(O:ac6 `ab X.A X.env X.xe)(hc:X.calm=Â)(hi:PI X tg iter wi)(hg:PG X tg g)(y:fR X body tb)(hs:∀x,Ė iter X.env x=pure x:=by intro _;rfl):PS X (.For tg iter body [] pos) (zB wi g tb):=by
 intro aa s j H D I h;show wpAny_For (bu `ca λv s1 h1=>bu h1 λε s2 h2=>?_) hs;let#[it,L,tn,J,H2,e,I2,T,δ,f2,W,#[m0,w0],turn]:=h2;subst e;have B:∀{C:Hp},(∀b∈L,C b=Æ)->∀b∈L,jb X aa C b:=λhn b y=>#[hn b y,(f2 b y).2]
 show codeAny_forLoop_any (λn s'=>∃i Q C,ax X aa Q C s'/\tn i s'.heap/\(∀b∈L,C b=Æ)/\W i n Q C) ?_ m0 #[0,j,H2,I2,δ,λb y=>(f2 b y).1,w0];intro n s3 zy;let#[i,U,H3,I3,α,M,w3]:=zy;rcases turn i n U H3 w3 with⟨stop,qn⟩ |⟨go,N,hN,step⟩
 .show Ũ O (bu (T.done X rfl rfl rfl hc i aa s3 U H3 X.xe I3 (B M) α stop) λr s4 a=>?_);let#[hr,I4]:=a;subst hr;show Ε #[U,H3,I4,qn]
 .show Ũ O (bu (T.item X rfl rfl rfl hc i aa s3 U H3 X.xe I3 (B M) α go) λr s4 a=>?_);let#[u,hr,h4]:=a;subst hr;show Ũ O<|bu h4 λ_ s5 a=>?_;let#[x,H5,I5,r5,y5,G,γ]:=a;have β:=I5.pinned (B γ)<|T.obj _ _ G;show Ũ O<|bu (hg _ s5 U H5 x u _ β r5<|step x H5 y5) λ_ s6 a=>?_;let#[j6,H6,I6,q6]:=a;show Ũ O<|bu (y _ s6 j6 H6 _ I6 q6) λf s7 E=>?_;have again:∀{z:St}{l:Hp},ax X (aa++tT L s5.heap) z l s7->N z l->∃m,m<n/\∃i Q C,ax X aa Q C s7/\tn i s7.heap/\(∀b∈L,C b=Æ)/\W i m Q C:=λ{z l} q Y=>by
   let#[m',hm,w7]:=hN z l Y;show#[m',hm,i+1,z,l,q.gb,T.keep _ _ _ G λb y o e=>(q.pin (b,o)<|Ĉ _<|Ĉ _<|wU y e).1,λb y=>?_,w7];let#[o,e,d]:=T.obj _ _ G b y;show (q.pin (b,o)<|Ĉ _<|Ĉ _<|wU y e).2.1
  cases f with
  |next=>let#[z,l,q,Y]:=E;show again q Y
  |cont=>let#[z,l,q,Y]:=E;show again q Y
  |brk=>let#[z,l,q,E]:=E;show#[z,l,q.gb,E]
  |ret v=>let#[x7,z,l,q,r7,E]:=E;show#[x7,z,l,q.gb,r7,E]
end
nonrec abbrev R2:=V->V->Hp->VK->Prop
abbrev cG(X:Cx)(f:ar->ar->Sem ϥ)(r:R2):Prop:=
 ∀(aa:aZ)(s:ao)(j:St)(H:Hp)(x y:V)(v u:ar)(Q:VK),ax X aa j H s->aE x v->aE y u->r x y H Q->
  Ú `ab X.A (f v u) `av X.xe s
abbrev yB(X:Cx)(f:ar->Sem ϥ)(r:V->Hp->VK->Prop):Prop:=
 ∀(aa:aZ)(s:ao)(j:St)(H:Hp)(x:V)(v:ar)(Q:VK),ax X aa j H s->aE x v->r x H Q->
  Ú `ab X.A (f v) `av X.xe s
abbrev bV(X:Cx)(f:ar)(r:ay->Hp->VK->Prop):Prop:=
 ∀(aa:aZ)(s:ao)(j:St)(H:Hp)(a:ay)(us:aT)(Q:VK),ax X aa j H s->aH a us->r a H Q->
  Ú `ab X.A (call f us) `av X.xe s
abbrev NB(X:Cx)(r:V->Hp->(Bool->Hp->Prop)->Prop):Prop:=
 ∀(aa:aZ)(s:ao)(j:St)(H:Hp)(x:V)(v:ar)(Q:Bool->Hp->Prop),ax X aa j H s->aE x v->r x H Q->
  Ú `ab X.A `cl `db X.xe s
abbrev q4(r:R2)(d tb:TE):TE:=λj H Q=>d j H λx a=>tb j a λy b=>r x y b Q
abbrev KG(r:V->Hp->VK->Prop)(b:TE):TE:=λj H Q=>b j H λx a=>r x a Q
abbrev rI(C:Int->Int->Prop)(g:Int->Int->V):R2:=λx y H Q=>∃i j,x=.int i/\y=.int j/\C i j/\Q `cD H
abbrev jx(g:Int->Int->V):R2:=λx y H Q=>∃i j,x=.int i/\y=.int j/\Q `cD H
abbrev rU(g:Int->V):V->Hp->VK->Prop:=λx H Q=>∃i,x=.int i/\Q (g i) H
section
variable{X:Cx}{a b c:ě}{ta tb tc:TE}{pos:Pos}
def CK(q:PE X a ta)(r:PE X b tb){R:V->V->Hp->Prop}(I:ax X aa j H s)(h:ta j H λx m=>tb j m λy e=>R x y e){f:ar->ar->Sem ϥ}(z:∀v u l x y e,ax X aa j e l->aE x v->aE y u->R x y e->Ú `ab X.A (f v u) Q X.xe l):
  Ú `ab X.A (eval a X.env) (λv g=>Ú `ab X.A (eval b X.env) (λu i=>Ú `ab X.A (f v u) Q X.xe i) X.xe g) X.xe s:=by
 show bu (q aa s j H _ I h) λv E d=>?_
 let#[x,m,n,D,B]:=d;show bu (r aa E j m _ n B) λu l d=>?_
 let#[y,e,o,r2,C]:=d;show z v u l x y e o D r2 C
def Mf(i:cG X (ŧ op) r)(f:PE X a ta)(g:PE X b tb):PE X `dR `cs:=by
 intro aa s j H Q I h;show wpAny_BinOp<|CK f g I h λv u n x y d e l m q=>i aa n j d x y v u Q e l m q
def Mg(i:yB X (unaryOp op) r)(g:PE X a ta):PE X (.UnaryOp op a pos) (KG r ta):=by
 intro aa s j H Q I h;show UnaryOp_ (bu (g aa s j H _ I h) λv n d=>by let#[x,e,f,m,l]:=d;show i aa n j e x v Q f m l)
def yg{f:ar->ar->Sem ϥ}{C:Int->Int->Prop}{g:Int->Int->Int}(rule:∀(i j:Int)(t u:Tok)(s:ao)(Q:ar->ao->Prop)(E:ar->ao->Prop),C i j->Q (.int `cD s.toks) { s with toks:=s.toks+1 }->Ú `ab X.A (f `bT<|.int j u) Q E s):
  cG X f (rI C λi j=>.int<|g i j):=by
 intro aa s G H x y v u Q I e l h;∎;let#[i,j,rfl,rfl,d,q]:=h;let#[t,rfl]:=e;let#[m,rfl]:=l;∎;show rule i j t m s _ _ d #[.int<|g i j,H,I.tok _,#[_,rfl],q]
def K7{f:ar->ar->Sem ϥ}{g:Int->Int->Int}(rule:∀(i j:Int)(t u:Tok)(s:ao)(Q:ar->ao->Prop)(E:ar->ao->Prop),Q (.int `cD s.toks) { s with toks:=s.toks+1 }->Ú `ab X.A (f `bT<|.int j u) Q E s):
  cG X f (jx λi j=>.int<|g i j):=by
 intro aa s G H x y v u Q I d e h;∎;let#[i,j,rfl,rfl,q]:=h;let#[t,rfl]:=d;let#[l,rfl]:=e;∎;show rule i j t l s _ _ #[.int<|g i j,H,I.tok _,#[_,rfl],q]
def yc{f:ar->ar->Sem ϥ}{g:Int->Int->Bool}(rule:∀(i j:Int)(t u:Tok)(s:ao)(Q:ar->ao->Prop)(E:ar->ao->Prop),Q (.bool<|g i j) s->Ú `ab X.A (f `bT<|.int j u) Q E s):
  cG X f (jx λi j=>.bl<|g i j):=by
 intro aa s G H x y v u Q I d e h;∎;let#[i,j,rfl,rfl,q]:=h;let#[t,rfl]:=d;let#[l,rfl]:=e;∎;show rule i j t l s _ _ #[.bl<|g i j,H,I,rfl,q]
abbrev wx(i j:Int):Prop:=0<=j/\j<=1000000/\i.natAbs<2 ^ 64
abbrev mW(i j:Int):Prop:=(-(2 ^ 64)<i/\i<2 ^ 64)\/(-(2 ^ 64)<j/\j<2 ^ 64)
def mW.ok(h:mW i j):IntMulOk i j:=by
 rcases h with⟨d,e⟩ |⟨d,e⟩
 .show .of_left (intBits_le_64 d e)
 .show .of_right (intBits_le_64 d e)
def Nl:cG X `dv (jx λi j=>.int<|i+j):=K7 λ_ _ _ _ _ _ _ q=>add_int q
def Yo:cG X (ŧ .Sub) (jx λi j=>.int<|i - j):=K7 λ_ _ _ _ _ _ _ q=>sub_int q
def Yp:cG X (ŧ .Mod) (rI (λ_ j=>0<j) λi j=>.int<|i % j):=yg λi j _ _ _ _ _ d q=>by
 have e:(0:Int)<j:=d;show mod_int' ⋯ (by rw[Int.fmod_eq_emod_of_nonneg i ⋯];show q)
def Yq:cG X (ŧ .Pow) (rI wx λi j=>.int<|i ^ j.toNat):=yg λ_ _ _ _ _ _ _ d q=>pow_int_small d.1 d.2.1 d.2.2 q
def Wn{f:ar->Sem ϥ}{g:Int->Int}(rule:∀(i:Int)(t:Tok)(s:ao)(Q:ar->ao->Prop)(E:ar->ao->Prop),Q (.int (g i) s.toks) { s with toks:=s.toks+1 }->Ú `ab X.A (f<|.int i t) Q E s):
  yB X f (rU λi=>.int<|g i):=by
 intro aa s j H x v Q I d h;∎;let#[i,rfl,q]:=h;let#[t,rfl]:=d;∎;show rule i t s _ _ #[.int<|g i,H,I.tok _,#[_,rfl],q]
def Yr:yB X (unaryOp .USub) (rU λi=>.int (-i)):=Wn λ_ _ _ _ _ q=>neg_int q
end
abbrev zC:V->V->Bool
 |.aN,.aN=>Â |.aN,.int _=>Â |.int _,.aN=>Â |.aN,.bl _=>Â |.bl _,.aN=>Â |.aN,.str _=>Â |.str _,.aN=>Â
 |.int _,.int _=>Â |.bl _,.bl _=>Â |.str _,.str _=>Â |.hX _,.hX _=>Â
 |.int _,.str _=>Â |.str _,.int _=>Â |.bl _,.str _=>Â |.str _,.bl _=>Â
 |_,_=>Ç
abbrev CL:R2:=λx y H Q=>zC x y=Â/\Q (.bl<|decide<|x=y) H
abbrev vi:R2:=λx y H Q=>zC x y=Â/\Q (.bl (!decide (x=y))) H
def HF:decide (V.int i=V.int j)=(i == j):=by
 rw[ŝ];simp
def Jp:decide (V.bl i=V.bl j)=(i == j):=by
 rw[ŝ];simp
def HG:decide (V.str i=V.str j)=(i == j):=by
 rw[ŝ];simp
def HH:decide (V.hX i=V.hX j)=(i.toList == j.toList):=by
 rw[ŝ];cases i;cases j;simp
section
variable{X:Cx}{a b c:ě}{ta tb tc:TE}{pos:Pos}
def dq{Q:VK}(I:ax X aa j H s)(q:Q (.bl k) H)(e:k=k'):EP X aa j Q (.bool k') s:=by
 subst e;show#[.bl k,H,I,rfl,q]
def Nt:cG X (ö .Eq) CL:=by
 intro aa s G H x y v u Q I g d h;let#[f,q]:=h;cases x with
 |aN=>
  cases g;cases y with
  |aN=>cases d;show PySem.EqNone.eq_none_none (dq I q<|by simp)
  |bl j=>cases d;show PySem.EqNone.eq_none_bool (dq I q<|by simp)
  |int j=>let#[e,rfl]:=d;show PySem.EqNone.eq_none_int (dq I q<|by simp)
  |str j=>let#[e,rfl]:=d;show PySem.EqNone.eq_none_str (dq I q<|by simp)
  |_=>show av5 (show Ç=Â from f) â
 |bl i=>
  cases g;cases y with
  |aN=>cases d;show PySem.EqNone.eq_bool_none (dq I q<|by simp)
  |bl j=>cases d;show eq_bool<|dq I q Jp
  |str j=>let#[e,rfl]:=d;show PySem.EqMixed.eq_bool_str (dq I q<|by simp)
  |_=>show av5 (show Ç=Â from f) â
 |int i=>
  let#[t,rfl]:=g;cases y with
  |aN=>cases d;show PySem.EqNone.eq_int_none (dq I q<|by simp)
  |int j=>let#[e,rfl]:=d;show eq_int<|dq I q HF
  |str j=>let#[e,rfl]:=d;show PySem.EqMixed.eq_int_str (dq I q<|by simp)
  |_=>show av5 (show Ç=Â from f) â
 |str i=>
  let#[t,rfl]:=g;cases y with
  |aN=>cases d;show PySem.EqNone.eq_str_none (dq I q<|by simp)
  |bl j=>cases d;show PySem.EqMixed.eq_str_bool (dq I q<|by simp)
  |int j=>let#[e,rfl]:=d;show PySem.EqMixed.eq_str_int (dq I q<|by simp)
  |str j=>let#[e,rfl]:=d;show eq_str<|dq I q HG
  |_=>show av5 (show Ç=Â from f) â
 |hX i=>
  let#[t,rfl]:=g;cases y with
  |hX j=>let#[e,rfl]:=d;show W.eq_bytes<|dq I q HH
  |_=>show av5 (show Ç=Â from f) â
 |_=>cases y <;> show av5 (show Ç=Â from f) â
def EI:cG X `cb vi:=by
 intro aa s G H x y v u Q I g d h;let#[f,q]:=h;cases x with
 |aN=>
  cases g;cases y with
  |aN=>cases d;show PySem.EqNone.ne_none_none (dq I q<|by simp)
  |bl j=>cases d;show PySem.EqNone.ne_none_bool (dq I q<|by simp)
  |int j=>let#[e,rfl]:=d;show PySem.EqNone.ne_none_int (dq I q<|by simp)
  |str j=>let#[e,rfl]:=d;show PySem.EqNone.ne_none_str (dq I q<|by simp)
  |_=>show av5 (show Ç=Â from f) â
 |bl i=>
  cases g;cases y with
  |aN=>cases d;show PySem.EqNone.ne_bool_none (dq I q<|by simp)
  |bl j=>cases d;show ne_bool<|dq I q<|av9 not Jp
  |str j=>let#[e,rfl]:=d;show PySem.EqMixed.ne_bool_str (dq I q<|by simp)
  |_=>show av5 (show Ç=Â from f) â
 |int i=>
  let#[t,rfl]:=g;cases y with
  |aN=>cases d;show PySem.EqNone.ne_int_none (dq I q<|by simp)
  |int j=>let#[e,rfl]:=d;show ne_int<|dq I q<|av9 not HF
  |str j=>let#[e,rfl]:=d;show PySem.EqMixed.ne_int_str (dq I q<|by simp)
  |_=>show av5 (show Ç=Â from f) â
 |str i=>
  let#[t,rfl]:=g;cases y with
  |aN=>cases d;show PySem.EqNone.ne_str_none (dq I q<|by simp)
  |bl j=>cases d;show PySem.EqMixed.ne_str_bool (dq I q<|by simp)
  |int j=>let#[e,rfl]:=d;show PySem.EqMixed.ne_str_int (dq I q<|by simp)
  |str j=>let#[e,rfl]:=d;show ne_str<|dq I q<|av9 not HG
  |_=>show av5 (show Ç=Â from f) â
 |hX i=>
  let#[t,rfl]:=g;cases y with
  |hX j=>let#[e,rfl]:=d;show W.ne_bytes<|dq I q<|av9 not HH
  |_=>show av5 (show Ç=Â from f) â
 |_=>cases y <;> show av5 (show Ç=Â from f) â
def Nu:cG X (ö .Lt) (jx λi j=>.bl<|decide<|i<j):=yc λ_ _ _ _ _ _ _ q=>lt_int q
def Mh:cG X (ö .LtE) (jx λi j=>.bl<|decide<|i<=j):=yc λ_ _ _ _ _ _ _ q=>le_int q
def Nv:cG X (ö .Gt) (jx λi j=>.bl<|decide<|j<i):=yc λ_ _ _ _ _ _ _ q=>gt_int q
def uT:cG X (ö .GtE) (jx λi j=>.bl<|decide<|j<=i):=yc λ_ _ _ _ _ _ _ q=>ge_int q
def Rt:cG X (ö .Lt) (λx y H Q=>∃i j,x=.str i/\y=.str j/\Q (.bl<|decide<|i.cps.toList<j.cps.toList) H):=by
 intro aa s G H x y v u Q I d e h;∎;let#[i,j,rfl,rfl,q]:=h;let#[t,rfl]:=d;let#[f,rfl]:=e;∎;show lt_str<|dq I q rfl
def Ys:cG X (ö .Is) (λx y H Q=>y=.aN/\Q (.bl<|decide<|x=.aN) H):=by
 intro aa s j H x y v u Q I d e h;let#[rfl,q]:=h;cases e;show is_none_gen<|dq I q ?_;cases x<;>first
  |(cases d;rfl)
  |(let⟨t,rfl⟩:=d;rfl)
def WX:cG X (ö .IsNot) (λx y H Q=>y=.aN/\Q (.bl (!decide (x=.aN))) H):=by
 intro aa s j H x y v u Q I d e h;let#[rfl,q]:=h;cases e;show isnot_none_gen<|dq I q ?_;cases x<;>first
  |(cases d;rfl)
  |(let⟨t,rfl⟩:=d;rfl)
def cG.or{r d:R2}(h:cG X f r)(h':cG X f d):cG X f (λx y H Q=>r x y H Q\/d x y H Q):=by
 intro aa s j H x y v u Q I e g q;rcases q with q |q
 .show h aa s j H x y v u Q I e g q
 .show h' aa s j H x y v u Q I e g q
def Yt(b:ě)(h: ~~~(op≠.In))(f: ~~~(op≠.NotIn)):ϴ op b=Ç:=by
 have d:(op == CmpOp.In)=Ç:=by cases op<;>first |rfl |show av5 rfl h
 have e:(op == CmpOp.NotIn)=Ç:=by cases op<;>first |rfl |show av5 rfl f
 cases b<;>simp[ϴ,d,e]
def WY(i:cG X (ö op) r)(f:PE X a ta)(g:PE X b tb)(hm:ϴ op b=Ç):PE X (.Compare a [op] [b] pos) `cs:=by
 intro aa s j H Q I h;show wpAny_Compare1 (CK f g I h λv u n x y d e l m q=>i aa n j d x y v u Q e l m q) hm
abbrev wt(t:TE):TT:=λj H Q=>t j H λx H'=>∃k,x=.bl k/\Q k H'
def HI(g:cG X (ö op) r)(d:PE X a ta)(f:PE X b tb)(hm:ϴ op b=Ç):PT X (.Compare a [op] [b] pos) (wt<|q4 r ta tb):=by
 intro aa s j H Q I h;show wpAny_isTrue_Compare1 (bu (d aa s j H _ I h) λv i ⟨x,H1,I1,r1,q1⟩=>bu (f aa i j H1 _ I1 q1) λu l ⟨y,H2,I2,r2,q2⟩=>
  bu (g aa l j H2 x y v u _ I2 r1 r2 q2) λc m ⟨z,H3,I3,r3,k,e,q3⟩=>?_) hm
 subst e;cases r3;show ő #[H3,I3,q3]
abbrev zD(K:aq)(x:V)(H:Hp)(k:Bool):Prop:=
 match x with
 |.aN=>k=Ç
 |.bl b=>k=b
 |.int i=>k=(i != 0)
 |.str y=>↑y <= Ò /\ k=((↑y:Int) != 0)
 |.hX y=>y.size <= Ò /\ k=((y.size:Int) != 0)
 |.ref p=>(∃e,bw K H p e /\ k = !e.isEmpty) \/ (∃e,cR K H p e /\ k = !e.isEmpty) \/ ∃d,H p=À `cc /\ k = !d.isEmpty
 |_=>False
def Q1(r:KV kvs vs):(!vs.isEmpty)=!kvs.isEmpty:=by
 cases r<;>rfl
def Gj(r:aH xs eG):(!eG.toArray.isEmpty)=!xs.isEmpty:=by
 cases r<;>simp
def qz:(Ò:Nat)<2 ^ 63:=by rw[Į];decide
def Yu:NB X (λx H Q=>∃k,zD X.K x H k/\Q k H):=by
 intro aa s j H x v Q I n h;let#[k,e,q]:=h;have D:=qz;have E:Ò=16777216:=Į;cases x with
 |aN=>
  cases n;have d:k=Ç:=e;subst d;show truthy_none #[H,I,q]
 |bl b=>
  cases n;have d:k=b:=e;subst d;show ő #[H,I,q]
 |int i=>
  let#[t,rfl]:=n;have d:k=(i != 0):=e;subst d;show PySem.P.truthy_int #[H,I,q]
 |str y=>
  let#[t,rfl]:=n;obtain⟨C,d⟩:↑y<=Ò/\k=((↑y:Int) != 0):=e;subst d;show PySem.P.truthy_str ⋯ #[H,I.tok _,q]
 |hX y=>
  let#[t,rfl]:=n;obtain⟨C,d⟩:y.size<=Ò/\k=((y.size:Int) != 0):=e;subst d;show W.truthy_bytes ⋯ #[H,I.tok _,q]
 |ref p=>
  cases n;have d:(∃l,bw X.K H p l/\k=!l.isEmpty)\/(∃l,cR X.K H p l/\k=!l.isEmpty)\/∃f,H p=À (.dK f)/\k=!f.isEmpty:=e;rcases d with⟨l,o,d⟩ |⟨l,o,d⟩ |⟨f,o,d⟩
  .subst d;let#[u,r,z,A]:=I.list o;have g:=↑r;show wpAny_truthy_list z.isList (by simp only[á];omega) #[H,I.tok _,by rw[Gj r];show q]
  .subst d;let#[u,r,z,A]:=I.tuple o;have g:=↑r;show truthy_tuple z (by simp only[á];omega) #[H,I.tok _,by rw[Gj r];show q]
  .subst d;obtain⟨A,B,vs,r,m⟩:↑f<=Ò/\(p == ţ)=Ç/\∃vs,KV f vs/\s.heap.DictOf `aF p vs:=I.aS p _ o;have g:↑f=↑vs:=Paired.length r;show wpAny_truthy_dict B m ⋯ #[H,I.tok _,by rw[Q1 r];show q]
 |_=>show (show False from e).elim
def TC(i:PE X a ta)(l:∀whole,al1 a X.env whole=(do let v <- whole;ag2 a.pos;holding [v] `cl)):
  PT X a (λj H Q=>ta j H λx e=>∃k,zD X.K x e k/\Q k e):=by
 intro aa s j H Q I h;show isTrue_plain (bu `el λv o d=>by let#[x,f,g,n,m]:=d;show Yu aa o j f x v Q g n m)<|l _
def M9:cG X `dv (λx y H Q=>∃i j,x=.str i/\y=.str j/\↑i+↑j<=Ò/\Q (.str<|i++j) H):=by
 intro aa s G H x y v u Q I e f h;∎;let#[i,j,rfl,rfl,d,q]:=h;let#[t,rfl]:=e;let#[g,rfl]:=f;∎;show add_str (λg l=>#[.str<|i++j,H,I.tok _,#[_,rfl],q]) d
def lp(r:aH [x] us):∃u,us=[u]/\aE x u:=by
 cases r with
 |cons d r2=>cases r2;show#[_,rfl,d]
def Ko(r:aH [x,y] us):∃u d,us=[u,d]/\aE x u/\aE y d:=by
 cases r with
 |cons e r2=>
  cases r2 with
  |cons r3 r4=>cases r4;show#[_,_,rfl,e,r3]
def As:bV X (.builtin "abs") (λxs H Q=>∃i,xs=[.int i]/\Q (.int (if i<0 then -i else i)) H):=by
 intro aa s j H xs us Q I r h;∎;let#[i,rfl,q]:=h;let#[u,rfl,t,rfl]:=lp r;∎;show call_abs_int λu d=>#[.int (if i<0 then -i else i),H,I.tok _,#[_,rfl],q]
abbrev Fq(K:aq)(x:V)(H:Hp)(n:Nat):Prop:=
 match x with
 |.str y=>↑y <= Ò /\ n=↑y
 |.hX y=>y.size <= Ò /\ n=y.size
 |.ref p=>(∃d,bw K H p d /\ n=↑d) \/ ∃d,cR K H p d /\ n=↑d
 |_=>False
def Nh:bV X (.builtin "len") (λxs H Q=>∃x n,xs=[x]/\Fq X.K x H n/\Q `aY H):=by
 intro aa s j H xs us Q I r h;∎;let#[x,n,rfl,e,q]:=h;let#[u,rfl,o]:=lp r;∎;have z:=qz;have A:Ò=16777216:=Į;cases x with
 |str y=>
  let#[t,rfl]:=o;obtain⟨v,f⟩:↑y<=Ò/\n=↑y:=e;subst f;show len_str ⋯ #[.int _,H,I.tok _,#[_,rfl],q]
 |hX y=>
  let#[t,rfl]:=o;obtain⟨v,f⟩:y.size<=Ò/\n=y.size:=e;subst f;show W.len_bytes ⋯ #[.int _,H,I.tok _,#[_,rfl],q]
 |ref p=>
  cases o;have f:(∃xs,bw X.K H p xs/\n=↑xs)\/∃xs,cR X.K H p xs/\n=↑xs:=e;rcases f with⟨xs,g,f⟩ |⟨xs,g,f⟩
  .subst f;let#[i,m,l,w]:=I.list g;have d:=↑m;show Calls.call_len_list l.isList (by simp only[á];omega) #[.int ↑xs,H,I.tok _,#[_,by simp only[á];rw[d]],q]
  .subst f;let#[i,m,l,w]:=I.tuple g;have d:=↑m;show len_tuple l (by simp only[á];omega) #[.int ↑xs,H,I.tok _,#[_,by simp only[á];rw[d]],q]
 |_=>show (show False from e).elim
end
structure ik(h:aW)(x dx C:ai)(mA:br):Prop where
 obj:h.get? x=À (Κ C dx)
 ns:h.Ns1 dx mA
 ne:dx≠x
def Ru{h:aW}{f:ai}{i:br}(n:h.Ns1 f i):∃od,h.get? f=À od/\∀b,W.lookIn b od=À (i b):=by
 let#[o,g,s,m,hd,l,_,hm]:=n;show#[o,m,λb=>?_];have e:=hm b;unfold nsFind findBy at e;rw[<- ar5] at e;unfold W.lookIn;rw[hd];dsimp only;split
 .rename_i y q;rw[q] at e;show av9 À e
 .rename_i q;rw[q] at e;have a:g.toList.any (·.refKey)=Ç:=by
   rw[au2];intro y r;let#[z,t,d]:=l y<|Array.mem_toList_iff.mp r;simp[DictEntry.refKey,d]
  have j:¬ g.toList.any (·.refKey)=Â:=by rw[a];show â
  rw[av3 j];show av9 À e
def ik.look{b:br}(I:ik h x dx C b):∃od,W.InstAt h x (Κ C dx) C (À od)/\∀a,W.lookIn a od=À (b a):=
 let ⟨od,ho,hl⟩:=Ru I.ns
 #[od,#[I.obj,rfl,rfl,ho],hl]
section
variable{prog:ê}{w:Ă}{A:ą}{E:ar->ao->Prop}{s:ao}{K:aq}{x dx C f:ai}{mA:br}{name:Str}{v:ar}
def WZ{Q:ar->ao->Prop}(X:K.In s.heap)(I:ik s.heap x dx C mA)(d:an5 K C name=Â)(e:W.hasDictIn K C=Â)(b:ċ K `ah name=À Æ)(i:mA name=À v)(a:W.handedIn v=Â)(h:Q v { s with toks:=s.toks+1 }):
  Ú `ae A (getAttr `aZ name expr) Q E s:=by
 let#[od,J,g]:=I.look;show W.get_value X J (aq5 d).1 (W.findObj_own e b rfl<|by rw[g,i]) a h
def Hm{Q:ar×aT->ao->Prop}(X:K.In s.heap)(I:ik s.heap x dx C mA)(a:an5 K C name=Â)(b:ċ K `ah name=À (À<|.ref f))(ht:aj3 K `ax=Â)(e:mA name=Æ)(h:Q (.ref f,[.ref x]) s):
  Ú `ae A (getMethod `aZ name pl) Q E s:=by
 let#[od,J,d]:=I.look;show W.method_fn X J (aq5 a).1 (aq5 a).2 b (beq_iff_eq.mp ht) (by change (W.lookIn name od).map (·.isSome)=À Ç;rw[d,e];rfl) h
def W3{Q:Unit->ao->Prop}(X:K.In s.heap)(I:ik s.heap x dx C mA)(hs:ċ K `ah "__setattr__"=À (À<|.builtin "object.__setattr__"))(u:W.plainOver K C=Â)(ht:W.takerIn K C name=À Æ)(q:W.hasDictIn K C=Â)(z:PySem.Within mA ns)(hsz:↑ns<=Ò)(h:∀h',ik h' x dx C (λy=>if y=name then À v else mA y)->ϳ dx s.heap h'->Q () { s with heap:=h',toks:=s.toks+2 }):
  Ú `ae A (setAttr `aZ name v) Q E s:=by
 let#[od,J,G]:=I.look;show W.set_plain X J hs (W.osa_open (s:={ s with toks:=s.toks+1 }) (r:=Æ) X J u ht λb=>?_);let#[D,o,i]:=W.any_some q;have B:s.heap.get? x=À #[.ref C,À dx,.plain,([].toArray)]:=I.obj;show È (Þ (È (È (aq9 B (È (aq2 (s:={ s with toks:=s.toks+1 }) (ae5 X o) ?_))))));rw[i];show Þ (a:=À dx)<|È<|Þ<|È ?_;show wpAny_nsSet1 (s:={ s with toks:=s.toks+1 }) I.ns λh' d e=>?_
 let#[H,n,m,l,j,g]:=d.count<|PySem.Within.cons name v z;show È (al5 l (by rw[j];show al2 (Ï g (by rw[Ö];omega))) ?_);show Þ<|h _ #[(e.2 _<|đ I.ne).trans I.obj,d,I.ne] e
def TF(X:K.In s.heap)(hm:W.makesIn K C=Â)(b:ċ K `ah "__init__"=À (À<|.ref f))(a:W.typeIn K `ax=À (.type "function"))(h:Ϧ `ae (A.under<|.builtin "type.__call__" #[.ref C::vs,kw]) (.call `ax #[.ref (⇑s+1)::vs,kw]) (W.InitBack (⇑s+1) R)
   { s with heap:=(s.heap.push Ÿ).push `dS }):
  Ϧ `ae A (.call `ah #[vs,kw]) R s:=by
 let#[e,g,d,t,os]:=s;show W.make_core (W.makes_of X hm) (ad0 X b) (λself=>W.bind_fn X self a) `ao h
end
abbrev gi(f:Str)(v:V):List (Str×V)->List (Str×V)
 |[]=>[(f,v)]
 |(g,x)::r=>if g=f then (g,v)::r else (g,x)::gi f v r
def F8(f g:Str)(v:V):∀fs:List (Str×V),(gi f v fs).lookup g=if g=f then À v else fs.lookup g
 |[]=>by
  change ń g [(f,v)]=_;by_cases h:g=f
  .have hb:(g == f)=Â:=beq_iff_eq.mpr h;simp only[ń,hb,av4 h]
  .have hb:(g == f)=Ç:=beq_eq_false_iff_ne.mpr h;simp only[ń,hb,av3 h]
 |(k,x)::r=>by
  have b:=F8 f g v r;rw[show gi f v ((k,x)::r)=(if k=f then (k,v)::r else (k,x)::gi f v r) from rfl];by_cases a:k=f
  .rw[av4 a];by_cases h:g=k
   .have hb:(g == k)=Â:=beq_iff_eq.mpr h;simp only[ń,hb,av4<|h.trans a]
   .have hb:(g == k)=Ç:=beq_eq_false_iff_ne.mpr h;simp only[ń,hb,av3 (λe:g=f=>h<|e.trans a.symm)]
  .rw[av3 a];by_cases h:g=k
   .have hb:(g == k)=Â:=beq_iff_eq.mpr h;simp only[ń,hb,av3 (λe:g=f=>a<|h.symm.trans e)]
   .have hb:(g == k)=Ç:=beq_eq_false_iff_ne.mpr h;simp only[ń,hb];show b
def Aa(f:Str)(v:V):∀fs:List (Str×V),f∈(gi f v fs).map (·.1)/\∀g,g∈fs.map (·.1)->g∈(gi f v fs).map (·.1)
 |[]=>#[by simp[gi],λg h=>by simp at h]
 |(k,x)::r=>by
  let#[b,d]:=Aa f v r;rw[show gi f v ((k,x)::r)=(if k=f then (k,v)::r else (k,x)::gi f v r) from rfl];by_cases a:k=f
  .rw[av4 a];subst a;show#[by simp,λg h=>by simpa using h]
  .rw[av3 a];show#[?_,λg h=>?_]
   .rw[ñ];show Ĥ _ b
   .rw[ñ] at h ⊢;rcases ã.mp h with e |e
    .show ã.mpr (.inl e)
    .show Ĥ _ (d g e)
def F9(f:Str)(v:V):∀fs:List (Str×V),(gi f v fs).length<=↑fs+1
 |[]=>by simp[gi]
 |(k,x)::r=>by
  have b:=F9 f v r;rw[show gi f v ((k,x)::r)=(if k=f then (k,v)::r else (k,x)::gi f v r) from rfl];by_cases a:k=f
  .rw[av4 a,Ö,Ö];omega
  .rw[av3 a,Ö,Ö];omega
def cq.some_of(r:cq (À v) o):∃u,o=À u/\aE v u:=by
 cases o with
 |none=>show (show False from r).elim
 |some u=>show#[u,rfl,r]
def cq.none_of(r:cq Æ o):o=Æ:=by
 cases o with
 |none=>rfl
 |some u=>show (show False from r).elim
def GI(r:aE v u):W.handedIn u=Â:=by
 cases v with
 |aN=>cases (show u=Ŧ from r);rfl
 |bl b=>cases (show u=aa2 b from r);rfl
 |int i=>let#[t,e]:=(show ∃t,u=ag9 i t from r);cases e;rfl
 |str x=>let#[t,e]:=(show ∃t,u=ad6 x t from r);cases e;rfl
 |hX b=>let#[t,e]:=(show ∃t,u=Value.bytes b t from r);cases e;rfl
 |nS b=>let#[t,e]:=(show ∃t,u=aq1 b t from r);cases e;rfl
 |ref a=>cases (show u=Ý a from r);rfl
 |ty n=>cases (show u=Ŋ n from r);rfl
section
variable{P:ê}{w:Ă}{H H':Hp}{h h':aW}{a C dx:ai}{fs fs':List (Str×V)}
def HJ(aS:dG P w H h)(e:H a=À `bz):∃b,ik h a dx C b/\(∀f,cq `aD<|b f)/\PySem.Within b (fs.map (·.1))/\↑fs<=1000/\H dx=À `cZ:=by
 let#[d,z,ne,g,b,n,r,q]:=(show bc P w H h a `bz from aS a _ e);show#[b,#[g,n,ne],r,q,z,d]
end
structure g9(K:aq)(C:ai):Prop where
 pg:an5 K C Str.empty=Â
 hd:W.hasDictIn K C=Â
 po:W.plainOver K C=Â
 sa:ċ K `ah "__setattr__"=À (À<|.builtin "object.__setattr__")
def g9.get{K:aq}{C:ai}(c:g9 K C)(f:Str):an5 K C f=Â:=c.pg
abbrev bj(K:aq)(C:ai)(f:Str):Prop:=ċ K `ah f=À Æ
def bj.vm{K:aq}{C:ai}{f:Str}(n:bj K C f):W.takerIn K C f=À Æ:=by
 unfold W.takerIn;rw[show ċ K `ah f=À Æ from n];rfl
structure Fs(K:aq)(C:ai)(m:Str)(f:ai):Prop where
 at_:ċ K `ah m=À (À<|.ref f)
 fn:aj3 K `ax=Â
 kp:ώ K `ax=Â
section
variable{X:Cx}{aa:aZ}{σ:St}{H:Hp}{s:ao}{a C dx:ai}{fs:List (Str×V)}{f:Str}{v:V}{A:ą}{E:ar->ao->Prop}
def Q2{Q:Unit->ao->Prop}(I:ax X aa σ H s)(e:H a=À `bz)(c:g9 X.K C)(n:bj X.K C f)(L:↑fs<1000)(J:aE y u)(h:∀s',ax X aa σ (aU H a<|.ins C dx<|gi f y fs) s'->Q () s'):Ú `ab A (setAttr `aw f u) Q E s:=by
 let#[j,O,r,l,_,i]:=HJ I.aS e;have G:(fs.map (·.1)).length<=Ò:=by rw[Å,Į];omega
 show W3 I.dh O c.sa c.po n.vm c.hd l G λm d sb=>h _ ?_
 have hd:∃o,m.get? dx=À o:=let ⟨o,_,_,e',_⟩:=d.ns;#[o,e']
 show I.write (x:=a) (e:=dx) (by rw[e];show ô) (.inr i) (λb q B z=>(sb.2 b B).trans z) hd ?_;show#[by rw[ba O.ne];show i,?_,O.ne,d.obj,_,d.ns,λg=>?_,λg D=>?_]
 .have:=F9 f y fs;omega
 .show cq ((gi f y fs).lookup g) (if g=f then À u else j g);rw[F8];by_cases q:g=f
  .rw[av4 q,av4 q];show J
  .rw[av3 q,av3 q];show r g
 .by_cases q:g=f
  .rw[q];show (Aa f y fs).1
  .show (Aa f y fs).2 g (l g λz=>D ?_);change (if g=f then À u else j g)=Æ;rw[av3 q];show z
def ax.made(I:ax X aa σ H s):ax X aa σ (aU (aU H ⇑s (.own<|⇑s+1)) (⇑s+1)<|.ins C ⇑s [])
  { s with heap:=(s.heap.push Ÿ).push `dS }:=by
 have d:(s.heap.push Ÿ).get? ⇑s=À Ÿ:=Ô s.heap rfl;have h:((s.heap.push Ÿ).push<|Κ C ⇑s).get? (⇑s+1)=À `dS:=by
  have:=Ô (s.heap.push Ÿ) (o:=Κ C ⇑s) rfl;rwa[Α] at this
 have i:(s.heap.push Ÿ).Ns ⇑s (λ_=>Æ):=#[Ÿ,([].toArray),_,d,rfl,(λe j=>av5 j<|by simp),λ_=>rfl]
 have g:=I.laid (a:=⇑s) (o:=.own<|⇑s+1) (h':=s.heap.push Ÿ) (t':=s.toks) (λb u q=>Ã _ q) (Î _) #[_,d];show g.laid (a:=⇑s+1) (o:=.ins C ⇑s []) (t':=s.toks) (λb u q=>Ã _ q) (Nat.le_of_eq<|Α _ _) ?_;have ne:⇑s≠⇑s+1:=é<|Ŷ _;show#[by rw[ba ne,dk],Ĺ _,ne,h,λ_=>Æ,(aq0 i).at λo q=>Ã _ q,λ_=>ô,λy l=>av5 rfl l]
def HK(d:õ e f env (eval e env)=eval e env)(h:Ú `ae A (eval e env) (λo b=>Ú `ae A (getAttr o f Â) Q E b) E s):Ú `ae A (eval `aN env) Q E s:=
 Attribute_any_ h (by rw[arm_eval_Attribute,d])
end
abbrev zE(K:aq)(g h:TE)(f:Str):TS:=λD j H=>h j H λy e=>g j e λx b=>∃a C d fs,x=.ref a/\b a=À (.ins C d fs)/\g9 K C/\bj K C f/\↑fs<1000/\
 D.nx j (aU b a<|.ins C d<|gi f y fs)
section
variable{X:Cx}{o e value:ě}{f:Str}{pos pos' tpos:Pos}{ta tv:TE}
def Jq(w:PE X o ta)(z:PE X value tv)(hs:ĳ value (À<|.Attribute o f pos') pos.line X.env=pure Ç):PS X (.Assign [.Attribute o f pos'] value pos) (zE X.K ta tv f):=by
 intro aa s j H D I h;show ak5 (bu (z aa s j H _ I h) λu G b=>?_) hs;let#[y,g,i,E,q]:=b;show bu (w aa G j g _ i q) λov M d=>?_
 let#[x,J,m,B,a,C,L,fs,ex,v,c,n,l,A]:=d;subst ex;obtain rfl:ov=Ý a:=B;show Q2 m v c n l E λN r=>#[j,_,r,A]
end
section
variable{X:Cx}{aa:aZ}{σ:St}{H:Hp}{s:ao}{A:ą}{E:ar->ao->Prop}{Q:ar->ao->Prop}{c:ar}{b:Bool}
inductive eK (K:ac7) (H:Hp):V->ϥ->Prop where
 |aN:eK K H .aN (.type "NoneType")
 |bl (x:Bool):eK K H (.bl x) (.type "bool")
 |int (i:Int):eK K H (.int i) (.type "int")
 |str (x:Str):eK K H (.str x) (.type "str")
 |nS (x:UInt64):eK K H (.nS x) (.type "float")
 |af {a:Ψ} {xs:List V} (e:H a=À (.af xs)):eK K H (.ref a) (.type "list")
 |aC {a:Ψ} {o:Obj} {xs:List V} (e:H a=À (.aC o (.af xs))):eK K H (.ref a) (.type "list")
 |aF {a:Ψ} {xs:List V} (e:H a=À (.aF xs)):eK K H (.ref a) (.type "tuple")
 |dK {a:Ψ} {kvs:List (aI × V)} (e:H a=À (.dK kvs)):eK K H (.ref a) (.type "dict")
 |dT {a:Ψ} {kvs:List (List aI × V)} (e:H a=À (.dT kvs)):eK K H (.ref a) (.type "dict")
 |ins {a C dx:Ψ} {fs:List (Str × V)} (e:H a=À (.ins C dx fs)) (cl:g9 K C) (ha:ċ K (.ref C) "__class__" = À (À (.builtin "object.__class__")))
   (hn:ak4 K (.builtin "object.__class__") "__get__"=À (À (.builtin "getset_descriptor.__get__"))) (htk:W.takesIn K (.builtin "object.__class__")=À Â)
   (hm:W.mroIn K C (.type "object")=À Â):eK K H (.ref a) (.ref C)
def Rv(I:ax X aa σ H s)(f:aE x u)(ty:eK X.K H x t)(e:an4 X.K t c=À b)(h:∀L,Q (.bool b) { s with toks:=L }):
  Ú `ab A (call (.builtin "isinstance") [u,c]) Q E s:=by
 cases ty with
 |aN=>cases (show u=Ŧ from f);show Ō W.kitx_none I.dh ô e (λz=>nomatch z) h
 |bl y=>cases (show u=aa2 y from f);show Ō W.kitx_bool I.dh ô e (λz=>nomatch z) h
 |int i=>let#[t,q]:=(show ∃t,u=ag9 i t from f);cases q;show Ō W.kitx_int I.dh ô e (λz=>nomatch z) h
 |str y=>let#[t,q]:=(show ∃t,u=ad6 y t from f);cases q;show Ō W.kitx_str I.dh ô e (λz=>nomatch z) h
 |nS y=>let#[t,q]:=(show ∃t,u=aq1 y t from f);cases q;show Ō W.kitx_float I.dh ô e (λz=>nomatch z) h
 |@af a l d=>
  cases (show u=Ý a from f);let#[_,_,n,_,g]:=(show bc X.prog X.w H s.heap a (.af l) from I.aS a _ d);show Ō W.kitx_list I.dh #[_,g,rfl] e (λz=>nomatch z) h
 |@aC a G l d=>
  cases (show u=Ý a from f);let#[_,_,_,n,_,g]:=(show bc X.prog X.w H s.heap a (.aC G<|.af l) from I.aS a _ d);show Ō W.kitx_list I.dh #[_,g,rfl] e (λz=>nomatch z) h
 |@aF a l d=>
  cases (show u=Ý a from f);∎;let#[_,_,_,p]:=(show bc X.prog X.w H s.heap a (.aF l) from I.aS a _ d);let#[o,g,m,_]:=p;∎;show Ō W.kitx_tuple I.dh #[o,g,m] e (λz=>nomatch z) h
 |@dK a j d=>
  cases (show u=Ý a from f);∎;let#[_,_,vs,_,p]:=(show bc X.prog X.w H s.heap a (.dK j) from I.aS a _ d);let#[o,B,v,g,m,_]:=p;∎;show Ō W.kitx_dict I.dh #[o,g,m.1] e (λz=>nomatch z) h
 |@dT a j d=>
  cases (show u=Ý a from f);let#[_,_,l,_,o,B,v,g,m,_]:=(show bc X.prog X.w H s.heap a (.dT j) from I.aS a _ d);show Ō W.kitx_dict I.dh #[o,g,m.1] e (λz=>nomatch z) h
 |@ins a C M fs d cl D hn r hm=>
  cases (show u=Ý a from f);∎;let#[N,O,_]:=HJ I.aS d;let#[od,J,_]:=O.look;∎;show Ō (W.kitx_own (cl.get _) cl.hd D hn r hm) I.dh J e (λz=>nomatch z) h
end
structure bD(k:Nat)(A:ą):Prop where
 hd:A.handled=Æ
 dp:A.depth+3*k+5<recursionLimit
 un:A.units+16*k+200<ģ
def bD.mono(r:bD k A)(h:j<=k):bD j A:=#[r.hd,by have:=r.dp;omega,by have:=r.un;omega]
def bD.deeper(r:bD (k+1) A)(env:Env):bD k (A.deeper env):=
 #[r.hd,by have:=r.dp;change A.depth+1+3*k+5<_;omega,by have:=r.un;change A.units+3+16*k+200<_;omega]
def Q3{A:ą}{C:ai}{us:aT}{a:List (Str×ar)}:(A.under<|.builtin "type.__call__" #[.ref C::us,a]).depth=A.depth+1:=by
 first |rfl |simp[am1,Code.weight,Code.isCreation,Code.isGuard,Code.isCaller,Code.frames,ao5,guardIds]
def Q4{A:ą}{C:ai}{us:aT}{a:List (Str×ar)}:(A.under<|.builtin "type.__call__" #[.ref C::us,a]).units=A.units+1:=by
 first |rfl |simp[am1,Code.cUnits,Code.frames,ao5]
def bD.make(r:bD (k+1) A)(C:ai)(us:aT)(a:List (Str×ar)):bD k (A.under<|.builtin "type.__call__" #[.ref C::us,a]):=
 #[r.hd,by have:=r.dp;rw[Q3];omega,by have:=r.un;rw[Q4];omega]
def bD.depth(r:bD k A):A.depth<recursionLimit:=by have:=r.dp;omega
def bD.units(r:bD k A):A.units+64<ģ:=by have:=r.un;omega
abbrev nr:TA:=λ_ H Q=>Q [] H
abbrev ng(d:TE)(tr:TA):TA:=λj H Q=>d j H λx a=>tr j a λe b=>Q (x::e) b
section
variable{X:Cx}{e:ě}{es:b5}{te:TE}{t:TA}{pos:Pos}
def qA:PA X [] nr:=λ_ _ _ _ H Q I h=>Ş #[[],H,I,.nil,h]
def oJ(l:PE X e te)(m:PA X es t)(hs:do fA e es X.env):PA X (e::es) (ng te t):=by
 intro pos aa s j H Q I h;rw[hs];change Ú _ _ (spliced ((Ç,eval e X.env)::Ϗ pos (ē es X.env))) _ _ s;show ļ<|bu (l aa s j H _ I h) λu r a=>?_;let#[x,d,g,q,n]:=a;show bu (m pos aa r j d _ g n) λus w b=>by let#[v,f,i,r2,o]:=b;show#[x::v,f,i,.cons q r2,o]
abbrev Ft(t:TA):TE:=λj H Q=>t j H λb a=>↑b<=Ò/\∀p,a p=Æ->Q `am (aU a p<|.aF b)
abbrev Fu(t:TA):TE:=λj H Q=>t j H λb a=>↑b<=Ò/\∀p,a p=Æ->Q `am (aU a p<|.af b)
def Yv{x1}(h:PA X es t):PE X `en (Ft t):=by
 intro aa s j H Q I l;show wpAny_Tuple_spliced<|bu (h pos aa s j H _ I l) λus a d=>?_;let#[m,f,g,r,z,q]:=d;show#[by rw[<- ↑r];show z,?_];have i:f ⇑a=Æ:=g.aS.fresh<|Î _;show#[.ref ⇑a,aU f ⇑a (.aF m),g.laid (t':=a.toks) (λb u e=>Ã _ e) (Î _) ?_,rfl,q _ i];show#[z,us,r,#[_,Ô _ rfl,rfl,_,rfl]]
def Yw(h:PA X es t):PE X (.List es pos) (Fu t):=by
 intro aa s j H Q I l;show wpAny_List_spliced<|bu (h pos aa s j H _ I l) λus a d=>?_;let#[m,f,g,r,z,q]:=d;show#[by rw[<- ↑r];show z,?_];have i:f ⇑a=Æ:=g.aS.fresh<|Î _;show#[.ref ⇑a,aU f ⇑a (.af m),g.laid (t':=a.toks) (λb u e=>Ã _ e) (Î _) ?_,rfl,q _ i];show#[z,us,0,r,Ô _ rfl]
end
nonrec abbrev Sp:=ay->Hp->VK->XK->Prop
nonrec abbrev gB:=cK->Hp->ao->XK->ar->ao->Prop
structure i7(P:ê)(w:Ă)(K:aq)(mg:br)(base:aW)(A:ą)(outer:cK)(s:ao)(H:Hp):Prop where
 frames:A.frames=À outer
 mod:Mod K mg base
 bs:∀b o,base.get? b=À o->s.heap.get? b=À o/\H b=Æ
 kL:base.objs.size<=⇑s
 eA:s.heap.FunFrames base outer
 mS:∀b∈cO outer,H b=Æ
 aS:dG P w H s.heap
 bare:aa6 s.gens
abbrev CE(outer:cK)(P:ê)(w:Ă)(H:Hp)(s:ao)(Q:VK)(u:ar)(s':ao):Prop:=
 ∃v a,s'.os=s.os/\aa6 s'.gens/\Un (cO outer) [] H a s.heap s'.heap/\dG P w a s'.heap/\aE v u/\Q v a
abbrev CR(CX:gB)(outer:cK)(P:ê)(w:Ă)(H:Hp)(s:ao)(Q:VK)(E:XK)(r:Result)(s':ao):Prop:=
 match r with
 |.ok (.ret u)=>CE outer P w H s Q u s'
 |.ok _=>False
 |.error e=>CX outer H s E e s'
structure aK(P:ê)(w:Ă)(K:aq)(mg:br)(base:aW)(CX:gB)(k:Nat)(f:ai)(fd:į)(ps:ah)(sp:Sp):Prop where
 len:∀vs H Q E,sp vs H Q E->↑vs=↑ps
 run:∀(A:ą)(outer:cK)(s:ao)(H:Hp)(args:Args)(us:aT)(vs:ay)(Q:VK)(E:XK),bD k A->i7 P w K mg base A outer s H->BindsTo s fd args `bD->aH vs us->sp vs H Q E->
  Ϧ `bj A (.call `ax args) (CR CX outer P w H s Q E) s
def aK.mono{P:ê}{w:Ă}{K:aq}{mg:br}{base:aW}{CX:gB}{j k:Nat}{f:ai}{a:į}{ps:ah}{sp:Sp}(F:aK P w K mg base CX j f a ps sp)(h:j<=k):
  aK P w K mg base CX k f a ps sp:=#[F.len,λA outer s H args us vs Q E b=>F.run A outer s H args us vs Q E<|b.mono h]
def aK.imp{P:ê}{w:Ă}{K:aq}{mg:br}{base:aW}{CX:gB}{k:Nat}{f:ai}{b:į}{ps:ah}{sp a:Sp}(F:aK P w K mg base CX k f b ps sp)(h:∀vs H Q E,a vs H Q E->sp vs H Q E):aK P w K mg base CX k f b ps a:=
 #[λvs H Q E q=>F.len vs H Q E<|h _ _ _ _ q,λA outer s H args us vs Q E g e d j i=>F.run A outer s H args us vs Q E g e d j<|h _ _ _ _ i]
def i7.make{P:ê}{w:Ă}{K:aq}{mg:br}{base:aW}{A:ą}{outer:cK}{s:ao}{H:Hp}(e:i7 P w K mg base A outer s H)(C:ai)(us:aT)(a:List (Str×ar)):
  i7 P w K mg base (A.under<|.builtin "type.__call__" #[.ref C::us,a]) outer s H:=#[by first |show e.frames |(simpa [am1,Code.envs,ao5,pushEnvs] using e.frames),e.mod,e.bs,e.kL,e.eA,e.mS,e.aS,e.bare]
section
variable{X:Cx}{aa:aZ}{σ:St}{H:Hp}{s s':ao}
def ax.nQ(I:ax X aa σ H s):i7 X.prog X.w X.K X.mg X.base X.A X.stack s H:=
 #[I.ok.frames,I.ok.mod,I.bs,Ï I.ok.kL I.sz,I.stack,I.g7,I.aS,I.bare]
def ax.after(I:ax X aa σ H s)(h:CE X.stack X.prog X.w H s Q u s'):EP X aa σ Q u s':=by
 ∎;let#[v,e,os,bare,un,aS,r,q]:=h;let#[f,g,d,t,a]:=s';∎;obtain rfl:a=s.os:=os;show#[v,e,I.call (h':=f) (g':=g) (d':=d) (t':=t) (ch:=[]) un aS bare (λb z=>av5 z<|by simp),r,q]
end
abbrev EJ(sp:Sp)(a:ay)(E:XK)(t:TA):TE:=λj H Q=>t j H λvs b=>sp (vs++a) b Q E
abbrev Binds(K:aq)(b:į)(ps:ah)(a:aT):Prop:=
 ∀(s:ao)(us:aT),K.In s.heap->(us++a).length=↑ps->BindsTo s b #[us,[]] (ps.zip<|us++a)
def Binds.all{K:aq}{a:į}{ps:ah}(h:∀us:aT,us.length=↑ps->bindArgs a #[us,[]]=pure `bD):Binds K a ps []:=λs us _ b=>by
 rw[Č] at b ⊢;show .of_eq<|h us b
abbrev qa(CX:gB)(X:Cx)(E:XK):Prop:=∀(aa:aZ)(j:St)(H:Hp)(s:ao)(e:ar)(a:ao),ax X aa j H s->CX X.stack H s E e a->X.xe e a
section
variable{X:Cx}{CX:gB}{k:Nat}{f C:ai}{fd:į}{ps:ah}{sp:Sp}{dvs:ay}{ds:aT}{E:XK}{x m:Str}{p pos apos:Pos}{e o:ě}{es:b5}{ta:TE}{t:TA}
def Yx(F:aK X.prog X.w X.K X.mg X.base CX k f fd ps sp)(i:bD k X.A)(d:Binds X.K fd ps ds)(hd:aH dvs ds)(l:qa CX X E)(I:ax X aa j H s)(r:aH vs us)(h:sp (vs++dvs) H Q E):Ú `ab X.A (call `ax us) `av X.xe s:=by
 have r2:aH (vs++dvs) (us++ds):=r.append hd;have g:(us++ds).length=↑ps:=by rw[<- ↑r2];show F.len _ _ _ _ h
 show ad9<|Ξ (F.run X.A X.stack s H #[us,[]] (us++ds) (vs++dvs) Q E i I.nQ (d s us I.dh g) r2 h) λr n a=>?_;cases r with
 |error e=>show l aa j H s e n I a
 |ok b=>
  cases b with
  |ret u=>show I.after a
  |next=>show ò a
  |brk=>show ò a
  |cont=>show ò a
def W4(F:aK X.prog X.w X.K X.mg X.base CX k f fd ps sp)(y:bD k X.A)(u:Gl X x)(hm:X.mg x=À `ax)(v:ώ X.K `ax=Â)(l:Binds X.K fd ps ds)(hd:aH dvs ds)(z:qa CX X E)(i:PA X (e::es) t)(a: ~~~(dY x))(n:do fA e es X.env)(b:do gq pos es X.env):
  PE X (.Call `aP (e::es) [] pos) (EJ sp dvs E t):=by
 intro aa s j H Q I h;show Ħ<|oH I u hm ?_ a;show ac8 (h₀:=X.base) I.ok.mod.nU v (bu `aT λus D d=>?_) n b;let#[vs,B,g,r,q]:=d;show#[g.dh,?_];show Yx F y l hd z g r q
structure Mk(K:aq)(C f:ai):Prop where
 makes:W.makesIn K C=Â
 init:ċ K `ah "__init__"=À (À<|.ref f)
 fn:aj3 K `ax=Â
 kp:ώ K `ah=Â
end
structure bX(N P:ah)(sc:Ω):Prop where
 kind:sc.kind=.function
 co:sc.isCoroutine=Ç
 gen:sc.isGenerator=Ç
 nd:N.Nodup
 pre:N.take ↑P=P
 par:∀x∈P,sc.names.lookup x=À .local\/sc.names.lookup x=À .cell
 qS:∀y∈sc.names,y.2≠.free
def GJ{kindOf:Str->Option Ϥ}{x:Str}:∀{binds:List (Str×ar)}{m:br},(∀v,(x,v) ∉ binds)->bindL kindOf binds m x=m x
 |[],_,_=>rfl
 |(n,v)::r,m,h=>by
  unfold bindL;rw[GJ λw a=>h w<|Ĥ _ a];split
  .have:x≠n:=by rintro rfl;show h v ϐ
   simp[this]
  .rfl
def GK{kindOf:Str->Option Ϥ}{x:Str}:∀{binds:List (Str×ar)}{m:br},(∀v,(x,v) ∉ binds)->bindC kindOf binds m x=m x
 |[],_,_=>rfl
 |(n,v)::r,m,h=>by
  unfold bindC;rw[GK λw a=>h w<|Ĥ _ a];split
  .rfl
  .have:x≠n:=by rintro rfl;show h v ϐ
   simp[this]
def GL{kindOf:Str->Option Ϥ}{v:ar}:∀{P:ah}{vs:aT}{i:Nat}{m:br},P.Nodup->P[i]?=À x->vs[i]?=À v->kindOf x=À .local->
  bindL kindOf (P.zip vs) m x=À v
 |[],_,_,_,_,h,_,_=>by simp at h
 |_::_,[],_,_,_,_,h,_=>by simp at h
 |p::P,w::vs,0,m,nd,h1,h2,hk=>by
  simp at h1 h2;subst h1;subst h2;change bindL kindOf ((p,w)::P.zip vs) m p=_;unfold bindL;rw[GJ λv a=>(č.mp nd).1 (ĺ a).1,av4 hk];simp
 |p::P,w::vs,i + 1,m,nd,h1,h2,hk=>by
  change bindL kindOf ((p,w)::P.zip vs) m x=_;unfold bindL;show GL (i:=i) (č.mp nd).2 (by simpa using h1) (by simpa using h2) hk
def GN{kindOf:Str->Option Ϥ}{v:ar}:∀{P:ah}{vs:aT}{i:Nat}{m:br},P.Nodup->P[i]?=À x->vs[i]?=À v->kindOf x≠À .local->
  bindC kindOf (P.zip vs) m x=À v
 |[],_,_,_,_,h,_,_=>by simp at h
 |_::_,[],_,_,_,_,h,_=>by simp at h
 |p::P,w::vs,0,m,nd,h1,h2,hk=>by
  simp at h1 h2;subst h1;subst h2;change bindC kindOf ((p,w)::P.zip vs) m p=_;unfold bindC;rw[GK λv a=>(č.mp nd).1 (ĺ a).1,av3 hk];simp
 |p::P,w::vs,i + 1,m,nd,h1,h2,hk=>by
  change bindC kindOf ((p,w)::P.zip vs) m x=_;unfold bindC;show GN (i:=i) (č.mp nd).2 (by simpa using h1) (by simpa using h2) hk
abbrev start(N:ah)(vs:ay):St:=vs.map À++Ë (↑N - ↑vs) Æ
abbrev kI(CX:gB)(P:ê)(w:Ă)(K:aq)(mg:br)(base:aW)(N:ah)(b:Str)(a:Ω)(f:ai)(g:ar)(A:ą)(outer:cK)(s:ao)(H:Hp)(E:XK):Cx where
 prog:=P
 w:=w
 K:=K
 mg:=mg
 base:=base
 A:=A.deeper<|Ĝ b a ⇑s f g
 N:=N
 s₀:=s
 H₀:=H
 env:=Ĝ b a ⇑s f g
 outer:=outer
 stack:=Ĝ b a ⇑s f g::outer
 ex:=[]
 calm:=Â
 fn:=λ_=>Â
 pn:=[]
 xe:=λe i=>Ú `bj (A.deeper<|Ĝ b a ⇑s f g) (leaving (Ĝ b a ⇑s f g) e) (λ_ d=>CX outer H s E e d) (λh d=>CX outer H s E h d) i
def Hn{sc:Ω}{n:Nat}{x:Str}(h:sc.names.lookup x=À .cell):∃c,(cellsFrom n sc.names []).lookup x=À c:=by
 have q:=W.cellsFrom_some sc.names n [] (.inl h);show Ź.mp q
def Rw{CX:gB}{P:ê}{w:Ă}{K:aq}{mg:br}{base:aW}{N ps:ah}{g:Str}{d:Ω}{f:ai}{D:ar}{A:ą}{outer:cK}{s M:ao}{H:Hp}{E:XK}{us:aT}{vs:ay}(S:bX N ps d)(hd:A.handled=Æ)(l:i7 P w K mg base A outer s H)(hl:↑vs=↑ps)(r:aH vs us)(x:InCallC s ⇑s (bindL (Ĝ g d ⇑s f D).kindOf `bD λ_=>Æ) (cellsFrom (⇑s+1) d.names []) (bindC (Ĝ g d ⇑s f D).kindOf `bD λ_=>Æ) M):
  ax (kI CX P w K mg base N g d f D A outer s H E) [] `bh H M:=by
 have Q:↑ps<=↑N:=by have:=av9 ad3 S.pre;rw[ĭ] at this;omega
 let#[G,tk,rfl,J]:=x.done;have o:∀b:Ψ,b ∉ (kI CX P w K mg base N g d f D A outer s H E).ex:=λb z=>av5 (show b∈([]:c6) from z) ∅
 show#[#[l.mod,S.kind,rfl,rfl,Î _,λy z c G j=>?_,λy m=>?_,λy c _ h=>?_,λ_=>hd,Around.frames_deeper l.frames,.inr #[rfl,rfl],λb z=>av5 z<|o b,l.bs,l.kL,λb _ _=>o b,λb z=>av5 z<|o b,l.eA,l.mS],
  rfl,l.bare,Un.kept J,#[_,x.toInCall.ns,λi y v G j Y=>?_],λy c h=>#[_,x.cell y c h],l.aS.fresh<|Î _,λy c h=>?_,λp B=>av5 (show p∈([]:aZ) from B) ∅,l.aS.kept J,?_]
 .show name_of_addr x.apart (PySem.mem_of_lookup G) (PySem.mem_of_lookup j)
 .have m:d.names.lookup y=À .cell\/d.names.lookup y=À .free:=m;rcases m with m |m
  .show Hn m
  .show av5 rfl (S.qS _ (PySem.mem_of_lookup m))
 .show ň (x.above y c (PySem.mem_of_lookup h))
 .have I:i<↑vs:=by
   unfold start at j;by_cases I:i<↑vs
   .show I
   .rw[Ĕ<|by simpa using I] at j;rw[İ] at j;split at j<;>cases j
  have O:vs[i]?=À v:=by
   unfold start at j;rw[ď (by simpa using I),Í] at j;cases e:vs[i]? with
   |none=>rw[e] at j;cases j
   |some a=>rw[e] at j;cases j;rfl
  let#[u,L,U]:=r.get O;have B:ps[i]?=À y:=by
   rw[<- S.pre,List.getElem?_take_of_lt ⋯];show G
  have C:ps.Nodup:=by rw[<- S.pre];show S.nd.sublist<|List.take_sublist _ _
  show#[u,U,?_];rcases S.par y (Ð B) with k |k
  .show .inl ⟨k,GL C B L k⟩
  .obtain⟨c,e⟩:=Hn (n:=⇑s+1) k;show .inr #[.inl k,c,e,?_];have q:=x.cell y c e;rw[GN C B L (by change d.names.lookup y≠_;rw[k];decide)] at q;show q
 .show l.aS.fresh (ň<|x.above y c<|PySem.mem_of_lookup h)
 .unfold start;change _=↑N;rw[Ù,Å,à];omega
def Kq{CX:gB}{P:ê}{w:Ă}{K:aq}{mg:br}{base:aW}{k:Nat}{f:ai}{j d:Str}{g:Arguments}{h:List Ā}{a:Ω}{dV kV doc pm bS ct oc:ar}{an od:bW}{osl:Array (du)}{N ps:ah}{sp:Sp}(lk:K.lookup f=À #[oc,od,.func<|aj2 j d g h a dV kV doc pm an bS ct,osl])(L:W.codeIn K bS d=Â)(S:bX N ps a)(len:∀vs H Q E,sp vs H Q E->↑vs=↑ps)(l:∀(A:ą)(outer:cK)(s:ao)(H:Hp)(vs:ay)(Q:VK)(E:XK),bD k (A.deeper<|Ĝ d a ⇑s f bS)->sp vs H Q E->
   ∃t,fR `aM h t/\t { nx:=λ_ i=>Q .aN i,rt:=Q } `bh H):
  aK P w K mg base CX (k+1) f (aj2 j d g h a dV kV doc pm an bS ct) ps sp:=by
 show#[len,λA outer s H args us vs Q E M B hb r D=>?_];have hl:=len _ _ _ _ D;have KX:K.In s.heap:=B.mod.nU.keeps λb o e=>(B.bs b o e).1
 have O:s.heap.NoLimit:=B.mod.nolimit.keeps λb o e=>(B.bs b o e).1
 have m:∀y∈ps.zip us,a.names.lookup y.1=À .local\/(a.names.lookup y.1=À .cell/\((cellsFrom (⇑s+1) a.names []).lookup y.1).isSome=Â):=λ⟨n,v⟩ hy=>by
  rcases S.par n (ĺ hy).1 with q |q
  .show .inl q
  .show .inr ⟨q,W.cellsFrom_some _ _ _ (.inl q)⟩
 show codeAny_call_function M.depth (KX _ _ lk) rfl S.co S.gen rfl (W.codeRec_of KX L) (hb _ _ _ _ ?_);show wpAny_newFunctionEnv_cells S.kind m λenv he s1 x=>?_
 subst he;show#[O.keeps x.toInCall.keep,codeAny_func ?_];let#[t,ht,hq]:=l A outer s H vs Q E (M.deeper _) D;have I:ax `aM [] `bh H s1:=Rw S M.hd B hl r x;show Đ (ht [] s1 `bh H _ I hq) (λfl Y z=>?_) λe Y z=>z
 have C:∀{G:St}{i:Hp}{v:V}{u:ar},ax `aM [] G i Y->aE v u->Q v i->CE outer P w H s Q u Y:=
  λ{G i v u} J U q=>#[v,i,J.os,J.bare,J.base,J.aS,U,q]
 cases fl with
 |ret u=>
  let#[v,G,i,J,U,q]:=z;show C J U q
 |next=>
  let#[G,i,J,q]:=z;show C (v:=V.aN) (u:=Ŧ) J rfl q
 |brk=>
  let#[_,_,_,q]:=z;show ò q
 |cont=>
  let#[_,_,_,q]:=z;show ò q
section
variable{X:Cx}{x:Str}{p pos:Pos}{e:ě}{es:b5}{t:TA}{id T:String}{r:ay->Hp->VK->Prop}
abbrev vl(r:ay->Hp->VK->Prop)(t:TA):TE:=λj H Q=>t j H λvs a=>r vs a Q
def TH(l:bV X `aQ r)(n:Gl X x)(hm:X.mg x=Æ)(o:ŏ x=À `aQ)(i:PA X (e::es) t)(hn: ~~~(x≠"__name__"))(a: ~~~(dY x))(m:do fA e es X.env)(b:do gq pos es X.env):PE X (.Call `aP (e::es) [] pos) (vl r t):=by
 intro aa s j H Q I h;show Ħ<|k6 I n hm o ?_ hn a;show PyProof.Rows.callWith_builtin1 (bu `aT λus v d=>by let#[vs,f,g,u,q]:=d;show l aa v j f vs us Q g u q) m b
def Ab(l:bV X `cE r)(n:Gl X x)(hm:X.mg x=Æ)(o:ŏ x=À `cE)(i:PA X (e::es) t)(hn: ~~~(x≠"__name__"))(a: ~~~(dY x))(m:do fA e es X.env)(b:do gq pos es X.env):PE X (.Call `aP (e::es) [] pos) (vl r t):=by
 intro aa s j H Q I h;show Ħ<|k6 I n hm o ?_ hn a;show Ą (bu `aT λus v d=>by let#[vs,f,g,u,q]:=d;show l aa v j f vs us Q g u q) m b
end
section
variable{κ:Type}[DecidableEq κ]
abbrev gs(kvs:List (κ×V))(k:κ):Option V:=(kvs.find? λa=>decide<|a.1=k).map (·.2)
abbrev jc(kvs:List (κ×V))(k:κ)(v:V):List (κ×V):=
 if (kvs.any λa=>decide<|a.1=k)=Â then kvs.map (λa=>if a.1=k then (a.1,v) else a) else kvs++[(k,v)]
def Av{p:κ×V}{r:List (κ×V)}{k:κ}(e:p.1=k):gs (p::r) k=À p.2:=by simp[gs,Ń,e]
def Aw{p:κ×V}{r:List (κ×V)}{k:κ}(e:¬ p.1=k):gs (p::r) k=gs r k:=by simp[gs,Ń,e]
def Ho(k:κ):∀kvs:List (κ×V),(kvs.any λa=>decide<|a.1=k)=(gs kvs k).isSome
 |[]=>rfl
 |p::r=>by
  rw[ϣ];by_cases e:p.1=k
  .simp only[Av e,av6 e,Bool.true_or,Option.isSome_some]
  .rw[Aw e,av7 e,al8];show Ho k r
def Ga(kvs:List (κ×V))(k:κ)(v:V):(jc kvs k v).length<=↑kvs+1:=by
 unfold jc;split
 .rw[Å];omega
 .rw[Ù,Ö,ϔ];omega
def cq.dg(r:cq o u):o.isSome=u.isSome:=by
 cases o with
 |none=>cases u with
  |none=>rfl
  |some _=>show (show False from r).elim
 |some _=>cases u with
  |none=>show (show False from r).elim
  |some _=>rfl
def cq.getD(r:cq o u)(rd:aE d d'):aE (o.getD d) (u.getD d'):=by
 cases o with
 |none=>cases u with
  |none=>show rd
  |some _=>show (show False from r).elim
 |some _=>cases u with
  |none=>show (show False from r).elim
  |some _=>show r
def KV.val{kvs:List (κ×V)}{vs:List (κ×ar)}(r:KV kvs vs)(k:κ):cq (gs kvs k) (ad8 vs k):=by
 unfold KV at r
 induction r with
 |nil=>show ô
 |@cons p q i a h t g=>
  let#[d,f]:=h;by_cases e:p.1=k
  .have e':q.1=k:=d.symm.trans e;have b:ad8 (q::a) k=À q.2:=by simp[ad8,Ń,e']
   rw[Av e,b];show f
  .have e':¬ q.1=k:=λz=>e<|d.trans z
   have b:ad8 (q::a) k=ad8 a k:=by simp[ad8,Ń,e']
   rw[Aw e,b];show g
def KV.any(r:KV kvs vs)(k:κ):(kvs.any λa=>decide<|a.1=k)=vs.any λa=>decide (a.1=k):=by
 unfold KV at r
 induction r with
 |nil=>rfl
 |cons h t b=>rw[ϣ,ϣ,b,h.1]
def KV.qW(r:KV kvs vs)(k:κ)(g:aE y u):
  KV (kvs.map λa=>if a.1=k then (a.1,y) else a) (vs.map λa=>if a.1=k then (a.1,u) else a):=by
 unfold KV at r ⊢
 induction r with
 |nil=>show .nil
 |@cons p q i j h t f=>
  rw[ñ,ñ];show .cons ?_ f;let#[b,d]:=h;by_cases e:p.1=k
  .rw[av4 e,av4<|b.symm.trans e];show#[b,g]
  .rw[av3 e,av3<|λz=>e<|b.trans z];show#[b,d]
def KV.put(r:KV kvs vs)(k:κ)(a:aE y u):KV (jc kvs k y) (stored vs k u):=by
 unfold jc stored;rw[r.any k];by_cases e:(vs.any λb=>decide<|b.1=k)=Â
 .rw[av4 e,av4 e];show r.qW k a
 .rw[av3 e,av3 e];show Paired.snoc r #[rfl,a]
def KV.length(r:KV kvs vs):↑kvs=↑vs:=Paired.length r
end
def sy(r:aE (kV k) u):(eM P w).is k u=Â:=by
 cases k with
 |inl i=>let#[t,e]:=(show ∃t,u=ag9 i t from r);subst e;show PK P w i t
 |inr x=>let#[t,e]:=(show ∃t,u=ad6 x t from r);subst e;show PL P w x t
def GO:∀{ks:List aI}{us:aT},aH (ks.map kV) us->ItemsAre `cY ks us
 |[],_,r=>by rw[af5] at r;cases r;show .nil
 |k::ks,_,r=>by
  rw[ñ] at r;cases r with
  |cons h t=>show .cons (sy h)<|GO t
nonrec abbrev KT(H:Hp):List (List aI×V)->List (List aI×ai×ar)->Prop:=Paired λp q=>p.1=q.1/\H q.2.1=À (.aF<|p.1.map kV)/\aE p.2 q.2.2
def KT.val{H:Hp}{kvs:List (List aI×V)}{xs:List (List aI×ai×ar)}(r:KT H kvs xs)(k:List aI):cq (gs kvs k) ((atKey xs k).map (·.2)):=by
 induction r with
 |nil=>show ô
 |@cons p q i a h t g=>
  let#[d,_,f]:=h;by_cases e:p.1=k
  .have e':q.1=k:=d.symm.trans e;have b:atKey (q::a) k=À q.2:=by simp[atKey,Ń,e']
   rw[Av e,b];show f
  .have e':¬ q.1=k:=λz=>e<|d.trans z
   have b:atKey (q::a) k=atKey a k:=by simp[atKey,Ń,e']
   rw[Aw e,b];show g
def KT.qW(r:KT H kvs xs)(k:List aI)(i:aE y u):
  KT H (kvs.map λb=>if b.1=k then (b.1,y) else b) (xs.map<|putAt k u):=by
 induction r with
 |nil=>show .nil
 |@cons p q j l h t g=>
  rw[ñ,ñ];show .cons ?_ g;let#[a,d,f]:=h;unfold putAt;by_cases e:p.1=k
  .rw[av4 e,av4<|a.symm.trans e];show#[a,d,i]
  .rw[av3 e,av3<|λz=>e<|a.trans z];show#[a,d,f]
def KT.put{H:Hp}(r:KT H kvs xs)(k:List aI)(d:H b=À (.aF<|k.map kV))(a:aE y u):
  KT H (jc kvs k y) (storedH xs k b u):=by
 have e:(kvs.any λf=>decide<|f.1=k)=(atKey xs k).isSome:=by
  rw[Ho,(r.val k).dg,ϕ]
 unfold jc storedH;rw[e];by_cases q:(atKey xs k).isSome=Â
 .rw[av4 q,av4 q];show r.qW k a
 .rw[av3 q,av3 q];show Paired.snoc r #[rfl,d,a]
def KT.keeps{H a:Hp}(r:KT H kvs xs)(ht:∀b ys,H b=À (.aF ys)->a b=À (.aF ys)):KT a kvs xs:=
 Paired.ve r λ_ _ z=>#[z.1,ht _ _ z.2.1,z.2.2]
section
variable{P:ê}{w:Ă}{H:Hp}{h:aW}{a:ai}
def Kr(ok:dG P w H h)(e:Rd H a u):bc P w H h a u:=e.ok ok
def iU(ok:dG P w H h)(e:Rd H a `as):↑kvs<=Ò/\(a == ţ)=Ç/\∃vs,KV kvs vs/\h.DictOf `cY a vs:=
 show bc P w H h a `as from Kr ok e
def xY(ok:dG P w H h)(e:H a=À `as):↑kvs<=Ò/\(a == ţ)=Ç/\∃vs,KV kvs vs/\h.DictOf `cY a vs:=iU ok<|.inl e
def rW(ok:dG P w H h)(e:H a=À (.aF<|ks.map kV)):(ag3<|eM P w).is h ks a:=by
 let#[_,b,r,o,d,f,n,g]:=(show bc P w H h a (.aF<|ks.map kV) from ok a _ e);show#[o,b.toArray,n,d,f,g,by simpa using GO r]
def qH(ok:dG P w H h)(e:Rd H a (.dT kvs)):↑kvs<=Ò/\(a == ţ)=Ç/\
  ∃xs,KT H kvs xs/\h.DictOfH (ag3<|eM P w) a xs:=by
 let#[z,y,xs,r,o,g,f,i,j,n,s,u]:=(show bc P w H h a (.dT kvs) from Kr ok e);show#[z,y,xs,r,o,g,f,i,j,n,s,λx b=>?_,u];have all:∀{l:List (List aI×V)}{m:List (List aI×ai×ar)},KT H l m->∀x∈m,(ag3<|eM P w).is h x.1 x.2.1:=by
  intro l m q
  induction q with
  |nil=>intro x b;show nomatch b
  |@cons p q A B d t v=>
   intro x b;rcases ã.mp b with e |b
   .subst e;show rW ok (by rw[<- d.1];show d.2.1)
   .show v x b
 show all r x b
def Lm(ok:dG P w H h)(e:H a=À (.dT kvs)):↑kvs<=Ò/\(a == ţ)=Ç/\
  ∃xs,KT H kvs xs/\h.DictOfH (ag3<|eM P w) a xs:=qH ok<|.inl e
end
abbrev oo(H:Hp)(a:ai)(y:V)(r:Option V):Prop:=
 (∃d k,Rd H a `cc/\y=kV k/\r=gs d k)\/∃d k b,Rd H a (.dT d)/\y=.ref b/\H b=À (.aF<|k.map kV)/\r=gs d k
abbrev kS(H:Hp)(a:ai)(y v:V)(e:Hp):Prop:=
 (∃d k,H a=À `cc/\y=kV k/\↑d<Ò/\e=aU H a (.dK<|jc d k v))\/
 ∃d k b,H a=À (.dT d)/\y=.ref b/\H b=À (.aF<|k.map kV)/\↑d<Ò/\e=aU H a (.dT<|jc d k v)
def kS.k{H:Hp}{a:ai}{kvs:b9}{k:aI}{v:V}(e:H a=À `as)(b:↑kvs<Ò):kS H a (kV k) v (aU H a<|.dK<|jc kvs k v):=.inl #[kvs,k,e,rfl,b,rfl]
section
variable{X:Cx}{aa:aZ}{σ:St}{H:Hp}{s:ao}{a:ai}{y v:V}{u r:ar}{o:Option V}{A:ą}{E:ar->ao->Prop}
def ax.big(I:ax X aa σ H s):ţ<⇑s:=by
 have h:Š<⇑s:=(I.mod.glob.keeps I.bk).lt;show Nat.lt_trans ∎ h
def Rx{Q:ar->ao->Prop}(C:A.units+1<ģ)(I:ax X aa σ H s)(g:oo H a y (À v))(x:aE y u)(h:∀i s',ax X aa σ H s'->aE v i->Q i s'):
  Ú `ab A (getItem `aw u) Q E s:=by
 rcases g with⟨q,k,e,j,l⟩ |⟨q,k,b,e,j,eb,l⟩
 .subst j;∎;let#[z,hd,vs,d,dd]:=iU I.aS e;let#[i,n,f]:=cq.some_of (v:=v) (o:=ad8 vs k) (by rw[l];show d.val k);∎;show wpAny_getItem_of (sy x) dd.mapOf n<|h i _ (I.tok _) f
 .subst j;cases (show u=Ý b from x);∎;let#[z,hd,D,d,dd]:=qH I.aS e;let#[i,n,f]:=cq.some_of (v:=v) (o:=(atKey D k).map (·.2)) (by rw[l];show d.val k);let#[p,B,m]:=am0.mp n;∎;show wpAny_getItem_heap (ϖ C) `ct dd B ?_;rw[m];show h i _ (I.tok _) f
def MC{Q:ar->ao->Prop}(m:A.units+1<ģ)(I:ax X aa σ H s)(g:oo H a y o)(j:aE y u)(h:∀s',ax X aa σ H s'->Q (.bool o.isSome) s'):
  Ú `ab A (ö .In u<|.ref a) Q E s:=by
 rcases g with⟨i,k,e,f,l⟩ |⟨i,k,b,e,f,eb,l⟩
 .subst f;let#[z,hd,vs,d,dd]:=iU I.aS e;show wpAny_in_of (sy j) hd dd.mapOf ?_;rw[<- (d.val k).dg,<- l];show h _<|I.tok _
 .subst f;cases (show u=Ý b from j);let#[z,hd,n,d,dd]:=qH I.aS e;show wpAny_in_heap (ϖ m) `ct hd dd ?_;have q:=(d.val k).dg;rw[ϕ] at q;rw[<- q,<- l];show h _<|I.tok _
def W5{Q:ar->ao->Prop}(m:A.units+1<ģ)(I:ax X aa σ H s)(g:oo H a y o)(j:aE y u)(h:∀s',ax X aa σ H s'->Q (.bool (!o.isSome)) s'):
  Ú `ab A (ö .NotIn u<|.ref a) Q E s:=by
 rcases g with⟨i,k,e,f,l⟩ |⟨i,k,b,e,f,eb,l⟩
 .subst f;let#[z,hd,vs,d,dd]:=iU I.aS e;show wpAny_notIn_of (sy j) hd dd.mapOf ?_;rw[<- (d.val k).dg,<- l];show h _<|I.tok _
 .subst f;cases (show u=Ý b from j);let#[z,hd,n,d,dd]:=qH I.aS e;show wpAny_notIn_heap (ϖ m) `ct hd dd ?_;have q:=(d.val k).dg;rw[ϕ] at q;rw[<- q,<- l];show h _<|I.tok _
def HL(I:ax X aa σ H s)(h:sR (H a))(hs:ϳ a s.heap h')(g:∃q,h'.get? a=À q)(d:bc X.prog X.w (aU H a ob) h' a ob):
  ax X aa σ (aU H a ob) { s with heap:=h',toks:=t' }:=
 I.write (x:=a) (e:=a) h `ao (λb q f z=>(hs.2 b f).trans z) g d
def Jr(z:↑kvs<=Ò)(hd:(a == ţ)=Ç)(b:KV kvs vs)(dd:h'.DictOf `cY a vs):
  bc P w H' h' a `as:=#[z,hd,vs,b,dd]
def Ry{Q:Unit->ao->Prop}(hu:A.units+1<ģ)(I:ax X aa σ H s)(g:kS H a y v H')(L:aE y u)(J:aE v r)(h:∀s',ax X aa σ H' s'->Q () s'):
  Ú `ab A (setItem `aw u r) Q E s:=by
 rcases g with⟨d,k,e,n,l,m⟩ |⟨d,k,b,e,n,eb,l,m⟩
 .subst n m;let#[z,hd,vs,f,dd]:=xY I.aS e;have C:↑vs<=Ò:=by rw[<- ↑f];show z
  have x:(jc d k v).length<=Ò:=by have:=Ga d k v;omega
  show wpAny_setItem_pairs (hsz:=C) (sy L) dd λG i B=>h _ ?_
  have he:∃q,G.get? a=À q:=let ⟨q,_,_,j,_⟩:=i;#[q,j]
  show HL I (by rw[e];show ô) B he<|Jr x hd (f.put k J) i
 .subst n m;cases (show u=Ý b from L);let#[z,hd,xs,f,dd]:=Lm I.aS e;have C:↑xs<=Ò:=by rw[<- Paired.length f];show z
  have x:(jc d k v).length<=Ò:=by have:=Ga d k v;omega
  show wpAny_setItem_heap (hsz:=C) (ϖ hu) `ct dd λG i B=>h _ ?_
  let#[q,N,M,j,O,U,Y,_,h5]:=i;show HL I (by rw[e];show ô) B #[q,j] #[x,hd,_,(f.put k eb J).keeps λc ys D=>?_,q,N,M,j,O,U,Y,h5];rw[ba (L9 D e (λz=>nomatch z))];show D
end
section
variable{X:Cx}{aa:aZ}{σ:St}{H:Hp}{s:ao}{a:ai}{kvs:b9}{k:aI}{u:ar}{A:ą}{E:ar->ao->Prop}
def Ln{Q:ar->ao->Prop}(I:ax X aa σ H s)(e:Rd H a `as)(h:∀t s',ax X aa σ H s'->Q (.int ↑kvs t) s'):Ú `ab A (call (.builtin "len") [.ref a]) Q E s:=by
 let#[z,hd,vs,b,dd]:=iU I.aS e;show call_len_dict hd dd (by rw[<- ↑b];rw[Į] at z;omega) ?_;rw[<- ↑b];show h _ _<|I.tok _
end
def PM(I:ax X aa j H s)(g:oo H a y o):s.TypeIs `aw "dict":=by
 rcases g with⟨d,k,e,_,_⟩ |⟨d,k,b,e,_,_,_⟩
 .obtain⟨_,_,vs,_,dd⟩:=iU I.aS e;show dd.typeIs
 .obtain⟨_,_,xs,_,dd⟩:=qH I.aS e;show dd.typeIs
abbrev EK(g ty h:TE):TS:=λD j H=>h j H λv d=>g j d λx e=>ty j e λy f=>∃a b,x=.ref a/\kS f a y v b/\D.nx j b
section
variable{X:Cx}{o i e value:ě}{pos pos' tpos:Pos}{td ty tv:TE}
def W6(G:X.A.units+1<ģ)(E:PE X o td)(C:PE X i ty)(J:PE X value tv)(hs:ĳ value (À<|.Subscript o i pos') pos.line X.env=pure Ç):
  PS X (.Assign [.Subscript o i pos'] value pos) (EK td ty tv):=by
 intro aa s j H D I h;show wpAny_Assign_Subscript (bu (J aa s j H _ I h) λr Y b=>?_) hs;let#[v,l,q,O,L]:=b;show bu (E aa Y j l _ q L) λu s2 d=>?_
 let#[x,m,w,Q,M]:=d;show bu (C aa s2 j m _ w M) λiv s3 f=>?_
 let#[y,H3,z,U,a,n,ex,g,N]:=f;subst ex;obtain rfl:u=Ý a:=Q;show Ry G z g U O λs4 B=>#[j,n,B,N]
end
def TJ(h:aW)(a:ţ<h.objs.size):bc P w H (h.push { cls:=.type "dict",data:=.dict ([].toArray) }) h.objs.size (.dK []):=
 #[Ĺ _,beq_eq_false_iff_ne.mpr<|đ<|é a,[],.nil,Heap.DictOf.new h]
abbrev Ef:TE:=λ_ H Q=>∀p,H p=Æ->Q `am (aU H p<|.dK [])
section
variable{X:Cx}{pos:Pos}
def TK:PE X (.Dict [] [] pos) Ef:=λaa s j H Q I h=>
 wpAny_Dict_empty #[.ref ⇑s,_,I.laid (a:=⇑s) (o:=.dK []) (t':=s.toks) (λ_ _ q=>Ã _ q) (Î _)<|TJ s.heap I.big,rfl,h _<|I.aS.fresh<|Î _]
end
structure M2(X:Cx)(o:ě)(m:Str)(apos:Pos)(e f:ě)(bo:Pos):Prop where
 base:õ o m X.env `ap=eval o X.env
 Of:((Ϗ bo<|ē [e,f] X.env).all (λx=>!x.1)&&(aj4 bo<|aa9 [] X.env).all (λx=>x.1.isSome)
  && decide (([e,f]:b5).length+([]:List ag0).length+(if ([]:List ag0).isEmpty then 0 else 1)<30))=Â
 line:(apos.endLine == bo.line)=Â
 trees:Ϗ bo (ē [e,f] X.env)=[(Ç,eval e X.env),(Ç,eval f X.env)]
abbrev C7(H:Hp)(a:ai):Prop:=(∃b,Rd H a<|.dK b)\/∃b,Rd H a<|.dT b
def rX(I:ax X aa j H s)(d:C7 H a):
  s.TypeIs `aw "dict"/\(∀b,Ý a=.ref b->∃ob,s.heap.get? b=À ob/\ob.dict=Æ)/\(a == ţ)=Ç:=by
 rcases d with⟨h,e⟩ |⟨h,e⟩
 .obtain⟨_,hd,vs,_,dd⟩:=iU I.aS e;show#[dd.typeIs,λb q=>?_,hd];cases q;let#[ob,_,_,f,g,_]:=dd;show#[ob,f,g.2.1]
 .obtain⟨_,hd,xs,_,dd⟩:=qH I.aS e;show#[dd.typeIs,λb q=>?_,hd];cases q;let#[ob,_,_,f,g,_]:=dd;show#[ob,f,g.2.1]
section
variable{X:Cx}{aa:aZ}{σ:St}{H:Hp}{s:ao}{a:ai}{y d:V}{u r:ar}{o:Option V}{A:ą}{E:ar->ao->Prop}
def Yy{Q:ar->ao->Prop}(q:A.units+1<ģ)(I:ax X aa σ H s)(g:oo H a y o)(m:aE y u)(rd:aE d r)(h:∀n s',ax X aa σ H s'->aE (o.getD d) n->Q n s'):
  Ú `ab A (call (.builtin "dict.get") [.ref a,u,r]) Q E s:=by
 rcases g with⟨j,k,e,i,l⟩ |⟨j,k,b,e,i,eb,l⟩
 .subst i;let#[z,hd,vs,f,dd]:=iU I.aS e;show Ő PySem.F.slot_dict_get dd.typeIs PySem.F.entry_dict_get `cm (meets_dict_get_default `aF a (sy m) hd r) #[_,dd.mapOf,h _ _ (I.tok _) ?_];rw[l];show (f.val k).getD rd
 .subst i;cases (show u=Ý b from m);let#[z,hd,v,f,dd]:=qH I.aS e;show Ő PySem.F.slot_dict_get dd.typeIs PySem.F.entry_dict_get `cm (meetsH_dict_get_default (ag3<|eM X.prog X.w) a b hd r) #[ϖ q,k,v,rW I.aS eb,dd,h _ _ (I.tok _) ?_];rw[l];show (f.val k).getD rd
end
abbrev Eg(f ty g:TE):TE:=λj H Q=>f j H λx b=>∃a,x=.ref a/\C7 b a/\ty j b λy e=>g j e λz d=>∃o,oo d a y o/\Q (o.getD z) d
section
variable{X:Cx}{o e f:ě}{apos bo:Pos}{td ty tx:TE}
def TL(B:X.A.units+1<ģ)(w:PE X o td)(r:PE X e ty)(v:PE X f tx)(m:M2 X o "get" apos e f bo):PE X (.Call (.Attribute o "get" apos) [e,f] [] bo) (Eg td ty tx):=by
 intro aa s j H Q I h;show wpAny_Call_method m.base m.Of m.line PySem.F.plainAttrs_dict PySem.F.slot_dict_get PySem.F.type_dict_get<|bu (w aa s j H _ I h) λu E i=>?_;let#[x,n,l,D,a,ex,d,C]:=i;subst ex;obtain rfl:u=Ý a:=D;let#[J,L,_]:=rX l d;show#[J,L,?_];rw[m.trees];show ķ rfl (ac3 (ļ (bu (r aa E j n _ l C) λN G ⟨y,H2,I2,ry,q2⟩=>
  ļ (bu (v aa G j H2 _ I2 q2) λM O ⟨z,H3,I3,rz,ov,g,q3⟩=>Ş ?_))))
 show Yy B I3 g ry rz λY U q b=>#[_,H3,q,b,q3]
end
section
variable{X:Cx}{aa:aZ}{σ:St}{H:Hp}{s:ao}{a:ai}{kvs:b9}{A:ą}{E:ar->ao->Prop}
def TM{Q:ar->ao->Prop}(I:ax X aa σ H s)(e:Rd H a `as)(h:∀p s',H p=Æ->ax X aa σ (aU H p<|.dK kvs) s'->Q `am s'):Ú `ab A (call (.type "dict") [.ref a]) Q E s:=by
 let#[z,hd,vs,d,dd]:=iU I.aS e;show kt_call_dict hd dd (by rw[<- ↑d];show z) λj f i=>?_
 show h _ _ (I.aS.fresh<|Î _)<|I.laid (a:=⇑s) (o:=.dK kvs) (t':=s.toks) (λb q g=>?_) (Î _)<|Jr z (beq_eq_false_iff_ne.mpr<|đ<|é I.big) d f;show (i.2 b<|é<|Ì g).trans<|Ã _ g
end
end L2
namespace HT
open PySem PyProof.Rows
section
variable{prog:ê}{w:Ă}{A:ą}{E:ar->ao->Prop}{s:ao}
abbrev eY(n d:Nat):bT->Nat
 |none=>d
 |some v=>if v < 0 then (v + (n:Int)).toNat else min v.toNat n
end
end HT
namespace L2
open PySem PySem.Spec PyProof.Rows
nonrec abbrev TO:=St->Hp->(bT->Hp->Prop)->Prop
abbrev PO(X:Cx)(e:Option ě)(t:TO):Prop:=
 ∀(aa:aZ)(s:ao)(j:St)(H:Hp)(Q:bT->Hp->Prop),ax X aa j H s->t j H Q->
  Ú `ab X.A (evalPart e X.env) (λu b=>∃o a,ax X aa j a b/\IsPart u o/\Q o a) X.xe s
abbrev D2:TO:=λ_ H Q=>Q Æ H
abbrev EL(t:TE):TO:=λj H Q=>t j H λx a=>∃i,x=.int i/\Q (À i) a
def Q5:∀{us:aT},aH `aL us->ao4 us ns:=by
 induction ns with
 |nil=>intro us r;rw[af5] at r;cases r;show .nil
 |cons n ns a=>
  intro us r;rw[ñ] at r;cases r with
  |cons b r2=>
   let#[t,e]:=b;subst e;show .cons n t<|a r2
section
variable{X:Cx}{e:ě}{te:TE}{lo hi:Option ě}{tl th:TO}{pos p2:Pos}
def W7:PO X Æ D2:=by
 intro aa s j H Q I h;rw[evalPart_none];show Þ #[Æ,H,I,.none,h]
def W8(h:PE X e te):PO X (À e) (EL te):=by
 intro aa s j H Q I f;rw[evalPart_some];show bu (h aa s j H _ I f) λu m a=>?_
 ∎;let#[x,b,d,l,g]:=a;let#[i,rfl,q]:=g;let#[t,rfl]:=l;∎;show#[À i,b,d,.int i t,q]
abbrev n7(X:Cx)(r:V->bT->bT->Hp->VK->Prop):Prop:=
 ∀(aa:aZ)(s:ao)(j:St)(H:Hp)(x:V)(v b d:ar)(lo hi:bT)(a:ai)(Q:VK),ax X aa j H s->aE x v->s.heap.IsSliceOf a b d .none->IsPart b lo->IsPart d hi->r x lo hi H Q->
  ∃T id,aq8 `cE "__getitem__"=pure (À<|.builtin id)/\s.TypeIs v T/\Ú `ab X.A (getItem v<|.ref a) `av X.xe s
def n7.or{r f:V->bT->bT->Hp->VK->Prop}(h:n7 X r)(h':n7 X f):n7 X (λx lo hi H Q=>r x lo hi H Q\/f x lo hi H Q):=by
 intro aa s j H x v l m lo hi i Q I g a b d q;rcases q with q |q
 .show h aa s j H x v l m lo hi i Q I g a b d q
 .show h' aa s j H x v l m lo hi i Q I g a b d q
abbrev KC(r:V->bT->bT->Hp->VK->Prop)(te:TE)(tl th:TO):TE:=λj H Q=>te j H λx a=>tl j a λl b=>th j b λu d=>r x l u d Q
def TN(L:n7 X r)(E:PE X e te)(J:PO X lo tl)(N:PO X hi th):PE X (.Subscript e `dN pos) (KC r te tl th):=by
 intro aa s j H Q I h;show Subscript_<|bu (E aa s j H _ I h) λv s1 d=>?_;let#[x,n,y,r1,Y]:=d;show wpAny_Slice<|bu (J aa s1 j n _ y Y) λf s2 d=>?_;let#[l,o,z,O,q2]:=d;show bu (N aa s2 j o _ z q2) λg a i=>?_
 let#[u,m,B,U,q3]:=i;rw[evalPart_none];show Þ ?_;have C:ax X aa j m { a with heap:=a.heap.push { cls:=.type "slice",data:=.fields ([f,g,.none].toArray) } }:=B.kept (t':=a.toks) λb ob q=>Ã _ q
 let#[T,id,D,M,G]:=L aa { a with heap:=a.heap.push { cls:=.type "slice",data:=.fields ([f,g,.none].toArray) } } j m x v f g l u ⇑a Q C r1 (Heap.IsSliceOf.new ..) O U q3;change Ú `ab X.A (as8 e `dN v<|.ref ⇑a) `av X.xe { a with heap:=a.heap.push { cls:=.type "slice",data:=.fields ([f,g,.none].toArray) } };show tail_any (ops:=[.ref ⇑a,v]) M D G (by with_unfolding_all rfl)
abbrev wy(xs:ay)(lo hi:bT):ay:=(xs.drop<|HT.eY ↑xs 0 lo).take<|HT.eY ↑xs ↑xs hi - HT.eY ↑xs 0 lo
def PN(xs:ay)(lo hi:bT):(wy xs lo hi).length<=↑xs:=by
 unfold wy;rw[ĭ,List.length_drop];omega
end
abbrev iM(n:Nat)(i:Int):Option Nat:=if 0<=i then (if i<n then À i.toNat else Æ) else if -(n:Int)<=i then À (i+n).toNat else Æ
abbrev cW{G:Type}(xs:List G)(i:Int):Option G:=(iM ↑xs i).bind λj=>xs[j]?
def HM(h:iM n i=À j):seqIndex? i n=À j/\j<n/\-(n:Int)<=i/\i<n:=by
 unfold iM at h;by_cases b:0<=i
 .rw[av4 b] at h;by_cases a:i<n
  .rw[av4 a] at h;have e:i.toNat=j:=Ø h;show#[by rw[seqIndex_of b a,e],⋯,⋯,a]
  .rw[av3 a] at h;cases h
 .rw[av3 b] at h;by_cases a:-(n:Int)<=i
  .rw[av4 a] at h;have e:(i+n).toNat=j:=Ø h;show#[by rw[seqIndex_neg ⋯ a,e],⋯,a,⋯]
  .rw[av3 a] at h;cases h
def AH(h:cW xs i=À v):∃j,seqIndex? i ↑xs=À j/\xs[j]?=À v/\j<↑xs/\-(↑xs:Int)<=i/\i<↑xs:=by
 unfold cW at h;cases e:iM ↑xs i with
 |none=>rw[e] at h;cases h
 |some j=>
  rw[e] at h;let#[a,b,d,f]:=HM e;show#[j,a,h,b,d,f]
abbrev D3(b:ě):Prop:=∀o i,subscripted b Ç o i=operate [o,i] (getItem o i)
abbrev kT(X:Cx)(r:R2):Prop:=
 ∀(value a:ě)(aa:aZ)(s:ao)(j:St)(H:Hp)(x y:V)(v u:ar)(Q:VK),ax X aa j H s->aE x v->aE y u->r x y H Q->
  subscripted a Ç v u=operate [v,u] (getItem v u)->Ú `ab X.A (as8 value a v u) `av X.xe s
abbrev MR(X:Cx)(id:String)(r:V->ay->Hp->VK->Prop):Prop:=
 ∀(aa:aZ)(s:ao)(j:St)(H:Hp)(x:V)(a:ay)(v:ar)(us:aT)(Q:VK),ax X aa j H s->aE x v->aH a us->r x a H Q->
  Ú `ab X.A (call `aQ (v::us)) `av X.xe s
section
variable{X:Cx}{a b:ě}{ta tb:TE}{pos:Pos}
def kT.or{r f:R2}(h:kT X r)(h':kT X f):kT X (λx y H Q=>r x y H Q\/f x y H Q):=by
 intro value d aa s j H x y v u Q I g i q e;rcases q with q |q
 .show h value d aa s j H x y v u Q I g i q e
 .show h' value d aa s j H x y v u Q I g i q e
def Lo(i:kT X r)(f:PE X a ta)(g:PE X b tb)(hs:D3 b):PE X `dO `cs:=by
 intro aa s j H Q I h;show Subscript_<|CK f g I h λv u n x y d e l m q=>i a b aa n j d x y v u Q e l m q<|hs _ _
abbrev Fv(K:aq):R2:=λx y H Q=>∃p d i v,x=.ref p/\y=.int i/\bw K H p d/\cW d i=À v/\Q v H
abbrev Fw(K:aq):R2:=λx y H Q=>∃p d i v,x=.ref p/\y=.int i/\cR K H p d/\cW d i=À v/\Q v H
abbrev Fx:R2:=λx y H Q=>∃z i c,x=.str z/\y=.int i/\↑z<=Ò/\cW z.cps.toList i=À c/\Q (.str #[([c].toArray)]) H
def Nc:kT X (Fv X.K):=by
 intro value m aa s G H x y v u Q I M N h A;let#[p,xs,i,z,rfl,rfl,L,E,q]:=h;cases M;∎;let#[t,rfl]:=N;let#[f,r,g,Y]:=I.list L;let#[j,e,B,U,C,D]:=AH E;let#[w,n,l]:=r.get B;∎;have J:=↑r;have hn:=qz;have d:EP X aa G Q w s:=#[z,H,I,l,q];by_cases o:0<=i
 .have hj:i.toNat=j:=by
   rw[seqIndex_of o D] at e;show Ø e
  show item_listR g.isList o ⋯ (by rw[hj];simpa using n) d A
 .have hj:(i+(f.toArray.size:Int)).toNat=j:=by
   rw[seqIndex_neg ⋯ C] at e;rw[á,<- J];show Ø e
  show au9 (x:=w) g.isList.typeIs slot_list_getitem.lookup
   (wpAny_getItem_list_neg (Q:=λr O=>r=w/\EP X aa G Q r O) g.isList ⋯ (by rw[á]<;>omega) ⋯ (by rw[hj];simpa using n) #[rfl,d]) A
def Nm:kT X (Fw X.K):=by
 intro value f aa s G H x y v u Q I E J h C;let#[p,Y,i,z,rfl,rfl,B,o,q]:=h;cases E;∎;let#[t,rfl]:=J;let#[D,r,g,U]:=I.tuple B;let#[j,m,n,M,N,O]:=AH o;let#[w,l,e]:=r.get n;∎;have A:=↑r;have hn:=qz;have d:EP X aa G Q w s:=#[z,H,I,e,q];show au9 (x:=w) g.typeIs slot_tuple_getitem.lookup
  (getItem_tuple (j:=j) (Q:=λr L=>r=w/\EP X aa G Q r L) g ⋯ ⋯ (by rw[á,<- A];show m) (by simpa using l) #[rfl,d]) C
def Yz:kT X Fx:=by
 intro value d aa s G H x y v u Q I A B h w;∎;let#[z,i,c,rfl,rfl,D,o,q]:=h;let#[t,rfl]:=A;let#[E,rfl]:=B;let#[j,e,l,C,m,n]:=AH o;∎;have r:↑z.cps.toList=↑z:=by simp[Str.length]
 rw[r] at e m n;have hn:=qz;show tail_any (typeIs_str s z t) slot_str_getitem.lookup (getItem_str (c:=c) (by
  have f:decide (i < -(2 ^ 63:Int))=Ç:=av7 ⋯;have g:decide (i ≥ 2 ^ 63)=Ç:=av7 ⋯;rw[f,g,Bool.or_false]) (by rw[e];simpa using l) #[.str #[([c].toArray)],H,I.tok _,#[_,rfl],q]) w
abbrev Kl(K:aq):R2:=λx y H Q=>Fv K x y H Q\/Fw K x y H Q\/Fx x y H Q
def Nn:kT X (Kl X.K):=Nc.or<|Nm.or Yz
def Q6(d:aT)(n j:Nat)(u:ar):Ś (·.setIfInBounds j u) { cls:=.type "list",data:=.seq d.toArray n }={ cls:=.type "list",data:=.seq (d.set j u).toArray n }:=by
 simp[Ś]
def ax.af{H:Hp}(I:ax X aa j H s)(h:H p=À `bV):
  ∃(d:aT)(n:Nat),aH xs d/\s.heap.get? p=À { cls:=.type "list",data:=.seq d.toArray n }/\↑xs<=Ò:=by
 let#[z,d,n,r,e]:=I.aS p _ h;show#[d,n,r,e,z]
def ax.qQ{aa:aZ}{j:St}{H:Hp}{s:ao}{p:ai}{xs ys:ay}{d its':aT}{n n':Nat}{f:Obj->Obj}(I:ax X aa j H s)(h:H p=À `bV)(l:s.heap.get? p=À { cls:=.type "list",data:=.seq d.toArray n })(g:f { cls:=.type "list",data:=.seq d.toArray n }={ cls:=.type "list",data:=.seq its'.toArray n' })(r:aH ys its')(hz:↑ys<=Ò)(t:Nat):
  ax X aa j (aU H p<|.af ys) { s with heap:=s.heap.update p f,toks:=t }:=by
 have e:(s.heap.update p f).get? p=À { cls:=.type "list",data:=.seq its'.toArray n' }:=by
  rw[Ē f l (by rw[g]<;>rfl),g]
 show I.write (x:=p) (e:=p) (by rw[h];trivial) `ao (λb u i q=>(ü _ _<|đ i).trans q) #[_,e] ?_;show#[hz,its',n',r,e]
abbrev EM:V->V->V->Hp->(Hp->Prop)->Prop:=λo i v H Q=>∃p d k j,o=.ref p/\i=.int k/\H p=À (.af d)/\iM ↑d k=À j/\Q (aU H p<|.af<|d.set j v)
def Uq:Fm X EM:=by
 intro aa s G H o i v ov L u Q I C B D h;let#[p,E,k,j,rfl,rfl,y,z,q]:=h;cases C;∎;let#[t,rfl]:=B;let#[d,n,r,g,A]:=I.af y;let#[e,J,w,x]:=HM z;∎;have f:=↑r;have hn:=qz;have l:ax X aa G (aU H p<|.af<|E.set j v) { s with heap:=s.heap.update p (Ś (·.setIfInBounds j u)) }:=
  I.qQ y g (Q6 d n j u) (r.set D j) (by rw[û];show A) s.toks
 by_cases m:0<=k
 .have hk:k.toNat=j:=by
   rw[seqIndex_of m x] at e;show Ø e
  show W.ki_setAt g m ⋯ (by rw[á,<- f];show x) (by rw[hk];show#[_,l,q])
 .have hk:(k+(d.toArray.size:Int)).toNat=j:=by
   rw[seqIndex_neg ⋯ w] at e;rw[á,<- f];show Ø e
  show W.ki_setBack g ⋯ (by rw[á,<- f];show w) ⋯ (by rw[hk];show#[_,l,q])
def Pe(lo d:bT)(n:Nat):(Ϲ lo d Æ n).1=((HT.eY n 0 lo:Nat):Int)/\(Ϲ lo d Æ n).2.1=((HT.eY n n d:Nat):Int)/\(Ϲ lo d Æ n).2.2=1:=by
 show#[?_,?_,rfl]
 .cases lo with
  |none=>simp[Ϲ,HT.eY]
  |some i=>
   simp only[Ϲ,HT.eY,at8,show (1:Int) > 0 by decide,if_true];by_cases h:i<0
   .simp only[h,if_true]<;>omega
   .simp only[h,if_false]<;>omega
 .cases d with
  |none=>simp[Ϲ,HT.eY]
  |some i=>
   simp only[Ϲ,HT.eY,at8,show (1:Int) > 0 by decide,if_true];by_cases h:i<0
   .simp only[h,if_true]<;>omega
   .simp only[h,if_false]<;>omega
def OY(d:aT)(lo e:bT):slicePick d.toArray lo e Æ=((d.drop<|HT.eY ↑d 0 lo).take<|HT.eY ↑d ↑d e - HT.eY ↑d 0 lo).toArray:=by
 let#[f,g,h]:=Pe lo e d.toArray.size;unfold slicePick;rw[f,g,h];simp only[sliceRange_one,pick_run,á]<;>rfl
abbrev Fy(K:aq):V->bT->bT->Hp->VK->Prop:=λx lo e H Q=>∃a d,x=.ref a/\bw K H a d/\∀p,H p=Æ->Q `am (aU H p<|.af<|wy d lo e)
def Nd:n7 X (Fy X.K):=by
 intro aa s j H x v B C lo f A Q I y i u w h;let#[a,d,rfl,l,q]:=h;cases y;let#[n,r,g,m]:=I.list l;have e:=↑r;show#["list",_,slot_list_getitem.lookup,g.isList.typeIs,?_];show wpAny_getItem_list_slice g.isList i u w .none ∅ ?_ (by rw[á]<;>omega);rw[OY,<- e];show#[.ref ⇑s,_,I.laid (t':=s.toks) (o:=.af<|wy d lo f) (λb z q=>Ã _ q) (Î _) ?_,rfl,q _<|I.aS.fresh<|Î _];show#[Ï (PN d lo f) m,_,0,(r.drop<|HT.eY ↑d 0 lo).take<|HT.eY ↑d ↑d f - HT.eY ↑d 0 lo,Ô _ rfl]
abbrev iP:V->Bool
 |.aN=>Â
 |.bl _=>Â
 |.int _=>Â
 |.str _=>Â
 |_=>Ç
abbrev jo:V->V->Bool
 |.aN,.aN=>Â
 |.bl a,.bl b=>a == b
 |.bl a,.int b=>(if a then 1 else 0) == b
 |.int a,.bl b=>a == (if b then 1 else 0)
 |.int a,.int b=>a == b
 |.str a,.str b=>a == b
 |_,_=>Ç
def nG(g:aE y u)(d:aE x v)(h:iP y=Â)(f:iP x=Â):Ľ A s u v (jo y x):=by
 cases y with
 |aN=>
  cases g;cases x with
  |aN=>cases d;show Ϙ _
  |bl b=>cases d;show SeqAt.EqAt.none_bool b
  |int b=>let#[t,rfl]:=d;show SeqAt.EqAt.none_int b t
  |str b=>let#[t,rfl]:=d;show SeqAt.EqAt.none_str b t
  |_=>show av5 (show Ç=Â from f) â
 |bl a=>
  cases g;cases x with
  |aN=>cases d;show SeqAt.EqAt.bool_none a
  |bl b=>cases d;show SeqAt.EqAt.bool_bool a b
  |int b=>let#[t,rfl]:=d;show SeqAt.EqAt.bool_int a b t
  |str b=>let#[t,rfl]:=d;show SeqAt.EqAt.bool_str a b t
  |_=>show av5 (show Ç=Â from f) â
 |int a=>
  let#[e,rfl]:=g;cases x with
  |aN=>cases d;show SeqAt.EqAt.int_none a e
  |bl b=>cases d;show SeqAt.EqAt.int_bool a e b
  |int b=>let#[t,rfl]:=d;show SeqAt.EqAt.int_int a e b t
  |str b=>let#[t,rfl]:=d;show am4 a e b t
  |_=>show av5 (show Ç=Â from f) â
 |str a=>
  let#[e,rfl]:=g;cases x with
  |aN=>cases d;show SeqAt.EqAt.str_none a e
  |bl b=>cases d;show SeqAt.EqAt.str_bool a e b
  |int b=>let#[t,rfl]:=d;show am5 a e b t
  |str b=>let#[t,rfl]:=d;show SeqAt.EqAt.str_str a e b t
  |_=>show av5 (show Ç=Â from f) â
 |_=>show av5 (show Ç=Â from h) â
abbrev jn(x:V)(u:ar):Bool:=match u with
 |.none=>jo .aN x
 |.bool b=>jo `cd x
 |.int i _=>jo `aE x
 |.str z _=>jo (.str z) x
 |_=>Ç
def Js(r:aE y u)(f:iP y=Â):jn x u=jo y x:=by
 cases y with
 |aN=>cases r;rfl
 |bl b=>cases r;rfl
 |int i=>let#[t,rfl]:=r;rfl
 |str z=>let#[t,rfl]:=r;rfl
 |_=>show av5 (show Ç=Â from f) â
def uq:∀{xs:ay}{us:aT},aH xs us->xs.all iP=Â->us.any `bM=xs.any λy=>jo y x
 |_,_,.nil,_=>rfl
 |y::xs,u::us,.cons r t,f=>by
  rw[Χ,å] at f;rw[ϣ,ϣ,Js r f.1,uq t f.2]
def ux(g:aE x v)(e:iP x=Â):∀{xs:ay}{us:aT},aH xs us->xs.all iP=Â->∀u∈us,Ľ A s u v<|jn x u
 |_,_,.nil,_=>λu d=>by cases d
 |y::xs,u::us,.cons r t,f=>λh d=>by
  rw[Χ,å] at f;rcases ã.mp d with rfl |d
  .rw[Js r f.1];show nG r g f.1 e
  .show ux g e t f.2 h d
abbrev xX(x:V)(xs:ay):Bool:=xs.any λy=>jo y x
abbrev vh(K:aq)(neg:Bool):R2:=λx y H Q=>∃p d,y=.ref p/\(bw K H p d\/cR K H p d)/\iP x=Â/\d.all iP=Â/\Q (.bl (if neg then !xX x d else xX x d)) H
def M7:cG X (ö .In) (vh X.K Ç):=by
 intro aa s j H x y v u Q I g i h;let#[p,l,rfl,d,f,fs,q]:=h;cases i;rcases d with d |d
 .obtain⟨eG,r,pl,hz⟩:=I.list d;show SeqAt.in_listAt `bM pl.isList (λw e=>ux g f r fs w<|by simpa using e) #[.bl _,H,I,rfl,?_];rw[show eG.toArray.any `bM=eG.any `bM by simp,uq r fs];show q
 .obtain⟨eG,r,pl,hz⟩:=I.tuple d;show SeqAt.in_tupleAt `bM pl (λw e=>ux g f r fs w<|by simpa using e) #[.bl _,H,I,rfl,?_];rw[show eG.toArray.any `bM=eG.any `bM by simp,uq r fs];show q
def Na:cG X `dT (vh X.K Â):=by
 intro aa s j H x y v u Q I g i h;let#[p,l,rfl,d,f,fs,q]:=h;cases i;rcases d with d |d
 .obtain⟨eG,r,pl,hz⟩:=I.list d;show SeqAt.notIn_listAt `bM pl.isList (λw e=>ux g f r fs w<|by simpa using e) #[.bl _,H,I,rfl,?_];rw[show eG.toArray.any `bM=eG.any `bM by simp,uq r fs];show q
 .obtain⟨eG,r,pl,hz⟩:=I.tuple d;show SeqAt.notIn_tupleAt `bM pl (λw e=>ux g f r fs w<|by simpa using e) #[.bl _,H,I,rfl,?_];rw[show eG.toArray.any `bM=eG.any `bM by simp,uq r fs];show q
def bV.or{r d:ay->Hp->VK->Prop}(h:bV X f r)(h':bV X f d):bV X f (λxs H Q=>r xs H Q\/d xs H Q):=by
 intro aa s j H xs us Q I rs q;rcases q with q |q
 .show h aa s j H xs us Q I rs q
 .show h' aa s j H xs us Q I rs q
def yK:bV X (.type "list") (λxs H Q=>∃p ys,xs=[.ref p]/\(bw X.K H p ys\/cR X.K H p ys)/\∀l,H l=Æ->Q `cy (aU H l<|.af ys)):=by
 intro aa s j H xs us Q I r h;∎;let#[p,ys,rfl,x,q]:=h;let#[u,rfl,C]:=lp r;∎;cases C;have m:∀(d:aT),aH ys d->↑ys<=Ò->∀(f:aW)(g:Nat),(∀b B,s.heap.get? b=À B->f.get? b=À B)->
   f.get? ⇑s=À { cls:=.type "list",dict:=Æ,data:=.seq d.toArray g,slots:=([].toArray) }->EP X aa j Q `ce { s with heap:=f }:=λd i y f g kp e=>
  #[.ref ⇑s,_,I.laid (t':=s.toks) kp (Î _) (show bc X.prog X.w _ f _ (.af ys) from #[y,d,g,i,e]),rfl,q _<|I.aS.fresh<|Î _]
 rcases x with x |x
 .obtain⟨d,i,pl,y⟩:=I.list x;have v:=↑i;let#[o,A,z,n,hd]:=pl.isList;show call_list_seq p `ao A z hd (λf g kp e=>m d i y f g kp e) (by simp only[á]<;>omega)
 .obtain⟨d,i,pl,y⟩:=I.tuple x;have v:=↑i;let#[o,A,z,n,hd]:=pl;show call_list_seq p (.inr rfl) A z hd (λf g kp e=>m d i y f g kp e) (by simp only[á]<;>omega)
abbrev C0(K:aq)(T:String)(x:V)(H:Hp):Prop:=match x with
 |.str _=>T = "str"
 |.int _=>T = "int"
 |.ref p=>(T = "list" /\ ∃e,bw K H p e) \/ (T = "tuple" /\ ∃o,K.lookup p=À o /\ o.cls=.type "tuple" /\ o.dict=Æ) \/
   (T="dict"/\((∃d,H p=À `cc)\/∃d,H p=À (.dT d)))\/(T="set"/\∃S n,H p=À (.set S n))
 |_=>False
def Zo(I:ax X aa j H s)(r:aE x v)(ty:C0 X.K T x H):
  s.TypeIs v T/\∀a,v=.ref a->∃ob,s.heap.get? a=À ob/\ob.dict=Æ:=by
 cases x with
 |str z=>
  let#[t,rfl]:=r;cases (show T="str" from ty);show#[typeIs_str s z t,λ_ e=>nomatch e]
 |int i=>
  let#[t,rfl]:=r;cases (show T="int" from ty);show#[typeIs_int s i t,λ_ e=>nomatch e]
 |ref p=>
  cases r;rcases ty with⟨rfl,m,l⟩ |⟨rfl,o,d,h,hd⟩ |⟨rfl,d⟩ |⟨rfl,S,n,d⟩
  .obtain⟨eG,_,pl,_⟩:=I.list l;show#[pl.isList.typeIs,λa e=>?_];cases e;let#[o,n,e,c,hd,_]:=pl;show#[o,e,hd]
  .show#[#[o,I.dh p o d,h],λa e=>?_];cases e;show#[o,I.dh _ o d,hd]
  .have z:∃o,s.heap.get? p=À o/\o.ExactDict:=by
    rcases d with⟨g,d⟩ |⟨g,d⟩
    .obtain⟨_,_,_,_,o,_,_,e,ex,_⟩:=I.aS p _ d;show#[o,e,ex]
    .obtain⟨_,_,_,_,o,_,_,e,ex,_⟩:=I.aS p _ d;show#[o,e,ex]
   let#[o,e,ex]:=z;show#[#[o,e,ex.1],λa f=>?_];cases f;show#[o,e,ex.2.1]
  .obtain⟨o,_,_,_,e,ex,_⟩:=I.aS p _ d;show#[#[o,e,ex.1],λa f=>?_];cases f;show#[o,e,ex.2.1]
 |_=>show ò ty
abbrev CY(K:aq)(T:String)(r:V->ay->Hp->VK->Prop)(f:TE)(t:TA):TE:=λj H Q=>f j H λx d=>C0 K T x d/\t j d λg e=>r x g e Q
variable{o e:ě}{es:b5}{to:TE}{t:TA}{name:Str}{apos bo:Pos}{T id:String}{r:V->ay->Hp->VK->Prop}
def Ks(G:PlainAttrs T)(slot:Slot T name id)(l:typeOf `aQ=pure (.type "method_descriptor"))(hm:MR X id r)(E:PE X o to)(D:PA X (e::es) t)(f:do õ o name X.env `ap=eval o X.env)(i:((Ϗ bo<|ē (e::es) X.env).all (λx=>!x.1)&&(aj4 bo<|aa9 [] X.env).all (λx=>x.1.isSome)
   && decide ((e::es).length+([]:List ag0).length+(if ([]:List ag0).isEmpty then 0 else 1)<30))=Â:=by rfl)(g:do (apos.endLine == bo.line)=Â)(hs:do fA e es X.env)(d:do gq bo es X.env):
  PE X (.Call (.Attribute o name apos) (e::es) [] bo) (CY X.K T r to t):=by
 intro aa s j H Q I h;show wpAny_Call_method_late f i g rfl<|bu (E aa s j H _ I h) λv M m=>?_;∎;let#[x,y,q,w,ty,J]:=m;let#[B,C]:=Zo q w ty;∎;show#[T,id,G,slot,l,B,C,?_];have u:=D bo aa M j y _ q J;rw[hs] at u ⊢;show ķ (by change (Ç || (Ϗ bo (ē es X.env)).any (·.1))=Ç;rw[d]<;>rfl)<|ac3 ?_;show bu u λus N n=>by let#[vs,z,A,r2,L]:=n;show hm aa N j z x vs v us Q A w r2 L
end
abbrev C9(X:Cx)(id:String)(r:V->ay->Hp->VK->Prop):Prop:=
 ∀(aa:aZ)(s:ao)(j:St)(H:Hp)(x:V)(a:ay)(v:ar)(us:aT)(Q:VK),ax X aa j H s->aE x v->aH a us->r x a H Q->
  Ú `ab X.A (call `aQ (v::us)) `av X.xe s
def aH.one:∀{x:V}{us:aT},aH [x] us->∃u,us=[u]/\aE x u:=by
 intro x us h;cases h with
 |cons r t=>cases t;show#[_,rfl,r]
def aH.rep(h:aH xs us):∀k:Nat,aH (Ë k xs).flatten (Ë k us).flatten
 |0=>.nil
 |k + 1=>by
  rw[ae0,ae0,au5,au5];show aH.append h<|aH.rep h k
section
variable{X:Cx}{aa:aZ}{σ:St}{H:Hp}{s:ao}{l b:ai}{xs ys zs:ay}
def ax.BV{a its':aT}{n:Nat}{f:cS->cS}{t':Nat}(I:ax X aa σ H s)(d:H l=À `bV)(e:s.heap.get? l=À { cls:=.type "list",data:=.seq a.toArray n })(h:f a.toArray=its'.toArray)(j:aH ys its')(hz:↑ys<=Ò):
  ax X aa σ (aU H l<|.af ys) { s with heap:=s.heap.update l<|Ś f,toks:=t' }:=by
 have q:=PySem.IsL.update e f;rw[h] at q;show I.write (x:=l) (e:=l) (by rw[d];show trivial) `ao (λm u g i=>(ü s.heap (Ś f)<|đ g).trans i) #[_,q] ?_;show#[hz,its',_,j,q]
def ax.vd(I:ax X aa σ H s)(a:aH ys eG)(hz:↑ys<=Ò):
  ax X aa σ (aU H ⇑s (.af ys)) { s with heap:=s.heap.push { cls:=.type "list",data:=.seq eG.toArray },toks:=t' }:=
 I.laid (λ_ _ q=>Ã _ q) (Î _) #[hz,eG,0,a,Ô _ rfl]
def ax.fresh(I:ax X aa σ H s):H ⇑s=Æ:=I.aS.fresh<|Î _
def ax.BW(I:ax X aa σ H s)(d:H l=À `bV):↑xs<=Ò/\∃(a:aT)(n:Nat),aH xs a/\↑xs=↑a/\s.heap.get? l=À { cls:=.type "list",data:=.seq a.toArray n }:=by
 let#[z,a,n,r,e]:=I.aS l _ d;show#[z,a,n,r,r.length,e]
end
section
variable{X:Cx}
abbrev D4:V->ay->Hp->VK->Prop:=λx vs H Q=>∃l a y,x=.ref l/\vs=[y]/\H l=À (.af a)/\↑a<Ò/\Q .aN (aU H l<|.af<|a++[y])
def Rz:C9 X "list.append" D4:=by
 intro aa s j H x vs v us Q I g f h;let#[l,o,y,rfl,rfl,b,m,q]:=h;cases g;∎;let#[u,rfl,d]:=f.one;let#[z,a,n,r,i,e]:=I.BW b;∎;show aq7 F.slot_list_append #[_,e,rfl] F.entry_list_append (F.args_list_append_2 _ _) (PySem.list_append l a.toArray n u (by rw[á];omega)) #[e,?_];show#[.aN,_,I.BV (its':=a++[u]) b e ∅ (r.append<|.cons d .nil) ?_,rfl,q];rw[Ù,ř];omega
end
end L2
namespace Att
open PySem PySem.W PySem.Calls PyProof.Rows
def Og:∀(ns:aG)(vs:aT),WellAll P h vs (ns.map WData.int)->ao4 vs ns:=by
 intro ns
 induction ns with
 |nil=>
  intro vs w;rw[af5] at w;cases w;show .nil
 |cons n ns d=>
  intro vs w;rw[ñ] at w;cases w with
  |cons a b=>
   cases a;show .cons _ _<|d _ b
def RA{l:aq3}{n:Nat}(hn:l.most=À n){P:Params}{h:aW}{args:List WData}{e:aT}(b:l.row.toRowW.claim.pre args=Â)(o:WellAll P h e args):
  ∃a vs ns,e=[Ý a]/\args=[WData.list<|ns.map WData.int]/\h.get? a=À { cls:=.type "list",data:=.seq vs.toArray }/\ao4 vs ns/\↑ns<=n:=by
 have m:WShape.hasAll [] args [.list .int]=Â:=(pre_splitW b).1;have s:l.pre.holds [] { args:=args }=Â:=(pre_splitW b).2;let#[d,r,rfl,u,v]:=hasAllW_cons m;obtain rfl:=hasAllW_nil v;∎;let#[B,rfl,w]:=hasW_list u;let#[ns,rfl]:=items_int w;∎;have g:↑ns<=n:=by
  unfold OpenLaw.pre at s;have i:(WTm.not<|.lt (.lit<|.int (n:Int))<|.len<|.arg 0).holds [] { args:=[.list<|ns.map .int] }=Â:=by
   have i:=(holds_andW s).1;rw[hn] at i;show i
  have j:=condW_of i<|w_not<|w_lt w_lit<|w_len_list<|w_arg rfl;rw[Å] at j;show Nat.le_of_not_lt λq=>?_
  have y:(n:Int)<((↑ns:Nat):Int):=⋯
  first
   |(rw[av6 y] at j;show av5 j ∎)
   |(simp at j;omega)
 cases o with
 |cons z A=>
  cases A;cases z with
  |list x f=>show#[_,_,ns,rfl,rfl,x,Og ns _ f,g]
def RB(l:aq3)(args:List WData):l.row.toRowW.claim.post args `eC args=Â:=
 postW_of (r:=l.row.toRowW) (X:=(Â == Â))
  (show WShape.has [] `eC .bool=Â by first |rfl |decide |simp[WShape.has,WShape.arms,WShape.armsAll])
  (show (WTm.eq .res<|.lit<|.bool Â).value [] { args:=args,res:=À<|.bool Â,after:=args }=À (.bool<|Â == Â) from w_eq_bool (w_res rfl) w_lit) rfl
def iy{l:aq3}{n:Nat}{q:ê}{e:ah}{A:(br)->aW->Prop}{B:Ă->aW->Prop}{d:DefRec}(hn:l.most=À n)(v:d.params.defaults=[])(call:∀(w:Ă)(s₀ b:ao)(mg z:br)(h:ai)(o:Obj)(pm s doc:ar)(a:ai)(vs:aT)(ns:aG),
   Ground q e [] A w s₀ mg z b.heap->B w b.heap->
   b.heap.get? h=À o->o.data=.func (docDef d.name d.params d.body d.scope pm s doc)->b.heap.CodeRec s d.name->mg d.name=À (.ref h)->
   b.heap.get? a=À { cls:=.type "list",data:=.seq vs.toArray }->ao4 vs ns->↑ns<=n->b.gens=([].toArray)->
   Ϧ (Ü l.prog w) aj5 (.call (.ref h) #[[.ref a],[]]) (λr s'=>r=.ok (.ret<|.bool Â)/\OldK b.heap s'.heap/\s'.os=b.os/\aa6 s'.gens) b):
  WalkO q e A B l.row.toRowW d [] (λf vs=>PySem.call f vs):=by
 intro w s₀ b mg z G Y h o pm s doc H kV O hd u C x M args E as m D U y N;obtain rfl:H=.none:=Dflts.none C v;obtain rfl:kV=.none:=Dflts.noKw C;let#[a,vs,ns,rfl,rfl,j,g,i]:=RA hn m y;show enter_call<|Ξ (call w s₀ b mg z h o pm s doc a vs ns G Y O (fd_plain hd) u x j g i M) λr s' Q=>?_;let#[rfl,I,J,L]:=Q;show#[.inl #[.bool Â,.bool Â,[],rfl,λ_=>rfl,.bool Â,RB l _,λ_=>#[List.Pairwise.nil,λ_ hm=>(nomatch hm)]],I,J,L]
end Att
namespace L2
open PySem PySem.Spec PyProof.Rows
def GP:∀{vs:aT}{ns:aG},ao4 vs ns->aH `aL vs
 |_,_,.nil=>.nil
 |_,_,.cons n t h=>.cons #[t,rfl]<|GP h
abbrev zF(H:Hp):Prop:=∀b,H b=Æ\/∃o a,H b=À (.aC o<|.af a)
def Ur{P:ê}{w:Ă}{K:aq}{mg U:br}{CX:gB}{k:Nat}{M a:ai}{fd:į}{x:Str}{sp:Sp}{f:ao}{vs:aT}{ns:aG}(KX:K.In f.heap)(D:f.heap.Ns Š mg)(i:f.heap.Ns builtinsNs U)(O:∀x:Str,x≠"__name__"->U x=ŏ x)(C:f.heap.NoLimit)(hg:f.gens=([].toArray))(J:f.heap.get? a=À { cls:=.type "list",data:=.seq vs.toArray })(hi:ao4 vs ns)(hl:↑ns<=Ò)(hr:bD k aj5)(F:∀base:Heap,K.In base->base.Ns Š mg->aK P w K mg base CX k M fd [x] sp)(l:∀(s:ao)(u:ar),BindsTo s fd #[[u],[]] [(x,u)])(Q:∀H:Hp,zF H->bw K H a `aL->sp [.ref a] H (λv _=>v=.bl Â) λ_ _ _=>False)(N:∀H e s',CX [] H f (λ_ _ _=>False) e s'->False):
  Ϧ `bj aj5 (.call (.ref M) #[[.ref a],[]]) (λr s'=>r=.ok (.ret<|.bool Â)/\OldK f.heap s'.heap/\s'.os=f.os/\aa6 s'.gens) f:=by
 have rv:=GP hi;have G:=↑hi;have core:∀H:Hp,zF H->bw K H a `aL->dG P w H f.heap->(∀b,H b≠Æ->b=a)->(H a≠Æ->K.lookup a=Æ)->
   Ϧ `bj aj5 (.call (.ref M) #[[.ref a],[]]) (λr s'=>r=.ok (.ret<|.bool Â)/\OldK f.heap s'.heap/\s'.os=f.os/\aa6 s'.gens) f:=by
  intro H hO hS aS hA hK;have g:∀{b:ai}{o:Obj},f.heap.get? b=À o->H b=Æ->(nA f.heap H).get? b=À o:=λe n=>Tu e n
  have Y:∀{b:ai}{o:Obj}{A:Array DictEntry}{y:Nat},f.heap.get? b=À o->o.data=.dict A y->H b=Æ:=λ{b o A y} e d=>by
   cases q:H b with
   |none=>rfl
   |some u=>
    have L:b=a:=hA b (by rw[q];simp);subst L;rw[J] at e;cases e;have d':Data.seq vs.toArray _=Data.dict A y:=d;cases d'
  have j:∀{b:ai}{m:br},f.heap.Ns b m->(nA f.heap H).Ns b m:=λ{b m} ⟨o,A,y,e,d,r⟩=>#[o,A,y,g e<|Y e d,d,r]
  have B:K.In `de:=λb o e=>g (KX b o e) (by
   cases q:H b with
   |none=>rfl
   |some u=>
    have L:b=a:=hA b (by rw[q];simp);subst L;rw[hK (by rw[q];simp)] at e;cases e)
  have hM:Mod K mg `de:=#[B,j D,#[U,j i,O],let ⟨mc,h1,h2⟩:=C;#[mc,j h1,h2]]
  have e0:i7 P w K mg `de aj5 [] f H:=#[rfl,hM,λb o e=>WR e,Nat.le_of_eq<|Ro _ _,trivial,λb i=>av5 (show b∈([]:c6) from i) ∅,aS,.of_eq hg]
  show Ξ ((F _ B<|j D).run aj5 [] f H #[[.ref a],[]] [.ref a] [.ref a] _ _ hr e0 (l f<|.ref a) (.cons rfl .nil) (Q H hO hS)) λr s' h=>?_
  cases r with
  |error e=>show (N H e s' h).elim
  |ok fl=>
   cases fl with
   |next=>show ò h
   |brk=>show ò h
   |cont=>show ò h
   |ret u=>
    let#[v,H',os,bare,un,E,r',q]:=h;have q':v=.bl Â:=q;subst q';obtain rfl:u=aa2 Â:=r';show#[rfl,OldK.of_keep λb o e=>?_,os,bare];cases q:H b with
    |none=>show un.keep b o e q (by intro z;show av5 (show b∈([]:c6) from z)<|by simp) ∅
    |some u=>
     rcases hO b with z |⟨ob,xs,z⟩
     .rw[q] at z;cases z
     .have z2:=un.bz b ob _ z;let#[e1,_]:=aS b _ z;let#[e2,_]:=E b _ z2;rw[e] at e1;cases e1;show e2
 cases hk:K.lookup a with
 |some o=>
  have e:=KX a o hk;rw[J] at e;cases e;show core (λ_=>Æ) (λ_=>.inl rfl) (.inr #[_,vs.toArray,_,hk,rfl,rfl,rfl,by rw[á,G];show hl,by simpa using rv]) (λb u z=>by have I:(Æ:Option HO)=À u:=z;cases I) (λb z=>av5 rfl z) λz=>av5 rfl z
 |none=>
  show core (λb=>if b=a then À (.aC { cls:=.type "list",data:=.seq vs.toArray } (.af<|ns.map V.int)) else Æ) (λb=>?_) (.inl<|.inr #[{ cls:=.type "list",data:=.seq vs.toArray },av4 rfl]) (λb u z=>?_) (λb z=>?_) λ_=>hk
  .by_cases i:b=a
   .show .inr #[_,_,av4 i]
   .show .inl (av3 i)
  .by_cases i:b=a
   .have I:=(av4 i).symm.trans z;cases I;subst i;show#[J,by rw[Å];show hl,vs,_,rv,J]
   .have I:=(av3 i).symm.trans z;cases I
  .by_cases i:b=a
   .show i
   .show av5 (av3 i) z
def nY{l:aq3}{n k:Nat}{q:ê}{m:ah}{M:(br)->aW->Prop}{L:Ă->aW->Prop}{d:DefRec}{K:Params->aq}{CX:Ă->gB}{sp:Ă->Sp}{x:Str}(hn:l.most=À n)(E:n<=Ò)(C:d.params.defaults=[])(hr:bD k aj5)(U:∀(w:Ă)(h:aW),L w h->(K w.params).In h)(F:∀(w:Ă)(mg:br)(z:ai)(h:aW),(K w.params).In h->h.Ns Š mg->mg d.name=À (.ref z)->
   ∃A:į,(∀(s:ao)(u:ar),BindsTo s A #[[u],[]] [(x,u)])/\
    ∀base:Heap,(K w.params).In base->base.Ns Š mg->aK l.prog w `dw mg base (CX w) k z A [x] (sp w))(I:∀(w:Ă)(H:Hp)(a:ai)(ns:aG),ns.length<=n->zF H->bw `dw H a `aL->sp w [.ref a] H (λv _=>v=.bl Â) λ_ _ _=>False)(B:∀(w:Ă)(H:Hp)(s:ao)(e:ar)(s':ao),CX w [] H s (λ_ _ _=>False) e s'->False):
  W.WalkO q m M L l.row.toRowW d [] (λf vs=>PySem.call f vs):=by
 show Att.iy hn C λw s₀ y mg mb z o pm cd doc a vs ns G Y ho hd α D r j i hg=>?_
 have J:=U w _ Y;let#[A,hb,N]:=F w mg z _ J G.T.g D;show Ur J G.T.g G.T.b G.T.builtins G.T.nolimit hg r j (Ï i E) hr N hb (λH O Q=>I w H a ns i O Q) λH e s'=>B w H y e s'
abbrev inClass(s:Ā)(j:Nat):Ā:=match s with
 |.ClassDef _ _ _ a _ _ _ _ _ _ _=>a.getD j<|.Pass #[0,0,0,0]
 |_=>.Pass #[0,0,0,0]
abbrev rF(s:Ā):Arguments:=match s with
 |.FunctionDef _ a _ _ _ _ _ _ _ _=>a
 |_=>{ posonlyargs:=[],args:=[],vararg:=Æ,kwonlyargs:=[],kw_defaults:=[],kwarg:=Æ,defaults:=[] }
abbrev kF(s:Ā):List Ā:=match s with
 |.FunctionDef _ _ b _ _ _ _ _ _ _=>b
 |_=>[]
abbrev bx(s:Ā):Ω:=match s with
 |.FunctionDef _ _ _ _ _ _ sc _ _ _=>sc
 |_=>{ kind:=.function,names:=[],isGenerator:=Ç,isCoroutine:=Ç }
nonrec abbrev bM:gB:=λ_ _ _ _ _ _=>False
nonrec abbrev E0:XK:=λ_ _ _=>False
def uU:qa bM X E0:=λ_ _ _ _ _ _ _ h=>h.elim
structure iO(K:aq)(x qual:Str)(st:Ā)(f:ai)(fd:į):Prop where
 ex:∃(oc:ar)(od:bW)(kV doc pm:ar)(an:bW)(bS ct:ar)(osl:Array (du)),
  fd=aj2 x qual (rF st) `bN `bb .none kV doc pm an bS ct/\K.lookup f=À #[oc,od,.func fd,osl]/\W.codeIn K bS qual=Â
 kp:ώ K `ax=Â
section
variable{P:ê}{w:Ă}{K:aq}{mg:br}{base:aW}
def iO.ok{x a:Str}{st:Ā}{f:ai}{g:į}{N ps:ah}{k:Nat}{sp:Sp}(F:iO K x a st f g)(S:bX N ps `bb)(len:∀vs H Q E,sp vs H Q E->↑vs=↑ps)(b:∀(bS:ar)(A:ą)(outer:cK)(s:ao)(H:Hp)(vs:ay)(Q:VK)(E:XK),bD k (A.deeper<|Ĝ a (bx st) ⇑s f bS)->sp vs H Q E->
   ∃t,fR (kI bM P w K mg base N a `bb f bS A outer s H E).sL `bN t/\t { nx:=λ_ i=>Q .aN i,rt:=Q } `bh H):aK P w K mg base bM (k+1) f g ps sp:=by
 let#[oc,od,kV,doc,pm,an,bS,ct,osl,rfl,l,d]:=F.ex;show Kq l d S len λA outer s H vs Q E j e=>?_
 let#[t,h,q]:=b bS A outer s H vs Q E j e;show#[t,h.sL,q]
def iO.binds{x a:Str}{st:Ā}{f:ai}{b:į}{ps:ah}(F:iO K x a st f b)(h:∀(kV doc pm:ar)(an:bW)(bS ct:ar)(us:aT),us.length=↑ps->bindArgs (aj2 x a (rF st) `bN `bb .none kV doc pm an bS ct) #[us,[]]=pure `bD):Binds K b ps []:=by
 let#[oc,od,kV,doc,pm,an,bS,ct,osl,rfl,e,d]:=F.ex;show .all<|h kV doc pm an bS ct
def Zp{x a:Str}{st:Ā}{f:ai}{oc:ar}{od an:bW}{osl:Array (du)}{kV doc pm bS ct:ar}(l:K.lookup f=À #[oc,od,.func<|aj2 x a (rF st) (kF st) (bx st) .none kV doc pm an bS ct,osl])(c:W.codeIn K bS a=Â)(k:ώ K `ax=Â):iO K x a st f (aj2 x a (rF st) `bN `bb .none kV doc pm an bS ct):=#[#[oc,od,kV,doc,pm,an,bS,ct,osl,rfl,l,c],k]
end
def Kt(a:bD k A):A.units+1<ģ:=ġ (Nat.add_le_add_left (by decide:1<=64) _) a.units
section
variable{X:Cx}
def pv(i:Nat)(b:do X.N[i]?=À x)(d:pW X.env.scope x:=by first |show ϲ rfl |show ű (ϲ rfl) |show ű<|ű rfl)(hd: ~~~(dY x))(a: ~~~((x == ("__classdict__":Str))=Ç)):PE X `aq (hJ i):=xE b d hd a
end
abbrev aD(H H':Hp):Prop:=∀b o,H b=À o->H' b=À o
def aD.refl(H:Hp):aD H H:=λ_ _ h=>h
def aD.trans(a:aD H H1)(b:aD H1 H2):aD H H2:=λc o h=>b c o<|a c o h
def aD.free{H a:Hp}(e:aD H a)(h:a l=Æ):H l=Æ:=by
 cases q:H l with
 |none=>rfl
 |some o=>
  rw[e l o q] at h;cases h
def aD.seq{K:aq}{H b:Hp}{a:ai}{xs:ay}(e:aD H b)(h:bw K H a xs):bw K b a xs:=by
 rcases h with (h |⟨o,h⟩) |h
 .show .inl (.inl (e _ _ h))
 .show .inl (.inr ⟨o,e _ _ h⟩)
 .show .inr h
section
variable{X:Cx}
def R3:bV X (.builtin "len") (λxs H Q=>∃a kvs,xs=[V.ref a]/\H a=À `as/\Q (.int ↑kvs) H):=by
 intro aa s j H xs us Q I r h;∎;let#[a,kvs,rfl,d,q]:=h;let#[u,rfl,e]:=lp r;∎;cases e;show Ln I (.inl d) λt f b=>#[.int ↑kvs,H,b,#[t,rfl],q]
end
end L2
namespace L2
open PySem PySem.Spec PyProof.Rows
abbrev jz(i j:Int):Prop:=∃n:Nat,n<=60000000/\i.natAbs<2 ^ n/\j.natAbs<2 ^ n
def HN(h:x.natAbs<2 ^ n):ak3 x<=n:=by
 unfold ak3;by_cases e:(x == 0)=Â
 .rw[av4 e];show Ĺ _
 .rw[av3 e];have a:x.natAbs≠0:=by
   intro z;have:x=0:=⋯
   rw[this] at e;show e rfl
  show (as4 a).mpr h
def jz.ok(h:jz i j):IntMulOk i j:=by
 let#[n,hn,a,b]:=h;have f:=HN a;have g:=HN b;intro z;simp only[å,Builtin.Int.intTooBig,decide_eq_true_eq] at z;have e:(bitsLine:Nat)=134217728:=∎
 have d:=z.2;rw[e] at d;omega
abbrev nh(i j:Int):Prop:=mW i j\/jz i j
abbrev dM(_ j:Int):Prop:=j≠0/\j.natAbs<2 ^ 8000
def dM.ok(h:dM i j):Builtin.divisionGoesByPylong i j=Ç:=by
 show PyProof.noPylong_of_log2 ?_;have a:j.natAbs≠0:=by have:=h.1;omega
 have:=(as4 a).mpr h.2;omega
section
variable{X:Cx}
def Nf:cG X `cR (rI nh λi j=>.int<|i*j):=yg λ_ _ _ _ _ _ _ a q=>mul_int q<|a.elim mW.ok jz.ok
def Us:cG X (ŧ .FloorDiv) (rI dM λi j=>.int<|i.fdiv j):=yg λ_ _ _ _ _ _ _ a q=>floordiv_int a.1 q<|.inl a.ok
end
section
variable{X:Cx}{aa:aZ}{σ:St}{H:Hp}{s:ao}{a:ai}{kvs:b9}
def ax.freeze(I:ax X aa σ H s)(e:H a=À `as):∃o,s.heap.get? a=À o/\ax X aa σ (aU H a<|.aC o<|.dK kvs) s:=by
 have ok:bc X.prog X.w H s.heap a `as:=I.aS a _ e;let#[z,y,vs,r,o,f,d,b,c]:=id ok;show#[o,b,?_];show I.write (h':=s.heap) (t':=s.toks) (x:=a) (e:=a) (by rw[e];show ô) `ao (λ_ _ _ q=>q) #[o,b] #[b,z,y,vs,r,o,f,d,b,c]
def ax.e8(I:ax X aa σ H s)(e:H a=À (.aC o<|.dK kvs))(hn:∀o u,X.H₀ a≠À `aJ):ax X aa σ (aU H a<|.dK kvs) s:=by
 have ne:∀b u,H b=À u->(∀o v,u≠.aC o v)->b≠a:=λb u h d z=>by
  subst z;rw[e] at h;show d _ _ (Ø h).symm
 let#[A,ok]:=(show bc X.prog X.w H s.heap a (.aC o<|.dK kvs) from I.aS a _ e);show#[I.ok,I.os,I.bare,#[λb f q n i g=>I.base.keep b f q n i g,λb f q n i g=>I.base.slot b f q n i g,λb f q n g=>?_,λb f q g=>I.base.there b f q g,λb j q=>?_,λb f u q=>?_,λb r q=>?_],I.loc,I.cell,?_,λx c q=>?_,λp l=>?_,λb u q=>?_,I.len]
 .have z:=I.base.free b f q n g;rw[ba (by intro y;subst y;rw[e] at z;cases z)];show z
 .have z:=I.base.eC b j q;rw[ba<|ne b _ z<|λ_ _ y=>by cases y];show z
 .have z:=I.base.bz b f u q;rw[ba (by intro y;subst y;show hn _ _ q)];show z
 .obtain⟨m,z⟩:=I.base.e7 b r q;show#[m,by rw[ba<|ne b _ z<|λ_ _ y=>by cases y];show z]
 .rw[ba (by intro y;have z:=I.free;rw[y,e] at z;cases z)];show I.free
 .rw[ba (by intro y;have z:=I.cg x c q;rw[y,e] at z;cases z)];show I.cg x c q
 .obtain⟨p1,p2,p3,p4,p5⟩:=I.pin p l;show#[p1,?_,p3,p4,p5];rw[ba (by intro y;rw[y,e] at p2;cases p2)];show p2
 .by_cases i:b=a
  .subst i;rw[dk] at q;cases q;show ok
  .rw[ba i] at q;show (I.aS b u q).e5 (λ_ _ _ z=>z) (λc z=>by rw[ba<|ne c _ z<|λ_ _ y=>by cases y];show z) λc j z=>by rw[ba<|ne c _ z<|λ_ _ y=>by cases y];show z
end
abbrev rf(a:ai)(ob:Obj)(kvs:b9):It:=
 #[λi H=>i<↑kvs/\H a=À (.aC ob<|.dK kvs),λi H x b=>∃p k v,kvs[i]?=À (k,v)/\H p=Æ/\x=.ref p/\b=aU H p (.aF [kV k,v]),λi H=>↑kvs<=i/\H a=À (.aC ob<|.dK kvs)]
def uy(h:(eM P w).is k u=Â):aE (kV k) u:=by
 rcases mv (k:=k) (v:=u) h with⟨i,t,rfl,rfl⟩ |⟨x,t,rfl,rfl⟩
 .show⟨t,rfl⟩
 .show⟨t,rfl⟩
def KV.at(r:KV kvs vs):∀{i:Nat}{k:aI}{v:V},kvs[i]?=À (k,v)->∃u,vs[i]?=À (k,u)/\aE v u:=by
 unfold KV at r
 induction r with
 |nil=>intro i k v h;simp at h
 |@cons p q d f h t b=>
  intro i k v e;cases i with
  |zero=>
   simp at e;subst e;have a:k=q.1:=h.1;show#[q.2,by rw[a];rfl,h.2]
  |succ i=>simpa using b (i:=i) (k:=k) (v:=v) (by simpa using e)
def Q7{P:ê}{w:Ă}{K:aq}{elts:b5}{x1:Nat}{pos:Pos}(a it:ai)(ob:Obj)(kvs:b9)(ζ:a≠it):
  mB P w K `aO (rf a ob kvs) [it] it (λi h=>∃g ep ok ov,ob.data=.dict g ep/\IsItemIter h it a i ↑kvs ep ok ov) where
 mem:=by simp
 obj:=λi h st b m=>by
  have e:b=it:=by simpa using m
  subst e;let#[g,ep,ok,ov,hd,e]:=st;show#[_,e,λv z=>by cases z]
 keep:=λi h h' st k=>by
  let#[g,ep,ok,ov,hd,e]:=st;show#[g,ep,ok,ov,hd,k it ∅ _ e]
 item:=by
  intro X hP hw hK hc i aa s j H E I hf st hg;subst hP hw hK;∎;let#[g,ep,ok,ov,hd,d]:=st;let#[hi,hH]:=hg;let#[C,z,y,vs,r,L,β,α,f,O,n,U,Y,c5]:=(show bc X.prog X.w H s.heap a (.aC ob<|.dK kvs) from I.aS a _ hH);∎;have eo:L=ob:=by rw[C] at f;show (Ø f).symm
  subst eo;rw[hd] at n;cases n;have hm:s.heap.DictAt `aF a vs ep:=#[L,g,C,O,hd,U,Y,c5];obtain⟨⟨k,v⟩,B⟩:∃q,kvs[i]?=À q:=#[kvs[i],by simp[hi]];let#[u,hu,ru]:=r.at B;have N:↑kvs=↑vs:=KV.length r;rw[N] at d;let#[M,f1,f2,f3,f4,f5]:=hf it ∅;show wpAny_pyNext_items_item d hm hu λl h' x D hT η hk=>?_
  show#[.ref ⇑s,rfl,wpAny_letOwnedTupleGo_items D λh2 he hs=>?_];have ε:it<⇑s:=Ì d;have I1:=I.laid (a:=⇑s) (o:=.aF [kV k,v]) (h':=s.heap.push { cls:=.type "tuple",data:=.seq ([l,u].toArray) }) (t':=s.toks) (λb q G=>Ã _ G) (Î _)
   #[by change 2<=Ò;decide,[l,u],.cons (uy x)<|.cons ru .nil,#[_,Ô _ rfl,rfl,_,rfl]]
  have δ:H ⇑s=Æ:=I.aS.fresh<|Î _;have J:it≠⇑s:=é ε;show#[.ref ⇑s,aU H ⇑s (.aF [kV k,v]),?_,rfl,#[_,k,v,B,δ,rfl,rfl],#[g,ep,l,u,hd,by rw[N];show he],λb m=>?_]
  .have I2:ax X aa j (aU H ⇑s (.aF [kV k,v])) { s with heap:=h2,toks:=s.toks }:=ax.turned (s:={ s with heap:=s.heap.push { cls:=.type "tuple",data:=.seq ([l,u].toArray) },toks:=s.toks }) I1 (h':=h2) (t':=s.toks) (it:=it) (λb q m G=>?_) (by rw[ba J];show M) f1 f3 f4 f5
   .show I2
   .show hs.extBut b q m ?_;rcases ad5 G with⟨γ,eq⟩ |G
    .subst γ;subst eq;show hT
    .show hk b q m G
  .have e:b=it:=by simpa using m
   subst e;rw[ba J];show M
 done:=by
  intro X hP hw hK hc i aa s j H E I hf st hg;subst hP hw hK;∎;let#[g,ep,ok,ov,hd,d]:=st;let#[hi,hH]:=hg;let#[C,z,y,vs,r,L,β,α,f,O,n,U,Y,c5]:=(show bc X.prog X.w H s.heap a (.aC ob<|.dK kvs) from I.aS a _ hH);∎;have eo:L=ob:=by rw[C] at f;show (Ø f).symm
  subst eo;rw[hd] at n;cases n;have hm:s.heap.DictAt `aF a vs ep:=#[L,g,C,O,hd,U,Y,c5];have N:↑kvs=↑vs:=KV.length r;rw[N] at d;let#[M,f1,f2,f3,f4,f5]:=hf it ∅;show wpAny_pyNext_items_end `bO d hm (by simp;omega) λh' eb=>#[rfl,I.turned (t':=s.toks) (λb o m e=>eb b o m e) M f1 f3 f4 f5]
 self:=λA i s Q E st h=>by
  let#[g,ep,ok,ov,hd,d]:=st;show W.kcp_self d h
section
variable{X:Cx}
abbrev yL(X:Cx)(f:TE):TI:=λj H R=>f j H λx d=>∃a b,x=.ref a/\d a=À (.dK b)/\∀e,(∀o u,X.H₀ a≠À `aJ)->R (rf a e b) (aU d a<|.aC e<|.dK b)
def Ax(ho:PE X o td)(l:õ o "items" X.env `ap=eval o X.env)(m:(apos.endLine == bo.line)=Â):
  PI X `aO (.Call (.Attribute o "items" apos) [] [] bo) (yL X td):=by
 intro aa s j H R I h;show ϙ l m<|bu (ho aa s j H _ I h) λv i L=>?_;let#[x,M,A,r1,a,g,ex,B,q]:=L;subst ex;obtain rfl:v=Ý a:=r1;let#[O,t2,hd]:=rX A<|.inl #[g,.inl B];show#["dict","dict.items",PySem.F.plainAttrs_dict,PySem.F.slot_dict_items,PySem.F.type_dict_items,O,t2,ķ rfl<|PySem.evalArgs_none ?_];let#[z,y,vs,r,dd]:=xY A.aS B;show Ő PySem.F.slot_dict_items O PySem.F.entry_dict_items (PySem.F.args_dict_items_1 _) (meets_dict_items `aF a hd) #[#[vs,dd],?_];have D:ax X aa j M { i with heap:=i.heap.push { cls:=.type "dict_items",data:=.fields ([.ref a].toArray) } }:=A.kept (t':=i.toks) λb o e=>Ã _ e
 have J:∀o u,X.H₀ a≠À `aJ:=λo u z=>by
  have:=A.base.bz a o u z;rw[B] at this;cases this
 let#[E,G]:=dd.dictAt;have f:=G.push { cls:=.type "dict_items",data:=.fields ([.ref a].toArray) };show wpAny_pyIter_items (v:=⇑i) (d:=a) #[_,Ô _ rfl,rfl,rfl] f ?_;let#[C,n,Q]:=(D.kept (t':=i.toks) (h':=(i.heap.push { cls:=.type "dict_items",data:=.fields ([.ref a].toArray) }).push { cls:=.type "dict_itemiterator",data:=.fields ([.none,.bool Ç,.ref a,.int 0 0,.int ↑vs 0,.int E 0,.none,.none].toArray) }) λb o e=>Ã _ e).freeze B;have N:a<(i.heap.push { cls:=.type "dict_items",data:=.fields ([.ref a].toArray) }).objs.size:=f.lt_size;have hl:↑g=↑vs:=KV.length r;show#[_,[_],_,_,aU M a<|.aC C<|.dK g,rfl,Q,Q7 a (i.heap.push { cls:=.type "dict_items",data:=.fields ([.ref a].toArray) }).objs.size C g<|é N,?_,λb hb=>?_,q C J]
 .obtain⟨o2,es,ho2,c1,c2,_⟩:=f;have U:C=o2:=by
   have Y:=Ã { cls:=.type "dict_itemiterator",data:=.fields ([.none,.bool Ç,.ref a,.int 0 0,.int ↑vs 0,.int E 0,.none,.none].toArray) } ho2;rw[Y] at n;show (Ø n).symm
  subst U;show#[es,E,.none,.none,c2,?_];rw[hl];show Ô _ rfl
 .have e:b=(i.heap.push { cls:=.type "dict_items",data:=.fields ([.ref a].toArray) }).objs.size:=by simpa using hb
  subst e;show D.gx (Î _) ?_;rw[ba<|ŷ N];show D.aS.fresh<|Î _
abbrev nv(X:Cx)(R:Hp->Prop)(H:Hp):Prop:=∃a d b,H a=À (.aC d<|.dK b)/\(∀o u,X.H₀ a≠À `aJ)/\R (aU H a<|.dK b)
abbrev tP(X:Cx)(D:Ends):Ends:={ nx:=λj=>nv X<|D.nx j,rt:=λv=>nv X<|D.rt v,bk:=λj=>nv X<|D.bk j,ct:=λj=>nv X (D.ct j) }
abbrev EN(X:Cx)(a:TE)(g:TG)(tb:TS):TS:=λD j H=>zB (yL X a) g tb `df j H
def W9(G:ac6 `ab X.A X.env X.xe)(B:X.calm=Â)(E:PE X o td)(C:PG X `aO g)(z:fR X body tb)(d:do õ o "items" X.env `ap=eval o X.env)(i:do (apos.endLine == bo.line)=Â)(hs:∀x,Ė (.Call (.Attribute o "items" apos) [] [] bo) X.env x=pure x:=by intro _;rfl):PS X (.For `aO (.Call (.Attribute o "items" apos) [] [] bo) body [] fpos) (EN X td g tb):=by
 intro aa s j H D I h;have base:=Jo (pos:=fpos) G B (Ax (elts:=elts) (x1:=x1) (pos:=pos) E d i) C z hs aa s j H `df I h;show bu base λf L q=>?_
 cases f with
 |next=>let#[l,n,b,a,y,m,e,hn,r]:=q;show#[l,_,b.e8 e hn,r]
 |brk=>let#[l,n,b,a,y,m,e,hn,r]:=q;show#[l,_,b.e8 e hn,r]
 |cont=>let#[l,n,b,a,y,m,e,hn,r]:=q;show#[l,_,b.e8 e hn,r]
 |ret u=>let#[v,l,n,b,J,a,y,m,e,hn,r]:=q;show#[v,l,_,b.e8 e hn,J,r]
end
def R4{a:ai}{ob:Obj}{kvs:b9}{g:TG}{tb:TS}{D:Ends}{j:St}{H:Hp}(Pv:Nat->St->Hp->Prop)(s:Pv 0 j H)(w:∀i j H,i<=↑kvs->Pv i j H->H a=À (.aC ob<|.dK kvs))(hs:∀i k v j H p,kvs[i]?=À (k,v)->Pv i j H->H p=Æ->g `am j (aU H p<|.aF [kV k,v]) λl f=>tb { D with nx:=Pv<|i+1,ct:=Pv<|i+1,bk:=D.nx } l f)(hd:∀j H,Pv ↑kvs j H->D.nx j H):
  ∃W:Nat->Nat->St->Hp->Prop,(∃m,W 0 m j H)/\∀i m j H,W i m j H->
   ((rf a ob kvs).stop i H/\D.nx j H)\/((rf a ob kvs).go i H/\∃N:St->Hp->Prop,(∀h b,N h b->∃n,n<m/\W (i+1) n h b)/\∀x b,(rf a ob kvs).nZ i H x b->g x j b λl f=>tb { D with nx:=N,ct:=N,bk:=D.nx } l f):=by
 show#[λi m j H=>m=↑kvs - i/\i<=↑kvs/\Pv i j H,#[kvs.length,by simp,Ĺ _,s],?_];rintro i m j H ⟨rfl,u,p⟩;have q:=w i j H u p;by_cases d:i<↑kvs
 .show .inr #[#[d,q],Pv<|i+1,λh b z=>#[kvs.length - (i+1),⋯,rfl,d,z],λx b y=>?_];let#[A,k,v,o,r,rfl,rfl]:=y;show hs i k v j H A o p r
 .have e:i=↑kvs:=⋯
  subst e;show .inl #[#[Î _,q],hd j H p]
section
variable{X:Cx}
def Gk:bV X (.type "dict") (λxs H Q=>∃a kvs,xs=[.ref a]/\Rd H a `as/\∀p,H p=Æ->Q `am (aU H p<|.dK kvs)):=by
 intro aa s j H xs us Q I r h;∎;let#[a,kvs,rfl,d,q]:=h;let#[u,rfl,f]:=lp r;∎;cases f;show TM I d λp g e b=>#[.ref p,_,b,rfl,q p e]
def Q8(N:X.calm=Â):bV X (.type "list") (λxs H Q=>∃a kvs,xs=[.ref a]/\Rd H a `as/\∀p,H p=Æ->Q `am (aU H p<|.af<|kvs.map λl=>kV l.1)):=by
 intro aa s i H xs us Q I r h;∎;let#[a,kvs,rfl,M,q]:=h;let#[u,rfl,Y]:=lp r;∎;cases Y;∎;let#[z,y,vs,m,dd]:=iU I.aS M;let#[ep,B]:=dd.dictAt;∎;have E:↑kvs=↑vs:=KV.length m;show W.kdl_call (W.kdl_dict (knd:=eM X.prog X.w) (kvs:=vs) (ep:=ep) y) (I.ok.hd N) B (by rw[<- E];show z) λh' tk b J O L d=>?_
 have C:H ⇑s=Æ:=I.aS.fresh<|Î _;show#[.ref ⇑s,_,I.laid (a:=⇑s) (o:=.af<|kvs.map λl=>kV l.1) (h':=h') (t':=tk) O (Î _) #[by rw[Å];show z,b.toList,J,?_,by simpa using L],rfl,q _ C];have hn:↑b.toList=↑vs:=by rw[Œ];show d.1
 have gen:∀(kvs:b9)(us:aT),us.length=↑kvs->(∀(j:Nat) k v u,kvs[j]?=À (k,v)->us[j]?=À u->aE (kV k) u)->aH (kvs.map λl=>kV l.1) us:=by
  intro kvs
  induction kvs with
  |nil=>intro us e _;cases us with
   |nil=>show .nil
   |cons _ _=>simp at e
  |cons p r U=>
   intro us e f;cases us with
   |nil=>simp at e
   |cons u us=>
    show .cons (f 0 p.1 p.2 u rfl rfl) (U us (by simpa using e) λj k v w n A=>f (j+1) k v w (by simpa using n)<|by simpa using A)
 show gen kvs b.toList (by rw[hn,E]) λj k v u n A=>?_
 ∎;let#[k',x,G,g]:=d.2 j u (by rw[<- ϑ];show A);let#[u',D,_]:=m.at n;∎;rw[D] at G;cases G;show uy g
abbrev wz:V->du
 |.ty n=>À<|.type n
 |.ref a=>À<|.ref a
 |_=>Æ
def Ut:bV X (.builtin "isinstance") (λxs H Q=>∃x c t b u,xs=[x,c]/\eK X.K H x t/\wz c=À u/\an4 X.K t u=À b/\Q `cd H):=by
 intro aa s j H xs us Q I r h;∎;let#[x,c,t,b,u,rfl,ty,d,e,q]:=h;let#[v,o,rfl,l,f]:=Ko r;∎;have g:o=u:=by
  cases c with
  |ref a=>cases d;show f
  |ty n=>cases d;show f
  |aN=>cases d
  |bl n=>cases d
  |int i=>cases d
  |str i=>cases d
  |hX i=>cases d
  |nS i=>cases d
 subst g;show Rv I l ty e λm=>#[.bl b,H,I.tok m,rfl,q]
end
abbrev eI(R:V->V->Prop):ay->ay->Prop
 |[],[]=>True
 |x::xs,y::ys=>R x y /\ eI R xs ys
 |_,_=>False
def eI.length:∀{xs ys:ay},eI R xs ys->↑xs=↑ys
 |[],[],_=>rfl
 |_::xs,_::ys,h=>by rw[Ö,Ö,eI.length h.2]
 |[],_::_,h=>h.elim
 |_::_,[],h=>h.elim
def eI.get{R:V->V->Prop}:∀{xs ys:ay}{j:Nat}{x y:V},eI R xs ys->xs[j]?=À x->ys[j]?=À y->R x y
 |x::xs,y::ys,0,_,_,h,e1,e2=>by simp at e1 e2;subst e1 e2;show h.1
 |_::xs,_::ys,j + 1,x,y,h,e1,e2=>eI.get (xs:=xs) (ys:=ys) (j:=j) h.2 (by simpa using e1) (by simpa using e2)
 |[],[],_,_,_,_,e1,_=>by simp at e1
 |[],_::_,_,_,_,h,_,_=>h.elim
 |_::_,[],_,_,_,h,_,_=>h.elim
abbrev mn(K:aq)(H:Hp):Nat->V->V->Prop
 |0,x,y=>iP x=Â /\ x=y
 |n + 1,x,y=>(iP x=Â /\ x=y) \/ ∃p q a b,x=.ref p /\ y=.ref q /\ ((cR K H p a /\ cR K H q b) \/ (bw K H p a /\ bw K H q b)) /\ eI (mn K H n) a b
def xc(h:iP x=Â):jo x x=Â:=by
 cases x<;>first |rfl |(simp[jo];done) |(simp[iP] at h)
def ox(A:ą):A.in1.units=A.units+1:=rfl
section
variable{X:Cx}{aa:aZ}{σ:St}{H:Hp}{s:ao}
def Zq(I:ax X aa σ H s)(E:(cR X.K H p xs/\cR X.K H q ys)\/(bw X.K H p xs/\bw X.K H q ys))(o:A.units<ģ)(L:↑xs=↑ys)(D:∀(j:Nat) x y u v,xs[j]?=À x->ys[j]?=À y->aE x u->aE y v->Ľ A.in1 s u v Â):aj1 A s `am `eo Â:=by
 have h:∀(b a:aT),aH xs b->aH ys a->∀j (f:j<b.toArray.size) (g:j<a.toArray.size),Ľ A.in1 s b.toArray[j] a.toArray[j] Â:=by
  intro b a d r2 j f g;have r:=↑d;have w:=↑r2;simp only[á] at f g;∎;let#[u,l,G]:=d.get (i:=j) (x:=xs[j]'⋯) ∅;let#[v,m,J]:=r2.get (i:=j) (x:=ys[j]'⋯) ∅;∎;have B:b.toArray[j]'(by simpa using f)=u:=by
   have:=Á.mp l;let#[_,z]:=this;simpa using z
  have C:a.toArray[j]'(by simpa using g)=v:=by
   have:=Á.mp m;let#[_,z]:=this;simpa using z
  rw[B,C];show D j _ _ u v ∅ ∅ G J
 rcases E with⟨f,g⟩ |⟨f,g⟩
 .obtain⟨b,d,t1,_⟩:=I.tuple f;let#[a,r2,n,_]:=I.tuple g;have r:=↑d;have w:=↑r2;have z:=an2 (A:=A) (e:=λ_=>Â) t1 n o<|h b a d r2;have e:((É<|min b.toArray.size a.toArray.size).all (λ_=>Â)&&b.toArray.size == a.toArray.size)=Â:=by
   simp only[á];simp;omega
  rw[e] at z;show z
 .obtain⟨b,d,t1,_⟩:=I.list f;let#[a,r2,n,_]:=I.list g;have r:=↑d;have w:=↑r2;have z:=ao7 (A:=A) (e:=λ_=>Â) t1.isList n.isList (by simp;omega) o<|h b a d r2;have e:(É b.toArray.size).all (λ_=>Â)=Â:=by simp
  rw[e] at z;show z
def Zr(I:ax X aa σ H s):∀(n:Nat){A:ą}{x y:V}{u v:ar},mn X.K H n x y->aE x u->aE y v->A.units+n<ģ->Ľ A s u v Â:=by
 intro n
 induction n with
 |zero=>
  intro A x y u v h a b _;let#[f,rfl]:=h;have z:=nG (A:=A) (s:=s) a b f f;rw[xc f] at z;show z
 |succ n l=>
  intro A x y u v h a b o;rcases h with⟨f,rfl⟩ |⟨p,q,r,w,rfl,rfl,i,al⟩
  .have z:=nG (A:=A) (s:=s) a b f f;rw[xc f] at z;show z
  .cases a;cases b;by_cases e:p=q
   .subst e;show Ϙ _
   .show ϧ e (Zq I i ⋯ ↑al λj x y u v d g m r2=>?_);show l (A:=A.in1) (al.get d g) m r2 (by rw[ox];omega)
end
section
variable{X:Cx}
def Q9{kvs:b9}{vs:List (aI×ar)}{k:aI}{y:V}(r:KV kvs vs)(e:gs kvs k=À y):∃u,ad8 vs k=À u/\aE y u:=
 cq.some_of (v:=y) (o:=ad8 vs k) (by rw[<- e];show r.val k)
abbrev ug(K:aq)(H:Hp)(n:Nat)(a b:b9):Prop:=↑a=↑b/\∀k v,(k,v)∈a->∃y,gs b k=À y/\mn K H n v y
def Lq{aa:aZ}{j:St}{H:Hp}{s:ao}{A:ą}{n:Nat}{d:b9}{g:List (aI×ar)}(I:ax X aa j H s)(w:A.units+n<ģ)(C:KV d g):
  ∀{a:b9}{b:List (aI×ar)},KV a b->(∀k v,(k,v)∈a->∃y,gs d k=À y/\mn X.K H n v y)->W.KeqHits A s g b Â:=by
 intro a b e;unfold KV at e
 induction e with
 |nil=>intro _;show .nil
 |@cons p q E B h t x=>
  intro f;∎;let#[y,i,l]:=f p.1 p.2<|ϐ ..;let#[u,o,D]:=Q9 C i;∎;have z:=W.KeqHits.hit (A:=A) (s:=s) (k:=q.1) (v:=q.2) (y:=u) (r:=B) (by rw[<- h.1];show o) (Zr I n (A:=A) l h.2 D w)<|x λk v m=>f k v<|Ĥ _ m;simpa using z
end
section
variable{σ:St}{H:Hp}{Q:VK}{D:Ends}{K:aq}
def aD.aU(h:H a=Æ):aD H `bU:=λb u e=>by rw[ba<|kc e h];show e
def aD.aF(e:aD H H')(h:cR K H a xs):cR K H' a xs:=by
 rcases h with (h |⟨o,h⟩) |h
 .show .inl (.inl (e _ _ h))
 .show .inl (.inr ⟨o,e _ _ h⟩)
 .show .inr h
def aD.rd(e:aD H H')(h:Rd H a u):Rd H' a u:=by
 rcases h with h |⟨o,h⟩
 .show .inl (e _ _ h)
 .show .inr ⟨o,e _ _ h⟩
end
section
variable{σ:St}{H:Hp}{Q:VK}{D:Ends}{K:aq}{X:Cx}
def aD.q5(e:aD H H')(n:H a=Æ):aD H (L2.aU H' a o):=λb u q=>by rw[ba<|kc q n];show e b u q
end
abbrev gP(P:ê)(w:Ă)(A:ą)(s:ao)(u v:ar):Prop:=∀(E:ar->ao->Prop)(Q:Bool->ao->Prop),Q Â s->Ú `bj A (eqBool u v) Q E s
abbrev m5(P:ê)(w:Ă)(A:ą)(s:ao)(u v:ar):Prop:=∀(E:ar->ao->Prop)(Q:ar->ao->Prop),Q `eC s->Ú `bj A (richCompare .Eq u v) Q E s
section
variable{P:ê}{w:Ă}{A:ą}{s:ao}
def gP.pI(h:Ľ A s u v Â):gP P w A s u v:=λE Q q=>h P w E Q q
def gP.of_refs(h:m5 P w A s `aw `bs):gP P w A s `aw `bs:=λE Q q=>by
 by_cases e:a=b
 .subst e;show Ϙ _ P w E Q q
 .unfold eqBool;show Ŗ<|Ζ (λz=>av5 (Value.ref.inj<|eq_of_beq z) e) λ_=>?_;show È<|h E _<|ő q
section
open PySem.AutoSeq1 (wpAny_loadPart')
def MD(a b:ai)(xs ys:cS)(n m:Nat)(o q:bW)(sa sb:Array (du))(hz:xs.size=ys.size):
  ao6 P w (Ţ.«tuple.__eq__» #[[.ref a,.ref b],[]]) (λA R s=>s.heap.get? a=À #[.type "tuple",o,.seq xs n,sa]/\s.heap.get? b=À #[.type "tuple",q,.seq ys m,sb]/\
   (∀j (M:j<xs.size) (N:j<ys.size),gP P w A.in1 s xs[j] ys[j])/\R (.ok<|.ret<|.bool Â) s):=by
 show .of_wp λA R s h=>?_
 ∎;let#[E,g,d,I,os]:=s;let#[B,C,D,v]:=h;∎;have sub:=ai6;have len:(xs.toList.zip ys.toList).length=xs.size:=by simp;omega
 wp_walk using wpAny_loadPart' B,wpAny_loadPart' C,wpAny_forIn_list _ (λr c l=>c.1=Æ/\l=#[E,g,d,I,os]/\∃i,r=(xs.toList.zip ys.toList).drop i) _
 case turn=>
  rintro⟨x,y⟩ r c l ⟨f,rfl,i,e⟩;by_cases lt:i<(xs.toList.zip ys.toList).length
  .rw[ak7 lt] at e;injection e with e1 e2
   have G:i<xs.size:=⋯
   have H:i<ys.size:=⋯
   obtain⟨ex,u⟩:x=xs[i]/\y=ys[i]:=by
    have z:=Prod.mk.inj<|e1.trans List.getElem_zip;show#[by simpa using z.1,by simpa using z.2]
   subst ex u;show È<|D i G H _ _ ?_
   wp_walk
   show#[rfl,rfl,i+1,e2]
  .rw[ao0 ⋯] at e;cases e
 case fin=>
  rintro⟨J,L⟩ l ⟨f,rfl,_⟩;simp only at f;subst f
  wp_walk
  show#[_,rfl,?_];simpa [ac1,hz] using v
 case h=>show#[rfl,rfl,0,rfl]
end
def m5.tuples(r:IsTup s.heap a xs)(u:IsTup s.heap b ys)(hz:xs.size=ys.size)(x:A.units<ģ)(v:∀j (y:j<xs.size) (B:j<ys.size),gP P w A.in1 s xs[j] ys[j]):m5 P w A s `aw `bs:=λE Q q=>by
 ∎;let#[#[ca,l,C,sa],d,e,n,h]:=id r;let#[#[cb,o,D,sb],g,f,m,i]:=id u;∎;simp only at e h f i;subst e h f i;show ų (op:=.Eq) (T:="tuple") #[_,d,rfl] #[_,g,rfl] PySem.F.slot_tuple_eq ?_ x;show Ő PySem.F.slot_tuple_eq #[_,d,rfl] PySem.F.entry_tuple_eq (PySem.F.args_tuple_eq_2 _ _) (MD a b xs ys n m l o sa sb hz) #[d,g,v,#[(λz=>nomatch z),q]]
section
open PySem.AutoSeq1 (wpAny_loadPart')
open PySem.MeetsSeq PySem.MeetsSeq2 PySem.MeetsSeq3 PySem.SeqRoads2 PySem.SeqAt
def G6(a b:ai)(xs ys:cS)(n m:Nat)(u v:bW)(sa sb:Array (du))(hz:xs.size=ys.size):∀(k i:Nat),xs.size - i=k->
  ao6 P w (Ţ.«list.__eq__.loop» #[[.ref a,.ref b,ad7 i,ad7 2],[]]) (λA R s=>s.heap.get? a=À #[.type "list",u,.seq xs n,sa]/\s.heap.get? b=À #[.type "list",v,.seq ys m,sb]/\
   (∀j (C:j<xs.size) (D:j<ys.size),gP P w A.in1 s xs[j] ys[j])/\R (.ok<|.ret<|.bool Â) s)
 |0,i,hk=>λA R s h=>by
  let#[z,g,d,B,os]:=s;let#[e,f,o,l]:=h
  wp_walk using wpAny_loadPart' e,wpAny_loadPart' f
  have q:xs[((i:Nat):Int).toNat]?=Æ:=by simp;omega
  have r:ys[((i:Nat):Int).toNat]?=Æ:=by simp;omega
  rw[q,r]
  wp_walk using wpAny_loadPart' e,wpAny_loadPart' f
  change R (.ok<|.ret<|.bool<|xs.size == ys.size) _;rw[hz,aw0];show l
 |k + 1,i,hk=>λA R s h=>by
  let#[z,g,d,B,os]:=s;let#[e,f,o,l]:=h
  wp_walk using wpAny_loadPart' e,wpAny_loadPart' f
  have x:i<xs.size:=⋯
  have y:i<ys.size:=⋯
  have q:xs[((i:Nat):Int).toNat]?=À xs[i]:=by simp[x]
  have r:ys[((i:Nat):Int).toNat]?=À ys[i]:=by simp[y]
  rw[q,r];show È<|o i x y _ _ ?_
  wp_walk
  have up:((i:Int)+1)=((i+1:Nat):Int):=Int.natCast_succ i;rw[up];show#[ϵ ŭ _,ae1 ah5 ?_];rw[Ϟ ŭ _];show G6 a b xs ys n m u v sa sb hz k (i+1) ⋯ A R _ #[e,f,o,l]
def ME(a b:ai)(xs ys:cS)(n m:Nat)(e f:bW)(sa sb:Array (du))(hz:xs.size=ys.size):
  ao6 P w (Ţ.«list.__eq__» #[[.ref a,.ref b],[]]) (λA R s=>s.heap.get? a=À #[.type "list",e,.seq xs n,sa]/\s.heap.get? b=À #[.type "list",f,.seq ys m,sb]/\
   (∀j (r:j<xs.size) (u:j<ys.size),gP P w A.in1 s xs[j] ys[j])/\R (.ok<|.ret<|.bool Â) s):=λA R s h=>by
 ∎;let#[v,g,d,x,os]:=s;let#[i,l,q,o]:=h;∎;have sub:=ak2;have same:¬ (xs.size != ys.size)=Â:=by simp[hz]
 wp_walk using wpAny_loadPart' i,wpAny_loadPart' l
 show#[ϵ ŭ _,ae1 ah5 ?_];rw[Ϟ ŭ _];show G6 a b xs ys n m e f sa sb hz _ 0 rfl A R _ #[i,l,q,o]
end
def m5.lists(r:s.heap.IsList a xs)(u:s.heap.IsList b ys)(hz:xs.size=ys.size)(x:A.units<ģ)(v:∀j (y:j<xs.size) (B:j<ys.size),gP P w A.in1 s xs[j] ys[j]):m5 P w A s `aw `bs:=λE Q q=>by
 ∎;let#[#[ca,l,C,sa],d,e,n,h]:=id r;let#[#[cb,o,D,sb],g,f,m,i]:=id u;∎;simp only at e h f i;subst e h f i;show ų (op:=.Eq) (T:="list") #[_,d,rfl] #[_,g,rfl] PySem.F.slot_list_eq ?_ x;show Ő PySem.F.slot_list_eq #[_,d,rfl] PySem.F.entry_list_eq (PySem.F.args_list_eq_2 _ _) (ME a b xs ys n m l o sa sb hz) #[d,g,v,#[(λz=>nomatch z),q]]
end
abbrev mY(K:aq)(H:Hp):Nat->V->V->Prop
 |0,x,y=>iP x=Â /\ x=y
 |n + 1,x,y=>(iP x=Â /\ x=y) \/ ∃p q,x=.ref p /\ y=.ref q /\ ((∃a b,((cR K H p a /\ cR K H q b) \/ (bw K H p a /\ bw K H q b)) /\ eI `eD a b) \/
   ∃d e,Rd H p `cc/\Rd H q (.dK e)/\ug K H n d e)
section
variable{X:Cx}{aa:aZ}{σ:St}{H:Hp}{s:ao}
def Xa(I:ax X aa σ H s)(D:(cR X.K H p xs/\cR X.K H q ys)\/(bw X.K H p xs/\bw X.K H q ys))(g:A.units<ģ)(J:↑xs=↑ys)(C:∀(j:Nat) x y u v,xs[j]?=À x->ys[j]?=À y->aE x u->aE y v->gP X.prog X.w A.in1 s u v):m5 X.prog X.w A s `am `eo:=by
 have e:∀(us vs:aT),aH xs us->aH ys vs->∀j (b:j<us.toArray.size) (d:j<vs.toArray.size),gP X.prog X.w A.in1 s us.toArray[j] vs.toArray[j]:=by
  intro us vs a r2 j b d;have h:=↑a;have l:=↑r2;simp only[á] at b d;∎;let#[u,m,E]:=a.get (i:=j) (x:=xs[j]'⋯) ∅;let#[v,n,G]:=r2.get (i:=j) (x:=ys[j]'⋯) ∅;let#[_,o]:=Á.mp m;let#[_,r]:=Á.mp n;∎;have z:us.toArray[j]'(by simpa using b)=u:=by simpa using o
  have B:vs.toArray[j]'(by simpa using d)=v:=by simpa using r
  rw[z,B];show C j _ _ u v ∅ ∅ E G
 rcases D with⟨b,d⟩ |⟨b,d⟩
 .obtain⟨us,a,t1,_⟩:=I.tuple b;let#[vs,r2,f,_]:=I.tuple d;have h:=↑a;have l:=↑r2;show m5.tuples t1 f (by simp;omega) g<|e us vs a r2
 .obtain⟨us,a,t1,_⟩:=I.list b;let#[vs,r2,f,_]:=I.list d;have h:=↑a;have l:=↑r2;show m5.lists t1.isList f.isList (by simp;omega) g<|e us vs a r2
def Uu(I:ax X aa σ H s)(i:Rd H p (.dK ka))(j:Rd H q (.dK kb))(v:A.units+n+1<ģ)(h:ug X.K H n ka kb):m5 X.prog X.w A s `am `eo:=λE Q l=>by
 ∎;let#[u,al]:=h;let#[z,m,b,a,f]:=iU I.aS i;let#[B,o,d,r2,g]:=iU I.aS j;∎;have x:↑ka=↑b:=KV.length a;have y:↑kb=↑d:=KV.length r2;show W.keq_eq (r:=Â) m o f g ⋯ (λ_=>Lq I (by rw[ox];omega) r2 a al) ?_;have e:(↑b == ↑d&&Â)=Â:=by simp;omega
 rw[e];show l
def Zs(I:ax X aa σ H s):∀(n:Nat){A:ą}{x y:V}{u v:ar},mY X.K H n x y->aE x u->aE y v->A.units+n+1<ģ->gP X.prog X.w A s u v:=by
 intro n
 induction n with
 |zero=>
  intro A x y u v h a b _;let#[f,rfl]:=h;have z:=nG (A:=A) (s:=s) a b f f;rw[xc f] at z;show .pI z
 |succ n i=>
  intro A x y u v h a b m;rcases h with⟨f,rfl⟩ |⟨p,q,rfl,rfl,⟨B,C,g,al⟩ |⟨o,r,d,e,h⟩⟩
  .have z:=nG (A:=A) (s:=s) a b f f;rw[xc f] at z;show .pI z
  .cases a;cases b;show .of_refs<|Xa I g ⋯ ↑al λj x y u v d e l r2=>?_;show i (A:=A.in1) (al.get d e) l r2 (by rw[ox];omega)
  .cases a;cases b;show .of_refs<|Uu I d e ⋯ h
end
section
variable{X:Cx}
abbrev FA(K:aq):R2:=λx y H Q=>∃n p q a b,n<=40/\x=.ref p/\y=.ref q/\((cR K H p a/\cR K H q b)\/(bw K H p a/\bw K H q b))/\eI `eD a b/\Q `br H
end
end L2
namespace Sf
abbrev gd(a b:Int):Int:=(Int.gcd a b:Nat)
def Xb(a:Int)(h:0<=a):gd a 0=a:=by
 unfold gd;rw[au1];omega
def Zt(d:0<=a)(f:0<b):gd b (a % b)=gd a b:=by
 unfold gd Int.gcd;have e:(a % b).natAbs=a.natAbs % b.natAbs:=by
  let#[m,rfl]:=an8 d;let#[n,rfl]:=an8<|ĵ f;simp only[ė];rw[<- Int.natCast_emod,ė]
 rw[e,Nat.gcd_comm b.natAbs,Nat.gcd_comm a.natAbs,Nat.gcd_rec b.natAbs a.natAbs]
def oC(h:b≠0):0<gd a b:=by
 unfold gd;have:=Int.gcd_pos_of_ne_zero_right a h;omega
def Zu(a b:Int):gd (a.natAbs:Int) (b.natAbs:Int)=gd a b:=by
 unfold gd;simp[Int.gcd]
def JA(a:Int):(if a<0 then -a else a)=(a.natAbs:Int):=by split<;>omega
def Xc(a b:Int):gd (if a<0 then -a else a) (if b<0 then -b else b)=gd a b:=by
 rw[JA,JA,Zu]
abbrev dv(t b:Int):Int:=if b<0 then -(gd t b) else gd t b
def Ku(h:b≠0):dv t b≠0:=by
 have:=oC (a:=t) h;unfold dv;split<;>omega
def xg(t b:Int):gd t b ∣ t:=Int.gcd_dvd_left ..
def Ay(t b:Int):gd t b ∣ b:=Ο ..
def Uv(t b:Int):dv t b ∣ t:=by
 unfold dv;split
 .show Int.neg_dvd.mpr (xg t b)
 .show xg t b
def Uw(t b:Int):dv t b ∣ b:=by
 unfold dv;split
 .show Int.neg_dvd.mpr (Ay t b)
 .show Ay t b
def Kv{x d:Int}(h:d ∣ x):x.fdiv d*d=x:=by
 rw[Int.fdiv_mul_cancel h]
def G7{t b:Int}(h:b≠0):t.fdiv (dv t b)=(Ó t b).num:=by
 have hd:=Ku (t:=t) h;show ak6 hd ?_;rw[Kv<|Uv t b,al6];have e:b.gcd t=t.gcd b:=ap1 ..;rw[e];have f:((t.gcd b:Nat):Int) ∣ t:=Int.gcd_dvd_left ..;have j:=oC (a:=t) h;unfold gd at j;unfold dv gd;rw[Int.mul_ediv_assoc _ f];let#[k,i]:=f;generalize l:((t.gcd b:Nat):Int)=g at *;have d:t / g=k:=by rw[i];show Int.mul_ediv_cancel_left k ⋯
 rw[d];split
 .rename_i hb;rw[Int.sign_eq_neg_one_of_neg hb];grind
 .rename_i hb;rw[ab0 ⋯];grind
def G8{t b:Int}(h:b≠0):b.fdiv (dv t b)=((Ó t b).den:Int):=by
 have hd:=Ku (t:=t) h;show ak6 hd ?_;rw[Kv<|Uw t b,Rat.den_divInt,av3 h];have e:b.gcd t=t.gcd b:=ap1 ..;rw[e];have i:(t.gcd b) ∣ b.natAbs:=by rw[<- Int.ofNat_dvd_left];show Ο ..
 have l:=oC (a:=t) h;unfold gd at l;unfold dv gd;let#[k,f]:=i;have d:b.natAbs / t.gcd b=k:=by rw[f];show Nat.mul_div_cancel_left k ⋯
 rw[d];generalize t.gcd b=g at *;have j:(b.natAbs:Int)=(g:Int)*(k:Int):=by rw[f];show ϫ ..
 split<;>grind
def den_pos(q:Rat):0<(q.den:Int):=by have:=q.den_nz;omega
abbrev Sm(n:Nat)(q:Rat):Prop:=q.num.natAbs<2 ^ n/\q.den<2 ^ n
def GQ(h:b≠0):(Ó t b).num.natAbs<=t.natAbs/\(Ó t b).den<=b.natAbs:=by
 let#[m,hm,g,i]:=Rat.divInt_num_den (n:=t) (d:=b) h (n':=(Ó t b).num) (d':=(Ó t b).den) (z':=(Ó t b).den_nz) (c:=(Ó t b).reduced) rfl;have a:1<=m.natAbs:=⋯
 have f:=av9 Int.natAbs g;have e:=av9 Int.natAbs i;rw[Ϫ] at f e;rw[ė] at e;constructor
 .rw[f];show ao2 _ a
 .rw[e];show ao2 _ a
def wX(h:b≠0)(a:t.natAbs<2 ^ n)(d:b.natAbs<2 ^ n):Sm n (Ó t b):=
 #[ġ (GQ h).1 a,ġ (GQ h).2 d]
def Gm(a b:Rat):a+b=Ó (a.num*b.den+b.num*a.den) (a.den*b.den):=by
 rw[Rat.add_def',<- ai0];rfl
def Gn(a b:Rat):a - b=Ó (a.num*b.den - b.num*a.den) (a.den*b.den):=by
 rw[Rat.sub_def',<- ai0];rfl
def Gp(a b:Rat):a*b=Ó (a.num*b.num) (a.den*b.den):=by
 rw[Rat.mul_def',<- ai0];rfl
def r0(a b:Rat):(a.den*b.den:Int)≠0:=by
 have d:=den_pos a;have e:=den_pos b;show ð<|ō d e
def Zv(a:x<2 ^ n)(b:y<2 ^ m):x*y<2 ^ (n+m):=by
 rw[ao3];show Nat.mul_lt_mul'' a b
def nE{x y:Int}{n m:Nat}(a:x.natAbs<2 ^ n)(b:y.natAbs<2 ^ m):(x*y).natAbs<2 ^ (n+m):=by
 rw[Ϫ];show Zv a b
def Af{x y:Int}{n:Nat}(a:x.natAbs<2 ^ n)(b:y.natAbs<2 ^ n):(x+y).natAbs<2 ^ (n+1):=by
 rw[ag6,Nat.mul_two];show ġ (Int.natAbs_add_le x y)<|Nat.add_lt_add a b
def Ra{x y:Int}{n:Nat}(a:x.natAbs<2 ^ n)(b:y.natAbs<2 ^ n):(x - y).natAbs<2 ^ (n+1):=by
 rw[Int.sub_eq_add_neg];show Af a (by rw[Φ];show b)
def mF(h:Sm n q):(q.den:Int).natAbs<2 ^ n:=by rw[ė];show h.2
def KW{x:Int}{n m:Nat}(h:x.natAbs<2 ^ n)(k:n<=m):x.natAbs<2 ^ m:=Õ h<|Ů ∎ k
def Zw{n m:Nat}{a b:Rat}(d:Sm n a)(e:Sm m b):Sm (n+m+1) (a+b):=by
 rw[Gm];show wX (r0 a b) ?_ ?_
 .show Af (nE d.1<|mF e) ?_;rw[ag4 n m];show nE e.1<|mF d
 .show KW (nE (mF d)<|mF e) ⋯
def Zx{n m:Nat}{a b:Rat}(d:Sm n a)(e:Sm m b):Sm (n+m+1) (a - b):=by
 rw[Gn];show wX (r0 a b) ?_ ?_
 .show Ra (nE d.1<|mF e) ?_;rw[ag4 n m];show nE e.1<|mF d
 .show KW (nE (mF d)<|mF e) ⋯
def bQ(d:Sm n a)(e:Sm m b):Sm (n+m) (a*b):=by
 rw[Gp];show wX (r0 a b) (nE d.1 e.1)<|nE (mF d)<|mF e
def Zy(h:Sm n a):Sm n (-a):=#[by rw[Rat.neg_num,Φ];show h.1,h.2]
section
variable{κ:Type}[DecidableEq κ]
nonrec abbrev FL(κ:Type):=List<|κ×Rat
abbrev gt(m:FL κ)(k:κ):Option Rat:=(m.find? λp=>decide<|p.1=k).map (·.2)
abbrev nz(m:FL κ):FL κ:=m.filter λp=>decide<|p.2≠0
abbrev sc(m:FL κ)(n:Rat):FL κ:=m.map λp=>(p.1,p.2*n)
abbrev run(P:κ->Rat)(r:Rat)(m:FL κ):Rat:=m.foldl (λt p=>t+p.2*P p.1) r
def R5{j:Type}{m:List j}{i:Nat}{p:j}(e:m[i]?=À p):m.take (i+1)=m.take i++[p]:=by
 rw[ĕ,e];rfl
end
end Sf
namespace Vc
open PySem L2 Sf
abbrev Le(F b:Hp):Prop:=∀a u,(∀o w,u≠.aC o w)->Rd F a u->Rd b a u
def Le.refl(F:Hp):Le F F:=λ_ _ _ h=>h
def Le.trans(a:Le F G)(b:Le G H):Le F H:=λx u n h=>b x u n<|a x u n h
def Le.of(e:aD F F'):Le F F':=λa u _ h=>e.rd h
def Le.aF(e:Le F F')(h:cR K F a xs):cR K F' a xs:=by
 rcases h with h |h
 .show .inl (e _ _ (by intro o w z;cases z) h)
 .show .inr h
def Le.af(e:Le F F')(h:bw K F a xs):bw K F' a xs:=by
 rcases h with h |h
 .show .inl (e _ _ (by intro o w z;cases z) h)
 .show .inr h
def Le.aP(e:Le F F')(h:Rd F a `as):Rd F' a `as:=e _ _ (by intro o w z;cases z) h
abbrev Fz(S:ai->Prop)(F:Hp):Prop:=∀a o u,F a=À `aJ->S a
nonrec abbrev S0:ai->Prop:=λ_=>False
abbrev zG(F:Hp):ai->Prop:=λa=>∃o u,F a=À `aJ
structure Gr0(F H F' H':Hp):Prop where
 h:aD H H'
 f:aD F F'
 s:aD F' H'
 n:∀a u,F' a=À u->F a=Æ->H a=Æ
structure Gr(F H F' H':Hp):Prop extends Gr0 F H F' H' where
 z:Fz (zG F) F'
def Gr0.refl(s:aD F H):Gr0 F H F H:=#[aD.refl _,aD.refl _,s,(λa u h e=>by rw[h] at e;cases e)]
def Fz.refl(F:Hp):Fz (zG F) F:=λ_ o u h=>#[o,u,h]
def Gr.of(g:Gr0 F H F' H')(z:Fz (zG F) F'):Gr F H F' H':=#[g,z]
def Gr.le(g:Gr F H F' H'):Le F F':=.of g.f
def Gr.fz(g:Gr F H F' H')(c:Fz S F):Fz S F':=λa o u h=>by
 let#[b,d,e]:=g.z a o u h;show c a b d e
def Gr0.trans(a:Gr0 F H F1 H1)(b:Gr0 F1 H1 F2 H2):Gr0 F H F2 H2:=
 #[a.h.trans b.h,a.f.trans b.f,b.s,(λx u h e=>match q:F1 x with
  |none=>a.h.free (b.n x u h q)
  |some w=>a.n x w q e)]
def Gr0.tr(a:Gr0 F H F1 H1)(b:Gr F1 H1 F2 H2):Gr0 F H F2 H2:=a.trans b.toGr0
def Gr.own{F H a b:Hp}(g:Gr F H a b)(d:F o=Æ)(e:H o=À u):a o=Æ:=by
 cases q:a o with
 |none=>rfl
 |some w=>have:=g.n o w q d;rw[e] at this;cases this
def al{F H:Hp}{R:V->Hp->Prop}(j:aD F H)(m:∀x u,o≠.aC x u)(h:∀(p:ai)(g i:Hp),Gr F H g i->g p=À o->R `am i):∀p,H p=Æ->R `am `bW:=λp f=>by
 have l:F p=Æ:=j.free f;show h p (aU F p o) `bW #[#[aD.aU f,aD.aU l,?_,λa u e q=>?_],λa x u e=>?_] dk
 .intro b u e;by_cases d:b=p
  .subst d;rw[dk] at e ⊢;show e
  .rw[ba d] at e ⊢;show j b u e
 .by_cases d:a=p
  .subst d;show f
  .rw[ba d,q] at e;cases e
 .by_cases d:a=p
  .subst d;rw[dk] at e;show av5 (Ø e)<|m x u
  .rw[ba d] at e;show#[_,_,e]
def NI{F H:Hp}{R:Hp->Prop}(l:aD F H)(j:∀x u,o≠.aC x u)(d:H p=Æ)(h:∀b a:Hp,Gr F H b a->b p=À o->R a):R `bW:=by
 have:=al (R:=λv a=>∀q,v=.ref q->q=p->R a) l j (λq b a g e z i f=>by cases i;subst f;show h b a g e) p d;show this p rfl rfl
def rP{F H:Hp}(h:aD F H)(f:∀x u,o≠.aC x u)(d:H p=Æ):∃a,Gr F H a `bW/\a p=À o:=
 NI (R:=λb=>∃a,Gr F H a b/\a p=À o) h f d λa _ g e=>#[a,g,e]
def aC{Fb Hb F H:Hp}(g:Gr0 Fb Hb F H)(l:Fz S F)(i:Hb p=Æ)(j:F p=Æ)(m:H p=À o)(r:∀x u,o≠.aC x u):∃d,Gr0 Fb Hb d H/\Fz S d/\aD F d/\d p=À o/\∀a,a≠p->d a=F a:=by
 show#[aU F p o,#[g.h,g.f.trans<|aD.aU j,?_,λa u e q=>?_],λa x u e=>?_,aD.aU j,dk,λ_ e=>ba e]
 .intro b u e;by_cases i:b=p
  .subst i;rw[dk] at e;cases e;show m
  .rw[ba i] at e;show g.s b u e
 .by_cases hb':a=p
  .subst hb';show i
  .rw[ba hb'] at e;show g.n a u e q
 .by_cases hb':a=p
  .subst hb';rw[dk] at e;show av5 (Ø e)<|r x u
  .rw[ba hb'] at e;show l a x u e
abbrev fz(X:Hp)(a:ai)(o:HO):Hp:=λb=>if b=a then (if X a=Æ then Æ else À o) else X b
def ff{X:Hp}(h:b≠a):fz X a o b=X b:=by unfold fz;rw[av3 h]
def gu:fz X a o a=if X a=Æ then Æ else À o:=by unfold fz;rw[av4 rfl]
def ur{X:Hp}(h:fz X a o a=À u):X a≠Æ/\À o=À u:=by
 rw[gu] at h;split at h
 .cases h
 .rename_i q;show#[q,h]
def Lr(z:HO)(d:Gr0 Fb Hb F H):Gr0 (fz Fb a z) (fz Hb a z) (fz F a z) (aU H a z):=by
 show#[λb u e=>?_,λb u e=>?_,λb u e=>?_,λb u e q=>?_]
 .by_cases hb:b=a
  .subst hb;rw[dk];show (ur e).2
  .rw[ff hb] at e;rw[ba hb];show d.h b u e
 .by_cases hb:b=a
  .subst hb;rw[gu] at e ⊢;split at e
   .cases e
   .rename_i h;let#[w,g]:=ϱ.mp h;rw[av3 (by rw[d.f _ _ g];intro z;cases z)];show e
  .rw[ff hb] at e ⊢;show d.f b u e
 .by_cases hb:b=a
  .subst hb;rw[dk];show (ur e).2
  .rw[ff hb] at e;rw[ba hb];show d.s b u e
 .by_cases hb:b=a
  .subst hb;rw[gu] at e q ⊢;split at e
   .cases e
   .rename_i h;let#[w,g]:=ϱ.mp h;split at q
    .rename_i hf;rw[av4<|d.n _ _ g hf]
    .cases q
  .rw[ff hb] at e q ⊢;show d.n b u e q
def mI{F:Hp}(d:F a=Æ\/F a=À `as):Le F (fz F a<|.aC ob<|.dK kvs):=λb u n h=>by
 by_cases e:b=a
 .subst e;rcases d with d |d
  .rcases h with h |⟨o,h⟩<;>(rw[d] at h;cases h)
  .rcases h with h |⟨o,h⟩
   .rw[d] at h;cases h;show .inr #[ob,?_];rw[gu,av3 (by rw[d];intro z;cases z)]
   .rw[d] at h;cases h
 .rcases h with h |⟨o,h⟩
  .show .inl (by rw[ff e];show h)
  .show .inr ⟨o,by rw[ff e];show h⟩
def VA{Fb Hb F H j m:Hp}{S:ai->Prop}{R:Hp->Prop}(A:Gr0 Fb Hb F H)(D:H a=À `as)(i:F a=Æ\/F a=À `as)(v:Gr0 (fz Fb a<|.aC ob<|.dK kvs) (fz Hb a<|.aC ob<|.dK kvs) j m)(y:j a=fz F a (.aC ob<|.dK kvs) a)(B:Fz (λb=>b=a\/S b) j)(h:∀g l:Hp,Gr0 Fb Hb g l->Fz S g->Le j g->g a=F a->l a=À `as->(∀b,b≠a->g b=j b)->(∀b,b≠a->l b=m b)->R l):R (aU m a<|.dK kvs):=by
 have nn:j  a=Æ\/j a=À (.aC ob<|.dK kvs):=by
  rw[y,gu];split
  .show .inl rfl
  .show .inr rfl
 show h (fz j a<|.dK kvs) (aU m a<|.dK kvs) #[λb u e=>?_,λb u e=>?_,λb u e=>?_,λb u e q=>?_] (λb o u e=>?_) (λb u n e=>?_) ?_ dk (λb d=>ff d)<|λb d=>ba d
 .by_cases d:b=a
  .subst d;rw[dk];have:=A.h _ _ e;rw[D] at this;show this
  .rw[ba d];show v.h b u (by rw[ff d];show e)
 .by_cases d:b=a
  .subst d;have r:=A.f _ _ e;rcases i with i |i
   .rw[i] at r;cases r
   .rw[i] at r;have C:j b=À (.aC ob<|.dK kvs):=by rw[y,gu,av3 (by rw[i];intro z;cases z)]
    rw[gu,av3 (by rw[C];intro z;cases z)];show r
  .rw[ff d];show v.f b u (by rw[ff d];show e)
 .by_cases d:b=a
  .subst d;rw[dk];show (ur e).2
  .rw[ff d] at e;rw[ba d];show v.s b u e
 .by_cases d:b=a
  .subst d;rw[gu] at e;split at e
   .cases e
   .rename_i hn;rw[y,gu] at hn;split at hn
    .show av5 rfl hn
    .rename_i hf;let#[w,E]:=ϱ.mp hf;show A.n _ _ E q
  .rw[ff d] at e;have:=v.n b u e (by rw[ff d];show q);rw[ff d] at this;show this
 .by_cases d:b=a
  .subst d;cases (ur e).2
  .rw[ff d] at e;rcases B b o u e with x |x
   .show av5 x d
   .show x
 .by_cases d:b=a
  .subst d;rcases nn with nn |nn
   .rcases e with e |⟨o,e⟩<;>(rw[nn] at e;cases e)
   .rcases e with e |⟨o,e⟩
    .rw[nn] at e;cases e;show av5 rfl<|n _ _
    .rw[nn] at e;cases e;show .inl ?_;rw[gu,av3 (by rw[nn];intro z;cases z)]
  .rcases e with e |⟨o,e⟩
   .show .inl (by rw[ff d];show e)
   .show .inr ⟨o,by rw[ff d];show e⟩
 .rw[gu,y,gu];rcases i with i |i<;>rw[i]
  .rfl
  .rfl
def r6{F:Hp}(c:Fz S0 F)(h:Rd F a `as):F a=À `as:=by
 rcases h with h |⟨o,h⟩
 .show h
 .show (c _ _ _ h).elim
nonrec abbrev Rep(j:Type):=Hp->V->j->Prop
abbrev r2(K:aq){j i:Type}(A:Rep j)(B:Rep i):Rep (j×i):=λF v x=>∃a b d,v=.ref a/\cR K F a [b,d]/\A F b x.1/\B F d x.2
abbrev r3(K:aq){j i G:Type}(A:Rep j)(B:Rep i)(C:Rep G):Rep (j×i×G):=λF v x=>∃a b d e,v=.ref a/\cR K F a [b,d,e]/\A F b x.1/\B F d x.2.1/\C F e x.2.2
abbrev r5(K:aq){j i G h l:Type}(A:Rep j)(B:Rep i)(C:Rep G)(D:Rep h)(E:Rep l):Rep (j×i×G×h×l):=λF v x=>∃a b d e f g,v=.ref a/\cR K F a [b,d,e,f,g]/\A F b x.1/\B F d x.2.1/\C F e x.2.2.1/\D F f x.2.2.2.1/\E F g x.2.2.2.2
section
variable{α:Type}
abbrev bO(m:List (Str×α))(k:Str):Option α:=(m.find? λp=>decide<|p.1=k).map (·.2)
abbrev pK(m:List (Str×α))(k:Str)(y:α):List (Str×α):=if (m.any λp=>decide<|p.1=k)=Â then m.map (λp=>if p.1=k then (p.1,y) else p) else m++[(k,y)]
def HP(e:p.1=k):bO (p::r) k=À p.2:=by simp[bO,Ń,e]
def Wo(e:¬ p.1=k):bO (p::r) k=bO r k:=by simp[bO,Ń,e]
end
abbrev bl(n:Nat):Nat:=if n=0 then 0 else Nat.log2 n+1
def nj:n<2 ^ k↔bl n<=k:=by
 unfold bl;by_cases h:n=0
 .subst h;simp[Ϯ]
 .rw[av3 h,<- as4 h];omega
def xt(n:Nat):n<2 ^ bl n:=nj.mpr<|Î _
abbrev bi(x:Int):Nat:=bl x.natAbs
abbrev bs(q:Rat):Nat:=max (bl q.num.natAbs)<|bl q.den
def Ls(h:bs q<=n):Sm n q:=#[nj.mpr (by unfold bs at h;omega),nj.mpr (by unfold bs at h;omega)]
def uV(h:Sm n q):bs q<=n:=by
 have a:=nj.mp h.1;have b:=nj.mp h.2;unfold bs;omega
def qI(q:Rat):Sm (bs q) q:=Ls<|Î _
def Zz(a b:Rat):bs (a+b)<=bs a+bs b+1:=uV<|Zw (qI a)<|qI b
def xG(a b:Rat):bs (a - b)<=bs a+bs b+1:=uV<|Zx (qI a)<|qI b
def uB(a b:Rat):bs (a*b)<=bs a+bs b:=uV<|bQ (qI a)<|qI b
def xH(a:Rat):bs (-a)<=bs a:=uV<|Zy<|qI a
def kx:bs 0=1:=by decide +kernel
def jH(h:x.natAbs<2 ^ k):bi x<=k:=nj.mp h
def lq(h:bi x<=k):x.natAbs<2 ^ k:=nj.mpr h
def iS(x y:Int):bi (x*y)<=bi x+bi y:=nj.mp<|nE (xt _)<|xt _
def ZA(x y:Int):bi (x+y)<=max (bi x) (bi y)+1:=by
 have a:x.natAbs<2 ^ (max (bi x)<|bi y):=Õ (xt _)<|Ů ∎ (Nat.le_max_left _ _);have b:y.natAbs<2 ^ (max (bi x)<|bi y):=Õ (xt _)<|Ů ∎ (Nat.le_max_right _ _);show nj.mp<|Af a b
def iB(q:Rat):bi q.num<=bs q:=by unfold bi bs;omega
def gf(q:Rat):bi (q.den:Int)<=bs q:=by unfold bi bs;rw[ė];omega
def qm(h:b≠0)(a:bi t<=k)(d:bi b<=k):bs (Ó t b)<=k:=uV<|wX h (lq a)<|lq d
def Lu(a:bi x<=60000000)(b:bi y<=60000000):nh x y:=.inr #[60000000,Î _,lq a,lq b]
def CP(h0:y≠0)(h1:bi y<=8000):dM x y:=#[h0,lq h1]
abbrev mr(K:aq)(H:Hp)(x:V)(t:ar):Prop:=eK K H x t\/(t=.type "tuple"/\∃a d,x=.ref a/\cR K H a d)\/(t=.type "list"/\∃a d,x=.ref a/\bw K H a d)\/(t=.type "dict"/\∃a b,x=.ref a/\Rd H a (.dK b))
section
variable{K:aq}{H:Hp}
def ZC(h:cR K H a xs):mr K H `aw (.type "tuple"):=.inr<|.inl #[rfl,a,xs,rfl,h]
def ZD(h:bw K H a xs):mr K H `aw (.type "list"):=.inr<|.inr<|.inl #[rfl,a,xs,rfl,h]
def ZE(h:Rd H a `as):mr K H `aw (.type "dict"):=.inr<|.inr<|.inr #[rfl,a,kvs,rfl,h]
def ZF:mr K H `aE (.type "int"):=.inl<|.int i
def ZG:mr K H (.str i) (.type "str"):=.inl<|.str i
def Lw:mr K H (.bl i) (.type "bool"):=.inl<|.bl i
def ZH:mr K H .aN (.type "NoneType"):=.inl .aN
end
section
open PySem.Spec PyProof.Rows
variable{X:Cx}
def Ux:bV X (.builtin "isinstance") (λxs H Q=>∃x c t b u,xs=[x,c]/\mr X.K H x t/\wz c=À u/\an4 X.K t u=À b/\Q `cd H):=by
 intro aa s j H xs us Q I r h;let#[x,c,t,b,u,rfl,ty,d,e,q]:=h;rcases ty with ty |⟨rfl,a,D,rfl,l⟩ |⟨rfl,a,D,rfl,l⟩ |⟨rfl,a,A,rfl,l⟩
 .show Ut aa s j H [x,c] us Q I r ⟨x,c,t,b,u,rfl,ty,d,e,q⟩
 all_goals
  let#[v,C,rfl,B,m]:=Ko r;have y:C=u:=by
   cases c with
   |ref a=>cases d;show m
   |ty n=>cases d;show m
   |aN=>cases d
   |bl n=>cases d
   |int i=>cases d
   |str i=>cases d
   |hX i=>cases d
   |nS i=>cases d
  subst y;cases (show v=Ý a from B)
 .obtain⟨eG,_,p,_⟩:=I.tuple l;let#[o,f,g,_]:=p;show Ō W.kitx_tuple I.dh #[o,f,g] e (λz=>nomatch z) λw=>#[.bl b,H,I.tok w,rfl,q]
 .obtain⟨eG,_,p,_⟩:=I.list l;let#[o,f,g,_]:=p.isList;show Ō W.kitx_list I.dh #[o,f,g] e (λz=>nomatch z) λw=>#[.bl b,H,I.tok w,rfl,q]
 .obtain⟨_,_,vs,_,p⟩:=iU I.aS l;let#[o,G,E,f,g,_]:=p;show Ō W.kitx_dict I.dh #[o,f,g.1] e (λz=>nomatch z) λw=>#[.bl b,H,I.tok w,rfl,q]
end
abbrev sgn(z:Str)(i:Int):Str:=#[([z.cps.toList.getD i.toNat 0].toArray)]
section
variable{X:Cx}{aa:aZ}{σ:St}{F H:Hp}{s:ao}{Au:ą}
def G9{xs ys:ay}{us:aT}(h:aH xs us)(g:aH ys us):xs=ys:=h.inj g
def Wq(I:ax X aa σ H s)(h:cR X.K H a xs)(i:cR X.K H a ys):xs=ys:=by
 ∎;let#[us,j,#[r,g,m,o,f],_]:=I.tuple h;let#[l,r2,#[u,d,n,q,b],_]:=I.tuple i;∎;rw[g] at d;cases d;rw[f] at b;injection b with e _
 have:us=l:=by simpa using e
 subst this;show G9 j r2
def Wr(I:ax X aa σ H s)(h:bw X.K H a xs)(i:bw X.K H a ys):xs=ys:=by
 ∎;let#[us,j,p1,_]:=I.list h;let#[l,r2,p2,_]:=I.list i;let#[r,g,m,o,f]:=p1.isList;let#[u,d,n,q,b]:=p2.isList;∎;rw[g] at d;cases d;rw[f] at b;injection b with e _
 have:us=l:=by simpa using e
 subst this;show G9 j r2
def HQ(I:ax X aa σ H s)(f:cR X.K H a xs)(g:cR X.K H b ys)(B:Au.units<ģ)(J:↑xs=↑ys)(e:Nat->Bool)(w:∀(j:Nat) x y u v,xs[j]?=À x->ys[j]?=À y->aE x u->aE y v->Ľ Au.in1 s u v (e j)):aj1 Au s `aw `bs ((É ↑xs).all e):=by
 ∎;let#[us,m,E,_]:=I.tuple f;let#[d,r2,G,_]:=I.tuple g;∎;have L:=↑m;have M:=↑r2;have z:=an2 (A:=Au) (e:=e) E G B<|λj f g=>?_
 .have e0:((É<|min us.toArray.size d.toArray.size).all e&&us.toArray.size == d.toArray.size)=(É ↑xs).all e:=by
   simp only[á];have h:min ↑us ↑d=↑xs:=⋯
   have l:(↑us == ↑d)=Â:=by simp;omega
   rw[h,l,al7]
  rw[e0] at z;show z
 .simp only[á] at f g;∎;let#[u,h,C]:=m.get (i:=j) (x:=xs[j]'⋯) ∅;let#[v,l,D]:=r2.get (i:=j) (x:=ys[j]'⋯) ∅;let#[_,n]:=Á.mp h;let#[_,o]:=Á.mp l;∎;have q:us.toArray[j]'(by simpa using f)=u:=by simpa using n
  have r:d.toArray[j]'(by simpa using g)=v:=by simpa using o
  rw[q,r];show w j _ _ u v ∅ ∅ C D
def HR(I:ax X aa σ H s)(d:bw X.K H a xs)(f:bw X.K H b ys)(w:Au.units<ģ)(L:↑xs=↑ys)(e:Nat->Bool)(r:∀(j:Nat) x y u v,xs[j]?=À x->ys[j]?=À y->aE x u->aE y v->Ľ Au.in1 s u v (e j)):aj1 Au s `aw `bs ((É ↑xs).all e):=by
 ∎;let#[us,g,E,_]:=I.list d;let#[J,r2,G,_]:=I.list f;∎;have B:=↑g;have M:=↑r2;have z:=ao7 (A:=Au) (e:=e) E.isList G.isList (by simp;omega) w<|λj d f=>?_
 .have e0:(É us.toArray.size).all e=(É ↑xs).all e:=by
   simp only[á];rw[<- B]
  rw[e0] at z;show z
 .simp only[á] at d f;∎;let#[u,h,C]:=g.get (i:=j) (x:=xs[j]'⋯) ∅;let#[v,l,D]:=r2.get (i:=j) (x:=ys[j]'⋯) ∅;let#[_,m]:=Á.mp h;let#[_,n]:=Á.mp l;∎;have o:us.toArray[j]'(by simpa using d)=u:=by simpa using m
  have q:J.toArray[j]'(by simpa using f)=v:=by simpa using n
  rw[o,q];show r j _ _ u v ∅ ∅ C D
end
def Uy(a:aE `aE u)(r2:aE `bE v):Ľ Au s u v (decide<|i=j):=by
 have z:=nG (A:=Au) (s:=s) a r2 rfl rfl;have e:jo `aE `bE=decide (i=j):=by change (i == j)=_;rw[ab9]
 rw[e] at z;show z
def HS{P Q:V->V->Prop}(h:∀{x y},P x y->Q x y):∀{xs ys:ay},eI P xs ys->eI Q xs ys:=by
 intro xs
 induction xs with
 |nil=>intro ys h;cases ys with
  |nil=>show ô
  |cons _ _=>show h.elim
 |cons x xs a=>intro ys g;cases ys with
  |nil=>show g.elim
  |cons y ys=>show#[h g.1,a g.2]
def JB:∀{n:Nat}{x y:V},mn K H n x y->mn K H (n+1) x y:=by
 intro n
 induction n with
 |zero=>show λh=>.inl h
 |succ n f=>
  intro x y h;rcases h with h |⟨p,q,g,i,a,b,d,e⟩
  .show .inl h
  .show .inr ⟨p,q,g,i,a,b,d,HS f e⟩
def Ha(h:mn K H n x y)(k:n<=m):mn K H m x y:=by
 induction k with
 |refl=>show h
 |step _ a=>show JB a
def Ws(h:ug K H n ka kb):ug K H (n+1) ka kb:=#[h.1,λk v m=>by let#[y,a,b]:=h.2 k v m;show#[y,a,JB b]]
def ZI:∀{n:Nat}{x y:V},mY K H n x y->mY K H (n+1) x y:=by
 intro n
 induction n with
 |zero=>show λh=>.inl h
 |succ n j=>
  intro x y h;rcases h with h |⟨p,q,a,b,⟨o,r,g,i⟩ |⟨l,m,d,e,f⟩⟩
  .show .inl h
  .show .inr ⟨p,q,a,b,.inl ⟨o,r,g,HS j i⟩⟩
  .show .inr ⟨p,q,a,b,.inr ⟨l,m,d,e,Ws f⟩⟩
def Uz(h:mY K H n x y)(k:n<=m):mY K H m x y:=by
 induction k with
 |refl=>show h
 |step _ a=>show ZI a
end Vc
namespace L2
open PySem PySem.Spec PyProof.Rows
abbrev kH(env:Env)(cs:List (Str×ai))(y:Str×Ϥ):List (Str×ai):=if (y.2 == .free)=Â then (match env.cells.lookup y.1 with |some a=>(y.1,a)::cs |none=>cs) else cs
abbrev mC(a:Ω)(env:Env):List (Str×ai):=a.names.foldl `dg []
abbrev jE(a:Ω)(env:Env):Bool:=a.names.all λy=>!(y.2 == .free) || (env.cells.lookup y.1).isSome
def FQ(h:jE scope env=Â):closureFor scope env=pure (mC scope env):=by
 unfold closureFor mC;unfold jE at h;have gen:∀(l:List (Str×Ϥ))(b:List (Str×ai)),(l.all λy=>!(y.2 == .free) || (env.cells.lookup y.1).isSome)=Â->
   (forIn l b λx r=>match x with |(name,kind)=>if (kind == ł)=Â then (do let a <- cellOf env name;pure (Ű ((name,a)::r))) else pure (Ű r):Sem (List<|Str×ai))=pure (l.foldl `dg b):=by
  intro l
  induction l with
  |nil=>intro b _;rfl
  |cons y r i=>
   intro b f;rw[Χ,å] at f;let#[n,k]:=y;rw[List.forIn_cons,ab3];by_cases d:(k == ł)=Â
   .have h1:=f.1;simp only[d,Bool.not_true,al8] at h1;let#[a,e]:=Ź.mp h1;have g:kH env b (n,k)=(n,a)::b:=by unfold kH;simp[d,e]
    have j:cellOf env n=pure a:=by unfold cellOf;rw[e]
    rw[g,<- i _ f.2];simp only[d,if_true,j,pure_bind]
   .have g:kH env b (n,k)=b:=by unfold kH;simp[d]
    rw[g,<- i _ f.2];simp only[d,if_false,pure_bind,Ϻ]
 have:=gen scope.names [] h;simp only[this,pure_bind]
def qx(h:(mC scope env).lookup x=À c):env.cells.lookup x=À c:=by
 unfold mC at h;have gen:∀(l:List (Str×Ϥ))(b:List (Str×ai)),(b.lookup x=À c->env.cells.lookup x=À c)->(l.foldl `dg b).lookup x=À c->env.cells.lookup x=À c:=by
  intro l
  induction l with
  |nil=>intro b f g;show f g
  |cons y r i=>
   intro b f g;rw[ab3] at g;show i _ (λz=>?_) g;unfold kH at z;split at z
   .split at z
    .rename_i a e;rw[Ċ] at z;by_cases d:(x == y.1)=Â
     .rw[d] at z;have:=eq_of_beq d;subst this;simp at z;rw[<- z];show e
     .simp only[d] at z;show f z
    .show f z
   .show f z
 show gen scope.names [] (λz=>by cases z) h
def Hc(g:jE scope env=Â)(h:scope.names.lookup x=À .free):∃c,(mC scope env).lookup x=À c:=by
 unfold mC;unfold jE at g;have keep:∀(l:List (Str×Ϥ))(b:List (Str×ai)),(∃c,b.lookup x=À c)->∃c,(l.foldl `dg b).lookup x=À c:=by
  intro l
  induction l with
  |nil=>intro b f;show f
  |cons y r i=>
   intro b f;rw[ab3];show i _ ?_;unfold kH;split
   .split
    .rw[Ċ];by_cases d:(x == y.1)=Â
     .rw[d];show#[_,rfl]
     .simp only[d];show f
    .show f
   .show f
 have gen:∀(l:List (Str×Ϥ))(b:List (Str×ai)),(l.all λy=>!(y.2 == .free) || (env.cells.lookup y.1).isSome)=Â->l.lookup x=À .free->∃c,(l.foldl `dg b).lookup x=À c:=by
  intro l
  induction l with
  |nil=>intro b _ f;cases f
  |cons y r i=>
   intro b g f;rw[Χ,å] at g;let#[n,k]:=y;rw[ab3];rw[Ċ] at f;by_cases d:(x == n)=Â
   .rw[d] at f;have:=eq_of_beq d;subst this;simp at f;subst f;show keep r _ ?_;have j:(env.cells.lookup x).isSome=Â:=g.1;let#[a,e]:=Ź.mp j;show#[a,?_];unfold kH;rw[av4 (show ((ł) == ł)=Â from rfl)];dsimp only;rw[e];dsimp only;rw[Ċ,d]
   .simp only[d] at f;show i _ g.2 f
 show gen scope.names [] g h
def PQ(b:∀y∈a.names,y.2≠.cell)(h:(relabel a env).names.lookup x=À .cell\/(relabel a env).names.lookup x=À .free):a.names.lookup x=À .free:=by
 unfold relabel at h;dsimp only at h;have gen:∀l:List (Str×Ϥ),(∀y∈l,y.2≠.cell)->((l.map λ(n,k)=>if (k == ł&&env.scope.kind == .function&&env.kindOf n == À .cell) then (n,ac4) else (n,k)).lookup x=À .cell\/(l.map λ(n,k)=>if (k == ł&&env.scope.kind == .function&&env.kindOf n == À .cell) then (n,ac4) else (n,k)).lookup x=À .free)->l.lookup x=À .free:=by
  intro l
  induction l with
  |nil=>intro _ f;rcases f with f |f<;>cases f
  |cons y r m=>
   intro g f;let#[n,k]:=y;have i:k≠.cell:=g (n,k)<|ϐ ..;rw[ñ] at f;rw[Ċ];by_cases d:(x == n)=Â
   .rw[d];dsimp only at f ⊢;by_cases e:(k == ł&&env.scope.kind == .function&&env.kindOf n == À .cell)=Â
    .have:k=.free:=by
      simp only[å] at e;show eq_of_beq e.1.1
     rw[this]
    .rw[av3 e,Ċ,d] at f;simp only[Option.some.injEq] at f;rcases f with f |f
     .show av5 f i
     .rw[f]
   .simp only[d];show m (λy j=>g y<|Ĥ _ j) ?_;dsimp only at f;split at f<;>(rw[Ċ] at f;simp only[d] at f;show f)
 show gen a.names b h
inductive Wk:St->St->Prop
 |nil:Wk [] []
 |aN {a b:St} {x:Option V}:Wk a b -> Wk (Æ::a) (x::b)
 |yn {a b:St} {v:V}:Wk a b -> Wk (À v::a) (À v::b)
def Wk.length(h:Wk a b):↑b=↑a:=by
 induction h with
 |nil=>rfl
 |aN _ d=>simp[d]
 |yn _ d=>simp[d]
def Wk.get(h:Wk a b):∀{i:Nat}{v:V},a[i]?=À (À v)->b[i]?=À (À v):=by
 induction h with
 |nil=>intro i v e;simp at e
 |aN _ d=>
  intro i v e;cases i with
  |zero=>simp at e
  |succ i=>simpa using d (i:=i) (v:=v) (by simpa using e)
 |yn _ d=>
  intro i v e;cases i with
  |zero=>simpa using e
  |succ i=>simpa using d (i:=i) (v:=v) (by simpa using e)
def AI:∀a:St,Wk a a
 |[]=>.nil
 |none::a=>.aN<|AI a
 |some _::a=>.yn<|AI a
abbrev eF(ix:bC)(j:St):St:=ix.map λo=>match o with |none=>Æ |some i=>(j[i]?).getD Æ
abbrev bK(X:Cx)(sc:Ω):ah->bC->Prop
 |[],[]=>True
 |_::N,Æ::ix=>bK X sc N ix
 |x::N,À i::ix=>X.N[i]? = À x /\ X.env.kindOf x=À .cell /\ sc.names.lookup x=À .free /\ bK X sc N ix
 |_,_=>False
def bK.length:∀{N:ah}{ix:bC},bK X sc N ix->↑ix=↑N
 |[],[],_=>rfl
 |_::N,Æ::ix,h=>by rw[Ö,Ö,bK.length (X:=X) (sc:=sc) (N:=N) (ix:=ix) h]
 |_::N,À i::ix,h=>by rw[Ö,Ö,bK.length (X:=X) (sc:=sc) (N:=N) (ix:=ix) h.2.2.2]
 |[],_::_,h=>h.elim
 |_::_,[],h=>h.elim
def bK.get:∀{N:ah}{ix:bC}{j:Nat}{x:Str}{v:V},bK X sc N ix->N[j]?=À x->`dx[j]?=À (À v)->∃i:Nat,X.N[i]?=À x/\X.env.kindOf x=À .cell/\sc.names.lookup x=À .free/\G[i]?=À (À v)
 |_::N,Æ::ix,0,x,v,h,e1,e2=>by simp[eF] at e2
 |_::N,Æ::ix,j + 1,x,v,h,e1,e2=>bK.get (N:=N) (ix:=ix) (j:=j) h (by simpa using e1) (by simpa [eF] using e2)
 |y::N,À i::ix,0,x,v,h,e1,e2=>by
  simp at e1;subst e1;show#[i,h.1,h.2.1,h.2.2.1,?_];simp[eF] at e2;cases q:G[i]? with
  |none=>rw[q] at e2;simp at e2
  |some o=>rw[q] at e2;simp at e2;rw[e2]
 |y::N,À i::ix,j + 1,x,v,h,e1,e2=>bK.get (N:=N) (ix:=ix) (j:=j) h.2.2.2 (by simpa using e1) (by simpa [eF] using e2)
 |[],[],_,_,_,_,e1,_=>by simp at e1
 |[],_::_,_,_,_,h,_,_=>h.elim
 |_::_,[],_,_,_,h,_,_=>h.elim
def OV(h:scope.names.lookup x=À .free):(relabel scope env).names.lookup x=À .cell\/(relabel scope env).names.lookup x=À .free:=by
 unfold relabel;dsimp only;have gen:∀l:List (Str×Ϥ),l.lookup x=À .free->((l.map λ(n,k)=>if (k == ł&&env.scope.kind == .function&&env.kindOf n == À .cell) then (n,ac4) else (n,k)).lookup x=À .cell\/(l.map λ(n,k)=>if (k == ł&&env.scope.kind == .function&&env.kindOf n == À .cell) then (n,ac4) else (n,k)).lookup x=À .free):=by
  intro l
  induction l with
  |nil=>intro f;cases f
  |cons y r b=>
   intro f;let#[n,k]:=y;rw[Ċ] at f;rw[ñ];by_cases a:(x == n)=Â
   .rw[a] at f;simp at f;subst f;dsimp only;split
    .left;rw[Ċ,a]
    .right;rw[Ċ,a]
   .simp only[a] at f;dsimp only;split<;>(rw[Ċ];simp only[a];show b f)
 show gen scope.names h
abbrev cU(X:Cx)(a:Ω)(N:ah)(C:ai)(s:ao)(H:Hp)(fp:c6)(pl:aZ):Cx where
 prog:=X.prog
 w:=X.w
 K:=X.K
 mg:=X.mg
 base:=X.base
 A:=X.A
 N:=N
 s₀:=s
 H₀:=H
 env:=compEnvC a (mC a X.env) C X.env
 outer:=X.stack
 stack:=X.stack
 ex:=fp
 fn:=λ_=>Ç
 calm:=X.calm
 pn:=X.pn++pl
 xe:=λ_ _=>False
abbrev rj(Y:Cx)(a:b5)(t:TT):Prop:=
 ∀(aa:aZ)(s:ao)(j:St)(H:Hp)(Q:Bool->Hp->Prop),ax Y aa j H s->t j H Q->
  Ú (Ü Y.prog Y.w) Y.A (forIn a Â λc r=>if r=Â then do let ok <- al1 c Y.env (eval c Y.env);pure (Ű ok) else pure (Ű r)) (TP Y aa j Q) Y.xe s
abbrev FC:TT:=λ_ H Q=>Q Â H
def Wt:rj Y [] FC:=λ_ _ _ H _ I h=>wpAny_tests_nil #[H,I,h]
def HU(h:PT Y c t):rj Y [c] t:=λaa s j H Q I q=>wpAny_tests_one<|h aa s j H Q I q
def OW{R:Result->ao->Prop}(I:Nat->ao->Prop)(turn:∀n s,I n s->Ú `ae A (pyNext it) (λr b=>match r with
   |none=>R (.ok .next) b
   |some v=>Ú `ae A (ae2 target it v) (λ_ s₀=>Ú `ae A (assign target env v) (λ_ i=>
     Ú `ae A (forIn ifs Â λc r=>if r=Â then do let ok <- al1 c env (eval c env);pure (Ű ok) else pure (Ű r)) (λok d=>
      if ok=Â then Ú `ae A (eval elt env) (λx j=>
       Ú `ae A (call (.builtin "list.append") [acc,x]) (λ_ l=>∃m,m<n/\I m l) (ao8 `ae A env λe s'=>R `bl s') j) (ao8 `ae A env λe s'=>R `bl s') d
      else ∃m,m<n/\I m d) (ao8 `ae A env λe s'=>R `bl s') i) (ao8 `ae A env λe s'=>R `bl s') s₀) (ao8 `ae A env λe s'=>R `bl s') b) (ao8 `ae A env λe s'=>R `bl s') s)(n:Nat)(h:I n s):Ϧ `ae A (.compLoop (.ListComp elt [#[target,iter,ifs,0]] scope pos) 0 it acc env) R s:=by
 show codeAny_loop rfl I (λn s z=>?_) n h;change Ú _ A ((compTurn (.ListComp elt [#[target,iter,ifs,0]] scope pos) 0 it acc env).onRaise (λx=>do ag1 x env;theTreesLotGoes x)) _ _ s;show wpAny_noted ?_;rw[compTurn_list];show È<|Ϸ<|È<|Đ (turn n s z) (λr b f=>?_) λ_ _ a=>a;cases r with
 |none=>show Þ f
 |some v=>
  show È<|Đ f (λ_ s₀ o=>?_) λ_ _ a=>a;show È<|Đ o (λ_ i q=>È<|Đ q (λok d g=>?_) λ_ _ a=>a) λ_ _ a=>a;cases ok with
  |false=>show Þ #[rfl,g]
  |true=>
   show È<|È<|Đ g (λx j u=>È<|Đ u (λ_ l y=>Þ<|Þ #[rfl,y]) λ_ _ a=>a) λ_ _ a=>a
section
variable{X:Cx}{aa:aZ}{σ:St}{H:Hp}{s:ao}{scope:Ω}{N:ah}{fp:c6}{C:ai}
def Wu(I:ax X aa σ H s)(l:⇑s<=C)(i:∀b∈fp,jb X aa H b)(j:∀b∈fp,∃o,s.heap.get? b=À o)(f:scope.kind=.function)(d:∀y∈scope.names,y.2≠.cell)(g:jE scope X.env=Â):
  (cU X scope N C s H fp aa).Ok where
 mod:=I.ok.mod
 kind:=f
 glob:=I.ok.glob
 blt:=I.ok.blt
 above:=l
 inj:=λx y c m n=>I.ok.inj x y c (qx m)<|qx n
 has:=λx h=>Hc g<|PQ d h
 oM:=λx c h=>by cases h
 hd:=I.ok.hd
 frames:=I.ok.frames
 q0:=.inl rfl
 qM:=λb a=>#[λz=>by let#[o,e]:=j b a;have:=Ì e;subst z;show av5 (Õ this l)<|ĸ _,λx c e=>(i b a).2.2.2.2.1 x c<|qx e]
 bs:=I.bs
 kL:=Ï I.ok.kL I.sz
 iN:=λb o e a=>by
  rcases (i b a).2.2.2.1 with z |z
  .show I.ok.iN b o e z
  .show av5 (Õ (Ì e) (Ï I.ok.kL z)) (ĸ _)
 iH:=λb a hm=>by
  rcases ã.mp (I.f9 b hm) with z |z
  .show (i b a).2.1 z
  .show (i b a).2.2.1 z
 eA:=I.stack
 mS:=I.g7
def UA(I:ax X aa σ H s)(ok:(cU X scope N C s H fp aa).Ok)(w:⇑s<=C)(k:∀b o,s.heap.get? b=À o->h'.get? b=À o)(hn:h'.Ns C m)(g:bK X scope N ix)(a:jE scope X.env=Â):
  ax `cO [] `bd H { s with heap:=h',toks:=t' } where
 ok:=ok
 os:=rfl
 bare:=I.bare
 base:=Un.kept k
 loc:=#[m,hn,λi x v A B Q=>by
  ∎;let#[L,D,y,f,l]:=g.get A B;let#[U,_,G]:=I.loc;let#[u,r,look]:=G L x v D l<|.inr<|.inl y;∎;rcases look with⟨z,_⟩ |⟨_,c,E,o,h,hd⟩
  .rw[y] at z;cases z
  .obtain⟨c',hc'⟩:=Hc a f;have e:=qx hc';rw[E] at e;cases e;show#[u,r,.inr #[OV f,c,hc',o,k _ _ h,hd]]]
 cell:=λx c e=>by
  let#[v,o,h,hd]:=I.cell x c<|qx e;show#[v,o,k _ _ h,hd]
 free:=I.aS.fresh w
 cg:=λx c e=>I.cg x c<|qx e
 pin:=λp J=>by
  have j:p∈X.pn++aa:=by simpa [cU] using J
  let#[e,n,ne,M,d]:=I.pin p j;show#[k _ _ e,n,λz=>?_,λz=>?_,d]
  .have:=Ì e;have O:p.1=C:=z;rw[O] at this;show av5 (Õ this w)<|ĸ _
  .rcases ã.mp (I.f9 p.1 z) with q |q
   .show ne q
   .show M q
 aS:=I.aS.kept k
 len:=by
  have:=↑g;simp[eF,cU,this]
def R6{h:Hp}(I:ax X aa σ H s)(J:ax `cO pl σ' h s')(j:D=⇑s)(f:∀b∈fp,jb X aa H b)(m:s'.heap.PlainList D eG.toArray)(r:aH acc eG)(hz:↑acc<=Ò)(hn:h D=Æ):ax X aa σ (aU h D<|.af acc) s':=by
 have i:∀b o,s.heap.get? b=À o->b≠D:=λb o e z=>by rw[z,j] at e;show av5 (Ì e)<|ĸ _
 have a:H D=Æ:=I.aS.fresh (by rw[j];show Î _);show I.eO (ch:=fp) J.os #[J.base.keep,J.base.slot,λb o e n v=>?_,J.base.there,λb l e=>?_,λb o u e=>?_,λb w e=>?_] (λb u e=>?_) J.bare λb d=>#[(f b d).2.2.2.1,(f b d).2.1,(f b d).2.2.2.2.1,(f b d).2.2.2.2.2]
 .rw[ba<|i b o e];show J.base.free b o e n v
 .rw[ba<|kc e a];show J.base.eC b l e
 .rw[ba<|kc e a];show J.base.bz b o u e
 .obtain⟨mo,e2⟩:=J.base.e7 b w e;show#[mo,by rw[ba<|kc e a];show e2]
 .by_cases d:b=D
  .subst d;rw[dk] at e;cases e;let#[n,g]:=m;show#[hz,eG,n,r,g]
  .rw[ba d] at e;show (J.aS b u e).e5 (λ_ _ _ q=>q) (λc q=>by rw[ba<|kc q hn];show q) λc l q=>by rw[ba<|kc q hn];show q
end
abbrev qf(u:TI)(g:TG)(s:TT)(r:TE)(ix:bC):TE:=λj H Q=>u j H λJ n=>∃W:Nat->Nat->ay->Hp->Prop,(∃m,W 0 m [] n)/\∀i m a H,W i m a H->
 (J.stop i H/\↑a<=Ò/\∀p,H p=Æ->Q `am (aU H p<|.af a))\/
 (J.go i H/\∃N:ay->Hp->Prop,(∀d e,N d e->∃l,l<m/\W (i+1) l d e)/\∀x e,J.nZ i H x e->g x `cF e λf o=>Wk `cF f/\s f o λb h=>if b=Â then r f h λv q=>↑a<Ò/\N (a++[v]) q else N a h)
section
variable{X:Cx}{elt target iter:ě}{ifs:b5}{scope:Ω}{pos:Pos}{N:ah}{ix:bC}{wi:TI}{g:TG}{ti:TT}{te:TE}
def Hd{Q:VK}{RR:ar->ai->Result->ao->Prop}{tn:Nat->aW->Prop}(hc:X.calm=Â)(hg:∀C s H fp pl,PG `aj target g)(ht:∀C s H fp pl,rj `aj ifs ti)(he:∀C s H fp pl,PE `aj elt te)(ε:scope.kind=.function)(δ:∀y∈scope.names,y.2≠.cell)(π:jE scope X.env=Â)(hpk:bK X scope N ix)(I2:ax X aa j O a)(T:mB X.prog X.w X.K target J fp it tn)(st2:tn 0 a.heap)(f2:∀b∈fp,jb X aa O b)(h:∃W:Nat->Nat->ay->Hp->Prop,(∃m,W 0 m [] O)/\∀i m f H,W i m f H->
   (J.stop i H/\↑f<=Ò/\∀p,H p=Æ->Q `am (aU H p<|.af f))\/
   (J.go i H/\∃N:ay->Hp->Prop,(∀ξ M,N ξ M->∃m',m'<m/\W (i+1) m' ξ M)/\∀x M,J.nZ i H x M->g x `cF M λj2 O=>Wk `cF j2/\ti j2 O λb H3=>if b=Â then te j2 H3 λv H4=>↑f<Ò/\N (f++[v]) H4 else N f H3))(hR:∀(D C:ai)(s':ao)(M:Hp)(m:br),ax X aa j M s'->s'.heap.Ns C m->M C=Æ->⇑a<=C->Q (.ref D) M->RR (.ref D) C (.ok .next) s'):
  Ú `ab X.A (newList []) (λf U=>Ú `ab X.A (newFunctionEnv scope X.env.globals (mC scope X.env) [] X.env.qual Æ .none (À X.env)) (λο s₄=>
   Ϧ `ab X.A (.compStart (.ListComp elt [#[target,iter,ifs,0]] scope pos) 0 `cB f { ο with scope:=relabel scope X.env }) (RR f ο.locals) s₄) E U) E a:=by
 let#[W,#[m0,w0],turn]:=h;show aj6 (wpAny_newFunctionEnv δ (by intro y hy;simp at hy) (λβ L G=>?_) ε);dsimp only at L G ⊢;generalize τ:a.heap.push { cls:=.type "list",dict:=Æ,data:=.seq ([]:aT).toArray }=P2 at L G ⊢;have hC:P2.objs.size=⇑a+1:=by rw[<- τ,Α]
 have κ:⇑a≠P2.objs.size:=by rw[hC];show é<|Ŷ _
 have γ:⇑a<=P2.objs.size:=by rw[hC];show ai4 _
 have Y:∀b,b<⇑a->b≠P2.objs.size/\b≠⇑a:=λb l=>#[by rw[hC];show é<|Ģ l,é l]
 have old:∀b o,a.heap.get? b=À o->β.get? b=À o:=λb o e=>G.extBut b o (Y b<|Ì e).1<|Ã _<|τ ▸ Ã _ e
 have hacc:β.PlainList ⇑a ([].toArray):=#[_,G.extBut _ _ κ<|Ã _<|τ ▸ Ô _ rfl]
 have hfo:∀b∈fp,∃o,a.heap.get? b=À o:=λb l=>let ⟨o,e,_⟩:=T.obj 0 _ st2 b l;#[o,e]
 have υ:⇑a ∉ fp:=λhm=>by let#[o,e]:=hfo _ hm;show av5 (Ì e)<|ĸ _
 have ok:=Wu (N:=N) (C:=P2.objs.size) I2 γ f2 hfo ε δ π;have st1:tn 0 β:=T.keep 0 _ _ st2 λb _ o e=>old b o e
 have J0:=UA (t':=a.toks+([]:List (Str×ar)).length) (ix:=ix) I2 ok γ old L hpk π;have pnD:∀p∈X.pn++aa,p.1≠⇑a:=λp hp=>(Y _<|Ì (I2.pin p hp).1).2
 have σ:∀x c,(mC scope X.env).lookup x=À c->c≠⇑a:=λx c e=>by
  let#[v,o,ho,_]:=I2.cell x c<|qx e;show (Y _<|Ì ho).2
 have θ:∀{pl:aZ}{M:Hp},(∀b∈fp,M b=Æ)->(∀p∈pl,p.1=⇑a)->∀b∈fp,jb `ai pl M b:=λ{pl M} hn hp b l=>by
  show#[hn b l,(ok.qM b l).1,ok.iH b l,.inl l,(ok.qM b l).2,λp hm=>?_];rcases Ê.mp hm with z |z
  .show (f2 b l).2.2.2.2.2 p z
  .rw[hp p z];intro q;rw[q] at υ;show υ l
 have ρ:∀U:Shared,U={ a with heap:=β,toks:=a.toks+([]:List (Str×ar)).length }->
   Ϧ `ab X.A (.compLoop (.ListComp elt [#[target,iter,ifs,0]] scope pos) 0 `cB (.ref ⇑a)<|compEnvC scope (mC scope X.env) P2.objs.size X.env) (RR (.ref ⇑a) P2.objs.size) U:=by
  rintro U rfl;show OW (λn s'=>∃i f I j' M,ax `ai [] j' M s'/\Wk `cF j'/\tn i s'.heap/\(∀b∈fp,M b=Æ)/\s'.heap.PlainList ⇑a (aa5 I)/\aH f I/\M ⇑a=Æ/\W i n f M) ?_ m0
   #[0,[],[],_,O,J0,AI _,st1,λb l=>(f2 b l).1,hacc,.nil,I2.aS.fresh<|Î _,w0]
  intro n s3 zy;let#[i,f,I,j3,H3,I3,wk3,st3,ω,pl3,ν,χ,w3]:=zy;let#[kk,g3]:=id pl3;have ψ:ax `ai [(⇑a,#[.type "list",Æ,.seq (aa5 I) kk,([].toArray)])] j3 H3 s3:=I3.fN λp hp=>by
   have e:=è.mp hp;subst e;show#[g3,χ,κ,λz=>?_,λv q=>by cases q];let#[_,o,ho,_]:=(I2.stack).mem z;show av5 (Ì ho)<|ĸ _
  have α:∀p∈[((⇑a,⟨.type "list",Æ,.seq (aa5 I) kk,([].toArray)⟩):ai×Obj)],p.1=⇑a:=λp hp=>by
   rw[è.mp hp]
  rcases turn i n f H3 w3 with⟨stop,hlen,fin⟩ |⟨go,NN,hNN,step⟩
  .show Đ (T.done (cU X scope N P2.objs.size a O fp aa) rfl rfl rfl hc i _ s3 j3 H3 _ ψ (θ ω α) st3 stop) (λr s4 h4=>?_) λ_ _ z=>z
   let#[hr,I4]:=h4;subst hr;have g4:=(I4.pin (⇑a,_)<|Ĉ _<|è.mpr rfl).1;let#[mm,hnm,_]:=I4.loc;have B:=R6 I2 I4 rfl f2 #[kk,g4] ν hlen χ;show hR _ _ s4 _ mm B hnm ?_ γ<|fin _ χ;rw[ba<|đ κ];show I4.free
  .show Đ (T.item `ai rfl rfl rfl hc i _ s3 j3 H3 _ ψ (θ ω α) st3 go) (λr s4 h4=>?_) λ_ _ z=>z
   let#[u,hr,h4]:=h4;subst hr;show Đ h4 (λ_ s5 h5=>?_) λ_ _ z=>z
   let#[x,H5,I5,r5,y5,μ,fr5]:=h5;have I5w:=I5.weak wk3.length.symm<|λi v e=>wk3.get e;have I5':=I5w.pinned (fp:=fp) (θ fr5 α)<|T.obj _ _ μ;show Đ (hg P2.objs.size a O fp aa _ s5 _ H5 x u _ I5' r5<|step x H5 y5) (λ_ s6 h6=>?_) λ_ _ z=>z.elim
   let#[j6,H6,I6,wk6,q6]:=h6;show Đ (ht P2.objs.size a O fp aa _ s6 j6 H6 _ I6 q6) (λok s7 h7=>?_) λ_ _ z=>z.elim
   let#[H7,I7,q7]:=h7;have η:∀{j8:St}{H8:Hp}{s8:ao},ax `ai ([((⇑a,#[.type "list",Æ,.seq (aa5 I) kk,([].toArray)]):ai×Obj)]++tT fp s5.heap) j8 H8 s8->
     (∀b∈fp,∀o,s5.heap.get? b=À o->s8.heap.get? b=À o)/\(∀b∈fp,H8 b=Æ):=λ{j8 H8 s8} I8=>by
    show#[λb l o e=>(I8.pin (b,o)<|Ĉ _<|Ĉ _<|wU l e).1,λb l=>?_];let#[o,e,d]:=T.obj _ _ μ b l;show (I8.pin (b,o)<|Ĉ _<|Ĉ _<|wU l e).2.1
   have ι:∀{j8:St}{H8:Hp}{s8:ao}{pl:aZ},ax `ai pl j8 H8 s8->ax `ai [] j8 H8 s8:=λI8=>I8.fN λp hp=>by cases hp
   cases ok with
   |false=>
    simp only[Ϻ,if_false] at q7 ⊢;let#[m',hm,w7]:=hNN _ _ q7;have p7:=I7.pin (⇑a,_)<|Ĉ _<|ū _<|è.mpr rfl;let#[k1,k2]:=η I7;show#[m',hm,i+1,f,I,j6,H7,ι I7,wk6,T.keep _ _ _ μ k1,k2,#[kk,p7.1],ν,p7.2.1,w7]
   |true=>
    simp only[if_true] at q7 ⊢;show Đ (he P2.objs.size a O fp aa _ s7 j6 H7 _ I7 q7) (λy s8 h8=>?_) λ_ _ z=>z.elim
    ∎;let#[v,H8,I8,r8,hlt,q8]:=h8;let#[m',hm,w8]:=hNN _ _ q8;∎;have p8:=I8.pin (⇑a,_)<|Ĉ _<|ū _<|è.mpr rfl;let#[k1,k2]:=η I8;have hl:=↑ν;show wpAny_list_append_plain (items:=aa5 I) (hsz:=by rw[á,<- hl];show ň hlt) #[kk,p8.1] λh₅ φ ζ=>?_
    have I9:ax `ai [] j6 H8 { s8 with heap:=h₅ }:=(ι I8).turned (t':=s8.toks) (it:=⇑a) (λb o l e=>ζ.extBut b o l e) p8.2.1 κ (.inr<|Î _) σ (λp hp=>by
     have hp':p∈X.pn++aa:=by simpa [cU] using hp
     show pnD p hp')
    show#[m',hm,i+1,f++[v],I++[y],j6,H8,I9,wk6,T.keep _ _ _ μ λb l o e=>ζ.extBut b o (λz=>υ<|z ▸ l)<|k1 b l o e,k2,?_,ν.append<|.cons r8 .nil,p8.2.1,w8];have e:(I++[y]).toArray=I.toArray.push y:=by simp
    rw[e];show φ
 show codeAny_compStart_list (ρ _ rfl)<|T.self X.A 0 _ _ _ st1<|ρ _ rfl
def xu(hc:X.calm=Â)(hi:PI X target iter wi)(hg:∀C s H fp pl,PG `aj target g)(ht:∀C s H fp pl,rj `aj ifs ti)(he:∀C s H fp pl,PE `aj elt te)(z:bK X scope N ix)(a:do scope.kind=.function)(l: ~~~(∀y∈scope.names,y.2≠.cell))(f: ~~~(∀x∈scope.names,x.2=.local->scope.names.lookup x.1=À .local))(i:do jE scope X.env=Â)(hs:∀x,Ė iter X.env x=pure x:=by intro _;rfl):PE X (.ListComp elt [#[target,iter,ifs,0]] scope pos) `ep:=by
 intro aa s j H Q I h;rw[eval_ListComp];show at1 (use:=Æ) rfl hs (FQ i) a f ?_;show bu `ca λv s1 O=>bu O λα s2 U=>?_
 let#[it,fp,tn,J,H2,e,n,T,G,M,h]:=U;subst e;show Hd (RR:=λr C=>compPost `ab X.A X.xe Æ `av r C) hc hg ht he a l i z n T G M h ?_;intro D C s' L m B hn u d q;show#[m,hn,λh' E=>#[.ref D,L,B.turned (t':=s'.toks) (it:=C) (λb o Y e=>E.extBut b o Y e) u (ŷ<|Õ n.lt d) (.inr<|Ï n.sz d) (λx c e=>?_)<|λp hp=>?_,rfl,q]]
 .obtain⟨v,o,ho,_⟩:=n.cell x c e;show é<|Õ (Ì ho) d
 .show é (Õ (Ì (n.pin p hp).1) d)
def HV(hN:X.N.Nodup)(β:X.N[i]?=À y)(hy:Loc X.env.scope y)(hc:X.calm=Â)(hi:PI X target iter wi)(hg:∀C s H fp pl,PG `aj target g)(ht:∀C s H fp pl,rj `aj ifs ti)(he:∀C s H fp pl,PE `aj elt te)(M:bK X scope N ix)(α:ĳ (.ListComp elt [#[target,iter,ifs,0]] scope pos) (À<|.Name y py) spos.line X.env=pure Â:=by with_unfolding_all rfl)(d:do scope.kind=.function)(r: ~~~(∀y∈scope.names,y.2≠.cell))(l: ~~~(∀x∈scope.names,x.2=.local->scope.names.lookup x.1=À .local))(n:do jE scope X.env=Â)(hs:∀x,Ė iter X.env x=pure x:=by intro _;rfl)(hf:kW X y:=by first |show .inl rfl |show .inr rfl |assumption):PS X (.Assign [.Name y py] (.ListComp elt [#[target,iter,ifs,0]] scope pos) spos) (nB `ep<|kG i):=by
 intro aa s j H D I h;rw[exec_Assign_Name_used _ _ _ _ α];show È<|Ϸ<|È ?_;change Ú _ X.A (do let _ <- comprehension (.ListComp elt [⟨target,iter,ifs,0⟩] scope pos) scope X.env _ (newList []) Ç (eval iter X.env) (À (assign (.Name y py) X.env))) _ _ s;show È<|Đ (at1 (use:=À<|assign (.Name y py) X.env) (Q:=λ_ E=>SP X aa D .next E) rfl hs (FQ n) d l ?_) (λ_ E hq=>Þ<|Þ hq) λ_ _ e=>e;show bu `ca λv s1 h1=>bu h1 λδ s2 h2=>?_
 let#[it,fp,tn,J,H2,e,u,T,γ,f2,h]:=h2;subst e;show Hd (Q:=λx H1=>kG i x j H1 D.nx) (RR:=λG C=>compPost `ab X.A X.xe (À<|assign (.Name y py) X.env) (λ_ E=>SP X aa D .next E) G C) hc hg ht he d r n M u T γ f2 h ?_;intro Dd C E H' m B hn L f q;change Ú _ X.A (assign (.Name y py) X.env<|.ref Dd) _ _ _;have cC:∀x c,X.env.cells.lookup x=À c->c≠C:=λx c e=>by
  let#[v,o,ho,_]:=u.cell x c e;show é<|Õ (Ì ho) f
 have lC:X.env.locals≠C:=é<|Õ u.lt f;show wpAny_assign_Name<|GH (v:=.ref Dd) B hN β hy rfl (λs4 I4 Y=>?_) hf;let#[a,U,ha]:=Y;have nC:C≠a:=by
  rcases ha with z |z
  .rw[z];show đ lC
  .show đ (cC _ _ z)
 show#[m,hn.sameBut U nC,λh' O=>#[_,H',I4.turned (t':=s4.toks) (it:=C) (λb o hb e=>O.extBut b o hb e) L (đ lC) (.inr<|Ï u.sz f) cC<|λp hp=>?_,q]];show é<|Õ (Ì (u.pin p hp).1) f
end
section
variable{g:TG}{ti:TT}{te:TE}{ix:bC}{σ:St}{Q:VK}
abbrev yQ(J:It)(g:TG)(ti:TT)(te:TE)(ix:bC)(σ:St)(Q:VK)(l:Hp):Prop:=∃W:Nat->Nat->ay->Hp->Prop,(∃m,W 0 m [] l)/\∀i m a H,W i m a H->
 (J.stop i H/\↑a<=Ò/\∀p,H p=Æ->Q `am (aU H p<|.af a))\/
 (J.go i H/\∃N:ay->Hp->Prop,(∀d f,N d f->∃j,j<m/\W (i+1) j d f)/\∀x f,J.nZ i H x f->g x `bd f λe n=>Wk `bd e/\ti e n λb h=>if b=Â then te e h λv o=>↑a<Ò/\N (a++[v]) o else N a h)
def BY(Pv:Nat->ay->Hp->Prop)(u:Pv 0 [] H1)(j:∀i a H,i<n->Pv i a H->J.go i H)(l:∀a H,Pv n a H->J.stop n H)(hs:∀i x a H h,i<n->Pv i a H->J.nZ i H x h->g x `bd h λf r=>Wk `bd f/\ti f r λb o=>if b=Â then te f o λv s=>↑a<Ò/\Pv (i+1) (a++[v]) s else Pv (i+1) a o)(hd:∀a H,Pv n a H->↑a<=Ò/\∀p,H p=Æ->Q `am (aU H p<|.af a)):yQ J g ti te ix σ Q H1:=by
 show#[λi m a H=>m=n - i/\i<=n/\Pv i a H,#[n,by simp,Ĺ _,u],?_];rintro i m a H ⟨rfl,z,p⟩;by_cases d:i<n
 .show .inr #[j i a H d p,Pv<|i+1,λq h w=>#[n - (i+1),⋯,rfl,d,w],λx h y=>hs i x a H h d p y]
 .have e:i=n:=⋯
  subst e;show .inl #[l a H p,hd a H p]
end
section
variable{X:Cx}
abbrev FD:V->bT->bT->Hp->VK->Prop:=λx lo a H Q=>∃z,x=.str z/\↑z<=Ò/\Q (.str<|Txt.slice z lo a) H
def ZJ:n7 X FD:=by
 intro aa s G H x v A B lo o y Q I w d r m h;∎;let#[z,rfl,e,q]:=h;let#[t,rfl]:=(show ∃t,v=ad6 z t from w);∎;show#["str",_,F.slot_str_getitem.lookup,typeIs_str _ _ _,?_];have a:∀(g:Tok)(k:Nat),EP X aa G Q (.str (Txt.slice z lo o) g) { s with toks:=k }:=λg k=>#[.str _,H,I.tok k,#[g,rfl],q]
 cases r with
 |none=>
  cases m with
  |none=>show Ϛ (l:=Æ) (u:=Æ) (st:=Æ) d rfl<|ae3 #[Ï (ag8 z _ _) e,λb k=>a b k]
  |int j f=>show Ϛ (l:=Æ) (u:=À (j,f)) (st:=Æ) d rfl<|ae3 #[Ï (ag8 z _ _) e,λb k=>a b k]
 |int i n=>
  cases m with
  |none=>show Ϛ (l:=À (i,n)) (u:=Æ) (st:=Æ) d rfl<|ae3 #[Ï (ag8 z _ _) e,λb k=>a b k]
  |int j f=>show Ϛ (l:=À (i,n)) (u:=À (j,f)) (st:=Æ) d rfl<|ae3 #[Ï (ag8 z _ _) e,λb k=>a b k]
end
abbrev vw(lo c:Int)(n:Nat):It:=#[λi _=>i<n,λi H x a=>a=H/\x=.int (lo+i*c),λi _=>n<=i]
def PR{P:ê}{w:Ă}{K:PySem.W.Frag}{N:ě}(it:ai)(lo c:Int)(n:Nat):mB P w K N (vw lo c n) [it] it (λi h=>am3 h it (lo+(i:Nat)*c) ((n:Int) - (i:Nat)) c) where
 mem:=by simp
 obj:=λi h st b a=>by
  have e:b=it:=by simpa using a
  subst e;show#[_,st,λv z=>by
   have O:Data.fields _=Data.cell v:=z;cases O]
 keep:=λi h f st k=>k it ∅ _ st
 item:=by
  intro X y C x A i aa s j H E I g st B;subst y C x;let#[l,m,J,q,r,u]:=g it ∅;have W:=Walks.range (prog:=X.prog) (w:=X.w) `cC it lo c n;show W.item i s _ _ B st λv f D L d M=>?_
  let#[t,rfl]:=L;have G:ax X aa j H { s with heap:=f,toks:=D }:=I.turned (λb o a e=>M b o (by simpa using a) e) l m q r u;show#[_,rfl,uS (s:={ s with heap:=f,toks:=D }) (n:="range_iterator") d rfl rfl ∎ #[.int<|lo+i*c,H,G,#[t,rfl],#[rfl,rfl],d,λb a=>(g b a).1]]
 done:=by
  intro X y C x A i aa s j H E I g st B;subst y C x;let#[l,m,J,q,r,u]:=g it ∅;show av2 `cC st (by have:n<=i:=B;omega) λf eb=>#[rfl,I.turned (t':=s.toks) (λb o a e=>eb b o a e) l m q r u]
 self:=λ_ _ _ _ _ st h=>av1 st h
abbrev Cn(d:bW)(e:ai)(h:aW):Prop:=∃o vs,h.get? e=À o/\o.data=.fields vs/\vs[2]?=À .none/\o.dict=d
def Cn.keeps{d:bW}{e:ai}{h h':aW}(c:Cn d e h)(k:∀o,h.get? e=À o->h'.get? e=À o):Cn d e h':=
 let ⟨q,vs,h1,h2⟩:=c;#[q,vs,k q h1,h2]
def Wv(o:Obj)(f:cS->cS):(ş f o).dict=o.dict:=by
 unfold ş;split<;>rfl
def Cn.aU{d:bW}{e b:ai}{h:aW}{i:Nat}{v:ar}(c:Cn d e h)(l:b≠e\/i≠2):Cn d e (h.update b (ş (·.setIfInBounds i v))):=by
 let#[o,vs,a,f,g,j]:=c;by_cases z:b=e
 .subst z;have d:=Δ f (·.setIfInBounds i v);show#[_,_,Ē _ a<|ac5 d,d,?_,(Wv _ _).trans j];rw[af3<|l.resolve_left λq=>q rfl];show g
 .show#[o,vs,by rw[ü _ _ z];show a,f,g,j]
section
variable{M:Model}{A:ą}{E:ar->ao->Prop}{s:ao}{base:aW}{env:Env}{outer:cK}{L e:ai}{d:bW}
def JC{o:Obj}{vs:cS}{g a0:ar}{hn:Bool}{Q:Unit->ao->Prop}(fr:A.frames=À (env::outer))(l:s.heap.FunFrames base (env::outer))(N:env.frame=À L)(x:s.heap.get? e=À o)(U:base.StaysIn s.heap)(J:base.get? e=Æ)(hd:o.data=.fields vs)(hz:1<vs.size)(O:vs[0]?=À a0)(c:Cn d e s.heap)(h:∀k,Heap.NotedW base (env::outer) e o.cls a0 (ad7 L) s.heap k->Cn d e k->Q () { s with heap:=k }):
  Ú M A (do let a <- frameOf env;let q <- entryPlaceOf L hn;let b <- ak9 g a .none (ad7 L) .none q;setField `bk 1 b) Q E s:=by
 have y:∀b u,s.heap.get? b=À u->(∀vs,u.data≠.fields vs)->b≠e:=λb u z n w=>by rw[w,x] at z;cases z;show n vs hd
 show È<|wpAny_frameOf_fun fr l N λf r=>È<|wpAny_entryPlaceOf λq D=>?_;unfold ak9 newFields;show È<|aj6 ?_<|D.sizeOk5 _ _ _ _ _;have v:f.get? e=À o:=(r.2.1 e λm=>by let#[_,u,z,n]:=l.mem m;show y e u z n rfl).trans x;have B:base.StaysIn f:=λb u z=>(r.2.1 b λm=>by rw[(l.mem m).1] at z;cases z).trans<|U b u z
 have G:Cn d e f:=c.keeps λu z=>by rw[x] at z;cases z;show v
 generalize i:({ cls:=.type "traceback",dict:=Æ,data:=.fields ([g,.ref L,.none,ad7 L,.none]++(if q.isEmpty then Ë 6 Ŧ else q)).toArray }:Obj)=new;have C:=Ã (h:=f) new v;have H:Cn d e (f.push new):=G.keeps λu z=>Ã new z
 have ne:f.objs.size≠e:=ŷ<|Ì v;have j:=Δ hd (·.setIfInBounds 1 `bI);have I:=Ē (ş (·.setIfInBounds 1 `bI)) C<|ac5 j;have Y:=(ü (f.push new) (ş (·.setIfInBounds 1 `bI)) ne.symm).trans (Ô f (by rw[<- i];rfl));have kp:∀b u,b≠e->f.get? b=À u->((f.push new).update e (ş (·.setIfInBounds 1 `bI))).get? b=À u:=λb u n z=>by
  rw[ü _ _ n.symm];show Ã _ z
 show ar0 C hd hz (h _ #[λb u z=>kp b u (λw=>by rw[w,J] at z;cases z)<|B b u z,l.of_keeps λb u z n=>?_,#[_,_,_,_,_,I,#[Obj.cls_mapFields _ _,by rw[af3 ∎];show O],j,by simp[hz],B.fresh,ne,Y,by rw[<- i],?_],λb u z n=>?_]<|H.aU<|.inr ∎)
 .obtain⟨sl,w⟩:=r.2.2 b u z;show#[_,kp b _ `cG w,rfl]
 .first |(simp;done) |(rcases D with rfl |⟨_,_,_,_,_,_,_,rfl⟩<;>simp)
 .obtain⟨sl,w⟩:=r.2.2 b u z;show#[sl,kp b _ `cG w]
def Gq{a a0:ar}{Q:Unit->ao->Prop}(fr:A.frames=À (env::outer))(B:s.heap.FunFrames base (env::outer))(j:env.frame=À L)(t:s.heap.TracedW base e a a0)(G:base.StaysIn s.heap)(y:base.get? e=Æ)(c:Cn d e s.heap)(h:∀k,Heap.NotedW base (env::outer) e a a0 (ad7 L) s.heap k->Cn d e k->Q () { s with heap:=k }):Ú M A (ag1 `bk env) Q E s:=by
 let#[o,vs,T,p,H,l,#[rfl,C],m,q,D,ne,g,i,r]:=t;unfold ag1;simp only[j];show È<|am7 l m q ?_;rw[av4<|by simp];show È<|am7 g i r ?_;rw[av3<|by simp[ad7]];show È<|ar0 g i (ť.mp r).1 ?_;have f:∀b u,b≠T->s.heap.get? b=À u->(s.heap.update T (ş (·.setIfInBounds 3 Ŧ))).get? b=À u:=λb u n z=>(ü _ _ n.symm).trans z
 have v:∀b u,s.heap.get? b=À u->(∀vs,u.data≠.fields vs)->b≠T:=λb u z n w=>by rw[w,g] at z;cases z;show n H i
 show JC fr (B.of_keeps λb u z n=>#[u,f b u (v b u z n) z,rfl]) j (f e o ne.symm l) (λb u z=>f b u (λw=>by rw[w,D] at z;cases z)<|G b u z) y m (ť.mp q).1 C (c.aU<|.inl ne)
  λk x=>h k #[x.1,x.2.1,x.2.2.1,λb u z n=>x.2.2.2 b u (f b u (v b u z n) z) n]
def xv{l:cK}{a a0 C:ar}{Q:Unit->ao->Prop}(H:base.StaysIn s.heap)(B:s.heap.FunFrames base l)(t:s.heap.TracedAtW base e a a0 C)(c:Cn d e s.heap)(h:∀k,base.StaysIn k->k.FunFrames base l->k.TracedW base e a a0->(∀b o,s.heap.get? b=À o->(∀vs,o.data≠.fields vs)->k.get? b=À o)->Cn d e k->Q () { s with heap:=k }):Ú M A (al3 `bk Æ) Q E s:=by
 let#[o,vs,T,p,I,m,G,q,r,v,ne,j,g,D]:=t;have x:=(ť.mp D).1;unfold al3;show È<|am7 m q r ?_;rw[av4<|by simp];have i:∀b u,b≠T->s.heap.get? b=À u->(s.heap.update T (ş (·.setIfInBounds 3 ((Æ:bW).elim Ŧ λf=>ad7 f)))).get? b=À u:=λb u n z=>(ü _ _ n.symm).trans z
 have y:∀b u,s.heap.get? b=À u->(∀vs,u.data≠.fields vs)->b≠T:=λb u z n w=>by rw[w,j] at z;cases z;show n I g
 show ar0 j g x (h _ (λb u z=>i b u (λw=>by rw[w,v] at z;cases z)<|H b u z) (B.of_keeps λb u z n=>#[u,i b u `cG z,rfl])
  #[o,vs,T,_,_,i e o ne.symm m,G,q,r,v,ne,Ē _ j<|ac5<|Δ g _,Δ g _,by simp[x]] (λb u z n=>i b u `cG z) (c.aU<|.inl ne))
def OZ{f a0:ar}{Q:Unit->ao->Prop}(fr:A.frames=À (env::outer))(j:s.heap.FunFrames base (env::outer))(l:env.frame=À L)(t:s.heap.TracedW base e f a0)(o:base.StaysIn s.heap)(i:base.get? e=Æ)(c:Cn d e s.heap)(h:∀k,Heap.LeftW base (env::outer) e f a0 s.heap k->Cn d e k->Q () { s with heap:=k }):Ú M A (leaving env<|.ref e) Q E s:=by
 unfold leaving;show È (Gq fr j l t o i c λk x q=>xv x.1 x.2.1 x.2.2.1 q λm a b v g r=>h m #[a,b,v,λb u z n=>let ⟨sl,w⟩:=x.2.2.2 b u z n;#[sl,g b _ w n]] r)
def FU{o:Obj}{vs:cS}{a0:ar}{Q:Unit->ao->Prop}(fr:A.frames=À (env::outer))(m:s.heap.FunFrames base (env::outer))(i:env.frame=À L)(f:s.heap.get? e=À o)(B:base.StaysIn s.heap)(l:base.get? e=Æ)(hd:o.data=.fields vs)(j:vs[1]?=À .none)(r:vs[0]?=À a0)(v:vs[2]?=À .none)(h:∀k,Heap.LeftW base (env::outer) e o.cls a0 s.heap k->Cn o.dict e k->Q () { s with heap:=k }):Ú M A (leaving env<|.ref e) Q E s:=by
 unfold leaving ag1;simp only[i];show È<|È<|am7 f hd j ?_;rw[av3 ∎];show JC fr m i f B l hd (ť.mp j).1 r #[o,vs,f,hd,v,rfl] λk x q=>xv x.1 x.2.1 x.2.2.1 q λy a b D g C=>h y #[a,b,D,λb u z n=>let ⟨sl,w⟩:=x.2.2.2 b u z n;#[sl,g b _ w n]] C
def R7{a a0:ar}{Q:Unit->ao->Prop}(fr:A.frames=À (env::outer))(g:env.frame=À L)(f:aa7 base (env::outer) e a a0 s.heap)(c:Cn d e s.heap)(h:∀k,Heap.HeldW base (env::outer) e a a0 L k->s.heap.UpToSlots k->Cn d e k->Q () { s with heap:=k }):Ú M A (ag1 `bk env) Q E s:=
 Gq fr f.2.2.1 g f.2.2.2 f.1 f.2.1 c λk b q=>h k #[b.1,f.2.1,b.2.1,b.2.2.1] b.2.2.2 q
def ZK{l:cK}{a a0:ar}{Q:Unit->ao->Prop}(f:Heap.HeldW base l e a a0 L s.heap)(c:Cn d e s.heap)(h:∀k,aa7 base l e a a0 k->s.heap.UpToSlots k->Cn d e k->Q () { s with heap:=k }):Ú M A (al3 `bk Æ) Q E s:=
 xv f.1 f.2.2.1 f.2.2.2 c λk g i j m q=>h k #[g,f.2.1,i,j] (λb o n hn=>#[o.slots,m b o n hn]) q
def ZL{l:cK}{a a0:ar}{Q:Unit->ao->Prop}(f:aa7 base l e a a0 s.heap)(c:Cn d e s.heap)(h:∀k,aa7 base l e a a0 k->s.heap.UpToSlots k->Cn d e k->Q () { s with heap:=k }):Ú M A (al3 `bk Æ) Q E s:=
 xv f.1 f.2.2.1 f.2.2.2.at c λk g i j m q=>h k #[g,f.2.1,i,j] (λb o n hn=>#[o.slots,m b o n hn]) q
end
abbrev ra(e h:aW)(H:Hp)(x:ai)(a:ar)(d:bW):Prop:=
 e.get? x=Æ/\H x=Æ/\∃g b vs T oT f,e.get? T=Æ/\H T=Æ/\h.get? x=À b/\b.cls=a/\vs[0]?=À g/\b.data=.fields vs/\vs[1]?=À (.ref T)/\T≠x/\h.get? T=À oT/\oT.data=.fields f/\f[3]?=À .none/\Cn d x h
abbrev gc(P:ê)(w:Ă):gB:=λouter H s E e b=>∃x a d f,e=.ref x/\b.os=s.os/\aa6 b.gens/\Un (cO outer) [] H f s.heap b.heap/\dG P w f b.heap/\ra s.heap b.heap f x a d/\E a d f
def bc.has(x:bc P w H h a o):∃u,h.get? a=À u:=by
 cases o with
 |af d=>let#[_,_,_,_,e]:=x;show#[_,e]
 |aF d=>let#[_,_,_,u,e,_]:=x;show#[_,e]
 |dK b=>let#[_,_,_,_,u,_,_,e,_]:=x;show#[_,e]
 |dT b=>let#[_,_,_,_,u,_,_,e,_]:=x;show#[_,e]
 |set S n=>let#[u,_,_,_,e,_]:=x;show#[_,e]
 |ins C g fs=>let#[_,_,_,e,_]:=x;show#[_,e]
 |own y=>show x
 |xd fs=>let#[_,#[u,_,_,e,_],_]:=x;show#[_,e]
 |yj lo i=>let#[_,_,_,e]:=x;show#[_,e]
 |aC j u=>let#[e,_]:=x;show#[_,e]
 |pM l=>show#[_,x]
 |met f y=>show#[_,x]
 |ext m=>show x.2.1
def JD{P:ê}{w:Ă}{fs fr l bad:c6}{H a:Hp}{h i j:aW}(u:Un fs [] H a h i)(aS:dG P w a i)(N:∀b∈l,b∈bad\/b∈fr)(G:∀b∈bad,h.get? b=Æ/\a b=Æ)(m:∀b∈fr,(b∈fs\/h.get? b=Æ)/\a b=Æ/\∃o,i.get? b=À o/\∀vs,o.data≠.fields vs)(J:∀b∈fs,b∈fr)(k:(ž i l).StaysIn j)(sm:i.UpToSlots j):
  Un fs [] H a h j/\dG P w a j/\∀x y d a0,j.TracedW (ž i l) x y a0->Cn d x j->h.get? x=Æ->a x=Æ->ra h j a x y d:=by
 have gt:∀b o,i.get? b=À o->b ∉ bad->b ∉ fr->j.get? b=À o:=λb o e U Y=>k b o<|aq4 _ e λz=>(N b z).elim U Y
 have O:∀b o,h.get? b=À o->b ∉ bad:=λb o e z=>by rw[(G b z).1] at e;cases e
 have slots:∀b o,b∈fr->i.get? b=À o->∃D,j.get? b=À { o with slots:=D }:=λb o g e=>by
  let#[_,_,A,f,d]:=m b g;rw[e] at f;cases f;show sm b o e d
 have tr:∀b u,a b=À u->b ∉ bad/\b ∉ fr:=λb u e=>#[λz=>(by rw[(G b z).2] at e;cases e),λz=>(by rw[(m b z).2.1] at e;cases e)]
 show#[#[λb o e n g s=>?_,λb o e n g s=>?_,λb o e n s=>u.free b o e n s,λb o e s=>?_,u.eC,u.bz,u.e7],λb v e=>?_,λx y d a0 Q I s E=>?_]
 .show gt b o (u.keep b o e n g s) (O b o e) λz=>?_
  rcases (m b z).1 with q |q
  .show g q
  .rw[e] at q;cases q
 .obtain⟨D,e1⟩:=u.slot b o e n g s;let#[L,B]:=slots b _ (J b g) e1;show#[L,B]
 .obtain⟨A,e1⟩:=u.there b o e s;by_cases g:b∈fr
  .obtain⟨D,B⟩:=slots b A g e1;show#[_,B]
  .show#[A,gt b A e1 (O b o e) g]
 .show (aS b v e).e5 (λc o C q=>?_) (λ_ q=>q) λ_ _ q=>q
  rcases C with rfl |C
  .show gt c o q (tr c v e).1 (tr c v e).2
  .show gt c o q (tr c _ C).1 (tr c _ C).2
 .obtain⟨oe,vs,T,oT,ts,t1,⟨t2,t3⟩,t4,t5,t6,t7,t8,t9,t10⟩:=Q;have M:h.get? T=Æ/\a T=Æ:=by
   cases q:i.get? T with
   |none=>
    show#[?_,?_]
    .cases r:h.get? T with
     |none=>rfl
     |some o=>let#[A,f]:=u.there T o r ∅;rw[q] at f;cases f
    .cases r:a T with
     |none=>rfl
     |some v=>let#[A,f]:=(aS T v r).has;rw[q] at f;cases f
   |some o=>
    by_cases hm:T∈l
    .rcases N T hm with z |z
     .show G T z
     .obtain⟨D,B⟩:=slots T o z q;let#[_,_,A,f,d]:=m T z;rw[q] at f;cases f;rw[t8] at B;cases B;show av5 t9<|d ts
    .have:=aq4 _ q hm;rw[t6] at this;cases this
  show#[s,E,a0,oe,vs,T,oT,ts,M.1,M.2,t1,t2,t3,t4,t5,t7,t8,t9,t10,I]
def ra.mf{H:Hp}(f:ra h0 h H x cls d):∃T a0,h0.get? T=Æ/\H T=Æ/\∀l:c6,T∈l->h.TracedW (ž h l) x cls a0:=by
 let#[_,_,a0,g,vs,T,oT,v,i,j,m,n,o,q,r,s,u,a,b,_]:=f;show#[T,a0,i,j,λl e=>#[g,vs,T,oT,v,m,#[n,o],q,r,Ϝ _ e,s,u,a,b]]
def ra.cn{H:Hp}(f:ra h0 h H x cls d):Cn d x h:=by
 let#[_,_,e,g,vs,T,oT,u,i,j,l,m,n,o,q,r,s,a,b,c]:=f;show c
section
variable{X:Cx}{aa:aZ}{σ:St}{H:Hp}{s:ao}
def xw:∀env∈l,∀a,env.frame=À a->a∈cO l:=λenv b a d=>œ.mpr #[env,b,d]
def ax.Gi(I:ax X aa σ H s):∀b∈cO X.stack,(b∈X.fs\/X.s₀.heap.get? b=Æ)/\H b=Æ/\∃o,s.heap.get? b=À o/\∀vs,o.data≠.fields vs:=λb a=>by
 show#[?_,I.g7 b a,(I.stack.mem a).2];rcases ã.mp (I.f9 b a) with e |e
 .show .inr (by rw[e];show Ņ I.ok.above)
 .show .inl e
def Bm{E:XK}{x:ai}{a:ar}{d:bW}(hs:X.stack=X.env::X.outer)(o:X.env.frame=À X.env.locals)(j:X.ex=[])(I:ax X aa σ H s){l bad:c6}{f:aW}(q:∀b∈l,b∈bad\/b∈cO X.stack)(h:∀b∈bad,X.s₀.heap.get? b=Æ/\H b=Æ)(k:(ž s.heap l).StaysIn f)(sm:s.heap.UpToSlots f){a0:ar}(ht:f.TracedW (ž s.heap l) x a a0)(i:Cn d x f)(r:X.s₀.heap.get? x=Æ)(g:H x=Æ)(e:E a d H):gc X.prog X.w X.outer X.H₀ X.s₀ E `aZ { s with heap:=f }:=by
 have m:=I.base;rw[j] at m;let#[u,ok,n]:=JD m I.aS q h I.Gi (λb h=>by rw[hs];unfold cO;rw[Ř,o];show Ĥ _ h) k sm;show#[x,a,d,H,rfl,I.os,I.bare,u,ok,n x a d a0 ht i r g,e]
abbrev rn(X:Cx)(E:XK):Prop:=X.xe=λe d=>Ú `ab X.A (leaving X.env e) (λ_ a=>gc X.prog X.w X.outer X.H₀ X.s₀ E e a) (λb a=>gc X.prog X.w X.outer X.H₀ X.s₀ E b a) d
def Lx{E:XK}(hs:X.stack=X.env::X.outer)(i:X.env.frame=À X.env.locals)(h:X.ex=[])(r:rn X E):qa `aG X E:=by
 intro aa σ H s e v I G;let#[x,A,d,y,rfl,os,bare,un,aS,f,B]:=G;have J:ax X aa σ y v:=I.eO (ch:=[]) os un aS bare (λb z=>av5 z<|by simp);have up:∀b,s.heap.get? b=Æ->X.s₀.heap.get? b=Æ:=λb z=>by
  cases q:X.s₀.heap.get? b with
  |none=>rfl
  |some o=>let#[Y,u]:=I.base.there b o q (by rw[h];simp);rw[z] at u;cases u
 let#[T,Q,j,D,n]:=f.mf;rw[r];have m:∀env∈X.env::X.outer,∀a,env.frame=À a->a∈x::T::cO X.stack:=λenv L a i=>.tail _ (.tail _ (by rw[hs];show xw env L a i))
 show OZ (base:=ž v.heap (x::T::cO X.stack)) (by rw[J.ok.frames,hs]) (ab5 (hs ▸ J.stack) m) i (n _<|.tail _<|.head _) (λb o q=>ad1 _ q)
  (Ϝ _<|.head _) f.cn λU C l=>?_
 let#[M,_,N,O]:=C;show Bm hs i h J (bad:=[x,T]) (λb g=>by
  rcases ã.mp g with z |g
  .show .inl (by rw[z];show .head _)
  .rcases ã.mp g with z |g
   .show .inl (by rw[z];show .tail _ (.head _))
   .show .inr g) (λb g=>by
  rcases ã.mp g with z |g
  .rw[z];show#[up _ f.1,f.2.1]
  .have z:b=T:=by simpa using g
   rw[z];show#[up _ j,D]) M O N l (up _ f.1) f.2.1 B
end
def Ww{K:aq}{h:aW}{C:ai}{a:aT}{newId:String}(X:K.In h)(q:ac9 K C a newId=Â):
  ∃bm N nm f bs hd sn sub ab col dd k0 k1 k2 k3 k5 mN,h.get? C=À (aa8 nm f C N bs bm hd sn sub ab col dd k0 k1 k2 k3 k5 newId)/\h.Ns N mN/\mN "__init__"=Æ/\OwnTail h a bm:=by
 unfold ac9 at q;split at q
 case h_2=>cases q
 case h_1 ddc cdc slc hlook=>
  split at q
  case h_2=>cases q
  case h_1 Cc bmc k0 k1 k2 k3 nn k5 hmro hslots=>
   simp only[å,beq_iff_eq,au0] at q;∎;let#[#[#[#[#[i,j],d],l],b],e]:=q;let#[nm,bs,m,ns,f,hd,sn,sub,ab,col,g]:=cdc;∎;dsimp only at hmro d b e;let#[n]:=slc;simp only at hslots;subst i j d hmro hslots;show#[_,_,_,_,_,_,_,_,_,_,_,_,_,_,_,_,_,X _ _ hlook,.of_isNs<|W.isNs_of_in X b,W.nsMap_none_of_in X b e,W.tail_of_in X l]
abbrev Eh(C:ai)(E:XK)(b:TE):TS:=λ_ j H=>b j H λ_ a=>E `ah Æ a
section
variable{X:Cx}
def UB{E:XK}{x:Str}{np g pos:Pos}{f:ě}{te:TE}{C:ai}{B newId i:String}{n:aT}(hs:X.stack=X.env::X.outer)(M:X.env.frame=À X.env.locals)(G:X.ex=[])(δ:rn X E)(m:X.calm=Â)(hg:Gl X x)(hm:X.mg x=À `ah)(FB:ExcBaseFacts B newId i n)(hq:ac9 X.K C n newId=Â)(Y:PE X f te)(U: ~~~(dY x))(L:do fA f [] X.env)(γ:do gq g [] X.env):
  PS X (.Raise (À<|.Call (.Name x np) [f] [] g) Æ pos) (Eh C E te):=by
 intro aa s j H D I h;let#[bm,N,nm,qn,bs,hd,sn,sub,ab,col,dd,k0,k1,k2,k3,k5,mN,hC,hN,β,T]:=Ww I.ok.mod.nU hq;show wpAny_Raise_call_subT (C:=C) (nm:=nm) (q:=qn) (N:=N) (bs:=bs) (bm:=bm) (hdct:=hd) (sn:=sn) (sub:=sub) (ab:=ab) (col:=col) (dd:=dd) (k0:=k0) (k1:=k1) (k2:=k2) (k3:=k3) (k5:=k5)
  FB (mN:=mN) (T.hasType FB.hasBase) (I.ok.hd m) (by rw[L];change (Ç || (Ϗ g (ē [] X.env)).any (·.1))=Ç;rw[γ];rfl) β (oH I hg hm #[rfl,?_] U)
 rw[L];show ac3 ?_;show ļ ?_;show bu (Y aa s j H _ I h) λu s1 ε=>?_
 let#[v,O,l,_,q1]:=ε;show Ş ?_;show#[rfl,by change (1:Nat)<=Ò;decide,l.bk _ _ hC,hN.keeps l.bk,T.keeps l.bk,λh' e d=>?_];let#[t,ht,ζ,η]:=d.there;have J:ax X aa j O { s1 with heap:=h' }:=l.eO (ch:=[]) rfl (Un.kept d.keeps) (l.aS.kept d.keeps) l.bare (λb z=>av5 z<|by simp);have up:∀b,s1.heap.get? b=Æ->X.s₀.heap.get? b=Æ:=λb z=>by
  cases q:X.s₀.heap.get? b with
  |none=>rfl
  |some o=>let#[o',w]:=l.base.there b o q (by rw[G];simp);rw[z] at w;cases w
 have y:O e=Æ:=by
  cases r:O e with
  |none=>rfl
  |some v=>let#[o',w]:=(l.aS e v r).has;rw[d.new] at w;cases w
 rw[δ];have α:∀env∈X.env::X.outer,∀a,env.frame=À a->a∈e::cO X.stack:=λenv Y a M=>.tail _ (by rw[hs];show xw env Y a M)
 show FU (base:=ž h' (e::cO X.stack)) (a0:=.ref t) (by rw[J.ok.frames,hs]) (ab5 (hs ▸ J.stack) α) M ht (λb o q=>ad1 _ q)
  (Ϝ _<|.head _) rfl rfl rfl rfl λh2 hL Q=>?_
 let#[l1,_,l3,l4]:=hL;show Bm hs M G J (bad:=[e]) (λb A=>by
  rcases ã.mp A with z |A
  .show .inl (by rw[z];show .head _)
  .show .inr A) (λb A=>by
  have z:b=e:=by simpa using A
  rw[z];show#[up _ d.new,y]) l1 l4 l3 Q (up _ d.new) y q1
end
section
variable{P:ê}{w:Ă}{K:aq}{mg:br}{base:aW}
def iO.Cp{x a:Str}{st:Ā}{f:ai}{g:į}{N ps:ah}{k:Nat}{sp:Sp}(F:iO K x a st f g)(S:bX N ps `bb)(len:∀vs H Q E,sp vs H Q E->↑vs=↑ps)(b:∀(bS:ar)(A:ą)(outer:cK)(s:ao)(H:Hp)(vs:ay)(Q:VK)(E:XK),bD k (A.deeper<|Ĝ a (bx st) ⇑s f bS)->sp vs H Q E->
   ∃t,fR (kI `bt P w K mg base N a `bb f bS A outer s H E) `bN t/\t { nx:=λ_ h=>Q .aN h,rt:=Q } `bh H):aK P w K mg base `bt (k+1) f g ps sp:=by
 let#[oc,od,kV,doc,pm,an,bS,ct,osl,rfl,j,d]:=F.ex;show Kq j d S len λA outer s H vs Q E i e=>b bS A outer s H vs Q E i e
end
section
variable{X:Cx}
abbrev kg(CX:gB)(X:Cx)(j:St)(E:XK):Prop:=∀(aa:aZ)(H:Hp)(s:ao)(e:ar)(a:ao),ax X aa j H s->CX X.stack H s E e a->X.xe e a
abbrev Ei(sp:Sp)(a:ay)(R:St->XK)(t:TA):TE:=λj H Q=>t j H λvs b=>sp (vs++a) b Q<|R j
variable{CX:gB}{k:Nat}{f:ai}{fd:į}{ps:ah}{sp:Sp}{dvs:ay}{ds:aT}{x:Str}{p pos:Pos}{e:ě}{es:b5}{t:TA}
def AJ(F:aK X.prog X.w X.K X.mg X.base CX k f fd ps sp)(g:bD k X.A)(b:Binds X.K fd ps ds)(hd:aH dvs ds)(i:kg CX X j E)(I:ax X aa j H s)(r:aH vs us)(h:sp (vs++dvs) H Q E):Ú `ab X.A (call `ax us) `av X.xe s:=by
 have r2:=r.append hd;have d:(us++ds).length=↑ps:=↑r2 ▸ F.len _ _ _ _ h;show ad9<|Ξ (F.run X.A X.stack s H #[us,[]] (us++ds) (vs++dvs) Q E g I.nQ (b s us I.dh d) r2 h) λr l a=>?_
 match r,a with
 |.error e,a=>show i aa H s e l I a
 |.ok (.ret u),a=>show I.after a
 |.ok .next,a=>show a.elim
 |.ok .brk,a=>show a.elim
 |.ok .cont,a=>show a.elim
def UC{R:St->XK}(F:aK X.prog X.w X.K X.mg X.base CX k f fd ps sp)(u:bD k X.A)(n:Gl X x)(hm:X.mg x=À `ax)(o:ώ X.K `ax=Â)(l:Binds X.K fd ps ds)(hd:aH dvs ds)(v:∀j,kg CX X j<|R j)(i:PA X (e::es) t)(a: ~~~(dY x))(m:do fA e es X.env)(b:do gq pos es X.env):PE X (.Call `aP (e::es) [] pos) (Ei sp dvs R t):=by
 intro aa s j H Q I h;show Ħ<|oH I n hm ?_ a;show ac8 (h₀:=X.base) I.ok.mod.nU o (bu `aT λus z d=>by let#[vs,y,g,r,q]:=d;show#[g.dh,AJ F u l hd (v j) g r q]) m b
nonrec abbrev Cx.cY(X:Cx)(pn:aZ)(xe:ar->ao->Prop):Cx:={ X with pn:=pn,xe:=xe }
def Cx.Ok.cY(ok:X.Ok)(pn:aZ)(xe:ar->ao->Prop):(X.cY pn xe).Ok:=
 #[ok.mod,ok.kind,ok.glob,ok.blt,ok.above,ok.inj,ok.has,ok.oM,ok.hd,ok.frames,ok.q0,ok.qM,ok.bs,ok.kL,ok.iN,ok.iH,ok.eA,ok.mS]
def ax.vb(I:ax X aa j H s)(xe:ar->ao->Prop):ax (X.cY (X.pn++aa) xe) [] j H s:=
 #[I.ok.cY _ xe,I.os,I.bare,I.base,I.loc,I.cell,I.free,I.cg,by rw[Č];show I.pin,I.aS,I.len]
def ax.j4(ok:X.Ok)(I:ax (X.cY (X.pn++aa) xe) more j H s):ax X aa j H s:=
 #[ok,I.os,I.bare,I.base,I.loc,I.cell,I.free,I.cg,λp a=>I.pin p<|ū _ a,I.aS,I.len]
nonrec abbrev Cx.bG(X:Cx)(v:ar):Cx:={ X with A:=X.A.mark<|À v,calm:=Ç,xe:=λ_ _=>False }
def ax.bG(I:ax X aa j H s)(v:ar):ax `eq aa j H s:=
 #[#[I.ok.mod,I.ok.kind,I.ok.glob,I.ok.blt,I.ok.above,I.ok.inj,I.ok.has,I.ok.oM,λz=>Bool.noConfusion z,I.ok.frames,I.ok.q0,I.ok.qM,I.ok.bs,I.ok.kL,I.ok.iN,I.ok.iH,I.ok.eA,I.ok.mS],
  I.os,I.bare,I.base,I.loc,I.cell,I.free,I.cg,I.pin,I.aS,I.len]
def ax.jw(ok:X.Ok)(I:ax `eq aa j H s):ax X aa j H s:=
 #[ok,I.os,I.bare,I.base,I.loc,I.cell,I.free,I.cg,I.pin,I.aS,I.len]
def SP.imp(q:SP Y pins' D fl s)(h:∀j H,ax Y pins' j H s->ax X aa j H s):SP X aa D fl s:=by
 cases fl with
 |next=>let#[b,a,I,q]:=q;show#[b,a,h _ _ I,q]
 |brk=>let#[b,a,I,q]:=q;show#[b,a,h _ _ I,q]
 |cont=>let#[b,a,I,q]:=q;show#[b,a,h _ _ I,q]
 |ret u=>let#[v,b,a,I,r,q]:=q;show#[v,b,a,h _ _ I,r,q]
end
end L2
namespace L2
open PySem PySem.Spec PyProof.Rows PySem.W Builtin Builtin.ObjectAttr Builtin.Getset_descriptor
structure i8(K:ac7)(C:ai):Prop where
 fg:ċ K `ah "__getattribute__"=À (À<|.builtin "BaseException.__getattribute__")
 fn:ċ K `ah "__getattr__"=À Æ
 fc:ċ K `ah "__class__"=À (À<|.builtin "object.__class__")
 mo:mroIn K C (.type "object")=À Â
 sb:subIn K `ah (.type "BaseException")=À Â
abbrev gn(x C:ai)(h:aW):Prop:=∃o,h.get? x=À o/\o.cls=.ref C
def gn.ty(p:gn x C h):Looks M h (typeOf<|.ref x) `ah:=by
 let#[o,a,b]:=p;rw[<- b];show (Looks.ld a).andThen .now
section
variable{prog:ê}{w:Ă}{A:ą}{E:ar->ao->Prop}{K:ac7}{h:aW}{g:Array ap9}{d:Drawn}{t:Nat}{os:OsState}{x C:ai}
def R9{Q:Unit->ao->Prop}(Z:i8 K C)(X:K.In h)(I:gn x C h)(j:Q () #[h,g,d,t,os]):
  Ú M A (checkBuiltinCall "BaseException.__getattribute__" #[[.ref x,nameV],[]]) Q E #[h,g,d,t,os]:=by
 have f:builtinKind "BaseException.__getattribute__"=À .slot:=by decide +kernel
 have a:splitId "BaseException.__getattribute__"=À ("BaseException","__getattribute__"):=by decide +kernel
 have i:=F.args_bexc_ga `aZ nameV;have b:=I.ty (M:=M);have e:=looks_subIn (M:=M) X Z.sb;simp only[checkBuiltinCall,f,a];show È ?_;unfold isInstance;show È<|b.at<|e.at ?_
 repeat (any_goals (first |assumption |wp_step))
end
abbrev mR(x C:ai)(d:bW):HO:=.ext λh=>gn x C h/\Cn d x h
def ZM(p:gn x C h)(cn:Cn d x h):bc P w H h x (mR x C d):=by
 show#[#[p,cn],?_,λa b q k=>?_]
 .obtain⟨o,e,_⟩:=p;show#[o,e]
 .obtain⟨⟨o,e,c⟩,n⟩:=q;show#[#[o,k o e,c],n.keeps k]
end L2
namespace L2
open PySem PySem.Spec PyProof.Rows
def ZN:qa `bt X E0:=λ_ _ _ _ _ _ _ a=>by let#[_,_,_,_,_,_,_,_,_,_,h]:=a;show h.elim
section
variable{X:Cx}
def ax.gone{s:ao}{n:Str}(I:ax X aa G H s)(w:X.N.Nodup)(B:X.N[i]?=À n)(hm:s.heap.Ns X.env.locals m)(C:∀(j:Nat)(x:Str)(v:V),X.N[j]?=À x->G[j]?=À (À v)->pW X.env.scope x->∃u,aE v u/\Fe X.env s.heap m x u)(hn:h'.Ns X.env.locals (λx=>if x=n then v else m x))(hs:ϳ X.env.locals s.heap h'):ax X aa (G.set i Æ) H { s with heap:=h',toks:=tk }:=by
 have apart:∀b o,X.s₀.heap.get? b=À o->b≠X.env.locals:=λb o e=>é<|Õ (Ì e) I.ok.above
 show#[I.ok,I.os,I.bare,#[λb o e q f d=>(hs.2 b<|apart b o e).trans<|I.base.keep b o e q f d,λb o e q f d=>?_,I.base.free,λb o e d=>?_,I.base.eC,I.base.bz,I.base.e7],
  #[_,hn,λj y J h a l=>?_],λy c e=>?_,I.free,I.cg,λp D=>?_,λb u e=>?_,by rw[û];show I.len]
 .obtain⟨sl,z⟩:=I.base.slot b o e q f d;show#[sl,(hs.2 b<|apart b o e).trans z]
 .obtain⟨o',z⟩:=I.base.there b o e d;show#[o',(hs.2 b<|apart b o e).trans z]
 .have hj:i≠j:=λz=>by
   subst z;rw[Μ] at a;split at a
   .split at a<;>cases a
   .rename_i q;show q rfl
  rw[î hj] at a;let#[u,r,q]:=C j y J h a l;show#[u,r,q.imp (λq=>#[q.1,?_]) λg=>by let#[k,c,e,z]:=g;show#[k,c,e,z.sameBut hs<|I.nL y c e]];have E:y≠n:=λz=>hj<|Ah w B<|z ▸ h
  change (if y=n then v else m y)=_;rw[av3 E];show q.2
 .obtain⟨u,z⟩:=I.cell y c e;show#[u,z.sameBut hs<|I.nL y c e]
 .obtain⟨e,q,ne,r⟩:=I.pin p D;show#[(hs.2 p.1 ne).trans e,q,ne,r]
 .show (I.aS b u e).e5 (λc o A q=>(hs.2 c ?_).trans q) (λ_ q=>q) λ_ _ q=>q
  rintro rfl;rcases A with z |z
  .rw[<- z,I.free] at e;cases e
  .rw[I.free] at z;cases z
abbrev Ends.less(D:Ends)(i:Nat):Ends:={ nx:=λj H=>D.nx `dy H,rt:=D.rt,bk:=λj H=>D.bk `dy H,ct:=λj H=>D.ct `dy H }
abbrev yM(K:aq)(C:ai)(i:Nat)(b:ai->TS)(D:Ends):St->XK:=λj a o H=>W.exmOne K a `ah=À Â/\∃B,a=.ref B/\∀y,H y=Æ->b y `cS (j.set i<|À<|.ref y) (aU H y<|mR y B o)
abbrev Nx(K:aq)(C:ai)(i:Nat)(a:TS)(D:Ends):St->XK:=yM K C i (λ_=>a) D
abbrev Ej(K:aq)(C:ai)(i:Nat)(tb:(St->XK)->TS)(a:TS):TS:=λD j H=>tb (Nx K C i a D) D j H
abbrev Ng(K:aq)(C:ai)(i:Nat)(tb:(St->XK)->TS)(a:ai->TS):TS:=λD j H=>tb (yM K C i a D) D j H
def Sa{tb:(St->XK)->TS}(hs:X.stack=X.env::X.outer)(hf:X.env.frame=À X.env.locals)(hg:Gl X x)(hm:X.mg x=À `ah)(hN:X.N.Nodup)(hi:X.N[i]?=À n)(hn:X.env.scope.names.lookup n=À .local)(d:∀(pn:aZ)(xe:ar->ao->Prop)(R:St->XK),(∀j,kg `aG `ba j<|R j)->fR `ba body (tb R)){th:ai->TS}(hh:∀y:Ψ,fR (X.bG<|.ref y) (G::suite)<|th y)(τ: ~~~(dY x)):
  PS X (.Try body [.ExceptHandler (À<|.Name x np) (À n) (G::suite) hpos] [] [] pos) (Ng X.K C i tb th):=by
 intro aa s j H D I h;show wpAny_Try_except ?_;have ζ:∀Y,kg `aG (X.cY (X.pn++aa) λe κ=>Ú `ab X.A (ag1 e X.env) (λ_ μ=>Ú `ab X.A (al3 e Æ)
   (λ_ ν=>Ú `ab X.A (handleBy e X.env [.ExceptHandler (À<|.Name x np) (À n) (G::suite) hpos]) `dQ X.xe ν) X.xe μ) X.xe κ) Y (yM X.K C i th D Y):=by
  intro Y pins' H1 s1 e r I1 hc;let#[y,cls,o,E,rfl,os,bare,un,aS,f,β,B,rfl,hth]:=hc;have J1:ax X aa Y H1 s1:=ax.j4 I.ok I1;have J2:ax X aa Y E r:=J1.eO (ch:=[]) os un aS bare (λb z=>av5 z<|by simp);let#[T,a0,σ,hT,htr]:=f.mf;have υ:∀env∈X.env::X.outer,∀a,env.frame=À a->a∈y::T::cO X.stack:=λenv he a hf=>.tail _ (.tail _ (by rw[hs];show xw env he a hf))
  have ρ:aa7 (ž r.heap (y::T::cO X.stack)) (X.env::X.outer) y (.ref B) a0 r.heap:=
   #[λb o q=>ad1 _ q,Ϝ _<|.head _,ab5 (hs ▸ J2.stack) υ,htr _<|.tail _<|.head _]
  have on:∀h2:Heap,(ž r.heap (y::T::cO X.stack)).StaysIn h2->r.heap.UpToSlots h2->Un `cr [] H1 E s1.heap h2/\dG X.prog X.w E h2:=λh2 k sm=>by
   let#[u,ok,_]:=JD (fs:=cO X.stack) (fr:=cO X.stack) (bad:=[y,T]) un aS (λb d=>by
    rcases ã.mp d with z |d
    .show .inl (by rw[z];show .head _)
    .rcases ã.mp d with z |d
     .show .inl (by rw[z];show .tail _ (.head _))
     .show .inr d) (λb d=>by
    rcases ã.mp d with z |d
    .rw[z];show#[f.1,f.2.1]
    .have z:b=T:=by simpa using d
     rw[z];show#[σ,hT]) (λb d=>#[.inl d,(J2.Gi b d).2]) (λ_ d=>d) k sm
   show#[u,ok]
  show R7 (by rw[I.ok.frames,hs]) hf ρ f.cn λh4 U θ ξ=>?_
  show ZK U ξ λh5 Q ι ο=>?_
  have o5:=on h5 Q.1<|θ.trans ι;have J5:ax X aa Y E { r with heap:=h5 }:=J1.eO (s':={ r with heap:=h5 }) (ch:=[]) os o5.1 o5.2 bare (λb z=>av5 z<|by simp);show wpAny_handleBy_cons (codeAny_handlers_test ?_) (by intro q;cases q);show oH (X:=X.bG<|.ref y) (J5.bG<|.ref y) hg hm ?_ τ;let#[ob,ψ,ω]:=Q.there;show (W.exm_one (M:=Ü X.prog X.w) J5.dh (show W.Looks _ h5 (typeOf<|.ref y) (.ref B) from gn.ty #[ob,ψ,ω]) β).here ?_;show codeAny_handlers_suite_as<|ZL Q ο λh6 α sm6 π=>?_;have g:=on h6 α.1<|(θ.trans ι).trans sm6;let#[ob6,δ,ε]:=α.there;have ne:∀b o,E b=À o->b≠y:=λb o q z=>by rw[z,f.2.1] at q;cases q
  have un6:Un `cr [] H1 (aU E y<|mR y B o) s1.heap h6:=
   #[g.1.keep,g.1.slot,λb o e q hx=>by rw[ba (λz=>by rw[z,f.1] at e;cases e)];show g.1.free b o e q hx,g.1.there,λb xs q=>by rw[ba<|ne b _<|g.1.eC b xs q];show g.1.eC b xs q,
    λb o u q=>by rw[ba<|ne b _<|g.1.bz b o u q];show g.1.bz b o u q,λb ps q=>by
     let#[η,z]:=g.1.e7 b ps q;show#[η,by rw[ba<|ne b _ z];show z]]
  have ok6:dG X.prog X.w (aU E y<|mR y B o) h6:=λb o q=>by
   by_cases z:b=y
   .subst z;rw[dk] at q;cases q;show ZM #[ob6,δ,ε] π
   .rw[ba z] at q;show (g.2 b o q).e5 (λ_ _ _ e=>e) (λc e=>by rw[ba<|ne c _ e];show e) λc xs e=>by rw[ba<|ne c _ e];show e
  have J6:ax X aa Y (aU E y<|mR y B o) { r with heap:=h6 }:=J1.eO (s':={ r with heap:=h6 }) (ch:=[]) os un6 ok6 bare (λb z=>av5 z<|by simp);show uw (X:=X.bG<|.ref y) (v:=.ref y) (J6.bG<|.ref y) hN hi (.inl hn) rfl (λs7 J7=>?_)<|.inr hn;show Đ (hh y aa s7 _ _ _ J7<|hth y f.2.1) (λfl s8 q=>?_) λ_ _ z=>z.elim
  have go:∀{j8:St}{L:Hp}{R:Unit->ao->Prop},ax (X.bG<|.ref y) aa j8 L s8->(∀s9,ax X aa (j8.set i Æ) L s9->R () s9)->Ú `ab X.A (do aq6 X.env n .none;unbindBehindTheSuite X.env n hpos) R X.xe s8:=by
   intro j8 L R l hR;have J:=ax.jw I.ok l;let#[m,γ,φ]:=J.loc;show wpAny_nameGoes_keeps hn γ (by rw[I.ok.kind];rfl) λh9 v χ hs9=>hR _<|J.gone hN hi γ φ χ hs9
  match fl,q with
  |.next,⟨j8,L,l,q⟩=>show go l λs9 O=>#[_,_,O,q]
  |.brk,⟨j8,L,l,q⟩=>show go l λs9 O=>#[_,_,O,q]
  |.cont,⟨j8,L,l,q⟩=>show go l λs9 O=>#[_,_,O,q]
  |.ret u,⟨v,j8,L,l,rv,q⟩=>show go l λs9 O=>#[v,_,_,O,rv,q]
 show Đ (d _ _ _ ζ [] s j H D (I.vb _) h) (λfl s1 q=>?_) λ_ _ z=>z
 have q':SP X aa D fl s1:=q.imp λj H J=>ax.j4 I.ok J
 cases fl with
 |next=>show Ε q'
 |brk=>show q'
 |cont=>show q'
 |ret u=>show q'
def UD{tb:(St->XK)->TS}(hs:X.stack=X.env::X.outer)(f:X.env.frame=À X.env.locals)(g:Gl X x)(hm:X.mg x=À `ah)(d:X.N.Nodup)(l:X.N[i]?=À n)(hn:X.env.scope.names.lookup n=À .local)(e:∀(pn:aZ)(xe:ar->ao->Prop)(R:St->XK),(∀j,kg `aG `ba j<|R j)->fR `ba body (tb R))(h:∀v:ϥ,fR `eq (a::suite) th)(b: ~~~(dY x)):
  PS X (.Try body [.ExceptHandler (À<|.Name x np) (À n) (a::suite) hpos] [] [] pos) (Ej X.K C i tb th):=Sa hs f g hm d l hn e (λy=>h<|.ref y) b
end
end L2
namespace Vc
open PySem L2 Sf
def Le.exc(e:Le F F')(h:Rd F a (mR a B o)):Rd F' a (mR a B o):=e _ _ (by intro o w z;cases z) h
end Vc
namespace L2
open PySem PySem.Spec PyProof.Rows
abbrev vt(K:aq)(a:ai):It:=
 #[λi H=>∃b x,bw K H a b/\b[i]?=À x,λi H y d=>∃p x,y=.ref p/\H p=Æ/\(∀b,bw K H a b->b[i]?=À x)/\d=aU H p (.aF [.int i,x]),λi H=>∃b,bw K H a b/\↑b<=i]
def ax.nX{s:ao}(I:ax X aa j H s)(k:∀c o,c≠a->c≠b->s.heap.get? c=À o->h'.get? c=À o)(A:jb X aa H a)(B:jb X aa H b)(E:∃o,h'.get? a=À o)(eb:∃o,h'.get? b=À o):ax X aa j H { s with heap:=h',toks:=t' }:=by
 ∎;let#[g,i,C,l,m,r]:=A;let#[h,v,D,w,x,y]:=B;∎;show I.eO (s':={ s with heap:=h',toks:=t' }) (ch:=[a,b]) rfl #[λc o e _ _ f=>?_,λc o e _ _ f=>#[o.slots,?_],λ_ _ _ n _=>n,λc o e f=>#[o,?_],λ_ _ q=>q,λ_ _ _ q=>q,λ_ G q=>#[([].toArray),by rw[q];simp]] (λc u e=>?_) I.bare<|λc f=>?_
 .show k c o (λz=>f<|by simp[z]) (λz=>f<|by simp[z]) e
 .show k c o (λz=>f<|by simp[z]) (λz=>f<|by simp[z]) e
 .show k c o (λz=>f<|by simp[z]) (λz=>f<|by simp[z]) e
 .show (I.aS c u e).e5 (λd o hd q=>k d o ?_ ?_ q) (λ_ q=>q) λ_ _ q=>q
  .rintro rfl;rcases hd with z |z
   .rw[<- z,g] at e;cases e
   .rw[g] at z;cases z
  .rintro rfl;rcases hd with z |z
   .rw[<- z,h] at e;cases e
   .rw[h] at z;cases z
 .rcases ã.mp f with z |f
  .rw[z];show#[l,i,m,r]
  .have z:c=b:=by simpa using f
   rw[z];show#[w,v,x,y]
def Sb{P:ê}{w:Ă}{K:aq}{elts:b5}{x1:Nat}{pos:Pos}(a it n:ai)(y:n≠it):
  mB P w K `aO `er [n,it] n (λi h=>(∃g,IsEnum h n it i g)/\h.IsListIter it a i) where
 mem:=by simp
 obj:=λi h st b l=>by
  let#[#[g,O],o,Q,c,d]:=st;rcases ã.mp l with z |l
  .rw[z];show#[_,O,λv z=>by cases z]
  .have z:b=it:=by simpa using l
   rw[z];show#[o,Q,λv z=>by rw[d] at z;cases z]
 keep:=λi h h' st k=>by
  let#[#[g,O],Q]:=st;show#[#[g,k n ∅ _ O],Q.at λo e=>k it ∅ o e]
 item:=by
  intro X Y hw U hc i aa s j H E I M st hg;subst Y hw U;∎;let#[#[g,A],r]:=st;let#[xs,x,m,hx]:=hg;let#[δ,rv,p,hz]:=I.list m;let#[u,hu,ru]:=rv.get hx;∎;have fe:=M n ∅;have fi:=M it ∅;show wpAny_pyNext_enum_item A r p.isList (x:=u) (by simpa using hu) y λh' G C hT ε hk=>?_
  show#[.ref ⇑s,rfl,wpAny_letOwnedTupleGo_enum G λh2 B hs=>?_];have le:n<⇑s:=Ì A;have li:it<⇑s:=let ⟨o,e,_⟩:=r;Ì e;have β:H ⇑s=Æ:=I.aS.fresh<|Î _;have J:n≠⇑s:=é le;have L:it≠⇑s:=é li;have I1:=I.laid (a:=⇑s) (o:=.aF [.int i,x]) (h':=s.heap.push { cls:=.type "tuple",data:=.seq ([.int i s.toks,u].toArray) }) (t':=s.toks) (λb q m=>Ã _ m) (Î _)
   #[by change 2<=Ò;decide,[.int i s.toks,u],.cons #[_,rfl]<|.cons ru .nil,#[_,Ô _ rfl,rfl,_,rfl]]
  have up:∀{b:ai},b≠⇑s->jb X aa H b->jb X aa (aU H ⇑s (.aF [.int i,x])) b:=λl f=>#[by rw[ba l];show f.1,f.2]
  have γ:∀b q,b≠n->b≠it->(s.heap.push { cls:=.type "tuple",data:=.seq ([.int i s.toks,u].toArray) }).get? b=À q->h2.get? b=À q:=λb q h1 h3 m=>by
   show hs.extBut b q h1 ?_;rcases ad5 m with⟨α,eq⟩ |m
   .subst α;subst eq;show hT
   .show hk b q h1 h3 m
  let#[N,ei,ci,di]:=C;have D:h2.IsListIter it a (i+1):=#[N,hs.extBut it N (đ y) ei,ci,di];show#[.ref ⇑s,aU H ⇑s (.aF [.int i,x]),?_,rfl,#[_,x,rfl,β,λys hy=>by rw[I.eV hy m];show hx,rfl],#[#[_,B],D],λb l=>?_]
  .show ax.nX (s:={ s with heap:=s.heap.push { cls:=.type "tuple",data:=.seq ([.int i s.toks,u].toArray) },toks:=s.toks }) (t':=s.toks+1) I1 γ (up J fe) (up L fi) #[_,B] #[N,hs.extBut it N (đ y) ei]
  .rcases ã.mp l with z |l
   .rw[z,ba J];show fe.1
   .have z:b=it:=by simpa using l
    rw[z,ba L];show fi.1
 done:=by
  intro X Y hw U hc i aa s j H E I M st hg;subst Y hw U;∎;let#[#[g,A],r]:=st;let#[xs,m,hx]:=hg;let#[δ,rv,p,hz]:=I.list m;∎;have hl:=↑rv;let#[f0,f1,f2,f3,f4,f5]:=M it ∅;show wpAny_pyNext_enum_end `bO A r p.isList (by simp;omega) λh' eb=>#[rfl,I.turned (t':=s.toks) (λb o l e=>eb b o l e) f0 f1 f3 f4 f5]
 self:=λ_ _ _ _ _ st h=>let ⟨⟨_,A⟩,_⟩:=st;wpAny_pyIter_enum A h
section
variable{X:Cx}
abbrev EO(K:aq)(d:TA):TI:=λj H R=>d j H λvs b=>∃a,vs=[.ref a]/\(∃e,bw K b a e)/\R `er b
def Wx{l:ě}{v:TA}{elts:b5}{x1:Nat}{g p pos:Pos}(y:Gl X "enumerate")(hm:X.mg "enumerate"=Æ)(x:PA X [l] v)(hs:do n6 l X.env):
  PI X (.Tuple elts x1 g) (.Call (.Name "enumerate" p) [l] [] pos) (EO X.K v):=by
 intro aa s j H R I h;show Call_<|k6 I y hm (u:=.type "enumerate") rfl<|Ą (bu (x pos aa s j H _ I h) λus d n=>?_) hs rfl;let#[vs,w,f,E,a,e,#[N,B],q]:=n;subst e;cases E with
 |cons r G=>
  cases G;cases r;let#[D,M,p,L]:=f.list B;show call_enumerate_list p.isList λJ o m C A=>wpAny_pyIter_enum o ?_
  have ne:⇑d+1≠⇑d:=⋯
  show#[⇑d+1,[⇑d+1,⇑d],_,_,w,rfl,f.kept (t':=d.toks) A,Sb a _ _ ne,#[#[_,o],m],λb i=>?_,q];rcases ã.mp i with z |i
  .rw[z];show f.gx ⋯ (f.aS.fresh ⋯)
  .have z:b=⇑d:=by simpa using i
   rw[z];show f.gx (Î _)<|f.aS.fresh<|Î _
end
def Ag:∀{bs:List Bool}{us:aT},aH `bF us->us=bs.map aa2
 |[],_,.nil=>rfl
 |b::r,_,.cons h t=>by
  have e:=Ag (bs:=r) t;subst e;cases h;rfl
def Sd(bs:List Bool):(É ↑bs).any (λi=>bs.getD i Ç)=bs.any id:=by
 rw[ŝ,Ż,Ż];constructor
 .rintro⟨i,a,h⟩;rw[ħ] at a;show#[bs[i],ϸ a,?_];rw[Ä,Ñ a] at h;show h
 .rintro⟨b,hb,h⟩;let#[i,a,rfl]:=as0 hb;show#[i,ħ.mpr a,?_];rw[Ä,Ñ a];show h
def Se(bs:List Bool):(É ↑bs).all (λi=>bs.getD i Ç)=bs.all id:=by
 rw[ŝ,ah0,ah0];constructor
 .intro h b hb;let#[i,a,rfl]:=as0 hb;have z:=h i<|ħ.mpr a;rw[Ä,Ñ a] at z;show z
 .intro h i a;rw[ħ] at a;rw[Ä,Ñ a];show h _<|ϸ a
def Gb(bs:List Bool):TruthOf prog w A (λi v=>(bs.map aa2).toArray[i]?=À v) (λi=>bs.getD i Ç):=by
 intro i v s Q E a d;simp only[List.getElem?_toArray,Í] at a;cases q:bs[i]? with
 |none=>rw[q] at a;cases a
 |some b=>
  rw[q] at a;cases a;have d:Q (bs.getD i Ç) s:=d;rw[Ä,q] at d;show Þ d
section
variable{X:Cx}
def Sg(f:X.calm=Â):bV X (.builtin "any") (λxs H Q=>∃(a:ai)(bs:List Bool),xs=[.ref a]/\bw X.K H a `bF/\Q (.bl<|bs.any id) H):=by
 intro aa s j H xs us Q I r h;∎;let#[a,bs,rfl,i,q]:=h;let#[u,rfl,n]:=lp r;∎;cases n;let#[l,v,p,x]:=I.list i;obtain rfl:=Ag v;have d:=p.isList;have m:a<⇑s:=(let ⟨_,e,_⟩:=d;Ì e);show call_any_walk<|aj7 d ?_;show#[⇑s,_,_,_,_,_,_,rfl,Walks.list (by show I.ok.hd f) _ a (é m) _,#[#[_,Ô _ rfl,rfl,rfl],(let ⟨o,e,c⟩:=d;#[o,Ã _ e,c])],Gb bs,λw y g=>?_];show#[.bl<|bs.any id,H,I.kept λb o e=>g b o (λz=>av5 (Ì e) (by rw[show b=⇑s from by simpa using z];show ĸ _))<|Ã _ e,?_,q];rw[<- Sd];change _=_;simp
def qo(f:X.calm=Â):bV X (.builtin "all") (λxs H Q=>∃(a:ai)(bs:List Bool),xs=[.ref a]/\bw X.K H a `bF/\Q (.bl<|bs.all id) H):=by
 intro aa s j H xs us Q I r h;∎;let#[a,bs,rfl,i,q]:=h;let#[u,rfl,n]:=lp r;∎;cases n;let#[l,v,p,x]:=I.list i;obtain rfl:=Ag v;have d:=p.isList;have m:a<⇑s:=(let ⟨_,e,_⟩:=d;Ì e);show call_all_walk<|aj7 d ?_;show#[⇑s,_,_,_,_,_,_,rfl,Walks.list (by show I.ok.hd f) _ a (é m) _,#[#[_,Ô _ rfl,rfl,rfl],(let ⟨o,e,c⟩:=d;#[o,Ã _ e,c])],Gb bs,λw y g=>?_];show#[.bl<|bs.all id,H,I.kept λb o e=>g b o (λz=>av5 (Ì e) (by rw[show b=⇑s from by simpa using z];show ĸ _))<|Ã _ e,?_,q];rw[<- Se];change _=_;simp
end
abbrev vu(b:aI×V->V)(a:ai)(ob:Obj)(kvs:b9):It:=
 #[λi H=>i<↑kvs/\H a=À (.aC ob<|.dK kvs),λi H x e=>e=H/\∃d,kvs[i]?=À d/\x=b d,λi H=>↑kvs<=i/\H a=À (.aC ob<|.dK kvs)]
nonrec abbrev wA:aI×V->V:=λkv=>kV kv.1
nonrec abbrev zH:aI×V->V:=λkv=>kv.2
def xI{H:Hp}(I:ax X aa j H s)(o:H a=À (.aC ob<|.dK kvs))(hd:ob.data=.dict es ep):
  ∃vs,KV kvs vs/\s.heap.DictAt `aF a vs ep/\↑kvs=↑vs:=by
 let#[e,z,y,vs,r,q,n,m,b,f,d,g,h,i]:=(show bc X.prog X.w H s.heap a (.aC ob<|.dK kvs) from I.aS a _ o);have l:ob=q:=Ø<|e.symm.trans b;subst l;rw[hd] at d;cases d;show#[vs,r,#[ob,es,e,f,hd,g,h,i],KV.length r]
def Sh{P:ê}{w:Ă}{K:aq}{tg:ě}(a it:ai)(ob:Obj)(kvs:b9):
  mB P w K tg (vu wA a ob kvs) [it] it (λi h=>∃l ep,ob.data=.dict l ep/\h.IsKeyIter it a i ↑kvs ep) where
 mem:=by simp
 obj:=λi h st b m=>by
  let#[l,ep,hd,o,e,c,d]:=st;rw[show b=it from by simpa using m];show#[o,e,λv z=>by rw[d] at z;cases z]
 keep:=λi h y st k=>by
  let#[l,ep,hd,o,e,c,d]:=st;show#[l,ep,hd,o,k it ∅ o e,c,d]
 item:=by
  intro X O U N hc i aa s j H E I A st Q;subst O U N;∎;let#[l,ep,hd,f]:=st;let#[hi,M]:=Q;let#[vs,r,hm,B]:=xI I M hd;∎;obtain⟨⟨k,v⟩,x⟩:∃q,kvs[i]?=À q:=#[kvs[i],by simp[hi]];let#[u,hu,ru]:=r.at x;rw[B] at f;let#[C,D,f2,G,J,L]:=A it ∅;show wpAny_pyNext_dict_item f hm hu λY y n g sb=>?_
  have I1:ax X aa j H { s with heap:=y }:=I.turned (t':=s.toks) (λb o m e=>(sb.2 b m).trans e) C D G J L;let#[o,e,c,d]:=id g;show#[Y,rfl,uS (s:={ s with heap:=y }) e c d ∎ #[kV k,H,I1,uy n,#[rfl,_,x,rfl],#[l,ep,hd,by rw[B];show g],λb m=>(A b m).1]]
 done:=by
  intro X O U N hc i aa s j H E I A st Q;subst O U N;∎;let#[l,ep,hd,f]:=st;let#[hi,M]:=Q;let#[vs,r,hm,B]:=xI I M hd;∎;rw[B] at f;let#[C,D,f2,G,J,L]:=A it ∅;show wpAny_pyNext_dict_end `bO f hm (by simp;omega) λy eb=>#[rfl,I.turned (t':=s.toks) (λb o m e=>eb b o m e) C D G J L]
 self:=λ_ _ _ _ _ st h=>let ⟨_,_,_,f⟩:=st;wpAny_pyIter_keyiter f h
def Si{P:ê}{w:Ă}{K:aq}{tg:ě}(a it:ai)(ob:Obj)(kvs:b9):
  mB P w K tg (vu zH a ob kvs) [it] it (λi h=>∃l ep,ob.data=.dict l ep/\h.IsValIter it a i ↑kvs ep) where
 mem:=by simp
 obj:=λi h st b m=>by
  let#[l,ep,hd,o,e,c,d]:=st;rw[show b=it from by simpa using m];show#[o,e,λv z=>by rw[d] at z;cases z]
 keep:=λi h x st k=>by
  let#[l,ep,hd,o,e,c,d]:=st;show#[l,ep,hd,o,k it ∅ o e,c,d]
 item:=by
  intro X N Q M U i aa s j H E I y st O;subst N Q M;∎;let#[l,ep,hd,f]:=st;let#[Y,L]:=O;let#[vs,r,hm,A]:=xI I L hd;∎;obtain⟨⟨k,v⟩,n⟩:∃q,kvs[i]?=À q:=#[kvs[i],by simp[Y]];let#[u,hu,ru]:=r.at n;rw[A] at f;let#[B,C,f2,D,G,J]:=y it ∅;show wpAny_pyNext_values_item f hm hu λx g sb=>?_
  have I1:ax X aa j H { s with heap:=x }:=I.turned (t':=s.toks) (λb o m e=>(sb.2 b m).trans e) B C D G J;let#[o,e,c,d]:=id g;show#[u,rfl,uS (s:={ s with heap:=x }) e c d ∎ #[v,H,I1,ru,#[rfl,_,n,rfl],#[l,ep,hd,by rw[A];show g],λb m=>(y b m).1]]
 done:=by
  intro X N Q M U i aa s j H E I y st O;subst N Q M;∎;let#[l,ep,hd,f]:=st;let#[Y,L]:=O;let#[vs,r,hm,A]:=xI I L hd;∎;rw[A] at f;let#[B,C,f2,D,G,J]:=y it ∅;show wpAny_pyNext_values_end (I.ok.hd U) f hm (by simp;omega) λx eb=>#[rfl,I.turned (t':=s.toks) (λb o m e=>eb b o m e) B C D G J]
 self:=λ_ _ _ _ _ st h=>let ⟨_,_,_,f⟩:=st;wpAny_pyIter_valiter f h
section
variable{X:Cx}
abbrev u5(d:aI×V->V)(X:Cx)(g:TE):TI:=λj H R=>g j H λx e=>∃a b,x=.ref a/\e a=À (.dK b)/\∀f,(∀o u,X.H₀ a≠À `aJ)->R (vu d a f b) (aU e a<|.aC f<|.dK b)
def Wy(L:PE X o td):PI X tg o (u5 wA X td):=by
 intro aa s j H R I h;show bu `es λv i A=>?_
 let#[x,C,g,N,a,d,ex,l,q]:=A;subst ex;obtain rfl:v=Ý a:=N;∎;let#[O,Q,hd]:=rX g<|.inl #[d,.inl l];let#[z,y,vs,r,dd]:=xY g.aS l;∎;have n:∀o u,X.H₀ a≠À `aJ:=λo u z=>by
  have:=g.base.bz a o u z;rw[l] at this;cases this
 let#[B,f]:=dd.dictAt;show wpAny_pyIter_dict hd f ?_;let#[m,w,D]:=(g.kept (t':=i.toks) (h':=i.heap.push { cls:=.type "dict_keyiterator",data:=.fields ([.ref a,.int 0 0,.int ↑vs 0,.int B 0].toArray) }) λb o e=>Ã _ e).freeze l;have M:a<⇑i:=f.lt_size;have J:↑d=↑vs:=KV.length r;show#[_,[_],_,_,aU C a<|.aC m<|.dK d,rfl,D,Sh a ⇑i m d,?_,λb G=>?_,q m n]
 .obtain⟨o2,es,ho2,c1,c2,_⟩:=f;have E:m=o2:=Ø<|w.symm.trans<|Ã _ ho2;subst E;show#[es,B,c2,by rw[J];show#[_,Ô _ rfl,rfl,rfl]]
 .have e:b=⇑i:=by simpa using G
  subst e;show g.gx (Î _) (by rw[ba<|ŷ M];show g.aS.fresh<|Î _)
def Wz(ho:PE X o td)(l:õ o "values" X.env `ap=eval o X.env)(m:(apos.endLine == bo.line)=Â):
  PI X tg (.Call (.Attribute o "values" apos) [] [] bo) (u5 zH X td):=by
 intro aa s j H R I h;show ϙ l m<|bu (ho aa s j H _ I h) λv i J=>?_;let#[x,L,n,r1,a,g,ex,A,q]:=J;subst ex;obtain rfl:v=Ý a:=r1;let#[N,t2,hd]:=rX n<|.inl #[g,.inl A];show#["dict","dict.values",PySem.F.plainAttrs_dict,PySem.F.slot_dict_values,PySem.F.type_dict_values,N,t2,ķ rfl<|PySem.evalArgs_none ?_];let#[z,y,vs,r,dd]:=xY n.aS A;show Ő PySem.F.slot_dict_values N PySem.F.entry_dict_values `cu (meets_dict_values `aF a hd) #[#[vs,dd],?_];have C:ax X aa j L { i with heap:=i.heap.push { cls:=.type "dict_values",data:=.fields ([.ref a].toArray) } }:=n.kept (t':=i.toks) λb o e=>Ã _ e
 have E:∀o u,X.H₀ a≠À `aJ:=λo u z=>by
  have:=n.base.bz a o u z;rw[A] at this;cases this
 let#[M,D]:=dd.dictAt;have f:=D.push { cls:=.type "dict_values",data:=.fields ([.ref a].toArray) };show wpAny_pyIter_values (v:=⇑i) (d:=a) #[_,Ô _ rfl,rfl,rfl] f ?_;let#[B,G,O]:=(C.kept (t':=i.toks) (h':=(i.heap.push { cls:=.type "dict_values",data:=.fields ([.ref a].toArray) }).push { cls:=.type "dict_valueiterator",data:=.fields ([.ref a,.int 0 0,.int ↑vs 0,.int M 0].toArray) }) λb o e=>Ã _ e).freeze A;have la:a<(i.heap.push { cls:=.type "dict_values",data:=.fields ([.ref a].toArray) }).objs.size:=f.lt_size;have Y:↑g=↑vs:=KV.length r;show#[_,[_],_,_,aU L a<|.aC B<|.dK g,rfl,O,Si a (i.heap.push { cls:=.type "dict_values",data:=.fields ([.ref a].toArray) }).objs.size B g,?_,λb U=>?_,q B E]
 .obtain⟨o2,es,ho2,c1,c2,_⟩:=f;have Q:B=o2:=Ø<|G.symm.trans<|Ã _ ho2;subst Q;show#[es,M,c2,by rw[Y];show#[_,Ô _ rfl,rfl,rfl]]
 .have e:b=(i.heap.push { cls:=.type "dict_values",data:=.fields ([.ref a].toArray) }).objs.size:=by simpa using U
  subst e;show C.gx (Î _) (by rw[ba<|ŷ la];show C.aS.fresh<|Î _)
abbrev Ny(X:Cx)(t:TS):TS:=λD j H=>t `df j H
def WA{st:Ā}{t:TS}(h:PS X st t):PS X st (Ny X t):=by
 intro aa s j H D I q;show bu (h aa s j H `df I q) λf n q=>?_
 cases f with
 |next=>let#[d,i,b,a,l,g,e,hn,r]:=q;show#[d,_,b.e8 e hn,r]
 |brk=>let#[d,i,b,a,l,g,e,hn,r]:=q;show#[d,_,b.e8 e hn,r]
 |cont=>let#[d,i,b,a,l,g,e,hn,r]:=q;show#[d,_,b.e8 e hn,r]
 |ret u=>let#[v,d,i,b,m,a,l,g,e,hn,r]:=q;show#[v,d,_,b.e8 e hn,m,r]
abbrev tU(X:Cx)(t:TE):TE:=λj H Q=>t j H λv=>nv X<|Q v
def AK(h:PE X e t):PE X e (tU X t):=by
 intro aa s j H Q I q;show bu (h aa s j H _ I q) λu m b=>?_
 let#[v,i,d,g,a,l,f,e,hn,r]:=b;show#[v,_,d.e8 e hn,g,r]
end
section
variable{g:TG}{ti:TT}{te:TE}{ix:bC}{σ:St}{Q:VK}
def HW{h:aI×V->V}(Pv:Nat->ay->Hp->Prop)(r:Pv 0 [] H1)(m:∀i d H,i<=↑kvs->Pv i d H->H a=À (.aC ob<|.dK kvs))(hs:∀i k v d H,kvs[i]?=À (k,v)->Pv i d H->g (h (k,v)) `bd H λf o=>Wk `bd f/\ti f o λb l=>if b=Â then te f l λv q=>↑d<Ò/\Pv (i+1) (d++[v]) q else Pv (i+1) d l)(hd:∀d H,Pv ↑kvs d H->↑d<=Ò/\∀p,H p=Æ->Q `am (aU H p<|.af d)):yQ (vu h a ob kvs) g ti te ix σ Q H1:=by
 show BY (n:=↑kvs) Pv r (λi d H j p=>#[j,m i d H (ň j) p]) (λd H p=>#[Î _,m _ d H (Î _) p]) (λi x d H s j p y=>?_) hd;let#[rfl,#[k,v],e,rfl]:=y;show hs i k v d _ e p
end
def ax.jZ{X:Cx}{aa:aZ}{j:St}{H:Hp}{s:ao}{h':aW}{t':Nat}{ch:c6}(I:ax X aa j H s)(k:∀c o,c ∉ ch->s.heap.get? c=À o->h'.get? c=À o)(g:∀b∈ch,jb X aa H b):ax X aa j H { s with heap:=h',toks:=t' }:=by
 show I.eO (s':={ s with heap:=h',toks:=t' }) (ch:=ch) rfl #[λc o e _ _ a=>k c o a e,λc o e _ _ a=>#[o.slots,k c o a e],λ_ _ _ n _=>n,λc o e a=>#[o,k c o a e],λ_ _ q=>q,λ_ _ _ q=>q,λ_ h q=>#[([].toArray),by rw[q];simp]] (λc u e=>?_) I.bare<|λc a=>?_
 .show (I.aS c u e).e5 (λd o hd q=>k d o (λhm=>?_) q) (λ_ q=>q) λ_ _ q=>q
  have f:=(g d hm).1;rcases hd with z |z
  .rw[<- z,f] at e;cases e
  .rw[f] at z;cases z
 .obtain⟨a0,a1,a2,a3,a4,a5⟩:=g c a;show#[a3,a1,a4,a5]
abbrev vx(K:aq)(a b:ai):It:=
 #[λi H=>∃d e x y,bw K H a d/\bw K H b e/\d[i]?=À x/\e[i]?=À y,
  λi H v f=>∃p x y,v=.ref p/\H p=Æ/\(∀d,bw K H a d->d[i]?=À x)/\(∀e,bw K H b e->e[i]?=À y)/\f=aU H p (.aF [x,y]),
  λi H=>∃d e,bw K H a d/\bw K H b e/\(↑d<=i\/↑e<=i)]
def UE{P:ê}{w:Ă}{K:aq}{elts:b5}{x1:Nat}{pos:Pos}{a b z TI TO l m:ai}(D:ZipApart z TI TO l m a b):
  mB P w K `aO `eE [z,TI,TO,l,m] z (λi h=>IsZip h z TI TO .none/\IsPair h TI `cy (.ref m)/\(∃c d,IsPair h TO c d)/\h.IsListIter l a i/\h.IsListIter m b i) where
 mem:=by simp
 obj:=λi h st c f=>by
  let#[B,r,#[u,v,C],#[o4,G,c4,d4],#[o5,J,c5,d5]]:=st;simp only[ã,h9,or_false] at f;rcases f with rfl |rfl |rfl |rfl |rfl
  .show#[_,B,λv z=>by cases z]
  .show#[_,r,λv z=>by cases z]
  .show#[_,C,λv z=>by cases z]
  .show#[o4,G,λv z=>by rw[d4] at z;cases z]
  .show#[o5,J,λv z=>by rw[d5] at z;cases z]
 keep:=λi h h' st k=>by
  let#[B,r,#[u,v,C],G,J]:=st;show#[k z ∅ _ B,k TI ∅ _ r,#[u,v,k TO ∅ _ C],G.at λo e=>k l ∅ o e,J.at λo e=>k m ∅ o e]
 item:=by
  intro X hP hw hK f i aa s j H E I O st hg;subst hP hw hK;∎;let#[B,r,#[c,d,C],G,J]:=st;let#[xs,ys,x,y,n,A,hx,hy]:=hg;let#[ι,rv,p,hz]:=I.list n;let#[U,L,p',η]:=I.list A;let#[u,hu,ru]:=rv.get hx;let#[M,ε,κ]:=L.get hy;∎;show wpAny_pyNext_zip_item D B r C G J p.isList p'.isList (x:=u) (y:=M) (by simpa using hu) (by simpa using ε) λh' g1 g2 g3 g4 hT μ Y=>?_
  show#[.ref ⇑s,rfl,wpAny_letOwnedTupleGo_zip g1 λN θ Q=>?_];have β:H ⇑s=Æ:=I.aS.fresh<|Î _;have lt:∀{c o},s.heap.get? c=À o->c≠⇑s:=λe=>é<|Ì e
  have ne:∀c∈[z,TI,TO,l,m],c≠⇑s:=λc f=>by
   simp only[ã,h9,or_false] at f;rcases f with rfl |rfl |rfl |rfl |rfl
   .show lt B
   .show lt r
   .show lt C
   .obtain⟨o,e,_⟩:=G;show lt e
   .obtain⟨o,e,_⟩:=J;show lt e
  have I1:=I.laid (a:=⇑s) (o:=.aF [x,y]) (h':=s.heap.push { cls:=.type "tuple",data:=.seq ([u,M].toArray) }) (t':=s.toks) (λb q n=>Ã _ n) (Î _)
   #[by change 2<=Ò;decide,[u,M],.cons ru<|.cons κ .nil,#[_,Ô _ rfl,rfl,_,rfl]]
  have γ:∀c q,c ∉ [z,TI,TO,l,m]->(s.heap.push { cls:=.type "tuple",data:=.seq ([u,M].toArray) }).get? c=À q->N.get? c=À q:=λc q f n=>by
   show Q.extBut c q (λg=>f<|by simp[g]) ?_;rcases ad5 n with⟨α,eq⟩ |n
   .subst α;subst eq;show hT
   .show Y c q (λg=>f<|by simp[g]) (λg=>f<|by simp[g]) (λg=>f<|by simp[g]) (λg=>f<|by simp[g]) n
  have t2:IsPair N TI `cy (.ref m):=Q.extBut TI _ D.TIz<|Y TI _ D.TIz D.TITO D.TIi1 D.TIi2 r;have t3:IsPair N TO u M:=Q.extBut TO _ D.TOz g2;have t4:N.IsListIter l a (i+1):=g3.at λo e=>Q.extBut l o D.i1z e
  have t5:N.IsListIter m b (i+1):=g4.at λo e=>Q.extBut m o D.i2z e
  show#[.ref ⇑s,aU H ⇑s (.aF [x,y]),?_,rfl,#[_,x,y,rfl,β,λys hy=>by rw[I.eV hy n];show hx,λys ζ=>by rw[I.eV ζ A];show hy,rfl],#[θ,t2,#[_,_,t3],t4,t5],λc f=>?_]
  .show ax.jZ (s:={ s with heap:=s.heap.push { cls:=.type "tuple",data:=.seq ([u,M].toArray) },toks:=s.toks }) (t':=s.toks) I1 γ λc f=>#[by rw[ba<|ne c f];show (O c f).1,(O c f).2]
  .rw[ba<|ne c f];show (O c f).1
 done:=by
  intro X hP hw hK f i aa s j H E I O st hg;subst hP hw hK;∎;let#[B,r,#[c,d,C],G,J]:=st;let#[xs,ys,n,A,δ]:=hg;let#[ι,rv,p,hz]:=I.list n;let#[U,L,p',η]:=I.list A;∎;have l1:=↑rv;have l2:=↑L;show wpAny_pyNext_zip_end (I.ok.hd f) D B r C G J p.isList p'.isList (δ.imp (λh=>by simp;omega) λh=>by simp;omega) λh' Y=>#[rfl,I.jZ (t':=s.toks) (ch:=[z,TI,TO,l,m]) (λc o f e=>?_) O]
  show Y c o (λg=>f<|by simp[g]) (λg=>f<|by simp[g]) (λg=>f<|by simp[g]) (λg=>f<|by simp[g]) e
 self:=λ_ _ _ _ _ st h=>wpAny_pyIter_zip st.1 h
section
variable{X:Cx}
abbrev FE(K:aq)(e:TA):TI:=λj H R=>e j H λvs d=>∃a b,vs=[.ref a,.ref b]/\(∃f,bw K d a f)/\(∃g,bw K d b g)/\R `eE d
def ZO{l m:ě}{D:TA}{elts:b5}{x1:Nat}{i p pos:Pos}(Q:Gl X "zip")(hm:X.mg "zip"=Æ)(O:PA X [l,m] D)(hs:do vD l m X.env)(g:do n6 m X.env):PI X (.Tuple elts x1 i) (.Call (.Name "zip" p) [l,m] [] pos) (FE X.K D):=by
 intro aa s j H R I h;show Call_ (k6 I Q hm (u:=.type "zip") rfl (Ą (bu (O pos aa s j H _ I h) λus d v=>?_) (by rw[hs,g]) (by rw[g];rfl)));let#[vs,G,f,r1,a,b,e,#[xs,Y],#[ys,n],q]:=v;subst e;cases r1 with
 |cons r o=>
  cases o with
  |cons r' o=>
   cases o;cases r;cases r';∎;let#[γ,rv,p,hz]:=f.list Y;let#[B,δ,C,β]:=f.list n;∎;have la:a<⇑d:=let ⟨_,e,_⟩:=p.isList;Ì e;have lb:b<⇑d:=let ⟨_,e,_⟩:=C.isList;Ì e;show call_zip_2 p.isList C.isList λh' w J L M N α U=>wpAny_pyIter_zip w ?_
   have E:ZipApart (⇑d+4) (⇑d+2) (⇑d+3) ⇑d (⇑d+1) a b:=by
    have lt:∀{x y:Nat},x<y->x≠y:=λh=>é h
    have gt:∀{x y:Nat},y<x->x≠y:=λh=>ŷ h
    constructor<;>first |show lt ⋯ |show gt ⋯ |show lt (Õ la ⋯) |show lt<|Õ lb ⋯
   show#[⇑d+4,[⇑d+4,⇑d+2,⇑d+3,⇑d,⇑d+1],_,_,G,rfl,f.kept (t':=d.toks) U,UE E,#[w,J,#[_,_,L],M,N],λc A=>?_,q];have z:⇑d<=c:=by
    simp only[ã,h9,or_false] at A;rcases A with rfl |rfl |rfl |rfl |rfl
    .show aa1 _ _
    .show aa1 _ _
    .show aa1 _ _
    .show Î _
    .show aa1 _ _
   show f.gx z<|f.aS.fresh z
end
end L2
namespace Vc
open PySem L2 Sf
section
variable{X:Cx}{aa:aZ}{σ:St}{H:Hp}{s:ao}{Au:ą}
def WB(I:ax X aa σ H s)(d:bw X.K H a xs)(f:bw X.K H b ys)(w:Au.units<ģ)(L:↑xs=↑ys)(e:Nat->Bool)(r:∀(j:Nat) x y u v,xs[j]?=À x->ys[j]?=À y->aE x u->aE y v->Ľ Au.in1 s u v (e j)):an3 Au s `aw `bs (!(É ↑xs).all e):=by
 ∎;let#[us,g,E,_]:=I.list d;let#[J,r2,G,_]:=I.list f;∎;have B:=↑g;have M:=↑r2;have z:=SeqAt.RcNeAt.lists (A:=Au) (e:=e) E.isList G.isList (by simp;omega) w<|λj d f=>?_
 .have e0:(É us.toArray.size).all e=(É ↑xs).all e:=by
   simp only[á];rw[<- B]
  rw[e0] at z;show z
 .simp only[á] at d f;∎;let#[u,h,C]:=g.get (i:=j) (x:=xs[j]'⋯) ∅;let#[v,l,D]:=r2.get (i:=j) (x:=ys[j]'⋯) ∅;let#[_,m]:=Á.mp h;let#[_,n]:=Á.mp l;∎;have o:us.toArray[j]'(by simpa using d)=u:=by simpa using m
  have q:J.toArray[j]'(by simpa using f)=v:=by simpa using n
  rw[o,q];show r j _ _ u v ∅ ∅ C D
end
def WC{H:Hp}(h:H p=À `bV):C0 K "list" `am H:=by
 show .inl #[rfl,xs,bw.of h]
end Vc
namespace L2
open PySem PySem.Spec PyProof.Rows
abbrev ER:R2:=λx y H Q=>∃z n,x=.str z/\y=.int n/\↑z<=100/\0<=n/\n<=1000/\Q (.str<|Txt.mul z n) H
def Rb:cG X `cR ER:=by
 intro aa s j H x y v u Q I b d h;∎;let#[z,n,rfl,rfl,a,f,g,q]:=h;let#[t,rfl]:=b;let#[e,rfl]:=d;∎;show SB.mul (mulOk_of 100 1000 a ⋯ ⋯ ∎ ∎) λe k=>#[.str _,H,I.tok _,#[_,rfl],q]
section
variable{X:Cx}
def Gs:∀{us:aT},us.length=↑ks->(∀(j:Nat) x u,ks[j]?=À x->us[j]?=À u->∃t,u=.str x t)->StrsAre us ks:=by
 induction ks with
 |nil=>intro us e _;cases us with
  |nil=>show .nil
  |cons _ _=>simp at e
 |cons x r d=>
  intro us e f;cases us with
  |nil=>simp at e
  |cons u us=>
   let#[t,rfl]:=f 0 x u rfl rfl;show .cons _ _ (d (by simpa using e) λj y v a b=>f (j+1) y v (by simpa using a)<|by simpa using b)
def Ac(h:StrsAre us ks):aH `cQ us:=by
 induction h with
 |nil=>show .nil
 |cons _ _ _ a=>show .cons #[_,rfl] a
abbrev Ek:ay->Hp->VK->Prop:=λe H Q=>∃a d ks,e=[.ref a]/\Rd H a `cc/\d.map (·.1)=ks.map (Sum.inr:Str->aI)/\↑ks<64/\
  ∀b:ah,b.Perm ks->Ě b=Â->∀p,H p=Æ->Q `am (aU H p<|.af<|b.map V.str)
def OX(hc:X.calm=Â):bV X (.builtin "sorted") Ek:=by
 intro aa s i H xs us Q I r h;∎;let#[a,kvs,ks,rfl,ha,hk,L,q]:=h;let#[u,rfl,ru]:=lp r;∎;cases ru;∎;let#[z,y,vs,D,dd]:=iU I.aS ha;let#[ep,N]:=dd.dictAt;∎;have Y:↑kvs=↑vs:=KV.length D;have g:↑kvs=↑ks:=by have:=av9 ad3 hk;simpa using this
 show Γ kind_sorted plain_sorted entry_sorted `cw ?_;unfold Ţ.«sorted»;show È (m:=checkCount "sorted" 1 1 _)<|Þ ?_;show È (W.kdu_collect (W.kdl_dict (knd:=eM X.prog X.w) (kvs:=vs) (ep:=ep) y) `bO N (by rw[<- Y];show z) λn J d U f=>?_);have M:StrsAre d.toList ks:=by
  show Gs (by rw[Œ,f.1,<- Y,g]) λj x u h1 h2=>?_
  let#[k',v,hx,C]:=f.2 j u (by rw[<- ϑ];show h2);obtain⟨p,hp⟩:∃p,kvs[j]?=À p:=by
   have:j<↑kvs:=by rw[g];show (Á.mp h1).1
   show#[kvs[j],by simp[this]]
  have e1:p.1=Sum.inr x:=by
   have:=av9 (λl=>l[j]?) hk;simp only[Í,hp,h1,Ž] at this;show Ø this
  let#[u',α,_]:=D.at (k:=p.1) (v:=p.2) hp;rw[α] at hx;cases hx;have:=uy C;rw[e1] at this;show this
 have I1:ax X aa i H { s with heap:=n,toks:=J }:=I.kept (t':=J) U;show È<|at3 ?_;have A:(n.push<|ah9 "list" d.toList.toArray 0).get? n.objs.size=À (ah9 "list" d.toList.toArray 0):=Ô _ rfl;change Ú _ _ _ _ _ { s with heap:=n.push<|ah9 "list" d.toList.toArray 0,toks:=J };have B:↑d.toList<64:=by rw[Œ,f.1,<- Y,g];show L
 show È (Ŗ (al4 ap6 #[_,A,rfl] an0 (an1 as7 A M.keysOf (λv1 v2 rest e=>keyKind_strs (by rw[<- e];show M)) B λG a1 a2=>#[_,rfl,?_])<|ap5 _));let#[E,b1,b2,b3]:=ap8 M a1 a2;show Þ #[_,rfl,?_];let#[e,he]:=as6 (out:=(arrOf G).map (·.2)) A;have O:H n.objs.size=Æ:=I1.aS.fresh<|Î _;show#[.ref n.objs.size,_,I1.laid (a:=n.objs.size) (o:=.af<|E.map V.str) (t':=J) (λb o eb=>?_) (Î _) #[?_,((arrOf G).map (·.2)).toList,e,Ac b1,by rw[Ϡ];show he],rfl,q E b2 b3 _ O]
 .have lb:b<n.objs.size:=Ì eb;rw[ap7 (é lb) (by rw[size_push'];show Ģ lb)];show Ã _ eb
 .rw[Å,b2.length_eq];have:=qz;have:↑ks<=Ò:=by rw[<- g];show z
  show this
def Sj{kvs:b9}{vs:List (aI×ar)}{us:aT}(r:KV kvs vs)(a:↑us=↑kvs)(h:∀(j:Nat) u,us[j]?=À u->∃k,vs[j]?=À (k,u)):aH (kvs.map (·.2)) us:=by
 induction kvs generalizing vs us with
 |nil=>cases us with
  |nil=>show .nil
  |cons _ _=>simp at a
 |cons p t l=>
  cases us with
  |nil=>simp at a
  |cons u us=>
   unfold KV at r;cases r with
   |cons b g=>
    rename_i q n;let#[k,e]:=h 0 u rfl;have f:q=(k,u):=by simpa using e
    show .cons (by rw[f] at b;show b.2) (l (vs:=n) g (by simpa using a) λj w i=>?_);let#[m,d]:=h (j+1) w (by simpa using i);show#[m,by simpa using d]
end
end L2
namespace Vc
open PySem L2 Sf
def PU{a b:List Nat}(d:¬ a<b)(e:¬ b<a):a=b:=by
 rw[List.not_lt] at d e;show List.le_antisymm e d
def GA:∀(l:ah),Ě l=Â->l.Pairwise (λa b=>¬ b.cps.toList<a.cps.toList)
 |[],_=>.nil
 |x::r,h=>by
  have tr:∀a b c:List Nat,¬ b<a->¬ c<b->¬ c<a:=λa b c d i=>by
   rw[List.not_lt] at d i ⊢;show List.le_trans d i
  have gen:∀(r:ah)(p:Str),ai5 p r=Â->(p::r).Pairwise (λa b=>¬ b.cps.toList<a.cps.toList):=by
   intro r
   induction r with
   |nil=>intro p _;show List.pairwise_singleton _ _
   |cons y t j=>
    intro p h;have f:(!PySem.Spec.ltCps y.cps.toList p.cps.toList&&ai5 y t)=Â:=h;rw[å,PyProof.Rows.ltCps_eq] at f;have d:¬ y.cps.toList<p.cps.toList:=by simpa using f.1
    have w:=j y f.2;show at7.mpr #[λb g=>?_,w];rcases ã.mp g with e |g
    .rw[e];show d
    .show tr _ _ _ d ((at7.mp w).1 b g)
  show gen r x h
def Rc{a b:ah}(f:Ě a=Â)(g:Ě b=Â)(p:a.Perm b):a=b:=by
 show List.Perm.eq_of_pairwise (le:=λa b=>¬ b.cps.toList<a.cps.toList) (λx y _ _ d e=>?_) (GA a f) (GA b g) p;have:=PU e d;cases x;cases y;simpa using this
noncomputable def vk(ks:ah):ah:=Classical.epsilon λl=>l.Perm ks/\Ě l=Â
def JE(h:l.Perm ks)(g:Ě l=Â):l=vk ks:=by
 have:=Classical.epsilon_spec (p:=λl:ah=>l.Perm ks/\Ě l=Â) #[l,h,g];show Rc g this.2<|h.trans this.1.symm
def eT(h:bO m x=À y):(x,y)∈m:=by
 induction m with
 |nil=>cases h
 |cons p r a=>
  by_cases e:p.1=x
  .rw[HP e] at h;cases h;subst e;show ϐ ..
  .rw[Wo e] at h;show Ĥ _<|a h
def fO{j:Type}{m:List (Str×j)}{x:Str}{y:j}(h:∀p∈m,p.1≠x):pK m x y=m++[(x,y)]:=by
 unfold pK;rw[av3];intro z;rw[Ż] at z;let#[p,a,e]:=z;show h p a (by simpa using e)
abbrev r4(K:aq){j i G g:Type}(A:Rep j)(B:Rep i)(C:Rep G)(D:Rep g):Rep (j×i×G×g):=λF v x=>∃a b d e f,v=.ref a/\cR K F a [b,d,e,f]/\A F b x.1/\B F d x.2.1/\C F e x.2.2.1/\D F f x.2.2.2
end Vc
namespace L2
open PySem PySem.Spec PyProof.Rows
abbrev pR(P:ê)(w:Ă)(A:ą)(s:ao)(u v:ar):Prop:=∀(E:ar->ao->Prop)(Q:ar->ao->Prop),Q (.bool Ç) s->Ú `bj A (richCompare .NotEq u v) Q E s
section
variable{P:ê}{w:Ă}{A:ą}{s:ao}
section
open PySem.AutoSeq1 (wpAny_loadPart')
def Ly(a b:ai)(xs ys:cS)(n m:Nat)(o q:bW)(sa sb:Array (du))(hz:xs.size=ys.size):
  ao6 P w (Ţ.«tuple.__ne__» #[[.ref a,.ref b],[]]) (λA R s=>s.heap.get? a=À #[.type "tuple",o,.seq xs n,sa]/\s.heap.get? b=À #[.type "tuple",q,.seq ys m,sb]/\
   (∀j (M:j<xs.size) (N:j<ys.size),gP P w A.in1 s xs[j] ys[j])/\R (.ok<|.ret<|.bool Ç) s):=by
 show .of_wp λA R s h=>?_
 ∎;let#[E,g,d,I,os]:=s;let#[B,C,D,v]:=h;∎;have sub:=ai6;have len:(xs.toList.zip ys.toList).length=xs.size:=by simp;omega
 wp_walk using wpAny_loadPart' B,wpAny_loadPart' C,wpAny_forIn_list _ (λr c l=>c.1=Æ/\l=#[E,g,d,I,os]/\∃i,r=(xs.toList.zip ys.toList).drop i) _
 case turn=>
  rintro⟨x,y⟩ r c l ⟨f,rfl,i,e⟩;by_cases lt:i<(xs.toList.zip ys.toList).length
  .rw[ak7 lt] at e;injection e with e1 e2
   have G:i<xs.size:=⋯
   have H:i<ys.size:=⋯
   obtain⟨ex,u⟩:x=xs[i]/\y=ys[i]:=by
    have z:=Prod.mk.inj<|e1.trans List.getElem_zip;show#[by simpa using z.1,by simpa using z.2]
   subst ex u;show È<|D i G H _ _ ?_
   wp_walk
   show#[rfl,rfl,i+1,e2]
  .rw[ao0 ⋯] at e;cases e
 case fin=>
  rintro⟨J,L⟩ l ⟨f,rfl,_⟩;simp only at f;subst f
  wp_walk
  show#[_,rfl,?_];simpa [ac1,hz] using v
 case h=>show#[rfl,rfl,0,rfl]
end
def pR.tuples(r:IsTup s.heap a xs)(u:IsTup s.heap b ys)(hz:xs.size=ys.size)(x:A.units<ģ)(v:∀j (y:j<xs.size) (B:j<ys.size),gP P w A.in1 s xs[j] ys[j]):pR P w A s `aw `bs:=λE Q q=>by
 ∎;let#[#[ca,l,C,sa],d,e,n,h]:=id r;let#[#[cb,o,D,sb],g,f,m,i]:=id u;∎;simp only at e h f i;subst e h f i;show ų (op:=.NotEq) (T:="tuple") #[_,d,rfl] #[_,g,rfl] PySem.F.slot_tuple_ne ?_ x;show Ő PySem.F.slot_tuple_ne #[_,d,rfl] PySem.F.entry_tuple_ne (PySem.F.args_tuple_ne_2 _ _) (Ly a b xs ys n m l o sa sb hz) #[d,g,v,#[(λz=>nomatch z),q]]
section
open PySem.AutoSeq1 (wpAny_loadPart')
open PySem.MeetsSeq PySem.MeetsSeq2 PySem.MeetsSeq3 PySem.SeqRoads2 PySem.SeqAt
def GR(a b:ai)(xs ys:cS)(n m:Nat)(u v:bW)(sa sb:Array (du))(hz:xs.size=ys.size):∀(k i:Nat),xs.size - i=k->
  ao6 P w (Ţ.«list.__eq__.loop» #[[.ref a,.ref b,ad7 i,ad7 3],[]]) (λA R s=>s.heap.get? a=À #[.type "list",u,.seq xs n,sa]/\s.heap.get? b=À #[.type "list",v,.seq ys m,sb]/\
   (∀j (C:j<xs.size) (D:j<ys.size),gP P w A.in1 s xs[j] ys[j])/\R (.ok<|.ret<|.bool Ç) s)
 |0,i,hk=>λA R s h=>by
  let#[z,g,d,B,os]:=s;let#[e,f,o,l]:=h
  wp_walk using wpAny_loadPart' e,wpAny_loadPart' f
  have q:xs[((i:Nat):Int).toNat]?=Æ:=by simp;omega
  have r:ys[((i:Nat):Int).toNat]?=Æ:=by simp;omega
  rw[q,r]
  wp_walk using wpAny_loadPart' e,wpAny_loadPart' f
  change R (.ok<|.ret<|.bool<|xs.size != ys.size) _;rw[hz,bne_self_eq_false];show l
 |k + 1,i,hk=>λA R s h=>by
  let#[z,g,d,B,os]:=s;let#[e,f,o,l]:=h
  wp_walk using wpAny_loadPart' e,wpAny_loadPart' f
  have x:i<xs.size:=⋯
  have y:i<ys.size:=⋯
  have q:xs[((i:Nat):Int).toNat]?=À xs[i]:=by simp[x]
  have r:ys[((i:Nat):Int).toNat]?=À ys[i]:=by simp[y]
  rw[q,r];show È<|o i x y _ _ ?_
  wp_walk
  have up:((i:Int)+1)=((i+1:Nat):Int):=Int.natCast_succ i;rw[up];show#[ϵ ŭ _,ae1 ah5 ?_];rw[Ϟ ŭ _];show GR a b xs ys n m u v sa sb hz k (i+1) ⋯ A R _ #[e,f,o,l]
def Lz(a b:ai)(xs ys:cS)(n m:Nat)(e f:bW)(sa sb:Array (du))(hz:xs.size=ys.size):
  ao6 P w (Ţ.«list.__ne__» #[[.ref a,.ref b],[]]) (λA R s=>s.heap.get? a=À #[.type "list",e,.seq xs n,sa]/\s.heap.get? b=À #[.type "list",f,.seq ys m,sb]/\
   (∀j (r:j<xs.size) (u:j<ys.size),gP P w A.in1 s xs[j] ys[j])/\R (.ok<|.ret<|.bool Ç) s):=λA R s h=>by
 ∎;let#[v,g,d,x,os]:=s;let#[i,l,q,o]:=h;∎;have sub:=ak2;have same:¬ (xs.size != ys.size)=Â:=by simp[hz]
 wp_walk using wpAny_loadPart' i,wpAny_loadPart' l
 show#[ϵ ŭ _,ae1 ah5 ?_];rw[Ϟ ŭ _];show GR a b xs ys n m e f sa sb hz _ 0 rfl A R _ #[i,l,q,o]
end
def pR.lists(r:s.heap.IsList a xs)(u:s.heap.IsList b ys)(hz:xs.size=ys.size)(x:A.units<ģ)(v:∀j (y:j<xs.size) (B:j<ys.size),gP P w A.in1 s xs[j] ys[j]):pR P w A s `aw `bs:=λE Q q=>by
 ∎;let#[#[ca,l,C,sa],d,e,n,h]:=id r;let#[#[cb,o,D,sb],g,f,m,i]:=id u;∎;simp only at e h f i;subst e h f i;show ų (op:=.NotEq) (T:="list") #[_,d,rfl] #[_,g,rfl] PySem.F.slot_list_ne ?_ x;show Ő PySem.F.slot_list_ne #[_,d,rfl] PySem.F.entry_list_ne (PySem.F.args_list_ne_2 _ _) (Lz a b xs ys n m l o sa sb hz) #[d,g,v,#[(λz=>nomatch z),q]]
end
section
variable{X:Cx}{aa:aZ}{σ:St}{H:Hp}{s:ao}
def WD(I:ax X aa σ H s)(D:(cR X.K H p xs/\cR X.K H q ys)\/(bw X.K H p xs/\bw X.K H q ys))(g:A.units<ģ)(J:↑xs=↑ys)(C:∀(j:Nat) x y u v,xs[j]?=À x->ys[j]?=À y->aE x u->aE y v->gP X.prog X.w A.in1 s u v):pR X.prog X.w A s `am `eo:=by
 have e:∀(us vs:aT),aH xs us->aH ys vs->∀j (b:j<us.toArray.size) (d:j<vs.toArray.size),gP X.prog X.w A.in1 s us.toArray[j] vs.toArray[j]:=by
  intro us vs a r2 j b d;have h:=↑a;have l:=↑r2;simp only[á] at b d;∎;let#[u,m,E]:=a.get (i:=j) (x:=xs[j]'⋯) ∅;let#[v,n,G]:=r2.get (i:=j) (x:=ys[j]'⋯) ∅;let#[_,o]:=Á.mp m;let#[_,r]:=Á.mp n;∎;have z:us.toArray[j]'(by simpa using b)=u:=by simpa using o
  have B:vs.toArray[j]'(by simpa using d)=v:=by simpa using r
  rw[z,B];show C j _ _ u v ∅ ∅ E G
 rcases D with⟨b,d⟩ |⟨b,d⟩
 .obtain⟨us,a,t1,_⟩:=I.tuple b;let#[vs,r2,f,_]:=I.tuple d;have h:=↑a;have l:=↑r2;show pR.tuples t1 f (by simp;omega) g<|e us vs a r2
 .obtain⟨us,a,t1,_⟩:=I.list b;let#[vs,r2,f,_]:=I.list d;have h:=↑a;have l:=↑r2;show pR.lists t1.isList f.isList (by simp;omega) g<|e us vs a r2
end
section
variable{X:Cx}
abbrev FF(K:aq):R2:=λx y H Q=>FA K x y H λ_ _=>Q `cx H
def Y0(m:X.A.units+64<ģ):cG X `cb (FF X.K):=by
 intro aa s i H x y v u Q I g l h;let#[n,p,q,o,r,hn,rfl,rfl,d,al,e]:=h;cases g;cases l;show WD I d ⋯ ↑al (λj x y u v a b f r2=>?_) X.xe _ #[.bl Ç,H,I,rfl,e];show Zs I n (A:=X.A.in1) (al.get a b) f r2 (by rw[ox];omega)
def Sk:cG X (ö .Gt) (λx y H Q=>∃i j,x=.str i/\y=.str j/\Q (.bl<|decide<|j.cps.toList<i.cps.toList) H):=by
 intro aa s G H x y v u Q I a b h;∎;let#[i,j,rfl,rfl,q]:=h;let#[t,rfl]:=a;let#[d,rfl]:=b;∎;show PySem.P.gt_str<|dq I q rfl
end
section
variable{prog:ê}{w:Ă}{A:ą}{E:ar->ao->Prop}{s:ao}
def Sl:aq8 (.type "list_reverseiterator") "__len__"=pure Æ:=by rw[typeLookup_type,builtinLookup_eq_fast];kernel_rfl
def UG:aq8 (.type "list_reverseiterator") "__length_hint__"=pure (À<|.builtin "list_reverseiterator.__length_hint__"):=by rw[typeLookup_type,builtinLookup_eq_fast];kernel_rfl
def UH{Q:Bool->ao->Prop}(a:s.TypeIs (.ref r) "list_reverseiterator")(h:Q Ç s):Ú `ae A (ŕ<|.ref r) Q E s:=by
 unfold ŕ;show È<|an6 a Sl ?_;change Ú _ A (specialOf (Ý r) (Str.ofString "__length_hint__") >>= _) _ _ _;show È<|an6 a UG ?_;generalize AZ:("list_reverseiterator.__length_hint__":String)=i0
 wp_delta
 rw[show splitId i0=À ("list_reverseiterator","__length_hint__") from by subst AZ;decide +kernel];subst AZ;show È (wpAny_isInstance (T:="list_reverseiterator") (b:=Â) a (by rw[isSubtype_type];kernel_rfl) ?_);show Ζ (λz=>av5 z ∎)<|λ_=>?_;show Ζ (λ_=>?_) (λz=>av5 (by decide +kernel) z);show Ζ (λz=>av5 z<|by decide +kernel)<|λ_=>?_;show Þ h
def Sn{St:Nat->aW->Prop}{R:Result->ao->Prop}(W:Walks prog w A.in1 I fp [I] n P St)(N:I∈fp)(H:∀i (s:ao),St i s.heap->s.TypeIs `bX T)(n1:(Ŋ T == Ŋ "list")=Ç)(n2:(Ŋ T == Ŋ "tuple")=Ç)(Y:∀(s:ao)(Q:Bool->ao->Prop)(E:ar->ao->Prop),s.TypeIs `bX T->Q Ç s->Ú `ae A.in1 (ŕ<|.ref I) Q E s)(a:St 0 s.heap)(S:ai)(j:S ∉ fp)(g:ar)(D:Nat)(v:s.heap.get? S=À { cls:=.type "list",data:=.seq ([].toArray) D })(O:∀h' q d c,(∀b o,b≠S->b≠I->s.heap.get? b=À o->h'.get? b=À o)->h'.get? S=À { cls:=.type "list",dict:=Æ,data:=.seq d c,slots:=([].toArray) }->ItemsOf P d n->R (.ok<|.ret g) { s with heap:=h',toks:=q })(hn:n<=Ò):
  Ú `ae A.in1 (Ŕ (.ref S) `bX g)
   (λu s'=>match u with |.done f=>R (.ok f) s' |.again C=>C.quiet=Â/\Ϧ `ae A C R s') (λe s'=>R `bl s') s:=by
 have B:S≠I:=λz=>j<|z ▸ N
 have m:∀(h:aW)(r q:Nat),St 0 h->(∀b o,b≠S->s.heap.get? b=À o->h.get? b=À o)->h.get? S=À { cls:=.type "list",data:=.seq ([].toArray) r }->
   Ϧ `ae A (.builtin "list.extend.loop" #[[.ref S,.ref I,g],[]]) R { s with heap:=h,toks:=q }:=by
  intro h r q st hk x;show codeAny_extend_loopS W.toS hn S j g n 0 _ ([].toArray) r rfl (Ĺ _) st x (ItemsOf.nil _) λs' d c J y l=>?_
  rw[Moved.eq_with J];show O s'.heap s'.toks d c (λb o G M e=>J.heap b o (λz=>by
   rcases ã.mp z with z |z
   .show G z
   .show M (è.mp z))<|hk b o G e) y l
 unfold Ŕ;show È<|wpAny_typeOf (H 0 s a) ?_;simp only[show af8 (.ref S) `bX=Ç by simp[af8,B],n1,n2,Bool.or_false,Ϻ,if_false];show È<|W.self 0 s _ _ a<|È<|Ŗ<|Y s _ _ (H 0 s a) ?_;show Ζ (λ_=>?_)<|λ_=>Þ #[ϵ PySem.F.plain_extend_loop _,m _ D _ a (λb o _ e=>e) v];show È<|wpAny_rule<|È ?_;change Ú _ _ (updateSeq S (·.push .none) >>= λ_=>updateSeq S (·.pop)) _ _ s;show È<|an7 v rfl ?_;have L:=Ē (Ś (·.push Ŧ)) v rfl;show an7 (hz:=by seq_fits) L rfl ?_;have q2:=Ē (Ś (·.pop)) L rfl;have pJ:∀b o,b≠S->s.heap.get? b=À o->((s.heap.update S (Ś (·.push Ŧ))).update S (Ś (·.pop))).get? b=À o:=λb o z e=>(ü _ _ z.symm).trans<|(ü _ _ z.symm).trans e
 show Þ #[ϵ PySem.F.plain_extend_loop _,m _ _ _ (W.frame 0 _ _ a λb U o e=>pJ b o (λz=>j<|z ▸ U) e) pJ q2]
def WE{St:Nat->aW->Prop}{Q:ar->ao->Prop}(W:Walks prog w A.in1.in1 I fp [I] n P St)(u:I∈fp)(m:∀b∈fp,b<⇑s)(x:∀i (s:ao),St i s.heap->s.TypeIs `bX T)(D:(Ŋ T == Ŋ "list")=Ç)(G:(Ŋ T == Ŋ "tuple")=Ç)(B:∀(s:ao)(Q:Bool->ao->Prop)(E:ar->ao->Prop),s.TypeIs `bX T->Q Ç s->Ú `ae A.in1.in1 (ŕ<|.ref I) Q E s)(q:St 0 s.heap)(hn:n<=Ò)(v:∀h' r a c,(∀b o,b≠I->s.heap.get? b=À o->h'.get? b=À o)->h'.get? ⇑s=À { cls:=.type "list",dict:=Æ,data:=.seq a c,slots:=([].toArray) }->ItemsOf P a n->Q `ce { s with heap:=h',toks:=r }):
  Ú `ae A (call (.type "list") [.ref I]) Q E s:=by
 show callType_codes (Q₁:=λo d=>o=.ref ⇑s/\d={ s with heap:=s.heap.push { cls:=.type "list",data:=.seq ([].toArray) } }) PySem.F.called_list (PySem.F.typeCall_list_1 _) PySem.F.entry_list_init (code_list_new _ #[rfl,rfl]) λo d h=>?_
 let#[rfl,rfl]:=h;have j:(s.heap.push { cls:=.type "list",data:=.seq ([].toArray) }).get? ⇑s=À { cls:=.type "list",data:=.seq ([].toArray) }:=Ô _ rfl;have g:⇑s ∉ fp:=λz=>ĸ _<|m _ z
 show#[#[_,j,rfl],PySem.F.args_list_init_2 _ _,?_];change Ú _ _ (do let old <- ah4 (.ref ⇑s);Builtin.List.listUpdate `ce (λ_=>([].toArray));letGo old.toList.reverse;Ŕ `ce `bX .none) _ _ _;show È ?_;unfold ah4;show È<|wpAny_seqItems j rfl<|Þ ?_;change Ú _ _ (updateSeq ⇑s (λ_=>([].toArray)) >>= λ_=>letGo (([].toArray):cS).toList.reverse >>= λ_=>Ŕ `ce `bX .none) _ _ _;show È<|an7 j rfl ?_;have H:=Ē (Ś<|λ_=>(([].toArray):cS)) j rfl;have pJ:∀b o,b≠⇑s->s.heap.get? b=À o->((s.heap.push { cls:=.type "list",data:=.seq ([].toArray) }).update ⇑s (Ś<|λ_=>(([].toArray):cS))).get? b=À o:=
  λb o z e=>(ü _ _ z.symm).trans<|Ã _ e
 show È<|wpAny_letGo ?_;show Sn (A:=A.in1) W u x D G B (W.frame 0 _ _ q λb y o e=>pJ b o (λz=>g<|z ▸ y) e) _ g .none _ H (λh' r a c C l f=>?_) hn;show#[rfl,v h' r a c (λb o z e=>C b o (é<|Ì e) z<|pJ b o (é<|Ì e) e) l f]
end
def UI(h:aH xs us)(g:aH ys vs):aH (xs++ys) (us++vs):=by
 induction h with
 |nil=>show g
 |cons a _ b=>show .cons a b
def UJ(h:aH xs us):aH xs.reverse us.reverse:=by
 induction h with
 |nil=>show .nil
 |cons a _ b=>rw[Ν,Ν];show UI b<|.cons a .nil
section
variable{X:Cx}
abbrev Ky(K:aq)(e:TA):TE:=λj H Q=>e j H λvs b=>∃a d,vs=[.ref a]/\bw K b a d/\∀p,b p=Æ->Q `am (aU b p<|.af d.reverse)
def Rg(hc:X.calm=Â)(hg:Gl X "list")(hm:X.mg "list"=Æ)(B:Gl X "reversed")(E:X.mg "reversed"=Æ)(ha:PA X [l] ta)(G:do n6 l X.env)(hs:do ē [.Call (.Name "reversed" p2) [l] [] pos2] X.env=[(Ç,eval (.Call (.Name "reversed" p2) [l] [] pos2) X.env)]):
  PE X (.Call (.Name "list" p) [.Call (.Name "reversed" p2) [l] [] pos2] [] pos) (Ky X.K ta):=by
 intro aa s i H Q I h;show Ħ<|k6 I hg hm (u:=.type "list") rfl ?_;show Ą ?_ hs rfl;rw[hs];change Ú _ _ (spliced ((Ç,eval (.Call (.Name "reversed" p2) [l] [] pos2) X.env)::Ϗ pos [])) _ _ s;show ļ ?_;show Call_<|k6 I B E (u:=.type "reversed") rfl<|Ą (bu (ha pos2 aa s i H _ I h) λus m L=>?_) G rfl;let#[vs,O,x,r1,a,xs,e,hq,q]:=L;subst e;cases r1 with
 |cons r rr=>
  cases rr;cases r;let#[d,N,J,hz]:=x.list hq;have hl:=↑N;show call_reversed_list J.isList ?_;show Ş ?_;have M:a<⇑m:=let ⟨o,ho,_⟩:=J.isList;Ì ho;have W:=Walks.listRev (prog:=X.prog) (w:=X.w) (A:=X.A.in1.in1) (show X.A.in1.in1.handled=Æ from I.ok.hd hc) ⇑m a (é M) d.toArray;have I2:ax X aa i O { m with heap:=m.heap.push (revObj a<|(d.toArray.size:Int) - 1) }:=x.kept (t':=m.toks) λb o e=>Ã _ e
  have hI:(m.heap.push<|revObj a<|(d.toArray.size:Int) - 1).IsRevIter ⇑m a ((d.toArray.size:Int) - 1 - ((0:Nat):Int)):=by
   show#[_,Ô _ rfl,rfl,?_];rw[show (d.toArray.size:Int) - 1 - ((0:Nat):Int)=(d.toArray.size:Int) - 1 by omega];rfl
  have f:=x.gx (Î _)<|x.aS.fresh<|Î ⇑m;show WE (s:={ m with heap:=m.heap.push (revObj a<|(d.toArray.size:Int) - 1) }) W ∅ (λb hb=>?_) (λ_ _ z=>z.2.1.typeIs) ∎ ∎ (λ_ _ _ t h=>UH t h) #[Ĺ _,hI,J.isList.at λo e=>Ã _ e] (by simp;omega) λh' tk n c hk hS g=>?_
  .show b<(m.heap.push _).objs.size;rw[Α];rcases ã.mp hb with z |z
   .rw[z];show Ŷ _
   .rw[è.mp z];show Ģ M
  .have z1:(m.heap.push<|revObj a<|(d.toArray.size:Int) - 1).objs.size=⇑m+1:=Α ..;have D:∀b o,m.heap.get? b=À o->h'.get? b=À o:=λb o e=>hk b o (é<|Ì e)<|Ã _ e
   have U:n.toList=d.reverse:=by
    show Ŏ λj=>?_
    rcases Nat.lt_or_ge j n.size with C |C
    .obtain⟨v,hv⟩:∃v,n[j]?=À v:=#[n[j],by simp[C]];have Y:=g.2 j v hv;have y:=g.1;rw[ϑ,hv,List.getElem?_reverse (by simp at y;omega),<- Y];simp
    .have y:=g.1;rw[ó (by simpa using C),ó (by simp at y ⊢;omega)]
   show#[.ref _,_,x.laid (a:=(m.heap.push<|revObj a<|(d.toArray.size:Int) - 1).objs.size) (o:=.af xs.reverse) (h':=h') (t':=tk) D (by rw[z1];omega) #[by rw[List.length_reverse];show hz,d.reverse,c,UJ N,by rw[<- U,Ϡ];show hS],rfl,q _ (by rw[z1];show x.aS.fresh ⋯)]
end
end L2
namespace Vc
open PySem L2
def K9{Fb Hb F H e f:Hp}{S:ai->Prop}(i:Gr0 Fb Hb F H)(v:H a=À `as)(u:F a=Æ\/F a=À `as)(j:Gr0 (fz Fb a<|.aC ob<|.dK kvs) (fz Hb a<|.aC ob<|.dK kvs) e f)(w:e a=fz F a (.aC ob<|.dK kvs) a)(h:Fz (λb=>b=a\/S b) e):
  ∃d:Hp,Gr0 Fb Hb d (aU f a<|.dK kvs)/\Fz S d/\Le e d/\d a=F a/\(aU f a<|.dK kvs) a=À `as/\(∀b,b≠a->d b=e b)/\∀b,b≠a->(aU f a<|.dK kvs) b=f b:=
 VA (R:=λU=>∃d:Hp,Gr0 Fb Hb d U/\Fz S d/\Le e d/\d a=F a/\U a=À `as/\(∀b,b≠a->d b=e b)/\∀b,b≠a->U b=f b) i v u j w h λg x l m n o q r s=>#[g,l,m,n,o,q,r,s]
end Vc
namespace L2
open PySem PySem.Spec PyProof.Rows
section
variable{X:Cx}
abbrev ES(K:aq):R2:=λx y H Q=>∃l b a d,x=.ref l/\y=.ref b/\bw K H l a/\bw K H b d/\↑a+↑d<=Ò/\∀p,H p=Æ->Q `am (aU H p<|.af<|a++d)
def WG:cG X `dv (ES X.K):=by
 intro aa s j H x y v u Q I E G h;let#[l,b,xs,zs,rfl,rfl,D,C,M,q]:=h;cases E;cases G;∎;let#[d,r,p1,z1]:=I.list D;let#[a,r2,p2,z2]:=I.list C;∎;have N:=↑r;have O:=↑r2;∎;let#[#[J,A,U,i],z,w,n,hd]:=p1.isList;let#[#[L,B,Y,o],g,e,m,f]:=p2.isList;∎;simp only at w hd e f;subst w hd e f;show concat_meets #[_,z,rfl] #[_,g,rfl] noFill_list_add seq_list_add PySem.F.slot_list_add PySem.F.entry_list_add (PySem.F.args_list_add_2 _ _) (list_addW l b d.toArray a.toArray n m A B i o (by simp;omega)) #[z,g,?_];rw[show d.toArray++a.toArray=(d++a).toArray by simp];show#[.ref _,_,I.vd (t':=s.toks) (r.append r2) (by rw[Ù];omega),rfl,q _ I.fresh]
end
end L2
namespace Vc
open PySem L2
abbrev AZ(a b:ai)(H:Hp):Hp:=λx=>if x=a\/x=b then Æ else H x
end Vc
namespace Vc
open PySem L2 Sf
abbrev c9(l:c6)(H:Hp):Hp:=λx=>if x∈l then Æ else H x
def rY{H:Hp}(a:x ∉ l)(h:H x=À o):c9 l H x=À o:=by unfold c9;rw[av3 a];show h
def Y1(h:x∈l):c9 l H x=Æ:=av4 h
def UK{H:Hp}(h:c9 l H x=À o):x ∉ l/\H x=À o:=by
 unfold c9 at h;by_cases z:x∈l
 .rw[av4 z] at h;cases h
 .rw[av3 z] at h;show#[z,h]
def Bn(a:aD F H):Gr0 F (c9 l H) F H:=#[λ_ _ e=>(UK e).2,aD.refl _,a,λx u h e=>by rw[h] at e;cases e]
def OC{Hb:Hp}(h:Hb a=Æ):∀x∈[a],Hb x=Æ:=λx z=>by rw[è.mp z];show h
def OD{Hb:Hp}(h:Hb a=Æ)(g:Hb b=Æ):∀x∈[a,b],Hb x=Æ:=λx z=>(ã.mp z).elim (λe=>by rw[e];show h)<|OC g x
def GG{Hb:Hp}(h:Hb a=Æ)(g:Hb b=Æ)(f:Hb c=Æ):∀x∈[a,b,c],Hb x=Æ:=λx z=>(ã.mp z).elim (λe=>by rw[e];show h)<|OD g f x
end Vc
namespace L2
open PySem PySem.Spec PyProof.Rows
def Bo(aS:dG P w H h)(e:Rd H a `bz):∃b,ik h a dx C b/\∀f,cq `aD (b f):=by
 have x:bc P w H h a `bz:=by
  rcases e with e |⟨o,e⟩
  .show aS a _ e
  .show (aS a _ e).2
 let#[d,z,ne,g,b,n,r,q]:=x;show#[b,#[g,n,ne],r]
abbrev yY(K:aq)(e:TE)(f:Str):TE:=λj H Q=>e j H λx b=>∃a C d fs v,x=.ref a/\Rd b a (.ins C d fs)/\g9 K C/\bj K C f/\fs.lookup f=À v/\Q v b
section
variable{X:Cx}{CX:gB}{k:Nat}{E:XK}{m f:Str}{pos apos:Pos}{o e:ě}{ta:TE}{D:ai->Nat->Prop}{sp:Nat->Sp}
def HX(z:PE X e ta)(y:õ e f X.env `bg=eval e X.env):PE X `aN (yY X.K ta f):=by
 intro aa s j H Q I h;show HK y<|bu (z aa s j H _ I h) λu L d=>?_;let#[x,i,b,G,a,C,J,fs,v,ex,w,c,n,l,q]:=d;subst ex;obtain rfl:u=Ý a:=G;∎;let#[B,O,r]:=Bo b.aS w;let#[u,A,g]:=cq.some_of (v:=v) (o:=B f) (by rw[<- l];show r f);∎;show WZ b.dh O (c.get f) c.hd n A (GI g) #[v,i,b.tok _,g,q]
end
section
variable{X:Cx}{CX:gB}{k:Nat}{f C:ai}{fd:į}{ps:ah}{sp:Sp}{dvs:ay}{ds:aT}{x:Str}{p pos:Pos}{e:ě}{es:b5}{t:TA}
abbrev yN(C:ai)(sp:Sp)(dvs:ay)(R:St->XK)(t:TA):TE:=λj H Q=>t j H λvs b=>∀x a,b x=Æ->b a=Æ->a≠x->
 sp (.ref x::(vs++dvs)) (aU (aU b a<|.own x) x<|.ins C a []) (λv d=>v=.aN/\Q `aZ d) (R j)
def So{H:Hp}{Q:VK}(M:Mk X.K C f)(F:aK X.prog X.w X.K X.mg X.base CX k f fd ps sp)(z:bD (k+1) X.A)(q:Binds X.K fd ps ds)(hd:aH dvs ds)(B:kg CX X j E)(I:ax X aa j H s)(r:aH vs us)(h:∀x d,H x=Æ->H d=Æ->d≠x->sp (.ref x::(vs++dvs)) (aU (aU H d<|.own x) x<|.ins C d []) (λv l=>v=.aN/\Q `aZ l) E):
  Ú `ab X.A (call `ah us) `av X.xe s:=by
 have g:=h (⇑s+1) ⇑s (I.aS.fresh<|ai4 _) (I.aS.fresh<|Î _) (é<|Ŷ _);have b:=ax.made (C:=C) I;have r2:aH (V.ref (⇑s+1)::(vs++dvs)) (Ý (⇑s+1)::(us++ds)):=.cons rfl<|r.append hd;have y:(Ý (⇑s+1)::us++ds).length=↑ps:=(r2.length.symm.trans<|F.len _ _ _ _ g)
 show ad9 (TF (f:=f) I.dh M.makes M.init (beq_iff_eq.mp M.fn) (Ξ (F.run _ X.stack _ _ #[Ý (⇑s+1)::us,[]] (Ý (⇑s+1)::(us++ds)) _ _ E (z.make C us [])
  (b.nQ.make C us []) (q _ (Ý (⇑s+1)::us) b.dh y) r2 g) λo J a=>?_))
 match o,a with
 |.error e,a=>show B aa _ _ e J b a
 |.ok (.ret u),a=>
  let#[v,i,m,G,n,D]:=b.after a;subst n;show#[G,#[V.ref<|⇑s+1,i,m,rfl,D]]
 |.ok .next,a=>show a.elim
 |.ok .brk,a=>show a.elim
 |.ok .cont,a=>show a.elim
def UL{R:St->XK}(M:Mk X.K C f)(F:aK X.prog X.w X.K X.mg X.base CX k f fd ps sp)(o:bD (k+1) X.A)(n:Gl X x)(hm:X.mg x=À `ah)(l:Binds X.K fd ps ds)(hd:aH dvs ds)(u:∀j,kg CX X j<|R j)(i:PA X (e::es) t)(a: ~~~(dY x))(m:do fA e es X.env)(b:do gq pos es X.env):
  PE X (.Call `aP (e::es) [] pos) (yN C sp dvs R t):=by
 intro aa s j H Q I h;show Ħ<|oH I n hm ?_ a;show ac8 (h₀:=X.base) I.ok.mod.nU M.kp (bu `aT λus y d=>by let#[vs,v,g,r,q]:=d;show#[g.dh,So M F o l hd (u j) g r q]) m b
end
abbrev gp(P:ê)(w:Ă)(K:aq)(mg:br)(base:aW)(CX:gB)(k:Nat)(m:Str)(C:ai)(ps:ah)(sp:Sp):Prop:=
 g9 K C/\∃f a,Fs K C m f/\aK P w K mg base CX k f a ps sp/\Binds K a ps []
def gp.mono{P:ê}{w:Ă}{K:aq}{mg:br}{base:aW}{CX:gB}{k a:Nat}{m:Str}{C:ai}{ps:ah}{sp:Sp}(h:gp P w K mg base CX k m C ps sp)(le:k<=a):gp P w K mg base CX a m C ps sp:=by
 let#[c,f,b,hm,F,d]:=h;show#[c,f,b,hm,F.mono le,d]
end L2
namespace Vc
open PySem L2 Sf
section
variable{H:Hp}{Q:VK}{l:ai}
def HY:cW (ws++[v]) (-1)=À v:=by
 unfold cW iM;rw[av3 (by decide:¬ (0:Int)<=-1),Ù,av4 (by simp only[Ö,ϔ];omega)];have e:((-1:Int)+((↑ws+[v].length:Nat):Int)).toNat=↑ws:=by simp only[Ö,ϔ];omega
 rw[e];change (ws++[v])[ws.length]?=À v;rw[Ĕ<|Î _,ag7];rfl
end
end Vc
namespace L2
open PySem PySem.Spec PyProof.Rows
section
variable{g:TG}{ti:TT}{te:TE}{ix:bC}{σ:St}{Q:VK}
def WH(Pv:Nat->ay->Hp->Prop)(r:Pv 0 [] H1)(j:∀i d H,i<=↑kvs->Pv i d H->H a=À (.aC ob<|.dK kvs))(hs:∀i k v d H p,kvs[i]?=À (k,v)->Pv i d H->H p=Æ->g `am `bd (aU H p<|.aF [kV k,v]) λe l=>Wk `bd e/\ti e l λb h=>if b=Â then te e h λv m=>↑d<Ò/\Pv (i+1) (d++[v]) m else Pv (i+1) d h)(hd:∀d H,Pv ↑kvs d H->↑d<=Ò/\∀p,H p=Æ->Q `am (aU H p<|.af d)):yQ (rf a ob kvs) g ti te ix σ Q H1:=by
 show BY (n:=↑kvs) Pv r (λi d H f p=>#[f,j i d H (ň f) p]) (λd H p=>#[Î _,j _ d H (Î _) p]) (λi x d H u f p y=>?_) hd;let#[s,k,v,o,q,rfl,rfl]:=y;show hs i k v d H s o p q
end
abbrev ie(K:aq)(x a:Str)(st:Ā)(f:ai):Prop:=∃b,iO K x a st f b
def nT{K:aq}{x a:Str}{st:Ā}{f:ai}{oc:ar}{od an:bW}{osl:Array (du)}{kV doc pm bS ct:ar}(l:K.lookup f=À #[oc,od,.func<|aj2 x a (rF st) (kF st) (bx st) .none kV doc pm an bS ct,osl])(c:W.codeIn K bS a=Â)(k:ώ K `ax=Â):ie K x a st f:=#[_,Zp l c k]
def ie.kp{K:aq}{x a:Str}{st:Ā}{f:ai}(h:ie K x a st f):ώ K `ax=Â:=h.choose_spec.kp
abbrev XD(d:ai)(fs:List (Str×V)):HO:=.ext λh=>∃m,h.Ns1 d m/\∀f,cq `aD<|m f
end L2
namespace Pu
open PySem L2 Vc Sf
inductive Fl where |f |o |l (k:Bool)
 deriving DecidableEq
inductive Tr where
 |int (n:Int) |bl (b:Bool) |str (s:Str) |aN |ak |ty (n:String) |cl (a:Ψ) |exc (b:Ψ) (P:Hp -> Option Ψ -> Prop)
 |aF (xs:List Tr) |af (f:Fl) (xs:List Tr) |aP (f:Fl) (kvs:List (aI × Tr)) |ins (f:Fl) (c:Ψ) (fs:List (Str × Tr))
nonrec abbrev aB:=Tr->Prop
nonrec abbrev bL:=List<|aI×Tr
nonrec abbrev bq:=List<|Str×Tr
nonrec abbrev ag:=List Tr
nonrec abbrev aA:=ag->Prop
nonrec abbrev Cs:=List<|ai×HO
mutual
noncomputable def R(K:ac7)(F:Hp)(B:Bool->Hp):Tr->V->Cs->Prop
 |.int n,v,cs=>v=.int n /\ cs=[]
 |.bl b,v,cs=>v=.bl b /\ cs=[]
 |.str s,v,cs=>v=.str s /\ cs=[]
 |.aN,v,cs=>v=.aN /\ cs=[]
 |.ak,_,_=>False
 |.ty n,v,cs=>v=.ty n /\ cs=[]
 |.cl a,v,cs=>v=.ref a /\ cs=[]
 |.exc b P,v,cs=>cs=[] /\ ∃a o,v=.ref a /\ Rd F a (mR a b o) /\ ∀g,Le F g -> P g o
 |.aF xs,v,cs=>∃a vs,v=.ref a /\ cR K F a vs /\ Rs K F B xs vs cs
 |.af .f xs,v,cs=>cs=[] /\ ∃a vs,v=.ref a /\ bw K F a vs /\ Rs K F B xs vs []
 |.af (.l k) xs,v,cs=>cs=[] /\ ∃a vs,v=.ref a /\ bw K (B k) a vs /\ Rs K F B xs vs []
 |.af .o xs,v,cs=>∃a vs d,v=.ref a /\ cs=(a,.af vs)::d /\ Rs K F B xs vs d
 |.aP .f xs,v,cs=>cs=[] /\ ∃a vs,v=.ref a /\ Rd F a `az /\ Rk K F B xs vs [] /\ (xs.map (·.1)).Nodup
 |.aP (.l k) xs,v,cs=>cs=[] /\ ∃a vs,v=.ref a /\ Rd (B k) a `az /\ Rk K F B xs vs [] /\ (xs.map (·.1)).Nodup
 |.aP .o xs,v,cs=>∃a vs d,v=.ref a /\ cs=(a,.dK vs)::d /\ Rk K F B xs vs d /\ (xs.map (·.1)).Nodup
 |.ins .f c xs,v,cs=>cs=[] /\ ∃a e vs,v=.ref a /\ Rd F a (.ins c e vs) /\ Rf K F B xs vs []
 |.ins (.l k) c xs,v,cs=>cs=[] /\ ∃a e vs,v=.ref a /\ Rd (B k) a (.ins c e vs) /\ Rf K F B xs vs []
 |.ins .o c xs,v,cs=>∃a e vs d,v=.ref a /\ cs=(a,.ins c e vs)::d /\ Rf K F B xs vs d
noncomputable def Rs(K:ac7)(F:Hp)(B:Bool->Hp):List Tr->List V->Cs->Prop
 |[],vs,cs=>vs=[] /\ cs=[]
 |x::xs,vs,cs=>∃v r c d,vs=v::r /\ cs=c ++ d /\ R K F B x v c /\ Rs K F B xs r d
noncomputable def Rk(K:ac7)(F:Hp)(B:Bool->Hp):List (aI×Tr)->List (aI×V)->Cs->Prop
 |[],vs,cs=>vs=[] /\ cs=[]
 |(k,x)::xs,vs,cs=>∃v r c d,vs=(k,v)::r /\ cs=c ++ d /\ R K F B x v c /\ Rk K F B xs r d
noncomputable def Rf(K:ac7)(F:Hp)(B:Bool->Hp):List (Str×Tr)->List (Str×V)->Cs->Prop
 |[],vs,cs=>vs=[] /\ cs=[]
 |(k,x)::xs,vs,cs=>∃v r c d,vs=(k,v)::r /\ cs=c ++ d /\ R K F B x v c /\ Rf K F B xs r d
end
mutual
noncomputable def aO:Tr->Tr
 |.aF a=>.aF<|dC a
 |.af .o a=>.af `bP<|dC a
 |.aP .o a=>.aP `bP<|eU a
 |.ins .o c a=>.ins `bP c<|cD a
 |t=>t
noncomputable def dC:List Tr->List Tr
 |[]=>[] |x::xs=>aO x::dC xs
noncomputable def eU:List (aI×Tr)->List (aI×Tr)
 |[]=>[] |(k,x)::xs=>(k,aO x)::eU xs
noncomputable def cD:List (Str×Tr)->List (Str×Tr)
 |[]=>[] |(k,x)::xs=>(k,aO x)::cD xs
end
mutual
noncomputable def aC:Tr->Tr
 |.aF a=>.aF<|bz a
 |.af .o a=>.af .f<|bz a
 |.aP .o a=>.aP .f<|df a
 |.ins .o c a=>.ins .f c<|gy a
 |t=>t
noncomputable def bz:List Tr->List Tr
 |[]=>[] |x::xs=>aC x::bz xs
noncomputable def df:List (aI×Tr)->List (aI×Tr)
 |[]=>[] |(k,x)::xs=>(k,aC x)::df xs
noncomputable def gy:List (Str×Tr)->List (Str×Tr)
 |[]=>[] |(k,x)::xs=>(k,aC x)::gy xs
end
mutual
noncomputable def cZ:Tr->Bool
 |.aF a=>dF a
 |.af (.l _) _=>Ç
 |.aP (.l _) _=>Ç
 |.ins (.l _) _ _=>Ç
 |.af _ a=>dF a
 |.aP _ a=>jv a
 |.ins _ _ a=>eX a
 |_=>Â
noncomputable def dF:List Tr->Bool
 |[]=>Â |x::xs=>cZ x&&dF xs
noncomputable def jv:List (aI×Tr)->Bool
 |[]=>Â |(_,x)::xs=>cZ x&&jv xs
noncomputable def eX:List (Str×Tr)->Bool
 |[]=>Â |(_,x)::xs=>cZ x&&eX xs
end
mutual
noncomputable def bZ:Tr->Bool
 |.aF a=>eB a
 |.af (.l Â) _=>Ç
 |.aP (.l Â) _=>Ç
 |.ins (.l Â) _ _=>Ç
 |.af _ a=>eB a
 |.aP _ a=>eW a
 |.ins _ _ a=>gz a
 |_=>Â
noncomputable def eB:List Tr->Bool
 |[]=>Â |x::xs=>bZ x&&eB xs
noncomputable def eW:List (aI×Tr)->Bool
 |[]=>Â |(_,x)::xs=>bZ x&&eW xs
noncomputable def gz:List (Str×Tr)->Bool
 |[]=>Â |(_,x)::xs=>bZ x&&gz xs
end
mutual
noncomputable def dn:Tr->Tr
 |.aF a=>.aF<|cV a
 |.af (.l _) a=>.af `aI<|cV a
 |.aP (.l _) a=>.aP `aI<|iE a
 |.ins (.l _) c a=>.ins `aI c<|iY a
 |.af .o a=>.af .o<|cV a
 |.aP .o a=>.aP .o<|iE a
 |.ins .o c a=>.ins .o c<|iY a
 |.af .f a=>.af .f<|cV a
 |.aP .f a=>.aP .f<|iE a
 |.ins .f c a=>.ins .f c<|iY a
 |t=>t
noncomputable def cV:List Tr->List Tr
 |[]=>[] |x::xs=>dn x::cV xs
noncomputable def iE:List (aI×Tr)->List (aI×Tr)
 |[]=>[] |(k,x)::xs=>(k,dn x)::iE xs
noncomputable def iY:List (Str×Tr)->List (Str×Tr)
 |[]=>[] |(k,x)::xs=>(k,dn x)::iY xs
end
mutual
theorem R.mo{B B':Bool->Hp}(e:Le F F')(b:∀k,Le (B k)<|B' k):∀(t:Tr){v:V}{cs:Cs},R K F B t v cs->R K F' B' t v cs
 |.int _,_,_,h=>h
 |.bl _,_,_,h=>h
 |.str _,_,_,h=>h
 |.aN,_,_,h=>h
 |.ak,_,_,h=>h
 |.ty _,_,_,h=>h
 |.cl _,_,_,h=>h
 |.exc _ _,_,_,y=>by let#[z,a,o,d,g,i]:=y;show#[z,a,o,d,Le.exc e g,λq l=>i q<|e.trans l]
 |.aF xs,_,_,y=>by let#[a,vs,d,g,i]:=y;show#[a,vs,d,e.aF g,Rs.mo e b xs i]
 |.af .f xs,_,_,y=>by let#[z,a,vs,d,g,i]:=y;show#[z,a,vs,d,e.af g,Rs.mo e b xs i]
 |.af (.l k) xs,_,_,y=>by let#[z,a,vs,d,g,i]:=y;show#[z,a,vs,d,(b k).af g,Rs.mo e b xs i]
 |.af .o xs,_,_,y=>by let#[a,vs,j,d,g,i]:=y;show#[a,vs,j,d,g,Rs.mo e b xs i]
 |.aP .f xs,_,_,y=>by let#[z,a,vs,d,g,i,n]:=y;show#[z,a,vs,d,e.aP g,Rk.mo e b xs i,n]
 |.aP (.l k) xs,_,_,y=>by let#[z,a,vs,d,g,i,n]:=y;show#[z,a,vs,d,(b k).aP g,Rk.mo e b xs i,n]
 |.aP .o xs,_,_,y=>by let#[a,vs,j,d,g,i,n]:=y;show#[a,vs,j,d,g,Rk.mo e b xs i,n]
 |.ins .f _ xs,_,_,y=>by let#[z,a,m,vs,d,g,i]:=y;show#[z,a,m,vs,d,e _ _ (by intro _ _ z;cases z) g,Rf.mo e b xs i]
 |.ins (.l k) _ xs,_,_,y=>by let#[z,a,m,vs,d,g,i]:=y;show#[z,a,m,vs,d,b k _ _ (by intro _ _ z;cases z) g,Rf.mo e b xs i]
 |.ins .o _ xs,_,_,y=>by let#[a,m,vs,j,d,g,i]:=y;show#[a,m,vs,j,d,g,Rf.mo e b xs i]
theorem Rs.mo{B B':Bool->Hp}(e:Le F F')(b:∀k,Le (B k)<|B' k):∀(t:List Tr){v:List V}{cs:Cs},Rs K F B t v cs->Rs K F' B' t v cs
 |[],_,_,h=>h
 |x::xs,_,_,y=>by let#[v,r,c,d,a,f,g,i]:=y;show#[v,r,c,d,a,f,R.mo e b x g,Rs.mo e b xs i]
theorem Rk.mo{B B':Bool->Hp}(e:Le F F')(b:∀k,Le (B k)<|B' k):∀(t:List (aI×Tr)){v:List (aI×V)}{cs:Cs},Rk K F B t v cs->Rk K F' B' t v cs
 |[],_,_,h=>h
 |(_,x)::xs,_,_,y=>by let#[v,r,c,d,a,f,g,i]:=y;show#[v,r,c,d,a,f,R.mo e b x g,Rk.mo e b xs i]
theorem Rf.mo{B B':Bool->Hp}(e:Le F F')(b:∀k,Le (B k)<|B' k):∀(t:List (Str×Tr)){v:List (Str×V)}{cs:Cs},Rf K F B t v cs->Rf K F' B' t v cs
 |[],_,_,h=>h
 |(_,x)::xs,_,_,y=>by let#[v,r,c,d,a,f,g,i]:=y;show#[v,r,c,d,a,f,R.mo e b x g,Rf.mo e b xs i]
end
section
mutual
theorem R.aO(b:∀k,Le (B k)<|B' k):∀(t:Tr){v:V}{cs:Cs},R K F B t v cs->(∀p∈cs,B' Â p.1=À p.2)->R K F B' (aO t) v []
 |.int _,_,_,y,_=>by let#[h,_]:=y;show#[h,rfl]
 |.bl _,_,_,y,_=>by let#[h,_]:=y;show#[h,rfl]
 |.str _,_,_,y,_=>by let#[h,_]:=y;show#[h,rfl]
 |.aN,_,_,y,_=>by let#[h,_]:=y;show#[h,rfl]
 |.ak,_,_,h,_=>h.elim
 |.ty _,_,_,y,_=>by let#[h,_]:=y;show#[h,rfl]
 |.cl _,_,_,y,_=>by let#[h,_]:=y;show#[h,rfl]
 |.exc _ _,_,_,y,_=>by let#[_,a,o,h,r]:=y;show#[rfl,a,o,h,r]
 |.aF xs,_,_,y,m=>by let#[a,vs,e,d,g]:=y;show#[a,vs,e,d,Rs.aO b xs g m]
 |.af .f xs,_,_,y,_=>by let#[z,a,vs,e,d,g]:=y;show#[rfl,a,vs,e,d,Rs.mo `bo b xs g]
 |.af (.l k) xs,_,_,y,_=>by let#[z,a,vs,e,d,g]:=y;show#[rfl,a,vs,e,(b k).af d,Rs.mo `bo b xs g]
 |.af .o xs,_,_,y,m=>by let#[a,vs,n,e,d,g]:=y;show#[rfl,a,vs,e,bw.of (m (a,.af vs) (by rw[d];show .head _)),Rs.aO b xs g λp q=>m p (by rw[d];show .tail _ q)]
 |.aP .f xs,_,_,y,_=>by let#[z,a,vs,e,d,g,j]:=y;show#[rfl,a,vs,e,d,Rk.mo `bo b xs g,j]
 |.aP (.l k) xs,_,_,y,_=>by let#[z,a,vs,e,d,g,j]:=y;show#[rfl,a,vs,e,(b k).aP d,Rk.mo `bo b xs g,j]
 |.aP .o xs,_,_,y,m=>by let#[a,vs,n,e,d,g,j]:=y;show#[rfl,a,vs,e,Rd.of (m (a,.dK vs) (by rw[d];show .head _)),Rk.aO b xs g λp q=>m p (by rw[d];show .tail _ q),by rw[fZ];show j]
 |.ins .f _ xs,_,_,y,_=>by let#[z,a,i,vs,e,d,g]:=y;show#[rfl,a,i,vs,e,d,Rf.mo `bo b xs g]
 |.ins (.l k) _ xs,_,_,y,_=>by let#[z,a,i,vs,e,d,g]:=y;show#[rfl,a,i,vs,e,b k _ _ (by intro _ _ z;cases z) d,Rf.mo `bo b xs g]
 |.ins .o _ xs,_,_,y,m=>by let#[a,i,vs,n,e,d,g]:=y;show#[rfl,a,i,vs,e,Rd.of (m (a,.ins _ i vs) (by rw[d];show .head _)),Rf.aO b xs g λp q=>m p (by rw[d];show .tail _ q)]
theorem Rs.aO(b:∀k,Le (B k)<|B' k):∀(t:List Tr){v:List V}{cs:Cs},Rs K F B t v cs->(∀p∈cs,B' Â p.1=À p.2)->Rs K F B' (dC t) v []
 |[],_,_,y,_=>by let#[h,_]:=y;show#[h,rfl]
 |x::xs,_,_,y,m=>by let#[v,r,c,d,e,a,f,g]:=y;show#[v,r,[],[],e,rfl,R.aO b x f λp q=>m p (by rw[a];show Ê.mpr<|.inl q),Rs.aO b xs g λp q=>m p (by rw[a];show Ê.mpr<|.inr q)]
theorem Rk.aO(b:∀k,Le (B k)<|B' k):∀(t:List (aI×Tr)){v:List (aI×V)}{cs:Cs},Rk K F B t v cs->(∀p∈cs,B' Â p.1=À p.2)->Rk K F B' (eU t) v []
 |[],_,_,y,_=>by let#[h,_]:=y;show#[h,rfl]
 |(_,x)::xs,_,_,y,m=>by let#[v,r,c,d,e,a,f,g]:=y;show#[v,r,[],[],e,rfl,R.aO b x f λp q=>m p (by rw[a];show Ê.mpr<|.inl q),Rk.aO b xs g λp q=>m p (by rw[a];show Ê.mpr<|.inr q)]
theorem Rf.aO(b:∀k,Le (B k)<|B' k):∀(t:List (Str×Tr)){v:List (Str×V)}{cs:Cs},Rf K F B t v cs->(∀p∈cs,B' Â p.1=À p.2)->Rf K F B' (cD t) v []
 |[],_,_,y,_=>by let#[h,_]:=y;show#[h,rfl]
 |(_,x)::xs,_,_,y,m=>by let#[v,r,c,d,e,a,f,g]:=y;show#[v,r,[],[],e,rfl,R.aO b x f λp q=>m p (by rw[a];show Ê.mpr<|.inl q),Rf.aO b xs g λp q=>m p (by rw[a];show Ê.mpr<|.inr q)]
theorem fZ:∀(xs:List (aI×Tr)),(eU xs).map (·.1)=xs.map (·.1)
 |[]=>rfl
 |(_,_)::xs=>by change _::_=_::_;rw[fZ xs]
end
def GS:∀(xs:bL),(df xs).map (·.1)=xs.map (·.1)
 |[]=>rfl
 |(_,_)::xs=>by change _::_=_::_;rw[GS xs]
mutual
theorem R.base:∀(t:Tr){v:V}{cs:Cs},cZ t=Â->R K F B t v cs->R K F B' t v cs
 |.int _,_,_,_,h=>h
 |.bl _,_,_,_,h=>h
 |.str _,_,_,_,h=>h
 |.aN,_,_,_,h=>h
 |.ak,_,_,_,h=>h
 |.ty _,_,_,_,h=>h
 |.cl _,_,_,_,h=>h
 |.exc _ _,_,_,_,h=>h
 |.aF xs,_,_,n,y=>by let#[a,vs,b,d,e]:=y;show#[a,vs,b,d,Rs.base xs n e]
 |.af .f xs,_,_,n,y=>by let#[z,a,vs,b,d,e]:=y;show#[z,a,vs,b,d,Rs.base xs n e]
 |.af (.l k) xs,_,_,n,_=>by cases n
 |.af .o xs,_,_,n,y=>by let#[a,vs,g,b,d,e]:=y;show#[a,vs,g,b,d,Rs.base xs n e]
 |.aP .f xs,_,_,n,y=>by let#[z,a,vs,b,d,e,j]:=y;show#[z,a,vs,b,d,Rk.base xs n e,j]
 |.aP (.l k) xs,_,_,n,_=>by cases n
 |.aP .o xs,_,_,n,y=>by let#[a,vs,g,b,d,e,j]:=y;show#[a,vs,g,b,d,Rk.base xs n e,j]
 |.ins .f _ xs,_,_,n,y=>by let#[z,a,i,vs,b,d,e]:=y;show#[z,a,i,vs,b,d,Rf.base xs n e]
 |.ins (.l k) _ xs,_,_,n,_=>by cases n
 |.ins .o _ xs,_,_,n,y=>by let#[a,i,vs,g,b,d,e]:=y;show#[a,i,vs,g,b,d,Rf.base xs n e]
theorem Rs.base:∀(t:List Tr){v:List V}{cs:Cs},dF t=Â->Rs K F B t v cs->Rs K F B' t v cs
 |[],_,_,_,h=>h
 |x::xs,_,_,n,y=>by
  let#[v,r,c,d,a,b,e,f]:=y;rw[dF,å] at n;show#[v,r,c,d,a,b,R.base x n.1 e,Rs.base xs n.2 f]
theorem Rk.base:∀(t:List (aI×Tr)){v:List (aI×V)}{cs:Cs},jv t=Â->Rk K F B t v cs->Rk K F B' t v cs
 |[],_,_,_,h=>h
 |(_,x)::xs,_,_,n,y=>by
  let#[v,r,c,d,a,b,e,f]:=y;rw[jv,å] at n;show#[v,r,c,d,a,b,R.base x n.1 e,Rk.base xs n.2 f]
theorem Rf.base:∀(t:List (Str×Tr)){v:List (Str×V)}{cs:Cs},eX t=Â->Rf K F B t v cs->Rf K F B' t v cs
 |[],_,_,_,h=>h
 |(_,x)::xs,_,_,n,y=>by
  let#[v,r,c,d,a,b,e,f]:=y;rw[eX,å] at n;show#[v,r,c,d,a,b,R.base x n.1 e,Rf.base xs n.2 f]
end
mutual
theorem R.aC(b:Le F F'):∀(t:Tr){v:V}{cs:Cs},R K F B t v cs->(∀p∈cs,F' p.1=À p.2)->R K F' B `bu v []
 |.int _,_,_,y,_=>by let#[h,_]:=y;show#[h,rfl]
 |.bl _,_,_,y,_=>by let#[h,_]:=y;show#[h,rfl]
 |.str _,_,_,y,_=>by let#[h,_]:=y;show#[h,rfl]
 |.aN,_,_,y,_=>by let#[h,_]:=y;show#[h,rfl]
 |.ak,_,_,h,_=>h.elim
 |.ty _,_,_,y,_=>by let#[h,_]:=y;show#[h,rfl]
 |.cl _,_,_,y,_=>by let#[h,_]:=y;show#[h,rfl]
 |.exc _ _,_,_,y,_=>by let#[_,a,o,h,s,d]:=y;show#[rfl,a,o,h,Le.exc b s,λr l=>d r<|b.trans l]
 |.aF xs,_,_,y,m=>by let#[a,vs,e,d,g]:=y;show#[a,vs,e,b.aF d,Rs.aC b xs g m]
 |.af .f xs,_,_,y,_=>by let#[z,a,vs,e,d,g]:=y;show#[rfl,a,vs,e,b.af d,Rs.mo b (λk=>Le.refl<|B k) xs g]
 |.af (.l k) xs,_,_,y,_=>by let#[z,a,vs,e,d,g]:=y;show#[rfl,a,vs,e,d,Rs.mo b (λk=>Le.refl<|B k) xs g]
 |.af .o xs,_,_,y,m=>by let#[a,vs,n,e,d,g]:=y;show#[rfl,a,vs,e,bw.of (m (a,.af vs) (by rw[d];show .head _)),Rs.aC b xs g λp q=>m p (by rw[d];show .tail _ q)]
 |.aP .f xs,_,_,y,_=>by let#[z,a,vs,e,d,g,j]:=y;show#[rfl,a,vs,e,b.aP d,Rk.mo b (λk=>Le.refl<|B k) xs g,j]
 |.aP (.l k) xs,_,_,y,_=>by let#[z,a,vs,e,d,g,j]:=y;show#[rfl,a,vs,e,d,Rk.mo b (λk=>Le.refl<|B k) xs g,j]
 |.aP .o xs,_,_,y,m=>by let#[a,vs,n,e,d,g,j]:=y;show#[rfl,a,vs,e,Rd.of (m (a,.dK vs) (by rw[d];show .head _)),Rk.aC b xs g λp q=>m p (by rw[d];show .tail _ q),by rw[GS];show j]
 |.ins .f _ xs,_,_,y,_=>by let#[z,a,i,vs,e,d,g]:=y;show#[rfl,a,i,vs,e,b _ _ (by intro _ _ z;cases z) d,Rf.mo b (λk=>Le.refl<|B k) xs g]
 |.ins (.l k) _ xs,_,_,y,_=>by let#[z,a,i,vs,e,d,g]:=y;show#[rfl,a,i,vs,e,d,Rf.mo b (λk=>Le.refl<|B k) xs g]
 |.ins .o _ xs,_,_,y,m=>by let#[a,i,vs,n,e,d,g]:=y;show#[rfl,a,i,vs,e,Rd.of (m (a,.ins _ i vs) (by rw[d];show .head _)),Rf.aC b xs g λp q=>m p (by rw[d];show .tail _ q)]
theorem Rs.aC(b:Le F F'):∀(t:List Tr){v:List V}{cs:Cs},Rs K F B t v cs->(∀p∈cs,F' p.1=À p.2)->Rs K F' B (bz t) v []
 |[],_,_,y,_=>by let#[h,_]:=y;show#[h,rfl]
 |x::xs,_,_,y,m=>by let#[v,r,c,d,e,a,f,g]:=y;show#[v,r,[],[],e,rfl,R.aC b x f λp q=>m p (by rw[a];show Ê.mpr<|.inl q),Rs.aC b xs g λp q=>m p (by rw[a];show Ê.mpr<|.inr q)]
theorem Rk.aC(b:Le F F'):∀(t:List (aI×Tr)){v:List (aI×V)}{cs:Cs},Rk K F B t v cs->(∀p∈cs,F' p.1=À p.2)->Rk K F' B (df t) v []
 |[],_,_,y,_=>by let#[h,_]:=y;show#[h,rfl]
 |(_,x)::xs,_,_,y,m=>by let#[v,r,c,d,e,a,f,g]:=y;show#[v,r,[],[],e,rfl,R.aC b x f λp q=>m p (by rw[a];show Ê.mpr<|.inl q),Rk.aC b xs g λp q=>m p (by rw[a];show Ê.mpr<|.inr q)]
theorem Rf.aC(b:Le F F'):∀(t:List (Str×Tr)){v:List (Str×V)}{cs:Cs},Rf K F B t v cs->(∀p∈cs,F' p.1=À p.2)->Rf K F' B (gy t) v []
 |[],_,_,y,_=>by let#[h,_]:=y;show#[h,rfl]
 |(_,x)::xs,_,_,y,m=>by let#[v,r,c,d,e,a,f,g]:=y;show#[v,r,[],[],e,rfl,R.aC b x f λp q=>m p (by rw[a];show Ê.mpr<|.inl q),Rf.aC b xs g λp q=>m p (by rw[a];show Ê.mpr<|.inr q)]
end
abbrev Plain(cs:Cs):Prop:=∀p∈cs,∀x u,p.2≠HO.aC x u
def Plain.nil:Plain []:=λ_ h=>nomatch h
def Plain.cons{a:ai}{o:HO}{cs:Cs}(h:∀x u,o≠HO.aC x u)(t:Plain cs):Plain ((a,o)::cs):=λp m=>by
 cases m with
 |head=>show h
 |tail _ m=>show t p m
def Plain.app(h:Plain c)(t:Plain d):Plain (c++d):=λp m=>(Ê.mp m).elim (h p)<|t p
mutual
theorem R.plain:∀(t:Tr){v:V}{cs:Cs},R K F B t v cs->Plain cs
 |.int _,_,_,y=>by let#[_,h]:=y;rw[h];show .nil
 |.bl _,_,_,y=>by let#[_,h]:=y;rw[h];show .nil
 |.str _,_,_,y=>by let#[_,h]:=y;rw[h];show .nil
 |.aN,_,_,y=>by let#[_,h]:=y;rw[h];show .nil
 |.ak,_,_,h=>h.elim
 |.ty _,_,_,y=>by let#[_,h]:=y;rw[h];show .nil
 |.cl _,_,_,y=>by let#[_,h]:=y;rw[h];show .nil
 |.exc _ _,_,_,y=>by let#[h,_]:=y;rw[h];show .nil
 |.aF xs,_,_,y=>by let#[a,vs,e,d,b]:=y;show Rs.plain xs b
 |.af .f xs,_,_,y=>by let#[z,_]:=y;rw[z];show .nil
 |.af (.l k) xs,_,_,y=>by let#[z,_]:=y;rw[z];show .nil
 |.af .o xs,_,_,y=>by let#[a,vs,g,e,d,b]:=y;rw[d];show .cons (by intro _ _ z;cases z)<|Rs.plain xs b
 |.aP .f xs,_,_,y=>by let#[z,_]:=y;rw[z];show .nil
 |.aP (.l k) xs,_,_,y=>by let#[z,_]:=y;rw[z];show .nil
 |.aP .o xs,_,_,y=>by let#[a,vs,g,e,d,b,_]:=y;rw[d];show .cons (by intro _ _ z;cases z)<|Rk.plain xs b
 |.ins .f _ xs,_,_,y=>by let#[z,_]:=y;rw[z];show .nil
 |.ins (.l k) _ xs,_,_,y=>by let#[z,_]:=y;rw[z];show .nil
 |.ins .o _ xs,_,_,y=>by let#[a,i,vs,g,e,d,b]:=y;rw[d];show .cons (by intro _ _ z;cases z)<|Rf.plain xs b
theorem Rs.plain:∀(t:List Tr){v:List V}{cs:Cs},Rs K F B t v cs->Plain cs
 |[],_,_,y=>by let#[_,h]:=y;rw[h];show .nil
 |x::xs,_,_,y=>by let#[v,r,c,d,f,a,b,e]:=y;rw[a];show (R.plain x b).app<|Rs.plain xs e
theorem Rk.plain:∀(t:List (aI×Tr)){v:List (aI×V)}{cs:Cs},Rk K F B t v cs->Plain cs
 |[],_,_,y=>by let#[_,h]:=y;rw[h];show .nil
 |(_,x)::xs,_,_,y=>by let#[v,r,c,d,f,a,b,e]:=y;rw[a];show (R.plain x b).app<|Rk.plain xs e
theorem Rf.plain:∀(t:List (Str×Tr)){v:List (Str×V)}{cs:Cs},Rf K F B t v cs->Plain cs
 |[],_,_,y=>by let#[_,h]:=y;rw[h];show .nil
 |(_,x)::xs,_,_,y=>by let#[v,r,c,d,f,a,b,e]:=y;rw[a];show (R.plain x b).app<|Rf.plain xs e
end
structure au(F H:Hp)(cs:Cs):Prop where
 h:∀p∈cs,H p.1=À p.2
 f:∀p∈cs,F p.1=Æ
 nd:(cs.map (·.1)).Nodup
def au.nil:au F H []:=#[λ_ h=>(nomatch h),λ_ h=>(nomatch h),af6]
def au.gr(c:au F H cs)(g:Gr F H F' H'):au F' H' cs:=#[λp m=>g.h _ _<|c.h p m,λp m=>g.own (c.f p m)<|c.h p m,c.nd]
abbrev dH(H:Hp)(cs:Cs):Prop:=∀p∈cs,H p.1=Æ
def dH.nil:dH H []:=λ_ h=>nomatch h
def dH.back(s:aD H H')(n:dH H' cs):dH H cs:=λp m=>s.free<|n p m
def au.app(h:au F H c)(t:au F H d)(n:∀p∈c,∀q∈d,p.1≠q.1):au F H (c++d):=
 #[λp m=>(Ê.mp m).elim (h.h p)<|t.h p,λp m=>(Ê.mp m).elim (h.f p)<|t.f p,by
  rw[ä,š];show#[h.nd,t.nd,λa e b g=>?_];∎;let#[p,i,rfl]:=æ.mp e;let#[q,j,rfl]:=æ.mp g;∎;show n p i q j]
def au.left(h:au F H (c++d)):au F H c:=#[λp m=>h.h p<|Ê.mpr<|.inl m,λp m=>h.f p<|Ê.mpr<|.inl m,by have:=h.nd;rw[ä,š] at this;show this.1]
def au.right(h:au F H (c++d)):au F H d:=#[λp m=>h.h p<|Ê.mpr<|.inr m,λp m=>h.f p<|Ê.mpr<|.inr m,by have:=h.nd;rw[ä,š] at this;show this.2.1]
structure Out(K:aq)(F:Hp)(B:Bool->Hp)(H F' H':Hp)(t:Tr)(v:V)(cs:Cs):Prop where
 g:Gr F H F' H'
 r:R K F' B t v cs
 c:au F' H' cs
 n:dH H cs
structure fH(K:aq)(F:Hp)(B:Bool->Hp)(H F' H':Hp)(t:ag)(v:ay)(cs:Cs):Prop where
 g:Gr F H F' H'
 r:Rs K F' B t v cs
 c:au F' H' cs
 n:dH H cs
abbrev eJ(K:aq)(F:Hp)(B:Bool->Hp)(j:St)(G:ag):Prop:=∀(i:Nat)(t:Tr),G[i]?=À t->t=.ak\/∃v,j[i]?=À (À v)/\R K F B t v []
def eJ.mo(e:eJ K F B j G)(l:Le F F')(b:∀k,Le (B k)<|B' k):eJ K F' B' j G:=λi t h=>(e i t h).imp id λ⟨v,h1,h2⟩=>#[v,h1,h2.mo l b t]
nonrec abbrev bh:=ag->(aB)->Prop
nonrec abbrev cQ:=ag->(aA)->Prop
nonrec abbrev dI:=ag->(Bool->Prop)->Prop
structure Xv where
 c:ϥ
 f:bq
abbrev Xv.ref(a:ai):Xv:=#[.ref a,[]]
abbrev XF(K:aq)(F:Hp)(d:bW)(f:bq):Prop:=f=[]\/∃a vs,d=À a/\Rd F a (XD a vs)/\eX f=Â/\Rf K F (λ_=>F) f vs []
def XF.mo(h:XF K F d f)(l:Le F F'):XF K F' d f:=by
 rcases h with h |⟨a,vs,b,e,g,i⟩
 .show .inl h
 .show .inr ⟨a,vs,b,l _ _ (by intro _ _ z;cases z) e,g,Rf.mo l (λ_=>l) f i⟩
abbrev Xp(K:aq)(f:bq):Hp->bW->Prop:=λF d=>XF K F d f
structure Md where
 z:Bool
 E:St->XK
 q:Xv->Prop
abbrev Md.cM(k:Md):Md:=#[k.z,k.E,λ_=>False]
abbrev Md.walk(k:Md):Md:=#[Ç,k.E,λ_=>False]
abbrev Md.base(b:Bool):Md:=#[b,λ_=>E0,λ_=>False]
structure gC(K:aq)(k:Md)(F:Hp)(B:Bool->Hp)(H:Hp)(j:St)(i:ag):Prop where
 s:aD F H
 b:∀k,aD (B k) H
 z:k.z=Â->Fz S0 F
 e:eJ K F B j i
 x:∀x F' H',k.q x->∀d,XF K F' d x.f->Gr F H F' H'->k.E j x.c d H'
def _root_.Vc.Gr.aR(s:aD F H):Gr F H F H:=Gr.of (Gr0.refl s)<|Fz.refl F
def _root_.Vc.Gr.trans'(a:Gr F H F' H')(b:Gr F' H' F2 H2):Gr F H F2 H2:=Gr.of (a.toGr0.tr b)<|b.fz a.z
def gC.gr(c:gC K k F B H j i)(g:Gr F H a f):gC K k a B f j i:=#[g.s,λk=>(c.b k).trans g.h,λh=>g.fz<|c.z h,c.e.mo g.le<|λk=>Le.refl<|B k,λx a f q d y l=>c.x x a f q d y<|g.trans' l]
abbrev bE(K:aq)(k:Md)(f:TE)(pe:bh):Prop:=∀(F:Hp)(B:Bool->Hp)(H:Hp)(j:St)(i:ag)(Q:VK)(b:aB),gC K k F B H j i->pe i b->(∀t v d a e,b t->Out K F B H d a t v e->Q v a)->f j H Q
abbrev gj(K:aq)(k:Md)(f:TA)(pe:cQ):Prop:=∀(F:Hp)(B:Bool->Hp)(H:Hp)(j:St)(i:ag)(Q:ay->Hp->Prop)(b:aA),gC K k F B H j i->pe i b->(∀t v d a e,b t->fH K F B H d a t v e->Q v a)->f j H Q
abbrev gk(K:aq)(k:Md)(f:TT)(pe:dI):Prop:=∀(F:Hp)(B:Bool->Hp)(H:Hp)(j:St)(i:ag)(Q:Bool->Hp->Prop)(d:Bool->Prop),gC K k F B H j i->pe i d->(∀b e a,d b->Gr F H e a->Q b a)->f j H Q
def Out.same(s:aD F H)(r:R K F B t v []):Out K F B H F H t v []:=#[Gr.aR s,r,.nil,.nil]
abbrev wB(i:Nat):bh:=λj Q=>match j[i]? with |some .ak=>False |some t=>Q t |none=>False
def WI(i:Nat):bE K k (hJ i) (wB i):=λF B H j G Q d c p q=>by
 unfold wB at p;cases h:G[i]? with
 |none=>rw[h] at p;show p.elim
 |some t=>
  rcases c.e i t h with rfl |⟨v,a,b⟩
  .rw[h] at p;show p.elim
  .show#[v,a,q t v F H [] ?_ (Out.same c.s b)];rw[h] at p;cases t with
   |ak=>show p.elim
   |_=>show p
abbrev pC(t:Tr):bh:=λ_ Q=>Q t
def sA(h:∀F B,R K F B t v []):bE K k (tC v) (pC t):=λF B H j i Q a c p q=>q t v F H [] p (Out.same c.s<|h F B)
def WJ:bE K k (tC<|.int n) (pC<|.int n):=sA λ_ _=>#[rfl,rfl]
def WK:bE K k (tC<|.str n) (pC<|.str n):=sA λ_ _=>#[rfl,rfl]
def Y2:bE K k (tC<|.bl n) (pC<|.bl n):=sA λ_ _=>#[rfl,rfl]
def WL:bE K k (tC .aN) (pC .aN):=sA λ_ _=>#[rfl,rfl]
abbrev p2(pr:Tr->Tr->(aB)->Prop)(a b:bh):bh:=λj Q=>a j λx=>b j λy=>pr x y Q
abbrev fk(K:aq)(k:Md)(r:R2)(pr:Tr->Tr->(aB)->Prop):Prop:=∀(F:Hp)(B:Bool->Hp)(H:Hp)(x y:V)(h ty:Tr)(a b:Cs)(Q:VK)(g:aB),aD F H->(∀k,aD (B k) H)->(k.z=Â->Fz S0 F)->R K F B h x a->R K F B ty y b->au F H a->au F H b->(∀p∈a,∀q∈b,p.1≠q.1)->pr h ty g->
 (∀t v d e f,g t->Gr F H d e->R K d B t v f->au d e f->(∀p∈f,H p.1=Æ\/p∈a\/p∈b)->Q v e)->r x y H Q
def xK(o:fk K k r pr)(M:bE K k ta pa)(N:bE K k tb pb):bE K k `cs `dh:=λF B H j i Q E c p q=>by
 show M F B H j i _ _ c p λx v f A I p1 d=>?_
 show N f B A j i _ _ (c.gr d.g) p1 λy u l C J p2 a=>?_
 show o l B C v u x y I J Q E a.g.s (λk=>((c.b k).trans d.g.h).trans a.g.h) (λh=>a.g.fz<|d.g.fz<|c.z h) (d.r.mo a.g.le (λk=>Le.refl<|B k) x) a.r (d.c.gr a.g) a.c (λp O q U e=>by have:=d.c.h p O;rw[e,a.n q U] at this;cases this) p2 λt v' w D L Y g r' G n=>?_
 show q t v' w D L Y #[(d.g.trans' a.g).trans' g,r',G,λp m=>?_];rcases n p m with z |z |z
 .show (d.g.h.trans a.g.h).free z
 .show d.n p z
 .show d.g.h.free (a.n p z)
abbrev p1(pr:Tr->(aB)->Prop)(a:bh):bh:=λj Q=>a j λx=>pr x Q
abbrev Dc(K:aq)(k:Md)(r:V->Hp->VK->Prop)(pr:Tr->(aB)->Prop):Prop:=∀(F:Hp)(B:Bool->Hp)(H:Hp)(x:V)(g:Tr)(e:Cs)(Q:VK)(f:aB),aD F H->(∀k,aD (B k) H)->(k.z=Â->Fz S0 F)->R K F B g x e->au F H e->pr g f->
 (∀t v a b d,f t->Gr F H a b->R K a B t v d->au a b d->(∀p∈d,H p.1=Æ\/p∈e)->Q v b)->r x H Q
def Y3(o:Dc K k r pr)(C:bE K k ta pa):bE K k (KG r ta) (p1 pr pa):=λF B H j i Q u c p q=>by
 show C F B H j i _ _ c p λx v d f y p1 a=>?_
 show o d B f v x y Q u a.g.s (λk=>(c.b k).trans a.g.h) (λh=>a.g.fz<|c.z h) a.r a.c p1 λt G e l A D g E w n=>?_
 show q t G e l A D #[a.g.trans' g,E,w,λp m=>?_];rcases n p m with z |z
 .show a.g.h.free z
 .show a.n p z
abbrev wC:cQ:=λ_ Q=>Q []
abbrev yZ(pe:bh)(a:cQ):cQ:=λj Q=>pe j λx=>a j λb=>Q (x::b)
def HZ:gj K k nr wC:=λF B H j i Q a c p q=>q [] [] F H [] p #[Gr.aR c.s,#[rfl,rfl],.nil,.nil]
def UM(h:bE K k te pe)(w:gj K k ta pa):gj K k (ng te ta) (yZ pe pa):=λF B H j i Q C c p q=>by
 show h F B H j i _ _ c p λx v l s d p1 a=>?_
 show w l B s j i _ _ `eF p1 λA vs o u f p2 b=>?_
 show q (x::A) (v::vs) o u (d++f) p2 #[a.g.trans' b.g,#[v,vs,d,f,rfl,rfl,a.r.mo b.g.le (λk=>Le.refl<|B k) x,b.r],(a.c.gr b.g).app b.c λp y q z e=>?_,λp m=>?_]
 .have:=a.c.h p y;rw[e,b.n q z] at this;cases this
 .rcases Ê.mp m with m |m
  .show a.n p m
  .show a.g.h.free (b.n p m)
def Rs.length:∀{t:ag}{v:ay}{cs:Cs},Rs K F B t v cs->↑v=↑t
 |[],_,_,y=>by let#[h,_]:=y;rw[h];rfl
 |x::xs,_,_,y=>by let#[v,r,c,d,a,e,f,b]:=y;rw[a,Ö,Ö,Rs.length b]
def Rs.at:∀{t:ag}{v:ay}{cs:Cs}{i:Nat}{x:Tr},Rs K F B t v cs->t[i]?=À x->∃u c,v[i]?=À u/\R K F B x u c/\∀p∈c,p∈cs
 |x::xs,_,_,0,y,y0,h=>by
  let#[v,r,c,d,a,b,f,g]:=y0;cases h;show#[v,c,by rw[a];rfl,f,λp m=>by rw[b];show Ê.mpr<|.inl m]
 |x::xs,_,_,i + 1,y,y0,h=>by
  ∎;let#[v,r,c,d,a,b,f,g]:=y0;let#[u,e,j,l,n]:=Rs.at (i:=i) g h;∎;show#[u,e,by rw[a];show j,l,λp m=>by rw[b];show Ê.mpr<|.inr<|n p m]
def Rs.at':∀{t:ag}{v:ay}{cs:Cs}{i:Nat}{x:Tr},Rs K F B t v cs->au F H cs->t[i]?=À x->∃u c,v[i]?=À u/\R K F B x u c/\au F H c/\∀p∈c,p∈cs
 |x::xs,_,_,0,y,y0,hc,h=>by
  let#[v,r,c,d,b,a,f,g]:=y0;cases h;rw[a] at hc;show#[v,c,by rw[b];rfl,f,hc.left,λp m=>by rw[a];show Ê.mpr<|.inl m]
 |x::xs,_,_,i + 1,y,y0,hc,h=>by
  let#[v,r,c,d,b,a,f,g]:=y0;rw[a] at hc;let#[u,e,j,l,n,o]:=Rs.at' (i:=i) g hc.right h;show#[u,e,by rw[b];show j,l,n,λp m=>by rw[a];show Ê.mpr<|.inr<|o p m]
def Rk.keys:∀{t:bL}{v:b9}{cs:Cs},Rk K F B t v cs->v.map (·.1)=t.map (·.1)
 |[],_,_,y=>by let#[h,_]:=y;rw[h];rfl
 |(k,x)::xs,_,_,y=>by let#[v,r,c,d,a,e,f,b]:=y;rw[a,ñ,ñ,Rk.keys b]
def Rk.length(h:Rk K F B t v cs):↑v=↑t:=by have:=av9 ad3 h.keys;simpa using this
abbrev look(m:bL)(k:aI):Option Tr:=(m.find? λp=>decide<|p.1=k).map (·.2)
def Rk.look:∀{t:bL}{v:b9}{cs:Cs}(k:aI),Rk K F B t v cs->au F H cs->(look t k=Æ/\gs v k=Æ)\/∃x u c,look t k=À x/\gs v k=À u/\R K F B x u c/\au F H c/\∀p∈c,p∈cs
 |[],_,_,k,y,_=>by let#[h,_]:=y;show .inl #[rfl,by rw[h];rfl]
 |(k',x)::xs,_,_,k,y,hc=>by
  let#[v,r,c,d,b,a,q,s]:=y;rw[a] at hc;by_cases e:k'=k
  .show .inr #[x,v,c,?_,?_,q,hc.left,λp m=>by rw[a];show Ê.mpr<|.inl m]
   .unfold Pu.look;rw[ao1<|by simpa using e];rfl
   .unfold gs;rw[b,ao1<|by simpa using e];rfl
  .have e1:Pu.look ((k',x)::xs) k=Pu.look xs k:=by unfold Pu.look;rw[aa4<|by simpa using e]
   have o:gs ((k',v)::r) k=gs r k:=by unfold gs;rw[aa4<|by simpa using e]
   rw[b,e1,o];rcases Rk.look (t:=xs) (v:=r) (cs:=d) k s hc.right with z |⟨y,u,n,f,g,i,j,l⟩
   .show .inl z
   .show .inr ⟨y,u,n,f,g,i,j,λp m=>by rw[a];show Ê.mpr (.inr (l p m))⟩
def R.cE(s:aD F H)(b:∀k,aD (B k) H)(r:R K F B `aA v cs)(c:au F H cs):∃a vs e,v=.ref a/\bw K H a vs/\Rs K F B xs vs e/\au F H e/\∀p∈e,p∈cs:=by
 cases f with
 |f=>let#[z,a,vs,g,d,i]:=r;show#[a,vs,[],g,s.seq d,i,.nil,λ_ m=>nomatch m]
 |l k=>let#[z,a,vs,g,d,i]:=r;show#[a,vs,[],g,(b k).seq d,i,.nil,λ_ m=>nomatch m]
 |o=>
  let#[a,vs,e,g,d,i]:=r;rw[d] at c;show#[a,vs,e,g,bw.of<|c.h _<|.head _,i,au.right (c:=[_]) c,λp m=>by rw[d];show .tail _ m]
def R.dz(s:aD F H)(r:R K F B `aH v cs):∃a vs,v=.ref a/\cR K H a vs/\Rs K F B xs vs cs:=by
 let#[a,vs,b,d,e]:=r;show#[a,vs,b,s.aF d,e]
def R.fV(s:aD F H)(b:∀k,aD (B k) H)(r:R K F B `bm v cs)(c:au F H cs):∃a vs e,v=.ref a/\Rd H a `az/\Rk K F B xs vs e/\au F H e/\∀p∈e,p∈cs:=by
 cases f with
 |f=>let#[z,a,vs,g,d,i,_]:=r;show#[a,vs,[],g,s.rd d,i,.nil,λ_ m=>nomatch m]
 |l k=>let#[z,a,vs,g,d,i,_]:=r;show#[a,vs,[],g,(b k).rd d,i,.nil,λ_ m=>nomatch m]
 |o=>
  let#[a,vs,e,g,d,i,_]:=r;rw[d] at c;show#[a,vs,e,g,Rd.of<|c.h _<|.head _,i,au.right (c:=[_]) c,λp m=>by rw[d];show .tail _ m]
def R.qP(s:aD F H)(b:∀k,aD (B k) H)(r:R K F B (.ins f C xs) v cs)(c:au F H cs):∃a d vs g,v=.ref a/\Rd H a (.ins C d vs)/\Rf K F B xs vs g/\au F H g/\∀p∈g,p∈cs:=by
 cases f with
 |f=>let#[z,a,d,vs,i,e,j]:=r;show#[a,d,vs,[],i,s.rd e,j,.nil,λ_ m=>nomatch m]
 |l k=>let#[z,a,d,vs,i,e,j]:=r;show#[a,d,vs,[],i,(b k).rd e,j,.nil,λ_ m=>nomatch m]
 |o=>
  let#[a,d,vs,g,i,e,j]:=r;rw[e] at c;show#[a,d,vs,g,i,Rd.of<|c.h _<|.head _,j,au.right (c:=[_]) c,λp m=>by rw[e];show .tail _ m]
def uu(s:aD F H)(r:Rs K F B xs vs cs)(c:au F H cs)(b:H p=Æ):∃a,Gr F H a (aU H p<|.aF vs)/\R K a B `aH `am cs/\au a (aU H p<|.aF vs) cs:=by
 let#[a,g,e]:=rP (o:=.aF vs) s (by intro _ _ z;cases z) b;show#[a,g,#[p,vs,rfl,cR.of e,r.mo g.le (λk=>Le.refl<|B k) xs],c.gr g]
def Gr.l7(s:aD F H)(b:H p=Æ):Gr F H F `bW:=#[#[aD.aU b,aD.refl F,s.q5<|s.free b,λa u h e=>by rw[h] at e;cases e],Fz.refl F]
def uv(s:aD F H)(c:au F H cs)(a:H p=Æ):au F `bW ((p,o)::cs):=
 #[λq m=>by
  cases m with
  |head=>show dk
  |tail _ m=>change aU H p o q.1=_;rw[ba<|kc (c.h q m) a];show c.h q m,
 λq m=>by
  cases m with
  |head=>show s.free a
  |tail _ m=>show c.f q m,
 by
  rw[ñ,č];show#[λm=>?_,c.nd];let#[q,b,e]:=æ.mp m;have e:q.1=p:=e;have:=c.h q b;rw[e,a] at this;cases this]
abbrev zI(b:cQ):bh:=λj Q=>b j λa=>↑a<=10000/\Q (.aF a)
abbrev zJ(b:cQ):bh:=λj Q=>b j λa=>↑a<=10000/\Q `eG
def nM(h:n<=1000000):n<=Ò:=Ï h ∎
def WM(h:gj K k ta pa):bE K k (Ft ta) (zI pa):=λF B H j i Q v c p q=>by
 show h F B H j i _ _ c p λm vs o u e p1 b=>#[by rw[b.r.length];show nM<|Ï p1.1 ∎,λa l=>?_]
 let#[d,g,r,f]:=uu b.g.s b.r b.c l;show q (.aF m) `aw d _ e p1.2 #[b.g.trans' g,r,f,b.n]
def WN(h:gj K k ta pa):bE K k (Fu ta) (zJ pa):=λF B H j i Q v c p q=>by
 show h F B H j i _ _ c p λl vs f u e p1 b=>#[by rw[b.r.length];show nM<|Ï p1.1 ∎,λa d=>?_]
 show q (.af .o l) `aw f _ ((a,.af vs)::e) p1.2 #[b.g.trans'<|Gr.l7 b.g.s d,#[a,vs,e,rfl,rfl,b.r],uv b.g.s b.c d,λp m=>?_];cases m with
 |head=>show b.g.h.free d
 |tail _ m=>show b.n p m
end
end Pu
namespace Pu
open PySem PySem.Spec PyProof.Rows L2 Vc Sf
section
abbrev FG:R2:=λx y H Q=>∃a v,x=.ref a/\oo H a y (À v)/\Q v H
def WO(n:X.A.units+1<ģ):kT X FG:=by
 intro value d aa s j H x y v u Q I o B h m;let#[a,z,rfl,g,q]:=h;obtain rfl:v=Ý a:=o;have i:=PM I g;unfold as8;show È ?_;rw[getitemInPython_of_ne i.not_modules];show È<|an6 i PySem.F.slot_dict_getitem.lookup ?_;have b:Ú `ab X.A (subscripted d Ç `aw u) (λr e=>Ú `ab X.A (letTemporaryGo value `aw r >>= λ_=>pure r) `av X.xe e) X.xe s:=by
  rw[m];show wpAny_operating<|Rx n I g B λD C l f=>È<|wpAny_letTemporaryGo<|Þ #[z,H,l,f,q]
 first
  |show Þ<|È b
  |show È<|Þ<|È b
  |show È b
abbrev uh(neg:Bool):R2:=λy x H Q=>∃a o,x=.ref a/\oo H a y o/\Q (.bl (if neg then !o.isSome else o.isSome)) H
def Y4(d:X.A.units+1<ģ):cG X (ö .In) (uh Ç):=by
 intro aa s j H y x u v Q I f e h;let#[a,o,rfl,g,q]:=h;obtain rfl:v=Ý a:=e;show MC d I g f λi b=>#[.bl o.isSome,H,b,rfl,q]
def Sq(d:X.A.units+1<ģ):cG X `dT (uh Â):=by
 intro aa s j H y x u v Q I f e h;let#[a,o,rfl,g,q]:=h;obtain rfl:v=Ý a:=e;show W5 d I g f λi b=>#[.bl (!o.isSome),H,b,rfl,q]
abbrev ET(K:aq):R2:=λx y H Q=>jx (λi j=>.int<|i+j) x y H Q\/(λx y H Q=>(λx y H Q=>∃i j,x=.str i/\y=.str j/\↑i+↑j<=Ò/\Q (.str<|i++j) H) x y H Q\/ES K x y H Q) x y H Q
def LA:cG X `dv (ET X.K):=Nl.or<|M9.or WG
abbrev EU:R2:=λx y H Q=>rI nh (λi j=>.int<|i*j) x y H Q\/ER x y H Q
def LB:cG X `cR EU:=Nf.or Rb
abbrev EZ(K:aq):R2:=λx y H Q=>Kl K x y H Q\/FG x y H Q
def MF(a:X.A.units+1<ģ):kT X (EZ X.K):=Nn.or<|WO a
abbrev E1:R2:=λx y H Q=>jx (λi j=>.bl<|decide<|i<j) x y H Q\/(λx y H Q=>∃i j,x=.str i/\y=.str j/\Q (.bl<|decide<|i.cps.toList<j.cps.toList) H) x y H Q
def nO:cG X (ö .Lt) E1:=Nu.or Rt
abbrev E2:R2:=λx y H Q=>jx (λi j=>.bl<|decide<|j<i) x y H Q\/(λx y H Q=>∃i j,x=.str i/\y=.str j/\Q (.bl<|decide<|j.cps.toList<i.cps.toList) H) x y H Q
def ly:cG X (ö .Gt) E2:=Nv.or Sk
end
section
variable{K:aq}{F F' H H':Hp}{B B':Bool->Hp}{k:Md}
abbrev jF(C:Int->Int->Prop)(g:Int->Int->Tr)(x y:Tr)(Q:aB):Prop:=match x,y with
 |.int i,.int j=>C i j /\ Q `cD
 |_,_=>False
def BZ{g:Int->Int->V}{t:Int->Int->Tr}(h:∀i j F B,R K F B (t i j) `cD []):fk K k (rI C g) (jF C t):=λF B H x y r ty f l Q e s b z a d n o hd p q=>by
 unfold jF at p;split at p
 .obtain⟨rfl,_⟩:=a;let#[rfl,_]:=d;show#[_,_,rfl,rfl,p.1,q _ _ F H [] p.2 `ak (h _ _ F B) .nil λ_ m=>nomatch m]
 .show p.elim
def Bp{g:Int->Int->V}{t:Int->Int->Tr}(h:∀i j F B,R K F B (t i j) `cD []):fk K k (jx g) (jF (λ_ _=>True) t):=λF B H x y r ty f l Q e s b z a d n o hd p q=>by
 unfold jF at p;split at p
 .obtain⟨rfl,_⟩:=a;let#[rfl,_]:=d;show#[_,_,rfl,rfl,q _ _ F H [] p.2 `ak (h _ _ F B) .nil λ_ m=>nomatch m]
 .show p.elim
abbrev rN(x y:Tr)(Q:aB):Prop:=match x,y with
 |.int i,.int j=>Q<|.int<|i + j
 |.str i,.str j=>↑i + ↑j <= 1000000 /\ Q (.str<|i ++ j)
 |.af _ xs,.af _ ys=>↑xs + ↑ys <= 1000000 /\ Q (.af .o<|xs ++ ys)
 |_,_=>False
def Rs.append:∀{xs ys:ag}{vs us:ay}{c d:Cs},Rs K F B xs vs c->Rs K F B ys us d->Rs K F B (xs++ys) (vs++us) (c++d)
 |[],_,_,_,_,_,y,h=>by let#[a,b]:=y;rw[a,b];show h
 |x::xs,_,_,_,_,_,y,h=>by let#[v,r,c,d,a,b,e,f]:=y;rw[a,b];show#[v,r ++ _,c,d ++ _,rfl,by rw[ă],e,Rs.append f h]
def nD(s:aD F H)(r:Rs K F B xs vs cs)(c:au F H cs)(a:H p=Æ):Gr F H F (aU H p<|.af vs)/\R K F B `aU `am ((p,.af vs)::cs)/\au F (aU H p<|.af vs) ((p,.af vs)::cs):=
 #[Gr.l7 s a,#[p,vs,cs,rfl,rfl,r],uv s c a]
def WQ:fk K k (ET K) rN:=λF B H x y M ty U Y Q N s b z d e C D hd p q=>by
 cases M with
 |int i=>
  cases ty with
  |int j=>
   let#[rfl,_]:=d;let#[rfl,_]:=e;show .inl #[_,_,rfl,rfl,q _ _ F H [] p `ak #[rfl,rfl] .nil λ_ m=>nomatch m]
  |_=>show ò p
 |str i=>
  cases ty with
  |str j=>
   let#[rfl,_]:=d;let#[rfl,_]:=e;show .inr (.inl #[_,_,rfl,rfl,nM p.1,q _ _ F H [] p.2 `ak #[rfl,rfl] .nil λ_ m=>nomatch m])
  |_=>show ò p
 |af f xs=>
  cases ty with
  |af f' ys=>
   ∎;let#[a,vs,ds,rfl,w,n,A,o]:=d.cE s b C;let#[O,us,es,rfl,u,g,v,h]:=e.cE s b D;∎;show .inr (.inr #[_,_,_,_,rfl,rfl,w,u,nM (by rw[n.length,g.length];show p.1),λl r=>?_]);let#[I,J,L]:=nD s (n.append g) (A.app v λp E q G=>hd p (o p E) q<|h q G) r;show q _ _ F _ _ p.2 I J L λp m=>?_
   cases m with
   |head=>show .inl r
   |tail _ m=>show (Ê.mp m).elim (λm=>.inr<|.inl<|o p m)<|λm=>.inr<|.inr<|h p m
  |_=>show ò p
 |_=>show ò p
abbrev wD(x y:Tr)(Q:aB):Prop:=match x,y with
 |.int i,.int j=>nh i j /\ Q (.int<|i * j)
 |_,_=>False
def XH:fk K k EU wD:=λF B H x y j ty f g Q e s b z a d h i hd p q=>by
 unfold wD at p;split at p
 .obtain⟨rfl,_⟩:=a;let#[rfl,_]:=d;show .inl #[_,_,rfl,rfl,p.1,q _ _ F H [] p.2 `ak #[rfl,rfl] .nil λ_ m=>nomatch m]
 .show p.elim
abbrev wF:Tr->Option aI
 |.int n=>À<|.inl n
 |.str x=>À<|.inr x
 |_=>Æ
def xM(r:R K F B t v cs)(h:wF t=À y):v=kV y:=by
 cases t with
 |int n=>cases h;show r.1
 |str n=>cases h;show r.1
 |_=>cases h
abbrev iw(x y:Tr)(Q:aB):Prop:=match x,y with
 |.aF xs,.int i=>(match cW xs i with |some t=>Q t |none=>False)
 |.af _ xs,.int i=>(match cW xs i with |some t=>Q t |none=>False)
 |.str x,.int i=>↑x <= 1000000 /\ (match cW x.cps.toList i with |some c=>Q (.str #[([c].toArray)]) |none=>False)
 |.aP _ m,y=>(match wF y with |some y=>(match look m y with |some t=>Q t |none=>False) |none=>False)
 |_,_=>False
def Rs.cW(r:Rs K F B xs vs cs)(c:au F H cs)(h:L2.cW xs i=À t):∃u d,L2.cW vs i=À u/\R K F B t u d/\au F H d/\∀p∈d,p∈cs:=by
 unfold L2.cW at h ⊢;rw[r.length];cases e:iM ↑xs i with
 |none=>rw[e] at h;cases h
 |some j=>rw[e] at h;show r.at' c h
def XI:fk K k (EZ K) iw:=λF B H x y O ty Y cy Q D s b z j l C hy hd p q=>by
 cases O with
 |aF U=>
  cases ty with
  |int i=>
   unfold iw at p;dsimp only at p;let#[rfl,_]:=l;split at p
   .rename_i e;∎;let#[a,vs,rfl,g,h]:=j.dz s;let#[u,d,n,o,r,v]:=h.cW C e;∎;show .inl<|.inr<|.inl #[_,_,_,_,rfl,rfl,g,n,q _ _ F H d p (Gr.aR s) o r λp m=>.inr<|.inl<|v p m]
   .show p.elim
  |_=>show ò p
 |af f U=>
  cases ty with
  |int i=>
   unfold iw at p;dsimp only at p;let#[rfl,_]:=l;split at p
   .rename_i e;∎;let#[a,vs,M,rfl,g,h,w,A]:=j.cE s b C;let#[u,d,n,o,r,v]:=h.cW w e;∎;show .inl<|.inl #[_,_,_,_,rfl,rfl,g,n,q _ _ F H d p (Gr.aR s) o r λp m=>.inr<|.inl<|A p<|v p m]
   .show p.elim
  |_=>show ò p
 |str x=>
  cases ty with
  |int i=>
   unfold iw at p;dsimp only at p;∎;let#[rfl,_]:=l;let#[rfl,_]:=j;let#[N,p]:=p;∎;split at p
   .rename_i e;show .inl (.inr (.inr #[_,_,_,rfl,rfl,nM N,e,q _ _ F H [] p `ak #[rfl,rfl] .nil λ_ m=>nomatch m]))
   .show p.elim
  |_=>show ò p
 |aP f m=>
  have p:(match wF ty with |some y=>(match look m y with |some t=>D t |none=>False) |none=>False):=by cases ty<;>show p
  split at p
  .rename_i e;split at p
   .rename_i e';let#[a,vs,M,rfl,g,h,w,A]:=j.fV s b C;obtain rfl:=xM l e;rcases h.look _ w with⟨z,_⟩ |⟨x,u,c,E,G,I,J,L⟩
    .rw[z] at e';cases e'
    .rw[E] at e';cases e';show .inr #[a,u,rfl,.inl #[vs,_,g,rfl,G.symm],q _ _ F H c p `ak I J λp m=>.inr<|.inl<|A p<|L p m]
   .show p.elim
  .show p.elim
 |_=>show ò p
abbrev C3(x y:Tr)(Q:aB):Prop:=match x,y with
 |.int i,.int j=>Q<|.bl<|decide<|i < j
 |.str i,.str j=>Q<|.bl<|decide<|i.cps.toList < j.cps.toList
 |_,_=>False
def nH:fk K k E1 C3:=λF B H x y j ty f g Q e s b z a d h i hd p q=>by
 unfold C3 at p;split at p
 .obtain⟨rfl,_⟩:=a;let#[rfl,_]:=d;show .inl #[_,_,rfl,rfl,q _ _ F H [] p `ak #[rfl,rfl] .nil λ_ m=>nomatch m]
 .obtain⟨rfl,_⟩:=a;let#[rfl,_]:=d;show .inr #[_,_,rfl,rfl,q _ _ F H [] p `ak #[rfl,rfl] .nil λ_ m=>nomatch m]
 .show p.elim
abbrev C1(x y:Tr)(Q:aB):Prop:=match x,y with
 |.int i,.int j=>Q<|.bl<|decide<|j < i
 |.str i,.str j=>Q<|.bl<|decide<|j.cps.toList < i.cps.toList
 |_,_=>False
def k7:fk K k E2 C1:=λF B H x y j ty f g Q e s b z a d h i hd p q=>by
 unfold C1 at p;split at p
 .obtain⟨rfl,_⟩:=a;let#[rfl,_]:=d;show .inl #[_,_,rfl,rfl,q _ _ F H [] p `ak #[rfl,rfl] .nil λ_ m=>nomatch m]
 .obtain⟨rfl,_⟩:=a;let#[rfl,_]:=d;show .inr #[_,_,rfl,rfl,q _ _ F H [] p `ak #[rfl,rfl] .nil λ_ m=>nomatch m]
 .show p.elim
def Y5:fk K k (jx λi j=>.bl<|decide<|i<=j) (jF (λ_ _=>True) λi j=>.bl<|decide<|i<=j):=Bp λ_ _ _ _=>#[rfl,rfl]
def uC:fk K k (jx λi j=>.bl<|decide<|j<=i) (jF (λ_ _=>True) λi j=>.bl<|decide<|j<=i):=Bp λ_ _ _ _=>#[rfl,rfl]
def XJ:fk K k (jx λi j=>.int<|i - j) (jF (λ_ _=>True) λi j=>.int<|i - j):=Bp λ_ _ _ _=>#[rfl,rfl]
def UN:fk K k (rI dM λi j=>.int<|i.fdiv j) (jF dM λi j=>.int<|i.fdiv j):=BZ λ_ _ _ _=>#[rfl,rfl]
def XM:fk K k (rI (λ_ j=>0<j) λi j=>.int<|i % j) (jF (λ_ j=>0<j) λi j=>.int<|i % j):=BZ λ_ _ _ _=>#[rfl,rfl]
abbrev wG(x:Tr)(Q:aB):Prop:=match x with
 |.int i=>Q<|.int (-i)
 |_=>False
def XN:Dc K k (L2.rU λi=>.int (-i)) wG:=λF B H x g e Q d s b z a f p q=>by
 unfold wG at p;split at p
 .obtain⟨rfl,_⟩:=a;show#[_,rfl,q _ _ F H [] p `ak #[rfl,rfl] .nil λ_ m=>nomatch m]
 .show p.elim
abbrev y4:Tr->Option V
 |.int n=>À `aY |.bl b=>À `cd |.str x=>À `bC |.aN=>À .aN |_=>Æ
def xN(r:R K F B t v cs)(h:y4 t=À u):v=u:=by
 cases t with
 |int n=>cases h;show r.1
 |bl n=>cases h;show r.1
 |str n=>cases h;show r.1
 |aN=>cases h;show r.1
 |_=>cases h
abbrev ua(neg:Bool)(x y:Tr)(Q:aB):Prop:=match y4 x,y4 y with
 |some u,À v=>zC u v=Â /\ Q (.bl (if neg then !decide (u=v) else decide (u=v)))
 |_,_=>False
def XP:fk K k CL (ua Ç):=λF B H x y j ty f g Q e s b z a d h i hd p q=>by
 unfold ua at p;split at p
 .rename_i e1 e2;obtain rfl:=xN a e1;obtain rfl:=xN d e2;show#[p.1,q _ _ F H [] p.2 `ak #[rfl,rfl] .nil λ_ m=>nomatch m]
 .show p.elim
def XQ:fk K k vi (ua Â):=λF B H x y j ty f g Q e s b z a d h i hd p q=>by
 unfold ua at p;split at p
 .rename_i e1 e2;obtain rfl:=xN a e1;obtain rfl:=xN d e2;show#[p.1,q _ _ F H [] p.2 `ak #[rfl,rfl] .nil λ_ m=>nomatch m]
 .show p.elim
abbrev j5(x:Tr)(Q:Bool->Prop):Prop:=match x with
 |.bl b=>Q b
 |_=>False
abbrev pT(pe:bh):dI:=λj Q=>pe j λx=>j5 x Q
def JF(h:bE K k te pe):gk K k (tB te) (pT pe):=λF B H j i Q e c p q=>by
 show h F B H j i _ _ c p λt v b d f p1 a=>?_
 unfold j5 at p1;split at p1
 .obtain⟨rfl,_⟩:=a.r;show#[_,rfl,q _ b d p1 a.g]
 .show p1.elim
def Sr(h:bE K k te pe):gk K k (wt te) (pT pe):=JF h
abbrev zK(a b:dI):dI:=λj Q=>a j λc=>if c=Â then b j Q else Q Ç
abbrev Cu(a b:dI):dI:=λj Q=>a j λc=>if c=Â then Q Â else b j Q
abbrev zL(pa:dI):dI:=λj Q=>pa j λc=>Q (!c)
def XR(l:gk K k ta pa)(m:gk K k tb pb):gk K k (Ff ta tb) (zK pa pb):=λF B H j i Q n c p q=>by
 show l F B H j i _ _ c p λb d e p1 a=>?_
 cases b with
 |true=>rw[av4 rfl];show m d B e j i _ _ `et p1 λb f g p2 h=>q b f g p2<|a.trans' h
 |false=>show q Ç d e p1 a
def Y6(l:gk K k ta pa)(m:gk K k tb pb):gk K k (Kz ta tb) (Cu pa pb):=λF B H j i Q n c p q=>by
 show l F B H j i _ _ c p λb d e p1 a=>?_
 cases b with
 |false=>show m d B e j i _ _ `et p1 λb f g p2 h=>q b f g p2<|a.trans' h
 |true=>show q Â d e p1 a
def XS(f:gk K k ta pa):gk K k (Fg ta) (zL pa):=λF B H j i Q g c p q=>f F B H j i _ _ c p λb a d p1 e=>q (!b) a d p1 e
abbrev y6(a b:bh):bh:=λj Q=>a j λx=>j5 x λc=>if c=Â then b j Q else Q `cx
abbrev zM(a b:bh):bh:=λj Q=>a j λx=>j5 x λc=>if c=Â then Q `br else b j Q
abbrev y7(pa:bh):bh:=λj Q=>pa j λx=>j5 x λc=>Q<|.bl (!c)
def Out.bl(g:Gr F H F1 H1):Out K F B H F1 H1 `cd `cd []:=#[g,#[rfl,rfl],.nil,.nil]
def Out.tr(g:Gr F H F1 H1)(o:Out K F1 B H1 F2 H2 t v cs):Out K F B H F2 H2 t v cs:=#[g.trans' o.g,o.r,o.c,o.n.back g.h]
def UO(m:bE K k ta pa)(n:bE K k tb pb):bE K k (ED ta tb) (y6 pa pb):=λF B H j i Q s c p q=>by
 show m F B H j i _ _ c p λt v d e u p1 a=>?_
 unfold j5 at p1;split at p1
 .rename_i b;let#[rfl,_]:=a.r;show#[b,rfl,?_];cases b with
  |true=>show n d B e j i _ _ `eF p1 λt v f h l p2 o=>q t v f h l p2<|.tr a.g o
  |false=>show q _ _ d e [] p1 (.bl a.g)
 .show p1.elim
def XT(m:bE K k ta pa)(n:bE K k tb pb):bE K k (Fh ta tb) (zM pa pb):=λF B H j i Q s c p q=>by
 show m F B H j i _ _ c p λt v d e u p1 a=>?_
 unfold j5 at p1;split at p1
 .rename_i b;let#[rfl,_]:=a.r;show#[b,rfl,?_];cases b with
  |false=>show n d B e j i _ _ `eF p1 λt v f h l p2 o=>q t v f h l p2<|.tr a.g o
  |true=>show q _ _ d e [] p1 (.bl a.g)
 .show p1.elim
def UP(e:bE K k ta pa):bE K k (EE ta) (y7 pa):=λF B H j i Q f c p q=>by
 show e F B H j i _ _ c p λt v b d h p1 a=>?_
 unfold j5 at p1;split at p1
 .obtain⟨rfl,_⟩:=a.r;show#[_,rfl,q _ _ b d [] p1 (.bl a.g)]
 .show p1.elim
abbrev Cq(d:dI)(a b:bh):bh:=λj Q=>d j λc=>if c=Â then a j Q else b j Q
def XU(o:gk K k tc pc)(m:bE K k ta pa)(n:bE K k tb pb):bE K k (Kx tc ta tb) (Cq pc pa pb):=λF B H j i Q r c p q=>by
 show o F B H j i _ _ c p λb h l p1 a=>?_
 cases b with
 |true=>rw[av4 rfl] at p1 ⊢;show m h B l j i _ _ `et p1 λt v d e f p2 g=>q t v d e f p2<|.tr a g
 |false=>rw[av3 ∎] at p1 ⊢;show n h B l j i _ _ `et p1 λt v d e f p2 g=>q t v d e f p2<|.tr a g
end
end Pu
namespace Pu
open PySem L2 Vc Sf
section
mutual
theorem R.low:∀(t:Tr){v:V}{cs:Cs},bZ t=Â->B Ç=B' Ç->R K F B t v cs->R K F B' t v cs
 |.int _,_,_,_,_,h=>h
 |.bl _,_,_,_,_,h=>h
 |.str _,_,_,_,_,h=>h
 |.aN,_,_,_,_,h=>h
 |.ak,_,_,_,_,h=>h
 |.ty _,_,_,_,_,h=>h
 |.cl _,_,_,_,_,h=>h
 |.exc _ _,_,_,_,_,h=>h
 |.aF xs,_,_,n,e,y=>by let#[a,vs,b,d,g]:=y;show#[a,vs,b,d,Rs.low xs n e g]
 |.af .f xs,_,_,n,e,y=>by let#[z,a,vs,b,d,g]:=y;show#[z,a,vs,b,d,Rs.low xs n e g]
 |.af (.l Â) xs,_,_,n,_,_=>by cases n
 |.af (.l Ç) xs,_,_,n,e,y=>by let#[z,a,vs,b,d,g]:=y;show#[z,a,vs,b,by rw[<- e];show d,Rs.low xs n e g]
 |.af .o xs,_,_,n,e,y=>by let#[a,vs,i,b,d,g]:=y;show#[a,vs,i,b,d,Rs.low xs n e g]
 |.aP .f xs,_,_,n,e,y=>by let#[z,a,vs,b,d,g,m]:=y;show#[z,a,vs,b,d,Rk.low xs n e g,m]
 |.aP (.l Â) xs,_,_,n,_,_=>by cases n
 |.aP (.l Ç) xs,_,_,n,e,y=>by let#[z,a,vs,b,d,g,m]:=y;show#[z,a,vs,b,by rw[<- e];show d,Rk.low xs n e g,m]
 |.aP .o xs,_,_,n,e,y=>by let#[a,vs,i,b,d,g,m]:=y;show#[a,vs,i,b,d,Rk.low xs n e g,m]
 |.ins .f _ xs,_,_,n,e,y=>by let#[z,a,j,vs,b,d,g]:=y;show#[z,a,j,vs,b,d,Rf.low xs n e g]
 |.ins (.l Â) _ xs,_,_,n,_,_=>by cases n
 |.ins (.l Ç) _ xs,_,_,n,e,y=>by let#[z,a,j,vs,b,d,g]:=y;show#[z,a,j,vs,b,by rw[<- e];show d,Rf.low xs n e g]
 |.ins .o _ xs,_,_,n,e,y=>by let#[a,j,vs,i,b,d,g]:=y;show#[a,j,vs,i,b,d,Rf.low xs n e g]
theorem Rs.low:∀(t:List Tr){v:List V}{cs:Cs},eB t=Â->B Ç=B' Ç->Rs K F B t v cs->Rs K F B' t v cs
 |[],_,_,_,_,h=>h
 |x::xs,_,_,n,e,y=>by
  let#[v,r,c,d,a,b,f,g]:=y;rw[eB,å] at n;show#[v,r,c,d,a,b,R.low x n.1 e f,Rs.low xs n.2 e g]
theorem Rk.low:∀(t:List (aI×Tr)){v:List (aI×V)}{cs:Cs},eW t=Â->B Ç=B' Ç->Rk K F B t v cs->Rk K F B' t v cs
 |[],_,_,_,_,h=>h
 |(_,x)::xs,_,_,n,e,y=>by
  let#[v,r,c,d,a,b,f,g]:=y;rw[eW,å] at n;show#[v,r,c,d,a,b,R.low x n.1 e f,Rk.low xs n.2 e g]
theorem Rf.low:∀(t:List (Str×Tr)){v:List (Str×V)}{cs:Cs},gz t=Â->B Ç=B' Ç->Rf K F B t v cs->Rf K F B' t v cs
 |[],_,_,_,_,h=>h
 |(_,x)::xs,_,_,n,e,y=>by
  let#[v,r,c,d,a,b,f,g]:=y;rw[gz,å] at n;show#[v,r,c,d,a,b,R.low x n.1 e f,Rf.low xs n.2 e g]
end
mutual
theorem R.dn(b:∀k,Le (B k) G):∀(t:Tr){v:V}{cs:Cs},R K F B t v cs->R K F (λ_=>G) (dn t) v cs
 |.int _,_,_,h=>h
 |.bl _,_,_,h=>h
 |.str _,_,_,h=>h
 |.aN,_,_,h=>h
 |.ak,_,_,h=>h
 |.ty _,_,_,h=>h
 |.cl _,_,_,h=>h
 |.exc _ _,_,_,h=>h
 |.aF xs,_,_,y=>by let#[a,vs,d,e,g]:=y;show#[a,vs,d,e,Rs.dn b xs g]
 |.af .f xs,_,_,y=>by let#[z,a,vs,d,e,g]:=y;show#[z,a,vs,d,e,Rs.dn b xs g]
 |.af (.l k) xs,_,_,y=>by let#[z,a,vs,d,e,g]:=y;show#[z,a,vs,d,(b k).af e,Rs.dn b xs g]
 |.af .o xs,_,_,y=>by let#[a,vs,i,d,e,g]:=y;show#[a,vs,i,d,e,Rs.dn b xs g]
 |.aP .f xs,_,_,y=>by let#[z,a,vs,d,e,g,m]:=y;show#[z,a,vs,d,e,Rk.dn b xs g,by rw[eQ];show m]
 |.aP (.l k) xs,_,_,y=>by let#[z,a,vs,d,e,g,m]:=y;show#[z,a,vs,d,(b k).aP e,Rk.dn b xs g,by rw[eQ];show m]
 |.aP .o xs,_,_,y=>by let#[a,vs,i,d,e,g,m]:=y;show#[a,vs,i,d,e,Rk.dn b xs g,by rw[eQ];show m]
 |.ins .f _ xs,_,_,y=>by let#[z,a,j,vs,d,e,g]:=y;show#[z,a,j,vs,d,e,Rf.dn b xs g]
 |.ins (.l k) _ xs,_,_,y=>by let#[z,a,j,vs,d,e,g]:=y;show#[z,a,j,vs,d,b k _ _ (by intro _ _ z;cases z) e,Rf.dn b xs g]
 |.ins .o _ xs,_,_,y=>by let#[a,j,vs,i,d,e,g]:=y;show#[a,j,vs,i,d,e,Rf.dn b xs g]
theorem Rs.dn(b:∀k,Le (B k) G):∀(t:List Tr){v:List V}{cs:Cs},Rs K F B t v cs->Rs K F (λ_=>G) (cV t) v cs
 |[],_,_,h=>h
 |x::xs,_,_,y=>by let#[v,r,c,d,a,e,f,g]:=y;show#[v,r,c,d,a,e,R.dn b x f,Rs.dn b xs g]
theorem Rk.dn(b:∀k,Le (B k) G):∀(t:List (aI×Tr)){v:List (aI×V)}{cs:Cs},Rk K F B t v cs->Rk K F (λ_=>G) (iE t) v cs
 |[],_,_,h=>h
 |(_,x)::xs,_,_,y=>by let#[v,r,c,d,a,e,f,g]:=y;show#[v,r,c,d,a,e,R.dn b x f,Rk.dn b xs g]
theorem Rf.dn(b:∀k,Le (B k) G):∀(t:List (Str×Tr)){v:List (Str×V)}{cs:Cs},Rf K F B t v cs->Rf K F (λ_=>G) (iY t) v cs
 |[],_,_,h=>h
 |(_,x)::xs,_,_,y=>by let#[v,r,c,d,a,e,f,g]:=y;show#[v,r,c,d,a,e,R.dn b x f,Rf.dn b xs g]
theorem eQ:∀(xs:List (aI×Tr)),(iE xs).map (·.1)=xs.map (·.1)
 |[]=>rfl
 |(_,_)::xs=>by change _::_=_::_;rw[eQ xs]
end
def oA:∀(xs:ag),(cV xs).length=↑xs
 |[]=>rfl
 |_::xs=>by change (cV xs).length + 1=_;rw[oA xs];rfl
end
structure bg(K:aq)(k:Md)(lo:Nat)(us:ay)(Fb Hb F H:Hp)(G:St)(J:ag)(cs:Nat->Cs):Prop where
 g:Gr Fb Hb F H
 z:k.z=Â->Fz S0 F
 l:↑G=↑J
 e:∀(i:Nat)(t:Tr),J[i]?=À t->t=.ak\/∃v,G[i]?=À (À v)/\R K F (λ_=>Hb) t v (cs i)
 c:∀i,au F H<|cs i
 n:∀i,dH Hb<|cs i
 d:∀i j,i≠j->∀p∈cs i,∀q∈cs j,p.1≠q.1
 p:∀i,i<lo->G[i]?=(us[i]?).map À
 x:∀x G' F' H',k.q x->∀d,XF K F' d x.f->Gr Fb Hb F' H'->k.E G' x.c d H'
section
abbrev Bq(Hb H:Hp):Bool->Hp:=λb=>if b then H else Hb
def bg.fM(W:bg K k lo us Fb Hb F H j G cs):gC K k F `cH H j `eH where
 s:=W.g.s
 b:=λb=>by
  cases b with
  |true=>show aD.refl H
  |false=>show W.g.h
 z:=W.z
 e:=λi t h=>by
  rw[Í] at h;cases q:G[i]? with
  |none=>rw[q] at h;cases h
  |some u=>
   rw[q] at h;cases h;rcases W.e i u q with rfl |⟨v,l,n⟩
   .show .inl rfl
   .show .inr ⟨v,l,n.aO (λb=>?_) u λp m=>(W.c i).h p m⟩;cases b with
    |true=>show Le.of W.g.h
    |false=>show Le.refl _
 x:=λx a f q d y g=>W.x x j a f q d y<|W.g.trans' g
def bg.gr(W:bg K k lo us Fb Hb F H j G cs)(g:Gr F H F' H'):bg K k lo us Fb Hb F' H' j G cs:=
 #[W.g.trans' g,λh=>g.fz<|W.z h,W.l,λi t h=>(W.e i t h).imp id λ⟨v,h1,h2⟩=>#[v,h1,h2.mo g.le (λ_=>Le.refl _) t],λi=>(W.c i).gr g,W.n,W.d,W.p,W.x]
def bg.set{i:Nat}{t:Tr}{v:V}{c:Cs}(W:bg K k lo us Fb Hb F H G J cs)(y:lo<=i)(r:R K F (λ_=>Hb) t v c)(w:au F H c)(n:dH Hb c)(d:∀j,j≠i->∀p∈cs j,∀q∈c,p.1≠q.1):
  bg K k lo us Fb Hb F H (G.set i<|À v) `cI (λj=>if j=i then c else cs j) where
 g:=W.g
 z:=W.z
 l:=by rw[û,û];show W.l
 e:=λj u h=>by
  by_cases e:j=i
  .subst e;have s:j<↑J:=by have:=(Á.mp h).1;rw[û] at this;show this
   rw[ÿ s] at h;cases h;show .inr #[v,ÿ (by rw[W.l];show s),by rw[av4 rfl];show r]
  .rw[î<|λz=>e z.symm] at h;rw[av3 e];show (W.e j u h).imp id λ⟨v,h1,h2⟩=>#[v,by rw[î<|λz=>e z.symm];show h1,h2]
 c:=λj=>by
  split
  .show w
  .show W.c j
 n:=λj=>by
  split
  .show n
  .show W.n j
 d:=λa b ne p o q f=>by
  by_cases m:a=i
  .rw[av4 m] at o;rw[av3<|λz=>ne<|m.trans z.symm] at f;show (d b (λz=>ne<|m.trans z.symm) q f p o).symm
  .rw[av3 m] at o;by_cases eb:b=i
   .rw[av4 eb] at f;show d a m p o q f
   .rw[av3 eb] at f;show W.d a b ne p o q f
 p:=λj h=>by rw[î ⋯];show W.p j h
 x:=W.x
def bg.out{i:Nat}{t:Tr}{v:V}{c:Cs}(W:bg K k lo us Fb Hb F H G J cs)(o:Out K F `cH H F' H' t v c)(a:lo<=i)(n:bZ t=Â):
  bg K k lo us Fb Hb F' H' (G.set i<|À v) `cI (λj=>if j=i then c else cs j):=
 (W.gr o.g).set a (o.r.low t n rfl) o.c (λp m=>W.g.h.free<|o.n p m) λj _ p b q d e=>by
  have:=(W.c j).h p b;rw[e,o.n q d] at this;cases this
end
structure Pd where
 nx:aA
 rt:Tr->aA
 bk:aA:=λ_=>False
 ct:aA:=λ_=>False
nonrec abbrev cI:=Pd->aA
structure Lk(K:aq)(k:Md)(lo:Nat)(us:ay)(Fb Hb:Hp)(D:Ends)(D':Pd):Prop where
 nx:∀F H j G cs,bg K k lo us Fb Hb F H j G cs->D'.nx G->D.nx j H
 rt:∀F H j G cs v t c,bg K k lo us Fb Hb F H j G cs->R K F (λ_=>Hb) t v c->au F H c->dH Hb c->(∀i,∀p∈cs i,∀q∈c,p.1≠q.1)->cZ t=Â->D'.rt t G->D.rt v H
 bk:∀F H j G cs,bg K k lo us Fb Hb F H j G cs->D'.bk G->D.bk j H
 ct:∀F H j G cs,bg K k lo us Fb Hb F H j G cs->D'.ct G->D.ct j H
abbrev dB(K:aq)(k:Md)(lo:Nat)(f:TS)(ps:cI):Prop:=∀(us:ay)(b d F H:Hp)(j:St)(i:ag)(e:Nat->Cs)(D:Ends)(a:Pd),bg K k lo us b d F H j i e->ps a i->Lk K k lo us b d D a->f D j H
section
abbrev wH(p q:cI):cI:=λD j=>p { D with nx:=q D } j
abbrev y8:cI:=λD j=>D.nx j
def XW(h:dB K k lo t p)(h':dB K k lo u q):dB K k lo (wu t u) (wH p q):=λus b d F H j i a D e W p L=>
 h us b d F H j i a _ _ W p #[λF H j i a W q=>h' us b d F H j i a D e W q L,L.rt,L.bk,L.ct]
def T2:dB K k lo EF y8:=λus d e F H j i a D b W p L=>L.nx F H j i a W p
abbrev zN(i:Nat)(pe:bh):cI:=λD j=>pe `ag λt=>bZ t=Â/\D.nx (j.set i t)
def XX(e:lo<=i)(h:bE K k te pe):dB K k lo (nB te<|kG i) (zN i pe):=λus g d F H j G l D f W p L=>by
 show h F `di H j _ _ _ W.fM p λt v a b c q o=>?_
 show L.nx a b _ _ _ (W.out o e q.1) q.2
abbrev y9(pe:bh):cI:=λD j=>pe `ag λ_=>D.nx j
def T3(h:bE K k te pe):dB K k lo (tO te) (y9 pe):=λus f d F H j i l D e W p L=>
 h F `di H j _ _ _ W.fM p λt v a b c q o=>L.nx a b _ _ _ (W.gr o.g) q
abbrev zO(pe:bh):cI:=λD j=>pe `ag λt=>cZ t=Â/\D.rt t j
def XY(h:bE K k te pe):dB K k lo (zx te) (zO pe):=λus w d F H j G f D u W p L=>by
 show h F `di H j _ _ _ W.fM p λt v a b c q o=>?_
 show L.rt a b j G f v t c (W.gr o.g) (o.r.base t q.1) o.c (λp m=>W.g.h.free<|o.n p m) (λi p l q s e=>?_) q.1 q.2;have:=(W.c i).h p l;rw[e,o.n q s] at this;cases this
abbrev wI(a:dI)(p q:cI):cI:=λD j=>a `ag λb=>if b=Â then p D j else q D j
def Y7(n:gk K k tc pc)(h:dB K k lo t p)(h':dB K k lo u q):dB K k lo (Fi tc t u) (wI pc p q):=λus f a F H j i m D d W p L=>by
 show n F (Bq a H) H j _ _ _ W.fM p λb e l q g=>?_
 cases b with
 |true=>show h us f a e l j i m D d `eu q L
 |false=>show h' us f a e l j i m D d `eu q L
abbrev E3(f:dI)(e:cI):cI:=λD j=>∃I:Nat->aA,(∃m,I m j)/\∀m j,I m j->f `ag λb=>if b=Â then e { D with nx:=λd=>∃a,a<m/\I a d,ct:=λd=>∃a,a<m/\I a d,bk:=D.nx } j else D.nx j
def XZ(v:gk K k tc pc)(u:dB K k lo tb pb):dB K k lo (Ee tc tb) (E3 pc pb):=λus f e F H j G a D y W p L=>by
 let#[I,#[x,w],step]:=p;show#[λm j H=>∃F G a,bg K k lo us f e F H j G a/\I m G,#[x,F,G,a,W,w],?_];intro m j H zy;let#[F,G,a,W,i]:=zy;show v F (Bq e H) H j _ _ _ W.fM (step m G i) λb n r q g=>?_
 cases b with
 |false=>show L.nx n r j G a `eu q
 |true=>
  show#[λs o=>∃d,d<m/\∃F G a,bg K k lo us f e F o s G a/\I d G,λs o h=>h,?_];show u us f e n r j G a _ _ `eu q #[?_,L.rt,?_,?_]
  .show λF H j G a W ⟨d,l,i⟩=>#[d,l,F,G,a,W,i]
  .show L.nx
  .show λF H j G a W ⟨d,l,i⟩=>#[d,l,F,G,a,W,i]
end
nonrec abbrev gR:=ag->(Tr->aA)->Prop
nonrec abbrev iQ:=ag->(Tr->aA)->(Xv->Prop)->Prop
abbrev jY(K:aq)(z:Bool)(lo n:Nat)(ps:iQ):Sp:=λvs H Q E=>↑vs=n/\∃(F b:Hp)(h:ag)(j:Nat->Cs)(f:Tr->aA)(q:Xv->Prop),bg K #[z,λ_=>E,q] lo vs F b F H (vs.map À) h j/\ps h f q/\
 ∀d e l g a v t c,bg K #[z,λ_=>E,q] lo vs F b d e l g a->R K d (λ_=>b) t v c->au d e c->dH b c->(∀i,∀p∈a i,∀q∈c,p.1≠q.1)->cZ t=Â->f t g->Q v e
abbrev bU(K:aq)(z:Bool)(lo n:Nat)(ps:gR):Sp:=jY K z lo n λa Q _=>ps a Q
def bg.md(W:bg K k lo us Fb Hb F H j i cs)(hz:k'.z=Â->k.z=Â)(x:∀x m a b,k'.q x->∀d,XF K a d x.f->Gr Fb Hb a b->k'.E m x.c d b):bg K k' lo us Fb Hb F H j i cs:=#[W.g,λh=>W.z<|hz h,W.l,W.e,W.c,W.n,W.d,W.p,x]
section
def bg.start(N:ah)(b:lo<=↑vs)(W:bg K k lo us Fb Hb F H (vs.map À) j cs):bg K k lo us Fb Hb F H `bh (j++Ë (↑N - ↑j) .ak) cs where
 g:=W.g
 z:=W.z
 l:=by
  have:=W.l;rw[Å] at this;change (vs.map À++Ë (↑N - ↑vs) Æ).length=_;rw[Ù,Ù,à,à,Å,this]
 e:=λi t h=>by
  have a:=W.l;rcases Nat.lt_or_ge i ↑j with z |z
  .rw[ď z] at h;show (W.e i t h).imp id λ⟨v,h1,h2⟩=>#[v,by change (vs.map À++Ë (↑N - ↑vs) Æ)[i]?=_;rw[ď (by rw[a];show z)];show h1,h2]
  .rw[Ĕ z] at h;have m:=Ð h;show .inl (List.mem_replicate.mp m).2
 c:=W.c
 n:=W.n
 d:=W.d
 p:=λi h=>by
  have e:=W.p i h;change (vs.map À++Ë (↑N - ↑vs) Æ)[i]?=_;rw[ď (by rw[Å];omega)];show e
 x:=W.x
end
def Rs.split:∀{n:ag}{vs:ay}{c:Cs},Rs K F B n vs c->au F H c->∃cs:Nat->Cs,(∀(i:Nat)(t:Tr),n[i]?=À t->∃v,vs[i]?=À v/\R K F B t v (cs i))/\(∀i,∀p∈cs i,p∈c)/\(∀i,au F H<|cs i)/\∀i j,i≠j->∀p∈cs i,∀q∈cs j,p.1≠q.1
 |[],_,_,_,_=>#[λ_=>[],λi t h=>(by cases h),λ_ _ m=>(nomatch m),λ_=>.nil,λ_ _ _ _ m=>nomatch m]
 |x::xs,_,_,y,hc=>by
  let#[v,r,c,d,g,l,D,E]:=y;rw[l] at hc;let#[cs,o,e,s,w]:=Rs.split E hc.right;have f:∀p∈c,∀q∈d,p.1≠q.1:=λp a q b=>by
   have:=hc.nd;rw[ä,š] at this;show this.2.2 _ (æ.mpr #[p,a,rfl]) _<|æ.mpr #[q,b,rfl]
  show#[λi=>match i with |0=>c |j+1=>cs j,λi t h=>?_,λi p m=>?_,λi=>?_,λi j ne p a q b=>?_]
  .cases i with
   |zero=>cases h;show#[v,by rw[g];rfl,D]
   |succ j=>let#[u,A,C]:=o j t h;show#[u,by rw[g];show A,C]
  .rw[l];cases i with
   |zero=>show Ê.mpr<|.inl m
   |succ j=>show Ê.mpr<|.inr<|e j p m
  .cases i with
   |zero=>show hc.left
   |succ j=>show s j
  .cases i with
   |zero=>
    cases j with
    |zero=>show av5 rfl ne
    |succ j=>show f p a q<|e j q b
   |succ i=>
    cases j with
    |zero=>show (f q b p<|e i p a).symm
    |succ j=>show w i j (λz=>ne<|by rw[z]) p a q b
section
def X0{bf:gR}(F:iO K x qual st f fd)(S:bX N ps `bb)(hn:↑ps=n)(L:lo<=n)(e:∀(bS:ar)(A:ą)(outer:cK)(s:ao)(H:Hp)(E:XK),bD m (A.deeper<|Ĝ qual (bx st) ⇑s f bS)->
   ∃u B,fR (kI bM P w K mg base N qual `bb f bS A outer s H E).sL `bN u/\dB K (Md.base z) lo u B/\∀xs b,xs.length=n->bf xs b->B { nx:=λi=>b .aN i,rt:=b } (xs++Ë (↑N - n) .ak)):
  aK P w K mg base bM (m+1) f fd ps (bU K z lo n bf):=by
 show F.ok S (λvs H Q E h=>h.1.trans hn.symm)<|λbS A outer s H vs Q E O h=>?_;∎;let#[hl,C,D,u,g,b,q,W,p,a]:=h;let#[Y,B,G,I,M]:=e bS A outer s H E O;∎;have o:↑u=n:=by have:=W.l;rw[Å] at this;omega
 show#[Y,G,I vs C D C H _ _ g _ { nx:=λi=>b .aN i,rt:=b } ((W.start N ⋯).md id λ_ _ _ _ h=>h.elim) (by rw[o];show M u b o p) #[?_,?_,λ_ _ _ _ _ _ (h:False)=>h.elim,λ_ _ _ _ _ _ (h:False)=>h.elim]]
 .show λF H j i g y q=>a F H j i g .aN .aN [] (y.md id W.x) #[rfl,rfl] .nil .nil (λ_ _ _ _ m=>nomatch m) rfl q
 .show λF H j i g v t c y r J n d U q=>a F H j i g v t c (y.md id W.x) r J n d U q
def T4{bf:iQ}(F:iO K x qual st f fd)(S:bX N ps `bb)(hn:↑ps=n)(L:lo<=n)(e:∀(bS:ar)(A:ą)(outer:cK)(s:ao)(H:Hp)(E:XK)(q:Xv->Prop),bD m (A.deeper<|Ĝ qual (bx st) ⇑s f bS)->
   ∃u B,fR (kI `bt P w K mg base N qual `bb f bS A outer s H E) `bN u/\dB K #[z,λ_=>E,q] lo u B/\∀xs b,xs.length=n->bf xs b q->B { nx:=λi=>b .aN i,rt:=b } (xs++Ë (↑N - n) .ak)):
  aK P w K mg base `bt (m+1) f fd ps (jY K z lo n bf):=by
 show F.Cp S (λvs H Q E h=>h.1.trans hn.symm)<|λbS A outer s H vs Q E O h=>?_;∎;let#[hl,C,D,u,g,b,q,W,p,a]:=h;let#[Y,B,G,I,M]:=e bS A outer s H E q O;∎;have o:↑u=n:=by have:=W.l;rw[Å] at this;omega
 show#[Y,G,I vs C D C H _ _ g _ { nx:=λi=>b .aN i,rt:=b } (W.start N ⋯) (by rw[o];show M u b o p) #[?_,?_,λ_ _ _ _ _ _ (h:False)=>h.elim,λ_ _ _ _ _ _ (h:False)=>h.elim]]
 .show λF H j i g y q=>a F H j i g .aN .aN [] y #[rfl,rfl] .nil .nil (λ_ _ _ _ m=>nomatch m) rfl q
 .show λF H j i g v t c y r J n d U q=>a F H j i g v t c y r J n d U q
end
section
def Ad{c:Cs}{p:ai×HO}(m:p∈c):c9 (c.map (·.1)) H p.1=Æ:=Y1<|æ.mpr #[p,m,rfl]
def xx(n:dH H c)(h:H a=À o):a ∉ c.map (·.1):=λm=>by
 let#[p,b,rfl]:=æ.mp m;rw[n p b] at h;cases h
def _root_.Vc.Gr.c9(g:Gr F H F1 H1)(n:dH H c)(g':Gr F1 (c9 (c.map (·.1)) H1) F' H'):Gr F H F' H':=
 Gr.of #[λa u e=>g'.h a u<|rY (xx n e)<|g.h a u e,g.f.trans g'.f,g'.s,λa u e z=>by
  cases q:F1 a with
  |some y=>show g.n a y q z
  |none=>
   have h:=g'.n a u e q;by_cases m:a∈c.map (·.1)
   .obtain⟨p,mp,rfl⟩:=æ.mp m;show n p mp
   .unfold Vc.c9 at h;rw[av3 m] at h;show g.h.free h] (g'.fz g.z)
abbrev wh(q:Xv->Prop)(bf:iQ)(a:cQ):bh:=λj Q=>a j λb=>bf (cV b) (λt _=>Q t) q
abbrev za(bf:gR)(a:cQ):bh:=λj Q=>a j λb=>bf (cV b) λt _=>Q t
def GU{n:Nat}{z:Bool}{bf:iQ}{N:TA}{M:cQ}{R':St->XK}{q':Xv->Prop}(hE:∀(F:Hp)(B:Bool->Hp)(H:Hp)(G:St)(J:ag),gC K k F B H G J->∀x A C,q' x->∀d,XF K A d x.f->Gr F H A C->R' G x.c d C)(hk:z=Â->k.z=Â)(hn:∀xs Q q,bf xs Q q->↑xs=n)(h:gj K k N M):bE K k (Ei (jY K z 0 n bf) [] R' N) (wh q' bf M):=λF B H G J Q Q' c p q=>by
 show h F B H G J _ _ c p λw vs E I D p1 l=>?_
 rw[Č];let#[cs,O,U,Y,a4]:=l.r.split l.c;have hl:↑vs=n:=by rw[l.r.length,<- hn _ _ _ p1,oA]
 have hb:∀k,aD (B k) (c9 (D.map (·.1)) I):=λk a o e=>rY (xx l.n<|c.b k a o e)<|l.g.h _ _<|c.b k a o e
 show#[hl,E,c9 (D.map (·.1)) I,cV w,cs,_,q',#[#[Bn l.g.s,Fz.refl E],λh=>l.g.fz<|c.z<|hk h,by rw[Å,oA,l.r.length],?_,Y,λi p m=>Ad<|U i p m,a4,λi h=>av5 h<|Nat.not_lt_zero i,λx _ A C h d y g=>hE F B H G J c x A C h d y<|l.g.c9 l.n g],p1,?_]
 .intro i t h;have hi:i<↑w:=by have:=(Á.mp h).1;rw[oA] at this;show this
  have e:∀(w:ag)(i:Nat),(cV w)[i]?=w[i]?.map dn:=by
   intro w
   induction w with
   |nil=>intro i;rfl
   |cons x xs ih=>intro i;cases i with
    |zero=>rfl
    |succ j=>show ih j
  rw[e] at h;cases z:w[i]? with
  |none=>rw[z] at h;cases h
  |some u=>
   rw[z] at h;cases h;let#[v,b1,b2]:=O i u z;show .inr #[v,by rw[Í,b1];rfl,b2.dn (λk=>Le.of<|hb k) u]
 .intro A C G' J' cs' v t c' W r hc nw dj nl qt;show q t v A C c' qt #[l.g.c9 l.n W.g,r.base t nl,hc,λp m=>?_];have z:=nw p m;by_cases L:p.1∈D.map (·.1)
  .obtain⟨q,mq,e⟩:=æ.mp L;have e:q.1=p.1:=e;rw[<- e];show l.n q mq
  .unfold c9 at z;rw[av3 L] at z;show l.g.h.free z
def T5{bf:gR}(a:z=Â->k.z=Â)(hn:∀xs Q,bf xs Q->↑xs=n)(h:gj K k ta pa):bE K k (EJ (bU K z 0 n bf) [] E ta) (za bf pa):=
 GU (R':=λ_=>E) (q':=λ_=>False) (bf:=λxs Q _=>bf xs Q) (λ_ _ _ _ _ _ _ _ _ h=>h.elim) a (λxs Q _=>hn xs Q) h
abbrev kU(K:aq)(k:Md)(r:ay->Hp->VK->Prop)(pr:ag->(aB)->Prop):Prop:=∀(F:Hp)(B:Bool->Hp)(H:Hp)(h:ay)(g:ag)(e:Cs)(Q:VK)(f:aB),aD F H->(∀k,aD (B k) H)->(k.z=Â->Fz S0 F)->Rs K F B g h e->au F H e->pr g f->
 (∀t v a b d,f t->Gr F H a b->R K a B t v d->au a b d->(∀p∈d,H p.1=Æ\/p∈e)->Q v b)->r h H Q
abbrev pB(pr:ag->(aB)->Prop)(a:cQ):bh:=λj Q=>a j λb=>pr b Q
def Ju(o:kU K k r pr)(h:gj K k ta pa):bE K k (vl r ta) (pB pr pa):=λF B H j i Q u c p q=>by
 show h F B H j i _ _ c p λD vs d f x p1 a=>?_
 show o d B f vs D x Q u a.g.s (λk=>(c.b k).trans a.g.h) (λh=>a.g.fz<|c.z h) a.r a.c p1 λt v e l y A g C w n=>?_
 show q t v e l y A #[a.g.trans' g,C,w,λp m=>?_];rcases n p m with z |z
 .show a.g.h.free z
 .show a.n p z
def Rs.one(r:Rs K F B [t] xs cs):∃v,xs=[v]/\R K F B t v cs:=by
 let#[v,r,c,d,b,a,e,rfl,rfl]:=r;rw[Č] at a;show#[v,b,by rw[a];show e]
abbrev zP(a:ag)(Q:aB):Prop:=match a with
 |[.int i]=>Q (.int (if i < 0 then -i else i))
 |_=>False
def AL:kU K k (λxs H Q=>∃i,xs=[.int i]/\Q (.int (if i<0 then -i else i)) H) zP:=λF B H xs f d Q a s b z r e p q=>by
 unfold zP at p;split at p
 .obtain⟨v,rfl,rfl,_⟩:=r.one;show#[_,rfl,q _ _ F H [] p `ak #[rfl,rfl] .nil λ_ m=>nomatch m]
 .show p.elim
end
structure QE(X:Cx)(k:Md)(e:ě)(pe:bh):Prop where
 h:∃te,PE X e te/\bE X.K k te pe
structure QT(X:Cx)(k:Md)(e:ě)(pe:dI):Prop where
 h:∃te,PT X e te/\gk X.K k te pe
structure QW(X:Cx)(k:Md)(e:ě)(pe:dI):Prop where
 h:∃te,PW X e te/\gk X.K k te pe
structure QA(X:Cx)(k:Md)(es:b5)(pa:cQ):Prop where
 h:∃ta,PA X es ta/\gj X.K k ta pa
structure QS(X:Cx)(k:Md)(lo:Nat)(st:Ā)(ps:cI):Prop where
 h:∃ts,PS X st ts/\dB X.K k lo ts ps
structure QB(X:Cx)(k:Md)(lo:Nat)(sts:List Ā)(ps:cI):Prop where
 h:∃ts,fR X sts ts/\dB X.K k lo ts ps
section
def qv(i:Nat)(b:do X.N[i]?=À x)(d:pW X.env.scope x:=by first |show ϲ rfl |show ű (ϲ rfl) |show ű<|ű rfl)(hd: ~~~(dY x))(a: ~~~((x == ("__classdict__":Str))=Ç)):QE X k `aq (wB i):=#[_,xE b d hd a,WI i]
def aw{i j}:QE X k (.Constant `aE j pos) (pC<|.int i):=#[_,Yd,WJ]
def fo{i j}:QE X k (.Constant (.str i) j pos) (pC<|.str i):=#[_,Jk,WK]
def iz{i j}:QE X k (.Constant (.bool i) j pos) (pC<|.bl i):=#[_,Ma,Y2]
def kq{j}:QE X k `dc (pC .aN):=#[_,Ye,WL]
def Jv(v:V)(a:Gl X x)(hm:X.mg x=À u)(r:aE v u)(ht:∀F B,R X.K F B t v [])(hd: ~~~(dY x)):QE X k `aq (pC t):=#[_,WS a hm r hd,sA ht]
def qJ(l:cG X (ŧ op) r)(hs:fk X.K k r pr)(i:QE X k a pa)(j:QE X k b pb):QE X k `dR `dh:=by
 ∎;let#[m,f,g]:=i.h;let#[tb,d,e]:=j.h;∎;show#[_,Mf l f d,xK hs g e]
def eD(d:QE X k a pa)(e:QE X k b pb):QE X k (.BinOp a .Add b pos) (p2 rN pa pb):=qJ LA WQ d e
def mJ(d:QE X k a pa)(e:QE X k b pb):QE X k (.BinOp a .Sub b pos) (p2 (jF (λ_ _=>True) λi j=>.int<|i - j) pa pb):=qJ Yo XJ d e
def cP(d:QE X k a pa)(e:QE X k b pb):QE X k `ds (p2 wD pa pb):=qJ LB XH d e
def gv(d:QE X k a pa)(e:QE X k b pb):QE X k (.BinOp a .FloorDiv b pos) (p2 (jF dM λi j=>.int<|i.fdiv j) pa pb):=qJ Us UN d e
def el(d:QE X k a pa)(e:QE X k b pb):QE X k (.BinOp a .Mod b pos) (p2 (jF (λ_ j=>0<j) λi j=>.int<|i % j) pa pb):=qJ Yp XM d e
def hV(e:QE X k a pa):QE X k (.UnaryOp .USub a pos) (p1 wG pa):=by
 let#[f,b,d]:=e.h;show#[_,Mg Yr b,Y3 XN d]
def aV(i:QE X k a pa)(j:QE X k b pb)(hs:D3 b:=by show λ_ _=>rfl)(l:X.A.units+1<ģ:=by assumption):QE X k `dO (p2 iw pa pb):=by
 ∎;let#[m,f,g]:=i.h;let#[tb,d,e]:=j.h;∎;show#[_,Lo (MF l) f d hs,xK XI g e]
def fJ(l:cG X (ö op) r)(hs:fk X.K k r pr)(i:QE X k a pa)(j:QE X k b pb)(hm:ϴ op b=Ç:=by with_unfolding_all rfl):QE X k (.Compare a [op] [b] pos) `dh:=by
 ∎;let#[m,f,g]:=i.h;let#[tb,d,e]:=j.h;∎;show#[_,WY l f d hm,xK hs g e]
def bY(l:cG X (ö op) r)(hs:fk X.K k r pr)(i:QE X k a pa)(j:QE X k b pb)(hm:ϴ op b=Ç:=by with_unfolding_all rfl):QT X k (.Compare a [op] [b] pos) (pT<|p2 pr pa pb):=by
 ∎;let#[m,f,g]:=i.h;let#[tb,d,e]:=j.h;∎;show#[_,HI l f d hm,Sr<|xK hs g e]
def gw(h:QE X k e pe)(d:∀whole,al1 e X.env whole=(do let v <- whole;ag2 e.pos;holding [v] `cl):=by intro _;rfl):QT X k e (pT pe):=by
 let#[f,a,b]:=h.h;show#[_,Yf a d,JF b]
def iV(h:QT X k e pe):QT X k `dz (zL pe):=by
 let#[d,a,b]:=h.h;show#[_,Yi a,XS b]
def QW.t(h:QW X k e pe):QT X k e pe:=by
 let#[d,a,b]:=h.h;show#[_,a.pt,b]
def r9(h:QT X k e pe):QW X k (.BoolOp .And [e] pos) pe:=by
 let#[d,a,b]:=h.h;show#[_,WU a,b]
def k8(h:QT X k e pe):QW X k (.BoolOp .Or [e] pos) pe:=by
 let#[d,a,b]:=h.h;show#[_,Yg a,b]
def rZ(h:QT X k e pe)(h':QW X k (.BoolOp .And (f::r) pos) pf):QW X k (.BoolOp .And (e::f::r) pos) (zK pe pf):=by
 ∎;let#[i,d,g]:=h.h;let#[j,a,b]:=h'.h;∎;show#[_,Yh d a,XR g b]
def kr(h:QT X k e pe)(h':QW X k (.BoolOp .Or (f::r) pos) pf):QW X k (.BoolOp .Or (e::f::r) pos) (Cu pe pf):=by
 ∎;let#[i,d,g]:=h.h;let#[j,a,b]:=h'.h;∎;show#[_,Mb d a,Y6 g b]
def jI{op}(h:QE X k e pe):QE X k (.BoolOp op [e] pos) pe:=by
 let#[d,a,b]:=h.h;show#[_,Yj a,b]
def kM(h:QE X k e pe)(h':QE X k (.BoolOp .And (f::r) pos) pf):QE X k (.BoolOp .And (e::f::r) pos) (y6 pe pf):=by
 ∎;let#[i,d,g]:=h.h;let#[j,a,b]:=h'.h;∎;show#[_,Yk d a,UO g b]
def u7(h:QE X k e pe)(h':QE X k (.BoolOp .Or (f::r) pos) pf):QE X k (.BoolOp .Or (e::f::r) pos) (zM pe pf):=by
 ∎;let#[i,d,g]:=h.h;let#[j,a,b]:=h'.h;∎;show#[_,Mc d a,XT g b]
def Y8(h:QE X k e pe):QE X k `dz (y7 pe):=by
 let#[d,a,b]:=h.h;show#[_,Yl a,UP b]
def xZ{pt:dI}(n:QT X k c pt)(l:QE X k a pa)(m:QE X k b pb):QE X k `ej (Cq pt pa pb):=by
 ∎;let#[q,i,j]:=n.h;let#[o,f,g]:=l.h;let#[tb,d,e]:=m.h;∎;show#[_,Tv i f d,XU j g e]
def az:QA X k [] wC:=#[_,qA,HZ]
def aj(h:QE X k a pa)(h':QA X k es ps)(hs:do fA a es X.env):QA X k (a::es) (yZ pa ps):=by
 ∎;let#[g,e,f]:=h.h;let#[i,b,d]:=h'.h;∎;show#[_,oJ e b hs,UM f d]
def dS{x1}(h:QA X k es ps):QE X k `en (zI ps):=by
 let#[d,a,b]:=h.h;show#[_,Yv a,WM b]
def fB(h:QA X k es ps):QE X k (.List es pos) (zJ ps):=by
 let#[d,a,b]:=h.h;show#[_,Yw a,WN b]
def dZ{r:ay->Hp->VK->Prop}{pr:ag->(aB)->Prop}{id:String}{x:Str}{p:Pos}{e:ě}{a:b5}{ps:cQ}(j:bV X `aQ r)(n:kU X.K k r pr)(hm:X.mg x=Æ)(i:QA X k (e::a) ps)(m:do Gl X x)(o:do ŏ x=À `aQ)(hn: ~~~(x≠"__name__"))(b: ~~~(dY x))(l:do fA e a X.env)(d:do gq pos a X.env):
  QE X k (.Call `aP (e::a) [] pos) (pB pr ps):=by
 let#[q,f,g]:=i.h;show#[_,TH j m hm o f hn b l d,Ju n g]
def cz:QB X k lo [] y8:=#[_,WV,T2]
def aM(h:QS X k lo st p)(h':QB X k lo r q):QB X k lo (st::r) (wH p q):=by
 ∎;let#[f,d,e]:=h.h;let#[g,a,b]:=h'.h;∎;show#[_,Ar d a,XW e b]
def aY(h:QS X k lo st p):QB X k lo [st] p:=by
 let#[d,a,b]:=h.h;show#[_,AF a,b]
abbrev El:cI:=λ_ _=>False
def H0:QS X k lo st El:=#[_,Tw,λ_ _ _ _ _ _ _ _ _ _ _ h _=>h]
def Y9(h:QE X k e pe)(hs:do ĳ e Æ pos.line X.env=pure Ç):QS X k lo `dd (y9 pe):=by
 let#[d,a,b]:=h.h;show#[_,xr a hs,T3 b]
def bJ(h:QE X k e pe):QS X k lo `bZ (zO pe):=by
 let#[d,a,b]:=h.h;show#[_,Jl a,XY b]
def cA(j:QT X k e pe)(h:QB X k lo s1 p)(h':QB X k lo s2 q):QS X k lo (.If e s1 s2 pos) (wI pe p q):=by
 ∎;let#[m,g,i]:=j.h;let#[l,d,f]:=h.h;let#[tb,a,b]:=h'.h;∎;show#[_,Me g d a,Y7 i f b]
def B0(g:QT X k e pe)(h:QB X k lo s1 p)(i:ac6 `ab X.A X.env X.xe:=by first |show af1 |show fv rfl):QS X k lo (.While e s1 [] pos) (E3 pe p):=by
 ∎;let#[l,d,f]:=g.h;let#[j,a,b]:=h.h;∎;show#[_,Tz i d a,XZ f b]
def jh(i:Nat)(h:QE X k e pe)(d:X.N.Nodup:=by assumption)(j: ~~~(lo<=i))(g:do X.N[i]?=À x)(l:Loc X.env.scope x:=by first |show ϲ rfl |show ű rfl)(hs:do ĳ e (À<|.Name x pos') pos.line X.env=pure Ç)(f:kW X x:=by first |show .inl rfl |show .inr rfl |assumption):
  QS X k lo (.Assign [.Name x pos'] e pos) (zN i pe):=by
 let#[m,a,b]:=h.h;show#[_,xF d g l a hs f,XX j b]
end
section
def cu{bf:gR}(F:iO K x qual st f fd)(S:bX N ps `bb)(hn:↑ps=n)(e:lo<=n)(a:∀(bS:ar)(A:ą)(outer:cK)(s:ao)(H:Hp)(E:XK),bD m (A.deeper<|Ĝ qual (bx st) ⇑s f bS)->(A.deeper<|Ĝ qual (bx st) ⇑s f bS).units+1<ģ->N.Nodup->
   ∃b,QB (kI bM P w K mg base N qual `bb f bS A outer s H E).sL (Md.base z) lo `bN b/\∀xs d,xs.length=n->bf xs d->b { nx:=λj=>d .aN j,rt:=d } (xs++Ë (↑N - n) .ak)):
  aK P w K mg base bM (m+1) f fd ps (bU K z lo n bf):=X0 F S hn e λbS A outer s H E g=>by
 ∎;let#[b,h,q]:=a bS A outer s H E g (Kt g) S.nd;let#[o,i,l]:=h.h;∎;show#[o,b,i,l,q]
def B4{bf:iQ}(F:iO K x qual st f fd)(S:bX N ps `bb)(hn:↑ps=n)(e:lo<=n)(a:∀(bS:ar)(A:ą)(outer:cK)(s:ao)(H:Hp)(E:XK)(q:Xv->Prop),bD m (A.deeper<|Ĝ qual (bx st) ⇑s f bS)->(A.deeper<|Ĝ qual (bx st) ⇑s f bS).units+1<ģ->N.Nodup->
   ∃b,QB (kI `bt P w K mg base N qual `bb f bS A outer s H E) #[z,λ_=>E,q] lo `bN b/\∀xs d,xs.length=n->bf xs d q->b { nx:=λj=>d .aN j,rt:=d } (xs++Ë (↑N - n) .ak)):
  aK P w K mg base `bt (m+1) f fd ps (jY K z lo n bf):=T4 F S hn e λbS A outer s H E q g=>by
 ∎;let#[b,h,q]:=a bS A outer s H E q g (Kt g) S.nd;let#[o,i,l]:=h.h;∎;show#[o,b,i,l,q]
end
section
def lay:∀(c:Cs){F:Hp},Gr Fb Hb F H->au F H c->dH Hb c->Plain c->∃i,Gr Fb Hb i H/\(∀S,Fz S F->Fz S i)/\aD F i/\(∀p∈c,i p.1=À p.2)/\∀a,a ∉ c.map (·.1)->i a=F a
 |[],F,g,_,_,_=>#[F,g,λ_ h=>h,aD.refl F,λ_ m=>(nomatch m),λ_ _=>rfl]
 |(a,o)::c,F,g,hc,n,pl=>by
  let#[s,y,D,C,q,l]:=Vc.aC g.toGr0 g.z (n _<|.head _) (hc.f _<|.head _) (hc.h _<|.head _)<|pl _<|.head _;have nd:=hc.nd;rw[ñ,č] at nd;have j:au s H c:=#[λp m=>hc.h p<|.tail _ m,λp m=>by rw[l p.1<|λz=>nd.1<|æ.mpr #[p,m,z]];show hc.f p<|.tail _ m,nd.2];let#[v,A,E,r,w,B]:=lay c #[y,D] j (λp m=>n p<|.tail _ m) λp m=>pl p<|.tail _ m
  show#[v,A,λS h=>E S λb x u e=>?_,C.trans r,λp m=>?_,λb d=>?_]
  .by_cases d:b=a
   .subst d;rw[q] at e;show av5 (Ø e)<|pl _ (.head _) x u
   .rw[l b d] at e;show h b x u e
  .cases m with
   |head=>show r _ _ q
   |tail _ m=>show w p m
  .rw[ñ,ã] at d;rw[B b λz=>d<|.inr z,l b λz=>d<|.inl z]
def bg.lay{c:Cs}(W:bg K k lo us Fb Hb F H G J cs)(u:au F H c)(n:dH Hb c)(pl:Plain c)(d:∀j,∀p∈cs j,∀q∈c,p.1≠q.1):∃a,bg K k lo us Fb Hb a H G J cs/\aD F a/\∀p∈c,a p.1=À p.2:=by
 let#[o,s,y,b,r,w]:=Pu.lay c W.g u n pl;show#[o,#[s,λh=>y _<|W.z h,W.l,λi t h=>(W.e i t h).imp id λ⟨v,h1,h2⟩=>#[v,h1,h2.mo (Le.of b) (λ_=>Le.refl _) t],λi=>#[(W.c i).h,λp m=>?_,(W.c i).nd],W.n,W.d,W.p,W.x],b,r];rw[w p.1 λz=>?_]
 .show (W.c i).f p m
 .obtain⟨q,mq,e⟩:=æ.mp z;show d i p m q mq e.symm
def bg.fresh{t:Tr}{v:V}{c:Cs}{B:Bool->Hp}(W:bg K k lo us Fb Hb F H i G cs)(o:Out K F B H F' H' t v c):dH Hb c/\∀j,∀p∈cs j,∀q∈c,p.1≠q.1:=
 #[λp m=>W.g.h.free<|o.n p m,λj p a q b e=>by
  have:=(W.c j).h p a;rw[e,o.n q b] at this;cases this]
def bg.outF{i:Nat}{t:Tr}{v:V}{c:Cs}(W:bg K k lo us Fb Hb F H j G cs)(o:Out K F `cH H F' H' t v c)(l:lo<=i)(n:bZ t=Â):
  ∃a b,bg K k lo us Fb Hb a H' (j.set i<|À v) (G.set i<|aC t) b:=by
 ∎;let#[q,f]:=W.fresh o;let#[d,e,s,h]:=(W.gr o.g).lay o.c q `ch f;∎;show#[d,_,e.set l ((R.low (B':=λ_=>Hb) t n rfl o.r).aC (Le.of s) t h) .nil .nil λ_ _ _ _ _ m=>nomatch m]
def bg.held{t:Tr}{v:V}{c:Cs}(W:bg K k lo us Fb Hb F H j i cs)(o:Out K F `cH H F' H' t v c)(n:bZ t=Â):
  ∃a,bg K k lo us Fb Hb a H' j i cs/\R K a (λ_=>Hb) `bu v []:=by
 ∎;let#[h,e]:=W.fresh o;let#[b,d,l,f]:=(W.gr o.g).lay o.c h `ch e;∎;show#[b,d,(R.low (B':=λ_=>Hb) t n rfl o.r).aC (Le.of l) t f]
abbrev rH(i:Nat)(pe:bh):cI:=λD j=>pe `ag λt=>bZ t=Â/\D.nx (j.set i<|aC t)
def Az(g:lo<=i)(h:bE K k te pe):dB K k lo (nB te<|kG i) (rH i pe):=λus n d F H j G r D l W p L=>by
 show h F `di H j _ _ _ W.fM p λt v m b c q o=>?_
 let#[a,f,e]:=W.outF o g q.1;show L.nx a b _ _ _ e q.2
nonrec abbrev fy:=Tr->ag->(aA)->Prop
abbrev qi(K:aq)(k:Md)(lo:Nat)(l:TG)(pg:fy):Prop:=∀(us:ay)(d a F H:Hp)(j:St)(i:ag)(h:Nat->Cs)(x:V)(t:Tr)(Q:St->Hp->Prop)(e:aA),bg K k lo us d a F H j i h->R K F (λ_=>a) t x []->pg t i e->(∀g f b,bg K k lo us d a F H g f b->e f->Q g H)->l x j H Q
abbrev qU(i:Nat):fy:=λt j Q=>Q<|j.set i t
def Za(a:lo<=i):qi K k lo (kG i) (qU i):=λus b d F H j G f x t Q e W r p q=>q _ _ _ (W.set a r .nil .nil λ_ _ _ _ _ m=>nomatch m) p
abbrev tQ(K:aq)(k:Md)(lo:Nat)(n:pU)(pg:ag->ag->(aA)->Prop):Prop:=∀(us:ay)(d a F H:Hp)(j:St)(i:ag)(m:Nat->Cs)(l:ay)(h:ag)(Q:St->Hp->Prop)(e:aA),bg K k lo us d a F H j i m->Rs K F (λ_=>a) h l []->pg h i e->(∀g f b,bg K k lo us d a F H g f b->e f->Q g H)->n l j H Q
abbrev qb:ag->ag->(aA)->Prop:=λa j Q=>match a with |[]=>Q j |_=>False
abbrev qd(pg:fy)(pr:ag->ag->(aA)->Prop):ag->ag->(aA)->Prop:=λb j Q=>match b with |t::r=>pg t j λa=>pr r a Q |[]=>False
def RH:tQ K k lo zy qb:=λus b d F H j i a g f Q e W r p q=>by
 unfold qb at p;split at p
 .show#[r.1,q j i a W p]
 .show p.elim
def RC(h:qi K k lo tg pg)(h':tQ K k lo tr pr):tQ K k lo (yP tg tr) `cT:=λus b f F H j i m x u Q g W r p q=>by
 unfold qd at p;split at p
 .obtain⟨v,w,c,d,h1,h2,h3,h4⟩:=r;have e:=Ğ.mp h2.symm;rw[e.1] at h3;rw[e.2] at h4;show#[v,w,h1,h us b f F H j i m v _ _ _ W h3 p λo n a l s=>h' us b f F H o n a w _ Q g l h4 s q]
 .show p.elim
abbrev l8(n:Nat)(pr:ag->ag->(aA)->Prop):fy:=λt j Q=>match t with |.aF a=>↑a=n/\pr a j Q |_=>False
def Zb(h:tQ K k lo tr pr):qi K k lo (zA K n tr) `dA:=λus b d F H j i f x t Q e W r p q=>by
 unfold l8 at p;split at p
 .obtain⟨a,vs,rfl,h1,h2⟩:=r.dz W.g.s;show#[a,vs,rfl,h1,h2.length.trans p.1,h us b d F H j i f vs _ Q e W h2 p.2 q]
 .show p.elim
abbrev zQ(pe:bh)(pg:fy):cI:=λD j=>pe `ag λt=>bZ t=Â/\pg `bu j D.nx
def X1(h:bE K k te pe)(n:qi K k lo tg pg):dB K k lo (nB te tg) (zQ pe pg):=λus f e F H j i m D w W p L=>by
 show h F (Bq e H) H j _ _ _ W.fM p λt v x d c q o=>?_
 let#[b,l,r2]:=W.held o q.1;show n us f e b d j i m v _ _ _ l r2 q.2 λs r a g u=>L.nx b d s r a g u
abbrev zR(i j:Nat)(d:cQ):cI:=λD G=>d `eH λe=>match e with |[a,b]=>bZ a=Â/\bZ b=Â/\D.nx ((G.set i<|aC a).set j<|aC b) |_=>False
def X2{i j:Nat}{l:TA}{d:cQ}(z:lo<=i)(A:lo<=j)(h:gj K k l d):dB K k lo (Fo i j l) (zR i j d):=λus O a F H G J x D M W p L=>by
 show h F (Bq a H) H G _ _ _ W.fM p λQ vs N u c q o=>?_
 split at q
 .obtain⟨v,r,c1,d1,h1,h2,h3,v',r',c2,d2,g1,g2,g3,g4,g5⟩:=o.r;have E:dH a c:=λp m=>W.g.h.free<|o.n p m
  have y:∀j,∀p∈x j,∀q∈c,p.1≠q.1:=λj p B q C e=>by
   have:=(W.c j).h p B;rw[e,o.n q C] at this;cases this
  have I:Plain c:=Rs.plain _ o.r;let#[s,w,f,b]:=(W.gr o.g).lay o.c E I y;show#[v,v',by rw[h1,g1,g4],L.nx s u _ _ _ ((w.set z ((R.low (B':=λ_=>a) _ q.1 rfl h3).aC `dB _ λp m=>b p (by rw[h2];show Ê.mpr<|.inl m)) .nil .nil λ_ _ _ _ _ m=>nomatch m).set A ((R.low (B':=λ_=>a) _ q.2.1 rfl g3).aC `dB _ λp m=>b p (by rw[h2,g2];show Ê.mpr<|.inr<|Ê.mpr<|.inl m)) .nil .nil λ_ _ _ _ _ m=>nomatch m) q.2.2]
 .show q.elim
end
abbrev NC(J:It)(n:Nat)(h:Hp->Prop)(Y:Nat->Hp->V->Hp->Prop):Prop:=∀(g:TG)(tb:TS)(D:Ends)(j:St)(H:Hp)(Pv:Nat->St->Hp->Prop),Pv 0 j H->(∀i j H,i<=n->Pv i j H->h H)->
 (∀i x j H a,i<n->Pv i j H->Y i H x a->g x j a λd b=>tb { D with nx:=Pv<|i+1,ct:=Pv<|i+1,bk:=D.nx } d b)->(∀j H,Pv n j H->D.nx j H)->
 ∃W:Nat->Nat->St->Hp->Prop,(∃m,W 0 m j H)/\∀i m j H,W i m j H->
  (J.stop i H/\D.nx j H)\/(J.go i H/\∃N:St->Hp->Prop,(∀e a,N e a->∃f,f<m/\W (i+1) f e a)/\∀x a,J.nZ i H x a->g x j a λd b=>tb { D with nx:=N,ct:=N,bk:=D.nx } d b)
def B5{j:Type}{xs:List j}{i:Nat}{x:j}(h:xs[i]?=À x):i<↑xs:=(Á.mp h).1
structure ig(J:It)(n:Nat)(Kp:Hp->Prop)(Y:Nat->Hp->V->Hp->Prop):Prop where
 go:∀i H,i<n->Kp H->J.go i H
 st:∀H,Kp H->J.stop n H
 yl:∀i H x H',i<n->Kp H->J.nZ i H x H'->Y i H x H'
def ig.runs(o:ig J n Kp Y):NC J n Kp Y:=λg tb D j H Pv h f l hd=>by
 show#[λi m j H=>m=n - i/\i<=n/\Pv i j H,#[n,by simp,Ĺ _,h],?_];rintro i m j H ⟨rfl,d,p⟩;by_cases a:i<n
 .show .inr #[o.go i H a<|f i j H d p,Pv<|i+1,λr b q=>#[n - (i+1),⋯,rfl,a,q],λx b y=>l i x j H b a p<|o.yl i H x b a (f i j H d p) y]
 .have e:i=n:=⋯
  subst e;show .inl #[o.st H<|f i j H d p,hd j H p]
def uZ{j:Type}{xs:List j}{i:Nat}(h:i<↑xs):∃x,xs[i]?=À x:=#[_,Ñ h]
def X3{K:aq}{a:ai}{xs:ay}:ig `em ↑xs (λH=>bw K H a xs) (λi H x b=>xs[i]?=À x/\b=H):=
 #[λi H h q=>by let#[x,e]:=uZ h;show#[xs,x,q,e],λH q=>#[xs,q,Î _],λi H x b h q y=>#[y.2 xs q,y.1]]
def T6:ig (rg l n) n (λ_=>True) (λi H x a=>x=.int (l+i)/\a=H):=#[λi H h _=>h,λH _=>Î _,λi H x a h _ y=>#[y.2,y.1]]
def RI:ig (vw l c n) n (λ_=>True) (λi H x a=>x=.int (l+i*c)/\a=H):=#[λi H h _=>h,λH _=>Î _,λi H x a h _ y=>#[y.2,y.1]]
def X4{K:aq}{a:ai}{xs:ay}:ig `er ↑xs (λH=>bw K H a xs) (λi H y b=>∃x p,xs[i]?=À x/\y=.ref p/\H p=Æ/\b=aU H p (.aF [.int i,x])):=
 #[λi H h q=>by let#[x,e]:=uZ h;show#[xs,x,q,e],λH q=>#[xs,q,Î _],λi H y b h q z=>by let#[p,x,d,f,g,j]:=z;show#[x,p,g xs q,d,f,j]]
def Zc{K:aq}{a b:ai}{xs ys:ay}:ig `eE (min ↑xs ↑ys) (λH=>bw K H a xs/\bw K H b ys) (λi H z d=>∃x y p,xs[i]?=À x/\ys[i]?=À y/\z=.ref p/\H p=Æ/\d=aU H p (.aF [x,y])):=
 #[λi H h q=>by let#[x,e]:=uZ (xs:=xs) (i:=i) ⋯;let#[y,f]:=uZ (xs:=ys) (i:=i) ⋯;show#[xs,ys,x,y,q.1,q.2,e,f],λH q=>#[xs,ys,q.1,q.2,⋯],λi H z d h q y=>by let#[p,x,y,g,j,l,m,n]:=y;show#[x,y,p,l xs q.1,m ys q.2,g,j,n]]
abbrev Src(K:aq)(B:Bool->Hp)(F:Hp)(J:It)(g:ag):Prop:=∃(f:Hp->Prop)(Y:Nat->Hp->V->Hp->Prop),ig J ↑g f Y/\(∀b a,Le F b->aD b a->(∀k,aD (B k) a)->f a)/\
 ∀i t b a x e,g[i]?=À t->Le F b->aD b a->(∀k,aD (B k) a)->Y i a x e->∃d,Gr b a d e/\R K d B t x []
section
nonrec abbrev j9:=ag->(ag->Bool->Prop)->Prop
abbrev oq(K:aq)(k:Md)(m:TI)(l:j9):Prop:=∀(F:Hp)(B:Bool->Hp)(H:Hp)(j:St)(i:ag)(g:It->Hp->Prop)(f:ag->Bool->Prop),gC K k F B H j i->l i f->
 (∀b h J a e,f b h->Gr F H a e->Src K B a J b->(h=Â->∀d:Bool->Hp,d Ç=B Ç->Src K d a J b)->g J e)->m j H g
def _root_.Vc.Gr.base(g:Gr Fb Hb F1 H1)(g':Gr F1 Hb F H):Gr Fb Hb F H:=
 Gr.of #[g'.h,g.f.trans g'.f,g'.s,λa u e z=>by
  cases q:F1 a with
  |some w=>show g.n a w q z
  |none=>show g'.n a u e q] (g'.fz g.z)
def bg.base(a:bg K k lo us Fb Hb F1 H1 j0 i0 cs0)(W:bg K k lo us F1 Hb F H j i cs):bg K k lo us Fb Hb F H j i cs:=#[a.g.base W.g,W.z,W.l,W.e,W.c,W.n,W.d,W.p,a.x]
def bg.rebase(W:bg K k lo us Fb Hb F H j i cs):bg K k lo us F Hb F H j i cs:=#[#[#[W.g.h,aD.refl F,W.g.s,λa u e z=>by rw[e] at z;cases z],Fz.refl F],W.z,W.l,W.e,W.c,W.n,W.d,W.p,λx m b f q d y g=>W.x x m b f q d y<|W.g.base g]
def Lk.rebase(b:bg K k lo us Fb Hb F1 H1 j0 i0 cs0)(L:Lk K k lo us Fb Hb D D'):Lk K k lo us F1 Hb D D':=
 #[λF H j i a W=>L.nx F H j i a<|b.base W,λF H j i a v t c W=>L.rt F H j i a v t c<|b.base W,λF H j i a W=>L.bk F H j i a<|b.base W,λF H j i a W=>L.ct F H j i a<|b.base W]
abbrev zS(f:j9)(pg:fy)(e:cI):cI:=λD j=>f `ag λa d=>d=Â/\∃I:Nat->aA,I 0 j/\(∀i t j,a[i]?=À t->I i j->pg t j λb=>e { D with nx:=I<|i+1,ct:=I<|i+1,bk:=D.nx } b)/\∀j,I ↑a j->D.nx j
def X5(d:oq K k wi pi)(Q:qi K k lo tg pg)(O:dB K k lo tb pb):dB K k lo (zB wi tg tb) (zS pi pg pb):=λus Fb b F H j G a D D' W p L=>by
 show d F (Bq b H) H j _ _ _ W.fM p λA nl J e C q M _ u=>?_
 have w:=W.gr M;∎;let#[o,I,U,step,n]:=q;let#[Kp,Y,r,kp,yl]:=u o (λ_=>b) rfl;∎;have run:=r.runs;have l:=L.rebase w;show run tg tb D j C (λi j H=>∃F G a,bg K k lo us e b F H j G a/\I i G) #[e,G,a,w.rebase,U] ?_ ?_ ?_
 .rintro i j H d ⟨F,G,a,W,_⟩;show kp F H (Le.of W.g.f) W.g.s λ_=>W.g.h
 .rintro i x j H H' d ⟨F,G,a,W,ii⟩ y;have z:A[i]?=À (A[i]'d):=Ñ d;let#[v,N,r2]:=yl i _ F H x H' z (Le.of W.g.f) W.g.s (λ_=>W.g.h) y;show Q us e b v H' j G a x _ _ _ (W.gr N) r2 (step i _ G z ii) λj' B m E p'=>?_
  show O us e b v H' j' B m _ _ E p' #[λF H j G a W q=>#[F,G,a,W,q],l.rt,l.nx,λF H j G a W q=>#[F,G,a,W,q]]
 .rintro j H ⟨F,G,a,W,q⟩;show l.nx F H j G a W<|n G q
def Zd(l:Le F F')(s:aD F' H')(h:bw K F a vs):bw K H' a vs:=s.seq<|l.af h
def oO(r:R K F B `aA v []):∃a vs,v=.ref a/\Rs K F B xs vs []/\∀g d,Le F g->aD g d->(∀k,aD (B k) d)->bw K d a vs:=by
 cases f with
 |f=>let#[_,a,vs,h,e,i]:=r;show#[a,vs,h,i,λg d l s b=>Zd l s e]
 |l q=>let#[_,a,vs,h,e,i]:=r;show#[a,vs,h,i,λg d l s b=>(b q).seq e]
 |o=>let#[a,vs,j,h,e,i]:=r;cases e
def Rs.dy{xs:ag}{vs:ay}{i:Nat}{t:Tr}(r:Rs K F B xs vs [])(h:xs[i]?=À t):∃u,vs[i]?=À u/\R K F B t u []:=by
 let#[u,c,b,a,d]:=r.at h;have e:c=[]:=List.eq_nil_iff_forall_not_mem.mpr λp m=>nomatch d p m
 rw[e] at a;show#[u,b,a]
def He{a:ai}{f:Fl}{xs:ag}(r:R K F B `aA `aw []):Src K B F `em xs:=by
 let#[w,vs,n,d,o]:=oO r;cases n;show#[_,_,d.length ▸ X3 (K:=K) (a:=a) (xs:=vs),o,λi t g v x h q l s b y=>?_];∎;let#[e,rfl]:=y;let#[u,j,m]:=d.dy q;∎;rw[j] at e;cases e;show#[g,Gr.aR s,m.mo l (λ_=>Le.refl _) t]
def Hf{a:ai}{f:Fl}{xs:ag}(r:R K F B `aA `aw []):Src K B F `er (xs.mapIdx λi x=>.aF [.int i,x]):=by
 let#[E,vs,v,e,w]:=oO r;cases v;show#[_,_,(by rw[List.length_mapIdx,<- ↑e];show X4 (K:=K) (a:=a) (xs:=vs)),w,λi t C D x m d l s b y=>?_];let#[z,p,h,rfl,A,rfl]:=y;rw[ar3] at d;cases q:xs[i]? with
 |none=>rw[q] at d;cases d
 |some u=>
  rw[q] at d;cases d;let#[G,n,o]:=e.dy q;rw[n] at h;cases h;let#[j,g,r2,_]:=uu (xs:=[.int i,u]) (cs:=[]) s #[.int i,[z],[],[],rfl,rfl,#[rfl,rfl],z,[],[],[],rfl,rfl,o.mo l (λ_=>Le.refl _) u,rfl,rfl] .nil A;show#[j,g,r2]
def H9{a e:ai}{f I:Fl}{xs ys:ag}(r:R K F B `aA `aw [])(U:R K F B (.af I ys) `bk []):Src K B F (vx K a e) (xs.zipWith (λx y=>.aF [x,y]) ys):=by
 ∎;let#[_,vs,O,n,Q]:=oO r;let#[_,us,M,m,N]:=oO U;∎;cases O;cases M;show#[(λH=>bw K H a vs/\bw K H e us),_,(by rw[as1,<- ↑n,<- ↑m];show Zc (K:=K) (a:=a) (b:=e) (xs:=vs) (ys:=us)),λh j l s b=>#[Q h j l s b,N h j l s b],λi t h j x D d l s b y=>?_];let#[z,A,p,v,w,rfl,y3,rfl]:=y;rw[ac0] at d;cases q:xs[i]? with
 |none=>rw[q] at d;cases d
 |some u=>
  cases q':ys[i]? with
  |none=>rw[q,q'] at d;cases d
  |some o=>
   rw[q,q'] at d;cases d;∎;let#[u',E,G]:=n.dy q;let#[Y,J,L]:=m.dy q';∎;rw[E] at v;rw[J] at w;cases v;cases w;let#[C,g,r2,_]:=uu (xs:=[u,o]) (cs:=[]) s #[z,[A],[],[],rfl,rfl,G.mo l (λ_=>Le.refl _) u,A,[],[],[],rfl,rfl,L.mo l (λ_=>Le.refl _) o,rfl,rfl] .nil y3;show#[C,g,r2]
def GB{l c:Int}{n:Nat}:Src K B F (vw l c n) ((É n).map λ(i:Nat)=>.int<|l+i*c):=by
 show#[_,_,(by rw[Å,Û];show RI (l:=l) (c:=c) (n:=n)),λ_ _ _ _ _=>ô,λi t e g x f a h s b y=>?_];let#[rfl,rfl]:=y;rw[Í] at a;cases q:(É n)[i]? with
 |none=>rw[q] at a;cases a
 |some u=>
  rw[q] at a;cases a;have d:=B5 q;rw[Û] at d;rw[ì d] at q;cases q;show#[e,Gr.aR s,rfl,rfl]
def RJ{l:Int}{n:Nat}:Src K B F (rg l n) ((É n).map λ(i:Nat)=>.int<|l+i):=by
 show#[_,_,(by rw[Å,Û];show T6 (l:=l) (n:=n)),λ_ _ _ _ _=>ô,λi t e g x f a h s b y=>?_];let#[rfl,rfl]:=y;rw[Í] at a;cases q:(É n)[i]? with
 |none=>rw[q] at a;cases a
 |some u=>
  rw[q] at a;cases a;have d:=B5 q;rw[Û] at d;rw[ì d] at q;cases q;show#[e,Gr.aR s,rfl,rfl]
def Out.held{t:Tr}{v:V}{c:Cs}(o:Out K F B H F' H' t v c):∃a,Gr F H a H'/\R K a B `bu v []:=by
 let#[b,e,_,f,d,_]:=Pu.lay c o.g o.c o.n<|o.r.plain t;show#[b,e,o.r.aC `dB t d]
def fH.held{t:ag}{v:ay}{c:Cs}(o:fH K F B H F' H' t v c):∃a,Gr F H a H'/\Rs K a B (bz t) v []:=by
 let#[b,e,_,f,d,_]:=Pu.lay c o.g o.c o.n<|o.r.plain t;show#[b,e,o.r.aC `dB t d]
abbrev jd(t:Tr)(Q:aA):Prop:=match t with |.af _ a=>Q a |_=>False
def xy{Q:aA}(h:jd t Q):∃f xs,t=.af f xs/\Q xs:=by
 unfold jd at h;split at h
 .show#[_,_,rfl,h]
 .show h.elim
abbrev CF(pe:bh):j9:=λj Q=>pe j λt=>jd `bu λa=>Q a<|bZ<|aC t
def RK(h:bE K k te pe):oq K k (EG K te) (CF pe):=λF B H j i x w c p q=>by
 show h F B H j i _ _ c p λt v u l y p1 o=>?_
 ∎;let#[g,d,r2]:=o.held;let#[f,z,e,p1]:=xy p1;∎;rw[e] at r2 p1;let#[a,vs,rfl,_,n]:=oO r2;show#[a,rfl,#[vs,n g l `bG d.s λk=>(c.b k).trans d.h],q _ _ _ g l p1 d (He r2) λhn r m=>He<|R.low _ hn m.symm r2]
abbrev ub(a:ag)(Q:aB):Prop:=match a with |[t]=>Q t |_=>False
def X6{Q:aB}(h:ub ts Q):∃t,ts=[t]/\Q t:=by
 unfold ub at h;split at h
 .show#[_,rfl,h]
 .show h.elim
abbrev CC(a:cQ):j9:=λj Q=>a j λb=>ub b λt=>jd `bu λd=>Q (d.mapIdx λi x=>.aF [.int i,x])<|bZ<|aC t
def RL(h:gj K k ta pa):oq K k (EO K ta) (CC pa):=λF B H j i C A c p q=>by
 show h F B H j i _ _ c p λE vs z m D p1 o=>?_
 ∎;let#[t,rfl,p1]:=X6 p1;let#[v,rfl,x]:=o.r.one;let#[l,d,r2]:=Out.held #[o.g,x,o.c,o.n];let#[f,G,e,p1]:=xy p1;∎;rw[e] at r2 p1;let#[a,vs,rfl,_,w]:=oO r2;show#[a,rfl,#[vs,w l m `bG d.s λk=>(c.b k).trans d.h],q _ _ _ l m p1 d (Hf r2) λhn y u=>Hf<|R.low _ hn u.symm r2]
abbrev uc(a:ag)(Q:Tr->aB):Prop:=match a with |[t,u]=>Q t u |_=>False
def X7{Q:Tr->aB}(h:uc ts Q):∃t u,ts=[t,u]/\Q t u:=by
 unfold uc at h;split at h
 .show#[_,_,rfl,h]
 .show h.elim
def Rs.two(r:Rs K F B [t,u] xs cs):∃v w c d,xs=[v,w]/\R K F B t v c/\R K F B u w d/\cs=c++d:=by
 let#[v,r,c,d,g,h,i,j,m,b,l,e,a,f,rfl,rfl]:=r;rw[Č] at a;show#[v,j,c,b,by rw[g,e],i,f,by rw[h,a]]
abbrev CG(a:cQ):j9:=λj Q=>a j λb=>uc b λt u=>jd `bu λd=>jd (aC u) λe=>Q (d.zipWith (λx y=>.aF [x,y]) e)<|bZ (aC t)&&bZ (aC u)
def T7(h:gj K k ta pa):oq K k (FE K ta) (CG pa):=λF B H j i I G c p q=>by
 show h F B H j i _ _ c p λO vs E d J p1 o=>?_
 ∎;let#[t,u,rfl,p1]:=X7 p1;let#[l,g,r2]:=o.held;let#[v,w,L,M,rfl,r3,r4,e]:=Rs.two r2;∎;have z:=Ğ.mp e.symm;rw[z.1] at r3;rw[z.2] at r4;∎;let#[f,Q,x,p1]:=xy p1;let#[N,U,y,p1]:=xy p1;∎;rw[x] at r3 p1;rw[y] at r4 p1;∎;let#[a,vs,rfl,_,C]:=oO r3;let#[r,us,rfl,_,A]:=oO r4;∎;have m:∀k,aD (B k) d:=λk=>(c.b k).trans g.h
 show#[a,r,rfl,#[vs,C l d `bG g.s m],#[us,A l d `bG g.s m],q _ _ _ l d p1 g (H9 r3 r4) λhn D n=>?_];rw[å] at hn;show H9 (R.low _ hn.1 n.symm r3)<|R.low _ hn.2 n.symm r4
abbrev wj(a:ag)(Q:Int->Prop):Prop:=match a with |[.int i]=>Q i |_=>False
abbrev zo(a:cQ):j9:=λG Q=>a G λb=>wj b λj=>-1000000<=j/\j<=1000000/\Q ((É j.toNat).map λ(i:Nat)=>.int i) Â
def X8(h:gj K k ta pa):oq K k (EH ta) (zo pa):=λF B H G J m f c p q=>by
 show h F B H G J _ _ c p λu vs a e s p1 o=>?_
 unfold wj at p1;split at p1
 .rename_i j;let#[v,rfl,rfl,_]:=o.r.one;have b:∀B,Src K B a (rg 0 j.toNat) ((É j.toNat).map λ(i:Nat)=>.int i):=λB=>by
   have:=RJ (K:=K) (B:=B) (F:=a) (l:=0) (n:=ah7 j);simp only[ab1] at this;show this
  show#[_,rfl,⋯,⋯,q _ _ _ a e p1.2.2 o.g (b B) λ_ d _=>b d]
 .show p1.elim
end
section
def bg.mut{i:Nat}(W:bg K k lo us Fb Hb F H G J cs)(N:G[i]?=À (À v))(e:(a,o)∈cs i)(hd:au F H ds')(hn:dH Hb ds')(E:∀p∈ds',p.1≠a)(C:∀j,j≠i->∀p∈ds',∀q∈cs j,p.1≠q.1)(B:c'.Perm ((a,o')::ds'))(O:R K F (λ_=>Hb) t' v c'):
  bg K k lo us Fb Hb F (aU H a o') G (J.set i t') (λj=>if j=i then c' else cs j):=by
 have I:=W.n i _ e;have D:=(W.c i).f _ e;have b:∀j,j≠i->∀p∈cs j,p.1≠a:=λj C p m z=>W.d j i C p m _ e z
 show#[#[#[W.g.h.q5 I,W.g.f,W.g.s.q5 D,W.g.n],W.g.z],W.z,by rw[û];show W.l,λj u h=>?_,λj=>?_,λj=>?_,λx y ne p w q r=>?_,W.p,W.x]
 .by_cases ej:j=i
  .subst ej;have M:j<↑J:=by have:=(Á.mp h).1;rw[û] at this;show this
   rw[ÿ M] at h;cases h;show .inr #[v,N,by rw[av4 rfl];show O]
  .rw[î<|λz=>ej z.symm] at h;rw[av3 ej];show W.e j u h
 .split
  .show#[λp m=>?_,λp m=>?_,?_]
   .rcases ã.mp `bJ with rfl |m
    .show dk
    .rw[ba (E p m)];show hd.h p m
   .rcases ã.mp `bJ with rfl |m
    .show D
    .show hd.f p m
   .show ((B.map (·.1)).nodup_iff).mpr ?_;rw[ñ,č];show#[λm=>?_,hd.nd];let#[p,w,e]:=æ.mp m;show E p w e
  .rename_i ej;show#[λp m=>by rw[ba<|b j ej p m];show (W.c j).h p m,(W.c j).f,(W.c j).nd]
 .split
  .intro p m;rcases ã.mp `bJ with rfl |m
   .show I
   .show hn p m
  .show W.n j
 .have key:∀p,p∈c'->∀y,y≠i->∀q∈cs y,p.1≠q.1:=λp m y L q r=>by
   rcases ã.mp `bJ with rfl |m
   .show (b y L q r).symm
   .show C y L p m q r
  by_cases ex:x=i
  .have A:y≠i:=λz=>ne<|ex.trans z.symm
   rw[av4 ex] at w;rw[av3 A] at r;show key p w y A q r
  .rw[av3 ex] at w;by_cases A:y=i
   .rw[av4 A] at r;show (key q r x ex p w).symm
   .rw[av3 A] at r;show W.d x y ne p w q r
abbrev adr(f:Str)(u:Tr):bq->bq
 |[]=>[]
 |(g,x)::r=>if g=f then (g,u)::r else (g,x)::adr f u r
abbrev dw(t:Tr):ah->Tr
 |[]=>t
 |f::r=>match dw t r with |.ins .o _ fs=>(fs.lookup f).getD .ak |_=>.ak
abbrev je(t:Tr):ah->Tr->Tr
 |[],u=>u
 |f::r,u=>je t r (match dw t r with |.ins .o c fs=>.ins .o c `dC |y=>y)
abbrev qT(K:aq)(t:Tr):ah->Prop
 |[]=>True
 |f::r=>qT K t r /\ (match dw t r with |.ins .o c fs=>(g9 K c /\ bj K c f) /\ (fs.lookup f).isSome=Â |_=>False)
abbrev tR(K:aq)(i:Nat):ah->TE
 |[]=>hJ i
 |f::r=>yY K `cn f
def Rf.at:∀{fs:bq}{vs:List (Str×V)}{n:Cs}{f:Str}{x:Tr},Rf K F B fs vs n->fs.lookup f=À x->∃w c pre a,vs.lookup f=À w/\R K F B x w c/\n=pre++c++a/\∀b,Le F b->∀u d,R K b B u w d->Rf K b B `dC vs (pre++d++a)
 |(g,y)::fs,_,_,f,x,y0,h=>by
  let#[v,r,c,d,j,o,q,s]:=y0;by_cases e:g=f
  .subst e;rw[ap2] at h;cases h;show#[v,c,[],d,by rw[j,ap2],q,by rw[o];rfl,λb l u i m=>?_];unfold adr;rw[av4 rfl];show#[v,r,i,d,j,rfl,m,s.mo l (λ_=>Le.refl _) fs]
  .have e':(f == g)=Ç:=by simpa using λz=>e z.symm
   rw[Ċ,e'] at h;let#[w,G,pre,a,A,C,D,E]:=Rf.at (fs:=fs) s h;show#[w,G,c++pre,a,by rw[j,Ċ,e'];show A,C,by rw[o,D];simp only[ă],λb l u i m=>?_];unfold adr;rw[av3 e];show#[v,r,c,pre++i++a,j,by simp only[ă],q.mo l (λ_=>Le.refl _) y,E b l u i m]
def place{B:Bool->Hp}(s:aD F H)(b:∀k,aD (B k) H)(N:j[i]?=À (À v))(U:R K F B t v c0)(M:au F H c0):∀(r:ah),qT K t r->∃w c rest,c0.Perm (c++rest)/\R K F B `ci w c/\(∀g,Le F g->∀u d,R K g B u w d->∃z,R K g B `eI v z/\z.Perm (d++rest))/\∀Q:VK,Q w H->tR K i r j H Q
 |[],_=>#[v,c0,[],by rw[Č],U,λg l u d I=>#[d,I,by rw[Č]],λQ q=>#[v,N,q]]
 |f::r,ok=>by
  let#[w,c,rest,p1,Y,cl,rd]:=place s b N U M r ok.1;have D:=ok.2;split at D
  .rename_i C fs eg;∎;let#[#[Cp,E],G]:=D;let#[x,O]:=Ź.mp G;∎;rw[eg] at Y;∎;let#[a,m,vs,ds,J,L,h3]:=Y;let#[A,n,pre,e,a1,a2,a3,a4]:=h3.at O;∎;have hm:(a,HO.ins C m vs)∈c0:=p1.mem_iff.mpr (Ê.mpr (.inl (by rw[L];show .head _)));show#[A,n,(a,.ins C m vs)::(pre++e++rest),?_,?_,λg l u d I=>?_,λQ q=>?_]
   .show p1.trans ?_;rw[L,a3];change List.Perm ((a,HO.ins C m vs)::((pre++n++e)++rest)) _;show ar2 (Ϩ _ ?_)<|List.perm_middle.symm;rw[ă pre n e,<- ă,<- ă,<- ă];show ϊ _ ?_;show ϊ _ ?_;show ϛ
   .show R K F B (match dw t r with |.ins .o _ fs=>(fs.lookup f).getD .ak |_=>.ak) A n;rw[eg];change R K F B ((fs.lookup f).getD .ak) A n;rw[O];show a2
   .obtain⟨z,b1,b2⟩:=cl g l (.ins .o C<|adr f u fs) ((a,.ins C m vs)::(pre++d++e)) #[a,m,vs,_,J,rfl,a4 g l u d I];show#[z,?_,b2.trans ?_]
    .show R K g B (je t r (match dw t r with |.ins .o c fs=>.ins .o c `dC |y=>y)) v z;rw[eg];show b1
    .show List.Perm ((a,HO.ins C m vs)::((pre++d++e)++rest)) _;show ar2 (Ϩ _ ?_)<|List.perm_middle.symm;rw[ă pre d e,<- ă,<- ă,<- ă];show ϊ _ ?_;show ϊ _ ?_;show ϛ
   .show rd _ #[a,C,m,vs,A,J,Rd.of<|M.h _ hm,Cp,E,a1,q]
  .show D.elim
def bg.at(W:bg K k lo us Fb Hb F H G J cs)(ht:J[i]?=À t)(hn:t≠.ak)(r:ah)(ok:qT K t r):∃w c,R K F (λ_=>Hb) `ci w c/\(∀p∈c,p∈cs i)/\au F H c/\(∀Q:VK,Q w H->tR K i r G H Q)/\
  ∀b B,bg K k lo us Fb Hb b B G J cs->Le F b->∀(a:ai)(o o':HO)(A ds' e:Cs)(u:Tr)(d:Cs),c=(a,o)::A->ds'.Sublist A->au b B e->dH Hb e->(∀j,∀p∈cs j,∀q∈e,p.1≠q.1)->d.Perm ((a,o')::(ds'++e))->R K b (λ_=>Hb) u w d->∃I,bg K k lo us Fb Hb b (aU B a o') G (J.set i<|je t r u) I:=by
 rcases W.e i t ht with z |⟨v,Y,rv⟩
 .show av5 z hn
 .obtain⟨w,c,rest,p1,r1,cl,rd⟩:=place W.g.s (λ_=>W.g.h) Y rv (W.c i) r ok;have sub:∀{F H:Hp},au F H (cs i)->au F H (c++rest):=λh=>#[λp m=>h.h p<|p1.mem_iff.mpr m,λp m=>h.f p<|p1.mem_iff.mpr m,((p1.map (·.1)).nodup_iff).mp h.nd]
  show#[w,c,r1,λp m=>p1.mem_iff.mpr<|Ê.mpr<|.inl m,(sub<|W.c i).left,rd,λb B y l a o o' A ds' e u d L sl he M x pd ru=>?_];let#[c1,b1,b2]:=cl b l u d ru;have U:=sub<|y.c i;rw[L] at U;have O:(a,o)∈cs i:=p1.mem_iff.mpr (Ê.mpr (.inl (by rw[L];show .head _)));have D:(a ∉ (A++rest).map (·.1))/\((A++rest).map (·.1)).Nodup:=č.mp U.nd;have N:(ds'++rest).Sublist (A++rest):=sl.append_right rest;have C:∀p∈ds'++rest,p∈cs i:=λp m=>p1.mem_iff.mpr (by rw[L];show .tail _<|N.subset m)
  have c3:au b B (ds'++rest):=#[λp m=>(y.c i).h p<|C p m,λp m=>(y.c i).f p<|C p m,List.Sublist.nodup (N.map _) D.2]
  show#[_,y.mut (o:=o) (o':=o') (ds':=(ds'++rest)++e) Y O (c3.app he λp mp q E=>x i p (C p mp) q E) ?_ ?_ ?_ (b2.trans<|(pd.append_right rest).trans ?_) b1]
  .show λp m=>(Ê.mp m).elim (λm=>y.n i p<|C p m)<|M p
  .intro p m z;rcases Ê.mp m with m |m
   .show D.1 (æ.mpr ⟨p,N.subset m,z⟩)
   .show x i _ O p m z.symm
  .intro j hj p m q E;rcases Ê.mp m with m |m
   .show y.d i j (λz=>hj z.symm) p (C p m) q E
   .show (x j q E p m).symm
  .show List.Perm ((a,o')::((ds'++e)++rest)) ((a,o')::((ds'++rest)++e));show Ϩ _ ?_;rw[ă,ă];show List.Perm.append_left _ ϛ
end
section
abbrev i6(K:aq)(j:ag)(i:Nat)(r:ah)(Q:Tr->(Tr->ag)->Prop):Prop:=match j[i]? with
 |some .ak=>False
 |some t=>qT K t r /\ Q `ci λu=>j.set i<|je t r u
 |none=>False
def uD{Q:Tr->(Tr->ag)->Prop}(h:i6 K j i r Q):∃t,j[i]?=À t/\t≠.ak/\qT K t r/\Q `ci λu=>j.set i `eI:=by
 unfold i6 at h;split at h
 .show h.elim
 .rename_i t ne e;show#[t,e,ne,h.1,h.2]
 .show h.elim
def Rs.set:∀{xs:ag}{vs:ay}{e:Cs}(n:Nat){t:Tr}{v:V},Rs K F B xs vs e->R K F B t v []->∃ds',Rs K F B `dD (vs.set n v) ds'/\ds'.Sublist e
 |[],_,e,n,_,_,y,_=>by let#[a,b]:=y;show#[[],by rw[a];show#[rfl,rfl],by rw[b];show Ļ _]
 |x::xs,_,_,0,_,_,y,rt=>by let#[v,r,c,d,a,b,h,f]:=y;show#[d,by rw[a];show#[_,r,[],d,rfl,rfl,rt,f],by rw[b];show Ι c d]
 |x::xs,_,_,n + 1,_,_,y,rt=>by
  ∎;let#[v,r,c,d,a,b,h,f]:=y;let#[g,i,j]:=Rs.set (xs:=xs) n f rt;∎;show#[c++g,by rw[a];show#[v,_,c,g,rfl,rfl,h,i],by rw[b];show j.append_left c]
def Rs.snoc(h:Rs K F B xs vs ds)(rt:R K F B t v e):Rs K F B (xs++[t]) (vs++[v]) (ds++e):=h.append #[v,[],e,[],rfl,by rw[Č],rt,rfl,rfl]
def bg.fY{t:Tr}{v:V}{c:Cs}(W:bg K k lo us Fb Hb F H j i cs)(o:Out K F `cH H F' H' t v c)(n:bZ t=Â):
  ∃a,bg K k lo us Fb Hb a H' j i cs/\R K a (λ_=>Hb) `bu v []/\Le F a:=by
 ∎;let#[l,f]:=W.fresh o;let#[d,e,b,h]:=(W.gr o.g).lay o.c l `ch f;∎;show#[d,e,(R.low (B':=λ_=>Hb) t n rfl o.r).aC (Le.of b) t h,Le.trans o.g.le<|Le.of b]
def xA:dH Hb []:=λ_ m=>nomatch m
def wY{cs:Nat->Cs}:∀(j:Nat),∀p∈cs j,∀q∈([]:Cs),p.1≠q.1:=λ_ _ _ _ m=>nomatch m
abbrev oh(u:Tr)(Q:aA):Prop:=match u with |.af .o xs=>Q xs |_=>False
def Hg{Q:aA}(h:oh u Q):∃xs,u=.af .o xs/\Q xs:=by
 unfold oh at h;split at h
 .show#[_,rfl,h]
 .show h.elim
abbrev zp(K:aq)(i:Nat)(r:ah)(pe:bh):cI:=λD j=>i6 K j i r λu s=>oh u λa=>pe `ag λt=>bZ t=Â/\↑a<1000000/\D.nx (s<|.af .o<|a++[aC t])
def X9(h:bE K k te pe):dB K k lo (tO<|CY K "list" D4 (tR K i r)<|ng te nr) (zp K i r pe):=λus U A F H j G cs D O W p L=>by
 ∎;let#[t,E,I,J,p]:=uD p;let#[z,M,p]:=Hg p;let#[w,c,y,sub,N,rd,cl]:=W.at E I r J;∎;rw[M] at y;let#[a,vs,b,rfl,m,n]:=y;have s:H a=À `dj:=N.h (a,.af vs) (by rw[m];show .head _);show rd _ #[WC s,h F (Bq A H) H j _ _ _ W.fM p λu v Q l Y q o=>?_];let#[f,B,r2,x]:=W.fY o q.1;have e:l a=À `dj:=o.g.h _ _ s;let#[d,C]:=cl f l B x a `dj (.af<|vs++[v]) b b [] (.af .o<|z++[aC u]) ((a,.af<|vs++[v])::(b++[])) m (Ļ _) .nil xA wY (aa0 _) #[a,vs++[v],b++[],rfl,rfl,(n.mo x (λ_=>Le.refl _) z).snoc r2];show#[a,vs,v,rfl,rfl,e,Õ (by rw[n.length];show q.2.1) ∎,L.nx f _ j _ d C q.2.2]
abbrev tW(xs:ag)(y t:Tr)(Q:aA):Prop:=match y with |.int j=>(match iM ↑xs j with |some n=>Q `dD |none=>False) |_=>False
abbrev zb(K:aq)(i:Nat)(r:ah)(b pe:bh):cI:=λD j=>pe `ag λt=>bZ t=Â/\i6 K j i r λu s=>oh u λd=>b `ag λy=>tW d y `bu λa=>D.nx<|s<|.af .o a
def T8(h:bE K k te pe)(hj:bE K k tj pj):dB K k lo (nB te<|Fn (tR K i r) tj EM) (zb K i r pj pe):=λus Fb x F H j G cs D D' W p L=>by
 show h F (Bq x H) H j _ _ _ W.fM p λu v F1 f c1 q o=>?_
 ∎;let#[E,l,r2,l2]:=W.fY o q.1;let#[t,Q,U,Y,p]:=uD q.2;let#[C,eg,p]:=Hg p;let#[w,c,B,sub,hc,rd,cl]:=l.at Q U r Y;∎;rw[eg] at B;let#[a,vs,O,rfl,z,A]:=B;have ha:f a=À `dj:=hc.h (a,.af vs) (by rw[z];show .head _);show rd _<|hj E (Bq x f) f j _ _ _ l.fM p λy vy s I c3 e d=>?_;unfold tW at e;split at e
 .obtain⟨rfl,_⟩:=d.r;split at e
  .rename_i n en;∎;let#[b,M,N]:=(A.mo d.g.le (λ_=>Le.refl _) C).set n<|r2.mo d.g.le (λ_=>Le.refl _) _;let#[m,J]:=cl s I (l.gr d.g) d.g.le a `dj (.af<|vs.set n v) O b [] (.af .o<|C.set n<|aC u) ((a,.af<|vs.set n v)::(b++[])) z N .nil xA wY (aa0 _) #[a,_,b++[],rfl,rfl,by rw[Č];show M];∎;show#[a,vs,_,n,rfl,rfl,d.g.h _ _ ha,by rw[A.length];show en,L.nx s _ j _ m J e]
  .show e.elim
 .show e.elim
abbrev kh(m:bL)(y:aI)(t:Tr):bL:=
 if (m.any λa=>decide<|a.1=y)=Â then m.map (λa=>if a.1=y then (a.1,t) else a) else m++[(y,t)]
def Rk.any:∀{m:bL}{vs:b9}{b:Cs}{y:aI},Rk K F B m vs b->(vs.any λa=>decide<|a.1=y)=m.any λa=>decide<|a.1=y
 |[],_,_,y,y0=>by let#[h,_]:=y0;rw[h];rfl
 |(k,x)::m,_,_,y,y0=>by let#[v,r,c,d,e,g,i,f]:=y0;rw[e,ϣ,ϣ,Rk.any f]
def Rk.rep:∀{m:bL}{vs:b9}{i:Cs}{y:aI}{t:Tr}{v:V},Rk K F B m vs i->R K F B t v []->∃ds',Rk K F B (m.map (λa=>if a.1=y then (a.1,t) else a)) (vs.map (λa=>if a.1=y then (a.1,v) else a)) ds'/\ds'.Sublist i
 |[],_,_,y,_,_,y0,_=>by let#[h,n]:=y0;show#[[],by rw[h];show#[rfl,rfl],by rw[n];show Ļ _]
 |(k,x)::m,_,_,y,t,w,y0,rt=>by
  ∎;let#[v,r,c,d,j,l,o,q]:=y0;let#[b,f,g]:=Rk.rep (y:=y) q rt;∎;by_cases e:k=y
  .show#[b,?_,by rw[l];show g.trans<|Ι c d];rw[j,ñ,ñ];change Rk K F B ((if k=y then (k,t) else (k,x))::_) ((if k=y then (k,w) else (k,v))::_) _;rw[av4 e,av4 e];show#[w,_,[],b,rfl,rfl,rt,f]
  .show#[c++b,?_,by rw[l];show g.append_left c];rw[j,ñ,ñ];change Rk K F B ((if k=y then (k,t) else (k,x))::_) ((if k=y then (k,w) else (k,v))::_) _;rw[av3 e,av3 e];show#[v,_,c,b,rfl,rfl,o,f]
def Rk.append:∀{m n:bL}{vs us:b9}{c d:Cs},Rk K F B m vs c->Rk K F B n us d->Rk K F B (m++n) (vs++us) (c++d)
 |[],_,_,_,_,_,y,h=>by let#[a,b]:=y;rw[a,b];show h
 |(k,x)::m,_,_,_,_,_,y,h=>by let#[v,r,c,d,a,b,e,f]:=y;rw[a,b];show#[v,r ++ _,c,d ++ _,rfl,by rw[ă],e,Rk.append f h]
def Rk.put(h:Rk K F B m vs ds)(rt:R K F B t v []):∃ds',Rk K F B (kh m y t) (jc vs y v) ds'/\ds'.Sublist ds:=by
 unfold kh jc;rw[h.any];split
 .show h.rep rt
 .show#[ds++[],h.append #[v,[],[],[],rfl,rfl,rt,rfl,rfl],by rw[Č];show Ļ _]
def RM(n:(m.map (·.1)).Nodup)(y:aI)(t:Tr):((kh m y t).map (·.1)).Nodup:=by
 unfold kh;split
 .have e:(m.map λd=>if d.1=y then (d.1,t) else d).map (·.1)=m.map (·.1):=by
   rw[ù];show Ī λp _=>?_
   change (if p.1=y then (p.1,t) else p).1=p.1;split<;>rfl
  rw[e];show n
 .rename_i h;rw[ä,š];show#[n,č.mpr #[λz=>(nomatch z),af6],λa f b g e=>h ?_];let#[p,i,rfl]:=æ.mp f;rw[è.mp g] at e;show Ż.mpr #[p,i,av6 e]
abbrev tX(u:Tr)(Q:bL->Prop):Prop:=match u with |.aP .o xs=>Q xs |_=>False
def T9{Q:bL->Prop}(h:tX u Q):∃xs,u=.aP .o xs/\Q xs:=by
 unfold tX at h;split at h
 .show#[_,rfl,h]
 .show h.elim
abbrev ny(y:Tr)(Q:aI->Prop):Prop:=match wF y with |some y=>Q y |none=>False
abbrev zq(K:aq)(i:Nat)(r:ah)(a pe:bh):cI:=λD j=>pe `ag λt=>bZ t=Â/\i6 K j i r λu s=>tX u λm=>a `ag λy=>ny y λy=>↑m<1000000/\D.nx (s<|.aP .o<|kh m y<|aC t)
def Ya(h:bE K k te pe)(hj:bE K k tj pj):dB K k lo (EK `cn tj te) (zq K i r pj pe):=λus Fb x F H j G cs D D' W p L=>by
 show h F (Bq x H) H j _ _ _ W.fM p λu v F1 f c1 q o=>?_
 ∎;let#[C,l,r2,l2]:=W.fY o q.1;let#[t,O,Q,U,p]:=uD q.2;let#[m,Y,p]:=T9 p;let#[w,c,B,sub,hc,rd,cl]:=l.at O Q r U;∎;rw[Y] at B;let#[a,vs,N,rfl,z,A,h4]:=B;have ha:f a=À `az:=hc.h (a,.dK vs) (by rw[z];show .head _);show rd _<|hj C (Bq x f) f j _ _ _ l.fM p λy vy s E c3 e d=>?_;unfold ny at e;split at e
 .rename_i yk ey;obtain rfl:=xM d.r ey;∎;let#[b,J,M]:=(A.mo d.g.le (λ_=>Le.refl _) m).put (y:=yk)<|r2.mo d.g.le (λ_=>Le.refl _) _;let#[n,I]:=cl s E (l.gr d.g) d.g.le a `az (.dK<|jc vs yk v) N b [] (.aP .o<|kh m yk<|aC u) ((a,.dK<|jc vs yk v)::(b++[])) z M .nil xA wY (aa0 _) #[a,_,b++[],rfl,rfl,by rw[Č];show J,RM h4 _ _];∎;show#[a,_,rfl,kS.k (d.g.h _ _ ha) (Õ (by rw[A.length];show e.1) ∎),L.nx s _ j _ n I e.2]
 .show e.elim
abbrev zc:bh:=λ_ Q=>Q<|.aP .o []
def Ua:bE K k Ef zc:=λF B H j i Q d c p q a b=>q _ _ F _ _ p #[Gr.l7 c.s b,#[a,[],[],rfl,rfl,#[rfl,rfl],af6],uv c.s .nil b,λp m=>by
 cases m with
 |head=>show b
 |tail _ m=>nomatch m]
abbrev jf(f:Str)(u:Tr):bq->bq
 |[]=>[(f,u)]
 |(g,x)::r=>if g=f then (g,u)::r else (g,x)::jf f u r
def Rf.put:∀{fs:bq}{vs:List (Str×V)}{h:Cs}{f:Str}{t:Tr}{v:V}{e:Cs},Rf K F B fs vs h->R K F B t v e->∃ds' d,Rf K F B (jf f t fs) (gi f v vs) d/\ds'.Sublist h/\d.Perm (ds'++e)
 |[],_,_,f,t,v,e,y,rt=>by let#[a,b]:=y;show#[[],e,by rw[a];show#[v,[],e,[],rfl,by rw[Č],rt,rfl,rfl],by rw[b];show Ļ _,aa0 _]
 |(g,x)::fs,_,_,f,t,w,e,y,rt=>by
  let#[v,r,c,d,a,b,j,i]:=y;by_cases z:g=f
  .show#[d,e++d,?_,by rw[b];show Ι c d,ϛ];rw[a];change Rf K F B (if g=f then (g,t)::fs else _) (if g=f then (g,w)::r else _) _;rw[av4 z,av4 z];show#[w,r,e,d,rfl,rfl,rt,i]
  .obtain⟨d',d2,a1,a2,a3⟩:=Rf.put (f:=f) i rt;show#[c++d',c++d2,?_,by rw[b];show a2.append_left c,by rw[ă];show a3.append_left c];rw[a];change Rf K F B (if g=f then _ else (g,x)::jf f t fs) (if g=f then _ else (g,v)::gi f w r) _;rw[av3 z,av3 z];show#[v,_,c,d2,rfl,rfl,j,a1]
def Rf.length:∀{fs:bq}{vs:List (Str×V)}{a:Cs},Rf K F B fs vs a->↑vs=↑fs
 |[],_,_,y=>by let#[h,_]:=y;rw[h];rfl
 |(k,x)::xs,_,_,y=>by let#[v,r,c,d,b,f,g,e]:=y;rw[b,Ö,Ö,Rf.length e]
abbrev qg(K:aq)(f:Str)(u:Tr)(Q:ai->bq->Prop):Prop:=match u with |.ins .o c fs=>(g9 K c/\bj K c f)/\↑fs<900/\Q c fs |_=>False
def Hh{Q:ai->bq->Prop}(h:qg K f u Q):∃c fs,u=.ins .o c fs/\(g9 K c/\bj K c f)/\↑fs<900/\Q c fs:=by
 unfold qg at h;split at h
 .show#[_,_,rfl,h]
 .show h.elim
abbrev zd(K:aq)(i:Nat)(r:ah)(f:Str)(pe:bh):cI:=λD j=>pe `ag λt=>bZ t=Â/\i6 K j i r λu s=>qg K f u λc fs=>D.nx<|s<|.ins .o c<|jf f t fs
def Ub(h:bE K k te pe):dB K k lo (zE K `cn te f) (zd K i r f pe):=λus Fb s F H j G cs D D' W p L=>by
 show h F (Bq s H) H j _ _ _ W.fM p λu v m n M q o=>?_
 have x:=W.gr o.g;∎;let#[n1,N]:=W.fresh o;let#[t,Q,U,Y,p]:=uD q.2;let#[C,fs,eg,ok,hl,p]:=Hh p;let#[w,c,A,sub,hc,rd,cl]:=x.at Q U r Y;∎;rw[eg] at A;let#[a,b,vs,O,rfl,y,z]:=A;have ha:n a=À `cj:=hc.h (a,.ins C b vs) (by rw[y];show .head _);∎;let#[l,d,E,I,J]:=z.put (f:=f)<|R.low (B':=λ_=>s) u q.1 rfl o.r;let#[e,B]:=cl m n x `bG a `cj (.ins C b<|gi f v vs) O l M (.ins .o C<|jf f u fs) ((a,.ins C b<|gi f v vs)::d) y I o.c n1 N (Ϩ _ J) #[a,b,_,d,rfl,rfl,E];∎;show rd _ #[a,C,b,vs,rfl,ha,ok.1,ok.2,Õ (by rw[z.length];show hl) ∎,L.nx m _ j _ e B p]
end
section
def Ia{Hb:Hp}(h:Hb a=Æ\/Hb a=À `az):Le (fz Hb a<|.aC ob<|.dK vs) Hb:=λb u n r=>by
 by_cases e:b=a
 .subst e;rcases h with h |h
  .rcases r with r |⟨o,r⟩<;>(rw[gu,av4 h] at r;cases r)
  .have z:fz Hb b (.aC ob<|.dK vs) b=À (.aC ob<|.dK vs):=by rw[gu,av3 (by rw[h];intro z;cases z)]
   rcases r with r |⟨o,r⟩
   .rw[z] at r;cases r;show av5 rfl<|n _ _
   .rw[z] at r;cases r;show .inl h
 .rcases r with r |⟨o,r⟩
  .rw[ff e] at r;show .inl r
  .rw[ff e] at r;show .inr #[o,r]
def bg.walk(W:bg K k lo us F Hb F H j G cs)(b:F a=À `az):bg K k.walk lo us (fz F a<|.aC ob<|.dK vs) (fz Hb a<|.aC ob<|.dK vs) (fz F a<|.aC ob<|.dK vs) (aU H a<|.aC ob<|.dK vs) j G cs:=by
 have r:H a=À `az:=W.g.s _ _ b;have o:Hb a=Æ\/Hb a=À `az:=by
  cases q:Hb a with
  |none=>show .inl rfl
  |some u=>have:=W.g.h _ _ q;rw[r] at this;show .inr this.symm
 have ne:∀i,∀p∈cs i,p.1≠a:=λi p m e=>by have:=(W.c i).f p m;rw[e,b] at this;cases this
 show#[#[Lr _ W.g.toGr0,Fz.refl _],λh=>(by cases h),W.l,λi t h=>(W.e i t h).imp id λ⟨v,h1,h2⟩=>#[v,h1,h2.mo (mI<|.inr b) (λ_=>mI o) t],λi=>#[λp m=>?_,λp m=>?_,(W.c i).nd],λi p m=>?_,W.d,W.p,λ_ _ _ _ h=>h.elim]
 .rw[ba<|ne i p m];show (W.c i).h p m
 .rw[ff<|ne i p m];show (W.c i).f p m
 .rw[ff<|ne i p m];show W.n i p m
def bg.e8(hz:k.z=Â)(w:bg K k lo us F1 Hb F1 H1 j G cs)(B:F1 a=À `az)(W:bg K k.walk lo us (fz F1 a<|.aC ob<|.dK vs) (fz Hb a<|.aC ob<|.dK vs) F H j' G' y):
  H a=À (.aC ob<|.dK vs)/\∃r,bg K k lo us F1 Hb r (aU H a<|.dK vs) j' G' y/\Le F r/\(∀b,b≠a->r b=F b)/\(∀b,F b=Æ->b≠a):=by
 have J:H1 a=À `az:=w.g.s _ _ B;have U:Hb a=Æ\/Hb a=À `az:=by
  cases q:Hb a with
  |none=>show .inl rfl
  |some u=>have:=w.g.h _ _ q;rw[J] at this;show .inr this.symm
 have I:fz F1 a (.aC ob<|.dK vs) a=À (.aC ob<|.dK vs):=by rw[gu,av3 (by rw[B];intro z;cases z)]
 have A:F a=À (.aC ob<|.dK vs):=W.g.f _ _ I;have C:H a=À (.aC ob<|.dK vs):=W.g.s _ _ A;have O:Fz (λb=>b=a\/S0 b) F:=λb o u e=>by
  let#[Y,u',E]:=W.g.z b o u e;by_cases eb:b=a
  .show .inl eb
  .rw[ff eb] at E;show .inr<|w.z hz b Y u' E
 let#[N,Q,M,L,e2,n2,D,c2]:=K9 (Fb:=F1) (Hb:=Hb) (F:=F1) (H:=H1) (S:=S0) w.g.toGr0 J (.inr B) W.g.toGr0 (A.trans I.symm) O;have ne:∀i,∀p∈y i,p.1≠a:=λi p m e=>by have:=(W.c i).f p m;rw[e,A] at this;cases this
 show#[C,N,#[#[Q,λb o u e=>(M b o u e).elim],λ_=>M,W.l,λi t h=>(W.e i t h).imp id λ⟨v,h1,h2⟩=>#[v,h1,h2.mo L (λ_=>Ia U) t],λi=>#[λp m=>?_,λp m=>?_,(W.c i).nd],λi p m=>?_,W.d,W.p,w.x],L,D,λb e z=>?_]
 .rw[ba<|ne i p m];show (W.c i).h p m
 .rw[D _<|ne i p m];show (W.c i).f p m
 .have:=W.n i p m;rw[ff<|ne i p m] at this;show this
 .rw[z,A] at e;cases e
abbrev kf:aI->Tr |.inl n=>.int n |.inr s=>.str s
inductive Wm where |it |ks |vs
abbrev wit:Wm->aI×Tr->Tr
 |.it,p=>.aF [kf p.1,p.2]
 |.ks,p=>kf p.1
 |.vs,p=>p.2
abbrev nk(t:Tr)(Q:bL->Prop):Prop:=match t with |.aP .f m=>Q m |_=>False
abbrev ze(w:Wm)(pe:bh)(pg:fy)(b:cI):cI:=λD j=>pe `ag λt=>bZ t=Â/\nk `bu λm=>∃I:Nat->aA,I 0 j/\(∀i p j,m[i]?=À p->I i j->pg (wit w p) j λa=>b { D with nx:=I<|i+1,ct:=I<|i+1,bk:=D.nx } a)/\∀j,I ↑m j->D.nx j
def Rk.dy:∀{m:bL}{vs:b9}{i:Nat}{y:aI}{v:V},Rk K F B m vs []->vs[i]?=À (y,v)->∃t,m[i]?=À (y,t)/\R K F B t v []
 |[],_,i,y,v,y0,e=>by let#[h,_]:=y0;rw[h] at e;cases e
 |(y',x)::m,_,0,y,v,y0,e=>by
  let#[u,r,c,d,a,b,f,g]:=y0;rw[a] at e;cases e;have z:=Ğ.mp b.symm;rw[z.1] at f;show#[x,rfl,f]
 |(y',x)::m,_,i + 1,y,v,y0,e=>by
  let#[u,r,c,d,a,b,f,g]:=y0;rw[a] at e;have z:=Ğ.mp b.symm;rw[z.2] at g;show Rk.dy (i:=i) g e
def B6:R K F B (kf y) (kV y) []:=by
 cases y with
 |inl n=>show#[rfl,rfl]
 |inr n=>show#[rfl,rfl]
def Xd(hz:k.z=Â)(b:∀o u,X.H₀ a≠À `aJ)(g:bg K k lo us F1 Hb F1 H1 j i cs)(l:F1 a=À `az)(L:Lk K k lo us F1 Hb D D'):Lk K k.walk lo us (fz F1 a<|.aC ob<|.dK vs) (fz Hb a<|.aC ob<|.dK vs) `df D':=by
 show#[λF H j i cs W q=>?_,λF H j i cs v t c W r e n d s q=>?_,λF H j i cs W q=>?_,λF H j i cs W q=>?_]
 .obtain⟨h1,F2,W2,_⟩:=g.e8 hz l W;show#[a,ob,vs,h1,b,L.nx F2 _ j i cs W2 q]
 .obtain⟨h1,F2,W2,l2,b2,f2⟩:=g.e8 hz l W;show#[a,ob,vs,h1,b,L.rt F2 _ j i cs v t c W2 ((r.mo l2 (λ_=>Le.refl _) t).base t s) #[λp m=>?_,λp m=>?_,e.nd] (λp m=>?_) d s q]
  .rw[ba<|f2 _<|e.f p m];show e.h p m
  .rw[b2 _<|f2 _<|e.f p m];show e.f p m
  .have:=n p m;rw[ff<|f2 _<|e.f p m] at this;show this
 .obtain⟨h1,F2,W2,_⟩:=g.e8 hz l W;show#[a,ob,vs,h1,b,L.bk F2 _ j i cs W2 q]
 .obtain⟨h1,F2,W2,_⟩:=g.e8 hz l W;show#[a,ob,vs,h1,b,L.ct F2 _ j i cs W2 q]
def GV(d:bg K k lo us F1 Hb F1 H1 j i cs)(b:F1 a=À `az)(r:Rk K F1 (λ_=>Hb) m vs [])(W:bg K k.walk lo us (fz F1 a<|.aC ob<|.dK vs) (fz Hb a<|.aC ob<|.dK vs) F H j' i' cs'):
  H a=À (.aC ob<|.dK vs)/\Rk K F (λ_=>fz Hb a<|.aC ob<|.dK vs) m vs []:=by
 have l:Hb a=Æ\/Hb a=À `az:=by
  cases q:Hb a with
  |none=>show .inl rfl
  |some u=>have:=d.g.h _ _ q;rw[d.g.s _ _ b] at this;show .inr this.symm
 have e:fz F1 a (.aC ob<|.dK vs) a=À (.aC ob<|.dK vs):=by rw[gu,av3 (by rw[b];intro z;cases z)]
 show#[W.g.s _ _<|W.g.f _ _ e,r.mo (Le.trans (mI<|.inr b)<|Le.of W.g.f) (λ_=>mI l) m]
def Uc(hz:k.z=Â)(h:bE K k te pe)(hg:qi K k.walk lo tg pg)(Y:dB K k.walk lo tb pb):dB K k lo (EN X te tg tb) (ze .it pe pg pb):=λus Fb A F H j G cs D D' W p L=>by
 show h F (Bq A H) H j _ _ _ W.fM p λt v F1 H1 c p1 o=>?_
 let#[C,d,r2]:=W.held o p1.1;have p2:=p1.2;unfold nk at p2;split at p2
 .rename_i m em;rw[em] at r2;let#[_,a,vs,rfl,U,r,h4]:=r2;have b:=r6 (d.z hz) U;let#[I,i0,step,n]:=p2;have f:=d.rebase;have J:=L.rebase d;show#[a,vs,rfl,d.g.s _ _ b,λob w=>?_];have L2:=Xd hz (X:=X) (ob:=ob) w f b J;show R4 (λi j H=>∃F G cs,bg K k.walk lo us (fz C a<|.aC ob<|.dK vs) (fz A a<|.aC ob<|.dK vs) F H j G cs/\I i G) #[_,G,cs,f.walk b,i0] ?_ ?_ ?_
  .rintro i j H hi ⟨F,G,cs,W,_⟩;show (GV f b r W).1
  .rintro i y u j H p e ⟨F,G,cs,W,ii⟩ hp;∎;let#[_,rk]:=GV f b r W;let#[B,N,O]:=rk.dy e;let#[x,Q,r4,_]:=uu (xs:=[kf y,B]) (cs:=[]) W.g.s #[kV y,[u],[],[],rfl,rfl,B6,u,[],[],[],rfl,rfl,O,rfl,rfl] .nil hp;∎;show hg us _ _ x _ j G cs _ _ _ _ (W.gr Q) r4 (step i (y,B) G N ii) λj' E l M p'=>?_
   show Y us _ _ x _ j' E l _ _ M p' #[λF H j G cs W q=>#[F,G,cs,W,q],L2.rt,L2.nx,λF H j G cs W q=>#[F,G,cs,W,q]]
  .rintro j H ⟨F,G,cs,W,q⟩;show L2.nx F H j G cs W (n G (by rw[<- ↑r];show q))
 .show p2.elim
end
section
abbrev EB(K:aq):ay->Hp->VK->Prop:=λb H Q=>(λb H Q=>∃x n,b=[x]/\Fq K x H n/\Q `aY H) b H Q\/(λb H Q=>∃a d,b=[V.ref a]/\H a=À `cc/\Q (.int ↑d) H) b H Q
def gH:bV X (.builtin "len") (EB X.K):=Nh.or R3
abbrev Em(K:aq):ay->Hp->VK->Prop:=λb H Q=>(λb H Q=>∃p e,b=[.ref p]/\(bw K H p e\/cR K H p e)/\∀l,H l=Æ->Q `cy (aU H l<|.af e)) b H Q\/(λb H Q=>∃a d,b=[.ref a]/\Rd H a `cc/\∀p,H p=Æ->Q `am (aU H p<|.af<|d.map λf=>kV f.1)) b H Q
def oD(a:X.calm=Â):bV X (.type "list") (Em X.K):=yK.or<|Q8 a
abbrev E4(K:aq):R2:=λx y H Q=>vh K Ç x y H Q\/uh Ç x y H Q
def CM(a:X.A.units+1<ģ:=by assumption):cG X (ö .In) (E4 X.K):=M7.or<|Y4 a
abbrev Et(K:aq):R2:=λx y H Q=>vh K Â x y H Q\/uh Â x y H Q
def xB(a:X.A.units+1<ģ:=by assumption):cG X `dT (Et X.K):=Na.or<|Sq a
abbrev E5(K:aq):V->bT->bT->Hp->VK->Prop:=λx l h H Q=>Fy K x l h H Q\/FD x l h H Q
def MG:n7 X (E5 X.K):=Nd.or ZJ
end
section
abbrev rO(k:Bool)(a:ag)(Q:aB):Prop:=match a with
 |[.str x]=>↑x <= 1000000 /\ Q (.int ↑x)
 |[.af _ xs]=>Q<|.int ↑xs
 |[.aF xs]=>Q<|.int ↑xs
 |[.aP .f m]=>k=Â /\ Q `dU
 |[.aP .o m]=>Q<|.int ↑m
 |_=>False
def gD:kU K k (EB K) (rO k.z):=λF B H D n C Q e s b z r w p q=>by
 cases n with
 |nil=>show ò p
 |cons t n=>
  cases n with
  |cons _ _=>cases t<;>first |show ò p |(rename_i f _;cases f<;>show ò p)
  |nil=>
   let#[v,rfl,g]:=r.one;cases t with
   |str x=>
    have p:↑x<=1000000/\e (.int ↑x):=p;let#[rfl,_]:=g;show .inl #[_,_,rfl,#[nM p.1,rfl],q _ _ F H [] p.2 `ak #[rfl,rfl] .nil λ_ m=>nomatch m]
   |af f u=>
    have p:e (.int ↑u):=p;let#[a,vs,y,rfl,i,d,_]:=g.cE s b w;show .inl #[_,_,rfl,.inl #[vs,i,rfl],q `dE _ F H [] (by rw[<- ↑d] at p;show p) `ak #[rfl,rfl] .nil λ_ m=>nomatch m]
   |aF u=>
    have p:e (.int ↑u):=p;let#[a,vs,rfl,i,d]:=g.dz s;show .inl #[_,_,rfl,.inr #[vs,i,rfl],q `dE _ F H [] (by rw[<- ↑d] at p;show p) `ak #[rfl,rfl] .nil λ_ m=>nomatch m]
   |aP f m=>
    cases f with
    |f=>
     have p:k.z=Â/\e `dU:=p;let#[_,a,vs,rfl,d,j,A]:=g;show .inr #[a,vs,rfl,s _ _<|r6 (z p.1) d,q (.int ↑vs) _ F H [] (by rw[<- ↑j] at p;show p.2) (Gr.aR s) #[rfl,rfl] .nil λ_ m=>nomatch m]
    |o=>
     have p:e `dU:=p;let#[a,vs,y,rfl,d,j,A]:=g;show .inr #[a,vs,rfl,w.h (a,.dK vs) (by rw[d];show .head _),q `dE _ F H [] (by rw[<- ↑j] at p;show p) `ak #[rfl,rfl] .nil λ_ m=>nomatch m]
    |l _=>show ò p
   |_=>show ò p
def Rk.pE:∀{m:bL}{vs:b9}{a:Cs},Rk K F B m vs a->Rs K F B (m.map λp=>kf p.1) (vs.map λf=>kV f.1) []
 |[],_,_,y=>by let#[h,_]:=y;rw[h];show#[rfl,rfl]
 |(y,x)::m,_,_,y0=>by let#[v,r,c,d,b,g,i,e]:=y0;rw[b];show#[kV y,_,[],[],rfl,rfl,B6,Rk.pE e]
def uz{xs:ag}{vs:ay}{cs cx:Cs}{p:ai}{Q:VK}{d:aB}(s:aD F H)(r:Rs K F B xs vs cs)(c:au F H cs)(sub:∀p∈cs,p∈cx)(e:H p=Æ)(h:d `aU)(q:∀t v a b cs,d t->Gr F H a b->R K a B t v cs->au a b cs->(∀p∈cs,H p.1=Æ\/p∈cx)->Q v b):Q `am (aU H p<|.af vs):=by
 let#[f,g,i]:=nD s r c e;show q _ _ F _ _ h f g i λp m=>?_
 cases m with
 |head=>show .inl e
 |tail _ m=>show .inr<|sub p m
abbrev zf(a:ag)(Q:aB):Prop:=match a with
 |[.af _ xs]=>Q<|.af .o xs
 |[.aF xs]=>Q<|.af .o xs
 |[.aP _ m]=>Q<|.af .o<|m.map λp=>kf p.1
 |_=>False
def oy:kU K k (Em K) zf:=λF B H A j y Q x s b z r h p q=>by
 cases j with
 |nil=>show ò p
 |cons t j=>
  cases j with
  |cons _ _=>cases t<;>show ò p
  |nil=>
   let#[v,rfl,i]:=r.one;cases t with
   |af f w=>
    let#[a,vs,u,rfl,d,e,n,o]:=i.cE s b h;show .inl #[_,_,rfl,.inl d,λl g=>uz s e n o g p q]
   |aF w=>
    let#[a,vs,rfl,d,e]:=i.dz s;show .inl #[_,_,rfl,.inr d,λl g=>uz s e h (λ_ m=>m) g p q]
   |aP f m=>
    let#[a,vs,u,rfl,d,e,n,o]:=i.fV s b h;show .inr #[_,_,rfl,d,λl g=>uz s e.pE .nil (λ_ m=>nomatch m) g p q]
   |_=>show ò p
abbrev zg(a:ag)(Q:aB):Prop:=match a with
 |[.aP _ m]=>Q<|.aP .o m
 |_=>False
def R.uA(r:R K F B `bm v cs):(xs.map (·.1)).Nodup:=by
 cases f with
 |f=>let#[_,_,_,_,_,_,h]:=r;show h
 |l q=>let#[_,_,_,_,_,_,h]:=r;show h
 |o=>let#[_,_,_,_,_,_,h]:=r;show h
def Hi:kU K k (λxs H Q=>∃a kvs,xs=[.ref a]/\Rd H a `as/\∀p,H p=Æ->Q `am (aU H p<|.dK kvs)) zg:=λF B H xs u o Q n s b z r j p q=>by
 unfold zg at p;split at p
 .obtain⟨v,rfl,r1⟩:=r.one;let#[a,vs,e,rfl,f,g,h,i]:=r1.fV s b j;show#[_,_,rfl,f,λl d=>q _ _ F _ ((l,.dK vs)::e) p (Gr.l7 s d) #[l,vs,e,rfl,rfl,g,r1.uA] (uv s h d) λp m=>?_];cases m with
  |head=>show .inl d
  |tail _ m=>show .inr<|i p m
 .show p.elim
abbrev KL:Tr->Option String
 |.int _=>À "int" |.bl _=>À "bool" |.str _=>À "str" |.aN=>À "NoneType" |.aF _=>À "tuple" |.af _ _=>À "list" |.aP _ _=>À "dict" |_=>Æ
abbrev FJ:Tr->du
 |.ty n=>À (.type n) |.cl a=>À `aw |_=>Æ
abbrev C2(K:aq)(a:ag)(Q:aB):Prop:=match a with
 |[x,c]=>(match KL x,FJ c with |some t,À u=>∃b,an4 K (.type t) u=À b /\ Q `cd |_,_=>False)
 |_=>False
def Jj{j:Type}{P:Prop}{u:j}(e:Æ=À u):P:=nomatch e
def MH{u:ar}(r:R K F B c w d)(e:FJ c=À u):wz w=À u:=by
 cases c with
 |ty n |cl a=>cases e;rw[r.1];rfl
 |_=>show Jj e
def MI{x:Tr}(s:aD F H)(b:∀k,aD (B k) H)(g:au F H c)(r:R K F B x v c)(e:KL x=À t):mr K H v (.type t):=by
 cases x with
 |int n=>cases e;rw[r.1];show ZF
 |bl n=>cases e;rw[r.1];show Lw
 |str n=>cases e;rw[r.1];show ZG
 |aN=>cases e;rw[r.1];show ZH
 |aF h=>cases e;let#[a,vs,rfl,d,_]:=r.dz s;show ZC d
 |af f h=>cases e;let#[a,vs,i,rfl,d,_]:=r.cE s b g;show ZD d
 |aP f h=>cases e;let#[a,vs,i,rfl,d,_]:=r.fV s b g;show ZE d
 |_=>show Jj e
def Ze:kU K k (λxs H Q=>∃x c t b u,xs=[x,c]/\mr K H x t/\wz c=À u/\an4 K t u=À b/\Q `cd H) (C2 K):=λF B H xs n j Q h s b z r a p q=>by
 unfold C2 at p;split at p
 .rename_i x c;let#[v,w,i,l,rfl,g,r2,e]:=r.two;rw[e] at a;split at p
  .rename_i t u e1 e2;let#[d,f,p]:=p;show#[v,w,_,d,u,rfl,MI s b a.left g e1,MH r2 e2,f,q _ _ F H [] p `ak #[rfl,rfl] .nil λ_ m=>nomatch m]
  .show p.elim
 .show p.elim
abbrev qh:Tr->Bool
 |.int _=>Â |.bl _=>Â |.str _=>Â |.aN=>Â |_=>Ç
abbrev rJ:Tr->V
 |.int n=>.int n |.bl b=>.bl b |.str x=>.str x |_=>.aN
def Br(r:R K F B t v cs)(h:qh t=Â):v=rJ t/\iP v=Â:=by
 cases t with
 |int n=>rw[r.1];show#[rfl,rfl]
 |bl n=>rw[r.1];show#[rfl,rfl]
 |str n=>rw[r.1];show#[rfl,rfl]
 |aN=>rw[r.1];show#[rfl,rfl]
 |_=>cases h
def AM:∀{a:ag}{vs:ay}{cs:Cs},Rs K F B a vs cs->a.all qh=Â->vs=a.map rJ/\vs.all iP=Â
 |[],_,_,⟨h,_⟩,_=>by rw[h];show#[rfl,rfl]
 |x::xs,_,_,⟨v,r,c,d,h1,h2,h3,h4⟩,h=>by
  rw[Χ,å] at h;let#[b,f]:=Br h3 h.1;let#[e,g]:=AM h4 h.2;rw[h1,e,b];show#[rfl,by rw[Χ,<- e,g,<- b,f];rfl]
abbrev sH(x:Tr)(xs:ag):Bool:=xX (rJ x)<|xs.map rJ
abbrev sP(neg:Bool)(x y:Tr)(Q:aB):Prop:=match y with
 |.af _ a=>qh x=Â /\ a.all qh=Â /\ Q (.bl (if neg=Â then !sH x a else sH x a))
 |.aF a=>qh x=Â /\ a.all qh=Â /\ Q (.bl (if neg=Â then !sH x a else sH x a))
 |.aP _ m=>ny x λy=>Q (.bl (if neg=Â then !(look m y).isSome else (look m y).isSome))
 |_=>False
def Ib:fk K k (λx y H Q=>vh K neg x y H Q\/uh neg x y H Q) (sP neg):=λF B H x y E ty A C Q w s b z j l D n hd p q=>by
 unfold sP at p;split at p
 .obtain⟨h1,h2,p⟩:=p;∎;let#[a,vs,o,rfl,d,g,_]:=l.cE s b n;let#[e,f]:=Br j h1;let#[h,i]:=AM g h2;∎;show .inl #[a,vs,rfl,.inl d,f,i,q _ _ F H [] p `ak #[?_,rfl] .nil λ_ m=>nomatch m];rw[e,h];cases neg<;>rfl
 .obtain⟨h1,h2,p⟩:=p;∎;let#[a,vs,rfl,d,g]:=l.dz s;let#[e,f]:=Br j h1;let#[h,i]:=AM g h2;∎;show .inl #[a,vs,rfl,.inr d,f,i,q _ _ F H [] p `ak #[?_,rfl] .nil λ_ m=>nomatch m];rw[e,h];cases neg<;>rfl
 .obtain⟨a,vs,o,rfl,d,g,g3,_⟩:=l.fV s b n;unfold ny at p;split at p
  .rename_i yk ey;obtain rfl:=xM j ey;rcases g.look yk g3 with⟨r,v⟩ |⟨x,u,c,e,f,_⟩
   .show .inr ⟨a,Æ,rfl,.inl ⟨vs,yk,d,rfl,v.symm⟩,q _ _ F H [] p (Gr.aR s) ⟨?_,rfl⟩ .nil λ_ m=>nomatch m⟩;rw[r];cases neg<;>rfl
   .show .inr #[a,À u,rfl,.inl #[vs,yk,d,rfl,f.symm],q _ _ F H [] p `ak #[?_,rfl] .nil λ_ m=>nomatch m];rw[e];cases neg<;>rfl
  .show p.elim
 .show p.elim
def Bs:fk K k (E4 K) (sP Ç):=Ib
def wZ:fk K k (Et K) (sP Â):=Ib
abbrev iR(K:aq)(f:Str)(x:Tr)(Q:aB):Prop:=match x with
 |.ins _ c fs=>(g9 K c /\ bj K c f) /\ (match fs.lookup f with |some t=>Q t |none=>False)
 |_=>False
def Rf.look:∀{fs:bq}{vs:List (Str×V)}{a:Cs}{f:Str}{x:Tr},Rf K F B fs vs a->au F H a->fs.lookup f=À x->∃u c,vs.lookup f=À u/\R K F B x u c/\au F H c/\∀p∈c,p∈a:=λ{fs vs a f x} h d e=>by
 let#[w,c,pre,g,i,j,b,_]:=h.at e;rw[b] at d;show#[w,c,i,j,d.left.right,λp m=>by rw[b];show Ê.mpr<|.inl<|Ê.mpr<|.inr m]
def Xe(h:bE K k te pe):bE K k (yY K te f) (p1 (iR K f) pe):=λF B H j i Q J c p q=>by
 show h F B H j i _ _ c p λx v l o L p1 e=>?_
 unfold iR at p1;split at p1
 .obtain⟨ok,p1⟩:=p1;split at p1
  .rename_i t et;∎;let#[a,C,vs,M,rfl,D,E,G,I]:=e.r.qP e.g.s (λk=>(c.b k).trans e.g.h) e.c;let#[u,d,w,y,z,A]:=E.look G et;∎;show#[a,_,C,vs,u,rfl,D,ok.1,ok.2,w,q _ _ l o d p1 #[e.g,y,z,λp m=>e.n p<|I p<|A p m]]
  .show p1.elim
 .show p1.elim
abbrev wk(x y z:Tr)(Q:aB):Prop:=match x with
 |.aP _ m=>ny y λy=>Q<|(look m y).getD z
 |_=>False
abbrev p3(pr:Tr->Tr->Tr->(aB)->Prop)(a b d:bh):bh:=λj Q=>a j λx=>(match x with |.aP _ _=>True |_=>False)/\b j λy=>d j λz=>pr x y z Q
def Ud(ha:bE K k ta pa)(hb:bE K k tb pb)(hc:bE K k tc pc):bE K k (Eg ta tb tc) (p3 wk pa pb pc):=λF B H j i Q Q' c p q=>by
 show ha F B H j i _ _ c p λx v J M c1 p1 l=>?_
 let#[hx,p1]:=p1;cases x with
 |aP f m=>
  have bB:∀{G},aD H G->∀k,aD (B k) G:=λs k=>(c.b k).trans s
  let#[a,vs,ds,rfl,I,h2,h3,h4]:=l.r.fV l.g.s (bB l.g.h) l.c;show#[a,rfl,.inl #[vs,I],hb J B M j i _ _ (c.gr l.g) p1 λy u L N c2 p2 A=>?_];show hc L B N j i _ _ ((c.gr l.g).gr A.g) p2 λz w E D c3 p3 C=>?_
  have e:=A.g.trans' C.g;unfold wk ny at p3;dsimp only at p3;split at p3
  .rename_i yk ey;obtain rfl:=xM A.r ey;have o:Rd D a `az:=(e.h).rd I;rcases (h2.mo e.le (λk=>Le.refl _) m).look yk (h3.gr e) with⟨z1,z2⟩ |⟨x,u,d,O,U,Y,a4,a5⟩
   .rw[z1] at p3;show#[Æ,.inl #[vs,yk,o,rfl,z2.symm],q _ _ E D c3 p3 #[l.g.trans' e,C.r,C.c,C.n.back<|l.g.h.trans A.g.h]]
   .rw[O] at p3;show#[À u,.inl #[vs,yk,o,rfl,U.symm],q _ _ E D d p3 #[l.g.trans' e,Y,a4,λp m=>l.n p<|h4 p<|a5 p m]]
  .show p3.elim
 |_=>show hx.elim
nonrec abbrev ri:=ag->(bT->Prop)->Prop
abbrev ud(K:aq)(k:Md)(f:TO)(pe:ri):Prop:=∀(F:Hp)(B:Bool->Hp)(H:Hp)(j:St)(i:ag)(Q:bT->Hp->Prop)(d:bT->Prop),gC K k F B H j i->pe i d->(∀b e a,d b->Gr F H e a->Q b a)->f j H Q
abbrev CH:ri:=λ_ Q=>Q Æ
abbrev CI(pe:bh):ri:=λj Q=>pe j λx=>match x with |.int i=>Q (À i) |_=>False
def Zf:ud K k D2 CH:=λF B H j i Q a c p q=>q Æ F H p<|Gr.aR c.s
def Zg(h:bE K k te pe):ud K k (EL te) (CI pe):=λF B H j i Q e c p q=>by
 show h F B H j i _ _ c p λx v b d f p1 a=>?_
 split at p1
 .obtain⟨rfl,_⟩:=a.r;show#[_,rfl,q _ b d p1 a.g]
 .show p1.elim
abbrev jG{j:Type}(xs:List j)(l h:bT):List j:=(xs.drop<|HT.eY ↑xs 0 l).take<|HT.eY ↑xs ↑xs h - HT.eY ↑xs 0 l
def Rs.drop:∀(n:Nat){xs:ag}{vs:ay}{a:Cs},Rs K F B xs vs a->au F H a->∃d,Rs K F B (xs.drop n) (vs.drop n) d/\au F H d/\∀p∈d,p∈a
 |0,_,_,a,h,hc=>#[a,h,hc,λ_ m=>m]
 |n + 1,[],_,a,y,_=>by let#[b,e]:=y;show#[[],by rw[b];show#[rfl,rfl],.nil,λ_ m=>nomatch m]
 |n + 1,x::xs,_,_,y,hc=>by
  let#[v,r,c,d,b,e,o,l]:=y;rw[e] at hc;let#[j,f,g,i]:=Rs.drop n l hc.right;show#[j,by rw[b];show f,g,λp m=>by rw[e];show Ê.mpr<|.inr<|i p m]
def Rs.take:∀(n:Nat){xs:ag}{vs:ay}{a:Cs},Rs K F B xs vs a->au F H a->∃d,Rs K F B (xs.take n) (vs.take n) d/\au F H d/\∀p∈d,p∈a
 |0,_,_,a,h,hc=>#[[],#[rfl,rfl],.nil,λ_ m=>nomatch m]
 |n + 1,[],_,a,y,_=>by let#[b,e]:=y;show#[[],by rw[b];show#[rfl,rfl],.nil,λ_ m=>nomatch m]
 |n + 1,x::xs,_,_,y,hc=>by
  let#[v,r,c,d,b,e,l,o]:=y;rw[e] at hc;let#[g,i,j,f]:=Rs.take n o hc.right;show#[c++g,by rw[b];show#[v,_,c,g,rfl,rfl,l,i],hc.left.app j λp s q u=>?_,λp m=>by rw[e];show (Ê.mp m).elim (λm=>Ê.mpr<|.inl m) λm=>Ê.mpr<|.inr<|f p m];have:=hc.nd;rw[ä,š] at this;show this.2.2 _ (æ.mpr #[p,s,rfl]) _<|æ.mpr #[q,f q u,rfl]
abbrev yq(x:Tr)(l h:bT)(Q:aB):Prop:=match x with
 |.af _ a=>Q<|.af .o<|jG a l h
 |.str x=>↑x <= 1000000 /\ Q (.str<|Txt.slice x l h)
 |_=>False
abbrev Cv(pe:bh)(pl a:ri):bh:=λj Q=>pe j λx=>pl j λl=>a j λh=>yq x l h Q
def Zh(h:bE K k te pe)(Y:ud K k tl pl)(U:ud K k th ph):bE K k (KC (E5 K) te tl th) (Cv pe pl ph):=λF B H j i Q Q' c p q=>by
 show h F B H j i _ _ c p λx v z C c1 p1 e=>?_
 show Y z B C j i _ _ (c.gr e.g) p1 λl A D p2 y=>?_
 show U A B D j i _ _ ((c.gr e.g).gr y) p2 λh w E p3 O=>?_
 have d:=y.trans' O;have o:=(c.gr e.g).gr d;have r3:=e.r.mo d.le (λk=>Le.refl<|B k) x;have u:=e.c.gr d;unfold yq at p3;split at p3
 .obtain⟨a,vs,ds,rfl,h1,h2,h3,h4⟩:=r3.cE o.s o.b u;show .inl #[a,vs,rfl,h1,λl' f=>?_];∎;let#[d1,G,I,J]:=h2.drop (HT.eY ↑vs 0 l) h3;let#[d2,L,M,N]:=G.take (HT.eY ↑vs ↑vs h - HT.eY ↑vs 0 l) I;let#[n1,n2,n3]:=nD o.s L M f;∎;show q _ _ w _ _ p3 #[(e.g.trans' d).trans' n1,?_,n3,λp m=>?_]
  .unfold jG;rw[<- ↑h2];show n2
  .cases m with
   |head=>show (e.g.h.trans d.h).free f
   |tail _ m=>show e.n p<|h4 p<|J p<|N p m
 .obtain⟨rfl,_⟩:=r3;show .inr #[_,rfl,nM p3.1,q _ _ w E [] p3.2 #[e.g.trans' d,#[rfl,rfl],.nil,.nil]]
 .show p3.elim
end
section
abbrev mz(ix:bC)(j:ag):ag:=ix.map λo=>match o with |none=>.ak |some i=>(j[i]?).getD .ak
def eJ.pick(e:eJ K F B G J):eJ K F B `dx (mz ix J):=λj t h=>by
 unfold mz at h;rw[Í] at h;cases q:ix[j]? with
 |none=>rw[q] at h;cases h
 |some o=>
  rw[q] at h;cases o with
  |none=>cases h;show .inl rfl
  |some i=>
   cases z:J[i]? with
   |none=>
    have h:À ((J[i]?).getD .ak)=À t:=h;rw[z] at h;cases h;show .inl rfl
   |some u=>
    have h:À ((J[i]?).getD .ak)=À t:=h;rw[z] at h;cases h;show (e i u z).imp id λa=>?_
    let#[v,b,d]:=a;show#[v,?_,d];unfold eF;rw[Í,q];change À ((G[i]?).getD Æ)=_;rw[b];rfl
def u0:∀{a b:St},a.length=↑b->(∀(i:Nat)(v:V),a[i]?=À (À v)->b[i]?=À (À v))->Wk a b
 |[],[],_,_=>.nil
 |[],_::_,h,_=>by cases h
 |_::_,[],h,_=>by cases h
 |none::a,y::b,h,g=>.aN<|u0 (Ť h) λi v e=>g (i + 1) v e
 |some x::a,y::b,h,g=>by
  have e:=g 0 x rfl;cases e;show .yn<|u0 (Ť h) λi v e=>g (i+1) v e
abbrev ot(K:aq)(e:List Nat)(f:TG)(pg:fy):Prop:=∀(F:Hp)(B:Bool->Hp)(H:Hp)(j:St)(G:ag)(x:V)(t:Tr)(Q:St->Hp->Prop)(d:aA),aD F H->eJ K F B j G->↑j=↑G->R K F B t x []->pg t G d->(∀a b,eJ K F B a b->↑a=↑b->↑a=↑j->(∀i,i ∉ e->a[i]?=j[i]?)->d b->Q a H)->f x j H Q
def eJ.set(e:eJ K F B G J)(d:↑G=↑J)(r:R K F B t x []):eJ K F B (G.set i<|À x) `cI:=λj u h=>by
 by_cases a:j=i
 .subst a;have b:j<↑J:=by have:=B5 h;rw[û] at this;show this
  rw[ÿ b] at h;cases h;show .inr #[x,ÿ (by rw[d];show b),r]
 .rw[î<|λz=>a z.symm] at h;show (e j u h).imp id λ⟨v,h1,h2⟩=>#[v,by rw[î<|λz=>a z.symm];show h1,h2]
def Zi:ot K [i] (kG i) (qU i):=λF B H G J x t Q d s e a r p q=>q _ _ (e.set a r) (by rw[û,û];show a) (by rw[û]) (λj b=>î λz=>b (by rw[z];show è.mpr rfl)) p
abbrev tY(K:aq)(g:List Nat)(h:pU)(pg:ag->ag->(aA)->Prop):Prop:=∀(F:Hp)(B:Bool->Hp)(H:Hp)(j:St)(G:ag)(f:ay)(e:ag)(Q:St->Hp->Prop)(d:aA),aD F H->eJ K F B j G->↑j=↑G->Rs K F B e f []->pg e G d->(∀a b,eJ K F B a b->↑a=↑b->↑a=↑j->(∀i,i ∉ g->a[i]?=j[i]?)->d b->Q a H)->h f j H Q
def Ue:tY K [] zy qb:=λF B H j i f d Q b s e a r p q=>by
 unfold qb at p;split at p
 .show#[r.1,q j i e a rfl (λ_ _=>rfl) p]
 .show p.elim
def RN(h:ot K js tg pg)(h':tY K ks tr pr):tY K (js++ks) (yP tg tr) `cT:=λF B H j G L J Q g s e n r p q=>by
 unfold qd at p;split at p
 .obtain⟨v,w,c,d,h1,h2,h3,h4⟩:=r;have z:=Ğ.mp h2.symm;rw[z.1] at h3;rw[z.2] at h4;show#[v,w,h1,h F B H j G v _ _ _ s e n h3 p λo b l x y D I=>h' F B H o b w _ Q g s l x h4 I λu f m A C E p2=>q u f m A (C.trans y) (λi a=>?_) p2];rw[E i λz=>a<|Ê.mpr<|.inr z,D i λz=>a<|Ê.mpr<|.inl z]
 .show p.elim
def Zj(h:tY K js tr pr):ot K js (zA K n tr) `dA:=λF B H j i x t Q b s e d r p q=>by
 unfold l8 at p;split at p
 .obtain⟨a,vs,rfl,h1,h2⟩:=r.dz s;show#[a,vs,rfl,h1,h2.length.trans p.1,h F B H j i vs _ Q b s e d h2 p.2 q]
 .show p.elim
abbrev wJ:dI:=λ_ Q=>Q Â
def Xf:gk K k FC wJ:=λF B H j i Q a c p q=>q Â F H p<|Gr.aR c.s
abbrev nq(f:j9)(pg:fy)(pt:dI)(pe:bh)(ix:bC):bh:=λj Q=>f j λe _=>∃I:Nat->aA,I 0 []/\
 (∀i t a,e[i]?=À t->I i a->pg t (mz ix j) λd=>pt d λb=>if b=Â then pe d λx=>↑a<1000000/\I (i+1) (a++[x]) else I (i+1) a)/\∀a,I ↑e a->↑a<=1000000/\Q `eG
def Hj{wi:TI}{pi:j9}{js:List Nat}{tg:TG}{pg:fy}{ti:TT}{pt:dI}{te:TE}{pe:bh}{ix:bC}(hi:oq K k wi pi)(hg:ot K js tg pg)(ht:gk K k.cM ti pt)(he:bE K k.cM te pe)(hj:∀j∈js,ix[j]?=À Æ):bE K k (qf wi tg ti te ix) `dV:=λF B H G O Q Q' c p q=>by
 show hi F B H G O _ _ c p λts nl J F1 H1 p1 E δ _=>?_
 ∎;let#[I,i0,step,α]:=p1;let#[Kp,Y,C,kp,yl]:=δ;∎;have c1:=c.gr E;show BY (n:=↑ts) (λi w f=>∃o us d,Gr F1 H1 o f/\Rs K o B us w d/\au o f d/\dH H1 d/\I i us) #[F1,[],[],Gr.aR E.s,#[rfl,rfl],.nil,.nil,i0] ?_ ?_ ?_ ?_
 .rintro i w f hlt ⟨o,us,d,g2,_⟩;show C.go i f hlt<|kp o f g2.le g2.s (c1.gr g2).b
 .rintro w f ⟨o,us,d,g2,_⟩;show C.st f<|kp o f g2.le g2.s (c1.gr g2).b
 .rintro i x w f H3 hlt ⟨o,us,d,g2,r2,hc2,n2,ii⟩ y;have c2:=c1.gr g2;∎;let#[t,et]:=uZ hlt;let#[U,g3,r3]:=yl i t o f x H3 et g2.le g2.s c2.b<|C.yl i f x H3 hlt (kp o f g2.le g2.s c2.b) y;∎;have D:=c2.gr g3;have β:(eF ix G).length=(mz ix O).length:=by unfold eF mz;rw[Å,Å]
  show hg U B H3 _ _ x t _ _ D.s D.e.pick β r3 (step i t us et ii) λG2 O2 e2 l2 γ n3 p2=>#[u0 γ.symm λj v M=>?_,?_]
  .by_cases hjs:j∈js
   .have z:=hj j hjs;unfold eF at M;rw[Í,z] at M;cases M
   .rw[n3 j hjs];show M
  .have c3':gC K k.cM U B H3 G2 O2:=#[D.s,D.b,D.z,e2,λ_ _ _ h=>h.elim]
   show ht U B H3 G2 O2 _ _ c3' p2 λb F4 H4 N g4=>?_
   have l:=g3.trans' g4;cases b with
   |false=>
    rw[av3 ∎] at N ⊢;show#[F4,us,d,g2.trans' l,r2.mo l.le (λk=>Le.refl<|B k) us,hc2.gr l,n2,N]
   |true=>
    rw[av4 rfl] at N ⊢;show he F4 B H4 G2 O2 _ _ (c3'.gr g4) N λu v F5 H5 c5 p5 L=>?_
    have A:=l.trans' L.g;show#[Õ (by rw[r2.length];show p5.1) ∎,F5,us++[u],d++c5,g2.trans' A,(r2.mo A.le (λk=>Le.refl<|B k) us).snoc L.r,(hc2.gr A).app L.c λp mp q mq e=>?_,λp m=>?_,p5.2]
    .have:=(hc2.gr l).h p mp;rw[e,L.n q mq] at this;cases this
    .rcases Ê.mp m with m |m
     .show n2 p m
     .show (g2.h.trans l.h).free (L.n p m)
 .rintro w f ⟨o,us,d,g2,r2,hc2,n2,ii⟩;let#[hl,hq]:=α us ii;show#[by rw[r2.length];show nM hl,λa ha=>?_];let#[m1,m2,m3]:=nD g2.s r2 hc2 ha;show q _ _ o _ _ hq #[(E.trans' g2).trans' m1,m2,m3,λp m=>?_];cases m with
  |head=>show (E.h.trans g2.h).free ha
  |tail _ m=>show E.h.free<|n2 p m
end
mutual
noncomputable def ew:Tr->Tr->Option Bool
 |.aF xs,.aF ys=>if ↑xs=↑ys then cB xs ys else Æ
 |.af _ xs,.af _ ys=>if ↑xs=↑ys then cB xs ys else À Ç
 |.int a,.int b=>À<|decide<|a=b
 |.str a,.str b=>À<|decide<|a=b
 |.bl a,.bl b=>À<|decide<|a=b
 |.aN,.aN=>À Â
 |_,_=>Æ
noncomputable def cB:List Tr->List Tr->Option Bool
 |[],[]=>À Â
 |x::xs,y::ys=>(ew x y).bind λa=>(cB xs ys).bind λb=>À<|a&&b
 |_,_=>Æ
end
mutual
noncomputable def dep:Tr->Nat
 |.aF a=>ft a + 1
 |.af _ a=>ft a + 1
 |_=>0
noncomputable def ft:List Tr->Nat
 |[]=>0
 |x::xs=>max (dep x)<|ft xs
end
section
variable{t':Tr}{b:Bool}
def nW{P:Prop}(e:Æ=À b):P:=nomatch e
def xC{xs:ag}(e:ew `aH t'=À b):∃ys,t'=.aF ys/\↑xs=↑ys/\cB xs ys=À b:=by
 cases t' with
 |aF ys=>
  have e:(if ↑xs=↑ys then cB xs ys else Æ)=À b:=e;by_cases h:↑xs=↑ys
  .rw[av4 h] at e;show#[ys,rfl,h,e]
  .rw[av3 h] at e;cases e
 |_=>show nW e
def xD{f:Fl}{xs:ag}(e:ew `aA t'=À b):∃g ys,t'=.af g ys/\(if ↑xs=↑ys then cB xs ys else À Ç)=À b:=by
 cases t' with
 |af g ys=>show#[g,ys,rfl,e]
 |_=>show nW e
def AN{a:Int}(e:ew (.int a) t'=À b):∃d,t'=.int d/\b=decide (a=d):=by
 cases t' with
 |int d=>show#[d,rfl,(Ø e).symm]
 |_=>show nW e
def AO{a:Str}(e:ew `ev t'=À b):∃d,t'=.str d/\b=decide (a=d):=by
 cases t' with
 |str d=>show#[d,rfl,(Ø e).symm]
 |_=>show nW e
def Bt{a:Bool}(e:ew (.bl a) t'=À b):∃d,t'=.bl d/\b=decide (a=d):=by
 cases t' with
 |bl d=>show#[d,rfl,(Ø e).symm]
 |_=>show nW e
def AQ(e:ew .aN t'=À b):t'=.aN/\b=Â:=by
 cases t' with
 |aN=>show#[rfl,(Ø e).symm]
 |_=>show nW e
abbrev pJ:aB
 |.aF _ |.af _ _ |.int _ |.str _ |.bl _ |.aN=>False
 |_=>True
def AS{t:Tr}(e:ew t t'=À b)(h:pJ t):False:=by
 have:ew t t'=Æ:=by
  cases t with
  |ak |ty |cl |exc |aP |ins=>cases t'<;>rfl
  |_=>show h.elim
 rw[this] at e;show nW e
end
section
mutual
theorem Bu(I:ax X aa j H s)(i:aD F H)(sb:∀k,aD (B k) H):∀(t:Tr)(t':Tr)(v:V)(c d:Cs)(b:Bool),ew t t'=À b->R X.K F B t v c->R X.K F B t' v d->au F H c->au F H d->b=Â
 |.aF C=>λt' v c d b e r g y h=>by
  ∎;let#[D,rfl,_,m]:=xC e;let#[a,vs,rfl,x,o]:=r.dz i;let#[l,A,u,w,n]:=g.dz i;∎;cases u;have z:=Wq I x w;subst z;show gY I i sb C D vs c d b m o n y h
 |.af f C=>λt' v c d b e r g y h=>by
  ∎;let#[L,D,rfl,m]:=xD e;let#[a,vs,E,rfl,x,o,J,_]:=r.cE i sb y;let#[l,A,q,u,w,n,G,_]:=g.cE i sb h;∎;cases u;have z:=Wr I x w;subst z;rw[av4<|o.length.symm.trans ↑n] at m;show gY I i sb C D vs E q b m o n J G
 |.int a=>λt' v c d b e r g _ _=>by
  let#[l,rfl,rfl]:=AN e;have:=r.1.symm.trans g.1;cases this;show av6 rfl
 |.str a=>λt' v c d b e r g _ _=>by
  let#[l,rfl,rfl]:=AO e;have:=r.1.symm.trans g.1;cases this;show av6 rfl
 |.bl a=>λt' v c d b e r g _ _=>by
  let#[l,rfl,rfl]:=Bt e;have:=r.1.symm.trans g.1;cases this;show av6 rfl
 |.aN=>λt' v c d b e r g _ _=>by
  show (AQ e).2
 |.ak |.ty _ |.cl _ |.exc _ _ |.aP _ _ |.ins _ _ _=>λt' v c d b e _ _ _ _=>(AS e ô).elim
theorem gY(I:ax X aa j H s)(m:aD F H)(sb:∀k,aD (B k) H):∀(n:List Tr)(d:List Tr)(vs:List V)(c g:Cs)(b:Bool),cB n d=À b->Rs X.K F B n vs c->Rs X.K F B d vs g->au F H c->au F H g->b=Â
 |[]=>λd vs c g b e _ _ _ _=>by
  cases d with
  |nil=>cases e;rfl
  |cons _ _=>cases e
 |x::xs=>λd vs c g b e r l h f=>by
  cases d with
  |nil=>cases e
  |cons y o=>
   ∎;let#[v,r,u,z,G,J,L,M]:=r;let#[N,l,w,A,i,C,D,E]:=l;∎;rw[G] at i;cases i;rw[J] at h;rw[C] at f;unfold cB at e;cases e1:ew x y with
   |none=>rw[e1] at e;cases e
   |some a=>
    cases e2:cB xs o with
    |none=>rw[e1,e2] at e;cases e
    |some q=>
     rw[e1,e2] at e;cases e;rw[Bu I m sb x y v u w a e1 L D h.left f.left,gY I m sb xs o r z A q e2 M E h.right f.right];rfl
end
abbrev kA(b a:ag)(j:Nat):Bool:=match b[j]?,a[j]? with |some x,À y=>(ew x y).getD Ç |_,_=>Ç
def uG:∀{f d:ag}{b:Bool},cB f d=À b->(É ↑f).all (kA f d)=b/\∀(j:Nat)(x y:Tr),f[j]?=À x->d[j]?=À y->ew x y=À (kA f d j)
 |[],[],b,e=>by cases e;show#[rfl,λj x y h=>by cases h]
 |[],_::_,b,e=>by cases e
 |_::_,[],b,e=>by cases e
 |x::xs,y::ys,b,e=>by
  unfold cB at e;cases e1:ew x y with
  |none=>rw[e1] at e;cases e
  |some a=>
   cases e2:cB xs ys with
   |none=>rw[e1,e2] at e;cases e
   |some o=>
    rw[e1,e2] at e;cases e;let#[l,m]:=uG e2;show#[?_,λj u w g i=>?_]
    .rw[Ö,List.range_succ_eq_map,Χ,List.all_map];have n:kA (x::xs) (y::ys) 0=a:=by change (ew x y).getD Ç=a;rw[e1];rfl
     rw[n,<- l];rfl
    .cases j with
     |zero=>cases g;cases i;change ew x y=À ((ew x y).getD Ç);rw[e1];rfl
     |succ j=>show m j u w g i
mutual
theorem Zk(I:ax X aa i H s)(E:aD F H)(sb:∀k,aD (B k) H):∀(t:Tr)(t':Tr)(Au:ą)(v m:V)(c n:Cs)(b:Bool)(u w:ϥ),ew t t'=À b->R X.K F B t v c->R X.K F B t' m n->au F H c->au F H n->aE v u->aE m w->Au.units+dep t<ģ->Ľ Au s u w b
 |.aF C=>λt' Au v m c n b u w e r l N o g d hu=>by
  have fn:=λ(z:v=m)=>Bu I E sb (.aF C) t' m c n b e (z ▸ r) l N o
  ∎;let#[J,rfl,Y,M]:=xC e;let#[a,vs,rfl,U,D]:=r.dz E;let#[h,G,rfl,Q,L]:=l.dz E;∎;obtain rfl:u=Ý a:=g;obtain rfl:w=Ý h:=d;by_cases z:a=h
  .rw[fn (by rw[z]),z];show Ϙ _
  .unfold dep at hu;let#[al,ix]:=uG M;have O:=HQ (Au:=Au) I U Q ⋯ (by rw[D.length,L.length];show Y) `ew (λj x y p q ex ey rx ry=>eS I E sb C J `ew Au.in1 vs G c n j x y p q ix D L N o ex ey rx ry (by rw[ox];omega));rw[D.length,al] at O;show ϧ z O
 |.af f C=>λt' Au v m c n b u w e r l N o g d hu=>by
  have fn:=λ(z:v=m)=>Bu I E sb (.af f C) t' m c n b e (z ▸ r) l N o
  ∎;let#[f',J,rfl,M]:=xD e;let#[a,vs,ds,rfl,U,D,h3,_]:=r.cE E sb N;let#[h,G,α,rfl,Q,L,g3,_]:=l.cE E sb o;∎;obtain rfl:u=Ý a:=g;obtain rfl:w=Ý h:=d;unfold dep at hu;by_cases z:a=h
  .rw[fn (by rw[z]),z];show Ϙ _
  .split at M
   .rename_i Y;let#[al,ix]:=uG M;have O:=HR (Au:=Au) I U Q ⋯ (by rw[D.length,L.length];show Y) `ew (λj x y p q ex ey rx ry=>eS I E sb C J `ew Au.in1 vs G ds α j x y p q ix D L h3 g3 ex ey rx ry (by rw[ox];omega));rw[D.length,al] at O;show ϧ z O
   .rename_i Y;cases M;∎;let#[us,r1,t1,_]:=I.list U;let#[zs,r2,t2,_]:=I.list Q;∎;have m1:=↑r1;have m2:=↑r2;have l1:=↑D;have l2:=↑L;show ϧ z (SeqAt.RcAt.lists_lengths t1.isList t2.isList (by simp;omega) ⋯)
 |.int a=>λt' Au v m c n b u w e r l _ _ g d _=>by
  let#[h,rfl,rfl]:=AN e;rw[r.1] at g;rw[l.1] at d;show Uy g d
 |.str a=>λt' Au v m c n b u w e r l _ _ g d _=>by
  let#[h,rfl,rfl]:=AO e;rw[r.1] at g;rw[l.1] at d;have z:=nG (A:=Au) (s:=s) g d rfl rfl;have e:jo `ev (.str h)=decide (a=h):=by change (a == h)=_;rw[ab9]
  rw[e] at z;show z
 |.bl a=>λt' Au v m c n b u w e r l _ _ g d _=>by
  let#[h,rfl,rfl]:=Bt e;rw[r.1] at g;rw[l.1] at d;have z:=nG (A:=Au) (s:=s) g d rfl rfl;have e:jo (.bl a) (.bl h)=decide (a=h):=by change (a == h)=_;rw[ab9]
  rw[e] at z;show z
 |.aN=>λt' Au v m c n b u w e r l _ _ g d _=>by
  let#[rfl,rfl]:=AQ e;rw[r.1] at g;rw[l.1] at d;show nG (A:=Au) (s:=s) g d rfl rfl
 |.ak |.ty _ |.cl _ |.exc _ _ |.aP _ _ |.ins _ _ _=>λt' Au v m c n b u w e _ _ _ _ _ _ _=>(AS e ô).elim
theorem eS(I:ax X aa G H s)(C:aD F H)(sb:∀k,aD (B k) H):∀(n:List Tr)(d:List Tr)(e:Nat->Bool)(Au:ą)(vs f:List V)(c o:Cs)(j:Nat)(x y:V)(u h:ϥ),(∀(j:Nat)(x y:Tr),n[j]?=À x->d[j]?=À y->ew x y=À (e j))->Rs X.K F B n vs c->Rs X.K F B d f o->au F H c->au F H o->vs[j]?=À x->f[j]?=À y->aE x u->aE y h->Au.units+ft n<ģ->Ľ Au s u h (e j)
 |[]=>λd e Au vs f c o j x y u h _ r _ _ _ ex _ _ _ _=>by rw[r.1] at ex;cases ex
 |t::n=>λd e Au vs f c o j x y u h z r q w g ex l A m hu=>by
  cases d with
  |nil=>rw[q.1] at l;cases l
  |cons D d=>
   ∎;let#[v,r,E,L,Y,h2,h3,h4]:=r;let#[v',q,J,M,N,O,Q,U]:=q;∎;rw[Y] at ex;rw[N] at l;rw[h2] at w;rw[O] at g;unfold ft at hu;cases j with
   |zero=>
    cases ex;cases l;show Zk I C sb t D Au _ _ E J (e 0) u h (z 0 t D rfl rfl) h3 Q w.left g.left A m ⋯
   |succ j=>show eS I C sb n d (λi=>e<|i+1) Au r q L M j x y u h (λi a b ha hb=>z (i+1) a b ha hb) h4 U w.right g.right ex l A m ⋯
end
def Xg(I:ax X aa G H s)(f:cR X.K H a xs)(g:cR X.K H b ys)(B:Au.units<ģ)(L:↑xs=↑ys)(e:Nat->Bool)(w:∀(j:Nat) x y u v,xs[j]?=À x->ys[j]?=À y->aE x u->aE y v->Ľ Au.in1 s u v (e j)):an3 Au s `aw `bs (!(É ↑xs).all e):=by
 ∎;let#[us,m,E,_]:=I.tuple f;let#[d,r2,J,_]:=I.tuple g;∎;have M:=↑m;have N:=↑r2;have z:=SeqAt.RcNeAt.tuples (A:=Au) (e:=e) E J B<|λj f g=>?_
 .have e0:((É<|min us.toArray.size d.toArray.size).all e&&us.toArray.size == d.toArray.size)=(É ↑xs).all e:=by
   simp only[á];have h:min ↑us ↑d=↑xs:=⋯
   have l:(↑us == ↑d)=Â:=by simp;omega
   rw[h,l,al7]
  rw[e0] at z;show z
 .simp only[á] at f g;∎;let#[u,h,C]:=m.get (i:=j) (x:=xs[j]'⋯) ∅;let#[v,l,D]:=r2.get (i:=j) (x:=ys[j]'⋯) ∅;let#[_,n]:=Á.mp h;let#[_,o]:=Á.mp l;∎;have q:us.toArray[j]'(by simpa using f)=u:=by simpa using n
  have r:d.toArray[j]'(by simpa using g)=v:=by simpa using o
  rw[q,r];show w j _ _ u v ∅ ∅ C D
abbrev wK(K:aq)(neg:Bool):R2:=λx y H Q=>∃(F:Hp)(B:Bool->Hp)(t d:Tr)(c a:Cs)(b:Bool),aD F H/\(∀k,aD (B k) H)/\R K F B t x c/\R K F B d y a/\au F H c/\au F H a/\ew t d=À b/\dep t<=60/\1<=dep t/\Q (.bl (if neg=Â then !b else b)) H
def Jw{x y:V}(hu:X.A.units+64<ģ)(I:ax X aa i H s)(E:aD F H)(sb:∀k,aD (B k) H)(r:R X.K F B t x c)(r':R X.K F B t' y c')(hc:au F H c)(G:au F H c')(e:ew t t'=À b)(d:dep t<=60)(d1:1<=dep t)(C:aE x v)(D:aE y u):aj1 X.A s v u b/\an3 X.A s v u (!b):=by
 cases t with
 |aF h=>
  let#[m,rfl,J,e]:=xC e;unfold dep at d;∎;let#[a,vs,rfl,z,n]:=r.dz E;let#[O,g,rfl,o,w]:=r'.dz E;∎;obtain rfl:v=Ý a:=C;obtain rfl:u=Ý O:=D;let#[al,Y]:=uG ‹cB h m=À b›;have it:=λ(j:Nat)(x y:V)(p q:ar) ex U C D=>eS I E sb h m `cz X.A.in1 vs g c c' j x y p q Y n w hc G ex U C D (by rw[ox];omega)
  have l:↑vs=↑g:=by rw[n.length,w.length];show J
  have L:=HQ (Au:=X.A) I z o ⋯ l `cz it;have M:=Xg (Au:=X.A) I z o ⋯ l `cz it;rw[n.length,al] at L M;show#[L,M]
 |af f h=>
  let#[f',m,rfl,N]:=xD e;unfold dep at d;∎;let#[a,vs,ds,rfl,z,n,h3,_]:=r.cE E sb hc;let#[O,g,Q,rfl,o,w,g3,_]:=r'.cE E sb G;∎;obtain rfl:v=Ý a:=C;obtain rfl:u=Ý O:=D;by_cases J:↑h=↑m
  .rw[av4 J] at N;let#[al,Y]:=uG N;have it:=λ(j:Nat)(x y:V)(p q:ar) ex U C D=>eS I E sb h m `cz X.A.in1 vs g ds Q j x y p q Y n w h3 g3 ex U C D (by rw[ox];omega)
   have l:↑vs=↑g:=by rw[n.length,w.length];show J
   have L:=HR (Au:=X.A) I z o ⋯ l `cz it;have M:=WB (Au:=X.A) I z o ⋯ l `cz it;rw[n.length,al] at L M;show#[L,M]
  .rw[av3 J] at N;cases N;∎;let#[us,r1,t1,_]:=I.list z;let#[zs,r2,t2,_]:=I.list o;∎;have m1:=↑r1;have m2:=↑r2;have l1:=↑n;have l2:=↑w;show#[.lists_lengths t1.isList t2.isList (by simp;omega) ⋯,.lists_lengths (A:=X.A) t1.isList t2.isList (by simp;omega) ⋯]
 |_=>show av5 d1<|Nat.not_succ_le_zero 0
def Zl(i:X.A.units+64<ģ):cG X (ö .Eq) (wK X.K Ç):=by
 intro aa s j H x y v u Q I m n h;let#[F,B,t,C,c,z,b,o,sb,r,l,g,a,e,d,f,q]:=h;show (Jw i I o sb r l g a e d f m n).1 X.prog X.w X.xe _ #[.bl b,H,I,rfl,q]
def Zm(i:X.A.units+64<ģ):cG X `cb (wK X.K Â):=by
 intro aa s j H x y v u Q I m n h;let#[F,B,t,C,c,z,b,o,sb,r,l,g,a,e,d,f,q]:=h;show (Jw i I o sb r l g a e d f m n).2 X.prog X.w X.xe _ #[.bl (!b),H,I,rfl,q]
abbrev E6(K:aq):R2:=λx y H Q=>CL x y H Q\/wK K Ç x y H Q
def dN(a:X.A.units+64<ģ:=by show bD.units<|by assumption):cG X (ö .Eq) (E6 X.K):=Nt.or<|Zl a
abbrev zt(K:aq):R2:=λx y H Q=>vi x y H Q\/wK K Â x y H Q
def jj(a:X.A.units+64<ģ:=by show bD.units<|by assumption):cG X `cb (zt X.K):=EI.or<|Zm a
abbrev mh(neg:Bool)(x y:Tr)(Q:aB):Prop:=match x,y with
 |.int a,.int b=>Q (.bl (if neg=Â then !decide (a=b) else decide (a=b)))
 |.str a,.str b=>Q (.bl (if neg=Â then !decide (a=b) else decide (a=b)))
 |.bl a,.bl b=>Q (.bl (if neg=Â then !decide (a=b) else decide (a=b)))
 |x,y=>ua neg x y Q \/ ∃b,ew x y=À b /\ dep x <= 60 /\ 1 <= dep x /\ Q (.bl (if neg=Â then !b else b))
def dO:fk K k (E6 K) (mh Ç):=λF B H x y n ty g i Q o s b z a f j l hd p q=>by
 unfold mh at p;split at p
 .obtain⟨rfl,_⟩:=a;let#[rfl,_]:=f;show .inl #[rfl,q _ _ F H [] p `ak #[?_,rfl] .nil λ_ m=>nomatch m];show av9 V.bl (decide_eq_decide.mpr #[λh=>V.int.inj h,λh=>by rw[h]])
 .obtain⟨rfl,_⟩:=a;let#[rfl,_]:=f;show .inl #[rfl,q _ _ F H [] p `ak #[?_,rfl] .nil λ_ m=>nomatch m];show av9 V.bl (decide_eq_decide.mpr #[λh=>V.str.inj h,λh=>by rw[h]])
 .obtain⟨rfl,_⟩:=a;let#[rfl,_]:=f;show .inl #[rfl,q _ _ F H [] p `ak #[?_,rfl] .nil λ_ m=>nomatch m];show av9 V.bl (decide_eq_decide.mpr #[λh=>V.bl.inj h,λh=>by rw[h]])
 .rcases p with p |p
  .show .inl (XP (k:=k) F B H x y n ty g i Q o s b z a f j l hd p q)
  .obtain⟨bb,e,d,d1,p⟩:=p;show .inr #[F,B,n,ty,g,i,bb,s,b,a,f,j,l,e,d,d1,q _ _ F H [] p `ak #[rfl,rfl] .nil λ_ m=>nomatch m]
def ja:fk K k (zt K) (mh Â):=λF B H x y n ty g i Q o s b z a f j l hd p q=>by
 unfold mh at p;split at p
 .obtain⟨rfl,_⟩:=a;let#[rfl,_]:=f;show .inl #[rfl,q _ _ F H [] p `ak #[?_,rfl] .nil λ_ m=>nomatch m];show av9 (λb=>V.bl (!b)) (decide_eq_decide.mpr #[λh=>V.int.inj h,λh=>by rw[h]])
 .obtain⟨rfl,_⟩:=a;let#[rfl,_]:=f;show .inl #[rfl,q _ _ F H [] p `ak #[?_,rfl] .nil λ_ m=>nomatch m];show av9 (λb=>V.bl (!b)) (decide_eq_decide.mpr #[λh=>V.str.inj h,λh=>by rw[h]])
 .obtain⟨rfl,_⟩:=a;let#[rfl,_]:=f;show .inl #[rfl,q _ _ F H [] p `ak #[?_,rfl] .nil λ_ m=>nomatch m];show av9 (λb=>V.bl (!b)) (decide_eq_decide.mpr #[λh=>V.bl.inj h,λh=>by rw[h]])
 .rcases p with p |p
  .show .inl (XQ (k:=k) F B H x y n ty g i Q o s b z a f j l hd p q)
  .obtain⟨bb,e,d,d1,p⟩:=p;show .inr #[F,B,n,ty,g,i,bb,s,b,a,f,j,l,e,d,d1,q _ _ F H [] p `ak #[rfl,rfl] .nil λ_ m=>nomatch m]
end
abbrev CZ(K:aq)(k:Md)(pe:bh):TE:=λj H Q=>∃(F:Hp)(B:Bool->Hp)(i:ag)(b:aB),gC K k F B H j i/\pe i b/\∀t v d a e,b t->Out K F B H d a t v e->Q v a
abbrev zu(K:aq)(k:Md)(pe:dI):TT:=λj H Q=>∃(F:Hp)(B:Bool->Hp)(i:ag)(d:Bool->Prop),gC K k F B H j i/\pe i d/\∀b e a,d b->Gr F H e a->Q b a
section
def QE.of(h:QE X k e pe):PE X e (CZ X.K k pe):=λaa s j H Q I y=>by
 ∎;let#[F,B,i,a,f,g,l]:=y;let#[m,b,d]:=h.h;∎;show b aa s j H Q I<|d F B H j i Q a f g l
def uE:bE K k (CZ K k pe) pe:=λF B H j i Q a b d e=>#[F,B,i,a,b,d,e]
def QT.of(h:QT X k e pe):PT X e (zu X.K k pe):=λaa s j H Q I y=>by
 ∎;let#[F,B,i,a,f,g,l]:=y;let#[m,b,d]:=h.h;∎;show b aa s j H Q I<|d F B H j i Q a f g l
def uH:gk K k (zu K k pe) pe:=λF B H j i Q a b d e=>#[F,B,i,a,b,d,e]
def nN(d:QE X k a pa)(e:QE X k b pb):QE X k (.BinOp a .Pow b pos) (p2 (jF wx λi j=>.int<|i ^ j.toNat) pa pb):=qJ Yq (BZ λ_ _ _ _=>#[rfl,rfl]) d e
def mK(i:bV X `cE r)(m:kU X.K k r pr)(hm:X.mg x=Æ)(g:QA X k (e::es) ps)(l:do Gl X x)(n:do ŏ x=À `cE)(hn: ~~~(x≠"__name__"))(a: ~~~(dY x))(j:do fA e es X.env)(b:do gq pos es X.env):
  QE X k (.Call `aP (e::es) [] pos) (pB pr ps):=by
 let#[o,d,f]:=g.h;show#[_,Ab i l hm n d hn a j b,Ju m f]
def uF:QE X k (.Dict [] [] pos) zc:=#[_,TK,Ua]
def LC(h:QE X k e pe)(d:do õ e f X.env `bg=eval e X.env):QE X k `aN (p1 (iR X.K f) pe):=by
 let#[g,a,b]:=h.h;show#[_,HX a d,Xe b]
def Bv(n:QE X k o po)(l:QE X k e pe)(m:QE X k f pf)(hm:M2 X o "get" apos e f bo:=by show#[rfl,rfl,rfl,rfl])(q:X.A.units+1<ģ:=by assumption):QE X k (.Call (.Attribute o "get" apos) [e,f] [] bo) (p3 wk po pe pf):=by
 ∎;let#[r,i,j]:=n.h;let#[s,d,g]:=l.h;let#[u,a,b]:=m.h;∎;show#[_,TL q i d a hm,Ud j g b]
structure QO(X:Cx)(k:Md)(e:Option ě)(pe:ri):Prop where
 h:∃te,PO X e te/\ud X.K k te pe
def La:QO X k Æ CH:=#[_,W7,Zf]
def yd(h:QE X k e pe):QO X k (À e) (CI pe):=by
 let#[d,a,b]:=h.h;show#[_,W8 a,Zg b]
def CN{e:ě}{pe:bh}{l h:Option ě}{pl a:ri}{p2:Pos}(m:QE X k e pe)(o:QO X k l pl)(n:QO X k h a):QE X k (.Subscript e (.Slice l h Æ p2) pos) (Cv pe pl a):=by
 ∎;let#[q,i,j]:=m.h;let#[r,f,g]:=o.h;let#[s,b,d]:=n.h;∎;show#[_,TN MG i f b,Zh j g d]
structure QG(X:Cx)(k:Md)(lo:Nat)(e:ě)(pg:fy):Prop where
 h:∃tg,PG X e tg/\qi X.K k lo tg pg
structure vC(X:Cx)(k:Md)(lo:Nat)(es:b5)(pg:ag->ag->(aA)->Prop):Prop where
 h:∃tg,rh X es tg/\tQ X.K k lo tg pg
def c7(i:Nat)(a:X.N.Nodup:=by assumption)(e: ~~~(lo<=i))(d:do X.N[i]?=À x)(f:Loc X.env.scope x:=by first |show ϲ rfl |show ű rfl)(b:kW X x:=by first |show .inl rfl |show .inr rfl |assumption):QG X k lo `aq (qU i):=#[_,AG a d f b,Za e]
def ir:vC X k lo [] qb:=#[_,Ik,RH]
def dR(h:QG X k lo e pg)(h':vC X k lo es pr)(hs:do (ī (e::es) X.env).map (·.2)=assign e X.env::(ī es X.env).map (·.2)):vC X k lo (e::es) `cT:=by
 ∎;let#[g,d,f]:=h.h;let#[i,a,b]:=h'.h;∎;show#[_,Hl d a hs,RC f b]
def iA(d:X.calm=Â)(h:vC X k lo es pr)(hn:do (ī es X.env).length=n)(e:do (ī es X.env).findIdx? (·.1)=Æ):QG X k lo `ex `dA:=by
 let#[f,a,b]:=h.h;show#[_,Jm d a hn e,Zb b]
structure QI(X:Cx)(k:Md)(tg e:ě)(pi:j9):Prop where
 h:∃ti,PI X tg e ti/\oq X.K k ti pi
section
def fL(h:QE X k l pl):QI X k tg l (CF pl):=by
 let#[d,a,b]:=h.h;show#[_,WW a,RK b]
def sv(hm:X.mg "range"=Æ)(h:QA X k [l] ps)(d:do Gl X "range")(hs:do n6 l X.env):QI X k tg (.Call (.Name "range" p) [l] [] pos) (zo ps):=by
 let#[e,a,b]:=h.h;show#[_,Rq d hm a hs,X8 b]
def qO(hm:X.mg "enumerate"=Æ)(h:QA X k [l] ps)(d:do Gl X "enumerate")(hs:do n6 l X.env):QI X k `dW (.Call (.Name "enumerate" p) [l] [] pos) (CC ps):=by
 let#[e,a,b]:=h.h;show#[_,Wx d hm a hs,RL b]
def lz(hm:X.mg "zip"=Æ)(h:QA X k [l,m] ps)(e:do Gl X "zip")(hs:do vD l m X.env)(a:do n6 m X.env):QI X k `dW (.Call (.Name "zip" p) [l,m] [] pos) (CG ps):=by
 let#[f,b,d]:=h.h;show#[_,ZO e hm b hs a,T7 d]
end
def bN(i:Nat)(h:QE X k e pe)(d:X.N.Nodup:=by assumption)(j: ~~~(lo<=i))(g:do X.N[i]?=À x)(l:Loc X.env.scope x:=by first |show ϲ rfl |show ű rfl)(hs:do ĳ e (À<|.Name x pos') pos.line X.env=pure Ç)(f:kW X x:=by first |show .inl rfl |show .inr rfl |assumption):
  QS X k lo (.Assign [.Name x pos'] e pos) (rH i pe):=by
 let#[m,a,b]:=h.h;show#[_,xF d g l a hs f,Az j b]
def u1(h:QE X k e pe)(l:QG X k lo tg pg)(g:do ab7 [tg] e pos.line X.env=pure Ç)(i:do ab6 [tg] e X.env=pure Æ)(j:do (ī [tg] X.env).map (·.2)=[assign tg X.env]):QS X k lo (.Assign [tg] e pos) (zQ pe pg):=by
 ∎;let#[m,a,b]:=h.h;let#[n,d,f]:=l.h;∎;show#[_,Jn a d g i j,X1 b f]
def LD(i j:Nat){x y:Str}{ps:cQ}{l m pt d:Pos}{g k2:Nat}(h:QA X k [a,b] ps)(r:do X.calm=Â)(q:X.N.Nodup:=by assumption)(v: ~~~(lo<=i))(f: ~~~(lo<=j))(s:do X.N[i]?=À x)(u:do X.N[j]?=À y)(e: ~~~(i≠j))(z:do X.env.scope.names.lookup x=À .local)(A:do X.env.scope.names.lookup y=À .local)(hs:do ab6 [.Tuple [.Name x l,.Name y m] g pt] (.Tuple [a,b] k2 d) X.env=pure (À [x,y]))(w:do ab7 [.Tuple [.Name x l,.Name y m] g pt] (.Tuple [a,b] k2 d) pos.line X.env=pure Ç):QS X k lo (.Assign [.Tuple [.Name x l,.Name y m] g pt] (.Tuple [a,b] k2 d) pos) (zR i j ps):=by
 let#[B,n,o]:=h.h;show#[_,Yn r q s u e z A n hs w,X2 v f o]
def gI(m:QI X k tg iter pi)(l:QG X k lo tg pg)(i:QB X k lo body pb)(n:ac6 `ab X.A X.env X.xe:=by first |show af1 |show fv rfl)(j:do X.calm=Â)(hs:∀x,Ė iter X.env x=pure x:=by intro _;rfl):QS X k lo (.For tg iter body [] pos) (zS pi pg pb):=by
 ∎;let#[o,f,g]:=m.h;let#[q,d,e]:=l.h;let#[tb,a,b]:=i.h;∎;show#[_,Jo n j f d a hs,X5 g e b]
def Zn(r:QE X k o po)(q:QG X k.walk lo `dF pg)(m:QB X k.walk lo body pb)(hz:do k.z=Â)(s:ac6 `ab X.A X.env X.xe:=by first |show af1 |show fv rfl)(n:do X.calm=Â)(i:do õ o "items" X.env `ap=eval o X.env)(j:do (apos.endLine == bo.line)=Â)(l:∀x,Ė (.Call (.Attribute o "items" apos) [] [] bo) X.env x=pure x:=by intro _;rfl):
  QS X k lo (.For `dF (.Call (.Attribute o "items" apos) [] [] bo) body [] pos) (ze .it po pg pb):=by
 ∎;let#[u,d,e]:=r.h;let#[v,f,g]:=q.h;let#[tb,a,b]:=m.h;∎;show#[_,W9 s n d f a i j l,Uc hz e g b]
def dJ(i:Nat)(b:do X.N[i]?=À x)(d:pW X.env.scope x:=by first |show ϲ rfl |show ű (ϲ rfl) |show ű<|ű rfl)(hd: ~~~(dY x))(a: ~~~((x == ("__classdict__":Str))=Ç)):PE X `aq (tR X.K i []):=xE b d hd a
def qK(l:PE X o `bi)(h:QE X k e pe)(f:do õ o "append" X.env `ap=eval o X.env)(g:do (((Ϗ bo<|ē [e] X.env).all (!·.1)&&(aj4 bo<|aa9 [] X.env).all (·.1.isSome))&&decide (([e].length+([]:List ag0).length+if ([]:List ag0).isEmpty=Â then 0 else 1)<30))=Â)(j:do (apos.endLine == bo.line)=Â)(a:do fA e [] X.env)(hs:do ĳ (.Call (.Attribute o "append" apos) [e] [] bo) Æ spos.line X.env=pure Ç):
  QS X k lo (.Expr (.Call (.Attribute o "append" apos) [e] [] bo) spos) (zp X.K i r pe):=by
 let#[m,b,d]:=h.h;show#[_,xr (Ks PySem.F.plainAttrs_list slot_list_append type_list_append Rz l (oJ b qA a) f g j a rfl) hs,X9 d]
def qB(s:PE X o `bi)(q:QE X k j pj)(h:QE X k e pe)(n:∀v,assign `dG X.env v=(do
   let ov <- holding [v] (eval o X.env)
   let iv <- holding [v,ov] (eval j X.env)
   ag2 pos'
   holding [v,ov,iv] (setItem ov iv v)
   release [v,ov,iv] []):=by intro _;rfl)(g:do ab7 [.Subscript o j pos'] e pos.line X.env=pure Ç)(l:do ab6 [.Subscript o j pos'] e X.env=pure Æ)(m:do (ī [.Subscript o j pos'] X.env).map (·.2)=[assign `dG X.env]):
  QS X k lo (.Assign [.Subscript o j pos'] e pos) (zb X.K i r pj pe):=by
 ∎;let#[u,a,b]:=h.h;let#[w,d,f]:=q.h;∎;show#[_,Jn a (Ym s d Uq n) g l m,T8 b f]
def u3(l:PE X o `bi)(g:QE X k j pj)(h:QE X k e pe)(m:X.A.units+1<ģ:=by assumption)(hs:do ĳ e (À<|.Subscript o j pos') pos.line X.env=pure Ç):QS X k lo (.Assign [.Subscript o j pos'] e pos) (zq X.K i r pj pe):=by
 ∎;let#[n,a,b]:=h.h;let#[q,d,f]:=g.h;∎;show#[_,W6 m l d a hs,Ya b f]
def qC(d:PE X o `bi)(h:QE X k e pe)(hs:do ĳ e (À<|.Attribute o f pos') pos.line X.env=pure Ç):QS X k lo (.Assign [.Attribute o f pos'] e pos) (zd X.K i r f pe):=by
 let#[g,a,b]:=h.h;show#[_,Jq d a hs,Ub b]
structure n4(X:Cx)(scope:Ω)(N:ah)(js:List Nat)(e:ě)(pg:fy):Prop where
 h:∃tg,(∀C s H fp pl,PG `aj e tg)/\ot X.K js tg pg
structure wL(X:Cx)(scope:Ω)(N:ah)(js:List Nat)(es:b5)(pg:ag->ag->(aA)->Prop):Prop where
 h:∃tg,(∀C s H fp pl,rh `aj es tg)/\tY X.K js tg pg
section
def cT(i:Nat)(b: ~~~(N.Nodup))(d:do N[i]?=À x)(a:∀C s H fp pl,(cU X scope N C s H fp pl).env.scope.names.lookup x=À .local:=by intros;rfl):n4 X scope N [i] `aq (qU i):=#[_,λC s H fp pl=>AG (X:=cU X scope N C s H fp pl) b d (.inl<|a C s H fp pl)<|.inr<|a C s H fp pl,Zi]
def k9:wL X scope N [] [] qb:=#[_,λ_ _ _ _ _=>Ik,Ue]
def gg(h:n4 X scope N js e pg)(h':wL X scope N ks es pr)(hs:∀C s H fp pl,(ī (e::es) (cU X scope N C s H fp pl).env).map (·.2)=assign e (cU X scope N C s H fp pl).env::(ī es (cU X scope N C s H fp pl).env).map (·.2):=by intros;rfl):wL X scope N (js++ks) (e::es) `cT:=by
 ∎;let#[g,d,f]:=h.h;let#[i,a,b]:=h'.h;∎;show#[_,λC s H fp pl=>Hl (d C s H fp pl) (a C s H fp pl)<|hs C s H fp pl,RN f b]
def lA(d:X.calm=Â)(h:wL X scope N js es pr)(hn:∀C s H fp pl,(ī es (cU X scope N C s H fp pl).env).length=n:=by intros;rfl)(e:∀C s H fp pl,(ī es (cU X scope N C s H fp pl).env).findIdx? (·.1)=Æ:=by intros;rfl):n4 X scope N js `ex `dA:=by
 let#[f,a,b]:=h.h;show#[_,λC s H fp pl=>Jm (X:=cU X scope N C s H fp pl) d (a C s H fp pl) (hn C s H fp pl)<|e C s H fp pl,Zj b]
structure pP(Y:Cx)(k:Md)(es:b5)(pt:dI):Prop where
 h:rj Y es (zu Y.K k pt)
def uI:pP X k [] wJ:=#[λaa s j H Q I a=>by let#[F,B,i,b,d,e,f]:=a;show Wt aa s j H Q I<|Xf (k:=k) F B H j i Q b d e f]
def sd{e:ě}{pt:dI}(h:QT X k e pt):pP X k [e] pt:=#[HU h.of]
variable{elt target iter:ě}{ifs:b5}{ix:bC}{pi:j9}{pg:fy}{pt:dI}{pe:bh}{js:List Nat}
def fT(N:ah)(ix:bC)(u:QI X k target iter pi)(r:n4 X a N js target pg)(q:∀C s H fp pl,QE `an k.cM elt pe)(ht:∀C s H fp pl,pP `an k.cM ifs pt:=by show λ_ _ _ _ _=>uI)(o:do X.calm=Â)(g:bK X a N ix:=by repeat first |show ô |show#[rfl,rfl,rfl,?_])(v: ~~~(∀j∈js,ix[j]?=À Æ))(e:do a.kind=.function)(d: ~~~(∀y∈a.names,y.2≠.cell))(b: ~~~(∀x∈a.names,x.2=.local->a.names.lookup x.1=À .local))(f:do jE a X.env=Â)(hs:∀x,Ė iter X.env x=pure x:=by intro _;rfl):
  QE X k (.ListComp elt [#[target,iter,ifs,0]] a pos) `dV:=by
 ∎;let#[w,m,n]:=u.h;let#[z,i,l]:=r.h;∎;show#[_,xu o m i (λC s H fp pl=>(ht C s H fp pl).h) (λC s H fp pl=>(q C s H fp pl).of) g e d b f hs,Hj n l uH uE v]
def se(i:Nat)(N:ah)(ix:bC)(B:QI X k target iter pi)(A:n4 X a N js target pg)(w:∀C s H fp pl,QE `an k.cM elt pe)(ht:∀C s H fp pl,pP `an k.cM ifs pt:=by show λ_ _ _ _ _=>uI)(u:X.N.Nodup:=by assumption)(E: ~~~(lo<=i))(m:do X.N[i]?=À y)(G:Loc X.env.scope y:=by first |show ϲ rfl |show ű rfl)(v:do X.calm=Â)(g:bK X a N ix:=by repeat first |show ô |show#[rfl,rfl,rfl,?_])(D: ~~~(∀j∈js,ix[j]?=À Æ))(l:ĳ (.ListComp elt [#[target,iter,ifs,0]] a pos) (À<|.Name y py) spos.line X.env=pure Â:=by with_unfolding_all rfl)(e:do a.kind=.function)(d: ~~~(∀y∈a.names,y.2≠.cell))(b: ~~~(∀x∈a.names,x.2=.local->a.names.lookup x.1=À .local))(f:do jE a X.env=Â)(hs:∀x,Ė iter X.env x=pure x:=by intro _;rfl)(z:kW X y:=by first |show .inl rfl |show .inr rfl |assumption):
  QS X k lo (.Assign [.Name y py] (.ListComp elt [#[target,iter,ifs,0]] a pos) spos) (rH i<|nq pi pg pt pe ix):=by
 ∎;let#[I,q,r]:=B.h;let#[J,n,o]:=A.h;∎;show#[_,HV u m G v q n (λC s H fp pl=>(ht C s H fp pl).h) (λC s H fp pl=>(w C s H fp pl).of) g l e d b f hs z,Az E<|Hj r o uH uE D]
end
end
section
def Lk.md(L:Lk K k lo us Fb Hb D D')(hz:k.z=Â->k'.z=Â)(x:∀x g b e,k.q x->∀d,XF K b d x.f->Gr Fb Hb b e->k.E g x.c d e):Lk K k' lo us Fb Hb D D':=
 #[λF H j i a W=>L.nx F H j i a<|W.md hz x,λF H j i a v t c W=>L.rt F H j i a v t c<|W.md hz x,λF H j i a W=>L.bk F H j i a<|W.md hz x,λF H j i a W=>L.ct F H j i a<|W.md hz x]
abbrev yR(q:Xv->Prop)(C:ai)(pe:bh):cI:=λ_ j=>pe `ag λ_=>q<|.ref C
def RO(h:bE K #[z,λ_=>E,q] te pe):dB K #[z,λ_=>E,q] lo (Eh C E te) (yR q C pe):=λus f d F H j i l D e W p L=>
 h F `di H j _ _ _ W.fM p λt v a b c q o=>W.x `ah j a b q Æ `ao<|W.g.trans' o.g
def bg.unset{i:Nat}(W:bg K k lo us Fb Hb F H G J cs)(s:lo<=i):bg K k lo us Fb Hb F H (G.set i Æ) (J.set i .ak) (λj=>if j=i then [] else cs j) where
 g:=W.g
 z:=W.z
 l:=by rw[û,û];show W.l
 e:=λj u h=>by
  by_cases e:j=i
  .subst e;have r:j<↑J:=by have:=(Á.mp h).1;rw[û] at this;show this
   rw[ÿ r] at h;cases h;show .inl rfl
  .rw[î<|λz=>e z.symm] at h;rw[av3 e];show (W.e j u h).imp id λ⟨v,h1,h2⟩=>#[v,by rw[î<|λz=>e z.symm];show h1,h2]
 c:=λj=>by
  split
  .show .nil
  .show W.c j
 n:=λj=>by
  split
  .show .nil
  .show W.n j
 d:=λa b ne p f q m=>by
  by_cases o:a=i
  .rw[av4 o] at f;cases f
  .rw[av3 o] at f;by_cases eb:b=i
   .rw[av4 eb] at m;cases m
   .rw[av3 eb] at m;show W.d a b ne p f q m
 p:=λj h=>by rw[î ⋯];show W.p j h
 x:=W.x
abbrev Pd.less(D:Pd)(i:Nat):Pd:={ nx:=λj=>D.nx<|j.set i .ak,rt:=D.rt,bk:=λj=>D.bk<|j.set i .ak,ct:=λj=>D.ct (j.set i .ak) }
def Lk.less(b:lo<=i)(L:Lk K k lo us Fb Hb D D'):Lk K k lo us Fb Hb `cS (D'.less i):=
 #[λF H j G a W q=>L.nx F H _ _ _ `dX q,λF H j G a v t c W r e n d f q=>L.rt F H j G a v t c W r e n d f q,λF H j G a W q=>L.bk F H _ _ _ `dX q,λF H j G a W q=>L.ct F H _ _ _ `dX q]
abbrev E7(K:aq)(k:Md)(lo:Nat)(ps:cI):TS:=λD j H=>∃(us:ay)(b d F:Hp)(i:ag)(e:Nat->Cs)(a:Pd),bg K k lo us b d F H j i e/\ps a i/\Lk K k lo us b d D a
def QB.of(h:QB X k lo sts ps):fR X sts (E7 X.K k lo ps):=λaa s j H D I y=>by
 ∎;let#[us,b,d,F,i,e,a,l,m,n]:=y;let#[o,f,g]:=h.h;∎;show f aa s j H D I<|g us b d F H j i e D a l m n
def Xh:dB K k lo (E7 K k lo ps) ps:=λus b d F H j i e D a f g h=>#[us,b,d,F,i,e,a,f,g,h]
abbrev yA(K:aq)(k:Md)(lo:Nat)(o:TE->TS)(n:bh->cI):Prop:=∀(us:ay)(d a F H:Hp)(j:St)(i:ag)(m:Nat->Cs)(D:Ends)(b:Pd)(h:TE)(g:bh),bg K k lo us d a F H j i m->Lk K k lo us d a D b->(∀Q f,g (i.map aO) f->(∀t v l e c,f t->Out K F (Bq a H) H l e t v c->Q v e)->h j H Q)->n g b i->o h D j H
def Ug(g:lo<=i):yA K k lo (λa=>nB a<|kG i) (rH i):=λus n r F H j G s D l a u W L h p=>h _ _ p λt v m d c q o=>by
 let#[b,f,e]:=W.outF o g q.1;show L.nx b d _ _ _ e q.2
abbrev KD(K:aq)(z:Bool)(pe:(Xv->Prop)->bh)(R':St->XK):TE:=λj H Q=>∃q,CZ K #[z,R',q] (pe q) j H Q
def LF{pe:(Xv->Prop)->bh}(h:∀q,QE X #[z,R',q] e<|pe q):PE X e (KD X.K z pe R'):=λaa s j H Q I ⟨q,h'⟩=>(h q).of aa s j H Q I h'
@[reducible] def E8(K:aq)(C:ai)(a:ar):Prop:=W.exmOne K a `ah=À Â
abbrev yS(K:aq)(C:ai)(i:Nat)(a:bh->cI)(pe:(Xv->Prop)->bh)(b:cI):cI:=λD j=>a (pe λx=>E8 K C x.c/\∃B,x.c=.ref B/\b `cS (j.set i<|.exc B<|Xp K x.f)) D j
def RP{A:TE->TS}(u:lo<=i)(hS:yA K k lo A pS)(hh:dB K k.cM lo th ph):dB K k lo (Ej K C i (λR'=>A<|KD K k.z pe R') th) (yS K C i pS pe ph):=λus n a F H j G N D E W p L=>
 hS us n a F H j G N D E _ _ W L (λQ J pq q=>#[_,F,Bq a H,_,J,#[W.fM.s,W.fM.b,W.fM.z,W.fM.e,λx F' H' w d xf g=>#[w.1,by
  let#[_,B,Y,U]:=w;show#[B,Y,λy hy=>?_];let#[I,r,O]:=rP (o:=mR y B d) g.s (by intro _ _ z;cases z) hy;have M:=((W.gr g).gr r).set u (t:=.exc B<|Xp _ x.f) (v:=.ref y) (c:=[]) #[rfl,y,d,rfl,.inl O,λF3 l=>xf.mo<|r.le.trans l] .nil .nil λ_ _ _ _ _ m=>nomatch m
  show hh us n a I _ _ _ _ _ _ (M.md id λ_ _ _ _ h=>h.elim) U<|(L.less u).md id W.x]],pq,q]) p
end
section
def Ic(h:qa `aG X E):∀j,kg `aG X j E:=λj aa H s e a I c=>h aa j H s e a I c
def Xi(hs:X.stack=X.env::X.outer)(m:X.env.frame=À X.env.locals)(d:X.ex=[])(g:rn X E)(a:X.calm=Â)(n:Gl X x)(hm:X.mg x=À `ah)(FB:ExcBaseFacts B newId initId bmB)(o:ac9 X.K C bmB newId=Â)(l:QE X #[z,λ_=>E,q] e₀ pe)(b: ~~~(dY x))(f:do fA e₀ [] X.env)(e:do gq bo [] X.env):
  QS X #[z,λ_=>E,q] lo (.Raise (À<|.Call (.Name x np) [e₀] [] bo) Æ pos) (yR q C pe):=by
 let#[r,i,j]:=l.h;show#[_,UB hs m d g a n hm FB o i b f e,RO j]
section
def Xj(hs:X.stack=X.env::X.outer)(m:X.env.frame=À X.env.locals)(o:Gl X x)(hm:X.mg x=À `ah)(f:X.N.Nodup)(u:lo<=i)(s:X.N[i]?=À n)(hn:X.env.scope.names.lookup n=À .local)(g:yA X.K k lo tS pS)(h:∀pn xe d,PE `ba e d->PS `ba st (tS d))(l:∀(pn:aZ)(xe:ar->ao->Prop)(R':St->XK),(∀j,kg `aG `ba j<|R' j)->∀q,QE `ba #[k.z,R',q] e<|pe q)(r:∀v:ϥ,QB `eq k.cM lo (a::suite) ph)(b: ~~~(dY x)):
  QS X k lo (.Try [st] [.ExceptHandler (À<|.Name x np) (À n) (a::suite) hpos] [] [] pos) (yS X.K C i pS pe ph):=
 #[_,UD hs m o hm f s hn (λpn xe R' y=>AF<|h pn xe _<|LF<|l pn xe R' y) (λv=>(r v).of) b,RP u g Xh]
end
def Jx:cG X (ö .Is) (λx y H Q=>((∃d,y=.bl d)\/y=.aN)/\Q (.bl<|decide<|x=y) H):=by
 intro aa s j H x y v u Q I a b h;let#[e,q]:=h;rcases e with⟨d,rfl⟩ |rfl
 .cases b;cases x with
  |bl c=>cases a;show PyProof.Rows.is_bool (dq I q (by cases c<;>cases d<;>rfl))
  |_=>first
   |(cases a;show Þ (dq I q rfl))
   |(let⟨t,rfl⟩:=a;show Þ (dq I q rfl))
 .show Ys aa s j H x _ v u Q I a b ⟨rfl,q⟩
end
section
def xi:cG X (ö .IsNot) (λx y H Q=>((∃d,y=.bl d)\/y=.aN)/\Q (.bl (!decide (x=y))) H):=by
 intro aa s j H x y v u Q I a b h;let#[e,q]:=h;rcases e with⟨d,rfl⟩ |rfl
 .cases b;cases x with
  |bl c=>cases a;show PyProof.Rows.isnot_bool (dq I q (by cases c<;>cases d<;>rfl))
  |_=>first
   |(cases a;show Þ (dq I q rfl))
   |(let⟨t,rfl⟩:=a;show Þ (dq I q rfl))
 .show WX aa s j H x _ v u Q I a b ⟨rfl,q⟩
end
section
abbrev sI:Tr->Tr->Bool
 |.bl c,.bl d=>c == d
 |.aN,.aN=>Â
 |_,_=>Ç
abbrev mD(neg:Bool)(x y:Tr)(Q:aB):Prop:=match y with
 |.bl d=>Q<|.bl<|neg ^^ sI x (.bl d)
 |.aN=>Q<|.bl<|neg ^^ sI x .aN
 |_=>False
def R.ref(r:R K F B t v c):(∃b,t=.bl b/\v=.bl b)\/(t=.aN/\v=.aN)\/(∀d,sI t (.bl d)=Ç/\sI t .aN=Ç/\v≠.bl d/\v≠.aN):=by
 cases t with
 |bl b=>show .inl #[b,rfl,r.1]
 |aN=>show .inr<|.inl #[rfl,r.1]
 |ak=>show (show False from r).elim
 |int n=>show .inr (.inr λd=>#[rfl,rfl,(by rw[r.1];intro z;cases z),(by rw[r.1];intro z;cases z)])
 |str n=>show .inr (.inr λd=>#[rfl,rfl,(by rw[r.1];intro z;cases z),(by rw[r.1];intro z;cases z)])
 |ty n=>show .inr (.inr λd=>#[rfl,rfl,(by rw[r.1];intro z;cases z),(by rw[r.1];intro z;cases z)])
 |cl n=>show .inr (.inr λd=>#[rfl,rfl,(by rw[r.1];intro z;cases z),(by rw[r.1];intro z;cases z)])
 |exc n _=>let#[_,a,_,rfl,_]:=r;show .inr (.inr λd=>#[rfl,rfl,(by intro z;cases z),(by intro z;cases z)])
 |aF e=>let#[a,vs,rfl,_]:=r;show .inr (.inr λd=>#[rfl,rfl,(by intro z;cases z),(by intro z;cases z)])
 |af f e=>
  cases f with
  |o=>let#[a,vs,g,rfl,_]:=r;show .inr (.inr λd=>#[rfl,rfl,(by intro z;cases z),(by intro z;cases z)])
  |f=>let#[_,a,vs,rfl,_]:=r;show .inr (.inr λd=>#[rfl,rfl,(by intro z;cases z),(by intro z;cases z)])
  |l b=>let#[_,a,vs,rfl,_]:=r;show .inr (.inr λd=>#[rfl,rfl,(by intro z;cases z),(by intro z;cases z)])
 |aP f e=>
  cases f with
  |o=>let#[a,vs,g,rfl,_]:=r;show .inr (.inr λd=>#[rfl,rfl,(by intro z;cases z),(by intro z;cases z)])
  |f=>let#[_,a,vs,rfl,_]:=r;show .inr (.inr λd=>#[rfl,rfl,(by intro z;cases z),(by intro z;cases z)])
  |l b=>let#[_,a,vs,rfl,_]:=r;show .inr (.inr λd=>#[rfl,rfl,(by intro z;cases z),(by intro z;cases z)])
 |ins f c e=>
  cases f with
  |o=>let#[a,h,vs,g,rfl,_]:=r;show .inr (.inr λd=>#[rfl,rfl,(by intro z;cases z),(by intro z;cases z)])
  |f=>let#[_,a,h,vs,rfl,_]:=r;show .inr (.inr λd=>#[rfl,rfl,(by intro z;cases z),(by intro z;cases z)])
  |l b=>let#[_,a,h,vs,rfl,_]:=r;show .inr (.inr λd=>#[rfl,rfl,(by intro z;cases z),(by intro z;cases z)])
def Jy(r:R K F B t v c)(d:Bool):decide (v=.bl d)=sI t (.bl d):=by
 rcases r.ref with⟨b,rfl,rfl⟩ |⟨rfl,rfl⟩ |h
 .cases b<;>cases d<;>rfl
 .rfl
 .rw[(h d).1];show av7 (h d).2.2.1
def Ie(r:R K F B t v c):decide (v=.aN)=sI t .aN:=by
 rcases r.ref with⟨b,rfl,rfl⟩ |⟨rfl,rfl⟩ |h
 .rfl
 .rfl
 .rw[(h Â).2.1];show av7 (h Â).2.2.2
def Jz:fk K k (λx y H Q=>((∃d,y=.bl d)\/y=.aN)/\Q (.bl<|decide<|x=y) H) (mD Ç):=λF B H x y l ty g h Q f s b z a e i j hd p q=>by
 unfold mD at p;split at p
 .obtain⟨rfl,_⟩:=e;show#[.inl #[_,rfl],?_];rw[Jy a];rw[Bool.false_xor] at p;show q _ _ F H [] p `ak #[rfl,rfl] .nil λ_ m=>nomatch m
 .obtain⟨rfl,_⟩:=e;show#[.inr rfl,?_];rw[Ie a];rw[Bool.false_xor] at p;show q _ _ F H [] p `ak #[rfl,rfl] .nil λ_ m=>nomatch m
 .show p.elim
def w4:fk K k (λx y H Q=>((∃d,y=.bl d)\/y=.aN)/\Q (.bl (!decide (x=y))) H) (mD Â):=λF B H x y l ty g h Q f s b z a e i j hd p q=>by
 unfold mD at p;split at p
 .obtain⟨rfl,_⟩:=e;show#[.inl #[_,rfl],?_];rw[Jy a];rw[Bool.true_xor] at p;show q _ _ F H [] p `ak #[rfl,rfl] .nil λ_ m=>nomatch m
 .obtain⟨rfl,_⟩:=e;show#[.inr rfl,?_];rw[Ie a];rw[Bool.true_xor] at p;show q _ _ F H [] p `ak #[rfl,rfl] .nil λ_ m=>nomatch m
 .show p.elim
def Rs.zY:∀{bs:List Bool}{vs:ay}{c:Cs},Rs K F B (bs.map .bl) vs c->vs=bs.map V.bl
 |[],_,_,y=>by let#[h,_]:=y;show h
 |b::bs,_,_,y=>by let#[v,r,c,d,a,g,e,f]:=y;rw[a,Rs.zY f,e.1];rfl
abbrev wM(all:Bool)(a:ag)(Q:aB):Prop:=match a with
 |[.af _ xs]=>∃bs:List Bool,xs=bs.map .bl /\ Q (.bl (if all=Â then bs.all id else bs.any id))
 |_=>False
def Xk:kU K k (λxs H Q=>∃(a:ai)(bs:List Bool),xs=[.ref a]/\bw K H a `bF/\Q (.bl<|bs.any id) H) (wM Ç):=λF B H xs j h Q g s b z r f p q=>by
 unfold wM at p;split at p
 .obtain⟨v,rfl,r1⟩:=r.one;∎;let#[a,vs,i,rfl,d,e,_]:=r1.cE s b f;let#[bs,rfl,p]:=p;∎;rw[e.zY] at d;show#[a,bs,rfl,d,q _ _ F H [] p `ak #[rfl,rfl] .nil λ_ m=>nomatch m]
 .show p.elim
def qr:kU K k (λxs H Q=>∃(a:ai)(bs:List Bool),xs=[.ref a]/\bw K H a `bF/\Q (.bl<|bs.all id) H) (wM Â):=λF B H xs j h Q g s b z r f p q=>by
 unfold wM at p;split at p
 .obtain⟨v,rfl,r1⟩:=r.one;∎;let#[a,vs,i,rfl,d,e,_]:=r1.cE s b f;let#[bs,rfl,p]:=p;∎;rw[e.zY] at d;show#[a,bs,rfl,d,q _ _ F H [] p `ak #[rfl,rfl] .nil λ_ m=>nomatch m]
 .show p.elim
def MJ(b:ag)(d:Gl X x)(hm:X.mg x=À `bc)(ht:∃(o:Obj)(a:cS)(n:Nat),X.K.lookup c=À o/\o.cls=.type "tuple"/\o.data=.seq a n/\a.size<=Ò/\aH vs a.toList)(e:∀F B,Rs X.K F B b vs [])(hd: ~~~(dY x)):QE X k `aq (pC<|.aF b):=
 Jv `bc d hm rfl (λF B=>#[c,vs,rfl,.inr ht,e F B]) hd
def Ig:∀(a:aG),Rs K F B (a.map .int) (a.map V.int) []
 |[]=>#[rfl,rfl]
 |i::a=>#[.int i,a.map V.int,[],[],rfl,rfl,#[rfl,rfl],Ig a]
def jJ(b:aG)(hm:X.mg x=À `bc)(ht:∃(o:Obj)(a:cS)(n:Nat),X.K.lookup c=À o/\o.cls=.type "tuple"/\o.data=.seq a n/\a.size<=Ò/\aH (b.map V.int) a.toList)(d:do Gl X x)(hd: ~~~(dY x)):QE X k `aq (pC<|.aF<|b.map .int):=
 MJ _ d hm ht (λ_ _=>Ig b) hd
def va(hm:X.mg x=À `bT)(a:do Gl X x)(hd: ~~~(dY x)):QE X k `aq (pC<|.int i):=Jv `aE a hm #[_,rfl] (λ_ _=>#[rfl,rfl]) hd
end
section
def oP(K:aq)(hm:X.mg x=Æ)(f:QA X k (e::es) ps)(d:do X.K=K)(h:do Gl X x)(i:do ŏ x=À (.builtin "isinstance"))(hn: ~~~(x≠"__name__"))(a: ~~~(dY x))(g:do fA e es X.env)(b:do gq pos es X.env):
  QE X k (.Call `aP (e::es) [] pos) (pB (C2 K) ps):=by
 subst d;show dZ Ux Ze hm f h i hn a g b
def cF(K:aq)(h:QE X k e pe)(a:do X.K=K)(b:do õ e f X.env `bg=eval e X.env):QE X k `aN (p1 (iR K f) pe):=by
 subst a;show LC h b
end
mutual
noncomputable def Cl:Tr->Bool
 |.aF a=>fQ a
 |.af .f a=>fQ a
 |.aP .f a=>mX a
 |.ins .f _ a=>vo a
 |.af _ _=>Ç
 |.aP _ _=>Ç
 |.ins _ _ _=>Ç
 |_=>Â
noncomputable def fQ:List Tr->Bool
 |[]=>Â |x::xs=>Cl x&&fQ xs
noncomputable def mX:List (aI×Tr)->Bool
 |[]=>Â |(_,x)::xs=>Cl x&&mX xs
noncomputable def vo:List (Str×Tr)->Bool
 |[]=>Â |(_,x)::xs=>Cl x&&vo xs
end
structure MQ(t:Tr):Prop where
 l:aO t=t
 f:aC t=t
 d:dn t=t
 o:cZ t=Â
 t:bZ t=Â
structure ND(t:ag):Prop where
 l:dC t=t
 f:bz t=t
 d:cV t=t
 o:dF t=Â
 t:eB t=Â
structure NF(t:bL):Prop where
 l:eU t=t
 f:df t=t
 d:iE t=t
 o:jv t=Â
 t:eW t=Â
structure NG(t:bq):Prop where
 l:cD t=t
 f:gy t=t
 d:iY t=t
 o:eX t=Â
 t:gz t=Â
mutual
theorem nK:∀(t:Tr),Cl t=Â->MQ t
 |.int _,_=>#[rfl,rfl,rfl,rfl,rfl]
 |.bl _,_=>#[rfl,rfl,rfl,rfl,rfl]
 |.str _,_=>#[rfl,rfl,rfl,rfl,rfl]
 |.aN,_=>#[rfl,rfl,rfl,rfl,rfl]
 |.ak,_=>#[rfl,rfl,rfl,rfl,rfl]
 |.ty _,_=>#[rfl,rfl,rfl,rfl,rfl]
 |.cl _,_=>#[rfl,rfl,rfl,rfl,rfl]
 |.exc _ _,_=>#[rfl,rfl,rfl,rfl,rfl]
 |.aF xs,h=>have c:=iC xs h;#[by change Tr.aF (dC xs)=_;rw[c.l],by change Tr.aF (bz xs)=_;rw[c.f],by change Tr.aF `dY=_;rw[c.d],c.o,c.t]
 |.af .f xs,h=>have c:=iC xs h;#[rfl,rfl,by change Tr.af .f `dY=_;rw[c.d],c.o,c.t]
 |.aP .f xs,h=>have c:=b8 xs h;#[rfl,rfl,by change Tr.aP .f (iE xs)=_;rw[c.d],c.o,c.t]
 |.ins .f a xs,h=>have c:=uo xs h;#[rfl,rfl,by change Tr.ins .f a (iY xs)=_;rw[c.d],c.o,c.t]
theorem iC:∀(t:List Tr),fQ t=Â->ND t
 |[],_=>#[rfl,rfl,rfl,rfl,rfl]
 |x::xs,h=>by
  have h:(Cl x&&fQ xs)=Â:=h;rw[å] at h;have a:=nK x h.1;have b:=iC xs h.2;show#[by change aO x::dC xs=_;rw[a.l,b.l],by change aC x::bz xs=_;rw[a.f,b.f],by change dn x::cV xs=_;rw[a.d,b.d],by change (cZ x&&dF xs)=_;rw[a.o,b.o];rfl,by change (bZ x&&eB xs)=_;rw[a.t,b.t];rfl]
theorem b8:∀(t:List (aI×Tr)),mX t=Â->NF t
 |[],_=>#[rfl,rfl,rfl,rfl,rfl]
 |(k,x)::xs,h=>by
  have h:(Cl x&&mX xs)=Â:=h;rw[å] at h;have a:=nK x h.1;have b:=b8 xs h.2;show#[by change (k,aO x)::eU xs=_;rw[a.l,b.l],by change (k,aC x)::df xs=_;rw[a.f,b.f],by change (k,dn x)::iE xs=_;rw[a.d,b.d],by change (cZ x&&jv xs)=_;rw[a.o,b.o];rfl,by change (bZ x&&eW xs)=_;rw[a.t,b.t];rfl]
theorem uo:∀(t:List (Str×Tr)),vo t=Â->NG t
 |[],_=>#[rfl,rfl,rfl,rfl,rfl]
 |(k,x)::xs,h=>by
  have h:(Cl x&&vo xs)=Â:=h;rw[å] at h;have a:=nK x h.1;have b:=uo xs h.2;show#[by change (k,aO x)::cD xs=_;rw[a.l,b.l],by change (k,aC x)::gy xs=_;rw[a.f,b.f],by change (k,dn x)::iY xs=_;rw[a.d,b.d],by change (cZ x&&eX xs)=_;rw[a.o,b.o];rfl,by change (bZ x&&gz xs)=_;rw[a.t,b.t];rfl]
end
class ae(α:Type) where
 t:α->Tr
 c:∀a,Cl (t a)=Â
 h:∀a,t a≠.ak
def oE[ae j]:∀xs:List j,fQ ↥xs=Â
 |[]=>rfl
 |x::xs=>by change (Cl `dk&&fQ ↥xs)=Â;rw[ae.c x,oE xs];rfl
def lg[ae j]:∀xs:List (aI×j),mX (xs.map λp=>(p.1,ae.t p.2))=Â
 |[]=>rfl
 |x::xs=>by change (Cl (ae.t x.2)&&mX (xs.map λp=>(p.1,ae.t p.2)))=Â;rw[ae.c x.2,lg xs];rfl
instance:ae Int:=#[.int,λ_=>rfl,λ_ z=>by cases z]
instance:ae Str:=#[.str,λ_=>rfl,λ_ z=>by cases z]
instance:ae Bool:=#[.bl,λ_=>rfl,λ_ z=>by cases z]
instance:ae Rat:=#[λq=>.aF [.int q.num,.int (q.den:Int)],λ_=>rfl,λ_ z=>by cases z]
instance {j:Type} [ae j]:ae (List j):=#[λxs=>.af .f ↥xs,λxs=>oE xs,λ_ z=>by cases z]
instance {j i:Type} [ae j] [ae i]:ae (j ⊕ i):=#[λx=>match x with |.inl a=>ae.t a |.inr b=>ae.t b,λx=>by cases x<;>show ae.c _,λx=>by cases x<;>show ae.h _]
instance {j i:Type} [ae j] [ae i]:ae (j×i):=#[λx=>.aF [ae.t x.1,ae.t x.2],λx=>by change (Cl _&&(Cl _&&Â))=Â;rw[ae.c,ae.c];rfl,λ_ z=>by cases z]
section
variable{α β:Type}[ae α][ae β](a:α)(xs:List α)
@[simp] theorem U4(n:Int):ae.t n=.int n:=rfl
@[simp] theorem U5(n:Str):ae.t n=.str n:=rfl
@[simp] theorem B'G(n:Bool):ae.t n=.bl n:=rfl
def Kw(q:Rat):ae.t q=.aF [.int q.num,.int (q.den:Int)]:=rfl
def hG:ae.t xs=.af .f ↥xs:=rfl
def xh:aO `bY=ae.t a:=(nK _<|ae.c a).l
def iF:aC `bY=ae.t a:=(nK _<|ae.c a).f
def jm:dn `bY=ae.t a:=(nK _<|ae.c a).d
def iG:cZ `bY=Â:=(nK _<|ae.c a).o
def jM:bZ `bY=Â:=(nK _<|ae.c a).t
def Kn:dC ↥xs=↥xs:=(iC _<|oE xs).l
def sC:bz ↥xs=↥xs:=(iC _<|oE xs).f
def uY:cV ↥xs=↥xs:=(iC _<|oE xs).d
def sD:dF ↥xs=Â:=(iC _<|oE xs).o
def ll:eB ↥xs=Â:=(iC _<|oE xs).t
end
class inductive Fp:Fl->Prop where
 |f:Fp .f
 |l:Fp (.l Ç)
instance:Fp .f:=.f
instance:Fp `aI:=.l
section
variable{f:Fl}[h:Fp f]
def U6:aO `aA=.af f xs:=by cases h<;>rfl
def RQ:aC `aA=.af f xs:=by cases h<;>rfl
def RS:dn `aA=.af f `dY:=by cases h<;>rfl
def RT{j:Type}[ae j]{xs:List j}:bZ (.af f ↥xs)=Â:=by cases h<;>first |show ll xs |rfl
def Jt:aO `bm=.aP f xs:=by cases h<;>rfl
def Hw:aC `bm=.aP f xs:=by cases h<;>rfl
def Z6:dn `bm=.aP f (iE xs):=by cases h<;>rfl
end
section
variable{α:Type}[ae α]{xs:List (aI×α)}
def MK:iE (xs.map λp=>(p.1,ae.t p.2))=xs.map λp=>(p.1,ae.t p.2):=(b8 _<|lg xs).d
end
section
abbrev oi(pa:cQ):cQ:=λj Q=>pa j λts=>Q<|bz ts
def Hx(h:gj K k ta pa):gj K k ta (oi pa):=λF B H j i Q g c p q=>by
 show h F B H j i _ _ c p λm vs f b l p1 e=>?_
 let#[a,d,r2]:=e.held;show q _ vs a b [] p1 #[d,r2,.nil,.nil]
def QA.aC(h:QA X k es pa):QA X k es (oi pa):=by
 let#[d,a,b]:=h.h;show#[d,a,Hx b]
end
def NJ(x:j)(xs:List j):cW (x::xs) 0=À x:=by unfold cW iM;simp
def NK(x y:j)(xs:List j):cW (x::y::xs) 1=À y:=by unfold cW iM;rw[av4 ⋯,av4 (by simp only[Ö];omega)];rfl
def at2(x y z:j)(xs:List j):cW (x::y::z::xs) 2=À z:=by unfold cW iM;rw[av4 ⋯,av4 (by simp only[Ö];omega)];rfl
def NL(x y z a:j)(xs:List j):cW (x::y::z::a::xs) 3=À a:=by unfold cW iM;rw[av4 ⋯,av4 (by simp only[Ö];omega)];rfl
inductive uW(xs:ag)(Q:Tr->aA):Prop
 |mk(_:↑xs=2)(a b)(_:xs=[.int a,.int b])(_:0<=a)(_:0<=b)(_:∀j,Q (.int (gd a b)) j):uW xs Q
inductive lU(xs:ag)(Q:Tr->aA):Prop
 |mk(_:↑xs=2)(a b)(_:xs=[.int a,.int b])(_:b ≠ 0)(_:bi b<=7990)(_:∀j,Q (ae.t (Ó a b)) j):lU xs Q
def B7(f:b≠0)(h:bi b<=k):bi (gd a b)<=k:=by
 show jH ?_;have d:=lq h;have e:(gd a b).natAbs<=b.natAbs:=ae8 ⋯ (ϝ.mpr<|Ay a b);omega
def xj(d:b≠0)(h:bi b<=7990):dM x (gd a b):=#[by have:=oC (a:=a) d;omega,lq (Ï (B7 d h) (show 7990<=8000 by omega))]
def Hy(d:b≠0)(h:bi b<=7990):dM x (-gd a b):=#[by have:=oC (a:=a) d;omega,by rw[Φ];show lq (Ï (B7 d h) (show 7990<=8000 by omega))]
inductive jU(f:Rat->Rat->Rat)(xs:ag)(Q:Tr->aA):Prop
 |mk(_:↑xs=2)(a b:Rat)(_:xs=[ae.t a,ae.t b])(_:bs a+bs b<=7990)(_:∀j,Q (ae.t (f a b)) j):jU f xs Q
def d9(a:bi x<=n)(b:bi y<=m)(h:n+m<=60000000):nh x y:=Lu ⋯ ⋯
def AU(a b:Rat)(h:bs a+bs b<=7990):bi ((a.den:Int)*b.den)<=7990:=Ï `dl (by have:=gf a;have:=gf b;omega)
def xb[ae j][ae i](a:List j)(ns:List i):(↥a).zipWith (λx y=>Tr.aF [x,y]) ↥ns=(a.zip ns).map λp=>Tr.aF [ae.t p.1,ae.t p.2]:=by
 rw[ah3,ϭ,ah2]
def Qp[ae j](a:List j):(↥a).mapIdx (λi x=>Tr.aF [.int i,x])=a.zipIdx.map λp=>Tr.aF [.int p.2,ae.t p.1]:=by
 apply Ŏ;intro i;rw[ar3,Í,Í,Ū];cases a[i]?<;>simp
def Uh(a b:Rat):(a.num*(b.den:Int)<b.num*(a.den:Int))↔a<b:=by
 rw[Rat.lt_iff]
inductive jV(xs:ag)(Q:Tr->aA):Prop
 |mk(_:↑xs=2)(a b:Rat)(_:xs=[ae.t a,ae.t b])(_:bs a+bs b<=60000000)(_:∀j,Q (.bl (decide (a<b))) j):jV xs Q
def Z7(t:Tr)(a:ag)(Q:aB):pC t a Q=(Q t):=rfl
def Z8(pr:Tr->Tr->(aB)->Prop)(a b:bh)(j:ag)(Q:aB):p2 pr a b j Q=(a j λx=>b j λy=>pr x y Q):=rfl
def Z9(pr:Tr->(aB)->Prop)(a:bh)(j:ag)(Q:aB):Pu.p1 pr a j Q=(a j λx=>pr x Q):=rfl
def RU:wC j' Q=(Q []):=rfl
def Qq:yZ pe pa j Q=(pe j λx=>pa j λxs=>Q (x::xs)):=rfl
def RV:zI pa j Q=(pa j λxs=>↑xs<=10000/\Q `aH):=rfl
def RW:zJ pa j Q=(pa j λxs=>↑xs<=10000/\Q `aU):=rfl
def z'e(pe:bh)(j:ag)(Q:Bool->Prop):pT pe j Q=(pe j λx=>j5 x Q):=rfl
def RX(a b:dI)(j:ag)(Q:Bool->Prop):zK a b j Q=(a j λc=>if c=Â then b j Q else Q Ç):=rfl
def U7(a b:dI)(j:ag)(Q:Bool->Prop):Cu a b j Q=(a j λc=>if c=Â then Q Â else b j Q):=rfl
def RY(a:dI)(j:ag)(Q:Bool->Prop):zL a j Q=(a j λc=>Q (!c)):=rfl
def Qr:y6 pa pb j Q=(pa j λx=>j5 x λc=>if c=Â then pb j Q else Q `cx):=rfl
def RZ:zM pa pb j Q=(pa j λx=>j5 x λc=>if c=Â then Q `br else pb j Q):=rfl
def Qs:y7 pa j Q=(pa j λx=>j5 x λc=>Q<|.bl (!c)):=rfl
def U8:Cq pc pa pb j Q=(pc j λc=>if c=Â then pa j Q else pb j Q):=rfl
def R0(p q:cI)(D:Pd)(j:ag):wH p q D j=(p { D with nx:=q D } j):=rfl
def Qt:y8 D j=(D.nx j):=rfl
def R1(i:Nat)(pe:bh)(D:Pd)(j:ag):zN i pe D j=(pe `ag λt=>bZ t=Â/\D.nx (j.set i t)):=rfl
def Qu:y9 pe D j=(pe `ag λ_=>D.nx j):=rfl
def SX:zO pe D j=(pe `ag λt=>cZ t=Â/\D.rt t j):=rfl
def z'f(a:dI)(p q:cI)(D:Pd)(j:ag):wI a p q D j=(a `ag λb=>if b=Â then p D j else q D j):=rfl
def Pm(q:Xv->Prop)(bf:iQ)(a:cQ)(j:ag)(Q:aB):wh q bf a j Q=(a j λb=>bf (cV b) (λt _=>Q t) q):=rfl
def Qv:za bf pa j Q=(pa j λa=>bf (cV a) λt _=>Q t):=rfl
def z'g(pr:ag->(aB)->Prop)(a:cQ)(j:ag)(Q:aB):pB pr a j Q=(a j λb=>pr b Q):=rfl
def Pn:El D' j'=(False):=rfl
def Qw(i:Nat)(pe:bh)(D:Pd)(j:ag):rH i pe D j=(pe `ag λt=>bZ t=Â/\D.nx (j.set i<|aC t)):=rfl
def U9(i:Nat)(t:Tr)(j:ag)(Q:aA):qU i t j Q=(Q<|j.set i t):=rfl
def Po:qb ts j Q=(match ts with |[]=>Q j |_=>False):=rfl
def OF(pg:fy)(pr:ag->ag->(aA)->Prop)(a:ag)(j:ag)(Q:aA):qd pg pr a j Q=(match a with |t::r=>pg t j λb=>pr r b Q |[]=>False):=rfl
def Va(n:Nat)(pr:ag->ag->(aA)->Prop)(t:Tr)(j:ag)(Q:aA):l8 n pr t j Q=(match t with |.aF a=>↑a=n/\pr a j Q |_=>False):=rfl
def SY:zQ pe pg D j=(pe `ag λt=>bZ t=Â/\pg `bu j D.nx):=rfl
def S1(i j:Nat)(d:cQ)(D:Pd)(G:ag):zR i j d D G=(d `eH λe=>match e with |[a,b]=>bZ a=Â/\bZ b=Â/\D.nx ((G.set i<|aC a).set j<|aC b) |_=>False):=rfl
def Vb(pe:bh)(j:ag)(Q:ag->Bool->Prop):CF pe j Q=(pe j λt=>jd `bu λxs=>Q xs<|bZ<|aC t):=rfl
def VV(a:cQ)(j:ag)(Q:ag->Bool->Prop):CC a j Q=(a j λb=>ub b λt=>jd `bu λxs=>Q (xs.mapIdx λi x=>.aF [.int i,x])<|bZ<|aC t):=rfl
def VW(a:cQ)(j:ag)(Q:ag->Bool->Prop):CG a j Q=(a j λb=>uc b λt u=>jd `bu λxs=>jd (aC u) λys=>Q (xs.zipWith (λx y=>.aF [x,y]) ys)<|bZ (aC t)&&bZ (aC u)):=rfl
def S3(a:cQ)(G:ag)(Q:ag->Bool->Prop):zo a G Q=(a G λb=>wj b λj=>-1000000<=j/\j<=1000000/\Q ((É j.toNat).map λ(i:Nat)=>.int i) Â):=rfl
def S4(K:aq)(i:Nat)(r:ah)(pe:bh)(D:Pd)(j:ag):zp K i r pe D j=(i6 K j i r λu s=>oh u λxs=>pe `ag λt=>bZ t=Â/\↑xs<1000000/\D.nx (s<|.af .o<|xs++[aC t])):=rfl
def Qx(K:aq)(i:Nat)(r:ah)(b pe:bh)(D:Pd)(j:ag):zb K i r b pe D j=(pe `ag λt=>bZ t=Â/\i6 K j i r λu s=>oh u λxs=>b `ag λy=>tW xs y `bu λa=>D.nx<|s<|.af .o a):=rfl
def S5(K:aq)(i:Nat)(r:ah)(a pe:bh)(D:Pd)(j:ag):zq K i r a pe D j=(pe `ag λt=>bZ t=Â/\i6 K j i r λu s=>tX u λm=>a `ag λy=>ny y λy=>↑m<1000000/\D.nx (s<|.aP .o<|kh m y<|aC t)):=rfl
def Qy:zc j' Q=(Q<|.aP .o []):=rfl
def Qz(K:aq)(i:Nat)(r:ah)(f:Str)(pe:bh)(D:Pd)(j:ag):zd K i r f pe D j=(pe `ag λt=>bZ t=Â/\i6 K j i r λu s=>qg K f u λc fs=>D.nx<|s<|.ins .o c<|jf f t fs):=rfl
def VX(a:ag)(Q:bT->Prop):CH a Q=(Q Æ):=rfl
def VY(pe:bh)(j:ag)(Q:bT->Prop):CI pe j Q=(pe j λx=>match x with |.int i=>Q (À i) |_=>False):=rfl
def VZ:Cv pe pl ph j Q=(pe j λx=>pl j λl=>ph j λh=>yq x l h Q):=rfl
def Pp(q:Xv->Prop)(C:ai)(pe:bh)(a:Pd)(j:ag):yR q C pe a j=(pe `ag λ_=>q<|.ref C):=rfl
def Pq(K:aq)(C:ai)(i:Nat)(a:bh->cI)(pe:(Xv->Prop)->bh)(b:cI)(D:Pd)(j:ag):yS K C i a pe b D j=(a (pe λx=>E8 K C x.c/\∃B,x.c=.ref B/\b `cS (j.set i<|.exc B<|Xp K x.f)) D j):=rfl
def QC:oi pa j Q=(pa j λts=>Q<|bz ts):=rfl
def Gv(n:Int):aO `aY=`aY:=rfl
def S6:aO `cJ=`cJ:=rfl
def QD:aO `bH=`bH:=rfl
def QF:aO .aN=.aN:=rfl
def Pr:aO .ak=.ak:=rfl
def QJ(n:ai)(P:Hp->bW->Prop):aO `eJ=`eJ:=rfl
def Gw(n:Int):Pu.aC `aY=`aY:=rfl
def S7:Pu.aC `cJ=`cJ:=rfl
def QK:Pu.aC `bH=`bH:=rfl
def QM:Pu.aC .aN=.aN:=rfl
def Gx(n:Int):dn `aY=`aY:=rfl
def QN:dn `bH=`bH:=rfl
def QP:dn .aN=.aN:=rfl
def Gy(n:Int):cZ `aY=Â:=rfl
def S8:cZ `cJ=Â:=rfl
def QQ:cZ `bH=Â:=rfl
def QR:cZ .aN=Â:=rfl
def Gz(n:Int):bZ `aY=Â:=rfl
def S9:bZ `cJ=Â:=rfl
def QU:bZ `bH=Â:=rfl
def QV:bZ .aN=Â:=rfl
def QX:aO `aH=.aF (dC xs):=rfl
def QY:Pu.aC `aH=.aF (bz xs):=rfl
def QZ:dn `aH=.aF `dY:=rfl
def P7:cZ `aH=dF xs:=rfl
def P8:bZ `aH=eB xs:=rfl
def P9:aO `aU=.af `bP (dC xs):=rfl
def Qa:Pu.aC `aU=.af .f (bz xs):=rfl
def Qb:dn (.af `bP xs)=.af `aI `dY:=rfl
def Ta:Pu.aC (.af (.l b) xs)=.af (.l b) xs:=rfl
def Qc:cZ `aU=dF xs:=rfl
def Qd:bZ `aU=eB xs:=rfl
def V0:cZ (.af .f xs)=dF xs:=rfl
def Qe(xs:bL):aO `cf=.aP `bP (eU xs):=rfl
def Qf(xs:bL):Pu.aC `cf=.aP .f (df xs):=rfl
def Qg(xs:bL):cZ `cf=jv xs:=rfl
def Qh(xs:bL):bZ `cf=eW xs:=rfl
abbrev Loop(a:ag)(pg:fy)(d:cI)(D:Pd)(j:ag):Prop:=∃I:Nat->aA,I 0 j/\(∀i t j,a[i]?=À t->I i j->pg t j λb=>d { D with nx:=I<|i+1,ct:=I<|i+1,bk:=D.nx } b)/\∀j,I ↑a j->D.nx j
def Tb:zS pi pg pb D j=(pi `ag λb a=>a=Â/\Loop b pg pb D j):=rfl
def Loop.map(ys:List O)(g:O->Tr){pg:fy}(J:Nat->aA)(d:J 0 G)(step:∀i y G,ys[i]?=À y->J i G->pg (g y) G λb=>pb { D with nx:=J<|i+1,ct:=J<|i+1,bk:=D.nx } b)(a:∀G,J ↑ys G->D.nx G):Loop `cU pg pb D G:=by
 show#[J,d,λi t G h j=>?_,λG h=>a G (by rw[Å] at h;show h)];rw[Í] at h;cases e:ys[i]? with
 |none=>rw[e] at h;cases h
 |some y=>rw[e] at h;cases h;show step i y G e j
abbrev pV(o:Option Tr)(Q:aB):Prop:=match o with |some .ak=>False |some t=>Q t |none=>False
def Tc(i:Nat)(j:ag)(Q:aB):wB i j Q=pV j[i]? Q:=rfl
def V1[ae j](a:j)(Q:aB):pV (À<|ae.t a) Q=Q `bY:=by
 have h:=ae.h a;generalize ae.t a=t at h;cases t with
 |ak=>show av5 rfl h
 |_=>rfl
def V2:pV (À<|.int n) Q=Q `aY:=rfl
def z'h:pV (À<|.bl n) Q=Q `cJ:=rfl
def V3:pV (À<|.str n) Q=Q `bH:=rfl
def V4:pV (À .aN) Q=Q .aN:=rfl
def V5(n:ai)(P:Hp->bW->Prop)(Q:aB):pV (À<|.exc n P) Q=Q `eJ:=rfl
def V6:pV (À<|.aF xs) Q=Q `aH:=rfl
def V7:pV (À<|.af f xs) Q=Q `aA:=rfl
def V8(f:Fl)(xs:bL)(Q:aB):pV (À<|.aP f xs) Q=Q `bm:=rfl
def V9(f:Fl)(c:ai)(xs:bq)(Q:aB):pV (À<|.ins f c xs) Q=Q (.ins f c xs):=rfl
def Pt(q:Rat)(Q:aB):iw `ey (.int 0) Q=Q (.int q.num):=rfl
def Pw(q:Rat)(Q:aB):iw `ey (.int 1) Q=Q (.int (q.den:Int)):=rfl
def Td:Tr.aF [.int 0,.int 1]=ae.t (0:Rat):=rfl
def Wa:Tr.aF [.int 1,.int 1]=ae.t (1:Rat):=rfl
abbrev a7(e:ag)(pg:fy)(pt:dI)(pe:bh)(f:ag)(Q:aB):Prop:=∃I:Nat->aA,I 0 []/\
 (∀i t a,e[i]?=À t->I i a->pg t f λd=>pt d λb=>if b=Â then pe d λx=>↑a<1000000/\I (i+1) (a++[x]) else I (i+1) a)/\∀a,I ↑e a->↑a<=1000000/\Q `eG
def Qi(a:j9)(pg:fy)(pt:dI)(pe:bh)(ix:bC)(j:ag)(Q:aB):nq a pg pt pe ix j Q=(a j λb _=>a7 b pg pt pe (mz ix j) Q):=rfl
def a7.qR(ys:List j)(g:j->Tr)(h:j->Tr){pg:fy}{pe:bh}{Q:aB}(d:↑ys<=1000000)(step:∀y∈ys,∀R:aB,R (h y)->pg (g y) j' λf=>pe f R)(q:Q (.af .o<|ys.map h)):a7 `cU pg wJ pe j' Q:=by
 show#[λi b=>b=(ys.take i).map h,rfl,λi t b e a=>?_,λb a=>?_]
 .rw[Í] at e;cases e':ys[i]? with
  |none=>rw[e'] at e;cases e
  |some y=>
   rw[e'] at e;cases e;have l:=(Á.mp e').1;show step y (Ð e') _ #[?_,?_]
   .rw[a,Å,ĭ];omega
   .show b++[h y]=(ys.take<|i+1).map h;rw[a,ĕ,e',ä];rfl
 .rw[Å,Ġ] at a;rw[a,Å];show#[d,q]
def a7.map[ae j](ys:List i)(g:i->Tr)(h:i->j){pg:fy}{pe:bh}{Q:aB}(a:↑ys<=1000000)(step:∀y∈ys,∀R:aB,R (ae.t<|h y)->pg (g y) j' λb=>pe b R)(q:Q (.af .o<|(ys.map h).map ae.t)):a7 `cU pg wJ pe j' Q:=
 a7.qR ys g (λy=>ae.t<|h y) a step (by rw[ù] at q;show q)
abbrev bP{j:Type}[ae j](f:Fl)(m:List (Str×j)):Tr:=.aP f<|m.map λp=>(Sum.inr p.1,ae.t p.2)
def JK[ae j](m:List (Str×j)):`ar=(m.map λp=>((Sum.inr p.1:aI),p.2)).map λp=>(p.1,ae.t p.2):=by rw[ù];rfl
def Ip[ae j](m:List (Str×j)):Cl (bP .f m)=Â:=by
 change mX `ar=Â;rw[JK];show lg _
def BK[ae j](m:List (Str×j))(x:Str):look `ar `cK=(bO m x).map ae.t:=by
 unfold look bO
 induction m with
 |nil=>rfl
 |cons p m a=>
  rw[ñ,Ń,Ń];by_cases h:p.1=x
  .rw[av6 (by rw[h]),av6 h];rfl
  .rw[av7<|λz=>h<|Sum.inr.inj z,av7 h];show a
def Wb[ae j](f:Fl)(m:List (Str×j))(x:Str)(d:j)(Q:aB):wk `bv `bC (ae.t d) Q=Q (ae.t<|(bO m x).getD d):=by
 change Q ((look `ar<|Sum.inr x).getD<|ae.t d)=_;rw[BK];cases bO m x<;>rfl
abbrev EC(x:Tr):Prop:=match x with |.aP _ _=>True |_=>False
def z'i(pr:Tr->Tr->Tr->(aB)->Prop)(a b d:bh)(j:ag)(Q:aB):p3 pr a b d j Q=(a j λx=>EC x/\b j λy=>d j λz=>pr x y z Q):=rfl
def Wc[ae j](f:Fl)(m:List (Str×j)):EC `bv=True:=rfl
abbrev oQ(o:Option Tr)(Q:aB):Prop:=match o with |some t=>Q t |none=>False
def Te(t:Tr)(Q:aB):oQ (À t) Q=Q t:=rfl
section
def Tf:iw `aH `aE Q=oQ (cW xs i) Q:=rfl
def gT:iw `aA `aE Q=oQ (cW xs i) Q:=rfl
def Tg(C:Int->Int->Prop)(t:Int->Int->Tr):jF C t `aE `bE Q=(C i j/\Q (t i j)):=rfl
def Th:rN `aE `bE Q=Q (.int<|i+j):=rfl
def JL:rN `bC (.str y) Q=(↑x+↑y<=1000000/\Q (.str<|x++y)):=rfl
def AY:rN `aA (.af g ys) Q=(↑xs+↑ys<=1000000/\Q (.af .o<|xs++ys)):=rfl
def Wd:wD `aE `bE Q=(nh i j/\Q (.int<|i*j)):=rfl
def w_lt:C3 `aE `bE Q=Q (.bl<|decide<|i<j):=rfl
def z'j:C1 `aE `bE Q=Q (.bl<|decide<|j<i):=rfl
def We:wG `aE Q=Q (.int (-i)):=rfl
def Wf:zP [.int i] Q=Q (.int (if i<0 then -i else i)):=rfl
def z'k(R:Bool->Prop):j5 `cd R=R b:=rfl
def Wg:mh Ç `aE `bE Q=Q (.bl<|decide<|i=j):=rfl
def Wh:mh Ç `bC (.str y) Q=Q (.bl<|decide<|x=y):=rfl
def Wi:mh Â `aE `bE Q=Q (.bl (!decide (i=j))):=rfl
def Wj:mh Â `bC (.str y) Q=Q (.bl (!decide (x=y))):=rfl
def Ti(k:Bool):rO k [.af f xs] Q=Q (.int ↑xs):=rfl
def Tj(k:Bool):rO k [.aF xs] Q=Q (.int ↑xs):=rfl
def Tn:zf [.af f xs] Q=Q `aU:=rfl
def oU(R:aA):jd `aA R=R xs:=rfl
def Wl(t:Tr):ub [t] Q=Q t:=rfl
def VB(t u:Tr)(R:Tr->aB):uc [t,u] R=R t u:=rfl
def To(R:Int->Prop):wj [.int i] R=R i:=rfl
end
nonrec abbrev bR:=List (Str×Rat)×Str×Rat×Int×Int
nonrec abbrev av:=List bR
noncomputable instance (priority:=high) rowEnc:ae bR:=#[λr=>.aF [bP .f r.1,.str r.2.1,ae.t r.2.2.1,.int r.2.2.2.1,.int r.2.2.2.2],λr=>by change (Cl (bP .f r.1)&&_)=Â;rw[Ip];rfl,λ_ z=>by cases z]
def VC(r:bR)(Q:aB):iw `dm (.int 0) Q=Q (bP .f r.1):=rfl
def VD(r:bR)(Q:aB):iw `dm (.int 1) Q=Q (.str r.2.1):=rfl
def VE(r:bR)(Q:aB):iw `dm (.int 2) Q=Q (ae.t r.2.2.1):=rfl
def VF(r:bR)(Q:aB):iw `dm (.int 3) Q=Q (.int r.2.2.2.1):=rfl
def VG(r:bR)(Q:aB):iw `dm (.int 4) Q=Q (.int r.2.2.2.2):=rfl
section
abbrev vn(o:Option Tr)(R:aB):Prop:=match o with |some .ak=>False |some t=>R t |none=>False
def VH(j:ag)(i:Nat)(Q:Tr->(Tr->ag)->Prop):i6 K j i [] Q=vn j[i]? λt=>Q t λu=>j.set i u:=by
 unfold i6 vn;cases j[i]? with
 |none=>rfl
 |some t=>cases t <;> first |rfl |show propext #[λh=>h.2,λh=>#[trivial,h]]
def Tp(f:Fl)(xs:ag)(R:aB):vn (À<|.af f xs) R=R `aA:=rfl
def Tq(f:Fl)(xs:bL)(R:aB):vn (À<|.aP f xs) R=R `bm:=rfl
def Sv:oh `aU Q=Q xs:=rfl
def Sw(xs:bL)(Q:bL->Prop):tX `cf Q=Q xs:=rfl
end
section
variable{α:Type}[ae α]
def Gu(xs:List α)(a:α):↥xs++[ae.t a]=(xs++[a]).map ae.t:=by rw[ä];rfl
def Px(xs:aG)(a:Int):↥xs++[Tr.int a]=(xs++[a]).map ae.t:=Gu xs a
def gS(xs:List α)(i:Int):cW ↥xs i=(cW xs i).map ae.t:=by
 unfold cW;rw[Å];cases iM ↑xs i with
 |none=>rfl
 |some n=>show Í ..
def xO(xs:List j)(a:0<=i)(h:i.toNat<↑xs):cW xs i=À (xs[i.toNat]'h):=by
 unfold cW iM;rw[av4 a,av4 ⋯];show Ñ h
def dE[ae j](o:Option j)(Q:aB)(x:j)(h:o=À x)(q:Q `dk):oQ ↥o Q:=by rw[h];show q
def Qj(xs:List α)(l h:bT):jG ↥xs l h=(jG xs l h).map ae.t:=by
 unfold jG;rw[Å,List.map_take,List.map_drop]
def VI(f:Fl)(xs:ag)(l h:bT)(Q:aB):yq `aA l h Q=Q (.af .o<|jG xs l h):=rfl
end
def ML{p:cI}(J:aA)(a:∀N:aA,(∀j,J j->N j)->p { D with nx:=N } j)(b:∀j,J j->D.nx j):p D j:=a D.nx b
section
def bg.ak{i:Nat}(W:bg K k lo us Fb Hb F H G J cs):bg K k lo us Fb Hb F H G (J.set i .ak) (λj=>if j=i then [] else cs j) where
 g:=W.g
 z:=W.z
 l:=by rw[û];show W.l
 e:=λj u h=>by
  by_cases e:j=i
  .subst e;have r:j<↑J:=by have:=(Á.mp h).1;rw[û] at this;show this
   rw[ÿ r] at h;cases h;show .inl rfl
  .rw[î<|λz=>e z.symm] at h;rw[av3 e];show W.e j u h
 c:=λj=>by
  split
  .show .nil
  .show W.c j
 n:=λj=>by
  split
  .show .nil
  .show W.n j
 d:=λa b ne p f q m=>by
  by_cases o:a=i
  .rw[av4 o] at f;cases f
  .rw[av3 o] at f;by_cases eb:b=i
   .rw[av4 eb] at m;cases m
   .rw[av3 eb] at m;show W.d a b ne p f q m
 p:=W.p
 x:=W.x
def bg.fz{i:Nat}(W:bg K k lo us Fb Hb F H G J cs)(ht:J[i]?=À t)(hn:t≠.ak):∃m,bg K k lo us Fb Hb m H G (J.set i<|Pu.aC t) (λj=>if j=i then [] else cs j):=by
 rcases W.e i t ht with rfl |⟨v,w,r⟩
 .show av5 rfl hn
 let#[o,a,s,e]:=(W.ak (i:=i)).lay (W.c i) (W.n i) (r.plain t) (λj p f q A=>by
  by_cases b:j=i
  .rw[av4 b] at f;cases f
  .rw[av3 b] at f;show W.d j i b p f q A)
 show#[o,#[a.g,a.z,by rw[û];show W.l,λj u h=>?_,a.c,a.n,a.d,a.p,a.x]];by_cases b:j=i
 .subst b;have y:j<↑J:=by have:=(Á.mp h).1;rw[û] at this;show this
  rw[ÿ y] at h;cases h;show .inr #[v,w,by rw[av4 rfl];show r.aC (Le.of s) t e]
 .show a.e j u (by rw[î<|λz=>b z.symm] at h ⊢;show h)
abbrev yh(i:Nat)(p:cI):cI:=λD j=>pV j[i]? λt=>p D<|j.set i<|Pu.aC t
def z'l(h:dB K k lo ts p):dB K k lo ts (yh i p):=λus d f F H j G l D a W q L=>by
 unfold yh pV at q;split at q
 .show q.elim
 .rename_i t hn e;let#[b,g]:=W.fz e (λz=>hn<|by rw[z]);show h us d f b H j _ _ D a g q L
 .show q.elim
def CO(i:Nat)(h:QB X k lo sts p):QB X k lo sts (yh i p):=by
 let#[d,a,b]:=h.h;show#[d,a,z'l b]
def VJ(i:Nat)(p:cI)(D:Pd)(j:ag):yh i p D j=(pV j[i]? λt=>p D<|j.set i<|Pu.aC t):=rfl
end
abbrev Np(w:Wm)(m:bL)(pg:fy)(b:cI)(D:Pd)(j:ag):Prop:=∃I:Nat->aA,I 0 j/\(∀i p j,m[i]?=À p->I i j->pg (wit w p) j λa=>b { D with nx:=I<|i+1,ct:=I<|i+1,bk:=D.nx } a)/\∀j,I ↑m j->D.nx j
def Qk(w:Wm)(pe:bh)(pg:fy)(a:cI)(D:Pd)(j:ag):ze w pe pg a D j=(pe `ag λt=>bZ t=Â/\nk (Pu.aC t) λm=>Np w m pg a D j):=rfl
section
variable{α:Type}[ae α](m:List (Str×α)){f:Fl}
def Sx(Q:bL->Prop):nk (bP .f m) Q=Q `ar:=rfl
def US[h:Fp f]:aO `bv=bP f m:=Jt
def UR[h:Fp f]:Pu.aC `bv=bP f m:=Hw
def UQ[h:Fp f]:dn `bv=bP f m:=by
 unfold bP;rw[Z6,JK,MK]
def UT:cZ (bP .f m)=Â:=(nK _<|Ip m).o
def Sy:pV (À<|bP f m) Q=Q `bv:=rfl
def VL(x:Str)(Q:aB):iw `bv `bC Q=oQ ((bO m x).map ae.t) Q:=by
 change (match look `ar `cK with |some t=>Q t |none=>False)=_;rw[BK];cases bO m x<;>rfl
def z'm(x:Str)(Q:aB):sP Ç `bC `bv Q=Q (.bl (bO m x).isSome):=by
 change Q (.bl (look `ar<|Sum.inr x).isSome)=_;rw[BK,ϕ]
end
def a7.filter[ae j](ys:List G)(g:G->Tr)(p:G->Bool)(h:G->j){pg:fy}{pt:dI}{Q:aB}(r:↑ys<=1000000)(step:∀y∈ys,∀(A:Prop)(R:aB),(p y=Â->R (ae.t<|h y))->(p y=Ç->A)->pg (g y) j' λm=>pt m λb=>if b=Â then pe m R else A)(q:Q (.af .o<|((ys.filter p).map h).map ae.t)):a7 `cU pg pt pe j' Q:=by
 show#[λi d=>d=(((ys.take i).filter p).map h).map ae.t,rfl,λi t d e a=>?_,λd a=>?_]
 .rw[Í] at e;cases e':ys[i]? with
  |none=>rw[e'] at e;cases e
  |some y=>
   rw[e'] at e;cases e;have l:=(Á.mp e').1;have n:ys.take (i+1)=ys.take i++[y]:=by rw[ĕ,e'];rfl
   show step y (Ð e') _ _ (λf=>#[?_,?_])<|λf=>?_
   .rw[a,Å,Å];have:=Ł p<|ys.take i;rw[ĭ] at this;omega
   .show d++[ae.t<|h y]=(((ys.take<|i+1).filter p).map h).map ae.t;rw[n,ό,a,am9 f,ä,ä];rfl
   .show d=(((ys.take<|i+1).filter p).map h).map ae.t;rw[n,ό,a,am8 (by rw[f];decide),List.filter_nil,Č]
 .rw[Å,Ġ] at a;rw[a,Å,Å];show#[Ï (Ł p ys) r,q]
section
variable{α:Type}[ae α](m:List (Str×α))(f:Fl)
def LG(x:Str):((m.map 1e1).any λb=>decide<|b.1=Sum.inr x)=m.any λp=>decide (p.1=x):=by
 induction m with
 |nil=>rfl
 |cons p m a=>
  rw[ñ,ϣ,ϣ,a,decide_eq_decide.mpr (show (Sum.inr p.1:aI)=Sum.inr x↔p.1=x from #[λh=>Sum.inr.inj h,λh=>by rw[h]])]
def VM(x:Str)(a:α):kh `ar `cK `bY=(pK m x a).map 1e1:=by
 unfold kh pK;rw[LG];split
 .rw[ù,ù];show Ī λp _=>?_
  change (if (Sum.inr p.1:aI)=Sum.inr x then _ else _)=_;by_cases h:p.1=x
  .rw[av4<|by rw[h]];change _=((Sum.inr (if p.1=x then (p.1,a) else p).1:aI),ae.t (if p.1=x then (p.1,a) else p).2);rw[av4 h]
  .rw[av3<|λz=>h<|Sum.inr.inj z];change _=((Sum.inr (if p.1=x then (p.1,a) else p).1:aI),ae.t (if p.1=x then (p.1,a) else p).2);rw[av3 h]
 .rw[ä];rfl
def SA(x:Str)(Q:aI->Prop):ny `bC Q=Q `cK:=rfl
def SD(x:Int)(Q:aI->Prop):ny (.int x) Q=Q (Sum.inl x):=rfl
end
abbrev CS(t t':Tr):Bool:=ew t t' == À Â
abbrev qj:bL->bL->Bool
 |[],[]=>Â
 |x::xs,y::ys=>decide (x.1=y.1)&&(CS x.2 y.2&&qj xs ys)
 |_,_=>Ç
abbrev ow:bL->Nat
 |[]=>0
 |x::xs=>max (dep x.2)<|ow xs
mutual
noncomputable def gM:Tr->Tr->Bool
 |.int a,.int b=>decide<|a=b
 |.str a,.str b=>decide<|a=b
 |.bl a,.bl b=>decide<|a=b
 |.aN,.aN=>Â
 |.aF xs,.aF ys=>g0 xs ys
 |.af _ xs,.af _ ys=>g0 xs ys
 |.aP _ xs,.aP _ ys=>qj xs ys
 |_,_=>Ç
noncomputable def g0:List Tr->List Tr->Bool
 |[],[]=>Â
 |x::xs,y::ys=>gM x y&&g0 xs ys
 |_,_=>Ç
end
mutual
noncomputable def ki:Tr->Nat
 |.aF a=>dc a + 1
 |.af _ a=>dc a + 1
 |.aP _ a=>ow a + 1
 |_=>0
noncomputable def dc:List Tr->Nat
 |[]=>0
 |x::xs=>max (ki x)<|dc xs
end
section
def z'n{x y:Tr}{xs ys:ag}(e:cB (x::xs) (y::ys)=À Â):ew x y=À Â/\cB xs ys=À Â:=by
 have e:((ew x y).bind λa=>(cB xs ys).bind λb=>À<|a&&b)=À Â:=e;cases h1:ew x y with
 |none=>rw[h1] at e;show nW e
 |some a=>
  cases h2:cB xs ys with
  |none=>rw[h1,h2] at e;show nW e
  |some b=>
   rw[h1,h2] at e;have:=Ø e;rw[å] at this;rw[this.1,this.2];show#[rfl,rfl]
mutual
theorem JG(n:aD F H)(sb:∀k,aD (B k) H):∀(t t':Tr)(v i:V)(c g:Cs),ew t t'=À Â->R K F B t v c->R K F B t' i g->au F H c->au F H g->mn K H (dep t) v i
 |.aF o=>λt' v i c g e r b z j=>by
  ∎;let#[q,rfl,_,m]:=xC e;let#[a,vs,rfl,x,y]:=r.dz n;let#[l,d,rfl,u,w]:=b.dz n;∎;show .inr #[a,l,vs,d,rfl,rfl,.inl #[x,u],gX n sb o q vs d c g (ft o) m y w z j<|Î _]
 |.af f o=>λt' v i c g e r b z j=>by
  ∎;let#[G,q,rfl,m]:=xD e;let#[a,vs,C,rfl,x,y,E,_]:=r.cE n sb z;let#[l,d,s,rfl,u,w,D,_]:=b.cE n sb j;∎;by_cases A:↑o=↑q
  .rw[av4 A] at m;show .inr #[a,l,vs,d,rfl,rfl,.inr #[x,u],gX n sb o q vs d C s (ft o) m y w E D<|Î _]
  .rw[av3 A] at m;cases m
 |.int a=>λt' v i c g e r b _ _=>by
  let#[l,rfl,h]:=AN e;have:=av8 h.symm;subst this;rw[r.1,b.1];show#[rfl,rfl]
 |.str a=>λt' v i c g e r b _ _=>by
  let#[l,rfl,h]:=AO e;have:=av8 h.symm;subst this;rw[r.1,b.1];show#[rfl,rfl]
 |.bl a=>λt' v i c g e r b _ _=>by
  let#[l,rfl,h]:=Bt e;have:=av8 h.symm;subst this;rw[r.1,b.1];show#[rfl,rfl]
 |.aN=>λt' v i c g e r b _ _=>by
  let#[rfl,_]:=AQ e;rw[r.1,b.1];show#[rfl,rfl]
 |.ak |.ty _ |.cl _ |.exc _ _ |.aP _ _ |.ins _ _ _=>λt' v i c g e _ _ _ _=>(AS e ô).elim
theorem gX(j:aD F H)(sb:∀k,aD (B k) H):∀(i a:List Tr)(vs b:List V)(c f:Cs)(n:Nat),cB i a=À Â->Rs K F B i vs c->Rs K F B a b f->au F H c->au F H f->ft i<=n->eI (mn K H n) vs b
 |[]=>λa vs b c f n e r h _ _ _=>by
  cases a with
  |nil=>rw[r.1,h.1];show ô
  |cons _ _=>cases e
 |x::xs=>λa vs b c f n e r h g d hn=>by
  cases a with
  |nil=>cases e
  |cons y N=>
   ∎;let#[v,q,l,o,E,G,I,J]:=r;let#[M,L,m,s,z,A,C,D]:=h;∎;rw[G] at g;rw[A] at d;rw[E,z];let#[u,w]:=z'n e;unfold ft at hn;show#[Ha (JG j sb x y v M l m u I C g.left d.left) ⋯,gX j sb xs N q L o s n w J D g.right d.right ⋯]
end
def Iq(C:aD F H)(sb:∀k,aD (B k) H):∀(f a:bL)(vs b:b9)(c g:Cs)(n:Nat),qj f a=Â->Rk K F B f vs c->Rk K F B a b g->au F H c->au F H g->ow f<=n->(f.map (·.1)).Nodup->ug K H n vs b/\vs.map (·.1)=f.map (·.1)/\b.map (·.1)=f.map (·.1)
 |[]=>λa vs b c g n e r j _ _ _ _=>by
  cases a with
  |nil=>rw[r.1,j.1];show#[#[rfl,λ_ _ m=>nomatch m],rfl,rfl]
  |cons _ _=>cases e
 |(k,x)::xs=>λa vs b c g n e r j i d hn hd=>by
  cases a with
  |nil=>cases e
  |cons y ys=>
   ∎;let#[l,y]:=y;let#[v,q,E,I,U,Y,h3,h4]:=r;let#[D,q',G,J,M,N,O,Q]:=j;∎;rw[Y] at i;rw[N] at d;unfold qj at e;rw[å,å,decide_eq_true_eq] at e;let#[o,s,L]:=e;dsimp only at o s;subst o;unfold ow at hn;dsimp only at hn;∎;let#[n1,n2]:=č.mp (show (k::xs.map (·.1)).Nodup from hd);let#[#[i1,i2],w,i4]:=Iq C sb xs ys q q' I J n L h4 Q i.right d.right ⋯ n2;∎;have t:=Ha (JG C sb x y v D E G (eq_of_beq s) h3 O i.left d.left) (show dep x<=n by omega);subst U;subst M;show#[#[by rw[Ö,Ö,i1],λA u m=>?_],by rw[ñ,ñ,w],by rw[ñ,ñ,i4]];rcases ã.mp m with m |m
   .cases m;show#[D,?_,t];simp[gs]
   .obtain⟨z,z1,z2⟩:=i2 A u m;show#[z,?_,z2];have ne:¬ k=A:=λh=>n1 (by rw[<- w,h];show æ.mpr #[_,m,rfl])
    simp only[gs] at z1 ⊢;rw[aa4<|by simpa using ne];show z1
section
variable{t':Tr}
def pH{P:Prop}(e:Ç=Â):P:=nomatch e
def Ir{xs:ag}(e:gM `aH t'=Â):∃ys,t'=.aF ys/\g0 xs ys=Â:=by
 cases t' with
 |aF ys=>show#[ys,rfl,e]
 |_=>show pH e
def Iu{f:Fl}{xs:ag}(e:gM `aA t'=Â):∃g ys,t'=.af g ys/\g0 xs ys=Â:=by
 cases t' with
 |af g ys=>show#[g,ys,rfl,e]
 |_=>show pH e
def Xl{f:Fl}{xs:bL}(e:gM `bm t'=Â):∃g ys,t'=.aP g ys/\qj xs ys=Â:=by
 cases t' with
 |aP g ys=>show#[g,ys,rfl,e]
 |_=>show pH e
def Xm{a:Int}(e:gM (.int a) t'=Â):t'=.int a:=by
 cases t' with
 |int b=>rw[av8 e]
 |_=>show pH e
def Xn{a:Str}(e:gM `ev t'=Â):t'=.str a:=by
 cases t' with
 |str b=>rw[av8 e]
 |_=>show pH e
def z'o{a:Bool}(e:gM (.bl a) t'=Â):t'=.bl a:=by
 cases t' with
 |bl b=>rw[av8 e]
 |_=>show pH e
def Xo(e:gM .aN t'=Â):t'=.aN:=by
 cases t' with
 |aN=>rfl
 |_=>show pH e
def Xq{t:Tr}(e:gM t t'=Â)(h:pJ t)(n:∀f xs,t≠.aP f xs):False:=by
 have:gM t t'=Ç:=by
  cases t with
  |ak |ty |cl |exc |ins=>cases t'<;>rfl
  |aP f xs=>show av5 rfl<|n f xs
  |_=>show h.elim
 rw[this] at e;show pH e
end
mutual
theorem z'p(j:aD F H)(sb:∀k,aD (B k) H):∀(t t':Tr)(v i:V)(c g:Cs),gM t t'=Â->R K F B t v c->R K F B t' i g->au F H c->au F H g->mY K H (ki t) v i
 |.aF l=>λt' v i c g e r b x h=>by
  ∎;let#[y,rfl,o]:=Ir e;let#[a,vs,rfl,u,w]:=r.dz j;let#[n,d,rfl,q,s]:=b.dz j;∎;show .inr #[a,n,rfl,rfl,.inl #[vs,d,.inl #[u,q],eZ j sb l y vs d c g (dc l) o w s x h<|Î _]]
 |.af f l=>λt' v i c g e r b x h=>by
  ∎;let#[D,y,rfl,o]:=Iu e;let#[a,vs,z,rfl,u,w,C,_]:=r.cE j sb x;let#[n,d,m,rfl,q,s,A,_]:=b.cE j sb h;∎;show .inr #[a,n,rfl,rfl,.inl #[vs,d,.inr #[u,q],eZ j sb l y vs d z m (dc l) o w s C A<|Î _]]
 |.aP f l=>λt' v i c g e r b x h=>by
  let#[D,y,rfl,o]:=Xl e;have nd:=r.uA;∎;let#[a,vs,z,rfl,u,w,C,_]:=r.fV j sb x;let#[n,d,m,rfl,q,s,A,_]:=b.fV j sb h;∎;show .inr #[a,n,rfl,rfl,.inr #[vs,d,u,q,(Iq j sb l y vs d z m (ow l) o w s C A (Î _) nd).1]]
 |.int a=>λt' v i c g e r b _ _=>by rw[Xm e] at b;rw[r.1,b.1];show#[rfl,rfl]
 |.str a=>λt' v i c g e r b _ _=>by rw[Xn e] at b;rw[r.1,b.1];show#[rfl,rfl]
 |.bl a=>λt' v i c g e r b _ _=>by rw[z'o e] at b;rw[r.1,b.1];show#[rfl,rfl]
 |.aN=>λt' v i c g e r b _ _=>by rw[Xo e] at b;rw[r.1,b.1];show#[rfl,rfl]
 |.ak |.ty _ |.cl _ |.exc _ _ |.ins _ _ _=>λt' v i c g e _ _ _ _=>(Xq e ô nofun).elim
theorem eZ(j:aD F H)(sb:∀k,aD (B k) H):∀(i a:List Tr)(vs b:List V)(c f:Cs)(n:Nat),g0 i a=Â->Rs K F B i vs c->Rs K F B a b f->au F H c->au F H f->dc i<=n->eI `eD vs b
 |[]=>λa vs b c f n e r h _ _ _=>by
  cases a with
  |nil=>rw[r.1,h.1];show ô
  |cons _ _=>cases e
 |x::xs=>λa vs b c f n e r h g d hn=>by
  cases a with
  |nil=>cases e
  |cons y L=>
   ∎;let#[v,q,l,o,C,D,E,G]:=r;let#[J,I,m,s,u,w,z,A]:=h;∎;rw[D] at g;rw[w] at d;rw[C,u];unfold g0 at e;rw[å] at e;unfold dc at hn;show#[Uz (z'p j sb x y v J l m e.1 E z g.left d.left) ⋯,eZ j sb xs L q I o s n e.2 G A g.right d.right ⋯]
end
def Xr(d:aD F H)(sb:∀k,aD (B k) H)(e:gM t t'=Â)(hd:ki t<=40)(hs:(∃xs,t=.aF xs)\/∃f xs,t=.af f xs)(r:R K F B t v c)(s:R K F B t' v' c')(o:au F H c)(g:au F H c'){Q:VK}(q:Q `br H):FA K v v' H Q:=by
 rcases hs with⟨xs,rfl⟩ |⟨f,xs,rfl⟩
 .obtain⟨ys,rfl,e1⟩:=Ir e;unfold ki at hd;∎;let#[a,vs,rfl,m,n]:=r.dz d;let#[h,b,rfl,j,l]:=s.dz d;∎;show#[dc xs,a,h,vs,b,⋯,rfl,rfl,.inl #[m,j],eZ d sb xs ys vs b c c' (dc xs) e1 n l o g<|Î _,q]
 .obtain⟨f',ys,rfl,e1⟩:=Iu e;unfold ki at hd;∎;let#[a,vs,u,rfl,m,n,x,_]:=r.cE d sb o;let#[h,b,i,rfl,j,l,w,_]:=s.cE d sb g;∎;show#[dc xs,a,h,vs,b,⋯,rfl,rfl,.inr #[m,j],eZ d sb xs ys vs b u i (dc xs) e1 n l x w<|Î _,q]
end
abbrev E9(K:aq):R2:=λx y H Q=>zt K x y H Q\/FF K x y H Q
section
def LH(a:X.A.units+64<ģ):cG X `cb (E9 X.K):=(jj a).or<|Y0 a
end
abbrev NH(neg:Bool)(x y:Tr)(Q:aB):Prop:=mh neg x y Q\/(gM x y=Â/\ki x<=40/\((∃a,x=.aF a)\/∃f a,x=.af f a)/\Q (.bl (!neg)))
def Xs:fk K k (E9 K) (NH Â):=λF B H x y o ty j l Q i s b z g h a f hd p q=>by
 rcases p with p |⟨e,d,n,p⟩
 .show .inl (ja (k:=k) F B H x y o ty j l Q i s b z g h a f hd p q)
 .show .inr (Xr (Q:=λ_ _=>Q (.bl Ç) H) s b e d n g h a f (q _ _ F H [] p (Gr.aR s) ⟨rfl,rfl⟩ .nil λ_ m=>nomatch m))
class Sm(α:Type)[ae α](n:outParam Nat):Prop where
 sm:∀x:α,gM `dk `dk=Â
 dp:∀x:α,ki `dk<=n
def Hz[ae j][Sm j n]:∀xs:List j,g0 ↥xs ↥xs=Â
 |[]=>rfl
 |x::xs=>by change (gM _ _&&g0 ↥xs ↥xs)=Â;rw[Sm.sm x,Hz xs];rfl
def GW[ae j][Sm j n]:∀xs:List j,dc ↥xs<=n
 |[]=>Ĺ _
 |x::xs=>by change max (ki _) (dc ↥xs) <= n;have:=Sm.dp x;have:=GW xs;omega
instance:Sm Int 0:=#[λ_=>av6 rfl,λ_=>Ĺ _]
instance:Sm Str 0:=#[λ_=>av6 rfl,λ_=>Ĺ _]
instance:Sm Bool 0:=#[λ_=>av6 rfl,λ_=>Ĺ _]
def z'q(q:Rat):CS `ey `ey=Â:=by change (À (decide _&&(decide _&&Â)) == À Â)=Â;rw[av6 rfl,av6 rfl];rfl
instance:Sm Rat 1:=#[λq=>by change (decide _&&(decide _&&Â))=Â;rw[av6 rfl,av6 rfl];rfl,λq=>Î 1]
def HB:∀m:List (Str×Rat),qj `ar `ar=Â
 |[]=>rfl
 |p::m=>by
  change (decide _&&(CS (ae.t p.2) (ae.t p.2)&&qj `ar `ar))=Â;rw[av6 rfl,z'q,HB m];rfl
def HC:∀m:List (Str×Rat),ow `ar<=1
 |[]=>Ĺ _
 |p::m=>by change max 1 (ow<|m.map 1e1) <= 1;have:=HC m;omega
def z'r(f g:Fl)(m:List (Str×Rat)):gM `bv (bP g m)=Â:=HB m
def Xt(f:Fl)(m:List (Str×Rat)):ki `bv<=2:=by have:=HC m;change ow `ar+1<=2;omega
instance:Sm bR 3:=#[λr=>by
 change (gM (bP .f r.1) (bP .f r.1)&&(decide _&&(gM (ae.t r.2.2.1) (ae.t r.2.2.1)&&(decide _&&(decide _&&Â)))))=Â;rw[z'r,Sm.sm r.2.2.1,av6 rfl,av6 rfl,av6 rfl];rfl,λr=>by
 have:=Xt .f r.1;have:=Sm.dp r.2.2.1;change max (ki<|bP .f r.1) (max 0<|max (ki<|ae.t r.2.2.1)<|max 0<|max 0 0)+1<=3;omega]
instance:Sm (Int ⊕ Str) 0:=#[λx=>by cases x<;>show av6 rfl,λx=>by cases x<;>show Ĺ _]
instance {j i:Type} [ae j] [ae i] {n m:Nat} [Sm j n] [Sm i m]:Sm (j×i) (n+m+1):=#[λp=>by
 change (gM (ae.t p.1) (ae.t p.1)&&(gM (ae.t p.2) (ae.t p.2)&&Â))=Â;rw[Sm.sm p.1,Sm.sm p.2];rfl,λp=>by
 have:=Sm.dp p.1;have:=Sm.dp p.2;change max (ki<|ae.t p.1) (max (ki<|ae.t p.2) 0)+1<=n+m+1;omega]
abbrev ju(b a:Str):Bool:=!(Builtin.Str.occurrences b a 0 ↑b 1).isEmpty
def oR(hm:X.mg x=Æ)(a:do Gl X x)(b:do ŏ x=À (.type n))(hn: ~~~(x≠"__name__"))(hd: ~~~(dY x)):QE X k `aq (pC<|.ty n):=#[_,WT (v:=.ty n) a hm b rfl hn hd,sA λ_ _=>#[rfl,rfl]]
end Pu
namespace L2
open PySem PySem.Spec PyProof.Rows
nonrec abbrev sQ(X:Cx)(o:ě)(m:Str)(b:b5)(a pos:Pos)(pl:Sem Bool):Prop:=eval (.Call (.Attribute o m a) b [] pos) X.env=(do
   let ov <- eval o X.env
   ag2 a.atName
   let (f,first) <- holding [ov] (getMethod ov m pl)
   callWith pos f first (Ϗ pos<|ē b X.env) (aj4 pos<|aa9 [] X.env))
abbrev ue(D:ai->Nat->Prop)(m:Str)(sp:Nat->Sp)(R:St->XK)(f:TE)(t:TA):TE:=λj H Q=>f j H λx b=>∃a C e fs g,x=.ref a/\Rd b a (.ins C e fs)/\D C g/\fs.lookup m=Æ/\t j b λvs d=>sp g (x::vs) d Q<|R j
section
def JH(L:PE X o ta)(E:∀C g,D C g->gp X.prog X.w X.K X.mg X.base CX k m C ps (sp g))(M:bD k X.A)(N:∀j,kg CX X j<|R j)(G:PA X (e::es) t)(v:do fA e es X.env)(n:do gq pos es X.env)(ht:do sQ X o m (e::es) apos pos pl):
  PE X (.Call `aV (e::es) [] pos) (ue D m sp R ta t):=by
 intro aa s j H Q I h;show al0 (pl:=pl) (bu `es λu s1 b=>?_) ht;let#[x,z,i,rx,a,C,dx,fs,g,ex,B,d,l,q]:=b;subst ex;obtain rfl:u=Ý a:=rx;∎;let#[c,f,fd,hm,F,J]:=E C g d;let#[U,O,r]:=Bo i.aS B;∎;have hn:U m=Æ:=cq.none_of (by rw[<- l];show r m);show Hm i.dh O (c.get m) hm.at_ hm.fn hn ?_;show ac8 (first:=[.ref a]) (h₀:=X.base) I.ok.mod.nU hm.kp (bu (G pos aa s1 j z _ i q) λus s2 b=>?_) v n;let#[vs,H2,y,rv,Y]:=b;show#[y.dh,?_];show AJ (us:=.ref a::us) (vs:=.ref a::vs) F M J .nil (N j) y (.cons rfl rv) (by rw[Č];show Y)
def Xu(y:PE X o ta)(n:∀C g,D C g->gp X.prog X.w X.K X.mg X.base CX k m C ps (sp g))(z:bD k X.A)(B:∀j,kg CX X j<|R j)(ht:do sQ X o m [] apos pos pl):
  PE X (.Call `aV [] [] pos) (ue D m sp R ta nr):=by
 intro aa s j H Q I h;show al0 (pl:=pl) (bu (y aa s j H _ I h) λu N e=>?_) ht;let#[x,J,b,G,a,C,L,fs,g,ex,i,d,l,q]:=e;subst ex;obtain rfl:u=Ý a:=G;∎;let#[c,f,M,hm,F,v]:=n C g d;let#[E,O,r]:=Bo b.aS i;∎;have hn:E m=Æ:=cq.none_of (by rw[<- l];show r m);show Hm b.dh O (c.get m) hm.at_ hm.fn hn ?_;show W.callWith_K0 (first:=[.ref a]) b.dh hm.kp (AJ (us:=[.ref a]) (vs:=[.ref a]) F z v .nil (B j) b (.cons rfl .nil) (by rw[Č];show q))
def x6(h:qa CX X E):∀j,kg CX X j E:=λj aa H s e a I c=>h aa j H s e a I c
end
end L2
namespace Pu
open PySem L2 Vc Sf
section
def JI:∀(a:ag)(i:Nat),(cV a)[i]?=a[i]?.map dn
 |[],_=>rfl
 |_::_,0=>rfl
 |_::xs,i + 1=>JI xs i
def AA{bf:iQ}{E:XK}{q':Xv->Prop}{A:Tr->aA}{Q:VK}(hk:z=Â->Fz S0 F)(hn:(cV ts).length=n)(G:∀k,aD (B k) H)(b:fH K F B H F1 H1 ts vs c1)(hE:∀x j l,q' x->∀d,XF K j d x.f->Gr F H j l->E x.c d l)(p1:bf (cV ts) A q')(C:∀j l D g' w v t c,Gr F H j l->(∀c,dH (c9 (c1.map (·.1)) H1) c->dH H c)->bg K #[z,λ_=>E,q'] lo vs F1 (c9 (c1.map (·.1)) H1) j l D g' w->R K j (λ_=>c9 (c1.map (·.1)) H1) t v c->au j l c->dH H c->(∀i,∀p∈w i,∀q∈c,p.1≠q.1)->cZ t=Â->A t g'->Q v l):jY K z lo n bf vs H1 Q E:=by
 let#[cs,L,M,N,O]:=b.r.split b.c;have hl:↑vs=n:=by rw[b.r.length,<- hn,oA]
 have hb:∀k,aD (B k) (c9 (c1.map (·.1)) H1):=λk a o e=>rY (xx b.n<|G k a o e)<|b.g.h _ _<|G k a o e
 have J:∀c,dH (c9 (c1.map (·.1)) H1) c->dH H c:=λc n p m=>by
  have z:=n p m;by_cases I:p.1∈c1.map (·.1)
  .obtain⟨q,mq,e⟩:=æ.mp I;have e:q.1=p.1:=e;rw[<- e];show b.n q mq
  .unfold c9 at z;rw[av3 I] at z;show b.g.h.free z
 show#[hl,F1,c9 (c1.map (·.1)) H1,cV ts,cs,_,q',#[#[Bn b.g.s,Fz.refl F1],λh=>b.g.fz<|hk h,by rw[Å,oA,b.r.length],?_,N,λi p m=>Ad<|M i p m,O,λi _=>by rw[Í],λx _ j l h d y g=>hE x j l h d y<|b.g.c9 b.n g],p1,?_]
 .intro i t h;rw[JI] at h;cases z:ts[i]? with
  |none=>rw[z] at h;cases h
  |some u=>
   rw[z] at h;cases h;let#[v,U,Y]:=L i u z;show .inr #[v,by rw[Í,U];rfl,Y.dn (λk=>Le.of<|hb k) u]
 .intro j l D g' w v t c' W r hc n dj nl qt;show C j l D g' w v t c' (b.g.c9 b.n W.g) J W r hc (J _ n) dj nl qt
def SE{bf:iQ}{E:XK}{q':Xv->Prop}{e:aB}{Q:VK}(l:z=Â->Fz S0 F)(hn:(cV ts).length=n)(h:∀k,aD (B k) H)(o:fH K F B H F1 H1 ts vs c1)(i:∀x b a,q' x->∀d,XF K b d x.f->Gr F H b a->E x.c d a)(p1:bf (cV ts) (λt _=>e t) q')(q:∀t v b a cs,e t->Out K F B H b a t v cs->Q v a):jY K z 0 n bf vs H1 Q E:=
 AA l hn h o i p1 λb a _ _ _ v t c g _ _ r j n _ m s=>q t v b a c s #[g,r.base t m,j,n]
def fH.cons{b f:Hp}{t:Tr}{v:V}{c:Cs}{i:ag}{vs:ay}{d:Cs}(o:Out K F B H F1 H1 t v c)(a:fH K F1 B H1 b f i vs d):fH K F B H b f (t::i) (v::vs) (c++d) where
 g:=o.g.trans' a.g
 r:=#[v,vs,c,d,rfl,rfl,o.r.mo a.g.le (λ_=>Le.refl _) t,a.r]
 c:=(o.c.gr a.g).app a.c λp j q l e=>by
  have:=o.c.h p j;rw[e,a.n q l] at this;cases this
 n:=λp m=>(Ê.mp m).elim (o.n p) λm=>o.g.h.free<|a.n p m
abbrev jg(D:ai->Nat->Prop)(m:Str)(x:Tr)(Q:Nat->Prop):Prop:=match x with |.ins _ c fs=>∃g,D c g/\fs.lookup m=Æ/\Q g |_=>False
def Iv{D:ai->Nat->Prop}{Q:Nat->Prop}(h:jg D m x Q):∃f c fs g,x=.ins f c fs/\D c g/\fs.lookup m=Æ/\Q g:=by
 unfold jg at h;split at h
 .obtain⟨g,h⟩:=h;show#[_,_,_,g,rfl,h]
 .show h.elim
abbrev Nq(q:Xv->Prop)(D:ai->Nat->Prop)(m:Str)(bf:Nat->iQ)(po:bh)(a:cQ):bh:=λj Q=>po j λx=>jg D m x λc=>a j λb=>bf c (cV (x::b)) (λt _=>Q t) q
abbrev wN(D:ai->Nat->Prop)(m:Str)(bf:Nat->gR)(po:bh)(a:cQ):bh:=λj Q=>po j λx=>jg D m x λc=>a j λb=>bf c (cV (x::b))<|λt _=>Q t
def Rf.none_of:∀{fs:bq}{vs:List (Str×V)}{a:Cs}{f:Str},Rf K F B fs vs a->fs.lookup f=Æ->vs.lookup f=Æ
 |[],_,_,_,y,_=>by let#[h,_]:=y;rw[h];rfl
 |(g,y)::fs,_,_,f,y0,h=>by
  let#[v,r,c,d,b,j,l,i]:=y0;rw[b];rw[Ċ] at h ⊢;cases e:f == g with
  |true=>rw[e] at h;cases h
  |false=>rw[e] at h;show Rf.none_of i h
def Ui{bf:Nat->iQ}{R':St->XK}{q':Xv->Prop}(J:∀(F:Hp)(B:Bool->Hp)(H:Hp)(j:St)(i:ag),gC K k F B H j i->∀x l o,q' x->∀d,XF K l d x.f->Gr F H l o->R' j x.c d o)(M:z=Â->k.z=Â)(hn:∀C xs Q q,bf C xs Q q->↑xs=n)(h:bE K k te po)(L:gj K k ta pa):bE K k (ue D m (λC=>jY K z 0 n<|bf C) R' te ta) (Nq q' D m bf po pa):=λF B H j i Q Q' c p q=>by
 show h F B H j i _ _ c p λx v w y c1 p1 e=>?_
 ∎;let#[f,C,fs,g,rfl,I,N,p1]:=Iv p1;let#[a,A,vs,ds,rfl,E,G,_]:=e.r.qP e.g.s (λk=>(c.b k).trans e.g.h) e.c;∎;show#[a,C,A,vs,g,rfl,E,I,G.none_of N,L w B y j i _ _ (c.gr e.g) p1 λts us Y H2 c2 p2 U=>?_];show SE (λh=>c.z<|M h) (hn _ _ _ _ p2) c.b (fH.cons e U) (λu l o O g=>J F B H j i c u l o O g) p2 q
def Iw{bf:Nat->gR}(b:z=Â->k.z=Â)(hn:∀C xs Q,bf C xs Q->↑xs=n)(h:bE K k te po)(a:gj K k ta pa):bE K k (ue D m (λC=>bU K z 0 n<|bf C) (λ_=>E) te ta) (wN D m bf po pa):=
 Ui (R':=λ_=>E) (q':=λ_=>False) (bf:=λC xs Q _=>bf C xs Q) (λ_ _ _ _ _ _ _ _ _ h=>h.elim) b (λC xs Q _=>hn C xs Q) h a
abbrev rK(o:Option Tr)(Q:aB):Prop:=match o with |some (.ins f c fs)=>cZ `aK=Â/\Q `aK |_=>False
def Xw{Q:aB}(h:rK o Q):∃f c fs,o=À `aK/\cZ `aK=Â/\Q `aK:=by
 unfold rK at h;split at h
 .show#[_,_,_,rfl,h]
 .show h.elim
abbrev Ni(q:Xv->Prop)(C:ai)(bf:iQ)(b:cQ):bh:=λj Q=>b j λd=>bf (cV (.ins .o C []::d)) (λt a=>t=.aN/\rK a[0]? Q) q
abbrev zh(C:ai)(bf:gR)(b:cQ):bh:=λj Q=>b j λd=>bf (cV (.ins .o C []::d)) λt a=>t=.aN/\rK a[0]? Q
def Xx(a:fH K F B H F1 H1 ts vs c1)(f:H1 x=Æ)(hd:H1 dx=Æ)(ne:dx≠x):∃b,fH K F B H b (aU (aU H1 dx<|.own x) x<|.ins C dx []) (.ins .o C []::ts) (.ref x::vs) ((x,.ins C dx [])::c1):=by
 let#[b,e,_]:=rP (o:=.own x) a.g.s (by intro _ _ z;cases z) hd;have d:aU H1 dx `da x=Æ:=by rw[ba<|đ ne];show f
 have i:Gr b (aU H1 dx<|.own x) b (aU (aU H1 dx<|.own x) x<|.ins C dx []):=Gr.l7 e.s d;have g:=e.trans' i;show#[b,a.g.trans' g,#[.ref x,vs,[(x,.ins C dx [])],c1,rfl,rfl,#[x,dx,[],[],rfl,rfl,rfl,rfl],a.r.mo g.le (λ_=>Le.refl _) ts],uv e.s (a.c.gr e) d,λp m=>?_];cases m with
 |head=>show a.g.h.free f
 |tail _ m=>show a.n p m
def SF{bf:iQ}{R':St->XK}{q':Xv->Prop}(G:∀(F:Hp)(B:Bool->Hp)(H:Hp)(j:St)(i:ag),gC K k F B H j i->∀x a l,q' x->∀d,XF K a d x.f->Gr F H a l->R' j x.c d l)(J:z=Â->k.z=Â)(hn:∀xs Q q,bf xs Q q->↑xs=n)(I:gj K k ta pa):bE K k (yN C (jY K z 1 n bf) [] R' ta) (Ni q' C bf pa):=λF B H j i Q Q' c p q=>by
 show I F B H j i _ _ c p λts vs Y H1 c1 p1 O x dx M hd ne=>?_
 rw[Č];let#[F2,U]:=Xx (C:=C) O M hd ne;show AA (λh=>c.z<|J h) (hn _ _ _ p1) c.b U (λm a l L g=>G F B H j i c m a l L g) p1 λa l j' i' o v t c' g N W r hc n dj nl s=>?_
 ∎;let#[rfl,s]:=s;let#[f,c,fs,w,y,A]:=Xw s;∎;show#[r.1,?_];rcases W.e 0 _ w with z |⟨u,D,E⟩
 .cases z
 .have:=W.p 0 Nat.zero_lt_one;rw[D] at this;cases this;show q _ _ a l (o 0) A #[g,E.base _ y,W.c 0,N _<|W.n 0]
def Uj{bf:gR}(b:z=Â->k.z=Â)(hn:∀xs Q,bf xs Q->↑xs=n)(a:gj K k ta pa):bE K k (yN C (bU K z 1 n bf) [] (λ_=>E) ta) (zh C bf pa):=
 SF (R':=λ_=>E) (q':=λ_=>False) (bf:=λxs Q _=>bf xs Q) (λ_ _ _ _ _ _ _ _ _ h=>h.elim) b (λxs Q _=>hn xs Q) a
end
section
def fq{D:ai->Nat->Prop}{bf:Nat->gR}(q:∀C g,D C g->gp X.prog X.w X.K X.mg X.base bM kj m C ps (bU X.K z 0 n<|bf g))(v:QE X k o po)(r:QA X k (e::es) pa)(x:bD km X.A:=by assumption)(s:kj<=km:=by first |decide |omega)(u:z=Â->k.z=Â:=by first |show id |show λ_=>rfl)(hn:∀C xs Q,bf C xs Q->↑xs=n:=by show λ_ _ _ h=>h.1)(b:do fA e es X.env)(a:do gq pos es X.env)(ht:do sQ X o m (e::es) apos pos pl):QE X k (.Call `aV (e::es) [] pos) (wN D m bf po<|oi pa):=by
 ∎;let#[B,j,l]:=v.h;let#[y,f,i]:=r.aC.h;∎;show#[_,JH (R:=λ_=>E0) j (λC g d=>(q C g d).mono s) x (x6 uU) f b a ht,Iw u hn l i]
def BL{D:ai->Nat->Prop}{bf:Nat->gR}(e:∀C g,D C g->gp X.prog X.w X.K X.mg X.base bM kj m C ps (bU X.K z 0 n<|bf g))(j:QE X k o po)(l:bD km X.A:=by assumption)(f:kj<=km:=by first |decide |omega)(i:z=Â->k.z=Â:=by first |show id |show λ_=>rfl)(hn:∀C xs Q,bf C xs Q->↑xs=n:=by show λ_ _ _ h=>h.1)(ht:do sQ X o m [] apos pos pl):QE X k (.Call `aV [] [] pos) (wN D m bf po wC):=by
 let#[q,a,b]:=j.h;show#[_,Xu (R:=λ_=>E0) a (λC g d=>(e C g d).mono f) l (x6 uU) ht,Iw i hn b HZ]
end
nonrec abbrev m4:=ag->(Tr->aA)->Prop
structure mZ(K:PySem.W.Frag)(k:Md)(lo:Nat)(us:ay)(Fb Hb F F' H':Hp)(j:St)(G:ag)(cs:Nat->Cs)(t:Tr)(v:V)(e:Cs):Prop where
 l:Le F F'
 W:bg K k lo us Fb Hb F' H' j G cs
 r:R K F' (λ_=>Hb) t v e
 c:au F' H' e
 n:dH Hb e
 d:∀i,∀p∈cs i,∀q∈e,p.1≠q.1
abbrev rL(K:aq)(k:Md)(lo:Nat)(m:TE)(pl:m4):Prop:=∀(us:ay)(b e F H:Hp)(j:St)(i:ag)(l:Nat->Cs)(Q:VK)(f:Tr->aA),bg K k lo us b e F H j i l->pl i f->
 (∀t v h d g a c,mZ K k lo us b e F h d j g a t v c->f t g->Q v d)->m j H Q
section
def mZ.held{t:Tr}{v:V}{c:Cs}(o:mZ K k lo us Fb Hb F F' H' j i cs t v c):∃a,Le F a/\bg K k lo us Fb Hb a H' j i cs/\R K a (λ_=>Hb) `bu v []:=by
 let#[a,e,b,f]:=o.W.lay o.c o.n `ch o.d;show#[a,o.l.trans<|Le.of b,e,o.r.aC (Le.of b) t f]
abbrev yT(i:Nat)(pl:m4):cI:=λD j=>pl j λt a=>D.nx<|a.set i<|aC t
def SG(n:lo<=i)(h:rL K k lo te pl):dB K k lo (nB te<|kG i) (yT i pl):=λus b e F H j G g D q W p L=>by
 show h us b e F H j G g _ _ W p λt v r d s l u o p1=>?_
 let#[a,w,f,r2]:=o.held;show L.nx a d _ _ _ (f.set n r2 .nil .nil λ_ _ _ _ _ m=>nomatch m) p1
abbrev yU(pl:m4):cI:=λD j=>pl j λ_ j1=>D.nx j1
def SH(h:rL K k lo te pl):dB K k lo (tO te) (yU pl):=λus b e F H j i f D l W p L=>
 h us b e F H j i f _ _ W p λt v a d n g m o p1=>L.nx a d _ _ _ o.W p1
abbrev zi(pl:m4):cI:=λD j=>pl j λt a=>cZ t=Â/\D.rt t a
def Uk(h:rL K k lo te pl):dB K k lo (zx te) (zi pl):=λus e g F H j i m D s W p L=>
 h us e g F H j i m _ _ W p λt v b f q a l o p1=>L.rt b f j q a v t l o.W o.r o.c o.n o.d p1.1 p1.2
end
section
abbrev HA(K:aq)(F Hb:Hp)(j:St)(G:ag):bC->ag->ay->Prop
 |[],ts,vs=>ts=[] /\ vs=[]
 |none::hs,ts,vs=>∃t v a b,ts=t::a /\ vs=v::b /\ R K F (λ_=>Hb) t v [] /\ HA K F Hb j G hs a b
 |some i::hs,ts,vs=>∃t v a b,ts=t::a /\ vs=v::b /\ G[i]? = À t /\ t ≠ .ak /\ j[i]? = À (À v) /\ HA K F Hb j G hs a b
abbrev uf(K:aq)(k:Md)(lo:Nat)(hs:bC)(m:TA)(l:cQ):Prop:=∀(us:ay)(d b F H:Hp)(j:St)(i:ag)(g:Nat->Cs)(Q:ay->Hp->Prop)(f:aA),bg K k lo us d b F H j i g->l i f->
 (∀h vs a e,Le F a->bg K k lo us d b a e j i g->HA K a b j i hs h vs->f h->Q vs e)->m j H Q
abbrev Cz:cQ:=λ_ Q=>Q []
abbrev CA(pe:bh)(a:cQ):cQ:=λj Q=>pe `ag λt=>bZ t=Â/\a j λb=>Q (Pu.aC t::b)
def Ul:uf K k lo [] nr Cz:=λus a b F H j i e Q d W p q=>q [] [] F H `bo W #[rfl,rfl] p
def x8{Q:aB}(h:pV o Q):∃t,o=À t/\t≠.ak/\Q t:=by
 unfold pV at h;split at h
 .show h.elim
 .rename_i t hn;show#[t,rfl,λz=>hn (by rw[z]),h]
 .show h.elim
def z's(x:bE K k te pe)(h:uf K k lo hs ta ph):uf K k lo (Æ::hs) (ng te ta) (CA pe ph):=λus m b F H j i w Q A W p q=>by
 show x F (Bq b H) H j _ _ _ W.fM p λt v z n B e o=>?_
 let#[g,s,r2,y]:=W.fY o e.1;show h us m b g n j i w _ _ s e.2 λf vs l r d u a p3=>q (Pu.aC t::f) _ l r (y.trans d) u #[Pu.aC t,v,f,vs,rfl,rfl,r2.mo d (λ_=>Le.refl _) _,a] p3
def HA.rs(W:bg K k lo us Fb Hb F H G J cs):∀{hs:bC}{C:ag}{vs:ay},(hs.filterMap id).Nodup->HA K F Hb G J hs C vs->∃c,Rs K F (λ_=>Hb) C vs c/\au F H c/\dH Hb c/\(∀p∈c,∃i,À i∈hs/\p∈cs i)/\∀i,À i∈hs->∀p∈cs i,p∈c
 |[],_,_,_,y=>by let#[f,g]:=y;show#[[],by rw[f,g];show#[rfl,rfl],.nil,.nil,(λ_ m=>nomatch m),λ_ m=>nomatch m]
 |none::hs,_,_,nd,y=>by
  ∎;let#[t,v,A,a,f,g,w,x]:=y;let#[c,l,o,r,h,s]:=HA.rs W (hs:=hs) nd x;∎;show#[c,by rw[f,g];show#[v,a,[],c,rfl,rfl,w,l],o,r,λp m=>?_,λi m p b=>?_]
  .obtain⟨i,b1,b2⟩:=h p m;show#[i,.tail _ b1,b2]
  .cases m with
   |tail _ m=>show s i m p b
 |some i::hs,_,_,nd,y=>by
  let#[t,v,A,a,f,g,w,x,E,I]:=y;have nd:(i::hs.filterMap id).Nodup:=nd;rw[č] at nd;let#[c,l,o,r,h,s]:=HA.rs W (hs:=hs) nd.2 I;have M:À i ∉ hs:=λm=>nd.1<|œ.mpr #[_,m,rfl]
  have rt:R K F (λ_=>Hb) t v (cs i):=by
   rcases W.e i t w with z |⟨u,B,D⟩
   .show av5 z x
   .rw[E] at B;cases B;show D
  show#[cs i++c,by rw[f,g];show#[v,a,cs i,c,rfl,rfl,rt,l],(W.c i).app o λp b q L=>?_,λp m=>(Ê.mp m).elim (W.n i p)<|r p,λp m=>?_,λj m p b=>?_]
  .obtain⟨j,b1,b2⟩:=h q L;show W.d i j (λz=>M (by rw[z];show b1)) p b q b2
  .rcases Ê.mp m with m |m
   .show⟨i,.head _,m⟩
   .obtain⟨j,b1,b2⟩:=h p m;show#[j,.tail _ b1,b2]
  .rcases ã.mp m with e |m
   .cases e;show Ê.mpr<|.inl b
   .show Ê.mpr (.inr<|s j m p b)
abbrev gG:bC->ag->ag
 |[],j=>j
 |none::hs,j=>gG hs j
 |some i::hs,j=>(gG hs j).set i .ak
def Ae:∀(hs:bC)(j:ag),(gG hs j).length=↑j
 |[],_=>rfl
 |none::hs,j=>Ae hs j
 |some i::hs,j=>by change ((gG hs j).set i .ak).length=_;rw[û];show Ae hs j
def w5:∀(hs:bC)(G:ag),À i ∉ hs->(gG hs G).set i t=gG hs (G.set i t)
 |[],_,_=>rfl
 |none::hs,G,h=>w5 hs G λm=>h<|.tail _ m
 |some j::hs,G,h=>by
  change ((gG hs G).set j .ak).set i t=(gG hs<|G.set i t).set j .ak;rw[List.set_comm _ _ (λz=>h (by rw[z];show .head _)),w5 hs G λm=>h<|.tail _ m]
def AB:∀(hs:bC)(G:ag),(gG hs G)[j]?=À t->t=.ak\/(À j ∉ hs/\G[j]?=À t)
 |[],_,h=>.inr #[(λm=>nomatch m),h]
 |none::hs,G,h=>(AB hs G h).imp id λ⟨a,b⟩=>#[λm=>by cases m with |tail _ m=>show a m,b]
 |some i::hs,G,h=>by
  have h:((gG hs G).set i .ak)[j]?=À t:=h;by_cases e:i=j
  .subst e;have d:=(Á.mp h).1;rw[û] at d;rw[ÿ d] at h;cases h;show .inl rfl
  .rw[î e] at h;show (AB hs G h).imp id λ⟨a,b⟩=>#[λm=>by
    rcases ã.mp m with z |m
    .cases z;show e rfl
    .show a m,b]
def bg.past{hs:bC}{c:Cs}(W:bg K k lo us Fb Hb F H G J cs)(n:dH Hb c)(A:∀p∈c,∃i,À i∈hs/\p∈cs i)(g:Gr F (c9 (c.map (·.1)) H) F' H'):bg K k lo us Fb Hb F' H' G (gG hs J) (λj=>if À j∈hs then [] else cs j)/\∀j,À j ∉ hs->∀p∈cs j,(c9 (c.map (·.1)) H) p.1=À p.2:=by
 have B:Gr Fb Hb F' H':=W.g.c9 n g;have keep:∀j,À j ∉ hs->∀p∈cs j,(c9 (c.map (·.1)) H) p.1=À p.2:=λj s p o=>by
  show rY (λm=>?_)<|(W.c j).h p o;∎;let#[q,r,e]:=æ.mp m;let#[i,w,y]:=A q r;∎;show W.d j i (λz=>s (by rw[z];show w)) p o q y e.symm
 show#[#[B,λh=>g.fz<|W.z h,by rw[Ae];show W.l,λj t h=>?_,λj=>?_,λj=>?_,λa b ne p o q r=>?_,W.p,W.x],keep]
 .rcases AB hs J h with z |⟨z,e⟩
  .show .inl z
  .rw[av3 z];show (W.e j t e).imp id λ⟨v,h1,h2⟩=>#[v,h1,h2.mo g.le (λ_=>Le.refl _) t]
 .split
  .show .nil
  .rename_i s;show#[λp m=>g.h _ _<|keep j s p m,λp m=>?_,(W.c j).nd];cases z:F' p.1 with
   |none=>rfl
   |some u=>
    have:=g.n p.1 u z<|(W.c j).f p m;rw[keep j s p m] at this;cases this
 .split
  .show .nil
  .show W.n j
 .split at o
  .cases o
  .split at r
   .cases r
   .show W.d a b ne p o q r
def bg.fill{i:Nat}{t:Tr}{v:V}{c:Cs}(W:bg K k lo us Fb Hb F H G J cs)(y:G[i]?=À (À v))(r:R K F (λ_=>Hb) t v c)(s:au F H c)(n:dH Hb c)(d:∀j,j≠i->∀p∈cs j,∀q∈c,p.1≠q.1):
  bg K k lo us Fb Hb F H G `cI (λj=>if j=i then c else cs j) where
 g:=W.g
 z:=W.z
 l:=by rw[û];show W.l
 e:=λj u h=>by
  by_cases e:j=i
  .subst e;have w:j<↑J:=by have:=(Á.mp h).1;rw[û] at this;show this
   rw[ÿ w] at h;cases h;show .inr #[v,y,by rw[av4 rfl];show r]
  .rw[î<|λz=>e z.symm] at h;rw[av3 e];show W.e j u h
 c:=λj=>by
  split
  .show s
  .show W.c j
 n:=λj=>by
  split
  .show n
  .show W.n j
 d:=λa b ne p o q f=>by
  by_cases m:a=i
  .rw[av4 m] at o;rw[av3<|λz=>ne<|m.trans z.symm] at f;show (d b (λz=>ne<|m.trans z.symm) q f p o).symm
  .rw[av3 m] at o;by_cases eb:b=i
   .rw[av4 eb] at f;show d a m p o q f
   .rw[av3 eb] at f;show W.d a b ne p o q f
 p:=W.p
 x:=W.x
abbrev k4:bC->Nat->ag->ag->(aA)->Prop
 |[],_,_,G,Q=>Q G
 |none::hs,j,G',G,Q=>k4 hs (j + 1) G' G Q
 |some i::hs,j,G',G,Q=>pV G'[j]? λt=>cZ t=Â /\ k4 hs (j + 1) G' (G.set i t) Q
def AD{Q:Md}{r:Nat}{vs:ay}{y:Hp}{C:St}{A:ag}{a:Nat->Cs}{G:Prop}{B:aA}(f:bg K Q r vs F1 y F' H' C A a)(x:aD Hb y):∀(hs:bC)(j:Nat)(O:ag)(cx:Nat->Cs),(hs.filterMap id).Nodup->bg K k lo us Fb Hb F' H' J (gG hs O) cx->(∀n i,hs[n]?=À (À i)->∃v,J[i]?=À (À v)/\vs[j+n]?=À v)->j+↑hs<=r->
  (∀i m,(i<lo\/True)->j<=m->∀p∈cx i,∀q∈a m,p.1≠q.1)->k4 hs j A O B->(∀s b,bg K k lo us Fb Hb F' H' J s b->(∀i,∀p∈b i,p∈cx i\/∃m,p∈a m)->B s->G)->G
 |[],j,O,cx,_,W,_,_,_,p,q=>q O cx W (λi p m=>.inl m) p
 |none::hs,j,O,cx,nd,W,hv,hl,d,p,q=>by
  show AD f x hs (j+1) O cx nd W (λn i e=>?_) (by rw[Ö] at hl;omega) (λi m z hm=>d i m z ⋯) p q;let#[v,l,o]:=hv (n+1) i e;show#[v,l,by rw[show j+1+n=j+(n+1) by omega];show o]
 |some i::hs,j,O,cx,nd,W,hv,hl,d,p,q=>by
  have nd:(i::hs.filterMap id).Nodup:=nd;rw[č] at nd;have U:À i ∉ hs:=λm=>nd.1<|œ.mpr #[_,m,rfl]
  ∎;let#[t,H,I,L,p]:=x8 p;let#[v,l,o]:=hv 0 i rfl;∎;rw[Ö] at hl;have rt:R K F' (λ_=>Hb) t v (a j):=by
   rcases f.e j t H with z |⟨u,M,N⟩
   .show av5 z I
   .have:=f.p j ⋯;rw[M,show vs[j]?=À v from o] at this;cases this;show N.base t L
  have E:bg K k lo us Fb Hb F' H' J (gG hs<|O.set i t) (λm=>if m=i then a j else cx m):=by
   have:=W.fill (i:=i) l rt (f.c j) (λp m=>x.free<|f.n j p m) λm _ p h q w=>d m j (.inr trivial) (Î j) p h q w
   rw[show (gG (À i::hs) O).set i t=gG hs (O.set i t) by
    change ((gG hs O).set i .ak).set i t=_;rw[List.set_set];show w5 hs O U] at this
   show this
  show AD f x hs (j+1) (O.set i t) _ nd.2 E (λn g e=>?_) ⋯ (λg m z hm p h q w=>?_) p λs b D sub=>q s b D λg p m=>?_
  .obtain⟨v,l,o⟩:=hv (n+1) g e;show#[v,l,by rw[show j+1+n=j+(n+1) by omega];show o]
  .by_cases ei:g=i
   .rw[av4 ei] at h;show f.d j m ⋯ p h q w
   .rw[av3 ei] at h;show d g m z ⋯ p h q w
  .rcases sub g p m with z |z
   .by_cases ei:g=i
    .rw[av4 ei] at z;show .inr #[j,z]
    .rw[av3 ei] at z;show .inl z
   .show .inr z
def HA.at_:∀{hs:bC}{r:ag}{vs:ay}{n i:Nat},HA K F Hb j G hs r vs->hs[n]?=À (À i)->∃v,j[i]?=À (À v)/\vs[n]?=À v
 |none::hs,_,_,n,i,y,e=>by
  let#[t,v,f,g,l,d,m,h]:=y;cases n with
  |zero=>cases e
  |succ n=>let#[u,a,b]:=HA.at_ (hs:=hs) h e;show#[u,a,by rw[d];show b]
 |some x::hs,_,_,n,i,y,e=>by
  let#[t,v,f,g,l,d,m,h,o,q]:=y;cases n with
  |zero=>cases e;show#[v,o,by rw[d];rfl]
  |succ n=>let#[u,a,b]:=HA.at_ (hs:=hs) q e;show#[u,a,by rw[d];show b]
def HA.len:∀{hs:bC}{f:ag}{vs:ay},HA K F Hb j G hs f vs->↑f=↑hs
 |[],_,_,y=>by let#[a,_]:=y;rw[a];rfl
 |none::hs,_,_,y=>by let#[t,v,b,d,a,g,h,e]:=y;rw[a,Ö,Ö,HA.len e]
 |some i::hs,_,_,y=>by let#[t,v,b,d,a,g,h,e,m,l]:=y;rw[a,Ö,Ö,HA.len l]
end
structure QL(X:Cx)(k:Md)(lo:Nat)(e:ě)(pl:m4):Prop where
 h:∃te,PE X e te/\rL X.K k lo te pl
structure QH(X:Cx)(k:Md)(lo:Nat)(es:b5)(hs:bC)(ph:cQ):Prop where
 h:∃ta,PA X es ta/\uf X.K k lo hs ta ph
section
def sj:QH X k lo [] [] Cz:=#[_,qA,Ul]
def nP(i:QE X k e pe)(h:QH X k lo es hs ph)(a:do fA e es X.env):QH X k lo (e::es) (Æ::hs) (CA pe ph):=by
 ∎;let#[j,f,g]:=i.h;let#[l,b,d]:=h.h;∎;show#[_,oJ f b a,z's g d]
section
def xk(i:Nat)(h:QL X k lo e pl)(d:X.N.Nodup:=by assumption)(j: ~~~(lo<=i))(g:do X.N[i]?=À x)(l:Loc X.env.scope x:=by first |show ϲ rfl |show ű rfl)(hs:do ĳ e (À<|.Name x pos') pos.line X.env=pure Ç)(f:kW X x:=by first |show .inl rfl |show .inr rfl |assumption):
  QS X k lo (.Assign [.Name x pos'] e pos) (yT i pl):=by
 let#[m,a,b]:=h.h;show#[_,xF d g l a hs f,SG j b]
def Iy(h:QL X k lo e pl)(hs:do ĳ e Æ pos.line X.env=pure Ç):QS X k lo `dd (yU pl):=by
 let#[d,a,b]:=h.h;show#[_,xr a hs,SH b]
def mO(h:QL X k lo e pl):QS X k lo `bZ (zi pl):=by
 let#[d,a,b]:=h.h;show#[_,Jl a,Uk b]
end
end
end Pu
namespace L2
open PySem PySem.Spec PyProof.Rows
abbrev Fc(e:TE):TE:=λj H Q=>e j H λx d=>∃a b,x=.ref a/\Rd d a (.dK b)/\∀p,d p=Æ->Q `am (aU d p (.af (b.map (·.2))))
def Py(Y:X.calm=Â)(hg:Gl X "list")(hm:X.mg "list"=Æ)(ho:PE X o td)(g:õ o "values" X.env `ap=eval o X.env)(l:(apos.endLine == bo.line)=Â)(hs:do ē [.Call (.Attribute o "values" apos) [] [] bo] X.env=[(Ç,eval (.Call (.Attribute o "values" apos) [] [] bo) X.env)]):
  PE X (.Call (.Name "list" p) [.Call (.Attribute o "values" apos) [] [] bo] [] pos) (Fc td):=by
 intro aa s i H Q I h;show Ħ<|k6 I hg hm (u:=.type "list") rfl ?_;show Ą ?_ hs rfl;rw[hs];change Ú _ _ (spliced ((Ç,eval (.Call (.Attribute o "values" apos) [] [] bo) X.env)::Ϗ pos [])) _ _ s;show ļ ?_;show ϙ g l<|bu (ho aa s i H _ I h) λv m E=>?_;let#[x,G,B,r1,a,kvs,ex,L,q]:=E;subst ex;obtain rfl:v=Ý a:=r1;let#[N,t2,hd]:=rX B<|.inl #[kvs,L];show#["dict","dict.values",PySem.F.plainAttrs_dict,PySem.F.slot_dict_values,PySem.F.type_dict_values,N,t2,ķ rfl<|PySem.evalArgs_none ?_];let#[z,y,vs,r,dd]:=iU B.aS L;show Ő PySem.F.slot_dict_values N PySem.F.entry_dict_values `cu (meets_dict_values `aF a hd) #[#[vs,dd],?_];have J:ax X aa i G { m with heap:=m.heap.push { cls:=.type "dict_values",data:=.fields ([.ref a].toArray) } }:=B.kept (t':=m.toks) λb o e=>Ã _ e
 let#[ep,C]:=dd.dictAt;have A:=C.push { cls:=.type "dict_values",data:=.fields ([.ref a].toArray) };have M:↑kvs=↑vs:=KV.length r;show Ş ?_;show W.kdl_call (s:={ m with heap:=m.heap.push { cls:=.type "dict_values",data:=.fields ([.ref a].toArray) } }) (W.kdl_values (knd:=eM X.prog X.w) (kvs:=vs) (ep:=ep) (r:=⇑m) (d:=a)) (I.ok.hd Y) #[#[_,Ô _ rfl,rfl,rfl],A] (by rw[<- M];show z) λh' tk n O hk U f=>?_
 have D:G (m.heap.push { cls:=.type "dict_values",data:=.fields ([.ref a].toArray) }).objs.size=Æ:=J.aS.fresh<|Î _;show#[.ref _,_,J.laid (o:=.af (kvs.map (·.2))) (h':=h') (t':=tk) hk (Î _) #[by rw[Å];show z,n.toList,O,?_,by rw[Ϡ];show U],rfl,q _ D];show Sj r (by rw[Œ,f.1,M]) λj u hu=>?_
 show f.2 j u (by rw[<- ϑ];show hu)
end L2
namespace Pu
open PySem L2 Vc Sf
section
def Rk.snd:∀{m:bL}{vs:b9}{c:Cs},Rk K F B m vs c->Rs K F B (m.map (·.2)) (vs.map (·.2)) c
 |[],_,_,y=>by let#[h,a]:=y;rw[h,a];show#[rfl,rfl]
 |(y,x)::m,_,_,y0=>by let#[v,r,c,d,b,a,e,f]:=y0;rw[b,a];show#[v,_,c,d,rfl,rfl,e,Rk.snd f]
abbrev yp(t:Tr)(Q:aB):Prop:=match t with |.aP _ m=>Q (.af .o (m.map (·.2))) |_=>False
def z't(h:bE K k te pe):bE K k (Fc te) (p1 yp pe):=λF B H j i Q z c p q=>by
 show h F B H j i _ _ c p λx v f w A p1 d=>?_
 unfold yp at p1;split at p1
 .obtain⟨a,vs,ds,rfl,h1,h2,h3,h4⟩:=d.r.fV d.g.s (λk=>(c.b k).trans d.g.h) d.c;show#[a,vs,rfl,h1,λp e=>?_];let#[l,o,u]:=nD d.g.s h2.snd h3 e;show q _ _ f _ _ p1 #[d.g.trans' l,o,u,λy m=>?_];cases m with
  |head=>show d.g.h.free e
  |tail _ m=>show d.n y<|h4 y m
 .show p1.elim
def Iz:∀{ns:ah}{vs:ay}{c:Cs},Rs K F B (ns.map<|ae.t (α:=Str)) vs c->vs=ns.map V.str/\c=[]
 |[],_,_,h=>h
 |n::ns,_,_,y=>by
  ∎;let#[v,r,c,d,g,i,j,l]:=y;let#[a,b]:=Iz l;let#[e,f]:=(show v=V.str n/\c=[] from j);∎;show#[by rw[g,a,e];rfl,by rw[i,f,b];rfl]
def AV:∀(ns:ah),Rs K F B (ns.map<|ae.t (α:=Str)) (ns.map V.str) []
 |[]=>#[rfl,rfl]
 |n::ns=>#[.str n,ns.map V.str,[],[],rfl,rfl,#[rfl,rfl],AV ns]
end
section
def MM(f:X.calm=Â)(g:Gl X "list")(hm:X.mg "list"=Æ)(h:QE X k o po)(d:do õ o "values" X.env `ap=eval o X.env)(e:do (apos.endLine == bo.line)=Â)(hs:do ē [.Call (.Attribute o "values" apos) [] [] bo] X.env=[(Ç,eval (.Call (.Attribute o "values" apos) [] [] bo) X.env)]):
  QE X k (.Call (.Name "list" p) [.Call (.Attribute o "values" apos) [] [] bo] [] pos) (p1 yp po):=by
 let#[i,a,b]:=h.h;show#[_,Py f g hm a d e hs,z't b]
end
def SI:wN D m bf po pa j Q=(po j λx=>jg D m x λc=>pa j λa=>bf c (cV (x::a))<|λt _=>Q t):=rfl
def Ql:zh C bf pa j Q=(pa j λb=>bf (cV (.ins .o C []::b)) λt a=>t=.aN/\rK a[0]? Q):=rfl
def Pz(i:Nat)(pl:m4)(D:Pd)(j:ag):yT i pl D j=(pl j λt a=>D.nx<|a.set i<|aC t):=rfl
def PB:yU pl D j=(pl j λ_ j1=>D.nx j1):=rfl
def Qm:zi pl D j=(pl j λt a=>cZ t=Â/\D.rt t a):=rfl
def VN:Cz j' Q=(Q []):=rfl
def VO:CA pe ph j Q=(pe `ag λt=>bZ t=Â/\ph j λa=>Q (Pu.aC t::a)):=rfl
def PC(j:Nat)(a i:ag)(Q:aA):k4 [] j a i Q=Q i:=rfl
def Qn(hs:bC)(j:Nat)(a i:ag)(Q:aA):k4 (Æ::hs) j a i Q=k4 hs (j+1) a i Q:=rfl
def OU(c:ai)(fs:bq):aO `aS=.ins `bP c (cD fs):=rfl
def OT(c:ai)(fs:bq):dn `aS=.ins .o c (iY fs):=rfl
def z'u(b:Bool)(c:ai)(fs:bq):dn (.ins (.l b) c fs)=.ins `aI c (iY fs):=rfl
def Bl(c:ai)(fs:bq):cZ `aS=eX fs:=rfl
def G5(c:ai)(fs:bq):bZ `aS=gz fs:=rfl
def z'v(f:Fl)(m:bL)(Q:aB):yp (.aP f m) Q=Q (.af .o (m.map (·.2))):=rfl
def SJ(K:aq)(f:Str)(c:ai)(fs:bq)(Q:ai->bq->Prop):qg K f `aS Q=((g9 K c/\bj K c f)/\↑fs<900/\Q c fs):=rfl
def qp(f:Str)(u:Tr):jf f u []=[(f,u)]:=rfl
def Qo(f:Fl)(c:ai)(xs:bq)(R:aB):vn (À<|.ins f c xs) R=R (.ins f c xs):=rfl
section
abbrev zv(i:Nat):m4:=λj Q=>pV j[i]? λt=>Q t<|j.set i .ak
def Xy:rL K k lo (hJ i) (zv i):=λus o r F H G J b Q s W p q=>by
 let#[t,f,g,p]:=x8 p;rcases W.e i t f with z |⟨v,h,l⟩
 .show av5 z g
 show⟨v,h,q t v F H _ _ (b i) ⟨Le.refl _,W.ak (i:=i),l,W.c i,W.n i,λj p a q m=>?_⟩ p⟩;split at a
 .cases a
 .rename_i hj;show W.d j i hj p a q m
def SK(i:Nat)(j:ag)(Q:Tr->aA):zv i j Q=(pV j[i]? λt=>Q t<|j.set i .ak):=rfl
end
section
def mL(i:Nat)(b:do X.N[i]?=À x)(d:pW X.env.scope x:=by first |show ϲ rfl |show ű (ϲ rfl) |show ű<|ű rfl)(hd: ~~~(dY x))(a: ~~~((x == ("__classdict__":Str))=Ç)):QL X k lo `aq (zv i):=#[_,xE b d hd a,Xy]
end
def fv(a:rn X E):ac6 `ab X.A X.env X.xe:=by
 rw[show X.xe=_ from a]
 passes_own
nonrec abbrev PC':=Pd->ag->Xv->Prop
end Pu
namespace Pu
open PySem PySem.Spec PyProof.Rows
section
variable{p:aT->Prop}
def P5(h:p []):∀us:aT,us.length=0->p us:=λus e=>by
 cases us with
 |nil=>show h
 |cons=>cases e
def vc{p:aT->Prop}{k:Nat}(h:∀a (us:aT),us.length=k->p (a::us)):∀us:aT,us.length=k+1->p us:=λus e=>by
 cases us with
 |nil=>cases e
 |cons a us=>show h a us<|Ť e
def Il(h:∀a,p [a]):∀us:aT,us.length=[x1].length->p us:=vc λa=>P5<|h a
def ln2(h:∀a b,p [a,b]):∀us:aT,us.length=[x1,x2].length->p us:=vc λa=>Il (x1:=x2) (p:=λl=>p (a::l))<|h a
def Im(h:∀a b c,p [a,b,c]):∀us:aT,us.length=[x1,x2,x3].length->p us:=vc λa=>ln2 (x1:=x2) (x2:=x3) (p:=λl=>p (a::l))<|h a
def Io(h:∀a b c d,p [a,b,c,d]):∀us:aT,us.length=[x1,x2,x3,x4].length->p us:=vc λa=>Im (x1:=x2) (x2:=x3) (x3:=x4) (p:=λl=>p (a::l))<|h a
def P6(h:∀a b c d e,p [a,b,c,d,e]):∀us:aT,us.length=[x1,x2,x3,x4,x5].length->p us:=vc λa=>Io (x1:=x2) (x2:=x3) (x3:=x4) (x4:=x5) (p:=λl=>p (a::l))<|h a
end
end Pu
namespace Pu
open PySem L2 Vc Sf
def sE(b:PE X o `bi)(a:do õ o f X.env `ap=eval o X.env):PE X (.Attribute o f pos) (tR X.K i (f::r)):=HX b a
section
def au.perm(h:au F H c)(p:c.Perm d):au F H d:=#[λx m=>h.h x<|p.mem_iff.mpr m,λx m=>h.f x<|p.mem_iff.mpr m,((p.map (·.1)).nodup_iff).mp h.nd]
def au.uR(h:au F H (c++d)):∀p∈c,∀q∈d,p.1≠q.1:=by
 have:=h.nd;rw[ä,š] at this;show λp a q b=>this.2.2 _ (æ.mpr #[p,a,rfl]) _<|æ.mpr #[q,b,rfl]
def SM{hs:bC}{n:Nat}{z:Bool}{bf:iQ}{ts:ag}{vs:ay}{E:XK}{q':Xv->Prop}{Q':Tr->aA}{Q:VK}{t:Tr}{r:ah}{v w:V}{c rest:Cs}(W:bg K k lo us Fb Hb F1 H1 G J cs)(l:Le F F1)(hv:G[i]?=À (À v))(pm:(cs i).Perm (c++rest))(η:R K F1 (λ_=>Hb) `ci w c)(cl:∀B,Le F1 B->∀u d,R K B (λ_=>Hb) u w d->∃c1,R K B (λ_=>Hb) `eI v c1/\c1.Perm (d++rest))(a:HA K F1 Hb G J hs ts vs)(nd:((À i::hs).filterMap id).Nodup)(hk:z=Â->k.z=Â)(hn:(cV (dw t r::ts)).length=n)(hE:∀x B H,q' x->∀d,XF K B d x.f->Gr Fb Hb B H->E x.c d H)(p1:bf (cV (dw t r::ts)) (λx J'=>pV J'[0]? λu=>cZ u=Â/\k4 hs 1 J' (J.set i<|je t r u) λJ2=>Q' x J2) q')(q:∀t v B H J' U c,mZ K k lo us Fb Hb F B H G J' U t v c->Q' t J'->Q v H):jY K z n n bf (w::vs) H1 Q E:=by
 have O:(i::hs.filterMap id).Nodup:=nd;rw[č] at O;have ni:À i ∉ hs:=λm=>O.1<|œ.mpr #[_,m,rfl]
 let#[I,a1,a2,a3,a4,a5]:=a.rs W O.2;have Y:au F1 H1 (c++rest):=(W.c i).perm pm;have sub:∀p∈c,p∈cs i:=λp m=>pm.mem_iff.mpr<|Ê.mpr<|.inl m
 have C:∀p∈rest,p∈cs i:=λp m=>pm.mem_iff.mpr<|Ê.mpr<|.inr m
 have β:∀p∈cs i,∀q∈I,p.1≠q.1:=λp b q A=>by
  let#[j,b1,b2]:=a4 q A;show W.d i j (λz=>ni (by rw[z];show b1)) p b q b2
 have A2:au F1 H1 (c++I):=Y.left.app a2 λp b q A=>β p (sub p b) q A
 have A3:dH Hb (c++I):=λp m=>(Ê.mp m).elim (λm=>W.n i p<|sub p m)<|a3 p
 have A4:∀p∈c++I,∃j,À j∈(À i::hs)/\p∈cs j:=λp m=>by
  rcases Ê.mp m with m |m
  .show⟨i,.head _,sub p m⟩
  .obtain⟨j,b1,b2⟩:=a4 p m;show#[j,.tail _ b1,b2]
 have hb:aD Hb (c9 ((c++I).map (·.1)) H1):=λx o e=>rY (xx A3 e)<|W.g.h _ _ e
 have o1:fH K F1 (λ_=>Hb) (c9 ((c++I).map (·.1)) H1) F1 H1 (dw t r::ts) (w::vs) (c++I):=#[#[Bn W.g.s,Fz.refl F1],#[w,vs,c,I,rfl,rfl,η,a1],A2,λp m=>Ad m]
 show AA (λh=>W.z<|hk h) hn (λ_=>hb) o1 (λx B H hq d y g=>hE x B H hq d y<|W.g.c9 A3 g) p1 λB H G' J' U v' t' N g nw M r' ε nc dj nl qt=>?_
 let#[W0,keep]:=W.past (hs:=À i::hs) A3 A4 g;have D:∀p∈rest,(c9 ((c++I).map (·.1)) H1) p.1=À p.2:=λp b=>by
  show rY (λm=>?_)<|(W.c i).h p<|C p b;let#[q,A,e]:=æ.mp m;rcases Ê.mp A with A |A
  .show Y.uR q A p b e
  .show β p (C p b) q A e.symm
 have L:∀(N:Cs),dH (c9 ((c++I).map (·.1)) H1) N->∀p∈rest,∀q∈N,p.1≠q.1:=λN nc p b q A e=>by
  have:=D p b;rw[e,nc q A] at this;cases this
 have uR:∀(N:Cs),dH (c9 ((c++I).map (·.1)) H1) N->∀j,∀p∈(if À j∈(À i::hs) then [] else cs j),∀q∈N,p.1≠q.1:=λN nc j p b q A e=>by
  split at b
  .cases b
  .rename_i hj;have:=keep j hj p b;rw[e,nc q A] at this;cases this
 let#[u,x1,x2,x3,qt]:=x8 qt;have α:0<n:=by rw[<- hn,oA];show Nat.succ_pos _
 have ru:R K B (λ_=>Hb) u w (U 0):=by
  rcases M.e 0 u x1 with z |⟨u',g1,g2⟩
  .show av5 z x2
  .have:=M.p 0 α;rw[g1] at this;cases this;show g2.base u x3
 let#[d1,y1,y2]:=cl B g.le u _ ru;have fr:∀p∈rest,B p.1=Æ:=λp m=>by
  cases z:B p.1 with
  |none=>rfl
  |some o=>
   have:=g.n p.1 o z<|(W.c i).f p<|C p m;rw[D p m] at this;cases this
 have cr:au B H rest:=#[λp m=>g.h _ _<|D p m,fr,Y.right.nd]
 have cd:au B H d1:=((M.c 0).app cr λp b q A e=>L _ (M.n 0) q A p b e.symm).perm y2.symm;have ζ:dH Hb d1:=λp m=>by
  rcases Ê.mp (y2.mem_iff.mp m) with m |m
  .show hb.free (M.n 0 p m)
  .show W.n i p (C p m)
 have W1:bg K k lo us Fb Hb B H G (gG hs<|J.set i<|je t r u) (λm=>if m=i then d1 else (if À m∈(À i::hs) then [] else cs m)):=by
  have:=W0.fill (i:=i) hv y1 cd ζ λm hm p b q A=>by
   rcases Ê.mp (y2.mem_iff.mp A) with A |A
   .show uR _ (M.n 0) m p b q A
   .split at b
    .cases b
    .show W.d m i hm p b q (C q A)
  rw[show (gG (À i::hs) J).set i (je t r u)=gG hs (J.set i (je t r u)) by
   change ((gG hs J).set i .ak).set i _=_;rw[List.set_set];show w5 hs J ni] at this
  show this
 have θ:n=↑hs+1:=by rw[<- hn,oA,Ö,a.len]
 show AD M hb hs 1 (J.set i<|je t r u) _ O.2 W1 (λm j e=>?_) ⋯ (λj m _ hm p b q A=>?_) qt λJ2 δ W2 γ q2=>?_
 .obtain⟨x,h1,h2⟩:=a.at_ e;show#[x,h1,by rw[show 1+m=m+1 by omega];show h2]
 .by_cases ej:j=i
  .rw[av4 ej] at b;rcases Ê.mp (y2.mem_iff.mp b) with b |b
   .show M.d 0 m ⋯ p b q A
   .show L _ (M.n m) p b q A
  .rw[av3 ej] at b;show uR _ (M.n m) j p b q A
 .show q t' v' B H J2 δ N #[l.trans g.le,W2,r'.base t' nl,ε,λp m=>hb.free<|nc p m,λj p b q A=>?_] q2;rcases γ j p b with z |⟨m,z⟩
  .by_cases ej:j=i
   .rw[av4 ej] at z;rcases Ê.mp (y2.mem_iff.mp z) with z |z
    .show dj 0 p z q A
    .show L _ nc p z q A
   .rw[av3 ej] at z;show uR _ nc j p z q A
  .show dj m p z q A
abbrev Nj(K:aq)(q:Xv->Prop)(D:ai->Nat->Prop)(m:Str)(i:Nat)(r:ah)(hs:bC)(bf:Nat->iQ)(d:cQ):m4:=λj Q=>pV j[i]? λt=>qT K t r/\jg D m `ci λc=>d j λe=>bf c (cV (dw t r::e)) (λx a=>pV a[0]? λu=>cZ u=Â/\k4 hs 1 a (j.set i<|je t r u) λb=>Q x b) q
def SN{bf:Nat->iQ}{R':St->XK}{q':Xv->Prop}{r:ah}(hE:∀(us:ay)(Fb Hb F H:Hp)(j:St)(G:ag)(cs:Nat->Cs),bg K k lo us Fb Hb F H j G cs->∀x b u,q' x->∀d,XF K b d x.f->Gr Fb Hb b u->R' j x.c d u)(nd:((À i::hs).filterMap id).Nodup)(hk:z=Â->k.z=Â)(hn:∀C xs Q q,bf C xs Q q->↑xs=n)(h:uf K k lo hs ta ph):rL K k lo (ue D m (λC=>jY K z n n<|bf C) R' `cn ta) (Nj K q' D m i r hs bf ph):=λus Fb Hb F H j G cs Q Q' W p q=>by
 ∎;let#[t,M,N,ok,p]:=x8 p;let#[f,C,fs,g,O,hD,hl,p]:=Iv p;∎;rcases W.e i _ M with z |⟨v,E,h2⟩
 .show av5 z N
 let#[w,c,rest,pm,l,cl,rd]:=place W.g.s (λ_=>W.g.h) E h2 (W.c i) r ok;have hc:au F H c:=((W.c i).perm pm).left;have o:=l;rw[O] at o;let#[a,L,vs,ds,rfl,U,Y,_]:=o.qP W.g.s (λ_=>W.g.h) hc;show rd _ #[a,C,L,vs,g,rfl,U,hD,Y.none_of hl,h us Fb Hb F H j G cs _ _ W p λts α I J A B ha p1=>?_];show SM B A E pm (l.mo A (λ_=>Le.refl _) _) (λb l'=>cl b<|A.trans l') ha nd hk (hn _ _ _ _ p1) (λy b u hq g=>hE us Fb Hb I J j G cs B y b u hq g) p1 q
end
section
abbrev tV(K:aq)(D:ai->Nat->Prop)(m:Str)(i:Nat)(r:ah)(hs:bC)(bf:Nat->gR)(d:cQ):m4:=λj Q=>pV j[i]? λt=>qT K t r/\jg D m `ci λc=>d j λe=>bf c (cV (dw t r::e))<|λx a=>pV a[0]? λu=>cZ u=Â/\k4 hs 1 a (j.set i<|je t r u) λb=>Q x b
def sf{D:ai->Nat->Prop}{bf:Nat->gR}(v:PE X o `bi)(l:∀C g,D C g->gp X.prog X.w X.K X.mg X.base bM kj m C ps (bU X.K z n n<|bf g))(q:QH X k lo (e::es) hs ph)(x:bD km X.A:=by assumption)(s:kj<=km:=by first |decide |omega)(u:z=Â->k.z=Â:=by first |show id |show λ_=>rfl)(hn:∀C xs Q,bf C xs Q->↑xs=n:=by show λ_ _ _ h=>h.1)(nd: ~~~(((À i::hs).filterMap id).Nodup))(b:do fA e es X.env)(a:do gq pos es X.env)(ht:do sQ X o m (e::es) apos pos pl):QL X k lo (.Call `aV (e::es) [] pos) (tV X.K D m i r hs bf ph):=by
 let#[y,f,j]:=q.h;show#[_,JH (R:=λ_=>E0) v (λC g d=>(l C g d).mono s) x (x6 uU) f b a ht,SN (q':=λ_=>False) (bf:=λg xs Q _=>bf g xs Q) (λ_ _ _ _ _ _ _ _ _ _ _ _ h=>h.elim) nd u (λC xs Q _=>hn C xs Q) j]
end
end Pu
namespace L2
open PySem PySem.Spec PyProof.Rows
section
abbrev En(K:aq):ay->Hp->VK->Prop:=λd H Q=>∃(a:ai)(ks:ah),d=[.ref a]/\bw K H a `cQ/\↑ks<64/\
  ∀b:ah,b.Perm ks->Ě b=Â->∀p,H p=Æ->Q `am (aU H p<|.af<|b.map V.str)
def GX:∀{ks:ah}{us:aT},aH `cQ us->StrsAre us ks
 |[],_,.nil=>.nil
 |k::ks,_,.cons ⟨t,e⟩ r=>by rw[e];show .cons _ _<|GX r
def M8:bV X (.builtin "sorted") (En X.K):=by
 intro aa s j H xs us Q I r h;∎;let#[a,ks,rfl,L,w,q]:=h;let#[u,rfl,U]:=lp r;∎;cases U;let#[d,C,#[o,n,O,M,_,hd],Y]:=I.list L;have x:=GX C;have g:↑d=↑ks:=by have:=↑C;rw[Å] at this;show this.symm
 show Γ kind_sorted plain_sorted entry_sorted `cw ?_;unfold Ţ.«sorted»;show È (m:=checkCount "sorted" 1 1 _)<|Þ ?_;show È (wpAny_collect_seq a `ao O M hd (λf z=>?_) (by rw[á,g,Į];omega));have A:ax X aa j H { s with heap:=f }:=I.kept (t':=s.toks) z;show È (at3 ?_ (by rw[g,Į];omega));have i:(f.push<|ah9 "list" d.toArray 0).get? f.objs.size=À (ah9 "list" d.toArray 0):=Ô _ rfl;change Ú _ _ _ _ _ { s with heap:=f.push (ah9 "list" d.toArray 0) };show È (Ŗ (al4 ap6 #[_,i,rfl] an0 (an1 as7 i x.keysOf (λv1 v2 rest e=>keyKind_strs (by rw[<- e];show x)) (by rw[g];show w) λv D E=>#[_,rfl,?_])<|ap5 _));let#[l,G,B,J]:=ap8 x D E;show Þ #[_,rfl,?_];let#[e,N]:=as6 (out:=(arrOf v).map (·.2)) i;have y:H f.objs.size=Æ:=A.aS.fresh<|Î _;show#[.ref f.objs.size,_,A.laid (a:=f.objs.size) (o:=.af<|l.map V.str) (t':=s.toks) (λb o eb=>?_) (Î _) #[?_,((arrOf v).map (·.2)).toList,e,Ac G,by rw[Ϡ];show N],rfl,q l B J _ y]
 .have lb:b<f.objs.size:=Ì eb;rw[ap7 (é lb) (by rw[size_push'];show Ģ lb)];show Ã _ eb
 .rw[Å,B.length_eq,Į];omega
end
end L2
namespace Pu
open PySem L2 Vc Sf
section
abbrev Eo(K:aq):ay->Hp->VK->Prop:=λa H Q=>En K a H Q\/Ek a H Q
def Um(a:X.calm=Â):bV X (.builtin "sorted") (Eo X.K):=M8.or<|OX a
abbrev Nr(a:ag)(Q:aB):Prop:=∃ns:ah,ns.length<60/\((∃f,a=[.af f ↥ns])\/∃f m,a=[.aP f m]/\m.map (·.1)=ns.map (Sum.inr:Str->aI))/\Q (.af .o<|(vk ns).map ae.t)
def Uo:kU K k (Eo K) Nr:=λF B H A y x Q w s b z r j p q=>by
 let#[ns,hn,p,p1]:=p;have g:∀d:ah,d.Perm ns->Ě d=Â->∀p,H p=Æ->Q `am (aU H p<|.af<|d.map V.str):=λd h i p u=>by
  have e:d=vk ns:=JE h i;subst e;show uz s (AV _) .nil (λ_ m=>nomatch m) u p1 q
 rcases p with⟨f,rfl⟩ |⟨f,m,rfl,hm⟩
 .obtain⟨v,rfl,r1⟩:=r.one;∎;let#[a,vs,l,rfl,h,i,n,o]:=r1.cE s b j;let#[rfl,_]:=Iz i;∎;show .inl #[a,ns,rfl,h,⋯,g]
 .obtain⟨v,rfl,r1⟩:=r.one;let#[a,vs,l,rfl,h,i,n,o]:=r1.fV s b j;show .inr #[a,vs,ns,rfl,h,i.keys.trans hm,⋯,g]
end
section
def fP:∀(ns:List Nat),Rs K F B (ns.map λi:Nat=>Tr.int (i:Int)) (ns.map λi:Nat=>V.int (i:Int)) []
 |[]=>#[rfl,rfl]
 |n::ns=>#[.int n,_,[],[],rfl,rfl,#[rfl,rfl],fP ns]
end
def gm{f:Str}{u:Tr}{r:bq}:ń f ((f,u)::r)=À u:=by rw[Ċ,show (f == f)=Â from aw0 f]
def cL{f g:Str}{u:Tr}{r:bq}{v:Option Tr}(h:ń f r=v)(e:(f == g)=Ç:=by decide +kernel):ń f ((g,u)::r)=v:=by rw[Ċ,e];show h
def BU{f:Str}:ń f ([]:bq)=Æ:=rfl
def iT{K:aq}{f:Str}{g:Fl}{c:ai}{fs:bq}{u:Tr}{Q:aB}(a:g9 K c/\bj K c f)(b:fs.lookup f=À u)(q:Q u):iR K f (.ins g c fs) Q:=#[a,by rw[b];show q]
def BM{D:ai->Nat->Prop}{m:Str}{f:Fl}{c:ai}{fs:bq}{n:Nat}{Q:Nat->Prop}(hd:D c n)(a:fs.lookup m=Æ)(q:Q n):jg D m `aK Q:=#[n,hd,a,q]
def xP{K:aq}{j:ag}{i:Nat}{c:ai}{fs:bq}{f:Str}{u:Tr}{Q:Tr->(Tr->ag)->Prop}(h:j[i]?=À `aS)(b:g9 K c/\bj K c f)(a:fs.lookup f=À u)(q:Q u λv=>j.set i<|.ins .o c<|adr f v fs):i6 K j i [f] Q:=by
 unfold i6;rw[h];show#[#[trivial,b,by rw[a];rfl],?_];change Q ((fs.lookup f).getD .ak) _;rw[a];show q
def GY{K:aq}{D:ai->Nat->Prop}{m:Str}{i:Nat}{f:Str}{hs:bC}{bf:Nat->gR}{d:cQ}{j:ag}{Q:Tr->aA}{c:ai}{fs:bq}{u:Tr}(h:j[i]?=À `aS)(l:g9 K c/\bj K c f)(a:fs.lookup f=À u)(q:jg D m u λg=>d j λr=>bf g (cV (u::r))<|λx b=>pV b[0]? λv=>cZ v=Â/\k4 hs 1 b (j.set i<|.ins .o c<|adr f v fs) λn=>Q x n):tV K D m i [f] hs bf d j Q:=by
 unfold tV;rw[h];have e:dw `aS [f]=u:=by change (fs.lookup f).getD .ak=u;rw[a];rfl
 show#[#[trivial,l,by rw[a];rfl],?_];rw[e];show q
section
abbrev yV(K:aq)(i:Nat)(r:ah)(f:Str)(pe:bh):cI:=λD j=>pe `ag λt=>bZ t=Â/\i6 K j i r λu s=>qg K f u λc fs=>D.nx<|s<|.ins .o c<|jf f (aC t) fs
def SO(h:bE K k te pe):dB K k lo (zE K `cn te f) (yV K i r f pe):=λus Fb z F H j G cs D D' W p L=>by
 show h F (Bq z H) H j _ _ _ W.fM p λu v F1 m c1 q o=>?_
 ∎;let#[l,n,r2,l2]:=W.fY o q.1;let#[t,M,N,O,p]:=uD q.2;let#[C,fs,Q,ok,hl,p]:=Hh p;let#[w,c,y,sub,Y,rd,cl]:=n.at M N r O;∎;rw[Q] at y;let#[a,b,vs,J,rfl,s,x]:=y;have U:m a=À `cj:=Y.h (a,.ins C b vs) (by rw[s];show .head _);∎;let#[g,d,B,E,I]:=x.put (f:=f) r2;let#[e,A]:=cl l m n `bG a `cj (.ins C b<|gi f v vs) J g [] (.ins .o C<|jf f (aC u) fs) ((a,.ins C b<|gi f v vs)::d) s E .nil xA wY (Ϩ _ I) #[a,b,_,d,rfl,rfl,B];∎;show rd _ #[a,C,b,vs,rfl,U,ok.1,ok.2,Õ (by rw[x.length];show hl) ∎,L.nx l _ j _ e A p]
def xl(d:PE X o `bi)(h:QE X k e pe)(hs:do ĳ e (À<|.Attribute o f pos') pos.line X.env=pure Ç):QS X k lo (.Assign [.Attribute o f pos'] e pos) (yV X.K i r f pe):=by
 let#[g,a,b]:=h.h;show#[_,Jq d a hs,SO b]
def PD(K:aq)(i:Nat)(r:ah)(f:Str)(pe:bh)(D:Pd)(j:ag):yV K i r f pe D j=(pe `ag λt=>bZ t=Â/\i6 K j i r λu s=>qg K f u λc fs=>D.nx<|s<|.ins .o c<|jf f (aC t) fs):=rfl
end
end Pu
namespace L2
open PySem PySem.Spec PyProof.Rows
section
abbrev EV(K:aq):R2:=λx y H Q=>∃(l:ai)(a:ay)(n:Int),x=.ref l/\y=.int n/\bw K H l a/\0<=n/\n<=1000/\↑a<=100/\∀p,H p=Æ->Q `am (aU H p<|.af (Ë n.toNat a).flatten)
def Xz:cG X `cR (EV X.K):=by
 intro aa s j H x y v u Q I w z h;let#[l,G,n,rfl,rfl,m,C,D,o,q]:=h;cases w;∎;let#[t,rfl]:=z;let#[a,r,p1,J]:=I.list m;∎;have i:=↑r;let#[#[B,f,E,d],b,g,k,hd]:=p1.isList;simp only at g hd;subst g hd;have e:a.toArray.size*n.toNat<=100*1000:=by rw[á,<- i];show Β o ⋯
 show wpAny_binaryOp_repeat_ref (T:="list") (U:="int") ∎ #[_,b,rfl] (λA=>PySem.typeIs_int A n t) noFill_list_mul F.fills_int_mul F.slot_int_rmul repeat_list F.slot_int_index.lookup
  (aq7 F.slot_int_rmul (PySem.typeIs_int s n t) F.entry_int_rmul (F.args_int_rmul_2 _ _) (lm_int_rmul_list_any n t l a.toArray k f d)
   #[b,rfl,#[_,b,rfl],aq7 F.slot_list_mul #[_,b,rfl] F.entry_list_mul (F.args_list_mul_2 _ _)
    (lm_list_mul_any l a.toArray k f d n t (by simp[Builtin.List.listFitsIndex];omega) ⋯ (by rw[á] at e;simp[Builtin.List.listTooLong,Ò];omega))
    #[b,?_]])
 rw[listMul_foldl_if];show#[.ref _,_,I.vd (t':=s.toks) (r.rep n.toNat) ?_,rfl,q _ I.fresh];rw[List.length_flatten,ύ,List.sum_replicate_nat,i,ag5];rw[á] at e;show Ï e ∎
end
end L2
namespace Pu
open PySem L2 Vc Sf
section
abbrev wm(x y:Tr)(Q:aB):Prop:=match x,y with
 |.af _ [a],.int n=>Cl a=Â /\ 0 <= n /\ n <= 1000 /\ Q (.af .o<|Ë n.toNat a)
 |_,_=>False
mutual
theorem R.sJ:∀(t:Tr){v:V}{c:Cs},Cl t=Â->R K F B t v c->c=[]
 |.int _,_,_,_,h=>h.2
 |.bl _,_,_,_,h=>h.2
 |.str _,_,_,_,h=>h.2
 |.aN,_,_,_,h=>h.2
 |.ak,_,_,_,h=>h.elim
 |.ty _,_,_,_,h=>h.2
 |.cl _,_,_,_,h=>h.2
 |.exc _ _,_,_,_,h=>h.1
 |.aF xs,_,_,n,y=>by let#[a,vs,d,e,b]:=y;show Rs.sJ xs n b
 |.af .f xs,_,_,_,h=>h.1
 |.af .o xs,_,_,n,_=>nomatch n
 |.af (.l _) xs,_,_,n,_=>nomatch n
 |.aP .f xs,_,_,_,h=>h.1
 |.aP .o xs,_,_,n,_=>nomatch n
 |.aP (.l _) xs,_,_,n,_=>nomatch n
 |.ins .f _ xs,_,_,_,h=>h.1
 |.ins .o _ xs,_,_,n,_=>nomatch n
 |.ins (.l _) _ xs,_,_,n,_=>nomatch n
theorem Rs.sJ:∀(t:List Tr){v:List V}{c:Cs},fQ t=Â->Rs K F B t v c->c=[]
 |[],_,_,_,h=>h.2
 |x::xs,_,_,n,y=>by
  let#[v,r,c,d,f,a,b,e]:=y;have n:(Cl x&&fQ xs)=Â:=n;rw[å] at n;rw[a,R.sJ x n.1 b,Rs.sJ xs n.2 e];rfl
end
def Rs.rep(r:R K F B a v []):∀n:Nat,Rs K F B (Ë n a) (Ë n [v]).flatten []
 |0=>#[rfl,rfl]
 |n + 1=>#[v,(Ë n [v]).flatten,[],[],rfl,rfl,r,Rs.rep r n]
def Up:fk K k (EV K) wm:=λF B H x y U ty cx J Q I s b z E G A O hd p q=>by
 unfold wm at p;split at p
 .rename_i a n;∎;let#[D,C,p1,p2]:=p;let#[rfl,_]:=G;let#[l,vs,L,rfl,o,u,M,N]:=E.cE s b A;let#[v,r,c,d,rfl,rfl,e,#[rfl,rfl]]:=u;∎;rw[R.sJ a D e] at e;show#[_,_,_,rfl,rfl,o,C,p1,(show 1<=100 by decide),λl w=>uz (cx:=cx) s (Rs.rep e n.toNat) .nil (λ_ m=>nomatch m) w p2 λt v f i j h g r c m=>q t v f i j h g r c λp z=>(m p z).imp id .inl]
 .show p.elim
def xQ(d:QE X k a pa)(e:QE X k b pb):QE X k `ds (p2 wm pa pb):=qJ Xz Up d e
def SQ:wm (.af f [a]) `aY Q=(Cl a=Â/\0<=n/\n<=1000/\Q (.af .o<|Ë n.toNat a)):=rfl
end
section
variable{K:aq}{mg:br}{h:aW}{x qual:Str}{st:Ā}{ps:ah}{f c:ai}
set_option genInjectivity false in
set_option genSizeOf false in
structure dA(K:aq)(mg:br)(x:Str)(st:Ā)(ps:ah) where
 a:Ψ
 d:į
 F:iO K x x st a d
 b:Binds K d ps []
 m:mg x=À `aw
set_option genInjectivity false in
set_option genSizeOf false in
structure fx(K:aq)(c:ai)(x qual:Str)(st:Ā)(ps:ah) where
 a:Ψ
 d:į
 F:iO K x qual st a d
 b:Binds K d ps []
 t:Fs K c x a
set_option genInjectivity false in
set_option genSizeOf false in
structure vq(K:aq)(c:ai)(qual:Str)(st:Ā)(ps:ah) where
 a:Ψ
 d:į
 F:iO K "__init__" qual st a d
 b:Binds K d ps []
 t:Mk K c a
nonrec abbrev kR(x qual:Str)(st:Ā)(ps:ah):Prop:=∀(kV doc pm:ar)(an:bW)(bS ct:ar)(us:aT),us.length=↑ps->bindArgs (aj2 x qual (rF st) `bN `bb .none kV doc pm an bS ct) #[us,[]]=pure `bD
noncomputable def NO(X:K.In h)(G:h.Ns Š mg)(e:W.nsIn K Š x=À (À<|.ref f))(F:ie K x x st f)(a:kR x x st ps):dA K mg x st ps:=#[f,F.choose,F.choose_spec,F.choose_spec.binds a,W.mg_of X G e]
noncomputable def NQ(e:ċ K `bc x=À (À<|.ref f))(F:ie K x qual st f)(i:aj3 K `ax=Â)(a:kR x qual st ps):fx K c x qual st ps:=#[f,F.choose,F.choose_spec,F.choose_spec.binds a,#[e,i,F.kp]]
noncomputable def NP(e:ċ K `bc "__init__"=À (À<|.ref f))(F:ie K "__init__" qual st f)(i:aj3 K `ax=Â)(m:W.makesIn K c=Â)(k:ώ K `bc=Â)(a:kR "__init__" qual st ps):vq K c qual st ps:=#[f,F.choose,F.choose_spec,F.choose_spec.binds a,#[m,e,i,k]]
nonrec abbrev MT(K:aq)(c:ai)(vs:ay):Prop:=∃(o:Obj)(a:cS)(n:Nat),K.lookup c=À o/\o.cls=.type "tuple"/\o.data=.seq a n/\a.size<=Ò/\aH vs a.toList
def B1(e:ċ K `bc x=À Æ):bj K c x:=e
end
end Pu
namespace L2
section
open PySem PySem.W PySem.Builtin PySem.Builtin.ObjectAttr
@[inline] def ic:aT:=[.type "ValueError",.type "Exception",.type "BaseException",.type "object"]
abbrev og(K:ac7)(C F:ai):Bool:=(am6 K C).any λa=>a.mro == .ref C::.ref F::ic&&a.hasDict
section
variable{prog:ê}{w:Ă}{A:ą}{E:ar->ao->Prop}{s:ao}{K:ac7}{x C F:ai}{R:Result->ao->Prop}
def IJ{o:Obj}{od:Option Obj}{a:Str}{d:Tok}{v:ar}(X:K.In s.heap)(I:InstAt s.heap x o C od)(n:og K C F=Â)(ht:ċ K `ah a=À Æ)(h:Ú `ae A.in1 (storeInOwnDict `aZ `ah (.str a d) a v Ç)
   (λg s'=>match g with |.done f=>R (.ok f) s' |.again j=>j.quiet=Â/\Ϧ `ae A j R s') (λe s'=>R `bl s') s):
  Ϧ `ae A (.call (.builtin "object.__setattr__") #[[.ref x,.str a d,v],[]]) R s:=by
 have b:=PySem.F.store_object;let#[m,l,i]:=any_some n;simp only[å,beq_iff_eq] at i;have sub:Looks `ae s.heap (isInstance `aZ<|.type "object") Â:=I.type.andThen (looks_mroIn X (by unfold mroIn;rw[l,Option.bind_some,i.1,av3<|by show â];show av9 À (by unfold ic;simp only[at5,List.contains_nil];rw[show (Ŋ "object" == Ŋ "object")=Â from by decide];simp)));show af2 b.slot.plain b.entry<|@check_slot (Ü prog w) _ _ s "object.__setattr__" "object" "__setattr__" (.ref x) [.str a d,v] [] _ b.kind b.split sub (b.args (.ref x) (.str a d) v) ?_;have hm:Looks `ae s.heap (mroOf<|.ref C) m.mro:=(ae5 X l).andThen .now;rw[osa_eq,refuse_eq];show È<|È<|I.type.here<|È<|hm.here ?_;rw[i.1,refuseLoop_ref,refuseLoop_ref,show refuseLoop `aZ "__setattr__" ic=pure () from PySem.F.store_ValueError.passes _];show Þ<|È<|I.type.here<|È<|(ad0 X ht).here<|È<|Þ h
def Vd{vs:cS}{a:Str}{v:ar}{Q:Unit->ao->Prop}(X:K.In s.heap)(j:s.heap.get? x=À #[.ref C,Æ,.fields vs,([].toArray)])(D:og K C F=Â)(ht:ċ K `ah a=À Æ)(hs:ċ K `ah "__setattr__"=À (À<|.builtin "object.__setattr__"))(h:∀h' d,s.heap.get? d=Æ->h'.get? x=À #[.ref C,À d,.fields vs,([].toArray)]->(h'.Ns1 d λy=>if y=a then À v else Æ)->(∀b o,b≠x->s.heap.get? b=À o->h'.get? b=À o)->Q () { s with heap:=h',toks:=s.toks+2 }):
  Ú `ae A (setAttr `aZ a v) Q E s:=by
 have I:InstAt s.heap x #[.ref C,Æ,.fields vs,([].toArray)] C Æ:=#[j,rfl,rfl,trivial]
 show set_plain X I hs (IJ (s:={ s with toks:=s.toks+1 }) X I D ht ?_);let#[M,J,B]:=any_some D;simp only[å,beq_iff_eq] at B;have f:(s.heap.push { cls:=.type "dict",data:=.dict ([].toArray) }).get? x=À #[.ref C,Æ,.fields vs,([].toArray)]:=Ã _ j;have i:x≠⇑s:=é<|Ì j;show È (Þ (È (È (aq9 j (È (aq2 (s:={ s with toks:=s.toks+1 }) (ae5 X J) ?_))))));rw[B.2];show È<|wpAny_alloc' ?_;show È<|wpAny_update' f ?_;show Þ ?_;have q:((s.heap.push { cls:=.type "dict",data:=.dict ([].toArray) }).update x λo=>{ cls:=o.cls,dict:=À ⇑s,data:=o.data,slots:=o.slots }).get? ⇑s=À { cls:=.type "dict",data:=.dict ([].toArray) }:=
  (as9 _ _ _ _ i.symm).trans (av0 rfl rfl)
 have r:((s.heap.push { cls:=.type "dict",data:=.dict ([].toArray) }).update x λo=>{ cls:=o.cls,dict:=À ⇑s,data:=o.data,slots:=o.slots }).Ns ⇑s (λ_=>Æ):=
  #[_,([].toArray),_,q,rfl,λe L=>av5 L ∅,λ_=>rfl]
 change Ú _ _ (am2 ⇑s (.str a _) a v) _ _ _;unfold am2 newKeyGuard;show È<|Þ<|È<|wpAny_nsSet1 (aq0 r) λh' g hs=>?_;let#[N,H,G,u,n,m]:=g.count<|Within.cons a v Within.nil;show È (al5 u (by rw[n];show al2 (Ï m (by rw[Ö,ϔ,Į];omega))) ?_);show Þ<|h h' _ (Ņ<|Î _) ?_ g λb O l z=>?_
 .show (hs.2 x i).trans (Ē _ f rfl)
 .show (hs.2 b<|é<|Ì z).trans ((as9 _ _ _ _ l).trans<|Ã _ z)
def Ve{vs:cS}{a:Str}{v:ar}{d:ai}{m:br}{ns:ah}{Q:Unit->ao->Prop}(X:K.In s.heap)(l:s.heap.get? x=À #[.ref C,À d,.fields vs,([].toArray)])(hd:s.heap.Ns1 d m)(j:og K C F=Â)(ht:ċ K `ah a=À Æ)(hs:ċ K `ah "__setattr__"=À (À<|.builtin "object.__setattr__"))(u:Within m ns)(hz:↑ns<=1000)(h:∀h',(h'.Ns1 d λy=>if y=a then À v else m y)->ϳ d s.heap h'->Q () { s with heap:=h',toks:=s.toks+2 }):
  Ú `ae A (setAttr `aZ a v) Q E s:=by
 let#[od,H,G,n,B,D]:=id hd;have I:InstAt s.heap x #[.ref C,À d,.fields vs,([].toArray)] C (À od):=#[l,rfl,rfl,n];show set_plain X I hs (IJ (s:={ s with toks:=s.toks+1 }) X I j ht ?_);let#[z,r,i]:=any_some j;simp only[å,beq_iff_eq] at i;show È (Þ (È (È (aq9 l (È (aq2 (s:={ s with toks:=s.toks+1 }) (ae5 X r) ?_))))));rw[i.2];show Þ ?_;change Ú _ _ (am2 d (.str a _) a v) _ _ _;unfold am2 newKeyGuard;show È (Þ (È (wpAny_nsSet1 (s:={ s with toks:=s.toks+1 }) hd λh' b hs=>?_)));let#[J,q,o,g,f,e]:=b.count<|Within.cons a v u;show È (al5 g (by rw[f];show al2 (Ï e (by rw[Ö,Į];omega))) ?_);show Þ<|h h' b hs
end
def Vf{K:ac7}{h:aW}{N:ai}{m:br}{n:Str}{v:ar}(X:K.In h)(G:h.Ns N m)(e:nsIn K N n=À (À v)):m n=À v:=by
 let#[o,g,f,b,hd,_,a]:=G;unfold nsIn at e;split at e
 .rename_i c d es' n' sl q;have:=X _ _ q;rw[b] at this;cases this;cases hd;split at e
  .rename_i en he;cases e;rw[<- a];unfold nsFind findBy;rw[<- ar5,he];rfl
  .split at e<;>cases e
 .cases e
inductive fX (K:ac7) (C fI:Ψ):Prop
 |mk {o:Obj} {dd:Option Ψ} {cd:af9} {sl:Array (Option ϥ)} {bm:List ϥ} {k0 k1 k2 k3 k5:Option ϥ} (_:K.lookup C=À o) (_:o = ⟨.type "type",dd,.cls cd,sl⟩) (_:cd.mro=.ref C::bm) (_:sl.toList=[k0,k1,k2,k3,À (.builtin "ValueError.__new__"),k5]) (_:cd.hasDel=Ç) (_:tailIn K ic bm=Â) (_:nsOkIn K cd.ns=Â) (_:nsIn K cd.ns "__init__" = À (À (.ref fI))):fX K C fI
def HD{K:ac7}{h:aW}{C e:ai}(X:K.In h)(q:fX K C e):
  ∃bm N nm g bs hd sn sub ab col dd k0 k1 k2 k3 k5 mN,h.get? C=À (aa8 nm g C N bs bm hd sn sub ab col dd k0 k1 k2 k3 k5 "ValueError.__new__")/\h.Ns N mN/\mN "__init__"=À `bk/\OwnTail h ic bm:=by
 let#[m,rfl,hm,f,b,l,a,d]:=q;rename_i i o _ _ _ _ _ _;let#[nm,bs,n,ns,g,hd,sn,sub,ab,col,j]:=i;dsimp only at hm b a d;let#[r]:=o;simp only at f;subst hm b f;show#[_,_,_,_,_,_,_,_,_,_,_,_,_,_,_,_,_,X _ _ m,.of_isNs<|isNs_of_in X a,Vf X (.of_isNs<|isNs_of_in X a) d,tail_of_in X l]
section
variable{prog:ê}{w:Ă}{A:ą}{E:ar->ao->Prop}{h:aW}{g:Array ap9}{d:Drawn}{t:Nat}{os:OsState}
variable{nm q:Str}{C N:ai}{bs bm:aT}{hdct:Bool}{sn:ah}{sub:aT}{ab:Bool}{col:Option Bool}{dd:bW}{k0 k1 k2 k3 k5:du}
def RD(T:OwnTail h ic bm){mN:br}{rest:aT}{s:ai}{z:Obj}{Q:Fin->ao->Prop}(n:h.get? C=À (aa8 nm q C N bs bm hdct sn sub ab col dd k0 k1 k2 k3 k5 "ValueError.__new__"))(hn:h.Ns N mN)(D:mN "__init__"=À (.ref s))(v:h.get? s=À z)(y:z.cls=.type "function")(f:↑rest<=1000)(G:∀h' e,Heap.MadeExcOf h h' e `ah rest->h.objs.size<=e->
   Ú `ae A (call (.ref s) (.ref e::rest)) (λr s'=>r=.none/\Q (.done<|.ret<|.ref e) s') E #[h',g,d,t,os]):
  Ú `ae A (Ţ.«type.__call__» #[.ref C::rest,[]]) Q E #[h,g,d,t,os]:=by
 have F:=PySem.F.excBase_ValueError;have f:↑rest<=Ò:=by rw[Į];omega
 repeat (first |with_reducible show Ų n ?_ |with_reducible show wpAny_madeBy_exc n ?_ |wp_step)
 show codeAny_call_builtin_code (at9 _ F.quiet)<|wpAny_check_new_subT F T n ?_;show codeAny_exc_new_subT F T n ?_ f;change Ú _ _ _ _ _ _;have a:=Ã { cls:=.ref C,data:=.fields ([.ref h.objs.size,.none,.none,.none,.bool Ç,.none].toArray) }
  (Ã { cls:=.type "tuple",data:=.seq rest.toArray } n)
 have i:=Ã { cls:=.ref C,data:=.fields ([.ref h.objs.size,.none,.none,.none,.bool Ç,.none].toArray) }
  (Ã { cls:=.type "tuple",data:=.seq rest.toArray } v)
 have l:((h.push { cls:=.type "tuple",data:=.seq rest.toArray }).push { cls:=.ref C,data:=.fields ([.ref h.objs.size,.none,.none,.none,.bool Ç,.none].toArray) }).Ns N mN:=
  let ⟨o,es,ep,e,r⟩:=hn;#[o,es,ep,Ã _<|Ã _ e,r]
 have j:((h.push { cls:=.type "tuple",data:=.seq rest.toArray }).push
   { cls:=.ref C,data:=.fields ([.ref h.objs.size,.none,.none,.none,.bool Ç,.none].toArray) }).get? (h.objs.size+1)=À
   { cls:=.ref C,data:=.fields ([.ref h.objs.size,.none,.none,.none,.bool Ç,.none].toArray) }:=by heap_get
 have u:(Ý C::bm).contains `ah=Â:=by simp
 have m:=T.keeps (h':=(h.push { cls:=.type "tuple",data:=.seq rest.toArray }).push { cls:=.ref C,data:=.fields ([.ref h.objs.size,.none,.none,.none,.bool Ç,.none].toArray) })
  λb o e=>Ã _<|Ã _ e
 unfold isInstance
 repeat (first |with_reducible show Ų j ?_ |(with_reducible show wpAny_isSubtype_exc a ?_;rw[u]) |wp_step)
 change Ú _ _ (aq8 (.ref C) _) _ _ _;show wpAny_typeLookup_tail a l m F.mroIs F.init.lookup ?_;rw[D];show Ŗ<|È ?_;unfold bindSpecial;show È<|wpAny_typeOf (T:="function") #[_,i,y] ?_;rw[av4 ∎];show Þ<|È<|Đ (G _ (h.objs.size+1) #[λb o B=>Ã _<|Ã _ B,Ņ<|ai4 _,h.objs.size,j,Ņ<|Î _,?_]<|ai4 _) (λr s' H=>?_) λ_ _ x=>x
 .show Ã _ (av0 rfl rfl)
 .obtain⟨rfl,hQ⟩:=H
  wp_walk
  show hQ
def SR(T:OwnTail h ic bm){mN:br}{rest:aT}{f:ai}{l:Obj}{Q:ar->ao->Prop}(b:h.get? C=À (aa8 nm q C N bs bm hdct sn sub ab col dd k0 k1 k2 k3 k5 "ValueError.__new__"))(hn:h.Ns N mN)(m:mN "__init__"=À `ax)(i:h.get? f=À l)(j:l.cls=.type "function")(a:↑rest<=1000)(o:∀h' e,Heap.MadeExcOf h h' e `ah rest->h.objs.size<=e->
   Ú `ae (A.under<|.builtin "type.__call__" #[.ref C::rest,[]]) (call `ax (.ref e::rest)) (λr s'=>r=.none/\Q `bk s') E #[h',g,d,t,os]):
  Ú `ae A (call `ah rest) Q E #[h,g,d,t,os]:=by
 have s:=tc_lookup;have u:=tc_bind<|.ref C;have v:(#[h,g,d,t,os]:ao).TypeIs `ah "type":=#[_,b,rfl]
 show ad9<|codeAny_of_tree ?_;change Ú _ _ (callAny `ah _) _ _ _
 repeat (any_goals (first |assumption |with_reducible show Ų b ?_ |wp_step))
 show#[rfl,?_];show codeAny_call_builtin_at (at9 _<|by decide +kernel) entry_typeCall<|wpAny_check_type_call_sub b<|RD T b hn m i j a λh' e hm n=>?_;show o h' e hm n
def SS(T:OwnTail h ic bm)(f:h.get? C=À (aa8 nm q C N bs bm hdct sn sub ab col dd k0 k1 k2 k3 k5 "ValueError.__new__")){e:ai}{od:bW}{m:ai}{u:ar}{Q:ar->ao->Prop}(a:h.get? e=À #[.ref C,od,.fields<|[.ref m,.none,.none,.none,.bool Ç,.none].toArray,([].toArray)])(l:∀h' t',h.get? t'=Æ->h'.get? e=À #[.ref C,od,.fields<|[.ref t',.none,.none,.none,.bool Ç,.none].toArray,([].toArray)]->(∀b o,b≠e->h.get? b=À o->h'.get? b=À o)->Q .none #[h',g,d,t,os]):
  Ú `ae A (call (.builtin "ValueError.__init__") [.ref e,u]) Q E #[h,g,d,t,os]:=by
 have F:=PySem.F.excBase_ValueError;show ad9<|af2 F.init.plain F.initEntry<|wpAny_check_init_subU F T f a rfl ?_
 wp_walk
 show l _ h.objs.size (Ņ<|Î _) ?_ λb o i j=>?_
 .rw[Ē _ (Ã _ a) rfl];rfl
 .rw[ü _ _<|đ i];show Ã _ j
end
end
end L2
namespace L2
open PySem PySem.Spec PyProof.Rows
section
variable{M:Model}{A:ą}{E:ar->ao->Prop}{env:Env}
variable{nm q:Str}{C N:ai}{bs bm:aT}{hdct:Bool}{sn:ah}{sub:aT}{ab:Bool}{col:Option Bool}{dd:bW}{k0 k1 k2 k3 k5:du}{newId:String}
def PV{s:ao}{x:Sem ϥ}{Q:Flow->ao->Prop}(b:bm.contains (.type "BaseException")=Â)(n:A.handled=Æ)(h:Ú M A x (λv a=>∃e od t,v=.ref e/\a.heap.get? C=À (aa8 nm q C N bs bm hdct sn sub ab col dd k0 k1 k2 k3 k5 newId)/\
   a.heap.get? e=À #[.ref C,od,.fields<|[.ref t,.none,.none,.none,.bool Ç,.none].toArray,([].toArray)]/\E `bk a) E s):
  Ú M A (raiseStmt env (À x) Æ) Q E s:=by
 have i:(Ý C::bm).contains (.type "BaseException")=Â:=by rw[at5,b,Bool.or_true]
 unfold raiseStmt;show È<|Đ h (λv a f=>?_) λ_ _ x=>x;let#[e,od,t,rfl,j,m,l]:=f;let#[o,g,d,r,os]:=a
 repeat (first |with_reducible show Ų m ?_ |with_reducible show Ų j ?_ |(with_reducible show wpAny_isSubtype_exc j ?_;rw[i]) |wp_step)
 show wpAny_raiseNew_none n l
end
abbrev XO(C e:ai)(od:bW):HO:=.ext λh=>∃t:Ψ,h.get? e=À #[.ref C,od,.fields<|[.ref t,.none,.none,.none,.bool Ç,.none].toArray,([].toArray)]
def B8{P:ê}{w:Ă}{H:Hp}{h:aW}{C e t:ai}{od:bW}(x:h.get? e=À #[.ref C,od,.fields<|[.ref t,.none,.none,.none,.bool Ç,.none].toArray,([].toArray)]):bc P w H h e (XO C e od):=#[#[t,x],#[_,x],λ_ _ ⟨t,z⟩ k=>#[t,k _ z]]
def LI{fs:List (Str×V)}{m:br}(r:∀f,cq `aD<|m f):PySem.Within m (fs.map (·.1)):=λy a=>by
 have:=r y;cases z:fs.lookup y with
 |none=>rw[z] at this;cases q:m y with
  |none=>show av5 q a
  |some u=>rw[q] at this;show this.elim
 |some v=>
  clear this r a
  induction fs with
  |nil=>cases z
  |cons p d b=>
   rw[Ċ] at z;by_cases e:y=p.1
   .show .head _ |> (e ▸ ·)
   .rw[show (y == p.1)=Ç by simpa using e] at z;show .tail _<|b z
def KN{P:ê}{w:Ă}{H:Hp}{h:aW}{d:ai}{fs:List (Str×V)}{m:br}(x:h.Ns1 d m)(y:∀f,cq `aD<|m f):bc P w H h d (XD d fs):=#[#[m,x,y],let ⟨o,_,_,e,_⟩:=x;#[o,e],λ_ _ ⟨m,z,y⟩ k=>#[m,z.at k,y]]
def IK{fs:List (Str×V)}{m:br}{f:Str}{v:V}{u:ar}(r:∀f,cq `aD<|m f)(q:aE v u)(g:Str):cq (((f,v)::fs).lookup g) (if g=f then À u else m g):=by
 rw[Ċ];by_cases e:g=f
 .rw[av4 e,e,aw0];show q
 .rw[av3 e,show (g == f)=Ç by simpa using e];show r g
def z'w{H:Hp}{a:ai}{o:HO}(h:H a=À o):aU H a o=H:=by
 funext b;unfold aU;split
 .subst_vars;show h.symm
 .rfl
structure rM(K:aq)(C F fI:ai):Prop where
 ex:fX K C fI
 ov:og K C F=Â
 sa:ċ K `ah "__setattr__"=À (À<|.builtin "object.__setattr__")
 kp:ώ K `ah=Â
 fn:aj3 K (.ref fI)=Â
 rd:W.readsIn K F (.type "type")=Â
 sp:ak4 K (.ref F) "__getattribute__"=À (À<|.builtin "type.__getattribute__")
 fc:W.findCls K (.ref F) (.type "type") "__init__"=À (.val<|.builtin "ValueError.__init__")
section
variable{X:Cx}
def GC{M:Model}{A:ą}{E:ar->ao->Prop}{s:ao}{env:Env}{pos:Pos}{id:String}{e:ě}{rest:b5}{Q:ar->ao->Prop}(h:Ú M A (spliced<|Ϗ pos<|ē (e::rest) env) (λvs b=>Ú M A (call `aQ vs) Q E b) E s)(d:fA e rest env)(a:gq pos rest env):Ú M A (callWith pos `aQ [] (Ϗ pos<|ē (e::rest) env) []) Q E s:=by
 rw[d] at h ⊢;show PySem.Calls.callWith_builtin (by change (Ç || (Ϗ pos (ē rest env)).any (·.1))=Ç;rw[a];rfl)<|PySem.Calls.evalArgs_plain h
abbrev KH(C:ai)(t:TA):TE:=λj H Q=>t j H λvs a=>∃e od u,vs=[.ref e,u]/\a e=À (XO C e od)/\Q .aN a
def LJ{C F fI:ai}{x:Str}{G m pos:Pos}{l i:ě}{t:TA}{pl:Sem Bool}(c:rM X.K C F fI)(hg:Gl X x)(hm:X.mg x=À (.ref F))(ha:PA X [l,i] t)(A: ~~~(dY x))(E:do fA l [i] X.env)(D:do gq pos [i] X.env)(ht:eval (.Call (.Attribute (.Name x G) "__init__" m) [l,i] [] pos) X.env=(do
   let ov <- eval (.Name x G) X.env
   ag2 m.atName
   let (f,first) <- holding [ov] (getMethod ov "__init__" pl)
   callWith pos f first (Ϗ pos<|ē [l,i] X.env) (aj4 pos<|aa9 [] X.env)):=by rfl):
  PE X (.Call (.Attribute (.Name x G) "__init__" m) [l,i] [] pos) (KH C t):=by
 intro aa s j H Q I h;show al0 (pl:=pl) (oH I hg hm ?_ A) ht;show W.method_cls I.dh c.sp<|W.cls_value I.dh c.rd c.fc rfl ?_;have O:=I.tok<|s.toks+1;show GC (bu (ha pos aa _ j H _ O h) λus s1 J=>?_) E D;let#[vs,M,y,r,e,od,u,Y,B,q]:=J;subst Y;obtain⟨w,n,rfl,rx,r1⟩:∃w n,us=w::n/\aE `bk w/\aH [u] n:=by cases r with |cons a b=>show#[_,_,rfl,a,b]
 let#[u2,rfl,ru]:=lp r1;obtain rfl:w=Ý e:=rx;∎;let#[bm,N,nm,qn,bs,hd,sn,sub,ab,U,dd,k0,k1,k2,k3,k5,mN,hC,_,_,T]:=HD y.dh c.ex;let#[#[t0,ho],_,_]:=y.aS e _ B;let#[hp,g,d,tk,os]:=s1;∎;show SS T hC ho λh' t' _ v hk=>?_
 have L:=y.write (x:=e) (e:=e) (o:=XO C e od) (h':=h') (t':=tk) (by rw[B];show ô) `ao (λb u hb z=>hk b u hb z) #[_,v]<|B8 v;rw[z'w B] at L;show#[.aN,M,L,rfl,q]
abbrev CQ(C:ai)(g h:TE)(f:Str):TS:=λD j H=>h j H λy b=>g j b λx a=>∃e,x=.ref e/\
 ((a e=À `dZ/\∀d,a d=Æ->d≠e->D.nx j (aU (aU a d<|XD d [(f,y)]) e<|XO C e<|À d))\/
  ∃d fs,a e=À (XO C e<|À d)/\a d=À (XD d fs)/\↑fs<=900/\D.nx j (aU a d<|XD d ((f,y)::fs)))
def KO{C F fI:ai}{o value:ě}{f:Str}{pos l:Pos}{ta tv:TE}(c:rM X.K C F fI)(nf:ċ X.K `ah f=À Æ)(ha:PE X o ta)(hv:PE X value tv)(hs:ĳ value (À<|.Attribute o f l) pos.line X.env=pure Ç):PS X (.Assign [.Attribute o f l] value pos) (CQ C ta tv f):=by
 intro aa s j H D I h;show ak5 (bu (hv aa s j H _ I h) λu s1 Y=>?_) hs;let#[y,H1,I1,ry,q]:=Y;show bu (ha aa s1 j H1 _ I1 q) λov s2 α=>?_
 let#[x,r,a,rx,e,ex,M]:=α;subst ex;obtain rfl:ov=Ý e:=rx;rcases M with⟨B,M⟩ |⟨d,ns,B,hd,hz,M⟩
 .obtain⟨⟨t0,ho⟩,_,_⟩:=a.aS e _ B;show Vd a.dh ho c.ov nf c.sa λh' d c9 L O N=>?_
  have Q:d≠e:=λz=>by rw[z,ho] at c9;cases c9
  have E:r d=Æ:=by
   cases z:r d with
   |none=>rfl
   |some v=>let#[o',e']:=(a.aS d v z).has;rw[c9] at e';cases e'
  have nd:∀b v,r b=À v->b≠d:=λb v z w=>by rw[w,E] at z;cases z
  have up:∀b v,r b=À v->b≠e->aU (aU r d<|XD d [(f,y)]) e (XO C e<|À d) b=À v:=λb v z n=>by rw[ba n,ba<|nd b v z];show z
  have ne:∀b v,r b=À v->v≠XO C e Æ->b≠e:=λb v z n w=>by rw[w,B] at z;cases z;show n rfl
  have U:∀b,r b=Æ->b≠e:=λb z w=>by rw[w,B] at z;cases z
  show#[j,_,a.un (t':=s2.toks+2) #[λb o z n _ _=>N b o (U b n) z,λb o z n _ _=>#[o.slots,N b o (U b n) z],λb o z n _=>?_,λb o z _=>?_,λb xs z=>up b _ z (ne b _ z λw=>by cases w),λb o u z=>up b _ z (ne b _ z λw=>by cases w),
   λb ps z=>#[([].toArray),by rw[Array.append_empty];show up b _ z<|ne b _ z λw=>by cases w]] λb v z=>?_,M d E Q]
  .rw[ba<|U b n,ba (λw=>by rw[w,c9] at z;cases z)];show n
  .by_cases i:b=e
   .show#[_,by rw[i];show L]
   .show#[o,N b o i z]
  .by_cases i:b=e
   .subst i;rw[dk] at z;cases z;show B8 L
   .rw[ba i] at z;by_cases G:b=d
    .subst G;rw[dk] at z;cases z;show KN O λg=>IK (fs:=[]) (m:=λ_=>Æ) (λ_=>ô) ry g
    .rw[ba G] at z;show (a.aS b v z).e5 (λc o A q=>N c o (λw=>?_) q) (λc q=>up c _ q<|ne c _ q λw=>by cases w) λc xs q=>up c _ q (ne c _ q λw=>by cases w)
     rcases A with A |A
     .show i (A.symm.trans w)
     .rw[w,B] at A;cases A
 .obtain⟨⟨t0,ho⟩,_,_⟩:=a.aS e _ B;let#[#[m,hm,hr],_,_]:=a.aS d _ hd;show Ve a.dh ho hm c.ov nf c.sa (LI hr) (by rw[Å];omega) λh' J sb=>?_
  have I3:=a.write (x:=d) (e:=d) (o:=XD d ((f,y)::ns)) (h':=h') (t':=s2.toks+2) (by rw[hd];show ô) `ao (λb u i z=>(sb.2 b i).trans z) (let ⟨o,_,_,e,_⟩:=J;#[o,e])<|KN J λg=>IK hr ry g;show#[j,_,I3,M]
abbrev kX(K:aq)(H:Hp)(a:ai)(xs:ay):Prop:=bw K H a xs\/cR K H a xs
def kX.on{K:aq}{a:ai}{xs:ay}{H b:Hp}(q:kX K H a xs)(k:∀u,(∀d,u≠.ext d)->H a=À u->b a=À u):kX K b a xs:=by
 rcases q with (r |r) |(r |r)
 .rcases r with r |⟨o,r⟩
  .show .inl (.inl (.inl (k _ (λ_ w=>by cases w) r)))
  .show .inl (.inl (.inr ⟨o,k _ (λ_ w=>by cases w) r⟩))
 .show .inl (.inr r)
 .rcases r with r |⟨o,r⟩
  .show .inr (.inl (.inl (k _ (λ_ w=>by cases w) r)))
  .show .inr (.inl (.inr ⟨o,k _ (λ_ w=>by cases w) r⟩))
 .show .inr (.inr r)
abbrev mV(H:Hp)(xs ys:ay)(l m d:ai):Hp:=aU (aU (aU H l<|.af xs) m<|.af ys) d<|XD d [("weights",.ref m),("numbers",.ref l)]
abbrev yu(H:Hp)(xs ys:ay)(l m d:ai):Prop:=H l=Æ/\aU H l `bV m=Æ/\aU (aU H l<|.af xs) m (.af ys) d=Æ
def nI{H:Hp}{a b:ai}{o:HO}(h:aU H a o b=Æ):b≠a/\H b=Æ:=by
 by_cases z:b=a
 .rw[z,dk] at h;cases h
 .rw[ba z] at h;show#[z,h]
abbrev zw(K:aq)(C:ai):Sp:=λvs H Q _=>∃e a b g h,vs=[.ref e,.ref a,.ref b]/\H e=À `dZ/\kX K H a g/\kX K H b h/\∀f l m d,f e=À (XO C e<|À d)->(∀x,x≠e->f x=mV H g h l m d x)->yu H g h l m d->Q .aN f
def XA{K:aq}{C e a b:ai}{xs ys:ay}{D:Ends}{N:ah}{H:Hp}{z:V}(g:H e=À `dZ)(v:kX K H a xs)(A:kX K H b ys)(q:∀i l m d,i e=À (XO C e<|À d)->(∀x,x≠e->i x=mV H xs ys l m d x)->yu H xs ys l m d->D.nx (start N [.ref e,.ref a,.ref b]) i):
  wu (tO<|KH C<|ng (hJ 0)<|ng (tC z) nr) (wu (CQ C (hJ 0) (vl (λxs H Q=>∃p ys,xs=[.ref p]/\(bw K H p ys\/cR K H p ys)/\∀l,H l=Æ->Q `cy (aU H l<|.af ys))<|ng (hJ 1) nr) "numbers")
   (CQ C (hJ 0) (vl (λxs H Q=>∃p ys,xs=[.ref p]/\(bw K H p ys\/cR K H p ys)/\∀l,H l=Æ->Q `cy (aU H l<|.af ys))<|ng (hJ 2) nr) "weights")) D (start N [.ref e,.ref a,.ref b]) H:=by
 show#[.ref e,rfl,e,Æ,z,rfl,g,#[.ref a,rfl,a,xs,rfl,v,λl h=>#[.ref e,rfl,e,rfl,.inl #[?_,λd hd f=>?_]]]]
 .rw[ba λw=>by rw[<- w,g] at h;cases h];show g
 let#[dl,j]:=nI hd;show#[.ref b,rfl,b,ys,rfl,A.on λu n z=>?_,λm hm=>#[.ref e,rfl,e,rfl,.inr #[d,[("numbers",.ref l)],?_,?_,(show (1:Nat)<=900 by decide),q _ l m d ?_ (λx B=>?_) ?_]]]
 .have b1:b≠e:=λw=>by rw[w,g] at z;show n _ (Ø z).symm
  have r:b≠d:=λw=>by rw[w,j] at z;cases z
  have s:b≠l:=λw=>by rw[w,h] at z;cases z
  rw[ba b1,ba r,ba s];show z
 all_goals
  let#[o,hm]:=nI hm;let#[md,hm]:=nI hm
 .rw[ba o.symm,dk]
 .rw[ba md.symm,ba f,dk]
 .rw[ba f.symm,ba o.symm,dk]
 .unfold mV;by_cases z:x=d
  .rw[z,dk,dk]
  .rw[ba z,ba z];by_cases y:x=m
   .rw[y,dk,dk]
   .rw[ba y,ba y,ba B,ba z]
 .show#[h,hm,by rw[ba md.symm];show hd]
abbrev Eu(K:aq)(C:ai)(E:XK)(h:TA):TS:=λ_ j H=>h j H λvs e=>∃a b f g,vs=[.ref a,.ref b]/\kX K e a f/\kX K e b g/\∀l m d,yu e f g l m d->E `ah (À d) (mV e f g l m d)
def SU{E:XK}{x:Str}{np O pos:Pos}{B y:ě}{t:TA}{C F fI:ai}{fd:į}{ps:ah}{k:Nat}(hs:X.stack=X.env::X.outer)(hf:X.env.frame=À X.env.locals)(η:X.ex=[])(υ:rn X E)(γ:X.calm=Â)(hg:Gl X x)(hm:X.mg x=À `ah)(c:rM X.K C F fI)(G:aK X.prog X.w X.K X.mg X.base bM k fI fd ps (zw X.K C))(hr:bD (k+1) X.A)(hb:Binds X.K fd ps [])(ha:PA X [B,y] t)(ν: ~~~(dY x))(τ:do fA B [y] X.env)(σ:do gq O [y] X.env):
  PS X (.Raise (À<|.Call (.Name x np) [B,y] [] O) Æ pos) (Eu X.K C E t):=by
 intro aa s j H D I h;let#[bm,N,nm,qn,bs,hd,sn,sub,ab,col,dd,k0,k1,k2,k3,k5,mN,hC,hN,π,T]:=HD I.ok.mod.nU c.ex;rw[arm_exec_Raise];show È<|Ϸ<|PV (C:=C) (nm:=nm) (q:=qn) (N:=N) (bs:=bs) (bm:=bm) (hdct:=hd) (sn:=sn) (sub:=sub) (ab:=ab) (col:=col) (dd:=dd) (k0:=k0) (k1:=k1) (k2:=k2) (k3:=k3) (k5:=k5) (newId:="ValueError.__new__") (T.hasType PySem.F.excBase_ValueError.hasBase) (I.ok.hd γ)<|È<|Đ (Ħ<|oH I hg hm ?_ ν) (λv χ κ=>È<|Ϸ<|Þ κ) λ_ _ x=>x;show ac8 (h₀:=X.base) I.ok.mod.nU c.kp (bu (ha O aa s j H _ I h) λus s1 φ=>?_) τ σ;let#[vs,L,U,r,a,b,M,ys,ev,sa,sb,q1]:=φ;show#[U.dh,?_];subst ev;have ι:↑us=2:=r.length.symm;let#[hp,g,dr,tk,os]:=s1;have ε:∃oI,hp.get? fI=À oI/\oI.cls=.type "function":=by
  let#[o,ho,z]:=am0.mp<|beq_iff_eq.mp c.fn;show#[o,U.dh _ _ ho,z]
 let#[oI,ε,ξ]:=ε;show SR (T.keeps U.bk) (U.bk _ _ hC) (hN.keeps U.bk) π ε ξ (by change ↑us<=1000;omega) λh' e i θ=>?_
 let#[t,ht,ψ,ω]:=i.there;have β:L e=Æ:=U.aS.fresh θ;have J:ax X aa j (aU L e<|XO C e Æ) #[h',g,dr,tk,os]:=U.laid (t':=tk) i.keeps θ<|B8 ht;have on:∀{a M},kX X.K L a M->kX X.K (aU L e<|XO C e Æ) a M:=λ{a M} q=>q.on λu _ z=>by rw[ba λw=>by rw[w,β] at z;cases z];show z
 have GG:(Ý e::us++[]).length=↑ps:=by
  have z:=G.len [.ref e,.ref a,.ref b] (aU L e<|XO C e Æ) (λ_ _=>True) (λ_ _ _=>False) #[e,a,b,M,ys,rfl,dk,on sa,on sb,λ_ _ _ _ _ _ _=>trivial];rw[<- z];simp[ι]
 show ad9 (Ξ (G.run _ X.stack _ (aU L e<|XO C e Æ) #[.ref e::us,[]] (.ref e::us++[]) [.ref e,.ref a,.ref b] (λv H'=>v=.aN/\∃l m d,H' e=À (XO C e<|À d)/\(∀x,x≠e->H' x=mV (aU L e<|XO C e Æ) M ys l m d x)/\yu (aU L e<|XO C e Æ) M ys l m d) (λ_ _ _=>False) (hr.make _ _ _) (J.nQ.make C us []) (hb _ (.ref e::us) J.dh GG) (by rw[Č];show .cons rfl r) #[e,a,b,M,ys,rfl,dk,on sa,on sb,λH' l m d h1 h2 h3=>#[rfl,l,m,d,h1,h2,h3]]) λr s' hq=>?_);cases r with
 |error x=>show ò hq
 |ok fl=>
 cases fl with
 |next=>show ò hq
 |brk=>show ò hq
 |cont=>show ò hq
 |ret u=>
 let#[v,H',ρ,bare,un,aS,rv,rfl,l,m,d,δ,Y,hl,hm,hd]:=hq;obtain rfl:u=Ŧ:=rv;let#[#[t1,ζ],_,_]:=aS e _ δ;have ne:∀b o,hp.get? b=À o->b≠e:=λb o z w=>by rw[w,i.new] at z;cases z
 have nt:∀b v,L b=À v->b≠e:=λb v z w=>by rw[w,β] at z;cases z
 ∎;let#[le,hl]:=nI hl;let#[ml,hm]:=nI hm;let#[me,hm]:=nI hm;let#[dm,hd]:=nI hd;let#[dl,hd]:=nI hd;let#[de,hd]:=nI hd;∎;have α:mV L M ys l m d e=Æ:=by unfold mV;rw[ba de.symm,ba me.symm,ba le.symm];show β
 have Y:∀x,x≠e->H' x=mV L M ys l m d x:=λx hx=>by
  rw[Y x hx];unfold mV;have k:∀(P Q:Hp) a o,P x=Q x->aU P a o x=aU Q a o x:=λP Q a o z=>by
   by_cases w:x=a
   .rw[w,dk,dk]
   .rw[ba w,ba w];show z
  show k _ _ _ _<|k _ _ _ _<|k _ _ _ _<|ba hx
 have I4:ax X aa j (mV L M ys l m d) s':=U.eO (ch:=[]) (ρ.trans rfl) #[λb o z n f x=>un.keep b o `bQ (by rw [ba<|ne b o z];show n) f x,λb o z n f x=>un.slot b o `bQ (by rw [ba<|ne b o z];show n) f x,λb o z n x=>by rw [<- Y b (ne b o z)];show un.free b o `bQ (by rw [ba<|ne b o z];show n) x,
  λb o z x=>un.there b o `bQ x,λb _ z=>by rw[<- Y b `eK];show un.eC b _ (by rw[ba<|nt b _ z];show z),λb _ _ z=>by rw[<- Y b `eK];show un.bz b _ _ (by rw[ba<|nt b _ z];show z),λb ps z=>by rw[<- Y b `eK];show un.e7 b ps (by rw[ba<|nt b _ z];show z)] (λb v z=>?_) bare (λb z=>av5 z<|by simp)
 .show#[rfl,e,À d,t1,rfl,I4.bk _ _ hC,ζ,?_];have up:∀b,hp.get? b=Æ->X.s₀.heap.get? b=Æ:=λb z=>by
   cases q:X.s₀.heap.get? b with
   |none=>rfl
   |some o=>let#[o',e']:=U.base.there b o q (by rw[η];simp);rw[z] at e';cases e'
  rw[υ];have ο:∀env∈X.env::X.outer,∀a,env.frame=À a->a∈e::cO X.stack:=λenv he a hf=>.tail _ (by rw[hs];show xw env he a hf)
  show FU (base:=ž s'.heap (e::cO X.stack)) (a0:=.ref t1) (by rw[I4.ok.frames,hs]) (ab5 (hs ▸ I4.stack) ο) hf ζ (λb o q=>ad1 _ q)
   (Ϝ _<|.head _) rfl rfl rfl rfl λh2 hL μ=>?_
  let#[l1,_,l3,l4]:=hL;show Bm hs hf η I4 (bad:=[e]) (λb hb=>by
   rcases ã.mp hb with z |hb
   .show .inl (by rw[z];show .head _)
   .show .inr hb) (λb hb=>by
   have z:b=e:=by simpa using hb
   rw[z];show#[up _ i.new,α]) l1 l4 l3 μ (up _ i.new) α (q1 l m d #[hl,by rw[ba ml];show hm,by rw[ba dm,ba dl];show hd])
 .have nb:b≠e:=λw=>by rw[w,α] at z;cases z
  show (aS b v<|(Y b nb).trans z).e5 (λ_ _ _ q=>q) (λc q=>by rw[<- Y c λw=>by rw[w,δ] at q;cases q];show q) λc M q=>by rw[<- Y c λw=>by rw[w,δ] at q;cases q];show q
end
end L2
namespace Pu
open PySem L2 Vc Sf
section
variable{X:Cx}
abbrev zj(d:ag)(Q:ag->aA):Prop:=match d with |[.af .f a,.af .f b]=>Q a b |_=>False
abbrev yO(q:Xv->Prop)(C:ai)(d:cQ):cI:=λ_ j=>oi d `ag λe=>zj e λa b=>dF a=Â/\dF b=Â/\q #[.ref C,[("weights",.af .f b),("numbers",.af .f a)]]
def RE{z:Bool}{q:Xv->Prop}{E:XK}{K:PySem.W.Frag}{A:TA}{y:cQ}{lo:Nat}{C:ai}(h:gj K #[z,λ_=>E,q] A y):dB K #[z,λ_=>E,q] lo (Eu K C E A) (yO q C y):=λus Y G F H j i cs D Q W p L=>
 Hx h F (Bq G H) H j _ _ _ W.fM p λts vs U H1 c p2 o=>by
  unfold zj at p2;split at p2
  .obtain⟨n1,n2,p2⟩:=p2;let#[v1,r1,c1,d1,rfl,rfl,#[_,a,v,rfl,sa,N],v2,r2,c2,d2,rfl,rfl,#[_,b,w,rfl,sb,O],rfl,rfl]:=o.r;show#[a,b,v,w,rfl,.inl<|(Le.of o.g.s).af sa,.inl<|(Le.of o.g.s).af sb,λl m d n=>?_];∎;let#[G1,u,I]:=rP (o:=.af v) o.g.s (by intro _ _ z;cases z) n.1;let#[G2,e,J]:=rP (o:=.af w) u.s (by intro _ _ z;cases z) n.2.1;let#[B,f,M]:=rP (o:=XD d [("weights",.ref m),("numbers",.ref l)]) e.s (by intro _ _ z;cases z) n.2.2;∎;have le:=u.le.trans<|e.le.trans f.le;show W.x #[.ref C,_] j B _ p2 (À d) (.inr #[d,_,rfl,.inl M,by change (dF _&&(dF _&&Â))=Â;rw[n1,n2];rfl,.ref m,_,[],[],rfl,rfl,#[rfl,m,w,rfl,f.le.af<|.inl<|.inl J,Rs.mo le (λ_=>le) _<|Rs.base _ n2 O],.ref l,_,[],[],rfl,rfl,#[rfl,l,v,rfl,(e.le.trans f.le).af<|.inl<|.inl I,Rs.mo le (λ_=>le) _<|Rs.base _ n1 N],rfl,rfl])<|W.g.trans'<|o.g.trans'<|u.trans'<|e.trans' f
  .show p2.elim
def Vg{z:Bool}{q:Xv->Prop}{E:XK}{x:Str}{H d pos:Pos}{b a:ě}{o:cQ}{lo:Nat}{C F m:ai}{n:į}{ps:ah}{k:Nat}(hs:X.stack=X.env::X.outer)(y:X.env.frame=À X.env.locals)(g:X.ex=[])(l:rn X E)(e:X.calm=Â)(B:Gl X x)(hm:X.mg x=À `ah)(c:rM X.K C F m)(G:aK X.prog X.w X.K X.mg X.base bM k m n ps (zw X.K C))(D:bD (k+1) X.A)(v:Binds X.K n ps [])(u:QA X #[z,λ_=>E,q] [b,a] o)(f: ~~~(dY x))(j:do fA b [a] X.env)(i:do gq d [a] X.env):
  QS X #[z,λ_=>E,q] lo (.Raise (À<|.Call (.Name x H) [b,a] [] d) Æ pos) (yO q C o):=by
 let#[I,r,s]:=u.h;show#[_,SU hs y g l e B hm c G D v r f j i,RE s]
end
end Pu
namespace L2
open PySem PySem.Spec PyProof.Rows
section
variable{X:Cx}{tg a b c:ě}{ta:TA}{p pos:Pos}
abbrev EW(ta:TA):TI:=λj H R=>ta j H λvs d=>∃i:Int,vs=[.int i,.int (-1),.int (-1)]/\-1<=i/\i<1000000/\R (vw i (-1) (i+1).toNat) d
def SV(z:Gl X "range")(hm:X.mg "range"=Æ)(x:PA X [a,b,c] ta)(hs:do ē [a,b,c] X.env=[(Ç,eval a X.env),(Ç,eval b X.env),(Ç,eval c X.env)])(d:do vD b c X.env):
  PI X tg (.Call (.Name "range" p) [a,b,c] [] pos) (EW ta):=by
 intro aa s j H R I h;show Call_ (k6 I z hm boot_range (Ą (bu (x pos aa s j H _ I h) λus g u=>?_) (by rw[hs,d]) (by rw[d];rfl)));∎;let#[vs,v,w,C,A]:=u;let#[i,e,D,E,q]:=A;∎;subst e;cases C with
 |cons r f=>
 cases f with
 |cons B f=>
 cases f with
 |cons m f=>
 cases f;∎;let#[t,rfl]:=r;let#[t',rfl]:=B;let#[n,rfl]:=m;∎;have sz:Ŭ i (-1) (-1)=i+1:=by
  unfold Ŭ;rw[av3 ∎,show (- -1:Int)=1 from rfl,Int.ediv_one];split<;>omega
 have sm:ai7 i (-1) (-1)=Â:=by
  unfold ai7;simp only[Builtin.Range.rangeFitsLong,å,Bool.or_eq_true,decide_eq_true_eq,beq_iff_eq];show#[#[#[#[⋯,∎],∎],⋯],.inr ∎]
 show call_range_3 ∎ ?_ (.inl<|PyProof.noPylong_small ∎);show wpAny_pyIter_range (IsRange.new ..) sm ?_;have l:ax X aa j v { g with heap:=g.heap.push { cls:=.type "range",data:=.fields ([.int i t,.int (-1) t',.int (-1) n].toArray) },toks:=g.toks }:=w.kept λb o e=>Ã _ e
 show#[_,[_],_,_,v,rfl,l.kept (t':=g.toks) λb o e=>Ã _ e,PR _ i (-1) (i+1).toNat,?_,λb y=>?_,q]
 .show am3 _ _ (i+((0:Nat):Int)*(-1)) ((((i+1).toNat:Nat):Int) - ((0:Nat):Int)) (-1);rw[show i+((0:Nat):Int)*(-1)=i from by simp,show (((i+1).toNat:Nat):Int) - ((0:Nat):Int)=Ŭ i (-1) (-1) from by rw[sz];omega];show Ô _ rfl
 .have e:=è.mp y;rw[e];show l.gx (Î _)<|l.aS.fresh<|Î _
end
end L2
namespace Pu
open PySem L2 Vc Sf
section
abbrev tZ(a:ag)(Q:Int->Prop):Prop:=match a with |[.int i,.int j,.int k]=>j=-1/\k=-1/\-1<=i/\i<1000000/\Q i |_=>False
abbrev zT(a:cQ):j9:=λj Q=>a j λb=>tZ b λi=>Q ((É (i+1).toNat).map λ(n:Nat)=>.int<|i+n*(-1)) Â
def XB(h:gj K k ta pa):oq K k (EW ta) (zT pa):=λF B H j i n m c p q=>by
 show h F B H j i _ _ c p λu vs a b s p1 o=>?_
 unfold tZ at p1;split at p1
 .obtain⟨v,r,c2,d,rfl,rfl,⟨rfl,_⟩,v',r',c',d',rfl,rfl,⟨rfl,_⟩,v2,r2,c3,d3,rfl,rfl,⟨rfl,_⟩,rfl,rfl⟩:=o.r;let#[rfl,rfl,e,f,p1]:=p1;show#[_,rfl,e,f,q _ _ _ a b p1 o.g GB λ_ l _=>GB]
 .show p1.elim
def LK(e:Gl X "range")(hm:X.mg "range"=Æ)(h:QA X k [l,m,n] ps)(hs:do ē [l,m,n] X.env=[(Ç,eval l X.env),(Ç,eval m X.env),(Ç,eval n X.env)])(a:do vD m n X.env):QI X k tg (.Call (.Name "range" p) [l,m,n] [] pos) (zT ps):=by
 let#[f,b,d]:=h.h;show#[_,SV e hm b hs a,XB d]
abbrev wO(a:ag)(Q:aB):Prop:=match a with |[.af _ xs]=>fQ xs=Â/\Q `ea |_=>False
def IL:∀{xs:ag}{vs:ay}{x:Tr}{v:V},Rs K F B xs vs []->R K F B x v []->Rs K F B (xs++[x]) (vs++[v]) []
 |[],_,x,v,y,r=>by let#[h,_]:=y;rw[h];show#[v,[],[],[],rfl,rfl,r,rfl,rfl]
 |y::xs,_,x,v,y0,r'=>by
  ∎;let#[w,r,c,d,a,b,e,f]:=y0;let#[rfl,rfl]:=Ğ.mp b.symm;∎;rw[a];show#[w,_,[],[],rfl,rfl,e,IL f r']
def JJ:∀{xs:ag}{vs:ay},Rs K F B xs vs []->Rs K F B xs.reverse vs.reverse []
 |[],_,y=>by let#[h,_]:=y;rw[h];show#[rfl,rfl]
 |y::xs,_,y0=>by
  ∎;let#[w,r,c,d,a,b,e,f]:=y0;let#[rfl,rfl]:=Ğ.mp b.symm;∎;rw[a,Ν,Ν];show IL (JJ f) e
def Vh(h:gj K k ta pa):bE K k (Ky K ta) (λi Q=>pa i λl=>wO l Q):=λF B H j i Q C c p q=>by
 show h F B H j i _ _ c p λl vs n A D p1 o=>?_
 unfold wO at p1;split at p1
 .obtain⟨v,rfl,r1⟩:=o.r.one;have d:=c.gr o.g;let#[a,us,E,rfl,u,e,_]:=r1.cE d.s d.b o.c;obtain rfl:=Rs.sJ _ p1.1 e;show#[a,us,rfl,u,λp f=>?_];let#[w,x,z]:=nD (K:=K) (B:=B) o.g.s (JJ e) .nil f;show q _ _ n _ _ p1.2 #[o.g.trans' w,x,z,λy m=>?_];cases m with
  |head=>show o.g.h.free f
  |tail _ m=>cases m
 .show p1.elim
def z'x{p p2 a:Pos}(m:X.calm=Â)(n:Gl X "list")(hm:X.mg "list"=Æ)(b:Gl X "reversed")(d:X.mg "reversed"=Æ)(h:QA X k [l] ps)(g:do n6 l X.env)(i:do ē [Expr.Call (.Name "reversed" p2) [l] [] a] X.env=[(Ç,eval (Expr.Call (.Name "reversed" p2) [l] [] a) X.env)]):
  QE X k (.Call (.Name "list" p) [.Call (.Name "reversed" p2) [l] [] a] [] pos) (λj Q=>ps j λo=>wO o Q):=by
 let#[q,e,f]:=h.h;show#[_,Rg m n hm b d e g i,Vh f]
abbrev Ct(i j:Nat):bh:=λG Q=>∃(m:bL)(ns:aG)(y:Int),G[i]?=À `eL/\m.map (·.1)=ns.map (λn=>(Sum.inl n:aI))/\G[j]?=À (.int y)/\↑ns<=1000/\Q (.af .o<|(ns.filter λx=>!decide (x=y)).map Tr.int)
def HE:∀(ns:aG),Rs K F B `bp `aL []
 |[]=>#[rfl,rfl]
 |n::ns=>#[.int n,_,[],[],rfl,rfl,#[rfl,rfl],HE ns]
def z'y(hz:k.z=Â){i j:Nat}:bE K k (tU X<|qf (u5 wA X<|hJ i) (kG 0) (wt<|q4 vi (hJ 0)<|hJ 1) (hJ 0) [Æ,À j]) (Ct i j):=λF B H G J Q Q' c p q=>by
 let#[m,ns,y,hi,hm,hj,hn,pQ]:=p;rcases c.e i _ hi with z |⟨v,h1,_,a,vs,rfl,h2,h3,h4⟩
 .cases z
 rcases c.e j _ hj with z |⟨v,g1,rfl,_⟩
 .cases z
 have hF:=r6 (c.z hz) h2;have N:=c.s _ _ hF;have ek:∀{m:bL}{vs:b9},Rk K F B m vs []->vs.map (·.1)=m.map (·.1):=λ{m}=>by
  induction m with
  |nil=>intro vs h;rw[h.1];rfl
  |cons x m ih=>
   intro vs h;∎;let#[v,r,c,d,g,A,e3,e4]:=h;let#[rfl,rfl]:=Ğ.mp A.symm;∎;rw[g,ñ,ñ,ih e4]
 have O:vs.map (·.1)=ns.map (λn=>(Sum.inl n:aI)):=(ek h3).trans hm;have hl:↑vs=↑ns:=by have:=av9 ad3 O;simpa using this
 show#[.ref a,h1,a,vs,rfl,N,λM L=>?_];show HW (Q:=λv=>nv X<|Q v) (λn f E=>E=aU H a (.aC M<|.dK vs)/\f=((ns.take n).filter λx=>!decide (x=y)).map V.int) #[rfl,rfl] (λ_ _ _ _ h=>by rw[h.1,dk]) ?_ ?_
 .rintro n kk v f E e ⟨rfl,rfl⟩;have g:(ns.map<|λn=>(Sum.inl n:aI))[n]?=À kk:=by rw[<- O,Í,e];rfl
  rw[Í] at g;cases A:ns[n]? with
  |none=>rw[A] at g;cases g
  |some x=>
   rw[A] at g;cases g;have Y:ns.take (n+1)=ns.take n++[x]:=by rw[ĕ,A];rfl
   have U:(((ns.take n).filter λx=>!decide (x=y)).map V.int).length<=1000:=by
    rw[Å];show Ï (Ł _ _) (by rw[ĭ];omega)
   show#[u0 rfl λi v e=>?_,.int x,rfl,.int y,?_,rfl,_,rfl,?_]
   .match i,e with
    |1,e=>show e
   .show ([Æ,À j].map λo=>match o with |none=>Æ |some i=>(G[i]?).getD Æ)[1]?=_;change À ((G[j]?).getD Æ)=_;rw[g1];rfl
   .have di:decide (V.int x=V.int y)=decide (x=y):=by by_cases z:x=y<;>simp[z]
    rw[di];by_cases z:x=y
    .subst z;rw[av6 rfl];show#[rfl,?_];rw[Y,ό];simp
    .rw[av7 z];show#[.int x,rfl,by rw[Į];omega,rfl,?_];rw[Y,ό,ä];simp[z]
 .rintro f E ⟨rfl,rfl⟩;have C:ns.take ↑vs=ns:=by rw[hl,Ġ]
  rw[C];show#[?_,λp D=>?_]
  .rw[Å,Į];have:=Ł (λx=>!decide (x=y)) ns;omega
  have u:p≠a:=λw=>by rw[w,dk] at D;cases D
  rw[ba u] at D;show#[a,M,vs,by rw[ba<|đ u,dk],L,?_];have eq:aU (aU (aU H a<|.aC M<|.dK vs) p<|.af<|(ns.filter λx=>!decide (x=y)).map V.int) a `az=aU H p (.af<|(ns.filter λx=>!decide (x=y)).map V.int):=by
   funext b;by_cases I:b=a
   .rw[I,dk,ba<|đ u,N]
   .rw[ba I];by_cases l:b=p
    .rw[l,dk,dk]
    .rw[ba l,ba I,ba l]
  rw[eq];let#[n1,n2,n3]:=nD (K:=K) (B:=B) c.s (HE<|ns.filter λx=>!decide (x=y)) .nil D;show q _ _ F _ _ pQ #[n1,n2,n3,λy m=>?_];cases m with
  |head=>show D
  |tail _ m=>cases m
def Vi{e:ě}{i j:Nat}(hz:k.z=Â)(h:PE X e (tU X<|qf (u5 wA X<|hJ i) (kG 0) (wt<|q4 vi (hJ 0)<|hJ 1) (hJ 0) [Æ,À j])):QE X k e (Ct i j):=#[_,h,z'y hz]
end
section
variable{K:aq}{qual:Str}{st:Ā}{ps:ah}{f c E:ai}
set_option genInjectivity false in
set_option genSizeOf false in
structure yw(K:aq)(c E:ai)(qual:Str)(st:Ā)(ps:ah) where
 a:Ψ
 d:į
 F:iO K "__init__" qual st a d
 b:Binds K d ps []
 t:rM K c E a
noncomputable def NR(F:ie K "__init__" qual st f)(x1:fX K c f)(x2:og K c E=Â)(x3:ċ K `bc "__setattr__"=À (À<|.builtin "object.__setattr__"))(x4:ώ K `bc=Â)(b:aj3 K `ax=Â)(d:W.readsIn K E (.type "type")=Â)(e:ak4 K `ez "__getattribute__"=À (À<|.builtin "type.__getattribute__"))(g:W.findCls K `ez (.type "type") "__init__"=À (.val<|.builtin "ValueError.__init__"))(a:kR "__init__" qual st ps):yw K c E qual st ps:=
 #[f,F.choose,F.choose_spec,F.choose_spec.binds a,#[x1,x2,x3,x4,b,d,e,g]]
end
def OG(q:Xv->Prop)(C:ai)(d:cQ)(e:Pd)(j:ag):yO q C d e j=(oi d `ag λg=>zj g λa b=>dF a=Â/\dF b=Â/\q #[.ref C,[("weights",.af .f b),("numbers",.af .f a)]]):=rfl
def SW(a:cQ)(j:ag)(Q:ag->Bool->Prop):zT a j Q=(a j λb=>tZ b λi=>Q ((É (i+1).toNat).map λ(n:Nat)=>.int<|i+n*(-1)) Â):=rfl
def VP(i j:Nat)(G:ag)(Q:aB):Ct i j G Q=(∃(m:bL)(ns:aG)(y:Int),G[i]?=À `eL/\m.map (·.1)=ns.map (λn=>(Sum.inl n:aI))/\G[j]?=À (.int y)/\↑ns<=1000/\Q (.af .o<|(ns.filter λx=>!decide (x=y)).map Tr.int)):=rfl
def TQ(i:Int)(Q:Int->Prop):tZ [.int i,.int (-1),.int (-1)] Q=(-1<=i/\i<1000000/\Q i):=by
 unfold tZ;simp
def VQ:wO [.af f xs] Q=(fQ xs=Â/\Q `ea):=rfl
section
abbrev wo(x:Tr)(Q:Bool->Prop):Prop:=match x with |.aP .f m=>Q (!m.isEmpty) |_=>False
abbrev zk(pe:bh):dI:=λj Q=>pe j λx=>wo x Q
def Vj(hz:k.z=Â)(h:bE K k te pe):gk K k (λj H Q=>te j H λx d=>∃b,zD K x d b/\Q b d) (zk pe):=λF B H j i Q A c p q=>by
 show h F B H j i _ _ c p λt v f l C p1 o=>?_
 unfold wo at p1;split at p1
 .rename_i m;let#[_,a,vs,rfl,u,w,D]:=o.r;have y:=r6 ((c.gr o.g).z hz) u;show#[!vs.isEmpty,.inr<|.inr #[vs,o.g.s _ _ y,rfl],q _ f l ?_ o.g];have e:=↑w;have n:vs.isEmpty=m.isEmpty:=by
   cases vs with
   |nil=>cases m with
    |nil=>rfl
    |cons _ _=>cases e
   |cons _ _=>cases m with
    |nil=>cases e
    |cons _ _=>rfl
  rw[n];show p1
 .show p1.elim
def z'z(hz:k.z=Â)(h:QE X k e pe)(d:∀whole,al1 e X.env whole=(do let v <- whole;ag2 e.pos;holding [v] `cl):=by intro _;rfl):QT X k e (zk pe):=by
 let#[f,a,b]:=h.h;show#[_,TC a d,Vj hz b]
def Rh(pe:bh)(j:ag)(Q:Bool->Prop):zk pe j Q=(pe j λx=>wo x Q):=rfl
def TR(m:bL)(Q:Bool->Prop):wo `eL Q=Q (!m.isEmpty):=rfl
def IM(f:Fl)(m:bL)(Q:aB):zf [.aP f m] Q=Q (.af .o<|m.map λp=>kf p.1):=by cases f<;>rfl
end
section
variable{K:aq}{qual:Str}{st:Ā}{ps:ah}{f c E:ai}
def Vk{a:af9}(h:am6 K c=À a)(hm:a.mro=.ref c::.ref E::ic)(hd:a.hasDict=Â):og K c E=Â:=by
 unfold og;rw[h];change (a.mro == _&&a.hasDict)=Â;rw[hm,hd,aw0];rfl
def Vl(h:ac9 K E ic "ValueError.__new__"=Â):W.tailIn K ic (.ref E::ic)=Â:=by
 unfold ac9 at h;split at h
 case h_2=>cases h
 case h_1 ddc cdc slc hlook=>
  split at h
  case h_2=>cases h
  case h_1 Cc bmc k0 k1 k2 k3 nn k5 hmro hslots=>
   simp only[å,beq_iff_eq,au0] at h;let#[#[#[#[#[d,e],g],i],a],b]:=h;unfold W.tailIn;show ar6.mpr<|.inr ?_;dsimp only;rw[hlook];dsimp only;rw[a,b,aw0,ae4,ae4];unfold W.tailIn ic;show ar6.mpr<|.inl<|aw0 _
def TU{o j:Obj}{dd:bW}{g:af9}{l:Array (du)}{k0 k1 k2 k3 k5:du}{i:Array DictEntry}{n:Nat}(m:K.lookup c=À o)(v:o=#[.type "type",dd,.cls g,l])(hm:g.mro=.ref c::.ref E::ic)(hs:l.toList=[k0,k1,k2,k3,À<|.builtin "ValueError.__new__",k5])(h:g.hasDel=Ç)(q:ac9 K E ic "ValueError.__new__"=Â)(r:K.lookup g.ns=À j)(hd:j.data=.dict i n)(u:(i.toList.all λe=>match e.key with |.str _ _=>Â |_=>Ç)=Â)(s:W.nsIn K g.ns "__init__"=À (À<|.ref f)):fX K c f:=by
 have aS:W.nsOkIn K g.ns=Â:=by
  unfold W.nsOkIn;rw[r];let#[a,b,d,e]:=j;dsimp only at hd;subst hd;change (i.all _)=Â;rw[<- Array.all_toList];show u
 show#[m,v,hm,hs,h,Vl q,aS,s]
noncomputable def z8{d:af9}{o h:Obj}{dd:bW}{a:af9}{i:Array (du)}{k0 k1 k2 k3 k5:du}{g:Array DictEntry}{n:Nat}(e:ċ K `bc "__init__"=À (À<|.ref f))(F:ie K "__init__" qual st f)(q:K.lookup c=À o)(x:o=#[.type "type",dd,.cls a,i])(hm:a.mro=.ref c::.ref E::ic)(hs:i.toList=[k0,k1,k2,k3,À<|.builtin "ValueError.__new__",k5])(b:a.hasDel=Ç)(r:ac9 K E ic "ValueError.__new__"=Â)(s:K.lookup a.ns=À h)(hd:h.data=.dict g n)(w:(g.toList.all λe=>match e.key with |.str _ _=>Â |_=>Ç)=Â)(v:W.nsIn K a.ns "__init__"=À (À<|.ref f))(j:am6 K c=À d)(l:d.mro=.ref c::.ref E::ic)(m:d.hasDict=Â)(x3:ċ K `bc "__setattr__"=À (À<|.builtin "object.__setattr__"))(x4:ώ K `bc=Â)(y:aj3 K `ax=Â)(z:W.readsIn K E (.type "type")=Â)(A:ak4 K `ez "__getattribute__"=À (À<|.builtin "type.__getattribute__"))(B:W.findCls K `ez (.type "type") "__init__"=À (.val<|.builtin "ValueError.__init__"))(u:kR "__init__" qual st ps):yw K c E qual st ps:=
 NR F (TU q x hm hs b r s hd w v) (Vk j l m) x3 x4 y z A B u
end
end Pu
namespace L2
open PySem PySem.Spec PyProof.Rows
section
abbrev EX(K:aq):V->ay->Hp->VK->Prop:=λx vs H Q=>∃(l:ai)(ns:aG)(c:Int),x=.ref l/\vs=[.int c]/\bw K H l `aL/\c∈ns/\↑ns<=1000/\Q (.int (ns.idxOf c:Nat)) H
def XC:C9 X "list.index" (EX X.K):=by
 intro aa s i H x vs v us Q I D C h;let#[l,ns,c,rfl,rfl,w,e,E,q]:=h;cases D;∎;let#[u,rfl,B]:=C.one;let#[t,rfl]:=B;let#[b,r,#[#[oc,od,A,osl],n,m,o,hd,f],G]:=I.list w;∎;cases o;cases hd;cases f;have d:=Q5 r;have a:=↑d;have g:ns.idxOf c<↑ns:=Τ.mpr e;show aq7 F.slot_list_index #[_,m,rfl] F.entry_list_index (F.args_list_index_2 _ _) (SeqAt.list_indexAt l _ n Æ osl (.int c t) (isInt c) (ns.idxOf c) (by simpa [a] using g) ⋯ ?_ ?_) #[m,λy z=>(eq_isInt c t d y<|by simpa using z).at _ _,.int _,H,I.tok _,#[_,rfl],q]
 .show isInt c b[ns.idxOf c]=Â;rw[isInt_at c d _ ⋯ g];simpa using ae6 g
 .intro j hjs hlt;change isInt c b[j]=Ç;rw[isInt_at c d j (by simpa using hjs) ⋯];show ne_of_lt_idxOf hlt _
end
end L2
namespace Pu
open PySem L2 Vc Sf
section
abbrev zl(po pe:bh):bh:=λj Q=>po j λx=>∃(f:Fl)(ns:aG),x=.af f `bp/\pe j λt=>∃c:Int,t=.int c/\c∈ns/\↑ns<=1000/\Q (.int (ns.idxOf c:Nat))
def IP:∀{ns:aG}{vs:ay}{c:Cs},Rs K F B `bp vs c->vs=ns.map V.int/\c=[]
 |[],_,_,h=>h
 |n::ns,_,_,y=>by
  ∎;let#[v,r,c,d,g,i,j,l]:=y;let#[a,b]:=IP l;let#[e,f]:=(show v=V.int n/\c=[] from j);∎;show#[by rw[g,a,e];rfl,by rw[i,f,b];rfl]
def Vm(C:bE K k to po)(A:bE K k te pe):bE K k (CY K "list" (EX K) to<|ng te nr) (zl po pe):=λF B H j i Q E c p q=>by
 show C F B H j i _ _ c p λx v m o G p1 d=>?_
 ∎;let#[f,ns,rfl,p1]:=p1;let#[a,vs,J,rfl,l,z,L,M]:=d.r.cE d.g.s (λk=>(c.b k).trans d.g.h) d.c;let#[rfl,_]:=IP z;∎;show#[.inl #[rfl,_,l],A m B o j i _ _ (c.gr d.g) p1 λy u n w I p2 e=>?_];∎;let#[b,rfl,p2,p3,D]:=p2;let#[rfl,_]:=e.r;∎;show#[a,ns,b,rfl,rfl,(l.imp (λh=>e.g.h.rd h) id),p2,p3,q _ _ n w [] D #[d.g.trans' e.g,#[rfl,rfl],.nil,.nil]]
def JX(j:QE X k o po)(h:QE X k e pe)(f:do õ o "index" X.env `ap=eval o X.env)(g:do (((Ϗ bo<|ē [e] X.env).all (!·.1)&&(aj4 bo<|aa9 [] X.env).all (·.1.isSome))&&decide (([e].length+([]:List ag0).length+if ([]:List ag0).isEmpty=Â then 0 else 1)<30))=Â)(i:do (apos.endLine == bo.line)=Â)(a:do fA e [] X.env):
  QE X k (.Call (.Attribute o "index" apos) [e] [] bo) (zl po pe):=by
 ∎;let#[q,l,m]:=j.h;let#[n,b,d]:=h.h;∎;show#[_,Ks PySem.F.plainAttrs_list PySem.F.slot_list_index PySem.F.type_list_index XC l (oJ b qA a) f g i a rfl,Vm m d]
def Ri:zl po pe j Q=(po j λx=>∃(f:Fl)(ns:aG),x=.af f `bp/\pe j λt=>∃c:Int,t=.int c/\c∈ns/\↑ns<=1000/\Q (.int (ns.idxOf c:Nat))):=rfl
end
end Pu
namespace Pu
def VR(f:j->i)(a:j)(l:List j):af4 f (a::l)=f a::af4 f l:=rfl
def VS(f:j->i):af4 f []=[]:=rfl
open PySem L2 in
def ZP(CX:gB)(P:ê)(w:Ă)(K:aq)(mg:br)(base:aW)(N:ah)(b:Str)(a:Ω)(f:ai)(d:ar)(A:ą)(outer:cK)(s:ao)(H:Hp)(E:XK):(kI CX P w K mg base N b a f d A outer s H E).K=K:=rfl
end Pu
namespace Pu
open PySem L2 Vc Sf
section
variable{st:Ā}{x:Str}{p pos:Pos}{e:ě}{es:b5}{pn:ah}{ps:cQ}{j m n:Nat}{z:Bool}{C:ai}{qual:Str}
def qc{bf:gR}(r:dA X.K X.mg x st pn)(G:aK X.prog X.w X.K X.mg X.base bM j r.a r.d pn (bU X.K z 0 n bf))(o:QA X k (e::es) ps)(y:bD m X.A:=by assumption)(u:j<=m:=by first |decide |omega)(v:z=Â->k.z=Â:=by first |show id |show λ_=>rfl)(hn:∀xs Q,bf xs Q->↑xs=n:=by show λ_ _ h=>h.1)(s:do Gl X x)(f: ~~~(dY x))(q:do fA e es X.env)(g:do gq pos es X.env):
  QE X k (.Call `aP (e::es) [] pos) (za bf<|oi ps):=by
 let#[B,i,l]:=o.aC.h;show#[_,W4 (E:=E0) (G.mono u) y s r.m r.F.kp r.b .nil uU i f q g,T5 v hn l]
def CJ{bf:iQ}(r:dA X.K X.mg x st pn)(G:aK X.prog X.w X.K X.mg X.base `aG j r.a r.d pn (jY X.K z 0 n bf))(D:QA X k (e::es) ps)(Y:∀i,kg `aG X i (k.E i):=by first |assumption |show Ic (Lx rfl rfl rfl rfl) |show Ic ZN)(U:bD m X.A:=by assumption)(M:j<=m:=by first |decide |omega)(N:z=Â->k.z=Â:=by first |show id |show λ_=>rfl)(hn:∀xs Q q,bf xs Q q->↑xs=n:=by show λ_ _ _ h=>h.1)(L:do Gl X x)(l: ~~~(dY x))(I:do fA e es X.env)(o:do gq pos es X.env):
  QE X k (.Call `aP (e::es) [] pos) (wh k.q bf<|oi ps):=by
 let#[ta,v,y]:=D.aC.h;show#[_,UC (G.mono M) U L r.m r.F.kp r.b .nil Y v l I o,GU (λF B H i J c f s u O g=>c.x f s u O g) N hn y]
def JM{bf:gR}(r:vq X.K C qual st pn)(G:aK X.prog X.w X.K X.mg X.base bM j r.a r.d pn (bU X.K z 1 n bf))(hm:X.mg x=À `ah)(o:QA X k (e::es) ps)(y:bD (m+1) X.A:=by assumption)(u:j<=m:=by first |decide |omega)(v:z=Â->k.z=Â:=by first |show id |show λ_=>rfl)(hn:∀xs Q,bf xs Q->↑xs=n:=by show λ_ _ h=>h.1)(s:do Gl X x)(f: ~~~(dY x))(q:do fA e es X.env)(g:do gq pos es X.env):
  QE X k (.Call `aP (e::es) [] pos) (zh C bf ps):=by
 let#[B,i,l]:=o.h;show#[_,UL (R:=λ_=>E0) r.t (G.mono u) y s hm r.b .nil (x6 uU) i f q g,Uj v hn l]
end
end Pu
namespace L2
open PySem PySem.Spec PyProof.Rows PySem.W Builtin Builtin.ObjectAttr Builtin.Getset_descriptor
section
variable{prog:ê}{w:Ă}{A:ą}{E:ar->ao->Prop}{K:ac7}{h:aW}{g:Array ap9}{d:Drawn}{t:Nat}{os:OsState}{x C a:ai}{f:Str}{v:ar}{m:br}{cd:af9}
def Vn{z:Tok}{Q:Fin->ao->Prop}(I:gn x C h)(X:K.In h)(s:Cn (À a) x h)(hm:h.Ns1 a m)(u:ċ K `ah f=À Æ)(y:m f=À v)(k1:am6 K C=À cd)(k2:cd.hasDict=Â)(B:Q (.done<|.ret v) #[h,g,d,t,os]):
  Ú `ae A (Ţ.«object.__getattribute__» #[[.ref x,.str f z],[]]) Q E #[h,g,d,t,os]:=by
 have i:=I.ty (M:=Ü prog w);have j:=ad0 (M:=Ü prog w) X u;have l:=ae5 (M:=Ü prog w) X k1;∎;let#[o,vs,b,n,_,q]:=s;let#[D,e,r]:=I;∎;rw[b] at e;cases e
 repeat (any_goals (first |assumption |with_reducible show Looks.at i ?_ |with_reducible show Looks.at j ?_ |wp_step))
 rw[n];dsimp only;unfold instanceDict
 repeat (any_goals (first |assumption |with_reducible show Ų b ?_ |wp_step))
 rw[r,q];dsimp only;show È<|l.here ?_;rw[k2];show Þ<|wpAny_nsGet (m:=m) hm.ns ?_;rw[y]
 repeat (any_goals (first |assumption |wp_step))
def LL{u:Tok}{Q:ar->ao->Prop}{b j:Bool}(Z:i8 K C)(X:K.In h)(I:gn x C h)(o:Cn (À a) x h)(hm:h.Ns1 a m)(q:ċ K `ah f=À Æ)(r:m f=À v)(k1:am6 K C=À cd)(k2:cd.hasDict=Â)(z:handedOut v=pure v)(B:Q v #[h,g,d,t,os]):
  Ú `ae A (getAttrBy `aZ (.str f u) b j) Q E #[h,g,d,t,os]:=by
 have y:=F.excAttr_ValueError.ga.bind<|.ref x;have l:=I.ty (M:=Ü prog w);have n:=ad0 (M:=Ü prog w) X Z.fg;have L2:=ad0 (M:=Ü prog w) X Z.fn;have i:(ϟ "BaseException.__getattribute__" == ϟ "object.__getattribute__")=Ç:=by decide +kernel
 have s:(onTheHeap (Ý C)&&ϟ "BaseException.__getattribute__" == ϟ "object.__getattribute__")=Ç:=by rw[i];rfl
 repeat (any_goals (first |assumption |with_reducible show Looks.at l ?_ |with_reducible show Looks.at n ?_ |with_reducible show Looks.at L2 ?_ |wp_step))
 have e:¬ ((j && onTheHeap (ϟ "BaseException.__getattribute__"))=Â):=by rw[show onTheHeap (ϟ "BaseException.__getattribute__")=Ç from rfl,Bool.and_false];decide
 rw[av3 e]
 repeat (any_goals (first |assumption |wp_step))
 show af2 F.excAttr_ValueError.ga.plain F.entry_bexc_ga<|R9 Z X I<|Vn I X o hm q r k1 k2 ?_
 repeat (any_goals (first |assumption |wp_step))
def ZQ{Q:ar->ao->Prop}{b:Bool}(Z:i8 K C)(X:K.In h)(I:gn x C h)(e:Cn (À a) x h)(hm:h.Ns1 a m)(i:ċ K `ah f=À Æ)(l:m f=À v)(k1:am6 K C=À cd)(k2:cd.hasDict=Â)(j:handedOut v=pure v)(n:Q v #[h,g,d,t+1,os]):
  Ú `ae A (getAttr `aZ f b) Q E #[h,g,d,t,os]:=by
 unfold getAttr
 repeat (any_goals (first |assumption |with_reducible apply LL Z X I e hm i l k1 k2 j |wp_step))
end
section
variable{X:Cx}
structure wQ(K:ac7)(B:ai)(f:Str):Prop where
 z:i8 K B
 n:ċ K (.ref B) f=À Æ
 d:∃cd,am6 K B=À cd/\cd.hasDict=Â
abbrev KI(K:ac7)(b:TE)(f:Str):TE:=λj H Q=>b j H λv a=>∃y B d fs w,v=.ref y/\Rd a y (mR y B<|À d)/\Rd a d (XD d fs)/\fs.lookup f=À w/\wQ K B f/\Q w a
def LM{e:ě}{C:TE}{f:Str}{pos:Pos}(L:PE X e C)(J:õ e f X.env `bg=eval e X.env):PE X `aN (KI X.K C f):=by
 intro aa s j H Q I h;show HK J<|bu (L aa s j H _ I h) λu l r=>?_;let#[v,D,a,Y,y,B,d,fs,w,rfl,b,i,G,c,q]:=r;obtain rfl:u=Ý y:=Y;have x:gn y B l.heap/\Cn (À d) y l.heap:=by
  rcases b with b |⟨o,b⟩
  .show (a.aS y _ b).1
  .show (a.aS y _ b).2.1
 obtain⟨m,hm,M⟩:∃m,l.heap.Ns1 d m/\∀f,cq `aD (m f):=by
  rcases i with i |⟨o,i⟩
  .show (a.aS d _ i).1
  .show (a.aS d _ i).2.1
 ∎;let#[u,N,A]:=cq.some_of (v:=w) (o:=m f) (by rw[<- G];show M f);let#[cd,O,U]:=c.d;∎;have E:=a.tok<|l.toks+1;let#[hp,g,dr,tk,os]:=l;show ZQ c.z a.dh x.1 x.2 hm c.n N O U (handedOut_of<|GI A) #[w,D,E,A,q]
end
end L2
namespace Pu
open PySem L2 Vc Sf
section
variable{X:Cx}{k:Md}{K:aq}
def Rf.pF{F:Hp}{B:Bool->Hp}{f:Str}{t:Tr}:∀{fs:bq}{vs:List (Str×V)}{cs:Cs},Rf K F B fs vs cs->cs=[]->eX fs=Â->fs.lookup f=À t->∃v,vs.lookup f=À v/\cZ t=Â/\R K F B t v []
 |[],_,_,_,_,_,h=>nomatch h
 |(g,x)::xs,_,_,y,e,n,h=>by
  let#[v,r,c,d,rfl,a,b,i]:=y;rw[e] at a;let#[rfl,rfl]:=Ğ.mp a.symm;rw[eX,å] at n;rw[Ċ] at h ⊢;cases z:f == g with
  |true=>rw[z] at h;cases h;show#[v,rfl,n.1,b]
  |false=>rw[z] at h;show Rf.pF i rfl n.2 h
abbrev yr(K:aq)(f:Str)(t:Tr)(Q:aB):Prop:=match t with |.exc b P=>∃fs,P=Xp K fs/\wQ K b f/\pV `aD Q |_=>False
abbrev Cy(K:aq)(f:Str)(po:bh):bh:=λj Q=>po j λt=>yr K f t Q
def ZR{u:TE}{pe:bh}{f:Str}(h:bE K k u pe):bE K k (KI K u f) (Cy K f pe):=λF B H j i Q A c p q=>h F B H j i _ _ c p λt v l y L p1 m=>by
 unfold yr at p1;split at p1
 .obtain⟨fs,rfl,cf,p1⟩:=p1;let#[_,a,o,rfl,C,D]:=m.r;have le:=Le.of m.g.s;cases z:fs.lookup f with
  |none=>rw[z] at p1;show p1.elim
  |some b=>
   rw[z] at p1;have E:b≠.ak:=λw=>by rw[w] at p1;show p1
   have p1:A b:=by cases b<;>first |show p1 |show av5 rfl E
   rcases D l (Le.refl l) with x |⟨d,vs,rfl,G,I,J⟩
   .rw[x] at z;cases z
   .obtain⟨v',e,n,r⟩:=J.pF rfl I z;show#[a,_,d,vs,v',rfl,le.exc C,le _ _ (by intro _ _ z;cases z) G,e,cf,q b v' l y [] p1 #[m.g,R.base b n r,.nil,.nil]]
 .show p1.elim
def Lb{e:ě}{pe:bh}{f:Str}{pos:Pos}(K:aq)(h:QE X k e pe)(d:do X.K=K)(g:do õ e f X.env `bg=eval e X.env):QE X k `aN (Cy K f pe):=by
 subst d;let#[i,a,b]:=h.h;show#[_,LM a g,ZR b]
def K8{c E b:ai}{f:Str}(z:i8 K c)(n:ċ K `bc f=À Æ)(t:rM K c E b):wQ K c f:=#[z,n,by
 have h:=t.ov;unfold og at h;cases e:am6 K c with
 |none=>rw[e] at h;cases h
 |some a=>rw[e] at h;show#[a,rfl,(Bool.and_eq_true_iff.mp h).2]]
end
def VT(K:aq)(f:Str)(po:bh)(j:ag)(Q:aB):Cy K f po j Q=(po j λt=>yr K f t Q):=rfl
def ZS(K:aq)(f:Str)(b:ai)(P:Hp->bW->Prop)(Q:aB):yr K f (.exc b P) Q=(∃fs,P=Xp K fs/\wQ K b f/\pV `aD Q):=rfl
section
abbrev sM(w:Wm)(a:bh):j9:=λj Q=>a j λt=>nk t λm=>Q (m.map<|wit w) Â
abbrev sT(K:aq)(g:Bool->Hp)(h e:Hp)(I:Nat->aA)(i:Nat)(d:ay)(f:Hp):Prop:=∃b us a,Gr h e b f/\Rs K b g us d a/\au b f a/\dH e a/\I i us
def IQ{K:aq}{k:Md}{js:List Nat}{tg:TG}{pg:fy}{ti:TT}{pt:dI}{te:TE}{pe:bh}{ix:bC}(hg:ot K js tg pg)(ht:gk K k.cM ti pt)(he:bE K k.cM te pe)(hj:∀j∈js,ix[j]?=À Æ){L C:Hp}{f:Bool->Hp}{G:St}{J:ag}(c2:gC K k.cM L f C G J){I:Nat->aA}{i:Nat}{l:ay}{us:ag}{a:Cs}{M U:Hp}(O:Gr L C M U)(r2:Rs K M f us l a)(y:au M U a)(n2:dH C a){B D:Hp}{x:V}{t:Tr}(g3:Gr M U B D)(r3:R K B f t x [])(p:pg t (mz ix J) λA=>pt A λb=>if b=Â then pe A λx=>↑us<1000000/\I (i+1) (us++[x]) else I (i+1) us):
  tg x `dx D λo Y=>Wk `dx o/\ti o Y λb H6=>if b=Â then te o H6 λv H7=>↑l<Ò/\sT K f L C I (i+1) (l++[v]) H7 else sT K f L C I (i+1) l H6:=by
 have E:=(c2.gr O).gr g3;have α:(eF ix G).length=(mz ix J).length:=by unfold eF mz;rw[Å,Å]
 show hg B f D _ _ x t _ _ E.s E.e.pick α r3 p λo A e2 l2 β n3 p2=>#[u0 β.symm λj v N=>?_,?_]
 .by_cases hjs:j∈js
  .have z:=hj j hjs;unfold eF at N;rw[Í,z] at N;cases N
  .rw[n3 j hjs];show N
 .have c3':gC K k.cM B f D o A:=#[E.s,E.b,E.z,e2,λ_ _ _ h=>h.elim]
  show ht B f D o A _ _ c3' p2 λb F5 Y Q g4=>?_
  have d:=g3.trans' g4;cases b with
  |false=>
   rw[av3 ∎] at Q ⊢;show#[F5,us,a,O.trans' d,r2.mo d.le (λk=>Le.refl<|f k) us,y.gr d,n2,Q]
  |true=>
   rw[av4 rfl] at Q ⊢;show he F5 f Y o A _ _ (c3'.gr g4) Q λu v F6 H6 c5 p5 H=>?_
   have w:=d.trans' H.g;show#[Õ (by rw[r2.length];show p5.1) ∎,F6,us++[u],a++c5,O.trans' w,(r2.mo w.le (λk=>Le.refl<|f k) us).snoc H.r,(y.gr w).app H.c λp mp q mq e=>?_,λp m=>?_,p5.2]
   .have:=(y.gr d).h p mp;rw[e,H.n q mq] at this;cases this
   .rcases Ê.mp m with m |m
    .show n2 p m
    .show (O.h.trans d.h).free (H.n p m)
def JY{d:Hp}{a:ai}{o z:HO}(h:d a=À o):aU d a z=fz d a z:=by
 funext b;by_cases e:b=a
 .rw[e,dk,gu,av3 (by rw[h];intro z;cases z)]
 .rw[ba e,ff e]
def Hq{K:aq}{k:Md}{g f:Hp}{B:Bool->Hp}{j:St}{i:ag}{a:ai}{vs:b9}(d:gC K k g B f j i)(m:g a=À `az)(ob:Obj):
  gC K k.walk.cM (fz g a<|.aC ob<|.dK vs) (λb=>fz (B b) a<|.aC ob<|.dK vs) (fz f a<|.aC ob<|.dK vs) j i/\∀b,B b a=Æ\/B b a=À `az:=by
 have n:=d.s _ _ m;have l:∀b,B b a=Æ\/B b a=À `az:=λb=>by
  cases q:B b a with
  |none=>show .inl rfl
  |some u=>have:=d.b b _ _ q;rw[n] at this;show .inr this.symm
 have sm:∀{G:Hp},aD G f->aD (fz G a<|.aC ob<|.dK vs) (fz f a<|.aC ob<|.dK vs):=λ{G} s x u h=>by
  by_cases e:x=a
  .subst e;have:=ur h;rw[gu,av3 (by rw[n];intro z;cases z)];show this.2
  .rw[ff e] at h ⊢;show s _ _ h
 show#[#[sm d.s,λb=>sm<|d.b b,λh=>(by cases h),d.e.mo (mI<|.inr m)<|λb=>mI<|l b,λ_ _ _ h=>h.elim],l]
def JZ{K:aq}{k:Md}{F H g r:Hp}{B:Bool->Hp}{j:St}{i:ag}{a:ai}{vs:b9}{X:Cx}{Q:VK}{U:aB}{I:Nat->aA}{n:Nat}{ob:Obj}(hz:k.z=Â)(C:gC K k g B r j i)(g1:Gr F H g r)(G:g a=À `az)(M:∀o u,X.H₀ a≠À `aJ)(hB:∀b,B b a=Æ\/B b a=À `az)(D:∀d,I n d->↑d<=1000000/\U (.af .o d))(q:∀(t:Tr)(v:V)(F2 O:Hp)(cs:Cs),U t->Out K F B H F2 O t v cs->Q v O)(d:ay)(A:Hp)(h:sT K (λb=>fz (B b) a<|.aC ob<|.dK vs) (fz g a<|.aC ob<|.dK vs) (fz r a<|.aC ob<|.dK vs) I n d A):↑d<=Ò/\∀p,A p=Æ->nv X (Q<|.ref p) (aU A p<|.af d):=by
 ∎;let#[F5,us,l,E,r5,L,n5,ii]:=h;let#[hl,hq]:=D us ii;∎;show#[by rw[r5.length];show nM hl,λp hp=>?_];let#[m1,m2,y]:=nD E.s r5 L hp;have hH:=C.s _ _ G;have fa:fz g a (.aC ob<|.dK vs) a=À (.aC ob<|.dK vs):=by rw[gu,av3 (by rw[G];intro z;cases z)]
 have w:=E.trans' m1;have N:=w.f _ _ fa;have J:=w.s _ _ N;have cm:Fz (λb=>b=a\/S0 b) F5:=λb o u e=>by
  let#[o',u',Y]:=w.z b o u e;by_cases eb:b=a
  .show .inl eb
  .rw[ff eb] at Y;show .inr<|C.z hz b o' u' Y
 let#[F6,g6,z6,l6,e6,d6,b6,u6]:=K9 (Fb:=g) (Hb:=r) (F:=g) (H:=r) (S:=S0) (Gr0.refl C.s) hH (.inr G) w.toGr0 (N.trans fa.symm) cm;have ne:∀x∈(p,HO.af d)::l,x.1≠a:=λx m e=>by have:=y.f x m;rw[e,N] at this;cases this
 show#[a,ob,vs,J,M,q _ _ F6 _ _ hq #[g1.trans' #[g6,λb o u e=>(z6 b o u e).elim],m2.mo l6 (λb=>Ia<|hB b) _,#[λx m=>?_,λx m=>?_,y.nd],λx m=>?_]]
 .rw[u6 _<|ne x m];show y.h x m
 .rw[b6 _<|ne x m];show y.f x m
 .have z:fz r a (.aC ob<|.dK vs) x.1=Æ:=by
   cases m with
   |head=>show E.h.free hp
   |tail _ m=>show n5 x m
  rw[ff<|ne x m] at z;show g1.h.free z
def TV{K:aq}{k:Md}{X:Cx}{M:TE}{L:bh}{E:List Nat}{O:TG}{pg:fy}{U:TT}{pt:dI}{N:TE}{pe:bh}{ix:bC}(hz:k.z=Â)(h:bE K k M L)(hg:ot K E O pg)(ht:gk K k.walk.cM U pt)(he:bE K k.walk.cM N pe)(hj:∀j∈E,ix[j]?=À Æ):bE K k (tU X<|qf (u5 zH X M) O U N ix) (nq (sM .vs L) pg pt pe ix):=λF B H G J Q Q' c p q=>by
 show h F B H G J _ _ c p λt v Y H1 cs p1 x=>?_
 unfold nk at p1;split at p1
 .obtain⟨_,a,vs,rfl,h2,h3,h4⟩:=x.r;have m:=c.gr x.g;have l:=r6 (m.z hz) h2;have D:=m.s _ _ l;let#[I,i0,step,o]:=p1;show#[a,vs,rfl,D,λob w=>?_];let#[A,C]:=Hq m l ob;rw[JY D];show HW (Q:=λv=>nv X<|Q v) (sT K (λb=>fz (B b) a<|.aC ob<|.dK vs) (fz Y a<|.aC ob<|.dK vs) (fz H1 a<|.aC ob<|.dK vs) I) #[_,[],[],Gr.aR A.s,#[rfl,rfl],.nil,.nil,i0] ?_ ?_ ?_
  .rintro i d H3 _ ⟨F3,us,cells,g3,_⟩;show g3.s _ _ (g3.f _ _ (by rw[gu,av3 (by rw[l];intro z;cases z)]))
  .rintro i y u d H3 e ⟨F3,us,cells,g3,r3,hc3,n3,ii⟩;have rk:=h3.mo (Le.trans (mI<|.inr l)<|Le.of g3.f) (λb=>mI (ob:=ob)<|C b) _;let#[tu,e1,e2]:=rk.dy e;show IQ hg ht he hj A g3 r3 hc3 n3 (Gr.aR g3.s) e2 (step i tu us (by rw[Í,e1];rfl) ii)
  .rintro d H3 hP;show JZ (n:=↑vs) hz m x.g l w C (λd h=>o d (by rw[Å,<- ↑h3];show h)) q d H3 hP
 .show p1.elim
def GZ{K:aq}{k:Md}{X:Cx}{M:TE}{L:bh}{E:List Nat}{O:TG}{pg:fy}{U:TT}{pt:dI}{N:TE}{pe:bh}{ix:bC}(hz:k.z=Â)(h:bE K k M L)(hg:ot K E O pg)(ht:gk K k.walk.cM U pt)(he:bE K k.walk.cM N pe)(hj:∀j∈E,ix[j]?=À Æ):bE K k (tU X<|qf (yL X M) O U N ix) (nq (sM .it L) pg pt pe ix):=λF B H G J Q Q' c p q=>by
 show h F B H G J _ _ c p λt v F1 H1 cs p1 x=>?_
 unfold nk at p1;split at p1
 .obtain⟨_,a,vs,rfl,h2,h3,h4⟩:=x.r;have m:=c.gr x.g;have l:=r6 (m.z hz) h2;have D:=m.s _ _ l;let#[I,i0,step,o]:=p1;show#[a,vs,rfl,D,λob w=>?_];let#[A,C]:=Hq m l ob;rw[JY D];show WH (Q:=λv=>nv X<|Q v) (sT K (λb=>fz (B b) a<|.aC ob<|.dK vs) (fz F1 a<|.aC ob<|.dK vs) (fz H1 a<|.aC ob<|.dK vs) I) #[_,[],[],Gr.aR A.s,#[rfl,rfl],.nil,.nil,i0] ?_ ?_ ?_
  .rintro i d H3 _ ⟨F3,us,cells,g3,_⟩;show g3.s _ _ (g3.f _ _ (by rw[gu,av3 (by rw[l];intro z;cases z)]))
  .rintro i y u d H3 pa e ⟨F3,us,cells,g3,r3,hc3,n3,ii⟩ hp;have rk:=h3.mo (Le.trans (mI<|.inr l)<|Le.of g3.f) (λb=>mI (ob:=ob)<|C b) _;∎;let#[Y,e1,e2]:=rk.dy e;let#[F4,g4,r4,_]:=uu (xs:=[kf y,Y]) (cs:=[]) g3.s #[kV y,[u],[],[],rfl,rfl,B6,u,[],[],[],rfl,rfl,e2,rfl,rfl] .nil hp;∎;show IQ hg ht he hj A g3 r3 hc3 n3 g4 r4 (step i (.aF [kf y,Y]) us (by rw[Í,e1];rfl) ii)
  .rintro d H3 hP;show JZ (n:=↑vs) hz m x.g l w C (λd h=>o d (by rw[Å,<- ↑h3];show h)) q d H3 hP
 .show p1.elim
variable{X:Cx}{k:Md}
def IS{b d:Pos}{pt:dI}(N:ah)(ix:bC)(E:QE X k o po)(B:n4 X a N G target pg)(A:∀C s H fp pl,QE `an k.walk.cM elt pe)(ht:∀C s H fp pl,pP `an k.walk.cM ifs pt:=by show λ_ _ _ _ _=>uI)(hz:do k.z=Â)(w:do X.calm=Â)(l:bK X a N ix:=by repeat first |show ô |show#[rfl,rfl,rfl,?_])(D: ~~~(∀j∈G,ix[j]?=À Æ))(u:do õ o "values" X.env `ap=eval o X.env)(v:do (b.endLine == d.line)=Â)(g:do a.kind=.function)(f: ~~~(∀y∈a.names,y.2≠.cell))(e: ~~~(∀x∈a.names,x.2=.local->a.names.lookup x.1=À .local))(i:do jE a X.env=Â)(hs:∀x,Ė (.Call (.Attribute o "values" b) [] [] d) X.env x=pure x:=by intro _;rfl):
  QE X k (.ListComp elt [#[target,.Call (.Attribute o "values" b) [] [] d,ifs,0]] a pos) (nq (sM .vs po) pg pt pe ix):=by
 ∎;let#[I,m,n]:=E.h;let#[J,q,r]:=B.h;∎;show#[_,AK<|xu w (Wz m u v) q (λC s H fp pl=>(ht C s H fp pl).h) (λC s H fp pl=>(A C s H fp pl).of) l g f e i hs,TV hz n r uH uE D]
def IT{b d:Pos}{elts:b5}{x1:Nat}{f:Pos}{pt:dI}(N:ah)(ix:bC)(G:QE X k o po)(D:n4 X a N I (.Tuple elts x1 f) pg)(B:∀C s H fp pl,QE `an k.walk.cM elt pe)(ht:∀C s H fp pl,pP `an k.walk.cM ifs pt:=by show λ_ _ _ _ _=>uI)(hz:do k.z=Â)(A:do X.calm=Â)(m:bK X a N ix:=by repeat first |show ô |show#[rfl,rfl,rfl,?_])(E: ~~~(∀j∈I,ix[j]?=À Æ))(v:do õ o "items" X.env `ap=eval o X.env)(w:do (b.endLine == d.line)=Â)(i:do a.kind=.function)(g: ~~~(∀y∈a.names,y.2≠.cell))(e: ~~~(∀x∈a.names,x.2=.local->a.names.lookup x.1=À .local))(l:do jE a X.env=Â)(hs:∀x,Ė (.Call (.Attribute o "items" b) [] [] d) X.env x=pure x:=by intro _;rfl):
  QE X k (.ListComp elt [#[.Tuple elts x1 f,.Call (.Attribute o "items" b) [] [] d,ifs,0]] a pos) (nq (sM .it po) pg pt pe ix):=by
 ∎;let#[J,n,q]:=G.h;let#[L,r,u]:=D.h;∎;show#[_,AK<|xu A (Ax n v w) r (λC s H fp pl=>(ht C s H fp pl).h) (λC s H fp pl=>(B C s H fp pl).of) m i g e l hs,GZ hz q u uH uE E]
def XE{b d:Pos}{pt:dI}{elts:b5}{x1:Nat}{e:Pos}(i:Nat)(N:ah)(ix:bC)(Q:QE X k o po)(L:n4 X a N Y (.Tuple elts x1 e) pg)(I:∀C s H fp pl,QE `an k.walk.cM elt pe)(ht:∀C s H fp pl,pP `an k.walk.cM ifs pt:=by show λ_ _ _ _ _=>uI)(hz:do k.z=Â)(E:X.N.Nodup:=by assumption)(O: ~~~(lo<=i))(r:do X.N[i]?=À y)(U:Loc X.env.scope y:=by first |show ϲ rfl |show ű rfl)(G:do X.calm=Â)(n:bK X a N ix:=by repeat first |show ô |show#[rfl,rfl,rfl,?_])(M: ~~~(∀j∈Y,ix[j]?=À Æ))(B:do õ o "items" X.env `ap=eval o X.env)(D:do (b.endLine == d.line)=Â)(q:ĳ (.ListComp elt [#[.Tuple elts x1 e,.Call (.Attribute o "items" b) [] [] d,ifs,0]] a pos) (À<|.Name y py) spos.line X.env=pure Â:=by with_unfolding_all rfl)(l:do a.kind=.function)(g: ~~~(∀y∈a.names,y.2≠.cell))(f: ~~~(∀x∈a.names,x.2=.local->a.names.lookup x.1=À .local))(m:do jE a X.env=Â)(hs:∀x,Ė (.Call (.Attribute o "items" b) [] [] d) X.env x=pure x:=by intro _;rfl)(J:kW X y:=by first |show .inl rfl |show .inr rfl |assumption):
  QS X k lo (.Assign [.Name y py] (.ListComp elt [#[.Tuple elts x1 e,.Call (.Attribute o "items" b) [] [] d,ifs,0]] a pos) spos) (rH i<|nq (sM .it po) pg pt pe ix):=by
 ∎;let#[te,u,v]:=Q.h;let#[tf,w,A]:=L.h;∎;show#[_,WA<|HV E r U G (Ax u B D) w (λC s H fp pl=>(ht C s H fp pl).h) (λC s H fp pl=>(I C s H fp pl).of) n q l g f m hs J,Az O<|GZ (X:=X) hz v A uH uE M]
end
def VU(w:Wm)(a:bh)(j:ag)(Q:ag->Bool->Prop):sM w a j Q=(a j λt=>nk t λm=>Q (m.map<|wit w) Â):=rfl
end Pu
namespace L2
open PySem PySem.Spec PyProof.Rows
section
variable{X:Cx}
def Vo{T:String}{r d:ai}{OK:aW->Prop}{aa:aZ}{s:ao}{G:St}{H:Hp}{Q:VK}{kvs:b9}{vs:List (aI×ar)}{ks:ah}(hc:X.calm=Â)(C:W.KdlSrc X.prog X.w T r d ↑vs (λi v=>∃k x,vs[i]?=À (k,x)/\(eM X.prog X.w).is k v=Â) OK)(I:ax X aa G H s)(aS:OK s.heap)(J:KV kvs vs)(hk:kvs.map (·.1)=ks.map (Sum.inr:Str->aI))(O:↑ks<64)(q:∀B:ah,B.Perm ks->Ě B=Â->∀p,H p=Æ->Q `am (aU H p<|.af<|B.map V.str)):Ú `ab X.A (call (.builtin "sorted") [.ref r]) (EP X aa G Q) X.xe s:=by
 have hl:↑kvs=↑vs:=KV.length J;have h:↑kvs=↑ks:=by have:=av9 ad3 hk;simpa using this
 have z:↑ks<=Ò:=by rw[Į];omega
 show Γ kind_sorted plain_sorted entry_sorted `cw ?_;unfold Ţ.«sorted»;show È (m:=checkCount "sorted" 1 1 _)<|Þ ?_;show È (W.kdu_collect C `bO aS (by rw[<- hl,h];show z) λn N f α g=>?_);have U:StrsAre f.toList ks:=by
  show Gs (by rw[Œ,g.1,<- hl,h]) λj x u h1 h2=>?_
  let#[k',v,hx,E]:=g.2 j u (by rw[<- ϑ];show h2);obtain⟨p,hp⟩:∃p,kvs[j]?=À p:=by
   have:j<↑kvs:=by rw[h];show (Á.mp h1).1
   show#[kvs[j],by simp[this]]
  have e1:p.1=Sum.inr x:=by
   have:=av9 (λl=>l[j]?) hk;simp only[Í,hp,h1,Ž] at this;show Ø this
  let#[u',β,_]:=J.at (k:=p.1) (v:=p.2) hp;rw[β] at hx;cases hx;have:=uy E;rw[e1] at this;show this
 have I1:ax X aa G H { s with heap:=n,toks:=N }:=I.kept (t':=N) α;show È<|at3 ?_;have y:(n.push<|ah9 "list" f.toList.toArray 0).get? n.objs.size=À (ah9 "list" f.toList.toArray 0):=Ô _ rfl;change Ú _ _ _ _ _ { s with heap:=n.push<|ah9 "list" f.toList.toArray 0,toks:=N };have D:↑f.toList<64:=by rw[Œ,g.1,<- hl,h];show O
 show È (Ŗ (al4 ap6 #[_,y,rfl] an0 (an1 as7 y U.keysOf (λv1 v2 rest e=>keyKind_strs (by rw[<- e];show U)) D λM a1 a2=>#[_,rfl,?_])<|ap5 _));let#[L,b1,b2,b3]:=ap8 U a1 a2;show Þ #[_,rfl,?_];let#[e,he]:=as6 (out:=(arrOf M).map (·.2)) y;have Y:H n.objs.size=Æ:=I1.aS.fresh<|Î _;show#[.ref n.objs.size,_,I1.laid (a:=n.objs.size) (o:=.af<|L.map V.str) (t':=N) (λb o eb=>?_) (Î _) #[?_,((arrOf M).map (·.2)).toList,e,Ac b1,by rw[Ϡ];show he],rfl,q L b2 b3 _ Y]
 .have lb:b<n.objs.size:=Ì eb;rw[ap7 (é lb) (by rw[size_push'];show Ģ lb)];show Ã _ eb
 .rw[Å,b2.length_eq];show z
abbrev KA(f:TE):TE:=λj H Q=>f j H λx e=>∃a d ks,x=.ref a/\Rd e a `cc/\d.map (·.1)=ks.map (Sum.inr:Str->aI)/\↑ks<64/\∀b:ah,b.Perm ks->Ě b=Â->∀p,e p=Æ->Q `am (aU e p<|.af<|b.map V.str)
def Vp{o:ě}{J:TE}{f g p pos:Pos}(N:X.calm=Â)(O:Gl X "sorted")(hm:X.mg "sorted"=Æ)(Y:PE X o J)(i:õ o "keys" X.env `ap=eval o X.env)(l:(f.endLine == g.line)=Â)(hs:do ē [.Call (.Attribute o "keys" f) [] [] g] X.env=[(Ç,eval (.Call (.Attribute o "keys" f) [] [] g) X.env)]):
  PE X (.Call (.Name "sorted" p) [.Call (.Attribute o "keys" f) [] [] g] [] pos) (KA J):=by
 intro aa s j H Q I h;show Ħ<|k6 I O hm (u:=.builtin "sorted") rfl ?_;show GC ?_ hs rfl;rw[hs];change Ú _ _ (spliced ((Ç,eval (.Call (.Attribute o "keys" f) [] [] g) X.env)::Ϗ pos [])) _ _ s;show ļ ?_;show ϙ i l<|bu (Y aa s j H _ I h) λv m D=>?_;let#[x,L,A,r1,a,kvs,ks,ex,E,U,B,q]:=D;subst ex;obtain rfl:v=Ý a:=r1;let#[G,t2,hd]:=rX A<|.inl #[kvs,E];show#["dict","dict.keys",PySem.F.plainAttrs_dict,PySem.F.slot_dict_keys,PySem.F.type_dict_keys,G,t2,ķ rfl<|PySem.evalArgs_none ?_];let#[z,y,vs,r,dd]:=iU A.aS E;show Ő PySem.F.slot_dict_keys G PySem.F.entry_dict_keys (PySem.F.args_dict_keys_1 _) (W.kdl_meets_keys `aF a hd) #[#[vs,dd],?_];have M:ax X aa j L { m with heap:=m.heap.push { cls:=.type "dict_keys",data:=.fields ([.ref a].toArray) } }:=A.kept (t':=m.toks) λb o e=>Ã _ e
 let#[ep,C]:=dd.dictAt;have n:=C.push { cls:=.type "dict_keys",data:=.fields ([.ref a].toArray) };show Ş ?_;show Vo (s:={ m with heap:=m.heap.push { cls:=.type "dict_keys",data:=.fields ([.ref a].toArray) } }) N (W.kdl_keys (knd:=eM X.prog X.w) (kvs:=vs) (ep:=ep) (r:=⇑m) (d:=a)) M #[#[_,Ô _ rfl,rfl,rfl],n] r U B q
end
end L2
namespace Pu
open PySem L2 Vc Sf
section
variable{X:Cx}{k:Md}{K:aq}
abbrev C4(t:Tr)(Q:aB):Prop:=match t with |.aP _ m=>∃ns:ah,ns.length<64/\m.map (·.1)=ns.map (Sum.inr:Str->aI)/\Q (.af .o<|(vk ns).map ae.t) |_=>False
def ZT{n:TE}{pe:bh}(h:bE K k n pe):bE K k (KA n) (p1 C4 pe):=λF B H j i Q I c p q=>by
 show h F B H j i _ _ c p λx v o G J p1 d=>?_
 unfold C4 at p1;split at p1
 .obtain⟨ns,hn,hm,p1⟩:=p1;let#[a,vs,L,rfl,z,A,M,N]:=d.r.fV d.g.s (λk=>(c.b k).trans d.g.h) d.c;show#[a,vs,ns,rfl,z,(Rk.keys A).trans hm,hn,λf u w p l=>?_];have e:f=vk ns:=JE u w;subst e;let#[C,D,E]:=nD (cs:=[]) d.g.s (AV _) .nil l;show q _ _ o _ _ p1 #[d.g.trans' C,D,E,λy m=>?_];cases m with
  |head=>show d.g.h.free l
  |tail _ m=>cases m
 .show p1.elim
def MN{o:ě}{po:bh}{a b p pos:Pos}(i:X.calm=Â)(j:Gl X "sorted")(hm:X.mg "sorted"=Æ)(h:QE X k o po)(f:do õ o "keys" X.env `ap=eval o X.env)(g:do (a.endLine == b.line)=Â)(hs:do ē [.Call (.Attribute o "keys" a) [] [] b] X.env=[(Ç,eval (.Call (.Attribute o "keys" a) [] [] b) X.env)]):
  QE X k (.Call (.Name "sorted" p) [.Call (.Attribute o "keys" a) [] [] b] [] pos) (p1 C4 po):=by
 let#[l,d,e]:=h.h;show#[_,Vp i j hm d f g hs,ZT e]
end
end Pu
namespace Lp
abbrev sm:Nat->(Nat->Int)->Int
 |0,_=>0
 |n + 1,f=>sm n f + f n
def a8{f g:Nat->Int}:∀{n:Nat},(∀k,k<n->f k=g k)->sm n f=sm n g
 |0,_=>rfl
 |n + 1,h=>by rw[sm,sm,a8 λk a=>h k ⋯,h n ⋯]
def uM(a b:Int)(f g:Nat->Int):∀n:Nat,sm n (λk=>a*f k+b*g k)=a*sm n f+b*sm n g
 |0=>by simp[sm]
 |n + 1=>by rw[sm,sm,sm,uM a b f g n];grind
def bQ(a:Int)(f:Nat->Int):∀n:Nat,sm n (λk=>a*f k)=a*sm n f
 |0=>by simp[sm]
 |n + 1=>by rw[sm,sm,bQ a f n];grind
def b4{f:Nat->Int}:∀{n:Nat},(∀k,k<n->f k=0)->sm n f=0
 |0,_=>rfl
 |n + 1,h=>by rw[sm,b4 λk a=>h k ⋯,h n ⋯];rfl
def bH{f:Nat->Int}{a:Nat}:∀{n:Nat},a<n->(∀k,k<n->k≠a->f k=0)->sm n f=f a
 |n + 1,ha,h=>by
  by_cases e:a=n
  .subst e;rw[sm,b4 λk b=>h k ⋯ ⋯];omega
  .rw[sm,bH (a:=a) ⋯ λk b=>h k ⋯,h n ⋯ ⋯];omega
def f7{f:Nat->Int}{a b:Nat}(d:a<b):∀{n:Nat},b<n->(∀k,k<n->k≠a->k≠b->f k=0)->sm n f=f a+f b
 |n + 1,hb,h=>by
  by_cases e:b=n
  .subst e;rw[sm,bH (a:=a) d λk g i=>h k ⋯ i ⋯]
  .rw[sm,f7 d ⋯ λk g=>h k ⋯,h n ⋯ ⋯ ⋯];omega
def dX(f:aQ)(n:Nat):∀m:Nat,sm m (λi=>sm n<|f i)=sm n λk=>sm m λi=>f i k
 |0=>by rw[sm,b4];intro k _;rfl
 |m + 1=>by
  rw[sm,dX f n m];have:=uM 1 1 (λk=>sm m λi=>f i k) (f m) n;simp only[ai8] at this;rw[<- this];rfl
abbrev sg(n:Nat):Int:=if n % 2=0 then 1 else -1
def XG(n:Nat):sg (n+1)=- sg n:=by unfold sg;split<;>split<;>omega
abbrev skip(k j:Nat):Nat:=if j<k then j else j+1
abbrev up{i:Type}(v:Nat->i)(s:Nat)(x:i):Nat->i:=λj=>if j=s then x else v j
abbrev dt:Nat->(aQ)->Int
 |0,_=>1
 |m + 1,v=>sm (m + 1) λk=>sg (m + k) * v k m * dt m (λj=>v<|skip k j)
def qy:∀{m:Nat}{v w:aQ},(∀j i,j<m->i<m->v j i=w j i)->dt m v=dt m w
 |0,_,_,_=>rfl
 |m + 1,v,w,h=>by
  rw[dt,dt];apply a8;intro k a;rw[h k m a ⋯,qy (m:=m) (v:=λj=>v<|skip k j) (w:=λj=>w<|skip k j) λj i d b=>h _ _ (by unfold skip;split<;>omega) ⋯]
def AW{v:aQ}{s k:Nat}(x:Nat->Int)(h:k≠s):(λj=>up v s x<|skip k j)=up (λj=>v<|skip k j) (if s<k then s else s - 1) x:=by
 funext j;unfold up skip;dsimp only;by_cases a:s<k
 .rw[av4 a];by_cases b:j<k
  .rw[av4 b]
  .rw[av3 b,av3 ⋯,av3 ⋯]
 .rw[av3 a];by_cases b:j<k
  .rw[av4 b,av3 ⋯,av3 ⋯]
  .rw[av3 b];by_cases c:j+1=s
   .rw[av4 c,av4 ⋯]
   .rw[av3 c,av3 ⋯]
def TX{v:aQ}{s:Nat}(x:Nat->Int):(λj=>up v s x<|skip s j)=λj=>v (skip s j):=by
 funext j;unfold up skip;rw[av3 (by split<;>omega)]
def kJ{v:aQ}{s:Nat}{x:Nat->Int}:up v s x s=x:=by simp[up]
def jK{v:aQ}{s k:Nat}{x:Nat->Int}(h:k≠s):up v s x k=v k:=by simp[up,h]
def qD(a b:Int)(x y:Nat->Int):∀{m:Nat}(v:aQ){s:Nat},s<m->dt m (up v s λi=>a*x i+b*y i)=a*dt m (up v s x)+b*dt m (up v s y)
 |m + 1,v,s,hs=>by
  simp only[dt];rw[<- uM];apply a8;intro k d;by_cases e:k=s
  .subst e;simp only[TX,kJ];grind
  .simp only[jK e];rw[AW _ e,AW _ e,AW _ e,qD a b x y (m:=m) _ (by split<;>omega)];grind
def J3:∀{m:Nat}{v:aQ}{a:Nat},a+1<m->(∀i,i<m->v a i=v (a+1) i)->dt m v=0
 |m + 1,v,a,ha,h=>by
  rw[dt,f7 (a:=a) (b:=a+1) ⋯ ha]
  .have e:dt m (λj=>v<|skip a j)=dt m (λj=>v<|skip (a+1) j):=by
    apply qy;intro j i f d;unfold skip;by_cases c:j=a
    .subst c;rw[av3 ⋯,av4 ⋯];show (h i ⋯).symm
    .by_cases b:j<a
     .rw[av4 b,av4 ⋯]
     .rw[av3 b,av3 ⋯]
   rw[e,h m ⋯,<- ae7,XG];grind
  .intro k hk ka kb;rw[J3 (m:=m) (v:=λj=>v<|skip k j) (a:=if k<a then a - 1 else a),ï]
   .split<;>omega
   .intro i d;unfold skip;by_cases c:k<a
    .simp only[c,if_true];rw[av3 ⋯,av3 ⋯,show a - 1+1=a by omega];show h i ⋯
    .simp only[c,if_false];rw[av4 ⋯,av4 ⋯];show h i ⋯
def qL{v:aQ}{s t:Nat}{x y:Nat->Int}(h:s≠t):up (up v s x) t y=up (up v t y) s x:=by
 funext j;unfold up;by_cases a:j=t<;>by_cases b:j=s<;>simp[a,b]<;>omega
def GD{m a b:Nat}(d:a≠b)(e:a<m)(f:b<m)(h:∀v:aQ,(∀i,i<m->v a i=v b i)->dt m v=0)(v:aQ)(x y:Nat->Int):dt m `eb=- dt m `ec:=by
 have z:=λp=>h (up (up v a p) b p) λi _=>by rw[jK d,kJ,kJ]
 have l:=qD 1 1 x y (m:=m) (up v a λi=>1*x i+1*y i) f;rw[z,qL d,qL d,qD 1 1 x y (m:=m) _ e,qD 1 1 x y (m:=m) _ e,qL d.symm,qL d.symm,qL d.symm,qL d.symm,z,z] at l;omega
def xR{m:Nat}:∀(n:Nat){v:aQ}{a b:Nat},b=a+n+1->b<m->(∀i,i<m->v a i=v b i)->dt m v=0
 |0,v,a,b,e,hb,h=>by subst e;show J3 hb h
 |n + 1,v,a,b,e,hb,h=>by
  have s:=GD (m:=m) (a:=b - 1) (b:=b) ⋯ ⋯ hb (λw g=>xR 0 ⋯ hb g) v (v<|b - 1) (v b);have f:up (up v (b - 1)<|v<|b - 1) b (v b)=v:=by
   funext j;unfold up;by_cases c:j=b
   .simp[c]
   .by_cases d:j=b - 1
    .rw[av3 c,av4 d,d]
    .rw[av3 c,av3 d]
  rw[f,xR n (v:=up (up v (b - 1)<|v b) b<|v<|b - 1) (a:=a) (b:=b - 1) ⋯ ⋯] at s
  .omega
  .intro i hi;rw[jK ⋯,jK ⋯,jK ⋯,kJ];show h i hi
def uN{m a b:Nat}{v:aQ}(e:a≠b)(d:a<m)(f:b<m)(h:∀i,i<m->v a i=v b i):dt m v=0:=by
 by_cases c:a<b
 .show xR (b - a - 1) ⋯ f h
 .show xR (a - b - 1) (a:=b) (b:=a) ⋯ d λi g=>(h i g).symm
def YA{m a b:Nat}(d:a≠b)(e:a<m)(f:b<m)(v:aQ)(x y:Nat->Int):dt m `eb=- dt m `ec:=
 GD d e f (λ_ h=>uN d e f h) v x y
def Bw{m s:Nat}(hs:s<m)(v:aQ)(c:Nat->Int)(u:aQ):∀n:Nat,dt m (up v s λi=>sm n λj=>c j*u j i)=sm n λj=>c j*dt m (up v s<|u j)
 |0=>by
  have:=qD 0 0 (λ_=>0) (λ_=>0) (m:=m) v hs;simp only[ź,ao9] at this;show this
 |n + 1=>by
  have:=qD 1 (c n) (λi=>sm n λj=>c j*u j i) (u n) (m:=m) v hs;simp only[ai8] at this;change dt m (up v s λi=>(sm n λj=>c j*u j i)+c n*u n i)=_;rw[this,Bw hs v c u n];rfl
def AX:∀m:Nat,dt m (λj i=>if i=j then 1 else 0)=1
 |0=>rfl
 |m + 1=>by
  rw[dt,bH (a:=m) ⋯]
  .rw[av4 rfl,qy (w:=λj i=>if i=j then 1 else 0),AX m]
   .have:sg (m+m)=1:=by unfold sg;rw[av4 ⋯]
    rw[this];rfl
   .intro j i hj hi;unfold skip;rw[av4 hj]
  .intro k hk hn;rw[av3 ⋯,ï,ź]
variable{m n:Nat}{A:aQ}{S:Nat->Nat}
abbrev bs(A:aQ)(S:Nat->Nat):aQ:=λj i=>A i<|S j
abbrev dd(m:Nat)(A:aQ)(S:Nat->Nat):Int:=dt m<|bs A S
abbrev tt(m:Nat)(A:aQ)(S:Nat->Nat)(i k:Nat):Int:=dt m<|up (bs A S) i λx=>A x k
abbrev Cr(m:Nat)(A:aQ)(S:Nat->Nat):Prop:=∀i k,i<m->dd m A S*A i k=sm m λj=>tt m A S j k*A i (S j)
def B9{v:aQ}{i:Nat}:up v i (v i)=v:=by funext j;unfold up;split<;>simp_all
def Vq{v:aQ}{i:Nat}{x y:Nat->Int}:up (up v i x) i y=up v i y:=by funext j;unfold up;split<;>simp_all
def Ca{r c:Nat}:bs A `bA=up `bw r λx=>A x c:=by funext j i;unfold bs up;split<;>rfl
def J4{i:Nat}:tt m A S i (S i)=dd m A S:=by
 unfold tt dd;rw[show (λx=>A x<|S i)=bs A S i from rfl,B9]
def Hr{i j:Nat}(a:i<m)(b:j<m)(h:i≠j):tt m A S i (S j)=0:=
 uN h a b λx _=>by rw[kJ,jK<|đ h];rfl
def Bx(h:dd m A S≠0){i j:Nat}(a:i<m)(b:j<m)(e:S i=S j):i=j:=by
 apply ϩ;intro q;show h (uN q a b λx _=>by unfold bs;rw[e])
def eP{r c:Nat}:dd m A `bA=tt m A S r c:=by unfold dd tt;rw[Ca]
def cp{r c k:Nat}:tt m A `bA r k=tt m A S r k:=by unfold tt;rw[Ca,Vq]
def e9(C:Cr m A S){r c i:Nat}(k:Nat)(f:i<m)(l:r<m)(h:i≠r):
  dd m A S*tt m A `bA i k=tt m A S i k*tt m A S r c - tt m A S i c*tt m A S r k:=by
 have s:dd m A S*tt m A `bA i k=dt m (up (up `bw r λx=>A x c) i λx=>sm m λj=>tt m A S j k*bs A S j x):=by
  unfold tt;rw[Ca];have:=qD (dd m A S) 0 (λx=>A x k) (λ_=>0) (m:=m) (up `bw r λx=>A x c) f;simp only[ź,ao9] at this;rw[<- this];apply qy;intro j x d u;by_cases q:j=i
  .subst q;rw[kJ,kJ];show C x k u
  .rw[jK q,jK q]
 have z:∀j,j<m->j≠i->j≠r->tt m A S j k*dt m (up (up `bw r λx=>A x c) i<|bs A S j)=0:=λj d e g=>by
  rw[uN (a:=i) (b:=j) (đ e) f d λx _=>by rw[kJ,jK e,jK g],ï]
 have o:dt m (up (up `bw r λx=>A x c) i<|bs A S i)=tt m A S r c:=by
  rw[qL<|đ h,B9];rfl
 have zr:dt m (up (up `bw r λx=>A x c) i<|bs A S r)=- tt m A S i c:=by
  rw[YA (đ h) l f,B9];rfl
 rw[s,Bw f];by_cases q:i<r
 .rw[f7 q l λj d e g=>z j d e g,o,zr];grind
 .rw[f7 (a:=r) (b:=i) ⋯ f λj d g e=>z j d e g,o,zr];grind
def Cr.turn(C:Cr m A S)(hd:dd m A S≠0){r c:Nat}(o:r<m):Cr m A `bA:=by
 intro i k l;rw[eP];have g:sm m (λj=>dd m A S*(tt m A `bA j k*A i (up S r c j)) - tt m A S r c*(tt m A S j k*A i (S j))+tt m A S r k*(tt m A S j c*A i (S j)))=dd m A S*tt m A S r k*A i c:=by
  rw[bH (a:=r) o]
  .rw[cp];simp only[up,if_true];grind
  .intro j hj q;have:=e9 C (c:=c) k hj o q;rw[show up S r c j=S j by simp[up,q]];grind
 have e:∀(f g h:Nat->Int)(a b d:Int)(n:Nat),sm n (λj=>a*f j - b*g j+d*h j)=a*sm n f - b*sm n g+d*sm n h:=by
  intro f g h a b d n;induction n with
  |zero=>simp[sm]
  |succ n s=>rw[sm,sm,sm,sm,s];grind
 rw[e,<- C i k l,<- C i c l] at g;apply Ĭ hd
 grind
def g8{j:Nat}(k:Nat)(b:j<m):tt m A S j k=sm m λi=>A i k*dt m (up `bw j λx=>if x=i then 1 else 0):=by
 unfold tt;rw[<- Bw b `bw (λi=>A i k) (λi x=>if x=i then 1 else 0)];apply qy;intro a x e d;by_cases q:a=j
 .subst q;rw[kJ,kJ,bH (a:=x) d]
  .simp
  .intro i hi h;rw[av3<|đ h,ï]
 .rw[jK q,jK q]
abbrev pN(m N:Nat)(A:aQ)(y:Nat->Int):Prop:=∀i,i<m->sm N (λk=>A i k*y k)=0
def pN.tt{N:Nat}{y:Nat->Int}(h:pN m N A y){j:Nat}(b:j<m):sm N (λk=>tt m A S j k*y k)=0:=by
 rw[a8 (g:=λk=>sm m λi=>dt m (up `bw j λx=>if x=i then 1 else 0)*(A i k*y k))]
 .rw[<- dX λi k=>dt m (up `bw j λx=>if x=i then 1 else 0)*(A i k*y k)];apply b4;intro i a;rw[bQ,h i a,ï]
 .intro k _;rw[g8 k b,ac2,<- bQ];apply a8;intro i _;grind
def ZU{N:Nat}{y:Nat->Int}(C:Cr m A S)(hd:dd m A S≠0)(h:∀j,j<m->sm N (λk=>Lp.tt m A S j k*y k)=0):pN m N A y:=by
 intro i a;apply Ĭ hd;rw[<- bQ,ï,a8 (g:=λk=>sm m λj=>A i (S j)*(Lp.tt m A S j k*y k))]
 .rw[<- dX λj k=>A i (S j)*(Lp.tt m A S j k*y k)];apply b4;intro j b;rw[bQ,h j b,ï]
 .intro k _;rw[<- Υ,C i k a,ac2,<- bQ];apply a8;intro j _;grind
abbrev zz(m:Nat)(A:aQ)(c:Nat->Int)(S:Nat->Nat)(k:Nat):Int:=dd m A S*c k - sm m λi=>c (S i)*tt m A S i k
def c8{c:Nat->Int}{i:Nat}(b:i<m):zz m A c S (S i)=0:=by
 unfold zz;rw[bH (a:=i) b,J4]
 .grind
 .intro j hj q;rw[Hr hj b q,ï]
def xS{N:Nat}{c y:Nat->Int}(h:pN m N A y):sm N (λk=>zz m A c S k*y k)=dd m A S*sm N λk=>c k*y k:=by
 rw[a8 (g:=λk=>dd m A S*(c k*y k)+(-1)*sm m λi=>c (S i)*(tt m A S i k*y k)),uM,<- dX λi k=>c (S i)*(tt m A S i k*y k)]
 .rw[b4 (n:=m)]
  .grind
  .intro i hi;rw[bQ,h.tt hi,ï]
 .intro k _;unfold zz;have:sm m (λi=>c (S i)*tt m A S i k)*y k=sm m λi=>c (S i)*(tt m A S i k*y k):=by
   rw[ac2,<- bQ];apply a8;intro i _;grind
  grind
def YB(C:Cr m A S)(hd:dd m A S≠0){c:Nat->Int}{r e:Nat}(k:Nat)(l:r<m):
  dd m A S*zz m A c `eM k=zz m A c S k*tt m A S r e - zz m A c S e*tt m A S r k:=by
 unfold zz;rw[eP];have g:sm m (λi=>dd m A S*(c (up S r e i)*tt m A `eM i k) - tt m A S r e*(c (S i)*tt m A S i k)+tt m A S r k*(c (S i)*tt m A S i e))=dd m A S*tt m A S r k*c e:=by
  rw[bH (a:=r) l]
  .rw[cp];simp only[up,if_true];grind
  .intro j hj q;have:=e9 C (c:=e) k hj l q;rw[show up S r e j=S j by simp[up,q]];grind
 have o:∀(f g h:Nat->Int)(a b d:Int)(n:Nat),sm n (λj=>a*f j - b*g j+d*h j)=a*sm n f - b*sm n g+d*sm n h:=by
  intro f g h a b d n;induction n with
  |zero=>simp[sm]
  |succ n s=>rw[sm,sm,sm,sm,s];grind
 rw[o] at g
 grind
variable{m n:Nat}{A:aQ}
def J8{d x y:Int}(hd:0<d)(h:d*x<=d*y):x<=y:=Int.le_of_mul_le_mul_left h hd
def tr{a b c x y z:Int}(f:0<x)(g:0<y)(hz:0<z)(d:a*y<=b*x)(e:b*z<=c*y):a*z<=c*x:=by
 have h:=ah6 d<|ĵ hz;have i:=ah6 e<|ĵ f;apply J8 g;grind
def dW{f:Nat->Int}:∀{n:Nat},(∀k,k<n->0<=f k)->0<=sm n f
 |0,_=>Int.le_refl _
 |n + 1,h=>by
  have:=dW (n:=n) λk a=>h k ⋯
  have:=h n ⋯;rw[sm];omega
structure Gd(m n:Nat)(A:aQ)(S:Nat->Nat):Prop where
 cr:Cr m A S
 pos:0<dd m A S
 lt:∀i,i<m->S i<n
 fe:∀i,i<m->0<=tt m A S i n
abbrev Ent(m n:Nat)(A:aQ)(c:Nat->Int)(sh:Nat->Prop)(S:Nat->Nat)(e:Nat):Prop:=
 e<n/\zz m A c S e<0/\¬ sh e/\∀k,k<e->¬ sh k->0<=zz m A c S k
abbrev Lv(m n:Nat)(A:aQ)(S:Nat->Nat)(r e:Nat):Prop:=
 r<m/\0<tt m A S r e/\∀i,i<m->0<tt m A S i e->tt m A S r n*tt m A S i e<tt m A S i n*tt m A S r e\/(tt m A S r n*tt m A S i e=tt m A S i n*tt m A S r e/\S r<=S i)
def Gd.turn{S:Nat->Nat}{r e:Nat}(G:Gd m n A S)(V:Lv m n A S r e)(f:e<n):Gd m n A `eM:=by
 show#[G.cr.turn `be V.1,by rw[eP];show V.2.1,λi d=>?_,λi d=>?_]
 .unfold up;split
  .show f
  .show G.lt i d
 .by_cases q:i=r
  .rw[q,cp];show G.fe r V.1
  .have t:=e9 G.cr (c:=e) n d V.1 q;apply J8 G.pos;rw[t,ï];by_cases p:0<tt m A S i e
   .have:=V.2.2 i d p;have:tt m A S r n*tt m A S i e<=tt m A S i n*tt m A S r e:=⋯
    rw[ac2<|tt m A S i e];omega
   .have a:=ϓ (G.fe i d)<|ĵ V.2.1;have b:=ϓ (show 0<=- tt m A S i e by omega)<|G.fe r V.1;rw[Int.neg_mul] at b;omega
abbrev dr(m:Nat)(A:aQ)(S:Nat->Nat)(e k:Nat):Int:=(if k=e then dd m A S else 0)+(-1)*sm m λi=>if S i=k then tt m A S i e else 0
def By{S:Nat->Nat}{e:Nat}(C:Cr m A S)(hd:dd m A S≠0)(lt:∀i,i<m->S i<n+1)(d:e<n+1):pN m (n+1) A (dr m A S e):=by
 apply ZU C hd;intro j b;rw[a8 (g:=λk=>1*(tt m A S j k*if k=e then dd m A S else 0)+(-1)*sm m λi=>if S i=k then tt m A S j k*tt m A S i e else 0),uM]
 .rw[bH (n:=n+1) (a:=e) d,av4 rfl,<- dX λi k=>if S i=k then tt m A S j k*tt m A S i e else 0,bH (n:=m) (a:=j) b,bH (n:=n+1) (a:=S j)<|lt j b,av4 rfl,J4]
  .grind
  .intro k _ q;rw[av3<|đ q]
  .intro i hi q;apply b4;intro k _;split
   .rename_i h;rw[<- h,Hr b hi<|đ q,ź]
   .rfl
  .intro k _ q;rw[av3 q,ï]
 .intro k _;unfold dr;have:sm m (λi=>if S i=k then tt m A S j k*tt m A S i e else 0)=tt m A S j k*sm m λi=>if S i=k then tt m A S i e else 0:=by
   rw[<- bQ];apply a8;intro i _;split
   .rfl
   .rw[ï]
  rw[this];grind
def jl{S:Nat->Nat}{e:Nat}(h:∀i,i<m->S i≠e):dr m A S e e=dd m A S:=by
 unfold dr;rw[av4 rfl,b4 λi a=>av3<|h i a];omega
def fW{S:Nat->Nat}{e i:Nat}(hd:dd m A S≠0)(b:i<m)(h:S i≠e):dr m A S e (S i)=- tt m A S i e:=by
 unfold dr;rw[av3 h,bH (a:=i) b,av4 rfl]
 .omega
 .intro j hj q;rw[av3 λx=>q<|Bx hd hj b x]
def cc{S:Nat->Nat}{e k:Nat}(h:∀i,i<m->S i≠k)(b:k≠e):dr m A S e k=0:=by
 unfold dr;rw[av3 b,b4 λi a=>av3<|h i a];rfl
def J9(e:Nat->Nat):∀{L:Nat},0<L->∃t,t<L/\∀u,u<L->e u<=e t
 |1,_=>#[0,⋯,λu a=>by rw[show u=0 by omega];omega]
 |L + 2,_=>by
  let#[t,b,h]:=J9 e (L:=L+1) ⋯;by_cases q:e t<=e (L+1)
  .show#[L+1,⋯,λu a=>by
    by_cases x:u=L+1
    .subst x;omega
    .have:=h u ⋯;omega]
  .show#[t,⋯,λu a=>by
    by_cases x:u=L+1
    .subst x;omega
    .show h u ⋯]
def Vr{c:Nat->Int}{sh:Nat->Prop}{S:Nat->Nat->Nat}{r e:Nat->Nat}{L:Nat}(hL:0<L)(G:∀t,t<=L->Gd m n A (S t))(E:∀t,t<L->Ent m n A c sh (S t) (e t))(V:∀t,t<L->Lv m n A (S t) (r t) (e t))(U:∀t,t<L->S (t+1)=up (S t) (r t) (e t))(B:S L=S 0):False:=by
 have nz:=λt d=>ð (G t d).pos
 have dU:∀t,t<L->dd m A (S<|t+1)=tt m A (S t) (r t) (e t):=λt d=>by rw[U t d,eP]
 have zU:=λt (d:t<L)=>YB (G t ⋯).cr (nz t ⋯) (c:=c) (e:=e t) n (V t d).1
 have st:∀t,t<L->zz m A c (S t) n*dd m A (S<|t+1)<=zz m A c (S<|t+1) n*dd m A (S t)/\(0<tt m A (S t) (r t) n->zz m A c (S t) n*dd m A (S<|t+1)<zz m A c (S<|t+1) n*dd m A (S t)):=λt d=>by
  have z:=zU t d;rw[<- U t d,<- dU t d] at z;have a:=(E t d).2.1;have f:=(G t ⋯).fe _ (V t d).1;show#[?_,λp=>?_]
  .have:=ϓ (show 0<=- zz m A c (S t) (e t) by omega) f
   grind
  .have:=ō (show 0 < - zz m A c (S t) (e t) by omega) p
   grind
 have mono:∀u t,t<=u->u<=L->zz m A c (S t) n*dd m A (S u)<=zz m A c (S u) n*dd m A (S t):=by
  intro u;induction u with
  |zero=>intro t h _;rw[show t=0 by omega];omega
  |succ u H=>
   intro t h v;by_cases q:t=u+1
   .subst q;omega
   .show tr (G t ⋯).pos (G u ⋯).pos (G (u+1) v).pos (H t ⋯ ⋯) (st u ⋯).1
 have C:∀t,t<L->tt m A (S t) (r t) n=0:=λt d=>by
  apply ϩ;intro q;have f:=(G t ⋯).fe _ (V t d).1;have s:=(st t d).2 ⋯;have a:=mono t 0 ⋯ ⋯;have b:=mono L (t+1) ⋯ ⋯;rw[B] at b;have:=tr (G (t+1) ⋯).pos (G 0 ⋯).pos (G t ⋯).pos b a;omega
 have val:∀k t,t<=L->((sm m λi=>if S t i=k then tt m A (S t) i n else 0)=0↔(sm m λi=>if S 0 i=k then tt m A (S 0) i n else 0)=0):=by
  intro k t;induction t with
  |zero=>show λ_=>Iff.rfl
  |succ t H=>
   intro d;rw[<- H ⋯];have h:dd m A (S t)*(sm m λi=>if S (t+1) i=k then tt m A (S<|t+1) i n else 0)=dd m A (S<|t+1)*(sm m λi=>if S t i=k then tt m A (S t) i n else 0):=by
    rw[<- bQ,<- bQ];apply a8;intro i g;by_cases q:i=r t
    .rw[U t ⋯,q,cp,C t ⋯,ite_self,ite_self,ï,ï]
    .have:=e9 (G t ⋯).cr (c:=e t) n g (V t ⋯).1 q;rw[C t ⋯,<- U t ⋯,<- dU t ⋯] at this;rw[show S (t+1) i=S t i by rw[U t ⋯];simp[up,q]];split<;>grind
   constructor
   .intro x;rw[x,ï] at h;show (ϗ.mp h.symm).resolve_left<|nz _ d
   .intro x;rw[x,ï] at h;show (ϗ.mp h).resolve_left<|nz _ ⋯
 have D:∀t,t<L->∀i,i<m->S t i≠e t:=λt d i g q=>by
  have:=(E t d).2.1;rw[<- q,c8 g] at this;omega
 have Q:∀t k,t<L->(∃i,i<m/\S (t+1) i=k)->k=e t\/∃i,i<m/\S t i=k:=λt k d ⟨i,g,q⟩=>by
  rw[U t d] at q;unfold up at q;split at q
  .show .inl q.symm
  .show .inr #[i,g,q]
 have out:∀t k,t<L->(∃i,i<m/\S t i=k)->k=S t (r t)\/∃i,i<m/\S (t+1) i=k:=λt k d ⟨i,g,q⟩=>by
  by_cases x:i=r t
  .subst x;show .inl q.symm
  .show .inr #[i,g,?_];rw[U t d];simp[up,x,q]
 have back:∀k,(∀t,t<L->e t≠k)->∀s t,t<=s->s<=L->(∃i,i<m/\S s i=k)->∃i,i<m/\S t i=k:=by
  intro k J s;induction s with
  |zero=>intro t h _ b;rw[show t=0 by omega];show b
  |succ s H=>
   intro t h l b;by_cases q:t=s+1
   .rw[q];show b
   .rcases Q s k ⋯ b with x |x
    .show av5 x.symm (J s ⋯)
    .show H t ⋯ ⋯ x
 have O:∀k,(∀t,t<L->S t (r t)≠k)->∀s t,t<=s->s<=L->(∃i,i<m/\S t i=k)->∃i,i<m/\S s i=k:=by
  intro k J s;induction s with
  |zero=>intro t h _ b;rw[show t=0 by omega] at b;show b
  |succ s H=>
   intro t h l b;by_cases q:t=s+1
   .rw[<- q];show b
   .rcases out s k ⋯ (H t ⋯ ⋯ b) with x |x
    .show av5 x.symm (J s ⋯)
    .show x
 let#[t,d,big]:=J9 e hL;have lv:∃s,s<L/\S s (r s)=e t:=by
  apply ϩ;intro q;have f:=O (e t) λs l x=>q #[s,l,x]
  have b1:∃i,i<m/\S (t+1) i=e t:=#[r t,(V t d).1,by rw[U t d];simp[up]]
  have Y:=f L (t+1) ⋯ ⋯ b1;rw[B] at Y;let#[i,g,x]:=f t 0 ⋯ ⋯ Y;show D t d i g x
 let#[s,l,hl]:=lv;have M:=G s ⋯;have o:=D s l;have K:=By (e:=e s) M.cr (nz s ⋯) (λi g=>Ģ<|M.lt i g)<|Ģ (E s l).1;have k1:=xS (S:=S s) (c:=c) K;have k2:=xS (S:=S t) (c:=c) K;rw[bH (a:=e s)<|Ģ (E s l).1,jl o,ac2] at k1
 .have k3:=Ĭ (nz s ⋯) k1;have neg:=(E s l).2.1;rw[k3] at neg;have p:0<=sm (n+1) λk=>zz m A c (S t) k*dr m A (S s) (e s) k:=by
   apply dW;intro k J;have es:e s<e t:=by
    have:=big s l;have:=o (r s) (V s l).1;omega
   by_cases q:k=e s
   .subst q;rw[jl o];show ϓ ((E t d).2.2.2 _ es (E s l).2.2.1)<|ĵ M.pos
   .by_cases b:∃i,i<m/\S s i=k
    .obtain⟨i,g,x⟩:=b;subst x;rw[fW (nz s ⋯) g q];by_cases N:∃u,u<L/\e u=S s i
     .obtain⟨u,v,x⟩:=N;by_cases y:S s i=e t
      .have:i=r s:=Bx (nz s ⋯) g (V s l).1<|y.trans hl.symm;rw[y,this];have a:=(E t d).2.1;have b:=(V s l).2.1;have:=ō (show 0 < - zz m A c (S t) (e t) by omega) b
       grind
      .have lt:S s i<e t:=by have:=big u v;omega
       have z:=(E t d).2.2.2 _ lt<|x ▸ (E u v).2.2.1;by_cases p:0<tt m A (S s) i (e s)
       .have v0:tt m A (S s) i n=0:=by
         have w:(sm m λj=>if S u j=S s i then tt m A (S u) j n else 0)=0:=b4 λj I=>av3 λy=>D u v j I<|y.trans x.symm
         have w2:=(val (S s i) s ⋯).mpr<|(val (S s i) u ⋯).mp w;rw[bH (a:=i) g,av4 rfl] at w2
         .show w2
         .intro j I y;rw[av3 λz=>y<|Bx (nz s ⋯) I g z]
        have:=(V s l).2.2 i g p;rw[C s l,v0,hl] at this;omega
       .show ϓ z ⋯
     .have b0:=back (S s i) (λu v x=>N #[u,v,x]) s 0 ⋯ ⋯ #[i,g,rfl];rw[<- B] at b0;let#[j,I,x]:=back (S s i) (λu v x=>N #[u,v,x]) L t ⋯ ⋯ b0;rw[<- x,c8 I,ź];omega
    .rw[cc (λi g x=>b #[i,g,x]) q,ï];omega
  rw[k2] at p;have:=ō (G t ⋯).pos (show 0 < - sm (n+1) λk=>c k*dr m A (S s) (e s) k by omega)
  grind
 .intro k _ q;by_cases b:∃i,i<m/\S s i=k
  .obtain⟨i,g,x⟩:=b;rw[<- x,c8 g,ź]
  .rw[cc (λi g x=>b #[i,g,x]) q,ï]
variable{m n:Nat}{A:aQ}
def CB:∀(K:Nat){L:Nat}{f:Nat->Nat},(∀t,t<L->f t<K)->(∀s t,s<t->t<L->f s≠f t)->L<=K
 |0,L,f,h,_=>by
  by_cases q:L=0
  .omega
  .have:=h 0 ⋯;omega
 |K + 1,L,f,h,d=>by
  by_cases q:∃t,t<L/\f t=K
  .obtain⟨t,g,e⟩:=q;have:=CB K (L:=L - 1) (f:=λs=>f<|skip t s) (λs i=>by
    have a:skip t s<L/\skip t s≠t:=by unfold skip;split<;>omega
    have b:=h _ a.1;have c:f (skip t s)≠f t:=by
     by_cases x:skip t s<t
     .show d _ _ x g
     .show (d _ _ ⋯ a.1).symm
    change f (skip t s)<K;omega) λs u l j=>d _ _ (by unfold skip;split<;>split<;>omega) (by unfold skip;split<;>omega)
   omega
  .have:=CB K (L:=L) (f:=f) (λt g=>by
    have a:=h t g;have b:f t≠K:=λe=>q #[t,g,e]
    omega) d
   omega
abbrev code(n:Nat):Nat->(Nat->Nat)->Nat
 |0,_=>0
 |m + 1,S=>code n m S * n + S m
def IU{S:Nat->Nat}:∀{m:Nat},(∀i,i<m->S i<n)->code n m S<n ^ m
 |0,_=>by simp[code]
 |m + 1,h=>by
  have a:=IU (m:=m) λi d=>h i ⋯
  have b:=h m ⋯;have c:=Nat.mul_le_mul_right n<|Nat.succ_le_of_lt a;rw[code,ag6];rw[ap3] at c;omega
def Hs{S R:Nat->Nat}:∀{m:Nat},(∀i,i<m->S i<n)->(∀i,i<m->R i<n)->code n m S=code n m R->∀i,i<m->S i=R i
 |m + 1,h,g,e,i,d=>by
  rw[code,code] at e;have a:=h m ⋯;have b:=g m ⋯;have f:S m=R m:=by
   have:=av9 (· % n) e;simp only[ag4 _<|S m,ag4 _<|R m,Nat.add_mul_mod_self_right,Nat.mod_eq_of_lt a,Nat.mod_eq_of_lt b] at this;show this
  by_cases q:i=m
  .subst q;show f
  .show Hs (m:=m) (λi d=>h i ⋯) (λi d=>g i ⋯) ?_ i ⋯;show Nat.eq_of_mul_eq_mul_right ⋯ (show code n m S*n=code n m R*n by omega)
abbrev Df(m n:Nat)(A:aQ)(c:Nat->Int)(sh:Nat->Prop)(S a:Nat->Nat):Prop:=∃r e,Ent m n A c sh S e/\Lv m n A S r e/\a=up S r e
abbrev Ch(m n:Nat)(A:aQ)(c:Nat->Int)(sh:Nat->Prop):Nat->(Nat->Nat)->Prop
 |0,_=>True
 |L + 1,S=>∃a,Df m n A c sh S a /\ Ch m n A c sh L a
abbrev kR(m n:Nat)(A:aQ)(c:Nat->Int)(sh:Nat->Prop)(S:Nat->Nat)(N:Nat):Prop:=∀L,Ch m n A c sh L S->L<=N
def kR.step{c:Nat->Int}{sh:Nat->Prop}{S a:Nat->Nat}{N:Nat}(B:kR m n A c sh S N)(s:Df m n A c sh S a):0<N/\kR m n A c sh a (N - 1):=
 #[B 1 #[a,s,trivial],λL h=>by have:=B (L+1) #[a,s,h];omega]
def Ch.seq{c:Nat->Int}{sh:Nat->Prop}:∀{L:Nat}{S:Nat->Nat},Gd m n A S->Ch m n A c sh L S->∃(T:Nat->Nat->Nat)(r e:Nat->Nat),T 0=S/\(∀t,t<=L->Gd m n A (T t))/\(∀t,t<L->Ent m n A c sh (T t) (e t)/\Lv m n A (T t) (r t) (e t)/\T (t+1)=up (T t) (r t) (e t))
 |0,S,G,_=>#[λ_=>S,λ_=>0,λ_=>0,rfl,λ_ _=>G,λt h=>av5 h ⋯]
 |L + 1,S,G,⟨S',⟨r,e,h1,h2,h3⟩,h⟩=>by
  let#[T,d,a,f,g,s]:=Ch.seq (h3 ▸ G.turn h2 h1.1:Gd m n A S') h;show#[λt=>match t with |0=>S |t+1=>T t,λt=>match t with |0=>r |t+1=>d t,λt=>match t with |0=>e |t+1=>a t,rfl,λt b=>?_,λt b=>?_]
  .cases t with
   |zero=>show G
   |succ t=>show g t ⋯
  .cases t with
   |zero=>show#[h1,h2,f.trans h3]
   |succ t=>show s t ⋯
def NM{c:Nat->Int}{sh:Nat->Prop}{S:Nat->Nat}(G:Gd m n A S):kR m n A c sh S (n ^ m):=by
 intro L h;let#[T,r,e,y,g,s]:=h.seq G;have out:∀t,t<=L->∀i,m<=i->T t i=S i:=by
  intro t;induction t with
  |zero=>intro _ i _;rw[y]
  |succ t w=>
   intro d i o;let#[_,v,u]:=s t ⋯;have:=v.1;rw[u,<- w ⋯ i o];unfold up;rw[av3 ⋯]
 have:=CB (n ^ m) (L:=L+1) (f:=λt=>code n m<|T t) (λt d=>IU (g t ⋯).lt) λa b z B q=>by
  have j:=Hs (g a ⋯).lt (g b ⋯).lt q;have l:T (a+(b - a))=T (a+0):=by
   rw[show a+(b - a)=b by omega];funext i;by_cases x:i<m
   .show (j i x).symm
   .rw[out b ⋯ i ⋯];show (out a ⋯ i ⋯).symm
  show Vr (L:=b - a) (S:=λt=>T<|a+t) (r:=λt=>r<|a+t) (e:=λt=>e<|a+t) ⋯ (λt d=>g _ ⋯) (λt d=>(s _ ⋯).1) (λt d=>(s _ ⋯).2.1) (λt d=>(s (a+t) ⋯).2.2) l
 omega
variable{m n:Nat}{A:aQ}{S:Nat->Nat}{c:Nat->Int}{sh:Nat->Prop}
structure gQ(m n:Nat)(A:aQ)(sh:Nat->Prop)(q:Int)(y:Nat->Int):Prop where
 BN:pN m (n+1) A y
 nn:∀k,k<n->0<=y k
 sz:∀k,k<n->sh k->y k=0
 rhs:y n=-q
def f6{f:Nat->Int}:∀{n:Nat},(∀k,k<n->0<=f k)->sm n f=0->∀k,k<n->f k=0
 |n + 1,h,e,k,d=>by
  rw[sm] at e;have a:=dW (n:=n) (f:=f) λk d=>h k ⋯
  have b:=h n ⋯;by_cases q:k=n
  .subst q;omega
  .show f6 (n:=n) (λk d=>h k ⋯) ⋯ k ⋯
def gQ.cost{q:Int}{y:Nat->Int}(F:gQ m n A sh q y)(a:c n=0):dd m A S*sm n (λk=>c k*y k)=sm n (λk=>zz m A c S k*y k) - q*zz m A c S n:=by
 have h:=xS (S:=S) (c:=c) F.BN;rw[sm,sm,F.rhs,a] at h;grind
abbrev hY(m n:Nat)(A:aQ)(S:Nat->Nat)(k:Nat):Int:=(-1)*dr m A S n k
def gV(G:Gd m n A S){i:Nat}(a:i<m):hY m n A S (S i)=tt m A S i n:=by
 unfold hY;rw[fW `be a<|é<|G.lt i a];omega
def da{k:Nat}(a:k≠n)(h:∀i,i<m->S i≠k):hY m n A S k=0:=by
 unfold hY;rw[cc h a];rfl
def fU(G:Gd m n A S)(hs:∀i,i<m->¬ sh (S i)):gQ m n A sh (dd m A S) (hY m n A S):=by
 have K:=By (e:=n) G.cr `be (λi a=>Ģ<|G.lt i a)<|Ŷ n;show#[λi a=>?_,λk d=>?_,λk d s=>?_,?_]
 .rw[a8 (g:=λk=>(-1)*(A i k*dr m A S n k)) λk _=>by unfold hY;grind,bQ,K i a];rfl
 .by_cases b:∃i,i<m/\S i=k
  .obtain⟨i,a,x⟩:=b;rw[<- x,gV G a];show G.fe i a
  .rw[da ⋯ λi a x=>b #[i,a,x]];omega
 .show da ⋯ λi a x=>hs i a<|x ▸ s
 .unfold hY;rw[jl λi a=>é<|G.lt i a];omega
def iD(G:Gd m n A S)(d:c n=0):sm n (λk=>c k*hY m n A S k)=- zz m A c S n:=by
 have F:=fU (sh:=λ_=>False) G λ_ _ h=>h
 have e:=F.cost (S:=S) d;rw[b4 (n:=n) (f:=λk=>zz m A c S k*hY m n A S k)] at e
 .apply Ĭ `be;rw[e];grind
 .intro k hk;by_cases b:∃i,i<m/\S i=k
  .obtain⟨i,a,x⟩:=b;rw[<- x,c8 a,ź]
  .rw[da ⋯ λi a x=>b #[i,a,x],ï]
def Km(G:Gd m n A S){e:Nat}(f:e<n)(hn:∀i,i<m->S i≠e)(ht:∀i,i<m->tt m A S i e<=0)(g:c n=0):
  (∀k,k<n->0<=dr m A S e k)/\pN m (n+1) A (dr m A S e)/\dr m A S e n=0/\sm n (λk=>c k*dr m A S e k)=zz m A c S e:=by
 have K:=By (e:=e) G.cr `be (λi d=>Ģ<|G.lt i d)<|Ģ f;have z:dr m A S e n=0:=cc (λi d=>é<|G.lt i d)<|ŷ f;show#[λk j=>?_,K,z,?_]
 .by_cases q:k=e
  .subst q;rw[jl hn];show ĵ G.pos
  .by_cases b:∃i,i<m/\S i=k
   .obtain⟨i,d,x⟩:=b;rw[<- x,fW `be d<|hn i d];have:=ht i d;omega
   .rw[cc (λi d x=>b #[i,d,x]) q];omega
 .have h:=xS (S:=S) (c:=c) K;rw[bH (a:=e)<|Ģ f,jl hn] at h
  .apply Ĭ `be;rw[sm,z] at h;grind
  .intro k _ q;by_cases b:∃i,i<m/\S i=k
   .obtain⟨i,d,x⟩:=b;rw[<- x,c8 d,ź]
   .rw[cc (λi d x=>b #[i,d,x]) q,ï]
abbrev iI:Nat->Nat
 |0=>1
 |m + 1=>(m + 1) * iI m
def BA{f:Nat->Int}{B:Nat}:∀{n:Nat},(∀k,k<n->(f k).natAbs<=B)->(sm n f).natAbs<=n*B
 |0,_=>by simp[sm]
 |n + 1,h=>by
  have a:=BA (n:=n) λk d=>h k ⋯
  have b:=h n ⋯;have c:=Int.natAbs_add_le (sm n f)<|f n;rw[sm,ap3];omega
def BB{M:Nat}:∀{m:Nat}{v:aQ},(∀j i,j<m->i<m->(v j i).natAbs<=M)->(dt m v).natAbs<=iI m*M ^ m
 |0,v,_=>by simp[dt,iI]
 |m + 1,v,h=>by
  rw[dt,iI,ag6,Nat.mul_assoc];apply BA;intro k d;have a:=BB (m:=m) (v:=λj=>v<|skip k j) (M:=M) λj i f e=>h _ _ (by unfold skip;split<;>omega) ⋯
  have b:=h k m d ⋯;have s:(sg<|m+k).natAbs=1:=by unfold sg;split<;>rfl
  rw[Ϫ,Ϫ,s,Nat.one_mul];have:=Β b a;rw[ag5 M] at this;rw[<- Nat.mul_assoc];show this
variable{m n:Nat}{A:aQ}{S:Nat->Nat}
abbrev Un(m:Nat)(A:aQ)(S:Nat->Nat):Prop:=∀i j,i<m->j<m->A i (S j)=if i=j then 1 else 0
def Un.dd(h:Un m A S):dd m A S=1:=by
 rw[<- AX m];show qy λj i b a=>h i j a b
def Un.tt(h:Un m A S){i:Nat}(k:Nat)(f:i<m):tt m A S i k=A i k:=by
 rw[g8 k f,bH (a:=i) f]
 .rw[qy (w:=λj x=>if x=j then 1 else 0),AX,ar7];intro j x d g;by_cases e:j=i
  .subst e;rw[kJ]
  .rw[jK e];show h x j g d
 .intro j d e;rw[uN (a:=i) (b:=j) (đ e) f d,ï];intro x g;rw[kJ,jK e];show (h x j g d).symm
def Un.gd(h:Un m A S)(lt:∀i,i<m->S i<n)(fe:∀i,i<m->0<=A i n):Gd m n A S:=by
 show#[λi k b=>?_,by rw[h.dd];decide,lt,λi b=>by rw[h.tt n b];show fe i b];rw[h.dd,bH (a:=i) b]
 .rw[h.tt k b,h i i b b,av4 rfl];grind
 .intro j hj e;rw[h i j b hj,av3<|đ e,ï]
def jy{M:Nat}(h:∀i k,i<m->k<=n->(A i k).natAbs<=M)(lt:∀i,i<m->S i<n){i k:Nat}(d:k<=n):(tt m A S i k).natAbs<=iI m*M ^ m:=by
 show BB λj x b a=>?_
 unfold up bs;split
 .show h x k a d
 .show h x _ a (ň<|lt j b)
def gW{M:Nat}(h:∀i k,i<m->k<=n->(A i k).natAbs<=M)(lt:∀i,i<m->S i<n):(dd m A S).natAbs<=iI m*M ^ m:=
 BB λj x a b=>h x _ b<|ň<|lt j a
def q9{M C:Nat}{c:Nat->Int}(h:∀i k,i<m->k<=n->(A i k).natAbs<=M)(lt:∀i,i<m->S i<n)(e:∀k,(c k).natAbs<=C){k:Nat}(f:k<=n):(zz m A c S k).natAbs<=(m+1)*(C*(iI m*M ^ m)):=by
 unfold zz;have a:=gW h lt;have b:(sm m λi=>c (S i)*tt m A S i k).natAbs<=m*(C*(iI m*M ^ m)):=BA λi g=>by
  rw[Ϫ];show Β (e _)<|jy h lt f
 have d:(dd m A S*c k).natAbs<=C*(iI m*M ^ m):=by rw[Ϫ,ag5];show Β (e k) a
 have:=Int.natAbs_sub_le (dd m A S*c k)<|sm m λi=>c (S i)*tt m A S i k;rw[ap3];omega
end Lp
namespace Sf
open PySem L2 Vc Pu
local macro_rules|`(tactic| walk_at "k") => `(tactic| decide +kernel)
abbrev inClass(s:Ā)(j:Nat):Ā:=match s with
 |.ClassDef _ _ _ a _ _ _ _ _ _ _=>a.getD j<|.Pass #[0,0,0,0]
 |_=>.Pass #[0,0,0,0]
abbrev top(i:Nat):Ā:=PySem.Challenge.pw_springframe_k24_whole_least_three_ways.main.body.getD i<|.Pass #[0,0,0,0]
nonrec abbrev Ep:Ā:=top 7
nonrec abbrev DN:Ā:=top 8
nonrec abbrev Er:Ā:=top 9
nonrec abbrev Ew:Ā:=top 10
nonrec abbrev Ex:Ā:=top 11
nonrec abbrev Es:Ā:=top 12
nonrec abbrev Ey:Ā:=top 13
nonrec abbrev DF:Ā:=top 18
nonrec abbrev act:Ā:=top 20
nonrec abbrev DW:Ā:=top 21
nonrec abbrev DX:Ā:=top 24
nonrec abbrev Dv:Ā:=top 26
nonrec abbrev Dw:Ā:=top 27
nonrec abbrev D7:Ā:=top 28
nonrec abbrev Ez:Ā:=top 30
nonrec abbrev Dx:Ā:=top 32
nonrec abbrev D5:Ā:=top 33
nonrec abbrev Dy:Ā:=top 34
nonrec abbrev DG:Ā:=top 35
nonrec abbrev DH:Ā:=top 36
nonrec abbrev Dp:Ā:=top 37
nonrec abbrev Ea:Ā:=top 38
nonrec abbrev Dq:Ā:=top 39
nonrec abbrev D8:Ā:=top 40
nonrec abbrev Ds:Ā:=top 41
nonrec abbrev DK:Ā:=top 42
nonrec abbrev D6:Ā:=top 43
nonrec abbrev Dz:Ā:=top 44
nonrec abbrev Eb:Ā:=top 45
nonrec abbrev Ec:Ā:=top 46
nonrec abbrev D9:Ā:=top 47
nonrec abbrev DI:Ā:=top 48
nonrec abbrev adc:Ā:=top 49
nonrec abbrev add:Ā:=top 50
nonrec abbrev EY:Ā:=top 51
nonrec abbrev DS:Ā:=inClass `bx 0
nonrec abbrev DO:Ā:=inClass `bx 1
nonrec abbrev DY:Ā:=inClass `bx 2
nonrec abbrev DZ:Ā:=inClass `bx 3
nonrec abbrev DP:Ā:=inClass `bx 4
nonrec abbrev DL:Ā:=inClass `bx 5
nonrec abbrev DJ:Ā:=inClass `bx 6
nonrec abbrev DM:Ā:=inClass `bx 7
nonrec abbrev Dm:Ā:=inClass `bx 8
nonrec abbrev Dn:Ā:=inClass `bx 9
nonrec abbrev DT:Ā:=inClass `aW 0
nonrec abbrev D0:Ā:=inClass `aW 1
nonrec abbrev DA:Ā:=inClass `aW 2
nonrec abbrev DB:Ā:=inClass `aW 3
nonrec abbrev D1:Ā:=inClass `aW 4
nonrec abbrev DQ:Ā:=inClass `aW 5
nonrec abbrev DR:Ā:=inClass `aW 6
nonrec abbrev Dt:Ā:=inClass `aW 7
nonrec abbrev acl:Ā:=inClass `aW 8
nonrec abbrev DC:Ā:=inClass `aW 9
nonrec abbrev Dr:Ā:=inClass `aW 10
nonrec abbrev DD:Ā:=inClass `aW 11
nonrec abbrev DU:Ā:=inClass `aW 12
nonrec abbrev Du:Ā:=inClass `aW 13
nonrec abbrev DE:Ā:=inClass `aW 14
nonrec abbrev DV:Ā:=inClass (top 4) 0
def YC:bX ["top","bottom","divisor"] ["top","bottom"] (bx Ep):=1e2
def NX:bX ["one","other","remainder"] ["one","other"] (bx DN):=1e2
def YD:bX ["one","other"] ["one","other"] (bx Er):=1e2
def Vs:bX ["one","other"] ["one","other"] (bx Ew):=1e2
def Vt:bX ["one","other"] ["one","other"] (bx Ex):=1e2
def YE:bX ["one","other"] ["one","other"] (bx Es):=1e2
def Vu:bX ["one","other"] ["one","other"] (bx Ey):=1e2
def O0:bX ["rows","unknowns"] ["rows","unknowns"] (bx DF):=1e2
def Oh:bX ["fractions","bottom","fraction"] ["fractions"] (bx act):=1e2
def Oi:bX ["fractions","bottom"] ["fractions","bottom"] (bx DW):=1e2
def Oj:bX ["rows","unknowns","sheet"] ["rows","unknowns"] (bx DX):=1e2
def Ox:bX ["rows","unknowns","numbers","sheet","missed","shown","number","price"] ["rows","unknowns","numbers"] (bx Dv):=1e2
def Oy:bX ["rows","unknowns","numbers","clash","number","fewer"] ["rows","unknowns","numbers"] (bx Dw):=1e2
def TY:bX ["rows","unknowns","numbers","sheet","clash"] ["rows","unknowns","numbers"] (bx D7):=1e2
def Vv:bX ["rows","unknowns","one","musts","sheet","way","prices","number","price"] ["rows","unknowns","one"] (bx Ez):=1e2
def OH:bX ["_law_script","_law_k"] ["_law_script","_law_k"] (bx Dx):=1e2
def RF:bX ["_law_cell","_law_k","_law_base","_law_left","_law_step","_law_number_here"] ["_law_cell","_law_k"] (bx D5):=1e2
def OI:bX ["_law_one","_law_other"] ["_law_one","_law_other"] (bx Dy):=1e2
def O1:bX ["_law_top","_law_bottom","_law_both"] ["_law_top","_law_bottom"] (bx DG):=1e2
def O3:bX ["_law_mixed","_law_way"] ["_law_mixed","_law_way"] (bx DH):=1e2
def Pf:bX ["_law_cell","_law_some","_law_way","_law_parts_here","_law_k","_law_name","_law_mixed","_law_number_here"] ["_law_cell","_law_some","_law_way"] (bx Dp):=1e2
def PX:bX ["_law_script","_law_some","_law_way","_law_rows_here","_law_cell","_law_kind","_law_rank","_law_number_here"] ["_law_script","_law_some","_law_way"] (bx Ea):=1e2
def Pg:bX ["_law_first","_law_way","_law_many","_law_ahead","_law_end"] ["_law_first","_law_way"] (bx Dq):=1e2
def Ph:bX ["_law_found"] ["_law_found"] (bx D8):=1e2
def Oz:bX ["_law_found"] ["_law_found"] (bx Ds):=1e2
def NS:bX ["_law_found","_law_many"] ["_law_found","_law_many"] (bx DK):=1e2
def RG:bX ["_law_pairs","_law_top","_law_bottom","_law_one","_law_other"] ["_law_pairs"] (bx D6):=1e2
def OJ:bX ["_law_found","_law_some"] ["_law_found","_law_some"] (bx Dz):=1e2
def PY:bX ["_law_one","_law_placing_here","_law_number_here","_law_pairs","_law_top","_law_bottom"] ["_law_one","_law_placing_here","_law_number_here"] (bx Eb):=1e2
def PZ:bX ["_law_one","_law_price"] ["_law_one","_law_price"] (bx Ec):=1e2
def Pj:bX ["_law_rows_here","_law_prices","_law_name"] ["_law_rows_here","_law_prices","_law_name"] (bx D9):=1e2
def O4:bX ["_law_rows_here","_law_some","_law_told","_law_placing_here","_law_prices","_law_one","_law_price","_law_name","_law_top","_law_bottom","_law_most","_law_come","_law_due"] ["_law_rows_here","_law_some","_law_told","_law_placing_here","_law_prices"] (bx DI):=1e2
def Pk:bX ["_law_rows_here","_law_some","_law_told","_law_way","_law_top","_law_bottom"] ["_law_rows_here","_law_some","_law_told","_law_way"] (bx adc):=1e2
def Pl:bX ["_law_rows_here","_law_some","_law_numbers","_law_weights","_law_chosen","_law_top","_law_bottom"] ["_law_rows_here","_law_some","_law_numbers","_law_weights"] (bx add):=1e2
def yW:bX ["_law_script","_law_first","_law_way","_law_some","_law_rows_here","_law_second","_law_told","_law_handed","_law_found","_law_numbers","_law_weights","e"] ["_law_script"] (bx EY):=1e2
def N3:bX ["self","lines","solved"] ["self","lines","solved"] (bx DS):=1e2
def NY:bX ["self","costs","left","line","column","cost"] ["self","costs"] (bx DO):=1e2
def Ol:bX ["self","costs","column","line"] ["self","costs"] (bx DY):=1e2
def Om:bX ["self","costs","left","column"] ["self","costs"] (bx DZ):=1e2
def NZ:bX ["self","column","best","number","line"] ["self","column"] (bx DP):=1e2
def NT:bX ["self","number","best","column","line","other","one_way","other_way"] ["self","number","best","column"] (bx DL):=1e2
def O5:bX ["self","number","column","turned","middle","lines","line","entry"] ["self","number","column"] (bx DJ):=1e2
def NU:bX ["self","costs","mark","left","column"] ["self","costs","mark"] (bx DM):=1e2
def O6:bX ["self","column"] ["self","column"] (bx Dm):=1e2
def O7:bX ["self","column","along"] ["self","column","along"] (bx Dn):=1e2
def N4:bX ["self","rows","unknowns","lines","solved","number","one","line","upright"] ["self","rows","unknowns"] (bx DT):=1e2
def Oo:bX ["self"] ["self"] (bx D0):=1e2
def OL:bX ["self","number"] ["self","number"] (bx DA):=1e2
def OM:bX ["self","number"] ["self","number"] (bx DB):=1e2
def Oq:bX ["self","number","one","fractions","scale","entries","line"] ["self","number","one"] (bx D1):=1e2
def N0:bX ["self","rank","costs","number","one","cost"] ["self","rank"] (bx DQ):=1e2
def Ob:bX ["self","parts","costs"] ["self","parts"] (bx DR):=1e2
def OA:bX ["self","costs","scale","numbers","column","fall","left"] ["self","costs"] (bx Dt):=1e2
def Oc:bX ["self","column","fall","way","place","unknown"] ["self","column","fall"] (bx acl):=1e2
def ON:bX ["self","place"] ["self","place"] (bx DC):=1e2
def Ot:bX ["self","told","place","unknown"] ["self"] (bx Dr):=1e2
def OO:bX ["self","place","left","shares","ahead","share"] ["self","place"] (bx DD):=1e2
def N5:bX ["self","left","ahead","share","column","mark","needed"] ["self","left","ahead"] (bx DU):=1e2
def OB:bX ["self","left"] ["self","left"] (bx Du):=1e2
def OP:bX ["self","number","left","below","above","kind","scale"] ["self","number","left"] (bx DE):=1e2
def N6:bX ["self","numbers","weights"] ["self","numbers","weights"] (bx DV):=1e2
set_option genInjectivity false in
set_option genSizeOf false in
structure Tx(w:Ă)(K:aq)(mg:br) where
 {aaa:ai}
 MU:mg "Table"=À (.ref aaa)
 kd:g9 K aaa
 yC:bj K aaa "lines"
 yD:bj K aaa "solved"
 yE:bj K aaa "bottom"
 yF:bj K aaa "shut"
 {aah:ai}
 MV:mg "Sheet"=À (.ref aah)
 gh:g9 K aah
 tF:bj K aah "rows"
 rC:bj K aah "unknowns"
 yG:bj K aah "scales"
 yH:bj K aah "settled"
 vY:bj K aah "table"
 ke:dA K mg "part" Ep ["top","bottom"]
 tG:dA K mg "greatest_divisor" DN ["one","other"]
 vZ:dA K mg "plus" Er ["one","other"]
 rD:dA K mg "minus" Ew ["one","other"]
 pX:dA K mg "times" Ex ["one","other"]
 rE:dA K mg "over" Es ["one","other"]
 v3:dA K mg "under" Ey ["one","other"]
 v5:dA K mg "check_many" DF ["rows","unknowns"]
 tH:dA K mg "common_bottom" act ["fractions"]
 tI:dA K mg "whole_numbers" DW ["fractions","bottom"]
 tJ:dA K mg "settled_musts" DX ["rows","unknowns"]
 sW:dA K mg "shown_clash" Dv ["rows","unknowns","numbers"]
 vO:dA K mg "least_clash" Dw ["rows","unknowns","numbers"]
 vP:dA K mg "fitted" D7 ["rows","unknowns","numbers"]
 vQ:dA K mg "least" Ez ["rows","unknowns","one"]
 sY:dA K mg "_law_cell_at" Dx ["_law_script","_law_k"]
 kY:dA K mg "_law_mix" D5 ["_law_cell","_law_k"]
 sZ:dA K mg "_law_divisor" Dy ["_law_one","_law_other"]
 ro:dA K mg "_law_lowest" DG ["_law_top","_law_bottom"]
 rp:dA K mg "_law_number" DH ["_law_mixed","_law_way"]
 tm:dA K mg "_law_parts" Dp ["_law_cell","_law_some","_law_way"]
 vR:dA K mg "_law_rows" Ea ["_law_script","_law_some","_law_way"]
 vS:dA K mg "_law_names" Dq ["_law_first","_law_way"]
 rq:dA K mg "_law_whole" D8 ["_law_found"]
 rA:dA K mg "_law_fraction" Ds ["_law_found"]
 tq:dA K mg "_law_all_fractions" DK ["_law_found","_law_many"]
 m9:dA K mg "_law_add" D6 ["_law_pairs"]
 vT:dA K mg "_law_placing" Dz ["_law_found","_law_some"]
 tw:dA K mg "_law_kept" Eb ["_law_one","_law_placing_here","_law_number_here"]
 tD:dA K mg "_law_sign" Ec ["_law_one","_law_price"]
 tE:dA K mg "_law_asked" D9 ["_law_rows_here","_law_prices","_law_name"]
 vU:dA K mg "_law_priced" DI ["_law_rows_here","_law_some","_law_told","_law_placing_here","_law_prices"]
 vV:dA K mg "_law_falls" adc ["_law_rows_here","_law_some","_law_told","_law_way"]
 vW:dA K mg "_law_clash" add ["_law_rows_here","_law_some","_law_numbers","_law_weights"]
 n8:dA K mg "law" EY ["_law_script"]
 vX:vq K aaa "Table.__init__" DS ["self","lines","solved"]
 rB:fx K aaa "costs_left" "Table.costs_left" DO ["self","costs"]
 vF:fx K aaa "go_down" "Table.go_down" DY ["self","costs"]
 sV:fx K aaa "falling" "Table.falling" DZ ["self","costs"]
 vG:fx K aaa "first_stop" "Table.first_stop" DP ["self","column"]
 vH:fx K aaa "stops_ahead" "Table.stops_ahead" DL ["self","number","best","column"]
 vI:fx K aaa "turn" "Table.turn" DJ ["self","number","column"]
 vJ:fx K aaa "shut_rising" "Table.shut_rising" DM ["self","costs","mark"]
 vK:fx K aaa "told" "Table.told" Dm ["self","column"]
 vL:fx K aaa "pace" "Table.pace" Dn ["self","column","along"]
 vM:vq K aah "Sheet.__init__" DT ["self","rows","unknowns"]
 vN:fx K aah "columns" "Sheet.columns" D0 ["self"]
 p6:fx K aah "below" "Sheet.below" DA ["self","number"]
 p9:fx K aah "above" "Sheet.above" DB ["self","number"]
 v8:fx K aah "line_of" "Sheet.line_of" D1 ["self","number","one"]
 v9:fx K aah "rank_costs" "Sheet.rank_costs" DQ ["self","rank"]
 wa:fx K aah "sum_costs" "Sheet.sum_costs" DR ["self","parts"]
 tK:fx K aah "settle" "Sheet.settle" Dt ["self","costs"]
 wb:fx K aah "way_along" "Sheet.way_along" acl ["self","column","fall"]
 tL:fx K aah "value" "Sheet.value" DC ["self","place"]
 tM:fx K aah "placing" "Sheet.placing" Dr ["self"]
 wc:fx K aah "paper" "Sheet.paper" DD ["self","place"]
 wd:fx K aah "share_of" "Sheet.share_of" DU ["self","left","ahead"]
 tN:fx K aah "prices" "Sheet.prices" Du ["self","left"]
 we:fx K aah "price" "Sheet.price" DE ["self","number","left"]
 {abn:ai}
 jC:mg "NOUGHT"=À (.ref abn)
 jD:MT K abn (([0,1]:aG).map V.int)
 {abq:Tok}
 yJ:mg "MUST"=À (.int (0) abq)
 {abt:Tok}
 M4:mg "MOST_ROWS"=À (.int (16) abt)
 {abv:Tok}
 M5:mg "MOST_UNKNOWNS"=À (.int (8) abv)
 {abx:ai}
 M6:mg "FrameError"=À (.ref abx)
 {abz:ai}
 MW:mg "TooMany"=À (.ref abz)
 MX:ac9 K abz [.type "ValueError",.type "Exception",.type "BaseException",.type "object"] "ValueError.__new__"=Â
 {abC:ai}
 Dg:mg "Clash"=À `co
 {abE:ai}
 abF:mg "NoPart"=À (.ref abE)
 mw:yw K abC abx "Clash.__init__" DV ["self","numbers","weights"]
 Dh:ċ K `co "numbers"=À Æ
 Di:ċ K `co "weights"=À Æ
 Dj:i8 K abC
 MY:W.exmOne K `co `co=À Â
 yI:mg "abs"=Æ
 gF:mg "len"=Æ
 pY:mg "range"=Æ
 n9:mg "isinstance"=Æ
 Dk:mg "tuple"=Æ
 jB:mg "list"=Æ
 MZ:mg "any"=Æ
 pZ:mg "all"=Æ
 p0:mg "enumerate"=Æ
 kZ:mg "zip"=Æ
 M0:mg "reversed"=Æ
 M1:mg "int"=Æ
 v7:mg "dict"=Æ
 M3:mg "bool"=Æ
 Dl:mg "sorted"=Æ
section
variable{P:ê}{w:Ă}{K:aq}{mg:br}{base:aW}(T:Tx w K mg)
@[inline] def K5:String:="ZP VT ZS VU Ri Rh TR OG SW VP TQ VQ PD SQ SI Ql Pz PB Qm VN VO PC Qn OU OT z'u z'v SJ qp Qo SK cD gy iY eX gz Z7 Z8 Z9 RU Qq RV RW z'e RX U7 RY Qr RZ Qs U8 R0 Qt R1 Qu SX Pm Qv z'g Pn Qw U9 Po OF Va SY S1 Vb VV VW S3 S4 Qx S5 Qy Qz VX VY VZ Pp Pq QC Gv S6 QD QF Pr QJ Gw S7 QK QM Gx QN QP Gy S8 QQ QR Gz S9 QU QV QX QY QZ P7 P8 P9 Qa Qb Ta Qc Qd V0 Qe Qf Qg Qh Tb z'i Qi Wb Wc VC VD VE VF VG mz af7 Tc V1 V2 z'h V3 V4 V5 V6 V7 V8 V9 VM SA SD VJ Qk Sx US UR UQ UT Sy z'm VL Å VH Tp Tq Sv Sw Gu Px gS Qj VI Te Tf gT Tg Th AY Wd w_lt z'j We Wf z'k Wg Wh Wi Wj Ti Tj Tn oU Wl VB To NJ NK at2 NL VR VS List.getElem?_cons_succ List.getElem?_cons_zero List.set_cons_zero List.set_cons_succ dC bz cV dF eB ϡ if_true if_false true_and aa3 ab4 Ë Nat.reduceSub Ö ϔ Nat.reduceAdd Nat.reduceLeDiff decide_true decide_false Bool.not_true Bool.not_false Ϻ Pt Pw Td Wa U4 U5 xh iF jm iG jM Kn sC uY sD ll U6 RQ RS RT Jt Hw xb Qp Tr.int.injEq"
local macro_rules |`(tactic|rfl')=>do
 let a:=((K5++" z'f").splitOn " ").toArray.map λx=>Lean.mkIdent x.toName
 `(tactic|simp only[$[$a:ident],*])
local macro_rules |`(tactic|walk_at "q")=>do
 let a:=(K5.splitOn " ").toArray.map λx=>Lean.mkIdent x.toName
 `(tactic|simp only[$[$a:ident],*])
abbrev ea:Fl->Fl |.o=>.l Â |.f=>.f |.l b=>.l b
abbrev eu:Fl->Fl |.o=>.o |.f=>.f |.l _=>.l Ç
instance:ae (bT):=#[λo=>match o with |none=>.aN |some n=>.int n,λo=>by cases o<;>rfl,λo z=>by cases o<;>cases z]
abbrev mT(m:a9):bL:=m.map λp=>(p.1,ae.t p.2)
structure iq where
 ls:List (aG)
 so:aG
 bt:Int
 m:a9
structure ip where
 rs:av
 us:ah
 sc:aG
 ss:cJ
 tb:iq
abbrev gN(f:Fl)(S:iq):bq:=[("lines",ae.t S.ls),("solved",.af f ↥S.so),("bottom",.int S.bt),("shut",.aP f<|mT S.m)]
abbrev cH(f:Fl)(S:iq):Tr:=.ins f T.aaa<|gN f S
abbrev ib(f:Fl)(S:ip):bq:=[("rows",ae.t S.rs),("unknowns",ae.t S.us),("scales",.af f ↥S.sc),("settled",.af f ↥S.ss),("table",cH T f S.tb)]
abbrev cN(f:Fl)(S:ip):Tr:=.ins f T.aah<|ib T f S
abbrev l9(f:Fl)(rs:av)(us:ah)(sc:aG):bq:=[("rows",ae.t rs),("unknowns",ae.t us),("scales",.af f ↥sc),("settled",.af f [])]
abbrev i3(f:Fl)(rs:av)(us:ah)(sc:aG):Tr:=.ins f T.aah<|l9 f rs us sc
abbrev vp(C:ai)(g:Nat):Prop:=C=T.aaa/\g=0
abbrev yv(C:ai)(g:Nat):Prop:=C=T.aah/\g=0
def kN{x q:Str}{st:Ā}{ps:ah}{m lo n:Nat}{z:Bool}{g:gR}(r:fx K T.aaa x q st ps)(G:aK P w K mg base bM m r.a r.d ps `bR):∀C i,vp T C i->gp P w K mg base bM m x C ps `bR:=λC i h=>by
 let#[rfl,rfl]:=h;show#[T.kd,_,_,r.t,G,r.b]
def fK{x q:Str}{st:Ā}{ps:ah}{m lo n:Nat}{z:Bool}{g:gR}(r:fx K T.aah x q st ps)(G:aK P w K mg base bM m r.a r.d ps `bR):∀C i,yv T C i->gp P w K mg base bM m x C ps `bR:=λC i h=>by
 let#[rfl,rfl]:=h;show#[T.gh,_,_,r.t,G,r.b]
def Cb[ae j](f:Fl)(xs:List j):aO (.af f ↥xs)=.af `cv ↥xs:=by
 cases f with
 |f=>rfl
 |o=>change Tr.af _ (dC _)=_;rw[Kn];rfl
 |l b=>rfl
def Cd[ae j](f:Fl)(xs:List j):dn (.af f ↥xs)=.af `dH ↥xs:=by
 cases f with
 |f=>change Tr.af .f (cV _)=_;rw[uY];rfl
 |o=>change Tr.af .o (cV _)=_;rw[uY];rfl
 |l b=>change Tr.af `aI (cV _)=_;rw[uY];rfl
def LN(f:Fl):aO (.af f [])=.af `cv []:=by cases f<;>rfl
def LO(f:Fl):dn (.af f [])=.af `dH []:=by cases f<;>rfl
def MO(f:Fl)(m:a9):aO (.aP f<|mT m)=.aP `cv `eA:=by
 cases f with
 |f=>rfl
 |o=>change Tr.aP _ (eU _)=_;rw[show eU `eA=mT m from (b8 _<|lg m).l];rfl
 |l b=>rfl
def MP(f:Fl)(m:a9):dn (.aP f<|mT m)=.aP `dH `eA:=by
 have e:iE `eA=mT m:=(b8 _<|lg m).d;cases f with
 |f=>change Tr.aP .f (iE _)=_;rw[e];rfl
 |o=>change Tr.aP .o (iE _)=_;rw[e];rfl
 |l b=>change Tr.aP `aI (iE _)=_;rw[e];rfl
def Ce(f:Fl)(c:ai)(fs:bq)(h:f=.o\/cD fs=fs):aO `aK=.ins `cv c (cD fs):=by
 rcases h with rfl |h
 .rfl
 .cases f with
  |o=>rfl
  |f=>change Tr.ins .f c fs=_;rw[h];rfl
  |l b=>change Tr.ins (.l b) c fs=_;rw[h];rfl
def Cf(f:Fl)(c:ai)(fs:bq):dn `aK=.ins `dH c (iY fs):=by cases f<;>rfl
def iW(f:Fl)(S:iq):aO `eN=cH T `cv S:=by
 have e:cD (gN f S)=gN `cv S:=by simp only[gN,cD,MO,Cb,Gv,xh]
 unfold cH;rw[Ce _ _ _ ?_,e];cases f with
 |o=>show .inl rfl
 |f=>show .inr e
 |l b=>show .inr e
def iX(f:Fl)(S:iq):dn `eN=cH T `dH S:=by
 unfold cH gN;rw[Cf];simp only[iY,MP,Cd,Gx,jm]
def fC(f:Fl)(S:ip):aO `bf=cN T `cv S:=by
 have e:cD (ib T f S)=ib T `cv S:=by simp only[ib,cD,Cb,iW,xh]
 unfold cN;rw[Ce _ _ _ ?_,e];cases f with
 |o=>show .inl rfl
 |f=>show .inr e
 |l b=>show .inr e
def gJ(f:Fl)(S:ip):dn `bf=cN T `dH S:=by
 unfold cN ib;rw[Cf];simp only[iY,Cd,iX,jm]
def Lc(f:Fl)(rs:av)(us:ah)(sc:aG):aO `aX=i3 T `cv rs us sc:=by
 have e:cD (l9 f rs us sc)=l9 `cv rs us sc:=by simp only[l9,cD,Cb,LN,xh]
 unfold i3;rw[Ce _ _ _ ?_,e];cases f with
 |o=>show .inl rfl
 |f=>show .inr e
 |l b=>show .inr e
def CU(f:Fl)(rs:av)(us:ah)(sc:aG):dn `aX=i3 T `dH rs us sc:=by
 unfold i3 l9;rw[Cf];simp only[iY,Cd,LO,jm]
def gK(f:Fl)(S:iq)(Q:aB):pV (À<|cH T f S) Q=Q `eN:=rfl
def eL(f:Fl)(S:ip)(Q:aB):pV (À<|cN T f S) Q=Q `bf:=rfl
def CV(f:Fl)(rs:av)(us:ah)(sc:aG)(Q:aB):pV (À<|i3 T f rs us sc) Q=Q `aX:=rfl
def Mi(m:a9):cZ (.aP .o<|mT m)=Â:=(b8 _<|lg m).o
def qF[ae j](xs:List j):cZ (.af .o ↥xs)=Â:=sD xs
def Mj(m:a9):bZ (.aP .o<|mT m)=Â:=(b8 _<|lg m).t
def kz[ae j](xs:List j):bZ (.af .o ↥xs)=Â:=ll xs
def sF(T:Tx w K mg)(S:iq):cZ `ed=Â:=by
 unfold cH gN;rw[Bl];simp only[eX,Mi,qF,iG,Gy,ϡ]
def Ld(T:Tx w K mg)(S:iq):bZ `ed=Â:=by
 unfold cH gN;rw[G5];simp only[gz,Mj,kz,jM,Gz,ϡ]
def sG(T:Tx w K mg)(S:ip):cZ `ee=Â:=by
 unfold cN ib;rw[Bl];simp only[eX,qF,sF,iG,ϡ]
def ye(T:Tx w K mg)(S:ip):bZ `ee=Â:=by
 unfold cN ib;rw[G5];simp only[gz,kz,Ld,jM,ϡ]
def Ml(rs:av)(us:ah)(sc:aG):cZ (i3 T .o rs us sc)=Â:=by
 unfold i3 l9;rw[Bl];simp only[eX,qF,iG,show cZ (.af .o [])=Â from rfl,ϡ]
section
variable(T:Tx w K mg){f:Fl}{S:ip}{B:iq}{Q:aB}{rs:av}{us:ah}{sc:aG}
def oz(q:Q (.af .f ↥B.ls)):iR K "lines" `cp Q:=iT #[T.kd,T.yC] gm q
def qq(q:Q (.af f ↥B.so)):iR K "solved" `cp Q:=iT #[T.kd,T.yD] (cL gm) q
def rV(q:Q (.int B.bt)):iR K "bottom" `cp Q:=iT #[T.kd,T.yE] (cL<|cL gm) q
def A7(q:Q (.aP f<|mT B.m)):iR K "shut" `cp Q:=iT #[T.kd,T.yF] (cL<|cL<|cL gm) q
def xm(q:Q (.af .f ↥S.rs)):iR K "rows" `bf Q:=iT #[T.gh,T.tF] gm q
def z7(q:Q (.af .f ↥S.us)):iR K "unknowns" `bf Q:=iT #[T.gh,T.rC] (cL gm) q
def G0(q:Q (.af f ↥S.sc)):iR K "scales" `bf Q:=iT #[T.gh,T.yG] (cL<|cL gm) q
def rS(q:Q (.af f ↥S.ss)):iR K "settled" `bf Q:=iT #[T.gh,T.yH] (cL<|cL<|cL gm) q
def rQ(q:Q (cH T f S.tb)):iR K "table" `bf Q:=iT #[T.gh,T.vY] (cL<|cL<|cL<|cL gm) q
def YF(q:Q (.af .f ↥rs)):iR K "rows" `aX Q:=iT #[T.gh,T.tF] gm q
def P0(q:Q (.af .f ↥us)):iR K "unknowns" `aX Q:=iT #[T.gh,T.rC] (cL gm) q
def mP{n:Str}{R:Nat->Prop}(q:R 0)(a:(n == ("lines":Str))=Ç:=by walk_at "k")(b:(n == ("solved":Str))=Ç:=by walk_at "k")(d:(n == ("bottom":Str))=Ç:=by walk_at "k")(e:(n == ("shut":Str))=Ç:=by walk_at "k"):jg (vp T) n `cp R:=BM #[rfl,rfl] (cL `dn a) q
def gE{n:Str}{R:Nat->Prop}(q:R 0)(a:(n == ("rows":Str))=Ç:=by walk_at "k")(b:(n == ("unknowns":Str))=Ç:=by walk_at "k")(d:(n == ("scales":Str))=Ç:=by walk_at "k")(e:(n == ("settled":Str))=Ç:=by walk_at "k")(g:(n == ("table":Str))=Ç:=by walk_at "k"):jg (yv T) n `bf R:=BM #[rfl,rfl] (cL (cL (cL (cL (cL BU g) e) d) b) a) q
def uO{n:Str}{R:Nat->Prop}(q:R 0)(a:(n == ("rows":Str))=Ç:=by walk_at "k")(b:(n == ("unknowns":Str))=Ç:=by walk_at "k")(d:(n == ("scales":Str))=Ç:=by walk_at "k")(e:(n == ("settled":Str))=Ç:=by walk_at "k"):jg (yv T) n `aX R:=BM #[rfl,rfl] (cL `dn a) q
end
def oF{f g:Str}{v u:Tr}{r:bq}(h:(g == f)=Ç:=by walk_at "k"):jf g u ((f,v)::r)=(f,v)::jf g u r:=by
 change (if f=g then _ else _)=_;rw[av3 λz=>by rw[z,aw0] at h;cases h]
def uP{f:Str}{v u:Tr}{r:bq}:adr f u ((f,v)::r)=(f,u)::r:=by
 change (if f=f then _ else _)=_;rw[av4 rfl]
def ky{f g:Str}{v u:Tr}{r:bq}(h:(g == f)=Ç:=by walk_at "k"):adr g u ((f,v)::r)=(f,v)::adr g u r:=by
 change (if f=g then _ else _)=_;rw[av3 λz=>by rw[z,aw0] at h;cases h]
def ZV(S:iq)(a:a9):adr "shut" (.aP .o<|mT a) (gN .o S)=gN .o { S with m:=a }:=by
 unfold gN;rw[ky,ky,ky,uP]
def A8(S:ip)(B:iq):adr "table" (cH T .o B) (ib T .o S)=ib T .o { S with tb:=B }:=by
 unfold ib;rw[ky,ky,ky,ky,uP]
def YG(S:ip)(a:cJ):adr "settled" (.af .o ↥a) (ib T .o S)=ib T .o { S with ss:=a }:=by
 unfold ib;rw[ky,ky,ky,uP]
def ZW(rs:av)(us:ah)(sc a:aG):adr "scales" (.af .o ↥a) (l9 .o rs us sc)=l9 .o rs us a:=by
 unfold l9;rw[ky,ky,uP]
def x9(S:ip):Tr.ins `bP T.aah (cD<|ib T .o S)=cN T `bP S:=fC T .o S
def gU{f:Fl}[h:Fp f]:ea f=f:=by cases h<;>rfl
def jL{f:Fl}[h:Fp f]:eu f=f:=by cases h<;>rfl
def ZX(m:a9)(y:aI)(k:bT):kh `eA y (ae.t k)=mT (if (m.any λp=>decide<|p.1=y)=Â then m.map (λp=>if p.1=y then (p.1,k) else p) else m++[(y,k)]):=by
 unfold kh;have e:((mT m).any λa=>decide<|a.1=y)=m.any λp=>decide (p.1=y):=by unfold mT;rw[an9];rfl
 rw[e];split
 .unfold mT;rw[ù,ù];show Ī λp _=>?_
  change (if p.1=y then (p.1,ae.t k) else (p.1,ae.t p.2))=((if p.1=y then (p.1,k) else p).1,ae.t (if p.1=y then (p.1,k) else p).2)
  split<;>rfl
 .unfold mT;rw[ä];rfl
def FI{z:Bool}:aK P w K mg base bM 1 T.tG.a T.tG.d ["one","other"] (bU K z 0 2 uW):=by
 show cu T.tG.F NX rfl ∎ ?_
 intros
 show#[_,(aM (B0 (bY jj ja `bK aw) (aM (bN 2<|el (qv 0)<|qv 1)
  (aM (bN 0<|qv 1)
  (aY<|bN 1<|qv 2))))
  (aY<|bJ<|qv 0)),?_]
 intro o n _ zy;let#[_,a,b,rfl,h,i,q]:=zy;show#[λm j=>∃x y z,j=[.int x,.int y,z]/\0<=x/\0<=y/\gd x y=gd a b/\m=y.toNat,#[_,a,b,.ak,rfl,h,i,rfl,rfl],?_];intro m j zy;let#[x,y,z,rfl,g,l,e,rfl]:=zy;rfl';by_cases f:y=0
 .subst f;rfl';rw[<- e,Xb x g] at q;show q _
 .rw[av4<|by simp[f]];show#[⋯,?_];show#[(x % y).toNat,?_,_,_,_,rfl,l,ø _ f,?_,rfl]
  .have:=ë x (show 0<y by omega);have:=ø x f;omega
  .rw[Zt g ⋯];show e
def mG{z:Bool}:aK P w K mg base bM 2 T.ke.a T.ke.d ["top","bottom"] (bU K z 0 2 lU):=by
 show cu T.ke.F YC rfl ∎ ?_
 intros
 show#[_,(aM (cA (bY dN dO `bK aw) (aY H0) cz)
  (aM (bN 2<|qc T.tG (FI T)<|aj (dZ As AL T.yI<|aj (qv 0) az)<|aj (dZ As AL T.yI<|aj (qv 1) az) az)
  (aM (cA (bY nO nH `bK aw) (aY<|bN 2<|hV<|qv 2) cz)
  (aY<|bJ<|dS<|aj (gv (qv 0)<|qv 2)<|aj (gv (qv 1)<|qv 2) az)))),?_]
 intro i g _ zy;let#[_,a,b,rfl,e,f,q]:=zy;rfl';rw[av3<|by simp[e]];show#[rfl,_,_,rfl,by split<;>omega,by split<;>omega,λj=>?_];rw[Xc];rw[Kw,<- G7 e,<- G8 e] at q;unfold dv at q;by_cases h:b<0
 .rw[av4 h] at q;rw[av4<|av6 h];rfl';show#[Hy e f,Hy e f,q _]
 .rw[av3 h] at q;rw[av3<|by simp[h]];rfl';show#[xj e f,xj e f,q _]
def YH{z:Bool}:aK P w K mg base bM 3 T.vZ.a T.vZ.d ["one","other"] (bU K z 0 2 (jU (·+·))):=by
 show cu T.vZ.F YD rfl ∎ ?_
 intros
 show#[_,(aY<|bJ<|qc T.ke (mG T)<|aj (eD (cP (aV (qv 0) aw)<|aV (qv 1) aw)<|cP (aV (qv 1) aw)<|aV (qv 0) aw)<|aj (cP (aV (qv 0) aw)<|aV (qv 1) aw) az),?_];intro g f _ zy;let#[_,a,b,rfl,e,q]:=zy;rfl';show#[d9 (iB a) `dI ⋯,d9 (iB b) `dJ ⋯,d9 `dJ `dI ⋯,rfl,_,_,rfl,r0 a b,AU a b e,λj=>?_];rw[<- Gm];show#[iG _,q _]
def AE{z:Bool}:aK P w K mg base bM 3 T.rD.a T.rD.d ["one","other"] (bU K z 0 2 (jU (· - ·))):=by
 show cu T.rD.F Vs rfl ∎ ?_
 intros
 show#[_,(aY<|bJ<|qc T.ke (mG T)<|aj (mJ (cP (aV (qv 0) aw)<|aV (qv 1) aw)<|cP (aV (qv 1) aw)<|aV (qv 0) aw)<|aj (cP (aV (qv 0) aw)<|aV (qv 1) aw) az),?_];intro g f _ zy;let#[_,a,b,rfl,e,q]:=zy;rfl';show#[d9 (iB a) `dI ⋯,d9 (iB b) `dJ ⋯,d9 `dJ `dI ⋯,rfl,_,_,rfl,r0 a b,AU a b e,λj=>?_];rw[<- Gn];show#[iG _,q _]
def w9{z:Bool}:aK P w K mg base bM 3 T.pX.a T.pX.d ["one","other"] (bU K z 0 2 (jU (·*·))):=by
 show cu T.pX.F Vt rfl ∎ ?_
 intros
 show#[_,(aY<|bJ<|qc T.ke (mG T)<|aj (cP (aV (qv 0) aw)<|aV (qv 1) aw)<|aj (cP (aV (qv 0) aw)<|aV (qv 1) aw) az),?_];intro g f _ zy;let#[_,a,b,rfl,e,q]:=zy;rfl';show#[d9 (iB a) (iB b) ⋯,d9 `dJ `dI ⋯,rfl,_,_,rfl,r0 a b,AU a b e,λj=>?_];rw[<- Gp];show#[iG _,q _]
def Vw{z:Bool}:aK P w K mg base bM 1 T.v3.a T.v3.d ["one","other"] (bU K z 0 2 jV):=by
 show cu T.v3.F Vu rfl ∎ ?_
 intros
 show#[_,(aY<|bJ<|fJ nO nH (cP (aV (qv 0) aw)<|aV (qv 1) aw)<|cP (aV (qv 1) aw)<|aV (qv 0) aw),?_];intro g e _ zy;let#[_,a,b,rfl,f,q]:=zy;rfl';show#[d9 (iB a) `dI ⋯,d9 (iB b) `dJ ⋯,?_];rw[decide_eq_decide.mpr<|Uh a b];show q _
def GF(a b:Rat):Ó (a.num*(b.den:Int)) ((a.den:Int)*b.num)=a / b:=by
 rw[<- Rat.divInt_mul_divInt,Η,Ć,Rat.inv_def]
inductive lS(xs:ag)(Q:Tr->aA):Prop
 |mk(_:↑xs=2)(a b:Rat)(_:xs=[ae.t a,ae.t b])(_:b ≠ 0)(_:bs a+bs b<=7990)(_:∀j,Q (ae.t (a / b)) j):lS xs Q
def A9{z:Bool}:aK P w K mg base bM 3 T.rE.a T.rE.d ["one","other"] (bU K z 0 2 lS):=by
 show cu T.rE.F YE rfl ∎ ?_
 intros
 show#[_,(aM (cA (bY dN dO (aV `bK aw) aw) (aY H0) cz)
  (aY<|bJ<|qc T.ke (mG T)<|aj (cP (aV (qv 0) aw)<|aV (qv 1) aw)<|aj (cP (aV (qv 0) aw)<|aV (qv 1) aw) az)),?_]
 intro h f _ zy;let#[_,a,b,rfl,e,g,q]:=zy;have hn:b.num≠0:=λz=>e<|Rat.num_eq_zero.mp z
 rfl';rw[av3<|by simp[hn]];show#[d9 (iB a) `dI ⋯,d9 `dJ (iB b) ⋯,rfl,_,_,rfl,Int.mul_ne_zero (by have:=a.den_nz;omega) hn,Ï `dl (by have:=gf a;have:=iB b;omega),λj=>?_];rw[GF];show#[iG _,q _]
inductive lR(T:Tx w K mg)(xs:ag)(Q:Tr->aA)(q:Xv->Prop):Prop
 |mk(_:↑xs=2)(f g:Fl)(rs:av)(us:ah)(_:Fp f)(_:Fp g)(_:xs=[.af f ↥rs,.af g ↥us])(_:16<↑rs\/8<↑us->q (.ref T.abz))(_:↑rs<=16->↑us<=8->∀j,Q .aN j):lR T xs Q q
def O8{z:Bool}:aK P w K mg base `bt 1 T.v5.a T.v5.d ["rows","unknowns"] (jY K z 0 2<|lR T):=by
 show B4 T.v5.F O0 rfl ∎ λbS A outer s H E q n o m=>?_
 show#[_,(aY<|cA (QW.t<|kr (bY ly k7 (dZ gH gD T.gF<|aj (qv 0) az)<|va T.M4)<|k8<|bY ly k7 (dZ gH gD T.gF<|aj (qv 1) az)<|va T.M5) (aY<|Xi rfl rfl rfl rfl rfl rfl T.MW PySem.F.excBase_ValueError T.MX fo) cz),?_];intro r i _ zy;let#[_,f,g,rs,us,_,_,rfl,b,e]:=zy;rfl';split
 .rename_i c;show b (.inl (by have:=av8 c;omega))
 .rename_i c;have j:¬ (16:Int)<(↑rs:Int):=λh=>c<|av6 h
  split
  .rename_i c2;show b (.inr (by have:=av8 c2;omega))
  .rename_i c2;have l:¬ (8:Int)<(↑us:Int):=λh=>c2<|av6 h
   show e ⋯ ⋯ _
abbrev yb(m n:Nat)(A:aQ)(S:Nat->Nat):List (aG):=(É m).map λi=>(É<|n+1).map<|Lp.tt m A S i
abbrev qZ(m:Nat)(S:Nat->Nat):aG:=(É m).map λi=>(S i:Int)
abbrev cw(m n:Nat)(A:aQ)(S:Nat->Nat)(mk:a9):iq:=#[yb m n A S,qZ m S,Lp.dd m A S,mk]
structure Sz(m n:Nat)(A:aQ):Prop where
 hm:m<=16
 hn:n<=60
 t:∀S i k,(∀i,i<m->S i<n)->k<=n->bi (Lp.tt m A S i k)<=3000
 d:∀S,(∀i,i<m->S i<n)->bi (Lp.dd m A S)<=3000
abbrev cf(ns:aG):Nat->Int:=λk=>ns.getD k 0
abbrev qk(ns:aG)(n:Nat):Prop:=↑ns=n/\∀c∈ns,bi c<=3000
def rR{n i j:Nat}(h:(É n)[i]?=À j):j<n/\i=j:=by
 let#[a,b]:=Á.mp h;rw[List.getElem_range] at b;rw[Û] at a;omega
def eN{xs:List j}{s:Nat}{x:j}(h:xs[s]?=À x):cW xs (s:Int)=À x:=by
 let#[a,e]:=Á.mp h;rw[xO xs ⋯ (by simpa using a)];simp[e]
def fS[ae j](xs:List j):Pu.aC (.af .o ↥xs)=ae.t xs:=by change Tr.af .f (bz _)=_;rw[sC];rfl
def IV[ae j](h:i->List j):∀vs:List i,bz (vs.map λv=>.af .o<|(h v).map ae.t)=(vs.map h).map ae.t
 |[]=>rfl
 |v::vs=>by
  change Pu.aC (.af .o<|(h v).map ae.t)::bz (vs.map λv=>.af .o<|(h v).map ae.t)=ae.t (h v)::(vs.map h).map ae.t;rw[IV h vs];change Tr.af .f (bz _)::_=_;rw[sC];rfl
def IW[ae j](h:i->List j):∀vs:List i,eB (vs.map λv=>.af .o<|(h v).map ae.t)=Â
 |[]=>rfl
 |v::vs=>by
  change (bZ (.af .o<|(h v).map ae.t)&&eB (vs.map λv=>.af .o<|(h v).map ae.t))=Â;rw[IW h vs,kz];rfl
inductive pw(T:Tx w K mg)(xs:ag)(Q:Tr->aA):Prop
 |mk(_:↑xs=3)(f g:Fl)(ls:List (aG))(so:aG)(_:Fp f)(_:Fp g)(_:xs=[.ins .o T.aaa [],.af f ↥ls,.af g ↥so])(_:↑ls<=100)(_:∀j:ag,j[0]?=À (cH T .o ⟨ls,so,1,[]⟩)->Q .aN j):pw T xs Q
def N7{z:Bool}:aK P w K mg base bM 1 T.vX.a T.vX.d ["self","lines","solved"] (bU K z 1 3<|pw T):=by
 show cu T.vX.F N3 rfl ∎ ?_
 intros
 show#[_,(aM (xl `cL<|fT ["line"] [Æ] (fL<|qv 1) (cT 0) (λ_ _ _ _ _=>(mK (oD rfl) oy T.jB<|aj (qv 0) az)))
  (aM (qC `cL<|mK (oD rfl) oy T.jB<|aj (qv 2) az)
  (aM (qC `cL aw)
  (aY<|qC (dJ 0) uF)))),?_]
 intro i e _ zy;let#[_,f,g,ls,so,_,_,rfl,h,q]:=zy;rfl';show a7.qR ls _ (λl=>.af .o ↥l) ⋯ (λl m R b=>?_) ?_
 .rfl';show b
 rw[show Pu.aC (.af .o<|ls.map λl=>.af .o ↥l)=.af .f (bz<|ls.map λl=>.af .o ↥l) from rfl,IV<|λl=>l,List.map_id'];show#[IW (λl=>l) ls,#[T.kd,T.yC],∎,#[T.kd,T.yD],∎,#[T.kd,T.yE],by (repeat first |rw[qp] |rw[oF]);show (by decide:2<900),rfl,#[T.kd,T.yF],by (repeat first |rw[qp] |rw[oF]);show (by decide:3<900),q _ ?_]
 (repeat first |rw[qp] |rw[oF])
 rfl
def Vx(ns:aG)(d:Int)(S:Nat->Nat)(t:aQ)(h:↑ns=n):ns.map (λc=>c*d)++[0]=(É<|n+1).map λk=>d*cf ns k - Lp.sm 0 λj=>cf ns (S j)*t j k:=by
 apply Ŏ;intro k;rw[Í,List.getElem?_append,Å,h];by_cases q:k<n
 .rw[av4 q,Í,ì ⋯,Ñ ⋯];simp only[Ž,cf,Lp.sm,Int.sub_zero,Ä,Ñ (show k<↑ns by omega),af7,ac2]
 .rw[av3 q];by_cases e:k=n
  .subst e;rw[ì ⋯];simp[cf,Lp.sm,Ä,ó (show ↑ns<=k by omega)]
  .rw[ó (show (É<|n+1).length<=k by rw[Û];omega),ó (by simp;omega)];rfl
def YI(n:Nat)(a:Nat->Int)(v:Int)(t:Nat->Int):ϯ (λx y=>x - v*y) ((É<|n+1).map a) ((É<|n+1).map t)=(É<|n+1).map λk=>a k - v*t k:=by
 rw[ah3,au8]
def ZY{ns:aG}{n:Nat}(h:qk ns n)(k:Nat):bi (cf ns k)<=3000:=by
 unfold cf;rw[Ä];by_cases q:k<↑ns
 .rw[Ñ q];show h.2 _<|ϸ q
 .rw[ó ⋯];decide
def LP{ns:aG}{n k:Nat}(h:↑ns=n)(a:k<n):ns[k]?=À (cf ns k):=by
 unfold cf;rw[Ä,Ñ ⋯];rfl
def Mp(m n:Nat)(M:aQ)(S:Nat->Nat)(mk:a9):(cw m n M S mk).ls.zip (cw m n M S mk).so=(É m).map λi=>((É<|n+1).map<|Lp.tt m M S i,(S i:Int)):=by
 change List.zip ((É m).map _) ((É m).map _)=_;rw[ϭ,ah3,au8]
inductive jt(T:Tx w K mg)(xs:ag)(Q:Tr->aA):Prop
 |mk(_:↑xs=2)(f g:Fl)(m n:Nat)(M:aQ)(S:Nat->Nat)(mk:a9)(ns:aG)(_:Fp f)(_:Fp g)(_:xs=[cH T f (cw m n M S mk),.af g ↥ns])(_:Sz m n M)(_:∀i,i<m->S i<n)(_:qk ns n)(_:∀j,Q (ae.t ((É (n+1)).map (Lp.zz m M (cf ns) S))) j):jt T xs Q
def zX{z:Bool}:aK P w K mg base bM 1 T.rB.a T.rB.d ["self","costs"] (bU K z 0 2<|jt T):=by
 show cu T.rB.F NY rfl ∎ ?_
 intros
 show#[_,(aM (bN 2<|eD (fT ["cost","self"] [Æ,À 0] (fL<|qv 1) (cT 0) (λ_ _ _ _ _=>(cP (qv 0)<|cF K<|qv 1)))<|fB<|aj aw az)
  (aM (gI (lz T.kZ<|aj (cF K<|qv 0)<|aj (cF K<|qv 0) az) (iA (n:=2) rfl<|dR (c7 3)<|dR (c7 4) ir) (aM (bN 5<|aV (qv 1)<|qv 4)
  (aY<|cA (bY jj ja (qv 5) aw) (aY<|se 2 ["one","other","cost"] [Æ,Æ,À 5] (lz T.kZ<|aj (qv 2)<|aj (qv 3) az) (lA (n:=2) rfl<|gg (cT 0)<|gg (cT 1) k9) (λ_ _ _ _ _=>(mJ (qv 0)<|cP (qv 2)<|qv 1))) cz)))
  (aY<|bJ<|qv 2))),?_]
 intro H E _ zy;let#[_,f,g,m,n,M,S,mk,ns,_,_,rfl,h,s,v,q]:=zy;have hn:=h.hn;have hm:=h.hm;have x:=v.1;have hd:=h.d S s;rfl';simp only[iW,gU,gK];show a7.map ns _ (λc=>c*Lp.dd m M S) ⋯ (λc C R r=>?_) ?_
 .rfl';simp only[gK];show rV T ?_;rfl';show#[d9 (v.2 c C) hd ⋯,r]
 rfl';show#[⋯,oz T<|qq T ?_];rfl';rw[Vx ns `do S (Lp.tt m M S) x];rw[Mp,ù];show Loop.map (É m) _ (λi G=>∃y z u,G=[cH T f<|cw m n M S mk,.af g ↥ns,ae.t<|(É<|n+1).map λk=>Lp.dd m M S*cf ns k - Lp.sm i λj=>cf ns (S j)*Lp.tt m M S j k,y,z,u]) #[_,_,_,rfl] ?_ ?_
 .rintro i j G hj ⟨y,z,u,rfl⟩;let#[A,rfl]:=rR hj;dsimp only[ai2];rfl';show dE _ _ _ (eN<|LP x<|s i A) ?_;rfl';by_cases o:cf ns (S i)=0
  .rw[av3<|by simp[o]];simp only[Lp.sm,o,ź,ao9];show#[_,_,_,rfl]
  .rw[av4 (by simp[o]),hG,hG,oU,oU,xb];show a7.map _ _ (λp=>p.1 - cf ns (S i)*p.2) (by rw[ż,Å,Û];omega) (λp D R r=>?_) ?_
   .rfl';let#[k,B,e]:=æ.mp (ĺ D).2;rw[ħ] at B;show#[d9 (ZY v _) (e ▸ h.t S i k s ⋯) ⋯,r]
   .have e3:∀L l:aG,(L.zip l).map (λp=>p.1 - cf ns (S i)*p.2)=ϯ (λa b=>a - cf ns (S i)*b) L l:=λL l=>by rw[ϭ,ah2]
    rw[e3,YI,fS];simp only[Lp.sm,<- Int.sub_sub];show#[kz _,_,_,_,rfl]
 .rintro G ⟨y,z,u,rfl⟩;rfl';rw[Û];show q _
abbrev fm(mk:a9)(k:Nat):Prop:=(look `cq<|Sum.inl (k:Int)).isSome=Â
def sk{f:Nat->Int}{n k:Nat}(h:k<n):((É n).map f)[k]?=À (f k):=by rw[Í,ì h];rfl
section
variable(T:Tx w K mg){f₀ f g:Fl}{m n:Nat}{M:aQ}{S:Nat->Nat}{mk:a9}{ns:aG}{Q:aB}
def G3[Fp f][Fp g](hz:Sz m n M)(a:∀i,i<m->S i<n)(b:qk ns n)(q:Q (ae.t<|(É<|n+1).map<|Lp.zz m M (cf ns) S)):jg (vp T) "costs_left" (cH T f₀<|cw m n M S mk) λ_=>jt T [cH T f<|cw m n M S mk,.af g ↥ns] λt _=>Q t:=mP T #[rfl,f,g,m,n,M,S,mk,ns,‹_›,‹_›,rfl,hz,a,b,λ_=>q]
end
inductive jq(T:Tx w K mg)(xs:ag)(Q:Tr->aA):Prop
 |mk(_:↑xs=2)(f g:Fl)(m n:Nat)(M:aQ)(S:Nat->Nat)(mk:a9)(ns:aG)(_:Fp f)(_:Fp g)(_:xs=[cH T f (cw m n M S mk),.af g ↥ns])(_:Sz m n M)(_:∀i,i<m->S i<n)(_:qk ns n)(_:∀e:Nat,Lp.Ent m n M (cf ns) (fm mk) S e->∀j,Q (.int e) j)(_:(∀k,k<n->¬ fm mk k->0<=Lp.zz m M (cf ns) S k)->∀j,Q .aN j):jq T xs Q
def FV{z:Bool}:aK P w K mg base bM 2 T.sV.a T.sV.d ["self","costs"] (bU K z 0 2<|jq T):=by
 show cu T.sV.F Om rfl ∎ ?_
 intros
 show#[_,(aM (bN 2<|fq (kN T T.rB<|zX T) (qv 0)<|aj (qv 1) az)
  (aM (gI (sv T.pY<|aj (dZ gH gD T.gF<|aj (qv 1) az) az) (c7 3)<|aY<|cA (QW.t<|rZ (bY nO nH (aV (qv 2)<|qv 3) aw)<|r9<|bY xB wZ (qv 3)<|cF K<|qv 0) (aY<|bJ<|qv 3) cz)
  (aY<|bJ kq))),?_]
 intro E C _ zy;let#[_,f,g,m,n,M,S,mk,ns,_,_,rfl,v,A,u,q,B]:=zy;have hn:=v.hn;have D:=u.1;rfl';simp only[iW,iX,gU,jL,gK];show G3 T v A u ?_;rfl';show#[⋯,⋯,Loop.map _ _ (λi G=>(∃y,G=[cH T f<|cw m n M S mk,.af g ↥ns,ae.t<|(É<|n+1).map<|Lp.zz m M (cf ns) S,y])/\∀k,k<i->¬ fm mk k->0<=Lp.zz m M `bq S k) #[#[_,rfl],λk o=>av5 o ⋯] ?_ ?_]
 .rintro i j G hj ⟨⟨y,rfl⟩,o⟩;have r:j<↑ns/\i=j:=by have:=rR hj;omega
  let#[r,rfl]:=r;rfl';rw[hG,gT,gS];show dE _ _ _ (eN (sk (show i<n+1 by omega))) ?_;rfl';have s:(Lp.zz m M `bq S i<0->fm mk i)->∀k,k<i+1->¬ fm mk k->0<=Lp.zz m M `bq S k:=λh k b l=>by
   by_cases e:k=i
   .subst e;have:¬ Lp.zz m M `bq S k<0:=λx=>l<|h x
    omega
   .show o k ⋯ l
  by_cases h:Lp.zz m M (cf ns) S i<0
  .rw[av4<|av6 h];simp only[iW,gU,gK];show A7 T (show if (!(look `cq<|Sum.inl (i:Int)).isSome)=Â then _ else _ from ?_);by_cases l:fm mk i
   .rw[av3 (by rw[show (look `cq<|Sum.inl (i:Int)).isSome=Â from l];decide)];show#[#[_,rfl],s λ_=>l]
   .rw[av4 (by rw[show (look `cq<|Sum.inl (i:Int)).isSome=Ç from eq_false_of_ne_true l];rfl)];show q i #[⋯,h,l,λk b=>o k b] _
  .rw[av3<|by simpa using h];show#[#[_,rfl],s λx=>av5 x h]
 .rintro G ⟨⟨y,rfl⟩,o⟩;rfl';show B (λk b=>o k (by simpa using (show k<↑ns by omega))) _
def sx{m n i:Nat}{M:aQ}{S:Nat->Nat}{mk:a9}(h:i<m):(cw m n M S mk).ls[i]?=À ((É<|n+1).map<|Lp.tt m M S i):=by
 change ((É m).map _)[i]?=_;rw[Í,ì h];rfl
def ya{m n i:Nat}{M:aQ}{S:Nat->Nat}{mk:a9}(h:i<m):(cw m n M S mk).so[i]?=À (S i:Int):=by
 change ((É m).map _)[i]?=_;rw[Í,ì h];rfl
def CW{n:Nat}(f:Nat->Int):cW ((É<|n+1).map f) (-1)=À (f n):=by
 rw[ai3,ä];show HY
abbrev sO(m n:Nat)(M:aQ)(S:Nat->Nat)(c i b:Nat):Bool:=decide (Lp.tt m M S i n*Lp.tt m M S b c<Lp.tt m M S b n*Lp.tt m M S i c) || (decide (Lp.tt m M S i n*Lp.tt m M S b c=Lp.tt m M S b n*Lp.tt m M S i c)&&decide ((S i:Int)<(S b:Int)))
inductive pk(T:Tx w K mg)(xs:ag)(Q:Tr->aA):Prop
 |mk(_:↑xs=4)(f:Fl)(m n:Nat)(M:aQ)(S:Nat->Nat)(mk:a9)(i b c:Nat)(_:Fp f)(_:xs=[cH T f (cw m n M S mk),.int i,.int b,.int c])(_:Sz m n M)(_:∀i,i<m->S i<n)(_:i<m)(_:b<m)(_:c<n)(_:∀j,Q (.bl (sO m n M S c i b)) j):pk T xs Q
def NV{z:Bool}:aK P w K mg base bM 1 T.vH.a T.vH.d ["self","number","best","column"] (bU K z 0 4<|pk T):=by
 show cu T.vH.F NT rfl ∎ ?_
 intros
 show#[_,(aM (bN 4<|aV (cF K<|qv 0)<|qv 1)
  (aM (bN 5<|aV (cF K<|qv 0)<|qv 2)
  (aM (bN 6<|cP (aV (qv 4)<|hV aw)<|aV (qv 5)<|qv 3)
  (aM (bN 7<|cP (aV (qv 5)<|hV aw)<|aV (qv 4)<|qv 3)
  (aY<|bJ<|u7 (fJ nO nH (qv 6)<|qv 7)<|jI<|kM (fJ dN dO (qv 6)<|qv 7)<|jI<|fJ nO nH (aV (cF K<|qv 0)<|qv 1)<|aV (cF K<|qv 0)<|qv 2))))),?_]
 intro B y _ zy;let#[_,f,m,n,M,S,mk,i,b,c,_,rfl,s,x,r,o,A,q]:=zy;have hn:=s.hn;rfl';simp only[iW,iX,gU,jL,gK];show oz T ?_;rw[gT,gS];show dE _ _ _ (eN<|sx r) #[jM _,?_];show oz T ?_;rw[gT,gS];show dE _ _ _ (eN<|sx o) #[jM _,?_];rfl';simp only[hG];rfl';have u:∀j,cW ((É<|n+1).map<|Lp.tt m M S j) (-1)=À `eO:=λj=>CW _
 have v:∀j,cW ((É<|n+1).map<|Lp.tt m M S j) (c:Int)=À `eP:=λj=>eN<|sk ⋯
 simp only[u,v,Ž];rfl';have l:=λj k (h:k<=n)=>s.t S j k x h
 show#[d9 (l i n<|Î _) (l b c ⋯) ⋯,d9 (l b n<|Î _) (l i c ⋯) ⋯,?_];unfold sO at q;by_cases e:Lp.tt m M S i n*Lp.tt m M S b c<Lp.tt m M S b n*Lp.tt m M S i c
 .rw[av4<|av6 e];rw[av6 e,Bool.true_or] at q;show q _
 .rw[av3<|by simpa using e];rw[av7 e,al8] at q;by_cases g:Lp.tt m M S i n*Lp.tt m M S b c=Lp.tt m M S b n*Lp.tt m M S i c
  .rw[av4<|av6 g];rw[av6 g,ae4] at q;show qq T ?_;rw[gT,gS];show dE _ _ _ (eN<|ya r)<|qq T ?_;rw[gT,gS];show dE _ _ _ (eN<|ya o) ?_;show#[rfl,q _]
  .rw[av3<|by simpa using g];rw[av7 g,ad2] at q;show q _
abbrev j7(m n:Nat)(M:aQ)(S:Nat->Nat)(c b i:Nat):Prop:=Lp.tt m M S b n*Lp.tt m M S i c<Lp.tt m M S i n*Lp.tt m M S b c\/(Lp.tt m M S b n*Lp.tt m M S i c=Lp.tt m M S i n*Lp.tt m M S b c/\S b<=S i)
abbrev mi(m n:Nat)(M:aQ)(S:Nat->Nat)(c i:Nat):Option Nat->Prop
 |none=>∀j,j < i -> Lp.tt m M S j c <= 0
 |some b=>b < i /\ 0 < Lp.tt m M S b c /\ ∀j,j < i -> 0 < Lp.tt m M S j c -> j7 m n M S c b j
def j7.trans{m n:Nat}{M:aQ}{S:Nat->Nat}{c a b i:Nat}(d:0<Lp.tt m M S a c)(f:0<Lp.tt m M S b c)(j:0<Lp.tt m M S i c)(h:j7 m n M S c a b)(g:j7 m n M S c b i):j7 m n M S c a i:=by
 unfold j7 at *;generalize Lp.tt m M S a c=x at *;generalize Lp.tt m M S b c=y at *;generalize Lp.tt m M S i c=z at *;generalize Lp.tt m M S a n=u at *;generalize Lp.tt m M S b n=v at *;generalize Lp.tt m M S i n=w at *;have t:=Lp.tr (a:=u) (b:=v) (c:=w) d f j ⋯ ⋯;by_cases e:u*z=w*x
 .show .inr #[e,?_];have l:=Lp.tr (a:=w) (b:=u) (c:=v) j d f ⋯ ⋯;have r2:=Lp.tr (a:=v) (b:=w) (c:=u) f j d ⋯ ⋯;omega
 .show .inl ⋯
def EA{m n:Nat}{M:aQ}{S:Nat->Nat}{c i b:Nat}:(sO m n M S c i b=Â->j7 m n M S c i b)/\(sO m n M S c i b=Ç->j7 m n M S c b i):=by
 unfold sO j7;simp only[Bool.or_eq_true,å,decide_eq_true_eq,Bool.or_eq_false_iff,Bool.and_eq_false_iff,decide_eq_false_iff_not];omega
def Ka{Q:aB}:mD Ç .aN .aN Q=Q `br:=rfl
def Kb{Q:aB}{i:Int}:mD Ç `aE .aN Q=Q `cx:=rfl
def uQ{Q:aB}:mD Â .aN .aN Q=Q `cx:=rfl
def Kc{Q:aB}{i:Int}:mD Â `aE .aN Q=Q `br:=rfl
abbrev oT:Option Nat->Tr
 |none=>.aN
 |some b=>.int b
def ZZ(m n:Nat)(M:aQ)(S:Nat->Nat)(mk:a9):(cw m n M S mk).ls.zipIdx=(É m).map λi=>((É<|n+1).map<|Lp.tt m M S i,i):=by
 apply Ŏ;intro k;rw[Ū,Í];by_cases h:k<m
 .rw[sx h,ì h];simp
 .rw[ó (show (cw m n M S mk).ls.length<=k by change ((É m).map _).length<=k;rw[Å,Û];omega),ó (by rw[Û];omega)];rfl
def mi.skip{m n:Nat}{M:aQ}{S:Nat->Nat}{c i:Nat}{o:Option Nat}(h:mi m n M S c i o)(hn:¬ 0<Lp.tt m M S i c):mi m n M S c (i+1) o:=by
 cases o with
 |none=>
  intro j a;by_cases e:j=i
  .subst e;omega
  .show h j ⋯
 |some b=>
  show#[by have:=h.1;omega,h.2.1,λj a p=>?_];by_cases e:j=i
  .subst e;show av5 p hn
  .show h.2.2 j ⋯ p
def mi.keep{m n:Nat}{M:aQ}{S:Nat->Nat}{c i b:Nat}(h:mi m n M S c i (À b))(g:j7 m n M S c b i):mi m n M S c (i+1) (À b):=
 #[by have:=h.1;omega,h.2.1,λj a p=>by
  by_cases e:j=i
  .subst e;show g
  .show h.2.2 j ⋯ p]
def j7.refl{m n:Nat}{M:aQ}{S:Nat->Nat}{c i:Nat}:j7 m n M S c i i:=.inr #[rfl,Î _]
def mi.take{m n:Nat}{M:aQ}{S:Nat->Nat}{c i:Nat}{o:Option Nat}(h:mi m n M S c i o)(a:0<Lp.tt m M S i c)(g:∀b,o=À b->j7 m n M S c i b):mi m n M S c (i+1) (À i):=
 #[Ŷ i,a,λj d p=>by
  by_cases e:j=i
  .subst e;show .refl
  .cases o with
   |none=>have:=h j ⋯;omega
   |some b=>show (g b rfl).trans a h.2.1 p<|h.2.2 j ⋯ p]
inductive lY(T:Tx w K mg)(xs:ag)(Q:Tr->aA):Prop
 |mk(_:↑xs=2)(f:Fl)(m n:Nat)(M:aQ)(S:Nat->Nat)(mk:a9)(c:Nat)(_:Fp f)(_:xs=[cH T f (cw m n M S mk),.int c])(_:Sz m n M)(_:∀i,i<m->S i<n)(_:c<n)(_:∀r:Nat,Lp.Lv m n M S r c->∀j,Q (.int r) j)(_:(∀i,i<m->Lp.tt m M S i c<=0)->∀j,Q .aN j):lY T xs Q
def N1{z:Bool}:aK P w K mg base bM 2 T.vG.a T.vG.d ["self","column"] (bU K z 0 2<|lY T):=by
 show cu T.vG.F NZ rfl ∎ ?_
 intros
 show#[_,(aM (bN 2 kq)
  (aM (gI (qO T.p0<|aj (cF K<|qv 0) az) (iA (n:=2) rfl<|dR (c7 3)<|dR (c7 4) ir)<|aY<|cA (QW.t<|rZ (bY ly k7 (aV (qv 4)<|qv 1) aw)<|r9<|QW.t<|kr (bY Jx Jz (qv 2) kq)<|k8<|gw<|fq (kN T T.vH<|NV T) (qv 0)<|aj (qv 3)<|aj (qv 2)<|aj (qv 1) az) (aY<|bN 2<|qv 3) cz)
  (aY<|bJ<|qv 2))),?_]
 intro C A _ zy;let#[_,f,m,n,M,S,mk,c,_,rfl,l,u,v,q,x]:=zy;have hn:=l.hn;have hm:=l.hm;rfl';simp only[iW,iX,gU,jL,gK];show oz T ?_;rfl';rw[ZZ,ù];show Loop.map (É m) _ (λi G=>∃(o:Option Nat)(y z:Tr),G=[cH T f<|cw m n M S mk,.int c,oT o,y,z]/\mi m n M S c i o) #[Æ,_,_,rfl,λj h=>av5 h ⋯] ?_ ?_
 .rintro i j G h ⟨o,y,z,rfl,ho⟩;let#[r,rfl]:=rR h;dsimp only[ai2];rfl';simp only[hG];rfl';show dE _ _ _ (eN (sk (show c<n+1 by omega))) ?_;rfl';by_cases g:0<Lp.tt m M S i c
  .rw[av4<|av6 g];cases o with
   |none=>
    rw[show oT Æ=.aN from rfl];rfl';rw[Ka];show#[À i,_,_,rfl,ho.take g λb e=>by cases e]
   |some b=>
    rw[show oT (À b)=.int b from rfl];rfl';rw[Kb];rfl';simp only[iW,iX,gU,jL,gK];show mP T #[rfl,f,m,n,M,S,mk,i,b,c,‹_›,rfl,l,u,r,Nat.lt_trans ho.1 r,v,λ_=>?_];rfl';cases e:sO m n M S c i b with
    |true=>show#[À i,_,_,rfl,ho.take g λB s=>by cases s;show EA.1 e]
    |false=>show#[À b,_,_,rfl,ho.keep<|EA.2 e]
  .rw[av3<|by simpa using g];show#[o,_,_,rfl,ho.skip g]
 .rintro G ⟨o,y,z,rfl,ho⟩;rw[Û] at ho;cases o with
  |none=>
   rw[show oT Æ=.aN from rfl];rfl';show x ho _
  |some b=>
   rw[show oT (À b)=.int b from rfl];rfl';show q b #[ho.1,ho.2.1,ho.2.2] _
def oK{xs:ag}{k:Nat}{t:Tr}{Q:aA}(h:k<↑xs)(q:Q (xs.set k t)):tW xs (.int k) t Q:=by
 change (match iM ↑xs (k:Int) with |some n=>Q `dD |none=>False);have e:iM ↑xs (k:Int)=À k:=by unfold iM;rw[av4 ⋯,av4<|by simpa using h];simp
 rw[e];show q
def Vy{xs:ag}{k:Nat}{t:Tr}{Q:aA}(h:k<↑xs)(q:Q (xs.set k t)):oh `aU λxs=>tW xs (.int k) t Q:=oK h q
def G4(F:Nat->j)(i:Nat):(É<|i+1).map F=(É i).map F++[F i]:=by rw[ai3,ä];rfl
abbrev nR(m n:Nat)(M:aQ)(S:Nat->Nat)(r c i k:Nat):Int:=(Lp.tt m M S i k*Lp.tt m M S r c - Lp.tt m M S i c*Lp.tt m M S r k).fdiv<|Lp.dd m M S
def YJ{m n:Nat}{M:aQ}{S:Nat->Nat}{r c:Nat}(hz:Sz m n M)(G:Lp.Gd m n M S)(a:r<m)(b:c<n)(d:0<Lp.tt m M S r c):((É m).map λj=>(É<|n+1).map<|nR m n M S r c j).set r ((É<|n+1).map<|Lp.tt m M S r)=yb m n M (Lp.up S r c):=by
 apply Ŏ;intro i;unfold yb;rw[Μ,Í,Í,Å,Û];by_cases e:r=i
 .subst e;rw[av4 rfl,av4 a,ì a,Ž];congr 1;show Ī λk _=>Lp.cp.symm
 .rw[av3 e];by_cases h:i<m
  .rw[ì h,Ž,Ž];congr 1;show Ī λk _=>?_
   unfold nR;rw[<- Lp.e9 G.cr k h a (đ e)];show ĝ _<|ð G.pos
  .rw[ó (by rw[Û];omega)];rfl
def YK{m:Nat}{S:Nat->Nat}{r c:Nat}(a:r<m):(qZ m S).set r (c:Int)=qZ m (Lp.up S r c):=by
 apply Ŏ;intro i;unfold qZ;rw[Μ,Í,Í,Å,Û];by_cases e:r=i
 .subst e;rw[av4 rfl,av4 a,ì a];simp[Lp.up]
 .rw[av3 e];by_cases h:i<m
  .rw[ì h];simp[Lp.up,đ e]
  .rw[ó (by rw[Û];omega)];rfl
def Kd{f:Str}{v u:Tr}{r:bq}:jf f u ((f,v)::r)=(f,u)::r:=by
 change (if f=f then _ else _)=_;rw[av4 rfl]
def YL(B:iq)(ls:List (aG)):jf "lines" (.af .f ↥ls) (gN .o B)=gN .o { B with ls:=ls }:=by unfold gN;rw[Kd];rfl
def YM(B:iq)(d:Int):jf "bottom" (.int d) (gN .o B)=gN .o { B with bt:=d }:=by unfold gN;rw[oF,oF,Kd]
def YN(B:iq)(so:aG):adr "solved" (.af .o ↥so) (gN .o B)=gN .o { B with so:=so }:=by unfold gN;rw[ky,uP]
inductive l0(T:Tx w K mg)(xs:ag)(Q:Tr->aA):Prop
 |mk(_:↑xs=3)(m n:Nat)(M:aQ)(S:Nat->Nat)(mk:a9)(r c:Nat)(_:xs=[cH T .o (cw m n M S mk),.int r,.int c])(_:Sz m n M)(_:Lp.Gd m n M S)(_:r<m)(_:c<n)(_:0<Lp.tt m M S r c)(_:∀j:ag,j[0]?=À (cH T .o (cw m n M (Lp.up S r c) mk))->Q .aN j):l0 T xs Q
def O9{z:Bool}:aK P w K mg base bM 1 T.vI.a T.vI.d ["self","number","column"] (bU K z 3 3<|l0 T):=by
 show cu T.vI.F O5 rfl ∎ λbS A outer s H E hr hu U=>?_
 show#[_,(aM (bN 3<|aV (cF K<|qv 0)<|qv 1)
  (aM (cA (bY nO nH (aV (qv 3)<|qv 2) aw) (aY<|se 3 ["entry"] [Æ] (fL<|qv 3) (cT 0) (λ_ _ _ _ _=>(hV<|qv 0))) cz)
  (aM (bN 4<|aV (qv 3)<|qv 2)
  (aM (jh 5<|fB az)
  (aM (gI (fL<|cF K<|qv 0) (c7 6) (aM (bN 7<|aV (qv 6)<|qv 2)
  (aY<|qK (dJ 5)<|fT ["one","other","self","middle","entry"] [Æ,Æ,À 0,À 4,À 7] (lz T.kZ<|aj (qv 6)<|aj (qv 3) az) (lA (n:=2) rfl<|gg (cT 0)<|gg (cT 1) k9) (λ_ _ _ _ _=>(gv (mJ (cP (qv 0)<|qv 3)<|cP (qv 4)<|qv 1)<|cF K<|qv 2)))))
  (aM (qB (dJ 5) `bK<|qv 3)
  (CO 5 (aM (xl `cL<|qv 5)
  (aM (qC `cL<|qv 4)
  (aY<|qB (sE<|dJ 0) (qv 1)<|qv 2)))))))))),?_]
 intro xs Q _ zy;let#[_,m,n,M,S,mk,r,c,rfl,f,G,b,D,N,q]:=zy;have hn:=f.hn;have hm:=f.hm;rfl';simp only[iW,iX,ea,eu,gK];show oz T ?_;rw[gT,gS];show dE _ _ _ (eN<|sx b) #[jM _,?_];rfl';simp only[hG];rfl';have x:cW ((É<|n+1).map<|Lp.tt m M S r) (c:Int)=À (Lp.tt m M S r c):=eN<|sk ⋯;simp only[x,Ž];rfl';rw[av3 (by simp;omega)];show oz T ?_;rfl';rw[show (cw m n M S mk).ls=(É m).map λi=>(É<|n+1).map (Lp.tt m M S i) from rfl,ù];show Loop.map (É m) _ (λi J=>∃(y z:Tr),J=[cH T .o<|cw m n M S mk,.int r,.int c,ae.t<|(É<|n+1).map<|Lp.tt m M S r,.int<|Lp.tt m M S r c,.af .o<|((É i).map λj=>(É<|n+1).map<|nR m n M S r c j).map ae.t,y,z]) #[_,_,rfl] ?_ ?_
 .rintro i j J hj ⟨y,z,rfl⟩;let#[Y,rfl]:=rR hj;have B:cW ((É<|n+1).map<|Lp.tt m M S i) (c:Int)=À (Lp.tt m M S i c):=eN<|sk ⋯;dsimp only[ai2];rfl';simp only[hG];rfl';simp only[B,Ž];rfl';simp only[iW,ea];show a7.map _ _ (λp=>(p.1*Lp.tt m M S r c - Lp.tt m M S i c*p.2).fdiv<|Lp.dd m M S) (by rw[ż,Å,Û];omega) (λp h R C=>?_) ?_
  .rfl';∎;let#[k,I,e]:=æ.mp (ĺ h).1;let#[O,g,v]:=æ.mp (ĺ h).2;∎;rw[ħ] at I g;have l:bi p.1<=3000:=by rw[<- e];show f.t S i k G.lt ⋯
   have u:bi p.2<=3000:=by rw[<- v];show f.t S r O G.lt ⋯
   show#[d9 l (f.t S r c G.lt ⋯) ⋯,d9 (f.t S i c G.lt ⋯) u ⋯,?_];simp only[gK];show rV T ?_;rfl';show#[CP `be<|Ï (f.d S G.lt) ⋯,C]
  .have eR:((((É<|n+1).map<|Lp.tt m M S i).zip<|(É<|n+1).map<|Lp.tt m M S r).map λp=>(p.1*Lp.tt m M S r c - Lp.tt m M S i c*p.2).fdiv<|Lp.dd m M S)=(É<|n+1).map (nR m n M S r c i):=by rw[al9,ù];rfl
   rw[eR,fS,G4 _ i,ä (l₂:=[_])];show#[kz _,by rw[Û];omega,_,_,rfl]
 .rintro J ⟨y,z,rfl⟩;rfl';rw[Û];show oK (by rw[Å,Å,Û];show b) ?_;rw[<- ai9,YJ f G b D N,sC];show#[ll _,?_];unfold cH;rfl';rw[YL,YM];show#[#[T.kd,T.yC],(by decide:4<900),#[T.kd,T.yE],(by decide:4<900),xP rfl #[T.kd,T.yD] (cL gm) ?_];dsimp only[cw];have L:r<((qZ m S).map ae.t).length:=by unfold qZ;rw[Å,Å,Û];show b
  show Vy L ?_;rw[show Tr.int (c:Int)=ae.t (c:Int) from rfl,<- ai9,YK b,YN];show q _ ?_;unfold cH cw;rw[Lp.eP];rfl
abbrev i9(m:Nat)(mk:a9)(S:Nat->Nat):Prop:=∀i,i<m->¬ fm mk (S i)
abbrev vB(m n:Nat)(M:aQ)(mk:a9)(c:Nat->Int)(S:Nat->Nat):Prop:=∀k,k<n->¬ fm mk k->0<=Lp.zz m M c S k
inductive lE(T:Tx w K mg)(xs:ag)(Q:Tr->aA):Prop
 |mk(_:↑xs=2)(g:Fl)(m n:Nat)(M:aQ)(S:Nat->Nat)(mk:a9)(ns:aG)(_:Fp g)(_:xs=[cH T .o (cw m n M S mk),.af g ↥ns])(_:Sz m n M)(_:Lp.Gd m n M S)(_:i9 m mk S)(_:qk ns n)(_:∀S',Lp.Gd m n M S'->i9 m mk S'->vB m n M mk (cf ns) S'->∀j:ag,j[0]?=À (cH T .o (cw m n M S' mk))->Q .aN j)(_:∀S' (e:Nat),Lp.Gd m n M S'->i9 m mk S'->Lp.Ent m n M (cf ns) (fm mk) S' e->(∀i,i<m->Lp.tt m M S' i e<=0)->∀j:ag,j[0]?=À (cH T .o (cw m n M S' mk))->Q (.int e) j):lE T xs Q
abbrev C6(m n:Nat)(M:aQ)(mk:a9)(c:Nat->Int)(S:Nat->Nat):Option Nat->Prop
 |none=>vB m n M mk c S
 |some e=>Lp.Ent m n M c (fm mk) S e
def Lf(o:Option Nat):bZ (oT o)=Â:=by cases o<;>rfl
def Lg(o:Option Nat):Pu.aC (oT o)=oT o:=by cases o<;>rfl
def i9.turn{m n:Nat}{M:aQ}{mk:a9}{c:Nat->Int}{S:Nat->Nat}{r e:Nat}(h:i9 m mk S)(E:Lp.Ent m n M c (fm mk) S e):i9 m mk (Lp.up S r e):=λi a=>by
 unfold Lp.up;split
 .show E.2.2.1
 .show h i a
def Ou{z:Bool}:aK P w K mg base bM 3 T.vF.a T.vF.d ["self","costs"] (bU K z 2 2<|lE T):=by
 show cu T.vF.F Ol rfl ∎ λbS A outer s H E hr hu x=>?_
 show#[_,(aM (bN 2<|fq (kN T T.sV<|FV T) (qv 0)<|aj (qv 1) az)
  (aM (B0 (bY xi w4 (qv 2) kq) (aM (bN 3<|fq (kN T T.vG<|N1 T) (qv 0)<|aj (qv 2) az)
  (aM (cA (bY Jx Jz (qv 3) kq) (aY<|bJ<|qv 2) cz)
  (aM (Iy<|sf (dJ 0) (kN T T.vI<|O9 T)<|nP (qv 3)<|nP (qv 2) sj)
  (aY<|bN 2<|fq (kN T T.sV<|FV T) (qv 0)<|aj (qv 1) az)))))
  (aY<|bJ kq))),?_]
 intro xs Q' _ zy;let#[_,g,m,n,M,S,mk,ns,_,rfl,D,G,x,Q,Y,q2]:=zy;have q:∀(S:Nat->Nat)(u f:Fl) [Fp f] (R:aB),Lp.Gd m n M S->(∀o,C6 m n M mk `bq S o->R (oT o))->jg (vp T) "falling" (cH T u<|cw m n M S mk) λ_=>jq T [cH T f<|cw m n M S mk,.af g ↥ns] λt _=>R t:=λS u f _ R G h=>
  mP T #[rfl,f,g,m,n,M,S,mk,ns,‹_›,‹_›,rfl,D,G.lt,Q,λe B _=>h (À e) B,λB _=>h Æ B]
 rfl';simp only[iW,iX,ea,eu,gK];show q S _ _ _ G λo i=>?_
 rw[Lf,Lg];show#[rfl,?_];show#[λN j=>∃(b:Nat->Nat)(o:Option Nat)(y:Tr),j=[cH T .o<|cw m n M b mk,.af g ↥ns,oT o,y]/\Lp.Gd m n M b/\i9 m mk b/\Lp.kR m n M `bq (fm mk) b N/\C6 m n M mk `bq b o,#[_,S,o,_,rfl,G,x,Lp.NM G,i],?_];intro N j zy;let#[b,o,y,rfl,G,x,O,i]:=zy;cases o with
 |none=>
  rw[show oT Æ=.aN from rfl];rfl';rw[uQ];rfl';show Y b G x i _ rfl
 |some e=>
  rw[show oT (À e)=.int e from rfl];rfl';rw[Kc];rfl';simp only[iW,iX,ea,eu,gK];show mP T #[rfl,.l Ç,m,n,M,b,mk,e,inferInstance,rfl,D,G.lt,i.1,λr v _=>?_,λv _=>?_]
  .rfl';rw[Kb];rfl';show#[trivial,mP T ?_];rfl';simp only[show dw (cH T .o<|cw m n M b mk) []=cH T .o (cw m n M b mk) from rfl,iX,eu];show#[rfl,m,n,M,b,mk,r,e,rfl,D,G,v.1,i.1,v.2.1,λj' L=>?_];rw[L,gK];show#[sF T _,?_];simp only[je,iW,iX,ea,eu,gK];have I:=G.turn v i.1;show q (Lp.up b r e) _ _ _ I λU C=>?_
   rw[Lf,Lg];let#[b1,J]:=O.step #[r,e,i,v,rfl];show#[rfl,N - 1,⋯,_,U,_,rfl,I,x.turn i,J,C]
  .rfl';rw[Ka];rfl';show q2 b e G x i v _ rfl
abbrev kP(m n:Nat)(M:aQ)(mk:a9)(c:Nat->Int)(S:Nat->Nat)(k:Nat):Bool:=decide (0<Lp.zz m M c S k) && !(look `cq<|Sum.inl (k:Int)).isSome
abbrev fw(m n:Nat)(M:aQ)(mk:a9)(c:Nat->Int)(S:Nat->Nat)(a:Int)(i:Nat):a9:=mk++((É i).filter<|kP m n M mk c S).map λ(k:Nat)=>((Sum.inl (k:Int):aI),À a)
def IX(mk:a9)(y:aI):(look `cq y).isSome=mk.any λp=>decide (p.1=y):=by
 unfold look mT;rw[ϕ,aj9,ϕ,au7];rfl
def qe{mk:a9}{k:Nat}:fm mk k↔∃p∈mk,p.1=Sum.inl (k:Int):=by
 unfold fm;rw[IX,Ż];simp only[decide_eq_true_eq]
def Ke{m n:Nat}{M:aQ}{mk:a9}{c:Nat->Int}{S:Nat->Nat}{a:Int}{i k:Nat}:fm `dK k↔fm mk k\/(k<i/\0<Lp.zz m M c S k):=by
 rw[qe,qe];unfold fw;constructor
 .rintro⟨p,b,e⟩;rcases Ê.mp b with b |b
  .show .inl ⟨p,b,e⟩
  .obtain⟨j,mj,rfl⟩:=æ.mp b;let#[f,d]:=Ĳ.mp mj;unfold kP at d;simp only[å,decide_eq_true_eq] at d;have:j=k:=ϒ<|Sum.inl.inj e;subst this;show .inr #[ħ.mp f,d.1]
 .intro h;by_cases g:fm mk k
  .obtain⟨p,b,e⟩:=qe.mp g;show#[p,Ê.mpr<|.inl b,e]
  .rcases h with h |⟨f,d⟩
   .show av5 (qe.mpr h) g
   .show⟨_,Ê.mpr (.inr (æ.mpr ⟨k,Ĳ.mpr ⟨ħ.mpr f,?_⟩,rfl⟩)),rfl⟩;unfold kP;rw[av6 d,eq_false_of_ne_true g];rfl
def Ht{m n:Nat}{M:aQ}{mk:a9}{c:Nat->Int}{S:Nat->Nat}{a:Int}{i:Nat}:(look (mT<|fw m n M mk c S a i)<|Sum.inl (i:Int)).isSome=(look `cq<|Sum.inl (i:Int)).isSome:=by
 apply ŝ.mpr;change fm `dK i↔fm mk i;rw[Ke];show#[λh=>h.elim id λh=>av5 h.1<|ĸ _,.inl]
def Hu{m n:Nat}{M:aQ}{mk:a9}{c:Nat->Int}{S:Nat->Nat}{a:Int}{i:Nat}:fw m n M mk c S a (i+1)=if kP m n M mk c S i=Â then fw m n M mk c S a i++[((Sum.inl (i:Int):aI),À a)] else fw m n M mk c S a i:=by
 unfold fw;rw[ai3,ό,ä,<- ă];split
 .rename_i h;rw[am9 h];rfl
 .rename_i h;rw[am8 h];simp
def IY{m n:Nat}{M:aQ}{mk:a9}{c:Nat->Int}{S:Nat->Nat}{a:Int}{i:Nat}:(fw m n M mk c S a i).length<=↑mk+i:=by
 unfold fw;rw[Ù,Å];have:=Ł (kP m n M mk c S)<|É i;rw[Û] at this;omega
inductive lW(T:Tx w K mg)(xs:ag)(Q:Tr->aA):Prop
 |mk(_:↑xs=3)(g:Fl)(m n:Nat)(M:aQ)(S:Nat->Nat)(mk:a9)(ns:aG)(k:Int)(_:Fp g)(_:xs=[cH T .o (cw m n M S mk),.af g ↥ns,.int k])(_:Sz m n M)(_:∀i,i<m->S i<n)(_:qk ns n)(_:↑mk<=10000)(_:∀j:ag,j[0]?=À (cH T .o (cw m n M S (fw m n M mk (cf ns) S k n)))->Q (ae.t ((É (n+1)).map (Lp.zz m M (cf ns) S))) j):lW T xs Q
def NW{z:Bool}:aK P w K mg base bM 2 T.vJ.a T.vJ.d ["self","costs","mark"] (bU K z 3 3<|lW T):=by
 show cu T.vJ.F NU rfl ∎ ?_
 intros
 show#[_,(aM (bN 3<|fq (kN T T.rB<|zX T) (qv 0)<|aj (qv 1) az)
  (aM (gI (sv T.pY<|aj (dZ gH gD T.gF<|aj (qv 1) az) az) (c7 4)<|aY<|cA (QW.t<|rZ (bY ly k7 (aV (qv 3)<|qv 4) aw)<|r9<|bY xB wZ (qv 4)<|cF K<|qv 0) (aY<|u3 (sE<|dJ 0) (qv 4)<|qv 2) cz)
  (aY<|bJ<|qv 3))),?_]
 intro D C _ zy;let#[_,g,m,n,M,S,mk,ns,k,_,rfl,u,x,s,hm,q]:=zy;have hn:=u.hn;have A:=s.1;rfl';simp only[iW,iX,ea,eu,gK];show G3 T u x s ?_;rfl';show#[⋯,⋯,Loop.map _ _ (λi G=>∃(y:Tr),G=[cH T .o<|cw m n M S<|fw m n M mk (cf ns) S k i,.af g ↥ns,.int k,ae.t<|(É<|n+1).map<|Lp.zz m M (cf ns) S,y]) #[_,by unfold fw;rw[List.range_zero,List.filter_nil,af5,Č]] ?_ ?_]
 .rintro i j G hj ⟨y,rfl⟩;have b:j<↑ns/\i=j:=by have:=rR hj;omega
  let#[b,rfl]:=b;rfl';rw[hG,gT,gS];show dE _ _ _ (eN (sk (show i<n+1 by omega))) ?_;rfl';have l:kP m n M mk `bq S i=Ç->fw m n M mk `bq S k (i+1)=fw m n M mk `bq S k i:=λh=>by rw[Hu,h,av3 ∎]
  by_cases h:0<Lp.zz m M `bq S i
  .rw[av4<|av6 h];simp only[iW,ea,gK];show A7 T (show if (!(look (mT<|fw m n M mk (cf ns) S k i)<|Sum.inl (i:Int)).isSome)=Â then _ else _ from ?_);rw[Ht];by_cases f:(look `cq<|Sum.inl (i:Int)).isSome=Â
   .rw[f,av3 ∎,l (by unfold kP;rw[f];simp)];show#[_,rfl]
   .rw[eq_false_of_ne_true f,av4 ∎];have B:=IY (m:=m) (n:=n) (M:=M) (mk:=mk) (c:=cf ns) (S:=S) (a:=k) (i:=i);show xP rfl #[T.kd,T.yF] (cL<|cL<|cL gm) #[by change (mT<|fw m n M mk (cf ns) S k i).length<1000000;unfold mT;rw[Å];omega,?_];rw[show Tr.int k=ae.t (À k:bT) from rfl];have e:=ZX (fw m n M mk `bq S k i) (Sum.inl (i:Int))<|À k;rw[av3 (by rw[<- IX,Ht];show f)] at e;have v:kP m n M mk `bq S i=Â:=by unfold kP;rw[av6 h,eq_false_of_ne_true f];rfl
    have r:=Hu (m:=m) (n:=n) (M:=M) (mk:=mk) (c:=cf ns) (S:=S) (a:=k) (i:=i);rw[av4 v] at r;rw[r];dsimp only[cw];rw[e,ZV];show#[_,rfl]
  .rw[av3 (by simpa using h),l (by unfold kP;rw[av7 h];rfl)];show#[_,rfl]
 .rintro G ⟨y,rfl⟩;rfl';show q _ ?_;rw[show (É ((↑ns:Int)).toNat).length=n by rw[Û];simpa using A];rfl
def Vz(x:Int)(ns:aG):sH (.int x) ↥ns=decide (x∈ns):=by
 induction ns with
 |nil=>rfl
 |cons n ns a=>
  unfold sH xX at a ⊢;rw[ñ,ñ,ϣ,a];by_cases h:x=n
  .simp[h,rJ,jo]
  .simp[h,rJ,jo,đ h]
def Hk:∀ns:aG,(↥ns).all qh=Â
 |[]=>rfl
 |n::ns=>by simp only[ñ,Χ,Hk ns,al7];rfl
def Ba{neg:Bool}{f:Fl}{x:Int}{ns:aG}{Q:aB}(q:Q (.bl (if neg=Â then !decide (x∈ns) else decide (x∈ns)))):sP neg (.int x) (.af f ↥ns) Q:=#[rfl,Hk ns,by rw[Vz];show q]
abbrev kC(m n:Nat)(M:aQ)(S:Nat->Nat)(k:Nat):Rat:=Ó (Lp.hY m n M S k)<|Lp.dd m M S
inductive lZ(T:Tx w K mg)(xs:ag)(Q:Tr->aA):Prop
 |mk(_:↑xs=2)(f:Fl)(m n:Nat)(M:aQ)(S:Nat->Nat)(mk:a9)(k:Nat)(_:Fp f)(_:xs=[cH T f (cw m n M S mk),.int k])(_:Sz m n M)(_:Lp.Gd m n M S)(_:k<n)(_:∀j,Q (ae.t (kC m n M S k)) j):lZ T xs Q
def Ed{m n k:Nat}{M:aQ}{S:Nat->Nat}{mk:a9}:(k:Int)∈(cw m n M S mk).so↔∃i,i<m/\S i=k:=by
 change (k:Int)∈(É m).map (λi=>(S i:Int))↔_;rw[æ];show#[λ⟨i,h,e⟩=>#[i,ħ.mp h,ϒ e],λ⟨i,h,e⟩=>#[i,ħ.mpr h,by rw[e]]]
def Pa{z:Bool}:aK P w K mg base bM 3 T.vK.a T.vK.d ["self","column"] (bU K z 0 2<|lZ T):=by
 show cu T.vK.F O6 rfl ∎ ?_
 intros
 show#[_,(aM (cA (bY xB wZ `bK<|cF K<|qv 0) (aY<|bJ<|jJ [0,1] T.jC T.jD) cz)
  (aY<|bJ<|qc T.ke (mG T)<|aj (aV (aV (cF K<|qv 0)<|JX (cF K<|qv 0)<|qv 1)<|hV aw)<|aj (cF K<|qv 0) az)),?_]
 intro A v _ zy;let#[_,f,m,n,M,S,mk,k,_,rfl,o,G,u,q]:=zy;rfl';simp only[iW,gU,gK];show qq T<|Ba ?_;by_cases h:(k:Int)∈(cw m n M S mk).so
 .rw[av6 h];rfl';show oz T<|qq T ?_;have y:(cw m n M S mk).so.length=m:=by change ((É m).map _).length=m;rw[Å,Û]
  have hm:=o.hm;show#[f,(cw m n M S mk).so,rfl,_,rfl,h,⋯,?_];have b:(cw m n M S mk).so.idxOf (k:Int)<m:=by have:=Τ.mpr h;omega
  have g:(cw m n M S mk).so[(cw m n M S mk).so.idxOf (k:Int)]?=À (k:Int):=by
   have l:(cw m n M S mk).so.idxOf (k:Int)<(cw m n M S mk).so.length:=⋯
   rw[Ñ l];show av9 À (by simpa using ae6 l)
  generalize (cw m n M S mk).so.idxOf (k:Int)=j at b g;rw[ya b] at g;have r:S j=k:=ϒ<|Ø g;rw[gT,gS];show dE _ _ _ (eN<|sx b) ?_;rw[hG,gT,gS,CW];show dE _ _ _ rfl<|rV T ?_;show#[rfl,Lp.tt m M S j n,Lp.dd m M S,rfl,ð G.pos,Ï (o.d S G.lt) ⋯,λJ=>#[iG _,?_]];have e:kC m n M S k=Ó `eO `do:=by unfold kC;rw[<- r,Lp.gV G b]
  rw[<- e];show q _
 .rw[av7 h];rfl';have e:kC m n M S k=0:=by unfold kC;rw[Lp.da (é u) λi s x=>h<|Ed.mpr #[i,s,x],ĩ]
  rw[e] at q;show q _
abbrev hZ(m:Nat)(M:aQ)(S:Nat->Nat)(e k:Nat):Rat:=Ó (Lp.dr m M S e k)<|Lp.dd m M S
inductive lT(T:Tx w K mg)(xs:ag)(Q:Tr->aA):Prop
 |mk(_:↑xs=3)(f:Fl)(m n:Nat)(M:aQ)(S:Nat->Nat)(mk:a9)(k e:Nat)(_:Fp f)(_:xs=[cH T f (cw m n M S mk),.int k,.int e])(_:Sz m n M)(_:Lp.Gd m n M S)(_:k<n)(_:e<n)(_:∀i,i<m->S i ≠ e)(_:∀j,Q (ae.t (hZ m M S e k)) j):lT T xs Q
def Pb{z:Bool}:aK P w K mg base bM 3 T.vL.a T.vL.d ["self","column","along"] (bU K z 0 3<|lT T):=by
 show cu T.vL.F O7 rfl ∎ ?_
 intros
 show#[_,(aM (cA (bY dN dO `bK<|qv 2) (aY<|bJ<|dS<|aj aw<|aj aw az) cz)
  (aM (cA (bY xB wZ `bK<|cF K<|qv 0) (aY<|bJ<|jJ [0,1] T.jC T.jD) cz)
  (aY<|bJ<|qc T.ke (mG T)<|aj (hV<|aV (aV (cF K<|qv 0)<|JX (cF K<|qv 0)<|qv 1)<|qv 2)<|aj (cF K<|qv 0) az))),?_]
 intro E A _ zy;let#[_,f,m,n,M,S,mk,k,c,_,rfl,u,G,C,B,o,q]:=zy;rfl';have b:=ð G.pos;by_cases g:(k:Int)=(c:Int)
 .rw[av4<|av6 g];have e:hZ m M S c k=1:=by unfold hZ;rw[show k=c by omega,Lp.jl o,ý,Ć];show Ŝ _ λz=>b<|ĥ.mp z
  rw[e] at q;show q _
 rw[av3<|by simpa using g];simp only[iW,gU,gK];show qq T<|Ba ?_;by_cases h:(k:Int)∈(cw m n M S mk).so
 .rw[av6 h];rfl';show oz T<|qq T ?_;have D:(cw m n M S mk).so.length=m:=by change ((É m).map _).length=m;rw[Å,Û]
  have hm:=u.hm;show#[f,(cw m n M S mk).so,rfl,_,rfl,h,⋯,?_];have l:(cw m n M S mk).so.idxOf (k:Int)<m:=by have:=Τ.mpr h;omega
  have r:(cw m n M S mk).so[(cw m n M S mk).so.idxOf (k:Int)]?=À (k:Int):=by
   have s:(cw m n M S mk).so.idxOf (k:Int)<(cw m n M S mk).so.length:=⋯
   rw[Ñ s];show av9 À (by simpa using ae6 s)
  generalize (cw m n M S mk).so.idxOf (k:Int)=j at l r;rw[ya l] at r;have v:S j=k:=ϒ<|Ø r;rw[gT,gS];show dE _ _ _ (eN<|sx l) ?_;rw[hG,gT,gS];show dE _ _ `eP (eN (by rw[Í,ì ⋯];rfl)) ?_;rfl';show rV T ?_;show#[rfl,-Lp.tt m M S j c,Lp.dd m M S,rfl,b,Ï (u.d S G.lt) ⋯,λJ=>#[iG _,?_]];have e:hZ m M S c k=Ó (-Lp.tt m M S j c) `do:=by unfold hZ;rw[<- v,Lp.fW b l<|o j l]
  rw[<- e];show q _
 .rw[av7 h];rfl';have e:hZ m M S c k=0:=by unfold hZ;rw[Lp.cc (λi y x=>h<|Ed.mpr #[i,y,x]) (λz=>g<|by rw[z]),ĩ]
  rw[e] at q;show q _
abbrev jk(b:Int)(c:Rat):Int:=b.fdiv (gd b (c.den:Int))*(c.den:Int)
abbrev bF(cs:aL):Int:=cs.foldl jk 1
def YO{b:Int}(i:0<b)(c:Rat):jk b c=((Int.lcm b (c.den:Int):Nat):Int):=by
 have hd:(0:Int)<(c.den:Int):=ľ.mpr c.den_pos;have d:=oC (a:=b) (b:=(c.den:Int))<|ð hd;let#[x,f]:=xg b (c.den:Int);have e:b.fdiv (gd b (c.den:Int))=x:=by
  have:=ĝ (a:=gd b (c.den:Int)) x<|ð d;rwa[<- f] at this
 unfold jk;rw[e];have h:=Int.gcd_mul_lcm b (c.den:Int);have g:gd b (c.den:Int)*((Int.lcm b (c.den:Int):Nat):Int)=b*(c.den:Int):=by
  unfold gd;rw[<- ϫ,h,ϫ,ar8<|ĵ i,ar8<|ĵ hd]
 apply Ĭ (ð d);rw[g]
 conv=>rhs;lhs;rw[f]
 grind
def eE:∀(cs:aL)(b:Int),0<b->0<cs.foldl jk b/\b ∣ cs.foldl jk b/\(∀c∈cs,(c.den:Int) ∣ cs.foldl jk b)/\∀X:Nat,b ∣ (X:Int)->(∀c∈cs,(c.den:Int) ∣ (X:Int))->cs.foldl jk b ∣ (X:Int)
 |[],b,hb=>#[hb,ap0 _,λc m=>(nomatch m),λX h _=>h]
 |c::cs,b,hb=>by
  have hd:(0:Int)<(c.den:Int):=ľ.mpr c.den_pos;have a:=YO hb c;have i:0<jk b c:=by rw[a];show ľ.mpr<|Int.lcm_pos (ð hb)<|ð hd
  let#[j,f,l,n]:=eE cs (jk b c) i;show#[j,ũ (by rw[a];show Int.dvd_lcm_left _ _) f,λd m=>?_,λX g e=>?_]
  .rcases ã.mp m with rfl |m
   .show ũ (by rw[a];show Int.dvd_lcm_right _ _) f
   .show l d m
  .show n X ?_ λd m=>e d<|.tail _ m
   rw[a];show Ĵ.mpr<|Int.lcm_dvd g<|e c<|.head _
def ko{a:Int}{X:Nat}(h:a ∣ (X:Int))(d:0<X):bi a<=bi (X:Int):=by
 have b:a.natAbs<=X:=ae8 d<|ϝ.mpr h;show jH<|ġ b ?_;have:=lq (x:=(X:Int))<|Î _;rwa[ė] at this
abbrev vr(cs:aL)(X:Nat):Prop:=0<X/\(∀c∈cs,(c.den:Int) ∣ (X:Int))/\bi (X:Int)<=3000
inductive oW(xs:ag)(Q:Tr->aA):Prop
 |mk(_:↑xs=1)(f:Fl)(cs:aL)(X:Nat)(_:Fp f)(_:xs=[.af f ↥cs])(_:vr cs X)(_:∀j,Q (.int (bF cs)) j):oW xs Q
def FW{z:Bool}:aK P w K mg base bM 2 T.tH.a T.tH.d ["fractions"] (bU K z 0 1 oW):=by
 show cu T.tH.F Oh rfl ∎ ?_
 intros
 show#[_,(aM (bN 1 aw)
  (aM (gI (fL<|qv 0) (c7 2)<|aY<|bN 1<|cP (gv (qv 1)<|qc T.tG (FI T)<|aj (qv 1)<|aj (aV (qv 2) aw) az)<|aV (qv 2) aw)
  (aY<|bJ<|qv 1))),?_]
 intro E A _ zy;let#[_,f,b,X,_,rfl,#[h,hd,C],q]:=zy;rfl';show Loop.map b ae.t (λi j=>∃y,j=[.af f ↥b,.int<|bF<|b.take i,y]) #[_,rfl] ?_ ?_
 .rintro i c j hc ⟨y,rfl⟩;have m:=Ð hc;let#[p1,_,_,v]:=eE (b.take i) 1 ∎;have o:=v X (Λ _) λc m=>hd c<|ar4 m
  have g:(0:Int)<(c.den:Int):=ľ.mpr c.den_pos;have B:=ko o h;have r:=ko (hd c m) h;have e:bF (b.take<|i+1)=jk (bF<|b.take i) c:=by
   unfold bF;rw[ĕ,hc,au6];rfl
  rw[e];change (_:Prop);rfl';show#[rfl,bF<|b.take i,(c.den:Int),rfl,ĵ p1,ĵ g,λ_=>?_];rfl';have D:=B7 (a:=bF<|b.take i) (ð g) r;show#[CP (ð<|oC<|ð g) ⋯,d9 (n:=6001) (m:=3000) ?_ ⋯ ⋯,_,rfl];let#[x,l]:=xg (bF<|b.take i) (c.den:Int);have u:(bF<|b.take i).fdiv (gd (bF<|b.take i) (c.den:Int))=x:=by
   have:=ĝ (a:=gd (bF<|b.take i) (c.den:Int)) x<|ð<|oC<|ð g;rwa[<- l] at this
  rw[u];have s:x ∣ (X:Int):=ũ (show x ∣ bF (b.take i) by rw[l];show Ϣ _ _) o;have:=ko s h;omega
 .rintro j ⟨y,rfl⟩;rfl';rw[Ġ];show q _
abbrev dQ(b:Int)(c:Rat):Int:=c.num*b.fdiv (c.den:Int)
inductive jW(xs:ag)(Q:Tr->aA):Prop
 |mk(_:↑xs=2)(f:Fl)(cs:aL)(X:Nat)(_:Fp f)(_:xs=[.af f ↥cs,.int (bF cs)])(_:vr cs X)(_:↑cs<=100)(_:∀c∈cs,bs c<=3000)(_:∀j,Q (.af .o ((cs.map (dQ (bF cs))).map ae.t)) j):jW xs Q
def FX{z:Bool}:aK P w K mg base bM 1 T.tI.a T.tI.d ["fractions","bottom"] (bU K z 0 2 jW):=by
 show cu T.tI.F Oi rfl ∎ ?_
 intros
 show#[_,(aY<|bJ<|fT ["fraction","bottom"] [Æ,À 1] (fL<|qv 0) (cT 0) (λ_ _ _ _ _=>(cP (aV (qv 0) aw)<|gv (qv 1)<|aV (qv 0) aw))),?_];intro D u _ zy;let#[_,f,b,X,_,rfl,#[g,hd,B],C,o,q]:=zy;rfl';show a7.map b _ (dQ<|bF b) ⋯ (λc m R l=>?_) #[qF _,q _];rfl';have e:(0:Int)<(c.den:Int):=ľ.mpr c.den_pos;let#[p1,_,p3,r]:=eE b 1 ∎;have s:=r X (Λ _) hd;have v:=ko (hd c m) g;have A:=o c m;have y:=iB c;show#[CP (ð e) ⋯,d9 (n:=3000) (m:=3000) ⋯ ?_ ⋯,l];let#[x,h]:=p3 c m;have j:(bF b).fdiv (c.den:Int)=x:=by
  have:=ĝ (a:=(c.den:Int)) x<|ð e;rwa[<- h] at this
 rw[j];have i:x ∣ (X:Int):=ũ (show x ∣ b.foldl jk 1 by rw[h];show Ϣ _ _) s;have:=ko i g;omega
def u4{i j:Int}(h:i.natAbs<1000)(h':j.natAbs<1000):nh i j:=.inr #[10,∎,⋯,⋯]
abbrev wq(fs:bq)(rs:av)(us:ah):Prop:=fs.lookup ("rows":Str)=À (Tr.af .f ↥rs)/\fs.lookup ("unknowns":Str)=À (Tr.af .f ↥us)
def ju(f:Fl)(S:ip):wq (ib T f S) S.rs S.us:=#[gm,cL gm]
def yf(f:Fl)(rs:av)(us:ah)(sc:aG):wq (l9 f rs us sc) rs us:=#[gm,cL gm]
def BC{f:Fl}[h:Fp f](c:ai)(fs:bq):aO `aK=.ins f c fs:=by cases h<;>rfl
def CT(f:Fl)(c:ai)(fs:bq)(Q:aB):pV (À<|.ins f c fs) Q=Q `aK:=rfl
inductive lD(T:Tx w K mg)(xs:ag)(Q:Tr->aA):Prop
 |mk(_:↑xs=1)(f:Fl)(fs:bq)(rs:av)(us:ah)(_:Fp f)(_:xs=[.ins f T.aah fs])(_:wq fs rs us)(_:↑rs<=100)(_:∀j,Q (.int ((↑us+2*↑rs:Nat):Int)) j):lD T xs Q
def Ov{z:Bool}:aK P w K mg base bM 1 T.vN.a T.vN.d ["self"] (bU K z 0 1<|lD T):=by
 show cu T.vN.F Oo rfl ∎ ?_
 intros
 show#[_,(aY<|bJ<|eD (dZ gH gD T.gF<|aj (cF K<|qv 0) az)<|cP aw<|dZ gH gD T.gF<|aj (cF K<|qv 0) az),?_];intro g b _ zy;let#[_,f,fs,rs,us,_,rfl,h,e,q]:=zy;rfl';simp only[BC,CT];show iT #[T.gh,T.rC] h.2 ?_;rfl';show iT #[T.gh,T.tF] h.1 ?_;rfl';show#[u4 ∎ ⋯,?_];rw[show (↑us:Int)+2*(↑rs:Int)=((↑us+2*↑rs:Nat):Int) by omega];show q _
inductive lB(T:Tx w K mg)(d:Nat)(xs:ag)(Q:Tr->aA):Prop
 |mk(_:↑xs=2)(f:Fl)(fs:bq)(rs:av)(us:ah)(i:Nat)(_:Fp f)(_:xs=[.ins f T.aah fs,.int i])(_:wq fs rs us)(_:i<=100)(_:∀j,Q (.int ((↑us+2*i+d:Nat):Int)) j):lB T d xs Q
def wV{z:Bool}:aK P w K mg base bM 1 T.p6.a T.p6.d ["self","number"] (bU K z 0 2<|lB T 0):=by
 show cu T.p6.F OL rfl ∎ ?_
 intros
 show#[_,(aY<|bJ<|eD (dZ gH gD T.gF<|aj (cF K<|qv 0) az)<|cP aw<|qv 1),?_];intro g b _ zy;let#[_,f,fs,rs,us,i,_,rfl,h,e,q]:=zy;rfl';simp only[BC,CT];show iT #[T.gh,T.rC] h.2 ?_;rfl';show#[u4 ∎ ⋯,?_];rw[show (↑us:Int)+2*(i:Int)=((↑us+2*i+0:Nat):Int) by omega];show q _
def wW{z:Bool}:aK P w K mg base bM 1 T.p9.a T.p9.d ["self","number"] (bU K z 0 2<|lB T 1):=by
 show cu T.p9.F OM rfl ∎ ?_
 intros
 show#[_,(aY<|bJ<|eD (eD (dZ gH gD T.gF<|aj (cF K<|qv 0) az)<|cP aw<|qv 1) aw),?_];intro g b _ zy;let#[_,f,fs,rs,us,i,_,rfl,h,e,q]:=zy;rfl';simp only[BC,CT];show iT #[T.gh,T.rC] h.2 ?_;rfl';show#[u4 ∎ ⋯,?_];rw[show (↑us:Int)+2*(i:Int)+1=((↑us+2*i+1:Nat):Int) by omega];show q _
def YP{j:Type}(A:List j)(x:j):jG (A++[x]) Æ (À (-1))=A:=by
 have a:HT.eY (A++[x]).length 0 Æ=0:=rfl;have b:HT.eY (A++[x]).length (A++[x]).length (À (-1))=↑A:=by unfold HT.eY;simp;omega
 unfold jG;rw[a,b];simp
def UU{j:Type}(A:List j)(x:j):jG (A++[x]) (À (-1)) Æ=[x]:=by
 have a:HT.eY (A++[x]).length 0 (À (-1))=↑A:=by unfold HT.eY;simp;omega
 have b:HT.eY (A++[x]).length (A++[x]).length Æ=↑A+1:=by unfold HT.eY;simp
 unfold jG;rw[a,b];simp
abbrev d7(us:ah)(o:bR):aL:=us.map λu=>(bO o.1 u).getD 0
abbrev cO(us:ah)(o:bR):aL:=d7 us o++[o.2.2.1]
abbrev bA(us:ah)(o:bR):Int:=bF<|cO us o
abbrev fE(us:ah)(o:bR):aG:=(d7 us o).map<|dQ<|bA us o
abbrev cX(us:ah)(o:bR):Int:=dQ `au o.2.2.1
abbrev A0(U R i:Nat)(E:aG)(x:Int)(k:Nat):Int:=if k<U then E.getD k 0 else if k=U+2*i then 1 else if k=U+2*i+1 then -1 else if k=U+2*R then x else 0
abbrev mE(us:ah)(R i:Nat)(o:bR):aG:=(É<|↑us+2*R+1).map<|A0 ↑us R i (fE us o)<|cX us o
abbrev yz(us:ah)(o:bR):Prop:=(∃X,vr (cO us o) X)/\∀c∈cO us o,bs c<=3000
def Z0{U R i:Nat}{E:aG}{x:Int}(f:↑E=U)(g:i<R):((E++Ë (2*R) 0++[x]).set (U+2*i+0) 1).set (U+2*i+1) (-1)=(É<|U+2*R+1).map (A0 U R i E x):=by
 apply Ŏ;intro k;rw[Μ,Μ,û,Í,Ù,Ù,à,f];by_cases h:k<U+2*R+1
 .rw[ì h,Ž];unfold A0;by_cases d:k<U
  .rw[av3 ⋯,av3 ⋯,ď (by rw[Ù,à];omega),ď ⋯,av4 d,Ä,Ñ ⋯];rfl
  .rw[av3 d];by_cases e:k=U+2*i
   .rw[av3 ⋯,av4 ⋯,av4 (by simp;omega),av4 e]
   .rw[av3 e];by_cases a:k=U+2*i+1
    .rw[av4 a.symm,av4 (by simp;omega),av4 a]
    .rw[av3 ⋯,av3 ⋯,av3 a];by_cases b:k=U+2*R
     .rw[av4 b,Ĕ (by rw[Ù,à];omega),Ù,à,b,show U+2*R - (↑E+2*R)=0 by omega];rfl
     .rw[av3 b,ď (by rw[Ù,à];omega),Ĕ ⋯,İ,av4 ⋯]
 .rw[ó (show (É<|U+2*R+1).length<=k by rw[Û];omega),av3 ⋯,av3 ⋯,ó (by rw[Ù,Ù,à,f];simp;omega)];rfl
inductive lL(T:Tx w K mg)(xs:ag)(Q:Tr->aA):Prop
 |mk(_:↑xs=3)(rs:av)(us:ah)(sc:aG)(i:Nat)(o:bR)(_:xs=[i3 T .o rs us sc,.int i,ae.t o])(_:yz us o)(_:↑rs<=16)(_:↑us<=10)(_:↑sc<=100)(_:i<↑rs)(_:∀j:ag,j[0]?=À (i3 T .o rs us (sc ++ [bA us o]))->Q (.af .o ((mE us ↑rs i o).map ae.t)) j):lL T xs Q
def Ow{z:Bool}:aK P w K mg base bM 3 T.v8.a T.v8.d ["self","number","one"] (bU K z 3 3<|lL T):=by
 show cu T.v8.F Oq rfl ∎ ?_
 intros
 show#[_,(aM (bN 3<|eD (fT ["unknown","one"] [Æ,À 2] (fL<|cF K<|qv 0) (cT 0) (λ_ _ _ _ _=>(Bv (aV (qv 1) aw) (qv 0)<|jJ [0,1] T.jC T.jD)))<|fB<|aj (aV (qv 2) aw) az)
  (aM (bN 4<|qc T.tH (FW T)<|aj (qv 3) az)
  (aM (bN 5<|qc T.tI (FX T)<|aj (qv 3)<|aj (qv 4) az)
  (aM (jh 6<|eD (eD (CN (qv 5) La<|yd<|hV aw)<|xQ (fB<|aj aw az)<|cP aw<|dZ gH gD T.gF<|aj (cF K<|qv 0) az)<|CN (qv 5) (yd<|hV aw) La)
  (aM (qB (dJ 6) (fq (fK T T.p6<|wV T) `cV<|aj (qv 1) az) aw)
  (aM (qB (dJ 6) (fq (fK T T.p9<|wW T) `cV<|aj (qv 1) az)<|hV aw)
  (aM (qK (sE<|dJ 0)<|qv 4)
  (aY<|mO<|mL 6)))))))),?_]
 intro C v _ zy;let#[_,rs,us,sc,i,o,rfl,s,e,g,A,r,q]:=zy;rfl';simp only[Lc,CU,ea,eu,CV];show P0 T ?_;rfl';show a7.map us _ (λu=>(bO o.1 u).getD 0) ⋯ (λx B R m=>?_) ?_
 .rfl';show m
 let#[#[X,b],n]:=s;have y:(cO us o).length=↑us+1:=by unfold cO d7;rw[Ù,Å];rfl
 rfl';show#[⋯,rfl,.f,cO us o,X,inferInstance,rfl,b,λ_=>?_];rfl';show#[rfl,.f,cO us o,X,inferInstance,rfl,b,⋯,n,λ_=>?_];rw[show (cO us o).map (dQ<|bF<|cO us o)=fE us o++[cX us o] by unfold cO fE cX bA;rw[ä];rfl];rfl';rw[YP,UU];show YF T ?_;rfl';have j:(fE us o).length=↑us:=by unfold fE d7;rw[Å,Å]
 have h:af4 ae.t `aR++Ë (2*(↑rs:Int)).toNat (Tr.int 0)++[Tr.int<|cX us o]=(fE us o++Ë (2*↑rs) 0++[cX us o]).map ae.t:=by
  rw[ä,ä,ύ,show (2*(↑rs:Int)).toNat=2*↑rs by omega];rfl
 rw[h];show#[u4 ∎ ⋯,rfl,⋯,⋯,by rw[à];omega,by rw[Ù,Å,à];omega,ll _,uO T #[rfl,.l Ç,_,rs,us,i,inferInstance,rfl,yf _ _ _ _,⋯,λ_=>oK (by simp;omega) ?_]];show uO T #[rfl,.l Ç,_,rs,us,i,inferInstance,rfl,yf _ _ _ _,⋯,λ_=>oK (by simp;omega) ?_];rw[show Tr.int 1=ae.t (1:Int) from rfl,show Tr.int (-1)=ae.t (-1:Int) from rfl,<- ai9,<- ai9,Z0 j r];show xP rfl #[T.gh,T.yG] (cL<|cL gm) ?_;rfl';rw[ZW];show#[⋯,q _ rfl]
def Aj{D:ai->Nat->Prop}{m:Str}{i:Nat}{hs:bC}{bf:Nat->gR}{b:cQ}{j:ag}{Q:Tr->aA}{t:Tr}(h:j[i]?=À t)(d:t≠.ak)(q:jg D m t λc=>b j λf=>bf c (cV (t::f))<|λx a=>pV a[0]? λu=>cZ u=Â/\k4 hs 1 a (j.set i u) λe=>Q x e):tV K D m i [] hs bf b j Q:=by
 unfold tV;rw[h];cases t with
 |ak=>show av5 rfl d
 |_=>show#[trivial,q]
def qN{rs:List j}{i:Nat}{p:j×Nat}(h:rs.zipIdx[i]?=À p):rs[i]?=À p.1/\p.2=i:=by
 rw[Ū] at h;cases e:rs[i]? with
 |none=>rw[e] at h;cases h
 |some o=>rw[e] at h;cases h;show#[rfl,by simp]
abbrev ui(us:ah)(R i:Nat)(o:bR):aG:=if 0<=cX us o then mE us R i o else (mE us R i o).map λx=>-x
abbrev oj(U i:Nat)(x:Int):Nat:=if 0<=x then U+2*i else U+2*i+1
abbrev nV(us:ah)(R:Nat)(ps:List (bR×Nat)):List (aG):=ps.map λp=>ui us R p.2 p.1
abbrev pL(us:ah)(ps:List (bR×Nat)):aG:=ps.map λp=>((oj ↑us p.2 (cX us p.1):Nat):Int)
abbrev KJ(rs:av)(us:ah):iq:=#[nV us ↑rs rs.zipIdx,pL us rs.zipIdx,1,[]]
abbrev ym(rs:av)(us:ah):ip:=#[rs,us,rs.map<|bA us,[],KJ rs us]
structure sU(rs:av)(us:ah):Prop where
 r:↑rs<=16
 u:↑us<=10
 o:∀o∈rs,yz us o
def TZ(us:ah)(R i:Nat)(o:bR)(a:i<R):cW (mE us R i o) (-1)=À `at:=by
 unfold mE;rw[CW];unfold A0;rw[av3 ⋯,av3 ⋯,av3 ⋯,av4 rfl]
inductive lX(T:Tx w K mg)(xs:ag)(Q:Tr->aA):Prop
 |mk(_:↑xs=3)(f g:Fl)(rs:av)(us:ah)(_:Fp f)(_:Fp g)(_:xs=[.ins .o T.aah [],.af f ↥rs,.af g ↥us])(_:sU rs us)(_:∀j:ag,j[0]?=À (cN T .o (ym rs us))->Q .aN j):lX T xs Q
def N8{z:Bool}:aK P w K mg base bM 4 T.vM.a T.vM.d ["self","rows","unknowns"] (bU K z 1 3<|lX T):=by
 show cu T.vM.F N4 rfl ∎ ?_
 intros
 show#[_,(aM (xl `cL<|mK (oD rfl) oy T.jB<|aj (qv 1) az)
  (aM (xl `cL<|mK (oD rfl) oy T.jB<|aj (qv 2) az)
  (aM (qC `cL<|fB az)
  (aM (qC `cL<|fB az)
  (aM (jh 3<|fB az)
  (aM (jh 4<|fB az)
  (aM (gI (qO T.p0<|aj (cF K<|qv 0) az) (iA (n:=2) rfl<|dR (c7 5)<|dR (c7 6) ir) (aM (xk 7<|sf (dJ 0) (fK T T.v8<|Ow T)<|nP (qv 5)<|nP (qv 6) sj)
  (aM (bN 8<|fJ uT uC (aV (qv 7)<|hV aw) aw)
  (aM (qK (dJ 3)<|xZ (gw<|qv 8) (qv 7)<|fT ["entry"] [Æ] (fL<|qv 7) (cT 0) (λ_ _ _ _ _=>(hV<|qv 0)))
  (aY<|qK (dJ 4)<|xZ (gw<|qv 8) (fq (fK T T.p6<|wV T) (qv 0)<|aj (qv 5) az)<|fq (fK T T.p9<|wW T) (qv 0)<|aj (qv 5) az)))))
  (aY<|qC (dJ 0)<|JM T.vX (N7 T) T.MU<|QA.aC<|aj (qv 3)<|aj (qv 4) az)))))))),?_]
 intro J G _ zy;let#[_,f,g,rs,us,_,_,rfl,s,q]:=zy;rfl';show#[#[T.gh,T.tF],∎,#[T.gh,T.rC],∎,#[T.gh,T.yG],?_]
 (repeat first |rw[qp] |rw[oF])
 show#[(show 2<900 by decide),#[T.gh,T.yH],?_]
 (repeat first |rw[qp] |rw[oF])
 show#[(show 3<900 by decide),iT #[T.gh,T.tF] gm ?_];rfl';show Loop.map rs.zipIdx _ (λi j=>∃a b c d,j=[i3 T .o rs us<|(rs.take i).map<|bA us,.af f ↥rs,.af g ↥us,.af .o<|(nV us ↑rs<|rs.zipIdx.take i).map ae.t,.af .o<|(pL us<|rs.zipIdx.take i).map ae.t,a,b,c,d]) #[_,_,_,_,rfl] ?_ ?_
 .rintro i ⟨o,i'⟩ j hi ⟨a,b,c,d,rfl⟩;let#[A,B]:=qN hi;dsimp only at A B;subst B;have y:i'<↑rs:=(Á.mp A).1;have v:=s.r;have aS:=s.o o<|Ð A;have E:rs.zipIdx.take (i'+1)=rs.zipIdx.take i'++[(o,i')]:=by rw[ĕ,hi];rfl
  rfl';show Aj rfl (by intro z;cases z)<|uO T ?_;rfl';simp only[CU,eu];show#[rfl,rs,us,_,i',o,rfl,aS,v,s.u,by rw[Å,ĭ];omega,y,λj e=>?_];rw[e,CV];show#[Ml _ _ _ _,?_];have rep:(rs.take<|i'+1).map (bA us)=(rs.take i').map (bA us)++[bA us o]:=by rw[ĕ,A,ä];rfl
  have C:nV us ↑rs (rs.zipIdx.take i'++[(o,i')])=nV us ↑rs `ef++[ui us ↑rs i' o]:=by unfold nV;rw[ä];rfl
  have D:pL us (rs.zipIdx.take i'++[(o,i')])=pL us `ef++[((oj ↑us i' `at:Nat):Int)]:=by unfold pL;rw[ä];rfl
  have H:(nV us ↑rs<|rs.zipIdx.take i').length<=16:=by unfold nV;rw[Å,ĭ];omega
  have I:(pL us<|rs.zipIdx.take i').length<=16:=by unfold pL;rw[Å,ĭ];omega
  rfl';show dE _ _ `at (TZ _ _ _ _ y) ?_;rw[rep,E,C,D];rfl';simp only[Lc,ea,CV,CU,eu];by_cases h:0<=cX us o
  .rw[av4<|av6 h,av4<|av6 h,show ui us ↑rs i' o=mE us ↑rs i' o from av4 h,show oj ↑us i' (cX us o)=↑us+2*i'+0 from av4 h,ä,ä];show#[⋯,uO T #[rfl,.l Ç,_,rs,us,i',inferInstance,rfl,yf _ _ _ _,⋯,λ_=>#[rfl,⋯,_,_,_,_,rfl]]]
  .rw[av3<|by simpa using h];show a7.map (mE us ↑rs i' o) _ (λx=>-x) (by unfold mE;simp;have:=s.u;omega) (λc m R s=>?_) #[kz _,⋯,?_]
   .rfl';show s
   .rw[fS,av3 (by simpa using h),show ui us ↑rs i' o=(mE us ↑rs i' o).map (λx=>-x) from av3 h,show oj ↑us i' `at=↑us+2*i'+1 from av3 h,ä,ä];show uO T #[rfl,.l Ç,_,rs,us,i',inferInstance,rfl,yf _ _ _ _,⋯,λ_=>#[rfl,⋯,_,_,_,_,rfl]]
 .rintro j ⟨a,b,c,d,rfl⟩;rw[Ĩ,show rs.zipIdx.take ↑rs=rs.zipIdx from by rw[<- Ĩ (l:=rs),Ġ],Ġ];rfl';show#[rfl,.l Ç,.l Ç,_,_,inferInstance,inferInstance,rfl,by unfold nV;rw[Å,Ĩ];have:=s.r;omega,λj e=>#[rfl,?_]];rw[e];show#[sF T _,Ld T _,?_];show#[#[T.gh,T.vY],show 4<900 by decide,q _ ?_];unfold l9
  (repeat first |rw[qp] |rw[oF])
  rfl
abbrev sgn(x:Int):Int:=if 0<=x then 1 else -1
abbrev Mx(rs:av)(us:ah)(i k:Nat):Int:=match rs[i]? with
 |some o=>sgn `at * A0 ↑us ↑rs i `aR `at k
 |none=>0
abbrev S0(rs:av)(us:ah)(i:Nat):Nat:=match rs[i]? with
 |some o=>oj ↑us i<|cX us o
 |none=>0
abbrev aJ(rs:av)(us:ah):Nat:=↑us+2*↑rs
abbrev fG(rs:av)(us:ah)(ss:cJ)(S:Nat->Nat)(mk:a9):ip:=#[rs,us,rs.map<|bA us,ss,cw ↑rs (aJ rs us) (Mx rs us) S mk]
section
variable{rs:av}{us:ah}
def qG{i:Nat}{o:bR}(h:rs[i]?=À o)(k:Nat):Mx rs us i k=sgn `at*A0 ↑us ↑rs i `aR `at k:=by unfold Mx;rw[h]
def Cg{i:Nat}{o:bR}(h:rs[i]?=À o):S0 rs us i=oj ↑us i `at:=by unfold S0;rw[h]
def mQ{i:Nat}(h:i<↑rs):∃o,rs[i]?=À o:=#[_,Ñ h]
def Mq{i:Nat}(h:i<↑rs):S0 rs us i<aJ rs us:=by
 let#[o,a]:=mQ h;rw[Cg a];unfold oj aJ;split<;>omega
def zm:Lp.Un ↑rs `aa `cW:=by
 intro i j d f;let#[o,b]:=mQ d;let#[p,a]:=mQ f;rw[qG b,Cg a];unfold oj A0;by_cases e:i=j
 .subst e;rw[b] at a;cases a;rw[av4 rfl];unfold sgn;split
  .rw[av3 ⋯,av4 rfl];rfl
  .rw[av3 ⋯,av3 ⋯,av4 rfl];rfl
 .rw[av3 e];split
  .rw[av3 ⋯,av3 ⋯,av3 ⋯,av3 ⋯,ï]
  .rw[av3 ⋯,av3 ⋯,av3 ⋯,av3 ⋯,ï]
def Mr{i:Nat}(h:i<↑rs):0<=Mx rs us i `ad:=by
 let#[o,a]:=mQ h;rw[qG a];unfold A0 aJ;rw[av3 ⋯,av3 ⋯,av3 ⋯,av4 rfl];unfold sgn;split<;>omega
def Ms:Lp.Gd ↑rs `ad `aa `cW:=zm.gd (λ_ h=>Mq h) λ_ h=>Mr h
def Z1:ym rs us=fG rs us [] `cW []:=by
 unfold ym fG KJ cw;rw[zm.dd];congr 2
 .unfold nV yb;apply Ŏ;intro i;rw[Í,Í,Ū];by_cases h:i<↑rs
  .obtain⟨o,ho⟩:=mQ h;rw[ho,ì h];simp only[Ž,ap4];congr 1;have e:(É<|aJ rs us+1).map (Lp.tt ↑rs `aa `cW i)=(É<|aJ rs us+1).map (Mx rs us i):=Ī λk _=>zm.tt k h
   rw[e];unfold ui mE;split
   .rename_i hx;show Ī λk _=>?_
    rw[qG ho,show sgn `at=1 from av4 hx,ai8]
   .rename_i hx;rw[ù];show Ī λk _=>?_
    rw[qG ho,show sgn `at=-1 from av3 hx];change - _=_;omega
  .rw[ó (show ↑rs<=i by omega),ó (by rw[Û];omega)];rfl
 .unfold pL qZ;apply Ŏ;intro i;rw[Í,Í,Ū];by_cases h:i<↑rs
  .obtain⟨o,ho⟩:=mQ h;rw[ho,ì h];simp only[Ž,ap4];rw[Cg ho]
  .rw[ó (show ↑rs<=i by omega),ó (by rw[Û];omega)];rfl
end
def YQ{j:Type}(A:List j)(x y:j)(B:List j)(k:Nat)(h:↑A=k):(A++x::B).set k y=A++y::B:=by
 subst h;rw[List.set_append_right _ _<|Î _,ag7];rfl
abbrev cb(us:ah)(k:Int)(o:bR):Rat:=if o.2.2.2.1=k then (if o.2.1="most" then 0 else Ó o.2.2.2.2 `au) else 0
abbrev ca(us:ah)(k:Int)(o:bR):Rat:=if o.2.2.2.1=k then (if o.2.1="least" then 0 else Ó o.2.2.2.2 `au) else 0
abbrev bp(us:ah)(rs:av)(k:Int):aL:=Ë ↑us 0++rs.flatMap λo=>[cb us k o,ca us k o]
def Ai{j:Type}(f g:j->Rat)(xs:List j):(xs.flatMap λo=>[f o,g o]).length=2*↑xs:=by
 induction xs with
 |nil=>rfl
 |cons x xs a=>rw[au4,Ù,a];simp;omega
def Lh[ae j](A:List j)(x y:j)(B:List j)(k:Nat)(h:↑A=k):((A++x::B).map ae.t).set k (ae.t y)=(A++y::B).map ae.t:=by rw[<- ai9,YQ _ _ _ _ _ h]
def KP[ae j](A:List j)(x a y:j)(B:List j)(k:Nat)(h:↑A=k):((A++a::x::B).map ae.t).set (k+1) (ae.t y)=(A++a::y::B).map ae.t:=by
 have e:∀z:j,A++a::z::B=(A++[a])++z::B:=λz=>by rw[ă];rfl
 rw[e,e,Lh _ _ _ _ _ (by rw[Ù,h];rfl)]
inductive lV(T:Tx w K mg)(xs:ag)(Q:Tr->aA):Prop
 |mk(_:↑xs=2)(f:Fl)(rs:av)(us:ah)(ss:cJ)(S:Nat->Nat)(mk:a9)(k:Int)(_:Fp f)(_:xs=[cN T f (fG rs us ss S mk),.int k])(_:sU rs us)(_:∀o∈rs,0<bA us o/\bi (bA us o)<=3000)(_:∀j,Q (.af .o ((bp us rs k).map ae.t)) j):lV T xs Q
def N2{z:Bool}:aK P w K mg base bM 3 T.v9.a T.v9.d ["self","rank"] (bU K z 0 2<|lV T):=by
 show cu T.v9.F N0 rfl ∎ ?_
 intros
 show#[_,(aM (jh 2<|xQ (fB<|aj (jJ [0,1] T.jC T.jD) az)<|BL (fK T T.vN<|Ov T)<|qv 0)
  (aM (gI (qO T.p0<|aj (cF K<|qv 0) az) (iA (n:=2) rfl<|dR (c7 3)<|dR (c7 4) ir) (aY (cA (bY dN dO (aV (qv 4) aw)<|qv 1) (aM (bN 5<|qc T.ke (mG T)<|aj (aV (qv 4) aw)<|aj (aV (cF K<|qv 0)<|qv 3) az)
  (aM (cA (bY jj ja (aV (qv 4) aw) fo) (aY<|qB (dJ 2) (fq (fK T T.p6<|wV T) (qv 0)<|aj (qv 3) az)<|qv 5) cz)
  (aY<|cA (bY jj ja (aV (qv 4) aw) fo) (aY<|qB (dJ 2) (fq (fK T T.p9<|wW T) (qv 0)<|aj (qv 3) az)<|qv 5) cz))) cz)))
  (aY<|mO<|mL 2))),?_]
 intro N M _ zy;let#[_,f,rs,us,ss,S,mk,k,_,rfl,A,s,q]:=zy;have G:=A.r;have E:=A.u;rfl';simp only[fC,gJ,gU,jL,eL];show gE T #[rfl,f,_,rs,us,‹_›,rfl,ju T f _,⋯,λ_=>?_];rfl';have D:Ë ((↑us+2*↑rs:Nat):Int).toNat (ae.t (0:Rat))=(Ë ↑us (0:Rat)++((rs.take 0).flatMap λo=>[cb us k o,ca us k o])++Ë (2*(↑rs - 0)) 0).map ae.t:=by
  rw[ad4,List.flatMap_nil,Č,List.replicate_append_replicate,ύ,Ď];rfl
 rw[D];show#[rfl,⋯,⋯,ll _,xm T ?_];change jd (Pu.aC<|Tr.af .f ↥rs) _;rfl';show Loop.map rs.zipIdx _ (λi j=>∃a b c,j=[cN T f<|fG rs us ss S mk,.int k,.af .o<|(Ë ↑us (0:Rat)++((rs.take i).flatMap λo=>[cb us k o,ca us k o])++Ë (2*(↑rs - i)) 0).map ae.t,a,b,c]) #[_,_,_,rfl] ?_ ?_
 .rintro i ⟨o,i'⟩ j hi ⟨a,b,c,rfl⟩;let#[l,y]:=qN hi;dsimp only at l y;subst y;have H:i'<↑rs:=(Á.mp l).1;have J:rs.take (i'+1)=rs.take i'++[o]:=by rw[ĕ,l];rfl
  have g:(Ë ↑us (0:Rat)++((rs.take i').flatMap λo=>[cb us k o,ca us k o])).length=↑us+2*i':=by rw[Ù,à,Ai,ĭ];omega
  have B:Ë (2*(↑rs - i')) (0:Rat)=0::0::Ë (2*(↑rs - (i'+1))) 0:=by
   rw[show 2*(↑rs - i')=2*(↑rs - (i'+1))+1+1 by omega];rfl
  have C:Ë ↑us (0:Rat)++((rs.take<|i'+1).flatMap λo=>[cb us k o,ca us k o])++Ë (2*(↑rs - (i'+1))) 0=(Ë ↑us (0:Rat)++((rs.take i').flatMap λo=>[cb us k o,ca us k o]))++cb us k o::ca us k o::Ë (2*(↑rs - (i'+1))) 0:=by
   rw[J,List.flatMap_append,List.flatMap_singleton,<- ă,ă];rfl
  rw[B,C];generalize Ë ↑us (0:Rat)++((rs.take i').flatMap λo=>[cb us k o,ca us k o])=L at g ⊢;generalize Ë (2*(↑rs - (i'+1))) (0:Rat)=Z;rfl';by_cases h:o.2.2.2.1=k
  .rw[av4<|av6 h];simp only[fC,gJ,gU,jL,eL];show G0 T ?_;change iw (.af f<|(rs.map<|bA us).map ae.t) (.int i') _;rw[gT,gS];show dE _ _ `au (eN (by rw[Í,l];rfl)) ?_;rfl';show#[rfl,o.2.2.2.2,bA us o,rfl,ð (s o<|Ð l).1,by have:=(s o<|Ð l).2;omega,λ_=>?_];rfl';unfold cb ca;rw[av4 h,av4 h];have I:(↑us+2*i'+0:Nat)<((L++(0:Rat)::0::Z).map ae.t).length:=by rw[Å,Ù,g];simp
   have v:∀x:Rat,(↑us+2*i'+1:Nat)<((L++x::(0:Rat)::Z).map ae.t).length:=λx=>by rw[Å,Ù,g];simp
   by_cases m:o.2.1="most"
   .have e:¬ o.2.1="least":=by rw[m];decide +kernel
    rw[av4 m,av3 e,av3 (by simp[m]),av4<|by simp[e]];show gE T #[rfl,f,_,rs,us,i',‹_›,rfl,ju T f _,⋯,λ_=>oK (v 0) ?_];rw[KP _ _ _ _ _ _ g];show#[_,_,_,rfl]
   .rw[av3 m,av4<|by simp[m]];show gE T #[rfl,f,_,rs,us,i',‹_›,rfl,ju T f _,⋯,λ_=>oK I ?_];rw[Lh _ _ _ _ _ (show ↑L=↑us+2*i'+0 from g)];by_cases e:o.2.1="least"
    .rw[av4 e,av3<|by simp[e]];show#[_,_,_,rfl]
    .rw[av3 e,av4<|by simp[e]];show gE T #[rfl,f,_,rs,us,i',‹_›,rfl,ju T f _,⋯,λ_=>oK (v _) ?_];rw[KP _ _ _ _ _ _ g];show#[_,_,_,rfl]
  .rw[av3<|by simpa using h];unfold cb ca;rw[av3 h,av3 h];show#[_,_,_,rfl]
 .rintro j ⟨a,b,c,rfl⟩;rw[Ĩ,Ġ,ag7,Nat.mul_zero,List.replicate_zero,Č];rfl';show q _
abbrev b7(us:ah)(R:Nat)(ps:List (Str×Rat)):aL:=(us.map λx=>(bO ps x).getD 0)++Ë (2*R) 0
inductive jR(T:Tx w K mg)(xs:ag)(Q:Tr->aA):Prop
 |mk(_:↑xs=2)(f g:Fl)(rs:av)(us:ah)(ss:cJ)(S:Nat->Nat)(mk:a9)(ps:List (Str×Rat))(_:Fp f)(_:Fp g)(_:xs=[cN T f (fG rs us ss S mk),bP g ps])(_:sU rs us)(_:∀j,Q (.af .o ((b7 us ↑rs ps).map ae.t)) j):jR T xs Q
def Od{z:Bool}:aK P w K mg base bM 2 T.wa.a T.wa.d ["self","parts"] (bU K z 0 2<|jR T):=by
 show cu T.wa.F Ob rfl ∎ ?_
 intros
 show#[_,(aM (se 2 ["unknown","parts"] [Æ,À 1] (fL<|cF K<|qv 0) (cT 0) (λ_ _ _ _ _=>(Bv `bK `cV<|jJ [0,1] T.jC T.jD)))
  (aY<|bJ<|eD (qv 2)<|xQ (fB<|aj (jJ [0,1] T.jC T.jD) az)<|cP aw<|dZ gH gD T.gF<|aj (cF K<|qv 0) az)),?_]
 intro n l _ zy;let#[_,f,g,rs,us,ss,S,mk,e,_,_,rfl,b,q]:=zy;have j:=b.r;have i:=b.u;rfl';simp only[fC,gJ,gU,jL,eL];show z7 T ?_;change jd (Tr.af .f ↥us) _;rfl';show a7.map us _ (λx=>(bO e x).getD 0) ⋯ (λx m R b=>?_) ?_
 .rfl';show b
 .rfl';show xm T ?_;change rO _ [Tr.af .f ↥rs] _;rfl';have h:af4 ae.t (us.map λx=>(bO e x).getD 0)++Ë (2*(↑rs:Int)).toNat (ae.t (0:Rat))=(b7 us ↑rs e).map ae.t:=by
   unfold b7;rw[ä,ύ,show (2*(↑rs:Int)).toNat=2*↑rs by omega]
  rw[h];show#[u4 ∎ ⋯,rfl,⋯,⋯,by rw[à];omega,sD _,q _]
abbrev yt(rs:av)(us:ah)(S:Nat->Nat)(e:Nat)(f:Rat)(p:Str×Nat):Str×Rat:=(p.1,hZ ↑rs `aa S e p.2 / f)
abbrev K6(rs:av)(us:ah)(S:Nat->Nat)(e:Nat)(f:Rat):List (Str×Rat):=us.zipIdx.map<|yt rs us S e f
def Kf{rs:av}{us:ah}{S:Nat->Nat}{e k:Nat}(hz:Sz ↑rs `ad `aa)(G:Lp.Gd ↑rs `ad `aa S)(j:e<aJ rs us)(b:∀i,i<↑rs->S i≠e):bs (hZ ↑rs `aa S e k)<=3000:=by
 have a:=ð G.pos;unfold hZ;by_cases g:k=e
 .rw[g,Lp.jl b];show qm a (hz.d S G.lt)<|hz.d S G.lt
 .by_cases h:∃i,i<↑rs/\S i=k
  .obtain⟨i,f,rfl⟩:=h;rw[Lp.fW a f<|b i f];show qm a (by unfold bi;rw[Φ];show hz.t S i e G.lt ⋯)<|hz.d S G.lt
  .rw[Lp.cc (λi f x=>h #[i,f,x]) g,ĩ,kx];decide
def z9{us:ah}(h:us.Nodup){i:Nat}{u:Str}(e:us[i]?=À u):¬ u∈us.take i:=λm=>by
 ∎;let#[j,f,b]:=ę.mp m;let#[d,a]:=Á.mp e;∎;show (ŵ.mp h) j i ⋯ d ⋯ (b.trans a.symm)
def ku[ae j](m:List (Str×j)):mX `ar=Â:=by
 have:=lg<|m.map λp=>((Sum.inr p.1:aI),p.2);rw[ù] at this;show this
inductive pA(T:Tx w K mg)(xs:ag)(Q:Tr->aA):Prop
 |mk(_:↑xs=3)(f:Fl)(rs:av)(us:ah)(ss:cJ)(S:Nat->Nat)(mk:a9)(e:Nat)(x:Rat)(_:Fp f)(_:xs=[cN T f (fG rs us ss S mk),.int e,ae.t x])(_:Sz ↑rs (aJ rs us) (Mx rs us))(_:Lp.Gd ↑rs (aJ rs us) (Mx rs us) S)(_:us.Nodup)(_:↑us<=50)(_:e<aJ rs us)(_:∀i,i<↑rs->S i ≠ e)(_:x ≠ 0)(_:bs x<=4000)(_:∀j,Q (.aP .o ((K6 rs us S e x).map 1e1)) j):pA T xs Q
abbrev bI(cs:aL):aG:=cs.map<|dQ<|bF cs
structure gO(rs:av)(us:ah)(cs:aL):Prop where
 l:↑cs=aJ rs us
 x:∃X,vr cs X
 b:∀c∈cs,bs c<=3000
 n:∀c∈bI cs,bi c<=3000
def gO.c{rs:av}{us:ah}{cs:aL}(h:gO rs us cs):qk `dp `ad:=#[by unfold bI;rw[Å];show h.l,h.n]
def KQ{cs:aL}(b:∀c∈cs,0<=c)(k:Nat):0<=cf `dp k:=by
 unfold cf bI;rw[Ä,Í];cases e:cs[k]? with
 |none=>show Int.le_refl _
 |some c=>
  have p:=b c<|Ð e;have a:=(eE cs 1 ∎).1;change 0<=dQ (bF cs) c;unfold dQ;show ϓ (Θ.mpr p)<|Int.fdiv_nonneg (ĵ a)<|ae9 _
def Z2{m n:Nat}{M:aQ}{S:Nat->Nat}{c:Nat->Int}{sh:Nat->Prop}{e:Nat}(G:Lp.Gd m n M S)(b:∀k,0<=c k)(a:c n=0)(E:Lp.Ent m n M c sh S e)(h:∀i,i<m->Lp.tt m M S i e<=0):False:=by
 have ne:∀i,i<m->S i≠e:=λi d q=>by have:=E.2.1;rw[<- q,Lp.c8 d] at this;omega
 let#[g,_,_,r4]:=Lp.Km G E.1 ne h a;have:0<=Lp.sm n λk=>c k*Lp.dr m M S e k:=Lp.dW λk f=>ϓ (b k)<|g k f
 have:=E.2.1;omega
def qE{ns:aG}{n:Nat}(h:↑ns=n):cf ns n=0:=by unfold cf;rw[Ä,ó ⋯];rfl
abbrev d8(rs:av)(us:ah)(cs:aL)(S:Nat->Nat):aL:=(É<|aJ rs us+1).map λk=>Ó (Lp.zz ↑rs `aa (cf<|bI cs) S k)<|bF cs*Lp.dd ↑rs (Mx rs us) S
def T1[ae j](xs:List j)(x:j):↥xs++[ae.t x]=(xs++[x]).map ae.t:=by rw[ä];rfl
def Oe{z:Bool}:aK P w K mg base bM 4 T.wb.a T.wb.d ["self","column","fall"] (bU K z 0 3<|pA T):=by
 show cu T.wb.F Oc rfl ∎ ?_
 intros
 show#[_,(aM (jh 3 uF)
  (aM (gI (qO T.p0<|aj (cF K<|qv 0) az) (iA (n:=2) rfl<|dR (c7 4)<|dR (c7 5) ir)<|aY<|u3 (dJ 3) (qv 5)<|qc T.rE (A9 T)<|aj (fq (kN T T.vL<|Pb T) (cF K<|qv 0)<|aj (qv 4)<|aj (qv 1) az)<|aj (qv 2) az)
  (aY<|mO<|mL 3))),?_]
 intro L E _ zy;let#[_,f,rs,us,ss,S,mk,c,x,_,rfl,h,G,hn,I,r,g,l,C,q]:=zy;rfl';simp only[fC,eL];show#[rfl,z7 T ?_];change jd (Pu.aC<|Tr.af .f ↥us) _;rfl';show Loop.map us.zipIdx _ (λi J=>∃y z,J=[cN T f<|fG rs us ss S mk,.int c,ae.t x,.aP .o<|((us.zipIdx.take i).map<|yt rs us S c x).map 1e1,y,z]) #[_,_,rfl] ?_ ?_
 .rintro i ⟨u,j⟩ J hj ⟨y,z,rfl⟩;let#[e,m]:=qN hj;dsimp only at e m;subst m;have A:=(Á.mp e).1;rfl';simp only[fC,eL];show rQ T ?_;simp only[iX,gU,jL];show mP T #[rfl,_,_,_,_,_,_,j,c,inferInstance,rfl,h,G,by unfold aJ;omega,r,g,λ_=>?_];have H:=Kf h G r g (k:=j);rw[iF,jm];show#[rfl,_,x,rfl,l,⋯,λ_=>?_];rfl';have v:pK ((us.zipIdx.take j).map<|yt rs us S c x) u (hZ ↑rs `aa S c j / x)=(us.zipIdx.take<|j+1).map (yt rs us S c x):=by
   rw[fO,ĕ,hj,af0,ä]
   .rfl
   .intro z h;let#[#[x,k],B,rfl]:=æ.mp h;rintro rfl;show z9 hn e ?_;let#[D,b,s]:=ę.mp B;have:=qN<|Á.mpr #[⋯,s];show ę.mpr #[D,by rw[Ĩ] at b;show b,(Á.mp this.1).2]
  rw[v];show#[by rw[ĭ];omega,_,_,rfl]
 .rintro J ⟨y,z,rfl⟩;rw[Ġ];rfl';show#[(b8 _<|ku _).o,q _]
def Mt(S:ip):Tr.ins `aI T.aah (iY<|cD<|ib T .o S)=cN T `aI S:=by
 have:=gJ T `bP S;rw[<- x9] at this;show this
inductive o8(T:Tx w K mg)(xs:ag)(Q:Tr->aA):Prop
 |mk(_:↑xs=2)(g:Fl)(rs:av)(us:ah)(ss:cJ)(S:Nat->Nat)(mk:a9)(cs:aL)(_:Fp g)(_:xs=[cN T .o (fG rs us ss S mk),.af g ↥cs])(_:Sz ↑rs (aJ rs us) (Mx rs us))(_:Lp.Gd ↑rs (aJ rs us) (Mx rs us) S)(_:i9 ↑rs mk S)(_:gO rs us cs)(_:↑mk<=10000)(_:↑ss<=1000)(_:us.Nodup)(_:↑us<=10)(_:∀S',Lp.Gd ↑rs (aJ rs us) (Mx rs us) S'->∀y∈d8 rs us cs S',bs y<=3000)(_:∀S',Lp.Gd ↑rs (aJ rs us) (Mx rs us) S'->i9 ↑rs mk S'->vB ↑rs (aJ rs us) (Mx rs us) mk (cf (bI cs)) S'->∀j:ag,j[0]?=À (cN T .o (fG rs us (ss ++ [d8 rs us cs S']) S' (fw ↑rs (aJ rs us) (Mx rs us) mk (cf (bI cs)) S' ↑ss (aJ rs us))))->Q .aN j)(_:∀S' (e:Nat),Lp.Gd ↑rs (aJ rs us) (Mx rs us) S'->i9 ↑rs mk S'->Lp.Ent ↑rs (aJ rs us) (Mx rs us) (cf (bI cs)) (fm mk) S' e->(∀i,i<↑rs->Lp.tt ↑rs (Mx rs us) S' i e<=0)->∀j:ag,j[0]?=À (cN T .o (fG rs us ss S' mk))->Q (.aP .o ((K6 rs us S' e (Ó (- Lp.zz ↑rs (Mx rs us) (cf (bI cs)) S' e) (bF cs*Lp.dd ↑rs (Mx rs us) S'))).map 1e1)) j):o8 T xs Q
def FR{z:Bool}:aK P w K mg base bM 5 T.tK.a T.tK.d ["self","costs"] (bU K z 2 2<|o8 T):=by
 show cu T.tK.F OA rfl ∎ λbS A outer s H E hr hu O=>?_
 show#[_,(aM (bN 2<|qc T.tH (FW T)<|aj (qv 1) az)
  (aM (bN 3<|qc T.tI (FX T)<|aj (qv 1)<|aj (qv 2) az)
  (aM (xk 4<|sf (sE<|dJ 0) (kN T T.vF<|Ou T)<|nP (qv 3) sj)
  (aM (cA (bY xi w4 (qv 4) kq) (aM (bN 5<|qc T.ke (mG T)<|aj (hV<|aV (fq (kN T T.rB<|zX T) (cF K<|qv 0)<|aj (qv 3) az)<|qv 4)<|aj (cP (qv 2)<|cF K<|cF K<|qv 0) az)
  (aY<|bJ<|fq (fK T T.wb<|Oe T) (qv 0)<|aj (qv 4)<|aj (qv 5) az)) cz)
  (aM (xk 6<|sf (sE<|dJ 0) (kN T T.vJ<|NW T)<|nP (qv 3)<|nP (dZ gH gD T.gF<|aj (cF K<|qv 0) az) sj)
  (aM (qK (sE<|dJ 0)<|fT ["entry","scale","self"] [Æ,À 2,À 0] (fL<|qv 6) (cT 0) (λ_ _ _ _ _=>(qc T.ke (mG T)<|aj (qv 0)<|aj (cP (qv 1)<|cF K<|cF K<|qv 2) az)))
  (aY<|bJ kq))))))),?_]
 intro xs U _ zy;let#[_,g,rs,us,ss,S,mk,j,_,rfl,y,G,O,C,hm,hs,N,α,L,q,q2]:=zy;let#[X,u]:=C.x;have hn:=y.hn;have hl:=C.l;rfl';show#[rfl,g,j,X,‹_›,rfl,u,λ_=>?_];rfl';show#[rfl,g,j,X,‹_›,rfl,u,⋯,C.b,λ_=>?_];rfl';show GY rfl #[T.gh,T.vY] (cL<|cL<|cL<|cL gm)<|mP T ?_;rfl';simp only[iX,eu];show#[rfl,.f,rs.length,aJ rs us,Mx rs us,S,mk,bI j,inferInstance,rfl,y,G,O,C.c,λh r v hO Q e=>?_,λh e r v B ht Q Y=>?_]
 .rw[e,gK];show#[sF T _,?_];rw[A8];rfl';rw[uQ];rfl';show GY rfl #[T.gh,T.vY] (cL<|cL<|cL<|cL gm)<|mP T ?_;rfl';rw[x9];show rS T ?_;change rO _ [Tr.af _ ↥ss] _;rfl';simp only[iX,eu];show#[rfl,.f,rs.length,aJ rs us,Mx rs us,h,mk,bI j,_,inferInstance,rfl,y,r.lt,C.c,hm,λQ e=>?_];rw[e,gK];show#[sF T _,?_];rw[A8];show xP rfl #[T.gh,T.yH] (cL<|cL<|cL gm) ?_;rfl';rw[x9,hG,oU];have I:=(eE j 1 ∎).1;have J:=ko ((eE j 1 ∎).2.2.2 X (Λ _) u.2.1) u.1;have D:=u.2.2;have hd:=y.d h r.lt;show a7.map _ _ (λn=>Ó n<|bF j*Lp.dd ↑rs (Mx rs us) h) (by rw[Å,Û];omega) (λn hn R hR=>?_) #[kz _,show ↑ss<1000000 by omega,?_]
  .rfl';simp only[eL];show rQ T<|rV T ?_;rfl';show#[d9 (n:=3000) (m:=3000) (by unfold bF;omega) hd ⋯,rfl,n,_,rfl,ð<|ō I r.pos,Ï (iS (bF j)<|Lp.dd ↑rs (Mx rs us) h) (by unfold bF;omega),λ_=>hR]
  .rw[fS,ù]
   change U Tr.aN (Tr.ins .o T.aah (adr "settled" (.af .o<|↥ss++[ae.t<|d8 rs us j h])<|ib T .o<|fG rs us ss h<|fw ↑rs (aJ rs us) (Mx rs us) mk (cf<|bI j) h ↑ss<|aJ rs us)::_)
   rw[T1,YG];show q h r v hO _ rfl
 .rw[Y,gK];show#[sF T _,?_];rw[A8];rfl';rw[Kc];rfl';have M:∀i,i<↑rs->h i≠e:=λi hi z=>by have:=B.2.1;rw[<- z,Lp.c8 hi] at this;omega
  have I:=(eE j 1 ∎).1;have J:=ko ((eE j 1 ∎).2.2.2 X (Λ _) u.2.1) u.1;have D:=u.2.2;have hd:=y.d h r.lt;have c9:=ō I r.pos;simp only[x9,Mt];show rQ T ?_;simp only[iX,eu];show mP T #[rfl,.l Ç,.f,rs.length,aJ rs us,Mx rs us,h,mk,bI j,inferInstance,inferInstance,rfl,y,r.lt,C.c,λ_=>?_];rw[hG,gT,gS];show dE _ _ (Lp.zz ↑rs `aa (cf<|bI j) h e) (eN (by rw[Í,ì (by have:=B.1;omega)];rfl)) ?_;rfl';show rQ T<|rV T ?_;rfl';show#[d9 (n:=3000) (m:=3000) (by unfold bF;omega) hd ⋯,rfl,- Lp.zz ↑rs `aa (cf<|bI j) h e,_,rfl,ð c9,Ï (iS (bF j)<|Lp.dd ↑rs (Mx rs us) h) (by unfold bF;omega),λ_=>#[jM _,?_]];show gE T ?_;rw[iF];rfl';show#[rfl,.l Ç,rs,us,ss,h,mk,e,_,inferInstance,rfl,y,r,N,⋯,B.1,M,?_,?_,λ_=>#[(b8 _<|ku _).o,q2 h e r v B ht _ rfl]]
  .intro ez;rw[<- ĩ 1] at ez;have:=(ϋ (ð c9) ∎).mp ez;have:=B.2.1;omega
  .have hx:=L h r _ (æ.mpr #[e,ħ.mpr (by have:=B.1;omega),rfl]:Ó (Lp.zz ↑rs `aa (cf<|bI j) h e) (bF j*Lp.dd ↑rs `aa h)∈d8 rs us j h);rw[<- Rat.neg_divInt];show Ï (xH _)<|Ï hx ∎
inductive pz(T:Tx w K mg)(xs:ag)(Q:Tr->aA):Prop
 |mk(_:↑xs=2)(f:Fl)(S:ip)(i:Nat)(r:aL)(x:Rat)(_:Fp f)(_:xs=[cN T f S,.int i])(_:S.ss[i]?=À (r ++ [x]))(_:bs x<=7000)(_:∀j,Q (ae.t (0 - x)) j):pz T xs Q
def FY{z:Bool}:aK P w K mg base bM 4 T.tL.a T.tL.d ["self","place"] (bU K z 0 2<|pz T):=by
 show cu T.tL.F ON rfl ∎ ?_
 intros
 show#[_,(aY<|bJ<|qc T.rD (AE T)<|aj (jJ [0,1] T.jC T.jD)<|aj (aV (aV (cF K<|qv 0)<|qv 1)<|hV aw) az),?_];intro j e _ zy;let#[_,f,S,i,r,x,_,rfl,b,h,q]:=zy;rfl';simp only[fC,gU,eL];show rS T ?_;rfl';show dE _ _ (r++[x]) (eN b) ?_;rw[hG,gT,gS,HY];show dE _ _ x rfl ?_;rw[iF,jm];have g:bs (0:Rat)<=10:=by walk_at "k"
 show#[rfl,0,x,rfl,⋯,λ_=>#[iG _,q _]]
abbrev yi(rs:av)(us:ah)(S:Nat->Nat)(p:Str×Nat):Str×Rat:=(p.1,kC ↑rs `ad `aa S p.2)
abbrev vg(rs:av)(us:ah)(S:Nat->Nat):List (Str×Rat):=us.zipIdx.map<|yi rs us S
inductive o9(T:Tx w K mg)(xs:ag)(Q:Tr->aA):Prop
 |mk(_:↑xs=1)(f:Fl)(rs:av)(us:ah)(ss:cJ)(S:Nat->Nat)(mk:a9)(_:Fp f)(_:xs=[cN T f (fG rs us ss S mk)])(_:Sz ↑rs (aJ rs us) (Mx rs us))(_:Lp.Gd ↑rs (aJ rs us) (Mx rs us) S)(_:us.Nodup)(_:↑us<=50)(_:∀j,Q (.aP .o ((vg rs us S).map 1e1)) j):o9 T xs Q
def FO{z:Bool}:aK P w K mg base bM 4 T.tM.a T.tM.d ["self"] (bU K z 0 1<|o9 T):=by
 show cu T.tM.F Ot rfl ∎ ?_
 intros
 show#[_,(aM (jh 1 uF)
  (aM (gI (qO T.p0<|aj (cF K<|qv 0) az) (iA (n:=2) rfl<|dR (c7 2)<|dR (c7 3) ir)<|aY<|u3 (dJ 1) (qv 3)<|fq (kN T T.vK<|Pa T) (cF K<|qv 0)<|aj (qv 2) az)
  (aY<|mO<|mL 1))),?_]
 intro C A _ zy;let#[_,f,rs,us,ss,S,mk,_,rfl,g,G,hn,B,q]:=zy;rfl';simp only[fC,eL];show#[rfl,z7 T ?_];change jd (Pu.aC<|Tr.af .f ↥us) _;rfl';show Loop.map us.zipIdx _ (λi J=>∃y z,J=[cN T f<|fG rs us ss S mk,.aP .o<|((us.zipIdx.take i).map<|yi rs us S).map 1e1,y,z]) #[_,_,rfl] ?_ ?_
 .rintro i ⟨u,j⟩ J hj ⟨y,z,rfl⟩;let#[e,h]:=qN hj;dsimp only at e h;subst h;have r:=(Á.mp e).1;rfl';simp only[fC,eL];show rQ T ?_;simp only[iX,gU,jL];show mP T #[rfl,_,_,_,_,_,_,j,inferInstance,rfl,g,G,by unfold aJ;omega,λ_=>?_];rfl';have m:pK ((us.zipIdx.take j).map<|yi rs us S) u (kC ↑rs `ad `aa S j)=(us.zipIdx.take<|j+1).map (yi rs us S):=by
   rw[fO,ĕ,hj,af0,ä]
   .rfl
   .intro z g;let#[#[x,k],s,rfl]:=æ.mp g;rintro rfl;show z9 hn e ?_;let#[v,b,l]:=ę.mp s;have:=qN<|Á.mpr #[⋯,l];show ę.mpr #[v,by rw[Ĩ] at b;show b,(Á.mp this.1).2]
  rw[m];show#[by rw[ĭ];omega,_,_,rfl]
 .rintro J ⟨y,z,rfl⟩;rw[Ġ];rfl';show#[(b8 _<|ku _).o,q _]
def xT{x:Int}(h:bi x<=100):bs (x:Rat)<=100:=by
 unfold bs;change max (bl x.natAbs) (bl 1)<=100;have:bl 1<=1:=by walk_at "k"
 unfold bi at h;omega
abbrev Bd(lr:aL):Prop:=∀x∈lr,bs x<=3900
abbrev qV(kind:Str)(sc:Int)(b a:Rat):Rat:=if kind="least" then a*(sc:Rat) else if kind="most" then b*((-sc:Int):Rat) else (a - b)*Ó sc 2
abbrev mU(rs:av)(us:ah)(a:aL)(i:Nat):Rat:=match rs[i]? with
 |some o=>qV o.2.1 `au (a.getD (↑us + 2 * i) 0)<|a.getD (↑us + 2 * i + 1) 0
 |none=>0
abbrev eH(rs:av)(us:ah)(a:aL):aL:=(É ↑rs).map<|mU rs us a
inductive jQ(T:Tx w K mg)(xs:ag)(Q:Tr->aA):Prop
 |mk(_:↑xs=3)(f g:Fl)(rs:av)(us:ah)(ss:cJ)(S:Nat->Nat)(mk:a9)(i:Nat)(lr:aL)(o:bR)(_:Fp f)(_:Fp g)(_:xs=[cN T f (fG rs us ss S mk),.int i,.af g ↥lr])(_:i<=100)(_:rs[i]?=À o)(_:↑lr=↑us+2*↑rs+1)(_:Bd lr)(_:bi (bA us o)<=100)(_:∀j,Q (ae.t (qV o.2.1 (bA us o) (lr.getD (↑us+2*i) 0) (lr.getD (↑us+2*i+1) 0))) j):jQ T xs Q
def OQ{z:Bool}:aK P w K mg base bM 4 T.we.a T.we.d ["self","number","left"] (bU K z 0 3<|jQ T):=by
 show cu T.we.F OP rfl ∎ ?_
 intros
 show#[_,(aM (bN 3<|aV (qv 2)<|fq (fK T T.p6<|wV T) (qv 0)<|aj (qv 1) az)
  (aM (bN 4<|aV (qv 2)<|fq (fK T T.p9<|wW T) (qv 0)<|aj (qv 1) az)
  (aM (bN 5<|aV (aV (cF K<|qv 0)<|qv 1) aw)
  (aM (bN 6<|aV (cF K<|qv 0)<|qv 1)
  (aM (cA `dP (aY<|bJ<|qc T.pX (w9 T)<|aj (qv 4)<|aj (dS<|aj (qv 6)<|aj aw az) az) cz)
  (aM (cA `dP (aY<|bJ<|qc T.pX (w9 T)<|aj (qv 3)<|aj (dS<|aj (hV<|qv 6)<|aj aw az) az) cz)
  (aY<|bJ<|qc T.pX (w9 T)<|aj (qc T.rD (AE T)<|aj (qv 4)<|aj (qv 3) az)<|aj (qc T.ke (mG T)<|aj (qv 6)<|aj aw az) az))))))),?_]
 intro H C _ zy;let#[_,f,g,rs,us,ss,S,mk,i,n,o,_,_,rfl,E,l,G,r,m,q]:=zy;have v:=(Á.mp l).1;rfl';simp only[fC,gJ,gU,jL,eL];show gE T #[rfl,f,_,rs,us,i,‹_›,rfl,ju T f _,⋯,λ_=>?_];obtain⟨b,eb⟩:∃b,n[us.length+2*i+0]?=À b:=#[_,Ñ ⋯];obtain⟨a,j⟩:∃a,n[us.length+2*i+1]?=À a:=#[_,Ñ ⋯];rw[Ä,Ä,j,show n[us.length+2*i]?=À b from eb] at q;have s:=r b<|Ð eb;have u:=r a<|Ð j;rfl';show dE _ _ b (eN eb) ?_;rfl'
 try simp only[fC,gJ,gU,jL,eL]
 show gE T #[rfl,f,_,rs,us,i,‹_›,rfl,ju T f _,⋯,λ_=>?_];rfl';show dE _ _ a (eN j) ?_;rfl'
 try simp only[fC,gJ,gU,jL,eL]
 show xm T ?_;rfl';show dE _ _ o (eN l) ?_;rfl';show G0 T ?_;change iw (.af f<|(rs.map<|bA us).map ae.t) `aE _;rw[gT,gS];show dE _ _ `au (eN (by rw[Í,l];rfl)) ?_;rfl';have A:=xT m;have B:=xT (x:=-bA us o) (by unfold bi;rw[Φ];show m);unfold qV at q;by_cases e:o.2.1="least"
 .rw[av4<|av6 e];rw[av4 e] at q;show#[rfl,a,(bA us o:Rat),rfl,⋯,λ_=>#[iG _,q _]]
 .rw[av3<|by simpa using e];rw[av3 e] at q;by_cases h:o.2.1="most"
  .rw[av4<|av6 h];rw[av4 h] at q;show#[rfl,b,((-bA us o:Int):Rat),rfl,⋯,λ_=>#[iG _,q _]]
  .rw[av3<|by simpa using h];rw[av3 h] at q;have y:=xG a b;have D:bs (Ó `au 2)<=100:=qm ∎ m (by walk_at "k");show#[rfl,a,b,rfl,⋯,λ_=>#[rfl,_,2,rfl,∎,by walk_at "k",λ_=>?_]];rw[iF,jm];show#[rfl,_,_,rfl,⋯,λ_=>#[iG _,q _]]
inductive iL(T:Tx w K mg)(xs:ag)(Q:Tr->aA):Prop
 |mk(_:↑xs=2)(f g:Fl)(rs:av)(us:ah)(ss:cJ)(S:Nat->Nat)(mk:a9)(lr:aL)(_:Fp f)(_:Fp g)(_:xs=[cN T f (fG rs us ss S mk),.af g ↥lr])(_:↑rs<=100)(_:↑lr=↑us+2*↑rs+1)(_:Bd lr)(_:∀o∈rs,bi (bA us o)<=100)(_:∀j,Q (.af .o ((eH rs us lr).map ae.t)) j):iL T xs Q
def FT{z:Bool}:aK P w K mg base bM 5 T.tN.a T.tN.d ["self","left"] (bU K z 0 2<|iL T):=by
 show cu T.tN.F OB rfl ∎ ?_
 intros
 show#[_,(aY<|bJ<|fT ["number","left","self"] [Æ,À 1,À 0] (sv T.pY<|aj (dZ gH gD T.gF<|aj (cF K<|qv 0) az) az) (cT 0) (λ_ _ _ _ _=>(fq (fK T T.we<|OQ T) (qv 2)<|aj (qv 0)<|aj (qv 1) az))),?_];intro s r _ zy;let#[_,f,g,rs,us,ss,S,mk,h,_,_,rfl,j,n,l,o,q]:=zy;rfl';simp only[fC,gJ,gU,jL,eL];show xm T ?_;rfl'
 change -1000000<=(↑rs:Int)/\(↑rs:Int)<=1000000/\a7 (af4 (λi:Nat=>Tr.int (i:Int))<|É ((↑rs:Int)).toNat) _ _ _ _ _
 rw[Ď];show#[⋯,⋯,a7.map (É ↑rs) _ (mU rs us h) (by rw[Û];omega) (λi m R e=>?_) #[qF _,q _]];have b:=ħ.mp m;rfl'
 try simp only[fC,gJ,gU,jL,eL]
 show gE T #[rfl,f,g,rs,us,ss,S,mk,i,h,rs[i],‹_›,‹_›,rfl,⋯,Ñ b,n,l,o _<|ϸ b,λ_=>?_];unfold mU at e;rw[Ñ b] at e;show e
def xU{a b:Rat}(h:b≠0):bs (a / b)<=bs a+bs b:=by
 have hn:b.num≠0:=λz=>h<|Rat.num_eq_zero.mp z
 rw[<- GF];show qm (Int.mul_ne_zero (by have:=a.den_nz;omega) hn) (Ï `dl (by have:=iB a;have:=gf b;omega)) (Ï `dl (by have:=gf a;have:=iB b;omega))
def uL{neg:Bool}{a b:Rat}{Q:aB}(q:Q (.bl (if neg=Â then !decide (a=b) else decide (a=b)))):mh neg `bY (ae.t b) Q:=by
 show .inr #[decide<|a=b,?_,show (1:Nat)<=60 by decide,Î 1,q];change (if 2=2 then (À<|decide<|a.num=b.num).bind λx=>((À<|decide<|(a.den:Int)=b.den).bind λy=>(À Â).bind λz=>À<|y&&z).bind λy=>À (x&&y) else Æ)=_;rw[av4 rfl];change À (decide (a.num=b.num)&&(decide ((a.den:Int)=b.den)&&Â))=_;congr 1;by_cases h:a=b
 .subst h;simp
 .rw[av7 h];by_cases d:a.num=b.num
  .have h2:¬ (a.den:Int)=b.den:=λz=>h<|Rat.ext d ⋯
   rw[av7 h2,ad2,Bool.and_false]
  .rw[av7 d,ad2]
structure vA(C:Nat)(ss:cJ)(mk:a9):Prop where
 r:∀row∈ss,∀v∈row,bs v<=3000
 m:∀p∈mk,∃kn j:Nat,p.2=À (kn:Int)/\p.1=Sum.inl (j:Int)/\j<C/\∃row v,ss[kn]?=À row/\row[j]?=À v/\0<v
abbrev kB(a:aL)(ss:cJ)(k:Nat)(j:Nat):Rat:=(0 - a.getD j 0) / (ss.getD k []).getD j 0
abbrev i5(b:aL)(ss:cJ)(k:Nat)(s:Rat)(p:aI×bT):Rat:=match p with
 |(.inl j,À a)=>if a=(k:Int) then (if s < kB b ss k j.toNat then kB b ss k j.toNat else s) else s
 |_=>s
abbrev shr(a:aL)(ss:cJ)(k:Nat)(mk:a9):Rat:=mk.foldl `eg 0
inductive jS(T:Tx w K mg)(xs:ag)(Q:Tr->aA):Prop
 |mk(_:↑xs=3)(g:Fl)(rs:av)(us:ah)(ss:cJ)(S:Nat->Nat)(mk:a9)(lr:aL)(k C:Nat)(_:Fp g)(_:xs=[cN T .f (fG rs us ss S mk),.af g ↥lr,.int k])(_:vA C ss mk)(_:↑lr=C+1)(_:Bd lr)(_:∀j,Q (ae.t (shr lr ss k mk)) j):jS T xs Q
def N9:aK P w K mg base bM 4 T.wd.a T.wd.d ["self","left","ahead"] (bU K Â 0 3<|jS T):=by
 show cu T.wd.F N5 rfl ∎ ?_
 intros
 show#[_,(aM (bN 3<|jJ [0,1] T.jC T.jD)
  (aM (Zn (cF K<|cF K<|qv 0) (iA (n:=2) rfl<|dR (c7 4)<|dR (c7 5) ir) (aY (cA (bY dN dO (qv 5)<|qv 2) (aM (bN 6<|qc T.rE (A9 T)<|aj (qc T.rD (AE T)<|aj (jJ [0,1] T.jC T.jD)<|aj (aV (qv 1)<|qv 4) az)<|aj (aV (aV (cF K<|qv 0)<|qv 2)<|qv 4) az)
  (aY<|bN 3<|xZ (gw<|qc T.v3 (Vw T)<|aj (qv 3)<|aj (qv 6) az) (qv 6)<|qv 3)) cz)))
  (aY<|bJ<|qv 3))),?_]
 intro xs Q' _ zy;let#[_,g,rs,us,ss,S,m,h,k,C,_,rfl,J,Q,O,q]:=zy;rfl';simp only[fC,gJ,ea,eu,eL];show rQ T<|A7 T ?_;have M:Pu.aC (.aP .f<|mT m)=.aP .f `eA:=rfl
 change bZ (Tr.aP .f<|mT m)=Â/\nk (Pu.aC<|Tr.aP .f<|mT m) _
 rw[M];show#[(b8 _<|lg m).t,#[λi G=>∃a b c,G=[cN T .f<|fG rs us ss S m,.af g ↥h,.int k,ae.t<|(m.take i).foldl (i5 h ss k) 0,a,b,c]/\bs ((m.take i).foldl `cM 0)<=6910,#[_,_,_,rfl,by rw[ad4];change bs 0<=6910;rw[kx];decide],?_,?_]]
 .rintro i p G hp ⟨a,b,c,rfl,hsb⟩;unfold mT at hp;rw[Í] at hp;cases e:m[i]? with
  |none=>rw[e] at hp;cases hp
  |some E=>
  rw[e] at hp;cases hp;have tk:(m.take<|i+1).foldl `cM 0=i5 h ss k ((m.take i).foldl `cM 0) E:=by rw[ĕ,e,au6];rfl
  let#[kn,j,H,I,hj,o,v,u,y,L]:=J.m E<|Ð e;obtain⟨x,ex⟩:∃x,h[j]?=À x:=#[_,Ñ (by rw[Q];omega)];have α:=O x<|Ð ex;have Y:=J.r o (Ð u) v<|Ð y;let#[y1,y2]:=E;dsimp only at H I;subst H I;change l8 _ _ (.aF [.int (j:Int),.int (kn:Int)]) _ _;rfl';simp only[tk];generalize (m.take i).foldl `cM 0=sh at hsb ⊢;by_cases B:(kn:Int)=(k:Int)
  .rw[av4<|av6 B];have D:kn=k:=⋯
   subst D;have N:kB h ss kn j=(0 - x) / v:=by
    unfold kB;rw[Ä,ex,Ä,Ä,u];simp[y]
   have A:i5 h ss kn sh (Sum.inl (j:Int),À (kn:Int))=if sh<(0 - x) / v then (0 - x) / v else sh:=by
    unfold i5;dsimp only;rw[av4 rfl,Ď,N]
   rw[A];show dE _ _ x (eN ex) ?_;rfl';show#[rfl,0,x,rfl,by rw[kx];omega,λ_=>?_];rfl';simp only[fC,ea,eL];show rS T ?_;rfl';show dE _ _ o (eN u) ?_;rw[hG,gT,gS];show dE _ _ v (eN y) ?_;have U:=xG 0 x;rw[kx] at U;have s:v≠0:=λz=>by rw[z] at L;show av5 L ∎
   rw[iF,jm];show#[rfl,0 - x,v,rfl,s,⋯,λ_=>#[jM _,?_]];have hd:=xU (a:=0 - x) (b:=v) s;rfl';show#[rfl,sh,(0 - x) / v,rfl,⋯,λ_=>?_];rfl';by_cases l:sh<(0 - x) / v
   .rw[av4<|av6 l,av4 l];show#[_,_,_,rfl,⋯]
   .rw[av3 (by simpa using l),av3 l];show#[_,_,_,rfl,hsb]
  .rw[av3<|by simpa using B];have A:i5 h ss k sh (Sum.inl (j:Int),À (kn:Int))=sh:=by unfold i5;dsimp only;rw[av3 B]
   rw[A];show#[_,_,_,rfl,hsb]
 .rintro G ⟨a,b,c,rfl,_⟩;rfl';rw[show (m.take (mT m).length)=m by unfold mT;rw[Å,Ġ]];show q _
abbrev Ss(ss:cJ)(mk:a9)(st:aL×aL)(k:Nat):aL×aL:=(if shr st.1 ss k mk=0 then st.1 else ϯ (λa b=>a+shr st.1 ss k mk*b) st.1 (ss.getD k []),st.2++[shr st.1 ss k mk])
abbrev pp(ss:cJ)(mk:a9)(i:Nat):Nat->aL×aL
 |0=>(ss.getD i [],[])
 |j + 1=>Ss ss mk (pp ss mk i j)<|i - 1 - j
structure Fd(C:Nat)(ss:cJ)(mk:a9)(i:Nat):Prop where
 l:∀j,j<=i->(pp ss mk i j).1.length=C+1/\Bd (pp ss mk i j).1
 s:∀j,j<i->∀b∈ss.getD (i - 1 - j) [],bs (shr (pp ss mk i j).1 ss (i - 1 - j) mk)+bs b<=7990/\bs (shr (pp ss mk i j).1 ss (i - 1 - j) mk*b)<=4000
inductive jP(T:Tx w K mg)(xs:ag)(Q:Tr->aA):Prop
 |mk(_:↑xs=2)(rs:av)(us:ah)(ss:cJ)(S:Nat->Nat)(mk:a9)(i:Nat)(_:xs=[cN T .f (fG rs us ss S mk),.int i])(_:↑rs<=16)(_:↑us<=10)(_:i<↑ss)(_:↑ss<=1000)(_:vA (aJ rs us) ss mk)(_:Fd (aJ rs us) ss mk i)(_:∀o∈rs,bi (bA us o)<=100)(_:∀j,Q (.aF [.af .o ((eH rs us (pp ss mk i i).1).map ae.t),.af .o ((pp ss mk i i).2.reverse.map ae.t)]) j):jP T xs Q
def Kg{ss:cJ}{mk:a9}{i:Nat}:∀j,(pp ss mk i j).2.length=j
 |0=>rfl
 |j + 1=>by change (_ ++ [_]).length=_;rw[Ù,Kg j];rfl
def OR:aK P w K mg base bM 6 T.wc.a T.wc.d ["self","place"] (bU K Â 0 2<|jP T):=by
 show cu T.wc.F OO rfl ∎ ?_
 intros
 show#[_,(aM (bN 2<|aV (cF K<|qv 0)<|qv 1)
  (aM (jh 3<|fB az)
  (aM (gI (LK rfl T.pY<|aj (mJ (qv 1) aw)<|aj (hV aw)<|aj (hV aw) az) (c7 4) (aM (bN 5<|fq (fK T T.wd<|N9 T) (qv 0)<|aj (qv 2)<|aj (qv 4) az)
  (aM (cA (bY jj ja (qv 5)<|jJ [0,1] T.jC T.jD) (aY<|se 2 ["one","other","share"] [Æ,Æ,À 5] (lz T.kZ<|aj (qv 2)<|aj (aV (cF K<|qv 0)<|qv 4) az) (lA (n:=2) rfl<|gg (cT 0)<|gg (cT 1) k9) (λ_ _ _ _ _=>(qc T.vZ (YH T)<|aj (qv 0)<|aj (qc T.pX (w9 T)<|aj (qv 2)<|aj (qv 1) az) az))) cz)
  (aY<|qK (dJ 3)<|qv 5))))
  (aY<|bJ<|dS<|aj (fq (fK T T.tN<|FT T) (qv 0)<|aj (qv 2) az)<|aj (z'x rfl rfl T.jB rfl T.M0<|aj (qv 3) az) az)))),?_]
 intro xs O _ zy;let#[_,rs,us,ss,S,m,i,rfl,H,E,L,h,J,r,y,q]:=zy;have v:ss[i]?=À (ss.getD i []):=by rw[Ä,Ñ L];rfl
 rfl';simp only[fC,gJ,ea,eu,eL];show rS T ?_;rfl';show dE _ _ _ (eN v) ?_;rfl';show#[⋯,⋯,Loop.map (É ((i:Int) - 1+1).toNat) (λn:Nat=>Tr.int<|(i:Int) - 1+n*-1) (λj G=>∃a b,G=[cN T .f<|fG rs us ss S m,.int i,ae.t (pp ss m i j).1,.af .o<|(pp ss m i j).2.map ae.t,a,b]) #[_,_,rfl] ?_ ?_]
 .rintro j n G hj ⟨a,b,rfl⟩;let#[hn,rfl]:=rR hj;have u:j<i:=⋯
  have D:(i:Int) - 1+(j:Int)*-1=((i - 1 - j:Nat):Int):=⋯
  rw[D];have e:=r.l j ⋯;have x:=r.s j u;have C:(pp ss m i<|j+1).2=(pp ss m i j).2++[shr (pp ss m i j).1 ss (i - 1 - j) m]:=rfl;have B:(pp ss m i<|j+1).1=if shr (pp ss m i j).1 ss (i - 1 - j) m=0 then (pp ss m i j).1 else ϯ (λa b=>a+shr (pp ss m i j).1 ss (i - 1 - j) m*b) (pp ss m i j).1 (ss.getD (i - 1 - j) []):=rfl
  have z:=Kg (ss:=ss) (mk:=m) (i:=i) j;rfl'
  try simp only[fC,gJ,ea,eu,eL]
  show gE T #[rfl,.f,rs,us,ss,S,m,(pp ss m i j).1,i - 1 - j,_,inferInstance,rfl,J,e.1,e.2,λ_=>?_];rfl';simp only[C,B];generalize shr (pp ss m i j).1 ss (i - 1 - j) m=sh at x ⊢;show uL ?_;rfl';by_cases g:sh=0
  .rw[av3 (by simp[g]),av4 g];show#[⋯,_,_,rfl]
  .rw[av4 (by simp[g]),av3 g];have M:ss[i - 1 - j]?=À (ss.getD (i - 1 - j) []):=by rw[Ä,Ñ ⋯];rfl
   show rS T ?_;rw[gT,gS];show dE _ _ _ (eN M) ?_;generalize ss.getD (i - 1 - j) []=row at x ⊢;generalize (pp ss m i j).1=lr at e ⊢;have Y:↑lr<=100:=by have:=e.1;unfold aJ at this;omega
   rw[iF,hG,hG,oU,oU,xb];show a7.map (lr.zip row) _ (λp=>p.1+sh*p.2) (by rw[ż];omega) (λp N R I=>?_) ?_
   .obtain⟨m1,m2⟩:=ĺ N;have Q:=e.2 _ m1;let#[A,U]:=x _ m2;rfl';show#[rfl,sh,p.2,rfl,A,λ_=>?_];rw[iF,jm];show#[rfl,p.1,sh*p.2,rfl,⋯,λ_=>I]
   .have e3:(lr.zip row).map (λp=>p.1+sh*p.2)=ϯ (λa b=>a+sh*b) lr row:=by rw[ϭ,ah2]
    rw[e3,fS];show#[kz _,⋯,_,_,rfl]
 .rintro G ⟨a,b,rfl⟩;rw[Û,show ((i:Int) - 1+1).toNat=i by omega];rfl';simp only[fC,gJ,ea,eu,eL];have e:=r.l i<|Î _;show gE T #[rfl,.f,.f,rs,us,ss,S,m,(pp ss m i i).1,inferInstance,inferInstance,rfl,⋯,e.1,e.2,y,λ_=>?_];rw[<- List.map_reverse];show#[oE _,by rw[qF,sD];rfl,q _]
structure jA(e s v:Nat)(us:ah)(o:bR):Prop where
 b:yz us o
 p:0<bA us o
 sb:bi `au<=s
 eb:∀x∈fE us o,bi x<=e
 x:bi `at<=e
 w:0<=o.2.2.2.2/\bi o.2.2.2.2<=v
def BD{x:Int}{k:Nat}(h:bi x<=k):x.natAbs<=2 ^ k:=ň<|lq h
def BE:∀{m k:Nat},m<=k->Lp.iI m<=Lp.iI k
 |m,0,h=>by rw[show m=0 by omega];show Î _
 |m,k + 1,h=>by
  by_cases e:m=k+1
  .rw[e];show Î _
  .show Ï (BE (show m<=k by omega)) (Nat.le_mul_of_pos_left _ ⋯)
section
variable{rs:av}{us:ah}{e s v:Nat}
def sq(h:∀o∈rs,jA e s v us o){i k:Nat}(b:i<↑rs):(Mx rs us i k).natAbs<=2 ^ e:=by
 let#[o,a]:=mQ b;have z:=h o<|Ð a;have one:1<=2 ^ e:=Nat.one_le_two_pow;rw[qG a,Ϫ,show (sgn<|cX us o).natAbs=1 by unfold sgn;split<;>rfl,Nat.one_mul];unfold A0;split
 .rw[Ä];cases q:`aR[k]? with
  |none=>show Ĺ _
  |some x=>show BD<|z.eb x<|Ð q
 .split
  .show one
  .split
   .show one
   .split
    .show BD z.x
    .show Ĺ _
abbrev fb(N:Nat):Nat:=if N<=10 then 22 else 45
def KR{m N:Nat}(h:m<=N)(a:N<=16):Lp.iI m<2 ^ fb N:=by
 unfold fb;split
 .show ġ (BE (show m<=10 by omega)) (by walk_at "k")
 .show ġ (BE (show m<=16 by omega)) (by walk_at "k")
def u9{m f:Nat}(a:Lp.iI m<2 ^ f){x:Int}(h:x.natAbs<=Lp.iI m*(2 ^ e) ^ m):bi x<=f+e*m:=by
 show jH<|ġ h ?_;rw[<- Nat.pow_mul,ao3];show ak1 a<|Ϯ _
def Mu(h:∀o∈rs,jA e s v us o)(hm:↑rs<=16){f:Nat}(g:Lp.iI ↑rs<2 ^ f)(hn:aJ rs us<=60)(b:f+e*↑rs<=3000):Sz ↑rs `ad `aa where
 hm:=⋯
 hn:=hn
 t:=λS i k lt j=>Ï (u9 g<|Lp.jy (λi k a _=>sq h a) lt j) b
 d:=λS lt=>Ï (u9 g<|Lp.gW (λi k a _=>sq h a) lt) b
abbrev sX(us:ah):av->Nat
 |[]=>1
 |o::rs=>(bA us o).natAbs * sX us rs
def BF:∀{rs:av},(∀o∈rs,jA e s v us o)->0<sX us rs
 |[],_=>Nat.one_pos
 |o::rs,h=>as5 (by have:=(h o<|.head _).p;omega)<|BF λq m=>h q<|.tail _ m
def Kh{rs:av}{o:bR}(m:o∈rs):bA us o ∣ (sX us rs:Int):=by
 induction rs with
 |nil=>cases m
 |cons p rs a=>
  change _ ∣ (((bA us p).natAbs*sX us rs:Nat):Int);rw[ϫ];rcases ã.mp m with rfl |m
  .show ũ (Int.dvd_natAbs_self) (Int.dvd_mul_right _ _)
  .show ũ (a m) (Ϣ _ _)
def Ci:∀{rs:av},(∀o∈rs,jA e s v us o)->bi (sX us rs:Int)<=1+s*↑rs
 |[],_=>by change bi 1 <= _;show Ï (show bi 1 <= 1 by walk_at "k") ⋯
 |o::rs,h=>by
  change bi (((bA us o).natAbs*sX us rs:Nat):Int)<=_;rw[ϫ];have a:=iS ((bA us o).natAbs:Int) (sX us rs:Int);have b:=Ci (rs:=rs) λq m=>h q<|.tail _ m
  have c:bi ((bA us o).natAbs:Int)<=s:=by unfold bi;rw[ė];show (h o<|.head _).sb
  rw[Ö,Nat.mul_succ];omega
def Bb(a:Int){b:Int}(d:0<b):((Ó a b).den:Int) ∣ b:=by
 rw[Rat.den_divInt,av3<|ð d];show ũ (Ĵ.mpr<|Nat.div_dvd_of_dvd<|Nat.gcd_dvd_left _ _)<|Int.natAbs_dvd_self
def KS{cs:aL}{X:Nat}(r:↑cs=aJ rs us)(i:0<X)(hd:∀c∈cs,(c.den:Int) ∣ (X:Int)){x y:Nat}(A:bi (X:Int)<=x)(j:∀c∈cs,bi c.num<=y)(h:x+y<=3000):gO rs us cs/\∀k,bi (cf `dp k)<=x+y:=by
 have f:∀c∈cs,bi (dQ (bF cs) c)<=x+y:=λc m=>by
  unfold dQ;let#[z,l]:=(eE cs 1 ∎).2.2.1 c m;have g:(0:Int)<(c.den:Int):=ľ.mpr c.den_pos;have o:(bF cs).fdiv (c.den:Int)=z:=by
   have:=ĝ (a:=(c.den:Int)) z<|ð g;rwa[<- l] at this
  rw[o];have u:=(eE cs 1 ∎).2.2.2 X (Λ _) hd;have n:z ∣ (X:Int):=ũ (by rw[l];show Ϣ _ _) u;have:=ko n i;have:=iS c.num z;have:=j c m;omega
 show#[#[r,#[X,i,hd,⋯],λc m=>?_,λc m=>?_],λk=>?_]
 .have a:=ko (hd c m) i;have b:=j c m;unfold bs;unfold bi at a b;rw[ė] at a;have:bi (X:Int)=bl (X:Int).natAbs:=rfl;omega
 .unfold bI at m;let#[d,md,rfl]:=æ.mp m;have:=f d md;omega
 .unfold cf bI;rw[Ä,Í];cases q:cs[k]? with
  |none=>show Ĺ _
  |some c=>show f c<|Ð q
def Z3(a:Int){b:Int}(g:0<b):bi (Ó a b).num<=bi a:=by
 have h:=al6 a b;by_cases f:a=0
 .subst f;rw[ĩ];show Ĺ _
 .have d:(Ó a b).num ∣ a:=by
   rw[h,ab0 g,ai8];show at4<|Ο ..
  have:=ae8 ⋯ (ϝ.mpr d);show jH<|ġ this<|lq<|Î _
def uk{a b:Int}(d:0<=a)(f:0<b):0<=Ó a b:=Rat.divInt_nonneg d<|ĵ f
def xn{k:Int}{c:Rat}(m:c∈bp us rs k):c=0\/∃o∈rs,c=Ó o.2.2.2.2 `au:=by
 unfold bp at m;rcases Ê.mp m with m |m
 .show .inl (Ρ m)
 .obtain⟨o,ho,mo⟩:=List.mem_flatMap.mp m;simp only[ã,h9,or_false] at mo;rcases mo with rfl |rfl
  .unfold cb;split
   .split
    .show .inl rfl
    .show .inr #[o,ho,rfl]
   .show .inl rfl
  .unfold ca;split
   .split
    .show .inl rfl
    .show .inr #[o,ho,rfl]
   .show .inl rfl
def Mv(h:∀o∈rs,jA e s v us o)(k:Int)(a:1+s*↑rs+v<=3000):gO rs us (bp us rs k)/\∀j,bi (cf (bI<|bp us rs k) j)<=1+s*↑rs+v:=by
 show KS (X:=sX us rs) (by unfold bp aJ;rw[Ù,à,Ai]) (BF h) (λc m=>?_) (Ci h) (λc m=>?_) a
 .rcases xn m with rfl |⟨o,ho,rfl⟩
  .show Λ _
  .show ũ (Bb _ (h o ho).p) (Kh ho)
 .rcases xn m with rfl |⟨o,ho,rfl⟩
  .show Ĺ _
  .show Ï (Z3 _ (h o ho).p) (h o ho).w.2
def Mw(h:∀o∈rs,jA e s v us o)(k:Int):∀c∈bp us rs k,0<=c:=λc m=>by
 rcases xn m with rfl |⟨o,a,rfl⟩
 .show ŋ
 .show uk (h o a).w.1 (h o a).p
abbrev CD(l d:Nat)(b:aL):Prop:=∃D:Int,0<D/\bi D<=d/\∀x∈b,∃a:Int,x=Ó a D/\bi a<=l
def CD.mono{l d g d':Nat}{f:aL}(h:CD l d f)(a:l<=g)(b:d<=d'):CD g d' f:=by
 let#[D,i,n,j]:=h;show#[D,i,⋯,λx m=>by let#[y,e,o]:=j x m;show#[y,e,⋯]]
def CD.bs{l d:Nat}{b:aL}(h:CD l d b)(hd:d<=l){x:Rat}(m:x∈b):Vc.bs x<=l:=by
 ∎;let#[D,f,j,i]:=h;let#[a,rfl,g]:=i x m;∎;show qm (ð f) g ⋯
def Ki(h:∀o∈rs,jA e s v us o)(hm:↑rs<=16){f:Nat}(b:Lp.iI ↑rs<2 ^ f){cs:aL}{S:Nat->Nat}{C x:Nat}(lt:∀i,i<↑rs->S i<aJ rs us)(G:0<Lp.dd ↑rs `aa S)(j:∀k,bi (cf `dp k)<=C)(n:bi (bF cs)<=x)(m:x<=C+5):CD (C+(f+5)+e*↑rs) (C+(f+5)+e*↑rs) (d8 rs us cs S):=by
 have hd:=u9 b<|Lp.gW (A:=Mx rs us) (λi k a _=>sq h a) lt;show#[bF cs*Lp.dd ↑rs `aa S,ō (eE cs 1 ∎).1 G,Ï `dl ⋯,λy d=>?_];unfold d8 at d;let#[k,l,rfl]:=æ.mp d;rw[ħ] at l;show#[_,rfl,?_];have z:=Lp.q9 (A:=Mx rs us) (λi k a _=>sq h a) lt (C:=2 ^ C) (λk=>BD<|j k) (k:=k) ⋯;show jH<|ġ z ?_;rw[show C+(f+5)+e*↑rs=5+(C+(f+e*↑rs)) by omega,ao3,ao3 2 C];have g:Lp.iI ↑rs*(2 ^ e) ^ ↑rs<2 ^ (f+e*↑rs):=by
  rw[<- Nat.pow_mul,ao3];show ak1 b<|Ϯ _
 show Nat.mul_lt_mul_of_lt_of_le (show ↑rs+1<2 ^ 5 by omega) (ϰ _<|ň g)<|as5 (Ϯ _)<|Ϯ _
end
def gO.cb{rs:av}{us:ah}{cs:aL}(h:gO rs us cs){X:Nat}(a:0<X)(hd:∀c∈cs,(c.den:Int) ∣ (X:Int)):bi (bF cs)<=bi (X:Int):=ko ((eE cs 1 ∎).2.2.2 X (Λ _) hd) a
structure yy(z:Nat)(rs:av)(us:ah)(ps:List (Str×Rat)):Prop where
 c:gO rs us `af
 d:∀S,Lp.Gd ↑rs `ad `aa S->CD z z (d8 rs us `af S)
def IZ{us:ah}{R:Nat}{ps:List (Str×Rat)}{c:Rat}(m:c∈b7 us R ps):c=0\/∃u,c=(bO ps u).getD 0:=by
 unfold b7 at m;rcases Ê.mp m with m |m
 .obtain⟨u,_,rfl⟩:=æ.mp m;show .inr #[u,rfl]
 .show .inl (Ρ m)
def BG{rs:av}{us:ah}{ps:List (Str×Rat)}{e s v N z X x y:Nat}(h:∀o∈rs,jA e s v us o)(hm:↑rs<=N)(i:N<=16)(f:0<X)(hd:∀u,((((bO ps u).getD 0).den:Nat):Int) ∣ (X:Int))(g:bi (X:Int)<=x)(l:∀u,bi ((bO ps u).getD 0).num<=y)(hz:x+y+(fb N+5)+e*N<=z)(q:z<=1000):yy z rs us ps:=by
 have j:=KR hm i;have n:=ϰ e hm;have d:∀c∈b7 us ↑rs ps,(c.den:Int) ∣ (X:Int):=λc m=>by
  rcases IZ m with rfl |⟨u,rfl⟩
  .show Λ _
  .show hd u
 let#[a,b]:=KS (rs:=rs) (us:=us) (x:=x) (y:=y) (by unfold b7 aJ;rw [Ù,Å,à]) f d g (λc m=>by
  rcases IZ m with rfl |⟨u,rfl⟩
  .show Ĺ _
  .show l u) ⋯
 show#[a,λS G=>(Ki (S:=S) h ⋯ j (C:=x+y) (x:=x) G.lt G.pos b (Ï (a.cb f d) g) ⋯).mono ⋯ ⋯]
structure rm(z:Nat)(rs:av)(us:ah):Prop where
 b:sU rs us
 y:Sz ↑rs `ad `aa
 s:∀o∈rs,0<bA us o/\bi `au<=100
 k:∀r:Int,(gO rs us (bp us rs r)/\∀c∈bp us rs r,0<=c)/\∀S,Lp.Gd ↑rs `ad `aa S->CD z z (d8 rs us (bp us rs r) S)
 nd:us.Nodup
 v:∀S:Nat->Nat,(∀i,i<↑rs->S i<aJ rs us)->bi (Lp.dd ↑rs `aa S)<=z/\∀i k,k<=aJ rs us->bi (Lp.tt ↑rs `aa S i k)<=z
 h:1<=z/\z<=1000
def My{rs:av}{us:ah}{e s v N z:Nat}(h:∀o∈rs,jA e s v us o)(hm:↑rs<=N)(j:N<=16)(A:↑us<=8)(nd:us.Nodup)(hs:s<=100)(hz:2+s*N+v+(fb N+5)+e*N<=z)(y:z<=1000):rm z rs us:=by
 have d:=KR hm j;have n:=ϰ s hm;have q:=ϰ e hm;have u:2<=fb N:=by unfold fb;split<;>decide
 have hn:aJ rs us<=60:=by unfold aJ;omega
 show#[#[⋯,⋯,λo m=>(h o m).b],Mu h ⋯ d hn ⋯,λo m=>#[(h o m).p,Ï (h o m).sb ⋯],λr=>?_,nd,λS lt=>#[Ï (u9 d<|Lp.gW (λi k f _=>sq h f) lt) ⋯,λi k l=>Ï (u9 d<|Lp.jy (λi k f _=>sq h f) lt l) ⋯],⋯]
 .obtain⟨a,b⟩:=Mv h r ⋯;show#[#[a,Mw h r],λS G=>?_];have c:bi (bF<|bp us rs r)<=1+s*N:=Ï (a.cb (BF h) λc m=>by
   rcases xn m with rfl |⟨o,g,rfl⟩
   .show Λ _
   .show ũ (Bb _ (h o g).p) (Kh g))<|Ï (Ci h) ⋯
  have:=Ki (S:=S) h ⋯ d (C:=1+s*N+v) (x:=1+s*N) G.lt G.pos (λk=>Ï (b k) ⋯) c ⋯;show this.mono ⋯ ⋯
structure Bz(N z:Nat)(rs:av)(us:ah):Prop where
 n:N<=16
 q:∀qs:av,(∀o∈qs,o∈rs)->↑qs<=N->rm z qs us
def Cj{rs:av}{us:ah}{e s v N z:Nat}(h:∀o∈rs,jA e s v us o)(a:N<=16)(g:↑us<=8)(nd:us.Nodup)(hs:s<=100)(hz:2+s*N+v+(fb N+5)+e*N<=z)(b:z<=1000):Bz N z rs us:=#[a,λ_ f d=>My (λo m=>h o<|f o m) d a g nd hs hz b]
def UW{f g:Fl}{rs:av}{us:ah}[Fp f][Fp g](a:sU rs us){R:aB}(q:R (cN T .o<|ym rs us)):lX T [.ins .o T.aah [],.af f ↥rs,.af g ↥us] λt b=>t=.aN/\rK b[0]? R:=#[rfl,f,g,rs,us,‹_›,‹_›,rfl,a,λj e=>#[rfl,by rw[e];show#[sG T _,q]]]
def Ak(rs:av)(us:ah)(cs:aL)(S:Nat->Nat):d8 rs us cs S=(É<|aJ rs us).map (λk=>Ó (Lp.zz ↑rs `aa (cf<|bI cs) S k)<|bF cs*Lp.dd ↑rs (Mx rs us) S)++[Ó (Lp.zz ↑rs `aa (cf<|bI cs) S<|aJ rs us)<|bF cs*Lp.dd ↑rs (Mx rs us) S]:=by
 unfold d8;rw[G4]
abbrev fF(rs:av)(us:ah)(S:Nat->Nat):a9:=fw ↑rs `ad `aa [] (cf<|bI<|bp us rs 0) S 0 `ad
structure kD(z:Nat)(rs:av)(us:ah)(S:Nat->Nat):Prop where
 g:Lp.Gd ↑rs `ad `aa S
 o:∀k,k<aJ rs us->0<=Lp.zz ↑rs `aa (cf<|bI<|bp us rs 0) S k
 d:CD z z (d8 rs us `al S)
inductive uX(T:Tx w K mg)(xs:ag)(Q:Tr->aA):Prop
 |mk(_:↑xs=2)(f g:Fl)(rs:av)(us:ah)(z:Nat)(_:Fp f)(_:Fp g)(_:xs=[.af f ↥rs,.af g ↥us])(_:rm z rs us)(_:∀(S:Nat->Nat),kD z rs us S->∀j,Q (cN T .o (fG rs us [d8 rs us (bp us rs 0) S] S (fF rs us S))) j):uX T xs Q
def FP{z:Bool}:aK P w K mg base bM 6 T.tJ.a T.tJ.d ["rows","unknowns"] (bU K z 0 2<|uX T):=by
 show cu T.tJ.F Oj rfl ∎ λbS A outer s H E N O B=>?_
 show#[_,(aM (jh 2<|JM T.vM (N8 T) T.MV<|QA.aC<|aj (qv 0)<|aj (qv 1) az)
  (aM (Iy<|sf (dJ 2) (fK T T.tK<|FR T)<|nP (fq (fK T T.v9<|N2 T) (qv 2)<|aj (va T.yJ) az) sj)
  (aY<|mO<|mL 2))),?_]
 intro Q L _ zy;let#[_,f,g,rs,us,U,_,_,rfl,n,q]:=zy;let#[#[x,cn],v]:=n.k 0;rfl';show UW T n.b #[ye T _,Aj rfl (by intro z;cases z)<|gE T ?_];rw[Z1];rfl';simp only[fC,gJ,ea,eu,eL];show gE T #[rfl,.l Ç,rs,us,[],S0 rs us,[],_,inferInstance,rfl,n.b,λo m=>#[(n.s o m).1,by have:=(n.s o m).2;omega],λ_=>?_];rfl';show#[rfl,.f,rs,us,[],S0 rs us,[],bp us rs 0,inferInstance,rfl,n.y,Ms,λi M h=>av5 (qe.mp h) ∅,x,by simp,by simp,n.nd,n.b.u,λS G y m=>Ï ((v S G).bs (Î _) m) (by have:=n.h.2;omega),λr G B D j e=>?_,λr e G B C J=>(Z2 G (KQ cn) (qE x.c.1) C J).elim];rw[e,eL];show#[sG T _,?_];rw[eL];show#[sG T _,q _ #[G,λk I=>D k I λh=>av5 (qe.mp h) ∅,v r G] _]
abbrev sN:bR:=([],"",0,0,1)
abbrev pick(rs:av)(ks:aG):av:=ks.map λk=>rs.getD k.toNat sN
abbrev Val(rs:av)(ks:aG):Prop:=∀k∈ks,0<=k/\k.toNat<↑rs
def xV{rs:av}{ks:aG}(h:Val rs ks){k:Int}(m:k∈ks):cW rs k=À (rs.getD k.toNat sN):=by
 let#[a,b]:=h k m;rw[xO rs a b,Ä,Ñ b];rfl
def Bc{rs:av}{us:ah}{ks:aG}{N z:Nat}(b:Bz N z rs us)(a:↑ks<=N)(d:Val rs ks):rm z `ac us:=
 b.q _ (λo m=>by
  let#[k,mk,rfl]:=æ.mp m;rw[Ä,Ñ (d k mk).2];show ϸ _) (by unfold pick;rw[Å];show a)
abbrev dK(d:List (Int×Rat)):bL:=d.map λp=>((Sum.inl p.1:aI),ae.t p.2)
def oG(d:List (Int×Rat)):mX (dK d)=Â:=by
 have:=lg<|d.map λp=>((Sum.inl p.1:aI),p.2);rw[ù] at this;show this
abbrev wR(d:List (Int×Rat))(y:Int)(k:Rat):List (Int×Rat):=if (d.any λp=>decide<|p.1=y)=Â then d.map (λp=>if p.1=y then (p.1,k) else p) else d++[(y,k)]
def Z4(d:List (Int×Rat))(y:Int)(k:Rat):kh (dK d) (Sum.inl y) (ae.t k)=dK (wR d y k):=by
 unfold kh wR;have e:((dK d).any λa=>decide<|a.1=(Sum.inl y:aI))=d.any λp=>decide (p.1=y):=by
  unfold dK;rw[an9];congr 1;funext p;show decide_eq_decide.mpr #[λz=>Sum.inl.inj z,λz=>by change (Sum.inl p.1:aI)=_;rw[z]]
 rw[e];split
 .unfold dK;rw[ù,ù];show Ī λp _=>?_
  change (if (Sum.inl p.1:aI)=Sum.inl y then ((Sum.inl p.1:aI),ae.t k) else (Sum.inl p.1,ae.t p.2))=(Sum.inl (if p.1=y then (p.1,k) else p).1,ae.t (if p.1=y then (p.1,k) else p).2)
  by_cases h:p.1=y
  .rw[av4 h,av4<|by rw[h]]
  .rw[av3 h,av3<|λz=>h<|Sum.inl.inj z]
 .unfold dK;rw[ä];rfl
def Li(d:List (Int×Rat)):Pu.aC (.aP .o<|dK d)=.aP .f (dK d):=by change Tr.aP .f (df _)=_;rw[show df (dK d)=dK d from (b8 _<|oG d).f]
def Mm(S:iq):Pu.aC `ed=cH T .f S:=by
 unfold cH gN;change Tr.ins .f _ (gy _)=_;simp only[gy,iF,Gw,fS,show Pu.aC (.aP .o<|mT S.m)=.aP .f (mT S.m) from by change Tr.aP .f (df _)=_;rw[show df (mT S.m)=mT S.m from (b8 _<|lg S.m).f]];rfl
def Lj(S:ip):Pu.aC `ee=cN T .f S:=by
 unfold cN ib;change Tr.ins .f _ (gy _)=_;simp only[gy,iF,Mm,fS];rfl
abbrev dot:aL->(Nat->Rat)->Rat
 |[],_=>0
 |c::cs,y=>c * y 0 + dot cs λk=>y<|k + 1
def w6:∀{cs:aL}{y z:Nat->Rat},(∀k,k<↑cs->y k=z k)->dot cs y=dot cs z
 |[],_,_,_=>rfl
 |c::cs,y,z,h=>by
  rw[dot,dot,h 0<|Nat.zero_lt_succ _,w6 λk a=>h (k+1)<|Nat.succ_lt_succ a]
def uJ(a:Rat):∀(cs:aL)(y:Nat->Rat),dot cs (λk=>a*y k)=a*dot cs y
 |[],_=>by rw[dot,dot];grind
 |c::cs,y=>by rw[dot,dot,uJ a cs];grind
def Be:∀(A B:aL)(y:Nat->Rat),dot (A++B) y=dot A y+dot B λk=>y<|↑A+k
 |[],B,y=>by
  rw[dot,ab4];have:(λk=>y<|([]:aL).length+k)=y:=by funext k;rw[ϔ,ap4]
  rw[this];grind
 |c::A,B,y=>by
  rw[aa3,dot,dot,Be A B];have:(λk=>y<|↑A+k+1)=λk=>y ((c::A).length+k):=by funext k;rw[Ö];congr 1;omega
  rw[this];grind
def xo:∀(n:Nat)(y:Nat->Rat),dot (Ë n 0) y=0
 |0,_=>rfl
 |n + 1,y=>by rw[ae0,dot,xo n];grind
def Al(f:Nat->Int):∀n,Lp.sm (n+1) f=f 0+Lp.sm n λk=>f<|k+1
 |0=>by rw[Lp.sm,Lp.sm,Lp.sm];omega
 |n + 1=>by rw[Lp.sm,Al f n,Lp.sm];omega
def Hv(a:Nat)(f:Nat->Int):∀b,Lp.sm (a+b) f=Lp.sm a f+Lp.sm b λk=>f<|a+k
 |0=>by rw[Nat.add_zero,Lp.sm];omega
 |b + 1=>by rw[<- ae7,Lp.sm,Hv a f b,Lp.sm];omega
def nF{b:Int}{c:Rat}(h:(c.den:Int) ∣ b):((dQ b c:Int):Rat)=b*c:=by
 let#[k,rfl]:=h;have hd:(c.den:Int)≠0:=by have:=c.den_pos;omega
 unfold dQ;rw[ĝ k hd,í,í];have e:c*(c.den:Int)=c.num:=by
  have:=Η c;rw[ý] at this;have d:((c.den:Int):Rat)≠0:=λe=>hd<|ĥ.mp e
  have m:=ś (a:=(c.num:Rat)) d;rw[this] at m;show m
 rw[<- e]
 grind
def BH{b:Int}:∀{cs:aL}(y:Nat->Int),(∀c∈cs,(c.den:Int) ∣ b)->((Lp.sm ↑cs (λk=>(cs.map<|dQ b).getD k 0*y k):Int):Rat)=b*dot cs λk=>(y k:Rat)
 |[],y,_=>by rw[dot,ϔ,Lp.sm];change (0:Rat)=_;grind
 |c::cs,y,h=>by
  rw[Ö,Al,Ķ,í,dot];have a:=BH (cs:=cs) (λk=>y<|k+1) λc m=>h c<|.tail _ m
  rw[show (λk=>((c::cs).map<|dQ b).getD (k+1) 0*y (k+1))=λk=>(cs.map<|dQ b).getD k 0*y (k+1) from rfl,a,show ((c::cs).map<|dQ b).getD 0 0=dQ b c from rfl,nF<|h c<|.head _]
  grind
abbrev hU(us:ah)(o:bR)(x:Nat->Rat):Rat:=dot `aC x - o.2.2.1
abbrev gZ(k:Str)(d:Rat):Rat:=if k="least" then (if d<0 then -d else 0) else if k="most" then (if 0<d then d else 0) else if d<0 then -d else d
abbrev kO(us:ah)(k:Int)(x:Nat->Rat):av->Rat
 |[]=>0
 |o::rs=>(if o.2.2.2.1=k then (o.2.2.2.2:Rat) * gZ o.2.1 `cg else 0) + kO us k x rs
abbrev cst(us:ah)(k:Int):av->(Nat->Rat)->Rat
 |[],_=>0
 |o::rs,y=>cb us k o * y 0 + ca us k o * y 1 + cst us k rs λj=>y<|j + 2
def I0(us:ah)(k:Int):∀(rs:av)(y:Nat->Rat),dot (rs.flatMap λo=>[cb us k o,ca us k o]) y=cst us k rs y
 |[],_=>rfl
 |o::rs,y=>by
  rw[au4,cst,<- I0 us k rs,aa3,aa3,ab4,dot,dot]
  grind
def YR(us:ah)(rs:av)(k:Int)(y:Nat->Rat):dot (bp us rs k) y=cst us k rs λj=>y (↑us+j):=by
 unfold bp;rw[Be,xo,I0,à];grind
def Z5{us:ah}{k:Int}{o:bR}{q d a b:Rat}(hs:0<bA us o)(v:0<=o.2.2.2.2)(n:0<=a)(s:0<=b)(e:b - a=- ((bA us o:Rat)*(d*q)))(y:0<=q):q*(if o.2.2.2.1=k then (o.2.2.2.2:Rat)*gZ o.2.1 d else 0)<=cb us k o*b+ca us k o*a:=by
 unfold cb ca;by_cases f:o.2.2.2.1=k
 .rw[av4 f,av4 f,av4 f];have i:(0:Rat)<(bA us o:Rat):=ß.mpr hs;have u:Ó o.2.2.2.2 `au*(bA us o:Rat)=(o.2.2.2.2:Rat):=by
   rw[ý];show ś<|ú i
  have j:0<=Ó o.2.2.2.2 `au:=uk v hs;generalize Ó o.2.2.2.2 `au=r at *;have A:=ç j n;have B:=ç j s;have z:r*b - r*a=- (q*((o.2.2.2.2:Rat)*d)):=by
   have x:r*(b - a)=r*(- ((bA us o:Rat)*(d*q))):=by rw[e]
   rw[<- u];grind
  generalize (o.2.2.2.2:Rat)=W at *;have l:q*(W*(-d))=- (q*(W*d)):=by grind
  have m:q*(W*0)=0:=by grind
  unfold gZ;generalize q*(W*d)=Z at *;by_cases h:o.2.1="least"
  .have g:¬ o.2.1="most":=by rw[h];decide
   rw[av4 h,av4 h,av3 g];split
   .rw[l];grind
   .rw[m];grind
  .rw[av3 h,av3 h];by_cases g:o.2.1="most"
   .rw[av4 g,av4 g];split
    .grind
    .rw[m];grind
   .rw[av3 g,av3 g];split
    .rw[l];grind
    .grind
 .rw[av3 f,av3 f,av3 f];grind
def Kj{us:ah}{k:Int}{x:Nat->Rat}{q:Rat}(a:0<=q):∀(rs:av)(y:Nat->Rat),(∀o∈rs,0<bA us o/\0<=o.2.2.2.2)->(∀j,j<2*↑rs->0<=y j)->(∀i o,rs[i]?=À o->y (2*i) - y (2*i+1)=- ((bA us o:Rat)*(hU us o x*q)))->q*kO us k x rs<=cst us k rs y
 |[],_,_,_,_=>by rw[kO,cst];grind
 |o::rs,y,h,nn,e=>by
  rw[kO,cst,Rat.mul_add];have d:=Z5 (k:=k) (h o<|.head _).1 (h o<|.head _).2 (nn 1 (by rw[Ö];omega)) (nn 0 (by rw[Ö];omega)) (e 0 o rfl) a;have f:=Kj (k:=k) a rs (λj=>y<|j+2) (λo m=>h o<|.tail _ m) (λj g=>nn (j+2) (by rw[Ö];omega)) λi o b=>e (i+1) o b
  grind
def Ja{us:ah}{o:bR}{R i:Nat}{y:Nat->Int}(r:i<R):Lp.sm (↑us+2*R+1) (λk=>A0 ↑us R i `aR `at k*y k)=Lp.sm ↑us (λk=>(fE us o).getD k 0*y k)+(y (↑us+2*i) - y (↑us+2*i+1))+cX us o*y (↑us+2*R):=by
 rw[Lp.sm,Hv];have j:Lp.sm ↑us (λk=>A0 ↑us R i `aR `at k*y k)=Lp.sm ↑us (λk=>(fE us o).getD k 0*y k):=Lp.a8 λk d=>by unfold A0;rw[av4 d]
 have l:=Lp.f7 (f:=λk=>A0 ↑us R i `aR `at (↑us+k)*y (↑us+k)) (a:=2*i) (b:=2*i+1) ⋯ (n:=2*R) ⋯ λk d m q=>by
  unfold A0;rw[av3 ⋯,av3 ⋯,av3 ⋯,av3 ⋯,ź]
 rw[j,l];have e:A0 ↑us R i `aR `at (↑us+2*i)=1:=by unfold A0;rw[av3 ⋯,av4 rfl]
 have g:A0 ↑us R i `aR `at (↑us+(2*i+1))=-1:=by unfold A0;rw[av3 ⋯,av3 ⋯,av4 ⋯]
 have h:A0 ↑us R i `aR `at (↑us+2*R)=cX us o:=by unfold A0;rw[av3 ⋯,av3 ⋯,av3 ⋯,av4 rfl]
 rw[e,g,h,ai8,<- ae7];omega
def kK(us:ah)(o:bR):0<bA us o/\(∀c∈d7 us o,(c.den:Int) ∣ bA us o)/\(o.2.2.1.den:Int) ∣ bA us o:=by
 have h:=eE (cO us o) 1 ∎;show#[h.1,λc m=>h.2.2.1 c<|Ê.mpr<|.inl m,h.2.2.1 _<|Ê.mpr<|.inr<|.head _]
def Ll(us:ah)(o:bR)(y:Nat->Int):((Lp.sm ↑us (λk=>(fE us o).getD k 0*y k):Int):Rat)=bA us o*dot `aC λk=>(y k:Rat):=by
 have:=BH (b:=bA us o) (cs:=d7 us o) y (kK us o).2.1;rwa[show (d7 us o).length=↑us from Å _] at this
def UX{rs:av}{us:ah}{sh:Nat->Prop}{q:Int}{y:Nat->Int}(F:Lp.gQ ↑rs `ad `aa sh q y){x:Nat->Rat}(j:∀k,k<↑us->x k*q=y k){i:Nat}{o:bR}(a:rs[i]?=À o):((y (↑us+2*i):Int):Rat) - ((y (↑us+(2*i+1)):Int):Rat)=- ((bA us o:Rat)*(hU us o x*q)):=by
 have b:=(Á.mp a).1;have k:=F.BN i b;rw[Lp.a8 (g:=λk=>sgn `at*(A0 ↑us ↑rs i `aR `at k*y k)) λk _=>by rw[qG a,Υ],Lp.bQ] at k;have h:sgn `at≠0:=by unfold sgn;split<;>decide
 have e:=(ϗ.mp k).resolve_left h;rw[show aJ rs us+1=↑us+2*↑rs+1 from rfl,Ja b,show ↑us+2*↑rs=aJ rs us from rfl,F.rhs] at e;have c:((_:Int):Rat)=((0:Int):Rat):=av9 (λz:Int=>(z:Rat)) e;rw[Ķ,Ķ,Ll,ņ,í,ĉ,show cX us o=dQ `au o.2.2.1 from rfl,nF (kK us o).2.2] at c;have d:dot `aC (λk=>(y k:Rat))=q*dot `aC x:=by
  rw[<- uJ];show w6 λk f=>?_
  rw[<- j k (by rwa[show (d7 us o).length=↑us from Å _] at f)];show ab8 _ _
 rw[d,Rat.intCast_zero] at c;unfold hU;rw[<- ae7]
 grind
def KU{rs:av}{us:ah}{cs:aL}(h:↑cs=aJ rs us)(y:Nat->Int):((Lp.sm `ad (λk=>cf `dp k*y k):Int):Rat)=bF cs*dot cs λk=>(y k:Rat):=by
 rw[<- h];show BH (b:=bF cs) (cs:=cs) y (eE cs 1 ∎).2.2.1
def BI{rs:av}{us:ah}{S:Nat->Nat}(G:Lp.Gd ↑rs `ad `aa S)(k:Nat):kC ↑rs `ad `aa S k*(Lp.dd ↑rs `aa S:Int)=(Lp.hY ↑rs `ad `aa S k:Int):=by
 unfold kC;rw[ý];show ś<|ú<|ß.mpr G.pos
def Kk(k:Str)(d:Rat):0<=gZ k d:=by
 unfold gZ
 repeat' split
 all_goals grind
def BJ{us:ah}{k:Int}{x:Nat->Rat}:∀{rs:av},(∀o∈rs,0<=o.2.2.2.2)->0<=kO us k x rs
 |[],_=>ŋ
 |o::rs,h=>by
  have b:=BJ (us:=us) (k:=k) (x:=x) λo m=>h o<|.tail _ m
  have a:(0:Rat)<=(o.2.2.2.2:Rat):=þ.mpr<|h o<|.head _;have:=ç a<|Kk o.2.1<|hU us o x;rw[kO];split<;>grind
def Am(k:Str)(d:Rat):gZ k d=0↔(k="least"->0<=d)/\(k="most"->d<=0)/\(k≠"least"->k≠"most"->d=0):=by
 unfold gZ;have ne:¬ ("most":Str)="least":=∎
 by_cases a:k="least"
 .rw[av4 a];have b:¬ k="most":=λe=>ne<|e.symm.trans a
  split<;>grind
 .rw[av3 a];by_cases b:k="most"
  .rw[av4 b];split<;>grind
  .rw[av3 b];split<;>grind
def Jb{us:ah}{x:Nat->Rat}:∀{rs:av},(∀o∈rs,o.2.2.2.1=0/\0<o.2.2.2.2)->kO us 0 x rs=0->∀o∈rs,gZ o.2.1 `cg=0
 |[],_,_,_,m=>nomatch m
 |p::rs,h,e,o,m=>by
  let#[a,b]:=h p<|.head _;rw[kO,av4 a] at e;have w:(0:Rat)<(p.2.2.2.2:Rat):=ß.mpr b;have f:=ç (ā w)<|Kk p.2.1<|hU us p x;have g:=BJ (us:=us) (k:=0) (x:=x) (rs:=rs) λo m=>ĵ (h o<|.tail _ m).2
  have d:kO us 0 x rs=0:=by grind
  rcases ã.mp m with rfl |m
  .have z1:(o.2.2.2.2:Rat)*gZ o.2.1 `cg=0:=by grind
   rcases Ň.mp z1 with z |z
   .show av5 z (ú w)
   .show z
  .show Jb (λo m=>h o (.tail _ m)) d o m
def xp(us:ah)(rs:av)(k:Int):(bp us rs k).length=aJ rs us:=by
 unfold bp aJ;rw[Ù,à,Ai]
nonrec abbrev tl(rs:av)(us:ah)(S:Nat->Nat):Nat->Rat:=kC ↑rs `ad `aa S
nonrec abbrev zr(rs:av)(us:ah)(S:Nat->Nat)(k:Nat):Int:=Lp.zz ↑rs `aa (cf<|bI<|bp us rs 0) S k
def Bf{z:Nat}{rs:av}{us:ah}{S:Nat->Nat}(h:kD z rs us S)(f:∀o∈rs,0<=o.2.2.2.2):zr rs us S `ad<=0/\(zr rs us S `ad=0->kO us 0 `dL rs=0)/\∀k,k<↑us->0<=tl rs us S k:=by
 have F:=Lp.fU (sh:=λ_=>False) h.g λ_ _ z=>z
 have d:=h.g.pos;have a:(0:Rat)<(Lp.dd ↑rs `aa S:Int):=ß.mpr d;have u:∀k,k<↑us->0<=tl rs us S k:=λk A=>by
  unfold tl kC;show uk (F.nn k (by unfold aJ;omega)) d
 have l:=Lp.iD (c:=cf<|bI<|bp us rs 0) h.g (qE (by unfold bI;rw[Å,xp]));have e:=KU (xp us rs 0)<|Lp.hY ↑rs (aJ rs us) (Mx rs us) S;rw[l] at e;have b:=ß.mpr (eE `al 1 ∎).1;have g:(Lp.dd ↑rs `aa S:Rat)*kO us 0 `dL rs<=dot `al λk=>(Lp.hY ↑rs `ad `aa S k:Rat):=by
  rw[YR];show Kj (ā a) rs _ (λo m=>#[(kK us o).1,f o m]) (λj v=>þ.mpr (F.nn _ (by unfold aJ;omega))) λi o s=>UX F (λk _=>BI h.g k) s
 have n:=ç (ā a)<|BJ (us:=us) (k:=0) (x:=tl rs us S) f;have m:=ç (ā b) (show (0:Rat)<=dot `al λk=>(Lp.hY ↑rs `ad `aa S k:Rat) by grind);show#[?_,λz=>?_,u]
 .unfold bF at e m b;rw[<- e] at m;have:=þ.mp m;unfold zr;omega
 .have z':Lp.zz ↑rs `aa (cf<|bI<|bp us rs 0) S `ad=0:=z;rw[z'] at e;have q:(0:Rat)=(bF `al:Rat)*dot `al λk=>(Lp.hY ↑rs `ad `aa S k:Rat):=by rw[<- e];rfl
  rcases Ň.mp q.symm with y |y
  .show av5 y (ú b)
  .rw[y] at g;have r:(Lp.dd ↑rs `aa S:Rat)*kO us 0 `dL rs=0:=by grind
   rcases Ň.mp r with y |y
   .show av5 y (ú a)
   .show y
def C5(m:Nat)(A:aQ)(c:Nat->Int)(S:Nat->Nat):∃u:Nat->Int,∀k,Lp.zz m A c S k=Lp.dd m A S*c k - Lp.sm m λi=>u i*A i k:=by
 show#[λi=>Lp.sm m λj=>c (S j)*Lp.dt m (Lp.up (Lp.bs A S) j λx=>if x=i then 1 else 0),λk=>?_];unfold Lp.zz;congr 1;rw[Lp.a8 (g:=λj=>Lp.sm m λi=>c (S j)*(A i k*Lp.dt m (Lp.up (Lp.bs A S) j λx=>if x=i then 1 else 0))) λj a=>by rw[Lp.g8 k a,Lp.bQ],Lp.dX];show Lp.a8 λi b=>?_
 rw[ac2,<- Lp.bQ];show Lp.a8 λj a=>?_
 grind
abbrev vj(rs:av)(us:ah)(i:Nat):Int:=match rs[i]? with
 |some o=>sgn<|cX us o
 |none=>0
abbrev AR(rs:av)(us:ah)(i k:Nat):Int:=match rs[i]? with
 |some o=>A0 ↑us ↑rs i `aR `at k
 |none=>0
def KY(rs:av)(us:ah)(i k:Nat):Mx rs us i k=vj rs us i*AR rs us i k:=by
 unfold Mx vj AR;cases rs[i]? with
 |none=>rfl
 |some o=>rfl
def lh{rs:av}{us:ah}{i:Nat}{o:bR}(h:rs[i]?=À o)(k:Nat):AR rs us i k=A0 ↑us ↑rs i `aR `at k:=by unfold AR;rw[h]
def Ih{j:Type}(f g:j->Rat):∀{xs:List j}{i:Nat}{o:j},xs[i]?=À o->(xs.flatMap λo=>[f o,g o])[2*i]?=À (f o)/\(xs.flatMap λo=>[f o,g o])[2*i+1]?=À (g o)
 |x::xs,0,o,h=>by cases h;show#[rfl,rfl]
 |x::xs,i + 1,o,h=>Ih f g (xs:=xs) (i:=i) h
def Ck{rs:av}{us:ah}{i:Nat}{o:bR}(h:rs[i]?=À o):cf (bI<|bp us rs 0) (↑us+2*i)=dQ (bF<|bp us rs 0) `eh/\cf (bI<|bp us rs 0) (↑us+2*i+1)=dQ (bF<|bp us rs 0) `ei:=by
 have at':∀j,us.length<=j->`al[j]?=(rs.flatMap λo=>[cb us 0 o,ca us 0 o])[j - ↑us]?:=λj f=>by
  unfold bp;rw[Ĕ (by rw[à];show f),à]
 let#[a,b]:=Ih (cb us 0) (ca us 0) h;have d:∀(j:Nat)(c:Rat),`al[j]?=À c->cf (bI<|bp us rs 0) j=dQ (bF<|bp us rs 0) c:=λj c e=>by
  unfold cf bI;rw[Ä,Í,e];rfl
 show#[d _ _ (by rw[at' _ ⋯,show ↑us+2*i - ↑us=2*i by omega];show a),d _ _ (by rw[at' _ ⋯,show ↑us+2*i+1 - ↑us=2*i+1 by omega];show b)]
def mM(b:Int):dQ b 0=0:=by unfold dQ;rw[show (0:Rat).num=0 from rfl,ź]
def Mn{rs:av}{us:ah}{k:Nat}(h:k<↑us):cf (bI<|bp us rs 0) k=0:=by
 unfold cf bI;rw[Ä,Í];have:`al[k]?=À 0:=by
  unfold bp;rw[ď (by rw[à];show h),İ,av4 h]
 rw[this];show mM _
structure C8(rs:av)(us:ah)(S:Nat->Nat)(l:Nat->Int):Prop where
 u:∀k,k<↑us->zr rs us S k=- Lp.sm ↑rs λi=>l i*AR rs us i k
 x:zr rs us S `ad=- Lp.sm ↑rs λi=>l i*AR rs us i `ad
 b:∀i o,rs[i]?=À o->zr rs us S (↑us+2*i)=Lp.dd ↑rs `aa S*dQ (bF<|bp us rs 0) `eh - l i
 a:∀i o,rs[i]?=À o->zr rs us S (↑us+2*i+1)=Lp.dd ↑rs `aa S*dQ (bF<|bp us rs 0) `ei+l i
def lam(rs:av)(us:ah)(S:Nat->Nat):∃l,C8 rs us S l:=by
 let#[u,e]:=C5 ↑rs `aa (cf<|bI<|bp us rs 0) S;have a:∀k,zr rs us S k=Lp.dd ↑rs `aa S*cf (bI<|bp us rs 0) k - Lp.sm ↑rs λi=>u i*vj rs us i*AR rs us i k:=λk=>by
  unfold zr;rw[e k];congr 1;show Lp.a8 λi _=>?_
  rw[KY,Υ]
 show#[λi=>u i*vj rs us i,λk d=>?_,?_,λi o h=>?_,λi o h=>?_]
 .rw[a,Mn d];omega
 .rw[a,qE (by unfold bI;rw[Å,xp])];omega
 .have hi:=(Á.mp h).1;rw[a,(Ck h).1,Lp.bH hi λj b ne=>?_,lh h]
  .unfold A0;rw[av3 ⋯,av4 rfl];omega
  .obtain⟨p,hp⟩:=mQ b;rw[lh hp];unfold A0;rw[av3 ⋯,av3 ⋯,av3 ⋯,av3 ⋯,ï]
 .have hi:=(Á.mp h).1;rw[a,(Ck h).2,Lp.bH hi λj b ne=>?_,lh h]
  .unfold A0;rw[av3 ⋯,av3 ⋯,av4 rfl];omega
  .obtain⟨p,hp⟩:=mQ b;rw[lh hp];unfold A0;rw[av3 ⋯,av3 ⋯,av3 ⋯,av3 ⋯,ï]
abbrev cv:av->(Nat->bR->Rat)->Rat
 |[],_=>0
 |o::rs,h=>h 0 o + cv rs λi=>h<|i + 1
def um:∀{rs:av}{h g:Nat->bR->Rat},(∀i o,rs[i]?=À o->h i o=g i o)->cv rs h=cv rs g
 |[],_,_,_=>rfl
 |o::rs,h,g,e=>by rw[cv,cv,e 0 o rfl,um λi o h=>e (i + 1) o h]
def xW{F:Nat->Int}:∀{rs:av}{h:Nat->bR->Rat},(∀i o,rs[i]?=À o->((F i:Int):Rat)=h i o)->((Lp.sm ↑rs F:Int):Rat)=cv rs h
 |[],_,_=>rfl
 |o::rs,h,e=>by rw[Ö,Al,Ķ,cv,e 0 o rfl,xW (F:=λk=>F<|k + 1) λi o h=>e (i + 1) o h]
def si(a:Rat):∀(rs:av)(h:Nat->bR->Rat),cv rs (λi o=>a*h i o)=a*cv rs h
 |[],_=>by rw[cv,cv];grind
 |o::rs,h=>by rw[cv,cv,si a rs];grind
def ji(rs:av)(us:ah)(cs:aL)(S:Nat->Nat){k:Nat}(h:k<=aJ rs us):(d8 rs us cs S).getD k 0=(Lp.zz ↑rs `aa (cf<|bI cs) S k:Rat) / ((bF cs*Lp.dd ↑rs `aa S:Int):Rat):=by
 unfold d8;rw[Ä,Í,ì ⋯,<- ý];rfl
def LQ{rs:av}{us:ah}{S:Nat->Nat}{l:Nat->Int}(L:C8 rs us S l)(g:∀o∈rs,o.2.2.2.1=0){i:Nat}{o:bR}(h:rs[i]?=À o):mU rs us (d8 rs us `al S) i=(l i:Rat)*(bA us o:Rat) / ((bF `al*Lp.dd ↑rs `aa S:Int):Rat):=by
 have j:=(Á.mp h).1;have a:=L.a i o h;have b:=L.b i o h;have f:=g o<|Ð h;unfold mU;rw[h];dsimp only;rw[ji _ _ _ _ (by unfold aJ;omega),ji _ _ _ _ (by unfold aJ;omega),show Lp.zz ↑rs `aa (cf<|bI<|bp us rs 0) S (↑us+2*i)=_ from b,show Lp.zz ↑rs `aa (cf<|bI<|bp us rs 0) S (↑us+2*i+1)=_ from a];generalize ((bF `al*Lp.dd ↑rs `aa S:Int):Rat)=D;unfold qV cb ca;rw[av4 f,av4 f];by_cases d:o.2.1="least"
 .rw[av4 d,av4 d,mM,ï,ab1]
  grind
 .rw[av3 d,av3 d];by_cases e:o.2.1="most"
  .rw[av4 e,av4 e,mM,ï,ĉ,ņ]
   grind
  .have e2:Ó `au 2=(bA us o:Rat) / 2:=by rw[ý];rfl
   rw[av3 e,av3 e,e2,ņ,Ķ];generalize ((_*_:Int):Rat)=C
   grind
abbrev qY(m:Rat)(ks:aG)(ps:aL):List (Int×Rat):=(ks.zip ps).filterMap λp=>if p.2=0 then Æ else À (p.1,p.2 / m)
nonrec abbrev cj(rs:av)(k:Int):bR:=rs.getD k.toNat sN
abbrev fD(rs:av)(f:bR->Rat):List (Int×Rat)->Rat
 |[]=>0
 |p::d=>p.2 * f (cj rs p.1) + fD rs f d
def Jc(rs:av)(f:bR->Rat)(m:Rat):∀{ks:aG}{ps:aL},ks.length=↑ps->fD rs f (qY m ks ps)=cv `ac λi o=>ps.getD i 0 / m*f o
 |[],[],_=>rfl
 |k::ks,x::ps,h=>by
  have a:=Jc rs f m (ks:=ks) (ps:=ps)<|Ť h;change fD rs f (qY m (k::ks) (x::ps))=x / m*f `bB+cv `ac λi o=>ps.getD i 0 / m*f o
  rw[<- a];unfold qY;rw[ϻ,Ř];dsimp only;by_cases z:x=0
  .rw[av4 z,z];dsimp only
   grind
  .rw[av3 z];rfl
structure Cw(rs:av)(us:ah)(d:List (Int×Rat)):Prop where
 s:∀p∈d,((cj rs p.1).2.1="least"->0<=p.2)/\((cj rs p.1).2.1="most"->p.2<=0)
 c:∀u∈us,fD rs (λo=>(bO o.1 u).getD 0) d<=0
 r:fD rs (λo=>o.2.2.1) d=1
def Jd{rs:av}{ks:aG}{i:Nat}{k:Int}(h:ks[i]?=À k):`ac[i]?=À `bB:=by
 unfold pick;rw[Í,h];rfl
def JN{rs:av}{us:ah}{a:aL}{i:Nat}(h:i<↑rs):(eH rs us a).getD i 0=mU rs us a i:=by
 unfold eH;rw[Ä,Í,ì h];rfl
def KZ{z:Nat}{rs:av}{us:ah}{S:Nat->Nat}{ks:aG}(h:kD z `ac us S)(A:∀o∈pick rs ks,o.2.2.2.1=0/\0<o.2.2.2.2)(Y:zr `ac us S (aJ `ac us)≠0){m:Rat}(hm:m=0 - (d8 `ac us (bp us `ac 0) S).getD (aJ `ac us) 0):Cw rs us (qY m ks<|eH (pick rs ks) us<|d8 (pick rs ks) us (bp us (pick rs ks) 0) S):=by
 let#[l,L]:=lam `ac us S;have U:=(Bf h λo m=>ĵ (A o m).2).1;have y:=λo m=>(A o m).1
 have O:(0:Rat)<((bF (bp us `ac 0)*Lp.dd (pick rs ks).length (Mx `ac us) S:Int):Rat):=ß.mpr<|ō (eE _ 1 ∎).1 h.g.pos;rw[ji _ _ _ _<|Î _,show Lp.zz _ _ _ S (aJ (pick rs ks) us)=zr (pick rs ks) us S (aJ (pick rs ks) us) from rfl] at hm;have j:(0:Rat)<((- zr `ac us S (aJ `ac us):Int):Rat):=ß.mpr ⋯;have v:∀i o,`ac[i]?=À o->(eH `ac us<|d8 (pick rs ks) us (bp us (pick rs ks) 0) S).getD i 0 / m=(l i:Rat)*(bA us o:Rat) / ((- zr `ac us S (aJ `ac us):Int):Rat):=λi o e=>by
  rw[JN (Á.mp e).1,LQ L y e,hm];rw[ĉ] at j ⊢;generalize ((bF (bp us `ac 0)*Lp.dd (pick rs ks).length (Mx `ac us) S:Int):Rat)=D at *;generalize (zr `ac us S (aJ `ac us):Rat)=V at *;have d0:D≠0:=ú O;have v0:-V≠0:=ú j
  grind
 have r:∀(f:bR->Rat)(k:Nat),(∀i o,`ac[i]?=À o->(bA us o:Rat)*f o=(AR `ac us i k:Rat))->fD rs f (qY m ks<|eH (pick rs ks) us<|d8 (pick rs ks) us (bp us (pick rs ks) 0) S)=((Lp.sm (pick rs ks).length λi=>l i*AR `ac us i k:Int):Rat) / ((- zr `ac us S (aJ `ac us):Int):Rat):=λf k Q=>by
  rw[Jc rs f m (by unfold eH pick;rw[Å,Û,Å]),xW (h:=λi o=>(l i:Rat)*((bA us o:Rat)*f o)) λi o e=>by rw[í,Q i o e]];rw[Ć,ab8,<- si];show um λi o e=>?_
  rw[v i o e,Ć]
  grind
 show#[λp E=>?_,λu mu=>?_,?_]
 .unfold qY at E;let#[#[k,x],mk,e]:=œ.mp E;dsimp only at e;by_cases I:x=0
  .rw[av4 I] at e;cases e
  .rw[av3 I] at e;cases e;let#[i,N]:=ć mk;let#[J,M]:=Ŵ.mp N;have d:=Jd (rs:=rs) J;have w:=v i _ d;rw[Ä,M,af7] at w;dsimp only;rw[w];have B:=L.a i _ d;have C:=L.b i _ d;have il:=(Á.mp d).1;have oa:=h.o (↑us+2*i+1) (by unfold aJ;omega);have ob:=h.o (↑us+2*i) (by unfold aJ;omega);have G:(0:Rat)<(bA us `bB:Rat):=ß.mpr (kK us _).1;have n:=y _<|Ð d;have H:=ŗ.mpr j;show#[λs=>?_,λs=>?_]
   .have c0:ca us 0 `bB=0:=by unfold ca;rw[av4 n,av4 s]
    rw[c0,mM,ï,ab1] at B;have q:0<=l i:=by rw[<- B];show oa
    rw[Ć];show ç (ç `eQ<|ā G)<|ā H
   .have c0:cb us 0 `bB=0:=by unfold cb;rw[av4 n,av4 s]
    rw[c0,mM,ï,ab2] at C;have q:0<=- l i:=by rw[<- C];show ob
    have:=ç (ç `eQ<|ā G)<|ā H;rw[ĉ] at this;rw[Ć]
    grind
 .obtain⟨k,ek⟩:=ć mu;have n:=(Á.mp ek).1;rw[r _ k λi o e=>?_]
  .have lu:=L.u k n;have ou:=h.o k (by unfold aJ;omega);have q:0<=- Lp.sm (pick rs ks).length λi=>l i*AR `ac us i k:=by rw[<- lu];show ou
   have:=ç `eQ<|ā<|ŗ.mpr j;rw[ĉ] at this;rw[Ć]
   grind
  .rw[lh e];unfold A0 fE;rw[av4 n,Ä,Í];have d:`aC[k]?=À ((bO o.1 u).getD 0):=by unfold d7;rw[Í,ek];rfl
   rw[d];show (nF<|(kK us o).2.1 _<|Ð d).symm
 .rw[r _ (aJ `ac us) λi o e=>?_]
  .have lx:(Lp.sm (pick rs ks).length λi=>l i*AR `ac us i (aJ `ac us))=- zr `ac us S (aJ `ac us):=by rw[L.x,Int.neg_neg]
   rw[lx];rw[Ć];show Ŝ _<|ú j
  .have hi:=(Á.mp e).1;rw[lh e];unfold A0 aJ cX;rw[av3 ⋯,av3 ⋯,av3 ⋯,av4 rfl];show (nF (kK us o).2.2).symm
abbrev Fz(rs:av)(us:ah)(ks:aG):Prop:=∃x:Nat->Rat,(∀k,k<↑us->0<=x k)/\∀k∈ks,gZ (cj rs k).2.1 (hU us `bB x)=0
def Fz.mono{rs:av}{us:ah}{ks a:aG}(h:Fz rs us ks)(s:∀k∈a,k∈ks):Fz rs us a:=by
 let#[x,b,d]:=h;show#[x,b,λk m=>d k<|s k m]
abbrev ij(rs:av)(ks:aG):Prop:=∀k∈ks,(cj rs k).2.2.2.1=0/\0<(cj rs k).2.2.2.2
def ij.p{rs:av}{ks:aG}(h:ij rs ks):∀o∈pick rs ks,o.2.2.2.1=0/\0<o.2.2.2.2:=λo m=>by
 let#[k,mk,rfl]:=æ.mp m;show h k mk
def Je(rs:av)(f g:bR->Rat):∀d:List (Int×Rat),fD rs (λo=>f o - g o) d=fD rs f d - fD rs g d
 |[]=>by rw[fD,fD,fD];grind
 |p::d=>by rw[fD,fD,fD,Je rs f g d];grind
def Cm:∀(us:ah)(x:Nat->Rat),dot (us.map λ_=>(0:Rat)) x=0
 |[],_=>rfl
 |u::us,x=>by rw[ñ,dot,Cm us];grind
def Bg(a:Rat)(f g:Str->Rat):∀(us:ah)(x:Nat->Rat),dot (us.map λu=>a*f u+g u) x=a*dot (us.map f) x+dot (us.map g) x
 |[],_=>by rw[af5,af5,af5,dot];grind
 |u::us,x=>by rw[ñ,ñ,ñ,dot,dot,dot,Bg a f g us];grind
def Jf(rs:av)(us:ah)(x:Nat->Rat):∀d:List (Int×Rat),fD rs (λo=>dot `aC x) d=dot (us.map λu=>fD rs (λo=>(bO o.1 u).getD 0) d) x
 |[]=>(Cm us x).symm
 |p::d=>by
  change p.2*dot (d7 us<|cj rs p.1) x+fD rs (λo=>dot `aC x) d=dot (us.map λu=>p.2*(bO (cj rs p.1).1 u).getD 0+fD rs (λo=>(bO o.1 u).getD 0) d) x;rw[Jf rs us x d,Bg p.2 (λu=>(bO (cj rs p.1).1 u).getD 0)<|λu=>fD rs (λo=>(bO o.1 u).getD 0) d];rfl
def JO(f:Str->Rat):∀(us:ah)(x:Nat->Rat),(∀u∈us,f u<=0)->(∀k,k<↑us->0<=x k)->dot (us.map f) x<=0
 |[],_,_,_=>ŋ
 |u::us,x,hf,hx=>by
  rw[ñ,dot];have a:=JO f us (λk=>x<|k+1) (λu m=>hf u<|.tail _ m) λk d=>hx (k+1) (by rw[Ö];omega)
  have b:=ç (show 0<=- f u by have:=hf u<|.head _;grind) (hx 0 (by rw[Ö];omega))
  grind
def Cw.no{rs:av}{us:ah}{d:List (Int×Rat)}{ks:aG}(h:Cw rs us d)(e:∀p∈d,p.1∈ks):¬ Fz rs us ks:=by
 rintro⟨x,v,l⟩;have g:∀d:List (Int×Rat),(∀p∈d,((cj rs p.1).2.1="least"->0<=p.2)/\((cj rs p.1).2.1="most"->p.2<=0))->(∀p∈d,p.1∈ks)->0<=fD rs (λo=>hU us o x) d:=λd=>by
  induction d with
  |nil=>intros;show ŋ
  |cons p d n=>
   intro j e;have i:=n (λp m=>j p<|.tail _ m) λp m=>e p<|.tail _ m
   ∎;let#[a,b,c]:=(Am _ _).mp<|l p.1<|e p<|.head _;let#[q,u]:=j p<|.head _;∎;rw[fD];have t:0<=p.2*hU us (cj rs p.1) x:=by
    by_cases f:(cj rs p.1).2.1="least"
    .show ç (q f) (a f)
    .by_cases k2:(cj rs p.1).2.1="most"
     .have:=ç (show 0<=-p.2 by have:=u k2;grind) (show 0<=- hU us (cj rs p.1) x by have:=b k2;grind)
      grind
     .rw[c f k2];grind
   grind
 have k:=g d h.s e;rw[show (λo=>hU us o x)=λo=>dot `aC x - o.2.2.1 from rfl,Je,Jf,h.r] at k;have:=JO _ us x h.c v
 grind
structure m8(z:Nat)(rs:av)(us:ah)(ks:aG)(d:List (Int×Rat)):Prop where
 c:Cw rs us d
 l:(d.map (·.1)).Sublist ks
 b:∀p∈d,bs p.2<=3*z+102
abbrev MS(z:Nat)(rs:av)(us:ah)(ks:aG)(d:List (Int×Rat)):Prop:=(d=[]/\Fz rs us ks)\/(d≠[]/\m8 z rs us ks d)
def m8.k{z:Nat}{rs:av}{us:ah}{ks:aG}{d:List (Int×Rat)}(h:m8 z rs us ks d):∀p∈d,p.1∈ks:=λ_ m=>h.l.subset<|Ę m
def m8.ne{z:Nat}{rs:av}{us:ah}{ks:aG}{d:List (Int×Rat)}(h:m8 z rs us ks d):d≠[]:=λe=>by
 have:=h.c.r;rw[e,fD] at this;show av5 this ∎
structure vz(z:Nat)(rs:av)(us:ah)(ks:aG)(d:List (Int×Rat)):Prop where
 s:m8 z rs us ks d
 m:∀k∈d.map (·.1),Fz rs us ((d.map (·.1)).filter λx=>!decide (x=k))
def JP{rs:av}{us:ah}{a:aL}{z:Nat}(b:1<=z)(h:∀y∈a,bs y<=z)(hs:∀o∈rs,bi `au<=100):∀x∈eH rs us a,bs x<=2*z+101:=by
 intro x m;unfold eH at m;let#[i,_,rfl]:=æ.mp m;have at':∀j,bs (a.getD j 0)<=z:=λj=>by
  rw[Ä];cases e:a[j]? with
  |none=>change bs 0<=z;rw[kx];show b
  |some y=>show h y<|Ð e
 unfold mU;cases e:rs[i]? with
 |none=>change bs 0 <= _;rw[kx];omega
 |some o=>
  have so:=hs o<|Ð e;have l:=at'<|↑us+2*i;have n:=at'<|↑us+2*i+1;have d:=xT so;have f:=xT (x:=-bA us o) (by unfold bi;rw[Φ];show so);have g:bs (Ó `au 2)<=100:=qm ∎ so (by walk_at "k");change bs (qV _ _ _ _)<=_;unfold qV;split
  .have:=uB (a.getD (↑us+2*i+1) 0) (bA us o:Rat);omega
  .split
   .have:=uB (a.getD (↑us+2*i) 0) ((-bA us o:Int):Rat);omega
   .have:=uB (a.getD (↑us+2*i+1) 0 - a.getD (↑us+2*i) 0)<|Ó (bA us o) 2;have:=xG (a.getD (↑us+2*i+1) 0)<|a.getD (↑us+2*i) 0;omega
def UY{d:List (Int×Rat)}{y:Int}{k:Rat}(h:∀p∈d,p.1≠y):wR d y k=d++[(y,k)]:=by
 unfold wR;rw[av3];intro e;let#[p,m,e]:=Ż.mp e;show h p m<|av8 e
def P1{ks:aG}(h:ks.Nodup){i:Nat}{u:Int}(e:ks[i]?=À u):¬ u∈ks.take i:=λm=>by
 ∎;let#[j,f,b]:=ę.mp m;let#[d,a]:=Á.mp e;∎;show (ŵ.mp h) j i ⋯ d ⋯ (b.trans a.symm)
abbrev kQ(m:Rat)(p:Int×Rat):Option (Int×Rat):=if p.2=0 then Æ else À (p.1,p.2 / m)
def wg{m:Rat}:∀{ks:aG}{ps:aL},(((ks.zip ps).filterMap<|kQ m).map (·.1)).Sublist ks
 |[],_=>by rw[List.zip_nil_left];show Ļ _
 |k::ks,[]=>by rw[List.zip_nil_right];show List.nil_sublist _
 |k::ks,x::ps=>by
  rw[ϻ,Ř];unfold kQ;by_cases z:x=0
  .rw[av4 z];show (wg (m:=m) (ks:=ks) (ps:=ps)).cons _
  .rw[av3 z];show (wg (m:=m) (ks:=ks) (ps:=ps)).cons_cons _
def UZ{m:Rat}{ks:aG}{ps:aL}{i:Nat}:∀p∈((ks.zip ps).take i).filterMap (kQ m),p.1∈ks.take i/\∃x∈ps,p.2=x / m:=λp h=>by
 let#[#[k,x],l,e]:=œ.mp h;unfold kQ at e;by_cases z:x=0
 .rw[av4 z] at e;cases e
 .rw[av3 z] at e;cases e;let#[j,o,d]:=ę.mp l;have f:(ks.zip ps)[j]?=À (k,x):=Á.mpr #[⋯,d];let#[a,b]:=Ŵ.mp f;let#[n,g]:=Á.mp a;show#[ę.mpr #[j,⋯,g],x,Ð b,rfl]
def LR{z:Nat}{rs:av}{us:ah}{S:Nat->Nat}(f:kD z rs us S):∃a b,d8 rs us `al S=a++[b]/\(b=0↔zr rs us S `ad=0)/\∀y∈a++[b],bs y<=z:=by
 show#[_,_,Ak _ _ _ _,?_,λy m=>f.d.bs (Î _) (by rw[Ak];show m)];have h:=ú<|ŗ.mpr<|ß.mpr<|ō (eE (bp us rs 0) 1 ∎).1 f.g.pos;rw[ý,Ć];constructor
 .intro e;rcases Ň.mp e with e |e
  .show ĥ.mp e
  .show av5 e h
 .intro e;rw[show Lp.zz _ _ _ S `ad=0 from e];show ar1 _
inductive jT(xs:ag)(Q:Tr->aA):Prop
 |mk(_:↑xs=3)(f g h:Fl)(rs:av)(us:ah)(ks:aG)(N zz:Nat)(_:Fp f)(_:Fp g)(_:Fp h)(_:xs=[.af f ↥rs,.af g ↥us,.af h ↥ks])(_:Bz N zz rs us)(_:↑us<=8)(_:↑ks<=N)(_:Val rs ks)(_:ks.Nodup)(_:ij rs ks)(_:∀d:List (Int×Rat),MS zz rs us ks d->∀j,Q (.aP .o (dK d)) j):jT xs Q
def FZ{z:Bool}:aK P w K mg base bM 7 T.sW.a T.sW.d ["rows","unknowns","numbers"] (bU K z 0 3 jT):=by
 show cu T.sW.F Ox rfl ∎ ?_
 intros
 show#[_,(aM (bN 3<|qc T.tJ (FP T)<|aj (fT ["number","rows"] [Æ,À 0] (fL<|qv 2) (cT 0) (λ_ _ _ _ _=>(aV (qv 1)<|qv 0)))<|aj (qv 1) az)
  (aM (bN 4<|fq (fK T T.tL<|FY T) (qv 3)<|aj aw az)
  (aM (jh 5 uF)
  (aM (cA (bY dN dO (qv 4)<|jJ [0,1] T.jC T.jD) (aY<|mO<|mL 5) cz)
  (aM (gI (lz T.kZ<|aj (qv 2)<|aj (fq (fK T T.tN<|FT T) (qv 3)<|aj (aV (cF K<|qv 3) aw) az) az) (iA (n:=2) rfl<|dR (c7 6)<|dR (c7 7) ir)<|aY<|cA (bY jj ja (qv 7)<|jJ [0,1] T.jC T.jD) (aY<|u3 (dJ 5) (qv 6)<|qc T.rE (A9 T)<|aj (qv 7)<|aj (qv 4) az) cz)
  (aY<|mO<|mL 5)))))),?_]
 intro xs Q' _ zy;let#[_,f,g,h,rs,us,ks,N,zz,_,_,_,rfl,E,ι,Y,hv,nd,O,q]:=zy;have ε:=E.n;have B:=Bc E Y hv;have κ:=B.h.2;rfl';show a7.map ks _ (λk=>rs.getD k.toNat sN) ⋯ (λk mk R B=>?_) ?_
 .rfl';show dE _ _ _ (xV hv mk) B
 rfl';show#[rfl,.f,g,pick rs ks,us,zz,inferInstance,‹_›,rfl,B,λS J _=>?_];have v:(d8 `ac us (bp us `ac 0) S).length=aJ `ac us+1:=by unfold d8;rw[Å,Û]
 have hC:=J.d;have Q:=λm hm β=>KZ (m:=m) J O.p β hm
 have hT:=Bf J λo m=>ĵ (O.p o m).2
 have A:(d8 `ac us (bp us `ac 0) S).getD (aJ `ac us) 0=0↔zr `ac us S (aJ `ac us)=0:=by
  rw[ji _ _ _ _<|Î _,Ć];have hD:=ú<|ŗ.mpr<|ß.mpr<|ō (eE (bp us (pick rs ks) 0) 1 ∎).1 J.g.pos;constructor
  .intro e;rcases Ň.mp e with e |e
   .show ĥ.mp e
   .show av5 e hD
  .intro e;rw[show Lp.zz _ _ _ S (aJ `ac us)=0 from e];show ar1 _
 obtain⟨u,l,er⟩:∃u l,d8 `ac us (bp us `ac 0) S=u++[l]:=#[_,_,Ak _ _ _ _];rw[er] at v hC Q A;have hl:↑u=aJ `ac us:=by rw[Ù] at v;show Ť v
 have ex:(u++[l]).getD (aJ `ac us) 0=l:=by rw[Ä,Ĕ ⋯,hl,ag7];rfl
 rw[ex] at A Q;have C:[u++[l]][0]?=À (u++[l]):=rfl;have L:∀y∈u++[l],bs y<=zz:=λy m=>hC.bs (Î _) m
 have δ:=L l<|Ê.mpr<|.inr<|.head _;have ζ:=B.b.r;rw[er];simp only[Lj,fC,gJ,ea,eu,eL];show#[ye T _,gE T #[rfl,.f,_,0,u,l,inferInstance,rfl,C,⋯,λ_=>?_]];have α:=xG 0 l;have η:bs (0 - l)<=zz:=by rw[show 0 - l=-l by grind];show Ï (xH l) δ
 rw[kx] at α;rfl';show#[rfl,uL ?_];rfl';by_cases I:0 - l=0
 .rw[av4<|av6 I];have hz:=A.mp (by grind);show#[rfl,q [] (.inl #[rfl,_,hT.2.2,λk mk=>Jb O.p (hT.2.1 hz) _<|Ę mk]) _]
 .rw[av3<|by simpa using I];show gE T<|rS T ?_;rw[gT,gS];show dE _ _ _ (eN (s:=0) C) ?_;rw[iF,jm];show#[rfl,.f,.f,pick rs ks,us,_,S,fF `ac us S,u++[l],inferInstance,inferInstance,rfl,⋯,v,λy m=>Ï (L y m) ⋯,λo m=>(B.s o m).2,λ_=>?_];have D:=JP (rs:=pick rs ks) (us:=us) B.h.1 L λo m=>(B.s o m).2
  have M:=Q (0 - l) rfl λe=>I (by rw[A.mpr e];grind)
  have H:=λi=>UZ (m:=0 - l) (ks:=ks) (ps:=eH `ac us<|u++[l]) (i:=i)
  have γ:=wg (m:=0 - l) (ks:=ks) (ps:=eH `ac us<|u++[l]);have G:m8 zz rs us ks (qY (0 - l) ks<|eH (pick rs ks) us<|u++[l]):=#[M,γ,λp mp=>by
   let#[_,x,mx,e]:=H (ks.zip<|eH (pick rs ks) us<|u++[l]).length p (by rw[Ġ];show mp);rw[e];have:=xU (a:=x) I;have:=D x mx;omega]
  rw[fS,ae4,hG,oU,xb];have θ:(eH `ac us<|u++[l]).length=↑ks:=by unfold eH pick;rw[Å,Û,Å]
  generalize eH `ac us (u++[l])=ps at *;show#[ll _,Loop.map (ks.zip ps) _ (λi j=>∃(a b:Tr),j=[.af f ↥rs,.af g ↥us,.af h ↥ks,cN T .f<|fG (pick rs ks) us [u++[l]] S (fF (pick rs ks) us S),ae.t<|0 - l,.aP .o<|dK<|((ks.zip ps).take i).filterMap<|kQ<|0 - l,a,b]) #[_,_,rfl] ?_ ?_]
  .rintro i ⟨k,x⟩ j hi ⟨a,b,rfl⟩;let#[e1,e2]:=Ŵ.mp hi;have U:=(Á.mp hi).1;have tk:((ks.zip ps).take<|i+1).filterMap (kQ<|0 - l)=((ks.zip ps).take i).filterMap (kQ<|0 - l)++(kQ (0 - l) (k,x)).toList:=by
    rw[ĕ,hi,List.filterMap_append,af0,Ř,List.filterMap_nil];cases kQ (0 - l) (k,x)<;>rfl
   rw[ż] at U;rw[tk];rfl';show uL ?_;rfl';by_cases A:x=0
   .rw[av3 (by simp[A]),show kQ (0 - l) (k,x)=Æ from av4 A,Option.toList_none,Č];show#[_,_,rfl]
   .rw[av4 (by simp[A]),show kQ (0 - l) (k,x)=À (k,x / (0 - l)) from av3 A,af0];have:=D x<|Ð e2;have hd:=List.length_filterMap_le (kQ<|0 - l)<|(ks.zip ps).take i;rw[ĭ] at hd;show#[rfl,x,0 - l,rfl,I,⋯,λ_=>?_];rw[iF,Z4,UY (y:=k) λp mp e=>P1 nd e1 (show k∈ks.take i by have:=(H i p mp).1;rwa[e] at this)];show#[jM _,by unfold dK;rw[Å];omega,_,_,rfl]
  .rintro j ⟨a,b,rfl⟩;rfl';rw[Ġ];show#[(b8 _<|oG _).o,q _ (.inr #[G.ne,G]) _]
inductive iJ(xs:ag)(Q:Tr->aA):Prop
 |mk(_:↑xs=3)(f g h:Fl)(rs:av)(us:ah)(ks:aG)(N zz:Nat)(_:Fp f)(_:Fp g)(_:Fp h)(_:xs=[.af f ↥rs,.af g ↥us,.af h ↥ks])(_:Bz N zz rs us)(_:↑us<=8)(_:↑ks<=N)(_:Val rs ks)(_:ks.Nodup)(_:ij rs ks)(_:¬ Fz rs us ks)(_:∀d:List (Int×Rat),vz zz rs us ks d->∀j,Q (.aP .f (dK d)) j):iJ xs Q
def OS:aK P w K mg base bM 8 T.vO.a T.vO.d ["rows","unknowns","numbers"] (bU K Â 0 3 iJ):=by
 show cu T.vO.F Oy rfl ∎ ?_
 intros
 show#[_,(aM (bN 3<|qc T.sW (FZ T)<|aj (qv 0)<|aj (qv 1)<|aj (qv 2) az)
  (aM (gI (fL<|mK (oD rfl) oy T.jB<|aj (qv 3) az) (c7 4) (aY (cA (bY CM Bs (qv 4)<|qv 3) (aM (bN 5 (qc T.sW (FZ T) (aj `cV (aj `bK (aj (Vi rfl (AK (xu (N:=["other","number"]) (ix:=[Æ,À 4]) rfl (Wy<|pv 3) (λ_ _ _ _ _=>AG (show (["other","number"]:ah).Nodup by decide) rfl `ao<|.inr rfl) (λ_ _ _ _ _=>HU<|HI EI (pv 0) (pv 1)<|Yt _) (λ_ _ _ _ _=>pv 0) #[rfl,rfl,rfl,ô]))) az)))))
  (aY<|bN 3<|xZ (z'z rfl<|qv 5) (qv 5)<|qv 3)) cz)))
  (aY<|bJ<|qv 3))),?_]
 intro xs Q' _ zy;let#[_,f,g,h,rs,us,ks,N,zz,_,_,_,rfl,C,I,E,hv,nd,hM,Q,q]:=zy;have α:=C.n;rfl';show#[rfl,f,g,h,rs,us,ks,N,zz,‹_›,‹_›,‹_›,rfl,C,I,E,hv,nd,hM,λd hd _=>?_];rcases hd with⟨_,hd⟩ |⟨_,hd⟩
 .show av5 hd Q
 rw[Li];rfl';have B:∀d:List (Int×Rat),(dK d).map (λp=>kf p.1)=(d.map (·.1)).map ae.t:=λd=>by
  unfold dK;rw[ù,ù];rfl
 have M:∀d:List (Int×Rat),(dK d).map (·.1)=(d.map (·.1)).map λn=>(Sum.inl n:aI):=λd=>by
  unfold dK;rw[ù,ù];rfl
 have H:∀(d:List (Int×Rat))(k:Int),(look (dK d)<|Sum.inl k).isSome=Â↔k∈d.map (·.1):=λd k=>by
  unfold look dK;rw[ϕ,aj9,ϕ,au7,Ż];constructor
  .rintro⟨p,U,e⟩;have e:p.1=k:=Sum.inl.inj<|av8 e;rw[<- e];show Ę U
  .intro m;let#[p,U,rfl]:=æ.mp m;show#[p,U,av6 rfl]
 show#[(b8 _<|oG d).t,?_];rw[IM,B,fS,hG,oU];show#[ll _,Loop.map (d.map (·.1)) _ (λi j=>∃(r:List (Int×Rat))(a b:Tr),j=[.af f ↥rs,.af g ↥us,.af h ↥ks,.aP .f<|dK r,a,b]/\m8 zz rs us ks r/\(r.map (·.1)).Sublist (d.map (·.1))/\∀k∈(d.map (·.1)).take i,k∈r.map (·.1)->Fz rs us ((r.map (·.1)).filter λx=>!decide (x=k))) #[d,_,_,rfl,hd,Ļ _,λk m=>(by rw[ad4] at m;cases m)] ?_ ?_]
 .rintro i k j hi ⟨r,a,b,rfl,hs',hl',hf'⟩;have Y:(d.map (·.1)).take (i+1)=(d.map (·.1)).take i++[k]:=by rw[ĕ,hi];rfl
  have β:↑r<=↑ks:=by have:=hs'.l.length_le;rwa[Å] at this
  rfl';change if ((look (dK r)<|Sum.inl k).isSome)=Â then _ else _
  split
  .next z=>
   have z:=(H r k).mp z;show#[dK r,r.map (·.1),k,rfl,M r,rfl,by rw[Å];omega,?_];have v:((r.map (·.1)).filter λx=>!decide (x=k)).Sublist ks:=List.Sublist.trans Ϭ hs'.l;have J:Val rs ((r.map (·.1)).filter λx=>!decide (x=k)):=λx s=>hv x<|v.subset s
   have G:((r.map (·.1)).filter λx=>!decide (x=k)).length<=N:=Ï v.length_le E;have e1:cV (bz (((r.map (·.1)).filter λx=>!decide (x=k)).map Tr.int))=((r.map (·.1)).filter λx=>!decide (x=k)).map ae.t:=by rw[show ((r.map (·.1)).filter λx=>!decide (x=k)).map Tr.int=((r.map (·.1)).filter λx=>!decide (x=k)).map ae.t from rfl,sC,uY]
   rw[e1];show#[rfl,f,g,.f,rs,us,_,N,zz,‹_›,‹_›,inferInstance,rfl,C,I,G,J,v.nodup nd,λx s=>hM x<|v.subset s,λD u _=>?_];rw[Li];rfl';show#[(b8 _<|oG D).t,?_];have O:((dK D).isEmpty=Â)↔D=[]:=by unfold dK;rw[List.isEmpty_iff,List.map_eq_nil_iff]
   rcases u with⟨rfl,L⟩ |⟨n2,u⟩
   .show⟨(b8 _ (oG r)).t,r,_,_,rfl,hs',hl',λx s A=>?_⟩;rw[Y] at s;rcases Ê.mp s with s |s
    .show hf' x s A
    .rw[è.mp s];show L
   .rw [av4 (by cases e:(dK D).isEmpty with
     |true=>show av5 (O.mp e) n2
     |false=>rfl)]
    show#[(b8 _<|oG D).t,D,_,_,rfl,#[u.c,u.l.trans v,u.b],u.l.trans<|Ϭ.trans hl',λx s A=>?_];rw[Y] at s;rcases Ê.mp s with s |s
    .show (hf' x s (Ĳ.mp (u.l.subset A)).1).mono λy my=>?_
     let#[m1,m2]:=Ĳ.mp my;show Ĳ.mpr #[(Ĳ.mp<|u.l.subset m1).1,m2]
    .rw[è.mp s] at A;have:=(Ĳ.mp<|u.l.subset A).2;simp at this
  .next z=>
   have z:¬ k∈r.map (·.1):=λm=>z<|(H r k).mpr m
   show#[r,_,_,rfl,hs',hl',λx s A=>?_];rw[Y] at s;rcases Ê.mp s with s |s
   .show hf' x s A
   .rw[è.mp s] at A;show av5 A z
 .rintro j ⟨r,a,b,rfl,hs',hl',hf'⟩;rw[Ġ] at hf';rfl';show#[(b8 _<|oG r).o,q r #[hs',λk m=>hf' k (hl'.subset m) m] _]
def Oa:aK P w K mg base bM 1 T.mw.a T.mw.d ["self","numbers","weights"] (zw K T.abC):=by
 show T.mw.F.ok N6 (λvs H Q E h=>?_) λbS A outer s H vs Q E f h=>?_
 .obtain⟨_,_,_,_,_,rfl,_⟩:=h;rfl
 .obtain⟨e,a,b,xs,ys,rfl,he,ha,hb,q⟩:=h;show#[_,Ar (xr<|LJ T.mw.t rfl T.M6<|oJ (pv 0)<|oJ Jk qA)<|Ar (KO T.mw.t T.Dh (pv 0) (Ab yK rfl T.jB rfl<|oJ (pv 1) qA) rfl)<|AF<|KO T.mw.t T.Di (pv 0) (Ab yK rfl T.jB rfl<|oJ (pv 2) qA) rfl,XA he ha hb q]
abbrev FK(d:List (Int×Rat)):Xv:=#[.ref T.abC,[("weights",.af .f ((d.map (·.2)).map ae.t)),("numbers",.af .f ((d.map (·.1)).map ae.t))]]
inductive oX(T:Tx w K mg)(xs:ag)(Q:Tr->aA)(q:Xv->Prop):Prop
 |mk(_:↑xs=3)(f g h:Fl)(rs:av)(us:ah)(ks:aG)(N zz:Nat)(_:Fp f)(_:Fp g)(_:Fp h)(_:xs=[.af f ↥rs,.af g ↥us,.af h ↥ks])(_:Bz N zz rs us)(_:↑us<=8)(_:↑ks<=N)(_:Val rs ks)(_:ks.Nodup)(_:ij rs ks)(_:∀d,vz zz rs us ks d->q (FK T d))(_:∀(S:Nat->Nat),kD zz (pick rs ks) us S->Lp.zz (pick rs ks).length (Mx (pick rs ks) us) (cf (bI (bp us (pick rs ks) 0))) S (aJ (pick rs ks) us)=0->∀j,Q (cN T .o (fG (pick rs ks) us [d8 (pick rs ks) us (bp us (pick rs ks) 0) S] S (fF (pick rs ks) us S))) j):oX T xs Q q
def Ts:aK P w K mg base `bt 9 T.vP.a T.vP.d ["rows","unknowns","numbers"] (jY K Â 0 3<|oX T):=by
 show B4 T.vP.F TY rfl ∎ λbS A outer s H E q hr hu hN=>?_
 show#[_,(aM (jh 3<|qc T.tJ (FP T)<|aj (fT ["number","rows"] [Æ,À 0] (fL<|qv 2) (cT 0) (λ_ _ _ _ _=>(aV (qv 1)<|qv 0)))<|aj (qv 1) az)
  (aM (cA (bY dN dO (fq (fK T T.tL<|FY T) (qv 3)<|aj aw az)<|jJ [0,1] T.jC T.jD) (aY<|mO<|mL 3) cz)
  (aM (bN 4<|qc T.vO (OS T)<|aj (qv 0)<|aj (qv 1)<|aj (fT ["number","rows"] [Æ,À 0] (fL<|qv 2) (cT 0) (λ_ _ _ _ _=>(qv 0)) (ht:=λ_ _ _ _ _=>(sd<|bY dN dO (aV (aV (qv 1)<|qv 0) aw)<|va T.yJ))) az)
  (aY<|Vg rfl rfl rfl rfl rfl rfl T.Dg T.mw.t ((Oa T).mono ⋯) hr T.mw.b<|aj (mK (oD rfl) oy T.jB<|aj (qv 4) az)<|aj (MM rfl rfl T.jB<|qv 4) az)))),?_]
 intro xs Q' _ zy;let#[_,f,g,h,rs,us,ks,N,zz,_,_,_,rfl,i,D,j,x,nd,r,q1,y]:=zy;have J:=i.n;have u:=Bc i j x;have β:=u.h.2;rfl';show a7.map ks _ (λk=>rs.getD k.toNat sN) ⋯ (λk mk R u=>?_) ?_
 .rfl';show dE _ _ _ (xV x mk) u
 rfl';show#[rfl,.f,g,pick rs ks,us,zz,inferInstance,‹_›,rfl,u,λS v _=>?_];have y:=y S v;let#[G,I,O,L,hB]:=LR v;rw[O] at y ⊢;have α:=hB I<|Ê.mpr<|.inr<|.head _
 try simp only[fC,gJ,ea,eu,eL]
 show#[ye T _,gE T #[rfl,.l Ç,_,0,G,I,inferInstance,rfl,rfl,⋯,λ_=>?_]];show uL ?_;rfl';have hT:=Bf v λo m=>ĵ (r.p o m).2
 by_cases ht:0 - I=0
 .rw[av4<|av6 ht];show#[sG T _,y (L.mp<|by grind) _]
 .rw[av3<|by simpa using ht];have C:¬ Fz rs us ks:=by
   have B:=KZ v r.p (λe=>ht (by rw[L.mpr e];grind)) rfl;show B.no λp mp=>wg.subset<|Ę mp
  show a7.filter ks ae.t (λk=>decide<|(rs.getD k.toNat sN).2.2.2.1=0) id ⋯ (λk mk A R U Y=>?_) ?_
  .rfl';show dE _ _ _ (xV x mk) ?_;rfl';split
   .next z=>show U z
   .next z=>show Y (by simpa using z)
  .rw[List.map_id,ar9.mpr λk mk=>av6 (r k mk).1];rw[fS,jm];show#[rfl,f,g,.f,rs,us,ks,N,zz,‹_›,‹_›,inferInstance,rfl,i,D,j,x,nd,r,C,λd hd _=>#[(b8 _<|oG d).t,?_]];rfl';rw[IM];have M:(dK d).map (λp=>kf p.1)=(d.map (·.1)).map ae.t:=by unfold dK;rw[ù,ù];rfl
   have Q:(dK d).map (·.2)=(d.map (·.2)).map ae.t:=by unfold dK;rw[ù,ù];rfl
   rw[M,Q,fS,sC];show#[sD _,sD _,q1 d hd]
def zV{rs:av}{us:ah}{S:Nat->Nat}{k:Nat}:fm `by k↔k<aJ rs us/\0<zr rs us S k:=by
 unfold fF;rw[Ke];show#[λh=>h.resolve_left λz=>av5 (qe.mp z) ∅,.inr]
section
variable{z:Nat}{rs:av}{us:ah}{S:Nat->Nat}{q:Int}{y:Nat->Int}
def Tt(b:kD z rs us S)(d:zr rs us S `ad=0)(F:Lp.gQ ↑rs `ad `aa (fm<|fF rs us S) q y):Lp.sm `ad (λk=>cf (bI<|bp us rs 0) k*y k)=0:=by
 have e:=F.cost (S:=S) (c:=cf<|bI<|bp us rs 0) (qE (by unfold bI;rw[Å,xp]));rw[Lp.b4 (f:=λk=>Lp.zz ↑rs `aa (cf<|bI<|bp us rs 0) S k*y k) λk a=>?_,show Lp.zz ↑rs `aa (cf<|bI<|bp us rs 0) S `ad=0 from d,ï] at e
 .show (ϗ.mp e).resolve_left (ð b.g.pos)
 .by_cases p:0<zr rs us S k
  .rw[F.sz k a<|zV.mpr #[a,p],ï]
  .have:=b.o k a;rw[show Lp.zz ↑rs `aa (cf<|bI<|bp us rs 0) S k=0 by unfold zr at p;omega,ź]
def Mz(r:kD z rs us S)(n:zr rs us S `ad=0)(hn:∀c∈bp us rs 0,0<=c)(v:∀o∈rs,o.2.2.2.1=0/\0<o.2.2.2.2)(F:Lp.gQ ↑rs `ad `aa (fm<|fF rs us S) q y){i:Nat}{o:bR}(b:rs[i]?=À o):(o.2.1≠"most"->y (↑us+2*i)=0)/\(o.2.1≠"least"->y (↑us+2*i+1)=0):=by
 have B:=(Á.mp b).1;have t:=Lp.f6 (λk s=>ϓ (KQ hn k)<|F.nn k s)<|Tt r n F;let#[g,C]:=v o<|Ð b;have u:=(kK us o).1;have a:∀c:Rat,c∈bp us rs 0->c=Ó o.2.2.2.2 `au->dQ (bF<|bp us rs 0) c≠0:=λc A l j=>by
  have w:=nF (c:=c)<|(eE (bp us rs 0) 1 ∎).2.2.1 c A;rw[show dQ (ak0 jk 1<|bp us rs 0) c=0 from j] at w;have h:=ß.mpr (eE `al 1 ∎).1;rcases Ň.mp w.symm with x |x
  .show av5 x (ú h)
  .rw[l,<- ĩ 1] at x;have:=(ϋ (ð u) ∎).mp x;omega
 let#[f,d]:=Ck (us:=us) b;have mem:∀c,c∈[cb us 0 o,ca us 0 o]->c∈bp us rs 0:=λc m=>Ê.mpr<|.inr<|List.mem_flatMap.mpr #[o,Ð b,m]
 show#[λk=>?_,λk=>?_]
 .have e:cb us 0 o=Ó o.2.2.2.2 `au:=by unfold cb;rw[av4 g,av3 k]
  have:=t (↑us+2*i) (by unfold aJ;omega);rw[f] at this;show (ϗ.mp this).resolve_left<|a _ (mem _<|.head _) e
 .have e:ca us 0 o=Ó o.2.2.2.2 `au:=by unfold ca;rw[av4 g,av3 k]
  have:=t (↑us+2*i+1) (by unfold aJ;omega);rw[d] at this;show (ϗ.mp this).resolve_left<|a _ (mem _<|.tail _<|.head _) e
def MA{sh:Nat->Prop}(F:Lp.gQ ↑rs `ad `aa sh q y){i:Nat}{o:bR}(a:rs[i]?=À o):(bA us o:Rat)*(dot `aC (λk=>(y k:Rat)) - q*o.2.2.1)=((y (↑us+2*i+1):Int):Rat) - ((y (↑us+2*i):Int):Rat):=by
 have b:=(Á.mp a).1;have k:=F.BN i b;rw[Lp.a8 (g:=λk=>sgn `at*(A0 ↑us ↑rs i `aR `at k*y k)) λk _=>by rw[qG a,Υ],Lp.bQ] at k;have e:sgn `at≠0:=by unfold sgn;split<;>decide
 have d:=(ϗ.mp k).resolve_left e;rw[show aJ rs us+1=↑us+2*↑rs+1 from rfl,Ja b,show ↑us+2*↑rs=aJ rs us from rfl,F.rhs] at d;have c:((_:Int):Rat)=((0:Int):Rat):=av9 (λz:Int=>(z:Rat)) d;rw[Ķ,Ķ,Ll,ņ,í,ĉ,show cX us o=dQ `au o.2.2.1 from rfl,nF (kK us o).2.2] at c;have z:((0:Int):Rat)=0:=rfl;rw[z] at c
 grind
def JQ(m:kD z rs us S)(l:zr rs us S `ad=0)(hn:∀c∈bp us rs 0,0<=c)(n:∀o∈rs,o.2.2.2.1=0/\0<o.2.2.2.2)(F:Lp.gQ ↑rs `ad `aa (fm<|fF rs us S) q y){t:Rat}(ht:0<t){o:bR}(mo:o∈rs):gZ o.2.1 (dot `aC (λk=>t*(y k:Rat)) - t*q*o.2.2.1)=0:=by
 let#[i,b]:=ć mo;have v:=(Á.mp b).1;let#[g,h]:=Mz m l hn n F b;have r:=MA F b;have B:(0:Rat)<=((y (↑us+2*i):Int):Rat):=þ.mpr (F.nn _ (by unfold aJ;omega));have A:(0:Rat)<=((y (↑us+2*i+1):Int):Rat):=þ.mpr (F.nn _ (by unfold aJ;omega));have f:(0:Rat)<(bA us o:Rat):=ß.mpr (kK us o).1;rw[uJ];generalize dot `aC (λk=>(y k:Rat))=D at *;have e:t*D - t*q*o.2.2.1=t*(D - q*o.2.2.1):=by grind
 rw[e];generalize D - q*o.2.2.1=d at *;have j:((0:Int):Rat)=0:=rfl;show (Am _ _).mpr #[λk=>?_,λk=>?_,λs u=>?_]
 .rw[g (by rw[k];decide),j] at r;have hd:0<=d:=by
   show Rat.not_lt.mp λa=>?_
   have:=ů f (show 0 < -d by grind)
   grind
  show ç (ā ht) hd
 .rw[h (by rw[k];decide),j] at r;have hd:d<=0:=by
   show Rat.not_lt.mp λa=>?_
   have:=ů f a
   grind
  have:=ç (ā ht) (show 0<=-d by grind)
  grind
 .rw[g u,h s] at r;have hd:d=0:=by
   rcases Ň.mp (show (bA us o:Rat)*d=0 by grind) with x |x
   .show av5 x (ú f)
   .show x
  rw[hd];grind
end
def Mo(rs:av)(us:ah)(cs:aL)(S:Nat->Nat):∃l:Nat->Int,∀k,Lp.zz ↑rs `aa (cf<|bI cs) S k=Lp.dd ↑rs `aa S*cf `dp k - Lp.sm ↑rs λi=>l i*AR rs us i k:=by
 let#[u,a]:=C5 ↑rs `aa (cf<|bI cs) S;show#[λi=>u i*vj rs us i,λk=>?_];rw[a k];congr 1;show Lp.a8 λi _=>?_
 rw[KY,Υ]
def K0{rs:av}{us:ah}(l:Nat->Int){i:Nat}{o:bR}(h:rs[i]?=À o):(Lp.sm ↑rs λj=>l j*AR rs us j (↑us+2*i))=l i/\(Lp.sm ↑rs λj=>l j*AR rs us j (↑us+2*i+1))=- l i:=by
 have b:=(Á.mp h).1;have no:∀j,j<↑rs->j≠i->∀k,k=↑us+2*i\/k=↑us+2*i+1->l j*AR rs us j k=0:=λj a ne k e=>by
  let#[p,d]:=mQ a;rw[lh d];unfold A0;rw[av3 ⋯,av3 ⋯,av3 ⋯,av3 ⋯,ï]
 constructor
 .rw[Lp.bH b λj a ne=>no j a ne _<|.inl rfl,lh h];unfold A0;rw[av3 ⋯,av4 rfl,ar7]
 .rw[Lp.bH b λj a ne=>no j a ne _<|.inr rfl,lh h];unfold A0;rw[av3 ⋯,av3 ⋯,av4 rfl];omega
def LS(a:aL)(ss:cJ)(k:Nat)(s:Rat)(p:aI×bT):s<=i5 a ss k s p:=by
 unfold i5;split
 .split
  .split<;>grind
  .show ŋ
 .show ŋ
def Bh(a:aL)(ss:cJ)(k:Nat):∀(mk:a9)(s:Rat),s<=mk.foldl `eg s
 |[],_=>ŋ
 |p::mk,s=>Rat.le_trans (LS a ss k s p)<|Bh a ss k mk _
def JR(a:aL)(ss:cJ)(k j:Nat):∀(mk:a9)(s:Rat),((Sum.inl (j:Int):aI),À (k:Int))∈mk->kB a ss k j<=mk.foldl `eg s
 |p::mk,s,m=>by
  rcases ã.mp m with rfl |m
  .show Rat.le_trans ?_ (Bh a ss k mk _);change kB a ss k j<=if (k:Int)=(k:Int) then (if s<kB a ss k ((j:Int).toNat) then kB a ss k ((j:Int).toNat) else s) else s
   rw[av4 rfl,Ď];split<;>grind
  .show JR a ss k j mk _ m
def JS{C:Nat}{e:aL}{ss:cJ}{k z:Nat}(D:1<=z)(q:∀x∈e,bs x<=z)(hs:∀f∈ss,∀v∈f,bs v<=z)(B:↑e=C+1):∀(mk:a9)(s:Rat),vA C ss mk->bs s<=2*z->bs (mk.foldl (i5 e ss k) s)<=2*z
 |[],_,_,h=>h
 |p::mk,s,M,h=>by
  show JS D q hs B mk _ #[M.r,λp m=>M.m p<|.tail _ m] ?_;∎;let#[kn,j,i,l,E,f,v,n,o,u]:=M.m p<|.head _;let#[G,H]:=p;∎;dsimp only at i l;subst i l;change bs (if (kn:Int)=(k:Int) then (if s<kB e ss k ((j:Int).toNat) then kB e ss k ((j:Int).toNat) else s) else s)<=2*z;by_cases A:(kn:Int)=(k:Int)
  .have hk':kn=k:=⋯
   subst hk';rw[av4 rfl,Ď];split
   .obtain⟨x,ex⟩:∃x,e[j]?=À x:=#[_,Ñ ⋯];have y:kB e ss kn j=(0 - x) / v:=by
     unfold kB;rw[Ä,ex,Ä,Ä,n];simp[o]
    rw[y];have g:v≠0:=λz=>by rw[z] at u;show av5 u ∎
    have a:=xU (a:=0 - x) (b:=v) g;have b:=q x<|Ð ex;have c:=hs f (Ð n) v<|Ð o;have d:bs (0 - x)<=bs x:=by rw[show 0 - x=-x by grind];show xH x
    omega
   .show h
  .rw[av3 A];show h
structure eh(z:Nat)(rs:av)(us:ah)(ps:List (Str×Rat))(S S2:Nat->Nat):Prop where
 s:kD z rs us S
 n:zr rs us S `ad=0
 g:Lp.Gd ↑rs `ad `aa S2
 h:i9 ↑rs `by S2
 o:vB ↑rs `ad `aa `by (cf<|bI<|b7 us ↑rs ps) S2
 d:CD z z (d8 rs us `af S2)
nonrec abbrev fu(rs:av)(us:ah)(S:Nat->Nat):aL:=d8 rs us `al S
nonrec abbrev fh(rs:av)(us:ah)(ps:List (Str×Rat))(a:Nat->Nat):aL:=d8 rs us `af a
nonrec abbrev jX(rs:av)(us:ah)(ps:List (Str×Rat))(S a:Nat->Nat):a9:=fw ↑rs `ad `aa `by (cf<|bI<|b7 us ↑rs ps) a ((1:Nat):Int)<|aJ rs us
nonrec abbrev iu(rs:av)(us:ah)(ps:List (Str×Rat))(S a:Nat->Nat):Rat:=shr (fh rs us ps a) [fu rs us S,fh rs us ps a] 0 (jX rs us ps S a)
def qu(rs:av)(us:ah)(cs:aL)(S:Nat->Nat):(d8 rs us cs S).length=aJ rs us+1:=by unfold d8;rw[Å,Û]
def Jg{rs:av}{us:ah}{mk:a9}{cs:aL}{S:Nat->Nat}{a:Int}{p:aI×bT}(G:Lp.Gd ↑rs `ad `aa S)(m:p∈fw ↑rs `ad `aa mk (cf<|bI cs) S a `ad):p∈mk\/∃j:Nat,p=(Sum.inl (j:Int),À a)/\j<aJ rs us/\∃v,(d8 rs us cs S)[j]?=À v/\0<v:=by
 unfold fw at m;rcases Ê.mp m with m |m
 .show .inl m
 .obtain⟨j,mj,rfl⟩:=æ.mp m;let#[f,b]:=Ĳ.mp mj;have g:=ħ.mp f;unfold kP at b;simp only[å,decide_eq_true_eq] at b;show .inr #[j,rfl,g,Ó (Lp.zz ↑rs `aa (cf<|bI cs) S j)<|bF cs*Lp.dd ↑rs (Mx rs us) S,?_,?_]
  .unfold d8;rw[Í,ì ⋯];rfl
  .have hd:=ō (eE cs 1 ∎).1 G.pos;have d:=uk (ĵ b.1) hd;show Rat.lt_of_le_of_ne d λe=>?_
   rw[<- ĩ 1] at e;have:=(ϋ ∎ (ð hd)).mp e;omega
def LU{rs:av}{us:ah}{mk:a9}{cs:aL}{S:Nat->Nat}{a:Int}:∀p∈mk,p∈fw ↑rs `ad `aa mk (cf<|bI cs) S a `ad:=λp m=>by
 unfold fw;show Ê.mpr<|.inl m
def LV{rs:av}{us:ah}{S:Nat->Nat}{j:Nat}(a:j<aJ rs us)(h:0<zr rs us S j):((Sum.inl (j:Int):aI),À ((0:Nat):Int))∈fF rs us S:=by
 unfold fF fw;show Ê.mpr<|.inr<|æ.mpr #[j,Ĳ.mpr #[ħ.mpr a,?_],rfl];unfold kP;rw[show decide (0<Lp.zz ↑rs `aa (cf<|bI<|bp us rs 0) S j)=Â from av6 h];rfl
section
variable{z:Nat}{rs:av}{us:ah}{ps:List (Str×Rat)}{S S2:Nat->Nat}
def eh.IA(h:eh z rs us ps S S2)(hz:z<=960):vA `ad [fu rs us S,fh rs us ps S2] `aB:=by
 show#[λb m v a=>?_,λp m=>?_]
 .rcases ã.mp m with rfl |m
  .show Ï (h.s.d.bs (Î _) a) ⋯
  .rw[è.mp m] at a;show Ï (h.d.bs (Î _) a) ⋯
 .rcases Jg h.g m with m |⟨j,rfl,hj,v,e,hv⟩
  .rcases Jg h.s.g m with m |⟨j,rfl,hj,v,e,hv⟩
   .cases m
   .show⟨0,j,rfl,rfl,hj,_,v,rfl,e,hv⟩
  .show⟨1,j,rfl,rfl,hj,_,v,rfl,e,hv⟩
nonrec abbrev iZ(rs:av)(us:ah)(ps:List (Str×Rat))(S S2:Nat->Nat):aL:=(pp [fu rs us S,fh rs us ps S2] `aB 1 1).1
def BO:iZ rs us ps S S2=if iu rs us ps S S2=0 then fh rs us ps S2 else ϯ (λa b=>a+iu rs us ps S S2*b) `bL (fu rs us S):=rfl
def YS:(iZ rs us ps S S2).length=aJ rs us+1:=by
 rw[BO];split
 .show qu _ _ _ _
 .rw[as1,qu,qu,Nat.min_self]
def xJ{k:Nat}(a:k<=aJ rs us):(iZ rs us ps S S2).getD k 0=(fh rs us ps S2).getD k 0+iu rs us ps S S2*(fu rs us S).getD k 0:=by
 rw[BO];split
 .next e=>rw[e];grind
 .rw[Ä,Ä,Ä,ac0,Ñ (by rw[qu];omega),Ñ (by rw[qu];omega)];rfl
def eh.bs(h:eh z rs us ps S S2)(f:1<=z)(hz:z<=960):Vc.bs `ck<=2*z/\∀x∈iZ rs us ps S S2,Vc.bs x<=4*z+1:=by
 have a:Vc.bs `ck<=2*z:=by
  show JS f (λx m=>h.d.bs (Î _) m) (λe m v b=>?_) (qu _ _ _ _) _ 0 (h.IA hz) (by rw[kx];omega);rcases ã.mp m with rfl |m
  .show h.s.d.bs (Î _) b
  .rw[è.mp m] at b;show h.d.bs (Î _) b
 show#[a,λx m=>?_];rw[BO] at m;split at m
 .show Ï `eR ⋯
 .obtain⟨i,hi⟩:=ć m;rw[ac0] at hi;cases e1:`bL[i]? with
  |none=>rw[e1] at hi;cases hi
  |some u=>
   cases e2:(fu rs us S)[i]? with
   |none=>rw[e1,e2] at hi;cases hi
   |some v=>
    rw[e1,e2] at hi;cases hi;have g:=h.d.bs (Î _)<|Ð e1;have j:=h.s.d.bs (Î _)<|Ð e2;have l:=uB `ck v;have n:=Zz u<|iu rs us ps S S2*v;change Vc.bs (u+iu rs us ps S S2*v)<=_;omega
def eh.ok(h:eh z rs us ps S S2)(l:1<=z)(hz:z<=960):Fd `ad [fu rs us S,fh rs us ps S2] `aB 1:=by
 let#[a,f]:=h.bs l hz;show#[λj g=>?_,λj g b i=>?_]
 .rcases (by omega:j=0\/j=1) with rfl |rfl
  .show#[qu _ _ _ _,λx m=>Ï `eR ⋯]
  .show#[YS,λx m=>Ï (f x m) ⋯]
 .obtain rfl:j=0:=⋯
  have c:=h.s.d.bs (Î _) (show b∈fu rs us S from i);have a:Vc.bs (shr (pp [fu rs us S,fh rs us ps S2] `aB 1 0).1 [fu rs us S,fh rs us ps S2] (1 - 1 - 0) `aB)<=2*z:=a;have e:=uB (shr (pp [fu rs us S,fh rs us ps S2] `aB 1 0).1 [fu rs us S,fh rs us ps S2] (1 - 1 - 0) `aB) b;omega
def eh.nn(h:eh z rs us ps S S2){k:Nat}(a:k<aJ rs us):0<=(iZ rs us ps S S2).getD k 0:=by
 have b:(0:Rat)<((bF `al*Lp.dd ↑rs `aa S:Int):Rat):=ß.mpr<|ō (eE _ 1 ∎).1 h.s.g.pos;have d:(0:Rat)<((bF `af*Lp.dd ↑rs `aa S2:Int):Rat):=ß.mpr<|ō (eE _ 1 ∎).1 h.g.pos;have i:0<=iu rs us ps S S2:=Bh _ _ _ _ 0;have f:0<=(fu rs us S).getD k 0:=by
  rw[ji _ _ _ _ ⋯,Ć];show ç (þ.mpr<|h.s.o k a)<|ā<|ŗ.mpr b
 rw[xJ ⋯];by_cases p:0<zr rs us S k
 .have g:=JR `bL [fu rs us S,fh rs us ps S2] 0 k `aB 0 (LU _<|LV a p);have e:kB `bL [fu rs us S,fh rs us ps S2] 0 k=(0 - (fh rs us ps S2).getD k 0) / (fu rs us S).getD k 0:=rfl;have p1:0<(fu rs us S).getD k 0:=by
   rw[ji _ _ _ _ ⋯,Ć];show ů (ß.mpr p)<|ŗ.mpr b
  rw[e] at g;have g:(0 - (fh rs us ps S2).getD k 0) / (fu rs us S).getD k 0<=iu rs us ps S S2:=g;generalize (fu rs us S).getD k 0=v at *;generalize (fh rs us ps S2).getD k 0=u at *;generalize iu rs us ps S S2=j at *;have m:=ai1 g<|ā p1;rw[ś<|ú p1] at m
  grind
 .have n2:0<=(fh rs us ps S2).getD k 0:=by
   rw[ji _ _ _ _ ⋯,Ć];show ç (þ.mpr<|h.o k a λs=>p (zV.mp s).2)<|ā<|ŗ.mpr d
  have:=ç i f
  grind
def Jh:∀(rs:av)(h g:Nat->bR->Rat),cv rs (λi o=>h i o+g i o)=cv rs h+cv rs g
 |[],_,_=>by rw[cv,cv,cv];grind
 |o::rs,h,g=>by rw[cv,cv,cv,Jh rs];grind
def LW{k:Nat}{u:Str}(h:us[k]?=À u):cf (bI<|b7 us ↑rs ps) k=dQ (bF<|b7 us ↑rs ps) ((bO ps u).getD 0)/\(bO ps u).getD 0∈b7 us ↑rs ps:=by
 have e:`af[k]?=À ((bO ps u).getD 0):=by
  unfold b7;rw[ď (by rw[Å];show (Á.mp h).1),Í,h];rfl
 show#[?_,Ð e];unfold cf bI;rw[Ä,Í,e];rfl
def K1{k:Nat}(h:↑us<=k):cf (bI<|b7 us ↑rs ps) k=0:=by
 unfold cf bI;rw[Ä,Í];unfold b7;rw[Ĕ (by rw[Å];show h),İ];split
 .show mM _
 .rfl
def eh.pr(h:eh z rs us ps S S2)(hr:∀o∈rs,o.2.2.2.1=0):∃L:Nat->Rat,(∀i o,rs[i]?=À o->mU rs us (iZ rs us ps S S2) i=L i*(bA us o:Rat)/\(o.2.1="least"->0<=L i)/\(o.2.1="most"->L i<=0))/\(∀k u,us[k]?=À u->cv rs (λi _=>L i*(AR rs us i k:Rat))<=(bO ps u).getD 0)/\cv rs (λi _=>L i*(AR rs us i `ad:Rat))=- (fh rs us ps S2).getD `ad 0:=by
 let#[l,A]:=lam rs us S;let#[f,L2]:=Mo rs us `af S2;have d1:=ō (eE `al 1 ∎).1 h.s.g.pos;have d2:=ō (eE `af 1 ∎).1 h.g.pos;have J:(0:Rat)<((bF `af*Lp.dd ↑rs `aa S2:Int):Rat):=ß.mpr d2;have r:∀k,cv rs (λi _=>((f i:Rat) / ((bF `af*Lp.dd ↑rs `aa S2:Int):Rat)+iu rs us ps S S2*((l i:Rat) / ((bF `al*Lp.dd ↑rs `aa S:Int):Rat)))*(AR rs us i k:Rat))=((Lp.sm ↑rs λi=>f i*AR rs us i k:Int):Rat) / ((bF `af*Lp.dd ↑rs `aa S2:Int):Rat)+iu rs us ps S S2*(((Lp.sm ↑rs λi=>l i*AR rs us i k:Int):Rat) / ((bF `al*Lp.dd ↑rs `aa S:Int):Rat)):=λk=>by
  rw[xW (F:=λi=>f i*AR rs us i k) (h:=λi _=>(f i:Rat)*(AR rs us i k:Rat)) λi o _=>í _ _,xW (F:=λi=>l i*AR rs us i k) (h:=λi _=>(l i:Rat)*(AR rs us i k:Rat)) λi o _=>í _ _];rw[Ć<|cv rs _,ab8<|cv rs _,<- si,Ć<|cv rs _,ab8<|cv rs _,<- si,<- si,<- Jh];show um λi o _=>?_
  rw[Ć,Ć]
  grind
 show#[λi=>(f i:Rat) / ((bF `af*Lp.dd ↑rs `aa S2:Int):Rat)+iu rs us ps S S2*((l i:Rat) / ((bF `al*Lp.dd ↑rs `aa S:Int):Rat)),λi o m=>?_,λk u U=>?_,?_];rotate_left 2
 .rw[r];have y:=L2<|aJ rs us;rw[qE (by unfold bI b7 aJ;rw[Å,Ù,Å,à]),ï] at y;have I:=A.x;rw[h.n] at I;rw[ji _ _ _ _<|Î _,y,show (Lp.sm ↑rs λi=>l i*AR rs us i (aJ rs us))=0 by omega];have Y:((0:Int):Rat)=0:=rfl;rw[Y,ņ,Y]
  grind
 .have il:=(Á.mp m).1;have M:=A.a i o m;have N:=A.b i o m;have E:=L2<|↑us+2*i+1;have G:=L2<|↑us+2*i;rw[(K0 f m).2,K1 ⋯,ï] at E;rw[(K0 f m).1,K1 ⋯,ï] at G;have Q:=hr o<|Ð m;have v:=h.nn (k:=↑us+2*i+1) (by unfold aJ;omega);have B:=h.nn (k:=↑us+2*i) (by unfold aJ;omega);have O:(iZ rs us ps S S2).getD (↑us+2*i+1) 0=(f i:Rat) / ((bF `af*Lp.dd ↑rs `aa S2:Int):Rat)+iu rs us ps S S2*(((Lp.dd ↑rs `aa S*dQ (bF<|bp us rs 0) `ei+l i:Int):Rat) / ((bF `al*Lp.dd ↑rs `aa S:Int):Rat)):=by
   rw[xJ (by unfold aJ;omega),ji _ _ _ _ (by unfold aJ;omega),ji _ _ _ _ (by unfold aJ;omega),E,show Lp.zz ↑rs `aa (cf<|bI<|bp us rs 0) S (↑us+2*i+1)=_ from M,ab2,Int.neg_neg]
  have eb:(iZ rs us ps S S2).getD (↑us+2*i) 0=-(f i:Rat) / ((bF `af*Lp.dd ↑rs `aa S2:Int):Rat)+iu rs us ps S S2*(((Lp.dd ↑rs `aa S*dQ (bF<|bp us rs 0) `eh - l i:Int):Rat) / ((bF `al*Lp.dd ↑rs `aa S:Int):Rat)):=by
   rw[xJ (by unfold aJ;omega),ji _ _ _ _ (by unfold aJ;omega),ji _ _ _ _ (by unfold aJ;omega),G,show Lp.zz ↑rs `aa (cf<|bI<|bp us rs 0) S (↑us+2*i)=_ from N,ab2,ĉ]
  unfold mU;rw[m];dsimp only;rw[O] at v ⊢;rw[eb] at B ⊢;clear O eb E G M N r;generalize ((bF `al*Lp.dd ↑rs `aa S:Int):Rat)=D at *;generalize ((bF `af*Lp.dd ↑rs `aa S2:Int):Rat)=D' at *;generalize iu rs us ps S S2=j at *;unfold qV;unfold ca at v ⊢;unfold cb at B ⊢;rw[av4 Q] at v B ⊢;rw[av4 Q];by_cases d:o.2.1="least"
  .have k2:¬ o.2.1="most":=by rw[d];decide
   rw[av4 d,mM,ï,ab1] at v;rw[av4 d,av4 d,mM,ï,ab1];show#[rfl,λ_=>v,λe=>av5 e k2]
  .by_cases k2:o.2.1="most"
   .rw[av4 k2,mM,ï,ab2,ĉ] at B;rw[av3 d,av4 k2,av4 k2,mM,ï,ab2,ĉ,ĉ];show#[by grind,λe=>av5 e d,λ_=>by grind]
   .rw[av3 d,av3 k2,av3 d,av3 k2];have e2:Ó `au 2=(bA us o:Rat) / 2:=by rw[ý];rfl
    show#[?_,λe=>av5 e d,λe=>av5 e k2];rw[e2,ņ,Ķ];generalize ((_*_:Int):Rat)=C
    grind
 .rw[r];have H:=(Á.mp U).1;have g:=h.nn (k:=k) (by unfold aJ;omega);rw[xJ (by unfold aJ;omega),ji _ _ _ _ (by unfold aJ;omega),ji _ _ _ _ (by unfold aJ;omega)] at g;have y:=L2 k;have I:=A.u k H;let#[e,me]:=LW (rs:=rs) (ps:=ps) U;have w:=nF (c:=(bO ps u).getD 0)<|(eE (b7 us ↑rs ps) 1 ∎).2.2.1 _ me;rw[e] at y;have q:((bO ps u).getD 0)=((Lp.dd ↑rs `aa S2*dQ (bF<|b7 us ↑rs ps) ((bO ps u).getD 0):Int):Rat) / ((bF `af*Lp.dd ↑rs `aa S2:Int):Rat):=by
   rw[í,show ((dQ (bF<|b7 us ↑rs ps) ((bO ps u).getD 0):Int):Rat)=_ from w];rw[í] at J ⊢;have ne:=ú J;rw[Ć];unfold bF at *;generalize (bO ps u).getD 0=c at *;have:=Ŝ _ ne
   grind
  rw[show Lp.zz ↑rs `aa (cf<|bI<|bp us rs 0) S k=_ from I,y,ņ,ĉ] at g;rw[q]
  grind
end
nonrec abbrev nJ(us:ah)(ps:List (Str×Rat)):aL:=us.map λu=>(bO ps u).getD 0
section
variable{z:Nat}{rs:av}{us:ah}{ps:List (Str×Rat)}{S S2:Nat->Nat}
def Bi:(b7 us ↑rs ps).length=aJ rs us:=by unfold b7 aJ;rw[Ù,Å,à]
def Ji(y:Nat->Int):((Lp.sm `ad (λk=>cf (bI<|b7 us ↑rs ps) k*y k):Int):Rat)=bF `af*dot `bn λk=>(y k:Rat):=by
 rw[KU Bi];congr 1;unfold b7;rw[Be,xo]
 grind
def eh.obj(h:eh z rs us ps S S2):dot `bn `dq=- (fh rs us ps S2).getD `ad 0:=by
 have a:=Lp.iD (c:=cf<|bI<|b7 us ↑rs ps) h.g (qE (by unfold bI;rw[Å,Bi]));have e:=Ji (rs:=rs) (us:=us) (ps:=ps)<|Lp.hY ↑rs (aJ rs us) (Mx rs us) S2;rw[a] at e;have d:dot `bn (λk=>(Lp.hY ↑rs `ad `aa S2 k:Rat))=(Lp.dd ↑rs `aa S2:Int)*dot `bn `dq:=by
  rw[<- uJ];show w6 λk _=>?_
  rw[<- BI h.g k];show ab8 _ _
 rw[d,ĉ] at e;rw[ji _ _ _ _<|Î _,í];have f:=ú<|ß.mpr (eE (b7 us ↑rs ps) 1 ∎).1;have i:=ú<|ß.mpr h.g.pos;unfold bF at *;generalize (Lp.zz ↑rs `aa (cf<|bI<|b7 us ↑rs ps) S2 `ad:Rat)=Z at *;generalize ((ak0 jk 1 `af:Int):Rat)=b at *;generalize (Lp.dd ↑rs `aa S2:Rat)=g at *
 grind
def Ii(f:kD z rs us S)(b:zr rs us S `ad=0)(hn:∀c∈bp us rs 0,0<=c)(g:∀o∈rs,o.2.2.2.1=0/\0<o.2.2.2.2)(G:Lp.Gd ↑rs `ad `aa S2)(d:i9 ↑rs `by S2):(∀k,k<↑us->0<=tl rs us S2 k)/\∀o∈rs,gZ o.2.1 (hU us o<|tl rs us S2)=0:=by
 have F:=Lp.fU (sh:=fm<|fF rs us S) G d;have a:(0:Rat)<(Lp.dd ↑rs `aa S2:Int):=ß.mpr G.pos;show#[λk h=>?_,λo mo=>?_]
 .unfold tl kC;show uk (F.nn k (by unfold aJ;omega)) G.pos
 .have k:=JQ f b hn g F (ŗ.mpr a) mo;unfold hU;have e:dot `aC `dq=dot `aC λk=>((Lp.dd ↑rs `aa S2:Int):Rat)⁻¹*(Lp.hY ↑rs `ad `aa S2 k:Rat):=by
   show w6 λk _=>?_
   rw[<- BI G k];have:=Ŝ _<|ú a;unfold tl
   grind
  have i:((Lp.dd ↑rs `aa S2:Int):Rat)⁻¹*((Lp.dd ↑rs `aa S2:Int):Rat)*o.2.2.1=o.2.2.1:=by
   have:=Ŝ _<|ú a
   grind
  rw[i] at k;rw[e];show k
def LX(D:kD z rs us S)(B:zr rs us S `ad=0)(hn:∀c∈bp us rs 0,0<=c)(H:∀o∈rs,o.2.2.2.1=0/\0<o.2.2.2.2)(G:Lp.Gd ↑rs `ad `aa S2)(C:i9 ↑rs `by S2){e:Nat}(h:Lp.Ent ↑rs `ad `aa (cf<|bI<|b7 us ↑rs ps) (fm<|fF rs us S) S2 e)(ht:∀i,i<↑rs->Lp.tt ↑rs `aa S2 i e<=0){f:Rat}(j:f=Ó (- Lp.zz ↑rs `aa (cf<|bI<|b7 us ↑rs ps) S2 e) (bF `af*Lp.dd ↑rs `aa S2)):
  (∀k,k<↑us->0<=hZ ↑rs `aa S2 e k / f)/\(∀o∈rs,gZ o.2.1 (dot `aC<|λk=>hZ ↑rs `aa S2 e k / f)=0)/\dot `bn (λk=>hZ ↑rs `aa S2 e k / f)=-1:=by
 have n:∀i,i<↑rs->S2 i≠e:=λi m z=>by have:=h.2.1;rw[<- z,Lp.c8 m] at this;omega
 let#[v,r2,r3,r4]:=Lp.Km (c:=cf<|bI<|b7 us ↑rs ps) G h.1 n ht (qE (by unfold bI;rw[Å,Bi]));have F:Lp.gQ ↑rs `ad `aa (fm<|fF rs us S) 0 (Lp.dr ↑rs `aa S2 e):=#[r2,v,λk E s=>by
  show Lp.cc (λi m x=>C i m<|x ▸ s) λx=>h.2.2.1<|x ▸ s,by rw[r3];rfl]
 have l:=ß.mpr (eE `af 1 ∎).1;have d:(0:Rat)<((Lp.dd ↑rs `aa S2:Int):Rat):=ß.mpr G.pos;have A:(0:Rat)<((- Lp.zz ↑rs `aa (cf<|bI<|b7 us ↑rs ps) S2 e:Int):Rat):=ß.mpr (by have:=h.2.1;omega);have q:=Ji (rs:=rs) (us:=us) (ps:=ps)<|Lp.dr ↑rs (Mx rs us) S2 e;rw[r4] at q;rw[ý,í] at j;rw[ĉ] at A j;have u:∀k,hZ ↑rs `aa S2 e k / f=(((Lp.dd ↑rs `aa S2:Int):Rat)*f)⁻¹*(Lp.dr ↑rs `aa S2 e k:Rat):=λk=>by
  unfold hZ;rw[ý,Ć,Ć,Rat.inv_mul_rev]
  grind
 have r:0<f:=by
  rw[j,Ć];show ů A<|ŗ.mpr<|ů l d
 have y:=ŗ.mpr<|ů d r;have fe:(λk=>hZ ↑rs `aa S2 e k / f)=λk=>(((Lp.dd ↑rs `aa S2:Int):Rat)*f)⁻¹*(Lp.dr ↑rs `aa S2 e k:Rat):=funext u
 show#[λk E=>?_,λo mo=>?_,?_]
 .rw[u];show ç (ā y) (þ.mpr (v k (by unfold aJ;omega)))
 .have k:=JQ D B hn H F y mo;rw[fe];have J:((0:Int):Rat)=0:=rfl;rw[J] at k;rw[show ∀a b c:Rat,a - b*0*c=a by intros;grind] at k;show k
 .rw[fe,uJ];have L:=Ŝ _<|ú<|ů d r;have M:f*(((ak0 jk 1 `af:Int):Rat)*((Lp.dd ↑rs `aa S2:Int):Rat))=-((Lp.zz ↑rs `aa (cf<|bI<|b7 us ↑rs ps) S2 e:Int):Rat):=by
   rw[j];show ś<|ú<|ů l d
  unfold bF at q;generalize dot `bn (λk=>(Lp.dr ↑rs `aa S2 e k:Rat))=Y at *;generalize ((ak0 jk 1 `af:Int):Rat)=b at *;generalize ((Lp.dd ↑rs `aa S2:Int):Rat)=g at *;generalize ((Lp.zz ↑rs `aa (cf<|bI<|b7 us ↑rs ps) S2 e:Int):Rat)=Z at *;have I:b*(Y+g*f)=0:=by grind
  rcases Ň.mp I with x |x
  .show av5 x (ú l)
  .have y2:Y=-(g*f):=by grind
   rw[y2]
   grind
end
abbrev aX(rs:av):aG:=(rs.zipIdx.filter λp=>decide<|p.1.2.2.2.1=0).map λp=>(p.2:Int)
def mH{rs:av}{k:Int}(m:k∈aX rs):0<=k/\k.toNat<↑rs/\cj rs k∈rs/\(cj rs k).2.2.2.1=0:=by
 ∎;let#[p,g,rfl]:=æ.mp m;let#[d,f]:=Ĳ.mp g;∎;have e:=ğ.mp d;have b:=(Á.mp e).1;have a:cj rs (p.2:Int)=p.1:=by
  unfold cj;rw[Ď,Ä,e];rfl
 show#[ae9 _,by rw[Ď];show b,?_,?_]
 .rw[a];show Ð e
 .rw[a];show av8 f
def Bj(rs:av):(aX rs).Nodup:=by
 unfold aX;have s:((rs.zipIdx.filter λp=>decide<|p.1.2.2.2.1=0).map (·.2)).Sublist (rs.zipIdx.map (·.2)):=Ϭ.map _;rw[as3] at s;have nd:=s.nodup<|List.nodup_range' (step:=1);rw[show (λp:bR×Nat=>(p.2:Int))=(λn:Nat=>(n:Int)) ∘ λp:bR×Nat=>p.2 from rfl,<- ù];show aj8 _ (λa b h e=>h<|ϒ e) nd
def An(rs:av):(aX rs).length<=↑rs:=by
 unfold aX;rw[Å];show Ï (Ł _ _) (by rw[Ĩ];show Î _)
abbrev ia(P:aL):List (Int×Rat)->aL
 |[]=>P
 |p::d=>ia (P.set p.1.toNat p.2) d
def YT(P:aL):∀(d:List (Int×Rat))(p:Int×Rat),ia P (d++[p])=(ia P d).set p.1.toNat p.2:=λd=>by
 induction d generalizing P with
 |nil=>intro p;rfl
 |cons q d a=>intro p;show a _ p
def IB(P:aL):∀d:List (Int×Rat),(ia P d).length=↑P:=λd=>by
 induction d generalizing P with
 |nil=>rfl
 |cons q d a=>rw[ia,a,û]
def JT{P:aL}:∀{d:List (Int×Rat)}{j:Nat},(∀p∈d,p.1.toNat≠j)->(ia P d)[j]?=P[j]?:=λ{d}=>by
 induction d generalizing P with
 |nil=>intros;rfl
 |cons q d a=>
  intro j h;rw[ia,a λp m=>h p<|.tail _ m,î<|h q<|.head _]
def YU{f:bR->Rat}:∀{rs:av}{P:aL}{j:Nat}{x:Rat}{o:bR},P.length=↑rs->rs[j]?=À o->cv rs (λi o=>(P.set j x).getD i 0*f o)=cv rs (λi o=>P.getD i 0*f o)+(x - P.getD j 0)*f o:=by
 intro rs
 induction rs with
 |nil=>intro P j x o _ h;cases h
 |cons o rs a=>
  intro P j x d b h;cases P with
  |nil=>cases b
  |cons y P=>
   cases j with
   |zero=>
    cases h;change x*f o+cv rs (λi o=>P.getD i 0*f o)=y*f o+cv rs (λi o=>P.getD i 0*f o)+(x - y)*f o
    grind
   |succ j=>
    have a:=a (P:=P) (j:=j) (x:=x) (o:=d) (Ť b) h;change y*f o+cv rs (λi o=>(P.set j x).getD i 0*f o)=y*f o+cv rs (λi o=>P.getD i 0*f o)+(x - P.getD j 0)*f d;rw[a];grind
def IC{f:bR->Rat}{rs:av}:∀{ks:aG}{ps:aL}{P:aL},ks.length=↑ps->↑P=↑rs->Val rs ks->ks.Nodup->(∀k∈ks,P.getD k.toNat 0=0)->cv rs (λi o=>(ia P<|ks.zip ps).getD i 0*f o)=cv rs (λi o=>P.getD i 0*f o)+cv `ac (λi o=>ps.getD i 0*f o)
 |[],[],P,_,_,_,_,_=>by
  change cv rs (λi o=>P.getD i 0*f o)=cv rs (λi o=>P.getD i 0*f o)+0
  grind
 |k::ks,x::ps,P,hl,hP,hv,nd,h0=>by
  rw[č] at nd;let#[g,d]:=hv k<|.head _;have a:rs[k.toNat]?=À `bB:=by unfold cj;rw[Ä,Ñ d];rfl
  have b:=IC (f:=f) (rs:=rs) (ks:=ks) (ps:=ps) (P:=P.set k.toNat x) (Ť hl) (by rw[û];show hP) (λj m=>hv j<|.tail _ m) nd.2 λj m=>by
   have ne:k.toNat≠j.toNat:=λe=>by
    have:=(hv j<|.tail _ m).1;have:k=j:=⋯
    show nd.1<|this ▸ m
   rw[Ä,î ne,<- Ä];show h0 j<|.tail _ m
  change cv rs (λi o=>(ia (P.set k.toNat x)<|ks.zip ps).getD i 0*f o)=_+(x*f (cj rs k)+cv (pick rs ks) (λi o=>ps.getD i 0*f o));rw[b,YU hP a,h0 k<|.head _]
  grind
def K2{z:Nat}{rs:av}{us:ah}{S:Nat->Nat}(b:rm z rs us)(G:Lp.Gd ↑rs `ad `aa S){k:Nat}(j:k<↑us):bs (tl rs us S k)<=z:=by
 let#[f,g]:=b.v S G.lt;have d:k<aJ rs us:=by unfold aJ;omega
 unfold tl kC;by_cases h:∃i,i<↑rs/\S i=k
 .obtain⟨i,a,rfl⟩:=h;rw[Lp.gV G a];show qm `be (g i _<|Î _) f
 .rw[Lp.da (é d) λi a e=>h #[i,a,e],ĩ,kx];show b.h.1
structure rl(z:Nat)(rs:av)(us:ah)(X:List (Str×Rat))(x:Nat->Rat):Prop where
 e:X=us.zipIdx.map 1e3
 n:∀k,k<↑us->0<=x k/\bs (x k)<=z
 k:∀k∈aX rs,gZ (cj rs k).2.1 (hU us `bB x)=0
structure vE(rs:av)(us:ah)(ps W:List (Str×Rat)):Prop where
 e:∃x:Nat->Rat,W=us.zipIdx.map (1e3)/\(∀k,k<↑us->0<=x k/\bs (x k)<=7000)/\(∀k∈aX rs,gZ (cj rs k).2.1 (dot (d7 us<|cj rs k) x)=0)/\dot `bn x=-1
structure sS(rs:av)(us:ah)(ps:List (Str×Rat))(x:Nat->Rat)(P:aL):Prop where
 l:↑P=↑rs
 b:∀y∈P,bs y<=8000
 s:∀(i:Nat)(o:bR),rs[i]?=À o->(o.2.1="least"->0<=P.getD i 0)/\(o.2.1="most"->P.getD i 0<=0)/\(o.2.2.2.1≠0->P.getD i 0=0)
 c:∀u∈us,cv rs (λi o=>P.getD i 0*(bO o.1 u).getD 0)<=(bO ps u).getD 0
 v:cv rs (λi o=>P.getD i 0*o.2.2.1)=dot `bn x
def ID{y:Rat}:∀{d:List (Int×Rat)}{P:aL},y∈ia P d->y∈P\/∃p∈d,y=p.2
 |[],_,m=>.inl m
 |p::d,P,m=>by
  rcases ID (d:=d) m with m |⟨q,a,e⟩
  .rcases List.mem_or_eq_of_mem_set m with m |e
   .show .inl m
   .show .inr ⟨p,.head _,e⟩
  .show .inr ⟨q,.tail _ a,e⟩
def JU{rs:av}:∀{ks:aG}{ps:aL}{P:aL}{j:Nat}{k:Int}{x:Rat},P.length=↑rs->Val rs ks->ks.Nodup->ks[j]?=À k->ps[j]?=À x->(ia P<|ks.zip ps)[k.toNat]?=À x
 |k::ks,x::ps,P,0,k',x',hP,hv,nd,e1,e2=>by
  cases e1;cases e2;rw[č] at nd;let#[b,d]:=hv k<|.head _;rw[ϻ,ia,JT λp m e=>?_,ÿ ⋯];have mk:=(ĺ m).1;have:=(hv p.1<|.tail _ mk).1;have a:p.1=k:=⋯
  show nd.1<|a ▸ mk
 |k::ks,x::ps,P,j + 1,k',x',hP,hv,nd,e1,e2=>by
  rw[č] at nd;show JU (ks:=ks) (ps:=ps) (P:=P.set k.toNat x) (j:=j) (by rw[û];show hP) (λj m=>hv j<|.tail _ m) nd.2 e1 e2
def MB(f:bR->Rat)(n:Nat):∀rs:av,cv rs (λi o=>(Ë n (0:Rat)).getD i 0*f o)=0:=λrs=>by
 have e:∀i,(Ë n (0:Rat)).getD i 0=0:=λi=>by
  rw[Ä,İ];split<;>rfl
 have:cv rs (λi o=>(Ë n (0:Rat)).getD i 0*f o)=cv rs (λi o=>0*f o):=um λi o _=>by rw[e]
 rw[this,si]
 grind
def IE{rs:av}{i:Nat}{o:bR}(h:rs[i]?=À o)(a:o.2.2.2.1=0):(i:Int)∈aX rs:=æ.mpr #[(o,i),Ĳ.mpr #[ğ.mpr h,av6 a],rfl]
def eh.Su{z:Nat}{rs:av}{us:ah}{ps:List (Str×Rat)}{S a:Nat->Nat}(h:eh z (pick rs<|aX rs) us ps S a)(D:rm z (pick rs<|aX rs) us)(O:1<=z)(hz:z<=960)(r:Val rs `dr)(C:ij rs `dr):sS rs us ps (tl (pick rs<|aX rs) us a) (ia `bS<|(aX rs).zip<|eH (pick rs<|aX rs) us<|iZ (pick rs<|aX rs) us ps S a):=by
 let#[L,g,I,J]:=h.pr λo m=>(C.p o m).1
 have q:(aX rs).length=(eH (pick rs<|aX rs) us<|iZ (pick rs<|aX rs) us ps S a).length:=by unfold eH pick;rw[Å,Û,Å]
 have d:∀(f:bR->Rat)(k:Nat),(∀i o,(pick rs<|aX rs)[i]?=À o->(bA us o:Rat)*f o=(AR (pick rs<|aX rs) us i k:Rat))->cv rs (λi o=>(ia `bS<|(aX rs).zip<|eH (pick rs<|aX rs) us<|iZ (pick rs<|aX rs) us ps S a).getD i 0*f o)=cv (pick rs<|aX rs) (λi _=>L i*(AR (pick rs<|aX rs) us i k:Rat)):=λf k E=>by
  rw[IC q (by rw[à]) r (Bj rs) (λk m=>by rw[Ä,İ];split<;>rfl),MB,Rat.zero_add];show um λi o e=>?_
  rw[JN (Á.mp e).1,(g i o e).1,<- E i o e]
  grind
 show#[by rw[IB,à],λy m=>?_,λi o e=>?_,λu M=>?_,?_]
 .rcases ID m with m |⟨p,mp,rfl⟩
  .rw[Ρ m,kx];decide
  .have:=JP (show 1<=4*z+1 by omega) (h.bs O hz).2 (λo m=>(D.s o m).2) p.2 (ĺ mp).2;omega
 .by_cases h0:o.2.2.2.1=0
  .obtain⟨j,ej⟩:=ć<|IE e h0;have G:=(Á.mp ej).1;have l:cj rs (i:Int)=o:=by
    unfold cj;rw[Ď,Ä,e];rfl
   have b:=Jd (rs:=rs) ej;rw[l] at b;have n:j<(pick rs<|aX rs).length:=by unfold pick;rw[Å];show G
   have ex:(eH (pick rs<|aX rs) us<|iZ (pick rs<|aX rs) us ps S a)[j]?=À (mU (pick rs<|aX rs) us (iZ (pick rs<|aX rs) us ps S a) j):=by
    unfold eH;rw[Í,ì n];rfl
   have x:=JU (P:=Ë ↑rs 0) (by rw[à]) r (Bj rs) ej ex;rw[Ď] at x;rw[Ä,x,af7,(g j o b).1];have A:(0:Rat)<=(bA us o:Rat):=ā<|ß.mpr (kK us o).1;show#[λk=>ç ((g j o b).2.1 k) A,λk=>?_,λz=>av5 h0 z];have:=ç (show 0<=- L j by have:=(g j o b).2.2 k;grind) A
   grind
  .have pn:(ia `bS<|(aX rs).zip<|eH (pick rs<|aX rs) us<|iZ (pick rs<|aX rs) us ps S a)[i]?=(Ë ↑rs (0:Rat))[i]?:=JT λp m B=>by
    have mk:=(ĺ m).1;let#[Q,U,_,v]:=mH mk;have l:cj rs p.1=o:=by
     unfold cj;rw[B,Ä,e];rfl
    rw[l] at v;show h0 v
   have N:(ia `bS<|(aX rs).zip<|eH (pick rs<|aX rs) us<|iZ (pick rs<|aX rs) us ps S a).getD i 0=0:=by
    rw[Ä,pn,İ];split<;>rfl
   rw[N];show#[λ_=>ŋ,λ_=>ŋ,λ_=>rfl]
 .obtain⟨k,ek⟩:=ć M;have H:=(Á.mp ek).1;rw[d _ k λi o e=>?_]
  .show I k u ek
  .rw[lh e];unfold A0 fE;rw[av4 H,Ä,Í];have b:`aC[k]?=À ((bO o.1 u).getD 0):=by unfold d7;rw[Í,ek];rfl
   rw[b];show (nF<|(kK us o).2.1 _<|Ð b).symm
 .rw[d _ (aJ (pick rs<|aX rs) us) λi o e=>?_]
  .rw[J,h.obj]
  .have hi:=(Á.mp e).1;rw[lh e];unfold A0 aJ cX;rw[av3 ⋯,av3 ⋯,av3 ⋯,av4 rfl];show (nF (kK us o).2.2).symm
def dD{A B:cI}(J:aA)(a:∀N:aA,(∀j,J j->N j)->A { D with nx:=N } j)(b:∀j,J j->B D j):wH A B D j:=a (B D) b
inductive jN(T:Tx w K mg)(xs:ag)(Q:Tr->aA)(q:Xv->Prop):Prop
 |mk(_:↑xs=3)(f g h:Fl)(rs:av)(us:ah)(ps:List (Str×Rat))(c0:Rat)(N zz:Nat)(_:Fp f)(_:Fp g)(_:Fp h)(_:xs=[.af f ↥rs,.af g ↥us,.aF [bP h ps,ae.t c0]])(_:Bz N zz rs us)(_:↑us<=8)(_:us.Nodup)(_:↑rs<=16)(_:(aX rs).length<=N)(_:ij rs (aX rs))(_:yy zz (pick rs (aX rs)) us ps)(_:zz<=960)(_:∀d,vz zz rs us (aX rs) d->q (FK T d))(_:∀(X W:List (Str×Rat)) (x:Nat->Rat),rl zz rs us X x->vE rs us ps W->∀j,Q (.aF [.str "falls",.aP .o (X.map 1e1),bP .f W]) j)(_:∀(X:List (Str×Rat)) (x:Nat->Rat) (P:aL),rl zz rs us X x->sS rs us ps x P->∀j,Q (.aF [.str "least",.aP .o (X.map 1e1),ae.t P]) j):jN T xs Q q
def U0:aK P w K mg base `bt 10 T.vQ.a T.vQ.d ["rows","unknowns","one"] (jY K Â 0 3<|jN T):=by
 show B4 T.vQ.F Vv rfl ∎ λbS A outer s H E q hr hu D=>?_
 show#[_,(aM (Y9<|CJ T.v5 (O8 T)<|aj (qv 0)<|aj (qv 1) az)
  (aM (se 3 ["number","other"] [Æ,Æ] (qO T.p0<|aj (qv 0) az) (lA (n:=2) rfl<|gg (cT 0)<|gg (cT 1) k9) (λ_ _ _ _ _=>`cV) (ht:=λ_ _ _ _ _=>(sd<|bY dN dO (aV (qv 1) aw)<|va T.yJ)))
  (aM (jh 4<|CJ T.vP (Ts T)<|aj (qv 0)<|aj (qv 1)<|aj (qv 3) az)
  (aM (xk 5<|sf (dJ 4) (fK T T.tK<|FR T)<|nP (fq (fK T T.wa<|Od T) (qv 4)<|aj (aV (qv 2) aw) az) sj)
  (aM (cA (bY xi w4 (qv 5) kq) (aY<|bJ<|dS<|aj fo<|aj (BL (fK T T.tM<|FO T)<|qv 4)<|aj (qv 5) az) cz)
  (CO 4 (aM (jh 6<|xQ (fB<|aj (jJ [0,1] T.jC T.jD) az)<|dZ gH gD T.gF<|aj (qv 0) az)
  (aM (gI (lz T.kZ<|aj (qv 3)<|aj (aV (fq (fK T T.wc<|OR T) (qv 4)<|aj aw az) aw) az) (iA (n:=2) rfl<|dR (c7 7)<|dR (c7 8) ir)<|aY<|qB (dJ 6) (qv 7)<|qv 8)
  (CO 6<|aY<|bJ<|dS<|aj fo<|aj (BL (fK T T.tM<|FO T)<|qv 4)<|aj (qv 6) az))))))))),?_]
 intro xs Q' _ zy;let#[_,f,g,h,rs,us,v,c0,N',zz,_,_,_,rfl,α,ο,γ,ρ,ε,hM,hO,β,q1,q2,q3]:=zy;have hv:Val rs `dr:=λk m=>#[(mH m).1,(mH m).2.1]
 have C:=Bc α ε hv;have π:=α.n;show dD (λj=>j=[.af f ↥rs,.af g ↥us,.aF [bP h v,ae.t c0],.ak,.ak,.ak,.ak,.ak,.ak]) (λN D=>?_) ?_
 .rfl';show#[rfl,f,g,rs,us,‹_›,‹_›,rfl,λz=>⋯,λ_ _ _=>D _ rfl]
 rintro _ rfl;show dD (λj=>j=[.af f ↥rs,.af g ↥us,.aF [bP h v,ae.t c0],.af .f<|(aX rs).map ae.t,.ak,.ak,.ak,.ak,.ak]) (λN D=>?_) ?_
 .rfl';show a7.filter rs.zipIdx _ (λp=>decide<|p.1.2.2.2.1=0) (λp=>(p.2:Int)) (by rw[Ĩ];omega) (λp mp A R h1 h2=>?_) ?_
  .rfl';split
   .next e=>show h1 e
   .next e=>show h2 (by simpa using e)
  rw[fS];show#[kz _,D _ rfl]
 rintro _ rfl;show dD (λj=>∃S,j=[.af f ↥rs,.af g ↥us,.aF [bP h v,ae.t c0],.af .f<|(aX rs).map ae.t,cN T .o<|fG (pick rs<|aX rs) us [fu (pick rs<|aX rs) us S] S (fF (pick rs<|aX rs) us S),.ak,.ak,.ak,.ak]/\kD zz (pick rs<|aX rs) us S/\zr (pick rs<|aX rs) us S (aJ (pick rs<|aX rs) us)=0) (λN D=>?_) ?_
 .rfl';show#[rfl,f,g,.f,rs,us,aX rs,N',zz,‹_›,‹_›,inferInstance,rfl,α,ο,ε,hv,Bj rs,hM,q1,λS O h0 _=>#[ye T _,D _ #[S,rfl,O,h0]]]
 intro _ zy;let#[S,rfl,O,h0]:=zy;have Y:=(C.k 0).1.2;have θ:i9 (pick rs<|aX rs).length (fF (pick rs<|aX rs) us S) S:=λi hi s=>by have:=(zV.mp s).2;unfold zr at this;rw[Lp.c8 hi] at this;omega
 have κ:(fF (pick rs<|aX rs) us S).length<=10000:=by
  have a:=IY (m:=(pick rs<|aX rs).length) (n:=aJ (pick rs<|aX rs) us) (M:=Mx (pick rs<|aX rs) us) (mk:=[]) (c:=cf<|bI<|bp us (pick rs<|aX rs) 0) (S:=S) (a:=0) (i:=aJ (pick rs<|aX rs) us);have b:=C.y.hn;unfold fF;rw[ϔ] at a;omega
 show dD (λj=>(∃u,j=[.af f ↥rs,.af g ↥us,.aF [bP h v,ae.t c0],.af .f<|(aX rs).map ae.t,cN T .o<|fG (pick rs<|aX rs) us [fu (pick rs<|aX rs) us S,fh (pick rs<|aX rs) us v u] u (jX (pick rs<|aX rs) us v S u),.aN,.ak,.ak,.ak]/\eh zz (pick rs<|aX rs) us v S u)\/∃u W mk,j=[.af f ↥rs,.af g ↥us,.aF [bP h v,ae.t c0],.af .f<|(aX rs).map ae.t,cN T .o<|fG (pick rs<|aX rs) us [fu (pick rs<|aX rs) us S] u mk,bP .f W,.ak,.ak,.ak]/\Lp.Gd (pick rs<|aX rs).length (aJ (pick rs<|aX rs) us) (Mx (pick rs<|aX rs) us) u/\i9 (pick rs<|aX rs).length (fF (pick rs<|aX rs) us S) u/\vE rs us v W) (λN D=>?_) ?_
 .rfl';show Aj rfl (by intro z;cases z)<|gE T ?_;rfl';simp only[fC,gJ,ea,eu,eL];show gE T #[rfl,.l Ç,h,pick rs<|aX rs,us,_,S,_,v,inferInstance,‹_›,rfl,C.b,λ_=>#[kz _,?_]];rw[fS,jm];show#[rfl,.f,pick rs<|aX rs,us,[fu (pick rs<|aX rs) us S],S,fF (pick rs<|aX rs) us S,b7 us (pick rs<|aX rs).length v,inferInstance,rfl,C.y,O.g,θ,hO.c,κ,by simp,γ,⋯,λB G y m=>Ï ((hO.d B G).bs (Î _) m) ⋯,λB G I η j e=>?_,λB e G I hE ht j ee=>?_]
  .rw[e];show#[sG T _,D _<|.inl #[B,rfl,#[O,h0,G,I,η,hO.d B G]]]
  .rw[ee];have ν:∀i,i<(pick rs<|aX rs).length->B i≠e:=λi hi z=>by have:=hE.2.1;rw[<- z,Lp.c8 hi] at this;omega
   let#[r1,r2,r3]:=LX O h0 Y hM.p G I hE ht rfl;have ef:∀X:List (Str×Rat),Pu.aC (.aP .o<|X.map 1e1)=bP .f X:=λX=>by
    change Tr.aP .f (df _)=_;rw[show df (X.map 1e1)=_ from (b8 _<|ku _).f];rfl
   rw[ef];show#[sG T _,D _<|.inr #[B,_,fF (pick rs<|aX rs) us S,rfl,G,I,#[_,rfl,λk U=>#[r1 k U,?_],λk mk=>r2 _<|Ę mk,r3]]];have b1:=Kf C.y G hE.1 ν (k:=k);have hx:=(hO.d B G).bs (Î _) (æ.mpr #[e,ħ.mpr (by have:=hE.1;omega),rfl]:Ó (Lp.zz (pick rs<|aX rs).length (Mx (pick rs<|aX rs) us) (cf<|bI<|b7 us (pick rs<|aX rs).length v) B e) (bF (b7 us (pick rs<|aX rs).length v)*Lp.dd (pick rs<|aX rs).length (Mx (pick rs<|aX rs) us) B)∈d8 (pick rs<|aX rs) us (b7 us (pick rs<|aX rs).length v) B);have b2:=xH<|Ó (Lp.zz (pick rs<|aX rs).length (Mx (pick rs<|aX rs) us) (cf<|bI<|b7 us (pick rs<|aX rs).length v) B e)<|bF (b7 us (pick rs<|aX rs).length v)*Lp.dd (pick rs<|aX rs).length (Mx (pick rs<|aX rs) us) B;rw[Rat.neg_divInt] at b2;have μ:Ó (- Lp.zz (pick rs<|aX rs).length (Mx (pick rs<|aX rs) us) (cf<|bI<|b7 us (pick rs<|aX rs).length v) B e) (bF (b7 us (pick rs<|aX rs).length v)*Lp.dd (pick rs<|aX rs).length (Mx (pick rs<|aX rs) us) B)≠0:=λez=>by
    rw[<- ĩ 1] at ez;have:=(ϋ (ð<|ō (eE _ 1 ∎).1 G.pos) ∎).mp ez;have:=hE.2.1;omega
   have b3:=xU (a:=hZ (pick rs<|aX rs).length (Mx (pick rs<|aX rs) us) B e k) μ;omega
 rintro _ (⟨u,rfl,J⟩ |⟨u,W,mk,rfl,G,ζ,hW⟩)
 .obtain⟨c1,c2⟩:=Ii O h0 Y hM.p J.g J.h;have L:rl zz rs us (vg (pick rs<|aX rs) us u) (tl (pick rs<|aX rs) us u):=#[rfl,λk U=>#[c1 k U,K2 C J.g U],λk mk=>c2 _<|Ę mk];rfl';rw[uQ];rfl';have ι:(pick rs<|aX rs).length<=16:=C.b.r;rw[eL,Lj,Ď,<- ύ];show#[ae.c _,⋯,⋯,ll _,?_];simp only[fC,gJ,ea,eu,eL];show gE T #[rfl,pick rs<|aX rs,us,_,u,_,1,rfl,ι,⋯,by simp,by simp,J.IA β,J.ok C.h.1 β,λo m=>(C.s o m).2,λ_=>?_];rfl';have δ:=J.Su C C.h.1 β hv hM;have ξ:(eH (pick rs<|aX rs) us<|iZ (pick rs<|aX rs) us v S u).length=(aX rs).length:=by unfold eH pick;rw[Å,Û,Å]
  change sS rs us v (tl (pick rs<|aX rs) us u) (ia `bS<|(aX rs).zip<|eH (pick rs<|aX rs) us (pp [fu (pick rs<|aX rs) us S,fh (pick rs<|aX rs) us v u] (jX (pick rs<|aX rs) us v S u) 1 1).1) at δ
  change (eH (pick rs<|aX rs) us (pp [fu (pick rs<|aX rs) us S,fh (pick rs<|aX rs) us v u] (jX (pick rs<|aX rs) us v S u) 1 1).1).length=_ at ξ
  generalize eH (pick rs<|aX rs) us (pp [fu (pick rs<|aX rs) us S,fh (pick rs<|aX rs) us v u] (jX (pick rs<|aX rs) us v S u) 1 1).1=pr at *;show Loop.map ((aX rs).zip pr) _ (λi j=>∃a b:Tr,j=[.af f ↥rs,.af g ↥us,.aF [bP h v,ae.t c0],.af .f<|(aX rs).map ae.t,cN T .f<|fG (pick rs<|aX rs) us [fu (pick rs<|aX rs) us S,fh (pick rs<|aX rs) us v u] u (jX (pick rs<|aX rs) us v S u),.aN,.af .o<|(ia (Ë ↑rs 0)<|((aX rs).zip pr).take i).map ae.t,a,b]) #[_,_,rfl] ?_ ?_
  .rintro i ⟨k,x⟩ j hi ⟨a,b,rfl⟩;have mk:=(ĺ<|Ð hi).1;let#[k0,kl]:=hv k mk;have tk:((aX rs).zip pr).take (i+1)=((aX rs).zip pr).take i++[(k,x)]:=by rw[ĕ,hi];rfl
   rw[tk,YT];rfl';obtain⟨n,rfl⟩:∃n:Nat,k=(n:Int):=#[k.toNat,⋯];rw[Ď] at kl ⊢;show oK (by rw[Å,IB,à];show kl) #[.int n,ae.t x,?_];rw[<- ai9]
  .rintro j ⟨a,b,rfl⟩;rw[Ġ];rfl';simp only[fC,gJ,ea,eu,eL];show gE T #[rfl,.f,_,us,_,u,_,inferInstance,rfl,C.y,J.g,γ,⋯,λ_=>#[?_,q3 _ _ _ L δ _]];rw[show cZ (Tr.aP .o<|(vg (pick rs<|aX rs) us u).map 1e1)=Â from (b8 _<|ku _).o];rfl
 .obtain⟨c1,c2⟩:=Ii O h0 Y hM.p G ζ;have L:rl zz rs us (vg (pick rs<|aX rs) us u) (tl (pick rs<|aX rs) us u):=#[rfl,λk U=>#[c1 k U,K2 C G U],λk mk=>c2 _<|Ę mk];rfl';rw[show ∀Q:aB,mD Â (bP .f W) .aN Q=Q `br from λ_=>rfl];rfl';simp only[fC,gJ,ea,eu,eL];show gE T #[rfl,.l Ç,_,us,_,u,_,inferInstance,rfl,C.y,G,γ,⋯,λ_=>#[?_,q2 _ _ _ L hW _]];rw[show cZ (Tr.aP .o<|(vg (pick rs<|aX rs) us u).map 1e1)=Â from (b8 _<|ku _).o];rfl
def kE{j:Int}(h:j.natAbs<2 ^ 100):j.natAbs<2 ^ 8000:=Õ h<|Ů ∎ ⋯
inductive gL(xs:ag)(Q:Tr->aA):Prop
 |mk(_:↑xs=2)(f:Fl)(script:aG)(k:Int)(_:Fp f)(_:xs=[.af f ↥script,.int k])(_:0<=k)(_:∀c:Int,∀j,Q (.int c) j):gL xs Q
def F0{z:Bool}:aK P w K mg base bM 1 T.sY.a T.sY.d ["_law_script","_law_k"] (bU K z 0 2 gL):=by
 show cu T.sY.F OH rfl ∎ ?_
 intros
 show#[_,(aM (cA (bY nO nH `bK<|dZ gH gD T.gF<|aj (qv 0) az) (aY<|bJ<|aV (qv 0)<|qv 1) cz)
  (aY<|bJ aw)),?_]
 intro h g _ zy;let#[_,f,b,k,_,rfl,e,q]:=zy;rfl';split
 .rename_i c;show dE _ _ _ (xO b e (by have:=av8 c;omega)) #[iG _,q _ _]
 .show q _ _
def oN{i j:Int}(h:-(2 ^ 64)<i/\i<2 ^ 64):nh i j:=.inl<|.inl h
def FN{i j:Int}(h:-(2 ^ 64)<j/\j<2 ^ 64):nh i j:=.inl<|.inr h
def Bk{xs:ag}{r:Int}{Q:aB}(a:0<=r)(b:r<↑xs)(q:∀x,x∈xs->Q x):oQ (cW xs r) Q:=by
 rw[xO xs a ⋯];show q _<|ϸ _
def xa{ns:aG}{r:Int}{Q:aB}(a:0<=r)(b:r<↑ns)(q:∀n,n∈ns->Q `aY):oQ (cW `bp r) Q:=by
 show Bk a (by rw[Å];show b) λx d=>?_
 let#[n,hn,rfl]:=æ.mp d;show q n hn
inductive o7(xs:ag)(Q:Tr->aA):Prop
 |mk(_:↑xs=2)(c k:Int)(_:xs=[.int c,.int k])(_:0<=k)(_:k<=1000)(_:∀r:Int,∀j,Q (.int r) j):o7 xs Q
def LY:wx 10 17:=#[∎,∎,∎]
def oB{z:Bool}:aK P w K mg base bM 1 T.kY.a T.kY.d ["_law_cell","_law_k"] (bU K z 0 2 o7):=by
 show cu T.kY.F RF rfl ∎ λbS A outer s H E B C g=>?_
 show#[_,(aM (cA (bY dN dO (el (gv `cV aw) aw) aw) (aM (bN 2<|aV (fB<|aj aw<|aj (nN aw aw) az)<|el (gv (qv 0) aw) aw)
  (aM (bN 3<|gv (qv 0) aw)
  (aM (gI (sv T.pY<|aj (mJ (qv 1) aw) az) (c7 4)<|aY<|bN 3<|gv (qv 3)<|qv 2)
  (aY<|cA (bY ly k7 (qv 3) aw) (aY<|bJ<|el (qv 3)<|qv 2) cz)))) cz)
  (aM (bN 5<|el (cP (el (eD (eD (qv 0)<|cP aw<|qv 1) aw) aw) aw) aw)
  (aM (bN 5<|el (cP (qv 5)<|eD (gv (qv 5) aw) aw) aw)
  (aY<|bJ<|el (cP (qv 5)<|eD (gv (qv 5) aw) aw) aw)))),?_]
 intro J y _ zy;let#[_,c,k,rfl,D,I,q]:=zy;walk_at "q";show ML (λG=>∃a b d e:Tr,G=[.int c,.int k,a,b,d,e]) (λN g=>?_) ?_
 .rfl';show#[#[∎,kE ∎],∎,?_];split
  .show#[LY,#[∎,kE ∎],∎,xa (ns:=[50,10 ^ ah7 17]) (ø _ ∎) (ë _ ∎) λbs r=>?_];have f:0<bs/\bs.natAbs<2 ^ 100:=by
    rcases ã.mp r with rfl |x
    .decide
    .rw[è.mp x];decide
   rfl';show#[#[∎,kE ∎],⋯,⋯,Loop.map _ _ (λi G=>∃(n:Int)(d:Tr),G=[.int c,.int k,.int bs,.int n,d,.ak]) #[_,_,rfl] ?_ ?_]
   .rintro i j G hi ⟨n,d,rfl⟩;rfl';show#[#[⋯,kE f.2],_,_,rfl]
   .rintro G ⟨n,d,rfl⟩;rfl';split
    .show#[f.1,q _ _]
    .show g _ #[_,_,_,_,rfl]
  .show g _ #[_,_,_,_,rfl]
 intro _ zy;let#[a,b,d,e,rfl]:=zy;rfl';have h:=ø ((c+7919*k+1) % 2147483647*48271) (show (2147483647:Int)≠0 by decide);have l:=ë ((c+7919*k+1) % 2147483647*48271) (show (0:Int)<2147483647 by decide);generalize (c+7919*k+1) % 2147483647*48271 % 2147483647=u at h l;have m:=ø (u*(u.fdiv 1009+69621)) (show (2147483647:Int)≠0 by decide);have o:=ë (u*(u.fdiv 1009+69621)) (show (0:Int)<2147483647 by decide);generalize u*(u.fdiv 1009+69621) % 2147483647=v at m o;show#[oN ∎,∎,FN ∎,∎,#[∎,kE ∎],oN ⋯,∎,#[∎,kE ∎],oN ⋯,∎,q _ _]
inductive lJ(xs:ag)(Q:Tr->aA):Prop
 |mk(_:↑xs=2)(a b:Int)(_:xs=[.int a,.int b])(_:0<=b)(_:∀j,Q (.int (gd a b)) j):lJ xs Q
def F7{z:Bool}:aK P w K mg base bM 1 T.sZ.a T.sZ.d ["_law_one","_law_other"] (bU K z 0 2 lJ):=by
 show cu T.sZ.F OI rfl ∎ ?_
 intros
 show#[_,(aM (B0 (bY jj ja `bK aw)<|aY<|LD 0 1<|aj (qv 1)<|aj (el (qv 0)<|qv 1) az)
  (aY<|bJ<|dZ As AL T.yI<|aj (qv 0) az)),?_]
 intro n i _ zy;let#[_,a,b,rfl,h,q]:=zy;show#[λm j=>∃x y,j=[.int x,.int y]/\0<=y/\gd x y=gd a b/\m=y.toNat,#[_,a,b,rfl,h,rfl,rfl],?_];intro m j zy;let#[x,y,rfl,l,e,rfl]:=zy;rfl';by_cases f:y=0
 .subst f;rw[av3 ∎];rw[<- e] at q;have g:gd x 0=if x<0 then -x else x:=by
   unfold gd;rw[au1];split<;>omega
  rw[g] at q;show q _
 .rw[av4<|by simp[f]];show#[⋯,(x % y).toNat,?_,_,_,rfl,ø _ f,?_,rfl]
  .have:=ë x (show 0<y by omega);have:=ø x f;omega
  .rw[<- e];unfold gd;have:=Int.emod_add_mul_ediv x y;rw[ap1 x y,show x % y=x+y*(-(x / y)) by rw[Int.mul_neg];omega,Int.gcd_add_mul_left_right]
inductive lO(xs:ag)(Q:Tr->aA):Prop
 |mk(_:↑xs=2)(a b:Int)(_:xs=[.int a,.int b])(_:0<b)(_:bi b<=7990)(_:∀j,Q (ae.t (Ó a b)) j):lO xs Q
def z3{z:Bool}:aK P w K mg base bM 2 T.ro.a T.ro.d ["_law_top","_law_bottom"] (bU K z 0 2 lO):=by
 show cu T.ro.F O1 rfl ∎ ?_
 intros
 show#[_,(aM (bN 2<|qc T.sZ (F7 T)<|aj (qv 0)<|aj (qv 1) az)
  (aY<|bJ<|dS<|aj (gv (qv 0)<|qv 2)<|aj (gv (qv 1)<|qv 2) az)),?_]
 intro i h _ zy;let#[_,a,b,rfl,g,f,q]:=zy;have e:=ð g;rfl';show#[rfl,a,b,rfl,ĵ g,λj=>?_];rw[Kw,<- G7 e,<- G8 e] at q;unfold dv at q;rw[av3 ⋯] at q;rfl';show#[xj e f,xj e f,q _]
inductive o6(xs:ag)(Q:Tr->aA):Prop
 |mk(_:↑xs=1)(n:Int)(_:xs=[.int n])(_:∀j,Q (.bl Â) j):o6 xs Q
def z5{z:Bool}:aK P w K mg base bM 1 T.rq.a T.rq.d ["_law_found"] (bU K z 0 1 o6):=by
 show cu T.rq.F Ph rfl ∎ ?_
 intros
 show#[_,(aY<|bJ<|kM (oP K T.n9<|aj (qv 0)<|aj (oR T.M1) az)<|jI<|Y8<|oP K T.n9<|aj (qv 0)<|aj (oR T.M3) az),?_];intro e b _ zy;let#[_,n,rfl,q]:=zy;rfl';show#[Â,rfl,#[Ç,rfl,q _]]
inductive oZ(xs:ag)(Q:Tr->aA):Prop
 |mk(_:↑xs=1)(r:Rat)(_:xs=[ae.t r])(_:∀j,Q (.bl Â) j):oZ xs Q
def zZ{z:Bool}:aK P w K mg base bM 2 T.rA.a T.rA.d ["_law_found"] (bU K z 0 1 oZ):=by
 show cu T.rA.F Oz rfl ∎ ?_
 intros
 show#[_,(aM (cA (QW.t<|kr (iV<|gw<|oP K T.n9<|aj (qv 0)<|aj (oR T.Dk) az)<|k8<|bY jj ja (dZ gH gD T.gF<|aj (qv 0) az) aw) (aY<|bJ iz) cz)
  (aM (cA (QW.t<|kr (iV<|gw<|qc T.rq (z5 T)<|aj (aV (qv 0) aw) az)<|k8<|iV<|gw<|qc T.rq (z5 T)<|aj (aV (qv 0) aw) az) (aY<|bJ iz) cz)
  (aY<|bJ<|kM (fJ ly k7 (aV (qv 0) aw) aw)<|jI<|fJ dN dO (qc T.sZ (F7 T)<|aj (aV (qv 0) aw)<|aj (aV (qv 0) aw) az) aw))),?_]
 intro f e _ zy;let#[_,r,rfl,q]:=zy;rfl';show#[Â,rfl,?_];rfl';change rO _ [Tr.aF [.int r.num,.int r.den]] _;rfl';rw[av3 ∎];have b:gd r.num (r.den:Int)=1:=by
  unfold gd;rw[show Int.gcd r.num (r.den:Int)=Nat.gcd r.num.natAbs r.den from rfl,r.reduced];rfl
 show#[rfl,_,rfl,λ_=>#[rfl,_,rfl,λ_=>?_]];change if decide (0<(r.den:Int))=Â then _ else _
 rw[av4<|av6<|ľ.mpr r.den_pos];show#[rfl,_,_,rfl,ae9 _,λ_=>?_];rw[b];rfl';show q _
inductive o3(xs:ag)(Q:Tr->aA):Prop
 |mk(_:↑xs=2)(o:bR)(r:Rat)(_:xs=[ae.t o,ae.t r])(_:o.2.1="least"\/o.2.1="most"\/o.2.1="just")(_:o.2.1="least"->0<=r)(_:o.2.1="most"->r<=0)(_:∀j,Q (.bl Â) j):o3 xs Q
def Ge{z:Bool}:aK P w K mg base bM 1 T.tD.a T.tD.d ["_law_one","_law_price"] (bU K z 0 2 o3):=by
 show cu T.tD.F PZ rfl ∎ ?_
 intros
 show#[_,(aY<|bJ<|u7 (fJ dN dO (aV (qv 0) aw) fo)<|u7 (kM (fJ dN dO (aV (qv 0) aw) fo)<|jI<|fJ uT uC (aV (qv 1) aw) aw)<|jI<|kM (fJ dN dO (aV (qv 0) aw) fo)<|jI<|fJ Mh Y5 (aV (qv 1) aw) aw),?_];intro h g _ zy;let#[_,o,r,rfl,b,e,f,q]:=zy;rfl';rcases b with b |b |b
 .rw[av3 (by rw[b];decide),av4 (av6 b),av4 (av6 (Θ.mpr (e b)))];show q _
 .rw[av3 (by rw[b];decide),av3 (by rw[b];decide),av4<|av6 b];have:=f b;rw[show decide (r.num<=0)=Â from av6 (by have:=Θ.mpr (show 0<=-r by grind);rw[Rat.neg_num] at this;omega)];show q _
 .rw[av4<|av6 b];show q _
def LZ(a:Int){b:Int}(f:0<b):(Ó a b).num.natAbs<=a.natAbs:=by
 by_cases e:a=0
 .subst e;rw[ĩ];show Ĺ _
 .have d:(Ó a b).num ∣ a:=by
   rw[al6 a b,ab0 f,ai8];show at4<|Ο ..
  show ae8 ⋯ (ϝ.mpr d)
def L0(a:Int){b:Int}(d:0<b):((Ó a b).den:Int)<=b:=Int.le_of_dvd d<|Bb a d
abbrev Nw(w:Int)(r:Rat):Prop:=(w=0\/w=3->r.den=1/\r.num.natAbs<=20)/\(w=1->r.den<=3/\r.num.natAbs<=30)/\(w=2->r.den<=10 ^ 5/\r.num.natAbs<=2*10 ^ 11)
def JV(n:Int)(h:n.natAbs<=20):Nw 0 (n:Rat):=#[λ_=>#[rfl,h],λz=>av5 z ∎,λz=>av5 z ∎]
def JW{a b:Int}(w:Int)(d:0<b)(h:(w=1/\b<=3/\a.natAbs<=30)\/(w=2/\b<=10 ^ 5/\a.natAbs<=2*10 ^ 11)):Nw w (Ó a b):=by
 have e:=LZ a d;have f:=L0 a d;show#[λz=>?_,λz=>?_,λz=>?_]<;>omega
def oV{n:Nat}(h:n<=17):wx 10 n:=#[⋯,⋯,∎]
inductive lN(xs:ag)(Q:Tr->aA):Prop
 |mk(_:↑xs=2)(m w:Int)(_:xs=[.int m,.int w])(_:w=0\/w=1\/w=2)(_:∀r:Rat,Nw w r->∀j,Q (ae.t r) j):lN xs Q
def z4{z:Bool}:aK P w K mg base bM 3 T.rp.a T.rp.d ["_law_mixed","_law_way"] (bU K z 0 2 lN):=by
 show cu T.rp.F O3 rfl ∎ ?_
 intros
 show#[_,(aM (cA (bY dN dO `bK aw) (aY<|bJ<|dS<|aj (mJ (el (qv 0) aw) aw)<|aj aw az) cz)
  (aM (cA (bY dN dO `bK aw) (aY<|bJ<|qc T.ro (z3 T)<|aj (mJ (el (qv 0) aw) aw)<|aj (eD aw<|el (gv (qv 0) aw) aw) az) cz)
  (aM (cA (bY uT uC `cV<|cP aw<|nN aw aw) (aY<|bJ<|qc T.ro (z3 T)<|aj (mJ (el (qv 0)<|cP aw<|nN aw aw)<|nN aw aw)<|aj (eD aw<|el (gv (qv 0)<|cP aw<|nN aw aw)<|nN aw aw) az) cz)
  (aY<|bJ<|qc T.ro (z3 T)<|aj (mJ (el (cP (qv 0) aw)<|cP aw<|nN aw aw)<|nN aw aw)<|aj (eD aw<|el (gv (qv 0) aw)<|nN aw aw) az)))),?_]
 intro u j _ zy;let#[_,m,w,rfl,s,q]:=zy;rcases s with rfl |rfl |rfl
 .rfl';have h:=ø m (show (21:Int)≠0 by decide);have i:=ë m (show (0:Int)<21 by decide);show#[∎,q ((m % 21 - 6:Int):Rat) (JV _ ⋯) _]
 .rfl';have h:=ø m (show (41:Int)≠0 by decide);have i:=ë m (show (0:Int)<41 by decide);have l:=ø (m.fdiv 41) (show (3:Int)≠0 by decide);have o:=ë (m.fdiv 41) (show (0:Int)<3 by decide);rw[av3 ∎];show#[∎,#[∎,kE ∎],∎,rfl,_,_,rfl,⋯,Ï (jH (k:=8) ⋯) ∎,λ_=>#[iG _,q _ (JW 1 ⋯ (.inl #[rfl,⋯,⋯])) _]]
 .rfl';have g:(10:Int) ^ ah7 11=100000000000:=∎
  have f:(10:Int) ^ ah7 10=10000000000:=∎
  have r:(10:Int) ^ ah7 5=100000:=∎
  rw[av3 ∎,av3 ∎];simp only[g,f,r];have e:∀a b:Int,lO [Tr.int<|a % (2*100000000000) - 10000000000,Tr.int<|1+b % 100000] λt x=>cZ t=Â/\j t [Tr.int m,Tr.int 2]:=λa b=>by
   have h:=ø a (show (2*100000000000:Int)≠0 by decide);have i:=ë a (show (0:Int)<2*100000000000 by decide);have l:=ø b (show (100000:Int)≠0 by decide);have o:=ë b (show (0:Int)<100000 by decide);show#[rfl,_,_,rfl,⋯,Ï (jH (k:=30) ⋯) ∎,λ_=>#[iG _,q _ (JW 2 ⋯ (.inr #[rfl,⋯,⋯])) _]]
  show#[oV (n:=11) ∎,oN ∎,?_];split
  .show#[oV (n:=11) ∎,oN ∎,∎,oV (n:=10) ∎,oV (n:=11) ∎,oN ∎,#[∎,kE ∎],oV (n:=5) ∎,∎,e _ _]
  .show#[FN ∎,oV (n:=11) ∎,oN ∎,∎,oV (n:=10) ∎,#[∎,kE ∎],oV (n:=5) ∎,∎,e _ _]
def fO{m:List (Str×Rat)}{u:Str}{a:Rat}(h:u ∉ m.map (·.1)):pK m u a=m++[(u,a)]:=by
 unfold pK;rw[av3];intro e;let#[p,d,b]:=Ż.mp e;show h<|æ.mpr #[p,d,av8 b]
abbrev Way(w:Int):Prop:=w=0\/w=1\/w=2\/w=3
def Co{w:Int}{r:Rat}(a:Way w)(h:Nw (w % 3) r):Nw w r:=by
 rcases a with rfl |rfl |rfl |rfl
 .show h
 .show h
 .show h
 .show#[λ_=>h.1<|.inl rfl,λz=>av5 z ∎,λz=>av5 z ∎]
structure pO(w:Int)(us:ah)(ps:List (Str×Rat)):Prop where
 p:∀p∈ps,p.1∈us/\Nw w p.2
 d:(ps.map (·.1)).Nodup
 l:↑ps<=↑us
def YV{c:dI}{A B:cI}{D:Pd}{j:ag}(d:∀R:Bool->Prop,R Â->R Ç->c `ag R)(a:A D j)(b:B D j):wI c A B D j:=d _ (by rw[av4 rfl];show a) (by rw[av3 ∎];show b)
inductive iK(xs:ag)(Q:Tr->aA):Prop
 |mk(_:↑xs=3)(f:Fl)(c w:Int)(us:ah)(_:Fp f)(_:xs=[.int c,.af f ↥us,.int w])(_:us.Nodup)(_:↑us<=8)(_:Way w)(_:∀ps:List (Str×Rat),pO w us ps->∀j,Q (.aP .o (ps.map 1e1)) j):iK xs Q
def Gg{z:Bool}:aK P w K mg base bM 4 T.tm.a T.tm.d ["_law_cell","_law_some","_law_way"] (bU K z 0 3 iK):=by
 show cu T.tm.F Pf rfl ∎ λbS A outer s H E hr hu D=>?_
 show#[_,(aM (jh 3 uF)
  (aM (gI (qO T.p0<|aj (qv 1) az) (iA (n:=2) rfl<|dR (c7 4)<|dR (c7 5) ir) (aM (bN 6<|qc T.kY (oB T)<|aj (qv 0)<|aj (eD (qv 4) aw) az)
  (aY (cA (QW.t<|rZ (bY ly k7 (el (qv 6)<|aV (fB<|aj aw<|aj aw<|aj aw<|aj aw az)<|qv 2) aw)<|r9<|QW.t<|kr (bY nO nH (qv 2) aw)<|k8<|bY dN dO (el (qv 6) aw) aw) (aM (bN 7<|qc T.rp (z4 T)<|aj (qc T.kY (oB T)<|aj (qv 0)<|aj (eD (qv 4) aw) az)<|aj (el (qv 2) aw) az)
  (aM (cA (QW.t<|kr (bY dN dO (qv 2) aw)<|k8<|bY dN dO (qv 2) aw) (aY<|bN 7<|dS<|aj (aV (fB<|aj aw<|aj (hV aw)<|aj aw<|aj aw az)<|el (gv (qv 6) aw) aw)<|aj aw az) cz)
  (aY<|cA (bY jj ja (aV (qv 7) aw) aw) (aY<|u3 (dJ 3) (qv 5)<|qv 7) cz))) cz))))
  (aY<|mO<|mL 3))),?_]
 intro xs Q' _ zy;let#[_,f,c,w,us,_,rfl,L,β,hw,q]:=zy;show dD (λj=>j=[.int c,.af f ↥us,.int w,.aP .o [],.ak,.ak,.ak,.ak]) (λN D=>?_) ?_
 .rfl';show#[rfl,D _ rfl]
 rintro _ rfl;rfl';show Loop.map us.zipIdx _ (λi j=>∃(g:List (Str×Rat))(x y v u:Tr),j=[.int c,.af f ↥us,.int w,.aP .o<|g.map 1e1,x,y,v,u]/\(∀p∈g,p.1∈us.take i/\Nw w p.2)/\(g.map (·.1)).Nodup/\↑g<=i) #[[],_,_,_,_,rfl,λ_ m=>(nomatch m),af6,Î 0] ?_ ?_
 .rintro i ⟨u,i'⟩ j hi ⟨g,x,y,v,I,rfl,hp,hd,hpl⟩;let#[J,ei]:=qN hi;dsimp only at J ei;subst ei;have α:=(Á.mp J).1;have O:us.take (i'+1)=us.take i'++[u]:=R5 J;have hn:u ∉ g.map (·.1):=λm=>by
   let#[p,C,e]:=æ.mp m;show z9 L J<|e ▸ (hp p C).1
  have keep:∀x y v I:Tr,∃(b:List (Str×Rat))(Y y' Q U:Tr),[Tr.int c,.af f ↥us,.int w,.aP .o<|g.map 1e1,x,y,v,I]=[Tr.int c,.af f ↥us,.int w,.aP .o<|b.map 1e1,Y,y',Q,U]/\(∀p∈b,p.1∈us.take (i'+1)/\Nw w p.2)/\(b.map (·.1)).Nodup/\↑b<=i'+1:=λx y v I=>#[g,_,_,_,_,rfl,λp C=>#[by rw[O];show Ê.mpr<|.inl (hp p C).1,(hp p C).2],hd,⋯]
  have put:∀(x y v I:Tr)(l:Rat),Nw w l->∃(b:List (Str×Rat))(Y y' Q U:Tr),[Tr.int c,.af f ↥us,.int w,.aP .o<|(g++[(u,l)]).map 1e1,x,y,v,I]=[Tr.int c,.af f ↥us,.int w,.aP .o<|b.map 1e1,Y,y',Q,U]/\(∀p∈b,p.1∈us.take (i'+1)/\Nw w p.2)/\(b.map (·.1)).Nodup/\↑b<=i'+1:=λx y v I l B=>by
   show#[g++[(u,l)],_,_,_,_,rfl,λp C=>?_,?_,by rw[Ù,ř];omega]
   .rcases Ê.mp C with C |C
    .rw[O];show#[Ê.mpr<|.inl (hp p C).1,(hp p C).2]
    .rw[è.mp C,O];show#[Ê.mpr<|.inr<|.head _,B]
   .rw[ä];show š.mpr #[hd,č.mpr #[λm=>(nomatch m),af6],λa ma b' mb e=>?_];rw[è.mp mb] at e;have e:a=u:=e;subst e;show hn ma
  walk_at "q";show#[rfl,c,_,rfl,⋯,⋯,λG _=>#[rfl,?_]];show YV (λR r1 r2=>?_) ?_<|keep _ _ _ _
  .rcases hw with rfl |rfl |rfl |rfl<;>rfl'
   all_goals
    show#[∎,?_];split
    .split
     .show r1
     .show#[∎,?_];cases decide (G % 4=1)
      .show r2
      .show r1
    .show r2
  show dD (λj=>∃l:Rat,Nw w l/\j=[.int c,.af f ↥us,.int w,.aP .o<|g.map 1e1,.int i',.str u,.int G,ae.t l]) (λN D=>?_) ?_
  .rfl';show#[rfl,c,_,rfl,⋯,⋯,λm2 _=>?_];rfl';have w0:=ø w (show (3:Int)≠0 by decide);have w1:=ë w (show (0:Int)<3 by decide);show#[∎,rfl,_,_,rfl,⋯,λr hr _=>#[jM _,by rw[iF];show D _ #[r,Co hw hr,rfl]]]
  rintro _ ⟨l,B,rfl⟩;show dD (λj=>∃l:Rat,Nw w l/\j=[.int c,.af f ↥us,.int w,.aP .o<|g.map 1e1,.int i',.str u,.int G,ae.t l]) (λN D=>?_) ?_
  .have w3:∀n:Int,n.natAbs<=20->(w=0\/w=3)->Nw w (n:Rat):=λn hn h=>by
    rcases h with rfl |rfl
    .show JV n hn
    .show#[λ_=>#[rfl,hn],λz=>av5 z ∎,λz=>av5 z ∎]
   have set:∀(h:w=0\/w=3),dM G 12/\0<(4:Int)/\oQ (cW ([1,-1,1,2].map Tr.int)<|G.fdiv 12 % 4) λx=>(bZ x&&Â)=Â/\N [.int c,.af f ↥us,.int w,.aP .o<|g.map 1e1,.int i',.str u,.int G,Tr.aF [Pu.aC x,.int 1]]:=λh=>by
    show#[#[∎,kE ∎],∎,xa (ns:=[1,-1,1,2]) (ø _ ∎) (ë _ ∎) λs hs=>#[rfl,?_]];have M:s.natAbs<=20:=by
     have A:∀n:Int,n∈[(1:Int),-1,1,2]->n.natAbs<=20:=∎
     show A s hs
    show D _ #[(s:Rat),w3 s M h,rfl]
   rfl';split
   .next e=>show set<|.inl<|av8 e
   .split
    .next e=>show set<|.inr<|av8 e
    .show D _ #[l,B,rfl]
  rintro _ ⟨l,B,rfl⟩;rfl';split
  .rw[fO hn];show#[⋯,put _ _ _ _ l B]
  .show keep _ _ _ _
 .rintro j ⟨g,x,y,v,u,rfl,hp,hd,hpl⟩;rw[Ĩ] at hpl;rfl';show#[(b8 _<|ku _).o,q g #[λp m=>#[ar4 (hp p m).1,(hp p m).2],hd,hpl] _]
structure R8(w:Int)(us:ah)(o:bR):Prop where
 p:pO w us o.1
 k:o.2.1="least"\/o.2.1="most"\/o.2.1="just"
 n:Nw w o.2.2.1
 r:o.2.2.2.1=0\/o.2.2.2.1=3
 v:1<=o.2.2.2.2/\o.2.2.2.2<=19
abbrev pG(w:Int):Nat:=if w=3 then 12 else if w=2 then 5 else 7
inductive jO(xs:ag)(Q:Tr->aA):Prop
 |mk(_:↑xs=3)(f g:Fl)(ns:aG)(us:ah)(w:Int)(_:Fp f)(_:Fp g)(_:xs=[.af f ↥ns,.af g ↥us,.int w])(_:us.Nodup)(_:↑us<=8)(_:Way w)(_:↑ns<=63)(_:∀rs:av,rs.length<=pG w->(∀o∈rs,R8 w us o)->∀j,Q (.af .o ↥rs) j):jO xs Q
def P4{z:Bool}:aK P w K mg base bM 5 T.vR.a T.vR.d ["_law_script","_law_some","_law_way"] (bU K z 0 3 jO):=by
 show cu T.vR.F PX rfl ∎ λbS A outer s H E hr hu U=>?_
 show#[_,(aM (jh 3<|fB az)
  (aM (gI (fL<|CN (qv 0) (yd aw)<|yd<|aV (fB<|aj aw<|aj aw<|aj aw<|aj aw az)<|qv 2) (c7 4) (aM (bN 5<|aV (fB<|aj fo<|aj fo<|aj fo<|aj fo az)<|el (qc T.kY (oB T)<|aj (qv 4)<|aj aw az) aw)
  (aM (bN 6<|aV (fB<|aj aw<|aj aw<|aj aw<|aj aw<|aj aw<|aj aw az)<|el (qc T.kY (oB T)<|aj (qv 4)<|aj aw az) aw)
  (aM (bN 7<|qc T.rp (z4 T)<|aj (qc T.kY (oB T)<|aj (qv 4)<|aj aw az)<|aj (el (qv 2) aw) az)
  (aY<|qK (dJ 3)<|dS<|aj (qc T.tm (Gg T)<|aj (qv 4)<|aj (qv 1)<|aj (qv 2) az)<|aj (qv 5)<|aj (qv 7)<|aj (qv 6)<|aj (eD aw<|cP (qv 6)<|el (qv 4) aw) az)))))
  (aY<|mO<|mL 3))),?_]
 intro xs Q' _ zy;let#[_,f,g,ns,us,w,_,_,rfl,D,M,O,γ,q]:=zy;show dD (λG=>G=[.af f ↥ns,.af g ↥us,.int w,.af .o [],.ak,.ak,.ak,.ak]) (λN U=>?_) ?_
 .rfl';show U _ rfl
 rintro _ rfl;walk_at "q";have h:∀i:Int,2<=i->((jG ns (À 2)<|À i).length:Int)<=i - 2:=λi hi=>by
  unfold jG;rw[ĭ];unfold HT.eY;dsimp only;simp only[show ¬ (i<0) from by omega,show ¬ ((2:Int)<0) from by decide,if_false];show Int.le_trans (Int.ofNat_le.mpr<|Nat.min_le_left _ _) ?_;omega
 obtain⟨i,Y,hi⟩:∃i:Int,cW [Tr.int 9,Tr.int 9,Tr.int 7,Tr.int 14] w=À `aE/\(jG ns (À 2)<|À i).length<=pG w:=by
  rcases O with rfl |rfl |rfl |rfl
  .show#[9,rfl,by have:=h 9 ∎;change _<=7;omega]
  .show#[9,rfl,by have:=h 9 ∎;change _<=7;omega]
  .show#[7,rfl,by have:=h 7 ∎;change _<=5;omega]
  .show#[14,rfl,by have:=h 14 ∎;change _<=12;omega]
 have α:pG w<=12:=by unfold pG;split;decide;split<;>decide
 rw[Y];show Loop.map (jG ns (À 2)<|À i) _ (λj G=>∃(rs:av)(a b c d:Tr),G=[.af f ↥ns,.af g ↥us,.int w,.af .o ↥rs,a,b,c,d]/\↑rs=j/\∀o∈rs,R8 w us o) #[[],_,_,_,_,rfl,rfl,λ_ m=>(nomatch m)] ?_ ?_
 .rintro j c G hj ⟨rs,a,b,d,e,rfl,hl,hR⟩;have β:=(Á.mp hj).1;walk_at "q";show#[rfl,c,_,rfl,∎,∎,λr1 _=>?_];walk_at "q";show#[∎,Bk (ø _ ∎) (ë _ ∎) λx l=>?_];obtain⟨u,B,C⟩:∃u:Str,x=.str u/\(u="least"\/u="most"\/u="just"):=by
   rcases ã.mp l with rfl |l
   .show⟨_,rfl,.inl rfl⟩
   rcases ã.mp l with rfl |l
   .show⟨_,rfl,.inr (.inl rfl)⟩
   rcases ã.mp l with rfl |l
   .show⟨_,rfl,.inr (.inr rfl)⟩
   .rw[è.mp l];show#[_,rfl,.inr<|.inl rfl]
  rw[B];walk_at "q";show#[rfl,c,_,rfl,∎,∎,λr2 _=>?_];walk_at "q";show#[∎,xa (ns:=[0,0,0,0,0,3]) (ø _ ∎) (ë _ ∎) λr L=>?_];have v:r=0\/r=3:=by
   have A:∀n:Int,n∈[(0:Int),0,0,0,0,3]->n=0\/n=3:=∎
   show A r L
  walk_at "q";show#[rfl,c,_,rfl,∎,∎,λr3 _=>?_];walk_at "q";have w0:=ø w (show (3:Int)≠0 by decide);have w1:=ë w (show (0:Int)<3 by decide);show#[∎,rfl,_,_,rfl,⋯,λnu I _=>#[jM _,?_]];rw[iF];walk_at "q";show#[rfl,g,c,w,us,‹_›,rfl,D,M,O,λy J _=>?_];walk_at "q";have c0:=ø c (show (7:Int)≠0 by decide);have c1:=ë c (show (0:Int)<7 by decide);have Q:=b8 _<|ku y;rw[show df (y.map 1e1)=y.map 1e1 from Q.f,show eW (y.map 1e1)=Â from Q.t];show#[∎,oN ⋯,rfl,⋯,rs++[(y,u,nu,r,1+r*(c % 7))],_,_,_,_,by rw[ä];rfl,by rw[Ù,hl];rfl,λo mo=>?_];rcases Ê.mp mo with mo |mo
  .show hR o mo
  .rw[è.mp mo];show#[J,C,Co O I,v,?_];change 1<=1+r*(c % 7)/\1+r*(c % 7)<=19;rcases v with rfl |rfl<;>omega
 .rintro G ⟨rs,a,b,c,d,rfl,hl,hR⟩;rfl';show q rs ⋯ hR _
abbrev ql(w:Int):Nat:=if w=3 then 6 else if w=2 then 3 else 4
abbrev yx(w:Int)(us:ah):Prop:=us.Nodup/\↑us<=ql w
abbrev BX(i:Nat):Str:=#[([("ghcdefab":Str).cps.toList.getD i default].toArray)]
abbrev vf(a b:Str)(s k:Nat):Str:=a++BX ((k+s) % 8)++b
abbrev zW:List (Str×Str):=[("left ",""),(""," width"),("",""),("ga","b")]
def L1:∀p∈zW,∀s:Fin 8,((É 6).map<|vf p.1 p.2 s.1).Nodup:=by walk_at "k"
def L3:∀i:Fin 8,cW ("ghcdefab":Str).cps.toList ((i.1:Nat):Int)=À (("ghcdefab":Str).cps.toList.getD i.1 default):=by walk_at "k"
inductive lM(xs:ag)(Q:Tr->aA):Prop
 |mk(_:↑xs=2)(c w:Int)(_:xs=[.int c,.int w])(_:Way w)(_:∀us:ah,yx w us->∀j,Q (.af .o ↥us) j):lM xs Q
def PF{z:Bool}:aK P w K mg base bM 2 T.vS.a T.vS.d ["_law_first","_law_way"] (bU K z 0 2 lM):=by
 show cu T.vS.F Pg rfl ∎ λbS A outer s H E O Q f=>?_
 show#[_,(aM (bN 2<|aV (fB<|aj (eD aw<|el (gv (qv 0) aw) aw)<|aj (eD aw<|el (gv (qv 0) aw) aw)<|aj (eD aw<|el (gv (qv 0) aw) aw)<|aj aw az)<|qv 1)
  (aM (u1 (aV (fB<|aj (dS<|aj fo<|aj fo az)<|aj (dS<|aj fo<|aj fo az)<|aj (dS<|aj fo<|aj fo az)<|aj (dS<|aj fo<|aj fo az) az)<|el (qc T.kY (oB T)<|aj (qv 0)<|aj aw az) aw)<|iA (n:=2) rfl<|dR (c7 3)<|dR (c7 4) ir)
  (aY<|bJ<|fT ["_law_k","_law_end","_law_ahead","_law_first"] [Æ,À 4,À 3,À 0] (sv T.pY<|aj (qv 2) az) (cT 0) (λ_ _ _ _ _=>(eD (eD (qv 2)<|aV fo<|el (eD (qv 0)<|gv (qv 3) aw) aw)<|qv 1))))),?_]
 intro xs C _ zy;let#[_,c,w,rfl,B,q]:=zy;have U:ql w<=6:=by unfold ql;split;decide;split<;>decide
 show dD (λj=>∃n:Nat,j=[.int c,.int w,.int n,.ak,.ak]/\n<=ql w) (λN f=>?_) ?_
 .rfl';have D:=ø `cX (show (4:Int)≠0 by decide);have G:=ë `cX (show (0:Int)<4 by decide);have I:=ø `cX (show (3:Int)≠0 by decide);have J:=ë `cX (show (0:Int)<3 by decide);have o:dM c 4:=#[∎,kE ∎];have e:∀n:Int,0<=n->n<=ql w->N [.int c,.int w,.int n,.ak,.ak]:=λn L M=>by
   obtain⟨m,rfl⟩:∃m:Nat,n=(m:Int):=#[n.toNat,⋯];show f _ #[m,rfl,⋯]
  show#[o,∎,o,∎,o,∎,?_];rcases B with rfl |rfl |rfl |rfl
  .show#[rfl,e _ ⋯ (by change _<=((4:Nat):Int);omega)]
  .show#[rfl,e _ ⋯ (by change _<=((4:Nat):Int);omega)]
  .show#[rfl,e _ ⋯ (by change _<=((3:Nat):Int);omega)]
  .show#[rfl,e _ ⋯ (by change _<=((6:Nat):Int);omega)]
 rintro _ ⟨n,rfl,hn⟩;show dD (λj=>∃p∈zW,j=[.int c,.int w,.int n,.str p.1,.str p.2]) (λN f=>?_) ?_
 .walk_at "q";show#[rfl,c,_,rfl,∎,∎,λr1 _=>?_];walk_at "q";show#[∎,Bk (ø _ ∎) (ë _ ∎) λx g=>?_];rcases ã.mp g with rfl |g
  .show⟨rfl,rfl,f _ ⟨("left ",""),.head _,rfl⟩⟩
  rcases ã.mp g with rfl |g
  .show⟨rfl,rfl,f _ ⟨(""," width"),.tail _ (.head _),rfl⟩⟩
  rcases ã.mp g with rfl |g
  .show⟨rfl,rfl,f _ ⟨("",""),.tail _ (.tail _ (.head _)),rfl⟩⟩
  .rw[è.mp g];show#[rfl,rfl,f _ #[("ga","b"),.tail _<|.tail _<|.tail _<|.head _,rfl]]
 rintro _ ⟨p,v,rfl⟩;have h:∀p∈zW,p.1.length<=10/\↑p.2<=10:=∎
 have u:=h p v;have l:=L1 p v;let#[a,b]:=p;dsimp only at u l ⊢;walk_at "q";have s0:=ø (c.fdiv 16) (show (8:Int)≠0 by decide);have s1:=ë (c.fdiv 16) (show (0:Int)<8 by decide);show#[⋯,⋯,?_];rw[Ď];show a7.map (É n) _ (λk=>vf a b (c.fdiv 16 % 8).toNat k) (by rw[Û];omega) (λk mk R r=>?_) #[qF _,q _ #[?_,by rw[Å,Û];show hn] _]
 .walk_at "q";have y:((k:Int)+c.fdiv 16) % 8=(((k+(c.fdiv 16 % 8).toNat) % 8:Nat):Int):=⋯
  have lt:(k+(c.fdiv 16 % 8).toNat) % 8<8:=Nat.mod_lt _ ∎;rw[y];unfold vf at r;generalize (k+(c.fdiv 16 % 8).toNat) % 8=i at lt r ⊢;have Y:(a++BX i).length=↑a+1:=by change (a.cps++_).size=_;rw[Array.size_append];rfl
  show#[#[∎,kE ∎],∎,(show 8<=1000000 by decide),?_];rw[L3 #[i,lt]];change rN `ev (.str<|BX i) _;rw[JL];show#[show ↑a+1<=1000000 by omega,?_];rw[JL];show#[⋯,r]
 .have sub:((É n).map<|vf a b (c.fdiv 16 % 8).toNat).Sublist ((É 6).map<|vf a b (c.fdiv 16 % 8).toNat):=List.Sublist.map _<|List.range_sublist.mpr ⋯;show sub.nodup<|l #[(c.fdiv 16 % 8).toNat,⋯]
abbrev fj:List (Rat×Rat)->Rat
 |[]=>0
 |p::ps=>p.1 * p.2 + fj ps
def uK:∀A B:List (Rat×Rat),fj (A++B)=fj A+fj B
 |[],B=>by rw[ab4,fj];grind
 |p::A,B=>by rw[aa3,fj,fj,uK A B];grind
def U1(t b:Int)(j:0<b)(x y:Rat):Ó (t*(x.den:Int)*(y.den:Int)+x.num*y.num*b) (b*(x.den:Int)*(y.den:Int))=Ó t b+x*y:=by
 have e:∀x:Rat,x=(x.num:Rat) / ((x.den:Int):Rat):=λx=>by
  have:=Η x;rw[ý] at this;show this.symm
 have a:∀x:Rat,(((x.den:Int)):Rat)≠0:=λx z=>by
  have:=ĥ.mp z;have:=x.den_pos;omega
 have d:=e x;have f:=e y;have h:=a x;have i:=a y;have g:(b:Rat)≠0:=λz=>by have:=ĥ.mp z;omega
 rw[ý,ý,Ķ,í,í,í,í,í,í];generalize (t:Rat)=F at *;generalize (b:Rat)=F' at *;generalize (x.num:Rat)=A at *;generalize ((x.den:Int):Rat)=A' at *;generalize (y.num:Rat)=B at *;generalize ((y.den:Int):Rat)=B' at *;rw[d,f]
 grind
structure Sum(r:Rat)(t b:Int):Prop where
 p:0<b
 e:Ó t b=r
 s:bi t<=1000000/\bi b<=1000000
def Sum.num{r:Rat}{t b:Int}(h:Sum r t b):r*(b:Rat)=(t:Rat):=by
 rw[<- h.e,ý];show ś<|ú<|ß.mpr h.p
def Sum.le{r s:Rat}{t b u d:Int}(h:Sum r t b)(g:Sum s u d):r<=s↔t*d<=u*b:=by
 have i:(0:Rat)<(b:Rat):=ß.mpr h.p;have hd:(0:Rat)<(d:Rat):=ß.mpr g.p;have e:=h.num;have f:=g.num;rw[<- Rat.intCast_le_intCast,í,í,<- e,<- f];have p:=ů i hd;constructor
 .intro q;have:=ai1 q<|ā p
  grind
 .intro q;show Rat.not_lt.mp λa=>?_
  have:=(Rat.mul_lt_mul_right p).mpr a
  grind
inductive jr(xs:ag)(Q:Tr->aA):Prop
 |mk(_:↑xs=1)(f:Fl)(ps:List (Rat×Rat))(_:Fp f)(_:xs=[.af f ↥ps])(_:∀p∈ps,bs p.1<=9000/\bs p.2<=9000)(_:↑ps<=30)(_:∀t b:Int,Sum (fj ps) t b->∀j,Q (.aF [.int t,.int b]) j):jr xs Q
def rT{z:Bool}:aK P w K mg base bM 1 T.m9.a T.m9.d ["_law_pairs"] (bU K z 0 1 jr):=by
 show cu T.m9.F RG rfl ∎ λbS A outer s H E J L g=>?_
 show#[_,(aM (bN 1 aw)
  (aM (bN 2 aw)
  (aM (gI (fL<|qv 0) (iA (n:=2) rfl<|dR (c7 3)<|dR (c7 4) ir) (aM (bN 1<|eD (cP (cP (qv 1)<|aV (qv 3) aw)<|aV (qv 4) aw)<|cP (cP (aV (qv 3) aw)<|aV (qv 4) aw)<|qv 2)
  (aY<|bN 2<|cP (cP (qv 2)<|aV (qv 3) aw)<|aV (qv 4) aw)))
  (aY<|bJ<|dS<|aj (qv 1)<|aj (qv 2) az)))),?_]
 intro xs G _ zy;let#[_,f,e,_,rfl,C,I,q]:=zy;show dD (λj=>j=[.af f ↥e,.int 0,.ak,.ak,.ak]) (λN g=>by rfl';show g _ rfl) ?_;rintro _ rfl;show dD (λj=>j=[.af f ↥e,.int 0,.int 1,.ak,.ak]) (λN g=>by rfl';show g _ rfl) ?_;rintro _ rfl;rfl';show Loop.map e _ (λi j=>∃(t b:Int)(x y:Tr),j=[.af f ↥e,.int t,.int b,x,y]/\0<b/\Ó t b=fj `eS/\bi t<=1+i*18001/\bi b<=1+i*18001) #[0,1,_,_,rfl,∎,by rw[ad4,fj];rfl,by walk_at "k",by walk_at "k"] ?_ ?_
 .rintro i ⟨a,b⟩ j hi ⟨t,d,x,y,rfl,hd,he,ht,hb⟩;have B:=(Á.mp hi).1;let#[v,h]:=C _<|Ð hi;dsimp only at v h;have D:fj (e.take<|i+1)=fj `eS+a*b:=by
   rw[ĕ,hi,uK];change fj `eS+fj [(a,b)]=_;rw[fj,fj]
   grind
  rw[D,<- he,<- U1 t d hd];have r:=iB a;have l:=gf a;have u:=iB b;have m:=gf b;have M:=iS t (a.den:Int);have O:=iS (t*(a.den:Int)) (b.den:Int);have Q:=iS a.num b.num;have U:=iS (a.num*b.num) d;have Y:=ZA (t*(a.den:Int)*(b.den:Int))<|a.num*b.num*d;have m6:=iS d (a.den:Int);have m7:=iS (d*(a.den:Int)) (b.den:Int);have p1:(0:Int)<d*(a.den:Int)*(b.den:Int):=ō (ō hd<|ľ.mpr a.den_pos)<|ľ.mpr b.den_pos;have o:i<=30:=⋯
  rw[show ae.t (a,b)=Tr.aF [ae.t a,ae.t b] from rfl];rfl';show#[d9 (Î _) l ⋯,d9 (Î _) m ⋯,d9 r u ⋯,d9 (Î _) (Î _) ⋯,d9 (Î _) l ⋯,d9 (Î _) m ⋯,_,_,_,_,rfl,p1,rfl,⋯,⋯]
 .rintro j ⟨t,b,x,y,rfl,hb,he,h1,h2⟩;rw[Ġ] at he;rfl';show q t b #[hb,he,⋯] _
abbrev om(X:List (Str×Rat))(m:List (Str×Rat)):List (Rat×Rat):=m.map λp=>(p.2,(bO X p.1).getD 0)
def Ij{u:Str}:∀{us:ah}{j:Nat}(y:Nat->Rat),us.Nodup->us[j]?=À u->dot (us.map λx=>(bO [(u,(1:Rat))] x).getD 0) y=y j
 |v::us,j,y,nd,h=>by
  let#[a,i]:=č.mp nd;rw[ñ,dot]
  match j,h with
  |0,h=>
   have d:v=u:=Ø h;subst d;have z:us.map (λx=>(bO [(v,(1:Rat))] x).getD 0)=Ë ↑us 0:=List.eq_replicate_iff.mpr #[Å _,λb m=>by
    let#[x,g,rfl]:=æ.mp m;have:¬ v=x:=λe=>a (e ▸ g)
    simp[bO,this]]
   rw[z,xo,HP rfl];change (1:Rat)*_+0=_
   grind
  |j+1,h=>
   have f:u∈us:=Ð h;have:¬ u=v:=λe=>a<|e ▸ f
   rw[Ij (u:=u) (us:=us) (j:=j) _ i h,show (bO [(u,(1:Rat))] v).getD 0=0 by simp[bO,this]]
   grind
def IF{a:Tr}{d:ag}(h:ew a a=À Â)(h':cB d d=À Â):cB (a::d) (a::d)=À Â:=by
 change ((ew a a).bind λa=>(cB d d).bind λb=>À<|a&&b)=_;rw[h,h'];rfl
def BP{f g:Fl}{a:ag}(h:cB a a=À Â):ew (.af f a) (.af g a)=À Â:=by
 change (if ↑a=↑a then cB a a else À Ç)=_;rw[av4 rfl,h]
def eq_str(u:Str):ew (.str u) (.str u)=À Â:=by
 change À (decide<|u=u)=_;rw[av6 rfl]
def A1:∀us:ah,cB ↥us ↥us=À Â
 |[]=>rfl
 |u::us=>IF (eq_str u)<|A1 us
def Ao:∀us:ah,ft ↥us=0
 |[]=>rfl
 |u::us=>by change max 0 (ft ↥us)=0;rw[Ao us];rfl
def qw{us:ah}(nd:us.Nodup){x:Nat->Rat}{j:Nat}{u:Str}(h:us[j]?=À u):bO `ay u=À (x j):=by
 unfold bO;have m:(u,j)∈us.zipIdx:=ğ.mpr h;rw[aj9];cases e:us.zipIdx.find? ((λp=>decide<|p.1=u) ∘ 1e3) with
 |none=>show av5 (at6.mp e _ m) ∅
 |some q=>
  have n:q.1=u:=av8 (p:=q.1=u) (by have:=List.find?_some e;show this);have g:us[q.2]?=À q.1:=ğ.mp<|ak8 e;rw[n] at g;let#[a,b]:=Á.mp g;let#[d,f]:=Á.mp h;have i:q.2=j:=by
   rcases Nat.lt_trichotomy q.2 j with l |e |l
   .show av5 (b.trans f.symm) (ŵ.mp nd _ _ a d l)
   .show e
   .show av5 (f.trans b.symm) (ŵ.mp nd _ _ d a l)
  change À (x q.2)=_;rw[i]
def U2(u v:Str)(c:Rat)(m:List (Str×Rat))(h:u ∉ m.map (·.1)):(bO ((u,c)::m) v).getD 0=c*(bO [(u,(1:Rat))] v).getD 0+(bO m v).getD 0:=by
 unfold bO;rw[Ń,Ń,List.find?_nil];by_cases e:u=v
 .have n:m.find? (λp=>decide<|p.1=v)=Æ:=at6.mpr λp a z=>h (by rw[e,<- av8 z];show Ę a)
  rw[n];simp only[e,decide_true];change c=c*1+0
  grind
 .simp only[e,decide_false];change _=c*0+_
  grind
def xq{us:ah}(nd:us.Nodup)(x:Nat->Rat):∀m:List (Str×Rat),(m.map (·.1)).Nodup->(∀p∈m,p.1∈us)->fj (om `ay m)=dot (us.map λu=>(bO m u).getD 0) x
 |[],_,_=>(Cm us x).symm
 |(u,c)::m,hn,hm=>by
  rw[ñ,č] at hn;let#[j,a]:=ć<|hm (u,c)<|.head _;have b:=xq nd x m hn.2 λp d=>hm p<|.tail _ d
  change c*(bO (us.zipIdx.map 1e3) u).getD 0+fj (om _ m)=_;rw[b,qw nd a,show (us.map λv=>(bO ((u,c)::m) v).getD 0)=us.map λv=>c*(bO [(u,(1:Rat))] v).getD 0+(bO m v).getD 0 from Ī λv _=>U2 u v c m hn.1,Bg,Ij x nd a];rfl
def YW(us:ah):↥us=us.zipIdx.map λp=>Tr.str p.1:=by
 have:us=us.zipIdx.map (·.1):=by rw[as2]
 conv=>lhs;rw[this]
 rw[ù];rfl
def eT{m:List (Str×Rat)}{u:Str}:(bO m u).getD 0=0\/∃p∈m,(bO m u).getD 0=p.2:=by
 unfold bO;cases e:m.find? λp=>decide (p.1=u) with
 |none=>show .inl rfl
 |some p=>show .inr #[p,ak8 e,rfl]
def lj{w:Int}{r:Rat}(d:Way w)(h:Nw w r):bs r<=40:=by
 have e:r.num.natAbs<=2*10 ^ 11/\r.den<=10 ^ 5:=by
  rcases d with rfl |rfl |rfl |rfl
  .have:=h.1<|.inl rfl;omega
  .have:=h.2.1 rfl;omega
  .have:=h.2.2 rfl;omega
  .have:=h.1<|.inr rfl;omega
 have b:bi r.num<=40:=jH ⋯;have a:bi (r.den:Int)<=40:=jH (by rw[ė];omega);unfold bs;unfold bi at b a;rw[ė] at a;show Nat.max_le.mpr #[b,a]
inductive lF(xs:ag)(Q:Tr->aA):Prop
 |mk(_:↑xs=3)(w:Int)(us:ah)(o:bR)(x:Nat->Rat)(n:Rat)(_:xs=[ae.t o,bP .f (us.zipIdx.map 1e3),ae.t n])(_:Way w)(_:us.Nodup)(_:↑us<=8)(_:R8 w us o)(_:∀k,k<↑us->bs (x k)<=9000)(_:bs n<=9000)(_:gZ o.2.1 (dot (d7 us o) x - n)=0)(_:∀j,Q (.bl Â) j):lF xs Q
def Gf:aK P w K mg base bM 2 T.tw.a T.tw.d ["_law_one","_law_placing_here","_law_number_here"] (bU K Â 0 3 lF):=by
 show cu T.tw.F PY rfl ∎ ?_
 intros
 show#[_,(aM (XE 3 ["_law_name","_law_many","_law_placing_here"] [Æ,Æ,À 1] (aV `cV aw) (lA (n:=2) rfl<|gg (cT 0)<|gg (cT 1) k9) (λ_ _ _ _ _=>(dS<|aj (qv 1)<|aj (aV (qv 2)<|qv 0) az)))
  (aM (u1 (qc T.m9 (rT T)<|aj (eD (qv 3)<|fB<|aj (dS<|aj (dS<|aj (hV aw)<|aj aw az)<|aj (qv 2) az) az) az)<|iA (n:=2) rfl<|dR (c7 4)<|dR (c7 5) ir)
  (aY<|bJ<|u7 (fJ dN dO (qv 4) aw)<|u7 (kM (fJ dN dO (aV (qv 0) aw) fo)<|jI<|fJ ly k7 (qv 4) aw)<|jI<|kM (fJ dN dO (aV (qv 0) aw) fo)<|jI<|fJ nO nH (qv 4) aw))),?_]
 intro L J _ zy;let#[_,w,us,o,x,n,rfl,D,i,C,h,E,hn,hm,q]:=zy;have B:=h.p.l;rfl';rw[ù];show a7.map o.1 _ (λp=>(p.2,(bO `ay p.1).getD 0)) ⋯ (λp g R A=>?_) ?_
 .show l8 2 _ (Tr.aF [.str p.1,ae.t p.2]) _ _;let#[j,m]:=ć (h.p.p p g).1;have z:=qw i (x:=x) m;rw[z] at A;rfl';show dE _ _ (x j) z A
 .rw[fS];rfl'
  change (om `ay o.1 |>.map ae.t).length+1<=1000000/\jr [dn<|Pu.aC<|.af .o<|(om (us.zipIdx.map 1e3) o.1).map ae.t++[((-1:Rat),n)].map ae.t] _
  rw[<- ä,fS,jm];have v:(om `ay o.1).length=↑o.1:=Å _;show#[by rw[Å];omega,rfl,.f,_,inferInstance,rfl,λp g=>?_,?_,λt b s _=>#[rfl,?_]]
  .rcases Ê.mp g with g |g
   .obtain⟨p',mp',rfl⟩:=æ.mp g;let#[j,m]:=ć (h.p.p p' mp').1;dsimp only;rw[qw i m];show#[Ï (lj D (h.p.p p' mp').2) ∎,E j (Á.mp m).1]
   .rw[è.mp g];show#[Ï (show bs (-1)<=1 by walk_at "k") ∎,hn]
  .rw[Ù,v,ř];omega
  .have hv:fj (om `ay o.1++[((-1:Rat),n)])=dot `aC x - n:=by rw[uK,fj,fj,xq i x _ h.p.d λp g=>(h.p.p p g).1];unfold d7;grind
   rw[hv] at s;generalize dot `aC x - n=r at hm s;have sg:=s.num;have y:(0:Rat)<(b:Rat):=ß.mpr s.p;change (2:Nat)=2/\_;show#[rfl,?_];rfl';let#[G,H,I]:=(Am _ _).mp hm;by_cases u:t=0
   .rw[av4<|av6 u];show q _
   .rw[av3<|by simpa using u];rcases h.k with e |e |e
    .have tp:0<t:=by
      have:=ç (G e)<|ā y;rw[sg] at this;have:=þ.mp this;omega
     rw[av4<|av6 e,av4<|av6 tp];show q _
    .have tp:t<0:=by
      have:=ç (show 0<=-r by have:=H e;grind)<|ā y;rw[show -r*(b:Rat)=-(r*(b:Rat)) by grind,sg,<- ĉ] at this;have:=þ.mp this;omega
     rw[av3 (by rw[e];decide),av4<|av6 e,show decide (t<0)=Â from av6 tp];show q _
    .show av5 ?_ u;have:=sg;rw[I (by rw[e];decide) (by rw[e];decide),ar1] at this;show ĥ.mp this.symm
def oS{j:Type}(P:List j):(P.map λ_=>Â).all id=Â:=by rw[List.all_map];show ah0.mpr λ_ _=>rfl
inductive lP(xs:ag)(Q:Tr->aA):Prop
 |mk(_:↑xs=2)(g:Fl)(us:ah)(x:Nat->Rat)(_:Fp g)(_:xs=[bP .f (us.zipIdx.map 1e3),.af g ↥us])(_:↑us<=8)(_:∀k,k<↑us->0<=x k)(_:∀j,Q (.bl Â) j):lP xs Q
def OE:aK P w K mg base bM 3 T.vT.a T.vT.d ["_law_found","_law_some"] (bU K Â 0 2 lP):=by
 show cu T.vT.F OJ rfl ∎ ?_
 intros
 show#[_,(aM (cA (QW.t<|kr (iV<|gw<|oP K T.n9<|aj (qv 0)<|aj (oR T.v7) az)<|k8<|bY jj ja (mK (oD rfl) oy T.jB<|aj (qv 0) az)<|qv 1) (aY<|bJ iz) cz)
  (aY<|bJ<|dZ (qo rfl) qr T.pZ<|aj (IS ["_law_number_here"] [Æ] (qv 0) (cT 0) (λ_ _ _ _ _=>(kM (qc T.rA (zZ T)<|aj (qv 0) az)<|jI<|fJ uT uC (aV (qv 0) aw) aw))) az)),?_]
 intro n m _ zy;let#[_,g,us,x,_,rfl,i,f,q]:=zy;rfl';show#[Â,rfl,?_];rfl';have e:(((us.zipIdx.map 1e3).map 1e1).map λp=>kf p.1)=↥us:=by
  rw[ù,ù];change us.zipIdx.map (λp=>Tr.str p.1)=_;rw[<- YW]
 change mh Â (.af .o<|(((us.zipIdx.map 1e3).map 1e1).map λp=>kf p.1)) _ _;rw[e];show .inr #[Â,BP<|A1 us,by rw[dep,Ao];decide,by rw[dep];omega,?_];rfl';rw[ù,ù];show a7.map us.zipIdx _ (λ_=>Â) (by rw[Ĩ];omega) (λp j R h=>?_) ?_
 .have hp:=ğ.mp j;have b:=(Á.mp hp).1;have l:=Θ.mpr<|f p.2 b;change qU 0 (ae.t<|x p.2) _ _;rfl';show#[rfl,x p.2,rfl,λ_=>?_];rfl';rw[show decide (0<=(x p.2).num)=Â from av6 l];show h
 show#[us.zipIdx.map λ_=>Â,rfl,?_];rw[av4 rfl,oS];show#[rfl,q _]
inductive lG(xs:ag)(Q:Tr->aA):Prop
 |mk(_:↑xs=2)(f:Fl)(P:aL)(_:Fp f)(_:xs=[.af f ↥P,.int ↑P])(_:↑P<=1000)(_:∀j,Q (.bl Â) j):lG xs Q
def FH{z:Bool}:aK P w K mg base bM 3 T.tq.a T.tq.d ["_law_found","_law_many"] (bU K z 0 2 lG):=by
 show cu T.tq.F NS rfl ∎ ?_
 intros
 show#[_,(aY<|bJ<|kM (oP K T.n9<|aj (qv 0)<|aj (oR T.jB) az)<|kM (fJ dN dO (dZ gH gD T.gF<|aj (qv 0) az)<|qv 1)<|jI<|dZ (qo rfl) qr T.pZ<|aj (fT ["_law_one"] [Æ] (fL<|qv 0) (cT 0) (λ_ _ _ _ _=>(qc T.rA (zZ T)<|aj (qv 0) az))) az),?_];intro i e _ zy;let#[_,f,P,_,rfl,g,q]:=zy;rfl';show#[Â,rfl,?_];rfl';show a7.map P ae.t (λ_=>Â) ⋯ (λr h R b=>?_) #[P.map λ_=>Â,rfl,?_]
 .rfl';show#[rfl,r,rfl,λ_=>b]
 .rw[av4 rfl,oS];show#[rfl,q _]
abbrev uj(u:Str)(o:bR):Bool:=(bO o.1 u).isSome
def A5(f:bR->Rat)(c:bR->Bool):∀{rs:av}{P:aL},rs.length=↑P->(∀o∈rs,c o=Ç->f o=0)->fj (((rs.zip P).filter λp=>c p.1).map λp=>(p.2,f p.1))=cv rs λi o=>P.getD i 0*f o
 |[],[],_,_=>rfl
 |o::rs,x::P,hl,h=>by
  have a:=A5 f c (rs:=rs) (P:=P) (Ť hl) λo m=>h o<|.tail _ m
  change _=x*f o+cv rs λi o=>P.getD i 0*f o
  rw[<- a,ϻ,ah1];by_cases e:c o=Â
  .rw[av4 e];rfl
  .rw[av3 e,h o (.head _)<|by simpa using e]
   grind
def IG(f:bR->Rat){rs:av}{P:aL}(a:↑rs=↑P):fj ((rs.zip P).map λp=>(p.2,f p.1))=cv rs λi o=>P.getD i 0*f o:=by
 have:=A5 f (λ_=>Â) a λo _ z=>by cases z
 rw[ar9.mpr λ_ _=>rfl] at this;show this
def L4{u:Str}{o:bR}(h:uj u o=Ç):(bO o.1 u).getD 0=0:=by
 unfold uj at h;rw[Option.isSome_eq_false_iff,Option.isNone_iff_eq_none] at h;rw[h];rfl
inductive lH(xs:ag)(Q:Tr->aA):Prop
 |mk(_:↑xs=3)(f g:Fl)(w:Int)(us:ah)(rs:av)(P:aL)(u:Str)(_:Fp f)(_:Fp g)(_:xs=[.af f ↥rs,.af g ↥P,.str u])(_:Way w)(_:∀o∈rs,R8 w us o)(_:↑rs=↑P)(_:↑rs<=16)(_:∀y∈P,bs y<=9000)(_:∀t b:Int,Sum (cv rs λi o=>P.getD i 0*(bO o.1 u).getD 0) t b->∀j,Q (.aF [.int t,.int b]) j):lH xs Q
def L5{w:Int}{us:ah}{o:bR}(a:Way w)(h:R8 w us o)(u:Str):bs ((bO o.1 u).getD 0)<=9000:=by
 rcases eT (m:=o.1) (u:=u) with e |⟨p,b,e⟩
 .rw[e,kx];decide
 .rw[e];show Ï (lj a (h.p.p p b).2) ∎
def Gh{z:Bool}:aK P w K mg base bM 2 T.tE.a T.tE.d ["_law_rows_here","_law_prices","_law_name"] (bU K z 0 3 lH):=by
 show cu T.tE.F Pj rfl ∎ ?_
 intros
 show#[_,(aY<|bJ<|qc T.m9 (rT T)<|aj (fT ["_law_one","_law_price","_law_name"] [Æ,Æ,À 2] (lz T.kZ<|aj (qv 0)<|aj (qv 1) az) (lA (n:=2) rfl<|gg (cT 0)<|gg (cT 1) k9) (λ_ _ _ _ _=>(dS<|aj (qv 1)<|aj (aV (aV (qv 0) aw)<|qv 2) az)) (ht:=λ_ _ _ _ _=>(sd<|bY CM Bs (qv 2)<|aV (qv 0) aw))) az),?_];intro G E _ zy;let#[_,f,g,w,us,rs,P,u,_,_,rfl,y,r,v,m,s,q]:=zy;rfl';show a7.filter `eT _ (λp=>uj u p.1) (λp=>(p.2,(bO p.1.1 u).getD 0)) (by rw[ż];omega) (λp l A R h i=>?_) ?_
 .rfl';unfold uj at h i;cases e:bO p.1.1 u with
  |none=>rw[e] at i;show i rfl
  |some x=>rw[e] at h;show h rfl
 rw[fS];rfl';show#[rfl,.f,_,inferInstance,rfl,λx D=>?_,?_,λt b j _=>?_]
 .obtain⟨p,l,rfl⟩:=æ.mp D;let#[B,C]:=ĺ (Ĳ.mp l).1;show#[s _ C,L5 y (r _ B) u]
 .rw[Å];show Ï (Ł _ _) (by rw[ż];omega)
 .rw[A5 (λo=>(bO o.1 u).getD 0) (uj u) v λo _=>L4] at j;show#[rfl,q t b j _]
inductive lQ(xs:ag)(Q:Tr->aA):Prop
 |mk(_:↑xs=5)(f g:Fl)(w:Int)(us:ah)(rs:av)(ps:List (Str×Rat))(c0:Rat)(x:Nat->Rat)(P:aL)(_:Fp f)(_:Fp g)(_:xs=[.af f ↥rs,.af g ↥us,.aF [bP .f ps,ae.t c0],bP .f (us.zipIdx.map 1e3),ae.t P])(_:Way w)(_:us.Nodup)(_:↑us<=8)(_:∀o∈rs,R8 w us o)(_:↑rs<=16)(_:pO w us ps)(_:Nw w c0)(_:∀k,k<↑us->bs (x k)<=9000)(_:sS rs us ps x P)(_:∀j,Q (.bl Â) j):lQ xs Q
def Pc:aK P w K mg base bM 4 T.vU.a T.vU.d ["_law_rows_here","_law_some","_law_told","_law_placing_here","_law_prices"] (bU K Â 0 5 lQ):=by
 show cu T.vU.F O4 rfl ∎ λbS A outer s H E hr hu J=>?_
 show#[_,(aM (cA (iV<|gw<|qc T.tq (FH T)<|aj (qv 4)<|aj (dZ gH gD T.gF<|aj (qv 0) az) az) (aY<|bJ iz) cz)
  (aM (gI (lz T.kZ<|aj (qv 0)<|aj (qv 4) az) (iA (n:=2) rfl<|dR (c7 5)<|dR (c7 6) ir)<|aY<|cA (QW.t<|kr (iV<|gw<|qc T.tD (Ge T)<|aj (qv 5)<|aj (qv 6) az)<|k8<|QW.t<|rZ (bY ly k7 (aV (qv 5) aw) aw)<|r9<|bY jj ja (qv 6)<|dS<|aj aw<|aj aw az) (aY<|bJ iz) cz)
  (aM (gI (fL<|qv 1) (c7 7) (aM (u1 (qc T.tE (Gh T)<|aj (qv 0)<|aj (qv 4)<|aj (qv 7) az)<|iA (n:=2) rfl<|dR (c7 8)<|dR (c7 9) ir)
  (aM (bN 10<|Bv (aV (qv 2) aw) (qv 7)<|dS<|aj aw<|aj aw az)
  (aY<|cA (bY ly k7 (cP (qv 8)<|aV (qv 10) aw)<|cP (aV (qv 10) aw)<|qv 9) (aY<|bJ iz) cz))))
  (aM (bN 11<|qc T.m9 (rT T)<|aj (eD (fT ["_law_one","_law_price"] [Æ,Æ] (lz T.kZ<|aj (qv 0)<|aj (qv 4) az) (lA (n:=2) rfl<|gg (cT 0)<|gg (cT 1) k9) (λ_ _ _ _ _=>(dS<|aj (qv 1)<|aj (aV (qv 0) aw) az)))<|fB<|aj (dS<|aj (dS<|aj aw<|aj aw az)<|aj (aV (qv 2) aw) az) az) az)
  (aM (bN 12<|qc T.m9 (rT T)<|aj (eD (IT ["_law_name","_law_number_here","_law_placing_here"] [Æ,Æ,À 3] (aV (qv 2) aw) (lA (n:=2) rfl<|gg (cT 0)<|gg (cT 1) k9) (λ_ _ _ _ _=>(dS<|aj (qv 1)<|aj (aV (qv 2)<|qv 0) az)))<|fB<|aj (dS<|aj (dS<|aj aw<|aj aw az)<|aj (aV (qv 2) aw) az) az) az)
  (aY<|bJ<|fJ dN dO (cP (aV (qv 11) aw)<|aV (qv 12) aw)<|cP (aV (qv 12) aw)<|aV (qv 11) aw)))))),?_]
 intro xs Q' _ zy;let#[_,f,g,w,us,rs,I,D,x,P,_,_,rfl,Q,M,ε,h8,β,C,α,hx,U,q]:=zy;have L:=U.l;have Y:∀y∈P,bs y<=9000:=λy m=>Ï (U.b y m) ∎
 have δ:=C.l;show dD (λG=>G=[.af f ↥rs,.af g ↥us,.aF [bP .f I,ae.t D],bP .f<|us.zipIdx.map 1e3,.af .f ↥P,.ak,.ak,.ak,.ak,.ak,.ak,.ak,.ak]) (λN J=>?_) ?_
 .rfl';show#[rfl,.f,P,inferInstance,by rw[L];rfl,⋯,λ_=>J _ rfl]
 rintro _ rfl;show dD (λG=>∃a b:Tr,G=[.af f ↥rs,.af g ↥us,.aF [bP .f I,ae.t D],bP .f<|us.zipIdx.map 1e3,.af .f ↥P,a,b,.ak,.ak,.ak,.ak,.ak,.ak]) (λN J=>?_) ?_
 .rfl';show Loop.map `eT _ (λ_ G=>∃a b:Tr,G=[.af f ↥rs,.af g ↥us,.aF [bP .f I,ae.t D],bP .f<|us.zipIdx.map 1e3,.af .f ↥P,a,b,.ak,.ak,.ak,.ak,.ak,.ak]) #[_,_,rfl] ?_ λG h=>J G h
  rintro i ⟨o,y⟩ G hi ⟨a,b,rfl⟩;let#[e1,e2]:=Ŵ.mp hi;have ho:=h8 o<|Ð e1;have B:=U.s i o e1;rw[Ä,e2,af7] at B;dsimp only at B;rfl';show#[rfl,o,y,rfl,ho.k,B.1,B.2.1,λ_=>?_];rfl';split
  .next e=>
   rw[B.2.2 (by have:=av8 e;omega)];show uL ?_;rw[av4 rfl,av6 rfl];rfl';show#[_,_,rfl]
  .show#[_,_,rfl]
 rintro _ ⟨a1,a2,rfl⟩;show dD (λG=>∃a b c d e h:Tr,G=[.af f ↥rs,.af g ↥us,.aF [bP .f I,ae.t D],bP .f<|us.zipIdx.map 1e3,.af .f ↥P,a,b,c,d,e,h,.ak,.ak]) (λN J=>?_) ?_
 .rfl';show Loop.map us _ (λ_ G=>∃a b c d e h:Tr,G=[.af f ↥rs,.af g ↥us,.aF [bP .f I,ae.t D],bP .f<|us.zipIdx.map 1e3,.af .f ↥P,a,b,c,d,e,h,.ak,.ak]) #[_,_,_,_,_,_,rfl] ?_ λG h=>J G h
  intro i u G hi zy;let#[a,b,c,d,e,h,rfl]:=zy;have hc:=U.c u<|Ð hi;walk_at "q";show#[rfl,f,.f,w,us,rs,P,u,‹_›,inferInstance,rfl,Q,h8,L.symm,β,Y,λt O B _=>#[rfl,?_]];walk_at "q";have γ:bs ((bO I u).getD 0)<=40:=by
   rcases eT (m:=I) (u:=u) with e |⟨p,z,e⟩
   .rw[e,kx];decide
   .rw[e];show lj Q (C.p p z).2
  generalize (bO I u).getD 0=r at hc γ ⊢;have n1:=iB r;have n2:=gf r;have le:=(B.le #[ľ.mpr r.den_pos,Η r,⋯,⋯]).mp hc;rfl';show#[d9 B.s.1 n2 ⋯,d9 n1 B.s.2 ⋯,?_];rw[av3<|by simpa using le];show#[_,_,_,_,_,_,rfl]
 intro _ zy;let#[a1,a2,a3,a4,a5,a6,rfl]:=zy;show dD (λG=>∃(a b c d e h:Tr)(t O:Int),G=[.af f ↥rs,.af g ↥us,.aF [bP .f I,ae.t D],bP .f<|us.zipIdx.map 1e3,.af .f ↥P,a,b,c,d,e,h,.aF [.int t,.int O],.ak]/\Sum ((cv rs λi o=>P.getD i 0*o.2.2.1)+D) t O) (λN J=>?_) ?_
 .rfl';show a7.map `eT _ (λp=>(p.2,p.1.2.2.1)) (by rw[ż];omega) (λp z R hR=>?_) ?_
  .rfl';show hR
  rw[show [Tr.aF [ae.t (1:Rat),ae.t D]]=[((1:Rat),D)].map ae.t from rfl,AY,<- ä,fS,jm];show#[by rw[Å,Å,ż];change _+1<=_;omega,rfl,.f,_,inferInstance,rfl,λp z=>?_,?_,λt b B _=>#[rfl,J _ #[_,_,_,_,_,_,t,b,rfl,?_]]]
  .rcases Ê.mp z with z |z
   .obtain⟨p',mp',rfl⟩:=æ.mp z;let#[m1,m2]:=ĺ mp';show#[Y _ m2,Ï (lj Q (h8 _ m1).n) ∎]
   .rw[è.mp z];show#[Ï (show bs 1<=1 by walk_at "k") ∎,Ï (lj Q α) ∎]
  .rw[Ù,Å,ż,ř];omega
  .rw[uK,IG (λo=>o.2.2.1) L.symm,fj,fj] at B;rw[show ∀a b:Rat,a+(1*b+0)=a+b by intros;grind] at B;show B
 intro _ zy;let#[a1,a2,a3,a4,a5,a6,t1,b1,rfl,s1]:=zy;show dD (λG=>∃(a b c d e h:Tr)(t O:Int),G=[.af f ↥rs,.af g ↥us,.aF [bP .f I,ae.t D],bP .f<|us.zipIdx.map 1e3,.af .f ↥P,a,b,c,d,e,h,.aF [.int t1,.int b1],.aF [.int t,.int O]]/\Sum (dot (nJ us I) x+D) t O) (λN J=>?_) ?_
 .rfl';rw[ù];show a7.map I _ (λp=>(p.2,(bO `ay p.1).getD 0)) ⋯ (λp z R hR=>?_) ?_
  .show l8 2 _ (Tr.aF [.str p.1,ae.t p.2]) _ _;let#[j,ej]:=ć (C.p p z).1;have ec:=qw M (x:=x) ej;rw[ec] at hR;rfl';show dE _ _ (x j) ec hR
  rw[show [Tr.aF [ae.t (1:Rat),ae.t D]]=[((1:Rat),D)].map ae.t from rfl,AY,<- ä,fS,jm];show#[by rw[Å,Å];change _+1<=_;omega,rfl,.f,_,inferInstance,rfl,λp z=>?_,?_,λt b B _=>#[rfl,J _ #[_,_,_,_,_,_,t,b,rfl,?_]]]
  .rcases Ê.mp z with z |z
   .obtain⟨p',mp',rfl⟩:=æ.mp z;let#[j,ej]:=ć (C.p p' mp').1;dsimp only;rw[qw M ej];show#[Ï (lj Q (C.p p' mp').2) ∎,hx j (Á.mp ej).1]
   .rw[è.mp z];show#[Ï (show bs 1<=1 by walk_at "k") ∎,Ï (lj Q α) ∎]
  .rw[Ù,Å,ř];omega
  .have e:=xq M x I C.d λp z=>(C.p p z).1
   unfold om at e;rw[uK,e,fj,fj] at B;rw[show ∀a b:Rat,a+(1*b+0)=a+b by intros;grind] at B;show B
 intro _ zy;let#[a1,a2,a3,a4,a5,a6,t2,b2,rfl,s2]:=zy;rw[U.v] at s1;have e1:=(s1.le s2).mp ŋ;have e2:=(s2.le s1).mp ŋ;rfl';show#[d9 s1.s.1 s2.s.2 ⋯,d9 s2.s.1 s1.s.2 ⋯,?_];rw[show decide (t1*b2=t2*b1)=Â from av6 ⋯];show q _
def Ap{rs:av}{Q:bR->Prop}(h:∀k∈aX rs,Q<|cj rs k):∀o∈rs,o.2.2.2.1=0->Q o:=λo mo b=>by
 let#[i,e]:=ć mo;have a:cj rs (i:Int)=o:=by
  unfold cj;rw[Ď,Ä,e];rfl
 rw[<- a];show h _<|IE e b
inductive lK(xs:ag)(Q:Tr->aA):Prop
 |mk(_:↑xs=4)(f g:Fl)(w:Int)(us:ah)(rs:av)(ps:List (Str×Rat))(c0:Rat)(W:List (Str×Rat))(_:Fp f)(_:Fp g)(_:xs=[.af f ↥rs,.af g ↥us,.aF [bP .f ps,ae.t c0],bP .f W])(_:Way w)(_:us.Nodup)(_:↑us<=8)(_:∀o∈rs,R8 w us o)(_:↑rs<=16)(_:pO w us ps)(_:vE rs us ps W)(_:∀j,Q (.bl Â) j):lK xs Q
def PH:aK P w K mg base bM 3 T.vV.a T.vV.d ["_law_rows_here","_law_some","_law_told","_law_way"] (bU K Â 0 4 lK):=by
 show cu T.vV.F Pk rfl ∎ λbS A outer s H E hr hu v=>?_
 show#[_,(aM (cA (QW.t<|kr (iV<|gw<|oP K T.n9<|aj (qv 3)<|aj (oR T.v7) az)<|k8<|bY jj ja (MN rfl rfl T.Dl<|qv 3)<|dZ (Um rfl) Uo T.Dl<|aj (qv 1) az) (aY<|bJ iz) cz)
  (aM (cA (iV<|gw<|dZ (qo rfl) qr T.pZ<|aj (IS ["_law_number_here"] [Æ] (qv 3) (cT 0) (λ_ _ _ _ _=>(kM (qc T.rA (zZ T)<|aj (qv 0) az)<|jI<|fJ uT uC (aV (qv 0) aw) aw))) az) (aY<|bJ iz) cz)
  (aM (cA (iV<|gw<|dZ (qo rfl) qr T.pZ<|aj (fT ["_law_one","_law_way"] [Æ,À 3] (fL<|qv 0) (cT 0) (λ_ _ _ _ _=>(qc T.tw (Gf T)<|aj (qv 0)<|aj (qv 1)<|aj (dS<|aj aw<|aj aw az) az)) (ht:=λ_ _ _ _ _=>(sd<|bY dN dO (aV (qv 0) aw) aw))) az) (aY<|bJ iz) cz)
  (aM (u1 (qc T.m9 (rT T)<|aj (IT ["_law_name","_law_number_here","_law_way"] [Æ,Æ,À 3] (aV (qv 2) aw) (lA (n:=2) rfl<|gg (cT 0)<|gg (cT 1) k9) (λ_ _ _ _ _=>(dS<|aj (qv 1)<|aj (aV (qv 2)<|qv 0) az))) az)<|iA (n:=2) rfl<|dR (c7 4)<|dR (c7 5) ir)
  (aY<|bJ<|fJ dN dO (qv 4)<|mJ aw<|qv 5))))),?_]
 intro xs Q' _ zy;let#[_,f,g,w,us,rs,y,C,W,_,_,rfl,O,m,I,h8,α,h,#[x,rfl,J,D,hd],q]:=zy;have β:=h.l;have U:((us.zipIdx.map 1e3).map 1e1).map (·.1)=us.map (Sum.inr:Str->aI):=by
  rw[ù,ù];have:us.zipIdx.map (λp=>(Sum.inr p.1:aI))=(us.zipIdx.map (·.1)).map Sum.inr:=by rw[ù];rfl
  change us.zipIdx.map (λp=>(Sum.inr p.1:aI))=_;rw[this,as2]
 show dD (λi=>i=[.af f ↥rs,.af g ↥us,.aF [bP .f y,ae.t C],bP .f<|us.zipIdx.map 1e3,.ak,.ak]) (λN v=>?_) ?_
 .rfl';show#[Â,rfl,?_];rfl';show#[us,⋯,U,us,⋯,.inl #[g,rfl],?_];show .inr #[Â,BP<|A1 _,by rw[dep,Ao];decide,by rw[dep];omega,v _ rfl]
 rintro _ rfl;show dD (λi=>i=[.af f ↥rs,.af g ↥us,.aF [bP .f y,ae.t C],bP .f<|us.zipIdx.map 1e3,.ak,.ak]) (λN v=>?_) ?_
 .rfl';rw[ù,ù];show a7.map us.zipIdx _ (λ_=>Â) (by rw[Ĩ];omega) (λp r R B=>?_) ?_
  .have hp:=ğ.mp r;have G:=(Á.mp hp).1;have n0:=Θ.mpr (J p.2 G).1;change qU 0 (ae.t<|x p.2) _ _;rfl';show#[rfl,x p.2,rfl,λ_=>?_];rfl';rw[show decide (0<=(x p.2).num)=Â from av6 n0];show B
  show#[us.zipIdx.map λ_=>Â,rfl,?_];rw[av4 rfl,oS];show v _ rfl
 rintro _ rfl;show dD (λi=>i=[.af f ↥rs,.af g ↥us,.aF [bP .f y,ae.t C],bP .f<|us.zipIdx.map 1e3,.ak,.ak]) (λN v=>?_) ?_
 .rfl';show a7.filter rs ae.t (λo=>decide<|o.2.2.2.1=0) (λ_=>Â) ⋯ (λo mo A R Y h2=>?_) ?_
  .rfl';split
   .next e=>
    show#[rfl,w,us,o,x,0,rfl,O,m,I,h8 o mo,λk D=>Ï (J k D).2 ∎,by rw[kx];decide,?_,λ_=>Y e];have:=Ap (Q:=λo=>gZ o.2.1 (dot `aC x)=0) D o mo<|av8 e;rw[show ∀a:Rat,a - 0=a by intros;grind];show this
   .next e=>show h2 (by simpa using e)
  show#[_,rfl,?_];rw[av4 rfl,oS];show v _ rfl
 rintro _ rfl;rfl';rw[ù];show a7.map y _ (λp=>(p.2,(bO `ay p.1).getD 0)) ⋯ (λp r R B=>?_) ?_
 .show l8 2 _ (Tr.aF [.str p.1,ae.t p.2]) _ _;let#[j,z]:=ć (h.p p r).1;have L:=qw m (x:=x) z;rw[L] at B;rfl';show dE _ _ (x j) L B
 rw[fS];rfl';show#[rfl,.f,_,inferInstance,rfl,λp r=>?_,by rw[Å];omega,λt b M _=>#[rfl,?_]]
 .obtain⟨p',mp',rfl⟩:=æ.mp r;let#[j,z]:=ć (h.p p' mp').1;dsimp only;rw[qw m z];show#[Ï (lj O (h.p p' mp').2) ∎,Ï (J j (Á.mp z).1).2 ∎]
 .have e:=xq m x y h.d λp r=>(h.p p r).1
  unfold om at e;rw[e,show dot (us.map λu=>(bO y u).getD 0) x=-1 from hd] at M;have n:=M.num;have tb:t=0 - b:=by
   have:(t:Rat)=((0 - b:Int):Rat):=by rw[<- n,ņ];have z0:((0:Int):Rat)=0:=rfl;rw[z0];grind
   show Rat.intCast_inj.mp this
  change (2:Nat)=2/\_;show#[rfl,?_];rfl';rw[show decide (t=0 - b)=Â from av6 tb];show q _
def Rj{l ks:aG}(h:l.Sublist ks):ks.Nodup->(ks.filter λk=>decide<|k∈l)=l:=by
 induction h with
 |slnil=>intro _;rfl
 |@cons l ks a h b=>
  intro nd;rw[č] at nd;rw[ah1,av3 (by simpa using λm=>nd.1<|h.subset m),b nd.2]
 |@cons_cons l ks a h b=>
  intro nd;rw[č] at nd;rw[ah1,av4<|by simp];congr 1;rw[<- b nd.2];show au3 λx d=>decide_eq_decide.mpr ?_
  rw[b nd.2,ã];show#[λz=>z.resolve_left λe=>nd.1<|e ▸ d,.inr]
def IH:∀ns:aG,cB ↥ns ↥ns=À Â
 |[]=>rfl
 |n::ns=>by
  rw[ñ];show IF (by change À (decide<|n=n)=À Â;rw[av6 rfl])<|IH ns
def Aq:∀ns:aG,ft ↥ns=0
 |[]=>rfl
 |n::ns=>by change max 0 (ft ↥ns)=0;rw[Aq ns];rfl
def A6(rs:av)(f:bR->Rat):∀d:List (Int×Rat),cv (d.map λp=>cj rs p.1) (λi o=>(d.map (·.2)).getD i 0*f o)=fD rs f d
 |[]=>rfl
 |p::d=>by
  rw[fD,<- A6 rs f d];rfl
def U3(rs:av):(aX rs).Sublist ((É ↑rs).map λn:Nat=>(n:Int)):=by
 have s:((rs.zipIdx.filter λp=>decide<|p.1.2.2.2.1=0).map (·.2)).Sublist (rs.zipIdx.map (·.2)):=Ϭ.map _;rw[as3,<- List.range_eq_range'] at s;have:=s.map λn:Nat=>(n:Int)
 rw[ù] at this;show this
def Rl{rs:av}{l:aG}(h:l.Sublist `dr):((É ↑rs).filter λk:Nat=>decide ((k:Int)∈l)&&decide ((cj rs (k:Int)).2.2.2.1=0)).map (λn:Nat=>(n:Int))=l:=by
 have nd:((É ↑rs).map λn:Nat=>(n:Int)).Nodup:=aj8 _ (λa b h e=>h<|ϒ e) List.nodup_range;have a:=Rj (h.trans<|U3 rs) nd;rw[List.filter_map] at a;show Eq.trans (av9 _<|au3 λk _=>?_) a;change (decide ((k:Int)∈l)&&decide ((cj rs (k:Int)).2.2.2.1=0))=decide ((k:Int)∈l);by_cases m:(k:Int)∈l
 .rw[av6 m,av6 (mH<|h.subset m).2.2.2];rfl
 .rw[av7 m];rfl
inductive oY(xs:ag)(Q:Tr->aA):Prop
 |mk(_:↑xs=4)(f g:Fl)(w:Int)(us:ah)(rs:av)(d:List (Int×Rat))(z:Nat)(_:Fp f)(_:Fp g)(_:xs=[.af f ↥rs,.af g ↥us,.af .f ((d.map (·.1)).map ae.t),.af .f ((d.map (·.2)).map ae.t)])(_:Way w)(_:↑us<=8)(_:∀o∈rs,R8 w us o)(_:↑rs<=16)(_:z<=960)(_:m8 z rs us (aX rs) d)(_:∀j,Q (.bl Â) j):oY xs Q
def PJ:aK P w K mg base bM 4 T.vW.a T.vW.d ["_law_rows_here","_law_some","_law_numbers","_law_weights"] (bU K Â 0 4 oY):=by
 show cu T.vW.F Pl rfl ∎ λbS A outer s H E hr hu h=>?_
 show#[_,(aM (cA (QW.t<|kr (iV<|gw<|oP K T.n9<|aj (qv 2)<|aj (oR T.jB) az)<|kr (bY dN dO (qv 2)<|fB az)<|k8<|iV<|gw<|dZ (qo rfl) qr T.pZ<|aj (fT ["_law_k"] [Æ] (fL<|qv 2) (cT 0) (λ_ _ _ _ _=>(qc T.rq (z5 T)<|aj (qv 0) az))) az) (aY<|bJ iz) cz)
  (aM (cA (bY jj ja (qv 2)<|fT ["_law_k","_law_numbers","_law_rows_here"] [Æ,À 2,À 0] (sv T.pY<|aj (dZ gH gD T.gF<|aj (qv 0) az) az) (cT 0) (λ_ _ _ _ _=>(qv 0)) (ht:=λ_ _ _ _ _=>(sd<|QW.t<|rZ (bY CM Bs (qv 0)<|qv 1)<|r9<|bY dN dO (aV (aV (qv 2)<|qv 0) aw) aw))) (aY<|bJ iz) cz)
  (aM (cA (iV<|gw<|qc T.tq (FH T)<|aj (qv 3)<|aj (dZ gH gD T.gF<|aj (qv 2) az) az) (aY<|bJ iz) cz)
  (aM (bN 4<|fT ["_law_k","_law_rows_here"] [Æ,À 0] (fL<|qv 2) (cT 0) (λ_ _ _ _ _=>(aV (qv 1)<|qv 0)))
  (aM (cA (iV<|gw<|dZ (qo rfl) qr T.pZ<|aj (fT ["_law_one","_law_weight"] [Æ,Æ] (lz T.kZ<|aj (qv 4)<|aj (qv 3) az) (lA (n:=2) rfl<|gg (cT 0)<|gg (cT 1) k9) (λ_ _ _ _ _=>(qc T.tD (Ge T)<|aj (qv 0)<|aj (qv 1) az))) az) (aY<|bJ iz) cz)
  (aM (cA (gw<|dZ (Sg rfl) Xk T.MZ<|aj (fT ["_law_name","_law_chosen","_law_weights"] [Æ,À 4,À 3] (fL<|qv 1) (cT 0) (λ_ _ _ _ _=>(fJ ly k7 (aV (qc T.tE (Gh T)<|aj (qv 1)<|aj (qv 2)<|aj (qv 0) az) aw) aw))) az) (aY<|bJ iz) cz)
  (aM (u1 (qc T.m9 (rT T)<|aj (fT ["_law_one","_law_weight"] [Æ,Æ] (lz T.kZ<|aj (qv 4)<|aj (qv 3) az) (lA (n:=2) rfl<|gg (cT 0)<|gg (cT 1) k9) (λ_ _ _ _ _=>(dS<|aj (qv 1)<|aj (aV (qv 0) aw) az))) az)<|iA (n:=2) rfl<|dR (c7 5)<|dR (c7 6) ir)
  (aY<|bJ<|fJ dN dO (qv 5)<|qv 6)))))))),?_]
 intro xs Q' _ zy;let#[_,f,g,w,us,rs,d,z,_,_,rfl,U,β,h8,α,hz,i,q]:=zy;have O:Val rs (d.map (·.1)):=λk m=>#[(mH<|i.l.subset m).1,(mH<|i.l.subset m).2.1]
 have M:↑d<=16:=by have:=i.l.length_le;have:=An rs;rw[Å] at *;omega
 have C:∀o∈d.map (λp=>cj rs p.1),R8 w us o:=λo m=>by
  let#[p,v,rfl]:=æ.mp m;show h8 _ (mH<|i.k p v).2.2.1
 have I:∀y∈d.map (·.2),bs y<=9000:=λy m=>by
  let#[p,v,rfl]:=æ.mp m;have:=i.b p v;omega
 have G:(d.map λp=>cj rs p.1).length=(d.map (·.2)).length:=by rw[Å,Å]
 have J:(((d.map λp=>cj rs p.1).zip (d.map (·.2))).map λp=>Tr.aF [ae.t p.1,ae.t p.2])=d.map λp=>Tr.aF [ae.t<|cj rs p.1,ae.t p.2]:=by rw[al9,ù];rfl
 show dD (λj=>j=[.af f ↥rs,.af g ↥us,.af .f ((d.map (·.1)).map ae.t),.af .f ((d.map (·.2)).map ae.t),.ak,.ak,.ak]) (λN h=>?_) ?_
 .rfl';show#[Â,rfl,?_];rfl';show .inr #[Ç,?_,by rw[dep,Aq];decide,by rw[dep];omega,?_]
  .show av3 (t:=cB _ _) (e:=À Ç) ?_;rw[Å,Å];show λe=>i.ne<|List.length_eq_zero_iff.mp e
  rfl';show a7.map (d.map (·.1)) ae.t (λ_=>Â) (by rw[Å];omega) (λk mk R B=>?_) ?_
  .rfl';show#[rfl,k,rfl,λ_=>B]
  show#[_,rfl,?_];rw[av4 rfl,oS];show h _ rfl
 rintro _ rfl;show dD (λj=>j=[.af f ↥rs,.af g ↥us,.af .f ((d.map (·.1)).map ae.t),.af .f ((d.map (·.2)).map ae.t),.ak,.ak,.ak]) (λN h=>?_) ?_
 .rfl';show#[⋯,⋯,?_];rw[Ď];show a7.filter (É ↑rs) _ (λk:Nat=>decide ((k:Int)∈d.map (·.1))&&decide ((cj rs (k:Int)).2.2.2.1=0)) (λn:Nat=>(n:Int)) (by rw[Û];omega) (λk mk A R Q L=>?_) ?_
  .have kl:=ħ.mp mk;have ek:rs[k]?=À (cj rs (k:Int)):=by unfold cj;rw[Ď,Ä,Ñ kl];rfl
   rfl';show Ba ?_
   change j5 (Tr.bl (decide ((k:Int)∈d.map (·.1)))) _
   by_cases m:(k:Int)∈d.map (·.1)
   .rw[av6 m] at Q L ⊢;rfl';show dE _ _ _ (eN ek) ?_;rfl';split
    .next e=>show Q e
    .next e=>show L (by simpa using e)
   .rw[av7 m] at L ⊢;rfl';show L rfl
  rw[Rl i.l];show .inr #[Â,BP<|IH _,by rw[dep,Aq];decide,by rw[dep];omega,h _ rfl]
 rintro _ rfl;show dD (λj=>j=[.af f ↥rs,.af g ↥us,.af .f ((d.map (·.1)).map ae.t),.af .f ((d.map (·.2)).map ae.t),.ak,.ak,.ak]) (λN h=>?_) ?_
 .rfl';show#[rfl,.f,d.map (·.2),inferInstance,by rw[Å],by rw[Å];omega,λ_=>h _ rfl]
 rintro _ rfl;show dD (λj=>j=[.af f ↥rs,.af g ↥us,.af .f ((d.map (·.1)).map ae.t),.af .f ((d.map (·.2)).map ae.t),.af .f<|(d.map λp=>cj rs p.1).map ae.t,.ak,.ak]) (λN h=>?_) ?_
 .rfl';show a7.map (d.map (·.1)) ae.t (λk=>cj rs k) (by rw[Å];omega) (λk mk R B=>?_) ?_
  .rfl';show dE _ _ _ (xV O mk) B
  rw[fS];show#[kz _,h _ ?_];rw[show (d.map λp=>cj rs p.1)=(d.map (·.1)).map λk=>cj rs k by rw[ù];rfl];rfl
 rintro _ rfl;show dD (λj=>j=[.af f ↥rs,.af g ↥us,.af .f ((d.map (·.1)).map ae.t),.af .f ((d.map (·.2)).map ae.t),.af .f<|(d.map λp=>cj rs p.1).map ae.t,.ak,.ak]) (λN h=>?_) ?_
 .rfl';rw[J];show a7.map d _ (λ_=>Â) ⋯ (λp v R B=>?_) ?_
  .rfl';show#[rfl,cj rs p.1,p.2,rfl,(C _<|Ę v).k,(i.c.s p v).1,(i.c.s p v).2,λ_=>B]
  show#[_,rfl,?_];rw[av4 rfl,oS];show h _ rfl
 rintro _ rfl;show dD (λj=>j=[.af f ↥rs,.af g ↥us,.af .f ((d.map (·.1)).map ae.t),.af .f ((d.map (·.2)).map ae.t),.af .f<|(d.map λp=>cj rs p.1).map ae.t,.ak,.ak]) (λN h=>?_) ?_
 .rfl';show a7.map us ae.t (λ_=>Ç) ⋯ (λu mu R B=>?_) ?_
  .rfl';show#[rfl,.f,.f,w,us,d.map<|λp=>cj rs p.1,d.map (·.2),u,inferInstance,inferInstance,rfl,U,C,G,by rw[Å];show M,I,λt b D _=>?_];rw[A6] at D;have le:=i.c.c u mu;have tn:¬ 0<t:=λtp=>by
    have:=D.num;have Y:(0:Rat)<(b:Rat):=ß.mpr D.p;have t0:(0:Rat)<(t:Rat):=ß.mpr tp;have:=ç (show 0<=- fD rs (λo=>(bO o.1 u).getD 0) d by grind)<|ā Y
    grind
   rfl';rw[show decide (0<t)=Ç from av7 tn];show B
  show#[_,rfl,?_];rw[av3 ∎,show (us.map λ_=>Ç).any id=Ç by rw[an9];show au2.mpr λ_ _=>by simp];show h _ rfl
 rintro _ rfl;rfl';rw[J];show a7.map d _ (λp=>(p.2,(cj rs p.1).2.2.1)) ⋯ (λp v R B=>?_) ?_
 .rfl';show B
 rw[fS];rfl';show#[rfl,.f,_,inferInstance,rfl,λx mx=>?_,by rw[Å];omega,λt b D _=>#[rfl,?_]]
 .obtain⟨p,v,rfl⟩:=æ.mp mx;show#[I _<|Ę v,Ï (lj U (C _<|Ę v).n) ∎]
 .have e:fj (d.map λp=>(p.2,(cj rs p.1).2.2.1))=1:=by
   rw[<- i.c.r,<- A6,<- IG (λo=>o.2.2.1) G,al9,ù];rfl
  rw[e] at D;have tb:t=b:=by
   have n:=D.num;rw[Rat.one_mul] at n;show (Rat.intCast_inj.mp n).symm
  change (2:Nat)=2/\_;show#[rfl,?_];rfl';rw[show decide (t=b)=Â from av6 tb];show q _
def BQ{us:ah}{o:bR}{a s v X:Nat}(h:∀c∈cO us o,bi c.num<=a/\(c.den:Int) ∣ (X:Int))(d:0<X)(hs:bi (X:Int)<=s)(y:a+s<=3000)(r:0<=o.2.2.2.2/\bi o.2.2.2.2<=v):jA (a+s) s v us o:=by
 let#[j,_,l,u]:=eE (cO us o) 1 ∎;have f:=u X (Λ _) λc m=>(h c m).2
 change 0<bA us o at j
 change ∀c∈cO us o,_ ∣ bA us o at l
 change bA us o ∣ _ at f
 have b:∀c∈cO us o,bi (dQ `au c)<=a+s:=λc m=>by
  unfold dQ;let#[z,i]:=l c m;have e:(0:Int)<(c.den:Int):=ľ.mpr c.den_pos;have q:(bA us o).fdiv (c.den:Int)=z:=by
   have:=ĝ (a:=(c.den:Int)) z<|ð e;rwa[<- i] at this
  rw[q];have n:z ∣ (X:Int):=ũ (by rw[i];show Ϣ _ _) f;have:=ko n d;have:=iS c.num z;have:=(h c m).1;omega
 show#[#[#[X,d,λc m=>(h c m).2,⋯],λc m=>?_],j,Ï (ko f d) hs,λx m=>?_,b _<|Ê.mpr<|.inr<|.head _,r]
 .have b1:=(h c m).1;have g:=ko (h c m).2 d;unfold bs;unfold bi at b1 g;rw[ė] at g;have:bi (X:Int)=bl (X:Int).natAbs:=rfl;show Nat.max_le.mpr #[⋯,⋯]
 .obtain⟨c,mc,rfl⟩:=æ.mp m;show b c<|Ê.mpr<|.inl mc
abbrev pD:aL->Nat
 |[]=>1
 |c::cs=>c.den * pD cs
def BR:∀cs:aL,0<pD cs
 |[]=>Nat.one_pos
 |c::cs=>as5 c.den_pos<|BR cs
def BS:∀{cs:aL}{c:Rat},c∈cs->c.den ∣ pD cs
 |d::cs,c,m=>by
  rcases ã.mp m with rfl |m
  .show Nat.dvd_mul_right _ _
  .show Nat.dvd_trans (BS m) (Nat.dvd_mul_left _ _)
def K3:∀{cs:aL},(∀c∈cs,c.den<=10 ^ 5)->pD cs<=(10 ^ 5) ^ ↑cs
 |[],_=>Î _
 |c::cs,h=>by
  rw[pD,Ö,ag6,ag5];show Β (K3 λc m=>h c<|.tail _ m)<|h c<|.head _
def sr{w:Int}{us:ah}{ps:List (Str×Rat)}(h:pO w us ps)(u:Str):(bO ps u).getD 0=0\/Nw w ((bO ps u).getD 0):=by
 rcases eT (m:=ps) (u:=u) with e |⟨p,a,e⟩
 .show .inl e
 .rw[e];show .inr (h.p p a).2
def su{w:Int}{us:ah}{o:bR}(h:R8 w us o):∀c∈cO us o,c=0\/Nw w c:=λc m=>by
 rcases Ê.mp m with m |m
 .obtain⟨u,_,rfl⟩:=æ.mp m;show sr h.p u
 .rw[è.mp m];show .inr h.n
def l5{w:Int}{c:Rat}(h:c=0\/Nw w c):(w=0\/w=3->c.den=1/\bi c.num<=5)/\(w=1->c.den ∣ 6/\bi c.num<=5)/\(w=2->c.den<=10 ^ 5/\bi c.num<=38):=by
 rcases h with rfl |h
 .show⟨λ_=>⟨rfl,by walk_at "k"⟩,λ_=>⟨∎,by walk_at "k"⟩,λ_=>⟨∎,by walk_at "k"⟩⟩
 .show⟨λz=>⟨(h.1 z).1,jH (by have:=(h.1 z).2;omega)⟩,λz=>⟨?_,jH (by have:=(h.2.1 z).2;omega)⟩,λz=>⟨(h.2.2 z).1,jH (by have:=(h.2.2 z).2;omega)⟩⟩;have:=(h.2.1 z).1;have:=c.den_pos;rcases (by omega:c.den=1\/c.den=2\/c.den=3) with e |e |e<;>rw[e]<;>decide
def K4{cs:aL}{n k:Nat}(h:∀c∈cs,c.den<=10 ^ 5)(hn:↑cs<=n)(a:(10 ^ 5) ^ n<2 ^ k):bi (pD cs:Int)<=k:=jH (by
 rw[ė];show ġ (Ï (K3 h)<|Ů ∎ hn) a)
def L6{w:Int}{us:ah}{rs:av}{ps:List (Str×Rat)}(B:Way w)(A:yx w us)(d:∀o∈rs,R8 w us o)(g:↑rs<=pG w)(a:pO w us ps):∃N zz,Bz N zz rs us/\↑rs<=N/\yy zz (pick rs<|aX rs) us ps/\zz<=960:=by
 have s:∀o∈rs,0<=o.2.2.2.2/\bi o.2.2.2.2<=5:=λo m=>#[by have:=(d o m).v;omega,jH (by have:=(d o m).v;omega)]
 have pm:∀o∈pick rs (aX rs),o∈rs:=λo m=>by
  let#[k,mk,rfl]:=æ.mp m;show (mH mk).2.2.1
 have z:(pick rs<|aX rs).length<=↑rs:=by unfold pick;rw[Å];show An rs
 let#[nd,r]:=A;rcases (by rcases B with h |h |h |h<;>omega:(w=0\/w=3)\/w=1\/w=2) with h |h |h
 .have u8:↑us<=8:=Ï r (by unfold ql;split;decide;split<;>decide);have i:↑rs<=12:=Ï g (by unfold pG;split;decide;split<;>decide);have f:∀o∈rs,jA (5+1) 1 5 us o:=λo m=>BQ (X:=1) (λc b=>#[((l5<|su (d o m) c b).1 h).2,by rw[((l5<|su (d o m) c b).1 h).1];show ap0 _]) ∎ (by walk_at "k") ∎ (s o m)
  show#[12,160,Cj f ∎ u8 nd ∎ ∎ ∎,i,BG (N:=12) (X:=1) (x:=1) (y:=5) (λo m=>f o<|pm o m) ⋯ ∎ ∎ (λu=>by rw[((l5<|sr a u).1 h).1];show ap0 _) (by walk_at "k") (λu=>((l5<|sr a u).1 h).2) ∎ ∎,∎]
 .subst h;have f:∀o∈rs,jA (5+3) 3 5 us o:=λo m=>BQ (X:=6) (λc b=>#[((l5<|su (d o m) c b).2.1 rfl).2,Ĵ.mpr ((l5<|su (d o m) c b).2.1 rfl).1]) ∎ (by walk_at "k") ∎ (s o m)
  show#[7,120,Cj f ∎ (Ï r ∎) nd ∎ ∎ ∎,g,BG (N:=7) (X:=6) (x:=3) (y:=5) (λo m=>f o<|pm o m) (Ï z g) ∎ ∎ (λu=>Ĵ.mpr ((l5<|sr a u).2.1 rfl).1) (by walk_at "k") (λu=>((l5<|sr a u).2.1 rfl).2) ∎ ∎,∎]
 .subst h;have D:↑us<=3:=r;have f:∀o∈rs,jA (38+67) 67 5 us o:=λo m=>BQ (X:=pD<|cO us o) (λc b=>#[((l5<|su (d o m) c b).2.2 rfl).2,Ĵ.mpr<|BS b]) (BR _) (K4 (n:=4) (λc b=>((l5<|su (d o m) c b).2.2 rfl).1) (by unfold cO d7;rw[Ù,Å,ř];omega)<|by walk_at "k") ∎ (s o m)
  have q:∀u,(bO ps u).getD 0∈0::ps.map (·.2):=λu=>by
   rcases eT (m:=ps) (u:=u) with e |⟨p,j,e⟩
   .rw[e];show .head _
   .rw[e];show .tail _<|Ę j
  have C:bi (pD (0::ps.map (·.2)):Int)<=67:=K4 (n:=4) (λc b=>by
   rcases ã.mp b with rfl |b
   .decide
   .obtain⟨p,j,rfl⟩:=æ.mp b;show ((a.p p j).2.2.2 rfl).1) (by rw[Ö,Å];have:=a.l;omega) (by walk_at "k")
  show#[5,900,Cj f ∎ ⋯ nd ∎ ∎ ∎,g,BG (N:=5) (X:=pD (0::ps.map (·.2))) (x:=67) (y:=38) (λo m=>f o<|pm o m) (Ï z g) ∎ (BR _) (λu=>Ĵ.mpr<|BS<|q u) C (λu=>((l5<|sr a u).2.2 rfl).2) ∎ ∎,∎]
abbrev yX(K:aq):Sp:=λvs H Q _=>∃(a:ai)(ns:aG),vs=[.ref a]/\bw K H a `aL/\↑ns<=63/\∀b,Q `br b
inductive lI(xs:ag)(Q:Tr->aA):Prop
 |mk(_:↑xs=1)(ns:aG)(_:xs=[.af (.l Ç) ↥ns])(_:↑ns<=63)(_:∀j,Q (.bl Â) j):lI xs Q
def fP{K:aq}{F:Hp}{B:Bool->Hp}:∀ns:aG,Rs K F B ↥ns `aL []
 |[]=>#[rfl,rfl]
 |n::ns=>#[_,_,[],[],rfl,rfl,#[rfl,rfl],fP ns]
def L7{K:aq}(vs:ay)(H:Hp)(Q:VK)(E:XK)(h:yX K vs H Q E):bU K Â 0 1 lI vs H Q E:=by
 let#[a,ns,rfl,b,d,k]:=h;show#[rfl,λ_=>Æ,H,[.af `aI ↥ns],λ_=>[],λt _=>t=.bl Â,λ_=>False,#[?_,(λ_ _ _ _ z=>by cases z),rfl,?_,(λ_=>.nil),(λ_ _ m=>nomatch m),(λ_ _ _ _ m=>nomatch m),(λi h=>av5 h<|Nat.not_lt_zero i),λ_ _ _ _ z=>z.elim],#[rfl,ns,rfl,d,λ_=>rfl],?_]
 .show Gr.aR (λ_ _ z=>by cases z)
 .intro i t e;cases i with
  |zero=>cases e;show .inr #[.ref a,rfl,rfl,a,_,rfl,b,fP ns]
  |succ i=>cases e
 .intro F' H' j' g' cs' v t c _ r _ _ _ _ e;subst e;rw[r.1];show k _
abbrev qX(o:bR):Tr:=.aF [.aP .o<|o.1.map 1e1,.str o.2.1,ae.t o.2.2.1,.int o.2.2.2.1,.int o.2.2.2.2]
def II:∀rs:av,Pu.bz `cN=↥rs/\Pu.eB `cN=Â
 |[]=>#[rfl,rfl]
 |o::rs=>by
  have a:=b8 _<|ku o.1;have b:=II rs;constructor
  .show Tr.aF [.aP .f<|Pu.df<|o.1.map 1e1,_,Pu.aC<|ae.t o.2.2.1,_,_]::Pu.bz `cN=_;rw[a.f,iF,b.1];rfl
  .show ((Pu.eW (o.1.map 1e1)&&(Â&&(Pu.bZ (ae.t o.2.2.1)&&(Â&&(Â&&Â)))))&&Pu.eB `cN)=Â;rw[a.t,jM,b.2];rfl
def YX:aK P w K mg base bM 60 T.n8.a T.n8.d ["_law_script"] (bU K Â 0 1 lI):=by
 show cu T.n8.F yW rfl ∎ λbS A outer s H E hr hu r=>?_
 show#[_,(aM (bN 1<|qc T.sY (F0 T)<|aj (qv 0)<|aj aw az)
  (aM (bN 2<|aV (fB<|aj aw<|aj aw<|aj aw<|aj aw<|aj aw<|aj aw<|aj aw<|aj aw az)<|el (qc T.kY (oB T)<|aj (qv 1)<|aj aw az) aw)
  (aM (bN 3<|qc T.vS (PF T)<|aj (qv 1)<|aj (qv 2) az)
  (aM (bN 4<|qc T.vR (P4 T)<|aj (qv 0)<|aj (qv 3)<|aj (qv 2) az)
  (aM (bN 5<|qc T.sY (F0 T)<|aj (qv 0)<|aj aw az)
  (aM (bN 6<|dS<|aj (qc T.tm (Gg T)<|aj (qv 5)<|aj (qv 3)<|aj (qv 2) az)<|aj (qc T.rp (z4 T)<|aj (qc T.kY (oB T)<|aj (qv 5)<|aj aw az)<|aj (el (qv 2) aw) az) az)
  (aM (se 7 ["_law_one"] [Æ] (fL<|qv 4) (cT 0) (λ_ _ _ _ _=>(dS<|aj (mK Gk Hi T.v7<|aj (aV (qv 0) aw) az)<|aj (aV (qv 0) aw)<|aj (aV (qv 0) aw)<|aj (aV (qv 0) aw)<|aj (aV (qv 0) aw) az)))
  (aM (bN 8 kq)
  (aM (bN 9 kq)
  (aM (bN 10 kq)
  (aM (Xj (i:=11) (pe:=λq=>wh q _ _) rfl rfl rfl T.Dg yW.nd ∎ rfl rfl (Ug (i:=8) ∎) (λpn xe te h=>xF (i:=8) yW.nd rfl (ű rfl) h) (λpn xe R hx q=>(CJ T.vQ (U0 T)<|aj (qv 7)<|aj (mK (oD rfl) oy T.jB<|aj (qv 3) az)<|aj (dS<|aj (mK Gk Hi T.v7<|aj (aV (qv 6) aw) az)<|aj (aV (qv 6) aw) az) az)) (λv=>(aM (bN 9<|Lb K<|qv 11)
  (aY<|bN 10<|Lb K<|qv 11))))
  (aM (cA (bY (LH hr.units) Xs (qv 7)<|qv 4) (aY<|bJ iz) cz)
  (aM (cA (bY xi w4 (qv 9) kq) (aY<|bJ<|qc T.vW (PJ T)<|aj (qv 4)<|aj (qv 3)<|aj (qv 9)<|aj (qv 10) az) cz)
  (aM (cA (QW.t<|kr (iV<|gw<|oP K T.n9<|aj (qv 8)<|aj (oR T.Dk) az)<|kr (bY jj ja (dZ gH gD T.gF<|aj (qv 8) az) aw)<|k8<|iV<|gw<|qc T.vT (OE T)<|aj (aV (qv 8) aw)<|aj (qv 3) az) (aY<|bJ iz) cz)
  (aM (cA (iV<|gw<|dZ (qo rfl) qr T.pZ<|aj (fT ["_law_one","_law_found"] [Æ,À 8] (fL<|qv 4) (cT 0) (λ_ _ _ _ _=>(qc T.tw (Gf T)<|aj (qv 0)<|aj (aV (qv 1) aw)<|aj (aV (qv 0) aw) az)) (ht:=λ_ _ _ _ _=>(sd<|bY dN dO (aV (qv 0) aw) aw))) az) (aY<|bJ iz) cz)
  (aM (cA (bY dN dO (aV (qv 8) aw) fo) (aY<|bJ<|qc T.vU (Pc T)<|aj (qv 4)<|aj (qv 3)<|aj (qv 6)<|aj (aV (qv 8) aw)<|aj (aV (qv 8) aw) az) cz)
  (aY<|bJ<|kM (fJ dN dO (aV (qv 8) aw) fo)<|jI<|qc T.vV (PH T)<|aj (qv 4)<|aj (qv 3)<|aj (qv 6)<|aj (aV (qv 8) aw) az))))))))))))))))),?_]
 intro xs Q' _ zy;let#[_,b,rfl,β,q]:=zy;show dD (λj=>∃c:Int,j=[.af `aI ↥b,.int c,.ak,.ak,.ak,.ak,.ak,.ak,.ak,.ak,.ak,.ak]) (λN r=>?_) ?_
 .rfl';show#[rfl,_,b,0,inferInstance,rfl,∎,λc j=>#[rfl,r _ #[c,rfl]]]
 rintro _ ⟨c,rfl⟩;show dD (λj=>∃w:Int,j=[.af `aI ↥b,.int c,.int w,.ak,.ak,.ak,.ak,.ak,.ak,.ak,.ak,.ak]/\Way w) (λN r=>?_) ?_
 .rfl';show#[rfl,c,_,rfl,∎,∎,λr1 _=>?_];rfl';show#[∎,xa (ns:=[0,1,2,0,1,2,0,3]) (ø _ ∎) (ë _ ∎) λw B=>?_];have γ:Way w:=by
   have A:∀n:Int,n∈[(0:Int),1,2,0,1,2,0,3]->n=0\/n=1\/n=2\/n=3:=∎
   show A w B
  show#[rfl,r _ #[w,rfl,γ]]
 rintro _ ⟨w,rfl,B⟩;show dD (λj=>∃us:ah,j=[.af `aI ↥b,.int c,.int w,.af .f ↥us,.ak,.ak,.ak,.ak,.ak,.ak,.ak,.ak]/\yx w us) (λN r=>?_) ?_
 .rfl';show#[rfl,c,w,rfl,B,λus hu _=>#[kz _,by rw[fS];show r _ #[us,rfl,hu]]]
 rintro _ ⟨us,rfl,U⟩;have z:=U.1;have u:↑us<=8:=Ï U.2 (by unfold ql;split;decide;split<;>decide);show dD (λj=>∃rs:av,j=[.af `aI ↥b,.int c,.int w,.af .f ↥us,.af .f ↥rs,.ak,.ak,.ak,.ak,.ak,.ak,.ak]/\↑rs<=pG w/\∀o∈rs,R8 w us o) (λN r=>?_) ?_
 .rfl';show#[rfl,.l Ç,.f,b,us,w,inferInstance,inferInstance,rfl,z,u,B,β,λrs hl G _=>#[kz _,by rw[fS];show r _ #[rs,rfl,hl,G]]]
 intro _ zy;let#[rs,rfl,hl,G]:=zy;have δ:↑rs<=12:=Ï hl (by unfold pG;split;decide;split<;>decide);show dD (λj=>∃D:Int,j=[.af `aI ↥b,.int c,.int w,.af .f ↥us,.af .f ↥rs,.int D,.ak,.ak,.ak,.ak,.ak,.ak]) (λN r=>?_) ?_
 .rfl';show#[rfl,_,b,1,inferInstance,rfl,∎,λc j=>#[rfl,r _ #[c,rfl]]]
 rintro _ ⟨D,rfl⟩;show dD (λj=>∃(g:List (Str×Rat))(y:Rat),j=[.af `aI ↥b,.int c,.int w,.af .f ↥us,.af .f ↥rs,.int D,.aF [bP .f g,ae.t y],.ak,.ak,.ak,.ak,.ak]/\pO w us g/\Nw w y) (λN r=>?_) ?_
 .rfl';show#[rfl,.f,D,w,us,inferInstance,rfl,z,u,B,λg I _=>?_];rfl';show#[rfl,D,_,rfl,∎,∎,λr1 _=>?_];rfl';have w0:=ø w (show (3:Int)≠0 by decide);have w1:=ë w (show (0:Int)<3 by decide);have ck:=b8 _<|ku g;show#[∎,rfl,_,_,rfl,⋯,λy O _=>?_];rw[show df (g.map 1e1)=_ from ck.f,show eW (g.map 1e1)=Â from ck.t,iF,jM];show#[rfl,r _ #[g,y,rfl,I,Co B O]]
 intro _ zy;let#[g,y,rfl,I,O]:=zy;show dD (λj=>j=[.af `aI ↥b,.int c,.int w,.af .f ↥us,.af .f ↥rs,.int D,.aF [bP .f g,ae.t y],.af .f ↥rs,.ak,.ak,.ak,.ak]) (λN r=>?_) ?_
 .rfl';show a7.qR rs _ qX ⋯ (λo mo R hq=>?_) ?_
  .rfl';show hq
  have A:=II rs;show#[A.2,?_];rw[show Pu.aC (.af .o<|rs.map qX)=.af .f (Pu.bz<|rs.map qX) from rfl,A.1];show r _ rfl
 rintro _ rfl;show dD (λj=>j=[.af `aI ↥b,.int c,.int w,.af .f ↥us,.af .f ↥rs,.int D,.aF [bP .f g,ae.t y],.af .f ↥rs,.aN,.ak,.ak,.ak]) (λN r=>by rfl';show r _ rfl) ?_;rintro _ rfl;show dD (λj=>j=[.af `aI ↥b,.int c,.int w,.af .f ↥us,.af .f ↥rs,.int D,.aF [bP .f g,ae.t y],.af .f ↥rs,.aN,.aN,.ak,.ak]) (λN r=>by rfl';show r _ rfl) ?_;rintro _ rfl;show dD (λj=>j=[.af `aI ↥b,.int c,.int w,.af .f ↥us,.af .f ↥rs,.int D,.aF [bP .f g,ae.t y],.af .f ↥rs,.aN,.aN,.aN,.ak]) (λN r=>by rfl';show r _ rfl) ?_;rintro _ rfl;let#[N',zz,hB,α,hO,Y]:=L6 B U G hl I;have hM:ij rs `dr:=λk m=>#[(mH m).2.2.2,by have:=(G _ (mH m).2.2.1).v;omega]
 show dD (λj=>(∃(X W:List (Str×Rat))(x:Nat->Rat),j=[.af `aI ↥b,.int c,.int w,.af .f ↥us,.af .f ↥rs,.int D,.aF [bP .f g,ae.t y],.af .f ↥rs,.aF [.str "falls",bP .f X,bP .f W],.aN,.aN,.ak]/\rl zz rs us X x/\vE rs us g W)\/(∃(X:List (Str×Rat))(P:aL)(x:Nat->Rat),j=[.af `aI ↥b,.int c,.int w,.af .f ↥us,.af .f ↥rs,.int D,.aF [bP .f g,ae.t y],.af .f ↥rs,.aF [.str "least",bP .f X,ae.t P],.aN,.aN,.ak]/\rl zz rs us X x/\sS rs us g x P)\/∃d:List (Int×Rat),j=[.af `aI ↥b,.int c,.int w,.af .f ↥us,.af .f ↥rs,.int D,.aF [bP .f g,ae.t y],.af .f ↥rs,.aN,.af .f ((d.map (·.1)).map ae.t),.af .f ((d.map (·.2)).map ae.t),.ak]/\vz zz rs us `dr d) (λN r=>?_) ?_
 .rfl';have fd:∀m:List (Str×Rat),Pu.df `ar=`ar:=λm=>(b8 _<|ku m).f
  have nd:∀m:List (Str×Rat),Pu.eW `ar=Â:=λm=>(b8 _<|ku m).t
  have dd:∀m:List (Str×Rat),Pu.iE `ar=`ar:=λm=>(b8 _<|ku m).d
  have ed:Pu.dn (Pu.aC<|.aP .o<|g.map 1e1)=bP .f g:=by
   change Tr.aP .f (Pu.iE<|Pu.df<|g.map 1e1)=_;rw[fd,dd];rfl
  rw[show ∀Q,zg [bP .f g] Q=Q (.aP .o<|g.map 1e1) from λ_=>rfl,ed];show#[rfl,.f,.f,.f,rs,us,g,y,N',zz,inferInstance,inferInstance,inferInstance,rfl,hB,u,z,⋯,Ï (An rs) α,hM,hO,Y,λd hd=>?_,λX W x L hW j=>?_,λX x P L hP j=>?_]
  .show#[T.MY,T.abC,rfl,_,rfl,K8 T.Dj T.Dh T.mw.t,?_];show#[ll _,_,rfl,K8 T.Dj T.Di T.mw.t,#[ll _,?_]];show r _<|.inr<|.inr #[d,rfl,hd]
  .show#[?_,?_]
   .show (Â&&(Pu.eW (X.map 1e1)&&(Pu.eW (W.map 1e1)&&Â)))=Â;rw[nd,nd];rfl
   .show N [_,_,_,_,_,_,_,_,.aF [_,.aP .f<|Pu.df<|X.map 1e1,_],_,_,_];rw[fd];show r _<|.inl #[X,W,x,rfl,L,hW]
  .show#[?_,?_]
   .show (Â&&(Pu.eW (X.map 1e1)&&(Pu.bZ (ae.t P)&&Â)))=Â;rw[nd,jM];rfl
   .show N [_,_,_,_,_,_,_,_,.aF [_,.aP .f<|Pu.df<|X.map 1e1,Pu.aC<|ae.t P],_,_,_];rw[fd,iF];show r _<|.inr<|.inl #[X,P,x,rfl,L,hP]
 rintro _ (⟨X,W,x,rfl,L,hW⟩ |⟨X,P,x,rfl,L,hP⟩ |⟨d,rfl,hd⟩)
 all_goals
  rfl';show .inr #[Hz rs,Nat.succ_le_succ<|Ï (GW rs) ∎,.inr #[_,_,rfl],?_];rfl'
 .rw[uQ];rfl';show#[Â,rfl,?_];rfl';let#[rfl,C,M]:=L;show#[rfl,.f,us,x,inferInstance,rfl,u,λk J=>(C k J).1,λ_=>?_];rfl';show a7.filter rs ae.t (λo=>decide<|o.2.2.2.1=0) (λ_=>Â) ⋯ (λo mo A R h1 h2=>?_) ?_
  .rfl';split
   .next e=>
    have e0:o.2.2.2.1=0:=by simpa using e
    have rb:=Ï (lj B (G o mo).n) (show 40<=9000 by decide);show#[rfl,w,us,o,x,o.2.2.1,rfl,B,z,u,G o mo,λk J=>Ï (C k J).2 ⋯,rb,Ap (Q:=λo=>gZ o.2.1 `cg=0) M o mo e0,λ_=>h1 e]
   .next e=>show h2 (by simpa using e)
  show#[(rs.filter λo=>decide<|o.2.2.2.1=0).map λ_=>Â,rfl,?_];rw[av4 rfl,oS];rfl';show#[rfl,.f,.f,w,us,rs,g,y,W,inferInstance,inferInstance,rfl,B,z,u,G,⋯,I,hW,λ_=>#[rfl,q _]]
 .rw[uQ];rfl';show#[Â,rfl,?_];rfl';let#[rfl,C,M]:=L;show#[rfl,.f,us,x,inferInstance,rfl,u,λk J=>(C k J).1,λ_=>?_];rfl';show a7.filter rs ae.t (λo=>decide<|o.2.2.2.1=0) (λ_=>Â) ⋯ (λo mo A R h1 h2=>?_) ?_
  .rfl';split
   .next e=>
    have e0:o.2.2.2.1=0:=by simpa using e
    have rb:=Ï (lj B (G o mo).n) (show 40<=9000 by decide);show#[rfl,w,us,o,x,o.2.2.1,rfl,B,z,u,G o mo,λk J=>Ï (C k J).2 ⋯,rb,Ap (Q:=λo=>gZ o.2.1 `cg=0) M o mo e0,λ_=>h1 e]
   .next e=>show h2 (by simpa using e)
  show#[(rs.filter λo=>decide<|o.2.2.2.1=0).map λ_=>Â,rfl,?_];rw[av4 rfl,oS];rfl';show#[rfl,.f,.f,w,us,rs,g,y,x,P,inferInstance,inferInstance,rfl,B,z,u,G,⋯,I,O,λk J=>Ï (C k J).2 ⋯,hP,λ_=>#[rfl,q _]]
 .rw[show ∀xs Q,mD Â (Tr.af .f xs) Tr.aN Q=Q `br from λ_ _=>rfl];rfl';show#[rfl,.f,.f,w,us,rs,d,zz,inferInstance,inferInstance,rfl,B,u,G,⋯,Y,hd.s,λ_=>#[rfl,q _]]
def L8:aK P w K mg base bM 60 T.n8.a T.n8.d ["_law_script"] (yX K):=(YX T).imp L7
end
def walk{l:aq3}{q:ê}{b:ah}{y:(br)->aW->Prop}{r:Ă->aW->Prop}{d:DefRec}{K:Params->aq}(hn:l.most=À 63)(i:d.params.defaults=[])(o:d.name="law")(B:∀(w:Ă)(h:aW),r w h->(K w.params).In h)(F:∀(w:Ă)(mg:br)(h:aW),(K w.params).In h->h.Ns Š mg->Nonempty (Tx w `dw mg)):
  W.WalkO q b y r l.row.toRowW d [] (λf vs=>PySem.call f vs):=by
 show L2.nY (n:=63) (k:=60) (x:="_law_script") (CX:=λ_=>bM) (sp:=λw=>yX<|K w.params) hn ∎ i #[rfl,∎,∎] B ?_ (λ_ _ a ns D _ A=>#[a,ns,rfl,A,D,λ_=>rfl]) λ_ _ _ _ _ z=>z
 intro w mg E h u G g;let#[T]:=F w mg h u G;rw[o] at g;have e:=g.symm.trans T.n8.m;cases e;show#[T.n8.d,λs v=>?_,λbase _ _=>L8 T];let#[oc,od,kV,doc,pm,an,bS,ct,osl,j,H,C]:=T.n8.F.ex;rw[j];show .of_eq rfl
end Sf
local macro_rules|`(command|#where)=>return Lean.mkNullNode (←(("heap_610 heap_39 tree_609 view_39 tree_534 tree_375 tree_453 sts_535 tree_266 sts_267 sts_457 sts_187 tree_186 tree_144 sts_145 sts_94 tree_93 tree_78 tree_63 sts_49 sts_79 heap_46 sts_64 env_41 tree_47".splitOn " ")++("1213211121111111121111211111112111121111111211112112111111111112111112111112111112111112211111211111211111211111211111211121112112111211121111121111121111121111121112111112111112111111111111211121121112111112111112111112111211111211121112111112111112111112111211111211121111111111121112112111211111211111211111211121111121112111211111211111211111422111112111211121112111211111211111211111211111211111211111211111221112111112111112111211111211121112111112111211121112111211".toList.foldl (λ(n,l) c=>(n+c.toNat-48,s!"o_{n+c.toNat-48}"::l)) (42,[])).2).toArray.mapM λk=>do return (←`(command|theorem $(Lean.mkIdent (`_root_.PySem.W.Fast++.mkSimple s!"tw{(`PySem.Challenge.cw_springframe_k24_whole_least_three_ways_holds++.mkSimple k).hash}")):ident:True:=trivial)).raw)
#where
theorem _root_.PySem.W.Fast.tw15348712588731465558:True:=trivial
theorem _root_.PySem.W.Fast.tw5269408134763754926:True:=trivial
open PySem PySem.W PyProof.Rows
local macro_rules |`(tactic|walk_at "b")=>`(tactic|first |show λ_ _ _ _ _ _=>Pu.Il λ_=>rfl |show λ_ _ _ _ _ _=>Pu.ln2 λ_ _=>rfl |show λ_ _ _ _ _ _=>Pu.Im λ_ _ _=>rfl |show λ_ _ _ _ _ _=>Pu.Io λ_ _ _ _=>rfl |show λ_ _ _ _ _ _=>Pu.P6 λ_ _ _ _ _=>rfl)
set_option maxRecDepth 100000 in
set_option maxHeartbeats 0 in
theorem PySem.Challenge.cw_springframe_k24_whole_least_three_ways_holds : PySem.Challenge.rw_springframe_k24_whole_least_three_ways.Holds := by
 w_on;o_law;k_head;(case hw=>w_witness2)
 k_fill
 show Sf.walk (l:=PySem.Challenge.rw_springframe_k24_whole_least_three_ways) rfl rfl rfl (λw h Y=>PySem.W.kIn_of Y) ?F
 case F=>
  intro w mg h KX G;show#[?_];apply Sf.Tx.mk
  all_goals first |show Pu.NO KX G (by k_is) (L2.nT (by k_is) (by k_is)<|by k_is) (by walk_at "b") |show Pu.NQ (by k_is) (L2.nT (by k_is) (by k_is)<|by k_is) (by k_is) (by walk_at "b") |show Pu.NP (by k_is) (L2.nT (by k_is) (by k_is)<|by k_is) (by k_is) (by k_is) (by k_is) (by walk_at "b") |show mg_of KX G (by k_is) |show mg_none_of KX G (by k_is) |show Pu.B1 (by k_is) |show L2.g9.mk (by k_is) (by k_is) (by k_is) (by k_is) |show Pu.z8 (by k_is) (L2.nT (by k_is) (by k_is)<|by k_is) (by k_is) (by rfl) (by rfl) (by rfl) (by rfl) (by k_exc) (by k_is) (by rfl) (by rfl) (by k_is) (by k_is) (by rfl) (by rfl) (by k_is) (by k_is) (by k_is) (by k_is) (by k_is) (by k_is) (by walk_at "b") |show L2.i8.mk (by k_is) (by k_is) (by k_is) (by k_is) (by k_is) |show#[_,_,_,by k_is,rfl,rfl,Nat.le_of_ble_eq_true rfl,by repeat first |show .nil |show .cons #[_,rfl] ?_] |k_is |kit_is |k_exc |kts_exm
#print axioms PySem.Challenge.cw_springframe_k24_whole_least_three_ways_holds
