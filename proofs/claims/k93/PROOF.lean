import PyProof.Rows.All
import Wide.All
import OpenK.AllK
import Wide.FinOn
import Lean
import PyProof.EqAt
import PyProof.EqKinds
import PyProof.TupleCall
import PySem.Challenge.RW_springframe_k93_whole_clashes
set_option Elab.async false
set_option linter.all false
set_option maxRecDepth 100000
set_option maxHeartbeats 4000000
open Option renaming some->À, none->Ä, isSome_iff_exists->ŭ, isSome_map->ϖ, map_some->ϥ, ne_none_iff_exists'->ϱ, toList_some->ae7, getD_some->ag6, map_eq_some_iff->al6, getD_none->as8
open List renaming getElem?_eq_some_iff->Á, length_map->Æ, getD_eq_getElem?_getD->Ç, range->È, mem_append->É, mem_of_getElem?->Ì, getElem?_map->Î, getElem?_eq_getElem->Ð, replicate->Ò, length_append->Ö, length_range->Ü, length_cons->Ý, map_append->ß, mem_map->á, size_toArray->â, length_replicate->ã, mem_cons->ä, mem_singleton->å, map_cons->è, getElem?_eq_none->ì, getElem?_set_ne->ï, map_map->ð, getElem?_range->ò, append_assoc->õ, length_set->û, mem_append_right->þ, getElem?_set_self->Ā, append_nil->Ă, lookup_cons->Ą, getElem?_append_left->ĉ, getElem?_append_right->ď, append_eq_nil_iff->Đ, mem_map_of_mem->ē, nodup_cons->Ĕ, take_add_one->Ė, mem_zipIdx_iff_getElem?->ę, mem_filter->ĝ, take_length->ğ, getElem?_zip_eq_some->ġ, map_congr_left->Ģ, mem_take_iff_getElem->ģ, mem_range->ħ, getElem?_of_mem->ĩ, length_take->Ī, mem_cons_of_mem->ī, length_zipIdx->ĭ, mem_filterMap->Į, of_mem_zip->Ķ, length_filter_le->ĺ, find?_cons->ļ, lookup->Ľ, any_eq_true->ň, ext_getElem?->Ŋ, nodup_append->ŋ, filterMap_cons->ő, length_singleton->Œ, getElem?_zipIdx->š, mem_append_left->Ţ, pairwise_iff_getElem->Ũ, zip_eq_zipWith->Ŭ, filter_sublist->Ű, map->Ŵ, filter_append->Ž, map_replicate->ž, mem_cons_self->ϊ, length_nil->ϕ, getElem_mem->Ϛ, perm_append_comm->ϝ, any_cons->Ϥ, zipWith->ϯ, sublist_append_right->Ζ, getElem?_set->Θ, reverse_cons->Ι, eq_of_mem_replicate->Λ, all_cons->Ν, getElem?_replicate->Υ, map_zipWith->Φ, not_mem_nil->Χ, cons_append->aa1, toArray->aa2, foldl_cons->ab0, getElem?_mapIdx->ad1, length->ad2, mem_of_mem_take->ad3, range_eq_range'->ad4, take_zero->ad5, length_zip->ad7, map_nil->ad8, nil_append->ad9, replicate_succ->ae6, filter_congr->ag4, nodup_nil->ag5, all_eq_true->ah6, filter_cons->ah7, zipWith_map->ah8, range_succ->ai4, map_set->ai9, find?_map->aj9, mem_of_find?_eq_some->ak4, idxOf_lt_length_iff->al5, filter_cons_of_neg->am4, filter_cons_of_pos->am5, any_map->an3, find?_cons_of_neg->an4, find?_cons_of_pos->an5, getElem?_toArray->ao2, lookup_cons_self->ao3, getElem?_append->aq3, filter_eq_self->aq9, getElem_of_mem->ar0, length_reverse->ar1, length_zipWith->ar2, zipIdx_map_snd->ar3, contains_cons->as2, find?_eq_none->as3, getElem_idxOf->as4, getElem_range->as5, length_mapIdx->as6, zip_cons_cons->as7, any_eq_false->at3, flatMap_cons->at4, flatten_cons->at5, foldl_append->at6, isSome_find?->at7, zipWith_self->at8
open Bool renaming true->Â, false->Å, false_ne_true->à, and_eq_true->ê, eq_iff_iff->Ŕ, and_self->Ϣ, false_eq_true->ϻ, beq_eq_decide_eq->ab5, false_and->ad0, true_and->af1, and_false->aj8, and_true->al3, false_or->al4, or_eq_true_iff->aq6, not_eq_true'->as9
open PySem.Heap renaming get?_push_of_some->Ã, lt_size->Í, get?_push_size->Ó, get?_update_other->ö, get?_update_self->ċ, get?_none_of_le->Ł, size_push->ϔ, get?_push_cases->ϩ, SameBut->ϲ, FlyingW->aa5, get?_update_ne->ar6, get?_push_at->au0
open PySem renaming wpAny_bind->Ê, sizeLine->Ô, wpAny->Ø, model->Ù, wpAny_pure->Û, Program->é, compareOp->í, Stmt->ù, attributeBase->ú, World->ü, starEach->ā, wpAny_mono->ă, Around->Ĉ, Expr->đ, foldedSetIterable->Ě, wpAny_Call_Name_kw->Ğ, FuncData->Ĥ, assignEach->ĥ, swapsWith->Ĭ, sizeLine_eq->ĳ, wpAny_truthy_bool->ĵ, cLine->ņ, bootBuiltins->Ō, keywordEach->Ř, mainGlobals->ř, sysModules->ś, binaryOp->Ş, wpAny_passesOwn->ş, wpAny_standAt->Ť, wpAny_loadPart_at->Ŧ, wpAny_pyIter_list->ŧ, backTo->Ų, codeAny_call_builtin->ų, codeAny->ź, codeAny_mono->Ż, Value->ϐ, wpAny_holding->ϑ, tupleKind_room_in1->ϗ, wpAny_getItem_str_slice->Ϝ, NameKind->Ϧ, rawInt->ϧ, behindInMarks->ϳ, backToKw->ϸ, sliceBounds->Ϲ, wpAny_execs_nil->Γ, Addr->Ο, Scope->Ρ, wpAny_call->Τ, Builtin->aa4, Keyword->aa6, excClassObj->aa7, wpAny_pyIter_enum->aa8, swappedStores->ab2, swapsWithSole->ab3, PassesOwn->ac3, wpAny_Call_method0_late->ac9, call_meetsIn->ae2, standAt->ae3, letOwnedTupleGo->ae8, post_val_or_str->ae9, wpAny_ite_split->af0, ClassData->ag8, noteFrame->ag9, tupleKind->ah0, callerA->aj5, valueAt->aj6, wpAny_newObj_type->aj7, plainObj_wpAny_Assign_Attribute->ak2, checkBuiltinCall->ak7, isTrue->ak8, pastItsLine_dict->ak9, setFlight->al0, wpAny_lookBehind->al1, IsRangeIter->al9, wpAny_field->am3, wpAny_specialOf->am9, wpAny_updateSeq->an0, notedBy->an9, GenState->ao8, bindName->ap5, callWith->ap6, call_meets->ap7, typeLookup->ap8, wpAny_letOwnedTupleGo_enum->ap9, wpAny_loadPart->aq0, wpAny_setField->aq1, assignInOrder->ar8, rangeSize_one->ar9, wpAny_comprehension_free->as0, wpAny_pyIter_rangeiter->au1, wpAny_pyNext_range_end->au2
open Rat renaming divInt->Ë, intCast_pos->î, mul_nonneg->ñ, divInt_eq_div->ý, intCast_mul->Ċ, ne_of_gt->č, intCast_nonneg->Ē, le_of_lt->ě, div_def->Ĝ, zero_divInt->Ġ, intCast_eq_zero_iff->İ, divInt_mul_divInt->Ĺ, intCast_add->ł, intCast_neg->ŕ, mul_eq_zero->Ŗ, divInt_eq_divInt_iff->ż, num_nonneg->Ϙ, divInt_mul_right->ϫ, zero_mul->Ϻ, div_mul_cancel->Δ, mul_inv_cancel->Ε, not_lt->ab4, intCast_sub->ab7, inv_pos->ae4, neg_divInt->ae5, num_divInt_den->ag1, sub_eq_add_neg->ag2, divInt_ofNat->ai3, le_refl->ai7, num_divInt->al2, divInt_add_divInt->aq4
open Nat renaming le_trans->Ï, le_refl->Ñ, lt_of_lt_of_le->Õ, ne_of_lt->ç, lt_of_le_of_lt->ĕ, lt_succ_of_lt->į, lt_irrefl->Ĵ, zero_le->ľ, le_of_lt->Ń, pow_le_pow_right->ń, lt_succ_self->ũ, ne_of_gt->Ū, mul_le_mul_left->ϰ, mul_lt_mul_of_pos_right->ϵ, two_pow_pos->Ϸ, mul_le_mul->Α, succ_mul->Ξ, le_add_right->Ω, le_of_ble_eq_true->ab9, mul_le_mul_right->ae0, add_le_add_left->af2, add_assoc->af5, le_of_dvd->af6, sub_self->af9, mul_succ->ah3, le_succ->ai5, not_lt_zero->aj0, pow_add->aj1, le_mul_of_pos_right->an6, add_comm->ao4, mul_comm->ao5, pow_succ->ao6, zero_add->ao7, log2_lt->ar4
open PySem.Value renaming ref->Ú, type->ĸ, none->ŝ, int->ϋ, builtin->Ϡ, bool->aa0, str->ad6, float->ap0
open Option.some renaming inj->Þ
open Int renaming ne_of_gt->æ, mul_zero->ô, emod_lt_of_pos->ÿ, natAbs_natCast->Ć, toNat_natCast->Č, emod_nonneg->Ď, mul_fdiv_cancel_left->Ę, eq_of_mul_eq_mul_left->Ħ, le_of_lt->Ĳ, natCast_pos->Ň, natAbs_neg->Ś, dvd_trans->Š, mul_nonneg->Ů, zero_mul->ů, mul_pos->Ŷ, one_dvd->ŷ, natCast_nonneg->ό, mul_eq_zero->ϙ, natAbs_dvd_natAbs->ϟ, dvd_mul_left->ϣ, mul_ne_zero->Ϭ, natAbs_mul->ϭ, natCast_mul->Ϯ, mul_comm->ϴ, gcd_dvd_right->Κ, sign_eq_one_of_pos->aa9, mul_assoc->af4, natAbs_add_le->ah1, zero_add->ah2, mul_le_mul_of_nonneg_right->ai0, toNat->ai1, one_mul->ai8, eq_of_mul_eq_mul_right->ak3, eq_ofNat_of_zero_le->an1, natCast_dvd_natCast->an2, add_zero->ao0, gcd_comm->ao1, le_refl->aq7, natAbs_of_nonneg->aq8, ediv_dvd_of_dvd->as1, gcd_zero_right->at0, sub_eq_add_neg->at1
open False renaming elim->ë
open PyProof.Rows renaming callWith_type1->ó, envOfC->ė, AllBare->aa3, assignInOrder_cons->ai2, IntsAre->an7, subscriptTail->ar5, subscriptTail_builtinR->at9
open True renaming intro->ø
open PySem.W renaming findIn->ą, kia_one->Ņ, emptyDict->ū, hideAll->ű, keepIn->ύ, hideAll_none->Ϟ, instObj->Η, funFrames_hide->ab1, Frag->ac4, callWith_K->ac5, excIn->ac6, looks_findIn->ac7, of_hideAll->ac8, looks_clsIn->af3, fnOf->aj3, isFn->aj4, specialIn->ak1, methodCall_KW->ak6, clsIn->am2, kitOne->am7, plainGet->am8, OpenLaw->ap2, hideAll_get->ap3, plainGet_of->ap4
open Ne renaming symm->ć
open List.Sublist renaming refl->Ĩ
open Classical renaming byContradiction->ķ
open PySem.NameKind renaming free->Ļ, cell->ac1
open PySem.Builtin.List renaming listExtendWith->ō, listLengthHint->Ŏ, listSameRef->ag7, listItems->ah9
open PySem.Calls renaming callWith_builtin->ŏ, spliced_cons->Ő, spliced_nil->Ϗ, evalArgs_plain->ac0, Name_function_global->aj2
open PySem.Obj renaming mapSeq->œ, mapFields->ŗ, data_mapFields->Β, isFreed_of_fields->ac2
open Array renaming getElem?_eq_some_iff->Ŝ, length_toList->ώ, getElem?_toList->ϒ, toArray_toList->ϡ, getElem?_setIfInBounds_ne->ag3, find?_toList->aq5
open PySem.Builtin.Range renaming rangeSize->ţ, small->ai6
open ForInStep renaming yield->ť
open Or renaming inr->ŵ, inl->ϛ
open List.Perm renaming append_right->Ÿ, cons->Ϫ, refl->Ψ, trans->aq2
open PySem.SeqAt renaming EqAt->Ź, RcNeAt->am6, RcAt->ar7
open Int.ofNat renaming inj->ϓ
open List.Pairwise renaming map->Ϩ
open Nat.succ renaming inj->Μ
open PySem.SeqAt.EqAt renaming of_refs->ab6, same->af8, int_str->am0, str_int->am1
open Function renaming comp->ab8
open PySem.Expr renaming Call->ae1
open PySem.Code renaming quiet_builtin->af7, isFrame->an8
open PySem.PassesOwn renaming never->ag0
open PySem.Str renaming ofString->ah4
open PySem.Txt renaming slice_le->ah5
open PySem.Builtin.Int renaming intBits->ak0
open PySem.EntryCells renaming newEntry->ak5
open PySem.Around renaming under->al7
open PySem.Builtin.ObjectAttr renaming storeInDict->al8
open PySem.Heap.Ns1 renaming of_empty->ao9
open PySem.W.Looks renaming here->ap1
abbrev au3:=@if_neg
abbrev au4:=@if_pos
abbrev au5:=@absurd
abbrev au6:=@decide_eq_true
abbrev au7:=@decide_eq_false
abbrev au8:=@of_decide_eq_true
abbrev au9:=@congrArg
abbrev av0:=@beq_self_eq_true
local macro_rules|`(tactic|omega)=>`(tactic|first|decide|lia)
abbrev aj:=List PySem.Str
abbrev aS:=List PySem.Value
abbrev aZ:=List (PySem.Addr×PySem.Obj)
abbrev aC:=List Int
abbrev bW:=List (List Rat)
abbrev aR:=List Rat
abbrev bE:=List (Option Nat)
abbrev bx:=PySem.Str->Option PySem.Value
abbrev eD:=Option PySem.Value
abbrev aN:=Nat->Nat->Int
abbrev bR:=Option Int
abbrev bS:=List PySem.Expr
abbrev cU:=List PySem.Addr
abbrev b9:=Option PySem.Addr
abbrev dk:=Array PySem.Value
abbrev cL:=List PySem.Env
abbrev ar:=PySem.W.Frag
abbrev ao:=PySem.Shared
abbrev au:=PySem.Value
abbrev ai:=PySem.Addr
abbrev aU:=PySem.Heap
theorem autoR(_:0=0:=by rfl):True:=.intro
theorem autoD(_:0=0:=by decide):True:=.intro
def hidG(G:Prop):Prop:=G->False
theorem hidN{G}(h:hidG G->False):G:=Classical.byContradiction h
local macro_rules|`(tactic|∎)=>do
 let z:=Lean.mkIdent `zzz
 `(tactic|first|(refine $z ?_;clear $z)|(refine hidN ?_;intro $z:ident))
local macro_rules|`(tactic|let $p:term:=$e)=>do
 let k:=λx a=>Lean.Syntax.node .none (`Lean.Parser.Tactic++x) a
 let m:=λx=>k `rcasesPatMed #[Lean.mkNullNode #[x]]
 let q:=p.raw.rewriteBottomUp λx=>match x with|.ident ..=>k `rcasesPat.one #[x]|.node _ t a=>if t== `null then x else if a.size<2 then k `rcasesPat.ignore a else k `rcasesPat.tuple #[.atom .none "⟨",Lean.mkNullNode (a[1]!.getArgs.map λy=>if y.isAtom then y else k `rcasesPatLo #[m y,Lean.mkNullNode]),.atom .none "⟩"]|_=>x
 if p.raw[1].getNumArgs<4 then `(tactic|obtain $(⟨m q⟩):rcasesPatMed:=$e) else
 `(tactic|first|(guard_target =ₛ False;obtain $(⟨m q⟩):rcasesPatMed:=$e)|(∎;obtain $(⟨m q⟩):rcasesPatMed:=$e;refine $(Lean.mkIdent `zzz) ?_;clear $(Lean.mkIdent `zzz))|obtain $(⟨m q⟩):rcasesPatMed:=$e)
local macro_rules|`(⋯)=>`(by omega)|`(∎)=>`(by decide)|`(⇑$x)=>`(($x).heap.objs.size)|`(↥$x)=>`(($x).map $(Lean.mkIdent `Pu.ae.t))|`(do $x:term)=>`(autoParam $x $(Lean.mkIdent `autoR._auto_1))|`(~~~$x)=>`(autoParam $x $(Lean.mkIdent `autoD._auto_1))
set_option bootstrap.genMatcherCode false
local macro_rules|`(command|def $i:declId $s:optDeclSig $v:declVal)=>`(command|theorem $i:declId $(⟨.node .none `Lean.Parser.Command.declSig #[s.raw[0],s.raw[1][0]]⟩):declSig $v:declVal)|`(command|abbrev $i:declId $s:optDeclSig $v:declVal)=>`(command|noncomputable def $i:declId $s:optDeclSig $v:declVal)|`(command|nonrec abbrev $i:declId $s:optDeclSig $v:declVal)=>`(command|noncomputable abbrev $i:declId $s:optDeclSig $v:declVal)|`(command|instance $s:declSig $v:declVal)=>`(command|noncomputable instance $s:declSig $v:declVal)
@[inline] def zsx:String:=";aa Ù X.prog X.w;ab pick rs ks;ac Mx rs us;ad Ù prog w;ae aX rs us;af j.map aI;ag .ref C;ah cW X scope N P2.objs.size a Y fp aa;ai cW X scope N C s H fp pl;aj Gr.aO s;ak bo us o;al .inl rfl;am .Name x pos;an cX us o;ao .ref p;ap bA us rs 0;aq cW X a N C s H fp pl;ar .dK kvs;as eval o X.env;at EP X aa j Q;au .ref f;av fy X.prog X.w;aw X.cg pn xe;ax .ref a;ay .dK vs;az .ah f xs;aA .Tuple elts x1 pos;aB fs.lookup f;aC he aa s j H _ I h;aD us.zipIdx.map 1e3;aE .int i;aF .aJ xs;aG .aE o u;aH .ins f c fs;aI ns.map V.int;aJ kB CX P w K mg base N d a f bK A outer s H E;aK .Attribute e f pos;aL fo X.prog X.w;aM fC us o;aN .Name x p;aO .builtin id;aP .ah .o xs;aQ fH us o;aR .ins .o c fs;aS .Attribute o m apos;aT i5 T f rs us sc;aU .int n;aV .ref x;aW top 24;aX m.map 1e1;aY bC st;aZ fy P w;ba .ref c;bb dZ _ _;bc eA ix σ;bd .l Å;be æ G.pos;bf cF T f S;bg eval e X.env;bh start N vs;bi tR X.K i r;bj aE t;bk .ref e;bl .error e;bm Le.refl F;bn Le.refl _;bo ns.map Tr.int;bp cf ns;bq I.ok.hd hc;br bs A S;bs .ins C dx fs;bt .type T;bu up S r c;bv bP rs k;bw .bl Å;bx ps.zip us;by .int j;bz y b u z n;bA bs.map V.bl;bB .str n;bC top 23;bD Ú g.objs.size;bE B.mem_iff.mp m;bF g pos aa s j H _ I h;bG .bl b;bH jg x;bI kz st;bJ i.keeps b o z;bK bU K z lo n g;bL .int i t;bM aQ H a o;bN .str x;bO .ah xs;bP Ù P w;bQ aQ H p o;bR .ref I;bS .aT f xs;bT ae.t a;bU cO f m;bV B.map iy;bW .Return (À e) pos;bX qv 1;bY hi aa s j H _ I h;bZ .ref s.heap.objs.size;ca .l Â;cb .Tuple es x1 tpos;cc .aT .o xs;cd cH rs;ce .bl Â;cf o.r.plain t;cg dq t r;ch .ins C b vs;ci Ï l.length_le u;cj truthy v;ck PySem.F.args_dict_get_3 _ _ _;cl tR K i r;cm ys.map g;cn .ref abJ;co cK T f B;cp mT mk;cq cQ X.stack;cr qJ r ta tb;cs rN I.aP eb;ct PySem.F.args_dict_values_1 _;cu dO f;cv gB rs us S;cw gq us rs.length ps;cx fo P w;cy kq h m;cz A b o e a;cA .ref it;cB I.ok.hd B;cC g i j;cD act env;cE eA ix j;cF Bq Hb H;cG J.set i t;cH .bl n;cI Sum.inr x;cJ dy 0;cK jQ h ss k;cL gN us o x;cM cW X scope N C s H fp aa;cN I.base.keep b o e n Y D;cO Ş .Mult;cP D.less i;cQ pF pg pr;cR qv 0;cS S0 rs us;cT .own a;cU .own x;cV TP X aa j Q;cW .Constant .none j pos;cX .Expr e pos;cY í op;cZ .dK d;da .Dict keys values pos;db mV g.heap H;dc tO X D;dd p2 pr pa pb;de c.gr a;df Bq d H;dg .ah vs;dh ae.t r;di cM (cM (cM BF e) d) b;dj cJ cs;dk i pos aa s j H _ I h;dl .BinOp a .Mult b pos;dm storeName X.env x u;dn .UnaryOp .Not a pos;do Ş .Add;dp K w.params;dq eA ix G;dr j.set i Ä;ds .UnaryOp .Not e pos;dt nI n pr;du xs.set n t;dv .int vs.length;dw .Tuple elts x1 tpos;dx .Subscript o j pos';dy d9 f;dz gx b;dA gx a;dB fT m n M mk c S a i;dC tl rs us S;dD cO .f X;dE .Subscript o i pos;dF .Slice lo hi Ä p2;dG .Subscript a b pos;dH b7 eI eG (qv 5) gm;dI b7 eI eG (qv 2) aD;dJ SP X aa D;dK .BinOp a op b pos;dL í .NotEq;dM Η C s.heap.objs.size;dN í .NotIn;dO hU f u fs;dP .int m.length;dQ nV pi pg pt pe ix;dR W.unset b;dS cT xs;dT cT ts;dU XO C e Ä;dV .ah .o xs.reverse;dW up (up v a x) b y;dX up (up v a y) b x;dY cK T .o S;dZ cF T .o S;ea rs.zipIdx.take i';eb cE cs;ec .IfExp c a b pos;ed vi K a;ee .Tuple es x1 pos;ef .ref l;eg bi x;eh .ref b;ei pG wi g ti te ix;ej X.bF v;ek vg K a;el .Tuple elts x1 n;em W.gr g;en kq C J;eo .Tuple es kk pos;ep .int 1;eq wt K a;er .ref E;es mT m;et aQ H x o;eu vk K a b;ev c.gr d.g;ew c.gr a.g;ex .ah .o a;ey G.map aI;ez ja t r u;eA .aT .o m;eB .exc n P;eC nt b _ z;eD .aT .f m;eE up S r e;eF cK T f S;eG Lp.tt m M S j n;eH Ē.mpr n;eI bA us rs;eJ kc rs.length;eK e.take i;"
local macro_rules|`($n:name)=>do
 let a:=λt:String=>if t.front.isDigit then (Lean.Syntax.mkLit (if t.any (·=='e') then `scientific else `num) t).raw else if t=="_" then .node .none `Lean.Parser.Term.hole #[.atom .none t] else if t.front=='.' then .node .none `Lean.Parser.Term.dotIdent #[.atom .none ".",Lean.mkIdent (t.drop 1).toString.toName] else (Lean.mkIdent t.toName).raw
 let p:=λb:Array Lean.Syntax=>if b.size<2 then b[0]! else (Lean.Syntax.mkApp ⟨b[0]!⟩ ((b.drop 1).map (⟨·⟩))).raw
 let [_,u]:=zsx.splitOn s!";{n.getName} "|Lean.Macro.throwUnsupported
 let r:=(((u.splitOn ";").head!.replace "(" "( ").replace ")" " )").splitOn " "|>.foldl (λ(b,l) t=>if t=="(" then (#[],b::l) else if t==")" then (l.head!.push (p b),l.tail!) else (b.push (a t),l)) (#[],([]:List (Array Lean.Syntax)))
 return p r.1
local macro_rules|`(#[$a,*])=>`(⟨$a,*⟩)
local macro_rules|`(tactic|show $e:term)=>`(tactic|refine $e)
local macro_rules|`(↑$x)=>`(($x).length)
local macro_rules|`(∅)=>`(by simp)
local macro_rules|`(1e1)=>`(λp=>((Sum.inr p.1:$(Lean.mkIdent `L2.aW)),$(Lean.mkIdent `Pu.ae.t) p.2))
local macro_rules|`(1e3)=>`(λp=>(p.1,$(Lean.mkIdent `x) p.2))
local macro_rules|`(1e2)=>`(⟨rfl,rfl,rfl,by decide +kernel,rfl,by decide +kernel,by decide +kernel⟩)
namespace L2
open PySem PySem.Spec PyProof.Rows
nonrec abbrev dS(x:Str):Prop:=(x == ("__debug__":Str))=Å
nonrec abbrev ew(e:đ)(es:bS)(n:Env):Prop:=ā (e::es) n=(Å,eval e n)::ā es n
nonrec abbrev l5(e:đ)(n:Env):Prop:=ā [e] n=[(Å,eval e n)]
nonrec abbrev qT(e f:đ)(n:Env):Prop:=ā [e,f] n=[(Å,eval e n),(Å,eval f n)]
nonrec abbrev gf(p:Pos)(es:bS)(n:Env):Prop:=(Ų p<|ā es n).any (·.1)=Å
nonrec abbrev aW:=Sum Int Str
nonrec abbrev a8:=List<|aW×bR
abbrev rj:aW->au->Bool
 |.inl k,v=>Value.isInt k v
 |.inr x,v=>Value.isStrOf x v
abbrev Nb(w:ü):aW->Int
 |.inl k=>hashInt k
 |.inr x=>hashStr w x
def l8:∀{k:aW}{v:au},rj k v=Â->(∃i t,k=Sum.inl i/\v=ϋ i t)\/(∃x t,k=Sum.inr x/\v=ad6 x t)
 |.inl i,v,h=>by
  let#[t,e]:=Value.isInt_shape (k:=i) (v:=v) h;show .inl #[i,t,rfl,e]
 |.inr x,v,h=>by
  let#[t,e]:=Value.isStrOf_shape (x:=x) (v:=v) h;show .inr #[x,t,rfl,e]
def Q0(i:Int)(t:Tok):rj (.inl i) `bL=Â:=by simp[rj,Value.isInt]
def Q1(x:Str)(t:Tok):rj (.inr x) (.str x t)=Â:=by simp[rj,Value.isStrOf]
def YZ(a b:Int):decide ((Sum.inl a:aW)=Sum.inl b)=(a == b):=by
 by_cases e:a=b
 .subst e;simp
 .have h:¬ (Sum.inl a:aW)=Sum.inl b:=λq=>e<|Sum.inl.inj q
  rw[au7 h];show (beq_eq_false_iff_ne.mpr e).symm
def Y0(a b:Str):decide ((Sum.inr a:aW)=Sum.inr b)=decide (a=b):=by
 by_cases e:a=b
 .subst e;simp
 .have h:¬ (Sum.inr a:aW)=Sum.inr b:=λq=>e<|Sum.inr.inj q
  rw[au7 h,au7 e]
def Y1(a:Int)(b:Str):decide ((Sum.inl a:aW)=Sum.inr b)=Å:=au7 (λq=>nomatch q)
def Yd(a:Str)(b:Int):decide ((Sum.inr a:aW)=Sum.inl b)=Å:=au7 (λq=>nomatch q)
abbrev fo(prog:é)(w:ü):PySem.KeyKind prog w aW where
 is:=rj
 hash:=Nb w
 inj:=λv a b l g=>by
  rcases l8 l with⟨i,t,rfl,rfl⟩ |⟨x,t,rfl,rfl⟩
  .rcases l8 g with⟨j,u,rfl,e⟩ |⟨y,u,rfl,e⟩
   .injection e with e1 _;rw[e1]
   .show nomatch e
  .rcases l8 g with⟨j,u,rfl,e⟩ |⟨y,u,rfl,e⟩
   .show nomatch e
   .injection e with e1 _;rw[e1]
 byValue:=λk v h=>by
  rcases l8 h with⟨i,t,rfl,rfl⟩ |⟨x,t,rfl,rfl⟩<;>rfl
 pyHash:=λd h=>by
  rcases l8 d with⟨i,t,rfl,rfl⟩ |⟨x,t,rfl,rfl⟩
  .show wpAny_pyHash_int h
  .show wpAny_pyHash_str h
 eqBool:=λm d h=>by
  rcases l8 m with⟨i,t,rfl,rfl⟩ |⟨x,t,rfl,rfl⟩
  .rcases l8 d with⟨j,u,rfl,rfl⟩ |⟨y,u,rfl,rfl⟩
   .rw[YZ] at h;show wpAny_eqBool_int h
   .rw[Y1] at h;show am0 i t y u _ _ _ _ h
  .rcases l8 d with⟨j,u,rfl,rfl⟩ |⟨y,u,rfl,rfl⟩
   .rw[Yd] at h;show am1 x t j u _ _ _ _ h
   .rw[Y0] at h;show wpAny_eqBool_str h
 «strs»:=λk x t v h=>by
  rcases l8 h with⟨i,u,rfl,e⟩ |⟨y,u,rfl,e⟩
  .show nomatch e
  .injection e with e1 _
   subst e1;cases v<;>rfl
def O1(prog:é)(w:ü)(i:Int)(t:Tok):(fo prog w).is (.inl i) `bL=Â:=Q0 i t
def O3(prog:é)(w:ü)(x:Str)(t:Tok):(fo prog w).is (.inr x) (.str x t)=Â:=Q1 x t
inductive V where
 |aM |bl (b:Bool) |int (i:Int) |str (x:Str) |ic (b:Array UInt8) |nB (b:UInt64) |ref (a:Ο) |ty (n:String)
 deriving DecidableEq
nonrec abbrev bY:=List<|aW×V
nonrec abbrev az:=List V
abbrev aH:V->au->Prop
 |.aM,u=>u=ŝ
 |.bl b,u=>u=aa0 b
 |.int i,u=>∃t,u=ϋ i t
 |.str x,u=>∃t,u=ad6 x t
 |.ic b,u=>∃t,u=Value.bytes b t
 |.nB b,u=>∃t,u=ap0 b t
 |.ref a,u=>u=Ú a
 |.ty n,u=>u=ĸ n
nonrec abbrev aL:az->aS->Prop:=Paired aH
def aL.length(r:aL xs us):↑xs=↑us:=Paired.length r
def aL.get:∀{xs:az}{us:aS}{i:Nat}{x:V},aL xs us->xs[i]?=À x->∃u,us[i]?=À u/\aH x u
 |_,_,_,_,.nil,e=>by simp at e
 |_,_,0,_,.cons r _,e=>by simp at e;subst e;show#[_,rfl,r]
 |_,_,i + 1,x,.cons _ t,e=>by
  let#[u,a,b]:=aL.get (i:=i) (x:=x) t (by simpa using e);show#[u,by simpa using a,b]
def aL.set(r:aH x u):∀{xs:az}{us:aS}(i:Nat),aL xs us->aL (xs.set i x) (us.set i u)
 |_,_,_,.nil=>.nil
 |_,_,0,.cons _ t=>.cons r t
 |_,_,i + 1,.cons q t=>.cons q<|aL.set r i t
def aL.append:∀{xs ys:az}{us a:aS},aL xs us->aL ys a->aL (xs++ys) (us++a):=by
 intro xs ys us a h g
 induction h with
 |nil=>show g
 |cons r t b=>show .cons r b
def aL.take:∀{xs:az}{us:aS}(n:Nat),aL xs us->aL (xs.take n) (us.take n)
 |_,_,0,_=>.nil
 |_,_,_ + 1,.nil=>.nil
 |_,_,n + 1,.cons r t=>.cons r<|aL.take n t
def aL.drop:∀{xs:az}{us:aS}(n:Nat),aL xs us->aL (xs.drop n) (us.drop n)
 |_,_,0,r=>r
 |_,_,_ + 1,.nil=>.nil
 |_,_,n + 1,.cons _ t=>aL.drop n t
abbrev cv:Option V->eD->Prop
 |some v,À u=>aH v u
 |none,Ä=>True
 |_,_=>False
abbrev KV{j:Type}:List (j×V)->List (j×au)->Prop:=Paired λ(p:j×V)(q:j×au)=>p.1=q.1/\aH p.2 q.2
abbrev kV:aW->V
 |.inl i=>.int i
 |.inr x=>.str x
inductive HO where
 |ah (xs:List V)
 |aJ (xs:List V)
 |dK (kvs:List (aW × V)) |dT (kvs:List (List aW × V))
 |set (S:Int -> Bool) (n:Nat)
 |ins (C dx:Ο) (fs:List (Str × V))
 |own (x:Ο)
 |xd (fs:List (Str × V))
 |met (f x:Ο)
 |kP (lo hi:Int)
 |aE (o:Obj) (u:HO)
 |oZ (ps:Array ϐ)
 |ext (φ:Heap -> Prop)
nonrec abbrev Hp:=Ο->Option HO
abbrev aQ(H:Hp)(a:ai)(o:HO):Hp:=λb=>if b=a then À o else H b
def cN:aQ H a o a=À o:=by unfold aQ;rw[au4 rfl]
def a9{H:Hp}(h:b≠a):aQ H a o b=H b:=by unfold aQ;rw[au3 h]
def LO{H:Hp}(h:H a=À o)(h':H b=À u)(d:o≠u):a≠b:=by
 intro e;subst e;rw[h] at h';show d<|Þ h'
def jX{H:Hp}(h:H a=À o)(h':H b=Ä):a≠b:=by
 intro e;subst e;rw[h] at h';cases h'
section
variable(P:é)(w:ü)
abbrev bc(H:Hp)(h:aU)(a:ai):HO->Prop
 |.ah e=>↑e <= Ô /\ ∃(b:aS)(n:Nat),aL e b /\ h.get? a=À { cls:=.type "list",data:=.seq b.toArray n }
 |.aJ e=>↑e <= Ô /\ ∃b:aS,aL e b /\ IsTup h a b.toArray
 |.dK d=>↑d <= Ô /\ (a == ś)=Å /\ ∃vs,KV d vs /\ h.DictOf `cx a vs
 |.dT d=>↑d <= Ô /\ (a == ś)=Å /\ ∃e:List (List aW × Ο × ϐ),
   Paired (λ(p:List aW×V)(q:List aW×ai×au)=>p.1=q.1/\H q.2.1=À (.aJ<|p.1.map kV)/\aH p.2 q.2.2) d e/\
   ∃o es r,h.get? a=À o/\o.ExactDict/\o.data=.dict es r/\es.toList=e.map (entryOfKey<|ah0<|fo P w)/\(e.map (·.1)).Nodup
 |.set S n=>h.SetOf (intKind P w) a S n
 |.ins C i fs=>H i=À `cT /\ ↑fs <= 1000 /\ i ≠ a /\ h.get? a=À (Η C i) /\
   ∃g,h.Ns1 i g/\(∀f,cv `aB<|g f)/\PySem.Within g (fs.map (·.1))
 |.own _=>∃o,h.get? a=À o
 |.xd fs=>∃g,h.Ns1 a g /\ ∀f,cv `aB<|g f
 |.kP lo y=>∃t u v,h.get? a=À { cls:=.type "range",data:=.fields ([.int lo t,.int y u,.int 1 v].toArray) }
 |.aE o u=>h.get? a=À o /\ bc H h a u
 |.oZ z=>h.get? a=À { cls:=.none,data:=.fields z }
 |.met f x=>h.get? a=À (W.methodObj `au<|.ref x)
 |.ext j=>j h /\ (∃o,h.get? a=À o) /\ ∀l m:Heap,j l -> (∀o,l.get? a=À o -> m.get? a=À o) -> j m
abbrev dD(H:Hp)(h:aU):Prop:=∀a o,H a=À o->bc P w H h a o
end
section
variable{P:é}{w:ü}{H H':Hp}{h h':aU}{a:ai}{o:HO}
def bc.lt(x:bc P w H h a o):a<h.objs.size:=by
 cases o with
 |ah d=>let#[_,_,_,_,e]:=x;show Í e
 |aJ d=>let#[_,_,_,p]:=x;show p.lt
 |dK b=>let#[_,_,_,_,o,_,_,e,_]:=x;show Í e
 |dT b=>let#[_,_,_,_,o,_,_,e,_]:=x;show Í e
 |set S n=>let#[o,_,_,_,e,_]:=x;show Í e
 |ins C g fs=>let#[_,_,_,e,_]:=x;show Í e
 |own y=>let#[_,e]:=x;show Í e
 |xd fs=>let#[_,#[_,_,_,e,_],_]:=x;show Í e
 |kP lo i=>let#[_,_,_,e]:=x;show Í e
 |aE j u=>let#[e,_]:=x;show Í e
 |oZ l=>show Í (show h.get? a=À _ from x)
 |met f y=>show Í (show h.get? a=À _ from x)
 |ext m=>let#[_,#[_,e],_]:=x;show Í e
def Paired.u3{F G:j->i->Prop}:∀{d:List j}{l₂:List i},Paired F d l₂->(∀a b,F a b->G a b)->Paired G d l₂:=by
 intro d l₂ h f
 induction h with
 |nil=>show .nil
 |cons r t e=>show .cons (f _ _ r) e
def bc.eS(x:bc P w H h a o)(k:∀b u,(b=a\/H b=À `cT)->h.get? b=À u->h'.get? b=À u)(D:∀b,H b=À `cT->H' b=À `cT)(ht:∀b xs,H b=À `aF->H' b=À `aF):bc P w H' h' a o:=by
 induction o with
 |ah xs=>let#[z,j,n,r,e]:=x;show#[z,j,n,r,k _ _ `al e]
 |aJ xs=>let#[z,j,r,g,e,c]:=x;show#[z,j,r,g,k _ _ `al e,c]
 |dK l=>let#[z,y,vs,r,g,es,i,e,c]:=x;show#[z,y,vs,r,g,es,i,k _ _ `al e,c]
 |dT l=>
  let#[z,y,xs,r,g,es,i,e,c]:=x;show#[z,y,xs,Paired.u3 r λp q z=>#[z.1,ht _ _ z.2.1,z.2.2],g,es,i,k _ _ `al e,c]
 |set S n=>let#[g,es,i,t,e,c]:=x;show#[g,es,i,t,k _ _ `al e,c]
 |ins C G fs=>
  let#[d,z,ne,e,m,#[od,es,i,B,c],r]:=x;show#[D _ d,z,ne,k _ _ `al e,m,#[od,es,i,k _ _ (.inr d) B,c],r]
 |own y=>let#[g,e]:=x;show#[g,k _ _ `al e]
 |xd fs=>let#[m,#[od,es,i,e,c],r]:=x;show#[m,#[od,es,i,k _ _ `al e,c],r]
 |kP lo I=>let#[t,u,v,e]:=x;show#[t,u,v,k _ _ `al e]
 |aE g u E=>let#[e,q]:=x;show#[k _ _ `al e,E q]
 |oZ A=>
  have e:h.get? a=À { cls:=.none,data:=.fields A }:=x;change h'.get? a=À { cls:=.none,data:=.fields A };show k a _ `al e
 |met f y=>
  have e:h.get? a=À (W.methodObj `au<|.ref y):=x;change h'.get? a=À (W.methodObj `au<|.ref y);show k a _ `al e
 |ext J=>let#[p,#[o,e],st]:=x;show#[st _ _ p λo q=>k _ _ `al q,#[o,k _ _ `al e],st]
def dD.lt(x:dD P w H h)(e:H a=À o):a<h.objs.size:=(x a o e).lt
def dD.fresh(x:dD P w H h)(e:h.objs.size<=a):H a=Ä:=by
 cases q:H a with
 |none=>rfl
 |some u=>show au5 (Õ (x.lt q) e)<|Ĵ _
def dD.kept(x:dD P w H h)(k:∀b u,h.get? b=À u->h'.get? b=À u):dD P w H h':=λa o e=>
 (x a o e).eS (λb u _ q=>k b u q) (λ_ q=>q) λ_ _ q=>q
def dD.laid(x:dD P w H h)(k:∀b u,h.get? b=À u->h'.get? b=À u)(hp:h.objs.size<=a)(d:bc P w `bM h' a o):dD P w `bM h':=λb u e=>by
 have hn:=x.fresh hp;by_cases g:b=a
 .subst g;rw[cN] at e;cases e;show d
 .rw[a9 g] at e;show (x b u e).eS (λc v _ q=>k c v q) (λc q=>by rw[a9<|jX q hn];show q) λc i q=>by rw[a9<|jX q hn];show q
end
abbrev Rd(H:Hp)(a:ai)(u:HO):Prop:=H a=À u\/∃o,H a=À `aG
def Rd.of{H:Hp}(h:H a=À u):Rd H a u:=.inl h
def Rd.ok(r:Rd H a u)(x:dD P w H h):bc P w H h a u:=by
 rcases r with r |⟨o,r⟩
 .show x a u r
 .obtain⟨_,q⟩:=x a _ r;show q
abbrev sG:Option HO->Prop
 |some (.ah _)=>True
 |some (.dK _)=>True
 |some (.dT _)=>True
 |some (.set _ _)=>True
 |some (.ins _ _ _)=>True
 |some (.ext _)=>True
 |_=>False
section
variable{P:é}{w:ü}{H:Hp}{h h':aU}{x e:ai}{o':HO}
def dD.write(ok:dD P w H h)(l:sG (H x))(he:e=x\/H e=À `cU)(k:∀b u,b≠e->h.get? b=À u->h'.get? b=À u)(n:∃u,h'.get? e=À u)(o:bc P w (aQ H x o') h' x o'):dD P w (aQ H x o') h':=λb u q=>by
 have d:∀c y,H c=À (.own y)->c≠x:=λc y r z=>by subst z;rw[r] at l;show l
 have g:∀c m,H c=À (.aJ m)->c≠x:=λc m r z=>by subst z;rw[r] at l;show l
 by_cases i:b=x
 .subst i;rw[cN] at q;cases q;show o
 .rw[a9 i] at q;by_cases a:b=e
  .have q':H b=À `cU:=by
    rcases he with z |z
    .show au5 (a.trans z) i
    .rw[a];show z
   rw[q] at q';cases q';let#[v,A]:=n;show#[v,by rw[a];show A]
  .show (ok b u q).eS (λc v j r=>k c v ?_ r) (λc r=>by rw[a9<|d c b r];show r) λc m r=>by rw[a9<|g c m r];show r
   rcases j with rfl |j
   .show a
   .rintro rfl;rcases he with z |z
    .show d c b j z
    .rw[j] at z;cases z;show i rfl
end
structure Un(fs ex:cU)(H H':Hp)(h h':aU):Prop where
 keep:∀b o,h.get? b=À o->H b=Ä->b ∉ fs->b ∉ ex->h'.get? b=À o
 slot:∀b o,h.get? b=À o->H b=Ä->b∈fs->b ∉ ex->∃sl,h'.get? b=À { o with slots:=sl }
 free:∀b o,h.get? b=À o->H b=Ä->b ∉ ex->H' b=Ä
 there:∀b o,h.get? b=À o->b ∉ ex->∃o',h'.get? b=À o'
 ed:∀b xs,H b=À `aF->H' b=À `aF
 bj:∀b o u,H b=À `aG->H' b=À `aG
 eT:∀b ps,H b=À (.oZ ps)->∃more,H' b=À (.oZ<|ps++more)
section
variable{fs fs' ex ex':cU}{H H1 H2:Hp}{h h1 h2 h':aU}{a x e:ai}{o:HO}
def Un.any(u:Un fs ex H H1 h h1){ob:Obj}(q:h.get? b=À ob)(n:H b=Ä)(g:b ∉ ex):∃i,h1.get? b=À { ob with slots:=i }:=by
 by_cases d:b∈fs
 .show u.slot b ob q n d g
 .show#[ob.slots,u.keep b ob q n d g]
def Un.kept(k:∀b u,h.get? b=À u->h'.get? b=À u):Un fs ex H H h h':=
 #[λb d q _ _ _=>k b d q,λb d q _ _ _=>#[d.slots,k b d q],λ_ _ _ n _=>n,λb d q _=>#[d,k b d q],λ_ _ q=>q,λ_ _ _ q=>q,λ_ g q=>#[([].toArray),by rw[q];simp]]
def Un.refl:Un fs ex H H h h:=Un.kept λ_ _ q=>q
def Un.laid(k:∀b u,h.get? b=À u->h'.get? b=À u)(hp:h.objs.size<=a)(hn:H a=Ä):Un fs ex H `bM h h' where
 keep:=λb u q _ _ _=>k b u q
 slot:=λb u q _ _ _=>#[u.slots,k b u q]
 free:=λb u q n _=>by rw[a9<|ç<|Õ (Í q) hp];show n
 there:=λb u q _=>#[u,k b u q]
 ed:=λb d q=>by rw[a9<|jX q hn];show q
 bj:=λb u d q=>by rw[a9<|jX q hn];show q
 eT:=λb g q=>#[([].toArray),by rw[a9<|jX q hn,q];simp]
def Un.write(g:sG (H x))(he:e=x\/H e=À `cU)(k:∀b u,b≠e->h.get? b=À u->h'.get? b=À u)(i:∃u,h'.get? e=À u):Un fs ex H `et h h':=by
 have l:∀b,H b=Ä->b≠x:=λb n z=>by subst z;rw[n] at g;show g
 have j:∀b,H b=Ä->b≠e:=λb n z=>by
  subst z;rcases he with r |r
  .show l b n r
  .rw[n] at r;cases r
 have hm:∀b u,H b=À u->¬ sG (À u)->b≠x:=λb u q nm z=>by subst z;rw[q] at g;show nm g
 show#[λb u q n _ _=>k b u (j b n) q,λb u q n _ _=>#[u.slots,k b u (j b n) q],λb u q n _=>by rw[a9<|l b n];show n,λb u q _=>?_,
  λb m q=>by rw[a9<|hm b _ q λz=>z];show q,λb u m q=>by rw[a9<|hm b _ q λz=>z];show q,λb v q=>#[([].toArray),by rw[a9<|hm b _ q λz=>z,q];simp]]
 by_cases d:b=e
 .subst d;show i
 .show#[u,k b u d q]
end
abbrev x8(h:aU)(H:Hp):cU:=(È h.objs.size).filter λa=>(H a).isSome
abbrev mV(h:aU)(H:Hp):aU:=ű h<|x8 h H
def Q2(h:aU)(H:Hp):(mV h H).objs.size=h.objs.size:=W.hideAll_size _ _
def Th{H:Hp}(e:h.get? b=À o)(n:H b=Ä):(mV h H).get? b=À o:=
 ap3 _ e λhm=>by
  have q:(H b).isSome=Â:=(ĝ.mp hm).2;rw[n] at q;simp at q
def WU{H:Hp}(e:(mV h H).get? b=À o):h.get? b=À o/\H b=Ä:=by
 have a:h.get? b=À o:=ac8 (x8 h H) e;show#[a,?_];cases q:H b with
 |none=>rfl
 |some x=>
  have hm:b∈x8 h H:=ĝ.mpr #[ħ.mpr<|Í a,by simp[q]];have z:(mV h H).get? b=Ä:=Ϟ (x8 h H) hm;rw[z] at e;cases e
abbrev MX(g h:aU)(L:ai):aZ:=(È h.objs.size).filterMap λa=>if a=L\/(g.get? a).isSome=Â then Ä else (h.get? a).map λo=>(a,o)
abbrev rest(g h:aU)(L d:ai):aZ:=(MX g h L).filter λp=>decide<|p.1≠d
structure Mod(K:ar)(mg:bx)(base:aU):Prop where
 nE:K.In base
 glob:base.Ns ř mg
 blt:∃mb,base.Ns builtinsNs mb/\∀x:Str,x≠"__name__"->mb x=Ō x
 nolimit:base.NoLimit
structure Cx where
 prog:é
 w:ü
 K:ac4
 mg:bx
 base:Heap
 A:Ĉ
 N:aj
 s₀:Shared
 H₀:Hp
 env:Env
 outer:cL
 stack:cL
 ex:cU
 fn:Str->Bool
 calm:Bool
 pn:aZ
 xe:au->ao->Prop
nonrec abbrev kX(X:Cx)(x:Str):Prop:=X.fn x=Â\/X.env.scope.names.lookup x=À .local
abbrev cQ(l:cL):cU:=l.filterMap (·.frame)
nonrec abbrev Cx.fs(X:Cx):cU:=cQ X.outer
abbrev o9(sc:Ρ)(x:Str):Prop:=sc.names.lookup x=À .local\/sc.names.lookup x=À .cell\/sc.names.lookup x=À .free
abbrev Loc(sc:Ρ)(x:Str):Prop:=sc.names.lookup x=À .local\/sc.names.lookup x=À .cell
abbrev Fj(env:Env)(h:aU)(m:bx)(x:Str)(u:au):Prop:=
 (env.kindOf x=À .local/\m x=À u)\/((env.kindOf x=À .cell\/env.kindOf x=À .free)/\∃c,env.cells.lookup x=À c/\h.IsCell c (À u))
structure Cx.Ok(X:Cx):Prop where
 mod:Mod X.K X.mg X.base
 kind:X.env.scope.kind=.function
 glob:X.env.globals=ř
 blt:X.env.builtins=builtinsNs
 above:⇑X.s₀<=X.env.locals
 inj:∀x y c,X.env.cells.lookup x=À c->X.env.cells.lookup y=À c->x=y
 has:∀x,(X.env.kindOf x=À .cell\/X.env.kindOf x=À .free)->∃c,X.env.cells.lookup x=À c
 ow:∀x c,X.fn x=Â->X.env.cells.lookup x=À c->⇑X.s₀<=c
 hd:X.calm=Â->X.A.handled=Ä
 frames:X.A.frames=À X.stack
 qI:X.stack=X.outer\/(X.stack=X.env::X.outer/\X.env.frame=À X.env.locals)
 qp:∀b∈X.ex,b≠X.env.locals/\∀x c,X.env.cells.lookup x=À c->c≠b
 bs:∀b o,X.base.get? b=À o->X.s₀.heap.get? b=À o/\X.H₀ b=Ä
 kG:X.base.objs.size<=⇑X.s₀
 iM:∀b o,X.base.get? b=À o->b ∉ X.ex
 iG:∀b∈X.ex,b ∉ X.fs
 ea:X.s₀.heap.FunFrames X.base X.outer
 mG:∀b∈X.fs,X.H₀ b=Ä
structure ax(X:Cx)(aa:aZ)(j:List (Option V))(H:Hp)(s:ao):Prop where
 ok:X.Ok
 os:s.os=X.s₀.os
 bare:aa3 s.gens
 base:Un X.fs X.ex X.H₀ H X.s₀.heap s.heap
 loc:∃m,s.heap.Ns X.env.locals m/\∀(i:Nat)(x:Str)(v:V),X.N[i]?=À x->j[i]?=À (À v)->o9 X.env.scope x->∃u,aH v u/\Fj X.env s.heap m x u
 cell:∀x c,X.env.cells.lookup x=À c->∃v,s.heap.IsCell c v
 free:H X.env.locals=Ä
 cc:∀x c,X.env.cells.lookup x=À c->H c=Ä
 pin:∀p∈X.pn++aa,s.heap.get? p.1=À p.2/\H p.1=Ä/\p.1≠X.env.locals/\p.1 ∉ X.fs/\∀v,p.2.data≠.cell v
 aP:dD X.prog X.w H s.heap
 len:↑j=↑X.N
section
variable{X:Cx}{aa:aZ}{σ:List (Option V)}{H H':Hp}{s:ao}{h':aU}
def Cx.Ok.BQ(ok:X.Ok)(e:X.base.get? b=À o):b ∉ X.fs:=λa=>by
 have:=(ok.ea.mem a).1;rw[e] at this;cases this
def ax.bs(I:ax X aa σ H s):∀b o,X.base.get? b=À o->s.heap.get? b=À o/\H b=Ä:=λb o e=>
 #[I.base.keep b o (I.ok.bs b o e).1 (I.ok.bs b o e).2 (I.ok.BQ e)<|I.ok.iM b o e,I.base.free b o (I.ok.bs b o e).1 (I.ok.bs b o e).2<|I.ok.iM b o e]
def ax.bk(I:ax X aa σ H s):∀b o,X.base.get? b=À o->s.heap.get? b=À o:=λb o e=>(I.bs b o e).1
def ax.mod(I:ax X aa σ H s):Mod X.K X.mg X.base:=I.ok.mod
def ax.dc(I:ax X aa σ H s):X.K.In s.heap:=I.ok.mod.nE.keeps I.bk
def ax.lt(I:ax X aa σ H s):X.env.locals<⇑s:=let ⟨_,hn,_⟩:=I.loc;hn.lt
def ax.sz(I:ax X aa σ H s):⇑X.s₀<=⇑s:=Ï I.ok.above<|Ń I.lt
def ax.BR(I:ax X aa σ H s)(h:⇑s<=a):a ∉ X.fs:=λb=>by
 let#[_,o,d,_]:=I.ok.ea.mem b;show au5 (Õ (Í d)<|Ï I.sz h)<|Ĵ _
def ax.nr(I:ax X aa σ H s):∀x c,X.env.cells.lookup x=À c->c≠X.env.locals:=λx c e z=>by
 ∎;let#[v,o,d,hd]:=I.cell x c e;let#[m,#[h,es,g,b,a,_],_]:=I.loc;∎;rw[z,b] at d;cases d;rw[a] at hd;cases hd
def ax.ea(I:ax X aa σ H s):s.heap.FunFrames X.base X.outer:=by
 have all:∀(l:cL),(∀b∈cQ l,b∈X.fs)->X.s₀.heap.FunFrames X.base l->s.heap.FunFrames X.base l:=by
  intro l
  induction l with
  |nil=>intro _ _;trivial
  |cons env r q=>
   intro h j;let#[i,#[L,o,g,hn,m,hd],n]:=j;have a:L∈X.fs:=h L (by unfold cQ;rw[ő,g];show ϊ);let#[u,e]:=I.base.slot L o m (I.ok.mG L a) a λz=>I.ok.iG L z a
   show#[i,#[L,_,g,hn,e,hd],q (λb d=>h b (by unfold cQ;rw[ő,g];show ī _ d)) n]
 show all X.outer (λ_ d=>d) I.ok.ea
def ax.stack(I:ax X aa σ H s):s.heap.FunFrames X.base X.stack:=by
 rcases I.ok.qI with e |⟨e,a⟩
 .rw[e];show I.ea
 .rw[e];let#[m,hn,_]:=I.loc;show .cons (by rw[I.ok.kind];decide) a hn ?_ I.ea;show Ł<|Ï I.ok.kG I.ok.above
def ax.gb(I:ax X aa σ H s):∀b∈cQ X.stack,b∈X.env.locals::X.fs:=λb a=>by
 rcases I.ok.qI with e |⟨e,d⟩
 .rw[e] at a;show ī _ a
 .rw[e] at a;unfold cQ at a;rw[ő,d] at a;show a
def ax.gZ(I:ax X aa σ H s):∀b∈cQ X.stack,H b=Ä:=λb a=>by
 rcases ä.mp (I.gb b a) with e |a
 .rw[e];show I.free
 .obtain⟨_,o,ho,_⟩:=I.ok.ea.mem a;show I.base.free b o ho (I.ok.mG b a) λz=>I.ok.iG b z a
def ax.step{g':Array ao8}{t':Nat}{d':Drawn}{ch:cU}(I:ax X aa σ H s)(h:∀b∈ch,(b∈X.ex\/⇑X.s₀<=b)/\b≠X.env.locals/\(∀x c,X.env.cells.lookup x=À c->c≠b)/\∀p∈X.pn++aa,p.1≠b)(keep:∀b o,b≠X.env.locals->b ∉ X.fs->b ∉ ch->s.heap.get? b=À o->H b=Ä->h'.get? b=À o)(slot:∀b o,b≠X.env.locals->b∈X.fs->b ∉ ch->s.heap.get? b=À o->H b=Ä->∃G,h'.get? b=À { o with slots:=G })(free:∀b o,b ∉ ch->s.heap.get? b=À o->H b=Ä->H' b=Ä)(there:∀b o,b ∉ ch->s.heap.get? b=À o->∃o',h'.get? b=À o')(ed:∀b xs,H b=À `aF->H' b=À `aF)(bj:∀b o u,H b=À `aG->H' b=À `aG)(eT:∀b ps,H b=À (.oZ ps)->∃D,H' b=À (.oZ<|ps++D))(ns:∀m,s.heap.Ns X.env.locals m->h'.Ns X.env.locals m)(aP:dD X.prog X.w H' h')(Q:aa3 g'):
  ax X aa σ H' { s with heap:=h',gens:=g',drawn:=d',toks:=t' }:=by
 have E:∀b o,X.s₀.heap.get? b=À o->b≠X.env.locals:=λb o e=>ç<|Õ (Í e) I.ok.above
 have A:∀b o,X.s₀.heap.get? b=À o->b ∉ X.ex->b ∉ ch:=λb o e a B=>by
  rcases (h b B).1 with z |z
  .show a z
  .show au5 (Õ (Í e) z) (Ĵ _)
 have g:∀x c,X.env.cells.lookup x=À c->∀v,s.heap.IsCell c v->h'.IsCell c v:=λx c e v ⟨o,ho,hd⟩=>by
  have j:c ∉ ch:=λz=>(h c z).2.2.1 x c e rfl
  by_cases M:c∈X.fs
  .obtain⟨G,q⟩:=slot c o (I.nr x c e) M j ho<|I.cc x c e;show#[_,q,hd]
  .show#[o,keep c o (I.nr x c e) M j ho<|I.cc x c e,hd]
 show#[I.ok,I.os,Q,#[λb o e n B a=>?_,λb o e n B a=>?_,λb o e n a=>?_,λb o e a=>?_,λb xs e=>ed b xs<|I.base.ed b xs e,λb o xs e=>bj b o xs<|I.base.bj b o xs e,λb ps e=>?_],?_,λx c e=>?_,?_,λx c e=>?_,λp N=>?_,aP,I.len]
 .show keep b o (E b o e) B `cz (I.base.keep b o e n B a) (I.base.free b o e n a)
 .obtain⟨G,y⟩:=I.base.slot b o e n B a;let#[J,C]:=slot b _ (E b o e) B `cz y<|I.base.free b o e n a;show#[J,C]
 .obtain⟨o',y⟩:=I.base.there b o e a;show free b o' `cz y<|I.base.free b o e n a
 .obtain⟨o',y⟩:=I.base.there b o e a;show there b o' `cz y
 .obtain⟨m1,y⟩:=I.base.eT b ps e;let#[U,C]:=eT b _ y;show#[m1++U,by rw[C,Array.append_assoc]]
 .obtain⟨m,hn,hl⟩:=I.loc;show#[m,ns m hn,λi x v y C O=>?_];let#[u,r,l]:=hl i x v y C O;show#[u,r,?_];rcases l with l |⟨k,c,e,z⟩
  .show .inl l
  .show .inr ⟨k,c,e,g x c e _ z⟩
 .obtain⟨v,z⟩:=I.cell x c e;show#[v,g x c e v z]
 .obtain⟨m,⟨o,_,_,ho,_⟩,_⟩:=I.loc;show free _ o (λz=>(h _ z).2.1 rfl) ho I.free
 .obtain⟨v,o,ho,hd⟩:=I.cell x c e;show free c o (λz=>(h c z).2.2.1 x c e rfl) ho<|I.cc x c e
 .obtain⟨e,n,ne,nf,d⟩:=I.pin p N;have j:p.1 ∉ ch:=λz=>(h p.1 z).2.2.2 p N rfl
  show#[keep p.1 p.2 ne nf j e n,free p.1 p.2 j e n,ne,nf,d]
def ax.un{t':Nat}(I:ax X aa σ H s)(u:Un X.fs [] H H' s.heap h')(aP:dD X.prog X.w H' h'):ax X aa σ H' { s with heap:=h',toks:=t' }:=by
 ∎;let#[m,#[o,es,q,i,r],_]:=id I.loc;let#[y,j]:=u.any i I.free ∅;∎;show I.step (g':=s.gens) (d':=s.drawn) (ch:=[]) (λ_ z=>nomatch z) (λb o _ h _ e n=>u.keep b o e n h<|by simp) (λb o _ h _ e n=>u.slot b o e n h<|by simp) (λb o _ e n=>u.free b o e n<|by simp) (λb o _ e=>u.there b o e<|by simp) u.ed u.bj u.eT (λv hm=>by
  let#[x,g,d,a,l]:=hm;rw[i] at a;cases a;show#[_,g,d,j,l]) aP I.bare
def ax.call{g':Array ao8}{t':Nat}{d':Drawn}{ch:cU}(I:ax X aa σ H s)(u:Un `cq ch H H' s.heap h')(aP:dD X.prog X.w H' h')(v:aa3 g')(d:∀b∈ch,(b∈X.ex\/⇑X.s₀<=b)/\b≠X.env.locals/\(∀x c,X.env.cells.lookup x=À c->c≠b)/\∀p∈X.pn++aa,p.1≠b):
  ax X aa σ H' { s with heap:=h',gens:=g',drawn:=d',toks:=t' }:=by
 let#[m,#[o,es,A,l,r],_]:=id I.loc;let#[D,j]:=u.any l I.free λz=>(d _ z).2.1 rfl
 show I.step (ch:=ch) d (λb o j q a e n=>u.keep b o e n (λz=>(ä.mp<|I.gb b z).elim j q) a) (λb o _ _ a e n=>u.any e n a) (λb o a e n=>u.free b o e n a) (λb o a e=>u.there b o e a) u.ed u.bj u.eT (λB hm=>by
  let#[C,i,h,g,y]:=hm;rw[l] at g;cases g;show#[_,i,h,j,y]) aP v
def ax.turned{t':Nat}{it:ai}(I:ax X aa σ H s)(k:∀b o,b≠it->s.heap.get? b=À o->h'.get? b=À o)(hn:H it=Ä)(g:it≠X.env.locals)(h:it∈X.ex\/⇑X.s₀<=it)(i:∀x c,X.env.cells.lookup x=À c->c≠it)(j:∀p∈X.pn++aa,p.1≠it):ax X aa σ H { s with heap:=h',toks:=t' }:=by
 have d:∀b u,H b=À u->b≠it:=λb u e z=>by rw[z,hn] at e;cases e
 show I.step (g':=s.gens) (d':=s.drawn) (ch:=[it]) (λb l=>?_) (λb o _ _ a e _=>k b o (λz=>a<|by simp[z]) e) (λb o _ _ a e _=>#[o.slots,k b o (λz=>a<|by simp[z]) e]) (λ_ _ _ _ n=>n)
  (λb o a e=>#[o,k b o (λz=>a<|by simp[z]) e]) (λ_ _ e=>e) (λ_ _ _ e=>e) (λb w e=>#[([].toArray),by rw[e];simp]) (λm hm=>?_) (λb u e=>?_) I.bare
 .have e:b=it:=by simpa using l
  subst e;show#[h,g,i,j]
 .obtain⟨o,es,ep,ho,r⟩:=hm;show#[o,es,ep,k _ o (ć g) ho,r]
 .show (I.aP b u e).eS (λc v a q=>k c v ?_ q) (λ_ q=>q) λ_ _ q=>q
  rcases a with z |z
  .rw[z];show d b u e
  .show d c _ z
def ax.tok(I:ax X aa σ H s)(t:Nat):ax X aa σ H { s with toks:=t }:=I.un (h':=s.heap) (t':=t) Un.refl I.aP
def ax.kept(I:ax X aa σ H s)(k:∀b u,s.heap.get? b=À u->h'.get? b=À u):ax X aa σ H { s with heap:=h',toks:=t' }:=I.un (Un.kept k)<|I.aP.kept k
def ax.laid(I:ax X aa σ H s)(k:∀b u,s.heap.get? b=À u->h'.get? b=À u)(hp:⇑s<=a)(d:bc X.prog X.w `bM h' a o):
  ax X aa σ `bM { s with heap:=h',toks:=t' }:=I.un (Un.laid k hp<|I.aP.fresh hp)<|I.aP.laid k hp d
def ax.write(I:ax X aa σ H s)(g:sG (H x))(he:e=x\/H e=À `cU)(k:∀b u,b≠e->s.heap.get? b=À u->h'.get? b=À u)(a:∃u,h'.get? e=À u)(d:bc X.prog X.w `et h' x o):ax X aa σ `et { s with heap:=h',toks:=t' }:=I.un (Un.write g he k a)<|I.aP.write g he k a d
def ax.weak(I:ax X aa σ H s)(e:↑σ'=↑σ)(w:∀(i:Nat) v,σ'[i]?=À (À v)->σ[i]?=À (À v)):ax X aa σ' H s:=
 #[I.ok,I.os,I.bare,I.base,let ⟨m,hn,hl'⟩:=I.loc;#[m,hn,λi x v a b d=>hl' i x v a (w i v b) d],I.cell,I.free,I.cc,I.pin,I.aP,e.trans I.len]
def ax.fR(I:ax X aa σ H s)(h:∀p∈a,s.heap.get? p.1=À p.2/\H p.1=Ä/\p.1≠X.env.locals/\p.1 ∉ X.fs/\∀v,p.2.data≠.cell v):ax X a σ H s:=
 #[I.ok,I.os,I.bare,I.base,I.loc,I.cell,I.free,I.cc,λp b=>(É.mp b).elim (λz=>I.pin p<|Ţ _ z)<|h p,I.aP,I.len]
def Ab{N:aj}(g:N.Nodup){i j:Nat}{x:Str}(a:N[i]?=À x)(b:N[j]?=À x):i=j:=by
 let#[h,d]:=Á.mp a;let#[l,e]:=Á.mp b;show (List.getElem_inj g).mp<|d.trans e.symm
def GF{M:Model}{A:Ĉ}{E:au->ao->Prop}{i:Nat}{x:Str}{v:V}{u:au}{Q:Unit->ao->Prop}(I:ax X aa σ H s)(hN:X.N.Nodup)(hi:X.N[i]?=À x)(D:Loc X.env.scope x)(r:aH v u)(h:∀s',ax X aa (σ.set i<|À v) H s'->(∃a,ϲ a s.heap s'.heap/\(a=X.env.locals\/X.env.cells.lookup x=À a))->Q () s')(hf:kX X x:=by first |show .inl rfl |show .inr rfl |assumption):Ø M A `dm Q E s:=by
 let#[m,hn,hl]:=id I.loc;have β:(X.env.scope.kind == .class || (X.env.scope.kind == .module&&X.env.locals != X.env.globals))=Å:=by rw[I.ok.kind];rfl
 have O:i<↑σ:=by rw[I.len];show (Á.mp hi).1
 have nr:=I.nr;have B:∀{a:ai}{h':aU},(∃o,s.heap.get? a=À o/\H a=Ä)->ϲ a s.heap h'->dD X.prog X.w H h':=λ{a h'} ha g b ob e=>by
  let#[_,_,G]:=ha;show (I.aP b ob e).eS (λc w' C q=>(g.2 c ?_).trans q) (λ_ q=>q) λ_ _ q=>q
  rintro rfl;rcases C with rfl |C
  .rw[G] at e;cases e
  .rw[G] at C;cases C
 rcases D with U |U
 .show wpAny_storeName_local U hn (λh' ε g=>?_) β;let#[oL,_,_,ζ,_]:=id hn;show h _ #[I.ok,I.os,I.bare,#[λb o e n Y D=>?_,λb o e n Y D=>?_,I.base.free,λb o e D=>?_,I.base.ed,I.base.bj,I.base.eT],#[_,ε,λj y v' l J e3=>?_],λy c e=>?_,I.free,I.cc,λp hp=>?_,B #[oL,ζ,I.free] g,by simpa using I.len] #[_,g,.inl rfl]
  .show (g.2 b<|ç<|Õ (Í e) I.ok.above).trans `cN
  .obtain⟨sl,l⟩:=I.base.slot b o e n Y D;show#[sl,(g.2 b<|ç<|Õ (Í e) I.ok.above).trans l]
  .obtain⟨o',l⟩:=I.base.there b o e D;show#[o',(g.2 b<|ç<|Õ (Í e) I.ok.above).trans l]
  .by_cases hj:j=i
   .subst hj;rw[hi] at l;cases l;rw[Ā O] at J;cases J;show#[u,r,.inl #[U,by simp]]
   .rw[ï<|ć hj] at J;let#[u',r',q]:=hl j y v' l J e3;show#[u',r',?_];rcases q with⟨k,e⟩ |⟨k,c,e,z⟩
    .show .inl ⟨k,?_⟩;have:y≠x:=λe=>hj<|Ab hN l<|e ▸ hi
     simp[this,e]
    .show .inr #[k,c,e,z.sameBut g<|nr y c e]
  .obtain⟨w',z⟩:=I.cell y c e;show#[w',z.sameBut g<|nr y c e]
  .obtain⟨e,n,ne,nf,d⟩:=I.pin p hp;show#[(g.2 p.1 ne).trans e,n,ne,nf,d]
 .have hfn:X.fn x=Â:=by
   rcases hf with z |z
   .show z
   .rw[z] at U;cases U
  let#[c,C]:=I.ok.has x<|.inl U;let#[w',z]:=I.cell x c C;show wpAny_storeName_cell I.ok.kind U C z<|λh' α g=>?_;let#[oc,γ,δ]:=id z;show h { s with heap:=h' } #[I.ok,I.os,I.bare,#[λb o e n Y D=>?_,λb o e n Y D=>?_,I.base.free,λb o e D=>?_,I.base.ed,I.base.bj,I.base.eT],#[m,hn.sameBut g<|ć<|nr x c C,λj y v' l J e3=>?_],λy c' e=>?_,I.free,I.cc,λp hp=>?_,B #[oc,γ,I.cc x c C] g,by simpa using I.len] #[c,g,.inr C]
  .show (g.2 b<|ç<|Õ (Í e)<|I.ok.ow x c hfn C).trans `cN
  .obtain⟨sl,l⟩:=I.base.slot b o e n Y D;show#[sl,(g.2 b<|ç<|Õ (Í e)<|I.ok.ow x c hfn C).trans l]
  .obtain⟨o',l⟩:=I.base.there b o e D;show#[o',(g.2 b<|ç<|Õ (Í e)<|I.ok.ow x c hfn C).trans l]
  .by_cases hj:j=i
   .subst hj;rw[hi] at l;cases l;rw[Ā O] at J;cases J;show#[u,r,.inr #[.inl U,c,C,α]]
   .rw[ï<|ć hj] at J;let#[u',r',q]:=hl j y v' l J e3;show#[u',r',?_];rcases q with q |⟨k,c',e,z'⟩
    .show .inl q
    .show .inr ⟨k,c',e,z'.sameBut g ?_⟩;rintro rfl;show hj<|Ab hN l<|I.ok.inj _ _ _ e C ▸ hi
  .by_cases hcc:c'=c
   .subst hcc;show#[_,α]
   .obtain⟨w2,z2⟩:=I.cell y c' e;show#[w2,z2.sameBut g hcc]
  .obtain⟨e,n,ne,nf,d⟩:=I.pin p hp;show#[(g.2 p.1 ?_).trans e,n,ne,nf,d];intro q;rw[q,γ] at e;have q':oc=p.2:=Þ e;show d w' (by rw[<- q'];show δ)
def uo{Q:Unit->ao->Prop}(I:ax X aa σ H s)(b:X.N.Nodup)(e:X.N[i]?=À x)(g:Loc X.env.scope x)(r:aH v u)(h:∀s',ax X aa (σ.set i<|À v) H s'->Q () s')(d:kX X x:=by first |show .inl rfl |show .inr rfl |assumption):Ø M A `dm Q E s:=
 GF I b e g r (λs' a _=>h s' a) d
def ax.eJ(I:ax X aa σ H s)(g:s'.os=s.os)(u:Un `cq ch H H' s.heap s'.heap)(aP:dD X.prog X.w H' s'.heap)(d:aa3 s'.gens)(a:∀b∈ch,(b∈X.ex\/⇑X.s₀<=b)/\b≠X.env.locals/\(∀x c,X.env.cells.lookup x=À c->c≠b)/\∀p∈X.pn++aa,p.1≠b):ax X aa σ H' s':=by
 let#[h',g',d',t',h]:=s';have e:h=s.os:=g;subst e;show I.call (g':=g') (t':=t') (d':=d') u aP d a
end
nonrec abbrev XK:=ϐ->b9->Hp->Prop
nonrec abbrev St:=List<|Option V
nonrec abbrev VK:=V->Hp->Prop
nonrec abbrev TE:=St->Hp->VK->Prop
nonrec abbrev TT:=St->Hp->(Bool->Hp->Prop)->Prop
nonrec abbrev TA:=St->Hp->(az->Hp->Prop)->Prop
structure Ends where
 nx:St->Hp->Prop
 rt:VK
 bk:St->Hp->Prop:=λ_ _=>False
 ct:St->Hp->Prop:=λ_ _=>False
nonrec abbrev TS:=Ends->St->Hp->Prop
abbrev EP(X:Cx)(aa:aZ)(j:St)(Q:VK)(u:au)(s':ao):Prop:=∃v a,ax X aa j a s'/\aH v u/\Q v a
abbrev TP(X:Cx)(aa:aZ)(j:St)(Q:Bool->Hp->Prop)(b:Bool)(s':ao):Prop:=∃a,ax X aa j a s'/\Q b a
abbrev AP(X:Cx)(aa:aZ)(j:St)(Q:az->Hp->Prop)(us:aS)(s':ao):Prop:=∃vs a,ax X aa j a s'/\aL vs us/\Q vs a
abbrev SP(X:Cx)(aa:aZ)(D:Ends)(f:Flow)(s':ao):Prop:=
 match f with
 |.next=>∃b a,ax X aa b a s' /\ D.nx b a
 |.brk=>∃b a,ax X aa b a s' /\ D.bk b a
 |.cont=>∃b a,ax X aa b a s' /\ D.ct b a
 |.ret u=>∃v b a,ax X aa b a s' /\ aH v u /\ D.rt v a
abbrev PE(X:Cx)(e:đ)(t:TE):Prop:=
 ∀(aa:aZ)(s:ao)(j:St)(H:Hp)(Q:VK),ax X aa j H s->t j H Q->Ø `aa X.A `bg `at X.xe s
abbrev PT(X:Cx)(e:đ)(t:TT):Prop:=
 ∀(aa:aZ)(s:ao)(j:St)(H:Hp)(Q:Bool->Hp->Prop),ax X aa j H s->t j H Q->Ø `aa X.A (ak8 e X.env<|eval e X.env) `cV X.xe s
abbrev PW(X:Cx)(e:đ)(t:TT):Prop:=
 ∀(whole:Sem ϐ)(aa:aZ)(s:ao)(j:St)(H:Hp)(Q:Bool->Hp->Prop),ax X aa j H s->t j H Q->Ø `aa X.A (ak8 e X.env whole) `cV X.xe s
def PW.pt(h:PW X e t):PT X e t:=h _
abbrev PA(X:Cx)(es:bS)(t:TA):Prop:=
 ∀(pos:Pos)(aa:aZ)(s:ao)(j:St)(H:Hp)(Q:az->Hp->Prop),ax X aa j H s->t j H Q->Ø `aa X.A (spliced<|Ų pos<|ā es X.env) (AP X aa j Q) X.xe s
abbrev PS(X:Cx)(st:ù)(t:TS):Prop:=
 ∀(aa:aZ)(s:ao)(j:St)(H:Hp)(D:Ends),ax X aa j H s->t D j H->Ø `aa X.A (exec st X.env) `dJ X.xe s
abbrev fV(X:Cx)(st:List ù)(t:TS):Prop:=
 ∀(aa:aZ)(s:ao)(j:St)(H:Hp)(D:Ends),ax X aa j H s->t D j H->Ø `aa X.A (execs st X.env) `dJ X.xe s
def bh{Q b:j->ao->Prop}(h:Ø M A t Q E s)(d:∀a s,Q a s->b a s):Ø M A t b E s:=ă h d λ_ _ x=>x
section
variable{X:Cx}
abbrev hJ(i:Nat):TE:=λj H Q=>∃v,j[i]?=À (À v)/\Q v H
abbrev tC(v:V):TE:=λ_ H Q=>Q v H
def xA(o:X.N[i]?=À x)(w:o9 X.env.scope x)(hd: ~~~(dS x))(g: ~~~((x == ("__classdict__":Str))=Å)):PE X `am (hJ i):=by
 intro aa s j H Q I h;∎;let#[v,e,h]:=h;let#[m,hn,q]:=I.loc;let#[u,r,l]:=q i x v o e w;∎;have b:EP X aa j Q u s:=#[v,H,I,r,h];rcases l with⟨d,hm⟩ |⟨d,c,n,a⟩
 .show wpAny_Name (wpAny_loadName_local I.ok.kind d hn hm b) hd
 .rcases d with d |d
  .show wpAny_Name (wpAny_loadName_cell I.ok.kind d n a b) hd
  .show wpAny_Name (wpAny_loadName_free I.ok.kind d n a b g) hd
def Jh{i j pos}:PE X (.Constant `aE j pos) (tC<|.int i):=λ_ _ _ H _ I h=>wpAny_Constant_int #[.int i,H,I.tok _,#[_,rfl],h]
def LP{b j pos}:PE X (.Constant (.bool b) j pos) (tC<|.bl b):=λ_ _ _ H _ I h=>Constant_bool #[.bl b,H,I,rfl,h]
def Ye{j pos}:PE X `cW (tC .aM):=λ_ _ _ H _ I h=>Constant_none #[.aM,H,I,rfl,h]
def Ji{x j pos}:PE X (.Constant `bN j pos) (tC<|.str x):=λ_ _ _ H _ I h=>Calls.Constant_str #[.str x,H,I.tok _,#[_,rfl],h]
abbrev Gl(X:Cx)(x:Str):Prop:=X.env.kindOf x=À .globalImplicit
def oo{Q:au->ao->Prop}(I:ax X aa j H s)(a:Gl X x)(hm:X.mg x=À u)(h:Q u s)(hd: ~~~(dS x)):Ø `aa X.A (eval `am X.env) Q E s:=
 aj2 I.ok.kind a (Calls.loadGlobal_global (by rw[I.ok.glob];show I.mod.glob.keeps I.bk) hm h) hd
def kC{Q:au->ao->Prop}(I:ax X aa j H s)(d:Gl X x)(hm:X.mg x=Ä)(e:Ō x=À u)(h:Q u s)(hn: ~~~(x≠"__name__"))(hd: ~~~(dS x)):Ø `aa X.A (eval `am X.env) Q E s:=by
 let#[g,a,b]:=I.mod.blt;show aj2 I.ok.kind d (Calls.loadGlobal_builtin (by rw[I.ok.glob];show I.mod.glob.keeps I.bk) hm (by rw[I.ok.blt];show a.keeps I.bk) ((b x hn).trans e) h) hd
def WV(a:Gl X x)(hm:X.mg x=À u)(r:aH v u)(hd: ~~~(dS x)):PE X `am (tC v):=
 λ_ _ _ H _ I h=>oo I a hm #[v,H,I,r,h] hd
def WW(a:Gl X x)(hm:X.mg x=Ä)(b:Ō x=À u)(r:aH v u)(hn: ~~~(x≠"__name__"))(hd: ~~~(dS x)):PE X `am (tC v):=
 λ_ _ _ H _ I h=>kC I a hm b #[v,H,I,r,h] hn hd
variable{a b:đ}{ta tb:TE}{pos:Pos}
abbrev tB(t:TE):TT:=λj H Q=>t j H λx H1=>∃c,x=.bl c/\Q c H1
def Yf(h:PE X e t)(he:∀whole,ak8 e X.env whole=(do let v <- whole;ae3 e.pos;holding [v] `cj):=by intro _;rfl):PT X e (tB t):=by
 intro aa s j H Q I m;show isTrue_plain (bh (h aa s j H _ I m) λv r g=>?_)<|he _;∎;let#[x,i,l,o,n]:=g;let#[d,rfl,q]:=n;∎;cases o;show ĵ #[i,l,q]
variable{tA tB':TT}{rest:bS}
abbrev Fm(t u:TT):TT:=λj H Q=>t j H λc d=>if c=Â then u j d Q else Q Å d
abbrev Ku(t u:TT):TT:=λj H Q=>t j H λc d=>if c=Â then Q Â d else u j d Q
abbrev Fn(t:TT):TT:=λj H Q=>t j H λc H1=>Q (!c) H1
def WX(d:PT X a tA):PW X (.BoolOp .And [a] pos) tA:=by
 intro i aa s j H Q I h;show isTrue_and<|bh (d aa s j H Q I h) λc g e=>?_;cases c with
 |true=>show isTrue_and_nil e
 |false=>show e
def Yg(d:PT X a tA):PW X (.BoolOp .Or [a] pos) tA:=by
 intro i aa s j H Q I h;show isTrue_or<|bh (d aa s j H Q I h) λc g e=>?_;cases c with
 |false=>show isTrue_or_nil e
 |true=>show e
def Yh(l:PT X a tA)(m:PW X (.BoolOp .And (b::rest) pos) tB'):PW X (.BoolOp .And (a::b::rest) pos) (Fm tA tB'):=by
 intro o aa s j H Q I h;show isTrue_and<|bh (l aa s j H _ I h) λc n d=>?_;let#[e,g,i]:=d;cases c with
 |true=>show m o aa n j e Q g i
 |false=>show#[e,g,i]
def LQ(l:PT X a tA)(m:PW X (.BoolOp .Or (b::rest) pos) tB'):PW X (.BoolOp .Or (a::b::rest) pos) (Ku tA tB'):=by
 intro o aa s j H Q I h;show isTrue_or<|bh (l aa s j H _ I h) λc n d=>?_;let#[e,g,i]:=d;cases c with
 |true=>show#[e,g,i]
 |false=>show m o aa n j e Q g i
def Yi(e:PT X a tA):PT X `dn (Fn tA):=by
 intro aa s j H Q I h;show isTrue_not<|e aa s j H (λc d=>Q (!c) d) I h
abbrev Eo(ta tb:TE):TE:=λj H Q=>ta j H λx d=>∃c,x=.bl c/\if c=Â then tb j d Q else Q `bw d
abbrev Fo(ta tb:TE):TE:=λj H Q=>ta j H λx d=>∃c,x=.bl c/\if c=Â then Q `ce d else tb j d Q
abbrev Ep(ta:TE):TE:=λj H Q=>ta j H λx d=>∃c,x=.bl c/\Q (.bl (!c)) d
def Yj{op}(h:PE X a t):PE X (.BoolOp op [a] pos) t:=λaa s j H Q I d=>BoolOp_one<|h aa s j H Q I d
def Yk(l:PE X a ta)(m:PE X (.BoolOp .And (b::rest) pos) tb):PE X (.BoolOp .And (a::b::rest) pos) (Eo ta tb):=by
 intro aa s j H Q I h;show BoolOp_and<|bh (l aa s j H _ I h) λv o e=>?_;∎;let#[x,g,i,n,d]:=e;let#[c,rfl,d]:=d;∎;cases n;show ĵ ?_;cases c with
 |true=>show m aa o j g Q i d
 |false=>show#[.bl Å,g,i,rfl,d]
def LR(l:PE X a ta)(m:PE X (.BoolOp .Or (b::rest) pos) tb):PE X (.BoolOp .Or (a::b::rest) pos) (Fo ta tb):=by
 intro aa s j H Q I h;show BoolOp_or<|bh (l aa s j H _ I h) λv o e=>?_;∎;let#[x,g,i,n,d]:=e;let#[c,rfl,d]:=d;∎;cases n;show ĵ ?_;cases c with
 |false=>show m aa o j g Q i d
 |true=>show#[.bl Â,g,i,rfl,d]
def Yl(l:PE X a ta):PE X `dn (Ep ta):=by
 intro aa s j H Q I h;show UnaryOp_<|bh (l aa s j H _ I h) λv n e=>?_;∎;let#[x,g,i,m,d]:=e;let#[c,rfl,d]:=d;∎;cases m;show not_of<|ĵ #[.bl (!c),g,i,rfl,d]
abbrev Ks(t:TT)(ta tb:TE):TE:=λj H Q=>t j H λc d=>if c=Â then ta j d Q else tb j d Q
def Ti(q:PT X c tA)(n:PE X a ta)(o:PE X b tb):PE X `ec (Ks tA ta tb):=by
 intro aa s j H Q I h;show wpAny_IfExp<|bh (q aa s j H _ I h) λd m e=>?_;let#[g,i,l]:=e;cases d with
 |true=>show n aa m j g Q i l
 |false=>show o aa m j g Q i l
end
abbrev bH(K:ar)(H:Hp)(a:ai)(xs:az):Prop:=
 Rd H a `bO\/
  ∃(o:Obj)(b:dk)(n:Nat),K.lookup a=À o/\o.cls=.type "list"/\o.dict=Ä/\o.data=.seq b n/\b.size<=Ô/\aL xs b.toList
abbrev dM(K:ar)(H:Hp)(a:ai)(xs:az):Prop:=
 Rd H a `aF\/
  ∃(o:Obj)(b:dk)(n:Nat),K.lookup a=À o/\o.cls=.type "tuple"/\o.data=.seq b n/\b.size<=Ô/\aL xs b.toList
abbrev Nc:au->Option V
 |.none=>À .aM
 |.bool b=>À<|.bl b
 |.int i _=>À<|.int i
 |.str x _=>À<|.str x
 |.bytes b _=>À<|.ic b
 |.float b _=>À<|.nB b
 |.ref a=>À<|.ref a
 |.type n=>À<|.ty n
 |_=>Ä
def aH.abs(r:aH x u):Nc u=À x:=by
 cases x with
 |aM=>cases r;rfl
 |bl _=>cases r;rfl
 |int _=>let#[t,rfl]:=r;rfl
 |str _=>let#[t,rfl]:=r;rfl
 |ic _=>let#[t,rfl]:=r;rfl
 |nB _=>let#[t,rfl]:=r;rfl
 |ref _=>cases r;rfl
 |ty _=>cases r;rfl
def aH.inj(r:aH x u)(q:aH y u):x=y:=Þ<|r.abs.symm.trans q.abs
def aL.inj:∀{xs ys:az}{us:aS},aL xs us->aL ys us->xs=ys:=by
 intro xs ys us h
 induction h generalizing ys with
 |nil=>intro g;cases g;rfl
 |cons r t a=>intro g;cases g with
  |cons b d=>rw[r.inj b,a d]
section
variable{X:Cx}{aa:aZ}{σ:St}{H:Hp}{s:ao}{a:ai}{xs ys:az}
def bH.of{K:ar}(h:H a=À `bO):bH K H a xs:=.inl<|.inl h
def dM.of{K:ar}(h:H a=À `aF):dM K H a xs:=.inl<|.inl h
def ax.list(I:ax X aa σ H s)(h:bH X.K H a xs):∃bw:aS,aL xs bw/\PlainL s.heap a bw.toArray/\↑xs<=Ô:=by
 rcases h with h |⟨o,bw,n,d,b,hd,g,i,r⟩
 .obtain⟨z,bw,n,r,e⟩:=h.ok I.aP;show#[bw,r,#[_,n,e,rfl,rfl,rfl],z]
 .show#[bw.toList,r,#[o,n,I.dc a o d,b,hd,by simpa using g],?_];have e:=↑r;simp only[ώ] at e;omega
def ax.tuple(I:ax X aa σ H s)(h:dM X.K H a xs):∃bw:aS,aL xs bw/\IsTup s.heap a bw.toArray/\↑xs<=Ô:=by
 rcases h with h |⟨o,bw,n,d,b,g,i,r⟩
 .obtain⟨z,bw,r,p⟩:=h.ok I.aP;show#[bw,r,p,z]
 .show#[bw.toList,r,#[o,I.dc a o d,b,n,by simpa using g],?_];have e:=↑r;simp only[ώ] at e;omega
def ax.dI(I:ax X aa σ H s)(h:bH X.K H a xs)(h':bH X.K H a ys):xs=ys:=by
 ∎;let#[g,r,#[o,n,e,_,_,d],_]:=I.list h;let#[b,l,#[q,m,j,_,_,i],_]:=I.list h';∎;rw[e] at j;cases j;rw[d] at i;injection i with d1 _
 have:g=b:=by simpa using au9 Array.toList d1
 subst this;show r.inj l
end
nonrec abbrev Cx.gD(X:Cx)(E:au->ao->Prop):Cx:={ X with xe:=E }
nonrec abbrev Cx.sC(X:Cx):Cx:=X.gD λ_ _=>False
def Cx.Ok.gD{X:Cx}(ok:X.Ok)(E:au->ao->Prop):(X.gD E).Ok:=
 #[ok.mod,ok.kind,ok.glob,ok.blt,ok.above,ok.inj,ok.has,ok.ow,ok.hd,ok.frames,ok.qI,ok.qp,ok.bs,ok.kG,ok.iM,ok.iG,ok.ea,ok.mG]
def Cx.Ok.dJ{X:Cx}{E:au->ao->Prop}(ok:(X.gD E).Ok):X.Ok:=
 #[ok.mod,ok.kind,ok.glob,ok.blt,ok.above,ok.inj,ok.has,ok.ow,ok.hd,ok.frames,ok.qI,ok.qp,ok.bs,ok.kG,ok.iM,ok.iG,ok.ea,ok.mG]
section
variable{X:Cx}{aa:aZ}{σ:St}{H:Hp}{s:ao}{E:au->ao->Prop}
def ax.gD(I:ax X aa σ H s)(E:au->ao->Prop):ax (X.gD E) aa σ H s:=#[I.ok.gD E,I.os,I.bare,I.base,I.loc,I.cell,I.free,I.cc,I.pin,I.aP,I.len]
def ax.dJ(I:ax (X.gD E) aa σ H s):ax X aa σ H s:=#[I.ok.dJ,I.os,I.bare,I.base,I.loc,I.cell,I.free,I.cc,I.pin,I.aP,I.len]
def SP.dJ(h:SP (X.gD E) aa D f s'):SP X aa D f s':=by
 cases f with
 |next=>let#[a,b,I,q]:=h;show#[a,b,I.dJ,q]
 |brk=>let#[a,b,I,q]:=h;show#[a,b,I.dJ,q]
 |cont=>let#[a,b,I,q]:=h;show#[a,b,I.dJ,q]
 |ret u=>let#[v,a,b,I,r,q]:=h;show#[v,a,b,I.dJ,r,q]
def fV.sC{st:List ù}{t:TS}(h:fV X.sC st t):fV X st t:=λaa s σ H D I a=>
 ă (h aa s σ H D (I.gD _) a) (λ_ _ q=>q.dJ) λ_ _ z=>ë z
end
section
variable{X:Cx}{st:ù}{rest:List ù}{t u:TS}{e:đ}{te:TE}{pos:Pos}
abbrev Er:TS:=λD j H=>D.nx j H
abbrev wz(t u:TS):TS:=λD j H=>t { D with nx:=u D } j H
def WY:fV X [] Er:=λ_ _ j H _ I h=>Γ #[j,H,I,h]
def Ac(d:PS X st t)(g:fV X rest u):fV X (st::rest) (wz t u):=by
 intro aa s j H D I h;show wpAny_execs_cons (bh (d aa s j H { D with nx:=u D } I h) λf l q=>?_);cases f with
 |next=>
  let#[i,a,b,q]:=q;show g aa l i a D b q
 |ret v=>show q
 |brk=>show q
 |cont=>show q
def uf(a:PS X st t):fV X [st] t:=by
 intro aa s j H D I h;show wpAny_execs_cons<|bh (a aa s j H D I h) λf b q=>?_;cases f with
 |next=>show Γ q
 |ret v=>show q
 |brk=>show q
 |cont=>show q
def ax.quiet(I:ax X aa j H s):interactive X.env=Å:=by simp[interactive,I.ok.kind]
abbrev tM(te:TE):TS:=λD j H=>te j H λ_ H1=>D.nx j H1
def wR(he:PE X e te)(hs:do Ĭ e Ä pos.line X.env=pure Å):PS X `cX (tM te):=by
 intro aa s j H D I h;show wpAny_Expr_any (bh `aC λv l a=>by let#[x,b,d,i,g]:=a;show#[j,b,d,g]) I.quiet hs
abbrev zj(te:TE):TS:=λD j H=>te j H D.rt
def Jj(he:PE X e te):PS X `bW (zj te):=by
 intro aa s j H D I h;show wpAny_Return_some (bh `aC λv l a=>by let#[x,b,d,i,g]:=a;show#[x,j,b,d,i,g])
abbrev zk(c:TT)(t u:TS):TS:=λD j H=>c j H λb a=>if b=Â then t D j a else u D j a
def Ki(r:PT X c tc)(o:fV X a t)(q:fV X b u):PS X (.If c a b pos) (zk tc t u):=by
 intro aa s j H D I h;show wpAny_If<|bh (r aa s j H _ I h) λd n g=>?_;let#[i,l,m]:=g;cases d with
 |true=>show o aa n j i D l m
 |false=>show q aa n j i D l m
abbrev MV:TS:=λ_ _ _=>False
def Tj:PS X st MV:=λ_ _ _ _ _ _ h=>h.elim
end
nonrec abbrev TG:=V->St->Hp->(St->Hp->Prop)->Prop
nonrec abbrev o8:=az->St->Hp->(St->Hp->Prop)->Prop
abbrev PG(X:Cx)(a:đ)(t:TG):Prop:=
 ∀(aa:aZ)(s:ao)(j:St)(H:Hp)(v:V)(u:au)(Q:St->Hp->Prop),ax X aa j H s->aH v u->t v j H Q->
  Ø `aa X.A (assign a X.env u) (λ_ e=>∃d b,ax X aa d b e/\Q d b) X.xe s
abbrev qP(X:Cx)(ts:bS)(t:o8):Prop:=
 ∀(aa:aZ)(s:ao)(j:St)(H:Hp)(vs:az)(us:aS)(Q:St->Hp->Prop),ax X aa j H s->aL vs us->t vs j H Q->
  Ø `aa X.A (ar8 ((ĥ ts X.env).map (·.2)) us) (λ_ d=>∃b a,ax X aa b a d/\Q b a) X.xe s
nonrec abbrev Fq:=V->V->V->Hp->(Hp->Prop)->Prop
abbrev Fs(X:Cx)(t:Fq):Prop:=
 ∀(aa:aZ)(s:ao)(j:St)(H:Hp)(o i v:V)(ov b u:au)(Q:Hp->Prop),ax X aa j H s->aH o ov->aH i b->aH v u->t o i v H Q->
  Ø `aa X.A (setItem ov b u) (λ_ d=>∃a,ax X aa j a d/\Q a) X.xe s
section
variable{X:Cx}{pos:Pos}
abbrev kA(i:Nat):TG:=λv j H Q=>Q (j.set i<|À v) H
def AF(b:X.N.Nodup)(e:X.N[i]?=À x)(g:Loc X.env.scope x)(d:kX X x:=by first |show .inl rfl |show .inr rfl |assumption):PG X `am (kA i):=by
 intro aa s j H v u Q I r h;show wpAny_assign_Name<|uo I b e g r (λl a=>#[_,H,a,h]) d
abbrev zm:o8:=λvs j H Q=>vs=[]/\Q j H
abbrev yT(t:TG)(u:o8):o8:=λvs j H Q=>∃v r,vs=v::r/\t v j H λb a=>u r b a Q
def HZ:qP X [] zm:=by
 intro aa s j H vs us Q I r h;let#[e,h]:=h;subst e;cases r;show assignInOrder_nil #[j,H,I,h]
def G7(i:PG X e t)(l:qP X es u)(hs:do (ĥ (e::es) X.env).map (·.2)=assign e X.env::(ĥ es X.env).map (·.2)):qP X (e::es) (yT t u):=by
 intro aa s j H vs us Q I r h;let#[v,w,g,h]:=h;subst g;cases r with
 |cons r o=>
  rw[hs];show ai2<|bh (i aa s j H _ _ _ I r h) λ_ q a=>?_;let#[m,b,d,n]:=a;show l aa q m b _ _ Q d o n
abbrev zo(K:ar)(n:Nat)(t:o8):TG:=λv j H Q=>∃a b,v=.ref a/\dM K H a b/\↑b=n/\t b j H Q
def Jk(w:X.calm=Â)(h:qP X es t)(hn:do (ĥ es X.env).length=n)(d:do (ĥ es X.env).findIdx? (·.1)=Ä):PG X (.Tuple es k pos) (zo X.K n t):=by
 intro aa s j H v u Q I r g;let#[a,C,m,y,x,g]:=g;subst m;cases r;let#[B,i,z,D]:=I.tuple y;show assign_Tuple_tuple (I.ok.hd w) z (by simp[hn,<- x,i.length]) d λq A=>?_
 have l:ax X aa j H { s with heap:=q }:=I.kept (t':=s.toks) λb o e=>A b o (ç<|Í e) e
 show h aa _ j H C _ Q l (by simpa using i) g
abbrev Ft(g e:TE)(t:Fq):TG:=λv j H Q=>g j H λo a=>e j a λi b=>t o i v b λd=>Q j d
def Ym(z:PE X o to)(w:PE X i ti)(hs:Fs X t)(q:∀v,assign `dE X.env v=(do
   let ov <- holding [v] (eval o X.env)
   let b <- holding [v,ov] (eval i X.env)
   ae3 pos
   holding [v,ov,b] (setItem ov b v)
   release [v,ov,b] []):=by intro _;rfl):PG X `dE (Ft to ti t):=by
 intro aa s j H v u Q I r h;rw[q];show Ê<|ϑ<|bh (z aa s j H _ I h) λov E a=>?_;let#[x,d,l,D,A]:=a;show Ê<|ϑ<|bh (w aa E j d _ l A) λb G a=>?_;let#[y,e,m,r2,B]:=a;show Ê<|Ť<|Ê<|ϑ<|bh (hs aa G j e x y v ov b u _ m D r2 r B) λ_ J a=>?_;let#[g,n,C]:=a;show wpAny_release #[j,g,n,C]
abbrev mW(b:TE)(g:TG):TS:=λD j H=>b j H λx a=>g x j a D.nx
def Jl(he:PE X e te)(l:PG X tg g)(hs:do ab3 [tg] e pos.line X.env=pure Å)(m:do ab2 [tg] e X.env=pure Ä)(i:do (ĥ [tg] X.env).map (·.2)=[assign tg X.env]):PS X (.Assign [tg] e pos) (mW te g):=by
 intro aa s j H D I h;show wpAny_Assign_stores (bh `aC λv r a=>?_) hs m;let#[x,b,d,o,n]:=a;rw[i];show bh (l aa r j b x v _ d o n) λ_ u q=>q
def uD(l:X.N.Nodup)(n:X.N[i]?=À x)(o:Loc X.env.scope x)(he:PE X e te)(hs:do Ĭ e (À<|.Name x pos') pos.line X.env=pure Å)(m:kX X x:=by first |show .inl rfl |show .inr rfl |assumption):
  PS X (.Assign [.Name x pos'] e pos) (mW te<|kA i):=by
 intro aa s j H D I h;show wpAny_Assign_Name (bh `aC λv u a=>?_) hs;let#[y,b,d,r,q]:=a;show uo d l n o r (λw g=>#[_,b,g,q]) m
abbrev EO(i j:Nat)(b:TA):TS:=λD G H=>b G H λvs a=>∃v w,vs=[v,w]/\D.nx ((G.set i<|À v).set j<|À w) a
def Yn{kt k2 pt2}(hc:X.calm=Â)(E:X.N.Nodup)(hi:X.N[i]?=À x)(hj:X.N[j]?=À y)(m:i≠j)(J:X.env.scope.names.lookup x=À .local)(M:X.env.scope.names.lookup y=À .local)(ha:PA X [a,b] ta)(hw:ab2 [.Tuple [.Name x px,.Name y py] kt pt] (.Tuple [a,b] k2 pt2) X.env=pure (À [x,y]))(hs:do ab3 [.Tuple [.Name x px,.Name y py] kt pt] (.Tuple [a,b] k2 pt2) pos.line X.env=pure Å):
  PS X (.Assign [.Tuple [.Name x px,.Name y py] kt pt] (.Tuple [a,b] k2 pt2) pos) (EO i j ta):=by
 intro aa s G H D I h;rw[exec_Assign_arm];show Ê<|Ť ?_;rw[hs];show Ê<|Û ?_;rw[au3 ∎];show Ê<|Tuple_<|bh (ha _ aa s G H _ I h) λus d z=>?_;∎;let#[vs,B,O,r1,r]:=z;let#[v,w,e1,r]:=r;∎;subst e1;obtain⟨g,l,rfl,rv,u⟩:∃g l,us=[g,l]/\aH v g/\aH w l:=by
  cases r1 with
  |cons p q=>
   cases q with
   |cons p' q'=>
    cases q';show#[_,_,rfl,p,p']
 show aj7 ?_ (by change 2<=Ô;decide);have Q:ax X aa G B { d with heap:=d.heap.push { cls:=.type "tuple",data:=.seq [g,l].toArray } }:=O.kept (t':=d.toks) λb o e=>Ã _ e
 rw[hw];show Ê<|Û ?_;change Ø `aa X.A (do rule "assign.swapped-stores";let items <- unpackItems (.ref ⇑d) 2 Ä;ar8 [λv=>ap5 X.env y v,λv=>ap5 X.env x v] items.reverse;pure Flow.next) _ _ _;show Ê<|wpAny_rule<|Ê<|unpackItems_tuple (items:=([g,l].toArray)) (I.ok.hd hc) (IsTup.new d.heap _) λh' n=>?_;have U:=Q.kept (h':=h') (t':=d.toks) λb o e=>n b o (ç<|Í e) e
 change Ø _ _ (ar8 [λv=>ap5 X.env y v,λv=>ap5 X.env x v] [l,g] >>= λ_=>pure Flow.next) _ _ _;show Ê<|ai2<|wpAny_bindName<|uo U E hj (.inl M) u (λs2 Y=>?_)<|.inr M;show ai2<|wpAny_bindName<|uo Y E hi (.inl J) rv (λs3 C=>assignInOrder_nil<|Û ?_)<|.inr J;rw[List.set_comm _ _<|ć m] at C;show#[_,B,C,r]
abbrev Ea(c:TT)(tb:TS):TS:=λD j H=>∃W:Nat->St->Hp->Prop,(∃m,W m j H)/\∀m j H,W m j H->
 c j H λb d=>if b=Â then ∃N:St->Hp->Prop,(∀e a,N e a->∃g,g<m/\W g e a)/\tb { D with nx:=N,ct:=N,bk:=D.nx } j d else D.nx j d
def Tn(hp:ac3 `aa X.A X.env X.xe)(J:PT X c tc)(G:fV X body tb):PS X (.While c body [] pos) (Ea tc tb):=by
 intro aa s j H D I h;let#[W,#[M,Y],turn]:=h;show wpAny_While<|codeAny_whileLoop (λn O=>∃C u,ax X aa C u O/\W n C u) ?_ M #[j,H,I,Y];intro n Q zy;let#[e,x,E,w1]:=zy;show ş hp<|bh (J aa Q e x _ E<|turn n e x w1) λb U r=>?_;let#[y,z,g]:=r;cases b with
 |true=>
  let#[N,B,g]:=g;rw[au4 rfl];show ş hp<|bh (G aa U e y _ z g) λf s3 i=>?_;cases f with
  |next=>
   ∎;let#[d,a,l,o]:=i;let#[m,hm,q]:=B d a o;∎;show#[m,hm,d,a,l,q]
  |cont=>
   ∎;let#[d,a,l,o]:=i;let#[m,hm,q]:=B d a o;∎;show#[m,hm,d,a,l,q]
  |brk=>show i
  |ret v=>show i
 |false=>
  rw[au3 à];show Γ #[e,y,z,g]
end
structure It where
 go:Nat->Hp->Prop
 nL:Nat->Hp->V->Hp->Prop
 stop:Nat->Hp->Prop
abbrev iz(X:Cx)(aa:aZ)(H:Hp)(b:ai):Prop:=
 H b=Ä/\b≠X.env.locals/\b ∉ X.fs/\(b∈X.ex\/⇑X.s₀<=b)/\(∀x c,X.env.cells.lookup x=À c->c≠b)/\∀p∈X.pn++aa,p.1≠b
def ax.fJ{H d:Hp}(I:ax X aa j H s)(a:⇑s<=b)(hn:d b=Ä):iz X aa d b:=by
 show#[hn,Ū<|Õ I.lt a,I.BR a,.inr<|Ï I.sz a,λx c e z=>?_,λp g z=>?_]
 .obtain⟨v,q⟩:=I.cell x c e;show au5 (Õ q.lt (by rw[z];show a))<|Ĵ _
 .show au5 (Õ (Í (I.pin p g).1) (by rw[z];show a)) (Ĵ _)
structure k7(P:é)(w:ü)(K:ar)(tg:đ)(J:It)(fp:cU)(it:ai)(tn:Nat->aU->Prop):Prop where
 mem:it∈fp
 obj:∀i h,tn i h->∀b∈fp,∃o,h.get? b=À o/\∀v,o.data≠.cell v
 keep:∀i h h',tn i h->(∀b∈fp,∀o,h.get? b=À o->h'.get? b=À o)->tn i h'
 item:∀(X:Cx),X.prog=P->X.w=w->X.K=K->X.calm=Â->∀(i:Nat)(aa:aZ)(s:ao)(j:St)(H:Hp)(E:au->ao->Prop),ax X aa j H s->(∀b∈fp,iz X aa H b)->tn i s.heap->J.go i H->
  Ø `bP X.A (pyNext<|.ref it) (λr s1=>∃u,r=À u/\
   Ø `bP X.A (ae8 tg `cA u) (λ_ s2=>∃x H',ax X aa j H' s2/\aH x u/\J.nL i H x H'/\tn (i+1) s2.heap/\∀b∈fp,H' b=Ä) E s1) E s
 done:∀(X:Cx),X.prog=P->X.w=w->X.K=K->X.calm=Â->∀(i:Nat)(aa:aZ)(s:ao)(j:St)(H:Hp)(E:au->ao->Prop),ax X aa j H s->(∀b∈fp,iz X aa H b)->tn i s.heap->J.stop i H->
  Ø `bP X.A (pyNext<|.ref it) (λr s1=>r=Ä/\ax X aa j H s1) E s
 self:∀(A:Ĉ)(i:Nat)(s:ao)(Q:au->ao->Prop)(E:au->ao->Prop),tn i s.heap->Q `cA s->Ø `bP A (pyIter<|.ref it) Q E s
nonrec abbrev TI:=St->Hp->(It->Hp->Prop)->Prop
abbrev CQ(X:Cx)(aa:aZ)(j:St)(i:đ)(R:It->Hp->Prop)(d:au)(g:ao):Prop:=
 ∃(it:ai)(e:cU)(h:Nat->aU->Prop)(J:It)(a:Hp),d=.ref it/\ax X aa j a g/\k7 X.prog X.w X.K i J e it h/\h 0 g.heap/\(∀b∈e,iz X aa a b)/\R J a
abbrev PI(X:Cx)(d a:đ)(e:TI):Prop:=
 ∀(aa:aZ)(s:ao)(j:St)(H:Hp)(R:It->Hp->Prop),ax X aa j H s->e j H R->
  Ø `aa X.A (eval a X.env) (λv b=>Ø `aa X.A (pyIter v) (CQ X aa j d R) X.xe b) X.xe s
def uJ{Q:Unit->ao->Prop}(d:s.heap.get? it=À o)(b:o.cls=.type n)(hd:o.data=.fields vs)(hn:["enumerate","zip","dict_itemiterator","dict_reverseitemiterator","odict_iterator","itertools.zip_longest","itertools.pairwise"].contains n=Å)(a:Q () s):Ø M A (ae8 tg `cA u) Q E s:=by
 unfold ae8;cases tg<;>first
  |show Û a
  |(cases u<;>first
    |show Û a
    | (show Ê (wpAny_load d ?_)
       rw[b,hd];change Ø M A (if (["enumerate","zip","dict_itemiterator","dict_reverseitemiterator","odict_iterator","itertools.zip_longest","itertools.pairwise"].contains n&&vs[0]? == À (ϧ _))=Â then _ else _) Q E s;rw[au3 (by intro h;rw[hn,ad0] at h;cases h)];show Û a))
abbrev vi(K:ar)(a:ai):It:=
 #[λi H=>∃b x,bH K H a b/\b[i]?=À x,λi H x d=>d=H/\∀b,bH K H a b->b[i]?=À x,λi H=>∃b,bH K H a b/\↑b<=i]
abbrev o3(lo:Int)(n:Nat):It:=#[λi _=>i<n,λi H x a=>a=H/\x=.int (lo+i),λi _=>n<=i]
def Q3{P:é}{w:ü}{K:ar}{tg:đ}(a it:ai):k7 P w K tg `ed [it] it (λi h=>h.IsListIter it a i) where
 mem:=by simp
 obj:=λi h st b g=>by
  have e:b=it:=by simpa using g
  subst e;let#[o,e,c,d]:=st;show#[o,e,λv z=>by rw[d] at z;cases z]
 keep:=λi h m st k=>st.at λo e=>k it ∅ o e
 item:=by
  intro X G M D U i aa s j H E I n st J;subst G M D;∎;let#[xs,x,q,N]:=J;let#[O,Q,p,hz]:=I.list q;let#[u,hu,ru]:=Q.get N;let#[r,y,f2,A,B,C]:=n it ∅;∎;show wpAny_pyNext_list_item st p.isList (x:=u) (by simpa using hu) λm l sb=>?_
  have Y:ax X aa j H { s with heap:=m }:=I.turned (t':=s.toks) (λb o g e=>(sb.2 b g).trans e) r y A B C;let#[o,e,c,d]:=id l;show#[u,rfl,uJ (s:={ s with heap:=m }) e c d ∎ #[x,H,Y,ru,#[rfl,λys hy=>by rw[I.dI hy q];show N],l,λb g=>(n b g).1]]
 done:=by
  intro X G M D U i aa s j H E I n st J;subst G M D;∎;let#[xs,q,N]:=J;let#[O,Q,p,hz]:=I.list q;let#[r,y,f2,A,B,C]:=n it ∅;∎;have hl:=↑Q;show wpAny_pyNext_list_end (I.ok.hd U) st p.isList (by simp;omega) λm eb=>#[rfl,I.turned (t':=s.toks) (λb o g e=>eb b o g e) r y A B C]
 self:=λ_ _ _ _ _ st h=>wpAny_pyIter_listiter st h
def Qz{P:é}{w:ü}{K:PySem.W.Frag}{Q:đ}(it:ai)(lo:Int)(n:Nat):k7 P w K Q (o3 lo n) [it] it (λi h=>al9 h it (lo+(i:Nat)*1) ((n:Int) - (i:Nat)) 1) where
 mem:=by simp
 obj:=λi h st b a=>by
  have e:b=it:=by simpa using a
  subst e;show#[_,st,λv z=>by
   have U:Data.fields _=Data.cell v:=z;cases U]
 keep:=λi h g st k=>k it ∅ _ st
 item:=by
  intro X A D y B i aa s j H E I l st C;subst A D y;let#[m,q,M,r,u,x]:=l it ∅;have W:=Walks.range (prog:=X.prog) (w:=X.w) `cB it lo 1 n;show W.item i s _ _ C st λv g G N d O=>?_
  let#[t,rfl]:=N;have J:ax X aa j H { s with heap:=g,toks:=G }:=I.turned (λb o a e=>O b o (by simpa using a) e) m q r u x;show#[_,rfl,uJ (s:={ s with heap:=g,toks:=G }) (n:="range_iterator") d rfl rfl ∎ #[.int<|lo+i,H,J,#[t,?_],#[rfl,rfl],d,λb a=>(l b a).1]];rw[Int.mul_one]
 done:=by
  intro X A D y B i aa s j H E I l st C;subst A D y;let#[m,q,M,r,u,x]:=l it ∅;show au2 `cB st (by have:n<=i:=C;omega) λg eb=>#[rfl,I.turned (t':=s.toks) (λb o a e=>eb b o a e) m q r u x]
 self:=λ_ _ _ _ _ st h=>au1 st h
section
variable{X:Cx}{tg:đ}
abbrev Es(K:ar)(tl:TE):TI:=λj H R=>tl j H λx b=>∃a,x=.ref a/\(∃d,bH K b a d)/\R `ed b
def WZ{l:đ}{tl:TE}(r:PE X l tl):PI X tg l (Es X.K tl):=by
 intro aa s j H R I h;show bh (r aa s j H _ I h) λv g i=>?_
 ∎;let#[x,m,d,z,y]:=i;let#[a,e,#[C,u],q]:=y;∎;subst e;cases z;let#[w,B,p,A]:=d.list u;show ŧ p.isList ?_;show#[⇑g,[⇑g],_,_,m,rfl,d.kept (t':=g.toks) λb o e=>Ã _ e,Q3 a _,#[_,Ó _ rfl,rfl,rfl],λb n=>?_,q];have e:b=⇑g:=by simpa using n
 subst e;show d.fJ (Ñ _)<|d.aP.fresh<|Ñ _
def G8{aa:aZ}{j:St}{H:Hp}{s:ao}{R:It->Hp->Prop}{E:au->ao->Prop}{lo a:Int}{t u v:Tok}{g:Nat}(I:ax X aa j H s)(i:-(2 ^ 62)<=lo)(l:lo<2 ^ 62)(m:-(2 ^ 62)<=a)(n:a<2 ^ 62)(q:R (o3 lo (a - lo).toNat) H):Ø `aa X.A (pyIter<|.ref ⇑s) (CQ X aa j tg R) E { s with heap:=s.heap.push { cls:=.type "range",data:=.fields ([.int lo t,.int a u,.int 1 v].toArray) },toks:=g }:=by
 show wpAny_pyIter_range (IsRange.new ..) (small_one i l m n) ?_;have d:ax X aa j H { s with heap:=s.heap.push { cls:=.type "range",data:=.fields ([.int lo t,.int a u,.int 1 v].toArray) },toks:=g }:=I.kept λb o e=>Ã _ e
 show#[(s.heap.push { cls:=.type "range",data:=.fields ([.int lo t,.int a u,.int 1 v].toArray) }).objs.size,[(s.heap.push { cls:=.type "range",data:=.fields ([.int lo t,.int a u,.int 1 v].toArray) }).objs.size],_,_,H,rfl,
  d.kept (t':=g) λb o e=>Ã _ e,Qz _ lo (a - lo).toNat,?_,λb r=>?_,q]
 .have e1:lo+((0:Nat):Int)*1=lo:=by simp
  have h:(((a - lo).toNat:Nat):Int) - ((0:Nat):Int)=ţ lo a 1:=by rw[ar9];split<;>omega
  change al9 _ _ (lo+((0:Nat):Int)*1) ((((a - lo).toNat:Nat):Int) - ((0:Nat):Int)) 1;rw[e1,h];show Ó _ rfl
 .have e:b=(s.heap.push { cls:=.type "range",data:=.fields ([.int lo t,.int a u,.int 1 v].toArray) }).objs.size:=by simpa using r
  subst e;show d.fJ (Ñ _)<|d.aP.fresh<|Ñ _
abbrev Et(b:TA):TI:=λi H R=>b i H λvs a=>∃j:Int,vs=[.int j]/\-(2 ^ 62)<=j/\j<2 ^ 62/\R (o3 0 j.toNat) a
abbrev Eu(b:TA):TI:=λG H R=>b G H λvs a=>∃i j:Int,vs=[.int i,.int j]/\(-(2 ^ 62)<=i/\i<2 ^ 62/\-(2 ^ 62)<=j/\j<2 ^ 62)/\R (o3 i (j - i).toNat) a
def Q4{a:đ}{g:TA}{p pos:Pos}(n:Gl X "range")(hm:X.mg "range"=Ä)(m:PA X [a] g)(hs:do l5 a X.env):PI X tg (.Call (.Name "range" p) [a] [] pos) (Et g):=by
 intro aa s i H R I h;show Call_<|kC I n hm boot_range<|ó (bh (m pos aa s i H _ I h) λus x d=>?_) hs rfl;∎;let#[vs,w,l,u,b]:=d;let#[j,e,b,o,q]:=b;∎;subst e;cases u with
 |cons r v=>
  cases v;let#[t,rfl]:=r;show call_range_1 (G8 l ⋯ ⋯ b o (by simpa using q))
def Q5(u:Gl X "range")(hm:X.mg "range"=Ä)(o:PA X [a,b] ta)(hs:do qT a b X.env)(d:do l5 b X.env):
  PI X tg (.Call (.Name "range" p) [a,b] [] pos) (Eu ta):=by
 intro aa s G H R I h;show Call_ (kC I u hm boot_range (ó (bh (o pos aa s G H _ I h) λus B m=>?_) (by rw[hs,d]) (by rw[d];rfl)));∎;let#[vs,A,n,z,g]:=m;let#[i,j,e,#[g,v,w,x],q]:=g;∎;subst e;cases z with
 |cons r l=>
  cases l with
  |cons y l=>
   cases l;let#[t,rfl]:=r;let#[C,rfl]:=y;show call_range_2<|G8 n g v w x q
abbrev zp(n:TI)(g:TG)(tb:TS):TS:=λD j H=>n j H λJ e=>∃W:Nat->Nat->St->Hp->Prop,(∃m,W 0 m j e)/\∀i m j H,W i m j H->
 (J.stop i H/\D.nx j H)\/(J.go i H/\∃N:St->Hp->Prop,(∀b a,N b a->∃d,d<m/\W (i+1) d b a)/\∀x a,J.nL i H x a->g x j a λl h=>tb { D with nx:=N,ct:=N,bk:=D.nx } l h)
abbrev tG(fp:cU)(h:aU):aZ:=fp.filterMap λb=>(h.get? b).map λo=>(b,o)
def wH(a:b∈fp)(e:h.get? b=À o):(b,o)∈tG fp h:=Į.mpr #[b,a,by rw[e];rfl]
def Q6(hp:p∈tG fp h):p.1∈fp/\h.get? p.1=À p.2:=by
 let#[b,d,e]:=Į.mp hp;cases q:h.get? b with
 |none=>rw[q] at e;cases e
 |some o=>
  rw[q] at e;have a:(b,o)=p:=Þ e;subst a;show#[d,q]
def ax.pinned(I:ax X aa j H s)(m:∀b∈fp,iz X aa H b)(n:∀b∈fp,∃o,s.heap.get? b=À o/\∀v,o.data≠.cell v):ax X (aa++tG fp s.heap) j H s:=
 I.fR λp q=>(É.mp q).elim (λz=>I.pin p<|þ _ z) λz=>by
  ∎;let#[g,e]:=Q6 z;let#[h,i,l,_]:=m p.1 g;let#[o,a,d]:=n p.1 g;∎;rw[e] at a;cases a;show#[e,h,i,l,d]
def ax.gc(I:ax X (aa++pl) j H s):ax X aa j H s:=I.fR λp a=>I.pin p<|þ _<|Ţ _ a
def Jm(hp:ac3 `aa X.A X.env X.xe)(hc:X.calm=Â)(hi:PI X tg iter wi)(hg:PG X tg g)(y:fV X body tb)(hs:∀x,Ě iter X.env x=pure x:=by intro _;rfl):PS X (.For tg iter body [] pos) (zp wi g tb):=by
 intro aa s j H D I h;show wpAny_For (bh `bY λv s1 h1=>bh h1 λε s2 h2=>?_) hs;let#[it,M,tn,J,H2,e,I2,T,δ,f2,W,#[m0,w0],turn]:=h2;subst e;have B:∀{C:Hp},(∀b∈M,C b=Ä)->∀b∈M,iz X aa C b:=λhn b y=>#[hn b y,(f2 b y).2]
 show codeAny_forLoop_any (λn s'=>∃i Q C,ax X aa Q C s'/\tn i s'.heap/\(∀b∈M,C b=Ä)/\W i n Q C) ?_ m0 #[0,j,H2,I2,δ,λb y=>(f2 b y).1,w0];intro n s3 zy;let#[i,U,H3,I3,α,O,w3]:=zy;rcases turn i n U H3 w3 with⟨stop,qn⟩ |⟨go,N,hN,step⟩
 .show ş hp (bh (T.done X rfl rfl rfl hc i aa s3 U H3 X.xe I3 (B O) α stop) λr s4 a=>?_);let#[hr,I4]:=a;subst hr;show Γ #[U,H3,I4,qn]
 .show ş hp (bh (T.item X rfl rfl rfl hc i aa s3 U H3 X.xe I3 (B O) α go) λr s4 a=>?_);let#[u,hr,h4]:=a;subst hr;show ş hp<|bh h4 λ_ s5 a=>?_;let#[x,H5,I5,r5,y5,G,γ]:=a;have β:=I5.pinned (B γ)<|T.obj _ _ G;show ş hp<|bh (hg _ s5 U H5 x u _ β r5<|step x H5 y5) λ_ s6 a=>?_;let#[j6,H6,I6,q6]:=a;show ş hp<|bh (y _ s6 j6 H6 _ I6 q6) λf s7 E=>?_;have again:∀{z:St}{l:Hp},ax X (aa++tG M s5.heap) z l s7->N z l->∃m,m<n/\∃i Q C,ax X aa Q C s7/\tn i s7.heap/\(∀b∈M,C b=Ä)/\W i m Q C:=λ{z l} q Y=>by
   let#[m',hm,w7]:=hN z l Y;show#[m',hm,i+1,z,l,q.gc,T.keep _ _ _ G λb y o e=>(q.pin (b,o)<|þ _<|þ _<|wH y e).1,λb y=>?_,w7];let#[o,e,d]:=T.obj _ _ G b y;show (q.pin (b,o)<|þ _<|þ _<|wH y e).2.1
  cases f with
  |next=>let#[z,l,q,Y]:=E;show again q Y
  |cont=>let#[z,l,q,Y]:=E;show again q Y
  |brk=>let#[z,l,q,E]:=E;show#[z,l,q.gc,E]
  |ret v=>let#[x7,z,l,q,r7,E]:=E;show#[x7,z,l,q.gc,r7,E]
end
nonrec abbrev R2:=V->V->Hp->VK->Prop
abbrev cw(X:Cx)(f:au->au->Sem ϐ)(r:R2):Prop:=
 ∀(aa:aZ)(s:ao)(j:St)(H:Hp)(x y:V)(v u:au)(Q:VK),ax X aa j H s->aH x v->aH y u->r x y H Q->
  Ø `aa X.A (f v u) `at X.xe s
abbrev yj(X:Cx)(f:au->Sem ϐ)(r:V->Hp->VK->Prop):Prop:=
 ∀(aa:aZ)(s:ao)(j:St)(H:Hp)(x:V)(v:au)(Q:VK),ax X aa j H s->aH x v->r x H Q->
  Ø `aa X.A (f v) `at X.xe s
abbrev bQ(X:Cx)(f:au)(r:az->Hp->VK->Prop):Prop:=
 ∀(aa:aZ)(s:ao)(j:St)(H:Hp)(a:az)(us:aS)(Q:VK),ax X aa j H s->aL a us->r a H Q->
  Ø `aa X.A (call f us) `at X.xe s
abbrev Nd(X:Cx)(r:V->Hp->(Bool->Hp->Prop)->Prop):Prop:=
 ∀(aa:aZ)(s:ao)(j:St)(H:Hp)(x:V)(v:au)(Q:Bool->Hp->Prop),ax X aa j H s->aH x v->r x H Q->
  Ø `aa X.A `cj `cV X.xe s
abbrev qJ(r:R2)(d tb:TE):TE:=λj H Q=>d j H λx a=>tb j a λy b=>r x y b Q
abbrev Kw(r:V->Hp->VK->Prop)(b:TE):TE:=λj H Q=>b j H λx a=>r x a Q
abbrev rI(C:Int->Int->Prop)(g:Int->Int->V):R2:=λx y H Q=>∃i j,x=.int i/\y=.int j/\C i j/\Q `cC H
abbrev jt(g:Int->Int->V):R2:=λx y H Q=>∃i j,x=.int i/\y=.int j/\Q `cC H
abbrev rU(g:Int->V):V->Hp->VK->Prop:=λx H Q=>∃i,x=.int i/\Q (g i) H
section
variable{X:Cx}{a b c:đ}{ta tb tc:TE}{pos:Pos}
def Co(q:PE X a ta)(r:PE X b tb){R:V->V->Hp->Prop}(I:ax X aa j H s)(h:ta j H λx m=>tb j m λy e=>R x y e){f:au->au->Sem ϐ}(z:∀v u l x y e,ax X aa j e l->aH x v->aH y u->R x y e->Ø `aa X.A (f v u) Q X.xe l):
  Ø `aa X.A (eval a X.env) (λv g=>Ø `aa X.A (eval b X.env) (λu i=>Ø `aa X.A (f v u) Q X.xe i) X.xe g) X.xe s:=by
 show bh (q aa s j H _ I h) λv E d=>?_
 let#[x,m,n,D,B]:=d;show bh (r aa E j m _ n B) λu l d=>?_
 let#[y,e,o,r2,C]:=d;show z v u l x y e o D r2 C
def LS(l:cw X (Ş op) r)(g:PE X a ta)(i:PE X b tb):PE X `dK `cr:=by
 intro aa s j H Q I h;show wpAny_BinOp<|Co g i I h λv u o x y d e m n q=>l aa o j d x y v u Q e m n q
def LU(l:yj X (unaryOp op) r)(i:PE X a ta):PE X (.UnaryOp op a pos) (Kw r ta):=by
 intro aa s j H Q I h;show UnaryOp_ (bh (i aa s j H _ I h) λv o d=>by let#[x,e,g,n,m]:=d;show l aa o j e x v Q g n m)
def xU{f:au->au->Sem ϐ}{C:Int->Int->Prop}{g:Int->Int->Int}(rule:∀(i j:Int)(t u:Tok)(s:ao)(Q:au->ao->Prop)(E:au->ao->Prop),C i j->Q (.int `cC s.toks) { s with toks:=s.toks+1 }->Ø `aa X.A (f `bL<|.int j u) Q E s):
  cw X f (rI C λi j=>.int<|g i j):=by
 intro aa s G H x y v u Q I e l h;∎;let#[i,j,rfl,rfl,d,q]:=h;let#[t,rfl]:=e;let#[m,rfl]:=l;∎;show rule i j t m s _ _ d #[.int<|g i j,H,I.tok _,#[_,rfl],q]
def KS{f:au->au->Sem ϐ}{g:Int->Int->Int}(rule:∀(i j:Int)(t u:Tok)(s:ao)(Q:au->ao->Prop)(E:au->ao->Prop),Q (.int `cC s.toks) { s with toks:=s.toks+1 }->Ø `aa X.A (f `bL<|.int j u) Q E s):
  cw X f (jt λi j=>.int<|g i j):=by
 intro aa s G H x y v u Q I d e h;∎;let#[i,j,rfl,rfl,q]:=h;let#[t,rfl]:=d;let#[l,rfl]:=e;∎;show rule i j t l s _ _ #[.int<|g i j,H,I.tok _,#[_,rfl],q]
def xR{f:au->au->Sem ϐ}{g:Int->Int->Bool}(rule:∀(i j:Int)(t u:Tok)(s:ao)(Q:au->ao->Prop)(E:au->ao->Prop),Q (.bool<|g i j) s->Ø `aa X.A (f `bL<|.int j u) Q E s):
  cw X f (jt λi j=>.bl<|g i j):=by
 intro aa s G H x y v u Q I d e h;∎;let#[i,j,rfl,rfl,q]:=h;let#[t,rfl]:=d;let#[l,rfl]:=e;∎;show rule i j t l s _ _ #[.bl<|g i j,H,I,rfl,q]
abbrev wA(i j:Int):Prop:=0<=j/\j<=1000000/\i.natAbs<2 ^ 64
abbrev mK(i j:Int):Prop:=(-(2 ^ 64)<i/\i<2 ^ 64)\/(-(2 ^ 64)<j/\j<2 ^ 64)
def mK.ok(h:mK i j):IntMulOk i j:=by
 rcases h with⟨d,e⟩ |⟨d,e⟩
 .show .of_left (intBits_le_64 d e)
 .show .of_right (intBits_le_64 d e)
def MW:cw X `do (jt λi j=>.int<|i+j):=KS λ_ _ _ _ _ _ _ q=>add_int q
def Yo:cw X (Ş .Sub) (jt λi j=>.int<|i - j):=KS λ_ _ _ _ _ _ _ q=>sub_int q
def Yp:cw X (Ş .Mod) (rI (λ_ j=>0<j) λi j=>.int<|i % j):=xU λi j _ _ _ _ _ d q=>by
 have e:(0:Int)<j:=d;show mod_int' ⋯ (by rw[Int.fmod_eq_emod_of_nonneg i ⋯];show q)
def Yq:cw X (Ş .Pow) (rI wA λi j=>.int<|i ^ j.toNat):=xU λ_ _ _ _ _ _ _ d q=>pow_int_small d.1 d.2.1 d.2.2 q
def Wj{f:au->Sem ϐ}{g:Int->Int}(rule:∀(i:Int)(t:Tok)(s:ao)(Q:au->ao->Prop)(E:au->ao->Prop),Q (.int (g i) s.toks) { s with toks:=s.toks+1 }->Ø `aa X.A (f<|.int i t) Q E s):
  yj X f (rU λi=>.int<|g i):=by
 intro aa s j H x v Q I d h;∎;let#[i,rfl,q]:=h;let#[t,rfl]:=d;∎;show rule i t s _ _ #[.int<|g i,H,I.tok _,#[_,rfl],q]
def Yr:yj X (unaryOp .USub) (rU λi=>.int (-i)):=Wj λ_ _ _ _ _ q=>neg_int q
end
abbrev zq:V->V->Bool
 |.aM,.aM=>Â |.aM,.int _=>Â |.int _,.aM=>Â |.aM,.bl _=>Â |.bl _,.aM=>Â |.aM,.str _=>Â |.str _,.aM=>Â
 |.int _,.int _=>Â |.bl _,.bl _=>Â |.str _,.str _=>Â |.ic _,.ic _=>Â
 |.int _,.str _=>Â |.str _,.int _=>Â |.bl _,.str _=>Â |.str _,.bl _=>Â
 |_,_=>Å
abbrev Cp:R2:=λx y H Q=>zq x y=Â/\Q (.bl<|decide<|x=y) H
abbrev u9:R2:=λx y H Q=>zq x y=Â/\Q (.bl (!decide (x=y))) H
def H0:decide (V.int i=V.int j)=(i == j):=by
 rw[Ŕ];simp
def Jn:decide (V.bl i=V.bl j)=(i == j):=by
 rw[Ŕ];simp
def H9:decide (V.str i=V.str j)=(i == j):=by
 rw[Ŕ];simp
def Ia:decide (V.ic i=V.ic j)=(i.toList == j.toList):=by
 rw[Ŕ];cases i;cases j;simp
section
variable{X:Cx}{a b c:đ}{ta tb tc:TE}{pos:Pos}
def dg{Q:VK}(I:ax X aa j H s)(q:Q (.bl k) H)(e:k=k'):EP X aa j Q (.bool k') s:=by
 subst e;show#[.bl k,H,I,rfl,q]
def M5:cw X (í .Eq) Cp:=by
 intro aa s G H x y v u Q I l d h;let#[g,q]:=h;cases x with
 |aM=>
  cases l;cases y with
  |aM=>cases d;show PySem.EqNone.eq_none_none (dg I q<|by simp)
  |bl j=>cases d;show PySem.EqNone.eq_none_bool (dg I q<|by simp)
  |int j=>let#[e,rfl]:=d;show PySem.EqNone.eq_none_int (dg I q<|by simp)
  |str j=>let#[e,rfl]:=d;show PySem.EqNone.eq_none_str (dg I q<|by simp)
  |_=>show au5 (show Å=Â from g) à
 |bl i=>
  cases l;cases y with
  |aM=>cases d;show PySem.EqNone.eq_bool_none (dg I q<|by simp)
  |bl j=>cases d;show eq_bool<|dg I q Jn
  |str j=>let#[e,rfl]:=d;show PySem.EqMixed.eq_bool_str (dg I q<|by simp)
  |_=>show au5 (show Å=Â from g) à
 |int i=>
  let#[t,rfl]:=l;cases y with
  |aM=>cases d;show PySem.EqNone.eq_int_none (dg I q<|by simp)
  |int j=>let#[e,rfl]:=d;show eq_int<|dg I q H0
  |str j=>let#[e,rfl]:=d;show PySem.EqMixed.eq_int_str (dg I q<|by simp)
  |_=>show au5 (show Å=Â from g) à
 |str i=>
  let#[t,rfl]:=l;cases y with
  |aM=>cases d;show PySem.EqNone.eq_str_none (dg I q<|by simp)
  |bl j=>cases d;show PySem.EqMixed.eq_str_bool (dg I q<|by simp)
  |int j=>let#[e,rfl]:=d;show PySem.EqMixed.eq_str_int (dg I q<|by simp)
  |str j=>let#[e,rfl]:=d;show eq_str<|dg I q H9
  |_=>show au5 (show Å=Â from g) à
 |ic i=>
  let#[t,rfl]:=l;cases y with
  |ic j=>let#[e,rfl]:=d;show W.eq_bytes<|dg I q Ia
  |_=>show au5 (show Å=Â from g) à
 |_=>cases y <;> show au5 (show Å=Â from g) à
def Eg:cw X `dL u9:=by
 intro aa s G H x y v u Q I l d h;let#[g,q]:=h;cases x with
 |aM=>
  cases l;cases y with
  |aM=>cases d;show PySem.EqNone.ne_none_none (dg I q<|by simp)
  |bl j=>cases d;show PySem.EqNone.ne_none_bool (dg I q<|by simp)
  |int j=>let#[e,rfl]:=d;show PySem.EqNone.ne_none_int (dg I q<|by simp)
  |str j=>let#[e,rfl]:=d;show PySem.EqNone.ne_none_str (dg I q<|by simp)
  |_=>show au5 (show Å=Â from g) à
 |bl i=>
  cases l;cases y with
  |aM=>cases d;show PySem.EqNone.ne_bool_none (dg I q<|by simp)
  |bl j=>cases d;show ne_bool<|dg I q<|au9 not Jn
  |str j=>let#[e,rfl]:=d;show PySem.EqMixed.ne_bool_str (dg I q<|by simp)
  |_=>show au5 (show Å=Â from g) à
 |int i=>
  let#[t,rfl]:=l;cases y with
  |aM=>cases d;show PySem.EqNone.ne_int_none (dg I q<|by simp)
  |int j=>let#[e,rfl]:=d;show ne_int<|dg I q<|au9 not H0
  |str j=>let#[e,rfl]:=d;show PySem.EqMixed.ne_int_str (dg I q<|by simp)
  |_=>show au5 (show Å=Â from g) à
 |str i=>
  let#[t,rfl]:=l;cases y with
  |aM=>cases d;show PySem.EqNone.ne_str_none (dg I q<|by simp)
  |bl j=>cases d;show PySem.EqMixed.ne_str_bool (dg I q<|by simp)
  |int j=>let#[e,rfl]:=d;show PySem.EqMixed.ne_str_int (dg I q<|by simp)
  |str j=>let#[e,rfl]:=d;show ne_str<|dg I q<|au9 not H9
  |_=>show au5 (show Å=Â from g) à
 |ic i=>
  let#[t,rfl]:=l;cases y with
  |ic j=>let#[e,rfl]:=d;show W.ne_bytes<|dg I q<|au9 not Ia
  |_=>show au5 (show Å=Â from g) à
 |_=>cases y <;> show au5 (show Å=Â from g) à
def M6:cw X (í .Lt) (jt λi j=>.bl<|decide<|i<j):=xR λ_ _ _ _ _ _ _ q=>lt_int q
def LV:cw X (í .LtE) (jt λi j=>.bl<|decide<|i<=j):=xR λ_ _ _ _ _ _ _ q=>le_int q
def M7:cw X (í .Gt) (jt λi j=>.bl<|decide<|j<i):=xR λ_ _ _ _ _ _ _ q=>gt_int q
def BI:cw X (í .GtE) (jt λi j=>.bl<|decide<|j<=i):=xR λ_ _ _ _ _ _ _ q=>ge_int q
def Q7:cw X (í .Lt) (λx y H Q=>∃i j,x=.str i/\y=.str j/\Q (.bl<|decide<|i.cps.toList<j.cps.toList) H):=by
 intro aa s G H x y v u Q I d e h;∎;let#[i,j,rfl,rfl,q]:=h;let#[t,rfl]:=d;let#[g,rfl]:=e;∎;show lt_str<|dg I q rfl
def Ys:cw X (í .Is) (λx y H Q=>y=.aM/\Q (.bl<|decide<|x=.aM) H):=by
 intro aa s j H x y v u Q I d e h;let#[rfl,q]:=h;cases e;show is_none_gen<|dg I q ?_;cases x<;>first
  |(cases d;rfl)
  |(let⟨t,rfl⟩:=d;rfl)
def W3:cw X (í .IsNot) (λx y H Q=>y=.aM/\Q (.bl (!decide (x=.aM))) H):=by
 intro aa s j H x y v u Q I d e h;let#[rfl,q]:=h;cases e;show isnot_none_gen<|dg I q ?_;cases x<;>first
  |(cases d;rfl)
  |(let⟨t,rfl⟩:=d;rfl)
def cw.or{r d:R2}(h:cw X f r)(h':cw X f d):cw X f (λx y H Q=>r x y H Q\/d x y H Q):=by
 intro aa s j H x y v u Q I e g q;rcases q with q |q
 .show h aa s j H x y v u Q I e g q
 .show h' aa s j H x y v u Q I e g q
def Yt(b:đ)(h: ~~~(op≠.In))(g: ~~~(op≠.NotIn)):ϳ op b=Å:=by
 have d:(op == CmpOp.In)=Å:=by cases op<;>first |rfl |show au5 rfl h
 have e:(op == CmpOp.NotIn)=Å:=by cases op<;>first |rfl |show au5 rfl g
 cases b<;>simp[ϳ,d,e]
def W4(l:cw X `cY r)(g:PE X a ta)(i:PE X b tb)(hm:ϳ op b=Å):PE X (.Compare a [op] [b] pos) `cr:=by
 intro aa s j H Q I h;show wpAny_Compare1 (Co g i I h λv u o x y d e m n q=>l aa o j d x y v u Q e m n q) hm
abbrev tN(t:TE):TT:=λj H Q=>t j H λx H'=>∃k,x=.bl k/\Q k H'
def Ib(i:cw X `cY r)(d:PE X a ta)(g:PE X b tb)(hm:ϳ op b=Å):PT X (.Compare a [op] [b] pos) (tN<|qJ r ta tb):=by
 intro aa s j H Q I h;show wpAny_isTrue_Compare1 (bh (d aa s j H _ I h) λv l ⟨x,H1,I1,r1,q1⟩=>bh (g aa l j H1 _ I1 q1) λu m ⟨y,H2,I2,r2,q2⟩=>
  bh (i aa m j H2 x y v u _ I2 r1 r2 q2) λc n ⟨z,H3,I3,r3,k,e,q3⟩=>?_) hm
 subst e;cases r3;show ĵ #[H3,I3,q3]
abbrev DV(r i:R2)(ta tb tc:TE):TE:=λj H Q=>ta j H λx e=>tb j e λy g=>r x y g λz d=>∃k,z=.bl k/\
 (if k=Â then tc j d λl h=>i y l h Q else Q `bw d)
def To(E:cw X `cY r)(g:cw X (í op') r')(B:PE X a ta)(C:PE X b tb)(D:PE X c tc)(hm:lastMarks [op,op'] [b,c]=Å:=by with_unfolding_all rfl):PT X (.Compare a [op,op'] [b,c] pos) (tN<|DV r r' ta tb tc):=by
 intro aa s j H Q I h;show isTrue_chain (bh (B aa s j H _ I h) λv N ⟨x,H1,I1,r1,q1⟩=>test_link (bh (C aa N j H1 _ I1 q1) λu O ⟨y,H2,I2,r2,q2⟩=>
  bh (E aa O j H2 x y v u _ I2 r1 r2 q2) λd U ⟨z,H3,I3,r3,k,e,q3⟩=>?_)) hm
 subst e;cases r3;show ĵ ?_;cases k with
 |false=>
  let#[k',w,G]:=q3;cases w;show ite_ff #[H3,I3,G]
 |true=>
  show ite_tt<|test_last<|bh (D aa U j H3 _ I3 q3) λw' Y i=>?_;let#[z',m,o,r4,J]:=i;show bh (g aa Y j m y z' u w' _ o r2 r4 J) λd' s5 l=>?_
  let#[z2,n,q,r5,k2,A,M]:=l;subst A;cases r5;show ĵ #[n,q,M]
abbrev zb(K:ar)(x:V)(H:Hp)(k:Bool):Prop:=
 match x with
 |.aM=>k=Å
 |.bl b=>k=b
 |.int i=>k=(i != 0)
 |.str y=>↑y <= Ô /\ k=((↑y:Int) != 0)
 |.ic y=>y.size <= Ô /\ k=((y.size:Int) != 0)
 |.ref p=>(∃e,bH K H p e /\ k = !e.isEmpty) \/ (∃e,dM K H p e /\ k = !e.isEmpty) \/ ∃d,H p=À `cZ /\ k = !d.isEmpty
 |_=>False
def QC(r:KV kvs vs):(!vs.isEmpty)=!kvs.isEmpty:=by
 cases r<;>rfl
def Gb(r:aL xs bw):(!bw.toArray.isEmpty)=!xs.isEmpty:=by
 cases r<;>simp
def rM:(Ô:Nat)<2 ^ 63:=by rw[ĳ];decide
def Yu:Nd X (λx H Q=>∃k,zb X.K x H k/\Q k H):=by
 intro aa s j H x v Q I o h;let#[k,e,q]:=h;have E:=rM;have G:Ô=16777216:=ĳ;cases x with
 |aM=>
  cases o;have d:k=Å:=e;subst d;show truthy_none #[H,I,q]
 |bl b=>
  cases o;have d:k=b:=e;subst d;show ĵ #[H,I,q]
 |int i=>
  let#[t,rfl]:=o;have d:k=(i != 0):=e;subst d;show PySem.P.truthy_int #[H,I,q]
 |str y=>
  let#[t,rfl]:=o;obtain⟨D,d⟩:↑y<=Ô/\k=((↑y:Int) != 0):=e;subst d;show PySem.P.truthy_str ⋯ #[H,I.tok _,q]
 |ic y=>
  let#[t,rfl]:=o;obtain⟨D,d⟩:y.size<=Ô/\k=((y.size:Int) != 0):=e;subst d;show W.truthy_bytes ⋯ #[H,I.tok _,q]
 |ref p=>
  cases o;have d:(∃n,bH X.K H p n/\k=!n.isEmpty)\/(∃n,dM X.K H p n/\k=!n.isEmpty)\/∃g,H p=À (.dK g)/\k=!g.isEmpty:=e;rcases d with⟨n,u,d⟩ |⟨n,u,d⟩ |⟨g,u,d⟩
  .subst d;let#[z,r,A,B]:=I.list u;have l:=↑r;show wpAny_truthy_list A.isList (by simp only[â];omega) #[H,I.tok _,by rw[Gb r];show q]
  .subst d;let#[z,r,A,B]:=I.tuple u;have l:=↑r;show truthy_tuple A (by simp only[â];omega) #[H,I.tok _,by rw[Gb r];show q]
  .subst d;obtain⟨B,C,vs,r,m⟩:↑g<=Ô/\(p == ś)=Å/\∃vs,KV g vs/\s.heap.DictOf `aL p vs:=I.aP p _ u;have l:↑g=↑vs:=Paired.length r;show wpAny_truthy_dict C m ⋯ #[H,I.tok _,by rw[QC r];show q]
 |_=>show (show False from e).elim
def Tp(l:PE X a ta)(he:∀whole,ak8 a X.env whole=(do let v <- whole;ae3 a.pos;holding [v] `cj)):
  PT X a (λj H Q=>ta j H λx e=>∃k,zb X.K x e k/\Q k e):=by
 intro aa s j H Q I h;show isTrue_plain (bh (l aa s j H _ I h) λv o d=>by let#[x,g,i,n,m]:=d;show Yu aa o j g x v Q i n m)<|he _
def MP:cw X `do (λx y H Q=>∃i j,x=.str i/\y=.str j/\↑i+↑j<=Ô/\Q (.str<|i++j) H):=by
 intro aa s G H x y v u Q I e g h;∎;let#[i,j,rfl,rfl,d,q]:=h;let#[t,rfl]:=e;let#[l,rfl]:=g;∎;show add_str (λl m=>#[.str<|i++j,H,I.tok _,#[_,rfl],q]) d
def kg(r:aL [x] us):∃u,us=[u]/\aH x u:=by
 cases r with
 |cons d r2=>cases r2;show#[_,rfl,d]
def Kj(r:aL [x,y] us):∃u d,us=[u,d]/\aH x u/\aH y d:=by
 cases r with
 |cons e r2=>
  cases r2 with
  |cons r3 r4=>cases r4;show#[_,_,rfl,e,r3]
def Ad:bQ X (.builtin "abs") (λxs H Q=>∃i,xs=[.int i]/\Q (.int (if i<0 then -i else i)) H):=by
 intro aa s j H xs us Q I r h;∎;let#[i,rfl,q]:=h;let#[u,rfl,t,rfl]:=kg r;∎;show call_abs_int λu d=>#[.int (if i<0 then -i else i),H,I.tok _,#[_,rfl],q]
abbrev ER(K:ar)(x:V)(H:Hp)(n:Nat):Prop:=
 match x with
 |.str y=>↑y <= Ô /\ n=↑y
 |.ic y=>y.size <= Ô /\ n=y.size
 |.ref p=>(∃d,bH K H p d /\ n=↑d) \/ ∃d,dM K H p d /\ n=↑d
 |_=>False
def MR:bQ X (.builtin "len") (λxs H Q=>∃x n,xs=[x]/\ER X.K x H n/\Q `aU H):=by
 intro aa s j H xs us Q I r h;∎;let#[x,n,rfl,e,q]:=h;let#[u,rfl,v]:=kg r;∎;have A:=rM;have B:Ô=16777216:=ĳ;cases x with
 |str y=>
  let#[t,rfl]:=v;obtain⟨w,g⟩:↑y<=Ô/\n=↑y:=e;subst g;show len_str ⋯ #[.int _,H,I.tok _,#[_,rfl],q]
 |ic y=>
  let#[t,rfl]:=v;obtain⟨w,g⟩:y.size<=Ô/\n=y.size:=e;subst g;show W.len_bytes ⋯ #[.int _,H,I.tok _,#[_,rfl],q]
 |ref p=>
  cases v;have g:(∃xs,bH X.K H p xs/\n=↑xs)\/∃xs,dM X.K H p xs/\n=↑xs:=e;rcases g with⟨xs,i,g⟩ |⟨xs,i,g⟩
  .subst g;let#[l,o,m,z]:=I.list i;have d:=↑o;show Calls.call_len_list m.isList (by simp only[â];omega) #[.int ↑xs,H,I.tok _,#[_,by simp only[â];rw[d]],q]
  .subst g;let#[l,o,m,z]:=I.tuple i;have d:=↑o;show len_tuple m (by simp only[â];omega) #[.int ↑xs,H,I.tok _,#[_,by simp only[â];rw[d]],q]
 |_=>show (show False from e).elim
end
structure ip(h:aU)(x dx C:ai)(mA:bx):Prop where
 obj:h.get? x=À (Η C dx)
 ns:h.Ns1 dx mA
 ne:dx≠x
def Q8{h:aU}{g:ai}{i:bx}(n:h.Ns1 g i):∃od,h.get? g=À od/\∀b,W.lookIn b od=À (i b):=by
 let#[o,es,u,m,hd,l,_,hm]:=n;show#[o,m,λb=>?_];have e:=hm b;unfold nsFind findBy at e;rw[<- aq5] at e;unfold W.lookIn;rw[hd];dsimp only;split
 .rename_i y q;rw[q] at e;show au9 À e
 .rename_i q;rw[q] at e;have a:es.toList.any (·.refKey)=Å:=by
   rw[at3];intro y r;let#[z,t,d]:=l y<|Array.mem_toList_iff.mp r;simp[DictEntry.refKey,d]
  have j:¬ es.toList.any (·.refKey)=Â:=by rw[a];show à
  rw[au3 j];show au9 À e
def ip.look{b:bx}(I:ip h x dx C b):∃od,W.InstAt h x (Η C dx) C (À od)/\∀a,W.lookIn a od=À (b a):=
 let ⟨od,ho,hl⟩:=Q8 I.ns
 #[od,#[I.obj,rfl,rfl,ho],hl]
section
variable{prog:é}{w:ü}{A:Ĉ}{E:au->ao->Prop}{s:ao}{K:ar}{x dx C f:ai}{mA:bx}{name:Str}{v:au}
def W5{Q:au->ao->Prop}(X:K.In s.heap)(I:ip s.heap x dx C mA)(d:am8 K C name=Â)(e:W.hasDictIn K C=Â)(b:ą K `ag name=À Ä)(i:mA name=À v)(a:W.handedIn v=Â)(h:Q v { s with toks:=s.toks+1 }):
  Ø `ad A (getAttr `aV name expr) Q E s:=by
 let#[od,J,g]:=I.look;show W.get_value X J (ap4 d).1 (W.findObj_own e b rfl<|by rw[g,i]) a h
def G9{Q:au×aS->ao->Prop}(X:K.In s.heap)(I:ip s.heap x dx C mA)(a:am8 K C name=Â)(b:ą K `ag name=À (À<|.ref f))(ht:aj4 K `au=Â)(e:mA name=Ä)(h:Q (.ref f,[.ref x]) s):
  Ø `ad A (getMethod `aV name pl) Q E s:=by
 let#[od,J,d]:=I.look;show W.method_fn X J (ap4 a).1 (ap4 a).2 b (beq_iff_eq.mp ht) (by change (W.lookIn name od).map (·.isSome)=À Å;rw[d,e];rfl) h
def W6{Q:Unit->ao->Prop}(X:K.In s.heap)(I:ip s.heap x dx C mA)(hs:ą K `ag "__setattr__"=À (À<|.builtin "object.__setattr__"))(hp:W.plainOver K C=Â)(ht:W.takerIn K C name=À Ä)(q:W.hasDictIn K C=Â)(u:PySem.Within mA ns)(hsz:↑ns<=Ô)(h:∀h',ip h' x dx C (λy=>if y=name then À v else mA y)->ϲ dx s.heap h'->Q () { s with heap:=h',toks:=s.toks+2 }):
  Ø `ad A (setAttr `aV name v) Q E s:=by
 let#[od,J,D]:=I.look;show W.set_plain X J hs (W.osa_open (s:={ s with toks:=s.toks+1 }) (r:=Ä) X J hp ht λb=>?_);let#[B,o,i]:=W.any_some q;have z:s.heap.get? x=À #[.ref C,À dx,.plain,([].toArray)]:=I.obj;show Ê (Û (Ê (Ê (aq0 z (Ê (ap1 (s:={ s with toks:=s.toks+1 }) (af3 X o) ?_))))));rw[i];show Û (a:=À dx)<|Ê<|Û<|Ê ?_;show wpAny_nsSet1 (s:={ s with toks:=s.toks+1 }) I.ns λh' d e=>?_
 let#[G,n,m,l,j,g]:=d.count<|PySem.Within.cons name v u;show Ê (al1 l (by rw[j];show ak9 (Ï g (by rw[Ý];omega))) ?_);show Û<|h _ #[(e.2 _<|ć I.ne).trans I.obj,d,I.ne] e
def Tq(X:K.In s.heap)(hm:W.makesIn K C=Â)(b:ą K `ag "__init__"=À (À<|.ref f))(a:W.typeIn K `au=À (.type "function"))(h:ź `ad (A.under<|.builtin "type.__call__" #[.ref C::vs,kw]) (.call `au #[.ref (⇑s+1)::vs,kw]) (W.InitBack (⇑s+1) R)
   { s with heap:=(s.heap.push ū).push `dM }):
  ź `ad A (.call `ag #[vs,kw]) R s:=by
 let#[e,g,d,t,os]:=s;show W.make_core (W.makes_of X hm) (ac7 X b) (λself=>W.bind_fn X self a) `al h
end
abbrev gi(f:Str)(v:V):List (Str×V)->List (Str×V)
 |[]=>[(f,v)]
 |(g,x)::r=>if g=f then (g,v)::r else (g,x)::gi f v r
def FX(f g:Str)(v:V):∀fs:List (Str×V),(gi f v fs).lookup g=if g=f then À v else fs.lookup g
 |[]=>by
  change Ľ g [(f,v)]=_;by_cases h:g=f
  .have hb:(g == f)=Â:=beq_iff_eq.mpr h;simp only[Ľ,hb,au4 h]
  .have hb:(g == f)=Å:=beq_eq_false_iff_ne.mpr h;simp only[Ľ,hb,au3 h]
 |(k,x)::r=>by
  have b:=FX f g v r;rw[show gi f v ((k,x)::r)=(if k=f then (k,v)::r else (k,x)::gi f v r) from rfl];by_cases a:k=f
  .rw[au4 a];by_cases h:g=k
   .have hb:(g == k)=Â:=beq_iff_eq.mpr h;simp only[Ľ,hb,au4<|h.trans a]
   .have hb:(g == k)=Å:=beq_eq_false_iff_ne.mpr h;simp only[Ľ,hb,au3 (λe:g=f=>h<|e.trans a.symm)]
  .rw[au3 a];by_cases h:g=k
   .have hb:(g == k)=Â:=beq_iff_eq.mpr h;simp only[Ľ,hb,au3 (λe:g=f=>a<|h.symm.trans e)]
   .have hb:(g == k)=Å:=beq_eq_false_iff_ne.mpr h;simp only[Ľ,hb];show b
def zW(f:Str)(v:V):∀fs:List (Str×V),f∈(gi f v fs).map (·.1)/\∀g,g∈fs.map (·.1)->g∈(gi f v fs).map (·.1)
 |[]=>#[by simp[gi],λg h=>by simp at h]
 |(k,x)::r=>by
  let#[b,d]:=zW f v r;rw[show gi f v ((k,x)::r)=(if k=f then (k,v)::r else (k,x)::gi f v r) from rfl];by_cases a:k=f
  .rw[au4 a];subst a;show#[by simp,λg h=>by simpa using h]
  .rw[au3 a];show#[?_,λg h=>?_]
   .rw[è];show ī _ b
   .rw[è] at h ⊢;rcases ä.mp h with e |e
    .show ä.mpr (.inl e)
    .show ī _ (d g e)
def FQ(f:Str)(v:V):∀fs:List (Str×V),(gi f v fs).length<=↑fs+1
 |[]=>by simp[gi]
 |(k,x)::r=>by
  have b:=FQ f v r;rw[show gi f v ((k,x)::r)=(if k=f then (k,v)::r else (k,x)::gi f v r) from rfl];by_cases a:k=f
  .rw[au4 a,Ý,Ý];omega
  .rw[au3 a,Ý,Ý];omega
def cv.some_of(r:cv (À v) o):∃u,o=À u/\aH v u:=by
 cases o with
 |none=>show (show False from r).elim
 |some u=>show#[u,rfl,r]
def cv.none_of(r:cv Ä o):o=Ä:=by
 cases o with
 |none=>rfl
 |some u=>show (show False from r).elim
def GG(r:aH v u):W.handedIn u=Â:=by
 cases v with
 |aM=>cases (show u=ŝ from r);rfl
 |bl b=>cases (show u=aa0 b from r);rfl
 |int i=>let#[t,e]:=(show ∃t,u=ϋ i t from r);cases e;rfl
 |str x=>let#[t,e]:=(show ∃t,u=ad6 x t from r);cases e;rfl
 |ic b=>let#[t,e]:=(show ∃t,u=Value.bytes b t from r);cases e;rfl
 |nB b=>let#[t,e]:=(show ∃t,u=ap0 b t from r);cases e;rfl
 |ref a=>cases (show u=Ú a from r);rfl
 |ty n=>cases (show u=ĸ n from r);rfl
section
variable{P:é}{w:ü}{H H':Hp}{h h':aU}{a C dx:ai}{fs fs':List (Str×V)}
def Ic(aP:dD P w H h)(e:H a=À `bs):∃b,ip h a dx C b/\(∀f,cv `aB<|b f)/\PySem.Within b (fs.map (·.1))/\↑fs<=1000/\H dx=À `cT:=by
 let#[d,z,ne,g,b,n,r,q]:=(show bc P w H h a `bs from aP a _ e);show#[b,#[g,n,ne],r,q,z,d]
end
structure g8(K:ar)(C:ai):Prop where
 pg:am8 K C Str.empty=Â
 hd:W.hasDictIn K C=Â
 po:W.plainOver K C=Â
 sa:ą K `ag "__setattr__"=À (À<|.builtin "object.__setattr__")
def g8.get{K:ar}{C:ai}(c:g8 K C)(f:Str):am8 K C f=Â:=c.pg
abbrev bq(K:ar)(C:ai)(f:Str):Prop:=ą K `ag f=À Ä
def bq.va{K:ar}{C:ai}{f:Str}(n:bq K C f):W.takerIn K C f=À Ä:=by
 unfold W.takerIn;rw[show ą K `ag f=À Ä from n];rfl
structure ES(K:ar)(C:ai)(m:Str)(f:ai):Prop where
 at_:ą K `ag m=À (À<|.ref f)
 fn:aj4 K `au=Â
 kp:ύ K `au=Â
section
variable{X:Cx}{aa:aZ}{σ:St}{H:Hp}{s:ao}{a C dx:ai}{fs:List (Str×V)}{f:Str}{v:V}{A:Ĉ}{E:au->ao->Prop}
def QD{Q:Unit->ao->Prop}(I:ax X aa σ H s)(e:H a=À `bs)(c:g8 X.K C)(n:bq X.K C f)(M:↑fs<1000)(J:aH y u)(h:∀s',ax X aa σ (aQ H a<|.ins C dx<|gi f y fs) s'->Q () s'):Ø `aa A (setAttr `ax f u) Q E s:=by
 let#[j,O,r,l,_,i]:=Ic I.aP e;have G:(fs.map (·.1)).length<=Ô:=by rw[Æ,ĳ];omega
 show W6 I.dc O c.sa c.po n.va c.hd l G λm d sb=>h _ ?_
 have hd:∃o,m.get? dx=À o:=let ⟨o,_,_,e',_⟩:=d.ns;#[o,e']
 show I.write (x:=a) (e:=dx) (by rw[e];show ø) (.inr i) (λb q B z=>(sb.2 b B).trans z) hd ?_;show#[by rw[a9 O.ne];show i,?_,O.ne,d.obj,_,d.ns,λg=>?_,λg D=>?_]
 .have:=FQ f y fs;omega
 .show cv ((gi f y fs).lookup g) (if g=f then À u else j g);rw[FX];by_cases q:g=f
  .rw[au4 q,au4 q];show J
  .rw[au3 q,au3 q];show r g
 .by_cases q:g=f
  .rw[q];show (zW f y fs).1
  .show (zW f y fs).2 g (l g λz=>D ?_);change (if g=f then À u else j g)=Ä;rw[au3 q];show z
def ax.made(I:ax X aa σ H s):ax X aa σ (aQ (aQ H ⇑s (.own<|⇑s+1)) (⇑s+1)<|.ins C ⇑s [])
  { s with heap:=(s.heap.push ū).push `dM }:=by
 have d:(s.heap.push ū).get? ⇑s=À ū:=Ó s.heap rfl;have h:((s.heap.push ū).push<|Η C ⇑s).get? (⇑s+1)=À `dM:=by
  have:=Ó (s.heap.push ū) (o:=Η C ⇑s) rfl;rwa[ϔ] at this
 have i:(s.heap.push ū).Ns ⇑s (λ_=>Ä):=#[ū,([].toArray),_,d,rfl,(λe j=>au5 j<|by simp),λ_=>rfl]
 have g:=I.laid (a:=⇑s) (o:=.own<|⇑s+1) (h':=s.heap.push ū) (t':=s.toks) (λb u q=>Ã _ q) (Ñ _) #[_,d];show g.laid (a:=⇑s+1) (o:=.ins C ⇑s []) (t':=s.toks) (λb u q=>Ã _ q) (Nat.le_of_eq<|ϔ _ _) ?_;have ne:⇑s≠⇑s+1:=ç<|ũ _;show#[by rw[a9 ne,cN],ľ _,ne,h,λ_=>Ä,(ao9 i).at λo q=>Ã _ q,λ_=>ø,λy l=>au5 rfl l]
def Ie(d:ú e f env (eval e env)=eval e env)(h:Ø `ad A (eval e env) (λo b=>Ø `ad A (getAttr o f Â) Q E b) E s):Ø `ad A (eval `aK env) Q E s:=
 Attribute_any_ h (by rw[arm_eval_Attribute,d])
end
abbrev zc(K:ar)(g h:TE)(f:Str):TS:=λD j H=>h j H λy e=>g j e λx b=>∃a C d fs,x=.ref a/\b a=À (.ins C d fs)/\g8 K C/\bq K C f/\↑fs<1000/\
 D.nx j (aQ b a<|.ins C d<|gi f y fs)
section
variable{X:Cx}{o e value:đ}{f:Str}{pos pos' tpos:Pos}{ta tv:TE}
def Jo(w:PE X o ta)(z:PE X value tv)(hs:Ĭ value (À<|.Attribute o f pos') pos.line X.env=pure Å):PS X (.Assign [.Attribute o f pos'] value pos) (zc X.K ta tv f):=by
 intro aa s j H D I h;show ak2 (bh (z aa s j H _ I h) λu G b=>?_) hs;let#[y,g,i,E,q]:=b;show bh (w aa G j g _ i q) λov N d=>?_
 let#[x,J,m,B,a,C,M,fs,ex,v,c,n,l,A]:=d;subst ex;obtain rfl:ov=Ú a:=B;show QD m v c n l E λO r=>#[j,_,r,A]
end
section
variable{X:Cx}{aa:aZ}{σ:St}{H:Hp}{s:ao}{A:Ĉ}{E:au->ao->Prop}{Q:au->ao->Prop}{c:au}{b:Bool}
inductive eE (K:ac4) (H:Hp):V->ϐ->Prop where
 |aM:eE K H .aM (.type "NoneType")
 |bl (x:Bool):eE K H (.bl x) (.type "bool")
 |int (i:Int):eE K H (.int i) (.type "int")
 |str (x:Str):eE K H (.str x) (.type "str")
 |nB (x:UInt64):eE K H (.nB x) (.type "float")
 |ah {a:Ο} {xs:List V} (e:H a=À (.ah xs)):eE K H (.ref a) (.type "list")
 |aE {a:Ο} {o:Obj} {xs:List V} (e:H a=À (.aE o (.ah xs))):eE K H (.ref a) (.type "list")
 |aJ {a:Ο} {xs:List V} (e:H a=À (.aJ xs)):eE K H (.ref a) (.type "tuple")
 |dK {a:Ο} {kvs:List (aW × V)} (e:H a=À (.dK kvs)):eE K H (.ref a) (.type "dict")
 |dT {a:Ο} {kvs:List (List aW × V)} (e:H a=À (.dT kvs)):eE K H (.ref a) (.type "dict")
 |ins {a C dx:Ο} {fs:List (Str × V)} (e:H a=À (.ins C dx fs)) (cl:g8 K C) (ha:ą K (.ref C) "__class__" = À (À (.builtin "object.__class__")))
   (hn:ak1 K (.builtin "object.__class__") "__get__"=À (À (.builtin "getset_descriptor.__get__"))) (htk:W.takesIn K (.builtin "object.__class__")=À Â)
   (hm:W.mroIn K C (.type "object")=À Â):eE K H (.ref a) (.ref C)
def Q9(I:ax X aa σ H s)(g:aH x u)(ty:eE X.K H x t)(e:am7 X.K t c=À b)(h:∀M,Q (.bool b) { s with toks:=M }):
  Ø `aa A (call (.builtin "isinstance") [u,c]) Q E s:=by
 cases ty with
 |aM=>cases (show u=ŝ from g);show Ņ W.kitx_none I.dc ø e (λz=>nomatch z) h
 |bl y=>cases (show u=aa0 y from g);show Ņ W.kitx_bool I.dc ø e (λz=>nomatch z) h
 |int i=>let#[t,q]:=(show ∃t,u=ϋ i t from g);cases q;show Ņ W.kitx_int I.dc ø e (λz=>nomatch z) h
 |str y=>let#[t,q]:=(show ∃t,u=ad6 y t from g);cases q;show Ņ W.kitx_str I.dc ø e (λz=>nomatch z) h
 |nB y=>let#[t,q]:=(show ∃t,u=ap0 y t from g);cases q;show Ņ W.kitx_float I.dc ø e (λz=>nomatch z) h
 |@ah a m d=>
  cases (show u=Ú a from g);let#[_,_,n,_,j]:=(show bc X.prog X.w H s.heap a (.ah m) from I.aP a _ d);show Ņ W.kitx_list I.dc #[_,j,rfl] e (λz=>nomatch z) h
 |@aE a G m d=>
  cases (show u=Ú a from g);let#[_,_,_,n,_,j]:=(show bc X.prog X.w H s.heap a (.aE G<|.ah m) from I.aP a _ d);show Ņ W.kitx_list I.dc #[_,j,rfl] e (λz=>nomatch z) h
 |@aJ a m d=>
  cases (show u=Ú a from g);∎;let#[_,_,_,p]:=(show bc X.prog X.w H s.heap a (.aJ m) from I.aP a _ d);let#[o,j,r,_]:=p;∎;show Ņ W.kitx_tuple I.dc #[o,j,r] e (λz=>nomatch z) h
 |@dK a l d=>
  cases (show u=Ú a from g);∎;let#[_,_,vs,_,p]:=(show bc X.prog X.w H s.heap a (.dK l) from I.aP a _ d);let#[o,es,B,j,r,_]:=p;∎;show Ņ W.kitx_dict I.dc #[o,j,r.1] e (λz=>nomatch z) h
 |@dT a l d=>
  cases (show u=Ú a from g);let#[_,_,m,_,o,es,B,j,r,_]:=(show bc X.prog X.w H s.heap a (.dT l) from I.aP a _ d);show Ņ W.kitx_dict I.dc #[o,j,r.1] e (λz=>nomatch z) h
 |@ins a C N fs d cl D hn v hm=>
  cases (show u=Ú a from g);∎;let#[U,O,_]:=Ic I.aP d;let#[od,J,_]:=O.look;∎;show Ņ (W.kitx_own (cl.get _) cl.hd D hn v hm) I.dc J e (λz=>nomatch z) h
end
structure bD(k:Nat)(A:Ĉ):Prop where
 hd:A.handled=Ä
 dp:A.depth+3*k+5<recursionLimit
 un:A.units+16*k+200<ņ
def bD.mono(r:bD k A)(h:j<=k):bD j A:=#[r.hd,by have:=r.dp;omega,by have:=r.un;omega]
def bD.deeper(r:bD (k+1) A)(env:Env):bD k (A.deeper env):=
 #[r.hd,by have:=r.dp;change A.depth+1+3*k+5<_;omega,by have:=r.un;change A.units+3+16*k+200<_;omega]
def QF{A:Ĉ}{C:ai}{us:aS}{a:List (Str×au)}:(A.under<|.builtin "type.__call__" #[.ref C::us,a]).depth=A.depth+1:=by
 first |rfl |simp[al7,Code.weight,Code.isCreation,Code.isGuard,Code.isCaller,Code.frames,an8,guardIds]
def QJ{A:Ĉ}{C:ai}{us:aS}{a:List (Str×au)}:(A.under<|.builtin "type.__call__" #[.ref C::us,a]).units=A.units+1:=by
 first |rfl |simp[al7,Code.cUnits,Code.frames,an8]
def bD.make(r:bD (k+1) A)(C:ai)(us:aS)(a:List (Str×au)):bD k (A.under<|.builtin "type.__call__" #[.ref C::us,a]):=
 #[r.hd,by have:=r.dp;rw[QF];omega,by have:=r.un;rw[QJ];omega]
def bD.depth(r:bD k A):A.depth<recursionLimit:=by have:=r.dp;omega
def bD.units(r:bD k A):A.units+64<ņ:=by have:=r.un;omega
abbrev j7:TA:=λ_ H Q=>Q [] H
abbrev j5(d:TE)(tr:TA):TA:=λj H Q=>d j H λx a=>tr j a λe b=>Q (x::e) b
section
variable{X:Cx}{e:đ}{es:bS}{te:TE}{t:TA}{pos:Pos}
def mz:PA X [] j7:=λ_ _ _ _ H Q I h=>Ϗ #[[],H,I,.nil,h]
def ll(m:PE X e te)(n:PA X es t)(hs:do ew e es X.env):PA X (e::es) (j5 te t):=by
 intro pos aa s j H Q I h;rw[hs];change Ø _ _ (spliced ((Å,eval e X.env)::Ų pos (ā es X.env))) _ _ s;show Ő<|bh (m aa s j H _ I h) λu v a=>?_;let#[x,d,i,r,o]:=a;show bh (n pos aa v j d _ i o) λus y b=>by let#[w,g,l,r2,q]:=b;show#[x::w,g,l,.cons r r2,q]
abbrev ET(t:TA):TE:=λj H Q=>t j H λb a=>↑b<=Ô/\∀p,a p=Ä->Q `ao (aQ a p<|.aJ b)
abbrev EU(t:TA):TE:=λj H Q=>t j H λb a=>↑b<=Ô/\∀p,a p=Ä->Q `ao (aQ a p<|.ah b)
def Yv{x1}(h:PA X es t):PE X `ee (ET t):=by
 intro aa s j H Q I m;show wpAny_Tuple_spliced<|bh (h pos aa s j H _ I m) λus a d=>?_;let#[n,g,i,r,z,q]:=d;show#[by rw[<- ↑r];show z,?_];have l:g ⇑a=Ä:=i.aP.fresh<|Ñ _;show#[.ref ⇑a,aQ g ⇑a (.aJ n),i.laid (t':=a.toks) (λb u e=>Ã _ e) (Ñ _) ?_,rfl,q _ l];show#[z,us,r,#[_,Ó _ rfl,rfl,_,rfl]]
def Yw(h:PA X es t):PE X (.List es pos) (EU t):=by
 intro aa s j H Q I m;show wpAny_List_spliced<|bh (h pos aa s j H _ I m) λus a d=>?_;let#[n,g,i,r,z,q]:=d;show#[by rw[<- ↑r];show z,?_];have l:g ⇑a=Ä:=i.aP.fresh<|Ñ _;show#[.ref ⇑a,aQ g ⇑a (.ah n),i.laid (t':=a.toks) (λb u e=>Ã _ e) (Ñ _) ?_,rfl,q _ l];show#[z,us,0,r,Ó _ rfl]
end
nonrec abbrev Sp:=az->Hp->VK->XK->Prop
nonrec abbrev gs:=cL->Hp->ao->XK->au->ao->Prop
structure i7(P:é)(w:ü)(K:ar)(mg:bx)(base:aU)(A:Ĉ)(outer:cL)(s:ao)(H:Hp):Prop where
 frames:A.frames=À outer
 mod:Mod K mg base
 bs:∀b o,base.get? b=À o->s.heap.get? b=À o/\H b=Ä
 kG:base.objs.size<=⇑s
 ea:s.heap.FunFrames base outer
 mG:∀b∈cQ outer,H b=Ä
 aP:dD P w H s.heap
 bare:aa3 s.gens
abbrev CE(outer:cL)(P:é)(w:ü)(H:Hp)(s:ao)(Q:VK)(u:au)(s':ao):Prop:=
 ∃v a,s'.os=s.os/\aa3 s'.gens/\Un (cQ outer) [] H a s.heap s'.heap/\dD P w a s'.heap/\aH v u/\Q v a
abbrev CR(CX:gs)(outer:cL)(P:é)(w:ü)(H:Hp)(s:ao)(Q:VK)(E:XK)(r:Result)(s':ao):Prop:=
 match r with
 |.ok (.ret u)=>CE outer P w H s Q u s'
 |.ok _=>False
 |.error e=>CX outer H s E e s'
structure aG(P:é)(w:ü)(K:ar)(mg:bx)(base:aU)(CX:gs)(k:Nat)(f:ai)(fd:Ĥ)(ps:aj)(sp:Sp):Prop where
 len:∀vs H Q E,sp vs H Q E->↑vs=↑ps
 run:∀(A:Ĉ)(outer:cL)(s:ao)(H:Hp)(args:Args)(us:aS)(vs:az)(Q:VK)(E:XK),bD k A->i7 P w K mg base A outer s H->BindsTo s fd args `bx->aL vs us->sp vs H Q E->
  ź `bP A (.call `au args) (CR CX outer P w H s Q E) s
def aG.mono{P:é}{w:ü}{K:ar}{mg:bx}{base:aU}{CX:gs}{j k:Nat}{f:ai}{a:Ĥ}{ps:aj}{sp:Sp}(F:aG P w K mg base CX j f a ps sp)(h:j<=k):
  aG P w K mg base CX k f a ps sp:=#[F.len,λA outer s H args us vs Q E b=>F.run A outer s H args us vs Q E<|b.mono h]
def aG.imp{P:é}{w:ü}{K:ar}{mg:bx}{base:aU}{CX:gs}{k:Nat}{f:ai}{b:Ĥ}{ps:aj}{sp a:Sp}(F:aG P w K mg base CX k f b ps sp)(h:∀vs H Q E,a vs H Q E->sp vs H Q E):aG P w K mg base CX k f b ps a:=
 #[λvs H Q E q=>F.len vs H Q E<|h _ _ _ _ q,λA outer s H args us vs Q E g e d j i=>F.run A outer s H args us vs Q E g e d j<|h _ _ _ _ i]
def i7.make{P:é}{w:ü}{K:ar}{mg:bx}{base:aU}{A:Ĉ}{outer:cL}{s:ao}{H:Hp}(e:i7 P w K mg base A outer s H)(C:ai)(us:aS)(a:List (Str×au)):
  i7 P w K mg base (A.under<|.builtin "type.__call__" #[.ref C::us,a]) outer s H:=#[by first |show e.frames |(simpa [al7,Code.envs,an8,pushEnvs] using e.frames),e.mod,e.bs,e.kG,e.ea,e.mG,e.aP,e.bare]
section
variable{X:Cx}{aa:aZ}{σ:St}{H:Hp}{s s':ao}
def ax.nA(I:ax X aa σ H s):i7 X.prog X.w X.K X.mg X.base X.A X.stack s H:=
 #[I.ok.frames,I.ok.mod,I.bs,Ï I.ok.kG I.sz,I.stack,I.gZ,I.aP,I.bare]
def ax.after(I:ax X aa σ H s)(h:CE X.stack X.prog X.w H s Q u s'):EP X aa σ Q u s':=by
 ∎;let#[v,e,os,bare,un,aP,r,q]:=h;let#[i,g,d,t,a]:=s';∎;obtain rfl:a=s.os:=os;show#[v,e,I.call (h':=i) (g':=g) (d':=d) (t':=t) (ch:=[]) un aP bare (λb z=>au5 z<|by simp),r,q]
end
abbrev Eh(sp:Sp)(a:az)(E:XK)(t:TA):TE:=λj H Q=>t j H λvs b=>sp (vs++a) b Q E
abbrev Binds(K:ar)(b:Ĥ)(ps:aj)(a:aS):Prop:=
 ∀(s:ao)(us:aS),K.In s.heap->(us++a).length=↑ps->BindsTo s b #[us,[]] (ps.zip<|us++a)
def Binds.all{K:ar}{a:Ĥ}{ps:aj}(h:∀us:aS,us.length=↑ps->bindArgs a #[us,[]]=pure `bx):Binds K a ps []:=λs us _ b=>by
 rw[Ă] at b ⊢;show .of_eq<|h us b
abbrev adc(CX:gs)(X:Cx)(E:XK):Prop:=∀(aa:aZ)(j:St)(H:Hp)(s:ao)(e:au)(a:ao),ax X aa j H s->CX X.stack H s E e a->X.xe e a
section
variable{X:Cx}{CX:gs}{k:Nat}{f C:ai}{fd:Ĥ}{ps:aj}{sp:Sp}{dvs:az}{ds:aS}{E:XK}{x m:Str}{p pos apos:Pos}{e o:đ}{es:bS}{ta:TE}{t:TA}
def Yx(F:aG X.prog X.w X.K X.mg X.base CX k f fd ps sp)(i:bD k X.A)(d:Binds X.K fd ps ds)(hd:aL dvs ds)(l:adc CX X E)(I:ax X aa j H s)(r:aL vs us)(h:sp (vs++dvs) H Q E):Ø `aa X.A (call `au us) `at X.xe s:=by
 have r2:aL (vs++dvs) (us++ds):=r.append hd;have g:(us++ds).length=↑ps:=by rw[<- ↑r2];show F.len _ _ _ _ h
 show Τ<|Ż (F.run X.A X.stack s H #[us,[]] (us++ds) (vs++dvs) Q E i I.nA (d s us I.dc g) r2 h) λr n a=>?_;cases r with
 |error e=>show l aa j H s e n I a
 |ok b=>
  cases b with
  |ret u=>show I.after a
  |next=>show ë a
  |brk=>show ë a
  |cont=>show ë a
def W7(F:aG X.prog X.w X.K X.mg X.base CX k f fd ps sp)(u:bD k X.A)(l:Gl X x)(hm:X.mg x=À `au)(n:ύ X.K `au=Â)(i:Binds X.K fd ps ds)(hd:aL dvs ds)(v:adc CX X E)(g:PA X (e::es) t)(a: ~~~(dS x))(he:do ew e es X.env)(hpl:do gf pos es X.env):
  PE X (.Call `aN (e::es) [] pos) (Eh sp dvs E t):=by
 intro aa s j H Q I h;show Ğ<|oo I l hm ?_ a;show ac5 (h₀:=X.base) I.ok.mod.nE n (bh `bF λus z b=>?_) he hpl;let#[vs,y,d,r,q]:=b;show#[d.dc,?_];show Yx F u i hd v d r q
structure Mk(K:ar)(C f:ai):Prop where
 makes:W.makesIn K C=Â
 init:ą K `ag "__init__"=À (À<|.ref f)
 fn:aj4 K `au=Â
 kp:ύ K `ag=Â
end
abbrev PK(X:Cx)(a:List aa6)(t:TA):Prop:=
 ∀(pos:Pos)(aa:aZ)(s:ao)(j:St)(H:Hp)(Q:az->Hp->Prop),ax X aa j H s->t j H Q->Ø `aa X.A (evalAll ((ϸ pos<|Ř a X.env).map (·.2))) (AP X aa j Q) X.xe s
section
variable{X:Cx}{CX:gs}{k:Nat}{f C:ai}{fd:Ĥ}{ps ks:aj}{sp:Sp}{E:XK}{x m:Str}{p pos apos kpos:Pos}{e o:đ}{es:bS}{kws:List aa6}{te ta:TE}{t tk:TA}{nm:Option Str}
def Yy:PK X [] j7:=λ_ _ _ _ H Q I h=>wpAny_evalAll_nil #[[],H,I,.nil,h]
def W8(n:PE X e te)(q:PK X kws t):PK X (#[nm,e,kpos]::kws) (j5 te t):=by
 intro pos aa s j H Q I h;change Ø _ _ (evalAll ((do let v <- eval e X.env;ae3 pos;pure v)::(ϸ pos<|Ř kws X.env).map (·.2))) _ _ s;show wpAny_evalAll_cons<|Ê<|bh (n aa s j H _ I h) λu z a=>?_;let#[x,d,i,y,r]:=a;show Ê<|Ť<|Û ?_;show bh (q pos aa z j d _ i r) λus B b=>by let#[A,g,l,r2,w]:=b;show#[x::A,g,l,.cons y r2,w]
variable{g:aS->aS->aS}{gV:az->az->az}
end
structure bT(N P:aj)(sc:Ρ):Prop where
 kind:sc.kind=.function
 co:sc.isCoroutine=Å
 gen:sc.isGenerator=Å
 nd:N.Nodup
 pre:N.take ↑P=P
 par:∀x∈P,sc.names.lookup x=À .local\/sc.names.lookup x=À .cell
 qz:∀y∈sc.names,y.2≠.free
def GH{kindOf:Str->Option Ϧ}{x:Str}:∀{binds:List (Str×au)}{m:bx},(∀v,(x,v) ∉ binds)->bindL kindOf binds m x=m x
 |[],_,_=>rfl
 |(n,v)::r,m,h=>by
  unfold bindL;rw[GH λw a=>h w<|ī _ a];split
  .have:x≠n:=by rintro rfl;show h v ϊ
   simp[this]
  .rfl
def GI{kindOf:Str->Option Ϧ}{x:Str}:∀{binds:List (Str×au)}{m:bx},(∀v,(x,v) ∉ binds)->bindC kindOf binds m x=m x
 |[],_,_=>rfl
 |(n,v)::r,m,h=>by
  unfold bindC;rw[GI λw a=>h w<|ī _ a];split
  .rfl
  .have:x≠n:=by rintro rfl;show h v ϊ
   simp[this]
def GJ{kindOf:Str->Option Ϧ}{v:au}:∀{P:aj}{vs:aS}{i:Nat}{m:bx},P.Nodup->P[i]?=À x->vs[i]?=À v->kindOf x=À .local->
  bindL kindOf (P.zip vs) m x=À v
 |[],_,_,_,_,h,_,_=>by simp at h
 |_::_,[],_,_,_,_,h,_=>by simp at h
 |p::P,w::vs,0,m,nd,h1,h2,hk=>by
  simp at h1 h2;subst h1;subst h2;change bindL kindOf ((p,w)::P.zip vs) m p=_;unfold bindL;rw[GH λv a=>(Ĕ.mp nd).1 (Ķ a).1,au4 hk];simp
 |p::P,w::vs,i + 1,m,nd,h1,h2,hk=>by
  change bindL kindOf ((p,w)::P.zip vs) m x=_;unfold bindL;show GJ (i:=i) (Ĕ.mp nd).2 (by simpa using h1) (by simpa using h2) hk
def GK{kindOf:Str->Option Ϧ}{v:au}:∀{P:aj}{vs:aS}{i:Nat}{m:bx},P.Nodup->P[i]?=À x->vs[i]?=À v->kindOf x≠À .local->
  bindC kindOf (P.zip vs) m x=À v
 |[],_,_,_,_,h,_,_=>by simp at h
 |_::_,[],_,_,_,_,h,_=>by simp at h
 |p::P,w::vs,0,m,nd,h1,h2,hk=>by
  simp at h1 h2;subst h1;subst h2;change bindC kindOf ((p,w)::P.zip vs) m p=_;unfold bindC;rw[GI λv a=>(Ĕ.mp nd).1 (Ķ a).1,au3 hk];simp
 |p::P,w::vs,i + 1,m,nd,h1,h2,hk=>by
  change bindC kindOf ((p,w)::P.zip vs) m x=_;unfold bindC;show GK (i:=i) (Ĕ.mp nd).2 (by simpa using h1) (by simpa using h2) hk
abbrev start(N:aj)(vs:az):St:=vs.map À++Ò (↑N - ↑vs) Ä
abbrev kB(CX:gs)(P:é)(w:ü)(K:ar)(mg:bx)(base:aU)(N:aj)(b:Str)(a:Ρ)(f:ai)(g:au)(A:Ĉ)(outer:cL)(s:ao)(H:Hp)(E:XK):Cx where
 prog:=P
 w:=w
 K:=K
 mg:=mg
 base:=base
 A:=A.deeper<|ė b a ⇑s f g
 N:=N
 s₀:=s
 H₀:=H
 env:=ė b a ⇑s f g
 outer:=outer
 stack:=ė b a ⇑s f g::outer
 ex:=[]
 calm:=Â
 fn:=λ_=>Â
 pn:=[]
 xe:=λe i=>Ø `bP (A.deeper<|ė b a ⇑s f g) (leaving (ė b a ⇑s f g) e) (λ_ d=>CX outer H s E e d) (λh d=>CX outer H s E h d) i
def Ha{sc:Ρ}{n:Nat}{x:Str}(h:sc.names.lookup x=À .cell):∃c,(cellsFrom n sc.names []).lookup x=À c:=by
 have q:=W.cellsFrom_some sc.names n [] (.inl h);show ŭ.mp q
def Ra{CX:gs}{P:é}{w:ü}{K:ar}{mg:bx}{base:aU}{N ps:aj}{g:Str}{d:Ρ}{f:ai}{D:au}{A:Ĉ}{outer:cL}{s O:ao}{H:Hp}{E:XK}{us:aS}{vs:az}(S:bT N ps d)(hd:A.handled=Ä)(l:i7 P w K mg base A outer s H)(hl:↑vs=↑ps)(r:aL vs us)(x:InCallC s ⇑s (bindL (ė g d ⇑s f D).kindOf `bx λ_=>Ä) (cellsFrom (⇑s+1) d.names []) (bindC (ė g d ⇑s f D).kindOf `bx λ_=>Ä) O):
  ax (kB CX P w K mg base N g d f D A outer s H E) [] `bh H O:=by
 have U:↑ps<=↑N:=by have:=au9 ad2 S.pre;rw[Ī] at this;omega
 let#[G,tk,rfl,J]:=x.done;have o:∀b:Ο,b ∉ (kB CX P w K mg base N g d f D A outer s H E).ex:=λb z=>au5 (show b∈([]:cU) from z) ∅
 show#[#[l.mod,S.kind,rfl,rfl,Ñ _,λy z c G j=>?_,λy m=>?_,λy c _ h=>?_,λ_=>hd,Around.frames_deeper l.frames,.inr #[rfl,rfl],λb z=>au5 z<|o b,l.bs,l.kG,λb _ _=>o b,λb z=>au5 z<|o b,l.ea,l.mG],
  rfl,l.bare,Un.kept J,#[_,x.toInCall.ns,λi y v G j h3=>?_],λy c h=>#[_,x.cell y c h],l.aP.fresh<|Ñ _,λy c h=>?_,λp B=>au5 (show p∈([]:aZ) from B) ∅,l.aP.kept J,?_]
 .show name_of_addr x.apart (PySem.mem_of_lookup G) (PySem.mem_of_lookup j)
 .have m:d.names.lookup y=À .cell\/d.names.lookup y=À .free:=m;rcases m with m |m
  .show Ha m
  .show au5 rfl (S.qz _ (PySem.mem_of_lookup m))
 .show Ń (x.above y c (PySem.mem_of_lookup h))
 .have I:i<↑vs:=by
   unfold start at j;by_cases I:i<↑vs
   .show I
   .rw[ď<|by simpa using I] at j;rw[Υ] at j;split at j<;>cases j
  have Q:vs[i]?=À v:=by
   unfold start at j;rw[ĉ (by simpa using I),Î] at j;cases e:vs[i]? with
   |none=>rw[e] at j;cases j
   |some a=>rw[e] at j;cases j;rfl
  let#[u,M,Y]:=r.get Q;have B:ps[i]?=À y:=by
   rw[<- S.pre,List.getElem?_take_of_lt ⋯];show G
  have C:ps.Nodup:=by rw[<- S.pre];show S.nd.sublist<|List.take_sublist _ _
  show#[u,Y,?_];rcases S.par y (Ì B) with k |k
  .show .inl ⟨k,GJ C B M k⟩
  .obtain⟨c,e⟩:=Ha (n:=⇑s+1) k;show .inr #[.inl k,c,e,?_];have q:=x.cell y c e;rw[GK C B M (by change d.names.lookup y≠_;rw[k];decide)] at q;show q
 .show l.aP.fresh (Ń<|x.above y c<|PySem.mem_of_lookup h)
 .unfold start;change _=↑N;rw[Ö,Æ,ã];omega
def Kk{CX:gs}{P:é}{w:ü}{K:ar}{mg:bx}{base:aU}{k:Nat}{f:ai}{j d:Str}{g:Arguments}{h:List ù}{a:Ρ}{dV kV doc pm bK ct oc:au}{an od:b9}{osl:Array (eD)}{N ps:aj}{sp:Sp}(lk:K.lookup f=À #[oc,od,.func<|aj3 j d g h a dV kV doc pm an bK ct,osl])(M:W.codeIn K bK d=Â)(S:bT N ps a)(len:∀vs H Q E,sp vs H Q E->↑vs=↑ps)(l:∀(A:Ĉ)(outer:cL)(s:ao)(H:Hp)(vs:az)(Q:VK)(E:XK),bD k (A.deeper<|ė d a ⇑s f bK)->sp vs H Q E->
   ∃t,fV `aJ h t/\t { nx:=λ_ i=>Q .aM i,rt:=Q } `bh H):
  aG P w K mg base CX (k+1) f (aj3 j d g h a dV kV doc pm an bK ct) ps sp:=by
 show#[len,λA outer s H args us vs Q E O B hb r D=>?_];have hl:=len _ _ _ _ D;have KX:K.In s.heap:=B.mod.nE.keeps λb o e=>(B.bs b o e).1
 have U:s.heap.NoLimit:=B.mod.nolimit.keeps λb o e=>(B.bs b o e).1
 have m:∀y∈ps.zip us,a.names.lookup y.1=À .local\/(a.names.lookup y.1=À .cell/\((cellsFrom (⇑s+1) a.names []).lookup y.1).isSome=Â):=λ⟨n,v⟩ hy=>by
  rcases S.par n (Ķ hy).1 with q |q
  .show .inl q
  .show .inr ⟨q,W.cellsFrom_some _ _ _ (.inl q)⟩
 show codeAny_call_function O.depth (KX _ _ lk) rfl S.co S.gen rfl (W.codeRec_of KX M) (hb _ _ _ _ ?_);show wpAny_newFunctionEnv_cells S.kind m λenv he s1 x=>?_
 subst he;show#[U.keeps x.toInCall.keep,codeAny_func ?_];let#[t,ht,hq]:=l A outer s H vs Q E (O.deeper _) D;have I:ax `aJ [] `bh H s1:=Ra S O.hd B hl r x;show ă (ht [] s1 `bh H _ I hq) (λfl s' z=>?_) λe s' z=>z
 have C:∀{G:St}{i:Hp}{v:V}{u:au},ax `aJ [] G i s'->aH v u->Q v i->CE outer P w H s Q u s':=
  λ{G i v u} J Y q=>#[v,i,J.os,J.bare,J.base,J.aP,Y,q]
 cases fl with
 |ret u=>
  let#[v,G,i,J,Y,q]:=z;show C J Y q
 |next=>
  let#[G,i,J,q]:=z;show C (v:=V.aM) (u:=ŝ) J rfl q
 |brk=>
  let#[_,_,_,q]:=z;show ë q
 |cont=>
  let#[_,_,_,q]:=z;show ë q
section
variable{X:Cx}{x:Str}{p pos:Pos}{e:đ}{es:bS}{t:TA}{id T:String}{r:az->Hp->VK->Prop}
abbrev nJ(r:az->Hp->VK->Prop)(t:TA):TE:=λj H Q=>t j H λvs a=>r vs a Q
def Ts(l:bQ X `aO r)(m:Gl X x)(hm:X.mg x=Ä)(n:Ō x=À `aO)(i:PA X (e::es) t)(hn: ~~~(x≠"__name__"))(a: ~~~(dS x))(he:do ew e es X.env)(hpl:do gf pos es X.env):PE X (.Call `aN (e::es) [] pos) (nJ r t):=by
 intro aa s j H Q I h;show Ğ<|kC I m hm n ?_ hn a;show PyProof.Rows.callWith_builtin1 (bh `dk λus u b=>by let#[vs,d,g,q,o]:=b;show l aa u j d vs us Q g q o) he hpl
def pN(l:bQ X `bt r)(m:Gl X x)(hm:X.mg x=Ä)(n:Ō x=À `bt)(i:PA X (e::es) t)(hn: ~~~(x≠"__name__"))(a: ~~~(dS x))(he:do ew e es X.env)(hpl:do gf pos es X.env):PE X (.Call `aN (e::es) [] pos) (nJ r t):=by
 intro aa s j H Q I h;show Ğ<|kC I m hm n ?_ hn a;show ó (bh `dk λus u b=>by let#[vs,d,g,q,o]:=b;show l aa u j d vs us Q g q o) he hpl
end
section
variable{κ:Type}[DecidableEq κ]
abbrev iU(kvs:List (κ×V))(k:κ):Option V:=(kvs.find? λa=>decide<|a.1=k).map (·.2)
abbrev add(kvs:List (κ×V))(k:κ)(v:V):List (κ×V):=
 if (kvs.any λa=>decide<|a.1=k)=Â then kvs.map (λa=>if a.1=k then (a.1,v) else a) else kvs++[(k,v)]
def Ae{p:κ×V}{r:List (κ×V)}{k:κ}(e:p.1=k):iU (p::r) k=À p.2:=by simp[iU,ļ,e]
def Af{p:κ×V}{r:List (κ×V)}{k:κ}(e:¬ p.1=k):iU (p::r) k=iU r k:=by simp[iU,ļ,e]
def Hc(k:κ):∀kvs:List (κ×V),(kvs.any λa=>decide<|a.1=k)=(iU kvs k).isSome
 |[]=>rfl
 |p::r=>by
  rw[Ϥ];by_cases e:p.1=k
  .simp only[Ae e,au6 e,Bool.true_or,Option.isSome_some]
  .rw[Af e,au7 e,al4];show Hc k r
def zS(kvs:List (κ×V))(k:κ)(v:V):(add kvs k v).length<=↑kvs+1:=by
 unfold add;split
 .rw[Æ];omega
 .rw[Ö,Ý,ϕ];omega
def cv.da(r:cv o u):o.isSome=u.isSome:=by
 cases o with
 |none=>cases u with
  |none=>rfl
  |some _=>show (show False from r).elim
 |some _=>cases u with
  |none=>show (show False from r).elim
  |some _=>rfl
def cv.getD(r:cv o u)(rd:aH d d'):aH (o.getD d) (u.getD d'):=by
 cases o with
 |none=>cases u with
  |none=>show rd
  |some _=>show (show False from r).elim
 |some _=>cases u with
  |none=>show (show False from r).elim
  |some _=>show r
def KV.val{kvs:List (κ×V)}{vs:List (κ×au)}(r:KV kvs vs)(k:κ):cv (iU kvs k) (aj6 vs k):=by
 unfold KV at r
 induction r with
 |nil=>show ø
 |@cons p q j a h t i=>
  let#[d,g]:=h;by_cases e:p.1=k
  .have e':q.1=k:=d.symm.trans e;have b:aj6 (q::a) k=À q.2:=by simp[aj6,ļ,e']
   rw[Ae e,b];show g
  .have e':¬ q.1=k:=λz=>e<|d.trans z
   have b:aj6 (q::a) k=aj6 a k:=by simp[aj6,ļ,e']
   rw[Af e,b];show i
def KV.any(r:KV kvs vs)(k:κ):(kvs.any λa=>decide<|a.1=k)=vs.any λa=>decide (a.1=k):=by
 unfold KV at r
 induction r with
 |nil=>rfl
 |cons h t b=>rw[Ϥ,Ϥ,b,h.1]
def KV.qF(r:KV kvs vs)(k:κ)(i:aH y u):
  KV (kvs.map λa=>if a.1=k then (a.1,y) else a) (vs.map λa=>if a.1=k then (a.1,u) else a):=by
 unfold KV at r ⊢
 induction r with
 |nil=>show .nil
 |@cons p q j l h t g=>
  rw[è,è];show .cons ?_ g;let#[b,d]:=h;by_cases e:p.1=k
  .rw[au4 e,au4<|b.symm.trans e];show#[b,i]
  .rw[au3 e,au3<|λz=>e<|b.trans z];show#[b,d]
def KV.put(r:KV kvs vs)(k:κ)(a:aH y u):KV (add kvs k y) (stored vs k u):=by
 unfold add stored;rw[r.any k];by_cases e:(vs.any λb=>decide<|b.1=k)=Â
 .rw[au4 e,au4 e];show r.qF k a
 .rw[au3 e,au3 e];show Paired.snoc r #[rfl,a]
def KV.length(r:KV kvs vs):↑kvs=↑vs:=Paired.length r
end
def p6(r:aH (kV k) u):(fo P w).is k u=Â:=by
 cases k with
 |inl i=>let#[t,e]:=(show ∃t,u=ϋ i t from r);subst e;show O1 P w i t
 |inr x=>let#[t,e]:=(show ∃t,u=ad6 x t from r);subst e;show O3 P w x t
def GL:∀{ks:List aW}{us:aS},aL (ks.map kV) us->ItemsAre `cx ks us
 |[],_,r=>by rw[ad8] at r;cases r;show .nil
 |k::ks,_,r=>by
  rw[è] at r;cases r with
  |cons h t=>show .cons (p6 h)<|GL t
nonrec abbrev KT(H:Hp):List (List aW×V)->List (List aW×ai×au)->Prop:=Paired λp q=>p.1=q.1/\H q.2.1=À (.aJ<|p.1.map kV)/\aH p.2 q.2.2
def KT.val{H:Hp}{kvs:List (List aW×V)}{xs:List (List aW×ai×au)}(r:KT H kvs xs)(k:List aW):cv (iU kvs k) ((atKey xs k).map (·.2)):=by
 induction r with
 |nil=>show ø
 |@cons p q j a h t i=>
  let#[d,_,g]:=h;by_cases e:p.1=k
  .have e':q.1=k:=d.symm.trans e;have b:atKey (q::a) k=À q.2:=by simp[atKey,ļ,e']
   rw[Ae e,b];show g
  .have e':¬ q.1=k:=λz=>e<|d.trans z
   have b:atKey (q::a) k=atKey a k:=by simp[atKey,ļ,e']
   rw[Af e,b];show i
def KT.qF(r:KT H kvs xs)(k:List aW)(j:aH y u):
  KT H (kvs.map λb=>if b.1=k then (b.1,y) else b) (xs.map<|putAt k u):=by
 induction r with
 |nil=>show .nil
 |@cons p q l m h t i=>
  rw[è,è];show .cons ?_ i;let#[a,d,g]:=h;unfold putAt;by_cases e:p.1=k
  .rw[au4 e,au4<|a.symm.trans e];show#[a,d,j]
  .rw[au3 e,au3<|λz=>e<|a.trans z];show#[a,d,g]
def KT.put{H:Hp}(r:KT H kvs xs)(k:List aW)(d:H b=À (.aJ<|k.map kV))(a:aH y u):
  KT H (add kvs k y) (storedH xs k b u):=by
 have e:(kvs.any λg=>decide<|g.1=k)=(atKey xs k).isSome:=by
  rw[Hc,(r.val k).da,ϖ]
 unfold add storedH;rw[e];by_cases q:(atKey xs k).isSome=Â
 .rw[au4 q,au4 q];show r.qF k a
 .rw[au3 q,au3 q];show Paired.snoc r #[rfl,d,a]
def KT.keeps{H a:Hp}(r:KT H kvs xs)(ht:∀b ys,H b=À (.aJ ys)->a b=À (.aJ ys)):KT a kvs xs:=
 Paired.u3 r λ_ _ z=>#[z.1,ht _ _ z.2.1,z.2.2]
section
variable{P:é}{w:ü}{H:Hp}{h:aU}{a:ai}
def Kl(ok:dD P w H h)(e:Rd H a u):bc P w H h a u:=e.ok ok
def lq(ok:dD P w H h)(e:Rd H a `ar):↑kvs<=Ô/\(a == ś)=Å/\∃vs,KV kvs vs/\h.DictOf `cx a vs:=
 show bc P w H h a `ar from Kl ok e
def uK(ok:dD P w H h)(e:H a=À `ar):↑kvs<=Ô/\(a == ś)=Å/\∃vs,KV kvs vs/\h.DictOf `cx a vs:=lq ok<|.inl e
def rN(ok:dD P w H h)(e:H a=À (.aJ<|ks.map kV)):(ah0<|fo P w).is h ks a:=by
 let#[_,b,r,o,d,g,n,i]:=(show bc P w H h a (.aJ<|ks.map kV) from ok a _ e);show#[o,b.toArray,n,d,g,i,by simpa using GL r]
def p9(ok:dD P w H h)(e:Rd H a (.dT kvs)):↑kvs<=Ô/\(a == ś)=Å/\
  ∃xs,KT H kvs xs/\h.DictOfH (ah0<|fo P w) a xs:=by
 let#[z,y,xs,r,o,es,g,i,j,n,u,v]:=(show bc P w H h a (.dT kvs) from Kl ok e);show#[z,y,xs,r,o,es,g,i,j,n,u,λx b=>?_,v];have all:∀{l:List (List aW×V)}{m:List (List aW×ai×au)},KT H l m->∀x∈m,(ah0<|fo P w).is h x.1 x.2.1:=by
  intro l m q
  induction q with
  |nil=>intro x b;show nomatch b
  |@cons p q B C d t A=>
   intro x b;rcases ä.mp b with e |b
   .subst e;show rN ok (by rw[<- d.1];show d.2.1)
   .show A x b
 show all r x b
def LW(ok:dD P w H h)(e:H a=À (.dT kvs)):↑kvs<=Ô/\(a == ś)=Å/\
  ∃xs,KT H kvs xs/\h.DictOfH (ah0<|fo P w) a xs:=p9 ok<|.inl e
end
abbrev nY(H:Hp)(a:ai)(y:V)(r:Option V):Prop:=
 (∃d k,Rd H a `cZ/\y=kV k/\r=iU d k)\/∃d k b,Rd H a (.dT d)/\y=.ref b/\H b=À (.aJ<|k.map kV)/\r=iU d k
abbrev kT(H:Hp)(a:ai)(y v:V)(e:Hp):Prop:=
 (∃d k,H a=À `cZ/\y=kV k/\↑d<Ô/\e=aQ H a (.dK<|add d k v))\/
 ∃d k b,H a=À (.dT d)/\y=.ref b/\H b=À (.aJ<|k.map kV)/\↑d<Ô/\e=aQ H a (.dT<|add d k v)
def kT.k{H:Hp}{a:ai}{kvs:bY}{k:aW}{v:V}(e:H a=À `ar)(b:↑kvs<Ô):kT H a (kV k) v (aQ H a<|.dK<|add kvs k v):=.inl #[kvs,k,e,rfl,b,rfl]
section
variable{X:Cx}{aa:aZ}{σ:St}{H:Hp}{s:ao}{a:ai}{y v:V}{u r:au}{o:Option V}{A:Ĉ}{E:au->ao->Prop}
def ax.big(I:ax X aa σ H s):ś<⇑s:=by
 have h:ř<⇑s:=(I.mod.glob.keeps I.bk).lt;show Nat.lt_trans ∎ h
def Rb{Q:au->ao->Prop}(D:A.units+1<ņ)(I:ax X aa σ H s)(g:nY H a y (À v))(B:aH y u)(h:∀j s',ax X aa σ H s'->aH v j->Q j s'):
  Ø `aa A (getItem `ax u) Q E s:=by
 rcases g with⟨x,k,e,m,l⟩ |⟨x,k,b,e,m,eb,l⟩
 .subst m;∎;let#[z,hd,vs,d,dd]:=lq I.aP e;let#[j,q,i]:=cv.some_of (v:=v) (o:=aj6 vs k) (by rw[l];show d.val k);∎;show wpAny_getItem_of (p6 B) dd.mapOf q<|h j _ (I.tok _) i
 .subst m;cases (show u=Ú b from B);∎;let#[z,hd,G,d,dd]:=p9 I.aP e;let#[j,q,i]:=cv.some_of (v:=v) (o:=(atKey G k).map (·.2)) (by rw[l];show d.val k);let#[p,C,n]:=al6.mp q;∎;show wpAny_getItem_heap (ϗ D) `cs dd C ?_;rw[n];show h j _ (I.tok _) i
def Mc{Q:au->ao->Prop}(n:A.units+1<ņ)(I:ax X aa σ H s)(g:nY H a y o)(m:aH y u)(h:∀s',ax X aa σ H s'->Q (.bool o.isSome) s'):
  Ø `aa A (í .In u<|.ref a) Q E s:=by
 rcases g with⟨j,k,e,i,l⟩ |⟨j,k,b,e,i,eb,l⟩
 .subst i;let#[z,hd,vs,d,dd]:=lq I.aP e;show wpAny_in_of (p6 m) hd dd.mapOf ?_;rw[<- (d.val k).da,<- l];show h _<|I.tok _
 .subst i;cases (show u=Ú b from m);let#[z,hd,x,d,dd]:=p9 I.aP e;show wpAny_in_heap (ϗ n) `cs hd dd ?_;have q:=(d.val k).da;rw[ϖ] at q;rw[<- q,<- l];show h _<|I.tok _
def W9{Q:au->ao->Prop}(n:A.units+1<ņ)(I:ax X aa σ H s)(g:nY H a y o)(m:aH y u)(h:∀s',ax X aa σ H s'->Q (.bool (!o.isSome)) s'):
  Ø `aa A (í .NotIn u<|.ref a) Q E s:=by
 rcases g with⟨j,k,e,i,l⟩ |⟨j,k,b,e,i,eb,l⟩
 .subst i;let#[z,hd,vs,d,dd]:=lq I.aP e;show wpAny_notIn_of (p6 m) hd dd.mapOf ?_;rw[<- (d.val k).da,<- l];show h _<|I.tok _
 .subst i;cases (show u=Ú b from m);let#[z,hd,x,d,dd]:=p9 I.aP e;show wpAny_notIn_heap (ϗ n) `cs hd dd ?_;have q:=(d.val k).da;rw[ϖ] at q;rw[<- q,<- l];show h _<|I.tok _
def AG(I:ax X aa σ H s)(h:sG (H a))(hs:ϲ a s.heap h')(he:∃q,h'.get? a=À q)(d:bc X.prog X.w (aQ H a ob) h' a ob):
  ax X aa σ (aQ H a ob) { s with heap:=h',toks:=t' }:=
 I.write (x:=a) (e:=a) h `al (λb q g z=>(hs.2 b g).trans z) he d
def Jp(z:↑kvs<=Ô)(hd:(a == ś)=Å)(b:KV kvs vs)(dd:h'.DictOf `cx a vs):
  bc P w H' h' a `ar:=#[z,hd,vs,b,dd]
def Rc{Q:Unit->ao->Prop}(hu:A.units+1<ņ)(I:ax X aa σ H s)(g:kT H a y v H')(N:aH y u)(M:aH v r)(h:∀s',ax X aa σ H' s'->Q () s'):
  Ø `aa A (setItem `ax u r) Q E s:=by
 rcases g with⟨d,k,e,x,l,n⟩ |⟨d,k,b,e,x,eb,l,n⟩
 .subst x n;let#[z,hd,vs,i,dd]:=uK I.aP e;have D:↑vs<=Ô:=by rw[<- ↑i];show z
  have B:(add d k v).length<=Ô:=by have:=zS d k v;omega
  show wpAny_setItem_pairs (hsz:=D) (p6 N) dd λJ j C=>h _ ?_
  have he:∃q,J.get? a=À q:=let ⟨q,_,_,m,_⟩:=j;#[q,m]
  show AG I (by rw[e];show ø) C he<|Jp B hd (i.put k M) j
 .subst x n;cases (show u=Ú b from N);let#[z,hd,xs,i,dd]:=LW I.aP e;have D:↑xs<=Ô:=by rw[<- Paired.length i];show z
  have B:(add d k v).length<=Ô:=by have:=zS d k v;omega
  show wpAny_setItem_heap (hsz:=D) (ϗ hu) `cs dd λJ j C=>h _ ?_
  let#[q,es,O,m,U,Y,h4,_,h5]:=j;show AG I (by rw[e];show ø) C #[q,m] #[B,hd,_,(i.put k eb M).keeps λc ys G=>?_,q,es,O,m,U,Y,h4,h5];rw[a9 (LO G e (λz=>nomatch z))];show G
end
section
variable{X:Cx}{aa:aZ}{σ:St}{H:Hp}{s:ao}{a:ai}{kvs:bY}{k:aW}{u:au}{A:Ĉ}{E:au->ao->Prop}
def LX{Q:au->ao->Prop}(I:ax X aa σ H s)(e:Rd H a `ar)(h:∀t s',ax X aa σ H s'->Q (.int ↑kvs t) s'):Ø `aa A (call (.builtin "len") [.ref a]) Q E s:=by
 let#[z,hd,vs,b,dd]:=lq I.aP e;show call_len_dict hd dd (by rw[<- ↑b];rw[ĳ] at z;omega) ?_;rw[<- ↑b];show h _ _<|I.tok _
end
def O4(I:ax X aa j H s)(g:nY H a y o):s.TypeIs `ax "dict":=by
 rcases g with⟨d,k,e,_,_⟩ |⟨d,k,b,e,_,_,_⟩
 .obtain⟨_,_,vs,_,dd⟩:=lq I.aP e;show dd.typeIs
 .obtain⟨_,_,xs,_,dd⟩:=p9 I.aP e;show dd.typeIs
abbrev Ei(h ty i:TE):TS:=λD j H=>i j H λv d=>h j d λx e=>ty j e λy g=>∃a b,x=.ref a/\kT g a y v b/\D.nx j b
section
variable{X:Cx}{o i e value:đ}{pos pos' tpos:Pos}{td ty tv:TE}
def Xa(J:X.A.units+1<ņ)(G:PE X o td)(E:PE X i ty)(M:PE X value tv)(hs:Ĭ value (À<|.Subscript o i pos') pos.line X.env=pure Å):
  PS X (.Assign [.Subscript o i pos'] value pos) (Ei td ty tv):=by
 intro aa s j H D I h;show wpAny_Assign_Subscript (bh (M aa s j H _ I h) λr s1 b=>?_) hs;let#[v,m,w,U,N]:=b;show bh (G aa s1 j m _ w N) λu s2 d=>?_
 let#[x,n,z,Y,O]:=d;show bh (E aa s2 j n _ z O) λiv s3 l=>?_
 let#[y,H3,B,ry,a,q,ex,g,Q]:=l;subst ex;obtain rfl:u=Ú a:=Y;show Rc J B g ry U λs4 C=>#[j,q,C,Q]
end
def Hd(h:aU)(a:ś<h.objs.size):bc P w H (h.push { cls:=.type "dict",data:=.dict ([].toArray) }) h.objs.size (.dK []):=
 #[ľ _,beq_eq_false_iff_ne.mpr<|ć<|ç a,[],.nil,Heap.DictOf.new h]
abbrev DW:TE:=λ_ H Q=>∀p,H p=Ä->Q `ao (aQ H p<|.dK [])
section
variable{X:Cx}{pos:Pos}
def Ui:PE X (.Dict [] [] pos) DW:=λaa s j H Q I h=>
 wpAny_Dict_empty #[.ref ⇑s,_,I.laid (a:=⇑s) (o:=.dK []) (t':=s.toks) (λ_ _ q=>Ã _ q) (Ñ _)<|Hd s.heap I.big,rfl,h _<|I.aP.fresh<|Ñ _]
end
abbrev vV:List (TE×TE)->St->Hp->(List (V×V)->Hp->Prop)->Prop
 |[],_,H,Q=>Q [] H
 |(tk,tv)::r,j,H,Q=>tk j H λx a=>tv j a λy b=>vV r j b λe d=>Q ((x,y)::e) d
nonrec abbrev VV:List (V×V)->List (au×au)->Prop:=Paired λp q=>aH p.1 q.1/\aH p.2 q.2
abbrev sH(X:Cx)(pos:Pos)(keys:List (Option đ))(a:bS)(b:List (TE×TE)):Prop:=
 ∀(aa:aZ)(s:ao)(j:St)(H:Hp)(Q:List (V×V)->Hp->Prop),ax X aa j H s->vV b j H Q->
  Ø `aa X.A (evalPairs<|pairTrees keys a X.env pos) (λvs g=>∃e d,ax X aa j d g/\VV e vs/\Q e d) X.xe s
def Xb:sH X pos [] [] []:=λaa s j H Q I h=>pairTrees_nil_walk #[[],H,I,.nil,h]
def Uj(g:PE X k tk)(l:PE X v tv)(i:sH X pos ks vs trs):
  sH X pos (À k::ks) (v::vs) ((tk,tv)::trs):=λaa s j H Q I h=>
 pairTrees_cons_walk (bh (g aa s j H _ I h) λu o ⟨x,H1,I1,rx,q1⟩=>bh (l aa o j H1 _ I1 q1) λw q ⟨y,H2,I2,ry,q2⟩=>
  bh (i aa q j H2 _ I2 q2) λz r b=>by let#[m,d,e,a,n]:=b;show#[(x,y)::m,d,e,.cons #[rx,ry] a,n])
abbrev nT(kvs a:bY):bY:=a.foldl (λb d=>add b d.1 d.2) kvs
def KV.merge:∀{a:bY}{rs:List (aW×au)}{kvs:bY}{vs:List (aW×au)},KV a rs->KV kvs vs->KV (nT kvs a) (merged vs rs):=by
 intro a rs kvs vs r;unfold KV at r
 induction r generalizing kvs vs with
 |nil=>intro q;show q
 |@cons p q g i h t b=>
  intro d;have e:KV (add kvs p.1 p.2) (stored vs q.1 q.2):=by
   have:=d.put p.1 h.2;rw[<- h.1];show this
  show b e
def FP:∀(a kvs:bY),(nT kvs a).length<=↑kvs+↑a
 |[],kvs=>by change ↑kvs <= ↑kvs + 0;omega
 |p::r,kvs=>by
  have b:=FP r<|add kvs p.1 p.2;have d:=zS kvs p.1 p.2;change (nT (add kvs p.1 p.2) r).length<=_;rw[Ý];omega
def Ge:∀{kvs:bY}{e:List (au×au)},VV (kvs.map λd=>(kV d.1,d.2)) e->∃rs,Carries `cx e rs/\KV kvs rs
 |[],_,r=>by rw[ad8] at r;cases r;show#[[],ø,.nil]
 |p::kvs,_,r=>by
  rw[è] at r;cases r with
  |@cons a b i bs h t=>
   ∎;let#[rs,c,q]:=Ge (P:=P) (w:=w) t;let#[j,g]:=b;∎;show#[(p.1,g)::rs,#[p6 h.1,rfl,c],.cons #[rfl,h.2] q]
abbrev Ej(b:List (TE×TE)):TE:=λj H Q=>∀p,H p=Ä->vV b j (aQ H p<|.dK []) λg d=>d p=À (.dK [])/\∃a:bY,g=a.map (λe=>(kV e.1,e.2))/\↑a<=15/\Q `ao (aQ d p<|.dK<|nT [] a)
def Wn(h:sH X pos keys values trs)(d:keys.all (·.isSome)=Â)(A:↑keys=↑values)(v:keys≠[])(i:↑keys<=15):PE X `da (Ej trs):=by
 intro aa s j H Q I q;have hn:=I.aP.fresh<|Ñ ⇑s;have r:=I.laid (a:=⇑s) (o:=.dK []) (h':=s.heap.push { cls:=.type "dict",data:=.dict ([].toArray) }) (t':=s.toks) (λ_ _ q=>Ã _ q) (Ñ _)<|Hd s.heap I.big;show wpAny_Dict_walk (knd:=fo X.prog X.w) d A v i<|bh (h aa _ j _ _ r<|q _ hn) λY U m=>?_;let#[O,M,n,l,e,g,u,N,D]:=m;subst u;∎;let#[rs,c,G]:=Ge (P:=X.prog) (w:=X.w) l;let#[z,hd,J,E,dd]:=uK n.aP e;∎;cases E;show#[rs,c,dd,λh' b B=>#[.ref ⇑s,_,?_,rfl,D]];have C:(nT [] g).length<=Ô:=by
  have x:=FP g [];rw[ϕ] at x;rw[ĳ];omega
 have y:∃q,h'.get? ⇑s=À q:=let ⟨q,_,_,hq,_⟩:=b;#[q,hq]
 show AG n (by rw[e];show ø) B y<|Jp C hd (G.merge .nil) b
structure M2(X:Cx)(o:đ)(m:Str)(apos:Pos)(e f:đ)(bu:Pos):Prop where
 base:ú o m X.env `as=eval o X.env
 NZ:((Ų bu<|ā [e,f] X.env).all (λx=>!x.1)&&(ϸ bu<|Ř [] X.env).all (λx=>x.1.isSome)
  && decide (([e,f]:bS).length+([]:List aa6).length+(if ([]:List aa6).isEmpty then 0 else 1)<30))=Â
 line:(apos.endLine == bu.line)=Â
 trees:Ų bu (ā [e,f] X.env)=[(Å,eval e X.env),(Å,eval f X.env)]
abbrev CM(H:Hp)(a:ai):Prop:=(∃b,Rd H a<|.dK b)\/∃b,Rd H a<|.dT b
def uu(I:ax X aa j H s)(d:CM H a):
  s.TypeIs `ax "dict"/\(∀b,Ú a=.ref b->∃ob,s.heap.get? b=À ob/\ob.dict=Ä)/\(a == ś)=Å:=by
 rcases d with⟨i,e⟩ |⟨i,e⟩
 .obtain⟨_,hd,vs,_,dd⟩:=lq I.aP e;show#[dd.typeIs,λb q=>?_,hd];cases q;let#[ob,_,_,g,h,_]:=dd;show#[ob,g,h.2.1]
 .obtain⟨_,hd,xs,_,dd⟩:=p9 I.aP e;show#[dd.typeIs,λb q=>?_,hd];cases q;let#[ob,_,_,g,h,_]:=dd;show#[ob,g,h.2.1]
section
variable{X:Cx}{aa:aZ}{σ:St}{H:Hp}{s:ao}{a:ai}{y d:V}{u r:au}{o:Option V}{A:Ĉ}{E:au->ao->Prop}
def Yz{Q:au->ao->Prop}(v:A.units+1<ņ)(I:ax X aa σ H s)(g:nY H a y o)(n:aH y u)(rd:aH d r)(h:∀q s',ax X aa σ H s'->aH (o.getD d) q->Q q s'):
  Ø `aa A (call (.builtin "dict.get") [.ref a,u,r]) Q E s:=by
 rcases g with⟨m,k,e,j,l⟩ |⟨m,k,b,e,j,eb,l⟩
 .subst j;let#[z,hd,vs,i,dd]:=lq I.aP e;show ae2 PySem.F.slot_dict_get dd.typeIs PySem.F.entry_dict_get `ck (meets_dict_get_default `aL a (p6 n) hd r) #[_,dd.mapOf,h _ _ (I.tok _) ?_];rw[l];show (i.val k).getD rd
 .subst j;cases (show u=Ú b from n);let#[z,hd,x,i,dd]:=p9 I.aP e;show ae2 PySem.F.slot_dict_get dd.typeIs PySem.F.entry_dict_get `ck (meetsH_dict_get_default (ah0<|fo X.prog X.w) a b hd r) #[ϗ v,k,x,rN I.aP eb,dd,h _ _ (I.tok _) ?_];rw[l];show (i.val k).getD rd
end
abbrev DX(g ty h:TE):TE:=λj H Q=>g j H λx b=>∃a,x=.ref a/\CM b a/\ty j b λy e=>h j e λz d=>∃o,nY d a y o/\Q (o.getD z) d
section
variable{X:Cx}{o e f:đ}{apos bu:Pos}{td ty tx:TE}
def Uk(w:X.A.units+1<ņ)(v:PE X o td)(he:PE X e ty)(r:PE X f tx)(m:M2 X o "get" apos e f bu):PE X (.Call (.Attribute o "get" apos) [e,f] [] bu) (DX td ty tx):=by
 intro aa s j H Q I h;show wpAny_Call_method m.base m.NZ m.line PySem.F.plainAttrs_dict PySem.F.slot_dict_get PySem.F.type_dict_get<|bh (v aa s j H _ I h) λu D i=>?_;let#[x,n,l,C,a,ex,d,B]:=i;subst ex;obtain rfl:u=Ú a:=C;let#[G,J,_]:=uu l d;show#[G,J,?_];rw[m.trees];show ŏ rfl (ac0 (Ő (bh (he aa D j n _ l B) λN E ⟨y,H2,I2,ry,q2⟩=>
  Ő (bh (r aa E j H2 _ I2 q2) λM O ⟨z,H3,I3,rz,ov,g,q3⟩=>Ϗ ?_))))
 show Yz w I3 g ry rz λY U q b=>#[_,H3,q,b,q3]
end
end L2
namespace HT
open PySem PyProof.Rows
section
variable{prog:é}{w:ü}{A:Ĉ}{E:au->ao->Prop}{s:ao}
abbrev d7(n d:Nat):bR->Nat
 |none=>d
 |some v=>if v < 0 then (v + (n:Int)).toNat else min v.toNat n
end
end HT
namespace L2
open PySem PySem.Spec PyProof.Rows
nonrec abbrev TO:=St->Hp->(bR->Hp->Prop)->Prop
abbrev PO(X:Cx)(e:Option đ)(t:TO):Prop:=
 ∀(aa:aZ)(s:ao)(j:St)(H:Hp)(Q:bR->Hp->Prop),ax X aa j H s->t j H Q->
  Ø `aa X.A (evalPart e X.env) (λu b=>∃o a,ax X aa j a b/\IsPart u o/\Q o a) X.xe s
abbrev Eb:TO:=λ_ H Q=>Q Ä H
abbrev Ek(t:TE):TO:=λj H Q=>t j H λx a=>∃i,x=.int i/\Q (À i) a
def QK:∀{us:aS},aL `aI us->an7 us ns:=by
 induction ns with
 |nil=>intro us r;rw[ad8] at r;cases r;show .nil
 |cons n ns a=>
  intro us r;rw[è] at r;cases r with
  |cons b r2=>
   let#[t,e]:=b;subst e;show .cons n t<|a r2
section
variable{X:Cx}{e:đ}{te:TE}{lo hi:Option đ}{tl th:TO}{pos p2:Pos}
def Wo:PO X Ä Eb:=by
 intro aa s j H Q I h;rw[evalPart_none];show Û #[Ä,H,I,.none,h]
def Wq(h:PE X e te):PO X (À e) (Ek te):=by
 intro aa s j H Q I g;rw[evalPart_some];show bh (h aa s j H _ I g) λu n a=>?_
 ∎;let#[x,b,d,m,l]:=a;let#[i,rfl,q]:=l;let#[t,rfl]:=m;∎;show#[À i,b,d,.int i t,q]
abbrev nO(X:Cx)(r:V->bR->bR->Hp->VK->Prop):Prop:=
 ∀(aa:aZ)(s:ao)(j:St)(H:Hp)(x:V)(v b d:au)(lo hi:bR)(a:ai)(Q:VK),ax X aa j H s->aH x v->s.heap.IsSliceOf a b d .none->IsPart b lo->IsPart d hi->r x lo hi H Q->
  ∃T id,ap8 `bt "__getitem__"=pure (À<|.builtin id)/\s.TypeIs v T/\Ø `aa X.A (getItem v<|.ref a) `at X.xe s
def nO.or{r g:V->bR->bR->Hp->VK->Prop}(h:nO X r)(h':nO X g):nO X (λx lo hi H Q=>r x lo hi H Q\/g x lo hi H Q):=by
 intro aa s j H x v m n lo hi l Q I i a b d q;rcases q with q |q
 .show h aa s j H x v m n lo hi l Q I i a b d q
 .show h' aa s j H x v m n lo hi l Q I i a b d q
abbrev Kv(r:V->bR->bR->Hp->VK->Prop)(te:TE)(tl th:TO):TE:=λj H Q=>te j H λx a=>tl j a λl b=>th j b λu d=>r x l u d Q
def Ul(M:nO X r)(he:PE X e te)(J:PO X lo tl)(O:PO X hi th):PE X (.Subscript e `dF pos) (Kv r te tl th):=by
 intro aa s j H Q I h;show Subscript_<|bh (he aa s j H _ I h) λv s1 d=>?_;let#[x,o,z,r1,q1]:=d;show wpAny_Slice<|bh (J aa s1 j o _ z q1) λg s2 d=>?_;let#[l,y,B,U,q2]:=d;show bh (O aa s2 j y _ B q2) λi a m=>?_
 let#[u,n,C,Y,q3]:=m;rw[evalPart_none];show Û ?_;have D:ax X aa j n { a with heap:=a.heap.push { cls:=.type "slice",data:=.fields ([g,i,.none].toArray) } }:=C.kept (t':=a.toks) λb ob q=>Ã _ q
 let#[T,id,E,N,G]:=M aa { a with heap:=a.heap.push { cls:=.type "slice",data:=.fields ([g,i,.none].toArray) } } j n x v g i l u ⇑a Q D r1 (Heap.IsSliceOf.new ..) U Y q3;change Ø `aa X.A (ar5 e `dF v<|.ref ⇑a) `at X.xe { a with heap:=a.heap.push { cls:=.type "slice",data:=.fields ([g,i,.none].toArray) } };show tail_any (ops:=[.ref ⇑a,v]) N E G (by with_unfolding_all rfl)
abbrev wB(xs:az)(lo hi:bR):az:=(xs.drop<|HT.d7 ↑xs 0 lo).take<|HT.d7 ↑xs ↑xs hi - HT.d7 ↑xs 0 lo
def Po(xs:az)(lo hi:bR):(wB xs lo hi).length<=↑xs:=by
 unfold wB;rw[Ī,List.length_drop];omega
end
abbrev jl(n:Nat)(i:Int):Option Nat:=if 0<=i then (if i<n then À i.toNat else Ä) else if -(n:Int)<=i then À (i+n).toNat else Ä
abbrev c8{G:Type}(xs:List G)(i:Int):Option G:=(jl ↑xs i).bind λj=>xs[j]?
def Ig(h:jl n i=À j):seqIndex? i n=À j/\j<n/\-(n:Int)<=i/\i<n:=by
 unfold jl at h;by_cases b:0<=i
 .rw[au4 b] at h;by_cases a:i<n
  .rw[au4 a] at h;have e:i.toNat=j:=Þ h;show#[by rw[seqIndex_of b a,e],⋯,⋯,a]
  .rw[au3 a] at h;cases h
 .rw[au3 b] at h;by_cases a:-(n:Int)<=i
  .rw[au4 a] at h;have e:(i+n).toNat=j:=Þ h;show#[by rw[seqIndex_neg ⋯ a,e],⋯,a,⋯]
  .rw[au3 a] at h;cases h
def AH(h:c8 xs i=À v):∃j,seqIndex? i ↑xs=À j/\xs[j]?=À v/\j<↑xs/\-(↑xs:Int)<=i/\i<↑xs:=by
 unfold c8 at h;cases e:jl ↑xs i with
 |none=>rw[e] at h;cases h
 |some j=>
  rw[e] at h;let#[a,b,d,g]:=Ig e;show#[j,a,h,b,d,g]
abbrev Ec(b:đ):Prop:=∀o i,subscripted b Å o i=operate [o,i] (getItem o i)
abbrev kU(X:Cx)(r:R2):Prop:=
 ∀(value a:đ)(aa:aZ)(s:ao)(j:St)(H:Hp)(x y:V)(v u:au)(Q:VK),ax X aa j H s->aH x v->aH y u->r x y H Q->
  subscripted a Å v u=operate [v,u] (getItem v u)->Ø `aa X.A (ar5 value a v u) `at X.xe s
abbrev Mz(X:Cx)(id:String)(r:V->az->Hp->VK->Prop):Prop:=
 ∀(aa:aZ)(s:ao)(j:St)(H:Hp)(x:V)(a:az)(v:au)(us:aS)(Q:VK),ax X aa j H s->aH x v->aL a us->r x a H Q->
  Ø `aa X.A (call `aO (v::us)) `at X.xe s
section
variable{X:Cx}{a b:đ}{ta tb:TE}{pos:Pos}
def kU.or{r g:R2}(h:kU X r)(h':kU X g):kU X (λx y H Q=>r x y H Q\/g x y H Q):=by
 intro value d aa s j H x y v u Q I i l q e;rcases q with q |q
 .show h value d aa s j H x y v u Q I i l q e
 .show h' value d aa s j H x y v u Q I i l q e
def LY(l:kU X r)(g:PE X a ta)(i:PE X b tb)(hs:Ec b):PE X `dG `cr:=by
 intro aa s j H Q I h;show Subscript_<|Co g i I h λv u o x y d e m n q=>l a b aa o j d x y v u Q e m n q<|hs _ _
abbrev EV(K:ar):R2:=λx y H Q=>∃p d i v,x=.ref p/\y=.int i/\bH K H p d/\c8 d i=À v/\Q v H
abbrev EW(K:ar):R2:=λx y H Q=>∃p d i v,x=.ref p/\y=.int i/\dM K H p d/\c8 d i=À v/\Q v H
abbrev EX:R2:=λx y H Q=>∃z i c,x=.str z/\y=.int i/\↑z<=Ô/\c8 z.cps.toList i=À c/\Q (.str #[([c].toArray)]) H
def MY:kU X (EV X.K):=by
 intro value n aa s G H x y v u Q I O U h B;let#[p,xs,i,z,rfl,rfl,N,J,q]:=h;cases O;∎;let#[t,rfl]:=U;let#[g,r,l,hz]:=I.list N;let#[j,e,C,h3,D,E]:=AH J;let#[w,o,m]:=r.get C;∎;have M:=↑r;have hn:=rM;have d:EP X aa G Q w s:=#[z,H,I,m,q];by_cases A:0<=i
 .have hj:i.toNat=j:=by
   rw[seqIndex_of A E] at e;show Þ e
  show item_listR l.isList A ⋯ (by rw[hj];simpa using o) d B
 .have hj:(i+(g.toArray.size:Int)).toNat=j:=by
   rw[seqIndex_neg ⋯ D] at e;rw[â,<- M];show Þ e
  show at9 (x:=w) l.isList.typeIs slot_list_getitem.lookup
   (wpAny_getItem_list_neg (Q:=λr Y=>r=w/\EP X aa G Q r Y) l.isList ⋯ (by rw[â]<;>omega) ⋯ (by rw[hj];simpa using o) #[rfl,d]) B
def MT:kU X (EW X.K):=by
 intro value g aa s G H x y v u Q I J M h D;let#[p,xs,i,z,rfl,rfl,C,A,q]:=h;cases J;∎;let#[t,rfl]:=M;let#[E,r,l,hz]:=I.tuple C;let#[j,n,o,O,U,Y]:=AH A;let#[w,m,e]:=r.get o;∎;have B:=↑r;have hn:=rM;have d:EP X aa G Q w s:=#[z,H,I,e,q];show at9 (x:=w) l.typeIs slot_tuple_getitem.lookup
  (getItem_tuple (j:=j) (Q:=λr N=>r=w/\EP X aa G Q r N) l ⋯ ⋯ (by rw[â,<- B];show n) (by simpa using m) #[rfl,d]) D
def YA:kU X EX:=by
 intro value d aa s G H x y v u Q I B C h A;∎;let#[z,i,c,rfl,rfl,E,r,q]:=h;let#[t,rfl]:=B;let#[J,rfl]:=C;let#[j,e,m,D,n,o]:=AH r;∎;have w:↑z.cps.toList=↑z:=by simp[Str.length]
 rw[w] at e n o;have hn:=rM;show tail_any (typeIs_str s z t) slot_str_getitem.lookup (getItem_str (c:=c) (by
  have g:decide (i < -(2 ^ 63:Int))=Å:=au7 ⋯;have l:decide (i ≥ 2 ^ 63)=Å:=au7 ⋯;rw[g,l,Bool.or_false]) (by rw[e];simpa using m) #[.str #[([c].toArray)],H,I.tok _,#[_,rfl],q]) A
abbrev Kg(K:ar):R2:=λx y H Q=>EV K x y H Q\/EW K x y H Q\/EX x y H Q
def MU:kU X (Kg X.K):=MY.or<|MT.or YA
def QM(bw:aS)(n j:Nat)(u:au):œ (·.setIfInBounds j u) { cls:=.type "list",data:=.seq bw.toArray n }={ cls:=.type "list",data:=.seq (bw.set j u).toArray n }:=by
 simp[œ]
def ax.ah{H:Hp}(I:ax X aa j H s)(h:H p=À `bO):
  ∃(bw:aS)(n:Nat),aL xs bw/\s.heap.get? p=À { cls:=.type "list",data:=.seq bw.toArray n }/\↑xs<=Ô:=by
 let#[z,bw,n,r,e]:=I.aP p _ h;show#[bw,n,r,e,z]
def ax.qx{aa:aZ}{j:St}{H:Hp}{s:ao}{p:ai}{xs ys:az}{bw its':aS}{n n':Nat}{f:Obj->Obj}(I:ax X aa j H s)(h:H p=À `bO)(i:s.heap.get? p=À { cls:=.type "list",data:=.seq bw.toArray n })(d:f { cls:=.type "list",data:=.seq bw.toArray n }={ cls:=.type "list",data:=.seq its'.toArray n' })(r:aL ys its')(hz:↑ys<=Ô)(t:Nat):
  ax X aa j (aQ H p<|.ah ys) { s with heap:=s.heap.update p f,toks:=t }:=by
 have e:(s.heap.update p f).get? p=À { cls:=.type "list",data:=.seq its'.toArray n' }:=by
  rw[ċ f i (by rw[d]<;>rfl),d]
 show I.write (x:=p) (e:=p) (by rw[h];trivial) `al (λb u g q=>(ö _ _<|ć g).trans q) #[_,e] ?_;show#[hz,its',n',r,e]
abbrev El:V->V->V->Hp->(Hp->Prop)->Prop:=λo i v H Q=>∃p d k j,o=.ref p/\i=.int k/\H p=À (.ah d)/\jl ↑d k=À j/\Q (aQ H p<|.ah<|d.set j v)
def Um:Fs X El:=by
 intro aa s G H o i v ov N u Q I D C E h;let#[p,J,k,j,rfl,rfl,z,A,q]:=h;cases D;∎;let#[t,rfl]:=C;let#[d,n,r,l,B]:=I.ah z;let#[e,M,x,y]:=Ig A;∎;have g:=↑r;have hn:=rM;have m:ax X aa G (aQ H p<|.ah<|J.set j v) { s with heap:=s.heap.update p (œ (·.setIfInBounds j u)) }:=
  I.qx z l (QM d n j u) (r.set E j) (by rw[û];show B) s.toks
 by_cases w:0<=k
 .have hk:k.toNat=j:=by
   rw[seqIndex_of w y] at e;show Þ e
  show W.ki_setAt l w ⋯ (by rw[â,<- g];show y) (by rw[hk];show#[_,m,q])
 .have hk:(k+(d.toArray.size:Int)).toNat=j:=by
   rw[seqIndex_neg ⋯ x] at e;rw[â,<- g];show Þ e
  show W.ki_setBack l ⋯ (by rw[â,<- g];show x) ⋯ (by rw[hk];show#[_,m,q])
def OX(lo d:bR)(n:Nat):(Ϲ lo d Ä n).1=((HT.d7 n 0 lo:Nat):Int)/\(Ϲ lo d Ä n).2.1=((HT.d7 n n d:Nat):Int)/\(Ϲ lo d Ä n).2.2=1:=by
 show#[?_,?_,rfl]
 .cases lo with
  |none=>simp[Ϲ,HT.d7]
  |some i=>
   simp only[Ϲ,HT.d7,as8,show (1:Int) > 0 by decide,if_true];by_cases h:i<0
   .simp only[h,if_true]<;>omega
   .simp only[h,if_false]<;>omega
 .cases d with
  |none=>simp[Ϲ,HT.d7]
  |some i=>
   simp only[Ϲ,HT.d7,as8,show (1:Int) > 0 by decide,if_true];by_cases h:i<0
   .simp only[h,if_true]<;>omega
   .simp only[h,if_false]<;>omega
def Ow(bw:aS)(lo d:bR):slicePick bw.toArray lo d Ä=((bw.drop<|HT.d7 ↑bw 0 lo).take<|HT.d7 ↑bw ↑bw d - HT.d7 ↑bw 0 lo).toArray:=by
 let#[e,g,h]:=OX lo d bw.toArray.size;unfold slicePick;rw[e,g,h];simp only[sliceRange_one,pick_run,â]<;>rfl
abbrev EY(K:ar):V->bR->bR->Hp->VK->Prop:=λx lo e H Q=>∃a d,x=.ref a/\bH K H a d/\∀p,H p=Ä->Q `ao (aQ H p<|.ah<|wB d lo e)
def MZ:nO X (EY X.K):=by
 intro aa s j H x v C D lo g B Q I z l w y h;let#[a,d,rfl,m,q]:=h;cases z;let#[u,r,i,n]:=I.list m;have e:=↑r;show#["list",_,slot_list_getitem.lookup,i.isList.typeIs,?_];show wpAny_getItem_list_slice i.isList l w y .none ∅ ?_ (by rw[â]<;>omega);rw[Ow,<- e];show#[.ref ⇑s,_,I.laid (t':=s.toks) (o:=.ah<|wB d lo g) (λb A q=>Ã _ q) (Ñ _) ?_,rfl,q _<|I.aP.fresh<|Ñ _];show#[Ï (Po d lo g) n,_,0,(r.drop<|HT.d7 ↑d 0 lo).take<|HT.d7 ↑d ↑d g - HT.d7 ↑d 0 lo,Ó _ rfl]
abbrev mf:V->Bool
 |.aM=>Â
 |.bl _=>Â
 |.int _=>Â
 |.str _=>Â
 |_=>Å
abbrev kr:V->V->Bool
 |.aM,.aM=>Â
 |.bl a,.bl b=>a == b
 |.bl a,.int b=>(if a then 1 else 0) == b
 |.int a,.bl b=>a == (if b then 1 else 0)
 |.int a,.int b=>a == b
 |.str a,.str b=>a == b
 |_,_=>Å
def uv(h:aH y u)(d:aH x v)(i:mf y=Â)(g:mf x=Â):Ź A s u v (kr y x):=by
 cases y with
 |aM=>
  cases h;cases x with
  |aM=>cases d;show af8 _
  |bl b=>cases d;show SeqAt.EqAt.none_bool b
  |int b=>let#[t,rfl]:=d;show SeqAt.EqAt.none_int b t
  |str b=>let#[t,rfl]:=d;show SeqAt.EqAt.none_str b t
  |_=>show au5 (show Å=Â from g) à
 |bl a=>
  cases h;cases x with
  |aM=>cases d;show SeqAt.EqAt.bool_none a
  |bl b=>cases d;show SeqAt.EqAt.bool_bool a b
  |int b=>let#[t,rfl]:=d;show SeqAt.EqAt.bool_int a b t
  |str b=>let#[t,rfl]:=d;show SeqAt.EqAt.bool_str a b t
  |_=>show au5 (show Å=Â from g) à
 |int a=>
  let#[e,rfl]:=h;cases x with
  |aM=>cases d;show SeqAt.EqAt.int_none a e
  |bl b=>cases d;show SeqAt.EqAt.int_bool a e b
  |int b=>let#[t,rfl]:=d;show SeqAt.EqAt.int_int a e b t
  |str b=>let#[t,rfl]:=d;show am0 a e b t
  |_=>show au5 (show Å=Â from g) à
 |str a=>
  let#[e,rfl]:=h;cases x with
  |aM=>cases d;show SeqAt.EqAt.str_none a e
  |bl b=>cases d;show SeqAt.EqAt.str_bool a e b
  |int b=>let#[t,rfl]:=d;show am1 a e b t
  |str b=>let#[t,rfl]:=d;show SeqAt.EqAt.str_str a e b t
  |_=>show au5 (show Å=Â from g) à
 |_=>show au5 (show Å=Â from i) à
abbrev jg(x:V)(u:au):Bool:=match u with
 |.none=>kr .aM x
 |.bool b=>kr `bG x
 |.int i _=>kr `aE x
 |.str z _=>kr (.str z) x
 |_=>Å
def Jq(r:aH y u)(f:mf y=Â):jg x u=kr y x:=by
 cases y with
 |aM=>cases r;rfl
 |bl b=>cases r;rfl
 |int i=>let#[t,rfl]:=r;rfl
 |str z=>let#[t,rfl]:=r;rfl
 |_=>show au5 (show Å=Â from f) à
def ug:∀{xs:az}{us:aS},aL xs us->xs.all mf=Â->us.any `bH=xs.any λy=>kr y x
 |_,_,.nil,_=>rfl
 |y::xs,u::us,.cons r t,f=>by
  rw[Ν,ê] at f;rw[Ϥ,Ϥ,Jq r f.1,ug t f.2]
def uq(g:aH x v)(e:mf x=Â):∀{xs:az}{us:aS},aL xs us->xs.all mf=Â->∀u∈us,Ź A s u v<|jg x u
 |_,_,.nil,_=>λu d=>by cases d
 |y::xs,u::us,.cons r t,f=>λh d=>by
  rw[Ν,ê] at f;rcases ä.mp d with rfl |d
  .rw[Jq r f.1];show uv r g f.1 e
  .show uq g e t f.2 h d
abbrev xG(x:V)(xs:az):Bool:=xs.any λy=>kr y x
abbrev u7(K:ar)(neg:Bool):R2:=λx y H Q=>∃p d,y=.ref p/\(bH K H p d\/dM K H p d)/\mf x=Â/\d.all mf=Â/\Q (.bl (if neg then !xG x d else xG x d)) H
def MS:cw X (í .In) (u7 X.K Å):=by
 intro aa s j H x y v u Q I i l h;let#[p,m,rfl,d,g,fs,q]:=h;cases l;rcases d with d |d
 .obtain⟨bw,r,pl,hz⟩:=I.list d;show SeqAt.in_listAt `bH pl.isList (λw e=>uq i g r fs w<|by simpa using e) #[.bl _,H,I,rfl,?_];rw[show bw.toArray.any `bH=bw.any `bH by simp,ug r fs];show q
 .obtain⟨bw,r,pl,hz⟩:=I.tuple d;show SeqAt.in_tupleAt `bH pl (λw e=>uq i g r fs w<|by simpa using e) #[.bl _,H,I,rfl,?_];rw[show bw.toArray.any `bH=bw.any `bH by simp,ug r fs];show q
def MQ:cw X `dN (u7 X.K Â):=by
 intro aa s j H x y v u Q I i l h;let#[p,m,rfl,d,g,fs,q]:=h;cases l;rcases d with d |d
 .obtain⟨bw,r,pl,hz⟩:=I.list d;show SeqAt.notIn_listAt `bH pl.isList (λw e=>uq i g r fs w<|by simpa using e) #[.bl _,H,I,rfl,?_];rw[show bw.toArray.any `bH=bw.any `bH by simp,ug r fs];show q
 .obtain⟨bw,r,pl,hz⟩:=I.tuple d;show SeqAt.notIn_tupleAt `bH pl (λw e=>uq i g r fs w<|by simpa using e) #[.bl _,H,I,rfl,?_];rw[show bw.toArray.any `bH=bw.any `bH by simp,ug r fs];show q
def bQ.or{r d:az->Hp->VK->Prop}(h:bQ X f r)(h':bQ X f d):bQ X f (λxs H Q=>r xs H Q\/d xs H Q):=by
 intro aa s j H xs us Q I rs q;rcases q with q |q
 .show h aa s j H xs us Q I rs q
 .show h' aa s j H xs us Q I rs q
def yw:bQ X (.type "list") (λxs H Q=>∃p ys,xs=[.ref p]/\(bH X.K H p ys\/dM X.K H p ys)/\∀l,H l=Ä->Q `ef (aQ H l<|.ah ys)):=by
 intro aa s j H xs us Q I r h;∎;let#[p,ys,rfl,y,q]:=h;let#[u,rfl,D]:=kg r;∎;cases D;have v:∀(d:aS),aL ys d->↑ys<=Ô->∀(g:aU)(i:Nat),(∀b C,s.heap.get? b=À C->g.get? b=À C)->
   g.get? ⇑s=À { cls:=.type "list",dict:=Ä,data:=.seq d.toArray i,slots:=([].toArray) }->EP X aa j Q `bZ { s with heap:=g }:=λd m z g i kp e=>
  #[.ref ⇑s,_,I.laid (t':=s.toks) kp (Ñ _) (show bc X.prog X.w _ g _ (.ah ys) from #[z,d,i,m,e]),rfl,q _<|I.aP.fresh<|Ñ _]
 rcases y with y |y
 .obtain⟨d,m,pl,z⟩:=I.list y;have x:=↑m;let#[o,B,A,n,hd]:=pl.isList;show call_list_seq p `al B A hd (λg i kp e=>v d m z g i kp e) (by simp only[â]<;>omega)
 .obtain⟨d,m,pl,z⟩:=I.tuple y;have x:=↑m;let#[o,B,A,n,hd]:=pl;show call_list_seq p (.inr rfl) B A hd (λg i kp e=>v d m z g i kp e) (by simp only[â]<;>omega)
abbrev CG(K:ar)(T:String)(x:V)(H:Hp):Prop:=match x with
 |.str _=>T = "str"
 |.int _=>T = "int"
 |.ref p=>(T = "list" /\ ∃e,bH K H p e) \/ (T = "tuple" /\ ∃o,K.lookup p=À o /\ o.cls=.type "tuple" /\ o.dict=Ä) \/
   (T="dict"/\((∃d,H p=À `cZ)\/∃d,H p=À (.dT d)))\/(T="set"/\∃S n,H p=À (.set S n))
 |_=>False
def YB(I:ax X aa j H s)(r:aH x v)(ty:CG X.K T x H):
  s.TypeIs v T/\∀a,v=.ref a->∃ob,s.heap.get? a=À ob/\ob.dict=Ä:=by
 cases x with
 |str z=>
  let#[t,rfl]:=r;cases (show T="str" from ty);show#[typeIs_str s z t,λ_ e=>nomatch e]
 |int i=>
  let#[t,rfl]:=r;cases (show T="int" from ty);show#[typeIs_int s i t,λ_ e=>nomatch e]
 |ref p=>
  cases r;rcases ty with⟨rfl,q,m⟩ |⟨rfl,o,d,l,hd⟩ |⟨rfl,d⟩ |⟨rfl,S,n,d⟩
  .obtain⟨bw,_,pl,_⟩:=I.list m;show#[pl.isList.typeIs,λa e=>?_];cases e;let#[o,n,e,c,hd,_]:=pl;show#[o,e,hd]
  .show#[#[o,I.dc p o d,l],λa e=>?_];cases e;show#[o,I.dc _ o d,hd]
  .have z:∃o,s.heap.get? p=À o/\o.ExactDict:=by
    rcases d with⟨h,d⟩ |⟨h,d⟩
    .obtain⟨_,_,_,_,o,_,_,e,ex,_⟩:=I.aP p _ d;show#[o,e,ex]
    .obtain⟨_,_,_,_,o,_,_,e,ex,_⟩:=I.aP p _ d;show#[o,e,ex]
   let#[o,e,ex]:=z;show#[#[o,e,ex.1],λa g=>?_];cases g;show#[o,e,ex.2.1]
  .obtain⟨o,_,_,_,e,ex,_⟩:=I.aP p _ d;show#[#[o,e,ex.1],λa g=>?_];cases g;show#[o,e,ex.2.1]
 |_=>show ë ty
abbrev CC(K:ar)(T:String)(r:V->az->Hp->VK->Prop)(g:TE)(t:TA):TE:=λj H Q=>g j H λx d=>CG K T x d/\t j d λh e=>r x h e Q
variable{o e:đ}{es:bS}{to:TE}{t:TA}{name:Str}{apos bu:Pos}{T id:String}{r:V->az->Hp->VK->Prop}
def Km(J:PlainAttrs T)(slot:Slot T name id)(m:typeOf `aO=pure (.type "method_descriptor"))(hm:Mz X id r)(G:PE X o to)(E:PA X (e::es) t)(g:do ú o name X.env `as=eval o X.env)(l:((Ų bu<|ā (e::es) X.env).all (λx=>!x.1)&&(ϸ bu<|Ř [] X.env).all (λx=>x.1.isSome)
   && decide ((e::es).length+([]:List aa6).length+(if ([]:List aa6).isEmpty then 0 else 1)<30))=Â:=by rfl)(i:do (apos.endLine == bu.line)=Â)(hs:do ew e es X.env)(d:do gf bu es X.env):
  PE X (.Call (.Attribute o name apos) (e::es) [] bu) (CC X.K T r to t):=by
 intro aa s j H Q I h;show wpAny_Call_method_late g l i rfl<|bh (G aa s j H _ I h) λv O n=>?_;∎;let#[x,z,u,y,ty,M]:=n;let#[C,D]:=YB u y ty;∎;show#[T,id,J,slot,m,C,D,?_];have w:=E bu aa O j z _ u M;rw[hs] at w ⊢;show ŏ (by change (Å || (Ų bu (ā es X.env)).any (·.1))=Å;rw[d]<;>rfl)<|ac0 ?_;show bh w λus U q=>by let#[vs,A,B,r2,N]:=q;show hm aa U j A x vs v us Q B y r2 N
end
abbrev CO(X:Cx)(id:String)(r:V->az->Hp->VK->Prop):Prop:=
 ∀(aa:aZ)(s:ao)(j:St)(H:Hp)(x:V)(a:az)(v:au)(us:aS)(Q:VK),ax X aa j H s->aH x v->aL a us->r x a H Q->
  Ø `aa X.A (call `aO (v::us)) `at X.xe s
def aL.one:∀{x:V}{us:aS},aL [x] us->∃u,us=[u]/\aH x u:=by
 intro x us h;cases h with
 |cons r t=>cases t;show#[_,rfl,r]
def aL.rep(h:aL xs us):∀k:Nat,aL (Ò k xs).flatten (Ò k us).flatten
 |0=>.nil
 |k + 1=>by
  rw[ae6,ae6,at5,at5];show aL.append h<|aL.rep h k
section
variable{X:Cx}{aa:aZ}{σ:St}{H:Hp}{s:ao}{l b:ai}{xs ys zs:az}
def ax.BG{bw its':aS}{n:Nat}{f:dk->dk}{t':Nat}(I:ax X aa σ H s)(a:H l=À `bO)(e:s.heap.get? l=À { cls:=.type "list",data:=.seq bw.toArray n })(g:f bw.toArray=its'.toArray)(i:aL ys its')(hz:↑ys<=Ô):
  ax X aa σ (aQ H l<|.ah ys) { s with heap:=s.heap.update l<|œ f,toks:=t' }:=by
 have q:=PySem.IsL.update e f;rw[g] at q;show I.write (x:=l) (e:=l) (by rw[a];show trivial) `al (λj u d h=>(ö s.heap (œ f)<|ć d).trans h) #[_,q] ?_;show#[hz,its',_,i,q]
def ax.u1(I:ax X aa σ H s)(a:aL ys bw)(hz:↑ys<=Ô):
  ax X aa σ (aQ H ⇑s (.ah ys)) { s with heap:=s.heap.push { cls:=.type "list",data:=.seq bw.toArray },toks:=t' }:=
 I.laid (λ_ _ q=>Ã _ q) (Ñ _) #[hz,bw,0,a,Ó _ rfl]
def ax.fresh(I:ax X aa σ H s):H ⇑s=Ä:=I.aP.fresh<|Ñ _
def ax.BH(I:ax X aa σ H s)(a:H l=À `bO):↑xs<=Ô/\∃(bw:aS)(n:Nat),aL xs bw/\↑xs=↑bw/\s.heap.get? l=À { cls:=.type "list",data:=.seq bw.toArray n }:=by
 let#[z,bw,n,r,e]:=I.aP l _ a;show#[z,bw,n,r,r.length,e]
end
section
variable{X:Cx}
abbrev Ed:V->az->Hp->VK->Prop:=λx vs H Q=>∃l a y,x=.ref l/\vs=[y]/\H l=À (.ah a)/\↑a<Ô/\Q .aM (aQ H l<|.ah<|a++[y])
def Rg:CO X "list.append" Ed:=by
 intro aa s j H x vs v us Q I i g h;let#[l,w,y,rfl,rfl,b,o,q]:=h;cases i;∎;let#[u,rfl,d]:=g.one;let#[z,a,n,r,m,e]:=I.BH b;∎;show ap7 F.slot_list_append #[_,e,rfl] F.entry_list_append (F.args_list_append_2 _ _) (PySem.list_append l a.toArray n u (by rw[â];omega)) #[e,?_];show#[.aM,_,I.BG (its':=a++[u]) b e ∅ (r.append<|.cons d .nil) ?_,rfl,q];rw[Ö,Œ];omega
end
end L2
namespace Att
open PySem PySem.W PySem.Calls PyProof.Rows
def Oa:∀(ns:aC)(vs:aS),WellAll P h vs (ns.map WData.int)->an7 vs ns:=by
 intro ns
 induction ns with
 |nil=>
  intro vs w;rw[ad8] at w;cases w;show .nil
 |cons n ns d=>
  intro vs w;rw[è] at w;cases w with
  |cons a b=>
   cases a;show .cons _ _<|d _ b
def Rh{l:ap2}{n:Nat}(hn:l.most=À n){P:Params}{h:aU}{args:List WData}{e:aS}(b:l.row.toRowW.claim.pre args=Â)(u:WellAll P h e args):
  ∃a vs ns,e=[Ú a]/\args=[WData.list<|ns.map WData.int]/\h.get? a=À { cls:=.type "list",data:=.seq vs.toArray }/\an7 vs ns/\↑ns<=n:=by
 have o:WShape.hasAll [] args [.list .int]=Â:=(pre_splitW b).1;have v:l.pre.holds [] { args:=args }=Â:=(pre_splitW b).2;let#[d,r,rfl,w,x]:=hasAllW_cons o;obtain rfl:=hasAllW_nil x;∎;let#[D,rfl,y]:=hasW_list w;let#[ns,rfl]:=items_int y;∎;have i:↑ns<=n:=by
  unfold OpenLaw.pre at v;have j:(WTm.not<|.lt (.lit<|.int (n:Int))<|.len<|.arg 0).holds [] { args:=[.list<|ns.map .int] }=Â:=by
   have j:=(holds_andW v).1;rw[hn] at j;show j
  have m:=condW_of j<|w_not<|w_lt w_lit<|w_len_list<|w_arg rfl;rw[Æ] at m;show Nat.le_of_not_lt λq=>?_
  have A:(n:Int)<((↑ns:Nat):Int):=⋯
  first
   |(rw[au6 A] at m;show au5 m ∎)
   |(simp at m;omega)
 cases u with
 |cons B C=>
  cases C;cases B with
  |list z g=>show#[_,_,ns,rfl,rfl,z,Oa ns _ g,i]
def Ri(l:ap2)(args:List WData):l.row.toRowW.claim.post args (.bool Â) args=Â:=
 postW_of (r:=l.row.toRowW) (X:=(Â == Â))
  (show WShape.has [] (.bool Â) .bool=Â by first |rfl |decide |simp[WShape.has,WShape.arms,WShape.armsAll])
  (show (WTm.eq .res<|.lit<|.bool Â).value [] { args:=args,res:=À<|.bool Â,after:=args }=À (.bool<|Â == Â) from w_eq_bool (w_res rfl) w_lit) rfl
def iA{l:ap2}{n:Nat}{q:é}{e:aj}{B:(bx)->aU->Prop}{C:ü->aU->Prop}{d:DefRec}(hn:l.most=À n)(x:d.params.defaults=[])(call:∀(w:ü)(s₀ b:ao)(mg A:bx)(h:ai)(o:Obj)(pm u doc:au)(a:ai)(vs:aS)(ns:aC),
   Ground q e [] B w s₀ mg A b.heap->C w b.heap->
   b.heap.get? h=À o->o.data=.func (docDef d.name d.params d.body d.scope pm u doc)->b.heap.CodeRec u d.name->mg d.name=À (.ref h)->
   b.heap.get? a=À { cls:=.type "list",data:=.seq vs.toArray }->an7 vs ns->↑ns<=n->b.gens=([].toArray)->
   ź (Ù l.prog w) aj5 (.call (.ref h) #[[.ref a],[]]) (λr s'=>r=.ok (.ret<|.bool Â)/\OldK b.heap s'.heap/\s'.os=b.os/\aa3 s'.gens) b):
  WalkO q e B C l.row.toRowW d [] (λf vs=>PySem.call f vs):=by
 intro w s₀ b mg A G Y h o pm u doc I kV U hd v D y O args H as m E α z Q;obtain rfl:I=.none:=Dflts.none D x;obtain rfl:kV=.none:=Dflts.noKw D;let#[a,vs,ns,rfl,rfl,j,g,i]:=Rh hn m z;show enter_call<|Ż (call w s₀ b mg A h o pm u doc a vs ns G Y U (fd_plain hd) v y j g i O) λr s' hq=>?_;let#[rfl,J,M,N]:=hq;show#[.inl #[.bool Â,.bool Â,[],rfl,λ_=>rfl,.bool Â,Ri l _,λ_=>#[List.Pairwise.nil,λ_ hm=>(nomatch hm)]],J,M,N]
end Att
namespace L2
open PySem PySem.Spec PyProof.Rows
def GN:∀{vs:aS}{ns:aC},an7 vs ns->aL `aI vs
 |_,_,.nil=>.nil
 |_,_,.cons n t h=>.cons #[t,rfl]<|GN h
abbrev zd(H:Hp):Prop:=∀b,H b=Ä\/∃o a,H b=À (.aE o<|.ah a)
def Uo{P:é}{w:ü}{K:ar}{mg Y:bx}{CX:gs}{k:Nat}{N a:ai}{fd:Ĥ}{x:Str}{sp:Sp}{g:ao}{vs:aS}{ns:aC}(KX:K.In g.heap)(D:g.heap.Ns ř mg)(j:g.heap.Ns builtinsNs Y)(Q:∀x:Str,x≠"__name__"->Y x=Ō x)(C:g.heap.NoLimit)(hg:g.gens=([].toArray))(J:g.heap.get? a=À { cls:=.type "list",data:=.seq vs.toArray })(hi:an7 vs ns)(hl:↑ns<=Ô)(hr:bD k aj5)(F:∀base:Heap,K.In base->base.Ns ř mg->aG P w K mg base CX k N fd [x] sp)(y:∀(s:ao)(u:au),BindsTo s fd #[[u],[]] [(x,u)])(U:∀H:Hp,zd H->bH K H a `aI->sp [.ref a] H (λv _=>v=.bl Â) λ_ _ _=>False)(O:∀H e s',CX [] H g (λ_ _ _=>False) e s'->False):
  ź `bP aj5 (.call (.ref N) #[[.ref a],[]]) (λr s'=>r=.ok (.ret<|.bool Â)/\OldK g.heap s'.heap/\s'.os=g.os/\aa3 s'.gens) g:=by
 have rv:=GN hi;have G:=↑hi;have core:∀H:Hp,zd H->bH K H a `aI->dD P w H g.heap->(∀b,H b≠Ä->b=a)->(H a≠Ä->K.lookup a=Ä)->
   ź `bP aj5 (.call (.ref N) #[[.ref a],[]]) (λr s'=>r=.ok (.ret<|.bool Â)/\OldK g.heap s'.heap/\s'.os=g.os/\aa3 s'.gens) g:=by
  intro H hO hS aP hA hK;have i:∀{b:ai}{o:Obj},g.heap.get? b=À o->H b=Ä->(mV g.heap H).get? b=À o:=λe n=>Th e n
  have α:∀{b:ai}{o:Obj}{es:Array DictEntry}{A:Nat},g.heap.get? b=À o->o.data=.dict es A->H b=Ä:=λ{b o es A} e d=>by
   cases q:H b with
   |none=>rfl
   |some u=>
    have M:b=a:=hA b (by rw[q];simp);subst M;rw[J] at e;cases e;have d':Data.seq vs.toArray _=Data.dict es A:=d;cases d'
  have l:∀{b:ai}{m:bx},g.heap.Ns b m->(mV g.heap H).Ns b m:=λ{b m} ⟨o,es,A,e,d,r⟩=>#[o,es,A,i e<|α e d,d,r]
  have B:K.In `db:=λb o e=>i (KX b o e) (by
   cases q:H b with
   |none=>rfl
   |some u=>
    have M:b=a:=hA b (by rw[q];simp);subst M;rw[hK (by rw[q];simp)] at e;cases e)
  have hM:Mod K mg `db:=#[B,l D,#[Y,l j,Q],let ⟨mc,h1,h2⟩:=C;#[mc,l h1,h2]]
  have e0:i7 P w K mg `db aj5 [] g H:=#[rfl,hM,λb o e=>WU e,Nat.le_of_eq<|Q2 _ _,trivial,λb j=>au5 (show b∈([]:cU) from j) ∅,aP,.of_eq hg]
  show Ż ((F _ B<|l D).run aj5 [] g H #[[.ref a],[]] [.ref a] [.ref a] _ _ hr e0 (y g<|.ref a) (.cons rfl .nil) (U H hO hS)) λr s' h=>?_
  cases r with
  |error e=>show (O H e s' h).elim
  |ok fl=>
   cases fl with
   |next=>show ë h
   |brk=>show ë h
   |cont=>show ë h
   |ret u=>
    let#[v,H',os,bare,un,E,r',q]:=h;have q':v=.bl Â:=q;subst q';obtain rfl:u=aa0 Â:=r';show#[rfl,OldK.of_keep λb o e=>?_,os,bare];cases q:H b with
    |none=>show un.keep b o e q (by intro z;show au5 (show b∈([]:cU) from z)<|by simp) ∅
    |some u=>
     rcases hO b with z |⟨ob,xs,z⟩
     .rw[q] at z;cases z
     .have z2:=un.bj b ob _ z;let#[e1,_]:=aP b _ z;let#[e2,_]:=E b _ z2;rw[e] at e1;cases e1;show e2
 cases hk:K.lookup a with
 |some o=>
  have e:=KX a o hk;rw[J] at e;cases e;show core (λ_=>Ä) (λ_=>.inl rfl) (.inr #[_,vs.toArray,_,hk,rfl,rfl,rfl,by rw[â,G];show hl,by simpa using rv]) (λb u z=>by have I:(Ä:Option HO)=À u:=z;cases I) (λb z=>au5 rfl z) λz=>au5 rfl z
 |none=>
  show core (λb=>if b=a then À (.aE { cls:=.type "list",data:=.seq vs.toArray } (.ah<|ns.map V.int)) else Ä) (λb=>?_) (.inl<|.inr #[{ cls:=.type "list",data:=.seq vs.toArray },au4 rfl]) (λb u z=>?_) (λb z=>?_) λ_=>hk
  .by_cases j:b=a
   .show .inr #[_,_,au4 j]
   .show .inl (au3 j)
  .by_cases j:b=a
   .have I:=(au4 j).symm.trans z;cases I;subst j;show#[J,by rw[Æ];show hl,vs,_,rv,J]
   .have I:=(au3 j).symm.trans z;cases I
  .by_cases j:b=a
   .show j
   .show au5 (au3 j) z
def nK{l:ap2}{n k:Nat}{q:é}{m:aj}{N:(bx)->aU->Prop}{M:ü->aU->Prop}{d:DefRec}{K:Params->ar}{CX:ü->gs}{sp:ü->Sp}{x:Str}(hn:l.most=À n)(E:n<=Ô)(C:d.params.defaults=[])(hr:bD k aj5)(hY:∀(w:ü)(h:aU),M w h->(K w.params).In h)(F:∀(w:ü)(mg:bx)(z:ai)(h:aU),(K w.params).In h->h.Ns ř mg->mg d.name=À (.ref z)->
   ∃A:Ĥ,(∀(s:ao)(u:au),BindsTo s A #[[u],[]] [(x,u)])/\
    ∀base:Heap,(K w.params).In base->base.Ns ř mg->aG l.prog w `dp mg base (CX w) k z A [x] (sp w))(I:∀(w:ü)(H:Hp)(a:ai)(ns:aC),ns.length<=n->zd H->bH `dp H a `aI->sp w [.ref a] H (λv _=>v=.bl Â) λ_ _ _=>False)(B:∀(w:ü)(H:Hp)(s:ao)(e:au)(s':ao),CX w [] H s (λ_ _ _=>False) e s'->False):
  W.WalkO q m N M l.row.toRowW d [] (λf vs=>PySem.call f vs):=by
 show Att.iA hn C λw s₀ y mg mb z o pm cd doc a vs ns G Y ho hd α D r j i hg=>?_
 have J:=hY w _ Y;let#[A,hb,O]:=F w mg z _ J G.T.g D;show Uo J G.T.g G.T.b G.T.builtins G.T.nolimit hg r j (Ï i E) hr O hb (λH Q U=>I w H a ns i Q U) λH e s'=>B w H y e s'
abbrev inClass(s:ù)(j:Nat):ù:=match s with
 |.ClassDef _ _ _ a _ _ _ _ _ _ _=>a.getD j<|.Pass #[0,0,0,0]
 |_=>.Pass #[0,0,0,0]
abbrev ri(s:ù):Arguments:=match s with
 |.FunctionDef _ a _ _ _ _ _ _ _ _=>a
 |_=>{ posonlyargs:=[],args:=[],vararg:=Ä,kwonlyargs:=[],kw_defaults:=[],kwarg:=Ä,defaults:=[] }
abbrev kz(s:ù):List ù:=match s with
 |.FunctionDef _ _ b _ _ _ _ _ _ _=>b
 |_=>[]
abbrev bC(s:ù):Ρ:=match s with
 |.FunctionDef _ _ _ _ _ _ sc _ _ _=>sc
 |_=>{ kind:=.function,names:=[],isGenerator:=Å,isCoroutine:=Å }
nonrec abbrev bJ:gs:=λ_ _ _ _ _ _=>False
nonrec abbrev E0:XK:=λ_ _ _=>False
def uL:adc bJ X E0:=λ_ _ _ _ _ _ _ h=>h.elim
structure iQ(K:ar)(x qual:Str)(st:ù)(f:ai)(fd:Ĥ):Prop where
 ex:∃(oc:au)(od:b9)(kV doc pm:au)(an:b9)(bK ct:au)(osl:Array (eD)),
  fd=aj3 x qual (ri st) `bI `aY .none kV doc pm an bK ct/\K.lookup f=À #[oc,od,.func fd,osl]/\W.codeIn K bK qual=Â
 kp:ύ K `au=Â
section
variable{P:é}{w:ü}{K:ar}{mg:bx}{base:aU}
def iQ.ok{x a:Str}{st:ù}{f:ai}{g:Ĥ}{N ps:aj}{k:Nat}{sp:Sp}(F:iQ K x a st f g)(S:bT N ps `aY)(len:∀vs H Q E,sp vs H Q E->↑vs=↑ps)(b:∀(bK:au)(A:Ĉ)(outer:cL)(s:ao)(H:Hp)(vs:az)(Q:VK)(E:XK),bD k (A.deeper<|ė a (bC st) ⇑s f bK)->sp vs H Q E->
   ∃t,fV (kB bJ P w K mg base N a `aY f bK A outer s H E).sC `bI t/\t { nx:=λ_ i=>Q .aM i,rt:=Q } `bh H):aG P w K mg base bJ (k+1) f g ps sp:=by
 let#[oc,od,kV,doc,pm,an,bK,ct,osl,rfl,l,d]:=F.ex;show Kk l d S len λA outer s H vs Q E j e=>?_
 let#[t,h,q]:=b bK A outer s H vs Q E j e;show#[t,h.sC,q]
def iQ.binds{x a:Str}{st:ù}{f:ai}{b:Ĥ}{ps:aj}(F:iQ K x a st f b)(h:∀(kV doc pm:au)(an:b9)(bK ct:au)(us:aS),us.length=↑ps->bindArgs (aj3 x a (ri st) `bI `aY .none kV doc pm an bK ct) #[us,[]]=pure `bx):Binds K b ps []:=by
 let#[oc,od,kV,doc,pm,an,bK,ct,osl,rfl,e,d]:=F.ex;show .all<|h kV doc pm an bK ct
def Zs{x a:Str}{st:ù}{f:ai}{oc:au}{od an:b9}{osl:Array (eD)}{kV doc pm bK ct:au}(l:K.lookup f=À #[oc,od,.func<|aj3 x a (ri st) (kz st) (bC st) .none kV doc pm an bK ct,osl])(c:W.codeIn K bK a=Â)(k:ύ K `au=Â):iQ K x a st f (aj3 x a (ri st) `bI `aY .none kV doc pm an bK ct):=#[#[oc,od,kV,doc,pm,an,bK,ct,osl,rfl,l,c],k]
end
def Kn(a:bD k A):A.units+1<ņ:=ĕ (af2 (by decide:1<=64) _) a.units
section
variable{X:Cx}
def pv(i:Nat)(b:do X.N[i]?=À x)(d:o9 X.env.scope x:=by first |show ϛ rfl |show ŵ (ϛ rfl) |show ŵ<|ŵ rfl)(hd: ~~~(dS x))(a: ~~~((x == ("__classdict__":Str))=Å)):PE X `am (hJ i):=xA b d hd a
end
abbrev aF(H H':Hp):Prop:=∀b o,H b=À o->H' b=À o
def aF.refl(H:Hp):aF H H:=λ_ _ h=>h
def aF.trans(a:aF H H1)(b:aF H1 H2):aF H H2:=λc o h=>b c o<|a c o h
def aF.free{H a:Hp}(e:aF H a)(h:a l=Ä):H l=Ä:=by
 cases q:H l with
 |none=>rfl
 |some o=>
  rw[e l o q] at h;cases h
def aF.seq{K:ar}{H b:Hp}{a:ai}{xs:az}(e:aF H b)(h:bH K H a xs):bH K b a xs:=by
 rcases h with (h |⟨o,h⟩) |h
 .show .inl (.inl (e _ _ h))
 .show .inl (.inr ⟨o,e _ _ h⟩)
 .show .inr h
section
variable{X:Cx}
def RT:bQ X (.builtin "len") (λxs H Q=>∃a kvs,xs=[V.ref a]/\H a=À `ar/\Q (.int ↑kvs) H):=by
 intro aa s j H xs us Q I r h;∎;let#[a,kvs,rfl,d,q]:=h;let#[u,rfl,e]:=kg r;∎;cases e;show LX I (.inl d) λt g b=>#[.int ↑kvs,H,b,#[t,rfl],q]
end
end L2
namespace L2
open PySem PySem.Spec PyProof.Rows
abbrev jv(i j:Int):Prop:=∃n:Nat,n<=60000000/\i.natAbs<2 ^ n/\j.natAbs<2 ^ n
def Ih(h:x.natAbs<2 ^ n):ak0 x<=n:=by
 unfold ak0;by_cases e:(x == 0)=Â
 .rw[au4 e];show ľ _
 .rw[au3 e];have a:x.natAbs≠0:=by
   intro z;have:x=0:=⋯
   rw[this] at e;show e rfl
  show (ar4 a).mpr h
def jv.ok(h:jv i j):IntMulOk i j:=by
 let#[n,hn,a,b]:=h;have d:=Ih a;have g:=Ih b;intro z;simp only[ê,Builtin.Int.intTooBig,decide_eq_true_eq] at z;have e:(bitsLine:Nat)=134217728:=∎
 have z2:=z.2;rw[e] at z2;omega
abbrev mS(i j:Int):Prop:=mK i j\/jv i j
abbrev eB(_ j:Int):Prop:=j≠0/\j.natAbs<2 ^ 8000
def eB.ok(h:eB i j):Builtin.divisionGoesByPylong i j=Å:=by
 show PyProof.noPylong_of_log2 ?_;have a:j.natAbs≠0:=by have:=h.1;omega
 have:=(ar4 a).mpr h.2;omega
section
variable{X:Cx}
def M0:cw X `cO (rI mS λi j=>.int<|i*j):=xU λ_ _ _ _ _ _ _ a q=>mul_int q<|a.elim mK.ok jv.ok
def Up:cw X (Ş .FloorDiv) (rI eB λi j=>.int<|i.fdiv j):=xU λ_ _ _ _ _ _ _ a q=>floordiv_int a.1 q<|.inl a.ok
end
section
variable{X:Cx}{aa:aZ}{σ:St}{H:Hp}{s:ao}{a:ai}{kvs:bY}
def ax.freeze(I:ax X aa σ H s)(e:H a=À `ar):∃o,s.heap.get? a=À o/\ax X aa σ (aQ H a<|.aE o<|.dK kvs) s:=by
 have ok:bc X.prog X.w H s.heap a `ar:=I.aP a _ e;let#[z,y,vs,r,o,es,d,b,c]:=id ok;show#[o,b,?_];show I.write (h':=s.heap) (t':=s.toks) (x:=a) (e:=a) (by rw[e];show ø) `al (λ_ _ _ q=>q) #[o,b] #[b,z,y,vs,r,o,es,d,b,c]
def ax.eU(I:ax X aa σ H s)(e:H a=À (.aE o<|.dK kvs))(hn:∀o u,X.H₀ a≠À `aG):ax X aa σ (aQ H a<|.dK kvs) s:=by
 have ne:∀b u,H b=À u->(∀o A,u≠.aE o A)->b≠a:=λb u h d z=>by
  subst z;rw[e] at h;show d _ _ (Þ h).symm
 let#[B,ok]:=(show bc X.prog X.w H s.heap a (.aE o<|.dK kvs) from I.aP a _ e);show#[I.ok,I.os,I.bare,#[λb g q n j i=>I.base.keep b g q n j i,λb g q n j i=>I.base.slot b g q n j i,λb g q n i=>?_,λb g q i=>I.base.there b g q i,λb l q=>?_,λb g u q=>?_,λb v q=>?_],I.loc,I.cell,?_,λx c q=>?_,λp r=>?_,λb u q=>?_,I.len]
 .have z:=I.base.free b g q n i;rw[a9 (by intro y;subst y;rw[e] at z;cases z)];show z
 .have z:=I.base.ed b l q;rw[a9<|ne b _ z<|λ_ _ y=>by cases y];show z
 .have z:=I.base.bj b g u q;rw[a9 (by intro y;subst y;show hn _ _ q)];show z
 .obtain⟨m,z⟩:=I.base.eT b v q;show#[m,by rw[a9<|ne b _ z<|λ_ _ y=>by cases y];show z]
 .rw[a9 (by intro y;have z:=I.free;rw[y,e] at z;cases z)];show I.free
 .rw[a9 (by intro y;have z:=I.cc x c q;rw[y,e] at z;cases z)];show I.cc x c q
 .obtain⟨p1,p2,p3,p4,p5⟩:=I.pin p r;show#[p1,?_,p3,p4,p5];rw[a9 (by intro y;rw[y,e] at p2;cases p2)];show p2
 .by_cases j:b=a
  .subst j;rw[cN] at q;cases q;show ok
  .rw[a9 j] at q;show (I.aP b u q).eS (λ_ _ _ z=>z) (λc z=>by rw[a9<|ne c _ z<|λ_ _ y=>by cases y];show z) λc l z=>by rw[a9<|ne c _ z<|λ_ _ y=>by cases y];show z
end
abbrev qN(a:ai)(ob:Obj)(kvs:bY):It:=
 #[λi H=>i<↑kvs/\H a=À (.aE ob<|.dK kvs),λi H x b=>∃p k v,kvs[i]?=À (k,v)/\H p=Ä/\x=.ref p/\b=aQ H p (.aJ [kV k,v]),λi H=>↑kvs<=i/\H a=À (.aE ob<|.dK kvs)]
def Ag(h:(fo P w).is k u=Â):aH (kV k) u:=by
 rcases l8 (k:=k) (v:=u) h with⟨i,t,rfl,rfl⟩ |⟨x,t,rfl,rfl⟩
 .show⟨t,rfl⟩
 .show⟨t,rfl⟩
def KV.at(r:KV kvs vs):∀{i:Nat}{k:aW}{v:V},kvs[i]?=À (k,v)->∃u,vs[i]?=À (k,u)/\aH v u:=by
 unfold KV at r
 induction r with
 |nil=>intro i k v h;simp at h
 |@cons p q d g h t b=>
  intro i k v e;cases i with
  |zero=>
   simp at e;subst e;have a:k=q.1:=h.1;show#[q.2,by rw[a];rfl,h.2]
  |succ i=>simpa using b (i:=i) (k:=k) (v:=v) (by simpa using e)
def QN{P:é}{w:ü}{K:ar}{elts:bS}{x1:Nat}{pos:Pos}(a it:ai)(ob:Obj)(kvs:bY)(ζ:a≠it):
  k7 P w K `aA (qN a ob kvs) [it] it (λi h=>∃es ep ok ov,ob.data=.dict es ep/\IsItemIter h it a i ↑kvs ep ok ov) where
 mem:=by simp
 obj:=λi h st b m=>by
  have e:b=it:=by simpa using m
  subst e;let#[es,ep,ok,ov,hd,e]:=st;show#[_,e,λv z=>by cases z]
 keep:=λi h h' st k=>by
  let#[es,ep,ok,ov,hd,e]:=st;show#[es,ep,ok,ov,hd,k it ∅ _ e]
 item:=by
  intro X hP hw hK hc i aa s j H E I hf st hg;subst hP hw hK;∎;let#[es,ep,ok,ov,hd,d]:=st;let#[hi,hH]:=hg;let#[C,z,y,vs,r,M,β,α,g,U,n,Y,c4,c5]:=(show bc X.prog X.w H s.heap a (.aE ob<|.dK kvs) from I.aP a _ hH);∎;have eo:M=ob:=by rw[C] at g;show (Þ g).symm
  subst eo;rw[hd] at n;cases n;have hm:s.heap.DictAt `aL a vs ep:=#[M,es,C,U,hd,Y,c4,c5];obtain⟨⟨k,v⟩,B⟩:∃q,kvs[i]?=À q:=#[kvs[i],by simp[hi]];let#[u,hu,ru]:=r.at B;have O:↑kvs=↑vs:=KV.length r;rw[O] at d;let#[N,f1,f2,f3,f4,f5]:=hf it ∅;show wpAny_pyNext_items_item d hm hu λl h' x D hT η hk=>?_
  show#[.ref ⇑s,rfl,wpAny_letOwnedTupleGo_items D λh2 he hs=>?_];have ε:it<⇑s:=Í d;have I1:=I.laid (a:=⇑s) (o:=.aJ [kV k,v]) (h':=s.heap.push { cls:=.type "tuple",data:=.seq ([l,u].toArray) }) (t':=s.toks) (λb q G=>Ã _ G) (Ñ _)
   #[by change 2<=Ô;decide,[l,u],.cons (Ag x)<|.cons ru .nil,#[_,Ó _ rfl,rfl,_,rfl]]
  have δ:H ⇑s=Ä:=I.aP.fresh<|Ñ _;have J:it≠⇑s:=ç ε;show#[.ref ⇑s,aQ H ⇑s (.aJ [kV k,v]),?_,rfl,#[_,k,v,B,δ,rfl,rfl],#[es,ep,l,u,hd,by rw[O];show he],λb m=>?_]
  .have I2:ax X aa j (aQ H ⇑s (.aJ [kV k,v])) { s with heap:=h2,toks:=s.toks }:=ax.turned (s:={ s with heap:=s.heap.push { cls:=.type "tuple",data:=.seq ([l,u].toArray) },toks:=s.toks }) I1 (h':=h2) (t':=s.toks) (it:=it) (λb q m G=>?_) (by rw[a9 J];show N) f1 f3 f4 f5
   .show I2
   .show hs.extBut b q m ?_;rcases ϩ G with⟨γ,eq⟩ |G
    .subst γ;subst eq;show hT
    .show hk b q m G
  .have e:b=it:=by simpa using m
   subst e;rw[a9 J];show N
 done:=by
  intro X hP hw hK hc i aa s j H E I hf st hg;subst hP hw hK;∎;let#[es,ep,ok,ov,hd,d]:=st;let#[hi,hH]:=hg;let#[C,z,y,vs,r,M,β,α,g,U,n,Y,c4,c5]:=(show bc X.prog X.w H s.heap a (.aE ob<|.dK kvs) from I.aP a _ hH);∎;have eo:M=ob:=by rw[C] at g;show (Þ g).symm
  subst eo;rw[hd] at n;cases n;have hm:s.heap.DictAt `aL a vs ep:=#[M,es,C,U,hd,Y,c4,c5];have O:↑kvs=↑vs:=KV.length r;rw[O] at d;let#[N,f1,f2,f3,f4,f5]:=hf it ∅;show wpAny_pyNext_items_end `bq d hm (by simp;omega) λh' eb=>#[rfl,I.turned (t':=s.toks) (λb o m e=>eb b o m e) N f1 f3 f4 f5]
 self:=λA i s Q E st h=>by
  let#[es,ep,ok,ov,hd,d]:=st;show W.kcp_self d h
section
variable{X:Cx}
abbrev yB(X:Cx)(g:TE):TI:=λj H R=>g j H λx d=>∃a b,x=.ref a/\d a=À (.dK b)/\∀e,(∀o u,X.H₀ a≠À `aG)->R (qN a e b) (aQ d a<|.aE e<|.dK b)
def He(ho:PE X o td)(m:ú o "items" X.env `as=eval o X.env)(n:(apos.endLine == bu.line)=Â):
  PI X `aA (.Call (.Attribute o "items" apos) [] [] bu) (yB X td):=by
 intro aa s j H R I h;show ac9 m n<|bh (ho aa s j H _ I h) λv l N=>?_;let#[x,O,B,r1,a,i,ex,C,q]:=N;subst ex;obtain rfl:v=Ú a:=r1;let#[U,t2,hd]:=uu B<|.inl #[i,.inl C];show#["dict","dict.items",PySem.F.plainAttrs_dict,PySem.F.slot_dict_items,PySem.F.type_dict_items,U,t2,ŏ rfl<|PySem.evalArgs_none ?_];let#[z,y,vs,r,dd]:=uK B.aP C;show ae2 PySem.F.slot_dict_items U PySem.F.entry_dict_items (PySem.F.args_dict_items_1 _) (meets_dict_items `aL a hd) #[#[vs,dd],?_];have E:ax X aa j O { l with heap:=l.heap.push { cls:=.type "dict_items",data:=.fields ([.ref a].toArray) } }:=B.kept (t':=l.toks) λb o e=>Ã _ e
 have M:∀o u,X.H₀ a≠À `aG:=λo u z=>by
  have:=B.base.bj a o u z;rw[C] at this;cases this
 let#[G,J]:=dd.dictAt;have g:=J.push { cls:=.type "dict_items",data:=.fields ([.ref a].toArray) };show wpAny_pyIter_items (v:=⇑l) (d:=a) #[_,Ó _ rfl,rfl,rfl] g ?_;let#[D,A,Y]:=(E.kept (t':=l.toks) (h':=(l.heap.push { cls:=.type "dict_items",data:=.fields ([.ref a].toArray) }).push { cls:=.type "dict_itemiterator",data:=.fields ([.none,.bool Å,.ref a,.int 0 0,.int ↑vs 0,.int G 0,.none,.none].toArray) }) λb o e=>Ã _ e).freeze C;have Q:a<(l.heap.push { cls:=.type "dict_items",data:=.fields ([.ref a].toArray) }).objs.size:=g.lt_size;have hl:↑i=↑vs:=KV.length r;show#[_,[_],_,_,aQ O a<|.aE D<|.dK i,rfl,Y,QN a (l.heap.push { cls:=.type "dict_items",data:=.fields ([.ref a].toArray) }).objs.size D i<|ç Q,?_,λb hb=>?_,q D M]
 .obtain⟨o2,es,ho2,c1,c2,_⟩:=g;have e3:D=o2:=by
   have e4:=Ã { cls:=.type "dict_itemiterator",data:=.fields ([.none,.bool Å,.ref a,.int 0 0,.int ↑vs 0,.int G 0,.none,.none].toArray) } ho2;rw[e4] at A;show (Þ A).symm
  subst e3;show#[es,G,.none,.none,c2,?_];rw[hl];show Ó _ rfl
 .have e:b=(l.heap.push { cls:=.type "dict_items",data:=.fields ([.ref a].toArray) }).objs.size:=by simpa using hb
  subst e;show E.fJ (Ñ _) ?_;rw[a9<|Ū Q];show E.aP.fresh<|Ñ _
abbrev mX(X:Cx)(R:Hp->Prop)(H:Hp):Prop:=∃a d b,H a=À (.aE d<|.dK b)/\(∀o u,X.H₀ a≠À `aG)/\R (aQ H a<|.dK b)
abbrev tO(X:Cx)(D:Ends):Ends:={ nx:=λj=>mX X<|D.nx j,rt:=λv=>mX X<|D.rt v,bk:=λj=>mX X<|D.bk j,ct:=λj=>mX X (D.ct j) }
abbrev Em(X:Cx)(a:TE)(g:TG)(tb:TS):TS:=λD j H=>zp (yB X a) g tb `dc j H
def Wr(hp:ac3 `aa X.A X.env X.xe)(B:X.calm=Â)(E:PE X o td)(C:PG X `aA g)(z:fV X body tb)(d:do ú o "items" X.env `as=eval o X.env)(i:do (apos.endLine == bu.line)=Â)(hs:∀x,Ě (.Call (.Attribute o "items" apos) [] [] bu) X.env x=pure x:=by intro _;rfl):PS X (.For `aA (.Call (.Attribute o "items" apos) [] [] bu) body [] fpos) (Em X td g tb):=by
 intro aa s j H D I h;have base:=Jm (pos:=fpos) hp B (He (elts:=elts) (x1:=x1) (pos:=pos) E d i) C z hs aa s j H `dc I h;show bh base λf J q=>?_
 cases f with
 |next=>let#[l,n,b,a,y,m,e,hn,r]:=q;show#[l,_,b.eU e hn,r]
 |brk=>let#[l,n,b,a,y,m,e,hn,r]:=q;show#[l,_,b.eU e hn,r]
 |cont=>let#[l,n,b,a,y,m,e,hn,r]:=q;show#[l,_,b.eU e hn,r]
 |ret u=>let#[v,l,n,b,G,a,y,m,e,hn,r]:=q;show#[v,l,_,b.eU e hn,G,r]
end
def RU{a:ai}{ob:Obj}{kvs:bY}{g:TG}{tb:TS}{D:Ends}{j:St}{H:Hp}(Pv:Nat->St->Hp->Prop)(w:Pv 0 j H)(A:∀i j H,i<=↑kvs->Pv i j H->H a=À (.aE ob<|.dK kvs))(hs:∀i k v j H p,kvs[i]?=À (k,v)->Pv i j H->H p=Ä->g `ao j (aQ H p<|.aJ [kV k,v]) λn h=>tb { D with nx:=Pv<|i+1,ct:=Pv<|i+1,bk:=D.nx } n h)(hd:∀j H,Pv ↑kvs j H->D.nx j H):
  ∃W:Nat->Nat->St->Hp->Prop,(∃m,W 0 m j H)/\∀i m j H,W i m j H->
   ((qN a ob kvs).stop i H/\D.nx j H)\/((qN a ob kvs).go i H/\∃N:St->Hp->Prop,(∀l b,N l b->∃o,o<m/\W (i+1) o l b)/\∀x b,(qN a ob kvs).nL i H x b->g x j b λn h=>tb { D with nx:=N,ct:=N,bk:=D.nx } n h):=by
 show#[λi m j H=>m=↑kvs - i/\i<=↑kvs/\Pv i j H,#[kvs.length,by simp,ľ _,w],?_];rintro i m j H ⟨rfl,z,p⟩;have q:=A i j H z p;by_cases d:i<↑kvs
 .show .inr #[#[d,q],Pv<|i+1,λl b B=>#[kvs.length - (i+1),⋯,rfl,d,B],λx b y=>?_];let#[C,k,v,r,u,rfl,rfl]:=y;show hs i k v j H C r p u
 .have e:i=↑kvs:=⋯
  subst e;show .inl #[#[Ñ _,q],hd j H p]
section
variable{X:Cx}
def QQ(O:X.calm=Â):bQ X (.type "list") (λxs H Q=>∃a kvs,xs=[.ref a]/\Rd H a `ar/\∀p,H p=Ä->Q `ao (aQ H p<|.ah<|kvs.map λl=>kV l.1)):=by
 intro aa s i H xs us Q I r h;∎;let#[a,kvs,rfl,N,q]:=h;let#[u,rfl,ru]:=kg r;∎;cases ru;∎;let#[z,y,vs,m,dd]:=lq I.aP N;let#[ep,B]:=dd.dictAt;∎;have E:↑kvs=↑vs:=KV.length m;show W.kdl_call (W.kdl_dict (knd:=fo X.prog X.w) (kvs:=vs) (ep:=ep) y) (I.ok.hd O) B (by rw[<- E];show z) λh' tk b J U M d=>?_
 have C:H ⇑s=Ä:=I.aP.fresh<|Ñ _;show#[.ref ⇑s,_,I.laid (a:=⇑s) (o:=.ah<|kvs.map λl=>kV l.1) (h':=h') (t':=tk) U (Ñ _) #[by rw[Æ];show z,b.toList,J,?_,by simpa using M],rfl,q _ C];have hn:↑b.toList=↑vs:=by rw[ώ];show d.1
 have gen:∀(kvs:bY)(us:aS),us.length=↑kvs->(∀(j:Nat) k v u,kvs[j]?=À (k,v)->us[j]?=À u->aH (kV k) u)->aL (kvs.map λl=>kV l.1) us:=by
  intro kvs
  induction kvs with
  |nil=>intro us e _;cases us with
   |nil=>show .nil
   |cons _ _=>simp at e
  |cons p r Y=>
   intro us e f;cases us with
   |nil=>simp at e
   |cons u us=>
    show .cons (f 0 p.1 p.2 u rfl rfl) (Y us (by simpa using e) λj k v w n A=>f (j+1) k v w (by simpa using n)<|by simpa using A)
 show gen kvs b.toList (by rw[hn,E]) λj k v u n A=>?_
 ∎;let#[k',x,G,g]:=d.2 j u (by rw[<- ϒ];show A);let#[u',D,_]:=m.at n;∎;rw[D] at G;cases G;show Ag g
abbrev wC:V->eD
 |.ty n=>À<|.type n
 |.ref a=>À<|.ref a
 |_=>Ä
def Uq:bQ X (.builtin "isinstance") (λxs H Q=>∃x c t b u,xs=[x,c]/\eE X.K H x t/\wC c=À u/\am7 X.K t u=À b/\Q `bG H):=by
 intro aa s j H xs us Q I r h;∎;let#[x,c,t,b,u,rfl,ty,d,e,q]:=h;let#[v,w,rfl,m,g]:=Kj r;∎;have l:w=u:=by
  cases c with
  |ref a=>cases d;show g
  |ty n=>cases d;show g
  |aM=>cases d
  |bl n=>cases d
  |int i=>cases d
  |str i=>cases d
  |ic i=>cases d
  |nB i=>cases d
 subst l;show Q9 I m ty e λo=>#[.bl b,H,I.tok o,rfl,q]
end
def wL(A:Ĉ):A.in1.units=A.units+1:=rfl
section
variable{σ:St}{H:Hp}{Q:VK}{D:Ends}{K:ar}
def aF.aQ(h:H a=Ä):aF H `bM:=λb u e=>by rw[a9<|jX e h];show e
def aF.aJ(e:aF H H')(h:dM K H a xs):dM K H' a xs:=by
 rcases h with (h |⟨o,h⟩) |h
 .show .inl (.inl (e _ _ h))
 .show .inl (.inr ⟨o,e _ _ h⟩)
 .show .inr h
def aF.rd(e:aF H H')(h:Rd H a u):Rd H' a u:=by
 rcases h with h |⟨o,h⟩
 .show .inl (e _ _ h)
 .show .inr ⟨o,e _ _ h⟩
end
section
variable{σ:St}{H:Hp}{Q:VK}{D:Ends}{K:ar}{X:Cx}
def aF.qK(e:aF H H')(n:H a=Ä):aF H (L2.aQ H' a o):=λb u q=>by rw[a9<|jX q n];show e b u q
end
end L2
namespace Sf
abbrev gd(a b:Int):Int:=(Int.gcd a b:Nat)
def Ws(a:Int)(h:0<=a):gd a 0=a:=by
 unfold gd;rw[at0];omega
def Zt(d:0<=a)(g:0<b):gd b (a % b)=gd a b:=by
 unfold gd Int.gcd;have e:(a % b).natAbs=a.natAbs % b.natAbs:=by
  let#[m,rfl]:=an1 d;let#[n,rfl]:=an1<|Ĳ g;simp only[Ć];rw[<- Int.natCast_emod,Ć]
 rw[e,Nat.gcd_comm b.natAbs,Nat.gcd_comm a.natAbs,Nat.gcd_rec b.natAbs a.natAbs]
def n9(h:b≠0):0<gd a b:=by
 unfold gd;have:=Int.gcd_pos_of_ne_zero_right a h;omega
def Zu(a b:Int):gd (a.natAbs:Int) (b.natAbs:Int)=gd a b:=by
 unfold gd;simp[Int.gcd]
def Jw(a:Int):(if a<0 then -a else a)=(a.natAbs:Int):=by split<;>omega
def Wt(a b:Int):gd (if a<0 then -a else a) (if b<0 then -b else b)=gd a b:=by
 rw[Jw,Jw,Zu]
abbrev dv(t b:Int):Int:=if b<0 then -(gd t b) else gd t b
def Ko(h:b≠0):dv t b≠0:=by
 have:=n9 (a:=t) h;unfold dv;split<;>omega
def wK(t b:Int):gd t b ∣ t:=Int.gcd_dvd_left ..
def Ah(t b:Int):gd t b ∣ b:=Κ ..
def Ur(t b:Int):dv t b ∣ t:=by
 unfold dv;split
 .show Int.neg_dvd.mpr (wK t b)
 .show wK t b
def Us(t b:Int):dv t b ∣ b:=by
 unfold dv;split
 .show Int.neg_dvd.mpr (Ah t b)
 .show Ah t b
def Kq{x d:Int}(h:d ∣ x):x.fdiv d*d=x:=by
 rw[Int.fdiv_mul_cancel h]
def Hf{t b:Int}(h:b≠0):t.fdiv (dv t b)=(Ë t b).num:=by
 have hd:=Ko (t:=t) h;show ak3 hd ?_;rw[Kq<|Ur t b,al2];have e:b.gcd t=t.gcd b:=ao1 ..;rw[e];have i:((t.gcd b:Nat):Int) ∣ t:=Int.gcd_dvd_left ..;have l:=n9 (a:=t) h;unfold gd at l;unfold dv gd;rw[Int.mul_ediv_assoc _ i];let#[k,j]:=i;generalize m:((t.gcd b:Nat):Int)=g at *;have d:t / g=k:=by rw[j];show Int.mul_ediv_cancel_left k ⋯
 rw[d];split
 .rename_i hb;rw[Int.sign_eq_neg_one_of_neg hb];grind
 .rename_i hb;rw[aa9 ⋯];grind
def Hg{t b:Int}(h:b≠0):b.fdiv (dv t b)=((Ë t b).den:Int):=by
 have hd:=Ko (t:=t) h;show ak3 hd ?_;rw[Kq<|Us t b,Rat.den_divInt,au3 h];have e:b.gcd t=t.gcd b:=ao1 ..;rw[e];have j:(t.gcd b) ∣ b.natAbs:=by rw[<- Int.ofNat_dvd_left];show Κ ..
 have m:=n9 (a:=t) h;unfold gd at m;unfold dv gd;let#[k,i]:=j;have d:b.natAbs / t.gcd b=k:=by rw[i];show Nat.mul_div_cancel_left k ⋯
 rw[d];generalize t.gcd b=g at *;have l:(b.natAbs:Int)=(g:Int)*(k:Int):=by rw[i];show Ϯ ..
 split<;>grind
def den_pos(q:Rat):0<(q.den:Int):=by have:=q.den_nz;omega
abbrev Sm(n:Nat)(q:Rat):Prop:=q.num.natAbs<2 ^ n/\q.den<2 ^ n
def GO(h:b≠0):(Ë t b).num.natAbs<=t.natAbs/\(Ë t b).den<=b.natAbs:=by
 let#[m,hm,i,j]:=Rat.divInt_num_den (n:=t) (d:=b) h (n':=(Ë t b).num) (d':=(Ë t b).den) (z':=(Ë t b).den_nz) (c:=(Ë t b).reduced) rfl;have a:1<=m.natAbs:=⋯
 have g:=au9 Int.natAbs i;have e:=au9 Int.natAbs j;rw[ϭ] at g e;rw[Ć] at e;constructor
 .rw[g];show an6 _ a
 .rw[e];show an6 _ a
def zX(h:b≠0)(a:t.natAbs<2 ^ n)(d:b.natAbs<2 ^ n):Sm n (Ë t b):=
 #[ĕ (GO h).1 a,ĕ (GO h).2 d]
def QR(a b:Rat):a+b=Ë (a.num*b.den+b.num*a.den) (a.den*b.den):=by
 rw[Rat.add_def',<- ai3];rfl
def Gf(a b:Rat):a - b=Ë (a.num*b.den - b.num*a.den) (a.den*b.den):=by
 rw[Rat.sub_def',<- ai3];rfl
def Gg(a b:Rat):a*b=Ë (a.num*b.num) (a.den*b.den):=by
 rw[Rat.mul_def',<- ai3];rfl
def uh(a b:Rat):(a.den*b.den:Int)≠0:=by
 have d:=den_pos a;have e:=den_pos b;show æ<|Ŷ d e
def Zv(a:x<2 ^ n)(b:y<2 ^ m):x*y<2 ^ (n+m):=by
 rw[aj1];show Nat.mul_lt_mul'' a b
def rF{x y:Int}{n m:Nat}(a:x.natAbs<2 ^ n)(b:y.natAbs<2 ^ m):(x*y).natAbs<2 ^ (n+m):=by
 rw[ϭ];show Zv a b
def Gh{x y:Int}{n:Nat}(a:x.natAbs<2 ^ n)(b:y.natAbs<2 ^ n):(x+y).natAbs<2 ^ (n+1):=by
 rw[ao6,Nat.mul_two];show ĕ (ah1 x y)<|Nat.add_lt_add a b
def FZ{x y:Int}{n:Nat}(a:x.natAbs<2 ^ n)(b:y.natAbs<2 ^ n):(x - y).natAbs<2 ^ (n+1):=by
 rw[at1];show Gh a (by rw[Ś];show b)
def rV(h:Sm n q):(q.den:Int).natAbs<2 ^ n:=by rw[Ć];show h.2
def Wl{x:Int}{n m:Nat}(h:x.natAbs<2 ^ n)(k:n<=m):x.natAbs<2 ^ m:=Õ h<|ń ∎ k
def Zw{n m:Nat}{a b:Rat}(d:Sm n a)(e:Sm m b):Sm (n+m+1) (a - b):=by
 rw[Gf];show zX (uh a b) ?_ ?_
 .show FZ (rF d.1<|rV e) ?_;rw[ao4 n m];show rF e.1<|rV d
 .show Wl (rF (rV d)<|rV e) ⋯
def bN(d:Sm n a)(e:Sm m b):Sm (n+m) (a*b):=by
 rw[Gg];show zX (uh a b) (rF d.1 e.1)<|rF (rV d)<|rV e
def Zx(h:Sm n a):Sm n (-a):=#[by rw[Rat.neg_num,Ś];show h.1,h.2]
section
variable{κ:Type}[DecidableEq κ]
nonrec abbrev FL(κ:Type):=List<|κ×Rat
abbrev gt(m:FL κ)(k:κ):Option Rat:=(m.find? λp=>decide<|p.1=k).map (·.2)
abbrev nz(m:FL κ):FL κ:=m.filter λp=>decide<|p.2≠0
abbrev sc(m:FL κ)(n:Rat):FL κ:=m.map λp=>(p.1,p.2*n)
abbrev run(P:κ->Rat)(r:Rat)(m:FL κ):Rat:=m.foldl (λt p=>t+p.2*P p.1) r
def RV{j:Type}{m:List j}{i:Nat}{p:j}(e:m[i]?=À p):m.take (i+1)=m.take i++[p]:=by
 rw[Ė,e];rfl
end
end Sf
namespace Vc
open PySem L2 Sf
abbrev Le(F b:Hp):Prop:=∀a u,(∀o w,u≠.aE o w)->Rd F a u->Rd b a u
def Le.refl(F:Hp):Le F F:=λ_ _ _ h=>h
def Le.trans(a:Le F G)(b:Le G H):Le F H:=λx u n h=>b x u n<|a x u n h
def Le.of(e:aF F F'):Le F F':=λa u _ h=>e.rd h
def Le.aJ(e:Le F F')(h:dM K F a xs):dM K F' a xs:=by
 rcases h with h |h
 .show .inl (e _ _ (by intro o w z;cases z) h)
 .show .inr h
def Le.ah(e:Le F F')(h:bH K F a xs):bH K F' a xs:=by
 rcases h with h |h
 .show .inl (e _ _ (by intro o w z;cases z) h)
 .show .inr h
def Le.aT(e:Le F F')(h:Rd F a `ar):Rd F' a `ar:=e _ _ (by intro o w z;cases z) h
abbrev Fz(S:ai->Prop)(F:Hp):Prop:=∀a o u,F a=À `aG->S a
nonrec abbrev S0:ai->Prop:=λ_=>False
abbrev ze(F:Hp):ai->Prop:=λa=>∃o u,F a=À `aG
structure Gr0(F H F' H':Hp):Prop where
 h:aF H H'
 f:aF F F'
 s:aF F' H'
 n:∀a u,F' a=À u->F a=Ä->H a=Ä
structure Gr(F H F' H':Hp):Prop extends Gr0 F H F' H' where
 z:Fz (ze F) F'
def Gr0.refl(s:aF F H):Gr0 F H F H:=#[aF.refl _,aF.refl _,s,(λa u h e=>by rw[h] at e;cases e)]
def Fz.refl(F:Hp):Fz (ze F) F:=λ_ o u h=>#[o,u,h]
def Gr.of(g:Gr0 F H F' H')(z:Fz (ze F) F'):Gr F H F' H':=#[g,z]
def Gr.le(g:Gr F H F' H'):Le F F':=.of g.f
def Gr.fz(g:Gr F H F' H')(c:Fz S F):Fz S F':=λa o u h=>by
 let#[b,d,e]:=g.z a o u h;show c a b d e
def Gr0.trans(a:Gr0 F H F1 H1)(b:Gr0 F1 H1 F2 H2):Gr0 F H F2 H2:=
 #[a.h.trans b.h,a.f.trans b.f,b.s,(λx u h e=>match q:F1 x with
  |none=>a.h.free (b.n x u h q)
  |some w=>a.n x w q e)]
def Gr0.tr(a:Gr0 F H F1 H1)(b:Gr F1 H1 F2 H2):Gr0 F H F2 H2:=a.trans b.toGr0
def Gr.own{F H a b:Hp}(g:Gr F H a b)(d:F o=Ä)(e:H o=À u):a o=Ä:=by
 cases q:a o with
 |none=>rfl
 |some w=>have:=g.n o w q d;rw[e] at this;cases this
def al{F H:Hp}{R:V->Hp->Prop}(l:aF F H)(n:∀x u,o≠.aE x u)(h:∀(p:ai)(i j:Hp),Gr F H i j->i p=À o->R `ao j):∀p,H p=Ä->R `ao `bQ:=λp g=>by
 have m:F p=Ä:=l.free g;show h p (aQ F p o) `bQ #[#[aF.aQ g,aF.aQ m,?_,λa u e q=>?_],λa x u e=>?_] cN
 .intro b u e;by_cases d:b=p
  .subst d;rw[cN] at e ⊢;show e
  .rw[a9 d] at e ⊢;show l b u e
 .by_cases d:a=p
  .subst d;show g
  .rw[a9 d,q] at e;cases e
 .by_cases d:a=p
  .subst d;rw[cN] at e;show au5 (Þ e)<|n x u
  .rw[a9 d] at e;show#[_,_,e]
def Np{F H:Hp}{R:Hp->Prop}(l:aF F H)(j:∀x u,o≠.aE x u)(hp:H p=Ä)(h:∀b a:Hp,Gr F H b a->b p=À o->R a):R `bQ:=by
 have:=al (R:=λv a=>∀q,v=.ref q->q=p->R a) l j (λq b a g e z i d=>by cases i;subst d;show h b a g e) p hp;show this p rfl rfl
def rE{F H:Hp}(h:aF F H)(d:∀x u,o≠.aE x u)(hp:H p=Ä):∃a,Gr F H a `bQ/\a p=À o:=
 Np (R:=λb=>∃a,Gr F H a b/\a p=À o) h d hp λa _ g e=>#[a,g,e]
def aE{Fb Hb F H:Hp}(g:Gr0 Fb Hb F H)(l:Fz S F)(i:Hb p=Ä)(j:F p=Ä)(m:H p=À o)(r:∀x u,o≠.aE x u):∃d,Gr0 Fb Hb d H/\Fz S d/\aF F d/\d p=À o/\∀a,a≠p->d a=F a:=by
 show#[aQ F p o,#[g.h,g.f.trans<|aF.aQ j,?_,λa u e q=>?_],λa x u e=>?_,aF.aQ j,cN,λ_ e=>a9 e]
 .intro b u e;by_cases i:b=p
  .subst i;rw[cN] at e;cases e;show m
  .rw[a9 i] at e;show g.s b u e
 .by_cases hb':a=p
  .subst hb';show i
  .rw[a9 hb'] at e;show g.n a u e q
 .by_cases hb':a=p
  .subst hb';rw[cN] at e;show au5 (Þ e)<|r x u
  .rw[a9 hb'] at e;show l a x u e
abbrev fz(X:Hp)(a:ai)(o:HO):Hp:=λb=>if b=a then (if X a=Ä then Ä else À o) else X b
def eX{X:Hp}(h:b≠a):fz X a o b=X b:=by unfold fz;rw[au3 h]
def gz:fz X a o a=if X a=Ä then Ä else À o:=by unfold fz;rw[au4 rfl]
def ui{X:Hp}(h:fz X a o a=À u):X a≠Ä/\À o=À u:=by
 rw[gz] at h;split at h
 .cases h
 .rename_i q;show#[q,h]
def LZ(z:HO)(d:Gr0 Fb Hb F H):Gr0 (fz Fb a z) (fz Hb a z) (fz F a z) (aQ H a z):=by
 show#[λb u e=>?_,λb u e=>?_,λb u e=>?_,λb u e q=>?_]
 .by_cases hb:b=a
  .subst hb;rw[cN];show (ui e).2
  .rw[eX hb] at e;rw[a9 hb];show d.h b u e
 .by_cases hb:b=a
  .subst hb;rw[gz] at e ⊢;split at e
   .cases e
   .rename_i h;let#[w,g]:=ϱ.mp h;rw[au3 (by rw[d.f _ _ g];intro z;cases z)];show e
  .rw[eX hb] at e ⊢;show d.f b u e
 .by_cases hb:b=a
  .subst hb;rw[cN];show (ui e).2
  .rw[eX hb] at e;rw[a9 hb];show d.s b u e
 .by_cases hb:b=a
  .subst hb;rw[gz] at e q ⊢;split at e
   .cases e
   .rename_i h;let#[w,g]:=ϱ.mp h;split at q
    .rename_i hf;rw[au4<|d.n _ _ g hf]
    .cases q
  .rw[eX hb] at e q ⊢;show d.n b u e q
def mB{F:Hp}(d:F a=Ä\/F a=À `ar):Le F (fz F a<|.aE ob<|.dK kvs):=λb u n h=>by
 by_cases e:b=a
 .subst e;rcases d with d |d
  .rcases h with h |⟨o,h⟩<;>(rw[d] at h;cases h)
  .rcases h with h |⟨o,h⟩
   .rw[d] at h;cases h;show .inr #[ob,?_];rw[gz,au3 (by rw[d];intro z;cases z)]
   .rw[d] at h;cases h
 .rcases h with h |⟨o,h⟩
  .show .inl (by rw[eX e];show h)
  .show .inr ⟨o,by rw[eX e];show h⟩
def Vt{Fb Hb F H j m:Hp}{S:ai->Prop}{R:Hp->Prop}(A:Gr0 Fb Hb F H)(D:H a=À `ar)(i:F a=Ä\/F a=À `ar)(v:Gr0 (fz Fb a<|.aE ob<|.dK kvs) (fz Hb a<|.aE ob<|.dK kvs) j m)(y:j a=fz F a (.aE ob<|.dK kvs) a)(B:Fz (λb=>b=a\/S b) j)(h:∀g l:Hp,Gr0 Fb Hb g l->Fz S g->Le j g->g a=F a->l a=À `ar->(∀b,b≠a->g b=j b)->(∀b,b≠a->l b=m b)->R l):R (aQ m a<|.dK kvs):=by
 have nn:j  a=Ä\/j a=À (.aE ob<|.dK kvs):=by
  rw[y,gz];split
  .show .inl rfl
  .show .inr rfl
 show h (fz j a<|.dK kvs) (aQ m a<|.dK kvs) #[λb u e=>?_,λb u e=>?_,λb u e=>?_,λb u e q=>?_] (λb o u e=>?_) (λb u n e=>?_) ?_ cN (λb d=>eX d)<|λb d=>a9 d
 .by_cases d:b=a
  .subst d;rw[cN];have:=A.h _ _ e;rw[D] at this;show this
  .rw[a9 d];show v.h b u (by rw[eX d];show e)
 .by_cases d:b=a
  .subst d;have r:=A.f _ _ e;rcases i with i |i
   .rw[i] at r;cases r
   .rw[i] at r;have C:j b=À (.aE ob<|.dK kvs):=by rw[y,gz,au3 (by rw[i];intro z;cases z)]
    rw[gz,au3 (by rw[C];intro z;cases z)];show r
  .rw[eX d];show v.f b u (by rw[eX d];show e)
 .by_cases d:b=a
  .subst d;rw[cN];show (ui e).2
  .rw[eX d] at e;rw[a9 d];show v.s b u e
 .by_cases d:b=a
  .subst d;rw[gz] at e;split at e
   .cases e
   .rename_i hn;rw[y,gz] at hn;split at hn
    .show au5 rfl hn
    .rename_i hf;let#[w,E]:=ϱ.mp hf;show A.n _ _ E q
  .rw[eX d] at e;have:=v.n b u e (by rw[eX d];show q);rw[eX d] at this;show this
 .by_cases d:b=a
  .subst d;cases (ui e).2
  .rw[eX d] at e;rcases B b o u e with x |x
   .show au5 x d
   .show x
 .by_cases d:b=a
  .subst d;rcases nn with nn |nn
   .rcases e with e |⟨o,e⟩<;>(rw[nn] at e;cases e)
   .rcases e with e |⟨o,e⟩
    .rw[nn] at e;cases e;show au5 rfl<|n _ _
    .rw[nn] at e;cases e;show .inl ?_;rw[gz,au3 (by rw[nn];intro z;cases z)]
  .rcases e with e |⟨o,e⟩
   .show .inl (by rw[eX d];show e)
   .show .inr ⟨o,by rw[eX d];show e⟩
 .rw[gz,y,gz];rcases i with i |i<;>rw[i]
  .rfl
  .rfl
def rW{F:Hp}(c:Fz S0 F)(h:Rd F a `ar):F a=À `ar:=by
 rcases h with h |⟨o,h⟩
 .show h
 .show (c _ _ _ h).elim
nonrec abbrev Rep(j:Type):=Hp->V->j->Prop
abbrev r2(K:ar){j i:Type}(A:Rep j)(B:Rep i):Rep (j×i):=λF v x=>∃a b d,v=.ref a/\dM K F a [b,d]/\A F b x.1/\B F d x.2
abbrev r3(K:ar){j i G:Type}(A:Rep j)(B:Rep i)(C:Rep G):Rep (j×i×G):=λF v x=>∃a b d e,v=.ref a/\dM K F a [b,d,e]/\A F b x.1/\B F d x.2.1/\C F e x.2.2
abbrev r5(K:ar){j i G l m:Type}(A:Rep j)(B:Rep i)(C:Rep G)(D:Rep l)(E:Rep m):Rep (j×i×G×l×m):=λF v x=>∃a b d e g h,v=.ref a/\dM K F a [b,d,e,g,h]/\A F b x.1/\B F d x.2.1/\C F e x.2.2.1/\D F g x.2.2.2.1/\E F h x.2.2.2.2
section
variable{α:Type}
abbrev b4(m:List (Str×α))(k:Str):Option α:=(m.find? λp=>decide<|p.1=k).map (·.2)
abbrev qE(m:List (Str×α))(k:Str)(y:α):List (Str×α):=if (m.any λp=>decide<|p.1=k)=Â then m.map (λp=>if p.1=k then (p.1,y) else p) else m++[(k,y)]
def AI(e:p.1=k):b4 (p::r) k=À p.2:=by simp[b4,ļ,e]
def Wu(e:¬ p.1=k):b4 (p::r) k=b4 r k:=by simp[b4,ļ,e]
end
abbrev bl(n:Nat):Nat:=if n=0 then 0 else Nat.log2 n+1
def mh:n<2 ^ k↔bl n<=k:=by
 unfold bl;by_cases h:n=0
 .subst h;simp[Ϸ]
 .rw[au3 h,<- ar4 h];omega
def rX(n:Nat):n<2 ^ bl n:=mh.mpr<|Ñ _
abbrev bi(x:Int):Nat:=bl x.natAbs
abbrev bs(q:Rat):Nat:=max (bl q.num.natAbs)<|bl q.den
def L0(h:bs q<=n):Sm n q:=#[mh.mpr (by unfold bs at h;omega),mh.mpr (by unfold bs at h;omega)]
def xF(h:Sm n q):bs q<=n:=by
 have a:=mh.mp h.1;have b:=mh.mp h.2;unfold bs;omega
def uG(q:Rat):Sm (bs q) q:=L0<|Ñ _
def xm(a b:Rat):bs (a - b)<=bs a+bs b+1:=xF<|Zw (uG a)<|uG b
def Bi(a b:Rat):bs (a*b)<=bs a+bs b:=xF<|bN (uG a)<|uG b
def Zy(a:Rat):bs (-a)<=bs a:=xF<|Zx<|uG a
def kE:bs 0=1:=by decide +kernel
def gk(h:x.natAbs<2 ^ k):bi x<=k:=mh.mp h
def kJ(h:bi x<=k):x.natAbs<2 ^ k:=mh.mpr h
def dZ(x y:Int):bi (x*y)<=bi x+bi y:=mh.mp<|rF (rX _)<|rX _
def Zz(x y:Int):bi (x+y)<=max `eg (bi y)+1:=by
 have a:x.natAbs<2 ^ (max `eg<|bi y):=Õ (rX _)<|ń ∎ (Nat.le_max_left _ _);have b:y.natAbs<2 ^ (max `eg<|bi y):=Õ (rX _)<|ń ∎ (Nat.le_max_right _ _);show mh.mp<|Gh a b
def Jx(x y:Int):bi (x - y)<=max `eg (bi y)+1:=by
 have a:x.natAbs<2 ^ (max `eg<|bi y):=Õ (rX _)<|ń ∎ (Nat.le_max_left _ _);have b:y.natAbs<2 ^ (max `eg<|bi y):=Õ (rX _)<|ń ∎ (Nat.le_max_right _ _);show mh.mp<|FZ a b
def i1(q:Rat):bi q.num<=bs q:=by unfold bi bs;omega
def gx(q:Rat):bi (q.den:Int)<=bs q:=by unfold bi bs;rw[Ć];omega
def n7(h:b≠0)(a:bi t<=k)(d:bi b<=k):bs (Ë t b)<=k:=xF<|zX h (kJ a)<|kJ d
def L1(a:bi x<=60000000)(b:bi y<=60000000):mS x y:=.inr #[60000000,Ñ _,kJ a,kJ b]
def Ct(h0:y≠0)(h1:bi y<=8000):eB x y:=#[h0,kJ h1]
abbrev l7(K:ar)(H:Hp)(x:V)(t:au):Prop:=eE K H x t\/(t=.type "tuple"/\∃a d,x=.ref a/\dM K H a d)\/(t=.type "list"/\∃a d,x=.ref a/\bH K H a d)\/(t=.type "dict"/\∃a b,x=.ref a/\Rd H a (.dK b))
section
variable{K:ar}{H:Hp}
def ZA(h:dM K H a xs):l7 K H `ax (.type "tuple"):=.inr<|.inl #[rfl,a,xs,rfl,h]
def ZC(h:bH K H a xs):l7 K H `ax (.type "list"):=.inr<|.inr<|.inl #[rfl,a,xs,rfl,h]
def ZD(h:Rd H a `ar):l7 K H `ax (.type "dict"):=.inr<|.inr<|.inr #[rfl,a,kvs,rfl,h]
def ZE:l7 K H `aE (.type "int"):=.inl<|.int i
def ZF:l7 K H (.str i) (.type "str"):=.inl<|.str i
def L3:l7 K H (.bl i) (.type "bool"):=.inl<|.bl i
def ZG:l7 K H .aM (.type "NoneType"):=.inl .aM
end
section
open PySem.Spec PyProof.Rows
variable{X:Cx}
def Ut:bQ X (.builtin "isinstance") (λxs H Q=>∃x c t b u,xs=[x,c]/\l7 X.K H x t/\wC c=À u/\am7 X.K t u=À b/\Q `bG H):=by
 intro aa s j H xs us Q I r h;let#[x,c,t,b,u,rfl,ty,d,e,q]:=h;rcases ty with ty |⟨rfl,a,E,rfl,m⟩ |⟨rfl,a,E,rfl,m⟩ |⟨rfl,a,B,rfl,m⟩
 .show Uq aa s j H [x,c] us Q I r ⟨x,c,t,b,u,rfl,ty,d,e,q⟩
 all_goals
  let#[v,D,rfl,C,w]:=Kj r;have A:D=u:=by
   cases c with
   |ref a=>cases d;show w
   |ty n=>cases d;show w
   |aM=>cases d
   |bl n=>cases d
   |int i=>cases d
   |str i=>cases d
   |ic i=>cases d
   |nB i=>cases d
  subst A;cases (show v=Ú a from C)
 .obtain⟨bw,_,p,_⟩:=I.tuple m;let#[o,g,l,_]:=p;show Ņ W.kitx_tuple I.dc #[o,g,l] e (λz=>nomatch z) λy=>#[.bl b,H,I.tok y,rfl,q]
 .obtain⟨bw,_,p,_⟩:=I.list m;let#[o,g,l,_]:=p.isList;show Ņ W.kitx_list I.dc #[o,g,l] e (λz=>nomatch z) λy=>#[.bl b,H,I.tok y,rfl,q]
 .obtain⟨_,_,vs,_,p⟩:=lq I.aP m;let#[o,es,G,g,l,_]:=p;show Ņ W.kitx_dict I.dc #[o,g,l.1] e (λz=>nomatch z) λy=>#[.bl b,H,I.tok y,rfl,q]
end
abbrev sgn(z:Str)(i:Int):Str:=#[([z.cps.toList.getD i.toNat 0].toArray)]
section
variable{X:Cx}{aa:aZ}{σ:St}{F H:Hp}{s:ao}{Au:Ĉ}
def Hh{xs ys:az}{us:aS}(h:aL xs us)(g:aL ys us):xs=ys:=h.inj g
def Wv(I:ax X aa σ H s)(i:dM X.K H a xs)(j:dM X.K H a ys):xs=ys:=by
 ∎;let#[us,l,#[u,h,n,q,g],_]:=I.tuple i;let#[m,r2,#[v,d,o,r,b],_]:=I.tuple j;∎;rw[h] at d;cases d;rw[g] at b;injection b with e _
 have:us=m:=by simpa using e
 subst this;show Hh l r2
def Ww(I:ax X aa σ H s)(i:bH X.K H a xs)(j:bH X.K H a ys):xs=ys:=by
 ∎;let#[us,l,p1,_]:=I.list i;let#[m,r2,p2,_]:=I.list j;let#[u,h,n,q,g]:=p1.isList;let#[v,d,o,r,b]:=p2.isList;∎;rw[h] at d;cases d;rw[g] at b;injection b with e _
 have:us=m:=by simpa using e
 subst this;show Hh l r2
def Ii(I:ax X aa σ H s)(g:dM X.K H a xs)(h:dM X.K H b ys)(B:Au.units<ņ)(J:↑xs=↑ys)(e:Nat->Bool)(he:∀(j:Nat) x y u v,xs[j]?=À x->ys[j]?=À y->aH x u->aH y v->Ź Au.in1 s u v (e j)):ar7 Au s `ax `eh ((È ↑xs).all e):=by
 ∎;let#[us,n,E,_]:=I.tuple g;let#[d,r2,G,_]:=I.tuple h;∎;have M:=↑n;have N:=↑r2;have z:=SeqAt.RcAt.tuples (A:=Au) (e:=e) E G B<|λj g h=>?_
 .have e0:((È<|min us.toArray.size d.toArray.size).all e&&us.toArray.size == d.toArray.size)=(È ↑xs).all e:=by
   simp only[â];have l:min ↑us ↑d=↑xs:=⋯
   have m:(↑us == ↑d)=Â:=by simp;omega
   rw[l,m,al3]
  rw[e0] at z;show z
 .simp only[â] at g h;∎;let#[u,l,C]:=n.get (i:=j) (x:=xs[j]'⋯) ∅;let#[v,m,D]:=r2.get (i:=j) (x:=ys[j]'⋯) ∅;let#[_,o]:=Á.mp l;let#[_,q]:=Á.mp m;∎;have r:us.toArray[j]'(by simpa using g)=u:=by simpa using o
  have w:d.toArray[j]'(by simpa using h)=v:=by simpa using q
  rw[r,w];show he j _ _ u v ∅ ∅ C D
def Ij(I:ax X aa σ H s)(d:bH X.K H a xs)(g:bH X.K H b ys)(w:Au.units<ņ)(M:↑xs=↑ys)(e:Nat->Bool)(he:∀(j:Nat) x y u v,xs[j]?=À x->ys[j]?=À y->aH x u->aH y v->Ź Au.in1 s u v (e j)):ar7 Au s `ax `eh ((È ↑xs).all e):=by
 ∎;let#[us,h,E,_]:=I.list d;let#[J,r2,G,_]:=I.list g;∎;have B:=↑h;have N:=↑r2;have z:=SeqAt.RcAt.lists (A:=Au) (e:=e) E.isList G.isList (by simp;omega) w<|λj d g=>?_
 .have e0:(È us.toArray.size).all e=(È ↑xs).all e:=by
   simp only[â];rw[<- B]
  rw[e0] at z;show z
 .simp only[â] at d g;∎;let#[u,l,C]:=h.get (i:=j) (x:=xs[j]'⋯) ∅;let#[v,m,D]:=r2.get (i:=j) (x:=ys[j]'⋯) ∅;let#[_,n]:=Á.mp l;let#[_,o]:=Á.mp m;∎;have q:us.toArray[j]'(by simpa using d)=u:=by simpa using n
  have r:J.toArray[j]'(by simpa using g)=v:=by simpa using o
  rw[q,r];show he j _ _ u v ∅ ∅ C D
end
def Uu(a:aH `aE u)(r2:aH `by v):Ź Au s u v (decide<|i=j):=by
 have z:=uv (A:=Au) (s:=s) a r2 rfl rfl;have e:kr `aE `by=decide (i=j):=by change (i == j)=_;rw[ab5]
 rw[e] at z;show z
end Vc
namespace L2
open PySem PySem.Spec PyProof.Rows
abbrev act(env:Env)(cs:List (Str×ai))(y:Str×Ϧ):List (Str×ai):=if (y.2 == .free)=Â then (match env.cells.lookup y.1 with |some a=>(y.1,a)::cs |none=>cs) else cs
abbrev mi(a:Ρ)(env:Env):List (Str×ai):=a.names.foldl `cD []
abbrev jZ(a:Ρ)(env:Env):Bool:=a.names.all λy=>!(y.2 == .free) || (env.cells.lookup y.1).isSome
def FJ(h:jZ scope env=Â):closureFor scope env=pure (mi scope env):=by
 unfold closureFor mi;unfold jZ at h;have gen:∀(l:List (Str×Ϧ))(b:List (Str×ai)),(l.all λy=>!(y.2 == .free) || (env.cells.lookup y.1).isSome)=Â->
   (forIn l b λx r=>match x with |(name,kind)=>if (kind == Ļ)=Â then (do let a <- cellOf env name;pure (ť ((name,a)::r))) else pure (ť r):Sem (List<|Str×ai))=pure (l.foldl `cD b):=by
  intro l
  induction l with
  |nil=>intro b _;rfl
  |cons y r j=>
   intro b g;rw[Ν,ê] at g;let#[n,k]:=y;rw[List.forIn_cons,ab0];by_cases d:(k == Ļ)=Â
   .have h1:=g.1;simp only[d,Bool.not_true,al4] at h1;let#[a,e]:=ŭ.mp h1;have i:act env b (n,k)=(n,a)::b:=by unfold act;simp[d,e]
    have m:cellOf env n=pure a:=by unfold cellOf;rw[e]
    rw[i,<- j _ g.2];simp only[d,if_true,m,pure_bind]
   .have i:act env b (n,k)=b:=by unfold act;simp[d]
    rw[i,<- j _ g.2];simp only[d,if_false,pure_bind,ϻ]
 have:=gen scope.names [] h;simp only[this,pure_bind]
def pX(h:(mi scope env).lookup x=À c):env.cells.lookup x=À c:=by
 unfold mi at h;have gen:∀(l:List (Str×Ϧ))(b:List (Str×ai)),(b.lookup x=À c->env.cells.lookup x=À c)->(l.foldl `cD b).lookup x=À c->env.cells.lookup x=À c:=by
  intro l
  induction l with
  |nil=>intro b f g;show f g
  |cons y r i=>
   intro b f g;rw[ab0] at g;show i _ (λz=>?_) g;unfold act at z;split at z
   .split at z
    .rename_i a e;rw[Ą] at z;by_cases d:(x == y.1)=Â
     .rw[d] at z;have:=eq_of_beq d;subst this;simp at z;rw[<- z];show e
     .simp only[d] at z;show f z
    .show f z
   .show f z
 show gen scope.names [] (λz=>by cases z) h
def Hi(g:jZ scope env=Â)(h:scope.names.lookup x=À .free):∃c,(mi scope env).lookup x=À c:=by
 unfold mi;unfold jZ at g;have keep:∀(l:List (Str×Ϧ))(b:List (Str×ai)),(∃c,b.lookup x=À c)->∃c,(l.foldl `cD b).lookup x=À c:=by
  intro l
  induction l with
  |nil=>intro b f;show f
  |cons y r i=>
   intro b f;rw[ab0];show i _ ?_;unfold act;split
   .split
    .rw[Ą];by_cases d:(x == y.1)=Â
     .rw[d];show#[_,rfl]
     .simp only[d];show f
    .show f
   .show f
 have gen:∀(l:List (Str×Ϧ))(b:List (Str×ai)),(l.all λy=>!(y.2 == .free) || (env.cells.lookup y.1).isSome)=Â->l.lookup x=À .free->∃c,(l.foldl `cD b).lookup x=À c:=by
  intro l
  induction l with
  |nil=>intro b _ f;cases f
  |cons y r i=>
   intro b g f;rw[Ν,ê] at g;let#[n,k]:=y;rw[ab0];rw[Ą] at f;by_cases d:(x == n)=Â
   .rw[d] at f;have:=eq_of_beq d;subst this;simp at f;subst f;show keep r _ ?_;have j:(env.cells.lookup x).isSome=Â:=g.1;let#[a,e]:=ŭ.mp j;show#[a,?_];unfold act;rw[au4 (show ((Ļ) == Ļ)=Â from rfl)];dsimp only;rw[e];dsimp only;rw[Ą,d]
   .simp only[d] at f;show i _ g.2 f
 show gen scope.names [] g h
def Pp(b:∀y∈a.names,y.2≠.cell)(h:(relabel a env).names.lookup x=À .cell\/(relabel a env).names.lookup x=À .free):a.names.lookup x=À .free:=by
 unfold relabel at h;dsimp only at h;have gen:∀l:List (Str×Ϧ),(∀y∈l,y.2≠.cell)->((l.map λ(n,k)=>if (k == Ļ&&env.scope.kind == .function&&env.kindOf n == À .cell) then (n,ac1) else (n,k)).lookup x=À .cell\/(l.map λ(n,k)=>if (k == Ļ&&env.scope.kind == .function&&env.kindOf n == À .cell) then (n,ac1) else (n,k)).lookup x=À .free)->l.lookup x=À .free:=by
  intro l
  induction l with
  |nil=>intro _ f;rcases f with f |f<;>cases f
  |cons y r m=>
   intro g f;let#[n,k]:=y;have i:k≠.cell:=g (n,k)<|ϊ ..;rw[è] at f;rw[Ą];by_cases d:(x == n)=Â
   .rw[d];dsimp only at f ⊢;by_cases e:(k == Ļ&&env.scope.kind == .function&&env.kindOf n == À .cell)=Â
    .have:k=.free:=by
      simp only[ê] at e;show eq_of_beq e.1.1
     rw[this]
    .rw[au3 e,Ą,d] at f;simp only[Option.some.injEq] at f;rcases f with f |f
     .show au5 f i
     .rw[f]
   .simp only[d];show m (λy j=>g y<|ī _ j) ?_;dsimp only at f;split at f<;>(rw[Ą] at f;simp only[d] at f;show f)
 show gen a.names b h
inductive Wk:St->St->Prop
 |nil:Wk [] []
 |aM {a b:St} {x:Option V}:Wk a b -> Wk (Ä::a) (x::b)
 |x5 {a b:St} {v:V}:Wk a b -> Wk (À v::a) (À v::b)
def Wk.length(h:Wk a b):↑b=↑a:=by
 induction h with
 |nil=>rfl
 |aM _ d=>simp[d]
 |x5 _ d=>simp[d]
def Wk.get(h:Wk a b):∀{i:Nat}{v:V},a[i]?=À (À v)->b[i]?=À (À v):=by
 induction h with
 |nil=>intro i v e;simp at e
 |aM _ d=>
  intro i v e;cases i with
  |zero=>simp at e
  |succ i=>simpa using d (i:=i) (v:=v) (by simpa using e)
 |x5 _ d=>
  intro i v e;cases i with
  |zero=>simpa using e
  |succ i=>simpa using d (i:=i) (v:=v) (by simpa using e)
def AJ:∀a:St,Wk a a
 |[]=>.nil
 |none::a=>.aM<|AJ a
 |some _::a=>.x5<|AJ a
abbrev eA(ix:bE)(j:St):St:=ix.map λo=>match o with |none=>Ä |some i=>(j[i]?).getD Ä
abbrev bL(X:Cx)(sc:Ρ):aj->bE->Prop
 |[],[]=>True
 |_::N,Ä::ix=>bL X sc N ix
 |x::N,À i::ix=>X.N[i]? = À x /\ X.env.kindOf x=À .cell /\ sc.names.lookup x=À .free /\ bL X sc N ix
 |_,_=>False
def bL.length:∀{N:aj}{ix:bE},bL X sc N ix->↑ix=↑N
 |[],[],_=>rfl
 |_::N,Ä::ix,h=>by rw[Ý,Ý,bL.length (X:=X) (sc:=sc) (N:=N) (ix:=ix) h]
 |_::N,À i::ix,h=>by rw[Ý,Ý,bL.length (X:=X) (sc:=sc) (N:=N) (ix:=ix) h.2.2.2]
 |[],_::_,h=>h.elim
 |_::_,[],h=>h.elim
def bL.get:∀{N:aj}{ix:bE}{j:Nat}{x:Str}{v:V},bL X sc N ix->N[j]?=À x->`dq[j]?=À (À v)->∃i:Nat,X.N[i]?=À x/\X.env.kindOf x=À .cell/\sc.names.lookup x=À .free/\G[i]?=À (À v)
 |_::N,Ä::ix,0,x,v,h,e1,e2=>by simp[eA] at e2
 |_::N,Ä::ix,j + 1,x,v,h,e1,e2=>bL.get (N:=N) (ix:=ix) (j:=j) h (by simpa using e1) (by simpa [eA] using e2)
 |y::N,À i::ix,0,x,v,h,e1,e2=>by
  simp at e1;subst e1;show#[i,h.1,h.2.1,h.2.2.1,?_];simp[eA] at e2;cases q:G[i]? with
  |none=>rw[q] at e2;simp at e2
  |some o=>rw[q] at e2;simp at e2;rw[e2]
 |y::N,À i::ix,j + 1,x,v,h,e1,e2=>bL.get (N:=N) (ix:=ix) (j:=j) h.2.2.2 (by simpa using e1) (by simpa [eA] using e2)
 |[],[],_,_,_,_,e1,_=>by simp at e1
 |[],_::_,_,_,_,h,_,_=>h.elim
 |_::_,[],_,_,_,h,_,_=>h.elim
def OY(h:scope.names.lookup x=À .free):(relabel scope env).names.lookup x=À .cell\/(relabel scope env).names.lookup x=À .free:=by
 unfold relabel;dsimp only;have gen:∀l:List (Str×Ϧ),l.lookup x=À .free->((l.map λ(n,k)=>if (k == Ļ&&env.scope.kind == .function&&env.kindOf n == À .cell) then (n,ac1) else (n,k)).lookup x=À .cell\/(l.map λ(n,k)=>if (k == Ļ&&env.scope.kind == .function&&env.kindOf n == À .cell) then (n,ac1) else (n,k)).lookup x=À .free):=by
  intro l
  induction l with
  |nil=>intro f;cases f
  |cons y r b=>
   intro f;let#[n,k]:=y;rw[Ą] at f;rw[è];by_cases a:(x == n)=Â
   .rw[a] at f;simp at f;subst f;dsimp only;split
    .left;rw[Ą,a]
    .right;rw[Ą,a]
   .simp only[a] at f;dsimp only;split<;>(rw[Ą];simp only[a];show b f)
 show gen scope.names h
abbrev cW(X:Cx)(a:Ρ)(N:aj)(C:ai)(s:ao)(H:Hp)(fp:cU)(pl:aZ):Cx where
 prog:=X.prog
 w:=X.w
 K:=X.K
 mg:=X.mg
 base:=X.base
 A:=X.A
 N:=N
 s₀:=s
 H₀:=H
 env:=compEnvC a (mi a X.env) C X.env
 outer:=X.stack
 stack:=X.stack
 ex:=fp
 fn:=λ_=>Å
 calm:=X.calm
 pn:=X.pn++pl
 xe:=λ_ _=>False
abbrev qR(Y:Cx)(a:bS)(t:TT):Prop:=
 ∀(aa:aZ)(s:ao)(j:St)(H:Hp)(Q:Bool->Hp->Prop),ax Y aa j H s->t j H Q->
  Ø (Ù Y.prog Y.w) Y.A (forIn a Â λc r=>if r=Â then do let ok <- ak8 c Y.env (eval c Y.env);pure (ť ok) else pure (ť r)) (TP Y aa j Q) Y.xe s
abbrev EZ:TT:=λ_ H Q=>Q Â H
def Wx:qR Y [] EZ:=λ_ _ _ H _ I h=>wpAny_tests_nil #[H,I,h]
def HD(h:PT Y c t):qR Y [c] t:=λaa s j H Q I q=>wpAny_tests_one<|h aa s j H Q I q
def OZ{R:Result->ao->Prop}(I:Nat->ao->Prop)(turn:∀n s,I n s->Ø `ad A (pyNext it) (λr b=>match r with
   |none=>R (.ok .next) b
   |some v=>Ø `ad A (ae8 target it v) (λ_ s₀=>Ø `ad A (assign target env v) (λ_ j=>
     Ø `ad A (forIn ifs Â λc r=>if r=Â then do let ok <- ak8 c env (eval c env);pure (ť ok) else pure (ť r)) (λok d=>
      if ok=Â then Ø `ad A (eval elt env) (λx l=>
       Ø `ad A (call (.builtin "list.append") [acc,x]) (λ_ o=>∃m,m<n/\I m o) (an9 `ad A env λe s'=>R `bl s') l) (an9 `ad A env λe s'=>R `bl s') d
      else ∃m,m<n/\I m d) (an9 `ad A env λe s'=>R `bl s') j) (an9 `ad A env λe s'=>R `bl s') s₀) (an9 `ad A env λe s'=>R `bl s') b) (an9 `ad A env λe s'=>R `bl s') s)(n:Nat)(h:I n s):ź `ad A (.compLoop (.ListComp elt [#[target,iter,ifs,0]] scope pos) 0 it acc env) R s:=by
 show codeAny_loop rfl I (λn s B=>?_) n h;change Ø _ A ((compTurn (.ListComp elt [#[target,iter,ifs,0]] scope pos) 0 it acc env).onRaise (λx=>do ag9 x env;theTreesLotGoes x)) _ _ s;show wpAny_noted ?_;rw[compTurn_list];show Ê<|Ť<|Ê<|ă (turn n s B) (λr b g=>?_) λ_ _ a=>a;cases r with
 |none=>show Û g
 |some v=>
  show Ê<|ă g (λ_ s₀ q=>?_) λ_ _ a=>a;show Ê<|ă q (λ_ j u=>Ê<|ă u (λok d i=>?_) λ_ _ a=>a) λ_ _ a=>a;cases ok with
  |false=>show Û #[rfl,i]
  |true=>
   show Ê<|Ê<|ă i (λx l y=>Ê<|ă y (λ_ o z=>Û<|Û #[rfl,z]) λ_ _ a=>a) λ_ _ a=>a
section
variable{X:Cx}{aa:aZ}{σ:St}{H:Hp}{s:ao}{scope:Ρ}{N:aj}{fp:cU}{C:ai}
def Wy(I:ax X aa σ H s)(m:⇑s<=C)(j:∀b∈fp,iz X aa H b)(l:∀b∈fp,∃o,s.heap.get? b=À o)(g:scope.kind=.function)(d:∀y∈scope.names,y.2≠.cell)(i:jZ scope X.env=Â):
  (cW X scope N C s H fp aa).Ok where
 mod:=I.ok.mod
 kind:=g
 glob:=I.ok.glob
 blt:=I.ok.blt
 above:=m
 inj:=λx y c n q=>I.ok.inj x y c (pX n)<|pX q
 has:=λx h=>Hi i<|Pp d h
 ow:=λx c h=>by cases h
 hd:=I.ok.hd
 frames:=I.ok.frames
 qI:=.inl rfl
 qp:=λb a=>#[λz=>by let#[o,e]:=l b a;have:=Í e;subst z;show au5 (Õ this m)<|Ĵ _,λx c e=>(j b a).2.2.2.2.1 x c<|pX e]
 bs:=I.bs
 kG:=Ï I.ok.kG I.sz
 iM:=λb o e a=>by
  rcases (j b a).2.2.2.1 with z |z
  .show I.ok.iM b o e z
  .show au5 (Õ (Í e) (Ï I.ok.kG z)) (Ĵ _)
 iG:=λb a hm=>by
  rcases ä.mp (I.gb b hm) with z |z
  .show (j b a).2.1 z
  .show (j b a).2.2.1 z
 ea:=I.stack
 mG:=I.gZ
def Uv(I:ax X aa σ H s)(ok:(cW X scope N C s H fp aa).Ok)(y:⇑s<=C)(k:∀b o,s.heap.get? b=À o->h'.get? b=À o)(hn:h'.Ns C m)(h:bL X scope N ix)(a:jZ scope X.env=Â):
  ax `cM [] `bc H { s with heap:=h',toks:=t' } where
 ok:=ok
 os:=rfl
 bare:=I.bare
 base:=Un.kept k
 loc:=#[m,hn,λi x v B D Y=>by
  ∎;let#[O,E,A,g,w]:=h.get B D;let#[m0,_,J]:=I.loc;let#[u,r,look]:=J O x v E w<|.inr<|.inl A;∎;rcases look with⟨z,_⟩ |⟨_,c,G,o,j,hd⟩
  .rw[A] at z;cases z
  .obtain⟨c',hc'⟩:=Hi a g;have e:=pX hc';rw[G] at e;cases e;show#[u,r,.inr #[OY g,c,hc',o,k _ _ j,hd]]]
 cell:=λx c e=>by
  let#[v,o,j,hd]:=I.cell x c<|pX e;show#[v,o,k _ _ j,hd]
 free:=I.aP.fresh y
 cc:=λx c e=>I.cc x c<|pX e
 pin:=λp M=>by
  have l:p∈X.pn++aa:=by simpa [cW] using M
  let#[e,n,ne,Q,d]:=I.pin p l;show#[k _ _ e,n,λz=>?_,λz=>?_,d]
  .have:=Í e;have U:p.1=C:=z;rw[U] at this;show au5 (Õ this y)<|Ĵ _
  .rcases ä.mp (I.gb p.1 z) with q |q
   .show ne q
   .show Q q
 aP:=I.aP.kept k
 len:=by
  have:=↑h;simp[eA,cW,this]
def RW{i:Hp}(I:ax X aa σ H s)(J:ax `cM pl σ' i s')(l:D=⇑s)(h:∀b∈fp,iz X aa H b)(r:s'.heap.PlainList D bw.toArray)(v:aL acc bw)(hz:↑acc<=Ô)(hn:i D=Ä):ax X aa σ (aQ i D<|.ah acc) s':=by
 have j:∀b o,s.heap.get? b=À o->b≠D:=λb o e z=>by rw[z,l] at e;show au5 (Í e)<|Ĵ _
 have a:H D=Ä:=I.aP.fresh (by rw[l];show Ñ _);show I.eJ (ch:=fp) J.os #[J.base.keep,J.base.slot,λb o e n w=>?_,J.base.there,λb m e=>?_,λb o u e=>?_,λb x e=>?_] (λb u e=>?_) J.bare λb d=>#[(h b d).2.2.2.1,(h b d).2.1,(h b d).2.2.2.2.1,(h b d).2.2.2.2.2]
 .rw[a9<|j b o e];show J.base.free b o e n w
 .rw[a9<|jX e a];show J.base.ed b m e
 .rw[a9<|jX e a];show J.base.bj b o u e
 .obtain⟨mo,e2⟩:=J.base.eT b x e;show#[mo,by rw[a9<|jX e a];show e2]
 .by_cases d:b=D
  .subst d;rw[cN] at e;cases e;let#[n,g]:=r;show#[hz,bw,n,v,g]
  .rw[a9 d] at e;show (J.aP b u e).eS (λ_ _ _ q=>q) (λc q=>by rw[a9<|jX q hn];show q) λc m q=>by rw[a9<|jX q hn];show q
end
abbrev pG(y:TI)(g:TG)(w:TT)(u:TE)(ix:bE):TE:=λj H Q=>y j H λJ o=>∃W:Nat->Nat->az->Hp->Prop,(∃m,W 0 m [] o)/\∀i m a H,W i m a H->
 (J.stop i H/\↑a<=Ô/\∀p,H p=Ä->Q `ao (aQ H p<|.ah a))\/
 (J.go i H/\∃N:az->Hp->Prop,(∀d e,N d e->∃n,n<m/\W (i+1) n d e)/\∀x e,J.nL i H x e->g x `cE e λh q=>Wk `cE h/\w h q λb l=>if b=Â then u h l λv r=>↑a<Ô/\N (a++[v]) r else N a l)
section
variable{X:Cx}{elt target iter:đ}{ifs:bS}{scope:Ρ}{pos:Pos}{N:aj}{ix:bE}{wi:TI}{g:TG}{ti:TT}{te:TE}
def Hj{Q:VK}{RR:au->ai->Result->ao->Prop}{tn:Nat->aU->Prop}(hc:X.calm=Â)(hg:∀C s H fp pl,PG `ai target g)(ht:∀C s H fp pl,qR `ai ifs ti)(he:∀C s H fp pl,PE `ai elt te)(η:scope.kind=.function)(ζ:∀y∈scope.names,y.2≠.cell)(σ:jZ scope X.env=Â)(hpk:bL X scope N ix)(I2:ax X aa j Y a)(T:k7 X.prog X.w X.K target J fp it tn)(st2:tn 0 a.heap)(f2:∀b∈fp,iz X aa Y b)(h:∃W:Nat->Nat->az->Hp->Prop,(∃m,W 0 m [] Y)/\∀i m l H,W i m l H->
   (J.stop i H/\↑l<=Ô/\∀p,H p=Ä->Q `ao (aQ H p<|.ah l))\/
   (J.go i H/\∃N:az->Hp->Prop,(∀π U,N π U->∃m',m'<m/\W (i+1) m' π U)/\∀x U,J.nL i H x U->g x `cE U λj2 Y=>Wk `cE j2/\ti j2 Y λb H3=>if b=Â then te j2 H3 λv H4=>↑l<Ô/\N (l++[v]) H4 else N l H3))(hR:∀(D C:ai)(s':ao)(U:Hp)(m:bx),ax X aa j U s'->s'.heap.Ns C m->U C=Ä->⇑a<=C->Q (.ref D) U->RR (.ref D) C (.ok .next) s'):
  Ø `aa X.A (newList []) (λl α=>Ø `aa X.A (newFunctionEnv scope X.env.globals (mi scope X.env) [] X.env.qual Ä .none (À X.env)) (λρ s₄=>
   ź `aa X.A (.compStart (.ListComp elt [#[target,iter,ifs,0]] scope pos) 0 `cA l { ρ with scope:=relabel scope X.env }) (RR l ρ.locals) s₄) E α) E a:=by
 let#[W,#[m0,w0],turn]:=h;show aj7 (wpAny_newFunctionEnv ζ (by intro y hy;simp at hy) (λδ O I=>?_) η);dsimp only at O I ⊢;generalize φ:a.heap.push { cls:=.type "list",dict:=Ä,data:=.seq ([]:aS).toArray }=P2 at O I ⊢;have hC:P2.objs.size=⇑a+1:=by rw[<- φ,ϔ]
 have ν:⇑a≠P2.objs.size:=by rw[hC];show ç<|ũ _
 have ε:⇑a<=P2.objs.size:=by rw[hC];show ai5 _
 have β:∀b,b<⇑a->b≠P2.objs.size/\b≠⇑a:=λb G=>#[by rw[hC];show ç<|į G,ç G]
 have old:∀b o,a.heap.get? b=À o->δ.get? b=À o:=λb o e=>I.extBut b o (β b<|Í e).1<|Ã _<|φ ▸ Ã _ e
 have hacc:δ.PlainList ⇑a ([].toArray):=#[_,I.extBut _ _ ν<|Ã _<|φ ▸ Ó _ rfl]
 have hfo:∀b∈fp,∃o,a.heap.get? b=À o:=λb G=>let ⟨o,e,_⟩:=T.obj 0 _ st2 b G;#[o,e]
 have χ:⇑a ∉ fp:=λhm=>by let#[o,e]:=hfo _ hm;show au5 (Í e)<|Ĵ _
 have ok:=Wy (N:=N) (C:=P2.objs.size) I2 ε f2 hfo η ζ σ;have st1:tn 0 δ:=T.keep 0 _ _ st2 λb _ o e=>old b o e
 have J0:=Uv (t':=a.toks+([]:List (Str×au)).length) (ix:=ix) I2 ok ε old O hpk σ;have pnD:∀p∈X.pn++aa,p.1≠⇑a:=λp hp=>(β _<|Í (I2.pin p hp).1).2
 have υ:∀x c,(mi scope X.env).lookup x=À c->c≠⇑a:=λx c e=>by
  let#[v,o,ho,_]:=I2.cell x c<|pX e;show (β _<|Í ho).2
 have κ:∀{pl:aZ}{U:Hp},(∀b∈fp,U b=Ä)->(∀p∈pl,p.1=⇑a)->∀b∈fp,iz `ah pl U b:=λ{pl U} hn hp b G=>by
  show#[hn b G,(ok.qp b G).1,ok.iG b G,.inl G,(ok.qp b G).2,λp hm=>?_];rcases É.mp hm with z |z
  .show (f2 b G).2.2.2.2.2 p z
  .rw[hp p z];intro q;rw[q] at χ;show χ G
 have τ:∀α:Shared,α={ a with heap:=δ,toks:=a.toks+([]:List (Str×au)).length }->
   ź `aa X.A (.compLoop (.ListComp elt [#[target,iter,ifs,0]] scope pos) 0 `cA (.ref ⇑a)<|compEnvC scope (mi scope X.env) P2.objs.size X.env) (RR (.ref ⇑a) P2.objs.size) α:=by
  rintro α rfl;show OZ (λn s'=>∃i l M j' U,ax `ah [] j' U s'/\Wk `cE j'/\tn i s'.heap/\(∀b∈fp,U b=Ä)/\s'.heap.PlainList ⇑a (aa2 M)/\aL l M/\U ⇑a=Ä/\W i n l U) ?_ m0
   #[0,[],[],_,Y,J0,AJ _,st1,λb G=>(f2 b G).1,hacc,.nil,I2.aP.fresh<|Ñ _,w0]
  intro n s3 zy;let#[i,l,M,j3,H3,I3,wk3,st3,fr3,pl3,ο,ω,w3]:=zy;let#[kk,g3]:=id pl3;have I3':ax `ah [(⇑a,#[.type "list",Ä,.seq (aa2 M) kk,([].toArray)])] j3 H3 s3:=I3.fR λp hp=>by
   have e:=å.mp hp;subst e;show#[g3,ω,ν,λz=>?_,λv q=>by cases q];let#[_,o,ho,_]:=(I2.stack).mem z;show au5 (Í ho)<|Ĵ _
  have γ:∀p∈[((⇑a,⟨.type "list",Ä,.seq (aa2 M) kk,([].toArray)⟩):ai×Obj)],p.1=⇑a:=λp hp=>by
   rw[å.mp hp]
  rcases turn i n l H3 w3 with⟨stop,hlen,fin⟩ |⟨go,NN,hNN,step⟩
  .show ă (T.done (cW X scope N P2.objs.size a Y fp aa) rfl rfl rfl hc i _ s3 j3 H3 _ I3' (κ fr3 γ) st3 stop) (λr s4 h4=>?_) λ_ _ z=>z
   let#[hr,I4]:=h4;subst hr;have g4:=(I4.pin (⇑a,_)<|þ _<|å.mpr rfl).1;let#[mm,hnm,_]:=I4.loc;have B:=RW I2 I4 rfl f2 #[kk,g4] ο hlen ω;show hR _ _ s4 _ mm B hnm ?_ ε<|fin _ ω;rw[a9<|ć ν];show I4.free
  .show ă (T.item `ah rfl rfl rfl hc i _ s3 j3 H3 _ I3' (κ fr3 γ) st3 go) (λr s4 h4=>?_) λ_ _ z=>z
   let#[u,hr,h4]:=h4;subst hr;show ă h4 (λ_ s5 h5=>?_) λ_ _ z=>z
   let#[x,H5,I5,r5,y5,ξ,fr5]:=h5;have I5w:=I5.weak wk3.length.symm<|λi v e=>wk3.get e;have I5':=I5w.pinned (fp:=fp) (κ fr5 γ)<|T.obj _ _ ξ;show ă (hg P2.objs.size a Y fp aa _ s5 _ H5 x u _ I5' r5<|step x H5 y5) (λ_ s6 h6=>?_) λ_ _ z=>z.elim
   let#[j6,H6,I6,wk6,q6]:=h6;show ă (ht P2.objs.size a Y fp aa _ s6 j6 H6 _ I6 q6) (λok s7 h7=>?_) λ_ _ z=>z.elim
   let#[H7,I7,q7]:=h7;have ι:∀{j8:St}{H8:Hp}{s8:ao},ax `ah ([((⇑a,#[.type "list",Ä,.seq (aa2 M) kk,([].toArray)]):ai×Obj)]++tG fp s5.heap) j8 H8 s8->
     (∀b∈fp,∀o,s5.heap.get? b=À o->s8.heap.get? b=À o)/\(∀b∈fp,H8 b=Ä):=λ{j8 H8 s8} I8=>by
    show#[λb G o e=>(I8.pin (b,o)<|þ _<|þ _<|wH G e).1,λb G=>?_];let#[o,e,d]:=T.obj _ _ ξ b G;show (I8.pin (b,o)<|þ _<|þ _<|wH G e).2.1
   have μ:∀{j8:St}{H8:Hp}{s8:ao}{pl:aZ},ax `ah pl j8 H8 s8->ax `ah [] j8 H8 s8:=λI8=>I8.fR λp hp=>by cases hp
   cases ok with
   |false=>
    simp only[ϻ,if_false] at q7 ⊢;let#[m',hm,w7]:=hNN _ _ q7;have p7:=I7.pin (⇑a,_)<|þ _<|Ţ _<|å.mpr rfl;let#[k1,k2]:=ι I7;show#[m',hm,i+1,l,M,j6,H7,μ I7,wk6,T.keep _ _ _ ξ k1,k2,#[kk,p7.1],ο,p7.2.1,w7]
   |true=>
    simp only[if_true] at q7 ⊢;show ă (he P2.objs.size a Y fp aa _ s7 j6 H7 _ I7 q7) (λy s8 h8=>?_) λ_ _ z=>z.elim
    ∎;let#[v,H8,I8,r8,hlt,q8]:=h8;let#[m',hm,w8]:=hNN _ _ q8;∎;have p8:=I8.pin (⇑a,_)<|þ _<|Ţ _<|å.mpr rfl;let#[k1,k2]:=ι I8;have hl:=↑ο;show wpAny_list_append_plain (items:=aa2 M) (hsz:=by rw[â,<- hl];show Ń hlt) #[kk,p8.1] λh₅ ψ θ=>?_
    have I9:ax `ah [] j6 H8 { s8 with heap:=h₅ }:=(μ I8).turned (t':=s8.toks) (it:=⇑a) (λb o G e=>θ.extBut b o G e) p8.2.1 ν (.inr<|Ñ _) υ (λp hp=>by
     have hp':p∈X.pn++aa:=by simpa [cW] using hp
     show pnD p hp')
    show#[m',hm,i+1,l++[v],M++[y],j6,H8,I9,wk6,T.keep _ _ _ ξ λb G o e=>θ.extBut b o (λz=>χ<|z ▸ G)<|k1 b G o e,k2,?_,ο.append<|.cons r8 .nil,p8.2.1,w8];have e:(M++[y]).toArray=M.toArray.push y:=by simp
    rw[e];show ψ
 show codeAny_compStart_list (τ _ rfl)<|T.self X.A 0 _ _ _ st1<|τ _ rfl
def AK(hc:X.calm=Â)(hi:PI X target iter wi)(hg:∀C s H fp pl,PG `ai target g)(ht:∀C s H fp pl,qR `ai ifs ti)(he:∀C s H fp pl,PE `ai elt te)(E:bL X scope N ix)(a:do scope.kind=.function)(n: ~~~(∀y∈scope.names,y.2≠.cell))(i: ~~~(∀x∈scope.names,x.2=.local->scope.names.lookup x.1=À .local))(l:do jZ scope X.env=Â)(hs:∀x,Ě iter X.env x=pure x:=by intro _;rfl):PE X (.ListComp elt [#[target,iter,ifs,0]] scope pos) `ei:=by
 intro aa s j H Q I h;rw[eval_ListComp];show as0 (use:=Ä) rfl hs (FJ l) a i ?_;show bh `bY λv s1 Y=>bh Y λα s2 h2=>?_
 let#[it,fp,tn,J,H2,e,r,T,M,U,h]:=h2;subst e;show Hj (RR:=λu C=>compPost `aa X.A X.xe Ä `at u C) hc hg ht he a n l E r T M U h ?_;intro D C s' O m B hn z d q;show#[m,hn,λh' G=>#[.ref D,O,B.turned (t':=s'.toks) (it:=C) (λb o hb e=>G.extBut b o hb e) z (Ū<|Õ r.lt d) (.inr<|Ï r.sz d) (λx c e=>?_)<|λp hp=>?_,rfl,q]]
 .obtain⟨v,o,ho,_⟩:=r.cell x c e;show ç<|Õ (Í ho) d
 .show ç (Õ (Í (r.pin p hp).1) d)
def HE(hN:X.N.Nodup)(δ:X.N[i]?=À y)(hy:Loc X.env.scope y)(hc:X.calm=Â)(hi:PI X target iter wi)(hg:∀C s H fp pl,PG `ai target g)(ht:∀C s H fp pl,qR `ai ifs ti)(he:∀C s H fp pl,PE `ai elt te)(U:bL X scope N ix)(γ:Ĭ (.ListComp elt [#[target,iter,ifs,0]] scope pos) (À<|.Name y py) spos.line X.env=pure Â:=by with_unfolding_all rfl)(d:do scope.kind=.function)(u: ~~~(∀y∈scope.names,y.2≠.cell))(n: ~~~(∀x∈scope.names,x.2=.local->scope.names.lookup x.1=À .local))(r:do jZ scope X.env=Â)(hs:∀x,Ě iter X.env x=pure x:=by intro _;rfl)(hf:kX X y:=by first |show .inl rfl |show .inr rfl |assumption):PS X (.Assign [.Name y py] (.ListComp elt [#[target,iter,ifs,0]] scope pos) spos) (mW `ei<|kA i):=by
 intro aa s j H D I h;rw[exec_Assign_Name_used _ _ _ _ γ];show Ê<|Ť<|Ê ?_;change Ø _ X.A (do let _ <- comprehension (.ListComp elt [⟨target,iter,ifs,0⟩] scope pos) scope X.env _ (newList []) Å (eval iter X.env) (À (assign (.Name y py) X.env))) _ _ s;show Ê<|ă (as0 (use:=À<|assign (.Name y py) X.env) (Q:=λ_ G=>SP X aa D .next G) rfl hs (FJ r) d n ?_) (λ_ G hq=>Û<|Û hq) λ_ _ e=>e;show bh `bY λv s1 h1=>bh h1 λζ s2 h2=>?_
 let#[it,fp,tn,J,H2,e,E,T,ε,f2,h]:=h2;subst e;show Hj (Q:=λx H1=>kA i x j H1 D.nx) (RR:=λM C=>compPost `aa X.A X.xe (À<|assign (.Name y py) X.env) (λ_ G=>SP X aa D .next G) M C) hc hg ht he d u r U E T ε f2 h ?_;intro Dd C G H' m B hn O l q;change Ø _ X.A (assign (.Name y py) X.env<|.ref Dd) _ _ _;have cC:∀x c,X.env.cells.lookup x=À c->c≠C:=λx c e=>by
  let#[v,o,ho,_]:=E.cell x c e;show ç<|Õ (Í ho) l
 have lC:X.env.locals≠C:=ç<|Õ E.lt l;show wpAny_assign_Name<|GF (v:=.ref Dd) B hN δ hy rfl (λs4 I4 β=>?_) hf;let#[a,α,ha]:=β;have nC:C≠a:=by
  rcases ha with z |z
  .rw[z];show ć lC
  .show ć (cC _ _ z)
 show#[m,hn.sameBut α nC,λh' Y=>#[_,H',I4.turned (t':=s4.toks) (it:=C) (λb o hb e=>Y.extBut b o hb e) O (ć lC) (.inr<|Ï E.sz l) cC<|λp hp=>?_,q]];show ç<|Õ (Í (E.pin p hp).1) l
end
section
variable{g:TG}{ti:TT}{te:TE}{ix:bE}{σ:St}{Q:VK}
abbrev yU(J:It)(g:TG)(ti:TT)(te:TE)(ix:bE)(σ:St)(Q:VK)(n:Hp):Prop:=∃W:Nat->Nat->az->Hp->Prop,(∃m,W 0 m [] n)/\∀i m a H,W i m a H->
 (J.stop i H/\↑a<=Ô/\∀p,H p=Ä->Q `ao (aQ H p<|.ah a))\/
 (J.go i H/\∃N:az->Hp->Prop,(∀d h,N d h->∃l,l<m/\W (i+1) l d h)/\∀x h,J.nL i H x h->g x `bc h λe o=>Wk `bc e/\ti e o λb j=>if b=Â then te e j λv q=>↑a<Ô/\N (a++[v]) q else N a j)
def BJ(Pv:Nat->az->Hp->Prop)(z:Pv 0 [] H1)(l:∀i a H,i<n->Pv i a H->J.go i H)(o:∀a H,Pv n a H->J.stop n H)(hs:∀i x a H j,i<n->Pv i a H->J.nL i H x j->g x `bc j λh u=>Wk `bc h/\ti h u λb q=>if b=Â then te h q λv w=>↑a<Ô/\Pv (i+1) (a++[v]) w else Pv (i+1) a q)(hd:∀a H,Pv n a H->↑a<=Ô/\∀p,H p=Ä->Q `ao (aQ H p<|.ah a)):yU J g ti te ix σ Q H1:=by
 show#[λi m a H=>m=n - i/\i<=n/\Pv i a H,#[n,by simp,ľ _,z],?_];rintro i m a H ⟨rfl,B,p⟩;by_cases d:i<n
 .show .inr #[l i a H d p,Pv<|i+1,λr j A=>#[n - (i+1),⋯,rfl,d,A],λx j y=>hs i x a H j d p y]
 .have e:i=n:=⋯
  subst e;show .inl #[o a H p,hd a H p]
end
section
variable{X:Cx}
abbrev E1:V->bR->bR->Hp->VK->Prop:=λx lo a H Q=>∃z,x=.str z/\↑z<=Ô/\Q (.str<|Txt.slice z lo a) H
def ZH:nO X E1:=by
 intro aa s G H x v B C lo r A Q I y d w n h;∎;let#[z,rfl,e,q]:=h;let#[t,rfl]:=(show ∃t,v=ad6 z t from y);∎;show#["str",_,F.slot_str_getitem.lookup,typeIs_str _ _ _,?_];have a:∀(m:Tok)(k:Nat),EP X aa G Q (.str (Txt.slice z lo r) m) { s with toks:=k }:=λm k=>#[.str _,H,I.tok k,#[m,rfl],q]
 cases w with
 |none=>
  cases n with
  |none=>show Ϝ (l:=Ä) (u:=Ä) (st:=Ä) d rfl<|ae9 #[Ï (ah5 z _ _) e,λb k=>a b k]
  |int j g=>show Ϝ (l:=Ä) (u:=À (j,g)) (st:=Ä) d rfl<|ae9 #[Ï (ah5 z _ _) e,λb k=>a b k]
 |int i o=>
  cases n with
  |none=>show Ϝ (l:=À (i,o)) (u:=Ä) (st:=Ä) d rfl<|ae9 #[Ï (ah5 z _ _) e,λb k=>a b k]
  |int j g=>show Ϝ (l:=À (i,o)) (u:=À (j,g)) (st:=Ä) d rfl<|ae9 #[Ï (ah5 z _ _) e,λb k=>a b k]
end
abbrev vj(lo c:Int)(n:Nat):It:=#[λi _=>i<n,λi H x a=>a=H/\x=.int (lo+i*c),λi _=>n<=i]
def Pq{P:é}{w:ü}{K:PySem.W.Frag}{Q:đ}(it:ai)(lo c:Int)(n:Nat):k7 P w K Q (vj lo c n) [it] it (λi h=>al9 h it (lo+(i:Nat)*c) ((n:Int) - (i:Nat)) c) where
 mem:=by simp
 obj:=λi h st b a=>by
  have e:b=it:=by simpa using a
  subst e;show#[_,st,λv z=>by
   have U:Data.fields _=Data.cell v:=z;cases U]
 keep:=λi h g st k=>k it ∅ _ st
 item:=by
  intro X A D y B i aa s j H E I l st C;subst A D y;let#[m,q,M,r,u,x]:=l it ∅;have W:=Walks.range (prog:=X.prog) (w:=X.w) `cB it lo c n;show W.item i s _ _ C st λv g G N d O=>?_
  let#[t,rfl]:=N;have J:ax X aa j H { s with heap:=g,toks:=G }:=I.turned (λb o a e=>O b o (by simpa using a) e) m q r u x;show#[_,rfl,uJ (s:={ s with heap:=g,toks:=G }) (n:="range_iterator") d rfl rfl ∎ #[.int<|lo+i*c,H,J,#[t,rfl],#[rfl,rfl],d,λb a=>(l b a).1]]
 done:=by
  intro X A D y B i aa s j H E I l st C;subst A D y;let#[m,q,M,r,u,x]:=l it ∅;show au2 `cB st (by have:n<=i:=C;omega) λg eb=>#[rfl,I.turned (t':=s.toks) (λb o a e=>eb b o a e) m q r u x]
 self:=λ_ _ _ _ _ st h=>au1 st h
abbrev Cn(d:b9)(e:ai)(h:aU):Prop:=∃o vs,h.get? e=À o/\o.data=.fields vs/\vs[2]?=À .none/\o.dict=d
def Cn.keeps{d:b9}{e:ai}{h h':aU}(c:Cn d e h)(k:∀o,h.get? e=À o->h'.get? e=À o):Cn d e h':=
 let ⟨q,vs,h1,h2⟩:=c;#[q,vs,k q h1,h2]
def Wz(o:Obj)(f:dk->dk):(ŗ f o).dict=o.dict:=by
 unfold ŗ;split<;>rfl
def Cn.aQ{d:b9}{e b:ai}{h:aU}{i:Nat}{v:au}(c:Cn d e h)(m:b≠e\/i≠2):Cn d e (h.update b (ŗ (·.setIfInBounds i v))):=by
 let#[o,vs,a,g,j,l]:=c;by_cases z:b=e
 .subst z;have d:=Β g (·.setIfInBounds i v);show#[_,_,ċ _ a<|ac2 d,d,?_,(Wz _ _).trans l];rw[ag3<|m.resolve_left λq=>q rfl];show j
 .show#[o,vs,by rw[ö _ _ z];show a,g,j,l]
section
variable{M:Model}{A:Ĉ}{E:au->ao->Prop}{s:ao}{base:aU}{env:Env}{outer:cL}{L e:ai}{d:b9}
def Jy{o:Obj}{vs:dk}{i a0:au}{hn:Bool}{Q:Unit->ao->Prop}(fr:A.frames=À (env::outer))(r:s.heap.FunFrames base (env::outer))(N:env.frame=À L)(he:s.heap.get? e=À o)(U:base.StaysIn s.heap)(J:base.get? e=Ä)(hd:o.data=.fields vs)(hz:1<vs.size)(O:vs[0]?=À a0)(c:Cn d e s.heap)(h:∀k,Heap.NotedW base (env::outer) e o.cls a0 (ϧ L) s.heap k->Cn d e k->Q () { s with heap:=k }):
  Ø M A (do let a <- frameOf env;let q <- entryPlaceOf L hn;let b <- ak5 i a .none (ϧ L) .none q;setField `bk 1 b) Q E s:=by
 have y:∀b u,s.heap.get? b=À u->(∀vs,u.data≠.fields vs)->b≠e:=λb u z n w=>by rw[w,he] at z;cases z;show n vs hd
 show Ê<|wpAny_frameOf_fun fr r N λg v=>Ê<|wpAny_entryPlaceOf λq D=>?_;unfold ak5 newFields;show Ê<|aj7 ?_<|D.sizeOk5 _ _ _ _ _;have x:g.get? e=À o:=(v.2.1 e λm=>by let#[_,u,z,n]:=r.mem m;show y e u z n rfl).trans he;have B:base.StaysIn g:=λb u z=>(v.2.1 b λm=>by rw[(r.mem m).1] at z;cases z).trans<|U b u z
 have G:Cn d e g:=c.keeps λu z=>by rw[he] at z;cases z;show x
 generalize j:({ cls:=.type "traceback",dict:=Ä,data:=.fields ([i,.ref L,.none,ϧ L,.none]++(if q.isEmpty then Ò 6 ŝ else q)).toArray }:Obj)=new;have C:=Ã (h:=g) new x;have H:Cn d e (g.push new):=G.keeps λu z=>Ã new z
 have ne:g.objs.size≠e:=Ū<|Í x;have l:=Β hd (·.setIfInBounds 1 `bD);have I:=ċ (ŗ (·.setIfInBounds 1 `bD)) C<|ac2 l;have Y:=(ö (g.push new) (ŗ (·.setIfInBounds 1 `bD)) ne.symm).trans (Ó g (by rw[<- j];rfl));have kp:∀b u,b≠e->g.get? b=À u->((g.push new).update e (ŗ (·.setIfInBounds 1 `bD))).get? b=À u:=λb u n z=>by
  rw[ö _ _ n.symm];show Ã _ z
 show aq1 C hd hz (h _ #[λb u z=>kp b u (λw=>by rw[w,J] at z;cases z)<|B b u z,r.of_keeps λb u z n=>?_,#[_,_,_,_,_,I,#[Obj.cls_mapFields _ _,by rw[ag3 ∎];show O],l,by simp[hz],B.fresh,ne,Y,by rw[<- j],?_],λb u z n=>?_]<|H.aQ<|.inr ∎)
 .obtain⟨sl,w⟩:=v.2.2 b u z;show#[_,kp b _ `bz w,rfl]
 .first |(simp;done) |(rcases D with rfl |⟨_,_,_,_,_,_,_,rfl⟩<;>simp)
 .obtain⟨sl,w⟩:=v.2.2 b u z;show#[sl,kp b _ `bz w]
def F0{a a0:au}{Q:Unit->ao->Prop}(fr:A.frames=À (env::outer))(C:s.heap.FunFrames base (env::outer))(l:env.frame=À L)(t:s.heap.TracedW base e a a0)(H:base.StaysIn s.heap)(B:base.get? e=Ä)(c:Cn d e s.heap)(h:∀k,Heap.NotedW base (env::outer) e a a0 (ϧ L) s.heap k->Cn d e k->Q () { s with heap:=k }):Ø M A (ag9 `bk env) Q E s:=by
 let#[o,vs,T,p,I,m,#[rfl,D],q,r,G,ne,i,j,v]:=t;unfold ag9;simp only[l];show Ê<|am3 m q r ?_;rw[au4<|by simp];show Ê<|am3 i j v ?_;rw[au3<|by simp[ϧ]];show Ê<|aq1 i j (Ŝ.mp v).1 ?_;have g:∀b u,b≠T->s.heap.get? b=À u->(s.heap.update T (ŗ (·.setIfInBounds 3 ŝ))).get? b=À u:=λb u n z=>(ö _ _ n.symm).trans z
 have y:∀b u,s.heap.get? b=À u->(∀vs,u.data≠.fields vs)->b≠T:=λb u z n w=>by rw[w,i] at z;cases z;show n I j
 show Jy fr (C.of_keeps λb u z n=>#[u,g b u `bz z,rfl]) l (g e o ne.symm m) (λb u z=>g b u (λw=>by rw[w,G] at z;cases z)<|H b u z) B q (Ŝ.mp r).1 D (c.aQ<|.inl ne)
  λk x=>h k #[x.1,x.2.1,x.2.2.1,λb u z n=>x.2.2.2 b u (g b u `bz z) n]
def wU{l:cL}{a a0 C:au}{Q:Unit->ao->Prop}(H:base.StaysIn s.heap)(B:s.heap.FunFrames base l)(t:s.heap.TracedAtW base e a a0 C)(c:Cn d e s.heap)(h:∀k,base.StaysIn k->k.FunFrames base l->k.TracedW base e a a0->(∀b o,s.heap.get? b=À o->(∀vs,o.data≠.fields vs)->k.get? b=À o)->Cn d e k->Q () { s with heap:=k }):Ø M A (al0 `bk Ä) Q E s:=by
 let#[o,vs,T,p,I,m,G,q,r,v,ne,j,g,D]:=t;have x:=(Ŝ.mp D).1;unfold al0;show Ê<|am3 m q r ?_;rw[au4<|by simp];have i:∀b u,b≠T->s.heap.get? b=À u->(s.heap.update T (ŗ (·.setIfInBounds 3 ((Ä:b9).elim ŝ λf=>ϧ f)))).get? b=À u:=λb u n z=>(ö _ _ n.symm).trans z
 have y:∀b u,s.heap.get? b=À u->(∀vs,u.data≠.fields vs)->b≠T:=λb u z n w=>by rw[w,j] at z;cases z;show n I g
 show aq1 j g x (h _ (λb u z=>i b u (λw=>by rw[w,v] at z;cases z)<|H b u z) (B.of_keeps λb u z n=>#[u,i b u `bz z,rfl])
  #[o,vs,T,_,_,i e o ne.symm m,G,q,r,v,ne,ċ _ j<|ac2<|Β g _,Β g _,by simp[x]] (λb u z n=>i b u `bz z) (c.aQ<|.inl ne))
def Ox{i a0:au}{Q:Unit->ao->Prop}(fr:A.frames=À (env::outer))(l:s.heap.FunFrames base (env::outer))(m:env.frame=À L)(t:s.heap.TracedW base e i a0)(r:base.StaysIn s.heap)(j:base.get? e=Ä)(c:Cn d e s.heap)(h:∀k,Heap.LeftW base (env::outer) e i a0 s.heap k->Cn d e k->Q () { s with heap:=k }):Ø M A (leaving env<|.ref e) Q E s:=by
 unfold leaving;show Ê (F0 fr l m t r j c λk x q=>wU x.1 x.2.1 x.2.2.1 q λo a b y g v=>h o #[a,b,y,λb u z n=>let ⟨sl,w⟩:=x.2.2.2 b u z n;#[sl,g b _ w n]] v)
def FA{o:Obj}{vs:dk}{a0:au}{Q:Unit->ao->Prop}(fr:A.frames=À (env::outer))(m:s.heap.FunFrames base (env::outer))(i:env.frame=À L)(he:s.heap.get? e=À o)(B:base.StaysIn s.heap)(l:base.get? e=Ä)(hd:o.data=.fields vs)(j:vs[1]?=À .none)(r:vs[0]?=À a0)(v:vs[2]?=À .none)(h:∀k,Heap.LeftW base (env::outer) e o.cls a0 s.heap k->Cn o.dict e k->Q () { s with heap:=k }):Ø M A (leaving env<|.ref e) Q E s:=by
 unfold leaving ag9;simp only[i];show Ê<|Ê<|am3 he hd j ?_;rw[au3 ∎];show Jy fr m i he B l hd (Ŝ.mp j).1 r #[o,vs,he,hd,v,rfl] λk x q=>wU x.1 x.2.1 x.2.2.1 q λy a b D g C=>h y #[a,b,D,λb u z n=>let ⟨sl,w⟩:=x.2.2.2 b u z n;#[sl,g b _ w n]] C
def RX{a a0:au}{Q:Unit->ao->Prop}(fr:A.frames=À (env::outer))(g:env.frame=À L)(f:aa5 base (env::outer) e a a0 s.heap)(c:Cn d e s.heap)(h:∀k,Heap.HeldW base (env::outer) e a a0 L k->s.heap.UpToSlots k->Cn d e k->Q () { s with heap:=k }):Ø M A (ag9 `bk env) Q E s:=
 F0 fr f.2.2.1 g f.2.2.2 f.1 f.2.1 c λk b q=>h k #[b.1,f.2.1,b.2.1,b.2.2.1] b.2.2.2 q
def ZI{l:cL}{a a0:au}{Q:Unit->ao->Prop}(f:Heap.HeldW base l e a a0 L s.heap)(c:Cn d e s.heap)(h:∀k,aa5 base l e a a0 k->s.heap.UpToSlots k->Cn d e k->Q () { s with heap:=k }):Ø M A (al0 `bk Ä) Q E s:=
 wU f.1 f.2.2.1 f.2.2.2 c λk g i j m q=>h k #[g,f.2.1,i,j] (λb o n hn=>#[o.slots,m b o n hn]) q
def ZJ{l:cL}{a a0:au}{Q:Unit->ao->Prop}(f:aa5 base l e a a0 s.heap)(c:Cn d e s.heap)(h:∀k,aa5 base l e a a0 k->s.heap.UpToSlots k->Cn d e k->Q () { s with heap:=k }):Ø M A (al0 `bk Ä) Q E s:=
 wU f.1 f.2.2.1 f.2.2.2.at c λk g i j m q=>h k #[g,f.2.1,i,j] (λb o n hn=>#[o.slots,m b o n hn]) q
end
abbrev qM(e h:aU)(H:Hp)(x:ai)(a:au)(d:b9):Prop:=
 e.get? x=Ä/\H x=Ä/\∃i b vs T oT g,e.get? T=Ä/\H T=Ä/\h.get? x=À b/\b.cls=a/\vs[0]?=À i/\b.data=.fields vs/\vs[1]?=À (.ref T)/\T≠x/\h.get? T=À oT/\oT.data=.fields g/\g[3]?=À .none/\Cn d x h
abbrev fy(P:é)(w:ü):gs:=λouter H s E e b=>∃x a d g,e=.ref x/\b.os=s.os/\aa3 b.gens/\Un (cQ outer) [] H g s.heap b.heap/\dD P w g b.heap/\qM s.heap b.heap g x a d/\E a d g
def bc.has(x:bc P w H h a o):∃u,h.get? a=À u:=by
 cases o with
 |ah d=>let#[_,_,_,_,e]:=x;show#[_,e]
 |aJ d=>let#[_,_,_,u,e,_]:=x;show#[_,e]
 |dK b=>let#[_,_,_,_,u,_,_,e,_]:=x;show#[_,e]
 |dT b=>let#[_,_,_,_,u,_,_,e,_]:=x;show#[_,e]
 |set S n=>let#[u,_,_,_,e,_]:=x;show#[_,e]
 |ins C g fs=>let#[_,_,_,e,_]:=x;show#[_,e]
 |own y=>show x
 |xd fs=>let#[_,#[u,_,_,e,_],_]:=x;show#[_,e]
 |kP lo i=>let#[_,_,_,e]:=x;show#[_,e]
 |aE j u=>let#[e,_]:=x;show#[_,e]
 |oZ l=>show#[_,x]
 |met f y=>show#[_,x]
 |ext m=>show x.2.1
def Jz{P:é}{w:ü}{fs fr l bad:cU}{H a:Hp}{h j m:aU}(u:Un fs [] H a h j)(aP:dD P w a j)(U:∀b∈l,b∈bad\/b∈fr)(J:∀b∈bad,h.get? b=Ä/\a b=Ä)(y:∀b∈fr,(b∈fs\/h.get? b=Ä)/\a b=Ä/\∃o,j.get? b=À o/\∀vs,o.data≠.fields vs)(N:∀b∈fs,b∈fr)(k:(ű j l).StaysIn m)(sm:j.UpToSlots m):
  Un fs [] H a h m/\dD P w a m/\∀x B d a0,m.TracedW (ű j l) x B a0->Cn d x m->h.get? x=Ä->a x=Ä->qM h m a x B d:=by
 have gt:∀b o,j.get? b=À o->b ∉ bad->b ∉ fr->m.get? b=À o:=λb o e n1 n2=>k b o<|ap3 _ e λz=>(U b z).elim n1 n2
 have nb:∀b o,h.get? b=À o->b ∉ bad:=λb o e z=>by rw[(J b z).1] at e;cases e
 have slots:∀b o,b∈fr->j.get? b=À o->∃G,m.get? b=À { o with slots:=G }:=λb o i e=>by
  let#[_,_,C,g,d]:=y b i;rw[e] at g;cases g;show sm b o e d
 have tr:∀b u,a b=À u->b ∉ bad/\b ∉ fr:=λb u e=>#[λz=>(by rw[(J b z).2] at e;cases e),λz=>(by rw[(y b z).2.1] at e;cases e)]
 show#[#[λb o e n i A=>?_,λb o e n i A=>?_,λb o e n A=>u.free b o e n A,λb o e A=>?_,u.ed,u.bj,u.eT],λb v e=>?_,λx B d a0 Y M A I=>?_]
 .show gt b o (u.keep b o e n i A) (nb b o e) λz=>?_
  rcases (y b z).1 with q |q
  .show i q
  .rw[e] at q;cases q
 .obtain⟨G,e1⟩:=u.slot b o e n i A;let#[O,D]:=slots b _ (N b i) e1;show#[O,D]
 .obtain⟨C,e1⟩:=u.there b o e A;by_cases i:b∈fr
  .obtain⟨G,D⟩:=slots b C i e1;show#[_,D]
  .show#[C,gt b C e1 (nb b o e) i]
 .show (aP b v e).eS (λc o E q=>?_) (λ_ q=>q) λ_ _ q=>q
  rcases E with rfl |E
  .show gt c o q (tr c v e).1 (tr c v e).2
  .show gt c o q (tr c _ E).1 (tr c _ E).2
 .obtain⟨oe,vs,T,oT,ts,t1,⟨t2,t3⟩,t4,t5,t6,t7,t8,t9,t10⟩:=Y;have Q:h.get? T=Ä/\a T=Ä:=by
   cases q:j.get? T with
   |none=>
    show#[?_,?_]
    .cases r:h.get? T with
     |none=>rfl
     |some o=>let#[C,g]:=u.there T o r ∅;rw[q] at g;cases g
    .cases r:a T with
     |none=>rfl
     |some v=>let#[C,g]:=(aP T v r).has;rw[q] at g;cases g
   |some o=>
    by_cases hm:T∈l
    .rcases U T hm with z |z
     .show J T z
     .obtain⟨G,D⟩:=slots T o z q;let#[_,_,C,g,d]:=y T z;rw[q] at g;cases g;rw[t8] at D;cases D;show au5 t9<|d ts
    .have:=ap3 _ q hm;rw[t6] at this;cases this
  show#[A,I,a0,oe,vs,T,oT,ts,Q.1,Q.2,t1,t2,t3,t4,t5,t7,t8,t9,t10,M]
def qM.lX{H:Hp}(f:qM h0 h H x cls d):∃T a0,h0.get? T=Ä/\H T=Ä/\∀l:cU,T∈l->h.TracedW (ű h l) x cls a0:=by
 let#[_,_,a0,g,vs,T,oT,w,i,j,m,n,o,q,r,u,v,a,b,_]:=f;show#[T,a0,i,j,λl e=>#[g,vs,T,oT,w,m,#[n,o],q,r,Ϟ _ e,u,v,a,b]]
def qM.cn{H:Hp}(f:qM h0 h H x cls d):Cn d x h:=by
 let#[_,_,e,g,vs,T,oT,v,i,j,l,m,n,o,q,r,u,a,b,c]:=f;show c
section
variable{X:Cx}{aa:aZ}{σ:St}{H:Hp}{s:ao}
def wV:∀env∈l,∀a,env.frame=À a->a∈cQ l:=λenv b a d=>Į.mpr #[env,b,d]
def ax.FY(I:ax X aa σ H s):∀b∈cQ X.stack,(b∈X.fs\/X.s₀.heap.get? b=Ä)/\H b=Ä/\∃o,s.heap.get? b=À o/\∀vs,o.data≠.fields vs:=λb a=>by
 show#[?_,I.gZ b a,(I.stack.mem a).2];rcases ä.mp (I.gb b a) with e |e
 .show .inr (by rw[e];show Ł I.ok.above)
 .show .inl e
def Bj{E:XK}{x:ai}{a:au}{d:b9}(hs:X.stack=X.env::X.outer)(q:X.env.frame=À X.env.locals)(m:X.ex=[])(I:ax X aa σ H s){l bad:cU}{g:aU}(r:∀b∈l,b∈bad\/b∈cQ X.stack)(i:∀b∈bad,X.s₀.heap.get? b=Ä/\H b=Ä)(k:(ű s.heap l).StaysIn g)(sm:s.heap.UpToSlots g){a0:au}(ht:g.TracedW (ű s.heap l) x a a0)(j:Cn d x g)(v:X.s₀.heap.get? x=Ä)(h:H x=Ä)(e:E a d H):fy X.prog X.w X.outer X.H₀ X.s₀ E `aV { s with heap:=g }:=by
 have n:=I.base;rw[m] at n;let#[u,ok,o]:=Jz n I.aP r i I.FY (λb i=>by rw[hs];unfold cQ;rw[ő,q];show ī _ i) k sm;show#[x,a,d,H,rfl,I.os,I.bare,u,ok,o x a d a0 ht j v h,e]
abbrev qW(X:Cx)(E:XK):Prop:=X.xe=λe d=>Ø `aa X.A (leaving X.env e) (λ_ a=>fy X.prog X.w X.outer X.H₀ X.s₀ E e a) (λb a=>fy X.prog X.w X.outer X.H₀ X.s₀ E b a) d
def L4{E:XK}(hs:X.stack=X.env::X.outer)(j:X.env.frame=À X.env.locals)(i:X.ex=[])(u:qW X E):adc `av X E:=by
 intro aa σ H s e y I M;let#[x,B,d,A,rfl,os,bare,un,aP,g,C]:=M;have J:ax X aa σ A y:=I.eJ (ch:=[]) os un aP bare (λb z=>au5 z<|by simp);have up:∀b,s.heap.get? b=Ä->X.s₀.heap.get? b=Ä:=λb z=>by
  cases q:X.s₀.heap.get? b with
  |none=>rfl
  |some o=>let#[o',v]:=I.base.there b o q (by rw[i];simp);rw[z] at v;cases v
 let#[T,Y,l,G,r]:=g.lX;rw[u];have n:∀env∈X.env::X.outer,∀a,env.frame=À a->a∈x::T::cQ X.stack:=λenv N a j=>.tail _ (.tail _ (by rw[hs];show wV env N a j))
 show Ox (base:=ű y.heap (x::T::cQ X.stack)) (by rw[J.ok.frames,hs]) (ab1 (hs ▸ J.stack) n) j (r _<|.tail _<|.head _) (λb o q=>ac8 _ q)
  (Ϟ _<|.head _) g.cn λh' D m=>?_
 let#[O,_,Q,U]:=D;show Bj hs j i J (bad:=[x,T]) (λb h=>by
  rcases ä.mp h with z |h
  .show .inl (by rw[z];show .head _)
  .rcases ä.mp h with z |h
   .show .inl (by rw[z];show .tail _ (.head _))
   .show .inr h) (λb h=>by
  rcases ä.mp h with z |h
  .rw[z];show#[up _ g.1,g.2.1]
  .have z:b=T:=by simpa using h
   rw[z];show#[up _ l,G]) O U Q m (up _ g.1) g.2.1 C
end
def WA{K:ar}{h:aU}{C:ai}{a:aS}{newId:String}(X:K.In h)(q:ac6 K C a newId=Â):
  ∃bm N nm g bs hd sn sub ab col dd k0 k1 k2 k3 k5 mN,h.get? C=À (aa7 nm g C N bs bm hd sn sub ab col dd k0 k1 k2 k3 k5 newId)/\h.Ns N mN/\mN "__init__"=Ä/\OwnTail h a bm:=by
 unfold ac6 at q;split at q
 case h_2=>cases q
 case h_1 ddc cdc slc hlook=>
  split at q
  case h_2=>cases q
  case h_1 Cc bmc k0 k1 k2 k3 nn k5 hmro hslots=>
   simp only[ê,beq_iff_eq,as9] at q;∎;let#[#[#[#[#[j,l],d],m],b],e]:=q;let#[nm,bs,n,ns,g,hd,sn,sub,ab,col,i]:=cdc;∎;dsimp only at hmro d b e;let#[o]:=slc;simp only at hslots;subst j l d hmro hslots;show#[_,_,_,_,_,_,_,_,_,_,_,_,_,_,_,_,_,X _ _ hlook,.of_isNs<|W.isNs_of_in X b,W.nsMap_none_of_in X b e,W.tail_of_in X m]
abbrev DY(C:ai)(E:XK)(b:TE):TS:=λ_ j H=>b j H λ_ a=>E `ag Ä a
section
variable{X:Cx}
def Uw{E:XK}{x:Str}{np i pos:Pos}{g:đ}{te:TE}{C:ai}{B newId l:String}{w:aS}(hs:X.stack=X.env::X.outer)(Q:X.env.frame=À X.env.locals)(M:X.ex=[])(δ:qW X E)(n:X.calm=Â)(hg:Gl X x)(hm:X.mg x=À `ag)(FB:ExcBaseFacts B newId l w)(hq:ac6 X.K C w newId=Â)(he:PE X g te)(α: ~~~(dS x))(O:do ew g [] X.env)(hpl:do gf i [] X.env):
  PS X (.Raise (À<|.Call (.Name x np) [g] [] i) Ä pos) (DY C E te):=by
 intro aa s j H D I h;let#[bm,N,nm,qn,bs,hd,sn,sub,ab,col,dd,k0,k1,k2,k3,k5,mN,hC,hN,γ,T]:=WA I.ok.mod.nE hq;show wpAny_Raise_call_subT (C:=C) (nm:=nm) (q:=qn) (N:=N) (bs:=bs) (bm:=bm) (hdct:=hd) (sn:=sn) (sub:=sub) (ab:=ab) (col:=col) (dd:=dd) (k0:=k0) (k1:=k1) (k2:=k2) (k3:=k3) (k5:=k5)
  FB (mN:=mN) (T.hasType FB.hasBase) (I.ok.hd n) (by rw[O];change (Å || (Ų i (ā [] X.env)).any (·.1))=Å;rw[hpl];rfl) γ (oo I hg hm #[rfl,?_] α)
 rw[O];show ac0 ?_;show Ő ?_;show bh `aC λu s1 ε=>?_
 let#[v,U,m,_,q1]:=ε;show Ϗ ?_;show#[rfl,by change (1:Nat)<=Ô;decide,m.bk _ _ hC,hN.keeps m.bk,T.keeps m.bk,λh' e d=>?_];let#[t,ht,ζ,η]:=d.there;have J:ax X aa j U { s1 with heap:=h' }:=m.eJ (ch:=[]) rfl (Un.kept d.keeps) (m.aP.kept d.keeps) m.bare (λb z=>au5 z<|by simp);have up:∀b,s1.heap.get? b=Ä->X.s₀.heap.get? b=Ä:=λb z=>by
  cases q:X.s₀.heap.get? b with
  |none=>rfl
  |some o=>let#[o',y]:=m.base.there b o q (by rw[M];simp);rw[z] at y;cases y
 have A:U e=Ä:=by
  cases r:U e with
  |none=>rfl
  |some v=>let#[o',y]:=(m.aP e v r).has;rw[d.new] at y;cases y
 rw[δ];have β:∀env∈X.env::X.outer,∀a,env.frame=À a->a∈e::cQ X.stack:=λenv he a Q=>.tail _ (by rw[hs];show wV env he a Q)
 show FA (base:=ű h' (e::cQ X.stack)) (a0:=.ref t) (by rw[J.ok.frames,hs]) (ab1 (hs ▸ J.stack) β) Q ht (λb o q=>ac8 _ q)
  (Ϟ _<|.head _) rfl rfl rfl rfl λh2 hL Y=>?_
 let#[l1,_,l3,l4]:=hL;show Bj hs Q M J (bad:=[e]) (λb G=>by
  rcases ä.mp G with z |G
  .show .inl (by rw[z];show .head _)
  .show .inr G) (λb G=>by
  have z:b=e:=by simpa using G
  rw[z];show#[up _ d.new,A]) l1 l4 l3 Y (up _ d.new) A q1
end
section
variable{P:é}{w:ü}{K:ar}{mg:bx}{base:aU}
def iQ.B5{x a:Str}{st:ù}{f:ai}{g:Ĥ}{N ps:aj}{k:Nat}{sp:Sp}(F:iQ K x a st f g)(S:bT N ps `aY)(len:∀vs H Q E,sp vs H Q E->↑vs=↑ps)(b:∀(bK:au)(A:Ĉ)(outer:cL)(s:ao)(H:Hp)(vs:az)(Q:VK)(E:XK),bD k (A.deeper<|ė a (bC st) ⇑s f bK)->sp vs H Q E->
   ∃t,fV (kB `aZ P w K mg base N a `aY f bK A outer s H E) `bI t/\t { nx:=λ_ h=>Q .aM h,rt:=Q } `bh H):aG P w K mg base `aZ (k+1) f g ps sp:=by
 let#[oc,od,kV,doc,pm,an,bK,ct,osl,rfl,j,d]:=F.ex;show Kk j d S len λA outer s H vs Q E i e=>b bK A outer s H vs Q E i e
end
section
variable{X:Cx}
abbrev jy(CX:gs)(X:Cx)(j:St)(E:XK):Prop:=∀(aa:aZ)(H:Hp)(s:ao)(e:au)(a:ao),ax X aa j H s->CX X.stack H s E e a->X.xe e a
abbrev DZ(sp:Sp)(a:az)(R:St->XK)(t:TA):TE:=λj H Q=>t j H λvs b=>sp (vs++a) b Q<|R j
variable{CX:gs}{k:Nat}{f:ai}{fd:Ĥ}{ps:aj}{sp:Sp}{dvs:az}{ds:aS}{x:Str}{p pos:Pos}{e:đ}{es:bS}{t:TA}
def AL(F:aG X.prog X.w X.K X.mg X.base CX k f fd ps sp)(g:bD k X.A)(b:Binds X.K fd ps ds)(hd:aL dvs ds)(i:jy CX X j E)(I:ax X aa j H s)(r:aL vs us)(h:sp (vs++dvs) H Q E):Ø `aa X.A (call `au us) `at X.xe s:=by
 have r2:=r.append hd;have d:(us++ds).length=↑ps:=↑r2 ▸ F.len _ _ _ _ h;show Τ<|Ż (F.run X.A X.stack s H #[us,[]] (us++ds) (vs++dvs) Q E g I.nA (b s us I.dc d) r2 h) λr l a=>?_
 match r,a with
 |.error e,a=>show i aa H s e l I a
 |.ok (.ret u),a=>show I.after a
 |.ok .next,a=>show a.elim
 |.ok .brk,a=>show a.elim
 |.ok .cont,a=>show a.elim
def Ux{R:St->XK}(F:aG X.prog X.w X.K X.mg X.base CX k f fd ps sp)(n:bD k X.A)(l:Gl X x)(hm:X.mg x=À `au)(m:ύ X.K `au=Â)(i:Binds X.K fd ps ds)(hd:aL dvs ds)(o:∀j,jy CX X j<|R j)(g:PA X (e::es) t)(a: ~~~(dS x))(he:do ew e es X.env)(hpl:do gf pos es X.env):PE X (.Call `aN (e::es) [] pos) (DZ sp dvs R t):=by
 intro aa s j H Q I h;show Ğ<|oo I l hm ?_ a;show ac5 (h₀:=X.base) I.ok.mod.nE m (bh `bF λus v b=>by let#[vs,u,d,r,q]:=b;show#[d.dc,AL F n i hd (o j) d r q]) he hpl
nonrec abbrev Cx.cg(X:Cx)(pn:aZ)(xe:au->ao->Prop):Cx:={ X with pn:=pn,xe:=xe }
def Cx.Ok.cg(ok:X.Ok)(pn:aZ)(xe:au->ao->Prop):(X.cg pn xe).Ok:=
 #[ok.mod,ok.kind,ok.glob,ok.blt,ok.above,ok.inj,ok.has,ok.ow,ok.hd,ok.frames,ok.qI,ok.qp,ok.bs,ok.kG,ok.iM,ok.iG,ok.ea,ok.mG]
def ax.uZ(I:ax X aa j H s)(xe:au->ao->Prop):ax (X.cg (X.pn++aa) xe) [] j H s:=
 #[I.ok.cg _ xe,I.os,I.bare,I.base,I.loc,I.cell,I.free,I.cc,by rw[Ă];show I.pin,I.aP,I.len]
def ax.jT(ok:X.Ok)(I:ax (X.cg (X.pn++aa) xe) more j H s):ax X aa j H s:=
 #[ok,I.os,I.bare,I.base,I.loc,I.cell,I.free,I.cc,λp a=>I.pin p<|Ţ _ a,I.aP,I.len]
nonrec abbrev Cx.bF(X:Cx)(v:au):Cx:={ X with A:=X.A.mark<|À v,calm:=Å,xe:=λ_ _=>False }
def ax.bF(I:ax X aa j H s)(v:au):ax `ej aa j H s:=
 #[#[I.ok.mod,I.ok.kind,I.ok.glob,I.ok.blt,I.ok.above,I.ok.inj,I.ok.has,I.ok.ow,λz=>Bool.noConfusion z,I.ok.frames,I.ok.qI,I.ok.qp,I.ok.bs,I.ok.kG,I.ok.iM,I.ok.iG,I.ok.ea,I.ok.mG],
  I.os,I.bare,I.base,I.loc,I.cell,I.free,I.cc,I.pin,I.aP,I.len]
def ax.jq(ok:X.Ok)(I:ax `ej aa j H s):ax X aa j H s:=
 #[ok,I.os,I.bare,I.base,I.loc,I.cell,I.free,I.cc,I.pin,I.aP,I.len]
def SP.imp(q:SP Y pins' D fl s)(h:∀j H,ax Y pins' j H s->ax X aa j H s):SP X aa D fl s:=by
 cases fl with
 |next=>let#[b,a,I,q]:=q;show#[b,a,h _ _ I,q]
 |brk=>let#[b,a,I,q]:=q;show#[b,a,h _ _ I,q]
 |cont=>let#[b,a,I,q]:=q;show#[b,a,h _ _ I,q]
 |ret u=>let#[v,b,a,I,r,q]:=q;show#[v,b,a,h _ _ I,r,q]
end
end L2
namespace L2
open PySem PySem.Spec PyProof.Rows PySem.W Builtin Builtin.ObjectAttr Builtin.Getset_descriptor
structure i8(K:ac4)(C:ai):Prop where
 fg:ą K `ag "__getattribute__"=À (À<|.builtin "BaseException.__getattribute__")
 fn:ą K `ag "__getattr__"=À Ä
 fc:ą K `ag "__class__"=À (À<|.builtin "object.__class__")
 mo:mroIn K C (.type "object")=À Â
 sb:subIn K `ag (.type "BaseException")=À Â
abbrev gv(x C:ai)(h:aU):Prop:=∃o,h.get? x=À o/\o.cls=.ref C
def gv.ty(p:gv x C h):Looks M h (typeOf<|.ref x) `ag:=by
 let#[o,a,b]:=p;rw[<- b];show (Looks.ld a).andThen .now
section
variable{prog:é}{w:ü}{A:Ĉ}{E:au->ao->Prop}{K:ac4}{h:aU}{g:Array ao8}{d:Drawn}{t:Nat}{os:OsState}{x C:ai}
def RY{Q:Unit->ao->Prop}(Z:i8 K C)(X:K.In h)(I:gv x C h)(l:Q () #[h,g,d,t,os]):
  Ø M A (ak7 "BaseException.__getattribute__" #[[.ref x,nameV],[]]) Q E #[h,g,d,t,os]:=by
 have i:builtinKind "BaseException.__getattribute__"=À .slot:=by decide +kernel
 have a:splitId "BaseException.__getattribute__"=À ("BaseException","__getattribute__"):=by decide +kernel
 have j:=F.args_bexc_ga `aV nameV;have b:=I.ty (M:=M);have e:=looks_subIn (M:=M) X Z.sb;simp only[ak7,i,a];show Ê ?_;unfold isInstance;show Ê<|b.at<|e.at ?_
 repeat (any_goals (first |assumption |wp_step))
end
abbrev mF(x C:ai)(d:b9):HO:=.ext λh=>gv x C h/\Cn d x h
def ZK(p:gv x C h)(cn:Cn d x h):bc P w H h x (mF x C d):=by
 show#[#[p,cn],?_,λa b q k=>?_]
 .obtain⟨o,e,_⟩:=p;show#[o,e]
 .obtain⟨⟨o,e,c⟩,n⟩:=q;show#[#[o,k o e,c],n.keeps k]
end L2
namespace L2
open PySem PySem.Spec PyProof.Rows
def ZL:adc `aZ X E0:=λ_ _ _ _ _ _ _ a=>by let#[_,_,_,_,_,_,_,_,_,_,h]:=a;show h.elim
section
variable{X:Cx}
def ax.gone{s:ao}{n:Str}(I:ax X aa G H s)(A:X.N.Nodup)(C:X.N[i]?=À n)(hm:s.heap.Ns X.env.locals m)(D:∀(j:Nat)(x:Str)(v:V),X.N[j]?=À x->G[j]?=À (À v)->o9 X.env.scope x->∃u,aH v u/\Fj X.env s.heap m x u)(hn:h'.Ns X.env.locals (λx=>if x=n then v else m x))(hs:ϲ X.env.locals s.heap h'):ax X aa (G.set i Ä) H { s with heap:=h',toks:=tk }:=by
 have apart:∀b o,X.s₀.heap.get? b=À o->b≠X.env.locals:=λb o e=>ç<|Õ (Í e) I.ok.above
 show#[I.ok,I.os,I.bare,#[λb o e q g d=>(hs.2 b<|apart b o e).trans<|I.base.keep b o e q g d,λb o e q g d=>?_,I.base.free,λb o e d=>?_,I.base.ed,I.base.bj,I.base.eT],
  #[_,hn,λj y M l a w=>?_],λy c e=>?_,I.free,I.cc,λp E=>?_,λb u e=>?_,by rw[û];show I.len]
 .obtain⟨sl,z⟩:=I.base.slot b o e q g d;show#[sl,(hs.2 b<|apart b o e).trans z]
 .obtain⟨o',z⟩:=I.base.there b o e d;show#[o',(hs.2 b<|apart b o e).trans z]
 .have hj:i≠j:=λz=>by
   subst z;rw[Θ] at a;split at a
   .split at a<;>cases a
   .rename_i q;show q rfl
  rw[ï hj] at a;let#[u,r,q]:=D j y M l a w;show#[u,r,q.imp (λq=>#[q.1,?_]) λh=>by let#[k,c,e,z]:=h;show#[k,c,e,z.sameBut hs<|I.nr y c e]];have J:y≠n:=λz=>hj<|Ab A C<|z ▸ l
  change (if y=n then v else m y)=_;rw[au3 J];show q.2
 .obtain⟨u,z⟩:=I.cell y c e;show#[u,z.sameBut hs<|I.nr y c e]
 .obtain⟨e,q,ne,r⟩:=I.pin p E;show#[(hs.2 p.1 ne).trans e,q,ne,r]
 .show (I.aP b u e).eS (λc o B q=>(hs.2 c ?_).trans q) (λ_ q=>q) λ_ _ q=>q
  rintro rfl;rcases B with z |z
  .rw[<- z,I.free] at e;cases e
  .rw[I.free] at z;cases z
abbrev Ends.less(D:Ends)(i:Nat):Ends:={ nx:=λj H=>D.nx `dr H,rt:=D.rt,bk:=λj H=>D.bk `dr H,ct:=λj H=>D.ct `dr H }
abbrev yC(K:ar)(C:ai)(i:Nat)(b:ai->TS)(D:Ends):St->XK:=λj a o H=>W.exmOne K a `ag=À Â/\∃B,a=.ref B/\∀y,H y=Ä->b y `cP (j.set i<|À<|.ref y) (aQ H y<|mF y B o)
abbrev M3(K:ar)(C:ai)(i:Nat)(a:TS)(D:Ends):St->XK:=yC K C i (λ_=>a) D
abbrev yD(K:ar)(C:ai)(i:Nat)(tb:(St->XK)->TS)(a:TS):TS:=λD j H=>tb (M3 K C i a D) D j H
abbrev M1(K:ar)(C:ai)(i:Nat)(tb:(St->XK)->TS)(a:ai->TS):TS:=λD j H=>tb (yC K C i a D) D j H
def RZ{tb:(St->XK)->TS}(hs:X.stack=X.env::X.outer)(hf:X.env.frame=À X.env.locals)(hg:Gl X x)(hm:X.mg x=À `ag)(hN:X.N.Nodup)(hi:X.N[i]?=À n)(hn:X.env.scope.names.lookup n=À .local)(d:∀(pn:aZ)(xe:au->ao->Prop)(R:St->XK),(∀j,jy `av `aw j<|R j)->fV `aw body (tb R)){th:ai->TS}(hh:∀y:Ο,fV (X.bF<|.ref y) (O::suite)<|th y)(υ: ~~~(dS x)):
  PS X (.Try body [.ExceptHandler (À<|.Name x np) (À n) (O::suite) hpos] [] [] pos) (M1 X.K C i tb th):=by
 intro aa s j H D I h;show wpAny_Try_except ?_;have η:∀j',jy `av (X.cg (X.pn++aa) λe μ=>Ø `aa X.A (ag9 e X.env) (λ_ ν=>Ø `aa X.A (al0 e Ä)
   (λ_ ξ=>Ø `aa X.A (handleBy e X.env [.ExceptHandler (À<|.Name x np) (À n) (O::suite) hpos]) `dJ X.xe ξ) X.xe ν) X.xe μ) j' (yC X.K C i th D j'):=by
  intro j' pins' H1 s1 e E I1 hc;let#[y,cls,o,G,rfl,os,bare,un,aP,g,γ,B,rfl,hth]:=hc;have J1:ax X aa j' H1 s1:=ax.jT I.ok I1;have J2:ax X aa j' G E:=J1.eJ (ch:=[]) os un aP bare (λb z=>au5 z<|by simp);let#[T,a0,τ,hT,htr]:=g.lX;have φ:∀env∈X.env::X.outer,∀a,env.frame=À a->a∈y::T::cQ X.stack:=λenv he a hf=>.tail _ (.tail _ (by rw[hs];show wV env he a hf))
  have σ:aa5 (ű E.heap (y::T::cQ X.stack)) (X.env::X.outer) y (.ref B) a0 E.heap:=
   #[λb o q=>ac8 _ q,Ϟ _<|.head _,ab1 (hs ▸ J2.stack) φ,htr _<|.tail _<|.head _]
  have on:∀h2:Heap,(ű E.heap (y::T::cQ X.stack)).StaysIn h2->E.heap.UpToSlots h2->Un `cq [] H1 G s1.heap h2/\dD X.prog X.w G h2:=λh2 k sm=>by
   let#[u,ok,_]:=Jz (fs:=cQ X.stack) (fr:=cQ X.stack) (bad:=[y,T]) un aP (λb d=>by
    rcases ä.mp d with z |d
    .show .inl (by rw[z];show .head _)
    .rcases ä.mp d with z |d
     .show .inl (by rw[z];show .tail _ (.head _))
     .show .inr d) (λb d=>by
    rcases ä.mp d with z |d
    .rw[z];show#[g.1,g.2.1]
    .have z:b=T:=by simpa using d
     rw[z];show#[τ,hT]) (λb d=>#[.inl d,(J2.FY b d).2]) (λ_ d=>d) k sm
   show#[u,ok]
  show RX (by rw[I.ok.frames,hs]) hf σ g.cn λh4 α ι ο=>?_
  show ZI α ο λh5 Y κ π=>?_
  have o5:=on h5 Y.1<|ι.trans κ;have J5:ax X aa j' G { E with heap:=h5 }:=J1.eJ (s':={ E with heap:=h5 }) (ch:=[]) os o5.1 o5.2 bare (λb z=>au5 z<|by simp);show wpAny_handleBy_cons (codeAny_handlers_test ?_) (by intro q;cases q);show oo (X:=X.bF<|.ref y) (J5.bF<|.ref y) hg hm ?_ υ;let#[ob,ω,hoc]:=Y.there;show (W.exm_one (M:=Ù X.prog X.w) J5.dc (show W.Looks _ h5 (typeOf<|.ref y) (.ref B) from gv.ty #[ob,ω,hoc]) γ).here ?_;show codeAny_handlers_suite_as<|ZJ Y π λh6 β sm6 ρ=>?_;have l:=on h6 β.1<|(ι.trans κ).trans sm6;let#[ob6,ε,ζ]:=β.there;have ne:∀b o,G b=À o->b≠y:=λb o q z=>by rw[z,g.2.1] at q;cases q
  have un6:Un `cq [] H1 (aQ G y<|mF y B o) s1.heap h6:=
   #[l.1.keep,l.1.slot,λb o e q hx=>by rw[a9 (λz=>by rw[z,g.1] at e;cases e)];show l.1.free b o e q hx,l.1.there,λb xs q=>by rw[a9<|ne b _<|l.1.ed b xs q];show l.1.ed b xs q,
    λb o u q=>by rw[a9<|ne b _<|l.1.bj b o u q];show l.1.bj b o u q,λb ps q=>by
     let#[θ,z]:=l.1.eT b ps q;show#[θ,by rw[a9<|ne b _ z];show z]]
  have ok6:dD X.prog X.w (aQ G y<|mF y B o) h6:=λb o q=>by
   by_cases z:b=y
   .subst z;rw[cN] at q;cases q;show ZK #[ob6,ε,ζ] ρ
   .rw[a9 z] at q;show (l.2 b o q).eS (λ_ _ _ e=>e) (λc e=>by rw[a9<|ne c _ e];show e) λc xs e=>by rw[a9<|ne c _ e];show e
  have J6:ax X aa j' (aQ G y<|mF y B o) { E with heap:=h6 }:=J1.eJ (s':={ E with heap:=h6 }) (ch:=[]) os un6 ok6 bare (λb z=>au5 z<|by simp);show uo (X:=X.bF<|.ref y) (v:=.ref y) (J6.bF<|.ref y) hN hi (.inl hn) rfl (λs7 J7=>?_)<|.inr hn;show ă (hh y aa s7 _ _ _ J7<|hth y g.2.1) (λfl s8 q=>?_) λ_ _ z=>z.elim
  have go:∀{j8:St}{Q:Hp}{R:Unit->ao->Prop},ax (X.bF<|.ref y) aa j8 Q s8->(∀s9,ax X aa (j8.set i Ä) Q s9->R () s9)->Ø `aa X.A (do ap5 X.env n .none;unbindBehindTheSuite X.env n hpos) R X.xe s8:=by
   intro j8 Q R r hR;have J:=ax.jq I.ok r;let#[m,δ,χ]:=J.loc;show wpAny_nameGoes_keeps hn δ (by rw[I.ok.kind];rfl) λh9 v ψ hs9=>hR _<|J.gone hN hi δ χ ψ hs9
  match fl,q with
  |.next,⟨j8,Q,r,q⟩=>show go r λs9 U=>#[_,_,U,q]
  |.brk,⟨j8,Q,r,q⟩=>show go r λs9 U=>#[_,_,U,q]
  |.cont,⟨j8,Q,r,q⟩=>show go r λs9 U=>#[_,_,U,q]
  |.ret u,⟨v,j8,Q,r,rv,q⟩=>show go r λs9 U=>#[v,_,_,U,rv,q]
 show ă (d _ _ _ η [] s j H D (I.uZ _) h) (λfl s1 q=>?_) λ_ _ z=>z
 have q':SP X aa D fl s1:=q.imp λj H J=>ax.jT I.ok J
 cases fl with
 |next=>show Γ q'
 |brk=>show q'
 |cont=>show q'
 |ret u=>show q'
def Uy{tb:(St->XK)->TS}(hs:X.stack=X.env::X.outer)(g:X.env.frame=À X.env.locals)(h:Gl X x)(hm:X.mg x=À `ag)(d:X.N.Nodup)(m:X.N[i]?=À n)(hn:X.env.scope.names.lookup n=À .local)(e:∀(pn:aZ)(xe:au->ao->Prop)(R:St->XK),(∀j,jy `av `aw j<|R j)->fV `aw body (tb R))(l:∀v:ϐ,fV `ej (a::suite) th)(b: ~~~(dS x)):
  PS X (.Try body [.ExceptHandler (À<|.Name x np) (À n) (a::suite) hpos] [] [] pos) (yD X.K C i tb th):=RZ hs g h hm d m hn e (λy=>l<|.ref y) b
end
end L2
namespace Vc
open PySem L2 Sf
def Le.exc(e:Le F F')(h:Rd F a (mF a B o)):Rd F' a (mF a B o):=e _ _ (by intro o w z;cases z) h
end Vc
namespace L2
open PySem PySem.Spec PyProof.Rows
abbrev vg(K:ar)(a:ai):It:=
 #[λi H=>∃b x,bH K H a b/\b[i]?=À x,λi H y d=>∃p x,y=.ref p/\H p=Ä/\(∀b,bH K H a b->b[i]?=À x)/\d=aQ H p (.aJ [.int i,x]),λi H=>∃b,bH K H a b/\↑b<=i]
def ax.jR{s:ao}(I:ax X aa j H s)(k:∀c o,c≠a->c≠b->s.heap.get? c=À o->h'.get? c=À o)(B:iz X aa H a)(C:iz X aa H b)(G:∃o,h'.get? a=À o)(eb:∃o,h'.get? b=À o):ax X aa j H { s with heap:=h',toks:=t' }:=by
 ∎;let#[h,l,D,m,r,v]:=B;let#[i,w,E,x,y,A]:=C;∎;show I.eJ (s':={ s with heap:=h',toks:=t' }) (ch:=[a,b]) rfl #[λc o e _ _ g=>?_,λc o e _ _ g=>#[o.slots,?_],λ_ _ _ n _=>n,λc o e g=>#[o,?_],λ_ _ q=>q,λ_ _ _ q=>q,λ_ J q=>#[([].toArray),by rw[q];simp]] (λc u e=>?_) I.bare<|λc g=>?_
 .show k c o (λz=>g<|by simp[z]) (λz=>g<|by simp[z]) e
 .show k c o (λz=>g<|by simp[z]) (λz=>g<|by simp[z]) e
 .show k c o (λz=>g<|by simp[z]) (λz=>g<|by simp[z]) e
 .show (I.aP c u e).eS (λd o hd q=>k d o ?_ ?_ q) (λ_ q=>q) λ_ _ q=>q
  .rintro rfl;rcases hd with z |z
   .rw[<- z,h] at e;cases e
   .rw[h] at z;cases z
  .rintro rfl;rcases hd with z |z
   .rw[<- z,i] at e;cases e
   .rw[i] at z;cases z
 .rcases ä.mp g with z |g
  .rw[z];show#[m,l,r,v]
  .have z:c=b:=by simpa using g
   rw[z];show#[x,w,y,A]
def R0{P:é}{w:ü}{K:ar}{elts:bS}{x1:Nat}{pos:Pos}(a it n:ai)(y:n≠it):
  k7 P w K `aA `ek [n,it] n (λi h=>(∃g,IsEnum h n it i g)/\h.IsListIter it a i) where
 mem:=by simp
 obj:=λi h st b l=>by
  let#[#[g,Q],o,U,c,d]:=st;rcases ä.mp l with z |l
  .rw[z];show#[_,Q,λv z=>by cases z]
  .have z:b=it:=by simpa using l
   rw[z];show#[o,U,λv z=>by rw[d] at z;cases z]
 keep:=λi h h' st k=>by
  let#[#[g,Q],U]:=st;show#[#[g,k n ∅ _ Q],U.at λo e=>k it ∅ o e]
 item:=by
  intro X hP hw Y hc i aa s j H E I N st hg;subst hP hw Y;∎;let#[#[g,A],r]:=st;let#[xs,x,m,hx]:=hg;let#[δ,rv,p,hz]:=I.list m;let#[u,hu,ru]:=rv.get hx;∎;have fe:=N n ∅;have fi:=N it ∅;show wpAny_pyNext_enum_item A r p.isList (x:=u) (by simpa using hu) y λh' G C hT ε hk=>?_
  show#[.ref ⇑s,rfl,ap9 G λh2 B hs=>?_];have le:n<⇑s:=Í A;have li:it<⇑s:=let ⟨o,e,_⟩:=r;Í e;have β:H ⇑s=Ä:=I.aP.fresh<|Ñ _;have J:n≠⇑s:=ç le;have M:it≠⇑s:=ç li;have I1:=I.laid (a:=⇑s) (o:=.aJ [.int i,x]) (h':=s.heap.push { cls:=.type "tuple",data:=.seq ([.int i s.toks,u].toArray) }) (t':=s.toks) (λb q m=>Ã _ m) (Ñ _)
   #[by change 2<=Ô;decide,[.int i s.toks,u],.cons #[_,rfl]<|.cons ru .nil,#[_,Ó _ rfl,rfl,_,rfl]]
  have up:∀{b:ai},b≠⇑s->iz X aa H b->iz X aa (aQ H ⇑s (.aJ [.int i,x])) b:=λl f=>#[by rw[a9 l];show f.1,f.2]
  have γ:∀b q,b≠n->b≠it->(s.heap.push { cls:=.type "tuple",data:=.seq ([.int i s.toks,u].toArray) }).get? b=À q->h2.get? b=À q:=λb q h1 h3 m=>by
   show hs.extBut b q h1 ?_;rcases ϩ m with⟨α,eq⟩ |m
   .subst α;subst eq;show hT
   .show hk b q h1 h3 m
  let#[O,ei,ci,di]:=C;have D:h2.IsListIter it a (i+1):=#[O,hs.extBut it O (ć y) ei,ci,di];show#[.ref ⇑s,aQ H ⇑s (.aJ [.int i,x]),?_,rfl,#[_,x,rfl,β,λys hy=>by rw[I.dI hy m];show hx,rfl],#[#[_,B],D],λb l=>?_]
  .show ax.jR (s:={ s with heap:=s.heap.push { cls:=.type "tuple",data:=.seq ([.int i s.toks,u].toArray) },toks:=s.toks }) (t':=s.toks+1) I1 γ (up J fe) (up M fi) #[_,B] #[O,hs.extBut it O (ć y) ei]
  .rcases ä.mp l with z |l
   .rw[z,a9 J];show fe.1
   .have z:b=it:=by simpa using l
    rw[z,a9 M];show fi.1
 done:=by
  intro X hP hw Y hc i aa s j H E I N st hg;subst hP hw Y;∎;let#[#[g,A],r]:=st;let#[xs,m,hx]:=hg;let#[δ,rv,p,hz]:=I.list m;∎;have hl:=↑rv;let#[f0,f1,f2,f3,f4,f5]:=N it ∅;show wpAny_pyNext_enum_end `bq A r p.isList (by simp;omega) λh' eb=>#[rfl,I.turned (t':=s.toks) (λb o l e=>eb b o l e) f0 f1 f3 f4 f5]
 self:=λ_ _ _ _ _ st h=>let ⟨⟨_,A⟩,_⟩:=st;aa8 A h
section
variable{X:Cx}
abbrev En(K:ar)(d:TA):TI:=λj H R=>d j H λvs b=>∃a,vs=[.ref a]/\(∃e,bH K b a e)/\R `ek b
def WB{l:đ}{w:TA}{elts:bS}{x1:Nat}{i p pos:Pos}(A:Gl X "enumerate")(hm:X.mg "enumerate"=Ä)(y:PA X [l] w)(hs:do l5 l X.env):
  PI X (.Tuple elts x1 i) (.Call (.Name "enumerate" p) [l] [] pos) (En X.K w):=by
 intro aa s j H R I h;show Call_<|kC I A hm (u:=.type "enumerate") rfl<|ó (bh (y pos aa s j H _ I h) λus d o=>?_) hs rfl;let#[vs,x,g,G,a,e,#[Q,C],q]:=o;subst e;cases G with
 |cons r J=>
  cases J;cases r;let#[E,O,p,N]:=g.list C;show call_enumerate_list p.isList λM v n D B=>aa8 v ?_
  have ne:⇑d+1≠⇑d:=⋯
  show#[⇑d+1,[⇑d+1,⇑d],_,_,x,rfl,g.kept (t':=d.toks) B,R0 a _ _ ne,#[#[_,v],n],λb m=>?_,q];rcases ä.mp m with z |m
  .rw[z];show g.fJ ⋯ (g.aP.fresh ⋯)
  .have z:b=⇑d:=by simpa using m
   rw[z];show g.fJ (Ñ _)<|g.aP.fresh<|Ñ _
end
def z9:∀{bs:List Bool}{us:aS},aL `bA us->us=bs.map aa0
 |[],_,.nil=>rfl
 |b::r,_,.cons h t=>by
  have e:=z9 (bs:=r) t;subst e;cases h;rfl
def R1(bs:List Bool):(È ↑bs).any (λi=>bs.getD i Å)=bs.any id:=by
 rw[Ŕ,ň,ň];constructor
 .rintro⟨i,a,h⟩;rw[ħ] at a;show#[bs[i],Ϛ a,?_];rw[Ç,Ð a] at h;show h
 .rintro⟨b,hb,h⟩;let#[i,a,rfl]:=ar0 hb;show#[i,ħ.mpr a,?_];rw[Ç,Ð a];show h
def R3(bs:List Bool):(È ↑bs).all (λi=>bs.getD i Å)=bs.all id:=by
 rw[Ŕ,ah6,ah6];constructor
 .intro h b hb;let#[i,a,rfl]:=ar0 hb;have z:=h i<|ħ.mpr a;rw[Ç,Ð a] at z;show z
 .intro h i a;rw[ħ] at a;rw[Ç,Ð a];show h _<|Ϛ a
def FR(bs:List Bool):TruthOf prog w A (λi v=>(bs.map aa0).toArray[i]?=À v) (λi=>bs.getD i Å):=by
 intro i v s Q E a d;simp only[ao2,Î] at a;cases q:bs[i]? with
 |none=>rw[q] at a;cases a
 |some b=>
  rw[q] at a;cases a;have d:Q (bs.getD i Å) s:=d;rw[Ç,q] at d;show Û d
section
variable{X:Cx}
def GP(g:X.calm=Â):bQ X (.builtin "any") (λxs H Q=>∃(a:ai)(bs:List Bool),xs=[.ref a]/\bH X.K H a `bA/\Q (.bl<|bs.any id) H):=by
 intro aa s j H xs us Q I r h;∎;let#[a,bs,rfl,l,q]:=h;let#[u,rfl,v]:=kg r;∎;cases v;let#[m,w,p,y]:=I.list l;obtain rfl:=z9 w;have d:=p.isList;have n:a<⇑s:=(let ⟨_,e,_⟩:=d;Í e);show call_any_walk<|ŧ d ?_;show#[⇑s,_,_,_,_,_,_,rfl,Walks.list (by show I.ok.hd g) _ a (ç n) _,#[#[_,Ó _ rfl,rfl,rfl],(let ⟨o,e,c⟩:=d;#[o,Ã _ e,c])],FR bs,λx A i=>?_];show#[.bl<|bs.any id,H,I.kept λb o e=>i b o (λz=>au5 (Í e) (by rw[show b=⇑s from by simpa using z];show Ĵ _))<|Ã _ e,?_,q];rw[<- R1];change _=_;simp
def wM(g:X.calm=Â):bQ X (.builtin "all") (λxs H Q=>∃(a:ai)(bs:List Bool),xs=[.ref a]/\bH X.K H a `bA/\Q (.bl<|bs.all id) H):=by
 intro aa s j H xs us Q I r h;∎;let#[a,bs,rfl,l,q]:=h;let#[u,rfl,v]:=kg r;∎;cases v;let#[m,w,p,y]:=I.list l;obtain rfl:=z9 w;have d:=p.isList;have n:a<⇑s:=(let ⟨_,e,_⟩:=d;Í e);show call_all_walk<|ŧ d ?_;show#[⇑s,_,_,_,_,_,_,rfl,Walks.list (by show I.ok.hd g) _ a (ç n) _,#[#[_,Ó _ rfl,rfl,rfl],(let ⟨o,e,c⟩:=d;#[o,Ã _ e,c])],FR bs,λx A i=>?_];show#[.bl<|bs.all id,H,I.kept λb o e=>i b o (λz=>au5 (Í e) (by rw[show b=⇑s from by simpa using z];show Ĵ _))<|Ã _ e,?_,q];rw[<- R3];change _=_;simp
end
abbrev vh(b:aW×V->V)(a:ai)(ob:Obj)(kvs:bY):It:=
 #[λi H=>i<↑kvs/\H a=À (.aE ob<|.dK kvs),λi H x e=>e=H/\∃d,kvs[i]?=À d/\x=b d,λi H=>↑kvs<=i/\H a=À (.aE ob<|.dK kvs)]
nonrec abbrev wD:aW×V->V:=λkv=>kV kv.1
nonrec abbrev zf:aW×V->V:=λkv=>kv.2
def xn{H:Hp}(I:ax X aa j H s)(q:H a=À (.aE ob<|.dK kvs))(hd:ob.data=.dict es ep):
  ∃vs,KV kvs vs/\s.heap.DictAt `aL a vs ep/\↑kvs=↑vs:=by
 let#[e,z,y,vs,r,u,o,n,b,g,d,h,i,l]:=(show bc X.prog X.w H s.heap a (.aE ob<|.dK kvs) from I.aP a _ q);have m:ob=u:=Þ<|e.symm.trans b;subst m;rw[hd] at d;cases d;show#[vs,r,#[ob,es,e,g,hd,h,i,l],KV.length r]
def R4{P:é}{w:ü}{K:ar}{tg:đ}(a it:ai)(ob:Obj)(kvs:bY):
  k7 P w K tg (vh wD a ob kvs) [it] it (λi h=>∃es ep,ob.data=.dict es ep/\h.IsKeyIter it a i ↑kvs ep) where
 mem:=by simp
 obj:=λi h st b m=>by
  let#[es,ep,hd,o,e,c,d]:=st;rw[show b=it from by simpa using m];show#[o,e,λv z=>by rw[d] at z;cases z]
 keep:=λi h y st k=>by
  let#[es,ep,hd,o,e,c,d]:=st;show#[es,ep,hd,o,k it ∅ o e,c,d]
 item:=by
  intro X Q Y O hc i aa s j H E I A st U;subst Q Y O;∎;let#[es,ep,hd,g]:=st;let#[hi,N]:=U;let#[vs,r,hm,B]:=xn I N hd;∎;obtain⟨⟨k,v⟩,x⟩:∃q,kvs[i]?=À q:=#[kvs[i],by simp[hi]];let#[u,hu,ru]:=r.at x;rw[B] at g;let#[C,D,f2,G,J,M]:=A it ∅;show wpAny_pyNext_dict_item g hm hu λα y n l sb=>?_
  have I1:ax X aa j H { s with heap:=y }:=I.turned (t':=s.toks) (λb o m e=>(sb.2 b m).trans e) C D G J M;let#[o,e,c,d]:=id l;show#[α,rfl,uJ (s:={ s with heap:=y }) e c d ∎ #[kV k,H,I1,Ag n,#[rfl,_,x,rfl],#[es,ep,hd,by rw[B];show l],λb m=>(A b m).1]]
 done:=by
  intro X Q Y O hc i aa s j H E I A st U;subst Q Y O;∎;let#[es,ep,hd,g]:=st;let#[hi,N]:=U;let#[vs,r,hm,B]:=xn I N hd;∎;rw[B] at g;let#[C,D,f2,G,J,M]:=A it ∅;show wpAny_pyNext_dict_end `bq g hm (by simp;omega) λy eb=>#[rfl,I.turned (t':=s.toks) (λb o m e=>eb b o m e) C D G J M]
 self:=λ_ _ _ _ _ st h=>let ⟨_,_,_,g⟩:=st;wpAny_pyIter_keyiter g h
def R5{P:é}{w:ü}{K:ar}{tg:đ}(a it:ai)(ob:Obj)(kvs:bY):
  k7 P w K tg (vh zf a ob kvs) [it] it (λi h=>∃es ep,ob.data=.dict es ep/\h.IsValIter it a i ↑kvs ep) where
 mem:=by simp
 obj:=λi h st b m=>by
  let#[es,ep,hd,o,e,c,d]:=st;rw[show b=it from by simpa using m];show#[o,e,λv z=>by rw[d] at z;cases z]
 keep:=λi h x st k=>by
  let#[es,ep,hd,o,e,c,d]:=st;show#[es,ep,hd,o,k it ∅ o e,c,d]
 item:=by
  intro X O U N Y i aa s j H E I y st Q;subst O U N;∎;let#[es,ep,hd,g]:=st;let#[hi,M]:=Q;let#[vs,r,hm,A]:=xn I M hd;∎;obtain⟨⟨k,v⟩,n⟩:∃q,kvs[i]?=À q:=#[kvs[i],by simp[hi]];let#[u,hu,ru]:=r.at n;rw[A] at g;let#[B,C,f2,D,G,J]:=y it ∅;show wpAny_pyNext_values_item g hm hu λx l sb=>?_
  have I1:ax X aa j H { s with heap:=x }:=I.turned (t':=s.toks) (λb o m e=>(sb.2 b m).trans e) B C D G J;let#[o,e,c,d]:=id l;show#[u,rfl,uJ (s:={ s with heap:=x }) e c d ∎ #[v,H,I1,ru,#[rfl,_,n,rfl],#[es,ep,hd,by rw[A];show l],λb m=>(y b m).1]]
 done:=by
  intro X O U N Y i aa s j H E I y st Q;subst O U N;∎;let#[es,ep,hd,g]:=st;let#[hi,M]:=Q;let#[vs,r,hm,A]:=xn I M hd;∎;rw[A] at g;let#[B,C,f2,D,G,J]:=y it ∅;show wpAny_pyNext_values_end (I.ok.hd Y) g hm (by simp;omega) λx eb=>#[rfl,I.turned (t':=s.toks) (λb o m e=>eb b o m e) B C D G J]
 self:=λ_ _ _ _ _ st h=>let ⟨_,_,_,g⟩:=st;wpAny_pyIter_valiter g h
section
variable{X:Cx}
abbrev uT(d:aW×V->V)(X:Cx)(h:TE):TI:=λj H R=>h j H λx e=>∃a b,x=.ref a/\e a=À (.dK b)/\∀g,(∀o u,X.H₀ a≠À `aG)->R (vh d a g b) (aQ e a<|.aE g<|.dK b)
def WC(N:PE X o td):PI X tg o (uT wD X td):=by
 intro aa s j H R I h;show bh (N aa s j H _ I h) λv l B=>?_
 let#[x,D,i,Q,a,d,ex,m,q]:=B;subst ex;obtain rfl:v=Ú a:=Q;∎;let#[U,Y,hd]:=uu i<|.inl #[d,.inl m];let#[z,y,vs,r,dd]:=uK i.aP m;∎;have w:∀o u,X.H₀ a≠À `aG:=λo u z=>by
  have:=i.base.bj a o u z;rw[m] at this;cases this
 let#[C,g]:=dd.dictAt;show wpAny_pyIter_dict hd g ?_;let#[n,A,E]:=(i.kept (t':=l.toks) (h':=l.heap.push { cls:=.type "dict_keyiterator",data:=.fields ([.ref a,.int 0 0,.int ↑vs 0,.int C 0].toArray) }) λb o e=>Ã _ e).freeze m;have O:a<⇑l:=g.lt_size;have M:↑d=↑vs:=KV.length r;show#[_,[_],_,_,aQ D a<|.aE n<|.dK d,rfl,E,R4 a ⇑l n d,?_,λb J=>?_,q n w]
 .obtain⟨o2,es,ho2,c1,c2,_⟩:=g;have G:n=o2:=Þ<|A.symm.trans<|Ã _ ho2;subst G;show#[es,C,c2,by rw[M];show#[_,Ó _ rfl,rfl,rfl]]
 .have e:b=⇑l:=by simpa using J
  subst e;show i.fJ (Ñ _) (by rw[a9<|Ū O];show i.aP.fresh<|Ñ _)
def WD(ho:PE X o td)(m:ú o "values" X.env `as=eval o X.env)(n:(apos.endLine == bu.line)=Â):
  PI X tg (.Call (.Attribute o "values" apos) [] [] bu) (uT zf X td):=by
 intro aa s j H R I h;show ac9 m n<|bh (ho aa s j H _ I h) λv l M=>?_;let#[x,N,A,r1,a,i,ex,B,q]:=M;subst ex;obtain rfl:v=Ú a:=r1;let#[Q,t2,hd]:=uu A<|.inl #[i,.inl B];show#["dict","dict.values",PySem.F.plainAttrs_dict,PySem.F.slot_dict_values,PySem.F.type_dict_values,Q,t2,ŏ rfl<|PySem.evalArgs_none ?_];let#[z,y,vs,r,dd]:=uK A.aP B;show ae2 PySem.F.slot_dict_values Q PySem.F.entry_dict_values `ct (meets_dict_values `aL a hd) #[#[vs,dd],?_];have D:ax X aa j N { l with heap:=l.heap.push { cls:=.type "dict_values",data:=.fields ([.ref a].toArray) } }:=A.kept (t':=l.toks) λb o e=>Ã _ e
 have G:∀o u,X.H₀ a≠À `aG:=λo u z=>by
  have:=A.base.bj a o u z;rw[B] at this;cases this
 let#[O,E]:=dd.dictAt;have g:=E.push { cls:=.type "dict_values",data:=.fields ([.ref a].toArray) };show wpAny_pyIter_values (v:=⇑l) (d:=a) #[_,Ó _ rfl,rfl,rfl] g ?_;let#[C,J,U]:=(D.kept (t':=l.toks) (h':=(l.heap.push { cls:=.type "dict_values",data:=.fields ([.ref a].toArray) }).push { cls:=.type "dict_valueiterator",data:=.fields ([.ref a,.int 0 0,.int ↑vs 0,.int O 0].toArray) }) λb o e=>Ã _ e).freeze B;have la:a<(l.heap.push { cls:=.type "dict_values",data:=.fields ([.ref a].toArray) }).objs.size:=g.lt_size;have hl:↑i=↑vs:=KV.length r;show#[_,[_],_,_,aQ N a<|.aE C<|.dK i,rfl,U,R5 a (l.heap.push { cls:=.type "dict_values",data:=.fields ([.ref a].toArray) }).objs.size C i,?_,λb hb=>?_,q C G]
 .obtain⟨o2,es,ho2,c1,c2,_⟩:=g;have Y:C=o2:=Þ<|J.symm.trans<|Ã _ ho2;subst Y;show#[es,O,c2,by rw[hl];show#[_,Ó _ rfl,rfl,rfl]]
 .have e:b=(l.heap.push { cls:=.type "dict_values",data:=.fields ([.ref a].toArray) }).objs.size:=by simpa using hb
  subst e;show D.fJ (Ñ _) (by rw[a9<|Ū la];show D.aP.fresh<|Ñ _)
abbrev M4(X:Cx)(t:TS):TS:=λD j H=>t `dc j H
def WE{st:ù}{t:TS}(h:PS X st t):PS X st (M4 X t):=by
 intro aa s j H D I q;show bh (h aa s j H `dc I q) λf n q=>?_
 cases f with
 |next=>let#[d,i,b,a,l,g,e,hn,r]:=q;show#[d,_,b.eU e hn,r]
 |brk=>let#[d,i,b,a,l,g,e,hn,r]:=q;show#[d,_,b.eU e hn,r]
 |cont=>let#[d,i,b,a,l,g,e,hn,r]:=q;show#[d,_,b.eU e hn,r]
 |ret u=>let#[v,d,i,b,m,a,l,g,e,hn,r]:=q;show#[v,d,_,b.eU e hn,m,r]
abbrev tH(X:Cx)(t:TE):TE:=λj H Q=>t j H λv=>mX X<|Q v
def HF(h:PE X e t):PE X e (tH X t):=by
 intro aa s j H Q I q;show bh (h aa s j H _ I q) λu n b=>?_
 let#[v,l,d,i,a,m,g,e,hn,r]:=b;show#[v,_,d.eU e hn,i,r]
end
section
variable{g:TG}{ti:TT}{te:TE}{ix:bE}{σ:St}{Q:VK}
def HG{j:aW×V->V}(Pv:Nat->az->Hp->Prop)(u:Pv 0 [] H1)(o:∀i d H,i<=↑kvs->Pv i d H->H a=À (.aE ob<|.dK kvs))(hs:∀i k v d H,kvs[i]?=À (k,v)->Pv i d H->g (j (k,v)) `bc H λh q=>Wk `bc h/\ti h q λb m=>if b=Â then te h m λv r=>↑d<Ô/\Pv (i+1) (d++[v]) r else Pv (i+1) d m)(hd:∀d H,Pv ↑kvs d H->↑d<=Ô/\∀p,H p=Ä->Q `ao (aQ H p<|.ah d)):yU (vh j a ob kvs) g ti te ix σ Q H1:=by
 show BJ (n:=↑kvs) Pv u (λi d H l p=>#[l,o i d H (Ń l) p]) (λd H p=>#[Ñ _,o _ d H (Ñ _) p]) (λi x d H w l p y=>?_) hd;let#[rfl,#[k,v],e,rfl]:=y;show hs i k v d _ e p
end
def ax.jS{X:Cx}{aa:aZ}{j:St}{H:Hp}{s:ao}{h':aU}{t':Nat}{ch:cU}(I:ax X aa j H s)(k:∀c o,c ∉ ch->s.heap.get? c=À o->h'.get? c=À o)(h:∀b∈ch,iz X aa H b):ax X aa j H { s with heap:=h',toks:=t' }:=by
 show I.eJ (s':={ s with heap:=h',toks:=t' }) (ch:=ch) rfl #[λc o e _ _ a=>k c o a e,λc o e _ _ a=>#[o.slots,k c o a e],λ_ _ _ n _=>n,λc o e a=>#[o,k c o a e],λ_ _ q=>q,λ_ _ _ q=>q,λ_ i q=>#[([].toArray),by rw[q];simp]] (λc u e=>?_) I.bare<|λc a=>?_
 .show (I.aP c u e).eS (λd o hd q=>k d o (λhm=>?_) q) (λ_ q=>q) λ_ _ q=>q
  have g:=(h d hm).1;rcases hd with z |z
  .rw[<- z,g] at e;cases e
  .rw[g] at z;cases z
 .obtain⟨a0,a1,a2,a3,a4,a5⟩:=h c a;show#[a3,a1,a4,a5]
abbrev vk(K:ar)(a b:ai):It:=
 #[λi H=>∃d e x y,bH K H a d/\bH K H b e/\d[i]?=À x/\e[i]?=À y,
  λi H v g=>∃p x y,v=.ref p/\H p=Ä/\(∀d,bH K H a d->d[i]?=À x)/\(∀e,bH K H b e->e[i]?=À y)/\g=aQ H p (.aJ [x,y]),
  λi H=>∃d e,bH K H a d/\bH K H b e/\(↑d<=i\/↑e<=i)]
def Uz{P:é}{w:ü}{K:ar}{elts:bS}{x1:Nat}{pos:Pos}{a b z TI TO m n:ai}(D:ZipApart z TI TO m n a b):
  k7 P w K `aA `eu [z,TI,TO,m,n] z (λi h=>IsZip h z TI TO .none/\IsPair h TI (.ref m) (.ref n)/\(∃c d,IsPair h TO c d)/\h.IsListIter m a i/\h.IsListIter n b i) where
 mem:=by simp
 obj:=λi h st c g=>by
  let#[C,A,#[u,v,G],#[o4,J,c4,d4],#[o5,M,c5,d5]]:=st;simp only[ä,Χ,or_false] at g;rcases g with rfl |rfl |rfl |rfl |rfl
  .show#[_,C,λv z=>by cases z]
  .show#[_,A,λv z=>by cases z]
  .show#[_,G,λv z=>by cases z]
  .show#[o4,J,λv z=>by rw[d4] at z;cases z]
  .show#[o5,M,λv z=>by rw[d5] at z;cases z]
 keep:=λi h h' st k=>by
  let#[C,A,#[u,v,G],J,M]:=st;show#[k z ∅ _ C,k TI ∅ _ A,#[u,v,k TO ∅ _ G],J.at λo e=>k m ∅ o e,M.at λo e=>k n ∅ o e]
 item:=by
  intro X hP hw hK g i aa s j H E I U st hg;subst hP hw hK;∎;let#[C,A,#[c,d,G],J,M]:=st;let#[xs,ys,x,y,r,B,hx,hy]:=hg;let#[κ,rv,p,hz]:=I.list r;let#[α,N,p',θ]:=I.list B;let#[u,hu,ru]:=rv.get hx;let#[O,ζ,μ]:=N.get hy;∎;show wpAny_pyNext_zip_item D C A G J M p.isList p'.isList (x:=u) (y:=O) (by simpa using hu) (by simpa using ζ) λh' g1 g2 g3 g4 hT ν hk=>?_
  show#[.ref ⇑s,rfl,wpAny_letOwnedTupleGo_zip g1 λQ ι Y=>?_];have γ:H ⇑s=Ä:=I.aP.fresh<|Ñ _;have lt:∀{c o},s.heap.get? c=À o->c≠⇑s:=λe=>ç<|Í e
  have ne:∀c∈[z,TI,TO,m,n],c≠⇑s:=λc g=>by
   simp only[ä,Χ,or_false] at g;rcases g with rfl |rfl |rfl |rfl |rfl
   .show lt C
   .show lt A
   .show lt G
   .obtain⟨o,e,_⟩:=J;show lt e
   .obtain⟨o,e,_⟩:=M;show lt e
  have I1:=I.laid (a:=⇑s) (o:=.aJ [x,y]) (h':=s.heap.push { cls:=.type "tuple",data:=.seq ([u,O].toArray) }) (t':=s.toks) (λb q r=>Ã _ r) (Ñ _)
   #[by change 2<=Ô;decide,[u,O],.cons ru<|.cons μ .nil,#[_,Ó _ rfl,rfl,_,rfl]]
  have δ:∀c q,c ∉ [z,TI,TO,m,n]->(s.heap.push { cls:=.type "tuple",data:=.seq ([u,O].toArray) }).get? c=À q->Q.get? c=À q:=λc q g r=>by
   show Y.extBut c q (λl=>g<|by simp[l]) ?_;rcases ϩ r with⟨β,eq⟩ |r
   .subst β;subst eq;show hT
   .show hk c q (λl=>g<|by simp[l]) (λl=>g<|by simp[l]) (λl=>g<|by simp[l]) (λl=>g<|by simp[l]) r
  have t2:IsPair Q TI (.ref m) (.ref n):=Y.extBut TI _ D.TIz<|hk TI _ D.TIz D.TITO D.TIi1 D.TIi2 A;have t3:IsPair Q TO u O:=Y.extBut TO _ D.TOz g2;have t4:Q.IsListIter m a (i+1):=g3.at λo e=>Y.extBut m o D.i1z e
  have t5:Q.IsListIter n b (i+1):=g4.at λo e=>Y.extBut n o D.i2z e
  show#[.ref ⇑s,aQ H ⇑s (.aJ [x,y]),?_,rfl,#[_,x,y,rfl,γ,λys hy=>by rw[I.dI hy r];show hx,λys η=>by rw[I.dI η B];show hy,rfl],#[ι,t2,#[_,_,t3],t4,t5],λc g=>?_]
  .show ax.jS (s:={ s with heap:=s.heap.push { cls:=.type "tuple",data:=.seq ([u,O].toArray) },toks:=s.toks }) (t':=s.toks) I1 δ λc g=>#[by rw[a9<|ne c g];show (U c g).1,(U c g).2]
  .rw[a9<|ne c g];show (U c g).1
 done:=by
  intro X hP hw hK g i aa s j H E I U st hg;subst hP hw hK;∎;let#[C,A,#[c,d,G],J,M]:=st;let#[xs,ys,r,B,ε]:=hg;let#[κ,rv,p,hz]:=I.list r;let#[α,N,p',θ]:=I.list B;∎;have l1:=↑rv;have l2:=↑N;show wpAny_pyNext_zip_end (I.ok.hd g) D C A G J M p.isList p'.isList (ε.imp (λh=>by simp;omega) λh=>by simp;omega) λh' hk=>#[rfl,I.jS (t':=s.toks) (ch:=[z,TI,TO,m,n]) (λc o g e=>?_) U]
  show hk c o (λl=>g<|by simp[l]) (λl=>g<|by simp[l]) (λl=>g<|by simp[l]) (λl=>g<|by simp[l]) e
 self:=λ_ _ _ _ _ st h=>wpAny_pyIter_zip st.1 h
section
variable{X:Cx}
abbrev E2(K:ar)(e:TA):TI:=λj H R=>e j H λvs d=>∃a b,vs=[.ref a,.ref b]/\(∃g,bH K d a g)/\(∃h,bH K d b h)/\R `eu d
def ZM{l m:đ}{E:TA}{elts:bS}{x1:Nat}{n p pos:Pos}(Y:Gl X "zip")(hm:X.mg "zip"=Ä)(U:PA X [l,m] E)(hs:do qT l m X.env)(i:do l5 m X.env):PI X `el (.Call (.Name "zip" p) [l,m] [] pos) (E2 X.K E):=by
 intro aa s j H R I h;show Call_ (kC I Y hm (u:=.type "zip") rfl (ó (bh (U pos aa s j H _ I h) λus d w=>?_) (by rw[hs,i]) (by rw[i];rfl)));let#[vs,J,g,r1,a,b,e,#[xs,hq],#[ys,o],q]:=w;subst e;cases r1 with
 |cons r v=>
  cases v with
  |cons r' v=>
   cases v;cases r;cases r';∎;let#[γ,rv,p,hz]:=g.list hq;let#[C,δ,D,β]:=g.list o;∎;have la:a<⇑d:=let ⟨_,e,_⟩:=p.isList;Í e;have lb:b<⇑d:=let ⟨_,e,_⟩:=D.isList;Í e;show call_zip_2 p.isList D.isList λh' A M N O Q α hk=>wpAny_pyIter_zip A ?_
   have G:ZipApart (⇑d+4) (⇑d+2) (⇑d+3) ⇑d (⇑d+1) a b:=by
    have lt:∀{x y:Nat},x<y->x≠y:=λh=>ç h
    have gt:∀{x y:Nat},y<x->x≠y:=λh=>Ū h
    constructor<;>first |show lt ⋯ |show gt ⋯ |show lt (Õ la ⋯) |show lt<|Õ lb ⋯
   show#[⇑d+4,[⇑d+4,⇑d+2,⇑d+3,⇑d,⇑d+1],_,_,J,rfl,g.kept (t':=d.toks) hk,Uz G,#[A,M,#[_,_,N],O,Q],λc B=>?_,q];have z:⇑d<=c:=by
    simp only[ä,Χ,or_false] at B;rcases B with rfl |rfl |rfl |rfl |rfl
    .show Ω _ _
    .show Ω _ _
    .show Ω _ _
    .show Ñ _
    .show Ω _ _
   show g.fJ z<|g.aP.fresh z
end
end L2
namespace Vc
open PySem L2 Sf
section
variable{X:Cx}{aa:aZ}{σ:St}{H:Hp}{s:ao}{Au:Ĉ}
def WG(I:ax X aa σ H s)(d:bH X.K H a xs)(g:bH X.K H b ys)(w:Au.units<ņ)(M:↑xs=↑ys)(e:Nat->Bool)(he:∀(j:Nat) x y u v,xs[j]?=À x->ys[j]?=À y->aH x u->aH y v->Ź Au.in1 s u v (e j)):am6 Au s `ax `eh (!(È ↑xs).all e):=by
 ∎;let#[us,h,E,_]:=I.list d;let#[J,r2,G,_]:=I.list g;∎;have B:=↑h;have N:=↑r2;have z:=SeqAt.RcNeAt.lists (A:=Au) (e:=e) E.isList G.isList (by simp;omega) w<|λj d g=>?_
 .have e0:(È us.toArray.size).all e=(È ↑xs).all e:=by
   simp only[â];rw[<- B]
  rw[e0] at z;show z
 .simp only[â] at d g;∎;let#[u,l,C]:=h.get (i:=j) (x:=xs[j]'⋯) ∅;let#[v,m,D]:=r2.get (i:=j) (x:=ys[j]'⋯) ∅;let#[_,n]:=Á.mp l;let#[_,o]:=Á.mp m;∎;have q:us.toArray[j]'(by simpa using d)=u:=by simpa using n
  have r:J.toArray[j]'(by simpa using g)=v:=by simpa using o
  rw[q,r];show he j _ _ u v ∅ ∅ C D
end
def WH{H:Hp}(h:H p=À `bO):CG K "list" `ao H:=by
 show .inl #[rfl,xs,bH.of h]
end Vc
namespace L2
open PySem PySem.Spec PyProof.Rows
abbrev EC:R2:=λx y H Q=>∃z n,x=.str z/\y=.int n/\↑z<=100/\0<=n/\n<=1000/\Q (.str<|Txt.mul z n) H
def QU:cw X `cO EC:=by
 intro aa s j H x y v u Q I b d h;∎;let#[z,n,rfl,rfl,a,g,i,q]:=h;let#[t,rfl]:=b;let#[e,rfl]:=d;∎;show SB.mul (mulOk_of 100 1000 a ⋯ ⋯ ∎ ∎) λe k=>#[.str _,H,I.tok _,#[_,rfl],q]
section
variable{X:Cx}
def R6{kvs:bY}{vs:List (aW×au)}{us:aS}(r:KV kvs vs)(a:↑us=↑kvs)(h:∀(j:Nat) u,us[j]?=À u->∃k,vs[j]?=À (k,u)):aL (kvs.map (·.2)) us:=by
 induction kvs generalizing vs us with
 |nil=>cases us with
  |nil=>show .nil
  |cons _ _=>simp at a
 |cons p t m=>
  cases us with
  |nil=>simp at a
  |cons u us=>
   unfold KV at r;cases r with
   |cons b i=>
    rename_i q o;let#[k,e]:=h 0 u rfl;have g:q=(k,u):=by simpa using e
    show .cons (by rw[g] at b;show b.2) (m (vs:=o) i (by simpa using a) λj w l=>?_);let#[n,d]:=h (j+1) w (by simpa using l);show#[n,by simpa using d]
end
end L2
namespace Vc
open PySem L2 Sf
def fQ(h:b4 m x=À y):(x,y)∈m:=by
 induction m with
 |nil=>cases h
 |cons p r a=>
  by_cases e:p.1=x
  .rw[AI e] at h;cases h;subst e;show ϊ ..
  .rw[Wu e] at h;show ī _<|a h
def gY{j:Type}{m:List (Str×j)}{x:Str}{y:j}(h:∀p∈m,p.1≠x):qE m x y=m++[(x,y)]:=by
 unfold qE;rw[au3];intro z;rw[ň] at z;let#[p,a,e]:=z;show h p a (by simpa using e)
abbrev r4(K:ar){j i G h:Type}(A:Rep j)(B:Rep i)(C:Rep G)(D:Rep h):Rep (j×i×G×h):=λF v x=>∃a b d e g,v=.ref a/\dM K F a [b,d,e,g]/\A F b x.1/\B F d x.2.1/\C F e x.2.2.1/\D F g x.2.2.2
end Vc
namespace L2
open PySem PySem.Spec PyProof.Rows
section
variable{X:Cx}
def R7:cw X (í .Gt) (λx y H Q=>∃i j,x=.str i/\y=.str j/\Q (.bl<|decide<|j.cps.toList<i.cps.toList) H):=by
 intro aa s G H x y v u Q I a b h;∎;let#[i,j,rfl,rfl,q]:=h;let#[t,rfl]:=a;let#[d,rfl]:=b;∎;show PySem.P.gt_str<|dg I q rfl
end
section
variable{prog:é}{w:ü}{A:Ĉ}{E:au->ao->Prop}{s:ao}
def R8:ap8 (.type "list_reverseiterator") "__len__"=pure Ä:=by rw[typeLookup_type,builtinLookup_eq_fast];kernel_rfl
def UA:ap8 (.type "list_reverseiterator") "__length_hint__"=pure (À<|.builtin "list_reverseiterator.__length_hint__"):=by rw[typeLookup_type,builtinLookup_eq_fast];kernel_rfl
def UB{Q:Bool->ao->Prop}(a:s.TypeIs (.ref r) "list_reverseiterator")(h:Q Å s):Ø `ad A (Ŏ<|.ref r) Q E s:=by
 unfold Ŏ;show Ê<|am9 a R8 ?_;change Ø _ A (specialOf (Ú r) (ah4 "__length_hint__") >>= _) _ _ _;show Ê<|am9 a UA ?_;generalize AV:("list_reverseiterator.__length_hint__":String)=i0
 wp_delta
 rw[show splitId i0=À ("list_reverseiterator","__length_hint__") from by subst AV;decide +kernel];subst AV;show Ê (wpAny_isInstance (T:="list_reverseiterator") (b:=Â) a (by rw[isSubtype_type];kernel_rfl) ?_);show af0 (λz=>au5 z ∎)<|λ_=>?_;show af0 (λ_=>?_) (λz=>au5 (by decide +kernel) z);show af0 (λz=>au5 z<|by decide +kernel)<|λ_=>?_;show Û h
def Sa{St:Nat->aU->Prop}{R:Result->ao->Prop}(W:Walks prog w A.in1 I fp [I] n P St)(O:I∈fp)(H:∀i (s:ao),St i s.heap->s.TypeIs `bR T)(n1:(ĸ T == ĸ "list")=Å)(n2:(ĸ T == ĸ "tuple")=Å)(hh:∀(s:ao)(Q:Bool->ao->Prop)(E:au->ao->Prop),s.TypeIs `bR T->Q Å s->Ø `ad A.in1 (Ŏ<|.ref I) Q E s)(a:St 0 s.heap)(S:ai)(j:S ∉ fp)(g:au)(D:Nat)(v:s.heap.get? S=À { cls:=.type "list",data:=.seq ([].toArray) D })(U:∀h' q d c,(∀b o,b≠S->b≠I->s.heap.get? b=À o->h'.get? b=À o)->h'.get? S=À { cls:=.type "list",dict:=Ä,data:=.seq d c,slots:=([].toArray) }->ItemsOf P d n->R (.ok<|.ret g) { s with heap:=h',toks:=q })(hn:n<=Ô):
  Ø `ad A.in1 (ō (.ref S) `bR g)
   (λu s'=>match u with |.done f=>R (.ok f) s' |.again C=>C.quiet=Â/\ź `ad A C R s') (λe s'=>R `bl s') s:=by
 have B:S≠I:=λz=>j<|z ▸ O
 have m:∀(h:aU)(r q:Nat),St 0 h->(∀b o,b≠S->s.heap.get? b=À o->h.get? b=À o)->h.get? S=À { cls:=.type "list",data:=.seq ([].toArray) r }->
   ź `ad A (.builtin "list.extend.loop" #[[.ref S,.ref I,g],[]]) R { s with heap:=h,toks:=q }:=by
  intro h r q st hk x;show codeAny_extend_loopS W.toS hn S j g n 0 _ ([].toArray) r rfl (ľ _) st x (ItemsOf.nil _) λs' d c J y l=>?_
  rw[Moved.eq_with J];show U s'.heap s'.toks d c (λb o G N e=>J.heap b o (λz=>by
   rcases ä.mp z with z |z
   .show G z
   .show N (å.mp z))<|hk b o G e) y l
 unfold ō;show Ê<|wpAny_typeOf (H 0 s a) ?_;simp only[show ag7 (.ref S) `bR=Å by simp[ag7,B],n1,n2,Bool.or_false,ϻ,if_false];show Ê<|W.self 0 s _ _ a<|Ê<|ϑ<|hh s _ _ (H 0 s a) ?_;show af0 (λ_=>?_)<|λ_=>Û #[plainId_quiet PySem.F.plain_extend_loop _,m _ D _ a (λb o _ e=>e) v];show Ê<|wpAny_rule<|Ê ?_;change Ø _ _ (updateSeq S (·.push .none) >>= λ_=>updateSeq S (·.pop)) _ _ s;show Ê<|an0 v rfl ?_;have M:=ċ (œ (·.push ŝ)) v rfl;show an0 (hz:=by seq_fits) M rfl ?_;have q2:=ċ (œ (·.pop)) M rfl;have gX:∀b o,b≠S->s.heap.get? b=À o->((s.heap.update S (œ (·.push ŝ))).update S (œ (·.pop))).get? b=À o:=λb o z e=>(ö _ _ z.symm).trans<|(ö _ _ z.symm).trans e
 show Û #[plainId_quiet PySem.F.plain_extend_loop _,m _ _ _ (W.frame 0 _ _ a λb Y o e=>gX b o (λz=>j<|z ▸ Y) e) gX q2]
def WI{St:Nat->aU->Prop}{Q:au->ao->Prop}(W:Walks prog w A.in1.in1 I fp [I] n P St)(v:I∈fp)(q:∀b∈fp,b<⇑s)(y:∀i (s:ao),St i s.heap->s.TypeIs `bR T)(G:(ĸ T == ĸ "list")=Å)(H:(ĸ T == ĸ "tuple")=Å)(C:∀(s:ao)(Q:Bool->ao->Prop)(E:au->ao->Prop),s.TypeIs `bR T->Q Å s->Ø `ad A.in1.in1 (Ŏ<|.ref I) Q E s)(r:St 0 s.heap)(hn:n<=Ô)(x:∀h' u a c,(∀b o,b≠I->s.heap.get? b=À o->h'.get? b=À o)->h'.get? ⇑s=À { cls:=.type "list",dict:=Ä,data:=.seq a c,slots:=([].toArray) }->ItemsOf P a n->Q `bZ { s with heap:=h',toks:=u }):
  Ø `ad A (call (.type "list") [.ref I]) Q E s:=by
 show callType_codes (Q₁:=λo d=>o=.ref ⇑s/\d={ s with heap:=s.heap.push { cls:=.type "list",data:=.seq ([].toArray) } }) PySem.F.called_list (PySem.F.typeCall_list_1 _) PySem.F.entry_list_init (code_list_new _ #[rfl,rfl]) λo d j=>?_
 let#[rfl,rfl]:=j;have l:(s.heap.push { cls:=.type "list",data:=.seq ([].toArray) }).get? ⇑s=À { cls:=.type "list",data:=.seq ([].toArray) }:=Ó _ rfl;have h:⇑s ∉ fp:=λz=>Ĵ _<|q _ z
 show#[#[_,l,rfl],PySem.F.args_list_init_2 _ _,?_];change Ø _ _ (do let old <- ah9 (.ref ⇑s);Builtin.List.listUpdate `bZ (λ_=>([].toArray));letGo old.toList.reverse;ō `bZ `bR .none) _ _ _;show Ê ?_;unfold ah9;show Ê<|wpAny_seqItems l rfl<|Û ?_;change Ø _ _ (updateSeq ⇑s (λ_=>([].toArray)) >>= λ_=>letGo (([].toArray):dk).toList.reverse >>= λ_=>ō `bZ `bR .none) _ _ _;show Ê<|an0 l rfl ?_;have J:=ċ (œ<|λ_=>(([].toArray):dk)) l rfl;have gX:∀b o,b≠⇑s->s.heap.get? b=À o->((s.heap.push { cls:=.type "list",data:=.seq ([].toArray) }).update ⇑s (œ<|λ_=>(([].toArray):dk))).get? b=À o:=
  λb o z e=>(ö _ _ z.symm).trans<|Ã _ e
 show Ê<|wpAny_letGo ?_;show Sa (A:=A.in1) W v y G H C (W.frame 0 _ _ r λb B o e=>gX b o (λz=>h<|z ▸ B) e) _ h .none _ J (λh' u a c D m g=>?_) hn;show#[rfl,x h' u a c (λb o z e=>D b o (ç<|Í e) z<|gX b o (ç<|Í e) e) m g]
end
def UC(h:aL xs us)(g:aL ys vs):aL (xs++ys) (us++vs):=by
 induction h with
 |nil=>show g
 |cons a _ b=>show .cons a b
def UD(h:aL xs us):aL xs.reverse us.reverse:=by
 induction h with
 |nil=>show .nil
 |cons a _ b=>rw[Ι,Ι];show UC b<|.cons a .nil
section
variable{X:Cx}
abbrev Kt(K:ar)(e:TA):TE:=λj H Q=>e j H λvs b=>∃a d,vs=[.ref a]/\bH K b a d/\∀p,b p=Ä->Q `ao (aQ b p<|.ah d.reverse)
def QV(hc:X.calm=Â)(hg:Gl X "list")(hm:X.mg "list"=Ä)(B:Gl X "reversed")(E:X.mg "reversed"=Ä)(ha:PA X [l] ta)(G:do l5 l X.env)(hs:do ā [.Call (.Name "reversed" p2) [l] [] pos2] X.env=[(Å,eval (.Call (.Name "reversed" p2) [l] [] pos2) X.env)]):
  PE X (.Call (.Name "list" p) [.Call (.Name "reversed" p2) [l] [] pos2] [] pos) (Kt X.K ta):=by
 intro aa s i H Q I h;show Ğ<|kC I hg hm (u:=.type "list") rfl ?_;show ó ?_ hs rfl;rw[hs];change Ø _ _ (spliced ((Å,eval (.Call (.Name "reversed" p2) [l] [] pos2) X.env)::Ų pos [])) _ _ s;show Ő ?_;show Call_<|kC I B E (u:=.type "reversed") rfl<|ó (bh (ha pos2 aa s i H _ I h) λus m M=>?_) G rfl;let#[vs,U,x,r1,a,xs,e,hq,q]:=M;subst e;cases r1 with
 |cons r rr=>
  cases rr;cases r;let#[d,O,J,hz]:=x.list hq;have hl:=↑O;show call_reversed_list J.isList ?_;show Ϗ ?_;have N:a<⇑m:=let ⟨o,ho,_⟩:=J.isList;Í ho;have W:=Walks.listRev (prog:=X.prog) (w:=X.w) (A:=X.A.in1.in1) (show X.A.in1.in1.handled=Ä from I.ok.hd hc) ⇑m a (ç N) d.toArray;have I2:ax X aa i U { m with heap:=m.heap.push (revObj a<|(d.toArray.size:Int) - 1) }:=x.kept (t':=m.toks) λb o e=>Ã _ e
  have hI:(m.heap.push<|revObj a<|(d.toArray.size:Int) - 1).IsRevIter ⇑m a ((d.toArray.size:Int) - 1 - ((0:Nat):Int)):=by
   show#[_,Ó _ rfl,rfl,?_];rw[show (d.toArray.size:Int) - 1 - ((0:Nat):Int)=(d.toArray.size:Int) - 1 by omega];rfl
  have f:=x.fJ (Ñ _)<|x.aP.fresh<|Ñ ⇑m;show WI (s:={ m with heap:=m.heap.push (revObj a<|(d.toArray.size:Int) - 1) }) W ∅ (λb hb=>?_) (λ_ _ z=>z.2.1.typeIs) ∎ ∎ (λ_ _ _ t h=>UB t h) #[ľ _,hI,J.isList.at λo e=>Ã _ e] (by simp;omega) λh' tk n c hk hS g=>?_
  .show b<(m.heap.push _).objs.size;rw[ϔ];rcases ä.mp hb with z |z
   .rw[z];show ũ _
   .rw[å.mp z];show į N
  .have z1:(m.heap.push<|revObj a<|(d.toArray.size:Int) - 1).objs.size=⇑m+1:=ϔ ..;have D:∀b o,m.heap.get? b=À o->h'.get? b=À o:=λb o e=>hk b o (ç<|Í e)<|Ã _ e
   have Y:n.toList=d.reverse:=by
    show Ŋ λj=>?_
    rcases Nat.lt_or_ge j n.size with C |C
    .obtain⟨v,hv⟩:∃v,n[j]?=À v:=#[n[j],by simp[C]];have h2:=g.2 j v hv;have y:=g.1;rw[ϒ,hv,List.getElem?_reverse (by simp at y;omega),<- h2];simp
    .have y:=g.1;rw[ì (by simpa using C),ì (by simp at y ⊢;omega)]
   show#[.ref _,_,x.laid (a:=(m.heap.push<|revObj a<|(d.toArray.size:Int) - 1).objs.size) (o:=.ah xs.reverse) (h':=h') (t':=tk) D (by rw[z1];omega) #[by rw[ar1];show hz,d.reverse,c,UD O,by rw[<- Y,ϡ];show hS],rfl,q _ (by rw[z1];show x.aP.fresh ⋯)]
end
end L2
namespace Vc
open PySem L2
def KU{Fb Hb F H e g:Hp}{S:ai->Prop}(j:Gr0 Fb Hb F H)(x:H a=À `ar)(w:F a=Ä\/F a=À `ar)(l:Gr0 (fz Fb a<|.aE ob<|.dK kvs) (fz Hb a<|.aE ob<|.dK kvs) e g)(y:e a=fz F a (.aE ob<|.dK kvs) a)(i:Fz (λb=>b=a\/S b) e):
  ∃d:Hp,Gr0 Fb Hb d (aQ g a<|.dK kvs)/\Fz S d/\Le e d/\d a=F a/\(aQ g a<|.dK kvs) a=À `ar/\(∀b,b≠a->d b=e b)/\∀b,b≠a->(aQ g a<|.dK kvs) b=g b:=
 Vt (R:=λU=>∃d:Hp,Gr0 Fb Hb d U/\Fz S d/\Le e d/\d a=F a/\U a=À `ar/\(∀b,b≠a->d b=e b)/\∀b,b≠a->U b=g b) j x w l y i λh z m n o q r u v=>#[h,m,n,o,q,r,u,v]
end Vc
namespace L2
open PySem PySem.Spec PyProof.Rows
section
variable{X:Cx}
abbrev ED(K:ar):R2:=λx y H Q=>∃l b a d,x=.ref l/\y=.ref b/\bH K H l a/\bH K H b d/\↑a+↑d<=Ô/\∀p,H p=Ä->Q `ao (aQ H p<|.ah<|a++d)
def WJ:cw X `do (ED X.K):=by
 intro aa s j H x y v u Q I G J h;let#[l,b,xs,zs,rfl,rfl,E,D,O,q]:=h;cases G;cases J;∎;let#[d,r,p1,z1]:=I.list E;let#[a,r2,p2,z2]:=I.list D;∎;have U:=↑r;have Y:=↑r2;∎;let#[#[M,B,t1,o],A,z,n,hd]:=p1.isList;let#[#[N,C,t2,w],i,e,m,g]:=p2.isList;∎;simp only at z hd e g;subst z hd e g;show concat_meets #[_,A,rfl] #[_,i,rfl] noFill_list_add seq_list_add PySem.F.slot_list_add PySem.F.entry_list_add (PySem.F.args_list_add_2 _ _) (list_addW l b d.toArray a.toArray n m B C o w (by simp;omega)) #[A,i,?_];rw[show d.toArray++a.toArray=(d++a).toArray by simp];show#[.ref _,_,I.u1 (t':=s.toks) (r.append r2) (by rw[Ö];omega),rfl,q _ I.fresh]
end
end L2
namespace Vc
open PySem L2
abbrev AV(a b:ai)(H:Hp):Hp:=λx=>if x=a\/x=b then Ä else H x
end Vc
namespace Vc
open PySem L2 Sf
abbrev du(l:cU)(H:Hp):Hp:=λx=>if x∈l then Ä else H x
def rO{H:Hp}(a:x ∉ l)(h:H x=À o):du l H x=À o:=by unfold du;rw[au3 a];show h
def ZN(h:x∈l):du l H x=Ä:=au4 h
def UE{H:Hp}(h:du l H x=À o):x ∉ l/\H x=À o:=by
 unfold du at h;by_cases z:x∈l
 .rw[au4 z] at h;cases h
 .rw[au3 z] at h;show#[z,h]
def Bk(a:aF F H):Gr0 F (du l H) F H:=#[λ_ _ e=>(UE e).2,aF.refl _,a,λx u h e=>by rw[h] at e;cases e]
def Oq{Hb:Hp}(h:Hb a=Ä):∀x∈[a],Hb x=Ä:=λx z=>by rw[å.mp z];show h
def Ot{Hb:Hp}(h:Hb a=Ä)(g:Hb b=Ä):∀x∈[a,b],Hb x=Ä:=λx z=>(ä.mp z).elim (λe=>by rw[e];show h)<|Oq g x
def Gu{Hb:Hp}(h:Hb a=Ä)(g:Hb b=Ä)(f:Hb c=Ä):∀x∈[a,b,c],Hb x=Ä:=λx z=>(ä.mp z).elim (λe=>by rw[e];show h)<|Ot g f x
end Vc
namespace L2
open PySem PySem.Spec PyProof.Rows
def A8(aP:dD P w H h)(e:Rd H a `bs):∃b,ip h a dx C b/\∀f,cv `aB (b f):=by
 have x:bc P w H h a `bs:=by
  rcases e with e |⟨o,e⟩
  .show aP a _ e
  .show (aP a _ e).2
 let#[d,z,ne,g,b,n,r,q]:=x;show#[b,#[g,n,ne],r]
abbrev yV(K:ar)(e:TE)(f:Str):TE:=λj H Q=>e j H λx b=>∃a C d fs v,x=.ref a/\Rd b a (.ins C d fs)/\g8 K C/\bq K C f/\fs.lookup f=À v/\Q v b
section
variable{X:Cx}{CX:gs}{k:Nat}{E:XK}{m f:Str}{pos apos:Pos}{o e:đ}{ta:TE}{D:ai->Nat->Prop}{sp:Nat->Sp}
def HH(he:PE X e ta)(y:ú e f X.env `bg=eval e X.env):PE X `aK (yV X.K ta f):=by
 intro aa s j H Q I h;show Ie y<|bh (he aa s j H _ I h) λu J d=>?_;let#[x,i,b,B,a,C,G,fs,v,ex,w,c,n,l,q]:=d;subst ex;obtain rfl:u=Ú a:=B;∎;let#[A,O,r]:=A8 b.aP w;let#[u,z,g]:=cv.some_of (v:=v) (o:=A f) (by rw[<- l];show r f);∎;show W5 b.dc O (c.get f) c.hd n z (GG g) #[v,i,b.tok _,g,q]
end
section
variable{X:Cx}{CX:gs}{k:Nat}{f C:ai}{fd:Ĥ}{ps:aj}{sp:Sp}{dvs:az}{ds:aS}{x:Str}{p pos:Pos}{e:đ}{es:bS}{t:TA}
abbrev yE(C:ai)(sp:Sp)(dvs:az)(R:St->XK)(t:TA):TE:=λj H Q=>t j H λvs b=>∀x a,b x=Ä->b a=Ä->a≠x->
 sp (.ref x::(vs++dvs)) (aQ (aQ b a<|.own x) x<|.ins C a []) (λv d=>v=.aM/\Q `aV d) (R j)
def Sb{H:Hp}{Q:VK}(M:Mk X.K C f)(F:aG X.prog X.w X.K X.mg X.base CX k f fd ps sp)(z:bD (k+1) X.A)(q:Binds X.K fd ps ds)(hd:aL dvs ds)(B:jy CX X j E)(I:ax X aa j H s)(r:aL vs us)(h:∀x d,H x=Ä->H d=Ä->d≠x->sp (.ref x::(vs++dvs)) (aQ (aQ H d<|.own x) x<|.ins C d []) (λv l=>v=.aM/\Q `aV l) E):
  Ø `aa X.A (call `ag us) `at X.xe s:=by
 have g:=h (⇑s+1) ⇑s (I.aP.fresh<|ai5 _) (I.aP.fresh<|Ñ _) (ç<|ũ _);have b:=ax.made (C:=C) I;have r2:aL (V.ref (⇑s+1)::(vs++dvs)) (Ú (⇑s+1)::(us++ds)):=.cons rfl<|r.append hd;have y:(Ú (⇑s+1)::us++ds).length=↑ps:=(r2.length.symm.trans<|F.len _ _ _ _ g)
 show Τ (Tq (f:=f) I.dc M.makes M.init (beq_iff_eq.mp M.fn) (Ż (F.run _ X.stack _ _ #[Ú (⇑s+1)::us,[]] (Ú (⇑s+1)::(us++ds)) _ _ E (z.make C us [])
  (b.nA.make C us []) (q _ (Ú (⇑s+1)::us) b.dc y) r2 g) λo J a=>?_))
 match o,a with
 |.error e,a=>show B aa _ _ e J b a
 |.ok (.ret u),a=>
  let#[v,i,m,G,n,D]:=b.after a;subst n;show#[G,#[V.ref<|⇑s+1,i,m,rfl,D]]
 |.ok .next,a=>show a.elim
 |.ok .brk,a=>show a.elim
 |.ok .cont,a=>show a.elim
def UG{R:St->XK}(M:Mk X.K C f)(F:aG X.prog X.w X.K X.mg X.base CX k f fd ps sp)(m:bD (k+1) X.A)(l:Gl X x)(hm:X.mg x=À `ag)(i:Binds X.K fd ps ds)(hd:aL dvs ds)(n:∀j,jy CX X j<|R j)(g:PA X (e::es) t)(a: ~~~(dS x))(he:do ew e es X.env)(hpl:do gf pos es X.env):
  PE X (.Call `aN (e::es) [] pos) (yE C sp dvs R t):=by
 intro aa s j H Q I h;show Ğ<|oo I l hm ?_ a;show ac5 (h₀:=X.base) I.ok.mod.nE M.kp (bh `bF λus u b=>by let#[vs,o,d,r,q]:=b;show#[d.dc,Sb M F m i hd (n j) d r q]) he hpl
end
abbrev gw(P:é)(w:ü)(K:ar)(mg:bx)(base:aU)(CX:gs)(k:Nat)(m:Str)(C:ai)(ps:aj)(sp:Sp):Prop:=
 g8 K C/\∃f a,ES K C m f/\aG P w K mg base CX k f a ps sp/\Binds K a ps []
def gw.mono{P:é}{w:ü}{K:ar}{mg:bx}{base:aU}{CX:gs}{k a:Nat}{m:Str}{C:ai}{ps:aj}{sp:Sp}(h:gw P w K mg base CX k m C ps sp)(le:k<=a):gw P w K mg base CX a m C ps sp:=by
 let#[c,f,b,hm,F,d]:=h;show#[c,f,b,hm,F.mono le,d]
end L2
namespace Vc
open PySem L2 Sf
section
variable{H:Hp}{Q:VK}{l:ai}
def HI:c8 (ws++[v]) (-1)=À v:=by
 unfold c8 jl;rw[au3 (by decide:¬ (0:Int)<=-1),Ö,au4 (by simp only[Ý,ϕ];omega)];have e:((-1:Int)+((↑ws+[v].length:Nat):Int)).toNat=↑ws:=by simp only[Ý,ϕ];omega
 rw[e];change (ws++[v])[ws.length]?=À v;rw[ď<|Ñ _,af9];rfl
end
end Vc
namespace L2
open PySem PySem.Spec PyProof.Rows
section
variable{g:TG}{ti:TT}{te:TE}{ix:bE}{σ:St}{Q:VK}
def WK(Pv:Nat->az->Hp->Prop)(u:Pv 0 [] H1)(l:∀i d H,i<=↑kvs->Pv i d H->H a=À (.aE ob<|.dK kvs))(hs:∀i k v d H p,kvs[i]?=À (k,v)->Pv i d H->H p=Ä->g `ao `bc (aQ H p<|.aJ [kV k,v]) λe m=>Wk `bc e/\ti e m λb j=>if b=Â then te e j λv o=>↑d<Ô/\Pv (i+1) (d++[v]) o else Pv (i+1) d j)(hd:∀d H,Pv ↑kvs d H->↑d<=Ô/\∀p,H p=Ä->Q `ao (aQ H p<|.ah d)):yU (qN a ob kvs) g ti te ix σ Q H1:=by
 show BJ (n:=↑kvs) Pv u (λi d H h p=>#[h,l i d H (Ń h) p]) (λd H p=>#[Ñ _,l _ d H (Ñ _) p]) (λi x d H z h p y=>?_) hd;let#[w,k,v,q,r,rfl,rfl]:=y;show hs i k v d H w q p r
end
abbrev ij(K:ar)(x a:Str)(st:ù)(f:ai):Prop:=∃b,iQ K x a st f b
def nD{K:ar}{x a:Str}{st:ù}{f:ai}{oc:au}{od an:b9}{osl:Array (eD)}{kV doc pm bK ct:au}(l:K.lookup f=À #[oc,od,.func<|aj3 x a (ri st) (kz st) (bC st) .none kV doc pm an bK ct,osl])(c:W.codeIn K bK a=Â)(k:ύ K `au=Â):ij K x a st f:=#[_,Zs l c k]
def ij.kp{K:ar}{x a:Str}{st:ù}{f:ai}(h:ij K x a st f):ύ K `au=Â:=h.choose_spec.kp
abbrev XD(d:ai)(fs:List (Str×V)):HO:=.ext λh=>∃m,h.Ns1 d m/\∀f,cv `aB<|m f
end L2
namespace Pu
open PySem L2 Vc Sf
inductive Fl where |f |o |l (k:Bool)
 deriving DecidableEq
inductive Tr where
 |int (n:Int) |bl (b:Bool) |str (s:Str) |aM |aq |ty (n:String) |cl (a:Ο) |exc (b:Ο) (P:Hp -> Option Ο -> Prop)
 |aJ (xs:List Tr) |ah (f:Fl) (xs:List Tr) |aT (f:Fl) (kvs:List (aW × Tr)) |ins (f:Fl) (c:Ο) (fs:List (Str × Tr))
nonrec abbrev ay:=Tr->Prop
nonrec abbrev bG:=List<|aW×Tr
nonrec abbrev bz:=List<|Str×Tr
nonrec abbrev af:=List Tr
nonrec abbrev aB:=af->Prop
nonrec abbrev Cs:=List<|ai×HO
mutual
noncomputable def R(K:ac4)(F:Hp)(B:Bool->Hp):Tr->V->Cs->Prop
 |.int n,v,cs=>v=.int n /\ cs=[]
 |.bl b,v,cs=>v=.bl b /\ cs=[]
 |.str s,v,cs=>v=.str s /\ cs=[]
 |.aM,v,cs=>v=.aM /\ cs=[]
 |.aq,_,_=>False
 |.ty n,v,cs=>v=.ty n /\ cs=[]
 |.cl a,v,cs=>v=.ref a /\ cs=[]
 |.exc b P,v,cs=>cs=[] /\ ∃a o,v=.ref a /\ Rd F a (mF a b o) /\ ∀g,Le F g -> P g o
 |.aJ xs,v,cs=>∃a vs,v=.ref a /\ dM K F a vs /\ Rs K F B xs vs cs
 |.ah .f xs,v,cs=>cs=[] /\ ∃a vs,v=.ref a /\ bH K F a vs /\ Rs K F B xs vs []
 |.ah (.l k) xs,v,cs=>cs=[] /\ ∃a vs,v=.ref a /\ bH K (B k) a vs /\ Rs K F B xs vs []
 |.ah .o xs,v,cs=>∃a vs d,v=.ref a /\ cs=(a,.ah vs)::d /\ Rs K F B xs vs d
 |.aT .f xs,v,cs=>cs=[] /\ ∃a vs,v=.ref a /\ Rd F a `ay /\ Rk K F B xs vs [] /\ (xs.map (·.1)).Nodup
 |.aT (.l k) xs,v,cs=>cs=[] /\ ∃a vs,v=.ref a /\ Rd (B k) a `ay /\ Rk K F B xs vs [] /\ (xs.map (·.1)).Nodup
 |.aT .o xs,v,cs=>∃a vs d,v=.ref a /\ cs=(a,.dK vs)::d /\ Rk K F B xs vs d /\ (xs.map (·.1)).Nodup
 |.ins .f c xs,v,cs=>cs=[] /\ ∃a e vs,v=.ref a /\ Rd F a (.ins c e vs) /\ Rf K F B xs vs []
 |.ins (.l k) c xs,v,cs=>cs=[] /\ ∃a e vs,v=.ref a /\ Rd (B k) a (.ins c e vs) /\ Rf K F B xs vs []
 |.ins .o c xs,v,cs=>∃a e vs d,v=.ref a /\ cs=(a,.ins c e vs)::d /\ Rf K F B xs vs d
noncomputable def Rs(K:ac4)(F:Hp)(B:Bool->Hp):List Tr->List V->Cs->Prop
 |[],vs,cs=>vs=[] /\ cs=[]
 |x::xs,vs,cs=>∃v r c d,vs=v::r /\ cs=c ++ d /\ R K F B x v c /\ Rs K F B xs r d
noncomputable def Rk(K:ac4)(F:Hp)(B:Bool->Hp):List (aW×Tr)->List (aW×V)->Cs->Prop
 |[],vs,cs=>vs=[] /\ cs=[]
 |(k,x)::xs,vs,cs=>∃v r c d,vs=(k,v)::r /\ cs=c ++ d /\ R K F B x v c /\ Rk K F B xs r d
noncomputable def Rf(K:ac4)(F:Hp)(B:Bool->Hp):List (Str×Tr)->List (Str×V)->Cs->Prop
 |[],vs,cs=>vs=[] /\ cs=[]
 |(k,x)::xs,vs,cs=>∃v r c d,vs=(k,v)::r /\ cs=c ++ d /\ R K F B x v c /\ Rf K F B xs r d
end
mutual
noncomputable def aI:Tr->Tr
 |.aJ a=>.aJ<|dA a
 |.ah .o a=>.ah `ca<|dA a
 |.aT .o a=>.aT `ca<|eN a
 |.ins .o c a=>.ins `ca c<|cI a
 |t=>t
noncomputable def dA:List Tr->List Tr
 |[]=>[] |x::xs=>aI x::dA xs
noncomputable def eN:List (aW×Tr)->List (aW×Tr)
 |[]=>[] |(k,x)::xs=>(k,aI x)::eN xs
noncomputable def cI:List (Str×Tr)->List (Str×Tr)
 |[]=>[] |(k,x)::xs=>(k,aI x)::cI xs
end
mutual
noncomputable def aE:Tr->Tr
 |.aJ a=>.aJ<|bj a
 |.ah .o a=>.ah .f<|bj a
 |.aT .o a=>.aT .f<|dH a
 |.ins .o c a=>.ins .f c<|gA a
 |t=>t
noncomputable def bj:List Tr->List Tr
 |[]=>[] |x::xs=>aE x::bj xs
noncomputable def dH:List (aW×Tr)->List (aW×Tr)
 |[]=>[] |(k,x)::xs=>(k,aE x)::dH xs
noncomputable def gA:List (Str×Tr)->List (Str×Tr)
 |[]=>[] |(k,x)::xs=>(k,aE x)::gA xs
end
mutual
noncomputable def cP:Tr->Bool
 |.aJ a=>b5 a
 |.ah (.l _) _=>Å
 |.aT (.l _) _=>Å
 |.ins (.l _) _ _=>Å
 |.ah _ a=>b5 a
 |.aT _ a=>jo a
 |.ins _ _ a=>eO a
 |_=>Â
noncomputable def b5:List Tr->Bool
 |[]=>Â |x::xs=>cP x&&b5 xs
noncomputable def jo:List (aW×Tr)->Bool
 |[]=>Â |(_,x)::xs=>cP x&&jo xs
noncomputable def eO:List (Str×Tr)->Bool
 |[]=>Â |(_,x)::xs=>cP x&&eO xs
end
mutual
noncomputable def bX:Tr->Bool
 |.aJ a=>cj a
 |.ah (.l Â) _=>Å
 |.aT (.l Â) _=>Å
 |.ins (.l Â) _ _=>Å
 |.ah _ a=>cj a
 |.aT _ a=>iL a
 |.ins _ _ a=>gC a
 |_=>Â
noncomputable def cj:List Tr->Bool
 |[]=>Â |x::xs=>bX x&&cj xs
noncomputable def iL:List (aW×Tr)->Bool
 |[]=>Â |(_,x)::xs=>bX x&&iL xs
noncomputable def gC:List (Str×Tr)->Bool
 |[]=>Â |(_,x)::xs=>bX x&&gC xs
end
mutual
noncomputable def dn:Tr->Tr
 |.aJ a=>.aJ<|cT a
 |.ah (.l _) a=>.ah `bd<|cT a
 |.aT (.l _) a=>.aT `bd<|i4 a
 |.ins (.l _) c a=>.ins `bd c<|jE a
 |.ah .o a=>.ah .o<|cT a
 |.aT .o a=>.aT .o<|i4 a
 |.ins .o c a=>.ins .o c<|jE a
 |.ah .f a=>.ah .f<|cT a
 |.aT .f a=>.aT .f<|i4 a
 |.ins .f c a=>.ins .f c<|jE a
 |t=>t
noncomputable def cT:List Tr->List Tr
 |[]=>[] |x::xs=>dn x::cT xs
noncomputable def i4:List (aW×Tr)->List (aW×Tr)
 |[]=>[] |(k,x)::xs=>(k,dn x)::i4 xs
noncomputable def jE:List (Str×Tr)->List (Str×Tr)
 |[]=>[] |(k,x)::xs=>(k,dn x)::jE xs
end
mutual
theorem R.mo{B B':Bool->Hp}(e:Le F F')(b:∀k,Le (B k)<|B' k):∀(t:Tr){v:V}{cs:Cs},R K F B t v cs->R K F' B' t v cs
 |.int _,_,_,h=>h
 |.bl _,_,_,h=>h
 |.str _,_,_,h=>h
 |.aM,_,_,h=>h
 |.aq,_,_,h=>h
 |.ty _,_,_,h=>h
 |.cl _,_,_,h=>h
 |.exc _ _,_,_,y=>by let#[z,a,o,d,g,i]:=y;show#[z,a,o,d,Le.exc e g,λq l=>i q<|e.trans l]
 |.aJ xs,_,_,y=>by let#[a,vs,d,g,i]:=y;show#[a,vs,d,e.aJ g,Rs.mo e b xs i]
 |.ah .f xs,_,_,y=>by let#[z,a,vs,d,g,i]:=y;show#[z,a,vs,d,e.ah g,Rs.mo e b xs i]
 |.ah (.l k) xs,_,_,y=>by let#[z,a,vs,d,g,i]:=y;show#[z,a,vs,d,(b k).ah g,Rs.mo e b xs i]
 |.ah .o xs,_,_,y=>by let#[a,vs,j,d,g,i]:=y;show#[a,vs,j,d,g,Rs.mo e b xs i]
 |.aT .f xs,_,_,y=>by let#[z,a,vs,d,g,i,n]:=y;show#[z,a,vs,d,e.aT g,Rk.mo e b xs i,n]
 |.aT (.l k) xs,_,_,y=>by let#[z,a,vs,d,g,i,n]:=y;show#[z,a,vs,d,(b k).aT g,Rk.mo e b xs i,n]
 |.aT .o xs,_,_,y=>by let#[a,vs,j,d,g,i,n]:=y;show#[a,vs,j,d,g,Rk.mo e b xs i,n]
 |.ins .f _ xs,_,_,y=>by let#[z,a,m,vs,d,g,i]:=y;show#[z,a,m,vs,d,e _ _ (by intro _ _ z;cases z) g,Rf.mo e b xs i]
 |.ins (.l k) _ xs,_,_,y=>by let#[z,a,m,vs,d,g,i]:=y;show#[z,a,m,vs,d,b k _ _ (by intro _ _ z;cases z) g,Rf.mo e b xs i]
 |.ins .o _ xs,_,_,y=>by let#[a,m,vs,j,d,g,i]:=y;show#[a,m,vs,j,d,g,Rf.mo e b xs i]
theorem Rs.mo{B B':Bool->Hp}(e:Le F F')(b:∀k,Le (B k)<|B' k):∀(t:List Tr){v:List V}{cs:Cs},Rs K F B t v cs->Rs K F' B' t v cs
 |[],_,_,h=>h
 |x::xs,_,_,y=>by let#[v,r,c,d,a,g,i,j]:=y;show#[v,r,c,d,a,g,R.mo e b x i,Rs.mo e b xs j]
theorem Rk.mo{B B':Bool->Hp}(e:Le F F')(b:∀k,Le (B k)<|B' k):∀(t:List (aW×Tr)){v:List (aW×V)}{cs:Cs},Rk K F B t v cs->Rk K F' B' t v cs
 |[],_,_,h=>h
 |(_,x)::xs,_,_,y=>by let#[v,r,c,d,a,g,i,j]:=y;show#[v,r,c,d,a,g,R.mo e b x i,Rk.mo e b xs j]
theorem Rf.mo{B B':Bool->Hp}(e:Le F F')(b:∀k,Le (B k)<|B' k):∀(t:List (Str×Tr)){v:List (Str×V)}{cs:Cs},Rf K F B t v cs->Rf K F' B' t v cs
 |[],_,_,h=>h
 |(_,x)::xs,_,_,y=>by let#[v,r,c,d,a,g,i,j]:=y;show#[v,r,c,d,a,g,R.mo e b x i,Rf.mo e b xs j]
end
section
mutual
theorem R.aI(b:∀k,Le (B k)<|B' k):∀(t:Tr){v:V}{cs:Cs},R K F B t v cs->(∀p∈cs,B' Â p.1=À p.2)->R K F B' (aI t) v []
 |.int _,_,_,y,_=>by let#[h,_]:=y;show#[h,rfl]
 |.bl _,_,_,y,_=>by let#[h,_]:=y;show#[h,rfl]
 |.str _,_,_,y,_=>by let#[h,_]:=y;show#[h,rfl]
 |.aM,_,_,y,_=>by let#[h,_]:=y;show#[h,rfl]
 |.aq,_,_,h,_=>h.elim
 |.ty _,_,_,y,_=>by let#[h,_]:=y;show#[h,rfl]
 |.cl _,_,_,y,_=>by let#[h,_]:=y;show#[h,rfl]
 |.exc _ _,_,_,y,_=>by let#[_,a,o,h,r]:=y;show#[rfl,a,o,h,r]
 |.aJ xs,_,_,y,m=>by let#[a,vs,e,d,g]:=y;show#[a,vs,e,d,Rs.aI b xs g m]
 |.ah .f xs,_,_,y,_=>by let#[z,a,vs,e,d,g]:=y;show#[rfl,a,vs,e,d,Rs.mo `bm b xs g]
 |.ah (.l k) xs,_,_,y,_=>by let#[z,a,vs,e,d,g]:=y;show#[rfl,a,vs,e,(b k).ah d,Rs.mo `bm b xs g]
 |.ah .o xs,_,_,y,m=>by let#[a,vs,n,e,d,g]:=y;show#[rfl,a,vs,e,bH.of (m (a,.ah vs) (by rw[d];show .head _)),Rs.aI b xs g λp q=>m p (by rw[d];show .tail _ q)]
 |.aT .f xs,_,_,y,_=>by let#[z,a,vs,e,d,g,j]:=y;show#[rfl,a,vs,e,d,Rk.mo `bm b xs g,j]
 |.aT (.l k) xs,_,_,y,_=>by let#[z,a,vs,e,d,g,j]:=y;show#[rfl,a,vs,e,(b k).aT d,Rk.mo `bm b xs g,j]
 |.aT .o xs,_,_,y,m=>by let#[a,vs,n,e,d,g,j]:=y;show#[rfl,a,vs,e,Rd.of (m (a,.dK vs) (by rw[d];show .head _)),Rk.aI b xs g λp q=>m p (by rw[d];show .tail _ q),by rw[f6];show j]
 |.ins .f _ xs,_,_,y,_=>by let#[z,a,i,vs,e,d,g]:=y;show#[rfl,a,i,vs,e,d,Rf.mo `bm b xs g]
 |.ins (.l k) _ xs,_,_,y,_=>by let#[z,a,i,vs,e,d,g]:=y;show#[rfl,a,i,vs,e,b k _ _ (by intro _ _ z;cases z) d,Rf.mo `bm b xs g]
 |.ins .o _ xs,_,_,y,m=>by let#[a,i,vs,n,e,d,g]:=y;show#[rfl,a,i,vs,e,Rd.of (m (a,.ins _ i vs) (by rw[d];show .head _)),Rf.aI b xs g λp q=>m p (by rw[d];show .tail _ q)]
theorem Rs.aI(b:∀k,Le (B k)<|B' k):∀(t:List Tr){v:List V}{cs:Cs},Rs K F B t v cs->(∀p∈cs,B' Â p.1=À p.2)->Rs K F B' (dA t) v []
 |[],_,_,y,_=>by let#[h,_]:=y;show#[h,rfl]
 |x::xs,_,_,y,m=>by let#[v,r,c,d,e,a,g,i]:=y;show#[v,r,[],[],e,rfl,R.aI b x g λp q=>m p (by rw[a];show É.mpr<|.inl q),Rs.aI b xs i λp q=>m p (by rw[a];show É.mpr<|.inr q)]
theorem Rk.aI(b:∀k,Le (B k)<|B' k):∀(t:List (aW×Tr)){v:List (aW×V)}{cs:Cs},Rk K F B t v cs->(∀p∈cs,B' Â p.1=À p.2)->Rk K F B' (eN t) v []
 |[],_,_,y,_=>by let#[h,_]:=y;show#[h,rfl]
 |(_,x)::xs,_,_,y,m=>by let#[v,r,c,d,e,a,g,i]:=y;show#[v,r,[],[],e,rfl,R.aI b x g λp q=>m p (by rw[a];show É.mpr<|.inl q),Rk.aI b xs i λp q=>m p (by rw[a];show É.mpr<|.inr q)]
theorem Rf.aI(b:∀k,Le (B k)<|B' k):∀(t:List (Str×Tr)){v:List (Str×V)}{cs:Cs},Rf K F B t v cs->(∀p∈cs,B' Â p.1=À p.2)->Rf K F B' (cI t) v []
 |[],_,_,y,_=>by let#[h,_]:=y;show#[h,rfl]
 |(_,x)::xs,_,_,y,m=>by let#[v,r,c,d,e,a,g,i]:=y;show#[v,r,[],[],e,rfl,R.aI b x g λp q=>m p (by rw[a];show É.mpr<|.inl q),Rf.aI b xs i λp q=>m p (by rw[a];show É.mpr<|.inr q)]
theorem f6:∀(xs:List (aW×Tr)),(eN xs).map (·.1)=xs.map (·.1)
 |[]=>rfl
 |(_,_)::xs=>by change _::_=_::_;rw[f6 xs]
end
def GQ:∀(xs:bG),(dH xs).map (·.1)=xs.map (·.1)
 |[]=>rfl
 |(_,_)::xs=>by change _::_=_::_;rw[GQ xs]
mutual
theorem R.base:∀(t:Tr){v:V}{cs:Cs},cP t=Â->R K F B t v cs->R K F B' t v cs
 |.int _,_,_,_,h=>h
 |.bl _,_,_,_,h=>h
 |.str _,_,_,_,h=>h
 |.aM,_,_,_,h=>h
 |.aq,_,_,_,h=>h
 |.ty _,_,_,_,h=>h
 |.cl _,_,_,_,h=>h
 |.exc _ _,_,_,_,h=>h
 |.aJ xs,_,_,n,y=>by let#[a,vs,b,d,e]:=y;show#[a,vs,b,d,Rs.base xs n e]
 |.ah .f xs,_,_,n,y=>by let#[z,a,vs,b,d,e]:=y;show#[z,a,vs,b,d,Rs.base xs n e]
 |.ah (.l k) xs,_,_,n,_=>by cases n
 |.ah .o xs,_,_,n,y=>by let#[a,vs,g,b,d,e]:=y;show#[a,vs,g,b,d,Rs.base xs n e]
 |.aT .f xs,_,_,n,y=>by let#[z,a,vs,b,d,e,j]:=y;show#[z,a,vs,b,d,Rk.base xs n e,j]
 |.aT (.l k) xs,_,_,n,_=>by cases n
 |.aT .o xs,_,_,n,y=>by let#[a,vs,g,b,d,e,j]:=y;show#[a,vs,g,b,d,Rk.base xs n e,j]
 |.ins .f _ xs,_,_,n,y=>by let#[z,a,i,vs,b,d,e]:=y;show#[z,a,i,vs,b,d,Rf.base xs n e]
 |.ins (.l k) _ xs,_,_,n,_=>by cases n
 |.ins .o _ xs,_,_,n,y=>by let#[a,i,vs,g,b,d,e]:=y;show#[a,i,vs,g,b,d,Rf.base xs n e]
theorem Rs.base:∀(t:List Tr){v:List V}{cs:Cs},b5 t=Â->Rs K F B t v cs->Rs K F B' t v cs
 |[],_,_,_,h=>h
 |x::xs,_,_,n,y=>by
  let#[v,r,c,d,a,b,e,g]:=y;rw[b5,ê] at n;show#[v,r,c,d,a,b,R.base x n.1 e,Rs.base xs n.2 g]
theorem Rk.base:∀(t:List (aW×Tr)){v:List (aW×V)}{cs:Cs},jo t=Â->Rk K F B t v cs->Rk K F B' t v cs
 |[],_,_,_,h=>h
 |(_,x)::xs,_,_,n,y=>by
  let#[v,r,c,d,a,b,e,g]:=y;rw[jo,ê] at n;show#[v,r,c,d,a,b,R.base x n.1 e,Rk.base xs n.2 g]
theorem Rf.base:∀(t:List (Str×Tr)){v:List (Str×V)}{cs:Cs},eO t=Â->Rf K F B t v cs->Rf K F B' t v cs
 |[],_,_,_,h=>h
 |(_,x)::xs,_,_,n,y=>by
  let#[v,r,c,d,a,b,e,g]:=y;rw[eO,ê] at n;show#[v,r,c,d,a,b,R.base x n.1 e,Rf.base xs n.2 g]
end
mutual
theorem R.aE(b:Le F F'):∀(t:Tr){v:V}{cs:Cs},R K F B t v cs->(∀p∈cs,F' p.1=À p.2)->R K F' B `bj v []
 |.int _,_,_,y,_=>by let#[h,_]:=y;show#[h,rfl]
 |.bl _,_,_,y,_=>by let#[h,_]:=y;show#[h,rfl]
 |.str _,_,_,y,_=>by let#[h,_]:=y;show#[h,rfl]
 |.aM,_,_,y,_=>by let#[h,_]:=y;show#[h,rfl]
 |.aq,_,_,h,_=>h.elim
 |.ty _,_,_,y,_=>by let#[h,_]:=y;show#[h,rfl]
 |.cl _,_,_,y,_=>by let#[h,_]:=y;show#[h,rfl]
 |.exc _ _,_,_,y,_=>by let#[_,a,o,h,u,d]:=y;show#[rfl,a,o,h,Le.exc b u,λr l=>d r<|b.trans l]
 |.aJ xs,_,_,y,m=>by let#[a,vs,e,d,g]:=y;show#[a,vs,e,b.aJ d,Rs.aE b xs g m]
 |.ah .f xs,_,_,y,_=>by let#[z,a,vs,e,d,g]:=y;show#[rfl,a,vs,e,b.ah d,Rs.mo b (λk=>Le.refl<|B k) xs g]
 |.ah (.l k) xs,_,_,y,_=>by let#[z,a,vs,e,d,g]:=y;show#[rfl,a,vs,e,d,Rs.mo b (λk=>Le.refl<|B k) xs g]
 |.ah .o xs,_,_,y,m=>by let#[a,vs,n,e,d,g]:=y;show#[rfl,a,vs,e,bH.of (m (a,.ah vs) (by rw[d];show .head _)),Rs.aE b xs g λp q=>m p (by rw[d];show .tail _ q)]
 |.aT .f xs,_,_,y,_=>by let#[z,a,vs,e,d,g,j]:=y;show#[rfl,a,vs,e,b.aT d,Rk.mo b (λk=>Le.refl<|B k) xs g,j]
 |.aT (.l k) xs,_,_,y,_=>by let#[z,a,vs,e,d,g,j]:=y;show#[rfl,a,vs,e,d,Rk.mo b (λk=>Le.refl<|B k) xs g,j]
 |.aT .o xs,_,_,y,m=>by let#[a,vs,n,e,d,g,j]:=y;show#[rfl,a,vs,e,Rd.of (m (a,.dK vs) (by rw[d];show .head _)),Rk.aE b xs g λp q=>m p (by rw[d];show .tail _ q),by rw[GQ];show j]
 |.ins .f _ xs,_,_,y,_=>by let#[z,a,i,vs,e,d,g]:=y;show#[rfl,a,i,vs,e,b _ _ (by intro _ _ z;cases z) d,Rf.mo b (λk=>Le.refl<|B k) xs g]
 |.ins (.l k) _ xs,_,_,y,_=>by let#[z,a,i,vs,e,d,g]:=y;show#[rfl,a,i,vs,e,d,Rf.mo b (λk=>Le.refl<|B k) xs g]
 |.ins .o _ xs,_,_,y,m=>by let#[a,i,vs,n,e,d,g]:=y;show#[rfl,a,i,vs,e,Rd.of (m (a,.ins _ i vs) (by rw[d];show .head _)),Rf.aE b xs g λp q=>m p (by rw[d];show .tail _ q)]
theorem Rs.aE(b:Le F F'):∀(t:List Tr){v:List V}{cs:Cs},Rs K F B t v cs->(∀p∈cs,F' p.1=À p.2)->Rs K F' B (bj t) v []
 |[],_,_,y,_=>by let#[h,_]:=y;show#[h,rfl]
 |x::xs,_,_,y,m=>by let#[v,r,c,d,e,a,g,i]:=y;show#[v,r,[],[],e,rfl,R.aE b x g λp q=>m p (by rw[a];show É.mpr<|.inl q),Rs.aE b xs i λp q=>m p (by rw[a];show É.mpr<|.inr q)]
theorem Rk.aE(b:Le F F'):∀(t:List (aW×Tr)){v:List (aW×V)}{cs:Cs},Rk K F B t v cs->(∀p∈cs,F' p.1=À p.2)->Rk K F' B (dH t) v []
 |[],_,_,y,_=>by let#[h,_]:=y;show#[h,rfl]
 |(_,x)::xs,_,_,y,m=>by let#[v,r,c,d,e,a,g,i]:=y;show#[v,r,[],[],e,rfl,R.aE b x g λp q=>m p (by rw[a];show É.mpr<|.inl q),Rk.aE b xs i λp q=>m p (by rw[a];show É.mpr<|.inr q)]
theorem Rf.aE(b:Le F F'):∀(t:List (Str×Tr)){v:List (Str×V)}{cs:Cs},Rf K F B t v cs->(∀p∈cs,F' p.1=À p.2)->Rf K F' B (gA t) v []
 |[],_,_,y,_=>by let#[h,_]:=y;show#[h,rfl]
 |(_,x)::xs,_,_,y,m=>by let#[v,r,c,d,e,a,g,i]:=y;show#[v,r,[],[],e,rfl,R.aE b x g λp q=>m p (by rw[a];show É.mpr<|.inl q),Rf.aE b xs i λp q=>m p (by rw[a];show É.mpr<|.inr q)]
end
abbrev Plain(cs:Cs):Prop:=∀p∈cs,∀x u,p.2≠HO.aE x u
def Plain.nil:Plain []:=λ_ h=>nomatch h
def Plain.cons{a:ai}{o:HO}{cs:Cs}(h:∀x u,o≠HO.aE x u)(t:Plain cs):Plain ((a,o)::cs):=λp m=>by
 cases m with
 |head=>show h
 |tail _ m=>show t p m
def Plain.app(h:Plain c)(t:Plain d):Plain (c++d):=λp m=>(É.mp m).elim (h p)<|t p
mutual
theorem R.plain:∀(t:Tr){v:V}{cs:Cs},R K F B t v cs->Plain cs
 |.int _,_,_,y=>by let#[_,h]:=y;rw[h];show .nil
 |.bl _,_,_,y=>by let#[_,h]:=y;rw[h];show .nil
 |.str _,_,_,y=>by let#[_,h]:=y;rw[h];show .nil
 |.aM,_,_,y=>by let#[_,h]:=y;rw[h];show .nil
 |.aq,_,_,h=>h.elim
 |.ty _,_,_,y=>by let#[_,h]:=y;rw[h];show .nil
 |.cl _,_,_,y=>by let#[_,h]:=y;rw[h];show .nil
 |.exc _ _,_,_,y=>by let#[h,_]:=y;rw[h];show .nil
 |.aJ xs,_,_,y=>by let#[a,vs,e,d,b]:=y;show Rs.plain xs b
 |.ah .f xs,_,_,y=>by let#[z,_]:=y;rw[z];show .nil
 |.ah (.l k) xs,_,_,y=>by let#[z,_]:=y;rw[z];show .nil
 |.ah .o xs,_,_,y=>by let#[a,vs,g,e,d,b]:=y;rw[d];show .cons (by intro _ _ z;cases z)<|Rs.plain xs b
 |.aT .f xs,_,_,y=>by let#[z,_]:=y;rw[z];show .nil
 |.aT (.l k) xs,_,_,y=>by let#[z,_]:=y;rw[z];show .nil
 |.aT .o xs,_,_,y=>by let#[a,vs,g,e,d,b,_]:=y;rw[d];show .cons (by intro _ _ z;cases z)<|Rk.plain xs b
 |.ins .f _ xs,_,_,y=>by let#[z,_]:=y;rw[z];show .nil
 |.ins (.l k) _ xs,_,_,y=>by let#[z,_]:=y;rw[z];show .nil
 |.ins .o _ xs,_,_,y=>by let#[a,i,vs,g,e,d,b]:=y;rw[d];show .cons (by intro _ _ z;cases z)<|Rf.plain xs b
theorem Rs.plain:∀(t:List Tr){v:List V}{cs:Cs},Rs K F B t v cs->Plain cs
 |[],_,_,y=>by let#[_,h]:=y;rw[h];show .nil
 |x::xs,_,_,y=>by let#[v,r,c,d,g,a,b,e]:=y;rw[a];show (R.plain x b).app<|Rs.plain xs e
theorem Rk.plain:∀(t:List (aW×Tr)){v:List (aW×V)}{cs:Cs},Rk K F B t v cs->Plain cs
 |[],_,_,y=>by let#[_,h]:=y;rw[h];show .nil
 |(_,x)::xs,_,_,y=>by let#[v,r,c,d,g,a,b,e]:=y;rw[a];show (R.plain x b).app<|Rk.plain xs e
theorem Rf.plain:∀(t:List (Str×Tr)){v:List (Str×V)}{cs:Cs},Rf K F B t v cs->Plain cs
 |[],_,_,y=>by let#[_,h]:=y;rw[h];show .nil
 |(_,x)::xs,_,_,y=>by let#[v,r,c,d,g,a,b,e]:=y;rw[a];show (R.plain x b).app<|Rf.plain xs e
end
structure aw(F H:Hp)(cs:Cs):Prop where
 h:∀p∈cs,H p.1=À p.2
 f:∀p∈cs,F p.1=Ä
 nd:(cs.map (·.1)).Nodup
def aw.nil:aw F H []:=#[λ_ h=>(nomatch h),λ_ h=>(nomatch h),ag5]
def aw.gr(c:aw F H cs)(g:Gr F H F' H'):aw F' H' cs:=#[λp m=>g.h _ _<|c.h p m,λp m=>g.own (c.f p m)<|c.h p m,c.nd]
abbrev dB(H:Hp)(cs:Cs):Prop:=∀p∈cs,H p.1=Ä
def dB.nil:dB H []:=λ_ h=>nomatch h
def dB.back(s:aF H H')(n:dB H' cs):dB H cs:=λp m=>s.free<|n p m
def aw.app(h:aw F H c)(t:aw F H d)(n:∀p∈c,∀q∈d,p.1≠q.1):aw F H (c++d):=
 #[λp m=>(É.mp m).elim (h.h p)<|t.h p,λp m=>(É.mp m).elim (h.f p)<|t.f p,by
  rw[ß,ŋ];show#[h.nd,t.nd,λa e b g=>?_];∎;let#[p,i,rfl]:=á.mp e;let#[q,j,rfl]:=á.mp g;∎;show n p i q j]
def aw.left(h:aw F H (c++d)):aw F H c:=#[λp m=>h.h p<|É.mpr<|.inl m,λp m=>h.f p<|É.mpr<|.inl m,by have:=h.nd;rw[ß,ŋ] at this;show this.1]
def aw.right(h:aw F H (c++d)):aw F H d:=#[λp m=>h.h p<|É.mpr<|.inr m,λp m=>h.f p<|É.mpr<|.inr m,by have:=h.nd;rw[ß,ŋ] at this;show this.2.1]
structure Out(K:ar)(F:Hp)(B:Bool->Hp)(H F' H':Hp)(t:Tr)(v:V)(cs:Cs):Prop where
 g:Gr F H F' H'
 r:R K F' B t v cs
 c:aw F' H' cs
 n:dB H cs
structure fj(K:ar)(F:Hp)(B:Bool->Hp)(H F' H':Hp)(t:af)(v:az)(cs:Cs):Prop where
 g:Gr F H F' H'
 r:Rs K F' B t v cs
 c:aw F' H' cs
 n:dB H cs
abbrev eC(K:ar)(F:Hp)(B:Bool->Hp)(j:St)(G:af):Prop:=∀(i:Nat)(t:Tr),G[i]?=À t->t=.aq\/∃v,j[i]?=À (À v)/\R K F B t v []
def eC.mo(e:eC K F B j G)(l:Le F F')(b:∀k,Le (B k)<|B' k):eC K F' B' j G:=λi t h=>(e i t h).imp id λ⟨v,h1,h2⟩=>#[v,h1,h2.mo l b t]
nonrec abbrev a6:=af->(ay)->Prop
nonrec abbrev cG:=af->(aB)->Prop
nonrec abbrev df:=af->(Bool->Prop)->Prop
structure Xv where
 c:ϐ
 f:bz
abbrev Xv.ref(a:ai):Xv:=#[.ref a,[]]
abbrev XF(K:ar)(F:Hp)(d:b9)(f:bz):Prop:=f=[]\/∃a vs,d=À a/\Rd F a (XD a vs)/\eO f=Â/\Rf K F (λ_=>F) f vs []
def XF.mo(h:XF K F d f)(l:Le F F'):XF K F' d f:=by
 rcases h with h |⟨a,vs,b,e,g,i⟩
 .show .inl h
 .show .inr ⟨a,vs,b,l _ _ (by intro _ _ z;cases z) e,g,Rf.mo l (λ_=>l) f i⟩
abbrev Xp(K:ar)(f:bz):Hp->b9->Prop:=λF d=>XF K F d f
structure Md where
 z:Bool
 E:St->XK
 q:Xv->Prop
abbrev Md.cR(k:Md):Md:=#[k.z,k.E,λ_=>False]
abbrev Md.walk(k:Md):Md:=#[Å,k.E,λ_=>False]
abbrev Md.base(b:Bool):Md:=#[b,λ_=>E0,λ_=>False]
structure gu(K:ar)(k:Md)(F:Hp)(B:Bool->Hp)(H:Hp)(j:St)(i:af):Prop where
 s:aF F H
 b:∀k,aF (B k) H
 z:k.z=Â->Fz S0 F
 e:eC K F B j i
 x:∀x F' H',k.q x->∀d,XF K F' d x.f->Gr F H F' H'->k.E j x.c d H'
def _root_.Vc.Gr.aO(s:aF F H):Gr F H F H:=Gr.of (Gr0.refl s)<|Fz.refl F
def _root_.Vc.Gr.trans'(a:Gr F H F' H')(b:Gr F' H' F2 H2):Gr F H F2 H2:=Gr.of (a.toGr0.tr b)<|b.fz a.z
def gu.gr(c:gu K k F B H j i)(g:Gr F H a l):gu K k a B l j i:=#[g.s,λk=>(c.b k).trans g.h,λh=>g.fz<|c.z h,c.e.mo g.le<|λk=>Le.refl<|B k,λx a l q d y m=>c.x x a l q d y<|g.trans' m]
abbrev br(K:ar)(k:Md)(h:TE)(g:a6):Prop:=∀(F:Hp)(B:Bool->Hp)(H:Hp)(j:St)(i:af)(Q:VK)(b:ay),gu K k F B H j i->g i b->(∀t v d a e,b t->Out K F B H d a t v e->Q v a)->h j H Q
abbrev fF(K:ar)(k:Md)(h:TA)(g:cG):Prop:=∀(F:Hp)(B:Bool->Hp)(H:Hp)(j:St)(i:af)(Q:az->Hp->Prop)(b:aB),gu K k F B H j i->g i b->(∀t v d a e,b t->fj K F B H d a t v e->Q v a)->h j H Q
abbrev gj(K:ar)(k:Md)(h:TT)(g:df):Prop:=∀(F:Hp)(B:Bool->Hp)(H:Hp)(j:St)(i:af)(Q:Bool->Hp->Prop)(d:Bool->Prop),gu K k F B H j i->g i d->(∀b e a,d b->Gr F H e a->Q b a)->h j H Q
def Out.same(s:aF F H)(r:R K F B t v []):Out K F B H F H t v []:=#[Gr.aO s,r,.nil,.nil]
abbrev v9(i:Nat):a6:=λj Q=>match j[i]? with |some .aq=>False |some t=>Q t |none=>False
def WL(i:Nat):br K k (hJ i) (v9 i):=λF B H j G Q d c p q=>by
 unfold v9 at p;cases h:G[i]? with
 |none=>rw[h] at p;show p.elim
 |some t=>
  rcases c.e i t h with rfl |⟨v,a,b⟩
  .rw[h] at p;show p.elim
  .show#[v,a,q t v F H [] ?_ (Out.same c.s b)];rw[h] at p;cases t with
   |aq=>show p.elim
   |_=>show p
abbrev pC(t:Tr):a6:=λ_ Q=>Q t
def r0(h:∀F B,R K F B t v []):br K k (tC v) (pC t):=λF B H j i Q a c p q=>q t v F H [] p (Out.same c.s<|h F B)
def WM:br K k (tC<|.int n) (pC<|.int n):=r0 λ_ _=>#[rfl,rfl]
def WN:br K k (tC<|.str n) (pC<|.str n):=r0 λ_ _=>#[rfl,rfl]
def ZO:br K k (tC<|.bl n) (pC<|.bl n):=r0 λ_ _=>#[rfl,rfl]
def WO:br K k (tC .aM) (pC .aM):=r0 λ_ _=>#[rfl,rfl]
abbrev p2(b:Tr->Tr->(ay)->Prop)(a pb:a6):a6:=λj Q=>a j λx=>pb j λy=>b x y Q
abbrev eh(K:ar)(k:Md)(r:R2)(j:Tr->Tr->(ay)->Prop):Prop:=∀(F:Hp)(B:Bool->Hp)(H:Hp)(x y:V)(i ty:Tr)(a b:Cs)(Q:VK)(h:ay),aF F H->(∀k,aF (B k) H)->(k.z=Â->Fz S0 F)->R K F B i x a->R K F B ty y b->aw F H a->aw F H b->(∀p∈a,∀q∈b,p.1≠q.1)->j i ty h->
 (∀t v d e g,h t->Gr F H d e->R K d B t v g->aw d e g->(∀p∈g,H p.1=Ä\/p∈a\/p∈b)->Q v e)->r x y H Q
def xo(o:eh K k r pr)(O:br K k ta pa)(U:br K k tb pb):br K k `cr `dd:=λF B H j i Q G c p q=>by
 show O F B H j i _ _ c p λx v l C J p1 d=>?_
 show U l B C j i _ _ `ev p1 λy u w D M p2 a=>?_
 show o w B D v u x y J M Q G a.g.s (λk=>((c.b k).trans d.g.h).trans a.g.h) (λh=>a.g.fz<|d.g.fz<|c.z h) (d.r.mo a.g.le (λk=>Le.refl<|B k) x) a.r (d.c.gr a.g) a.c (λp Y q mq e=>by have:=d.c.h p Y;rw[e,a.n q mq] at this;cases this) p2 λt v' A E N qt g r' I n=>?_
 show q t v' A E N qt #[(d.g.trans' a.g).trans' g,r',I,λp m=>?_];rcases n p m with z |z |z
 .show (d.g.h.trans a.g.h).free z
 .show d.n p z
 .show d.g.h.free (a.n p z)
abbrev p1(b:Tr->(ay)->Prop)(a:a6):a6:=λj Q=>a j λx=>b x Q
abbrev CP(K:ar)(k:Md)(r:V->Hp->VK->Prop)(i:Tr->(ay)->Prop):Prop:=∀(F:Hp)(B:Bool->Hp)(H:Hp)(x:V)(h:Tr)(e:Cs)(Q:VK)(g:ay),aF F H->(∀k,aF (B k) H)->(k.z=Â->Fz S0 F)->R K F B h x e->aw F H e->i h g->
 (∀t v a b d,g t->Gr F H a b->R K a B t v d->aw a b d->(∀p∈d,H p.1=Ä\/p∈e)->Q v b)->r x H Q
def ZP(o:CP K k r pr)(D:br K k ta pa):br K k (Kw r ta) (p1 pr pa):=λF B H j i Q w c p q=>by
 show D F B H j i _ _ c p λx v d l A p1 a=>?_
 show o d B l v x A Q w a.g.s (λk=>(c.b k).trans a.g.h) (λh=>a.g.fz<|c.z h) a.r a.c p1 λt I e u C E g G y n=>?_
 show q t I e u C E #[a.g.trans' g,G,y,λp m=>?_];rcases n p m with z |z
 .show a.g.h.free z
 .show a.n p z
abbrev wa:cG:=λ_ Q=>Q []
abbrev yW(b:a6)(a:cG):cG:=λj Q=>b j λx=>a j λd=>Q (x::d)
def HJ:fF K k j7 wa:=λF B H j i Q a c p q=>q [] [] F H [] p #[Gr.aO c.s,#[rfl,rfl],.nil,.nil]
def UH(h:br K k te pe)(z:fF K k ta pa):fF K k (j5 te ta) (yW pe pa):=λF B H j i Q E c p q=>by
 show h F B H j i _ _ c p λx v o w d p1 a=>?_
 show z o B w j i _ _ `ew p1 λD vs u y l p2 b=>?_
 show q (x::D) (v::vs) u y (d++l) p2 #[a.g.trans' b.g,#[v,vs,d,l,rfl,rfl,a.r.mo b.g.le (λk=>Le.refl<|B k) x,b.r],(a.c.gr b.g).app b.c λp A q C e=>?_,λp m=>?_]
 .have:=a.c.h p A;rw[e,b.n q C] at this;cases this
 .rcases É.mp m with m |m
  .show a.n p m
  .show a.g.h.free (b.n p m)
def Rs.length:∀{t:af}{v:az}{cs:Cs},Rs K F B t v cs->↑v=↑t
 |[],_,_,y=>by let#[h,_]:=y;rw[h];rfl
 |x::xs,_,_,y=>by let#[v,r,c,d,a,e,g,b]:=y;rw[a,Ý,Ý,Rs.length b]
def Rs.at:∀{t:af}{v:az}{cs:Cs}{i:Nat}{x:Tr},Rs K F B t v cs->t[i]?=À x->∃u c,v[i]?=À u/\R K F B x u c/\∀p∈c,p∈cs
 |x::xs,_,_,0,y,y0,h=>by
  let#[v,r,c,d,a,b,g,j]:=y0;cases h;show#[v,c,by rw[a];rfl,g,λp m=>by rw[b];show É.mpr<|.inl m]
 |x::xs,_,_,i + 1,y,y0,h=>by
  ∎;let#[v,r,c,d,a,b,g,j]:=y0;let#[u,e,l,n,o]:=Rs.at (i:=i) j h;∎;show#[u,e,by rw[a];show l,n,λp m=>by rw[b];show É.mpr<|.inr<|o p m]
def Rs.at':∀{t:af}{v:az}{cs:Cs}{i:Nat}{x:Tr},Rs K F B t v cs->aw F H cs->t[i]?=À x->∃u c,v[i]?=À u/\R K F B x u c/\aw F H c/\∀p∈c,p∈cs
 |x::xs,_,_,0,y,y0,hc,h=>by
  let#[v,r,c,d,b,a,g,j]:=y0;cases h;rw[a] at hc;show#[v,c,by rw[b];rfl,g,hc.left,λp m=>by rw[a];show É.mpr<|.inl m]
 |x::xs,_,_,i + 1,y,y0,hc,h=>by
  let#[v,r,c,d,b,a,g,j]:=y0;rw[a] at hc;let#[u,e,l,n,o,q]:=Rs.at' (i:=i) j hc.right h;show#[u,e,by rw[b];show l,n,o,λp m=>by rw[a];show É.mpr<|.inr<|q p m]
def Rk.keys:∀{t:bG}{v:bY}{cs:Cs},Rk K F B t v cs->v.map (·.1)=t.map (·.1)
 |[],_,_,y=>by let#[h,_]:=y;rw[h];rfl
 |(k,x)::xs,_,_,y=>by let#[v,r,c,d,a,e,g,b]:=y;rw[a,è,è,Rk.keys b]
def Rk.length(h:Rk K F B t v cs):↑v=↑t:=by have:=au9 ad2 h.keys;simpa using this
abbrev look(m:bG)(k:aW):Option Tr:=(m.find? λp=>decide<|p.1=k).map (·.2)
def Rk.look:∀{t:bG}{v:bY}{cs:Cs}(k:aW),Rk K F B t v cs->aw F H cs->(look t k=Ä/\iU v k=Ä)\/∃x u c,look t k=À x/\iU v k=À u/\R K F B x u c/\aw F H c/\∀p∈c,p∈cs
 |[],_,_,k,y,_=>by let#[h,_]:=y;show .inl #[rfl,by rw[h];rfl]
 |(k',x)::xs,_,_,k,y,hc=>by
  let#[v,r,c,d,b,a,w,A]:=y;rw[a] at hc;by_cases e:k'=k
  .show .inr #[x,v,c,?_,?_,w,hc.left,λp m=>by rw[a];show É.mpr<|.inl m]
   .unfold Pu.look;rw[an5<|by simpa using e];rfl
   .unfold iU;rw[b,an5<|by simpa using e];rfl
  .have e1:Pu.look ((k',x)::xs) k=Pu.look xs k:=by unfold Pu.look;rw[an4<|by simpa using e]
   have q:iU ((k',v)::r) k=iU r k:=by unfold iU;rw[an4<|by simpa using e]
   rw[b,e1,q];rcases Rk.look (t:=xs) (v:=r) (cs:=d) k A hc.right with z |⟨y,u,o,g,i,j,l,n⟩
   .show .inl z
   .show .inr ⟨y,u,o,g,i,j,l,λp m=>by rw[a];show É.mpr (.inr (n p m))⟩
def R.dw(s:aF F H)(b:∀k,aF (B k) H)(r:R K F B `az v cs)(c:aw F H cs):∃a vs e,v=.ref a/\bH K H a vs/\Rs K F B xs vs e/\aw F H e/\∀p∈e,p∈cs:=by
 cases f with
 |f=>let#[z,a,vs,g,d,i]:=r;show#[a,vs,[],g,s.seq d,i,.nil,λ_ m=>nomatch m]
 |l k=>let#[z,a,vs,g,d,i]:=r;show#[a,vs,[],g,(b k).seq d,i,.nil,λ_ m=>nomatch m]
 |o=>
  let#[a,vs,e,g,d,i]:=r;rw[d] at c;show#[a,vs,e,g,bH.of<|c.h _<|.head _,i,aw.right (c:=[_]) c,λp m=>by rw[d];show .tail _ m]
def R.fx(s:aF F H)(r:R K F B `aF v cs):∃a vs,v=.ref a/\dM K H a vs/\Rs K F B xs vs cs:=by
 let#[a,vs,b,d,e]:=r;show#[a,vs,b,s.aJ d,e]
def R.ki(s:aF F H)(b:∀k,aF (B k) H)(r:R K F B `bS v cs)(c:aw F H cs):∃a vs e,v=.ref a/\Rd H a `ay/\Rk K F B xs vs e/\aw F H e/\∀p∈e,p∈cs:=by
 cases f with
 |f=>let#[z,a,vs,g,d,i,_]:=r;show#[a,vs,[],g,s.rd d,i,.nil,λ_ m=>nomatch m]
 |l k=>let#[z,a,vs,g,d,i,_]:=r;show#[a,vs,[],g,(b k).rd d,i,.nil,λ_ m=>nomatch m]
 |o=>
  let#[a,vs,e,g,d,i,_]:=r;rw[d] at c;show#[a,vs,e,g,Rd.of<|c.h _<|.head _,i,aw.right (c:=[_]) c,λp m=>by rw[d];show .tail _ m]
def R.qw(s:aF F H)(b:∀k,aF (B k) H)(r:R K F B (.ins f C xs) v cs)(c:aw F H cs):∃a d vs g,v=.ref a/\Rd H a (.ins C d vs)/\Rf K F B xs vs g/\aw F H g/\∀p∈g,p∈cs:=by
 cases f with
 |f=>let#[z,a,d,vs,i,e,j]:=r;show#[a,d,vs,[],i,s.rd e,j,.nil,λ_ m=>nomatch m]
 |l k=>let#[z,a,d,vs,i,e,j]:=r;show#[a,d,vs,[],i,(b k).rd e,j,.nil,λ_ m=>nomatch m]
 |o=>
  let#[a,d,vs,g,i,e,j]:=r;rw[e] at c;show#[a,d,vs,g,i,Rd.of<|c.h _<|.head _,j,aw.right (c:=[_]) c,λp m=>by rw[e];show .tail _ m]
def rY(s:aF F H)(r:Rs K F B xs vs cs)(c:aw F H cs)(hp:H p=Ä):∃a,Gr F H a (aQ H p<|.aJ vs)/\R K a B `aF `ao cs/\aw a (aQ H p<|.aJ vs) cs:=by
 let#[a,g,e]:=rE (o:=.aJ vs) s (by intro _ _ z;cases z) hp;show#[a,g,#[p,vs,rfl,dM.of e,r.mo g.le (λk=>Le.refl<|B k) xs],c.gr g]
def Gr.jr(s:aF F H)(hp:H p=Ä):Gr F H F `bQ:=#[#[aF.aQ hp,aF.refl F,s.qK<|s.free hp,λa u h e=>by rw[h] at e;cases e],Fz.refl F]
def w4(s:aF F H)(c:aw F H cs)(hp:H p=Ä):aw F `bQ ((p,o)::cs):=
 #[λq m=>by
  cases m with
  |head=>show cN
  |tail _ m=>change aQ H p o q.1=_;rw[a9<|jX (c.h q m) hp];show c.h q m,
 λq m=>by
  cases m with
  |head=>show s.free hp
  |tail _ m=>show c.f q m,
 by
  rw[è,Ĕ];show#[λm=>?_,c.nd];let#[q,a,e]:=á.mp m;have e:q.1=p:=e;have:=c.h q a;rw[e,hp] at this;cases this]
abbrev zg(b:cG):a6:=λj Q=>b j λa=>↑a<=10000/\Q (.aJ a)
abbrev zh(b:cG):a6:=λj Q=>b j λa=>↑a<=10000/\Q `ex
def mZ(h:n<=1000000):n<=Ô:=Ï h ∎
def XH(h:fF K k ta pa):br K k (ET ta) (zg pa):=λF B H j i Q w c p q=>by
 show h F B H j i _ _ c p λo vs u v e p1 b=>#[by rw[b.r.length];show mZ<|Ï p1.1 ∎,λa m=>?_]
 let#[d,g,r,l]:=rY b.g.s b.r b.c m;show q (.aJ o) `ax d _ e p1.2 #[b.g.trans' g,r,l,b.n]
def XI(h:fF K k ta pa):br K k (EU ta) (zh pa):=λF B H j i Q w c p q=>by
 show h F B H j i _ _ c p λu vs l v e p1 b=>#[by rw[b.r.length];show mZ<|Ï p1.1 ∎,λa d=>?_]
 show q (.ah .o u) `ax l _ ((a,.ah vs)::e) p1.2 #[b.g.trans'<|Gr.jr b.g.s d,#[a,vs,e,rfl,rfl,b.r],w4 b.g.s b.c d,λp m=>?_];cases m with
 |head=>show b.g.h.free d
 |tail _ m=>show b.n p m
end
end Pu
namespace Pu
open PySem PySem.Spec PyProof.Rows L2 Vc Sf
section
abbrev E3:R2:=λx y H Q=>∃a v,x=.ref a/\nY H a y (À v)/\Q v H
def XJ(o:X.A.units+1<ņ):kU X E3:=by
 intro value d aa s j H x y v u Q I B C h n;let#[a,z,rfl,g,q]:=h;obtain rfl:v=Ú a:=B;have l:=O4 I g;unfold ar5;show Ê ?_;rw[getitemInPython_of_ne l.not_modules];show Ê<|am9 l PySem.F.slot_dict_getitem.lookup ?_;have b:Ø `aa X.A (subscripted d Å `ax u) (λr e=>Ø `aa X.A (letTemporaryGo value `ax r >>= λ_=>pure r) `at X.xe e) X.xe s:=by
  rw[n];show wpAny_operating<|Rb o I g C λE D m i=>Ê<|wpAny_letTemporaryGo<|Û #[z,H,m,i,q]
 first
  |show Û<|Ê b
  |show Ê<|Û<|Ê b
  |show Ê b
abbrev tU(neg:Bool):R2:=λy x H Q=>∃a o,x=.ref a/\nY H a y o/\Q (.bl (if neg then !o.isSome else o.isSome)) H
def ZQ(d:X.A.units+1<ņ):cw X (í .In) (tU Å):=by
 intro aa s j H y x u v Q I i e h;let#[a,o,rfl,g,q]:=h;obtain rfl:v=Ú a:=e;show Mc d I g i λl b=>#[.bl o.isSome,H,b,rfl,q]
def Sd(d:X.A.units+1<ņ):cw X `dN (tU Â):=by
 intro aa s j H y x u v Q I i e h;let#[a,o,rfl,g,q]:=h;obtain rfl:v=Ú a:=e;show W9 d I g i λl b=>#[.bl (!o.isSome),H,b,rfl,q]
abbrev EE(K:ar):R2:=λx y H Q=>jt (λi j=>.int<|i+j) x y H Q\/(λx y H Q=>(λx y H Q=>∃i j,x=.str i/\y=.str j/\↑i+↑j<=Ô/\Q (.str<|i++j) H) x y H Q\/ED K x y H Q) x y H Q
def L5:cw X `do (EE X.K):=MW.or<|MP.or WJ
abbrev EF:R2:=λx y H Q=>rI mS (λi j=>.int<|i*j) x y H Q\/EC x y H Q
def L6:cw X `cO EF:=M0.or QU
abbrev E4(K:ar):R2:=λx y H Q=>Kg K x y H Q\/E3 x y H Q
def Me(a:X.A.units+1<ņ):kU X (E4 X.K):=MU.or<|XJ a
abbrev E5:R2:=λx y H Q=>jt (λi j=>.bl<|decide<|i<j) x y H Q\/(λx y H Q=>∃i j,x=.str i/\y=.str j/\Q (.bl<|decide<|i.cps.toList<j.cps.toList) H) x y H Q
def kH:cw X (í .Lt) E5:=M6.or Q7
abbrev E6:R2:=λx y H Q=>jt (λi j=>.bl<|decide<|j<i) x y H Q\/(λx y H Q=>∃i j,x=.str i/\y=.str j/\Q (.bl<|decide<|j.cps.toList<i.cps.toList) H) x y H Q
def nv:cw X (í .Gt) E6:=M7.or R7
end
section
variable{K:ar}{F F' H H':Hp}{B B':Bool->Hp}{k:Md}
abbrev jx(C:Int->Int->Prop)(g:Int->Int->Tr)(x y:Tr)(Q:ay):Prop:=match x,y with
 |.int i,.int j=>C i j /\ Q `cC
 |_,_=>False
def BK{g:Int->Int->V}{t:Int->Int->Tr}(h:∀i j F B,R K F B (t i j) `cC []):eh K k (rI C g) (jx C t):=λF B H x y u ty l n Q e s b z a d o r hd p q=>by
 unfold jx at p;split at p
 .obtain⟨rfl,_⟩:=a;let#[rfl,_]:=d;show#[_,_,rfl,rfl,p.1,q _ _ F H [] p.2 `aj (h _ _ F B) .nil λ_ m=>nomatch m]
 .show p.elim
def A9{g:Int->Int->V}{t:Int->Int->Tr}(h:∀i j F B,R K F B (t i j) `cC []):eh K k (jt g) (jx (λ_ _=>True) t):=λF B H x y u ty l n Q e s b z a d o r hd p q=>by
 unfold jx at p;split at p
 .obtain⟨rfl,_⟩:=a;let#[rfl,_]:=d;show#[_,_,rfl,rfl,q _ _ F H [] p.2 `aj (h _ _ F B) .nil λ_ m=>nomatch m]
 .show p.elim
abbrev wb(x y:Tr)(Q:ay):Prop:=match x,y with
 |.int i,.int j=>Q<|.int<|i + j
 |.str i,.str j=>↑i + ↑j <= 1000000 /\ Q (.str<|i ++ j)
 |.ah _ xs,.ah _ ys=>↑xs + ↑ys <= 1000000 /\ Q (.ah .o<|xs ++ ys)
 |_,_=>False
def Rs.append:∀{xs ys:af}{vs us:az}{c d:Cs},Rs K F B xs vs c->Rs K F B ys us d->Rs K F B (xs++ys) (vs++us) (c++d)
 |[],_,_,_,_,_,y,h=>by let#[a,b]:=y;rw[a,b];show h
 |x::xs,_,_,_,_,_,y,h=>by let#[v,r,c,d,a,b,e,g]:=y;rw[a,b];show#[v,r ++ _,c,d ++ _,rfl,by rw[õ],e,Rs.append g h]
def mw(s:aF F H)(r:Rs K F B xs vs cs)(c:aw F H cs)(hp:H p=Ä):Gr F H F (aQ H p<|.ah vs)/\R K F B `aP `ao ((p,.ah vs)::cs)/\aw F (aQ H p<|.ah vs) ((p,.ah vs)::cs):=
 #[Gr.jr s hp,#[p,vs,cs,rfl,rfl,r],w4 s c hp]
def XM:eh K k (EE K) wb:=λF B H x y N ty Y cy Q O s b z d e C D hd p q=>by
 cases N with
 |int i=>
  cases ty with
  |int j=>
   let#[rfl,_]:=d;let#[rfl,_]:=e;show .inl #[_,_,rfl,rfl,q _ _ F H [] p `aj #[rfl,rfl] .nil λ_ m=>nomatch m]
  |_=>show ë p
 |str i=>
  cases ty with
  |str j=>
   let#[rfl,_]:=d;let#[rfl,_]:=e;show .inr (.inl #[_,_,rfl,rfl,mZ p.1,q _ _ F H [] p.2 `aj #[rfl,rfl] .nil λ_ m=>nomatch m])
  |_=>show ë p
 |ah f xs=>
  cases ty with
  |ah f' ys=>
   ∎;let#[a,vs,ds,rfl,w,n,A,o]:=d.dw s b C;let#[U,us,es,rfl,u,g,v,h]:=e.dw s b D;∎;show .inr (.inr #[_,_,_,_,rfl,rfl,w,u,mZ (by rw[n.length,g.length];show p.1),λl r=>?_]);let#[I,J,M]:=mw s (n.append g) (A.app v λp E q G=>hd p (o p E) q<|h q G) r;show q _ _ F _ _ p.2 I J M λp m=>?_
   cases m with
   |head=>show .inl r
   |tail _ m=>show (É.mp m).elim (λm=>.inr<|.inl<|o p m)<|λm=>.inr<|.inr<|h p m
  |_=>show ë p
 |_=>show ë p
abbrev wc(x y:Tr)(Q:ay):Prop:=match x,y with
 |.int i,.int j=>mS i j /\ Q (.int<|i * j)
 |_,_=>False
def XN:eh K k EF wc:=λF B H x y l ty g h Q e s b z a d i j hd p q=>by
 unfold wc at p;split at p
 .obtain⟨rfl,_⟩:=a;let#[rfl,_]:=d;show .inl #[_,_,rfl,rfl,p.1,q _ _ F H [] p.2 `aj #[rfl,rfl] .nil λ_ m=>nomatch m]
 .show p.elim
abbrev ro:Tr->Option aW
 |.int n=>À<|.inl n
 |.str x=>À<|.inr x
 |_=>Ä
def xp(r:R K F B t v cs)(h:ro t=À y):v=kV y:=by
 cases t with
 |int n=>cases h;show r.1
 |str n=>cases h;show r.1
 |_=>cases h
abbrev gM(x y:Tr)(Q:ay):Prop:=match x,y with
 |.aJ xs,.int i=>(match c8 xs i with |some t=>Q t |none=>False)
 |.ah _ xs,.int i=>(match c8 xs i with |some t=>Q t |none=>False)
 |.str x,.int i=>↑x <= 1000000 /\ (match c8 x.cps.toList i with |some c=>Q (.str #[([c].toArray)]) |none=>False)
 |.aT _ m,y=>(match ro y with |some y=>(match look m y with |some t=>Q t |none=>False) |none=>False)
 |_,_=>False
def Rs.c8(r:Rs K F B xs vs cs)(c:aw F H cs)(h:L2.c8 xs i=À t):∃u d,L2.c8 vs i=À u/\R K F B t u d/\aw F H d/\∀p∈d,p∈cs:=by
 unfold L2.c8 at h ⊢;rw[r.length];cases e:jl ↑xs i with
 |none=>rw[e] at h;cases h
 |some j=>rw[e] at h;show r.at' c h
def XP:eh K k (E4 K) gM:=λF B H x y U ty cx cy Q D s b z j l C hy hd p q=>by
 cases U with
 |aJ Y=>
  cases ty with
  |int i=>
   unfold gM at p;dsimp only at p;let#[rfl,_]:=l;split at p
   .rename_i e;∎;let#[a,vs,rfl,g,h]:=j.fx s;let#[u,d,n,o,r,v]:=h.c8 C e;∎;show .inl<|.inr<|.inl #[_,_,_,_,rfl,rfl,g,n,q _ _ F H d p (Gr.aO s) o r λp m=>.inr<|.inl<|v p m]
   .show p.elim
  |_=>show ë p
 |ah f Y=>
  cases ty with
  |int i=>
   unfold gM at p;dsimp only at p;let#[rfl,_]:=l;split at p
   .rename_i e;∎;let#[a,vs,N,rfl,g,h,w,A]:=j.dw s b C;let#[u,d,n,o,r,v]:=h.c8 w e;∎;show .inl<|.inl #[_,_,_,_,rfl,rfl,g,n,q _ _ F H d p (Gr.aO s) o r λp m=>.inr<|.inl<|A p<|v p m]
   .show p.elim
  |_=>show ë p
 |str x=>
  cases ty with
  |int i=>
   unfold gM at p;dsimp only at p;∎;let#[rfl,_]:=l;let#[rfl,_]:=j;let#[O,p]:=p;∎;split at p
   .rename_i e;show .inl (.inr (.inr #[_,_,_,rfl,rfl,mZ O,e,q _ _ F H [] p `aj #[rfl,rfl] .nil λ_ m=>nomatch m]))
   .show p.elim
  |_=>show ë p
 |aT f m=>
  have p:(match ro ty with |some y=>(match look m y with |some t=>D t |none=>False) |none=>False):=by cases ty<;>show p
  split at p
  .rename_i e;split at p
   .rename_i e';let#[a,vs,N,rfl,g,h,w,A]:=j.ki s b C;obtain rfl:=xp l e;rcases h.look _ w with⟨z,_⟩ |⟨x,u,c,E,G,I,J,M⟩
    .rw[z] at e';cases e'
    .rw[E] at e';cases e';show .inr #[a,u,rfl,.inl #[vs,_,g,rfl,G.symm],q _ _ F H c p `aj I J λp m=>.inr<|.inl<|A p<|M p m]
   .show p.elim
  .show p.elim
 |_=>show ë p
abbrev CJ(x y:Tr)(Q:ay):Prop:=match x,y with
 |.int i,.int j=>Q<|.bl<|decide<|i < j
 |.str i,.str j=>Q<|.bl<|decide<|i.cps.toList < j.cps.toList
 |_,_=>False
def kD:eh K k E5 CJ:=λF B H x y l ty g h Q e s b z a d i j hd p q=>by
 unfold CJ at p;split at p
 .obtain⟨rfl,_⟩:=a;let#[rfl,_]:=d;show .inl #[_,_,rfl,rfl,q _ _ F H [] p `aj #[rfl,rfl] .nil λ_ m=>nomatch m]
 .obtain⟨rfl,_⟩:=a;let#[rfl,_]:=d;show .inr #[_,_,rfl,rfl,q _ _ F H [] p `aj #[rfl,rfl] .nil λ_ m=>nomatch m]
 .show p.elim
abbrev CH(x y:Tr)(Q:ay):Prop:=match x,y with
 |.int i,.int j=>Q<|.bl<|decide<|j < i
 |.str i,.str j=>Q<|.bl<|decide<|j.cps.toList < i.cps.toList
 |_,_=>False
def ng:eh K k E6 CH:=λF B H x y l ty g h Q e s b z a d i j hd p q=>by
 unfold CH at p;split at p
 .obtain⟨rfl,_⟩:=a;let#[rfl,_]:=d;show .inl #[_,_,rfl,rfl,q _ _ F H [] p `aj #[rfl,rfl] .nil λ_ m=>nomatch m]
 .obtain⟨rfl,_⟩:=a;let#[rfl,_]:=d;show .inr #[_,_,rfl,rfl,q _ _ F H [] p `aj #[rfl,rfl] .nil λ_ m=>nomatch m]
 .show p.elim
def ZR:eh K k (jt λi j=>.bl<|decide<|i<=j) (jx (λ_ _=>True) λi j=>.bl<|decide<|i<=j):=A9 λ_ _ _ _=>#[rfl,rfl]
def Ba:eh K k (jt λi j=>.bl<|decide<|j<=i) (jx (λ_ _=>True) λi j=>.bl<|decide<|j<=i):=A9 λ_ _ _ _=>#[rfl,rfl]
def XQ:eh K k (jt λi j=>.int<|i - j) (jx (λ_ _=>True) λi j=>.int<|i - j):=A9 λ_ _ _ _=>#[rfl,rfl]
def UI:eh K k (rI eB λi j=>.int<|i.fdiv j) (jx eB λi j=>.int<|i.fdiv j):=BK λ_ _ _ _=>#[rfl,rfl]
def XR:eh K k (rI (λ_ j=>0<j) λi j=>.int<|i % j) (jx (λ_ j=>0<j) λi j=>.int<|i % j):=BK λ_ _ _ _=>#[rfl,rfl]
abbrev wd(x:Tr)(Q:ay):Prop:=match x with
 |.int i=>Q<|.int (-i)
 |_=>False
def XS:CP K k (L2.rU λi=>.int (-i)) wd:=λF B H x h e Q d s b z a g p q=>by
 unfold wd at p;split at p
 .obtain⟨rfl,_⟩:=a;show#[_,rfl,q _ _ F H [] p `aj #[rfl,rfl] .nil λ_ m=>nomatch m]
 .show p.elim
abbrev yX:Tr->Option V
 |.int n=>À `aU |.bl b=>À `bG |.str x=>À `bN |.aM=>À .aM |_=>Ä
def xq(r:R K F B t v cs)(h:yX t=À u):v=u:=by
 cases t with
 |int n=>cases h;show r.1
 |bl n=>cases h;show r.1
 |str n=>cases h;show r.1
 |aM=>cases h;show r.1
 |_=>cases h
abbrev tV(neg:Bool)(x y:Tr)(Q:ay):Prop:=match yX x,yX y with
 |some u,À v=>zq u v=Â /\ Q (.bl (if neg then !decide (u=v) else decide (u=v)))
 |_,_=>False
def XT:eh K k Cp (tV Å):=λF B H x y l ty g h Q e s b z a d i j hd p q=>by
 unfold tV at p;split at p
 .rename_i e1 e2;obtain rfl:=xq a e1;obtain rfl:=xq d e2;show#[p.1,q _ _ F H [] p.2 `aj #[rfl,rfl] .nil λ_ m=>nomatch m]
 .show p.elim
def XU:eh K k u9 (tV Â):=λF B H x y l ty g h Q e s b z a d i j hd p q=>by
 unfold tV at p;split at p
 .rename_i e1 e2;obtain rfl:=xq a e1;obtain rfl:=xq d e2;show#[p.1,q _ _ F H [] p.2 `aj #[rfl,rfl] .nil λ_ m=>nomatch m]
 .show p.elim
abbrev iP(x:Tr)(Q:Bool->Prop):Prop:=match x with
 |.bl b=>Q b
 |_=>False
abbrev pT(pe:a6):df:=λj Q=>pe j λx=>iP x Q
def JA(h:br K k te pe):gj K k (tB te) (pT pe):=λF B H j i Q e c p q=>by
 show h F B H j i _ _ c p λt v b d l p1 a=>?_
 unfold iP at p1;split at p1
 .obtain⟨rfl,_⟩:=a.r;show#[_,rfl,q _ b d p1 a.g]
 .show p1.elim
def GR(h:br K k te pe):gj K k (tN te) (pT pe):=JA h
abbrev zi(a pb:df):df:=λj Q=>a j λc=>if c=Â then pb j Q else Q Å
abbrev B8(a pb:df):df:=λj Q=>a j λc=>if c=Â then Q Â else pb j Q
abbrev zt(pa:df):df:=λj Q=>pa j λc=>Q (!c)
def XW(m:gj K k ta pa)(n:gj K k tb pb):gj K k (Fm ta tb) (zi pa pb):=λF B H j i Q o c p q=>by
 show m F B H j i _ _ c p λb d e p1 a=>?_
 cases b with
 |true=>rw[au4 rfl];show n d B e j i _ _ `de p1 λb g h p2 l=>q b g h p2<|a.trans' l
 |false=>show q Å d e p1 a
def Y2(m:gj K k ta pa)(n:gj K k tb pb):gj K k (Ku ta tb) (B8 pa pb):=λF B H j i Q o c p q=>by
 show m F B H j i _ _ c p λb d e p1 a=>?_
 cases b with
 |false=>show n d B e j i _ _ `de p1 λb g h p2 l=>q b g h p2<|a.trans' l
 |true=>show q Â d e p1 a
def XX(g:gj K k ta pa):gj K k (Fn ta) (zt pa):=λF B H j i Q h c p q=>g F B H j i _ _ c p λb a d p1 e=>q (!b) a d p1 e
abbrev yY(a pb:a6):a6:=λj Q=>a j λx=>iP x λc=>if c=Â then pb j Q else Q `bw
abbrev zu(a pb:a6):a6:=λj Q=>a j λx=>iP x λc=>if c=Â then Q `ce else pb j Q
abbrev yZ(pa:a6):a6:=λj Q=>pa j λx=>iP x λc=>Q<|.bl (!c)
def Out.bl(g:Gr F H F1 H1):Out K F B H F1 H1 `bG `bG []:=#[g,#[rfl,rfl],.nil,.nil]
def Out.tr(g:Gr F H F1 H1)(o:Out K F1 B H1 F2 H2 t v cs):Out K F B H F2 H2 t v cs:=#[g.trans' o.g,o.r,o.c,o.n.back g.h]
def TN(n:br K k ta pa)(o:br K k tb pb):br K k (Eo ta tb) (yY pa pb):=λF B H j i Q w c p q=>by
 show n F B H j i _ _ c p λt v d e x p1 a=>?_
 unfold iP at p1;split at p1
 .rename_i b;let#[rfl,_]:=a.r;show#[b,rfl,?_];cases b with
  |true=>show o d B e j i _ _ `ew p1 λt v h l m p2 u=>q t v h l m p2<|.tr a.g u
  |false=>show q _ _ d e [] p1 (.bl a.g)
 .show p1.elim
def XY(n:br K k ta pa)(o:br K k tb pb):br K k (Fo ta tb) (zu pa pb):=λF B H j i Q w c p q=>by
 show n F B H j i _ _ c p λt v d e x p1 a=>?_
 unfold iP at p1;split at p1
 .rename_i b;let#[rfl,_]:=a.r;show#[b,rfl,?_];cases b with
  |false=>show o d B e j i _ _ `ew p1 λt v h l m p2 u=>q t v h l m p2<|.tr a.g u
  |true=>show q _ _ d e [] p1 (.bl a.g)
 .show p1.elim
def TQ(e:br K k ta pa):br K k (Ep ta) (yZ pa):=λF B H j i Q h c p q=>by
 show e F B H j i _ _ c p λt v b d l p1 a=>?_
 unfold iP at p1;split at p1
 .obtain⟨rfl,_⟩:=a.r;show#[_,rfl,q _ _ b d [] p1 (.bl a.g)]
 .show p1.elim
abbrev B6(b:df)(a pb:a6):a6:=λj Q=>b j λc=>if c=Â then a j Q else pb j Q
def XZ(r:gj K k tc pc)(n:br K k ta pa)(o:br K k tb pb):br K k (Ks tc ta tb) (B6 pc pa pb):=λF B H j i Q u c p q=>by
 show r F B H j i _ _ c p λb l m p1 a=>?_
 cases b with
 |true=>rw[au4 rfl] at p1 ⊢;show n l B m j i _ _ `de p1 λt v d e g p2 h=>q t v d e g p2<|.tr a h
 |false=>rw[au3 ∎] at p1 ⊢;show o l B m j i _ _ `de p1 λt v d e g p2 h=>q t v d e g p2<|.tr a h
end
end Pu
namespace Pu
open PySem L2 Vc Sf
section
mutual
theorem R.low:∀(t:Tr){v:V}{cs:Cs},bX t=Â->B Å=B' Å->R K F B t v cs->R K F B' t v cs
 |.int _,_,_,_,_,h=>h
 |.bl _,_,_,_,_,h=>h
 |.str _,_,_,_,_,h=>h
 |.aM,_,_,_,_,h=>h
 |.aq,_,_,_,_,h=>h
 |.ty _,_,_,_,_,h=>h
 |.cl _,_,_,_,_,h=>h
 |.exc _ _,_,_,_,_,h=>h
 |.aJ xs,_,_,n,e,y=>by let#[a,vs,b,d,g]:=y;show#[a,vs,b,d,Rs.low xs n e g]
 |.ah .f xs,_,_,n,e,y=>by let#[z,a,vs,b,d,g]:=y;show#[z,a,vs,b,d,Rs.low xs n e g]
 |.ah (.l Â) xs,_,_,n,_,_=>by cases n
 |.ah (.l Å) xs,_,_,n,e,y=>by let#[z,a,vs,b,d,g]:=y;show#[z,a,vs,b,by rw[<- e];show d,Rs.low xs n e g]
 |.ah .o xs,_,_,n,e,y=>by let#[a,vs,i,b,d,g]:=y;show#[a,vs,i,b,d,Rs.low xs n e g]
 |.aT .f xs,_,_,n,e,y=>by let#[z,a,vs,b,d,g,m]:=y;show#[z,a,vs,b,d,Rk.low xs n e g,m]
 |.aT (.l Â) xs,_,_,n,_,_=>by cases n
 |.aT (.l Å) xs,_,_,n,e,y=>by let#[z,a,vs,b,d,g,m]:=y;show#[z,a,vs,b,by rw[<- e];show d,Rk.low xs n e g,m]
 |.aT .o xs,_,_,n,e,y=>by let#[a,vs,i,b,d,g,m]:=y;show#[a,vs,i,b,d,Rk.low xs n e g,m]
 |.ins .f _ xs,_,_,n,e,y=>by let#[z,a,j,vs,b,d,g]:=y;show#[z,a,j,vs,b,d,Rf.low xs n e g]
 |.ins (.l Â) _ xs,_,_,n,_,_=>by cases n
 |.ins (.l Å) _ xs,_,_,n,e,y=>by let#[z,a,j,vs,b,d,g]:=y;show#[z,a,j,vs,b,by rw[<- e];show d,Rf.low xs n e g]
 |.ins .o _ xs,_,_,n,e,y=>by let#[a,j,vs,i,b,d,g]:=y;show#[a,j,vs,i,b,d,Rf.low xs n e g]
theorem Rs.low:∀(t:List Tr){v:List V}{cs:Cs},cj t=Â->B Å=B' Å->Rs K F B t v cs->Rs K F B' t v cs
 |[],_,_,_,_,h=>h
 |x::xs,_,_,n,e,y=>by
  let#[v,r,c,d,a,b,g,i]:=y;rw[cj,ê] at n;show#[v,r,c,d,a,b,R.low x n.1 e g,Rs.low xs n.2 e i]
theorem Rk.low:∀(t:List (aW×Tr)){v:List (aW×V)}{cs:Cs},iL t=Â->B Å=B' Å->Rk K F B t v cs->Rk K F B' t v cs
 |[],_,_,_,_,h=>h
 |(_,x)::xs,_,_,n,e,y=>by
  let#[v,r,c,d,a,b,g,i]:=y;rw[iL,ê] at n;show#[v,r,c,d,a,b,R.low x n.1 e g,Rk.low xs n.2 e i]
theorem Rf.low:∀(t:List (Str×Tr)){v:List (Str×V)}{cs:Cs},gC t=Â->B Å=B' Å->Rf K F B t v cs->Rf K F B' t v cs
 |[],_,_,_,_,h=>h
 |(_,x)::xs,_,_,n,e,y=>by
  let#[v,r,c,d,a,b,g,i]:=y;rw[gC,ê] at n;show#[v,r,c,d,a,b,R.low x n.1 e g,Rf.low xs n.2 e i]
end
mutual
theorem R.dn(b:∀k,Le (B k) G):∀(t:Tr){v:V}{cs:Cs},R K F B t v cs->R K F (λ_=>G) (dn t) v cs
 |.int _,_,_,h=>h
 |.bl _,_,_,h=>h
 |.str _,_,_,h=>h
 |.aM,_,_,h=>h
 |.aq,_,_,h=>h
 |.ty _,_,_,h=>h
 |.cl _,_,_,h=>h
 |.exc _ _,_,_,h=>h
 |.aJ xs,_,_,y=>by let#[a,vs,d,e,g]:=y;show#[a,vs,d,e,Rs.dn b xs g]
 |.ah .f xs,_,_,y=>by let#[z,a,vs,d,e,g]:=y;show#[z,a,vs,d,e,Rs.dn b xs g]
 |.ah (.l k) xs,_,_,y=>by let#[z,a,vs,d,e,g]:=y;show#[z,a,vs,d,(b k).ah e,Rs.dn b xs g]
 |.ah .o xs,_,_,y=>by let#[a,vs,i,d,e,g]:=y;show#[a,vs,i,d,e,Rs.dn b xs g]
 |.aT .f xs,_,_,y=>by let#[z,a,vs,d,e,g,m]:=y;show#[z,a,vs,d,e,Rk.dn b xs g,by rw[eL];show m]
 |.aT (.l k) xs,_,_,y=>by let#[z,a,vs,d,e,g,m]:=y;show#[z,a,vs,d,(b k).aT e,Rk.dn b xs g,by rw[eL];show m]
 |.aT .o xs,_,_,y=>by let#[a,vs,i,d,e,g,m]:=y;show#[a,vs,i,d,e,Rk.dn b xs g,by rw[eL];show m]
 |.ins .f _ xs,_,_,y=>by let#[z,a,j,vs,d,e,g]:=y;show#[z,a,j,vs,d,e,Rf.dn b xs g]
 |.ins (.l k) _ xs,_,_,y=>by let#[z,a,j,vs,d,e,g]:=y;show#[z,a,j,vs,d,b k _ _ (by intro _ _ z;cases z) e,Rf.dn b xs g]
 |.ins .o _ xs,_,_,y=>by let#[a,j,vs,i,d,e,g]:=y;show#[a,j,vs,i,d,e,Rf.dn b xs g]
theorem Rs.dn(b:∀k,Le (B k) G):∀(t:List Tr){v:List V}{cs:Cs},Rs K F B t v cs->Rs K F (λ_=>G) (cT t) v cs
 |[],_,_,h=>h
 |x::xs,_,_,y=>by let#[v,r,c,d,a,e,g,i]:=y;show#[v,r,c,d,a,e,R.dn b x g,Rs.dn b xs i]
theorem Rk.dn(b:∀k,Le (B k) G):∀(t:List (aW×Tr)){v:List (aW×V)}{cs:Cs},Rk K F B t v cs->Rk K F (λ_=>G) (i4 t) v cs
 |[],_,_,h=>h
 |(_,x)::xs,_,_,y=>by let#[v,r,c,d,a,e,g,i]:=y;show#[v,r,c,d,a,e,R.dn b x g,Rk.dn b xs i]
theorem Rf.dn(b:∀k,Le (B k) G):∀(t:List (Str×Tr)){v:List (Str×V)}{cs:Cs},Rf K F B t v cs->Rf K F (λ_=>G) (jE t) v cs
 |[],_,_,h=>h
 |(_,x)::xs,_,_,y=>by let#[v,r,c,d,a,e,g,i]:=y;show#[v,r,c,d,a,e,R.dn b x g,Rf.dn b xs i]
theorem eL:∀(xs:List (aW×Tr)),(i4 xs).map (·.1)=xs.map (·.1)
 |[]=>rfl
 |(_,_)::xs=>by change _::_=_::_;rw[eL xs]
end
def n8:∀(xs:af),(cT xs).length=↑xs
 |[]=>rfl
 |_::xs=>by change (cT xs).length + 1=_;rw[n8 xs];rfl
end
structure bg(K:ar)(k:Md)(lo:Nat)(us:az)(Fb Hb F H:Hp)(G:St)(J:af)(cs:Nat->Cs):Prop where
 g:Gr Fb Hb F H
 z:k.z=Â->Fz S0 F
 l:↑G=↑J
 e:∀(i:Nat)(t:Tr),J[i]?=À t->t=.aq\/∃v,G[i]?=À (À v)/\R K F (λ_=>Hb) t v (cs i)
 c:∀i,aw F H<|cs i
 n:∀i,dB Hb<|cs i
 d:∀i j,i≠j->∀p∈cs i,∀q∈cs j,p.1≠q.1
 p:∀i,i<lo->G[i]?=(us[i]?).map À
 x:∀x G' F' H',k.q x->∀d,XF K F' d x.f->Gr Fb Hb F' H'->k.E G' x.c d H'
section
abbrev Bq(Hb H:Hp):Bool->Hp:=λb=>if b then H else Hb
def bg.e8(W:bg K k lo us Fb Hb F H j G cs):gu K k F `cF H j `ey where
 s:=W.g.s
 b:=λb=>by
  cases b with
  |true=>show aF.refl H
  |false=>show W.g.h
 z:=W.z
 e:=λi t h=>by
  rw[Î] at h;cases q:G[i]? with
  |none=>rw[q] at h;cases h
  |some u=>
   rw[q] at h;cases h;rcases W.e i u q with rfl |⟨v,n,o⟩
   .show .inl rfl
   .show .inr ⟨v,n,o.aI (λb=>?_) u λp m=>(W.c i).h p m⟩;cases b with
    |true=>show Le.of W.g.h
    |false=>show Le.refl _
 x:=λx a l q d y g=>W.x x j a l q d y<|W.g.trans' g
def bg.gr(W:bg K k lo us Fb Hb F H j G cs)(g:Gr F H F' H'):bg K k lo us Fb Hb F' H' j G cs:=
 #[W.g.trans' g,λh=>g.fz<|W.z h,W.l,λi t h=>(W.e i t h).imp id λ⟨v,h1,h2⟩=>#[v,h1,h2.mo g.le (λ_=>Le.refl _) t],λi=>(W.c i).gr g,W.n,W.d,W.p,W.x]
def bg.set{i:Nat}{t:Tr}{v:V}{c:Cs}(W:bg K k lo us Fb Hb F H G J cs)(B:lo<=i)(r:R K F (λ_=>Hb) t v c)(A:aw F H c)(n:dB Hb c)(d:∀j,j≠i->∀p∈cs j,∀q∈c,p.1≠q.1):
  bg K k lo us Fb Hb F H (G.set i<|À v) `cG (λj=>if j=i then c else cs j) where
 g:=W.g
 z:=W.z
 l:=by rw[û,û];show W.l
 e:=λj u h=>by
  by_cases e:j=i
  .subst e;have y:j<↑J:=by have:=(Á.mp h).1;rw[û] at this;show this
   rw[Ā y] at h;cases h;show .inr #[v,Ā (by rw[W.l];show y),by rw[au4 rfl];show r]
  .rw[ï<|λz=>e z.symm] at h;rw[au3 e];show (W.e j u h).imp id λ⟨v,h1,h2⟩=>#[v,by rw[ï<|λz=>e z.symm];show h1,h2]
 c:=λj=>by
  split
  .show A
  .show W.c j
 n:=λj=>by
  split
  .show n
  .show W.n j
 d:=λa b ne p w q m=>by
  by_cases o:a=i
  .rw[au4 o] at w;rw[au3<|λz=>ne<|o.trans z.symm] at m;show (d b (λz=>ne<|o.trans z.symm) q m p w).symm
  .rw[au3 o] at w;by_cases eb:b=i
   .rw[au4 eb] at m;show d a o p w q m
   .rw[au3 eb] at m;show W.d a b ne p w q m
 p:=λj h=>by rw[ï ⋯];show W.p j h
 x:=W.x
def bg.out{i:Nat}{t:Tr}{v:V}{c:Cs}(W:bg K k lo us Fb Hb F H G J cs)(o:Out K F `cF H F' H' t v c)(a:lo<=i)(n:bX t=Â):
  bg K k lo us Fb Hb F' H' (G.set i<|À v) `cG (λj=>if j=i then c else cs j):=
 (W.gr o.g).set a (o.r.low t n rfl) o.c (λp m=>W.g.h.free<|o.n p m) λj _ p b q d e=>by
  have:=(W.c j).h p b;rw[e,o.n q d] at this;cases this
end
structure Pd where
 nx:aB
 rt:Tr->aB
 bk:aB:=λ_=>False
 ct:aB:=λ_=>False
nonrec abbrev b8:=Pd->aB
structure Lk(K:ar)(k:Md)(lo:Nat)(us:az)(Fb Hb:Hp)(D:Ends)(D':Pd):Prop where
 nx:∀F H j G cs,bg K k lo us Fb Hb F H j G cs->D'.nx G->D.nx j H
 rt:∀F H j G cs v t c,bg K k lo us Fb Hb F H j G cs->R K F (λ_=>Hb) t v c->aw F H c->dB Hb c->(∀i,∀p∈cs i,∀q∈c,p.1≠q.1)->cP t=Â->D'.rt t G->D.rt v H
 bk:∀F H j G cs,bg K k lo us Fb Hb F H j G cs->D'.bk G->D.bk j H
 ct:∀F H j G cs,bg K k lo us Fb Hb F H j G cs->D'.ct G->D.ct j H
abbrev dh(K:ar)(k:Md)(lo:Nat)(ts:TS)(ps:b8):Prop:=∀(us:az)(b d F H:Hp)(j:St)(i:af)(e:Nat->Cs)(D:Ends)(a:Pd),bg K k lo us b d F H j i e->ps a i->Lk K k lo us b d D a->ts D j H
section
abbrev we(p q:b8):b8:=λD j=>p { D with nx:=q D } j
abbrev y6:b8:=λD j=>D.nx j
def X1(h:dh K k lo t p)(h':dh K k lo u q):dh K k lo (wz t u) (we p q):=λus b d F H j i a D e W p L=>
 h us b d F H j i a _ _ W p #[λF H j i a W q=>h' us b d F H j i a D e W q L,L.rt,L.bk,L.ct]
def TR:dh K k lo Er y6:=λus d e F H j i a D b W p L=>L.nx F H j i a W p
abbrev zv(i:Nat)(a:a6):b8:=λD j=>a `af λt=>bX t=Â/\D.nx (j.set i t)
def X3(e:lo<=i)(h:br K k te pe):dh K k lo (mW te<|kA i) (zv i pe):=λus l d F H j G m D g W p L=>by
 show h F `df H j _ _ _ W.e8 p λt v a b c q o=>?_
 show L.nx a b _ _ _ (W.out o e q.1) q.2
abbrev y7(pe:a6):b8:=λD j=>pe `af λ_=>D.nx j
def TU(h:br K k te pe):dh K k lo (tM te) (y7 pe):=λus l d F H j i m D e W p L=>
 h F `df H j _ _ _ W.e8 p λt v a b c q o=>L.nx a b _ _ _ (W.gr o.g) q
abbrev zw(a:a6):b8:=λD j=>a `af λt=>cP t=Â/\D.rt t j
def X4(h:br K k te pe):dh K k lo (zj te) (zw pe):=λus y d F H j G l D x W p L=>by
 show h F `df H j _ _ _ W.e8 p λt v a b c q o=>?_
 show L.rt a b j G l v t c (W.gr o.g) (o.r.base t q.1) o.c (λp m=>W.g.h.free<|o.n p m) (λi p u q w e=>?_) q.1 q.2;have:=(W.c i).h p u;rw[e,o.n q w] at this;cases this
abbrev wg(a:df)(p q:b8):b8:=λD j=>a `af λb=>if b=Â then p D j else q D j
def Y3(o:gj K k tc pc)(h:dh K k lo t p)(h':dh K k lo u q):dh K k lo (zk tc t u) (wg pc p q):=λus l a F H j i n D d W p L=>by
 show o F (Bq a H) H j _ _ _ W.e8 p λb e m q g=>?_
 cases b with
 |true=>show h us l a e m j i n D d `em q L
 |false=>show h' us l a e m j i n D d `em q L
abbrev E7(e:df)(pb:b8):b8:=λD j=>∃I:Nat->aB,(∃m,I m j)/\∀m j,I m j->e `af λb=>if b=Â then pb { D with nx:=λd=>∃a,a<m/\I a d,ct:=λd=>∃a,a<m/\I a d,bk:=D.nx } j else D.nx j
def X5(x:gj K k tc pc)(w:dh K k lo tb pb):dh K k lo (Ea tc tb) (E7 pc pb):=λus n e F H j G a D A W p L=>by
 let#[I,#[z,y],step]:=p;show#[λm j H=>∃F G a,bg K k lo us n e F H j G a/\I m G,#[z,F,G,a,W,y],?_];intro m j H zy;let#[F,G,a,W,i]:=zy;show x F (Bq e H) H j _ _ _ W.e8 (step m G i) λb o u q g=>?_
 cases b with
 |false=>show L.nx o u j G a `em q
 |true=>
  show#[λv r=>∃d,d<m/\∃F G a,bg K k lo us n e F r v G a/\I d G,λv r h=>h,?_];show w us n e o u j G a _ _ `em q #[?_,L.rt,?_,?_]
  .show λF H j G a W ⟨d,l,i⟩=>#[d,l,F,G,a,W,i]
  .show L.nx
  .show λF H j G a W ⟨d,l,i⟩=>#[d,l,F,G,a,W,i]
end
nonrec abbrev gK:=af->(Tr->aB)->Prop
nonrec abbrev iV:=af->(Tr->aB)->(Xv->Prop)->Prop
abbrev iO(K:ar)(z:Bool)(lo n:Nat)(ps:iV):Sp:=λvs H Q E=>↑vs=n/\∃(F b:Hp)(j:af)(l:Nat->Cs)(g:Tr->aB)(q:Xv->Prop),bg K #[z,λ_=>E,q] lo vs F b F H (vs.map À) j l/\ps j g q/\
 ∀d e m h a v t c,bg K #[z,λ_=>E,q] lo vs F b d e m h a->R K d (λ_=>b) t v c->aw d e c->dB b c->(∀i,∀p∈a i,∀q∈c,p.1≠q.1)->cP t=Â->g t h->Q v e
abbrev bU(K:ar)(z:Bool)(lo n:Nat)(ps:gK):Sp:=iO K z lo n λa Q _=>ps a Q
def bg.md(W:bg K k lo us Fb Hb F H j i cs)(hz:k'.z=Â->k.z=Â)(x:∀x m a b,k'.q x->∀d,XF K a d x.f->Gr Fb Hb a b->k'.E m x.c d b):bg K k' lo us Fb Hb F H j i cs:=#[W.g,λh=>W.z<|hz h,W.l,W.e,W.c,W.n,W.d,W.p,x]
section
def bg.start(N:aj)(b:lo<=↑vs)(W:bg K k lo us Fb Hb F H (vs.map À) j cs):bg K k lo us Fb Hb F H `bh (j++Ò (↑N - ↑j) .aq) cs where
 g:=W.g
 z:=W.z
 l:=by
  have:=W.l;rw[Æ] at this;change (vs.map À++Ò (↑N - ↑vs) Ä).length=_;rw[Ö,Ö,ã,ã,Æ,this]
 e:=λi t h=>by
  have a:=W.l;rcases Nat.lt_or_ge i ↑j with z |z
  .rw[ĉ z] at h;show (W.e i t h).imp id λ⟨v,h1,h2⟩=>#[v,by change (vs.map À++Ò (↑N - ↑vs) Ä)[i]?=_;rw[ĉ (by rw[a];show z)];show h1,h2]
  .rw[ď z] at h;have m:=Ì h;show .inl (List.mem_replicate.mp m).2
 c:=W.c
 n:=W.n
 d:=W.d
 p:=λi h=>by
  have e:=W.p i h;change (vs.map À++Ò (↑N - ↑vs) Ä)[i]?=_;rw[ĉ (by rw[Æ];omega)];show e
 x:=W.x
end
def Rs.split:∀{ts:af}{vs:az}{c:Cs},Rs K F B ts vs c->aw F H c->∃cs:Nat->Cs,(∀(i:Nat)(t:Tr),ts[i]?=À t->∃v,vs[i]?=À v/\R K F B t v (cs i))/\(∀i,∀p∈cs i,p∈c)/\(∀i,aw F H<|cs i)/\∀i j,i≠j->∀p∈cs i,∀q∈cs j,p.1≠q.1
 |[],_,_,_,_=>#[λ_=>[],λi t h=>(by cases h),λ_ _ m=>(nomatch m),λ_=>.nil,λ_ _ _ _ m=>nomatch m]
 |x::xs,_,_,y,hc=>by
  let#[v,r,c,d,l,n,E,G]:=y;rw[n] at hc;let#[cs,o,e,w,A]:=Rs.split G hc.right;have g:∀p∈c,∀q∈d,p.1≠q.1:=λp a q b=>by
   have:=hc.nd;rw[ß,ŋ] at this;show this.2.2 _ (á.mpr #[p,a,rfl]) _<|á.mpr #[q,b,rfl]
  show#[λi=>match i with |0=>c |j+1=>cs j,λi t h=>?_,λi p m=>?_,λi=>?_,λi j ne p a q b=>?_]
  .cases i with
   |zero=>cases h;show#[v,by rw[l];rfl,E]
   |succ j=>let#[u,C,D]:=o j t h;show#[u,by rw[l];show C,D]
  .rw[n];cases i with
   |zero=>show É.mpr<|.inl m
   |succ j=>show É.mpr<|.inr<|e j p m
  .cases i with
   |zero=>show hc.left
   |succ j=>show w j
  .cases i with
   |zero=>
    cases j with
    |zero=>show au5 rfl ne
    |succ j=>show g p a q<|e j q b
   |succ i=>
    cases j with
    |zero=>show (g q b p<|e i p a).symm
    |succ j=>show A i j (λz=>ne<|by rw[z]) p a q b
section
def X6{bf:gK}(F:iQ K x qual st f fd)(S:bT N ps `aY)(hn:↑ps=n)(I:lo<=n)(e:∀(bK:au)(A:Ĉ)(outer:cL)(s:ao)(H:Hp)(E:XK),bD m (A.deeper<|ė qual (bC st) ⇑s f bK)->
   ∃ts pb,fV (kB bJ P w K mg base N qual `aY f bK A outer s H E).sC `bI ts/\dh K (Md.base z) lo ts pb/\∀xs b,xs.length=n->bf xs b->pb { nx:=λi=>b .aM i,rt:=b } (xs++Ò (↑N - n) .aq)):
  aG P w K mg base bJ (m+1) f fd ps (bU K z lo n bf):=by
 show F.ok S (λvs H Q E h=>h.1.trans hn.symm)<|λbK A outer s H vs Q E M h=>?_;∎;let#[Y,y,B,ts,g,b,q,W,p,a]:=h;let#[U,pb,C,D,J]:=e bK A outer s H E M;∎;have o:↑ts=n:=by have:=W.l;rw[Æ] at this;omega
 show#[U,C,D vs y B y H _ _ g _ { nx:=λi=>b .aM i,rt:=b } ((W.start N ⋯).md id λ_ _ _ _ h=>h.elim) (by rw[o];show J ts b o p) #[?_,?_,λ_ _ _ _ _ _ (h:False)=>h.elim,λ_ _ _ _ _ _ (h:False)=>h.elim]]
 .show λF H j i g u q=>a F H j i g .aM .aM [] (u.md id W.x) #[rfl,rfl] .nil .nil (λ_ _ _ _ m=>nomatch m) rfl q
 .show λF H j i g v t c u r G n d O q=>a F H j i g v t c (u.md id W.x) r G n d O q
def TV{bf:iV}(F:iQ K x qual st f fd)(S:bT N ps `aY)(hn:↑ps=n)(I:lo<=n)(e:∀(bK:au)(A:Ĉ)(outer:cL)(s:ao)(H:Hp)(E:XK)(q:Xv->Prop),bD m (A.deeper<|ė qual (bC st) ⇑s f bK)->
   ∃ts pb,fV (kB `aZ P w K mg base N qual `aY f bK A outer s H E) `bI ts/\dh K #[z,λ_=>E,q] lo ts pb/\∀xs b,xs.length=n->bf xs b q->pb { nx:=λi=>b .aM i,rt:=b } (xs++Ò (↑N - n) .aq)):
  aG P w K mg base `aZ (m+1) f fd ps (iO K z lo n bf):=by
 show F.B5 S (λvs H Q E h=>h.1.trans hn.symm)<|λbK A outer s H vs Q E M h=>?_;∎;let#[Y,y,B,ts,g,b,q,W,p,a]:=h;let#[U,pb,C,D,J]:=e bK A outer s H E q M;∎;have o:↑ts=n:=by have:=W.l;rw[Æ] at this;omega
 show#[U,C,D vs y B y H _ _ g _ { nx:=λi=>b .aM i,rt:=b } (W.start N ⋯) (by rw[o];show J ts b o p) #[?_,?_,λ_ _ _ _ _ _ (h:False)=>h.elim,λ_ _ _ _ _ _ (h:False)=>h.elim]]
 .show λF H j i g u q=>a F H j i g .aM .aM [] u #[rfl,rfl] .nil .nil (λ_ _ _ _ m=>nomatch m) rfl q
 .show λF H j i g v t c u r G n d O q=>a F H j i g v t c u r G n d O q
end
section
def zY{c:Cs}{p:ai×HO}(m:p∈c):du (c.map (·.1)) H p.1=Ä:=ZN<|á.mpr #[p,m,rfl]
def w5(n:dB H c)(h:H a=À o):a ∉ c.map (·.1):=λm=>by
 let#[p,b,rfl]:=á.mp m;rw[n p b] at h;cases h
def _root_.Vc.Gr.du(g:Gr F H F1 H1)(n:dB H c)(g':Gr F1 (du (c.map (·.1)) H1) F' H'):Gr F H F' H':=
 Gr.of #[λa u e=>g'.h a u<|rO (w5 n e)<|g.h a u e,g.f.trans g'.f,g'.s,λa u e z=>by
  cases q:F1 a with
  |some y=>show g.n a y q z
  |none=>
   have h:=g'.n a u e q;by_cases m:a∈c.map (·.1)
   .obtain⟨p,mp,rfl⟩:=á.mp m;show n p mp
   .unfold Vc.du at h;rw[au3 m] at h;show g.h.free h] (g'.fz g.z)
abbrev tI(q:Xv->Prop)(bf:iV)(a:cG):a6:=λj Q=>a j λb=>bf (cT b) (λt _=>Q t) q
abbrev y8(bf:gK)(a:cG):a6:=λj Q=>a j λb=>bf (cT b) λt _=>Q t
def GS{n:Nat}{z:Bool}{bf:iV}{O:TA}{N:cG}{R':St->XK}{q':Xv->Prop}(hE:∀(F:Hp)(B:Bool->Hp)(H:Hp)(G:St)(J:af),gu K k F B H G J->∀x A C,q' x->∀d,XF K A d x.f->Gr F H A C->R' G x.c d C)(hk:z=Â->k.z=Â)(hn:∀xs Q q,bf xs Q q->↑xs=n)(h:fF K k O N):br K k (DZ (iO K z 0 n bf) [] R' O) (tI q' bf N):=λF B H G J Q Q' c p q=>by
 show h F B H G J _ _ c p λw vs E I D p1 l=>?_
 rw[Ă];let#[cs,U,Y,a3,a4]:=l.r.split l.c;have hl:↑vs=n:=by rw[l.r.length,<- hn _ _ _ p1,n8]
 have hb:∀k,aF (B k) (du (D.map (·.1)) I):=λk a o e=>rO (w5 l.n<|c.b k a o e)<|l.g.h _ _<|c.b k a o e
 show#[hl,E,du (D.map (·.1)) I,cT w,cs,_,q',#[#[Bk l.g.s,Fz.refl E],λh=>l.g.fz<|c.z<|hk h,by rw[Æ,n8,l.r.length],?_,a3,λi p m=>zY<|Y i p m,a4,λi h=>au5 h<|aj0 i,λx _ A C h d y g=>hE F B H G J c x A C h d y<|l.g.du l.n g],p1,?_]
 .intro i t h;have hi:i<↑w:=by have:=(Á.mp h).1;rw[n8] at this;show this
  have e:∀(w:af)(i:Nat),(cT w)[i]?=w[i]?.map dn:=by
   intro w
   induction w with
   |nil=>intro i;rfl
   |cons x xs ih=>intro i;cases i with
    |zero=>rfl
    |succ j=>show ih j
  rw[e] at h;cases z:w[i]? with
  |none=>rw[z] at h;cases h
  |some u=>
   rw[z] at h;cases h;let#[v,b1,b2]:=U i u z;show .inr #[v,by rw[Î,b1];rfl,b2.dn (λk=>Le.of<|hb k) u]
 .intro A C G' J' cs' v t c' W r hc nw dj nl qt;show q t v A C c' qt #[l.g.du l.n W.g,r.base t nl,hc,λp m=>?_];have z:=nw p m;by_cases M:p.1∈D.map (·.1)
  .obtain⟨q,mq,e⟩:=á.mp M;have e:q.1=p.1:=e;rw[<- e];show l.n q mq
  .unfold du at z;rw[au3 M] at z;show l.g.h.free z
def TX{bf:gK}(a:z=Â->k.z=Â)(hn:∀xs Q,bf xs Q->↑xs=n)(h:fF K k ta pa):br K k (Eh (bU K z 0 n bf) [] E ta) (y8 bf pa):=
 GS (R':=λ_=>E) (q':=λ_=>False) (bf:=λxs Q _=>bf xs Q) (λ_ _ _ _ _ _ _ _ _ h=>h.elim) a (λxs Q _=>hn xs Q) h
abbrev mM(K:ar)(k:Md)(r:az->Hp->VK->Prop)(j:af->(ay)->Prop):Prop:=∀(F:Hp)(B:Bool->Hp)(H:Hp)(i:az)(h:af)(e:Cs)(Q:VK)(g:ay),aF F H->(∀k,aF (B k) H)->(k.z=Â->Fz S0 F)->Rs K F B h i e->aw F H e->j h g->
 (∀t v a b d,g t->Gr F H a b->R K a B t v d->aw a b d->(∀p∈d,H p.1=Ä\/p∈e)->Q v b)->r i H Q
abbrev pB(b:af->(ay)->Prop)(a:cG):a6:=λj Q=>a j λd=>b d Q
def JB(o:mM K k r pr)(h:fF K k ta pa):br K k (nJ r ta) (pB pr pa):=λF B H j i Q w c p q=>by
 show h F B H j i _ _ c p λE vs d l y p1 a=>?_
 show o d B l vs E y Q w a.g.s (λk=>(c.b k).trans a.g.h) (λh=>a.g.fz<|c.z h) a.r a.c p1 λt v e u A C g D x n=>?_
 show q t v e u A C #[a.g.trans' g,D,x,λp m=>?_];rcases n p m with z |z
 .show a.g.h.free z
 .show a.n p z
def Rs.one(r:Rs K F B [t] xs cs):∃v,xs=[v]/\R K F B t v cs:=by
 let#[v,r,c,d,b,a,e,rfl,rfl]:=r;rw[Ă] at a;show#[v,b,by rw[a];show e]
abbrev zx(ts:af)(Q:ay):Prop:=match ts with
 |[.int i]=>Q (.int (if i < 0 then -i else i))
 |_=>False
def AM:mM K k (λxs H Q=>∃i,xs=[.int i]/\Q (.int (if i<0 then -i else i)) H) zx:=λF B H xs g d Q a s b z r e p q=>by
 unfold zx at p;split at p
 .obtain⟨v,rfl,rfl,_⟩:=r.one;show#[_,rfl,q _ _ F H [] p `aj #[rfl,rfl] .nil λ_ m=>nomatch m]
 .show p.elim
end
structure QE(X:Cx)(k:Md)(e:đ)(pe:a6):Prop where
 h:∃te,PE X e te/\br X.K k te pe
structure QT(X:Cx)(k:Md)(e:đ)(pe:df):Prop where
 h:∃te,PT X e te/\gj X.K k te pe
structure QW(X:Cx)(k:Md)(e:đ)(pe:df):Prop where
 h:∃te,PW X e te/\gj X.K k te pe
structure QA(X:Cx)(k:Md)(es:bS)(pa:cG):Prop where
 h:∃ta,PA X es ta/\fF X.K k ta pa
structure QS(X:Cx)(k:Md)(lo:Nat)(st:ù)(ps:b8):Prop where
 h:∃ts,PS X st ts/\dh X.K k lo ts ps
structure QB(X:Cx)(k:Md)(lo:Nat)(sts:List ù)(ps:b8):Prop where
 h:∃ts,fV X sts ts/\dh X.K k lo ts ps
section
def qv(i:Nat)(b:do X.N[i]?=À x)(d:o9 X.env.scope x:=by first |show ϛ rfl |show ŵ (ϛ rfl) |show ŵ<|ŵ rfl)(hd: ~~~(dS x))(a: ~~~((x == ("__classdict__":Str))=Å)):QE X k `am (v9 i):=#[_,xA b d hd a,WL i]
def aD{i j}:QE X k (.Constant `aE j pos) (pC<|.int i):=#[_,Jh,WM]
def gm{i j}:QE X k (.Constant (.str i) j pos) (pC<|.str i):=#[_,Ji,WN]
def ft{i j}:QE X k (.Constant (.bool i) j pos) (pC<|.bl i):=#[_,LP,ZO]
def jz{j}:QE X k `cW (pC .aM):=#[_,Ye,WO]
def JC(v:V)(a:Gl X x)(hm:X.mg x=À u)(r:aH v u)(ht:∀F B,R X.K F B t v [])(hd: ~~~(dS x)):QE X k `am (pC t):=#[_,WV a hm r hd,r0 ht]
def qh(m:cw X (Ş op) r)(hs:eh X.K k r pr)(j:QE X k a pa)(l:QE X k b pb):QE X k `dK `dd:=by
 ∎;let#[n,g,i]:=j.h;let#[tb,d,e]:=l.h;∎;show#[_,LS m g d,xo hs i e]
def d8(d:QE X k a pa)(e:QE X k b pb):QE X k (.BinOp a .Add b pos) (p2 wb pa pb):=qh L5 XM d e
def qi(d:QE X k a pa)(e:QE X k b pb):QE X k (.BinOp a .Sub b pos) (p2 (jx (λ_ _=>True) λi j=>.int<|i - j) pa pb):=qh Yo XQ d e
def dC(d:QE X k a pa)(e:QE X k b pb):QE X k `dl (p2 wc pa pb):=qh L6 XN d e
def kh(d:QE X k a pa)(e:QE X k b pb):QE X k (.BinOp a .FloorDiv b pos) (p2 (jx eB λi j=>.int<|i.fdiv j) pa pb):=qh Up UI d e
def fW(d:QE X k a pa)(e:QE X k b pb):QE X k (.BinOp a .Mod b pos) (p2 (jx (λ_ j=>0<j) λi j=>.int<|i % j) pa pb):=qh Yp XR d e
def ia(e:QE X k a pa):QE X k (.UnaryOp .USub a pos) (p1 wd pa):=by
 let#[g,b,d]:=e.h;show#[_,LU Yr b,ZP XS d]
def a7(j:QE X k a pa)(l:QE X k b pb)(hs:Ec b:=by show λ_ _=>rfl)(m:X.A.units+1<ņ:=by assumption):QE X k `dG (p2 gM pa pb):=by
 ∎;let#[n,g,i]:=j.h;let#[tb,d,e]:=l.h;∎;show#[_,LY (Me m) g d hs,xo XP i e]
def fL(m:cw X `cY r)(hs:eh X.K k r pr)(j:QE X k a pa)(l:QE X k b pb)(hm:ϳ op b=Å:=by with_unfolding_all rfl):QE X k (.Compare a [op] [b] pos) `dd:=by
 ∎;let#[n,g,i]:=j.h;let#[tb,d,e]:=l.h;∎;show#[_,W4 m g d hm,xo hs i e]
def b7(m:cw X `cY r)(hs:eh X.K k r pr)(j:QE X k a pa)(l:QE X k b pb)(hm:ϳ op b=Å:=by with_unfolding_all rfl):QT X k (.Compare a [op] [b] pos) (pT<|p2 pr pa pb):=by
 ∎;let#[n,g,i]:=j.h;let#[tb,d,e]:=l.h;∎;show#[_,Ib m g d hm,GR<|xo hs i e]
def fE(h:QE X k e pe)(he:∀whole,ak8 e X.env whole=(do let v <- whole;ae3 e.pos;holding [v] `cj):=by intro _;rfl):QT X k e (pT pe):=by
 let#[d,a,b]:=h.h;show#[_,Yf a he,JA b]
def ib(h:QT X k e pe):QT X k `ds (zt pe):=by
 let#[d,a,b]:=h.h;show#[_,Yi a,XX b]
def QW.t(h:QW X k e pe):QT X k e pe:=by
 let#[d,a,b]:=h.h;show#[_,a.pt,b]
def p0(h:QT X k e pe):QW X k (.BoolOp .And [e] pos) pe:=by
 let#[d,a,b]:=h.h;show#[_,WX a,b]
def kd(h:QT X k e pe):QW X k (.BoolOp .Or [e] pos) pe:=by
 let#[d,a,b]:=h.h;show#[_,Yg a,b]
def qa(h:QT X k e pe)(h':QW X k (.BoolOp .And (f::r) pos) pf):QW X k (.BoolOp .And (e::f::r) pos) (zi pe pf):=by
 ∎;let#[i,d,g]:=h.h;let#[j,a,b]:=h'.h;∎;show#[_,Yh d a,XW g b]
def jA(h:QT X k e pe)(h':QW X k (.BoolOp .Or (f::r) pos) pf):QW X k (.BoolOp .Or (e::f::r) pos) (B8 pe pf):=by
 ∎;let#[i,d,g]:=h.h;let#[j,a,b]:=h'.h;∎;show#[_,LQ d a,Y2 g b]
def kK{op}(h:QE X k e pe):QE X k (.BoolOp op [e] pos) pe:=by
 let#[d,a,b]:=h.h;show#[_,Yj a,b]
def m4(h:QE X k e pe)(h':QE X k (.BoolOp .And (f::r) pos) pf):QE X k (.BoolOp .And (e::f::r) pos) (yY pe pf):=by
 ∎;let#[i,d,g]:=h.h;let#[j,a,b]:=h'.h;∎;show#[_,Yk d a,TN g b]
def uU(h:QE X k e pe)(h':QE X k (.BoolOp .Or (f::r) pos) pf):QE X k (.BoolOp .Or (e::f::r) pos) (zu pe pf):=by
 ∎;let#[i,d,g]:=h.h;let#[j,a,b]:=h'.h;∎;show#[_,LR d a,XY g b]
def Y4(h:QE X k e pe):QE X k `ds (yZ pe):=by
 let#[d,a,b]:=h.h;show#[_,Yl a,TQ b]
def xH{pt:df}(o:QT X k c pt)(m:QE X k a pa)(n:QE X k b pb):QE X k `ec (B6 pt pa pb):=by
 ∎;let#[r,j,l]:=o.h;let#[q,g,i]:=m.h;let#[tb,d,e]:=n.h;∎;show#[_,Ti j g d,XZ l i e]
def aA:QA X k [] wa:=#[_,mz,HJ]
def ak(h:QE X k a pa)(h':QA X k es ps)(hs:do ew a es X.env):QA X k (a::es) (yW pa ps):=by
 ∎;let#[i,e,g]:=h.h;let#[j,b,d]:=h'.h;∎;show#[_,ll e b hs,UH g d]
def gn{x1}(h:QA X k es ps):QE X k `ee (zg ps):=by
 let#[d,a,b]:=h.h;show#[_,Yv a,XH b]
def eZ(h:QA X k es ps):QE X k (.List es pos) (zh ps):=by
 let#[d,a,b]:=h.h;show#[_,Yw a,XI b]
def dN{r:az->Hp->VK->Prop}{b:af->(ay)->Prop}{id:String}{x:Str}{p:Pos}{e:đ}{es:bS}{ps:cG}(j:bQ X `aO r)(m:mM X.K k r b)(hm:X.mg x=Ä)(i:QA X k (e::es) ps)(l:do Gl X x)(n:do Ō x=À `aO)(hn: ~~~(x≠"__name__"))(a: ~~~(dS x))(he:do ew e es X.env)(hpl:do gf pos es X.env):
  QE X k (.Call `aN (e::es) [] pos) (pB b ps):=by
 let#[o,d,g]:=i.h;show#[_,Ts j l hm n d hn a he hpl,JB m g]
def cA:QB X k lo [] y6:=#[_,WY,TR]
def aK(h:QS X k lo st p)(h':QB X k lo r q):QB X k lo (st::r) (we p q):=by
 ∎;let#[g,d,e]:=h.h;let#[i,a,b]:=h'.h;∎;show#[_,Ac d a,X1 e b]
def aV(h:QS X k lo st p):QB X k lo [st] p:=by
 let#[d,a,b]:=h.h;show#[_,uf a,b]
abbrev D0:b8:=λ_ _=>False
def uj:QS X k lo st D0:=#[_,Tj,λ_ _ _ _ _ _ _ _ _ _ _ h _=>h]
def Bb(h:QE X k e pe)(hs:do Ĭ e Ä pos.line X.env=pure Å):QS X k lo `cX (y7 pe):=by
 let#[d,a,b]:=h.h;show#[_,wR a hs,TU b]
def bI(h:QE X k e pe):QS X k lo `bW (zw pe):=by
 let#[d,a,b]:=h.h;show#[_,Jj a,X4 b]
def cB(l:QT X k e pe)(h:QB X k lo s1 p)(h':QB X k lo s2 q):QS X k lo (.If e s1 s2 pos) (wg pe p q):=by
 ∎;let#[n,i,j]:=l.h;let#[m,d,g]:=h.h;let#[tb,a,b]:=h'.h;∎;show#[_,Ki i d a,Y3 j g b]
def BL(i:QT X k e pe)(h:QB X k lo s1 p)(hp:ac3 `aa X.A X.env X.xe:=by first |show ag0 |show fw rfl):QS X k lo (.While e s1 [] pos) (E7 pe p):=by
 ∎;let#[l,d,g]:=i.h;let#[j,a,b]:=h.h;∎;show#[_,Tn hp d a,X5 g b]
def iD(i:Nat)(h:QE X k e pe)(d:X.N.Nodup:=by assumption)(l: ~~~(lo<=i))(j:do X.N[i]?=À x)(m:Loc X.env.scope x:=by first |show ϛ rfl |show ŵ rfl)(hs:do Ĭ e (À<|.Name x pos') pos.line X.env=pure Å)(g:kX X x:=by first |show .inl rfl |show .inr rfl |assumption):
  QS X k lo (.Assign [.Name x pos'] e pos) (zv i pe):=by
 let#[n,a,b]:=h.h;show#[_,uD d j m a hs g,X3 l b]
end
section
def cu{bf:gK}(F:iQ K x qual st f fd)(S:bT N ps `aY)(hn:↑ps=n)(d:lo<=n)(a:∀(bK:au)(A:Ĉ)(outer:cL)(s:ao)(H:Hp)(E:XK),bD m (A.deeper<|ė qual (bC st) ⇑s f bK)->(A.deeper<|ė qual (bC st) ⇑s f bK).units+1<ņ->N.Nodup->
   ∃pb,QB (kB bJ P w K mg base N qual `aY f bK A outer s H E).sC (Md.base z) lo `bI pb/\∀xs b,xs.length=n->bf xs b->pb { nx:=λj=>b .aM j,rt:=b } (xs++Ò (↑N - n) .aq)):
  aG P w K mg base bJ (m+1) f fd ps (bU K z lo n bf):=X6 F S hn d λbK A outer s H E e=>by
 ∎;let#[pb,h,q]:=a bK A outer s H E e (Kn e) S.nd;let#[l,g,i]:=h.h;∎;show#[l,pb,g,i,q]
def r9{bf:iV}(F:iQ K x qual st f fd)(S:bT N ps `aY)(hn:↑ps=n)(d:lo<=n)(a:∀(bK:au)(A:Ĉ)(outer:cL)(s:ao)(H:Hp)(E:XK)(q:Xv->Prop),bD m (A.deeper<|ė qual (bC st) ⇑s f bK)->(A.deeper<|ė qual (bC st) ⇑s f bK).units+1<ņ->N.Nodup->
   ∃pb,QB (kB `aZ P w K mg base N qual `aY f bK A outer s H E) #[z,λ_=>E,q] lo `bI pb/\∀xs b,xs.length=n->bf xs b q->pb { nx:=λj=>b .aM j,rt:=b } (xs++Ò (↑N - n) .aq)):
  aG P w K mg base `aZ (m+1) f fd ps (iO K z lo n bf):=TV F S hn d λbK A outer s H E q e=>by
 ∎;let#[pb,h,q]:=a bK A outer s H E q e (Kn e) S.nd;let#[l,g,i]:=h.h;∎;show#[l,pb,g,i,q]
end
section
def lay:∀(c:Cs){F:Hp},Gr Fb Hb F H->aw F H c->dB Hb c->Plain c->∃i,Gr Fb Hb i H/\(∀S,Fz S F->Fz S i)/\aF F i/\(∀p∈c,i p.1=À p.2)/\∀a,a ∉ c.map (·.1)->i a=F a
 |[],F,g,_,_,_=>#[F,g,λ_ h=>h,aF.refl F,λ_ m=>(nomatch m),λ_ _=>rfl]
 |(a,o)::c,F,g,hc,n,pl=>by
  let#[v,A,z1,D,q,l]:=Vc.aE g.toGr0 g.z (n _<|.head _) (hc.f _<|.head _) (hc.h _<|.head _)<|pl _<|.head _;have nd:=hc.nd;rw[è,Ĕ] at nd;have j:aw v H c:=#[λp m=>hc.h p<|.tail _ m,λp m=>by rw[l p.1<|λz=>nd.1<|á.mpr #[p,m,z]];show hc.f p<|.tail _ m,nd.2];let#[w,B,z2,r,y,C]:=lay c #[A,z1] j (λp m=>n p<|.tail _ m) λp m=>pl p<|.tail _ m
  show#[w,B,λS h=>z2 S λb x u e=>?_,D.trans r,λp m=>?_,λb d=>?_]
  .by_cases d:b=a
   .subst d;rw[q] at e;show au5 (Þ e)<|pl _ (.head _) x u
   .rw[l b d] at e;show h b x u e
  .cases m with
   |head=>show r _ _ q
   |tail _ m=>show y p m
  .rw[è,ä] at d;rw[C b λz=>d<|.inr z,l b λz=>d<|.inl z]
def bg.lay{c:Cs}(W:bg K k lo us Fb Hb F H G J cs)(w:aw F H c)(n:dB Hb c)(pl:Plain c)(d:∀j,∀p∈cs j,∀q∈c,p.1≠q.1):∃a,bg K k lo us Fb Hb a H G J cs/\aF F a/\∀p∈c,a p.1=À p.2:=by
 let#[o,u,z1,b,r,y]:=Pu.lay c W.g w n pl;show#[o,#[u,λh=>z1 _<|W.z h,W.l,λi t h=>(W.e i t h).imp id λ⟨v,h1,h2⟩=>#[v,h1,h2.mo (Le.of b) (λ_=>Le.refl _) t],λi=>#[(W.c i).h,λp m=>?_,(W.c i).nd],W.n,W.d,W.p,W.x],b,r];rw[y p.1 λz=>?_]
 .show (W.c i).f p m
 .obtain⟨q,mq,e⟩:=á.mp z;show d i p m q mq e.symm
def bg.fresh{t:Tr}{v:V}{c:Cs}{B:Bool->Hp}(W:bg K k lo us Fb Hb F H i G cs)(o:Out K F B H F' H' t v c):dB Hb c/\∀j,∀p∈cs j,∀q∈c,p.1≠q.1:=
 #[λp m=>W.g.h.free<|o.n p m,λj p a q b e=>by
  have:=(W.c j).h p a;rw[e,o.n q b] at this;cases this]
def bg.outF{i:Nat}{t:Tr}{v:V}{c:Cs}(W:bg K k lo us Fb Hb F H j G cs)(o:Out K F `cF H F' H' t v c)(q:lo<=i)(n:bX t=Â):
  ∃a b,bg K k lo us Fb Hb a H' (j.set i<|À v) (G.set i<|aE t) b:=by
 ∎;let#[u,h]:=W.fresh o;let#[d,e,w,l]:=(W.gr o.g).lay o.c u `cf h;∎;show#[d,_,e.set q ((R.low (B':=λ_=>Hb) t n rfl o.r).aE (Le.of w) t l) .nil .nil λ_ _ _ _ _ m=>nomatch m]
def bg.held{t:Tr}{v:V}{c:Cs}(W:bg K k lo us Fb Hb F H j i cs)(o:Out K F `cF H F' H' t v c)(n:bX t=Â):
  ∃a,bg K k lo us Fb Hb a H' j i cs/\R K a (λ_=>Hb) `bj v []:=by
 ∎;let#[l,e]:=W.fresh o;let#[b,d,m,h]:=(W.gr o.g).lay o.c l `cf e;∎;show#[b,d,(R.low (B':=λ_=>Hb) t n rfl o.r).aE (Le.of m) t h]
abbrev rl(i:Nat)(a:a6):b8:=λD j=>a `af λt=>bX t=Â/\D.nx (j.set i<|aE t)
def Ai(l:lo<=i)(h:br K k te pe):dh K k lo (mW te<|kA i) (rl i pe):=λus r d F H j G u D m W p L=>by
 show h F `df H j _ _ _ W.e8 p λt v n b c q o=>?_
 let#[a,g,e]:=W.outF o l q.1;show L.nx a b _ _ _ e q.2
nonrec abbrev eW:=Tr->af->(aB)->Prop
abbrev pL(K:ar)(k:Md)(lo:Nat)(m:TG)(pg:eW):Prop:=∀(us:az)(d a F H:Hp)(j:St)(i:af)(l:Nat->Cs)(x:V)(t:Tr)(Q:St->Hp->Prop)(e:aB),bg K k lo us d a F H j i l->R K F (λ_=>a) t x []->pg t i e->(∀h g b,bg K k lo us d a F H h g b->e g->Q h H)->m x j H Q
abbrev qD(i:Nat):eW:=λt j Q=>Q<|j.set i t
def Y5(a:lo<=i):pL K k lo (kA i) (qD i):=λus b d F H j G g x t Q e W r p q=>q _ _ _ (W.set a r .nil .nil λ_ _ _ _ _ m=>nomatch m) p
abbrev tP(K:ar)(k:Md)(lo:Nat)(o:o8)(pg:af->af->(aB)->Prop):Prop:=∀(us:az)(d a F H:Hp)(j:St)(i:af)(n:Nat->Cs)(m:az)(l:af)(Q:St->Hp->Prop)(e:aB),bg K k lo us d a F H j i n->Rs K F (λ_=>a) l m []->pg l i e->(∀h g b,bg K k lo us d a F H h g b->e g->Q h H)->o m j H Q
abbrev pJ:af->af->(aB)->Prop:=λa j Q=>match a with |[]=>Q j |_=>False
abbrev pF(pg:eW)(b:af->af->(aB)->Prop):af->af->(aB)->Prop:=λd j Q=>match d with |t::r=>pg t j λa=>b r a Q |[]=>False
def Se:tP K k lo zm pJ:=λus b d F H j i a h g Q e W r p q=>by
 unfold pJ at p;split at p
 .show#[r.1,q j i a W p]
 .show p.elim
def QX(h:pL K k lo tg pg)(h':tP K k lo tr pr):tP K k lo (yT tg tr) `cQ:=λus b g F H j i n z y Q l W r p q=>by
 unfold pF at p;split at p
 .obtain⟨v,w,c,d,h1,h2,h3,h4⟩:=r;have e:=Đ.mp h2.symm;rw[e.1] at h3;rw[e.2] at h4;show#[v,w,h1,h us b g F H j i n v _ _ _ W h3 p λu o a m x=>h' us b g F H u o a w _ Q l m h4 x q]
 .show p.elim
abbrev nI(n:Nat)(b:af->af->(aB)->Prop):eW:=λt j Q=>match t with |.aJ a=>↑a=n/\b a j Q |_=>False
def Y6(h:tP K k lo tr pr):pL K k lo (zo K n tr) `dt:=λus b d F H j i l x t Q e W r p q=>by
 unfold nI at p;split at p
 .obtain⟨a,vs,rfl,h1,h2⟩:=r.fx W.g.s;show#[a,vs,rfl,h1,h2.length.trans p.1,h us b d F H j i l vs _ Q e W h2 p.2 q]
 .show p.elim
abbrev zy(a:a6)(pg:eW):b8:=λD j=>a `af λt=>bX t=Â/\pg `bj j D.nx
def X7(h:br K k te pe)(r:pL K k lo tg pg):dh K k lo (mW te tg) (zy pe pg):=λus g e F H j i n D y W p L=>by
 show h F (Bq e H) H j _ _ _ W.e8 p λt v z d c q o=>?_
 let#[b,m,r2]:=W.held o q.1;show r us g e b d j i n v _ _ _ m r2 q.2 λw u a l x=>L.nx b d w u a l x
abbrev zA(i j:Nat)(d:cG):b8:=λD G=>d `ey λe=>match e with |[a,b]=>bX a=Â/\bX b=Â/\D.nx ((G.set i<|aE a).set j<|aE b) |_=>False
def X8{i j:Nat}{u:TA}{d:cG}(B:lo<=i)(C:lo<=j)(h:fF K k u d):dh K k lo (EO i j u) (zA i j d):=λus U a F H G J z D O W p L=>by
 show h F (Bq a H) H G _ _ _ W.e8 p λY vs Q x c q o=>?_
 split at q
 .obtain⟨v,r,c1,d1,h1,h2,h3,v',r',c2,d2,g1,g2,g3,g4,g5⟩:=o.r;have M:dB a c:=λp m=>W.g.h.free<|o.n p m
  have A:∀j,∀p∈z j,∀q∈c,p.1≠q.1:=λj p E q I e=>by
   have:=(W.c j).h p E;rw[e,o.n q I] at this;cases this
  have N:Plain c:=Rs.plain _ o.r;let#[w,y,l,b]:=(W.gr o.g).lay o.c M N A;show#[v,v',by rw[h1,g1,g4],L.nx w x _ _ _ ((y.set B ((R.low (B':=λ_=>a) _ q.1 rfl h3).aE (Le.of l) _ λp m=>b p (by rw[h2];show É.mpr<|.inl m)) .nil .nil λ_ _ _ _ _ m=>nomatch m).set C ((R.low (B':=λ_=>a) _ q.2.1 rfl g3).aE (Le.of l) _ λp m=>b p (by rw[h2,g2];show É.mpr<|.inr<|É.mpr<|.inl m)) .nil .nil λ_ _ _ _ _ m=>nomatch m) q.2.2]
 .show q.elim
end
abbrev Nf(J:It)(n:Nat)(l:Hp->Prop)(Y:Nat->Hp->V->Hp->Prop):Prop:=∀(g:TG)(tb:TS)(D:Ends)(j:St)(H:Hp)(Pv:Nat->St->Hp->Prop),Pv 0 j H->(∀i j H,i<=n->Pv i j H->l H)->
 (∀i x j H a,i<n->Pv i j H->Y i H x a->g x j a λd b=>tb { D with nx:=Pv<|i+1,ct:=Pv<|i+1,bk:=D.nx } d b)->(∀j H,Pv n j H->D.nx j H)->
 ∃W:Nat->Nat->St->Hp->Prop,(∃m,W 0 m j H)/\∀i m j H,W i m j H->
  (J.stop i H/\D.nx j H)\/(J.go i H/\∃N:St->Hp->Prop,(∀e a,N e a->∃h,h<m/\W (i+1) h e a)/\∀x a,J.nL i H x a->g x j a λd b=>tb { D with nx:=N,ct:=N,bk:=D.nx } d b)
def BM{j:Type}{xs:List j}{i:Nat}{x:j}(h:xs[i]?=À x):i<↑xs:=(Á.mp h).1
structure gJ(J:It)(n:Nat)(Kp:Hp->Prop)(Y:Nat->Hp->V->Hp->Prop):Prop where
 go:∀i H,i<n->Kp H->J.go i H
 st:∀H,Kp H->J.stop n H
 yl:∀i H x H',i<n->Kp H->J.nL i H x H'->Y i H x H'
def gJ.runs(o:gJ J n Kp Y):Nf J n Kp Y:=λg tb D j H Pv l h q hd=>by
 show#[λi m j H=>m=n - i/\i<=n/\Pv i j H,#[n,by simp,ľ _,l],?_];rintro i m j H ⟨rfl,d,p⟩;by_cases a:i<n
 .show .inr #[o.go i H a<|h i j H d p,Pv<|i+1,λu b r=>#[n - (i+1),⋯,rfl,a,r],λx b y=>q i x j H b a p<|o.yl i H x b a (h i j H d p) y]
 .have e:i=n:=⋯
  subst e;show .inl #[o.st H<|h i j H d p,hd j H p]
def sd{j:Type}{xs:List j}{i:Nat}(h:i<↑xs):∃x,xs[i]?=À x:=#[_,Ð h]
def X9{K:ar}{a:ai}{xs:az}:gJ `ed ↑xs (λH=>bH K H a xs) (λi H x b=>xs[i]?=À x/\b=H):=
 #[λi H h q=>by let#[x,e]:=sd h;show#[xs,x,q,e],λH q=>#[xs,q,Ñ _],λi H x b h q y=>#[y.2 xs q,y.1]]
def TY:gJ (o3 l n) n (λ_=>True) (λi H x a=>x=.int (l+i)/\a=H):=#[λi H h _=>h,λH _=>Ñ _,λi H x a h _ y=>#[y.2,y.1]]
def Rx:gJ (vj l c n) n (λ_=>True) (λi H x a=>x=.int (l+i*c)/\a=H):=#[λi H h _=>h,λH _=>Ñ _,λi H x a h _ y=>#[y.2,y.1]]
def Ya{K:ar}{a:ai}{xs:az}:gJ `ek ↑xs (λH=>bH K H a xs) (λi H y b=>∃x p,xs[i]?=À x/\y=.ref p/\H p=Ä/\b=aQ H p (.aJ [.int i,x])):=
 #[λi H h q=>by let#[x,e]:=sd h;show#[xs,x,q,e],λH q=>#[xs,q,Ñ _],λi H y b h q z=>by let#[p,x,d,g,j,l]:=z;show#[x,p,j xs q,d,g,l]]
def Y7{K:ar}{a b:ai}{xs ys:az}:gJ `eu (min ↑xs ↑ys) (λH=>bH K H a xs/\bH K H b ys) (λi H z d=>∃x y p,xs[i]?=À x/\ys[i]?=À y/\z=.ref p/\H p=Ä/\d=aQ H p (.aJ [x,y])):=
 #[λi H h q=>by let#[x,e]:=sd (xs:=xs) (i:=i) ⋯;let#[y,g]:=sd (xs:=ys) (i:=i) ⋯;show#[xs,ys,x,y,q.1,q.2,e,g],λH q=>#[xs,ys,q.1,q.2,⋯],λi H z d h q y=>by let#[p,x,y,j,l,m,n,o]:=y;show#[x,y,p,m xs q.1,n ys q.2,j,l,o]]
abbrev Src(K:ar)(B:Bool->Hp)(F:Hp)(J:It)(ts:af):Prop:=∃(g:Hp->Prop)(Y:Nat->Hp->V->Hp->Prop),gJ J ↑ts g Y/\(∀b a,Le F b->aF b a->(∀k,aF (B k) a)->g a)/\
 ∀i t b a x e,ts[i]?=À t->Le F b->aF b a->(∀k,aF (B k) a)->Y i a x e->∃d,Gr b a d e/\R K d B t x []
section
nonrec abbrev iR:=af->(af->Bool->Prop)->Prop
abbrev mn(K:ar)(k:Md)(n:TI)(m:iR):Prop:=∀(F:Hp)(B:Bool->Hp)(H:Hp)(j:St)(i:af)(h:It->Hp->Prop)(g:af->Bool->Prop),gu K k F B H j i->m i g->
 (∀b l J a e,g b l->Gr F H a e->Src K B a J b->(l=Â->∀d:Bool->Hp,d Å=B Å->Src K d a J b)->h J e)->n j H h
def _root_.Vc.Gr.base(g:Gr Fb Hb F1 H1)(g':Gr F1 Hb F H):Gr Fb Hb F H:=
 Gr.of #[g'.h,g.f.trans g'.f,g'.s,λa u e z=>by
  cases q:F1 a with
  |some w=>show g.n a w q z
  |none=>show g'.n a u e q] (g'.fz g.z)
def bg.base(a:bg K k lo us Fb Hb F1 H1 j0 i0 cs0)(W:bg K k lo us F1 Hb F H j i cs):bg K k lo us Fb Hb F H j i cs:=#[a.g.base W.g,W.z,W.l,W.e,W.c,W.n,W.d,W.p,a.x]
def bg.rebase(W:bg K k lo us Fb Hb F H j i cs):bg K k lo us F Hb F H j i cs:=#[#[#[W.g.h,aF.refl F,W.g.s,λa u e z=>by rw[e] at z;cases z],Fz.refl F],W.z,W.l,W.e,W.c,W.n,W.d,W.p,λx o b m q d y g=>W.x x o b m q d y<|W.g.base g]
def Lk.rebase(b:bg K k lo us Fb Hb F1 H1 j0 i0 cs0)(L:Lk K k lo us Fb Hb D D'):Lk K k lo us F1 Hb D D':=
 #[λF H j i a W=>L.nx F H j i a<|b.base W,λF H j i a v t c W=>L.rt F H j i a v t c<|b.base W,λF H j i a W=>L.bk F H j i a<|b.base W,λF H j i a W=>L.ct F H j i a<|b.base W]
abbrev zB(e:iR)(pg:eW)(pb:b8):b8:=λD j=>e `af λa d=>d=Â/\∃I:Nat->aB,I 0 j/\(∀i t j,a[i]?=À t->I i j->pg t j λb=>pb { D with nx:=I<|i+1,ct:=I<|i+1,bk:=D.nx } b)/\∀j,I ↑a j->D.nx j
def Yb(d:mn K k wi pi)(Q:pL K k lo tg pg)(O:dh K k lo tb pb):dh K k lo (zp wi tg tb) (zB pi pg pb):=λus Fb b F H j G a D D' W p L=>by
 show d F (Bq b H) H j _ _ _ W.e8 p λA nl J e C q M _ u=>?_
 have w:=W.gr M;∎;let#[o,I,U,step,n]:=q;let#[Kp,Y,r,kp,yl]:=u o (λ_=>b) rfl;∎;have run:=r.runs;have l:=L.rebase w;show run tg tb D j C (λi j H=>∃F G a,bg K k lo us e b F H j G a/\I i G) #[e,G,a,w.rebase,U] ?_ ?_ ?_
 .rintro i j H d ⟨F,G,a,W,_⟩;show kp F H (Le.of W.g.f) W.g.s λ_=>W.g.h
 .rintro i x j H H' d ⟨F,G,a,W,ii⟩ y;have z:A[i]?=À (A[i]'d):=Ð d;let#[v,N,r2]:=yl i _ F H x H' z (Le.of W.g.f) W.g.s (λ_=>W.g.h) y;show Q us e b v H' j G a x _ _ _ (W.gr N) r2 (step i _ G z ii) λj' B m E p'=>?_
  show O us e b v H' j' B m _ _ E p' #[λF H j G a W q=>#[F,G,a,W,q],l.rt,l.nx,λF H j G a W q=>#[F,G,a,W,q]]
 .rintro j H ⟨F,G,a,W,q⟩;show l.nx F H j G a W<|n G q
def Y8(l:Le F F')(s:aF F' H')(h:bH K F a vs):bH K H' a vs:=s.seq<|l.ah h
def mC(r:R K F B `az v []):∃a vs,v=.ref a/\Rs K F B xs vs []/\∀g d,Le F g->aF g d->(∀k,aF (B k) d)->bH K d a vs:=by
 cases f with
 |f=>let#[_,a,vs,h,e,i]:=r;show#[a,vs,h,i,λg d l s b=>Y8 l s e]
 |l q=>let#[_,a,vs,h,e,i]:=r;show#[a,vs,h,i,λg d l s b=>(b q).seq e]
 |o=>let#[a,vs,j,h,e,i]:=r;cases e
def Rs.cZ{xs:af}{vs:az}{i:Nat}{t:Tr}(r:Rs K F B xs vs [])(h:xs[i]?=À t):∃u,vs[i]?=À u/\R K F B t u []:=by
 let#[u,c,b,a,d]:=r.at h;have e:c=[]:=List.eq_nil_iff_forall_not_mem.mpr λp m=>nomatch d p m
 rw[e] at a;show#[u,b,a]
def GW{a:ai}{f:Fl}{xs:af}(r:R K F B `az `ax []):Src K B F `ed xs:=by
 let#[w,vs,n,d,o]:=mC r;cases n;show#[_,_,d.length ▸ X9 (K:=K) (a:=a) (xs:=vs),o,λi t g v x h q l s b y=>?_];∎;let#[e,rfl]:=y;let#[u,j,m]:=d.cZ q;∎;rw[j] at e;cases e;show#[g,Gr.aO s,m.mo l (λ_=>Le.refl _) t]
def GX{a:ai}{f:Fl}{xs:af}(r:R K F B `az `ax []):Src K B F `ek (xs.mapIdx λi x=>.aJ [.int i,x]):=by
 let#[E,vs,v,e,w]:=mC r;cases v;show#[_,_,(by rw[as6,<- ↑e];show Ya (K:=K) (a:=a) (xs:=vs)),w,λi t C D x m d l s b y=>?_];let#[z,p,h,rfl,A,rfl]:=y;rw[ad1] at d;cases q:xs[i]? with
 |none=>rw[q] at d;cases d
 |some u=>
  rw[q] at d;cases d;let#[G,n,o]:=e.cZ q;rw[n] at h;cases h;let#[j,g,r2,_]:=rY (xs:=[.int i,u]) (cs:=[]) s #[.int i,[z],[],[],rfl,rfl,#[rfl,rfl],z,[],[],[],rfl,rfl,o.mo l (λ_=>Le.refl _) u,rfl,rfl] .nil A;show#[j,g,r2]
def HK{a e:ai}{f I:Fl}{xs ys:af}(r:R K F B `az `ax [])(Y:R K F B (.ah I ys) `bk []):Src K B F (vk K a e) (xs.zipWith (λx y=>.aJ [x,y]) ys):=by
 ∎;let#[_,vs,Q,n,U]:=mC r;let#[_,us,N,m,O]:=mC Y;∎;cases Q;cases N;show#[(λH=>bH K H a vs/\bH K H e us),_,(by rw[ar2,<- ↑n,<- ↑m];show Y7 (K:=K) (a:=a) (b:=e) (xs:=vs) (ys:=us)),λh j l s b=>#[U h j l s b,O h j l s b],λi t h j x D d l s b y=>?_];let#[z,A,p,v,w,rfl,y3,rfl]:=y;rw[List.getElem?_zipWith] at d;cases q:xs[i]? with
 |none=>rw[q] at d;cases d
 |some u=>
  cases q':ys[i]? with
  |none=>rw[q,q'] at d;cases d
  |some o=>
   rw[q,q'] at d;cases d;∎;let#[u',E,G]:=n.cZ q;let#[α,J,M]:=m.cZ q';∎;rw[E] at v;rw[J] at w;cases v;cases w;let#[C,g,r2,_]:=rY (xs:=[u,o]) (cs:=[]) s #[z,[A],[],[],rfl,rfl,G.mo l (λ_=>Le.refl _) u,A,[],[],[],rfl,rfl,M.mo l (λ_=>Le.refl _) o,rfl,rfl] .nil y3;show#[C,g,r2]
def F7{l c:Int}{n:Nat}:Src K B F (vj l c n) ((È n).map λ(i:Nat)=>.int<|l+i*c):=by
 show#[_,_,(by rw[Æ,Ü];show Rx (l:=l) (c:=c) (n:=n)),λ_ _ _ _ _=>ø,λi t e h x g a j s b y=>?_];let#[rfl,rfl]:=y;rw[Î] at a;cases q:(È n)[i]? with
 |none=>rw[q] at a;cases a
 |some u=>
  rw[q] at a;cases a;have d:=BM q;rw[Ü] at d;rw[ò d] at q;cases q;show#[e,Gr.aO s,rfl,rfl]
def zZ{l:Int}{n:Nat}:Src K B F (o3 l n) ((È n).map λ(i:Nat)=>.int<|l+i):=by
 show#[_,_,(by rw[Æ,Ü];show TY (l:=l) (n:=n)),λ_ _ _ _ _=>ø,λi t e h x g a j s b y=>?_];let#[rfl,rfl]:=y;rw[Î] at a;cases q:(È n)[i]? with
 |none=>rw[q] at a;cases a
 |some u=>
  rw[q] at a;cases a;have d:=BM q;rw[Ü] at d;rw[ò d] at q;cases q;show#[e,Gr.aO s,rfl,rfl]
def Out.held{t:Tr}{v:V}{c:Cs}(o:Out K F B H F' H' t v c):∃a,Gr F H a H'/\R K a B `bj v []:=by
 let#[b,e,_,h,d,_]:=Pu.lay c o.g o.c o.n<|o.r.plain t;show#[b,e,o.r.aE (Le.of h) t d]
def fj.held{t:af}{v:az}{c:Cs}(o:fj K F B H F' H' t v c):∃a,Gr F H a H'/\Rs K a B (bj t) v []:=by
 let#[b,e,_,h,d,_]:=Pu.lay c o.g o.c o.n<|o.r.plain t;show#[b,e,o.r.aE (Le.of h) t d]
abbrev iW(t:Tr)(Q:aB):Prop:=match t with |.ah _ a=>Q a |_=>False
def uk{Q:aB}(h:iW t Q):∃f xs,t=.ah f xs/\Q xs:=by
 unfold iW at h;split at h
 .show#[_,_,rfl,h]
 .show h.elim
abbrev Cg(a:a6):iR:=λj Q=>a j λt=>iW `bj λb=>Q b<|bX<|aE t
def Ry(h:br K k te pe):mn K k (Es K te) (Cg pe):=λF B H j i x w c p q=>by
 show h F B H j i _ _ c p λt v u l y p1 o=>?_
 ∎;let#[g,d,r2]:=o.held;let#[f,z,e,p1]:=uk p1;∎;rw[e] at r2 p1;let#[a,vs,rfl,_,n]:=mC r2;show#[a,rfl,#[vs,n g l `bn d.s λk=>(c.b k).trans d.h],q _ _ _ g l p1 d (GW r2) λhn r m=>GW<|R.low _ hn m.symm r2]
abbrev pM(ts:af)(Q:ay):Prop:=match ts with |[t]=>Q t |_=>False
def HL{Q:ay}(h:pM ts Q):∃t,ts=[t]/\Q t:=by
 unfold pM at h;split at h
 .show#[_,rfl,h]
 .show h.elim
abbrev Cf(a:cG):iR:=λj Q=>a j λb=>pM b λt=>iW `bj λd=>Q (d.mapIdx λi x=>.aJ [.int i,x])<|bX<|aE t
def Rz(h:fF K k ta pa):mn K k (En K ta) (Cf pa):=λF B H j i C A c p q=>by
 show h F B H j i _ _ c p λE vs z m D p1 o=>?_
 ∎;let#[t,rfl,p1]:=HL p1;let#[v,rfl,x]:=o.r.one;let#[l,d,r2]:=Out.held #[o.g,x,o.c,o.n];let#[f,G,e,p1]:=uk p1;∎;rw[e] at r2 p1;let#[a,vs,rfl,_,w]:=mC r2;show#[a,rfl,#[vs,w l m `bn d.s λk=>(c.b k).trans d.h],q _ _ _ l m p1 d (GX r2) λhn y u=>GX<|R.low _ hn u.symm r2]
abbrev nZ(ts:af)(Q:Tr->ay):Prop:=match ts with |[t,u]=>Q t u |_=>False
def Yc{Q:Tr->ay}(h:nZ ts Q):∃t u,ts=[t,u]/\Q t u:=by
 unfold nZ at h;split at h
 .show#[_,_,rfl,h]
 .show h.elim
def Rs.two(r:Rs K F B [t,u] xs cs):∃v w c d,xs=[v,w]/\R K F B t v c/\R K F B u w d/\cs=c++d:=by
 let#[v,r,c,d,h,i,j,l,n,b,m,e,a,g,rfl,rfl]:=r;rw[Ă] at a;show#[v,l,c,b,by rw[h,e],j,g,by rw[i,a]]
abbrev Ci(a:cG):iR:=λj Q=>a j λb=>nZ b λt u=>iW `bj λd=>iW (aE u) λe=>Q (d.zipWith (λx y=>.aJ [x,y]) e)<|bX (aE t)&&bX (aE u)
def TZ(h:fF K k ta pa):mn K k (E2 K ta) (Ci pa):=λF B H j i I G c p q=>by
 show h F B H j i _ _ c p λQ vs E d J p1 o=>?_
 ∎;let#[t,u,rfl,p1]:=Yc p1;let#[l,g,r2]:=o.held;let#[v,w,M,N,rfl,r3,r4,e]:=Rs.two r2;∎;have z:=Đ.mp e.symm;rw[z.1] at r3;rw[z.2] at r4;∎;let#[f,U,x,p1]:=uk p1;let#[O,Y,y,p1]:=uk p1;∎;rw[x] at r3 p1;rw[y] at r4 p1;∎;let#[a,vs,rfl,_,C]:=mC r3;let#[r,us,rfl,_,A]:=mC r4;∎;have m:∀k,aF (B k) d:=λk=>(c.b k).trans g.h
 show#[a,r,rfl,#[vs,C l d `bn g.s m],#[us,A l d `bn g.s m],q _ _ _ l d p1 g (HK r3 r4) λhn D n=>?_];rw[ê] at hn;show HK (R.low _ hn.1 n.symm r3)<|R.low _ hn.2 n.symm r4
abbrev vX(ts:af)(Q:Int->Prop):Prop:=match ts with |[.int i]=>Q i |_=>False
abbrev zC(a:cG):iR:=λG Q=>a G λb=>vX b λj=>-1000000<=j/\j<=1000000/\Q ((È j.toNat).map λ(i:Nat)=>.int i) Â
def Xc(h:fF K k ta pa):mn K k (Et ta) (zC pa):=λF B H G J u m c p q=>by
 show h F B H G J _ _ c p λx vs a e w p1 o=>?_
 unfold vX at p1;split at p1
 .rename_i j;let#[v,rfl,rfl,_]:=o.r.one;have b:∀B,Src K B a (o3 0 j.toNat) ((È j.toNat).map λ(i:Nat)=>.int i):=λB=>by
   have:=zZ (K:=K) (B:=B) (F:=a) (l:=0) (n:=ai1 j);simp only[ah2] at this;show this
  show#[_,rfl,⋯,⋯,q _ _ _ a e p1.2.2 o.g (b B) λ_ d _=>b d]
 .show p1.elim
abbrev vW(ts:af)(Q:Int->Int->Prop):Prop:=match ts with |[.int i,.int j]=>Q i j |_=>False
abbrev zD(a:cG):iR:=λG Q=>a G λb=>vW b λi j=>(-1000000<=i/\i<=1000000/\-1000000<=j/\j<=1000000)/\Q ((È (j - i).toNat).map λ(n:Nat)=>.int<|i+n) Â
def Xd(h:fF K k ta pa):mn K k (Eu ta) (zD pa):=λF B H j i l e c p q=>by
 show h F B H j i _ _ c p λn vs a b m p1 o=>?_
 unfold vW at p1;split at p1
 .obtain⟨v,w,d1,d2,rfl,⟨rfl,_⟩,⟨rfl,_⟩,_⟩:=o.r.two;show#[_,_,rfl,#[⋯,⋯,⋯,⋯],q _ _ _ a b p1.2 o.g zZ λ_ d _=>zZ]
 .show p1.elim
end
section
def bg.mut{i:Nat}(W:bg K k lo us Fb Hb F H G J cs)(O:G[i]?=À (À v))(e:(a,o)∈cs i)(hd:aw F H ds')(hn:dB Hb ds')(E:∀p∈ds',p.1≠a)(C:∀j,j≠i->∀p∈ds',∀q∈cs j,p.1≠q.1)(B:c'.Perm ((a,o')::ds'))(Q:R K F (λ_=>Hb) t' v c'):
  bg K k lo us Fb Hb F (aQ H a o') G (J.set i t') (λj=>if j=i then c' else cs j):=by
 have I:=W.n i _ e;have D:=(W.c i).f _ e;have b:∀j,j≠i->∀p∈cs j,p.1≠a:=λj C p m z=>W.d j i C p m _ e z
 show#[#[#[W.g.h.qK I,W.g.f,W.g.s.qK D,W.g.n],W.g.z],W.z,by rw[û];show W.l,λj u h=>?_,λj=>?_,λj=>?_,λx y ne p w q r=>?_,W.p,W.x]
 .by_cases ej:j=i
  .subst ej;have N:j<↑J:=by have:=(Á.mp h).1;rw[û] at this;show this
   rw[Ā N] at h;cases h;show .inr #[v,O,by rw[au4 rfl];show Q]
  .rw[ï<|λz=>ej z.symm] at h;rw[au3 ej];show W.e j u h
 .split
  .show#[λp m=>?_,λp m=>?_,?_]
   .rcases ä.mp `bE with rfl |m
    .show cN
    .rw[a9 (E p m)];show hd.h p m
   .rcases ä.mp `bE with rfl |m
    .show D
    .show hd.f p m
   .show ((B.map (·.1)).nodup_iff).mpr ?_;rw[è,Ĕ];show#[λm=>?_,hd.nd];let#[p,w,e]:=á.mp m;show E p w e
  .rename_i ej;show#[λp m=>by rw[a9<|b j ej p m];show (W.c j).h p m,(W.c j).f,(W.c j).nd]
 .split
  .intro p m;rcases ä.mp `bE with rfl |m
   .show I
   .show hn p m
  .show W.n j
 .have key:∀p,p∈c'->∀y,y≠i->∀q∈cs y,p.1≠q.1:=λp m y M q r=>by
   rcases ä.mp `bE with rfl |m
   .show (b y M q r).symm
   .show C y M p m q r
  by_cases ex:x=i
  .have A:y≠i:=λz=>ne<|ex.trans z.symm
   rw[au4 ex] at w;rw[au3 A] at r;show key p w y A q r
  .rw[au3 ex] at w;by_cases A:y=i
   .rw[au4 A] at r;show (key q r x ex p w).symm
   .rw[au3 A] at r;show W.d x y ne p w q r
abbrev hU(f:Str)(u:Tr):bz->bz
 |[]=>[]
 |(g,x)::r=>if g=f then (g,u)::r else (g,x)::hU f u r
abbrev dq(t:Tr):aj->Tr
 |[]=>t
 |f::r=>match dq t r with |.ins .o _ fs=>(fs.lookup f).getD .aq |_=>.aq
abbrev ja(t:Tr):aj->Tr->Tr
 |[],u=>u
 |f::r,u=>ja t r (match dq t r with |.ins .o c fs=>.ins .o c `dO |y=>y)
abbrev qC(K:ar)(t:Tr):aj->Prop
 |[]=>True
 |f::r=>qC K t r /\ (match dq t r with |.ins .o c fs=>(g8 K c /\ bq K c f) /\ (fs.lookup f).isSome=Â |_=>False)
abbrev tR(K:ar)(i:Nat):aj->TE
 |[]=>hJ i
 |f::r=>yV K `cl f
def Rf.at:∀{fs:bz}{vs:List (Str×V)}{n:Cs}{f:Str}{x:Tr},Rf K F B fs vs n->fs.lookup f=À x->∃w c pre a,vs.lookup f=À w/\R K F B x w c/\n=pre++c++a/\∀b,Le F b->∀u d,R K b B u w d->Rf K b B `dO vs (pre++d++a)
 |(g,y)::fs,_,_,f,x,y0,h=>by
  let#[v,r,c,d,j,o,q,A]:=y0;by_cases e:g=f
  .subst e;rw[ao3] at h;cases h;show#[v,c,[],d,by rw[j,ao3],q,by rw[o];rfl,λb l u i m=>?_];unfold hU;rw[au4 rfl];show#[v,r,i,d,j,rfl,m,A.mo l (λ_=>Le.refl _) fs]
  .have e':(f == g)=Å:=by simpa using λz=>e z.symm
   rw[Ą,e'] at h;let#[w,H,pre,a,C,D,E,G]:=Rf.at (fs:=fs) A h;show#[w,H,c++pre,a,by rw[j,Ą,e'];show C,D,by rw[o,E];simp only[õ],λb l u i m=>?_];unfold hU;rw[au3 e];show#[v,r,c,pre++i++a,j,by simp only[õ],q.mo l (λ_=>Le.refl _) y,G b l u i m]
def place{B:Bool->Hp}(s:aF F H)(b:∀k,aF (B k) H)(O:j[i]?=À (À v))(Y:R K F B t v c0)(N:aw F H c0):∀(r:aj),qC K t r->∃w c rest,c0.Perm (c++rest)/\R K F B `cg w c/\(∀g,Le F g->∀u d,R K g B u w d->∃z,R K g B `ez v z/\z.Perm (d++rest))/\∀Q:VK,Q w H->tR K i r j H Q
 |[],_=>#[v,c0,[],by rw[Ă],Y,λg l u d I=>#[d,I,by rw[Ă]],λQ q=>#[v,O,q]]
 |f::r,ok=>by
  let#[w,c,rest,p1,r1,cl,rd]:=place s b O Y N r ok.1;have D:=ok.2;split at D
  .rename_i C fs eg;∎;let#[#[B5,E],G]:=D;let#[x,U]:=ŭ.mp G;∎;rw[eg] at r1;∎;let#[a,m,vs,ds,J,M,h3]:=r1;let#[A,n,pre,e,a1,a2,a3,a4]:=h3.at U;∎;have hm:(a,HO.ins C m vs)∈c0:=p1.mem_iff.mpr (É.mpr (.inl (by rw[M];show .head _)));show#[A,n,(a,.ins C m vs)::(pre++e++rest),?_,?_,λg l u d I=>?_,λQ q=>?_]
   .show p1.trans ?_;rw[M,a3];change List.Perm ((a,HO.ins C m vs)::((pre++n++e)++rest)) _;show aq2 (Ϫ _ ?_)<|List.perm_middle.symm;rw[õ pre n e,<- õ,<- õ,<- õ];show Ÿ _ ?_;show Ÿ _ ?_;show ϝ
   .show R K F B (match dq t r with |.ins .o _ fs=>(fs.lookup f).getD .aq |_=>.aq) A n;rw[eg];change R K F B ((fs.lookup f).getD .aq) A n;rw[U];show a2
   .obtain⟨z,b1,b2⟩:=cl g l (.ins .o C<|hU f u fs) ((a,.ins C m vs)::(pre++d++e)) #[a,m,vs,_,J,rfl,a4 g l u d I];show#[z,?_,b2.trans ?_]
    .show R K g B (ja t r (match dq t r with |.ins .o c fs=>.ins .o c `dO |y=>y)) v z;rw[eg];show b1
    .show List.Perm ((a,HO.ins C m vs)::((pre++d++e)++rest)) _;show aq2 (Ϫ _ ?_)<|List.perm_middle.symm;rw[õ pre d e,<- õ,<- õ,<- õ];show Ÿ _ ?_;show Ÿ _ ?_;show ϝ
   .show rd _ #[a,C,m,vs,A,J,Rd.of<|N.h _ hm,B5,E,a1,q]
  .show D.elim
def bg.at(W:bg K k lo us Fb Hb F H G J cs)(ht:J[i]?=À t)(hn:t≠.aq)(r:aj)(ok:qC K t r):∃w c,R K F (λ_=>Hb) `cg w c/\(∀p∈c,p∈cs i)/\aw F H c/\(∀Q:VK,Q w H->tR K i r G H Q)/\
  ∀b B,bg K k lo us Fb Hb b B G J cs->Le F b->∀(a:ai)(o o':HO)(A ds' e:Cs)(u:Tr)(d:Cs),c=(a,o)::A->ds'.Sublist A->aw b B e->dB Hb e->(∀j,∀p∈cs j,∀q∈e,p.1≠q.1)->d.Perm ((a,o')::(ds'++e))->R K b (λ_=>Hb) u w d->∃I,bg K k lo us Fb Hb b (aQ B a o') G (J.set i<|ja t r u) I:=by
 rcases W.e i t ht with z |⟨v,hv,rv⟩
 .show au5 z hn
 .obtain⟨w,c,rest,p1,r1,cl,rd⟩:=place W.g.s (λ_=>W.g.h) hv rv (W.c i) r ok;have sub:∀{F H:Hp},aw F H (cs i)->aw F H (c++rest):=λh=>#[λp m=>h.h p<|p1.mem_iff.mpr m,λp m=>h.f p<|p1.mem_iff.mpr m,((p1.map (·.1)).nodup_iff).mp h.nd]
  show#[w,c,r1,λp m=>p1.mem_iff.mpr<|É.mpr<|.inl m,(sub<|W.c i).left,rd,λb B y l a o o' A ds' e u d M sl he N x pd ru=>?_];let#[c1,b1,b2]:=cl b l u d ru;have Y:=sub<|y.c i;rw[M] at Y;have U:(a,o)∈cs i:=p1.mem_iff.mpr (É.mpr (.inl (by rw[M];show .head _)));have D:(a ∉ (A++rest).map (·.1))/\((A++rest).map (·.1)).Nodup:=Ĕ.mp Y.nd;have O:(ds'++rest).Sublist (A++rest):=sl.append_right rest;have C:∀p∈ds'++rest,p∈cs i:=λp m=>p1.mem_iff.mpr (by rw[M];show .tail _<|O.subset m)
  have c3:aw b B (ds'++rest):=#[λp m=>(y.c i).h p<|C p m,λp m=>(y.c i).f p<|C p m,List.Sublist.nodup (O.map _) D.2]
  show#[_,y.mut (o:=o) (o':=o') (ds':=(ds'++rest)++e) hv U (c3.app he λp mp q E=>x i p (C p mp) q E) ?_ ?_ ?_ (b2.trans<|(pd.append_right rest).trans ?_) b1]
  .show λp m=>(É.mp m).elim (λm=>y.n i p<|C p m)<|N p
  .intro p m z;rcases É.mp m with m |m
   .show D.1 (á.mpr ⟨p,O.subset m,z⟩)
   .show x i _ U p m z.symm
  .intro j hj p m q E;rcases É.mp m with m |m
   .show y.d i j (λz=>hj z.symm) p (C p m) q E
   .show (x j q E p m).symm
  .show List.Perm ((a,o')::((ds'++e)++rest)) ((a,o')::((ds'++rest)++e));show Ϫ _ ?_;rw[õ,õ];show List.Perm.append_left _ ϝ
end
section
abbrev i6(K:ar)(j:af)(i:Nat)(r:aj)(Q:Tr->(Tr->af)->Prop):Prop:=match j[i]? with
 |some .aq=>False
 |some t=>qC K t r /\ Q `cg λu=>j.set i<|ja t r u
 |none=>False
def uw{Q:Tr->(Tr->af)->Prop}(h:i6 K j i r Q):∃t,j[i]?=À t/\t≠.aq/\qC K t r/\Q `cg λu=>j.set i `ez:=by
 unfold i6 at h;split at h
 .show h.elim
 .rename_i t ne e;show#[t,e,ne,h.1,h.2]
 .show h.elim
def Rs.set:∀{xs:af}{vs:az}{e:Cs}(n:Nat){t:Tr}{v:V},Rs K F B xs vs e->R K F B t v []->∃ds',Rs K F B `du (vs.set n v) ds'/\ds'.Sublist e
 |[],_,e,n,_,_,y,_=>by let#[a,b]:=y;show#[[],by rw[a];show#[rfl,rfl],by rw[b];show Ĩ _]
 |x::xs,_,_,0,_,_,y,rt=>by let#[v,r,c,d,a,b,i,g]:=y;show#[d,by rw[a];show#[_,r,[],d,rfl,rfl,rt,g],by rw[b];show Ζ c d]
 |x::xs,_,_,n + 1,_,_,y,rt=>by
  ∎;let#[v,r,c,d,a,b,i,g]:=y;let#[h,j,l]:=Rs.set (xs:=xs) n g rt;∎;show#[c++h,by rw[a];show#[v,_,c,h,rfl,rfl,i,j],by rw[b];show l.append_left c]
def Rs.snoc(h:Rs K F B xs vs ds)(rt:R K F B t v e):Rs K F B (xs++[t]) (vs++[v]) (ds++e):=h.append #[v,[],e,[],rfl,by rw[Ă],rt,rfl,rfl]
def bg.fZ{t:Tr}{v:V}{c:Cs}(W:bg K k lo us Fb Hb F H j i cs)(o:Out K F `cF H F' H' t v c)(n:bX t=Â):
  ∃a,bg K k lo us Fb Hb a H' j i cs/\R K a (λ_=>Hb) `bj v []/\Le F a:=by
 ∎;let#[m,h]:=W.fresh o;let#[d,e,b,l]:=(W.gr o.g).lay o.c m `cf h;∎;show#[d,e,(R.low (B':=λ_=>Hb) t n rfl o.r).aE (Le.of b) t l,Le.trans o.g.le<|Le.of b]
def w6:dB Hb []:=λ_ m=>nomatch m
def wN{cs:Nat->Cs}:∀(j:Nat),∀p∈cs j,∀q∈([]:Cs),p.1≠q.1:=λ_ _ _ _ m=>nomatch m
abbrev nU(u:Tr)(Q:aB):Prop:=match u with |.ah .o xs=>Q xs |_=>False
def GY{Q:aB}(h:nU u Q):∃xs,u=.ah .o xs/\Q xs:=by
 unfold nU at h;split at h
 .show#[_,rfl,h]
 .show h.elim
abbrev zE(K:ar)(i:Nat)(r:aj)(b:a6):b8:=λD j=>i6 K j i r λu s=>nU u λa=>b `af λt=>bX t=Â/\↑a<1000000/\D.nx (s<|.ah .o<|a++[aE t])
def Xe(h:br K k te pe):dh K k lo (tM<|CC K "list" Ed (tR K i r)<|j5 te j7) (zE K i r pe):=λus Fb C F H j G cs D U W p L=>by
 ∎;let#[t,J,M,N,p]:=uw p;let#[B,O,p]:=GY p;let#[w,c,A,sub,Q,rd,cl]:=W.at J M r N;∎;rw[O] at A;let#[a,vs,b,rfl,n,x]:=A;have y:H a=À `dg:=Q.h (a,.ah vs) (by rw[n];show .head _);show rd _ #[WH y,h F (Bq C H) H j _ _ _ W.e8 p λu v Y m c1 q o=>?_];let#[l,E,r2,z]:=W.fZ o q.1;have e:m a=À `dg:=o.g.h _ _ y;let#[d,I]:=cl l m E z a `dg (.ah<|vs++[v]) b b [] (.ah .o<|B++[aE u]) ((a,.ah<|vs++[v])::(b++[])) n (Ĩ _) .nil w6 wN (Ψ _) #[a,vs++[v],b++[],rfl,rfl,(x.mo z (λ_=>Le.refl _) B).snoc r2];show#[a,vs,v,rfl,rfl,e,Õ (by rw[x.length];show q.2.1) ∎,L.nx l _ j _ d I q.2.2]
abbrev tQ(xs:af)(y t:Tr)(Q:aB):Prop:=match y with |.int j=>(match jl ↑xs j with |some n=>Q `du |none=>False) |_=>False
abbrev y9(K:ar)(i:Nat)(r:aj)(d b:a6):b8:=λD j=>b `af λt=>bX t=Â/\i6 K j i r λu s=>nU u λe=>d `af λy=>tQ e y `bj λa=>D.nx<|s<|.ah .o a
def T1(h:br K k te pe)(hj:br K k tj pj):dh K k lo (mW te<|Ft (tR K i r) tj El) (y9 K i r pj pe):=λus Fb A F H j G cs D D' W p L=>by
 show h F (Bq A H) H j _ _ _ W.e8 p λu v F1 l c1 q o=>?_
 ∎;let#[J,m,r2,l2]:=W.fZ o q.1;let#[t,Y,e2,e3,p]:=uw q.2;let#[I,eg,p]:=GY p;let#[w,c,E,sub,hc,rd,cl]:=m.at Y e2 r e3;∎;rw[eg] at E;let#[a,vs,U,rfl,B,C]:=E;have ha:l a=À `dg:=hc.h (a,.ah vs) (by rw[B];show .head _);show rd _<|hj J (Bq A l) l j _ _ _ m.e8 p λy vy z M c3 e d=>?_;unfold tQ at e;split at e
 .obtain⟨rfl,_⟩:=d.r;split at e
  .rename_i n en;∎;let#[b,O,Q]:=(C.mo d.g.le (λ_=>Le.refl _) I).set n<|r2.mo d.g.le (λ_=>Le.refl _) _;let#[x,N]:=cl z M (m.gr d.g) d.g.le a `dg (.ah<|vs.set n v) U b [] (.ah .o<|I.set n<|aE u) ((a,.ah<|vs.set n v)::(b++[])) B Q .nil w6 wN (Ψ _) #[a,_,b++[],rfl,rfl,by rw[Ă];show O];∎;show#[a,vs,_,n,rfl,rfl,d.g.h _ _ ha,by rw[C.length];show en,L.nx z _ j _ x N e]
  .show e.elim
 .show e.elim
abbrev j9(m:bG)(y:aW)(t:Tr):bG:=
 if (m.any λa=>decide<|a.1=y)=Â then m.map (λa=>if a.1=y then (a.1,t) else a) else m++[(y,t)]
def Rk.any:∀{m:bG}{vs:bY}{b:Cs}{y:aW},Rk K F B m vs b->(vs.any λa=>decide<|a.1=y)=m.any λa=>decide<|a.1=y
 |[],_,_,y,y0=>by let#[h,_]:=y0;rw[h];rfl
 |(k,x)::m,_,_,y,y0=>by let#[v,r,c,d,e,i,j,g]:=y0;rw[e,Ϥ,Ϥ,Rk.any g]
def Rk.rep:∀{m:bG}{vs:bY}{j:Cs}{y:aW}{t:Tr}{v:V},Rk K F B m vs j->R K F B t v []->∃ds',Rk K F B (m.map (λa=>if a.1=y then (a.1,t) else a)) (vs.map (λa=>if a.1=y then (a.1,v) else a)) ds'/\ds'.Sublist j
 |[],_,_,y,_,_,y0,_=>by let#[h,o]:=y0;show#[[],by rw[h];show#[rfl,rfl],by rw[o];show Ĩ _]
 |(k,x)::m,_,_,y,t,w,y0,rt=>by
  ∎;let#[v,r,c,d,l,n,q,u]:=y0;let#[b,g,i]:=Rk.rep (y:=y) u rt;∎;by_cases e:k=y
  .show#[b,?_,by rw[n];show i.trans<|Ζ c d];rw[l,è,è];change Rk K F B ((if k=y then (k,t) else (k,x))::_) ((if k=y then (k,w) else (k,v))::_) _;rw[au4 e,au4 e];show#[w,_,[],b,rfl,rfl,rt,g]
  .show#[c++b,?_,by rw[n];show i.append_left c];rw[l,è,è];change Rk K F B ((if k=y then (k,t) else (k,x))::_) ((if k=y then (k,w) else (k,v))::_) _;rw[au3 e,au3 e];show#[v,_,c,b,rfl,rfl,q,g]
def Rk.append:∀{m n:bG}{vs us:bY}{c d:Cs},Rk K F B m vs c->Rk K F B n us d->Rk K F B (m++n) (vs++us) (c++d)
 |[],_,_,_,_,_,y,h=>by let#[a,b]:=y;rw[a,b];show h
 |(k,x)::m,_,_,_,_,_,y,h=>by let#[v,r,c,d,a,b,e,g]:=y;rw[a,b];show#[v,r ++ _,c,d ++ _,rfl,by rw[õ],e,Rk.append g h]
def Rk.put(h:Rk K F B m vs ds)(rt:R K F B t v []):∃ds',Rk K F B (j9 m y t) (add vs y v) ds'/\ds'.Sublist ds:=by
 unfold j9 add;rw[h.any];split
 .show h.rep rt
 .show#[ds++[],h.append #[v,[],[],[],rfl,rfl,rt,rfl,rfl],by rw[Ă];show Ĩ _]
def RA(n:(m.map (·.1)).Nodup)(y:aW)(t:Tr):((j9 m y t).map (·.1)).Nodup:=by
 unfold j9;split
 .have e:(m.map λd=>if d.1=y then (d.1,t) else d).map (·.1)=m.map (·.1):=by
   rw[ð];show Ģ λp _=>?_
   change (if p.1=y then (p.1,t) else p).1=p.1;split<;>rfl
  rw[e];show n
 .rename_i h;rw[ß,ŋ];show#[n,Ĕ.mpr #[λz=>(nomatch z),ag5],λa g b i e=>h ?_];let#[p,j,rfl]:=á.mp g;rw[å.mp i] at e;show ň.mpr #[p,j,au6 e]
abbrev tS(u:Tr)(Q:bG->Prop):Prop:=match u with |.aT .o xs=>Q xs |_=>False
def T2{Q:bG->Prop}(h:tS u Q):∃xs,u=.aT .o xs/\Q xs:=by
 unfold tS at h;split at h
 .show#[_,rfl,h]
 .show h.elim
abbrev k8(y:Tr)(Q:aW->Prop):Prop:=match ro y with |some y=>Q y |none=>False
abbrev zF(K:ar)(i:Nat)(r:aj)(b a:a6):b8:=λD j=>a `af λt=>bX t=Â/\i6 K j i r λu s=>tS u λm=>b `af λy=>k8 y λy=>↑m<1000000/\D.nx (s<|.aT .o<|j9 m y<|aE t)
def Xf(h:br K k te pe)(hj:br K k tj pj):dh K k lo (Ei `cl tj te) (zF K i r pj pe):=λus Fb A F H j G cs D D' W p L=>by
 show h F (Bq A H) H j _ _ _ W.e8 p λu v F1 l c1 q o=>?_
 ∎;let#[I,n,r2,l2]:=W.fZ o q.1;let#[t,U,Y,e3,p]:=uw q.2;let#[m,eg,p]:=T2 p;let#[w,c,E,sub,hc,rd,cl]:=n.at U Y r e3;∎;rw[eg] at E;let#[a,vs,Q,rfl,B,C,h4]:=E;have ha:l a=À `ay:=hc.h (a,.dK vs) (by rw[B];show .head _);show rd _<|hj I (Bq A l) l j _ _ _ n.e8 p λy vy z J c3 e d=>?_;unfold k8 at e;split at e
 .rename_i yk ey;obtain rfl:=xp d.r ey;∎;let#[b,N,O]:=(C.mo d.g.le (λ_=>Le.refl _) m).put (y:=yk)<|r2.mo d.g.le (λ_=>Le.refl _) _;let#[x,M]:=cl z J (n.gr d.g) d.g.le a `ay (.dK<|add vs yk v) Q b [] (.aT .o<|j9 m yk<|aE u) ((a,.dK<|add vs yk v)::(b++[])) B O .nil w6 wN (Ψ _) #[a,_,b++[],rfl,rfl,by rw[Ă];show N,RA h4 _ _];∎;show#[a,_,rfl,kT.k (d.g.h _ _ ha) (Õ (by rw[C.length];show e.1) ∎),L.nx z _ j _ x M e.2]
 .show e.elim
abbrev za:a6:=λ_ Q=>Q<|.aT .o []
def T3:br K k DW za:=λF B H j i Q d c p q a b=>q _ _ F _ _ p #[Gr.jr c.s b,#[a,[],[],rfl,rfl,#[rfl,rfl],ag5],w4 c.s .nil b,λp m=>by
 cases m with
 |head=>show b
 |tail _ m=>nomatch m]
abbrev jb(f:Str)(u:Tr):bz->bz
 |[]=>[(f,u)]
 |(g,x)::r=>if g=f then (g,u)::r else (g,x)::jb f u r
def Rf.put:∀{fs:bz}{vs:List (Str×V)}{h:Cs}{f:Str}{t:Tr}{v:V}{e:Cs},Rf K F B fs vs h->R K F B t v e->∃ds' d,Rf K F B (jb f t fs) (gi f v vs) d/\ds'.Sublist h/\d.Perm (ds'++e)
 |[],_,_,f,t,v,e,y,rt=>by let#[a,b]:=y;show#[[],e,by rw[a];show#[v,[],e,[],rfl,by rw[Ă],rt,rfl,rfl],by rw[b];show Ĩ _,Ψ _]
 |(g,x)::fs,_,_,f,t,w,e,y,rt=>by
  let#[v,r,c,d,a,b,j,i]:=y;by_cases z:g=f
  .show#[d,e++d,?_,by rw[b];show Ζ c d,ϝ];rw[a];change Rf K F B (if g=f then (g,t)::fs else _) (if g=f then (g,w)::r else _) _;rw[au4 z,au4 z];show#[w,r,e,d,rfl,rfl,rt,i]
  .obtain⟨d',d2,a1,a2,a3⟩:=Rf.put (f:=f) i rt;show#[c++d',c++d2,?_,by rw[b];show a2.append_left c,by rw[õ];show a3.append_left c];rw[a];change Rf K F B (if g=f then _ else (g,x)::jb f t fs) (if g=f then _ else (g,v)::gi f w r) _;rw[au3 z,au3 z];show#[v,_,c,d2,rfl,rfl,j,a1]
def Rf.length:∀{fs:bz}{vs:List (Str×V)}{a:Cs},Rf K F B fs vs a->↑vs=↑fs
 |[],_,_,y=>by let#[h,_]:=y;rw[h];rfl
 |(k,x)::xs,_,_,y=>by let#[v,r,c,d,b,g,i,e]:=y;rw[b,Ý,Ý,Rf.length e]
abbrev pH(K:ar)(f:Str)(u:Tr)(Q:ai->bz->Prop):Prop:=match u with |.ins .o c fs=>(g8 K c/\bq K c f)/\↑fs<900/\Q c fs |_=>False
def GZ{Q:ai->bz->Prop}(h:pH K f u Q):∃c fs,u=.ins .o c fs/\(g8 K c/\bq K c f)/\↑fs<900/\Q c fs:=by
 unfold pH at h;split at h
 .show#[_,_,rfl,h]
 .show h.elim
abbrev yJ(K:ar)(i:Nat)(r:aj)(f:Str)(a:a6):b8:=λD j=>a `af λt=>bX t=Â/\i6 K j i r λu s=>pH K f u λc fs=>D.nx<|s<|.ins .o c<|jb f t fs
def T4(h:br K k te pe):dh K k lo (zc K `cl te f) (yJ K i r f pe):=λus Fb x F H j G cs D D' W p L=>by
 show h F (Bq x H) H j _ _ _ W.e8 p λu v m n N q o=>?_
 have y:=W.gr o.g;∎;let#[n1,O]:=W.fresh o;let#[t,U,Y,e3,p]:=uw q.2;let#[C,fs,eg,ok,hl,p]:=GZ p;let#[w,c,B,sub,hc,rd,cl]:=y.at U Y r e3;∎;rw[eg] at B;let#[a,b,vs,Q,rfl,z,A]:=B;have ha:n a=À `ch:=hc.h (a,.ins C b vs) (by rw[z];show .head _);∎;let#[l,d,I,J,M]:=A.put (f:=f)<|R.low (B':=λ_=>x) u q.1 rfl o.r;let#[e,E]:=cl m n y `bn a `ch (.ins C b<|gi f v vs) Q l N (.ins .o C<|jb f u fs) ((a,.ins C b<|gi f v vs)::d) z J o.c n1 O (Ϫ _ M) #[a,b,_,d,rfl,rfl,I];∎;show rd _ #[a,C,b,vs,rfl,ha,ok.1,ok.2,Õ (by rw[A.length];show hl) ∎,L.nx m _ j _ e E p]
end
section
def HM{Hb:Hp}(h:Hb a=Ä\/Hb a=À `ay):Le (fz Hb a<|.aE ob<|.dK vs) Hb:=λb u n r=>by
 by_cases e:b=a
 .subst e;rcases h with h |h
  .rcases r with r |⟨o,r⟩<;>(rw[gz,au4 h] at r;cases r)
  .have z:fz Hb b (.aE ob<|.dK vs) b=À (.aE ob<|.dK vs):=by rw[gz,au3 (by rw[h];intro z;cases z)]
   rcases r with r |⟨o,r⟩
   .rw[z] at r;cases r;show au5 rfl<|n _ _
   .rw[z] at r;cases r;show .inl h
 .rcases r with r |⟨o,r⟩
  .rw[eX e] at r;show .inl r
  .rw[eX e] at r;show .inr #[o,r]
def bg.walk(W:bg K k lo us F Hb F H j G cs)(b:F a=À `ay):bg K k.walk lo us (fz F a<|.aE ob<|.dK vs) (fz Hb a<|.aE ob<|.dK vs) (fz F a<|.aE ob<|.dK vs) (aQ H a<|.aE ob<|.dK vs) j G cs:=by
 have r:H a=À `ay:=W.g.s _ _ b;have o:Hb a=Ä\/Hb a=À `ay:=by
  cases q:Hb a with
  |none=>show .inl rfl
  |some u=>have:=W.g.h _ _ q;rw[r] at this;show .inr this.symm
 have ne:∀i,∀p∈cs i,p.1≠a:=λi p m e=>by have:=(W.c i).f p m;rw[e,b] at this;cases this
 show#[#[LZ _ W.g.toGr0,Fz.refl _],λh=>(by cases h),W.l,λi t h=>(W.e i t h).imp id λ⟨v,h1,h2⟩=>#[v,h1,h2.mo (mB<|.inr b) (λ_=>mB o) t],λi=>#[λp m=>?_,λp m=>?_,(W.c i).nd],λi p m=>?_,W.d,W.p,λ_ _ _ _ h=>h.elim]
 .rw[a9<|ne i p m];show (W.c i).h p m
 .rw[eX<|ne i p m];show (W.c i).f p m
 .rw[eX<|ne i p m];show W.n i p m
def bg.eU(hz:k.z=Â)(w:bg K k lo us F1 Hb F1 H1 j G cs)(B:F1 a=À `ay)(W:bg K k.walk lo us (fz F1 a<|.aE ob<|.dK vs) (fz Hb a<|.aE ob<|.dK vs) F H j' G' y):
  H a=À (.aE ob<|.dK vs)/\∃r,bg K k lo us F1 Hb r (aQ H a<|.dK vs) j' G' y/\Le F r/\(∀b,b≠a->r b=F b)/\(∀b,F b=Ä->b≠a):=by
 have J:H1 a=À `ay:=w.g.s _ _ B;have U:Hb a=Ä\/Hb a=À `ay:=by
  cases q:Hb a with
  |none=>show .inl rfl
  |some u=>have:=w.g.h _ _ q;rw[J] at this;show .inr this.symm
 have I:fz F1 a (.aE ob<|.dK vs) a=À (.aE ob<|.dK vs):=by rw[gz,au3 (by rw[B];intro z;cases z)]
 have A:F a=À (.aE ob<|.dK vs):=W.g.f _ _ I;have C:H a=À (.aE ob<|.dK vs):=W.g.s _ _ A;have O:Fz (λb=>b=a\/S0 b) F:=λb o u e=>by
  let#[Y,u',E]:=W.g.z b o u e;by_cases eb:b=a
  .show .inl eb
  .rw[eX eb] at E;show .inr<|w.z hz b Y u' E
 let#[N,Q,z2,M,e2,n2,D,c2]:=KU (Fb:=F1) (Hb:=Hb) (F:=F1) (H:=H1) (S:=S0) w.g.toGr0 J (.inr B) W.g.toGr0 (A.trans I.symm) O;have ne:∀i,∀p∈y i,p.1≠a:=λi p m e=>by have:=(W.c i).f p m;rw[e,A] at this;cases this
 show#[C,N,#[#[Q,λb o u e=>(z2 b o u e).elim],λ_=>z2,W.l,λi t h=>(W.e i t h).imp id λ⟨v,h1,h2⟩=>#[v,h1,h2.mo M (λ_=>HM U) t],λi=>#[λp m=>?_,λp m=>?_,(W.c i).nd],λi p m=>?_,W.d,W.p,w.x],M,D,λb e z=>?_]
 .rw[a9<|ne i p m];show (W.c i).h p m
 .rw[D _<|ne i p m];show (W.c i).f p m
 .have:=W.n i p m;rw[eX<|ne i p m] at this;show this
 .rw[z,A] at e;cases e
abbrev j4:aW->Tr |.inl n=>.int n |.inr s=>.str s
inductive Wm where |it |ks |vs
abbrev wit:Wm->aW×Tr->Tr
 |.it,p=>.aJ [j4 p.1,p.2]
 |.ks,p=>j4 p.1
 |.vs,p=>p.2
abbrev mU(t:Tr)(Q:bG->Prop):Prop:=match t with |.aT .f m=>Q m |_=>False
abbrev yK(w:Wm)(b:a6)(pg:eW)(pb:b8):b8:=λD j=>b `af λt=>bX t=Â/\mU `bj λm=>∃I:Nat->aB,I 0 j/\(∀i p j,m[i]?=À p->I i j->pg (wit w p) j λa=>pb { D with nx:=I<|i+1,ct:=I<|i+1,bk:=D.nx } a)/\∀j,I ↑m j->D.nx j
def Rk.cZ:∀{m:bG}{vs:bY}{i:Nat}{y:aW}{v:V},Rk K F B m vs []->vs[i]?=À (y,v)->∃t,m[i]?=À (y,t)/\R K F B t v []
 |[],_,i,y,v,y0,e=>by let#[h,_]:=y0;rw[h] at e;cases e
 |(y',x)::m,_,0,y,v,y0,e=>by
  let#[u,r,c,d,a,b,g,j]:=y0;rw[a] at e;cases e;have z:=Đ.mp b.symm;rw[z.1] at g;show#[x,rfl,g]
 |(y',x)::m,_,i + 1,y,v,y0,e=>by
  let#[u,r,c,d,a,b,g,j]:=y0;rw[a] at e;have z:=Đ.mp b.symm;rw[z.2] at j;show Rk.cZ (i:=i) j e
def BN:R K F B (j4 y) (kV y) []:=by
 cases y with
 |inl n=>show#[rfl,rfl]
 |inr n=>show#[rfl,rfl]
def Xg(hz:k.z=Â)(b:∀o u,X.H₀ a≠À `aG)(g:bg K k lo us F1 Hb F1 H1 j i cs)(l:F1 a=À `ay)(L:Lk K k lo us F1 Hb D D'):Lk K k.walk lo us (fz F1 a<|.aE ob<|.dK vs) (fz Hb a<|.aE ob<|.dK vs) `dc D':=by
 show#[λF H j i cs W q=>?_,λF H j i cs v t c W r e n d w q=>?_,λF H j i cs W q=>?_,λF H j i cs W q=>?_]
 .obtain⟨h1,F2,W2,_⟩:=g.eU hz l W;show#[a,ob,vs,h1,b,L.nx F2 _ j i cs W2 q]
 .obtain⟨h1,F2,W2,l2,b2,f2⟩:=g.eU hz l W;show#[a,ob,vs,h1,b,L.rt F2 _ j i cs v t c W2 ((r.mo l2 (λ_=>Le.refl _) t).base t w) #[λp m=>?_,λp m=>?_,e.nd] (λp m=>?_) d w q]
  .rw[a9<|f2 _<|e.f p m];show e.h p m
  .rw[b2 _<|f2 _<|e.f p m];show e.f p m
  .have:=n p m;rw[eX<|f2 _<|e.f p m] at this;show this
 .obtain⟨h1,F2,W2,_⟩:=g.eU hz l W;show#[a,ob,vs,h1,b,L.bk F2 _ j i cs W2 q]
 .obtain⟨h1,F2,W2,_⟩:=g.eU hz l W;show#[a,ob,vs,h1,b,L.ct F2 _ j i cs W2 q]
def GU(d:bg K k lo us F1 Hb F1 H1 j i cs)(b:F1 a=À `ay)(r:Rk K F1 (λ_=>Hb) m vs [])(W:bg K k.walk lo us (fz F1 a<|.aE ob<|.dK vs) (fz Hb a<|.aE ob<|.dK vs) F H j' i' cs'):
  H a=À (.aE ob<|.dK vs)/\Rk K F (λ_=>fz Hb a<|.aE ob<|.dK vs) m vs []:=by
 have l:Hb a=Ä\/Hb a=À `ay:=by
  cases q:Hb a with
  |none=>show .inl rfl
  |some u=>have:=d.g.h _ _ q;rw[d.g.s _ _ b] at this;show .inr this.symm
 have e:fz F1 a (.aE ob<|.dK vs) a=À (.aE ob<|.dK vs):=by rw[gz,au3 (by rw[b];intro z;cases z)]
 show#[W.g.s _ _<|W.g.f _ _ e,r.mo (Le.trans (mB<|.inr b)<|Le.of W.g.f) (λ_=>mB l) m]
def T5(hz:k.z=Â)(h:br K k te pe)(hg:pL K k.walk lo tg pg)(hb:dh K k.walk lo tb pb):dh K k lo (Em X te tg tb) (yK .it pe pg pb):=λus Fb B F H j G cs D D' W p L=>by
 show h F (Bq B H) H j _ _ _ W.e8 p λt v F1 H1 c p1 o=>?_
 let#[E,d,r2]:=W.held o p1.1;have p2:=p1.2;unfold mU at p2;split at p2
 .rename_i m em;rw[em] at r2;let#[_,a,vs,rfl,Y,w,h4]:=r2;have b:=rW (d.z hz) Y;let#[I,i0,step,r]:=p2;have l:=d.rebase;have M:=L.rebase d;show#[a,vs,rfl,d.g.s _ _ b,λob x=>?_];have L2:=Xg hz (X:=X) (ob:=ob) x l b M;show RU (λi j H=>∃F G cs,bg K k.walk lo us (fz E a<|.aE ob<|.dK vs) (fz B a<|.aE ob<|.dK vs) F H j G cs/\I i G) #[_,G,cs,l.walk b,i0] ?_ ?_ ?_
  .rintro i j H hi ⟨F,G,cs,W,_⟩;show (GU l b w W).1
  .rintro i y u j H p e ⟨F,G,cs,W,ii⟩ hp;∎;let#[_,rk]:=GU l b w W;let#[C,O,Q]:=rk.cZ e;let#[A,U,r4,_]:=rY (xs:=[j4 y,C]) (cs:=[]) W.g.s #[kV y,[u],[],[],rfl,rfl,BN,u,[],[],[],rfl,rfl,Q,rfl,rfl] .nil hp;∎;show hg us _ _ A _ j G cs _ _ _ _ (W.gr U) r4 (step i (y,C) G O ii) λj' J n N p'=>?_
   show hb us _ _ A _ j' J n _ _ N p' #[λF H j G cs W q=>#[F,G,cs,W,q],L2.rt,L2.nx,λF H j G cs W q=>#[F,G,cs,W,q]]
  .rintro j H ⟨F,G,cs,W,q⟩;show L2.nx F H j G cs W (r G (by rw[<- ↑w];show q))
 .show p2.elim
end
section
abbrev EG(K:ar):az->Hp->VK->Prop:=λb H Q=>(λb H Q=>∃x n,b=[x]/\ER K x H n/\Q `aU H) b H Q\/(λb H Q=>∃a d,b=[V.ref a]/\H a=À `cZ/\Q (.int ↑d) H) b H Q
def fM:bQ X (.builtin "len") (EG X.K):=MR.or RT
abbrev D1(K:ar):az->Hp->VK->Prop:=λb H Q=>(λb H Q=>∃p e,b=[.ref p]/\(bH K H p e\/dM K H p e)/\∀l,H l=Ä->Q `ef (aQ H l<|.ah e)) b H Q\/(λb H Q=>∃a d,b=[.ref a]/\Rd H a `cZ/\∀p,H p=Ä->Q `ao (aQ H p<|.ah<|d.map λg=>kV g.1)) b H Q
def iC(a:X.calm=Â):bQ X (.type "list") (D1 X.K):=yw.or<|QQ a
abbrev E8(K:ar):R2:=λx y H Q=>u7 K Å x y H Q\/tU Å x y H Q
def Cq(a:X.A.units+1<ņ:=by assumption):cw X (í .In) (E8 X.K):=MS.or<|ZQ a
abbrev Ee(K:ar):R2:=λx y H Q=>u7 K Â x y H Q\/tU Â x y H Q
def AN(a:X.A.units+1<ņ:=by assumption):cw X `dN (Ee X.K):=MQ.or<|Sd a
abbrev E9(K:ar):V->bR->bR->Hp->VK->Prop:=λx l h H Q=>EY K x l h H Q\/E1 x l h H Q
def Mf:nO X (E9 X.K):=MZ.or ZH
end
section
abbrev rp(k:Bool)(ts:af)(Q:ay):Prop:=match ts with
 |[.str x]=>↑x <= 1000000 /\ Q (.int ↑x)
 |[.ah _ xs]=>Q<|.int ↑xs
 |[.aJ xs]=>Q<|.int ↑xs
 |[.aT .f m]=>k=Â /\ Q `dP
 |[.aT .o m]=>Q<|.int ↑m
 |_=>False
def fN:mM K k (EG K) (rp k.z):=λF B H D n C Q e s b z r w p q=>by
 cases n with
 |nil=>show ë p
 |cons t n=>
  cases n with
  |cons _ _=>cases t<;>first |show ë p |(rename_i f _;cases f<;>show ë p)
  |nil=>
   let#[v,rfl,g]:=r.one;cases t with
   |str x=>
    have p:↑x<=1000000/\e (.int ↑x):=p;let#[rfl,_]:=g;show .inl #[_,_,rfl,#[mZ p.1,rfl],q _ _ F H [] p.2 `aj #[rfl,rfl] .nil λ_ m=>nomatch m]
   |ah f u=>
    have p:e (.int ↑u):=p;let#[a,vs,y,rfl,i,d,_]:=g.dw s b w;show .inl #[_,_,rfl,.inl #[vs,i,rfl],q `dv _ F H [] (by rw[<- ↑d] at p;show p) `aj #[rfl,rfl] .nil λ_ m=>nomatch m]
   |aJ u=>
    have p:e (.int ↑u):=p;let#[a,vs,rfl,i,d]:=g.fx s;show .inl #[_,_,rfl,.inr #[vs,i,rfl],q `dv _ F H [] (by rw[<- ↑d] at p;show p) `aj #[rfl,rfl] .nil λ_ m=>nomatch m]
   |aT f m=>
    cases f with
    |f=>
     have p:k.z=Â/\e `dP:=p;let#[_,a,vs,rfl,d,j,A]:=g;show .inr #[a,vs,rfl,s _ _<|rW (z p.1) d,q (.int ↑vs) _ F H [] (by rw[<- ↑j] at p;show p.2) (Gr.aO s) #[rfl,rfl] .nil λ_ m=>nomatch m]
    |o=>
     have p:e `dP:=p;let#[a,vs,y,rfl,d,j,A]:=g;show .inr #[a,vs,rfl,w.h (a,.dK vs) (by rw[d];show .head _),q `dv _ F H [] (by rw[<- ↑j] at p;show p) `aj #[rfl,rfl] .nil λ_ m=>nomatch m]
    |l _=>show ë p
   |_=>show ë p
def Rk.oP:∀{m:bG}{vs:bY}{a:Cs},Rk K F B m vs a->Rs K F B (m.map λp=>j4 p.1) (vs.map λg=>kV g.1) []
 |[],_,_,y=>by let#[h,_]:=y;rw[h];show#[rfl,rfl]
 |(y,x)::m,_,_,y0=>by let#[v,r,c,d,b,i,j,e]:=y0;rw[b];show#[kV y,_,[],[],rfl,rfl,BN,Rk.oP e]
def wW{xs:af}{vs:az}{cs cx:Cs}{p:ai}{Q:VK}{d:ay}(s:aF F H)(r:Rs K F B xs vs cs)(c:aw F H cs)(sub:∀p∈cs,p∈cx)(hp:H p=Ä)(h:d `aP)(q:∀t v a b cs,d t->Gr F H a b->R K a B t v cs->aw a b cs->(∀p∈cs,H p.1=Ä\/p∈cx)->Q v b):Q `ao (aQ H p<|.ah vs):=by
 let#[e,g,i]:=mw s r c hp;show q _ _ F _ _ h e g i λp m=>?_
 cases m with
 |head=>show .inl hp
 |tail _ m=>show .inr<|sub p m
abbrev yL(ts:af)(Q:ay):Prop:=match ts with
 |[.ah _ xs]=>Q<|.ah .o xs
 |[.aJ xs]=>Q<|.ah .o xs
 |[.aT _ m]=>Q<|.ah .o<|m.map λp=>j4 p.1
 |_=>False
def ir:mM K k (D1 K) yL:=λF B H A j y Q x s b z r h p q=>by
 cases j with
 |nil=>show ë p
 |cons t j=>
  cases j with
  |cons _ _=>cases t<;>show ë p
  |nil=>
   let#[v,rfl,i]:=r.one;cases t with
   |ah f w=>
    let#[a,vs,u,rfl,d,e,n,o]:=i.dw s b h;show .inl #[_,_,rfl,.inl d,λl g=>wW s e n o g p q]
   |aJ w=>
    let#[a,vs,rfl,d,e]:=i.fx s;show .inl #[_,_,rfl,.inr d,λl g=>wW s e h (λ_ m=>m) g p q]
   |aT f m=>
    let#[a,vs,u,rfl,d,e,n,o]:=i.ki s b h;show .inr #[_,_,rfl,d,λl g=>wW s e.oP .nil (λ_ m=>nomatch m) g p q]
   |_=>show ë p
abbrev KA:Tr->Option String
 |.int _=>À "int" |.bl _=>À "bool" |.str _=>À "str" |.aM=>À "NoneType" |.aJ _=>À "tuple" |.ah _ _=>À "list" |.aT _ _=>À "dict" |_=>Ä
abbrev ud:Tr->eD
 |.ty n=>À (.type n) |.cl a=>À `ax |_=>Ä
abbrev CI(K:ar)(ts:af)(Q:ay):Prop:=match ts with
 |[x,c]=>(match KA x,ud c with |some t,À u=>∃b,am7 K (.type t) u=À b /\ Q `bG |_,_=>False)
 |_=>False
def Jg{j:Type}{P:Prop}{u:j}(e:Ä=À u):P:=nomatch e
def Mg{u:au}(r:R K F B c w d)(e:ud c=À u):wC w=À u:=by
 cases c with
 |ty n |cl a=>cases e;rw[r.1];rfl
 |_=>show Jg e
def Mh{x:Tr}(s:aF F H)(b:∀k,aF (B k) H)(g:aw F H c)(r:R K F B x v c)(e:KA x=À t):l7 K H v (.type t):=by
 cases x with
 |int n=>cases e;rw[r.1];show ZE
 |bl n=>cases e;rw[r.1];show L3
 |str n=>cases e;rw[r.1];show ZF
 |aM=>cases e;rw[r.1];show ZG
 |aJ h=>cases e;let#[a,vs,rfl,d,_]:=r.fx s;show ZA d
 |ah f h=>cases e;let#[a,vs,i,rfl,d,_]:=r.dw s b g;show ZC d
 |aT f h=>cases e;let#[a,vs,i,rfl,d,_]:=r.ki s b g;show ZD d
 |_=>show Jg e
def Y9:mM K k (λxs H Q=>∃x c t b u,xs=[x,c]/\l7 K H x t/\wC c=À u/\am7 K t u=À b/\Q `bG H) (CI K):=λF B H xs o l Q i s b z r a p q=>by
 unfold CI at p;split at p
 .rename_i x c;let#[v,w,j,n,rfl,h,r2,e]:=r.two;rw[e] at a;split at p
  .rename_i t u e1 e2;let#[d,g,p]:=p;show#[v,w,_,d,u,rfl,Mh s b a.left h e1,Mg r2 e2,g,q _ _ F H [] p `aj #[rfl,rfl] .nil λ_ m=>nomatch m]
  .show p.elim
 .show p.elim
abbrev pI:Tr->Bool
 |.int _=>Â |.bl _=>Â |.str _=>Â |.aM=>Â |_=>Å
abbrev rq:Tr->V
 |.int n=>.int n |.bl b=>.bl b |.str x=>.str x |_=>.aM
def Bc(r:R K F B t v cs)(h:pI t=Â):v=rq t/\mf v=Â:=by
 cases t with
 |int n=>rw[r.1];show#[rfl,rfl]
 |bl n=>rw[r.1];show#[rfl,rfl]
 |str n=>rw[r.1];show#[rfl,rfl]
 |aM=>rw[r.1];show#[rfl,rfl]
 |_=>cases h
def AO:∀{ts:af}{vs:az}{cs:Cs},Rs K F B ts vs cs->ts.all pI=Â->vs=ts.map rq/\vs.all mf=Â
 |[],_,_,⟨h,_⟩,_=>by rw[h];show#[rfl,rfl]
 |x::xs,_,_,⟨v,r,c,d,h1,h2,h3,h4⟩,h=>by
  rw[Ν,ê] at h;let#[a,e]:=Bc h3 h.1;let#[b,g]:=AO h4 h.2;rw[h1,b,a];show#[rfl,by rw[Ν,<- b,g,<- a,e];rfl]
abbrev sx(x:Tr)(xs:af):Bool:=xG (rq x)<|xs.map rq
abbrev sE(neg:Bool)(x y:Tr)(Q:ay):Prop:=match y with
 |.ah _ a=>pI x=Â /\ a.all pI=Â /\ Q (.bl (if neg=Â then !sx x a else sx x a))
 |.aJ a=>pI x=Â /\ a.all pI=Â /\ Q (.bl (if neg=Â then !sx x a else sx x a))
 |.aT _ m=>k8 x λy=>Q (.bl (if neg=Â then !(look m y).isSome else (look m y).isSome))
 |_=>False
def HN:eh K k (λx y H Q=>u7 K neg x y H Q\/tU neg x y H Q) (sE neg):=λF B H x y D ty w A Q v s b z l n C o hd p q=>by
 unfold sE at p;split at p
 .obtain⟨h1,h2,p⟩:=p;∎;let#[a,vs,r,rfl,d,h,_]:=n.dw s b o;let#[e,g]:=Bc l h1;let#[i,j]:=AO h h2;∎;show .inl #[a,vs,rfl,.inl d,g,j,q _ _ F H [] p `aj #[?_,rfl] .nil λ_ m=>nomatch m];rw[e,i];cases neg<;>rfl
 .obtain⟨h1,h2,p⟩:=p;∎;let#[a,vs,rfl,d,h]:=n.fx s;let#[e,g]:=Bc l h1;let#[i,j]:=AO h h2;∎;show .inl #[a,vs,rfl,.inr d,g,j,q _ _ F H [] p `aj #[?_,rfl] .nil λ_ m=>nomatch m];rw[e,i];cases neg<;>rfl
 .obtain⟨a,vs,r,rfl,d,h,g3,_⟩:=n.ki s b o;unfold k8 at p;split at p
  .rename_i yk ey;obtain rfl:=xp l ey;rcases h.look yk g3 with⟨z1,z2⟩ |⟨x,u,c,e,g,_⟩
   .show .inr ⟨a,Ä,rfl,.inl ⟨vs,yk,d,rfl,z2.symm⟩,q _ _ F H [] p (Gr.aO s) ⟨?_,rfl⟩ .nil λ_ m=>nomatch m⟩;rw[z1];cases neg<;>rfl
   .show .inr #[a,À u,rfl,.inl #[vs,yk,d,rfl,g.symm],q _ _ F H [] p `aj #[?_,rfl] .nil λ_ m=>nomatch m];rw[e];cases neg<;>rfl
  .show p.elim
 .show p.elim
def Be:eh K k (E8 K) (sE Å):=HN
def z0:eh K k (Ee K) (sE Â):=HN
abbrev iX(K:ar)(f:Str)(x:Tr)(Q:ay):Prop:=match x with
 |.ins _ c fs=>(g8 K c /\ bq K c f) /\ (match fs.lookup f with |some t=>Q t |none=>False)
 |_=>False
def Rf.look:∀{fs:bz}{vs:List (Str×V)}{a:Cs}{f:Str}{x:Tr},Rf K F B fs vs a->aw F H a->fs.lookup f=À x->∃u c,vs.lookup f=À u/\R K F B x u c/\aw F H c/\∀p∈c,p∈a:=λ{fs vs a f x} h d e=>by
 let#[w,c,pre,g,i,j,b,_]:=h.at e;rw[b] at d;show#[w,c,i,j,d.left.right,λp m=>by rw[b];show É.mpr<|.inl<|É.mpr<|.inr m]
def Xh(h:br K k te pe):br K k (yV K te f) (p1 (iX K f) pe):=λF B H j i Q J c p q=>by
 show h F B H j i _ _ c p λx v l o M p1 e=>?_
 unfold iX at p1;split at p1
 .obtain⟨ok,p1⟩:=p1;split at p1
  .rename_i t et;∎;let#[a,C,vs,N,rfl,D,E,G,I]:=e.r.qw e.g.s (λk=>(c.b k).trans e.g.h) e.c;let#[u,d,w,y,z,A]:=E.look G et;∎;show#[a,_,C,vs,u,rfl,D,ok.1,ok.2,w,q _ _ l o d p1 #[e.g,y,z,λp m=>e.n p<|I p<|A p m]]
  .show p1.elim
 .show p1.elim
abbrev vY(x y z:Tr)(Q:ay):Prop:=match x with
 |.aT _ m=>k8 y λy=>Q<|(look m y).getD z
 |_=>False
abbrev p3(d:Tr->Tr->Tr->(ay)->Prop)(a pb b:a6):a6:=λj Q=>a j λx=>(match x with |.aT _ _=>True |_=>False)/\pb j λy=>b j λz=>d x y z Q
def T6(ha:br K k ta pa)(hb:br K k tb pb)(hc:br K k tc pc):br K k (DX ta tb tc) (p3 vY pa pb pc):=λF B H j i Q Q' c p q=>by
 show ha F B H j i _ _ c p λx v J N c1 p1 l=>?_
 let#[hx,p1]:=p1;cases x with
 |aT f m=>
  have bB:∀{G},aF H G->∀k,aF (B k) G:=λs k=>(c.b k).trans s
  let#[a,vs,ds,rfl,I,h2,h3,h4]:=l.r.ki l.g.s (bB l.g.h) l.c;show#[a,rfl,.inl #[vs,I],hb J B N j i _ _ (c.gr l.g) p1 λy u M O c2 p2 A=>?_];show hc M B O j i _ _ ((c.gr l.g).gr A.g) p2 λz w E D c3 p3 C=>?_
  have e:=A.g.trans' C.g;unfold vY k8 at p3;dsimp only at p3;split at p3
  .rename_i yk ey;obtain rfl:=xp A.r ey;have o:Rd D a `ay:=(e.h).rd I;rcases (h2.mo e.le (λk=>Le.refl _) m).look yk (h3.gr e) with⟨z1,z2⟩ |⟨x,u,d,U,Y,a3,a4,a5⟩
   .rw[z1] at p3;show#[Ä,.inl #[vs,yk,o,rfl,z2.symm],q _ _ E D c3 p3 #[l.g.trans' e,C.r,C.c,C.n.back<|l.g.h.trans A.g.h]]
   .rw[U] at p3;show#[À u,.inl #[vs,yk,o,rfl,Y.symm],q _ _ E D d p3 #[l.g.trans' e,a3,a4,λp m=>l.n p<|h4 p<|a5 p m]]
  .show p3.elim
 |_=>show hx.elim
nonrec abbrev qQ:=af->(bR->Prop)->Prop
abbrev tW(K:ar)(k:Md)(h:TO)(g:qQ):Prop:=∀(F:Hp)(B:Bool->Hp)(H:Hp)(j:St)(i:af)(Q:bR->Hp->Prop)(d:bR->Prop),gu K k F B H j i->g i d->(∀b e a,d b->Gr F H e a->Q b a)->h j H Q
abbrev Cj:qQ:=λ_ Q=>Q Ä
abbrev Ck(a:a6):qQ:=λj Q=>a j λx=>match x with |.int i=>Q (À i) |_=>False
def Za:tW K k Eb Cj:=λF B H j i Q a c p q=>q Ä F H p<|Gr.aO c.s
def Zb(h:br K k te pe):tW K k (Ek te) (Ck pe):=λF B H j i Q e c p q=>by
 show h F B H j i _ _ c p λx v b d l p1 a=>?_
 split at p1
 .obtain⟨rfl,_⟩:=a.r;show#[_,rfl,q _ b d p1 a.g]
 .show p1.elim
abbrev iY{j:Type}(xs:List j)(l h:bR):List j:=(xs.drop<|HT.d7 ↑xs 0 l).take<|HT.d7 ↑xs ↑xs h - HT.d7 ↑xs 0 l
def Rs.drop:∀(n:Nat){xs:af}{vs:az}{a:Cs},Rs K F B xs vs a->aw F H a->∃d,Rs K F B (xs.drop n) (vs.drop n) d/\aw F H d/\∀p∈d,p∈a
 |0,_,_,a,h,hc=>#[a,h,hc,λ_ m=>m]
 |n + 1,[],_,a,y,_=>by let#[b,e]:=y;show#[[],by rw[b];show#[rfl,rfl],.nil,λ_ m=>nomatch m]
 |n + 1,x::xs,_,_,y,hc=>by
  let#[v,r,c,d,b,e,q,o]:=y;rw[e] at hc;let#[l,g,i,j]:=Rs.drop n o hc.right;show#[l,by rw[b];show g,i,λp m=>by rw[e];show É.mpr<|.inr<|j p m]
def Rs.take:∀(n:Nat){xs:af}{vs:az}{a:Cs},Rs K F B xs vs a->aw F H a->∃d,Rs K F B (xs.take n) (vs.take n) d/\aw F H d/\∀p∈d,p∈a
 |0,_,_,a,h,hc=>#[[],#[rfl,rfl],.nil,λ_ m=>nomatch m]
 |n + 1,[],_,a,y,_=>by let#[b,e]:=y;show#[[],by rw[b];show#[rfl,rfl],.nil,λ_ m=>nomatch m]
 |n + 1,x::xs,_,_,y,hc=>by
  let#[v,r,c,d,b,e,o,u]:=y;rw[e] at hc;let#[i,j,l,g]:=Rs.take n u hc.right;show#[c++i,by rw[b];show#[v,_,c,i,rfl,rfl,o,j],hc.left.app l λp w q z=>?_,λp m=>by rw[e];show (É.mp m).elim (λm=>É.mpr<|.inl m) λm=>É.mpr<|.inr<|g p m];have:=hc.nd;rw[ß,ŋ] at this;show this.2.2 _ (á.mpr #[p,w,rfl]) _<|á.mpr #[q,g q z,rfl]
abbrev ya(x:Tr)(l h:bR)(Q:ay):Prop:=match x with
 |.ah _ a=>Q<|.ah .o<|iY a l h
 |.str x=>↑x <= 1000000 /\ Q (.str<|Txt.slice x l h)
 |_=>False
abbrev B9(a:a6)(pl b:qQ):a6:=λj Q=>a j λx=>pl j λl=>b j λh=>ya x l h Q
def Zc(h:br K k te pe)(hl:tW K k tl pl)(hh:tW K k th ph):br K k (Kv (E9 K) te tl th) (B9 pe pl ph):=λF B H j i Q Q' c p q=>by
 show h F B H j i _ _ c p λx v A D c1 p1 e=>?_
 show hl A B D j i _ _ (c.gr e.g) p1 λl C E p2 z=>?_
 show hh C B E j i _ _ ((c.gr e.g).gr z) p2 λh y G p3 Y=>?_
 have d:=z.trans' Y;have u:=(c.gr e.g).gr d;have r3:=e.r.mo d.le (λk=>Le.refl<|B k) x;have w:=e.c.gr d;unfold ya at p3;split at p3
 .obtain⟨a,vs,ds,rfl,h1,h2,h3,h4⟩:=r3.dw u.s u.b w;show .inl #[a,vs,rfl,h1,λl' o=>?_];∎;let#[d1,I,J,M]:=h2.drop (HT.d7 ↑vs 0 l) h3;let#[d2,N,O,U]:=I.take (HT.d7 ↑vs ↑vs h - HT.d7 ↑vs 0 l) J;let#[n1,n2,n3]:=mw u.s N O o;∎;show q _ _ y _ _ p3 #[(e.g.trans' d).trans' n1,?_,n3,λp m=>?_]
  .unfold iY;rw[<- ↑h2];show n2
  .cases m with
   |head=>show (e.g.h.trans d.h).free o
   |tail _ m=>show e.n p<|h4 p<|M p<|U p m
 .obtain⟨rfl,_⟩:=r3;show .inr #[_,rfl,mZ p3.1,q _ _ y G [] p3.2 #[e.g.trans' d,#[rfl,rfl],.nil,.nil]]
 .show p3.elim
end
section
abbrev l9(ix:bE)(j:af):af:=ix.map λo=>match o with |none=>.aq |some i=>(j[i]?).getD .aq
def eC.pick(e:eC K F B G J):eC K F B `dq (l9 ix J):=λj t h=>by
 unfold l9 at h;rw[Î] at h;cases q:ix[j]? with
 |none=>rw[q] at h;cases h
 |some o=>
  rw[q] at h;cases o with
  |none=>cases h;show .inl rfl
  |some i=>
   cases z:J[i]? with
   |none=>
    have h:À ((J[i]?).getD .aq)=À t:=h;rw[z] at h;cases h;show .inl rfl
   |some u=>
    have h:À ((J[i]?).getD .aq)=À t:=h;rw[z] at h;cases h;show (e i u z).imp id λa=>?_
    let#[v,b,d]:=a;show#[v,?_,d];unfold eA;rw[Î,q];change À ((G[i]?).getD Ä)=_;rw[b];rfl
def uH:∀{a b:St},a.length=↑b->(∀(i:Nat)(v:V),a[i]?=À (À v)->b[i]?=À (À v))->Wk a b
 |[],[],_,_=>.nil
 |[],_::_,h,_=>by cases h
 |_::_,[],h,_=>by cases h
 |none::a,y::b,h,g=>.aM<|uH (Μ h) λi v e=>g (i + 1) v e
 |some x::a,y::b,h,g=>by
  have e:=g 0 x rfl;cases e;show .x5<|uH (Μ h) λi v e=>g (i+1) v e
abbrev n4(K:ar)(e:List Nat)(g:TG)(pg:eW):Prop:=∀(F:Hp)(B:Bool->Hp)(H:Hp)(j:St)(G:af)(x:V)(t:Tr)(Q:St->Hp->Prop)(d:aB),aF F H->eC K F B j G->↑j=↑G->R K F B t x []->pg t G d->(∀a b,eC K F B a b->↑a=↑b->↑a=↑j->(∀i,i ∉ e->a[i]?=j[i]?)->d b->Q a H)->g x j H Q
def eC.set(e:eC K F B G J)(d:↑G=↑J)(r:R K F B t x []):eC K F B (G.set i<|À x) `cG:=λj u h=>by
 by_cases a:j=i
 .subst a;have b:j<↑J:=by have:=BM h;rw[û] at this;show this
  rw[Ā b] at h;cases h;show .inr #[x,Ā (by rw[d];show b),r]
 .rw[ï<|λz=>a z.symm] at h;show (e j u h).imp id λ⟨v,h1,h2⟩=>#[v,by rw[ï<|λz=>a z.symm];show h1,h2]
def Zd:n4 K [i] (kA i) (qD i):=λF B H G J x t Q d s e a r p q=>q _ _ (e.set a r) (by rw[û,û];show a) (by rw[û]) (λj b=>ï λz=>b (by rw[z];show å.mpr rfl)) p
abbrev tT(K:ar)(h:List Nat)(l:o8)(pg:af->af->(aB)->Prop):Prop:=∀(F:Hp)(B:Bool->Hp)(H:Hp)(j:St)(G:af)(g:az)(e:af)(Q:St->Hp->Prop)(d:aB),aF F H->eC K F B j G->↑j=↑G->Rs K F B e g []->pg e G d->(∀a b,eC K F B a b->↑a=↑b->↑a=↑j->(∀i,i ∉ h->a[i]?=j[i]?)->d b->Q a H)->l g j H Q
def T7:tT K [] zm pJ:=λF B H j i g d Q b s e a r p q=>by
 unfold pJ at p;split at p
 .show#[r.1,q j i e a rfl (λ_ _=>rfl) p]
 .show p.elim
def RB(h:n4 K js tg pg)(h':tT K ks tr pr):tT K (js++ks) (yT tg tr) `cQ:=λF B H j G N M Q l s e o r p q=>by
 unfold pF at p;split at p
 .obtain⟨v,w,c,d,h1,h2,h3,h4⟩:=r;have z:=Đ.mp h2.symm;rw[z.1] at h3;rw[z.2] at h4;show#[v,w,h1,h F B H j G v _ _ _ s e o h3 p λu b m y A E J=>h' F B H u b w _ Q l s m y h4 J λx g n C D I p2=>q x g n C (D.trans A) (λi a=>?_) p2];rw[I i λz=>a<|É.mpr<|.inr z,E i λz=>a<|É.mpr<|.inl z]
 .show p.elim
def Ze(h:tT K js tr pr):n4 K js (zo K n tr) `dt:=λF B H j i x t Q b s e d r p q=>by
 unfold nI at p;split at p
 .obtain⟨a,vs,rfl,h1,h2⟩:=r.fx s;show#[a,vs,rfl,h1,h2.length.trans p.1,h F B H j i vs _ Q b s e d h2 p.2 q]
 .show p.elim
abbrev tX:df:=λ_ Q=>Q Â
def Xi:gj K k EZ tX:=λF B H j i Q a c p q=>q Â F H p<|Gr.aO c.s
abbrev nV(h:iR)(pg:eW)(pt:df)(g:a6)(ix:bE):a6:=λj Q=>h j λe _=>∃I:Nat->aB,I 0 []/\
 (∀i t a,e[i]?=À t->I i a->pg t (l9 ix j) λd=>pt d λb=>if b=Â then g d λx=>↑a<1000000/\I (i+1) (a++[x]) else I (i+1) a)/\∀a,I ↑e a->↑a<=1000000/\Q `ex
def G0{wi:TI}{pi:iR}{js:List Nat}{tg:TG}{pg:eW}{ti:TT}{pt:df}{te:TE}{pe:a6}{ix:bE}(hi:mn K k wi pi)(hg:n4 K js tg pg)(ht:gj K k.cR ti pt)(he:br K k.cR te pe)(hj:∀j∈js,ix[j]?=À Ä):br K k (pG wi tg ti te ix) `dQ:=λF B H G O Q Q' c p q=>by
 show hi F B H G O _ _ c p λts nl J F1 H1 p1 M δ _=>?_
 ∎;let#[I,i0,step,α]:=p1;let#[Kp,Y,D,kp,yl]:=δ;∎;have c1:=c.gr M;show BJ (n:=↑ts) (λi A l=>∃w us d,Gr F1 H1 w l/\Rs K w B us A d/\aw w l d/\dB H1 d/\I i us) #[F1,[],[],Gr.aO M.s,#[rfl,rfl],.nil,.nil,i0] ?_ ?_ ?_ ?_
 .rintro i A l hlt ⟨w,us,d,g2,_⟩;show D.go i l hlt<|kp w l g2.le g2.s (c1.gr g2).b
 .rintro A l ⟨w,us,d,g2,_⟩;show D.st l<|kp w l g2.le g2.s (c1.gr g2).b
 .rintro i x A l H3 hlt ⟨w,us,d,g2,r2,hc2,n2,ii⟩ y;have c2:=c1.gr g2;∎;let#[t,et]:=sd hlt;let#[F3,g3,r3]:=yl i t w l x H3 et g2.le g2.s c2.b<|D.yl i l x H3 hlt (kp w l g2.le g2.s c2.b) y;∎;have E:=c2.gr g3;have β:(eA ix G).length=(l9 ix O).length:=by unfold eA l9;rw[Æ,Æ]
  show hg F3 B H3 _ _ x t _ _ E.s E.e.pick β r3 (step i t us et ii) λG2 O2 e2 l2 γ n3 p2=>#[uH γ.symm λj v U=>?_,?_]
  .by_cases hjs:j∈js
   .have z:=hj j hjs;unfold eA at U;rw[Î,z] at U;cases U
   .rw[n3 j hjs];show U
  .have c3':gu K k.cR F3 B H3 G2 O2:=#[E.s,E.b,E.z,e2,λ_ _ _ h=>h.elim]
   show ht F3 B H3 G2 O2 _ _ c3' p2 λb F4 H4 p4 g4=>?_
   have o:=g3.trans' g4;cases b with
   |false=>
    rw[au3 ∎] at p4 ⊢;show#[F4,us,d,g2.trans' o,r2.mo o.le (λk=>Le.refl<|B k) us,hc2.gr o,n2,p4]
   |true=>
    rw[au4 rfl] at p4 ⊢;show he F4 B H4 G2 O2 _ _ (c3'.gr g4) p4 λu v F5 H5 c5 p5 N=>?_
    have C:=o.trans' N.g;show#[Õ (by rw[r2.length];show p5.1) ∎,F5,us++[u],d++c5,g2.trans' C,(r2.mo C.le (λk=>Le.refl<|B k) us).snoc N.r,(hc2.gr C).app N.c λp mp q mq e=>?_,λp m=>?_,p5.2]
    .have:=(hc2.gr o).h p mp;rw[e,N.n q mq] at this;cases this
    .rcases É.mp m with m |m
     .show n2 p m
     .show (g2.h.trans o.h).free (N.n p m)
 .rintro A l ⟨w,us,d,g2,r2,hc2,n2,ii⟩;let#[hl,hq]:=α us ii;show#[by rw[r2.length];show mZ hl,λa ha=>?_];let#[m1,m2,m3]:=mw g2.s r2 hc2 ha;show q _ _ w _ _ hq #[(M.trans' g2).trans' m1,m2,m3,λp m=>?_];cases m with
  |head=>show (M.h.trans g2.h).free ha
  |tail _ m=>show M.h.free<|n2 p m
end
mutual
noncomputable def fv:Tr->Tr->Option Bool
 |.aJ xs,.aJ ys=>if ↑xs=↑ys then cY xs ys else Ä
 |.ah _ xs,.ah _ ys=>if ↑xs=↑ys then cY xs ys else À Å
 |.int a,.int b=>À<|decide<|a=b
 |.str a,.str b=>À<|decide<|a=b
 |.bl a,.bl b=>À<|decide<|a=b
 |.aM,.aM=>À Â
 |_,_=>Ä
noncomputable def cY:List Tr->List Tr->Option Bool
 |[],[]=>À Â
 |x::xs,y::ys=>(fv x y).bind λa=>(cY xs ys).bind λb=>À<|a&&b
 |_,_=>Ä
end
mutual
noncomputable def dep:Tr->Nat
 |.aJ a=>gS a + 1
 |.ah _ a=>gS a + 1
 |_=>0
noncomputable def gS:List Tr->Nat
 |[]=>0
 |x::xs=>max (dep x)<|gS xs
end
section
variable{t':Tr}{b:Bool}
def qB{P:Prop}(e:Ä=À b):P:=nomatch e
def AQ{xs:af}(e:fv `aF t'=À b):∃ys,t'=.aJ ys/\↑xs=↑ys/\cY xs ys=À b:=by
 cases t' with
 |aJ ys=>
  have e:(if ↑xs=↑ys then cY xs ys else Ä)=À b:=e;by_cases h:↑xs=↑ys
  .rw[au4 h] at e;show#[ys,rfl,h,e]
  .rw[au3 h] at e;cases e
 |_=>show qB e
def AS{f:Fl}{xs:af}(e:fv `az t'=À b):∃g ys,t'=.ah g ys/\(if ↑xs=↑ys then cY xs ys else À Å)=À b:=by
 cases t' with
 |ah g ys=>show#[g,ys,rfl,e]
 |_=>show qB e
def HP{a:Int}(e:fv (.int a) t'=À b):∃d,t'=.int d/\b=decide (a=d):=by
 cases t' with
 |int d=>show#[d,rfl,(Þ e).symm]
 |_=>show qB e
def HQ{a:Str}(e:fv (.str a) t'=À b):∃d,t'=.str d/\b=decide (a=d):=by
 cases t' with
 |str d=>show#[d,rfl,(Þ e).symm]
 |_=>show qB e
def Jr{a:Bool}(e:fv (.bl a) t'=À b):∃d,t'=.bl d/\b=decide (a=d):=by
 cases t' with
 |bl d=>show#[d,rfl,(Þ e).symm]
 |_=>show qB e
def HR(e:fv .aM t'=À b):t'=.aM/\b=Â:=by
 cases t' with
 |aM=>show#[rfl,(Þ e).symm]
 |_=>show qB e
abbrev gX:ay
 |.aJ _ |.ah _ _ |.int _ |.str _ |.bl _ |.aM=>False
 |_=>True
def HS{t:Tr}(e:fv t t'=À b)(h:gX t):False:=by
 have:fv t t'=Ä:=by
  cases t with
  |aq |ty |cl |exc |aT |ins=>cases t'<;>rfl
  |_=>show h.elim
 rw[this] at e;show qB e
end
section
mutual
theorem Bf(I:ax X aa j H s)(i:aF F H)(sb:∀k,aF (B k) H):∀(t:Tr)(t':Tr)(v:V)(c d:Cs)(b:Bool),fv t t'=À b->R X.K F B t v c->R X.K F B t' v d->aw F H c->aw F H d->b=Â
 |.aJ C=>λt' v c d b e r g y h=>by
  ∎;let#[D,rfl,_,m]:=AQ e;let#[a,vs,rfl,x,o]:=r.fx i;let#[l,A,u,w,n]:=g.fx i;∎;cases u;have z:=Wv I x w;subst z;show gT I i sb C D vs c d b m o n y h
 |.ah f C=>λt' v c d b e r g y h=>by
  ∎;let#[M,D,rfl,m]:=AS e;let#[a,vs,E,rfl,x,o,J,_]:=r.dw i sb y;let#[l,A,q,u,w,n,G,_]:=g.dw i sb h;∎;cases u;have z:=Ww I x w;subst z;rw[au4<|o.length.symm.trans ↑n] at m;show gT I i sb C D vs E q b m o n J G
 |.int a=>λt' v c d b e r g _ _=>by
  let#[l,rfl,rfl]:=HP e;have:=r.1.symm.trans g.1;cases this;show au6 rfl
 |.str a=>λt' v c d b e r g _ _=>by
  let#[l,rfl,rfl]:=HQ e;have:=r.1.symm.trans g.1;cases this;show au6 rfl
 |.bl a=>λt' v c d b e r g _ _=>by
  let#[l,rfl,rfl]:=Jr e;have:=r.1.symm.trans g.1;cases this;show au6 rfl
 |.aM=>λt' v c d b e r g _ _=>by
  show (HR e).2
 |.aq |.ty _ |.cl _ |.exc _ _ |.aT _ _ |.ins _ _ _=>λt' v c d b e _ _ _ _=>(HS e ø).elim
theorem gT(I:ax X aa j H s)(n:aF F H)(sb:∀k,aF (B k) H):∀(ts:List Tr)(d:List Tr)(vs:List V)(c h:Cs)(b:Bool),cY ts d=À b->Rs X.K F B ts vs c->Rs X.K F B d vs h->aw F H c->aw F H h->b=Â
 |[]=>λd vs c h b e _ _ _ _=>by
  cases d with
  |nil=>cases e;rfl
  |cons _ _=>cases e
 |x::xs=>λd vs c h b e r m i g=>by
  cases d with
  |nil=>cases e
  |cons y o=>
   ∎;let#[v,r,u,z,G,J,M,N]:=r;let#[O,m,w,A,l,C,D,E]:=m;∎;rw[G] at l;cases l;rw[J] at i;rw[C] at g;unfold cY at e;cases e1:fv x y with
   |none=>rw[e1] at e;cases e
   |some a=>
    cases e2:cY xs o with
    |none=>rw[e1,e2] at e;cases e
    |some q=>
     rw[e1,e2] at e;cases e;rw[Bf I n sb x y v u w a e1 M D i.left g.left,gT I n sb xs o r z A q e2 N E i.right g.right];rfl
end
abbrev kq(ts a:af)(j:Nat):Bool:=match ts[j]?,a[j]? with |some x,À y=>(fv x y).getD Å |_,_=>Å
def um:∀{ts d:af}{b:Bool},cY ts d=À b->(È ↑ts).all (kq ts d)=b/\∀(j:Nat)(x y:Tr),ts[j]?=À x->d[j]?=À y->fv x y=À (kq ts d j)
 |[],[],b,e=>by cases e;show#[rfl,λj x y h=>by cases h]
 |[],_::_,b,e=>by cases e
 |_::_,[],b,e=>by cases e
 |x::xs,y::ys,b,e=>by
  unfold cY at e;cases e1:fv x y with
  |none=>rw[e1] at e;cases e
  |some a=>
   cases e2:cY xs ys with
   |none=>rw[e1,e2] at e;cases e
   |some o=>
    rw[e1,e2] at e;cases e;let#[l,m]:=um e2;show#[?_,λj u w g i=>?_]
    .rw[Ý,List.range_succ_eq_map,Ν,List.all_map];have n:kq (x::xs) (y::ys) 0=a:=by change (fv x y).getD Å=a;rw[e1];rfl
     rw[n,<- l];rfl
    .cases j with
     |zero=>cases g;cases i;change fv x y=À ((fv x y).getD Å);rw[e1];rfl
     |succ j=>show m j u w g i
mutual
theorem Zf(I:ax X aa i H s)(E:aF F H)(sb:∀k,aF (B k) H):∀(t:Tr)(t':Tr)(Au:Ĉ)(v m:V)(c n:Cs)(b:Bool)(u w:ϐ),fv t t'=À b->R X.K F B t v c->R X.K F B t' m n->aw F H c->aw F H n->aH v u->aH m w->Au.units+dep t<ņ->Ź Au s u w b
 |.aJ C=>λt' Au v m c n b u w e r l O o g d hu=>by
  have fn:=λ(z:v=m)=>Bf I E sb (.aJ C) t' m c n b e (z ▸ r) l O o
  ∎;let#[J,rfl,hl,N]:=AQ e;let#[a,vs,rfl,Y,D]:=r.fx E;let#[h,G,rfl,U,M]:=l.fx E;∎;obtain rfl:u=Ú a:=g;obtain rfl:w=Ú h:=d;by_cases z:a=h
  .rw[fn (by rw[z]),z];show af8 _
  .unfold dep at hu;let#[al,ix]:=um N;have Q:=Ii (Au:=Au) I Y U ⋯ (by rw[D.length,M.length];show hl) `en (λj x y p q ex ey rx ry=>eM I E sb C J `en Au.in1 vs G c n j x y p q ix D M O o ex ey rx ry (by rw[wL];omega));rw[D.length,al] at Q;show ab6 z Q
 |.ah f C=>λt' Au v m c n b u w e r l O o g d hu=>by
  have fn:=λ(z:v=m)=>Bf I E sb (.ah f C) t' m c n b e (z ▸ r) l O o
  ∎;let#[f',J,rfl,N]:=AS e;let#[a,vs,ds,rfl,Y,D,h3,_]:=r.dw E sb O;let#[h,G,α,rfl,U,M,g3,_]:=l.dw E sb o;∎;obtain rfl:u=Ú a:=g;obtain rfl:w=Ú h:=d;unfold dep at hu;by_cases z:a=h
  .rw[fn (by rw[z]),z];show af8 _
  .split at N
   .rename_i hl;let#[al,ix]:=um N;have Q:=Ij (Au:=Au) I Y U ⋯ (by rw[D.length,M.length];show hl) `en (λj x y p q ex ey rx ry=>eM I E sb C J `en Au.in1 vs G ds α j x y p q ix D M h3 g3 ex ey rx ry (by rw[wL];omega));rw[D.length,al] at Q;show ab6 z Q
   .rename_i hl;cases N;∎;let#[us,r1,t1,_]:=I.list Y;let#[zs,r2,t2,_]:=I.list U;∎;have m1:=↑r1;have m2:=↑r2;have l1:=↑D;have l2:=↑M;show ab6 z (SeqAt.RcAt.lists_lengths t1.isList t2.isList (by simp;omega) ⋯)
 |.int a=>λt' Au v m c n b u w e r l _ _ g d _=>by
  let#[h,rfl,rfl]:=HP e;rw[r.1] at g;rw[l.1] at d;show Uu g d
 |.str a=>λt' Au v m c n b u w e r l _ _ g d _=>by
  let#[h,rfl,rfl]:=HQ e;rw[r.1] at g;rw[l.1] at d;have z:=uv (A:=Au) (s:=s) g d rfl rfl;have e:kr (.str a) (.str h)=decide (a=h):=by change (a == h)=_;rw[ab5]
  rw[e] at z;show z
 |.bl a=>λt' Au v m c n b u w e r l _ _ g d _=>by
  let#[h,rfl,rfl]:=Jr e;rw[r.1] at g;rw[l.1] at d;have z:=uv (A:=Au) (s:=s) g d rfl rfl;have e:kr (.bl a) (.bl h)=decide (a=h):=by change (a == h)=_;rw[ab5]
  rw[e] at z;show z
 |.aM=>λt' Au v m c n b u w e r l _ _ g d _=>by
  let#[rfl,rfl]:=HR e;rw[r.1] at g;rw[l.1] at d;show uv (A:=Au) (s:=s) g d rfl rfl
 |.aq |.ty _ |.cl _ |.exc _ _ |.aT _ _ |.ins _ _ _=>λt' Au v m c n b u w e _ _ _ _ _ _ _=>(HS e ø).elim
theorem eM(I:ax X aa G H s)(C:aF F H)(sb:∀k,aF (B k) H):∀(ts:List Tr)(d:List Tr)(e:Nat->Bool)(Au:Ĉ)(vs g:List V)(c o:Cs)(j:Nat)(x y:V)(u l:ϐ),(∀(j:Nat)(x y:Tr),ts[j]?=À x->d[j]?=À y->fv x y=À (e j))->Rs X.K F B ts vs c->Rs X.K F B d g o->aw F H c->aw F H o->vs[j]?=À x->g[j]?=À y->aH x u->aH y l->Au.units+gS ts<ņ->Ź Au s u l (e j)
 |[]=>λd e Au vs g c o j x y u l _ r _ _ _ ex _ _ _ _=>by rw[r.1] at ex;cases ex
 |t::ts=>λd e Au vs g c o j x y u l z r q w h ex m A n hu=>by
  cases d with
  |nil=>rw[q.1] at m;cases m
  |cons D d=>
   ∎;let#[v,r,E,M,h1,h2,h3,h4]:=r;let#[v',q,J,N,O,Q,U,Y]:=q;∎;rw[h1] at ex;rw[O] at m;rw[h2] at w;rw[Q] at h;unfold gS at hu;cases j with
   |zero=>
    cases ex;cases m;show Zf I C sb t D Au _ _ E J (e 0) u l (z 0 t D rfl rfl) h3 U w.left h.left A n ⋯
   |succ j=>show eM I C sb ts d (λi=>e<|i+1) Au r q M N j x y u l (λi a b ha hb=>z (i+1) a b ha hb) h4 Y w.right h.right ex m A n ⋯
end
def Xj(I:ax X aa G H s)(g:dM X.K H a xs)(h:dM X.K H b ys)(B:Au.units<ņ)(M:↑xs=↑ys)(e:Nat->Bool)(he:∀(j:Nat) x y u v,xs[j]?=À x->ys[j]?=À y->aH x u->aH y v->Ź Au.in1 s u v (e j)):am6 Au s `ax `eh (!(È ↑xs).all e):=by
 ∎;let#[us,n,E,_]:=I.tuple g;let#[d,r2,J,_]:=I.tuple h;∎;have N:=↑n;have O:=↑r2;have z:=SeqAt.RcNeAt.tuples (A:=Au) (e:=e) E J B<|λj g h=>?_
 .have e0:((È<|min us.toArray.size d.toArray.size).all e&&us.toArray.size == d.toArray.size)=(È ↑xs).all e:=by
   simp only[â];have l:min ↑us ↑d=↑xs:=⋯
   have m:(↑us == ↑d)=Â:=by simp;omega
   rw[l,m,al3]
  rw[e0] at z;show z
 .simp only[â] at g h;∎;let#[u,l,C]:=n.get (i:=j) (x:=xs[j]'⋯) ∅;let#[v,m,D]:=r2.get (i:=j) (x:=ys[j]'⋯) ∅;let#[_,o]:=Á.mp l;let#[_,q]:=Á.mp m;∎;have r:us.toArray[j]'(by simpa using g)=u:=by simpa using o
  have w:d.toArray[j]'(by simpa using h)=v:=by simpa using q
  rw[r,w];show he j _ _ u v ∅ ∅ C D
abbrev wh(K:ar)(neg:Bool):R2:=λx y H Q=>∃(F:Hp)(B:Bool->Hp)(t d:Tr)(c a:Cs)(b:Bool),aF F H/\(∀k,aF (B k) H)/\R K F B t x c/\R K F B d y a/\aw F H c/\aw F H a/\fv t d=À b/\dep t<=60/\1<=dep t/\Q (.bl (if neg=Â then !b else b)) H
def Js{x y:V}(hu:X.A.units+64<ņ)(I:ax X aa i H s)(E:aF F H)(sb:∀k,aF (B k) H)(r:R X.K F B t x c)(r':R X.K F B t' y c')(hc:aw F H c)(G:aw F H c')(e:fv t t'=À b)(d:dep t<=60)(d1:1<=dep t)(C:aH x v)(D:aH y u):ar7 X.A s v u b/\am6 X.A s v u (!b):=by
 cases t with
 |aJ h=>
  let#[m,rfl,J,e]:=AQ e;unfold dep at d;∎;let#[a,vs,rfl,z,n]:=r.fx E;let#[Q,g,rfl,o,w]:=r'.fx E;∎;obtain rfl:v=Ú a:=C;obtain rfl:u=Ú Q:=D;let#[al,ix]:=um ‹cY h m=À b›;have it:=λ(j:Nat)(x y:V)(p q:au) ex Y C D=>eM I E sb h m `cy X.A.in1 vs g c c' j x y p q ix n w hc G ex Y C D (by rw[wL];omega)
  have l:↑vs=↑g:=by rw[n.length,w.length];show J
  have M:=Ii (Au:=X.A) I z o ⋯ l `cy it;have N:=Xj (Au:=X.A) I z o ⋯ l `cy it;rw[n.length,al] at M N;show#[M,N]
 |ah f h=>
  let#[f',m,rfl,O]:=AS e;unfold dep at d;∎;let#[a,vs,ds,rfl,z,n,h3,_]:=r.dw E sb hc;let#[Q,g,U,rfl,o,w,g3,_]:=r'.dw E sb G;∎;obtain rfl:v=Ú a:=C;obtain rfl:u=Ú Q:=D;by_cases J:↑h=↑m
  .rw[au4 J] at O;let#[al,ix]:=um O;have it:=λ(j:Nat)(x y:V)(p q:au) ex Y C D=>eM I E sb h m `cy X.A.in1 vs g ds U j x y p q ix n w h3 g3 ex Y C D (by rw[wL];omega)
   have l:↑vs=↑g:=by rw[n.length,w.length];show J
   have M:=Ij (Au:=X.A) I z o ⋯ l `cy it;have N:=WG (Au:=X.A) I z o ⋯ l `cy it;rw[n.length,al] at M N;show#[M,N]
  .rw[au3 J] at O;cases O;∎;let#[us,r1,t1,_]:=I.list z;let#[zs,r2,t2,_]:=I.list o;∎;have m1:=↑r1;have m2:=↑r2;have l1:=↑n;have l2:=↑w;show#[.lists_lengths t1.isList t2.isList (by simp;omega) ⋯,.lists_lengths (A:=X.A) t1.isList t2.isList (by simp;omega) ⋯]
 |_=>show au5 d1<|Nat.not_succ_le_zero 0
def Zg(l:X.A.units+64<ņ):cw X (í .Eq) (wh X.K Å):=by
 intro aa s j H x y v u Q I n o h;let#[F,B,t,D,c,C,b,z,sb,r,m,i,a,e,d,g,q]:=h;show (Js l I z sb r m i a e d g n o).1 X.prog X.w X.xe _ #[.bl b,H,I,rfl,q]
def Zh(l:X.A.units+64<ņ):cw X `dL (wh X.K Â):=by
 intro aa s j H x y v u Q I n o h;let#[F,B,t,D,c,C,b,z,sb,r,m,i,a,e,d,g,q]:=h;show (Js l I z sb r m i a e d g n o).2 X.prog X.w X.xe _ #[.bl (!b),H,I,rfl,q]
abbrev Fc(K:ar):R2:=λx y H Q=>Cp x y H Q\/wh K Å x y H Q
def eI(a:X.A.units+64<ņ:=by show bD.units<|by assumption):cw X (í .Eq) (Fc X.K):=M5.or<|Zg a
abbrev Fd(K:ar):R2:=λx y H Q=>u9 x y H Q\/wh K Â x y H Q
def iB(a:X.A.units+64<ņ:=by show bD.units<|by assumption):cw X `dL (Fd X.K):=Eg.or<|Zh a
abbrev lY(neg:Bool)(x y:Tr)(Q:ay):Prop:=match x,y with
 |.int a,.int b=>Q (.bl (if neg=Â then !decide (a=b) else decide (a=b)))
 |.str a,.str b=>Q (.bl (if neg=Â then !decide (a=b) else decide (a=b)))
 |.bl a,.bl b=>Q (.bl (if neg=Â then !decide (a=b) else decide (a=b)))
 |x,y=>tV neg x y Q \/ ∃b,fv x y=À b /\ dep x <= 60 /\ 1 <= dep x /\ Q (.bl (if neg=Â then !b else b))
def eG:eh K k (Fc K) (lY Å):=λF B H x y o ty i j Q r s b z a g l n hd p q=>by
 unfold lY at p;split at p
 .obtain⟨rfl,_⟩:=a;let#[rfl,_]:=g;show .inl #[rfl,q _ _ F H [] p `aj #[?_,rfl] .nil λ_ m=>nomatch m];show au9 V.bl (decide_eq_decide.mpr #[λh=>V.int.inj h,λh=>by rw[h]])
 .obtain⟨rfl,_⟩:=a;let#[rfl,_]:=g;show .inl #[rfl,q _ _ F H [] p `aj #[?_,rfl] .nil λ_ m=>nomatch m];show au9 V.bl (decide_eq_decide.mpr #[λh=>V.str.inj h,λh=>by rw[h]])
 .obtain⟨rfl,_⟩:=a;let#[rfl,_]:=g;show .inl #[rfl,q _ _ F H [] p `aj #[?_,rfl] .nil λ_ m=>nomatch m];show au9 V.bl (decide_eq_decide.mpr #[λh=>V.bl.inj h,λh=>by rw[h]])
 .rcases p with p |p
  .show .inl (XT (k:=k) F B H x y o ty i j Q r s b z a g l n hd p q)
  .obtain⟨bb,e,d,d1,p⟩:=p;show .inr #[F,B,o,ty,i,j,bb,s,b,a,g,l,n,e,d,d1,q _ _ F H [] p `aj #[rfl,rfl] .nil λ_ m=>nomatch m]
def iu:eh K k (Fd K) (lY Â):=λF B H x y o ty i j Q r s b z a g l n hd p q=>by
 unfold lY at p;split at p
 .obtain⟨rfl,_⟩:=a;let#[rfl,_]:=g;show .inl #[rfl,q _ _ F H [] p `aj #[?_,rfl] .nil λ_ m=>nomatch m];show au9 (λb=>V.bl (!b)) (decide_eq_decide.mpr #[λh=>V.int.inj h,λh=>by rw[h]])
 .obtain⟨rfl,_⟩:=a;let#[rfl,_]:=g;show .inl #[rfl,q _ _ F H [] p `aj #[?_,rfl] .nil λ_ m=>nomatch m];show au9 (λb=>V.bl (!b)) (decide_eq_decide.mpr #[λh=>V.str.inj h,λh=>by rw[h]])
 .obtain⟨rfl,_⟩:=a;let#[rfl,_]:=g;show .inl #[rfl,q _ _ F H [] p `aj #[?_,rfl] .nil λ_ m=>nomatch m];show au9 (λb=>V.bl (!b)) (decide_eq_decide.mpr #[λh=>V.bl.inj h,λh=>by rw[h]])
 .rcases p with p |p
  .show .inl (XU (k:=k) F B H x y o ty i j Q r s b z a g l n hd p q)
  .obtain⟨bb,e,d,d1,p⟩:=p;show .inr #[F,B,o,ty,i,j,bb,s,b,a,g,l,n,e,d,d1,q _ _ F H [] p `aj #[rfl,rfl] .nil λ_ m=>nomatch m]
end
abbrev CF(K:ar)(k:Md)(g:a6):TE:=λj H Q=>∃(F:Hp)(B:Bool->Hp)(i:af)(b:ay),gu K k F B H j i/\g i b/\∀t v d a e,b t->Out K F B H d a t v e->Q v a
abbrev wj(K:ar)(k:Md)(g:df):TT:=λj H Q=>∃(F:Hp)(B:Bool->Hp)(i:af)(d:Bool->Prop),gu K k F B H j i/\g i d/\∀b e a,d b->Gr F H e a->Q b a
section
def QE.of(h:QE X k e pe):PE X e (CF X.K k pe):=λaa s j H Q I y=>by
 ∎;let#[F,B,i,a,g,l,m]:=y;let#[n,b,d]:=h.h;∎;show b aa s j H Q I<|d F B H j i Q a g l m
def xr:br K k (CF K k pe) pe:=λF B H j i Q a b d e=>#[F,B,i,a,b,d,e]
def QT.of(h:QT X k e pe):PT X e (wj X.K k pe):=λaa s j H Q I y=>by
 ∎;let#[F,B,i,a,g,l,m]:=y;let#[n,b,d]:=h.h;∎;show b aa s j H Q I<|d F B H j i Q a g l m
def w9:gj K k (wj K k pe) pe:=λF B H j i Q a b d e=>#[F,B,i,a,b,d,e]
def xI(d:QE X k a pa)(e:QE X k b pb):QE X k (.BinOp a .Pow b pos) (p2 (jx wA λi j=>.int<|i ^ j.toNat) pa pb):=qh Yq (BK λ_ _ _ _=>#[rfl,rfl]) d e
def iE(i:bQ X `bt r)(l:mM X.K k r pr)(hm:X.mg x=Ä)(g:QA X k (e::es) ps)(j:do Gl X x)(m:do Ō x=À `bt)(hn: ~~~(x≠"__name__"))(a: ~~~(dS x))(he:do ew e es X.env)(hpl:do gf pos es X.env):
  QE X k (.Call `aN (e::es) [] pos) (pB pr ps):=by
 let#[n,b,d]:=g.h;show#[_,pN i j hm m b hn a he hpl,JB l d]
def xt:QE X k (.Dict [] [] pos) za:=#[_,Ui,T3]
def K9(h:QE X k e pe)(d:do ú e f X.env `bg=eval e X.env):QE X k `aK (p1 (iX X.K f) pe):=by
 let#[g,a,b]:=h.h;show#[_,HH a d,Xh b]
def Bg(m:QE X k o po)(he:QE X k e pe)(l:QE X k f pf)(hm:M2 X o "get" apos e f bu:=by show#[rfl,rfl,rfl,rfl])(n:X.A.units+1<ņ:=by assumption):QE X k (.Call (.Attribute o "get" apos) [e,f] [] bu) (p3 vY po pe pf):=by
 ∎;let#[q,i,j]:=m.h;let#[r,d,g]:=he.h;let#[u,a,b]:=l.h;∎;show#[_,Uk n i d a hm,T6 j g b]
structure QO(X:Cx)(k:Md)(e:Option đ)(pe:qQ):Prop where
 h:∃te,PO X e te/\tW X.K k te pe
def uV:QO X k Ä Cj:=#[_,Wo,Za]
def qq(h:QE X k e pe):QO X k (À e) (Ck pe):=by
 let#[d,a,b]:=h.h;show#[_,Wq a,Zb b]
def sr{e:đ}{a:a6}{l h:Option đ}{pl b:qQ}{p2:Pos}(he:QE X k e a)(q:QO X k l pl)(o:QO X k h b):QE X k (.Subscript e (.Slice l h Ä p2) pos) (B9 a pl b):=by
 ∎;let#[r,m,n]:=he.h;let#[u,i,j]:=q.h;let#[v,d,g]:=o.h;∎;show#[_,Ul Mf m i d,Zc n j g]
structure QG(X:Cx)(k:Md)(lo:Nat)(e:đ)(pg:eW):Prop where
 h:∃tg,PG X e tg/\pL X.K k lo tg pg
structure vl(X:Cx)(k:Md)(lo:Nat)(es:bS)(pg:af->af->(aB)->Prop):Prop where
 h:∃tg,qP X es tg/\tP X.K k lo tg pg
def cD(i:Nat)(a:X.N.Nodup:=by assumption)(e: ~~~(lo<=i))(d:do X.N[i]?=À x)(g:Loc X.env.scope x:=by first |show ϛ rfl |show ŵ rfl)(b:kX X x:=by first |show .inl rfl |show .inr rfl |assumption):QG X k lo `am (qD i):=#[_,AF a d g b,Y5 e]
def gL:vl X k lo [] pJ:=#[_,HZ,Se]
def dz(h:QG X k lo e pg)(h':vl X k lo es pr)(hs:do (ĥ (e::es) X.env).map (·.2)=assign e X.env::(ĥ es X.env).map (·.2)):vl X k lo (e::es) `cQ:=by
 ∎;let#[i,d,g]:=h.h;let#[j,a,b]:=h'.h;∎;show#[_,G7 d a hs,QX g b]
def gO(d:X.calm=Â)(h:vl X k lo es pr)(hn:do (ĥ es X.env).length=n)(e:do (ĥ es X.env).findIdx? (·.1)=Ä):QG X k lo `eo `dt:=by
 let#[g,a,b]:=h.h;show#[_,Jk d a hn e,Y6 b]
structure QI(X:Cx)(k:Md)(tg e:đ)(pi:iR):Prop where
 h:∃ti,PI X tg e ti/\mn X.K k ti pi
section
def dY(h:QE X k l pl):QI X k tg l (Cg pl):=by
 let#[d,a,b]:=h.h;show#[_,WZ a,Ry b]
def uI(hm:X.mg "range"=Ä)(h:QA X k [l] ps)(d:do Gl X "range")(hs:do l5 l X.env):QI X k tg (.Call (.Name "range" p) [l] [] pos) (zC ps):=by
 let#[e,a,b]:=h.h;show#[_,Q4 d hm a hs,Xc b]
def La(hm:X.mg "range"=Ä)(h:QA X k [l,m] ps)(e:do Gl X "range")(hs:do qT l m X.env)(a:do l5 m X.env):QI X k tg (.Call (.Name "range" p) [l,m] [] pos) (zD ps):=by
 let#[g,b,d]:=h.h;show#[_,Q5 e hm b hs a,Xd d]
def su(hm:X.mg "enumerate"=Ä)(h:QA X k [l] ps)(d:do Gl X "enumerate")(hs:do l5 l X.env):QI X k `cb (.Call (.Name "enumerate" p) [l] [] pos) (Cf ps):=by
 let#[e,a,b]:=h.h;show#[_,WB d hm a hs,Rz b]
def kI(hm:X.mg "zip"=Ä)(h:QA X k [l,m] ps)(e:do Gl X "zip")(hs:do qT l m X.env)(a:do l5 m X.env):QI X k `cb (.Call (.Name "zip" p) [l,m] [] pos) (Ci ps):=by
 let#[g,b,d]:=h.h;show#[_,ZM e hm b hs a,TZ d]
end
def bM(i:Nat)(h:QE X k e pe)(d:X.N.Nodup:=by assumption)(l: ~~~(lo<=i))(j:do X.N[i]?=À x)(m:Loc X.env.scope x:=by first |show ϛ rfl |show ŵ rfl)(hs:do Ĭ e (À<|.Name x pos') pos.line X.env=pure Å)(g:kX X x:=by first |show .inl rfl |show .inr rfl |assumption):
  QS X k lo (.Assign [.Name x pos'] e pos) (rl i pe):=by
 let#[n,a,b]:=h.h;show#[_,uD d j m a hs g,Ai l b]
def xJ(h:QE X k e pe)(m:QG X k lo tg pg)(i:do ab3 [tg] e pos.line X.env=pure Å)(j:do ab2 [tg] e X.env=pure Ä)(l:do (ĥ [tg] X.env).map (·.2)=[assign tg X.env]):QS X k lo (.Assign [tg] e pos) (zy pe pg):=by
 ∎;let#[n,a,b]:=h.h;let#[o,d,g]:=m.h;∎;show#[_,Jl a d i j l,X7 b g]
def Lb(i j:Nat){x y:Str}{ps:cG}{m n pt d:Pos}{l k2:Nat}(h:QA X k [a,b] ps)(u:do X.calm=Â)(r:X.N.Nodup:=by assumption)(z: ~~~(lo<=i))(g: ~~~(lo<=j))(v:do X.N[i]?=À x)(w:do X.N[j]?=À y)(e: ~~~(i≠j))(B:do X.env.scope.names.lookup x=À .local)(C:do X.env.scope.names.lookup y=À .local)(hs:do ab2 [.Tuple [.Name x m,.Name y n] l pt] (.Tuple [a,b] k2 d) X.env=pure (À [x,y]))(A:do ab3 [.Tuple [.Name x m,.Name y n] l pt] (.Tuple [a,b] k2 d) pos.line X.env=pure Å):QS X k lo (.Assign [.Tuple [.Name x m,.Name y n] l pt] (.Tuple [a,b] k2 d) pos) (zA i j ps):=by
 let#[D,o,q]:=h.h;show#[_,Yn u r v w e B C o hs A,X8 z g q]
def fk(n:QI X k tg iter pi)(m:QG X k lo tg pg)(j:QB X k lo body pb)(hp:ac3 `aa X.A X.env X.xe:=by first |show ag0 |show fw rfl)(l:do X.calm=Â)(hs:∀x,Ě iter X.env x=pure x:=by intro _;rfl):QS X k lo (.For tg iter body [] pos) (zB pi pg pb):=by
 ∎;let#[o,g,i]:=n.h;let#[q,d,e]:=m.h;let#[tb,a,b]:=j.h;∎;show#[_,Jm hp l g d a hs,Yb i e b]
def Zi(u:QE X k o po)(r:QG X k.walk lo `dw pg)(n:QB X k.walk lo body pb)(hz:do k.z=Â)(hp:ac3 `aa X.A X.env X.xe:=by first |show ag0 |show fw rfl)(q:do X.calm=Â)(j:do ú o "items" X.env `as=eval o X.env)(l:do (apos.endLine == bu.line)=Â)(m:∀x,Ě (.Call (.Attribute o "items" apos) [] [] bu) X.env x=pure x:=by intro _;rfl):
  QS X k lo (.For `dw (.Call (.Attribute o "items" apos) [] [] bu) body [] pos) (yK .it po pg pb):=by
 ∎;let#[v,d,e]:=u.h;let#[y,g,i]:=r.h;let#[tb,a,b]:=n.h;∎;show#[_,Wr hp q d g a j l m,T5 hz e i b]
def dy(i:Nat)(b:do X.N[i]?=À x)(d:o9 X.env.scope x:=by first |show ϛ rfl |show ŵ (ϛ rfl) |show ŵ<|ŵ rfl)(hd: ~~~(dS x))(a: ~~~((x == ("__classdict__":Str))=Å)):PE X `am (tR X.K i []):=xA b d hd a
def m8(hp:PE X o `bi)(h:QE X k e pe)(g:do ú o "append" X.env `as=eval o X.env)(j:do (((Ų bu<|ā [e] X.env).all (!·.1)&&(ϸ bu<|Ř [] X.env).all (·.1.isSome))&&decide (([e].length+([]:List aa6).length+if ([]:List aa6).isEmpty=Â then 0 else 1)<30))=Â)(l:do (apos.endLine == bu.line)=Â)(a:do ew e [] X.env)(hs:do Ĭ (.Call (.Attribute o "append" apos) [e] [] bu) Ä spos.line X.env=pure Å):
  QS X k lo (.Expr (.Call (.Attribute o "append" apos) [e] [] bu) spos) (zE X.K i r pe):=by
 let#[m,b,d]:=h.h;show#[_,wR (Km PySem.F.plainAttrs_list slot_list_append type_list_append Rg hp (ll b mz a) g j l a rfl) hs,Xe d]
def qb(hp:PE X o `bi)(u:QE X k j pj)(h:QE X k e pe)(q:∀v,assign `dx X.env v=(do
   let ov <- holding [v] (eval o X.env)
   let iv <- holding [v,ov] (eval j X.env)
   ae3 pos'
   holding [v,ov,iv] (setItem ov iv v)
   release [v,ov,iv] []):=by intro _;rfl)(l:do ab3 [.Subscript o j pos'] e pos.line X.env=pure Å)(m:do ab2 [.Subscript o j pos'] e X.env=pure Ä)(n:do (ĥ [.Subscript o j pos'] X.env).map (·.2)=[assign `dx X.env]):
  QS X k lo (.Assign [.Subscript o j pos'] e pos) (y9 X.K i r pj pe):=by
 ∎;let#[w,a,b]:=h.h;let#[x,d,g]:=u.h;∎;show#[_,Jl a (Ym hp d Um q) l m n,T1 b g]
def xK(hp:PE X o `bi)(l:QE X k j pj)(h:QE X k e pe)(m:X.A.units+1<ņ:=by assumption)(hs:do Ĭ e (À<|.Subscript o j pos') pos.line X.env=pure Å):QS X k lo (.Assign [.Subscript o j pos'] e pos) (zF X.K i r pj pe):=by
 ∎;let#[n,a,b]:=h.h;let#[q,d,g]:=l.h;∎;show#[_,Xa m hp d a hs,Xf b g]
def qd(hp:PE X o `bi)(h:QE X k e pe)(hs:do Ĭ e (À<|.Attribute o f pos') pos.line X.env=pure Å):QS X k lo (.Assign [.Attribute o f pos'] e pos) (yJ X.K i r f pe):=by
 let#[d,a,b]:=h.h;show#[_,Jo hp a hs,T4 b]
structure o7(X:Cx)(scope:Ρ)(N:aj)(js:List Nat)(e:đ)(pg:eW):Prop where
 h:∃tg,(∀C s H fp pl,PG `ai e tg)/\n4 X.K js tg pg
structure wk(X:Cx)(scope:Ρ)(N:aj)(js:List Nat)(es:bS)(pg:af->af->(aB)->Prop):Prop where
 h:∃tg,(∀C s H fp pl,qP `ai es tg)/\tT X.K js tg pg
section
def c7(i:Nat)(b: ~~~(N.Nodup))(d:do N[i]?=À x)(a:∀C s H fp pl,(cW X scope N C s H fp pl).env.scope.names.lookup x=À .local:=by intros;rfl):o7 X scope N [i] `am (qD i):=#[_,λC s H fp pl=>AF (X:=cW X scope N C s H fp pl) b d (.inl<|a C s H fp pl)<|.inr<|a C s H fp pl,Zd]
def pP:wk X scope N [] [] pJ:=#[_,λ_ _ _ _ _=>HZ,T7]
def jC(h:o7 X scope N js e pg)(h':wk X scope N ks es pr)(hs:∀C s H fp pl,(ĥ (e::es) (cW X scope N C s H fp pl).env).map (·.2)=assign e (cW X scope N C s H fp pl).env::(ĥ es (cW X scope N C s H fp pl).env).map (·.2):=by intros;rfl):wk X scope N (js++ks) (e::es) `cQ:=by
 ∎;let#[i,d,g]:=h.h;let#[j,a,b]:=h'.h;∎;show#[_,λC s H fp pl=>G7 (d C s H fp pl) (a C s H fp pl)<|hs C s H fp pl,RB g b]
def qr(d:X.calm=Â)(h:wk X scope N js es pr)(hn:∀C s H fp pl,(ĥ es (cW X scope N C s H fp pl).env).length=n:=by intros;rfl)(e:∀C s H fp pl,(ĥ es (cW X scope N C s H fp pl).env).findIdx? (·.1)=Ä:=by intros;rfl):o7 X scope N js `eo `dt:=by
 let#[g,a,b]:=h.h;show#[_,λC s H fp pl=>Jk (X:=cW X scope N C s H fp pl) d (a C s H fp pl) (hn C s H fp pl)<|e C s H fp pl,Ze b]
structure qS(Y:Cx)(k:Md)(es:bS)(pt:df):Prop where
 h:qR Y es (wj Y.K k pt)
def xa:qS X k [] tX:=#[λaa s j H Q I a=>by let#[F,B,i,b,d,e,g]:=a;show Wx aa s j H Q I<|Xi (k:=k) F B H j i Q b d e g]
def pR{e:đ}{pt:df}(h:QT X k e pt):qS X k [e] pt:=#[HD h.of]
variable{elt target iter:đ}{ifs:bS}{ix:bE}{pi:iR}{pg:eW}{pt:df}{pe:a6}{js:List Nat}
def gg(N:aj)(ix:bE)(u:QI X k target iter pi)(r:o7 X a N js target pg)(he:∀C s H fp pl,QE `aq k.cR elt pe)(ht:∀C s H fp pl,qS `aq k.cR ifs pt:=by show λ_ _ _ _ _=>xa)(q:do X.calm=Â)(i:bL X a N ix:=by repeat first |show ø |show#[rfl,rfl,rfl,?_])(v: ~~~(∀j∈js,ix[j]?=À Ä))(e:do a.kind=.function)(d: ~~~(∀y∈a.names,y.2≠.cell))(b: ~~~(∀x∈a.names,x.2=.local->a.names.lookup x.1=À .local))(g:do jZ a X.env=Â)(hs:∀x,Ě iter X.env x=pure x:=by intro _;rfl):
  QE X k (.ListComp elt [#[target,iter,ifs,0]] a pos) `dQ:=by
 ∎;let#[w,n,o]:=u.h;let#[z,l,m]:=r.h;∎;show#[_,AK q n l (λC s H fp pl=>(ht C s H fp pl).h) (λC s H fp pl=>(he C s H fp pl).of) i e d b g hs,G0 o m w9 xr v]
def mY(i:Nat)(N:aj)(ix:bE)(B:QI X k target iter pi)(A:o7 X a N js target pg)(he:∀C s H fp pl,QE `aq k.cR elt pe)(ht:∀C s H fp pl,qS `aq k.cR ifs pt:=by show λ_ _ _ _ _=>xa)(v:X.N.Nodup:=by assumption)(E: ~~~(lo<=i))(n:do X.N[i]?=À y)(G:Loc X.env.scope y:=by first |show ϛ rfl |show ŵ rfl)(w:do X.calm=Â)(l:bL X a N ix:=by repeat first |show ø |show#[rfl,rfl,rfl,?_])(D: ~~~(∀j∈js,ix[j]?=À Ä))(m:Ĭ (.ListComp elt [#[target,iter,ifs,0]] a pos) (À<|.Name y py) spos.line X.env=pure Â:=by with_unfolding_all rfl)(e:do a.kind=.function)(d: ~~~(∀y∈a.names,y.2≠.cell))(b: ~~~(∀x∈a.names,x.2=.local->a.names.lookup x.1=À .local))(g:do jZ a X.env=Â)(hs:∀x,Ě iter X.env x=pure x:=by intro _;rfl)(z:kX X y:=by first |show .inl rfl |show .inr rfl |assumption):
  QS X k lo (.Assign [.Name y py] (.ListComp elt [#[target,iter,ifs,0]] a pos) spos) (rl i<|nV pi pg pt pe ix):=by
 ∎;let#[I,r,u]:=B.h;let#[J,o,q]:=A.h;∎;show#[_,HE v n G w r o (λC s H fp pl=>(ht C s H fp pl).h) (λC s H fp pl=>(he C s H fp pl).of) l m e d b g hs z,Ai E<|G0 u q w9 xr D]
end
end
section
def Lk.md(L:Lk K k lo us Fb Hb D D')(hz:k.z=Â->k'.z=Â)(x:∀x g b e,k.q x->∀d,XF K b d x.f->Gr Fb Hb b e->k.E g x.c d e):Lk K k' lo us Fb Hb D D':=
 #[λF H j i a W=>L.nx F H j i a<|W.md hz x,λF H j i a v t c W=>L.rt F H j i a v t c<|W.md hz x,λF H j i a W=>L.bk F H j i a<|W.md hz x,λF H j i a W=>L.ct F H j i a<|W.md hz x]
abbrev yF(q:Xv->Prop)(C:ai)(a:a6):b8:=λ_ j=>a `af λ_=>q<|.ref C
def RC(h:br K #[z,λ_=>E,q] te pe):dh K #[z,λ_=>E,q] lo (DY C E te) (yF q C pe):=λus l d F H j i m D e W p L=>
 h F `df H j _ _ _ W.e8 p λt v a b c q o=>W.x `ag j a b q Ä `al<|W.g.trans' o.g
def bg.unset{i:Nat}(W:bg K k lo us Fb Hb F H G J cs)(y:lo<=i):bg K k lo us Fb Hb F H (G.set i Ä) (J.set i .aq) (λj=>if j=i then [] else cs j) where
 g:=W.g
 z:=W.z
 l:=by rw[û,û];show W.l
 e:=λj u h=>by
  by_cases e:j=i
  .subst e;have w:j<↑J:=by have:=(Á.mp h).1;rw[û] at this;show this
   rw[Ā w] at h;cases h;show .inl rfl
  .rw[ï<|λz=>e z.symm] at h;rw[au3 e];show (W.e j u h).imp id λ⟨v,h1,h2⟩=>#[v,by rw[ï<|λz=>e z.symm];show h1,h2]
 c:=λj=>by
  split
  .show .nil
  .show W.c j
 n:=λj=>by
  split
  .show .nil
  .show W.n j
 d:=λa b ne p m q o=>by
  by_cases r:a=i
  .rw[au4 r] at m;cases m
  .rw[au3 r] at m;by_cases eb:b=i
   .rw[au4 eb] at o;cases o
   .rw[au3 eb] at o;show W.d a b ne p m q o
 p:=λj h=>by rw[ï ⋯];show W.p j h
 x:=W.x
abbrev Pd.less(D:Pd)(i:Nat):Pd:={ nx:=λj=>D.nx<|j.set i .aq,rt:=D.rt,bk:=λj=>D.bk<|j.set i .aq,ct:=λj=>D.ct (j.set i .aq) }
def Lk.less(b:lo<=i)(L:Lk K k lo us Fb Hb D D'):Lk K k lo us Fb Hb `cP (D'.less i):=
 #[λF H j G a W q=>L.nx F H _ _ _ `dR q,λF H j G a v t c W r e n d g q=>L.rt F H j G a v t c W r e n d g q,λF H j G a W q=>L.bk F H _ _ _ `dR q,λF H j G a W q=>L.ct F H _ _ _ `dR q]
abbrev Fe(K:ar)(k:Md)(lo:Nat)(ps:b8):TS:=λD j H=>∃(us:az)(b d F:Hp)(i:af)(e:Nat->Cs)(a:Pd),bg K k lo us b d F H j i e/\ps a i/\Lk K k lo us b d D a
def QB.of(h:QB X k lo sts ps):fV X sts (Fe X.K k lo ps):=λaa s j H D I y=>by
 ∎;let#[us,b,d,F,i,e,a,m,n,o]:=y;let#[q,g,l]:=h.h;∎;show g aa s j H D I<|l us b d F H j i e D a m n o
def Xk:dh K k lo (Fe K k lo ps) ps:=λus b d F H j i e D a g h l=>#[us,b,d,F,i,e,a,g,h,l]
abbrev vm(K:ar)(k:Md)(lo:Nat)(q:TE->TS)(o:a6->b8):Prop:=∀(us:az)(d a F H:Hp)(j:St)(i:af)(n:Nat->Cs)(D:Ends)(b:Pd)(l:TE)(h:a6),bg K k lo us d a F H j i n->Lk K k lo us d a D b->(∀Q g,h (i.map aI) g->(∀t v m e c,g t->Out K F (Bq a H) H m e t v c->Q v e)->l j H Q)->o h b i->q l D j H
def T8(l:lo<=i):vm K k lo (λa=>mW a<|kA i) (rl i):=λus r u F H j G w D m a x W L h p=>h _ _ p λt v n d c q o=>by
 let#[b,g,e]:=W.outF o l q.1;show L.nx b d _ _ _ e q.2
abbrev x6(K:ar)(z:Bool)(a:(Xv->Prop)->a6)(R':St->XK):TE:=λj H Q=>∃q,CF K #[z,R',q] (a q) j H Q
def Kr{a:(Xv->Prop)->a6}(h:∀q,QE X #[z,R',q] e<|a q):PE X e (x6 X.K z a R'):=λaa s j H Q I ⟨q,h'⟩=>(h q).of aa s j H Q I h'
@[reducible] def Ff(K:ar)(C:ai)(a:au):Prop:=W.exmOne K a `ag=À Â
abbrev rm(K:ar)(C:ai)(i:Nat)(a:a6->b8)(b:(Xv->Prop)->a6)(d:b8):b8:=λD j=>a (b λx=>Ff K C x.c/\∃B,x.c=.ref B/\d `cP (j.set i<|.exc B<|Xp K x.f)) D j
def Gv{A:TE->TS}(u:lo<=i)(hS:vm K k lo A pS)(hh:dh K k.cR lo th ph):dh K k lo (yD K C i (λR'=>A<|x6 K k.z pe R') th) (rm K C i pS pe ph):=λus n a F H j G N D E W p L=>
 hS us n a F H j G N D E _ _ W L (λQ J pq q=>#[_,F,Bq a H,_,J,#[W.e8.s,W.e8.b,W.e8.z,W.e8.e,λx F' H' w d xf g=>#[w.1,by
  let#[_,B,Y,U]:=w;show#[B,Y,λy hy=>?_];let#[I,r,O]:=rE (o:=mF y B d) g.s (by intro _ _ z;cases z) hy;have M:=((W.gr g).gr r).set u (t:=.exc B<|Xp _ x.f) (v:=.ref y) (c:=[]) #[rfl,y,d,rfl,.inl O,λF3 l=>xf.mo<|r.le.trans l] .nil .nil λ_ _ _ _ _ m=>nomatch m
  show hh us n a I _ _ _ _ _ _ (M.md id λ_ _ _ _ h=>h.elim) U<|(L.less u).md id W.x]],pq,q]) p
end
section
def HU(h:adc `av X E):∀j,jy `av X j E:=λj aa H s e a I c=>h aa j H s e a I c
def Xl(hs:X.stack=X.env::X.outer)(l:X.env.frame=À X.env.locals)(d:X.ex=[])(g:qW X E)(a:X.calm=Â)(m:Gl X x)(hm:X.mg x=À `ag)(FB:ExcBaseFacts B newId initId bmB)(n:ac6 X.K C bmB newId=Â)(he:QE X #[z,λ_=>E,q] e₀ pe)(b: ~~~(dS x))(e:do ew e₀ [] X.env)(hpl:do gf bu [] X.env):
  QS X #[z,λ_=>E,q] lo (.Raise (À<|.Call (.Name x np) [e₀] [] bu) Ä pos) (yF q C pe):=by
 let#[o,i,j]:=he.h;show#[_,Uw hs l d g a m hm FB n i b e hpl,RC j]
def rP:cw X (í .Is) (λx y H Q=>((∃d,y=.bl d)\/y=.aM)/\Q (.bl<|decide<|x=y) H):=by
 intro aa s j H x y v u Q I a b h;let#[e,q]:=h;rcases e with⟨d,rfl⟩ |rfl
 .cases b;cases x with
  |bl c=>cases a;show PyProof.Rows.is_bool (dg I q (by cases c<;>cases d<;>rfl))
  |_=>first
   |(cases a;show Û (dg I q rfl))
   |(let⟨t,rfl⟩:=a;show Û (dg I q rfl))
 .show Ys aa s j H x _ v u Q I a b ⟨rfl,q⟩
end
section
def AU:cw X (í .IsNot) (λx y H Q=>((∃d,y=.bl d)\/y=.aM)/\Q (.bl (!decide (x=y))) H):=by
 intro aa s j H x y v u Q I a b h;let#[e,q]:=h;rcases e with⟨d,rfl⟩ |rfl
 .cases b;cases x with
  |bl c=>cases a;show PyProof.Rows.isnot_bool (dg I q (by cases c<;>cases d<;>rfl))
  |_=>first
   |(cases a;show Û (dg I q rfl))
   |(let⟨t,rfl⟩:=a;show Û (dg I q rfl))
 .show W3 aa s j H x _ v u Q I a b ⟨rfl,q⟩
end
section
abbrev sy:Tr->Tr->Bool
 |.bl c,.bl d=>c == d
 |.aM,.aM=>Â
 |_,_=>Å
abbrev mr(neg:Bool)(x y:Tr)(Q:ay):Prop:=match y with
 |.bl d=>Q<|.bl<|neg ^^ sy x (.bl d)
 |.aM=>Q<|.bl<|neg ^^ sy x .aM
 |_=>False
def R.ref(r:R K F B t v c):(∃b,t=.bl b/\v=.bl b)\/(t=.aM/\v=.aM)\/(∀d,sy t (.bl d)=Å/\sy t .aM=Å/\v≠.bl d/\v≠.aM):=by
 cases t with
 |bl b=>show .inl #[b,rfl,r.1]
 |aM=>show .inr<|.inl #[rfl,r.1]
 |aq=>show (show False from r).elim
 |int n=>show .inr (.inr λd=>#[rfl,rfl,(by rw[r.1];intro z;cases z),(by rw[r.1];intro z;cases z)])
 |str n=>show .inr (.inr λd=>#[rfl,rfl,(by rw[r.1];intro z;cases z),(by rw[r.1];intro z;cases z)])
 |ty n=>show .inr (.inr λd=>#[rfl,rfl,(by rw[r.1];intro z;cases z),(by rw[r.1];intro z;cases z)])
 |cl n=>show .inr (.inr λd=>#[rfl,rfl,(by rw[r.1];intro z;cases z),(by rw[r.1];intro z;cases z)])
 |exc n _=>let#[_,a,_,rfl,_]:=r;show .inr (.inr λd=>#[rfl,rfl,(by intro z;cases z),(by intro z;cases z)])
 |aJ e=>let#[a,vs,rfl,_]:=r;show .inr (.inr λd=>#[rfl,rfl,(by intro z;cases z),(by intro z;cases z)])
 |ah f e=>
  cases f with
  |o=>let#[a,vs,g,rfl,_]:=r;show .inr (.inr λd=>#[rfl,rfl,(by intro z;cases z),(by intro z;cases z)])
  |f=>let#[_,a,vs,rfl,_]:=r;show .inr (.inr λd=>#[rfl,rfl,(by intro z;cases z),(by intro z;cases z)])
  |l b=>let#[_,a,vs,rfl,_]:=r;show .inr (.inr λd=>#[rfl,rfl,(by intro z;cases z),(by intro z;cases z)])
 |aT f e=>
  cases f with
  |o=>let#[a,vs,g,rfl,_]:=r;show .inr (.inr λd=>#[rfl,rfl,(by intro z;cases z),(by intro z;cases z)])
  |f=>let#[_,a,vs,rfl,_]:=r;show .inr (.inr λd=>#[rfl,rfl,(by intro z;cases z),(by intro z;cases z)])
  |l b=>let#[_,a,vs,rfl,_]:=r;show .inr (.inr λd=>#[rfl,rfl,(by intro z;cases z),(by intro z;cases z)])
 |ins f c e=>
  cases f with
  |o=>let#[a,h,vs,g,rfl,_]:=r;show .inr (.inr λd=>#[rfl,rfl,(by intro z;cases z),(by intro z;cases z)])
  |f=>let#[_,a,h,vs,rfl,_]:=r;show .inr (.inr λd=>#[rfl,rfl,(by intro z;cases z),(by intro z;cases z)])
  |l b=>let#[_,a,h,vs,rfl,_]:=r;show .inr (.inr λd=>#[rfl,rfl,(by intro z;cases z),(by intro z;cases z)])
def Jt(r:R K F B t v c)(d:Bool):decide (v=.bl d)=sy t (.bl d):=by
 rcases r.ref with⟨b,rfl,rfl⟩ |⟨rfl,rfl⟩ |h
 .cases b<;>cases d<;>rfl
 .rfl
 .rw[(h d).1];show au7 (h d).2.2.1
def HV(r:R K F B t v c):decide (v=.aM)=sy t .aM:=by
 rcases r.ref with⟨b,rfl,rfl⟩ |⟨rfl,rfl⟩ |h
 .rfl
 .rfl
 .rw[(h Â).2.1];show au7 (h Â).2.2.2
def rQ:eh K k (λx y H Q=>((∃d,y=.bl d)\/y=.aM)/\Q (.bl<|decide<|x=y) H) (mr Å):=λF B H x y n ty h i Q g s b z a e j l hd p q=>by
 unfold mr at p;split at p
 .obtain⟨rfl,_⟩:=e;show#[.inl #[_,rfl],?_];rw[Jt a];rw[Bool.false_xor] at p;show q _ _ F H [] p `aj #[rfl,rfl] .nil λ_ m=>nomatch m
 .obtain⟨rfl,_⟩:=e;show#[.inr rfl,?_];rw[HV a];rw[Bool.false_xor] at p;show q _ _ F H [] p `aj #[rfl,rfl] .nil λ_ m=>nomatch m
 .show p.elim
def z3:eh K k (λx y H Q=>((∃d,y=.bl d)\/y=.aM)/\Q (.bl (!decide (x=y))) H) (mr Â):=λF B H x y n ty h i Q g s b z a e j l hd p q=>by
 unfold mr at p;split at p
 .obtain⟨rfl,_⟩:=e;show#[.inl #[_,rfl],?_];rw[Jt a];rw[Bool.true_xor] at p;show q _ _ F H [] p `aj #[rfl,rfl] .nil λ_ m=>nomatch m
 .obtain⟨rfl,_⟩:=e;show#[.inr rfl,?_];rw[HV a];rw[Bool.true_xor] at p;show q _ _ F H [] p `aj #[rfl,rfl] .nil λ_ m=>nomatch m
 .show p.elim
def Rs.zL:∀{bs:List Bool}{vs:az}{c:Cs},Rs K F B (bs.map .bl) vs c->vs=bs.map V.bl
 |[],_,_,y=>by let#[h,_]:=y;show h
 |b::bs,_,_,y=>by let#[v,r,c,d,a,i,e,g]:=y;rw[a,Rs.zL g,e.1];rfl
abbrev wm(all:Bool)(ts:af)(Q:ay):Prop:=match ts with
 |[.ah _ xs]=>∃bs:List Bool,xs=bs.map .bl /\ Q (.bl (if all=Â then bs.all id else bs.any id))
 |_=>False
def HW:mM K k (λxs H Q=>∃(a:ai)(bs:List Bool),xs=[.ref a]/\bH K H a `bA/\Q (.bl<|bs.any id) H) (wm Å):=λF B H xs l i Q h s b z r g p q=>by
 unfold wm at p;split at p
 .obtain⟨v,rfl,r1⟩:=r.one;∎;let#[a,vs,j,rfl,d,e,_]:=r1.dw s b g;let#[bs,rfl,p]:=p;∎;rw[e.zL] at d;show#[a,bs,rfl,d,q _ _ F H [] p `aj #[rfl,rfl] .nil λ_ m=>nomatch m]
 .show p.elim
def xb:mM K k (λxs H Q=>∃(a:ai)(bs:List Bool),xs=[.ref a]/\bH K H a `bA/\Q (.bl<|bs.all id) H) (wm Â):=λF B H xs l i Q h s b z r g p q=>by
 unfold wm at p;split at p
 .obtain⟨v,rfl,r1⟩:=r.one;∎;let#[a,vs,j,rfl,d,e,_]:=r1.dw s b g;let#[bs,rfl,p]:=p;∎;rw[e.zL] at d;show#[a,bs,rfl,d,q _ _ F H [] p `aj #[rfl,rfl] .nil λ_ m=>nomatch m]
 .show p.elim
def Mi(ts:af)(a:Gl X x)(hm:X.mg x=À `ba)(ht:∃(o:Obj)(bw:dk)(n:Nat),X.K.lookup c=À o/\o.cls=.type "tuple"/\o.data=.seq bw n/\bw.size<=Ô/\aL vs bw.toList)(b:∀F B,Rs X.K F B ts vs [])(hd: ~~~(dS x)):QE X k `am (pC<|.aJ ts):=
 JC `ba a hm rfl (λF B=>#[c,vs,rfl,.inr ht,b F B]) hd
def HX:∀(a:aC),Rs K F B (a.map .int) (a.map V.int) []
 |[]=>#[rfl,rfl]
 |i::a=>#[.int i,a.map V.int,[],[],rfl,rfl,#[rfl,rfl],HX a]
def gP(a:aC)(hm:X.mg x=À `ba)(ht:∃(o:Obj)(bw:dk)(n:Nat),X.K.lookup c=À o/\o.cls=.type "tuple"/\o.data=.seq bw n/\bw.size<=Ô/\aL (a.map V.int) bw.toList)(b:do Gl X x)(hd: ~~~(dS x)):QE X k `am (pC<|.aJ<|a.map .int):=
 Mi _ b hm ht (λ_ _=>HX a) hd
def ny(hm:X.mg x=À `bL)(a:do Gl X x)(hd: ~~~(dS x)):QE X k `am (pC<|.int i):=JC `aE a hm #[_,rfl] (λ_ _=>#[rfl,rfl]) hd
abbrev rn:List (a6×a6)->af->(bG->Prop)->Prop
 |[],_,Q=>Q []
 |(pk,pv)::r,j,Q=>pk j λx=>k8 x λy=>pv j λt=>rn r j λm=>Q ((y,t)::m)
abbrev tY(K:ar)(k:Md)(e:List (TE×TE))(ps:List (a6×a6)):Prop:=∀(F:Hp)(B:Bool->Hp)(H:Hp)(j:St)(i:af)(Q:List (V×V)->Hp->Prop)(g:bG->Prop),gu K k F B H j i->rn ps i g->
 (∀m vs a b d,g m->↑m=↑ps->Gr F H a b->Rk K a B m vs d->aw a b d->dB H d->Q (vs.map λh=>(kV h.1,h.2)) b)->vV e j H Q
def T9:tY K k [] []:=λF B H j i Q a c p q=>q [] [] F H [] p rfl (Gr.aO c.s) #[rfl,rfl] .nil .nil
def Lc(r:R K F B t v c)(h:ro t=À y):v=kV y:=by
 unfold ro at h;split at h<;>cases h
 .show r.1
 .show r.1
def RD{E G:TE}{l:List (TE×TE)}{D pv:a6}{ps:List (a6×a6)}(hk:br K k E D)(hv:br K k G pv)(h:tY K k l ps):tY K k ((E,G)::l) ((D,pv)::ps):=λF B H j i Q Q' c p q=>by
 show hk F B H j i _ _ c p λx v I N c1 p1 d=>?_
 unfold k8 at p1;split at p1
 .rename_i y hy;show hv I B N j i _ _ `ev p1 λt u J O w p2 b=>?_
  show h J B O j i _ _ ((c.gr d.g).gr b.g) p2 λm vs M U A p3 hl o r3 Y C=>?_
  have e:=Lc d.r hy;rw[e];have:=q ((y,t)::m) ((y,u)::vs) M U (w++A) p3 (by rw [Ý,Ý,hl]) ((d.g.trans' b.g).trans' o) #[u,vs,w,A,rfl,rfl,b.r.mo o.le (λk=>Le.refl<|B k) t,r3] ((b.c.gr o).app Y λp a q mq z=>by have:=b.c.h p a;rw [z,C q mq] at this;cases this) (λp a=>by
   rcases É.mp a with a |a
   .show d.g.h.free (b.n p a)
   .show (d.g.trans' b.g).h.free (C p a))
  show this
 .show p1.elim
end
def Ua{a:bY}{y:aW}{v:V}(h:y ∉ a.map (·.1)):add a y v=a++[(y,v)]:=by
 unfold add;rw[au3];rw[ň];rintro⟨p,m,e⟩;show h<|á.mpr #[p,m,au8 e]
def Gw:∀(b a:bY),((a++b).map (·.1)).Nodup->nT a b=a++b
 |[],a,_=>by rw[Ă];rfl
 |p::r,a,h=>by
  have e:add a p.1 p.2=a++[p]:=Ua λm=>by
   rw[ß,ŋ] at h;show h.2.2 _ m _ (á.mpr #[p,.head _,rfl]) rfl
  change nT (add a p.1 p.2) r=_;rw[e,Gw r (a++[p]) (by rw[õ];show h),õ];rfl
section
def Rk.fst:∀{m:bG}{vs:bY}{c:Cs},Rk K F B m vs c->vs.map (·.1)=m.map (·.1)
 |[],_,_,y=>by let#[h,_]:=y;rw[h];rfl
 |(y,x)::m,_,_,y0=>by let#[v,r,c,d,a,e,g,b]:=y0;rw[a,è,è,Rk.fst b]
abbrev yM(ps:List (a6×a6)):a6:=λj Q=>rn ps j λm=>(m.map (·.1)).Nodup/\Q `eA
def Ub(h:tY K k trs ps)(M:↑ps<=15):br K k (Ej trs) (yM ps):=λF B H j i Q O c p q d l=>by
 have J:Gr F H F (aQ H d<|.dK []):=Gr.jr c.s l;show h F B _ j i _ _ (c.gr J) p λm vs v D E p1 U g C w r=>?_
 have G:D d=À (.dK []):=g.h _ _ cN;have I:nT [] vs=vs:=Gw vs [] (by rw[ad9,C.fst];show p1.1);have Y:↑vs=↑m:=by have:=au9 ad2 C.fst;rw[Æ,Æ] at this;show this
 show#[G,vs,rfl,⋯,?_];rw[I];have A:v d=Ä:=by
  cases z:v d with
  |none=>rfl
  |some u=>
   have y:=g.n d u z<|c.s.free l;rw[cN] at y;cases y
 show q `eA (.ref d) v (aQ D d<|.dK vs) ((d,.dK vs)::E) p1.2 #[Gr.of #[λa o e=>?_,g.f,λa o e=>?_,λa u e z=>?_] g.z,#[d,vs,E,rfl,rfl,C,p1.1],#[λx b=>?_,λx b=>?_,?_],λx b=>?_]
 .have ne:a≠d:=λz=>by rw[z,l] at e;cases e
  rw[a9 ne];show g.h a o (by rw[a9 ne];show e)
 .have ne:a≠d:=λz=>by rw[z,A] at e;cases e
  rw[a9 ne];show g.s a o e
 .have y:=g.n a u e z;have ne:a≠d:=λz=>by rw[z,A] at e;cases e
  rw[a9 ne] at y;show y
 .cases b with
  |head=>show cN
  |tail _ b=>
   have ne:x.1≠d:=λz=>by have:=r x b;rw[z,cN] at this;cases this
   rw[a9 ne];show w.h x b
 .cases b with
  |head=>show A
  |tail _ b=>show w.f x b
 .rw[è,Ĕ];show#[λN=>?_,w.nd];let#[x,b,e]:=á.mp N;have:=r x b;have e:x.1=d:=e;rw[e,cN] at this;cases this
 .cases b with
  |head=>show l
  |tail _ b=>
   have ne:x.1≠d:=λz=>by have:=r x b;rw[z,cN] at this;cases this
   have:=r x b;rw[a9 ne] at this;show this
end
section
structure QP(X:Cx)(k:Md)(pos:Pos)(keys:List (Option đ))(values:bS)(ps:List (a6×a6)):Prop where
 h:∃trs,sH X pos keys values trs/\tY X.K k trs ps
def Ju:QP X k pos [] [] []:=#[_,Xb,T9]
def HY(m:QE X k a pa)(n:QE X k b pb)(h:QP X k pos ks vs ps):QP X k pos (À a::ks) (b::vs) ((pa,pb)::ps):=by
 ∎;let#[o,d,e]:=m.h;let#[tb,g,i]:=n.h;let#[q,j,l]:=h.h;∎;show#[_,Uj d g j,RD e i l]
def Jv(h:QP X k pos keys values ps)(a:do keys.all (·.isSome)=Â)(i:do ↑keys=↑values)(g:keys≠[]:=by intro z;cases z)(b: ~~~(↑keys<=15))(hp: ~~~(↑ps<=15)):QE X k `da (yM ps):=by
 let#[j,d,e]:=h.h;show#[_,Wn d a i g b,Ub e hp]
def qj(K:ar)(hm:X.mg x=Ä)(d:QA X k (e::es) ps)(b:do X.K=K)(g:do Gl X x)(h:do Ō x=À (.builtin "isinstance"))(hn: ~~~(x≠"__name__"))(a: ~~~(dS x))(he:do ew e es X.env)(hpl:do gf pos es X.env):
  QE X k (.Call `aN (e::es) [] pos) (pB (CI K) ps):=by
 subst b;show dN Ut Y9 hm d g h hn a he hpl
def cV(K:ar)(h:QE X k e pe)(a:do X.K=K)(b:do ú e f X.env `bg=eval e X.env):QE X k `aK (p1 (iX K f) pe):=by
 subst a;show K9 h b
end
mutual
noncomputable def Cl:Tr->Bool
 |.aJ a=>fU a
 |.ah .f a=>fU a
 |.aT .f a=>mL a
 |.ins .f _ a=>vc a
 |.ah _ _=>Å
 |.aT _ _=>Å
 |.ins _ _ _=>Å
 |_=>Â
noncomputable def fU:List Tr->Bool
 |[]=>Â |x::xs=>Cl x&&fU xs
noncomputable def mL:List (aW×Tr)->Bool
 |[]=>Â |(_,x)::xs=>Cl x&&mL xs
noncomputable def vc:List (Str×Tr)->Bool
 |[]=>Â |(_,x)::xs=>Cl x&&vc xs
end
structure Mw(t:Tr):Prop where
 l:aI t=t
 f:aE t=t
 d:dn t=t
 o:cP t=Â
 t:bX t=Â
structure Ng(t:af):Prop where
 l:dA t=t
 f:bj t=t
 d:cT t=t
 o:b5 t=Â
 t:cj t=Â
structure Nh(t:bG):Prop where
 l:eN t=t
 f:dH t=t
 d:i4 t=t
 o:jo t=Â
 t:iL t=Â
structure Ni(t:bz):Prop where
 l:cI t=t
 f:gA t=t
 d:jE t=t
 o:eO t=Â
 t:gC t=Â
mutual
theorem nq:∀(t:Tr),Cl t=Â->Mw t
 |.int _,_=>#[rfl,rfl,rfl,rfl,rfl]
 |.bl _,_=>#[rfl,rfl,rfl,rfl,rfl]
 |.str _,_=>#[rfl,rfl,rfl,rfl,rfl]
 |.aM,_=>#[rfl,rfl,rfl,rfl,rfl]
 |.aq,_=>#[rfl,rfl,rfl,rfl,rfl]
 |.ty _,_=>#[rfl,rfl,rfl,rfl,rfl]
 |.cl _,_=>#[rfl,rfl,rfl,rfl,rfl]
 |.exc _ _,_=>#[rfl,rfl,rfl,rfl,rfl]
 |.aJ xs,h=>have c:=iF xs h;#[by change Tr.aJ (dA xs)=_;rw[c.l],by change Tr.aJ (bj xs)=_;rw[c.f],by change Tr.aJ `dS=_;rw[c.d],c.o,c.t]
 |.ah .f xs,h=>have c:=iF xs h;#[rfl,rfl,by change Tr.ah .f `dS=_;rw[c.d],c.o,c.t]
 |.aT .f xs,h=>have c:=cq xs h;#[rfl,rfl,by change Tr.aT .f (i4 xs)=_;rw[c.d],c.o,c.t]
 |.ins .f a xs,h=>have c:=ue xs h;#[rfl,rfl,by change Tr.ins .f a (jE xs)=_;rw[c.d],c.o,c.t]
theorem iF:∀(t:List Tr),fU t=Â->Ng t
 |[],_=>#[rfl,rfl,rfl,rfl,rfl]
 |x::xs,h=>by
  have h:(Cl x&&fU xs)=Â:=h;rw[ê] at h;have a:=nq x h.1;have b:=iF xs h.2;show#[by change aI x::dA xs=_;rw[a.l,b.l],by change aE x::bj xs=_;rw[a.f,b.f],by change dn x::cT xs=_;rw[a.d,b.d],by change (cP x&&b5 xs)=_;rw[a.o,b.o];rfl,by change (bX x&&cj xs)=_;rw[a.t,b.t];rfl]
theorem cq:∀(t:List (aW×Tr)),mL t=Â->Nh t
 |[],_=>#[rfl,rfl,rfl,rfl,rfl]
 |(k,x)::xs,h=>by
  have h:(Cl x&&mL xs)=Â:=h;rw[ê] at h;have a:=nq x h.1;have b:=cq xs h.2;show#[by change (k,aI x)::eN xs=_;rw[a.l,b.l],by change (k,aE x)::dH xs=_;rw[a.f,b.f],by change (k,dn x)::i4 xs=_;rw[a.d,b.d],by change (cP x&&jo xs)=_;rw[a.o,b.o];rfl,by change (bX x&&iL xs)=_;rw[a.t,b.t];rfl]
theorem ue:∀(t:List (Str×Tr)),vc t=Â->Ni t
 |[],_=>#[rfl,rfl,rfl,rfl,rfl]
 |(k,x)::xs,h=>by
  have h:(Cl x&&vc xs)=Â:=h;rw[ê] at h;have a:=nq x h.1;have b:=ue xs h.2;show#[by change (k,aI x)::cI xs=_;rw[a.l,b.l],by change (k,aE x)::gA xs=_;rw[a.f,b.f],by change (k,dn x)::jE xs=_;rw[a.d,b.d],by change (cP x&&eO xs)=_;rw[a.o,b.o];rfl,by change (bX x&&gC xs)=_;rw[a.t,b.t];rfl]
end
class ae(α:Type) where
 t:α->Tr
 c:∀a,Cl (t a)=Â
 h:∀a,t a≠.aq
def og[ae j]:∀xs:List j,fU ↥xs=Â
 |[]=>rfl
 |x::xs=>by change (Cl (ae.t x)&&fU ↥xs)=Â;rw[ae.c x,og xs];rfl
def k9[ae j]:∀xs:List (aW×j),mL (xs.map λp=>(p.1,ae.t p.2))=Â
 |[]=>rfl
 |x::xs=>by change (Cl (ae.t x.2)&&mL (xs.map λp=>(p.1,ae.t p.2)))=Â;rw[ae.c x.2,k9 xs];rfl
instance:ae Int:=#[.int,λ_=>rfl,λ_ z=>by cases z]
instance:ae Str:=#[.str,λ_=>rfl,λ_ z=>by cases z]
instance:ae Bool:=#[.bl,λ_=>rfl,λ_ z=>by cases z]
instance:ae Rat:=#[λq=>.aJ [.int q.num,.int (q.den:Int)],λ_=>rfl,λ_ z=>by cases z]
instance {j:Type} [ae j]:ae (List j):=#[λxs=>.ah .f ↥xs,λxs=>og xs,λ_ z=>by cases z]
instance {j i:Type} [ae j] [ae i]:ae (j ⊕ i):=#[λx=>match x with |.inl a=>ae.t a |.inr b=>ae.t b,λx=>by cases x<;>show ae.c _,λx=>by cases x<;>show ae.h _]
instance {j i:Type} [ae j] [ae i]:ae (j×i):=#[λx=>.aJ [ae.t x.1,ae.t x.2],λx=>by change (Cl _&&(Cl _&&Â))=Â;rw[ae.c,ae.c];rfl,λ_ z=>by cases z]
section
variable{α β:Type}[ae α][ae β](a:α)(xs:List α)
@[simp] theorem VT(n:Int):ae.t n=.int n:=rfl
@[simp] theorem VU(n:Str):ae.t n=.str n:=rfl
@[simp] theorem B'x(n:Bool):ae.t n=.bl n:=rfl
def KG(q:Rat):ae.t q=.aJ [.int q.num,.int (q.den:Int)]:=rfl
def gE:ae.t xs=.ah .f ↥xs:=rfl
def r6:aI `bT=ae.t a:=(nq _<|ae.c a).l
def ko:aE `bT=ae.t a:=(nq _<|ae.c a).f
def jF:dn `bT=ae.t a:=(nq _<|ae.c a).d
def jf:cP `bT=Â:=(nq _<|ae.c a).o
def kN:bX `bT=Â:=(nq _<|ae.c a).t
def Kh:dA ↥xs=↥xs:=(iF _<|og xs).l
def qg:bj ↥xs=↥xs:=(iF _<|og xs).f
def uP:cT ↥xs=↥xs:=(iF _<|og xs).d
def nu:b5 ↥xs=Â:=(iF _<|og xs).o
def fq:cj ↥xs=Â:=(iF _<|og xs).t
end
class inductive Fp:Fl->Prop where
 |f:Fp .f
 |l:Fp (.l Å)
instance:Fp .f:=.f
instance:Fp `bd:=.l
section
variable{f:Fl}[h:Fp f]
def VW:aI `az=.ah f xs:=by cases h<;>rfl
def RE:aE `az=.ah f xs:=by cases h<;>rfl
def RF:dn `az=.ah f `dS:=by cases h<;>rfl
def RG{j:Type}[ae j]{xs:List j}:bX (.ah f ↥xs)=Â:=by cases h<;>first |show fq xs |rfl
def ID:aI `bS=.aT f xs:=by cases h<;>rfl
def G3:aE `bS=.aT f xs:=by cases h<;>rfl
def G4:dn `bS=.aT f (i4 xs):=by cases h<;>rfl
end
section
variable{α:Type}[ae α]{xs:List (aW×α)}
def Mj:i4 (xs.map λp=>(p.1,ae.t p.2))=xs.map λp=>(p.1,ae.t p.2):=(cq _<|k9 xs).d
end
def oS:aE `aP=.ah .f (bj xs):=rfl
section
abbrev nW(pa:cG):cG:=λj Q=>pa j λts=>Q<|bj ts
def G5(h:fF K k ta pa):fF K k ta (nW pa):=λF B H j i Q l c p q=>by
 show h F B H j i _ _ c p λn vs g b m p1 e=>?_
 let#[a,d,r2]:=e.held;show q _ vs a b [] p1 #[d,r2,.nil,.nil]
def QA.aE(h:QA X k es pa):QA X k es (nW pa):=by
 let#[d,a,b]:=h.h;show#[d,a,G5 b]
end
def Nq(x:j)(xs:List j):c8 (x::xs) 0=À x:=by unfold c8 jl;simp
def Nr(x y:j)(xs:List j):c8 (x::y::xs) 1=À y:=by unfold c8 jl;rw[au4 ⋯,au4 (by simp only[Ý];omega)];rfl
inductive uM(xs:af)(Q:Tr->aB):Prop
 |mk(_:↑xs=2)(a b)(_:xs=[.int a,.int b])(_:0<=a)(_:0<=b)(_:∀j,Q (.int (gd a b)) j):uM xs Q
inductive lN(xs:af)(Q:Tr->aB):Prop
 |mk(_:↑xs=2)(a b)(_:xs=[.int a,.int b])(_:b ≠ 0)(_:bi b<=7990)(_:∀j,Q (ae.t (Ë a b)) j):lN xs Q
def BO(g:b≠0)(h:bi b<=k):bi (gd a b)<=k:=by
 show gk ?_;have d:=kJ h;have e:(gd a b).natAbs<=b.natAbs:=af6 ⋯ (ϟ.mpr<|Ah a b);omega
def xc(d:b≠0)(h:bi b<=7990):eB x (gd a b):=#[by have:=n9 (a:=a) d;omega,kJ (Ï (BO d h) (show 7990<=8000 by omega))]
def G6(d:b≠0)(h:bi b<=7990):eB x (-gd a b):=#[by have:=n9 (a:=a) d;omega,by rw[Ś];show kJ (Ï (BO d h) (show 7990<=8000 by omega))]
inductive jO(f:Rat->Rat->Rat)(xs:af)(Q:Tr->aB):Prop
 |mk(_:↑xs=2)(a b:Rat)(_:xs=[ae.t a,ae.t b])(_:bs a+bs b<=7990)(_:∀j,Q (ae.t (f a b)) j):jO f xs Q
def fm(a:bi x<=n)(b:bi y<=m)(h:n+m<=60000000):mS x y:=L1 ⋯ ⋯
def Ay(a b:Rat)(h:bs a+bs b<=7990):bi ((a.den:Int)*b.den)<=7990:=Ï `bb (by have:=gx a;have:=gx b;omega)
def wJ[ae j][ae i](a:List j)(ns:List i):(↥a).zipWith (λx y=>Tr.aJ [x,y]) ↥ns=(a.zip ns).map λp=>Tr.aJ [ae.t p.1,ae.t p.2]:=by
 rw[ah8,Ŭ,Φ]
def Ph[ae j](a:List j):(↥a).mapIdx (λi x=>Tr.aJ [.int i,x])=a.zipIdx.map λp=>Tr.aJ [.int p.2,ae.t p.1]:=by
 apply Ŋ;intro i;rw[ad1,Î,Î,š];cases a[i]?<;>simp
def Uc(a b:Rat):(a.num*(b.den:Int)<b.num*(a.den:Int))↔a<b:=by
 rw[Rat.lt_iff]
inductive gW(xs:af)(Q:Tr->aB):Prop
 |mk(_:↑xs=2)(a b:Rat)(_:xs=[ae.t a,ae.t b])(_:bs a+bs b<=60000000)(_:∀j,Q (.bl (decide (a<b))) j):gW xs Q
def Zj(t:Tr)(a:af)(Q:ay):pC t a Q=(Q t):=rfl
def Zk(b:Tr->Tr->(ay)->Prop)(a pb:a6)(j:af)(Q:ay):p2 b a pb j Q=(a j λx=>pb j λy=>b x y Q):=rfl
def Zl(b:Tr->(ay)->Prop)(a:a6)(j:af)(Q:ay):Pu.p1 b a j Q=(a j λx=>b x Q):=rfl
def RH:wa j' Q=(Q []):=rfl
def Pj:yW pe pa j Q=(pe j λx=>pa j λxs=>Q (x::xs)):=rfl
def RI:zg pa j Q=(pa j λxs=>↑xs<=10000/\Q `aF):=rfl
def RJ:zh pa j Q=(pa j λxs=>↑xs<=10000/\Q `aP):=rfl
def Zm(a:a6)(j:af)(Q:Bool->Prop):pT a j Q=(a j λx=>iP x Q):=rfl
def RK(a pb:df)(j:af)(Q:Bool->Prop):zi a pb j Q=(a j λc=>if c=Â then pb j Q else Q Å):=rfl
def VX(a pb:df)(j:af)(Q:Bool->Prop):B8 a pb j Q=(a j λc=>if c=Â then Q Â else pb j Q):=rfl
def RL(a:df)(j:af)(Q:Bool->Prop):zt a j Q=(a j λc=>Q (!c)):=rfl
def Pk(a pb:a6)(j:af)(Q:ay):yY a pb j Q=(a j λx=>iP x λc=>if c=Â then pb j Q else Q `bw):=rfl
def RM(a pb:a6)(j:af)(Q:ay):zu a pb j Q=(a j λx=>iP x λc=>if c=Â then Q `ce else pb j Q):=rfl
def Pl:yZ pa j Q=(pa j λx=>iP x λc=>Q<|.bl (!c)):=rfl
def VY(b:df)(a pb:a6)(j:af)(Q:ay):B6 b a pb j Q=(b j λc=>if c=Â then a j Q else pb j Q):=rfl
def RN(p q:b8)(D:Pd)(j:af):we p q D j=(p { D with nx:=q D } j):=rfl
def Pm:y6 D j=(D.nx j):=rfl
def RO(i:Nat)(a:a6)(D:Pd)(j:af):zv i a D j=(a `af λt=>bX t=Â/\D.nx (j.set i t)):=rfl
def Pn:y7 pe D j=(pe `af λ_=>D.nx j):=rfl
def RP:zw pe D j=(pe `af λt=>cP t=Â/\D.rt t j):=rfl
def Zn(a:df)(p q:b8)(D:Pd)(j:af):wg a p q D j=(a `af λb=>if b=Â then p D j else q D j):=rfl
def OQ(q:Xv->Prop)(bf:iV)(a:cG)(j:af)(Q:ay):tI q bf a j Q=(a j λts=>bf `dT (λt _=>Q t) q):=rfl
def P9:y8 bf pa j Q=(pa j λts=>bf `dT λt _=>Q t):=rfl
def Zo(b:af->(ay)->Prop)(a:cG)(j:af)(Q:ay):pB b a j Q=(a j λts=>b ts Q):=rfl
def OR:D0 D' j'=(False):=rfl
def Qa(i:Nat)(a:a6)(D:Pd)(j:af):rl i a D j=(a `af λt=>bX t=Â/\D.nx (j.set i<|aE t)):=rfl
def VZ(i:Nat)(t:Tr)(j:af)(Q:aB):qD i t j Q=(Q<|j.set i t):=rfl
def OS:pJ ts j Q=(match ts with |[]=>Q j |_=>False):=rfl
def Ou(pg:eW)(a:af->af->(aB)->Prop)(ts:af)(j:af)(Q:aB):pF pg a ts j Q=(match ts with |t::r=>pg t j λb=>a r b Q |[]=>False):=rfl
def V0(n:Nat)(a:af->af->(aB)->Prop)(t:Tr)(j:af)(Q:aB):nI n a t j Q=(match t with |.aJ ts=>↑ts=n/\a ts j Q |_=>False):=rfl
def RQ:zy pe pg D j=(pe `af λt=>bX t=Â/\pg `bj j D.nx):=rfl
def RS(i j:Nat)(d:cG)(D:Pd)(G:af):zA i j d D G=(d `ey λts=>match ts with |[a,b]=>bX a=Â/\bX b=Â/\D.nx ((G.set i<|aE a).set j<|aE b) |_=>False):=rfl
def V1(a:a6)(j:af)(Q:af->Bool->Prop):Cg a j Q=(a j λt=>iW `bj λxs=>Q xs<|bX<|aE t):=rfl
def V2(a:cG)(j:af)(Q:af->Bool->Prop):Cf a j Q=(a j λts=>pM ts λt=>iW `bj λxs=>Q (xs.mapIdx λi x=>.aJ [.int i,x])<|bX<|aE t):=rfl
def V3(a:cG)(j:af)(Q:af->Bool->Prop):Ci a j Q=(a j λts=>nZ ts λt u=>iW `bj λxs=>iW (aE u) λys=>Q (xs.zipWith (λx y=>.aJ [x,y]) ys)<|bX (aE t)&&bX (aE u)):=rfl
def SJ(a:cG)(G:af)(Q:af->Bool->Prop):zC a G Q=(a G λts=>vX ts λj=>-1000000<=j/\j<=1000000/\Q ((È j.toNat).map λ(i:Nat)=>.int i) Â):=rfl
def SK(a:cG)(G:af)(Q:af->Bool->Prop):zD a G Q=(a G λts=>vW ts λi j=>(-1000000<=i/\i<=1000000/\-1000000<=j/\j<=1000000)/\Q ((È (j - i).toNat).map λ(n:Nat)=>.int<|i+n) Â):=rfl
def SM(K:ar)(i:Nat)(r:aj)(a:a6)(D:Pd)(j:af):zE K i r a D j=(i6 K j i r λu s=>nU u λxs=>a `af λt=>bX t=Â/\↑xs<1000000/\D.nx (s<|.ah .o<|xs++[aE t])):=rfl
def Qb(K:ar)(i:Nat)(r:aj)(d b:a6)(D:Pd)(j:af):y9 K i r d b D j=(b `af λt=>bX t=Â/\i6 K j i r λu s=>nU u λxs=>d `af λy=>tQ xs y `bj λa=>D.nx<|s<|.ah .o a):=rfl
def SN(K:ar)(i:Nat)(r:aj)(b a:a6)(D:Pd)(j:af):zF K i r b a D j=(a `af λt=>bX t=Â/\i6 K j i r λu s=>tS u λm=>b `af λy=>k8 y λy=>↑m<1000000/\D.nx (s<|.aT .o<|j9 m y<|aE t)):=rfl
def Qc:za j' Q=(Q<|.aT .o []):=rfl
def Qd(K:ar)(i:Nat)(r:aj)(f:Str)(a:a6)(D:Pd)(j:af):yJ K i r f a D j=(a `af λt=>bX t=Â/\i6 K j i r λu s=>pH K f u λc fs=>D.nx<|s<|.ins .o c<|jb f t fs):=rfl
def V4(a:af)(Q:bR->Prop):Cj a Q=(Q Ä):=rfl
def V5(a:a6)(j:af)(Q:bR->Prop):Ck a j Q=(a j λx=>match x with |.int i=>Q (À i) |_=>False):=rfl
def V6:B9 pe pl ph j Q=(pe j λx=>pl j λl=>ph j λh=>ya x l h Q):=rfl
def OT(q:Xv->Prop)(C:ai)(a:a6)(b:Pd)(j:af):yF q C a b j=(a `af λ_=>q<|.ref C):=rfl
def OU(K:ar)(C:ai)(i:Nat)(a:a6->b8)(b:(Xv->Prop)->a6)(d:b8)(D:Pd)(j:af):rm K C i a b d D j=(a (b λx=>Ff K C x.c/\∃B,x.c=.ref B/\d `cP (j.set i<|.exc B<|Xp K x.f)) D j):=rfl
def Qe(ps:List (a6×a6))(j:af)(Q:ay):yM ps j Q=(rn ps j λm=>(m.map (·.1)).Nodup/\Q `eA):=rfl
def Qf:nW pa j Q=(pa j λts=>Q<|bj ts):=rfl
def Gi(n:Int):aI `aU=`aU:=rfl
def SO:aI `cH=`cH:=rfl
def Qg:aI `bB=`bB:=rfl
def Qh:aI .aM=.aM:=rfl
def OV:aI .aq=.aq:=rfl
def Qi(n:ai)(P:Hp->b9->Prop):aI `eB=`eB:=rfl
def Gj(n:Int):Pu.aE `aU=`aU:=rfl
def SQ:Pu.aE `cH=`cH:=rfl
def Qj:Pu.aE `bB=`bB:=rfl
def Qk:Pu.aE .aM=.aM:=rfl
def Gk(n:Int):dn `aU=`aU:=rfl
def Ql:dn `bB=`bB:=rfl
def Qm:dn .aM=.aM:=rfl
def Gm(n:Int):cP `aU=Â:=rfl
def SR:cP `cH=Â:=rfl
def Qn:cP `bB=Â:=rfl
def Qo:cP .aM=Â:=rfl
def Gn(n:Int):bX `aU=Â:=rfl
def SS:bX `cH=Â:=rfl
def Qp:bX `bB=Â:=rfl
def Qq:bX .aM=Â:=rfl
def Qr:aI `aF=.aJ (dA xs):=rfl
def Qs:Pu.aE `aF=.aJ (bj xs):=rfl
def Qt:dn `aF=.aJ `dS:=rfl
def Qu:cP `aF=b5 xs:=rfl
def Qv:bX `aF=cj xs:=rfl
def Qw:aI `aP=.ah `ca (dA xs):=rfl
def Qx:Pu.aE `aP=.ah .f (bj xs):=rfl
def Qy:dn (.ah `ca xs)=.ah `bd `dS:=rfl
def SU:Pu.aE (.ah (.l b) xs)=.ah (.l b) xs:=rfl
def PN:cP `aP=b5 xs:=rfl
def PQ:bX `aP=cj xs:=rfl
def V7:cP (.ah .f xs)=b5 xs:=rfl
def PR(xs:bG):aI `cc=.aT `ca (eN xs):=rfl
def PU(xs:bG):Pu.aE `cc=.aT .f (dH xs):=rfl
def PV(xs:bG):cP `cc=jo xs:=rfl
def PX(xs:bG):bX `cc=iL xs:=rfl
abbrev Loop(ts:af)(pg:eW)(pb:b8)(D:Pd)(j:af):Prop:=∃I:Nat->aB,I 0 j/\(∀i t j,ts[i]?=À t->I i j->pg t j λa=>pb { D with nx:=I<|i+1,ct:=I<|i+1,bk:=D.nx } a)/\∀j,I ↑ts j->D.nx j
def SV(a:iR)(pg:eW)(pb:b8)(D:Pd)(j:af):zB a pg pb D j=(a `af λts b=>b=Â/\Loop ts pg pb D j):=rfl
def Loop.map(ys:List O)(g:O->Tr){pg:eW}(J:Nat->aB)(d:J 0 G)(step:∀i y G,ys[i]?=À y->J i G->pg (g y) G λb=>pb { D with nx:=J<|i+1,ct:=J<|i+1,bk:=D.nx } b)(a:∀G,J ↑ys G->D.nx G):Loop `cm pg pb D G:=by
 show#[J,d,λi t G h j=>?_,λG h=>a G (by rw[Æ] at h;show h)];rw[Î] at h;cases e:ys[i]? with
 |none=>rw[e] at h;cases h
 |some y=>rw[e] at h;cases h;show step i y G e j
abbrev pV(o:Option Tr)(Q:ay):Prop:=match o with |some .aq=>False |some t=>Q t |none=>False
def SW(i:Nat)(j:af)(Q:ay):v9 i j Q=pV j[i]? Q:=rfl
def V8[ae j](a:j)(Q:ay):pV (À<|ae.t a) Q=Q `bT:=by
 have h:=ae.h a;generalize ae.t a=t at h;cases t with
 |aq=>show au5 rfl h
 |_=>rfl
def V9:pV (À<|.int n) Q=Q `aU:=rfl
def Zp:pV (À<|.bl n) Q=Q `cH:=rfl
def Wa:pV (À<|.str n) Q=Q `bB:=rfl
def Wb:pV (À .aM) Q=Q .aM:=rfl
def Wc(n:ai)(P:Hp->b9->Prop)(Q:ay):pV (À<|.exc n P) Q=Q `eB:=rfl
def Wd:pV (À<|.aJ xs) Q=Q `aF:=rfl
def We(f:Fl)(xs:af)(Q:ay):pV (À<|.ah f xs) Q=Q `az:=rfl
def Wf(f:Fl)(xs:bG)(Q:ay):pV (À<|.aT f xs) Q=Q `bS:=rfl
def Wg(f:Fl)(c:ai)(xs:bz)(Q:ay):pV (À<|.ins f c xs) Q=Q (.ins f c xs):=rfl
def OW(q:Rat)(Q:ay):gM (ae.t q) (.int 0) Q=Q (.int q.num):=rfl
def O5(q:Rat)(Q:ay):gM (ae.t q) `ep Q=Q (.int (q.den:Int)):=rfl
def SX:Tr.aJ [.int 0,.int 1]=ae.t (0:Rat):=rfl
def Wh:Tr.aJ [.int 1,.int 1]=ae.t (1:Rat):=rfl
abbrev aY(ts:af)(pg:eW)(pt:df)(g:a6)(e:af)(Q:ay):Prop:=∃I:Nat->aB,I 0 []/\
 (∀i t a,ts[i]?=À t->I i a->pg t e λd=>pt d λb=>if b=Â then g d λx=>↑a<1000000/\I (i+1) (a++[x]) else I (i+1) a)/\∀a,I ↑ts a->↑a<=1000000/\Q `ex
def PY(b:iR)(pg:eW)(pt:df)(a:a6)(ix:bE)(j:af)(Q:ay):nV b pg pt a ix j Q=(b j λts _=>aY ts pg pt a (l9 ix j) Q):=rfl
def aY.nG(ys:List j)(g:j->Tr)(h:j->Tr){pg:eW}{d:a6}{Q:ay}(m:↑ys<=1000000)(step:∀y∈ys,∀R:ay,R (h y)->pg (g y) j' λn=>d n R)(q:Q (.ah .o<|ys.map h)):aY `cm pg tX d j' Q:=by
 show#[λi b=>b=(ys.take i).map h,rfl,λi t b e a=>?_,λb a=>?_]
 .rw[Î] at e;cases e':ys[i]? with
  |none=>rw[e'] at e;cases e
  |some y=>
   rw[e'] at e;cases e;have l:=(Á.mp e').1;show step y (Ì e') _ #[?_,?_]
   .rw[a,Æ,Ī];omega
   .show b++[h y]=(ys.take<|i+1).map h;rw[a,Ė,e',ß];rfl
 .rw[Æ,ğ] at a;rw[a,Æ];show#[m,q]
def aY.map[ae j](ys:List i)(g:i->Tr)(h:i->j){pg:eW}{a:a6}{Q:ay}(b:↑ys<=1000000)(step:∀y∈ys,∀R:ay,R (ae.t<|h y)->pg (g y) j' λd=>a d R)(q:Q (.ah .o<|(ys.map h).map ae.t)):aY `cm pg tX a j' Q:=
 aY.nG ys g (λy=>ae.t<|h y) b step (by rw[ð] at q;show q)
abbrev cO{j:Type}[ae j](f:Fl)(m:List (Str×j)):Tr:=.aT f<|m.map λp=>(Sum.inr p.1,ae.t p.2)
def JG[ae j](m:List (Str×j)):`aX=(m.map λp=>((Sum.inr p.1:aW),p.2)).map λp=>(p.1,ae.t p.2):=by rw[ð];rfl
def Az[ae j](m:List (Str×j)):Cl (cO .f m)=Â:=by
 change mL `aX=Â;rw[JG];show k9 _
def Bv[ae j](m:List (Str×j))(x:Str):look `aX `cI=(b4 m x).map ae.t:=by
 unfold look b4
 induction m with
 |nil=>rfl
 |cons p m a=>
  rw[è,ļ,ļ];by_cases h:p.1=x
  .rw[au6 (by rw[h]),au6 h];rfl
  .rw[au7<|λz=>h<|Sum.inr.inj z,au7 h];show a
def Wi[ae j](f:Fl)(m:List (Str×j))(x:Str)(d:j)(Q:ay):vY `bU `bN (ae.t d) Q=Q (ae.t<|(b4 m x).getD d):=by
 change Q ((look `aX<|Sum.inr x).getD<|ae.t d)=_;rw[Bv];cases b4 m x<;>rfl
abbrev EH(x:Tr):Prop:=match x with |.aT _ _=>True |_=>False
def Zq(d:Tr->Tr->Tr->(ay)->Prop)(a pb b:a6)(j:af)(Q:ay):p3 d a pb b j Q=(a j λx=>EH x/\pb j λy=>b j λz=>d x y z Q):=rfl
def Vu[ae j](f:Fl)(m:List (Str×j)):EH `bU=True:=rfl
abbrev oQ(o:Option Tr)(Q:ay):Prop:=match o with |some t=>Q t |none=>False
def SY(t:Tr)(Q:ay):oQ (À t) Q=Q t:=rfl
section
def S2:gM `aF `aE Q=oQ (c8 xs i) Q:=rfl
def iZ:gM `az `aE Q=oQ (c8 xs i) Q:=rfl
def S3(C:Int->Int->Prop)(t:Int->Int->Tr):jx C t `aE `by Q=(C i j/\Q (t i j)):=rfl
def S4:wb `aE `by Q=Q (.int<|i+j):=rfl
def Am:wb `az (.ah g ys) Q=(↑xs+↑ys<=1000000/\Q (.ah .o<|xs++ys)):=rfl
def Vv:wc `aE `by Q=(mS i j/\Q (.int<|i*j)):=rfl
def w_lt:CJ `aE `by Q=Q (.bl<|decide<|i<j):=rfl
def Zr:CH `aE `by Q=Q (.bl<|decide<|j<i):=rfl
def Vw:wd `aE Q=Q (.int (-i)):=rfl
def Vx:zx [.int i] Q=Q (.int (if i<0 then -i else i)):=rfl
def z'a(R:Bool->Prop):iP `bG R=R b:=rfl
def Vy:lY Å `aE `by Q=Q (.bl<|decide<|i=j):=rfl
def Vz:lY Å `bN (.str y) Q=Q (.bl<|decide<|x=y):=rfl
def VA:lY Â `aE `by Q=Q (.bl (!decide (i=j))):=rfl
def VB:lY Â `bN (.str y) Q=Q (.bl (!decide (x=y))):=rfl
def VC:lY Â `bG (.bl c) Q=Q (.bl (!decide (b=c))):=rfl
def S5(k:Bool):rp k [.ah f xs] Q=Q (.int ↑xs):=rfl
def S6(k:Bool):rp k [.aJ xs] Q=Q (.int ↑xs):=rfl
def S7:yL [.ah f xs] Q=Q `aP:=rfl
def lp(R:aB):iW `az R=R xs:=rfl
def VD(t:Tr):pM [t] Q=Q t:=rfl
def VE(t u:Tr)(R:Tr->ay):nZ [t,u] R=R t u:=rfl
def S8(R:Int->Prop):vX [.int i] R=R i:=rfl
def S9(R:Int->Int->Prop):vW [.int i,.int j] R=R i j:=rfl
end
nonrec abbrev bV:=List (Str×Rat)×Str×Rat×Int×Int
nonrec abbrev av:=List bV
noncomputable instance (priority:=high) rowEnc:ae bV:=#[λr=>.aJ [cO .f r.1,.str r.2.1,ae.t r.2.2.1,.int r.2.2.2.1,.int r.2.2.2.2],λr=>by change (Cl (cO .f r.1)&&_)=Â;rw[Az];rfl,λ_ z=>by cases z]
def VF(r:bV)(Q:ay):gM `dh (.int 0) Q=Q (cO .f r.1):=rfl
def VG(r:bV)(Q:ay):gM `dh `ep Q=Q (.str r.2.1):=rfl
def VH(r:bV)(Q:ay):gM `dh (.int 2) Q=Q (ae.t r.2.2.1):=rfl
def VI(r:bV)(Q:ay):gM `dh (.int 3) Q=Q (.int r.2.2.2.1):=rfl
def VJ(r:bV)(Q:ay):gM `dh (.int 4) Q=Q (.int r.2.2.2.2):=rfl
section
abbrev vb(o:Option Tr)(R:ay):Prop:=match o with |some .aq=>False |some t=>R t |none=>False
def VL(j:af)(i:Nat)(Q:Tr->(Tr->af)->Prop):i6 K j i [] Q=vb j[i]? λt=>Q t λu=>j.set i u:=by
 unfold i6 vb;cases j[i]? with
 |none=>rfl
 |some t=>cases t <;> first |rfl |show propext #[λh=>h.2,λh=>#[trivial,h]]
def Ta(f:Fl)(xs:af)(R:ay):vb (À<|.ah f xs) R=R `az:=rfl
def Tb(f:Fl)(xs:bG)(R:ay):vb (À<|.aT f xs) R=R `bS:=rfl
def Tc:nU `aP Q=Q xs:=rfl
def Td(xs:bG)(Q:bG->Prop):tS `cc Q=Q xs:=rfl
end
section
variable{α:Type}[ae α]
def FW(xs:List α)(a:α):↥xs++[ae.t a]=(xs++[a]).map ae.t:=by rw[ß];rfl
def O6(xs:aC)(a:Int):↥xs++[Tr.int a]=(xs++[a]).map ae.t:=FW xs a
def iT(xs:List α)(i:Int):c8 ↥xs i=(c8 xs i).map ae.t:=by
 unfold c8;rw[Æ];cases jl ↑xs i with
 |none=>rfl
 |some n=>show Î ..
def ux(xs:List j)(a:0<=i)(h:i.toNat<↑xs):c8 xs i=À (xs[i.toNat]'h):=by
 unfold c8 jl;rw[au4 a,au4 ⋯];show Ð h
def dG[ae j](o:Option j)(Q:ay)(x:j)(h:o=À x)(q:Q (ae.t x)):oQ ↥o Q:=by rw[h];show q
def PZ(xs:List α)(l h:bR):iY ↥xs l h=(iY xs l h).map ae.t:=by
 unfold iY;rw[Æ,List.map_take,List.map_drop]
def Bh(f:Fl)(xs:af)(l h:bR)(Q:ay):ya `az l h Q=Q (.ah .o<|iY xs l h):=rfl
end
def K5{p:b8}(J:aB)(a:∀N:aB,(∀j,J j->N j)->p { D with nx:=N } j)(b:∀j,J j->D.nx j):p D j:=a D.nx b
section
def bg.aq{i:Nat}(W:bg K k lo us Fb Hb F H G J cs):bg K k lo us Fb Hb F H G (J.set i .aq) (λj=>if j=i then [] else cs j) where
 g:=W.g
 z:=W.z
 l:=by rw[û];show W.l
 e:=λj u h=>by
  by_cases e:j=i
  .subst e;have v:j<↑J:=by have:=(Á.mp h).1;rw[û] at this;show this
   rw[Ā v] at h;cases h;show .inl rfl
  .rw[ï<|λz=>e z.symm] at h;rw[au3 e];show W.e j u h
 c:=λj=>by
  split
  .show .nil
  .show W.c j
 n:=λj=>by
  split
  .show .nil
  .show W.n j
 d:=λa b ne p m q o=>by
  by_cases r:a=i
  .rw[au4 r] at m;cases m
  .rw[au3 r] at m;by_cases eb:b=i
   .rw[au4 eb] at o;cases o
   .rw[au3 eb] at o;show W.d a b ne p m q o
 p:=W.p
 x:=W.x
def bg.fz{i:Nat}(W:bg K k lo us Fb Hb F H G J cs)(ht:J[i]?=À t)(hn:t≠.aq):∃o,bg K k lo us Fb Hb o H G (J.set i<|Pu.aE t) (λj=>if j=i then [] else cs j):=by
 rcases W.e i t ht with rfl |⟨v,y,r⟩
 .show au5 rfl hn
 let#[w,a,s,e]:=(W.aq (i:=i)).lay (W.c i) (W.n i) (r.plain t) (λj p m q B=>by
  by_cases b:j=i
  .rw[au4 b] at m;cases m
  .rw[au3 b] at m;show W.d j i b p m q B)
 show#[w,#[a.g,a.z,by rw[û];show W.l,λj u h=>?_,a.c,a.n,a.d,a.p,a.x]];by_cases b:j=i
 .subst b;have A:j<↑J:=by have:=(Á.mp h).1;rw[û] at this;show this
  rw[Ā A] at h;cases h;show .inr #[v,y,by rw[au4 rfl];show r.aE (Le.of s) t e]
 .show a.e j u (by rw[ï<|λz=>b z.symm] at h ⊢;show h)
abbrev xV(i:Nat)(p:b8):b8:=λD j=>pV j[i]? λt=>p D<|j.set i<|Pu.aE t
def z'c(h:dh K k lo ts p):dh K k lo ts (xV i p):=λus d g F H j G m D a W q L=>by
 unfold xV pV at q;split at q
 .show q.elim
 .rename_i t hn e;let#[b,l]:=W.fz e (λz=>hn<|by rw[z]);show h us d g b H j _ _ D a l q L
 .show q.elim
def sj(i:Nat)(h:QB X k lo sts p):QB X k lo sts (xV i p):=by
 let#[d,a,b]:=h.h;show#[d,a,z'c b]
def VM(i:Nat)(p:b8)(D:Pd)(j:af):xV i p D j=(pV j[i]? λt=>p D<|j.set i<|Pu.aE t):=rfl
end
abbrev Nk(w:Wm)(m:bG)(pg:eW)(pb:b8)(D:Pd)(j:af):Prop:=∃I:Nat->aB,I 0 j/\(∀i p j,m[i]?=À p->I i j->pg (wit w p) j λa=>pb { D with nx:=I<|i+1,ct:=I<|i+1,bk:=D.nx } a)/\∀j,I ↑m j->D.nx j
def P0(w:Wm)(a:a6)(pg:eW)(pb:b8)(D:Pd)(j:af):yK w a pg pb D j=(a `af λt=>bX t=Â/\mU (Pu.aE t) λm=>Nk w m pg pb D j):=rfl
section
variable{α:Type}[ae α](m:List (Str×α)){f:Fl}
def Sg(Q:bG->Prop):mU (cO .f m) Q=Q `aX:=rfl
def UL[h:Fp f]:aI `bU=cO f m:=ID
def UK[h:Fp f]:Pu.aE `bU=cO f m:=G3
def UJ[h:Fp f]:dn `bU=cO f m:=by
 unfold cO;rw[G4,JG,Mj]
def UM:cP (cO .f m)=Â:=(nq _<|Az m).o
def Sh:pV (À<|cO f m) Q=Q `bU:=rfl
def VN(x:Str)(Q:ay):gM `bU `bN Q=oQ ((b4 m x).map ae.t) Q:=by
 change (match look `aX `cI with |some t=>Q t |none=>False)=_;rw[Bv];cases b4 m x<;>rfl
def z'd(x:Str)(Q:ay):sE Å `bN `bU Q=Q (.bl (b4 m x).isSome):=by
 change Q (.bl (look `aX<|Sum.inr x).isSome)=_;rw[Bv,ϖ]
end
def aY.filter[ae j](ys:List G)(g:G->Tr)(p:G->Bool)(h:G->j){pg:eW}{pt:df}{Q:ay}(u:↑ys<=1000000)(step:∀y∈ys,∀(A:Prop)(R:ay),(p y=Â->R (ae.t<|h y))->(p y=Å->A)->pg (g y) j' λn=>pt n λb=>if b=Â then pe n R else A)(q:Q (.ah .o<|((ys.filter p).map h).map ae.t)):aY `cm pg pt pe j' Q:=by
 show#[λi d=>d=(((ys.take i).filter p).map h).map ae.t,rfl,λi t d e a=>?_,λd a=>?_]
 .rw[Î] at e;cases e':ys[i]? with
  |none=>rw[e'] at e;cases e
  |some y=>
   rw[e'] at e;cases e;have l:=(Á.mp e').1;have r:ys.take (i+1)=ys.take i++[y]:=by rw[Ė,e'];rfl
   show step y (Ì e') _ _ (λm=>#[?_,?_])<|λm=>?_
   .rw[a,Æ,Æ];have:=ĺ p<|ys.take i;rw[Ī] at this;omega
   .show d++[ae.t<|h y]=(((ys.take<|i+1).filter p).map h).map ae.t;rw[r,Ž,a,am5 m,ß,ß];rfl
   .show d=(((ys.take<|i+1).filter p).map h).map ae.t;rw[r,Ž,a,am4 (by rw[m];decide),List.filter_nil,Ă]
 .rw[Æ,ğ] at a;rw[a,Æ,Æ];show#[Ï (ĺ p ys) u,q]
section
variable{α:Type}[ae α](m:List (Str×α))(f:Fl)
def Ld(x:Str):((m.map 1e1).any λb=>decide<|b.1=Sum.inr x)=m.any λp=>decide (p.1=x):=by
 induction m with
 |nil=>rfl
 |cons p m a=>
  rw[è,Ϥ,Ϥ,a,decide_eq_decide.mpr (show (Sum.inr p.1:aW)=Sum.inr x↔p.1=x from #[λh=>Sum.inr.inj h,λh=>by rw[h]])]
def VO(x:Str)(a:α):j9 `aX `cI `bT=(qE m x a).map 1e1:=by
 unfold j9 qE;rw[Ld];split
 .rw[ð,ð];show Ģ λp _=>?_
  change (if (Sum.inr p.1:aW)=Sum.inr x then _ else _)=_;by_cases h:p.1=x
  .rw[au4<|by rw[h]];change _=((Sum.inr (if p.1=x then (p.1,a) else p).1:aW),ae.t (if p.1=x then (p.1,a) else p).2);rw[au4 h]
  .rw[au3<|λz=>h<|Sum.inr.inj z];change _=((Sum.inr (if p.1=x then (p.1,a) else p).1:aW),ae.t (if p.1=x then (p.1,a) else p).2);rw[au3 h]
 .rw[ß];rfl
def Si(x:Str)(Q:aW->Prop):k8 `bN Q=Q `cI:=rfl
def Sj(x:Int)(Q:aW->Prop):k8 (.int x) Q=Q (Sum.inl x):=rfl
end
abbrev UO(t t':Tr):Bool:=fv t t' == À Â
abbrev Fg:bG->bG->Bool
 |[],[]=>Â
 |x::xs,y::ys=>decide (x.1=y.1)&&(UO x.2 y.2&&Fg xs ys)
 |_,_=>Å
abbrev Fh:bG->Nat
 |[]=>0
 |x::xs=>max (dep x.2)<|Fh xs
mutual
noncomputable def UN:Tr->Tr->Bool
 |.int a,.int b=>decide<|a=b
 |.str a,.str b=>decide<|a=b
 |.bl a,.bl b=>decide<|a=b
 |.aM,.aM=>Â
 |.aJ xs,.aJ ys=>qG xs ys
 |.ah _ xs,.ah _ ys=>qG xs ys
 |.aT _ xs,.aT _ ys=>Fg xs ys
 |_,_=>Å
noncomputable def qG:List Tr->List Tr->Bool
 |[],[]=>Â
 |x::xs,y::ys=>UN x y&&qG xs ys
 |_,_=>Å
end
mutual
noncomputable def Nj:Tr->Nat
 |.aJ a=>lz a + 1
 |.ah _ a=>lz a + 1
 |.aT _ a=>Fh a + 1
 |_=>0
noncomputable def lz:List Tr->Nat
 |[]=>0
 |x::xs=>max (Nj x)<|lz xs
end
abbrev jk(b a:Str):Bool:=!(Builtin.Str.occurrences b a 0 ↑b 1).isEmpty
def qk(hm:X.mg x=Ä)(a:do Gl X x)(b:do Ō x=À (.type n))(hn: ~~~(x≠"__name__"))(hd: ~~~(dS x)):QE X k `am (pC<|.ty n):=#[_,WW (v:=.ty n) a hm b rfl hn hd,r0 λ_ _=>#[rfl,rfl]]
end Pu
namespace L2
open PySem PySem.Spec PyProof.Rows
nonrec abbrev sF(X:Cx)(o:đ)(m:Str)(es:bS)(a pos:Pos)(pl:Sem Bool):Prop:=eval (.Call (.Attribute o m a) es [] pos) X.env=(do
   let ov <- eval o X.env
   ae3 a.atName
   let (f,first) <- holding [ov] (getMethod ov m pl)
   ap6 pos f first (Ų pos<|ā es X.env) (ϸ pos<|Ř [] X.env))
abbrev tZ(D:ai->Nat->Prop)(m:Str)(sp:Nat->Sp)(R:St->XK)(h:TE)(t:TA):TE:=λj H Q=>h j H λx b=>∃a C e fs g,x=.ref a/\Rd b a (.ins C e fs)/\D C g/\fs.lookup m=Ä/\t j b λvs d=>sp g (x::vs) d Q<|R j
section
def JD(he:PE X o ta)(B:∀C g,D C g->gw X.prog X.w X.K X.mg X.base CX k m C ps (sp g))(J:bD k X.A)(M:∀j,jy CX X j<|R j)(E:PA X (e::es) t)(n:do ew e es X.env)(hpl:do gf pos es X.env)(ht:do sF X o m (e::es) apos pos pl):
  PE X (.Call `aS (e::es) [] pos) (tZ D m sp R ta t):=by
 intro aa s j H Q I h;show ak6 (pl:=pl) (bh `aC λu s1 b=>?_) ht;let#[x,y,i,rx,a,C,dx,fs,g,ex,z,d,l,q]:=b;subst ex;obtain rfl:u=Ú a:=rx;∎;let#[c,f,fd,hm,F,G]:=B C g d;let#[N,O,r]:=A8 i.aP z;∎;have hn:N m=Ä:=cv.none_of (by rw[<- l];show r m);show G9 i.dc O (c.get m) hm.at_ hm.fn hn ?_;show ac5 (first:=[.ref a]) (h₀:=X.base) I.ok.mod.nE hm.kp (bh (E pos aa s1 j y _ i q) λus s2 b=>?_) n hpl;let#[vs,H2,v,Y,U]:=b;show#[v.dc,?_];show AL (us:=.ref a::us) (vs:=.ref a::vs) F J G .nil (M j) v (.cons rfl Y) (by rw[Ă];show U)
def Xm(he:PE X o ta)(n:∀C g,D C g->gw X.prog X.w X.K X.mg X.base CX k m C ps (sp g))(y:bD k X.A)(z:∀j,jy CX X j<|R j)(ht:do sF X o m [] apos pos pl):
  PE X (.Call `aS [] [] pos) (tZ D m sp R ta j7):=by
 intro aa s j H Q I h;show ak6 (pl:=pl) (bh `aC λu N e=>?_) ht;let#[x,G,b,E,a,C,J,fs,g,ex,i,d,l,q]:=e;subst ex;obtain rfl:u=Ú a:=E;∎;let#[c,f,M,hm,F,v]:=n C g d;let#[B,O,r]:=A8 b.aP i;∎;have hn:B m=Ä:=cv.none_of (by rw[<- l];show r m);show G9 b.dc O (c.get m) hm.at_ hm.fn hn ?_;show W.callWith_K0 (first:=[.ref a]) b.dc hm.kp (AL (us:=[.ref a]) (vs:=[.ref a]) F y v .nil (z j) b (.cons rfl .nil) (by rw[Ă];show q))
def xM(h:adc CX X E):∀j,jy CX X j E:=λj aa H s e a I c=>h aa j H s e a I c
end
end L2
namespace Pu
open PySem L2 Vc Sf
section
def JE:∀(ts:af)(i:Nat),`dT[i]?=ts[i]?.map dn
 |[],_=>rfl
 |_::_,0=>rfl
 |_::xs,i + 1=>JE xs i
def Aj{bf:iV}{E:XK}{q':Xv->Prop}{A:Tr->aB}{Q:VK}(hk:z=Â->Fz S0 F)(hn:(cT ts).length=n)(G:∀k,aF (B k) H)(b:fj K F B H F1 H1 ts vs c1)(hE:∀x j l,q' x->∀d,XF K j d x.f->Gr F H j l->E x.c d l)(p1:bf `dT A q')(C:∀j l D g' w v t c,Gr F H j l->(∀c,dB (du (c1.map (·.1)) H1) c->dB H c)->bg K #[z,λ_=>E,q'] lo vs F1 (du (c1.map (·.1)) H1) j l D g' w->R K j (λ_=>du (c1.map (·.1)) H1) t v c->aw j l c->dB H c->(∀i,∀p∈w i,∀q∈c,p.1≠q.1)->cP t=Â->A t g'->Q v l):iO K z lo n bf vs H1 Q E:=by
 let#[cs,M,N,O,U]:=b.r.split b.c;have hl:↑vs=n:=by rw[b.r.length,<- hn,n8]
 have hb:∀k,aF (B k) (du (c1.map (·.1)) H1):=λk a o e=>rO (w5 b.n<|G k a o e)<|b.g.h _ _<|G k a o e
 have J:∀c,dB (du (c1.map (·.1)) H1) c->dB H c:=λc n p m=>by
  have z:=n p m;by_cases I:p.1∈c1.map (·.1)
  .obtain⟨q,mq,e⟩:=á.mp I;have e:q.1=p.1:=e;rw[<- e];show b.n q mq
  .unfold du at z;rw[au3 I] at z;show b.g.h.free z
 show#[hl,F1,du (c1.map (·.1)) H1,cT ts,cs,_,q',#[#[Bk b.g.s,Fz.refl F1],λh=>b.g.fz<|hk h,by rw[Æ,n8,b.r.length],?_,O,λi p m=>zY<|N i p m,U,λi _=>by rw[Î],λx _ j l h d y g=>hE x j l h d y<|b.g.du b.n g],p1,?_]
 .intro i t h;rw[JE] at h;cases z:ts[i]? with
  |none=>rw[z] at h;cases h
  |some u=>
   rw[z] at h;cases h;let#[v,Y,b2]:=M i u z;show .inr #[v,by rw[Î,Y];rfl,b2.dn (λk=>Le.of<|hb k) u]
 .intro j l D g' w v t c' W r hc n dj nl qt;show C j l D g' w v t c' (b.g.du b.n W.g) J W r hc (J _ n) dj nl qt
def Sk{bf:iV}{E:XK}{q':Xv->Prop}{e:ay}{Q:VK}(l:z=Â->Fz S0 F)(hn:(cT ts).length=n)(h:∀k,aF (B k) H)(o:fj K F B H F1 H1 ts vs c1)(i:∀x b a,q' x->∀d,XF K b d x.f->Gr F H b a->E x.c d a)(p1:bf `dT (λt _=>e t) q')(q:∀t v b a cs,e t->Out K F B H b a t v cs->Q v a):iO K z 0 n bf vs H1 Q E:=
 Aj l hn h o i p1 λb a _ _ _ v t c g _ _ r j n _ m u=>q t v b a c u #[g,r.base t m,j,n]
def fj.cons{b i:Hp}{t:Tr}{v:V}{c:Cs}{ts:af}{vs:az}{d:Cs}(o:Out K F B H F1 H1 t v c)(a:fj K F1 B H1 b i ts vs d):fj K F B H b i (t::ts) (v::vs) (c++d) where
 g:=o.g.trans' a.g
 r:=#[v,vs,c,d,rfl,rfl,o.r.mo a.g.le (λ_=>Le.refl _) t,a.r]
 c:=(o.c.gr a.g).app a.c λp j q l e=>by
  have:=o.c.h p j;rw[e,a.n q l] at this;cases this
 n:=λp m=>(É.mp m).elim (o.n p) λm=>o.g.h.free<|a.n p m
abbrev jc(D:ai->Nat->Prop)(m:Str)(x:Tr)(Q:Nat->Prop):Prop:=match x with |.ins _ c fs=>∃g,D c g/\fs.lookup m=Ä/\Q g |_=>False
def Im{D:ai->Nat->Prop}{Q:Nat->Prop}(h:jc D m x Q):∃f c fs g,x=.ins f c fs/\D c g/\fs.lookup m=Ä/\Q g:=by
 unfold jc at h;split at h
 .obtain⟨g,h⟩:=h;show#[_,_,_,g,rfl,h]
 .show h.elim
abbrev Nl(q:Xv->Prop)(D:ai->Nat->Prop)(m:Str)(bf:Nat->iV)(po:a6)(a:cG):a6:=λj Q=>po j λx=>jc D m x λc=>a j λb=>bf c (cT (x::b)) (λt _=>Q t) q
abbrev wo(D:ai->Nat->Prop)(m:Str)(bf:Nat->gK)(po:a6)(a:cG):a6:=λj Q=>po j λx=>jc D m x λc=>a j λb=>bf c (cT (x::b))<|λt _=>Q t
def Rf.none_of:∀{fs:bz}{vs:List (Str×V)}{a:Cs}{f:Str},Rf K F B fs vs a->fs.lookup f=Ä->vs.lookup f=Ä
 |[],_,_,_,y,_=>by let#[h,_]:=y;rw[h];rfl
 |(g,y)::fs,_,_,f,y0,h=>by
  let#[v,r,c,d,b,j,l,i]:=y0;rw[b];rw[Ą] at h ⊢;cases e:f == g with
  |true=>rw[e] at h;cases h
  |false=>rw[e] at h;show Rf.none_of i h
def Ud{bf:Nat->iV}{R':St->XK}{q':Xv->Prop}(J:∀(F:Hp)(B:Bool->Hp)(H:Hp)(j:St)(i:af),gu K k F B H j i->∀x l o,q' x->∀d,XF K l d x.f->Gr F H l o->R' j x.c d o)(N:z=Â->k.z=Â)(hn:∀C xs Q q,bf C xs Q q->↑xs=n)(h:br K k te po)(M:fF K k ta pa):br K k (tZ D m (λC=>iO K z 0 n<|bf C) R' te ta) (Nl q' D m bf po pa):=λF B H j i Q Q' c p q=>by
 show h F B H j i _ _ c p λx v w y c1 p1 e=>?_
 ∎;let#[f,C,fs,g,rfl,I,O,p1]:=Im p1;let#[a,A,vs,ds,rfl,E,G,_]:=e.r.qw e.g.s (λk=>(c.b k).trans e.g.h) e.c;∎;show#[a,C,A,vs,g,rfl,E,I,G.none_of O,M w B y j i _ _ (c.gr e.g) p1 λts us F2 H2 c2 p2 Y=>?_];show Sk (λh=>c.z<|N h) (hn _ _ _ _ p2) c.b (fj.cons e Y) (λu l o U g=>J F B H j i c u l o U g) p2 q
def Io{bf:Nat->gK}(b:z=Â->k.z=Â)(hn:∀C xs Q,bf C xs Q->↑xs=n)(h:br K k te po)(a:fF K k ta pa):br K k (tZ D m (λC=>bU K z 0 n<|bf C) (λ_=>E) te ta) (wo D m bf po pa):=
 Ud (R':=λ_=>E) (q':=λ_=>False) (bf:=λC xs Q _=>bf C xs Q) (λ_ _ _ _ _ _ _ _ _ h=>h.elim) b (λC xs Q _=>hn C xs Q) h a
abbrev rA(o:Option Tr)(Q:ay):Prop:=match o with |some (.ins f c fs)=>cP `aH=Â/\Q `aH |_=>False
def Xn{Q:ay}(h:rA o Q):∃f c fs,o=À `aH/\cP `aH=Â/\Q `aH:=by
 unfold rA at h;split at h
 .show#[_,_,_,rfl,h]
 .show h.elim
abbrev M8(q:Xv->Prop)(C:ai)(bf:iV)(b:cG):a6:=λj Q=>b j λd=>bf (cT (.ins .o C []::d)) (λt a=>t=.aM/\rA a[0]? Q) q
abbrev yN(C:ai)(bf:gK)(b:cG):a6:=λj Q=>b j λd=>bf (cT (.ins .o C []::d)) λt a=>t=.aM/\rA a[0]? Q
def Xo(a:fj K F B H F1 H1 ts vs c1)(i:H1 x=Ä)(hd:H1 dx=Ä)(ne:dx≠x):∃b,fj K F B H b (aQ (aQ H1 dx<|.own x) x<|.ins C dx []) (.ins .o C []::ts) (.ref x::vs) ((x,.ins C dx [])::c1):=by
 let#[b,e,_]:=rE (o:=.own x) a.g.s (by intro _ _ z;cases z) hd;have d:aQ H1 dx `cU x=Ä:=by rw[a9<|ć ne];show i
 have j:Gr b (aQ H1 dx<|.own x) b (aQ (aQ H1 dx<|.own x) x<|.ins C dx []):=Gr.jr e.s d;have g:=e.trans' j;show#[b,a.g.trans' g,#[.ref x,vs,[(x,.ins C dx [])],c1,rfl,rfl,#[x,dx,[],[],rfl,rfl,rfl,rfl],a.r.mo g.le (λ_=>Le.refl _) ts],w4 e.s (a.c.gr e) d,λp m=>?_];cases m with
 |head=>show a.g.h.free i
 |tail _ m=>show a.n p m
def Sl{bf:iV}{R':St->XK}{q':Xv->Prop}(I:∀(F:Hp)(B:Bool->Hp)(H:Hp)(j:St)(i:af),gu K k F B H j i->∀x a l,q' x->∀d,XF K a d x.f->Gr F H a l->R' j x.c d l)(M:z=Â->k.z=Â)(hn:∀xs Q q,bf xs Q q->↑xs=n)(J:fF K k ta pa):br K k (yE C (iO K z 1 n bf) [] R' ta) (M8 q' C bf pa):=λF B H j i Q Q' c p q=>by
 show J F B H j i _ _ c p λts vs F1 H1 c1 p1 Y x dx O hd ne=>?_
 rw[Ă];let#[F2,o2]:=Xo (C:=C) Y O hd ne;show Aj (λh=>c.z<|M h) (hn _ _ _ p1) c.b o2 (λm a l N g=>I F B H j i c m a l N g) p1 λa l j' i' o v t c' g U W r hc n dj nl w=>?_
 ∎;let#[rfl,w]:=w;let#[f,c,fs,y,A,D]:=Xn w;∎;show#[r.1,?_];rcases W.e 0 _ y with z |⟨u,E,G⟩
 .cases z
 .have:=W.p 0 Nat.zero_lt_one;rw[E] at this;cases this;show q _ _ a l (o 0) D #[g,G.base _ A,W.c 0,U _<|W.n 0]
def Ue{bf:gK}(b:z=Â->k.z=Â)(hn:∀xs Q,bf xs Q->↑xs=n)(a:fF K k ta pa):br K k (yE C (bU K z 1 n bf) [] (λ_=>E) ta) (yN C bf pa):=
 Sl (R':=λ_=>E) (q':=λ_=>False) (bf:=λxs Q _=>bf xs Q) (λ_ _ _ _ _ _ _ _ _ h=>h.elim) b (λxs Q _=>hn xs Q) a
end
section
def e7{D:ai->Nat->Prop}{bf:Nat->gK}(q:∀C g,D C g->gw X.prog X.w X.K X.mg X.base bJ kj m C ps (bU X.K z 0 n<|bf g))(x:QE X k o po)(r:QA X k (e::es) pa)(y:bD km X.A:=by assumption)(u:kj<=km:=by first |decide |omega)(v:z=Â->k.z=Â:=by first |show id |show λ_=>rfl)(hn:∀C xs Q,bf C xs Q->↑xs=n:=by show λ_ _ _ h=>h.1)(a:do ew e es X.env)(hpl:do gf pos es X.env)(ht:do sF X o m (e::es) apos pos pl):QE X k (.Call `aS (e::es) [] pos) (wo D m bf po<|nW pa):=by
 ∎;let#[E,j,l]:=x.h;let#[B,b,i]:=r.aE.h;∎;show#[_,JD (R:=λ_=>E0) j (λC g d=>(q C g d).mono u) y (xM uL) b a hpl ht,Io v hn l i]
def xu{D:ai->Nat->Prop}{bf:Nat->gK}(e:∀C g,D C g->gw X.prog X.w X.K X.mg X.base bJ kj m C ps (bU X.K z 0 n<|bf g))(l:QE X k o po)(q:bD km X.A:=by assumption)(i:kj<=km:=by first |decide |omega)(j:z=Â->k.z=Â:=by first |show id |show λ_=>rfl)(hn:∀C xs Q,bf C xs Q->↑xs=n:=by show λ_ _ _ h=>h.1)(ht:do sF X o m [] apos pos pl):QE X k (.Call `aS [] [] pos) (wo D m bf po wa):=by
 let#[r,a,b]:=l.h;show#[_,Xm (R:=λ_=>E0) a (λC g d=>(e C g d).mono i) q (xM uL) ht,Io j hn b HJ]
end
nonrec abbrev mP:=af->(Tr->aB)->Prop
structure mO(K:PySem.W.Frag)(k:Md)(lo:Nat)(us:az)(Fb Hb F F' H':Hp)(j:St)(G:af)(cs:Nat->Cs)(t:Tr)(v:V)(e:Cs):Prop where
 l:Le F F'
 W:bg K k lo us Fb Hb F' H' j G cs
 r:R K F' (λ_=>Hb) t v e
 c:aw F' H' e
 n:dB Hb e
 d:∀i,∀p∈cs i,∀q∈e,p.1≠q.1
abbrev rB(K:ar)(k:Md)(lo:Nat)(n:TE)(pl:mP):Prop:=∀(us:az)(b e F H:Hp)(j:St)(i:af)(m:Nat->Cs)(Q:VK)(g:Tr->aB),bg K k lo us b e F H j i m->pl i g->
 (∀t v l d h a c,mO K k lo us b e F l d j h a t v c->g t h->Q v d)->n j H Q
section
def mO.held{t:Tr}{v:V}{c:Cs}(o:mO K k lo us Fb Hb F F' H' j i cs t v c):∃a,Le F a/\bg K k lo us Fb Hb a H' j i cs/\R K a (λ_=>Hb) `bj v []:=by
 let#[a,e,b,g]:=o.W.lay o.c o.n `cf o.d;show#[a,o.l.trans<|Le.of b,e,o.r.aE (Le.of b) t g]
abbrev yG(i:Nat)(pl:mP):b8:=λD j=>pl j λt a=>D.nx<|a.set i<|aE t
def Sn(q:lo<=i)(h:rB K k lo te pl):dh K k lo (mW te<|kA i) (yG i pl):=λus b e F H j G l D r W p L=>by
 show h us b e F H j G l _ _ W p λt v u d w n x o p1=>?_
 let#[a,y,g,r2]:=o.held;show L.nx a d _ _ _ (g.set q r2 .nil .nil λ_ _ _ _ _ m=>nomatch m) p1
abbrev yH(pl:mP):b8:=λD j=>pl j λ_ j1=>D.nx j1
def So(h:rB K k lo te pl):dh K k lo (tM te) (yH pl):=λus b e F H j i g D m W p L=>
 h us b e F H j i g _ _ W p λt v a d q l n o p1=>L.nx a d _ _ _ o.W p1
abbrev yO(pl:mP):b8:=λD j=>pl j λt a=>cP t=Â/\D.rt t a
def Ug(h:rB K k lo te pl):dh K k lo (zj te) (yO pl):=λus e l F H j i q D w W p L=>
 h us e l F H j i q _ _ W p λt v b g u a m o p1=>L.rt b g j u a v t m o.W o.r o.c o.n o.d p1.1 p1.2
end
section
abbrev HA(K:ar)(F Hb:Hp)(j:St)(G:af):bE->af->az->Prop
 |[],ts,vs=>ts=[] /\ vs=[]
 |none::hs,ts,vs=>∃t v a b,ts=t::a /\ vs=v::b /\ R K F (λ_=>Hb) t v [] /\ HA K F Hb j G hs a b
 |some i::hs,ts,vs=>∃t v a b,ts=t::a /\ vs=v::b /\ G[i]? = À t /\ t ≠ .aq /\ j[i]? = À (À v) /\ HA K F Hb j G hs a b
abbrev ua(K:ar)(k:Md)(lo:Nat)(hs:bE)(n:TA)(m:cG):Prop:=∀(us:az)(d b F H:Hp)(j:St)(i:af)(h:Nat->Cs)(Q:az->Hp->Prop)(g:aB),bg K k lo us d b F H j i h->m i g->
 (∀l vs a e,Le F a->bg K k lo us d b a e j i h->HA K a b j i hs l vs->g l->Q vs e)->n j H Q
abbrev Cb:cG:=λ_ Q=>Q []
abbrev Cd(a:a6)(b:cG):cG:=λj Q=>a `af λt=>bX t=Â/\b j λd=>Q (Pu.aE t::d)
def Uh:ua K k lo [] j7 Cb:=λus a b F H j i e Q d W p q=>q [] [] F H `bm W #[rfl,rfl] p
def xN{Q:ay}(h:pV o Q):∃t,o=À t/\t≠.aq/\Q t:=by
 unfold pV at h;split at h
 .show h.elim
 .rename_i t hn;show#[t,rfl,λz=>hn (by rw[z]),h]
 .show h.elim
def z'e(he:br K k te pe)(h:ua K k lo hs ta ph):ua K k lo (Ä::hs) (j5 te ta) (Cd pe ph):=λus n b F H j i y Q B W p q=>by
 show he F (Bq b H) H j _ _ _ W.e8 p λt v A r C e o=>?_
 let#[l,w,r2,z]:=W.fZ o e.1;show h us n b l r j i y _ _ w e.2 λg vs m u d x a p3=>q (Pu.aE t::g) _ m u (z.trans d) x #[Pu.aE t,v,g,vs,rfl,rfl,r2.mo d (λ_=>Le.refl _) _,a] p3
def HA.rs(W:bg K k lo us Fb Hb F H G J cs):∀{hs:bE}{ts:af}{vs:az},(hs.filterMap id).Nodup->HA K F Hb G J hs ts vs->∃c,Rs K F (λ_=>Hb) ts vs c/\aw F H c/\dB Hb c/\(∀p∈c,∃i,À i∈hs/\p∈cs i)/\∀i,À i∈hs->∀p∈cs i,p∈c
 |[],_,_,_,y=>by let#[g,h]:=y;show#[[],by rw[g,h];show#[rfl,rfl],.nil,.nil,(λ_ m=>nomatch m),λ_ m=>nomatch m]
 |none::hs,_,_,nd,y=>by
  ∎;let#[t,v,C,a,g,h,A,B]:=y;let#[c,o,r,w,l,x]:=HA.rs W (hs:=hs) nd B;∎;show#[c,by rw[g,h];show#[v,a,[],c,rfl,rfl,A,o],r,w,λp m=>?_,λi m p b=>?_]
  .obtain⟨i,b1,b2⟩:=l p m;show#[i,.tail _ b1,b2]
  .cases m with
   |tail _ m=>show x i m p b
 |some i::hs,_,_,nd,y=>by
  let#[t,v,C,a,g,h,A,B,I,M]:=y;have nd:(i::hs.filterMap id).Nodup:=nd;rw[Ĕ] at nd;let#[c,o,r,w,l,x]:=HA.rs W (hs:=hs) nd.2 M;have O:À i ∉ hs:=λm=>nd.1<|Į.mpr #[_,m,rfl]
  have rt:R K F (λ_=>Hb) t v (cs i):=by
   rcases W.e i t A with z |⟨u,D,E⟩
   .show au5 z B
   .rw[I] at D;cases D;show E
  show#[cs i++c,by rw[g,h];show#[v,a,cs i,c,rfl,rfl,rt,o],(W.c i).app r λp b q N=>?_,λp m=>(É.mp m).elim (W.n i p)<|w p,λp m=>?_,λj m p b=>?_]
  .obtain⟨j,b1,b2⟩:=l q N;show W.d i j (λz=>O (by rw[z];show b1)) p b q b2
  .rcases É.mp m with m |m
   .show⟨i,.head _,m⟩
   .obtain⟨j,b1,b2⟩:=l p m;show#[j,.tail _ b1,b2]
  .rcases ä.mp m with e |m
   .cases e;show É.mpr<|.inl b
   .show É.mpr (.inr<|x j m p b)
abbrev gF:bE->af->af
 |[],j=>j
 |none::hs,j=>gF hs j
 |some i::hs,j=>(gF hs j).set i .aq
def z4:∀(hs:bE)(j:af),(gF hs j).length=↑j
 |[],_=>rfl
 |none::hs,j=>z4 hs j
 |some i::hs,j=>by change ((gF hs j).set i .aq).length=_;rw[û];show z4 hs j
def wO:∀(hs:bE)(G:af),À i ∉ hs->(gF hs G).set i t=gF hs (G.set i t)
 |[],_,_=>rfl
 |none::hs,G,h=>wO hs G λm=>h<|.tail _ m
 |some j::hs,G,h=>by
  change ((gF hs G).set j .aq).set i t=(gF hs<|G.set i t).set j .aq;rw[List.set_comm _ _ (λz=>h (by rw[z];show .head _)),wO hs G λm=>h<|.tail _ m]
def Ak:∀(hs:bE)(G:af),(gF hs G)[j]?=À t->t=.aq\/(À j ∉ hs/\G[j]?=À t)
 |[],_,h=>.inr #[(λm=>nomatch m),h]
 |none::hs,G,h=>(Ak hs G h).imp id λ⟨a,b⟩=>#[λm=>by cases m with |tail _ m=>show a m,b]
 |some i::hs,G,h=>by
  have h:((gF hs G).set i .aq)[j]?=À t:=h;by_cases e:i=j
  .subst e;have d:=(Á.mp h).1;rw[û] at d;rw[Ā d] at h;cases h;show .inl rfl
  .rw[ï e] at h;show (Ak hs G h).imp id λ⟨a,b⟩=>#[λm=>by
    rcases ä.mp m with z |m
    .cases z;show e rfl
    .show a m,b]
def bg.past{hs:bE}{c:Cs}(W:bg K k lo us Fb Hb F H G J cs)(n:dB Hb c)(B:∀p∈c,∃i,À i∈hs/\p∈cs i)(g:Gr F (du (c.map (·.1)) H) F' H'):bg K k lo us Fb Hb F' H' G (gF hs J) (λj=>if À j∈hs then [] else cs j)/\∀j,À j ∉ hs->∀p∈cs j,(du (c.map (·.1)) H) p.1=À p.2:=by
 have C:Gr Fb Hb F' H':=W.g.du n g;have keep:∀j,À j ∉ hs->∀p∈cs j,(du (c.map (·.1)) H) p.1=À p.2:=λj w p o=>by
  show rO (λm=>?_)<|(W.c j).h p o;∎;let#[q,r,e]:=á.mp m;let#[i,y,A]:=B q r;∎;show W.d j i (λz=>w (by rw[z];show y)) p o q A e.symm
 show#[#[C,λh=>g.fz<|W.z h,by rw[z4];show W.l,λj t h=>?_,λj=>?_,λj=>?_,λa b ne p o q r=>?_,W.p,W.x],keep]
 .rcases Ak hs J h with z |⟨z,e⟩
  .show .inl z
  .rw[au3 z];show (W.e j t e).imp id λ⟨v,h1,h2⟩=>#[v,h1,h2.mo g.le (λ_=>Le.refl _) t]
 .split
  .show .nil
  .rename_i w;show#[λp m=>g.h _ _<|keep j w p m,λp m=>?_,(W.c j).nd];cases z:F' p.1 with
   |none=>rfl
   |some u=>
    have:=g.n p.1 u z<|(W.c j).f p m;rw[keep j w p m] at this;cases this
 .split
  .show .nil
  .show W.n j
 .split at o
  .cases o
  .split at r
   .cases r
   .show W.d a b ne p o q r
def bg.fill{i:Nat}{t:Tr}{v:V}{c:Cs}(W:bg K k lo us Fb Hb F H G J cs)(B:G[i]?=À (À v))(r:R K F (λ_=>Hb) t v c)(y:aw F H c)(n:dB Hb c)(d:∀j,j≠i->∀p∈cs j,∀q∈c,p.1≠q.1):
  bg K k lo us Fb Hb F H G `cG (λj=>if j=i then c else cs j) where
 g:=W.g
 z:=W.z
 l:=by rw[û];show W.l
 e:=λj u h=>by
  by_cases e:j=i
  .subst e;have A:j<↑J:=by have:=(Á.mp h).1;rw[û] at this;show this
   rw[Ā A] at h;cases h;show .inr #[v,B,by rw[au4 rfl];show r]
  .rw[ï<|λz=>e z.symm] at h;rw[au3 e];show W.e j u h
 c:=λj=>by
  split
  .show y
  .show W.c j
 n:=λj=>by
  split
  .show n
  .show W.n j
 d:=λa b ne p w q m=>by
  by_cases o:a=i
  .rw[au4 o] at w;rw[au3<|λz=>ne<|o.trans z.symm] at m;show (d b (λz=>ne<|o.trans z.symm) q m p w).symm
  .rw[au3 o] at w;by_cases eb:b=i
   .rw[au4 eb] at m;show d a o p w q m
   .rw[au3 eb] at m;show W.d a b ne p w q m
 p:=W.p
 x:=W.x
abbrev k6:bE->Nat->af->af->(aB)->Prop
 |[],_,_,G,Q=>Q G
 |none::hs,j,G',G,Q=>k6 hs (j + 1) G' G Q
 |some i::hs,j,G',G,Q=>pV G'[j]? λt=>cP t=Â /\ k6 hs (j + 1) G' (G.set i t) Q
def Al{k':Md}{w:Nat}{vs:az}{B:Hp}{E:St}{C:af}{a:Nat->Cs}{G:Prop}{D:aB}(g:bg K k' w vs F1 B F' H' E C a)(A:aF Hb B):∀(hs:bE)(j:Nat)(O:af)(cx:Nat->Cs),(hs.filterMap id).Nodup->bg K k lo us Fb Hb F' H' J (gF hs O) cx->(∀n i,hs[n]?=À (À i)->∃v,J[i]?=À (À v)/\vs[j+n]?=À v)->j+↑hs<=w->
  (∀i m,(i<lo\/True)->j<=m->∀p∈cx i,∀q∈a m,p.1≠q.1)->k6 hs j C O D->(∀x b,bg K k lo us Fb Hb F' H' J x b->(∀i,∀p∈b i,p∈cx i\/∃m,p∈a m)->D x->G)->G
 |[],j,O,cx,_,W,_,_,_,p,q=>q O cx W (λi p m=>.inl m) p
 |none::hs,j,O,cx,nd,W,hv,hl,d,p,q=>by
  show Al g A hs (j+1) O cx nd W (λn i e=>?_) (by rw[Ý] at hl;omega) (λi m z hm=>d i m z ⋯) p q;let#[v,o,r]:=hv (n+1) i e;show#[v,o,by rw[show j+1+n=j+(n+1) by omega];show r]
 |some i::hs,j,O,cx,nd,W,hv,hl,d,p,q=>by
  have nd:(i::hs.filterMap id).Nodup:=nd;rw[Ĕ] at nd;have ni:À i ∉ hs:=λm=>nd.1<|Į.mpr #[_,m,rfl]
  ∎;let#[t,M,N,Q,p]:=xN p;let#[v,o,r]:=hv 0 i rfl;∎;rw[Ý] at hl;have rt:R K F' (λ_=>Hb) t v (a j):=by
   rcases g.e j t M with z |⟨u,U,Y⟩
   .show au5 z N
   .have:=g.p j ⋯;rw[U,show vs[j]?=À v from r] at this;cases this;show Y.base t Q
  have I:bg K k lo us Fb Hb F' H' J (gF hs<|O.set i t) (λm=>if m=i then a j else cx m):=by
   have:=W.fill (i:=i) o rt (g.c j) (λp m=>A.free<|g.n j p m) λm _ p l q y=>d m j (.inr trivial) (Ñ j) p l q y
   rw[show (gF (À i::hs) O).set i t=gF hs (O.set i t) by
    change ((gF hs O).set i .aq).set i t=_;rw[List.set_set];show wO hs O ni] at this
   show this
  show Al g A hs (j+1) (O.set i t) _ nd.2 I (λn h e=>?_) ⋯ (λh m z hm p l q y=>?_) p λx b H sub=>q x b H λh p m=>?_
  .obtain⟨v,o,r⟩:=hv (n+1) h e;show#[v,o,by rw[show j+1+n=j+(n+1) by omega];show r]
  .by_cases ei:h=i
   .rw[au4 ei] at l;show g.d j m ⋯ p l q y
   .rw[au3 ei] at l;show d h m z ⋯ p l q y
  .rcases sub h p m with z |z
   .by_cases ei:h=i
    .rw[au4 ei] at z;show .inr #[j,z]
    .rw[au3 ei] at z;show .inl z
   .show .inr z
def HA.at_:∀{hs:bE}{ts:af}{vs:az}{n i:Nat},HA K F Hb j G hs ts vs->hs[n]?=À (À i)->∃v,j[i]?=À (À v)/\vs[n]?=À v
 |none::hs,_,_,n,i,y,e=>by
  let#[t,v,g,h,m,d,o,l]:=y;cases n with
  |zero=>cases e
  |succ n=>let#[u,a,b]:=HA.at_ (hs:=hs) l e;show#[u,a,by rw[d];show b]
 |some x::hs,_,_,n,i,y,e=>by
  let#[t,v,g,h,m,d,o,l,q,r]:=y;cases n with
  |zero=>cases e;show#[v,q,by rw[d];rfl]
  |succ n=>let#[u,a,b]:=HA.at_ (hs:=hs) r e;show#[u,a,by rw[d];show b]
def HA.len:∀{hs:bE}{ts:af}{vs:az},HA K F Hb j G hs ts vs->↑ts=↑hs
 |[],_,_,y=>by let#[a,_]:=y;rw[a];rfl
 |none::hs,_,_,y=>by let#[t,v,b,d,a,g,h,e]:=y;rw[a,Ý,Ý,HA.len e]
 |some i::hs,_,_,y=>by let#[t,v,b,d,a,g,h,e,m,l]:=y;rw[a,Ý,Ý,HA.len l]
end
structure QL(X:Cx)(k:Md)(lo:Nat)(e:đ)(pl:mP):Prop where
 h:∃te,PE X e te/\rB X.K k lo te pl
structure QH(X:Cx)(k:Md)(lo:Nat)(es:bS)(hs:bE)(ph:cG):Prop where
 h:∃ta,PA X es ta/\ua X.K k lo hs ta ph
section
def qe:QH X k lo [] [] Cb:=#[_,mz,Uh]
def mE(he:QE X k e pe)(h:QH X k lo es hs ph)(a:do ew e es X.env):QH X k lo (e::es) (Ä::hs) (Cd pe ph):=by
 ∎;let#[j,g,i]:=he.h;let#[l,b,d]:=h.h;∎;show#[_,ll g b a,z'e i d]
section
def xg(i:Nat)(h:QL X k lo e pl)(d:X.N.Nodup:=by assumption)(l: ~~~(lo<=i))(j:do X.N[i]?=À x)(m:Loc X.env.scope x:=by first |show ϛ rfl |show ŵ rfl)(hs:do Ĭ e (À<|.Name x pos') pos.line X.env=pure Å)(g:kX X x:=by first |show .inl rfl |show .inr rfl |assumption):
  QS X k lo (.Assign [.Name x pos'] e pos) (yG i pl):=by
 let#[n,a,b]:=h.h;show#[_,uD d j m a hs g,Sn l b]
def AA(h:QL X k lo e pl)(hs:do Ĭ e Ä pos.line X.env=pure Å):QS X k lo `cX (yH pl):=by
 let#[d,a,b]:=h.h;show#[_,wR a hs,So b]
def nh(h:QL X k lo e pl):QS X k lo `bW (yO pl):=by
 let#[d,a,b]:=h.h;show#[_,Jj a,Ug b]
end
end
end Pu
namespace L2
open PySem PySem.Spec PyProof.Rows
abbrev Fi(e:TE):TE:=λj H Q=>e j H λx d=>∃a b,x=.ref a/\Rd d a (.dK b)/\∀p,d p=Ä->Q `ao (aQ d p (.ah (b.map (·.2))))
def O7(hc:X.calm=Â)(hg:Gl X "list")(hm:X.mg "list"=Ä)(ho:PE X o td)(l:ú o "values" X.env `as=eval o X.env)(m:(apos.endLine == bu.line)=Â)(hs:do ā [.Call (.Attribute o "values" apos) [] [] bu] X.env=[(Å,eval (.Call (.Attribute o "values" apos) [] [] bu) X.env)]):
  PE X (.Call (.Name "list" p) [.Call (.Attribute o "values" apos) [] [] bu] [] pos) (Fi td):=by
 intro aa s i H Q I h;show Ğ<|kC I hg hm (u:=.type "list") rfl ?_;show ó ?_ hs rfl;rw[hs];change Ø _ _ (spliced ((Å,eval (.Call (.Attribute o "values" apos) [] [] bu) X.env)::Ų pos [])) _ _ s;show Ő ?_;show ac9 l m<|bh (ho aa s i H _ I h) λv n G=>?_;let#[x,J,C,r1,a,kvs,ex,N,q]:=G;subst ex;obtain rfl:v=Ú a:=r1;let#[U,t2,hd]:=uu C<|.inl #[kvs,N];show#["dict","dict.values",PySem.F.plainAttrs_dict,PySem.F.slot_dict_values,PySem.F.type_dict_values,U,t2,ŏ rfl<|PySem.evalArgs_none ?_];let#[z,y,vs,r,dd]:=lq C.aP N;show ae2 PySem.F.slot_dict_values U PySem.F.entry_dict_values `ct (meets_dict_values `aL a hd) #[#[vs,dd],?_];have M:ax X aa i J { n with heap:=n.heap.push { cls:=.type "dict_values",data:=.fields ([.ref a].toArray) } }:=C.kept (t':=n.toks) λb o e=>Ã _ e
 let#[ep,D]:=dd.dictAt;have B:=D.push { cls:=.type "dict_values",data:=.fields ([.ref a].toArray) };have O:↑kvs=↑vs:=KV.length r;show Ϗ ?_;show W.kdl_call (s:={ n with heap:=n.heap.push { cls:=.type "dict_values",data:=.fields ([.ref a].toArray) } }) (W.kdl_values (knd:=fo X.prog X.w) (kvs:=vs) (ep:=ep) (r:=⇑n) (d:=a)) `bq #[#[_,Ó _ rfl,rfl,rfl],B] (by rw[<- O];show z) λh' tk A Y hk hS g=>?_
 have E:J (n.heap.push { cls:=.type "dict_values",data:=.fields ([.ref a].toArray) }).objs.size=Ä:=M.aP.fresh<|Ñ _;show#[.ref _,_,M.laid (o:=.ah (kvs.map (·.2))) (h':=h') (t':=tk) hk (Ñ _) #[by rw[Æ];show z,A.toList,Y,?_,by rw[ϡ];show hS],rfl,q _ E];show R6 r (by rw[ώ,g.1,O]) λj u hu=>?_
 show g.2 j u (by rw[<- ϒ];show hu)
end L2
namespace Pu
open PySem L2 Vc Sf
section
def Rk.snd:∀{m:bG}{vs:bY}{c:Cs},Rk K F B m vs c->Rs K F B (m.map (·.2)) (vs.map (·.2)) c
 |[],_,_,y=>by let#[h,a]:=y;rw[h,a];show#[rfl,rfl]
 |(y,x)::m,_,_,y0=>by let#[v,r,c,d,b,a,e,g]:=y0;rw[b,a];show#[v,_,c,d,rfl,rfl,e,Rk.snd g]
abbrev x9(t:Tr)(Q:ay):Prop:=match t with |.aT _ m=>Q (.ah .o (m.map (·.2))) |_=>False
def z'f(h:br K k te pe):br K k (Fi te) (p1 x9 pe):=λF B H j i Q A c p q=>by
 show h F B H j i _ _ c p λx v l z C p1 d=>?_
 unfold x9 at p1;split at p1
 .obtain⟨a,vs,ds,rfl,h1,h2,h3,h4⟩:=d.r.ki d.g.s (λk=>(c.b k).trans d.g.h) d.c;show#[a,vs,rfl,h1,λp e=>?_];let#[o,u,w]:=mw d.g.s h2.snd h3 e;show q _ _ l _ _ p1 #[d.g.trans' o,u,w,λy m=>?_];cases m with
  |head=>show d.g.h.free e
  |tail _ m=>show d.n y<|h4 y m
 .show p1.elim
end
section
def Ml(g:X.calm=Â)(i:Gl X "list")(hm:X.mg "list"=Ä)(h:QE X k o po)(d:do ú o "values" X.env `as=eval o X.env)(e:do (apos.endLine == bu.line)=Â)(hs:do ā [.Call (.Attribute o "values" apos) [] [] bu] X.env=[(Å,eval (.Call (.Attribute o "values" apos) [] [] bu) X.env)]):
  QE X k (.Call (.Name "list" p) [.Call (.Attribute o "values" apos) [] [] bu] [] pos) (p1 x9 po):=by
 let#[j,a,b]:=h.h;show#[_,O7 g i hm a d e hs,z'f b]
end
def Sq:wo D m bf po pa j Q=(po j λx=>jc D m x λc=>pa j λts=>bf c (cT (x::ts))<|λt _=>Q t):=rfl
def P1:yN C bf pa j Q=(pa j λts=>bf (cT (.ins .o C []::ts)) λt a=>t=.aM/\rA a[0]? Q):=rfl
def O8(i:Nat)(pl:mP)(D:Pd)(j:af):yG i pl D j=(pl j λt a=>D.nx<|a.set i<|aE t):=rfl
def O9:yH pl D j=(pl j λ_ j1=>D.nx j1):=rfl
def P4:yO pl D j=(pl j λt a=>cP t=Â/\D.rt t a):=rfl
def VP:Cb j' Q=(Q []):=rfl
def VQ:Cd pe ph j Q=(pe `af λt=>bX t=Â/\ph j λts=>Q (Pu.aE t::ts)):=rfl
def Pa(j:Nat)(a i:af)(Q:aB):k6 [] j a i Q=Q i:=rfl
def P5(hs:bE)(j:Nat)(a i:af)(Q:aB):k6 (Ä::hs) j a i Q=k6 hs (j+1) a i Q:=rfl
def OP(c:ai)(fs:bz):aI `aR=.ins `ca c (cI fs):=rfl
def OO(c:ai)(fs:bz):dn `aR=.ins .o c (jE fs):=rfl
def A7(c:ai)(fs:bz):cP `aR=eO fs:=rfl
def GV(c:ai)(fs:bz):bX `aR=gC fs:=rfl
def z'g(f:Fl)(m:bG)(Q:ay):x9 (.aT f m) Q=Q (.ah .o (m.map (·.2))):=rfl
def Sr(K:ar)(f:Str)(c:ai)(fs:bz)(Q:ai->bz->Prop):pH K f `aR Q=((g8 K c/\bq K c f)/\↑fs<900/\Q c fs):=rfl
def pO(f:Str)(u:Tr):jb f u []=[(f,u)]:=rfl
def P6(f:Fl)(c:ai)(xs:bz)(R:ay):vb (À<|.ins f c xs) R=R (.ins f c xs):=rfl
section
abbrev zG(i:Nat):mP:=λj Q=>pV j[i]? λt=>Q t<|j.set i .aq
def Xq:rB K k lo (hJ i) (zG i):=λus r u F H G J b Q w W p q=>by
 let#[t,g,h,p]:=xN p;rcases W.e i t g with z |⟨v,l,m⟩
 .show au5 z h
 show⟨v,l,q t v F H _ _ (b i) ⟨Le.refl _,W.aq (i:=i),m,W.c i,W.n i,λj p a q o=>?_⟩ p⟩;split at a
 .cases a
 .rename_i hj;show W.d j i hj p a q o
def Ss(i:Nat)(j:af)(Q:Tr->aB):zG i j Q=(pV j[i]? λt=>Q t<|j.set i .aq):=rfl
end
section
def m9(i:Nat)(b:do X.N[i]?=À x)(d:o9 X.env.scope x:=by first |show ϛ rfl |show ŵ (ϛ rfl) |show ŵ<|ŵ rfl)(hd: ~~~(dS x))(a: ~~~((x == ("__classdict__":Str))=Å)):QL X k lo `am (zG i):=#[_,xA b d hd a,Xq]
end
section
abbrev yI(g a:Tr->Tr->(ay)->Prop)(d pb e:a6):a6:=λj Q=>d j λx=>pb j λy=>g x y λz=>iP z λb=>if b=Â then e j λw=>a y w Q else Q `bw
def Su(o:eh K k r pr)(o':eh K k r' pr')(ha:br K k ta pa)(hb:br K k tb pb)(hc:br K k tc pc):br K k (DV r r' ta tb tc) (yI pr pr' pa pb pc):=λF B H j i Q Q' c p q=>by
 show ha F B H j i _ _ c p λx v O H1 c1 p1 w=>?_
 show hb O B H1 j i _ _ (c.gr w.g) p1 λy u U H2 N p2 d=>?_
 have D:=w.g.trans' d.g;show o U B H2 v u x y c1 N _ _ d.g.s (λk=>((c.b k).trans w.g.h).trans d.g.h) (λh=>d.g.fz<|w.g.fz<|c.z h) (w.r.mo d.g.le (λk=>Le.refl<|B k) x) d.r (w.c.gr d.g) d.c (λp G q I e=>by have:=w.c.h p G;rw[e,d.n q I] at this;cases this) p2 λz v3 J M c3 A C r3 _ _=>?_
 unfold iP at A;split at A
 .rename_i b;let#[rfl,_]:=r3;show#[b,rfl,?_];have a:=D.trans' C;cases b with
  |false=>show q _ _ J M [] A (.bl a)
  |true=>
   rw[au4 rfl] at A ⊢;show hc J B M j i _ _ `de A λt4 v4 Y H4 c4 p4 l=>?_
   have y4:=(d.r.mo C.le (λk=>Le.refl<|B k) y).mo l.g.le (λk=>Le.refl<|B k) y;have yc:=(d.c.gr C).gr l.g;show o' Y B H4 u v4 y t4 N c4 Q Q' l.g.s (λk=>((c.b k).trans a.h).trans l.g.h) (λh=>l.g.fz<|a.fz<|c.z h) y4 l.r yc l.c (λp G q I e=>by have:=(d.c.gr C).h p G;rw[e,l.n q I] at this;cases this) p4 λt5 v5 F5 H5 c5 q5 g5 r5 E n5=>?_
   show q t5 v5 F5 H5 c5 q5 #[(a.trans' l.g).trans' g5,r5,E,λp m=>?_];rcases n5 p m with z |z |z
   .show a.h.free (l.g.h.free z)
   .show w.g.h.free (d.n p z)
   .show a.h.free (l.n p z)
 .show A.elim
end
section
def U5(v:cw X `cY r)(hs:eh X.K k r pr)(d:cw X (í op') r')(e:eh X.K k r' pr')(o:QE X k a pa)(q:QE X k b pb)(u:QE X k c pc)(hm:lastMarks [op,op'] [b,c]=Å:=by with_unfolding_all rfl):QT X k (.Compare a [op,op'] [b,c] pos) (pT<|yI pr pr' pa pb pc):=by
 ∎;let#[w,m,n]:=o.h;let#[tb,j,l]:=q.h;let#[x,g,i]:=u.h;∎;show#[_,To v d m j g hm,GR<|Su hs e n l i]
end
def Pb(g a:Tr->Tr->(ay)->Prop)(d pb e:a6)(j:af)(Q:ay):yI g a d pb e j Q=(d j λx=>pb j λy=>g x y λz=>iP z λb=>if b=Â then e j λw=>a y w Q else Q `bw):=rfl
def fw(a:qW X E):ac3 `aa X.A X.env X.xe:=by
 rw[show X.xe=_ from a]
 passes_own
nonrec abbrev PC':=Pd->af->Xv->Prop
end Pu
namespace Pu
open PySem PySem.Spec PyProof.Rows
section
variable{p:aS->Prop}
def PL(h:p []):∀us:aS,us.length=0->p us:=λus e=>by
 cases us with
 |nil=>show h
 |cons=>cases e
def xP{p:aS->Prop}{k:Nat}(h:∀a (us:aS),us.length=k->p (a::us)):∀us:aS,us.length=k+1->p us:=λus e=>by
 cases us with
 |nil=>cases e
 |cons a us=>show h a us<|Μ e
def Ik(h:∀a,p [a]):∀us:aS,us.length=[x1].length->p us:=xP λa=>PL<|h a
def ln2(h:∀a b,p [a,b]):∀us:aS,us.length=[x1,x2].length->p us:=xP λa=>Ik (x1:=x2) (p:=λl=>p (a::l))<|h a
def Il(h:∀a b c,p [a,b,c]):∀us:aS,us.length=[x1,x2,x3].length->p us:=xP λa=>ln2 (x1:=x2) (x2:=x3) (p:=λl=>p (a::l))<|h a
def PM(h:∀a b c d,p [a,b,c,d]):∀us:aS,us.length=[x1,x2,x3,x4].length->p us:=xP λa=>Il (x1:=x2) (x2:=x3) (x3:=x4) (p:=λl=>p (a::l))<|h a
end
end Pu
namespace Pu
open PySem L2 Vc Sf
def sk(hp:PE X o `bi)(a:do ú o f X.env `as=eval o X.env):PE X (.Attribute o f pos) (tR X.K i (f::r)):=HH hp a
section
def aw.perm(h:aw F H c)(p:c.Perm d):aw F H d:=#[λx m=>h.h x<|p.mem_iff.mpr m,λx m=>h.f x<|p.mem_iff.mpr m,((p.map (·.1)).nodup_iff).mp h.nd]
def aw.uF(h:aw F H (c++d)):∀p∈c,∀q∈d,p.1≠q.1:=by
 have:=h.nd;rw[ß,ŋ] at this;show λp a q b=>this.2.2 _ (á.mpr #[p,a,rfl]) _<|á.mpr #[q,b,rfl]
def Sv{hs:bE}{n:Nat}{z:Bool}{bf:iV}{ts:af}{vs:az}{E:XK}{q':Xv->Prop}{Q':Tr->aB}{Q:VK}{t:Tr}{r:aj}{v w:V}{c rest:Cs}(W:bg K k lo us Fb Hb F1 H1 G J cs)(l:Le F F1)(hv:G[i]?=À (À v))(pm:(cs i).Perm (c++rest))(θ:R K F1 (λ_=>Hb) `cg w c)(cl:∀B,Le F1 B->∀u d,R K B (λ_=>Hb) u w d->∃c1,R K B (λ_=>Hb) `ez v c1/\c1.Perm (d++rest))(a:HA K F1 Hb G J hs ts vs)(nd:((À i::hs).filterMap id).Nodup)(hk:z=Â->k.z=Â)(hn:(cT (dq t r::ts)).length=n)(hE:∀x B H,q' x->∀d,XF K B d x.f->Gr Fb Hb B H->E x.c d H)(p1:bf (cT (dq t r::ts)) (λx J'=>pV J'[0]? λu=>cP u=Â/\k6 hs 1 J' (J.set i<|ja t r u) λJ2=>Q' x J2) q')(q:∀t v B H J' Y c,mO K k lo us Fb Hb F B H G J' Y t v c->Q' t J'->Q v H):iO K z n n bf (w::vs) H1 Q E:=by
 have U:(i::hs.filterMap id).Nodup:=nd;rw[Ĕ] at U;have ni:À i ∉ hs:=λm=>U.1<|Į.mpr #[_,m,rfl]
 let#[I,a1,a2,a3,a4,a5]:=a.rs W U.2;have α:aw F1 H1 (c++rest):=(W.c i).perm pm;have sub:∀p∈c,p∈cs i:=λp m=>pm.mem_iff.mpr<|É.mpr<|.inl m
 have C:∀p∈rest,p∈cs i:=λp m=>pm.mem_iff.mpr<|É.mpr<|.inr m
 have γ:∀p∈cs i,∀q∈I,p.1≠q.1:=λp b q A=>by
  let#[j,b1,b2]:=a4 q A;show W.d i j (λz=>ni (by rw[z];show b1)) p b q b2
 have A2:aw F1 H1 (c++I):=α.left.app a2 λp b q A=>γ p (sub p b) q A
 have A3:dB Hb (c++I):=λp m=>(É.mp m).elim (λm=>W.n i p<|sub p m)<|a3 p
 have A4:∀p∈c++I,∃j,À j∈(À i::hs)/\p∈cs j:=λp m=>by
  rcases É.mp m with m |m
  .show⟨i,.head _,sub p m⟩
  .obtain⟨j,b1,b2⟩:=a4 p m;show#[j,.tail _ b1,b2]
 have hb:aF Hb (du ((c++I).map (·.1)) H1):=λx o e=>rO (w5 A3 e)<|W.g.h _ _ e
 have o1:fj K F1 (λ_=>Hb) (du ((c++I).map (·.1)) H1) F1 H1 (dq t r::ts) (w::vs) (c++I):=#[#[Bk W.g.s,Fz.refl F1],#[w,vs,c,I,rfl,rfl,θ,a1],A2,λp m=>zY m]
 show Aj (λh=>W.z<|hk h) hn (λ_=>hb) o1 (λx B H hq d y g=>hE x B H hq d y<|W.g.du A3 g) p1 λB H G' J' Y v' t' O g nw N r' ζ nc dj nl qt=>?_
 let#[W0,keep]:=W.past (hs:=À i::hs) A3 A4 g;have D:∀p∈rest,(du ((c++I).map (·.1)) H1) p.1=À p.2:=λp b=>by
  show rO (λm=>?_)<|(W.c i).h p<|C p b;let#[q,A,e]:=á.mp m;rcases É.mp A with A |A
  .show α.uF q A p b e
  .show γ p (C p b) q A e.symm
 have M:∀(O:Cs),dB (du ((c++I).map (·.1)) H1) O->∀p∈rest,∀q∈O,p.1≠q.1:=λO nc p b q A e=>by
  have:=D p b;rw[e,nc q A] at this;cases this
 have uF:∀(O:Cs),dB (du ((c++I).map (·.1)) H1) O->∀j,∀p∈(if À j∈(À i::hs) then [] else cs j),∀q∈O,p.1≠q.1:=λO nc j p b q A e=>by
  split at b
  .cases b
  .rename_i hj;have:=keep j hj p b;rw[e,nc q A] at this;cases this
 let#[u,x1,x2,x3,qt]:=xN qt;have β:0<n:=by rw[<- hn,n8];show Nat.succ_pos _
 have ru:R K B (λ_=>Hb) u w (Y 0):=by
  rcases N.e 0 u x1 with z |⟨u',g1,g2⟩
  .show au5 z x2
  .have:=N.p 0 β;rw[g1] at this;cases this;show g2.base u x3
 let#[d1,y1,y2]:=cl B g.le u _ ru;have fr:∀p∈rest,B p.1=Ä:=λp m=>by
  cases z:B p.1 with
  |none=>rfl
  |some o=>
   have:=g.n p.1 o z<|(W.c i).f p<|C p m;rw[D p m] at this;cases this
 have cr:aw B H rest:=#[λp m=>g.h _ _<|D p m,fr,α.right.nd]
 have cd:aw B H d1:=((N.c 0).app cr λp b q A e=>M _ (N.n 0) q A p b e.symm).perm y2.symm;have η:dB Hb d1:=λp m=>by
  rcases É.mp (y2.mem_iff.mp m) with m |m
  .show hb.free (N.n 0 p m)
  .show W.n i p (C p m)
 have W1:bg K k lo us Fb Hb B H G (gF hs<|J.set i<|ja t r u) (λm=>if m=i then d1 else (if À m∈(À i::hs) then [] else cs m)):=by
  have:=W0.fill (i:=i) hv y1 cd η λm hm p b q A=>by
   rcases É.mp (y2.mem_iff.mp A) with A |A
   .show uF _ (N.n 0) m p b q A
   .split at b
    .cases b
    .show W.d m i hm p b q (C q A)
  rw[show (gF (À i::hs) J).set i (ja t r u)=gF hs (J.set i (ja t r u)) by
   change ((gF hs J).set i .aq).set i _=_;rw[List.set_set];show wO hs J ni] at this
  show this
 have ι:n=↑hs+1:=by rw[<- hn,n8,Ý,a.len]
 show Al N hb hs 1 (J.set i<|ja t r u) _ U.2 W1 (λm j e=>?_) ⋯ (λj m _ hm p b q A=>?_) qt λJ2 ε W2 δ q2=>?_
 .obtain⟨x,h1,h2⟩:=a.at_ e;show#[x,h1,by rw[show 1+m=m+1 by omega];show h2]
 .by_cases ej:j=i
  .rw[au4 ej] at b;rcases É.mp (y2.mem_iff.mp b) with b |b
   .show N.d 0 m ⋯ p b q A
   .show M _ (N.n m) p b q A
  .rw[au3 ej] at b;show uF _ (N.n m) j p b q A
 .show q t' v' B H J2 ε O #[l.trans g.le,W2,r'.base t' nl,ζ,λp m=>hb.free<|nc p m,λj p b q A=>?_] q2;rcases δ j p b with z |⟨m,z⟩
  .by_cases ej:j=i
   .rw[au4 ej] at z;rcases É.mp (y2.mem_iff.mp z) with z |z
    .show dj 0 p z q A
    .show M _ nc p z q A
   .rw[au3 ej] at z;show uF _ nc j p z q A
  .show dj m p z q A
abbrev M9(K:ar)(q:Xv->Prop)(D:ai->Nat->Prop)(m:Str)(i:Nat)(r:aj)(hs:bE)(bf:Nat->iV)(d:cG):mP:=λj Q=>pV j[i]? λt=>qC K t r/\jc D m `cg λc=>d j λe=>bf c (cT (dq t r::e)) (λx a=>pV a[0]? λu=>cP u=Â/\k6 hs 1 a (j.set i<|ja t r u) λb=>Q x b) q
def Sw{bf:Nat->iV}{R':St->XK}{q':Xv->Prop}{r:aj}(hE:∀(us:az)(Fb Hb F H:Hp)(j:St)(G:af)(cs:Nat->Cs),bg K k lo us Fb Hb F H j G cs->∀x b u,q' x->∀d,XF K b d x.f->Gr Fb Hb b u->R' j x.c d u)(nd:((À i::hs).filterMap id).Nodup)(hk:z=Â->k.z=Â)(hn:∀C xs Q q,bf C xs Q q->↑xs=n)(h:ua K k lo hs ta ph):rB K k lo (tZ D m (λC=>iO K z n n<|bf C) R' `cl ta) (M9 K q' D m i r hs bf ph):=λus Fb Hb F H j G cs Q Q' W p q=>by
 ∎;let#[t,N,O,ok,p]:=xN p;let#[f,C,fs,g,U,hD,hl,p]:=Im p;∎;rcases W.e i _ N with z |⟨v,E,h2⟩
 .show au5 z O
 let#[w,c,rest,pm,l,cl,rd]:=place W.g.s (λ_=>W.g.h) E h2 (W.c i) r ok;have hc:aw F H c:=((W.c i).perm pm).left;have o:=l;rw[U] at o;let#[a,M,vs,ds,rfl,Y,g2,_]:=o.qw W.g.s (λ_=>W.g.h) hc;show rd _ #[a,C,M,vs,g,rfl,Y,hD,g2.none_of hl,h us Fb Hb F H j G cs _ _ W p λts α I J A B ha p1=>?_];show Sv B A E pm (l.mo A (λ_=>Le.refl _) _) (λb l'=>cl b<|A.trans l') ha nd hk (hn _ _ _ _ p1) (λy b u hq g=>hE us Fb Hb I J j G cs B y b u hq g) p1 q
end
section
abbrev tJ(K:ar)(D:ai->Nat->Prop)(m:Str)(i:Nat)(r:aj)(hs:bE)(bf:Nat->gK)(d:cG):mP:=λj Q=>pV j[i]? λt=>qC K t r/\jc D m `cg λc=>d j λe=>bf c (cT (dq t r::e))<|λx a=>pV a[0]? λu=>cP u=Â/\k6 hs 1 a (j.set i<|ja t r u) λb=>Q x b
def pU{D:ai->Nat->Prop}{bf:Nat->gK}(hp:PE X o `bi)(l:∀C g,D C g->gw X.prog X.w X.K X.mg X.base bJ kj m C ps (bU X.K z n n<|bf g))(q:QH X k lo (e::es) hs ph)(x:bD km X.A:=by assumption)(u:kj<=km:=by first |decide |omega)(v:z=Â->k.z=Â:=by first |show id |show λ_=>rfl)(hn:∀C xs Q,bf C xs Q->↑xs=n:=by show λ_ _ _ h=>h.1)(nd: ~~~(((À i::hs).filterMap id).Nodup))(a:do ew e es X.env)(hpl:do gf pos es X.env)(ht:do sF X o m (e::es) apos pos pl):QL X k lo (.Call `aS (e::es) [] pos) (tJ X.K D m i r hs bf ph):=by
 let#[y,b,j]:=q.h;show#[_,JD (R:=λ_=>E0) hp (λC g d=>(l C g d).mono u) x (xM uL) b a hpl ht,Sw (q':=λ_=>False) (bf:=λg xs Q _=>bf g xs Q) (λ_ _ _ _ _ _ _ _ _ _ _ _ h=>h.elim) nd v (λC xs Q _=>hn C xs Q) j]
end
end Pu
namespace L2
open PySem PySem.Spec PyProof.Rows
section
abbrev Ef:az->Hp->VK->Prop:=λa H Q=>∃n:Nat,a=[.int n]/\n<=1000/\∀p,H p=Ä->Q `ao (aQ H p<|.kP 0 n)
def Pr:bQ X (.type "range") Ef:=by
 intro aa s j H g us Q I r h;∎;let#[n,rfl,hn,q]:=h;let#[u,rfl,d]:=kg r;let#[t,rfl]:=(show ∃t,u=ϋ n t from d);∎;show call_range_1 #[.ref ⇑s,_,I.laid (a:=⇑s) (o:=.kP 0 n) (t':=s.toks+1+1) (λb o e=>Ã _ e) (Ñ _) #[_,_,_,Ó _ rfl],rfl,q _<|I.aP.fresh<|Ñ _]
abbrev Ew:az->Hp->VK->Prop:=λb H Q=>∃(a:ai)(n:Nat),b=[.ref a]/\H a=À (.kP 0 n)/\n<=1000/\∀p,H p=Ä->Q `ao (aQ H p<|.ah ((È n).map λi:Nat=>V.int (i:Int)))
def F8:∀(n:Nat)(m:Nat){bw:aS},bw.length=n->(∀(i:Nat)(v:au),bw[i]?=À v->∃t,v=ϋ ((m+i:Nat):Int) t)->aL ((List.range' m n).map λi:Nat=>V.int (i:Int)) bw
 |0,m,[],_,_=>.nil
 |n + 1,m,x::bw,hl,h=>by
  let#[t,e]:=h 0 x rfl;rw[List.range'_succ,è];show .cons #[t,e] (F8 n (m+1) (by simpa using hl) λi v a=>?_);let#[t,e]:=h (i+1) v a;show#[t,by rw[e];congr 2;omega]
def QY(x:X.calm=Â):bQ X (.type "list") Ew:=by
 intro aa s j H D us Q I r h;∎;let#[a,n,rfl,w,hn,q]:=h;let#[u,rfl,A]:=kg r;∎;cases A;let#[t,u,v,e]:=I.aP a _ w;show call_list_range (a:=0) (b:=n) (c:=1) (n:=n) (I.ok.hd x) e (small_one ⋯ ⋯ ⋯ ⋯) (by rw[ar9];split<;>omega) ⋯ λC B d l y m g=>?_
 show#[.ref ⇑s,_,I.laid (a:=⇑s) (o:=.ah ((È n).map λi:Nat=>V.int (i:Int))) (t':=B) y (Ñ _) #[by rw[Æ,Ü,ĳ];omega,d.toList,l,?_,by rw[ϡ];show m],rfl,q _<|I.aP.fresh<|Ñ _];have:=F8 n 0 (bw:=d.toList) (by rw[ώ];show g.1) λi v z=>by
  let#[t,e]:=g.2 i v (by rw[<- ϒ];show z);show#[t,by rw[e];congr 1;omega]
 rw[ad4];show this
end
end L2
namespace Pu
open PySem L2 Vc Sf
section
abbrev KQ(t:Tr)(Q:ay):Prop:=∃n:Nat,t=.int n/\n<=1000/\Q (.ah .o ((È n).map λi:Nat=>Tr.int (i:Int)))
def eP:∀(ns:List Nat),Rs K F B (ns.map λi:Nat=>Tr.int (i:Int)) (ns.map λi:Nat=>V.int (i:Int)) []
 |[]=>#[rfl,rfl]
 |n::ns=>#[.int n,_,[],[],rfl,rfl,#[rfl,rfl],eP ns]
def z'h(h:br K k te pe):br K k (nJ Ew<|j5 (nJ Ef<|j5 te j7) j7) (p1 KQ pe):=λF B H j i Q A c p q=>by
 show h F B H j i _ _ c p λx v d l C p1 b=>?_
 ∎;let#[n,rfl,hn,p1]:=p1;let#[rfl,_]:=b.r;∎;show#[n,rfl,hn,λp o=>#[p,n,rfl,cN,hn,λp2 a=>?_]];have e:Gr d l d (aQ l p<|.kP 0 n):=Gr.jr b.g.s o;let#[u,w,z]:=mw (K:=K) (B:=B) e.s (eP<|È n) .nil a;show q _ _ d _ _ p1 #[(b.g.trans' e).trans' u,w,z,λy m=>?_];cases m with
 |head=>show b.g.h.free<|e.h.free a
 |tail _ m=>cases m
def Mm{p p2 a:Pos}(m:X.calm=Â)(n:Gl X "list")(hm:X.mg "list"=Ä)(b:Gl X "range")(d:X.mg "range"=Ä)(h:QE X k e pe)(g:do ew e [] X.env)(i:do ā [ae1 (.Name "range" p2) [e] [] a] X.env=(Å,eval (ae1 (.Name "range" p2) [e] [] a) X.env)::ā [] X.env):
  QE X k (.Call (.Name "list" p) [.Call (.Name "range" p2) [e] [] a] [] pos) (p1 KQ pe):=by
 let#[o,j,l]:=h.h;show#[_,pN (QY m) n hm rfl (ll (pN Pr b d rfl (ll j mz g) (he:=g)) mz i) (he:=i),z'h l]
end
def gp{f:Str}{u:Tr}{r:bz}:Ľ f ((f,u)::r)=À u:=by rw[Ą,show (f == f)=Â from av0 f]
def cM{f g:Str}{u:Tr}{r:bz}{v:Option Tr}(h:Ľ f r=v)(e:(f == g)=Å:=by decide +kernel):Ľ f ((g,u)::r)=v:=by rw[Ą,e];show h
def BF{f:Str}:Ľ f ([]:bz)=Ä:=rfl
def i2{K:ar}{f:Str}{g:Fl}{c:ai}{fs:bz}{u:Tr}{Q:ay}(a:g8 K c/\bq K c f)(b:fs.lookup f=À u)(q:Q u):iX K f (.ins g c fs) Q:=#[a,by rw[b];show q]
def Bw{D:ai->Nat->Prop}{m:Str}{f:Fl}{c:ai}{fs:bz}{n:Nat}{Q:Nat->Prop}(hd:D c n)(a:fs.lookup m=Ä)(q:Q n):jc D m `aH Q:=#[n,hd,a,q]
def xv{K:ar}{j:af}{i:Nat}{c:ai}{fs:bz}{f:Str}{u:Tr}{Q:Tr->(Tr->af)->Prop}(h:j[i]?=À `aR)(b:g8 K c/\bq K c f)(a:fs.lookup f=À u)(q:Q u λv=>j.set i<|.ins .o c<|hU f v fs):i6 K j i [f] Q:=by
 unfold i6;rw[h];show#[#[trivial,b,by rw[a];rfl],?_];change Q ((fs.lookup f).getD .aq) _;rw[a];show q
def Gx{K:ar}{D:ai->Nat->Prop}{m:Str}{i:Nat}{f:Str}{hs:bE}{bf:Nat->gK}{d:cG}{j:af}{Q:Tr->aB}{c:ai}{fs:bz}{u:Tr}(h:j[i]?=À `aR)(l:g8 K c/\bq K c f)(a:fs.lookup f=À u)(q:jc D m u λg=>d j λts=>bf g (cT (u::ts))<|λx b=>pV b[0]? λv=>cP v=Â/\k6 hs 1 b (j.set i<|.ins .o c<|hU f v fs) λn=>Q x n):tJ K D m i [f] hs bf d j Q:=by
 unfold tJ;rw[h];have e:dq `aR [f]=u:=by change (fs.lookup f).getD .aq=u;rw[a];rfl
 show#[#[trivial,l,by rw[a];rfl],?_];rw[e];show q
section
abbrev yy(K:ar)(i:Nat)(r:aj)(f:Str)(a:a6):b8:=λD j=>a `af λt=>bX t=Â/\i6 K j i r λu s=>pH K f u λc fs=>D.nx<|s<|.ins .o c<|jb f (aE t) fs
def Sx(h:br K k te pe):dh K k lo (zc K `cl te f) (yy K i r f pe):=λus Fb A F H j G cs D D' W p L=>by
 show h F (Bq A H) H j _ _ _ W.e8 p λu v F1 m c1 q o=>?_
 ∎;let#[l,n,r2,l2]:=W.fZ o q.1;let#[t,N,O,Q,p]:=uw q.2;let#[C,fs,U,ok,hl,p]:=GZ p;let#[w,c,z,sub,hc,rd,cl]:=n.at N O r Q;∎;rw[U] at z;let#[a,b,vs,M,rfl,x,y]:=z;have Y:m a=À `ch:=hc.h (a,.ins C b vs) (by rw[x];show .head _);∎;let#[g,d,E,I,J]:=y.put (f:=f) r2;let#[e,B]:=cl l m n `bn a `ch (.ins C b<|gi f v vs) M g [] (.ins .o C<|jb f (aE u) fs) ((a,.ins C b<|gi f v vs)::d) x I .nil w6 wN (Ϫ _ J) #[a,b,_,d,rfl,rfl,E];∎;show rd _ #[a,C,b,vs,rfl,Y,ok.1,ok.2,Õ (by rw[y.length];show hl) ∎,L.nx l _ j _ e B p]
def xh(hp:PE X o `bi)(h:QE X k e pe)(hs:do Ĭ e (À<|.Attribute o f pos') pos.line X.env=pure Å):QS X k lo (.Assign [.Attribute o f pos'] e pos) (yy X.K i r f pe):=by
 let#[d,a,b]:=h.h;show#[_,Jo hp a hs,Sx b]
def Pc(K:ar)(i:Nat)(r:aj)(f:Str)(a:a6)(D:Pd)(j:af):yy K i r f a D j=(a `af λt=>bX t=Â/\i6 K j i r λu s=>pH K f u λc fs=>D.nx<|s<|.ins .o c<|jb f (aE t) fs):=rfl
end
end Pu
namespace L2
open PySem PySem.Spec PyProof.Rows
section
abbrev EI(K:ar):R2:=λx y H Q=>∃(l:ai)(a:az)(n:Int),x=.ref l/\y=.int n/\bH K H l a/\0<=n/\n<=1000/\↑a<=100/\∀p,H p=Ä->Q `ao (aQ H p<|.ah (Ò n.toNat a).flatten)
def Xr:cw X `cO (EI X.K):=by
 intro aa s j H x y v u Q I z A h;let#[l,J,n,rfl,rfl,o,D,E,w,q]:=h;cases z;∎;let#[t,rfl]:=A;let#[a,r,p1,z1]:=I.list o;∎;have m:=↑r;let#[#[C,g,G,d],b,i,k,hd]:=p1.isList;simp only at i hd;subst i hd;have e:a.toArray.size*n.toNat<=100*1000:=by rw[â,<- m];show Α w ⋯
 show wpAny_binaryOp_repeat_ref (T:="list") (U:="int") ∎ #[_,b,rfl] (λB=>PySem.typeIs_int B n t) noFill_list_mul F.fills_int_mul F.slot_int_rmul repeat_list F.slot_int_index.lookup
  (ap7 F.slot_int_rmul (PySem.typeIs_int s n t) F.entry_int_rmul (F.args_int_rmul_2 _ _) (lm_int_rmul_list_any n t l a.toArray k g d)
   #[b,rfl,#[_,b,rfl],ap7 F.slot_list_mul #[_,b,rfl] F.entry_list_mul (F.args_list_mul_2 _ _)
    (lm_list_mul_any l a.toArray k g d n t (by simp[Builtin.List.listFitsIndex];omega) ⋯ (by rw[â] at e;simp[Builtin.List.listTooLong,Ô];omega))
    #[b,?_]])
 rw[listMul_foldl_if];show#[.ref _,_,I.u1 (t':=s.toks) (r.rep n.toNat) ?_,rfl,q _ I.fresh];rw[List.length_flatten,ž,List.sum_replicate_nat,m,ao5];rw[â] at e;show Ï e ∎
end
end L2
namespace Pu
open PySem L2 Vc Sf
section
abbrev vZ(x y:Tr)(Q:ay):Prop:=match x,y with
 |.ah _ [a],.int n=>Cl a=Â /\ 0 <= n /\ n <= 1000 /\ Q (.ah .o<|Ò n.toNat a)
 |_,_=>False
mutual
theorem R.sA:∀(t:Tr){v:V}{c:Cs},Cl t=Â->R K F B t v c->c=[]
 |.int _,_,_,_,h=>h.2
 |.bl _,_,_,_,h=>h.2
 |.str _,_,_,_,h=>h.2
 |.aM,_,_,_,h=>h.2
 |.aq,_,_,_,h=>h.elim
 |.ty _,_,_,_,h=>h.2
 |.cl _,_,_,_,h=>h.2
 |.exc _ _,_,_,_,h=>h.1
 |.aJ xs,_,_,n,y=>by let#[a,vs,d,e,b]:=y;show Rs.sA xs n b
 |.ah .f xs,_,_,_,h=>h.1
 |.ah .o xs,_,_,n,_=>nomatch n
 |.ah (.l _) xs,_,_,n,_=>nomatch n
 |.aT .f xs,_,_,_,h=>h.1
 |.aT .o xs,_,_,n,_=>nomatch n
 |.aT (.l _) xs,_,_,n,_=>nomatch n
 |.ins .f _ xs,_,_,_,h=>h.1
 |.ins .o _ xs,_,_,n,_=>nomatch n
 |.ins (.l _) _ xs,_,_,n,_=>nomatch n
theorem Rs.sA:∀(t:List Tr){v:List V}{c:Cs},fU t=Â->Rs K F B t v c->c=[]
 |[],_,_,_,h=>h.2
 |x::xs,_,_,n,y=>by
  let#[v,r,c,d,g,a,b,e]:=y;have n:(Cl x&&fU xs)=Â:=n;rw[ê] at n;rw[a,R.sA x n.1 b,Rs.sA xs n.2 e];rfl
end
def Rs.rep(r:R K F B a v []):∀n:Nat,Rs K F B (Ò n a) (Ò n [v]).flatten []
 |0=>#[rfl,rfl]
 |n + 1=>#[v,(Ò n [v]).flatten,[],[],rfl,rfl,r,Rs.rep r n]
def U6:eh K k (EI K) vZ:=λF B H x y tx ty cx M Q J s b z G I C Y hd p q=>by
 unfold vZ at p;split at p
 .rename_i a n;∎;let#[E,D,p1,p2]:=p;let#[rfl,_]:=I;let#[l,vs,N,rfl,u,w,O,U]:=G.dw s b C;let#[v,r,c,d,rfl,rfl,e,#[rfl,rfl]]:=w;∎;rw[R.sA a E e] at e;show#[_,_,_,rfl,rfl,u,D,p1,(show 1<=100 by decide),λl A=>wW (cx:=cx) s (Rs.rep e n.toNat) .nil (λ_ m=>nomatch m) A p2 λt v i j o h g r c m=>q t v i j o h g r c λp z=>(m p z).imp id .inl]
 .show p.elim
def xw(d:QE X k a pa)(e:QE X k b pb):QE X k `dl (p2 vZ pa pb):=qh Xr U6 d e
def Sy(f:Fl)(a:Tr)(n:Int)(Q:ay):vZ (.ah f [a]) `aU Q=(Cl a=Â/\0<=n/\n<=1000/\Q (.ah .o<|Ò n.toNat a)):=rfl
end
section
variable{K:ar}{mg:bx}{h:aU}{x qual:Str}{st:ù}{ps:aj}{f c:ai}
set_option genInjectivity false in
set_option genSizeOf false in
structure c6(K:ar)(mg:bx)(x:Str)(st:ù)(ps:aj) where
 a:Ο
 d:Ĥ
 F:iQ K x x st a d
 b:Binds K d ps []
 m:mg x=À `ax
set_option genInjectivity false in
set_option genSizeOf false in
structure fK(K:ar)(c:ai)(x qual:Str)(st:ù)(ps:aj) where
 a:Ο
 d:Ĥ
 F:iQ K x qual st a d
 b:Binds K d ps []
 t:ES K c x a
set_option genInjectivity false in
set_option genSizeOf false in
structure ve(K:ar)(c:ai)(qual:Str)(st:ù)(ps:aj) where
 a:Ο
 d:Ĥ
 F:iQ K "__init__" qual st a d
 b:Binds K d ps []
 t:Mk K c a
nonrec abbrev kS(x qual:Str)(st:ù)(ps:aj):Prop:=∀(kV doc pm:au)(an:b9)(bK ct:au)(us:aS),us.length=↑ps->bindArgs (aj3 x qual (ri st) `bI `aY .none kV doc pm an bK ct) #[us,[]]=pure `bx
noncomputable def Nu(X:K.In h)(G:h.Ns ř mg)(e:W.nsIn K ř x=À (À<|.ref f))(F:ij K x x st f)(a:kS x x st ps):c6 K mg x st ps:=#[f,F.choose,F.choose_spec,F.choose_spec.binds a,W.mg_of X G e]
noncomputable def Nw(e:ą K `ba x=À (À<|.ref f))(F:ij K x qual st f)(i:aj4 K `au=Â)(a:kS x qual st ps):fK K c x qual st ps:=#[f,F.choose,F.choose_spec,F.choose_spec.binds a,#[e,i,F.kp]]
noncomputable def Nv(e:ą K `ba "__init__"=À (À<|.ref f))(F:ij K "__init__" qual st f)(i:aj4 K `au=Â)(m:W.makesIn K c=Â)(k:ύ K `ba=Â)(a:kS "__init__" qual st ps):ve K c qual st ps:=#[f,F.choose,F.choose_spec,F.choose_spec.binds a,#[m,e,i,k]]
nonrec abbrev CU(K:ar)(c:ai)(vs:az):Prop:=∃(o:Obj)(a:dk)(n:Nat),K.lookup c=À o/\o.cls=.type "tuple"/\o.data=.seq a n/\a.size<=Ô/\aL vs a.toList
def BP(e:ą K `ba x=À Ä):bq K c x:=e
end
end Pu
namespace L2
section
open PySem PySem.W PySem.Builtin PySem.Builtin.ObjectAttr
@[inline] def ie:aS:=[.type "ValueError",.type "Exception",.type "BaseException",.type "object"]
abbrev nX(K:ac4)(C F:ai):Bool:=(am2 K C).any λa=>a.mro == .ref C::.ref F::ie&&a.hasDict
section
variable{prog:é}{w:ü}{A:Ĉ}{E:au->ao->Prop}{s:ao}{K:ac4}{x C F:ai}{R:Result->ao->Prop}
def Ip{n:Obj}{od:Option Obj}{a:Str}{d:Tok}{v:au}(X:K.In s.heap)(I:InstAt s.heap x n C od)(hp:nX K C F=Â)(ht:ą K `ag a=À Ä)(h:Ø `ad A.in1 (storeInOwnDict `aV `ag (.str a d) a v Å)
   (λg s'=>match g with |.done f=>R (.ok f) s' |.again j=>j.quiet=Â/\ź `ad A j R s') (λe s'=>R `bl s') s):
  ź `ad A (.call (.builtin "object.__setattr__") #[[.ref x,.str a d,v],[]]) R s:=by
 have b:=PySem.F.store_object;let#[m,l,i]:=any_some hp;simp only[ê,beq_iff_eq] at i;have sub:Looks `ad s.heap (isInstance `aV<|.type "object") Â:=I.type.andThen (looks_mroIn X (by unfold mroIn;rw[l,Option.bind_some,i.1,au3<|by show à];show au9 À (by unfold ie;simp only[as2,List.contains_nil];rw[show (ĸ "object" == ĸ "object")=Â from by decide];simp)));show ų b.slot.plain b.entry<|@check_slot (Ù prog w) _ _ s "object.__setattr__" "object" "__setattr__" (.ref x) [.str a d,v] [] _ b.kind b.split sub (b.args (.ref x) (.str a d) v) ?_;have hm:Looks `ad s.heap (mroOf<|.ref C) m.mro:=(af3 X l).andThen .now;rw[osa_eq,refuse_eq];show Ê<|Ê<|I.type.here<|Ê<|hm.here ?_;rw[i.1,refuseLoop_ref,refuseLoop_ref,show refuseLoop `aV "__setattr__" ie=pure () from PySem.F.store_ValueError.passes _];show Û<|Ê<|I.type.here<|Ê<|(ac7 X ht).here<|Ê<|Û h
def U7{vs:dk}{a:Str}{v:au}{Q:Unit->ao->Prop}(X:K.In s.heap)(l:s.heap.get? x=À #[.ref C,Ä,.fields vs,([].toArray)])(hp:nX K C F=Â)(ht:ą K `ag a=À Ä)(hs:ą K `ag "__setattr__"=À (À<|.builtin "object.__setattr__"))(h:∀h' d,s.heap.get? d=Ä->h'.get? x=À #[.ref C,À d,.fields vs,([].toArray)]->(h'.Ns1 d λy=>if y=a then À v else Ä)->(∀b o,b≠x->s.heap.get? b=À o->h'.get? b=À o)->Q () { s with heap:=h',toks:=s.toks+2 }):
  Ø `ad A (setAttr `aV a v) Q E s:=by
 have I:InstAt s.heap x #[.ref C,Ä,.fields vs,([].toArray)] C Ä:=#[l,rfl,rfl,trivial]
 show set_plain X I hs (Ip (s:={ s with toks:=s.toks+1 }) X I hp ht ?_);let#[N,J,D]:=any_some hp;simp only[ê,beq_iff_eq] at D;have g:(s.heap.push { cls:=.type "dict",data:=.dict ([].toArray) }).get? x=À #[.ref C,Ä,.fields vs,([].toArray)]:=Ã _ l;have j:x≠⇑s:=ç<|Í l;show Ê (Û (Ê (Ê (aq0 l (Ê (ap1 (s:={ s with toks:=s.toks+1 }) (af3 X J) ?_))))));rw[D.2];show Ê<|wpAny_alloc' ?_;show Ê<|wpAny_update' g ?_;show Û ?_;have r:((s.heap.push { cls:=.type "dict",data:=.dict ([].toArray) }).update x λo=>{ cls:=o.cls,dict:=À ⇑s,data:=o.data,slots:=o.slots }).get? ⇑s=À { cls:=.type "dict",data:=.dict ([].toArray) }:=
  (ar6 _ _ _ _ j.symm).trans (au0 rfl rfl)
 have u:((s.heap.push { cls:=.type "dict",data:=.dict ([].toArray) }).update x λo=>{ cls:=o.cls,dict:=À ⇑s,data:=o.data,slots:=o.slots }).Ns ⇑s (λ_=>Ä):=
  #[_,([].toArray),_,r,rfl,λe M=>au5 M ∅,λ_=>rfl]
 change Ø _ _ (al8 ⇑s (.str a _) a v) _ _ _;unfold al8 newKeyGuard;show Ê<|Û<|Ê<|wpAny_nsSet1 (ao9 u) λh' i hs=>?_;let#[O,H,G,z,q,n]:=i.count<|Within.cons a v Within.nil;show Ê (al1 z (by rw[q];show ak9 (Ï n (by rw[Ý,ϕ,ĳ];omega))) ?_);show Û<|h h' _ (Ł<|Ñ _) ?_ i λb U m B=>?_
 .show (hs.2 x j).trans (ċ _ g rfl)
 .show (hs.2 b<|ç<|Í B).trans ((ar6 _ _ _ _ m).trans<|Ã _ B)
def U8{vs:dk}{a:Str}{v:au}{d:ai}{m:bx}{ns:aj}{Q:Unit->ao->Prop}(X:K.In s.heap)(l:s.heap.get? x=À #[.ref C,À d,.fields vs,([].toArray)])(hd:s.heap.Ns1 d m)(hp:nX K C F=Â)(ht:ą K `ag a=À Ä)(hs:ą K `ag "__setattr__"=À (À<|.builtin "object.__setattr__"))(u:Within m ns)(hz:↑ns<=1000)(h:∀h',(h'.Ns1 d λy=>if y=a then À v else m y)->ϲ d s.heap h'->Q () { s with heap:=h',toks:=s.toks+2 }):
  Ø `ad A (setAttr `aV a v) Q E s:=by
 let#[od,es,G,n,B,D]:=id hd;have I:InstAt s.heap x #[.ref C,À d,.fields vs,([].toArray)] C (À od):=#[l,rfl,rfl,n];show set_plain X I hs (Ip (s:={ s with toks:=s.toks+1 }) X I hp ht ?_);let#[z,r,j]:=any_some hp;simp only[ê,beq_iff_eq] at j;show Ê (Û (Ê (Ê (aq0 l (Ê (ap1 (s:={ s with toks:=s.toks+1 }) (af3 X r) ?_))))));rw[j.2];show Û ?_;change Ø _ _ (al8 d (.str a _) a v) _ _ _;unfold al8 newKeyGuard;show Ê (Û (Ê (wpAny_nsSet1 (s:={ s with toks:=s.toks+1 }) hd λh' b hs=>?_)));let#[H,q,o,i,g,e]:=b.count<|Within.cons a v u;show Ê (al1 i (by rw[g];show ak9 (Ï e (by rw[Ý,ĳ];omega))) ?_);show Û<|h h' b hs
end
def U9{K:ac4}{h:aU}{N:ai}{m:bx}{n:Str}{v:au}(X:K.In h)(G:h.Ns N m)(e:nsIn K N n=À (À v)):m n=À v:=by
 let#[o,es,g,b,hd,_,a]:=G;unfold nsIn at e;split at e
 .rename_i c d es' n' sl q;have:=X _ _ q;rw[b] at this;cases this;cases hd;split at e
  .rename_i en he;cases e;rw[<- a];unfold nsFind findBy;rw[<- aq5,he];rfl
  .split at e<;>cases e
 .cases e
inductive fY (K:ac4) (C fI:Ο):Prop
 |mk {o:Obj} {dd:Option Ο} {cd:ag8} {sl:Array (Option ϐ)} {bm:List ϐ} {k0 k1 k2 k3 k5:Option ϐ} (_:K.lookup C=À o) (_:o = ⟨.type "type",dd,.cls cd,sl⟩) (_:cd.mro=.ref C::bm) (_:sl.toList=[k0,k1,k2,k3,À (.builtin "ValueError.__new__"),k5]) (_:cd.hasDel=Å) (_:tailIn K ie bm=Â) (_:nsOkIn K cd.ns=Â) (_:nsIn K cd.ns "__init__" = À (À (.ref fI))):fY K C fI
def Hw{K:ac4}{h:aU}{C e:ai}(X:K.In h)(q:fY K C e):
  ∃bm N nm i bs hd sn sub ab col dd k0 k1 k2 k3 k5 mN,h.get? C=À (aa7 nm i C N bs bm hd sn sub ab col dd k0 k1 k2 k3 k5 "ValueError.__new__")/\h.Ns N mN/\mN "__init__"=À `bk/\OwnTail h ie bm:=by
 let#[n,rfl,hm,g,b,m,a,d]:=q;rename_i j r _ _ _ _ _ _;let#[nm,bs,o,ns,i,hd,sn,sub,ab,col,l]:=j;dsimp only at hm b a d;let#[u]:=r;simp only at g;subst hm b g;show#[_,_,_,_,_,_,_,_,_,_,_,_,_,_,_,_,_,X _ _ n,.of_isNs<|isNs_of_in X a,U9 X (.of_isNs<|isNs_of_in X a) d,tail_of_in X m]
section
variable{prog:é}{w:ü}{A:Ĉ}{E:au->ao->Prop}{h:aU}{g:Array ao8}{d:Drawn}{t:Nat}{os:OsState}
variable{nm q:Str}{C N:ai}{bs bm:aS}{hdct:Bool}{sn:aj}{sub:aS}{ab:Bool}{col:Option Bool}{dd:b9}{k0 k1 k2 k3 k5:eD}
def QZ(T:OwnTail h ie bm){mN:bx}{rest:aS}{v:ai}{D:Obj}{Q:Fin->ao->Prop}(u:h.get? C=À (aa7 nm q C N bs bm hdct sn sub ab col dd k0 k1 k2 k3 k5 "ValueError.__new__"))(hn:h.Ns N mN)(H:mN "__init__"=À (.ref v))(z:h.get? v=À D)(B:D.cls=.type "function")(i:↑rest<=1000)(I:∀h' e,Heap.MadeExcOf h h' e `ag rest->h.objs.size<=e->
   Ø `ad A (call (.ref v) (.ref e::rest)) (λr s'=>r=.none/\Q (.done<|.ret<|.ref e) s') E #[h',g,d,t,os]):
  Ø `ad A (aa4.«type.__call__» #[.ref C::rest,[]]) Q E #[h,g,d,t,os]:=by
 have F:=PySem.F.excBase_ValueError;have i:↑rest<=Ô:=by rw[ĳ];omega
 repeat (first |with_reducible show Ŧ u ?_ |with_reducible show wpAny_madeBy_exc u ?_ |wp_step)
 show codeAny_call_builtin_code (af7 _ F.quiet)<|wpAny_check_new_subT F T u ?_;show codeAny_exc_new_subT F T u ?_ i;change Ø _ _ _ _ _ _;have a:=Ã { cls:=.ref C,data:=.fields ([.ref h.objs.size,.none,.none,.none,.bool Å,.none].toArray) }
  (Ã { cls:=.type "tuple",data:=.seq rest.toArray } u)
 have j:=Ã { cls:=.ref C,data:=.fields ([.ref h.objs.size,.none,.none,.none,.bool Å,.none].toArray) }
  (Ã { cls:=.type "tuple",data:=.seq rest.toArray } z)
 have m:((h.push { cls:=.type "tuple",data:=.seq rest.toArray }).push { cls:=.ref C,data:=.fields ([.ref h.objs.size,.none,.none,.none,.bool Å,.none].toArray) }).Ns N mN:=
  let ⟨o,es,ep,e,r⟩:=hn;#[o,es,ep,Ã _<|Ã _ e,r]
 have l:((h.push { cls:=.type "tuple",data:=.seq rest.toArray }).push
   { cls:=.ref C,data:=.fields ([.ref h.objs.size,.none,.none,.none,.bool Å,.none].toArray) }).get? (h.objs.size+1)=À
   { cls:=.ref C,data:=.fields ([.ref h.objs.size,.none,.none,.none,.bool Å,.none].toArray) }:=by heap_get
 have y:(Ú C::bm).contains `ag=Â:=by simp
 have n:=T.keeps (h':=(h.push { cls:=.type "tuple",data:=.seq rest.toArray }).push { cls:=.ref C,data:=.fields ([.ref h.objs.size,.none,.none,.none,.bool Å,.none].toArray) })
  λb o e=>Ã _<|Ã _ e
 unfold isInstance
 repeat (first |with_reducible show Ŧ l ?_ |(with_reducible show wpAny_isSubtype_exc a ?_;rw[y]) |wp_step)
 change Ø _ _ (ap8 (.ref C) _) _ _ _;show wpAny_typeLookup_tail a m n F.mroIs F.init.lookup ?_;rw[H];show ϑ<|Ê ?_;unfold bindSpecial;show Ê<|wpAny_typeOf (T:="function") #[_,j,B] ?_;rw[au4 ∎];show Û<|Ê<|ă (I _ (h.objs.size+1) #[λb o G=>Ã _<|Ã _ G,Ł<|ai5 _,h.objs.size,l,Ł<|Ñ _,?_]<|ai5 _) (λr s' J=>?_) λ_ _ x=>x
 .show Ã _ (au0 rfl rfl)
 .obtain⟨rfl,hQ⟩:=J
  wp_walk
  show hQ
def SA(T:OwnTail h ie bm){mN:bx}{rest:aS}{i:ai}{m:Obj}{Q:au->ao->Prop}(b:h.get? C=À (aa7 nm q C N bs bm hdct sn sub ab col dd k0 k1 k2 k3 k5 "ValueError.__new__"))(hn:h.Ns N mN)(n:mN "__init__"=À (.ref i))(j:h.get? i=À m)(l:m.cls=.type "function")(a:↑rest<=1000)(u:∀h' e,Heap.MadeExcOf h h' e `ag rest->h.objs.size<=e->
   Ø `ad (A.under<|.builtin "type.__call__" #[.ref C::rest,[]]) (call (.ref i) (.ref e::rest)) (λr s'=>r=.none/\Q `bk s') E #[h',g,d,t,os]):
  Ø `ad A (call `ag rest) Q E #[h,g,d,t,os]:=by
 have v:=tc_lookup;have x:=tc_bind<|.ref C;have y:(#[h,g,d,t,os]:ao).TypeIs `ag "type":=#[_,b,rfl]
 show Τ<|codeAny_of_tree ?_;change Ø _ _ (callAny `ag _) _ _ _
 repeat (any_goals (first |assumption |with_reducible show Ŧ b ?_ |wp_step))
 show#[rfl,?_];show codeAny_call_builtin_at (af7 _<|by decide +kernel) entry_typeCall<|wpAny_check_type_call_sub b<|QZ T b hn n j l a λh' e hm o=>?_;show u h' e hm o
def SD(T:OwnTail h ie bm)(a:h.get? C=À (aa7 nm q C N bs bm hdct sn sub ab col dd k0 k1 k2 k3 k5 "ValueError.__new__")){e:ai}{od:b9}{m:ai}{u:au}{Q:au->ao->Prop}(he:h.get? e=À #[.ref C,od,.fields<|[.ref m,.none,.none,.none,.bool Å,.none].toArray,([].toArray)])(l:∀h' t',h.get? t'=Ä->h'.get? e=À #[.ref C,od,.fields<|[.ref t',.none,.none,.none,.bool Å,.none].toArray,([].toArray)]->(∀b o,b≠e->h.get? b=À o->h'.get? b=À o)->Q .none #[h',g,d,t,os]):
  Ø `ad A (call (.builtin "ValueError.__init__") [.ref e,u]) Q E #[h,g,d,t,os]:=by
 have F:=PySem.F.excBase_ValueError;show Τ<|ų F.init.plain F.initEntry<|wpAny_check_init_subU F T a he rfl ?_
 wp_walk
 show l _ h.objs.size (Ł<|Ñ _) ?_ λb o i j=>?_
 .rw[ċ _ (Ã _ he) rfl];rfl
 .rw[ö _ _<|ć i];show Ã _ j
end
end
end L2
namespace L2
open PySem PySem.Spec PyProof.Rows
section
variable{M:Model}{A:Ĉ}{E:au->ao->Prop}{env:Env}
variable{nm q:Str}{C N:ai}{bs bm:aS}{hdct:Bool}{sn:aj}{sub:aS}{ab:Bool}{col:Option Bool}{dd:b9}{k0 k1 k2 k3 k5:eD}{newId:String}
def Pt{s:ao}{x:Sem ϐ}{Q:Flow->ao->Prop}(b:bm.contains (.type "BaseException")=Â)(o:A.handled=Ä)(h:Ø M A x (λv a=>∃e od t,v=.ref e/\a.heap.get? C=À (aa7 nm q C N bs bm hdct sn sub ab col dd k0 k1 k2 k3 k5 newId)/\
   a.heap.get? e=À #[.ref C,od,.fields<|[.ref t,.none,.none,.none,.bool Å,.none].toArray,([].toArray)]/\E `bk a) E s):
  Ø M A (raiseStmt env (À x) Ä) Q E s:=by
 have j:(Ú C::bm).contains (.type "BaseException")=Â:=by rw[as2,b,Bool.or_true]
 unfold raiseStmt;show Ê<|ă h (λv a i=>?_) λ_ _ x=>x;let#[e,od,t,rfl,l,n,m]:=i;let#[r,g,d,u,os]:=a
 repeat (first |with_reducible show Ŧ n ?_ |with_reducible show Ŧ l ?_ |(with_reducible show wpAny_isSubtype_exc l ?_;rw[j]) |wp_step)
 show wpAny_raiseNew_none o m
end
abbrev XO(C e:ai)(od:b9):HO:=.ext λh=>∃t:Ο,h.get? e=À #[.ref C,od,.fields<|[.ref t,.none,.none,.none,.bool Å,.none].toArray,([].toArray)]
def BS{P:é}{w:ü}{H:Hp}{h:aU}{C e t:ai}{od:b9}(x:h.get? e=À #[.ref C,od,.fields<|[.ref t,.none,.none,.none,.bool Å,.none].toArray,([].toArray)]):bc P w H h e (XO C e od):=#[#[t,x],#[_,x],λ_ _ ⟨t,z⟩ k=>#[t,k _ z]]
def Lf{fs:List (Str×V)}{m:bx}(r:∀f,cv `aB<|m f):PySem.Within m (fs.map (·.1)):=λy a=>by
 have:=r y;cases z:fs.lookup y with
 |none=>rw[z] at this;cases q:m y with
  |none=>show au5 q a
  |some u=>rw[q] at this;show this.elim
 |some v=>
  clear this r a
  induction fs with
  |nil=>cases z
  |cons p d b=>
   rw[Ą] at z;by_cases e:y=p.1
   .show .head _ |> (e ▸ ·)
   .rw[show (y == p.1)=Å by simpa using e] at z;show .tail _<|b z
def KC{P:é}{w:ü}{H:Hp}{h:aU}{d:ai}{fs:List (Str×V)}{m:bx}(x:h.Ns1 d m)(y:∀f,cv `aB<|m f):bc P w H h d (XD d fs):=#[#[m,x,y],let ⟨o,_,_,e,_⟩:=x;#[o,e],λ_ _ ⟨m,z,y⟩ k=>#[m,z.at k,y]]
def Iq{fs:List (Str×V)}{m:bx}{f:Str}{v:V}{u:au}(r:∀f,cv `aB<|m f)(q:aH v u)(g:Str):cv (((f,v)::fs).lookup g) (if g=f then À u else m g):=by
 rw[Ą];by_cases e:g=f
 .rw[au4 e,e,av0];show q
 .rw[au3 e,show (g == f)=Å by simpa using e];show r g
def z'i{H:Hp}{a:ai}{o:HO}(h:H a=À o):aQ H a o=H:=by
 funext b;unfold aQ;split
 .subst_vars;show h.symm
 .rfl
structure rC(K:ar)(C F fI:ai):Prop where
 ex:fY K C fI
 ov:nX K C F=Â
 sa:ą K `ag "__setattr__"=À (À<|.builtin "object.__setattr__")
 kp:ύ K `ag=Â
 fn:aj4 K (.ref fI)=Â
 rd:W.readsIn K F (.type "type")=Â
 sp:ak1 K (.ref F) "__getattribute__"=À (À<|.builtin "type.__getattribute__")
 fc:W.findCls K (.ref F) (.type "type") "__init__"=À (.val<|.builtin "ValueError.__init__")
section
variable{X:Cx}
def Rj{M:Model}{A:Ĉ}{E:au->ao->Prop}{s:ao}{env:Env}{pos:Pos}{id:String}{e:đ}{rest:bS}{Q:au->ao->Prop}(h:Ø M A (spliced<|Ų pos<|ā (e::rest) env) (λvs b=>Ø M A (call `aO vs) Q E b) E s)(he:ew e rest env)(a:gf pos rest env):Ø M A (ap6 pos `aO [] (Ų pos<|ā (e::rest) env) []) Q E s:=by
 rw[he] at h ⊢;show PySem.Calls.callWith_builtin (by change (Å || (Ų pos (ā rest env)).any (·.1))=Å;rw[a];rfl)<|PySem.Calls.evalArgs_plain h
abbrev Kx(C:ai)(t:TA):TE:=λj H Q=>t j H λvs a=>∃e od u,vs=[.ref e,u]/\a e=À (XO C e od)/\Q .aM a
def Lg{C F fI:ai}{x:Str}{E m pos:Pos}{l i:đ}{t:TA}{pl:Sem Bool}(c:rC X.K C F fI)(hg:Gl X x)(hm:X.mg x=À (.ref F))(ha:PA X [l,i] t)(A: ~~~(dS x))(D:do ew l [i] X.env)(hpl:do gf pos [i] X.env)(ht:eval (.Call (.Attribute (.Name x E) "__init__" m) [l,i] [] pos) X.env=(do
   let ov <- eval (.Name x E) X.env
   ae3 m.atName
   let (f,first) <- holding [ov] (getMethod ov "__init__" pl)
   ap6 pos f first (Ų pos<|ā [l,i] X.env) (ϸ pos<|Ř [] X.env)):=by rfl):
  PE X (.Call (.Attribute (.Name x E) "__init__" m) [l,i] [] pos) (Kx C t):=by
 intro aa s j H Q I h;show ak6 (pl:=pl) (oo I hg hm ?_ A) ht;show W.method_cls I.dc c.sp<|W.cls_value I.dc c.rd c.fc rfl ?_;have O:=I.tok<|s.toks+1;show Rj (bh (ha pos aa _ j H _ O h) λus s1 G=>?_) D hpl;let#[vs,M,y,r,e,od,u,Y,B,q]:=G;subst Y;obtain⟨w,n,rfl,rx,r1⟩:∃w n,us=w::n/\aH `bk w/\aL [u] n:=by cases r with |cons a b=>show#[_,_,rfl,a,b]
 let#[u2,rfl,ru]:=kg r1;obtain rfl:w=Ú e:=rx;∎;let#[bm,N,nm,qn,bs,hd,sn,sub,ab,U,dd,k0,k1,k2,k3,k5,mN,hC,_,_,T]:=Hw y.dc c.ex;let#[#[t0,ho],_,_]:=y.aP e _ B;let#[hp,g,d,tk,os]:=s1;∎;show SD T hC ho λh' t' _ v hk=>?_
 have J:=y.write (x:=e) (e:=e) (o:=XO C e od) (h':=h') (t':=tk) (by rw[B];show ø) `al (λb u hb z=>hk b u hb z) #[_,v]<|BS v;rw[z'i B] at J;show#[.aM,M,J,rfl,q]
abbrev Cu(C:ai)(g h:TE)(f:Str):TS:=λD j H=>h j H λy b=>g j b λx a=>∃e,x=.ref e/\
 ((a e=À `dU/\∀d,a d=Ä->d≠e->D.nx j (aQ (aQ a d<|XD d [(f,y)]) e<|XO C e<|À d))\/
  ∃d fs,a e=À (XO C e<|À d)/\a d=À (XD d fs)/\↑fs<=900/\D.nx j (aQ a d<|XD d ((f,y)::fs)))
def KD{C F fI:ai}{o value:đ}{f:Str}{pos l:Pos}{ta tv:TE}(c:rC X.K C F fI)(nf:ą X.K `ag f=À Ä)(ha:PE X o ta)(hv:PE X value tv)(hs:Ĭ value (À<|.Attribute o f l) pos.line X.env=pure Å):PS X (.Assign [.Attribute o f l] value pos) (Cu C ta tv f):=by
 intro aa s j H D I h;show ak2 (bh (hv aa s j H _ I h) λu s1 Y=>?_) hs;let#[y,H1,I1,ry,q]:=Y;show bh (ha aa s1 j H1 _ I1 q) λov s2 α=>?_
 let#[x,r,a,rx,e,ex,N]:=α;subst ex;obtain rfl:ov=Ú e:=rx;rcases N with⟨B,N⟩ |⟨d,ns,B,hd,hz,N⟩
 .obtain⟨⟨t0,ho⟩,_,_⟩:=a.aP e _ B;show U7 a.dc ho c.ov nf c.sa λh' d du M Q O=>?_
  have U:d≠e:=λz=>by rw[z,ho] at du;cases du
  have E:r d=Ä:=by
   cases z:r d with
   |none=>rfl
   |some v=>let#[o',e']:=(a.aP d v z).has;rw[du] at e';cases e'
  have nd:∀b v,r b=À v->b≠d:=λb v z w=>by rw[w,E] at z;cases z
  have up:∀b v,r b=À v->b≠e->aQ (aQ r d<|XD d [(f,y)]) e (XO C e<|À d) b=À v:=λb v z n=>by rw[a9 n,a9<|nd b v z];show z
  have ne:∀b v,r b=À v->v≠XO C e Ä->b≠e:=λb v z n w=>by rw[w,B] at z;cases z;show n rfl
  have nb:∀b,r b=Ä->b≠e:=λb z w=>by rw[w,B] at z;cases z
  show#[j,_,a.un (t':=s2.toks+2) #[λb o z n _ _=>O b o (nb b n) z,λb o z n _ _=>#[o.slots,O b o (nb b n) z],λb o z n _=>?_,λb o z _=>?_,λb xs z=>up b _ z (ne b _ z λw=>by cases w),λb o u z=>up b _ z (ne b _ z λw=>by cases w),
   λb ps z=>#[([].toArray),by rw[Array.append_empty];show up b _ z<|ne b _ z λw=>by cases w]] λb v z=>?_,N d E U]
  .rw[a9<|nb b n,a9 (λw=>by rw[w,du] at z;cases z)];show n
  .by_cases i:b=e
   .show#[_,by rw[i];show M]
   .show#[o,O b o i z]
  .by_cases i:b=e
   .subst i;rw[cN] at z;cases z;show BS M
   .rw[a9 i] at z;by_cases G:b=d
    .subst G;rw[cN] at z;cases z;show KC Q λg=>Iq (fs:=[]) (m:=λ_=>Ä) (λ_=>ø) ry g
    .rw[a9 G] at z;show (a.aP b v z).eS (λc o A q=>O c o (λw=>?_) q) (λc q=>up c _ q<|ne c _ q λw=>by cases w) λc xs q=>up c _ q (ne c _ q λw=>by cases w)
     rcases A with A |A
     .show i (A.symm.trans w)
     .rw[w,B] at A;cases A
 .obtain⟨⟨t0,ho⟩,_,_⟩:=a.aP e _ B;let#[#[m,hm,hr],_,_]:=a.aP d _ hd;show U8 a.dc ho hm c.ov nf c.sa (Lf hr) (by rw[Æ];omega) λh' J sb=>?_
  have I3:=a.write (x:=d) (e:=d) (o:=XD d ((f,y)::ns)) (h':=h') (t':=s2.toks+2) (by rw[hd];show ø) `al (λb u i z=>(sb.2 b i).trans z) (let ⟨o,_,_,e,_⟩:=J;#[o,e])<|KC J λg=>Iq hr ry g;show#[j,_,I3,N]
abbrev kZ(K:ar)(H:Hp)(a:ai)(xs:az):Prop:=bH K H a xs\/dM K H a xs
def kZ.on{K:ar}{a:ai}{xs:az}{H b:Hp}(q:kZ K H a xs)(k:∀u,(∀d,u≠.ext d)->H a=À u->b a=À u):kZ K b a xs:=by
 rcases q with (r |r) |(r |r)
 .rcases r with r |⟨o,r⟩
  .show .inl (.inl (.inl (k _ (λ_ w=>by cases w) r)))
  .show .inl (.inl (.inr ⟨o,k _ (λ_ w=>by cases w) r⟩))
 .show .inl (.inr r)
 .rcases r with r |⟨o,r⟩
  .show .inr (.inl (.inl (k _ (λ_ w=>by cases w) r)))
  .show .inr (.inl (.inr ⟨o,k _ (λ_ w=>by cases w) r⟩))
 .show .inr (.inr r)
abbrev mJ(H:Hp)(xs ys:az)(l m d:ai):Hp:=aQ (aQ (aQ H l<|.ah xs) m<|.ah ys) d<|XD d [("weights",.ref m),("numbers",.ref l)]
abbrev ye(H:Hp)(xs ys:az)(l m d:ai):Prop:=H l=Ä/\aQ H l `bO m=Ä/\aQ (aQ H l<|.ah xs) m (.ah ys) d=Ä
def nj{H:Hp}{a b:ai}{o:HO}(h:aQ H a o b=Ä):b≠a/\H b=Ä:=by
 by_cases z:b=a
 .rw[z,cN] at h;cases h
 .rw[a9 z] at h;show#[z,h]
abbrev zH(K:ar)(C:ai):Sp:=λvs H Q _=>∃e a b h i,vs=[.ref e,.ref a,.ref b]/\H e=À `dU/\kZ K H a h/\kZ K H b i/\∀g l m d,g e=À (XO C e<|À d)->(∀x,x≠e->g x=mJ H h i l m d x)->ye H h i l m d->Q .aM g
def Xt{K:ar}{C e a b:ai}{xs ys:az}{D:Ends}{N:aj}{H:Hp}{z:V}(he:H e=À `dU)(A:kZ K H a xs)(B:kZ K H b ys)(q:∀i l m d,i e=À (XO C e<|À d)->(∀x,x≠e->i x=mJ H xs ys l m d x)->ye H xs ys l m d->D.nx (start N [.ref e,.ref a,.ref b]) i):
  wz (tM<|Kx C<|j5 (hJ 0)<|j5 (tC z) j7) (wz (Cu C (hJ 0) (nJ (λxs H Q=>∃p ys,xs=[.ref p]/\(bH K H p ys\/dM K H p ys)/\∀l,H l=Ä->Q `ef (aQ H l<|.ah ys))<|j5 (hJ 1) j7) "numbers")
   (Cu C (hJ 0) (nJ (λxs H Q=>∃p ys,xs=[.ref p]/\(bH K H p ys\/dM K H p ys)/\∀l,H l=Ä->Q `ef (aQ H l<|.ah ys))<|j5 (hJ 2) j7) "weights")) D (start N [.ref e,.ref a,.ref b]) H:=by
 show#[.ref e,rfl,e,Ä,z,rfl,he,#[.ref a,rfl,a,xs,rfl,A,λl h=>#[.ref e,rfl,e,rfl,.inl #[?_,λd hd g=>?_]]]]
 .rw[a9 λw=>by rw[<- w,he] at h;cases h];show he
 let#[dl,j]:=nj hd;show#[.ref b,rfl,b,ys,rfl,B.on λu n z=>?_,λm hm=>#[.ref e,rfl,e,rfl,.inr #[d,[("numbers",.ref l)],?_,?_,(show (1:Nat)<=900 by decide),q _ l m d ?_ (λx E=>?_) ?_]]]
 .have b1:b≠e:=λw=>by rw[w,he] at z;show n _ (Þ z).symm
  have r:b≠d:=λw=>by rw[w,j] at z;cases z
  have v:b≠l:=λw=>by rw[w,h] at z;cases z
  rw[a9 b1,a9 r,a9 v];show z
 all_goals
  let#[o,hm]:=nj hm;let#[md,hm]:=nj hm
 .rw[a9 o.symm,cN]
 .rw[a9 md.symm,a9 g,cN]
 .rw[a9 g.symm,a9 o.symm,cN]
 .unfold mJ;by_cases z:x=d
  .rw[z,cN,cN]
  .rw[a9 z,a9 z];by_cases y:x=m
   .rw[y,cN,cN]
   .rw[a9 y,a9 y,a9 E,a9 z]
 .show#[h,hm,by rw[a9 md.symm];show hd]
abbrev D2(K:ar)(C:ai)(E:XK)(i:TA):TS:=λ_ j H=>i j H λvs e=>∃a b g h,vs=[.ref a,.ref b]/\kZ K e a g/\kZ K e b h/\∀l m d,ye e g h l m d->E `ag (À d) (mJ e g h l m d)
def SE{E:XK}{x:Str}{np U pos:Pos}{B y:đ}{t:TA}{C F fI:ai}{fd:Ĥ}{ps:aj}{k:Nat}(hs:X.stack=X.env::X.outer)(hf:X.env.frame=À X.env.locals)(η:X.ex=[])(τ:qW X E)(γ:X.calm=Â)(hg:Gl X x)(hm:X.mg x=À `ag)(c:rC X.K C F fI)(G:aG X.prog X.w X.K X.mg X.base bJ k fI fd ps (zH X.K C))(hr:bD (k+1) X.A)(hb:Binds X.K fd ps [])(ha:PA X [B,y] t)(ν: ~~~(dS x))(σ:do ew B [y] X.env)(hpl:do gf U [y] X.env):
  PS X (.Raise (À<|.Call (.Name x np) [B,y] [] U) Ä pos) (D2 X.K C E t):=by
 intro aa s j H D I h;let#[bm,N,nm,qn,bs,hd,sn,sub,ab,col,dd,k0,k1,k2,k3,k5,mN,hC,hN,π,T]:=Hw I.ok.mod.nE c.ex;rw[arm_exec_Raise];show Ê<|Ť<|Pt (C:=C) (nm:=nm) (q:=qn) (N:=N) (bs:=bs) (bm:=bm) (hdct:=hd) (sn:=sn) (sub:=sub) (ab:=ab) (col:=col) (dd:=dd) (k0:=k0) (k1:=k1) (k2:=k2) (k3:=k3) (k5:=k5) (newId:="ValueError.__new__") (T.hasType PySem.F.excBase_ValueError.hasBase) (I.ok.hd γ)<|Ê<|ă (Ğ<|oo I hg hm ?_ ν) (λv φ κ=>Ê<|Ť<|Û κ) λ_ _ x=>x;show ac5 (h₀:=X.base) I.ok.mod.nE c.kp (bh (ha U aa s j H _ I h) λus s1 υ=>?_) σ hpl;let#[vs,M,Y,r,a,b,O,ys,ev,sa,sb,q1]:=υ;show#[Y.dc,?_];subst ev;have ι:↑us=2:=r.length.symm;let#[hp,g,dr,tk,os]:=s1;have ε:∃oI,hp.get? fI=À oI/\oI.cls=.type "function":=by
  let#[o,ho,z]:=al6.mp<|beq_iff_eq.mp c.fn;show#[o,Y.dc _ _ ho,z]
 let#[oI,ε,ξ]:=ε;show SA (T.keeps Y.bk) (Y.bk _ _ hC) (hN.keeps Y.bk) π ε ξ (by change ↑us<=1000;omega) λh' e i θ=>?_
 let#[t,ht,χ,ψ]:=i.there;have β:M e=Ä:=Y.aP.fresh θ;have J:ax X aa j (aQ M e<|XO C e Ä) #[h',g,dr,tk,os]:=Y.laid (t':=tk) i.keeps θ<|BS ht;have on:∀{a O},kZ X.K M a O->kZ X.K (aQ M e<|XO C e Ä) a O:=λ{a O} q=>q.on λu _ z=>by rw[a9 λw=>by rw[w,β] at z;cases z];show z
 have Gu:(Ú e::us++[]).length=↑ps:=by
  have z:=G.len [.ref e,.ref a,.ref b] (aQ M e<|XO C e Ä) (λ_ _=>True) (λ_ _ _=>False) #[e,a,b,O,ys,rfl,cN,on sa,on sb,λ_ _ _ _ _ _ _=>trivial];rw[<- z];simp[ι]
 show Τ (Ż (G.run _ X.stack _ (aQ M e<|XO C e Ä) #[.ref e::us,[]] (.ref e::us++[]) [.ref e,.ref a,.ref b] (λv H'=>v=.aM/\∃l m d,H' e=À (XO C e<|À d)/\(∀x,x≠e->H' x=mJ (aQ M e<|XO C e Ä) O ys l m d x)/\ye (aQ M e<|XO C e Ä) O ys l m d) (λ_ _ _=>False) (hr.make _ _ _) (J.nA.make C us []) (hb _ (.ref e::us) J.dc Gu) (by rw[Ă];show .cons rfl r) #[e,a,b,O,ys,rfl,cN,on sa,on sb,λH' l m d h1 h2 h3=>#[rfl,l,m,d,h1,h2,h3]]) λr s' hq=>?_);cases r with
 |error x=>show ë hq
 |ok fl=>
 cases fl with
 |next=>show ë hq
 |brk=>show ë hq
 |cont=>show ë hq
 |ret u=>
 let#[v,H',ρ,bare,un,aP,rv,rfl,l,m,d,δ,ag,hl,hm,hd]:=hq;obtain rfl:u=ŝ:=rv;let#[#[t1,ζ],_,_]:=aP e _ δ;have ne:∀b o,hp.get? b=À o->b≠e:=λb o z w=>by rw[w,i.new] at z;cases z
 have nt:∀b v,M b=À v->b≠e:=λb v z w=>by rw[w,β] at z;cases z
 ∎;let#[le,hl]:=nj hl;let#[ml,hm]:=nj hm;let#[me,hm]:=nj hm;let#[dm,hd]:=nj hd;let#[dl,hd]:=nj hd;let#[de,hd]:=nj hd;∎;have α:mJ M O ys l m d e=Ä:=by unfold mJ;rw[a9 de.symm,a9 me.symm,a9 le.symm];show β
 have ag:∀x,x≠e->H' x=mJ M O ys l m d x:=λx hx=>by
  rw[ag x hx];unfold mJ;have k:∀(P Q:Hp) a o,P x=Q x->aQ P a o x=aQ Q a o x:=λP Q a o z=>by
   by_cases w:x=a
   .rw[w,cN,cN]
   .rw[a9 w,a9 w];show z
  show k _ _ _ _<|k _ _ _ _<|k _ _ _ _<|a9 hx
 have I4:ax X aa j (mJ M O ys l m d) s':=Y.eJ (ch:=[]) (ρ.trans rfl) #[λb o z n f x=>un.keep b o `bJ (by rw [a9<|ne b o z];show n) f x,λb o z n f x=>un.slot b o `bJ (by rw [a9<|ne b o z];show n) f x,λb o z n x=>by rw [<- ag b (ne b o z)];show un.free b o `bJ (by rw [a9<|ne b o z];show n) x,
  λb o z x=>un.there b o `bJ x,λb _ z=>by rw[<- ag b `eC];show un.ed b _ (by rw[a9<|nt b _ z];show z),λb _ _ z=>by rw[<- ag b `eC];show un.bj b _ _ (by rw[a9<|nt b _ z];show z),λb ps z=>by rw[<- ag b `eC];show un.eT b ps (by rw[a9<|nt b _ z];show z)] (λb v z=>?_) bare (λb z=>au5 z<|by simp)
 .show#[rfl,e,À d,t1,rfl,I4.bk _ _ hC,ζ,?_];have up:∀b,hp.get? b=Ä->X.s₀.heap.get? b=Ä:=λb z=>by
   cases q:X.s₀.heap.get? b with
   |none=>rfl
   |some o=>let#[o',e']:=Y.base.there b o q (by rw[η];simp);rw[z] at e';cases e'
  rw[τ];have ο:∀env∈X.env::X.outer,∀a,env.frame=À a->a∈e::cQ X.stack:=λenv he a hf=>.tail _ (by rw[hs];show wV env he a hf)
  show FA (base:=ű s'.heap (e::cQ X.stack)) (a0:=.ref t1) (by rw[I4.ok.frames,hs]) (ab1 (hs ▸ I4.stack) ο) hf ζ (λb o q=>ac8 _ q)
   (Ϟ _<|.head _) rfl rfl rfl rfl λh2 hL μ=>?_
  let#[l1,_,l3,l4]:=hL;show Bj hs hf η I4 (bad:=[e]) (λb hb=>by
   rcases ä.mp hb with z |hb
   .show .inl (by rw[z];show .head _)
   .show .inr hb) (λb hb=>by
   have z:b=e:=by simpa using hb
   rw[z];show#[up _ i.new,α]) l1 l4 l3 μ (up _ i.new) α (q1 l m d #[hl,by rw[a9 ml];show hm,by rw[a9 dm,a9 dl];show hd])
 .have nb:b≠e:=λw=>by rw[w,α] at z;cases z
  show (aP b v<|(ag b nb).trans z).eS (λ_ _ _ q=>q) (λc q=>by rw[<- ag c λw=>by rw[w,δ] at q;cases q];show q) λc O q=>by rw[<- ag c λw=>by rw[w,δ] at q;cases q];show q
end
end L2
namespace Pu
open PySem L2 Vc Sf
section
variable{X:Cx}
abbrev yP(ts:af)(Q:af->aB):Prop:=match ts with |[.ah .f a,.ah .f b]=>Q a b |_=>False
abbrev yx(q:Xv->Prop)(C:ai)(d:cG):b8:=λ_ j=>nW d `af λe=>yP e λa b=>b5 a=Â/\b5 b=Â/\q #[.ref C,[("weights",.ah .f b),("numbers",.ah .f a)]]
def Rl{z:Bool}{q:Xv->Prop}{E:XK}{K:PySem.W.Frag}{B:TA}{A:cG}{lo:Nat}{C:ai}(h:fF K #[z,λ_=>E,q] B A):dh K #[z,λ_=>E,q] lo (D2 K C E B) (yx q C A):=λus Fb I F H j i cs D U W p L=>
 G5 h F (Bq I H) H j _ _ _ W.e8 p λts vs Y H1 c p2 o=>by
  unfold yP at p2;split at p2
  .obtain⟨n1,n2,p2⟩:=p2;let#[v1,r1,c1,d1,rfl,rfl,#[_,a,w,rfl,sa,O],v2,r2,c2,d2,rfl,rfl,#[_,b,y,rfl,sb,Q],rfl,rfl]:=o.r;show#[a,b,w,y,rfl,.inl<|(Le.of o.g.s).ah sa,.inl<|(Le.of o.g.s).ah sb,λl m d n=>?_];∎;let#[G1,v,J]:=rE (o:=.ah w) o.g.s (by intro _ _ z;cases z) n.1;let#[G2,e,M]:=rE (o:=.ah y) v.s (by intro _ _ z;cases z) n.2.1;let#[G,u,N]:=rE (o:=XD d [("weights",.ref m),("numbers",.ref l)]) e.s (by intro _ _ z;cases z) n.2.2;∎;have le:=v.le.trans<|e.le.trans u.le;show W.x #[.ref C,_] j G _ p2 (À d) (.inr #[d,_,rfl,.inl N,by change (b5 _&&(b5 _&&Â))=Â;rw[n1,n2];rfl,.ref m,_,[],[],rfl,rfl,#[rfl,m,y,rfl,u.le.ah<|.inl<|.inl M,Rs.mo le (λ_=>le) _<|Rs.base _ n2 Q],.ref l,_,[],[],rfl,rfl,#[rfl,l,w,rfl,(e.le.trans u.le).ah<|.inl<|.inl J,Rs.mo le (λ_=>le) _<|Rs.base _ n1 O],rfl,rfl])<|W.g.trans'<|o.g.trans'<|v.trans'<|e.trans' u
  .show p2.elim
def Va{z:Bool}{q:Xv->Prop}{E:XK}{x:Str}{I d pos:Pos}{b a:đ}{o:cG}{lo:Nat}{C F m:ai}{n:Ĥ}{ps:aj}{k:Nat}(hs:X.stack=X.env::X.outer)(B:X.env.frame=À X.env.locals)(i:X.ex=[])(l:qW X E)(e:X.calm=Â)(D:Gl X x)(hm:X.mg x=À `ag)(c:rC X.K C F m)(G:aG X.prog X.w X.K X.mg X.base bJ k m n ps (zH X.K C))(H:bD (k+1) X.A)(y:Binds X.K n ps [])(v:QA X #[z,λ_=>E,q] [b,a] o)(g: ~~~(dS x))(j:do ew b [a] X.env)(hpl:do gf d [a] X.env):
  QS X #[z,λ_=>E,q] lo (.Raise (À<|.Call (.Name x I) [b,a] [] d) Ä pos) (yx q C o):=by
 let#[J,r,u]:=v.h;show#[_,SE hs B i l e D hm c G H y r g j hpl,Rl u]
end
end Pu
namespace L2
open PySem PySem.Spec PyProof.Rows
section
variable{X:Cx}{tg a b c:đ}{ta:TA}{p pos:Pos}
abbrev EJ(ta:TA):TI:=λj H R=>ta j H λvs d=>∃i:Int,vs=[.int i,.int (-1),.int (-1)]/\-1<=i/\i<1000000/\R (vj i (-1) (i+1).toNat) d
def SF(A:Gl X "range")(hm:X.mg "range"=Ä)(y:PA X [a,b,c] ta)(hs:do ā [a,b,c] X.env=[(Å,eval a X.env),(Å,eval b X.env),(Å,eval c X.env)])(d:do qT b c X.env):
  PI X tg (.Call (.Name "range" p) [a,b,c] [] pos) (EJ ta):=by
 intro aa s j H R I h;show Call_ (kC I A hm boot_range (ó (bh (y pos aa s j H _ I h) λus l v=>?_) (by rw[hs,d]) (by rw[d];rfl)));∎;let#[vs,w,x,D,B]:=v;let#[i,e,E,G,q]:=B;∎;subst e;cases D with
 |cons r g=>
 cases g with
 |cons C g=>
 cases g with
 |cons n g=>
 cases g;∎;let#[t,rfl]:=r;let#[t',rfl]:=C;let#[u,rfl]:=n;∎;have sz:ţ i (-1) (-1)=i+1:=by
  unfold ţ;rw[au3 ∎,show (- -1:Int)=1 from rfl,Int.ediv_one];split<;>omega
 have sm:ai6 i (-1) (-1)=Â:=by
  unfold ai6;simp only[Builtin.Range.rangeFitsLong,ê,Bool.or_eq_true,decide_eq_true_eq,beq_iff_eq];show#[#[#[#[⋯,∎],∎],⋯],.inr ∎]
 show call_range_3 ∎ ?_ (.inl<|PyProof.noPylong_small ∎);show wpAny_pyIter_range (IsRange.new ..) sm ?_;have m:ax X aa j w { l with heap:=l.heap.push { cls:=.type "range",data:=.fields ([.int i t,.int (-1) t',.int (-1) u].toArray) },toks:=l.toks }:=x.kept λb o e=>Ã _ e
 show#[_,[_],_,_,w,rfl,m.kept (t':=l.toks) λb o e=>Ã _ e,Pq _ i (-1) (i+1).toNat,?_,λb z=>?_,q]
 .show al9 _ _ (i+((0:Nat):Int)*(-1)) ((((i+1).toNat:Nat):Int) - ((0:Nat):Int)) (-1);rw[show i+((0:Nat):Int)*(-1)=i from by simp,show (((i+1).toNat:Nat):Int) - ((0:Nat):Int)=ţ i (-1) (-1) from by rw[sz];omega];show Ó _ rfl
 .have e:=å.mp z;rw[e];show m.fJ (Ñ _)<|m.aP.fresh<|Ñ _
abbrev D3:az->Hp->VK->Prop:=λd H Q=>∃(a:Int)(n:Nat),d=[.int a,.int<|a+n]/\0<=a/\a<=1000/\n<=1000/\∀p,H p=Ä->Q `ao (aQ H p<|.kP a<|a+n)
def Pw:bQ X (.type "range") D3:=by
 intro aa s j H u us Q I r h;let#[a,n,rfl,_,_,hn,q]:=h;cases r with
 |cons d g=>
 ∎;let#[l,rfl,i]:=kg g;let#[t,rfl]:=(show ∃t,_=ϋ a t from d);let#[m,rfl]:=(show ∃t,l=ϋ (a+n) t from i);∎;show call_range_2 #[.ref ⇑s,_,I.laid (a:=⇑s) (o:=.kP a<|a+n) (t':=s.toks+1) (λb o e=>Ã _ e) (Ñ _) #[_,_,_,Ó _ rfl],rfl,q _<|I.aP.fresh<|Ñ _]
abbrev D4:az->Hp->VK->Prop:=λd H Q=>∃(p:ai)(a:Int)(n:Nat),d=[.ref p]/\H p=À (.kP a<|a+n)/\0<=a/\a<=1000/\n<=1000/\∀p,H p=Ä->Q `ao (aQ H p<|.ah ((È n).map λi:Nat=>V.int<|a+i))
def FT(a:Int):∀(n:Nat)(m:Nat){bw:aS},bw.length=n->(∀(i:Nat)(v:au),bw[i]?=À v->∃t,v=ϋ (a+(m+i:Nat)) t)->aL ((List.range' m n).map λi:Nat=>V.int<|a+i) bw
 |0,m,[],_,_=>.nil
 |n + 1,m,x::bw,hl,h=>by
  let#[t,e]:=h 0 x rfl;rw[List.range'_succ,è];show .cons #[t,e] (FT a n (m+1) (by simpa using hl) λi v d=>?_);let#[t,e]:=h (i+1) v d;show#[t,by rw[e];congr 2;omega]
def Px(x:X.calm=Â):bQ X (.type "list") D4:=by
 intro aa s j H G us Q I r h;∎;let#[p,a,n,rfl,w,D,E,hn,q]:=h;let#[u,rfl,A]:=kg r;∎;cases A;let#[t,u,v,e]:=I.aP p _ w;show call_list_range (a:=a) (b:=a+n) (c:=1) (n:=n) (I.ok.hd x) e (small_one ⋯ ⋯ ⋯ ⋯) (by rw[ar9];split<;>omega) ⋯ λC B d l y m g=>?_
 show#[.ref ⇑s,_,I.laid (a:=⇑s) (o:=.ah ((È n).map λi:Nat=>V.int<|a+i)) (t':=B) y (Ñ _) #[by rw[Æ,Ü,ĳ];omega,d.toList,l,?_,by rw[ϡ];show m],rfl,q _<|I.aP.fresh<|Ñ _];have:=FT a n 0 (bw:=d.toList) (by rw[ώ];show g.1) λi v z=>by
  let#[t,e]:=g.2 i v (by rw[<- ϒ];show z);show#[t,by rw[e];congr 1]
 rw[ad4];show this
end
end L2
namespace Pu
open PySem L2 Vc Sf
section
abbrev tL(ts:af)(Q:Int->Prop):Prop:=match ts with |[.int i,.int j,.int k]=>j=-1/\k=-1/\-1<=i/\i<1000000/\Q i |_=>False
abbrev zI(a:cG):iR:=λj Q=>a j λb=>tL b λi=>Q ((È (i+1).toNat).map λ(n:Nat)=>.int<|i+n*(-1)) Â
def Xu(h:fF K k ta pa):mn K k (EJ ta) (zI pa):=λF B H j i u n c p q=>by
 show h F B H j i _ _ c p λx vs a b w p1 o=>?_
 unfold tL at p1;split at p1
 .obtain⟨v,r,c2,d,rfl,rfl,⟨rfl,_⟩,v',r',c',d',rfl,rfl,⟨rfl,_⟩,v2,r2,c3,d3,rfl,rfl,⟨rfl,_⟩,rfl,rfl⟩:=o.r;let#[rfl,rfl,e,l,p1]:=p1;show#[_,rfl,e,l,q _ _ _ a b p1 o.g F7 λ_ m _=>F7]
 .show p1.elim
def Lh(e:Gl X "range")(hm:X.mg "range"=Ä)(h:QA X k [l,m,n] ps)(hs:do ā [l,m,n] X.env=[(Å,eval l X.env),(Å,eval m X.env),(Å,eval n X.env)])(a:do qT m n X.env):QI X k tg (.Call (.Name "range" p) [l,m,n] [] pos) (zI ps):=by
 let#[g,b,d]:=h.h;show#[_,SF e hm b hs a,Xu d]
abbrev wq(ts:af)(Q:ay):Prop:=match ts with |[.ah _ xs]=>fU xs=Â/\Q `dV |_=>False
def Ir:∀{xs:af}{vs:az}{x:Tr}{v:V},Rs K F B xs vs []->R K F B x v []->Rs K F B (xs++[x]) (vs++[v]) []
 |[],_,x,v,y,r=>by let#[h,_]:=y;rw[h];show#[v,[],[],[],rfl,rfl,r,rfl,rfl]
 |y::xs,_,x,v,y0,r'=>by
  ∎;let#[w,r,c,d,a,b,e,g]:=y0;let#[rfl,rfl]:=Đ.mp b.symm;∎;rw[a];show#[w,_,[],[],rfl,rfl,e,Ir g r']
def JF:∀{xs:af}{vs:az},Rs K F B xs vs []->Rs K F B xs.reverse vs.reverse []
 |[],_,y=>by let#[h,_]:=y;rw[h];show#[rfl,rfl]
 |y::xs,_,y0=>by
  ∎;let#[w,r,c,d,a,b,e,g]:=y0;let#[rfl,rfl]:=Đ.mp b.symm;∎;rw[a,Ι,Ι];show Ir (JF g) e
def Vb(h:fF K k ta pa):br K k (Kt K ta) (λi Q=>pa i λts=>wq ts Q):=λF B H j i Q C c p q=>by
 show h F B H j i _ _ c p λts vs n A D p1 o=>?_
 unfold wq at p1;split at p1
 .obtain⟨v,rfl,r1⟩:=o.r.one;have d:=c.gr o.g;let#[a,us,E,rfl,u,e,_]:=r1.dw d.s d.b o.c;obtain rfl:=Rs.sA _ p1.1 e;show#[a,us,rfl,u,λp l=>?_];let#[w,x,z]:=mw (K:=K) (B:=B) o.g.s (JF e) .nil l;show q _ _ n _ _ p1.2 #[o.g.trans' w,x,z,λy m=>?_];cases m with
  |head=>show o.g.h.free l
  |tail _ m=>cases m
 .show p1.elim
def z'j{p p2 a:Pos}(n:X.calm=Â)(o:Gl X "list")(hm:X.mg "list"=Ä)(b:Gl X "reversed")(d:X.mg "reversed"=Ä)(h:QA X k [l] ps)(i:do l5 l X.env)(m:do ā [ae1 (.Name "reversed" p2) [l] [] a] X.env=[(Å,eval (ae1 (.Name "reversed" p2) [l] [] a) X.env)]):
  QE X k (.Call (.Name "list" p) [.Call (.Name "reversed" p2) [l] [] a] [] pos) (λj Q=>ps j λts=>wq ts Q):=by
 let#[q,e,g]:=h.h;show#[_,QV n o hm b d e i m,Vb g]
abbrev EM(t u:Tr)(Q:ay):Prop:=∃(a:Int)(n:Nat),t=.int a/\u=.int (a+n)/\0<=a/\a<=1000/\n<=1000/\Q (.ah .o ((È n).map λi:Nat=>Tr.int<|a+i))
def Hx(a:Int):∀(ns:List Nat),Rs K F B (ns.map λi:Nat=>Tr.int<|a+i) (ns.map λi:Nat=>V.int<|a+i) []
 |[]=>#[rfl,rfl]
 |n::ns=>#[.int<|a + n,_,[],[],rfl,rfl,#[rfl,rfl],Hx a ns]
def Xw(h:fF K k ta pa):br K k (nJ D4<|j5 (nJ D3 ta) j7) (λi Q=>pa i λts=>nZ ts λt u=>EM t u Q):=λF B H j i Q G c p q=>by
 show h F B H j i _ _ c p λts vs e o I p1 d=>?_
 unfold nZ at p1;split at p1
 .obtain⟨v,w,d1,d2,rfl,r1,r2,_⟩:=d.r.two;∎;let#[a,n,rfl,rfl,x,z,hn,p1]:=p1;let#[rfl,_]:=r1;let#[rfl,_]:=r2;∎;show#[a,n,rfl,x,z,hn,λp A=>#[p,a,n,rfl,cN,x,z,hn,λp2 b=>?_]];have l:Gr e o e (aQ o p<|.kP a<|a+n):=Gr.jr d.g.s A;let#[C,D,E]:=mw (K:=K) (B:=B) l.s (Hx a<|È n) .nil b;show q _ _ e _ _ p1 #[(d.g.trans' l).trans' C,D,E,λy m=>?_];cases m with
  |head=>show d.g.h.free<|l.h.free b
  |tail _ m=>cases m
 .show p1.elim
def Li{p p2 a:Pos}(q:X.calm=Â)(r:Gl X "list")(hm:X.mg "list"=Ä)(b:Gl X "range")(d:X.mg "range"=Ä)(h:QA X k [l,m] ps)(n:do ew l [m] X.env)(o:do gf a [m] X.env)(e:do ā [ae1 (.Name "range" p2) [l,m] [] a] X.env=(Å,eval (ae1 (.Name "range" p2) [l,m] [] a) X.env)::ā [] X.env):
  QE X k (.Call (.Name "list" p) [.Call (.Name "range" p2) [l,m] [] a] [] pos) (λj Q=>ps j λts=>nZ ts λt u=>EM t u Q):=by
 let#[v,g,i]:=h.h;show#[_,pN (Px q) r hm rfl (ll (pN Pw b d rfl g (he:=n) (hpl:=o)) mz e) (he:=e),Xw i]
abbrev B7(i j:Nat):a6:=λG Q=>∃(m:bG)(ns:aC)(y:Int),G[i]?=À `eD/\m.map (·.1)=ns.map (λn=>(Sum.inl n:aW))/\G[j]?=À (.int y)/\↑ns<=1000/\Q (.ah .o<|(ns.filter λx=>!decide (x=y)).map Tr.int)
def Hy:∀(ns:aC),Rs K F B `bo `aI []
 |[]=>#[rfl,rfl]
 |n::ns=>#[.int n,_,[],[],rfl,rfl,#[rfl,rfl],Hy ns]
def z'k(hz:k.z=Â){i j:Nat}:br K k (tH X<|pG (uT wD X<|hJ i) (kA 0) (tN<|qJ u9 (hJ 0)<|hJ 1) (hJ 0) [Ä,À j]) (B7 i j):=λF B H G J Q Q' c p q=>by
 let#[m,ns,y,hi,hm,hj,hn,pQ]:=p;rcases c.e i _ hi with z |⟨v,h1,_,a,vs,rfl,h2,h3,h4⟩
 .cases z
 rcases c.e j _ hj with z |⟨v,g1,rfl,_⟩
 .cases z
 have hF:=rW (c.z hz) h2;have U:=c.s _ _ hF;have ek:∀{m:bG}{vs:bY},Rk K F B m vs []->vs.map (·.1)=m.map (·.1):=λ{m}=>by
  induction m with
  |nil=>intro vs h;rw[h.1];rfl
  |cons x m ih=>
   intro vs h;∎;let#[v,r,c,d,l,C,e3,e4]:=h;let#[rfl,rfl]:=Đ.mp C.symm;∎;rw[l,è,è,ih e4]
 have Y:vs.map (·.1)=ns.map (λn=>(Sum.inl n:aW)):=(ek h3).trans hm;have hl:↑vs=↑ns:=by have:=au9 ad2 Y;simpa using this
 show#[.ref a,h1,a,vs,rfl,U,λO N=>?_];show HG (Q:=λv=>mX X<|Q v) (λn g I=>I=aQ H a (.aE O<|.dK vs)/\g=((ns.take n).filter λx=>!decide (x=y)).map V.int) #[rfl,rfl] (λ_ _ _ _ h=>by rw[h.1,cN]) ?_ ?_
 .rintro n kk v g I e ⟨rfl,rfl⟩;have l:(ns.map<|λn=>(Sum.inl n:aW))[n]?=À kk:=by rw[<- Y,Î,e];rfl
  rw[Î] at l;cases C:ns[n]? with
  |none=>rw[C] at l;cases l
  |some x=>
   rw[C] at l;cases l;have tk:ns.take (n+1)=ns.take n++[x]:=by rw[Ė,C];rfl
   have α:(((ns.take n).filter λx=>!decide (x=y)).map V.int).length<=1000:=by
    rw[Æ];show Ï (ĺ _ _) (by rw[Ī];omega)
   show#[uH rfl λi v e=>?_,.int x,rfl,.int y,?_,rfl,_,rfl,?_]
   .match i,e with
    |1,e=>show e
   .show ([Ä,À j].map λo=>match o with |none=>Ä |some i=>(G[i]?).getD Ä)[1]?=_;change À ((G[j]?).getD Ä)=_;rw[g1];rfl
   .have di:decide (V.int x=V.int y)=decide (x=y):=by by_cases z:x=y<;>simp[z]
    rw[di];by_cases z:x=y
    .subst z;rw[au6 rfl];show#[rfl,?_];rw[tk,Ž];simp
    .rw[au7 z];show#[.int x,rfl,by rw[ĳ];omega,rfl,?_];rw[tk,Ž,ß];simp[z]
 .rintro g I ⟨rfl,rfl⟩;have D:ns.take ↑vs=ns:=by rw[hl,ğ]
  rw[D];show#[?_,λp E=>?_]
  .rw[Æ,ĳ];have:=ĺ (λx=>!decide (x=y)) ns;omega
  have A:p≠a:=λw=>by rw[w,cN] at E;cases E
  rw[a9 A] at E;show#[a,O,vs,by rw[a9<|ć A,cN],N,?_];have eq:aQ (aQ (aQ H a<|.aE O<|.dK vs) p<|.ah<|(ns.filter λx=>!decide (x=y)).map V.int) a `ay=aQ H p (.ah<|(ns.filter λx=>!decide (x=y)).map V.int):=by
   funext b;by_cases M:b=a
   .rw[M,cN,a9<|ć A,U]
   .rw[a9 M];by_cases u:b=p
    .rw[u,cN,cN]
    .rw[a9 u,a9 M,a9 u]
  rw[eq];let#[n1,n2,n3]:=mw (K:=K) (B:=B) c.s (Hy<|ns.filter λx=>!decide (x=y)) .nil E;show q _ _ F _ _ pQ #[n1,n2,n3,λy m=>?_];cases m with
  |head=>show E
  |tail _ m=>cases m
def Vd{e:đ}{i j:Nat}(hz:k.z=Â)(h:PE X e (tH X<|pG (uT wD X<|hJ i) (kA 0) (tN<|qJ u9 (hJ 0)<|hJ 1) (hJ 0) [Ä,À j])):QE X k e (B7 i j):=#[_,h,z'k hz]
end
end Pu
namespace L2
section
open PySem
open AutoSeq1 (wpAny_loadPart')
section
variable{prog:é}{w:ü}{A:Ĉ}{E:au->ao->Prop}{s:ao}
def Py(l:ai)(items:dk)(n:Nat)(b:b9)(o:Array (eD))(q:Tok):
  Meets (aa4.«enumerate.__new__» #[[.type "enumerate",.ref l],[("start",.int 1 q)]]) (λ_ R s=>s.heap.get? l=À { cls:=.type "list",dict:=b,data:=.seq items n,slots:=o }/\
   R (.ok<|.ret<|.ref (s.heap.push { cls:=.type "list_iterator",data:=.fields ([.ref l,.int 0 0].toArray) }).objs.size)
    { s with heap:=(s.heap.push { cls:=.type "list_iterator",data:=.fields ([.ref l,.int 0 0].toArray) }).push { cls:=.type "enumerate",data:=.fields ([.none,.bool Å,.ref ⇑s,ϧ 1,.none,.none].toArray) } }):=
 .of_wp λprog w A R s h=>by
  ∎;let#[m,g,d,i,os]:=s;let#[a,h]:=h;∎;have j:=sub_enumerate;have e:Heap.IsList (Shared.heap #[m,g,d,i,os]) l items:=#[_,a,rfl,n,rfl]
  wp_walk using wpAny_loadPart' a
  show wpAny_stack_any λst=>Û ?_
  split
  .rename_i c _ _ _ _ _;cases (c == ĸ "enumerate")
   .wp_walk using wpAny_loadPart' a,ŧ e
    show#[_,rfl,h]
   .wp_walk using wpAny_loadPart' a,ŧ e
    show#[_,rfl,h]
  .wp_walk using wpAny_loadPart' a,ŧ e
   show#[_,rfl,h]
def Rm{self x:au}{e:List (Str×au)}:Meets (aa4.«object.__init__» #[[self,x],e]) (λ_ R s=>s.TypeIs self "enumerate"/\R (.ok<|.ret .none) s):=by
 show Meets.of_wp λprog w A R s d=>?_
 let#[g,b]:=d;have h:=F.called_enumerate.init.lookup;have hm:=F.called_enumerate.made;have a:(À "enumerate.__new__" != À "object.__new__")=Â:=∎
 repeat (any_goals (first |assumption |wp_step))
 show#[_,rfl,b]
def Rn{l:ai}{items:dk}{g:Tok}{Q:au->ao->Prop}(G:s.heap.IsList l items)(h:∀h',IsEnum h' (⇑s+1) ⇑s 1 .none->h'.IsListIter ⇑s l 0->(∀b o,s.heap.get? b=À o->h'.get? b=À o)->Q (.ref<|⇑s+1) { s with heap:=h' }):
  Ø `ad A (call (.type "enumerate") [.ref l] [("start",.int 1 g)]) Q E s:=by
 let#[#[c,j,dt,N],J,m,n,hd]:=G
 replace m:c=.type "list":=m
 replace hd:dt=.seq items n:=hd
 subst m hd;have d:=F.called_enumerate;let#[c,tl,B]:=d.mro;have u:=d.made;have C:=d.sub;show Τ<|codeAny_of_tree ?_;change Ø _ _ (callAny (.type "enumerate") _) _ _ _;show Û #[af7 _ (by decide +kernel),codeAny_builtin F.entry_type_call ?_];rw[Around.under_plain (weight_type_call_type _ _ _)<|units_type_call_type _ _ _];have O:=d.notType;have U:=d.canCreate;have I:checkTypeCall "enumerate" #[[.ref l],[("start",.int 1 g)]]=pure ():=by kernel_rfl
 have q:ak7 "enumerate.__new__" #[[.type "enumerate",.ref l],[("start",.int 1 g)]]=pure ():=by kernel_rfl
 repeat (any_goals (first |assumption |wp_step))
 have D:(s.heap.push { cls:=.type "list_iterator",data:=.fields ([.ref l,.int 0 0].toArray) }).objs.size=⇑s+1:=ϔ ..;have z:IsEnum ((s.heap.push { cls:=.type "list_iterator",data:=.fields ([.ref l,.int 0 0].toArray) }).push { cls:=.type "enumerate",data:=.fields ([.none,.bool Å,.ref ⇑s,ϧ 1,.none,.none].toArray) }) (⇑s+1) ⇑s 1 .none:=by
  have:=Ó (s.heap.push { cls:=.type "list_iterator",data:=.fields ([.ref l,.int 0 0].toArray) }) (o:={ cls:=.type "enumerate",data:=.fields ([.none,.bool Å,.ref ⇑s,ϧ 1,.none,.none].toArray) }) rfl;rw[D] at this;show this
 have x:ź `ad A.in1 (.call (.builtin "enumerate.__new__") #[[.type "enumerate",.ref l],[("start",.int 1 g)]]) (λr a=>r=.ok (.ret<|.ref<|⇑s+1)/\a={ s with heap:=(s.heap.push { cls:=.type "list_iterator",data:=.fields ([.ref l,.int 0 0].toArray) }).push { cls:=.type "enumerate",data:=.fields ([.none,.bool Å,.ref ⇑s,ϧ 1,.none,.none].toArray) } }) s:=
  ų d.plain F.entry_enumerate_new (wpAny_of_eq q (Py l items n j N g prog w A.in1 (λr a=>r=.ok (.ret<|.ref<|⇑s+1)/\a={ s with heap:=(s.heap.push { cls:=.type "list_iterator",data:=.fields ([.ref l,.int 0 0].toArray) }).push { cls:=.type "enumerate",data:=.fields ([.none,.bool Å,.ref ⇑s,ϧ 1,.none,.none].toArray) } }) s #[J,by rw[D],rfl]))
 show Ż x λr a v=>?_
 let#[rfl,rfl]:=v;have y:Shared.TypeIs { s with heap:=(s.heap.push { cls:=.type "list_iterator",data:=.fields ([.ref l,.int 0 0].toArray) }).push { cls:=.type "enumerate",data:=.fields ([.none,.bool Å,.ref ⇑s,ϧ 1,.none,.none].toArray) } } (.ref<|⇑s+1) "enumerate":=#[_,z,rfl];have M:=d.init.lookup;have H:=d.init.bind<|.ref<|⇑s+1
 repeat (any_goals (first |assumption |wp_step))
 have aP:argsOk "object.__init__" #[[.ref<|⇑s+1,.ref l],[("start",.int 1 g)]]:=by kernel_rfl
 have i:ź `ad A.in1 (.call (.builtin "object.__init__") #[[.ref<|⇑s+1,.ref l],[("start",.int 1 g)]]) (λr a=>r=.ok (.ret .none)/\a={ s with heap:=(s.heap.push { cls:=.type "list_iterator",data:=.fields ([.ref l,.int 0 0].toArray) }).push { cls:=.type "enumerate",data:=.fields ([.none,.bool Å,.ref ⇑s,ϧ 1,.none,.none].toArray) } }) { s with heap:=(s.heap.push { cls:=.type "list_iterator",data:=.fields ([.ref l,.int 0 0].toArray) }).push { cls:=.type "enumerate",data:=.fields ([.none,.bool Å,.ref ⇑s,ϧ 1,.none,.none].toArray) } }:=
  ų d.init.plain F.entry_object_init (d.init.check _ _ _ _ _ _ _ _ y aP (Rm prog w A.in1 (λr a=>r=.ok (.ret .none)/\a={ s with heap:=(s.heap.push { cls:=.type "list_iterator",data:=.fields ([.ref l,.int 0 0].toArray) }).push { cls:=.type "enumerate",data:=.fields ([.none,.bool Å,.ref ⇑s,ϧ 1,.none,.none].toArray) } }) _ #[y,rfl,rfl]))
 show Ż i λr a v=>?_
 let#[rfl,rfl]:=v
 repeat (any_goals (first |assumption |wp_step))
 show h _ z #[_,Ã _<|Ó _ rfl,rfl,rfl] λb o e=>Ã _<|Ã _ e
end
end
end L2
namespace L2
open PySem PySem.Spec PyProof.Rows
def z'l{prog:é}{w:ü}{A:Ĉ}(d:A.handled=Ä)(it l:ai)(a:l≠it)(items:dk):
  Draws prog w A it [it,l] (items.size+1) (λi v=>items[i - 1]?=À v) (λj h=>∃i:Nat,j=i+1/\h.IsListIter it l i/\h.IsList l items) where
 live:=λ_ _ ⟨_,_,st⟩=>let ⟨o,ho,_⟩:=st.1;#[o,ho]
 frame:=λ_ _ _ ⟨i,e,st⟩ hk=>#[i,e,st.1.at λo e=>hk it ∅ o e,st.2.at λo e=>hk l ∅ o e]
 item:=λj s Q E n ⟨i,e,st⟩ hQ=>by
  subst e;show (Draws.list d it l a items).item i s Q E ⋯ st λx g m p b sb=>hQ x g m (by simpa using p) #[i+1,rfl,b] sb
 done:=λs Q E ⟨i,e,st⟩ hE=>by
  obtain rfl:i=items.size:=⋯
  show (Draws.list d it l a items).done s Q E st hE
abbrev wt(K:ar)(a:ai):It:=
 #[λi H=>∃b x,bH K H a b/\b[i]?=À x,λi H y d=>∃p x,y=.ref p/\H p=Ä/\(∀b,bH K H a b->b[i]?=À x)/\d=aQ H p (.aJ [.int ((i+1:Nat):Int),x]),λi H=>∃b,bH K H a b/\↑b<=i]
def Ro{P:é}{w:ü}{K:ar}{elts:bS}{x1:Nat}{pos:Pos}(a it n:ai)(B:n≠it):
  k7 P w K `aA `eq [n,it] n (λi h=>(∃g,IsEnum h n it ((i+1:Nat):Int) g)/\h.IsListIter it a i/\a≠it/\a≠n) where
 mem:=by simp
 obj:=λi h st b l=>by
  let#[#[g,e1],#[o,e2,c,d],_]:=st;rcases ä.mp l with z |l
  .rw[z];show#[_,e1,λv z=>by cases z]
  .have z:b=it:=by simpa using l
   rw[z];show#[o,e2,λv z=>by rw[d] at z;cases z]
 keep:=λi h h' st k=>by
  let#[#[g,e1],e2,e3]:=st;show#[#[g,k n ∅ _ e1],e2.at λo e=>k it ∅ o e,e3]
 item:=by
  intro X hP hw hK hc i aa s j H E I hf st hg;subst hP hw hK;∎;let#[#[g,G],y,β,α]:=st;let#[xs,x,r,hx]:=hg;let#[m,rv,p,hz]:=I.list r;let#[u,hu,ru]:=rv.get hx;∎;have fe:=hf n ∅;have fi:=hf it ∅;have θ:i<m.toArray.size:=by have:=(Á.mp hu).1;simpa using this
  show wpAny_pyNext_enum_itemD (z'l (A:=X.A.in1) `bq it a β m.toArray) G #[i,rfl,y,p.isList] ⋯ B (by simp[B,ć α]) λJ h' C pu U Y hT ι hk=>?_
  let#[i',ei,N,_]:=Y;obtain rfl:i'=i+1:=⋯
  have eu:J=u:=by
   have z:m.toArray[i]?=À J:=by simpa using pu
   rw[ao2,hu] at z;cases z;rfl
  subst eu;show#[.ref ⇑s,rfl,ap9 U λh2 M hs=>?_];have le:n<⇑s:=Í G;have li:it<⇑s:=let ⟨o,e,_⟩:=y;Í e;have ζ:H ⇑s=Ä:=I.aP.fresh<|Ñ _;have γ:n≠⇑s:=ç le;have δ:it≠⇑s:=ç li;have I1:=I.laid (a:=⇑s) (o:=.aJ [.int ((i+1:Nat):Int),x]) (h':=s.heap.push { cls:=.type "tuple",data:=.seq ([.int ((i+1:Nat):Int) C,J].toArray) }) (t':=C) (λb q r=>Ã _ r) (Ñ _)
   #[by change 2<=Ô;decide,[.int ((i+1:Nat):Int) C,J],.cons #[_,rfl]<|.cons ru .nil,#[_,Ó _ rfl,rfl,_,rfl]]
  have up:∀{b:ai},b≠⇑s->iz X aa H b->iz X aa (aQ H ⇑s (.aJ [.int ((i+1:Nat):Int),x])) b:=λl f=>#[by rw[a9 l];show f.1,f.2]
  have η:∀b q,b≠n->b≠it->(s.heap.push { cls:=.type "tuple",data:=.seq ([.int ((i+1:Nat):Int) C,J].toArray) }).get? b=À q->h2.get? b=À q:=λb q h1 h3 r=>by
   show hs.extBut b q h1 ?_;rcases ϩ r with⟨ε,eq⟩ |r
   .subst ε;subst eq;show hT
   .show hk b q h1 h3 r
  let#[oi,ei,ci,di]:=N;have O:h2.IsListIter it a (i+1):=#[oi,hs.extBut it oi (ć B) ei,ci,di];show#[.ref ⇑s,aQ H ⇑s (.aJ [.int ((i+1:Nat):Int),x]),?_,rfl,#[_,x,rfl,ζ,λys hy=>by rw[I.dI hy r];show hx,rfl],#[#[_,M],O,β,α],λb l=>?_]
  .show ax.jR (s:={ s with heap:=s.heap.push { cls:=.type "tuple",data:=.seq ([.int ((i+1:Nat):Int) C,J].toArray) },toks:=C }) (t':=C+1) I1 η (up γ fe) (up δ fi) #[_,M] #[oi,hs.extBut it oi (ć B) ei]
  .rcases ä.mp l with z |l
   .rw[z,a9 γ];show fe.1
   .have z:b=it:=by simpa using l
    rw[z,a9 δ];show fi.1
 done:=by
  intro X hP hw hK hc i aa s j H E I hf st hg;subst hP hw hK;∎;let#[#[g,G],y,_]:=st;let#[xs,r,hx]:=hg;let#[m,rv,p,hz]:=I.list r;∎;have hl:=↑rv;let#[f0,f1,f2,f3,f4,f5]:=hf it ∅;have D:Draws X.prog X.w X.A.in1 it [it,a] 0 (λ_ _=>True) (λ_ h=>h.IsListIter it a i/\h.IsList a m.toArray):=#[λ_ _ st=>let ⟨o,ho,_⟩:=st.1;#[o,ho],λ_ _ _ st hk=>#[st.1.at λo e=>hk it ∅ o e,st.2.at λo e=>hk a ∅ o e],λ_ _ _ _ h=>au5 h<|aj0 _,
   λs Q E st hE=>wpAny_nextOf_list_end `bq st.1 st.2 (by simp;omega) hE]
  show wpAny_pyNext_enum_endD D G #[y,p.isList] λh' eb=>#[rfl,I.turned (t':=s.toks) (λb o l e=>eb b o l e) f0 f1 f3 f4 f5]
 self:=λ_ _ _ _ _ st h=>let ⟨⟨_,G⟩,_⟩:=st;aa8 G h
def Ob{M:Model}{A:Ĉ}{E:au->ao->Prop}{s:ao}{pos:Pos}{T:String}{first:aS}{args:List (Bool×Sem ϐ)}{e:List (Option Str×Sem ϐ)}{Q:au->ao->Prop}(b:(args.any (·.1) || e.any (·.1.isNone))=Å)(h:Ø M A (evalArgs `bt Â args e) (λa d=>Ø M A (call `bt (first++a.pos) a.kw) Q E d) E s):
  Ø M A (ap6 pos `bt first args e) Q E s:=by
 unfold ap6;show Ê<|ϑ<|ă h (λa d g=>Ê<|Ť ?_) λ_ _ x=>x;simp only[b];show Ê<|Û ?_;show Ê<|ă g (λr i j=>Ê<|ϑ<|wpAny_point<|Û j) λ_ _ x=>x
section
variable{X:Cx}
abbrev Ex(K:ar)(d:TA):TI:=λj H R=>d j H λvs b=>∃a,vs=[.ref a]/\(∃e,bH K b a e)/\R `eq b
def Ve{l:đ}{J:TA}{elts:bS}{x1 y:Nat}{n p pos d kpos:Pos}(Y:Gl X "enumerate")(hm:X.mg "enumerate"=Ä)(U:PA X [l] J)(hs:do ew l [] X.env)(hpl:do ((Ų pos<|ā [l] X.env).any (·.1) || (ϸ pos (Ř [⟨À "start",.Constant (.int 1) y d,kpos⟩] X.env)).any (·.1.isNone))=Å):
  PI X `el (.Call (.Name "enumerate" p) [l] [#[À "start",.Constant `ep y d,kpos]] pos) (Ex X.K J):=by
 intro aa s G H R I h;show Ğ<|kC I Y hm (u:=.type "enumerate") rfl ?_;show Ob hpl<|evalArgs_kw2 rfl (bh (U pos aa s G H _ I h) λus s1 A=>?_) hs;let#[vs,C,N,r1,a,e,#[xs,hq],q]:=A;show bh (W8 (nm:=À "start") (kpos:=kpos) (Jh (X:=X) (i:=1) (j:=y) (pos:=d)) Yy pos aa s1 G C (λM v=>M=[.int 1]/\v=C) N #[rfl,rfl]) λks g B=>?_
 let#[M,v,m,r2,Q,O]:=B;subst e Q O;let#[k1,rfl,t,rfl]:=kg r2;cases r1 with
 |cons r rr=>
  cases rr;cases r;let#[α,rv,p,hz]:=m.list hq;show Rn p.isList λh' D x hk=>aa8 D ?_
  have ne:⇑g+1≠⇑g:=⋯
  have E:a<⇑g:=let ⟨o,ho,_⟩:=p.isList;Í ho;show#[⇑g+1,[⇑g+1,⇑g],_,_,v,rfl,m.kept (t':=g.toks) hk,Ro a _ _ ne,#[#[_,D],x,ç E,ç<|į E],λb w=>?_,q];rcases ä.mp w with z |w
  .rw[z];show m.fJ ⋯ (m.aP.fresh ⋯)
  .have z:b=⇑g:=by simpa using w
   rw[z];show m.fJ (Ñ _)<|m.aP.fresh<|Ñ _
end
end L2
namespace Pu
open PySem L2 Vc Sf
section
def Vf{K:ar}{a:ai}{xs:az}:gJ `eq ↑xs (λH=>bH K H a xs) (λi H y b=>∃x p,xs[i]?=À x/\y=.ref p/\H p=Ä/\b=aQ H p (.aJ [.int ((i+1:Nat):Int),x])):=
 #[λi H h q=>by let#[x,e]:=sd h;show#[xs,x,q,e],λH q=>#[xs,q,Ñ _],λi H y b h q z=>by let#[p,x,d,g,j,l]:=z;show#[x,p,j xs q,d,g,l]]
def Gy{a:ai}{f:Fl}{xs:af}(r:R K F B `az `ax []):Src K B F `eq (xs.mapIdx λi x=>.aJ [.int ((i+1:Nat):Int),x]):=by
 let#[E,vs,v,e,w]:=mC r;cases v;show#[_,_,(by rw[as6,<- ↑e];show Vf (K:=K) (a:=a) (xs:=vs)),w,λi t C D x m d l s b y=>?_];let#[z,p,h,rfl,A,rfl]:=y;rw[ad1] at d;cases q:xs[i]? with
 |none=>rw[q] at d;cases d
 |some u=>
  rw[q] at d;cases d;let#[G,n,o]:=e.cZ q;rw[n] at h;cases h;let#[j,g,r2,_]:=rY (xs:=[.int ((i+1:Nat):Int),u]) (cs:=[]) s #[.int ((i+1:Nat):Int),[z],[],[],rfl,rfl,#[rfl,rfl],z,[],[],[],rfl,rfl,o.mo l (λ_=>Le.refl _) u,rfl,rfl] .nil A;show#[j,g,r2]
abbrev zJ(a:cG):iR:=λj Q=>a j λb=>pM b λt=>iW `bj λd=>Q (d.mapIdx λi x=>.aJ [.int ((i+1:Nat):Int),x])<|bX<|aE t
def Rp(h:fF K k ta pa):mn K k (Ex K ta) (zJ pa):=λF B H j i C A c p q=>by
 show h F B H j i _ _ c p λE vs z m D p1 o=>?_
 ∎;let#[t,rfl,p1]:=HL p1;let#[v,rfl,x]:=o.r.one;let#[l,d,r2]:=Out.held #[o.g,x,o.c,o.n];let#[f,G,e,p1]:=uk p1;∎;rw[e] at r2 p1;let#[a,vs,rfl,_,w]:=mC r2;show#[a,rfl,#[vs,w l m `bn d.s λk=>(c.b k).trans d.h],q _ _ _ l m p1 d (Gy r2) λhn y u=>Gy<|R.low _ hn u.symm r2]
def Lj{b:Nat}{a kpos:Pos}(g:Gl X "enumerate")(hm:X.mg "enumerate"=Ä)(h:QA X k [l] ps)(hs:do ew l [] X.env)(hpl:do ((Ų pos<|ā [l] X.env).any (·.1) || (ϸ pos (Ř [⟨À "start",.Constant (.int 1) b a,kpos⟩] X.env)).any (·.1.isNone))=Å):QI X k `cb (.Call (.Name "enumerate" p) [l] [#[À "start",.Constant `ep b a,kpos]] pos) (zJ ps):=by
 let#[i,d,e]:=h.h;show#[_,Ve g hm d hs hpl,Rp e]
end
section
variable{K:ar}{qual:Str}{st:ù}{ps:aj}{f c E:ai}
set_option genInjectivity false in
set_option genSizeOf false in
structure yg(K:ar)(c E:ai)(qual:Str)(st:ù)(ps:aj) where
 a:Ο
 d:Ĥ
 F:iQ K "__init__" qual st a d
 b:Binds K d ps []
 t:rC K c E a
noncomputable def Nx(F:ij K "__init__" qual st f)(x1:fY K c f)(x2:nX K c E=Â)(x3:ą K `ba "__setattr__"=À (À<|.builtin "object.__setattr__"))(b:ύ K `ba=Â)(d:aj4 K `au=Â)(e:W.readsIn K E (.type "type")=Â)(g:ak1 K `er "__getattribute__"=À (À<|.builtin "type.__getattribute__"))(h:W.findCls K `er (.type "type") "__init__"=À (.val<|.builtin "ValueError.__init__"))(a:kS "__init__" qual st ps):yg K c E qual st ps:=
 #[f,F.choose,F.choose_spec,F.choose_spec.binds a,#[x1,x2,x3,b,d,e,g,h]]
end
def Ov(q:Xv->Prop)(C:ai)(d:cG)(e:Pd)(j:af):yx q C d e j=(nW d `af λts=>yP ts λa b=>b5 a=Â/\b5 b=Â/\q #[.ref C,[("weights",.ah .f b),("numbers",.ah .f a)]]):=rfl
def SG(a:cG)(j:af)(Q:af->Bool->Prop):zI a j Q=(a j λts=>tL ts λi=>Q ((È (i+1).toNat).map λ(n:Nat)=>.int<|i+n*(-1)) Â):=rfl
def VR(i j:Nat)(G:af)(Q:ay):B7 i j G Q=(∃(m:bG)(ns:aC)(y:Int),G[i]?=À `eD/\m.map (·.1)=ns.map (λn=>(Sum.inl n:aW))/\G[j]?=À (.int y)/\↑ns<=1000/\Q (.ah .o<|(ns.filter λx=>!decide (x=y)).map Tr.int)):=rfl
def SH(a:cG)(j:af)(Q:af->Bool->Prop):zJ a j Q=(a j λts=>pM ts λt=>iW `bj λxs=>Q (xs.mapIdx λi x=>.aJ [.int ((i+1:Nat):Int),x])<|bX<|aE t):=rfl
def SI(i:Int)(Q:Int->Prop):tL [.int i,.int (-1),.int (-1)] Q=(-1<=i/\i<1000000/\Q i):=by
 unfold tL;simp
def VS(f:Fl)(xs:af)(Q:ay):wq [.ah f xs] Q=(fU xs=Â/\Q `dV):=rfl
section
abbrev v7(x:Tr)(Q:Bool->Prop):Prop:=match x with |.aT .f m=>Q (!m.isEmpty) |_=>False
abbrev yQ(pe:a6):df:=λj Q=>pe j λx=>v7 x Q
def Vg(hz:k.z=Â)(h:br K k te pe):gj K k (λj H Q=>te j H λx d=>∃b,zb K x d b/\Q b d) (yQ pe):=λF B H j i Q C c p q=>by
 show h F B H j i _ _ c p λt v l n D p1 o=>?_
 unfold v7 at p1;split at p1
 .rename_i m;let#[_,a,vs,rfl,w,y,E]:=o.r;have A:=rW ((c.gr o.g).z hz) w;show#[!vs.isEmpty,.inr<|.inr #[vs,o.g.s _ _ A,rfl],q _ l n ?_ o.g];have e:=↑y;have u:vs.isEmpty=m.isEmpty:=by
   cases vs with
   |nil=>cases m with
    |nil=>rfl
    |cons _ _=>cases e
   |cons _ _=>cases m with
    |nil=>cases e
    |cons _ _=>rfl
  rw[u];show p1
 .show p1.elim
def z'm(hz:k.z=Â)(h:QE X k e pe)(he:∀whole,ak8 e X.env whole=(do let v <- whole;ae3 e.pos;holding [v] `cj):=by intro _;rfl):QT X k e (yQ pe):=by
 let#[d,a,b]:=h.h;show#[_,Tp a he,Vg hz b]
def P7(a:a6)(j:af)(Q:Bool->Prop):yQ a j Q=(a j λx=>v7 x Q):=rfl
def Tt(m:bG)(Q:Bool->Prop):v7 `eD Q=Q (!m.isEmpty):=rfl
def Iu(f:Fl)(m:bG)(Q:ay):yL [.aT f m] Q=Q (.ah .o<|m.map λp=>j4 p.1):=by cases f<;>rfl
end
section
variable{K:ar}{qual:Str}{st:ù}{ps:aj}{f c E:ai}
def Vh{a:ag8}(h:am2 K c=À a)(hm:a.mro=.ref c::.ref E::ie)(hd:a.hasDict=Â):nX K c E=Â:=by
 unfold nX;rw[h];change (a.mro == _&&a.hasDict)=Â;rw[hm,hd,av0];rfl
def Vi(h:ac6 K E ie "ValueError.__new__"=Â):W.tailIn K ie (.ref E::ie)=Â:=by
 unfold ac6 at h;split at h
 case h_2=>cases h
 case h_1 ddc cdc slc hlook=>
  split at h
  case h_2=>cases h
  case h_1 Cc bmc k0 k1 k2 k3 nn k5 hmro hslots=>
   simp only[ê,beq_iff_eq,as9] at h;let#[#[#[#[#[d,e],g],i],a],b]:=h;unfold W.tailIn;show aq6.mpr<|.inr ?_;dsimp only;rw[hlook];dsimp only;rw[a,b,av0,af1,af1];unfold W.tailIn ie;show aq6.mpr<|.inl<|av0 _
def Tu{o i:Obj}{dd:b9}{g:ag8}{j:Array (eD)}{k0 k1 k2 k3 k5:eD}{es:Array DictEntry}{n:Nat}(l:K.lookup c=À o)(v:o=#[.type "type",dd,.cls g,j])(hm:g.mro=.ref c::.ref E::ie)(hs:j.toList=[k0,k1,k2,k3,À<|.builtin "ValueError.__new__",k5])(h:g.hasDel=Å)(m:ac6 K E ie "ValueError.__new__"=Â)(q:K.lookup g.ns=À i)(hd:i.data=.dict es n)(u:(es.toList.all λe=>match e.key with |.str _ _=>Â |_=>Å)=Â)(r:W.nsIn K g.ns "__init__"=À (À<|.ref f)):fY K c f:=by
 have aP:W.nsOkIn K g.ns=Â:=by
  unfold W.nsOkIn;rw[q];let#[a,b,d,e]:=i;dsimp only at hd;subst hd;change (es.all _)=Â;rw[<- Array.all_toList];show u
 show#[l,v,hm,hs,h,Vi m,aP,r]
noncomputable def zV{d:ag8}{o g:Obj}{dd:b9}{a:ag8}{h:Array (eD)}{k0 k1 k2 k3 k5:eD}{es:Array DictEntry}{n:Nat}(e:ą K `ba "__init__"=À (À<|.ref f))(F:ij K "__init__" qual st f)(m:K.lookup c=À o)(x:o=#[.type "type",dd,.cls a,h])(hm:a.mro=.ref c::.ref E::ie)(hs:h.toList=[k0,k1,k2,k3,À<|.builtin "ValueError.__new__",k5])(b:a.hasDel=Å)(q:ac6 K E ie "ValueError.__new__"=Â)(r:K.lookup a.ns=À g)(hd:g.data=.dict es n)(w:(es.toList.all λe=>match e.key with |.str _ _=>Â |_=>Å)=Â)(v:W.nsIn K a.ns "__init__"=À (À<|.ref f))(i:am2 K c=À d)(j:d.mro=.ref c::.ref E::ie)(l:d.hasDict=Â)(x3:ą K `ba "__setattr__"=À (À<|.builtin "object.__setattr__"))(y:ύ K `ba=Â)(z:aj4 K `au=Â)(A:W.readsIn K E (.type "type")=Â)(B:ak1 K `er "__getattribute__"=À (À<|.builtin "type.__getattribute__"))(C:W.findCls K `er (.type "type") "__init__"=À (.val<|.builtin "ValueError.__init__"))(u:kS "__init__" qual st ps):yg K c E qual st ps:=
 Nx F (Tu m x hm hs b q r hd w v) (Vh i j l) x3 y z A B C u
end
end Pu
namespace L2
open PySem PySem.Spec PyProof.Rows
section
abbrev EK(K:ar):V->az->Hp->VK->Prop:=λx vs H Q=>∃(l:ai)(ns:aC)(c:Int),x=.ref l/\vs=[.int c]/\bH K H l `aI/\c∈ns/\↑ns<=1000/\Q (.int (ns.idxOf c:Nat)) H
def Xx:CO X "list.index" (EK X.K):=by
 intro aa s i H x vs v us Q I E D h;let#[l,ns,c,rfl,rfl,z,e,G,q]:=h;cases E;∎;let#[u,rfl,C]:=D.one;let#[t,rfl]:=C;let#[b,r,#[#[oc,od,B,osl],n,o,w,hd,g],J]:=I.list z;∎;cases w;cases hd;cases g;have d:=QK r;have a:=↑d;have m:ns.idxOf c<↑ns:=al5.mpr e;show ap7 F.slot_list_index #[_,o,rfl] F.entry_list_index (F.args_list_index_2 _ _) (SeqAt.list_indexAt l _ n Ä osl (.int c t) (isInt c) (ns.idxOf c) (by simpa [a] using m) ⋯ ?_ ?_) #[o,λy A=>(eq_isInt c t d y<|by simpa using A).at _ _,.int _,H,I.tok _,#[_,rfl],q]
 .show isInt c b[ns.idxOf c]=Â;rw[isInt_at c d _ ⋯ m];simpa using as4 m
 .intro j hjs hlt;change isInt c b[j]=Å;rw[isInt_at c d j (by simpa using hjs) ⋯];show ne_of_lt_idxOf hlt _
end
end L2
namespace Pu
open PySem L2 Vc Sf
section
abbrev yR(po a:a6):a6:=λj Q=>po j λx=>∃(f:Fl)(ns:aC),x=.ah f `bo/\a j λt=>∃c:Int,t=.int c/\c∈ns/\↑ns<=1000/\Q (.int (ns.idxOf c:Nat))
def Iv:∀{ns:aC}{vs:az}{c:Cs},Rs K F B `bo vs c->vs=ns.map V.int/\c=[]
 |[],_,_,h=>h
 |n::ns,_,_,y=>by
  ∎;let#[v,r,c,d,i,j,l,m]:=y;let#[a,b]:=Iv m;let#[e,g]:=(show v=V.int n/\c=[] from l);∎;show#[by rw[i,a,e];rfl,by rw[j,g,b];rfl]
def Vj(A:br K k to po)(he:br K k te pe):br K k (CC K "list" (EK K) to<|j5 te j7) (yR po pe):=λF B H j i Q D c p q=>by
 show A F B H j i _ _ c p λx v m o E p1 d=>?_
 ∎;let#[f,ns,rfl,p1]:=p1;let#[a,vs,I,rfl,l,z,J,M]:=d.r.dw d.g.s (λk=>(c.b k).trans d.g.h) d.c;let#[rfl,_]:=Iv z;∎;show#[.inl #[rfl,_,l],he m B o j i _ _ `ev p1 λy u n w G p2 e=>?_];∎;let#[b,rfl,p2,p3,C]:=p2;let#[rfl,_]:=e.r;∎;show#[a,ns,b,rfl,rfl,(l.imp (λh=>e.g.h.rd h) id),p2,p3,q _ _ n w [] C #[d.g.trans' e.g,#[rfl,rfl],.nil,.nil]]
def z'n(hp:QE X k o po)(h:QE X k e pe)(g:do ú o "index" X.env `as=eval o X.env)(i:do (((Ų bu<|ā [e] X.env).all (!·.1)&&(ϸ bu<|Ř [] X.env).all (·.1.isSome))&&decide (([e].length+([]:List aa6).length+if ([]:List aa6).isEmpty=Â then 0 else 1)<30))=Â)(j:do (apos.endLine == bu.line)=Â)(a:do ew e [] X.env):
  QE X k (.Call (.Attribute o "index" apos) [e] [] bu) (yR po pe):=by
 ∎;let#[q,l,m]:=hp.h;let#[n,b,d]:=h.h;∎;show#[_,Km PySem.F.plainAttrs_list PySem.F.slot_list_index PySem.F.type_list_index Xx l (ll b mz a) g i j a rfl,Vj m d]
def P8:yR po pe j Q=(po j λx=>∃(f:Fl)(ns:aC),x=.ah f `bo/\pe j λt=>∃c:Int,t=.int c/\c∈ns/\↑ns<=1000/\Q (.int (ns.idxOf c:Nat))):=rfl
end
end Pu
namespace Pu
def WQ(f:j->i)(a:j)(l:List j):Ŵ f (a::l)=f a::Ŵ f l:=rfl
def WR(f:j->i):Ŵ f []=[]:=rfl
open PySem L2 in
def z'o(CX:gs)(P:é)(w:ü)(K:ar)(mg:bx)(base:aU)(N:aj)(b:Str)(a:Ρ)(f:ai)(d:au)(A:Ĉ)(outer:cL)(s:ao)(H:Hp)(E:XK):(kB CX P w K mg base N b a f d A outer s H E).K=K:=rfl
end Pu
namespace Pu
open PySem L2 Vc Sf
section
variable{st:ù}{x:Str}{p pos:Pos}{e:đ}{es:bS}{pn:aj}{ps:cG}{j m n:Nat}{z:Bool}{C:ai}{qual:Str}
def qc{bf:gK}(r:c6 X.K X.mg x st pn)(G:aG X.prog X.w X.K X.mg X.base bJ j r.a r.d pn (bU X.K z 0 n bf))(o:QA X k (e::es) ps)(y:bD m X.A:=by assumption)(u:j<=m:=by first |decide |omega)(v:z=Â->k.z=Â:=by first |show id |show λ_=>rfl)(hn:∀xs Q,bf xs Q->↑xs=n:=by show λ_ _ h=>h.1)(q:do Gl X x)(g: ~~~(dS x))(he:do ew e es X.env)(hpl:do gf pos es X.env):
  QE X k (.Call `aN (e::es) [] pos) (y8 bf<|nW ps):=by
 let#[B,i,l]:=o.aE.h;show#[_,W7 (E:=E0) (G.mono u) y q r.m r.F.kp r.b .nil uL i g he hpl,TX v hn l]
def mI{bf:iV}(r:c6 X.K X.mg x st pn)(G:aG X.prog X.w X.K X.mg X.base `av j r.a r.d pn (iO X.K z 0 n bf))(I:QA X k (e::es) ps)(hx:∀i,jy `av X i (k.E i):=by first |assumption |show HU (L4 rfl rfl rfl rfl) |show HU ZL)(Y:bD m X.A:=by assumption)(N:j<=m:=by first |decide |omega)(O:z=Â->k.z=Â:=by first |show id |show λ_=>rfl)(hn:∀xs Q q,bf xs Q q->↑xs=n:=by show λ_ _ _ h=>h.1)(M:do Gl X x)(o: ~~~(dS x))(he:do ew e es X.env)(hpl:do gf pos es X.env):
  QE X k (.Call `aN (e::es) [] pos) (tI k.q bf<|nW ps):=by
 let#[ta,y,D]:=I.aE.h;show#[_,Ux (G.mono N) Y M r.m r.F.kp r.b .nil hx y o he hpl,GS (λF B H i J c l u v U g=>c.x l u v U g) O hn D]
def JH{bf:gK}(r:ve X.K C qual st pn)(G:aG X.prog X.w X.K X.mg X.base bJ j r.a r.d pn (bU X.K z 1 n bf))(hm:X.mg x=À `ag)(o:QA X k (e::es) ps)(y:bD (m+1) X.A:=by assumption)(u:j<=m:=by first |decide |omega)(v:z=Â->k.z=Â:=by first |show id |show λ_=>rfl)(hn:∀xs Q,bf xs Q->↑xs=n:=by show λ_ _ h=>h.1)(q:do Gl X x)(g: ~~~(dS x))(he:do ew e es X.env)(hpl:do gf pos es X.env):
  QE X k (.Call `aN (e::es) [] pos) (yN C bf ps):=by
 let#[B,i,l]:=o.h;show#[_,UG (R:=λ_=>E0) r.t (G.mono u) y q hm r.b .nil (xM uL) i g he hpl,Ue v hn l]
end
end Pu
namespace L2
open PySem PySem.Spec PyProof.Rows PySem.W Builtin Builtin.ObjectAttr Builtin.Getset_descriptor
section
variable{prog:é}{w:ü}{A:Ĉ}{E:au->ao->Prop}{K:ac4}{h:aU}{g:Array ao8}{d:Drawn}{t:Nat}{os:OsState}{x C a:ai}{f:Str}{v:au}{m:bx}{cd:ag8}
def Vk{B:Tok}{Q:Fin->ao->Prop}(I:gv x C h)(X:K.In h)(u:Cn (À a) x h)(hm:h.Ns1 a m)(y:ą K `ag f=À Ä)(z:m f=À v)(k1:am2 K C=À cd)(k2:cd.hasDict=Â)(D:Q (.done<|.ret v) #[h,g,d,t,os]):
  Ø `ad A (aa4.«object.__getattribute__» #[[.ref x,.str f B],[]]) Q E #[h,g,d,t,os]:=by
 have i:=I.ty (M:=Ù prog w);have j:=ac7 (M:=Ù prog w) X y;have l:=af3 (M:=Ù prog w) X k1;∎;let#[o,vs,b,n,_,q]:=u;let#[G,e,r]:=I;∎;rw[b] at e;cases e
 repeat (any_goals (first |assumption |with_reducible show Looks.at i ?_ |with_reducible show Looks.at j ?_ |wp_step))
 rw[n];dsimp only;unfold instanceDict
 repeat (any_goals (first |assumption |with_reducible show Ŧ b ?_ |wp_step))
 rw[r,q];dsimp only;show Ê<|l.here ?_;rw[k2];show Û<|wpAny_nsGet (m:=m) hm.ns ?_;rw[z]
 repeat (any_goals (first |assumption |wp_step))
def Ll{y:Tok}{Q:au->ao->Prop}{b j:Bool}(Z:i8 K C)(X:K.In h)(I:gv x C h)(o:Cn (À a) x h)(hm:h.Ns1 a m)(q:ą K `ag f=À Ä)(r:m f=À v)(k1:am2 K C=À cd)(k2:cd.hasDict=Â)(B:handedOut v=pure v)(D:Q v #[h,g,d,t,os]):
  Ø `ad A (getAttrBy `aV (.str f y) b j) Q E #[h,g,d,t,os]:=by
 have z:=F.excAttr_ValueError.ga.bind<|.ref x;have l:=I.ty (M:=Ù prog w);have n:=ac7 (M:=Ù prog w) X Z.fg;have L2:=ac7 (M:=Ù prog w) X Z.fn;have i:(Ϡ "BaseException.__getattribute__" == Ϡ "object.__getattribute__")=Å:=by decide +kernel
 have u:(onTheHeap (Ú C)&&Ϡ "BaseException.__getattribute__" == Ϡ "object.__getattribute__")=Å:=by rw[i];rfl
 repeat (any_goals (first |assumption |with_reducible show Looks.at l ?_ |with_reducible show Looks.at n ?_ |with_reducible show Looks.at L2 ?_ |wp_step))
 have e:¬ ((j && onTheHeap (Ϡ "BaseException.__getattribute__"))=Â):=by rw[show onTheHeap (Ϡ "BaseException.__getattribute__")=Å from rfl,aj8];decide
 rw[au3 e]
 repeat (any_goals (first |assumption |wp_step))
 show ų F.excAttr_ValueError.ga.plain F.entry_bexc_ga<|RY Z X I<|Vk I X o hm q r k1 k2 ?_
 repeat (any_goals (first |assumption |wp_step))
def z'p{Q:au->ao->Prop}{b:Bool}(Z:i8 K C)(X:K.In h)(I:gv x C h)(e:Cn (À a) x h)(hm:h.Ns1 a m)(i:ą K `ag f=À Ä)(l:m f=À v)(k1:am2 K C=À cd)(k2:cd.hasDict=Â)(j:handedOut v=pure v)(n:Q v #[h,g,d,t+1,os]):
  Ø `ad A (getAttr `aV f b) Q E #[h,g,d,t,os]:=by
 unfold getAttr
 repeat (any_goals (first |assumption |with_reducible apply Ll Z X I e hm i l k1 k2 j |wp_step))
end
section
variable{X:Cx}
structure wu(K:ac4)(B:ai)(f:Str):Prop where
 z:i8 K B
 n:ą K (.ref B) f=À Ä
 d:∃cd,am2 K B=À cd/\cd.hasDict=Â
abbrev Ky(K:ac4)(b:TE)(f:Str):TE:=λj H Q=>b j H λv a=>∃y B d fs w,v=.ref y/\Rd a y (mF y B<|À d)/\Rd a d (XD d fs)/\fs.lookup f=À w/\wu K B f/\Q w a
def Lm{e:đ}{C:TE}{f:Str}{pos:Pos}(he:PE X e C)(J:ú e f X.env `bg=eval e X.env):PE X `aK (Ky X.K C f):=by
 intro aa s j H Q I h;show Ie J<|bh (he aa s j H _ I h) λu l r=>?_;let#[v,D,a,Y,y,B,d,fs,w,rfl,b,i,G,c,q]:=r;obtain rfl:u=Ú y:=Y;have x:gv y B l.heap/\Cn (À d) y l.heap:=by
  rcases b with b |⟨o,b⟩
  .show (a.aP y _ b).1
  .show (a.aP y _ b).2.1
 obtain⟨m,hm,M⟩:∃m,l.heap.Ns1 d m/\∀f,cv `aB (m f):=by
  rcases i with i |⟨o,i⟩
  .show (a.aP d _ i).1
  .show (a.aP d _ i).2.1
 ∎;let#[u,N,A]:=cv.some_of (v:=w) (o:=m f) (by rw[<- G];show M f);let#[cd,O,U]:=c.d;∎;have E:=a.tok<|l.toks+1;let#[hp,g,dr,tk,os]:=l;show z'p c.z a.dc x.1 x.2 hm c.n N O U (handedOut_of<|GG A) #[w,D,E,A,q]
end
end L2
namespace Pu
open PySem L2 Vc Sf
section
variable{X:Cx}{k:Md}{K:ar}
def Rf.oR{F:Hp}{B:Bool->Hp}{f:Str}{t:Tr}:∀{fs:bz}{vs:List (Str×V)}{cs:Cs},Rf K F B fs vs cs->cs=[]->eO fs=Â->fs.lookup f=À t->∃v,vs.lookup f=À v/\cP t=Â/\R K F B t v []
 |[],_,_,_,_,_,h=>nomatch h
 |(g,x)::xs,_,_,y,e,n,h=>by
  let#[v,r,c,d,rfl,a,b,i]:=y;rw[e] at a;let#[rfl,rfl]:=Đ.mp a.symm;rw[eO,ê] at n;rw[Ą] at h ⊢;cases z:f == g with
  |true=>rw[z] at h;cases h;show#[v,rfl,n.1,b]
  |false=>rw[z] at h;show Rf.oR i rfl n.2 h
abbrev yb(K:ar)(f:Str)(t:Tr)(Q:ay):Prop:=match t with |.exc b P=>∃fs,P=Xp K fs/\wu K b f/\pV `aB Q |_=>False
abbrev Ca(K:ar)(f:Str)(po:a6):a6:=λj Q=>po j λt=>yb K f t Q
def z'q{y:TE}{u:a6}{f:Str}(h:br K k y u):br K k (Ky K y f) (Ca K f u):=λF B H j i Q C c p q=>h F B H j i _ _ c p λt v l A N p1 m=>by
 unfold yb at p1;split at p1
 .obtain⟨fs,rfl,cf,p1⟩:=p1;let#[_,a,o,rfl,D,E]:=m.r;have le:=Le.of m.g.s;cases z:fs.lookup f with
  |none=>rw[z] at p1;show p1.elim
  |some b=>
   rw[z] at p1;have G:b≠.aq:=λw=>by rw[w] at p1;show p1
   have p1:C b:=by cases b<;>first |show p1 |show au5 rfl G
   rcases E l (Le.refl l) with x |⟨d,vs,rfl,I,J,M⟩
   .rw[x] at z;cases z
   .obtain⟨v',e,n,r⟩:=M.oR rfl J z;show#[a,_,d,vs,v',rfl,le.exc D,le _ _ (by intro _ _ z;cases z) I,e,cf,q b v' l A [] p1 #[m.g,R.base b n r,.nil,.nil]]
 .show p1.elim
def K6{e:đ}{a:a6}{f:Str}{pos:Pos}(K:ar)(h:QE X k e a)(g:do X.K=K)(i:do ú e f X.env `bg=eval e X.env):QE X k `aK (Ca K f a):=by
 subst g;let#[j,b,d]:=h.h;show#[_,Lm b i,z'q d]
def yd{c E b:ai}{f:Str}(z:i8 K c)(n:ą K `ba f=À Ä)(t:rC K c E b):wu K c f:=#[z,n,by
 have h:=t.ov;unfold nX at h;cases e:am2 K c with
 |none=>rw[e] at h;cases h
 |some a=>rw[e] at h;show#[a,rfl,(Bool.and_eq_true_iff.mp h).2]]
end
def WS(K:ar)(f:Str)(po:a6)(j:af)(Q:ay):Ca K f po j Q=(po j λt=>yb K f t Q):=rfl
def z's(K:ar)(f:Str)(b:ai)(P:Hp->b9->Prop)(Q:ay):yb K f (.exc b P) Q=(∃fs,P=Xp K fs/\wu K b f/\pV `aB Q):=rfl
section
abbrev u5(w:Wm)(a:a6):iR:=λj Q=>a j λt=>mU t λm=>Q (m.map<|wit w) Â
abbrev sI(K:ar)(h:Bool->Hp)(j e:Hp)(I:Nat->aB)(i:Nat)(d:az)(g:Hp):Prop:=∃b us a,Gr j e b g/\Rs K b h us d a/\aw b g a/\dB e a/\I i us
def Iw{K:ar}{k:Md}{js:List Nat}{tg:TG}{pg:eW}{ti:TT}{pt:df}{te:TE}{pe:a6}{ix:bE}(hg:n4 K js tg pg)(ht:gj K k.cR ti pt)(he:br K k.cR te pe)(hj:∀j∈js,ix[j]?=À Ä){N D:Hp}{l:Bool->Hp}{G:St}{J:af}(c2:gu K k.cR N l D G J){I:Nat->aB}{i:Nat}{o:az}{us:af}{a:Cs}{O H3:Hp}(U:Gr N D O H3)(r2:Rs K O l us o a)(A:aw O H3 a)(n2:dB D a){C E:Hp}{x:V}{t:Tr}(g3:Gr O H3 C E)(r3:R K C l t x [])(p:pg t (l9 ix J) λB=>pt B λb=>if b=Â then pe B λx=>↑us<1000000/\I (i+1) (us++[x]) else I (i+1) us):
  tg x `dq E λw H5=>Wk `dq w/\ti w H5 λb H6=>if b=Â then te w H6 λv H7=>↑o<Ô/\sI K l N D I (i+1) (o++[v]) H7 else sI K l N D I (i+1) o H6:=by
 have H:=(c2.gr U).gr g3;have α:(eA ix G).length=(l9 ix J).length:=by unfold eA l9;rw[Æ,Æ]
 show hg C l E _ _ x t _ _ H.s H.e.pick α r3 p λw B e2 l2 β n3 p2=>#[uH β.symm λj v Q=>?_,?_]
 .by_cases hjs:j∈js
  .have z:=hj j hjs;unfold eA at Q;rw[Î,z] at Q;cases Q
  .rw[n3 j hjs];show Q
 .have c3':gu K k.cR C l E w B:=#[H.s,H.b,H.z,e2,λ_ _ _ h=>h.elim]
  show ht C l E w B _ _ c3' p2 λb F5 H5 Y g4=>?_
  have d:=g3.trans' g4;cases b with
  |false=>
   rw[au3 ∎] at Y ⊢;show#[F5,us,a,U.trans' d,r2.mo d.le (λk=>Le.refl<|l k) us,A.gr d,n2,Y]
  |true=>
   rw[au4 rfl] at Y ⊢;show he F5 l H5 w B _ _ (c3'.gr g4) Y λu v F6 H6 c5 p5 M=>?_
   have y:=d.trans' M.g;show#[Õ (by rw[r2.length];show p5.1) ∎,F6,us++[u],a++c5,U.trans' y,(r2.mo y.le (λk=>Le.refl<|l k) us).snoc M.r,(A.gr y).app M.c λp mp q mq e=>?_,λp m=>?_,p5.2]
   .have:=(A.gr d).h p mp;rw[e,M.n q mq] at this;cases this
   .rcases É.mp m with m |m
    .show n2 p m
    .show (U.h.trans d.h).free (M.n p m)
def JW{d:Hp}{a:ai}{o z:HO}(h:d a=À o):aQ d a z=fz d a z:=by
 funext b;by_cases e:b=a
 .rw[e,cN,gz,au3 (by rw[h];intro z;cases z)]
 .rw[a9 e,eX e]
def Hz{K:ar}{k:Md}{l g:Hp}{B:Bool->Hp}{j:St}{i:af}{a:ai}{vs:bY}(d:gu K k l B g j i)(n:l a=À `ay)(ob:Obj):
  gu K k.walk.cR (fz l a<|.aE ob<|.dK vs) (λb=>fz (B b) a<|.aE ob<|.dK vs) (fz g a<|.aE ob<|.dK vs) j i/\∀b,B b a=Ä\/B b a=À `ay:=by
 have o:=d.s _ _ n;have m:∀b,B b a=Ä\/B b a=À `ay:=λb=>by
  cases q:B b a with
  |none=>show .inl rfl
  |some u=>have:=d.b b _ _ q;rw[o] at this;show .inr this.symm
 have sm:∀{G:Hp},aF G g->aF (fz G a<|.aE ob<|.dK vs) (fz g a<|.aE ob<|.dK vs):=λ{G} s x u h=>by
  by_cases e:x=a
  .subst e;have:=ui h;rw[gz,au3 (by rw[o];intro z;cases z)];show this.2
  .rw[eX e] at h ⊢;show s _ _ h
 show#[#[sm d.s,λb=>sm<|d.b b,λh=>(by cases h),d.e.mo (mB<|.inr n)<|λb=>mB<|m b,λ_ _ _ h=>h.elim],m]
def JX{K:ar}{k:Md}{F H g r:Hp}{B:Bool->Hp}{j:St}{i:af}{a:ai}{vs:bY}{X:Cx}{Q:VK}{Y:ay}{I:Nat->aB}{n:Nat}{ob:Obj}(hz:k.z=Â)(C:gu K k g B r j i)(g1:Gr F H g r)(G:g a=À `ay)(N:∀o u,X.H₀ a≠À `aG)(hB:∀b,B b a=Ä\/B b a=À `ay)(D:∀d,I n d->↑d<=1000000/\Y (.ah .o d))(q:∀(t:Tr)(v:V)(F2 U:Hp)(cs:Cs),Y t->Out K F B H F2 U t v cs->Q v U)(d:az)(A:Hp)(h:sI K (λb=>fz (B b) a<|.aE ob<|.dK vs) (fz g a<|.aE ob<|.dK vs) (fz r a<|.aE ob<|.dK vs) I n d A):↑d<=Ô/\∀p,A p=Ä->mX X (Q<|.ref p) (aQ A p<|.ah d):=by
 ∎;let#[F5,us,l,E,r5,M,n5,ii]:=h;let#[hl,hq]:=D us ii;∎;show#[by rw[r5.length];show mZ hl,λp hp=>?_];let#[m1,m2,y]:=mw E.s r5 M hp;have hH:=C.s _ _ G;have fa:fz g a (.aE ob<|.dK vs) a=À (.aE ob<|.dK vs):=by rw[gz,au3 (by rw[G];intro z;cases z)]
 have w:=E.trans' m1;have O:=w.f _ _ fa;have J:=w.s _ _ O;have cm:Fz (λb=>b=a\/S0 b) F5:=λb o u e=>by
  let#[o',u',e']:=w.z b o u e;by_cases eb:b=a
  .show .inl eb
  .rw[eX eb] at e';show .inr<|C.z hz b o' u' e'
 let#[F6,g6,z6,l6,e6,d6,b6,u6]:=KU (Fb:=g) (Hb:=r) (F:=g) (H:=r) (S:=S0) (Gr0.refl C.s) hH (.inr G) w.toGr0 (O.trans fa.symm) cm;have ne:∀x∈(p,HO.ah d)::l,x.1≠a:=λx m e=>by have:=y.f x m;rw[e,O] at this;cases this
 show#[a,ob,vs,J,N,q _ _ F6 _ _ hq #[g1.trans' #[g6,λb o u e=>(z6 b o u e).elim],m2.mo l6 (λb=>HM<|hB b) _,#[λx m=>?_,λx m=>?_,y.nd],λx m=>?_]]
 .rw[u6 _<|ne x m];show y.h x m
 .rw[b6 _<|ne x m];show y.f x m
 .have z:fz r a (.aE ob<|.dK vs) x.1=Ä:=by
   cases m with
   |head=>show E.h.free hp
   |tail _ m=>show n5 x m
  rw[eX<|ne x m] at z;show g1.h.free z
def Tv{K:ar}{k:Md}{X:Cx}{O:TE}{M:a6}{E:List Nat}{Y:TG}{pg:eW}{ti:TT}{pt:df}{U:TE}{N:a6}{ix:bE}(hz:k.z=Â)(h:br K k O M)(hg:n4 K E Y pg)(ht:gj K k.walk.cR ti pt)(he:br K k.walk.cR U N)(hj:∀j∈E,ix[j]?=À Ä):br K k (tH X<|pG (uT zf X O) Y ti U ix) (nV (u5 .vs M) pg pt N ix):=λF B H G J Q Q' c p q=>by
 show h F B H G J _ _ c p λt v F1 H1 cs p1 x=>?_
 unfold mU at p1;split at p1
 .obtain⟨_,a,vs,rfl,h2,h3,h4⟩:=x.r;have m:=c.gr x.g;have l:=rW (m.z hz) h2;have D:=m.s _ _ l;let#[I,i0,step,o]:=p1;show#[a,vs,rfl,D,λob w=>?_];let#[A,C]:=Hz m l ob;rw[JW D];show HG (Q:=λv=>mX X<|Q v) (sI K (λb=>fz (B b) a<|.aE ob<|.dK vs) (fz F1 a<|.aE ob<|.dK vs) (fz H1 a<|.aE ob<|.dK vs) I) #[_,[],[],Gr.aO A.s,#[rfl,rfl],.nil,.nil,i0] ?_ ?_ ?_
  .rintro i d H3 _ ⟨F3,us,cells,g3,_⟩;show g3.s _ _ (g3.f _ _ (by rw[gz,au3 (by rw[l];intro z;cases z)]))
  .rintro i y u d H3 e ⟨F3,us,cells,g3,r3,hc3,n3,ii⟩;have rk:=h3.mo (Le.trans (mB<|.inr l)<|Le.of g3.f) (λb=>mB (ob:=ob)<|C b) _;let#[tu,e1,e2]:=rk.cZ e;show Iw hg ht he hj A g3 r3 hc3 n3 (Gr.aO g3.s) e2 (step i tu us (by rw[Î,e1];rfl) ii)
  .rintro d H3 hP;show JX (n:=↑vs) hz m x.g l w C (λd h=>o d (by rw[Æ,<- ↑h3];show h)) q d H3 hP
 .show p1.elim
def Tw{K:ar}{k:Md}{X:Cx}{O:TE}{M:a6}{E:List Nat}{Y:TG}{pg:eW}{ti:TT}{pt:df}{U:TE}{N:a6}{ix:bE}(hz:k.z=Â)(h:br K k O M)(hg:n4 K E Y pg)(ht:gj K k.walk.cR ti pt)(he:br K k.walk.cR U N)(hj:∀j∈E,ix[j]?=À Ä):br K k (tH X<|pG (yB X O) Y ti U ix) (nV (u5 .it M) pg pt N ix):=λF B H G J Q Q' c p q=>by
 show h F B H G J _ _ c p λt v F1 H1 cs p1 x=>?_
 unfold mU at p1;split at p1
 .obtain⟨_,a,vs,rfl,h2,h3,h4⟩:=x.r;have m:=c.gr x.g;have l:=rW (m.z hz) h2;have D:=m.s _ _ l;let#[I,i0,step,o]:=p1;show#[a,vs,rfl,D,λob w=>?_];let#[A,C]:=Hz m l ob;rw[JW D];show WK (Q:=λv=>mX X<|Q v) (sI K (λb=>fz (B b) a<|.aE ob<|.dK vs) (fz F1 a<|.aE ob<|.dK vs) (fz H1 a<|.aE ob<|.dK vs) I) #[_,[],[],Gr.aO A.s,#[rfl,rfl],.nil,.nil,i0] ?_ ?_ ?_
  .rintro i d H3 _ ⟨F3,us,cells,g3,_⟩;show g3.s _ _ (g3.f _ _ (by rw[gz,au3 (by rw[l];intro z;cases z)]))
  .rintro i y u d H3 pa e ⟨F3,us,cells,g3,r3,hc3,n3,ii⟩ hp;have rk:=h3.mo (Le.trans (mB<|.inr l)<|Le.of g3.f) (λb=>mB (ob:=ob)<|C b) _;∎;let#[tu,e1,e2]:=rk.cZ e;let#[F4,g4,r4,_]:=rY (xs:=[j4 y,tu]) (cs:=[]) g3.s #[kV y,[u],[],[],rfl,rfl,BN,u,[],[],[],rfl,rfl,e2,rfl,rfl] .nil hp;∎;show Iw hg ht he hj A g3 r3 hc3 n3 g4 r4 (step i (.aJ [j4 y,tu]) us (by rw[Î,e1];rfl) ii)
  .rintro d H3 hP;show JX (n:=↑vs) hz m x.g l w C (λd h=>o d (by rw[Æ,<- ↑h3];show h)) q d H3 hP
 .show p1.elim
variable{X:Cx}{k:Md}
def Iy{b d:Pos}{pt:df}(N:aj)(ix:bE)(E:QE X k o po)(B:o7 X a N G target pg)(he:∀C s H fp pl,QE `aq k.walk.cR elt pe)(ht:∀C s H fp pl,qS `aq k.walk.cR ifs pt:=by show λ_ _ _ _ _=>xa)(hz:do k.z=Â)(A:do X.calm=Â)(m:bL X a N ix:=by repeat first |show ø |show#[rfl,rfl,rfl,?_])(D: ~~~(∀j∈G,ix[j]?=À Ä))(v:do ú o "values" X.env `as=eval o X.env)(w:do (b.endLine == d.line)=Â)(i:do a.kind=.function)(g: ~~~(∀y∈a.names,y.2≠.cell))(e: ~~~(∀x∈a.names,x.2=.local->a.names.lookup x.1=À .local))(l:do jZ a X.env=Â)(hs:∀x,Ě (.Call (.Attribute o "values" b) [] [] d) X.env x=pure x:=by intro _;rfl):
  QE X k (.ListComp elt [#[target,.Call (.Attribute o "values" b) [] [] d,ifs,0]] a pos) (nV (u5 .vs po) pg pt pe ix):=by
 ∎;let#[I,n,q]:=E.h;let#[J,r,u]:=B.h;∎;show#[_,HF<|AK A (WD n v w) r (λC s H fp pl=>(ht C s H fp pl).h) (λC s H fp pl=>(he C s H fp pl).of) m i g e l hs,Tv hz q u w9 xr D]
def Xy{b d:Pos}{pt:df}{elts:bS}{x1:Nat}{e:Pos}(i:Nat)(N:aj)(ix:bE)(U:QE X k o po)(M:o7 X a N js (.Tuple elts x1 e) pg)(he:∀C s H fp pl,QE `aq k.walk.cR elt pe)(ht:∀C s H fp pl,qS `aq k.walk.cR ifs pt:=by show λ_ _ _ _ _=>xa)(hz:do k.z=Â)(G:X.N.Nodup:=by assumption)(Q: ~~~(lo<=i))(u:do X.N[i]?=À y)(Y:Loc X.env.scope y:=by first |show ϛ rfl |show ŵ rfl)(I:do X.calm=Â)(q:bL X a N ix:=by repeat first |show ø |show#[rfl,rfl,rfl,?_])(O: ~~~(∀j∈js,ix[j]?=À Ä))(D:do ú o "items" X.env `as=eval o X.env)(E:do (b.endLine == d.line)=Â)(r:Ĭ (.ListComp elt [#[.Tuple elts x1 e,.Call (.Attribute o "items" b) [] [] d,ifs,0]] a pos) (À<|.Name y py) spos.line X.env=pure Â:=by with_unfolding_all rfl)(m:do a.kind=.function)(l: ~~~(∀y∈a.names,y.2≠.cell))(g: ~~~(∀x∈a.names,x.2=.local->a.names.lookup x.1=À .local))(n:do jZ a X.env=Â)(hs:∀x,Ě (.Call (.Attribute o "items" b) [] [] d) X.env x=pure x:=by intro _;rfl)(J:kX X y:=by first |show .inl rfl |show .inr rfl |assumption):
  QS X k lo (.Assign [.Name y py] (.ListComp elt [#[.Tuple elts x1 e,.Call (.Attribute o "items" b) [] [] d,ifs,0]] a pos) spos) (rl i<|nV (u5 .it po) pg pt pe ix):=by
 ∎;let#[te,v,w]:=U.h;let#[tf,A,B]:=M.h;∎;show#[_,WE<|HE G u Y I (He v D E) A (λC s H fp pl=>(ht C s H fp pl).h) (λC s H fp pl=>(he C s H fp pl).of) q r m l g n hs J,Ai Q<|Tw (X:=X) hz w B w9 xr O]
end
def WT(w:Wm)(a:a6)(j:af)(Q:af->Bool->Prop):u5 w a j Q=(a j λt=>mU t λm=>Q (m.map<|wit w) Â):=rfl
abbrev zK(pe:a6):a6:=λj Q=>pe j λt=>Q<|aE t
def Xz{K:ar}{k:Md}{l:TE}{b:a6}(h:br K k l b):br K k l (zK b):=λF B H j i Q y c p q=>by
 show h F B H j i _ _ c p λt v x n z p1 a=>?_
 ∎;let#[m,w,r2]:=(fj.cons (ts:=[]) (vs:=[]) (d:=[]) a #[Gr.aO a.g.s,#[rfl,rfl],.nil,.nil]).held;let#[u,us,c,d,e,o,r,_]:=r2;∎;cases e;let#[rfl,rfl]:=Đ.mp o.symm;show q _ v m n [] p1 #[w,r,.nil,.nil]
def QE.aE{X:Cx}{k:Md}{e:đ}{a:a6}(h:QE X k e a):QE X k e (zK a):=by
 let#[g,b,d]:=h.h;show#[g,b,Xz d]
def Tz:zK pe j Q=(pe j λt=>Q<|aE t):=rfl
end Pu
namespace Lp
abbrev sm:Nat->(Nat->Int)->Int
 |0,_=>0
 |n + 1,f=>sm n f + f n
def ba{f g:Nat->Int}:∀{n:Nat},(∀k,k<n->f k=g k)->sm n f=sm n g
 |0,_=>rfl
 |n + 1,h=>by rw[sm,sm,ba λk a=>h k ⋯,h n ⋯]
def uy(a b:Int)(f g:Nat->Int):∀n:Nat,sm n (λk=>a*f k+b*g k)=a*sm n f+b*sm n g
 |0=>by simp[sm]
 |n + 1=>by rw[sm,sm,sm,uy a b f g n];grind
def bN(a:Int)(f:Nat->Int):∀n:Nat,sm n (λk=>a*f k)=a*sm n f
 |0=>by simp[sm]
 |n + 1=>by rw[sm,sm,bN a f n];grind
def bZ{f:Nat->Int}:∀{n:Nat},(∀k,k<n->f k=0)->sm n f=0
 |0,_=>rfl
 |n + 1,h=>by rw[sm,bZ λk a=>h k ⋯,h n ⋯];rfl
def bO{f:Nat->Int}{a:Nat}:∀{n:Nat},a<n->(∀k,k<n->k≠a->f k=0)->sm n f=f a
 |n + 1,ha,h=>by
  by_cases e:a=n
  .subst e;rw[sm,bZ λk b=>h k ⋯ ⋯];omega
  .rw[sm,bO (a:=a) ⋯ λk b=>h k ⋯,h n ⋯ ⋯];omega
def f9{f:Nat->Int}{a b:Nat}(d:a<b):∀{n:Nat},b<n->(∀k,k<n->k≠a->k≠b->f k=0)->sm n f=f a+f b
 |n + 1,hb,h=>by
  by_cases e:b=n
  .subst e;rw[sm,bO (a:=a) d λk g i=>h k ⋯ i ⋯]
  .rw[sm,f9 d ⋯ λk g=>h k ⋯,h n ⋯ ⋯ ⋯];omega
def dQ(f:aN)(n:Nat):∀m:Nat,sm m (λi=>sm n<|f i)=sm n λk=>sm m λi=>f i k
 |0=>by rw[sm,bZ];intro k _;rfl
 |m + 1=>by
  rw[sm,dQ f n m];have:=uy 1 1 (λk=>sm m λi=>f i k) (f m) n;simp only[ai8] at this;rw[<- this];rfl
abbrev sg(n:Nat):Int:=if n % 2=0 then 1 else -1
def XA(n:Nat):sg (n+1)=- sg n:=by unfold sg;split<;>split<;>omega
abbrev skip(k j:Nat):Nat:=if j<k then j else j+1
abbrev up{i:Type}(v:Nat->i)(s:Nat)(x:i):Nat->i:=λj=>if j=s then x else v j
abbrev dt:Nat->(aN)->Int
 |0,_=>1
 |m + 1,v=>sm (m + 1) λk=>sg (m + k) * v k m * dt m (λj=>v<|skip k j)
def pY:∀{m:Nat}{v w:aN},(∀j i,j<m->i<m->v j i=w j i)->dt m v=dt m w
 |0,_,_,_=>rfl
 |m + 1,v,w,h=>by
  rw[dt,dt];apply ba;intro k a;rw[h k m a ⋯,pY (m:=m) (v:=λj=>v<|skip k j) (w:=λj=>w<|skip k j) λj i d b=>h _ _ (by unfold skip;split<;>omega) ⋯]
def AB{v:aN}{s k:Nat}(x:Nat->Int)(h:k≠s):(λj=>up v s x<|skip k j)=up (λj=>v<|skip k j) (if s<k then s else s - 1) x:=by
 funext j;unfold up skip;dsimp only;by_cases a:s<k
 .rw[au4 a];by_cases b:j<k
  .rw[au4 b]
  .rw[au3 b,au3 ⋯,au3 ⋯]
 .rw[au3 a];by_cases b:j<k
  .rw[au4 b,au3 ⋯,au3 ⋯]
  .rw[au3 b];by_cases c:j+1=s
   .rw[au4 c,au4 ⋯]
   .rw[au3 c,au3 ⋯]
def TB{v:aN}{s:Nat}(x:Nat->Int):(λj=>up v s x<|skip s j)=λj=>v (skip s j):=by
 funext j;unfold up skip;rw[au3 (by split<;>omega)]
def kF{v:aN}{s:Nat}{x:Nat->Int}:up v s x s=x:=by simp[up]
def jB{v:aN}{s k:Nat}{x:Nat->Int}(h:k≠s):up v s x k=v k:=by simp[up,h]
def qf(a b:Int)(x y:Nat->Int):∀{m:Nat}(v:aN){s:Nat},s<m->dt m (up v s λi=>a*x i+b*y i)=a*dt m (up v s x)+b*dt m (up v s y)
 |m + 1,v,s,hs=>by
  simp only[dt];rw[<- uy];apply ba;intro k d;by_cases e:k=s
  .subst e;simp only[TB,kF];grind
  .simp only[jB e];rw[AB _ e,AB _ e,AB _ e,qf a b x y (m:=m) _ (by split<;>omega)];grind
def JY:∀{m:Nat}{v:aN}{a:Nat},a+1<m->(∀i,i<m->v a i=v (a+1) i)->dt m v=0
 |m + 1,v,a,ha,h=>by
  rw[dt,f9 (a:=a) (b:=a+1) ⋯ ha]
  .have e:dt m (λj=>v<|skip a j)=dt m (λj=>v<|skip (a+1) j):=by
    apply pY;intro j i g d;unfold skip;by_cases c:j=a
    .subst c;rw[au3 ⋯,au4 ⋯];show (h i ⋯).symm
    .by_cases b:j<a
     .rw[au4 b,au4 ⋯]
     .rw[au3 b,au3 ⋯]
   rw[e,h m ⋯,<- af5,XA];grind
  .intro k hk ka kb;rw[JY (m:=m) (v:=λj=>v<|skip k j) (a:=if k<a then a - 1 else a),ô]
   .split<;>omega
   .intro i d;unfold skip;by_cases c:k<a
    .simp only[c,if_true];rw[au3 ⋯,au3 ⋯,show a - 1+1=a by omega];show h i ⋯
    .simp only[c,if_false];rw[au4 ⋯,au4 ⋯];show h i ⋯
def ql{v:aN}{s t:Nat}{x y:Nat->Int}(h:s≠t):up (up v s x) t y=up (up v t y) s x:=by
 funext j;unfold up;by_cases a:j=t<;>by_cases b:j=s<;>simp[a,b]<;>omega
def F9{m a b:Nat}(d:a≠b)(e:a<m)(g:b<m)(h:∀v:aN,(∀i,i<m->v a i=v b i)->dt m v=0)(v:aN)(x y:Nat->Int):dt m `dW=- dt m `dX:=by
 have z:=λp=>h (up (up v a p) b p) λi _=>by rw[jB d,kF,kF]
 have l:=qf 1 1 x y (m:=m) (up v a λi=>1*x i+1*y i) g;rw[z,ql d,ql d,qf 1 1 x y (m:=m) _ e,qf 1 1 x y (m:=m) _ e,ql d.symm,ql d.symm,ql d.symm,ql d.symm,z,z] at l;omega
def xx{m:Nat}:∀(n:Nat){v:aN}{a b:Nat},b=a+n+1->b<m->(∀i,i<m->v a i=v b i)->dt m v=0
 |0,v,a,b,e,hb,h=>by subst e;show JY hb h
 |n + 1,v,a,b,e,hb,h=>by
  have s:=F9 (m:=m) (a:=b - 1) (b:=b) ⋯ ⋯ hb (λw l=>xx 0 ⋯ hb l) v (v<|b - 1) (v b);have g:up (up v (b - 1)<|v<|b - 1) b (v b)=v:=by
   funext j;unfold up;by_cases c:j=b
   .simp[c]
   .by_cases d:j=b - 1
    .rw[au3 c,au4 d,d]
    .rw[au3 c,au3 d]
  rw[g,xx n (v:=up (up v (b - 1)<|v b) b<|v<|b - 1) (a:=a) (b:=b - 1) ⋯ ⋯] at s
  .omega
  .intro i hi;rw[jB ⋯,jB ⋯,jB ⋯,kF];show h i hi
def uz{m a b:Nat}{v:aN}(e:a≠b)(d:a<m)(g:b<m)(h:∀i,i<m->v a i=v b i):dt m v=0:=by
 by_cases c:a<b
 .show xx (b - a - 1) ⋯ g h
 .show xx (a - b - 1) (a:=b) (b:=a) ⋯ d λi j=>(h i j).symm
def XB{m a b:Nat}(d:a≠b)(e:a<m)(g:b<m)(v:aN)(x y:Nat->Int):dt m `dW=- dt m `dX:=
 F9 d e g (λ_ h=>uz d e g h) v x y
def Bx{m s:Nat}(hs:s<m)(v:aN)(c:Nat->Int)(u:aN):∀n:Nat,dt m (up v s λi=>sm n λj=>c j*u j i)=sm n λj=>c j*dt m (up v s<|u j)
 |0=>by
  have:=qf 0 0 (λ_=>0) (λ_=>0) (m:=m) v hs;simp only[ů,ao0] at this;show this
 |n + 1=>by
  have:=qf 1 (c n) (λi=>sm n λj=>c j*u j i) (u n) (m:=m) v hs;simp only[ai8] at this;change dt m (up v s λi=>(sm n λj=>c j*u j i)+c n*u n i)=_;rw[this,Bx hs v c u n];rfl
def AD:∀m:Nat,dt m (λj i=>if i=j then 1 else 0)=1
 |0=>rfl
 |m + 1=>by
  rw[dt,bO (a:=m) ⋯]
  .rw[au4 rfl,pY (w:=λj i=>if i=j then 1 else 0),AD m]
   .have:sg (m+m)=1:=by unfold sg;rw[au4 ⋯]
    rw[this];rfl
   .intro j i hj hi;unfold skip;rw[au4 hj]
  .intro k hk hn;rw[au3 ⋯,ô,ů]
variable{m n:Nat}{A:aN}{S:Nat->Nat}
abbrev bs(A:aN)(S:Nat->Nat):aN:=λj i=>A i<|S j
abbrev dd(m:Nat)(A:aN)(S:Nat->Nat):Int:=dt m<|bs A S
abbrev tt(m:Nat)(A:aN)(S:Nat->Nat)(i k:Nat):Int:=dt m<|up (bs A S) i λx=>A x k
abbrev Cr(m:Nat)(A:aN)(S:Nat->Nat):Prop:=∀i k,i<m->dd m A S*A i k=sm m λj=>tt m A S j k*A i (S j)
def BU{v:aN}{i:Nat}:up v i (v i)=v:=by funext j;unfold up;split<;>simp_all
def Vl{v:aN}{i:Nat}{x y:Nat->Int}:up (up v i x) i y=up v i y:=by funext j;unfold up;split<;>simp_all
def BV{r c:Nat}:bs A `bu=up `br r λx=>A x c:=by funext j i;unfold bs up;split<;>rfl
def JZ{i:Nat}:tt m A S i (S i)=dd m A S:=by
 unfold tt dd;rw[show (λx=>A x<|S i)=bs A S i from rfl,BU]
def HB{i j:Nat}(a:i<m)(b:j<m)(h:i≠j):tt m A S i (S j)=0:=
 uz h a b λx _=>by rw[kF,jB<|ć h];rfl
def By(h:dd m A S≠0){i j:Nat}(a:i<m)(b:j<m)(e:S i=S j):i=j:=by
 apply ķ;intro q;show h (uz q a b λx _=>by unfold bs;rw[e])
def eK{r c:Nat}:dd m A `bu=tt m A S r c:=by unfold dd tt;rw[BV]
def cp{r c k:Nat}:tt m A `bu r k=tt m A S r k:=by unfold tt;rw[BV,Vl]
def eV(C:Cr m A S){r c i:Nat}(k:Nat)(g:i<m)(o:r<m)(h:i≠r):
  dd m A S*tt m A `bu i k=tt m A S i k*tt m A S r c - tt m A S i c*tt m A S r k:=by
 have v:dd m A S*tt m A `bu i k=dt m (up (up `br r λx=>A x c) i λx=>sm m λj=>tt m A S j k*bs A S j x):=by
  unfold tt;rw[BV];have:=qf (dd m A S) 0 (λx=>A x k) (λ_=>0) (m:=m) (up `br r λx=>A x c) g;simp only[ů,ao0] at this;rw[<- this];apply pY;intro j x d w;by_cases q:j=i
  .subst q;rw[kF,kF];show C x k w
  .rw[jB q,jB q]
 have z:∀j,j<m->j≠i->j≠r->tt m A S j k*dt m (up (up `br r λx=>A x c) i<|bs A S j)=0:=λj d e l=>by
  rw[uz (a:=i) (b:=j) (ć e) g d λx _=>by rw[kF,jB e,jB l],ô]
 have u:dt m (up (up `br r λx=>A x c) i<|bs A S i)=tt m A S r c:=by
  rw[ql<|ć h,BU];rfl
 have zr:dt m (up (up `br r λx=>A x c) i<|bs A S r)=- tt m A S i c:=by
  rw[XB (ć h) o g,BU];rfl
 rw[v,Bx g];by_cases q:i<r
 .rw[f9 q o λj d e l=>z j d e l,u,zr];grind
 .rw[f9 (a:=r) (b:=i) ⋯ g λj d l e=>z j d e l,u,zr];grind
def Cr.turn(C:Cr m A S)(hd:dd m A S≠0){r c:Nat}(o:r<m):Cr m A `bu:=by
 intro i k l;rw[eK];have g:sm m (λj=>dd m A S*(tt m A `bu j k*A i (up S r c j)) - tt m A S r c*(tt m A S j k*A i (S j))+tt m A S r k*(tt m A S j c*A i (S j)))=dd m A S*tt m A S r k*A i c:=by
  rw[bO (a:=r) o]
  .rw[cp];simp only[up,if_true];grind
  .intro j hj q;have:=eV C (c:=c) k hj o q;rw[show up S r c j=S j by simp[up,q]];grind
 have e:∀(f g h:Nat->Int)(a b d:Int)(n:Nat),sm n (λj=>a*f j - b*g j+d*h j)=a*sm n f - b*sm n g+d*sm n h:=by
  intro f g h a b d n;induction n with
  |zero=>simp[sm]
  |succ n u=>rw[sm,sm,sm,sm,u];grind
 rw[e,<- C i k l,<- C i c l] at g;apply Ħ hd
 grind
def g0{j:Nat}(k:Nat)(b:j<m):tt m A S j k=sm m λi=>A i k*dt m (up `br j λx=>if x=i then 1 else 0):=by
 unfold tt;rw[<- Bx b `br (λi=>A i k) (λi x=>if x=i then 1 else 0)];apply pY;intro a x e d;by_cases q:a=j
 .subst q;rw[kF,kF,bO (a:=x) d]
  .simp
  .intro i hi h;rw[au3<|ć h,ô]
 .rw[jB q,jB q]
abbrev o6(m N:Nat)(A:aN)(y:Nat->Int):Prop:=∀i,i<m->sm N (λk=>A i k*y k)=0
def o6.tt{N:Nat}{y:Nat->Int}(h:o6 m N A y){j:Nat}(b:j<m):sm N (λk=>tt m A S j k*y k)=0:=by
 rw[ba (g:=λk=>sm m λi=>dt m (up `br j λx=>if x=i then 1 else 0)*(A i k*y k))]
 .rw[<- dQ λi k=>dt m (up `br j λx=>if x=i then 1 else 0)*(A i k*y k)];apply bZ;intro i a;rw[bN,h i a,ô]
 .intro k _;rw[g0 k b,ϴ,<- bN];apply ba;intro i _;grind
def z't{N:Nat}{y:Nat->Int}(C:Cr m A S)(hd:dd m A S≠0)(h:∀j,j<m->sm N (λk=>Lp.tt m A S j k*y k)=0):o6 m N A y:=by
 intro i a;apply Ħ hd;rw[<- bN,ô,ba (g:=λk=>sm m λj=>A i (S j)*(Lp.tt m A S j k*y k))]
 .rw[<- dQ λj k=>A i (S j)*(Lp.tt m A S j k*y k)];apply bZ;intro j b;rw[bN,h j b,ô]
 .intro k _;rw[<- af4,C i k a,ϴ,<- bN];apply ba;intro j _;grind
abbrev zz(m:Nat)(A:aN)(c:Nat->Int)(S:Nat->Nat)(k:Nat):Int:=dd m A S*c k - sm m λi=>c (S i)*tt m A S i k
def ee{c:Nat->Int}{i:Nat}(b:i<m):zz m A c S (S i)=0:=by
 unfold zz;rw[bO (a:=i) b,JZ]
 .grind
 .intro j hj q;rw[HB hj b q,ô]
def xy{N:Nat}{c y:Nat->Int}(h:o6 m N A y):sm N (λk=>zz m A c S k*y k)=dd m A S*sm N λk=>c k*y k:=by
 rw[ba (g:=λk=>dd m A S*(c k*y k)+(-1)*sm m λi=>c (S i)*(tt m A S i k*y k)),uy,<- dQ λi k=>c (S i)*(tt m A S i k*y k)]
 .rw[bZ (n:=m)]
  .grind
  .intro i hi;rw[bN,h.tt hi,ô]
 .intro k _;unfold zz;have:sm m (λi=>c (S i)*tt m A S i k)*y k=sm m λi=>c (S i)*(tt m A S i k*y k):=by
   rw[ϴ,<- bN];apply ba;intro i _;grind
  grind
def XC(C:Cr m A S)(hd:dd m A S≠0){c:Nat->Int}{r e:Nat}(k:Nat)(l:r<m):
  dd m A S*zz m A c `eE k=zz m A c S k*tt m A S r e - zz m A c S e*tt m A S r k:=by
 unfold zz;rw[eK];have g:sm m (λi=>dd m A S*(c (up S r e i)*tt m A `eE i k) - tt m A S r e*(c (S i)*tt m A S i k)+tt m A S r k*(c (S i)*tt m A S i e))=dd m A S*tt m A S r k*c e:=by
  rw[bO (a:=r) l]
  .rw[cp];simp only[up,if_true];grind
  .intro j hj q;have:=eV C (c:=e) k hj l q;rw[show up S r e j=S j by simp[up,q]];grind
 have o:∀(f g h:Nat->Int)(a b d:Int)(n:Nat),sm n (λj=>a*f j - b*g j+d*h j)=a*sm n f - b*sm n g+d*sm n h:=by
  intro f g h a b d n;induction n with
  |zero=>simp[sm]
  |succ n u=>rw[sm,sm,sm,sm,u];grind
 rw[o] at g
 grind
variable{m n:Nat}{A:aN}
def J3{d x y:Int}(hd:0<d)(h:d*x<=d*y):x<=y:=Int.le_of_mul_le_mul_left h hd
def tr{a b c x y z:Int}(g:0<x)(h:0<y)(hz:0<z)(d:a*y<=b*x)(e:b*z<=c*y):a*z<=c*x:=by
 have i:=ai0 d<|Ĳ hz;have j:=ai0 e<|Ĳ g;apply J3 h;grind
def dP{f:Nat->Int}:∀{n:Nat},(∀k,k<n->0<=f k)->0<=sm n f
 |0,_=>aq7 _
 |n + 1,h=>by
  have:=dP (n:=n) λk a=>h k ⋯
  have:=h n ⋯;rw[sm];omega
structure Gd(m n:Nat)(A:aN)(S:Nat->Nat):Prop where
 cr:Cr m A S
 pos:0<dd m A S
 lt:∀i,i<m->S i<n
 fe:∀i,i<m->0<=tt m A S i n
abbrev Ent(m n:Nat)(A:aN)(c:Nat->Int)(sh:Nat->Prop)(S:Nat->Nat)(e:Nat):Prop:=
 e<n/\zz m A c S e<0/\¬ sh e/\∀k,k<e->¬ sh k->0<=zz m A c S k
abbrev Lv(m n:Nat)(A:aN)(S:Nat->Nat)(r e:Nat):Prop:=
 r<m/\0<tt m A S r e/\∀i,i<m->0<tt m A S i e->tt m A S r n*tt m A S i e<tt m A S i n*tt m A S r e\/(tt m A S r n*tt m A S i e=tt m A S i n*tt m A S r e/\S r<=S i)
def Gd.turn{S:Nat->Nat}{r e:Nat}(G:Gd m n A S)(V:Lv m n A S r e)(he:e<n):Gd m n A `eE:=by
 show#[G.cr.turn `be V.1,by rw[eK];show V.2.1,λi d=>?_,λi d=>?_]
 .unfold up;split
  .show he
  .show G.lt i d
 .by_cases q:i=r
  .rw[q,cp];show G.fe r V.1
  .have t:=eV G.cr (c:=e) n d V.1 q;apply J3 G.pos;rw[t,ô];by_cases p:0<tt m A S i e
   .have:=V.2.2 i d p;have:tt m A S r n*tt m A S i e<=tt m A S i n*tt m A S r e:=⋯
    rw[ϴ<|tt m A S i e];omega
   .have a:=Ů (G.fe i d)<|Ĳ V.2.1;have b:=Ů (show 0<=- tt m A S i e by omega)<|G.fe r V.1;rw[Int.neg_mul] at b;omega
abbrev dr(m:Nat)(A:aN)(S:Nat->Nat)(e k:Nat):Int:=(if k=e then dd m A S else 0)+(-1)*sm m λi=>if S i=k then tt m A S i e else 0
def BA{S:Nat->Nat}{e:Nat}(C:Cr m A S)(hd:dd m A S≠0)(lt:∀i,i<m->S i<n+1)(he:e<n+1):o6 m (n+1) A (dr m A S e):=by
 apply z't C hd;intro j b;rw[ba (g:=λk=>1*(tt m A S j k*if k=e then dd m A S else 0)+(-1)*sm m λi=>if S i=k then tt m A S j k*tt m A S i e else 0),uy]
 .rw[bO (n:=n+1) (a:=e) he,au4 rfl,<- dQ λi k=>if S i=k then tt m A S j k*tt m A S i e else 0,bO (n:=m) (a:=j) b,bO (n:=n+1) (a:=S j)<|lt j b,au4 rfl,JZ]
  .grind
  .intro k _ q;rw[au3<|ć q]
  .intro i hi q;apply bZ;intro k _;split
   .rename_i h;rw[<- h,HB b hi<|ć q,ů]
   .rfl
  .intro k _ q;rw[au3 q,ô]
 .intro k _;unfold dr;have:sm m (λi=>if S i=k then tt m A S j k*tt m A S i e else 0)=tt m A S j k*sm m λi=>if S i=k then tt m A S i e else 0:=by
   rw[<- bN];apply ba;intro i _;split
   .rfl
   .rw[ô]
  rw[this];grind
def uY{S:Nat->Nat}{e:Nat}(h:∀i,i<m->S i≠e):dr m A S e e=dd m A S:=by
 unfold dr;rw[au4 rfl,bZ λi a=>au3<|h i a];omega
def BB{S:Nat->Nat}{e i:Nat}(hd:dd m A S≠0)(b:i<m)(h:S i≠e):dr m A S e (S i)=- tt m A S i e:=by
 unfold dr;rw[au3 h,bO (a:=i) b,au4 rfl]
 .omega
 .intro j hj q;rw[au3 λx=>q<|By hd hj b x]
def rH{S:Nat->Nat}{e k:Nat}(h:∀i,i<m->S i≠k)(b:k≠e):dr m A S e k=0:=by
 unfold dr;rw[au3 b,bZ λi a=>au3<|h i a];rfl
def J4(e:Nat->Nat):∀{L:Nat},0<L->∃t,t<L/\∀u,u<L->e u<=e t
 |1,_=>#[0,⋯,λu a=>by rw[show u=0 by omega];omega]
 |L + 2,_=>by
  let#[t,b,h]:=J4 e (L:=L+1) ⋯;by_cases q:e t<=e (L+1)
  .show#[L+1,⋯,λu a=>by
    by_cases x:u=L+1
    .subst x;omega
    .have:=h u ⋯;omega]
  .show#[t,⋯,λu a=>by
    by_cases x:u=L+1
    .subst x;omega
    .show h u ⋯]
def Vm{c:Nat->Int}{sh:Nat->Prop}{S:Nat->Nat->Nat}{r e:Nat->Nat}{L:Nat}(hL:0<L)(G:∀t,t<=L->Gd m n A (S t))(E:∀t,t<L->Ent m n A c sh (S t) (e t))(V:∀t,t<L->Lv m n A (S t) (r t) (e t))(U:∀t,t<L->S (t+1)=up (S t) (r t) (e t))(B:S L=S 0):False:=by
 have nz:=λt d=>æ (G t d).pos
 have dU:∀t,t<L->dd m A (S<|t+1)=tt m A (S t) (r t) (e t):=λt d=>by rw[U t d,eK]
 have zU:=λt (d:t<L)=>XC (G t ⋯).cr (nz t ⋯) (c:=c) (e:=e t) n (V t d).1
 have st:∀t,t<L->zz m A c (S t) n*dd m A (S<|t+1)<=zz m A c (S<|t+1) n*dd m A (S t)/\(0<tt m A (S t) (r t) n->zz m A c (S t) n*dd m A (S<|t+1)<zz m A c (S<|t+1) n*dd m A (S t)):=λt d=>by
  have z:=zU t d;rw[<- U t d,<- dU t d] at z;have a:=(E t d).2.1;have f:=(G t ⋯).fe _ (V t d).1;show#[?_,λp=>?_]
  .have:=Ů (show 0<=- zz m A c (S t) (e t) by omega) f
   grind
  .have:=Ŷ (show 0 < - zz m A c (S t) (e t) by omega) p
   grind
 have mono:∀u t,t<=u->u<=L->zz m A c (S t) n*dd m A (S u)<=zz m A c (S u) n*dd m A (S t):=by
  intro u;induction u with
  |zero=>intro t h _;rw[show t=0 by omega];omega
  |succ u H=>
   intro t h v;by_cases q:t=u+1
   .subst q;omega
   .show tr (G t ⋯).pos (G u ⋯).pos (G (u+1) v).pos (H t ⋯ ⋯) (st u ⋯).1
 have C:∀t,t<L->tt m A (S t) (r t) n=0:=λt d=>by
  apply ķ;intro q;have f:=(G t ⋯).fe _ (V t d).1;have s:=(st t d).2 ⋯;have a:=mono t 0 ⋯ ⋯;have b:=mono L (t+1) ⋯ ⋯;rw[B] at b;have:=tr (G (t+1) ⋯).pos (G 0 ⋯).pos (G t ⋯).pos b a;omega
 have val:∀k t,t<=L->((sm m λi=>if S t i=k then tt m A (S t) i n else 0)=0↔(sm m λi=>if S 0 i=k then tt m A (S 0) i n else 0)=0):=by
  intro k t;induction t with
  |zero=>show λ_=>Iff.rfl
  |succ t H=>
   intro d;rw[<- H ⋯];have h:dd m A (S t)*(sm m λi=>if S (t+1) i=k then tt m A (S<|t+1) i n else 0)=dd m A (S<|t+1)*(sm m λi=>if S t i=k then tt m A (S t) i n else 0):=by
    rw[<- bN,<- bN];apply ba;intro i g;by_cases q:i=r t
    .rw[U t ⋯,q,cp,C t ⋯,ite_self,ite_self,ô,ô]
    .have:=eV (G t ⋯).cr (c:=e t) n g (V t ⋯).1 q;rw[C t ⋯,<- U t ⋯,<- dU t ⋯] at this;rw[show S (t+1) i=S t i by rw[U t ⋯];simp[up,q]];split<;>grind
   constructor
   .intro x;rw[x,ô] at h;show (ϙ.mp h.symm).resolve_left<|nz _ d
   .intro x;rw[x,ô] at h;show (ϙ.mp h).resolve_left<|nz _ ⋯
 have D:∀t,t<L->∀i,i<m->S t i≠e t:=λt d i g q=>by
  have:=(E t d).2.1;rw[<- q,ee g] at this;omega
 have Q:∀t k,t<L->(∃i,i<m/\S (t+1) i=k)->k=e t\/∃i,i<m/\S t i=k:=λt k d ⟨i,g,q⟩=>by
  rw[U t d] at q;unfold up at q;split at q
  .show .inl q.symm
  .show .inr #[i,g,q]
 have out:∀t k,t<L->(∃i,i<m/\S t i=k)->k=S t (r t)\/∃i,i<m/\S (t+1) i=k:=λt k d ⟨i,g,q⟩=>by
  by_cases x:i=r t
  .subst x;show .inl q.symm
  .show .inr #[i,g,?_];rw[U t d];simp[up,x,q]
 have back:∀k,(∀t,t<L->e t≠k)->∀s t,t<=s->s<=L->(∃i,i<m/\S s i=k)->∃i,i<m/\S t i=k:=by
  intro k J s;induction s with
  |zero=>intro t h _ b;rw[show t=0 by omega];show b
  |succ s H=>
   intro t h l b;by_cases q:t=s+1
   .rw[q];show b
   .rcases Q s k ⋯ b with x |x
    .show au5 x.symm (J s ⋯)
    .show H t ⋯ ⋯ x
 have O:∀k,(∀t,t<L->S t (r t)≠k)->∀s t,t<=s->s<=L->(∃i,i<m/\S t i=k)->∃i,i<m/\S s i=k:=by
  intro k J s;induction s with
  |zero=>intro t h _ b;rw[show t=0 by omega] at b;show b
  |succ s H=>
   intro t h l b;by_cases q:t=s+1
   .rw[<- q];show b
   .rcases out s k ⋯ (H t ⋯ ⋯ b) with x |x
    .show au5 x.symm (J s ⋯)
    .show x
 let#[t,d,big]:=J4 e hL;have lv:∃s,s<L/\S s (r s)=e t:=by
  apply ķ;intro q;have f:=O (e t) λs l x=>q #[s,l,x]
  have b1:∃i,i<m/\S (t+1) i=e t:=#[r t,(V t d).1,by rw[U t d];simp[up]]
  have Y:=f L (t+1) ⋯ ⋯ b1;rw[B] at Y;let#[i,g,x]:=f t 0 ⋯ ⋯ Y;show D t d i g x
 let#[s,l,hl]:=lv;have M:=G s ⋯;have o:=D s l;have K:=BA (e:=e s) M.cr (nz s ⋯) (λi g=>į<|M.lt i g)<|į (E s l).1;have k1:=xy (S:=S s) (c:=c) K;have k2:=xy (S:=S t) (c:=c) K;rw[bO (a:=e s)<|į (E s l).1,uY o,ϴ] at k1
 .have k3:=Ħ (nz s ⋯) k1;have neg:=(E s l).2.1;rw[k3] at neg;have p:0<=sm (n+1) λk=>zz m A c (S t) k*dr m A (S s) (e s) k:=by
   apply dP;intro k J;have es:e s<e t:=by
    have:=big s l;have:=o (r s) (V s l).1;omega
   by_cases q:k=e s
   .subst q;rw[uY o];show Ů ((E t d).2.2.2 _ es (E s l).2.2.1)<|Ĳ M.pos
   .by_cases b:∃i,i<m/\S s i=k
    .obtain⟨i,g,x⟩:=b;subst x;rw[BB (nz s ⋯) g q];by_cases N:∃u,u<L/\e u=S s i
     .obtain⟨u,v,x⟩:=N;by_cases y:S s i=e t
      .have:i=r s:=By (nz s ⋯) g (V s l).1<|y.trans hl.symm;rw[y,this];have a:=(E t d).2.1;have b:=(V s l).2.1;have:=Ŷ (show 0 < - zz m A c (S t) (e t) by omega) b
       grind
      .have lt:S s i<e t:=by have:=big u v;omega
       have z:=(E t d).2.2.2 _ lt<|x ▸ (E u v).2.2.1;by_cases p:0<tt m A (S s) i (e s)
       .have v0:tt m A (S s) i n=0:=by
         have w:(sm m λj=>if S u j=S s i then tt m A (S u) j n else 0)=0:=bZ λj I=>au3 λy=>D u v j I<|y.trans x.symm
         have w2:=(val (S s i) s ⋯).mpr<|(val (S s i) u ⋯).mp w;rw[bO (a:=i) g,au4 rfl] at w2
         .show w2
         .intro j I y;rw[au3 λz=>y<|By (nz s ⋯) I g z]
        have:=(V s l).2.2 i g p;rw[C s l,v0,hl] at this;omega
       .show Ů z ⋯
     .have b0:=back (S s i) (λu v x=>N #[u,v,x]) s 0 ⋯ ⋯ #[i,g,rfl];rw[<- B] at b0;let#[j,I,x]:=back (S s i) (λu v x=>N #[u,v,x]) L t ⋯ ⋯ b0;rw[<- x,ee I,ů];omega
    .rw[rH (λi g x=>b #[i,g,x]) q,ô];omega
  rw[k2] at p;have:=Ŷ (G t ⋯).pos (show 0 < - sm (n+1) λk=>c k*dr m A (S s) (e s) k by omega)
  grind
 .intro k _ q;by_cases b:∃i,i<m/\S s i=k
  .obtain⟨i,g,x⟩:=b;rw[<- x,ee g,ů]
  .rw[rH (λi g x=>b #[i,g,x]) q,ô]
variable{m n:Nat}{A:aN}
def Ce:∀(K:Nat){L:Nat}{f:Nat->Nat},(∀t,t<L->f t<K)->(∀s t,s<t->t<L->f s≠f t)->L<=K
 |0,L,f,h,_=>by
  by_cases q:L=0
  .omega
  .have:=h 0 ⋯;omega
 |K + 1,L,f,h,d=>by
  by_cases q:∃t,t<L/\f t=K
  .obtain⟨t,g,e⟩:=q;have:=Ce K (L:=L - 1) (f:=λs=>f<|skip t s) (λs i=>by
    have a:skip t s<L/\skip t s≠t:=by unfold skip;split<;>omega
    have b:=h _ a.1;have c:f (skip t s)≠f t:=by
     by_cases x:skip t s<t
     .show d _ _ x g
     .show (d _ _ ⋯ a.1).symm
    change f (skip t s)<K;omega) λs u l j=>d _ _ (by unfold skip;split<;>split<;>omega) (by unfold skip;split<;>omega)
   omega
  .have:=Ce K (L:=L) (f:=f) (λt g=>by
    have a:=h t g;have b:f t≠K:=λe=>q #[t,g,e]
    omega) d
   omega
abbrev code(n:Nat):Nat->(Nat->Nat)->Nat
 |0,_=>0
 |m + 1,S=>code n m S * n + S m
def Iz{S:Nat->Nat}:∀{m:Nat},(∀i,i<m->S i<n)->code n m S<n ^ m
 |0,_=>by simp[code]
 |m + 1,h=>by
  have a:=Iz (m:=m) λi d=>h i ⋯
  have b:=h m ⋯;have c:=ae0 n<|Nat.succ_le_of_lt a;rw[code,ao6];rw[Ξ] at c;omega
def HC{S R:Nat->Nat}:∀{m:Nat},(∀i,i<m->S i<n)->(∀i,i<m->R i<n)->code n m S=code n m R->∀i,i<m->S i=R i
 |m + 1,h,g,e,i,d=>by
  rw[code,code] at e;have a:=h m ⋯;have b:=g m ⋯;have j:S m=R m:=by
   have:=au9 (· % n) e;simp only[ao4 _<|S m,ao4 _<|R m,Nat.add_mul_mod_self_right,Nat.mod_eq_of_lt a,Nat.mod_eq_of_lt b] at this;show this
  by_cases q:i=m
  .subst q;show j
  .show HC (m:=m) (λi d=>h i ⋯) (λi d=>g i ⋯) ?_ i ⋯;show Nat.eq_of_mul_eq_mul_right ⋯ (show code n m S*n=code n m R*n by omega)
abbrev CT(m n:Nat)(A:aN)(c:Nat->Int)(sh:Nat->Prop)(S a:Nat->Nat):Prop:=∃r e,Ent m n A c sh S e/\Lv m n A S r e/\a=up S r e
abbrev Ch(m n:Nat)(A:aN)(c:Nat->Int)(sh:Nat->Prop):Nat->(Nat->Nat)->Prop
 |0,_=>True
 |L + 1,S=>∃a,CT m n A c sh S a /\ Ch m n A c sh L a
abbrev kS(m n:Nat)(A:aN)(c:Nat->Int)(sh:Nat->Prop)(S:Nat->Nat)(N:Nat):Prop:=∀L,Ch m n A c sh L S->L<=N
def kS.step{c:Nat->Int}{sh:Nat->Prop}{S a:Nat->Nat}{N:Nat}(B:kS m n A c sh S N)(s:CT m n A c sh S a):0<N/\kS m n A c sh a (N - 1):=
 #[B 1 #[a,s,trivial],λL h=>by have:=B (L+1) #[a,s,h];omega]
def Ch.seq{c:Nat->Int}{sh:Nat->Prop}:∀{L:Nat}{S:Nat->Nat},Gd m n A S->Ch m n A c sh L S->∃(T:Nat->Nat->Nat)(r e:Nat->Nat),T 0=S/\(∀t,t<=L->Gd m n A (T t))/\(∀t,t<L->Ent m n A c sh (T t) (e t)/\Lv m n A (T t) (r t) (e t)/\T (t+1)=up (T t) (r t) (e t))
 |0,S,G,_=>#[λ_=>S,λ_=>0,λ_=>0,rfl,λ_ _=>G,λt h=>au5 h ⋯]
 |L + 1,S,G,⟨S',⟨r,e,h1,h2,h3⟩,h⟩=>by
  let#[T,d,a,i,g,s]:=Ch.seq (h3 ▸ G.turn h2 h1.1:Gd m n A S') h;show#[λt=>match t with |0=>S |t+1=>T t,λt=>match t with |0=>r |t+1=>d t,λt=>match t with |0=>e |t+1=>a t,rfl,λt b=>?_,λt b=>?_]
  .cases t with
   |zero=>show G
   |succ t=>show g t ⋯
  .cases t with
   |zero=>show#[h1,h2,i.trans h3]
   |succ t=>show s t ⋯
def Nt{c:Nat->Int}{sh:Nat->Prop}{S:Nat->Nat}(G:Gd m n A S):kS m n A c sh S (n ^ m):=by
 intro L h;let#[T,r,e,y,g,s]:=h.seq G;have out:∀t,t<=L->∀i,m<=i->T t i=S i:=by
  intro t;induction t with
  |zero=>intro _ i _;rw[y]
  |succ t w=>
   intro d i o;let#[_,v,u]:=s t ⋯;have:=v.1;rw[u,<- w ⋯ i o];unfold up;rw[au3 ⋯]
 have:=Ce (n ^ m) (L:=L+1) (f:=λt=>code n m<|T t) (λt d=>Iz (g t ⋯).lt) λa b z B q=>by
  have j:=HC (g a ⋯).lt (g b ⋯).lt q;have l:T (a+(b - a))=T (a+0):=by
   rw[show a+(b - a)=b by omega];funext i;by_cases x:i<m
   .show (j i x).symm
   .rw[out b ⋯ i ⋯];show (out a ⋯ i ⋯).symm
  show Vm (L:=b - a) (S:=λt=>T<|a+t) (r:=λt=>r<|a+t) (e:=λt=>e<|a+t) ⋯ (λt d=>g _ ⋯) (λt d=>(s _ ⋯).1) (λt d=>(s _ ⋯).2.1) (λt d=>(s (a+t) ⋯).2.2) l
 omega
variable{m n:Nat}{A:aN}{S:Nat->Nat}{c:Nat->Int}{sh:Nat->Prop}
structure ig(m n:Nat)(A:aN)(sh:Nat->Prop)(q:Int)(y:Nat->Int):Prop where
 BE:o6 m (n+1) A y
 nn:∀k,k<n->0<=y k
 sz:∀k,k<n->sh k->y k=0
 rhs:y n=-q
def f7{f:Nat->Int}:∀{n:Nat},(∀k,k<n->0<=f k)->sm n f=0->∀k,k<n->f k=0
 |n + 1,h,e,k,d=>by
  rw[sm] at e;have a:=dP (n:=n) (f:=f) λk d=>h k ⋯
  have b:=h n ⋯;by_cases q:k=n
  .subst q;omega
  .show f7 (n:=n) (λk d=>h k ⋯) ⋯ k ⋯
def ig.cost{q:Int}{y:Nat->Int}(F:ig m n A sh q y)(a:c n=0):dd m A S*sm n (λk=>c k*y k)=sm n (λk=>zz m A c S k*y k) - q*zz m A c S n:=by
 have h:=xy (S:=S) (c:=c) F.BE;rw[sm,sm,F.rhs,a] at h;grind
abbrev i3(m n:Nat)(A:aN)(S:Nat->Nat)(k:Nat):Int:=(-1)*dr m A S n k
def gQ(G:Gd m n A S){i:Nat}(a:i<m):i3 m n A S (S i)=tt m A S i n:=by
 unfold i3;rw[BB `be a<|ç<|G.lt i a];omega
def c9{k:Nat}(a:k≠n)(h:∀i,i<m->S i≠k):i3 m n A S k=0:=by
 unfold i3;rw[rH h a];rfl
def fX(G:Gd m n A S)(hs:∀i,i<m->¬ sh (S i)):ig m n A sh (dd m A S) (i3 m n A S):=by
 have K:=BA (e:=n) G.cr `be (λi a=>į<|G.lt i a)<|ũ n;show#[λi a=>?_,λk d=>?_,λk d s=>?_,?_]
 .rw[ba (g:=λk=>(-1)*(A i k*dr m A S n k)) λk _=>by unfold i3;grind,bN,K i a];rfl
 .by_cases b:∃i,i<m/\S i=k
  .obtain⟨i,a,x⟩:=b;rw[<- x,gQ G a];show G.fe i a
  .rw[c9 ⋯ λi a x=>b #[i,a,x]];omega
 .show c9 ⋯ λi a x=>hs i a<|x ▸ s
 .unfold i3;rw[uY λi a=>ç<|G.lt i a];omega
def ly(G:Gd m n A S)(d:c n=0):sm n (λk=>c k*i3 m n A S k)=- zz m A c S n:=by
 have F:=fX (sh:=λ_=>False) G λ_ _ h=>h
 have e:=F.cost (S:=S) d;rw[bZ (n:=n) (f:=λk=>zz m A c S k*i3 m n A S k)] at e
 .apply Ħ `be;rw[e];grind
 .intro k hk;by_cases b:∃i,i<m/\S i=k
  .obtain⟨i,a,x⟩:=b;rw[<- x,ee a,ů]
  .rw[c9 ⋯ λi a x=>b #[i,a,x],ô]
def TM(G:Gd m n A S){e:Nat}(he:e<n)(hn:∀i,i<m->S i≠e)(ht:∀i,i<m->tt m A S i e<=0)(g:c n=0):
  (∀k,k<n->0<=dr m A S e k)/\o6 m (n+1) A (dr m A S e)/\dr m A S e n=0/\sm n (λk=>c k*dr m A S e k)=zz m A c S e:=by
 have K:=BA (e:=e) G.cr `be (λi d=>į<|G.lt i d)<|į he;have z:dr m A S e n=0:=rH (λi d=>ç<|G.lt i d)<|Ū he;show#[λk j=>?_,K,z,?_]
 .by_cases q:k=e
  .subst q;rw[uY hn];show Ĳ G.pos
  .by_cases b:∃i,i<m/\S i=k
   .obtain⟨i,d,x⟩:=b;rw[<- x,BB `be d<|hn i d];have:=ht i d;omega
   .rw[rH (λi d x=>b #[i,d,x]) q];omega
 .have h:=xy (S:=S) (c:=c) K;rw[bO (a:=e)<|į he,uY hn] at h
  .apply Ħ `be;rw[sm,z] at h;grind
  .intro k _ q;by_cases b:∃i,i<m/\S i=k
   .obtain⟨i,d,x⟩:=b;rw[<- x,ee d,ů]
   .rw[rH (λi d x=>b #[i,d,x]) q,ô]
abbrev iH:Nat->Nat
 |0=>1
 |m + 1=>(m + 1) * iH m
def BC{f:Nat->Int}{B:Nat}:∀{n:Nat},(∀k,k<n->(f k).natAbs<=B)->(sm n f).natAbs<=n*B
 |0,_=>by simp[sm]
 |n + 1,h=>by
  have a:=BC (n:=n) λk d=>h k ⋯
  have b:=h n ⋯;have c:=ah1 (sm n f)<|f n;rw[sm,Ξ];omega
def BD{M:Nat}:∀{m:Nat}{v:aN},(∀j i,j<m->i<m->(v j i).natAbs<=M)->(dt m v).natAbs<=iH m*M ^ m
 |0,v,_=>by simp[dt,iH]
 |m + 1,v,h=>by
  rw[dt,iH,ao6,Nat.mul_assoc];apply BC;intro k d;have a:=BD (m:=m) (v:=λj=>v<|skip k j) (M:=M) λj i g e=>h _ _ (by unfold skip;split<;>omega) ⋯
  have b:=h k m d ⋯;have s:(sg<|m+k).natAbs=1:=by unfold sg;split<;>rfl
  rw[ϭ,ϭ,s,Nat.one_mul];have:=Α b a;rw[ao5 M] at this;rw[<- Nat.mul_assoc];show this
variable{m n:Nat}{A:aN}{S:Nat->Nat}
abbrev Un(m:Nat)(A:aN)(S:Nat->Nat):Prop:=∀i j,i<m->j<m->A i (S j)=if i=j then 1 else 0
def Un.dd(h:Un m A S):dd m A S=1:=by
 rw[<- AD m];show pY λj i b a=>h i j a b
def Un.tt(h:Un m A S){i:Nat}(k:Nat)(g:i<m):tt m A S i k=A i k:=by
 rw[g0 k g,bO (a:=i) g]
 .rw[pY (w:=λj x=>if x=j then 1 else 0),AD,Int.mul_one];intro j x d l;by_cases e:j=i
  .subst e;rw[kF]
  .rw[jB e];show h x j l d
 .intro j d e;rw[uz (a:=i) (b:=j) (ć e) g d,ô];intro x l;rw[kF,jB e];show (h x j l d).symm
def Un.gd(h:Un m A S)(lt:∀i,i<m->S i<n)(fe:∀i,i<m->0<=A i n):Gd m n A S:=by
 show#[λi k b=>?_,by rw[h.dd];decide,lt,λi b=>by rw[h.tt n b];show fe i b];rw[h.dd,bO (a:=i) b]
 .rw[h.tt k b,h i i b b,au4 rfl];grind
 .intro j hj e;rw[h i j b hj,au3<|ć e,ô]
def ju{M:Nat}(h:∀i k,i<m->k<=n->(A i k).natAbs<=M)(lt:∀i,i<m->S i<n){i k:Nat}(d:k<=n):(tt m A S i k).natAbs<=iH m*M ^ m:=by
 show BD λj x b a=>?_
 unfold up bs;split
 .show h x k a d
 .show h x _ a (Ń<|lt j b)
def gR{M:Nat}(h:∀i k,i<m->k<=n->(A i k).natAbs<=M)(lt:∀i,i<m->S i<n):(dd m A S).natAbs<=iH m*M ^ m:=
 BD λj x a b=>h x _ b<|Ń<|lt j a
def qL{M C:Nat}{c:Nat->Int}(h:∀i k,i<m->k<=n->(A i k).natAbs<=M)(lt:∀i,i<m->S i<n)(e:∀k,(c k).natAbs<=C){k:Nat}(g:k<=n):(zz m A c S k).natAbs<=(m+1)*(C*(iH m*M ^ m)):=by
 unfold zz;have a:=gR h lt;have b:(sm m λi=>c (S i)*tt m A S i k).natAbs<=m*(C*(iH m*M ^ m)):=BC λi j=>by
  rw[ϭ];show Α (e _)<|ju h lt g
 have d:(dd m A S*c k).natAbs<=C*(iH m*M ^ m):=by rw[ϭ,ao5];show Α (e k) a
 have:=Int.natAbs_sub_le (dd m A S*c k)<|sm m λi=>c (S i)*tt m A S i k;rw[Ξ];omega
end Lp
namespace Pu
open PySem L2 Vc Sf
section
abbrev yz(K:ar)(C:ai)(i:Nat)(e:df)(a:a6->b8)(pe1 pe2:(Xv->Prop)->a6)(d:b8):b8:=λD j=>e `af λb=>if b=Â then rm K C i a pe1 d D j else rm K C i a pe2 d D j
def Pe(K:ar)(C:ai)(i:Nat)(e:df)(a:a6->b8)(pe1 pe2:(Xv->Prop)->a6)(d:b8)(D:Pd)(j:af):yz K C i e a pe1 pe2 d D j=(e `af λb=>if b=Â then rm K C i a pe1 d D j else rm K C i a pe2 d D j):=rfl
def TC{K:PySem.W.Frag}{k:Md}{lo i:Nat}{C:ai}{w:df}{v:a6->b8}{pe1 pe2:(Xv->Prop)->a6}{y:TS}{x:b8}{d:TE->TS}(r:lo<=i)(o:vm K k lo d v)(q:dh K k.cR lo y x):dh K k lo (yD K C i (λR'=>zk (wj K #[k.z,R',λ_=>False] w) (d<|x6 K k.z pe1 R')<|d<|x6 K k.z pe2 R') y) (yz K C i w v pe1 pe2 x):=λus l a F H j G n D g W p L=>by
 show#[F,Bq a H,G.map aI,_,#[W.e8.s,W.e8.b,W.e8.z,W.e8.e,λ_ _ _ z=>z.elim],p,λb h m p1 u=>?_];cases b with
 |true=>show Gv r o q us l a h m j G n D g (W.gr u) p1 L
 |false=>show Gv r o q us l a h m j G n D g (W.gr u) p1 L
def XE{X:Cx}{k:Md}{lo i:Nat}{x n:Str}{C:ai}{E:df}{D:a6->b8}{pe1 pe2:(Xv->Prop)->a6}{G:b8}{u:TE->TS}{c y A:đ}{H I b:ù}{a:List ù}{np d pos e:Pos}(hs:X.stack=X.env::X.outer)(Q:X.env.frame=À X.env.locals)(U:Gl X x)(hm:X.mg x=À `ag)(J:X.N.Nodup)(hl:lo<=i)(hi:X.N[i]?=À n)(hn:X.env.scope.names.lookup n=À .local)(M:vm X.K k lo u D)(h:∀pn xe g,PE `aw y g->PS `aw H (u g))(l:∀pn xe g,PE `aw A g->PS `aw I (u g))(O:∀(pn:aZ)(xe:au->ao->Prop)(R':St->XK),QT `aw #[k.z,R',λ_=>False] c E)(o:∀(pn:aZ)(xe:au->ao->Prop)(R':St->XK),(∀j,jy `av `aw j<|R' j)->∀q,QE `aw #[k.z,R',q] y<|pe1 q)(r:∀(pn:aZ)(xe:au->ao->Prop)(R':St->XK),(∀j,jy `av `aw j<|R' j)->∀q,QE `aw #[k.z,R',q] A<|pe2 q)(Y:∀v:ϐ,QB `ej k.cR lo (b::a) G)(m: ~~~(dS x)):
  QS X k lo (.Try [.If c [H] [I] e] [.ExceptHandler (À<|.Name x np) (À n) (b::a) d] [] [] pos) (yz X.K C i E D pe1 pe2 G):=
 #[_,Uy hs Q U hm J hi hn (λpn xe R' B=>uf<|Ki (O pn xe R').of (uf<|h pn xe _<|Kr<|o pn xe R' B)<|uf<|l pn xe _<|Kr<|r pn xe R' B) (λv=>(Y v).of) m,TC hl M Xk]
end
end Pu
namespace Sf
open PySem L2 Vc Pu
local macro_rules|`(tactic| walk_at "k") => `(tactic| decide +kernel)
abbrev inClass(s:ù)(j:Nat):ù:=match s with
 |.ClassDef _ _ _ a _ _ _ _ _ _ _=>a.getD j<|.Pass #[0,0,0,0]
 |_=>.Pass #[0,0,0,0]
abbrev top(i:Nat):ù:=PySem.Challenge.pw_springframe_k93_whole_clashes.main.body.getD i<|.Pass #[0,0,0,0]
nonrec abbrev Ey:ù:=top 7
nonrec abbrev DA:ù:=top 8
nonrec abbrev Ez:ù:=top 9
nonrec abbrev D5:ù:=top 10
nonrec abbrev D6:ù:=top 11
nonrec abbrev EA:ù:=top 12
nonrec abbrev D7:ù:=top 13
nonrec abbrev C0:ù:=top 19
nonrec abbrev DI:ù:=top 21
nonrec abbrev C7:ù:=top 22
nonrec abbrev C8:ù:=top 25
nonrec abbrev Dn:ù:=top 27
nonrec abbrev Dp:ù:=top 28
nonrec abbrev DJ:ù:=top 29
nonrec abbrev DT:ù:=top 32
nonrec abbrev C1:ù:=top 33
nonrec abbrev C9:ù:=top 34
nonrec abbrev EB:ù:=top 35
nonrec abbrev DK:ù:=top 36
nonrec abbrev D8:ù:=top 38
nonrec abbrev C2:ù:=top 40
nonrec abbrev DM:ù:=top 41
nonrec abbrev DL:ù:=top 42
nonrec abbrev Dq:ù:=top 43
nonrec abbrev Dj:ù:=top 44
nonrec abbrev Dr:ù:=top 46
nonrec abbrev DN:ù:=top 47
nonrec abbrev Ds:ù:=top 48
nonrec abbrev C3:ù:=top 49
nonrec abbrev DO:ù:=top 50
nonrec abbrev DP:ù:=top 51
nonrec abbrev adr:ù:=top 52
nonrec abbrev DQ:ù:=top 53
nonrec abbrev Dk:ù:=top 54
nonrec abbrev DU:ù:=top 55
nonrec abbrev DR:ù:=top 56
nonrec abbrev C4:ù:=top 57
nonrec abbrev DS:ù:=top 58
nonrec abbrev EL:ù:=top 59
nonrec abbrev DE:ù:=inClass `bC 0
nonrec abbrev acl:ù:=inClass `bC 1
nonrec abbrev De:ù:=inClass `bC 2
nonrec abbrev Df:ù:=inClass `bC 3
nonrec abbrev DB:ù:=inClass `bC 4
nonrec abbrev Dy:ù:=inClass `bC 5
nonrec abbrev C5:ù:=inClass `bC 6
nonrec abbrev Dz:ù:=inClass `bC 7
nonrec abbrev C6:ù:=inClass `bC 8
nonrec abbrev DF:ù:=inClass `aW 0
nonrec abbrev Dg:ù:=inClass `aW 1
nonrec abbrev Dt:ù:=inClass `aW 2
nonrec abbrev Du:ù:=inClass `aW 3
nonrec abbrev Dh:ù:=inClass `aW 4
nonrec abbrev DC:ù:=inClass `aW 5
nonrec abbrev DD:ù:=inClass `aW 6
nonrec abbrev Dl:ù:=inClass `aW 7
nonrec abbrev Dv:ù:=inClass `aW 9
nonrec abbrev Di:ù:=inClass `aW 10
nonrec abbrev Dw:ù:=inClass `aW 11
nonrec abbrev DG:ù:=inClass `aW 12
nonrec abbrev Dm:ù:=inClass `aW 13
nonrec abbrev Dx:ù:=inClass `aW 14
nonrec abbrev DH:ù:=inClass (top 4) 0
def XG:bT ["top","bottom","divisor"] ["top","bottom"] (bC Ey):=1e2
def ND:bT ["one","other","remainder"] ["one","other"] (bC DA):=1e2
def YC:bT ["one","other"] ["one","other"] (bC Ez):=1e2
def Vn:bT ["one","other"] ["one","other"] (bC D5):=1e2
def Vo:bT ["one","other"] ["one","other"] (bC D6):=1e2
def YD:bT ["one","other"] ["one","other"] (bC EA):=1e2
def Vp:bT ["one","other"] ["one","other"] (bC D7):=1e2
def Oy:bT ["rows","unknowns"] ["rows","unknowns"] (bC C0):=1e2
def NJ:bT ["fractions","bottom","fraction"] ["fractions"] (bC DI):=1e2
def NK:bT ["fractions","bottom"] ["fractions","bottom"] (bC C7):=1e2
def NL:bT ["rows","unknowns","sheet"] ["rows","unknowns"] (bC C8):=1e2
def Oc:bT ["rows","unknowns","numbers","sheet","missed","shown","number","price"] ["rows","unknowns","numbers"] (bC Dn):=1e2
def Od:bT ["rows","unknowns","numbers","clash","number","fewer"] ["rows","unknowns","numbers"] (bC Dp):=1e2
def TF:bT ["rows","unknowns","numbers","sheet","clash"] ["rows","unknowns","numbers"] (bC DJ):=1e2
def Pz:bT ["unknowns"] ["unknowns"] (bC DT):=1e2
def Oz:bT ["sheet","unknowns","ranks"] ["sheet","unknowns"] (bC C1):=1e2
def NM:bT ["rows","unknowns","sheet","costs"] ["rows","unknowns"] (bC C9):=1e2
def YE:bT ["rows","unknowns","sheet","settled","papers","place","goal","prices_and_shares"] ["rows","unknowns"] (bC EB):=1e2
def TH:bT ["rows","unknowns","numbers","placings","number","others"] ["rows","unknowns","numbers"] (bC DK):=1e2
def Vq:bT ["rows","unknowns","one","musts","sheet","way","prices","number","price"] ["rows","unknowns","one"] (bC D8):=1e2
def OA:bT ["rows","prices","one","price"] ["rows","prices"] (bC C2):=1e2
def Rq:bT ["weights","numbers","total","weight","number"] ["weights","numbers"] (bC DM):=1e2
def TJ:bT ["rows","prices","unknown"] ["rows","prices","unknown"] (bC DL):=1e2
def Oe:bT ["rows","unknowns","numbers","weights","chosen"] ["rows","unknowns","numbers","weights"] (bC Dq):=1e2
def N0:bT ["rows","numbers","ahead","number"] ["rows","numbers"] (bC Dj):=1e2
def Of:bT ["_law_script","_law_k"] ["_law_script","_law_k"] (bC Dr):=1e2
def Rr:bT ["_law_cell","_law_k","_law_base","_law_left","_law_step","_law_number"] ["_law_cell","_law_k"] (bC DN):=1e2
def Og:bT ["_law_one","_law_other"] ["_law_one","_law_other"] (bC Ds):=1e2
def OB:bT ["_law_top","_law_bottom","_law_both"] ["_law_top","_law_bottom"] (bC C3):=1e2
def Rt:bT ["_law_cell","_law_some","_law_way","_law_bottoms","_law_parts","_law_k","_law_name","_law_number","_law_kind","_law_rank"] ["_law_cell","_law_some","_law_way"] (bC DO):=1e2
def Ru:bT ["_law_pairs","_law_top","_law_bottom","_law_one","_law_other"] ["_law_pairs"] (bC DP):=1e2
def PB:bT ["_law_one","_law_placing","_law_pairs","_law_top","_law_bottom"] ["_law_one","_law_placing"] (bC adr):=1e2
def Pf:bT ["_law_found"] ["_law_found"] (bC DQ):=1e2
def N1:bT ["_law_found"] ["_law_found"] (bC Dk):=1e2
def PC:bT ["_law_one","_law_price"] ["_law_one","_law_price"] (bC DU):=1e2
def Pg:bT ["_law_rows","_law_some","_law_numbers","_law_weights","_law_chosen","_law_one","_law_weight","_law_name","_law_top","_law_bottom"] ["_law_rows","_law_some","_law_numbers","_law_weights"] (bC DR):=1e2
def OC:bT ["_law_rows","_law_some","_law_numbers","_law_found","_law_placing","_law_number"] ["_law_rows","_law_some","_law_numbers"] (bC C4):=1e2
def vU:bT ["_law_rows","_law_some","_law_which","_law_found","_law_clash","e"] ["_law_rows","_law_some","_law_which"] (bC DS):=1e2
def z'u:bT ["_law_script","_law_first","_law_way","_law_some","_law_rows","_law_one","_law_clash","_law_other","_law_again","_law_placing","_law_told"] ["_law_script"] (bC EL):=1e2
def NR:bT ["self","lines","solved"] ["self","lines","solved"] (bC DE):=1e2
def NF:bT ["self","costs","left","line","column","cost"] ["self","costs"] (bC acl):=1e2
def NO:bT ["self","costs","column","line"] ["self","costs"] (bC De):=1e2
def NP:bT ["self","costs","left","column"] ["self","costs"] (bC Df):=1e2
def NG:bT ["self","column","best","number","line"] ["self","column"] (bC DB):=1e2
def Nz:bT ["self","number","best","column","line","other","one_way","other_way"] ["self","number","best","column"] (bC Dy):=1e2
def OD:bT ["self","number","column","turned","middle","lines","line","entry"] ["self","number","column"] (bC C5):=1e2
def NA:bT ["self","costs","mark","left","column"] ["self","costs","mark"] (bC Dz):=1e2
def OE:bT ["self","column"] ["self","column"] (bC C6):=1e2
def NS:bT ["self","rows","unknowns","lines","solved","number","one","line","upright"] ["self","rows","unknowns"] (bC DF):=1e2
def NQ:bT ["self"] ["self"] (bC Dg):=1e2
def Oh:bT ["self","number"] ["self","number"] (bC Dt):=1e2
def Oi:bT ["self","number"] ["self","number"] (bC Du):=1e2
def N4:bT ["self","number","one","fractions","scale","entries","line"] ["self","number","one"] (bC Dh):=1e2
def NH:bT ["self","rank","costs","number","one","cost"] ["self","rank"] (bC DC):=1e2
def Ny:bT ["self","parts","costs"] ["self","parts"] (bC DD):=1e2
def N2:bT ["self","costs","scale","numbers","column","fall","left"] ["self","costs"] (bC Dl):=1e2
def Oj:bT ["self","place"] ["self","place"] (bC Dv):=1e2
def N5:bT ["self","told","place","unknown"] ["self"] (bC Di):=1e2
def Ol:bT ["self","place","left","shares","ahead","share"] ["self","place"] (bC Dw):=1e2
def NT:bT ["self","left","ahead","share","column","mark","needed"] ["self","left","ahead"] (bC DG):=1e2
def N3:bT ["self","left"] ["self","left"] (bC Dm):=1e2
def Om:bT ["self","number","left","below","above","kind","scale"] ["self","number","left"] (bC Dx):=1e2
def NU:bT ["self","numbers","weights"] ["self","numbers","weights"] (bC DH):=1e2
set_option genInjectivity false in
set_option genSizeOf false in
structure Tx(w:ü)(K:ar)(mg:bx) where
 {aaa:ai}
 MB:mg "Table"=À (.ref aaa)
 jY:g8 K aaa
 ym:bq K aaa "lines"
 yn:bq K aaa "solved"
 yo:bq K aaa "bottom"
 yp:bq K aaa "shut"
 {aah:ai}
 MC:mg "Sheet"=À (.ref aah)
 gh:g8 K aah
 sT:bq K aah "rows"
 q9:bq K aah "unknowns"
 yq:bq K aah "scales"
 yr:bq K aah "settled"
 vL:bq K aah "table"
 k4:c6 K mg "part" Ey ["top","bottom"]
 sU:c6 K mg "greatest_divisor" DA ["one","other"]
 sV:c6 K mg "plus" Ez ["one","other"]
 ra:c6 K mg "minus" D5 ["one","other"]
 nS:c6 K mg "times" D6 ["one","other"]
 sW:c6 K mg "over" EA ["one","other"]
 pw:c6 K mg "under" D7 ["one","other"]
 rb:c6 K mg "check_many" C0 ["rows","unknowns"]
 sY:c6 K mg "common_bottom" DI ["fractions"]
 sZ:c6 K mg "whole_numbers" C7 ["fractions","bottom"]
 tm:c6 K mg "settled_musts" C8 ["rows","unknowns"]
 sO:c6 K mg "shown_clash" Dn ["rows","unknowns","numbers"]
 vu:c6 K mg "least_clash" Dp ["rows","unknowns","numbers"]
 qX:c6 K mg "fitted" DJ ["rows","unknowns","numbers"]
 vv:c6 K mg "goals_of" DT ["unknowns"]
 vw:c6 K mg "goal_costs" C1 ["sheet","unknowns"]
 vx:c6 K mg "settled_sheet" C9 ["rows","unknowns"]
 vz:c6 K mg "laid" EB ["rows","unknowns"]
 vA:c6 K mg "spared" DK ["rows","unknowns","numbers"]
 vB:c6 K mg "least" D8 ["rows","unknowns","one"]
 vC:c6 K mg "signs_good" C2 ["rows","prices"]
 sP:c6 K mg "weighed" DM ["weights","numbers"]
 vD:c6 K mg "column" DL ["rows","prices","unknown"]
 vE:c6 K mg "shows_clash" Dq ["rows","unknowns","numbers","weights"]
 vF:c6 K mg "rising_musts" Dj ["rows","numbers"]
 vG:c6 K mg "_law_cell_at" Dr ["_law_script","_law_k"]
 jw:c6 K mg "_law_mix" DN ["_law_cell","_law_k"]
 sQ:c6 K mg "_law_divisor" Ds ["_law_one","_law_other"]
 qY:c6 K mg "_law_lowest" C3 ["_law_top","_law_bottom"]
 vH:c6 K mg "_law_row" DO ["_law_cell","_law_some","_law_way"]
 qZ:c6 K mg "_law_add" DP ["_law_pairs"]
 sR:c6 K mg "_law_kept" adr ["_law_one","_law_placing"]
 q0:c6 K mg "_law_whole" DQ ["_law_found"]
 sS:c6 K mg "_law_fraction" Dk ["_law_found"]
 vI:c6 K mg "_law_sign" DU ["_law_one","_law_price"]
 vJ:c6 K mg "_law_shown" DR ["_law_rows","_law_some","_law_numbers","_law_weights"]
 vK:c6 K mg "_law_spared" C4 ["_law_rows","_law_some","_law_numbers"]
 sL:c6 K mg "_law_asked" DS ["_law_rows","_law_some","_law_which"]
 nQ:c6 K mg "law" EL ["_law_script"]
 vn:ve K aaa "Table.__init__" DE ["self","lines","solved"]
 sM:fK K aaa "costs_left" "Table.costs_left" acl ["self","costs"]
 vo:fK K aaa "go_down" "Table.go_down" De ["self","costs"]
 sN:fK K aaa "falling" "Table.falling" Df ["self","costs"]
 vp:fK K aaa "first_stop" "Table.first_stop" DB ["self","column"]
 vq:fK K aaa "stops_ahead" "Table.stops_ahead" Dy ["self","number","best","column"]
 vr:fK K aaa "turn" "Table.turn" C5 ["self","number","column"]
 vt:fK K aaa "shut_rising" "Table.shut_rising" Dz ["self","costs","mark"]
 vO:fK K aaa "told" "Table.told" C6 ["self","column"]
 vP:ve K aah "Sheet.__init__" DF ["self","rows","unknowns"]
 vQ:fK K aah "columns" "Sheet.columns" Dg ["self"]
 pD:fK K aah "below" "Sheet.below" Dt ["self","number"]
 pE:fK K aah "above" "Sheet.above" Du ["self","number"]
 vR:fK K aah "line_of" "Sheet.line_of" Dh ["self","number","one"]
 tq:fK K aah "rank_costs" "Sheet.rank_costs" DC ["self","rank"]
 tw:fK K aah "sum_costs" "Sheet.sum_costs" DD ["self","parts"]
 rf:fK K aah "settle" "Sheet.settle" Dl ["self","costs"]
 rg:fK K aah "value" "Sheet.value" Dv ["self","place"]
 rh:fK K aah "placing" "Sheet.placing" Di ["self"]
 tD:fK K aah "paper" "Sheet.paper" Dw ["self","place"]
 vS:fK K aah "share_of" "Sheet.share_of" DG ["self","left","ahead"]
 tE:fK K aah "prices" "Sheet.prices" Dm ["self","left"]
 vT:fK K aah "price" "Sheet.price" Dx ["self","number","left"]
 {abp:ai}
 g9:mg "NOUGHT"=À (.ref abp)
 hG:CU K abp (([0,1]:aC).map V.int)
 {abt:ai}
 MN:mg "ONE"=À (.ref abt)
 MO:CU K abt (([1,1]:aC).map V.int)
 {abw:Tok}
 tF:mg "MUST"=À (.int (0) abw)
 {aby:Tok}
 CZ:mg "MOST_RANK"=À (.int (4) aby)
 {abA:Tok}
 MH:mg "MOST_ROWS"=À (.int (16) abA)
 {abC:Tok}
 MI:mg "MOST_UNKNOWNS"=À (.int (8) abC)
 {abE:ai}
 MJ:mg "FrameError"=À (.ref abE)
 {abG:ai}
 MK:mg "TooMany"=À (.ref abG)
 ML:ac6 K abG [.type "ValueError",.type "Exception",.type "BaseException",.type "object"] "ValueError.__new__"=Â
 {abJ:ai}
 CV:mg "Clash"=À `cn
 {abL:ai}
 abM:mg "NoPart"=À (.ref abL)
 ky:yg K abJ abE "Clash.__init__" DH ["self","numbers","weights"]
 yt:ą K `cn "numbers"=À Ä
 yu:ą K `cn "weights"=À Ä
 vM:i8 K abJ
 CW:W.exmOne K `cn `cn=À Â
 yv:mg "abs"=Ä
 fO:mg "len"=Ä
 mQ:mg "range"=Ä
 pA:mg "isinstance"=Ä
 MM:mg "tuple"=Ä
 fA:mg "list"=Ä
 CY:mg "any"=Ä
 vN:mg "all"=Ä
 pz:mg "enumerate"=Ä
 kx:mg "zip"=Ä
 MD:mg "reversed"=Ä
 ME:mg "int"=Ä
 MF:mg "dict"=Ä
 MG:mg "bool"=Ä
section
variable{P:é}{w:ü}{K:ar}{mg:bx}{base:aU}(T:Tx w K mg)
@[inline] def KR:String:="z'o Pe WS z's WT Tz P8 P7 Tt Ov SG VR SH SI VS Pc Sy Pb Sq P1 O8 O9 P4 VP VQ Pa P5 OP OO z'g Sr pO P6 Ss cI gA jE eO gC Zj Zk Zl RH Pj RI RJ Zm RK VX RL Pk RM Pl VY RN Pm RO Pn RP OQ P9 Zo OR Qa VZ OS Ou V0 RQ RS V1 V2 V3 SJ SK SM Qb SN Qc Qd V4 V5 V6 OT OU Qe Qf Gi SO Qg Qh OV Qi Gj SQ Qj Qk Gk Ql Qm Gm SR Qn Qo Gn SS Qp Qq Qr Qs Qt Qu Qv Qw Qx Qy SU PN PQ V7 PR PU PV PX SV Zq PY Wi Vu VF VG VH VI VJ l9 ag6 SW V8 V9 Zp Wa Wb Wc Wd We Wf Wg VO Si Sj VM P0 Sg UL UK UJ UM Sh z'd VN Æ VL Ta Tb Tc Td FW O6 iT PZ Bh SY S2 iZ S3 S4 Am Vv w_lt Zr Vw Vx z'a Vy Vz VA VB VC S5 S6 S7 lp VD VE S8 S9 Nq Nr WQ WR List.getElem?_cons_succ List.getElem?_cons_zero List.set_cons_zero List.set_cons_succ dA bj cT b5 cj Ϣ if_true if_false true_and aa1 ad9 Ò Nat.reduceSub Ý ϕ Nat.reduceAdd Nat.reduceLeDiff decide_true decide_false Bool.not_true Bool.not_false ϻ OW O5 SX Wh VT VU r6 ko jF jf kN Kh qg uP nu fq VW RE RF RG ID G3 G4 wJ Ph Tr.int.injEq"
local macro_rules |`(tactic|rfl')=>do
 let a:=((KR++" Zn").splitOn " ").toArray.map λx=>Lean.mkIdent x.toName
 `(tactic|simp only[$[$a:ident],*])
local macro_rules |`(tactic|walk_at "q")=>do
 let a:=(KR.splitOn " ").toArray.map λx=>Lean.mkIdent x.toName
 `(tactic|simp only[$[$a:ident],*])
abbrev dO:Fl->Fl |.o=>.l Â |.f=>.f |.l b=>.l b
abbrev d9:Fl->Fl |.o=>.o |.f=>.f |.l _=>.l Å
instance:ae (bR):=#[λo=>match o with |none=>.aM |some n=>.int n,λo=>by cases o<;>rfl,λo z=>by cases o<;>cases z]
abbrev mT(m:a8):bG:=m.map λp=>(p.1,ae.t p.2)
structure iq where
 ls:List (aC)
 so:aC
 bt:Int
 m:a8
structure iS where
 rs:av
 us:aj
 sc:aC
 ss:bW
 tb:iq
abbrev gI(f:Fl)(S:iq):bz:=[("lines",ae.t S.ls),("solved",.ah f ↥S.so),("bottom",.int S.bt),("shut",.aT f<|mT S.m)]
abbrev cK(f:Fl)(S:iq):Tr:=.ins f T.aaa<|gI f S
abbrev iN(f:Fl)(S:iS):bz:=[("rows",ae.t S.rs),("unknowns",ae.t S.us),("scales",.ah f ↥S.sc),("settled",.ah f ↥S.ss),("table",cK T f S.tb)]
abbrev cF(f:Fl)(S:iS):Tr:=.ins f T.aah<|iN T f S
abbrev lW(f:Fl)(rs:av)(us:aj)(sc:aC):bz:=[("rows",ae.t rs),("unknowns",ae.t us),("scales",.ah f ↥sc),("settled",.ah f [])]
abbrev i5(f:Fl)(rs:av)(us:aj)(sc:aC):Tr:=.ins f T.aah<|lW f rs us sc
abbrev vd(C:ai)(g:Nat):Prop:=C=T.aaa/\g=0
abbrev yf(C:ai)(g:Nat):Prop:=C=T.aah/\g=0
def mD{x q:Str}{st:ù}{ps:aj}{m lo n:Nat}{z:Bool}{g:gK}(r:fK K T.aaa x q st ps)(G:aG P w K mg base bJ m r.a r.d ps `bK):∀C i,vd T C i->gw P w K mg base bJ m x C ps `bK:=λC i h=>by
 let#[rfl,rfl]:=h;show#[T.jY,_,_,r.t,G,r.b]
def eF{x q:Str}{st:ù}{ps:aj}{m lo n:Nat}{z:Bool}{g:gK}(r:fK K T.aah x q st ps)(G:aG P w K mg base bJ m r.a r.d ps `bK):∀C i,yf T C i->gw P w K mg base bJ m x C ps `bK:=λC i h=>by
 let#[rfl,rfl]:=h;show#[T.gh,_,_,r.t,G,r.b]
def BW[ae j](f:Fl)(xs:List j):aI (.ah f ↥xs)=.ah `cu ↥xs:=by
 cases f with
 |f=>rfl
 |o=>change Tr.ah _ (dA _)=_;rw[Kh];rfl
 |l b=>rfl
def BX[ae j](f:Fl)(xs:List j):dn (.ah f ↥xs)=.ah `dy ↥xs:=by
 cases f with
 |f=>change Tr.ah .f (cT _)=_;rw[uP];rfl
 |o=>change Tr.ah .o (cT _)=_;rw[uP];rfl
 |l b=>change Tr.ah `bd (cT _)=_;rw[uP];rfl
def Ln(f:Fl):aI (.ah f [])=.ah `cu []:=by cases f<;>rfl
def Lo(f:Fl):dn (.ah f [])=.ah `dy []:=by cases f<;>rfl
def Mn(f:Fl)(m:a8):aI (.aT f<|mT m)=.aT `cu `es:=by
 cases f with
 |f=>rfl
 |o=>change Tr.aT _ (eN _)=_;rw[show eN `es=mT m from (cq _<|k9 m).l];rfl
 |l b=>rfl
def Mo(f:Fl)(m:a8):dn (.aT f<|mT m)=.aT `dy `es:=by
 have e:i4 `es=mT m:=(cq _<|k9 m).d;cases f with
 |f=>change Tr.aT .f (i4 _)=_;rw[e];rfl
 |o=>change Tr.aT .o (i4 _)=_;rw[e];rfl
 |l b=>change Tr.aT `bd (i4 _)=_;rw[e];rfl
def BY(f:Fl)(c:ai)(fs:bz)(h:f=.o\/cI fs=fs):aI `aH=.ins `cu c (cI fs):=by
 rcases h with rfl |h
 .rfl
 .cases f with
  |o=>rfl
  |f=>change Tr.ins .f c fs=_;rw[h];rfl
  |l b=>change Tr.ins (.l b) c fs=_;rw[h];rfl
def BZ(f:Fl)(c:ai)(fs:bz):dn `aH=.ins `dy c (jE fs):=by cases f<;>rfl
def jd(f:Fl)(S:iq):aI `eF=cK T `cu S:=by
 have e:cI (gI f S)=gI `cu S:=by simp only[gI,cI,Mn,BW,Gi,r6]
 unfold cK;rw[BY _ _ _ ?_,e];cases f with
 |o=>show .inl rfl
 |f=>show .inr e
 |l b=>show .inr e
def jD(f:Fl)(S:iq):dn `eF=cK T `dy S:=by
 unfold cK gI;rw[BZ];simp only[jE,Mo,BX,Gk,jF]
def fu(f:Fl)(S:iS):aI `bf=cF T `cu S:=by
 have e:cI (iN T f S)=iN T `cu S:=by simp only[iN,cI,BW,jd,r6]
 unfold cF;rw[BY _ _ _ ?_,e];cases f with
 |o=>show .inl rfl
 |f=>show .inr e
 |l b=>show .inr e
def fG(f:Fl)(S:iS):dn `bf=cF T `dy S:=by
 unfold cF iN;rw[BZ];simp only[jE,BX,jD,jF]
def K7(f:Fl)(rs:av)(us:aj)(sc:aC):aI `aT=i5 T `cu rs us sc:=by
 have e:cI (lW f rs us sc)=lW `cu rs us sc:=by simp only[lW,cI,BW,Ln,r6]
 unfold i5;rw[BY _ _ _ ?_,e];cases f with
 |o=>show .inl rfl
 |f=>show .inr e
 |l b=>show .inr e
def Cz(f:Fl)(rs:av)(us:aj)(sc:aC):dn `aT=i5 T `dy rs us sc:=by
 unfold i5 lW;rw[BZ];simp only[jE,BX,Lo,jF]
def hV(f:Fl)(S:iq)(Q:ay):pV (À<|cK T f S) Q=Q `eF:=rfl
def dW(f:Fl)(S:iS)(Q:ay):pV (À<|cF T f S) Q=Q `bf:=rfl
def CA(f:Fl)(rs:av)(us:aj)(sc:aC)(Q:ay):pV (À<|i5 T f rs us sc) Q=Q `aT:=rfl
def Mp(m:a8):cP (.aT .o<|mT m)=Â:=(cq _<|k9 m).o
def se[ae j](xs:List j):cP (.ah .o ↥xs)=Â:=nu xs
def Mq(m:a8):bX (.aT .o<|mT m)=Â:=(cq _<|k9 m).t
def kL[ae j](xs:List j):bX (.ah .o ↥xs)=Â:=fq xs
def uW(T:Tx w K mg)(S:iq):cP `dY=Â:=by
 unfold cK gI;rw[A7];simp only[eO,Mp,se,jf,Gm,Ϣ]
def K8(T:Tx w K mg)(S:iq):bX `dY=Â:=by
 unfold cK gI;rw[GV];simp only[gC,Mq,kL,kN,Gn,Ϣ]
def qu(T:Tx w K mg)(S:iS):cP `dZ=Â:=by
 unfold cF iN;rw[A7];simp only[eO,se,uW,jf,Ϣ]
def sq(T:Tx w K mg)(S:iS):bX `dZ=Â:=by
 unfold cF iN;rw[GV];simp only[gC,kL,K8,kN,Ϣ]
def Mr(rs:av)(us:aj)(sc:aC):cP (i5 T .o rs us sc)=Â:=by
 unfold i5 lW;rw[A7];simp only[eO,se,jf,show cP (.ah .o [])=Â from rfl,Ϣ]
section
variable(T:Tx w K mg){f:Fl}{S:iS}{B:iq}{Q:ay}{rs:av}{us:aj}{sc:aC}
def pZ(q:Q (.ah .f ↥B.ls)):iX K "lines" `co Q:=i2 #[T.jY,T.ym] gp q
def uc(q:Q (.ah f ↥B.so)):iX K "solved" `co Q:=i2 #[T.jY,T.yn] (cM gp) q
def wQ(q:Q (.int B.bt)):iX K "bottom" `co Q:=i2 #[T.jY,T.yo] (cM<|cM gp) q
def AE(q:Q (.aT f<|mT B.m)):iX K "shut" `co Q:=i2 #[T.jY,T.yp] (cM<|cM<|cM gp) q
def xi(q:Q (.ah .f ↥S.rs)):iX K "rows" `bf Q:=i2 #[T.gh,T.sT] gp q
def FU(q:Q (.ah .f ↥S.us)):iX K "unknowns" `bf Q:=i2 #[T.gh,T.q9] (cM gp) q
def Gz(q:Q (.ah f ↥S.sc)):iX K "scales" `bf Q:=i2 #[T.gh,T.yq] (cM<|cM gp) q
def rG(q:Q (.ah f ↥S.ss)):iX K "settled" `bf Q:=i2 #[T.gh,T.yr] (cM<|cM<|cM gp) q
def An(q:Q (cK T f S.tb)):iX K "table" `bf Q:=i2 #[T.gh,T.vL] (cM<|cM<|cM<|cM gp) q
def YF(q:Q (.ah .f ↥rs)):iX K "rows" `aT Q:=i2 #[T.gh,T.sT] gp q
def PD(q:Q (.ah .f ↥us)):iX K "unknowns" `aT Q:=i2 #[T.gh,T.q9] (cM gp) q
def oh{n:Str}{R:Nat->Prop}(q:R 0)(a:(n == ("lines":Str))=Å:=by walk_at "k")(b:(n == ("solved":Str))=Å:=by walk_at "k")(d:(n == ("bottom":Str))=Å:=by walk_at "k")(e:(n == ("shut":Str))=Å:=by walk_at "k"):jc (vd T) n `co R:=Bw #[rfl,rfl] (cM `di a) q
def fD{n:Str}{R:Nat->Prop}(q:R 0)(a:(n == ("rows":Str))=Å:=by walk_at "k")(b:(n == ("unknowns":Str))=Å:=by walk_at "k")(d:(n == ("scales":Str))=Å:=by walk_at "k")(e:(n == ("settled":Str))=Å:=by walk_at "k")(g:(n == ("table":Str))=Å:=by walk_at "k"):jc (yf T) n `bf R:=Bw #[rfl,rfl] (cM (cM (cM (cM (cM BF g) e) d) b) a) q
def uA{n:Str}{R:Nat->Prop}(q:R 0)(a:(n == ("rows":Str))=Å:=by walk_at "k")(b:(n == ("unknowns":Str))=Å:=by walk_at "k")(d:(n == ("scales":Str))=Å:=by walk_at "k")(e:(n == ("settled":Str))=Å:=by walk_at "k"):jc (yf T) n `aT R:=Bw #[rfl,rfl] (cM `di a) q
end
def oj{f g:Str}{v u:Tr}{r:bz}(h:(g == f)=Å:=by walk_at "k"):jb g u ((f,v)::r)=(f,v)::jb g u r:=by
 change (if f=g then _ else _)=_;rw[au3 λz=>by rw[z,av0] at h;cases h]
def uB{f:Str}{v u:Tr}{r:bz}:hU f u ((f,v)::r)=(f,u)::r:=by
 change (if f=f then _ else _)=_;rw[au4 rfl]
def ke{f g:Str}{v u:Tr}{r:bz}(h:(g == f)=Å:=by walk_at "k"):hU g u ((f,v)::r)=(f,v)::hU g u r:=by
 change (if f=g then _ else _)=_;rw[au3 λz=>by rw[z,av0] at h;cases h]
def z'x(S:iq)(a:a8):hU "shut" (.aT .o<|mT a) (gI .o S)=gI .o { S with m:=a }:=by
 unfold gI;rw[ke,ke,ke,uB]
def IA(S:iS)(B:iq):hU "table" (cK T .o B) (iN T .o S)=iN T .o { S with tb:=B }:=by
 unfold iN;rw[ke,ke,ke,ke,uB]
def YG(S:iS)(a:bW):hU "settled" (.ah .o ↥a) (iN T .o S)=iN T .o { S with ss:=a }:=by
 unfold iN;rw[ke,ke,ke,uB]
def z'y(rs:av)(us:aj)(sc a:aC):hU "scales" (.ah .o ↥a) (lW .o rs us sc)=lW .o rs us a:=by
 unfold lW;rw[ke,ke,uB]
def KH(S:iS):Tr.ins `ca T.aah (cI<|iN T .o S)=cF T `ca S:=fu T .o S
def hW{f:Fl}[h:Fp f]:dO f=f:=by cases h<;>rfl
def je{f:Fl}[h:Fp f]:d9 f=f:=by cases h<;>rfl
def z'z(m:a8)(y:aW)(k:bR):j9 `es y (ae.t k)=mT (if (m.any λp=>decide<|p.1=y)=Â then m.map (λp=>if p.1=y then (p.1,k) else p) else m++[(y,k)]):=by
 unfold j9;have e:((mT m).any λa=>decide<|a.1=y)=m.any λp=>decide (p.1=y):=by unfold mT;rw[an3];rfl
 rw[e];split
 .unfold mT;rw[ð,ð];show Ģ λp _=>?_
  change (if p.1=y then (p.1,ae.t k) else (p.1,ae.t p.2))=((if p.1=y then (p.1,k) else p).1,ae.t (if p.1=y then (p.1,k) else p).2)
  split<;>rfl
 .unfold mT;rw[ß];rfl
def Fv{z:Bool}:aG P w K mg base bJ 1 T.sU.a T.sU.d ["one","other"] (bU K z 0 2 uM):=by
 show cu T.sU.F ND rfl ∎ ?_
 intros
 show#[_,(aK (BL (b7 iB iu `bX aD) (aK (bM 2<|fW (qv 0)<|qv 1)
  (aK (bM 0<|qv 1)
  (aV<|bM 1<|qv 2))))
  (aV<|bI<|qv 0)),?_]
 intro r o _ zy;let#[_,a,b,rfl,i,l,q]:=zy;show#[λm j=>∃x y z,j=[.int x,.int y,z]/\0<=x/\0<=y/\gd x y=gd a b/\m=y.toNat,#[_,a,b,.aq,rfl,i,l,rfl,rfl],?_];intro m j zy;let#[x,y,z,rfl,h,n,e,rfl]:=zy;rfl';by_cases g:y=0
 .subst g;rfl';rw[<- e,Ws x h] at q;show q _
 .rw[au4<|by simp[g]];show#[⋯,?_];show#[(x % y).toNat,?_,_,_,_,rfl,n,Ď _ g,?_,rfl]
  .have:=ÿ x (show 0<y by omega);have:=Ď x g;omega
  .rw[Zt h ⋯];show e
def oq{z:Bool}:aG P w K mg base bJ 2 T.k4.a T.k4.d ["top","bottom"] (bU K z 0 2 lN):=by
 show cu T.k4.F XG rfl ∎ ?_
 intros
 show#[_,(aK (cB (b7 eI eG `bX aD) (aV uj) cA)
  (aK (bM 2<|qc T.sU (Fv T)<|ak (dN Ad AM T.yv<|ak (qv 0) aA)<|ak (dN Ad AM T.yv<|ak (qv 1) aA) aA)
  (aK (cB (b7 kH kD `bX aD) (aV<|bM 2<|ia<|qv 2) cA)
  (aV<|bI<|gn<|ak (kh (qv 0)<|qv 2)<|ak (kh (qv 1)<|qv 2) aA)))),?_]
 intro l i _ zy;let#[_,a,b,rfl,e,g,q]:=zy;rfl';rw[au3<|by simp[e]];show#[rfl,_,_,rfl,by split<;>omega,by split<;>omega,λj=>?_];rw[Wt];rw[KG,<- Hf e,<- Hg e] at q;unfold dv at q;by_cases h:b<0
 .rw[au4 h] at q;rw[au4<|au6 h];rfl';show#[G6 e g,G6 e g,q _]
 .rw[au3 h] at q;rw[au3<|by simp[h]];rfl';show#[xc e g,xc e g,q _]
def IE{z:Bool}:aG P w K mg base bJ 3 T.sV.a T.sV.d ["one","other"] (bU K z 0 2 (jO (·+·))):=by
 show cu T.sV.F YC rfl ∎ ?_
 intros
 show#[_,(aV<|bI<|qc T.k4 (oq T)<|ak (d8 (dC (a7 (qv 0) aD)<|a7 (qv 1) aD)<|dC (a7 (qv 1) aD)<|a7 (qv 0) aD)<|ak (dC (a7 (qv 0) aD)<|a7 (qv 1) aD) aA),?_];intro h g _ zy;let#[_,a,b,rfl,e,q]:=zy;rfl';show#[fm (i1 a) `dz ⋯,fm (i1 b) `dA ⋯,fm `dA `dz ⋯,rfl,_,_,rfl,uh a b,Ay a b e,λj=>?_];rw[<- QR];show#[jf _,q _]
def Ao{z:Bool}:aG P w K mg base bJ 3 T.ra.a T.ra.d ["one","other"] (bU K z 0 2 (jO (· - ·))):=by
 show cu T.ra.F Vn rfl ∎ ?_
 intros
 show#[_,(aV<|bI<|qc T.k4 (oq T)<|ak (qi (dC (a7 (qv 0) aD)<|a7 (qv 1) aD)<|dC (a7 (qv 1) aD)<|a7 (qv 0) aD)<|ak (dC (a7 (qv 0) aD)<|a7 (qv 1) aD) aA),?_];intro h g _ zy;let#[_,a,b,rfl,e,q]:=zy;rfl';show#[fm (i1 a) `dz ⋯,fm (i1 b) `dA ⋯,fm `dA `dz ⋯,rfl,_,_,rfl,uh a b,Ay a b e,λj=>?_];rw[<- Gf];show#[jf _,q _]
def ur{z:Bool}:aG P w K mg base bJ 3 T.nS.a T.nS.d ["one","other"] (bU K z 0 2 (jO (·*·))):=by
 show cu T.nS.F Vo rfl ∎ ?_
 intros
 show#[_,(aV<|bI<|qc T.k4 (oq T)<|ak (dC (a7 (qv 0) aD)<|a7 (qv 1) aD)<|ak (dC (a7 (qv 0) aD)<|a7 (qv 1) aD) aA),?_];intro h g _ zy;let#[_,a,b,rfl,e,q]:=zy;rfl';show#[fm (i1 a) (i1 b) ⋯,fm `dA `dz ⋯,rfl,_,_,rfl,uh a b,Ay a b e,λj=>?_];rw[<- Gg];show#[jf _,q _]
def wX{z:Bool}:aG P w K mg base bJ 1 T.pw.a T.pw.d ["one","other"] (bU K z 0 2 gW):=by
 show cu T.pw.F Vp rfl ∎ ?_
 intros
 show#[_,(aV<|bI<|fL kH kD (dC (a7 (qv 0) aD)<|a7 (qv 1) aD)<|dC (a7 (qv 1) aD)<|a7 (qv 0) aD),?_];intro h e _ zy;let#[_,a,b,rfl,g,q]:=zy;rfl';show#[fm (i1 a) `dz ⋯,fm (i1 b) `dA ⋯,?_];rw[decide_eq_decide.mpr<|Uc a b];show q _
def Ga(a b:Rat):Ë (a.num*(b.den:Int)) ((a.den:Int)*b.num)=a / b:=by
 rw[<- Ĺ,ag1,Ĝ,Rat.inv_def]
inductive lM(xs:af)(Q:Tr->aB):Prop
 |mk(_:↑xs=2)(a b:Rat)(_:xs=[ae.t a,ae.t b])(_:b ≠ 0)(_:bs a+bs b<=7990)(_:∀j,Q (ae.t (a / b)) j):lM xs Q
def IF{z:Bool}:aG P w K mg base bJ 3 T.sW.a T.sW.d ["one","other"] (bU K z 0 2 lM):=by
 show cu T.sW.F YD rfl ∎ ?_
 intros
 show#[_,(aK (cB (b7 eI eG (a7 `bX aD) aD) (aV uj) cA)
  (aV<|bI<|qc T.k4 (oq T)<|ak (dC (a7 (qv 0) aD)<|a7 (qv 1) aD)<|ak (dC (a7 (qv 0) aD)<|a7 (qv 1) aD) aA)),?_]
 intro i g _ zy;let#[_,a,b,rfl,e,h,q]:=zy;have hn:b.num≠0:=λz=>e<|Rat.num_eq_zero.mp z
 rfl';rw[au3<|by simp[hn]];show#[fm (i1 a) `dz ⋯,fm `dA (i1 b) ⋯,rfl,_,_,rfl,Ϭ (by have:=a.den_nz;omega) hn,Ï `bb (by have:=gx a;have:=i1 b;omega),λj=>?_];rw[Ga];show#[jf _,q _]
inductive lL(T:Tx w K mg)(xs:af)(Q:Tr->aB)(q:Xv->Prop):Prop
 |mk(_:↑xs=2)(f g:Fl)(rs:av)(us:aj)(_:Fp f)(_:Fp g)(_:xs=[.ah f ↥rs,.ah g ↥us])(_:16<↑rs\/8<↑us->q (.ref T.abG))(_:↑rs<=16->↑us<=8->∀j,Q .aM j):lL T xs Q q
def zN{z:Bool}:aG P w K mg base `aZ 1 T.rb.a T.rb.d ["rows","unknowns"] (iO K z 0 2<|lL T):=by
 show r9 T.rb.F Oy rfl ∎ λbK A outer s H E q n o m=>?_
 show#[_,(aV<|cB (QW.t<|jA (b7 nv ng (dN fM fN T.fO<|ak (qv 0) aA)<|ny T.MH)<|kd<|b7 nv ng (dN fM fN T.fO<|ak (qv 1) aA)<|ny T.MI) (aV<|Xl rfl rfl rfl rfl rfl rfl T.MK PySem.F.excBase_ValueError T.ML gm) cA),?_];intro r i _ zy;let#[_,f,g,rs,us,_,_,rfl,b,e]:=zy;rfl';split
 .rename_i c;show b (.inl (by have:=au8 c;omega))
 .rename_i c;have j:¬ (16:Int)<(↑rs:Int):=λh=>c<|au6 h
  split
  .rename_i c2;show b (.inr (by have:=au8 c2;omega))
  .rename_i c2;have l:¬ (8:Int)<(↑us:Int):=λh=>c2<|au6 h
   show e ⋯ ⋯ _
abbrev xQ(m n:Nat)(A:aN)(S:Nat->Nat):List (aC):=(È m).map λi=>(È<|n+1).map<|Lp.tt m A S i
abbrev qH(m:Nat)(S:Nat->Nat):aC:=(È m).map λi=>(S i:Int)
abbrev cS(m n:Nat)(A:aN)(S:Nat->Nat)(mk:a8):iq:=#[xQ m n A S,qH m S,Lp.dd m A S,mk]
structure Sz(m n:Nat)(A:aN):Prop where
 hm:m<=16
 hn:n<=60
 t:∀S i k,(∀i,i<m->S i<n)->k<=n->bi (Lp.tt m A S i k)<=3000
 d:∀S,(∀i,i<m->S i<n)->bi (Lp.dd m A S)<=3000
abbrev cf(ns:aC):Nat->Int:=λk=>ns.getD k 0
abbrev pK(ns:aC)(n:Nat):Prop:=↑ns=n/\∀c∈ns,bi c<=3000
def rJ{n i j:Nat}(h:(È n)[i]?=À j):j<n/\i=j:=by
 let#[a,b]:=Á.mp h;rw[as5] at b;rw[Ü] at a;omega
def fB{xs:List j}{s:Nat}{x:j}(h:xs[s]?=À x):c8 xs (s:Int)=À x:=by
 let#[a,e]:=Á.mp h;rw[ux xs ⋯ (by simpa using a)];simp[e]
def eH[ae j](xs:List j):Pu.aE (.ah .o ↥xs)=ae.t xs:=by change Tr.ah .f (bj _)=_;rw[qg];rfl
def IG[ae j](h:i->List j):∀vs:List i,bj (vs.map λv=>.ah .o<|(h v).map ae.t)=(vs.map h).map ae.t
 |[]=>rfl
 |v::vs=>by
  change Pu.aE (.ah .o<|(h v).map ae.t)::bj (vs.map λv=>.ah .o<|(h v).map ae.t)=ae.t (h v)::(vs.map h).map ae.t;rw[IG h vs];change Tr.ah .f (bj _)::_=_;rw[qg];rfl
def IH[ae j](h:i->List j):∀vs:List i,cj (vs.map λv=>.ah .o<|(h v).map ae.t)=Â
 |[]=>rfl
 |v::vs=>by
  change (bX (.ah .o<|(h v).map ae.t)&&cj (vs.map λv=>.ah .o<|(h v).map ae.t))=Â;rw[IH h vs,kL];rfl
inductive oN(T:Tx w K mg)(xs:af)(Q:Tr->aB):Prop
 |mk(_:↑xs=3)(f g:Fl)(ls:List (aC))(so:aC)(_:Fp f)(_:Fp g)(_:xs=[.ins .o T.aaa [],.ah f ↥ls,.ah g ↥so])(_:↑ls<=100)(_:∀j:af,j[0]?=À (cK T .o ⟨ls,so,1,[]⟩)->Q .aM j):oN T xs Q
def NV{z:Bool}:aG P w K mg base bJ 1 T.vn.a T.vn.d ["self","lines","solved"] (bU K z 1 3<|oN T):=by
 show cu T.vn.F NR rfl ∎ ?_
 intros
 show#[_,(aK (xh `cJ<|gg ["line"] [Ä] (dY<|qv 1) (c7 0) (λ_ _ _ _ _=>(iE (iC rfl) ir T.fA<|ak (qv 0) aA)))
  (aK (qd `cJ<|iE (iC rfl) ir T.fA<|ak (qv 2) aA)
  (aK (qd `cJ aD)
  (aV<|qd (dy 0) xt)))),?_]
 intro i e _ zy;let#[_,f,g,ls,so,_,_,rfl,h,q]:=zy;rfl';show aY.nG ls _ (λl=>.ah .o ↥l) ⋯ (λl m R b=>?_) ?_
 .rfl';show b
 rw[show Pu.aE (.ah .o<|ls.map λl=>.ah .o ↥l)=.ah .f (bj<|ls.map λl=>.ah .o ↥l) from rfl,IG<|λl=>l,List.map_id'];show#[IH (λl=>l) ls,#[T.jY,T.ym],∎,#[T.jY,T.yn],∎,#[T.jY,T.yo],by (repeat first |rw[pO] |rw[oj]);show (by decide:2<900),rfl,#[T.jY,T.yp],by (repeat first |rw[pO] |rw[oj]);show (by decide:3<900),q _ ?_]
 (repeat first |rw[pO] |rw[oj])
 rfl
def Vr(ns:aC)(d:Int)(S:Nat->Nat)(t:aN)(h:↑ns=n):ns.map (λc=>c*d)++[0]=(È<|n+1).map λk=>d*cf ns k - Lp.sm 0 λj=>cf ns (S j)*t j k:=by
 apply Ŋ;intro k;rw[Î,aq3,Æ,h];by_cases q:k<n
 .rw[au4 q,Î,ò ⋯,Ð ⋯];simp only[ϥ,cf,Lp.sm,Int.sub_zero,Ç,Ð (show k<↑ns by omega),ag6,ϴ]
 .rw[au3 q];by_cases e:k=n
  .subst e;rw[ò ⋯];simp[cf,Lp.sm,Ç,ì (show ↑ns<=k by omega)]
  .rw[ì (show (È<|n+1).length<=k by rw[Ü];omega),ì (by simp;omega)];rfl
def YH(n:Nat)(a:Nat->Int)(v:Int)(t:Nat->Int):ϯ (λx y=>x - v*y) ((È<|n+1).map a) ((È<|n+1).map t)=(È<|n+1).map λk=>a k - v*t k:=by
 rw[ah8,at8]
def ZS{ns:aC}{n:Nat}(h:pK ns n)(k:Nat):bi (cf ns k)<=3000:=by
 unfold cf;rw[Ç];by_cases q:k<↑ns
 .rw[Ð q];show h.2 _<|Ϛ q
 .rw[ì ⋯];decide
def Lq{ns:aC}{n k:Nat}(h:↑ns=n)(a:k<n):ns[k]?=À (cf ns k):=by
 unfold cf;rw[Ç,Ð ⋯];rfl
def Lr(m n:Nat)(M:aN)(S:Nat->Nat)(mk:a8):(cS m n M S mk).ls.zip (cS m n M S mk).so=(È m).map λi=>((È<|n+1).map<|Lp.tt m M S i,(S i:Int)):=by
 change List.zip ((È m).map _) ((È m).map _)=_;rw[Ŭ,ah8,at8]
inductive jj(T:Tx w K mg)(xs:af)(Q:Tr->aB):Prop
 |mk(_:↑xs=2)(f g:Fl)(m n:Nat)(M:aN)(S:Nat->Nat)(mk:a8)(ns:aC)(_:Fp f)(_:Fp g)(_:xs=[cK T f (cS m n M S mk),.ah g ↥ns])(_:Sz m n M)(_:∀i,i<m->S i<n)(_:pK ns n)(_:∀j,Q (ae.t ((È (n+1)).map (Lp.zz m M (cf ns) S))) j):jj T xs Q
def Fw{z:Bool}:aG P w K mg base bJ 1 T.sM.a T.sM.d ["self","costs"] (bU K z 0 2<|jj T):=by
 show cu T.sM.F NF rfl ∎ ?_
 intros
 show#[_,(aK (bM 2<|d8 (gg ["cost","self"] [Ä,À 0] (dY<|qv 1) (c7 0) (λ_ _ _ _ _=>(dC (qv 0)<|cV K<|qv 1)))<|eZ<|ak aD aA)
  (aK (fk (kI T.kx<|ak (cV K<|qv 0)<|ak (cV K<|qv 0) aA) (gO (n:=2) rfl<|dz (cD 3)<|dz (cD 4) gL) (aK (bM 5<|a7 (qv 1)<|qv 4)
  (aV<|cB (b7 iB iu (qv 5) aD) (aV<|mY 2 ["one","other","cost"] [Ä,Ä,À 5] (kI T.kx<|ak (qv 2)<|ak (qv 3) aA) (qr (n:=2) rfl<|jC (c7 0)<|jC (c7 1) pP) (λ_ _ _ _ _=>(qi (qv 0)<|dC (qv 2)<|qv 1))) cA)))
  (aV<|bI<|qv 2))),?_]
 intro I H _ zy;let#[_,f,g,m,n,M,S,mk,ns,_,_,rfl,h,v,x,q]:=zy;have hn:=h.hn;have hm:=h.hm;have A:=x.1;have hd:=h.d S v;rfl';simp only[jd,hW,hV];show aY.map ns _ (λc=>c*Lp.dd m M S) ⋯ (λc D R r=>?_) ?_
 .rfl';simp only[hV];show wQ T ?_;rfl';show#[fm (x.2 c D) hd ⋯,r]
 rfl';show#[⋯,pZ T<|uc T ?_];rfl';rw[Vr ns (Lp.dd m M S) S (Lp.tt m M S) A];rw[Lr,ð];show Loop.map (È m) _ (λi G=>∃y z u,G=[cK T f<|cS m n M S mk,.ah g ↥ns,ae.t<|(È<|n+1).map λk=>Lp.dd m M S*cf ns k - Lp.sm i λj=>cf ns (S j)*Lp.tt m M S j k,y,z,u]) #[_,_,_,rfl] ?_ ?_
 .rintro i j G hj ⟨y,z,u,rfl⟩;let#[B,rfl]:=rJ hj;dsimp only[ab8];rfl';show dG _ _ _ (fB<|Lq A<|v i B) ?_;rfl';by_cases o:cf ns (S i)=0
  .rw[au3<|by simp[o]];simp only[Lp.sm,o,ů,ao0];show#[_,_,_,rfl]
  .rw[au4 (by simp[o]),gE,gE,lp,lp,wJ];show aY.map _ _ (λp=>p.1 - cf ns (S i)*p.2) (by rw[ad7,Æ,Ü];omega) (λp E R r=>?_) ?_
   .rfl';let#[k,C,e]:=á.mp (Ķ E).2;rw[ħ] at C;show#[fm (ZS x _) (e ▸ h.t S i k v ⋯) ⋯,r]
   .have e3:∀L l:aC,(L.zip l).map (λp=>p.1 - cf ns (S i)*p.2)=ϯ (λa b=>a - cf ns (S i)*b) L l:=λL l=>by rw[Ŭ,Φ]
    rw[e3,YH,eH];simp only[Lp.sm,<- Int.sub_sub];show#[kL _,_,_,_,rfl]
 .rintro G ⟨y,z,u,rfl⟩;rfl';rw[Ü];show q _
abbrev dX(mk:a8)(k:Nat):Prop:=(look `cp<|Sum.inl (k:Int)).isSome=Â
def rR{f:Nat->Int}{n k:Nat}(h:k<n):((È n).map f)[k]?=À (f k):=by rw[Î,ò h];rfl
section
variable(T:Tx w K mg){f₀ f g:Fl}{m n:Nat}{M:aN}{S:Nat->Nat}{mk:a8}{ns:aC}{Q:ay}
def GA[Fp f][Fp g](hz:Sz m n M)(a:∀i,i<m->S i<n)(b:pK ns n)(q:Q (ae.t<|(È<|n+1).map<|Lp.zz m M (cf ns) S)):jc (vd T) "costs_left" (cK T f₀<|cS m n M S mk) λ_=>jj T [cK T f<|cS m n M S mk,.ah g ↥ns] λt _=>Q t:=oh T #[rfl,f,g,m,n,M,S,mk,ns,‹_›,‹_›,rfl,hz,a,b,λ_=>q]
end
inductive jh(T:Tx w K mg)(xs:af)(Q:Tr->aB):Prop
 |mk(_:↑xs=2)(f g:Fl)(m n:Nat)(M:aN)(S:Nat->Nat)(mk:a8)(ns:aC)(_:Fp f)(_:Fp g)(_:xs=[cK T f (cS m n M S mk),.ah g ↥ns])(_:Sz m n M)(_:∀i,i<m->S i<n)(_:pK ns n)(_:∀e:Nat,Lp.Ent m n M (cf ns) (dX mk) S e->∀j,Q (.int e) j)(_:(∀k,k<n->¬ dX mk k->0<=Lp.zz m M (cf ns) S k)->∀j,Q .aM j):jh T xs Q
def FF{z:Bool}:aG P w K mg base bJ 2 T.sN.a T.sN.d ["self","costs"] (bU K z 0 2<|jh T):=by
 show cu T.sN.F NP rfl ∎ ?_
 intros
 show#[_,(aK (bM 2<|e7 (mD T T.sM<|Fw T) (qv 0)<|ak (qv 1) aA)
  (aK (fk (uI T.mQ<|ak (dN fM fN T.fO<|ak (qv 1) aA) aA) (cD 3)<|aV<|cB (QW.t<|qa (b7 kH kD (a7 (qv 2)<|qv 3) aD)<|p0<|b7 AN z0 (qv 3)<|cV K<|qv 0) (aV<|bI<|qv 3) cA)
  (aV<|bI jz))),?_]
 intro H D _ zy;let#[_,f,g,m,n,M,S,mk,ns,_,_,rfl,A,B,v,q,C]:=zy;have hn:=A.hn;have E:=v.1;rfl';simp only[jd,jD,hW,je,hV];show GA T A B v ?_;rfl';show#[⋯,⋯,Loop.map _ _ (λi G=>(∃y,G=[cK T f<|cS m n M S mk,.ah g ↥ns,ae.t<|(È<|n+1).map<|Lp.zz m M (cf ns) S,y])/\∀k,k<i->¬ dX mk k->0<=Lp.zz m M `bp S k) #[#[_,rfl],λk o=>au5 o ⋯] ?_ ?_]
 .rintro i j G hj ⟨⟨y,rfl⟩,o⟩;have r:j<↑ns/\i=j:=by have:=rJ hj;omega
  let#[r,rfl]:=r;rfl';rw[gE,iZ,iT];show dG _ _ _ (fB (rR (show i<n+1 by omega))) ?_;rfl';have u:(Lp.zz m M `bp S i<0->dX mk i)->∀k,k<i+1->¬ dX mk k->0<=Lp.zz m M `bp S k:=λh k b l=>by
   by_cases e:k=i
   .subst e;have:¬ Lp.zz m M `bp S k<0:=λx=>l<|h x
    omega
   .show o k ⋯ l
  by_cases h:Lp.zz m M (cf ns) S i<0
  .rw[au4<|au6 h];simp only[jd,hW,hV];show AE T (show if (!(look `cp<|Sum.inl (i:Int)).isSome)=Â then _ else _ from ?_);by_cases l:dX mk i
   .rw[au3 (by rw[show (look `cp<|Sum.inl (i:Int)).isSome=Â from l];decide)];show#[#[_,rfl],u λ_=>l]
   .rw[au4 (by rw[show (look `cp<|Sum.inl (i:Int)).isSome=Å from eq_false_of_ne_true l];rfl)];show q i #[⋯,h,l,λk b=>o k b] _
  .rw[au3<|by simpa using h];show#[#[_,rfl],u λx=>au5 x h]
 .rintro G ⟨⟨y,rfl⟩,o⟩;rfl';show C (λk b=>o k (by simpa using (show k<↑ns by omega))) _
def uQ{m n i:Nat}{M:aN}{S:Nat->Nat}{mk:a8}(h:i<m):(cS m n M S mk).ls[i]?=À ((È<|n+1).map<|Lp.tt m M S i):=by
 change ((È m).map _)[i]?=_;rw[Î,ò h];rfl
def B0{m n i:Nat}{M:aN}{S:Nat->Nat}{mk:a8}(h:i<m):(cS m n M S mk).so[i]?=À (S i:Int):=by
 change ((È m).map _)[i]?=_;rw[Î,ò h];rfl
def CB{n:Nat}(f:Nat->Int):c8 ((È<|n+1).map f) (-1)=À (f n):=by
 rw[ai4,ß];show HI
abbrev sD(m n:Nat)(M:aN)(S:Nat->Nat)(c i b:Nat):Bool:=decide (Lp.tt m M S i n*Lp.tt m M S b c<Lp.tt m M S b n*Lp.tt m M S i c) || (decide (Lp.tt m M S i n*Lp.tt m M S b c=Lp.tt m M S b n*Lp.tt m M S i c)&&decide ((S i:Int)<(S b:Int)))
inductive oM(T:Tx w K mg)(xs:af)(Q:Tr->aB):Prop
 |mk(_:↑xs=4)(f:Fl)(m n:Nat)(M:aN)(S:Nat->Nat)(mk:a8)(i b c:Nat)(_:Fp f)(_:xs=[cK T f (cS m n M S mk),.int i,.int b,.int c])(_:Sz m n M)(_:∀i,i<m->S i<n)(_:i<m)(_:b<m)(_:c<n)(_:∀j,Q (.bl (sD m n M S c i b)) j):oM T xs Q
def NB{z:Bool}:aG P w K mg base bJ 1 T.vq.a T.vq.d ["self","number","best","column"] (bU K z 0 4<|oM T):=by
 show cu T.vq.F Nz rfl ∎ ?_
 intros
 show#[_,(aK (bM 4<|a7 (cV K<|qv 0)<|qv 1)
  (aK (bM 5<|a7 (cV K<|qv 0)<|qv 2)
  (aK (bM 6<|dC (a7 (qv 4)<|ia aD)<|a7 (qv 5)<|qv 3)
  (aK (bM 7<|dC (a7 (qv 5)<|ia aD)<|a7 (qv 4)<|qv 3)
  (aV<|bI<|uU (fL kH kD (qv 6)<|qv 7)<|kK<|m4 (fL eI eG (qv 6)<|qv 7)<|kK<|fL kH kD (a7 (cV K<|qv 0)<|qv 1)<|a7 (cV K<|qv 0)<|qv 2))))),?_]
 intro C A _ zy;let#[_,f,m,n,M,S,mk,i,b,c,_,rfl,u,y,r,o,B,q]:=zy;have hn:=u.hn;rfl';simp only[jd,jD,hW,je,hV];show pZ T ?_;rw[iZ,iT];show dG _ _ _ (fB<|uQ r) #[kN _,?_];show pZ T ?_;rw[iZ,iT];show dG _ _ _ (fB<|uQ o) #[kN _,?_];rfl';simp only[gE];rfl';have v:∀j,c8 ((È<|n+1).map<|Lp.tt m M S j) (-1)=À `eG:=λj=>CB _
 have x:∀j,c8 ((È<|n+1).map<|Lp.tt m M S j) (c:Int)=À (Lp.tt m M S j c):=λj=>fB<|rR ⋯
 simp only[v,x,ϥ];rfl';have l:=λj k (h:k<=n)=>u.t S j k y h
 show#[fm (l i n<|Ñ _) (l b c ⋯) ⋯,fm (l b n<|Ñ _) (l i c ⋯) ⋯,?_];unfold sD at q;by_cases e:Lp.tt m M S i n*Lp.tt m M S b c<Lp.tt m M S b n*Lp.tt m M S i c
 .rw[au4<|au6 e];rw[au6 e,Bool.true_or] at q;show q _
 .rw[au3<|by simpa using e];rw[au7 e,al4] at q;by_cases g:Lp.tt m M S i n*Lp.tt m M S b c=Lp.tt m M S b n*Lp.tt m M S i c
  .rw[au4<|au6 g];rw[au6 g,af1] at q;show uc T ?_;rw[iZ,iT];show dG _ _ _ (fB<|B0 r)<|uc T ?_;rw[iZ,iT];show dG _ _ _ (fB<|B0 o) ?_;show#[rfl,q _]
  .rw[au3<|by simpa using g];rw[au7 g,ad0] at q;show q _
abbrev jU(m n:Nat)(M:aN)(S:Nat->Nat)(c b i:Nat):Prop:=Lp.tt m M S b n*Lp.tt m M S i c<Lp.tt m M S i n*Lp.tt m M S b c\/(Lp.tt m M S b n*Lp.tt m M S i c=Lp.tt m M S i n*Lp.tt m M S b c/\S b<=S i)
abbrev lZ(m n:Nat)(M:aN)(S:Nat->Nat)(c i:Nat):Option Nat->Prop
 |none=>∀j,j < i -> Lp.tt m M S j c <= 0
 |some b=>b < i /\ 0 < Lp.tt m M S b c /\ ∀j,j < i -> 0 < Lp.tt m M S j c -> jU m n M S c b j
def jU.trans{m n:Nat}{M:aN}{S:Nat->Nat}{c a b i:Nat}(d:0<Lp.tt m M S a c)(j:0<Lp.tt m M S b c)(l:0<Lp.tt m M S i c)(h:jU m n M S c a b)(g:jU m n M S c b i):jU m n M S c a i:=by
 unfold jU at *;generalize Lp.tt m M S a c=x at *;generalize Lp.tt m M S b c=y at *;generalize Lp.tt m M S i c=z at *;generalize Lp.tt m M S a n=u at *;generalize Lp.tt m M S b n=v at *;generalize Lp.tt m M S i n=w at *;have t:=Lp.tr (a:=u) (b:=v) (c:=w) d j l ⋯ ⋯;by_cases e:u*z=w*x
 .show .inr #[e,?_];have o:=Lp.tr (a:=w) (b:=u) (c:=v) l d j ⋯ ⋯;have r2:=Lp.tr (a:=v) (b:=w) (c:=u) j l d ⋯ ⋯;omega
 .show .inl ⋯
def D9{m n:Nat}{M:aN}{S:Nat->Nat}{c i b:Nat}:(sD m n M S c i b=Â->jU m n M S c i b)/\(sD m n M S c i b=Å->jU m n M S c b i):=by
 unfold sD jU;simp only[Bool.or_eq_true,ê,decide_eq_true_eq,Bool.or_eq_false_iff,Bool.and_eq_false_iff,decide_eq_false_iff_not];omega
def J8{Q:ay}:mr Å .aM .aM Q=Q `ce:=rfl
def J9{Q:ay}{i:Int}:mr Å `aE .aM Q=Q `bw:=rfl
def Bl{Q:ay}:mr Â .aM .aM Q=Q `bw:=rfl
def ZT{Q:ay}{i:Int}:mr Â `aE .aM Q=Q `ce:=rfl
abbrev oT:Option Nat->Tr
 |none=>.aM
 |some b=>.int b
def ZU(m n:Nat)(M:aN)(S:Nat->Nat)(mk:a8):(cS m n M S mk).ls.zipIdx=(È m).map λi=>((È<|n+1).map<|Lp.tt m M S i,i):=by
 apply Ŋ;intro k;rw[š,Î];by_cases h:k<m
 .rw[uQ h,ò h];simp
 .rw[ì (show (cS m n M S mk).ls.length<=k by change ((È m).map _).length<=k;rw[Æ,Ü];omega),ì (by rw[Ü];omega)];rfl
def lZ.skip{m n:Nat}{M:aN}{S:Nat->Nat}{c i:Nat}{o:Option Nat}(h:lZ m n M S c i o)(hn:¬ 0<Lp.tt m M S i c):lZ m n M S c (i+1) o:=by
 cases o with
 |none=>
  intro j a;by_cases e:j=i
  .subst e;omega
  .show h j ⋯
 |some b=>
  show#[by have:=h.1;omega,h.2.1,λj a p=>?_];by_cases e:j=i
  .subst e;show au5 p hn
  .show h.2.2 j ⋯ p
def lZ.keep{m n:Nat}{M:aN}{S:Nat->Nat}{c i b:Nat}(h:lZ m n M S c i (À b))(g:jU m n M S c b i):lZ m n M S c (i+1) (À b):=
 #[by have:=h.1;omega,h.2.1,λj a p=>by
  by_cases e:j=i
  .subst e;show g
  .show h.2.2 j ⋯ p]
def jU.refl{m n:Nat}{M:aN}{S:Nat->Nat}{c i:Nat}:jU m n M S c i i:=.inr #[rfl,Ñ _]
def lZ.take{m n:Nat}{M:aN}{S:Nat->Nat}{c i:Nat}{o:Option Nat}(h:lZ m n M S c i o)(hp:0<Lp.tt m M S i c)(g:∀b,o=À b->jU m n M S c i b):lZ m n M S c (i+1) (À i):=
 #[ũ i,hp,λj a p=>by
  by_cases e:j=i
  .subst e;show .refl
  .cases o with
   |none=>have:=h j ⋯;omega
   |some b=>show (g b rfl).trans hp h.2.1 p<|h.2.2 j ⋯ p]
inductive lS(T:Tx w K mg)(xs:af)(Q:Tr->aB):Prop
 |mk(_:↑xs=2)(f:Fl)(m n:Nat)(M:aN)(S:Nat->Nat)(mk:a8)(c:Nat)(_:Fp f)(_:xs=[cK T f (cS m n M S mk),.int c])(_:Sz m n M)(_:∀i,i<m->S i<n)(_:c<n)(_:∀r:Nat,Lp.Lv m n M S r c->∀j,Q (.int r) j)(_:(∀i,i<m->Lp.tt m M S i c<=0)->∀j,Q .aM j):lS T xs Q
def NI{z:Bool}:aG P w K mg base bJ 2 T.vp.a T.vp.d ["self","column"] (bU K z 0 2<|lS T):=by
 show cu T.vp.F NG rfl ∎ ?_
 intros
 show#[_,(aK (bM 2 jz)
  (aK (fk (su T.pz<|ak (cV K<|qv 0) aA) (gO (n:=2) rfl<|dz (cD 3)<|dz (cD 4) gL)<|aV<|cB (QW.t<|qa (b7 nv ng (a7 (qv 4)<|qv 1) aD)<|p0<|QW.t<|jA (b7 rP rQ (qv 2) jz)<|kd<|fE<|e7 (mD T T.vq<|NB T) (qv 0)<|ak (qv 3)<|ak (qv 2)<|ak (qv 1) aA) (aV<|bM 2<|qv 3) cA)
  (aV<|bI<|qv 2))),?_]
 intro D B _ zy;let#[_,f,m,n,M,S,mk,c,_,rfl,l,v,x,q,A]:=zy;have hn:=l.hn;have hm:=l.hm;rfl';simp only[jd,jD,hW,je,hV];show pZ T ?_;rfl';rw[ZU,ð];show Loop.map (È m) _ (λi G=>∃(o:Option Nat)(y z:Tr),G=[cK T f<|cS m n M S mk,.int c,oT o,y,z]/\lZ m n M S c i o) #[Ä,_,_,rfl,λj h=>au5 h ⋯] ?_ ?_
 .rintro i j G h ⟨o,y,z,rfl,ho⟩;let#[r,rfl]:=rJ h;dsimp only[ab8];rfl';simp only[gE];rfl';show dG _ _ _ (fB (rR (show c<n+1 by omega))) ?_;rfl';by_cases g:0<Lp.tt m M S i c
  .rw[au4<|au6 g];cases o with
   |none=>
    rw[show oT Ä=.aM from rfl];rfl';rw[J8];show#[À i,_,_,rfl,ho.take g λb e=>by cases e]
   |some b=>
    rw[show oT (À b)=.int b from rfl];rfl';rw[J9];rfl';simp only[jd,jD,hW,je,hV];show oh T #[rfl,f,m,n,M,S,mk,i,b,c,‹_›,rfl,l,v,r,Nat.lt_trans ho.1 r,x,λ_=>?_];rfl';cases e:sD m n M S c i b with
    |true=>show#[À i,_,_,rfl,ho.take g λC u=>by cases u;show D9.1 e]
    |false=>show#[À b,_,_,rfl,ho.keep<|D9.2 e]
  .rw[au3<|by simpa using g];show#[o,_,_,rfl,ho.skip g]
 .rintro G ⟨o,y,z,rfl,ho⟩;rw[Ü] at ho;cases o with
  |none=>
   rw[show oT Ä=.aM from rfl];rfl';show A ho _
  |some b=>
   rw[show oT (À b)=.int b from rfl];rfl';show q b #[ho.1,ho.2.1,ho.2.2] _
def ot{xs:af}{k:Nat}{t:Tr}{Q:aB}(h:k<↑xs)(q:Q (xs.set k t)):tQ xs (.int k) t Q:=by
 change (match jl ↑xs (k:Int) with |some n=>Q `du |none=>False);have e:jl ↑xs (k:Int)=À k:=by unfold jl;rw[au4 ⋯,au4<|by simpa using h];simp
 rw[e];show q
def Vs{xs:af}{k:Nat}{t:Tr}{Q:aB}(h:k<↑xs)(q:Q (xs.set k t)):nU `aP λxs=>tQ xs (.int k) t Q:=ot h q
def GB(F:Nat->j)(i:Nat):(È<|i+1).map F=(È i).map F++[F i]:=by rw[ai4,ß];rfl
abbrev nR(m n:Nat)(M:aN)(S:Nat->Nat)(r c i k:Nat):Int:=(Lp.tt m M S i k*Lp.tt m M S r c - Lp.tt m M S i c*Lp.tt m M S r k).fdiv<|Lp.dd m M S
def YI{m n:Nat}{M:aN}{S:Nat->Nat}{r c:Nat}(hz:Sz m n M)(G:Lp.Gd m n M S)(a:r<m)(b:c<n)(hp:0<Lp.tt m M S r c):((È m).map λj=>(È<|n+1).map<|nR m n M S r c j).set r ((È<|n+1).map<|Lp.tt m M S r)=xQ m n M (Lp.up S r c):=by
 apply Ŋ;intro i;unfold xQ;rw[Θ,Î,Î,Æ,Ü];by_cases e:r=i
 .subst e;rw[au4 rfl,au4 a,ò a,ϥ];congr 1;show Ģ λk _=>Lp.cp.symm
 .rw[au3 e];by_cases h:i<m
  .rw[ò h,ϥ,ϥ];congr 1;show Ģ λk _=>?_
   unfold nR;rw[<- Lp.eV G.cr k h a (ć e)];show Ę _<|æ G.pos
  .rw[ì (by rw[Ü];omega)];rfl
def YJ{m:Nat}{S:Nat->Nat}{r c:Nat}(a:r<m):(qH m S).set r (c:Int)=qH m (Lp.up S r c):=by
 apply Ŋ;intro i;unfold qH;rw[Θ,Î,Î,Æ,Ü];by_cases e:r=i
 .subst e;rw[au4 rfl,au4 a,ò a];simp[Lp.up]
 .rw[au3 e];by_cases h:i<m
  .rw[ò h];simp[Lp.up,ć e]
  .rw[ì (by rw[Ü];omega)];rfl
def Ka{f:Str}{v u:Tr}{r:bz}:jb f u ((f,v)::r)=(f,u)::r:=by
 change (if f=f then _ else _)=_;rw[au4 rfl]
def YK(B:iq)(ls:List (aC)):jb "lines" (.ah .f ↥ls) (gI .o B)=gI .o { B with ls:=ls }:=by unfold gI;rw[Ka];rfl
def YL(B:iq)(d:Int):jb "bottom" (.int d) (gI .o B)=gI .o { B with bt:=d }:=by unfold gI;rw[oj,oj,Ka]
def YM(B:iq)(so:aC):hU "solved" (.ah .o ↥so) (gI .o B)=gI .o { B with so:=so }:=by unfold gI;rw[ke,uB]
inductive lU(T:Tx w K mg)(xs:af)(Q:Tr->aB):Prop
 |mk(_:↑xs=3)(m n:Nat)(M:aN)(S:Nat->Nat)(mk:a8)(r c:Nat)(_:xs=[cK T .o (cS m n M S mk),.int r,.int c])(_:Sz m n M)(_:Lp.Gd m n M S)(_:r<m)(_:c<n)(_:0<Lp.tt m M S r c)(_:∀j:af,j[0]?=À (cK T .o (cS m n M (Lp.up S r c) mk))->Q .aM j):lU T xs Q
def OF{z:Bool}:aG P w K mg base bJ 1 T.vr.a T.vr.d ["self","number","column"] (bU K z 3 3<|lU T):=by
 show cu T.vr.F OD rfl ∎ λbK A outer s H E hr hu hN=>?_
 show#[_,(aK (bM 3<|a7 (cV K<|qv 0)<|qv 1)
  (aK (cB (b7 kH kD (a7 (qv 3)<|qv 2) aD) (aV<|mY 3 ["entry"] [Ä] (dY<|qv 3) (c7 0) (λ_ _ _ _ _=>(ia<|qv 0))) cA)
  (aK (bM 4<|a7 (qv 3)<|qv 2)
  (aK (iD 5<|eZ aA)
  (aK (fk (dY<|cV K<|qv 0) (cD 6) (aK (bM 7<|a7 (qv 6)<|qv 2)
  (aV<|m8 (dy 5)<|gg ["one","other","self","middle","entry"] [Ä,Ä,À 0,À 4,À 7] (kI T.kx<|ak (qv 6)<|ak (qv 3) aA) (qr (n:=2) rfl<|jC (c7 0)<|jC (c7 1) pP) (λ_ _ _ _ _=>(kh (qi (dC (qv 0)<|qv 3)<|dC (qv 4)<|qv 1)<|cV K<|qv 2)))))
  (aK (qb (dy 5) `bX<|qv 3)
  (sj 5 (aK (xh `cJ<|qv 5)
  (aK (qd `cJ<|qv 4)
  (aV<|qb (sk<|dy 0) (qv 1)<|qv 2)))))))))),?_]
 intro xs Y _ zy;let#[_,m,n,M,S,mk,r,c,rfl,g,G,b,I,Q,q]:=zy;have hn:=g.hn;have hm:=g.hm;rfl';simp only[jd,jD,dO,d9,hV];show pZ T ?_;rw[iZ,iT];show dG _ _ _ (fB<|uQ b) #[kN _,?_];rfl';simp only[gE];rfl';have B:c8 ((È<|n+1).map<|Lp.tt m M S r) (c:Int)=À (Lp.tt m M S r c):=fB<|rR ⋯;simp only[B,ϥ];rfl';rw[au3 (by simp;omega)];show pZ T ?_;rfl';rw[show (cS m n M S mk).ls=(È m).map λi=>(È<|n+1).map (Lp.tt m M S i) from rfl,ð];show Loop.map (È m) _ (λi J=>∃(y z:Tr),J=[cK T .o<|cS m n M S mk,.int r,.int c,ae.t<|(È<|n+1).map<|Lp.tt m M S r,.int<|Lp.tt m M S r c,.ah .o<|((È i).map λj=>(È<|n+1).map<|nR m n M S r c j).map ae.t,y,z]) #[_,_,rfl] ?_ ?_
 .rintro i j J hj ⟨y,z,rfl⟩;let#[hi,rfl]:=rJ hj;have C:c8 ((È<|n+1).map<|Lp.tt m M S i) (c:Int)=À (Lp.tt m M S i c):=fB<|rR ⋯;dsimp only[ab8];rfl';simp only[gE];rfl';simp only[C,ϥ];rfl';simp only[jd,dO];show aY.map _ _ (λp=>(p.1*Lp.tt m M S r c - Lp.tt m M S i c*p.2).fdiv<|Lp.dd m M S) (by rw[ad7,Æ,Ü];omega) (λp l R D=>?_) ?_
  .rfl';∎;let#[k,N,e]:=á.mp (Ķ l).1;let#[U,h,x]:=á.mp (Ķ l).2;∎;rw[ħ] at N h;have u:bi p.1<=3000:=by rw[<- e];show g.t S i k G.lt ⋯
   have v:bi p.2<=3000:=by rw[<- x];show g.t S r U G.lt ⋯
   show#[fm u (g.t S r c G.lt ⋯) ⋯,fm (g.t S i c G.lt ⋯) v ⋯,?_];simp only[hV];show wQ T ?_;rfl';show#[Ct `be<|Ï (g.d S G.lt) ⋯,D]
  .have eR:((((È<|n+1).map<|Lp.tt m M S i).zip<|(È<|n+1).map<|Lp.tt m M S r).map λp=>(p.1*Lp.tt m M S r c - Lp.tt m M S i c*p.2).fdiv<|Lp.dd m M S)=(È<|n+1).map (nR m n M S r c i):=by rw[List.zip_map',ð];rfl
   rw[eR,eH,GB _ i,ß (l₂:=[_])];show#[kL _,by rw[Ü];omega,_,_,rfl]
 .rintro J ⟨y,z,rfl⟩;rfl';rw[Ü];show ot (by rw[Æ,Æ,Ü];show b) ?_;rw[<- ai9,YI g G b I Q,qg];show#[fq _,?_];unfold cK;rfl';rw[YK,YL];show#[#[T.jY,T.ym],(by decide:4<900),#[T.jY,T.yo],(by decide:4<900),xv rfl #[T.jY,T.yn] (cM gp) ?_];dsimp only[cS];have O:r<((qH m S).map ae.t).length:=by unfold qH;rw[Æ,Æ,Ü];show b
  show Vs O ?_;rw[show Tr.int (c:Int)=ae.t (c:Int) from rfl,<- ai9,YJ b,YM];show q _ ?_;unfold cK cS;rw[Lp.eK];rfl
abbrev jV(m:Nat)(mk:a8)(S:Nat->Nat):Prop:=∀i,i<m->¬ dX mk (S i)
abbrev yh(m n:Nat)(M:aN)(mk:a8)(c:Nat->Int)(S:Nat->Nat):Prop:=∀k,k<n->¬ dX mk k->0<=Lp.zz m M c S k
inductive lD(T:Tx w K mg)(xs:af)(Q:Tr->aB):Prop
 |mk(_:↑xs=2)(g:Fl)(m n:Nat)(M:aN)(S:Nat->Nat)(mk:a8)(ns:aC)(_:Fp g)(_:xs=[cK T .o (cS m n M S mk),.ah g ↥ns])(_:Sz m n M)(_:Lp.Gd m n M S)(_:jV m mk S)(_:pK ns n)(_:∀S',Lp.Gd m n M S'->jV m mk S'->yh m n M mk (cf ns) S'->∀j:af,j[0]?=À (cK T .o (cS m n M S' mk))->Q .aM j)(_:∀S' (e:Nat),Lp.Gd m n M S'->jV m mk S'->Lp.Ent m n M (cf ns) (dX mk) S' e->(∀i,i<m->Lp.tt m M S' i e<=0)->∀j:af,j[0]?=À (cK T .o (cS m n M S' mk))->Q (.int e) j):lD T xs Q
abbrev CL(m n:Nat)(M:aN)(mk:a8)(c:Nat->Int)(S:Nat->Nat):Option Nat->Prop
 |none=>yh m n M mk c S
 |some e=>Lp.Ent m n M c (dX mk) S e
def KW(o:Option Nat):bX (oT o)=Â:=by cases o<;>rfl
def KY(o:Option Nat):Pu.aE (oT o)=oT o:=by cases o<;>rfl
def jV.turn{m n:Nat}{M:aN}{mk:a8}{c:Nat->Int}{S:Nat->Nat}{r e:Nat}(h:jV m mk S)(E:Lp.Ent m n M c (dX mk) S e):jV m mk (Lp.up S r e):=λi a=>by
 unfold Lp.up;split
 .show E.2.2.1
 .show h i a
def N6{z:Bool}:aG P w K mg base bJ 3 T.vo.a T.vo.d ["self","costs"] (bU K z 2 2<|lD T):=by
 show cu T.vo.F NO rfl ∎ λbK A outer s H E hr hu x=>?_
 show#[_,(aK (bM 2<|e7 (mD T T.sN<|FF T) (qv 0)<|ak (qv 1) aA)
  (aK (BL (b7 AU z3 (qv 2) jz) (aK (bM 3<|e7 (mD T T.vp<|NI T) (qv 0)<|ak (qv 2) aA)
  (aK (cB (b7 rP rQ (qv 3) jz) (aV<|bI<|qv 2) cA)
  (aK (AA<|pU (dy 0) (mD T T.vr<|OF T)<|mE (qv 3)<|mE (qv 2) qe)
  (aV<|bM 2<|e7 (mD T T.sN<|FF T) (qv 0)<|ak (qv 1) aA)))))
  (aV<|bI jz))),?_]
 intro xs Q' _ zy;let#[_,g,m,n,M,S,mk,ns,_,rfl,D,G,x,U,q1,q2]:=zy;have q:∀(S:Nat->Nat)(u f:Fl) [Fp f] (R:ay),Lp.Gd m n M S->(∀o,CL m n M mk `bp S o->R (oT o))->jc (vd T) "falling" (cK T u<|cS m n M S mk) λ_=>jh T [cK T f<|cS m n M S mk,.ah g ↥ns] λt _=>R t:=λS u f _ R G h=>
  oh T #[rfl,f,g,m,n,M,S,mk,ns,‹_›,‹_›,rfl,D,G.lt,U,λe B _=>h (À e) B,λB _=>h Ä B]
 rfl';simp only[jd,jD,dO,d9,hV];show q S _ _ _ G λo i=>?_
 rw[KW,KY];show#[rfl,?_];show#[λN j=>∃(b:Nat->Nat)(o:Option Nat)(y:Tr),j=[cK T .o<|cS m n M b mk,.ah g ↥ns,oT o,y]/\Lp.Gd m n M b/\jV m mk b/\Lp.kS m n M `bp (dX mk) b N/\CL m n M mk `bp b o,#[_,S,o,_,rfl,G,x,Lp.Nt G,i],?_];intro N j zy;let#[b,o,y,rfl,G,x,Q,i]:=zy;cases o with
 |none=>
  rw[show oT Ä=.aM from rfl];rfl';rw[Bl];rfl';show q1 b G x i _ rfl
 |some e=>
  rw[show oT (À e)=.int e from rfl];rfl';rw[ZT];rfl';simp only[jd,jD,dO,d9,hV];show oh T #[rfl,.l Å,m,n,M,b,mk,e,inferInstance,rfl,D,G.lt,i.1,λr v _=>?_,λv _=>?_]
  .rfl';rw[J9];rfl';show#[trivial,oh T ?_];rfl';simp only[show dq (cK T .o<|cS m n M b mk) []=cK T .o (cS m n M b mk) from rfl,jD,d9];show#[rfl,m,n,M,b,mk,r,e,rfl,D,G,v.1,i.1,v.2.1,λj' O=>?_];rw[O,hV];show#[uW T _,?_];simp only[ja,jd,jD,dO,d9,hV];have I:=G.turn v i.1;show q (Lp.up b r e) _ _ _ I λY C=>?_
   rw[KW,KY];let#[b1,J]:=Q.step #[r,e,i,v,rfl];show#[rfl,N - 1,⋯,_,Y,_,rfl,I,x.turn i,J,C]
  .rfl';rw[J8];rfl';show q2 b e G x i v _ rfl
abbrev lV(m n:Nat)(M:aN)(mk:a8)(c:Nat->Int)(S:Nat->Nat)(k:Nat):Bool:=decide (0<Lp.zz m M c S k) && !(look `cp<|Sum.inl (k:Int)).isSome
abbrev fT(m n:Nat)(M:aN)(mk:a8)(c:Nat->Int)(S:Nat->Nat)(a:Int)(i:Nat):a8:=mk++((È i).filter<|lV m n M mk c S).map λ(k:Nat)=>((Sum.inl (k:Int):aW),À a)
def II(mk:a8)(y:aW):(look `cp y).isSome=mk.any λp=>decide (p.1=y):=by
 unfold look mT;rw[ϖ,aj9,ϖ,at7];rfl
def mR{mk:a8}{k:Nat}:dX mk k↔∃p∈mk,p.1=Sum.inl (k:Int):=by
 unfold dX;rw[II,ň];simp only[decide_eq_true_eq]
def tK{m n:Nat}{M:aN}{mk:a8}{c:Nat->Int}{S:Nat->Nat}{a:Int}{i k:Nat}:dX `dB k↔dX mk k\/(k<i/\0<Lp.zz m M c S k):=by
 rw[mR,mR];unfold fT;constructor
 .rintro⟨p,b,e⟩;rcases É.mp b with b |b
  .show .inl ⟨p,b,e⟩
  .obtain⟨j,mj,rfl⟩:=á.mp b;let#[g,d]:=ĝ.mp mj;unfold lV at d;simp only[ê,decide_eq_true_eq] at d;have:j=k:=ϓ<|Sum.inl.inj e;subst this;show .inr #[ħ.mp g,d.1]
 .intro h;by_cases l:dX mk k
  .obtain⟨p,b,e⟩:=mR.mp l;show#[p,É.mpr<|.inl b,e]
  .rcases h with h |⟨g,d⟩
   .show au5 (mR.mpr h) l
   .show⟨_,É.mpr (.inr (á.mpr ⟨k,ĝ.mpr ⟨ħ.mpr g,?_⟩,rfl⟩)),rfl⟩;unfold lV;rw[au6 d,eq_false_of_ne_true l];rfl
def Hk{m n:Nat}{M:aN}{mk:a8}{c:Nat->Int}{S:Nat->Nat}{a:Int}{i:Nat}:(look (mT<|fT m n M mk c S a i)<|Sum.inl (i:Int)).isSome=(look `cp<|Sum.inl (i:Int)).isSome:=by
 apply Ŕ.mpr;change dX `dB i↔dX mk i;rw[tK];show#[λh=>h.elim id λh=>au5 h.1<|Ĵ _,.inl]
def Hl{m n:Nat}{M:aN}{mk:a8}{c:Nat->Int}{S:Nat->Nat}{a:Int}{i:Nat}:fT m n M mk c S a (i+1)=if lV m n M mk c S i=Â then fT m n M mk c S a i++[((Sum.inl (i:Int):aW),À a)] else fT m n M mk c S a i:=by
 unfold fT;rw[ai4,Ž,ß,<- õ];split
 .rename_i h;rw[am5 h];rfl
 .rename_i h;rw[am4 h];simp
def IJ{m n:Nat}{M:aN}{mk:a8}{c:Nat->Int}{S:Nat->Nat}{a:Int}{i:Nat}:(fT m n M mk c S a i).length<=↑mk+i:=by
 unfold fT;rw[Ö,Æ];have:=ĺ (lV m n M mk c S)<|È i;rw[Ü] at this;omega
inductive lQ(T:Tx w K mg)(xs:af)(Q:Tr->aB):Prop
 |mk(_:↑xs=3)(g:Fl)(m n:Nat)(M:aN)(S:Nat->Nat)(mk:a8)(ns:aC)(k:Int)(_:Fp g)(_:xs=[cK T .o (cS m n M S mk),.ah g ↥ns,.int k])(_:Sz m n M)(_:∀i,i<m->S i<n)(_:pK ns n)(_:↑mk<=10000)(_:∀j:af,j[0]?=À (cK T .o (cS m n M S (fT m n M mk (cf ns) S k n)))->Q (ae.t ((È (n+1)).map (Lp.zz m M (cf ns) S))) j):lQ T xs Q
def NC{z:Bool}:aG P w K mg base bJ 2 T.vt.a T.vt.d ["self","costs","mark"] (bU K z 3 3<|lQ T):=by
 show cu T.vt.F NA rfl ∎ ?_
 intros
 show#[_,(aK (bM 3<|e7 (mD T T.sM<|Fw T) (qv 0)<|ak (qv 1) aA)
  (aK (fk (uI T.mQ<|ak (dN fM fN T.fO<|ak (qv 1) aA) aA) (cD 4)<|aV<|cB (QW.t<|qa (b7 nv ng (a7 (qv 3)<|qv 4) aD)<|p0<|b7 AN z0 (qv 4)<|cV K<|qv 0) (aV<|xK (sk<|dy 0) (qv 4)<|qv 2) cA)
  (aV<|bI<|qv 3))),?_]
 intro H E _ zy;let#[_,g,m,n,M,S,mk,ns,k,_,rfl,x,B,v,hm,q]:=zy;have hn:=x.hn;have C:=v.1;rfl';simp only[jd,jD,dO,d9,hV];show GA T x B v ?_;rfl';show#[⋯,⋯,Loop.map _ _ (λi G=>∃(y:Tr),G=[cK T .o<|cS m n M S<|fT m n M mk (cf ns) S k i,.ah g ↥ns,.int k,ae.t<|(È<|n+1).map<|Lp.zz m M (cf ns) S,y]) #[_,by unfold fT;rw[List.range_zero,List.filter_nil,ad8,Ă]] ?_ ?_]
 .rintro i j G hj ⟨y,rfl⟩;have b:j<↑ns/\i=j:=by have:=rJ hj;omega
  let#[b,rfl]:=b;rfl';rw[gE,iZ,iT];show dG _ _ _ (fB (rR (show i<n+1 by omega))) ?_;rfl';have r:lV m n M mk `bp S i=Å->fT m n M mk `bp S k (i+1)=fT m n M mk `bp S k i:=λh=>by rw[Hl,h,au3 ∎]
  by_cases h:0<Lp.zz m M `bp S i
  .rw[au4<|au6 h];simp only[jd,dO,hV];show AE T (show if (!(look (mT<|fT m n M mk (cf ns) S k i)<|Sum.inl (i:Int)).isSome)=Â then _ else _ from ?_);rw[Hk];by_cases l:(look `cp<|Sum.inl (i:Int)).isSome=Â
   .rw[l,au3 ∎,r (by unfold lV;rw[l];simp)];show#[_,rfl]
   .rw[eq_false_of_ne_true l,au4 ∎];have D:=IJ (m:=m) (n:=n) (M:=M) (mk:=mk) (c:=cf ns) (S:=S) (a:=k) (i:=i);show xv rfl #[T.jY,T.yp] (cM<|cM<|cM gp) #[by change (mT<|fT m n M mk (cf ns) S k i).length<1000000;unfold mT;rw[Æ];omega,?_];rw[show Tr.int k=ae.t (À k:bR) from rfl];have e:=z'z (fT m n M mk `bp S k i) (Sum.inl (i:Int))<|À k;rw[au3 (by rw[<- II,Hk];show l)] at e;have A:lV m n M mk `bp S i=Â:=by unfold lV;rw[au6 h,eq_false_of_ne_true l];rfl
    have u:=Hl (m:=m) (n:=n) (M:=M) (mk:=mk) (c:=cf ns) (S:=S) (a:=k) (i:=i);rw[au4 A] at u;rw[u];dsimp only[cS];rw[e,z'x];show#[_,rfl]
  .rw[au3 (by simpa using h),r (by unfold lV;rw[au7 h];rfl)];show#[_,rfl]
 .rintro G ⟨y,rfl⟩;rfl';show q _ ?_;rw[show (È ((↑ns:Int)).toNat).length=n by rw[Ü];simpa using C];rfl
def UP(x:Int)(ns:aC):sx (.int x) ↥ns=decide (x∈ns):=by
 induction ns with
 |nil=>rfl
 |cons n ns a=>
  unfold sx xG at a ⊢;rw[è,è,Ϥ,a];by_cases h:x=n
  .simp[h,rq,kr]
  .simp[h,rq,kr,ć h]
def GC:∀ns:aC,(↥ns).all pI=Â
 |[]=>rfl
 |n::ns=>by simp only[è,Ν,GC ns,al3];rfl
def IK{neg:Bool}{f:Fl}{x:Int}{ns:aC}{Q:ay}(q:Q (.bl (if neg=Â then !decide (x∈ns) else decide (x∈ns)))):sE neg (.int x) (.ah f ↥ns) Q:=#[rfl,GC ns,by rw[UP];show q]
abbrev ku(m n:Nat)(M:aN)(S:Nat->Nat)(k:Nat):Rat:=Ë (Lp.i3 m n M S k)<|Lp.dd m M S
inductive lT(T:Tx w K mg)(xs:af)(Q:Tr->aB):Prop
 |mk(_:↑xs=2)(f:Fl)(m n:Nat)(M:aN)(S:Nat->Nat)(mk:a8)(k:Nat)(_:Fp f)(_:xs=[cK T f (cS m n M S mk),.int k])(_:Sz m n M)(_:Lp.Gd m n M S)(_:k<n)(_:∀j,Q (ae.t (ku m n M S k)) j):lT T xs Q
def Na{m n k:Nat}{M:aN}{S:Nat->Nat}{mk:a8}:(k:Int)∈(cS m n M S mk).so↔∃i,i<m/\S i=k:=by
 change (k:Int)∈(È m).map (λi=>(S i:Int))↔_;rw[á];show#[λ⟨i,h,e⟩=>#[i,ħ.mp h,ϓ e],λ⟨i,h,e⟩=>#[i,ħ.mpr h,by rw[e]]]
def OG{z:Bool}:aG P w K mg base bJ 3 T.vO.a T.vO.d ["self","column"] (bU K z 0 2<|lT T):=by
 show cu T.vO.F OE rfl ∎ ?_
 intros
 show#[_,(aK (cB (b7 AN z0 `bX<|cV K<|qv 0) (aV<|bI<|gP [0,1] T.g9 T.hG) cA)
  (aV<|bI<|qc T.k4 (oq T)<|ak (a7 (a7 (cV K<|qv 0)<|z'n (cV K<|qv 0)<|qv 1)<|ia aD)<|ak (cV K<|qv 0) aA)),?_]
 intro B y _ zy;let#[_,f,m,n,M,S,mk,k,_,rfl,o,G,v,q]:=zy;rfl';simp only[jd,hW,hV];show uc T<|IK ?_;by_cases h:(k:Int)∈(cS m n M S mk).so
 .rw[au6 h];rfl';show pZ T<|uc T ?_;have A:(cS m n M S mk).so.length=m:=by change ((È m).map _).length=m;rw[Æ,Ü]
  have hm:=o.hm;show#[f,(cS m n M S mk).so,rfl,_,rfl,h,⋯,?_];have b:(cS m n M S mk).so.idxOf (k:Int)<m:=by have:=al5.mpr h;omega
  have g:(cS m n M S mk).so[(cS m n M S mk).so.idxOf (k:Int)]?=À (k:Int):=by
   have l:(cS m n M S mk).so.idxOf (k:Int)<(cS m n M S mk).so.length:=⋯
   rw[Ð l];show au9 À (by simpa using as4 l)
  generalize (cS m n M S mk).so.idxOf (k:Int)=j at b g;rw[B0 b] at g;have r:S j=k:=ϓ<|Þ g;rw[iZ,iT];show dG _ _ _ (fB<|uQ b) ?_;rw[gE,iZ,iT,CB];show dG _ _ _ rfl<|wQ T ?_;show#[rfl,Lp.tt m M S j n,Lp.dd m M S,rfl,æ G.pos,Ï (o.d S G.lt) ⋯,λJ=>#[jf _,?_]];have e:ku m n M S k=Ë `eG (Lp.dd m M S):=by unfold ku;rw[<- r,Lp.gQ G b]
  rw[<- e];show q _
 .rw[au7 h];rfl';have e:ku m n M S k=0:=by unfold ku;rw[Lp.c9 (ç v) λi u x=>h<|Na.mpr #[i,u,x],Ġ]
  rw[e] at q;show q _
abbrev kM(b:Int)(c:Rat):Int:=b.fdiv (gd b (c.den:Int))*(c.den:Int)
abbrev cE(cs:aR):Int:=cs.foldl kM 1
def YN{b:Int}(j:0<b)(c:Rat):kM b c=((Int.lcm b (c.den:Int):Nat):Int):=by
 have hd:(0:Int)<(c.den:Int):=Ň.mpr c.den_pos;have d:=n9 (a:=b) (b:=(c.den:Int))<|æ hd;let#[x,g]:=wK b (c.den:Int);have e:b.fdiv (gd b (c.den:Int))=x:=by
  have:=Ę (a:=gd b (c.den:Int)) x<|æ d;rwa[<- g] at this
 unfold kM;rw[e];have h:=Int.gcd_mul_lcm b (c.den:Int);have i:gd b (c.den:Int)*((Int.lcm b (c.den:Int):Nat):Int)=b*(c.den:Int):=by
  unfold gd;rw[<- Ϯ,h,Ϯ,aq8<|Ĳ j,aq8<|Ĳ hd]
 apply Ħ (æ d);rw[i]
 conv=>rhs;lhs;rw[g]
 grind
def gy:∀(cs:aR)(b:Int),0<b->0<cs.foldl kM b/\b ∣ cs.foldl kM b/\(∀c∈cs,(c.den:Int) ∣ cs.foldl kM b)/\∀X:Nat,b ∣ (X:Int)->(∀c∈cs,(c.den:Int) ∣ (X:Int))->cs.foldl kM b ∣ (X:Int)
 |[],b,hb=>#[hb,Int.dvd_refl _,λc m=>(nomatch m),λX h _=>h]
 |c::cs,b,hb=>by
  have hd:(0:Int)<(c.den:Int):=Ň.mpr c.den_pos;have a:=YN hb c;have j:0<kM b c:=by rw[a];show Ň.mpr<|Int.lcm_pos (æ hb)<|æ hd
  let#[l,g,n,o]:=gy cs (kM b c) j;show#[l,Š (by rw[a];show Int.dvd_lcm_left _ _) g,λd m=>?_,λX i e=>?_]
  .rcases ä.mp m with rfl |m
   .show Š (by rw[a];show Int.dvd_lcm_right _ _) g
   .show n d m
  .show o X ?_ λd m=>e d<|.tail _ m
   rw[a];show an2.mpr<|Int.lcm_dvd i<|e c<|.head _
def kf{a:Int}{X:Nat}(h:a ∣ (X:Int))(d:0<X):bi a<=bi (X:Int):=by
 have b:a.natAbs<=X:=af6 d<|ϟ.mpr h;show gk<|ĕ b ?_;have:=kJ (x:=(X:Int))<|Ñ _;rwa[Ć] at this
abbrev vf(cs:aR)(X:Nat):Prop:=0<X/\(∀c∈cs,(c.den:Int) ∣ (X:Int))/\bi (X:Int)<=3000
inductive ox(xs:af)(Q:Tr->aB):Prop
 |mk(_:↑xs=1)(f:Fl)(cs:aR)(X:Nat)(_:Fp f)(_:xs=[.ah f ↥cs])(_:vf cs X)(_:∀j,Q (.int (cE cs)) j):ox xs Q
def FG{z:Bool}:aG P w K mg base bJ 2 T.sY.a T.sY.d ["fractions"] (bU K z 0 1 ox):=by
 show cu T.sY.F NJ rfl ∎ ?_
 intros
 show#[_,(aK (bM 1 aD)
  (aK (fk (dY<|qv 0) (cD 2)<|aV<|bM 1<|dC (kh (qv 1)<|qc T.sU (Fv T)<|ak (qv 1)<|ak (a7 (qv 2) aD) aA)<|a7 (qv 2) aD)
  (aV<|bI<|qv 1))),?_]
 intro G B _ zy;let#[_,f,b,X,_,rfl,#[h,hd,D],q]:=zy;rfl';show Loop.map b ae.t (λi j=>∃y,j=[.ah f ↥b,.int<|cE<|b.take i,y]) #[_,rfl] ?_ ?_
 .rintro i c j hc ⟨y,rfl⟩;have m:=Ì hc;let#[p1,_,_,A]:=gy (b.take i) 1 ∎;have o:=A X (ŷ _) λc m=>hd c<|ad3 m
  have g:(0:Int)<(c.den:Int):=Ň.mpr c.den_pos;have C:=kf o h;have r:=kf (hd c m) h;have e:cE (b.take<|i+1)=kM (cE<|b.take i) c:=by
   unfold cE;rw[Ė,hc,at6];rfl
  rw[e];change (_:Prop);rfl';show#[rfl,cE<|b.take i,(c.den:Int),rfl,Ĳ p1,Ĳ g,λ_=>?_];rfl';have E:=BO (a:=cE<|b.take i) (æ g) r;show#[Ct (æ<|n9<|æ g) ⋯,fm (n:=6001) (m:=3000) ?_ ⋯ ⋯,_,rfl];let#[x,l]:=wK (cE<|b.take i) (c.den:Int);have v:(cE<|b.take i).fdiv (gd (cE<|b.take i) (c.den:Int))=x:=by
   have:=Ę (a:=gd (cE<|b.take i) (c.den:Int)) x<|æ<|n9<|æ g;rwa[<- l] at this
  rw[v];have u:x ∣ (X:Int):=Š (show x ∣ cE (b.take i) by rw[l];show ϣ _ _) o;have:=kf u h;omega
 .rintro j ⟨y,rfl⟩;rfl';rw[ğ];show q _
abbrev dR(b:Int)(c:Rat):Int:=c.num*b.fdiv (c.den:Int)
inductive jP(xs:af)(Q:Tr->aB):Prop
 |mk(_:↑xs=2)(f:Fl)(cs:aR)(X:Nat)(_:Fp f)(_:xs=[.ah f ↥cs,.int (cE cs)])(_:vf cs X)(_:↑cs<=100)(_:∀c∈cs,bs c<=3000)(_:∀j,Q (.ah .o ((cs.map (dR (cE cs))).map ae.t)) j):jP xs Q
def FH{z:Bool}:aG P w K mg base bJ 1 T.sZ.a T.sZ.d ["fractions","bottom"] (bU K z 0 2 jP):=by
 show cu T.sZ.F NK rfl ∎ ?_
 intros
 show#[_,(aV<|bI<|gg ["fraction","bottom"] [Ä,À 1] (dY<|qv 0) (c7 0) (λ_ _ _ _ _=>(dC (a7 (qv 0) aD)<|kh (qv 1)<|a7 (qv 0) aD))),?_];intro E v _ zy;let#[_,f,b,X,_,rfl,#[g,hd,C],D,o,q]:=zy;rfl';show aY.map b _ (dR<|cE b) ⋯ (λc m R l=>?_) #[se _,q _];rfl';have e:(0:Int)<(c.den:Int):=Ň.mpr c.den_pos;let#[p1,_,p3,r]:=gy b 1 ∎;have u:=r X (ŷ _) hd;have y:=kf (hd c m) g;have B:=o c m;have A:=i1 c;show#[Ct (æ e) ⋯,fm (n:=3000) (m:=3000) ⋯ ?_ ⋯,l];let#[x,h]:=p3 c m;have j:(cE b).fdiv (c.den:Int)=x:=by
  have:=Ę (a:=(c.den:Int)) x<|æ e;rwa[<- h] at this
 rw[j];have i:x ∣ (X:Int):=Š (show x ∣ b.foldl kM 1 by rw[h];show ϣ _ _) u;have:=kf i g;omega
def uR{i j:Int}(h:i.natAbs<1000)(h':j.natAbs<1000):mS i j:=.inr #[10,∎,⋯,⋯]
abbrev v8(fs:bz)(rs:av)(us:aj):Prop:=fs.lookup ("rows":Str)=À (Tr.ah .f ↥rs)/\fs.lookup ("unknowns":Str)=À (Tr.ah .f ↥us)
def jk(f:Fl)(S:iS):v8 (iN T f S) S.rs S.us:=#[gp,cM gp]
def xS(f:Fl)(rs:av)(us:aj)(sc:aC):v8 (lW f rs us sc) rs us:=#[gp,cM gp]
def Bm{f:Fl}[h:Fp f](c:ai)(fs:bz):aI `aH=.ins f c fs:=by cases h<;>rfl
def Cv(f:Fl)(c:ai)(fs:bz)(Q:ay):pV (À<|.ins f c fs) Q=Q `aH:=rfl
inductive lB(T:Tx w K mg)(xs:af)(Q:Tr->aB):Prop
 |mk(_:↑xs=1)(f:Fl)(fs:bz)(rs:av)(us:aj)(_:Fp f)(_:xs=[.ins f T.aah fs])(_:v8 fs rs us)(_:↑rs<=100)(_:∀j,Q (.int ((↑us+2*↑rs:Nat):Int)) j):lB T xs Q
def N7{z:Bool}:aG P w K mg base bJ 1 T.vQ.a T.vQ.d ["self"] (bU K z 0 1<|lB T):=by
 show cu T.vQ.F NQ rfl ∎ ?_
 intros
 show#[_,(aV<|bI<|d8 (dN fM fN T.fO<|ak (cV K<|qv 0) aA)<|dC aD<|dN fM fN T.fO<|ak (cV K<|qv 0) aA),?_];intro g b _ zy;let#[_,f,fs,rs,us,_,rfl,h,e,q]:=zy;rfl';simp only[Bm,Cv];show i2 #[T.gh,T.q9] h.2 ?_;rfl';show i2 #[T.gh,T.sT] h.1 ?_;rfl';show#[uR ∎ ⋯,?_];rw[show (↑us:Int)+2*(↑rs:Int)=((↑us+2*↑rs:Nat):Int) by omega];show q _
inductive lA(T:Tx w K mg)(d:Nat)(xs:af)(Q:Tr->aB):Prop
 |mk(_:↑xs=2)(f:Fl)(fs:bz)(rs:av)(us:aj)(i:Nat)(_:Fp f)(_:xs=[.ins f T.aah fs,.int i])(_:v8 fs rs us)(_:i<=100)(_:∀j,Q (.int ((↑us+2*i+d:Nat):Int)) j):lA T d xs Q
def wF{z:Bool}:aG P w K mg base bJ 1 T.pD.a T.pD.d ["self","number"] (bU K z 0 2<|lA T 0):=by
 show cu T.pD.F Oh rfl ∎ ?_
 intros
 show#[_,(aV<|bI<|d8 (dN fM fN T.fO<|ak (cV K<|qv 0) aA)<|dC aD<|qv 1),?_];intro g b _ zy;let#[_,f,fs,rs,us,i,_,rfl,h,e,q]:=zy;rfl';simp only[Bm,Cv];show i2 #[T.gh,T.q9] h.2 ?_;rfl';show#[uR ∎ ⋯,?_];rw[show (↑us:Int)+2*(i:Int)=((↑us+2*i+0:Nat):Int) by omega];show q _
def wG{z:Bool}:aG P w K mg base bJ 1 T.pE.a T.pE.d ["self","number"] (bU K z 0 2<|lA T 1):=by
 show cu T.pE.F Oi rfl ∎ ?_
 intros
 show#[_,(aV<|bI<|d8 (d8 (dN fM fN T.fO<|ak (cV K<|qv 0) aA)<|dC aD<|qv 1) aD),?_];intro g b _ zy;let#[_,f,fs,rs,us,i,_,rfl,h,e,q]:=zy;rfl';simp only[Bm,Cv];show i2 #[T.gh,T.q9] h.2 ?_;rfl';show#[uR ∎ ⋯,?_];rw[show (↑us:Int)+2*(i:Int)+1=((↑us+2*i+1:Nat):Int) by omega];show q _
def YO{j:Type}(A:List j)(x:j):iY (A++[x]) Ä (À (-1))=A:=by
 have a:HT.d7 (A++[x]).length 0 Ä=0:=rfl;have b:HT.d7 (A++[x]).length (A++[x]).length (À (-1))=↑A:=by unfold HT.d7;simp;omega
 unfold iY;rw[a,b];simp
def UQ{j:Type}(A:List j)(x:j):iY (A++[x]) (À (-1)) Ä=[x]:=by
 have a:HT.d7 (A++[x]).length 0 (À (-1))=↑A:=by unfold HT.d7;simp;omega
 have b:HT.d7 (A++[x]).length (A++[x]).length Ä=↑A+1:=by unfold HT.d7;simp
 unfold iY;rw[a,b];simp
abbrev fC(us:aj)(o:bV):aR:=us.map λu=>(b4 o.1 u).getD 0
abbrev cQ(us:aj)(o:bV):aR:=fC us o++[o.2.2.1]
abbrev bo(us:aj)(o:bV):Int:=cE<|cQ us o
abbrev fH(us:aj)(o:bV):aC:=(fC us o).map<|dR<|bo us o
abbrev cX(us:aj)(o:bV):Int:=dR `ak o.2.2.1
abbrev A0(U R i:Nat)(E:aC)(x:Int)(k:Nat):Int:=if k<U then E.getD k 0 else if k=U+2*i then 1 else if k=U+2*i+1 then -1 else if k=U+2*R then x else 0
abbrev mv(us:aj)(R i:Nat)(o:bV):aC:=(È<|↑us+2*R+1).map<|A0 ↑us R i (fH us o)<|cX us o
abbrev yi(us:aj)(o:bV):Prop:=(∃X,vf (cQ us o) X)/\∀c∈cQ us o,bs c<=3000
def ZV{U R i:Nat}{E:aC}{x:Int}(g:↑E=U)(j:i<R):((E++Ò (2*R) 0++[x]).set (U+2*i+0) 1).set (U+2*i+1) (-1)=(È<|U+2*R+1).map (A0 U R i E x):=by
 apply Ŋ;intro k;rw[Θ,Θ,û,Î,Ö,Ö,ã,g];by_cases h:k<U+2*R+1
 .rw[ò h,ϥ];unfold A0;by_cases d:k<U
  .rw[au3 ⋯,au3 ⋯,ĉ (by rw[Ö,ã];omega),ĉ ⋯,au4 d,Ç,Ð ⋯];rfl
  .rw[au3 d];by_cases e:k=U+2*i
   .rw[au3 ⋯,au4 ⋯,au4 (by simp;omega),au4 e]
   .rw[au3 e];by_cases a:k=U+2*i+1
    .rw[au4 a.symm,au4 (by simp;omega),au4 a]
    .rw[au3 ⋯,au3 ⋯,au3 a];by_cases b:k=U+2*R
     .rw[au4 b,ď (by rw[Ö,ã];omega),Ö,ã,b,show U+2*R - (↑E+2*R)=0 by omega];rfl
     .rw[au3 b,ĉ (by rw[Ö,ã];omega),ď ⋯,Υ,au4 ⋯]
 .rw[ì (show (È<|U+2*R+1).length<=k by rw[Ü];omega),au3 ⋯,au3 ⋯,ì (by rw[Ö,Ö,ã,g];simp;omega)];rfl
inductive lJ(T:Tx w K mg)(xs:af)(Q:Tr->aB):Prop
 |mk(_:↑xs=3)(rs:av)(us:aj)(sc:aC)(i:Nat)(o:bV)(_:xs=[i5 T .o rs us sc,.int i,ae.t o])(_:yi us o)(_:↑rs<=16)(_:↑us<=10)(_:↑sc<=100)(_:i<↑rs)(_:∀j:af,j[0]?=À (i5 T .o rs us (sc ++ [bo us o]))->Q (.ah .o ((mv us ↑rs i o).map ae.t)) j):lJ T xs Q
def N8{z:Bool}:aG P w K mg base bJ 3 T.vR.a T.vR.d ["self","number","one"] (bU K z 3 3<|lJ T):=by
 show cu T.vR.F N4 rfl ∎ ?_
 intros
 show#[_,(aK (bM 3<|d8 (gg ["unknown","one"] [Ä,À 2] (dY<|cV K<|qv 0) (c7 0) (λ_ _ _ _ _=>(Bg (a7 (qv 1) aD) (qv 0)<|gP [0,1] T.g9 T.hG)))<|eZ<|ak (a7 (qv 2) aD) aA)
  (aK (bM 4<|qc T.sY (FG T)<|ak (qv 3) aA)
  (aK (bM 5<|qc T.sZ (FH T)<|ak (qv 3)<|ak (qv 4) aA)
  (aK (iD 6<|d8 (d8 (sr (qv 5) uV<|qq<|ia aD)<|xw (eZ<|ak aD aA)<|dC aD<|dN fM fN T.fO<|ak (cV K<|qv 0) aA)<|sr (qv 5) (qq<|ia aD) uV)
  (aK (qb (dy 6) (e7 (eF T T.pD<|wF T) `cR<|ak (qv 1) aA) aD)
  (aK (qb (dy 6) (e7 (eF T T.pE<|wG T) `cR<|ak (qv 1) aA)<|ia aD)
  (aK (m8 (sk<|dy 0)<|qv 4)
  (aV<|nh<|m9 6)))))))),?_]
 intro D y _ zy;let#[_,rs,us,sc,i,o,rfl,v,e,g,B,r,q]:=zy;rfl';simp only[K7,Cz,dO,d9,CA];show PD T ?_;rfl';show aY.map us _ (λu=>(b4 o.1 u).getD 0) ⋯ (λx C R m=>?_) ?_
 .rfl';show m
 let#[#[X,b],n]:=v;have A:(cQ us o).length=↑us+1:=by unfold cQ fC;rw[Ö,Æ];rfl
 rfl';show#[⋯,rfl,.f,cQ us o,X,inferInstance,rfl,b,λ_=>?_];rfl';show#[rfl,.f,cQ us o,X,inferInstance,rfl,b,⋯,n,λ_=>?_];rw[show (cQ us o).map (dR<|cE<|cQ us o)=fH us o++[cX us o] by unfold cQ fH cX bo;rw[ß];rfl];rfl';rw[YO,UQ];show YF T ?_;rfl';have j:(fH us o).length=↑us:=by unfold fH fC;rw[Æ,Æ]
 have h:Ŵ ae.t `aQ++Ò (2*(↑rs:Int)).toNat (Tr.int 0)++[Tr.int<|cX us o]=(fH us o++Ò (2*↑rs) 0++[cX us o]).map ae.t:=by
  rw[ß,ß,ž,show (2*(↑rs:Int)).toNat=2*↑rs by omega];rfl
 rw[h];show#[uR ∎ ⋯,rfl,⋯,⋯,by rw[ã];omega,by rw[Ö,Æ,ã];omega,fq _,uA T #[rfl,.l Å,_,rs,us,i,inferInstance,rfl,xS _ _ _ _,⋯,λ_=>ot (by simp;omega) ?_]];show uA T #[rfl,.l Å,_,rs,us,i,inferInstance,rfl,xS _ _ _ _,⋯,λ_=>ot (by simp;omega) ?_];rw[show Tr.int 1=ae.t (1:Int) from rfl,show Tr.int (-1)=ae.t (-1:Int) from rfl,<- ai9,<- ai9,ZV j r];show xv rfl #[T.gh,T.yq] (cM<|cM gp) ?_;rfl';rw[z'y];show#[⋯,q _ rfl]
def wY{D:ai->Nat->Prop}{m:Str}{i:Nat}{hs:bE}{bf:Nat->gK}{b:cG}{j:af}{Q:Tr->aB}{t:Tr}(h:j[i]?=À t)(d:t≠.aq)(q:jc D m t λc=>b j λts=>bf c (cT (t::ts))<|λx a=>pV a[0]? λu=>cP u=Â/\k6 hs 1 a (j.set i u) λe=>Q x e):tJ K D m i [] hs bf b j Q:=by
 unfold tJ;rw[h];cases t with
 |aq=>show au5 rfl d
 |_=>show#[trivial,q]
def sv{rs:List j}{i:Nat}{p:j×Nat}(h:rs.zipIdx[i]?=À p):rs[i]?=À p.1/\p.2=i:=by
 rw[š] at h;cases e:rs[i]? with
 |none=>rw[e] at h;cases h
 |some o=>rw[e] at h;cases h;show#[rfl,by simp]
abbrev ub(us:aj)(R i:Nat)(o:bV):aC:=if 0<=cX us o then mv us R i o else (mv us R i o).map λx=>-x
abbrev n6(U i:Nat)(x:Int):Nat:=if 0<=x then U+2*i else U+2*i+1
abbrev nF(us:aj)(R:Nat)(ps:List (bV×Nat)):List (aC):=ps.map λp=>ub us R p.2 p.1
abbrev oY(us:aj)(ps:List (bV×Nat)):aC:=ps.map λp=>((n6 ↑us p.2 (cX us p.1):Nat):Int)
abbrev Kz(rs:av)(us:aj):iq:=#[nF us ↑rs rs.zipIdx,oY us rs.zipIdx,1,[]]
abbrev xZ(rs:av)(us:aj):iS:=#[rs,us,rs.map<|bo us,[],Kz rs us]
structure qU(rs:av)(us:aj):Prop where
 r:↑rs<=16
 u:↑us<=10
 o:∀o∈rs,yi us o
def TK(us:aj)(R i:Nat)(o:bV)(a:i<R):c8 (mv us R i o) (-1)=À `an:=by
 unfold mv;rw[CB];unfold A0;rw[au3 ⋯,au3 ⋯,au3 ⋯,au4 rfl]
inductive lR(T:Tx w K mg)(xs:af)(Q:Tr->aB):Prop
 |mk(_:↑xs=3)(f g:Fl)(rs:av)(us:aj)(_:Fp f)(_:Fp g)(_:xs=[.ins .o T.aah [],.ah f ↥rs,.ah g ↥us])(_:qU rs us)(_:∀j:af,j[0]?=À (cF T .o (xZ rs us))->Q .aM j):lR T xs Q
def NW{z:Bool}:aG P w K mg base bJ 4 T.vP.a T.vP.d ["self","rows","unknowns"] (bU K z 1 3<|lR T):=by
 show cu T.vP.F NS rfl ∎ ?_
 intros
 show#[_,(aK (xh `cJ<|iE (iC rfl) ir T.fA<|ak (qv 1) aA)
  (aK (xh `cJ<|iE (iC rfl) ir T.fA<|ak (qv 2) aA)
  (aK (qd `cJ<|eZ aA)
  (aK (qd `cJ<|eZ aA)
  (aK (iD 3<|eZ aA)
  (aK (iD 4<|eZ aA)
  (aK (fk (su T.pz<|ak (cV K<|qv 0) aA) (gO (n:=2) rfl<|dz (cD 5)<|dz (cD 6) gL) (aK (xg 7<|pU (dy 0) (eF T T.vR<|N8 T)<|mE (qv 5)<|mE (qv 6) qe)
  (aK (bM 8<|fL BI Ba (a7 (qv 7)<|ia aD) aD)
  (aK (m8 (dy 3)<|xH (fE<|qv 8) (qv 7)<|gg ["entry"] [Ä] (dY<|qv 7) (c7 0) (λ_ _ _ _ _=>(ia<|qv 0)))
  (aV<|m8 (dy 4)<|xH (fE<|qv 8) (e7 (eF T T.pD<|wF T) (qv 0)<|ak (qv 5) aA)<|e7 (eF T T.pE<|wG T) (qv 0)<|ak (qv 5) aA)))))
  (aV<|qd (dy 0)<|JH T.vn (NV T) T.MB<|QA.aE<|ak (qv 3)<|ak (qv 4) aA)))))))),?_]
 intro M H _ zy;let#[_,f,g,rs,us,_,_,rfl,v,q]:=zy;rfl';show#[#[T.gh,T.sT],∎,#[T.gh,T.q9],∎,#[T.gh,T.yq],?_]
 (repeat first |rw[pO] |rw[oj])
 show#[(show 2<900 by decide),#[T.gh,T.yr],?_]
 (repeat first |rw[pO] |rw[oj])
 show#[(show 3<900 by decide),i2 #[T.gh,T.sT] gp ?_];rfl';show Loop.map rs.zipIdx _ (λi j=>∃a b c d,j=[i5 T .o rs us<|(rs.take i).map<|bo us,.ah f ↥rs,.ah g ↥us,.ah .o<|(nF us ↑rs<|rs.zipIdx.take i).map ae.t,.ah .o<|(oY us<|rs.zipIdx.take i).map ae.t,a,b,c,d]) #[_,_,_,_,rfl] ?_ ?_
 .rintro i ⟨o,i'⟩ j hi ⟨a,b,c,d,rfl⟩;let#[B,C]:=sv hi;dsimp only at B C;subst C;have A:i'<↑rs:=(Á.mp B).1;have y:=v.r;have aP:=v.o o<|Ì B;have G:rs.zipIdx.take (i'+1)=rs.zipIdx.take i'++[(o,i')]:=by rw[Ė,hi];rfl
  rfl';show wY rfl (by intro z;cases z)<|uA T ?_;rfl';simp only[Cz,d9];show#[rfl,rs,us,_,i',o,rfl,aP,y,v.u,by rw[Æ,Ī];omega,A,λj e=>?_];rw[e,CA];show#[Mr _ _ _ _,?_];have rep:(rs.take<|i'+1).map (bo us)=(rs.take i').map (bo us)++[bo us o]:=by rw[Ė,B,ß];rfl
  have D:nF us ↑rs (rs.zipIdx.take i'++[(o,i')])=nF us ↑rs `ea++[ub us ↑rs i' o]:=by unfold nF;rw[ß];rfl
  have E:oY us (rs.zipIdx.take i'++[(o,i')])=oY us `ea++[((n6 ↑us i' `an:Nat):Int)]:=by unfold oY;rw[ß];rfl
  have I:(nF us ↑rs<|rs.zipIdx.take i').length<=16:=by unfold nF;rw[Æ,Ī];omega
  have J:(oY us<|rs.zipIdx.take i').length<=16:=by unfold oY;rw[Æ,Ī];omega
  rfl';show dG _ _ `an (TK _ _ _ _ A) ?_;rw[rep,G,D,E];rfl';simp only[K7,dO,CA,Cz,d9];by_cases h:0<=cX us o
  .rw[au4<|au6 h,au4<|au6 h,show ub us ↑rs i' o=mv us ↑rs i' o from au4 h,show n6 ↑us i' (cX us o)=↑us+2*i'+0 from au4 h,ß,ß];show#[⋯,uA T #[rfl,.l Å,_,rs,us,i',inferInstance,rfl,xS _ _ _ _,⋯,λ_=>#[rfl,⋯,_,_,_,_,rfl]]]
  .rw[au3<|by simpa using h];show aY.map (mv us ↑rs i' o) _ (λx=>-x) (by unfold mv;simp;have:=v.u;omega) (λc m R v=>?_) #[kL _,⋯,?_]
   .rfl';show v
   .rw[eH,au3 (by simpa using h),show ub us ↑rs i' o=(mv us ↑rs i' o).map (λx=>-x) from au3 h,show n6 ↑us i' `an=↑us+2*i'+1 from au3 h,ß,ß];show uA T #[rfl,.l Å,_,rs,us,i',inferInstance,rfl,xS _ _ _ _,⋯,λ_=>#[rfl,⋯,_,_,_,_,rfl]]
 .rintro j ⟨a,b,c,d,rfl⟩;rw[ĭ,show rs.zipIdx.take ↑rs=rs.zipIdx from by rw[<- ĭ (l:=rs),ğ],ğ];rfl';show#[rfl,.l Å,.l Å,_,_,inferInstance,inferInstance,rfl,by unfold nF;rw[Æ,ĭ];have:=v.r;omega,λj e=>#[rfl,?_]];rw[e];show#[uW T _,K8 T _,?_];show#[#[T.gh,T.vL],show 4<900 by decide,q _ ?_];unfold lW
  (repeat first |rw[pO] |rw[oj])
  rfl
abbrev sgn(x:Int):Int:=if 0<=x then 1 else -1
abbrev Mx(rs:av)(us:aj)(i k:Nat):Int:=match rs[i]? with
 |some o=>sgn `an * A0 ↑us ↑rs i `aQ `an k
 |none=>0
abbrev S0(rs:av)(us:aj)(i:Nat):Nat:=match rs[i]? with
 |some o=>n6 ↑us i<|cX us o
 |none=>0
abbrev aX(rs:av)(us:aj):Nat:=↑us+2*↑rs
abbrev eQ(rs:av)(us:aj)(ss:bW)(S:Nat->Nat)(mk:a8):iS:=#[rs,us,rs.map<|bo us,ss,cS ↑rs (aX rs us) (Mx rs us) S mk]
section
variable{rs:av}{us:aj}
def qm{i:Nat}{o:bV}(h:rs[i]?=À o)(k:Nat):Mx rs us i k=sgn `an*A0 ↑us ↑rs i `aQ `an k:=by unfold Mx;rw[h]
def B1{i:Nat}{o:bV}(h:rs[i]?=À o):S0 rs us i=n6 ↑us i `an:=by unfold S0;rw[h]
def nk{i:Nat}(h:i<↑rs):∃o,rs[i]?=À o:=#[_,Ð h]
def Ls{i:Nat}(h:i<↑rs):S0 rs us i<aX rs us:=by
 let#[o,a]:=nk h;rw[B1 a];unfold n6 aX;split<;>omega
def yS:Lp.Un ↑rs `ac `cS:=by
 intro i j d g;let#[o,b]:=nk d;let#[p,a]:=nk g;rw[qm b,B1 a];unfold n6 A0;by_cases e:i=j
 .subst e;rw[b] at a;cases a;rw[au4 rfl];unfold sgn;split
  .rw[au3 ⋯,au4 rfl];rfl
  .rw[au3 ⋯,au3 ⋯,au4 rfl];rfl
 .rw[au3 e];split
  .rw[au3 ⋯,au3 ⋯,au3 ⋯,au3 ⋯,ô]
  .rw[au3 ⋯,au3 ⋯,au3 ⋯,au3 ⋯,ô]
def Lu{i:Nat}(h:i<↑rs):0<=Mx rs us i `ae:=by
 let#[o,a]:=nk h;rw[qm a];unfold A0 aX;rw[au3 ⋯,au3 ⋯,au3 ⋯,au4 rfl];unfold sgn;split<;>omega
def Lw:Lp.Gd ↑rs `ae `ac `cS:=yS.gd (λ_ h=>Ls h) λ_ h=>Lu h
def ZW:xZ rs us=eQ rs us [] `cS []:=by
 unfold xZ eQ Kz cS;rw[yS.dd];congr 2
 .unfold nF xQ;apply Ŋ;intro i;rw[Î,Î,š];by_cases h:i<↑rs
  .obtain⟨o,ho⟩:=nk h;rw[ho,ò h];simp only[ϥ,ao7];congr 1;have e:(È<|aX rs us+1).map (Lp.tt ↑rs `ac `cS i)=(È<|aX rs us+1).map (Mx rs us i):=Ģ λk _=>yS.tt k h
   rw[e];unfold ub mv;split
   .rename_i hx;show Ģ λk _=>?_
    rw[qm ho,show sgn `an=1 from au4 hx,ai8]
   .rename_i hx;rw[ð];show Ģ λk _=>?_
    rw[qm ho,show sgn `an=-1 from au3 hx];change - _=_;omega
  .rw[ì (show ↑rs<=i by omega),ì (by rw[Ü];omega)];rfl
 .unfold oY qH;apply Ŋ;intro i;rw[Î,Î,š];by_cases h:i<↑rs
  .obtain⟨o,ho⟩:=nk h;rw[ho,ò h];simp only[ϥ,ao7];rw[B1 ho]
  .rw[ì (show ↑rs<=i by omega),ì (by rw[Ü];omega)];rfl
end
def YP{j:Type}(A:List j)(x y:j)(B:List j)(k:Nat)(h:↑A=k):(A++x::B).set k y=A++y::B:=by
 subst h;rw[List.set_append_right _ _<|Ñ _,af9];rfl
abbrev cb(us:aj)(k:Int)(o:bV):Rat:=if o.2.2.2.1=k then (if o.2.1="most" then 0 else Ë o.2.2.2.2 `ak) else 0
abbrev ca(us:aj)(k:Int)(o:bV):Rat:=if o.2.2.2.1=k then (if o.2.1="least" then 0 else Ë o.2.2.2.2 `ak) else 0
abbrev bA(us:aj)(rs:av)(k:Int):aR:=Ò ↑us 0++rs.flatMap λo=>[cb us k o,ca us k o]
def z5{j:Type}(f g:j->Rat)(xs:List j):(xs.flatMap λo=>[f o,g o]).length=2*↑xs:=by
 induction xs with
 |nil=>rfl
 |cons x xs a=>rw[at4,Ö,a];simp;omega
def KZ[ae j](A:List j)(x y:j)(B:List j)(k:Nat)(h:↑A=k):((A++x::B).map ae.t).set k (ae.t y)=(A++y::B).map ae.t:=by rw[<- ai9,YP _ _ _ _ _ h]
def KI[ae j](A:List j)(x a y:j)(B:List j)(k:Nat)(h:↑A=k):((A++a::x::B).map ae.t).set (k+1) (ae.t y)=(A++a::y::B).map ae.t:=by
 have e:∀z:j,A++a::z::B=(A++[a])++z::B:=λz=>by rw[õ];rfl
 rw[e,e,KZ _ _ _ _ _ (by rw[Ö,h];rfl)]
inductive lO(T:Tx w K mg)(xs:af)(Q:Tr->aB):Prop
 |mk(_:↑xs=2)(f:Fl)(rs:av)(us:aj)(ss:bW)(S:Nat->Nat)(mk:a8)(k:Int)(_:Fp f)(_:xs=[cF T f (eQ rs us ss S mk),.int k])(_:qU rs us)(_:∀o∈rs,0<bo us o/\bi (bo us o)<=3000)(_:∀j,Q (.ah .o ((bA us rs k).map ae.t)) j):lO T xs Q
def Fx{z:Bool}:aG P w K mg base bJ 3 T.tq.a T.tq.d ["self","rank"] (bU K z 0 2<|lO T):=by
 show cu T.tq.F NH rfl ∎ ?_
 intros
 show#[_,(aK (iD 2<|xw (eZ<|ak (gP [0,1] T.g9 T.hG) aA)<|xu (eF T T.vQ<|N7 T)<|qv 0)
  (aK (fk (su T.pz<|ak (cV K<|qv 0) aA) (gO (n:=2) rfl<|dz (cD 3)<|dz (cD 4) gL) (aV (cB (b7 eI eG (a7 (qv 4) aD)<|qv 1) (aK (bM 5<|qc T.k4 (oq T)<|ak (a7 (qv 4) aD)<|ak (a7 (cV K<|qv 0)<|qv 3) aA)
  (aK (cB (b7 iB iu (a7 (qv 4) aD) gm) (aV<|qb (dy 2) (e7 (eF T T.pD<|wF T) (qv 0)<|ak (qv 3) aA)<|qv 5) cA)
  (aV<|cB (b7 iB iu (a7 (qv 4) aD) gm) (aV<|qb (dy 2) (e7 (eF T T.pE<|wG T) (qv 0)<|ak (qv 3) aA)<|qv 5) cA))) cA)))
  (aV<|nh<|m9 2))),?_]
 intro O N _ zy;let#[_,f,rs,us,ss,S,mk,k,_,rfl,B,v,q]:=zy;have H:=B.r;have G:=B.u;rfl';simp only[fu,fG,hW,je,dW];show fD T #[rfl,f,_,rs,us,‹_›,rfl,jk T f _,⋯,λ_=>?_];rfl';have E:Ò ((↑us+2*↑rs:Nat):Int).toNat (ae.t (0:Rat))=(Ò ↑us (0:Rat)++((rs.take 0).flatMap λo=>[cb us k o,ca us k o])++Ò (2*(↑rs - 0)) 0).map ae.t:=by
  rw[ad5,List.flatMap_nil,Ă,List.replicate_append_replicate,ž,Č];rfl
 rw[E];show#[rfl,⋯,⋯,fq _,xi T ?_];change iW (Pu.aE<|Tr.ah .f ↥rs) _;rfl';show Loop.map rs.zipIdx _ (λi j=>∃a b c,j=[cF T f<|eQ rs us ss S mk,.int k,.ah .o<|(Ò ↑us (0:Rat)++((rs.take i).flatMap λo=>[cb us k o,ca us k o])++Ò (2*(↑rs - i)) 0).map ae.t,a,b,c]) #[_,_,_,rfl] ?_ ?_
 .rintro i ⟨o,i'⟩ j hi ⟨a,b,c,rfl⟩;let#[l,A]:=sv hi;dsimp only at l A;subst A;have I:i'<↑rs:=(Á.mp l).1;have M:rs.take (i'+1)=rs.take i'++[o]:=by rw[Ė,l];rfl
  have g:(Ò ↑us (0:Rat)++((rs.take i').flatMap λo=>[cb us k o,ca us k o])).length=↑us+2*i':=by rw[Ö,ã,z5,Ī];omega
  have C:Ò (2*(↑rs - i')) (0:Rat)=0::0::Ò (2*(↑rs - (i'+1))) 0:=by
   rw[show 2*(↑rs - i')=2*(↑rs - (i'+1))+1+1 by omega];rfl
  have D:Ò ↑us (0:Rat)++((rs.take<|i'+1).flatMap λo=>[cb us k o,ca us k o])++Ò (2*(↑rs - (i'+1))) 0=(Ò ↑us (0:Rat)++((rs.take i').flatMap λo=>[cb us k o,ca us k o]))++cb us k o::ca us k o::Ò (2*(↑rs - (i'+1))) 0:=by
   rw[M,List.flatMap_append,List.flatMap_singleton,<- õ,õ];rfl
  rw[C,D];generalize Ò ↑us (0:Rat)++((rs.take i').flatMap λo=>[cb us k o,ca us k o])=L at g ⊢;generalize Ò (2*(↑rs - (i'+1))) (0:Rat)=Z;rfl';by_cases h:o.2.2.2.1=k
  .rw[au4<|au6 h];simp only[fu,fG,hW,je,dW];show Gz T ?_;change gM (.ah f<|(rs.map<|bo us).map ae.t) (.int i') _;rw[iZ,iT];show dG _ _ `ak (fB (by rw[Î,l];rfl)) ?_;rfl';show#[rfl,o.2.2.2.2,bo us o,rfl,æ (v o<|Ì l).1,by have:=(v o<|Ì l).2;omega,λ_=>?_];rfl';unfold cb ca;rw[au4 h,au4 h];have J:(↑us+2*i'+0:Nat)<((L++(0:Rat)::0::Z).map ae.t).length:=by rw[Æ,Ö,g];simp
   have y:∀x:Rat,(↑us+2*i'+1:Nat)<((L++x::(0:Rat)::Z).map ae.t).length:=λx=>by rw[Æ,Ö,g];simp
   by_cases m:o.2.1="most"
   .have e:¬ o.2.1="least":=by rw[m];decide +kernel
    rw[au4 m,au3 e,au3 (by simp[m]),au4<|by simp[e]];show fD T #[rfl,f,_,rs,us,i',‹_›,rfl,jk T f _,⋯,λ_=>ot (y 0) ?_];rw[KI _ _ _ _ _ _ g];show#[_,_,_,rfl]
   .rw[au3 m,au4<|by simp[m]];show fD T #[rfl,f,_,rs,us,i',‹_›,rfl,jk T f _,⋯,λ_=>ot J ?_];rw[KZ _ _ _ _ _ (show ↑L=↑us+2*i'+0 from g)];by_cases e:o.2.1="least"
    .rw[au4 e,au3<|by simp[e]];show#[_,_,_,rfl]
    .rw[au3 e,au4<|by simp[e]];show fD T #[rfl,f,_,rs,us,i',‹_›,rfl,jk T f _,⋯,λ_=>ot (y _) ?_];rw[KI _ _ _ _ _ _ g];show#[_,_,_,rfl]
  .rw[au3<|by simpa using h];unfold cb ca;rw[au3 h,au3 h];show#[_,_,_,rfl]
 .rintro j ⟨a,b,c,rfl⟩;rw[ĭ,ğ,af9,Nat.mul_zero,List.replicate_zero,Ă];rfl';show q _
abbrev gq(us:aj)(R:Nat)(ps:List (Str×Rat)):aR:=(us.map λx=>(b4 ps x).getD 0)++Ò (2*R) 0
inductive gU(T:Tx w K mg)(xs:af)(Q:Tr->aB):Prop
 |mk(_:↑xs=2)(f g:Fl)(rs:av)(us:aj)(ss:bW)(S:Nat->Nat)(mk:a8)(ps:List (Str×Rat))(_:Fp f)(_:Fp g)(_:xs=[cF T f (eQ rs us ss S mk),cO g ps])(_:qU rs us)(_:∀j,Q (.ah .o ((gq us ↑rs ps).map ae.t)) j):gU T xs Q
def Fu{z:Bool}:aG P w K mg base bJ 2 T.tw.a T.tw.d ["self","parts"] (bU K z 0 2<|gU T):=by
 show cu T.tw.F Ny rfl ∎ ?_
 intros
 show#[_,(aK (mY 2 ["unknown","parts"] [Ä,À 1] (dY<|cV K<|qv 0) (c7 0) (λ_ _ _ _ _=>(Bg `bX `cR<|gP [0,1] T.g9 T.hG)))
  (aV<|bI<|d8 (qv 2)<|xw (eZ<|ak (gP [0,1] T.g9 T.hG) aA)<|dC aD<|dN fM fN T.fO<|ak (cV K<|qv 0) aA)),?_]
 intro n l _ zy;let#[_,f,g,rs,us,ss,S,mk,e,_,_,rfl,b,q]:=zy;have j:=b.r;have i:=b.u;rfl';simp only[fu,fG,hW,je,dW];show FU T ?_;change iW (Tr.ah .f ↥us) _;rfl';show aY.map us _ (λx=>(b4 e x).getD 0) ⋯ (λx m R b=>?_) ?_
 .rfl';show b
 .rfl';show xi T ?_;change rp _ [Tr.ah .f ↥rs] _;rfl';have h:Ŵ ae.t (us.map λx=>(b4 e x).getD 0)++Ò (2*(↑rs:Int)).toNat (ae.t (0:Rat))=(gq us ↑rs e).map ae.t:=by
   unfold gq;rw[ß,ž,show (2*(↑rs:Int)).toNat=2*↑rs by omega]
  rw[h];show#[uR ∎ ⋯,rfl,⋯,⋯,by rw[ã];omega,nu _,q _]
abbrev cJ(cs:aR):aC:=cs.map<|dR<|cE cs
structure fh(rs:av)(us:aj)(cs:aR):Prop where
 l:↑cs=aX rs us
 x:∃X,vf cs X
 b:∀c∈cs,bs c<=3000
 n:∀c∈cJ cs,bi c<=3000
 p:∀c∈cs,0<=c
def fh.c{rs:av}{us:aj}{cs:aR}(h:fh rs us cs):pK `dj `ae:=#[by unfold cJ;rw[Æ];show h.l,h.n]
def fh.nn{rs:av}{us:aj}{cs:aR}(h:fh rs us cs)(k:Nat):0<=cf `dj k:=by
 unfold cf cJ;rw[Ç,Î];cases e:cs[k]? with
 |none=>show aq7 _
 |some c=>
  have p:=h.p c<|Ì e;have a:=(gy cs 1 ∎).1;change 0<=dR `eb c;unfold dR;show Ů (Ϙ.mpr p)<|Int.fdiv_nonneg (Ĳ a)<|ό _
def ZX{m n:Nat}{M:aN}{S:Nat->Nat}{c:Nat->Int}{sh:Nat->Prop}{e:Nat}(G:Lp.Gd m n M S)(b:∀k,0<=c k)(a:c n=0)(E:Lp.Ent m n M c sh S e)(h:∀i,i<m->Lp.tt m M S i e<=0):False:=by
 have ne:∀i,i<m->S i≠e:=λi d q=>by have:=E.2.1;rw[<- q,Lp.ee d] at this;omega
 let#[j,_,_,r4]:=Lp.TM G E.1 ne h a;have:0<=Lp.sm n λk=>c k*Lp.dr m M S e k:=Lp.dP λk g=>Ů (b k)<|j k g
 have:=E.2.1;omega
def xB{ns:aC}{n:Nat}(h:↑ns=n):cf ns n=0:=by unfold cf;rw[Ç,ì ⋯];rfl
abbrev dF(rs:av)(us:aj)(cs:aR)(S:Nat->Nat):aR:=(È<|aX rs us+1).map λk=>Ë (Lp.zz ↑rs `ac (cf<|cJ cs) S k)<|cE cs*Lp.dd ↑rs (Mx rs us) S
def TL[ae j](xs:List j)(x:j):↥xs++[ae.t x]=(xs++[x]).map ae.t:=by rw[ß];rfl
inductive oG(T:Tx w K mg)(xs:af)(Q:Tr->aB):Prop
 |mk(_:↑xs=2)(g:Fl)(rs:av)(us:aj)(ss:bW)(S:Nat->Nat)(mk:a8)(cs:aR)(_:Fp g)(_:xs=[cF T .o (eQ rs us ss S mk),.ah g ↥cs])(_:Sz ↑rs (aX rs us) (Mx rs us))(_:Lp.Gd ↑rs (aX rs us) (Mx rs us) S)(_:jV ↑rs mk S)(_:fh rs us cs)(_:↑mk<=10000)(_:↑ss<=1000)(_:∀S',Lp.Gd ↑rs (aX rs us) (Mx rs us) S'->jV ↑rs mk S'->yh ↑rs (aX rs us) (Mx rs us) mk (cf (cJ cs)) S'->∀j:af,j[0]?=À (cF T .o (eQ rs us (ss ++ [dF rs us cs S']) S' (fT ↑rs (aX rs us) (Mx rs us) mk (cf (cJ cs)) S' ↑ss (aX rs us))))->Q .aM j):oG T xs Q
def zQ{z:Bool}:aG P w K mg base bJ 4 T.rf.a T.rf.d ["self","costs"] (bU K z 2 2<|oG T):=by
 show cu T.rf.F N2 rfl ∎ λbK A outer s H E hr hu B=>?_
 show#[_,(aK (bM 2<|qc T.sY (FG T)<|ak (qv 1) aA)
  (aK (bM 3<|qc T.sZ (FH T)<|ak (qv 1)<|ak (qv 2) aA)
  (aK (xg 4<|pU (sk<|dy 0) (mD T T.vo<|N6 T)<|mE (qv 3) qe)
  (aK (cB (b7 AU z3 (qv 4) jz) (aK uj
  (aV uj)) cA)
  (aK (xg 6<|pU (sk<|dy 0) (mD T T.vt<|NC T)<|mE (qv 3)<|mE (dN fM fN T.fO<|ak (cV K<|qv 0) aA) qe)
  (aK (m8 (sk<|dy 0)<|gg ["entry","scale","self"] [Ä,À 2,À 0] (dY<|qv 6) (c7 0) (λ_ _ _ _ _=>(qc T.k4 (oq T)<|ak (qv 0)<|ak (dC (qv 1)<|cV K<|cV K<|qv 2) aA)))
  (aV<|bI jz))))))),?_]
 intro xs C _ zy;let#[_,g,rs,us,ss,S,mk,h,_,rfl,y,G,B,j,hm,hs,q]:=zy;let#[X,v]:=j.x;have hn:=y.hn;have Y:=j.l;rfl';show#[rfl,g,h,X,‹_›,rfl,v,λ_=>?_];rfl';show#[rfl,g,h,X,‹_›,rfl,v,⋯,j.b,λ_=>?_];rfl';show Gx rfl #[T.gh,T.vL] (cM<|cM<|cM<|cM gp)<|oh T ?_;rfl';simp only[jD,d9];show#[rfl,.f,rs.length,aX rs us,Mx rs us,S,mk,cJ h,inferInstance,rfl,y,G,B,j.c,λi r u I U e=>?_,λi e r u D Q=>(ZX r j.nn (xB j.c.1) D Q).elim];rw[e,hV];show#[uW T _,?_];rw[IA];rfl';rw[Bl];rfl';show Gx rfl #[T.gh,T.vL] (cM<|cM<|cM<|cM gp)<|oh T ?_;rfl';rw[KH];show rG T ?_;change rp _ [Tr.ah _ ↥ss] _;rfl';simp only[jD,d9];show#[rfl,.f,rs.length,aX rs us,Mx rs us,i,mk,cJ h,_,inferInstance,rfl,y,r.lt,j.c,hm,λU e=>?_];rw[e,hV];show#[uW T _,?_];rw[IA];show xv rfl #[T.gh,T.yr] (cM<|cM<|cM gp) ?_;rfl';rw[KH,gE,lp];have N:=(gy h 1 ∎).1;have O:=kf ((gy h 1 ∎).2.2.2 X (ŷ _) v.2.1) v.1;have M:=v.2.2;have hd:=y.d i r.lt;show aY.map _ _ (λn=>Ë n<|cE h*Lp.dd ↑rs (Mx rs us) i) (by rw[Æ,Ü];omega) (λn hn R J=>?_) #[kL _,show ↑ss<1000000 by omega,?_]
 .rfl';simp only[dW];show An T<|wQ T ?_;rfl';show#[fm (n:=3000) (m:=3000) (by unfold cE;omega) hd ⋯,rfl,n,_,rfl,æ<|Ŷ N r.pos,Ï (dZ (cE h)<|Lp.dd ↑rs (Mx rs us) i) (by unfold cE;omega),λ_=>J]
 .rw[eH,ð]
  change C Tr.aM (Tr.ins .o T.aah (hU "settled" (.ah .o<|↥ss++[ae.t<|dF rs us h i])<|iN T .o<|eQ rs us ss i<|fT ↑rs (aX rs us) (Mx rs us) mk (cf<|cJ h) i ↑ss<|aX rs us)::_)
  rw[TL,YG];show q i r u I _ rfl
inductive oO(T:Tx w K mg)(xs:af)(Q:Tr->aB):Prop
 |mk(_:↑xs=2)(f:Fl)(S:iS)(i:Nat)(r:aR)(x:Rat)(_:Fp f)(_:xs=[cF T f S,.int i])(_:S.ss[i]?=À (r ++ [x]))(_:bs x<=7000)(_:∀j,Q (ae.t (0 - x)) j):oO T xs Q
def zM{z:Bool}:aG P w K mg base bJ 4 T.rg.a T.rg.d ["self","place"] (bU K z 0 2<|oO T):=by
 show cu T.rg.F Oj rfl ∎ ?_
 intros
 show#[_,(aV<|bI<|qc T.ra (Ao T)<|ak (gP [0,1] T.g9 T.hG)<|ak (a7 (a7 (cV K<|qv 0)<|qv 1)<|ia aD) aA),?_];intro j e _ zy;let#[_,f,S,i,r,x,_,rfl,b,h,q]:=zy;rfl';simp only[fu,hW,dW];show rG T ?_;rfl';show dG _ _ (r++[x]) (fB b) ?_;rw[gE,iZ,iT,HI];show dG _ _ x rfl ?_;rw[ko,jF];have g:bs (0:Rat)<=10:=by walk_at "k"
 show#[rfl,0,x,rfl,⋯,λ_=>#[jf _,q _]]
abbrev xW(rs:av)(us:aj)(S:Nat->Nat)(p:Str×Nat):Str×Rat:=(p.1,ku ↑rs `ae `ac S p.2)
abbrev oU(rs:av)(us:aj)(S:Nat->Nat):List (Str×Rat):=us.zipIdx.map<|xW rs us S
def Gp{us:aj}(h:us.Nodup){i:Nat}{u:Str}(e:us[i]?=À u):¬ u∈us.take i:=λm=>by
 ∎;let#[j,g,b]:=ģ.mp m;let#[d,a]:=Á.mp e;∎;show (Ũ.mp h) j i ⋯ d ⋯ (b.trans a.symm)
def lj[ae j](m:List (Str×j)):mL `aX=Â:=by
 have:=k9<|m.map λp=>((Sum.inr p.1:aW),p.2);rw[ð] at this;show this
inductive oK(T:Tx w K mg)(xs:af)(Q:Tr->aB):Prop
 |mk(_:↑xs=1)(f:Fl)(rs:av)(us:aj)(ss:bW)(S:Nat->Nat)(mk:a8)(_:Fp f)(_:xs=[cF T f (eQ rs us ss S mk)])(_:Sz ↑rs (aX rs us) (Mx rs us))(_:Lp.Gd ↑rs (aX rs us) (Mx rs us) S)(_:us.Nodup)(_:↑us<=50)(_:∀j,Q (.aT .o ((oU rs us S).map 1e1)) j):oK T xs Q
def zP{z:Bool}:aG P w K mg base bJ 4 T.rh.a T.rh.d ["self"] (bU K z 0 1<|oK T):=by
 show cu T.rh.F N5 rfl ∎ ?_
 intros
 show#[_,(aK (iD 1 xt)
  (aK (fk (su T.pz<|ak (cV K<|qv 0) aA) (gO (n:=2) rfl<|dz (cD 2)<|dz (cD 3) gL)<|aV<|xK (dy 1) (qv 3)<|e7 (mD T T.vO<|OG T) (cV K<|qv 0)<|ak (qv 2) aA)
  (aV<|nh<|m9 1))),?_]
 intro D B _ zy;let#[_,f,rs,us,ss,S,mk,_,rfl,g,G,hn,C,q]:=zy;rfl';simp only[fu,dW];show#[rfl,FU T ?_];change iW (Pu.aE<|Tr.ah .f ↥us) _;rfl';show Loop.map us.zipIdx _ (λi J=>∃y z,J=[cF T f<|eQ rs us ss S mk,.aT .o<|((us.zipIdx.take i).map<|xW rs us S).map 1e1,y,z]) #[_,_,rfl] ?_ ?_
 .rintro i ⟨u,j⟩ J hj ⟨y,z,rfl⟩;let#[e,h]:=sv hj;dsimp only at e h;subst h;have r:=(Á.mp e).1;rfl';simp only[fu,dW];show An T ?_;simp only[jD,hW,je];show oh T #[rfl,_,_,_,_,_,_,j,inferInstance,rfl,g,G,by unfold aX;omega,λ_=>?_];rfl';have m:qE ((us.zipIdx.take j).map<|xW rs us S) u (ku ↑rs `ae `ac S j)=(us.zipIdx.take<|j+1).map (xW rs us S):=by
   rw[gY,Ė,hj,ae7,ß]
   .rfl
   .intro z g;let#[#[x,k],v,rfl]:=á.mp g;rintro rfl;show Gp hn e ?_;let#[A,b,l]:=ģ.mp v;have:=sv<|Á.mpr #[⋯,l];show ģ.mpr #[A,by rw[ĭ] at b;show b,(Á.mp this.1).2]
  rw[m];show#[by rw[Ī];omega,_,_,rfl]
 .rintro J ⟨y,z,rfl⟩;rw[ğ];rfl';show#[(cq _<|lj _).o,q _]
def xC{x:Int}(h:bi x<=100):bs (x:Rat)<=100:=by
 unfold bs;change max (bl x.natAbs) (bl 1)<=100;have:bl 1<=1:=by walk_at "k"
 unfold bi at h;omega
abbrev Bd(lr:aR):Prop:=∀x∈lr,bs x<=3900
abbrev oW(kind:Str)(sc:Int)(b a:Rat):Rat:=if kind="least" then a*(sc:Rat) else if kind="most" then b*((-sc:Int):Rat) else (a - b)*Ë sc 2
abbrev oV(rs:av)(us:aj)(a:aR)(i:Nat):Rat:=match rs[i]? with
 |some o=>oW o.2.1 `ak (a.getD (↑us + 2 * i) 0)<|a.getD (↑us + 2 * i + 1) 0
 |none=>0
abbrev fS(rs:av)(us:aj)(a:aR):aR:=(È ↑rs).map<|oV rs us a
inductive jK(T:Tx w K mg)(xs:af)(Q:Tr->aB):Prop
 |mk(_:↑xs=3)(f g:Fl)(rs:av)(us:aj)(ss:bW)(S:Nat->Nat)(mk:a8)(i:Nat)(lr:aR)(o:bV)(_:Fp f)(_:Fp g)(_:xs=[cF T f (eQ rs us ss S mk),.int i,.ah g ↥lr])(_:i<=100)(_:rs[i]?=À o)(_:↑lr=↑us+2*↑rs+1)(_:Bd lr)(_:bi (bo us o)<=100)(_:∀j,Q (ae.t (oW o.2.1 (bo us o) (lr.getD (↑us+2*i) 0) (lr.getD (↑us+2*i+1) 0))) j):jK T xs Q
def OK{z:Bool}:aG P w K mg base bJ 4 T.vT.a T.vT.d ["self","number","left"] (bU K z 0 3<|jK T):=by
 show cu T.vT.F Om rfl ∎ ?_
 intros
 show#[_,(aK (bM 3<|a7 (qv 2)<|e7 (eF T T.pD<|wF T) (qv 0)<|ak (qv 1) aA)
  (aK (bM 4<|a7 (qv 2)<|e7 (eF T T.pE<|wG T) (qv 0)<|ak (qv 1) aA)
  (aK (bM 5<|a7 (a7 (cV K<|qv 0)<|qv 1) aD)
  (aK (bM 6<|a7 (cV K<|qv 0)<|qv 1)
  (aK (cB `dH (aV<|bI<|qc T.nS (ur T)<|ak (qv 4)<|ak (gn<|ak (qv 6)<|ak aD aA) aA) cA)
  (aK (cB `dH (aV<|bI<|qc T.nS (ur T)<|ak (qv 3)<|ak (gn<|ak (ia<|qv 6)<|ak aD aA) aA) cA)
  (aV<|bI<|qc T.nS (ur T)<|ak (qc T.ra (Ao T)<|ak (qv 4)<|ak (qv 3) aA)<|ak (qc T.k4 (oq T)<|ak (qv 6)<|ak aD aA) aA))))))),?_]
 intro I D _ zy;let#[_,f,g,rs,us,ss,S,mk,i,n,o,_,_,rfl,G,l,H,r,m,q]:=zy;have y:=(Á.mp l).1;rfl';simp only[fu,fG,hW,je,dW];show fD T #[rfl,f,_,rs,us,i,‹_›,rfl,jk T f _,⋯,λ_=>?_];obtain⟨b,eb⟩:∃b,n[us.length+2*i+0]?=À b:=#[_,Ð ⋯];obtain⟨a,j⟩:∃a,n[us.length+2*i+1]?=À a:=#[_,Ð ⋯];rw[Ç,Ç,j,show n[us.length+2*i]?=À b from eb] at q;have u:=r b<|Ì eb;have v:=r a<|Ì j;rfl';show dG _ _ b (fB eb) ?_;rfl'
 try simp only[fu,fG,hW,je,dW]
 show fD T #[rfl,f,_,rs,us,i,‹_›,rfl,jk T f _,⋯,λ_=>?_];rfl';show dG _ _ a (fB j) ?_;rfl'
 try simp only[fu,fG,hW,je,dW]
 show xi T ?_;rfl';show dG _ _ o (fB l) ?_;rfl';show Gz T ?_;change gM (.ah f<|(rs.map<|bo us).map ae.t) `aE _;rw[iZ,iT];show dG _ _ `ak (fB (by rw[Î,l];rfl)) ?_;rfl';have B:=xC m;have C:=xC (x:=-bo us o) (by unfold bi;rw[Ś];show m);unfold oW at q;by_cases e:o.2.1="least"
 .rw[au4<|au6 e];rw[au4 e] at q;show#[rfl,a,(bo us o:Rat),rfl,⋯,λ_=>#[jf _,q _]]
 .rw[au3<|by simpa using e];rw[au3 e] at q;by_cases h:o.2.1="most"
  .rw[au4<|au6 h];rw[au4 h] at q;show#[rfl,b,((-bo us o:Int):Rat),rfl,⋯,λ_=>#[jf _,q _]]
  .rw[au3<|by simpa using h];rw[au3 h] at q;have A:=xm a b;have E:bs (Ë `ak 2)<=100:=n7 ∎ m (by walk_at "k");show#[rfl,a,b,rfl,⋯,λ_=>#[rfl,_,2,rfl,∎,by walk_at "k",λ_=>?_]];rw[ko,jF];show#[rfl,_,_,rfl,⋯,λ_=>#[jf _,q _]]
inductive iK(T:Tx w K mg)(xs:af)(Q:Tr->aB):Prop
 |mk(_:↑xs=2)(f g:Fl)(rs:av)(us:aj)(ss:bW)(S:Nat->Nat)(mk:a8)(lr:aR)(_:Fp f)(_:Fp g)(_:xs=[cF T f (eQ rs us ss S mk),.ah g ↥lr])(_:↑rs<=100)(_:↑lr=↑us+2*↑rs+1)(_:Bd lr)(_:∀o∈rs,bi (bo us o)<=100)(_:∀j,Q (.ah .o ((fS rs us lr).map ae.t)) j):iK T xs Q
def FK{z:Bool}:aG P w K mg base bJ 5 T.tE.a T.tE.d ["self","left"] (bU K z 0 2<|iK T):=by
 show cu T.tE.F N3 rfl ∎ ?_
 intros
 show#[_,(aV<|bI<|gg ["number","left","self"] [Ä,À 1,À 0] (uI T.mQ<|ak (dN fM fN T.fO<|ak (cV K<|qv 0) aA) aA) (c7 0) (λ_ _ _ _ _=>(e7 (eF T T.vT<|OK T) (qv 2)<|ak (qv 0)<|ak (qv 1) aA))),?_];intro u r _ zy;let#[_,f,g,rs,us,ss,S,mk,h,_,_,rfl,j,n,l,o,q]:=zy;rfl';simp only[fu,fG,hW,je,dW];show xi T ?_;rfl'
 change -1000000<=(↑rs:Int)/\(↑rs:Int)<=1000000/\aY (Ŵ (λi:Nat=>Tr.int (i:Int))<|È ((↑rs:Int)).toNat) _ _ _ _ _
 rw[Č];show#[⋯,⋯,aY.map (È ↑rs) _ (oV rs us h) (by rw[Ü];omega) (λi m R e=>?_) #[se _,q _]];have b:=ħ.mp m;rfl'
 try simp only[fu,fG,hW,je,dW]
 show fD T #[rfl,f,g,rs,us,ss,S,mk,i,h,rs[i],‹_›,‹_›,rfl,⋯,Ð b,n,l,o _<|Ϛ b,λ_=>?_];unfold oV at e;rw[Ð b] at e;show e
def ZY{a b:Rat}(h:b≠0):bs (a / b)<=bs a+bs b:=by
 have hn:b.num≠0:=λz=>h<|Rat.num_eq_zero.mp z
 rw[<- Ga];show n7 (Ϭ (by have:=a.den_nz;omega) hn) (Ï `bb (by have:=i1 a;have:=gx b;omega)) (Ï `bb (by have:=gx a;have:=i1 b;omega))
def uE{neg:Bool}{a b:Rat}{Q:ay}(q:Q (.bl (if neg=Â then !decide (a=b) else decide (a=b)))):lY neg `bT (ae.t b) Q:=by
 show .inr #[decide<|a=b,?_,show (1:Nat)<=60 by decide,Ñ 1,q];change (if 2=2 then (À<|decide<|a.num=b.num).bind λx=>((À<|decide<|(a.den:Int)=b.den).bind λy=>(À Â).bind λz=>À<|y&&z).bind λy=>À (x&&y) else Ä)=_;rw[au4 rfl];change À (decide (a.num=b.num)&&(decide ((a.den:Int)=b.den)&&Â))=_;congr 1;by_cases h:a=b
 .subst h;simp
 .rw[au7 h];by_cases d:a.num=b.num
  .have h2:¬ (a.den:Int)=b.den:=λz=>h<|Rat.ext d ⋯
   rw[au7 h2,ad0,aj8]
  .rw[au7 d,ad0]
structure qO(C:Nat)(ss:bW)(mk:a8):Prop where
 r:∀row∈ss,∀v∈row,bs v<=3000
 m:∀p∈mk,∃kn j:Nat,p.2=À (kn:Int)/\p.1=Sum.inl (j:Int)/\j<C/\∃row v,ss[kn]?=À row/\row[j]?=À v/\0<v
abbrev u4(a:aR)(ss:bW)(k:Nat)(j:Nat):Rat:=(0 - a.getD j 0) / (ss.getD k []).getD j 0
abbrev jQ(b:aR)(ss:bW)(k:Nat)(s:Rat)(p:aW×bR):Rat:=match p with
 |(.inl j,À a)=>if a=(k:Int) then (if s < u4 b ss k j.toNat then u4 b ss k j.toNat else s) else s
 |_=>s
abbrev shr(a:aR)(ss:bW)(k:Nat)(mk:a8):Rat:=mk.foldl (jQ a ss k) 0
inductive jL(T:Tx w K mg)(xs:af)(Q:Tr->aB):Prop
 |mk(_:↑xs=3)(g:Fl)(rs:av)(us:aj)(ss:bW)(S:Nat->Nat)(mk:a8)(lr:aR)(k C:Nat)(_:Fp g)(_:xs=[cF T .f (eQ rs us ss S mk),.ah g ↥lr,.int k])(_:qO C ss mk)(_:↑lr=C+1)(_:Bd lr)(_:∀j,Q (ae.t (shr lr ss k mk)) j):jL T xs Q
def NX:aG P w K mg base bJ 4 T.vS.a T.vS.d ["self","left","ahead"] (bU K Â 0 3<|jL T):=by
 show cu T.vS.F NT rfl ∎ ?_
 intros
 show#[_,(aK (bM 3<|gP [0,1] T.g9 T.hG)
  (aK (Zi (cV K<|cV K<|qv 0) (gO (n:=2) rfl<|dz (cD 4)<|dz (cD 5) gL) (aV (cB (b7 eI eG (qv 5)<|qv 2) (aK (bM 6<|qc T.sW (IF T)<|ak (qc T.ra (Ao T)<|ak (gP [0,1] T.g9 T.hG)<|ak (a7 (qv 1)<|qv 4) aA)<|ak (a7 (a7 (cV K<|qv 0)<|qv 2)<|qv 4) aA)
  (aV<|bM 3<|xH (fE<|qc T.pw (wX T)<|ak (qv 3)<|ak (qv 6) aA) (qv 6)<|qv 3)) cA)))
  (aV<|bI<|qv 3))),?_]
 intro xs Q' _ zy;let#[_,g,rs,us,ss,S,m,h,k,C,_,rfl,J,U,Q,q]:=zy;rfl';simp only[fu,fG,dO,d9,dW];show An T<|AE T ?_;have N:Pu.aE (.aT .f<|mT m)=.aT .f `es:=rfl
 change bX (Tr.aT .f<|mT m)=Â/\mU (Pu.aE<|Tr.aT .f<|mT m) _
 rw[N];show#[(cq _<|k9 m).t,#[λi G=>∃a b c,G=[cF T .f<|eQ rs us ss S m,.ah g ↥h,.int k,ae.t<|(m.take i).foldl (jQ h ss k) 0,a,b,c]/\bs ((m.take i).foldl `cK 0)<=6910,#[_,_,_,rfl,by rw[ad5];change bs 0<=6910;rw[kE];decide],?_,?_]]
 .rintro i p G hp ⟨a,b,c,rfl,hsb⟩;unfold mT at hp;rw[Î] at hp;cases e:m[i]? with
  |none=>rw[e] at hp;cases hp
  |some E=>
  rw[e] at hp;cases hp;have tk:(m.take<|i+1).foldl `cK 0=jQ h ss k ((m.take i).foldl `cK 0) E:=by rw[Ė,e,at6];rfl
  let#[kn,j,H,I,hj,o,v,y,A,M]:=J.m E<|Ì e;obtain⟨x,ex⟩:∃x,h[j]?=À x:=#[_,Ð (by rw[U];omega)];have β:=Q x<|Ì ex;have α:=J.r o (Ì y) v<|Ì A;let#[y1,y2]:=E;dsimp only at H I;subst H I;change nI _ _ (.aJ [.int (j:Int),.int (kn:Int)]) _ _;rfl';simp only[tk];generalize (m.take i).foldl `cK 0=sh at hsb ⊢;by_cases B:(kn:Int)=(k:Int)
  .rw[au4<|au6 B];have D:kn=k:=⋯
   subst D;have O:u4 h ss kn j=(0 - x) / v:=by
    unfold u4;rw[Ç,ex,Ç,Ç,y];simp[A]
   have es:jQ h ss kn sh (Sum.inl (j:Int),À (kn:Int))=if sh<(0 - x) / v then (0 - x) / v else sh:=by
    unfold jQ;dsimp only;rw[au4 rfl,Č,O]
   rw[es];show dG _ _ x (fB ex) ?_;rfl';show#[rfl,0,x,rfl,by rw[kE];omega,λ_=>?_];rfl';simp only[fu,dO,dW];show rG T ?_;rfl';show dG _ _ o (fB y) ?_;rw[gE,iZ,iT];show dG _ _ v (fB A) ?_;have Y:=xm 0 x;rw[kE] at Y;have u:v≠0:=λz=>by rw[z] at M;show au5 M ∎
   rw[ko,jF];show#[rfl,0 - x,v,rfl,u,⋯,λ_=>#[kN _,?_]];have hd:=ZY (a:=0 - x) (b:=v) u;rfl';show#[rfl,sh,(0 - x) / v,rfl,⋯,λ_=>?_];rfl';by_cases l:sh<(0 - x) / v
   .rw[au4<|au6 l,au4 l];show#[_,_,_,rfl,⋯]
   .rw[au3 (by simpa using l),au3 l];show#[_,_,_,rfl,hsb]
  .rw[au3<|by simpa using B];have es:jQ h ss k sh (Sum.inl (j:Int),À (kn:Int))=sh:=by unfold jQ;dsimp only;rw[au3 B]
   rw[es];show#[_,_,_,rfl,hsb]
 .rintro G ⟨a,b,c,rfl,_⟩;rfl';rw[show (m.take (mT m).length)=m by unfold mT;rw[Æ,ğ]];show q _
abbrev xX(ss:bW)(mk:a8)(st:aR×aR)(k:Nat):aR×aR:=(if shr st.1 ss k mk=0 then st.1 else ϯ (λa b=>a+shr st.1 ss k mk*b) st.1 (ss.getD k []),st.2++[shr st.1 ss k mk])
abbrev pp(ss:bW)(mk:a8)(i:Nat):Nat->aR×aR
 |0=>(ss.getD i [],[])
 |j + 1=>xX ss mk (pp ss mk i j)<|i - 1 - j
structure EN(C:Nat)(ss:bW)(mk:a8)(i:Nat):Prop where
 l:∀j,j<=i->(pp ss mk i j).1.length=C+1/\Bd (pp ss mk i j).1
 s:∀j,j<i->∀b∈ss.getD (i - 1 - j) [],bs (shr (pp ss mk i j).1 ss (i - 1 - j) mk)+bs b<=7990/\bs (shr (pp ss mk i j).1 ss (i - 1 - j) mk*b)<=4000
inductive jJ(T:Tx w K mg)(xs:af)(Q:Tr->aB):Prop
 |mk(_:↑xs=2)(rs:av)(us:aj)(ss:bW)(S:Nat->Nat)(mk:a8)(i:Nat)(_:xs=[cF T .f (eQ rs us ss S mk),.int i])(_:↑rs<=16)(_:↑us<=10)(_:i<↑ss)(_:↑ss<=1000)(_:qO (aX rs us) ss mk)(_:EN (aX rs us) ss mk i)(_:∀o∈rs,bi (bo us o)<=100)(_:∀j,Q (.aJ [.ah .o ((fS rs us (pp ss mk i i).1).map ae.t),.ah .o ((pp ss mk i i).2.reverse.map ae.t)]) j):jJ T xs Q
def Bn{ss:bW}{mk:a8}{i:Nat}:∀j,(pp ss mk i j).2.length=j
 |0=>rfl
 |j + 1=>by change (_ ++ [_]).length=_;rw[Ö,Bn j];rfl
def FC:aG P w K mg base bJ 6 T.tD.a T.tD.d ["self","place"] (bU K Â 0 2<|jJ T):=by
 show cu T.tD.F Ol rfl ∎ ?_
 intros
 show#[_,(aK (bM 2<|a7 (cV K<|qv 0)<|qv 1)
  (aK (iD 3<|eZ aA)
  (aK (fk (Lh rfl T.mQ<|ak (qi (qv 1) aD)<|ak (ia aD)<|ak (ia aD) aA) (cD 4) (aK (bM 5<|e7 (eF T T.vS<|NX T) (qv 0)<|ak (qv 2)<|ak (qv 4) aA)
  (aK (cB (b7 iB iu (qv 5)<|gP [0,1] T.g9 T.hG) (aV<|mY 2 ["one","other","share"] [Ä,Ä,À 5] (kI T.kx<|ak (qv 2)<|ak (a7 (cV K<|qv 0)<|qv 4) aA) (qr (n:=2) rfl<|jC (c7 0)<|jC (c7 1) pP) (λ_ _ _ _ _=>(qc T.sV (IE T)<|ak (qv 0)<|ak (qc T.nS (ur T)<|ak (qv 2)<|ak (qv 1) aA) aA))) cA)
  (aV<|m8 (dy 3)<|qv 5))))
  (aV<|bI<|gn<|ak (e7 (eF T T.tE<|FK T) (qv 0)<|ak (qv 2) aA)<|ak (z'j rfl rfl T.fA rfl T.MD<|ak (qv 3) aA) aA)))),?_]
 intro xs Q _ zy;let#[_,rs,us,ss,S,m,i,rfl,H,E,M,h,J,r,y,q]:=zy;have v:ss[i]?=À (ss.getD i []):=by rw[Ç,Ð M];rfl
 rfl';simp only[fu,fG,dO,d9,dW];show rG T ?_;rfl';show dG _ _ _ (fB v) ?_;rfl';show#[⋯,⋯,Loop.map (È ((i:Int) - 1+1).toNat) (λn:Nat=>Tr.int<|(i:Int) - 1+n*-1) (λj G=>∃a b,G=[cF T .f<|eQ rs us ss S m,.int i,ae.t (pp ss m i j).1,.ah .o<|(pp ss m i j).2.map ae.t,a,b]) #[_,_,rfl] ?_ ?_]
 .rintro j n G hj ⟨a,b,rfl⟩;let#[hn,rfl]:=rJ hj;have u:j<i:=⋯
  have D:(i:Int) - 1+(j:Int)*-1=((i - 1 - j:Nat):Int):=⋯
  rw[D];have e:=r.l j ⋯;have x:=r.s j u;have C:(pp ss m i<|j+1).2=(pp ss m i j).2++[shr (pp ss m i j).1 ss (i - 1 - j) m]:=rfl;have B:(pp ss m i<|j+1).1=if shr (pp ss m i j).1 ss (i - 1 - j) m=0 then (pp ss m i j).1 else ϯ (λa b=>a+shr (pp ss m i j).1 ss (i - 1 - j) m*b) (pp ss m i j).1 (ss.getD (i - 1 - j) []):=rfl
  have z:=Bn (ss:=ss) (mk:=m) (i:=i) j;rfl'
  try simp only[fu,fG,dO,d9,dW]
  show fD T #[rfl,.f,rs,us,ss,S,m,(pp ss m i j).1,i - 1 - j,_,inferInstance,rfl,J,e.1,e.2,λ_=>?_];rfl';simp only[C,B];generalize shr (pp ss m i j).1 ss (i - 1 - j) m=sh at x ⊢;show uE ?_;rfl';by_cases g:sh=0
  .rw[au3 (by simp[g]),au4 g];show#[⋯,_,_,rfl]
  .rw[au4 (by simp[g]),au3 g];have N:ss[i - 1 - j]?=À (ss.getD (i - 1 - j) []):=by rw[Ç,Ð ⋯];rfl
   show rG T ?_;rw[iZ,iT];show dG _ _ _ (fB N) ?_;generalize ss.getD (i - 1 - j) []=row at x ⊢;generalize (pp ss m i j).1=lr at e ⊢;have hc:↑lr<=100:=by have:=e.1;unfold aX at this;omega
   rw[ko,gE,gE,lp,lp,wJ];show aY.map (lr.zip row) _ (λp=>p.1+sh*p.2) (by rw[ad7];omega) (λp O R I=>?_) ?_
   .obtain⟨m1,m2⟩:=Ķ O;have U:=e.2 _ m1;let#[A,Y]:=x _ m2;rfl';show#[rfl,sh,p.2,rfl,A,λ_=>?_];rw[ko,jF];show#[rfl,p.1,sh*p.2,rfl,⋯,λ_=>I]
   .have e3:(lr.zip row).map (λp=>p.1+sh*p.2)=ϯ (λa b=>a+sh*b) lr row:=by rw[Ŭ,Φ]
    rw[e3,eH];show#[kL _,⋯,_,_,rfl]
 .rintro G ⟨a,b,rfl⟩;rw[Ü,show ((i:Int) - 1+1).toNat=i by omega];rfl';simp only[fu,fG,dO,d9,dW];have e:=r.l i<|Ñ _;show fD T #[rfl,.f,.f,rs,us,ss,S,m,(pp ss m i i).1,inferInstance,inferInstance,rfl,⋯,e.1,e.2,y,λ_=>?_];rw[<- List.map_reverse];show#[og _,by rw[se,nu];rfl,q _]
structure jW(e s v:Nat)(us:aj)(o:bV):Prop where
 b:yi us o
 p:0<bo us o
 sb:bi `ak<=s
 eb:∀x∈fH us o,bi x<=e
 x:bi `an<=e
 w:0<=o.2.2.2.2/\bi o.2.2.2.2<=v
def Bo{x:Int}{k:Nat}(h:bi x<=k):x.natAbs<=2 ^ k:=Ń<|kJ h
def Bp:∀{m k:Nat},m<=k->Lp.iH m<=Lp.iH k
 |m,0,h=>by rw[show m=0 by omega];show Ñ _
 |m,k + 1,h=>by
  by_cases e:m=k+1
  .rw[e];show Ñ _
  .show Ï (Bp (show m<=k by omega)) (Nat.le_mul_of_pos_left _ ⋯)
section
variable{rs:av}{us:aj}{e s v:Nat}
def rS(h:∀o∈rs,jW e s v us o){i k:Nat}(b:i<↑rs):(Mx rs us i k).natAbs<=2 ^ e:=by
 let#[o,a]:=nk b;have z:=h o<|Ì a;have one:1<=2 ^ e:=Nat.one_le_two_pow;rw[qm a,ϭ,show (sgn<|cX us o).natAbs=1 by unfold sgn;split<;>rfl,Nat.one_mul];unfold A0;split
 .rw[Ç];cases q:`aQ[k]? with
  |none=>show ľ _
  |some x=>show Bo<|z.eb x<|Ì q
 .split
  .show one
  .split
   .show one
   .split
    .show Bo z.x
    .show ľ _
abbrev fb(N:Nat):Nat:=if N<=10 then 22 else 45
def Lx{m N:Nat}(h:m<=N)(a:N<=16):Lp.iH m<2 ^ fb N:=by
 unfold fb;split
 .show ĕ (Bp (show m<=10 by omega)) (by walk_at "k")
 .show ĕ (Bp (show m<=16 by omega)) (by walk_at "k")
def uX{m f:Nat}(a:Lp.iH m<2 ^ f){x:Int}(h:x.natAbs<=Lp.iH m*(2 ^ e) ^ m):bi x<=f+e*m:=by
 show gk<|ĕ h ?_;rw[<- Nat.pow_mul,aj1];show ϵ a<|Ϸ _
def Ly(h:∀o∈rs,jW e s v us o)(hm:↑rs<=16){f:Nat}(g:Lp.iH ↑rs<2 ^ f)(hn:aX rs us<=60)(b:f+e*↑rs<=3000):Sz ↑rs `ae `ac where
 hm:=⋯
 hn:=hn
 t:=λS i k lt j=>Ï (uX g<|Lp.ju (λi k a _=>rS h a) lt j) b
 d:=λS lt=>Ï (uX g<|Lp.gR (λi k a _=>rS h a) lt) b
abbrev sX(us:aj):av->Nat
 |[]=>1
 |o::rs=>(bo us o).natAbs * sX us rs
def uC:∀{rs:av},(∀o∈rs,jW e s v us o)->0<sX us rs
 |[],_=>Nat.one_pos
 |o::rs,h=>Nat.mul_pos (by have:=(h o<|.head _).p;omega)<|uC λq m=>h q<|.tail _ m
def xD:∀{rs:av}{o:bV},o∈rs->bo us o ∣ (sX us rs:Int)
 |p::rs,o,m=>by
  change _ ∣ (((bo us p).natAbs*sX us rs:Nat):Int);rw[Ϯ];rcases ä.mp m with rfl |m
  .show Š (Int.dvd_natAbs_self) (Int.dvd_mul_right _ _)
  .show Š (xD m) (ϣ _ _)
def uS:∀{rs:av},(∀o∈rs,jW e s v us o)->bi (sX us rs:Int)<=1+s*↑rs
 |[],_=>by change bi 1 <= _;show Ï (show bi 1 <= 1 by walk_at "k") ⋯
 |o::rs,h=>by
  change bi (((bo us o).natAbs*sX us rs:Nat):Int)<=_;rw[Ϯ];have a:=dZ ((bo us o).natAbs:Int) (sX us rs:Int);have b:=uS (rs:=rs) λq m=>h q<|.tail _ m
  have c:bi ((bo us o).natAbs:Int)<=s:=by unfold bi;rw[Ć];show (h o<|.head _).sb
  rw[Ý,ah3];omega
def AW(a:Int){b:Int}(d:0<b):((Ë a b).den:Int) ∣ b:=by
 rw[Rat.den_divInt,au3<|æ d];show Š (an2.mpr<|Nat.div_dvd_of_dvd<|Nat.gcd_dvd_left _ _)<|Int.natAbs_dvd_self
def KJ{cs:aR}{X:Nat}(u:↑cs=aX rs us)(j:0<X)(hd:∀c∈cs,(c.den:Int) ∣ (X:Int)){x y:Nat}(B:bi (X:Int)<=x)(l:∀c∈cs,bi c.num<=y)(hp:∀c∈cs,0<=c)(h:x+y<=3000):fh rs us cs/\∀k,bi (cf `dj k)<=x+y:=by
 have g:∀c∈cs,bi (dR `eb c)<=x+y:=λc m=>by
  unfold dR;let#[z,n]:=(gy cs 1 ∎).2.2.1 c m;have i:(0:Int)<(c.den:Int):=Ň.mpr c.den_pos;have r:(cE cs).fdiv (c.den:Int)=z:=by
   have:=Ę (a:=(c.den:Int)) z<|æ i;rwa[<- n] at this
  rw[r];have A:=(gy cs 1 ∎).2.2.2 X (ŷ _) hd;have o:z ∣ (X:Int):=Š (by rw[n];show ϣ _ _) A;have:=kf o j;have:=dZ c.num z;have:=l c m;omega
 show#[#[u,#[X,j,hd,⋯],λc m=>?_,λc m=>?_,hp],λk=>?_]
 .have a:=kf (hd c m) j;have b:=l c m;unfold bs;unfold bi at a b;rw[Ć] at a;have:bi (X:Int)=bl (X:Int).natAbs:=rfl;omega
 .unfold cJ at m;let#[d,md,rfl]:=á.mp m;have:=g d md;omega
 .unfold cf cJ;rw[Ç,Î];cases q:cs[k]? with
  |none=>show ľ _
  |some c=>show g c<|Ì q
def ZZ(a:Int){b:Int}(i:0<b):bi (Ë a b).num<=bi a:=by
 have h:=al2 a b;by_cases g:a=0
 .subst g;rw[Ġ];show ľ _
 .have d:(Ë a b).num ∣ a:=by
   rw[h,aa9 i,ai8];show as1<|Κ ..
  have:=af6 ⋯ (ϟ.mpr d);show gk<|ĕ this<|kJ<|Ñ _
def rK{a b:Int}(d:0<=a)(g:0<b):0<=Ë a b:=Rat.divInt_nonneg d<|Ĳ g
def xj{k:Int}{c:Rat}(m:c∈bA us rs k):c=0\/∃o∈rs,c=Ë o.2.2.2.2 `ak:=by
 unfold bA at m;rcases É.mp m with m |m
 .show .inl (Λ m)
 .obtain⟨o,ho,mo⟩:=List.mem_flatMap.mp m;simp only[ä,Χ,or_false] at mo;rcases mo with rfl |rfl
  .unfold cb;split
   .split
    .show .inl rfl
    .show .inr #[o,ho,rfl]
   .show .inl rfl
  .unfold ca;split
   .split
    .show .inl rfl
    .show .inr #[o,ho,rfl]
   .show .inl rfl
def Lz(h:∀o∈rs,jW e s v us o)(k:Int)(a:1+s*↑rs+v<=3000):fh rs us (bA us rs k)/\∀j,bi (cf (cJ<|bA us rs k) j)<=1+s*↑rs+v:=by
 show KJ (X:=sX us rs) (by unfold bA aX;rw[Ö,ã,z5]) (uC h) (λc m=>?_) (uS h) (λc m=>?_) (λc m=>?_) a
 .rcases xj m with rfl |⟨o,ho,rfl⟩
  .show ŷ _
  .show Š (AW _ (h o ho).p) (xD ho)
 .rcases xj m with rfl |⟨o,ho,rfl⟩
  .show ľ _
  .show Ï (ZZ _ (h o ho).p) (h o ho).w.2
 .rcases xj m with rfl |⟨o,ho,rfl⟩
  .show ai7
  .show rK (h o ho).w.1 (h o ho).p
def LA{ps:List (Str×Rat)}(hp:∀u,(b4 ps u).getD 0=0\/(b4 ps u).getD 0=1):fh rs us `cw/\∀j,bi (cf (cJ<|gq us ↑rs ps) j)<=2:=by
 have mem:∀c∈gq us ↑rs ps,c=0\/c=1:=λc m=>by
  unfold gq at m;rcases É.mp m with m |m
  .obtain⟨u,_,rfl⟩:=á.mp m;show hp u
  .show .inl (Λ m)
 show KJ (X:=1) (x:=1) (y:=1) (by unfold gq aX;rw[Ö,Æ,ã]) ∎ (λc m=>?_) (by walk_at "k") (λc m=>?_) (λc m=>?_) ∎
 .rcases mem c m with rfl |rfl<;>show ŷ _
 .rcases mem c m with rfl |rfl<;>decide +kernel
 .rcases mem c m with rfl |rfl<;>decide
abbrev CD(l d:Nat)(b:aR):Prop:=∃D:Int,0<D/\bi D<=d/\∀x∈b,∃a:Int,x=Ë a D/\bi a<=l
def CD.mono{l d i d':Nat}{g:aR}(h:CD l d g)(a:l<=i)(b:d<=d'):CD i d' g:=by
 let#[D,j,o,n]:=h;show#[D,j,⋯,λx m=>by let#[y,e,q]:=n x m;show#[y,e,⋯]]
def CD.bs{l d:Nat}{b:aR}(h:CD l d b)(hd:d<=l){x:Rat}(m:x∈b):Vc.bs x<=l:=by
 ∎;let#[D,g,n,j]:=h;let#[a,rfl,i]:=j x m;∎;show n7 (æ g) i ⋯
def Kb(h:∀o∈rs,jW e s v us o)(hm:↑rs<=16){f:Nat}(b:Lp.iH ↑rs<2 ^ f){cs:aR}{S:Nat->Nat}{C x:Nat}(lt:∀i,i<↑rs->S i<aX rs us)(G:0<Lp.dd ↑rs `ac S)(j:∀k,bi (cf `dj k)<=C)(n:bi `eb<=x)(m:x<=C+5):CD (C+(f+5)+e*↑rs) (C+(f+5)+e*↑rs) (dF rs us cs S):=by
 have hd:=uX b<|Lp.gR (A:=Mx rs us) (λi k a _=>rS h a) lt;show#[cE cs*Lp.dd ↑rs `ac S,Ŷ (gy cs 1 ∎).1 G,Ï `bb ⋯,λy d=>?_];unfold dF at d;let#[k,l,rfl]:=á.mp d;rw[ħ] at l;show#[_,rfl,?_];have z:=Lp.qL (A:=Mx rs us) (λi k a _=>rS h a) lt (C:=2 ^ C) (λk=>Bo<|j k) (k:=k) ⋯;show gk<|ĕ z ?_;rw[show C+(f+5)+e*↑rs=5+(C+(f+e*↑rs)) by omega,aj1,aj1 2 C];have g:Lp.iH ↑rs*(2 ^ e) ^ ↑rs<2 ^ (f+e*↑rs):=by
  rw[<- Nat.pow_mul,aj1];show ϵ b<|Ϸ _
 show Nat.mul_lt_mul_of_lt_of_le (show ↑rs+1<2 ^ 5 by omega) (ϰ _<|Ń g)<|Nat.mul_pos (Ϸ _)<|Ϸ _
end
def LB(a D b E:Int):(0 - Ë a D) / Ë b E=Ë (-a*E) (D*b):=by
 rw[Ĝ,ag2,Rat.zero_add,ae5,Rat.inv_divInt,Ĺ]
def Kc(a D b c:Int){E:Int}(d:E≠0):Ë (-a*E) (D*b)*Ë c E=Ë (-(a*c)) (D*b):=by
 rw[Ĺ,show -a*E*c=(-(a*c))*E by grind,ϫ d]
def Z0(x:Int){D:Int}(a:Int){b:Int}(c:Int)(d:D≠0)(e:b≠0):Ë x D+Ë (-(a*c)) (D*b)=Ë (x*b - a*c) (D*b):=by
 have h:=Ϭ d e;rw[aq4 _ _ d h];show (ż (Ϭ d h) h).mpr (by grind)
def Z1{b:aR}{ss:bW}{k C:Nat}{mk:a8}(h:qO C ss mk):shr b ss k mk=0\/∃j a v,j<C/\ss[k]?=À a/\a[j]?=À v/\0<v/\shr b ss k mk=(0 - b.getD j 0) / v:=by
 unfold shr;have g:∀(l:a8)(s:Rat),(∀p∈l,p∈mk)->(s=0\/∃j a v,j<C/\ss[k]?=À a/\a[j]?=À v/\0<v/\s=(0 - b.getD j 0) / v)->(l.foldl (jQ b ss k) s=0\/∃j a v,j<C/\ss[k]?=À a/\a[j]?=À v/\0<v/\l.foldl (jQ b ss k) s=(0 - b.getD j 0) / v):=by
  intro l
  induction l with
  |nil=>intro s _ d;show d
  |cons p l z=>
   intro s u d;show z _ (λq m=>u q<|.tail _ m) ?_;∎;let#[kn,j,i,n,x,a,v,o,r,y]:=h.m p<|u p<|.head _;let#[A,B]:=p;∎;dsimp only at i n;subst i n;unfold jQ;dsimp only;split
   .rename_i hk;have e:kn=k:=⋯
    subst e;split
    .show .inr #[j,a,v,x,o,r,y,?_];unfold u4;rw[Č,Ç (l:=ss),o,ag6,Ç (l:=a),r];rfl
    .show d
   .show d
 show g mk 0 (λ_ m=>m)<|.inl rfl
def Kd{ss:bW}{mk:a8}{st:aR×aR}{k C l d z:Nat}(h:qO C ss mk)(hk:k<↑ss)(B:↑st.1=C+1)(N:CD l d st.1)(hd:d<=l)(α:1<=l)(hr:(ss.getD k []).length=C+1)(cr:CD z z (ss.getD k [])):
  (xX ss mk st k).1.length=C+1/\CD (l+z+1) (d+z) (xX ss mk st k).1/\∀b∈ss.getD k [],bs (shr st.1 ss k mk)<=l+z/\bs (shr st.1 ss k mk*b)<=l+z+1:=by
 have i:ss[k]?=À (ss.getD k []):=by rw[Ç,Ð hk];rfl
 have up:CD (l+z+1) (d+z) st.1:=by
  let#[D,U,h2,Y]:=N;show#[D,U,⋯,λx m=>by let#[a,e,ha]:=Y x m;show#[a,e,⋯]]
 unfold xX;dsimp only;rcases Z1 h with Q |⟨j,ε,v,hj,O,e4,hv,es⟩
 .rw[au4 Q,Q];show#[B,up,λb I=>#[by rw[kE];omega,by rw[Ϻ,kE];omega]]
 .rw[i] at O;cases O;∎;let#[D,r,β,hx]:=N;let#[E,u,γ,H]:=cr;∎;have G:∃x,st.1[j]?=À x:=#[_,Ð ⋯];∎;let#[x,ex]:=G;let#[a,rfl,ha]:=hx x<|Ì ex;let#[b,rfl,hb]:=H v<|Ì e4;∎;have o:0<b:=by
   apply ķ;intro q;have:Ë b E<=0:=by
    have:=rK (a:=-b) (b:=E) ⋯ u;rw[<- ae5] at this;have:=Rat.neg_le_neg this;rwa[Rat.neg_neg,Rat.neg_zero] at this
   show au5 hv<|ab4.mpr this
  rw[Ç,ex,ag6,LB] at es;have nz:=Ϭ (æ r)<|æ o;have sb:bs (shr st.1 ss k mk)<=l+z:=by
   rw[es];show n7 nz (Ï `bb ?_)<|Ï (dZ _ _) ⋯;have:bi (-a)=bi a:=by unfold bi;rw[Ś]
   omega
  have I:∀c∈ss.getD k [],bs (shr st.1 ss k mk*c)<=l+z+1:=λc n=>by
   let#[g,rfl,A]:=H c n;rw[es,Kc _ _ _ _<|æ u];show n7 nz ?_<|Ï (dZ _ _) ⋯;have e:bi (-(a*g))=bi (a*g):=by unfold bi;rw[Ś]
   rw[e];show Ï `bb ⋯
  split
  .show#[B,up,λc n=>#[sb,I c n]]
  .show#[by rw[ar2,B,hr];omega,#[D*b,Ŷ r o,Ï `bb ⋯,λy my=>?_],λc n=>#[sb,I c n]];have ez:ϯ (λa b=>a+shr st.1 ss k mk*b) st.1 (ss.getD k [])=(st.1.zip<|ss.getD k []).map λp=>p.1+shr st.1 ss k mk*p.2:=by rw[Ŭ,Φ]
   rw[ez] at my;∎;let#[#[p,c],J,rfl]:=á.mp my;let#[m1,m2]:=Ķ J;let#[M,rfl,δ]:=hx p m1;let#[g,rfl,A]:=H c m2;∎;show#[M*b - a*g,?_,?_]
   .rw[es,Kc _ _ _ _<|æ u,Z0 _ _ _ (æ r)<|æ o]
   .have U:=Jx (M*b)<|a*g;have h2:=dZ M b;have Y:=dZ a g;omega
def KL{ss:bW}{mk:a8}{C z i:Nat}(h:qO C ss mk)(y:∀o∈ss,o.length=C+1/\CD z z o)(u:i<↑ss)(r:z+i*(z+1)<=3900)(D:1<=z):EN C ss mk i:=by
 have at':∀k,k<↑ss->(ss.getD k []).length=C+1/\CD z z (ss.getD k []):=λk v=>by
  have e:ss[k]?=À (ss.getD k []):=by rw[Ç,Ð v];rfl
  show y _<|Ì e
 have l:∀j,j<=i->(pp ss mk i j).1.length=C+1/\CD (z+j*(z+1)) (z+j*z) (pp ss mk i j).1:=by
  intro j
  induction j with
  |zero=>intro _;let#[a,b]:=at' i u;show#[a,by rw[Nat.zero_mul,Nat.zero_mul,Nat.add_zero];show b]
  |succ j A=>
   intro n;∎;let#[a,b]:=A ⋯;let#[c,d]:=at' (i - 1 - j) ⋯;let#[p1,p2,_]:=Kd (st:=pp ss mk i j) h ⋯ a b (by rw[ah3];omega) ⋯ c d;∎;show#[p1,?_];rw[show z+(j+1)*(z+1)=z+j*(z+1)+z+1 by rw[Ξ];omega,show z+(j+1)*z=z+j*z+z by rw[Ξ];omega];show p2
 have g:∀j,j<=i->z+j*(z+1)<=3900:=λj n=>Ï (af2 (ae0 _ n) _) r
 show#[λj n=>#[(l j n).1,λx m=>?_],λj n b q=>?_]
 .show Ï ((l j n).2.bs (by rw[ah3];omega) m) (g j ⋯)
 .obtain⟨a,b'⟩:=l j ⋯;∎;let#[c,d]:=at' (i - 1 - j) ⋯;let#[_,_,p3]:=Kd (st:=pp ss mk i j) h ⋯ a b' (by rw[ah3];omega) ⋯ c d;let#[E,G]:=p3 b q;∎;have f:=g (j+1) ⋯;rw[Ξ] at f;have B:=d.bs (Ñ _) q;omega
structure qV(z:Nat)(rs:av)(us:aj):Prop where
 b:qU rs us
 y:Sz ↑rs `ae `ac
 s:∀o∈rs,0<bo us o/\bi `ak<=100
 k:∀r:Int,fh rs us (bA us rs r)/\∀S,Lp.Gd ↑rs `ae `ac S->CD z z (dF rs us (bA us rs r) S)
 c:∀ps:List (Str×Rat),(∀u,(b4 ps u).getD 0=0\/(b4 ps u).getD 0=1)->fh rs us `cw/\∀S,Lp.Gd ↑rs `ae `ac S->CD z z (dF rs us `cw S)
 v:∀S:Nat->Nat,(∀i,i<↑rs->S i<aX rs us)->bi (Lp.dd ↑rs `ac S)<=z/\∀i k,k<=aX rs us->bi (Lp.tt ↑rs `ac S i k)<=z
 h:1<=z/\z<=645
def fh.cb{rs:av}{us:aj}{cs:aR}(h:fh rs us cs){X:Nat}(a:0<X)(hd:∀c∈cs,(c.den:Int) ∣ (X:Int)):bi `eb<=bi (X:Int):=kf ((gy cs 1 ∎).2.2.2 X (ŷ _) hd) a
def LC{rs:av}{us:aj}{e s v N z:Nat}(h:∀o∈rs,jW e s v us o)(hm:↑rs<=N)(n:N<=16)(H:↑us<=8)(hs:s<=100)(hz:2+s*N+v+(fb N+5)+e*N<=z)(E:z<=645):qV z rs us:=by
 have d:=Lx hm n;have A:=ϰ s hm;have B:=ϰ e hm;have D:2<=fb N:=by unfold fb;split<;>decide
 have hn:aX rs us<=60:=by unfold aX;omega
 show#[#[⋯,⋯,λo m=>(h o m).b],Ly h ⋯ d hn ⋯,λo m=>#[(h o m).p,Ï (h o m).sb ⋯],λr=>?_,λy l=>?_,λS lt=>#[Ï (uX d<|Lp.gR (λi k g _=>rS h g) lt) ⋯,λi k q=>Ï (uX d<|Lp.ju (λi k g _=>rS h g) lt q) ⋯],⋯]
 .obtain⟨a,b⟩:=Lz h r ⋯;show#[a,λS G=>?_];have c:bi (cE<|bA us rs r)<=1+s*N:=Ï (a.cb (uC h) λc m=>by
   rcases xj m with rfl |⟨o,j,rfl⟩
   .show ŷ _
   .show Š (AW _ (h o j).p) (xD j))<|Ï (uS h) ⋯
  have:=Kb (S:=S) h ⋯ d (C:=1+s*N+v) (x:=1+s*N) G.lt G.pos (λk=>Ï (b k) ⋯) c ⋯;show this.mono ⋯ ⋯
 .obtain⟨a,b⟩:=LA (rs:=rs) (us:=us) l;show#[a,λS G=>?_];have c:bi (cE<|gq us ↑rs y)<=1:=Ï (a.cb (X:=1) ∎ λc m=>by
   unfold gq at m;rcases É.mp m with m |m
   .obtain⟨u,_,rfl⟩:=á.mp m;rcases l u with e |e<;>rw[e]<;>show ŷ _
   .rw[Λ m];show ŷ _) (by walk_at "k")
  have:=Kb (S:=S) h ⋯ d (C:=2) (x:=1) G.lt G.pos (λk=>Ï (b k) ⋯) c ⋯;show this.mono ⋯ ⋯
structure Bz(N z:Nat)(rs:av)(us:aj):Prop where
 n:N<=16
 q:∀qs:av,(∀o∈qs,o∈rs)->↑qs<=N->qV z qs us
def KN{rs:av}{us:aj}{e s v N z:Nat}(h:∀o∈rs,jW e s v us o)(a:N<=16)(i:↑us<=8)(hs:s<=100)(hz:2+s*N+v+(fb N+5)+e*N<=z)(b:z<=645):Bz N z rs us:=#[a,λ_ g d=>LC (λo m=>h o<|g o m) d a i hs hz b]
def UR{f g:Fl}{rs:av}{us:aj}[Fp f][Fp g](a:qU rs us){R:ay}(q:R (cF T .o<|xZ rs us)):lR T [.ins .o T.aah [],.ah f ↥rs,.ah g ↥us] λt b=>t=.aM/\rA b[0]? R:=#[rfl,f,g,rs,us,‹_›,‹_›,rfl,a,λj e=>#[rfl,by rw[e];show#[qu T _,q]]]
def Ap(rs:av)(us:aj)(cs:aR)(S:Nat->Nat):dF rs us cs S=(È<|aX rs us).map (λk=>Ë (Lp.zz ↑rs `ac (cf<|cJ cs) S k)<|cE cs*Lp.dd ↑rs (Mx rs us) S)++[Ë (Lp.zz ↑rs `ac (cf<|cJ cs) S<|aX rs us)<|cE cs*Lp.dd ↑rs (Mx rs us) S]:=by
 unfold dF;rw[GB]
abbrev gB(rs:av)(us:aj)(S:Nat->Nat):a8:=fT ↑rs `ae `ac [] (cf<|cJ<|bA us rs 0) S 0 `ae
structure i9(z:Nat)(rs:av)(us:aj)(S:Nat->Nat):Prop where
 g:Lp.Gd ↑rs `ae `ac S
 o:∀k,k<aX rs us->0<=Lp.zz ↑rs `ac (cf<|cJ<|bA us rs 0) S k
 d:CD z z (dF rs us `ap S)
inductive uN(T:Tx w K mg)(xs:af)(Q:Tr->aB):Prop
 |mk(_:↑xs=2)(f g:Fl)(rs:av)(us:aj)(z:Nat)(_:Fp f)(_:Fp g)(_:xs=[.ah f ↥rs,.ah g ↥us])(_:qV z rs us)(_:∀(S:Nat->Nat),i9 z rs us S->∀j,Q (cF T .o (eQ rs us [dF rs us (bA us rs 0) S] S (gB rs us S))) j):uN T xs Q
def FI{z:Bool}:aG P w K mg base bJ 6 T.tm.a T.tm.d ["rows","unknowns"] (bU K z 0 2<|uN T):=by
 show cu T.tm.F NL rfl ∎ λbK A outer s H E J M x=>?_
 show#[_,(aK (iD 2<|JH T.vP (NW T) T.MC<|QA.aE<|ak (qv 0)<|ak (qv 1) aA)
  (aK (AA<|pU (dy 2) (eF T T.rf<|zQ T)<|mE (e7 (eF T T.tq<|Fx T) (qv 2)<|ak (ny T.tF) aA) qe)
  (aV<|nh<|m9 2))),?_]
 intro N D _ zy;let#[_,f,g,rs,us,O,_,_,rfl,n,q]:=zy;let#[v,u]:=n.k 0;rfl';show UR T n.b #[sq T _,wY rfl (by intro z;cases z)<|fD T ?_];rw[ZW];rfl';simp only[fu,fG,dO,d9,dW];show fD T #[rfl,.l Å,rs,us,[],S0 rs us,[],_,inferInstance,rfl,n.b,λo m=>#[(n.s o m).1,by have:=(n.s o m).2;omega],λ_=>?_];rfl';show#[rfl,.f,rs,us,[],S0 rs us,[],bA us rs 0,inferInstance,rfl,n.y,Lw,λi I h=>au5 (mR.mp h) ∅,v,by simp,by simp,λr G x B j e=>?_];rw[e,dW];show#[qu T _,?_];rw[dW];show#[qu T _,q _ #[G,λk C=>B k C λh=>au5 (mR.mp h) ∅,u r G] _]
abbrev oX:bV:=([],"",0,0,1)
abbrev pick(rs:av)(ks:aC):av:=ks.map λk=>rs.getD k.toNat oX
abbrev Val(rs:av)(ks:aC):Prop:=∀k∈ks,0<=k/\k.toNat<↑rs
def rT{rs:av}{ks:aC}(h:Val rs ks){k:Int}(m:k∈ks):c8 rs k=À (rs.getD k.toNat oX):=by
 let#[a,b]:=h k m;rw[ux rs a b,Ç,Ð b];rfl
def rZ{rs:av}{us:aj}{ks:aC}{N z:Nat}(b:Bz N z rs us)(a:↑ks<=N)(d:Val rs ks):qV z `ab us:=
 b.q _ (λo m=>by
  let#[k,mk,rfl]:=á.mp m;rw[Ç,Ð (d k mk).2];show Ϛ _) (by unfold pick;rw[Æ];show a)
abbrev dK(d:List (Int×Rat)):bG:=d.map λp=>((Sum.inl p.1:aW),ae.t p.2)
def om(d:List (Int×Rat)):mL (dK d)=Â:=by
 have:=k9<|d.map λp=>((Sum.inl p.1:aW),p.2);rw[ð] at this;show this
abbrev wx(d:List (Int×Rat))(y:Int)(k:Rat):List (Int×Rat):=if (d.any λp=>decide<|p.1=y)=Â then d.map (λp=>if p.1=y then (p.1,k) else p) else d++[(y,k)]
def Z2(d:List (Int×Rat))(y:Int)(k:Rat):j9 (dK d) (Sum.inl y) (ae.t k)=dK (wx d y k):=by
 unfold j9 wx;have e:((dK d).any λa=>decide<|a.1=(Sum.inl y:aW))=d.any λp=>decide (p.1=y):=by
  unfold dK;rw[an3];congr 1;funext p;show decide_eq_decide.mpr #[λz=>Sum.inl.inj z,λz=>by change (Sum.inl p.1:aW)=_;rw[z]]
 rw[e];split
 .unfold dK;rw[ð,ð];show Ģ λp _=>?_
  change (if (Sum.inl p.1:aW)=Sum.inl y then ((Sum.inl p.1:aW),ae.t k) else (Sum.inl p.1,ae.t p.2))=(Sum.inl (if p.1=y then (p.1,k) else p).1,ae.t (if p.1=y then (p.1,k) else p).2)
  by_cases h:p.1=y
  .rw[au4 h,au4<|by rw[h]]
  .rw[au3 h,au3<|λz=>h<|Sum.inl.inj z]
 .unfold dK;rw[ß];rfl
def K0(d:List (Int×Rat)):Pu.aE (.aT .o<|dK d)=.aT .f (dK d):=by change Tr.aT .f (dH _)=_;rw[show dH (dK d)=dK d from (cq _<|om d).f]
def Ms(S:iq):Pu.aE `dY=cK T .f S:=by
 unfold cK gI;change Tr.ins .f _ (gA _)=_;simp only[gA,ko,Gj,eH,show Pu.aE (.aT .o<|mT S.m)=.aT .f (mT S.m) from by change Tr.aT .f (dH _)=_;rw[show dH (mT S.m)=mT S.m from (cq _<|k9 S.m).f]];rfl
def xT(S:iS):Pu.aE `dZ=cF T .f S:=by
 unfold cF iN;change Tr.ins .f _ (gA _)=_;simp only[gA,ko,Ms,eH];rfl
abbrev dot:aR->(Nat->Rat)->Rat
 |[],_=>0
 |c::cs,y=>c * y 0 + dot cs λk=>y<|k + 1
def z7:∀{cs:aR}{y z:Nat->Rat},(∀k,k<↑cs->y k=z k)->dot cs y=dot cs z
 |[],_,_,_=>rfl
 |c::cs,y,z,h=>by
  rw[dot,dot,h 0<|Nat.zero_lt_succ _,z7 λk a=>h (k+1)<|Nat.succ_lt_succ a]
def AX(a:Rat):∀(cs:aR)(y:Nat->Rat),dot cs (λk=>a*y k)=a*dot cs y
 |[],_=>by rw[dot,dot];grind
 |c::cs,y=>by rw[dot,dot,AX a cs];grind
def IL:∀(A B:aR)(y:Nat->Rat),dot (A++B) y=dot A y+dot B λk=>y<|↑A+k
 |[],B,y=>by
  rw[dot,ad9];have:(λk=>y<|([]:aR).length+k)=y:=by funext k;rw[ϕ,ao7]
  rw[this];grind
 |c::A,B,y=>by
  rw[aa1,dot,dot,IL A B];have:(λk=>y<|↑A+k+1)=λk=>y ((c::A).length+k):=by funext k;rw[Ý];congr 1;omega
  rw[this];grind
def AY:∀(n:Nat)(y:Nat->Rat),dot (Ò n 0) y=0
 |0,_=>rfl
 |n + 1,y=>by rw[ae6,dot,AY n];grind
def Aq(f:Nat->Int):∀n,Lp.sm (n+1) f=f 0+Lp.sm n λk=>f<|k+1
 |0=>by rw[Lp.sm,Lp.sm,Lp.sm];omega
 |n + 1=>by rw[Lp.sm,Aq f n,Lp.sm];omega
def Hm(a:Nat)(f:Nat->Int):∀b,Lp.sm (a+b) f=Lp.sm a f+Lp.sm b λk=>f<|a+k
 |0=>by rw[Nat.add_zero,Lp.sm];omega
 |b + 1=>by rw[<- af5,Lp.sm,Hm a f b,Lp.sm];omega
def pW{b:Int}{c:Rat}(h:(c.den:Int) ∣ b):((dR b c:Int):Rat)=b*c:=by
 let#[k,rfl]:=h;have hd:(c.den:Int)≠0:=by have:=c.den_pos;omega
 unfold dR;rw[Ę k hd,Ċ,Ċ];have e:c*(c.den:Int)=c.num:=by
  have:=ag1 c;rw[ý] at this;have d:((c.den:Int):Rat)≠0:=λe=>hd<|İ.mp e
  have m:=Δ (a:=(c.num:Rat)) d;rw[this] at m;show m
 rw[<- e]
 grind
def Br{b:Int}:∀{cs:aR}(y:Nat->Int),(∀c∈cs,(c.den:Int) ∣ b)->((Lp.sm ↑cs (λk=>(cs.map<|dR b).getD k 0*y k):Int):Rat)=b*dot cs λk=>(y k:Rat)
 |[],y,_=>by rw[dot,ϕ,Lp.sm];change (0:Rat)=_;grind
 |c::cs,y,h=>by
  rw[Ý,Aq,ł,Ċ,dot];have a:=Br (cs:=cs) (λk=>y<|k+1) λc m=>h c<|.tail _ m
  rw[show (λk=>((c::cs).map<|dR b).getD (k+1) 0*y (k+1))=λk=>(cs.map<|dR b).getD k 0*y (k+1) from rfl,a,show ((c::cs).map<|dR b).getD 0 0=dR b c from rfl,pW<|h c<|.head _]
  grind
abbrev gN(us:aj)(o:bV)(x:Nat->Rat):Rat:=dot `aM x - o.2.2.1
abbrev jn(k:Str)(d:Rat):Rat:=if k="least" then (if d<0 then -d else 0) else if k="most" then (if 0<d then d else 0) else if d<0 then -d else d
abbrev kO(us:aj)(k:Int)(x:Nat->Rat):av->Rat
 |[]=>0
 |o::rs=>(if o.2.2.2.1=k then (o.2.2.2.2:Rat) * jn o.2.1 `cL else 0) + kO us k x rs
abbrev cst(us:aj)(k:Int):av->(Nat->Rat)->Rat
 |[],_=>0
 |o::rs,y=>cb us k o * y 0 + ca us k o * y 1 + cst us k rs λj=>y<|j + 2
def IM(us:aj)(k:Int):∀(rs:av)(y:Nat->Rat),dot (rs.flatMap λo=>[cb us k o,ca us k o]) y=cst us k rs y
 |[],_=>rfl
 |o::rs,y=>by
  rw[at4,cst,<- IM us k rs,aa1,aa1,ad9,dot,dot]
  grind
def YQ(us:aj)(rs:av)(k:Int)(y:Nat->Rat):dot (bA us rs k) y=cst us k rs λj=>y (↑us+j):=by
 unfold bA;rw[IL,AY,IM,ã];grind
def Z3{us:aj}{k:Int}{o:bV}{q d a b:Rat}(hs:0<bo us o)(y:0<=o.2.2.2.2)(u:0<=a)(v:0<=b)(e:b - a=- ((bo us o:Rat)*(d*q)))(B:0<=q):q*(if o.2.2.2.1=k then (o.2.2.2.2:Rat)*jn o.2.1 d else 0)<=cb us k o*b+ca us k o*a:=by
 unfold cb ca;by_cases g:o.2.2.2.1=k
 .rw[au4 g,au4 g,au4 g];have j:(0:Rat)<(bo us o:Rat):=î.mpr hs;have x:Ë o.2.2.2.2 `ak*(bo us o:Rat)=(o.2.2.2.2:Rat):=by
   rw[ý];show Δ<|č j
  have l:0<=Ë o.2.2.2.2 `ak:=rK y hs;generalize Ë o.2.2.2.2 `ak=r at *;have C:=ñ l u;have D:=ñ l v;have z:r*b - r*a=- (q*((o.2.2.2.2:Rat)*d)):=by
   have A:r*(b - a)=r*(- ((bo us o:Rat)*(d*q))):=by rw[e]
   rw[<- x];grind
  generalize (o.2.2.2.2:Rat)=W at *;have m:q*(W*(-d))=- (q*(W*d)):=by grind
  have n:q*(W*0)=0:=by grind
  unfold jn;generalize q*(W*d)=Z at *;by_cases i:o.2.1="least"
  .have h:¬ o.2.1="most":=by rw[i];decide
   rw[au4 i,au4 i,au3 h];split
   .rw[m];grind
   .rw[n];grind
  .rw[au3 i,au3 i];by_cases h:o.2.1="most"
   .rw[au4 h,au4 h];split
    .grind
    .rw[n];grind
   .rw[au3 h,au3 h];split
    .rw[m];grind
    .grind
 .rw[au3 g,au3 g,au3 g];grind
def Ke{us:aj}{k:Int}{x:Nat->Rat}{q:Rat}(a:0<=q):∀(rs:av)(y:Nat->Rat),(∀o∈rs,0<bo us o/\0<=o.2.2.2.2)->(∀j,j<2*↑rs->0<=y j)->(∀i o,rs[i]?=À o->y (2*i) - y (2*i+1)=- ((bo us o:Rat)*(gN us o x*q)))->q*kO us k x rs<=cst us k rs y
 |[],_,_,_,_=>by rw[kO,cst];grind
 |o::rs,y,h,nn,e=>by
  rw[kO,cst,Rat.mul_add];have d:=Z3 (k:=k) (h o<|.head _).1 (h o<|.head _).2 (nn 1 (by rw[Ý];omega)) (nn 0 (by rw[Ý];omega)) (e 0 o rfl) a;have g:=Ke (k:=k) a rs (λj=>y<|j+2) (λo m=>h o<|.tail _ m) (λj l=>nn (j+2) (by rw[Ý];omega)) λi o b=>e (i+1) o b
  grind
def IP{us:aj}{o:bV}{R i:Nat}{y:Nat->Int}(r:i<R):Lp.sm (↑us+2*R+1) (λk=>A0 ↑us R i `aQ `an k*y k)=Lp.sm ↑us (λk=>(fH us o).getD k 0*y k)+(y (↑us+2*i) - y (↑us+2*i+1))+cX us o*y (↑us+2*R):=by
 rw[Lp.sm,Hm];have j:Lp.sm ↑us (λk=>A0 ↑us R i `aQ `an k*y k)=Lp.sm ↑us (λk=>(fH us o).getD k 0*y k):=Lp.ba λk d=>by unfold A0;rw[au4 d]
 have l:=Lp.f9 (f:=λk=>A0 ↑us R i `aQ `an (↑us+k)*y (↑us+k)) (a:=2*i) (b:=2*i+1) ⋯ (n:=2*R) ⋯ λk d m q=>by
  unfold A0;rw[au3 ⋯,au3 ⋯,au3 ⋯,au3 ⋯,ů]
 rw[j,l];have e:A0 ↑us R i `aQ `an (↑us+2*i)=1:=by unfold A0;rw[au3 ⋯,au4 rfl]
 have g:A0 ↑us R i `aQ `an (↑us+(2*i+1))=-1:=by unfold A0;rw[au3 ⋯,au3 ⋯,au4 ⋯]
 have h:A0 ↑us R i `aQ `an (↑us+2*R)=cX us o:=by unfold A0;rw[au3 ⋯,au3 ⋯,au3 ⋯,au4 rfl]
 rw[e,g,h,ai8,<- af5];omega
def lg(us:aj)(o:bV):0<bo us o/\(∀c∈fC us o,(c.den:Int) ∣ bo us o)/\(o.2.2.1.den:Int) ∣ bo us o:=by
 have h:=gy (cQ us o) 1 ∎;show#[h.1,λc m=>h.2.2.1 c<|É.mpr<|.inl m,h.2.2.1 _<|É.mpr<|.inr<|.head _]
def K1(us:aj)(o:bV)(y:Nat->Int):((Lp.sm ↑us (λk=>(fH us o).getD k 0*y k):Int):Rat)=bo us o*dot `aM λk=>(y k:Rat):=by
 have:=Br (b:=bo us o) (cs:=fC us o) y (lg us o).2.1;rwa[show (fC us o).length=↑us from Æ _] at this
def US{rs:av}{us:aj}{sh:Nat->Prop}{q:Int}{y:Nat->Int}(F:Lp.ig ↑rs `ae `ac sh q y){x:Nat->Rat}(l:∀k,k<↑us->x k*q=y k){i:Nat}{o:bV}(a:rs[i]?=À o):((y (↑us+2*i):Int):Rat) - ((y (↑us+(2*i+1)):Int):Rat)=- ((bo us o:Rat)*(gN us o x*q)):=by
 have b:=(Á.mp a).1;have k:=F.BE i b;rw[Lp.ba (g:=λk=>sgn `an*(A0 ↑us ↑rs i `aQ `an k*y k)) λk _=>by rw[qm a,af4],Lp.bN] at k;have j:sgn `an≠0:=by unfold sgn;split<;>decide
 have e:=(ϙ.mp k).resolve_left j;rw[show aX rs us+1=↑us+2*↑rs+1 from rfl,IP b,show ↑us+2*↑rs=aX rs us from rfl,F.rhs] at e;have c:((_:Int):Rat)=((0:Int):Rat):=au9 (λz:Int=>(z:Rat)) e;rw[ł,ł,K1,ab7,Ċ,ŕ,show cX us o=dR `ak o.2.2.1 from rfl,pW (lg us o).2.2] at c;have d:dot `aM (λk=>(y k:Rat))=q*dot `aM x:=by
  rw[<- AX];show z7 λk h=>?_
  rw[<- l k (by rwa[show (fC us o).length=↑us from Æ _] at h)];show Rat.mul_comm _ _
 rw[d,Rat.intCast_zero] at c;unfold gN;rw[<- af5]
 grind
def LD{rs:av}{us:aj}{cs:aR}(h:↑cs=aX rs us)(y:Nat->Int):((Lp.sm `ae (λk=>cf `dj k*y k):Int):Rat)=cE cs*dot cs λk=>(y k:Rat):=by
 rw[<- h];show Br (b:=cE cs) (cs:=cs) y (gy cs 1 ∎).2.2.1
def Kf{rs:av}{us:aj}{S:Nat->Nat}(G:Lp.Gd ↑rs `ae `ac S)(k:Nat):ku ↑rs `ae `ac S k*(Lp.dd ↑rs `ac S:Int)=(Lp.i3 ↑rs `ae `ac S k:Int):=by
 unfold ku;rw[ý];show Δ<|č<|î.mpr G.pos
def JI(k:Str)(d:Rat):0<=jn k d:=by
 unfold jn
 repeat' split
 all_goals grind
def Bs{us:aj}{k:Int}{x:Nat->Rat}:∀{rs:av},(∀o∈rs,0<=o.2.2.2.2)->0<=kO us k x rs
 |[],_=>ai7
 |o::rs,h=>by
  have b:=Bs (us:=us) (k:=k) (x:=x) λo m=>h o<|.tail _ m
  have a:(0:Rat)<=(o.2.2.2.2:Rat):=Ē.mpr<|h o<|.head _;have:=ñ a<|JI o.2.1<|gN us o x;rw[kO];split<;>grind
def Ar(k:Str)(d:Rat):jn k d=0↔(k="least"->0<=d)/\(k="most"->d<=0)/\(k≠"least"->k≠"most"->d=0):=by
 unfold jn;have ne:¬ ("most":Str)="least":=∎
 by_cases a:k="least"
 .rw[au4 a];have b:¬ k="most":=λe=>ne<|e.symm.trans a
  split<;>grind
 .rw[au3 a];by_cases b:k="most"
  .rw[au4 b];split<;>grind
  .rw[au3 b];split<;>grind
def IQ{us:aj}{x:Nat->Rat}:∀{rs:av},(∀o∈rs,o.2.2.2.1=0/\0<o.2.2.2.2)->kO us 0 x rs=0->∀o∈rs,jn o.2.1 `cL=0
 |[],_,_,_,m=>nomatch m
 |p::rs,h,e,o,m=>by
  let#[a,b]:=h p<|.head _;rw[kO,au4 a] at e;have w:(0:Rat)<(p.2.2.2.2:Rat):=î.mpr b;have d:=ñ (ě w)<|JI p.2.1<|gN us p x;have g:=Bs (us:=us) (k:=0) (x:=x) (rs:=rs) λo m=>Ĳ (h o<|.tail _ m).2
  have z2:kO us 0 x rs=0:=by grind
  rcases ä.mp m with rfl |m
  .have z1:(o.2.2.2.2:Rat)*jn o.2.1 `cL=0:=by grind
   rcases Ŗ.mp z1 with z |z
   .show au5 z (č w)
   .show z
  .show IQ (λo m=>h o (.tail _ m)) z2 o m
def xk(us:aj)(rs:av)(k:Int):(bA us rs k).length=aX rs us:=by
 unfold bA aX;rw[Ö,ã,z5]
nonrec abbrev tl(rs:av)(us:aj)(S:Nat->Nat):Nat->Rat:=ku ↑rs `ae `ac S
nonrec abbrev zr(rs:av)(us:aj)(S:Nat->Nat)(k:Nat):Int:=Lp.zz ↑rs `ac (cf<|cJ<|bA us rs 0) S k
def IS{z:Nat}{rs:av}{us:aj}{S:Nat->Nat}(h:i9 z rs us S)(l:∀o∈rs,0<=o.2.2.2.2):zr rs us S `ae<=0/\(zr rs us S `ae=0->kO us 0 `dC rs=0)/\∀k,k<↑us->0<=tl rs us S k:=by
 have F:=Lp.fX (sh:=λ_=>False) h.g λ_ _ z=>z
 have d:=h.g.pos;have a:(0:Rat)<(Lp.dd ↑rs `ac S:Int):=î.mpr d;have A:∀k,k<↑us->0<=tl rs us S k:=λk C=>by
  unfold tl ku;show rK (F.nn k (by unfold aX;omega)) d
 have q:=Lp.ly (c:=cf<|cJ<|bA us rs 0) h.g (xB (by unfold cJ;rw[Æ,xk]));have e:=LD (xk us rs 0)<|Lp.i3 ↑rs (aX rs us) (Mx rs us) S;rw[q] at e;have b:=î.mpr (gy `ap 1 ∎).1;have g:(Lp.dd ↑rs `ac S:Rat)*kO us 0 `dC rs<=dot `ap λk=>(Lp.i3 ↑rs `ae `ac S k:Rat):=by
  rw[YQ];show Ke (ě a) rs _ (λo m=>#[(lg us o).1,l o m]) (λj B=>Ē.mpr (F.nn _ (by unfold aX;omega))) λi o v=>US F (λk _=>Kf h.g k) v
 have n:=ñ (ě a)<|Bs (us:=us) (k:=0) (x:=tl rs us S) l;have m:=ñ (ě b) (show (0:Rat)<=dot `ap λk=>(Lp.i3 ↑rs `ae `ac S k:Rat) by grind);show#[?_,λz=>?_,A]
 .unfold cE at e m b;rw[<- e] at m;have:=Ē.mp m;unfold zr;omega
 .have z':Lp.zz ↑rs `ac (cf<|cJ<|bA us rs 0) S `ae=0:=z;rw[z'] at e;have r:(0:Rat)=(cE `ap:Rat)*dot `ap λk=>(Lp.i3 ↑rs `ae `ac S k:Rat):=by rw[<- e];rfl
  rcases Ŗ.mp r.symm with y |y
  .show au5 y (č b)
  .rw[y] at g;have u:(Lp.dd ↑rs `ac S:Rat)*kO us 0 `dC rs=0:=by grind
   rcases Ŗ.mp u with y |y
   .show au5 y (č a)
   .show y
def Mt(m:Nat)(A:aN)(c:Nat->Int)(S:Nat->Nat):∃u:Nat->Int,∀k,Lp.zz m A c S k=Lp.dd m A S*c k - Lp.sm m λi=>u i*A i k:=by
 show#[λi=>Lp.sm m λj=>c (S j)*Lp.dt m (Lp.up (Lp.bs A S) j λx=>if x=i then 1 else 0),λk=>?_];unfold Lp.zz;congr 1;rw[Lp.ba (g:=λj=>Lp.sm m λi=>c (S j)*(A i k*Lp.dt m (Lp.up (Lp.bs A S) j λx=>if x=i then 1 else 0))) λj a=>by rw[Lp.g0 k a,Lp.bN],Lp.dQ];show Lp.ba λi b=>?_
 rw[ϴ,<- Lp.bN];show Lp.ba λj a=>?_
 grind
abbrev xY(rs:av)(us:aj)(i:Nat):Int:=match rs[i]? with
 |some o=>sgn<|cX us o
 |none=>0
abbrev AR(rs:av)(us:aj)(i k:Nat):Int:=match rs[i]? with
 |some o=>A0 ↑us ↑rs i `aQ `an k
 |none=>0
def L7(rs:av)(us:aj)(i k:Nat):Mx rs us i k=xY rs us i*AR rs us i k:=by
 unfold Mx xY AR;cases rs[i]? with
 |none=>rfl
 |some o=>rfl
def sf{rs:av}{us:aj}{i:Nat}{o:bV}(h:rs[i]?=À o)(k:Nat):AR rs us i k=A0 ↑us ↑rs i `aQ `an k:=by unfold AR;rw[h]
def Hn{j:Type}(f g:j->Rat):∀{xs:List j}{i:Nat}{o:j},xs[i]?=À o->(xs.flatMap λo=>[f o,g o])[2*i]?=À (f o)/\(xs.flatMap λo=>[f o,g o])[2*i+1]?=À (g o)
 |x::xs,0,o,h=>by cases h;show#[rfl,rfl]
 |x::xs,i + 1,o,h=>Hn f g (xs:=xs) (i:=i) h
def B2{rs:av}{us:aj}{i:Nat}{o:bV}(h:rs[i]?=À o):cf (cJ<|bA us rs 0) (↑us+2*i)=dR (cE<|bA us rs 0) (cb us 0 o)/\cf (cJ<|bA us rs 0) (↑us+2*i+1)=dR (cE<|bA us rs 0) (ca us 0 o):=by
 have at':∀j,us.length<=j->`ap[j]?=(rs.flatMap λo=>[cb us 0 o,ca us 0 o])[j - ↑us]?:=λj g=>by
  unfold bA;rw[ď (by rw[ã];show g),ã]
 let#[a,b]:=Hn (cb us 0) (ca us 0) h;have d:∀(j:Nat)(c:Rat),`ap[j]?=À c->cf (cJ<|bA us rs 0) j=dR (cE<|bA us rs 0) c:=λj c e=>by
  unfold cf cJ;rw[Ç,Î,e];rfl
 show#[d _ _ (by rw[at' _ ⋯,show ↑us+2*i - ↑us=2*i by omega];show a),d _ _ (by rw[at' _ ⋯,show ↑us+2*i+1 - ↑us=2*i+1 by omega];show b)]
def qo(b:Int):dR b 0=0:=by unfold dR;rw[show (0:Rat).num=0 from rfl,ů]
def Mu{rs:av}{us:aj}{k:Nat}(h:k<↑us):cf (cJ<|bA us rs 0) k=0:=by
 unfold cf cJ;rw[Ç,Î];have:`ap[k]?=À 0:=by
  unfold bA;rw[ĉ (by rw[ã];show h),Υ,au4 h]
 rw[this];show qo _
structure CN(rs:av)(us:aj)(S:Nat->Nat)(l:Nat->Int):Prop where
 u:∀k,k<↑us->zr rs us S k=- Lp.sm ↑rs λi=>l i*AR rs us i k
 x:zr rs us S `ae=- Lp.sm ↑rs λi=>l i*AR rs us i `ae
 b:∀i o,rs[i]?=À o->zr rs us S (↑us+2*i)=Lp.dd ↑rs `ac S*dR (cE<|bA us rs 0) (cb us 0 o) - l i
 a:∀i o,rs[i]?=À o->zr rs us S (↑us+2*i+1)=Lp.dd ↑rs `ac S*dR (cE<|bA us rs 0) (ca us 0 o)+l i
def lam(rs:av)(us:aj)(S:Nat->Nat):∃l,CN rs us S l:=by
 let#[u,e]:=Mt ↑rs `ac (cf<|cJ<|bA us rs 0) S;have a:∀k,zr rs us S k=Lp.dd ↑rs `ac S*cf (cJ<|bA us rs 0) k - Lp.sm ↑rs λi=>u i*xY rs us i*AR rs us i k:=λk=>by
  unfold zr;rw[e k];congr 1;show Lp.ba λi _=>?_
  rw[L7,af4]
 show#[λi=>u i*xY rs us i,λk d=>?_,?_,λi o h=>?_,λi o h=>?_]
 .rw[a,Mu d];omega
 .rw[a,xB (by unfold cJ;rw[Æ,xk])];omega
 .have hi:=(Á.mp h).1;rw[a,(B2 h).1,Lp.bO hi λj b ne=>?_,sf h]
  .unfold A0;rw[au3 ⋯,au4 rfl];omega
  .obtain⟨p,hp⟩:=nk b;rw[sf hp];unfold A0;rw[au3 ⋯,au3 ⋯,au3 ⋯,au3 ⋯,ô]
 .have hi:=(Á.mp h).1;rw[a,(B2 h).2,Lp.bO hi λj b ne=>?_,sf h]
  .unfold A0;rw[au3 ⋯,au3 ⋯,au4 rfl];omega
  .obtain⟨p,hp⟩:=nk b;rw[sf hp];unfold A0;rw[au3 ⋯,au3 ⋯,au3 ⋯,au3 ⋯,ô]
abbrev jm:av->(Nat->bV->Rat)->Rat
 |[],_=>0
 |o::rs,h=>h 0 o + jm rs λi=>h<|i + 1
def GD:∀{rs:av}{h g:Nat->bV->Rat},(∀i o,rs[i]?=À o->h i o=g i o)->jm rs h=jm rs g
 |[],_,_,_=>rfl
 |o::rs,h,g,e=>by rw[jm,jm,e 0 o rfl,GD λi o h=>e (i + 1) o h]
def JJ{F:Nat->Int}:∀{rs:av}{h:Nat->bV->Rat},(∀i o,rs[i]?=À o->((F i:Int):Rat)=h i o)->((Lp.sm ↑rs F:Int):Rat)=jm rs h
 |[],_,_=>rfl
 |o::rs,h,e=>by rw[Ý,Aq,ł,jm,e 0 o rfl,JJ (F:=λk=>F<|k + 1) λi o h=>e (i + 1) o h]
def IT(a:Rat):∀(rs:av)(h:Nat->bV->Rat),jm rs (λi o=>a*h i o)=a*jm rs h
 |[],_=>by rw[jm,jm];grind
 |o::rs,h=>by rw[jm,jm,IT a rs];grind
def xE(rs:av)(us:aj)(cs:aR)(S:Nat->Nat){k:Nat}(h:k<=aX rs us):(dF rs us cs S).getD k 0=(Lp.zz ↑rs `ac (cf<|cJ cs) S k:Rat) / ((cE cs*Lp.dd ↑rs `ac S:Int):Rat):=by
 unfold dF;rw[Ç,Î,ò ⋯,<- ý];rfl
def K2{us:aj}{o:bV}(h:o.2.1="least"):ca us 0 o=0:=by
 unfold ca;rw[au4 h];split<;>rfl
def K3{us:aj}{o:bV}(h:o.2.1="most"):cb us 0 o=0:=by
 unfold cb;rw[au4 h];split<;>rfl
def JK{rs:av}{us:aj}{S:Nat->Nat}{l:Nat->Int}(L:CN rs us S l){i:Nat}{o:bV}(h:rs[i]?=À o):oV rs us (dF rs us `ap S) i=(l i:Rat)*(bo us o:Rat) / ((cE `ap*Lp.dd ↑rs `ac S:Int):Rat):=by
 have j:=(Á.mp h).1;have a:=L.a i o h;have b:=L.b i o h;unfold oV;rw[h];dsimp only;rw[xE _ _ _ _ (by unfold aX;omega),xE _ _ _ _ (by unfold aX;omega),show Lp.zz ↑rs `ac (cf<|cJ<|bA us rs 0) S (↑us+2*i)=_ from b,show Lp.zz ↑rs `ac (cf<|cJ<|bA us rs 0) S (↑us+2*i+1)=_ from a];generalize ((cE `ap*Lp.dd ↑rs `ac S:Int):Rat)=D;unfold oW;by_cases d:o.2.1="least"
 .rw[au4 d,K2 d,qo,ô,ah2]
  grind
 .rw[au3 d];by_cases e:o.2.1="most"
  .rw[au4 e,K3 e,qo,ô,ŕ,ab7]
   grind
  .have e2:Ë `ak 2=(bo us o:Rat) / 2:=by rw[ý];rfl
   have g:ca us 0 o=cb us 0 o:=by unfold ca cb;rw[au3 d,au3 e]
   rw[au3 e,g,e2,ab7,ł];generalize ((_*_:Int):Rat)=C
   grind
abbrev kR(m:Rat)(ks:aC)(ps:aR):List (Int×Rat):=(ks.zip ps).filterMap λp=>if p.2=0 then Ä else À (p.1,p.2 / m)
nonrec abbrev bP(rs:av)(k:Int):bV:=rs.getD k.toNat oX
abbrev ff(rs:av)(f:bV->Rat):List (Int×Rat)->Rat
 |[]=>0
 |p::d=>p.2 * f (bP rs p.1) + ff rs f d
def IU(rs:av)(f:bV->Rat)(m:Rat):∀{ks:aC}{ps:aR},ks.length=↑ps->ff rs f (kR m ks ps)=jm `ab λi o=>ps.getD i 0 / m*f o
 |[],[],_=>rfl
 |k::ks,x::ps,h=>by
  have a:=IU rs f m (ks:=ks) (ps:=ps)<|Μ h;change ff rs f (kR m (k::ks) (x::ps))=x / m*f `bv+jm `ab λi o=>ps.getD i 0 / m*f o
  rw[<- a];unfold kR;rw[as7,ő];dsimp only;by_cases z:x=0
  .rw[au4 z,z];dsimp only
   grind
  .rw[au3 z];rfl
structure Cw(rs:av)(us:aj)(d:List (Int×Rat)):Prop where
 s:∀p∈d,((bP rs p.1).2.1="least"->0<=p.2)/\((bP rs p.1).2.1="most"->p.2<=0)
 c:∀u∈us,ff rs (λo=>(b4 o.1 u).getD 0) d<=0
 r:ff rs (λo=>o.2.2.1) d=1
def IV{rs:av}{ks:aC}{i:Nat}{k:Int}(h:ks[i]?=À k):`ab[i]?=À `bv:=by
 unfold pick;rw[Î,h];rfl
def JL{rs:av}{us:aj}{a:aR}{i:Nat}(h:i<↑rs):(fS rs us a).getD i 0=oV rs us a i:=by
 unfold fS;rw[Ç,Î,ò h];rfl
def KO{z:Nat}{rs:av}{us:aj}{S:Nat->Nat}{ks:aC}(h:i9 z `ab us S)(Y:∀o∈pick rs ks,0<o.2.2.2.2)(U:zr `ab us S (aX `ab us)≠0){m:Rat}(hm:m=0 - (dF `ab us (bA us `ab 0) S).getD (aX `ab us) 0):Cw rs us (kR m ks<|fS (pick rs ks) us<|dF (pick rs ks) us (bA us (pick rs ks) 0) S):=by
 let#[l,L]:=lam `ab us S;have Q:=(IS h λo m=>Ĳ<|Y o m).1;have N:(0:Rat)<((cE (bA us `ab 0)*Lp.dd (pick rs ks).length (Mx `ab us) S:Int):Rat):=î.mpr<|Ŷ (gy _ 1 ∎).1 h.g.pos;rw[xE _ _ _ _<|Ñ _,show Lp.zz _ _ _ S (aX (pick rs ks) us)=zr (pick rs ks) us S (aX (pick rs ks) us) from rfl] at hm;have j:(0:Rat)<((- zr `ab us S (aX `ab us):Int):Rat):=î.mpr ⋯;have y:∀i o,`ab[i]?=À o->(fS `ab us<|dF (pick rs ks) us (bA us (pick rs ks) 0) S).getD i 0 / m=(l i:Rat)*(bo us o:Rat) / ((- zr `ab us S (aX `ab us):Int):Rat):=λi o e=>by
  rw[JL (Á.mp e).1,JK L e,hm];rw[ŕ] at j ⊢;generalize ((cE (bA us `ab 0)*Lp.dd (pick rs ks).length (Mx `ab us) S:Int):Rat)=D at *;generalize (zr `ab us S (aX `ab us):Rat)=V at *;have d0:D≠0:=č N;have v0:-V≠0:=č j
  grind
 have q:∀(f:bV->Rat)(k:Nat),(∀i o,`ab[i]?=À o->(bo us o:Rat)*f o=(AR `ab us i k:Rat))->ff rs f (kR m ks<|fS (pick rs ks) us<|dF (pick rs ks) us (bA us (pick rs ks) 0) S)=((Lp.sm (pick rs ks).length λi=>l i*AR `ab us i k:Int):Rat) / ((- zr `ab us S (aX `ab us):Int):Rat):=λf k O=>by
  rw[IU rs f m (by unfold fS pick;rw[Æ,Ü,Æ]),JJ (h:=λi o=>(l i:Rat)*((bo us o:Rat)*f o)) λi o e=>by rw[Ċ,O i o e]];rw[Ĝ,Rat.mul_comm,<- IT];show GD λi o e=>?_
  rw[y i o e,Ĝ]
  grind
 show#[λp C=>?_,λu mu=>?_,?_]
 .unfold kR at C;let#[#[k,x],mk,e]:=Į.mp C;dsimp only at e;by_cases H:x=0
  .rw[au4 H] at e;cases e
  .rw[au3 H] at e;cases e;let#[i,M]:=ĩ mk;let#[I,J]:=ġ.mp M;have d:=IV (rs:=rs) I;have w:=y i _ d;rw[Ç,J,ag6] at w;dsimp only;rw[w];have A:=L.a i _ d;have B:=L.b i _ d;have il:=(Á.mp d).1;have oa:=h.o (↑us+2*i+1) (by unfold aX;omega);have ob:=h.o (↑us+2*i) (by unfold aX;omega);have E:(0:Rat)<(bo us `bv:Rat):=î.mpr (lg us _).1;have G:=ae4.mpr j;show#[λr=>?_,λr=>?_]
   .rw[K2 r,qo,ô,ah2] at A;have n:0<=l i:=by rw[<- A];show oa
    rw[Ĝ];show ñ (ñ `eH<|ě E)<|ě G
   .rw[K3 r,qo,ô,Int.zero_sub] at B;have n:0<=- l i:=by rw[<- B];show ob
    have:=ñ (ñ `eH<|ě E)<|ě G;rw[ŕ] at this;rw[Ĝ]
    grind
 .obtain⟨k,ek⟩:=ĩ mu;have v:=(Á.mp ek).1;rw[q _ k λi o e=>?_]
  .have lu:=L.u k v;have ou:=h.o k (by unfold aX;omega);have n:0<=- Lp.sm (pick rs ks).length λi=>l i*AR `ab us i k:=by rw[<- lu];show ou
   have:=ñ `eH<|ě<|ae4.mpr j;rw[ŕ] at this;rw[Ĝ]
   grind
  .rw[sf e];unfold A0 fH;rw[au4 v,Ç,Î];have d:`aM[k]?=À ((b4 o.1 u).getD 0):=by unfold fC;rw[Î,ek];rfl
   rw[d];show (pW<|(lg us o).2.1 _<|Ì d).symm
 .rw[q _ (aX `ab us) λi o e=>?_]
  .have lx:(Lp.sm (pick rs ks).length λi=>l i*AR `ab us i (aX `ab us))=- zr `ab us S (aX `ab us):=by rw[L.x,Int.neg_neg]
   rw[lx];rw[Ĝ];show Ε _<|č j
  .have hi:=(Á.mp e).1;rw[sf e];unfold A0 aX cX;rw[au3 ⋯,au3 ⋯,au3 ⋯,au4 rfl];show (pW (lg us o).2.2).symm
abbrev mH(rs:av)(ks:aC):aC:=ks.filter λk=>decide<|(bP rs k).2.2.2.1=0
def UT{z:Nat}{rs:av}{us:aj}{S:Nat->Nat}{ks:aC}(h:i9 z `ab us S){m:Rat}:∀p∈kR m ks (fS (pick rs ks) us (dF (pick rs ks) us (bA us (pick rs ks) 0) S)),p.1∈mH rs ks:=λp y=>by
 let#[l,L]:=lam `ab us S;unfold kR at y;let#[#[k,x],mk,e]:=Į.mp y;dsimp only at e;by_cases n:x=0
 .rw[au4 n] at e;cases e
 .rw[au3 n] at e;cases e;let#[i,B]:=ĩ mk;let#[q,A]:=ġ.mp B;have d:=IV (rs:=rs) q;have C:=(Á.mp d).1;show ĝ.mpr #[Ì q,au6<|ķ λr=>n ?_];have u:=L.a i _ d;have v:=L.b i _ d;have E:=h.o (↑us+2*i+1) (by unfold aX;omega);have G:=h.o (↑us+2*i) (by unfold aX;omega);have g:ca us 0 `bv=0:=by unfold ca;rw[au3 r]
  have j:cb us 0 `bv=0:=by unfold cb;rw[au3 r]
  rw[g,qo,ô,ah2] at u;rw[j,qo,ô,Int.zero_sub] at v;have D:l i=0:=by
   have H:0<=l i:=by rw[<- u];show E
   have I:0<=- l i:=by rw[<- v];show G
   omega
  have w:(fS `ab us<|dF (pick rs ks) us (bA us (pick rs ks) 0) S).getD i 0=x:=by rw[Ç,A];rfl
  rw[JL C,JK L d,D] at w;rw[<- w,show ((0:Int):Rat)=0 from rfl,Ϻ,Ĝ,Ϻ]
abbrev Fz(rs:av)(us:aj)(ks:aC):Prop:=∃x:Nat->Rat,(∀k,k<↑us->0<=x k)/\∀k∈ks,jn (bP rs k).2.1 (gN us `bv x)=0
def Fz.mono{rs:av}{us:aj}{ks a:aC}(h:Fz rs us ks)(s:∀k∈a,k∈ks):Fz rs us a:=by
 let#[x,b,d]:=h;show#[x,b,λk m=>d k<|s k m]
abbrev ik(rs:av)(ks:aC):Prop:=∀k∈ks,(bP rs k).2.2.2.1=0/\0<(bP rs k).2.2.2.2
def ik.p{rs:av}{ks:aC}(h:ik rs ks):∀o∈pick rs ks,o.2.2.2.1=0/\0<o.2.2.2.2:=λo m=>by
 let#[k,mk,rfl]:=á.mp m;show h k mk
def IW(rs:av)(f g:bV->Rat):∀d:List (Int×Rat),ff rs (λo=>f o - g o) d=ff rs f d - ff rs g d
 |[]=>by rw[ff,ff,ff];grind
 |p::d=>by rw[ff,ff,ff,IW rs f g d];grind
def B3:∀(us:aj)(x:Nat->Rat),dot (us.map λ_=>(0:Rat)) x=0
 |[],_=>rfl
 |u::us,x=>by rw[è,dot,B3 us];grind
def AZ(a:Rat)(f g:Str->Rat):∀(us:aj)(x:Nat->Rat),dot (us.map λu=>a*f u+g u) x=a*dot (us.map f) x+dot (us.map g) x
 |[],_=>by rw[ad8,ad8,ad8,dot];grind
 |u::us,x=>by rw[è,è,è,dot,dot,dot,AZ a f g us];grind
def IX(rs:av)(us:aj)(x:Nat->Rat):∀d:List (Int×Rat),ff rs (λo=>dot `aM x) d=dot (us.map λu=>ff rs (λo=>(b4 o.1 u).getD 0) d) x
 |[]=>(B3 us x).symm
 |p::d=>by
  change p.2*dot (fC us<|bP rs p.1) x+ff rs (λo=>dot `aM x) d=dot (us.map λu=>p.2*(b4 (bP rs p.1).1 u).getD 0+ff rs (λo=>(b4 o.1 u).getD 0) d) x;rw[IX rs us x d,AZ p.2 (λu=>(b4 (bP rs p.1).1 u).getD 0)<|λu=>ff rs (λo=>(b4 o.1 u).getD 0) d];rfl
def JM(f:Str->Rat):∀(us:aj)(x:Nat->Rat),(∀u∈us,f u<=0)->(∀k,k<↑us->0<=x k)->dot (us.map f) x<=0
 |[],_,_,_=>ai7
 |u::us,x,hf,hx=>by
  rw[è,dot];have a:=JM f us (λk=>x<|k+1) (λu m=>hf u<|.tail _ m) λk d=>hx (k+1) (by rw[Ý];omega)
  have b:=ñ (show 0<=- f u by have:=hf u<|.head _;grind) (hx 0 (by rw[Ý];omega))
  grind
def Cw.no{rs:av}{us:aj}{d:List (Int×Rat)}{ks:aC}(h:Cw rs us d)(e:∀p∈d,p.1∈ks):¬ Fz rs us ks:=by
 rintro⟨x,y,n⟩;have j:∀d:List (Int×Rat),(∀p∈d,((bP rs p.1).2.1="least"->0<=p.2)/\((bP rs p.1).2.1="most"->p.2<=0))->(∀p∈d,p.1∈ks)->0<=ff rs (λo=>gN us o x) d:=λd=>by
  induction d with
  |nil=>intros;show ai7
  |cons p d q=>
   intro l e;have i:=q (λp m=>l p<|.tail _ m) λp m=>e p<|.tail _ m
   ∎;let#[a,b,c]:=(Ar _ _).mp<|n p.1<|e p<|.head _;let#[u,v]:=l p<|.head _;∎;rw[ff];have t:0<=p.2*gN us (bP rs p.1) x:=by
    by_cases g:(bP rs p.1).2.1="least"
    .show ñ (u g) (a g)
    .by_cases k2:(bP rs p.1).2.1="most"
     .have:=ñ (show 0<=-p.2 by have:=v k2;grind) (show 0<=- gN us (bP rs p.1) x by have:=b k2;grind)
      grind
     .rw[c g k2];grind
   grind
 have k:=j d h.s e;rw[show (λo=>gN us o x)=λo=>dot `aM x - o.2.2.1 from rfl,IW,IX,h.r] at k;have:=JM _ us x h.c y
 grind
structure kY(z:Nat)(rs:av)(us:aj)(ks:aC)(d:List (Int×Rat)):Prop where
 c:Cw rs us d
 l:(d.map (·.1)).Sublist ks
 b:CD (z+105) (z+2) (d.map (·.2))
abbrev MA(z:Nat)(rs:av)(us:aj)(ks:aC)(d:List (Int×Rat)):Prop:=(d=[]/\Fz rs us ks)\/(d≠[]/\kY z rs us ks d)
def kY.k{z:Nat}{rs:av}{us:aj}{ks:aC}{d:List (Int×Rat)}(h:kY z rs us ks d):∀p∈d,p.1∈ks:=λ_ m=>h.l.subset<|ē m
def kY.ne{z:Nat}{rs:av}{us:aj}{ks:aC}{d:List (Int×Rat)}(h:kY z rs us ks d):d≠[]:=λe=>by
 have:=h.c.r;rw[e,ff] at this;show au5 this ∎
structure l0(z:Nat)(rs:av)(us:aj)(ks:aC)(d:List (Int×Rat)):Prop where
 s:kY z rs us ks d
 m:∀k∈d.map (·.1),Fz rs us ((d.map (·.1)).filter λx=>!decide (x=k))
def Z4{rs:av}{us:aj}{a:aR}{z:Nat}(z1:1<=z)(h:∀y∈a,bs y<=z)(hs:∀o∈rs,bi `ak<=100):∀x∈fS rs us a,bs x<=2*z+101:=by
 intro x m;unfold fS at m;let#[i,_,rfl]:=á.mp m;have at':∀j,bs (a.getD j 0)<=z:=λj=>by
  rw[Ç];cases e:a[j]? with
  |none=>change bs 0<=z;rw[kE];show z1
  |some y=>show h y<|Ì e
 unfold oV;cases e:rs[i]? with
 |none=>change bs 0 <= _;rw[kE];omega
 |some o=>
  have so:=hs o<|Ì e;have l:=at'<|↑us+2*i;have n:=at'<|↑us+2*i+1;have b:=xC so;have d:=xC (x:=-bo us o) (by unfold bi;rw[Ś];show so);have g:bs (Ë `ak 2)<=100:=n7 ∎ so (by walk_at "k");change bs (oW _ _ _ _)<=_;unfold oW;split
  .have:=Bi (a.getD (↑us+2*i+1) 0) (bo us o:Rat);omega
  .split
   .have:=Bi (a.getD (↑us+2*i) 0) ((-bo us o:Int):Rat);omega
   .have:=Bi (a.getD (↑us+2*i+1) 0 - a.getD (↑us+2*i) 0)<|Ë (bo us o) 2;have:=xm (a.getD (↑us+2*i+1) 0)<|a.getD (↑us+2*i) 0;omega
def UU{d:List (Int×Rat)}{y:Int}{k:Rat}(h:∀p∈d,p.1≠y):wx d y k=d++[(y,k)]:=by
 unfold wx;rw[au3];intro e;let#[p,m,e]:=ň.mp e;show h p m<|au8 e
def PF{ks:aC}(h:ks.Nodup){i:Nat}{u:Int}(e:ks[i]?=À u):¬ u∈ks.take i:=λm=>by
 ∎;let#[j,g,b]:=ģ.mp m;let#[d,a]:=Á.mp e;∎;show (Ũ.mp h) j i ⋯ d ⋯ (b.trans a.symm)
abbrev kQ(m:Rat)(p:Int×Rat):Option (Int×Rat):=if p.2=0 then Ä else À (p.1,p.2 / m)
def As{m:Rat}:∀{ks:aC}{ps:aR},(((ks.zip ps).filterMap<|kQ m).map (·.1)).Sublist ks
 |[],_=>by rw[List.zip_nil_left];show Ĩ _
 |k::ks,[]=>by rw[List.zip_nil_right];show List.nil_sublist _
 |k::ks,x::ps=>by
  rw[as7,ő];unfold kQ;by_cases z:x=0
  .rw[au4 z];show (As (m:=m) (ks:=ks) (ps:=ps)).cons _
  .rw[au3 z];show (As (m:=m) (ks:=ks) (ps:=ps)).cons_cons _
def UW{m:Rat}{ks:aC}{ps:aR}{i:Nat}:∀p∈((ks.zip ps).take i).filterMap (kQ m),p.1∈ks.take i/\∃x∈ps,p.2=x / m:=λp l=>by
 let#[#[k,x],n,e]:=Į.mp l;unfold kQ at e;by_cases z:x=0
 .rw[au4 z] at e;cases e
 .rw[au3 z] at e;cases e;let#[j,q,d]:=ģ.mp n;have g:(ks.zip ps)[j]?=À (k,x):=Á.mpr #[⋯,d];let#[a,b]:=ġ.mp g;let#[o,h]:=Á.mp a;show#[ģ.mpr #[j,⋯,h],x,Ì b,rfl]
def Ho(a b:Int){D:Int}(h:D≠0):Ë a D+Ë b D=Ë (a+b) D:=by
 rw[aq4 _ _ h h,<- Int.add_mul,ϫ h]
def UX{rs:av}{us:aj}{left:aR}{l:Nat}{D:Int}(i:0<D)(n:∀x∈left,∃a:Int,x=Ë a D/\bi a<=l)(hs:∀o∈rs,bi `ak<=100):∀y∈fS rs us left,∃a:Int,y=Ë a (2*D)/\bi a<=l+105:=λy g=>by
 have at':∀j,∃a:Int,left.getD j 0=Ë a D/\bi a<=l:=λj=>by
  rw[Ç];cases e:left[j]? with
  |none=>show#[0,(Ġ _).symm,ľ _]
  |some y=>show n y<|Ì e
 unfold fS at g;let#[j,_,rfl]:=á.mp g;unfold oV;cases e:rs[j]? with
 |none=>show#[0,(Ġ _).symm,ľ _]
 |some o=>
  have so:=hs o<|Ì e;∎;let#[b,eb,m]:=at'<|↑us+2*j;let#[a,h,q]:=at'<|↑us+2*j+1;∎;have two:bi (2:Int)<=2:=by walk_at "k"
  change ∃d:Int,oW _ _ _ _=Ë d (2*D)/\bi d<=l+105
  rw[h,eb];have dd:∀x s:Int,Ë x D*(s:Rat)=Ë (2*(x*s)) (2*D):=λx s=>by
   rw[Rat.divInt_mul_left ∎,ý,ý,Ċ,Ĝ,Ĝ]
   grind
  unfold oW;split
  .show#[_,dd a _,?_];have:=dZ 2<|a*bo us o;have:=dZ a<|bo us o;omega
  .split
   .show#[_,dd b _,?_];have:=dZ 2<|b*-bo us o;have:=dZ b (-bo us o);have:bi (-bo us o)=bi `ak:=by unfold bi;rw[Ś]
    omega
   .show#[(a - b)*bo us o,?_,?_]
    .rw[ag2,ae5,Ho _ _<|æ i,Ĺ,ϴ D,at1]
    .have:=dZ (a - b)<|bo us o;have:=Jx a b;omega
def Z5{rs:av}{us:aj}{g:aR}{d:Rat}{ks:aC}{z:Nat}(h:CD z z (g++[d]))(hs:∀o∈rs,bi `ak<=100)(n:0 - d≠0):CD (z+105) (z+2) ((kR (0 - d) ks<|fS rs us<|g++[d]).map (·.2)):=by
 ∎;let#[D,r,G,u]:=h;let#[b,m,B]:=u d<|É.mpr<|.inr<|.head _;∎;have C:=UX (rs:=rs) (us:=us) r u hs;have H:b≠0:=by
  rintro rfl;rw[m,Ġ] at n;show n (by grind)
 have two:bi (2:Int)<=2:=by walk_at "k"
 have q:∀a:Int,Ë a (2*D) / (0 - d)=Ë a (2*-b):=λa=>by
  rw[m,ag2,Rat.zero_add,ae5,Ĝ,Rat.inv_divInt,Ĺ,show 2*D*-b=2*-b*D by grind,ϫ<|æ r]
 have mem:∀y∈(kR (0 - d) ks (fS rs us (g++[d]))).map (·.2),∃a:Int,y=Ë a (2*-b)/\bi a<=z+105:=λy l=>by
  let#[p,v,rfl]:=á.mp l;unfold kR at v;let#[#[k,x],mk,e]:=Į.mp v;dsimp only at e;by_cases A:x=0
  .rw[au4 A] at e;cases e
  .rw[au3 A] at e;cases e;let#[a,j,i]:=C x (Ķ mk).2;show#[a,?_,i];dsimp only;rw[j,q]
 have E:bi (-b)=bi b:=by unfold bi;rw[Ś]
 by_cases s:0 < -b
 .show#[2*-b,⋯,Ï `bb ⋯,mem]
 .show#[2*b,⋯,Ï `bb ⋯,λy l=>?_];let#[a,j,i]:=mem y l;show#[-a,?_,by unfold bi at i ⊢;rw[Ś];show i];rw[j];show (ż ⋯ ⋯).mpr (by grind)
def Z6{z:Nat}{rs:av}{us:aj}{S:Nat->Nat}(h:i9 z rs us S):∃a b,dF rs us `ap S=a++[b]/\(b=0↔zr rs us S `ae=0)/\∀y∈a++[b],bs y<=z:=by
 show#[_,_,Ap _ _ _ _,?_,λy m=>h.d.bs (Ñ _) (by rw[Ap];show m)];have i:=č<|ae4.mpr<|î.mpr<|Ŷ (gy (bA us rs 0) 1 ∎).1 h.g.pos;rw[ý,Ĝ];constructor
 .intro e;rcases Ŗ.mp e with e |e
  .show İ.mp e
  .show au5 e i
 .intro e;rw[show Lp.zz _ _ _ S `ae=0 from e];show Ϻ _
inductive jM(xs:af)(Q:Tr->aB):Prop
 |mk(_:↑xs=3)(f g h:Fl)(rs:av)(us:aj)(ks:aC)(N zz:Nat)(_:Fp f)(_:Fp g)(_:Fp h)(_:xs=[.ah f ↥rs,.ah g ↥us,.ah h ↥ks])(_:Bz N zz rs us)(_:↑us<=8)(_:↑ks<=N)(_:Val rs ks)(_:ks.Nodup)(_:ik rs ks)(_:∀d:List (Int×Rat),MA zz rs us ks d->∀j,Q (.aT .o (dK d)) j):jM xs Q
def FD{z:Bool}:aG P w K mg base bJ 7 T.sO.a T.sO.d ["rows","unknowns","numbers"] (bU K z 0 3 jM):=by
 show cu T.sO.F Oc rfl ∎ ?_
 intros
 show#[_,(aK (bM 3<|qc T.tm (FI T)<|ak (gg ["number","rows"] [Ä,À 0] (dY<|qv 2) (c7 0) (λ_ _ _ _ _=>(a7 (qv 1)<|qv 0)))<|ak (qv 1) aA)
  (aK (bM 4<|e7 (eF T T.rg<|zM T) (qv 3)<|ak aD aA)
  (aK (iD 5 xt)
  (aK (cB (b7 eI eG (qv 4)<|gP [0,1] T.g9 T.hG) (aV<|nh<|m9 5) cA)
  (aK (fk (kI T.kx<|ak (qv 2)<|ak (e7 (eF T T.tE<|FK T) (qv 3)<|ak (a7 (cV K<|qv 3) aD) aA) aA) (gO (n:=2) rfl<|dz (cD 6)<|dz (cD 7) gL)<|aV<|cB (b7 iB iu (qv 7)<|gP [0,1] T.g9 T.hG) (aV<|xK (dy 5) (qv 6)<|qc T.sW (IF T)<|ak (qv 7)<|ak (qv 4) aA) cA)
  (aV<|nh<|m9 5)))))),?_]
 intro xs Q' _ zy;let#[_,f,g,h,rs,us,ks,N,zz,_,_,_,rfl,D,μ,Y,hv,nd,O,q]:=zy;have η:=D.n;have A:=rZ D Y hv;have ν:=A.h.2;rfl';show aY.map ks _ (λk=>rs.getD k.toNat oX) ⋯ (λk mk R A=>?_) ?_
 .rfl';show dG _ _ _ (rT hv mk) A
 rfl';show#[rfl,.f,g,pick rs ks,us,zz,inferInstance,‹_›,rfl,A,λS H _=>?_];have v:(dF `ab us (bA us `ab 0) S).length=aX `ab us+1:=by unfold dF;rw[Æ,Ü]
 have J:=H.d;have Q:=λm hm β=>KO (m:=m) H (λo m=>(O.p o m).2) β hm
 have hT:=IS H λo m=>Ĳ (O.p o m).2
 have B:(dF `ab us (bA us `ab 0) S).getD (aX `ab us) 0=0↔zr `ab us S (aX `ab us)=0:=by
  rw[xE _ _ _ _<|Ñ _,Ĝ];have hD:=č<|ae4.mpr<|î.mpr<|Ŷ (gy (bA us (pick rs ks) 0) 1 ∎).1 H.g.pos;constructor
  .intro e;rcases Ŗ.mp e with e |e
   .show İ.mp e
   .show au5 e hD
  .intro e;rw[show Lp.zz _ _ _ S (aX `ab us)=0 from e];show Ϻ _
 obtain⟨u,l,er⟩:∃u l,dF `ab us (bA us `ab 0) S=u++[l]:=#[_,_,Ap _ _ _ _];rw[er] at v J Q B;have hl:↑u=aX `ab us:=by rw[Ö] at v;show Μ v
 have ex:(u++[l]).getD (aX `ab us) 0=l:=by rw[Ç,ď ⋯,hl,af9];rfl
 rw[ex] at B Q;have C:[u++[l]][0]?=À (u++[l]):=rfl;have I:∀y∈u++[l],bs y<=zz:=λy m=>J.bs (Ñ _) m
 have ζ:=I l<|É.mpr<|.inr<|.head _;have θ:=A.b.r;rw[er];simp only[xT,fu,fG,dO,d9,dW];show#[sq T _,fD T #[rfl,.f,_,0,u,l,inferInstance,rfl,C,⋯,λ_=>?_]];have α:=xm 0 l;have ι:bs (0 - l)<=zz:=by rw[show 0 - l=-l by grind];show Ï (Zy l) ζ
 rw[kE] at α;rfl';show#[rfl,uE ?_];rfl';by_cases G:0 - l=0
 .rw[au4<|au6 G];have hz:=B.mp (by grind);show#[rfl,q [] (.inl #[rfl,_,hT.2.2,λk mk=>IQ O.p (hT.2.1 hz) _<|ē mk]) _]
 .rw[au3<|by simpa using G];show fD T<|rG T ?_;rw[iZ,iT];show dG _ _ _ (fB (s:=0) C) ?_;rw[ko,jF];show#[rfl,.f,.f,pick rs ks,us,_,S,gB `ab us S,u++[l],inferInstance,inferInstance,rfl,⋯,v,λy m=>Ï (I y m) ⋯,λo m=>(A.s o m).2,λ_=>?_];have γ:=Z4 (rs:=pick rs ks) (us:=us) A.h.1 I λo m=>(A.s o m).2
  have M:=Q (0 - l) rfl λe=>G (by rw[B.mpr e];grind)
  have ε:=λi=>UW (m:=0 - l) (ks:=ks) (ps:=fS `ab us<|u++[l]) (i:=i)
  have δ:=As (m:=0 - l) (ks:=ks) (ps:=fS `ab us<|u++[l]);have E:kY zz rs us ks (kR (0 - l) ks<|fS (pick rs ks) us<|u++[l]):=#[M,δ,Z5 J (λo m=>(A.s o m).2) G]
  rw[eH,af1,gE,lp,wJ];have κ:(fS `ab us<|u++[l]).length=↑ks:=by unfold fS pick;rw[Æ,Ü,Æ]
  generalize fS `ab us (u++[l])=ps at *;show#[fq _,Loop.map (ks.zip ps) _ (λi j=>∃(a b:Tr),j=[.ah f ↥rs,.ah g ↥us,.ah h ↥ks,cF T .f<|eQ (pick rs ks) us [u++[l]] S (gB (pick rs ks) us S),ae.t<|0 - l,.aT .o<|dK<|((ks.zip ps).take i).filterMap<|kQ<|0 - l,a,b]) #[_,_,rfl] ?_ ?_]
  .rintro i ⟨k,x⟩ j hi ⟨a,b,rfl⟩;let#[e1,e2]:=ġ.mp hi;have U:=(Á.mp hi).1;have tk:((ks.zip ps).take<|i+1).filterMap (kQ<|0 - l)=((ks.zip ps).take i).filterMap (kQ<|0 - l)++(kQ (0 - l) (k,x)).toList:=by
    rw[Ė,hi,List.filterMap_append,ae7,ő,List.filterMap_nil];cases kQ (0 - l) (k,x)<;>rfl
   rw[ad7] at U;rw[tk];rfl';show uE ?_;rfl';by_cases B:x=0
   .rw[au3 (by simp[B]),show kQ (0 - l) (k,x)=Ä from au4 B,Option.toList_none,Ă];show#[_,_,rfl]
   .rw[au4 (by simp[B]),show kQ (0 - l) (k,x)=À (k,x / (0 - l)) from au3 B,ae7];have:=γ x<|Ì e2;have hd:=List.length_filterMap_le (kQ<|0 - l)<|(ks.zip ps).take i;rw[Ī] at hd;show#[rfl,x,0 - l,rfl,G,⋯,λ_=>?_];rw[ko,Z2,UU (y:=k) λp mp e=>PF nd e1 (show k∈ks.take i by have:=(ε i p mp).1;rwa[e] at this)];show#[kN _,by unfold dK;rw[Æ];omega,_,_,rfl]
  .rintro j ⟨a,b,rfl⟩;rfl';rw[ğ];show#[(cq _<|om _).o,q _ (.inr #[E.ne,E]) _]
inductive iJ(xs:af)(Q:Tr->aB):Prop
 |mk(_:↑xs=3)(f g h:Fl)(rs:av)(us:aj)(ks:aC)(N zz:Nat)(_:Fp f)(_:Fp g)(_:Fp h)(_:xs=[.ah f ↥rs,.ah g ↥us,.ah h ↥ks])(_:Bz N zz rs us)(_:↑us<=8)(_:↑ks<=N)(_:Val rs ks)(_:ks.Nodup)(_:ik rs ks)(_:¬ Fz rs us ks)(_:∀d:List (Int×Rat),l0 zz rs us ks d->∀j,Q (.aT .f (dK d)) j):iJ xs Q
def OL:aG P w K mg base bJ 8 T.vu.a T.vu.d ["rows","unknowns","numbers"] (bU K Â 0 3 iJ):=by
 show cu T.vu.F Od rfl ∎ ?_
 intros
 show#[_,(aK (bM 3<|qc T.sO (FD T)<|ak (qv 0)<|ak (qv 1)<|ak (qv 2) aA)
  (aK (fk (dY<|iE (iC rfl) ir T.fA<|ak (qv 3) aA) (cD 4) (aV (cB (b7 Cq Be (qv 4)<|qv 3) (aK (bM 5 (qc T.sO (FD T) (ak `cR (ak `bX (ak (Vd rfl (HF (AK (N:=["other","number"]) (ix:=[Ä,À 4]) rfl (WC<|pv 3) (λ_ _ _ _ _=>AF (show (["other","number"]:aj).Nodup by decide) rfl `al<|.inr rfl) (λ_ _ _ _ _=>HD<|Ib Eg (pv 0) (pv 1)<|Yt _) (λ_ _ _ _ _=>pv 0) #[rfl,rfl,rfl,ø]))) aA)))))
  (aV<|bM 3<|xH (z'm rfl<|qv 5) (qv 5)<|qv 3)) cA)))
  (aV<|bI<|qv 3))),?_]
 intro xs Q' _ zy;let#[_,f,g,h,rs,us,ks,N,zz,_,_,_,rfl,D,J,G,hv,nd,hM,Y,q]:=zy;have α:=D.n;rfl';show#[rfl,f,g,h,rs,us,ks,N,zz,‹_›,‹_›,‹_›,rfl,D,J,G,hv,nd,hM,λd hd _=>?_];rcases hd with⟨_,hd⟩ |⟨_,hd⟩
 .show au5 hd Y
 rw[K0];rfl';have C:∀d:List (Int×Rat),(dK d).map (λp=>j4 p.1)=(d.map (·.1)).map ae.t:=λd=>by
  unfold dK;rw[ð,ð];rfl
 have Q:∀d:List (Int×Rat),(dK d).map (·.1)=(d.map (·.1)).map λn=>(Sum.inl n:aW):=λd=>by
  unfold dK;rw[ð,ð];rfl
 have I:∀(d:List (Int×Rat))(k:Int),(look (dK d)<|Sum.inl k).isSome=Â↔k∈d.map (·.1):=λd k=>by
  unfold look dK;rw[ϖ,aj9,ϖ,at7,ň];constructor
  .rintro⟨p,mp,e⟩;have e:p.1=k:=Sum.inl.inj<|au8 e;rw[<- e];show ē mp
  .intro m;let#[p,mp,rfl]:=á.mp m;show#[p,mp,au6 rfl]
 show#[(cq _<|om d).t,?_];rw[Iu,C,eH,gE,lp];show#[fq _,Loop.map (d.map (·.1)) _ (λi j=>∃(r:List (Int×Rat))(a b:Tr),j=[.ah f ↥rs,.ah g ↥us,.ah h ↥ks,.aT .f<|dK r,a,b]/\kY zz rs us ks r/\(r.map (·.1)).Sublist (d.map (·.1))/\∀k∈(d.map (·.1)).take i,k∈r.map (·.1)->Fz rs us ((r.map (·.1)).filter λx=>!decide (x=k))) #[d,_,_,rfl,hd,Ĩ _,λk m=>(by rw[ad5] at m;cases m)] ?_ ?_]
 .rintro i k j hi ⟨r,a,b,rfl,hs',hl',hf'⟩;have tk:(d.map (·.1)).take (i+1)=(d.map (·.1)).take i++[k]:=by rw[Ė,hi];rfl
  have β:↑r<=↑ks:=by have:=hs'.l.length_le;rwa[Æ] at this
  rfl';change if ((look (dK r)<|Sum.inl k).isSome)=Â then _ else _
  split
  .next A=>
   have A:=(I r k).mp A;show#[dK r,r.map (·.1),k,rfl,Q r,rfl,by rw[Æ];omega,?_];have z:((r.map (·.1)).filter λx=>!decide (x=k)).Sublist ks:=List.Sublist.trans Ű hs'.l;have M:Val rs ((r.map (·.1)).filter λx=>!decide (x=k)):=λx u=>hv x<|z.subset u
   have H:((r.map (·.1)).filter λx=>!decide (x=k)).length<=N:=Ï z.length_le G;have e1:cT (bj (((r.map (·.1)).filter λx=>!decide (x=k)).map Tr.int))=((r.map (·.1)).filter λx=>!decide (x=k)).map ae.t:=by rw[show ((r.map (·.1)).filter λx=>!decide (x=k)).map Tr.int=((r.map (·.1)).filter λx=>!decide (x=k)).map ae.t from rfl,qg,uP]
   rw[e1];show#[rfl,f,g,.f,rs,us,_,N,zz,‹_›,‹_›,inferInstance,rfl,D,J,H,M,z.nodup nd,λx u=>hM x<|z.subset u,λE v _=>?_];rw[K0];rfl';show#[(cq _<|om E).t,?_];have U:((dK E).isEmpty=Â)↔E=[]:=by unfold dK;rw[List.isEmpty_iff,List.map_eq_nil_iff]
   rcases v with⟨rfl,O⟩ |⟨n2,v⟩
   .show⟨(cq _ (om r)).t,r,_,_,rfl,hs',hl',λx u B=>?_⟩;rw[tk] at u;rcases É.mp u with u |u
    .show hf' x u B
    .rw[å.mp u];show O
   .rw [au4 (by cases e:(dK E).isEmpty with
     |true=>show au5 (U.mp e) n2
     |false=>rfl)]
    show#[(cq _<|om E).t,E,_,_,rfl,#[v.c,v.l.trans z,v.b],v.l.trans<|Ű.trans hl',λx u B=>?_];rw[tk] at u;rcases É.mp u with u |u
    .show (hf' x u (ĝ.mp (v.l.subset B)).1).mono λy my=>?_
     let#[m1,m2]:=ĝ.mp my;show ĝ.mpr #[(ĝ.mp<|v.l.subset m1).1,m2]
    .rw[å.mp u] at B;have:=(ĝ.mp<|v.l.subset B).2;simp at this
  .next A=>
   have A:¬ k∈r.map (·.1):=λm=>A<|(I r k).mpr m
   show#[r,_,_,rfl,hs',hl',λx u B=>?_];rw[tk] at u;rcases É.mp u with u |u
   .show hf' x u B
   .rw[å.mp u] at B;show au5 B A
 .rintro j ⟨r,a,b,rfl,hs',hl',hf'⟩;rw[ğ] at hf';rfl';show#[(cq _<|om r).o,q r #[hs',λk m=>hf' k (hl'.subset m) m] _]
def NY:aG P w K mg base bJ 1 T.ky.a T.ky.d ["self","numbers","weights"] (zH K T.abJ):=by
 show T.ky.F.ok NU (λvs H Q E h=>?_) λbK A outer s H vs Q E g h=>?_
 .obtain⟨_,_,_,_,_,rfl,_⟩:=h;rfl
 .obtain⟨e,a,b,xs,ys,rfl,he,ha,hb,q⟩:=h;show#[_,Ac (wR<|Lg T.ky.t rfl T.MJ<|ll (pv 0)<|ll Ji mz)<|Ac (KD T.ky.t T.yt (pv 0) (pN yw rfl T.fA rfl<|ll (pv 1) mz) rfl)<|uf<|KD T.ky.t T.yu (pv 0) (pN yw rfl T.fA rfl<|ll (pv 2) mz) rfl,Xt he ha hb q]
abbrev wI(d:List (Int×Rat)):Xv:=#[.ref T.abJ,[("weights",.ah .f ((d.map (·.2)).map ae.t)),("numbers",.ah .f ((d.map (·.1)).map ae.t))]]
inductive oy(T:Tx w K mg)(xs:af)(Q:Tr->aB)(q:Xv->Prop):Prop
 |mk(_:↑xs=3)(f g h:Fl)(rs:av)(us:aj)(ks:aC)(N zz:Nat)(_:Fp f)(_:Fp g)(_:Fp h)(_:xs=[.ah f ↥rs,.ah g ↥us,.ah h ↥ks])(_:Bz N zz rs us)(_:↑us<=8)(_:↑ks<=N)(_:Val rs ks)(_:ks.Nodup)(_:∀k∈ks,0<(bP rs k).2.2.2.2)(_:∀d,l0 zz rs us (mH rs ks) d->q (wI T d))(_:∀(S:Nat->Nat),i9 zz (pick rs ks) us S->zr (pick rs ks) us S (aX (pick rs ks) us)=0->∀j,Q (cF T .o (eQ (pick rs ks) us [dF (pick rs ks) us (bA us (pick rs ks) 0) S] S (gB (pick rs ks) us S))) j):oy T xs Q q
def z8:aG P w K mg base `aZ 9 T.qX.a T.qX.d ["rows","unknowns","numbers"] (iO K Â 0 3<|oy T):=by
 show r9 T.qX.F TF rfl ∎ λbK A outer s H E q hr hu hN=>?_
 show#[_,(aK (iD 3<|qc T.tm (FI T)<|ak (gg ["number","rows"] [Ä,À 0] (dY<|qv 2) (c7 0) (λ_ _ _ _ _=>(a7 (qv 1)<|qv 0)))<|ak (qv 1) aA)
  (aK (cB (b7 eI eG (e7 (eF T T.rg<|zM T) (qv 3)<|ak aD aA)<|gP [0,1] T.g9 T.hG) (aV<|nh<|m9 3) cA)
  (aK (bM 4<|qc T.vu (OL T)<|ak (qv 0)<|ak (qv 1)<|ak (gg ["number","rows"] [Ä,À 0] (dY<|qv 2) (c7 0) (λ_ _ _ _ _=>(qv 0)) (ht:=λ_ _ _ _ _=>(pR<|b7 eI eG (a7 (a7 (qv 1)<|qv 0) aD)<|ny T.tF))) aA)
  (aV<|Va rfl rfl rfl rfl rfl rfl T.CV T.ky.t ((NY T).mono ⋯) hr T.ky.b<|ak (iE (iC rfl) ir T.fA<|ak (qv 4) aA)<|ak (Ml rfl rfl T.fA<|qv 4) aA)))),?_]
 intro xs Q' _ zy;let#[_,f,g,h,rs,us,ks,N,zz,_,_,_,rfl,j,D,r,y,nd,M,q1,B]:=zy;have J:=j.n;have u:=rZ j r y;have β:=u.h.2;rfl';show aY.map ks _ (λk=>rs.getD k.toNat oX) ⋯ (λk mk R u=>?_) ?_
 .rfl';show dG _ _ _ (rT y mk) u
 rfl';show#[rfl,.f,g,pick rs ks,us,zz,inferInstance,‹_›,rfl,u,λS v _=>?_];have B:=B S v;let#[G,I,U,O,hB]:=Z6 v;rw[U] at B ⊢;have α:=hB I<|É.mpr<|.inr<|.head _
 try simp only[fu,fG,dO,d9,dW]
 show#[sq T _,fD T #[rfl,.l Å,_,0,G,I,inferInstance,rfl,rfl,⋯,λ_=>?_]];show uE ?_;rfl';by_cases ht:0 - I=0
 .rw[au4<|au6 ht];show#[qu T _,B (O.mp<|by grind) _]
 .rw[au3<|by simpa using ht];have C:¬ Fz rs us (mH rs ks):=(KO v (λo m=>by
   let#[k,mk,rfl]:=á.mp m;show M k mk) (λe=>ht (by rw[O.mpr e];grind)) rfl).no<|UT v
  have i:(mH rs ks).Sublist ks:=Ű;show aY.filter ks ae.t (λk=>decide<|(rs.getD k.toNat oX).2.2.2.1=0) id ⋯ (λk mk A R h1 h2=>?_) ?_
  .rfl';show dG _ _ _ (rT y mk) ?_;rfl';split
   .next z=>show h1 z
   .next z=>show h2 (by simpa using z)
  .rw[List.map_id];rw[eH,jF];show#[rfl,f,g,.f,rs,us,mH rs ks,N,zz,‹_›,‹_›,inferInstance,rfl,j,D,Ï i.length_le r,λx mx=>y x<|i.subset mx,i.nodup nd,λk mk=>#[au8 (ĝ.mp mk).2,M k<|i.subset mk],C,λd hd _=>#[(cq _<|om d).t,?_]];rfl';rw[Iu];have Q:(dK d).map (λp=>j4 p.1)=(d.map (·.1)).map ae.t:=by unfold dK;rw[ð,ð];rfl
   have Y:(dK d).map (·.2)=(d.map (·.2)).map ae.t:=by unfold dK;rw[ð,ð];rfl
   rw[Q,Y,eH,qg];show#[nu _,nu _,q1 d hd]
def L8{cs:aR}(hp:∀c∈cs,0<=c)(k:Nat):0<=cf `dj k:=by
 unfold cf cJ;rw[Ç,Î];cases e:cs[k]? with
 |none=>show aq7 _
 |some c=>
  have p:=hp c<|Ì e;have a:=(gy cs 1 ∎).1;change 0<=dR `eb c;unfold dR;show Ů (Ϙ.mpr p)<|Int.fdiv_nonneg (Ĳ a)<|ό _
def Nm{rs:av}{us:aj}{S:Nat->Nat}{k:Nat}:dX `cv k↔k<aX rs us/\0<zr rs us S k:=by
 unfold gB;rw[tK];show#[λh=>h.resolve_left λz=>au5 (mR.mp z) ∅,.inr]
section
variable{z:Nat}{rs:av}{us:aj}{S:Nat->Nat}{q:Int}{y:Nat->Int}
def Te(b:i9 z rs us S)(d:zr rs us S `ae=0)(F:Lp.ig ↑rs `ae `ac (dX<|gB rs us S) q y):Lp.sm `ae (λk=>cf (cJ<|bA us rs 0) k*y k)=0:=by
 have e:=F.cost (S:=S) (c:=cf<|cJ<|bA us rs 0) (xB (by unfold cJ;rw[Æ,xk]));rw[Lp.bZ (f:=λk=>Lp.zz ↑rs `ac (cf<|cJ<|bA us rs 0) S k*y k) λk a=>?_,show Lp.zz ↑rs `ac (cf<|cJ<|bA us rs 0) S `ae=0 from d,ô] at e
 .show (ϙ.mp e).resolve_left (æ b.g.pos)
 .by_cases p:0<zr rs us S k
  .rw[F.sz k a<|Nm.mpr #[a,p],ô]
  .have:=b.o k a;rw[show Lp.zz ↑rs `ac (cf<|cJ<|bA us rs 0) S k=0 by unfold zr at p;omega,ů]
def L9(u:i9 z rs us S)(r:zr rs us S `ae=0)(hn:∀c∈bA us rs 0,0<=c)(F:Lp.ig ↑rs `ae `ac (dX<|gB rs us S) q y){i:Nat}{o:bV}(g:rs[i]?=À o)(B:o.2.2.2.1=0/\0<o.2.2.2.2):(o.2.1≠"most"->y (↑us+2*i)=0)/\(o.2.1≠"least"->y (↑us+2*i+1)=0):=by
 have D:=(Á.mp g).1;have t:=Lp.f7 (λk v=>Ů (L8 hn k)<|F.nn k v)<|Te u r F;let#[h,E]:=B;have A:=(lg us o).1;have a:∀c:Rat,c∈bA us rs 0->c=Ë o.2.2.2.2 `ak->dR (cE<|bA us rs 0) c≠0:=λc C n l=>by
  have w:=pW (c:=c)<|(gy (bA us rs 0) 1 ∎).2.2.1 c C;rw[show dR (List.foldl kM 1<|bA us rs 0) c=0 from l] at w;have j:=î.mpr (gy `ap 1 ∎).1;rcases Ŗ.mp w.symm with x |x
  .show au5 x (č j)
  .rw[n,<- Ġ 1] at x;have:=(ż (æ A) ∎).mp x;omega
 let#[d,b]:=B2 (us:=us) g;have mem:∀c,c∈[cb us 0 o,ca us 0 o]->c∈bA us rs 0:=λc m=>É.mpr<|.inr<|List.mem_flatMap.mpr #[o,Ì g,m]
 show#[λk=>?_,λk=>?_]
 .have e:cb us 0 o=Ë o.2.2.2.2 `ak:=by unfold cb;rw[au4 h,au3 k]
  have:=t (↑us+2*i) (by unfold aX;omega);rw[d] at this;show (ϙ.mp this).resolve_left<|a _ (mem _<|.head _) e
 .have e:ca us 0 o=Ë o.2.2.2.2 `ak:=by unfold ca;rw[au4 h,au3 k]
  have:=t (↑us+2*i+1) (by unfold aX;omega);rw[b] at this;show (ϙ.mp this).resolve_left<|a _ (mem _<|.tail _<|.head _) e
def Ma{sh:Nat->Prop}(F:Lp.ig ↑rs `ae `ac sh q y){i:Nat}{o:bV}(a:rs[i]?=À o):(bo us o:Rat)*(dot `aM (λk=>(y k:Rat)) - q*o.2.2.1)=((y (↑us+2*i+1):Int):Rat) - ((y (↑us+2*i):Int):Rat):=by
 have b:=(Á.mp a).1;have k:=F.BE i b;rw[Lp.ba (g:=λk=>sgn `an*(A0 ↑us ↑rs i `aQ `an k*y k)) λk _=>by rw[qm a,af4],Lp.bN] at k;have e:sgn `an≠0:=by unfold sgn;split<;>decide
 have d:=(ϙ.mp k).resolve_left e;rw[show aX rs us+1=↑us+2*↑rs+1 from rfl,IP b,show ↑us+2*↑rs=aX rs us from rfl,F.rhs] at d;have c:((_:Int):Rat)=((0:Int):Rat):=au9 (λz:Int=>(z:Rat)) d;rw[ł,ł,K1,ab7,Ċ,ŕ,show cX us o=dR `ak o.2.2.1 from rfl,pW (lg us o).2.2] at c;have z:((0:Int):Rat)=0:=rfl;rw[z] at c
 grind
def Z7(n:i9 z rs us S)(m:zr rs us S `ae=0)(hn:∀c∈bA us rs 0,0<=c)(F:Lp.ig ↑rs `ae `ac (dX<|gB rs us S) q y){t:Rat}(ht:0<t){o:bV}(mo:o∈rs)(u:o.2.2.2.1=0/\0<o.2.2.2.2):jn o.2.1 (dot `aM (λk=>t*(y k:Rat)) - t*q*o.2.2.1)=0:=by
 let#[i,b]:=ĩ mo;have B:=(Á.mp b).1;let#[h,j]:=L9 n m hn F b u;have r:=Ma F b;have nb:(0:Rat)<=((y (↑us+2*i):Int):Rat):=Ē.mpr (F.nn _ (by unfold aX;omega));have C:(0:Rat)<=((y (↑us+2*i+1):Int):Rat):=Ē.mpr (F.nn _ (by unfold aX;omega));have g:(0:Rat)<(bo us o:Rat):=î.mpr (lg us o).1;rw[AX];generalize dot `aM (λk=>(y k:Rat))=D at *;have e:t*D - t*q*o.2.2.1=t*(D - q*o.2.2.1):=by grind
 rw[e];generalize D - q*o.2.2.1=d at *;have l:((0:Int):Rat)=0:=rfl;show (Ar _ _).mpr #[λk=>?_,λk=>?_,λv A=>?_]
 .rw[h (by rw[k];decide),l] at r;have hd:0<=d:=by
   show ab4.mp λa=>?_
   have:=Rat.mul_pos g (show 0 < -d by grind)
   grind
  show ñ (ě ht) hd
 .rw[j (by rw[k];decide),l] at r;have hd:d<=0:=by
   show ab4.mp λa=>?_
   have:=Rat.mul_pos g a
   grind
  have:=ñ (ě ht) (show 0<=-d by grind)
  grind
 .rw[h A,j v] at r;have hd:d=0:=by
   rcases Ŗ.mp (show (bo us o:Rat)*d=0 by grind) with x |x
   .show au5 x (č g)
   .show x
  rw[hd];grind
end
def Hq{z:Nat}{rs:av}{us:aj}{S a:Nat->Nat}(h:i9 z rs us S)(d:zr rs us S `ae=0)(hn:∀c∈bA us rs 0,0<=c)(G:Lp.Gd ↑rs `ae `ac a)(g:jV ↑rs `cv a):(∀k,k<↑us->0<=tl rs us a k)/\∀o∈rs,o.2.2.2.1=0/\0<o.2.2.2.2->jn o.2.1 (gN us o<|tl rs us a)=0:=by
 have F:=Lp.fX (sh:=dX<|gB rs us S) G g;have b:(0:Rat)<(Lp.dd ↑rs `ac a:Int):=î.mpr G.pos;show#[λk l=>?_,λo mo j=>?_]
 .unfold tl ku;show rK (F.nn k (by unfold aX;omega)) G.pos
 .have k:=Z7 h d hn F (ae4.mpr b) mo j;unfold gN;have e:dot `aM (tl rs us a)=dot `aM λk=>((Lp.dd ↑rs `ac a:Int):Rat)⁻¹*(Lp.i3 ↑rs `ae `ac a k:Rat):=by
   show z7 λk _=>?_
   rw[<- Kf G k];have:=Ε _<|č b;unfold tl
   grind
  have i:((Lp.dd ↑rs `ac a:Int):Rat)⁻¹*((Lp.dd ↑rs `ac a:Int):Rat)*o.2.2.1=o.2.2.1:=by
   have:=Ε _<|č b
   grind
  rw[i] at k;rw[e];show k
def KP{z:Nat}{rs:av}{us:aj}{S:Nat->Nat}(b:qV z rs us)(G:Lp.Gd ↑rs `ae `ac S){k:Nat}(l:k<↑us):bs (tl rs us S k)<=z:=by
 let#[g,j]:=b.v S G.lt;have d:k<aX rs us:=by unfold aX;omega
 unfold tl ku;by_cases h:∃i,i<↑rs/\S i=k
 .obtain⟨i,a,rfl⟩:=h;rw[Lp.gQ G a];show n7 `be (j i _<|Ñ _) g
 .rw[Lp.c9 (ç d) λi a e=>h #[i,a,e],Ġ,kE];show b.h.1
def YR(rs:av)(us:aj)(cs:aR)(S:Nat->Nat):(dF rs us cs S).length=aX rs us+1:=by unfold dF;rw[Æ,Ü]
def YS{rs:av}{us:aj}{mk:a8}{cs:aR}{S:Nat->Nat}{a:Int}{p:aW×bR}(G:Lp.Gd ↑rs `ae `ac S)(m:p∈fT ↑rs `ae `ac mk (cf<|cJ cs) S a `ae):p∈mk\/∃j:Nat,p=(Sum.inl (j:Int),À a)/\j<aX rs us/\∃v,(dF rs us cs S)[j]?=À v/\0<v:=by
 unfold fT at m;rcases É.mp m with m |m
 .show .inl m
 .obtain⟨j,mj,rfl⟩:=á.mp m;let#[g,b]:=ĝ.mp mj;have h:=ħ.mp g;unfold lV at b;simp only[ê,decide_eq_true_eq] at b;show .inr #[j,rfl,h,Ë (Lp.zz ↑rs `ac (cf<|cJ cs) S j)<|cE cs*Lp.dd ↑rs (Mx rs us) S,?_,?_]
  .unfold dF;rw[Î,ò ⋯];rfl
  .have hd:=Ŷ (gy cs 1 ∎).1 G.pos;have d:=rK (Ĳ b.1) hd;show Rat.lt_of_le_of_ne d λe=>?_
   rw[<- Ġ 1] at e;have:=(ż ∎ (æ hd)).mp e;omega
structure nN(z:Nat)(rs:av)(us:aj)(ss:bW)(S:Nat->Nat)(mk:a8):Prop where
 g:Lp.Gd ↑rs `ae `ac S
 n:jV ↑rs mk S
 m:qO `ae ss mk
 r:∀row∈ss,row.length=aX rs us+1/\CD z z row
 l:↑mk<=↑ss*aX rs us
def nN.step{z:Nat}{rs:av}{us:aj}{ss:bW}{S g:Nat->Nat}{mk:a8}{cs:aR}(h:nN z rs us ss S mk)(hz:z<=3000)(G:Lp.Gd ↑rs `ae `ac g)(x:jV ↑rs mk g)(q:CD z z (dF rs us cs g)):nN z rs us (ss++[dF rs us cs g]) g (fT ↑rs `ae `ac mk (cf<|cJ cs) g ↑ss<|aX rs us):=by
 show#[G,λi u s=>?_,#[λd m v o=>?_,λp m=>?_],λd m=>?_,?_]
 .rcases tK.mp s with s |⟨_,s⟩
  .show x i u s
  .rw[Lp.ee u] at s;omega
 .rcases É.mp m with m |m
  .show h.m.r d m v o
  .rw[å.mp m] at o;show Ï (q.bs (Ñ _) o) hz
 .rcases YS G m with m |⟨j,rfl,hj,v,e,hv⟩
  .obtain⟨kn,j,e1,e2,hj,d,v,e3,e4,hv⟩:=h.m.m p m;show#[kn,j,e1,e2,hj,d,v,?_,e4,hv];rw[ĉ (Á.mp e3).1];show e3
  .show#[ss.length,j,rfl,rfl,hj,_,v,by rw[ď<|Ñ _,af9];rfl,e,hv]
 .rcases É.mp m with m |m
  .show h.r d m
  .rw[å.mp m];show#[YR _ _ _ _,q]
 .have a:=IJ (m:=↑rs) (n:=aX rs us) (M:=Mx rs us) (mk:=mk) (c:=cf<|cJ cs) (S:=g) (a:=(↑ss:Int)) (i:=aX rs us);have b:=h.l;rw[Ö,Œ,Ξ];omega
def i9.L{z:Nat}{rs:av}{us:aj}{S:Nat->Nat}(h:i9 z rs us S)(hz:z<=3000):nN z rs us [dF rs us `ap S] S `cv:=
 nN.step (ss:=[]) (S:=S) (mk:=[]) #[h.g,λi a s=>au5 (mR.mp s) ∅,#[λ_ m=>(nomatch m),λ_ m=>(nomatch m)],λ_ m=>(nomatch m),ľ _] hz h.g (λi a s=>au5 (mR.mp s)<|by simp) h.d
structure kW(z:Nat)(rs:av)(us:aj)(X:List (Str×Rat)):Prop where
 e:∃x:Nat->Rat,X=us.zipIdx.map (1e3)/\(∀k,k<↑us->0<=x k/\bs (x k)<=z)/\∀o∈rs,o.2.2.2.1=0/\0<o.2.2.2.2->jn o.2.1 `cL=0
def JN{z:Nat}{rs:av}{us:aj}{S d:Nat->Nat}{mk:a8}(e:qV z rs us)(l:i9 z rs us S)(h:zr rs us S `ae=0)(G:Lp.Gd ↑rs `ae `ac d)(j:jV ↑rs mk d)(m:∀k,dX `cv k->dX mk k):kW z rs us (oU rs us d):=by
 let#[a,b]:=Hq l h (e.k 0).1.p G λi n s=>j i n<|m _ s
 show#[_,rfl,λk g=>#[a k g,KP e G g],b]
abbrev si(us:aj):List (Int ⊕ Str):=([1,2,3,4]:aC).map Sum.inl++us.map Sum.inr
def YT(us:aj):(([1,2,3,4]:aC).map ae.t++↥us)=(si us).map ae.t:=by
 unfold si;rw[ß,ð,ð];rfl
inductive jH(xs:af)(Q:Tr->aB):Prop
 |mk(_:↑xs=1)(f:Fl)(us:aj)(_:Fp f)(_:xs=[.ah f ↥us])(_:↑us<=100)(_:∀j,Q (.ah .o ((si us).map ae.t)) j):jH xs Q
def PH{z:Bool}:aG P w K mg base bJ 1 T.vv.a T.vv.d ["unknowns"] (bU K z 0 1 jH):=by
 show cu T.vv.F Pz rfl ∎ ?_
 intros
 show#[_,(aV<|bI<|d8 (Li rfl rfl T.fA rfl T.mQ<|ak aD<|ak (d8 (ny T.CZ) aD) aA)<|iE (iC rfl) ir T.fA<|ak (qv 0) aA),?_];intro g e _ zy;let#[_,f,us,_,rfl,b,q]:=zy;rfl';show#[1,4,rfl,rfl,∎,∎,∎,?_];dsimp only;rw[show (È 4).map (λi:Nat=>Tr.int<|1+i)=([1,2,3,4]:aC).map ae.t from rfl,Am,YT];show#[by rw[Æ,Æ];change 4+↑us<=1000000;omega,nu _,q _]
def JO(u x:Str):(b4 [(u,(1:Rat))] x).getD 0=0\/(b4 [(u,(1:Rat))] x).getD 0=1:=by
 by_cases e:u=x
 .rw[AI (p:=(u,(1:Rat))) e];show .inr rfl
 .left;simp[b4,e]
abbrev iy(x:aR):Tr:=.ah .o ↥x
def A1:∀B:bW,bj `bV=↥B
 |[]=>rfl
 |x::B=>by change Pu.aE (.ah .o ↥x)::bj `bV=ae.t x::_;rw[eH,A1 B]
def Hr:∀(A B:af),bj (A++B)=bj A++bj B
 |[],_=>rfl
 |a::A,B=>by change Pu.aE a::bj (A ++ B)=_;rw[Hr A B];rfl
def Mb(A B:bW):Pu.aE (.ah .o<|↥A++B.map iy)=.ah .f ((A++B).map ae.t):=by
 change Tr.ah .f (bj _)=_;rw[Hr,qg,A1,ß]
def oS(B:bW):Pu.aE (.ah .o<|B.map iy)=ae.t B:=by
 change Tr.ah .f (bj _)=_;rw[A1];rfl
def JP:∀B:bW,cj `bV=Â
 |[]=>rfl
 |x::B=>by change (cj ↥x&&cj `bV)=Â;rw[fq,JP B];rfl
def JQ:∀B:bW,b5 `bV=Â
 |[]=>rfl
 |x::B=>by change (b5 ↥x&&b5 `bV)=Â;rw[nu,JQ B];rfl
def Hs:∀A B:af,b5 (A++B)=(b5 A&&b5 B)
 |[],_=>rfl
 |a::A,B=>by change (cP a&&b5 (A ++ B))=(cP a&&b5 A&&b5 B);rw[Hs A B,Bool.and_assoc]
inductive jG(T:Tx w K mg)(xs:af)(Q:Tr->aB):Prop
 |mk(_:↑xs=2)(f g:Fl)(rs:av)(us vs:aj)(ss:bW)(S:Nat->Nat)(mk:a8)(_:Fp f)(_:Fp g)(_:xs=[cF T f (eQ rs us ss S mk),.ah g ↥vs])(_:qU rs us)(_:∀o∈rs,0<bo us o/\bi (bo us o)<=3000)(_:↑vs<=100)(_:∀j,Q (.ah .o ((([0,1,2,3,4]:aC).map (bA us rs)).map ae.t ++ (vs.map λu=>gq us ↑rs [(u,1)]).map iy)) j):jG T xs Q
def OH{z:Bool}:aG P w K mg base bJ 4 T.vw.a T.vw.d ["sheet","unknowns"] (bU K z 0 2<|jG T):=by
 show cu T.vw.F Oz rfl ∎ ?_
 intros
 show#[_,(aK (mY 2 ["rank","sheet"] [Ä,À 0] (La T.mQ<|ak (ny T.tF)<|ak (d8 (ny T.CZ) aD) aA) (c7 0) (λ_ _ _ _ _=>(e7 (eF T T.tq<|Fx T) `bX<|ak (qv 0) aA)))
  (aV<|bI<|d8 (qv 2)<|gg ["unknown","sheet"] [Ä,À 0] (dY<|qv 1) (c7 0) (λ_ _ _ _ _=>(e7 (eF T T.tw<|Fu T) (qv 1)<|ak (Jv (HY (qv 0) (gP [1,1] T.MN T.MO) Ju) (hp:=ab9 rfl)) aA)))),?_]
 intro o m _ zy;let#[_,f,g,rs,us,vs,ss,S,mk,_,_,rfl,e,b,l,q]:=zy;rfl';rw[fu,hW];rw[show Ŵ (λn:Nat=>Tr.int<|0+n) (È (4+1 - 0:Int).toNat)=([0,1,2,3,4]:aC).map ae.t from rfl];show#[∎,aY.nG _ _ (λk=>iy<|bA us rs k) ∎ (λk _ R h=>?_) #[?_,?_]]
 .rfl';rw[dW];show fD T #[rfl,f,rs,us,ss,S,mk,k,‹_›,by rw[fG,je],e,b,λ_=>h]
 .show JP (([0,1,2,3,4]:aC).map<|bA us rs)
 rw[show Ŵ (λk=>iy<|bA us rs k) ([0,1,2,3,4]:aC)=(([0,1,2,3,4]:aC).map<|bA us rs).map iy from rfl,oS,r6];generalize i:([0,1,2,3,4]:aC).map `eI=A at q ⊢;have j:↑A=5:=by rw[<- i];rfl
 rfl';show aY.nG vs _ (λu=>iy<|gq us ↑rs [(u,(1:Rat))]) ⋯ (λu _ R h=>?_) ?_
 .rfl';rw[dW];show fD T ?_;change (Ŵ (λx=>x.fst) [((Sum.inr u:aW),ae.t (1:Rat))]).Nodup/\gU T [dn<|cF T f<|eQ rs us ss S mk,Tr.aT .f<|i4<|dH [((Sum.inr u:aW),ae.t (1:Rat))]] _;show#[by simp,rfl,f,.f,rs,us,ss,S,mk,[(u,1)],‹_›,inferInstance,by rw[fG,je];rfl,e,λ_=>h]
 .rw[show Ŵ (λu=>iy<|gq us ↑rs [(u,(1:Rat))]) vs=(vs.map λu=>gq us ↑rs [(u,1)]).map iy from by rw[ð];rfl,show (ae.t A:Tr)=.ah .f ↥A from rfl,Am];show#[by simp only[Æ,j];omega,?_,q _];change b5 _=Â;rw[Hs,nu,JQ];rfl
def K4{j:Type}(x:j)(r:List j):iY (x::r) (À 1) Ä=r:=by
 have a:HT.d7 (x::r).length 0 (À 1)=1:=by
  unfold HT.d7;simp
 have b:HT.d7 (x::r).length (x::r).length Ä=(x::r).length:=rfl;unfold iY;rw[a,b];simp
abbrev kc(n:Nat):aC:=(È n).map λi:Nat=>(i:Int)
def UY(rs:av):pick rs `eJ=rs:=by
 unfold pick kc;rw[ð];show List.ext_getElem ∅ λi b a=>?_
 simp only[List.getElem_map,as5,ab8];rw[Č,Ç,Ð a];rfl
def IY(rs:av):Val rs `eJ:=λk m=>by
 let#[i,a,rfl]:=á.mp m;show#[ό _,by rw[Č];show ħ.mp a]
def Z8(n:Nat):(kc n).Nodup:=Ϩ _ (λa b h e=>h<|ϓ e) List.nodup_range
def IZ{rs:av}{ks:aC}(h:Val rs ks){k:Int}(m:k∈ks):bP rs k∈rs:=by
 unfold bP;rw[Ç,Ð (h k m).2];show Ϛ _
inductive uO(T:Tx w K mg)(xs:af)(Q:Tr->aB)(q:Xv->Prop):Prop
 |mk(_:↑xs=2)(f g:Fl)(rs:av)(us:aj)(N zz:Nat)(_:Fp f)(_:Fp g)(_:xs=[.ah f ↥rs,.ah g ↥us])(_:Bz N zz rs us)(_:↑rs<=N)(_:↑us<=8)(_:∀o∈rs,0<o.2.2.2.2)(_:∀d,l0 zz rs us (mH rs (kc ↑rs)) d->q (wI T d))(_:∀(S1:Nat->Nat) (ss:bW) (S:Nat->Nat) (mk:a8),i9 zz rs us S1->zr rs us S1 (aX rs us)=0->nN zz rs us ss S mk->(∀k,dX (gB rs us S1) k->dX mk k)->↑ss=↑us+5->∀j,Q (cF T .o (eQ rs us ss S mk)) j):uO T xs Q q
def N9:aG P w K mg base `aZ 10 T.vx.a T.vx.d ["rows","unknowns"] (iO K Â 0 2<|uO T):=by
 show r9 T.vx.F NM rfl ∎ λbK A outer s H E q hr hu U=>?_
 show#[_,(aK (Bb<|mI T.rb (zN T)<|ak (qv 0)<|ak (qv 1) aA)
  (aK (iD 2<|mI T.qX (z8 T)<|ak (qv 0)<|ak (qv 1)<|ak (Mm rfl rfl T.fA rfl T.mQ<|dN fM fN T.fO<|ak (qv 0) aA) aA)
  (aK (fk (dY<|sr (qc T.vw (OH T)<|ak (qv 2)<|ak (qv 1) aA) (qq aD) uV) (cD 3)<|aV<|AA<|pU (dy 2) (eF T T.rf<|zQ T)<|mE (qv 3) qe)
  (aV<|nh<|m9 2)))),?_]
 intro xs Q' _ zy;let#[_,f,g,rs,us,N,zz,_,_,rfl,v,h1,h2,hw,q3,q4]:=zy;have C:=v.n;rfl';show#[rfl,f,g,rs,us,‹_›,‹_›,rfl,λh=>au5 h ⋯,λ_ _ j=>?_];show#[rs.length,rfl,⋯,?_];dsimp only;rw[show (È ↑rs).map (λi:Nat=>Tr.int (i:Int))=(kc ↑rs).map ae.t from by unfold kc;rw[ð];rfl,eH,jF];have Y:(kc ↑rs).length=↑rs:=by unfold kc;rw[Æ,Ü]
 have x:=v.q rs (λ_ m=>m) h1;have β:=x.h.2;have C:=v.n;have M:∀o∈rs,0<bo us o/\bi `ak<=3000:=λo m=>#[(x.s o m).1,by have:=(x.s o m).2;omega]
 show#[rfl,f,g,.f,rs,us,kc ↑rs,N,zz,‹_›,‹_›,inferInstance,rfl,v,⋯,⋯,IY rs,Z8 _,λk mk=>hw _<|IZ (IY rs) mk,q3,λr I Q _=>#[sq T _,?_]];rw[UY] at I Q ⊢;have hL:=I.L ⋯;rw[fu];simp only[dO,dW];rw[show Pu.aE (cF T (Fl.l Â)<|eQ rs us [dF rs us (bA us rs 0) r] r (gB rs us r))=cF T (Fl.l Â) (eQ rs us [dF rs us `ap r] r (gB rs us r)) from rfl,fG];show#[rfl,.l Å,g,rs,us,us,_,r,_,inferInstance,‹_›,rfl,x.b,M,⋯,λ_=>?_];have ok:∀B∈(([1,2,3,4]:aC).map (bA us rs)++us.map λu=>gq us ↑rs [(u,1)]),fh rs us B/\∀S,Lp.Gd ↑rs `ae `ac S->CD zz zz (dF rs us B S):=λB mc=>by
  rcases É.mp mc with m |m
  .obtain⟨k,_,rfl⟩:=á.mp m;show x.k k
  .obtain⟨u,_,rfl⟩:=á.mp m;show x.c _<|JO u
 have el:(([1,2,3,4]:aC).map `eI++us.map λu=>gq us ↑rs [(u,1)]).length=↑us+4:=by rw[Ö,Æ,Æ];simp;omega
 have ec:iY ((([0,1,2,3,4]:aC).map<|bA us rs).map ae.t++(us.map λu=>gq us ↑rs [(u,1)]).map iy) (À 1) Ä=((([1,2,3,4]:aC).map<|bA us rs).map ae.t++(us.map λu=>gq us ↑rs [(u,1)]).map iy):=K4 _ _;rw[Bh,ec,Mb];generalize (([1,2,3,4]:aC).map `eI++us.map λu=>gq us ↑rs [(u,1)])=cl at ok el;have D:aX rs us<=40:=by unfold aX;omega
 rw[lp];show#[fq _,Loop.map cl _ (λi j=>∃(ss:bW)(S:Nat->Nat)(mk:a8)(a:Tr),j=[.ah f ↥rs,.ah g ↥us,cF T .o<|eQ rs us ss S mk,a]/\nN zz rs us ss S mk/\(∀k,dX (gB rs us r) k->dX mk k)/\↑ss=i+1) #[_,r,_,_,rfl,hL,λ_ h=>h,rfl] ?_ ?_]
 .rintro i B j hi ⟨ss,S,mk,a,rfl,hZ,hc,hsl⟩;have α:=(Á.mp hi).1;let#[hC,hD]:=ok B<|Ì hi;have J:↑mk<=10000:=Ï hZ.l (Ï (Α (show ↑ss<=20 by omega) D) ∎);rfl';show wY rfl (by intro z;cases z)<|fD T ?_;rfl';rw[fG];show#[rfl,.f,rs,us,ss,S,mk,B,inferInstance,rfl,x.y,hZ.g,hZ.n,hC,J,⋯,λO G U hO j2 e=>?_];rw[e,dW];show#[qu T _,?_];show#[_,O,_,_,rfl,hZ.step ⋯ G U (hD O G),λk s=>tK.mpr<|.inl<|hc k s,by rw[Ö,hsl];rfl]
 .rintro j ⟨ss,S,mk,a,rfl,hZ,hc,hsl⟩;rfl'
  try rw[dW]
  show#[qu T _,q4 r ss S mk I Q hZ hc ⋯ _]
def Mv{j:Type}[ae j](xs:List j):List.mapIdx (λi x=>Tr.aJ [Tr.int ((i+1:Nat):Int),x]) ↥xs=xs.zipIdx.map λp=>Tr.aJ [Tr.int ((p.2+1:Nat):Int),ae.t p.1]:=by
 show List.ext_getElem ∅ λi a b=>?_
 simp
inductive lF(T:Tx w K mg)(xs:af)(Q:Tr->aB)(q:Xv->Prop):Prop
 |mk(_:↑xs=2)(f g:Fl)(rs:av)(us:aj)(N zz:Nat)(_:Fp f)(_:Fp g)(_:xs=[.ah f ↥rs,.ah g ↥us])(_:Bz N zz rs us)(_:us.Nodup)(_:↑rs<=N)(_:↑us<=8)(_:zz+(↑us+4)*(zz+1)<=3900)(_:∀o∈rs,0<o.2.2.2.2)(_:∀d,l0 zz rs us (mH rs (kc ↑rs)) d->q (wI T d))(_:∀(X:List (Str×Rat)) (Y:List ((Int ⊕ Str)×Rat)) (b:List (aR×aR)),kW zz rs us X->∀j,Q (.aJ [.aT .o (X.map 1e1),ae.t Y,ae.t b]) j):lF T xs Q q
def YU:aG P w K mg base `aZ 11 T.vz.a T.vz.d ["rows","unknowns"] (iO K Â 0 2<|lF T):=by
 show r9 T.vz.F YE rfl ∎ λbK A outer s H E q hr hu hN=>?_
 show#[_,(aK (bM 2<|mI T.vx (N9 T)<|ak (qv 0)<|ak (qv 1) aA)
  (aK (iD 3<|eZ aA)
  (aK (iD 4<|eZ aA)
  (aK (fk (Lj rfl T.pz<|ak (qc T.vv (PH T)<|ak (qv 1) aA) aA) (gO (n:=2) rfl<|dz (cD 5)<|dz (cD 6) gL) (aK (m8 (dy 3)<|gn<|ak (qv 6)<|ak (e7 (eF T T.rg<|zM T) (qv 2)<|ak (qv 5) aA) aA)
  (aK (bM 7<|e7 (eF T T.tD<|FC T) (qv 2)<|ak (qv 5) aA)
  (aV<|m8 (dy 4)<|gn<|ak (a7 (qv 7) aD)<|ak (sr (a7 (qv 7) aD) (qq aD) uV) aA))))
  (sj 4<|sj 3<|aV<|bI<|gn<|ak (xu (eF T T.rh<|zP T)<|qv 2)<|ak (qv 3)<|ak (qv 4) aA))))),?_]
 intro xs Q' _ zy;let#[_,f,g,rs,us,N,zz,_,_,rfl,C,γ,h1,h2,h3,hw,q1,q2]:=zy;have O:=C.n;rfl';show#[rfl,f,g,rs,us,N,zz,‹_›,‹_›,rfl,C,h1,⋯,hw,q1,λS1 ss S mk hS h0 G hc ζ _=>?_];have Q:=C.q rs (λ_ m=>m) h1;have η:=Q.h.2;have O:=C.n;rw[xT];show#[sq T _,rfl,g,us,‹_›,rfl,⋯,λ_=>?_];rw[eH,gE,lp,Mv];have δ:(si us).length=↑us+4:=by unfold si;rw[Ö,Æ,Æ];simp;omega
 show#[fq _,Loop.map _ _ (λi j=>∃(Y:List ((Int ⊕ Str)×Rat))(b:List (aR×aR))(x y z:Tr),j=[.ah f ↥rs,.ah g ↥us,cF T .f<|eQ rs us ss S mk,.ah .o ↥Y,.ah .o ↥b,x,y,z]/\↑Y=i/\↑b=i) #[[],[],_,_,_,rfl,rfl,rfl] ?_ ?_]
 .rintro i ⟨gl,l⟩ j hi ⟨Y,b,x,y,z,rfl,eY,eb⟩;let#[hg,ei]:=sv hi;dsimp only at hg ei;subst ei;have ε:l<(si us).length:=(Á.mp hg).1;have I:l+1<↑ss:=⋯
  obtain⟨M,D⟩:∃M,ss[l+1]?=À M:=#[_,Ð I];have u:=G.r _<|Ì D;obtain⟨r,v,rfl⟩:∃r v,M=r++[v]:=#[_,_,(List.dropLast_concat_getLast (λe=>by rw[e] at u;show au5 u.1<|by simp)).symm];have hv:=u.2.bs (Ñ _) (É.mpr (.inr<|.head _):v∈r++[v]);have β:=KL G.m G.r I (Ï (af2 (ae0 _ (show l+1<=↑us+4 by omega)) _) h3) Q.h.1;rfl';simp only[fu,dO,dW,fG,d9];show fD T #[rfl,.f,_,l+1,r,v,inferInstance,rfl,D,⋯,λ_=>?_];rw[kN];show#[rfl,⋯,fD T #[rfl,rs,us,ss,S,mk,l+1,rfl,⋯,⋯,I,⋯,G.m,β,λo m=>(Q.s o m).2,λ_=>?_]];have ep:∀(A B:aR),Pu.aE (Tr.aJ [.ah .o ↥A,.ah .o ↥B])=.aJ [ae.t A,ae.t B]:=λA B=>by
   change Tr.aJ [Pu.aE _,Pu.aE _]=_;rw[eH,eH]
  have el:∀(A B:aR),aI (Tr.aJ [ae.t A,ae.t B])=.aJ [ae.t A,ae.t B]:=λA B=>r6 (A,B)
  generalize fS rs us (pp ss mk (l+1)<|l+1).1=qA;obtain⟨U,J,α⟩:∃U J,(pp ss mk (l+1)<|l+1).2.reverse=U::J:=by
   cases e:(pp ss mk (l+1)<|l+1).2.reverse with
   |nil=>have:=au9 ad2 e;rw[ar1,Bn] at this;cases this
   |cons U J=>show#[U,J,rfl]
  rw[α];rw[ep,el];show#[by change (cj (_:af)&&(cj (_:af)&&Â))=Â;rw[fq,fq];rfl,?_];rfl';rw[gE,Bh,è,K4,eH];rw[show Ŵ ae.t Y++[Tr.aJ [ae.t gl,ae.t<|0 - v]]=(Y++[(gl,0 - v)]).map ae.t from by rw[ß];rfl,show Ŵ ae.t b++[Tr.aJ [ae.t qA,ae.t J]]=(b++[(qA,J)]).map ae.t from by rw[ß];rfl];show#[by change (Â&&(cj _&&Â))=Â;rw[fq];rfl,⋯,Y++[(gl,0 - v)],b++[(qA,J)],_,_,_,rfl,by rw[Ö,eY];rfl,by rw[Ö,eb];rfl]
 .rintro j ⟨Y,b,x,y,z,rfl,eY,eb⟩;rfl';simp only[fu,dO,dW,fG,d9];show fD T #[rfl,.f,rs,us,ss,S,mk,inferInstance,rfl,Q.y,G.g,γ,⋯,λ_=>#[by rw[show (cP<|Tr.aT .o _)=Â from (cq _<|lj _).o];rfl,q2 _ Y b (JN Q hS h0 G.g G.n hc) _]]
abbrev My(rs:av)(us:aj)(ks:aC)(x:Nat->Rat):Prop:=(∀k,k<↑us->0<=x k)/\∀k∈ks,jn (bP rs k).2.1 (gN us `bv x)=0
structure CS(z:Nat)(rs:av)(us:aj)(ks:aC)(X:List (Str×Rat)):Prop where
 e:∃x:Nat->Rat,X=us.zipIdx.map (1e3)/\My rs us ks x/\∀k,k<↑us->bs (x k)<=z
abbrev gX(ks:aC)(k:Int):aC:=ks.filter λx=>!decide (x=k)
def JR:∀a:List (List<|Str×Rat),b5 (a.map<|cO .f)=Â
 |[]=>rfl
 |X::a=>by
  change (cP `dD&&b5 (a.map<|cO .f))=Â;rw[JR a,show cP `dD=Â from (cq _<|lj X).o];rfl
inductive oJ(T:Tx w K mg)(xs:af)(Q:Tr->aB)(q:Xv->Prop):Prop
 |mk(_:↑xs=3)(f g h:Fl)(rs:av)(us:aj)(ks:aC)(N zz:Nat)(_:Fp f)(_:Fp g)(_:Fp h)(_:xs=[.ah f ↥rs,.ah g ↥us,.ah h ↥ks])(_:Bz N zz rs us)(_:↑us<=8)(_:us.Nodup)(_:↑rs<=16)(_:↑ks<=N)(_:Val rs ks)(_:ks.Nodup)(_:ik rs ks)(_:∀k∈ks,Fz rs us (gX ks k))(_:∀Xs:List (List (Str×Rat)),Xs.length=↑ks->(∀(i:Nat) (k:Int) (X:List (Str×Rat)),ks[i]?=À k->Xs[i]?=À X->CS zz rs us (gX ks k) X)->∀j,Q (.ah .o (Xs.map (cO .f))) j):oJ T xs Q q
def I0{rs:av}{ks:aC}(h:ik rs ks):mH rs ks=ks:=aq9.mpr λk mk=>au6 (h k mk).1
def Tf:aG P w K mg base `aZ 10 T.vA.a T.vA.d ["rows","unknowns","numbers"] (iO K Â 0 3<|oJ T):=by
 show r9 T.vA.F TH rfl ∎ λbK A outer s H E q hr hu hN=>?_
 show#[_,(aK (Bb<|mI T.rb (zN T)<|ak (qv 0)<|ak (qv 1) aA)
  (aK (iD 3<|eZ aA)
  (aK (fk (dY<|qv 2) (cD 4) (aK (mY 5 ["other","number"] [Ä,À 4] (dY<|qv 2) (c7 0) (λ_ _ _ _ _=>`cR) (ht:=λ_ _ _ _ _=>(pR<|b7 iB iu (qv 0)<|qv 1)))
  (aV<|m8 (dy 3)<|xu (eF T T.rh<|zP T)<|QE.aE<|mI T.qX (z8 T)<|ak (qv 0)<|ak (qv 1)<|ak (qv 5) aA)))
  (aV<|nh<|m9 3)))),?_]
 intro xs Q' _ zy;let#[_,f,g,h,rs,us,ks,N,zz,_,_,_,rfl,r,M,O,Y,u,D,nd,J,hF,q2]:=zy;have Q:=r.n;rfl';show#[rfl,f,g,rs,us,‹_›,‹_›,rfl,λz=>⋯,λ_ _ _=>?_];show Loop.map ks _ (λi G=>∃(v:List (List (Str×Rat)))(a b:Tr),G=[.ah f ↥rs,.ah g ↥us,.ah h ↥ks,.ah .o<|v.map<|cO .f,a,b]/\↑v=i/\∀(j:Nat)(k:Int)(X:List (Str×Rat)),ks[j]?=À k->v[j]?=À X->CS zz rs us (gX ks k) X) #[[],_,_,rfl,rfl,λ_ _ _ _ e=>(by cases e)] ?_ ?_
 .rintro i k G hi ⟨v,a,b,rfl,hl,hX⟩;have α:=(Á.mp hi).1;have mk:=Ì hi;have l:(gX ks k).Sublist ks:=Ű;rfl';show aY.filter ks ae.t (λx=>!decide (x=k)) id ⋯ (λx m A R h1 h2=>?_) ?_
  .rfl';split
   .next z=>show h1 z
   .next z=>show h2 (by simpa using z)
  .rw[List.map_id,eH];rfl';show#[rfl,f,g,.f,rs,us,gX ks k,N,zz,‹_›,‹_›,inferInstance,rfl,r,M,Ï l.length_le u,λx m=>D x<|l.subset m,l.nodup nd,λx m=>(J x<|l.subset m).2,λd hd=>?_,λS C h0 _=>?_]
   .rw[I0 λx m=>J x<|l.subset m] at hd;show au5 (hF k mk)<|hd.s.c.no hd.s.k
   let#[c1,c2]:=Hq C h0 ((rZ r `ci<|λx m=>D x<|l.subset m).k 0).1.p C.g (C.L (by have:=(rZ r `ci<|λx m=>D x<|l.subset m).h.2;omega)).n;have U:=rZ r `ci<|λx m=>D x<|l.subset m;rw[xT];show fD T ?_;rw[fG];show#[rfl,.f,_,us,_,S,_,inferInstance,rfl,U.y,C.g,O,⋯,λ_=>?_];have ef:Pu.aE (.aT .o<|(oU (pick rs<|gX ks k) us S).map 1e1)=cO .f (oU (pick rs<|gX ks k) us S):=by
    change Tr.aT .f (dH _)=_;rw[show dH ((oU (pick rs<|gX ks k) us S).map 1e1)=_ from (cq _<|lj _).f];rfl
   rw[ef];show#[(cq _<|lj _).t,⋯,v++[oU (pick rs<|gX ks k) us S],_,_,by rw[ß];rfl,by rw[Ö,hl];rfl,λj k' X I B=>?_];rw[aq3] at B;split at B
   .show hX j k' X I B
   .have hj:j=i:=by
     have:=(Á.mp B).1;rw[Œ] at this;omega
    rw[hj,hl,af9] at B;rw[hj,hi] at I;cases I;cases B;show#[tl (pick rs<|gX ks k) us S,rfl,#[c1,λx m=>c2 _ (ē m)<|J x<|l.subset m],λk hk=>KP U C.g hk]
 .rintro G ⟨v,a,b,rfl,hl,hX⟩;rfl';show#[JR v,q2 v hl hX _]
abbrev cH(rs:av):aC:=(rs.zipIdx.filter λp=>decide<|p.1.2.2.2.1=0).map λp=>(p.2:Int)
def iw{rs:av}{k:Int}(m:k∈cH rs):0<=k/\k.toNat<↑rs/\bP rs k∈rs/\(bP rs k).2.2.2.1=0:=by
 ∎;let#[p,h,rfl]:=á.mp m;let#[d,g]:=ĝ.mp h;∎;have e:=ę.mp d;have b:=(Á.mp e).1;have a:bP rs (p.2:Int)=p.1:=by
  unfold bP;rw[Č,Ç,e];rfl
 show#[ό _,by rw[Č];show b,?_,?_]
 .rw[a];show Ì e
 .rw[a];show au8 g
def Ja(rs:av):(cH rs).Nodup:=by
 unfold cH;have s:((rs.zipIdx.filter λp=>decide<|p.1.2.2.2.1=0).map (·.2)).Sublist (rs.zipIdx.map (·.2)):=Ű.map _;rw[ar3] at s;have nd:=s.nodup<|List.nodup_range' (step:=1);rw[show (λp:bV×Nat=>(p.2:Int))=(λn:Nat=>(n:Int)) ∘ λp:bV×Nat=>p.2 from rfl,<- ð];show Ϩ _ (λa b h e=>h<|ϓ e) nd
def Av(rs:av):(cH rs).length<=↑rs:=by
 unfold cH;rw[Æ];show Ï (ĺ _ _) (by rw[ĭ];show Ñ _)
def Jb{rs:av}{i:Nat}{o:bV}(h:rs[i]?=À o)(a:o.2.2.2.1=0):(i:Int)∈cH rs:=á.mpr #[(o,i),ĝ.mpr #[ę.mpr h,au6 a],rfl]
def fP{A B:b8}(J:aB)(a:∀N:aB,(∀j,J j->N j)->A { D with nx:=N } j)(b:∀j,J j->B D j):we A B D j:=a (B D) b
inductive jI(T:Tx w K mg)(xs:af)(Q:Tr->aB)(q:Xv->Prop):Prop
 |mk(_:↑xs=3)(f g h:Fl)(rs:av)(us:aj)(ps:List (Str×Rat))(c0:Rat)(N zz:Nat)(_:Fp f)(_:Fp g)(_:Fp h)(_:xs=[.ah f ↥rs,.ah g ↥us,.aJ [cO h ps,ae.t c0]])(_:Bz N zz rs us)(_:↑us<=8)(_:us.Nodup)(_:↑rs<=N)(_:∀o∈rs,0<o.2.2.2.2)(_:∀u,(b4 ps u).getD 0=0\/(b4 ps u).getD 0=1)(_:∀d,l0 zz rs us (cH rs) d->q (wI T d))(_:∀(X:List (Str×Rat)) (pr:aR),kW zz rs us X->∀j,Q (.aJ [.str "least",.aT .o (X.map 1e1),ae.t pr]) j):jI T xs Q q
def UZ:aG P w K mg base `aZ 10 T.vB.a T.vB.d ["rows","unknowns","one"] (iO K Â 0 3<|jI T):=by
 show r9 T.vB.F Vq rfl ∎ λbK A outer s H E q hr hu B=>?_
 show#[_,(aK (Bb<|mI T.rb (zN T)<|ak (qv 0)<|ak (qv 1) aA)
  (aK (mY 3 ["number","other"] [Ä,Ä] (su T.pz<|ak (qv 0) aA) (qr (n:=2) rfl<|jC (c7 0)<|jC (c7 1) pP) (λ_ _ _ _ _=>`cR) (ht:=λ_ _ _ _ _=>(pR<|b7 eI eG (a7 (qv 1) aD)<|ny T.tF)))
  (aK (iD 4<|mI T.qX (z8 T)<|ak (qv 0)<|ak (qv 1)<|ak (qv 3) aA)
  (aK (xg 5<|pU (dy 4) (eF T T.rf<|zQ T)<|mE (e7 (eF T T.tw<|Fu T) (qv 4)<|ak (a7 (qv 2) aD) aA) qe)
  (aK (cB (b7 AU z3 (qv 5) jz) (aV uj) cA)
  (sj 4 (aK (iD 6<|xw (eZ<|ak (gP [0,1] T.g9 T.hG) aA)<|dN fM fN T.fO<|ak (qv 0) aA)
  (aK (fk (kI T.kx<|ak (qv 3)<|ak (a7 (e7 (eF T T.tD<|FC T) (qv 4)<|ak aD aA) aD) aA) (gO (n:=2) rfl<|dz (cD 7)<|dz (cD 8) gL)<|aV<|qb (dy 6) (qv 7)<|qv 8)
  (sj 6<|aV<|bI<|gn<|ak gm<|ak (xu (eF T T.rh<|zP T)<|qv 4)<|ak (qv 6) aA))))))))),?_]
 intro xs Q' _ zy;let#[_,f,g,h,rs,us,C,J,N',zz,_,_,_,rfl,D,η,θ,ζ,hw,hO,q1,q3]:=zy;have hv:Val rs `cd:=λk m=>#[(iw m).1,(iw m).2.1]
 have O:=Ï (Av rs) ζ;have u:=rZ D O hv;have ι:=D.n;have hM:ik rs `cd:=λk m=>#[(iw m).2.2.2,hw _ (iw m).2.2.1]
 have ν:=u.h.2;have δ:(pick rs<|cH rs).length<=16:=u.b.r;show fP (λj=>j=[.ah f ↥rs,.ah g ↥us,.aJ [cO h C,ae.t J],.aq,.aq,.aq,.aq,.aq,.aq]) (λN B=>?_) ?_
 .rfl';show#[rfl,f,g,rs,us,‹_›,‹_›,rfl,λz=>⋯,λ_ _ _=>B _ rfl]
 rintro _ rfl;show fP (λj=>j=[.ah f ↥rs,.ah g ↥us,.aJ [cO h C,ae.t J],.ah .f<|(cH rs).map ae.t,.aq,.aq,.aq,.aq,.aq]) (λN B=>?_) ?_
 .rfl';show aY.filter rs.zipIdx _ (λp=>decide<|p.1.2.2.2.1=0) (λp=>(p.2:Int)) (by rw[ĭ];omega) (λp mp A R h1 h2=>?_) ?_
  .rfl';split
   .next e=>show h1 e
   .next e=>show h2 (by simpa using e)
  rw[eH];show#[kL _,B _ rfl]
 rintro _ rfl;show fP (λj=>∃S,j=[.ah f ↥rs,.ah g ↥us,.aJ [cO h C,ae.t J],.ah .f<|(cH rs).map ae.t,cF T .o<|eQ (pick rs<|cH rs) us [dF (pick rs<|cH rs) us (bA us (pick rs<|cH rs) 0) S] S (gB (pick rs<|cH rs) us S),.aq,.aq,.aq,.aq]/\i9 zz (pick rs<|cH rs) us S/\zr (pick rs<|cH rs) us S (aX (pick rs<|cH rs) us)=0) (λN B=>?_) ?_
 .rfl';show#[rfl,f,g,.f,rs,us,cH rs,N',zz,‹_›,‹_›,inferInstance,rfl,D,η,O,hv,Ja rs,λk m=>(hM k m).2,λd hd=>q1 d<|I0 hM ▸ hd,λS M U _=>#[sq T _,B _ #[S,rfl,M,U]]]
 intro _ zy;let#[S,rfl,M,U]:=zy;have Y:=M.L ⋯;let#[ck,cd]:=u.c C hO;have ε:(gB (pick rs<|cH rs) us S).length<=10000:=by
  have a:=Y.l;have b:=u.y.hn;rw[Œ] at a;omega
 show fP (λj=>∃(ss:bW)(v:Nat->Nat)(mk:a8),j=[.ah f ↥rs,.ah g ↥us,.aJ [cO h C,ae.t J],.ah .f<|(cH rs).map ae.t,cF T .o<|eQ (pick rs<|cH rs) us ss v mk,.aM,.aq,.aq,.aq]/\nN zz (pick rs<|cH rs) us ss v mk/\↑ss=2/\∀k,dX (gB (pick rs<|cH rs) us S) k->dX mk k) (λN B=>?_) ?_
 .rfl';show wY rfl (by intro z;cases z)<|fD T ?_;rfl';simp only[fu,fG,dO,d9,dW];show fD T #[rfl,.l Å,h,pick rs<|cH rs,us,_,S,_,C,inferInstance,‹_›,rfl,u.b,λ_=>#[kL _,?_]];rw[eH,jF];show#[rfl,.f,pick rs<|cH rs,us,_,S,gB (pick rs<|cH rs) us S,gq us (pick rs<|cH rs).length C,inferInstance,rfl,u.y,M.g,Y.n,ck,ε,by simp,λS' G α κ j e=>?_];rw[e];show#[qu T _,B _ #[_,S',_,rfl,Y.step ⋯ G α (cd S' G),rfl,λk s=>tK.mpr<|.inl s]]
 intro _ zy;let#[ss,v,mk,rfl,I,μ,hc]:=zy;have β:kW zz rs us (oU (pick rs<|cH rs) us v):=by
  let#[x,e1,e2,e3]:=(JN u M U I.g I.n hc).e;show#[x,e1,e2,λo mo ho=>?_];let#[i,Q]:=ĩ mo;have m:=ē (f:=λk:Int=>rs.getD k.toNat oX)<|Jb Q ho.1;rw[Č,Ç,Q] at m;show e3 o m ho
 have γ:=KL I.m I.r (i:=1) ⋯ ⋯ u.h.1;rfl';rw[Bl];rfl';rw[dW,xT,Č,<- ž];show#[ae.c _,⋯,⋯,fq _,?_];simp only[fu,fG,dO,d9,dW];show fD T #[rfl,pick rs<|cH rs,us,_,v,_,1,rfl,δ,⋯,⋯,⋯,I.m,γ,λo m=>(u.s o m).2,λ_=>?_];rfl';generalize fS (pick rs<|cH rs) us (pp ss mk 1 1).1=pr at *;show Loop.map ((cH rs).zip pr) _ (λi j=>∃(P:aR)(a b:Tr),j=[.ah f ↥rs,.ah g ↥us,.aJ [cO h C,ae.t J],.ah .f<|(cH rs).map ae.t,cF T .f<|eQ (pick rs<|cH rs) us ss v mk,.aM,.ah .o ↥P,a,b]/\↑P=↑rs) #[_,_,_,rfl,ã ..] ?_ ?_
 .rintro i ⟨k,x⟩ j Q ⟨P,a,b,rfl,hP⟩;let#[k0,kl]:=hv k (Ķ<|Ì Q).1;rfl';obtain⟨n,rfl⟩:∃n:Nat,k=(n:Int):=#[k.toNat,⋯];rw[Č] at kl;show ot (by rw[Æ,hP];show kl) #[P.set n x,.int n,ae.t x,?_,by rw[û,hP]];rw[<- ai9]
 .rintro j ⟨P,a,b,rfl,hP⟩;rfl';simp only[fu,fG,dO,d9,dW];show fD T #[rfl,.f,_,us,_,v,_,inferInstance,rfl,u.y,I.g,θ,⋯,λ_=>#[?_,q3 _ _ β _]];rw[show cP (Tr.aT .o<|(oU (pick rs<|cH rs) us v).map 1e1)=Â from (cq _<|lj _).o];rfl
abbrev dE:List (Rat×Rat)->Rat
 |[]=>0
 |p::ps=>p.1 * p.2 + dE ps
def xl:∀A B:List (Rat×Rat),dE (A++B)=dE A+dE B
 |[],B=>by rw[ad9,dE];grind
 |p::A,B=>by rw[aa1,dE,dE,xl A B];grind
def JS{D:Int}(d:0<D){l:Nat}:∀z:List (Rat×Rat),(∀p∈z,∃a:Int,p.1*p.2=Ë a D/\bi a<=l)->∃a:Int,dE z=Ë a D/\a.natAbs<=↑z*2 ^ l
 |[],_=>#[0,(Ġ _).symm,by simp]
 |p::z,h=>by
  ∎;let#[a,e,i]:=JS d z λq m=>h q<|.tail _ m
  let#[b,eb,g]:=h p<|.head _;∎;show#[b+a,by rw[dE,e,eb,Ho _ _<|æ d],?_];have:=kJ g;have:=ah1 b a;rw[Ý,Ξ];omega
def JT{z:List (Rat×Rat)}(h:CD 3900 3900 (z.map λp=>p.1*p.2))(n:↑z<=16)(i:Nat):bs (dE<|z.take i)<=3905:=by
 let#[D,b,j,g]:=h;let#[a,d,e]:=JS b (l:=3900) (z.take i) λp m=>g _<|ē<|ad3 m
 rw[d];show n7 (æ b) (gk<|ĕ e ?_) ⋯;rw[show 3905=5+3900 from rfl,aj1];show ϵ (ĕ (show _<=16 by rw[Ī];omega) ∎)<|Ϸ _
def U0{z:List (Rat×Rat)}{i:Nat}{p:Rat×Rat}(h:z[i]?=À p):dE (z.take<|i+1)=dE (z.take i)+p.1*p.2:=by
 rw[Ė,h,xl];change _+(_+0)=_;rw[Rat.add_zero]
structure nP(ws ns:aR):Prop where
 b:∀p∈ws.zip ns,bs p.1+bs p.2<=7990
 l:(ws.zip ns).length<=16
 c:CD 3900 3900 ((ws.zip ns).map λp=>p.1*p.2)
def nP.s{a ns:aR}(h:nP a ns):bs (dE<|a.zip ns)<=3905:=by
 have:=JT h.c h.l (a.zip ns).length;rwa[ğ] at this
inductive gH(xs:af)(Q:Tr->aB):Prop
 |mk(_:↑xs=2)(f g:Fl)(ws ns:aR)(_:Fp f)(_:Fp g)(_:xs=[.ah f ↥ws,.ah g ↥ns])(_:nP ws ns)(_:∀j,Q (ae.t (dE (ws.zip ns))) j):gH xs Q
def Gq{z:Bool}:aG P w K mg base bJ 4 T.sP.a T.sP.d ["weights","numbers"] (bU K z 0 2 gH):=by
 show cu T.sP.F Rq rfl ∎ ?_
 intros
 show#[_,(aK (bM 2<|gP [0,1] T.g9 T.hG)
  (aK (fk (kI T.kx<|ak (qv 0)<|ak (qv 1) aA) (gO (n:=2) rfl<|dz (cD 3)<|dz (cD 4) gL)<|aV<|bM 2<|qc T.sV (IE T)<|ak (qv 2)<|ak (qc T.nS (ur T)<|ak (qv 3)<|ak (qv 4) aA) aA)
  (aV<|bI<|qv 2))),?_]
 intro r o _ zy;let#[_,f,g,h,ns,_,_,rfl,e,q]:=zy;rfl';show Loop.map _ _ (λi j=>∃(a b:Tr),j=[.ah f ↥h,.ah g ↥ns,ae.t<|dE<|(h.zip ns).take i,a,b]) #[.aq,.aq,rfl] ?_ ?_
 .rintro i ⟨x,y⟩ j hx ⟨a,b,rfl⟩;have m:=e.b _<|Ì hx;have t:=JT e.c e.l i;have p:bs (x*y)<=3900:=e.c.bs (Ñ _)<|ē (f:=λp:Rat×Rat=>p.1*p.2)<|Ì hx;dsimp only at m;rfl';show#[rfl,x,y,rfl,m,λj=>?_];rfl';show#[rfl,_,x*y,rfl,⋯,λj=>?_];rfl';show#[_,_,by rw[U0 hx]]
 .rintro j ⟨a,b,rfl⟩;rw[ğ];rfl';show q _
nonrec abbrev Cm(a:av)(u:Str):aR:=a.map λr=>(b4 r.1 u).getD 0
inductive iI(xs:af)(Q:Tr->aB):Prop
 |mk(_:↑xs=3)(f g:Fl)(rows:av)(ps:aR)(u:Str)(_:Fp f)(_:Fp g)(_:xs=[.ah f ↥rows,.ah g ↥ps,.str u])(_:↑rows<=16)(_:nP ps (Cm rows u))(_:∀j,Q (ae.t (dE (ps.zip (Cm rows u)))) j):iI xs Q
def Tg{z:Bool}:aG P w K mg base bJ 5 T.vD.a T.vD.d ["rows","prices","unknown"] (bU K z 0 3 iI):=by
 show cu T.vD.F TJ rfl ∎ λbK A outer s H E i v o=>?_
 show#[_,(aV<|bI<|qc T.sP (Gq T)<|ak (qv 1)<|ak (gg ["one","unknown"] [Ä,À 2] (dY<|qv 0) (c7 0) (λ_ _ _ _ _=>(Bg (a7 (qv 0) aD) (qv 1)<|gP [0,1] T.g9 T.hG))) aA),?_];intro x m _ zy;let#[_,f,g,b,l,u,_,_,rfl,n,h,q]:=zy;rfl';show aY.map b ae.t (λr=>(b4 r.1 u).getD (0:Rat)) ⋯ (λr i R e=>?_) ?_
 .rfl';show e
 .rfl';show#[rfl,g,.f,l,_,inferInstance,inferInstance,rfl,h,λj=>#[jf _,q _]]
abbrev Nn(p:bV×Rat):Prop:=(p.1.2.1="least"->0<=p.2)/\(p.1.2.1="most"->p.2<=0)
inductive jN(xs:af)(Q:Tr->aB):Prop
 |mk(_:↑xs=2)(f g:Fl)(rows:av)(ps:aR)(_:Fp f)(_:Fp g)(_:xs=[.ah f ↥rows,.ah g ↥ps])(_:∀q∈ps,bs q<=3900)(_:∀p∈rows.zip ps,Nn p)(_:∀j,Q (.bl Â) j):jN xs Q
def Aw{a b:Rat}(h:bs a+bs b<=60000000){Q:Tr->aB}(q:∀j,Q (.bl<|decide<|a<b) j):gW [ae.t a,ae.t b] Q:=#[rfl,a,b,rfl,h,q]
def OI{z:Bool}:aG P w K mg base bJ 2 T.vC.a T.vC.d ["rows","prices"] (bU K z 0 2 jN):=by
 show cu T.vC.F OA rfl ∎ ?_
 intros
 show#[_,(aK (fk (kI T.kx<|ak (qv 0)<|ak (qv 1) aA) (gO (n:=2) rfl<|dz (cD 2)<|dz (cD 3) gL) (aK (cB (QW.t<|qa (b7 eI eG (a7 (qv 2) aD) gm)<|p0<|fE<|qc T.pw (wX T)<|ak (qv 3)<|ak (gP [0,1] T.g9 T.hG) aA) (aV<|bI ft) cA)
  (aV<|cB (QW.t<|qa (b7 eI eG (a7 (qv 2) aD) gm)<|p0<|fE<|qc T.pw (wX T)<|ak (gP [0,1] T.g9 T.hG)<|ak (qv 3) aA) (aV<|bI ft) cA)))
  (aV<|bI ft)),?_]
 intro E C _ zy;let#[_,f,g,e,u,_,_,rfl,A,B,q]:=zy;rfl';show Loop.map (e.zip u) _ (λi j=>∃(a b:Tr),j=[.ah f ↥e,.ah g ↥u,a,b]) #[.aq,.aq,rfl] ?_ ?_
 .rintro i ⟨r,y⟩ j hx ⟨a,b,rfl⟩;have o:=Ì hx;have m:=A _ (Ķ o).2;let#[v,x]:=B _ o;dsimp only at v x;have D:=kE;rfl';by_cases l:r.2.1="least"
  .have h:¬ r.2.1="most":=by rw[l];decide
   rw[au4<|au6 l];show Aw ⋯ λj=>?_
   rfl';rw[au3 (by rw[decide_eq_true_eq];show ab4.mpr<|v l),au3 (by rw[decide_eq_true_eq];show h)];show#[_,_,rfl]
  .rw[au3 (by rw[decide_eq_true_eq];show l)];by_cases h:r.2.1="most"
   .rw[au4<|au6 h];show Aw ⋯ λj=>?_
    rfl';rw[au3 (by rw[decide_eq_true_eq];show ab4.mpr<|x h)];show#[_,_,rfl]
   .rw[au3 (by rw[decide_eq_true_eq];show h)];show#[_,_,rfl]
 .rintro j ⟨a,b,rfl⟩;rfl';show q _
def Jc(rs:av)(f:bV->Rat):∀d:List (Int×Rat),dE ((d.map (·.2)).zip ((d.map (·.1)).map λk=>f<|bP rs k))=ff rs f d
 |[]=>rfl
 |p::d=>by
  show au9 (p.2*f (bP rs p.1)+·)<|Jc rs f d
inductive lP(xs:af)(Q:Tr->aB):Prop
 |mk(_:↑xs=2)(f g:Fl)(rs:av)(ks:aC)(_:Fp f)(_:Fp g)(_:xs=[.ah f ↥rs,.ah g ↥ks])(_:ks.Pairwise (·<·))(_:∀k∈ks,0<=k/\k.toNat<↑rs/\(bP rs k).2.2.2.1=0)(_:∀j,Q (.bl Â) j):lP xs Q
def Oo{z:Bool}:aG P w K mg base bJ 1 T.vF.a T.vF.d ["rows","numbers"] (bU K z 0 2 lP):=by
 show cu T.vF.F N0 rfl ∎ ?_
 intros
 show#[_,(aK (bM 2<|ia aD)
  (aK (fk (dY<|qv 1) (cD 3) (aK (cB (QW.t<|jA (ib<|U5 kH kD kH kD (qv 2) (qv 3)<|dN fM fN T.fO<|ak (qv 0) aA)<|kd<|b7 iB iu (a7 (a7 (qv 0)<|qv 3) aD)<|ny T.tF) (aV<|bI ft) cA)
  (aV<|bM 2<|qv 3)))
  (aV<|bI ft))),?_]
 intro A y _ zy;let#[_,f,g,rs,ks,_,_,rfl,n,e,q]:=zy;rfl';show Loop.map ks ae.t (λi G=>∃(a:Int)(x:Tr),G=[.ah f ↥rs,.ah g ↥ks,.int a,x]/\∀k∈ks.drop i,a<k) #[-1,_,rfl,λk m=>by have:=(e k<|List.mem_of_mem_drop m).1;omega] ?_ ?_
 .rintro i k G hi ⟨a,x,rfl,ha⟩;have o:=(Á.mp hi).1;let#[r,h,u]:=e k<|Ì hi;have b:ks.drop i=k::ks.drop (i+1):=by rw[List.drop_eq_getElem_cons o];congr 1;show (Á.mp hi).2
  have l:=ha k (by rw[b];show .head _);have nx:∀j∈ks.drop (i+1),k<j:=λj v=>by
   have:=n.sublist<|List.drop_sublist i ks;rw[b,List.pairwise_cons] at this;show this.1 j v
  rfl';rw[au4<|au6 l,au3 (by simp;omega)];show dG _ _ `bv (by rw[ux rs r h,bP,Ç,Ð h];rfl) ?_;rfl';rw[u];show#[k,_,rfl,nx]
 .rintro G ⟨a,x,rfl,_⟩;rfl';show q _
structure CK(rs:av)(us:aj)(d:List (Int×Rat)):Prop where
 c:Cw rs us d
 p:(d.map (·.1)).Pairwise (·<·)
 k:∀k∈d.map (·.1),0<=k/\k.toNat<↑rs/\(bP rs k).2.2.2.1=0
 l:↑d<=16
 b:∀q∈d.map (·.2),bs q<=3900
 u:∀u∈us,nP (d.map (·.2)) (Cm (pick rs (d.map (·.1))) u)
 n:nP (d.map (·.2)) ((pick rs (d.map (·.1))).map (·.2.2.1))
inductive oH(xs:af)(Q:Tr->aB):Prop
 |mk(_:↑xs=4)(f g h h':Fl)(rs:av)(us:aj)(d:List (Int×Rat))(_:Fp f)(_:Fp g)(_:Fp h)(_:Fp h')(_:xs=[.ah f ↥rs,.ah g ↥us,.ah h ((d.map (·.1)).map ae.t),.ah h' ((d.map (·.2)).map ae.t)])(_:↑us<=8)(_:CK rs us d)(_:∀j,Q (.bl Â) j):oH xs Q
def OM{z:Bool}:aG P w K mg base bJ 6 T.vE.a T.vE.d ["rows","unknowns","numbers","weights"] (bU K z 0 4 oH):=by
 show cu T.vE.F Oe rfl ∎ λbK A outer s H E M hu hN=>?_
 show#[_,(aK (cB (QW.t<|jA (b7 iB iu (dN fM fN T.fO<|ak (qv 2) aA)<|dN fM fN T.fO<|ak (qv 3) aA)<|kd<|ib<|fE<|qc T.vF (Oo T)<|ak (qv 0)<|ak (qv 2) aA) (aV<|bI ft) cA)
  (aK (bM 4<|gg ["number","rows"] [Ä,À 0] (dY<|qv 2) (c7 0) (λ_ _ _ _ _=>(a7 (qv 1)<|qv 0)))
  (aK (cB (ib<|fE<|qc T.vC (OI T)<|ak (qv 4)<|ak (qv 3) aA) (aV<|bI ft) cA)
  (aK (cB (fE<|dN (GP rfl) HW T.CY<|ak (gg ["unknown","chosen","weights"] [Ä,À 4,À 3] (dY<|qv 1) (c7 0) (λ_ _ _ _ _=>(qc T.pw (wX T)<|ak (gP [0,1] T.g9 T.hG)<|ak (qc T.vD (Tg T)<|ak (qv 1)<|ak (qv 2)<|ak (qv 0) aA) aA))) aA) (aV<|bI ft) cA)
  (aV<|bI<|fL eI eG (qc T.sP (Gq T)<|ak (qv 3)<|ak (gg ["one"] [Ä] (dY<|qv 4) (c7 0) (λ_ _ _ _ _=>(a7 (qv 0) aD))) aA)<|gn<|ak aD<|ak aD aA))))),?_]
 intro xs U _ zy;let#[_,f,g,h,G,rs,us,d,_,_,_,_,rfl,N,j,q]:=zy;have Y:=kE;have O:Val rs (d.map (·.1)):=λk m=>#[(j.k k m).1,(j.k k m).2.1]
 have J:=j.l;rfl';show#[rfl,f,h,rs,_,inferInstance,inferInstance,rfl,j.p,j.k,λ_=>?_];rfl';show aY.map (d.map (·.1)) ae.t (λk=>rs.getD k.toNat oX) (by rw[Æ];omega) (λk mk R x=>?_) ?_
 .rfl';show dG _ _ _ (rT O mk) x
 rw[eH];show#[fq _,?_];rfl';show#[rfl,.f,G,pick rs (d.map (·.1)),_,inferInstance,inferInstance,rfl,j.b,λp m=>?_,λ_=>?_]
 .obtain⟨i,hi⟩:=ĩ m;let#[C,v]:=ġ.mp hi;unfold pick at C;rw[Î,Î] at C;rw[Î] at v;cases ep:d[i]? with
  |none=>rw[ep] at v;cases v
  |some r=>
   rw[ep] at C v;let#[p1,p2]:=p;cases C;cases v;show j.c.s r<|Ì ep
 rfl';have B:∀f:bV->Rat,dE ((d.map (·.2)).zip ((pick rs (d.map (·.1))).map f))=ff rs f d:=λf=>by
  unfold pick;rw[ð];show Jc rs f d
 show aY.map us ae.t (λu=>decide<|0<ff rs (λo=>(b4 o.1 u).getD 0) d) ⋯ (λu D R x=>?_) ?_
 .have w1:=(j.u u D).s;rfl';show#[rfl,.f,G,pick rs (d.map (·.1)),_,u,inferInstance,inferInstance,rfl,by unfold pick;rw[Æ,Æ];show J,j.u u D,λ_=>?_];rw[B] at w1 ⊢;rfl';show Aw ⋯ λ_=>x
 show#[_,rfl,?_];rfl';rw [au3 (by
  intro e;∎;let#[y,Q,I]:=ň.mp e;let#[u,D,rfl]:=á.mp Q;∎;show au5 (au8 I)<|ab4.mpr<|j.c.c u D)]
 rw[gE,lp];show aY.map (pick rs (d.map (·.1))) ae.t (λr=>r.2.2.1) (by unfold pick;rw[Æ,Æ];omega) (λr M R x=>?_) ?_
 .rfl';show x
 rw[eH,jF];show#[rfl,G,.f,_,_,inferInstance,inferInstance,rfl,j.n,λ_=>?_];rw[B,j.c.r];show uE ?_;rw[au3 ∎,au6 rfl];show#[rfl,q _]
def rL{j:Int}(h:j.natAbs<2 ^ 100):j.natAbs<2 ^ 8000:=Õ h<|ń ∎ ⋯
inductive gG(xs:af)(Q:Tr->aB):Prop
 |mk(_:↑xs=2)(f:Fl)(script:aC)(k:Int)(_:Fp f)(_:xs=[.ah f ↥script,.int k])(_:0<=k)(_:∀c:Int,∀j,Q (.int c) j):gG xs Q
def ON{z:Bool}:aG P w K mg base bJ 1 T.vG.a T.vG.d ["_law_script","_law_k"] (bU K z 0 2 gG):=by
 show cu T.vG.F Of rfl ∎ ?_
 intros
 show#[_,(aK (cB (b7 kH kD `bX<|dN fM fN T.fO<|ak (qv 0) aA) (aV<|bI<|a7 (qv 0)<|qv 1) cA)
  (aV<|bI aD)),?_]
 intro h g _ zy;let#[_,f,b,k,_,rfl,e,q]:=zy;rfl';split
 .rename_i c;show dG _ _ _ (ux b e (by have:=au8 c;omega)) #[jf _,q _ _]
 .show q _ _
def zR{i j:Int}(h:-(2 ^ 64)<i/\i<2 ^ 64):mS i j:=.inl<|.inl h
def Fy{i j:Int}(h:-(2 ^ 64)<j/\j<2 ^ 64):mS i j:=.inl<|.inr h
def Jd{xs:af}{r:Int}{Q:ay}(a:0<=r)(b:r<↑xs)(q:∀x,x∈xs->Q x):oQ (c8 xs r) Q:=by
 rw[ux xs a ⋯];show q _<|Ϛ _
def wZ{ns:aC}{r:Int}{Q:ay}(a:0<=r)(b:r<↑ns)(q:∀n,n∈ns->Q `aU):oQ (c8 `bo r) Q:=by
 show Jd a (by rw[Æ];show b) λx d=>?_
 let#[n,hn,rfl]:=á.mp d;show q n hn
inductive oF(xs:af)(Q:Tr->aB):Prop
 |mk(_:↑xs=2)(c k:Int)(_:xs=[.int c,.int k])(_:0<=k)(_:k<=1000)(_:∀r:Int,∀j,Q (.int r) j):oF xs Q
def Z9:wA 10 17:=#[∎,∎,∎]
def lh{z:Bool}:aG P w K mg base bJ 1 T.jw.a T.jw.d ["_law_cell","_law_k"] (bU K z 0 2 oF):=by
 show cu T.jw.F Rr rfl ∎ λbK A outer s H E C D h=>?_
 show#[_,(aK (cB (b7 eI eG (fW (kh `cR aD) aD) aD) (aK (bM 2<|a7 (eZ<|ak aD<|ak (xI aD aD) aA)<|fW (kh (qv 0) aD) aD)
  (aK (bM 3<|kh (qv 0) aD)
  (aK (fk (uI T.mQ<|ak (qi (qv 1) aD) aA) (cD 4)<|aV<|bM 3<|kh (qv 3)<|qv 2)
  (aV<|cB (b7 nv ng (qv 3) aD) (aV<|bI<|fW (qv 3)<|qv 2) cA)))) cA)
  (aK (bM 5<|fW (dC (fW (d8 (d8 (qv 0)<|dC aD<|qv 1) aD) aD) aD) aD)
  (aK (bM 5<|fW (dC (qv 5)<|d8 (kh (qv 5) aD) aD) aD)
  (aV<|bI<|fW (dC (qv 5)<|d8 (kh (qv 5) aD) aD) aD)))),?_]
 intro M B _ zy;let#[_,c,k,rfl,I,J,q]:=zy;walk_at "q";show K5 (λG=>∃a b d e:Tr,G=[.int c,.int k,a,b,d,e]) (λN h=>?_) ?_
 .rfl';show#[#[∎,rL ∎],∎,?_];split
  .show#[Z9,#[∎,rL ∎],∎,wZ (ns:=[50,10 ^ ai1 17]) (Ď _ ∎) (ÿ _ ∎) λbs x=>?_];have g:0<bs/\bs.natAbs<2 ^ 100:=by
    rcases ä.mp x with rfl |y
    .decide
    .rw[å.mp y];decide
   rfl';show#[#[∎,rL ∎],⋯,⋯,Loop.map _ _ (λi G=>∃(n:Int)(d:Tr),G=[.int c,.int k,.int bs,.int n,d,.aq]) #[_,_,rfl] ?_ ?_]
   .rintro i j G hi ⟨n,d,rfl⟩;rfl';show#[#[⋯,rL g.2],_,_,rfl]
   .rintro G ⟨n,d,rfl⟩;rfl';split
    .show#[g.1,q _ _]
    .show h _ #[_,_,_,_,rfl]
  .show h _ #[_,_,_,_,rfl]
 intro _ zy;let#[a,b,d,e,rfl]:=zy;rfl';have l:=Ď ((c+7919*k+1) % 2147483647*48271) (show (2147483647:Int)≠0 by decide);have m:=ÿ ((c+7919*k+1) % 2147483647*48271) (show (0:Int)<2147483647 by decide);generalize (c+7919*k+1) % 2147483647*48271 % 2147483647=u at l m;have o:=Ď (u*(u.fdiv 1009+69621)) (show (2147483647:Int)≠0 by decide);have r:=ÿ (u*(u.fdiv 1009+69621)) (show (0:Int)<2147483647 by decide);generalize u*(u.fdiv 1009+69621) % 2147483647=v at o r;show#[zR ∎,∎,Fy ∎,∎,#[∎,rL ∎],zR ⋯,∎,#[∎,rL ∎],zR ⋯,∎,q _ _]
inductive lI(xs:af)(Q:Tr->aB):Prop
 |mk(_:↑xs=2)(a b:Int)(_:xs=[.int a,.int b])(_:0<=b)(_:∀j,Q (.int (gd a b)) j):lI xs Q
def FE{z:Bool}:aG P w K mg base bJ 1 T.sQ.a T.sQ.d ["_law_one","_law_other"] (bU K z 0 2 lI):=by
 show cu T.sQ.F Og rfl ∎ ?_
 intros
 show#[_,(aK (BL (b7 iB iu `bX aD)<|aV<|Lb 0 1<|ak (qv 1)<|ak (fW (qv 0)<|qv 1) aA)
  (aV<|bI<|dN Ad AM T.yv<|ak (qv 0) aA)),?_]
 intro o l _ zy;let#[_,a,b,rfl,i,q]:=zy;show#[λm j=>∃x y,j=[.int x,.int y]/\0<=y/\gd x y=gd a b/\m=y.toNat,#[_,a,b,rfl,i,rfl,rfl],?_];intro m j zy;let#[x,y,rfl,n,e,rfl]:=zy;rfl';by_cases g:y=0
 .subst g;rw[au3 ∎];rw[<- e] at q;have h:gd x 0=if x<0 then -x else x:=by
   unfold gd;rw[at0];split<;>omega
  rw[h] at q;show q _
 .rw[au4<|by simp[g]];show#[⋯,(x % y).toNat,?_,_,_,rfl,Ď _ g,?_,rfl]
  .have:=ÿ x (show 0<y by omega);have:=Ď x g;omega
  .rw[<- e];unfold gd;have:=Int.emod_add_mul_ediv x y;rw[ao1 x y,show x % y=x+y*(-(x / y)) by rw[Int.mul_neg];omega,Int.gcd_add_mul_left_right]
inductive oA(xs:af)(Q:Tr->aB):Prop
 |mk(_:↑xs=2)(a b:Int)(_:xs=[.int a,.int b])(_:0<b)(_:bi b<=7990)(_:∀j,Q (ae.t (Ë a b)) j):oA xs Q
def zO{z:Bool}:aG P w K mg base bJ 2 T.qY.a T.qY.d ["_law_top","_law_bottom"] (bU K z 0 2 oA):=by
 show cu T.qY.F OB rfl ∎ ?_
 intros
 show#[_,(aK (bM 2<|qc T.sQ (FE T)<|ak (qv 0)<|ak (qv 1) aA)
  (aV<|bI<|gn<|ak (kh (qv 0)<|qv 2)<|ak (kh (qv 1)<|qv 2) aA)),?_]
 intro l i _ zy;let#[_,a,b,rfl,h,g,q]:=zy;have e:=æ h;rfl';show#[rfl,a,b,rfl,Ĳ h,λj=>?_];rw[KG,<- Hf e,<- Hg e] at q;unfold dv at q;rw[au3 ⋯] at q;rfl';show#[xc e g,xc e g,q _]
inductive oE(xs:af)(Q:Tr->aB):Prop
 |mk(_:↑xs=1)(n:Int)(_:xs=[.int n])(_:∀j,Q (.bl Â) j):oE xs Q
def zT{z:Bool}:aG P w K mg base bJ 1 T.q0.a T.q0.d ["_law_found"] (bU K z 0 1 oE):=by
 show cu T.q0.F Pf rfl ∎ ?_
 intros
 show#[_,(aV<|bI<|m4 (qj K T.pA<|ak (qv 0)<|ak (qk T.ME) aA)<|kK<|Y4<|qj K T.pA<|ak (qv 0)<|ak (qk T.MG) aA),?_];intro e b _ zy;let#[_,n,rfl,q]:=zy;rfl';show#[Â,rfl,#[Å,rfl,q _]]
inductive oz(xs:af)(Q:Tr->aB):Prop
 |mk(_:↑xs=1)(r:Rat)(_:xs=[ae.t r])(_:∀j,Q (.bl Â) j):oz xs Q
def FN{z:Bool}:aG P w K mg base bJ 2 T.sS.a T.sS.d ["_law_found"] (bU K z 0 1 oz):=by
 show cu T.sS.F N1 rfl ∎ ?_
 intros
 show#[_,(aK (cB (QW.t<|jA (ib<|fE<|qj K T.pA<|ak (qv 0)<|ak (qk T.MM) aA)<|kd<|b7 iB iu (dN fM fN T.fO<|ak (qv 0) aA) aD) (aV<|bI ft) cA)
  (aK (cB (QW.t<|jA (ib<|fE<|qc T.q0 (zT T)<|ak (a7 (qv 0) aD) aA)<|kd<|ib<|fE<|qc T.q0 (zT T)<|ak (a7 (qv 0) aD) aA) (aV<|bI ft) cA)
  (aV<|bI<|m4 (fL nv ng (a7 (qv 0) aD) aD)<|kK<|fL eI eG (qc T.sQ (FE T)<|ak (a7 (qv 0) aD)<|ak (a7 (qv 0) aD) aA) aD))),?_]
 intro g e _ zy;let#[_,r,rfl,q]:=zy;rfl';show#[Â,rfl,?_];rfl';change rp _ [Tr.aJ [.int r.num,.int r.den]] _;rfl';rw[au3 ∎];have b:gd r.num (r.den:Int)=1:=by
  unfold gd;rw[show Int.gcd r.num (r.den:Int)=Nat.gcd r.num.natAbs r.den from rfl,r.reduced];rfl
 show#[rfl,_,rfl,λ_=>#[rfl,_,rfl,λ_=>?_]];change if decide (0<(r.den:Int))=Â then _ else _
 rw[au4<|au6<|Ň.mpr r.den_pos];show#[rfl,_,_,rfl,ό _,λ_=>?_];rw[b];rfl';show q _
inductive oB(xs:af)(Q:Tr->aB):Prop
 |mk(_:↑xs=2)(o:bV)(r:Rat)(_:xs=[ae.t o,ae.t r])(_:o.2.1="least"\/o.2.1="most"\/o.2.1="just")(_:o.2.1="least"->0<=r)(_:o.2.1="most"->r<=0)(_:∀j,Q (.bl Â) j):oB xs Q
def PJ{z:Bool}:aG P w K mg base bJ 1 T.vI.a T.vI.d ["_law_one","_law_price"] (bU K z 0 2 oB):=by
 show cu T.vI.F PC rfl ∎ ?_
 intros
 show#[_,(aV<|bI<|uU (fL eI eG (a7 (qv 0) aD) gm)<|uU (m4 (fL eI eG (a7 (qv 0) aD) gm)<|kK<|fL BI Ba (a7 (qv 1) aD) aD)<|kK<|m4 (fL eI eG (a7 (qv 0) aD) gm)<|kK<|fL LV ZR (a7 (qv 1) aD) aD),?_];intro i h _ zy;let#[_,o,r,rfl,b,e,g,q]:=zy;rfl';rcases b with b |b |b
 .rw[au3 (by rw[b];decide),au4 (au6 b),au4 (au6 (Ϙ.mpr (e b)))];show q _
 .rw[au3 (by rw[b];decide),au3 (by rw[b];decide),au4<|au6 b];have:=g b;rw[show decide (r.num<=0)=Â from au6 (by have:=Ϙ.mpr (show 0<=-r by grind);rw[Rat.neg_num] at this;omega)];show q _
 .rw[au4<|au6 b];show q _
def Bt(a:Int){b:Int}(g:0<b):(Ë a b).num.natAbs<=a.natAbs:=by
 by_cases e:a=0
 .subst e;rw[Ġ];show ľ _
 .have d:(Ë a b).num ∣ a:=by
   rw[al2 a b,aa9 g,ai8];show as1<|Κ ..
  show af6 ⋯ (ϟ.mpr d)
def Bu(a:Int){b:Int}(d:0<b):((Ë a b).den:Int)<=b:=Int.le_of_dvd d<|AW a d
def gY{m:List (Str×Rat)}{u:Str}{a:Rat}(h:u ∉ m.map (·.1)):qE m u a=m++[(u,a)]:=by
 unfold qE;rw[au3];intro e;let#[p,d,b]:=ň.mp e;show h<|á.mpr #[p,d,au8 b]
def YV{c:df}{A B:b8}{D:Pd}{j:af}(d:∀R:Bool->Prop,R Â->R Å->c `af R)(a:A D j)(b:B D j):wg c A B D j:=d _ (by rw[au4 rfl];show a) (by rw[au3 ∎];show b)
def Cy{n:Nat}(h:n<=17):wA 10 n:=#[⋯,⋯,∎]
def U1{r:Int}{Q:ay}(b:0<=r)(d:r<3)(q:∀k:Str,(k="least"\/k="most"\/k="just")->Q (.str k)):oQ (c8 [.str<|ah4 "least",.str<|ah4 "most",.str<|ah4 "just"] r) Q:=by
 show Jd b d λx a=>?_
 rcases ä.mp a with rfl |a
 .show q _ (.inl rfl)
 rcases ä.mp a with rfl |a
 .show q _ (.inr (.inl rfl))
 rcases ä.mp a with rfl |a
 .show q _ (.inr (.inr rfl))
 cases a
abbrev Way(w:Int):Prop:=w=0\/w=1\/w=2\/w=3
structure R9(w:Int)(us:aj)(o:bV):Prop where
 p:∀p∈o.1,p.1∈us/\p.2.num.natAbs<=3/\p.2.den<=3/\(w=2->p.2.den=1)
 d:(o.1.map (·.1)).Nodup
 l:↑o.1<=↑us
 k:o.2.1="least"\/o.2.1="most"\/o.2.1="just"
 n:(w≠2->o.2.2.1.num.natAbs<=20/\o.2.2.1.den<=3)/\(w=2->o.2.2.1.num.natAbs<=10 ^ 11/\o.2.2.1.den<=10 ^ 5)
 r:o.2.2.2.1=0\/o.2.2.2.1=3
 w:0<o.2.2.2.2/\o.2.2.2.2<=4
def LF{w:Int}(h:Way w){Q:ay}(q:∀b:Int,0<b->b<=3->(w=2->b=1)->Q (.int b)):oQ (c8 [Tr.int 1,.int 3,.int 1,.int 1] w) Q:=by
 rcases h with rfl |rfl |rfl |rfl
 .show q 1 ∎ ∎ (λ_=>rfl)
 .show q 3 ∎ ∎ (λz=>au5 z ∎)
 .show q 1 ∎ ∎ (λ_=>rfl)
 .show q 1 ∎ ∎ (λ_=>rfl)
inductive lK(xs:af)(Q:Tr->aB):Prop
 |mk(_:↑xs=3)(f:Fl)(c w:Int)(us:aj)(_:Fp f)(_:xs=[.int c,.ah f ↥us,.int w])(_:Way w)(_:us.Nodup)(_:↑us<=8)(_:∀o:bV,R9 w us o->∀j,Q (ae.t o) j):lK xs Q
def Rv{z:Bool}:aG P w K mg base bJ 3 T.vH.a T.vH.d ["_law_cell","_law_some","_law_way"] (bU K z 0 3 lK):=by
 show cu T.vH.F Rt rfl ∎ λbK A outer s H E hr hu B=>?_
 show#[_,(aK (bM 3<|a7 (eZ<|ak aD<|ak aD<|ak aD<|ak aD aA)<|qv 2)
  (aK (iD 4 xt)
  (aK (fk (su T.pz<|ak (qv 1) aA) (gO (n:=2) rfl<|dz (cD 5)<|dz (cD 6) gL) (aK (bM 7<|qc T.qY (zO T)<|ak (a7 (eZ<|ak aD<|ak (ia aD)<|ak aD<|ak aD<|ak (ia aD) aA)<|fW (qc T.jw (lh T)<|ak (qv 0)<|ak (d8 (qv 5) aD) aA) aD)<|ak (d8 aD<|fW (qc T.jw (lh T)<|ak (qv 0)<|ak (d8 (qv 5) aD) aA)<|qv 3) aA)
  (aV<|cB (QW.t<|qa (b7 nv ng (fW (qc T.jw (lh T)<|ak (qv 0)<|ak (d8 (qv 5) aD) aA) aD) aD)<|p0<|QW.t<|jA (b7 kH kD (qv 2) aD)<|kd<|b7 eI eG (fW (qc T.jw (lh T)<|ak (qv 0)<|ak (d8 (qv 5) aD) aA) aD) aD) (aV<|xK (dy 4) (qv 6)<|qv 7) cA)))
  (aK (bM 8<|a7 (eZ<|ak gm<|ak gm<|ak gm aA)<|fW (qc T.jw (lh T)<|ak (qv 0)<|ak aD aA) aD)
  (aK (bM 9<|a7 (eZ<|ak aD<|ak aD<|ak aD<|ak aD<|ak aD<|ak aD aA)<|fW (qc T.jw (lh T)<|ak (qv 0)<|ak aD aA) aD)
  (aK (bM 7<|qc T.qY (zO T)<|ak (qi (fW (qc T.jw (lh T)<|ak (qv 0)<|ak aD aA) aD) aD)<|ak (d8 aD<|fW (qc T.jw (lh T)<|ak (qv 0)<|ak aD aA)<|qv 3) aA)
  (aK (cB `dI (aV<|bM 7<|qc T.qY (zO T)<|ak (qi (fW (dC (qc T.jw (lh T)<|ak (qv 0)<|ak aD aA) aD)<|xI aD aD)<|xI aD aD)<|ak (d8 aD<|fW (qc T.jw (lh T)<|ak (qv 0)<|ak aD aA)<|xI aD aD) aA) cA)
  (sj 4<|aV<|bI<|gn<|ak (qv 4)<|ak (qv 8)<|ak (qv 7)<|ak (qv 9)<|ak (d8 aD<|qv 9) aA)))))))),?_]
 intro xs Q' _ zy;let#[_,f,c,w,us,_,rfl,hw,α,ζ,q]:=zy;show fP (λj=>∃b:Int,j=[.int c,.ah f ↥us,.int w,.int b,.aq,.aq,.aq,.aq,.aq,.aq]/\0<b/\b<=3/\(w=2->b=1)) (λN B=>?_) ?_
 .rfl';show LF hw λb I b3 O=>#[rfl,B _ #[b,rfl,I,b3,O]]
 intro _ zy;let#[b,rfl,I,b3,O]:=zy;show fP (λj=>j=[.int c,.ah f ↥us,.int w,.int b,.aT .o [],.aq,.aq,.aq,.aq,.aq]) (λN B=>?_) ?_
 .rfl';show#[rfl,B _ rfl]
 rintro _ rfl;show fP (λj=>∃(g:List (Str×Rat))(x y v:Tr),j=[.int c,.ah f ↥us,.int w,.int b,.aT .o<|g.map 1e1,x,y,v,.aq,.aq]/\(∀p∈g,p.1∈us/\p.2.num.natAbs<=3/\p.2.den<=3/\(w=2->p.2.den=1))/\(g.map (·.1)).Nodup/\↑g<=↑us) (λN B=>?_) ?_
 .rfl';show Loop.map us.zipIdx _ (λi j=>∃(g:List (Str×Rat))(x y v:Tr),j=[.int c,.ah f ↥us,.int w,.int b,.aT .o<|g.map 1e1,x,y,v,.aq,.aq]/\(∀p∈g,p.1∈us.take i/\p.2.num.natAbs<=3/\p.2.den<=3/\(w=2->p.2.den=1))/\(g.map (·.1)).Nodup/\↑g<=i) #[[],_,_,_,rfl,λ_ m=>(nomatch m),ag5,Ñ 0] ?_ ?_
  .rintro i ⟨u,i'⟩ j hi ⟨g,x,y,v,rfl,r,hd,C⟩;let#[J,ei]:=sv hi;dsimp only at J ei;subst ei;have δ:=(Á.mp J).1;have ht:us.take (i'+1)=us.take i'++[u]:=RV J;have hn:u ∉ g.map (·.1):=λm=>by
    let#[p,l,e]:=á.mp m;show Gp α J<|e ▸ (r p l).1
   have keep:∀x y v:Tr,∃(D:List (Str×Rat))(x' y' v':Tr),[Tr.int c,.ah f ↥us,.int w,.int b,.aT .o<|g.map 1e1,x,y,v,.aq,.aq]=[Tr.int c,.ah f ↥us,.int w,.int b,.aT .o<|D.map 1e1,x',y',v',.aq,.aq]/\(∀p∈D,p.1∈us.take (i'+1)/\p.2.num.natAbs<=3/\p.2.den<=3/\(w=2->p.2.den=1))/\(D.map (·.1)).Nodup/\↑D<=i'+1:=λx y v=>#[g,_,_,_,rfl,λp l=>#[by rw[ht];show É.mpr<|.inl (r p l).1,(r p l).2],hd,⋯]
   walk_at "q";show#[rfl,c,_,rfl,⋯,⋯,λr1 _=>?_];walk_at "q";show#[∎,wZ (ns:=[1,-1,1,2,-3]) (Ď _ ∎) (ÿ _ ∎) λs hs=>?_];have ε:s.natAbs<=3:=by
    have A:∀n:Int,n∈[(1:Int),-1,1,2,-3]->n.natAbs<=3:=∎
    show A s hs
   walk_at "q";show#[rfl,c,_,rfl,⋯,⋯,λr2 _=>?_];have g3:=Ď r2 (show b≠0 by omega);have U:=ÿ r2 I;walk_at "q";show#[I,rfl,_,_,rfl,⋯,Ï (gk (k:=8) ⋯) ∎,λ_=>#[kN _,?_]];rw[ko];have t1:=Bt s (show 0<1+r2 % b by omega);have t2:=Bu s (show 0<1+r2 % b by omega);have t3:=(Ë s<|1+r2 % b).den_pos;have t4:w=2->(Ë s<|1+r2 % b).den=1:=λz=>by have:=O z;omega
   generalize Ë s (1+r2 % b)=h at t1 t2 t3 t4;show YV (λR r1 r2=>?_) ?_<|keep _ _ _
   .rfl';show#[rfl,c,_,rfl,⋯,⋯,λr3 _=>?_];rfl';show#[∎,?_];split
    .split
     .show r1
     .show#[rfl,c,_,rfl,⋯,⋯,λr4 _=>?_];rfl';show#[∎,?_];cases decide (r4 % 5=2)
      .show r2
      .show r1
    .show r2
   .rfl';rw[gY hn];show#[⋯,g++[(u,h)],_,_,_,rfl,λp l=>?_,?_,by rw[Ö,Œ];omega]
    .rcases É.mp l with l |l
     .rw[ht];show#[É.mpr<|.inl (r p l).1,(r p l).2]
     .rw[å.mp l,ht];show#[É.mpr<|.inr<|.head _,(by omega:h.num.natAbs<=3),(by omega:h.den<=3),t4]
    .rw[ß];show ŋ.mpr #[hd,Ĕ.mpr #[λm=>(nomatch m),ag5],λa ma b' mb e=>?_];rw[å.mp mb] at e;have e:a=u:=e;subst e;show hn ma
  .rintro j ⟨g,x,y,v,rfl,r,hd,C⟩;rw[ĭ] at C;show B _ #[g,x,y,v,rfl,λp m=>#[ad3 (r p m).1,(r p m).2],hd,⋯]
 intro _ zy;let#[g,x,y,v,rfl,r,hd,C]:=zy;walk_at "q";show#[rfl,c,_,rfl,∎,∎,λr7 _=>?_];walk_at "q";show#[∎,U1 (Ď _ ∎) (ÿ _ ∎) λk hk=>?_];walk_at "q";show#[rfl,c,_,rfl,∎,∎,λr8 _=>?_];walk_at "q";show#[∎,wZ (ns:=[0,0,0,0,0,3]) (Ď _ ∎) (ÿ _ ∎) λG β=>?_];have Y:G=0\/G=3:=by
  have A:∀n:Int,n∈[(0:Int),0,0,0,0,3]->n=0\/n=3:=∎
  show A G β
 walk_at "q";show#[rfl,c,_,rfl,∎,∎,λr3 _=>?_];have g7:=Ď r3 (show (25:Int)≠0 by decide);have γ:=ÿ r3 (show (0:Int)<25 by decide);walk_at "q";show#[∎,rfl,c,_,rfl,∎,∎,λr4 _=>?_];have g3:=Ď r4 (show b≠0 by omega);have U:=ÿ r4 I;walk_at "q";show#[I,rfl,_,_,rfl,⋯,Ï (gk (k:=8) ⋯) ∎,λ_=>#[kN _,?_]];rw[ko];have t1:=Bt (r3 % 25 - 4) (show 0<1+r4 % b by omega);have t2:=Bu (r3 % 25 - 4) (show 0<1+r4 % b by omega);generalize Ë (r3 % 25 - 4) (1+r4 % b)=h at t1 t2;show K5 (λj=>∃h:Rat,j=[.int c,.ah f ↥us,.int w,.int b,.aT .o<|g.map 1e1,x,y,ae.t h,.str k,.int G]/\(w≠2->h.num.natAbs<=20/\h.den<=3)/\(w=2->h.num.natAbs<=10 ^ 11/\h.den<=10 ^ 5)) (λN B=>?_) ?_
 .rfl';split
  .next e=>
   have e:w=2:=au8 e;have Q:(10:Int) ^ ai1 11=100000000000:=∎
   have e9:(10:Int) ^ ai1 9=1000000000:=∎
   have e5:(10:Int) ^ ai1 5=100000:=∎
   show#[rfl,c,_,rfl,∎,∎,λr5 _=>?_];rfl';show#[Fy ∎,Cy (n:=11) ∎,?_];simp only[Q,e9,e5];show#[∎,Cy (n:=9) ∎,rfl,c,_,rfl,∎,∎,λM _=>?_];rfl';have a0:=Ď (r5*467) (show (100000000000:Int)≠0 by decide);have a1:=ÿ (r5*467) (show (0:Int)<100000000000 by decide);have c0:=Ď M (show (100000:Int)≠0 by decide);have c1:=ÿ M (show (0:Int)<100000 by decide);show#[Cy (n:=5) ∎,∎,?_];show#[rfl,_,_,rfl,⋯,Ï (gk (k:=30) ⋯) ∎,λ_=>#[kN _,?_]];rw[ko];have s1:=Bt (r5*467 % 100000000000 - 1000000000) (show 0<1+M % 100000 by omega);have s2:=Bu (r5*467 % 100000000000 - 1000000000) (show 0<1+M % 100000 by omega);show B _ #[_,rfl,λz=>au5 e z,λ_=>#[⋯,⋯]]
  .next e=>
   have e:¬ w=2:=of_decide_eq_false (by simpa using e);show B _ #[h,rfl,λ_=>#[⋯,⋯],λz=>au5 z e]
 intro _ zy;let#[h,rfl,n1,n2]:=zy;have ck:=cq _<|lj g;rfl';rw[show dH (g.map 1e1)=g.map 1e1 from ck.f];show#[?_,q (g,k,h,G,1+G) #[r,hd,C,hk,#[n1,n2],Y,by change 0<1+G/\1+G<=4;omega] _];rw[show cP (Tr.aT Fl.f<|g.map 1e1)=Â from ck.o];rfl
def U2(t b:Int)(l:0<b)(x y:Rat):Ë (t*(x.den:Int)*(y.den:Int)+x.num*y.num*b) (b*(x.den:Int)*(y.den:Int))=Ë t b+x*y:=by
 have e:∀x:Rat,x=(x.num:Rat) / ((x.den:Int):Rat):=λx=>by
  have:=ag1 x;rw[ý] at this;show this.symm
 have a:∀x:Rat,(((x.den:Int)):Rat)≠0:=λx z=>by
  have:=İ.mp z;have:=x.den_pos;omega
 have d:=e x;have g:=e y;have i:=a x;have j:=a y;have h:(b:Rat)≠0:=λz=>by have:=İ.mp z;omega
 rw[ý,ý,ł,Ċ,Ċ,Ċ,Ċ,Ċ,Ċ];generalize (t:Rat)=F at *;generalize (b:Rat)=F' at *;generalize (x.num:Rat)=A at *;generalize ((x.den:Int):Rat)=A' at *;generalize (y.num:Rat)=B at *;generalize ((y.den:Int):Rat)=B' at *;rw[d,g]
 grind
structure Sum(r:Rat)(t b:Int):Prop where
 p:0<b
 e:Ë t b=r
 s:bi t<=1000000/\bi b<=1000000
def Sum.num{r:Rat}{t b:Int}(h:Sum r t b):r*(b:Rat)=(t:Rat):=by
 rw[<- h.e,ý];show Δ<|č<|î.mpr h.p
inductive ji(xs:af)(Q:Tr->aB):Prop
 |mk(_:↑xs=1)(f:Fl)(ps:List (Rat×Rat))(_:Fp f)(_:xs=[.ah f ↥ps])(_:∀p∈ps,bs p.1<=9000/\bs p.2<=9000)(_:↑ps<=30)(_:∀t b:Int,Sum (dE ps) t b->∀j,Q (.aJ [.int t,.int b]) j):ji xs Q
def Aa{z:Bool}:aG P w K mg base bJ 1 T.qZ.a T.qZ.d ["_law_pairs"] (bU K z 0 1 ji):=by
 show cu T.qZ.F Ru rfl ∎ λbK A outer s H E J M g=>?_
 show#[_,(aK (bM 1 aD)
  (aK (bM 2 aD)
  (aK (fk (dY<|qv 0) (gO (n:=2) rfl<|dz (cD 3)<|dz (cD 4) gL) (aK (bM 1<|d8 (dC (dC (qv 1)<|a7 (qv 3) aD)<|a7 (qv 4) aD)<|dC (dC (a7 (qv 3) aD)<|a7 (qv 4) aD)<|qv 2)
  (aV<|bM 2<|dC (dC (qv 2)<|a7 (qv 3) aD)<|a7 (qv 4) aD)))
  (aV<|bI<|gn<|ak (qv 1)<|ak (qv 2) aA)))),?_]
 intro xs G _ zy;let#[_,f,e,_,rfl,C,I,q]:=zy;show fP (λj=>j=[.ah f ↥e,.int 0,.aq,.aq,.aq]) (λN g=>by rfl';show g _ rfl) ?_;rintro _ rfl;show fP (λj=>j=[.ah f ↥e,.int 0,.int 1,.aq,.aq]) (λN g=>by rfl';show g _ rfl) ?_;rintro _ rfl;rfl';show Loop.map e _ (λi j=>∃(t b:Int)(x y:Tr),j=[.ah f ↥e,.int t,.int b,x,y]/\0<b/\Ë t b=dE `eK/\bi t<=1+i*18001/\bi b<=1+i*18001) #[0,1,_,_,rfl,∎,by rw[ad5,dE];rfl,by walk_at "k",by walk_at "k"] ?_ ?_
 .rintro i ⟨a,b⟩ j hi ⟨t,d,x,y,rfl,hd,he,ht,hb⟩;have B:=(Á.mp hi).1;let#[v,h]:=C _<|Ì hi;dsimp only at v h;have D:dE (e.take<|i+1)=dE `eK+a*b:=by
   rw[Ė,hi,xl];change dE `eK+dE [(a,b)]=_;rw[dE,dE]
   grind
  rw[D,<- he,<- U2 t d hd];have r:=i1 a;have l:=gx a;have u:=i1 b;have m:=gx b;have O:=dZ t (a.den:Int);have Q:=dZ (t*(a.den:Int)) (b.den:Int);have U:=dZ a.num b.num;have Y:=dZ (a.num*b.num) d;have m5:=Zz (t*(a.den:Int)*(b.den:Int))<|a.num*b.num*d;have m6:=dZ d (a.den:Int);have m7:=dZ (d*(a.den:Int)) (b.den:Int);have p1:(0:Int)<d*(a.den:Int)*(b.den:Int):=Ŷ (Ŷ hd<|Ň.mpr a.den_pos)<|Ň.mpr b.den_pos;have o:i<=30:=⋯
  rw[show ae.t (a,b)=Tr.aJ [ae.t a,ae.t b] from rfl];rfl';show#[fm (Ñ _) l ⋯,fm (Ñ _) m ⋯,fm r u ⋯,fm (Ñ _) (Ñ _) ⋯,fm (Ñ _) l ⋯,fm (Ñ _) m ⋯,_,_,_,_,rfl,p1,rfl,⋯,⋯]
 .rintro j ⟨t,b,x,y,rfl,hb,he,h1,h2⟩;rw[ğ] at he;rfl';show q t b #[hb,he,⋯] _
abbrev rD(X:List (Str×Rat))(m:List (Str×Rat)):List (Rat×Rat):=m.map λp=>(p.2,(b4 X p.1).getD 0)
def Ht{u:Str}:∀{us:aj}{j:Nat}(y:Nat->Rat),us.Nodup->us[j]?=À u->dot (us.map λx=>(b4 [(u,(1:Rat))] x).getD 0) y=y j
 |v::us,j,y,nd,h=>by
  let#[a,l]:=Ĕ.mp nd;rw[è,dot]
  match j,h with
  |0,h=>
   have d:v=u:=Þ h;subst d;have z:us.map (λx=>(b4 [(v,(1:Rat))] x).getD 0)=Ò ↑us 0:=List.eq_replicate_iff.mpr #[Æ _,λb m=>by
    let#[x,i,rfl]:=á.mp m;have:¬ v=x:=λe=>a (e ▸ i)
    simp[b4,this]]
   rw[z,AY,AI rfl];change (1:Rat)*_+0=_
   grind
  |j+1,h=>
   have g:u∈us:=Ì h;have:¬ u=v:=λe=>a<|e ▸ g
   rw[Ht (u:=u) (us:=us) (j:=j) _ l h,show (b4 [(u,(1:Rat))] v).getD 0=0 by simp[b4,this]]
   grind
def A5{us:aj}(nd:us.Nodup){x:Nat->Rat}{j:Nat}{u:Str}(h:us[j]?=À u):b4 `aD u=À (x j):=by
 unfold b4;have m:(u,j)∈us.zipIdx:=ę.mpr h;rw[aj9];cases e:us.zipIdx.find? ((λp=>decide<|p.1=u) ∘ 1e3) with
 |none=>show au5 (as3.mp e _ m) ∅
 |some q=>
  have o:q.1=u:=au8 (p:=q.1=u) (by have:=List.find?_some e;show this);have i:us[q.2]?=À q.1:=ę.mp<|ak4 e;rw[o] at i;let#[a,b]:=Á.mp i;let#[d,g]:=Á.mp h;have n:q.2=j:=by
   rcases Nat.lt_trichotomy q.2 j with l |e |l
   .show au5 (b.trans g.symm) (Ũ.mp nd _ _ a d l)
   .show e
   .show au5 (g.trans b.symm) (Ũ.mp nd _ _ d a l)
  change À (x q.2)=_;rw[n]
def U3(u v:Str)(c:Rat)(m:List (Str×Rat))(h:u ∉ m.map (·.1)):(b4 ((u,c)::m) v).getD 0=c*(b4 [(u,(1:Rat))] v).getD 0+(b4 m v).getD 0:=by
 unfold b4;rw[ļ,ļ,List.find?_nil];by_cases e:u=v
 .have n:m.find? (λp=>decide<|p.1=v)=Ä:=as3.mpr λp a z=>h (by rw[e,<- au8 z];show ē a)
  rw[n];simp only[e,decide_true];change c=c*1+0
  grind
 .simp only[e,decide_false];change _=c*0+_
  grind
def Je{us:aj}(nd:us.Nodup)(x:Nat->Rat):∀m:List (Str×Rat),(m.map (·.1)).Nodup->(∀p∈m,p.1∈us)->dE (rD `aD m)=dot (us.map λu=>(b4 m u).getD 0) x
 |[],_,_=>(B3 us x).symm
 |(u,c)::m,hn,hm=>by
  rw[è,Ĕ] at hn;let#[j,a]:=ĩ<|hm (u,c)<|.head _;have b:=Je nd x m hn.2 λp d=>hm p<|.tail _ d
  change c*(b4 (us.zipIdx.map 1e3) u).getD 0+dE (rD _ m)=_;rw[b,A5 nd a,show (us.map λv=>(b4 ((u,c)::m) v).getD 0)=us.map λv=>c*(b4 [(u,(1:Rat))] v).getD 0+(b4 m v).getD 0 from Ģ λv _=>U3 u v c m hn.1,AZ,Ht x nd a];rfl
def fQ{m:List (Str×Rat)}{u:Str}:(b4 m u).getD 0=0\/∃p∈m,(b4 m u).getD 0=p.2:=by
 unfold b4;cases e:m.find? λp=>decide (p.1=u) with
 |none=>show .inl rfl
 |some p=>show .inr #[p,ak4 e,rfl]
def B4{r:Rat}{n:Nat}(b:bi r.num<=n)(a:bi (r.den:Int)<=n):bs r<=n:=by
 unfold bs;unfold bi at b a;rw[Ć] at a;show Nat.max_le.mpr #[b,a]
def R9.pb{w:Int}{us:aj}{o:bV}(h:R9 w us o):∀p∈o.1,bs p.2<=2:=λp m=>by
 let#[_,a,b,_]:=h.p p m;show B4 (gk ⋯) (gk (by rw[Ć];omega))
def R9.nb{w:Int}{us:aj}{o:bV}(h:R9 w us o):bs o.2.2.1<=37:=by
 by_cases e:w=2
 .obtain⟨a,b⟩:=h.n.2 e;show B4 (gk ⋯) (gk (by rw[Ć];omega))
 .obtain⟨a,b⟩:=h.n.1 e;show B4 (gk ⋯) (gk (by rw[Ć];omega))
inductive lE(xs:af)(Q:Tr->aB):Prop
 |mk(_:↑xs=2)(f:Fl)(w:Int)(us:aj)(o:bV)(x:Nat->Rat)(_:Fp f)(_:xs=[ae.t o,cO f (us.zipIdx.map 1e3)])(_:us.Nodup)(_:↑us<=8)(_:R9 w us o)(_:∀k,k<↑us->bs (x k)<=9000)(_:jn o.2.1 (gN us o x)=0)(_:∀j,Q (.bl Â) j):lE xs Q
def FV:aG P w K mg base bJ 2 T.sR.a T.sR.d ["_law_one","_law_placing"] (bU K Â 0 2 lE):=by
 show cu T.sR.F PB rfl ∎ ?_
 intros
 show#[_,(aK (Xy 2 ["_law_name","_law_number","_law_placing"] [Ä,Ä,À 1] (a7 `cR aD) (qr (n:=2) rfl<|jC (c7 0)<|jC (c7 1) pP) (λ_ _ _ _ _=>(gn<|ak (qv 1)<|ak (a7 (qv 2)<|qv 0) aA)))
  (aK (xJ (qc T.qZ (Aa T)<|ak (d8 (qv 2)<|eZ<|ak (gn<|ak (gn<|ak (ia aD)<|ak aD aA)<|ak (a7 (qv 0) aD) aA) aA) aA)<|gO (n:=2) rfl<|dz (cD 3)<|dz (cD 4) gL)
  (aV<|bI<|uU (fL eI eG (qv 3) aD)<|uU (m4 (fL eI eG (a7 (qv 0) aD) gm)<|kK<|fL nv ng (qv 3) aD)<|kK<|m4 (fL eI eG (a7 (qv 0) aD) gm)<|kK<|fL kH kD (qv 3) aD))),?_]
 intro M J _ zy;let#[_,f,w,us,o,x,_,rfl,i,D,h,E,hm,q]:=zy;have C:=h.l;unfold gN at hm;have hn:=h.nb;rfl';rw[ð];show aY.map o.1 _ (λp=>(p.2,(b4 `aD p.1).getD 0)) ⋯ (λp g R B=>?_) ?_
 .show nI 2 _ (Tr.aJ [.str p.1,ae.t p.2]) _ _;let#[j,m]:=ĩ (h.p p g).1;have A:=A5 i (x:=x) m;rw[A] at B;rfl';show dG _ _ (x j) A B
 .rw[eH];rfl'
  change (rD `aD o.1 |>.map ae.t).length+1<=1000000/\ji [dn<|Pu.aE<|.ah .o<|(rD (us.zipIdx.map 1e3) o.1).map ae.t++[((-1:Rat),o.2.2.1)].map ae.t] _
  rw[<- ß,eH,jF];have y:(rD `aD o.1).length=↑o.1:=Æ _;show#[by rw[Æ];omega,rfl,.f,_,inferInstance,rfl,λp g=>?_,?_,λt b u _=>#[rfl,?_]]
  .rcases É.mp g with g |g
   .obtain⟨p',mp',rfl⟩:=á.mp g;let#[j,m]:=ĩ (h.p p' mp').1;dsimp only;rw[A5 i m];show#[Ï (h.pb p' mp') ∎,E j (Á.mp m).1]
   .rw[å.mp g];show#[Ï (show bs (-1)<=1 by walk_at "k") ∎,Ï hn ∎]
  .rw[Ö,y,Œ];omega
  .have hv:dE (rD `aD o.1++[((-1:Rat),o.2.2.1)])=dot `aM x - o.2.2.1:=by rw[xl,dE,dE,Je i x _ h.d λp g=>(h.p p g).1];unfold fC;grind
   rw[hv] at u;generalize dot `aM x - o.2.2.1=r at hm u;have sg:=u.num;have z:(0:Rat)<(b:Rat):=î.mpr u.p;change (2:Nat)=2/\_;show#[rfl,?_];rfl';let#[G,H,I]:=(Ar _ _).mp hm;by_cases v:t=0
   .rw[au4<|au6 v];show q _
   .rw[au3<|by simpa using v];rcases h.k with e |e |e
    .have tp:0<t:=by
      have:=ñ (G e)<|ě z;rw[sg] at this;have:=Ē.mp this;omega
     rw[au4<|au6 e,au4<|au6 tp];show q _
    .have tp:t<0:=by
      have:=ñ (show 0<=-r by have:=H e;grind)<|ě z;rw[show -r*(b:Rat)=-(r*(b:Rat)) by grind,sg,<- ŕ] at this;have:=Ē.mp this;omega
     rw[au3 (by rw[e];decide),au4<|au6 e,show decide (t<0)=Â from au6 tp];show q _
    .show au5 ?_ v;have:=sg;rw[I (by rw[e];decide) (by rw[e];decide),Ϻ] at this;show İ.mp this.symm
def Jf{a:Tr}{d:af}(h:fv a a=À Â)(h':cY d d=À Â):cY (a::d) (a::d)=À Â:=by
 change ((fv a a).bind λa=>(cY d d).bind λb=>À<|a&&b)=_;rw[h,h'];rfl
def JU{f g:Fl}{a:af}(h:cY a a=À Â):fv (.ah f a) (.ah g a)=À Â:=by
 change (if ↑a=↑a then cY a a else À Å)=_;rw[au4 rfl,h]
def eq_str(u:Str):fv (.str u) (.str u)=À Â:=by
 change À (decide<|u=u)=_;rw[au6 rfl]
def IB:∀us:aj,cY ↥us ↥us=À Â
 |[]=>rfl
 |u::us=>Jf (eq_str u)<|IB us
def Hu:∀us:aj,gS ↥us=0
 |[]=>rfl
 |u::us=>by change max 0 (gS ↥us)=0;rw[Hu us];rfl
def YW(us:aj):↥us=us.zipIdx.map λp=>Tr.str p.1:=by
 have:us=us.zipIdx.map (·.1):=by rw[List.zipIdx_map_fst]
 conv=>lhs;rw[this]
 rw[ð];rfl
def xO{j:Type}(P:List j):(P.map λ_=>Â).all id=Â:=by rw[List.all_map];show ah6.mpr λ_ _=>rfl
def Rw{l ks:aC}(h:l.Sublist ks):ks.Nodup->(ks.filter λk=>decide<|k∈l)=l:=by
 induction h with
 |slnil=>intro _;rfl
 |@cons l ks a h b=>
  intro nd;rw[Ĕ] at nd;rw[ah7,au3 (by simpa using λm=>nd.1<|h.subset m),b nd.2]
 |@cons_cons l ks a h b=>
  intro nd;rw[Ĕ] at nd;rw[ah7,au4<|by simp];congr 1;rw[<- b nd.2];show ag4 λx d=>decide_eq_decide.mpr ?_
  rw[b nd.2,ä];show#[λz=>z.resolve_left λe=>nd.1<|e ▸ d,.inr]
def IC:∀ns:aC,cY ↥ns ↥ns=À Â
 |[]=>rfl
 |n::ns=>by
  rw[è];show Jf (by change À (decide<|n=n)=À Â;rw[au6 rfl])<|IC ns
def Ax:∀ns:aC,gS ↥ns=0
 |[]=>rfl
 |n::ns=>by change max 0 (gS ↥ns)=0;rw[Ax ns];rfl
def Hv(rs:av):(cH rs).Sublist ((È ↑rs).map λn:Nat=>(n:Int)):=by
 have s:((rs.zipIdx.filter λp=>decide<|p.1.2.2.2.1=0).map (·.2)).Sublist (rs.zipIdx.map (·.2)):=Ű.map _;rw[ar3,<- ad4] at s;have:=s.map λn:Nat=>(n:Int)
 rw[ð] at this;show this
def Gs{rs:av}{l:aC}(h:l.Sublist `cd):((È ↑rs).filter λk:Nat=>decide ((k:Int)∈l)&&decide ((bP rs (k:Int)).2.2.2.1=0)).map (λn:Nat=>(n:Int))=l:=by
 have nd:((È ↑rs).map λn:Nat=>(n:Int)).Nodup:=Ϩ _ (λa b h e=>h<|ϓ e) List.nodup_range;have a:=Rw (h.trans<|Hv rs) nd;rw[List.filter_map] at a;show Eq.trans (au9 _<|ag4 λk _=>?_) a;change (decide ((k:Int)∈l)&&decide ((bP rs (k:Int)).2.2.2.1=0))=decide ((k:Int)∈l);by_cases m:(k:Int)∈l
 .rw[au6 m,au6 (iw<|h.subset m).2.2.2];rfl
 .rw[au7 m];rfl
def LG{b ns:aR}{l d:Nat}(h:CD l d b){M x:Nat}(B:0<M)(hn:∀y∈ns,∃n:Int,y=Ë n M/\bi n<=x)(j:∀y∈ns,bs y<=3000)(r:∀y∈b,bs y<=3900)(q:(b.zip ns).length<=16)(z:l+x<=3900)(A:d+bi (M:Int)<=3900):nP b ns:=by
 let#[D,i,o,u]:=h;show#[λp m=>?_,q,D*M,Ŷ i ⋯,Ï `bb ⋯,λy v=>?_]
 .have m:=Ķ m;have:=r _ m.1;have:=j _ m.2;omega
 .obtain⟨p,mp,rfl⟩:=á.mp v;have m:=Ķ mp;∎;let#[a,e,C]:=u _ m.1;let#[n,g,hn]:=hn _ m.2;∎;show#[a*n,by rw[e,g,Ĺ],Ï `bb ⋯]
abbrev wy(u:Str)(o:bV):Bool:=(b4 o.1 u).isSome
def A6(rs:av)(f:bV->Rat)(c:bV->Bool):∀d:List (Int×Rat),(∀p∈d,c (bP rs p.1)=Å->f (bP rs p.1)=0)->dE ((d.filter λp=>c<|bP rs p.1).map λp=>(p.2,f<|bP rs p.1))=ff rs f d
 |[],_=>rfl
 |p::d,h=>by
  have a:=A6 rs f c d λp m=>h p<|.tail _ m
  rw[ff,ah7];by_cases e:c (bP rs p.1)=Â
  .rw[au4 e,è,dE,a]
  .rw[au3 e,a,h p (.head _)<|by simpa using e]
   grind
def LH{e s v:Nat}{rs:av}{us:aj}(h:∀o∈rs,jW e s v us o):∀o∈rs,∀c∈cQ us o,∃n:Int,c=Ë n (sX us rs)/\bi n<=e+(1+s*↑rs):=λo mo=>by
 have d:=uC h;let#[q,b]:=xD (us:=us) mo;have i:q≠0:=by
  rintro rfl;rw[ô] at b;omega
 have g:bi q<=1+s*↑rs:=Ï (kf #[bo us o,by rw[b,ϴ]] d)<|uS h;have a:∀c:Rat,(c.den:Int) ∣ bo us o->bi (dR `ak c)<=e->∃n:Int,c=Ë n (sX us rs)/\bi n<=e+(1+s*↑rs):=λc dv j=>by
  show#[dR `ak c*q,?_,Ï `bb ⋯];rw[b,ϫ i,ý,pW dv,Ĝ];have:=Ε _<|č<|î.mpr (h o mo).p
  grind
 intro c m;rcases É.mp m with m |m
 .show a c ((lg us o).2.1 c m) ((h o mo).eb _ (ē m))
 .rw[å.mp m];show a _ (lg us o).2.2 (h o mo).x
structure sJ(N zz e s:Nat)(w:Int)(us:aj)(rs:av):Prop where
 nd:us.Nodup
 ul:↑us<=6
 o:∀o∈rs,R9 w us o
 z:∀o∈rs,jW e s 3 us o
 b:Bz N zz rs us
 l:↑rs<=N
 n:N<=12
 h:zz+(↑us+4)*(zz+1)<=3900
 zl:zz<=460
 es:e+s*12<=300
def kY.cz{N zz e s:Nat}{w:Int}{us:aj}{rs:av}{d:List (Int×Rat)}(i:sJ N zz e s w us rs)(h:kY zz rs us `cd d):CK rs us d:=by
 have B:=h.l.length_le;have hn:=Av rs;have G:=i.n;have H:=i.l;have I:=i.zl;have A:=i.es;have C:=ϰ s (show ↑rs<=12 by omega);rw[Æ] at B;have r:∀q∈d.map (·.2),bs q<=3900:=λq m=>Ï (h.b.bs ⋯ m) ⋯
 have W:∀ns:aR,(∀y∈ns,∃o∈rs,y∈cQ us o)->nP (d.map (·.2)) ns:=λns j=>by
  have E:=uS i.z;show LG h.b (uC i.z) (x:=e+(1+s*↑rs)) (λy g=>?_) (λy g=>?_) r (by rw[ad7,Æ];omega) ⋯ ⋯
  .obtain⟨o,mo,g⟩:=j y g;show LH i.z o mo y g
  .obtain⟨o,mo,g⟩:=j y g;show (i.z o mo).b.2 y g
 have v:∀o∈pick rs (d.map (·.1)),o∈rs:=λo m=>by
  let#[k,mk,rfl]:=á.mp m;show (iw<|h.l.subset mk).2.2.1
 show#[h.c,(Ϩ _ (λa b h=>Int.ofNat_lt.mpr h) List.pairwise_lt_range).sublist<|h.l.trans<|Hv rs,λk m=>#[(iw<|h.l.subset m).1,(iw<|h.l.subset m).2.1,(iw<|h.l.subset m).2.2.2],⋯,r,λu D=>W _ λy g=>?_,W _ λy g=>?_]
 .obtain⟨o,mo,rfl⟩:=á.mp g;show#[o,v o mo,É.mpr<|.inl<|ē D]
 .obtain⟨o,mo,rfl⟩:=á.mp g;show#[o,v o mo,É.mpr<|.inr<|.head _]
inductive oC(xs:af)(Q:Tr->aB):Prop
 |mk(_:↑xs=4)(f g:Fl)(N zz e s:Nat)(w:Int)(us:aj)(rs:av)(d:List (Int×Rat))(_:Fp f)(_:Fp g)(_:xs=[.ah f ↥rs,.ah g ↥us,.ah .f ((d.map (·.1)).map ae.t),.ah .f ((d.map (·.2)).map ae.t)])(_:sJ N zz e s w us rs)(_:kY zz rs us (cH rs) d)(_:∀j,Q (.bl Â) j):oC xs Q
def O0:aG P w K mg base bJ 7 T.vJ.a T.vJ.d ["_law_rows","_law_some","_law_numbers","_law_weights"] (bU K Â 0 4 oC):=by
 show cu T.vJ.F Pg rfl ∎ λbK A outer s H E hr hu z=>?_
 show#[_,(aK (cB (QW.t<|jA (ib<|fE<|qj K T.pA<|ak (qv 2)<|ak (qk T.fA) aA)<|jA (b7 eI eG (qv 2)<|eZ aA)<|kd<|ib<|fE<|dN (wM rfl) xb T.vN<|ak (gg ["_law_k"] [Ä] (dY<|qv 2) (c7 0) (λ_ _ _ _ _=>(qc T.q0 (zT T)<|ak (qv 0) aA))) aA) (aV<|bI ft) cA)
  (aK (cB (b7 iB iu (qv 2)<|gg ["_law_k","_law_numbers","_law_rows"] [Ä,À 2,À 0] (uI T.mQ<|ak (dN fM fN T.fO<|ak (qv 0) aA) aA) (c7 0) (λ_ _ _ _ _=>(qv 0)) (ht:=λ_ _ _ _ _=>(pR<|QW.t<|qa (b7 Cq Be (qv 0)<|qv 1)<|p0<|b7 eI eG (a7 (a7 (qv 2)<|qv 0) aD) aD))) (aV<|bI ft) cA)
  (aK (cB (QW.t<|jA (ib<|fE<|qj K T.pA<|ak (qv 3)<|ak (qk T.fA) aA)<|kd<|b7 iB iu (dN fM fN T.fO<|ak (qv 3) aA)<|dN fM fN T.fO<|ak (qv 2) aA) (aV<|bI ft) cA)
  (aK (mY 4 ["_law_k","_law_rows"] [Ä,À 0] (dY<|qv 2) (c7 0) (λ_ _ _ _ _=>(a7 `bX<|qv 0)))
  (aK (fk (kI T.kx<|ak (qv 4)<|ak (qv 3) aA) (gO (n:=2) rfl<|dz (cD 5)<|dz (cD 6) gL)<|aV<|cB (QW.t<|jA (ib<|fE<|qc T.sS (FN T)<|ak (qv 6) aA)<|kd<|ib<|fE<|qc T.vI (PJ T)<|ak (qv 5)<|ak (qv 6) aA) (aV<|bI ft) cA)
  (aK (fk (dY<|qv 1) (cD 7)<|aV<|cB (b7 nv ng (a7 (qc T.qZ (Aa T)<|ak (gg ["_law_one","_law_weight","_law_name"] [Ä,Ä,À 7] (kI T.kx<|ak (qv 4)<|ak (qv 3) aA) (qr (n:=2) rfl<|jC (c7 0)<|jC (c7 1) pP) (λ_ _ _ _ _=>(gn<|ak (qv 1)<|ak (a7 (a7 (qv 0) aD)<|qv 2) aA)) (ht:=λ_ _ _ _ _=>(pR<|b7 Cq Be (qv 2)<|a7 (qv 0) aD))) aA) aD) aD) (aV<|bI ft) cA)
  (aK (xJ (qc T.qZ (Aa T)<|ak (gg ["_law_one","_law_weight"] [Ä,Ä] (kI T.kx<|ak (qv 4)<|ak (qv 3) aA) (qr (n:=2) rfl<|jC (c7 0)<|jC (c7 1) pP) (λ_ _ _ _ _=>(gn<|ak (qv 1)<|ak (a7 (qv 0) aD) aA))) aA)<|gO (n:=2) rfl<|dz (cD 8)<|dz (cD 9) gL)
  (aV<|bI<|m4 (fL eI eG (qv 8)<|qv 9)<|kK<|fL rP rQ (qc T.vE (OM T)<|ak (iE (iC rfl) ir T.fA<|ak (qv 0) aA)<|ak (iE (iC rfl) ir T.fA<|ak (qv 1) aA)<|ak (qv 2)<|ak (qv 3) aA) ft)))))))),?_]
 intro xs Q' _ zy;let#[_,f,g,N,zz,e,s',w,us,rs,d,_,_,rfl,B,D,q]:=zy;have ε:=B.ul;have δ:=B.l;have β:=B.n;have J:=D.cz B;have α:Val rs (d.map (·.1)):=λk m=>#[(J.k k m).1,(J.k k m).2.1]
 have γ:=J.l;have O:=J.b;have U:∀p∈d,R9 w us (bP rs p.1):=λp v=>B.o _ (iw<|D.k p v).2.2.1
 have G:(((d.map λp=>bP rs p.1).zip (d.map (·.2))).map λp=>Tr.aJ [ae.t p.1,ae.t p.2])=d.map λp=>Tr.aJ [ae.t<|bP rs p.1,ae.t p.2]:=by rw[List.zip_map',ð];rfl
 show fP (λj=>j=[.ah f ↥rs,.ah g ↥us,.ah .f ((d.map (·.1)).map ae.t),.ah .f ((d.map (·.2)).map ae.t),.aq,.aq,.aq,.aq,.aq,.aq]) (λN z=>?_) ?_
 .rfl';show#[Â,rfl,?_];rfl';show .inr #[Å,?_,by rw[dep,Ax];decide,by rw[dep];omega,?_]
  .show au3 (t:=cY _ _) (e:=À Å) ?_;rw[Æ,Æ];show λe=>D.ne<|List.length_eq_zero_iff.mp e
  rfl';show aY.map (d.map (·.1)) ae.t (λ_=>Â) (by rw[Æ];omega) (λk mk R B=>?_) ?_
  .rfl';show#[rfl,k,rfl,λ_=>B]
  show#[_,rfl,?_];rw[au4 rfl,xO];show z _ rfl
 rintro _ rfl;show fP (λj=>j=[.ah f ↥rs,.ah g ↥us,.ah .f ((d.map (·.1)).map ae.t),.ah .f ((d.map (·.2)).map ae.t),.aq,.aq,.aq,.aq,.aq,.aq]) (λN z=>?_) ?_
 .rfl';show#[⋯,⋯,?_];rw[Č];show aY.filter (È ↑rs) _ (λk:Nat=>decide ((k:Int)∈d.map (·.1))&&decide ((bP rs (k:Int)).2.2.2.1=0)) (λn:Nat=>(n:Int)) (by rw[Ü];omega) (λk mk A R I C=>?_) ?_
  .have kl:=ħ.mp mk;have ek:rs[k]?=À (bP rs (k:Int)):=by unfold bP;rw[Č,Ç,Ð kl];rfl
   rfl';show IK ?_
   change iP (Tr.bl (decide ((k:Int)∈d.map (·.1)))) _
   by_cases m:(k:Int)∈d.map (·.1)
   .rw[au6 m] at I C ⊢;rfl';show dG _ _ _ (fB ek) ?_;rfl';split
    .next e=>show I e
    .next e=>show C (by simpa using e)
   .rw[au7 m] at C ⊢;rfl';show C rfl
  rw[Gs D.l];show .inr #[Â,JU<|IC _,by rw[dep,Ax];decide,by rw[dep];omega,z _ rfl]
 rintro _ rfl;show fP (λj=>j=[.ah f ↥rs,.ah g ↥us,.ah .f ((d.map (·.1)).map ae.t),.ah .f ((d.map (·.2)).map ae.t),.aq,.aq,.aq,.aq,.aq,.aq]) (λN z=>?_) ?_
 .rfl';show#[Â,rfl,?_];rfl';show z _ rfl
 rintro _ rfl;show fP (λj=>j=[.ah f ↥rs,.ah g ↥us,.ah .f ((d.map (·.1)).map ae.t),.ah .f ((d.map (·.2)).map ae.t),.ah .f<|(d.map λp=>bP rs p.1).map ae.t,.aq,.aq,.aq,.aq,.aq]) (λN z=>?_) ?_
 .rfl';show aY.map (d.map (·.1)) ae.t (λk=>bP rs k) (by rw[Æ];omega) (λk mk R B=>?_) ?_
  .rfl';show dG _ _ _ (rT α mk) B
  rw[eH];show#[kL _,z _ ?_];rw[show (d.map λp=>bP rs p.1)=(d.map (·.1)).map λk=>bP rs k by rw[ð];rfl];rfl
 rintro _ rfl;show fP (λj=>∃a b:Tr,j=[.ah f ↥rs,.ah g ↥us,.ah .f ((d.map (·.1)).map ae.t),.ah .f ((d.map (·.2)).map ae.t),.ah .f<|(d.map λp=>bP rs p.1).map ae.t,a,b,.aq,.aq,.aq]) (λN z=>?_) ?_
 .rfl';rw[G];show Loop.map d _ (λ_ j=>∃a b:Tr,j=[.ah f ↥rs,.ah g ↥us,.ah .f ((d.map (·.1)).map ae.t),.ah .f ((d.map (·.2)).map ae.t),.ah .f<|(d.map λp=>bP rs p.1).map ae.t,a,b,.aq,.aq,.aq]) #[_,_,rfl] ?_ λj h=>z j h
  rintro i p j Y ⟨a,b,rfl⟩;have v:=Ì Y;rfl';show#[rfl,p.2,rfl,λ_=>#[rfl,bP rs p.1,p.2,rfl,(U p v).k,(D.c.s p v).1,(D.c.s p v).2,λ_=>#[_,_,rfl]]]
 rintro _ ⟨a,b,rfl⟩;show fP (λj=>∃c:Tr,j=[.ah f ↥rs,.ah g ↥us,.ah .f ((d.map (·.1)).map ae.t),.ah .f ((d.map (·.2)).map ae.t),.ah .f<|(d.map λp=>bP rs p.1).map ae.t,a,b,c,.aq,.aq]) (λN z=>?_) ?_
 .rfl';show Loop.map us _ (λ_ j=>∃c:Tr,j=[.ah f ↥rs,.ah g ↥us,.ah .f ((d.map (·.1)).map ae.t),.ah .f ((d.map (·.2)).map ae.t),.ah .f<|(d.map λp=>bP rs p.1).map ae.t,a,b,c,.aq,.aq]) #[_,rfl] ?_ λj h=>z j h
  rintro i u j Y ⟨c,rfl⟩;rfl';rw[G];show aY.filter d _ (λp=>wy u<|bP rs p.1) (λp=>(p.2,(b4 (bP rs p.1).1 u).getD 0)) ⋯ (λp v A R I C=>?_) ?_
  .rfl';unfold wy at I C;cases e:b4 (bP rs p.1).1 u with
   |none=>rw[e] at C;show C rfl
   |some x=>rw[e] at I;show I rfl
  rw[eH];rfl';show#[rfl,.f,_,inferInstance,rfl,λx mx=>?_,?_,λt b M _=>?_]
  .obtain⟨p,v,rfl⟩:=á.mp mx;have v:=(ĝ.mp v).1;show#[Ï (O _<|ē v) ∎,?_];rcases fQ (m:=(bP rs p.1).1) (u:=u) with e |⟨y,my,e⟩
   .show bs ((b4 (bP rs p.1).1 u).getD 0)<=9000;rw[e,kE];decide
   .show bs ((b4 (bP rs p.1).1 u).getD 0)<=9000;rw[e];show Ï ((U p v).pb y my) ∎
  .rw[Æ];show Ï (ĺ _ _) ⋯
  .have Q:=D.c.c u<|Ì Y;rw[<- A6 rs _ (wy u) d λp v e=>by unfold wy at e;rw[Option.isSome_eq_false_iff,Option.isNone_iff_eq_none] at e;rw[e];rfl] at Q;have tn:¬ 0<t:=λtp=>by
    have n:=M.num;have bp:(0:Rat)<(b:Rat):=î.mpr M.p;have t0:(0:Rat)<(t:Rat):=î.mpr tp;generalize dE _=y at *;have:=ñ (show 0<=-y by grind)<|ě bp
    grind
   rfl';rw[au3<|by simpa using tn];show#[_,rfl]
 rintro _ ⟨c,rfl⟩;rfl';rw[G];show aY.map d _ (λp=>(p.2,(bP rs p.1).2.2.1)) ⋯ (λp v R B=>?_) ?_
 .rfl';show B
 rw[eH];rfl';show#[rfl,.f,_,inferInstance,rfl,λx mx=>?_,by rw[Æ];omega,λt b M _=>#[rfl,?_]]
 .obtain⟨p,v,rfl⟩:=á.mp mx;show#[Ï (O _<|ē v) ∎,Ï (U p v).nb ∎]
 .have e1:dE (d.map λp=>(p.2,(bP rs p.1).2.2.1))=1:=by
   have Q:=D.c.r;rw[<- A6 rs _ (λ_=>Â) d λp v e=>(by cases e),aq9.mpr λ_ _=>rfl] at Q;show Q
  rw[e1] at M;have tb:t=b:=by
   have n:=M.num;rw[Rat.one_mul] at n;show (Rat.intCast_inj.mp n).symm
  change (2:Nat)=2/\_;show#[rfl,?_];rfl';rw[au4<|au6 tb];show#[rfl,.f,.f,.f,.f,rs,us,d,inferInstance,inferInstance,inferInstance,inferInstance,rfl,⋯,J,λ_=>#[rfl,q _]]
structure Dc where
 m:List (Str×Rat)
instance:ae Dc:=#[λd=>cO .f d.m,λd=>Az d.m,λ_ z=>by cases z]
def LI(a:List (List<|Str×Rat)):a.map (cO .f)=(a.map Dc.mk).map ae.t:=by rw[ð];rfl
inductive oD(xs:af)(Q:Tr->aB):Prop
 |mk(_:↑xs=3)(f g h:Fl)(N zz e s:Nat)(w:Int)(us:aj)(rs:av)(ks:aC)(_:Fp f)(_:Fp g)(_:Fp h)(_:xs=[.ah f ↥rs,.ah g ↥us,.ah h ↥ks])(_:sJ N zz e s w us rs)(_:ks.Sublist (cH rs))(_:∀k∈ks,Fz rs us (gX ks k))(_:∀j,Q (.bl Â) j):oD xs Q
def OJ:aG P w K mg base bJ 11 T.vK.a T.vK.d ["_law_rows","_law_some","_law_numbers"] (bU K Â 0 3 oD):=by
 show cu T.vK.F OC rfl ∎ ?_
 intros
 show#[_,(aK (bM 3<|mI T.vA (Tf T)<|ak (iE (iC rfl) ir T.fA<|ak (qv 0) aA)<|ak (iE (iC rfl) ir T.fA<|ak (qv 1) aA)<|ak (iE (iC rfl) ir T.fA<|ak (qv 2) aA) aA)
  (aK (cB (QW.t<|jA (ib<|fE<|qj K T.pA<|ak (qv 3)<|ak (qk T.fA) aA)<|kd<|b7 iB iu (dN fM fN T.fO<|ak (qv 3) aA)<|dN fM fN T.fO<|ak (qv 2) aA) (aV<|bI ft) cA)
  (aK (fk (kI T.kx<|ak (qv 3)<|ak (qv 2) aA) (gO (n:=2) rfl<|dz (cD 4)<|dz (cD 5) gL) (aK (cB (QW.t<|jA (ib<|fE<|qj K T.pA<|ak (qv 4)<|ak (qk T.MF) aA)<|kd<|b7 iB iu (iE (iC rfl) ir T.fA<|ak (qv 4) aA)<|qv 1) (aV<|bI ft) cA)
  (aK (cB (ib<|fE<|dN (wM rfl) xb T.vN<|ak (Iy ["_law_one"] [Ä] (qv 4) (c7 0) (λ_ _ _ _ _=>(m4 (qc T.sS (FN T)<|ak (qv 0) aA)<|kK<|fL BI Ba (a7 (qv 0) aD) aD))) aA) (aV<|bI ft) cA)
  (aV<|cB (ib<|fE<|dN (wM rfl) xb T.vN<|ak (gg ["_law_k","_law_placing","_law_rows","_law_number"] [Ä,À 4,À 0,À 5] (dY<|qv 2) (c7 0) (λ_ _ _ _ _=>(qc T.sR (FV T)<|ak (a7 (qv 2)<|qv 0)<|ak (qv 1) aA)) (ht:=λ_ _ _ _ _=>(pR<|b7 iB iu (qv 0)<|qv 3))) aA) (aV<|bI ft) cA))))
  (aV<|bI ft)))),?_]
 intro xs Q' _ zy;let#[_,f,g,h,N,zz,e,s',w,us,rs,ks,_,_,_,rfl,u,r,hf,q]:=zy;have β:=u.ul;have D:↑ks<=N:=Ï r.length_le<|Ï (Av rs) u.l;have α:=u.l;have M:=u.n;have H:Val rs ks:=λk m=>#[(iw<|r.subset m).1,(iw<|r.subset m).2.1]
 have hM:ik rs ks:=λk m=>#[(iw<|r.subset m).2.2.2,(u.o _ (iw<|r.subset m).2.2.1).w.1]
 have B:=u.nd;have γ:=u.zl;rfl';show#[rfl,.f,.f,.f,rs,us,ks,N,zz,inferInstance,inferInstance,inferInstance,rfl,u.b,⋯,B,⋯,D,H,r.nodup<|Ja rs,hM,hf,λC hl hX _=>?_];rw[LI];show#[kL _,?_];rw[eH];rfl';show#[Â,rfl,?_];rfl';simp only[gE];rfl';rw[au3<|by simp[hl]];show Loop.map ((C.map Dc.mk).zip ks) _ (λ_ G=>∃a b:Tr,G=[.ah f ↥rs,.ah g ↥us,.ah h ↥ks,.ah .f<|(C.map Dc.mk).map ae.t,a,b]) #[_,_,rfl] ?_ ?_
 .rintro i ⟨⟨X⟩,k⟩ G hi ⟨a,b,rfl⟩;let#[v,O]:=ġ.mp hi;have Q:C[i]?=À X:=by
   rw[Î] at v;cases e:C[i]? with
   |none=>rw[e] at v;cases v
   |some Y=>rw[e] at v;cases v;rfl
  let#[x,rfl,J,hb]:=(hX i k X O Q).e;rfl';rw[show ae.t (Dc.mk<|us.zipIdx.map 1e3)=cO .f `aD from rfl];show#[Â,rfl,?_];rfl';have U:(((us.zipIdx.map 1e3).map 1e1).map λp=>j4 p.1)=↥us:=by
   rw[ð,ð];change us.zipIdx.map (λp=>Tr.str p.1)=_;rw[<- YW]
  change lY Â (.ah .o<|(((us.zipIdx.map 1e3).map 1e1).map λp=>j4 p.1)) _ _;rw[U];show .inr #[Â,JU<|IB us,?_,?_,?_]
  .rw[dep,Hu];decide
  .rw[dep];omega
  rfl';rw[ð,ð];show aY.map us.zipIdx _ (λ_=>Â) (by rw[ĭ];omega) (λp mp R u=>?_) ?_
  .have hp:=ę.mp mp;have E:=(Á.mp hp).1;have n0:=Ϙ.mpr<|J.1 p.2 E;change qD 0 (ae.t<|x p.2) _ _;rfl';show#[rfl,x p.2,rfl,λ_=>?_];rfl';rw[show decide (0<=(x p.2).num)=Â from au6 n0];show u
  show#[us.zipIdx.map λ_=>Â,rfl,?_];rw[au4 rfl,xO];rfl';show aY.filter ks ae.t (λy=>!decide (y=k)) (λ_=>Â) ⋯ (λy I A R h1 h2=>?_) ?_
  .rfl';split
   .next z=>
    have z:¬ y=k:=by simpa using z
    show dG _ _ _ (rT H I) ?_;rfl';show#[rfl,.f,w,us,bP rs y,x,inferInstance,rfl,B,⋯,u.o _<|IZ H I,λj hj=>Ï (hb j hj) ⋯,J.2 y (ĝ.mpr #[I,by simpa using z]),λ_=>h1<|by simpa using z]
   .next z=>show h2 (by simpa using z)
  show#[_,rfl,?_];rw[au4 rfl,xO];show#[_,_,rfl]
 .rintro G ⟨a,b,rfl⟩;rfl';show q _
def JV{us:aj}{o:bV}{a s v X:Nat}(h:∀c∈cQ us o,bi c.num<=a/\(c.den:Int) ∣ (X:Int))(d:0<X)(hs:bi (X:Int)<=s)(A:a+s<=3000)(u:0<=o.2.2.2.2/\bi o.2.2.2.2<=v):jW (a+s) s v us o:=by
 let#[l,_,n,y]:=gy (cQ us o) 1 ∎;have g:=y X (ŷ _) λc m=>(h c m).2
 change 0<bo us o at l
 change ∀c∈cQ us o,_ ∣ bo us o at n
 change bo us o ∣ _ at g
 have b:∀c∈cQ us o,bi (dR `ak c)<=a+s:=λc m=>by
  unfold dR;let#[z,j]:=n c m;have e:(0:Int)<(c.den:Int):=Ň.mpr c.den_pos;have r:(bo us o).fdiv (c.den:Int)=z:=by
   have:=Ę (a:=(c.den:Int)) z<|æ e;rwa[<- j] at this
  rw[r];have q:z ∣ (X:Int):=Š (by rw[j];show ϣ _ _) g;have:=kf q d;have:=dZ c.num z;have:=(h c m).1;omega
 show#[#[#[X,d,λc m=>(h c m).2,⋯],λc m=>?_],l,Ï (kf g d) hs,λx m=>?_,b _<|É.mpr<|.inr<|.head _,u]
 .have b1:=(h c m).1;have i:=kf (h c m).2 d;unfold bs;unfold bi at b1 i;rw[Ć] at i;have:bi (X:Int)=bl (X:Int).natAbs:=rfl;show Nat.max_le.mpr #[⋯,⋯]
 .obtain⟨c,mc,rfl⟩:=á.mp m;show b c<|É.mpr<|.inl mc
def d6{n:Nat}(a:0<n)(h:n<=3):(n:Int) ∣ ((6:Nat):Int):=by
 rcases (by omega:n=1\/n=2\/n=3) with rfl |rfl |rfl<;>decide
def R9.z1{w:Int}{us:aj}{o:bV}(h:R9 w us o)(d:w≠2):jW (5+3) 3 3 us o:=by
 show JV (X:=6) (λc m=>?_) ∎ (by walk_at "k") ∎ #[by have:=h.w;omega,gk (by have:=h.w;omega)];rcases É.mp m with m |m
 .obtain⟨u,_,rfl⟩:=á.mp m;rcases fQ (m:=o.1) (u:=u) with e |⟨p,g,e⟩
  .rw[e];show#[ľ _,ŷ _]
  .obtain⟨_,a,b,_⟩:=h.p p g;rw[e];show#[gk ⋯,d6 p.2.den_pos b]
 .obtain⟨a,b⟩:=h.n.1 d;rw[å.mp m];show#[gk ⋯,d6 o.2.2.1.den_pos b]
def R9.z2{us:aj}{o:bV}(h:R9 2 us o):jW (37+17) 17 3 us o:=by
 let#[a,b]:=h.n.2 rfl;show JV (X:=o.2.2.1.den) (λc m=>?_) o.2.2.1.den_pos (gk (by rw[Ć];omega)) ∎ #[by have:=h.w;omega,gk (by have:=h.w;omega)];rcases É.mp m with m |m
 .obtain⟨u,_,rfl⟩:=á.mp m;rcases fQ (m:=o.1) (u:=u) with e |⟨p,d,e⟩
  .rw[e];show#[ľ _,ŷ _]
  .obtain⟨_,a,b,c⟩:=h.p p d;rw[e,c rfl];show#[gk ⋯,ŷ _]
 .rw[å.mp m];show#[gk ⋯,Int.dvd_refl _]
abbrev nH(w:Int):Nat:=if w=3 then 12 else if w=2 then 6 else 8
abbrev qy(w:Int):Nat:=if w=3 then 6 else 3
def LJ{w:Int}{us:aj}{rs:av}(nd:us.Nodup)(ul:↑us<=qy w)(h:∀o∈rs,R9 w us o)(a:↑rs<=nH w):∃N zz e s,sJ N zz e s w us rs:=by
 unfold qy at ul;unfold nH at a;by_cases b:w=2
 .subst b;rw[au3 ∎] at ul;rw[au3 ∎,au4 rfl] at a;show#[6,458,_,_,nd,⋯,h,λo m=>(h o m).z2,KN (λo m=>(h o m).z2) ∎ ⋯ ∎ ∎ ∎,a,∎,⋯,∎,∎]
 .have u6:↑us<=6:=by split at ul<;>omega
  have d:↑rs<=12:=by split at a<;>omega
  show#[12,187,_,_,nd,u6,h,λo m=>(h o m).z1 b,KN (λo m=>(h o m).z1 b) ∎ ⋯ ∎ ∎ ∎,d,∎,⋯,∎,∎]
def U4(rs:av):mH rs `eJ=cH rs:=by
 unfold mH kc;rw[List.filter_map];show Eq.trans (au9 _<|ag4 λk mk=>?_)<|Gs<|Ĩ<|cH rs;change decide ((bP rs (k:Int)).2.2.2.1=0)=(decide ((k:Int)∈cH rs)&&decide ((bP rs (k:Int)).2.2.2.1=0));have b:=ħ.mp mk;have a:rs[k]?=À (bP rs (k:Int)):=by unfold bP;rw[Č,Ç,Ð b];rfl
 by_cases e:(bP rs (k:Int)).2.2.2.1=0
 .rw[au6 e,au6<|Jb a e];rfl
 .rw[au7 e,aj8]
def kW.fz{z:Nat}{rs:av}{us:aj}{X:List (Str×Rat)}(h:kW z rs us X)(g:∀o∈rs,0<o.2.2.2.2):Fz rs us `cd:=by
 let#[x,_,a,b]:=h.e;show#[x,λk d=>(a k d).1,λk mk=>b _ (iw mk).2.2.1 #[(iw mk).2.2.2,g _ (iw mk).2.2.1]]
inductive lG(xs:af)(Q:Tr->aB):Prop
 |mk(_:↑xs=3)(f g:Fl)(N zz e s:Nat)(w n:Int)(u0:Str)(us:aj)(rs:av)(_:Fp f)(_:Fp g)(_:xs=[.ah f ↥rs,.ah g ((u0::us).map ae.t),.int n])(_:sJ N zz e s w (u0::us) rs)(_:∀d,l0 zz rs (u0::us) (cH rs) d->∀j,Q (.aJ [.aM,.aJ [.ah .f ((d.map (·.1)).map ae.t),.ah .f ((d.map (·.2)).map ae.t)]]) j)(_:∀X,kW zz rs (u0::us) X->∀j,Q (.aJ [cO .f X,.aM]) j):lG xs Q
def FO:aG P w K mg base bJ 12 T.sL.a T.sL.d ["_law_rows","_law_some","_law_which"] (bU K Â 0 3 lG):=by
 show cu T.sL.F vU rfl ∎ λbK A outer s H E O Q u=>?_
 show#[_,(aK (bM 3 jz)
  (aK (bM 4 jz)
  (aK (XE (i:=5) (pe1:=λq=>p2 gM (tI q _ _) _) (pe2:=λq=>p2 gM (tI q _ _) _) rfl rfl rfl T.CV vU.nd ∎ rfl rfl (T8 (i:=3) ∎) (λpn xe I h=>uD (i:=3) vU.nd rfl (ϛ rfl) h) (λpn xe I h=>uD (i:=3) vU.nd rfl (ϛ rfl) h) (λpn xe R=>`dI) (λpn xe R C q=>(a7 (mI T.vz (YU T)<|ak (iE (iC rfl) ir T.fA<|ak (qv 0) aA)<|ak (iE (iC rfl) ir T.fA<|ak (qv 1) aA) aA) aD)) (λpn xe R C q=>(a7 (mI T.vB (UZ T)<|ak (iE (iC rfl) ir T.fA<|ak (qv 0) aA)<|ak (iE (iC rfl) ir T.fA<|ak (qv 1) aA)<|ak (gn<|ak (Jv (HY (a7 (qv 1) aD) (gn<|ak aD<|ak aD aA) Ju) (hp:=ab9 rfl))<|ak (gn<|ak aD<|ak aD aA) aA) aA) aD)) (λv=>(aV<|bM 4<|gn<|ak (K6 K<|qv 5)<|ak (K6 K<|qv 5) aA)))
  (aV<|bI<|gn<|ak (qv 3)<|ak (qv 4) aA)))),?_]
 intro xs M _ zy;let#[_,f,g,N,zz,e,s',w,n,r,us,rs,_,_,rfl,x,D,G]:=zy;have B:=x.ul;have z:∀o∈rs,0<o.2.2.2.2:=λo m=>(x.o o m).w.1
 show fP (λj=>j=[.ah f ↥rs,.ah g<|(r::us).map ae.t,.int n,.aM,.aq,.aq]) (λN u=>by rfl';show u _ rfl) ?_;rintro _ rfl;show fP (λj=>j=[.ah f ↥rs,.ah g<|(r::us).map ae.t,.int n,.aM,.aM,.aq]) (λN u=>by rfl';show u _ rfl) ?_;rintro _ rfl;show fP (λj=>(∃d,j=[.ah f ↥rs,.ah g<|(r::us).map ae.t,.int n,.aM,.aJ [.ah .f ((d.map (·.1)).map ae.t),.ah .f ((d.map (·.2)).map ae.t)],.aq]/\l0 zz rs (r::us) `cd d)\/∃X,j=[.ah f ↥rs,.ah g<|(r::us).map ae.t,.int n,cO .f X,.aM,.aq]/\kW zz rs (r::us) X) (λJ u=>?_) ?_
 .rfl';split
  .show#[rfl,.f,.f,rs,r::us,N,zz,inferInstance,inferInstance,rfl,x.b,x.nd,x.l,⋯,x.h,z,λd hd=>?_,λX Y b y _=>?_]
   .rw[U4] at hd;show#[T.CW,T.abJ,rfl,_,rfl,yd T.vM T.yt T.ky.t,_,rfl,yd T.vM T.yu T.ky.t,?_];show#[by change (cj _&&(cj _&&Â))=Â;rw[fq,fq];rfl,u _<|.inl #[d,rfl,hd]]
   .have ck:=cq _<|lj X;show#[ck.t,?_];rw[show Pu.aE (.aT .o<|X.map 1e1)=cO .f X by change Tr.aT .f (dH _)=_;rw[ck.f];rfl];show u _<|.inr #[X,rfl,y]
  .unfold rn;rfl';unfold rn;show#[by simp,rfl,.f,.f,.f,rs,r::us,[(r,1)],0,N,zz,inferInstance,inferInstance,inferInstance,rfl,x.b,⋯,x.nd,x.l,z,JO r,λd hd=>?_,λX U y _=>?_]
   .show#[T.CW,T.abJ,rfl,_,rfl,yd T.vM T.yt T.ky.t,_,rfl,yd T.vM T.yu T.ky.t,?_];show#[by change (cj _&&(cj _&&Â))=Â;rw[fq,fq];rfl,u _<|.inl #[d,rfl,hd]]
   .have ck:=cq _<|lj X;show#[ck.t,?_];rw[show Pu.aE (.aT .o<|X.map 1e1)=cO .f X by change Tr.aT .f (dH _)=_;rw[ck.f];rfl];show u _<|.inr #[X,rfl,y]
 rintro _ (⟨d,rfl,hd⟩ |⟨X,rfl,y⟩)
 .rfl';show D d hd _
 .rfl';show G X y _
def aY.mem{G j:Type}(h:j->Tr)(n:j->Prop)(ys:List G)(g:G->Tr){pg:eW}{u:a6}{r:af}{Q:ay}(C:↑ys<=1000)(step:∀y∈ys,∀R:ay,(∀b,n b->R (h b))->pg (g y) r λA=>u A R)(q:∀d:List j,d.length=↑ys->(∀z∈d,n z)->Q (.ah .o<|d.map h)):aY `cm pg tX u r Q:=by
 show#[λi a=>∃d:List j,a=d.map h/\↑d=i/\∀z∈d,n z,#[[],rfl,rfl,λ_ m=>(nomatch m)],λi t a e h=>?_,λa h=>?_]
 .obtain⟨rs,rfl,e1,e2⟩:=h;rw[Î] at e;cases e':ys[i]? with
  |none=>rw[e'] at e;cases e
  |some y=>
   rw[e'] at e;cases e;have l:=(Á.mp e').1;show step y (Ì e') _ λo v=>#[by rw[Æ];omega,rs++[o],by rw[ß];rfl,by rw[Ö,e1];rfl,λx B=>?_]
   rcases É.mp B with z |z
   .show e2 x z
   .rw[å.mp z];show v
 .obtain⟨rs,rfl,e1,e2⟩:=h;rw[Æ] at e1 ⊢;show#[⋯,q rs e1 e2]
abbrev yA(K:ar):Sp:=λvs H Q _=>∃(a:ai)(ns:aC),vs=[.ref a]/\bH K H a `aI/\↑ns<=63/\∀b,Q `ce b
inductive lH(xs:af)(Q:Tr->aB):Prop
 |mk(_:↑xs=1)(ns:aC)(_:xs=[.ah (.l Å) ↥ns])(_:↑ns<=63)(_:∀j,Q (.bl Â) j):lH xs Q
def eP{K:ar}{F:Hp}{B:Bool->Hp}:∀ns:aC,Rs K F B ↥ns `aI []
 |[]=>#[rfl,rfl]
 |n::ns=>#[_,_,[],[],rfl,rfl,#[rfl,rfl],eP ns]
def LK{K:ar}(vs:az)(H:Hp)(Q:VK)(E:XK)(h:yA K vs H Q E):bU K Â 0 1 lH vs H Q E:=by
 let#[a,ns,rfl,b,d,k]:=h;show#[rfl,λ_=>Ä,H,[.ah `bd ↥ns],λ_=>[],λt _=>t=.bl Â,λ_=>False,#[?_,(λ_ _ _ _ z=>by cases z),rfl,?_,(λ_=>.nil),(λ_ _ m=>nomatch m),(λ_ _ _ _ m=>nomatch m),(λi h=>au5 h<|aj0 i),λ_ _ _ _ z=>z.elim],#[rfl,ns,rfl,d,λ_=>rfl],?_]
 .show Gr.aO (λ_ _ z=>by cases z)
 .intro i t e;cases i with
  |zero=>cases e;show .inr #[.ref a,rfl,rfl,a,_,rfl,b,eP ns]
  |succ i=>cases e
 .intro F' H' j' g' cs' v t c _ r _ _ _ _ e;subst e;rw[r.1];show k _
def YX(d:aC)(a b:Nat)(h:a<=b):(iY d (À (a:Int))<|À (b:Int)).length<=b - a:=by
 unfold iY;rw[Ī];unfold HT.d7;dsimp only;rw[au3 ⋯,au3 ⋯];omega
def LL{w:Int}(h:Way w){Q:ay}(q:Q (.int ((nH w+1:Nat):Int))):oQ (c8 [Tr.int 9,.int 9,.int 7,.int 13] w) Q:=by
 rcases h with rfl |rfl |rfl |rfl<;>show q
def LM{w a:Int}(h:Way w){Q:ay}(d:w=3->Q (.int 6))(b:w≠3->Q (.int a)):oQ (c8 [Tr.int a,.int a,.int a,.int 6] w) Q:=by
 rcases h with rfl |rfl |rfl |rfl
 .show b ∎
 .show b ∎
 .show b ∎
 .show d rfl
abbrev ud(d:List (Int×Rat)):Tr:=.aJ [.ah .f ((d.map (·.1)).map ae.t),.ah .f ((d.map (·.2)).map ae.t)]
abbrev nM(zz:Nat)(rs:av)(us:aj)(a b:Tr):Prop:=(∃d,a=.aM/\b=.aJ [.ah .f ((d.map (·.1)).map ae.t),.ah .f ((d.map (·.2)).map ae.t)]/\l0 zz rs us `cd d)\/∃X,a=cO .f X/\b=.aM/\kW zz rs us X
def nM.f{zz:Nat}{rs:av}{us:aj}{a b:Tr}(h:nM zz rs us a b):bX (.aJ [a,b])=Â/\Pu.aE (.aJ [a,b])=.aJ [a,b]:=by
 rcases h with⟨d,rfl,rfl,_⟩ |⟨X,rfl,rfl,_⟩
 .show⟨by change (Â&&((cj _&&(cj _&&Â))&&Â))=Â;rw[fq,fq];rfl,rfl⟩
 .have ck:=cq _<|lj X;show#[by change (iL (X.map 1e1)&&(Â&&Â))=Â;rw[ck.t];rfl,rfl]
def YY:aG P w K mg base bJ 60 T.nQ.a T.nQ.d ["_law_script"] (bU K Â 0 1 lH):=by
 show cu T.nQ.F z'u rfl ∎ λbK A outer s H E hr hu v=>?_
 show#[_,(aK (bM 1<|qc T.vG (ON T)<|ak (qv 0)<|ak aD aA)
  (aK (bM 2<|a7 (eZ<|ak aD<|ak aD<|ak aD<|ak aD<|ak aD<|ak aD aA)<|fW (qc T.jw (lh T)<|ak (qv 1)<|ak aD aA) aD)
  (aK (bM 3<|sr (eZ<|ak gm<|ak gm<|ak gm<|ak gm<|ak gm<|ak gm aA) uV<|qq<|a7 (eZ<|ak (d8 aD<|fW (qv 1) aD)<|ak (d8 aD<|fW (qv 1) aD)<|ak (d8 aD<|fW (qv 1) aD)<|ak aD aA)<|qv 2)
  (aK (mY 4 ["_law_cell","_law_some","_law_way"] [Ä,À 3,À 2] (dY<|sr (qv 0) (qq aD)<|qq<|a7 (eZ<|ak aD<|ak aD<|ak aD<|ak aD aA)<|qv 2) (c7 0) (λ_ _ _ _ _=>(qc T.vH (Rv T)<|ak (qv 0)<|ak (qv 1)<|ak (qv 2) aA)))
  (aK (xJ (qc T.sL (FO T)<|ak (qv 4)<|ak (qv 3)<|ak aD aA)<|gO (n:=2) rfl<|dz (cD 5)<|dz (cD 6) gL)
  (aK (xJ (qc T.sL (FO T)<|ak (qv 4)<|ak (qv 3)<|ak aD aA)<|gO (n:=2) rfl<|dz (cD 7)<|dz (cD 8) gL)
  (aK (cB (b7 iB iu (fL rP rQ (qv 6) jz)<|fL rP rQ (qv 8) jz) (aV<|bI ft) cA)
  (aK (cB (b7 rP rQ (qv 6) jz) (aK (fk (dY<|eZ<|ak (qv 5)<|ak (qv 7) aA) (cD 9) (aK (cB (ib<|fE<|dN (wM rfl) xb T.vN<|ak (gg ["_law_must","_law_placing"] [Ä,À 9] (dY<|qv 4) (c7 0) (λ_ _ _ _ _=>(qc T.sR (FV T)<|ak (qv 0)<|ak (qv 1) aA)) (ht:=λ_ _ _ _ _=>(pR<|b7 eI eG (a7 (qv 0) aD) aD))) aA) (aV<|bI ft) cA)
  (aV<|cB (fE<|dN (GP rfl) HW T.CY<|ak (Iy ["_law_number"] [Ä] (qv 9) (c7 0) (λ_ _ _ _ _=>(fL kH kD (a7 (qv 0) aD) aD))) aA) (aV<|bI ft) cA)))
  (aV<|bI ft)) cA)
  (aK (fk (dY<|eZ<|ak (qv 6)<|ak (qv 8) aA) (cD 10)<|aV<|cB (QW.t<|jA (ib<|fE<|qc T.vJ (O0 T)<|ak (qv 4)<|ak (qv 3)<|ak (a7 (qv 10) aD)<|ak (a7 (qv 10) aD) aA)<|kd<|ib<|fE<|qc T.vK (OJ T)<|ak (qv 4)<|ak (qv 3)<|ak (a7 (qv 10) aD) aA) (aV<|bI ft) cA)
  (aV<|bI ft)))))))))),?_]
 intro xs Q' _ zy;let#[_,g,rfl,δ,q]:=zy;show fP (λj=>∃c:Int,j=[.ah `bd ↥g,.int c,.aq,.aq,.aq,.aq,.aq,.aq,.aq,.aq,.aq]) (λN v=>?_) ?_
 .rfl';show#[rfl,_,g,0,inferInstance,rfl,∎,λc j=>#[rfl,v _ #[c,rfl]]]
 rintro _ ⟨c,rfl⟩;show fP (λj=>∃w:Int,j=[.ah `bd ↥g,.int c,.int w,.aq,.aq,.aq,.aq,.aq,.aq,.aq,.aq]/\Way w) (λN v=>?_) ?_
 .rfl';show#[rfl,c,_,rfl,∎,∎,λr1 _=>?_];rfl';show#[∎,wZ (ns:=[0,1,2,0,1,3]) (Ď _ ∎) (ÿ _ ∎) λw O=>#[rfl,v _ #[w,rfl,?_]]];have A:∀n:Int,n∈[(0:Int),1,2,0,1,3]->n=0\/n=1\/n=2\/n=3:=∎
  show A w O
 rintro _ ⟨w,rfl,O⟩;show fP (λj=>∃(u:Str)(us:aj),j=[.ah `bd ↥g,.int c,.int w,.ah .f<|(u::us).map ae.t,.aq,.aq,.aq,.aq,.aq,.aq,.aq]/\(u::us).Nodup/\(u::us).length<=qy w) (λN v=>?_) ?_
 .have m0:=Ď c (show (3:Int)≠0 by decide);have m1:=ÿ c (show (0:Int)<3 by decide);rfl';show#[∎,∎,∎,LM O (λe=>#[rfl,v _ #["left b",["left a","c","gap d","e","f"],rfl,∎,by unfold qy;rw[au4 e];decide]]) λe=>?_];have l3:∀us:aj,us.length<=3->↑us<=qy w:=λus h=>by unfold qy;rw[au3 e];show h
  rcases (by omega:c % 3=0\/c % 3=1\/c % 3=2) with z |z |z<;>rw[z]
  .show⟨rfl,v _ ⟨"left b",[],rfl,∎,l3 _ ∎⟩⟩
  .show⟨rfl,v _ ⟨"left b",["left a"],rfl,∎,l3 _ ∎⟩⟩
  .show⟨rfl,v _ ⟨"left b",["left a","c"],rfl,∎,l3 _ ∎⟩⟩
 intro _ zy;let#[u,us,rfl,nd,D]:=zy;have β:(u::us).length<=6:=by unfold qy at D;split at D<;>omega
 show fP (λj=>∃rs:av,j=[.ah `bd ↥g,.int c,.int w,.ah .f<|(u::us).map ae.t,.ah .f ↥rs,.aq,.aq,.aq,.aq,.aq,.aq]/\↑rs<=nH w/\∀o∈rs,R9 w (u::us) o) (λN v=>?_) ?_
 .rfl';show LL O ?_;have γ:(iY g (À 1)<|À ((nH w+1:Nat):Int)).length<=nH w:=YX g 1 (nH w+1) ⋯;have hm:nH w<=12:=by unfold nH;split<;>(try split)<;>decide
  rfl';show aY.mem ae.t (R9 w (u::us)) _ _ ⋯ (λx mx R hq=>?_) λrs hl ok=>?_
  .rfl';show#[rfl,.f,_,w,u::us,inferInstance,rfl,O,nd,⋯,λo r _=>hq o r]
  rw[eH];show#[fq _,v _ #[rs,rfl,⋯,ok]]
 intro _ zy;let#[rs,rfl,M,h9]:=zy;let#[N,zz,e,s',B]:=LJ nd D h9 M;have U:∀o∈rs,0<o.2.2.2.2:=λo m=>(h9 o m).w.1
 have no:∀d X,l0 zz rs (u::us) `cd d->kW zz rs (u::us) X->False:=λd X hd C=>hd.s.c.no hd.s.k<|C.fz U
 show fP (λj=>∃a b:Tr,j=[.ah (.l Å) ↥g,.int c,.int w,.ah .f<|(u::us).map ae.t,.ah .f ↥rs,a,b,.aq,.aq,.aq,.aq]/\nM zz rs (u::us) a b) (λN' v=>?_) ?_
 .rfl';show#[rfl,.f,.f,N,zz,e,s',w,0,u,us,rs,inferInstance,inferInstance,rfl,B,λd hd _=>?_,λX C _=>?_]
  .have h:nM zz rs (u::us) _ _:=.inl #[d,rfl,rfl,hd];show#[h.f.1,?_];rw[h.f.2];show#[rfl,v _ #[_,_,rfl,h]]
  .have h:nM zz rs (u::us) _ _:=.inr #[X,rfl,rfl,C];show#[h.f.1,?_];rw[h.f.2];show#[rfl,v _ #[_,_,rfl,h]]
 intro _ zy;let#[a,b,rfl,h1]:=zy;show fP (λj=>∃a2 b2:Tr,j=[.ah `bd ↥g,.int c,.int w,.ah .f<|(u::us).map ae.t,.ah .f ↥rs,a,b,a2,b2,.aq,.aq]/\nM zz rs (u::us) a2 b2) (λN' v=>?_) ?_
 .have hb:a≠.aq/\b≠.aq:=by
   rcases h1 with⟨d,rfl,rfl,hd⟩ |⟨X,rfl,rfl,C⟩
   .show⟨nofun,nofun⟩
   .show⟨nofun,nofun⟩
  rfl';show#[rfl,.f,.f,N,zz,e,s',w,1,u,us,rs,inferInstance,inferInstance,rfl,B,λd hd _=>?_,λX C _=>?_]
  .have h:nM zz rs (u::us) _ _:=.inl #[d,rfl,rfl,hd];show#[h.f.1,?_];rw[h.f.2];show#[rfl,v _ #[_,_,rfl,h]]
  .have h:nM zz rs (u::us) _ _:=.inr #[X,rfl,rfl,C];show#[h.f.1,?_];rw[h.f.2];show#[rfl,v _ #[_,_,rfl,h]]
 intro _ zy;let#[a2,b2,rfl,h2]:=zy;rcases h1 with⟨d,rfl,rfl,hd⟩ |⟨X,rfl,rfl,C⟩<;>rcases h2 with⟨d2,rfl,rfl,J⟩ |⟨X2,rfl,rfl,I⟩
 .rfl';simp only[show ∀(l:af)(Q:ay),mr Å (Tr.aJ l) .aM Q=Q `bw from λ_ _=>rfl];rfl';show#[by change ((cj _&&(cj _&&Â))&&((cj _&&(cj _&&Â))&&Â))=Â;rw[fq,fq,fq,fq];rfl,Loop.map [d,d2] ud (λ_ j=>∃x:Tr,j=[.ah `bd ↥g,.int c,.int w,.ah .f<|(u::us).map ae.t,.ah .f ↥rs,.aM,.aJ [.ah .f ((d.map (·.1)).map ae.t),.ah .f ((d.map (·.2)).map ae.t)],.aM,.aJ [.ah .f ((d2.map (·.1)).map ae.t),.ah .f ((d2.map (·.2)).map ae.t)],.aq,x]) #[_,rfl] ?_ ?_]
  .rintro i d0 j hi ⟨x,rfl⟩;have G:l0 zz rs (u::us) `cd d0:=by
    rcases ä.mp (Ì hi) with rfl |m
    .show hd
    .rw[å.mp m];show J
   unfold ud;rfl';show#[rfl,.f,.f,N,zz,e,s',w,u::us,rs,d0,inferInstance,inferInstance,rfl,B,G.s,λ_=>?_];rfl';show#[rfl,.f,.f,.f,N,zz,e,s',w,u::us,rs,d0.map (·.1),inferInstance,inferInstance,inferInstance,rfl,B,G.s.l,G.m,λ_=>#[_,rfl]]
  .rintro j ⟨x,rfl⟩;rfl';show q _
 .show (no d X2 hd I).elim
 .show (no d2 X J C).elim
 .rfl';simp only[show ∀Q:ay,mr Å .aM .aM Q=Q `ce from λ_=>rfl];rfl';have Y:∀X:List (Str×Rat),bX `dD=Â:=λX=>(cq _<|lj X).t
  show#[by change (bX `dD&&(bX (cO .f X2)&&Â))=Â;rw[Y,Y];rfl,Loop.map [X,X2] (cO .f) (λ_ j=>∃x:Tr,j=[.ah `bd ↥g,.int c,.int w,.ah .f<|(u::us).map ae.t,.ah .f ↥rs,cO .f X,.aM,cO .f X2,.aM,x,.aq]) #[_,rfl] ?_ ?_]
  .rintro i X0 j hi ⟨x,rfl⟩;have G:kW zz rs (u::us) X0:=by
    rcases ä.mp (Ì hi) with rfl |m
    .show C
    .rw[å.mp m];show I
   let#[y,rfl,h3,h4]:=G.e;have ε:=B.zl;have M:=B.l;have α:=B.n;rfl';show aY.filter rs ae.t (λo=>decide<|o.2.2.2.1=0) (λ_=>Â) ⋯ (λo mo A R h1 h2=>?_) ?_
   .rfl';split
    .next z=>show#[rfl,.f,w,u::us,o,y,inferInstance,rfl,nd,⋯,h9 o mo,λk hk=>Ï (h3 k hk).2 ⋯,h4 o mo #[au8 z,U o mo],λ_=>h1 z]
    .next z=>show h2 (by simpa using z)
   show#[_,rfl,?_];rw[au4 rfl,xO];rfl';rw[ð,ð];show aY.map (u::us).zipIdx _ (λ_=>Å) (by rw[ĭ];omega) (λp mp R B=>?_) ?_
   .have hp:=ę.mp mp;have n0:=Ϙ.mpr (h3 p.2 (Á.mp hp).1).1;change qD 0 (ae.t<|y p.2) _ _;rfl';rw[show decide ((y p.2).num<0)=Å from au7 ⋯];show B
   show#[_,rfl,?_];rw[au3 ∎,show ((u::us).zipIdx.map λ_=>Å).any id=Å by rw[an3];show at3.mpr λ_ _=>by simp];show#[_,rfl]
  .rintro j ⟨x,rfl⟩;rfl';show q _
def LN:aG P w K mg base bJ 60 T.nQ.a T.nQ.d ["_law_script"] (yA K):=(YY T).imp LK
end
def walk{l:ap2}{q:é}{b:aj}{y:(bx)->aU->Prop}{r:ü->aU->Prop}{d:DefRec}{K:Params->ar}(hn:l.most=À 63)(i:d.params.defaults=[])(o:d.name="law")(B:∀(w:ü)(h:aU),r w h->(K w.params).In h)(F:∀(w:ü)(mg:bx)(h:aU),(K w.params).In h->h.Ns ř mg->Nonempty (Tx w `dp mg)):
  W.WalkO q b y r l.row.toRowW d [] (λf vs=>PySem.call f vs):=by
 show L2.nK (n:=63) (k:=60) (x:="_law_script") (CX:=λ_=>bJ) (sp:=λw=>yA<|K w.params) hn ∎ i #[rfl,∎,∎] B ?_ (λ_ _ a ns D _ A=>#[a,ns,rfl,A,D,λ_=>rfl]) λ_ _ _ _ _ z=>z
 intro w mg E h u G g;let#[T]:=F w mg h u G;rw[o] at g;have e:=g.symm.trans T.nQ.m;cases e;show#[T.nQ.d,λs v=>?_,λbase _ _=>LN T];let#[oc,od,kV,doc,pm,an,bK,ct,osl,j,H,C]:=T.nQ.F.ex;rw[j];show .of_eq rfl
end Sf
local macro_rules|`(command|#where)=>return Lean.mkNullNode (←(("heap_39 view_39 sts_267 sts_532 sts_612 sts_457 sts_187 tree_642 tree_611 heap_643 tree_531 sts_145 sts_94 tree_375 tree_453 tree_266 tree_186 tree_144 tree_93 sts_49 tree_78 sts_79 tree_63 sts_64 heap_46 tree_47 env_41".splitOn " ")++("12132111211111111211112111111121111211111112111121121111111111121111121111121111121111122111112111112111112111112111112111211121121112111211111211111211111211111211121111121111121111111111112111211211121111121111121111121112111112111211121111121111121111121112111112111211111111111211121121112111112111112111112111211111211121112111112111112111114221111121112111211112111112111211111211111211121112111112111112211121112111112111112111112111112111112111112111112111211111211111221111121112111211111211".toList.foldl (λ(n,l) c=>(n+c.toNat-48,s!"o_{n+c.toNat-48}"::l)) (42,[])).2).toArray.mapM λk=>do return (←`(command|theorem $(Lean.mkIdent (`_root_.PySem.W.Fast++.mkSimple s!"tw{(`PySem.Challenge.cw_springframe_k93_whole_clashes_holds++.mkSimple k).hash}")):ident:True:=trivial)).raw)
#where
theorem _root_.PySem.W.Fast.tw737103157771163864:True:=trivial
theorem _root_.PySem.W.Fast.tw5496385240987789509:True:=trivial
open PySem PySem.W PyProof.Rows
local macro_rules |`(tactic|walk_at "b")=>`(tactic|first |show λ_ _ _ _ _ _=>Pu.Ik λ_=>rfl |show λ_ _ _ _ _ _=>Pu.ln2 λ_ _=>rfl |show λ_ _ _ _ _ _=>Pu.Il λ_ _ _=>rfl |show λ_ _ _ _ _ _=>Pu.PM λ_ _ _ _=>rfl)
set_option maxRecDepth 100000 in
set_option maxHeartbeats 0 in
theorem PySem.Challenge.cw_springframe_k93_whole_clashes_holds : PySem.Challenge.rw_springframe_k93_whole_clashes.Holds := by
 w_on;o_law;k_head;(case hw=>w_witness2)
 k_fill
 show Sf.walk (l:=PySem.Challenge.rw_springframe_k93_whole_clashes) rfl rfl rfl (λw h Y=>PySem.W.kIn_of Y) ?F
 case F=>
  intro w mg h KX G;show#[?_];apply Sf.Tx.mk
  all_goals first |show Pu.Nu KX G (by k_is) (L2.nD (by k_is) (by k_is)<|by k_is) (by walk_at "b") |show Pu.Nw (by k_is) (L2.nD (by k_is) (by k_is)<|by k_is) (by k_is) (by walk_at "b") |show Pu.Nv (by k_is) (L2.nD (by k_is) (by k_is)<|by k_is) (by k_is) (by k_is) (by k_is) (by walk_at "b") |show mg_of KX G (by k_is) |show mg_none_of KX G (by k_is) |show Pu.BP (by k_is) |show L2.g8.mk (by k_is) (by k_is) (by k_is) (by k_is) |show Pu.zV (by k_is) (L2.nD (by k_is) (by k_is)<|by k_is) (by k_is) (by rfl) (by rfl) (by rfl) (by rfl) (by k_exc) (by k_is) (by rfl) (by rfl) (by k_is) (by k_is) (by rfl) (by rfl) (by k_is) (by k_is) (by k_is) (by k_is) (by k_is) (by k_is) (by walk_at "b") |show L2.i8.mk (by k_is) (by k_is) (by k_is) (by k_is) (by k_is) |show#[_,_,_,by k_is,rfl,rfl,ab9 rfl,by repeat first |show .nil |show .cons #[_,rfl] ?_] |k_is |kit_is |k_exc |kts_exm
#print axioms PySem.Challenge.cw_springframe_k93_whole_clashes_holds
