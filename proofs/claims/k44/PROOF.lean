import PyProof.Rows.All
import Wide.All
import OpenK.AllK
import Wide.FinOn
import Lean
import PyProof.EqAt
import PyProof.EqKinds
import PyProof.TupleCall
import PySem.Challenge.RW_springframe_k44_whole_musts_that_are_kep
set_option Elab.async false
set_option linter.all false
set_option maxRecDepth 100000
set_option maxHeartbeats 4000000
open Option renaming some->À, none->È, map_some->ŏ, isSome_iff_exists->Ŭ, ne_none_iff_exists'->ϵ, getD_some->Zp, isSome_map->Z3, map_eq_some_iff->ag3, getD_none->an2
open List renaming getElem?_eq_some_iff->Á, getD_eq_getElem?_getD->Ã, length_map->Å, mem_append->Æ, range->Ç, getElem?_map->Ê, getElem?_eq_getElem->Ì, mem_of_getElem?->Î, length_append->Ò, replicate->Ó, length_range->Õ, length_cons->Ú, map_append->Û, mem_map->ß, getElem?_eq_none->à, length_replicate->á, size_toArray->ã, mem_singleton->ä, mem_cons->æ, getElem?_append_right->ç, getElem?_range->ê, map_cons->ë, getElem?_append_left->î, append_assoc->ô, length_take->û, map_map->þ, mem_append_right->ÿ, append_nil->Ą, getElem?_set_ne->ć, getElem?_set_self->Ĉ, lookup_cons->ċ, map_congr_left->č, length_set->ď, length_zip->Đ, take_add_one->đ, nodup_cons->ē, take_length->Ĕ, ext_getElem?->ė, getElem?_take_of_lt->ě, getElem?_of_mem->ĝ, mem_cons_of_mem->Ğ, of_mem_zip->Ġ, append_eq_nil_iff->ģ, mem_range->ī, getElem?_zipIdx->į, length->İ, nodup_append->Ĵ, length_filter_le->Ĺ, getElem?_zip_eq_some->Ļ, find?_cons->Ł, lookup->ł, mem_map_of_mem->Ŏ, mem_zipIdx_iff_getElem?->œ, length_singleton->ŕ, getElem?_append->ŝ, length_zipIdx->Ş, mem_append_left->ş, mem_of_mem_take->Š, zip_eq_zipWith->ū, any_eq_true->ů, map->Ų, filter_append->Ÿ, getElem?_replicate->Ź, mem_cons_self->ϊ, mem_filterMap->ϋ, length_nil->ϔ, mem_filter->ϕ, cons_append->ϙ, perm_append_comm->Ϝ, any_cons->ϣ, filterMap_cons->ϱ, nil_append->ϲ, zipWith->ϳ, getElem_mem->Ϲ, getElem?_tail->Ε, map_replicate->Ζ, mem_take_iff_getElem->Ν, pairwise_iff_getElem->Ξ, sublist_append_right->Ο, getElem?_set->Τ, reverse_cons->Υ, take_sublist->Φ, eq_of_mem_replicate->Ω, all_cons->Zq, getElem_zip->Zu, map_zipWith->Zv, not_mem_nil->Zw, map_nil->Zz, toArray->ZA, foldl_cons->ZI, getElem?_mapIdx->Z1, range_succ->Z2, length_zipWith->Z9, replicate_succ->aa0, nodup_nil->ab5, ext_getElem->ac7, zipWith_map->ac8, take_zero->ae4, mem_of_find?_eq_some->ae9, idxOf_lt_length_iff->ag1, map_take->ag2, filter_cons_of_neg->ah0, filter_cons_of_pos->ah1, find?_cons_of_neg->ai1, find?_cons_of_pos->ai2, map_set->ai3, getElem?_toArray->aj2, getElem?_zipWith->aj3, lookup_cons_self->aj4, mem_of_mem_tail->ak8, range_eq_range'->ak9, length_reverse->al6, contains_cons->am7, find?_eq_none->am8, getElem_idxOf->am9, getElem_range->an0, length_mapIdx->an1, flatMap_cons->an7, flatten_cons->an8, foldl_append->an9, getElem?_inj->ao0, zipWith_self->ao1
open Bool renaming true->Â, false->É, false_ne_true->â, and_eq_true->í, eq_iff_iff->ų, and_self->ϡ, false_eq_true->Δ, beq_eq_decide_eq->ZN, false_and->Z0, true_and->aa4, and_true->af9, false_or->ag0, or_eq_true_iff->al2, not_eq_true'->an4
open PySem.Heap renaming get?_push_of_some->Ä, lt_size->Ð, get?_push_size->Ø, get?_update_other->ù, get?_update_self->Č, get?_none_of_le->Ń, size_push->ϑ, get?_push_cases->ϭ, SameBut->ZD, get?_update_ne->am0, get?_push_at->ao3
open PySem renaming wpAny_bind->Ë, sizeLine->Ô, wpAny_pure->Ü, wpAny->Ý, model->Þ, Program->ð, compareOp->ú, Stmt->Ā, starEach->Ă, World->ă, wpAny_mono->ą, Around->ĉ, attributeBase->Ė, Expr->ę, wpAny_Call_Name_kw->ġ, FuncData->Ĥ, assignEach->ĥ, sizeLine_eq->Ī, cLine->Ĭ, foldedSetIterable->ĭ, swapsWith->Į, keywordEach->ŗ, mainGlobals->Ř, sysModules->ř, binaryOp->ś, wpAny_passesOwn->Ŝ, wpAny_standAt->Ţ, backTo->ű, codeAny->Ŷ, codeAny_mono->ŷ, wpAny_holding->ώ, tupleKind_room_in1->ϗ, Value->Ϛ, wpAny_getItem_str_slice->ϛ, NameKind->Ϧ, bootBuiltins->ϧ, rawInt->Ϩ, wpAny_loadPart_at->ϩ, wpAny_pyIter_list->Ϫ, wpAny_truthy_bool->ϫ, behindInMarks->ϸ, backToKw->Α, codeAny_call_builtin->Β, sliceBounds->Γ, wpAny_execs_nil->Λ, Scope->Zr, wpAny_call->Zs, Keyword->ZE, excClassObj->ZF, wpAny_pyIter_enum->ZG, swappedStores->ZK, swapsWithSole->ZL, PassesOwn->ZW, standAt->Z5, valueAt->Z6, letOwnedTupleGo->aa1, post_val_or_str->aa2, wpAny_ite_split->aa3, tupleKind->ab8, call_meetsIn->ae1, callerA->ae2, wpAny_newObj_type->ae3, plainObj_wpAny_Assign_Attribute->ae7, ClassData->af0, isTrue->af4, noteFrame->af5, pastItsLine_dict->af6, wpAny_lookBehind->af7, IsRangeIter->ag6, wpAny_field->ag9, wpAny_specialOf->ah5, wpAny_updateSeq->ah6, Builtin->ai6, notedBy->ai9, callWith->ak1, call_meets->ak2, typeLookup->ak3, wpAny_letOwnedTupleGo_enum->ak4, wpAny_loadPart->ak5, wpAny_setField->ak6, assignInOrder->am1, rangeSize_one->am2, wpAny_comprehension_free->am3, wpAny_Call_method0_late->an3, wpAny_pyIter_rangeiter->ao4, wpAny_pyNext_range_end->ao5
open Rat renaming divInt->Í, intCast_mul->è, intCast_pos->ó, divInt_eq_div->ö, add_zero->ü, zero_divInt->Ē, ne_of_gt->ĕ, div_def->Ģ, div_mul_cancel->ĵ, intCast_nonneg->Ķ, mul_inv_cancel->ķ, divInt_mul_divInt->ĸ, not_lt->ņ, mul_nonneg->ŋ, sub_eq_add_neg->ő, zero_add->Œ, intCast_add->Ŕ, divInt_mul_right->Ť, mul_zero->ũ, num_divInt_den->Ż, zero_mul->Ϙ, neg_divInt->Μ, divInt_eq_divInt_iff->Zt, le_of_lt->ZM, intCast_neg->ZQ, le_refl->Z7, mul_pos->Z8, divInt_ofNat->ad3, num_divInt->af8, add_assoc->ah7, intCast_eq_zero_iff->aj0, divInt_add_divInt->al0, mul_lt_mul_right->am4
open Nat renaming le_refl->Ï, le_trans->Ñ, lt_of_lt_of_le->Ö, ne_of_lt->ì, lt_of_le_of_lt->Ď, zero_le->Ĝ, pow_le_pow_right->Ħ, lt_succ_of_lt->ħ, lt_irrefl->ĺ, le_of_lt->ń, mul_le_mul_right->ţ, lt_succ_self->ŧ, ne_of_gt->ϖ, le_add_right->Ϥ, succ_mul->ϥ, add_le_add_left->ϴ, mul_lt_mul_of_pos_right->Ϻ, two_pow_pos->ϻ, mul_le_mul->Ι, not_lt_zero->ZP, le_of_ble_eq_true->ZS, mul_le_mul_left->aa5, add_assoc->aa8, le_of_dvd->aa9, sub_self->ab2, pow_add->ab6, add_comm->ac1, mul_succ->ac2, zero_add->ac3, le_succ->ad4, le_mul_of_pos_right->ai4, add_zero->aj5, add_le_add_right->al7, log2_lt->al8
open Option.some renaming inj->Ù
open PySem.Value renaming ref->å, type->ĳ, none->ŵ, int->ϝ, bool->aa6, str->ac6
open Int renaming ne_of_gt->é, emod_lt_of_pos->õ, emod_nonneg->ā, mul_zero->Ċ, mul_fdiv_cancel_left->Ě, natAbs_natCast->Ĩ, natCast_pos->ĩ, eq_of_mul_eq_mul_left->Ľ, le_of_lt->ľ, toNat_natCast->Ň, dvd_trans->ō, mul_pos->Ŧ, natAbs_neg->ŭ, natCast_mul->Ů, zero_mul->ž, one_dvd->ϐ, mul_nonneg->ϒ, natAbs_mul->ϓ, natAbs_dvd_natAbs->ϟ, mul_comm->Ϣ, mul_ne_zero->ϰ, gcd_dvd_right->Ψ, dvd_mul_left->Zx, sign_eq_one_of_pos->ZH, mul_eq_zero->ZO, mul_assoc->aa7, sub_eq_add_neg->ab1, add_zero->ab9, natAbs_add_le->ac0, mul_le_mul_of_nonneg_right->ad0, one_mul->ad6, eq_of_mul_eq_mul_right->ae8, eq_ofNat_of_zero_le->ah8, natCast_dvd_natCast->ah9, toNat->ai0, gcd_comm->aj1, le_refl->al3, mul_one->al4, natAbs_of_nonneg->al5, ediv_dvd_of_dvd->am5, toNat_of_nonneg->am6, gcd_zero_right->an5, natCast_nonneg->an6
open Sum renaming inl->ï, inr->ñ
open False renaming elim->ò
open PyProof.Rows renaming callWith_type1->ø, envOfC->Ę, AllBare->ZC, assignInOrder_cons->ad2, IntsAre->ai5, subscriptTail->al9, subscriptTail_builtinR->ao2
open True renaming intro->ý
open Ne renaming symm->Ć
open PySem.W renaming findIn->ğ, emptyDict->Ũ, hideAll->Ű, keepIn->ź, hideAll_none->Ϟ, instObj->Ρ, funFrames_hide->ZJ, callWith_K->ZX, excIn->ZY, of_hideAll->ZZ, fnOf->ad9, isFn->ae0, looks_clsIn->ae6, Frag->af2, methodCall_KW->af3, plainGet->ah4, OpenLaw->aj8, hideAll_get->aj9, plainGet_of->ak0
open Classical renaming byContradiction->Ĳ
open PySem.NameKind renaming free->ļ, cell->ZU
open PySem.SeqAt renaming EqAt->Ņ, RcAt->ad8, RcNeAt->ah3
open PySem.Builtin.List renaming listExtendWith->ň, listLengthHint->Ŋ, listSameRef->ab7, listItems->ac9
open PySem.Calls renaming spliced_cons->Ō, callWith_builtin->ό, spliced_nil->ύ, evalArgs_plain->ZT, Name_function_global->ad7
open PySem.Obj renaming mapSeq->Ő, mapFields->Ŗ, data_mapFields->Κ, isFreed_of_fields->ZV
open Array renaming getElem?_eq_some_iff->Ś, length_toList->Ž, getElem?_toList->Ϗ, toArray_toList->Ϡ, getElem?_setIfInBounds_ne->ab4, find?_toList->al1
open PySem.Builtin.Range renaming rangeSize->š, small->ad5
open ForInStep renaming yield->ť
open List.Sublist renaming refl->Ū
open List.Perm renaming append_right->Ŵ, cons->ϯ, refl->Zy, trans->ak7
open Or renaming inr->ż, inl->Ϸ
open Nat.succ renaming inj->Ϭ
open PySem.SeqAt.EqAt renaming of_refs->Ϯ, same->Χ, int_str->ag7, str_int->ag8
open Sum.inl renaming inj->Η
open Sum.inr renaming inj->Θ
open Function renaming comp->ZR
open PySem.Expr renaming Call->Z4
open PySem.Code renaming quiet_builtin->ab0, isFrame->ai7
open PySem.PassesOwn renaming never->ab3
open PySem.Str renaming ofString->ac4
open PySem.Txt renaming slice_le->ac5
open Int.ofNat renaming inj->ad1
open PySem.Builtin.Int renaming intBits->ae5
open PySem.EntryCells renaming newEntry->af1
open PySem.Around renaming under->ag4
open PySem.Builtin.ObjectAttr renaming storeInDict->ag5
open PySem.SeqAt.RcAt renaming tuples->ah2, lists->ai8
open PySem.Heap.Ns1 renaming of_empty->aj6
open PySem.W.Looks renaming here->aj7
abbrev ao6:=@if_neg
abbrev ao7:=@if_pos
abbrev ao8:=@absurd
abbrev ao9:=@decide_eq_true
abbrev ap0:=@decide_eq_false
abbrev ap1:=@of_decide_eq_true
abbrev ap2:=@congrArg
abbrev ap3:=@beq_self_eq_true
local macro_rules|`(tactic|omega)=>`(tactic|first|decide|lia)
abbrev ah:=List PySem.Str
abbrev aN:=List PySem.Value
abbrev aX:=List (PySem.Addr×PySem.Obj)
abbrev aF:=List Int
abbrev a7:=List (List Rat)
abbrev aw:=List Rat
abbrev bJ:=List (Option Nat)
abbrev bw:=PySem.Str->Option PySem.Value
abbrev eW:=Option PySem.Value
abbrev aM:=Nat->Nat->Int
abbrev bK:=Option Int
abbrev bN:=List PySem.Expr
abbrev cJ:=List PySem.Addr
abbrev b9:=Option PySem.Addr
abbrev cU:=Array PySem.Value
abbrev cH:=List PySem.Env
abbrev aq:=PySem.W.Frag
abbrev aj:=PySem.Shared
abbrev ao:=PySem.Value
abbrev ai:=PySem.Addr
abbrev aV:=PySem.Heap
theorem autoR(_:0=0:=by rfl):True:=.intro
theorem autoD(_:0=0:=by decide):True:=.intro
def hidG(G:Prop):Prop:=G->False
theorem hidN{G}(h:hidG G->False):G:=Classical.byContradiction h
local macro_rules|`(tactic|∎)=>do
 let z:=Lean.mkIdent `zzz
 `(tactic|first|(refine $z ?_;clear $z)|(refine hidN ?_;intro $z:ident))
local macro_rules|`(tactic|let $p:term:=$e)=>do
 let k:=λx a=>Lean.Syntax.node .none (`Lean.Parser.Tactic++x) a
 let m:=λx=>k `rcasesPatMed #[Lean.mkNullNode #[x]]
 let q:=p.raw.rewriteBottomUp λx=>match x with|.ident ..=>k `rcasesPat.one #[x]|.node _ t a=>if t== `null then x else if a.size<2 then k `rcasesPat.ignore a else k `rcasesPat.tuple #[.atom .none "⟨",Lean.mkNullNode (a[1]!.getArgs.map λy=>if y.isAtom then y else k `rcasesPatLo #[m y,Lean.mkNullNode]),.atom .none "⟩"]|_=>x
 if p.raw[1].getNumArgs<4 then `(tactic|obtain $(⟨m q⟩):rcasesPatMed:=$e) else
 `(tactic|first|(guard_target =ₛ False;obtain $(⟨m q⟩):rcasesPatMed:=$e)|(∎;obtain $(⟨m q⟩):rcasesPatMed:=$e;refine $(Lean.mkIdent `zzz) ?_;clear $(Lean.mkIdent `zzz))|obtain $(⟨m q⟩):rcasesPatMed:=$e)
local macro_rules|`(⋯)=>`(by omega)|`(∎)=>`(by decide)|`(⇑$x)=>`(($x).heap.objs.size)|`(↥$x)=>`(($x).map $(Lean.mkIdent `Pu.ae.t))|`(do $x:term)=>`(autoParam $x $(Lean.mkIdent `autoR._auto_1))|`(~~~$x)=>`(autoParam $x $(Lean.mkIdent `autoD._auto_1))
set_option bootstrap.genMatcherCode false
local macro_rules|`(command|def $i:declId $s:optDeclSig $v:declVal)=>`(command|theorem $i:declId $(⟨.node .none `Lean.Parser.Command.declSig #[s.raw[0],s.raw[1][0]]⟩):declSig $v:declVal)|`(command|abbrev $i:declId $s:optDeclSig $v:declVal)=>`(command|noncomputable def $i:declId $s:optDeclSig $v:declVal)|`(command|nonrec abbrev $i:declId $s:optDeclSig $v:declVal)=>`(command|noncomputable abbrev $i:declId $s:optDeclSig $v:declVal)|`(command|instance $s:declSig $v:declVal)=>`(command|noncomputable instance $s:declSig $v:declVal)
@[inline] def zsx:String:=";aa Þ X.prog X.w;ab Mx rs us;ac aU rs us;ad Þ prog w;ae j.map aK;af cV X scope N P2.objs.size a O fp aa;ag cV X scope N C s H fp pl;ah Gr.aS s;ai .ref C;aj .inl rfl;ak .ref p;al bg us o;am .dK kvs;an cL us o;ao .Name x pos;ap EP X aa j Q;aq .ref f;ar .ag f xs;as .Tuple elts x1 pos;at eval o X.env;au he aa s j H _ I h;av .aL xs;aw .int i;ax .ins f c fs;ay ns.map V.int;az kc CX P w K mg base N d a f bH A outer s H E;aA .ref a;aB fJ X.prog X.w;aC .builtin id;aD .dK vs;aE .ag .o xs;aF us.zipIdx.map 1e3;aG .aB o u;aH ed us o;aI .ins .o c fs;aJ g pos aa s j H _ I h;aK eL X.prog X.w;aL .Name x p;aM .l É;aN .Attribute o m apos;aO fs.lookup f;aP iK T f rs us sc;aQ .int n;aR dg _ _;aS top 25;aT bD st;aU cV X a N C s H fp pl;aV cw T f S;aW .ref c;aX start N vs;aY tR X.K i r;aZ .Attribute e f pos;ba aB t;bb .ref x;bc fJ P w;bd .error e;be Le.refl F;bf Le.refl _;bg ns.map Tr.int;bh cf ns;bi X.c7 pn xe;bj bs A S;bk .ins C dx fs;bl .type T;bm fw ix σ;bn .aP f xs;bo up S r c;bp é G.pos;bq .int j;br .str n;bs top 24;bt å f.objs.size;bu B.mem_iff.mp m;bv i4 x;bw j4 st;bx i.keeps b o z;by bP K z lo n g;bz .int i t;bA aQ H a o;bB .ag xs;bC Þ P w;bD aQ H p o;bE .ref e;bF .ref I;bG ae.t a;bH bV f m;bI B.map hW;bJ .Return (À e) pos;bK eval e X.env;bL qv 1;bM hi aa s j H _ I h;bN .ref s.heap.objs.size;bO .l Â;bP .Tuple es x1 tpos;bQ .aP .o xs;bR gZ a ss k;bS .str x;bT o.r.plain t;bU cW t r;bV .ins C b vs;bW ae.t r;bX gY us o;bY lT us q t o;bZ truthy v;ca PySem.F.args_dict_get_3 _ _ _;cb tR K i r;cc ys.map g;cd .ref abC;ce cq T f B;cf mT mk;cg S0 rs us;ch cF us rs;ci lQ rs us;cj pP r ta tb;ck qS I.aR eb;cl I.ok.hd hc;cm dO f;cn cF us rs k;co eL P w;cp .bl Â;cq .ref l;cr Bq d H;cs jS h m;ct ae.t x;cu y b o e a;cv .ref it;cw I.ok.hd y;cx g i j;cy ú .NotEq;cz .dK d;cA fw ix j;cB v b u z n;cC Bq Hb H;cD J.set i t;cE .bl n;cF dz 0;cG c9 cs;cH gZ h ss k;cI fW rs us cs S;cJ rs.map mP;cK cV X scope N C s H fp aa;cL I.base.keep b o e n O C;cM ś .Mult;cN ow pg pr;cO .own a;cP .own x;cQ TP X aa j Q;cR .Constant .none j pos;cS .bl É;cT .Expr e pos;cU .Dict keys values pos;cV .bl b;cW l9 f.heap H;cX j7 env;cY bs.map V.bl;cZ p2 pr pa pb;da .ag vs;db .int 1;dc cv (cv (cv Am e) d) b;dd fa mk;de .BinOp a .Mult b pos;df storeName X.env x u;dg ś .Add;dh K w.params;di n5 n pr;dj Le.of f;dk xs.set n t;dl .int vs.length;dm .Tuple elts x1 tpos;dn .Subscript o j pos';do eD f;dp fZ b;dq fZ a;dr fq m n M mk c S a i;ds adr X h;dt eQ rs us S;du .Subscript o i pos;dv .Slice lo hi È p2;dw .Subscript a b pos;dx cm gB gp (qv 5) f9;dy cm gB gp (qv 8) f9;dz SP X aa D;dA .BinOp a op b pos;dB Ρ C s.heap.objs.size;dC ú .NotIn;dD gT f u fs;dE .int m.length;dF vb pi pg pt pe ix;dG cA xs;dH XO C e È;dI .ag .o xs.reverse;dJ up (up v a x) b y;dK up (up v a y) b x;dL cq T .o S;dM cw T .o S;dN rs.zipIdx.take i';dO gi us;dP lK us o x;dQ .IfExp c a b pos;dR ui K a;dS .Tuple es x1 pos;dT J aa s j H _ I h;dU bi x;dV .ref b;dW rV wi g ti te ix;dX X.bT v;dY uh K a;dZ c.gr a;ea Bq a H;eb W.gr g;ec jS C J;ed .Tuple es kk pos;ee ae.t q;ef vu K a;eg .ref E;eh mT m;ei qv 4;ej aQ H x o;ek uk K a b;el c.gr d.g;em c.gr a.g;en .ag .o a;eo G.map aK;ep iS t r u;eq .aP .o m;er nt b _ z;es .aP .f m;et up S r e;eu cq T f S;ev Lp.tt m M S j n;ew z.take i;"
local macro_rules|`($n:name)=>do
 let a:=λt:String=>if t.front.isDigit then (Lean.Syntax.mkLit (if t.any (·=='e') then `scientific else `num) t).raw else if t=="_" then .node .none `Lean.Parser.Term.hole #[.atom .none t] else if t.front=='.' then .node .none `Lean.Parser.Term.dotIdent #[.atom .none ".",Lean.mkIdent (t.drop 1).toString.toName] else (Lean.mkIdent t.toName).raw
 let p:=λb:Array Lean.Syntax=>if b.size<2 then b[0]! else (Lean.Syntax.mkApp ⟨b[0]!⟩ ((b.drop 1).map (⟨·⟩))).raw
 let [_,u]:=zsx.splitOn s!";{n.getName} "|Lean.Macro.throwUnsupported
 let r:=(((u.splitOn ";").head!.replace "(" "( ").replace ")" " )").splitOn " "|>.foldl (λ(b,l) t=>if t=="(" then (#[],b::l) else if t==")" then (l.head!.push (p b),l.tail!) else (b.push (a t),l)) (#[],([]:List (Array Lean.Syntax)))
 return p r.1
local macro_rules|`(#[$a,*])=>`(⟨$a,*⟩)
local macro_rules|`(tactic|show $e:term)=>`(tactic|refine $e)
local macro_rules|`(↑$x)=>`(($x).length)
local macro_rules|`(∅)=>`(by simp)
local macro_rules|`(1e3)=>`(λp=>(p.1,$(Lean.mkIdent `x) p.2))
local macro_rules|`(1e2)=>`(⟨rfl,rfl,rfl,by decide +kernel,rfl,by decide +kernel,by decide +kernel⟩)
namespace L2
open PySem PySem.Spec PyProof.Rows
nonrec abbrev dZ(x:Str):Prop:=(x == ("__debug__":Str))=É
nonrec abbrev d0(e:ę)(es:bN)(n:Env):Prop:=Ă (e::es) n=(É,eval e n)::Ă es n
nonrec abbrev lA(e:ę)(n:Env):Prop:=Ă [e] n=[(É,eval e n)]
nonrec abbrev p9(e f:ę)(n:Env):Prop:=Ă [e,f] n=[(É,eval e n),(É,eval f n)]
nonrec abbrev fS(p:Pos)(es:bN)(n:Env):Prop:=(ű p<|Ă es n).any (·.1)=É
nonrec abbrev aW:=Sum Int Str
nonrec abbrev aI:=List<|aW×bK
abbrev qo:aW->ao->Bool
 |.inl k,v=>Value.isInt k v
 |.inr x,v=>Value.isStrOf x v
abbrev LL(w:ă):aW->Int
 |.inl k=>hashInt k
 |.inr x=>hashStr w x
def lB:∀{k:aW}{v:ao},qo k v=Â->(∃i t,k=ï i/\v=ϝ i t)\/(∃x t,k=ñ x/\v=ac6 x t)
 |.inl i,v,h=>by
  let#[t,e]:=Value.isInt_shape (k:=i) (v:=v) h;show .inl #[i,t,rfl,e]
 |.inr x,v,h=>by
  let#[t,e]:=Value.isStrOf_shape (x:=x) (v:=v) h;show .inr #[x,t,rfl,e]
def O0(i:Int)(t:Tok):qo (.inl i) `bz=Â:=by simp[qo,Value.isInt]
def O1(x:Str)(t:Tok):qo (.inr x) (.str x t)=Â:=by simp[qo,Value.isStrOf]
def Xn(a b:Int):decide ((ï a:aW)=ï b)=(a == b):=by
 by_cases e:a=b
 .subst e;simp
 .have h:¬ (ï a:aW)=ï b:=λq=>e<|Η q
  rw[ap0 h];show (beq_eq_false_iff_ne.mpr e).symm
def Xo(a b:Str):decide ((ñ a:aW)=ñ b)=decide (a=b):=by
 by_cases e:a=b
 .subst e;simp
 .have h:¬ (ñ a:aW)=ñ b:=λq=>e<|Θ q
  rw[ap0 h,ap0 e]
def Xp(a:Int)(b:Str):decide ((ï a:aW)=ñ b)=É:=ap0 (λq=>nomatch q)
def Xq(a:Str)(b:Int):decide ((ñ a:aW)=ï b)=É:=ap0 (λq=>nomatch q)
abbrev eL(prog:ð)(w:ă):PySem.KeyKind prog w aW where
 is:=qo
 hash:=LL w
 inj:=λv a b g f=>by
  rcases lB g with⟨i,t,rfl,rfl⟩ |⟨x,t,rfl,rfl⟩
  .rcases lB f with⟨j,u,rfl,e⟩ |⟨y,u,rfl,e⟩
   .injection e with e1 _;rw[e1]
   .show nomatch e
  .rcases lB f with⟨j,u,rfl,e⟩ |⟨y,u,rfl,e⟩
   .show nomatch e
   .injection e with e1 _;rw[e1]
 byValue:=λk v h=>by
  rcases lB h with⟨i,t,rfl,rfl⟩ |⟨x,t,rfl,rfl⟩<;>rfl
 pyHash:=λd h=>by
  rcases lB d with⟨i,t,rfl,rfl⟩ |⟨x,t,rfl,rfl⟩
  .show wpAny_pyHash_int h
  .show wpAny_pyHash_str h
 eqBool:=λl d h=>by
  rcases lB l with⟨i,t,rfl,rfl⟩ |⟨x,t,rfl,rfl⟩
  .rcases lB d with⟨j,u,rfl,rfl⟩ |⟨y,u,rfl,rfl⟩
   .rw[Xn] at h;show wpAny_eqBool_int h
   .rw[Xp] at h;show ag7 i t y u _ _ _ _ h
  .rcases lB d with⟨j,u,rfl,rfl⟩ |⟨y,u,rfl,rfl⟩
   .rw[Xq] at h;show ag8 x t j u _ _ _ _ h
   .rw[Xo] at h;show wpAny_eqBool_str h
 «strs»:=λk x t v h=>by
  rcases lB h with⟨i,u,rfl,e⟩ |⟨y,u,rfl,e⟩
  .show nomatch e
  .injection e with e1 _
   subst e1;cases v<;>rfl
def NG(prog:ð)(w:ă)(i:Int)(t:Tok):(eL prog w).is (.inl i) `bz=Â:=O0 i t
def NH(prog:ð)(w:ă)(x:Str)(t:Tok):(eL prog w).is (.inr x) (.str x t)=Â:=O1 x t
inductive V where
 |aT |bl (b:Bool) |int (i:Int) |str (x:Str) |iG (b:Array UInt8) |v8 (b:UInt64) |ref (a:Addr) |ty (n:String)
 deriving DecidableEq
nonrec abbrev bL:=List<|aW×V
nonrec abbrev ay:=List V
abbrev aG:V->ao->Prop
 |.aT,u=>u=ŵ
 |.bl b,u=>u=aa6 b
 |.int i,u=>∃t,u=ϝ i t
 |.str x,u=>∃t,u=ac6 x t
 |.iG b,u=>∃t,u=Value.bytes b t
 |.v8 b,u=>∃t,u=Value.float b t
 |.ref a,u=>u=å a
 |.ty n,u=>u=ĳ n
nonrec abbrev aH:ay->aN->Prop:=Paired aG
def aH.length(r:aH xs us):↑xs=↑us:=Paired.length r
def aH.get:∀{xs:ay}{us:aN}{i:Nat}{x:V},aH xs us->xs[i]?=À x->∃u,us[i]?=À u/\aG x u
 |_,_,_,_,.nil,e=>by simp at e
 |_,_,0,_,.cons r _,e=>by simp at e;subst e;show#[_,rfl,r]
 |_,_,i + 1,x,.cons _ t,e=>by
  let#[u,a,b]:=aH.get (i:=i) (x:=x) t (by simpa using e);show#[u,by simpa using a,b]
def aH.set(r:aG x u):∀{xs:ay}{us:aN}(i:Nat),aH xs us->aH (xs.set i x) (us.set i u)
 |_,_,_,.nil=>.nil
 |_,_,0,.cons _ t=>.cons r t
 |_,_,i + 1,.cons q t=>.cons q<|aH.set r i t
def aH.append:∀{xs ys:ay}{us a:aN},aH xs us->aH ys a->aH (xs++ys) (us++a):=by
 intro xs ys us a h g
 induction h with
 |nil=>show g
 |cons r t b=>show .cons r b
def aH.take:∀{xs:ay}{us:aN}(n:Nat),aH xs us->aH (xs.take n) (us.take n)
 |_,_,0,_=>.nil
 |_,_,_ + 1,.nil=>.nil
 |_,_,n + 1,.cons r t=>.cons r<|aH.take n t
def aH.drop:∀{xs:ay}{us:aN}(n:Nat),aH xs us->aH (xs.drop n) (us.drop n)
 |_,_,0,r=>r
 |_,_,_ + 1,.nil=>.nil
 |_,_,n + 1,.cons _ t=>aH.drop n t
abbrev b7:Option V->eW->Prop
 |some v,À u=>aG v u
 |none,È=>True
 |_,_=>False
abbrev KV{j:Type}:List (j×V)->List (j×ao)->Prop:=Paired λ(p:j×V)(q:j×ao)=>p.1=q.1/\aG p.2 q.2
abbrev kV:aW->V
 |.inl i=>.int i
 |.inr x=>.str x
inductive HO where
 |ag (xs:List V)
 |aL (xs:List V)
 |dK (kvs:List (aW × V)) |dT (kvs:List (List aW × V))
 |set (S:Int -> Bool) (n:Nat)
 |ins (C dx:Addr) (fs:List (Str × V))
 |own (x:Addr)
 |xd (fs:List (Str × V))
 |met (f x:Addr)
 |ku (lo hi:Int)
 |aB (o:Obj) (u:HO)
 |og (ps:Array Ϛ)
 |ext (φ:Heap -> Prop)
nonrec abbrev Hp:=Addr->Option HO
abbrev aQ(H:Hp)(a:ai)(o:HO):Hp:=λb=>if b=a then À o else H b
def cD:aQ H a o a=À o:=by unfold aQ;rw[ao7 rfl]
def a6{H:Hp}(h:b≠a):aQ H a o b=H b:=by unfold aQ;rw[ao6 h]
def YK{H:Hp}(h:H a=À o)(h':H b=À u)(d:o≠u):a≠b:=by
 intro e;subst e;rw[h] at h';show d<|Ù h'
def jG{H:Hp}(h:H a=À o)(h':H b=È):a≠b:=by
 intro e;subst e;rw[h] at h';cases h'
section
variable(P:ð)(w:ă)
abbrev bp(H:Hp)(h:aV)(a:ai):HO->Prop
 |.ag e=>↑e <= Ô /\ ∃(b:aN)(n:Nat),aH e b /\ h.get? a=À { cls:=.type "list",data:=.seq b.toArray n }
 |.aL e=>↑e <= Ô /\ ∃b:aN,aH e b /\ IsTup h a b.toArray
 |.dK d=>↑d <= Ô /\ (a == ř)=É /\ ∃vs,KV d vs /\ h.DictOf `co a vs
 |.dT d=>↑d <= Ô /\ (a == ř)=É /\ ∃e:List (List aW × Addr × Ϛ),
   Paired (λ(p:List aW×V)(q:List aW×ai×ao)=>p.1=q.1/\H q.2.1=À (.aL<|p.1.map kV)/\aG p.2 q.2.2) d e/\
   ∃o l y,h.get? a=À o/\o.ExactDict/\o.data=.dict l y/\l.toList=e.map (entryOfKey<|ab8<|eL P w)/\(e.map (·.1)).Nodup
 |.set S n=>h.SetOf (intKind P w) a S n
 |.ins C i fs=>H i=À `cO /\ ↑fs <= 1000 /\ i ≠ a /\ h.get? a=À (Ρ C i) /\
   ∃g,h.Ns1 i g/\(∀f,b7 `aO<|g f)/\PySem.Within g (fs.map (·.1))
 |.own _=>∃o,h.get? a=À o
 |.xd fs=>∃g,h.Ns1 a g /\ ∀f,b7 `aO<|g f
 |.ku lo A=>∃t u v,h.get? a=À { cls:=.type "range",data:=.fields ([.int lo t,.int A u,.int 1 v].toArray) }
 |.aB o u=>h.get? a=À o /\ bp H h a u
 |.og B=>h.get? a=À { cls:=.none,data:=.fields B }
 |.met f x=>h.get? a=À (W.methodObj `aq<|.ref x)
 |.ext j=>j h /\ (∃o,h.get? a=À o) /\ ∀m r:Heap,j m -> (∀o,m.get? a=À o -> r.get? a=À o) -> j r
abbrev dD(H:Hp)(h:aV):Prop:=∀a o,H a=À o->bp P w H h a o
end
section
variable{P:ð}{w:ă}{H H':Hp}{h h':aV}{a:ai}{o:HO}
def bp.lt(x:bp P w H h a o):a<h.objs.size:=by
 cases o with
 |ag d=>let#[_,_,_,_,e]:=x;show Ð e
 |aL d=>let#[_,_,_,p]:=x;show p.lt
 |dK b=>let#[_,_,_,_,o,_,_,e,_]:=x;show Ð e
 |dT b=>let#[_,_,_,_,o,_,_,e,_]:=x;show Ð e
 |set S n=>let#[o,_,_,_,e,_]:=x;show Ð e
 |ins C g fs=>let#[_,_,_,e,_]:=x;show Ð e
 |own y=>let#[_,e]:=x;show Ð e
 |xd fs=>let#[_,#[_,_,_,e,_],_]:=x;show Ð e
 |ku lo i=>let#[_,_,_,e]:=x;show Ð e
 |aB j u=>let#[e,_]:=x;show Ð e
 |og l=>show Ð (show h.get? a=À _ from x)
 |met f y=>show Ð (show h.get? a=À _ from x)
 |ext m=>let#[_,#[_,e],_]:=x;show Ð e
def Paired.tU{F G:j->i->Prop}:∀{d:List j}{l₂:List i},Paired F d l₂->(∀a b,F a b->G a b)->Paired G d l₂:=by
 intro d l₂ h f
 induction h with
 |nil=>show .nil
 |cons r t e=>show .cons (f _ _ r) e
def bp.e6(x:bp P w H h a o)(k:∀b u,(b=a\/H b=À `cO)->h.get? b=À u->h'.get? b=À u)(E:∀b,H b=À `cO->H' b=À `cO)(ht:∀b xs,H b=À `av->H' b=À `av):bp P w H' h' a o:=by
 induction o with
 |ag xs=>let#[z,l,n,r,e]:=x;show#[z,l,n,r,k _ _ `aj e]
 |aL xs=>let#[z,l,r,g,e,c]:=x;show#[z,l,r,g,k _ _ `aj e,c]
 |dK m=>let#[z,y,vs,r,g,j,i,e,c]:=x;show#[z,y,vs,r,g,j,i,k _ _ `aj e,c]
 |dT m=>
  let#[z,y,xs,r,g,j,i,e,c]:=x;show#[z,y,xs,Paired.tU r λp q z=>#[z.1,ht _ _ z.2.1,z.2.2],g,j,i,k _ _ `aj e,c]
 |set S n=>let#[g,j,i,t,e,c]:=x;show#[g,j,i,t,k _ _ `aj e,c]
 |ins C I fs=>
  let#[d,z,ne,e,A,#[od,j,i,D,c],r]:=x;show#[E _ d,z,ne,k _ _ `aj e,A,#[od,j,i,k _ _ (.inr d) D,c],r]
 |own y=>let#[g,e]:=x;show#[g,k _ _ `aj e]
 |xd fs=>let#[A,#[od,j,i,e,c],r]:=x;show#[A,#[od,j,i,k _ _ `aj e,c],r]
 |ku lo J=>let#[t,u,v,e]:=x;show#[t,u,v,k _ _ `aj e]
 |aB g u G=>let#[e,q]:=x;show#[k _ _ `aj e,G q]
 |og B=>
  have e:h.get? a=À { cls:=.none,data:=.fields B }:=x;change h'.get? a=À { cls:=.none,data:=.fields B };show k a _ `aj e
 |met f y=>
  have e:h.get? a=À (W.methodObj `aq<|.ref y):=x;change h'.get? a=À (W.methodObj `aq<|.ref y);show k a _ `aj e
 |ext L=>let#[p,#[o,e],st]:=x;show#[st _ _ p λo q=>k _ _ `aj q,#[o,k _ _ `aj e],st]
def dD.lt(x:dD P w H h)(e:H a=À o):a<h.objs.size:=(x a o e).lt
def dD.fresh(x:dD P w H h)(e:h.objs.size<=a):H a=È:=by
 cases q:H a with
 |none=>rfl
 |some u=>show ao8 (Ö (x.lt q) e)<|ĺ _
def dD.kept(x:dD P w H h)(k:∀b u,h.get? b=À u->h'.get? b=À u):dD P w H h':=λa o e=>
 (x a o e).e6 (λb u _ q=>k b u q) (λ_ q=>q) λ_ _ q=>q
def dD.laid(x:dD P w H h)(k:∀b u,h.get? b=À u->h'.get? b=À u)(hp:h.objs.size<=a)(d:bp P w `bA h' a o):dD P w `bA h':=λb u e=>by
 have hn:=x.fresh hp;by_cases f:b=a
 .subst f;rw[cD] at e;cases e;show d
 .rw[a6 f] at e;show (x b u e).e6 (λc v _ q=>k c v q) (λc q=>by rw[a6<|jG q hn];show q) λc g q=>by rw[a6<|jG q hn];show q
end
abbrev Rd(H:Hp)(a:ai)(u:HO):Prop:=H a=À u\/∃o,H a=À `aG
def Rd.of{H:Hp}(h:H a=À u):Rd H a u:=.inl h
def Rd.ok(r:Rd H a u)(x:dD P w H h):bp P w H h a u:=by
 rcases r with r |⟨o,r⟩
 .show x a u r
 .obtain⟨_,q⟩:=x a _ r;show q
abbrev ro:Option HO->Prop
 |some (.ag _)=>True
 |some (.dK _)=>True
 |some (.dT _)=>True
 |some (.set _ _)=>True
 |some (.ins _ _ _)=>True
 |some (.ext _)=>True
 |_=>False
section
variable{P:ð}{w:ă}{H:Hp}{h h':aV}{x e:ai}{o':HO}
def dD.write(ok:dD P w H h)(j:ro (H x))(he:e=x\/H e=À `cP)(k:∀b u,b≠e->h.get? b=À u->h'.get? b=À u)(m:∃u,h'.get? e=À u)(n:bp P w (aQ H x o') h' x o'):dD P w (aQ H x o') h':=λb u q=>by
 have d:∀c y,H c=À (.own y)->c≠x:=λc y r z=>by subst z;rw[r] at j;show j
 have f:∀c l,H c=À (.aL l)->c≠x:=λc l r z=>by subst z;rw[r] at j;show j
 by_cases g:b=x
 .subst g;rw[cD] at q;cases q;show n
 .rw[a6 g] at q;by_cases a:b=e
  .have q':H b=À `cP:=by
    rcases he with z |z
    .show ao8 (a.trans z) g
    .rw[a];show z
   rw[q] at q';cases q';let#[v,o]:=m;show#[v,by rw[a];show o]
  .show (ok b u q).e6 (λc v i r=>k c v ?_ r) (λc r=>by rw[a6<|d c b r];show r) λc l r=>by rw[a6<|f c l r];show r
   rcases i with rfl |i
   .show a
   .rintro rfl;rcases he with z |z
    .show d c b i z
    .rw[i] at z;cases z;show g rfl
end
structure Un(fs ex:cJ)(H H':Hp)(h h':aV):Prop where
 keep:∀b o,h.get? b=À o->H b=È->b ∉ fs->b ∉ ex->h'.get? b=À o
 slot:∀b o,h.get? b=À o->H b=È->b∈fs->b ∉ ex->∃sl,h'.get? b=À { o with slots:=sl }
 free:∀b o,h.get? b=À o->H b=È->b ∉ ex->H' b=È
 there:∀b o,h.get? b=À o->b ∉ ex->∃o',h'.get? b=À o'
 e8:∀b xs,H b=À `av->H' b=À `av
 bf:∀b o u,H b=À `aG->H' b=À `aG
 e7:∀b ps,H b=À (.og ps)->∃more,H' b=À (.og<|ps++more)
section
variable{fs fs' ex ex':cJ}{H H1 H2:Hp}{h h1 h2 h':aV}{a x e:ai}{o:HO}
def Un.any(u:Un fs ex H H1 h h1){ob:Obj}(q:h.get? b=À ob)(n:H b=È)(f:b ∉ ex):∃g,h1.get? b=À { ob with slots:=g }:=by
 by_cases d:b∈fs
 .show u.slot b ob q n d f
 .show#[ob.slots,u.keep b ob q n d f]
def Un.kept(k:∀b u,h.get? b=À u->h'.get? b=À u):Un fs ex H H h h':=
 #[λb d q _ _ _=>k b d q,λb d q _ _ _=>#[d.slots,k b d q],λ_ _ _ n _=>n,λb d q _=>#[d,k b d q],λ_ _ q=>q,λ_ _ _ q=>q,λ_ f q=>#[([].toArray),by rw[q];simp]]
def Un.refl:Un fs ex H H h h:=Un.kept λ_ _ q=>q
def Un.laid(k:∀b u,h.get? b=À u->h'.get? b=À u)(hp:h.objs.size<=a)(hn:H a=È):Un fs ex H `bA h h' where
 keep:=λb u q _ _ _=>k b u q
 slot:=λb u q _ _ _=>#[u.slots,k b u q]
 free:=λb u q n _=>by rw[a6<|ì<|Ö (Ð q) hp];show n
 there:=λb u q _=>#[u,k b u q]
 e8:=λb d q=>by rw[a6<|jG q hn];show q
 bf:=λb u d q=>by rw[a6<|jG q hn];show q
 e7:=λb f q=>#[([].toArray),by rw[a6<|jG q hn,q];simp]
def Un.write(f:ro (H x))(he:e=x\/H e=À `cP)(k:∀b u,b≠e->h.get? b=À u->h'.get? b=À u)(g:∃u,h'.get? e=À u):Un fs ex H `ej h h':=by
 have j:∀b,H b=È->b≠x:=λb n z=>by subst z;rw[n] at f;show f
 have i:∀b,H b=È->b≠e:=λb n z=>by
  subst z;rcases he with r |r
  .show j b n r
  .rw[n] at r;cases r
 have hm:∀b u,H b=À u->¬ ro (À u)->b≠x:=λb u q nm z=>by subst z;rw[q] at f;show nm f
 show#[λb u q n _ _=>k b u (i b n) q,λb u q n _ _=>#[u.slots,k b u (i b n) q],λb u q n _=>by rw[a6<|j b n];show n,λb u q _=>?_,
  λb l q=>by rw[a6<|hm b _ q λz=>z];show q,λb u l q=>by rw[a6<|hm b _ q λz=>z];show q,λb m q=>#[([].toArray),by rw[a6<|hm b _ q λz=>z,q];simp]]
 by_cases d:b=e
 .subst d;show g
 .show#[u,k b u d q]
end
abbrev wX(h:aV)(H:Hp):cJ:=(Ç h.objs.size).filter λa=>(H a).isSome
abbrev l9(h:aV)(H:Hp):aV:=Ű h<|wX h H
def O3(h:aV)(H:Hp):(l9 h H).objs.size=h.objs.size:=W.hideAll_size _ _
def Sa{H:Hp}(e:h.get? b=À o)(n:H b=È):(l9 h H).get? b=À o:=
 aj9 _ e λhm=>by
  have q:(H b).isSome=Â:=(ϕ.mp hm).2;rw[n] at q;simp at q
def Uk{H:Hp}(e:(l9 h H).get? b=À o):h.get? b=À o/\H b=È:=by
 have a:h.get? b=À o:=ZZ (wX h H) e;show#[a,?_];cases q:H b with
 |none=>rfl
 |some x=>
  have hm:b∈wX h H:=ϕ.mpr #[ī.mpr<|Ð a,by simp[q]];have z:(l9 h H).get? b=È:=Ϟ (wX h H) hm;rw[z] at e;cases e
abbrev Ls(g h:aV)(L:ai):aX:=(Ç h.objs.size).filterMap λa=>if a=L\/(g.get? a).isSome=Â then È else (h.get? a).map λo=>(a,o)
abbrev rest(g h:aV)(L d:ai):aX:=(Ls g h L).filter λp=>decide<|p.1≠d
structure Mod(K:aq)(mg:bw)(base:aV):Prop where
 mJ:K.In base
 glob:base.Ns Ř mg
 blt:∃mb,base.Ns builtinsNs mb/\∀x:Str,x≠"__name__"->mb x=ϧ x
 nolimit:base.NoLimit
structure Cx where
 prog:ð
 w:ă
 K:af2
 mg:bw
 base:Heap
 A:ĉ
 N:ah
 s₀:Shared
 H₀:Hp
 env:Env
 outer:cH
 stack:cH
 ex:cJ
 fn:Str->Bool
 calm:Bool
 pn:aX
 xe:ao->aj->Prop
nonrec abbrev lz(X:Cx)(x:Str):Prop:=X.fn x=Â\/X.env.scope.names.lookup x=À .local
abbrev cE(l:cH):cJ:=l.filterMap (·.frame)
nonrec abbrev Cx.fs(X:Cx):cJ:=cE X.outer
abbrev qb(sc:Zr)(x:Str):Prop:=sc.names.lookup x=À .local\/sc.names.lookup x=À .cell\/sc.names.lookup x=À .free
abbrev Loc(sc:Zr)(x:Str):Prop:=sc.names.lookup x=À .local\/sc.names.lookup x=À .cell
abbrev LM(env:Env)(h:aV)(m:bw)(x:Str)(u:ao):Prop:=
 (env.kindOf x=À .local/\m x=À u)\/((env.kindOf x=À .cell\/env.kindOf x=À .free)/\∃c,env.cells.lookup x=À c/\h.IsCell c (À u))
structure Cx.Ok(X:Cx):Prop where
 mod:Mod X.K X.mg X.base
 kind:X.env.scope.kind=.function
 glob:X.env.globals=Ř
 blt:X.env.builtins=builtinsNs
 above:⇑X.s₀<=X.env.locals
 inj:∀x y c,X.env.cells.lookup x=À c->X.env.cells.lookup y=À c->x=y
 has:∀x,(X.env.kindOf x=À .cell\/X.env.kindOf x=À .free)->∃c,X.env.cells.lookup x=À c
 nK:∀x c,X.fn x=Â->X.env.cells.lookup x=À c->⇑X.s₀<=c
 hd:X.calm=Â->X.A.handled=È
 frames:X.A.frames=À X.stack
 pO:X.stack=X.outer\/(X.stack=X.env::X.outer/\X.env.frame=À X.env.locals)
 pz:∀b∈X.ex,b≠X.env.locals/\∀x c,X.env.cells.lookup x=À c->c≠b
 bs:∀b o,X.base.get? b=À o->X.s₀.heap.get? b=À o/\X.H₀ b=È
 ko:X.base.objs.size<=⇑X.s₀
 ik:∀b o,X.base.get? b=À o->b ∉ X.ex
 ib:∀b∈X.ex,b ∉ X.fs
 dN:X.s₀.heap.FunFrames X.base X.outer
 lS:∀b∈X.fs,X.H₀ b=È
structure ax(X:Cx)(aa:aX)(j:List (Option V))(H:Hp)(s:aj):Prop where
 ok:X.Ok
 os:s.os=X.s₀.os
 bare:ZC s.gens
 base:Un X.fs X.ex X.H₀ H X.s₀.heap s.heap
 loc:∃m,s.heap.Ns X.env.locals m/\∀(i:Nat)(x:Str)(v:V),X.N[i]?=À x->j[i]?=À (À v)->qb X.env.scope x->∃u,aG v u/\LM X.env s.heap m x u
 cell:∀x c,X.env.cells.lookup x=À c->∃v,s.heap.IsCell c v
 free:H X.env.locals=È
 b4:∀x c,X.env.cells.lookup x=À c->H c=È
 pin:∀p∈X.pn++aa,s.heap.get? p.1=À p.2/\H p.1=È/\p.1≠X.env.locals/\p.1 ∉ X.fs/\∀v,p.2.data≠.cell v
 aR:dD X.prog X.w H s.heap
 len:↑j=↑X.N
section
variable{X:Cx}{aa:aX}{σ:List (Option V)}{H H':Hp}{s:aj}{h':aV}
def Cx.Ok.AL(ok:X.Ok)(e:X.base.get? b=À o):b ∉ X.fs:=λa=>by
 have:=(ok.dN.mem a).1;rw[e] at this;cases this
def ax.bs(I:ax X aa σ H s):∀b o,X.base.get? b=À o->s.heap.get? b=À o/\H b=È:=λb o e=>
 #[I.base.keep b o (I.ok.bs b o e).1 (I.ok.bs b o e).2 (I.ok.AL e)<|I.ok.ik b o e,I.base.free b o (I.ok.bs b o e).1 (I.ok.bs b o e).2<|I.ok.ik b o e]
def ax.bk(I:ax X aa σ H s):∀b o,X.base.get? b=À o->s.heap.get? b=À o:=λb o e=>(I.bs b o e).1
def ax.mod(I:ax X aa σ H s):Mod X.K X.mg X.base:=I.ok.mod
def ax.eO(I:ax X aa σ H s):X.K.In s.heap:=I.ok.mod.mJ.keeps I.bk
def ax.lt(I:ax X aa σ H s):X.env.locals<⇑s:=let ⟨_,hn,_⟩:=I.loc;hn.lt
def ax.sz(I:ax X aa σ H s):⇑X.s₀<=⇑s:=Ñ I.ok.above<|ń I.lt
def ax.AM(I:ax X aa σ H s)(h:⇑s<=a):a ∉ X.fs:=λb=>by
 let#[_,o,d,_]:=I.ok.dN.mem b;show ao8 (Ö (Ð d)<|Ñ I.sz h)<|ĺ _
def ax.oX(I:ax X aa σ H s):∀x c,X.env.cells.lookup x=À c->c≠X.env.locals:=λx c e z=>by
 ∎;let#[v,o,d,hd]:=I.cell x c e;let#[m,#[h,g,f,b,a,_],_]:=I.loc;∎;rw[z,b] at d;cases d;rw[a] at hd;cases hd
def ax.dN(I:ax X aa σ H s):s.heap.FunFrames X.base X.outer:=by
 have all:∀(l:cH),(∀b∈cE l,b∈X.fs)->X.s₀.heap.FunFrames X.base l->s.heap.FunFrames X.base l:=by
  intro l
  induction l with
  |nil=>intro _ _;trivial
  |cons env r n=>
   intro g i;let#[h,#[L,o,f,hn,j,hd],m]:=i;have a:L∈X.fs:=g L (by unfold cE;rw[ϱ,f];show ϊ);let#[p,e]:=I.base.slot L o j (I.ok.lS L a) a λz=>I.ok.ib L z a
   show#[h,#[L,_,f,hn,e,hd],n (λb d=>g b (by unfold cE;rw[ϱ,f];show Ğ _ d)) m]
 show all X.outer (λ_ d=>d) I.ok.dN
def ax.stack(I:ax X aa σ H s):s.heap.FunFrames X.base X.stack:=by
 rcases I.ok.pO with e |⟨e,a⟩
 .rw[e];show I.dN
 .rw[e];let#[m,hn,_]:=I.loc;show .cons (by rw[I.ok.kind];decide) a hn ?_ I.dN;show Ń<|Ñ I.ok.ko I.ok.above
def ax.fF(I:ax X aa σ H s):∀b∈cE X.stack,b∈X.env.locals::X.fs:=λb a=>by
 rcases I.ok.pO with e |⟨e,d⟩
 .rw[e] at a;show Ğ _ a
 .rw[e] at a;unfold cE at a;rw[ϱ,d] at a;show a
def ax.gM(I:ax X aa σ H s):∀b∈cE X.stack,H b=È:=λb a=>by
 rcases æ.mp (I.fF b a) with e |a
 .rw[e];show I.free
 .obtain⟨_,o,ho,_⟩:=I.ok.dN.mem a;show I.base.free b o ho (I.ok.lS b a) λz=>I.ok.ib b z a
def ax.step{g':Array GenState}{t':Nat}{d':Drawn}{ch:cJ}(I:ax X aa σ H s)(g:∀b∈ch,(b∈X.ex\/⇑X.s₀<=b)/\b≠X.env.locals/\(∀x c,X.env.cells.lookup x=À c->c≠b)/\∀p∈X.pn++aa,p.1≠b)(keep:∀b o,b≠X.env.locals->b ∉ X.fs->b ∉ ch->s.heap.get? b=À o->H b=È->h'.get? b=À o)(slot:∀b o,b≠X.env.locals->b∈X.fs->b ∉ ch->s.heap.get? b=À o->H b=È->∃G,h'.get? b=À { o with slots:=G })(free:∀b o,b ∉ ch->s.heap.get? b=À o->H b=È->H' b=È)(there:∀b o,b ∉ ch->s.heap.get? b=À o->∃o',h'.get? b=À o')(e8:∀b xs,H b=À `av->H' b=À `av)(bf:∀b o u,H b=À `aG->H' b=À `aG)(e7:∀b E,H b=À (.og E)->∃C,H' b=À (.og<|E++C))(ns:∀m,s.heap.Ns X.env.locals m->h'.Ns X.env.locals m)(aR:dD X.prog X.w H' h')(O:ZC g'):
  ax X aa σ H' { s with heap:=h',gens:=g',drawn:=d',toks:=t' }:=by
 have D:∀b o,X.s₀.heap.get? b=À o->b≠X.env.locals:=λb o e=>ì<|Ö (Ð e) I.ok.above
 have y:∀b o,X.s₀.heap.get? b=À o->b ∉ X.ex->b ∉ ch:=λb o e a A=>by
  rcases (g b A).1 with z |z
  .show a z
  .show ao8 (Ö (Ð e) z) (ĺ _)
 have f:∀x c,X.env.cells.lookup x=À c->∀v,s.heap.IsCell c v->h'.IsCell c v:=λx c e v ⟨o,ho,hd⟩=>by
  have h:c ∉ ch:=λz=>(g c z).2.2.1 x c e rfl
  by_cases L:c∈X.fs
  .obtain⟨G,q⟩:=slot c o (I.oX x c e) L h ho<|I.b4 x c e;show#[_,q,hd]
  .show#[o,keep c o (I.oX x c e) L h ho<|I.b4 x c e,hd]
 show#[I.ok,I.os,O,#[λb o e n A a=>?_,λb o e n A a=>?_,λb o e n a=>?_,λb o e a=>?_,λb xs e=>e8 b xs<|I.base.e8 b xs e,λb o xs e=>bf b o xs<|I.base.bf b o xs e,λb E e=>?_],?_,λx c e=>?_,?_,λx c e=>?_,λp M=>?_,aR,I.len]
 .show keep b o (D b o e) A `cu (I.base.keep b o e n A a) (I.base.free b o e n a)
 .obtain⟨G,j⟩:=I.base.slot b o e n A a;let#[J,B]:=slot b _ (D b o e) A `cu j<|I.base.free b o e n a;show#[J,B]
 .obtain⟨o',j⟩:=I.base.there b o e a;show free b o' `cu j<|I.base.free b o e n a
 .obtain⟨o',j⟩:=I.base.there b o e a;show there b o' `cu j
 .obtain⟨m1,j⟩:=I.base.e7 b E e;let#[Q,B]:=e7 b _ j;show#[m1++Q,by rw[B,Array.append_assoc]]
 .obtain⟨m,hn,hl⟩:=I.loc;show#[m,ns m hn,λi x v j B N=>?_];let#[u,r,l]:=hl i x v j B N;show#[u,r,?_];rcases l with l |⟨k,c,e,z⟩
  .show .inl l
  .show .inr ⟨k,c,e,f x c e _ z⟩
 .obtain⟨v,z⟩:=I.cell x c e;show#[v,f x c e v z]
 .obtain⟨m,⟨o,_,_,ho,_⟩,_⟩:=I.loc;show free _ o (λz=>(g _ z).2.1 rfl) ho I.free
 .obtain⟨v,o,ho,hd⟩:=I.cell x c e;show free c o (λz=>(g c z).2.2.1 x c e rfl) ho<|I.b4 x c e
 .obtain⟨e,n,ne,nf,d⟩:=I.pin p M;have h:p.1 ∉ ch:=λz=>(g p.1 z).2.2.2 p M rfl
  show#[keep p.1 p.2 ne nf h e n,free p.1 p.2 h e n,ne,nf,d]
def ax.un{t':Nat}(I:ax X aa σ H s)(u:Un X.fs [] H H' s.heap h')(aR:dD X.prog X.w H' h'):ax X aa σ H' { s with heap:=h',toks:=t' }:=by
 ∎;let#[m,#[o,p,l,h,r],_]:=id I.loc;let#[x,i]:=u.any h I.free ∅;∎;show I.step (g':=s.gens) (d':=s.drawn) (ch:=[]) (λ_ z=>nomatch z) (λb o _ g _ e n=>u.keep b o e n g<|by simp) (λb o _ g _ e n=>u.slot b o e n g<|by simp) (λb o _ e n=>u.free b o e n<|by simp) (λb o _ e=>u.there b o e<|by simp) u.e8 u.bf u.e7 (λq hm=>by
  let#[v,f,d,a,j]:=hm;rw[h] at a;cases a;show#[_,f,d,i,j]) aR I.bare
def ax.call{g':Array GenState}{t':Nat}{d':Drawn}{ch:cJ}(I:ax X aa σ H s)(u:Un (cE X.stack) ch H H' s.heap h')(aR:dD X.prog X.w H' h')(q:ZC g')(d:∀b∈ch,(b∈X.ex\/⇑X.s₀<=b)/\b≠X.env.locals/\(∀x c,X.env.cells.lookup x=À c->c≠b)/\∀p∈X.pn++aa,p.1≠b):
  ax X aa σ H' { s with heap:=h',gens:=g',drawn:=d',toks:=t' }:=by
 let#[m,#[o,A,y,j,r],_]:=id I.loc;let#[D,i]:=u.any j I.free λz=>(d _ z).2.1 rfl
 show I.step (ch:=ch) d (λb o i l a e n=>u.keep b o e n (λz=>(æ.mp<|I.fF b z).elim i l) a) (λb o _ _ a e n=>u.any e n a) (λb o a e n=>u.free b o e n a) (λb o a e=>u.there b o e a) u.e8 u.bf u.e7 (λB hm=>by
  let#[C,h,g,f,v]:=hm;rw[j] at f;cases f;show#[_,h,g,i,v]) aR q
def ax.turned{t':Nat}{it:ai}(I:ax X aa σ H s)(k:∀b o,b≠it->s.heap.get? b=À o->h'.get? b=À o)(hn:H it=È)(f:it≠X.env.locals)(g:it∈X.ex\/⇑X.s₀<=it)(h:∀x c,X.env.cells.lookup x=À c->c≠it)(i:∀p∈X.pn++aa,p.1≠it):ax X aa σ H { s with heap:=h',toks:=t' }:=by
 have d:∀b u,H b=À u->b≠it:=λb u e z=>by rw[z,hn] at e;cases e
 show I.step (g':=s.gens) (d':=s.drawn) (ch:=[it]) (λb j=>?_) (λb o _ _ a e _=>k b o (λz=>a<|by simp[z]) e) (λb o _ _ a e _=>#[o.slots,k b o (λz=>a<|by simp[z]) e]) (λ_ _ _ _ n=>n)
  (λb o a e=>#[o,k b o (λz=>a<|by simp[z]) e]) (λ_ _ e=>e) (λ_ _ _ e=>e) (λb l e=>#[([].toArray),by rw[e];simp]) (λm hm=>?_) (λb u e=>?_) I.bare
 .have e:b=it:=by simpa using j
  subst e;show#[g,f,h,i]
 .obtain⟨o,es,ep,ho,r⟩:=hm;show#[o,es,ep,k _ o (Ć f) ho,r]
 .show (I.aR b u e).e6 (λc v a q=>k c v ?_ q) (λ_ q=>q) λ_ _ q=>q
  rcases a with z |z
  .rw[z];show d b u e
  .show d c _ z
def ax.tok(I:ax X aa σ H s)(t:Nat):ax X aa σ H { s with toks:=t }:=I.un (h':=s.heap) (t':=t) Un.refl I.aR
def ax.kept(I:ax X aa σ H s)(k:∀b u,s.heap.get? b=À u->h'.get? b=À u):ax X aa σ H { s with heap:=h',toks:=t' }:=I.un (Un.kept k)<|I.aR.kept k
def ax.laid(I:ax X aa σ H s)(k:∀b u,s.heap.get? b=À u->h'.get? b=À u)(hp:⇑s<=a)(d:bp X.prog X.w `bA h' a o):
  ax X aa σ `bA { s with heap:=h',toks:=t' }:=I.un (Un.laid k hp<|I.aR.fresh hp)<|I.aR.laid k hp d
def ax.write(I:ax X aa σ H s)(f:ro (H x))(he:e=x\/H e=À `cP)(k:∀b u,b≠e->s.heap.get? b=À u->h'.get? b=À u)(a:∃u,h'.get? e=À u)(d:bp X.prog X.w `ej h' x o):ax X aa σ `ej { s with heap:=h',toks:=t' }:=I.un (Un.write f he k a)<|I.aR.write f he k a d
def ax.weak(I:ax X aa σ H s)(e:↑σ'=↑σ)(w:∀(i:Nat) v,σ'[i]?=À (À v)->σ[i]?=À (À v)):ax X aa σ' H s:=
 #[I.ok,I.os,I.bare,I.base,let ⟨m,hn,hl'⟩:=I.loc;#[m,hn,λi x v a b d=>hl' i x v a (w i v b) d],I.cell,I.free,I.b4,I.pin,I.aR,e.trans I.len]
def ax.fo(I:ax X aa σ H s)(h:∀p∈a,s.heap.get? p.1=À p.2/\H p.1=È/\p.1≠X.env.locals/\p.1 ∉ X.fs/\∀v,p.2.data≠.cell v):ax X a σ H s:=
 #[I.ok,I.os,I.bare,I.base,I.loc,I.cell,I.free,I.b4,λp b=>(Æ.mp b).elim (λz=>I.pin p<|ş _ z)<|h p,I.aR,I.len]
def Fc{N:ah}(f:N.Nodup){i j:Nat}{x:Str}(a:N[i]?=À x)(b:N[j]?=À x):i=j:=by
 let#[g,d]:=Á.mp a;let#[h,e]:=Á.mp b;show (List.getElem_inj f).mp<|d.trans e.symm
def EO{M:Model}{A:ĉ}{E:ao->aj->Prop}{i:Nat}{x:Str}{v:V}{u:ao}{Q:Unit->aj->Prop}(I:ax X aa σ H s)(hN:X.N.Nodup)(hi:X.N[i]?=À x)(C:Loc X.env.scope x)(r:aG v u)(h:∀s',ax X aa (σ.set i<|À v) H s'->(∃a,ZD a s.heap s'.heap/\(a=X.env.locals\/X.env.cells.lookup x=À a))->Q () s')(hf:lz X x:=by first |show .inl rfl |show .inr rfl |assumption):Ý M A `df Q E s:=by
 let#[m,hn,hl]:=id I.loc;have Y:(X.env.scope.kind == .class || (X.env.scope.kind == .module&&X.env.locals != X.env.globals))=É:=by rw[I.ok.kind];rfl
 have J:i<↑σ:=by rw[I.len];show (Á.mp hi).1
 have oX:=I.oX;have l:∀{a:ai}{h':aV},(∃o,s.heap.get? a=À o/\H a=È)->ZD a s.heap h'->dD X.prog X.w H h':=λ{a h'} ha f b ob e=>by
  let#[_,_,D]:=ha;show (I.aR b ob e).e6 (λc w' B q=>(f.2 c ?_).trans q) (λ_ q=>q) λ_ _ q=>q
  rintro rfl;rcases B with rfl |B
  .rw[D] at e;cases e
  .rw[D] at B;cases B
 rcases C with L |L
 .show wpAny_storeName_local L hn (λh' γ f=>?_) Y;let#[oL,_,_,δ,_]:=id hn;show h _ #[I.ok,I.os,I.bare,#[λb o e n O C=>?_,λb o e n O C=>?_,I.base.free,λb o e C=>?_,I.base.e8,I.base.bf,I.base.e7],#[_,γ,λj y v' g G e3=>?_],λy c e=>?_,I.free,I.b4,λp hp=>?_,l #[oL,δ,I.free] f,by simpa using I.len] #[_,f,.inl rfl]
  .show (f.2 b<|ì<|Ö (Ð e) I.ok.above).trans `cL
  .obtain⟨sl,g⟩:=I.base.slot b o e n O C;show#[sl,(f.2 b<|ì<|Ö (Ð e) I.ok.above).trans g]
  .obtain⟨o',g⟩:=I.base.there b o e C;show#[o',(f.2 b<|ì<|Ö (Ð e) I.ok.above).trans g]
  .by_cases hj:j=i
   .subst hj;rw[hi] at g;cases g;rw[Ĉ J] at G;cases G;show#[u,r,.inl #[L,by simp]]
   .rw[ć<|Ć hj] at G;let#[u',r',q]:=hl j y v' g G e3;show#[u',r',?_];rcases q with⟨k,e⟩ |⟨k,c,e,z⟩
    .show .inl ⟨k,?_⟩;have:y≠x:=λe=>hj<|Fc hN g<|e ▸ hi
     simp[this,e]
    .show .inr #[k,c,e,z.sameBut f<|oX y c e]
  .obtain⟨w',z⟩:=I.cell y c e;show#[w',z.sameBut f<|oX y c e]
  .obtain⟨e,n,ne,nf,d⟩:=I.pin p hp;show#[(f.2 p.1 ne).trans e,n,ne,nf,d]
 .have hfn:X.fn x=Â:=by
   rcases hf with z |z
   .show z
   .rw[z] at L;cases L
  let#[c,B]:=I.ok.has x<|.inl L;let#[w',z]:=I.cell x c B;show wpAny_storeName_cell I.ok.kind L B z<|λh' U f=>?_;let#[oc,α,β]:=id z;show h { s with heap:=h' } #[I.ok,I.os,I.bare,#[λb o e n O C=>?_,λb o e n O C=>?_,I.base.free,λb o e C=>?_,I.base.e8,I.base.bf,I.base.e7],#[m,hn.sameBut f<|Ć<|oX x c B,λj y v' g G e3=>?_],λy c' e=>?_,I.free,I.b4,λp hp=>?_,l #[oc,α,I.b4 x c B] f,by simpa using I.len] #[c,f,.inr B]
  .show (f.2 b<|ì<|Ö (Ð e)<|I.ok.nK x c hfn B).trans `cL
  .obtain⟨sl,g⟩:=I.base.slot b o e n O C;show#[sl,(f.2 b<|ì<|Ö (Ð e)<|I.ok.nK x c hfn B).trans g]
  .obtain⟨o',g⟩:=I.base.there b o e C;show#[o',(f.2 b<|ì<|Ö (Ð e)<|I.ok.nK x c hfn B).trans g]
  .by_cases hj:j=i
   .subst hj;rw[hi] at g;cases g;rw[Ĉ J] at G;cases G;show#[u,r,.inr #[.inl L,c,B,U]]
   .rw[ć<|Ć hj] at G;let#[u',r',q]:=hl j y v' g G e3;show#[u',r',?_];rcases q with q |⟨k,c',e,z'⟩
    .show .inl q
    .show .inr ⟨k,c',e,z'.sameBut f ?_⟩;rintro rfl;show hj<|Fc hN g<|I.ok.inj _ _ _ e B ▸ hi
  .by_cases hcc:c'=c
   .subst hcc;show#[_,U]
   .obtain⟨w2,z2⟩:=I.cell y c' e;show#[w2,z2.sameBut f hcc]
  .obtain⟨e,n,ne,nf,d⟩:=I.pin p hp;show#[(f.2 p.1 ?_).trans e,n,ne,nf,d];intro q;rw[q,α] at e;have q':oc=p.2:=Ù e;show d w' (by rw[<- q'];show β)
def vA{Q:Unit->aj->Prop}(I:ax X aa σ H s)(b:X.N.Nodup)(e:X.N[i]?=À x)(f:Loc X.env.scope x)(r:aG v u)(h:∀s',ax X aa (σ.set i<|À v) H s'->Q () s')(d:lz X x:=by first |show .inl rfl |show .inr rfl |assumption):Ý M A `df Q E s:=
 EO I b e f r (λs' a _=>h s' a) d
def ax.eM(I:ax X aa σ H s)(f:s'.os=s.os)(u:Un (cE X.stack) ch H H' s.heap s'.heap)(aR:dD X.prog X.w H' s'.heap)(d:ZC s'.gens)(a:∀b∈ch,(b∈X.ex\/⇑X.s₀<=b)/\b≠X.env.locals/\(∀x c,X.env.cells.lookup x=À c->c≠b)/\∀p∈X.pn++aa,p.1≠b):ax X aa σ H' s':=by
 let#[h',g',d',t',g]:=s';have e:g=s.os:=f;subst e;show I.call (g':=g') (t':=t') (d':=d') u aR d a
end
nonrec abbrev XK:=Ϛ->b9->Hp->Prop
nonrec abbrev St:=List<|Option V
nonrec abbrev VK:=V->Hp->Prop
nonrec abbrev TE:=St->Hp->VK->Prop
nonrec abbrev TT:=St->Hp->(Bool->Hp->Prop)->Prop
nonrec abbrev TA:=St->Hp->(ay->Hp->Prop)->Prop
structure iR where
 nx:St->Hp->Prop
 rt:VK
 bk:St->Hp->Prop:=λ_ _=>False
 ct:St->Hp->Prop:=λ_ _=>False
nonrec abbrev TS:=iR->St->Hp->Prop
abbrev EP(X:Cx)(aa:aX)(j:St)(Q:VK)(u:ao)(s':aj):Prop:=∃v a,ax X aa j a s'/\aG v u/\Q v a
abbrev TP(X:Cx)(aa:aX)(j:St)(Q:Bool->Hp->Prop)(b:Bool)(s':aj):Prop:=∃a,ax X aa j a s'/\Q b a
abbrev AP(X:Cx)(aa:aX)(j:St)(Q:ay->Hp->Prop)(us:aN)(s':aj):Prop:=∃vs a,ax X aa j a s'/\aH vs us/\Q vs a
abbrev SP(X:Cx)(aa:aX)(D:iR)(f:Flow)(s':aj):Prop:=
 match f with
 |.next=>∃b a,ax X aa b a s' /\ D.nx b a
 |.brk=>∃b a,ax X aa b a s' /\ D.bk b a
 |.cont=>∃b a,ax X aa b a s' /\ D.ct b a
 |.ret u=>∃v b a,ax X aa b a s' /\ aG v u /\ D.rt v a
abbrev PE(X:Cx)(e:ę)(t:TE):Prop:=
 ∀(aa:aX)(s:aj)(j:St)(H:Hp)(Q:VK),ax X aa j H s->t j H Q->Ý `aa X.A `bK `ap X.xe s
abbrev PT(X:Cx)(e:ę)(t:TT):Prop:=
 ∀(aa:aX)(s:aj)(j:St)(H:Hp)(Q:Bool->Hp->Prop),ax X aa j H s->t j H Q->Ý `aa X.A (af4 e X.env<|eval e X.env) `cQ X.xe s
abbrev PW(X:Cx)(e:ę)(t:TT):Prop:=
 ∀(whole:Sem Ϛ)(aa:aX)(s:aj)(j:St)(H:Hp)(Q:Bool->Hp->Prop),ax X aa j H s->t j H Q->Ý `aa X.A (af4 e X.env whole) `cQ X.xe s
def PW.pt(h:PW X e t):PT X e t:=h _
abbrev PA(X:Cx)(a:bN)(t:TA):Prop:=
 ∀(pos:Pos)(aa:aX)(s:aj)(j:St)(H:Hp)(Q:ay->Hp->Prop),ax X aa j H s->t j H Q->Ý `aa X.A (spliced<|ű pos<|Ă a X.env) (AP X aa j Q) X.xe s
abbrev PS(X:Cx)(st:Ā)(t:TS):Prop:=
 ∀(aa:aX)(s:aj)(j:St)(H:Hp)(D:iR),ax X aa j H s->t D j H->Ý `aa X.A (exec st X.env) `dz X.xe s
abbrev fR(X:Cx)(st:List Ā)(t:TS):Prop:=
 ∀(aa:aX)(s:aj)(j:St)(H:Hp)(D:iR),ax X aa j H s->t D j H->Ý `aa X.A (execs st X.env) `dz X.xe s
def bq{Q b:j->aj->Prop}(h:Ý M A t Q E s)(d:∀a s,Q a s->b a s):Ý M A t b E s:=ą h d λ_ _ x=>x
section
variable{X:Cx}
abbrev add(i:Nat):TE:=λj H Q=>∃v,j[i]?=À (À v)/\Q v H
abbrev tC(v:V):TE:=λ_ H Q=>Q v H
def v3(n:X.N[i]?=À x)(p:qb X.env.scope x)(hd: ~~~(dZ x))(f: ~~~((x == ("__classdict__":Str))=É)):PE X `ao (add i):=by
 intro aa s j H Q I h;∎;let#[v,e,h]:=h;let#[m,hn,o]:=I.loc;let#[u,r,l]:=o i x v n e p;∎;have b:EP X aa j Q u s:=#[v,H,I,r,h];rcases l with⟨d,hm⟩ |⟨d,c,g,a⟩
 .show wpAny_Name (wpAny_loadName_local I.ok.kind d hn hm b) hd
 .rcases d with d |d
  .show wpAny_Name (wpAny_loadName_cell I.ok.kind d g a b) hd
  .show wpAny_Name (wpAny_loadName_free I.ok.kind d g a b f) hd
def HK{i j pos}:PE X (.Constant `aw j pos) (tC<|.int i):=λ_ _ _ H _ I h=>wpAny_Constant_int #[.int i,H,I.tok _,#[_,rfl],h]
def YL{b j pos}:PE X (.Constant (.bool b) j pos) (tC<|.bl b):=λ_ _ _ H _ I h=>Constant_bool #[.bl b,H,I,rfl,h]
def Xr{j pos}:PE X `cR (tC .aT):=λ_ _ _ H _ I h=>Constant_none #[.aT,H,I,rfl,h]
def HL{x j pos}:PE X (.Constant `bS j pos) (tC<|.str x):=λ_ _ _ H _ I h=>Calls.Constant_str #[.str x,H,I.tok _,#[_,rfl],h]
abbrev Gl(X:Cx)(x:Str):Prop:=X.env.kindOf x=À .globalImplicit
def nG{Q:ao->aj->Prop}(I:ax X aa j H s)(a:Gl X x)(hm:X.mg x=À u)(h:Q u s)(hd: ~~~(dZ x)):Ý `aa X.A (eval `ao X.env) Q E s:=
 ad7 I.ok.kind a (Calls.loadGlobal_global (by rw[I.ok.glob];show I.mod.glob.keeps I.bk) hm h) hd
def kH{Q:ao->aj->Prop}(I:ax X aa j H s)(d:Gl X x)(hm:X.mg x=È)(e:ϧ x=À u)(h:Q u s)(hn: ~~~(x≠"__name__"))(hd: ~~~(dZ x)):Ý `aa X.A (eval `ao X.env) Q E s:=by
 let#[f,a,b]:=I.mod.blt;show ad7 I.ok.kind d (Calls.loadGlobal_builtin (by rw[I.ok.glob];show I.mod.glob.keeps I.bk) hm (by rw[I.ok.blt];show a.keeps I.bk) ((b x hn).trans e) h) hd
def Ul(a:Gl X x)(hm:X.mg x=À u)(r:aG v u)(hd: ~~~(dZ x)):PE X `ao (tC v):=
 λ_ _ _ H _ I h=>nG I a hm #[v,H,I,r,h] hd
variable{a b:ę}{ta tb:TE}{pos:Pos}
abbrev tB(t:TE):TT:=λj H Q=>t j H λx H1=>∃c,x=.bl c/\Q c H1
def Xs(h:PE X e t)(he:∀whole,af4 e X.env whole=(do let v <- whole;Z5 e.pos;holding [v] `bZ):=by intro _;rfl):PT X e (tB t):=by
 intro aa s j H Q I l;show isTrue_plain (bq (h aa s j H _ I l) λv o f=>?_)<|he _;∎;let#[x,g,i,n,m]:=f;let#[d,rfl,q]:=m;∎;cases n;show ϫ #[g,i,q]
variable{tA tB':TT}{rest:bN}
abbrev DH(t u:TT):TT:=λj H Q=>t j H λc d=>if c=Â then u j d Q else Q É d
abbrev Jk(t u:TT):TT:=λj H Q=>t j H λc d=>if c=Â then Q Â d else u j d Q
abbrev DI(t:TT):TT:=λj H Q=>t j H λc H1=>Q (!c) H1
def Um(d:PT X a tA):PW X (.BoolOp .And [a] pos) tA:=by
 intro g aa s j H Q I h;show isTrue_and<|bq (d aa s j H Q I h) λc f e=>?_;cases c with
 |true=>show isTrue_and_nil e
 |false=>show e
def Xt(d:PT X a tA):PW X (.BoolOp .Or [a] pos) tA:=by
 intro g aa s j H Q I h;show isTrue_or<|bq (d aa s j H Q I h) λc f e=>?_;cases c with
 |false=>show isTrue_or_nil e
 |true=>show e
def Xu(i:PT X a tA)(l:PW X (.BoolOp .And (b::rest) pos) tB'):PW X (.BoolOp .And (a::b::rest) pos) (DH tA tB'):=by
 intro n aa s j H Q I h;show isTrue_and<|bq (i aa s j H _ I h) λc m d=>?_;let#[e,f,g]:=d;cases c with
 |true=>show l n aa m j e Q f g
 |false=>show#[e,f,g]
def YM(i:PT X a tA)(l:PW X (.BoolOp .Or (b::rest) pos) tB'):PW X (.BoolOp .Or (a::b::rest) pos) (Jk tA tB'):=by
 intro n aa s j H Q I h;show isTrue_or<|bq (i aa s j H _ I h) λc m d=>?_;let#[e,f,g]:=d;cases c with
 |true=>show#[e,f,g]
 |false=>show l n aa m j e Q f g
def Xw(e:PT X a tA):PT X (.UnaryOp .Not a pos) (DI tA):=by
 intro aa s j H Q I h;show isTrue_not<|e aa s j H (λc d=>Q (!c) d) I h
abbrev Dp(ta tb:TE):TE:=λj H Q=>ta j H λx d=>∃c,x=.bl c/\if c=Â then tb j d Q else Q `cS d
abbrev Dw(ta tb:TE):TE:=λj H Q=>ta j H λx d=>∃c,x=.bl c/\if c=Â then Q `cp d else tb j d Q
def Xx{op}(h:PE X a t):PE X (.BoolOp op [a] pos) t:=λaa s j H Q I d=>BoolOp_one<|h aa s j H Q I d
def Xy(i:PE X a ta)(l:PE X (.BoolOp .And (b::rest) pos) tb):PE X (.BoolOp .And (a::b::rest) pos) (Dp ta tb):=by
 intro aa s j H Q I h;show BoolOp_and<|bq (i aa s j H _ I h) λv n e=>?_;∎;let#[x,f,g,m,d]:=e;let#[c,rfl,d]:=d;∎;cases m;show ϫ ?_;cases c with
 |true=>show l aa n j f Q g d
 |false=>show#[.bl É,f,g,rfl,d]
def YN(i:PE X a ta)(l:PE X (.BoolOp .Or (b::rest) pos) tb):PE X (.BoolOp .Or (a::b::rest) pos) (Dw ta tb):=by
 intro aa s j H Q I h;show BoolOp_or<|bq (i aa s j H _ I h) λv n e=>?_;∎;let#[x,f,g,m,d]:=e;let#[c,rfl,d]:=d;∎;cases m;show ϫ ?_;cases c with
 |false=>show l aa n j f Q g d
 |true=>show#[.bl Â,f,g,rfl,d]
abbrev Ji(t:TT)(ta tb:TE):TE:=λj H Q=>t j H λc d=>if c=Â then ta j d Q else tb j d Q
def Sb(o:PT X c tA)(m:PE X a ta)(n:PE X b tb):PE X `dQ (Ji tA ta tb):=by
 intro aa s j H Q I h;show wpAny_IfExp<|bq (o aa s j H _ I h) λd l e=>?_;let#[f,g,i]:=e;cases d with
 |true=>show m aa l j f Q g i
 |false=>show n aa l j f Q g i
end
abbrev bE(K:aq)(H:Hp)(a:ai)(xs:ay):Prop:=
 Rd H a `bB\/
  ∃(o:Obj)(b:cU)(n:Nat),K.lookup a=À o/\o.cls=.type "list"/\o.dict=È/\o.data=.seq b n/\b.size<=Ô/\aH xs b.toList
abbrev df(K:aq)(H:Hp)(a:ai)(xs:ay):Prop:=
 Rd H a `av\/
  ∃(o:Obj)(b:cU)(n:Nat),K.lookup a=À o/\o.cls=.type "tuple"/\o.data=.seq b n/\b.size<=Ô/\aH xs b.toList
abbrev LN:ao->Option V
 |.none=>À .aT
 |.bool b=>À<|.bl b
 |.int i _=>À<|.int i
 |.str x _=>À<|.str x
 |.bytes b _=>À<|.iG b
 |.float b _=>À<|.v8 b
 |.ref a=>À<|.ref a
 |.type n=>À<|.ty n
 |_=>È
def aG.abs(r:aG x u):LN u=À x:=by
 cases x with
 |aT=>cases r;rfl
 |bl _=>cases r;rfl
 |int _=>let#[t,rfl]:=r;rfl
 |str _=>let#[t,rfl]:=r;rfl
 |iG _=>let#[t,rfl]:=r;rfl
 |v8 _=>let#[t,rfl]:=r;rfl
 |ref _=>cases r;rfl
 |ty _=>cases r;rfl
def aG.inj(r:aG x u)(q:aG y u):x=y:=Ù<|r.abs.symm.trans q.abs
def aH.inj:∀{xs ys:ay}{us:aN},aH xs us->aH ys us->xs=ys:=by
 intro xs ys us h
 induction h generalizing ys with
 |nil=>intro g;cases g;rfl
 |cons r t a=>intro g;cases g with
  |cons b d=>rw[r.inj b,a d]
section
variable{X:Cx}{aa:aX}{σ:St}{H:Hp}{s:aj}{a:ai}{xs ys:ay}
def bE.of{K:aq}(h:H a=À `bB):bE K H a xs:=.inl<|.inl h
def df.of{K:aq}(h:H a=À `av):df K H a xs:=.inl<|.inl h
def ax.list(I:ax X aa σ H s)(h:bE X.K H a xs):∃bu:aN,aH xs bu/\PlainL s.heap a bu.toArray/\↑xs<=Ô:=by
 rcases h with h |⟨o,bu,n,d,b,hd,f,g,r⟩
 .obtain⟨z,bu,n,r,e⟩:=h.ok I.aR;show#[bu,r,#[_,n,e,rfl,rfl,rfl],z]
 .show#[bu.toList,r,#[o,n,I.eO a o d,b,hd,by simpa using f],?_];have e:=↑r;simp only[Ž] at e;omega
def ax.tuple(I:ax X aa σ H s)(h:df X.K H a xs):∃bu:aN,aH xs bu/\IsTup s.heap a bu.toArray/\↑xs<=Ô:=by
 rcases h with h |⟨o,bu,n,d,b,f,g,r⟩
 .obtain⟨z,bu,r,p⟩:=h.ok I.aR;show#[bu,r,p,z]
 .show#[bu.toList,r,#[o,I.eO a o d,b,n,by simpa using f],?_];have e:=↑r;simp only[Ž] at e;omega
def ax.dA(I:ax X aa σ H s)(h:bE X.K H a xs)(h':bE X.K H a ys):xs=ys:=by
 ∎;let#[f,r,#[o,n,e,_,_,d],_]:=I.list h;let#[b,j,#[m,l,i,_,_,g],_]:=I.list h';∎;rw[e] at i;cases i;rw[d] at g;injection g with d1 _
 have:f=b:=by simpa using ap2 Array.toList d1
 subst this;show r.inj j
end
nonrec abbrev Cx.fY(X:Cx)(E:ao->aj->Prop):Cx:={ X with xe:=E }
nonrec abbrev Cx.rf(X:Cx):Cx:=X.fY λ_ _=>False
def Cx.Ok.fY{X:Cx}(ok:X.Ok)(E:ao->aj->Prop):(X.fY E).Ok:=
 #[ok.mod,ok.kind,ok.glob,ok.blt,ok.above,ok.inj,ok.has,ok.nK,ok.hd,ok.frames,ok.pO,ok.pz,ok.bs,ok.ko,ok.ik,ok.ib,ok.dN,ok.lS]
def Cx.Ok.dC{X:Cx}{E:ao->aj->Prop}(ok:(X.fY E).Ok):X.Ok:=
 #[ok.mod,ok.kind,ok.glob,ok.blt,ok.above,ok.inj,ok.has,ok.nK,ok.hd,ok.frames,ok.pO,ok.pz,ok.bs,ok.ko,ok.ik,ok.ib,ok.dN,ok.lS]
section
variable{X:Cx}{aa:aX}{σ:St}{H:Hp}{s:aj}{E:ao->aj->Prop}
def ax.fY(I:ax X aa σ H s)(E:ao->aj->Prop):ax (X.fY E) aa σ H s:=#[I.ok.fY E,I.os,I.bare,I.base,I.loc,I.cell,I.free,I.b4,I.pin,I.aR,I.len]
def ax.dC(I:ax (X.fY E) aa σ H s):ax X aa σ H s:=#[I.ok.dC,I.os,I.bare,I.base,I.loc,I.cell,I.free,I.b4,I.pin,I.aR,I.len]
def SP.dC(h:SP (X.fY E) aa D f s'):SP X aa D f s':=by
 cases f with
 |next=>let#[a,b,I,q]:=h;show#[a,b,I.dC,q]
 |brk=>let#[a,b,I,q]:=h;show#[a,b,I.dC,q]
 |cont=>let#[a,b,I,q]:=h;show#[a,b,I.dC,q]
 |ret u=>let#[v,a,b,I,r,q]:=h;show#[v,a,b,I.dC,r,q]
def fR.rf{st:List Ā}{t:TS}(h:fR X.rf st t):fR X st t:=λaa s σ H D I a=>
 ą (h aa s σ H D (I.fY _) a) (λ_ _ q=>q.dC) λ_ _ z=>ò z
end
section
variable{X:Cx}{st:Ā}{rest:List Ā}{t u:TS}{e:ę}{te:TE}{pos:Pos}
abbrev Dq:TS:=λD j H=>D.nx j H
abbrev vf(t u:TS):TS:=λD j H=>t { D with nx:=u D } j H
def Uo:fR X [] Dq:=λ_ _ j H _ I h=>Λ #[j,H,I,h]
def yT(d:PS X st t)(g:fR X rest u):fR X (st::rest) (vf t u):=by
 intro aa s j H D I h;show wpAny_execs_cons (bq (d aa s j H { D with nx:=u D } I h) λf l q=>?_);cases f with
 |next=>
  let#[i,a,b,q]:=q;show g aa l i a D b q
 |ret v=>show q
 |brk=>show q
 |cont=>show q
def y8(a:PS X st t):fR X [st] t:=by
 intro aa s j H D I h;show wpAny_execs_cons<|bq (a aa s j H D I h) λf b q=>?_;cases f with
 |next=>show Λ q
 |ret v=>show q
 |brk=>show q
 |cont=>show q
def ax.quiet(I:ax X aa j H s):interactive X.env=É:=by simp[interactive,I.ok.kind]
abbrev rT(te:TE):TS:=λD j H=>te j H λ_ H1=>D.nx j H1
def vH(he:PE X e te)(hs:do Į e È pos.line X.env=pure É):PS X `cT (rT te):=by
 intro aa s j H D I h;show wpAny_Expr_any (bq `au λv i a=>by let#[x,b,d,g,f]:=a;show#[j,b,d,f]) I.quiet hs
abbrev yo(te:TE):TS:=λD j H=>te j H D.rt
def HM(he:PE X e te):PS X `bJ (yo te):=by
 intro aa s j H D I h;show wpAny_Return_some (bq `au λv i a=>by let#[x,b,d,g,f]:=a;show#[x,j,b,d,g,f])
abbrev Dx(c:TT)(t u:TS):TS:=λD j H=>c j H λb a=>if b=Â then t D j a else u D j a
def YO(p:PT X c tc)(n:fR X a t)(o:fR X b u):PS X (.If c a b pos) (Dx tc t u):=by
 intro aa s j H D I h;show wpAny_If<|bq (p aa s j H _ I h) λd m f=>?_;let#[g,i,l]:=f;cases d with
 |true=>show n aa m j g D i l
 |false=>show o aa m j g D i l
abbrev LF:TS:=λ_ _ _=>False
def Sd:PS X st LF:=λ_ _ _ _ _ _ h=>h.elim
end
nonrec abbrev TG:=V->St->Hp->(St->Hp->Prop)->Prop
nonrec abbrev om:=ay->St->Hp->(St->Hp->Prop)->Prop
abbrev PG(X:Cx)(a:ę)(t:TG):Prop:=
 ∀(aa:aX)(s:aj)(j:St)(H:Hp)(v:V)(u:ao)(Q:St->Hp->Prop),ax X aa j H s->aG v u->t v j H Q->
  Ý `aa X.A (assign a X.env u) (λ_ e=>∃d b,ax X aa d b e/\Q d b) X.xe s
abbrev pY(X:Cx)(e:bN)(t:om):Prop:=
 ∀(aa:aX)(s:aj)(j:St)(H:Hp)(vs:ay)(us:aN)(Q:St->Hp->Prop),ax X aa j H s->aH vs us->t vs j H Q->
  Ý `aa X.A (am1 ((ĥ e X.env).map (·.2)) us) (λ_ d=>∃b a,ax X aa b a d/\Q b a) X.xe s
nonrec abbrev Dy:=V->V->V->Hp->(Hp->Prop)->Prop
abbrev Dz(X:Cx)(t:Dy):Prop:=
 ∀(aa:aX)(s:aj)(j:St)(H:Hp)(o i v:V)(ov b u:ao)(Q:Hp->Prop),ax X aa j H s->aG o ov->aG i b->aG v u->t o i v H Q->
  Ý `aa X.A (setItem ov b u) (λ_ d=>∃a,ax X aa j a d/\Q a) X.xe s
section
variable{X:Cx}{pos:Pos}
abbrev j5(i:Nat):TG:=λv j H Q=>Q (j.set i<|À v) H
def y9(b:X.N.Nodup)(e:X.N[i]?=À x)(f:Loc X.env.scope x)(d:lz X x:=by first |show .inl rfl |show .inr rfl |assumption):PG X `ao (j5 i):=by
 intro aa s j H v u Q I r h;show wpAny_assign_Name<|vA I b e f r (λg a=>#[_,H,a,h]) d
abbrev yp:om:=λvs j H Q=>vs=[]/\Q j H
abbrev xE(t:TG)(u:om):om:=λvs j H Q=>∃v r,vs=v::r/\t v j H λb a=>u r b a Q
def F0:pY X [] yp:=by
 intro aa s j H vs us Q I r h;let#[e,h]:=h;subst e;cases r;show assignInOrder_nil #[j,H,I,h]
def Fd(g:PG X e t)(i:pY X es u)(hs:do (ĥ (e::es) X.env).map (·.2)=assign e X.env::(ĥ es X.env).map (·.2)):pY X (e::es) (xE t u):=by
 intro aa s j H vs us Q I r h;let#[v,p,f,h]:=h;subst f;cases r with
 |cons r n=>
  rw[hs];show ad2<|bq (g aa s j H _ _ _ I r h) λ_ o a=>?_;let#[l,b,d,m]:=a;show i aa o l b _ _ Q d n m
abbrev yq(K:aq)(n:Nat)(t:om):TG:=λv j H Q=>∃a b,v=.ref a/\df K H a b/\↑b=n/\t b j H Q
def HN(p:X.calm=Â)(h:pY X es t)(hn:do (ĥ es X.env).length=n)(d:do (ĥ es X.env).findIdx? (·.1)=È):PG X (.Tuple es k pos) (yq X.K n t):=by
 intro aa s j H v u Q I r f;let#[a,B,l,w,q,f]:=f;subst l;cases r;let#[A,g,x,C]:=I.tuple w;show assign_Tuple_tuple (I.ok.hd p) x (by simp[hn,<- q,g.length]) d λm y=>?_
 have i:ax X aa j H { s with heap:=m }:=I.kept (t':=s.toks) λb o e=>y b o (ì<|Ð e) e
 show h aa _ j H B _ Q i (by simpa using g) f
abbrev DA(f e:TE)(t:Dy):TG:=λv j H Q=>f j H λo a=>e j a λi b=>t o i v b λd=>Q j d
def Xz(q:PE X o to)(p:PE X i ti)(hs:Dz X t)(n:∀v,assign `du X.env v=(do
   let ov <- holding [v] (eval o X.env)
   let b <- holding [v,ov] (eval i X.env)
   Z5 pos
   holding [v,ov,b] (setItem ov b v)
   release [v,ov,b] []):=by intro _;rfl):PG X `du (DA to ti t):=by
 intro aa s j H v u Q I r h;rw[n];show Ë<|ώ<|bq (q aa s j H _ I h) λov D a=>?_;let#[x,d,g,C,w]:=a;show Ë<|ώ<|bq (p aa D j d _ g w) λb E a=>?_;let#[y,e,l,r2,A]:=a;show Ë<|Ţ<|Ë<|ώ<|bq (hs aa E j e x y v ov b u _ l C r2 r A) λ_ G a=>?_;let#[f,m,B]:=a;show wpAny_release #[j,f,m,B]
abbrev mf(b:TE)(g:TG):TS:=λD j H=>b j H λx a=>g x j a D.nx
def HP(he:PE X e te)(i:PG X tg g)(hs:do ZL [tg] e pos.line X.env=pure É)(l:do ZK [tg] e X.env=pure È)(f:do (ĥ [tg] X.env).map (·.2)=[assign tg X.env]):PS X (.Assign [tg] e pos) (mf te g):=by
 intro aa s j H D I h;show wpAny_Assign_stores (bq `au λv o a=>?_) hs l;let#[x,b,d,n,m]:=a;rw[f];show bq (i aa o j b x v _ d n m) λ_ p q=>q
def v5(g:X.N.Nodup)(m:X.N[i]?=À x)(n:Loc X.env.scope x)(he:PE X e te)(hs:do Į e (À<|.Name x pos') pos.line X.env=pure É)(l:lz X x:=by first |show .inl rfl |show .inr rfl |assumption):
  PS X (.Assign [.Name x pos'] e pos) (mf te<|j5 i):=by
 intro aa s j H D I h;show wpAny_Assign_Name (bq `au λv q a=>?_) hs;let#[y,b,d,p,o]:=a;show vA d g m n p (λr f=>#[_,b,f,o]) l
abbrev DB(i j:Nat)(b:TA):TS:=λD G H=>b G H λvs a=>∃v w,vs=[v,w]/\D.nx ((G.set i<|À v).set j<|À w) a
def XA{kt k2 pt2}(hc:X.calm=Â)(E:X.N.Nodup)(hi:X.N[i]?=À x)(hj:X.N[j]?=À y)(l:i≠j)(J:X.env.scope.names.lookup x=À .local)(L:X.env.scope.names.lookup y=À .local)(ha:PA X [a,b] ta)(hw:ZK [.Tuple [.Name x px,.Name y py] kt pt] (.Tuple [a,b] k2 pt2) X.env=pure (À [x,y]))(hs:do ZL [.Tuple [.Name x px,.Name y py] kt pt] (.Tuple [a,b] k2 pt2) pos.line X.env=pure É):
  PS X (.Assign [.Tuple [.Name x px,.Name y py] kt pt] (.Tuple [a,b] k2 pt2) pos) (DB i j ta):=by
 intro aa s G H D I h;rw[exec_Assign_arm];show Ë<|Ţ ?_;rw[hs];show Ë<|Ü ?_;rw[ao6 ∎];show Ë<|Tuple_<|bq (ha _ aa s G H _ I h) λus d u=>?_;∎;let#[vs,B,M,r1,n]:=u;let#[v,w,Y,n]:=n;∎;subst Y;obtain⟨f,g,rfl,rv,r⟩:∃f g,us=[f,g]/\aG v f/\aG w g:=by
  cases r1 with
  |cons p q=>
   cases q with
   |cons p' q'=>
    cases q';show#[_,_,rfl,p,p']
 show ae3 ?_ (by change 2<=Ô;decide);have O:ax X aa G B { d with heap:=d.heap.push { cls:=.type "tuple",data:=.seq [f,g].toArray } }:=M.kept (t':=d.toks) λb o e=>Ä _ e
 rw[hw];show Ë<|Ü ?_;change Ý `aa X.A (do rule "assign.swapped-stores";let items <- unpackItems (.ref ⇑d) 2 È;am1 [λv=>bindName X.env y v,λv=>bindName X.env x v] items.reverse;pure Flow.next) _ _ _;show Ë<|wpAny_rule<|Ë<|unpackItems_tuple (items:=([f,g].toArray)) (I.ok.hd hc) (IsTup.new d.heap _) λh' m=>?_;have Q:=O.kept (h':=h') (t':=d.toks) λb o e=>m b o (ì<|Ð e) e
 change Ý _ _ (am1 [λv=>bindName X.env y v,λv=>bindName X.env x v] [g,f] >>= λ_=>pure Flow.next) _ _ _;show Ë<|ad2<|wpAny_bindName<|vA Q E hj (.inl L) r (λs2 U=>?_)<|.inr L;show ad2<|wpAny_bindName<|vA U E hi (.inl J) rv (λs3 C=>assignInOrder_nil<|Ü ?_)<|.inr J;rw[List.set_comm _ _<|Ć l] at C;show#[_,B,C,n]
abbrev CB(c:TT)(tb:TS):TS:=λD j H=>∃W:Nat->St->Hp->Prop,(∃m,W m j H)/\∀m j H,W m j H->
 c j H λb d=>if b=Â then ∃N:St->Hp->Prop,(∀e a,N e a->∃f,f<m/\W f e a)/\tb { D with nx:=N,ct:=N,bk:=D.nx } j d else D.nx j d
def Se(hp:ZW `aa X.A X.env X.xe)(J:PT X c tc)(G:fR X body tb):PS X (.While c body [] pos) (CB tc tb):=by
 intro aa s j H D I h;let#[W,#[L,U],turn]:=h;show wpAny_While<|codeAny_whileLoop (λn M=>∃C r,ax X aa C r M/\W n C r) ?_ L #[j,H,I,U];intro n O zy;let#[e,u,E,Y]:=zy;show Ŝ hp<|bq (J aa O e u _ E<|turn n e u Y) λb Q q=>?_;let#[x,y,g]:=q;cases b with
 |true=>
  let#[N,B,g]:=g;rw[ao7 rfl];show Ŝ hp<|bq (G aa Q e x _ y g) λf s3 i=>?_;cases f with
  |next=>
   ∎;let#[d,a,l,o]:=i;let#[m,hm,p]:=B d a o;∎;show#[m,hm,d,a,l,p]
  |cont=>
   ∎;let#[d,a,l,o]:=i;let#[m,hm,p]:=B d a o;∎;show#[m,hm,d,a,l,p]
  |brk=>show i
  |ret v=>show i
 |false=>
  rw[ao6 â];show Λ #[e,x,y,g]
end
structure It where
 go:Nat->Hp->Prop
 mS:Nat->Hp->V->Hp->Prop
 stop:Nat->Hp->Prop
abbrev hU(X:Cx)(aa:aX)(H:Hp)(b:ai):Prop:=
 H b=È/\b≠X.env.locals/\b ∉ X.fs/\(b∈X.ex\/⇑X.s₀<=b)/\(∀x c,X.env.cells.lookup x=À c->c≠b)/\∀p∈X.pn++aa,p.1≠b
def ax.fB{H d:Hp}(I:ax X aa j H s)(a:⇑s<=b)(hn:d b=È):hU X aa d b:=by
 show#[hn,ϖ<|Ö I.lt a,I.AM a,.inr<|Ñ I.sz a,λx c e z=>?_,λp f z=>?_]
 .obtain⟨v,q⟩:=I.cell x c e;show ao8 (Ö q.lt (by rw[z];show a))<|ĺ _
 .show ao8 (Ö (Ð (I.pin p f).1) (by rw[z];show a)) (ĺ _)
structure lG(P:ð)(w:ă)(K:aq)(tg:ę)(J:It)(fp:cJ)(it:ai)(tn:Nat->aV->Prop):Prop where
 mem:it∈fp
 obj:∀i h,tn i h->∀b∈fp,∃o,h.get? b=À o/\∀v,o.data≠.cell v
 keep:∀i h h',tn i h->(∀b∈fp,∀o,h.get? b=À o->h'.get? b=À o)->tn i h'
 item:∀(X:Cx),X.prog=P->X.w=w->X.K=K->X.calm=Â->∀(i:Nat)(aa:aX)(s:aj)(j:St)(H:Hp)(E:ao->aj->Prop),ax X aa j H s->(∀b∈fp,hU X aa H b)->tn i s.heap->J.go i H->
  Ý `bC X.A (pyNext<|.ref it) (λr s1=>∃u,r=À u/\
   Ý `bC X.A (aa1 tg `cv u) (λ_ s2=>∃x H',ax X aa j H' s2/\aG x u/\J.mS i H x H'/\tn (i+1) s2.heap/\∀b∈fp,H' b=È) E s1) E s
 done:∀(X:Cx),X.prog=P->X.w=w->X.K=K->X.calm=Â->∀(i:Nat)(aa:aX)(s:aj)(j:St)(H:Hp)(E:ao->aj->Prop),ax X aa j H s->(∀b∈fp,hU X aa H b)->tn i s.heap->J.stop i H->
  Ý `bC X.A (pyNext<|.ref it) (λr s1=>r=È/\ax X aa j H s1) E s
 self:∀(A:ĉ)(i:Nat)(s:aj)(Q:ao->aj->Prop)(E:ao->aj->Prop),tn i s.heap->Q `cv s->Ý `bC A (pyIter<|.ref it) Q E s
nonrec abbrev TI:=St->Hp->(It->Hp->Prop)->Prop
abbrev Bw(X:Cx)(aa:aX)(j:St)(h:ę)(R:It->Hp->Prop)(d:ao)(f:aj):Prop:=
 ∃(it:ai)(e:cJ)(g:Nat->aV->Prop)(J:It)(a:Hp),d=.ref it/\ax X aa j a f/\lG X.prog X.w X.K h J e it g/\g 0 f.heap/\(∀b∈e,hU X aa a b)/\R J a
abbrev PI(X:Cx)(d a:ę)(e:TI):Prop:=
 ∀(aa:aX)(s:aj)(j:St)(H:Hp)(R:It->Hp->Prop),ax X aa j H s->e j H R->
  Ý `aa X.A (eval a X.env) (λv b=>Ý `aa X.A (pyIter v) (Bw X aa j d R) X.xe b) X.xe s
def wH{Q:Unit->aj->Prop}(d:s.heap.get? it=À o)(b:o.cls=.type n)(hd:o.data=.fields vs)(hn:["enumerate","zip","dict_itemiterator","dict_reverseitemiterator","odict_iterator","itertools.zip_longest","itertools.pairwise"].contains n=É)(a:Q () s):Ý M A (aa1 tg `cv u) Q E s:=by
 unfold aa1;cases tg<;>first
  |show Ü a
  |(cases u<;>first
    |show Ü a
    | (show Ë (wpAny_load d ?_)
       rw[b,hd];change Ý M A (if (["enumerate","zip","dict_itemiterator","dict_reverseitemiterator","odict_iterator","itertools.zip_longest","itertools.pairwise"].contains n&&vs[0]? == À (Ϩ _))=Â then _ else _) Q E s;rw[ao6 (by intro h;rw[hn,Z0] at h;cases h)];show Ü a))
abbrev ui(K:aq)(a:ai):It:=
 #[λi H=>∃b x,bE K H a b/\b[i]?=À x,λi H x d=>d=H/\∀b,bE K H a b->b[i]?=À x,λi H=>∃b,bE K H a b/\↑b<=i]
abbrev oh(lo:Int)(n:Nat):It:=#[λi _=>i<n,λi H x a=>a=H/\x=.int (lo+i),λi _=>n<=i]
def PR{P:ð}{w:ă}{K:aq}{tg:ę}(a it:ai):lG P w K tg `dR [it] it (λi h=>h.IsListIter it a i) where
 mem:=by simp
 obj:=λi h st b f=>by
  have e:b=it:=by simpa using f
  subst e;let#[o,e,c,d]:=st;show#[o,e,λv z=>by rw[d] at z;cases z]
 keep:=λi h l st k=>st.at λo e=>k it ∅ o e
 item:=by
  intro X D J C O i aa s j H E I m st G;subst D J C;∎;let#[xs,x,n,L]:=G;let#[M,N,p,hz]:=I.list n;let#[u,Y,ru]:=N.get L;let#[q,r,U,y,A,B]:=m it ∅;∎;show wpAny_pyNext_list_item st p.isList (x:=u) (by simpa using Y) λl g sb=>?_
  have Q:ax X aa j H { s with heap:=l }:=I.turned (t':=s.toks) (λb o f e=>(sb.2 b f).trans e) q r y A B;let#[o,e,c,d]:=id g;show#[u,rfl,wH (s:={ s with heap:=l }) e c d ∎ #[x,H,Q,ru,#[rfl,λys hy=>by rw[I.dA hy n];show L],g,λb f=>(m b f).1]]
 done:=by
  intro X D J C O i aa s j H E I m st G;subst D J C;∎;let#[xs,n,L]:=G;let#[M,N,p,hz]:=I.list n;let#[q,r,U,y,A,B]:=m it ∅;∎;have hl:=↑N;show wpAny_pyNext_list_end (I.ok.hd O) st p.isList (by simp;omega) λl eb=>#[rfl,I.turned (t':=s.toks) (λb o f e=>eb b o f e) q r y A B]
 self:=λ_ _ _ _ _ st h=>wpAny_pyIter_listiter st h
def OE{P:ð}{w:ă}{K:PySem.W.Frag}{M:ę}(it:ai)(lo:Int)(n:Nat):lG P w K M (oh lo n) [it] it (λi h=>ag6 h it (lo+(i:Nat)*1) ((n:Int) - (i:Nat)) 1) where
 mem:=by simp
 obj:=λi h st b a=>by
  have e:b=it:=by simpa using a
  subst e;show#[_,st,λv z=>by
   have N:Data.fields _=Data.cell v:=z;cases N]
 keep:=λi h f st k=>k it ∅ _ st
 item:=by
  intro X x B u y i aa s j H E I g st A;subst x B u;let#[l,m,G,p,q,r]:=g it ∅;have W:=Walks.range (prog:=X.prog) (w:=X.w) `cw it lo 1 n;show W.item i s _ _ A st λv f C J d L=>?_
  let#[t,rfl]:=J;have D:ax X aa j H { s with heap:=f,toks:=C }:=I.turned (λb o a e=>L b o (by simpa using a) e) l m p q r;show#[_,rfl,wH (s:={ s with heap:=f,toks:=C }) (n:="range_iterator") d rfl rfl ∎ #[.int<|lo+i,H,D,#[t,?_],#[rfl,rfl],d,λb a=>(g b a).1]];rw[al4]
 done:=by
  intro X x B u y i aa s j H E I g st A;subst x B u;let#[l,m,G,p,q,r]:=g it ∅;show ao5 `cw st (by have:n<=i:=A;omega) λf eb=>#[rfl,I.turned (t':=s.toks) (λb o a e=>eb b o a e) l m p q r]
 self:=λ_ _ _ _ _ st h=>ao4 st h
section
variable{X:Cx}{tg:ę}
abbrev Dr(K:aq)(d:TE):TI:=λj H R=>d j H λx b=>∃a,x=.ref a/\(∃e,bE K b a e)/\R `dR b
def Up{l:ę}{i:TE}(r:PE X l i):PI X tg l (Dr X.K i):=by
 intro aa s j H R I h;show bq (r aa s j H _ I h) λv f g=>?_
 ∎;let#[x,m,d,A,y]:=g;let#[a,e,#[D,u],q]:=y;∎;subst e;cases A;let#[w,C,p,B]:=d.list u;show Ϫ p.isList ?_;show#[⇑f,[⇑f],_,_,m,rfl,d.kept (t':=f.toks) λb o e=>Ä _ e,PR a _,#[_,Ø _ rfl,rfl,rfl],λb n=>?_,q];have e:b=⇑f:=by simpa using n
 subst e;show d.fB (Ï _)<|d.aR.fresh<|Ï _
def Fe{aa:aX}{j:St}{H:Hp}{s:aj}{R:It->Hp->Prop}{E:ao->aj->Prop}{lo a:Int}{t u v:Tok}{f:Nat}(I:ax X aa j H s)(h:-(2 ^ 62)<=lo)(i:lo<2 ^ 62)(l:-(2 ^ 62)<=a)(m:a<2 ^ 62)(q:R (oh lo (a - lo).toNat) H):Ý `aa X.A (pyIter<|.ref ⇑s) (Bw X aa j tg R) E { s with heap:=s.heap.push { cls:=.type "range",data:=.fields ([.int lo t,.int a u,.int 1 v].toArray) },toks:=f }:=by
 show wpAny_pyIter_range (IsRange.new ..) (small_one h i l m) ?_;have d:ax X aa j H { s with heap:=s.heap.push { cls:=.type "range",data:=.fields ([.int lo t,.int a u,.int 1 v].toArray) },toks:=f }:=I.kept λb o e=>Ä _ e
 show#[(s.heap.push { cls:=.type "range",data:=.fields ([.int lo t,.int a u,.int 1 v].toArray) }).objs.size,[(s.heap.push { cls:=.type "range",data:=.fields ([.int lo t,.int a u,.int 1 v].toArray) }).objs.size],_,_,H,rfl,
  d.kept (t':=f) λb o e=>Ä _ e,OE _ lo (a - lo).toNat,?_,λb n=>?_,q]
 .have e1:lo+((0:Nat):Int)*1=lo:=by simp
  have g:(((a - lo).toNat:Nat):Int) - ((0:Nat):Int)=š lo a 1:=by rw[am2];split<;>omega
  change ag6 _ _ (lo+((0:Nat):Int)*1) ((((a - lo).toNat:Nat):Int) - ((0:Nat):Int)) 1;rw[e1,g];show Ø _ rfl
 .have e:b=(s.heap.push { cls:=.type "range",data:=.fields ([.int lo t,.int a u,.int 1 v].toArray) }).objs.size:=by simpa using n
  subst e;show d.fB (Ï _)<|d.aR.fresh<|Ï _
abbrev Ds(b:TA):TI:=λi H R=>b i H λvs a=>∃j:Int,vs=[.int j]/\-(2 ^ 62)<=j/\j<2 ^ 62/\R (oh 0 j.toNat) a
abbrev Dt(b:TA):TI:=λG H R=>b G H λvs a=>∃i j:Int,vs=[.int i,.int j]/\(-(2 ^ 62)<=i/\i<2 ^ 62/\-(2 ^ 62)<=j/\j<2 ^ 62)/\R (oh i (j - i).toNat) a
def PU{a:ę}{f:TA}{p pos:Pos}(m:Gl X "range")(hm:X.mg "range"=È)(l:PA X [a] f)(hs:do lA a X.env):PI X tg (.Call (.Name "range" p) [a] [] pos) (Ds f):=by
 intro aa s i H R I h;show Call_<|kH I m hm boot_range<|ø (bq (l pos aa s i H _ I h) λus w d=>?_) hs rfl;∎;let#[vs,v,g,o,b]:=d;let#[j,e,b,n,q]:=b;∎;subst e;cases o with
 |cons r u=>
  cases u;let#[t,rfl]:=r;show call_range_1 (Fe g ⋯ ⋯ b n (by simpa using q))
def PV(o:Gl X "range")(hm:X.mg "range"=È)(n:PA X [a,b] ta)(hs:do p9 a b X.env)(d:do lA b X.env):
  PI X tg (.Call (.Name "range" p) [a,b] [] pos) (Dt ta):=by
 intro aa s G H R I h;show Call_ (kH I o hm boot_range (ø (bq (n pos aa s G H _ I h) λus B l=>?_) (by rw[hs,d]) (by rw[d];rfl)));∎;let#[vs,A,m,y,f]:=l;let#[i,j,e,#[f,u,v,w],q]:=f;∎;subst e;cases y with
 |cons r g=>
  cases g with
  |cons x g=>
   cases g;let#[t,rfl]:=r;let#[C,rfl]:=x;show call_range_2<|Fe m f u v w q
abbrev yr(l:TI)(g:TG)(tb:TS):TS:=λD j H=>l j H λJ e=>∃W:Nat->Nat->St->Hp->Prop,(∃m,W 0 m j e)/\∀i m j H,W i m j H->
 (J.stop i H/\D.nx j H)\/(J.go i H/\∃N:St->Hp->Prop,(∀b a,N b a->∃d,d<m/\W (i+1) d b a)/\∀x a,J.mS i H x a->g x j a λh f=>tb { D with nx:=N,ct:=N,bk:=D.nx } h f)
abbrev r0(fp:cJ)(h:aV):aX:=fp.filterMap λb=>(h.get? b).map λo=>(b,o)
def vx(a:b∈fp)(e:h.get? b=À o):(b,o)∈r0 fp h:=ϋ.mpr #[b,a,by rw[e];rfl]
def PX(hp:p∈r0 fp h):p.1∈fp/\h.get? p.1=À p.2:=by
 let#[b,d,e]:=ϋ.mp hp;cases q:h.get? b with
 |none=>rw[q] at e;cases e
 |some o=>
  rw[q] at e;have a:(b,o)=p:=Ù e;subst a;show#[d,q]
def ax.pinned(I:ax X aa j H s)(l:∀b∈fp,hU X aa H b)(m:∀b∈fp,∃o,s.heap.get? b=À o/\∀v,o.data≠.cell v):ax X (aa++r0 fp s.heap) j H s:=
 I.fo λp n=>(Æ.mp n).elim (λz=>I.pin p<|ÿ _ z) λz=>by
  ∎;let#[f,e]:=PX z;let#[g,h,i,_]:=l p.1 f;let#[o,a,d]:=m p.1 f;∎;rw[e] at a;cases a;show#[e,g,h,i,d]
def ax.fG(I:ax X (aa++pl) j H s):ax X aa j H s:=I.fo λp a=>I.pin p<|ÿ _<|ş _ a
def HQ(hp:ZW `aa X.A X.env X.xe)(hc:X.calm=Â)(hi:PI X tg iter wi)(hg:PG X tg g)(q:fR X body tb)(hs:∀x,ĭ iter X.env x=pure x:=by intro _;rfl):PS X (.For tg iter body [] pos) (yr wi g tb):=by
 intro aa s j H D I h;show wpAny_For (bq `bM λv s1 h1=>bq h1 λδ s2 h2=>?_) hs;let#[it,L,tn,J,H2,e,I2,T,γ,f2,W,#[m0,w0],turn]:=h2;subst e;have B:∀{C:Hp},(∀b∈L,C b=È)->∀b∈L,hU X aa C b:=λhn b q=>#[hn b q,(f2 b q).2]
 show codeAny_forLoop_any (λn s'=>∃i O C,ax X aa O C s'/\tn i s'.heap/\(∀b∈L,C b=È)/\W i n O C) ?_ m0 #[0,j,H2,I2,γ,λb q=>(f2 b q).1,w0];intro n s3 zy;let#[i,Q,H3,I3,Y,M,w3]:=zy;rcases turn i n Q H3 w3 with⟨stop,qn⟩ |⟨go,N,hN,step⟩
 .show Ŝ hp (bq (T.done X rfl rfl rfl hc i aa s3 Q H3 X.xe I3 (B M) Y stop) λr s4 a=>?_);let#[hr,I4]:=a;subst hr;show Λ #[Q,H3,I4,qn]
 .show Ŝ hp (bq (T.item X rfl rfl rfl hc i aa s3 Q H3 X.xe I3 (B M) Y go) λr s4 a=>?_);let#[u,hr,h4]:=a;subst hr;show Ŝ hp<|bq h4 λ_ s5 a=>?_;let#[x,H5,I5,r5,y5,G,β]:=a;have α:=I5.pinned (B β)<|T.obj _ _ G;show Ŝ hp<|bq (hg _ s5 Q H5 x u _ α r5<|step x H5 y5) λ_ s6 a=>?_;let#[j6,H6,I6,q6]:=a;show Ŝ hp<|bq (q _ s6 j6 H6 _ I6 q6) λf s7 E=>?_;have again:∀{y:St}{l:Hp},ax X (aa++r0 L s5.heap) y l s7->N y l->∃m,m<n/\∃i O C,ax X aa O C s7/\tn i s7.heap/\(∀b∈L,C b=È)/\W i m O C:=λ{y l} p U=>by
   let#[m',hm,w7]:=hN y l U;show#[m',hm,i+1,y,l,p.fG,T.keep _ _ _ G λb q o e=>(p.pin (b,o)<|ÿ _<|ÿ _<|vx q e).1,λb q=>?_,w7];let#[o,e,d]:=T.obj _ _ G b q;show (p.pin (b,o)<|ÿ _<|ÿ _<|vx q e).2.1
  cases f with
  |next=>let#[y,l,p,U]:=E;show again p U
  |cont=>let#[y,l,p,U]:=E;show again p U
  |brk=>let#[y,l,p,E]:=E;show#[y,l,p.fG,E]
  |ret v=>let#[x7,y,l,p,r7,E]:=E;show#[x7,y,l,p.fG,r7,E]
end
nonrec abbrev R2:=V->V->Hp->VK->Prop
abbrev cu(X:Cx)(f:ao->ao->Sem Ϛ)(r:R2):Prop:=
 ∀(aa:aX)(s:aj)(j:St)(H:Hp)(x y:V)(v u:ao)(Q:VK),ax X aa j H s->aG x v->aG y u->r x y H Q->
  Ý `aa X.A (f v u) `ap X.xe s
abbrev xf(X:Cx)(f:ao->Sem Ϛ)(r:V->Hp->VK->Prop):Prop:=
 ∀(aa:aX)(s:aj)(j:St)(H:Hp)(x:V)(v:ao)(Q:VK),ax X aa j H s->aG x v->r x H Q->
  Ý `aa X.A (f v) `ap X.xe s
abbrev bQ(X:Cx)(f:ao)(r:ay->Hp->VK->Prop):Prop:=
 ∀(aa:aX)(s:aj)(j:St)(H:Hp)(a:ay)(us:aN)(Q:VK),ax X aa j H s->aH a us->r a H Q->
  Ý `aa X.A (call f us) `ap X.xe s
abbrev LO(X:Cx)(r:V->Hp->(Bool->Hp->Prop)->Prop):Prop:=
 ∀(aa:aX)(s:aj)(j:St)(H:Hp)(x:V)(v:ao)(Q:Bool->Hp->Prop),ax X aa j H s->aG x v->r x H Q->
  Ý `aa X.A `bZ `cQ X.xe s
abbrev pP(r:R2)(d tb:TE):TE:=λj H Q=>d j H λx a=>tb j a λy b=>r x y b Q
abbrev Jn(r:V->Hp->VK->Prop)(b:TE):TE:=λj H Q=>b j H λx a=>r x a Q
abbrev rI(C:Int->Int->Prop)(g:Int->Int->V):R2:=λx y H Q=>∃i j,x=.int i/\y=.int j/\C i j/\Q `cx H
abbrev jW(g:Int->Int->V):R2:=λx y H Q=>∃i j,x=.int i/\y=.int j/\Q `cx H
abbrev rU(g:Int->V):V->Hp->VK->Prop:=λx H Q=>∃i,x=.int i/\Q (g i) H
section
variable{X:Cx}{a b c:ę}{ta tb tc:TE}{pos:Pos}
def A8(p:PE X a ta)(q:PE X b tb){R:V->V->Hp->Prop}(I:ax X aa j H s)(h:ta j H λx m=>tb j m λy e=>R x y e){f:ao->ao->Sem Ϛ}(r:∀v u l x y e,ax X aa j e l->aG x v->aG y u->R x y e->Ý `aa X.A (f v u) Q X.xe l):
  Ý `aa X.A (eval a X.env) (λv g=>Ý `aa X.A (eval b X.env) (λu i=>Ý `aa X.A (f v u) Q X.xe i) X.xe g) X.xe s:=by
 show bq (p aa s j H _ I h) λv E d=>?_
 let#[x,m,n,D,B]:=d;show bq (q aa E j m _ n B) λu l d=>?_
 let#[y,e,o,r2,C]:=d;show r v u l x y e o D r2 C
def YP(i:cu X (ś op) r)(f:PE X a ta)(g:PE X b tb):PE X `dA `cj:=by
 intro aa s j H Q I h;show wpAny_BinOp<|A8 f g I h λv u n x y d e l m q=>i aa n j d x y v u Q e l m q
def YQ(i:xf X (unaryOp op) r)(g:PE X a ta):PE X (.UnaryOp op a pos) (Jn r ta):=by
 intro aa s j H Q I h;show UnaryOp_ (bq (g aa s j H _ I h) λv n d=>by let#[x,e,f,m,l]:=d;show i aa n j e x v Q f m l)
def wO{f:ao->ao->Sem Ϛ}{C:Int->Int->Prop}{g:Int->Int->Int}(rule:∀(i j:Int)(t u:Tok)(s:aj)(Q:ao->aj->Prop)(E:ao->aj->Prop),C i j->Q (.int `cx s.toks) { s with toks:=s.toks+1 }->Ý `aa X.A (f `bz<|.int j u) Q E s):
  cu X f (rI C λi j=>.int<|g i j):=by
 intro aa s G H x y v u Q I e l h;∎;let#[i,j,rfl,rfl,d,q]:=h;let#[t,rfl]:=e;let#[m,rfl]:=l;∎;show rule i j t m s _ _ d #[.int<|g i j,H,I.tok _,#[_,rfl],q]
def JH{f:ao->ao->Sem Ϛ}{g:Int->Int->Int}(rule:∀(i j:Int)(t u:Tok)(s:aj)(Q:ao->aj->Prop)(E:ao->aj->Prop),Q (.int `cx s.toks) { s with toks:=s.toks+1 }->Ý `aa X.A (f `bz<|.int j u) Q E s):
  cu X f (jW λi j=>.int<|g i j):=by
 intro aa s G H x y v u Q I d e h;∎;let#[i,j,rfl,rfl,q]:=h;let#[t,rfl]:=d;let#[l,rfl]:=e;∎;show rule i j t l s _ _ #[.int<|g i j,H,I.tok _,#[_,rfl],q]
def A9{f:ao->ao->Sem Ϛ}{g:Int->Int->Bool}(rule:∀(i j:Int)(t u:Tok)(s:aj)(Q:ao->aj->Prop)(E:ao->aj->Prop),Q (.bool<|g i j) s->Ý `aa X.A (f `bz<|.int j u) Q E s):
  cu X f (jW λi j=>.bl<|g i j):=by
 intro aa s G H x y v u Q I d e h;∎;let#[i,j,rfl,rfl,q]:=h;let#[t,rfl]:=d;let#[l,rfl]:=e;∎;show rule i j t l s _ _ #[.bl<|g i j,H,I,rfl,q]
abbrev vg(i j:Int):Prop:=0<=j/\j<=1000000/\i.natAbs<2 ^ 64
abbrev lX(i j:Int):Prop:=(-(2 ^ 64)<i/\i<2 ^ 64)\/(-(2 ^ 64)<j/\j<2 ^ 64)
def lX.ok(h:lX i j):IntMulOk i j:=by
 rcases h with⟨d,e⟩ |⟨d,e⟩
 .show .of_left (intBits_le_64 d e)
 .show .of_right (intBits_le_64 d e)
def LG:cu X `dg (jW λi j=>.int<|i+j):=JH λ_ _ _ _ _ _ _ q=>add_int q
def XB:cu X (ś .Sub) (jW λi j=>.int<|i - j):=JH λ_ _ _ _ _ _ _ q=>sub_int q
def XC:cu X (ś .Mod) (rI (λ_ j=>0<j) λi j=>.int<|i % j):=wO λi j _ _ _ _ _ d q=>by
 have e:(0:Int)<j:=d;show mod_int' ⋯ (by rw[Int.fmod_eq_emod_of_nonneg i ⋯];show q)
def XE:cu X (ś .Pow) (rI vg λi j=>.int<|i ^ j.toNat):=wO λ_ _ _ _ _ _ _ d q=>pow_int_small d.1 d.2.1 d.2.2 q
def UY{f:ao->Sem Ϛ}{g:Int->Int}(rule:∀(i:Int)(t:Tok)(s:aj)(Q:ao->aj->Prop)(E:ao->aj->Prop),Q (.int (g i) s.toks) { s with toks:=s.toks+1 }->Ý `aa X.A (f<|.int i t) Q E s):
  xf X f (rU λi=>.int<|g i):=by
 intro aa s j H x v Q I d h;∎;let#[i,rfl,q]:=h;let#[t,rfl]:=d;∎;show rule i t s _ _ #[.int<|g i,H,I.tok _,#[_,rfl],q]
def XG:xf X (unaryOp .USub) (rU λi=>.int (-i)):=UY λ_ _ _ _ _ q=>neg_int q
end
abbrev yt:V->V->Bool
 |.aT,.aT=>Â |.aT,.int _=>Â |.int _,.aT=>Â |.aT,.bl _=>Â |.bl _,.aT=>Â |.aT,.str _=>Â |.str _,.aT=>Â
 |.int _,.int _=>Â |.bl _,.bl _=>Â |.str _,.str _=>Â |.iG _,.iG _=>Â
 |.int _,.str _=>Â |.str _,.int _=>Â |.bl _,.str _=>Â |.str _,.bl _=>Â
 |_,_=>É
abbrev Ba:R2:=λx y H Q=>yt x y=Â/\Q (.bl<|decide<|x=y) H
abbrev tY:R2:=λx y H Q=>yt x y=Â/\Q (.bl (!decide (x=y))) H
def F3:decide (V.int i=V.int j)=(i == j):=by
 rw[ų];simp
def HR:decide (V.bl i=V.bl j)=(i == j):=by
 rw[ų];simp
def F6:decide (V.str i=V.str j)=(i == j):=by
 rw[ų];simp
def F7:decide (V.iG i=V.iG j)=(i.toList == j.toList):=by
 rw[ų];cases i;cases j;simp
section
variable{X:Cx}{a b c:ę}{ta tb tc:TE}{pos:Pos}
def cQ{Q:VK}(I:ax X aa j H s)(q:Q (.bl k) H)(e:k=k'):EP X aa j Q (.bool k') s:=by
 subst e;show#[.bl k,H,I,rfl,q]
def LI:cu X (ú .Eq) Ba:=by
 intro aa s G H x y v u Q I g d h;let#[f,q]:=h;cases x with
 |aT=>
  cases g;cases y with
  |aT=>cases d;show PySem.EqNone.eq_none_none (cQ I q<|by simp)
  |bl j=>cases d;show PySem.EqNone.eq_none_bool (cQ I q<|by simp)
  |int j=>let#[e,rfl]:=d;show PySem.EqNone.eq_none_int (cQ I q<|by simp)
  |str j=>let#[e,rfl]:=d;show PySem.EqNone.eq_none_str (cQ I q<|by simp)
  |_=>show ao8 (show É=Â from f) â
 |bl i=>
  cases g;cases y with
  |aT=>cases d;show PySem.EqNone.eq_bool_none (cQ I q<|by simp)
  |bl j=>cases d;show eq_bool<|cQ I q HR
  |str j=>let#[e,rfl]:=d;show PySem.EqMixed.eq_bool_str (cQ I q<|by simp)
  |_=>show ao8 (show É=Â from f) â
 |int i=>
  let#[t,rfl]:=g;cases y with
  |aT=>cases d;show PySem.EqNone.eq_int_none (cQ I q<|by simp)
  |int j=>let#[e,rfl]:=d;show eq_int<|cQ I q F3
  |str j=>let#[e,rfl]:=d;show PySem.EqMixed.eq_int_str (cQ I q<|by simp)
  |_=>show ao8 (show É=Â from f) â
 |str i=>
  let#[t,rfl]:=g;cases y with
  |aT=>cases d;show PySem.EqNone.eq_str_none (cQ I q<|by simp)
  |bl j=>cases d;show PySem.EqMixed.eq_str_bool (cQ I q<|by simp)
  |int j=>let#[e,rfl]:=d;show PySem.EqMixed.eq_str_int (cQ I q<|by simp)
  |str j=>let#[e,rfl]:=d;show eq_str<|cQ I q F6
  |_=>show ao8 (show É=Â from f) â
 |iG i=>
  let#[t,rfl]:=g;cases y with
  |iG j=>let#[e,rfl]:=d;show W.eq_bytes<|cQ I q F7
  |_=>show ao8 (show É=Â from f) â
 |_=>cases y <;> show ao8 (show É=Â from f) â
def Du:cu X `cy tY:=by
 intro aa s G H x y v u Q I g d h;let#[f,q]:=h;cases x with
 |aT=>
  cases g;cases y with
  |aT=>cases d;show PySem.EqNone.ne_none_none (cQ I q<|by simp)
  |bl j=>cases d;show PySem.EqNone.ne_none_bool (cQ I q<|by simp)
  |int j=>let#[e,rfl]:=d;show PySem.EqNone.ne_none_int (cQ I q<|by simp)
  |str j=>let#[e,rfl]:=d;show PySem.EqNone.ne_none_str (cQ I q<|by simp)
  |_=>show ao8 (show É=Â from f) â
 |bl i=>
  cases g;cases y with
  |aT=>cases d;show PySem.EqNone.ne_bool_none (cQ I q<|by simp)
  |bl j=>cases d;show ne_bool<|cQ I q<|ap2 not HR
  |str j=>let#[e,rfl]:=d;show PySem.EqMixed.ne_bool_str (cQ I q<|by simp)
  |_=>show ao8 (show É=Â from f) â
 |int i=>
  let#[t,rfl]:=g;cases y with
  |aT=>cases d;show PySem.EqNone.ne_int_none (cQ I q<|by simp)
  |int j=>let#[e,rfl]:=d;show ne_int<|cQ I q<|ap2 not F3
  |str j=>let#[e,rfl]:=d;show PySem.EqMixed.ne_int_str (cQ I q<|by simp)
  |_=>show ao8 (show É=Â from f) â
 |str i=>
  let#[t,rfl]:=g;cases y with
  |aT=>cases d;show PySem.EqNone.ne_str_none (cQ I q<|by simp)
  |bl j=>cases d;show PySem.EqMixed.ne_str_bool (cQ I q<|by simp)
  |int j=>let#[e,rfl]:=d;show PySem.EqMixed.ne_str_int (cQ I q<|by simp)
  |str j=>let#[e,rfl]:=d;show ne_str<|cQ I q<|ap2 not F6
  |_=>show ao8 (show É=Â from f) â
 |iG i=>
  let#[t,rfl]:=g;cases y with
  |iG j=>let#[e,rfl]:=d;show W.ne_bytes<|cQ I q<|ap2 not F7
  |_=>show ao8 (show É=Â from f) â
 |_=>cases y <;> show ao8 (show É=Â from f) â
def LJ:cu X (ú .Lt) (jW λi j=>.bl<|decide<|i<j):=A9 λ_ _ _ _ _ _ _ q=>lt_int q
def LK:cu X (ú .Gt) (jW λi j=>.bl<|decide<|j<i):=A9 λ_ _ _ _ _ _ _ q=>gt_int q
def YR:cu X (ú .GtE) (jW λi j=>.bl<|decide<|j<=i):=A9 λ_ _ _ _ _ _ _ q=>ge_int q
def PY:cu X (ú .Lt) (λx y H Q=>∃i j,x=.str i/\y=.str j/\Q (.bl<|decide<|i.cps.toList<j.cps.toList) H):=by
 intro aa s G H x y v u Q I d e h;∎;let#[i,j,rfl,rfl,q]:=h;let#[t,rfl]:=d;let#[f,rfl]:=e;∎;show lt_str<|cQ I q rfl
def XH:cu X (ú .Is) (λx y H Q=>y=.aT/\Q (.bl<|decide<|x=.aT) H):=by
 intro aa s j H x y v u Q I d e h;let#[rfl,q]:=h;cases e;show is_none_gen<|cQ I q ?_;cases x<;>first
  |(cases d;rfl)
  |(let⟨t,rfl⟩:=d;rfl)
def Uq:cu X (ú .IsNot) (λx y H Q=>y=.aT/\Q (.bl (!decide (x=.aT))) H):=by
 intro aa s j H x y v u Q I d e h;let#[rfl,q]:=h;cases e;show isnot_none_gen<|cQ I q ?_;cases x<;>first
  |(cases d;rfl)
  |(let⟨t,rfl⟩:=d;rfl)
def cu.or{r d:R2}(h:cu X f r)(h':cu X f d):cu X f (λx y H Q=>r x y H Q\/d x y H Q):=by
 intro aa s j H x y v u Q I e g q;rcases q with q |q
 .show h aa s j H x y v u Q I e g q
 .show h' aa s j H x y v u Q I e g q
def XI(b:ę)(h: ~~~(op≠.In))(f: ~~~(op≠.NotIn)):ϸ op b=É:=by
 have d:(op == CmpOp.In)=É:=by cases op<;>first |rfl |show ao8 rfl h
 have e:(op == CmpOp.NotIn)=É:=by cases op<;>first |rfl |show ao8 rfl f
 cases b<;>simp[ϸ,d,e]
def Ur(i:cu X (ú op) r)(f:PE X a ta)(g:PE X b tb)(hm:ϸ op b=É):PE X (.Compare a [op] [b] pos) `cj:=by
 intro aa s j H Q I h;show wpAny_Compare1 (A8 f g I h λv u n x y d e l m q=>i aa n j d x y v u Q e l m q) hm
abbrev u7(t:TE):TT:=λj H Q=>t j H λx H'=>∃k,x=.bl k/\Q k H'
def F8(g:cu X (ú op) r)(d:PE X a ta)(f:PE X b tb)(hm:ϸ op b=É):PT X (.Compare a [op] [b] pos) (u7<|pP r ta tb):=by
 intro aa s j H Q I h;show wpAny_isTrue_Compare1 (bq (d aa s j H _ I h) λv i ⟨x,H1,I1,r1,q1⟩=>bq (f aa i j H1 _ I1 q1) λu l ⟨y,H2,I2,r2,q2⟩=>
  bq (g aa l j H2 x y v u _ I2 r1 r2 q2) λc m ⟨z,H3,I3,r3,k,e,q3⟩=>?_) hm
 subst e;cases r3;show ϫ #[H3,I3,q3]
abbrev yu(K:aq)(x:V)(H:Hp)(k:Bool):Prop:=
 match x with
 |.aT=>k=É
 |.bl b=>k=b
 |.int i=>k=(i != 0)
 |.str y=>↑y <= Ô /\ k=((↑y:Int) != 0)
 |.iG y=>y.size <= Ô /\ k=((y.size:Int) != 0)
 |.ref p=>(∃e,bE K H p e /\ k = !e.isEmpty) \/ (∃e,df K H p e /\ k = !e.isEmpty) \/ ∃d,H p=À `cz /\ k = !d.isEmpty
 |_=>False
def O4(r:KV kvs vs):(!vs.isEmpty)=!kvs.isEmpty:=by
 cases r<;>rfl
def Es(r:aH xs bu):(!bu.toArray.isEmpty)=!xs.isEmpty:=by
 cases r<;>simp
def qR:(Ô:Nat)<2 ^ 63:=by rw[Ī];decide
def XJ:LO X (λx H Q=>∃k,yu X.K x H k/\Q k H):=by
 intro aa s j H x v Q I n h;let#[k,e,q]:=h;have E:=qR;have G:Ô=16777216:=Ī;cases x with
 |aT=>
  cases n;have d:k=É:=e;subst d;show truthy_none #[H,I,q]
 |bl b=>
  cases n;have d:k=b:=e;subst d;show ϫ #[H,I,q]
 |int i=>
  let#[t,rfl]:=n;have d:k=(i != 0):=e;subst d;show PySem.P.truthy_int #[H,I,q]
 |str y=>
  let#[t,rfl]:=n;obtain⟨D,d⟩:↑y<=Ô/\k=((↑y:Int) != 0):=e;subst d;show PySem.P.truthy_str ⋯ #[H,I.tok _,q]
 |iG y=>
  let#[t,rfl]:=n;obtain⟨D,d⟩:y.size<=Ô/\k=((y.size:Int) != 0):=e;subst d;show W.truthy_bytes ⋯ #[H,I.tok _,q]
 |ref p=>
  cases n;have d:(∃l,bE X.K H p l/\k=!l.isEmpty)\/(∃l,df X.K H p l/\k=!l.isEmpty)\/∃f,H p=À (.dK f)/\k=!f.isEmpty:=e;rcases d with⟨l,o,d⟩ |⟨l,o,d⟩ |⟨f,o,d⟩
  .subst d;let#[u,r,A,B]:=I.list o;have g:=↑r;show wpAny_truthy_list A.isList (by simp only[ã];omega) #[H,I.tok _,by rw[Es r];show q]
  .subst d;let#[u,r,A,B]:=I.tuple o;have g:=↑r;show truthy_tuple A (by simp only[ã];omega) #[H,I.tok _,by rw[Es r];show q]
  .subst d;obtain⟨B,C,vs,r,m⟩:↑f<=Ô/\(p == ř)=É/\∃vs,KV f vs/\s.heap.DictOf `aK p vs:=I.aR p _ o;have g:↑f=↑vs:=Paired.length r;show wpAny_truthy_dict C m ⋯ #[H,I.tok _,by rw[O4 r];show q]
 |_=>show (show False from e).elim
def Sg(i:PE X a ta)(he:∀whole,af4 a X.env whole=(do let v <- whole;Z5 a.pos;holding [v] `bZ)):
  PT X a (λj H Q=>ta j H λx e=>∃k,yu X.K x e k/\Q k e):=by
 intro aa s j H Q I h;show isTrue_plain (bq (i aa s j H _ I h) λv n d=>by let#[x,f,g,m,l]:=d;show XJ aa n j f x v Q g m l)<|he _
def Lo:cu X `dg (λx y H Q=>∃i j,x=.str i/\y=.str j/\↑i+↑j<=Ô/\Q (.str<|i++j) H):=by
 intro aa s G H x y v u Q I e f h;∎;let#[i,j,rfl,rfl,d,q]:=h;let#[t,rfl]:=e;let#[g,rfl]:=f;∎;show add_str (λg l=>#[.str<|i++j,H,I.tok _,#[_,rfl],q]) d
def jM(r:aH [x] us):∃u,us=[u]/\aG x u:=by
 cases r with
 |cons d r2=>cases r2;show#[_,rfl,d]
def yU:bQ X (.builtin "abs") (λxs H Q=>∃i,xs=[.int i]/\Q (.int (if i<0 then -i else i)) H):=by
 intro aa s j H xs us Q I r h;∎;let#[i,rfl,q]:=h;let#[u,rfl,t,rfl]:=jM r;∎;show call_abs_int λu d=>#[.int (if i<0 then -i else i),H,I.tok _,#[_,rfl],q]
abbrev DC(K:aq)(x:V)(H:Hp)(n:Nat):Prop:=
 match x with
 |.str y=>↑y <= Ô /\ n=↑y
 |.iG y=>y.size <= Ô /\ n=y.size
 |.ref p=>(∃d,bE K H p d /\ n=↑d) \/ ∃d,df K H p d /\ n=↑d
 |_=>False
def Ly:bQ X (.builtin "len") (λxs H Q=>∃x n,xs=[x]/\DC X.K x H n/\Q `aQ H):=by
 intro aa s j H xs us Q I r h;∎;let#[x,n,rfl,e,q]:=h;let#[u,rfl,o]:=jM r;∎;have A:=qR;have B:Ô=16777216:=Ī;cases x with
 |str y=>
  let#[t,rfl]:=o;obtain⟨v,f⟩:↑y<=Ô/\n=↑y:=e;subst f;show len_str ⋯ #[.int _,H,I.tok _,#[_,rfl],q]
 |iG y=>
  let#[t,rfl]:=o;obtain⟨v,f⟩:y.size<=Ô/\n=y.size:=e;subst f;show W.len_bytes ⋯ #[.int _,H,I.tok _,#[_,rfl],q]
 |ref p=>
  cases o;have f:(∃xs,bE X.K H p xs/\n=↑xs)\/∃xs,df X.K H p xs/\n=↑xs:=e;rcases f with⟨xs,g,f⟩ |⟨xs,g,f⟩
  .subst f;let#[i,m,l,w]:=I.list g;have d:=↑m;show Calls.call_len_list l.isList (by simp only[ã];omega) #[.int ↑xs,H,I.tok _,#[_,by simp only[ã];rw[d]],q]
  .subst f;let#[i,m,l,w]:=I.tuple g;have d:=↑m;show len_tuple l (by simp only[ã];omega) #[.int ↑xs,H,I.tok _,#[_,by simp only[ã];rw[d]],q]
 |_=>show (show False from e).elim
end
structure g9(h:aV)(x dx C:ai)(mA:bw):Prop where
 obj:h.get? x=À (Ρ C dx)
 ns:h.Ns1 dx mA
 ne:dx≠x
def PZ{h:aV}{f:ai}{i:bw}(n:h.Ns1 f i):∃od,h.get? f=À od/\∀b,W.lookIn b od=À (i b):=by
 let#[o,g,r,m,hd,l,_,hm]:=n;show#[o,m,λb=>?_];have e:=hm b;unfold nsFind findBy at e;rw[<- al1] at e;unfold W.lookIn;rw[hd];dsimp only;split
 .rename_i y q;rw[q] at e;show ap2 À e
 .rename_i q;rw[q] at e;have a:g.toList.any (·.refKey)=É:=by
   rw[List.any_eq_false];intro y p;let#[z,t,d]:=l y<|Array.mem_toList_iff.mp p;simp[DictEntry.refKey,d]
  have j:¬ g.toList.any (·.refKey)=Â:=by rw[a];show â
  rw[ao6 j];show ap2 À e
def g9.look{b:bw}(I:g9 h x dx C b):∃od,W.InstAt h x (Ρ C dx) C (À od)/\∀a,W.lookIn a od=À (b a):=
 let ⟨od,ho,hl⟩:=PZ I.ns
 #[od,#[I.obj,rfl,rfl,ho],hl]
section
variable{prog:ð}{w:ă}{A:ĉ}{E:ao->aj->Prop}{s:aj}{K:aq}{x dx C f:ai}{mA:bw}{name:Str}{v:ao}
def Us{Q:ao->aj->Prop}(X:K.In s.heap)(I:g9 s.heap x dx C mA)(d:ah4 K C name=Â)(e:W.hasDictIn K C=Â)(b:ğ K `ai name=À È)(i:mA name=À v)(a:W.handedIn v=Â)(h:Q v { s with toks:=s.toks+1 }):
  Ý `ad A (getAttr `bb name expr) Q E s:=by
 let#[od,J,g]:=I.look;show W.get_value X J (ak0 d).1 (W.findObj_own e b rfl<|by rw[g,i]) a h
def Ff{Q:ao×aN->aj->Prop}(X:K.In s.heap)(I:g9 s.heap x dx C mA)(a:ah4 K C name=Â)(b:ğ K `ai name=À (À<|.ref f))(ht:ae0 K `aq=Â)(e:mA name=È)(h:Q (.ref f,[.ref x]) s):
  Ý `ad A (getMethod `bb name pl) Q E s:=by
 let#[od,J,d]:=I.look;show W.method_fn X J (ak0 a).1 (ak0 a).2 b (beq_iff_eq.mp ht) (by change (W.lookIn name od).map (·.isSome)=À É;rw[d,e];rfl) h
def Ut{Q:Unit->aj->Prop}(X:K.In s.heap)(I:g9 s.heap x dx C mA)(hs:ğ K `ai "__setattr__"=À (À<|.builtin "object.__setattr__"))(hp:W.plainOver K C=Â)(ht:W.takerIn K C name=À È)(p:W.hasDictIn K C=Â)(q:PySem.Within mA ns)(hsz:↑ns<=Ô)(h:∀h',g9 h' x dx C (λy=>if y=name then À v else mA y)->ZD dx s.heap h'->Q () { s with heap:=h',toks:=s.toks+2 }):
  Ý `ad A (setAttr `bb name v) Q E s:=by
 let#[od,J,D]:=I.look;show W.set_plain X J hs (W.osa_open (s:={ s with toks:=s.toks+1 }) (r:=È) X J hp ht λb=>?_);let#[B,o,i]:=W.any_some p;have u:s.heap.get? x=À #[.ref C,À dx,.plain,([].toArray)]:=I.obj;show Ë (Ü (Ë (Ë (ak5 u (Ë (aj7 (s:={ s with toks:=s.toks+1 }) (ae6 X o) ?_))))));rw[i];show Ü (a:=À dx)<|Ë<|Ü<|Ë ?_;show wpAny_nsSet1 (s:={ s with toks:=s.toks+1 }) I.ns λh' d e=>?_
 let#[G,n,m,l,j,g]:=d.count<|PySem.Within.cons name v q;show Ë (af7 l (by rw[j];show af6 (Ñ g (by rw[Ú];omega))) ?_);show Ü<|h _ #[(e.2 _<|Ć I.ne).trans I.obj,d,I.ne] e
def Sh(X:K.In s.heap)(hm:W.makesIn K C=Â)(b:ğ K `ai "__init__"=À (À<|.ref f))(a:W.typeIn K `aq=À (.type "function"))(h:Ŷ `ad (A.under<|.builtin "type.__call__" #[.ref C::vs,kw]) (.call `aq #[.ref (⇑s+1)::vs,kw]) (W.InitBack (⇑s+1) R)
   { s with heap:=(s.heap.push Ũ).push `dB }):
  Ŷ `ad A (.call `ai #[vs,kw]) R s:=by
 let#[e,g,d,t,os]:=s;show W.make_core (W.makes_of X hm) (W.looks_findIn X b) (λself=>W.bind_fn X self a) `aj h
end
abbrev fN(f:Str)(v:V):List (Str×V)->List (Str×V)
 |[]=>[(f,v)]
 |(g,x)::r=>if g=f then (g,v)::r else (g,x)::fN f v r
def Ez(f g:Str)(v:V):∀fs:List (Str×V),(fN f v fs).lookup g=if g=f then À v else fs.lookup g
 |[]=>by
  change ł g [(f,v)]=_;by_cases h:g=f
  .have hb:(g == f)=Â:=beq_iff_eq.mpr h;simp only[ł,hb,ao7 h]
  .have hb:(g == f)=É:=beq_eq_false_iff_ne.mpr h;simp only[ł,hb,ao6 h]
 |(k,x)::r=>by
  have b:=Ez f g v r;rw[show fN f v ((k,x)::r)=(if k=f then (k,v)::r else (k,x)::fN f v r) from rfl];by_cases a:k=f
  .rw[ao7 a];by_cases h:g=k
   .have hb:(g == k)=Â:=beq_iff_eq.mpr h;simp only[ł,hb,ao7<|h.trans a]
   .have hb:(g == k)=É:=beq_eq_false_iff_ne.mpr h;simp only[ł,hb,ao6 (λe:g=f=>h<|e.trans a.symm)]
  .rw[ao6 a];by_cases h:g=k
   .have hb:(g == k)=Â:=beq_iff_eq.mpr h;simp only[ł,hb,ao6 (λe:g=f=>a<|h.symm.trans e)]
   .have hb:(g == k)=É:=beq_eq_false_iff_ne.mpr h;simp only[ł,hb];show b
def yI(f:Str)(v:V):∀fs:List (Str×V),f∈(fN f v fs).map (·.1)/\∀g,g∈fs.map (·.1)->g∈(fN f v fs).map (·.1)
 |[]=>#[by simp[fN],λg h=>by simp at h]
 |(k,x)::r=>by
  let#[b,d]:=yI f v r;rw[show fN f v ((k,x)::r)=(if k=f then (k,v)::r else (k,x)::fN f v r) from rfl];by_cases a:k=f
  .rw[ao7 a];subst a;show#[by simp,λg h=>by simpa using h]
  .rw[ao6 a];show#[?_,λg h=>?_]
   .rw[ë];show Ğ _ b
   .rw[ë] at h ⊢;rcases æ.mp h with e |e
    .show æ.mpr (.inl e)
    .show Ğ _ (d g e)
def EA(f:Str)(v:V):∀fs:List (Str×V),(fN f v fs).length<=↑fs+1
 |[]=>by simp[fN]
 |(k,x)::r=>by
  have b:=EA f v r;rw[show fN f v ((k,x)::r)=(if k=f then (k,v)::r else (k,x)::fN f v r) from rfl];by_cases a:k=f
  .rw[ao7 a,Ú,Ú];omega
  .rw[ao6 a,Ú,Ú];omega
def b7.some_of(r:b7 (À v) o):∃u,o=À u/\aG v u:=by
 cases o with
 |none=>show (show False from r).elim
 |some u=>show#[u,rfl,r]
def b7.none_of(r:b7 È o):o=È:=by
 cases o with
 |none=>rfl
 |some u=>show (show False from r).elim
def P0(r:aG v u):W.handedIn u=Â:=by
 cases v with
 |aT=>cases (show u=ŵ from r);rfl
 |bl b=>cases (show u=aa6 b from r);rfl
 |int i=>let#[t,e]:=(show ∃t,u=ϝ i t from r);cases e;rfl
 |str x=>let#[t,e]:=(show ∃t,u=ac6 x t from r);cases e;rfl
 |iG b=>let#[t,e]:=(show ∃t,u=Value.bytes b t from r);cases e;rfl
 |v8 b=>let#[t,e]:=(show ∃t,u=Value.float b t from r);cases e;rfl
 |ref a=>cases (show u=å a from r);rfl
 |ty n=>cases (show u=ĳ n from r);rfl
section
variable{P:ð}{w:ă}{H H':Hp}{h h':aV}{a C dx:ai}{fs fs':List (Str×V)}
def Uu(aR:dD P w H h)(e:H a=À `bk):∃b,g9 h a dx C b/\(∀f,b7 `aO<|b f)/\PySem.Within b (fs.map (·.1))/\↑fs<=1000/\H dx=À `cO:=by
 let#[d,z,ne,g,b,n,r,q]:=(show bp P w H h a `bk from aR a _ e);show#[b,#[g,n,ne],r,q,z,d]
end
structure g6(K:aq)(C:ai):Prop where
 pg:ah4 K C Str.empty=Â
 hd:W.hasDictIn K C=Â
 po:W.plainOver K C=Â
 sa:ğ K `ai "__setattr__"=À (À<|.builtin "object.__setattr__")
def g6.get{K:aq}{C:ai}(c:g6 K C)(f:Str):ah4 K C f=Â:=c.pg
abbrev bo(K:aq)(C:ai)(f:Str):Prop:=ğ K `ai f=À È
def bo.tZ{K:aq}{C:ai}{f:Str}(n:bo K C f):W.takerIn K C f=À È:=by
 unfold W.takerIn;rw[show ğ K `ai f=À È from n];rfl
structure DE(K:aq)(C:ai)(m:Str)(f:ai):Prop where
 at_:ğ K `ai m=À (À<|.ref f)
 fn:ae0 K `aq=Â
 kp:ź K `aq=Â
section
variable{X:Cx}{aa:aX}{σ:St}{H:Hp}{s:aj}{a C dx:ai}{fs:List (Str×V)}{f:Str}{v:V}{A:ĉ}{E:ao->aj->Prop}
def O5{Q:Unit->aj->Prop}(I:ax X aa σ H s)(e:H a=À `bk)(c:g6 X.K C)(n:bo X.K C f)(J:↑fs<1000)(G:aG y u)(h:∀s',ax X aa σ (aQ H a<|.ins C dx<|fN f y fs) s'->Q () s'):Ý `aa A (setAttr `aA f u) Q E s:=by
 let#[j,O,r,l,_,i]:=Uu I.aR e;have D:(fs.map (·.1)).length<=Ô:=by rw[Å,Ī];omega
 show Ut I.eO O c.sa c.po n.tZ c.hd l D λm d sb=>h _ ?_
 have hd:∃o,m.get? dx=À o:=let ⟨o,_,_,e',_⟩:=d.ns;#[o,e']
 show I.write (x:=a) (e:=dx) (by rw[e];show ý) (.inr i) (λb q p z=>(sb.2 b p).trans z) hd ?_;show#[by rw[a6 O.ne];show i,?_,O.ne,d.obj,_,d.ns,λg=>?_,λg B=>?_]
 .have:=EA f y fs;omega
 .show b7 ((fN f y fs).lookup g) (if g=f then À u else j g);rw[Ez];by_cases q:g=f
  .rw[ao7 q,ao7 q];show G
  .rw[ao6 q,ao6 q];show r g
 .by_cases q:g=f
  .rw[q];show (yI f y fs).1
  .show (yI f y fs).2 g (l g λz=>B ?_);change (if g=f then À u else j g)=È;rw[ao6 q];show z
def ax.made(I:ax X aa σ H s):ax X aa σ (aQ (aQ H ⇑s (.own<|⇑s+1)) (⇑s+1)<|.ins C ⇑s [])
  { s with heap:=(s.heap.push Ũ).push `dB }:=by
 have d:(s.heap.push Ũ).get? ⇑s=À Ũ:=Ø s.heap rfl;have h:((s.heap.push Ũ).push<|Ρ C ⇑s).get? (⇑s+1)=À `dB:=by
  have:=Ø (s.heap.push Ũ) (o:=Ρ C ⇑s) rfl;rwa[ϑ] at this
 have i:(s.heap.push Ũ).Ns ⇑s (λ_=>È):=#[Ũ,([].toArray),_,d,rfl,(λe j=>ao8 j<|by simp),λ_=>rfl]
 have g:=I.laid (a:=⇑s) (o:=.own<|⇑s+1) (h':=s.heap.push Ũ) (t':=s.toks) (λb u q=>Ä _ q) (Ï _) #[_,d];show g.laid (a:=⇑s+1) (o:=.ins C ⇑s []) (t':=s.toks) (λb u q=>Ä _ q) (Nat.le_of_eq<|ϑ _ _) ?_;have ne:⇑s≠⇑s+1:=ì<|ŧ _;show#[by rw[a6 ne,cD],Ĝ _,ne,h,λ_=>È,(aj6 i).at λo q=>Ä _ q,λ_=>ý,λy l=>ao8 rfl l]
def Uv(d:Ė e f env (eval e env)=eval e env)(h:Ý `ad A (eval e env) (λo b=>Ý `ad A (getAttr o f Â) Q E b) E s):Ý `ad A (eval `aZ env) Q E s:=
 Attribute_any_ h (by rw[arm_eval_Attribute,d])
end
abbrev yv(K:aq)(g h:TE)(f:Str):TS:=λD j H=>h j H λy e=>g j e λx b=>∃a C d fs,x=.ref a/\b a=À (.ins C d fs)/\g6 K C/\bo K C f/\↑fs<1000/\
 D.nx j (aQ b a<|.ins C d<|fN f y fs)
section
variable{X:Cx}{o e value:ę}{f:Str}{pos pos' tpos:Pos}{ta tv:TE}
def HS(v:PE X o ta)(w:PE X value tv)(hs:Į value (À<|.Attribute o f pos') pos.line X.env=pure É):PS X (.Assign [.Attribute o f pos'] value pos) (yv X.K ta tv f):=by
 intro aa s j H D I h;show ae7 (bq (w aa s j H _ I h) λu G b=>?_) hs;let#[y,g,i,E,q]:=b;show bq (v aa G j g _ i q) λov M d=>?_
 let#[x,J,m,B,a,C,L,fs,ex,r,c,n,l,A]:=d;subst ex;obtain rfl:ov=å a:=B;show O5 m r c n l E λN p=>#[j,_,p,A]
end
structure bA(k:Nat)(A:ĉ):Prop where
 hd:A.handled=È
 dp:A.depth+3*k+5<recursionLimit
 un:A.units+16*k+200<Ĭ
def bA.mono(r:bA k A)(h:j<=k):bA j A:=#[r.hd,by have:=r.dp;omega,by have:=r.un;omega]
def bA.deeper(r:bA (k+1) A)(env:Env):bA k (A.deeper env):=
 #[r.hd,by have:=r.dp;change A.depth+1+3*k+5<_;omega,by have:=r.un;change A.units+3+16*k+200<_;omega]
def O6{A:ĉ}{C:ai}{us:aN}{a:List (Str×ao)}:(A.under<|.builtin "type.__call__" #[.ref C::us,a]).depth=A.depth+1:=by
 first |rfl |simp[ag4,Code.weight,Code.isCreation,Code.isGuard,Code.isCaller,Code.frames,ai7,guardIds]
def O7{A:ĉ}{C:ai}{us:aN}{a:List (Str×ao)}:(A.under<|.builtin "type.__call__" #[.ref C::us,a]).units=A.units+1:=by
 first |rfl |simp[ag4,Code.cUnits,Code.frames,ai7]
def bA.make(r:bA (k+1) A)(C:ai)(us:aN)(a:List (Str×ao)):bA k (A.under<|.builtin "type.__call__" #[.ref C::us,a]):=
 #[r.hd,by have:=r.dp;rw[O6];omega,by have:=r.un;rw[O7];omega]
def bA.depth(r:bA k A):A.depth<recursionLimit:=by have:=r.dp;omega
def bA.units(r:bA k A):A.units+64<Ĭ:=by have:=r.un;omega
abbrev jK:TA:=λ_ H Q=>Q [] H
abbrev jI(d:TE)(tr:TA):TA:=λj H Q=>d j H λx a=>tr j a λe b=>Q (x::e) b
section
variable{X:Cx}{e:ę}{es:bN}{te:TE}{t:TA}{pos:Pos}
def lL:PA X [] jK:=λ_ _ _ _ H Q I h=>ύ #[[],H,I,.nil,h]
def kI(l:PE X e te)(m:PA X es t)(hs:do d0 e es X.env):PA X (e::es) (jI te t):=by
 intro pos aa s j H Q I h;rw[hs];change Ý _ _ (spliced ((É,eval e X.env)::ű pos (Ă es X.env))) _ _ s;show Ō<|bq (l aa s j H _ I h) λu q a=>?_;let#[x,d,g,p,n]:=a;show bq (m pos aa q j d _ g n) λus v b=>by let#[r,f,i,r2,o]:=b;show#[x::r,f,i,.cons p r2,o]
abbrev DF(t:TA):TE:=λj H Q=>t j H λb a=>↑b<=Ô/\∀p,a p=È->Q `ak (aQ a p<|.aL b)
abbrev DG(t:TA):TE:=λj H Q=>t j H λb a=>↑b<=Ô/\∀p,a p=È->Q `ak (aQ a p<|.ag b)
def WO{x1}(h:PA X es t):PE X `dS (DF t):=by
 intro aa s j H Q I l;show wpAny_Tuple_spliced<|bq (h pos aa s j H _ I l) λus a d=>?_;let#[m,f,g,r,z,q]:=d;show#[by rw[<- ↑r];show z,?_];have i:f ⇑a=È:=g.aR.fresh<|Ï _;show#[.ref ⇑a,aQ f ⇑a (.aL m),g.laid (t':=a.toks) (λb u e=>Ä _ e) (Ï _) ?_,rfl,q _ i];show#[z,us,r,#[_,Ø _ rfl,rfl,_,rfl]]
def WQ(h:PA X es t):PE X (.List es pos) (DG t):=by
 intro aa s j H Q I l;show wpAny_List_spliced<|bq (h pos aa s j H _ I l) λus a d=>?_;let#[m,f,g,r,z,q]:=d;show#[by rw[<- ↑r];show z,?_];have i:f ⇑a=È:=g.aR.fresh<|Ï _;show#[.ref ⇑a,aQ f ⇑a (.ag m),g.laid (t':=a.toks) (λb u e=>Ä _ e) (Ï _) ?_,rfl,q _ i];show#[z,us,0,r,Ø _ rfl]
end
nonrec abbrev Sp:=ay->Hp->VK->XK->Prop
nonrec abbrev fP:=cH->Hp->aj->XK->ao->aj->Prop
structure iM(P:ð)(w:ă)(K:aq)(mg:bw)(base:aV)(A:ĉ)(outer:cH)(s:aj)(H:Hp):Prop where
 frames:A.frames=À outer
 mod:Mod K mg base
 bs:∀b o,base.get? b=À o->s.heap.get? b=À o/\H b=È
 ko:base.objs.size<=⇑s
 dN:s.heap.FunFrames base outer
 lS:∀b∈cE outer,H b=È
 aR:dD P w H s.heap
 bare:ZC s.gens
abbrev CE(outer:cH)(P:ð)(w:ă)(H:Hp)(s:aj)(Q:VK)(u:ao)(s':aj):Prop:=
 ∃v a,s'.os=s.os/\ZC s'.gens/\Un (cE outer) [] H a s.heap s'.heap/\dD P w a s'.heap/\aG v u/\Q v a
abbrev CR(CX:fP)(outer:cH)(P:ð)(w:ă)(H:Hp)(s:aj)(Q:VK)(E:XK)(r:Result)(s':aj):Prop:=
 match r with
 |.ok (.ret u)=>CE outer P w H s Q u s'
 |.ok _=>False
 |.error e=>CX outer H s E e s'
structure aJ(P:ð)(w:ă)(K:aq)(mg:bw)(base:aV)(CX:fP)(k:Nat)(f:ai)(fd:Ĥ)(ps:ah)(sp:Sp):Prop where
 len:∀vs H Q E,sp vs H Q E->↑vs=↑ps
 run:∀(A:ĉ)(outer:cH)(s:aj)(H:Hp)(args:Args)(us:aN)(vs:ay)(Q:VK)(E:XK),bA k A->iM P w K mg base A outer s H->BindsTo s fd args (ps.zip us)->aH vs us->sp vs H Q E->
  Ŷ `bC A (.call `aq args) (CR CX outer P w H s Q E) s
def aJ.mono{P:ð}{w:ă}{K:aq}{mg:bw}{base:aV}{CX:fP}{j k:Nat}{f:ai}{a:Ĥ}{b:ah}{sp:Sp}(F:aJ P w K mg base CX j f a b sp)(h:j<=k):
  aJ P w K mg base CX k f a b sp:=#[F.len,λA outer s H args us vs Q E d=>F.run A outer s H args us vs Q E<|d.mono h]
def aJ.imp{P:ð}{w:ă}{K:aq}{mg:bw}{base:aV}{CX:fP}{k:Nat}{f:ai}{b:Ĥ}{d:ah}{sp a:Sp}(F:aJ P w K mg base CX k f b d sp)(h:∀vs H Q E,a vs H Q E->sp vs H Q E):aJ P w K mg base CX k f b d a:=
 #[λvs H Q E q=>F.len vs H Q E<|h _ _ _ _ q,λA outer s H args us vs Q E i g e l j=>F.run A outer s H args us vs Q E i g e l<|h _ _ _ _ j]
def iM.make{P:ð}{w:ă}{K:aq}{mg:bw}{base:aV}{A:ĉ}{outer:cH}{s:aj}{H:Hp}(e:iM P w K mg base A outer s H)(C:ai)(us:aN)(a:List (Str×ao)):
  iM P w K mg base (A.under<|.builtin "type.__call__" #[.ref C::us,a]) outer s H:=#[by first |show e.frames |(simpa [ag4,Code.envs,ai7,pushEnvs] using e.frames),e.mod,e.bs,e.ko,e.dN,e.lS,e.aR,e.bare]
section
variable{X:Cx}{aa:aX}{σ:St}{H:Hp}{s s':aj}
def ax.mH(I:ax X aa σ H s):iM X.prog X.w X.K X.mg X.base X.A X.stack s H:=
 #[I.ok.frames,I.ok.mod,I.bs,Ñ I.ok.ko I.sz,I.stack,I.gM,I.aR,I.bare]
def ax.after(I:ax X aa σ H s)(h:CE X.stack X.prog X.w H s Q u s'):EP X aa σ Q u s':=by
 ∎;let#[v,e,os,bare,un,aR,r,q]:=h;let#[f,g,d,t,a]:=s';∎;obtain rfl:a=s.os:=os;show#[v,e,I.call (h':=f) (g':=g) (d':=d) (t':=t) (ch:=[]) un aR bare (λb z=>ao8 z<|by simp),r,q]
end
abbrev Dv(sp:Sp)(a:ay)(E:XK)(t:TA):TE:=λj H Q=>t j H λvs b=>sp (vs++a) b Q E
abbrev Binds(K:aq)(d:Ĥ)(b:ah)(a:aN):Prop:=
 ∀(s:aj)(us:aN),K.In s.heap->(us++a).length=↑b->BindsTo s d #[us,[]] (b.zip<|us++a)
def Binds.all{K:aq}{b:Ĥ}{a:ah}(h:∀us:aN,us.length=↑a->bindArgs b #[us,[]]=pure (a.zip us)):Binds K b a []:=λs us _ d=>by
 rw[Ą] at d ⊢;show .of_eq<|h us d
abbrev ot(CX:fP)(X:Cx)(E:XK):Prop:=∀(aa:aX)(j:St)(H:Hp)(s:aj)(e:ao)(a:aj),ax X aa j H s->CX X.stack H s E e a->X.xe e a
section
variable{X:Cx}{CX:fP}{k:Nat}{f C:ai}{fd:Ĥ}{ps:ah}{sp:Sp}{dvs:ay}{ds:aN}{E:XK}{x m:Str}{p pos apos:Pos}{e o:ę}{es:bN}{ta:TE}{t:TA}
def WR(F:aJ X.prog X.w X.K X.mg X.base CX k f fd ps sp)(i:bA k X.A)(d:Binds X.K fd ps ds)(hd:aH dvs ds)(l:ot CX X E)(I:ax X aa j H s)(r:aH vs us)(h:sp (vs++dvs) H Q E):Ý `aa X.A (call `aq us) `ap X.xe s:=by
 have r2:aH (vs++dvs) (us++ds):=r.append hd;have g:(us++ds).length=↑ps:=by rw[<- ↑r2];show F.len _ _ _ _ h
 show Zs<|ŷ (F.run X.A X.stack s H #[us,[]] (us++ds) (vs++dvs) Q E i I.mH (d s us I.eO g) r2 h) λr n a=>?_;cases r with
 |error e=>show l aa j H s e n I a
 |ok b=>
  cases b with
  |ret u=>show I.after a
  |next=>show ò a
  |brk=>show ò a
  |cont=>show ò a
def Uw(F:aJ X.prog X.w X.K X.mg X.base CX k f fd ps sp)(u:bA k X.A)(l:Gl X x)(hm:X.mg x=À `aq)(n:ź X.K `aq=Â)(i:Binds X.K fd ps ds)(hd:aH dvs ds)(v:ot CX X E)(g:PA X (e::es) t)(a: ~~~(dZ x))(he:do d0 e es X.env)(hpl:do fS pos es X.env):
  PE X (.Call `aL (e::es) [] pos) (Dv sp dvs E t):=by
 intro aa s j H Q I h;show ġ<|nG I l hm ?_ a;show ZX (h₀:=X.base) I.ok.mod.mJ n (bq `aJ λus B b=>?_) he hpl;let#[vs,y,d,r,q]:=b;show#[d.eO,?_];show WR F u i hd v d r q
structure Mk(K:aq)(C f:ai):Prop where
 makes:W.makesIn K C=Â
 init:ğ K `ai "__init__"=À (À<|.ref f)
 fn:ae0 K `aq=Â
 kp:ź K `ai=Â
end
abbrev PK(X:Cx)(a:List ZE)(t:TA):Prop:=
 ∀(pos:Pos)(aa:aX)(s:aj)(j:St)(H:Hp)(Q:ay->Hp->Prop),ax X aa j H s->t j H Q->Ý `aa X.A (evalAll ((Α pos<|ŗ a X.env).map (·.2))) (AP X aa j Q) X.xe s
section
variable{X:Cx}{CX:fP}{k:Nat}{f C:ai}{fd:Ĥ}{ps ks:ah}{sp:Sp}{E:XK}{x m:Str}{p pos apos kpos:Pos}{e o:ę}{es:bN}{kws:List ZE}{te ta:TE}{t tk:TA}{nm:Option Str}
def WS:PK X [] jK:=λ_ _ _ _ H Q I h=>wpAny_evalAll_nil #[[],H,I,.nil,h]
def Ux(n:PE X e te)(q:PK X kws t):PK X (#[nm,e,kpos]::kws) (jI te t):=by
 intro pos aa s j H Q I h;change Ý _ _ (evalAll ((do let v <- eval e X.env;Z5 pos;pure v)::(Α pos<|ŗ kws X.env).map (·.2))) _ _ s;show wpAny_evalAll_cons<|Ë<|bq (n aa s j H _ I h) λu A a=>?_;let#[x,d,i,y,r]:=a;show Ë<|Ţ<|Ü ?_;show bq (q pos aa A j d _ i r) λus D b=>by let#[B,g,l,r2,w]:=b;show#[x::B,g,l,.cons y r2,w]
variable{g:aN->aN->aN}{gV:ay->ay->ay}
end
structure bS(N P:ah)(sc:Zr):Prop where
 kind:sc.kind=.function
 co:sc.isCoroutine=É
 gen:sc.isGenerator=É
 nd:N.Nodup
 pre:N.take ↑P=P
 par:∀x∈P,sc.names.lookup x=À .local\/sc.names.lookup x=À .cell
 pG:∀y∈sc.names,y.2≠.free
def ER{kindOf:Str->Option Ϧ}{x:Str}:∀{binds:List (Str×ao)}{m:bw},(∀v,(x,v) ∉ binds)->bindL kindOf binds m x=m x
 |[],_,_=>rfl
 |(n,v)::r,m,h=>by
  unfold bindL;rw[ER λw a=>h w<|Ğ _ a];split
  .have:x≠n:=by rintro rfl;show h v ϊ
   simp[this]
  .rfl
def ES{kindOf:Str->Option Ϧ}{x:Str}:∀{binds:List (Str×ao)}{m:bw},(∀v,(x,v) ∉ binds)->bindC kindOf binds m x=m x
 |[],_,_=>rfl
 |(n,v)::r,m,h=>by
  unfold bindC;rw[ES λw a=>h w<|Ğ _ a];split
  .rfl
  .have:x≠n:=by rintro rfl;show h v ϊ
   simp[this]
def ET{kindOf:Str->Option Ϧ}{v:ao}:∀{P:ah}{vs:aN}{i:Nat}{m:bw},P.Nodup->P[i]?=À x->vs[i]?=À v->kindOf x=À .local->
  bindL kindOf (P.zip vs) m x=À v
 |[],_,_,_,_,h,_,_=>by simp at h
 |_::_,[],_,_,_,_,h,_=>by simp at h
 |p::P,w::vs,0,m,nd,h1,h2,hk=>by
  simp at h1 h2;subst h1;subst h2;change bindL kindOf ((p,w)::P.zip vs) m p=_;unfold bindL;rw[ER λv a=>(ē.mp nd).1 (Ġ a).1,ao7 hk];simp
 |p::P,w::vs,i + 1,m,nd,h1,h2,hk=>by
  change bindL kindOf ((p,w)::P.zip vs) m x=_;unfold bindL;show ET (i:=i) (ē.mp nd).2 (by simpa using h1) (by simpa using h2) hk
def EU{kindOf:Str->Option Ϧ}{v:ao}:∀{P:ah}{vs:aN}{i:Nat}{m:bw},P.Nodup->P[i]?=À x->vs[i]?=À v->kindOf x≠À .local->
  bindC kindOf (P.zip vs) m x=À v
 |[],_,_,_,_,h,_,_=>by simp at h
 |_::_,[],_,_,_,_,h,_=>by simp at h
 |p::P,w::vs,0,m,nd,h1,h2,hk=>by
  simp at h1 h2;subst h1;subst h2;change bindC kindOf ((p,w)::P.zip vs) m p=_;unfold bindC;rw[ES λv a=>(ē.mp nd).1 (Ġ a).1,ao6 hk];simp
 |p::P,w::vs,i + 1,m,nd,h1,h2,hk=>by
  change bindC kindOf ((p,w)::P.zip vs) m x=_;unfold bindC;show EU (i:=i) (ē.mp nd).2 (by simpa using h1) (by simpa using h2) hk
abbrev start(N:ah)(vs:ay):St:=vs.map À++Ó (↑N - ↑vs) È
abbrev kc(CX:fP)(P:ð)(w:ă)(K:aq)(mg:bw)(base:aV)(N:ah)(b:Str)(a:Zr)(f:ai)(g:ao)(A:ĉ)(outer:cH)(s:aj)(H:Hp)(E:XK):Cx where
 prog:=P
 w:=w
 K:=K
 mg:=mg
 base:=base
 A:=A.deeper<|Ę b a ⇑s f g
 N:=N
 s₀:=s
 H₀:=H
 env:=Ę b a ⇑s f g
 outer:=outer
 stack:=Ę b a ⇑s f g::outer
 ex:=[]
 calm:=Â
 fn:=λ_=>Â
 pn:=[]
 xe:=λe i=>Ý `bC (A.deeper<|Ę b a ⇑s f g) (leaving (Ę b a ⇑s f g) e) (λ_ d=>CX outer H s E e d) (λh d=>CX outer H s E h d) i
def Fg{sc:Zr}{n:Nat}{x:Str}(h:sc.names.lookup x=À .cell):∃c,(cellsFrom n sc.names []).lookup x=À c:=by
 have q:=W.cellsFrom_some sc.names n [] (.inl h);show Ŭ.mp q
def P1{CX:fP}{P:ð}{w:ă}{K:aq}{mg:bw}{base:aV}{N B:ah}{g:Str}{d:Zr}{f:ai}{G:ao}{A:ĉ}{outer:cH}{s O:aj}{H:Hp}{E:XK}{us:aN}{vs:ay}(S:bS N B d)(hd:A.handled=È)(l:iM P w K mg base A outer s H)(hl:↑vs=↑B)(r:aH vs us)(x:InCallC s ⇑s (bindL (Ę g d ⇑s f G).kindOf (B.zip us) λ_=>È) (cellsFrom (⇑s+1) d.names []) (bindC (Ę g d ⇑s f G).kindOf (B.zip us) λ_=>È) O):
  ax (kc CX P w K mg base N g d f G A outer s H E) [] `aX H O:=by
 have U:↑B<=↑N:=by have:=ap2 İ S.pre;rw[û] at this;omega
 let#[I,tk,rfl,L]:=x.done;have o:∀b:Addr,b ∉ (kc CX P w K mg base N g d f G A outer s H E).ex:=λb z=>ao8 (show b∈([]:cJ) from z) ∅
 show#[#[l.mod,S.kind,rfl,rfl,Ï _,λy z c I j=>?_,λy m=>?_,λy c _ h=>?_,λ_=>hd,Around.frames_deeper l.frames,.inr #[rfl,rfl],λb z=>ao8 z<|o b,l.bs,l.ko,λb _ _=>o b,λb z=>ao8 z<|o b,l.dN,l.lS],
  rfl,l.bare,Un.kept L,#[_,x.toInCall.ns,λi y v I j h3=>?_],λy c h=>#[_,x.cell y c h],l.aR.fresh<|Ï _,λy c h=>?_,λp C=>ao8 (show p∈([]:aX) from C) ∅,l.aR.kept L,?_]
 .show name_of_addr x.apart (PySem.mem_of_lookup I) (PySem.mem_of_lookup j)
 .have m:d.names.lookup y=À .cell\/d.names.lookup y=À .free:=m;rcases m with m |m
  .show Fg m
  .show ao8 rfl (S.pG _ (PySem.mem_of_lookup m))
 .show ń (x.above y c (PySem.mem_of_lookup h))
 .have J:i<↑vs:=by
   unfold start at j;by_cases J:i<↑vs
   .show J
   .rw[ç<|by simpa using J] at j;rw[Ź] at j;split at j<;>cases j
  have Q:vs[i]?=À v:=by
   unfold start at j;rw[î (by simpa using J),Ê] at j;cases e:vs[i]? with
   |none=>rw[e] at j;cases j
   |some a=>rw[e] at j;cases j;rfl
  let#[u,M,Y]:=r.get Q;have C:B[i]?=À y:=by
   rw[<- S.pre,ě ⋯];show I
  have D:B.Nodup:=by rw[<- S.pre];show S.nd.sublist<|Φ _ _
  show#[u,Y,?_];rcases S.par y (Î C) with k |k
  .show .inl ⟨k,ET D C M k⟩
  .obtain⟨c,e⟩:=Fg (n:=⇑s+1) k;show .inr #[.inl k,c,e,?_];have q:=x.cell y c e;rw[EU D C M (by change d.names.lookup y≠_;rw[k];decide)] at q;show q
 .show l.aR.fresh (ń<|x.above y c<|PySem.mem_of_lookup h)
 .unfold start;change _=↑N;rw[Ò,Å,á];omega
def IY{CX:fP}{P:ð}{w:ă}{K:aq}{mg:bw}{base:aV}{k:Nat}{f:ai}{j d:Str}{g:Arguments}{h:List Ā}{a:Zr}{dV kV doc pm bH ct oc:ao}{an od:b9}{osl:Array (eW)}{N L:ah}{sp:Sp}(lk:K.lookup f=À #[oc,od,.func<|ad9 j d g h a dV kV doc pm an bH ct,osl])(M:W.codeIn K bH d=Â)(S:bS N L a)(len:∀vs H Q E,sp vs H Q E->↑vs=↑L)(l:∀(A:ĉ)(outer:cH)(s:aj)(H:Hp)(vs:ay)(Q:VK)(E:XK),bA k (A.deeper<|Ę d a ⇑s f bH)->sp vs H Q E->
   ∃t,fR `az h t/\t { nx:=λ_ i=>Q .aT i,rt:=Q } `aX H):
  aJ P w K mg base CX (k+1) f (ad9 j d g h a dV kV doc pm an bH ct) L sp:=by
 show#[len,λA outer s H args us vs Q E O B hb r D=>?_];have hl:=len _ _ _ _ D;have KX:K.In s.heap:=B.mod.mJ.keeps λb o e=>(B.bs b o e).1
 have U:s.heap.NoLimit:=B.mod.nolimit.keeps λb o e=>(B.bs b o e).1
 have m:∀y∈L.zip us,a.names.lookup y.1=À .local\/(a.names.lookup y.1=À .cell/\((cellsFrom (⇑s+1) a.names []).lookup y.1).isSome=Â):=λ⟨n,v⟩ hy=>by
  rcases S.par n (Ġ hy).1 with q |q
  .show .inl q
  .show .inr ⟨q,W.cellsFrom_some _ _ _ (.inl q)⟩
 show codeAny_call_function O.depth (KX _ _ lk) rfl S.co S.gen rfl (W.codeRec_of KX M) (hb _ _ _ _ ?_);show wpAny_newFunctionEnv_cells S.kind m λenv he s1 x=>?_
 subst he;show#[U.keeps x.toInCall.keep,codeAny_func ?_];let#[t,ht,hq]:=l A outer s H vs Q E (O.deeper _) D;have I:ax `az [] `aX H s1:=P1 S O.hd B hl r x;show ą (ht [] s1 `aX H _ I hq) (λfl s' p=>?_) λe s' p=>p
 have C:∀{G:St}{i:Hp}{v:V}{u:ao},ax `az [] G i s'->aG v u->Q v i->CE outer P w H s Q u s':=
  λ{G i v u} J Y q=>#[v,i,J.os,J.bare,J.base,J.aR,Y,q]
 cases fl with
 |ret u=>
  let#[v,G,i,J,Y,q]:=p;show C J Y q
 |next=>
  let#[G,i,J,q]:=p;show C (v:=V.aT) (u:=ŵ) J rfl q
 |brk=>
  let#[_,_,_,q]:=p;show ò q
 |cont=>
  let#[_,_,_,q]:=p;show ò q
section
variable{X:Cx}{x:Str}{p pos:Pos}{e:ę}{es:bN}{t:TA}{id T:String}{r:ay->Hp->VK->Prop}
abbrev mQ(r:ay->Hp->VK->Prop)(t:TA):TE:=λj H Q=>t j H λvs a=>r vs a Q
def Si(i:bQ X `aC r)(l:Gl X x)(hm:X.mg x=È)(m:ϧ x=À `aC)(g:PA X (e::es) t)(hn: ~~~(x≠"__name__"))(a: ~~~(dZ x))(he:do d0 e es X.env)(hpl:do fS pos es X.env):PE X (.Call `aL (e::es) [] pos) (mQ r t):=by
 intro aa s j H Q I h;show ġ<|kH I l hm m ?_ hn a;show PyProof.Rows.callWith_builtin1 (bq `aJ λus q b=>by let#[vs,d,f,o,n]:=b;show i aa q j d vs us Q f o n) he hpl
def oF(i:bQ X `bl r)(l:Gl X x)(hm:X.mg x=È)(m:ϧ x=À `bl)(g:PA X (e::es) t)(hn: ~~~(x≠"__name__"))(a: ~~~(dZ x))(he:do d0 e es X.env)(hpl:do fS pos es X.env):PE X (.Call `aL (e::es) [] pos) (mQ r t):=by
 intro aa s j H Q I h;show ġ<|kH I l hm m ?_ hn a;show ø (bq `aJ λus q b=>by let#[vs,d,f,o,n]:=b;show i aa q j d vs us Q f o n) he hpl
end
section
variable{κ:Type}[DecidableEq κ]
abbrev gy(kvs:List (κ×V))(k:κ):Option V:=(kvs.find? λa=>decide<|a.1=k).map (·.2)
abbrev fx(kvs:List (κ×V))(k:κ)(v:V):List (κ×V):=
 if (kvs.any λa=>decide<|a.1=k)=Â then kvs.map (λa=>if a.1=k then (a.1,v) else a) else kvs++[(k,v)]
def yV{p:κ×V}{r:List (κ×V)}{k:κ}(e:p.1=k):gy (p::r) k=À p.2:=by simp[gy,Ł,e]
def yW{p:κ×V}{r:List (κ×V)}{k:κ}(e:¬ p.1=k):gy (p::r) k=gy r k:=by simp[gy,Ł,e]
def Fh(k:κ):∀kvs:List (κ×V),(kvs.any λa=>decide<|a.1=k)=(gy kvs k).isSome
 |[]=>rfl
 |p::r=>by
  rw[ϣ];by_cases e:p.1=k
  .simp only[yV e,ao9 e,Bool.true_or,Option.isSome_some]
  .rw[yW e,ap0 e,ag0];show Fh k r
def yD(kvs:List (κ×V))(k:κ)(v:V):(fx kvs k v).length<=↑kvs+1:=by
 unfold fx;split
 .rw[Å];omega
 .rw[Ò,Ú,ϔ];omega
def b7.cO(r:b7 o u):o.isSome=u.isSome:=by
 cases o with
 |none=>cases u with
  |none=>rfl
  |some _=>show (show False from r).elim
 |some _=>cases u with
  |none=>show (show False from r).elim
  |some _=>rfl
def b7.getD(r:b7 o u)(rd:aG d d'):aG (o.getD d) (u.getD d'):=by
 cases o with
 |none=>cases u with
  |none=>show rd
  |some _=>show (show False from r).elim
 |some _=>cases u with
  |none=>show (show False from r).elim
  |some _=>show r
def KV.val{kvs:List (κ×V)}{vs:List (κ×ao)}(r:KV kvs vs)(k:κ):b7 (gy kvs k) (Z6 vs k):=by
 unfold KV at r
 induction r with
 |nil=>show ý
 |@cons p q i a h t g=>
  let#[d,f]:=h;by_cases e:p.1=k
  .have e':q.1=k:=d.symm.trans e;have b:Z6 (q::a) k=À q.2:=by simp[Z6,Ł,e']
   rw[yV e,b];show f
  .have e':¬ q.1=k:=λz=>e<|d.trans z
   have b:Z6 (q::a) k=Z6 a k:=by simp[Z6,Ł,e']
   rw[yW e,b];show g
def KV.any(r:KV kvs vs)(k:κ):(kvs.any λa=>decide<|a.1=k)=vs.any λa=>decide (a.1=k):=by
 unfold KV at r
 induction r with
 |nil=>rfl
 |cons h t b=>rw[ϣ,ϣ,b,h.1]
def KV.pL(r:KV kvs vs)(k:κ)(g:aG y u):
  KV (kvs.map λa=>if a.1=k then (a.1,y) else a) (vs.map λa=>if a.1=k then (a.1,u) else a):=by
 unfold KV at r ⊢
 induction r with
 |nil=>show .nil
 |@cons p q i j h t f=>
  rw[ë,ë];show .cons ?_ f;let#[b,d]:=h;by_cases e:p.1=k
  .rw[ao7 e,ao7<|b.symm.trans e];show#[b,g]
  .rw[ao6 e,ao6<|λz=>e<|b.trans z];show#[b,d]
def KV.put(r:KV kvs vs)(k:κ)(a:aG y u):KV (fx kvs k y) (stored vs k u):=by
 unfold fx stored;rw[r.any k];by_cases e:(vs.any λb=>decide<|b.1=k)=Â
 .rw[ao7 e,ao7 e];show r.pL k a
 .rw[ao6 e,ao6 e];show Paired.snoc r #[rfl,a]
def KV.length(r:KV kvs vs):↑kvs=↑vs:=Paired.length r
end
def oY(r:aG (kV k) u):(eL P w).is k u=Â:=by
 cases k with
 |inl i=>let#[t,e]:=(show ∃t,u=ϝ i t from r);subst e;show NG P w i t
 |inr x=>let#[t,e]:=(show ∃t,u=ac6 x t from r);subst e;show NH P w x t
def EV:∀{ks:List aW}{us:aN},aH (ks.map kV) us->ItemsAre `co ks us
 |[],_,r=>by rw[Zz] at r;cases r;show .nil
 |k::ks,_,r=>by
  rw[ë] at r;cases r with
  |cons h t=>show .cons (oY h)<|EV t
nonrec abbrev KT(H:Hp):List (List aW×V)->List (List aW×ai×ao)->Prop:=Paired λp q=>p.1=q.1/\H q.2.1=À (.aL<|p.1.map kV)/\aG p.2 q.2.2
def KT.val{H:Hp}{kvs:List (List aW×V)}{xs:List (List aW×ai×ao)}(r:KT H kvs xs)(k:List aW):b7 (gy kvs k) ((atKey xs k).map (·.2)):=by
 induction r with
 |nil=>show ý
 |@cons p q i a h t g=>
  let#[d,_,f]:=h;by_cases e:p.1=k
  .have e':q.1=k:=d.symm.trans e;have b:atKey (q::a) k=À q.2:=by simp[atKey,Ł,e']
   rw[yV e,b];show f
  .have e':¬ q.1=k:=λz=>e<|d.trans z
   have b:atKey (q::a) k=atKey a k:=by simp[atKey,Ł,e']
   rw[yW e,b];show g
def KT.pL(r:KT H kvs xs)(k:List aW)(i:aG y u):
  KT H (kvs.map λb=>if b.1=k then (b.1,y) else b) (xs.map<|putAt k u):=by
 induction r with
 |nil=>show .nil
 |@cons p q j l h t g=>
  rw[ë,ë];show .cons ?_ g;let#[a,d,f]:=h;unfold putAt;by_cases e:p.1=k
  .rw[ao7 e,ao7<|a.symm.trans e];show#[a,d,i]
  .rw[ao6 e,ao6<|λz=>e<|a.trans z];show#[a,d,f]
def KT.put{H:Hp}(r:KT H kvs xs)(k:List aW)(d:H b=À (.aL<|k.map kV))(a:aG y u):
  KT H (fx kvs k y) (storedH xs k b u):=by
 have e:(kvs.any λf=>decide<|f.1=k)=(atKey xs k).isSome:=by
  rw[Fh,(r.val k).cO,Z3]
 unfold fx storedH;rw[e];by_cases q:(atKey xs k).isSome=Â
 .rw[ao7 q,ao7 q];show r.pL k a
 .rw[ao6 q,ao6 q];show Paired.snoc r #[rfl,d,a]
def KT.keeps{H a:Hp}(r:KT H kvs xs)(ht:∀b ys,H b=À (.aL ys)->a b=À (.aL ys)):KT a kvs xs:=
 Paired.tU r λ_ _ z=>#[z.1,ht _ _ z.2.1,z.2.2]
section
variable{P:ð}{w:ă}{H:Hp}{h:aV}{a:ai}
def IZ(ok:dD P w H h)(e:Rd H a u):bp P w H h a u:=e.ok ok
def jN(ok:dD P w H h)(e:Rd H a `am):↑kvs<=Ô/\(a == ř)=É/\∃vs,KV kvs vs/\h.DictOf `co a vs:=
 show bp P w H h a `am from IZ ok e
def wI(ok:dD P w H h)(e:H a=À `am):↑kvs<=Ô/\(a == ř)=É/\∃vs,KV kvs vs/\h.DictOf `co a vs:=jN ok<|.inl e
def qS(ok:dD P w H h)(e:H a=À (.aL<|ks.map kV)):(ab8<|eL P w).is h ks a:=by
 let#[_,b,r,o,d,f,n,g]:=(show bp P w H h a (.aL<|ks.map kV) from ok a _ e);show#[o,b.toArray,n,d,f,g,by simpa using EV r]
def oZ(ok:dD P w H h)(e:Rd H a (.dT kvs)):↑kvs<=Ô/\(a == ř)=É/\
  ∃xs,KT H kvs xs/\h.DictOfH (ab8<|eL P w) a xs:=by
 let#[z,y,xs,r,o,g,f,i,j,n,u,v]:=(show bp P w H h a (.dT kvs) from IZ ok e);show#[z,y,xs,r,o,g,f,i,j,n,u,λx b=>?_,v];have all:∀{l:List (List aW×V)}{m:List (List aW×ai×ao)},KT H l m->∀x∈m,(ab8<|eL P w).is h x.1 x.2.1:=by
  intro l m q
  induction q with
  |nil=>intro x b;show nomatch b
  |@cons p q B C d t A=>
   intro x b;rcases æ.mp b with e |b
   .subst e;show qS ok (by rw[<- d.1];show d.2.1)
   .show A x b
 show all r x b
def YS(ok:dD P w H h)(e:H a=À (.dT kvs)):↑kvs<=Ô/\(a == ř)=É/\
  ∃xs,KT H kvs xs/\h.DictOfH (ab8<|eL P w) a xs:=oZ ok<|.inl e
end
abbrev ng(H:Hp)(a:ai)(y:V)(r:Option V):Prop:=
 (∃d k,Rd H a `cz/\y=kV k/\r=gy d k)\/∃d k b,Rd H a (.dT d)/\y=.ref b/\H b=À (.aL<|k.map kV)/\r=gy d k
abbrev ky(H:Hp)(a:ai)(y v:V)(e:Hp):Prop:=
 (∃d k,H a=À `cz/\y=kV k/\↑d<Ô/\e=aQ H a (.dK<|fx d k v))\/
 ∃d k b,H a=À (.dT d)/\y=.ref b/\H b=À (.aL<|k.map kV)/\↑d<Ô/\e=aQ H a (.dT<|fx d k v)
def ky.k{H:Hp}{a:ai}{kvs:bL}{k:aW}{v:V}(e:H a=À `am)(b:↑kvs<Ô):ky H a (kV k) v (aQ H a<|.dK<|fx kvs k v):=.inl #[kvs,k,e,rfl,b,rfl]
section
variable{X:Cx}{aa:aX}{σ:St}{H:Hp}{s:aj}{a:ai}{y v:V}{u r:ao}{o:Option V}{A:ĉ}{E:ao->aj->Prop}
def ax.big(I:ax X aa σ H s):ř<⇑s:=by
 have h:Ř<⇑s:=(I.mod.glob.keeps I.bk).lt;show Nat.lt_trans ∎ h
def P4{Q:ao->aj->Prop}(C:A.units+1<Ĭ)(I:ax X aa σ H s)(g:ng H a y (À v))(x:aG y u)(h:∀i s',ax X aa σ H s'->aG v i->Q i s'):
  Ý `aa A (getItem `aA u) Q E s:=by
 rcases g with⟨q,k,e,j,l⟩ |⟨q,k,b,e,j,eb,l⟩
 .subst j;∎;let#[z,hd,vs,d,dd]:=jN I.aR e;let#[i,n,f]:=b7.some_of (v:=v) (o:=Z6 vs k) (by rw[l];show d.val k);∎;show wpAny_getItem_of (oY x) dd.mapOf n<|h i _ (I.tok _) f
 .subst j;cases (show u=å b from x);∎;let#[z,hd,D,d,dd]:=oZ I.aR e;let#[i,n,f]:=b7.some_of (v:=v) (o:=(atKey D k).map (·.2)) (by rw[l];show d.val k);let#[p,B,m]:=ag3.mp n;∎;show wpAny_getItem_heap (ϗ C) `ck dd B ?_;rw[m];show h i _ (I.tok _) f
def J7{Q:ao->aj->Prop}(m:A.units+1<Ĭ)(I:ax X aa σ H s)(g:ng H a y o)(j:aG y u)(h:∀s',ax X aa σ H s'->Q (.bool o.isSome) s'):
  Ý `aa A (ú .In u<|.ref a) Q E s:=by
 rcases g with⟨i,k,e,f,l⟩ |⟨i,k,b,e,f,eb,l⟩
 .subst f;let#[z,hd,vs,d,dd]:=jN I.aR e;show wpAny_in_of (oY j) hd dd.mapOf ?_;rw[<- (d.val k).cO,<- l];show h _<|I.tok _
 .subst f;cases (show u=å b from j);let#[z,hd,n,d,dd]:=oZ I.aR e;show wpAny_in_heap (ϗ m) `ck hd dd ?_;have q:=(d.val k).cO;rw[Z3] at q;rw[<- q,<- l];show h _<|I.tok _
def Uy{Q:ao->aj->Prop}(m:A.units+1<Ĭ)(I:ax X aa σ H s)(g:ng H a y o)(j:aG y u)(h:∀s',ax X aa σ H s'->Q (.bool (!o.isSome)) s'):
  Ý `aa A (ú .NotIn u<|.ref a) Q E s:=by
 rcases g with⟨i,k,e,f,l⟩ |⟨i,k,b,e,f,eb,l⟩
 .subst f;let#[z,hd,vs,d,dd]:=jN I.aR e;show wpAny_notIn_of (oY j) hd dd.mapOf ?_;rw[<- (d.val k).cO,<- l];show h _<|I.tok _
 .subst f;cases (show u=å b from j);let#[z,hd,n,d,dd]:=oZ I.aR e;show wpAny_notIn_heap (ϗ m) `ck hd dd ?_;have q:=(d.val k).cO;rw[Z3] at q;rw[<- q,<- l];show h _<|I.tok _
def za(I:ax X aa σ H s)(g:ro (H a))(hs:ZD a s.heap h')(he:∃q,h'.get? a=À q)(d:bp X.prog X.w (aQ H a ob) h' a ob):
  ax X aa σ (aQ H a ob) { s with heap:=h',toks:=t' }:=
 I.write (x:=a) (e:=a) g `aj (λb q f z=>(hs.2 b f).trans z) he d
def zI(z:↑kvs<=Ô)(hd:(a == ř)=É)(b:KV kvs vs)(dd:h'.DictOf `co a vs):
  bp P w H' h' a `am:=#[z,hd,vs,b,dd]
def P5{Q:Unit->aj->Prop}(hu:A.units+1<Ĭ)(I:ax X aa σ H s)(g:ky H a y v H')(J:aG y u)(G:aG v r)(h:∀s',ax X aa σ H' s'->Q () s'):
  Ý `aa A (setItem `aA u r) Q E s:=by
 rcases g with⟨d,k,e,n,l,m⟩ |⟨d,k,b,e,n,eb,l,m⟩
 .subst n m;let#[z,hd,vs,f,dd]:=wI I.aR e;have B:↑vs<=Ô:=by rw[<- ↑f];show z
  have p:(fx d k v).length<=Ô:=by have:=yD d k v;omega
  show wpAny_setItem_pairs (hsz:=B) (oY J) dd λD i x=>h _ ?_
  have he:∃q,D.get? a=À q:=let ⟨q,_,_,j,_⟩:=i;#[q,j]
  show za I (by rw[e];show ý) x he<|zI p hd (f.put k G) i
 .subst n m;cases (show u=å b from J);let#[z,hd,xs,f,dd]:=YS I.aR e;have B:↑xs<=Ô:=by rw[<- Paired.length f];show z
  have p:(fx d k v).length<=Ô:=by have:=yD d k v;omega
  show wpAny_setItem_heap (hsz:=B) (ϗ hu) `ck dd λD i x=>h _ ?_
  let#[q,M,L,j,N,O,U,_,Y]:=i;show za I (by rw[e];show ý) x #[q,j] #[p,hd,_,(f.put k eb G).keeps λc ys C=>?_,q,M,L,j,N,O,U,Y];rw[a6 (YK C e (λz=>nomatch z))];show C
end
section
variable{X:Cx}{aa:aX}{σ:St}{H:Hp}{s:aj}{a:ai}{kvs:bL}{k:aW}{u:ao}{A:ĉ}{E:ao->aj->Prop}
def YT{Q:ao->aj->Prop}(I:ax X aa σ H s)(e:Rd H a `am)(h:∀t s',ax X aa σ H s'->Q (.int ↑kvs t) s'):Ý `aa A (call (.builtin "len") [.ref a]) Q E s:=by
 let#[z,hd,vs,b,dd]:=jN I.aR e;show call_len_dict hd dd (by rw[<- ↑b];rw[Ī] at z;omega) ?_;rw[<- ↑b];show h _ _<|I.tok _
end
def NI(I:ax X aa j H s)(g:ng H a y o):s.TypeIs `aA "dict":=by
 rcases g with⟨d,k,e,_,_⟩ |⟨d,k,b,e,_,_,_⟩
 .obtain⟨_,_,vs,_,dd⟩:=jN I.aR e;show dd.typeIs
 .obtain⟨_,_,xs,_,dd⟩:=oZ I.aR e;show dd.typeIs
abbrev C7(g ty h:TE):TS:=λD j H=>h j H λv d=>g j d λx e=>ty j e λy f=>∃a b,x=.ref a/\ky f a y v b/\D.nx j b
section
variable{X:Cx}{o i e value:ę}{pos pos' tpos:Pos}{td ty tv:TE}
def Vr(G:X.A.units+1<Ĭ)(E:PE X o td)(C:PE X i ty)(J:PE X value tv)(hs:Į value (À<|.Subscript o i pos') pos.line X.env=pure É):
  PS X (.Assign [.Subscript o i pos'] value pos) (C7 td ty tv):=by
 intro aa s j H D I h;show wpAny_Assign_Subscript (bq `dT λr Y b=>?_) hs;let#[v,l,p,O,L]:=b;show bq (E aa Y j l _ p L) λu s2 d=>?_
 let#[x,m,q,Q,M]:=d;show bq (C aa s2 j m _ q M) λiv s3 f=>?_
 let#[y,H3,w,U,a,n,ex,g,N]:=f;subst ex;obtain rfl:u=å a:=Q;show P5 G w g U O λs4 B=>#[j,n,B,N]
end
def Fi(h:aV)(a:ř<h.objs.size):bp P w H (h.push { cls:=.type "dict",data:=.dict ([].toArray) }) h.objs.size (.dK []):=
 #[Ĝ _,beq_eq_false_iff_ne.mpr<|Ć<|ì a,[],.nil,Heap.DictOf.new h]
abbrev CC:TE:=λ_ H Q=>∀p,H p=È->Q `ak (aQ H p<|.dK [])
section
variable{X:Cx}{pos:Pos}
def Sj:PE X (.Dict [] [] pos) CC:=λaa s j H Q I h=>
 wpAny_Dict_empty #[.ref ⇑s,_,I.laid (a:=⇑s) (o:=.dK []) (t':=s.toks) (λ_ _ q=>Ä _ q) (Ï _)<|Fi s.heap I.big,rfl,h _<|I.aR.fresh<|Ï _]
end
abbrev uZ:List (TE×TE)->St->Hp->(List (V×V)->Hp->Prop)->Prop
 |[],_,H,Q=>Q [] H
 |(tk,tv)::r,j,H,Q=>tk j H λx a=>tv j a λy b=>uZ r j b λe d=>Q ((x,y)::e) d
nonrec abbrev VV:List (V×V)->List (ao×ao)->Prop:=Paired λp q=>aG p.1 q.1/\aG p.2 q.2
abbrev rp(X:Cx)(pos:Pos)(keys:List (Option ę))(a:bN)(b:List (TE×TE)):Prop:=
 ∀(aa:aX)(s:aj)(j:St)(H:Hp)(Q:List (V×V)->Hp->Prop),ax X aa j H s->uZ b j H Q->
  Ý `aa X.A (evalPairs<|pairTrees keys a X.env pos) (λvs f=>∃e d,ax X aa j d f/\VV e vs/\Q e d) X.xe s
def Vs:rp X pos [] [] []:=λaa s j H Q I h=>pairTrees_nil_walk #[[],H,I,.nil,h]
def Sk(f:PE X k tk)(i:PE X v tv)(g:rp X pos ks vs trs):
  rp X pos (À k::ks) (v::vs) ((tk,tv)::trs):=λaa s j H Q I h=>
 pairTrees_cons_walk (bq (f aa s j H _ I h) λu n ⟨x,H1,I1,rx,q1⟩=>bq (i aa n j H1 _ I1 q1) λq o ⟨y,H2,I2,ry,q2⟩=>
  bq (g aa o j H2 _ I2 q2) λr p b=>by let#[l,d,e,a,m]:=b;show#[(x,y)::l,d,e,.cons #[rx,ry] a,m])
abbrev m7(kvs a:bL):bL:=a.foldl (λb d=>fx b d.1 d.2) kvs
def KV.merge:∀{a:bL}{rs:List (aW×ao)}{kvs:bL}{vs:List (aW×ao)},KV a rs->KV kvs vs->KV (m7 kvs a) (merged vs rs):=by
 intro a rs kvs vs r;unfold KV at r
 induction r generalizing kvs vs with
 |nil=>intro q;show q
 |@cons p q f g h t b=>
  intro d;have e:KV (fx kvs p.1 p.2) (stored vs q.1 q.2):=by
   have:=d.put p.1 h.2;rw[<- h.1];show this
  show b e
def Er:∀(a kvs:bL),(m7 kvs a).length<=↑kvs+↑a
 |[],kvs=>by change ↑kvs <= ↑kvs + 0;omega
 |p::r,kvs=>by
  have b:=Er r<|fx kvs p.1 p.2;have d:=yD kvs p.1 p.2;change (m7 (fx kvs p.1 p.2) r).length<=_;rw[Ú];omega
def Et:∀{kvs:bL}{e:List (ao×ao)},VV (kvs.map λd=>(kV d.1,d.2)) e->∃rs,Carries `co e rs/\KV kvs rs
 |[],_,r=>by rw[Zz] at r;cases r;show#[[],ý,.nil]
 |p::kvs,_,r=>by
  rw[ë] at r;cases r with
  |@cons a b g bs h t=>
   ∎;let#[rs,c,q]:=Et (P:=P) (w:=w) t;let#[i,f]:=b;∎;show#[(p.1,f)::rs,#[oY h.1,rfl,c],.cons #[rfl,h.2] q]
abbrev C8(b:List (TE×TE)):TE:=λj H Q=>∀p,H p=È->uZ b j (aQ H p<|.dK []) λf d=>d p=À (.dK [])/\∃a:bL,f=a.map (λe=>(kV e.1,e.2))/\↑a<=15/\Q `ak (aQ d p<|.dK<|m7 [] a)
def Vt(h:rp X pos keys values trs)(d:keys.all (·.isSome)=Â)(x:↑keys=↑values)(r:keys≠[])(g:↑keys<=15):PE X `cU (C8 trs):=by
 intro aa s j H Q I q;have hn:=I.aR.fresh<|Ï ⇑s;have n:=I.laid (a:=⇑s) (o:=.dK []) (h':=s.heap.push { cls:=.type "dict",data:=.dict ([].toArray) }) (t':=s.toks) (λ_ _ q=>Ä _ q) (Ï _)<|Fi s.heap I.big;show wpAny_Dict_walk (knd:=eL X.prog X.w) d x r g<|bq (h aa _ j _ _ n<|q _ hn) λN M l=>?_;let#[L,G,m,i,e,f,p,J,B]:=l;subst p;∎;let#[rs,c,D]:=Et (P:=X.prog) (w:=X.w) i;let#[z,hd,E,C,dd]:=wI m.aR e;∎;cases C;show#[rs,c,dd,λh' b y=>#[.ref ⇑s,_,?_,rfl,B]];have A:(m7 [] f).length<=Ô:=by
  have u:=Er f [];rw[ϔ] at u;rw[Ī];omega
 have v:∃q,h'.get? ⇑s=À q:=let ⟨q,_,_,hq,_⟩:=b;#[q,hq]
 show za m (by rw[e];show ý) y v<|zI A hd (D.merge .nil) b
structure M2(X:Cx)(o:ę)(m:Str)(apos:Pos)(e f:ę)(br:Pos):Prop where
 base:Ė o m X.env `at=eval o X.env
 MI:((ű br<|Ă [e,f] X.env).all (λx=>!x.1)&&(Α br<|ŗ [] X.env).all (λx=>x.1.isSome)
  && decide (([e,f]:bN).length+([]:List ZE).length+(if ([]:List ZE).isEmpty then 0 else 1)<30))=Â
 line:(apos.endLine == br.line)=Â
 trees:ű br (Ă [e,f] X.env)=[(É,eval e X.env),(É,eval f X.env)]
abbrev Bt(H:Hp)(a:ai):Prop:=(∃b,Rd H a<|.dK b)\/∃b,Rd H a<|.dT b
def v7(I:ax X aa j H s)(d:Bt H a):
  s.TypeIs `aA "dict"/\(∀b,å a=.ref b->∃ob,s.heap.get? b=À ob/\ob.dict=È)/\(a == ř)=É:=by
 rcases d with⟨h,e⟩ |⟨h,e⟩
 .obtain⟨_,hd,vs,_,dd⟩:=jN I.aR e;show#[dd.typeIs,λb q=>?_,hd];cases q;let#[ob,_,_,f,g,_]:=dd;show#[ob,f,g.2.1]
 .obtain⟨_,hd,xs,_,dd⟩:=oZ I.aR e;show#[dd.typeIs,λb q=>?_,hd];cases q;let#[ob,_,_,f,g,_]:=dd;show#[ob,f,g.2.1]
section
variable{X:Cx}{aa:aX}{σ:St}{H:Hp}{s:aj}{a:ai}{y d:V}{u r:ao}{o:Option V}{A:ĉ}{E:ao->aj->Prop}
def WT{Q:ao->aj->Prop}(p:A.units+1<Ĭ)(I:ax X aa σ H s)(g:ng H a y o)(m:aG y u)(rd:aG d r)(h:∀n s',ax X aa σ H s'->aG (o.getD d) n->Q n s'):
  Ý `aa A (call (.builtin "dict.get") [.ref a,u,r]) Q E s:=by
 rcases g with⟨j,k,e,i,l⟩ |⟨j,k,b,e,i,eb,l⟩
 .subst i;let#[z,hd,vs,f,dd]:=jN I.aR e;show ae1 PySem.F.slot_dict_get dd.typeIs PySem.F.entry_dict_get `ca (meets_dict_get_default `aK a (oY m) hd r) #[_,dd.mapOf,h _ _ (I.tok _) ?_];rw[l];show (f.val k).getD rd
 .subst i;cases (show u=å b from m);let#[z,hd,q,f,dd]:=oZ I.aR e;show ae1 PySem.F.slot_dict_get dd.typeIs PySem.F.entry_dict_get `ca (meetsH_dict_get_default (ab8<|eL X.prog X.w) a b hd r) #[ϗ p,k,q,qS I.aR eb,dd,h _ _ (I.tok _) ?_];rw[l];show (f.val k).getD rd
end
abbrev CF(f ty g:TE):TE:=λj H Q=>f j H λx b=>∃a,x=.ref a/\Bt b a/\ty j b λy e=>g j e λz d=>∃o,ng d a y o/\Q (o.getD z) d
section
variable{X:Cx}{o e f:ę}{apos br:Pos}{td ty tx:TE}
def Sl(v:X.A.units+1<Ĭ)(r:PE X o td)(he:PE X e ty)(q:PE X f tx)(m:M2 X o "get" apos e f br):PE X (.Call (.Attribute o "get" apos) [e,f] [] br) (CF td ty tx):=by
 intro aa s j H Q I h;show wpAny_Call_method m.base m.MI m.line PySem.F.plainAttrs_dict PySem.F.slot_dict_get PySem.F.type_dict_get<|bq (r aa s j H _ I h) λu C i=>?_;let#[x,n,l,B,a,ex,d,w]:=i;subst ex;obtain rfl:u=å a:=B;let#[E,G,_]:=v7 l d;show#[E,G,?_];rw[m.trees];show ό rfl (ZT (Ō (bq (he aa C j n _ l w) λL D ⟨y,H2,I2,ry,q2⟩=>
  Ō (bq (q aa D j H2 _ I2 q2) λJ M ⟨z,H3,I3,rz,ov,g,q3⟩=>ύ ?_))))
 show WT v I3 g ry rz λO N p b=>#[_,H3,p,b,q3]
end
section
variable{X:Cx}{aa:aX}{σ:St}{H:Hp}{s:aj}{a:ai}{kvs:bL}{A:ĉ}{E:ao->aj->Prop}
def Sn{Q:ao->aj->Prop}(I:ax X aa σ H s)(e:Rd H a `am)(h:∀p s',H p=È->ax X aa σ (aQ H p<|.dK kvs) s'->Q `ak s'):Ý `aa A (call (.type "dict") [.ref a]) Q E s:=by
 let#[z,hd,vs,d,dd]:=jN I.aR e;show kt_call_dict hd dd (by rw[<- ↑d];show z) λj f i=>?_
 show h _ _ (I.aR.fresh<|Ï _)<|I.laid (a:=⇑s) (o:=.dK kvs) (t':=s.toks) (λb q g=>?_) (Ï _)<|zI z (beq_eq_false_iff_ne.mpr<|Ć<|ì I.big) d f;show (i.2 b<|ì<|Ð g).trans<|Ä _ g
end
end L2
namespace HT
open PySem PyProof.Rows
section
variable{prog:ð}{w:ă}{A:ĉ}{E:ao->aj->Prop}{s:aj}
abbrev dM(n d:Nat):bK->Nat
 |none=>d
 |some v=>if v < 0 then (v + (n:Int)).toNat else min v.toNat n
end
end HT
namespace L2
open PySem PySem.Spec PyProof.Rows
nonrec abbrev TO:=St->Hp->(bK->Hp->Prop)->Prop
abbrev PO(X:Cx)(e:Option ę)(t:TO):Prop:=
 ∀(aa:aX)(s:aj)(j:St)(H:Hp)(Q:bK->Hp->Prop),ax X aa j H s->t j H Q->
  Ý `aa X.A (evalPart e X.env) (λu b=>∃o a,ax X aa j a b/\IsPart u o/\Q o a) X.xe s
abbrev Ct:TO:=λ_ H Q=>Q È H
abbrev C9(t:TE):TO:=λj H Q=>t j H λx a=>∃i,x=.int i/\Q (À i) a
def O8:∀{us:aN},aH `ay us->ai5 us ns:=by
 induction ns with
 |nil=>intro us r;rw[Zz] at r;cases r;show .nil
 |cons n ns a=>
  intro us r;rw[ë] at r;cases r with
  |cons b r2=>
   let#[t,e]:=b;subst e;show .cons n t<|a r2
section
variable{X:Cx}{e:ę}{te:TE}{lo hi:Option ę}{tl th:TO}{pos p2:Pos}
def Vu:PO X È Ct:=by
 intro aa s j H Q I h;rw[evalPart_none];show Ü #[È,H,I,.none,h]
def Vv(h:PE X e te):PO X (À e) (C9 te):=by
 intro aa s j H Q I f;rw[evalPart_some];show bq (h aa s j H _ I f) λu m a=>?_
 ∎;let#[x,b,d,l,g]:=a;let#[i,rfl,q]:=g;let#[t,rfl]:=l;∎;show#[À i,b,d,.int i t,q]
abbrev mW(X:Cx)(r:V->bK->bK->Hp->VK->Prop):Prop:=
 ∀(aa:aX)(s:aj)(j:St)(H:Hp)(x:V)(v b d:ao)(lo hi:bK)(a:ai)(Q:VK),ax X aa j H s->aG x v->s.heap.IsSliceOf a b d .none->IsPart b lo->IsPart d hi->r x lo hi H Q->
  ∃T id,ak3 `bl "__getitem__"=pure (À<|.builtin id)/\s.TypeIs v T/\Ý `aa X.A (getItem v<|.ref a) `ap X.xe s
def mW.or{r f:V->bK->bK->Hp->VK->Prop}(h:mW X r)(h':mW X f):mW X (λx lo hi H Q=>r x lo hi H Q\/f x lo hi H Q):=by
 intro aa s j H x v l m lo hi i Q I g a b d q;rcases q with q |q
 .show h aa s j H x v l m lo hi i Q I g a b d q
 .show h' aa s j H x v l m lo hi i Q I g a b d q
abbrev Jl(r:V->bK->bK->Hp->VK->Prop)(te:TE)(tl th:TO):TE:=λj H Q=>te j H λx a=>tl j a λl b=>th j b λu d=>r x l u d Q
def RE(J:mW X r)(he:PE X e te)(G:PO X lo tl)(M:PO X hi th):PE X (.Subscript e `dv pos) (Jl r te tl th):=by
 intro aa s j H Q I h;show Subscript_<|bq (he aa s j H _ I h) λv s1 d=>?_;let#[x,n,p,r1,U]:=d;show wpAny_Slice<|bq (G aa s1 j n _ p U) λf s2 d=>?_;let#[l,o,y,N,Y]:=d;show bq (M aa s2 j o _ y Y) λg a i=>?_
 let#[u,m,B,O,q3]:=i;rw[evalPart_none];show Ü ?_;have C:ax X aa j m { a with heap:=a.heap.push { cls:=.type "slice",data:=.fields ([f,g,.none].toArray) } }:=B.kept (t':=a.toks) λb ob q=>Ä _ q
 let#[T,id,D,L,E]:=J aa { a with heap:=a.heap.push { cls:=.type "slice",data:=.fields ([f,g,.none].toArray) } } j m x v f g l u ⇑a Q C r1 (Heap.IsSliceOf.new ..) N O q3;change Ý `aa X.A (al9 e `dv v<|.ref ⇑a) `ap X.xe { a with heap:=a.heap.push { cls:=.type "slice",data:=.fields ([f,g,.none].toArray) } };show tail_any (ops:=[.ref ⇑a,v]) L D E (by with_unfolding_all rfl)
abbrev vh(xs:ay)(lo hi:bK):ay:=(xs.drop<|HT.dM ↑xs 0 lo).take<|HT.dM ↑xs ↑xs hi - HT.dM ↑xs 0 lo
def NJ(xs:ay)(lo hi:bK):(vh xs lo hi).length<=↑xs:=by
 unfold vh;rw[û,List.length_drop];omega
end
abbrev iJ(n:Nat)(i:Int):Option Nat:=if 0<=i then (if i<n then À i.toNat else È) else if -(n:Int)<=i then À (i+n).toNat else È
abbrev cS{G:Type}(xs:List G)(i:Int):Option G:=(iJ ↑xs i).bind λj=>xs[j]?
def F9(h:iJ n i=À j):seqIndex? i n=À j/\j<n/\-(n:Int)<=i/\i<n:=by
 unfold iJ at h;by_cases b:0<=i
 .rw[ao7 b] at h;by_cases a:i<n
  .rw[ao7 a] at h;have e:i.toNat=j:=Ù h;show#[by rw[seqIndex_of b a,e],⋯,⋯,a]
  .rw[ao6 a] at h;cases h
 .rw[ao6 b] at h;by_cases a:-(n:Int)<=i
  .rw[ao7 a] at h;have e:(i+n).toNat=j:=Ù h;show#[by rw[seqIndex_neg ⋯ a,e],⋯,a,⋯]
  .rw[ao6 a] at h;cases h
def zb(h:cS xs i=À v):∃j,seqIndex? i ↑xs=À j/\xs[j]?=À v/\j<↑xs/\-(↑xs:Int)<=i/\i<↑xs:=by
 unfold cS at h;cases e:iJ ↑xs i with
 |none=>rw[e] at h;cases h
 |some j=>
  rw[e] at h;let#[a,b,d,f]:=F9 e;show#[j,a,h,b,d,f]
abbrev Cu(b:ę):Prop:=∀o i,subscripted b É o i=operate [o,i] (getItem o i)
abbrev kz(X:Cx)(r:R2):Prop:=
 ∀(value a:ę)(aa:aX)(s:aj)(j:St)(H:Hp)(x y:V)(v u:ao)(Q:VK),ax X aa j H s->aG x v->aG y u->r x y H Q->
  subscripted a É v u=operate [v,u] (getItem v u)->Ý `aa X.A (al9 value a v u) `ap X.xe s
abbrev K4(X:Cx)(id:String)(r:V->ay->Hp->VK->Prop):Prop:=
 ∀(aa:aX)(s:aj)(j:St)(H:Hp)(x:V)(a:ay)(v:ao)(us:aN)(Q:VK),ax X aa j H s->aG x v->aH a us->r x a H Q->
  Ý `aa X.A (call `aC (v::us)) `ap X.xe s
section
variable{X:Cx}{a b:ę}{ta tb:TE}{pos:Pos}
def kz.or{r f:R2}(h:kz X r)(h':kz X f):kz X (λx y H Q=>r x y H Q\/f x y H Q):=by
 intro value d aa s j H x y v u Q I g i q e;rcases q with q |q
 .show h value d aa s j H x y v u Q I g i q e
 .show h' value d aa s j H x y v u Q I g i q e
def YU(i:kz X r)(f:PE X a ta)(g:PE X b tb)(hs:Cu b):PE X `dw `cj:=by
 intro aa s j H Q I h;show Subscript_<|A8 f g I h λv u n x y d e l m q=>i a b aa n j d x y v u Q e l m q<|hs _ _
abbrev DK(K:aq):R2:=λx y H Q=>∃p d i v,x=.ref p/\y=.int i/\bE K H p d/\cS d i=À v/\Q v H
abbrev DL(K:aq):R2:=λx y H Q=>∃p d i v,x=.ref p/\y=.int i/\df K H p d/\cS d i=À v/\Q v H
abbrev DM:R2:=λx y H Q=>∃z i c,x=.str z/\y=.int i/\↑z<=Ô/\cS z.cps.toList i=À c/\Q (.str #[([c].toArray)]) H
def Lu:kz X (DK X.K):=by
 intro value m aa s G H x y v u Q I M N h A;let#[p,xs,i,z,rfl,rfl,L,E,q]:=h;cases M;∎;let#[t,rfl]:=N;let#[f,r,g,Y]:=I.list L;let#[j,e,B,U,C,D]:=zb E;let#[w,n,l]:=r.get B;∎;have J:=↑r;have hn:=qR;have d:EP X aa G Q w s:=#[z,H,I,l,q];by_cases o:0<=i
 .have hj:i.toNat=j:=by
   rw[seqIndex_of o D] at e;show Ù e
  show item_listR g.isList o ⋯ (by rw[hj];simpa using n) d A
 .have hj:(i+(f.toArray.size:Int)).toNat=j:=by
   rw[seqIndex_neg ⋯ C] at e;rw[ã,<- J];show Ù e
  show ao2 (x:=w) g.isList.typeIs slot_list_getitem.lookup
   (wpAny_getItem_list_neg (Q:=λr O=>r=w/\EP X aa G Q r O) g.isList ⋯ (by rw[ã]<;>omega) ⋯ (by rw[hj];simpa using n) #[rfl,d]) A
def LB:kz X (DL X.K):=by
 intro value f aa s G H x y v u Q I E J h C;let#[p,Y,i,z,rfl,rfl,B,o,q]:=h;cases E;∎;let#[t,rfl]:=J;let#[D,r,g,U]:=I.tuple B;let#[j,m,n,M,N,O]:=zb o;let#[w,l,e]:=r.get n;∎;have A:=↑r;have hn:=qR;have d:EP X aa G Q w s:=#[z,H,I,e,q];show ao2 (x:=w) g.typeIs slot_tuple_getitem.lookup
  (getItem_tuple (j:=j) (Q:=λr L=>r=w/\EP X aa G Q r L) g ⋯ ⋯ (by rw[ã,<- A];show m) (by simpa using l) #[rfl,d]) C
def WU:kz X DM:=by
 intro value d aa s G H x y v u Q I w A h r;∎;let#[z,i,c,rfl,rfl,C,o,q]:=h;let#[t,rfl]:=w;let#[D,rfl]:=A;let#[j,e,l,B,m,n]:=zb o;∎;have p:↑z.cps.toList=↑z:=by simp[Str.length]
 rw[p] at e m n;have hn:=qR;show tail_any (typeIs_str s z t) slot_str_getitem.lookup (getItem_str (c:=c) (by
  have f:decide (i < -(2 ^ 63:Int))=É:=ap0 ⋯;have g:decide (i ≥ 2 ^ 63)=É:=ap0 ⋯;rw[f,g,Bool.or_false]) (by rw[e];simpa using l) #[.str #[([c].toArray)],H,I.tok _,#[_,rfl],q]) r
abbrev IU(K:aq):R2:=λx y H Q=>DK K x y H Q\/DL K x y H Q\/DM x y H Q
def LC:kz X (IU X.K):=Lu.or<|LB.or WU
def O9(bu:aN)(n j:Nat)(u:ao):Ő (·.setIfInBounds j u) { cls:=.type "list",data:=.seq bu.toArray n }={ cls:=.type "list",data:=.seq (bu.set j u).toArray n }:=by
 simp[Ő]
def ax.ag{H:Hp}(I:ax X aa j H s)(h:H p=À `bB):
  ∃(bu:aN)(n:Nat),aH xs bu/\s.heap.get? p=À { cls:=.type "list",data:=.seq bu.toArray n }/\↑xs<=Ô:=by
 let#[z,bu,n,r,e]:=I.aR p _ h;show#[bu,n,r,e,z]
def ax.pF{aa:aX}{j:St}{H:Hp}{s:aj}{p:ai}{xs ys:ay}{bu its':aN}{n n':Nat}{f:Obj->Obj}(I:ax X aa j H s)(h:H p=À `bB)(i:s.heap.get? p=À { cls:=.type "list",data:=.seq bu.toArray n })(d:f { cls:=.type "list",data:=.seq bu.toArray n }={ cls:=.type "list",data:=.seq its'.toArray n' })(r:aH ys its')(hz:↑ys<=Ô)(t:Nat):
  ax X aa j (aQ H p<|.ag ys) { s with heap:=s.heap.update p f,toks:=t }:=by
 have e:(s.heap.update p f).get? p=À { cls:=.type "list",data:=.seq its'.toArray n' }:=by
  rw[Č f i (by rw[d]<;>rfl),d]
 show I.write (x:=p) (e:=p) (by rw[h];trivial) `aj (λb u g q=>(ù _ _<|Ć g).trans q) #[_,e] ?_;show#[hz,its',n',r,e]
abbrev Dc:V->V->V->Hp->(Hp->Prop)->Prop:=λo i v H Q=>∃p d k j,o=.ref p/\i=.int k/\H p=À (.ag d)/\iJ ↑d k=À j/\Q (aQ H p<|.ag<|d.set j v)
def RF:Dz X Dc:=by
 intro aa s G H o i v ov M u Q I D C E h;let#[p,J,k,j,rfl,rfl,y,A,q]:=h;cases D;∎;let#[t,rfl]:=C;let#[d,n,r,g,B]:=I.ag y;let#[e,L,w,x]:=F9 A;∎;have f:=↑r;have hn:=qR;have l:ax X aa G (aQ H p<|.ag<|J.set j v) { s with heap:=s.heap.update p (Ő (·.setIfInBounds j u)) }:=
  I.pF y g (O9 d n j u) (r.set E j) (by rw[ď];show B) s.toks
 by_cases m:0<=k
 .have hk:k.toNat=j:=by
   rw[seqIndex_of m x] at e;show Ù e
  show W.ki_setAt g m ⋯ (by rw[ã,<- f];show x) (by rw[hk];show#[_,l,q])
 .have hk:(k+(d.toArray.size:Int)).toNat=j:=by
   rw[seqIndex_neg ⋯ w] at e;rw[ã,<- f];show Ù e
  show W.ki_setBack g ⋯ (by rw[ã,<- f];show w) ⋯ (by rw[hk];show#[_,l,q])
def M4(lo d:bK)(n:Nat):(Γ lo d È n).1=((HT.dM n 0 lo:Nat):Int)/\(Γ lo d È n).2.1=((HT.dM n n d:Nat):Int)/\(Γ lo d È n).2.2=1:=by
 show#[?_,?_,rfl]
 .cases lo with
  |none=>simp[Γ,HT.dM]
  |some i=>
   simp only[Γ,HT.dM,an2,show (1:Int) > 0 by decide,if_true];by_cases h:i<0
   .simp only[h,if_true]<;>omega
   .simp only[h,if_false]<;>omega
 .cases d with
  |none=>simp[Γ,HT.dM]
  |some i=>
   simp only[Γ,HT.dM,an2,show (1:Int) > 0 by decide,if_true];by_cases h:i<0
   .simp only[h,if_true]<;>omega
   .simp only[h,if_false]<;>omega
def M9(bu:aN)(lo d:bK):slicePick bu.toArray lo d È=((bu.drop<|HT.dM ↑bu 0 lo).take<|HT.dM ↑bu ↑bu d - HT.dM ↑bu 0 lo).toArray:=by
 let#[e,f,g]:=M4 lo d bu.toArray.size;unfold slicePick;rw[e,f,g];simp only[sliceRange_one,pick_run,ã]<;>rfl
abbrev DN(K:aq):V->bK->bK->Hp->VK->Prop:=λx lo e H Q=>∃a d,x=.ref a/\bE K H a d/\∀p,H p=È->Q `ak (aQ H p<|.ag<|vh d lo e)
def Lw:mW X (DN X.K):=by
 intro aa s j H x v B C lo f A Q I w i p u h;let#[a,d,rfl,l,q]:=h;cases w;let#[n,r,g,m]:=I.list l;have e:=↑r;show#["list",_,slot_list_getitem.lookup,g.isList.typeIs,?_];show wpAny_getItem_list_slice g.isList i p u .none ∅ ?_ (by rw[ã]<;>omega);rw[M9,<- e];show#[.ref ⇑s,_,I.laid (t':=s.toks) (o:=.ag<|vh d lo f) (λb y q=>Ä _ q) (Ï _) ?_,rfl,q _<|I.aR.fresh<|Ï _];show#[Ñ (NJ d lo f) m,_,0,(r.drop<|HT.dM ↑d 0 lo).take<|HT.dM ↑d ↑d f - HT.dM ↑d 0 lo,Ø _ rfl]
abbrev jg:V->Bool
 |.aT=>Â
 |.bl _=>Â
 |.int _=>Â
 |.str _=>Â
 |_=>É
abbrev i5:V->V->Bool
 |.aT,.aT=>Â
 |.bl a,.bl b=>a == b
 |.bl a,.int b=>(if a then 1 else 0) == b
 |.int a,.bl b=>a == (if b then 1 else 0)
 |.int a,.int b=>a == b
 |.str a,.str b=>a == b
 |_,_=>É
def oN(g:aG y u)(d:aG x v)(h:jg y=Â)(f:jg x=Â):Ņ A s u v (i5 y x):=by
 cases y with
 |aT=>
  cases g;cases x with
  |aT=>cases d;show Χ _
  |bl b=>cases d;show SeqAt.EqAt.none_bool b
  |int b=>let#[t,rfl]:=d;show SeqAt.EqAt.none_int b t
  |str b=>let#[t,rfl]:=d;show SeqAt.EqAt.none_str b t
  |_=>show ao8 (show É=Â from f) â
 |bl a=>
  cases g;cases x with
  |aT=>cases d;show SeqAt.EqAt.bool_none a
  |bl b=>cases d;show SeqAt.EqAt.bool_bool a b
  |int b=>let#[t,rfl]:=d;show SeqAt.EqAt.bool_int a b t
  |str b=>let#[t,rfl]:=d;show SeqAt.EqAt.bool_str a b t
  |_=>show ao8 (show É=Â from f) â
 |int a=>
  let#[e,rfl]:=g;cases x with
  |aT=>cases d;show SeqAt.EqAt.int_none a e
  |bl b=>cases d;show SeqAt.EqAt.int_bool a e b
  |int b=>let#[t,rfl]:=d;show SeqAt.EqAt.int_int a e b t
  |str b=>let#[t,rfl]:=d;show ag7 a e b t
  |_=>show ao8 (show É=Â from f) â
 |str a=>
  let#[e,rfl]:=g;cases x with
  |aT=>cases d;show SeqAt.EqAt.str_none a e
  |bl b=>cases d;show SeqAt.EqAt.str_bool a e b
  |int b=>let#[t,rfl]:=d;show ag8 a e b t
  |str b=>let#[t,rfl]:=d;show SeqAt.EqAt.str_str a e b t
  |_=>show ao8 (show É=Â from f) â
 |_=>show ao8 (show É=Â from h) â
abbrev i4(x:V)(u:ao):Bool:=match u with
 |.none=>i5 .aT x
 |.bool b=>i5 `cV x
 |.int i _=>i5 `aw x
 |.str z _=>i5 (.str z) x
 |_=>É
def HU(r:aG y u)(f:jg y=Â):i4 x u=i5 y x:=by
 cases y with
 |aT=>cases r;rfl
 |bl b=>cases r;rfl
 |int i=>let#[t,rfl]:=r;rfl
 |str z=>let#[t,rfl]:=r;rfl
 |_=>show ao8 (show É=Â from f) â
def sP:∀{xs:ay}{us:aN},aH xs us->xs.all jg=Â->us.any `bv=xs.any λy=>i5 y x
 |_,_,.nil,_=>rfl
 |y::xs,u::us,.cons r t,f=>by
  rw[Zq,í] at f;rw[ϣ,ϣ,HU r f.1,sP t f.2]
def sE(g:aG x v)(e:jg x=Â):∀{xs:ay}{us:aN},aH xs us->xs.all jg=Â->∀u∈us,Ņ A s u v<|i4 x u
 |_,_,.nil,_=>λu d=>by cases d
 |y::xs,u::us,.cons r t,f=>λh d=>by
  rw[Zq,í] at f;rcases æ.mp d with rfl |d
  .rw[HU r f.1];show oN r g f.1 e
  .show sE g e t f.2 h d
abbrev wL(x:V)(xs:ay):Bool:=xs.any λy=>i5 y x
abbrev tX(K:aq)(neg:Bool):R2:=λx y H Q=>∃p d,y=.ref p/\(bE K H p d\/df K H p d)/\jg x=Â/\d.all jg=Â/\Q (.bl (if neg then !wL x d else wL x d)) H
def Lq:cu X (ú .In) (tX X.K É):=by
 intro aa s j H x y v u Q I g i h;let#[p,l,rfl,d,f,fs,q]:=h;cases i;rcases d with d |d
 .obtain⟨bu,r,pl,hz⟩:=I.list d;show SeqAt.in_listAt `bv pl.isList (λw e=>sE g f r fs w<|by simpa using e) #[.bl _,H,I,rfl,?_];rw[show bu.toArray.any `bv=bu.any `bv by simp,sP r fs];show q
 .obtain⟨bu,r,pl,hz⟩:=I.tuple d;show SeqAt.in_tupleAt `bv pl (λw e=>sE g f r fs w<|by simpa using e) #[.bl _,H,I,rfl,?_];rw[show bu.toArray.any `bv=bu.any `bv by simp,sP r fs];show q
def Lr:cu X `dC (tX X.K Â):=by
 intro aa s j H x y v u Q I g i h;let#[p,l,rfl,d,f,fs,q]:=h;cases i;rcases d with d |d
 .obtain⟨bu,r,pl,hz⟩:=I.list d;show SeqAt.notIn_listAt `bv pl.isList (λw e=>sE g f r fs w<|by simpa using e) #[.bl _,H,I,rfl,?_];rw[show bu.toArray.any `bv=bu.any `bv by simp,sP r fs];show q
 .obtain⟨bu,r,pl,hz⟩:=I.tuple d;show SeqAt.notIn_tupleAt `bv pl (λw e=>sE g f r fs w<|by simpa using e) #[.bl _,H,I,rfl,?_];rw[show bu.toArray.any `bv=bu.any `bv by simp,sP r fs];show q
def bQ.or{r d:ay->Hp->VK->Prop}(h:bQ X f r)(h':bQ X f d):bQ X f (λxs H Q=>r xs H Q\/d xs H Q):=by
 intro aa s j H xs us Q I rs q;rcases q with q |q
 .show h aa s j H xs us Q I rs q
 .show h' aa s j H xs us Q I rs q
def acl:bQ X (.type "list") (λxs H Q=>∃p ys,xs=[.ref p]/\(bE X.K H p ys\/df X.K H p ys)/\∀l,H l=È->Q `cq (aQ H l<|.ag ys)):=by
 intro aa s j H xs us Q I r h;∎;let#[p,ys,rfl,x,q]:=h;let#[u,rfl,D]:=jM r;∎;cases D;have m:∀(d:aN),aH ys d->↑ys<=Ô->∀(f:aV)(g:Nat),(∀b C,s.heap.get? b=À C->f.get? b=À C)->
   f.get? ⇑s=À { cls:=.type "list",dict:=È,data:=.seq d.toArray g,slots:=([].toArray) }->EP X aa j Q `bN { s with heap:=f }:=λd i y f g kp e=>
  #[.ref ⇑s,_,I.laid (t':=s.toks) kp (Ï _) (show bp X.prog X.w _ f _ (.ag ys) from #[y,d,g,i,e]),rfl,q _<|I.aR.fresh<|Ï _]
 rcases x with x |x
 .obtain⟨d,i,pl,y⟩:=I.list x;have v:=↑i;let#[o,B,A,n,hd]:=pl.isList;show call_list_seq p `aj B A hd (λf g kp e=>m d i y f g kp e) (by simp only[ã]<;>omega)
 .obtain⟨d,i,pl,y⟩:=I.tuple x;have v:=↑i;let#[o,B,A,n,hd]:=pl;show call_list_seq p (.inr rfl) B A hd (λf g kp e=>m d i y f g kp e) (by simp only[ã]<;>omega)
abbrev Bn(K:aq)(T:String)(x:V)(H:Hp):Prop:=match x with
 |.str _=>T = "str"
 |.int _=>T = "int"
 |.ref p=>(T = "list" /\ ∃e,bE K H p e) \/ (T = "tuple" /\ ∃o,K.lookup p=À o /\ o.cls=.type "tuple" /\ o.dict=È) \/
   (T="dict"/\((∃d,H p=À `cz)\/∃d,H p=À (.dT d)))\/(T="set"/\∃S n,H p=À (.set S n))
 |_=>False
def WV(I:ax X aa j H s)(r:aG x v)(ty:Bn X.K T x H):
  s.TypeIs v T/\∀a,v=.ref a->∃ob,s.heap.get? a=À ob/\ob.dict=È:=by
 cases x with
 |str z=>
  let#[t,rfl]:=r;cases (show T="str" from ty);show#[typeIs_str s z t,λ_ e=>nomatch e]
 |int i=>
  let#[t,rfl]:=r;cases (show T="int" from ty);show#[typeIs_int s i t,λ_ e=>nomatch e]
 |ref p=>
  cases r;rcases ty with⟨rfl,m,l⟩ |⟨rfl,o,d,h,hd⟩ |⟨rfl,d⟩ |⟨rfl,S,n,d⟩
  .obtain⟨bu,_,pl,_⟩:=I.list l;show#[pl.isList.typeIs,λa e=>?_];cases e;let#[o,n,e,c,hd,_]:=pl;show#[o,e,hd]
  .show#[#[o,I.eO p o d,h],λa e=>?_];cases e;show#[o,I.eO _ o d,hd]
  .have z:∃o,s.heap.get? p=À o/\o.ExactDict:=by
    rcases d with⟨g,d⟩ |⟨g,d⟩
    .obtain⟨_,_,_,_,o,_,_,e,ex,_⟩:=I.aR p _ d;show#[o,e,ex]
    .obtain⟨_,_,_,_,o,_,_,e,ex,_⟩:=I.aR p _ d;show#[o,e,ex]
   let#[o,e,ex]:=z;show#[#[o,e,ex.1],λa f=>?_];cases f;show#[o,e,ex.2.1]
  .obtain⟨o,_,_,_,e,ex,_⟩:=I.aR p _ d;show#[#[o,e,ex.1],λa f=>?_];cases f;show#[o,e,ex.2.1]
 |_=>show ò ty
abbrev Bl(K:aq)(T:String)(r:V->ay->Hp->VK->Prop)(f:TE)(t:TA):TE:=λj H Q=>f j H λx d=>Bn K T x d/\t j d λg e=>r x g e Q
variable{o e:ę}{es:bN}{to:TE}{t:TA}{name:Str}{apos br:Pos}{T id:String}{r:V->ay->Hp->VK->Prop}
def I0(G:PlainAttrs T)(slot:Slot T name id)(l:typeOf `aC=pure (.type "method_descriptor"))(hm:K4 X id r)(E:PE X o to)(D:PA X (e::es) t)(f:do Ė o name X.env `at=eval o X.env)(i:((ű br<|Ă (e::es) X.env).all (λx=>!x.1)&&(Α br<|ŗ [] X.env).all (λx=>x.1.isSome)
   && decide ((e::es).length+([]:List ZE).length+(if ([]:List ZE).isEmpty then 0 else 1)<30))=Â:=by rfl)(g:do (apos.endLine == br.line)=Â)(hs:do d0 e es X.env)(d:do fS br es X.env):
  PE X (.Call (.Attribute o name apos) (e::es) [] br) (Bl X.K T r to t):=by
 intro aa s j H Q I h;show wpAny_Call_method_late f i g rfl<|bq (E aa s j H _ I h) λv M m=>?_;∎;let#[x,w,p,u,ty,J]:=m;let#[B,C]:=WV p u ty;∎;show#[T,id,G,slot,l,B,C,?_];have q:=D br aa M j w _ p J;rw[hs] at q ⊢;show ό (by change (É || (ű br (Ă es X.env)).any (·.1))=É;rw[d]<;>rfl)<|ZT ?_;show bq q λus N n=>by let#[vs,y,A,r2,L]:=n;show hm aa N j y x vs v us Q A u r2 L
end
abbrev Bu(X:Cx)(id:String)(r:V->ay->Hp->VK->Prop):Prop:=
 ∀(aa:aX)(s:aj)(j:St)(H:Hp)(x:V)(a:ay)(v:ao)(us:aN)(Q:VK),ax X aa j H s->aG x v->aH a us->r x a H Q->
  Ý `aa X.A (call `aC (v::us)) `ap X.xe s
def aH.one:∀{x:V}{us:aN},aH [x] us->∃u,us=[u]/\aG x u:=by
 intro x us h;cases h with
 |cons r t=>cases t;show#[_,rfl,r]
def aH.rep(h:aH xs us):∀k:Nat,aH (Ó k xs).flatten (Ó k us).flatten
 |0=>.nil
 |k + 1=>by
  rw[aa0,aa0,an8,an8];show aH.append h<|aH.rep h k
section
variable{X:Cx}{aa:aX}{σ:St}{H:Hp}{s:aj}{l b:ai}{xs ys zs:ay}
def ax.An{bu its':aN}{n:Nat}{f:cU->cU}{t':Nat}(I:ax X aa σ H s)(a:H l=À `bB)(e:s.heap.get? l=À { cls:=.type "list",data:=.seq bu.toArray n })(g:f bu.toArray=its'.toArray)(i:aH ys its')(hz:↑ys<=Ô):
  ax X aa σ (aQ H l<|.ag ys) { s with heap:=s.heap.update l<|Ő f,toks:=t' }:=by
 have q:=PySem.IsL.update e f;rw[g] at q;show I.write (x:=l) (e:=l) (by rw[a];show trivial) `aj (λj u d h=>(ù s.heap (Ő f)<|Ć d).trans h) #[_,q] ?_;show#[hz,its',_,i,q]
def ax.tT(I:ax X aa σ H s)(a:aH ys bu)(hz:↑ys<=Ô):
  ax X aa σ (aQ H ⇑s (.ag ys)) { s with heap:=s.heap.push { cls:=.type "list",data:=.seq bu.toArray },toks:=t' }:=
 I.laid (λ_ _ q=>Ä _ q) (Ï _) #[hz,bu,0,a,Ø _ rfl]
def ax.fresh(I:ax X aa σ H s):H ⇑s=È:=I.aR.fresh<|Ï _
def ax.Ao(I:ax X aa σ H s)(a:H l=À `bB):↑xs<=Ô/\∃(bu:aN)(n:Nat),aH xs bu/\↑xs=↑bu/\s.heap.get? l=À { cls:=.type "list",data:=.seq bu.toArray n }:=by
 let#[z,bu,n,r,e]:=I.aR l _ a;show#[z,bu,n,r,r.length,e]
end
section
variable{X:Cx}
abbrev Cv:V->ay->Hp->VK->Prop:=λx vs H Q=>∃l a y,x=.ref l/\vs=[y]/\H l=À (.ag a)/\↑a<Ô/\Q .aT (aQ H l<|.ag<|a++[y])
def P6:Bu X "list.append" Cv:=by
 intro aa s j H x vs v us Q I g f h;let#[l,o,y,rfl,rfl,b,m,q]:=h;cases g;∎;let#[u,rfl,d]:=f.one;let#[z,a,n,r,i,e]:=I.Ao b;∎;show ak2 F.slot_list_append #[_,e,rfl] F.entry_list_append (F.args_list_append_2 _ _) (PySem.list_append l a.toArray n u (by rw[ã];omega)) #[e,?_];show#[.aT,_,I.An (its':=a++[u]) b e ∅ (r.append<|.cons d .nil) ?_,rfl,q];rw[Ò,ŕ];omega
end
end L2
namespace Att
open PySem PySem.W PySem.Calls PyProof.Rows
def Mw:∀(ns:aF)(vs:aN),WellAll P h vs (ns.map WData.int)->ai5 vs ns:=by
 intro ns
 induction ns with
 |nil=>
  intro vs w;rw[Zz] at w;cases w;show .nil
 |cons n ns d=>
  intro vs w;rw[ë] at w;cases w with
  |cons a b=>
   cases a;show .cons _ _<|d _ b
def P7{l:aj8}{n:Nat}(hn:l.most=À n){P:Params}{h:aV}{args:List WData}{e:aN}(b:l.row.toRowW.claim.pre args=Â)(o:WellAll P h e args):
  ∃a vs ns,e=[å a]/\args=[WData.list<|ns.map WData.int]/\h.get? a=À { cls:=.type "list",data:=.seq vs.toArray }/\ai5 vs ns/\↑ns<=n:=by
 have m:WShape.hasAll [] args [.list .int]=Â:=(pre_splitW b).1;have p:l.pre.holds [] { args:=args }=Â:=(pre_splitW b).2;let#[d,r,rfl,u,v]:=hasAllW_cons m;obtain rfl:=hasAllW_nil v;∎;let#[C,rfl,w]:=hasW_list u;let#[ns,rfl]:=items_int w;∎;have g:↑ns<=n:=by
  unfold OpenLaw.pre at p;have i:(WTm.not<|.lt (.lit<|.int (n:Int))<|.len<|.arg 0).holds [] { args:=[.list<|ns.map .int] }=Â:=by
   have i:=(holds_andW p).1;rw[hn] at i;show i
  have j:=condW_of i<|w_not<|w_lt w_lit<|w_len_list<|w_arg rfl;rw[Å] at j;show Nat.le_of_not_lt λq=>?_
  have y:(n:Int)<((↑ns:Nat):Int):=⋯
  first
   |(rw[ao9 y] at j;show ao8 j ∎)
   |(simp at j;omega)
 cases o with
 |cons A B=>
  cases B;cases A with
  |list x f=>show#[_,_,ns,rfl,rfl,x,Mw ns _ f,g]
def P8(l:aj8)(args:List WData):l.row.toRowW.claim.post args (.bool Â) args=Â:=
 postW_of (r:=l.row.toRowW) (X:=(Â == Â))
  (show WShape.has [] (.bool Â) .bool=Â by first |rfl |decide |simp[WShape.has,WShape.arms,WShape.armsAll])
  (show (WTm.eq .res<|.lit<|.bool Â).value [] { args:=args,res:=À<|.bool Â,after:=args }=À (.bool<|Â == Â) from w_eq_bool (w_res rfl) w_lit) rfl
def hY{l:aj8}{n:Nat}{q:ð}{e:ah}{B:(bw)->aV->Prop}{C:ă->aV->Prop}{d:DefRec}(hn:l.most=À n)(v:d.params.defaults=[])(call:∀(w:ă)(s₀ b:aj)(mg A:bw)(h:ai)(o:Obj)(pm p doc:ao)(a:ai)(vs:aN)(ns:aF),
   Ground q e [] B w s₀ mg A b.heap->C w b.heap->
   b.heap.get? h=À o->o.data=.func (docDef d.name d.params d.body d.scope pm p doc)->b.heap.CodeRec p d.name->mg d.name=À (.ref h)->
   b.heap.get? a=À { cls:=.type "list",data:=.seq vs.toArray }->ai5 vs ns->↑ns<=n->b.gens=([].toArray)->
   Ŷ (Þ l.prog w) ae2 (.call (.ref h) #[[.ref a],[]]) (λr s'=>r=.ok (.ret<|.bool Â)/\OldK b.heap s'.heap/\s'.os=b.os/\ZC s'.gens) b):
  WalkO q e B C l.row.toRowW d [] (λf vs=>PySem.call f vs):=by
 intro w s₀ b mg A G Y h o pm p doc I kV Q hd u D x N args H as m E α y O;obtain rfl:I=.none:=Dflts.none D v;obtain rfl:kV=.none:=Dflts.noKw D;let#[a,vs,ns,rfl,rfl,j,g,i]:=P7 hn m y;show enter_call<|ŷ (call w s₀ b mg A h o pm p doc a vs ns G Y Q (fd_plain hd) u x j g i N) λr s' U=>?_;let#[rfl,J,L,M]:=U;show#[.inl #[.bool Â,.bool Â,[],rfl,λ_=>rfl,.bool Â,P8 l _,λ_=>#[List.Pairwise.nil,λ_ hm=>(nomatch hm)]],J,L,M]
end Att
namespace L2
open PySem PySem.Spec PyProof.Rows
def EW:∀{vs:aN}{ns:aF},ai5 vs ns->aH `ay vs
 |_,_,.nil=>.nil
 |_,_,.cons n t h=>.cons #[t,rfl]<|EW h
abbrev yw(H:Hp):Prop:=∀b,H b=È\/∃o a,H b=À (.aB o<|.ag a)
def RG{P:ð}{w:ă}{K:aq}{mg Q:bw}{CX:fP}{k:Nat}{L a:ai}{fd:Ĥ}{x:Str}{sp:Sp}{f:aj}{vs:aN}{ns:aF}(Y:K.In f.heap)(C:f.heap.Ns Ř mg)(i:f.heap.Ns builtinsNs Q)(N:∀x:Str,x≠"__name__"->Q x=ϧ x)(B:f.heap.NoLimit)(hg:f.gens=([].toArray))(I:f.heap.get? a=À { cls:=.type "list",data:=.seq vs.toArray })(hi:ai5 vs ns)(hl:↑ns<=Ô)(hr:bA k ae2)(F:∀base:Heap,K.In base->base.Ns Ř mg->aJ P w K mg base CX k L fd [x] sp)(l:∀(s:aj)(u:ao),BindsTo s fd #[[u],[]] [(x,u)])(O:∀H:Hp,yw H->bE K H a `ay->sp [.ref a] H (λv _=>v=.bl Â) λ_ _ _=>False)(M:∀H e s',CX [] H f (λ_ _ _=>False) e s'->False):
  Ŷ `bC ae2 (.call (.ref L) #[[.ref a],[]]) (λr s'=>r=.ok (.ret<|.bool Â)/\OldK f.heap s'.heap/\s'.os=f.os/\ZC s'.gens) f:=by
 have rv:=EW hi;have E:=↑hi;have core:∀H:Hp,yw H->bE K H a `ay->dD P w H f.heap->(∀b,H b≠È->b=a)->(H a≠È->K.lookup a=È)->
   Ŷ `bC ae2 (.call (.ref L) #[[.ref a],[]]) (λr s'=>r=.ok (.ret<|.bool Â)/\OldK f.heap s'.heap/\s'.os=f.os/\ZC s'.gens) f:=by
  intro H hO hS aR hA hK;have g:∀{b:ai}{o:Obj},f.heap.get? b=À o->H b=È->(l9 f.heap H).get? b=À o:=λe n=>Sa e n
  have U:∀{b:ai}{o:Obj}{y:Array DictEntry}{p:Nat},f.heap.get? b=À o->o.data=.dict y p->H b=È:=λ{b o y p} e d=>by
   cases q:H b with
   |none=>rfl
   |some u=>
    have J:b=a:=hA b (by rw[q];simp);subst J;rw[I] at e;cases e;have d':Data.seq vs.toArray _=Data.dict y p:=d;cases d'
  have j:∀{b:ai}{m:bw},f.heap.Ns b m->(l9 f.heap H).Ns b m:=λ{b m} ⟨o,y,p,e,d,r⟩=>#[o,y,p,g e<|U e d,d,r]
  have A:K.In `cW:=λb o e=>g (Y b o e) (by
   cases q:H b with
   |none=>rfl
   |some u=>
    have J:b=a:=hA b (by rw[q];simp);subst J;rw[hK (by rw[q];simp)] at e;cases e)
  have hM:Mod K mg `cW:=#[A,j C,#[Q,j i,N],let ⟨mc,h1,h2⟩:=B;#[mc,j h1,h2]]
  have e0:iM P w K mg `cW ae2 [] f H:=#[rfl,hM,λb o e=>Uk e,Nat.le_of_eq<|O3 _ _,trivial,λb i=>ao8 (show b∈([]:cJ) from i) ∅,aR,.of_eq hg]
  show ŷ ((F _ A<|j C).run ae2 [] f H #[[.ref a],[]] [.ref a] [.ref a] _ _ hr e0 (l f<|.ref a) (.cons rfl .nil) (O H hO hS)) λr s' h=>?_
  cases r with
  |error e=>show (M H e s' h).elim
  |ok fl=>
   cases fl with
   |next=>show ò h
   |brk=>show ò h
   |cont=>show ò h
   |ret u=>
    let#[v,H',os,bare,un,D,r',q]:=h;have q':v=.bl Â:=q;subst q';obtain rfl:u=aa6 Â:=r';show#[rfl,OldK.of_keep λb o e=>?_,os,bare];cases q:H b with
    |none=>show un.keep b o e q (by intro z;show ao8 (show b∈([]:cJ) from z)<|by simp) ∅
    |some u=>
     rcases hO b with z |⟨ob,xs,z⟩
     .rw[q] at z;cases z
     .have z2:=un.bf b ob _ z;let#[e1,_]:=aR b _ z;let#[e2,_]:=D b _ z2;rw[e] at e1;cases e1;show e2
 cases hk:K.lookup a with
 |some o=>
  have e:=Y a o hk;rw[I] at e;cases e;show core (λ_=>È) (λ_=>.inl rfl) (.inr #[_,vs.toArray,_,hk,rfl,rfl,rfl,by rw[ã,E];show hl,by simpa using rv]) (λb u z=>by have G:(È:Option HO)=À u:=z;cases G) (λb z=>ao8 rfl z) λz=>ao8 rfl z
 |none=>
  show core (λb=>if b=a then À (.aB { cls:=.type "list",data:=.seq vs.toArray } (.ag<|ns.map V.int)) else È) (λb=>?_) (.inl<|.inr #[{ cls:=.type "list",data:=.seq vs.toArray },ao7 rfl]) (λb u z=>?_) (λb z=>?_) λ_=>hk
  .by_cases i:b=a
   .show .inr #[_,_,ao7 i]
   .show .inl (ao6 i)
  .by_cases i:b=a
   .have G:=(ao7 i).symm.trans z;cases G;subst i;show#[I,by rw[Å];show hl,vs,_,rv,I]
   .have G:=(ao6 i).symm.trans z;cases G
  .by_cases i:b=a
   .show i
   .show ao8 (ao6 i) z
def mR{l:aj8}{n k:Nat}{q:ð}{m:ah}{M:(bw)->aV->Prop}{L:ă->aV->Prop}{d:DefRec}{K:Params->aq}{CX:ă->fP}{sp:ă->Sp}{x:Str}(hn:l.most=À n)(E:n<=Ô)(C:d.params.defaults=[])(hr:bA k ae2)(U:∀(w:ă)(h:aV),L w h->(K w.params).In h)(F:∀(w:ă)(mg:bw)(y:ai)(h:aV),(K w.params).In h->h.Ns Ř mg->mg d.name=À (.ref y)->
   ∃A:Ĥ,(∀(s:aj)(u:ao),BindsTo s A #[[u],[]] [(x,u)])/\
    ∀base:Heap,(K w.params).In base->base.Ns Ř mg->aJ l.prog w `dh mg base (CX w) k y A [x] (sp w))(I:∀(w:ă)(H:Hp)(a:ai)(ns:aF),ns.length<=n->yw H->bE `dh H a `ay->sp w [.ref a] H (λv _=>v=.bl Â) λ_ _ _=>False)(B:∀(w:ă)(H:Hp)(s:aj)(e:ao)(s':aj),CX w [] H s (λ_ _ _=>False) e s'->False):
  W.WalkO q m M L l.row.toRowW d [] (λf vs=>PySem.call f vs):=by
 show Att.hY hn C λw s₀ r mg mb y o pm cd doc a vs ns G Y ho hd α D p j i hg=>?_
 have J:=U w _ Y;let#[A,hb,N]:=F w mg y _ J G.T.g D;show RG J G.T.g G.T.b G.T.builtins G.T.nolimit hg p j (Ñ i E) hr N hb (λH O Q=>I w H a ns i O Q) λH e s'=>B w H r e s'
abbrev inClass(s:Ā)(j:Nat):Ā:=match s with
 |.ClassDef _ _ _ a _ _ _ _ _ _ _=>a.getD j<|.Pass #[0,0,0,0]
 |_=>.Pass #[0,0,0,0]
abbrev qm(s:Ā):Arguments:=match s with
 |.FunctionDef _ a _ _ _ _ _ _ _ _=>a
 |_=>{ posonlyargs:=[],args:=[],vararg:=È,kwonlyargs:=[],kw_defaults:=[],kwarg:=È,defaults:=[] }
abbrev j4(s:Ā):List Ā:=match s with
 |.FunctionDef _ _ b _ _ _ _ _ _ _=>b
 |_=>[]
abbrev bD(s:Ā):Zr:=match s with
 |.FunctionDef _ _ _ _ _ _ sc _ _ _=>sc
 |_=>{ kind:=.function,names:=[],isGenerator:=É,isCoroutine:=É }
nonrec abbrev bI:fP:=λ_ _ _ _ _ _=>False
nonrec abbrev E0:XK:=λ_ _ _=>False
def tp:ot bI X E0:=λ_ _ _ _ _ _ _ h=>h.elim
structure ir(K:aq)(x qual:Str)(st:Ā)(f:ai)(fd:Ĥ):Prop where
 ex:∃(oc:ao)(od:b9)(kV doc pm:ao)(an:b9)(bH ct:ao)(osl:Array (eW)),
  fd=ad9 x qual (qm st) `bw `aT .none kV doc pm an bH ct/\K.lookup f=À #[oc,od,.func fd,osl]/\W.codeIn K bH qual=Â
 kp:ź K `aq=Â
section
variable{P:ð}{w:ă}{K:aq}{mg:bw}{base:aV}
def ir.ok{x a:Str}{st:Ā}{f:ai}{i:Ĥ}{N g:ah}{k:Nat}{sp:Sp}(F:ir K x a st f i)(S:bS N g `aT)(len:∀vs H Q E,sp vs H Q E->↑vs=↑g)(b:∀(bH:ao)(A:ĉ)(outer:cH)(s:aj)(H:Hp)(vs:ay)(Q:VK)(E:XK),bA k (A.deeper<|Ę a (bD st) ⇑s f bH)->sp vs H Q E->
   ∃t,fR (kc bI P w K mg base N a `aT f bH A outer s H E).rf `bw t/\t { nx:=λ_ j=>Q .aT j,rt:=Q } `aX H):aJ P w K mg base bI (k+1) f i g sp:=by
 let#[oc,od,kV,doc,pm,an,bH,ct,osl,rfl,m,d]:=F.ex;show IY m d S len λA outer s H vs Q E l e=>?_
 let#[t,h,q]:=b bH A outer s H vs Q E l e;show#[t,h.rf,q]
def ir.binds{x a:Str}{st:Ā}{f:ai}{d:Ĥ}{b:ah}(F:ir K x a st f d)(h:∀(kV doc pm:ao)(an:b9)(bH ct:ao)(us:aN),us.length=↑b->bindArgs (ad9 x a (qm st) `bw `aT .none kV doc pm an bH ct) #[us,[]]=pure (b.zip us)):Binds K d b []:=by
 let#[oc,od,kV,doc,pm,an,bH,ct,osl,rfl,g,e]:=F.ex;show .all<|h kV doc pm an bH ct
def WW{x a:Str}{st:Ā}{f:ai}{oc:ao}{od an:b9}{osl:Array (eW)}{kV doc pm bH ct:ao}(l:K.lookup f=À #[oc,od,.func<|ad9 x a (qm st) (j4 st) (bD st) .none kV doc pm an bH ct,osl])(c:W.codeIn K bH a=Â)(k:ź K `aq=Â):ir K x a st f (ad9 x a (qm st) `bw `aT .none kV doc pm an bH ct):=#[#[oc,od,kV,doc,pm,an,bH,ct,osl,rfl,l,c],k]
end
def Ja(a:bA k A):A.units+1<Ĭ:=Ď (ϴ (by decide:1<=64) _) a.units
section
variable{X:Cx}
def pv(i:Nat)(b:do X.N[i]?=À x)(d:qb X.env.scope x:=by first |show Ϸ rfl |show ż (Ϸ rfl) |show ż<|ż rfl)(hd: ~~~(dZ x))(a: ~~~((x == ("__classdict__":Str))=É)):PE X `ao (add i):=v3 b d hd a
end
abbrev aE(H H':Hp):Prop:=∀b o,H b=À o->H' b=À o
def aE.refl(H:Hp):aE H H:=λ_ _ h=>h
def aE.trans(a:aE H H1)(b:aE H1 H2):aE H H2:=λc o h=>b c o<|a c o h
def aE.free{H a:Hp}(e:aE H a)(h:a l=È):H l=È:=by
 cases q:H l with
 |none=>rfl
 |some o=>
  rw[e l o q] at h;cases h
def aE.seq{K:aq}{H b:Hp}{a:ai}{xs:ay}(e:aE H b)(h:bE K H a xs):bE K b a xs:=by
 rcases h with (h |⟨o,h⟩) |h
 .show .inl (.inl (e _ _ h))
 .show .inl (.inr ⟨o,e _ _ h⟩)
 .show .inr h
section
variable{X:Cx}
def P9:bQ X (.builtin "len") (λxs H Q=>∃a kvs,xs=[V.ref a]/\H a=À `am/\Q (.int ↑kvs) H):=by
 intro aa s j H xs us Q I r h;∎;let#[a,kvs,rfl,d,q]:=h;let#[u,rfl,e]:=jM r;∎;cases e;show YT I (.inl d) λt f b=>#[.int ↑kvs,H,b,#[t,rfl],q]
end
end L2
namespace L2
open PySem PySem.Spec PyProof.Rows
abbrev jd(i j:Int):Prop:=∃n:Nat,n<=60000000/\i.natAbs<2 ^ n/\j.natAbs<2 ^ n
def Ga(h:x.natAbs<2 ^ n):ae5 x<=n:=by
 unfold ae5;by_cases e:(x == 0)=Â
 .rw[ao7 e];show Ĝ _
 .rw[ao6 e];have a:x.natAbs≠0:=by
   intro z;have:x=0:=⋯
   rw[this] at e;show e rfl
  show (al8 a).mpr h
def jd.ok(h:jd i j):IntMulOk i j:=by
 let#[n,hn,a,b]:=h;have f:=Ga a;have g:=Ga b;intro z;simp only[í,Builtin.Int.intTooBig,decide_eq_true_eq] at z;have e:(bitsLine:Nat)=134217728:=∎
 have d:=z.2;rw[e] at d;omega
abbrev l8(i j:Int):Prop:=lX i j\/jd i j
abbrev dR(_ j:Int):Prop:=j≠0/\j.natAbs<2 ^ 8000
def dR.ok(h:dR i j):Builtin.divisionGoesByPylong i j=É:=by
 show PyProof.noPylong_of_log2 ?_;have a:j.natAbs≠0:=by have:=h.1;omega
 have:=(al8 a).mpr h.2;omega
section
variable{X:Cx}
def Lx:cu X `cM (rI l8 λi j=>.int<|i*j):=wO λ_ _ _ _ _ _ _ a q=>mul_int q<|a.elim lX.ok jd.ok
def RH:cu X (ś .FloorDiv) (rI dR λi j=>.int<|i.fdiv j):=wO λ_ _ _ _ _ _ _ a q=>floordiv_int a.1 q<|.inl a.ok
end
section
variable{X:Cx}{aa:aX}{σ:St}{H:Hp}{s:aj}{a:ai}{kvs:bL}
def ax.freeze(I:ax X aa σ H s)(e:H a=À `am):∃o,s.heap.get? a=À o/\ax X aa σ (aQ H a<|.aB o<|.dK kvs) s:=by
 have ok:bp X.prog X.w H s.heap a `am:=I.aR a _ e;let#[z,y,vs,r,o,f,d,b,c]:=id ok;show#[o,b,?_];show I.write (h':=s.heap) (t':=s.toks) (x:=a) (e:=a) (by rw[e];show ý) `aj (λ_ _ _ q=>q) #[o,b] #[b,z,y,vs,r,o,f,d,b,c]
def ax.fX(I:ax X aa σ H s)(e:H a=À (.aB o<|.dK kvs))(hn:∀o u,X.H₀ a≠À `aG):ax X aa σ (aQ H a<|.dK kvs) s:=by
 have ne:∀b u,H b=À u->(∀o v,u≠.aB o v)->b≠a:=λb u h d z=>by
  subst z;rw[e] at h;show d _ _ (Ù h).symm
 let#[A,ok]:=(show bp X.prog X.w H s.heap a (.aB o<|.dK kvs) from I.aR a _ e);show#[I.ok,I.os,I.bare,#[λb f q n i g=>I.base.keep b f q n i g,λb f q n i g=>I.base.slot b f q n i g,λb f q n g=>?_,λb f q g=>I.base.there b f q g,λb j q=>?_,λb f u q=>?_,λb r q=>?_],I.loc,I.cell,?_,λx c q=>?_,λp l=>?_,λb u q=>?_,I.len]
 .have z:=I.base.free b f q n g;rw[a6 (by intro y;subst y;rw[e] at z;cases z)];show z
 .have z:=I.base.e8 b j q;rw[a6<|ne b _ z<|λ_ _ y=>by cases y];show z
 .have z:=I.base.bf b f u q;rw[a6 (by intro y;subst y;show hn _ _ q)];show z
 .obtain⟨m,z⟩:=I.base.e7 b r q;show#[m,by rw[a6<|ne b _ z<|λ_ _ y=>by cases y];show z]
 .rw[a6 (by intro y;have z:=I.free;rw[y,e] at z;cases z)];show I.free
 .rw[a6 (by intro y;have z:=I.b4 x c q;rw[y,e] at z;cases z)];show I.b4 x c q
 .obtain⟨p1,p2,p3,p4,p5⟩:=I.pin p l;show#[p1,?_,p3,p4,p5];rw[a6 (by intro y;rw[y,e] at p2;cases p2)];show p2
 .by_cases i:b=a
  .subst i;rw[cD] at q;cases q;show ok
  .rw[a6 i] at q;show (I.aR b u q).e6 (λ_ _ _ z=>z) (λc z=>by rw[a6<|ne c _ z<|λ_ _ y=>by cases y];show z) λc j z=>by rw[a6<|ne c _ z<|λ_ _ y=>by cases y];show z
end
abbrev rj(a:ai)(ob:Obj)(kvs:bL):It:=
 #[λi H=>i<↑kvs/\H a=À (.aB ob<|.dK kvs),λi H x b=>∃p k v,kvs[i]?=À (k,v)/\H p=È/\x=.ref p/\b=aQ H p (.aL [kV k,v]),λi H=>↑kvs<=i/\H a=À (.aB ob<|.dK kvs)]
def yX(h:(eL P w).is k u=Â):aG (kV k) u:=by
 rcases lB (k:=k) (v:=u) h with⟨i,t,rfl,rfl⟩ |⟨x,t,rfl,rfl⟩
 .show⟨t,rfl⟩
 .show⟨t,rfl⟩
def KV.at(r:KV kvs vs):∀{i:Nat}{k:aW}{v:V},kvs[i]?=À (k,v)->∃u,vs[i]?=À (k,u)/\aG v u:=by
 unfold KV at r
 induction r with
 |nil=>intro i k v h;simp at h
 |@cons p q d f h t b=>
  intro i k v e;cases i with
  |zero=>
   simp at e;subst e;have a:k=q.1:=h.1;show#[q.2,by rw[a];rfl,h.2]
  |succ i=>simpa using b (i:=i) (k:=k) (v:=v) (by simpa using e)
def Pa{P:ð}{w:ă}{K:aq}{elts:bN}{x1:Nat}{pos:Pos}(a it:ai)(ob:Obj)(kvs:bL)(ζ:a≠it):
  lG P w K `as (rj a ob kvs) [it] it (λi h=>∃g ep ok ov,ob.data=.dict g ep/\IsItemIter h it a i ↑kvs ep ok ov) where
 mem:=by simp
 obj:=λi h st b m=>by
  have e:b=it:=by simpa using m
  subst e;let#[g,ep,ok,ov,hd,e]:=st;show#[_,e,λv z=>by cases z]
 keep:=λi h h' st k=>by
  let#[g,ep,ok,ov,hd,e]:=st;show#[g,ep,ok,ov,hd,k it ∅ _ e]
 item:=by
  intro X hP hw hK hc i aa s j H E I hf st hg;subst hP hw hK;∎;let#[g,ep,ok,ov,hd,d]:=st;let#[hi,hH]:=hg;let#[B,z,y,vs,r,J,β,α,f,N,n,O,U,Y]:=(show bp X.prog X.w H s.heap a (.aB ob<|.dK kvs) from I.aR a _ hH);∎;have eo:J=ob:=by rw[B] at f;show (Ù f).symm
  subst eo;rw[hd] at n;cases n;have hm:s.heap.DictAt `aK a vs ep:=#[J,g,B,N,hd,O,U,Y];obtain⟨⟨k,v⟩,x⟩:∃q,kvs[i]?=À q:=#[kvs[i],by simp[hi]];let#[u,hu,ru]:=r.at x;have M:↑kvs=↑vs:=KV.length r;rw[M] at d;let#[L,f1,f2,f3,f4,f5]:=hf it ∅;show wpAny_pyNext_items_item d hm hu λl h' p C hT η hk=>?_
  show#[.ref ⇑s,rfl,wpAny_letOwnedTupleGo_items C λh2 he hs=>?_];have ε:it<⇑s:=Ð d;have I1:=I.laid (a:=⇑s) (o:=.aL [kV k,v]) (h':=s.heap.push { cls:=.type "tuple",data:=.seq ([l,u].toArray) }) (t':=s.toks) (λb q D=>Ä _ D) (Ï _)
   #[by change 2<=Ô;decide,[l,u],.cons (yX p)<|.cons ru .nil,#[_,Ø _ rfl,rfl,_,rfl]]
  have δ:H ⇑s=È:=I.aR.fresh<|Ï _;have G:it≠⇑s:=ì ε;show#[.ref ⇑s,aQ H ⇑s (.aL [kV k,v]),?_,rfl,#[_,k,v,x,δ,rfl,rfl],#[g,ep,l,u,hd,by rw[M];show he],λb m=>?_]
  .have I2:ax X aa j (aQ H ⇑s (.aL [kV k,v])) { s with heap:=h2,toks:=s.toks }:=ax.turned (s:={ s with heap:=s.heap.push { cls:=.type "tuple",data:=.seq ([l,u].toArray) },toks:=s.toks }) I1 (h':=h2) (t':=s.toks) (it:=it) (λb q m D=>?_) (by rw[a6 G];show L) f1 f3 f4 f5
   .show I2
   .show hs.extBut b q m ?_;rcases ϭ D with⟨γ,eq⟩ |D
    .subst γ;subst eq;show hT
    .show hk b q m D
  .have e:b=it:=by simpa using m
   subst e;rw[a6 G];show L
 done:=by
  intro X hP hw hK hc i aa s j H E I hf st hg;subst hP hw hK;∎;let#[g,ep,ok,ov,hd,d]:=st;let#[hi,hH]:=hg;let#[B,z,y,vs,r,J,β,α,f,N,n,O,U,Y]:=(show bp X.prog X.w H s.heap a (.aB ob<|.dK kvs) from I.aR a _ hH);∎;have eo:J=ob:=by rw[B] at f;show (Ù f).symm
  subst eo;rw[hd] at n;cases n;have hm:s.heap.DictAt `aK a vs ep:=#[J,g,B,N,hd,O,U,Y];have M:↑kvs=↑vs:=KV.length r;rw[M] at d;let#[L,f1,f2,f3,f4,f5]:=hf it ∅;show wpAny_pyNext_items_end `cl d hm (by simp;omega) λh' eb=>#[rfl,I.turned (t':=s.toks) (λb o m e=>eb b o m e) L f1 f3 f4 f5]
 self:=λA i s Q E st h=>by
  let#[g,ep,ok,ov,hd,d]:=st;show W.kcp_self d h
section
variable{X:Cx}
abbrev CG(X:Cx)(f:TE):TI:=λj H R=>f j H λx d=>∃a b,x=.ref a/\d a=À (.dK b)/\∀e,(∀o u,X.H₀ a≠À `aG)->R (rj a e b) (aQ d a<|.aB e<|.dK b)
def RI(ho:PE X o td)(l:Ė o "items" X.env `at=eval o X.env)(m:(apos.endLine == br.line)=Â):
  PI X `as (.Call (.Attribute o "items" apos) [] [] br) (CG X td):=by
 intro aa s j H R I h;show an3 l m<|bq (ho aa s j H _ I h) λv i J=>?_;let#[x,L,p,r1,a,g,ex,A,q]:=J;subst ex;obtain rfl:v=å a:=r1;let#[N,t2,hd]:=v7 p<|.inl #[g,.inl A];show#["dict","dict.items",PySem.F.plainAttrs_dict,PySem.F.slot_dict_items,PySem.F.type_dict_items,N,t2,ό rfl<|PySem.evalArgs_none ?_];let#[z,y,vs,r,dd]:=wI p.aR A;show ae1 PySem.F.slot_dict_items N PySem.F.entry_dict_items (PySem.F.args_dict_items_1 _) (meets_dict_items `aK a hd) #[#[vs,dd],?_];have C:ax X aa j L { i with heap:=i.heap.push { cls:=.type "dict_items",data:=.fields ([.ref a].toArray) } }:=p.kept (t':=i.toks) λb o e=>Ä _ e
 have G:∀o u,X.H₀ a≠À `aG:=λo u z=>by
  have:=p.base.bf a o u z;rw[A] at this;cases this
 let#[D,E]:=dd.dictAt;have f:=E.push { cls:=.type "dict_items",data:=.fields ([.ref a].toArray) };show wpAny_pyIter_items (v:=⇑i) (d:=a) #[_,Ø _ rfl,rfl,rfl] f ?_;let#[B,n,O]:=(C.kept (t':=i.toks) (h':=(i.heap.push { cls:=.type "dict_items",data:=.fields ([.ref a].toArray) }).push { cls:=.type "dict_itemiterator",data:=.fields ([.none,.bool É,.ref a,.int 0 0,.int ↑vs 0,.int D 0,.none,.none].toArray) }) λb o e=>Ä _ e).freeze A;have M:a<(i.heap.push { cls:=.type "dict_items",data:=.fields ([.ref a].toArray) }).objs.size:=f.lt_size;have hl:↑g=↑vs:=KV.length r;show#[_,[_],_,_,aQ L a<|.aB B<|.dK g,rfl,O,Pa a (i.heap.push { cls:=.type "dict_items",data:=.fields ([.ref a].toArray) }).objs.size B g<|ì M,?_,λb Y=>?_,q B G]
 .obtain⟨o2,es,ho2,c1,c2,_⟩:=f;have Q:B=o2:=by
   have U:=Ä { cls:=.type "dict_itemiterator",data:=.fields ([.none,.bool É,.ref a,.int 0 0,.int ↑vs 0,.int D 0,.none,.none].toArray) } ho2;rw[U] at n;show (Ù n).symm
  subst Q;show#[es,D,.none,.none,c2,?_];rw[hl];show Ø _ rfl
 .have e:b=(i.heap.push { cls:=.type "dict_items",data:=.fields ([.ref a].toArray) }).objs.size:=by simpa using Y
  subst e;show C.fB (Ï _) ?_;rw[a6<|ϖ M];show C.aR.fresh<|Ï _
abbrev qp(X:Cx)(R:Hp->Prop)(H:Hp):Prop:=∃a d b,H a=À (.aB d<|.dK b)/\(∀o u,X.H₀ a≠À `aG)/\R (aQ H a<|.dK b)
abbrev xF(X:Cx)(D:iR):iR:={ nx:=λj=>qp X<|D.nx j,rt:=λv=>qp X<|D.rt v,bk:=λj=>qp X<|D.bk j,ct:=λj=>qp X (D.ct j) }
abbrev De(X:Cx)(a:TE)(g:TG)(tb:TS):TS:=λD j H=>yr (CG X a) g tb (xF X D) j H
def Vw(hp:ZW `aa X.A X.env X.xe)(B:X.calm=Â)(E:PE X o td)(C:PG X `as g)(y:fR X body tb)(d:do Ė o "items" X.env `at=eval o X.env)(i:do (apos.endLine == br.line)=Â)(hs:∀x,ĭ (.Call (.Attribute o "items" apos) [] [] br) X.env x=pure x:=by intro _;rfl):PS X (.For `as (.Call (.Attribute o "items" apos) [] [] br) body [] fpos) (De X td g tb):=by
 intro aa s j H D I h;have base:=HQ (pos:=fpos) hp B (RI (elts:=elts) (x1:=x1) (pos:=pos) E d i) C y hs aa s j H (xF X D) I h;show bq base λf J q=>?_
 cases f with
 |next=>let#[l,n,b,a,p,m,e,hn,r]:=q;show#[l,_,b.fX e hn,r]
 |brk=>let#[l,n,b,a,p,m,e,hn,r]:=q;show#[l,_,b.fX e hn,r]
 |cont=>let#[l,n,b,a,p,m,e,hn,r]:=q;show#[l,_,b.fX e hn,r]
 |ret u=>let#[v,l,n,b,G,a,p,m,e,hn,r]:=q;show#[v,l,_,b.fX e hn,G,r]
end
def Qa{a:ai}{ob:Obj}{kvs:bL}{g:TG}{tb:TS}{D:iR}{j:St}{H:Hp}(Pv:Nat->St->Hp->Prop)(u:Pv 0 j H)(A:∀i j H,i<=↑kvs->Pv i j H->H a=À (.aB ob<|.dK kvs))(hs:∀i k v j H p,kvs[i]?=À (k,v)->Pv i j H->H p=È->g `ak j (aQ H p<|.aL [kV k,v]) λl f=>tb { D with nx:=Pv<|i+1,ct:=Pv<|i+1,bk:=D.nx } l f)(hd:∀j H,Pv ↑kvs j H->D.nx j H):
  ∃W:Nat->Nat->St->Hp->Prop,(∃m,W 0 m j H)/\∀i m j H,W i m j H->
   ((rj a ob kvs).stop i H/\D.nx j H)\/((rj a ob kvs).go i H/\∃N:St->Hp->Prop,(∀h b,N h b->∃n,n<m/\W (i+1) n h b)/\∀x b,(rj a ob kvs).mS i H x b->g x j b λl f=>tb { D with nx:=N,ct:=N,bk:=D.nx } l f):=by
 show#[λi m j H=>m=↑kvs - i/\i<=↑kvs/\Pv i j H,#[kvs.length,by simp,Ĝ _,u],?_];rintro i m j H ⟨rfl,w,p⟩;have q:=A i j H w p;by_cases d:i<↑kvs
 .show .inr #[#[d,q],Pv<|i+1,λh b B=>#[kvs.length - (i+1),⋯,rfl,d,B],λx b y=>?_];let#[C,k,v,o,r,rfl,rfl]:=y;show hs i k v j H C o p r
 .have e:i=↑kvs:=⋯
  subst e;show .inl #[#[Ï _,q],hd j H p]
section
variable{X:Cx}
def Pb:bQ X (.type "dict") (λxs H Q=>∃a kvs,xs=[.ref a]/\Rd H a `am/\∀p,H p=È->Q `ak (aQ H p<|.dK kvs)):=by
 intro aa s j H xs us Q I r h;∎;let#[a,kvs,rfl,d,q]:=h;let#[u,rfl,f]:=jM r;∎;cases f;show Sn I d λp g e b=>#[.ref p,_,b,rfl,q p e]
def Pc(N:X.calm=Â):bQ X (.type "list") (λxs H Q=>∃a kvs,xs=[.ref a]/\Rd H a `am/\∀p,H p=È->Q `ak (aQ H p<|.ag<|kvs.map λl=>kV l.1)):=by
 intro aa s i H xs us Q I r h;∎;let#[a,kvs,rfl,M,q]:=h;let#[u,rfl,Y]:=jM r;∎;cases Y;∎;let#[z,y,vs,m,dd]:=jN I.aR M;let#[ep,B]:=dd.dictAt;∎;have E:↑kvs=↑vs:=KV.length m;show W.kdl_call (W.kdl_dict (knd:=eL X.prog X.w) (kvs:=vs) (ep:=ep) y) (I.ok.hd N) B (by rw[<- E];show z) λh' tk b J O L d=>?_
 have C:H ⇑s=È:=I.aR.fresh<|Ï _;show#[.ref ⇑s,_,I.laid (a:=⇑s) (o:=.ag<|kvs.map λl=>kV l.1) (h':=h') (t':=tk) O (Ï _) #[by rw[Å];show z,b.toList,J,?_,by simpa using L],rfl,q _ C];have hn:↑b.toList=↑vs:=by rw[Ž];show d.1
 have gen:∀(kvs:bL)(us:aN),us.length=↑kvs->(∀(j:Nat) k v u,kvs[j]?=À (k,v)->us[j]?=À u->aG (kV k) u)->aH (kvs.map λl=>kV l.1) us:=by
  intro kvs
  induction kvs with
  |nil=>intro us e _;cases us with
   |nil=>show .nil
   |cons _ _=>simp at e
  |cons p r U=>
   intro us e f;cases us with
   |nil=>simp at e
   |cons u us=>
    show .cons (f 0 p.1 p.2 u rfl rfl) (U us (by simpa using e) λj k v w n A=>f (j+1) k v w (by simpa using n)<|by simpa using A)
 show gen kvs b.toList (by rw[hn,E]) λj k v u n A=>?_
 ∎;let#[k',x,G,g]:=d.2 j u (by rw[<- Ϗ];show A);let#[u',D,_]:=m.at n;∎;rw[D] at G;cases G;show yX g
end
abbrev ft(R:V->V->Prop):ay->ay->Prop
 |[],[]=>True
 |x::xs,y::ys=>R x y /\ ft R xs ys
 |_,_=>False
def ft.length:∀{xs ys:ay},ft R xs ys->↑xs=↑ys
 |[],[],_=>rfl
 |_::xs,_::ys,h=>by rw[Ú,Ú,ft.length h.2]
 |[],_::_,h=>h.elim
 |_::_,[],h=>h.elim
def ft.get{R:V->V->Prop}:∀{xs ys:ay}{j:Nat}{x y:V},ft R xs ys->xs[j]?=À x->ys[j]?=À y->R x y
 |x::xs,y::ys,0,_,_,h,e1,e2=>by simp at e1 e2;subst e1 e2;show h.1
 |_::xs,_::ys,j + 1,x,y,h,e1,e2=>ft.get (xs:=xs) (ys:=ys) (j:=j) h.2 (by simpa using e1) (by simpa using e2)
 |[],[],_,_,_,_,e1,_=>by simp at e1
 |[],_::_,_,_,_,h,_,_=>h.elim
 |_::_,[],_,_,_,h,_,_=>h.elim
abbrev lx(K:aq)(H:Hp):Nat->V->V->Prop
 |0,x,y=>jg x=Â /\ x=y
 |n + 1,x,y=>(jg x=Â /\ x=y) \/ ∃p q a b,x=.ref p /\ y=.ref q /\ ((df K H p a /\ df K H q b) \/ (bE K H p a /\ bE K H q b)) /\ ft (lx K H n) a b
def Fj(h:jg x=Â):i5 x x=Â:=by
 cases x<;>first |rfl |(simp[i5];done) |(simp[jg] at h)
def qF(A:ĉ):A.in1.units=A.units+1:=rfl
section
variable{X:Cx}{aa:aX}{σ:St}{H:Hp}{s:aj}
def WX(I:ax X aa σ H s)(B:(df X.K H p xs/\df X.K H q ys)\/(bE X.K H p xs/\bE X.K H q ys))(o:A.units<Ĭ)(E:↑xs=↑ys)(he:∀(j:Nat) x y u v,xs[j]?=À x->ys[j]?=À y->aG x u->aG y v->Ņ A.in1 s u v Â):ad8 A s `ak (.ref q) Â:=by
 have h:∀(b a:aN),aH xs b->aH ys a->∀j (f:j<b.toArray.size) (g:j<a.toArray.size),Ņ A.in1 s b.toArray[j] a.toArray[j] Â:=by
  intro b a d r2 j f g;have l1:=↑d;have l2:=↑r2;simp only[ã] at f g;∎;let#[u,l,C]:=d.get (i:=j) (x:=xs[j]'⋯) ∅;let#[v,m,D]:=r2.get (i:=j) (x:=ys[j]'⋯) ∅;∎;have r:b.toArray[j]'(by simpa using f)=u:=by
   have:=Á.mp l;let#[_,z]:=this;simpa using z
  have w:a.toArray[j]'(by simpa using g)=v:=by
   have:=Á.mp m;let#[_,z]:=this;simpa using z
  rw[r,w];show he j _ _ u v ∅ ∅ C D
 rcases B with⟨f,g⟩ |⟨f,g⟩
 .obtain⟨b,d,t1,_⟩:=I.tuple f;let#[a,r2,n,_]:=I.tuple g;have l1:=↑d;have l2:=↑r2;have z:=ah2 (A:=A) (e:=λ_=>Â) t1 n o<|h b a d r2;have e:((Ç<|min b.toArray.size a.toArray.size).all (λ_=>Â)&&b.toArray.size == a.toArray.size)=Â:=by
   simp only[ã];simp;omega
  rw[e] at z;show z
 .obtain⟨b,d,t1,_⟩:=I.list f;let#[a,r2,n,_]:=I.list g;have l1:=↑d;have l2:=↑r2;have z:=ai8 (A:=A) (e:=λ_=>Â) t1.isList n.isList (by simp;omega) o<|h b a d r2;have e:(Ç b.toArray.size).all (λ_=>Â)=Â:=by simp
  rw[e] at z;show z
def WY(I:ax X aa σ H s):∀(n:Nat){A:ĉ}{x y:V}{u v:ao},lx X.K H n x y->aG x u->aG y v->A.units+n<Ĭ->Ņ A s u v Â:=by
 intro n
 induction n with
 |zero=>
  intro A x y u v h a b _;let#[f,rfl]:=h;have z:=oN (A:=A) (s:=s) a b f f;rw[Fj f] at z;show z
 |succ n l=>
  intro A x y u v h a b o;rcases h with⟨f,rfl⟩ |⟨p,q,r,w,rfl,rfl,i,al⟩
  .have z:=oN (A:=A) (s:=s) a b f f;rw[Fj f] at z;show z
  .cases a;cases b;by_cases e:p=q
   .subst e;show Χ _
   .show Ϯ e (WX I i ⋯ ↑al λj x y u v d g m r2=>?_);show l (A:=A.in1) (al.get d g) m r2 (by rw[qF];omega)
end
section
variable{X:Cx}
def Pe{kvs:bL}{vs:List (aW×ao)}{k:aW}{y:V}(r:KV kvs vs)(e:gy kvs k=À y):∃u,Z6 vs k=À u/\aG y u:=
 b7.some_of (v:=y) (o:=Z6 vs k) (by rw[<- e];show r.val k)
abbrev LP(K:aq)(H:Hp)(n:Nat)(a b:bL):Prop:=↑a=↑b/\∀k v,(k,v)∈a->∃y,gy b k=À y/\lx K H n v y
def YV{aa:aX}{j:St}{H:Hp}{s:aj}{A:ĉ}{n:Nat}{d:bL}{g:List (aW×ao)}(I:ax X aa j H s)(w:A.units+n<Ĭ)(C:KV d g):
  ∀{a:bL}{b:List (aW×ao)},KV a b->(∀k v,(k,v)∈a->∃y,gy d k=À y/\lx X.K H n v y)->W.KeqHits A s g b Â:=by
 intro a b e;unfold KV at e
 induction e with
 |nil=>intro _;show .nil
 |@cons p q E B h t x=>
  intro f;∎;let#[y,i,l]:=f p.1 p.2<|ϊ ..;let#[u,o,D]:=Pe C i;∎;have z:=W.KeqHits.hit (A:=A) (s:=s) (k:=q.1) (v:=q.2) (y:=u) (r:=B) (by rw[<- h.1];show o) (WY I n (A:=A) l h.2 D w)<|x λk v m=>f k v<|Ğ _ m;simpa using z
abbrev yx(K:aq)(b:Bool):R2:=λx y H Q=>∃n p q a d,n<=40/\x=.ref p/\y=.ref q/\Rd H p (.dK a)/\Rd H q `cz/\LP K H n a d/\Q `cV H
def WZ(J:X.A.units+64<Ĭ):cu X `cy (yx X.K É):=by
 intro aa s j H x y v u Q I B C h;let#[n,p,q,o,w,hn,rfl,rfl,i,l,#[G,al],m]:=h;cases B;cases C;∎;let#[L,D,b,a,f]:=jN I.aR i;let#[M,E,d,r2,g]:=jN I.aR l;∎;have l1:↑o=↑b:=KV.length a;have l2:↑w=↑d:=KV.length r2;show W.keq_ne (r:=Â) D E f g ⋯ (λ_=>YV I (by rw[qF];omega) r2 a al) ?_;have e:(↑b == ↑d&&Â)=Â:=by simp;omega
 rw[e];show#[.bl É,H,I,rfl,m]
end
section
variable{σ:St}{H:Hp}{Q:VK}{D:iR}{K:aq}
def aE.aQ(h:H a=È):aE H `bA:=λb u e=>by rw[a6<|jG e h];show e
def aE.aL(e:aE H H')(h:df K H a xs):df K H' a xs:=by
 rcases h with (h |⟨o,h⟩) |h
 .show .inl (.inl (e _ _ h))
 .show .inl (.inr ⟨o,e _ _ h⟩)
 .show .inr h
def aE.rd(e:aE H H')(h:Rd H a u):Rd H' a u:=by
 rcases h with h |⟨o,h⟩
 .show .inl (e _ _ h)
 .show .inr ⟨o,e _ _ h⟩
end
section
variable{σ:St}{H:Hp}{Q:VK}{D:iR}{K:aq}{X:Cx}
def aE.pR(e:aE H H')(n:H a=È):aE H (L2.aQ H' a o):=λb u q=>by rw[a6<|jG q n];show e b u q
end
end L2
namespace Sf
abbrev gd(a b:Int):Int:=(Int.gcd a b:Nat)
def Vx(a:Int)(h:0<=a):gd a 0=a:=by
 unfold gd;rw[an5];omega
def W3(d:0<=a)(f:0<b):gd b (a % b)=gd a b:=by
 unfold gd Int.gcd;have e:(a % b).natAbs=a.natAbs % b.natAbs:=by
  let#[m,rfl]:=ah8 d;let#[n,rfl]:=ah8<|ľ f;simp only[Ĩ];rw[<- Int.natCast_emod,Ĩ]
 rw[e,Nat.gcd_comm b.natAbs,Nat.gcd_comm a.natAbs,Nat.gcd_rec b.natAbs a.natAbs]
def nI(h:b≠0):0<gd a b:=by
 unfold gd;have:=Int.gcd_pos_of_ne_zero_right a h;omega
def W4(a b:Int):gd (a.natAbs:Int) (b.natAbs:Int)=gd a b:=by
 unfold gd;simp[Int.gcd]
def HV(a:Int):(if a<0 then -a else a)=(a.natAbs:Int):=by split<;>omega
def Vy(a b:Int):gd (if a<0 then -a else a) (if b<0 then -b else b)=gd a b:=by
 rw[HV,HV,W4]
abbrev dv(t b:Int):Int:=if b<0 then -(gd t b) else gd t b
def Jb(h:b≠0):dv t b≠0:=by
 have:=nI (a:=t) h;unfold dv;split<;>omega
def vB(t b:Int):gd t b ∣ t:=Int.gcd_dvd_left ..
def yY(t b:Int):gd t b ∣ b:=Ψ ..
def RJ(t b:Int):dv t b ∣ t:=by
 unfold dv;split
 .show Int.neg_dvd.mpr (vB t b)
 .show vB t b
def RK(t b:Int):dv t b ∣ b:=by
 unfold dv;split
 .show Int.neg_dvd.mpr (yY t b)
 .show yY t b
def Jc{x d:Int}(h:d ∣ x):x.fdiv d*d=x:=by
 rw[Int.fdiv_mul_cancel h]
def Fm{t b:Int}(h:b≠0):t.fdiv (dv t b)=(Í t b).num:=by
 have hd:=Jb (t:=t) h;show ae8 hd ?_;rw[Jc<|RJ t b,af8];have e:b.gcd t=t.gcd b:=aj1 ..;rw[e];have f:((t.gcd b:Nat):Int) ∣ t:=Int.gcd_dvd_left ..;have j:=nI (a:=t) h;unfold gd at j;unfold dv gd;rw[Int.mul_ediv_assoc _ f];let#[k,i]:=f;generalize l:((t.gcd b:Nat):Int)=g at *;have d:t / g=k:=by rw[i];show Int.mul_ediv_cancel_left k ⋯
 rw[d];split
 .rename_i hb;rw[Int.sign_eq_neg_one_of_neg hb];grind
 .rename_i hb;rw[ZH ⋯];grind
def Fn{t b:Int}(h:b≠0):b.fdiv (dv t b)=((Í t b).den:Int):=by
 have hd:=Jb (t:=t) h;show ae8 hd ?_;rw[Jc<|RK t b,Rat.den_divInt,ao6 h];have e:b.gcd t=t.gcd b:=aj1 ..;rw[e];have i:(t.gcd b) ∣ b.natAbs:=by rw[<- Int.ofNat_dvd_left];show Ψ ..
 have l:=nI (a:=t) h;unfold gd at l;unfold dv gd;let#[k,f]:=i;have d:b.natAbs / t.gcd b=k:=by rw[f];show Nat.mul_div_cancel_left k ⋯
 rw[d];generalize t.gcd b=g at *;have j:(b.natAbs:Int)=(g:Int)*(k:Int):=by rw[f];show Ů ..
 split<;>grind
def den_pos(q:Rat):0<(q.den:Int):=by have:=q.den_nz;omega
abbrev Sm(n:Nat)(q:Rat):Prop:=q.num.natAbs<2 ^ n/\q.den<2 ^ n
def EX(h:b≠0):(Í t b).num.natAbs<=t.natAbs/\(Í t b).den<=b.natAbs:=by
 let#[m,hm,g,i]:=Rat.divInt_num_den (n:=t) (d:=b) h (n':=(Í t b).num) (d':=(Í t b).den) (z':=(Í t b).den_nz) (c:=(Í t b).reduced) rfl;have a:1<=m.natAbs:=⋯
 have f:=ap2 Int.natAbs g;have e:=ap2 Int.natAbs i;rw[ϓ] at f e;rw[Ĩ] at e;constructor
 .rw[f];show ai4 _ a
 .rw[e];show ai4 _ a
def yJ(h:b≠0)(a:t.natAbs<2 ^ n)(d:b.natAbs<2 ^ n):Sm n (Í t b):=
 #[Ď (EX h).1 a,Ď (EX h).2 d]
def Pf(a b:Rat):a+b=Í (a.num*b.den+b.num*a.den) (a.den*b.den):=by
 rw[Rat.add_def',<- ad3];rfl
def Eu(a b:Rat):a - b=Í (a.num*b.den - b.num*a.den) (a.den*b.den):=by
 rw[Rat.sub_def',<- ad3];rfl
def Ew(a b:Rat):a*b=Í (a.num*b.num) (a.den*b.den):=by
 rw[Rat.mul_def',<- ad3];rfl
def sQ(a b:Rat):(a.den*b.den:Int)≠0:=by
 have d:=den_pos a;have e:=den_pos b;show é<|Ŧ d e
def W5(a:x<2 ^ n)(b:y<2 ^ m):x*y<2 ^ (n+m):=by
 rw[ab6];show Nat.mul_lt_mul'' a b
def qy{x y:Int}{n m:Nat}(a:x.natAbs<2 ^ n)(b:y.natAbs<2 ^ m):(x*y).natAbs<2 ^ (n+m):=by
 rw[ϓ];show W5 a b
def Ex{x y:Int}{n:Nat}(a:x.natAbs<2 ^ n)(b:y.natAbs<2 ^ n):(x+y).natAbs<2 ^ (n+1):=by
 rw[Nat.pow_succ,Nat.mul_two];show Ď (ac0 x y)<|Nat.add_lt_add a b
def Ey{x y:Int}{n:Nat}(a:x.natAbs<2 ^ n)(b:y.natAbs<2 ^ n):(x - y).natAbs<2 ^ (n+1):=by
 rw[ab1];show Ex a (by rw[ŭ];show b)
def qB(h:Sm n q):(q.den:Int).natAbs<2 ^ n:=by rw[Ĩ];show h.2
def UZ{x:Int}{n m:Nat}(h:x.natAbs<2 ^ n)(k:n<=m):x.natAbs<2 ^ m:=Ö h<|Ħ ∎ k
def W6{n m:Nat}{a b:Rat}(d:Sm n a)(e:Sm m b):Sm (n+m+1) (a - b):=by
 rw[Eu];show yJ (sQ a b) ?_ ?_
 .show Ey (qy d.1<|qB e) ?_;rw[ac1 n m];show qy e.1<|qB d
 .show UZ (qy (qB d)<|qB e) ⋯
def bG(d:Sm n a)(e:Sm m b):Sm (n+m) (a*b):=by
 rw[Ew];show yJ (sQ a b) (qy d.1 e.1)<|qy (qB d)<|qB e
section
variable{κ:Type}[DecidableEq κ]
nonrec abbrev FL(κ:Type):=List<|κ×Rat
abbrev gt(m:FL κ)(k:κ):Option Rat:=(m.find? λp=>decide<|p.1=k).map (·.2)
abbrev nz(m:FL κ):FL κ:=m.filter λp=>decide<|p.2≠0
abbrev sc(m:FL κ)(n:Rat):FL κ:=m.map λp=>(p.1,p.2*n)
abbrev run(P:κ->Rat)(r:Rat)(m:FL κ):Rat:=m.foldl (λt p=>t+p.2*P p.1) r
def Qb{j:Type}{m:List j}{i:Nat}{p:j}(e:m[i]?=À p):m.take (i+1)=m.take i++[p]:=by
 rw[đ,e];rfl
end
end Sf
namespace Vc
open PySem L2 Sf
abbrev Le(F b:Hp):Prop:=∀a u,(∀o w,u≠.aB o w)->Rd F a u->Rd b a u
def Le.refl(F:Hp):Le F F:=λ_ _ _ h=>h
def Le.trans(a:Le F G)(b:Le G H):Le F H:=λx u n h=>b x u n<|a x u n h
def Le.of(e:aE F F'):Le F F':=λa u _ h=>e.rd h
def Le.aL(e:Le F F')(h:df K F a xs):df K F' a xs:=by
 rcases h with h |h
 .show .inl (e _ _ (by intro o w z;cases z) h)
 .show .inr h
def Le.ag(e:Le F F')(h:bE K F a xs):bE K F' a xs:=by
 rcases h with h |h
 .show .inl (e _ _ (by intro o w z;cases z) h)
 .show .inr h
def Le.aP(e:Le F F')(h:Rd F a `am):Rd F' a `am:=e _ _ (by intro o w z;cases z) h
abbrev Fz(S:ai->Prop)(F:Hp):Prop:=∀a o u,F a=À `aG->S a
nonrec abbrev S0:ai->Prop:=λ_=>False
abbrev yy(F:Hp):ai->Prop:=λa=>∃o u,F a=À `aG
structure Gr0(F H F' H':Hp):Prop where
 h:aE H H'
 f:aE F F'
 s:aE F' H'
 n:∀a u,F' a=À u->F a=È->H a=È
structure Gr(F H F' H':Hp):Prop extends Gr0 F H F' H' where
 z:Fz (yy F) F'
def Gr0.refl(s:aE F H):Gr0 F H F H:=#[aE.refl _,aE.refl _,s,(λa u h e=>by rw[h] at e;cases e)]
def Fz.refl(F:Hp):Fz (yy F) F:=λ_ o u h=>#[o,u,h]
def Gr.of(g:Gr0 F H F' H')(z:Fz (yy F) F'):Gr F H F' H':=#[g,z]
def Gr.le(g:Gr F H F' H'):Le F F':=.of g.f
def Gr.fz(g:Gr F H F' H')(c:Fz S F):Fz S F':=λa o u h=>by
 let#[b,d,e]:=g.z a o u h;show c a b d e
def Gr0.trans(a:Gr0 F H F1 H1)(b:Gr0 F1 H1 F2 H2):Gr0 F H F2 H2:=
 #[a.h.trans b.h,a.f.trans b.f,b.s,(λx u h e=>match q:F1 x with
  |none=>a.h.free (b.n x u h q)
  |some w=>a.n x w q e)]
def Gr0.tr(a:Gr0 F H F1 H1)(b:Gr F1 H1 F2 H2):Gr0 F H F2 H2:=a.trans b.toGr0
def Gr.own{F H a b:Hp}(g:Gr F H a b)(d:F o=È)(e:H o=À u):a o=È:=by
 cases q:a o with
 |none=>rfl
 |some w=>have:=g.n o w q d;rw[e] at this;cases this
def al{F H:Hp}{R:V->Hp->Prop}(j:aE F H)(m:∀x u,o≠.aB x u)(h:∀(p:ai)(g i:Hp),Gr F H g i->g p=À o->R `ak i):∀p,H p=È->R `ak `bD:=λp f=>by
 have l:F p=È:=j.free f;show h p (aQ F p o) `bD #[#[aE.aQ f,aE.aQ l,?_,λa u e q=>?_],λa x u e=>?_] cD
 .intro b u e;by_cases d:b=p
  .subst d;rw[cD] at e ⊢;show e
  .rw[a6 d] at e ⊢;show j b u e
 .by_cases d:a=p
  .subst d;show f
  .rw[a6 d,q] at e;cases e
 .by_cases d:a=p
  .subst d;rw[cD] at e;show ao8 (Ù e)<|m x u
  .rw[a6 d] at e;show#[_,_,e]
def LX{F H:Hp}{R:Hp->Prop}(j:aE F H)(i:∀x u,o≠.aB x u)(hp:H p=È)(h:∀b a:Hp,Gr F H b a->b p=À o->R a):R `bD:=by
 have:=al (R:=λv a=>∀q,v=.ref q->q=p->R a) j i (λq b a g e z f d=>by cases f;subst d;show h b a g e) p hp;show this p rfl rfl
def sA{F H:Hp}(f:aE F H)(d:∀x u,o≠.aB x u)(hp:H p=È):∃a,Gr F H a `bD/\a p=À o:=
 LX (R:=λb=>∃a,Gr F H a b/\a p=À o) f d hp λa _ g e=>#[a,g,e]
def aB{Fb Hb F H:Hp}(g:Gr0 Fb Hb F H)(l:Fz S F)(i:Hb p=È)(j:F p=È)(m:H p=À o)(r:∀x u,o≠.aB x u):∃d,Gr0 Fb Hb d H/\Fz S d/\aE F d/\d p=À o/\∀a,a≠p->d a=F a:=by
 show#[aQ F p o,#[g.h,g.f.trans<|aE.aQ j,?_,λa u e q=>?_],λa x u e=>?_,aE.aQ j,cD,λ_ e=>a6 e]
 .intro b u e;by_cases i:b=p
  .subst i;rw[cD] at e;cases e;show m
  .rw[a6 i] at e;show g.s b u e
 .by_cases hb':a=p
  .subst hb';show i
  .rw[a6 hb'] at e;show g.n a u e q
 .by_cases hb':a=p
  .subst hb';rw[cD] at e;show ao8 (Ù e)<|r x u
  .rw[a6 hb'] at e;show l a x u e
abbrev fz(X:Hp)(a:ai)(o:HO):Hp:=λb=>if b=a then (if X a=È then È else À o) else X b
def ff{X:Hp}(h:b≠a):fz X a o b=X b:=by unfold fz;rw[ao6 h]
def iE:fz X a o a=if X a=È then È else À o:=by unfold fz;rw[ao7 rfl]
def vI{X:Hp}(h:fz X a o a=À u):X a≠È/\À o=À u:=by
 rw[iE] at h;split at h
 .cases h
 .rename_i q;show#[q,h]
def YW(z:HO)(d:Gr0 Fb Hb F H):Gr0 (fz Fb a z) (fz Hb a z) (fz F a z) (aQ H a z):=by
 show#[λb u e=>?_,λb u e=>?_,λb u e=>?_,λb u e q=>?_]
 .by_cases hb:b=a
  .subst hb;rw[cD];show (vI e).2
  .rw[ff hb] at e;rw[a6 hb];show d.h b u e
 .by_cases hb:b=a
  .subst hb;rw[iE] at e ⊢;split at e
   .cases e
   .rename_i h;let#[w,g]:=ϵ.mp h;rw[ao6 (by rw[d.f _ _ g];intro z;cases z)];show e
  .rw[ff hb] at e ⊢;show d.f b u e
 .by_cases hb:b=a
  .subst hb;rw[cD];show (vI e).2
  .rw[ff hb] at e;rw[a6 hb];show d.s b u e
 .by_cases hb:b=a
  .subst hb;rw[iE] at e q ⊢;split at e
   .cases e
   .rename_i h;let#[w,g]:=ϵ.mp h;split at q
    .rename_i hf;rw[ao7<|d.n _ _ g hf]
    .cases q
  .rw[ff hb] at e q ⊢;show d.n b u e q
def wJ{F:Hp}(d:F a=È\/F a=À `am):Le F (fz F a<|.aB ob<|.dK kvs):=λb u n h=>by
 by_cases e:b=a
 .subst e;rcases d with d |d
  .rcases h with h |⟨o,h⟩<;>(rw[d] at h;cases h)
  .rcases h with h |⟨o,h⟩
   .rw[d] at h;cases h;show .inr #[ob,?_];rw[iE,ao6 (by rw[d];intro z;cases z)]
   .rw[d] at h;cases h
 .rcases h with h |⟨o,h⟩
  .show .inl (by rw[ff e];show h)
  .show .inr ⟨o,by rw[ff e];show h⟩
def Uj{Fb Hb F H j m:Hp}{S:ai->Prop}{R:Hp->Prop}(y:Gr0 Fb Hb F H)(C:H a=À `am)(i:F a=È\/F a=À `am)(r:Gr0 (fz Fb a<|.aB ob<|.dK kvs) (fz Hb a<|.aB ob<|.dK kvs) j m)(v:j a=fz F a (.aB ob<|.dK kvs) a)(A:Fz (λb=>b=a\/S b) j)(h:∀g l:Hp,Gr0 Fb Hb g l->Fz S g->Le j g->g a=F a->l a=À `am->(∀b,b≠a->g b=j b)->(∀b,b≠a->l b=m b)->R l):R (aQ m a<|.dK kvs):=by
 have nn:j  a=È\/j a=À (.aB ob<|.dK kvs):=by
  rw[v,iE];split
  .show .inl rfl
  .show .inr rfl
 show h (fz j a<|.dK kvs) (aQ m a<|.dK kvs) #[λb u e=>?_,λb u e=>?_,λb u e=>?_,λb u e q=>?_] (λb o u e=>?_) (λb u n e=>?_) ?_ cD (λb d=>ff d)<|λb d=>a6 d
 .by_cases d:b=a
  .subst d;rw[cD];have:=y.h _ _ e;rw[C] at this;show this
  .rw[a6 d];show r.h b u (by rw[ff d];show e)
 .by_cases d:b=a
  .subst d;have p:=y.f _ _ e;rcases i with i |i
   .rw[i] at p;cases p
   .rw[i] at p;have B:j b=À (.aB ob<|.dK kvs):=by rw[v,iE,ao6 (by rw[i];intro z;cases z)]
    rw[iE,ao6 (by rw[B];intro z;cases z)];show p
  .rw[ff d];show r.f b u (by rw[ff d];show e)
 .by_cases d:b=a
  .subst d;rw[cD];show (vI e).2
  .rw[ff d] at e;rw[a6 d];show r.s b u e
 .by_cases d:b=a
  .subst d;rw[iE] at e;split at e
   .cases e
   .rename_i hn;rw[v,iE] at hn;split at hn
    .show ao8 rfl hn
    .rename_i hf;let#[w,D]:=ϵ.mp hf;show y.n _ _ D q
  .rw[ff d] at e;have:=r.n b u e (by rw[ff d];show q);rw[ff d] at this;show this
 .by_cases d:b=a
  .subst d;cases (vI e).2
  .rw[ff d] at e;rcases A b o u e with x |x
   .show ao8 x d
   .show x
 .by_cases d:b=a
  .subst d;rcases nn with nn |nn
   .rcases e with e |⟨o,e⟩<;>(rw[nn] at e;cases e)
   .rcases e with e |⟨o,e⟩
    .rw[nn] at e;cases e;show ao8 rfl<|n _ _
    .rw[nn] at e;cases e;show .inl ?_;rw[iE,ao6 (by rw[nn];intro z;cases z)]
  .rcases e with e |⟨o,e⟩
   .show .inl (by rw[ff d];show e)
   .show .inr ⟨o,by rw[ff d];show e⟩
 .rw[iE,v,iE];rcases i with i |i<;>rw[i]
  .rfl
  .rfl
def vJ{F:Hp}(c:Fz S0 F)(h:Rd F a `am):F a=À `am:=by
 rcases h with h |⟨o,h⟩
 .show h
 .show (c _ _ _ h).elim
nonrec abbrev Rep(j:Type):=Hp->V->j->Prop
abbrev r2(K:aq){j i:Type}(A:Rep j)(B:Rep i):Rep (j×i):=λF v x=>∃a b d,v=.ref a/\df K F a [b,d]/\A F b x.1/\B F d x.2
abbrev r3(K:aq){j i G:Type}(A:Rep j)(B:Rep i)(C:Rep G):Rep (j×i×G):=λF v x=>∃a b d e,v=.ref a/\df K F a [b,d,e]/\A F b x.1/\B F d x.2.1/\C F e x.2.2
abbrev r5(K:aq){j i G h l:Type}(A:Rep j)(B:Rep i)(C:Rep G)(D:Rep h)(E:Rep l):Rep (j×i×G×h×l):=λF v x=>∃a b d e f g,v=.ref a/\df K F a [b,d,e,f,g]/\A F b x.1/\B F d x.2.1/\C F e x.2.2.1/\D F f x.2.2.2.1/\E F g x.2.2.2.2
section
variable{α:Type}
abbrev bU(m:List (Str×α))(k:Str):Option α:=(m.find? λp=>decide<|p.1=k).map (·.2)
abbrev pK(m:List (Str×α))(k:Str)(y:α):List (Str×α):=if (m.any λp=>decide<|p.1=k)=Â then m.map (λp=>if p.1=k then (p.1,y) else p) else m++[(k,y)]
def sR(e:p.1=k):bU (p::r) k=À p.2:=by simp[bU,Ł,e]
def Vz(e:¬ p.1=k):bU (p::r) k=bU r k:=by simp[bU,Ł,e]
end
abbrev bl(n:Nat):Nat:=if n=0 then 0 else Nat.log2 n+1
def lE:n<2 ^ k↔bl n<=k:=by
 unfold bl;by_cases h:n=0
 .subst h;simp[ϻ]
 .rw[ao6 h,<- al8 h];omega
def qC(n:Nat):n<2 ^ bl n:=lE.mpr<|Ï _
abbrev bi(x:Int):Nat:=bl x.natAbs
abbrev bs(q:Rat):Nat:=max (bl q.num.natAbs)<|bl q.den
def YX(h:bs q<=n):Sm n q:=#[lE.mpr (by unfold bs at h;omega),lE.mpr (by unfold bs at h;omega)]
def AE(h:Sm n q):bs q<=n:=by
 have a:=lE.mp h.1;have b:=lE.mp h.2;unfold bs;omega
def wK(q:Rat):Sm (bs q) q:=YX<|Ï _
def qT(a b:Rat):bs (a - b)<=bs a+bs b+1:=AE<|W6 (wK a)<|wK b
def wg(a b:Rat):bs (a*b)<=bs a+bs b:=AE<|bG (wK a)<|wK b
def kf:bs 0=1:=by decide +kernel
def W7:bs 1=1:=by decide +kernel
def gU(h:x.natAbs<2 ^ k):bi x<=k:=lE.mp h
def kd(h:bi x<=k):x.natAbs<2 ^ k:=lE.mpr h
def dg(x y:Int):bi (x*y)<=bi x+bi y:=lE.mp<|qy (qC _)<|qC _
def wh(x y:Int):bi (x+y)<=max `dU (bi y)+1:=by
 have a:x.natAbs<2 ^ (max `dU<|bi y):=Ö (qC _)<|Ħ ∎ (Nat.le_max_left _ _);have b:y.natAbs<2 ^ (max `dU<|bi y):=Ö (qC _)<|Ħ ∎ (Nat.le_max_right _ _);show lE.mp<|Ex a b
def zJ(x y:Int):bi (x - y)<=max `dU (bi y)+1:=by
 have a:x.natAbs<2 ^ (max `dU<|bi y):=Ö (qC _)<|Ħ ∎ (Nat.le_max_left _ _);have b:y.natAbs<2 ^ (max `dU<|bi y):=Ö (qC _)<|Ħ ∎ (Nat.le_max_right _ _);show lE.mp<|Ey a b
def iX(q:Rat):bi q.num<=bs q:=by unfold bi bs;omega
def fZ(q:Rat):bi (q.den:Int)<=bs q:=by unfold bi bs;rw[Ĩ];omega
def ny(h:b≠0)(a:bi t<=k)(d:bi b<=k):bs (Í t b)<=k:=AE<|yJ h (kd a)<|kd d
def YY(a:bi x<=60000000)(b:bi y<=60000000):l8 x y:=.inr #[60000000,Ï _,kd a,kd b]
def A7(h0:y≠0)(h1:bi y<=8000):dR x y:=#[h0,kd h1]
abbrev sgn(z:Str)(i:Int):Str:=#[([z.cps.toList.getD i.toNat 0].toArray)]
section
variable{X:Cx}{aa:aX}{σ:St}{F H:Hp}{s:aj}{Au:ĉ}
def Fo{xs ys:ay}{us:aN}(h:aH xs us)(g:aH ys us):xs=ys:=h.inj g
def VA(I:ax X aa σ H s)(h:df X.K H a xs)(i:df X.K H a ys):xs=ys:=by
 ∎;let#[us,j,#[q,g,m,o,f],_]:=I.tuple h;let#[l,r2,#[r,d,n,p,b],_]:=I.tuple i;∎;rw[g] at d;cases d;rw[f] at b;injection b with e _
 have:us=l:=by simpa using e
 subst this;show Fo j r2
def VB(I:ax X aa σ H s)(h:bE X.K H a xs)(i:bE X.K H a ys):xs=ys:=by
 ∎;let#[us,j,p1,_]:=I.list h;let#[l,r2,p2,_]:=I.list i;let#[q,g,m,o,f]:=p1.isList;let#[r,d,n,p,b]:=p2.isList;∎;rw[g] at d;cases d;rw[f] at b;injection b with e _
 have:us=l:=by simpa using e
 subst this;show Fo j r2
def Gu(I:ax X aa σ H s)(f:df X.K H a xs)(g:df X.K H b ys)(r:Au.units<Ĭ)(E:↑xs=↑ys)(e:Nat->Bool)(he:∀(j:Nat) x y u v,xs[j]?=À x->ys[j]?=À y->aG x u->aG y v->Ņ Au.in1 s u v (e j)):ad8 Au s `aA `dV ((Ç ↑xs).all e):=by
 ∎;let#[us,m,C,_]:=I.tuple f;let#[d,r2,D,_]:=I.tuple g;∎;have l1:=↑m;have l2:=↑r2;have z:=ah2 (A:=Au) (e:=e) C D r<|λj f g=>?_
 .have e0:((Ç<|min us.toArray.size d.toArray.size).all e&&us.toArray.size == d.toArray.size)=(Ç ↑xs).all e:=by
   simp only[ã];have h:min ↑us ↑d=↑xs:=⋯
   have l:(↑us == ↑d)=Â:=by simp;omega
   rw[h,l,af9]
  rw[e0] at z;show z
 .simp only[ã] at f g;∎;let#[u,h,w]:=m.get (i:=j) (x:=xs[j]'⋯) ∅;let#[v,l,B]:=r2.get (i:=j) (x:=ys[j]'⋯) ∅;let#[_,n]:=Á.mp h;let#[_,o]:=Á.mp l;∎;have p:us.toArray[j]'(by simpa using f)=u:=by simpa using n
  have q:d.toArray[j]'(by simpa using g)=v:=by simpa using o
  rw[p,q];show he j _ _ u v ∅ ∅ w B
def Gv(I:ax X aa σ H s)(d:bE X.K H a xs)(f:bE X.K H b ys)(q:Au.units<Ĭ)(E:↑xs=↑ys)(e:Nat->Bool)(he:∀(j:Nat) x y u v,xs[j]?=À x->ys[j]?=À y->aG x u->aG y v->Ņ Au.in1 s u v (e j)):ad8 Au s `aA `dV ((Ç ↑xs).all e):=by
 ∎;let#[us,g,B,_]:=I.list d;let#[D,r2,C,_]:=I.list f;∎;have l1:=↑g;have l2:=↑r2;have z:=ai8 (A:=Au) (e:=e) B.isList C.isList (by simp;omega) q<|λj d f=>?_
 .have e0:(Ç us.toArray.size).all e=(Ç ↑xs).all e:=by
   simp only[ã];rw[<- l1]
  rw[e0] at z;show z
 .simp only[ã] at d f;∎;let#[u,h,r]:=g.get (i:=j) (x:=xs[j]'⋯) ∅;let#[v,l,w]:=r2.get (i:=j) (x:=ys[j]'⋯) ∅;let#[_,m]:=Á.mp h;let#[_,n]:=Á.mp l;∎;have o:us.toArray[j]'(by simpa using d)=u:=by simpa using m
  have p:D.toArray[j]'(by simpa using f)=v:=by simpa using n
  rw[o,p];show he j _ _ u v ∅ ∅ r w
end
def RL(a:aG `aw u)(r2:aG `bq v):Ņ Au s u v (decide<|i=j):=by
 have z:=oN (A:=Au) (s:=s) a r2 rfl rfl;have e:i5 `aw `bq=decide (i=j):=by change (i == j)=_;rw[ZN]
 rw[e] at z;show z
def VC{P Q:V->V->Prop}(h:∀{x y},P x y->Q x y):∀{xs ys:ay},ft P xs ys->ft Q xs ys:=by
 intro xs
 induction xs with
 |nil=>intro ys h;cases ys with
  |nil=>show ý
  |cons _ _=>show h.elim
 |cons x xs a=>intro ys g;cases ys with
  |nil=>show g.elim
  |cons y ys=>show#[h g.1,a g.2]
def W8:∀{n:Nat}{x y:V},lx K H n x y->lx K H (n+1) x y:=by
 intro n
 induction n with
 |zero=>show λh=>.inl h
 |succ n f=>
  intro x y h;rcases h with h |⟨p,q,g,i,a,b,d,e⟩
  .show .inl h
  .show .inr ⟨p,q,g,i,a,b,d,VC f e⟩
def RM(h:lx K H n x y)(k:n<=m):lx K H m x y:=by
 induction k with
 |refl=>show h
 |step _ a=>show W8 a
end Vc
namespace L2
open PySem PySem.Spec PyProof.Rows
abbrev j7(env:Env)(cs:List (Str×ai))(y:Str×Ϧ):List (Str×ai):=if (y.2 == .free)=Â then (match env.cells.lookup y.1 with |some a=>(y.1,a)::cs |none=>cs) else cs
abbrev lH(a:Zr)(env:Env):List (Str×ai):=a.names.foldl `cX []
abbrev kE(a:Zr)(env:Env):Bool:=a.names.all λy=>!(y.2 == .free) || (env.cells.lookup y.1).isSome
def El(h:kE scope env=Â):closureFor scope env=pure (lH scope env):=by
 unfold closureFor lH;unfold kE at h;have gen:∀(l:List (Str×Ϧ))(cs:List (Str×ai)),(l.all λy=>!(y.2 == .free) || (env.cells.lookup y.1).isSome)=Â->
   (forIn l cs λx r=>match x with |(name,kind)=>if (kind == ļ)=Â then (do let a <- cellOf env name;pure (ť ((name,a)::r))) else pure (ť r):Sem (List<|Str×ai))=pure (l.foldl `cX cs):=by
  intro l
  induction l with
  |nil=>intro cs _;rfl
  |cons y r g=>
   intro cs d;rw[Zq,í] at d;let#[n,k]:=y;rw[List.forIn_cons,ZI];by_cases b:(k == ļ)=Â
   .have h1:=d.1;simp only[b,Bool.not_true,ag0] at h1;let#[a,e]:=Ŭ.mp h1;have f:j7 env cs (n,k)=(n,a)::cs:=by unfold j7;simp[b,e]
    have i:cellOf env n=pure a:=by unfold cellOf;rw[e]
    rw[f,<- g _ d.2];simp only[b,if_true,i,pure_bind]
   .have f:j7 env cs (n,k)=cs:=by unfold j7;simp[b]
    rw[f,<- g _ d.2];simp only[b,if_false,pure_bind,Δ]
 have:=gen scope.names [] h;simp only[this,pure_bind]
def oH(h:(lH scope env).lookup x=À c):env.cells.lookup x=À c:=by
 unfold lH at h;have gen:∀(l:List (Str×Ϧ))(cs:List (Str×ai)),(cs.lookup x=À c->env.cells.lookup x=À c)->(l.foldl `cX cs).lookup x=À c->env.cells.lookup x=À c:=by
  intro l
  induction l with
  |nil=>intro cs f g;show f g
  |cons y r d=>
   intro cs f g;rw[ZI] at g;show d _ (λz=>?_) g;unfold j7 at z;split at z
   .split at z
    .rename_i a e;rw[ċ] at z;by_cases b:(x == y.1)=Â
     .rw[b] at z;have:=eq_of_beq b;subst this;simp at z;rw[<- z];show e
     .simp only[b] at z;show f z
    .show f z
   .show f z
 show gen scope.names [] (λz=>by cases z) h
def Fq(d:kE scope env=Â)(h:scope.names.lookup x=À .free):∃c,(lH scope env).lookup x=À c:=by
 unfold lH;unfold kE at d;have keep:∀(l:List (Str×Ϧ))(cs:List (Str×ai)),(∃c,cs.lookup x=À c)->∃c,(l.foldl `cX cs).lookup x=À c:=by
  intro l
  induction l with
  |nil=>intro cs f;show f
  |cons y r g=>
   intro cs f;rw[ZI];show g _ ?_;unfold j7;split
   .split
    .rw[ċ];by_cases b:(x == y.1)=Â
     .rw[b];show#[_,rfl]
     .simp only[b];show f
    .show f
   .show f
 have gen:∀(l:List (Str×Ϧ))(cs:List (Str×ai)),(l.all λy=>!(y.2 == .free) || (env.cells.lookup y.1).isSome)=Â->l.lookup x=À .free->∃c,(l.foldl `cX cs).lookup x=À c:=by
  intro l
  induction l with
  |nil=>intro cs _ f;cases f
  |cons y r g=>
   intro cs d f;rw[Zq,í] at d;let#[n,k]:=y;rw[ZI];rw[ċ] at f;by_cases b:(x == n)=Â
   .rw[b] at f;have:=eq_of_beq b;subst this;simp at f;subst f;show keep r _ ?_;have i:(env.cells.lookup x).isSome=Â:=d.1;let#[a,e]:=Ŭ.mp i;show#[a,?_];unfold j7;rw[ao7 (show ((ļ) == ļ)=Â from rfl)];dsimp only;rw[e];dsimp only;rw[ċ,b]
   .simp only[b] at f;show g _ d.2 f
 show gen scope.names [] d h
def NK(b:∀y∈a.names,y.2≠.cell)(h:(relabel a env).names.lookup x=À .cell\/(relabel a env).names.lookup x=À .free):a.names.lookup x=À .free:=by
 unfold relabel at h;dsimp only at h;have gen:∀l:List (Str×Ϧ),(∀y∈l,y.2≠.cell)->((l.map λ(n,k)=>if (k == ļ&&env.scope.kind == .function&&env.kindOf n == À .cell) then (n,ZU) else (n,k)).lookup x=À .cell\/(l.map λ(n,k)=>if (k == ļ&&env.scope.kind == .function&&env.kindOf n == À .cell) then (n,ZU) else (n,k)).lookup x=À .free)->l.lookup x=À .free:=by
  intro l
  induction l with
  |nil=>intro _ f;rcases f with f |f<;>cases f
  |cons y r m=>
   intro g f;let#[n,k]:=y;have i:k≠.cell:=g (n,k)<|ϊ ..;rw[ë] at f;rw[ċ];by_cases d:(x == n)=Â
   .rw[d];dsimp only at f ⊢;by_cases e:(k == ļ&&env.scope.kind == .function&&env.kindOf n == À .cell)=Â
    .have:k=.free:=by
      simp only[í] at e;show eq_of_beq e.1.1
     rw[this]
    .rw[ao6 e,ċ,d] at f;simp only[Option.some.injEq] at f;rcases f with f |f
     .show ao8 f i
     .rw[f]
   .simp only[d];show m (λy j=>g y<|Ğ _ j) ?_;dsimp only at f;split at f<;>(rw[ċ] at f;simp only[d] at f;show f)
 show gen a.names b h
inductive Wk:St->St->Prop
 |nil:Wk [] []
 |aT {a b:St} {x:Option V}:Wk a b -> Wk (È::a) (x::b)
 |wW {a b:St} {v:V}:Wk a b -> Wk (À v::a) (À v::b)
def Wk.length(h:Wk a b):↑b=↑a:=by
 induction h with
 |nil=>rfl
 |aT _ d=>simp[d]
 |wW _ d=>simp[d]
def Wk.get(h:Wk a b):∀{i:Nat}{v:V},a[i]?=À (À v)->b[i]?=À (À v):=by
 induction h with
 |nil=>intro i v e;simp at e
 |aT _ d=>
  intro i v e;cases i with
  |zero=>simp at e
  |succ i=>simpa using d (i:=i) (v:=v) (by simpa using e)
 |wW _ d=>
  intro i v e;cases i with
  |zero=>simpa using e
  |succ i=>simpa using d (i:=i) (v:=v) (by simpa using e)
def zc:∀a:St,Wk a a
 |[]=>.nil
 |none::a=>.aT<|zc a
 |some _::a=>.wW<|zc a
abbrev fw(ix:bJ)(j:St):St:=ix.map λo=>match o with |none=>È |some i=>(j[i]?).getD È
abbrev bO(X:Cx)(sc:Zr):ah->bJ->Prop
 |[],[]=>True
 |_::N,È::ix=>bO X sc N ix
 |x::N,À i::ix=>X.N[i]? = À x /\ X.env.kindOf x=À .cell /\ sc.names.lookup x=À .free /\ bO X sc N ix
 |_,_=>False
def bO.length:∀{N:ah}{ix:bJ},bO X sc N ix->↑ix=↑N
 |[],[],_=>rfl
 |_::N,È::ix,h=>by rw[Ú,Ú,bO.length (X:=X) (sc:=sc) (N:=N) (ix:=ix) h]
 |_::N,À i::ix,h=>by rw[Ú,Ú,bO.length (X:=X) (sc:=sc) (N:=N) (ix:=ix) h.2.2.2]
 |[],_::_,h=>h.elim
 |_::_,[],h=>h.elim
def bO.get:∀{N:ah}{ix:bJ}{j:Nat}{x:Str}{v:V},bO X sc N ix->N[j]?=À x->(fw ix G)[j]?=À (À v)->∃i:Nat,X.N[i]?=À x/\X.env.kindOf x=À .cell/\sc.names.lookup x=À .free/\G[i]?=À (À v)
 |_::N,È::ix,0,x,v,h,e1,e2=>by simp[fw] at e2
 |_::N,È::ix,j + 1,x,v,h,e1,e2=>bO.get (N:=N) (ix:=ix) (j:=j) h (by simpa using e1) (by simpa [fw] using e2)
 |y::N,À i::ix,0,x,v,h,e1,e2=>by
  simp at e1;subst e1;show#[i,h.1,h.2.1,h.2.2.1,?_];simp[fw] at e2;cases q:G[i]? with
  |none=>rw[q] at e2;simp at e2
  |some o=>rw[q] at e2;simp at e2;rw[e2]
 |y::N,À i::ix,j + 1,x,v,h,e1,e2=>bO.get (N:=N) (ix:=ix) (j:=j) h.2.2.2 (by simpa using e1) (by simpa [fw] using e2)
 |[],[],_,_,_,_,e1,_=>by simp at e1
 |[],_::_,_,_,_,h,_,_=>h.elim
 |_::_,[],_,_,_,h,_,_=>h.elim
def M6(h:scope.names.lookup x=À .free):(relabel scope env).names.lookup x=À .cell\/(relabel scope env).names.lookup x=À .free:=by
 unfold relabel;dsimp only;have gen:∀l:List (Str×Ϧ),l.lookup x=À .free->((l.map λ(n,k)=>if (k == ļ&&env.scope.kind == .function&&env.kindOf n == À .cell) then (n,ZU) else (n,k)).lookup x=À .cell\/(l.map λ(n,k)=>if (k == ļ&&env.scope.kind == .function&&env.kindOf n == À .cell) then (n,ZU) else (n,k)).lookup x=À .free):=by
  intro l
  induction l with
  |nil=>intro f;cases f
  |cons y r b=>
   intro f;let#[n,k]:=y;rw[ċ] at f;rw[ë];by_cases a:(x == n)=Â
   .rw[a] at f;simp at f;subst f;dsimp only;split
    .left;rw[ċ,a]
    .right;rw[ċ,a]
   .simp only[a] at f;dsimp only;split<;>(rw[ċ];simp only[a];show b f)
 show gen scope.names h
abbrev cV(X:Cx)(a:Zr)(N:ah)(C:ai)(s:aj)(H:Hp)(fp:cJ)(pl:aX):Cx where
 prog:=X.prog
 w:=X.w
 K:=X.K
 mg:=X.mg
 base:=X.base
 A:=X.A
 N:=N
 s₀:=s
 H₀:=H
 env:=compEnvC a (lH a X.env) C X.env
 outer:=X.stack
 stack:=X.stack
 ex:=fp
 fn:=λ_=>É
 calm:=X.calm
 pn:=X.pn++pl
 xe:=λ_ _=>False
abbrev p0(Y:Cx)(a:bN)(t:TT):Prop:=
 ∀(aa:aX)(s:aj)(j:St)(H:Hp)(Q:Bool->Hp->Prop),ax Y aa j H s->t j H Q->
  Ý (Þ Y.prog Y.w) Y.A (forIn a Â λc r=>if r=Â then do let ok <- af4 c Y.env (eval c Y.env);pure (ť ok) else pure (ť r)) (TP Y aa j Q) Y.xe s
abbrev DO:TT:=λ_ H Q=>Q Â H
def VD:p0 Y [] DO:=λ_ _ _ H _ I h=>wpAny_tests_nil #[H,I,h]
def Gw(h:PT Y c t):p0 Y [c] t:=λaa s j H Q I q=>wpAny_tests_one<|h aa s j H Q I q
def M7{R:Result->aj->Prop}(I:Nat->aj->Prop)(turn:∀n s,I n s->Ý `ad A (pyNext it) (λr b=>match r with
   |none=>R (.ok .next) b
   |some v=>Ý `ad A (aa1 target it v) (λ_ s₀=>Ý `ad A (assign target env v) (λ_ i=>
     Ý `ad A (forIn ifs Â λc r=>if r=Â then do let ok <- af4 c env (eval c env);pure (ť ok) else pure (ť r)) (λok d=>
      if ok=Â then Ý `ad A (eval elt env) (λx j=>
       Ý `ad A (call (.builtin "list.append") [acc,x]) (λ_ l=>∃m,m<n/\I m l) (ai9 `ad A env λe s'=>R `bd s') j) (ai9 `ad A env λe s'=>R `bd s') d
      else ∃m,m<n/\I m d) (ai9 `ad A env λe s'=>R `bd s') i) (ai9 `ad A env λe s'=>R `bd s') s₀) (ai9 `ad A env λe s'=>R `bd s') b) (ai9 `ad A env λe s'=>R `bd s') s)(n:Nat)(h:I n s):Ŷ `ad A (.compLoop (.ListComp elt [#[target,iter,ifs,0]] scope pos) 0 it acc env) R s:=by
 show codeAny_loop rfl I (λn s y=>?_) n h;change Ý _ A ((compTurn (.ListComp elt [#[target,iter,ifs,0]] scope pos) 0 it acc env).onRaise (λx=>do af5 x env;theTreesLotGoes x)) _ _ s;show wpAny_noted ?_;rw[compTurn_list];show Ë<|Ţ<|Ë<|ą (turn n s y) (λr b f=>?_) λ_ _ a=>a;cases r with
 |none=>show Ü f
 |some v=>
  show Ë<|ą f (λ_ s₀ o=>?_) λ_ _ a=>a;show Ë<|ą o (λ_ i p=>Ë<|ą p (λok d g=>?_) λ_ _ a=>a) λ_ _ a=>a;cases ok with
  |false=>show Ü #[rfl,g]
  |true=>
   show Ë<|Ë<|ą g (λx j q=>Ë<|ą q (λ_ l u=>Ü<|Ü #[rfl,u]) λ_ _ a=>a) λ_ _ a=>a
section
variable{X:Cx}{aa:aX}{σ:St}{H:Hp}{s:aj}{scope:Zr}{N:ah}{fp:cJ}{C:ai}
def VE(I:ax X aa σ H s)(l:⇑s<=C)(i:∀b∈fp,hU X aa H b)(j:∀b∈fp,∃o,s.heap.get? b=À o)(f:scope.kind=.function)(d:∀y∈scope.names,y.2≠.cell)(g:kE scope X.env=Â):
  (cV X scope N C s H fp aa).Ok where
 mod:=I.ok.mod
 kind:=f
 glob:=I.ok.glob
 blt:=I.ok.blt
 above:=l
 inj:=λx y c m n=>I.ok.inj x y c (oH m)<|oH n
 has:=λx h=>Fq g<|NK d h
 nK:=λx c h=>by cases h
 hd:=I.ok.hd
 frames:=I.ok.frames
 pO:=.inl rfl
 pz:=λb a=>#[λz=>by let#[o,e]:=j b a;have:=Ð e;subst z;show ao8 (Ö this l)<|ĺ _,λx c e=>(i b a).2.2.2.2.1 x c<|oH e]
 bs:=I.bs
 ko:=Ñ I.ok.ko I.sz
 ik:=λb o e a=>by
  rcases (i b a).2.2.2.1 with z |z
  .show I.ok.ik b o e z
  .show ao8 (Ö (Ð e) (Ñ I.ok.ko z)) (ĺ _)
 ib:=λb a hm=>by
  rcases æ.mp (I.fF b hm) with z |z
  .show (i b a).2.1 z
  .show (i b a).2.2.1 z
 dN:=I.stack
 lS:=I.gM
def RN(I:ax X aa σ H s)(ok:(cV X scope N C s H fp aa).Ok)(w:⇑s<=C)(k:∀b o,s.heap.get? b=À o->h'.get? b=À o)(hn:h'.Ns C m)(g:bO X scope N ix)(a:kE scope X.env=Â):
  ax `cK [] `bm H { s with heap:=h',toks:=t' } where
 ok:=ok
 os:=rfl
 bare:=I.bare
 base:=Un.kept k
 loc:=#[m,hn,λi x v A B Q=>by
  ∎;let#[L,D,y,f,l]:=g.get A B;let#[U,_,G]:=I.loc;let#[u,r,look]:=G L x v D l<|.inr<|.inl y;∎;rcases look with⟨z,_⟩ |⟨_,c,E,o,h,hd⟩
  .rw[y] at z;cases z
  .obtain⟨c',hc'⟩:=Fq a f;have e:=oH hc';rw[E] at e;cases e;show#[u,r,.inr #[M6 f,c,hc',o,k _ _ h,hd]]]
 cell:=λx c e=>by
  let#[v,o,h,hd]:=I.cell x c<|oH e;show#[v,o,k _ _ h,hd]
 free:=I.aR.fresh w
 b4:=λx c e=>I.b4 x c<|oH e
 pin:=λp J=>by
  have j:p∈X.pn++aa:=by simpa [cV] using J
  let#[e,n,ne,M,d]:=I.pin p j;show#[k _ _ e,n,λz=>?_,λz=>?_,d]
  .have:=Ð e;have O:p.1=C:=z;rw[O] at this;show ao8 (Ö this w)<|ĺ _
  .rcases æ.mp (I.fF p.1 z) with q |q
   .show ne q
   .show M q
 aR:=I.aR.kept k
 len:=by
  have:=↑g;simp[fw,cV,this]
def Pp{h:Hp}(I:ax X aa σ H s)(J:ax `cK pl σ' h s')(j:D=⇑s)(f:∀b∈fp,hU X aa H b)(m:s'.heap.PlainList D bu.toArray)(p:aH acc bu)(hz:↑acc<=Ô)(hn:h D=È):ax X aa σ (aQ h D<|.ag acc) s':=by
 have i:∀b o,s.heap.get? b=À o->b≠D:=λb o e z=>by rw[z,j] at e;show ao8 (Ð e)<|ĺ _
 have a:H D=È:=I.aR.fresh (by rw[j];show Ï _);show I.eM (ch:=fp) J.os #[J.base.keep,J.base.slot,λb o e n r=>?_,J.base.there,λb l e=>?_,λb o u e=>?_,λb v e=>?_] (λb u e=>?_) J.bare λb d=>#[(f b d).2.2.2.1,(f b d).2.1,(f b d).2.2.2.2.1,(f b d).2.2.2.2.2]
 .rw[a6<|i b o e];show J.base.free b o e n r
 .rw[a6<|jG e a];show J.base.e8 b l e
 .rw[a6<|jG e a];show J.base.bf b o u e
 .obtain⟨mo,e2⟩:=J.base.e7 b v e;show#[mo,by rw[a6<|jG e a];show e2]
 .by_cases d:b=D
  .subst d;rw[cD] at e;cases e;let#[n,g]:=m;show#[hz,bu,n,p,g]
  .rw[a6 d] at e;show (J.aR b u e).e6 (λ_ _ _ q=>q) (λc q=>by rw[a6<|jG q hn];show q) λc l q=>by rw[a6<|jG q hn];show q
end
abbrev rV(w:TI)(g:TG)(u:TT)(r:TE)(ix:bJ):TE:=λj H Q=>w j H λJ n=>∃W:Nat->Nat->ay->Hp->Prop,(∃m,W 0 m [] n)/\∀i m a H,W i m a H->
 (J.stop i H/\↑a<=Ô/\∀p,H p=È->Q `ak (aQ H p<|.ag a))\/
 (J.go i H/\∃N:ay->Hp->Prop,(∀d e,N d e->∃l,l<m/\W (i+1) l d e)/\∀x e,J.mS i H x e->g x `cA e λf o=>Wk `cA f/\u f o λb h=>if b=Â then r f h λv q=>↑a<Ô/\N (a++[v]) q else N a h)
section
variable{X:Cx}{elt target iter:ę}{ifs:bN}{scope:Zr}{pos:Pos}{N:ah}{ix:bJ}{wi:TI}{g:TG}{ti:TT}{te:TE}
def Fs{Q:VK}{RR:ao->ai->Result->aj->Prop}{tn:Nat->aV->Prop}(hc:X.calm=Â)(hg:∀C s H fp pl,PG `ag target g)(ht:∀C s H fp pl,p0 `ag ifs ti)(he:∀C s H fp pl,PE `ag elt te)(ε:scope.kind=.function)(δ:∀y∈scope.names,y.2≠.cell)(π:kE scope X.env=Â)(hpk:bO X scope N ix)(I2:ax X aa j O a)(T:lG X.prog X.w X.K target J fp it tn)(st2:tn 0 a.heap)(f2:∀b∈fp,hU X aa O b)(h:∃W:Nat->Nat->ay->Hp->Prop,(∃m,W 0 m [] O)/\∀i m f H,W i m f H->
   (J.stop i H/\↑f<=Ô/\∀p,H p=È->Q `ak (aQ H p<|.ag f))\/
   (J.go i H/\∃N:ay->Hp->Prop,(∀ξ M,N ξ M->∃m',m'<m/\W (i+1) m' ξ M)/\∀x M,J.mS i H x M->g x `cA M λj2 O=>Wk `cA j2/\ti j2 O λb H3=>if b=Â then te j2 H3 λv H4=>↑f<Ô/\N (f++[v]) H4 else N f H3))(hR:∀(D C:ai)(s':aj)(M:Hp)(m:bw),ax X aa j M s'->s'.heap.Ns C m->M C=È->⇑a<=C->Q (.ref D) M->RR (.ref D) C (.ok .next) s'):
  Ý `aa X.A (newList []) (λf U=>Ý `aa X.A (newFunctionEnv scope X.env.globals (lH scope X.env) [] X.env.qual È .none (À X.env)) (λο s₄=>
   Ŷ `aa X.A (.compStart (.ListComp elt [#[target,iter,ifs,0]] scope pos) 0 `cv f { ο with scope:=relabel scope X.env }) (RR f ο.locals) s₄) E U) E a:=by
 let#[W,#[m0,w0],turn]:=h;show ae3 (wpAny_newFunctionEnv δ (by intro y hy;simp at hy) (λβ L G=>?_) ε);dsimp only at L G ⊢;generalize τ:a.heap.push { cls:=.type "list",dict:=È,data:=.seq ([]:aN).toArray }=P2 at L G ⊢;have hC:P2.objs.size=⇑a+1:=by rw[<- τ,ϑ]
 have κ:⇑a≠P2.objs.size:=by rw[hC];show ì<|ŧ _
 have γ:⇑a<=P2.objs.size:=by rw[hC];show ad4 _
 have Y:∀b,b<⇑a->b≠P2.objs.size/\b≠⇑a:=λb l=>#[by rw[hC];show ì<|ħ l,ì l]
 have old:∀b o,a.heap.get? b=À o->β.get? b=À o:=λb o e=>G.extBut b o (Y b<|Ð e).1<|Ä _<|τ ▸ Ä _ e
 have hacc:β.PlainList ⇑a ([].toArray):=#[_,G.extBut _ _ κ<|Ä _<|τ ▸ Ø _ rfl]
 have hfo:∀b∈fp,∃o,a.heap.get? b=À o:=λb l=>let ⟨o,e,_⟩:=T.obj 0 _ st2 b l;#[o,e]
 have υ:⇑a ∉ fp:=λhm=>by let#[o,e]:=hfo _ hm;show ao8 (Ð e)<|ĺ _
 have ok:=VE (N:=N) (C:=P2.objs.size) I2 γ f2 hfo ε δ π;have st1:tn 0 β:=T.keep 0 _ _ st2 λb _ o e=>old b o e
 have J0:=RN (t':=a.toks+([]:List (Str×ao)).length) (ix:=ix) I2 ok γ old L hpk π;have pnD:∀p∈X.pn++aa,p.1≠⇑a:=λp hp=>(Y _<|Ð (I2.pin p hp).1).2
 have σ:∀x c,(lH scope X.env).lookup x=À c->c≠⇑a:=λx c e=>by
  let#[v,o,ho,_]:=I2.cell x c<|oH e;show (Y _<|Ð ho).2
 have θ:∀{pl:aX}{M:Hp},(∀b∈fp,M b=È)->(∀p∈pl,p.1=⇑a)->∀b∈fp,hU `af pl M b:=λ{pl M} hn hp b l=>by
  show#[hn b l,(ok.pz b l).1,ok.ib b l,.inl l,(ok.pz b l).2,λp hm=>?_];rcases Æ.mp hm with z |z
  .show (f2 b l).2.2.2.2.2 p z
  .rw[hp p z];intro q;rw[q] at υ;show υ l
 have ρ:∀U:Shared,U={ a with heap:=β,toks:=a.toks+([]:List (Str×ao)).length }->
   Ŷ `aa X.A (.compLoop (.ListComp elt [#[target,iter,ifs,0]] scope pos) 0 `cv (.ref ⇑a)<|compEnvC scope (lH scope X.env) P2.objs.size X.env) (RR (.ref ⇑a) P2.objs.size) U:=by
  rintro U rfl;show M7 (λn s'=>∃i f I j' M,ax `af [] j' M s'/\Wk `cA j'/\tn i s'.heap/\(∀b∈fp,M b=È)/\s'.heap.PlainList ⇑a (ZA I)/\aH f I/\M ⇑a=È/\W i n f M) ?_ m0
   #[0,[],[],_,O,J0,zc _,st1,λb l=>(f2 b l).1,hacc,.nil,I2.aR.fresh<|Ï _,w0]
  intro n s3 zy;let#[i,f,I,j3,H3,I3,wk3,st3,ω,pl3,ν,χ,w3]:=zy;let#[kk,g3]:=id pl3;have ψ:ax `af [(⇑a,#[.type "list",È,.seq (ZA I) kk,([].toArray)])] j3 H3 s3:=I3.fo λp hp=>by
   have e:=ä.mp hp;subst e;show#[g3,χ,κ,λz=>?_,λv q=>by cases q];let#[_,o,ho,_]:=(I2.stack).mem z;show ao8 (Ð ho)<|ĺ _
  have α:∀p∈[((⇑a,⟨.type "list",È,.seq (ZA I) kk,([].toArray)⟩):ai×Obj)],p.1=⇑a:=λp hp=>by
   rw[ä.mp hp]
  rcases turn i n f H3 w3 with⟨stop,hlen,fin⟩ |⟨go,NN,hNN,step⟩
  .show ą (T.done (cV X scope N P2.objs.size a O fp aa) rfl rfl rfl hc i _ s3 j3 H3 _ ψ (θ ω α) st3 stop) (λr s4 h4=>?_) λ_ _ z=>z
   let#[hr,I4]:=h4;subst hr;have g4:=(I4.pin (⇑a,_)<|ÿ _<|ä.mpr rfl).1;let#[mm,hnm,_]:=I4.loc;have B:=Pp I2 I4 rfl f2 #[kk,g4] ν hlen χ;show hR _ _ s4 _ mm B hnm ?_ γ<|fin _ χ;rw[a6<|Ć κ];show I4.free
  .show ą (T.item `af rfl rfl rfl hc i _ s3 j3 H3 _ ψ (θ ω α) st3 go) (λr s4 h4=>?_) λ_ _ z=>z
   let#[u,hr,h4]:=h4;subst hr;show ą h4 (λ_ s5 h5=>?_) λ_ _ z=>z
   let#[x,H5,I5,r5,y5,μ,fr5]:=h5;have I5w:=I5.weak wk3.length.symm<|λi v e=>wk3.get e;have I5':=I5w.pinned (fp:=fp) (θ fr5 α)<|T.obj _ _ μ;show ą (hg P2.objs.size a O fp aa _ s5 _ H5 x u _ I5' r5<|step x H5 y5) (λ_ s6 h6=>?_) λ_ _ z=>z.elim
   let#[j6,H6,I6,wk6,q6]:=h6;show ą (ht P2.objs.size a O fp aa _ s6 j6 H6 _ I6 q6) (λok s7 h7=>?_) λ_ _ z=>z.elim
   let#[H7,I7,q7]:=h7;have η:∀{j8:St}{H8:Hp}{s8:aj},ax `af ([((⇑a,#[.type "list",È,.seq (ZA I) kk,([].toArray)]):ai×Obj)]++r0 fp s5.heap) j8 H8 s8->
     (∀b∈fp,∀o,s5.heap.get? b=À o->s8.heap.get? b=À o)/\(∀b∈fp,H8 b=È):=λ{j8 H8 s8} I8=>by
    show#[λb l o e=>(I8.pin (b,o)<|ÿ _<|ÿ _<|vx l e).1,λb l=>?_];let#[o,e,d]:=T.obj _ _ μ b l;show (I8.pin (b,o)<|ÿ _<|ÿ _<|vx l e).2.1
   have ι:∀{j8:St}{H8:Hp}{s8:aj}{pl:aX},ax `af pl j8 H8 s8->ax `af [] j8 H8 s8:=λI8=>I8.fo λp hp=>by cases hp
   cases ok with
   |false=>
    simp only[Δ,if_false] at q7 ⊢;let#[m',hm,w7]:=hNN _ _ q7;have p7:=I7.pin (⇑a,_)<|ÿ _<|ş _<|ä.mpr rfl;let#[k1,k2]:=η I7;show#[m',hm,i+1,f,I,j6,H7,ι I7,wk6,T.keep _ _ _ μ k1,k2,#[kk,p7.1],ν,p7.2.1,w7]
   |true=>
    simp only[if_true] at q7 ⊢;show ą (he P2.objs.size a O fp aa _ s7 j6 H7 _ I7 q7) (λy s8 h8=>?_) λ_ _ z=>z.elim
    ∎;let#[v,H8,I8,r8,hlt,q8]:=h8;let#[m',hm,w8]:=hNN _ _ q8;∎;have p8:=I8.pin (⇑a,_)<|ÿ _<|ş _<|ä.mpr rfl;let#[k1,k2]:=η I8;have hl:=↑ν;show wpAny_list_append_plain (items:=ZA I) (hsz:=by rw[ã,<- hl];show ń hlt) #[kk,p8.1] λh₅ φ ζ=>?_
    have I9:ax `af [] j6 H8 { s8 with heap:=h₅ }:=(ι I8).turned (t':=s8.toks) (it:=⇑a) (λb o l e=>ζ.extBut b o l e) p8.2.1 κ (.inr<|Ï _) σ (λp hp=>by
     have hp':p∈X.pn++aa:=by simpa [cV] using hp
     show pnD p hp')
    show#[m',hm,i+1,f++[v],I++[y],j6,H8,I9,wk6,T.keep _ _ _ μ λb l o e=>ζ.extBut b o (λz=>υ<|z ▸ l)<|k1 b l o e,k2,?_,ν.append<|.cons r8 .nil,p8.2.1,w8];have e:(I++[y]).toArray=I.toArray.push y:=by simp
    rw[e];show φ
 show codeAny_compStart_list (ρ _ rfl)<|T.self X.A 0 _ _ _ st1<|ρ _ rfl
def Gx(hc:X.calm=Â)(hi:PI X target iter wi)(hg:∀C s H fp pl,PG `ag target g)(ht:∀C s H fp pl,p0 `ag ifs ti)(he:∀C s H fp pl,PE `ag elt te)(E:bO X scope N ix)(a:do scope.kind=.function)(l: ~~~(∀y∈scope.names,y.2≠.cell))(f: ~~~(∀x∈scope.names,x.2=.local->scope.names.lookup x.1=À .local))(i:do kE scope X.env=Â)(hs:∀x,ĭ iter X.env x=pure x:=by intro _;rfl):PE X (.ListComp elt [#[target,iter,ifs,0]] scope pos) `dW:=by
 intro aa s j H Q I h;rw[eval_ListComp];show am3 (use:=È) rfl hs (El i) a f ?_;show bq `bM λv s1 U=>bq U λα s2 Y=>?_
 let#[it,fp,tn,J,H2,e,n,T,L,O,h]:=Y;subst e;show Fs (RR:=λr C=>compPost `aa X.A X.xe È `ap r C) hc hg ht he a l i E n T L O h ?_;intro D C s' M m B hn u d q;show#[m,hn,λh' G=>#[.ref D,M,B.turned (t':=s'.toks) (it:=C) (λb o hb e=>G.extBut b o hb e) u (ϖ<|Ö n.lt d) (.inr<|Ñ n.sz d) (λx c e=>?_)<|λp hp=>?_,rfl,q]]
 .obtain⟨v,o,ho,_⟩:=n.cell x c e;show ì<|Ö (Ð ho) d
 .show ì (Ö (Ð (n.pin p hp).1) d)
def VF(hN:X.N.Nodup)(β:X.N[i]?=À y)(hy:Loc X.env.scope y)(hc:X.calm=Â)(hi:PI X target iter wi)(hg:∀C s H fp pl,PG `ag target g)(ht:∀C s H fp pl,p0 `ag ifs ti)(he:∀C s H fp pl,PE `ag elt te)(M:bO X scope N ix)(α:Į (.ListComp elt [#[target,iter,ifs,0]] scope pos) (À<|.Name y py) spos.line X.env=pure Â:=by with_unfolding_all rfl)(d:do scope.kind=.function)(r: ~~~(∀y∈scope.names,y.2≠.cell))(l: ~~~(∀x∈scope.names,x.2=.local->scope.names.lookup x.1=À .local))(n:do kE scope X.env=Â)(hs:∀x,ĭ iter X.env x=pure x:=by intro _;rfl)(hf:lz X y:=by first |show .inl rfl |show .inr rfl |assumption):PS X (.Assign [.Name y py] (.ListComp elt [#[target,iter,ifs,0]] scope pos) spos) (mf `dW<|j5 i):=by
 intro aa s j H D I h;rw[exec_Assign_Name_used _ _ _ _ α];show Ë<|Ţ<|Ë ?_;change Ý _ X.A (do let _ <- comprehension (.ListComp elt [⟨target,iter,ifs,0⟩] scope pos) scope X.env _ (newList []) É (eval iter X.env) (À (assign (.Name y py) X.env))) _ _ s;show Ë<|ą (am3 (use:=À<|assign (.Name y py) X.env) (Q:=λ_ E=>SP X aa D .next E) rfl hs (El n) d l ?_) (λ_ E hq=>Ü<|Ü hq) λ_ _ e=>e;show bq `bM λv s1 h1=>bq h1 λδ s2 h2=>?_
 let#[it,fp,tn,J,H2,e,u,T,γ,f2,h]:=h2;subst e;show Fs (Q:=λx H1=>j5 i x j H1 D.nx) (RR:=λG C=>compPost `aa X.A X.xe (À<|assign (.Name y py) X.env) (λ_ E=>SP X aa D .next E) G C) hc hg ht he d r n M u T γ f2 h ?_;intro Dd C E H' m B hn L f q;change Ý _ X.A (assign (.Name y py) X.env<|.ref Dd) _ _ _;have cC:∀x c,X.env.cells.lookup x=À c->c≠C:=λx c e=>by
  let#[v,o,ho,_]:=u.cell x c e;show ì<|Ö (Ð ho) f
 have lC:X.env.locals≠C:=ì<|Ö u.lt f;show wpAny_assign_Name<|EO (v:=.ref Dd) B hN β hy rfl (λs4 I4 Y=>?_) hf;let#[a,U,ha]:=Y;have nC:C≠a:=by
  rcases ha with z |z
  .rw[z];show Ć lC
  .show Ć (cC _ _ z)
 show#[m,hn.sameBut U nC,λh' O=>#[_,H',I4.turned (t':=s4.toks) (it:=C) (λb o hb e=>O.extBut b o hb e) L (Ć lC) (.inr<|Ñ u.sz f) cC<|λp hp=>?_,q]];show ì<|Ö (Ð (u.pin p hp).1) f
end
section
variable{g:TG}{ti:TT}{te:TE}{ix:bJ}{σ:St}{Q:VK}
abbrev Df(J:It)(g:TG)(ti:TT)(te:TE)(ix:bJ)(σ:St)(Q:VK)(l:Hp):Prop:=∃W:Nat->Nat->ay->Hp->Prop,(∃m,W 0 m [] l)/\∀i m a H,W i m a H->
 (J.stop i H/\↑a<=Ô/\∀p,H p=È->Q `ak (aQ H p<|.ag a))\/
 (J.go i H/\∃N:ay->Hp->Prop,(∀d f,N d f->∃j,j<m/\W (i+1) j d f)/\∀x f,J.mS i H x f->g x `bm f λe n=>Wk `bm e/\ti e n λb h=>if b=Â then te e h λv o=>↑a<Ô/\N (a++[v]) o else N a h)
def Jd(Pv:Nat->ay->Hp->Prop)(w:Pv 0 [] H1)(j:∀i a H,i<n->Pv i a H->J.go i H)(l:∀a H,Pv n a H->J.stop n H)(hs:∀i x a H h,i<n->Pv i a H->J.mS i H x h->g x `bm h λf r=>Wk `bm f/\ti f r λb o=>if b=Â then te f o λv u=>↑a<Ô/\Pv (i+1) (a++[v]) u else Pv (i+1) a o)(hd:∀a H,Pv n a H->↑a<=Ô/\∀p,H p=È->Q `ak (aQ H p<|.ag a)):Df J g ti te ix σ Q H1:=by
 show#[λi m a H=>m=n - i/\i<=n/\Pv i a H,#[n,by simp,Ĝ _,w],?_];rintro i m a H ⟨rfl,B,p⟩;by_cases d:i<n
 .show .inr #[j i a H d p,Pv<|i+1,λq h A=>#[n - (i+1),⋯,rfl,d,A],λx h y=>hs i x a H h d p y]
 .have e:i=n:=⋯
  subst e;show .inl #[l a H p,hd a H p]
end
section
variable{X:Cx}
abbrev DP:V->bK->bK->Hp->VK->Prop:=λx lo a H Q=>∃z,x=.str z/\↑z<=Ô/\Q (.str<|Txt.slice z lo a) H
def W9:mW X DP:=by
 intro aa s G H x v y A lo o w Q I r d p m h;∎;let#[z,rfl,e,q]:=h;let#[t,rfl]:=(show ∃t,v=ac6 z t from r);∎;show#["str",_,F.slot_str_getitem.lookup,typeIs_str _ _ _,?_];have a:∀(g:Tok)(k:Nat),EP X aa G Q (.str (Txt.slice z lo o) g) { s with toks:=k }:=λg k=>#[.str _,H,I.tok k,#[g,rfl],q]
 cases p with
 |none=>
  cases m with
  |none=>show ϛ (l:=È) (u:=È) (st:=È) d rfl<|aa2 #[Ñ (ac5 z _ _) e,λb k=>a b k]
  |int j f=>show ϛ (l:=È) (u:=À (j,f)) (st:=È) d rfl<|aa2 #[Ñ (ac5 z _ _) e,λb k=>a b k]
 |int i n=>
  cases m with
  |none=>show ϛ (l:=À (i,n)) (u:=È) (st:=È) d rfl<|aa2 #[Ñ (ac5 z _ _) e,λb k=>a b k]
  |int j f=>show ϛ (l:=À (i,n)) (u:=À (j,f)) (st:=È) d rfl<|aa2 #[Ñ (ac5 z _ _) e,λb k=>a b k]
end
abbrev uj(lo c:Int)(n:Nat):It:=#[λi _=>i<n,λi H x a=>a=H/\x=.int (lo+i*c),λi _=>n<=i]
def NL{P:ð}{w:ă}{K:PySem.W.Frag}{M:ę}(it:ai)(lo c:Int)(n:Nat):lG P w K M (uj lo c n) [it] it (λi h=>ag6 h it (lo+(i:Nat)*c) ((n:Int) - (i:Nat)) c) where
 mem:=by simp
 obj:=λi h st b a=>by
  have e:b=it:=by simpa using a
  subst e;show#[_,st,λv z=>by
   have N:Data.fields _=Data.cell v:=z;cases N]
 keep:=λi h f st k=>k it ∅ _ st
 item:=by
  intro X x B u y i aa s j H E I g st A;subst x B u;let#[l,m,G,p,q,r]:=g it ∅;have W:=Walks.range (prog:=X.prog) (w:=X.w) `cw it lo c n;show W.item i s _ _ A st λv f C J d L=>?_
  let#[t,rfl]:=J;have D:ax X aa j H { s with heap:=f,toks:=C }:=I.turned (λb o a e=>L b o (by simpa using a) e) l m p q r;show#[_,rfl,wH (s:={ s with heap:=f,toks:=C }) (n:="range_iterator") d rfl rfl ∎ #[.int<|lo+i*c,H,D,#[t,rfl],#[rfl,rfl],d,λb a=>(g b a).1]]
 done:=by
  intro X x B u y i aa s j H E I g st A;subst x B u;let#[l,m,G,p,q,r]:=g it ∅;show ao5 `cw st (by have:n<=i:=A;omega) λf eb=>#[rfl,I.turned (t':=s.toks) (λb o a e=>eb b o a e) l m p q r]
 self:=λ_ _ _ _ _ st h=>ao4 st h
abbrev Cn(d:b9)(e:ai)(h:aV):Prop:=∃o vs,h.get? e=À o/\o.data=.fields vs/\vs[2]?=À .none/\o.dict=d
def Cn.keeps{d:b9}{e:ai}{h h':aV}(c:Cn d e h)(k:∀o,h.get? e=À o->h'.get? e=À o):Cn d e h':=
 let ⟨q,vs,h1,h2⟩:=c;#[q,vs,k q h1,h2]
def VG(o:Obj)(f:cU->cU):(Ŗ f o).dict=o.dict:=by
 unfold Ŗ;split<;>rfl
def Cn.aQ{d:b9}{e b:ai}{h:aV}{i:Nat}{v:ao}(c:Cn d e h)(l:b≠e\/i≠2):Cn d e (h.update b (Ŗ (·.setIfInBounds i v))):=by
 let#[o,vs,a,f,g,j]:=c;by_cases z:b=e
 .subst z;have d:=Κ f (·.setIfInBounds i v);show#[_,_,Č _ a<|ZV d,d,?_,(VG _ _).trans j];rw[ab4<|l.resolve_left λq=>q rfl];show g
 .show#[o,vs,by rw[ù _ _ z];show a,f,g,j]
section
variable{M:Model}{A:ĉ}{E:ao->aj->Prop}{s:aj}{base:aV}{env:Env}{outer:cH}{L e:ai}{d:b9}
def HC{o:Obj}{vs:cU}{g a0:ao}{hn:Bool}{Q:Unit->aj->Prop}(fr:A.frames=À (env::outer))(l:s.heap.FunFrames base (env::outer))(I:env.frame=À L)(he:s.heap.get? e=À o)(N:base.StaysIn s.heap)(H:base.get? e=È)(hd:o.data=.fields vs)(hz:1<vs.size)(J:vs[0]?=À a0)(c:Cn d e s.heap)(h:∀k,Heap.NotedW base (env::outer) e o.cls a0 (Ϩ L) s.heap k->Cn d e k->Q () { s with heap:=k }):
  Ý M A (do let a <- frameOf env;let q <- entryPlaceOf L hn;let b <- af1 g a .none (Ϩ L) .none q;setField `bE 1 b) Q E s:=by
 have v:∀b u,s.heap.get? b=À u->(∀vs,u.data≠.fields vs)->b≠e:=λb u z n w=>by rw[w,he] at z;cases z;show n vs hd
 show Ë<|wpAny_frameOf_fun fr l I λf p=>Ë<|wpAny_entryPlaceOf λq B=>?_;unfold af1 newFields;show Ë<|ae3 ?_<|B.sizeOk5 _ _ _ _ _;have r:f.get? e=À o:=(p.2.1 e λm=>by let#[_,u,z,n]:=l.mem m;show v e u z n rfl).trans he;have x:base.StaysIn f:=λb u z=>(p.2.1 b λm=>by rw[(l.mem m).1] at z;cases z).trans<|N b u z
 have C:Cn d e f:=c.keeps λu z=>by rw[he] at z;cases z;show r
 generalize i:({ cls:=.type "traceback",dict:=È,data:=.fields ([g,.ref L,.none,Ϩ L,.none]++(if q.isEmpty then Ó 6 ŵ else q)).toArray }:Obj)=new;have y:=Ä (h:=f) new r;have D:Cn d e (f.push new):=C.keeps λu z=>Ä new z
 have ne:f.objs.size≠e:=ϖ<|Ð r;have j:=Κ hd (·.setIfInBounds 1 `bt);have G:=Č (Ŗ (·.setIfInBounds 1 `bt)) y<|ZV j;have O:=(ù (f.push new) (Ŗ (·.setIfInBounds 1 `bt)) ne.symm).trans (Ø f (by rw[<- i];rfl));have kp:∀b u,b≠e->f.get? b=À u->((f.push new).update e (Ŗ (·.setIfInBounds 1 `bt))).get? b=À u:=λb u n z=>by
  rw[ù _ _ n.symm];show Ä _ z
 show ak6 y hd hz (h _ #[λb u z=>kp b u (λw=>by rw[w,H] at z;cases z)<|x b u z,l.of_keeps λb u z n=>?_,#[_,_,_,_,_,G,#[Obj.cls_mapFields _ _,by rw[ab4 ∎];show J],j,by simp[hz],x.fresh,ne,O,by rw[<- i],?_],λb u z n=>?_]<|D.aQ<|.inr ∎)
 .obtain⟨sl,w⟩:=p.2.2 b u z;show#[_,kp b _ `cB w,rfl]
 .first |(simp;done) |(rcases B with rfl |⟨_,_,_,_,_,_,_,rfl⟩<;>simp)
 .obtain⟨sl,w⟩:=p.2.2 b u z;show#[sl,kp b _ `cB w]
def Pg{a a0:ao}{Q:Unit->aj->Prop}(fr:A.frames=À (env::outer))(B:s.heap.FunFrames base (env::outer))(j:env.frame=À L)(t:s.heap.TracedW base e a a0)(G:base.StaysIn s.heap)(y:base.get? e=È)(c:Cn d e s.heap)(h:∀k,Heap.NotedW base (env::outer) e a a0 (Ϩ L) s.heap k->Cn d e k->Q () { s with heap:=k }):Ý M A (af5 `bE env) Q E s:=by
 let#[o,vs,T,p,H,l,#[rfl,C],m,q,D,ne,g,i,r]:=t;unfold af5;simp only[j];show Ë<|ag9 l m q ?_;rw[ao7<|by simp];show Ë<|ag9 g i r ?_;rw[ao6<|by simp[Ϩ]];show Ë<|ak6 g i (Ś.mp r).1 ?_;have f:∀b u,b≠T->s.heap.get? b=À u->(s.heap.update T (Ŗ (·.setIfInBounds 3 ŵ))).get? b=À u:=λb u n z=>(ù _ _ n.symm).trans z
 have v:∀b u,s.heap.get? b=À u->(∀vs,u.data≠.fields vs)->b≠T:=λb u z n w=>by rw[w,g] at z;cases z;show n H i
 show HC fr (B.of_keeps λb u z n=>#[u,f b u `cB z,rfl]) j (f e o ne.symm l) (λb u z=>f b u (λw=>by rw[w,D] at z;cases z)<|G b u z) y m (Ś.mp q).1 C (c.aQ<|.inl ne)
  λk x=>h k #[x.1,x.2.1,x.2.2.1,λb u z n=>x.2.2.2 b u (f b u `cB z) n]
def Gy{l:cH}{a a0 C:ao}{Q:Unit->aj->Prop}(H:base.StaysIn s.heap)(B:s.heap.FunFrames base l)(t:s.heap.TracedAtW base e a a0 C)(c:Cn d e s.heap)(h:∀k,base.StaysIn k->k.FunFrames base l->k.TracedW base e a a0->(∀b o,s.heap.get? b=À o->(∀vs,o.data≠.fields vs)->k.get? b=À o)->Cn d e k->Q () { s with heap:=k }):Ý M A (setFlight `bE È) Q E s:=by
 let#[o,vs,T,p,I,m,G,q,r,v,ne,j,g,D]:=t;have x:=(Ś.mp D).1;unfold setFlight;show Ë<|ag9 m q r ?_;rw[ao7<|by simp];have i:∀b u,b≠T->s.heap.get? b=À u->(s.heap.update T (Ŗ (·.setIfInBounds 3 ((È:b9).elim ŵ λf=>Ϩ f)))).get? b=À u:=λb u n z=>(ù _ _ n.symm).trans z
 have y:∀b u,s.heap.get? b=À u->(∀vs,u.data≠.fields vs)->b≠T:=λb u z n w=>by rw[w,j] at z;cases z;show n I g
 show ak6 j g x (h _ (λb u z=>i b u (λw=>by rw[w,v] at z;cases z)<|H b u z) (B.of_keeps λb u z n=>#[u,i b u (y b u z n) z,rfl])
  #[o,vs,T,_,_,i e o ne.symm m,G,q,r,v,ne,Č _ j<|ZV<|Κ g _,Κ g _,by simp[x]] (λb u z n=>i b u (y b u z n) z) (c.aQ<|.inl ne))
def Na{f a0:ao}{Q:Unit->aj->Prop}(fr:A.frames=À (env::outer))(j:s.heap.FunFrames base (env::outer))(l:env.frame=À L)(t:s.heap.TracedW base e f a0)(o:base.StaysIn s.heap)(i:base.get? e=È)(c:Cn d e s.heap)(h:∀k,Heap.LeftW base (env::outer) e f a0 s.heap k->Cn d e k->Q () { s with heap:=k }):Ý M A (leaving env<|.ref e) Q E s:=by
 unfold leaving;show Ë (Pg fr j l t o i c λk x q=>Gy x.1 x.2.1 x.2.2.1 q λm a b r g p=>h m #[a,b,r,λb u z n=>let ⟨sl,w⟩:=x.2.2.2 b u z n;#[sl,g b _ w n]] p)
def Eo{o:Obj}{vs:cU}{a0:ao}{Q:Unit->aj->Prop}(fr:A.frames=À (env::outer))(l:s.heap.FunFrames base (env::outer))(f:env.frame=À L)(he:s.heap.get? e=À o)(v:base.StaysIn s.heap)(j:base.get? e=È)(hd:o.data=.fields vs)(i:vs[1]?=À .none)(m:vs[0]?=À a0)(p:vs[2]?=À .none)(h:∀k,Heap.LeftW base (env::outer) e o.cls a0 s.heap k->Cn o.dict e k->Q () { s with heap:=k }):Ý M A (leaving env<|.ref e) Q E s:=by
 unfold leaving af5;simp only[f];show Ë<|Ë<|ag9 he hd i ?_;rw[ao6 ∎];show HC fr l f he v j hd (Ś.mp i).1 m #[o,vs,he,hd,p,rfl] λk x q=>Gy x.1 x.2.1 x.2.2.1 q λr a b B g y=>h r #[a,b,B,λb u z n=>let ⟨sl,w⟩:=x.2.2.2 b u z n;#[sl,g b _ w n]] y
end
abbrev pW(e h:aV)(H:Hp)(x:ai)(a:ao)(d:b9):Prop:=
 e.get? x=È/\H x=È/\∃g b vs T oT f,e.get? T=È/\H T=È/\h.get? x=À b/\b.cls=a/\vs[0]?=À g/\b.data=.fields vs/\vs[1]?=À (.ref T)/\T≠x/\h.get? T=À oT/\oT.data=.fields f/\f[3]?=À .none/\Cn d x h
abbrev fJ(P:ð)(w:ă):fP:=λouter H s E e b=>∃x a d f,e=.ref x/\b.os=s.os/\ZC b.gens/\Un (cE outer) [] H f s.heap b.heap/\dD P w f b.heap/\pW s.heap b.heap f x a d/\E a d f
def bp.has(x:bp P w H h a o):∃u,h.get? a=À u:=by
 cases o with
 |ag d=>let#[_,_,_,_,e]:=x;show#[_,e]
 |aL d=>let#[_,_,_,u,e,_]:=x;show#[_,e]
 |dK b=>let#[_,_,_,_,u,_,_,e,_]:=x;show#[_,e]
 |dT b=>let#[_,_,_,_,u,_,_,e,_]:=x;show#[_,e]
 |set S n=>let#[u,_,_,_,e,_]:=x;show#[_,e]
 |ins C g fs=>let#[_,_,_,e,_]:=x;show#[_,e]
 |own y=>show x
 |xd fs=>let#[_,#[u,_,_,e,_],_]:=x;show#[_,e]
 |ku lo i=>let#[_,_,_,e]:=x;show#[_,e]
 |aB j u=>let#[e,_]:=x;show#[_,e]
 |og l=>show#[_,x]
 |met f y=>show#[_,x]
 |ext m=>show x.2.1
def HD{P:ð}{w:ă}{fs fr l bad:cJ}{H a:Hp}{h i j:aV}(u:Un fs [] H a h i)(aR:dD P w a i)(N:∀b∈l,b∈bad\/b∈fr)(G:∀b∈bad,h.get? b=È/\a b=È)(m:∀b∈fr,(b∈fs\/h.get? b=È)/\a b=È/\∃o,i.get? b=À o/\∀vs,o.data≠.fields vs)(J:∀b∈fs,b∈fr)(k:(Ű i l).StaysIn j)(sm:i.UpToSlots j):
  Un fs [] H a h j/\dD P w a j/\∀x y d a0,j.TracedW (Ű i l) x y a0->Cn d x j->h.get? x=È->a x=È->pW h j a x y d:=by
 have gt:∀b o,i.get? b=À o->b ∉ bad->b ∉ fr->j.get? b=À o:=λb o e U Y=>k b o<|aj9 _ e λz=>(N b z).elim U Y
 have O:∀b o,h.get? b=À o->b ∉ bad:=λb o e z=>by rw[(G b z).1] at e;cases e
 have slots:∀b o,b∈fr->i.get? b=À o->∃D,j.get? b=À { o with slots:=D }:=λb o g e=>by
  let#[_,_,A,f,d]:=m b g;rw[e] at f;cases f;show sm b o e d
 have tr:∀b u,a b=À u->b ∉ bad/\b ∉ fr:=λb u e=>#[λz=>(by rw[(G b z).2] at e;cases e),λz=>(by rw[(m b z).2.1] at e;cases e)]
 show#[#[λb o e n g p=>?_,λb o e n g p=>?_,λb o e n p=>u.free b o e n p,λb o e p=>?_,u.e8,u.bf,u.e7],λb v e=>?_,λx y d a0 Q I p E=>?_]
 .show gt b o (u.keep b o e n g p) (O b o e) λz=>?_
  rcases (m b z).1 with q |q
  .show g q
  .rw[e] at q;cases q
 .obtain⟨D,e1⟩:=u.slot b o e n g p;let#[L,B]:=slots b _ (J b g) e1;show#[L,B]
 .obtain⟨A,e1⟩:=u.there b o e p;by_cases g:b∈fr
  .obtain⟨D,B⟩:=slots b A g e1;show#[_,B]
  .show#[A,gt b A e1 (O b o e) g]
 .show (aR b v e).e6 (λc o C q=>?_) (λ_ q=>q) λ_ _ q=>q
  rcases C with rfl |C
  .show gt c o q (tr c v e).1 (tr c v e).2
  .show gt c o q (tr c _ C).1 (tr c _ C).2
 .obtain⟨oe,vs,T,oT,ts,t1,⟨t2,t3⟩,t4,t5,t6,t7,t8,t9,t10⟩:=Q;have M:h.get? T=È/\a T=È:=by
   cases q:i.get? T with
   |none=>
    show#[?_,?_]
    .cases r:h.get? T with
     |none=>rfl
     |some o=>let#[A,f]:=u.there T o r ∅;rw[q] at f;cases f
    .cases r:a T with
     |none=>rfl
     |some v=>let#[A,f]:=(aR T v r).has;rw[q] at f;cases f
   |some o=>
    by_cases hm:T∈l
    .rcases N T hm with z |z
     .show G T z
     .obtain⟨D,B⟩:=slots T o z q;let#[_,_,A,f,d]:=m T z;rw[q] at f;cases f;rw[t8] at B;cases B;show ao8 t9<|d ts
    .have:=aj9 _ q hm;rw[t6] at this;cases this
  show#[p,E,a0,oe,vs,T,oT,ts,M.1,M.2,t1,t2,t3,t4,t5,t7,t8,t9,t10,I]
def pW.lp{H:Hp}(f:pW h0 h H x cls d):∃T a0,h0.get? T=È/\H T=È/\∀l:cJ,T∈l->h.TracedW (Ű h l) x cls a0:=by
 let#[_,_,a0,g,vs,T,oT,v,i,j,m,n,o,p,q,r,u,a,b,_]:=f;show#[T,a0,i,j,λl e=>#[g,vs,T,oT,v,m,#[n,o],p,q,Ϟ _ e,r,u,a,b]]
def pW.cn{H:Hp}(f:pW h0 h H x cls d):Cn d x h:=by
 let#[_,_,e,g,vs,T,oT,u,i,j,l,m,n,o,p,q,r,a,b,c]:=f;show c
section
variable{X:Cx}{aa:aX}{σ:St}{H:Hp}{s:aj}
def vK:∀env∈l,∀a,env.frame=À a->a∈cE l:=λenv b a d=>ϋ.mpr #[env,b,d]
def ax.EE(I:ax X aa σ H s):∀b∈cE X.stack,(b∈X.fs\/X.s₀.heap.get? b=È)/\H b=È/\∃o,s.heap.get? b=À o/\∀vs,o.data≠.fields vs:=λb a=>by
 show#[?_,I.gM b a,(I.stack.mem a).2];rcases æ.mp (I.fF b a) with e |e
 .show .inr (by rw[e];show Ń I.ok.above)
 .show .inl e
def zK{E:XK}{x:ai}{a:ao}{d:b9}(hs:X.stack=X.env::X.outer)(o:X.env.frame=À X.env.locals)(j:X.ex=[])(I:ax X aa σ H s){l bad:cJ}{f:aV}(p:∀b∈l,b∈bad\/b∈cE X.stack)(h:∀b∈bad,X.s₀.heap.get? b=È/\H b=È)(k:(Ű s.heap l).StaysIn f)(sm:s.heap.UpToSlots f){a0:ao}(ht:f.TracedW (Ű s.heap l) x a a0)(i:Cn d x f)(q:X.s₀.heap.get? x=È)(g:H x=È)(e:E a d H):fJ X.prog X.w X.outer X.H₀ X.s₀ E `bb { s with heap:=f }:=by
 have m:=I.base;rw[j] at m;let#[u,ok,n]:=HD m I.aR p h I.EE (λb h=>by rw[hs];unfold cE;rw[ϱ,o];show Ğ _ h) k sm;show#[x,a,d,H,rfl,I.os,I.bare,u,ok,n x a d a0 ht i q g,e]
abbrev qd(X:Cx)(E:XK):Prop:=X.xe=λe d=>Ý `aa X.A (leaving X.env e) (λ_ a=>fJ X.prog X.w X.outer X.H₀ X.s₀ E e a) (λb a=>fJ X.prog X.w X.outer X.H₀ X.s₀ E b a) d
def YZ{E:XK}(hs:X.stack=X.env::X.outer)(i:X.env.frame=À X.env.locals)(h:X.ex=[])(p:qd X E):ot `aB X E:=by
 intro aa σ H s e u I D;let#[x,y,d,v,rfl,os,bare,un,aR,f,A]:=D;have J:ax X aa σ v u:=I.eM (ch:=[]) os un aR bare (λb z=>ao8 z<|by simp);have up:∀b,s.heap.get? b=È->X.s₀.heap.get? b=È:=λb z=>by
  cases q:X.s₀.heap.get? b with
  |none=>rfl
  |some o=>let#[U,r]:=I.base.there b o q (by rw[h];simp);rw[z] at r;cases r
 let#[T,O,j,C,n]:=f.lp;rw[p];have m:∀env∈X.env::X.outer,∀a,env.frame=À a->a∈x::T::cE X.stack:=λenv G a i=>.tail _ (.tail _ (by rw[hs];show vK env G a i))
 show Na (base:=Ű u.heap (x::T::cE X.stack)) (by rw[J.ok.frames,hs]) (ZJ (hs ▸ J.stack) m) i (n _<|.tail _<|.head _) (λb o q=>ZZ _ q)
  (Ϟ _<|.head _) f.cn λQ B l=>?_
 let#[L,_,M,N]:=B;show zK hs i h J (bad:=[x,T]) (λb g=>by
  rcases æ.mp g with z |g
  .show .inl (by rw[z];show .head _)
  .rcases æ.mp g with z |g
   .show .inl (by rw[z];show .tail _ (.head _))
   .show .inr g) (λb g=>by
  rcases æ.mp g with z |g
  .rw[z];show#[up _ f.1,f.2.1]
  .have z:b=T:=by simpa using g
   rw[z];show#[up _ j,C]) L N M l (up _ f.1) f.2.1 A
end
def VH{K:aq}{h:aV}{C:ai}{a:aN}{newId:String}(X:K.In h)(q:ZY K C a newId=Â):
  ∃bm N nm f bs hd sn sub ab col dd k0 k1 k2 k3 k5 mN,h.get? C=À (ZF nm f C N bs bm hd sn sub ab col dd k0 k1 k2 k3 k5 newId)/\h.Ns N mN/\mN "__init__"=È/\OwnTail h a bm:=by
 unfold ZY at q;split at q
 case h_2=>cases q
 case h_1 ddc cdc slc hlook=>
  split at q
  case h_2=>cases q
  case h_1 Cc bmc k0 k1 k2 k3 nn k5 hmro hslots=>
   simp only[í,beq_iff_eq,an4] at q;∎;let#[#[#[#[#[i,j],d],l],b],e]:=q;let#[nm,bs,m,ns,f,hd,sn,sub,ab,col,g]:=cdc;∎;dsimp only at hmro d b e;let#[n]:=slc;simp only at hslots;subst i j d hmro hslots;show#[_,_,_,_,_,_,_,_,_,_,_,_,_,_,_,_,_,X _ _ hlook,.of_isNs<|W.isNs_of_in X b,W.nsMap_none_of_in X b e,W.tail_of_in X l]
abbrev CH(C:ai)(E:XK)(b:TE):TS:=λ_ j H=>b j H λ_ a=>E `ai È a
section
variable{X:Cx}
def RO{E:XK}{x:Str}{np g pos:Pos}{f:ę}{te:TE}{C:ai}{B newId i:String}{n:aN}(hs:X.stack=X.env::X.outer)(L:X.env.frame=À X.env.locals)(A:X.ex=[])(α:qd X E)(m:X.calm=Â)(hg:Gl X x)(hm:X.mg x=À `ai)(FB:ExcBaseFacts B newId i n)(hq:ZY X.K C n newId=Â)(he:PE X f te)(Q: ~~~(dZ x))(G:do d0 f [] X.env)(hpl:do fS g [] X.env):
  PS X (.Raise (À<|.Call (.Name x np) [f] [] g) È pos) (CH C E te):=by
 intro aa s j H D I h;let#[bm,N,nm,qn,bs,hd,sn,sub,ab,col,dd,k0,k1,k2,k3,k5,mN,hC,hN,Y,T]:=VH I.ok.mod.mJ hq;show wpAny_Raise_call_subT (C:=C) (nm:=nm) (q:=qn) (N:=N) (bs:=bs) (bm:=bm) (hdct:=hd) (sn:=sn) (sub:=sub) (ab:=ab) (col:=col) (dd:=dd) (k0:=k0) (k1:=k1) (k2:=k2) (k3:=k3) (k5:=k5)
  FB (mN:=mN) (T.hasType FB.hasBase) (I.ok.hd m) (by rw[G];change (É || (ű g (Ă [] X.env)).any (·.1))=É;rw[hpl];rfl) Y (nG I hg hm #[rfl,?_] Q)
 rw[G];show ZT ?_;show Ō ?_;show bq `au λu s1 β=>?_
 let#[v,M,l,_,q1]:=β;show ύ ?_;show#[rfl,by change (1:Nat)<=Ô;decide,l.bk _ _ hC,hN.keeps l.bk,T.keeps l.bk,λh' e d=>?_];let#[t,ht,γ,δ]:=d.there;have J:ax X aa j M { s1 with heap:=h' }:=l.eM (ch:=[]) rfl (Un.kept d.keeps) (l.aR.kept d.keeps) l.bare (λb z=>ao8 z<|by simp);have up:∀b,s1.heap.get? b=È->X.s₀.heap.get? b=È:=λb z=>by
  cases q:X.s₀.heap.get? b with
  |none=>rfl
  |some o=>let#[o',p]:=l.base.there b o q (by rw[A];simp);rw[z] at p;cases p
 have w:M e=È:=by
  cases r:M e with
  |none=>rfl
  |some v=>let#[o',p]:=(l.aR e v r).has;rw[d.new] at p;cases p
 rw[α];have U:∀env∈X.env::X.outer,∀a,env.frame=À a->a∈e::cE X.stack:=λenv he a L=>.tail _ (by rw[hs];show vK env he a L)
 show Eo (base:=Ű h' (e::cE X.stack)) (a0:=.ref t) (by rw[J.ok.frames,hs]) (ZJ (hs ▸ J.stack) U) L ht (λb o q=>ZZ _ q)
  (Ϟ _<|.head _) rfl rfl rfl rfl λh2 hL O=>?_
 let#[l1,_,l3,l4]:=hL;show zK hs L A J (bad:=[e]) (λb y=>by
  rcases æ.mp y with z |y
  .show .inl (by rw[z];show .head _)
  .show .inr y) (λb y=>by
  have z:b=e:=by simpa using y
  rw[z];show#[up _ d.new,w]) l1 l4 l3 O (up _ d.new) w q1
end
section
variable{P:ð}{w:ă}{K:aq}{mg:bw}{base:aV}
def ir.AN{x a:Str}{st:Ā}{f:ai}{h:Ĥ}{N g:ah}{k:Nat}{sp:Sp}(F:ir K x a st f h)(S:bS N g `aT)(len:∀vs H Q E,sp vs H Q E->↑vs=↑g)(b:∀(bH:ao)(A:ĉ)(outer:cH)(s:aj)(H:Hp)(vs:ay)(Q:VK)(E:XK),bA k (A.deeper<|Ę a (bD st) ⇑s f bH)->sp vs H Q E->
   ∃t,fR (kc `bc P w K mg base N a `aT f bH A outer s H E) `bw t/\t { nx:=λ_ i=>Q .aT i,rt:=Q } `aX H):aJ P w K mg base `bc (k+1) f h g sp:=by
 let#[oc,od,kV,doc,pm,an,bH,ct,osl,rfl,l,d]:=F.ex;show IY l d S len λA outer s H vs Q E j e=>b bH A outer s H vs Q E j e
end
section
variable{X:Cx}
abbrev j9(CX:fP)(X:Cx)(j:St)(E:XK):Prop:=∀(aa:aX)(H:Hp)(s:aj)(e:ao)(a:aj),ax X aa j H s->CX X.stack H s E e a->X.xe e a
abbrev CI(sp:Sp)(a:ay)(R:St->XK)(t:TA):TE:=λj H Q=>t j H λvs b=>sp (vs++a) b Q<|R j
variable{CX:fP}{k:Nat}{f:ai}{fd:Ĥ}{ps:ah}{sp:Sp}{dvs:ay}{ds:aN}{x:Str}{p pos:Pos}{e:ę}{es:bN}{t:TA}
def zd(F:aJ X.prog X.w X.K X.mg X.base CX k f fd ps sp)(g:bA k X.A)(b:Binds X.K fd ps ds)(hd:aH dvs ds)(i:j9 CX X j E)(I:ax X aa j H s)(r:aH vs us)(h:sp (vs++dvs) H Q E):Ý `aa X.A (call `aq us) `ap X.xe s:=by
 have r2:=r.append hd;have d:(us++ds).length=↑ps:=↑r2 ▸ F.len _ _ _ _ h;show Zs<|ŷ (F.run X.A X.stack s H #[us,[]] (us++ds) (vs++dvs) Q E g I.mH (b s us I.eO d) r2 h) λr l a=>?_
 match r,a with
 |.error e,a=>show i aa H s e l I a
 |.ok (.ret u),a=>show I.after a
 |.ok .next,a=>show a.elim
 |.ok .brk,a=>show a.elim
 |.ok .cont,a=>show a.elim
def RP{R:St->XK}(F:aJ X.prog X.w X.K X.mg X.base CX k f fd ps sp)(n:bA k X.A)(l:Gl X x)(hm:X.mg x=À `aq)(m:ź X.K `aq=Â)(i:Binds X.K fd ps ds)(hd:aH dvs ds)(o:∀j,j9 CX X j<|R j)(g:PA X (e::es) t)(a: ~~~(dZ x))(he:do d0 e es X.env)(hpl:do fS pos es X.env):PE X (.Call `aL (e::es) [] pos) (CI sp dvs R t):=by
 intro aa s j H Q I h;show ġ<|nG I l hm ?_ a;show ZX (h₀:=X.base) I.ok.mod.mJ m (bq `aJ λus v b=>by let#[vs,u,d,r,q]:=b;show#[d.eO,zd F n i hd (o j) d r q]) he hpl
nonrec abbrev Cx.c7(X:Cx)(pn:aX)(xe:ao->aj->Prop):Cx:={ X with pn:=pn,xe:=xe }
def Cx.Ok.c7(ok:X.Ok)(pn:aX)(xe:ao->aj->Prop):(X.c7 pn xe).Ok:=
 #[ok.mod,ok.kind,ok.glob,ok.blt,ok.above,ok.inj,ok.has,ok.nK,ok.hd,ok.frames,ok.pO,ok.pz,ok.bs,ok.ko,ok.ik,ok.ib,ok.dN,ok.lS]
def ax.tP(I:ax X aa j H s)(xe:ao->aj->Prop):ax (X.c7 (X.pn++aa) xe) [] j H s:=
 #[I.ok.c7 _ xe,I.os,I.bare,I.base,I.loc,I.cell,I.free,I.b4,by rw[Ą];show I.pin,I.aR,I.len]
def ax.jE(ok:X.Ok)(I:ax (X.c7 (X.pn++aa) xe) more j H s):ax X aa j H s:=
 #[ok,I.os,I.bare,I.base,I.loc,I.cell,I.free,I.b4,λp a=>I.pin p<|ş _ a,I.aR,I.len]
nonrec abbrev Cx.bT(X:Cx)(v:ao):Cx:={ X with A:=X.A.mark<|À v,calm:=É,xe:=λ_ _=>False }
def ax.bT(I:ax X aa j H s)(v:ao):ax `dX aa j H s:=
 #[#[I.ok.mod,I.ok.kind,I.ok.glob,I.ok.blt,I.ok.above,I.ok.inj,I.ok.has,I.ok.nK,λz=>Bool.noConfusion z,I.ok.frames,I.ok.pO,I.ok.pz,I.ok.bs,I.ok.ko,I.ok.ik,I.ok.ib,I.ok.dN,I.ok.lS],
  I.os,I.bare,I.base,I.loc,I.cell,I.free,I.b4,I.pin,I.aR,I.len]
def ax.jb(ok:X.Ok)(I:ax `dX aa j H s):ax X aa j H s:=
 #[ok,I.os,I.bare,I.base,I.loc,I.cell,I.free,I.b4,I.pin,I.aR,I.len]
def SP.imp(q:SP Y pins' D fl s)(h:∀j H,ax Y pins' j H s->ax X aa j H s):SP X aa D fl s:=by
 cases fl with
 |next=>let#[b,a,I,q]:=q;show#[b,a,h _ _ I,q]
 |brk=>let#[b,a,I,q]:=q;show#[b,a,h _ _ I,q]
 |cont=>let#[b,a,I,q]:=q;show#[b,a,h _ _ I,q]
 |ret u=>let#[v,b,a,I,r,q]:=q;show#[v,b,a,h _ _ I,r,q]
abbrev Br(K:aq)(C:ai)(b:TS)(D:iR):St->XK:=λj a _ H=>W.exmOne K a `ai=À Â/\b D j H
abbrev DQ(K:aq)(C:ai)(tb:(St->XK)->TS)(a:TS):TS:=λD j H=>tb (Br K C a D) D j H
def Xa{tb:(St->XK)->TS}(hs:X.stack=X.env::X.outer)(hf:X.env.frame=À X.env.locals)(hg:Gl X x)(hm:X.mg x=À `ai)(d:∀(pn:aX)(xe:ao->aj->Prop)(R:St->XK),(∀j,j9 `aB `bi j<|R j)->fR `bi body (tb R))(hh:∀v:Ϛ,fR `dX (g::suite) th)(ε: ~~~(dZ x)):
  PS X (.Try body [.ExceptHandler (À<|.Name x np) È (g::suite) hpos] [] [] pos) (DQ X.K C tb th):=by
 intro aa s j H D I h;show wpAny_Try_except ?_;have G:∀n,j9 `aB (X.c7 (X.pn++aa) λe O=>Ý `aa X.A (af5 e X.env) (λ_ Q=>Ý `aa X.A (setFlight e È)
   (λ_ U=>Ý `aa X.A (handleBy e X.env [.ExceptHandler (À<|.Name x np) È (g::suite) hpos]) `dz X.xe U) X.xe Q) X.xe O) n (Br X.K C th D n):=by
  intro n μ H1 s1 e r I1 hc;let#[y,α,_,H2,rfl,os,bare,un,aR,l,E,ι]:=hc;have J1:ax X aa n H1 s1:=ax.jE I.ok I1;have J2:ax X aa n H2 r:=J1.eM (ch:=[]) os un aR bare (λb z=>ao8 z<|by simp);let#[T,a0,δ,hT,κ]:=l.lp;have ζ:∀env∈X.env::X.outer,∀a,env.frame=À a->a∈y::T::cE X.stack:=λenv he a hf=>.tail _ (.tail _ (by rw[hs];show vK env he a hf))
  have β:Heap.FlyingW (Ű r.heap (y::T::cE X.stack)) (X.env::X.outer) y α a0 r.heap:=
   #[λb o q=>ZZ _ q,Ϟ _<|.head _,ZJ (hs ▸ J2.stack) ζ,κ _<|.tail _<|.head _]
  have after:∀B:Heap,(Ű r.heap (y::T::cE X.stack)).StaysIn B->r.heap.UpToSlots B->ax X aa n H2 { r with heap:=B }:=λB k sm=>by
   let#[u,ok,_]:=HD (fs:=cE X.stack) (fr:=cE X.stack) (bad:=[y,T]) un aR (λb d=>by
    rcases æ.mp d with z |d
    .show .inl (by rw[z];show .head _)
    .rcases æ.mp d with z |d
     .show .inl (by rw[z];show .tail _ (.head _))
     .show .inr d) (λb d=>by
    rcases æ.mp d with z |d
    .rw[z];show#[l.1,l.2.1]
    .have z:b=T:=by simpa using d
     rw[z];show#[δ,hT]) (λb d=>#[.inl d,(J2.EE b d).2]) (λ_ d=>d) k sm
   show J1.eM (s':={ r with heap:=B }) (ch:=[]) os u ok bare (λb z=>ao8 z<|by simp)
  show wpAny_looks_onW (by rw[I.ok.frames,hs]) hf β λh4 m L=>?_
  show wpAny_landsW m λh5 i N=>?_
  have J5:=after h5 i.1<|L.trans N;show wpAny_handleBy_cons (codeAny_handlers_test ?_) (by intro q;cases q);have M5:=J5.bT<|.ref y;show nG (X:=X.bT<|.ref y) M5 hg hm ?_ ε;let#[ob,η,θ]:=i.there;subst θ;show (W.exm_one (M:=Þ X.prog X.w) J5.eO ((W.Looks.ld η).andThen .now) E).here ?_;show codeAny_handlers_suite<|lands_againW i λh6 γ ν=>?_;have J6:=(after h6 γ.1<|(L.trans N).trans ν).bT<|.ref y;show ą (hh (.ref y) aa _ n H2 D J6 ι) (λfl s7 q=>q.imp λj H J=>ax.jb I.ok J) λ_ _ z=>z.elim
 show ą (d _ _ _ G [] s j H D (I.tP _) h) (λfl s1 q=>?_) λ_ _ z=>z
 have Y:SP X aa D fl s1:=q.imp λj H J=>ax.jE I.ok J
 cases fl with
 |next=>show Λ Y
 |brk=>show Y
 |cont=>show Y
 |ret u=>show Y
end
end L2
namespace L2
open PySem PySem.Spec PyProof.Rows PySem.W Builtin Builtin.ObjectAttr Builtin.Getset_descriptor
abbrev LQ(x C:ai)(h:aV):Prop:=∃o,h.get? x=À o/\o.cls=.ref C
abbrev yO(x C:ai)(d:b9):HO:=.ext λh=>LQ x C h/\Cn d x h
end L2
namespace L2
open PySem PySem.Spec PyProof.Rows
def Xb:ot `bc X E0:=λ_ _ _ _ _ _ _ a=>by let#[_,_,_,_,_,_,_,_,_,_,h]:=a;show h.elim
end L2
namespace Vc
open PySem L2 Sf
def Le.exc(e:Le F F')(h:Rd F a (yO a B o)):Rd F' a (yO a B o):=e _ _ (by intro o w z;cases z) h
end Vc
namespace L2
open PySem PySem.Spec PyProof.Rows
abbrev uh(K:aq)(a:ai):It:=
 #[λi H=>∃b x,bE K H a b/\b[i]?=À x,λi H y d=>∃p x,y=.ref p/\H p=È/\(∀b,bE K H a b->b[i]?=À x)/\d=aQ H p (.aL [.int i,x]),λi H=>∃b,bE K H a b/\↑b<=i]
def ax.jC{s:aj}(I:ax X aa j H s)(k:∀c o,c≠a->c≠b->s.heap.get? c=À o->h'.get? c=À o)(y:hU X aa H a)(A:hU X aa H b)(D:∃o,h'.get? a=À o)(eb:∃o,h'.get? b=À o):ax X aa j H { s with heap:=h',toks:=t' }:=by
 ∎;let#[g,i,B,l,m,p]:=y;let#[h,r,C,v,w,x]:=A;∎;show I.eM (s':={ s with heap:=h',toks:=t' }) (ch:=[a,b]) rfl #[λc o e _ _ f=>?_,λc o e _ _ f=>#[o.slots,?_],λ_ _ _ n _=>n,λc o e f=>#[o,?_],λ_ _ q=>q,λ_ _ _ q=>q,λ_ E q=>#[([].toArray),by rw[q];simp]] (λc u e=>?_) I.bare<|λc f=>?_
 .show k c o (λz=>f<|by simp[z]) (λz=>f<|by simp[z]) e
 .show k c o (λz=>f<|by simp[z]) (λz=>f<|by simp[z]) e
 .show k c o (λz=>f<|by simp[z]) (λz=>f<|by simp[z]) e
 .show (I.aR c u e).e6 (λd o hd q=>k d o ?_ ?_ q) (λ_ q=>q) λ_ _ q=>q
  .rintro rfl;rcases hd with z |z
   .rw[<- z,g] at e;cases e
   .rw[g] at z;cases z
  .rintro rfl;rcases hd with z |z
   .rw[<- z,h] at e;cases e
   .rw[h] at z;cases z
 .rcases æ.mp f with z |f
  .rw[z];show#[l,i,m,p]
  .have z:c=b:=by simpa using f
   rw[z];show#[v,r,w,x]
def Pq{P:ð}{w:ă}{K:aq}{elts:bN}{x1:Nat}{pos:Pos}(a it n:ai)(y:n≠it):
  lG P w K `as `dY [n,it] n (λi h=>(∃g,IsEnum h n it i g)/\h.IsListIter it a i) where
 mem:=by simp
 obj:=λi h st b l=>by
  let#[#[g,O],o,Q,c,d]:=st;rcases æ.mp l with z |l
  .rw[z];show#[_,O,λv z=>by cases z]
  .have z:b=it:=by simpa using l
   rw[z];show#[o,Q,λv z=>by rw[d] at z;cases z]
 keep:=λi h h' st k=>by
  let#[#[g,O],Q]:=st;show#[#[g,k n ∅ _ O],Q.at λo e=>k it ∅ o e]
 item:=by
  intro X Y hw U hc i aa s j H E I M st hg;subst Y hw U;∎;let#[#[g,A],r]:=st;let#[xs,x,m,hx]:=hg;let#[δ,rv,p,hz]:=I.list m;let#[u,hu,ru]:=rv.get hx;∎;have fe:=M n ∅;have fi:=M it ∅;show wpAny_pyNext_enum_item A r p.isList (x:=u) (by simpa using hu) y λh' G C hT ε hk=>?_
  show#[.ref ⇑s,rfl,ak4 G λh2 B hs=>?_];have le:n<⇑s:=Ð A;have li:it<⇑s:=let ⟨o,e,_⟩:=r;Ð e;have β:H ⇑s=È:=I.aR.fresh<|Ï _;have J:n≠⇑s:=ì le;have L:it≠⇑s:=ì li;have I1:=I.laid (a:=⇑s) (o:=.aL [.int i,x]) (h':=s.heap.push { cls:=.type "tuple",data:=.seq ([.int i s.toks,u].toArray) }) (t':=s.toks) (λb q m=>Ä _ m) (Ï _)
   #[by change 2<=Ô;decide,[.int i s.toks,u],.cons #[_,rfl]<|.cons ru .nil,#[_,Ø _ rfl,rfl,_,rfl]]
  have up:∀{b:ai},b≠⇑s->hU X aa H b->hU X aa (aQ H ⇑s (.aL [.int i,x])) b:=λl f=>#[by rw[a6 l];show f.1,f.2]
  have γ:∀b q,b≠n->b≠it->(s.heap.push { cls:=.type "tuple",data:=.seq ([.int i s.toks,u].toArray) }).get? b=À q->h2.get? b=À q:=λb q h1 h3 m=>by
   show hs.extBut b q h1 ?_;rcases ϭ m with⟨α,eq⟩ |m
   .subst α;subst eq;show hT
   .show hk b q h1 h3 m
  let#[N,ei,ci,di]:=C;have D:h2.IsListIter it a (i+1):=#[N,hs.extBut it N (Ć y) ei,ci,di];show#[.ref ⇑s,aQ H ⇑s (.aL [.int i,x]),?_,rfl,#[_,x,rfl,β,λys hy=>by rw[I.dA hy m];show hx,rfl],#[#[_,B],D],λb l=>?_]
  .show ax.jC (s:={ s with heap:=s.heap.push { cls:=.type "tuple",data:=.seq ([.int i s.toks,u].toArray) },toks:=s.toks }) (t':=s.toks+1) I1 γ (up J fe) (up L fi) #[_,B] #[N,hs.extBut it N (Ć y) ei]
  .rcases æ.mp l with z |l
   .rw[z,a6 J];show fe.1
   .have z:b=it:=by simpa using l
    rw[z,a6 L];show fi.1
 done:=by
  intro X Y hw U hc i aa s j H E I M st hg;subst Y hw U;∎;let#[#[g,A],r]:=st;let#[xs,m,hx]:=hg;let#[δ,rv,p,hz]:=I.list m;∎;have hl:=↑rv;let#[f0,f1,f2,f3,f4,f5]:=M it ∅;show wpAny_pyNext_enum_end `cl A r p.isList (by simp;omega) λh' eb=>#[rfl,I.turned (t':=s.toks) (λb o l e=>eb b o l e) f0 f1 f3 f4 f5]
 self:=λ_ _ _ _ _ st h=>let ⟨⟨_,A⟩,_⟩:=st;ZG A h
section
variable{X:Cx}
abbrev Dg(K:aq)(d:TA):TI:=λj H R=>d j H λvs b=>∃a,vs=[.ref a]/\(∃e,bE K b a e)/\R `dY b
def VI{l:ę}{v:TA}{elts:bN}{x1:Nat}{g p pos:Pos}(y:Gl X "enumerate")(hm:X.mg "enumerate"=È)(x:PA X [l] v)(hs:do lA l X.env):
  PI X (.Tuple elts x1 g) (.Call (.Name "enumerate" p) [l] [] pos) (Dg X.K v):=by
 intro aa s j H R I h;show Call_<|kH I y hm (u:=.type "enumerate") rfl<|ø (bq (x pos aa s j H _ I h) λus d n=>?_) hs rfl;let#[vs,w,f,E,a,e,#[N,B],q]:=n;subst e;cases E with
 |cons r G=>
  cases G;cases r;let#[D,M,p,L]:=f.list B;show call_enumerate_list p.isList λJ o m C A=>ZG o ?_
  have ne:⇑d+1≠⇑d:=⋯
  show#[⇑d+1,[⇑d+1,⇑d],_,_,w,rfl,f.kept (t':=d.toks) A,Pq a _ _ ne,#[#[_,o],m],λb i=>?_,q];rcases æ.mp i with z |i
  .rw[z];show f.fB ⋯ (f.aR.fresh ⋯)
  .have z:b=⇑d:=by simpa using i
   rw[z];show f.fB (Ï _)<|f.aR.fresh<|Ï _
end
def EI:∀{bs:List Bool}{us:aN},aH `cY us->us=bs.map aa6
 |[],_,.nil=>rfl
 |b::r,_,.cons h t=>by
  have e:=EI (bs:=r) t;subst e;cases h;rfl
def Pr(bs:List Bool):(Ç ↑bs).any (λi=>bs.getD i É)=bs.any id:=by
 rw[ų,ů,ů];constructor
 .rintro⟨i,a,h⟩;rw[ī] at a;show#[bs[i],Ϲ a,?_];rw[Ã,Ì a] at h;show h
 .rintro⟨b,hb,h⟩;let#[i,a,rfl]:=List.getElem_of_mem hb;show#[i,ī.mpr a,?_];rw[Ã,Ì a];show h
def NM(bs:List Bool):TruthOf prog w A (λi v=>(bs.map aa6).toArray[i]?=À v) (λi=>bs.getD i É):=by
 intro i v s Q E a d;simp only[aj2,Ê] at a;cases q:bs[i]? with
 |none=>rw[q] at a;cases a
 |some b=>
  rw[q] at a;cases a;have d:Q (bs.getD i É) s:=d;rw[Ã,q] at d;show Ü d
section
variable{X:Cx}
def Pt(f:X.calm=Â):bQ X (.builtin "any") (λxs H Q=>∃(a:ai)(bs:List Bool),xs=[.ref a]/\bE X.K H a `cY/\Q (.bl<|bs.any id) H):=by
 intro aa s j H xs us Q I r h;∎;let#[a,bs,rfl,i,q]:=h;let#[u,rfl,n]:=jM r;∎;cases n;let#[l,v,p,x]:=I.list i;obtain rfl:=EI v;have d:=p.isList;have m:a<⇑s:=(let ⟨_,e,_⟩:=d;Ð e);show call_any_walk<|Ϫ d ?_;show#[⇑s,_,_,_,_,_,_,rfl,Walks.list (by show I.ok.hd f) _ a (ì m) _,#[#[_,Ø _ rfl,rfl,rfl],(let ⟨o,e,c⟩:=d;#[o,Ä _ e,c])],NM bs,λw y g=>?_];show#[.bl<|bs.any id,H,I.kept λb o e=>g b o (λz=>ao8 (Ð e) (by rw[show b=⇑s from by simpa using z];show ĺ _))<|Ä _ e,?_,q];rw[<- Pr];change _=_;simp
end
abbrev w9(b:aW×V->V)(a:ai)(ob:Obj)(kvs:bL):It:=
 #[λi H=>i<↑kvs/\H a=À (.aB ob<|.dK kvs),λi H x e=>e=H/\∃d,kvs[i]?=À d/\x=b d,λi H=>↑kvs<=i/\H a=À (.aB ob<|.dK kvs)]
nonrec abbrev vi:aW×V->V:=λkv=>kV kv.1
def HE{H:Hp}(I:ax X aa j H s)(o:H a=À (.aB ob<|.dK kvs))(hd:ob.data=.dict es ep):
  ∃vs,KV kvs vs/\s.heap.DictAt `aK a vs ep/\↑kvs=↑vs:=by
 let#[e,z,y,vs,r,p,n,m,b,f,d,g,h,i]:=(show bp X.prog X.w H s.heap a (.aB ob<|.dK kvs) from I.aR a _ o);have l:ob=p:=Ù<|e.symm.trans b;subst l;rw[hd] at d;cases d;show#[vs,r,#[ob,es,e,f,hd,g,h,i],KV.length r]
def Pw{P:ð}{w:ă}{K:aq}{tg:ę}(a it:ai)(ob:Obj)(kvs:bL):
  lG P w K tg (w9 vi a ob kvs) [it] it (λi h=>∃l ep,ob.data=.dict l ep/\h.IsKeyIter it a i ↑kvs ep) where
 mem:=by simp
 obj:=λi h st b m=>by
  let#[l,ep,hd,o,e,c,d]:=st;rw[show b=it from by simpa using m];show#[o,e,λv z=>by rw[d] at z;cases z]
 keep:=λi h x st k=>by
  let#[l,ep,hd,o,e,c,d]:=st;show#[l,ep,hd,o,k it ∅ o e,c,d]
 item:=by
  intro X N Q M Y i aa s j H E I y st O;subst N Q M;∎;let#[l,ep,hd,f]:=st;let#[hi,L]:=O;let#[vs,r,hm,A]:=HE I L hd;∎;obtain⟨⟨k,v⟩,p⟩:∃q,kvs[i]?=À q:=#[kvs[i],by simp[hi]];let#[u,hu,ru]:=r.at p;rw[A] at f;let#[B,C,f2,D,G,J]:=y it ∅;show wpAny_pyNext_dict_item f hm hu λU x n g sb=>?_
  have I1:ax X aa j H { s with heap:=x }:=I.turned (t':=s.toks) (λb o m e=>(sb.2 b m).trans e) B C D G J;let#[o,e,c,d]:=id g;show#[U,rfl,wH (s:={ s with heap:=x }) e c d ∎ #[kV k,H,I1,yX n,#[rfl,_,p,rfl],#[l,ep,hd,by rw[A];show g],λb m=>(y b m).1]]
 done:=by
  intro X N Q M Y i aa s j H E I y st O;subst N Q M;∎;let#[l,ep,hd,f]:=st;let#[hi,L]:=O;let#[vs,r,hm,A]:=HE I L hd;∎;rw[A] at f;let#[B,C,f2,D,G,J]:=y it ∅;show wpAny_pyNext_dict_end (I.ok.hd Y) f hm (by simp;omega) λx eb=>#[rfl,I.turned (t':=s.toks) (λb o m e=>eb b o m e) B C D G J]
 self:=λ_ _ _ _ _ st h=>let ⟨_,_,_,f⟩:=st;wpAny_pyIter_keyiter f h
section
variable{X:Cx}
abbrev zM(d:aW×V->V)(X:Cx)(g:TE):TI:=λj H R=>g j H λx e=>∃a b,x=.ref a/\e a=À (.dK b)/\∀f,(∀o u,X.H₀ a≠À `aG)->R (w9 d a f b) (aQ e a<|.aB f<|.dK b)
def VJ(J:PE X o td):PI X tg o (zM vi X td):=by
 intro aa s j H R I h;show bq `dT λv i w=>?_
 let#[x,B,g,M,a,d,ex,l,q]:=w;subst ex;obtain rfl:v=å a:=M;∎;let#[N,O,hd]:=v7 g<|.inl #[d,.inl l];let#[z,y,vs,r,dd]:=wI g.aR l;∎;have n:∀o u,X.H₀ a≠À `aG:=λo u z=>by
  have:=g.base.bf a o u z;rw[l] at this;cases this
 let#[A,f]:=dd.dictAt;show wpAny_pyIter_dict hd f ?_;let#[m,p,C]:=(g.kept (t':=i.toks) (h':=i.heap.push { cls:=.type "dict_keyiterator",data:=.fields ([.ref a,.int 0 0,.int ↑vs 0,.int A 0].toArray) }) λb o e=>Ä _ e).freeze l;have L:a<⇑i:=f.lt_size;have G:↑d=↑vs:=KV.length r;show#[_,[_],_,_,aQ B a<|.aB m<|.dK d,rfl,C,Pw a ⇑i m d,?_,λb E=>?_,q m n]
 .obtain⟨o2,es,ho2,c1,c2,_⟩:=f;have D:m=o2:=Ù<|p.symm.trans<|Ä _ ho2;subst D;show#[es,A,c2,by rw[G];show#[_,Ø _ rfl,rfl,rfl]]
 .have e:b=⇑i:=by simpa using E
  subst e;show g.fB (Ï _) (by rw[a6<|ϖ L];show g.aR.fresh<|Ï _)
abbrev xt(X:Cx)(t:TE):TE:=λj H Q=>t j H λv=>qp X<|Q v
def VL(h:PE X e t):PE X e (xt X t):=by
 intro aa s j H Q I q;show bq (h aa s j H _ I q) λu m b=>?_
 let#[v,i,d,g,a,l,f,e,hn,r]:=b;show#[v,_,d.fX e hn,g,r]
end
section
variable{g:TG}{ti:TT}{te:TE}{ix:bJ}{σ:St}{Q:VK}
def VM{h:aW×V->V}(Pv:Nat->ay->Hp->Prop)(r:Pv 0 [] H1)(m:∀i d H,i<=↑kvs->Pv i d H->H a=À (.aB ob<|.dK kvs))(hs:∀i k v d H,kvs[i]?=À (k,v)->Pv i d H->g (h (k,v)) `bm H λf o=>Wk `bm f/\ti f o λb l=>if b=Â then te f l λv q=>↑d<Ô/\Pv (i+1) (d++[v]) q else Pv (i+1) d l)(hd:∀d H,Pv ↑kvs d H->↑d<=Ô/\∀p,H p=È->Q `ak (aQ H p<|.ag d)):Df (w9 h a ob kvs) g ti te ix σ Q H1:=by
 show Jd (n:=↑kvs) Pv r (λi d H j p=>#[j,m i d H (ń j) p]) (λd H p=>#[Ï _,m _ d H (Ï _) p]) (λi x d H u j p y=>?_) hd;let#[rfl,#[k,v],e,rfl]:=y;show hs i k v d _ e p
end
def ax.jD{X:Cx}{aa:aX}{j:St}{H:Hp}{s:aj}{h':aV}{t':Nat}{ch:cJ}(I:ax X aa j H s)(k:∀c o,c ∉ ch->s.heap.get? c=À o->h'.get? c=À o)(g:∀b∈ch,hU X aa H b):ax X aa j H { s with heap:=h',toks:=t' }:=by
 show I.eM (s':={ s with heap:=h',toks:=t' }) (ch:=ch) rfl #[λc o e _ _ a=>k c o a e,λc o e _ _ a=>#[o.slots,k c o a e],λ_ _ _ n _=>n,λc o e a=>#[o,k c o a e],λ_ _ q=>q,λ_ _ _ q=>q,λ_ h q=>#[([].toArray),by rw[q];simp]] (λc u e=>?_) I.bare<|λc a=>?_
 .show (I.aR c u e).e6 (λd o hd q=>k d o (λhm=>?_) q) (λ_ q=>q) λ_ _ q=>q
  have f:=(g d hm).1;rcases hd with z |z
  .rw[<- z,f] at e;cases e
  .rw[f] at z;cases z
 .obtain⟨a0,a1,a2,a3,a4,a5⟩:=g c a;show#[a3,a1,a4,a5]
abbrev uk(K:aq)(a b:ai):It:=
 #[λi H=>∃d e x y,bE K H a d/\bE K H b e/\d[i]?=À x/\e[i]?=À y,
  λi H v f=>∃p x y,v=.ref p/\H p=È/\(∀d,bE K H a d->d[i]?=À x)/\(∀e,bE K H b e->e[i]?=À y)/\f=aQ H p (.aL [x,y]),
  λi H=>∃d e,bE K H a d/\bE K H b e/\(↑d<=i\/↑e<=i)]
def RQ{P:ð}{w:ă}{K:aq}{elts:bN}{x1:Nat}{pos:Pos}{a b z TI TO l m:ai}(D:ZipApart z TI TO l m a b):
  lG P w K `as `ek [z,TI,TO,l,m] z (λi h=>IsZip h z TI TO .none/\IsPair h TI `cq (.ref m)/\(∃c d,IsPair h TO c d)/\h.IsListIter l a i/\h.IsListIter m b i) where
 mem:=by simp
 obj:=λi h st c f=>by
  let#[B,r,#[u,v,C],#[o4,G,c4,d4],#[o5,J,c5,d5]]:=st;simp only[æ,Zw,or_false] at f;rcases f with rfl |rfl |rfl |rfl |rfl
  .show#[_,B,λv z=>by cases z]
  .show#[_,r,λv z=>by cases z]
  .show#[_,C,λv z=>by cases z]
  .show#[o4,G,λv z=>by rw[d4] at z;cases z]
  .show#[o5,J,λv z=>by rw[d5] at z;cases z]
 keep:=λi h h' st k=>by
  let#[B,r,#[u,v,C],G,J]:=st;show#[k z ∅ _ B,k TI ∅ _ r,#[u,v,k TO ∅ _ C],G.at λo e=>k l ∅ o e,J.at λo e=>k m ∅ o e]
 item:=by
  intro X hP hw hK f i aa s j H E I O st hg;subst hP hw hK;∎;let#[B,r,#[c,d,C],G,J]:=st;let#[xs,ys,x,y,n,A,hx,hy]:=hg;let#[ι,rv,p,hz]:=I.list n;let#[U,L,p',η]:=I.list A;let#[u,hu,ru]:=rv.get hx;let#[M,ε,κ]:=L.get hy;∎;show wpAny_pyNext_zip_item D B r C G J p.isList p'.isList (x:=u) (y:=M) (by simpa using hu) (by simpa using ε) λh' g1 g2 g3 g4 hT μ Y=>?_
  show#[.ref ⇑s,rfl,wpAny_letOwnedTupleGo_zip g1 λN θ Q=>?_];have β:H ⇑s=È:=I.aR.fresh<|Ï _;have lt:∀{c o},s.heap.get? c=À o->c≠⇑s:=λe=>ì<|Ð e
  have ne:∀c∈[z,TI,TO,l,m],c≠⇑s:=λc f=>by
   simp only[æ,Zw,or_false] at f;rcases f with rfl |rfl |rfl |rfl |rfl
   .show lt B
   .show lt r
   .show lt C
   .obtain⟨o,e,_⟩:=G;show lt e
   .obtain⟨o,e,_⟩:=J;show lt e
  have I1:=I.laid (a:=⇑s) (o:=.aL [x,y]) (h':=s.heap.push { cls:=.type "tuple",data:=.seq ([u,M].toArray) }) (t':=s.toks) (λb q n=>Ä _ n) (Ï _)
   #[by change 2<=Ô;decide,[u,M],.cons ru<|.cons κ .nil,#[_,Ø _ rfl,rfl,_,rfl]]
  have γ:∀c q,c ∉ [z,TI,TO,l,m]->(s.heap.push { cls:=.type "tuple",data:=.seq ([u,M].toArray) }).get? c=À q->N.get? c=À q:=λc q f n=>by
   show Q.extBut c q (λg=>f<|by simp[g]) ?_;rcases ϭ n with⟨α,eq⟩ |n
   .subst α;subst eq;show hT
   .show Y c q (λg=>f<|by simp[g]) (λg=>f<|by simp[g]) (λg=>f<|by simp[g]) (λg=>f<|by simp[g]) n
  have t2:IsPair N TI `cq (.ref m):=Q.extBut TI _ D.TIz<|Y TI _ D.TIz D.TITO D.TIi1 D.TIi2 r;have t3:IsPair N TO u M:=Q.extBut TO _ D.TOz g2;have t4:N.IsListIter l a (i+1):=g3.at λo e=>Q.extBut l o D.i1z e
  have t5:N.IsListIter m b (i+1):=g4.at λo e=>Q.extBut m o D.i2z e
  show#[.ref ⇑s,aQ H ⇑s (.aL [x,y]),?_,rfl,#[_,x,y,rfl,β,λys hy=>by rw[I.dA hy n];show hx,λys ζ=>by rw[I.dA ζ A];show hy,rfl],#[θ,t2,#[_,_,t3],t4,t5],λc f=>?_]
  .show ax.jD (s:={ s with heap:=s.heap.push { cls:=.type "tuple",data:=.seq ([u,M].toArray) },toks:=s.toks }) (t':=s.toks) I1 γ λc f=>#[by rw[a6<|ne c f];show (O c f).1,(O c f).2]
  .rw[a6<|ne c f];show (O c f).1
 done:=by
  intro X hP hw hK f i aa s j H E I O st hg;subst hP hw hK;∎;let#[B,r,#[c,d,C],G,J]:=st;let#[xs,ys,n,A,δ]:=hg;let#[ι,rv,p,hz]:=I.list n;let#[U,L,p',η]:=I.list A;∎;have l1:=↑rv;have l2:=↑L;show wpAny_pyNext_zip_end (I.ok.hd f) D B r C G J p.isList p'.isList (δ.imp (λh=>by simp;omega) λh=>by simp;omega) λh' Y=>#[rfl,I.jD (t':=s.toks) (ch:=[z,TI,TO,l,m]) (λc o f e=>?_) O]
  show Y c o (λg=>f<|by simp[g]) (λg=>f<|by simp[g]) (λg=>f<|by simp[g]) (λg=>f<|by simp[g]) e
 self:=λ_ _ _ _ _ st h=>wpAny_pyIter_zip st.1 h
section
variable{X:Cx}
abbrev DR(K:aq)(e:TA):TI:=λj H R=>e j H λvs d=>∃a b,vs=[.ref a,.ref b]/\(∃f,bE K d a f)/\(∃g,bE K d b g)/\R `ek d
def Xc{l m:ę}{D:TA}{elts:bN}{x1:Nat}{i p pos:Pos}(Q:Gl X "zip")(hm:X.mg "zip"=È)(O:PA X [l,m] D)(hs:do p9 l m X.env)(g:do lA m X.env):PI X (.Tuple elts x1 i) (.Call (.Name "zip" p) [l,m] [] pos) (DR X.K D):=by
 intro aa s j H R I h;show Call_ (kH I Q hm (u:=.type "zip") rfl (ø (bq (O pos aa s j H _ I h) λus d v=>?_) (by rw[hs,g]) (by rw[g];rfl)));let#[vs,G,f,r1,a,b,e,#[xs,Y],#[ys,n],q]:=v;subst e;cases r1 with
 |cons r o=>
  cases o with
  |cons r' o=>
   cases o;cases r;cases r';∎;let#[γ,rv,p,hz]:=f.list Y;let#[B,δ,C,β]:=f.list n;∎;have la:a<⇑d:=let ⟨_,e,_⟩:=p.isList;Ð e;have lb:b<⇑d:=let ⟨_,e,_⟩:=C.isList;Ð e;show call_zip_2 p.isList C.isList λh' w J L M N α U=>wpAny_pyIter_zip w ?_
   have E:ZipApart (⇑d+4) (⇑d+2) (⇑d+3) ⇑d (⇑d+1) a b:=by
    have lt:∀{x y:Nat},x<y->x≠y:=λh=>ì h
    have gt:∀{x y:Nat},y<x->x≠y:=λh=>ϖ h
    constructor<;>first |show lt ⋯ |show gt ⋯ |show lt (Ö la ⋯) |show lt<|Ö lb ⋯
   show#[⇑d+4,[⇑d+4,⇑d+2,⇑d+3,⇑d,⇑d+1],_,_,G,rfl,f.kept (t':=d.toks) U,RQ E,#[w,J,#[_,_,L],M,N],λc A=>?_,q];have z:⇑d<=c:=by
    simp only[æ,Zw,or_false] at A;rcases A with rfl |rfl |rfl |rfl |rfl
    .show Ϥ _ _
    .show Ϥ _ _
    .show Ϥ _ _
    .show Ï _
    .show Ϥ _ _
   show f.fB z<|f.aR.fresh z
end
end L2
namespace Vc
open PySem L2 Sf
section
variable{X:Cx}{aa:aX}{σ:St}{H:Hp}{s:aj}{Au:ĉ}
def VN(I:ax X aa σ H s)(d:bE X.K H a xs)(f:bE X.K H b ys)(q:Au.units<Ĭ)(E:↑xs=↑ys)(e:Nat->Bool)(he:∀(j:Nat) x y u v,xs[j]?=À x->ys[j]?=À y->aG x u->aG y v->Ņ Au.in1 s u v (e j)):ah3 Au s `aA `dV (!(Ç ↑xs).all e):=by
 ∎;let#[us,g,B,_]:=I.list d;let#[D,r2,C,_]:=I.list f;∎;have l1:=↑g;have l2:=↑r2;have z:=SeqAt.RcNeAt.lists (A:=Au) (e:=e) B.isList C.isList (by simp;omega) q<|λj d f=>?_
 .have e0:(Ç us.toArray.size).all e=(Ç ↑xs).all e:=by
   simp only[ã];rw[<- l1]
  rw[e0] at z;show z
 .simp only[ã] at d f;∎;let#[u,h,r]:=g.get (i:=j) (x:=xs[j]'⋯) ∅;let#[v,l,w]:=r2.get (i:=j) (x:=ys[j]'⋯) ∅;let#[_,m]:=Á.mp h;let#[_,n]:=Á.mp l;∎;have o:us.toArray[j]'(by simpa using d)=u:=by simpa using m
  have p:D.toArray[j]'(by simpa using f)=v:=by simpa using n
  rw[o,p];show he j _ _ u v ∅ ∅ r w
end
def VO{H:Hp}(h:H p=À `bB):Bn K "list" `ak H:=by
 show .inl #[rfl,xs,bE.of h]
end Vc
namespace L2
open PySem PySem.Spec PyProof.Rows
abbrev Dh:R2:=λx y H Q=>∃z n,x=.str z/\y=.int n/\↑z<=100/\0<=n/\n<=1000/\Q (.str<|Txt.mul z n) H
def Ph:cu X `cM Dh:=by
 intro aa s j H x y v u Q I b d h;∎;let#[z,n,rfl,rfl,a,f,g,q]:=h;let#[t,rfl]:=b;let#[e,rfl]:=d;∎;show SB.mul (mulOk_of 100 1000 a ⋯ ⋯ ∎ ∎) λe k=>#[.str _,H,I.tok _,#[_,rfl],q]
section
variable{X:Cx}
def Px{kvs:bL}{vs:List (aW×ao)}{us:aN}(r:KV kvs vs)(a:↑us=↑kvs)(h:∀(j:Nat) u,us[j]?=À u->∃k,vs[j]?=À (k,u)):aH (kvs.map (·.2)) us:=by
 induction kvs generalizing vs us with
 |nil=>cases us with
  |nil=>show .nil
  |cons _ _=>simp at a
 |cons p t l=>
  cases us with
  |nil=>simp at a
  |cons u us=>
   unfold KV at r;cases r with
   |cons b g=>
    rename_i q n;let#[k,e]:=h 0 u rfl;have f:q=(k,u):=by simpa using e
    show .cons (by rw[f] at b;show b.2) (l (vs:=n) g (by simpa using a) λj w i=>?_);let#[m,d]:=h (j+1) w (by simpa using i);show#[m,by simpa using d]
end
end L2
namespace Vc
open PySem L2 Sf
def jB(h:bU m x=À y):(x,y)∈m:=by
 induction m with
 |nil=>cases h
 |cons p r a=>
  by_cases e:p.1=x
  .rw[sR e] at h;cases h;subst e;show ϊ ..
  .rw[Vz e] at h;show Ğ _<|a h
def gL{j:Type}{m:List (Str×j)}{x:Str}{y:j}(h:∀p∈m,p.1≠x):pK m x y=m++[(x,y)]:=by
 unfold pK;rw[ao6];intro z;rw[ů] at z;let#[p,a,e]:=z;show h p a (by simpa using e)
abbrev r4(K:aq){j i G g:Type}(A:Rep j)(B:Rep i)(C:Rep G)(D:Rep g):Rep (j×i×G×g):=λF v x=>∃a b d e f,v=.ref a/\df K F a [b,d,e,f]/\A F b x.1/\B F d x.2.1/\C F e x.2.2.1/\D F f x.2.2.2
end Vc
namespace L2
open PySem PySem.Spec PyProof.Rows
section
variable{X:Cx}
def Py:cu X (ú .Gt) (λx y H Q=>∃i j,x=.str i/\y=.str j/\Q (.bl<|decide<|j.cps.toList<i.cps.toList) H):=by
 intro aa s G H x y v u Q I a b h;∎;let#[i,j,rfl,rfl,q]:=h;let#[t,rfl]:=a;let#[d,rfl]:=b;∎;show PySem.P.gt_str<|cQ I q rfl
end
section
variable{prog:ð}{w:ă}{A:ĉ}{E:ao->aj->Prop}{s:aj}
def Pz:ak3 (.type "list_reverseiterator") "__len__"=pure È:=by rw[typeLookup_type,builtinLookup_eq_fast];kernel_rfl
def RS:ak3 (.type "list_reverseiterator") "__length_hint__"=pure (À<|.builtin "list_reverseiterator.__length_hint__"):=by rw[typeLookup_type,builtinLookup_eq_fast];kernel_rfl
def RT{Q:Bool->aj->Prop}(a:s.TypeIs (.ref r) "list_reverseiterator")(h:Q É s):Ý `ad A (Ŋ<|.ref r) Q E s:=by
 unfold Ŋ;show Ë<|ah5 a Pz ?_;change Ý _ A (specialOf (å r) (ac4 "__length_hint__") >>= _) _ _ _;show Ë<|ah5 a RS ?_;generalize zH:("list_reverseiterator.__length_hint__":String)=i0
 wp_delta
 rw[show splitId i0=À ("list_reverseiterator","__length_hint__") from by subst zH;decide +kernel];subst zH;show Ë (wpAny_isInstance (T:="list_reverseiterator") (b:=Â) a (by rw[isSubtype_type];kernel_rfl) ?_);show aa3 (λz=>ao8 z ∎)<|λ_=>?_;show aa3 (λ_=>?_) (λz=>ao8 (by decide +kernel) z);show aa3 (λz=>ao8 z<|by decide +kernel)<|λ_=>?_;show Ü h
def PB{St:Nat->aV->Prop}{R:Result->aj->Prop}(W:Walks prog w A.in1 I fp [I] n P St)(M:I∈fp)(G:∀i (s:aj),St i s.heap->s.TypeIs `bF T)(n1:(ĳ T == ĳ "list")=É)(n2:(ĳ T == ĳ "tuple")=É)(U:∀(s:aj)(Q:Bool->aj->Prop)(E:ao->aj->Prop),s.TypeIs `bF T->Q É s->Ý `ad A.in1 (Ŋ<|.ref I) Q E s)(a:St 0 s.heap)(S:ai)(j:S ∉ fp)(g:ao)(C:Nat)(u:s.heap.get? S=À { cls:=.type "list",data:=.seq ([].toArray) C })(N:∀h' p d c,(∀b o,b≠S->b≠I->s.heap.get? b=À o->h'.get? b=À o)->h'.get? S=À { cls:=.type "list",dict:=È,data:=.seq d c,slots:=([].toArray) }->ItemsOf P d n->R (.ok<|.ret g) { s with heap:=h',toks:=p })(hn:n<=Ô):
  Ý `ad A.in1 (ň (.ref S) `bF g)
   (λr s'=>match r with |.done f=>R (.ok f) s' |.again B=>B.quiet=Â/\Ŷ `ad A B R s') (λe s'=>R `bd s') s:=by
 have y:S≠I:=λz=>j<|z ▸ M
 have m:∀(h:aV)(q p:Nat),St 0 h->(∀b o,b≠S->s.heap.get? b=À o->h.get? b=À o)->h.get? S=À { cls:=.type "list",data:=.seq ([].toArray) q }->
   Ŷ `ad A (.builtin "list.extend.loop" #[[.ref S,.ref I,g],[]]) R { s with heap:=h,toks:=p }:=by
  intro h q p st Y v;show codeAny_extend_loopS W.toS hn S j g n 0 _ ([].toArray) q rfl (Ĝ _) st v (ItemsOf.nil _) λs' d c H x l=>?_
  rw[Moved.eq_with H];show N s'.heap s'.toks d c (λb o D L e=>H.heap b o (λz=>by
   rcases æ.mp z with z |z
   .show D z
   .show L (ä.mp z))<|Y b o D e) x l
 unfold ň;show Ë<|wpAny_typeOf (G 0 s a) ?_;simp only[show ab7 (.ref S) `bF=É by simp[ab7,y],n1,n2,Bool.or_false,Δ,if_false];show Ë<|W.self 0 s _ _ a<|Ë<|ώ<|U s _ _ (G 0 s a) ?_;show aa3 (λ_=>?_)<|λ_=>Ü #[plainId_quiet PySem.F.plain_extend_loop _,m _ C _ a (λb o _ e=>e) u];show Ë<|wpAny_rule<|Ë ?_;change Ý _ _ (updateSeq S (·.push .none) >>= λ_=>updateSeq S (·.pop)) _ _ s;show Ë<|ah6 u rfl ?_;have J:=Č (Ő (·.push ŵ)) u rfl;show ah6 (hz:=by seq_fits) J rfl ?_;have q2:=Č (Ő (·.pop)) J rfl;have pJ:∀b o,b≠S->s.heap.get? b=À o->((s.heap.update S (Ő (·.push ŵ))).update S (Ő (·.pop))).get? b=À o:=λb o z e=>(ù _ _ z.symm).trans<|(ù _ _ z.symm).trans e
 show Ü #[plainId_quiet PySem.F.plain_extend_loop _,m _ _ _ (W.frame 0 _ _ a λb O o e=>pJ b o (λz=>j<|z ▸ O) e) pJ q2]
def VP{St:Nat->aV->Prop}{Q:ao->aj->Prop}(W:Walks prog w A.in1.in1 I fp [I] n P St)(r:I∈fp)(m:∀b∈fp,b<⇑s)(v:∀i (s:aj),St i s.heap->s.TypeIs `bF T)(C:(ĳ T == ĳ "list")=É)(D:(ĳ T == ĳ "tuple")=É)(y:∀(s:aj)(Q:Bool->aj->Prop)(E:ao->aj->Prop),s.TypeIs `bF T->Q É s->Ý `ad A.in1.in1 (Ŋ<|.ref I) Q E s)(p:St 0 s.heap)(hn:n<=Ô)(u:∀h' q a c,(∀b o,b≠I->s.heap.get? b=À o->h'.get? b=À o)->h'.get? ⇑s=À { cls:=.type "list",dict:=È,data:=.seq a c,slots:=([].toArray) }->ItemsOf P a n->Q `bN { s with heap:=h',toks:=q }):
  Ý `ad A (call (.type "list") [.ref I]) Q E s:=by
 show callType_codes (Q₁:=λo d=>o=.ref ⇑s/\d={ s with heap:=s.heap.push { cls:=.type "list",data:=.seq ([].toArray) } }) PySem.F.called_list (PySem.F.typeCall_list_1 _) PySem.F.entry_list_init (code_list_new _ #[rfl,rfl]) λo d h=>?_
 let#[rfl,rfl]:=h;have j:(s.heap.push { cls:=.type "list",data:=.seq ([].toArray) }).get? ⇑s=À { cls:=.type "list",data:=.seq ([].toArray) }:=Ø _ rfl;have g:⇑s ∉ fp:=λz=>ĺ _<|m _ z
 show#[#[_,j,rfl],PySem.F.args_list_init_2 _ _,?_];change Ý _ _ (do let old <- ac9 (.ref ⇑s);Builtin.List.listUpdate `bN (λ_=>([].toArray));letGo old.toList.reverse;ň `bN `bF .none) _ _ _;show Ë ?_;unfold ac9;show Ë<|wpAny_seqItems j rfl<|Ü ?_;change Ý _ _ (updateSeq ⇑s (λ_=>([].toArray)) >>= λ_=>letGo (([].toArray):cU).toList.reverse >>= λ_=>ň `bN `bF .none) _ _ _;show Ë<|ah6 j rfl ?_;have G:=Č (Ő<|λ_=>(([].toArray):cU)) j rfl;have pJ:∀b o,b≠⇑s->s.heap.get? b=À o->((s.heap.push { cls:=.type "list",data:=.seq ([].toArray) }).update ⇑s (Ő<|λ_=>(([].toArray):cU))).get? b=À o:=
  λb o z e=>(ù _ _ z.symm).trans<|Ä _ e
 show Ë<|wpAny_letGo ?_;show PB (A:=A.in1) W r v C D y (W.frame 0 _ _ p λb x o e=>pJ b o (λz=>g<|z ▸ x) e) _ g .none _ G (λh' q a c B l f=>?_) hn;show#[rfl,u h' q a c (λb o z e=>B b o (ì<|Ð e) z<|pJ b o (ì<|Ð e) e) l f]
end
def RU(h:aH xs us)(g:aH ys vs):aH (xs++ys) (us++vs):=by
 induction h with
 |nil=>show g
 |cons a _ b=>show .cons a b
def RV(h:aH xs us):aH xs.reverse us.reverse:=by
 induction h with
 |nil=>show .nil
 |cons a _ b=>rw[Υ,Υ];show RU b<|.cons a .nil
section
variable{X:Cx}
abbrev Jj(K:aq)(e:TA):TE:=λj H Q=>e j H λvs b=>∃a d,vs=[.ref a]/\bE K b a d/\∀p,b p=È->Q `ak (aQ b p<|.ag d.reverse)
def Pj(hc:X.calm=Â)(hg:Gl X "list")(hm:X.mg "list"=È)(B:Gl X "reversed")(E:X.mg "reversed"=È)(ha:PA X [l] ta)(G:do lA l X.env)(hs:do Ă [.Call (.Name "reversed" p2) [l] [] pos2] X.env=[(É,eval (.Call (.Name "reversed" p2) [l] [] pos2) X.env)]):
  PE X (.Call (.Name "list" p) [.Call (.Name "reversed" p2) [l] [] pos2] [] pos) (Jj X.K ta):=by
 intro aa s i H Q I h;show ġ<|kH I hg hm (u:=.type "list") rfl ?_;show ø ?_ hs rfl;rw[hs];change Ý _ _ (spliced ((É,eval (.Call (.Name "reversed" p2) [l] [] pos2) X.env)::ű pos [])) _ _ s;show Ō ?_;show Call_<|kH I B E (u:=.type "reversed") rfl<|ø (bq (ha pos2 aa s i H _ I h) λus m L=>?_) G rfl;let#[vs,O,x,r1,a,xs,e,hq,q]:=L;subst e;cases r1 with
 |cons r rr=>
  cases rr;cases r;let#[d,N,J,hz]:=x.list hq;have hl:=↑N;show call_reversed_list J.isList ?_;show ύ ?_;have M:a<⇑m:=let ⟨o,ho,_⟩:=J.isList;Ð ho;have W:=Walks.listRev (prog:=X.prog) (w:=X.w) (A:=X.A.in1.in1) (show X.A.in1.in1.handled=È from I.ok.hd hc) ⇑m a (ì M) d.toArray;have I2:ax X aa i O { m with heap:=m.heap.push (revObj a<|(d.toArray.size:Int) - 1) }:=x.kept (t':=m.toks) λb o e=>Ä _ e
  have hI:(m.heap.push<|revObj a<|(d.toArray.size:Int) - 1).IsRevIter ⇑m a ((d.toArray.size:Int) - 1 - ((0:Nat):Int)):=by
   show#[_,Ø _ rfl,rfl,?_];rw[show (d.toArray.size:Int) - 1 - ((0:Nat):Int)=(d.toArray.size:Int) - 1 by omega];rfl
  have f:=x.fB (Ï _)<|x.aR.fresh<|Ï ⇑m;show VP (s:={ m with heap:=m.heap.push (revObj a<|(d.toArray.size:Int) - 1) }) W ∅ (λb hb=>?_) (λ_ _ z=>z.2.1.typeIs) ∎ ∎ (λ_ _ _ t h=>RT t h) #[Ĝ _,hI,J.isList.at λo e=>Ä _ e] (by simp;omega) λh' tk n c hk hS g=>?_
  .show b<(m.heap.push _).objs.size;rw[ϑ];rcases æ.mp hb with z |z
   .rw[z];show ŧ _
   .rw[ä.mp z];show ħ M
  .have z1:(m.heap.push<|revObj a<|(d.toArray.size:Int) - 1).objs.size=⇑m+1:=ϑ ..;have D:∀b o,m.heap.get? b=À o->h'.get? b=À o:=λb o e=>hk b o (ì<|Ð e)<|Ä _ e
   have U:n.toList=d.reverse:=by
    show ė λj=>?_
    rcases Nat.lt_or_ge j n.size with C |C
    .obtain⟨v,hv⟩:∃v,n[j]?=À v:=#[n[j],by simp[C]];have Y:=g.2 j v hv;have y:=g.1;rw[Ϗ,hv,List.getElem?_reverse (by simp at y;omega),<- Y];simp
    .have y:=g.1;rw[à (by simpa using C),à (by simp at y ⊢;omega)]
   show#[.ref _,_,x.laid (a:=(m.heap.push<|revObj a<|(d.toArray.size:Int) - 1).objs.size) (o:=.ag xs.reverse) (h':=h') (t':=tk) D (by rw[z1];omega) #[by rw[al6];show hz,d.reverse,c,RV N,by rw[<- U,Ϡ];show hS],rfl,q _ (by rw[z1];show x.aR.fresh ⋯)]
end
end L2
namespace Vc
open PySem L2
def J8{Fb Hb F H e f:Hp}{S:ai->Prop}(i:Gr0 Fb Hb F H)(v:H a=À `am)(u:F a=È\/F a=À `am)(j:Gr0 (fz Fb a<|.aB ob<|.dK kvs) (fz Hb a<|.aB ob<|.dK kvs) e f)(w:e a=fz F a (.aB ob<|.dK kvs) a)(h:Fz (λb=>b=a\/S b) e):
  ∃d:Hp,Gr0 Fb Hb d (aQ f a<|.dK kvs)/\Fz S d/\Le e d/\d a=F a/\(aQ f a<|.dK kvs) a=À `am/\(∀b,b≠a->d b=e b)/\∀b,b≠a->(aQ f a<|.dK kvs) b=f b:=
 Uj (R:=λU=>∃d:Hp,Gr0 Fb Hb d U/\Fz S d/\Le e d/\d a=F a/\U a=À `am/\(∀b,b≠a->d b=e b)/\∀b,b≠a->U b=f b) i v u j w h λg x l m n o p q r=>#[g,l,m,n,o,p,q,r]
end Vc
namespace L2
open PySem PySem.Spec PyProof.Rows
section
variable{X:Cx}
abbrev Di(K:aq):R2:=λx y H Q=>∃l b a d,x=.ref l/\y=.ref b/\bE K H l a/\bE K H b d/\↑a+↑d<=Ô/\∀p,H p=È->Q `ak (aQ H p<|.ag<|a++d)
def VQ:cu X `dg (Di X.K):=by
 intro aa s j H x y v u Q I E G h;let#[l,b,xs,zs,rfl,rfl,D,C,M,q]:=h;cases E;cases G;∎;let#[d,r,p1,z1]:=I.list D;let#[a,r2,p2,z2]:=I.list C;∎;have N:=↑r;have O:=↑r2;∎;let#[#[J,A,U,i],w,p,n,hd]:=p1.isList;let#[#[L,B,Y,o],g,e,m,f]:=p2.isList;∎;simp only at p hd e f;subst p hd e f;show concat_meets #[_,w,rfl] #[_,g,rfl] noFill_list_add seq_list_add PySem.F.slot_list_add PySem.F.entry_list_add (PySem.F.args_list_add_2 _ _) (list_addW l b d.toArray a.toArray n m A B i o (by simp;omega)) #[w,g,?_];rw[show d.toArray++a.toArray=(d++a).toArray by simp];show#[.ref _,_,I.tT (t':=s.toks) (r.append r2) (by rw[Ò];omega),rfl,q _ I.fresh]
end
end L2
namespace Vc
open PySem L2
abbrev zH(a b:ai)(H:Hp):Hp:=λx=>if x=a\/x=b then È else H x
end Vc
namespace Vc
open PySem L2 Sf
abbrev cX(l:cJ)(H:Hp):Hp:=λx=>if x∈l then È else H x
def qU{H:Hp}(a:x ∉ l)(h:H x=À o):cX l H x=À o:=by unfold cX;rw[ao6 a];show h
def Xd(h:x∈l):cX l H x=È:=ao7 h
def RW{H:Hp}(h:cX l H x=À o):x ∉ l/\H x=À o:=by
 unfold cX at h;by_cases z:x∈l
 .rw[ao7 z] at h;cases h
 .rw[ao6 z] at h;show#[z,h]
def zL(a:aE F H):Gr0 F (cX l H) F H:=#[λ_ _ e=>(RW e).2,aE.refl _,a,λx u h e=>by rw[h] at e;cases e]
def M3{Hb:Hp}(h:Hb a=È):∀x∈[a],Hb x=È:=λx z=>by rw[ä.mp z];show h
def E8{Hb:Hp}(h:Hb a=È)(g:Hb b=È):∀x∈[a,b],Hb x=È:=λx z=>(æ.mp z).elim (λe=>by rw[e];show h)<|M3 g x
def E9{Hb:Hp}(h:Hb a=È)(g:Hb b=È)(f:Hb c=È):∀x∈[a,b,c],Hb x=È:=λx z=>(æ.mp z).elim (λe=>by rw[e];show h)<|E8 g f x
end Vc
namespace L2
open PySem PySem.Spec PyProof.Rows
def zZ(aR:dD P w H h)(e:Rd H a `bk):∃b,g9 h a dx C b/\∀f,b7 `aO (b f):=by
 have x:bp P w H h a `bk:=by
  rcases e with e |⟨o,e⟩
  .show aR a _ e
  .show (aR a _ e).2
 let#[d,z,ne,g,b,n,r,q]:=x;show#[b,#[g,n,ne],r]
abbrev xv(K:aq)(e:TE)(f:Str):TE:=λj H Q=>e j H λx b=>∃a C d fs v,x=.ref a/\Rd b a (.ins C d fs)/\g6 K C/\bo K C f/\fs.lookup f=À v/\Q v b
section
variable{X:Cx}{CX:fP}{k:Nat}{E:XK}{m f:Str}{pos apos:Pos}{o e:ę}{ta:TE}{D:ai->Nat->Prop}{sp:Nat->Sp}
def Gz(he:PE X e ta)(w:Ė e f X.env `bK=eval e X.env):PE X `aZ (xv X.K ta f):=by
 intro aa s j H Q I h;show Uv w<|bq (he aa s j H _ I h) λu J d=>?_;let#[x,i,b,B,a,C,G,fs,v,ex,p,c,n,l,q]:=d;subst ex;obtain rfl:u=å a:=B;∎;let#[A,O,r]:=zZ b.aR p;let#[u,y,g]:=b7.some_of (v:=v) (o:=A f) (by rw[<- l];show r f);∎;show Us b.eO O (c.get f) c.hd n y (P0 g) #[v,i,b.tok _,g,q]
end
section
variable{X:Cx}{CX:fP}{k:Nat}{f C:ai}{fd:Ĥ}{ps:ah}{sp:Sp}{dvs:ay}{ds:aN}{x:Str}{p pos:Pos}{e:ę}{es:bN}{t:TA}
abbrev xu(C:ai)(sp:Sp)(dvs:ay)(R:St->XK)(t:TA):TE:=λj H Q=>t j H λvs b=>∀x a,b x=È->b a=È->a≠x->
 sp (.ref x::(vs++dvs)) (aQ (aQ b a<|.own x) x<|.ins C a []) (λv d=>v=.aT/\Q `bb d) (R j)
def PC{H:Hp}{Q:VK}(M:Mk X.K C f)(F:aJ X.prog X.w X.K X.mg X.base CX k f fd ps sp)(B:bA (k+1) X.A)(q:Binds X.K fd ps ds)(hd:aH dvs ds)(D:j9 CX X j E)(I:ax X aa j H s)(r:aH vs us)(h:∀x d,H x=È->H d=È->d≠x->sp (.ref x::(vs++dvs)) (aQ (aQ H d<|.own x) x<|.ins C d []) (λv l=>v=.aT/\Q `bb l) E):
  Ý `aa X.A (call `ai us) `ap X.xe s:=by
 have g:=h (⇑s+1) ⇑s (I.aR.fresh<|ad4 _) (I.aR.fresh<|Ï _) (ì<|ŧ _);have b:=ax.made (C:=C) I;have r2:aH (V.ref (⇑s+1)::(vs++dvs)) (å (⇑s+1)::(us++ds)):=.cons rfl<|r.append hd;have y:(å (⇑s+1)::us++ds).length=↑ps:=(r2.length.symm.trans<|F.len _ _ _ _ g)
 show Zs (Sh (f:=f) I.eO M.makes M.init (beq_iff_eq.mp M.fn) (ŷ (F.run _ X.stack _ _ #[å (⇑s+1)::us,[]] (å (⇑s+1)::(us++ds)) _ _ E (B.make C us [])
  (b.mH.make C us []) (q _ (å (⇑s+1)::us) b.eO y) r2 g) λo L a=>?_))
 match o,a with
 |.error e,a=>show D aa _ _ e L b a
 |.ok (.ret u),a=>
  let#[v,i,m,J,n,G]:=b.after a;subst n;show#[J,#[V.ref<|⇑s+1,i,m,rfl,G]]
 |.ok .next,a=>show a.elim
 |.ok .brk,a=>show a.elim
 |.ok .cont,a=>show a.elim
def RX{R:St->XK}(M:Mk X.K C f)(F:aJ X.prog X.w X.K X.mg X.base CX k f fd ps sp)(m:bA (k+1) X.A)(l:Gl X x)(hm:X.mg x=À `ai)(i:Binds X.K fd ps ds)(hd:aH dvs ds)(n:∀j,j9 CX X j<|R j)(g:PA X (e::es) t)(a: ~~~(dZ x))(he:do d0 e es X.env)(hpl:do fS pos es X.env):
  PE X (.Call `aL (e::es) [] pos) (xu C sp dvs R t):=by
 intro aa s j H Q I h;show ġ<|nG I l hm ?_ a;show ZX (h₀:=X.base) I.ok.mod.mJ M.kp (bq `aJ λus u b=>by let#[vs,o,d,r,q]:=b;show#[d.eO,PC M F m i hd (n j) d r q]) he hpl
end
abbrev fQ(P:ð)(w:ă)(K:aq)(mg:bw)(base:aV)(CX:fP)(k:Nat)(m:Str)(C:ai)(b:ah)(sp:Sp):Prop:=
 g6 K C/\∃f a,DE K C m f/\aJ P w K mg base CX k f a b sp/\Binds K a b []
def fQ.mono{P:ð}{w:ă}{K:aq}{mg:bw}{base:aV}{CX:fP}{k a:Nat}{m:Str}{C:ai}{b:ah}{sp:Sp}(h:fQ P w K mg base CX k m C b sp)(le:k<=a):fQ P w K mg base CX a m C b sp:=by
 let#[c,f,d,hm,F,e]:=h;show#[c,f,d,hm,F.mono le,e]
end L2
namespace Vc
open PySem L2 Sf
section
variable{H:Hp}{Q:VK}{l:ai}
def GA:cS (ws++[v]) (-1)=À v:=by
 unfold cS iJ;rw[ao6 (by decide:¬ (0:Int)<=-1),Ò,ao7 (by simp only[Ú,ϔ];omega)];have e:((-1:Int)+((↑ws+[v].length:Nat):Int)).toNat=↑ws:=by simp only[Ú,ϔ];omega
 rw[e];change (ws++[v])[ws.length]?=À v;rw[ç<|Ï _,ab2];rfl
end
end Vc
namespace L2
open PySem PySem.Spec PyProof.Rows
abbrev g8(K:aq)(x a:Str)(st:Ā)(f:ai):Prop:=∃b,ir K x a st f b
def mI{K:aq}{x a:Str}{st:Ā}{f:ai}{oc:ao}{od an:b9}{osl:Array (eW)}{kV doc pm bH ct:ao}(l:K.lookup f=À #[oc,od,.func<|ad9 x a (qm st) (j4 st) (bD st) .none kV doc pm an bH ct,osl])(c:W.codeIn K bH a=Â)(k:ź K `aq=Â):g8 K x a st f:=#[_,WW l c k]
def g8.kp{K:aq}{x a:Str}{st:Ā}{f:ai}(h:g8 K x a st f):ź K `aq=Â:=h.choose_spec.kp
abbrev XD(d:ai)(fs:List (Str×V)):HO:=.ext λh=>∃m,h.Ns1 d m/\∀f,b7 `aO<|m f
end L2
namespace Pu
open PySem L2 Vc Sf
inductive Fl where |f |o |l (k:Bool)
 deriving DecidableEq
inductive Tr where
 |int (n:Int) |bl (b:Bool) |str (s:Str) |aT |ar |ty (n:String) |cl (a:Addr) |exc (b:Addr) (P:Hp -> Option Addr -> Prop)
 |aL (xs:List Tr) |ag (f:Fl) (xs:List Tr) |aP (f:Fl) (kvs:List (aW × Tr)) |ins (f:Fl) (c:Addr) (fs:List (Str × Tr))
nonrec abbrev az:=Tr->Prop
nonrec abbrev bz:=List<|aW×Tr
nonrec abbrev bx:=List<|Str×Tr
nonrec abbrev af:=List Tr
nonrec abbrev aA:=af->Prop
nonrec abbrev Cs:=List<|ai×HO
mutual
noncomputable def R(K:af2)(F:Hp)(B:Bool->Hp):Tr->V->Cs->Prop
 |.int n,v,cs=>v=.int n /\ cs=[]
 |.bl b,v,cs=>v=.bl b /\ cs=[]
 |.str s,v,cs=>v=.str s /\ cs=[]
 |.aT,v,cs=>v=.aT /\ cs=[]
 |.ar,_,_=>False
 |.ty n,v,cs=>v=.ty n /\ cs=[]
 |.cl a,v,cs=>v=.ref a /\ cs=[]
 |.exc b P,v,cs=>cs=[] /\ ∃a o,v=.ref a /\ Rd F a (yO a b o) /\ ∀g,Le F g -> P g o
 |.aL xs,v,cs=>∃a vs,v=.ref a /\ df K F a vs /\ Rs K F B xs vs cs
 |.ag .f xs,v,cs=>cs=[] /\ ∃a vs,v=.ref a /\ bE K F a vs /\ Rs K F B xs vs []
 |.ag (.l k) xs,v,cs=>cs=[] /\ ∃a vs,v=.ref a /\ bE K (B k) a vs /\ Rs K F B xs vs []
 |.ag .o xs,v,cs=>∃a vs d,v=.ref a /\ cs=(a,.ag vs)::d /\ Rs K F B xs vs d
 |.aP .f xs,v,cs=>cs=[] /\ ∃a vs,v=.ref a /\ Rd F a `aD /\ Rk K F B xs vs [] /\ (xs.map (·.1)).Nodup
 |.aP (.l k) xs,v,cs=>cs=[] /\ ∃a vs,v=.ref a /\ Rd (B k) a `aD /\ Rk K F B xs vs [] /\ (xs.map (·.1)).Nodup
 |.aP .o xs,v,cs=>∃a vs d,v=.ref a /\ cs=(a,.dK vs)::d /\ Rk K F B xs vs d /\ (xs.map (·.1)).Nodup
 |.ins .f c xs,v,cs=>cs=[] /\ ∃a e vs,v=.ref a /\ Rd F a (.ins c e vs) /\ Rf K F B xs vs []
 |.ins (.l k) c xs,v,cs=>cs=[] /\ ∃a e vs,v=.ref a /\ Rd (B k) a (.ins c e vs) /\ Rf K F B xs vs []
 |.ins .o c xs,v,cs=>∃a e vs d,v=.ref a /\ cs=(a,.ins c e vs)::d /\ Rf K F B xs vs d
noncomputable def Rs(K:af2)(F:Hp)(B:Bool->Hp):List Tr->List V->Cs->Prop
 |[],vs,cs=>vs=[] /\ cs=[]
 |x::xs,vs,cs=>∃v r c d,vs=v::r /\ cs=c ++ d /\ R K F B x v c /\ Rs K F B xs r d
noncomputable def Rk(K:af2)(F:Hp)(B:Bool->Hp):List (aW×Tr)->List (aW×V)->Cs->Prop
 |[],vs,cs=>vs=[] /\ cs=[]
 |(k,x)::xs,vs,cs=>∃v r c d,vs=(k,v)::r /\ cs=c ++ d /\ R K F B x v c /\ Rk K F B xs r d
noncomputable def Rf(K:af2)(F:Hp)(B:Bool->Hp):List (Str×Tr)->List (Str×V)->Cs->Prop
 |[],vs,cs=>vs=[] /\ cs=[]
 |(k,x)::xs,vs,cs=>∃v r c d,vs=(k,v)::r /\ cs=c ++ d /\ R K F B x v c /\ Rf K F B xs r d
end
mutual
noncomputable def aK:Tr->Tr
 |.aL a=>.aL<|c8 a
 |.ag .o a=>.ag `bO<|c8 a
 |.aP .o a=>.aP `bO<|ef a
 |.ins .o c a=>.ins `bO c<|cp a
 |t=>t
noncomputable def c8:List Tr->List Tr
 |[]=>[] |x::xs=>aK x::c8 xs
noncomputable def ef:List (aW×Tr)->List (aW×Tr)
 |[]=>[] |(k,x)::xs=>(k,aK x)::ef xs
noncomputable def cp:List (Str×Tr)->List (Str×Tr)
 |[]=>[] |(k,x)::xs=>(k,aK x)::cp xs
end
mutual
noncomputable def aB:Tr->Tr
 |.aL a=>.aL<|bf a
 |.ag .o a=>.ag .f<|bf a
 |.aP .o a=>.aP .f<|dJ a
 |.ins .o c a=>.ins .f c<|fU a
 |t=>t
noncomputable def bf:List Tr->List Tr
 |[]=>[] |x::xs=>aB x::bf xs
noncomputable def dJ:List (aW×Tr)->List (aW×Tr)
 |[]=>[] |(k,x)::xs=>(k,aB x)::dJ xs
noncomputable def fU:List (Str×Tr)->List (Str×Tr)
 |[]=>[] |(k,x)::xs=>(k,aB x)::fU xs
end
mutual
noncomputable def cI:Tr->Bool
 |.aL a=>bZ a
 |.ag (.l _) _=>É
 |.aP (.l _) _=>É
 |.ins (.l _) _ _=>É
 |.ag _ a=>bZ a
 |.aP _ a=>ja a
 |.ins _ _ a=>e5 a
 |_=>Â
noncomputable def bZ:List Tr->Bool
 |[]=>Â |x::xs=>cI x&&bZ xs
noncomputable def ja:List (aW×Tr)->Bool
 |[]=>Â |(_,x)::xs=>cI x&&ja xs
noncomputable def e5:List (Str×Tr)->Bool
 |[]=>Â |(_,x)::xs=>cI x&&e5 xs
end
mutual
noncomputable def bM:Tr->Bool
 |.aL a=>bY a
 |.ag (.l Â) _=>É
 |.aP (.l Â) _=>É
 |.ins (.l Â) _ _=>É
 |.ag _ a=>bY a
 |.aP _ a=>gK a
 |.ins _ _ a=>fV a
 |_=>Â
noncomputable def bY:List Tr->Bool
 |[]=>Â |x::xs=>bM x&&bY xs
noncomputable def gK:List (aW×Tr)->Bool
 |[]=>Â |(_,x)::xs=>bM x&&gK xs
noncomputable def fV:List (Str×Tr)->Bool
 |[]=>Â |(_,x)::xs=>bM x&&fV xs
end
mutual
noncomputable def dn:Tr->Tr
 |.aL a=>.aL<|cA a
 |.ag (.l _) a=>.ag `aM<|cA a
 |.aP (.l _) a=>.aP `aM<|iH a
 |.ins (.l _) c a=>.ins `aM c<|jm a
 |.ag .o a=>.ag .o<|cA a
 |.aP .o a=>.aP .o<|iH a
 |.ins .o c a=>.ins .o c<|jm a
 |.ag .f a=>.ag .f<|cA a
 |.aP .f a=>.aP .f<|iH a
 |.ins .f c a=>.ins .f c<|jm a
 |t=>t
noncomputable def cA:List Tr->List Tr
 |[]=>[] |x::xs=>dn x::cA xs
noncomputable def iH:List (aW×Tr)->List (aW×Tr)
 |[]=>[] |(k,x)::xs=>(k,dn x)::iH xs
noncomputable def jm:List (Str×Tr)->List (Str×Tr)
 |[]=>[] |(k,x)::xs=>(k,dn x)::jm xs
end
mutual
theorem R.mo{B B':Bool->Hp}(e:Le F F')(b:∀k,Le (B k)<|B' k):∀(t:Tr){v:V}{cs:Cs},R K F B t v cs->R K F' B' t v cs
 |.int _,_,_,h=>h
 |.bl _,_,_,h=>h
 |.str _,_,_,h=>h
 |.aT,_,_,h=>h
 |.ar,_,_,h=>h
 |.ty _,_,_,h=>h
 |.cl _,_,_,h=>h
 |.exc _ _,_,_,y=>by let#[z,a,o,d,g,i]:=y;show#[z,a,o,d,Le.exc e g,λp l=>i p<|e.trans l]
 |.aL xs,_,_,y=>by let#[a,vs,d,g,i]:=y;show#[a,vs,d,e.aL g,Rs.mo e b xs i]
 |.ag .f xs,_,_,y=>by let#[z,a,vs,d,g,i]:=y;show#[z,a,vs,d,e.ag g,Rs.mo e b xs i]
 |.ag (.l k) xs,_,_,y=>by let#[z,a,vs,d,g,i]:=y;show#[z,a,vs,d,(b k).ag g,Rs.mo e b xs i]
 |.ag .o xs,_,_,y=>by let#[a,vs,j,d,g,i]:=y;show#[a,vs,j,d,g,Rs.mo e b xs i]
 |.aP .f xs,_,_,y=>by let#[z,a,vs,d,g,i,n]:=y;show#[z,a,vs,d,e.aP g,Rk.mo e b xs i,n]
 |.aP (.l k) xs,_,_,y=>by let#[z,a,vs,d,g,i,n]:=y;show#[z,a,vs,d,(b k).aP g,Rk.mo e b xs i,n]
 |.aP .o xs,_,_,y=>by let#[a,vs,j,d,g,i,n]:=y;show#[a,vs,j,d,g,Rk.mo e b xs i,n]
 |.ins .f _ xs,_,_,y=>by let#[z,a,m,vs,d,g,i]:=y;show#[z,a,m,vs,d,e _ _ (by intro _ _ z;cases z) g,Rf.mo e b xs i]
 |.ins (.l k) _ xs,_,_,y=>by let#[z,a,m,vs,d,g,i]:=y;show#[z,a,m,vs,d,b k _ _ (by intro _ _ z;cases z) g,Rf.mo e b xs i]
 |.ins .o _ xs,_,_,y=>by let#[a,m,vs,j,d,g,i]:=y;show#[a,m,vs,j,d,g,Rf.mo e b xs i]
theorem Rs.mo{B B':Bool->Hp}(e:Le F F')(b:∀k,Le (B k)<|B' k):∀(t:List Tr){v:List V}{cs:Cs},Rs K F B t v cs->Rs K F' B' t v cs
 |[],_,_,h=>h
 |x::xs,_,_,y=>by let#[v,r,c,d,a,f,g,i]:=y;show#[v,r,c,d,a,f,R.mo e b x g,Rs.mo e b xs i]
theorem Rk.mo{B B':Bool->Hp}(e:Le F F')(b:∀k,Le (B k)<|B' k):∀(t:List (aW×Tr)){v:List (aW×V)}{cs:Cs},Rk K F B t v cs->Rk K F' B' t v cs
 |[],_,_,h=>h
 |(_,x)::xs,_,_,y=>by let#[v,r,c,d,a,f,g,i]:=y;show#[v,r,c,d,a,f,R.mo e b x g,Rk.mo e b xs i]
theorem Rf.mo{B B':Bool->Hp}(e:Le F F')(b:∀k,Le (B k)<|B' k):∀(t:List (Str×Tr)){v:List (Str×V)}{cs:Cs},Rf K F B t v cs->Rf K F' B' t v cs
 |[],_,_,h=>h
 |(_,x)::xs,_,_,y=>by let#[v,r,c,d,a,f,g,i]:=y;show#[v,r,c,d,a,f,R.mo e b x g,Rf.mo e b xs i]
end
section
mutual
theorem R.aK(b:∀k,Le (B k)<|B' k):∀(t:Tr){v:V}{cs:Cs},R K F B t v cs->(∀p∈cs,B' Â p.1=À p.2)->R K F B' (aK t) v []
 |.int _,_,_,y,_=>by let#[h,_]:=y;show#[h,rfl]
 |.bl _,_,_,y,_=>by let#[h,_]:=y;show#[h,rfl]
 |.str _,_,_,y,_=>by let#[h,_]:=y;show#[h,rfl]
 |.aT,_,_,y,_=>by let#[h,_]:=y;show#[h,rfl]
 |.ar,_,_,h,_=>h.elim
 |.ty _,_,_,y,_=>by let#[h,_]:=y;show#[h,rfl]
 |.cl _,_,_,y,_=>by let#[h,_]:=y;show#[h,rfl]
 |.exc _ _,_,_,y,_=>by let#[_,a,o,h,r]:=y;show#[rfl,a,o,h,r]
 |.aL xs,_,_,y,m=>by let#[a,vs,e,d,g]:=y;show#[a,vs,e,d,Rs.aK b xs g m]
 |.ag .f xs,_,_,y,_=>by let#[z,a,vs,e,d,g]:=y;show#[rfl,a,vs,e,d,Rs.mo `be b xs g]
 |.ag (.l k) xs,_,_,y,_=>by let#[z,a,vs,e,d,g]:=y;show#[rfl,a,vs,e,(b k).ag d,Rs.mo `be b xs g]
 |.ag .o xs,_,_,y,m=>by let#[a,vs,n,e,d,g]:=y;show#[rfl,a,vs,e,bE.of (m (a,.ag vs) (by rw[d];show .head _)),Rs.aK b xs g λp q=>m p (by rw[d];show .tail _ q)]
 |.aP .f xs,_,_,y,_=>by let#[z,a,vs,e,d,g,j]:=y;show#[rfl,a,vs,e,d,Rk.mo `be b xs g,j]
 |.aP (.l k) xs,_,_,y,_=>by let#[z,a,vs,e,d,g,j]:=y;show#[rfl,a,vs,e,(b k).aP d,Rk.mo `be b xs g,j]
 |.aP .o xs,_,_,y,m=>by let#[a,vs,n,e,d,g,j]:=y;show#[rfl,a,vs,e,Rd.of (m (a,.dK vs) (by rw[d];show .head _)),Rk.aK b xs g λp q=>m p (by rw[d];show .tail _ q),by rw[fD];show j]
 |.ins .f _ xs,_,_,y,_=>by let#[z,a,i,vs,e,d,g]:=y;show#[rfl,a,i,vs,e,d,Rf.mo `be b xs g]
 |.ins (.l k) _ xs,_,_,y,_=>by let#[z,a,i,vs,e,d,g]:=y;show#[rfl,a,i,vs,e,b k _ _ (by intro _ _ z;cases z) d,Rf.mo `be b xs g]
 |.ins .o _ xs,_,_,y,m=>by let#[a,i,vs,n,e,d,g]:=y;show#[rfl,a,i,vs,e,Rd.of (m (a,.ins _ i vs) (by rw[d];show .head _)),Rf.aK b xs g λp q=>m p (by rw[d];show .tail _ q)]
theorem Rs.aK(b:∀k,Le (B k)<|B' k):∀(t:List Tr){v:List V}{cs:Cs},Rs K F B t v cs->(∀p∈cs,B' Â p.1=À p.2)->Rs K F B' (c8 t) v []
 |[],_,_,y,_=>by let#[h,_]:=y;show#[h,rfl]
 |x::xs,_,_,y,m=>by let#[v,r,c,d,e,a,f,g]:=y;show#[v,r,[],[],e,rfl,R.aK b x f λp q=>m p (by rw[a];show Æ.mpr<|.inl q),Rs.aK b xs g λp q=>m p (by rw[a];show Æ.mpr<|.inr q)]
theorem Rk.aK(b:∀k,Le (B k)<|B' k):∀(t:List (aW×Tr)){v:List (aW×V)}{cs:Cs},Rk K F B t v cs->(∀p∈cs,B' Â p.1=À p.2)->Rk K F B' (ef t) v []
 |[],_,_,y,_=>by let#[h,_]:=y;show#[h,rfl]
 |(_,x)::xs,_,_,y,m=>by let#[v,r,c,d,e,a,f,g]:=y;show#[v,r,[],[],e,rfl,R.aK b x f λp q=>m p (by rw[a];show Æ.mpr<|.inl q),Rk.aK b xs g λp q=>m p (by rw[a];show Æ.mpr<|.inr q)]
theorem Rf.aK(b:∀k,Le (B k)<|B' k):∀(t:List (Str×Tr)){v:List (Str×V)}{cs:Cs},Rf K F B t v cs->(∀p∈cs,B' Â p.1=À p.2)->Rf K F B' (cp t) v []
 |[],_,_,y,_=>by let#[h,_]:=y;show#[h,rfl]
 |(_,x)::xs,_,_,y,m=>by let#[v,r,c,d,e,a,f,g]:=y;show#[v,r,[],[],e,rfl,R.aK b x f λp q=>m p (by rw[a];show Æ.mpr<|.inl q),Rf.aK b xs g λp q=>m p (by rw[a];show Æ.mpr<|.inr q)]
theorem fD:∀(xs:List (aW×Tr)),(ef xs).map (·.1)=xs.map (·.1)
 |[]=>rfl
 |(_,_)::xs=>by change _::_=_::_;rw[fD xs]
end
def EY:∀(xs:bz),(dJ xs).map (·.1)=xs.map (·.1)
 |[]=>rfl
 |(_,_)::xs=>by change _::_=_::_;rw[EY xs]
mutual
theorem R.base:∀(t:Tr){v:V}{cs:Cs},cI t=Â->R K F B t v cs->R K F B' t v cs
 |.int _,_,_,_,h=>h
 |.bl _,_,_,_,h=>h
 |.str _,_,_,_,h=>h
 |.aT,_,_,_,h=>h
 |.ar,_,_,_,h=>h
 |.ty _,_,_,_,h=>h
 |.cl _,_,_,_,h=>h
 |.exc _ _,_,_,_,h=>h
 |.aL xs,_,_,n,y=>by let#[a,vs,b,d,e]:=y;show#[a,vs,b,d,Rs.base xs n e]
 |.ag .f xs,_,_,n,y=>by let#[z,a,vs,b,d,e]:=y;show#[z,a,vs,b,d,Rs.base xs n e]
 |.ag (.l k) xs,_,_,n,_=>by cases n
 |.ag .o xs,_,_,n,y=>by let#[a,vs,g,b,d,e]:=y;show#[a,vs,g,b,d,Rs.base xs n e]
 |.aP .f xs,_,_,n,y=>by let#[z,a,vs,b,d,e,j]:=y;show#[z,a,vs,b,d,Rk.base xs n e,j]
 |.aP (.l k) xs,_,_,n,_=>by cases n
 |.aP .o xs,_,_,n,y=>by let#[a,vs,g,b,d,e,j]:=y;show#[a,vs,g,b,d,Rk.base xs n e,j]
 |.ins .f _ xs,_,_,n,y=>by let#[z,a,i,vs,b,d,e]:=y;show#[z,a,i,vs,b,d,Rf.base xs n e]
 |.ins (.l k) _ xs,_,_,n,_=>by cases n
 |.ins .o _ xs,_,_,n,y=>by let#[a,i,vs,g,b,d,e]:=y;show#[a,i,vs,g,b,d,Rf.base xs n e]
theorem Rs.base:∀(t:List Tr){v:List V}{cs:Cs},bZ t=Â->Rs K F B t v cs->Rs K F B' t v cs
 |[],_,_,_,h=>h
 |x::xs,_,_,n,y=>by
  let#[v,r,c,d,a,b,e,f]:=y;rw[bZ,í] at n;show#[v,r,c,d,a,b,R.base x n.1 e,Rs.base xs n.2 f]
theorem Rk.base:∀(t:List (aW×Tr)){v:List (aW×V)}{cs:Cs},ja t=Â->Rk K F B t v cs->Rk K F B' t v cs
 |[],_,_,_,h=>h
 |(_,x)::xs,_,_,n,y=>by
  let#[v,r,c,d,a,b,e,f]:=y;rw[ja,í] at n;show#[v,r,c,d,a,b,R.base x n.1 e,Rk.base xs n.2 f]
theorem Rf.base:∀(t:List (Str×Tr)){v:List (Str×V)}{cs:Cs},e5 t=Â->Rf K F B t v cs->Rf K F B' t v cs
 |[],_,_,_,h=>h
 |(_,x)::xs,_,_,n,y=>by
  let#[v,r,c,d,a,b,e,f]:=y;rw[e5,í] at n;show#[v,r,c,d,a,b,R.base x n.1 e,Rf.base xs n.2 f]
end
mutual
theorem R.aB(b:Le F F'):∀(t:Tr){v:V}{cs:Cs},R K F B t v cs->(∀p∈cs,F' p.1=À p.2)->R K F' B `ba v []
 |.int _,_,_,y,_=>by let#[h,_]:=y;show#[h,rfl]
 |.bl _,_,_,y,_=>by let#[h,_]:=y;show#[h,rfl]
 |.str _,_,_,y,_=>by let#[h,_]:=y;show#[h,rfl]
 |.aT,_,_,y,_=>by let#[h,_]:=y;show#[h,rfl]
 |.ar,_,_,h,_=>h.elim
 |.ty _,_,_,y,_=>by let#[h,_]:=y;show#[h,rfl]
 |.cl _,_,_,y,_=>by let#[h,_]:=y;show#[h,rfl]
 |.exc _ _,_,_,y,_=>by let#[_,a,o,h,u,d]:=y;show#[rfl,a,o,h,Le.exc b u,λr l=>d r<|b.trans l]
 |.aL xs,_,_,y,m=>by let#[a,vs,e,d,g]:=y;show#[a,vs,e,b.aL d,Rs.aB b xs g m]
 |.ag .f xs,_,_,y,_=>by let#[z,a,vs,e,d,g]:=y;show#[rfl,a,vs,e,b.ag d,Rs.mo b (λk=>Le.refl<|B k) xs g]
 |.ag (.l k) xs,_,_,y,_=>by let#[z,a,vs,e,d,g]:=y;show#[rfl,a,vs,e,d,Rs.mo b (λk=>Le.refl<|B k) xs g]
 |.ag .o xs,_,_,y,m=>by let#[a,vs,n,e,d,g]:=y;show#[rfl,a,vs,e,bE.of (m (a,.ag vs) (by rw[d];show .head _)),Rs.aB b xs g λp q=>m p (by rw[d];show .tail _ q)]
 |.aP .f xs,_,_,y,_=>by let#[z,a,vs,e,d,g,j]:=y;show#[rfl,a,vs,e,b.aP d,Rk.mo b (λk=>Le.refl<|B k) xs g,j]
 |.aP (.l k) xs,_,_,y,_=>by let#[z,a,vs,e,d,g,j]:=y;show#[rfl,a,vs,e,d,Rk.mo b (λk=>Le.refl<|B k) xs g,j]
 |.aP .o xs,_,_,y,m=>by let#[a,vs,n,e,d,g,j]:=y;show#[rfl,a,vs,e,Rd.of (m (a,.dK vs) (by rw[d];show .head _)),Rk.aB b xs g λp q=>m p (by rw[d];show .tail _ q),by rw[EY];show j]
 |.ins .f _ xs,_,_,y,_=>by let#[z,a,i,vs,e,d,g]:=y;show#[rfl,a,i,vs,e,b _ _ (by intro _ _ z;cases z) d,Rf.mo b (λk=>Le.refl<|B k) xs g]
 |.ins (.l k) _ xs,_,_,y,_=>by let#[z,a,i,vs,e,d,g]:=y;show#[rfl,a,i,vs,e,d,Rf.mo b (λk=>Le.refl<|B k) xs g]
 |.ins .o _ xs,_,_,y,m=>by let#[a,i,vs,n,e,d,g]:=y;show#[rfl,a,i,vs,e,Rd.of (m (a,.ins _ i vs) (by rw[d];show .head _)),Rf.aB b xs g λp q=>m p (by rw[d];show .tail _ q)]
theorem Rs.aB(b:Le F F'):∀(t:List Tr){v:List V}{cs:Cs},Rs K F B t v cs->(∀p∈cs,F' p.1=À p.2)->Rs K F' B (bf t) v []
 |[],_,_,y,_=>by let#[h,_]:=y;show#[h,rfl]
 |x::xs,_,_,y,m=>by let#[v,r,c,d,e,a,f,g]:=y;show#[v,r,[],[],e,rfl,R.aB b x f λp q=>m p (by rw[a];show Æ.mpr<|.inl q),Rs.aB b xs g λp q=>m p (by rw[a];show Æ.mpr<|.inr q)]
theorem Rk.aB(b:Le F F'):∀(t:List (aW×Tr)){v:List (aW×V)}{cs:Cs},Rk K F B t v cs->(∀p∈cs,F' p.1=À p.2)->Rk K F' B (dJ t) v []
 |[],_,_,y,_=>by let#[h,_]:=y;show#[h,rfl]
 |(_,x)::xs,_,_,y,m=>by let#[v,r,c,d,e,a,f,g]:=y;show#[v,r,[],[],e,rfl,R.aB b x f λp q=>m p (by rw[a];show Æ.mpr<|.inl q),Rk.aB b xs g λp q=>m p (by rw[a];show Æ.mpr<|.inr q)]
theorem Rf.aB(b:Le F F'):∀(t:List (Str×Tr)){v:List (Str×V)}{cs:Cs},Rf K F B t v cs->(∀p∈cs,F' p.1=À p.2)->Rf K F' B (fU t) v []
 |[],_,_,y,_=>by let#[h,_]:=y;show#[h,rfl]
 |(_,x)::xs,_,_,y,m=>by let#[v,r,c,d,e,a,f,g]:=y;show#[v,r,[],[],e,rfl,R.aB b x f λp q=>m p (by rw[a];show Æ.mpr<|.inl q),Rf.aB b xs g λp q=>m p (by rw[a];show Æ.mpr<|.inr q)]
end
abbrev Plain(cs:Cs):Prop:=∀p∈cs,∀x u,p.2≠HO.aB x u
def Plain.nil:Plain []:=λ_ h=>nomatch h
def Plain.cons{a:ai}{o:HO}{cs:Cs}(h:∀x u,o≠HO.aB x u)(t:Plain cs):Plain ((a,o)::cs):=λp m=>by
 cases m with
 |head=>show h
 |tail _ m=>show t p m
def Plain.app(h:Plain c)(t:Plain d):Plain (c++d):=λp m=>(Æ.mp m).elim (h p)<|t p
mutual
theorem R.plain:∀(t:Tr){v:V}{cs:Cs},R K F B t v cs->Plain cs
 |.int _,_,_,y=>by let#[_,h]:=y;rw[h];show .nil
 |.bl _,_,_,y=>by let#[_,h]:=y;rw[h];show .nil
 |.str _,_,_,y=>by let#[_,h]:=y;rw[h];show .nil
 |.aT,_,_,y=>by let#[_,h]:=y;rw[h];show .nil
 |.ar,_,_,h=>h.elim
 |.ty _,_,_,y=>by let#[_,h]:=y;rw[h];show .nil
 |.cl _,_,_,y=>by let#[_,h]:=y;rw[h];show .nil
 |.exc _ _,_,_,y=>by let#[h,_]:=y;rw[h];show .nil
 |.aL xs,_,_,y=>by let#[a,vs,e,d,b]:=y;show Rs.plain xs b
 |.ag .f xs,_,_,y=>by let#[z,_]:=y;rw[z];show .nil
 |.ag (.l k) xs,_,_,y=>by let#[z,_]:=y;rw[z];show .nil
 |.ag .o xs,_,_,y=>by let#[a,vs,g,e,d,b]:=y;rw[d];show .cons (by intro _ _ z;cases z)<|Rs.plain xs b
 |.aP .f xs,_,_,y=>by let#[z,_]:=y;rw[z];show .nil
 |.aP (.l k) xs,_,_,y=>by let#[z,_]:=y;rw[z];show .nil
 |.aP .o xs,_,_,y=>by let#[a,vs,g,e,d,b,_]:=y;rw[d];show .cons (by intro _ _ z;cases z)<|Rk.plain xs b
 |.ins .f _ xs,_,_,y=>by let#[z,_]:=y;rw[z];show .nil
 |.ins (.l k) _ xs,_,_,y=>by let#[z,_]:=y;rw[z];show .nil
 |.ins .o _ xs,_,_,y=>by let#[a,i,vs,g,e,d,b]:=y;rw[d];show .cons (by intro _ _ z;cases z)<|Rf.plain xs b
theorem Rs.plain:∀(t:List Tr){v:List V}{cs:Cs},Rs K F B t v cs->Plain cs
 |[],_,_,y=>by let#[_,h]:=y;rw[h];show .nil
 |x::xs,_,_,y=>by let#[v,r,c,d,f,a,b,e]:=y;rw[a];show (R.plain x b).app<|Rs.plain xs e
theorem Rk.plain:∀(t:List (aW×Tr)){v:List (aW×V)}{cs:Cs},Rk K F B t v cs->Plain cs
 |[],_,_,y=>by let#[_,h]:=y;rw[h];show .nil
 |(_,x)::xs,_,_,y=>by let#[v,r,c,d,f,a,b,e]:=y;rw[a];show (R.plain x b).app<|Rk.plain xs e
theorem Rf.plain:∀(t:List (Str×Tr)){v:List (Str×V)}{cs:Cs},Rf K F B t v cs->Plain cs
 |[],_,_,y=>by let#[_,h]:=y;rw[h];show .nil
 |(_,x)::xs,_,_,y=>by let#[v,r,c,d,f,a,b,e]:=y;rw[a];show (R.plain x b).app<|Rf.plain xs e
end
structure au(F H:Hp)(cs:Cs):Prop where
 h:∀p∈cs,H p.1=À p.2
 f:∀p∈cs,F p.1=È
 nd:(cs.map (·.1)).Nodup
def au.nil:au F H []:=#[λ_ h=>(nomatch h),λ_ h=>(nomatch h),ab5]
def au.gr(c:au F H cs)(g:Gr F H F' H'):au F' H' cs:=#[λp m=>g.h _ _<|c.h p m,λp m=>g.own (c.f p m)<|c.h p m,c.nd]
abbrev dy(H:Hp)(cs:Cs):Prop:=∀p∈cs,H p.1=È
def dy.nil:dy H []:=λ_ h=>nomatch h
def dy.back(s:aE H H')(n:dy H' cs):dy H cs:=λp m=>s.free<|n p m
def au.app(h:au F H c)(t:au F H d)(n:∀p∈c,∀q∈d,p.1≠q.1):au F H (c++d):=
 #[λp m=>(Æ.mp m).elim (h.h p)<|t.h p,λp m=>(Æ.mp m).elim (h.f p)<|t.f p,by
  rw[Û,Ĵ];show#[h.nd,t.nd,λa e b g=>?_];∎;let#[p,i,rfl]:=ß.mp e;let#[q,j,rfl]:=ß.mp g;∎;show n p i q j]
def au.left(h:au F H (c++d)):au F H c:=#[λp m=>h.h p<|Æ.mpr<|.inl m,λp m=>h.f p<|Æ.mpr<|.inl m,by have:=h.nd;rw[Û,Ĵ] at this;show this.1]
def au.right(h:au F H (c++d)):au F H d:=#[λp m=>h.h p<|Æ.mpr<|.inr m,λp m=>h.f p<|Æ.mpr<|.inr m,by have:=h.nd;rw[Û,Ĵ] at this;show this.2.1]
structure Out(K:aq)(F:Hp)(B:Bool->Hp)(H F' H':Hp)(t:Tr)(v:V)(cs:Cs):Prop where
 g:Gr F H F' H'
 r:R K F' B t v cs
 c:au F' H' cs
 n:dy H cs
structure eU(K:aq)(F:Hp)(B:Bool->Hp)(H F' H':Hp)(t:af)(v:ay)(cs:Cs):Prop where
 g:Gr F H F' H'
 r:Rs K F' B t v cs
 c:au F' H' cs
 n:dy H cs
abbrev dX(K:aq)(F:Hp)(B:Bool->Hp)(j:St)(G:af):Prop:=∀(i:Nat)(t:Tr),G[i]?=À t->t=.ar\/∃v,j[i]?=À (À v)/\R K F B t v []
def dX.mo(e:dX K F B j G)(l:Le F F')(b:∀k,Le (B k)<|B' k):dX K F' B' j G:=λi t h=>(e i t h).imp id λ⟨v,h1,h2⟩=>#[v,h1,h2.mo l b t]
nonrec abbrev bh:=af->(az)->Prop
nonrec abbrev cj:=af->(aA)->Prop
nonrec abbrev eB:=af->(Bool->Prop)->Prop
structure Xv where
 c:Ϛ
 f:bx
abbrev Xv.ref(a:ai):Xv:=#[.ref a,[]]
abbrev XF(K:aq)(F:Hp)(d:b9)(f:bx):Prop:=f=[]\/∃a vs,d=À a/\Rd F a (XD a vs)/\e5 f=Â/\Rf K F (λ_=>F) f vs []
structure Md where
 z:Bool
 E:St->XK
 q:Xv->Prop
abbrev Md.gJ(k:Md):Md:=#[k.z,k.E,λ_=>False]
abbrev Md.walk(k:Md):Md:=#[É,k.E,λ_=>False]
abbrev Md.base(b:Bool):Md:=#[b,λ_=>E0,λ_=>False]
structure iq(K:aq)(k:Md)(F:Hp)(B:Bool->Hp)(H:Hp)(j:St)(i:af):Prop where
 s:aE F H
 b:∀k,aE (B k) H
 z:k.z=Â->Fz S0 F
 e:dX K F B j i
 x:∀x F' H',k.q x->∀d,XF K F' d x.f->Gr F H F' H'->k.E j x.c d H'
def _root_.Vc.Gr.aS(s:aE F H):Gr F H F H:=Gr.of (Gr0.refl s)<|Fz.refl F
def _root_.Vc.Gr.trans'(a:Gr F H F' H')(b:Gr F' H' F2 H2):Gr F H F2 H2:=Gr.of (a.toGr0.tr b)<|b.fz a.z
def iq.gr(c:iq K k F B H j i)(g:Gr F H a f):iq K k a B f j i:=#[g.s,λk=>(c.b k).trans g.h,λh=>g.fz<|c.z h,c.e.mo g.le<|λk=>Le.refl<|B k,λx a f q d y l=>c.x x a f q d y<|g.trans' l]
abbrev bF(K:aq)(k:Md)(e:TE)(pe:bh):Prop:=∀(F:Hp)(B:Bool->Hp)(H:Hp)(j:St)(i:af)(Q:VK)(b:az),iq K k F B H j i->pe i b->(∀t v d a cs,b t->Out K F B H d a t v cs->Q v a)->e j H Q
abbrev eY(K:aq)(k:Md)(e:TA)(pe:cj):Prop:=∀(F:Hp)(B:Bool->Hp)(H:Hp)(j:St)(i:af)(Q:ay->Hp->Prop)(b:aA),iq K k F B H j i->pe i b->(∀t v d a cs,b t->eU K F B H d a t v cs->Q v a)->e j H Q
abbrev gz(K:aq)(k:Md)(f:TT)(pe:eB):Prop:=∀(F:Hp)(B:Bool->Hp)(H:Hp)(j:St)(i:af)(Q:Bool->Hp->Prop)(d:Bool->Prop),iq K k F B H j i->pe i d->(∀b e a,d b->Gr F H e a->Q b a)->f j H Q
def Out.same(s:aE F H)(r:R K F B t v []):Out K F B H F H t v []:=#[Gr.aS s,r,.nil,.nil]
abbrev vj(i:Nat):bh:=λj Q=>match j[i]? with |some .ar=>False |some t=>Q t |none=>False
def VR(i:Nat):bF K k (add i) (vj i):=λF B H j G Q d c p q=>by
 unfold vj at p;cases h:G[i]? with
 |none=>rw[h] at p;show p.elim
 |some t=>
  rcases c.e i t h with rfl |⟨v,a,b⟩
  .rw[h] at p;show p.elim
  .show#[v,a,q t v F H [] ?_ (Out.same c.s b)];rw[h] at p;cases t with
   |ar=>show p.elim
   |_=>show p
abbrev pC(t:Tr):bh:=λ_ Q=>Q t
def tw(h:∀F B,R K F B t v []):bF K k (tC v) (pC t):=λF B H j i Q a c p q=>q t v F H [] p (Out.same c.s<|h F B)
def U0:bF K k (tC<|.int n) (pC<|.int n):=tw λ_ _=>#[rfl,rfl]
def U1:bF K k (tC<|.str n) (pC<|.str n):=tw λ_ _=>#[rfl,rfl]
def Xe:bF K k (tC<|.bl n) (pC<|.bl n):=tw λ_ _=>#[rfl,rfl]
def U2:bF K k (tC .aT) (pC .aT):=tw λ_ _=>#[rfl,rfl]
abbrev p2(b:Tr->Tr->(az)->Prop)(a pb:bh):bh:=λj Q=>a j λx=>pb j λy=>b x y Q
abbrev eE(K:aq)(k:Md)(r:R2)(h:Tr->Tr->(az)->Prop):Prop:=∀(F:Hp)(B:Bool->Hp)(H:Hp)(x y:V)(g ty:Tr)(a b:Cs)(Q:VK)(f:az),aE F H->(∀k,aE (B k) H)->(k.z=Â->Fz S0 F)->R K F B g x a->R K F B ty y b->au F H a->au F H b->(∀p∈a,∀q∈b,p.1≠q.1)->h g ty f->
 (∀t v d e cs,f t->Gr F H d e->R K d B t v cs->au d e cs->(∀p∈cs,H p.1=È\/p∈a\/p∈b)->Q v e)->r x y H Q
def wj(o:eE K k r pr)(L:bF K k ta pa)(M:bF K k tb pb):bF K k `cj `cZ:=λF B H j i Q E c p q=>by
 show L F B H j i _ _ c p λx v f A I p1 d=>?_
 show M f B A j i _ _ `el p1 λy u l C J p2 a=>?_
 show o l B C v u x y I J Q E a.g.s (λk=>((c.b k).trans d.g.h).trans a.g.h) (λh=>a.g.fz<|d.g.fz<|c.z h) (d.r.mo a.g.le (λk=>Le.refl<|B k) x) a.r (d.c.gr a.g) a.c (λp N q O e=>by have:=d.c.h p N;rw[e,a.n q O] at this;cases this) p2 λt v' w D cs U g Y G n=>?_
 show q t v' w D cs U #[(d.g.trans' a.g).trans' g,Y,G,λp m=>?_];rcases n p m with z |z |z
 .show (d.g.h.trans a.g.h).free z
 .show d.n p z
 .show d.g.h.free (a.n p z)
abbrev p1(b:Tr->(az)->Prop)(a:bh):bh:=λj Q=>a j λx=>b x Q
abbrev Bv(K:aq)(k:Md)(r:V->Hp->VK->Prop)(g:Tr->(az)->Prop):Prop:=∀(F:Hp)(B:Bool->Hp)(H:Hp)(x:V)(f:Tr)(d:Cs)(Q:VK)(e:az),aE F H->(∀k,aE (B k) H)->(k.z=Â->Fz S0 F)->R K F B f x d->au F H d->g f e->
 (∀t v a b cs,e t->Gr F H a b->R K a B t v cs->au a b cs->(∀p∈cs,H p.1=È\/p∈d)->Q v b)->r x H Q
def Xf(o:Bv K k r pr)(A:bF K k ta pa):bF K k (Jn r ta) (p1 pr pa):=λF B H j i Q u c p q=>by
 show A F B H j i _ _ c p λx v d f y p1 a=>?_
 show o d B f v x y Q u a.g.s (λk=>(c.b k).trans a.g.h) (λh=>a.g.fz<|c.z h) a.r a.c p1 λt E e l cs C g D w n=>?_
 show q t E e l cs C #[a.g.trans' g,D,w,λp m=>?_];rcases n p m with z |z
 .show a.g.h.free z
 .show a.n p z
abbrev vk:cj:=λ_ Q=>Q []
abbrev xw(pe:bh)(a:cj):cj:=λj Q=>pe j λx=>a j λb=>Q (x::b)
def GB:eY K k jK vk:=λF B H j i Q a c p q=>q [] [] F H [] p #[Gr.aS c.s,#[rfl,rfl],.nil,.nil]
def RY(h:bF K k te pe)(y:eY K k ta pa):eY K k (jI te ta) (xw pe pa):=λF B H j i Q E c p q=>by
 show h F B H j i _ _ c p λx v l u d p1 a=>?_
 show y l B u j i _ _ `em p1 λD vs o w f p2 b=>?_
 show q (x::D) (v::vs) o w (d++f) p2 #[a.g.trans' b.g,#[v,vs,d,f,rfl,rfl,a.r.mo b.g.le (λk=>Le.refl<|B k) x,b.r],(a.c.gr b.g).app b.c λp A q C e=>?_,λp m=>?_]
 .have:=a.c.h p A;rw[e,b.n q C] at this;cases this
 .rcases Æ.mp m with m |m
  .show a.n p m
  .show a.g.h.free (b.n p m)
def Rs.length:∀{t:af}{v:ay}{cs:Cs},Rs K F B t v cs->↑v=↑t
 |[],_,_,y=>by let#[h,_]:=y;rw[h];rfl
 |x::xs,_,_,y=>by let#[v,r,c,d,a,e,f,b]:=y;rw[a,Ú,Ú,Rs.length b]
def Rs.at:∀{t:af}{v:ay}{cs:Cs}{i:Nat}{x:Tr},Rs K F B t v cs->t[i]?=À x->∃u c,v[i]?=À u/\R K F B x u c/\∀p∈c,p∈cs
 |x::xs,_,_,0,y,y0,h=>by
  let#[v,r,c,d,a,b,f,g]:=y0;cases h;show#[v,c,by rw[a];rfl,f,λp m=>by rw[b];show Æ.mpr<|.inl m]
 |x::xs,_,_,i + 1,y,y0,h=>by
  ∎;let#[v,r,c,d,a,b,f,g]:=y0;let#[u,e,j,l,n]:=Rs.at (i:=i) g h;∎;show#[u,e,by rw[a];show j,l,λp m=>by rw[b];show Æ.mpr<|.inr<|n p m]
def Rs.at':∀{t:af}{v:ay}{cs:Cs}{i:Nat}{x:Tr},Rs K F B t v cs->au F H cs->t[i]?=À x->∃u c,v[i]?=À u/\R K F B x u c/\au F H c/\∀p∈c,p∈cs
 |x::xs,_,_,0,y,y0,hc,h=>by
  let#[v,r,c,d,b,a,f,g]:=y0;cases h;rw[a] at hc;show#[v,c,by rw[b];rfl,f,hc.left,λp m=>by rw[a];show Æ.mpr<|.inl m]
 |x::xs,_,_,i + 1,y,y0,hc,h=>by
  let#[v,r,c,d,b,a,f,g]:=y0;rw[a] at hc;let#[u,e,j,l,n,o]:=Rs.at' (i:=i) g hc.right h;show#[u,e,by rw[b];show j,l,n,λp m=>by rw[a];show Æ.mpr<|.inr<|o p m]
def Rk.keys:∀{t:bz}{v:bL}{cs:Cs},Rk K F B t v cs->v.map (·.1)=t.map (·.1)
 |[],_,_,y=>by let#[h,_]:=y;rw[h];rfl
 |(k,x)::xs,_,_,y=>by let#[v,r,c,d,a,e,f,b]:=y;rw[a,ë,ë,Rk.keys b]
def Rk.length(h:Rk K F B t v cs):↑v=↑t:=by have:=ap2 İ h.keys;simpa using this
abbrev look(m:bz)(k:aW):Option Tr:=(m.find? λp=>decide<|p.1=k).map (·.2)
def Rk.look:∀{t:bz}{v:bL}{cs:Cs}(k:aW),Rk K F B t v cs->au F H cs->(look t k=È/\gy v k=È)\/∃x u c,look t k=À x/\gy v k=À u/\R K F B x u c/\au F H c/\∀p∈c,p∈cs
 |[],_,_,k,y,_=>by let#[h,_]:=y;show .inl #[rfl,by rw[h];rfl]
 |(k',x)::xs,_,_,k,y,hc=>by
  let#[v,r,c,d,b,a,q,w]:=y;rw[a] at hc;by_cases e:k'=k
  .show .inr #[x,v,c,?_,?_,q,hc.left,λp m=>by rw[a];show Æ.mpr<|.inl m]
   .unfold Pu.look;rw[ai2<|by simpa using e];rfl
   .unfold gy;rw[b,ai2<|by simpa using e];rfl
  .have e1:Pu.look ((k',x)::xs) k=Pu.look xs k:=by unfold Pu.look;rw[ai1<|by simpa using e]
   have o:gy ((k',v)::r) k=gy r k:=by unfold gy;rw[ai1<|by simpa using e]
   rw[b,e1,o];rcases Rk.look (t:=xs) (v:=r) (cs:=d) k w hc.right with z |⟨y,u,n,f,g,i,j,l⟩
   .show .inl z
   .show .inr ⟨y,u,n,f,g,i,j,λp m=>by rw[a];show Æ.mpr (.inr (l p m))⟩
def R.cZ(s:aE F H)(b:∀k,aE (B k) H)(r:R K F B `ar v cs)(c:au F H cs):∃a vs e,v=.ref a/\bE K H a vs/\Rs K F B xs vs e/\au F H e/\∀p∈e,p∈cs:=by
 cases f with
 |f=>let#[z,a,vs,g,d,i]:=r;show#[a,vs,[],g,s.seq d,i,.nil,λ_ m=>nomatch m]
 |l k=>let#[z,a,vs,g,d,i]:=r;show#[a,vs,[],g,(b k).seq d,i,.nil,λ_ m=>nomatch m]
 |o=>
  let#[a,vs,e,g,d,i]:=r;rw[d] at c;show#[a,vs,e,g,bE.of<|c.h _<|.head _,i,au.right (c:=[_]) c,λp m=>by rw[d];show .tail _ m]
def R.eA(s:aE F H)(r:R K F B `av v cs):∃a vs,v=.ref a/\df K H a vs/\Rs K F B xs vs cs:=by
 let#[a,vs,b,d,e]:=r;show#[a,vs,b,s.aL d,e]
def R.h9(s:aE F H)(b:∀k,aE (B k) H)(r:R K F B `bn v cs)(c:au F H cs):∃a vs e,v=.ref a/\Rd H a `aD/\Rk K F B xs vs e/\au F H e/\∀p∈e,p∈cs:=by
 cases f with
 |f=>let#[z,a,vs,g,d,i,_]:=r;show#[a,vs,[],g,s.rd d,i,.nil,λ_ m=>nomatch m]
 |l k=>let#[z,a,vs,g,d,i,_]:=r;show#[a,vs,[],g,(b k).rd d,i,.nil,λ_ m=>nomatch m]
 |o=>
  let#[a,vs,e,g,d,i,_]:=r;rw[d] at c;show#[a,vs,e,g,Rd.of<|c.h _<|.head _,i,au.right (c:=[_]) c,λp m=>by rw[d];show .tail _ m]
def R.pD(s:aE F H)(b:∀k,aE (B k) H)(r:R K F B (.ins f C xs) v cs)(c:au F H cs):∃a d vs g,v=.ref a/\Rd H a (.ins C d vs)/\Rf K F B xs vs g/\au F H g/\∀p∈g,p∈cs:=by
 cases f with
 |f=>let#[z,a,d,vs,i,e,j]:=r;show#[a,d,vs,[],i,s.rd e,j,.nil,λ_ m=>nomatch m]
 |l k=>let#[z,a,d,vs,i,e,j]:=r;show#[a,d,vs,[],i,(b k).rd e,j,.nil,λ_ m=>nomatch m]
 |o=>
  let#[a,d,vs,g,i,e,j]:=r;rw[e] at c;show#[a,d,vs,g,i,Rd.of<|c.h _<|.head _,j,au.right (c:=[_]) c,λp m=>by rw[e];show .tail _ m]
def sS(s:aE F H)(r:Rs K F B xs vs cs)(c:au F H cs)(hp:H p=È):∃a,Gr F H a (aQ H p<|.aL vs)/\R K a B `av `ak cs/\au a (aQ H p<|.aL vs) cs:=by
 let#[a,g,e]:=sA (o:=.aL vs) s (by intro _ _ z;cases z) hp;show#[a,g,#[p,vs,rfl,df.of e,r.mo g.le (λk=>Le.refl<|B k) xs],c.gr g]
def Gr.il(s:aE F H)(hp:H p=È):Gr F H F `bD:=#[#[aE.aQ hp,aE.refl F,s.pR<|s.free hp,λa u h e=>by rw[h] at e;cases e],Fz.refl F]
def sT(s:aE F H)(c:au F H cs)(hp:H p=È):au F `bD ((p,o)::cs):=
 #[λq m=>by
  cases m with
  |head=>show cD
  |tail _ m=>change aQ H p o q.1=_;rw[a6<|jG (c.h q m) hp];show c.h q m,
 λq m=>by
  cases m with
  |head=>show s.free hp
  |tail _ m=>show c.f q m,
 by
  rw[ë,ē];show#[λm=>?_,c.nd];let#[q,a,e]:=ß.mp m;have e:q.1=p:=e;have:=c.h q a;rw[e,hp] at this;cases this]
abbrev xS(b:cj):bh:=λj Q=>b j λa=>↑a<=10000/\Q (.aL a)
abbrev xT(b:cj):bh:=λj Q=>b j λa=>↑a<=10000/\Q `en
def nL(h:n<=1000000):n<=Ô:=Ñ h ∎
def U3(h:eY K k ta pa):bF K k (DF ta) (xS pa):=λF B H j i Q v c p q=>by
 show h F B H j i _ _ c p λm vs o u e p1 b=>#[by rw[b.r.length];show nL<|Ñ p1.1 ∎,λa l=>?_]
 let#[d,g,r,f]:=sS b.g.s b.r b.c l;show q (.aL m) `aA d _ e p1.2 #[b.g.trans' g,r,f,b.n]
def U4(h:eY K k ta pa):bF K k (DG ta) (xT pa):=λF B H j i Q v c p q=>by
 show h F B H j i _ _ c p λl vs f u e p1 b=>#[by rw[b.r.length];show nL<|Ñ p1.1 ∎,λa d=>?_]
 show q (.ag .o l) `aA f _ ((a,.ag vs)::e) p1.2 #[b.g.trans'<|Gr.il b.g.s d,#[a,vs,e,rfl,rfl,b.r],sT b.g.s b.c d,λp m=>?_];cases m with
 |head=>show b.g.h.free d
 |tail _ m=>show b.n p m
end
end Pu
namespace Pu
open PySem PySem.Spec PyProof.Rows L2 Vc Sf
section
abbrev DS:R2:=λx y H Q=>∃a v,x=.ref a/\ng H a y (À v)/\Q v H
def U5(n:X.A.units+1<Ĭ):kz X DS:=by
 intro value d aa s j H x y v u Q I o p h m;let#[a,z,rfl,g,q]:=h;obtain rfl:v=å a:=o;have i:=NI I g;unfold al9;show Ë ?_;rw[getitemInPython_of_ne i.not_modules];show Ë<|ah5 i PySem.F.slot_dict_getitem.lookup ?_;have b:Ý `aa X.A (subscripted d É `aA u) (λr e=>Ý `aa X.A (letTemporaryGo value `aA r >>= λ_=>pure r) `ap X.xe e) X.xe s:=by
  rw[m];show wpAny_operating<|P4 n I g p λC B l f=>Ë<|wpAny_letTemporaryGo<|Ü #[z,H,l,f,q]
 first
  |show Ü<|Ë b
  |show Ë<|Ü<|Ë b
  |show Ë b
abbrev si(neg:Bool):R2:=λy x H Q=>∃a o,x=.ref a/\ng H a y o/\Q (.bl (if neg then !o.isSome else o.isSome)) H
def Xg(d:X.A.units+1<Ĭ):cu X (ú .In) (si É):=by
 intro aa s j H y x u v Q I f e h;let#[a,o,rfl,g,q]:=h;obtain rfl:v=å a:=e;show J7 d I g f λi b=>#[.bl o.isSome,H,b,rfl,q]
def PD(d:X.A.units+1<Ĭ):cu X `dC (si Â):=by
 intro aa s j H y x u v Q I f e h;let#[a,o,rfl,g,q]:=h;obtain rfl:v=å a:=e;show Uy d I g f λi b=>#[.bl (!o.isSome),H,b,rfl,q]
abbrev Dj(K:aq):R2:=λx y H Q=>jW (λi j=>.int<|i+j) x y H Q\/(λx y H Q=>(λx y H Q=>∃i j,x=.str i/\y=.str j/\↑i+↑j<=Ô/\Q (.str<|i++j) H) x y H Q\/Di K x y H Q) x y H Q
def Ko:cu X `dg (Dj X.K):=LG.or<|Lo.or VQ
abbrev Dk:R2:=λx y H Q=>rI l8 (λi j=>.int<|i*j) x y H Q\/Dh x y H Q
def Kq:cu X `cM Dk:=Lx.or Ph
abbrev DT(K:aq):R2:=λx y H Q=>IU K x y H Q\/DS x y H Q
def J9(a:X.A.units+1<Ĭ):kz X (DT X.K):=LC.or<|U5 a
abbrev DU:R2:=λx y H Q=>jW (λi j=>.bl<|decide<|i<j) x y H Q\/(λx y H Q=>∃i j,x=.str i/\y=.str j/\Q (.bl<|decide<|i.cps.toList<j.cps.toList) H) x y H Q
def pA:cu X (ú .Lt) DU:=LJ.or PY
abbrev DV:R2:=λx y H Q=>jW (λi j=>.bl<|decide<|j<i) x y H Q\/(λx y H Q=>∃i j,x=.str i/\y=.str j/\Q (.bl<|decide<|j.cps.toList<i.cps.toList) H) x y H Q
def qZ:cu X (ú .Gt) DV:=LK.or Py
end
section
variable{K:aq}{F F' H H':Hp}{B B':Bool->Hp}{k:Md}
abbrev jJ(C:Int->Int->Prop)(g:Int->Int->Tr)(x y:Tr)(Q:az):Prop:=match x,y with
 |.int i,.int j=>C i j /\ Q `cx
 |_,_=>False
def AF{g:Int->Int->V}{t:Int->Int->Tr}(h:∀i j F B,R K F B (t i j) `cx []):eE K k (rI C g) (jJ C t):=λF B H x y r ty f l Q e s b z a d n o hd p q=>by
 unfold jJ at p;split at p
 .obtain⟨rfl,_⟩:=a;let#[rfl,_]:=d;show#[_,_,rfl,rfl,p.1,q _ _ F H [] p.2 `ah (h _ _ F B) .nil λ_ m=>nomatch m]
 .show p.elim
def HF{g:Int->Int->V}{t:Int->Int->Tr}(h:∀i j F B,R K F B (t i j) `cx []):eE K k (jW g) (jJ (λ_ _=>True) t):=λF B H x y r ty f l Q e s b z a d n o hd p q=>by
 unfold jJ at p;split at p
 .obtain⟨rfl,_⟩:=a;let#[rfl,_]:=d;show#[_,_,rfl,rfl,q _ _ F H [] p.2 `ah (h _ _ F B) .nil λ_ m=>nomatch m]
 .show p.elim
abbrev vl(x y:Tr)(Q:az):Prop:=match x,y with
 |.int i,.int j=>Q<|.int<|i + j
 |.str i,.str j=>↑i + ↑j <= 1000000 /\ Q (.str<|i ++ j)
 |.ag _ xs,.ag _ ys=>↑xs + ↑ys <= 1000000 /\ Q (.ag .o<|xs ++ ys)
 |_,_=>False
def Rs.append:∀{xs ys:af}{vs us:ay}{c d:Cs},Rs K F B xs vs c->Rs K F B ys us d->Rs K F B (xs++ys) (vs++us) (c++d)
 |[],_,_,_,_,_,y,h=>by let#[a,b]:=y;rw[a,b];show h
 |x::xs,_,_,_,_,_,y,h=>by let#[v,r,c,d,a,b,e,f]:=y;rw[a,b];show#[v,r ++ _,c,d ++ _,rfl,by rw[ô],e,Rs.append f h]
def mh(s:aE F H)(r:Rs K F B xs vs cs)(c:au F H cs)(hp:H p=È):Gr F H F (aQ H p<|.ag vs)/\R K F B `aE `ak ((p,.ag vs)::cs)/\au F (aQ H p<|.ag vs) ((p,.ag vs)::cs):=
 #[Gr.il s hp,#[p,vs,cs,rfl,rfl,r],sT s c hp]
def U6:eE K k (Dj K) vl:=λF B H x y M ty U Y Q N s b z d e C D hd p q=>by
 cases M with
 |int i=>
  cases ty with
  |int j=>
   let#[rfl,_]:=d;let#[rfl,_]:=e;show .inl #[_,_,rfl,rfl,q _ _ F H [] p `ah #[rfl,rfl] .nil λ_ m=>nomatch m]
  |_=>show ò p
 |str i=>
  cases ty with
  |str j=>
   let#[rfl,_]:=d;let#[rfl,_]:=e;show .inr (.inl #[_,_,rfl,rfl,nL p.1,q _ _ F H [] p.2 `ah #[rfl,rfl] .nil λ_ m=>nomatch m])
  |_=>show ò p
 |ag f xs=>
  cases ty with
  |ag f' ys=>
   ∎;let#[a,vs,ds,rfl,w,n,A,o]:=d.cZ s b C;let#[O,us,es,rfl,u,g,v,h]:=e.cZ s b D;∎;show .inr (.inr #[_,_,_,_,rfl,rfl,w,u,nL (by rw[n.length,g.length];show p.1),λl r=>?_]);let#[I,J,L]:=mh s (n.append g) (A.app v λp E q G=>hd p (o p E) q<|h q G) r;show q _ _ F _ _ p.2 I J L λp m=>?_
   cases m with
   |head=>show .inl r
   |tail _ m=>show (Æ.mp m).elim (λm=>.inr<|.inl<|o p m)<|λm=>.inr<|.inr<|h p m
  |_=>show ò p
 |_=>show ò p
abbrev vm(x y:Tr)(Q:az):Prop:=match x,y with
 |.int i,.int j=>l8 i j /\ Q (.int<|i * j)
 |_,_=>False
def U7:eE K k Dk vm:=λF B H x y j ty f g Q e s b z a d h i hd p q=>by
 unfold vm at p;split at p
 .obtain⟨rfl,_⟩:=a;let#[rfl,_]:=d;show .inl #[_,_,rfl,rfl,p.1,q _ _ F H [] p.2 `ah #[rfl,rfl] .nil λ_ m=>nomatch m]
 .show p.elim
abbrev qq:Tr->Option aW
 |.int n=>À<|.inl n
 |.str x=>À<|.inr x
 |_=>È
def wk(r:R K F B t v cs)(h:qq t=À y):v=kV y:=by
 cases t with
 |int n=>cases h;show r.1
 |str n=>cases h;show r.1
 |_=>cases h
abbrev gA(x y:Tr)(Q:az):Prop:=match x,y with
 |.aL xs,.int i=>(match cS xs i with |some t=>Q t |none=>False)
 |.ag _ xs,.int i=>(match cS xs i with |some t=>Q t |none=>False)
 |.str x,.int i=>↑x <= 1000000 /\ (match cS x.cps.toList i with |some c=>Q (.str #[([c].toArray)]) |none=>False)
 |.aP _ m,y=>(match qq y with |some y=>(match look m y with |some t=>Q t |none=>False) |none=>False)
 |_,_=>False
def Rs.cS(r:Rs K F B xs vs cs)(c:au F H cs)(h:L2.cS xs i=À t):∃u d,L2.cS vs i=À u/\R K F B t u d/\au F H d/\∀p∈d,p∈cs:=by
 unfold L2.cS at h ⊢;rw[r.length];cases e:iJ ↑xs i with
 |none=>rw[e] at h;cases h
 |some j=>rw[e] at h;show r.at' c h
def U8:eE K k (DT K) gA:=λF B H x y O ty Y cy Q D s b z j l C hy hd p q=>by
 cases O with
 |aL U=>
  cases ty with
  |int i=>
   unfold gA at p;dsimp only at p;let#[rfl,_]:=l;split at p
   .rename_i e;∎;let#[a,vs,rfl,g,h]:=j.eA s;let#[u,d,n,o,r,v]:=h.cS C e;∎;show .inl<|.inr<|.inl #[_,_,_,_,rfl,rfl,g,n,q _ _ F H d p (Gr.aS s) o r λp m=>.inr<|.inl<|v p m]
   .show p.elim
  |_=>show ò p
 |ag f U=>
  cases ty with
  |int i=>
   unfold gA at p;dsimp only at p;let#[rfl,_]:=l;split at p
   .rename_i e;∎;let#[a,vs,M,rfl,g,h,w,A]:=j.cZ s b C;let#[u,d,n,o,r,v]:=h.cS w e;∎;show .inl<|.inl #[_,_,_,_,rfl,rfl,g,n,q _ _ F H d p (Gr.aS s) o r λp m=>.inr<|.inl<|A p<|v p m]
   .show p.elim
  |_=>show ò p
 |str x=>
  cases ty with
  |int i=>
   unfold gA at p;dsimp only at p;∎;let#[rfl,_]:=l;let#[rfl,_]:=j;let#[N,p]:=p;∎;split at p
   .rename_i e;show .inl (.inr (.inr #[_,_,_,rfl,rfl,nL N,e,q _ _ F H [] p `ah #[rfl,rfl] .nil λ_ m=>nomatch m]))
   .show p.elim
  |_=>show ò p
 |aP f m=>
  have p:(match qq ty with |some y=>(match look m y with |some t=>D t |none=>False) |none=>False):=by cases ty<;>show p
  split at p
  .rename_i e;split at p
   .rename_i e';let#[a,vs,M,rfl,g,h,w,A]:=j.h9 s b C;obtain rfl:=wk l e;rcases h.look _ w with⟨z,_⟩ |⟨x,u,c,E,G,I,J,L⟩
    .rw[z] at e';cases e'
    .rw[E] at e';cases e';show .inr #[a,u,rfl,.inl #[vs,_,g,rfl,G.symm],q _ _ F H c p `ah I J λp m=>.inr<|.inl<|A p<|L p m]
   .show p.elim
  .show p.elim
 |_=>show ò p
abbrev Bp(x y:Tr)(Q:az):Prop:=match x,y with
 |.int i,.int j=>Q<|.bl<|decide<|i < j
 |.str i,.str j=>Q<|.bl<|decide<|i.cps.toList < j.cps.toList
 |_,_=>False
def oO:eE K k DU Bp:=λF B H x y j ty f g Q e s b z a d h i hd p q=>by
 unfold Bp at p;split at p
 .obtain⟨rfl,_⟩:=a;let#[rfl,_]:=d;show .inl #[_,_,rfl,rfl,q _ _ F H [] p `ah #[rfl,rfl] .nil λ_ m=>nomatch m]
 .obtain⟨rfl,_⟩:=a;let#[rfl,_]:=d;show .inr #[_,_,rfl,rfl,q _ _ F H [] p `ah #[rfl,rfl] .nil λ_ m=>nomatch m]
 .show p.elim
abbrev Bo(x y:Tr)(Q:az):Prop:=match x,y with
 |.int i,.int j=>Q<|.bl<|decide<|j < i
 |.str i,.str j=>Q<|.bl<|decide<|j.cps.toList < i.cps.toList
 |_,_=>False
def qV:eE K k DV Bo:=λF B H x y j ty f g Q e s b z a d h i hd p q=>by
 unfold Bo at p;split at p
 .obtain⟨rfl,_⟩:=a;let#[rfl,_]:=d;show .inl #[_,_,rfl,rfl,q _ _ F H [] p `ah #[rfl,rfl] .nil λ_ m=>nomatch m]
 .obtain⟨rfl,_⟩:=a;let#[rfl,_]:=d;show .inr #[_,_,rfl,rfl,q _ _ F H [] p `ah #[rfl,rfl] .nil λ_ m=>nomatch m]
 .show p.elim
def Xh:eE K k (jW λi j=>.bl<|decide<|j<=i) (jJ (λ_ _=>True) λi j=>.bl<|decide<|j<=i):=HF λ_ _ _ _=>#[rfl,rfl]
def U9:eE K k (jW λi j=>.int<|i - j) (jJ (λ_ _=>True) λi j=>.int<|i - j):=HF λ_ _ _ _=>#[rfl,rfl]
def RZ:eE K k (rI dR λi j=>.int<|i.fdiv j) (jJ dR λi j=>.int<|i.fdiv j):=AF λ_ _ _ _=>#[rfl,rfl]
def Va:eE K k (rI (λ_ j=>0<j) λi j=>.int<|i % j) (jJ (λ_ j=>0<j) λi j=>.int<|i % j):=AF λ_ _ _ _=>#[rfl,rfl]
abbrev vn(x:Tr)(Q:az):Prop:=match x with
 |.int i=>Q<|.int (-i)
 |_=>False
def Vb:Bv K k (L2.rU λi=>.int (-i)) vn:=λF B H x g e Q d s b z a f p q=>by
 unfold vn at p;split at p
 .obtain⟨rfl,_⟩:=a;show#[_,rfl,q _ _ F H [] p `ah #[rfl,rfl] .nil λ_ m=>nomatch m]
 .show p.elim
abbrev xx:Tr->Option V
 |.int n=>À `aQ |.bl b=>À `cV |.str x=>À `bS |.aT=>À .aT |_=>È
def wm(r:R K F B t v cs)(h:xx t=À u):v=u:=by
 cases t with
 |int n=>cases h;show r.1
 |bl n=>cases h;show r.1
 |str n=>cases h;show r.1
 |aT=>cases h;show r.1
 |_=>cases h
abbrev sj(neg:Bool)(x y:Tr)(Q:az):Prop:=match xx x,xx y with
 |some u,À v=>yt u v=Â /\ Q (.bl (if neg then !decide (u=v) else decide (u=v)))
 |_,_=>False
def Vd:eE K k Ba (sj É):=λF B H x y j ty f g Q e s b z a d h i hd p q=>by
 unfold sj at p;split at p
 .rename_i e1 e2;obtain rfl:=wm a e1;obtain rfl:=wm d e2;show#[p.1,q _ _ F H [] p.2 `ah #[rfl,rfl] .nil λ_ m=>nomatch m]
 .show p.elim
def Ve:eE K k tY (sj Â):=λF B H x y j ty f g Q e s b z a d h i hd p q=>by
 unfold sj at p;split at p
 .rename_i e1 e2;obtain rfl:=wm a e1;obtain rfl:=wm d e2;show#[p.1,q _ _ F H [] p.2 `ah #[rfl,rfl] .nil λ_ m=>nomatch m]
 .show p.elim
abbrev lU(x:Tr)(Q:Bool->Prop):Prop:=match x with
 |.bl b=>Q b
 |_=>False
abbrev pT(pe:bh):eB:=λj Q=>pe j λx=>lU x Q
def HG(h:bF K k te pe):gz K k (tB te) (pT pe):=λF B H j i Q e c p q=>by
 show h F B H j i _ _ c p λt v b d f p1 a=>?_
 unfold lU at p1;split at p1
 .obtain⟨rfl,_⟩:=a.r;show#[_,rfl,q _ b d p1 a.g]
 .show p1.elim
def PF(h:bF K k te pe):gz K k (u7 te) (pT pe):=HG h
abbrev xU(a pb:eB):eB:=λj Q=>a j λc=>if c=Â then pb j Q else Q É
abbrev AS(a pb:eB):eB:=λj Q=>a j λc=>if c=Â then Q Â else pb j Q
abbrev xV(pa:eB):eB:=λj Q=>pa j λc=>Q (!c)
def Vf(l:gz K k ta pa)(m:gz K k tb pb):gz K k (DH ta tb) (xU pa pb):=λF B H j i Q n c p q=>by
 show l F B H j i _ _ c p λb d e p1 a=>?_
 cases b with
 |true=>rw[ao7 rfl];show m d B e j i _ _ `dZ p1 λb f g p2 h=>q b f g p2<|a.trans' h
 |false=>show q É d e p1 a
def Ya(l:gz K k ta pa)(m:gz K k tb pb):gz K k (Jk ta tb) (AS pa pb):=λF B H j i Q n c p q=>by
 show l F B H j i _ _ c p λb d e p1 a=>?_
 cases b with
 |false=>show m d B e j i _ _ `dZ p1 λb f g p2 h=>q b f g p2<|a.trans' h
 |true=>show q Â d e p1 a
def Vg(f:gz K k ta pa):gz K k (DI ta) (xV pa):=λF B H j i Q g c p q=>f F B H j i _ _ c p λb a d p1 e=>q (!b) a d p1 e
abbrev xy(a pb:bh):bh:=λj Q=>a j λx=>lU x λc=>if c=Â then pb j Q else Q `cS
abbrev xW(a pb:bh):bh:=λj Q=>a j λx=>lU x λc=>if c=Â then Q `cp else pb j Q
def Out.bl(g:Gr F H F1 H1):Out K F B H F1 H1 `cV `cV []:=#[g,#[rfl,rfl],.nil,.nil]
def Out.tr(g:Gr F H F1 H1)(o:Out K F1 B H1 F2 H2 t v cs):Out K F B H F2 H2 t v cs:=#[g.trans' o.g,o.r,o.c,o.n.back g.h]
def R0(l:bF K k ta pa)(m:bF K k tb pb):bF K k (Dp ta tb) (xy pa pb):=λF B H j i Q o c p q=>by
 show l F B H j i _ _ c p λt v d e u p1 a=>?_
 unfold lU at p1;split at p1
 .rename_i b;let#[rfl,_]:=a.r;show#[b,rfl,?_];cases b with
  |true=>show m d B e j i _ _ `em p1 λt v f h cs p2 n=>q t v f h cs p2<|.tr a.g n
  |false=>show q _ _ d e [] p1 (.bl a.g)
 .show p1.elim
def Vh(l:bF K k ta pa)(m:bF K k tb pb):bF K k (Dw ta tb) (xW pa pb):=λF B H j i Q o c p q=>by
 show l F B H j i _ _ c p λt v d e u p1 a=>?_
 unfold lU at p1;split at p1
 .rename_i b;let#[rfl,_]:=a.r;show#[b,rfl,?_];cases b with
  |false=>show m d B e j i _ _ `em p1 λt v f h cs p2 n=>q t v f h cs p2<|.tr a.g n
  |true=>show q _ _ d e [] p1 (.bl a.g)
 .show p1.elim
abbrev AO(b:eB)(a pb:bh):bh:=λj Q=>b j λc=>if c=Â then a j Q else pb j Q
def Vi(n:gz K k tc pc)(l:bF K k ta pa)(m:bF K k tb pb):bF K k (Ji tc ta tb) (AO pc pa pb):=λF B H j i Q o c p q=>by
 show n F B H j i _ _ c p λb g h p1 a=>?_
 cases b with
 |true=>rw[ao7 rfl] at p1 ⊢;show l g B h j i _ _ `dZ p1 λt v d e cs p2 f=>q t v d e cs p2<|.tr a f
 |false=>rw[ao6 ∎] at p1 ⊢;show m g B h j i _ _ `dZ p1 λt v d e cs p2 f=>q t v d e cs p2<|.tr a f
end
end Pu
namespace Pu
open PySem L2 Vc Sf
section
mutual
theorem R.low:∀(t:Tr){v:V}{cs:Cs},bM t=Â->B É=B' É->R K F B t v cs->R K F B' t v cs
 |.int _,_,_,_,_,h=>h
 |.bl _,_,_,_,_,h=>h
 |.str _,_,_,_,_,h=>h
 |.aT,_,_,_,_,h=>h
 |.ar,_,_,_,_,h=>h
 |.ty _,_,_,_,_,h=>h
 |.cl _,_,_,_,_,h=>h
 |.exc _ _,_,_,_,_,h=>h
 |.aL xs,_,_,n,e,y=>by let#[a,vs,b,d,g]:=y;show#[a,vs,b,d,Rs.low xs n e g]
 |.ag .f xs,_,_,n,e,y=>by let#[z,a,vs,b,d,g]:=y;show#[z,a,vs,b,d,Rs.low xs n e g]
 |.ag (.l Â) xs,_,_,n,_,_=>by cases n
 |.ag (.l É) xs,_,_,n,e,y=>by let#[z,a,vs,b,d,g]:=y;show#[z,a,vs,b,by rw[<- e];show d,Rs.low xs n e g]
 |.ag .o xs,_,_,n,e,y=>by let#[a,vs,i,b,d,g]:=y;show#[a,vs,i,b,d,Rs.low xs n e g]
 |.aP .f xs,_,_,n,e,y=>by let#[z,a,vs,b,d,g,m]:=y;show#[z,a,vs,b,d,Rk.low xs n e g,m]
 |.aP (.l Â) xs,_,_,n,_,_=>by cases n
 |.aP (.l É) xs,_,_,n,e,y=>by let#[z,a,vs,b,d,g,m]:=y;show#[z,a,vs,b,by rw[<- e];show d,Rk.low xs n e g,m]
 |.aP .o xs,_,_,n,e,y=>by let#[a,vs,i,b,d,g,m]:=y;show#[a,vs,i,b,d,Rk.low xs n e g,m]
 |.ins .f _ xs,_,_,n,e,y=>by let#[z,a,j,vs,b,d,g]:=y;show#[z,a,j,vs,b,d,Rf.low xs n e g]
 |.ins (.l Â) _ xs,_,_,n,_,_=>by cases n
 |.ins (.l É) _ xs,_,_,n,e,y=>by let#[z,a,j,vs,b,d,g]:=y;show#[z,a,j,vs,b,by rw[<- e];show d,Rf.low xs n e g]
 |.ins .o _ xs,_,_,n,e,y=>by let#[a,j,vs,i,b,d,g]:=y;show#[a,j,vs,i,b,d,Rf.low xs n e g]
theorem Rs.low:∀(t:List Tr){v:List V}{cs:Cs},bY t=Â->B É=B' É->Rs K F B t v cs->Rs K F B' t v cs
 |[],_,_,_,_,h=>h
 |x::xs,_,_,n,e,y=>by
  let#[v,r,c,d,a,b,f,g]:=y;rw[bY,í] at n;show#[v,r,c,d,a,b,R.low x n.1 e f,Rs.low xs n.2 e g]
theorem Rk.low:∀(t:List (aW×Tr)){v:List (aW×V)}{cs:Cs},gK t=Â->B É=B' É->Rk K F B t v cs->Rk K F B' t v cs
 |[],_,_,_,_,h=>h
 |(_,x)::xs,_,_,n,e,y=>by
  let#[v,r,c,d,a,b,f,g]:=y;rw[gK,í] at n;show#[v,r,c,d,a,b,R.low x n.1 e f,Rk.low xs n.2 e g]
theorem Rf.low:∀(t:List (Str×Tr)){v:List (Str×V)}{cs:Cs},fV t=Â->B É=B' É->Rf K F B t v cs->Rf K F B' t v cs
 |[],_,_,_,_,h=>h
 |(_,x)::xs,_,_,n,e,y=>by
  let#[v,r,c,d,a,b,f,g]:=y;rw[fV,í] at n;show#[v,r,c,d,a,b,R.low x n.1 e f,Rf.low xs n.2 e g]
end
mutual
theorem R.dn(b:∀k,Le (B k) G):∀(t:Tr){v:V}{cs:Cs},R K F B t v cs->R K F (λ_=>G) (dn t) v cs
 |.int _,_,_,h=>h
 |.bl _,_,_,h=>h
 |.str _,_,_,h=>h
 |.aT,_,_,h=>h
 |.ar,_,_,h=>h
 |.ty _,_,_,h=>h
 |.cl _,_,_,h=>h
 |.exc _ _,_,_,h=>h
 |.aL xs,_,_,y=>by let#[a,vs,d,e,g]:=y;show#[a,vs,d,e,Rs.dn b xs g]
 |.ag .f xs,_,_,y=>by let#[z,a,vs,d,e,g]:=y;show#[z,a,vs,d,e,Rs.dn b xs g]
 |.ag (.l k) xs,_,_,y=>by let#[z,a,vs,d,e,g]:=y;show#[z,a,vs,d,(b k).ag e,Rs.dn b xs g]
 |.ag .o xs,_,_,y=>by let#[a,vs,i,d,e,g]:=y;show#[a,vs,i,d,e,Rs.dn b xs g]
 |.aP .f xs,_,_,y=>by let#[z,a,vs,d,e,g,m]:=y;show#[z,a,vs,d,e,Rk.dn b xs g,by rw[d9];show m]
 |.aP (.l k) xs,_,_,y=>by let#[z,a,vs,d,e,g,m]:=y;show#[z,a,vs,d,(b k).aP e,Rk.dn b xs g,by rw[d9];show m]
 |.aP .o xs,_,_,y=>by let#[a,vs,i,d,e,g,m]:=y;show#[a,vs,i,d,e,Rk.dn b xs g,by rw[d9];show m]
 |.ins .f _ xs,_,_,y=>by let#[z,a,j,vs,d,e,g]:=y;show#[z,a,j,vs,d,e,Rf.dn b xs g]
 |.ins (.l k) _ xs,_,_,y=>by let#[z,a,j,vs,d,e,g]:=y;show#[z,a,j,vs,d,b k _ _ (by intro _ _ z;cases z) e,Rf.dn b xs g]
 |.ins .o _ xs,_,_,y=>by let#[a,j,vs,i,d,e,g]:=y;show#[a,j,vs,i,d,e,Rf.dn b xs g]
theorem Rs.dn(b:∀k,Le (B k) G):∀(t:List Tr){v:List V}{cs:Cs},Rs K F B t v cs->Rs K F (λ_=>G) (cA t) v cs
 |[],_,_,h=>h
 |x::xs,_,_,y=>by let#[v,r,c,d,a,e,f,g]:=y;show#[v,r,c,d,a,e,R.dn b x f,Rs.dn b xs g]
theorem Rk.dn(b:∀k,Le (B k) G):∀(t:List (aW×Tr)){v:List (aW×V)}{cs:Cs},Rk K F B t v cs->Rk K F (λ_=>G) (iH t) v cs
 |[],_,_,h=>h
 |(_,x)::xs,_,_,y=>by let#[v,r,c,d,a,e,f,g]:=y;show#[v,r,c,d,a,e,R.dn b x f,Rk.dn b xs g]
theorem Rf.dn(b:∀k,Le (B k) G):∀(t:List (Str×Tr)){v:List (Str×V)}{cs:Cs},Rf K F B t v cs->Rf K F (λ_=>G) (jm t) v cs
 |[],_,_,h=>h
 |(_,x)::xs,_,_,y=>by let#[v,r,c,d,a,e,f,g]:=y;show#[v,r,c,d,a,e,R.dn b x f,Rf.dn b xs g]
theorem d9:∀(xs:List (aW×Tr)),(iH xs).map (·.1)=xs.map (·.1)
 |[]=>rfl
 |(_,_)::xs=>by change _::_=_::_;rw[d9 xs]
end
def nv:∀(xs:af),(cA xs).length=↑xs
 |[]=>rfl
 |_::xs=>by change (cA xs).length + 1=_;rw[nv xs];rfl
end
structure bj(K:aq)(k:Md)(lo:Nat)(us:ay)(Fb Hb F H:Hp)(G:St)(J:af)(cs:Nat->Cs):Prop where
 g:Gr Fb Hb F H
 z:k.z=Â->Fz S0 F
 l:↑G=↑J
 e:∀(i:Nat)(t:Tr),J[i]?=À t->t=.ar\/∃v,G[i]?=À (À v)/\R K F (λ_=>Hb) t v (cs i)
 c:∀i,au F H<|cs i
 n:∀i,dy Hb<|cs i
 d:∀i j,i≠j->∀p∈cs i,∀q∈cs j,p.1≠q.1
 p:∀i,i<lo->G[i]?=(us[i]?).map À
 x:∀x G' F' H',k.q x->∀d,XF K F' d x.f->Gr Fb Hb F' H'->k.E G' x.c d H'
section
abbrev Bq(Hb H:Hp):Bool->Hp:=λb=>if b then H else Hb
def bj.fm(W:bj K k lo us Fb Hb F H j G cs):iq K k F `cC H j `eo where
 s:=W.g.s
 b:=λb=>by
  cases b with
  |true=>show aE.refl H
  |false=>show W.g.h
 z:=W.z
 e:=λi t h=>by
  rw[Ê] at h;cases q:G[i]? with
  |none=>rw[q] at h;cases h
  |some u=>
   rw[q] at h;cases h;rcases W.e i u q with rfl |⟨v,l,n⟩
   .show .inl rfl
   .show .inr ⟨v,l,n.aK (λb=>?_) u λp m=>(W.c i).h p m⟩;cases b with
    |true=>show Le.of W.g.h
    |false=>show Le.refl _
 x:=λx a f q d y g=>W.x x j a f q d y<|W.g.trans' g
def bj.gr(W:bj K k lo us Fb Hb F H j G cs)(g:Gr F H F' H'):bj K k lo us Fb Hb F' H' j G cs:=
 #[W.g.trans' g,λh=>g.fz<|W.z h,W.l,λi t h=>(W.e i t h).imp id λ⟨v,h1,h2⟩=>#[v,h1,h2.mo g.le (λ_=>Le.refl _) t],λi=>(W.c i).gr g,W.n,W.d,W.p,W.x]
def bj.set{i:Nat}{t:Tr}{v:V}{c:Cs}(W:bj K k lo us Fb Hb F H G J cs)(A:lo<=i)(r:R K F (λ_=>Hb) t v c)(y:au F H c)(n:dy Hb c)(d:∀j,j≠i->∀p∈cs j,∀q∈c,p.1≠q.1):
  bj K k lo us Fb Hb F H (G.set i<|À v) `cD (λj=>if j=i then c else cs j) where
 g:=W.g
 z:=W.z
 l:=by rw[ď,ď];show W.l
 e:=λj u h=>by
  by_cases e:j=i
  .subst e;have w:j<↑J:=by have:=(Á.mp h).1;rw[ď] at this;show this
   rw[Ĉ w] at h;cases h;show .inr #[v,Ĉ (by rw[W.l];show w),by rw[ao7 rfl];show r]
  .rw[ć<|λz=>e z.symm] at h;rw[ao6 e];show (W.e j u h).imp id λ⟨v,h1,h2⟩=>#[v,by rw[ć<|λz=>e z.symm];show h1,h2]
 c:=λj=>by
  split
  .show y
  .show W.c j
 n:=λj=>by
  split
  .show n
  .show W.n j
 d:=λa b ne p o q f=>by
  by_cases m:a=i
  .rw[ao7 m] at o;rw[ao6<|λz=>ne<|m.trans z.symm] at f;show (d b (λz=>ne<|m.trans z.symm) q f p o).symm
  .rw[ao6 m] at o;by_cases eb:b=i
   .rw[ao7 eb] at f;show d a m p o q f
   .rw[ao6 eb] at f;show W.d a b ne p o q f
 p:=λj h=>by rw[ć ⋯];show W.p j h
 x:=W.x
def bj.out{i:Nat}{t:Tr}{v:V}{c:Cs}(W:bj K k lo us Fb Hb F H G J cs)(o:Out K F `cC H F' H' t v c)(a:lo<=i)(n:bM t=Â):
  bj K k lo us Fb Hb F' H' (G.set i<|À v) `cD (λj=>if j=i then c else cs j):=
 (W.gr o.g).set a (o.r.low t n rfl) o.c (λp m=>W.g.h.free<|o.n p m) λj _ p b q d e=>by
  have:=(W.c j).h p b;rw[e,o.n q d] at this;cases this
end
structure Pd where
 nx:aA
 rt:Tr->aA
 bk:aA:=λ_=>False
 ct:aA:=λ_=>False
nonrec abbrev cB:=Pd->aA
structure Lk(K:aq)(k:Md)(lo:Nat)(us:ay)(Fb Hb:Hp)(D:iR)(D':Pd):Prop where
 nx:∀F H j G cs,bj K k lo us Fb Hb F H j G cs->D'.nx G->D.nx j H
 rt:∀F H j G cs v t c,bj K k lo us Fb Hb F H j G cs->R K F (λ_=>Hb) t v c->au F H c->dy Hb c->(∀i,∀p∈cs i,∀q∈c,p.1≠q.1)->cI t=Â->D'.rt t G->D.rt v H
 bk:∀F H j G cs,bj K k lo us Fb Hb F H j G cs->D'.bk G->D.bk j H
 ct:∀F H j G cs,bj K k lo us Fb Hb F H j G cs->D'.ct G->D.ct j H
abbrev c6(K:aq)(k:Md)(lo:Nat)(f:TS)(e:cB):Prop:=∀(us:ay)(b d F H:Hp)(j:St)(i:af)(cs:Nat->Cs)(D:iR)(a:Pd),bj K k lo us b d F H j i cs->e a i->Lk K k lo us b d D a->f D j H
section
abbrev vo(p q:cB):cB:=λD j=>p { D with nx:=q D } j
abbrev xA:cB:=λD j=>D.nx j
def Vj(h:c6 K k lo t p)(h':c6 K k lo u q):c6 K k lo (vf t u) (vo p q):=λus a b F H j i cs D d W p L=>
 h us a b F H j i cs _ _ W p #[λF H j i cs W q=>h' us a b F H j i cs D d W q L,L.rt,L.bk,L.ct]
def R1:c6 K k lo Dq xA:=λus b d F H j i cs D a W p L=>L.nx F H j i cs W p
abbrev xX(i:Nat)(pe:bh):cB:=λD j=>pe `ae λt=>bM t=Â/\D.nx (j.set i t)
def Vk(e:lo<=i)(h:bF K k te pe):c6 K k lo (mf te<|j5 i) (xX i pe):=λus g d F H j G cs D f W p L=>by
 show h F `cr H j _ _ _ W.fm p λt v a b c q o=>?_
 show L.nx a b _ _ _ (W.out o e q.1) q.2
abbrev xB(pe:bh):cB:=λD j=>pe `ae λ_=>D.nx j
def R3(h:bF K k te pe):c6 K k lo (rT te) (xB pe):=λus f d F H j i cs D e W p L=>
 h F `cr H j _ _ _ W.fm p λt v a b c q o=>L.nx a b _ _ _ (W.gr o.g) q
abbrev xY(pe:bh):cB:=λD j=>pe `ae λt=>cI t=Â/\D.rt t j
def Vl(h:bF K k te pe):c6 K k lo (yo te) (xY pe):=λus w d F H j G cs D u W p L=>by
 show h F `cr H j _ _ _ W.fm p λt v a b c q o=>?_
 show L.rt a b j G cs v t c (W.gr o.g) (o.r.base t q.1) o.c (λp m=>W.g.h.free<|o.n p m) (λi p f q l e=>?_) q.1 q.2;have:=(W.c i).h p f;rw[e,o.n q l] at this;cases this
abbrev xZ(a:eB)(p q:cB):cB:=λD j=>a `ae λb=>if b=Â then p D j else q D j
def Yb(m:gz K k tc pc)(h:c6 K k lo t p)(h':c6 K k lo u q):c6 K k lo (Dx tc t u) (xZ pc p q):=λus f a F H j i cs D d W p L=>by
 show m F `ea H j _ _ _ W.fm p λb e l q g=>?_
 cases b with
 |true=>show h us f a e l j i cs D d `eb q L
 |false=>show h' us f a e l j i cs D d `eb q L
abbrev DW(e:eB)(pb:cB):cB:=λD j=>∃I:Nat->aA,(∃m,I m j)/\∀m j,I m j->e `ae λb=>if b=Â then pb { D with nx:=λd=>∃a,a<m/\I a d,ct:=λd=>∃a,a<m/\I a d,bk:=D.nx } j else D.nx j
def Vm(v:gz K k tc pc)(u:c6 K k lo tb pb):c6 K k lo (CB tc tb) (DW pc pb):=λus e d F H j G cs D y W p L=>by
 let#[I,#[x,w],step]:=p;show#[λm j H=>∃F G cs,bj K k lo us e d F H j G cs/\I m G,#[x,F,G,cs,W,w],?_];intro m j H zy;let#[F,G,cs,W,i]:=zy;show v F `cr H j _ _ _ W.fm (step m G i) λb f o q g=>?_
 cases b with
 |false=>show L.nx f o j G cs `eb q
 |true=>
  show#[λr n=>∃a,a<m/\∃F G cs,bj K k lo us e d F n r G cs/\I a G,λr n h=>h,?_];show u us e d f o j G cs _ _ `eb q #[?_,L.rt,?_,?_]
  .show λF H j G cs W ⟨a,l,i⟩=>#[a,l,F,G,cs,W,i]
  .show L.nx
  .show λF H j G cs W ⟨a,l,i⟩=>#[a,l,F,G,cs,W,i]
end
nonrec abbrev gm:=af->(Tr->aA)->Prop
nonrec abbrev iA:=af->(Tr->aA)->(Xv->Prop)->Prop
abbrev jc(K:aq)(z:Bool)(lo n:Nat)(l:iA):Sp:=λvs H Q E=>↑vs=n/\∃(F b:Hp)(h:af)(cs:Nat->Cs)(f:Tr->aA)(q:Xv->Prop),bj K #[z,λ_=>E,q] lo vs F b F H (vs.map À) h cs/\l h f q/\
 ∀d e j g a v t c,bj K #[z,λ_=>E,q] lo vs F b d e j g a->R K d (λ_=>b) t v c->au d e c->dy b c->(∀i,∀p∈a i,∀q∈c,p.1≠q.1)->cI t=Â->f t g->Q v e
abbrev bP(K:aq)(z:Bool)(lo n:Nat)(a:gm):Sp:=jc K z lo n λb Q _=>a b Q
def bj.md(W:bj K k lo us Fb Hb F H j i cs)(hz:k'.z=Â->k.z=Â)(x:∀x m a b,k'.q x->∀d,XF K a d x.f->Gr Fb Hb a b->k'.E m x.c d b):bj K k' lo us Fb Hb F H j i cs:=#[W.g,λh=>W.z<|hz h,W.l,W.e,W.c,W.n,W.d,W.p,x]
section
def bj.start(N:ah)(b:lo<=↑vs)(W:bj K k lo us Fb Hb F H (vs.map À) j cs):bj K k lo us Fb Hb F H `aX (j++Ó (↑N - ↑j) .ar) cs where
 g:=W.g
 z:=W.z
 l:=by
  have:=W.l;rw[Å] at this;change (vs.map À++Ó (↑N - ↑vs) È).length=_;rw[Ò,Ò,á,á,Å,this]
 e:=λi t h=>by
  have a:=W.l;rcases Nat.lt_or_ge i ↑j with z |z
  .rw[î z] at h;show (W.e i t h).imp id λ⟨v,h1,h2⟩=>#[v,by change (vs.map À++Ó (↑N - ↑vs) È)[i]?=_;rw[î (by rw[a];show z)];show h1,h2]
  .rw[ç z] at h;have m:=Î h;show .inl (List.mem_replicate.mp m).2
 c:=W.c
 n:=W.n
 d:=W.d
 p:=λi h=>by
  have e:=W.p i h;change (vs.map À++Ó (↑N - ↑vs) È)[i]?=_;rw[î (by rw[Å];omega)];show e
 x:=W.x
end
def Rs.split:∀{n:af}{vs:ay}{c:Cs},Rs K F B n vs c->au F H c->∃cs:Nat->Cs,(∀(i:Nat)(t:Tr),n[i]?=À t->∃v,vs[i]?=À v/\R K F B t v (cs i))/\(∀i,∀p∈cs i,p∈c)/\(∀i,au F H<|cs i)/\∀i j,i≠j->∀p∈cs i,∀q∈cs j,p.1≠q.1
 |[],_,_,_,_=>#[λ_=>[],λi t h=>(by cases h),λ_ _ m=>(nomatch m),λ_=>.nil,λ_ _ _ _ m=>nomatch m]
 |x::xs,_,_,y,hc=>by
  let#[v,r,c,d,g,l,E,G]:=y;rw[l] at hc;let#[cs,o,e,w,A]:=Rs.split G hc.right;have f:∀p∈c,∀q∈d,p.1≠q.1:=λp a q b=>by
   have:=hc.nd;rw[Û,Ĵ] at this;show this.2.2 _ (ß.mpr #[p,a,rfl]) _<|ß.mpr #[q,b,rfl]
  show#[λi=>match i with |0=>c |j+1=>cs j,λi t h=>?_,λi p m=>?_,λi=>?_,λi j ne p a q b=>?_]
  .cases i with
   |zero=>cases h;show#[v,by rw[g];rfl,E]
   |succ j=>let#[u,C,D]:=o j t h;show#[u,by rw[g];show C,D]
  .rw[l];cases i with
   |zero=>show Æ.mpr<|.inl m
   |succ j=>show Æ.mpr<|.inr<|e j p m
  .cases i with
   |zero=>show hc.left
   |succ j=>show w j
  .cases i with
   |zero=>
    cases j with
    |zero=>show ao8 rfl ne
    |succ j=>show f p a q<|e j q b
   |succ i=>
    cases j with
    |zero=>show (f q b p<|e i p a).symm
    |succ j=>show A i j (λz=>ne<|by rw[z]) p a q b
section
def Vn{a9:gm}(F:ir K x qual st f fd)(S:bS N ps `aT)(hn:↑ps=n)(I:lo<=n)(e:∀(bH:ao)(A:ĉ)(outer:cH)(s:aj)(H:Hp)(E:XK),bA m (A.deeper<|Ę qual (bD st) ⇑s f bH)->
   ∃o pb,fR (kc bI P w K mg base N qual `aT f bH A outer s H E).rf `bw o/\c6 K (Md.base z) lo o pb/\∀xs b,xs.length=n->a9 xs b->pb { nx:=λi=>b .aT i,rt:=b } (xs++Ó (↑N - n) .ar)):
  aJ P w K mg base bI (m+1) f fd ps (bP K z lo n a9):=by
 show F.ok S (λvs H Q E h=>h.1.trans hn.symm)<|λbH A outer s H vs Q E L h=>?_;∎;let#[U,y,B,o,cs,b,q,W,p,a]:=h;let#[O,pb,C,D,J]:=e bH A outer s H E L;∎;have g:↑o=n:=by have:=W.l;rw[Å] at this;omega
 show#[O,C,D vs y B y H _ _ cs _ { nx:=λi=>b .aT i,rt:=b } ((W.start N ⋯).md id λ_ _ _ _ h=>h.elim) (by rw[g];show J o b g p) #[?_,?_,λ_ _ _ _ _ _ (h:False)=>h.elim,λ_ _ _ _ _ _ (h:False)=>h.elim]]
 .show λF H j i cs u q=>a F H j i cs .aT .aT [] (u.md id W.x) #[rfl,rfl] .nil .nil (λ_ _ _ _ m=>nomatch m) rfl q
 .show λF H j i cs v t c u r G n d M q=>a F H j i cs v t c (u.md id W.x) r G n d M q
def R4{a9:iA}(F:ir K x qual st f fd)(S:bS N ps `aT)(hn:↑ps=n)(I:lo<=n)(e:∀(bH:ao)(A:ĉ)(outer:cH)(s:aj)(H:Hp)(E:XK)(q:Xv->Prop),bA m (A.deeper<|Ę qual (bD st) ⇑s f bH)->
   ∃o pb,fR (kc `bc P w K mg base N qual `aT f bH A outer s H E) `bw o/\c6 K #[z,λ_=>E,q] lo o pb/\∀xs b,xs.length=n->a9 xs b q->pb { nx:=λi=>b .aT i,rt:=b } (xs++Ó (↑N - n) .ar)):
  aJ P w K mg base `bc (m+1) f fd ps (jc K z lo n a9):=by
 show F.AN S (λvs H Q E h=>h.1.trans hn.symm)<|λbH A outer s H vs Q E L h=>?_;∎;let#[U,y,B,o,cs,b,q,W,p,a]:=h;let#[O,pb,C,D,J]:=e bH A outer s H E q L;∎;have g:↑o=n:=by have:=W.l;rw[Å] at this;omega
 show#[O,C,D vs y B y H _ _ cs _ { nx:=λi=>b .aT i,rt:=b } (W.start N ⋯) (by rw[g];show J o b g p) #[?_,?_,λ_ _ _ _ _ _ (h:False)=>h.elim,λ_ _ _ _ _ _ (h:False)=>h.elim]]
 .show λF H j i cs u q=>a F H j i cs .aT .aT [] u #[rfl,rfl] .nil .nil (λ_ _ _ _ m=>nomatch m) rfl q
 .show λF H j i cs v t c u r G n d M q=>a F H j i cs v t c u r G n d M q
end
section
def yK{c:Cs}{p:ai×HO}(m:p∈c):cX (c.map (·.1)) H p.1=È:=Xd<|ß.mpr #[p,m,rfl]
def vL(n:dy H c)(h:H a=À o):a ∉ c.map (·.1):=λm=>by
 let#[p,b,rfl]:=ß.mp m;rw[n p b] at h;cases h
def _root_.Vc.Gr.cX(g:Gr F H F1 H1)(n:dy H c)(g':Gr F1 (cX (c.map (·.1)) H1) F' H'):Gr F H F' H':=
 Gr.of #[λa u e=>g'.h a u<|qU (vL n e)<|g.h a u e,g.f.trans g'.f,g'.s,λa u e z=>by
  cases q:F1 a with
  |some y=>show g.n a y q z
  |none=>
   have h:=g'.n a u e q;by_cases m:a∈c.map (·.1)
   .obtain⟨p,mp,rfl⟩:=ß.mp m;show n p mp
   .unfold Vc.cX at h;rw[ao6 m] at h;show g.h.free h] (g'.fz g.z)
abbrev u0(q:Xv->Prop)(a9:iA)(a:cj):bh:=λj Q=>a j λb=>a9 (cA b) (λt _=>Q t) q
abbrev xC(a9:gm)(a:cj):bh:=λj Q=>a j λb=>a9 (cA b) λt _=>Q t
def EZ{n:Nat}{z:Bool}{a9:iA}{N:TA}{M:cj}{R':St->XK}{q':Xv->Prop}(hE:∀(F:Hp)(B:Bool->Hp)(H:Hp)(G:St)(J:af),iq K k F B H G J->∀x A C,q' x->∀d,XF K A d x.f->Gr F H A C->R' G x.c d C)(hk:z=Â->k.z=Â)(hn:∀xs Q q,a9 xs Q q->↑xs=n)(h:eY K k N M):bF K k (CI (jc K z 0 n a9) [] R' N) (u0 q' a9 M):=λF B H G J Q Q' c p q=>by
 show h F B H G J _ _ c p λw vs E I D p1 l=>?_
 rw[Ą];let#[cs,O,U,Y,a4]:=l.r.split l.c;have hl:↑vs=n:=by rw[l.r.length,<- hn _ _ _ p1,nv]
 have hb:∀k,aE (B k) (cX (D.map (·.1)) I):=λk a o e=>qU (vL l.n<|c.b k a o e)<|l.g.h _ _<|c.b k a o e
 show#[hl,E,cX (D.map (·.1)) I,cA w,cs,_,q',#[#[zL l.g.s,Fz.refl E],λh=>l.g.fz<|c.z<|hk h,by rw[Å,nv,l.r.length],?_,Y,λi p m=>yK<|U i p m,a4,λi h=>ao8 h<|ZP i,λx _ A C h d y g=>hE F B H G J c x A C h d y<|l.g.cX l.n g],p1,?_]
 .intro i t h;have hi:i<↑w:=by have:=(Á.mp h).1;rw[nv] at this;show this
  have e:∀(w:af)(i:Nat),(cA w)[i]?=w[i]?.map dn:=by
   intro w
   induction w with
   |nil=>intro i;rfl
   |cons x xs ih=>intro i;cases i with
    |zero=>rfl
    |succ j=>show ih j
  rw[e] at h;cases z:w[i]? with
  |none=>rw[z] at h;cases h
  |some u=>
   rw[z] at h;cases h;let#[v,b1,b2]:=O i u z;show .inr #[v,by rw[Ê,b1];rfl,b2.dn (λk=>Le.of<|hb k) u]
 .intro A C G' J' cs' v t c' W r hc nw dj nl qt;show q t v A C c' qt #[l.g.cX l.n W.g,r.base t nl,hc,λp m=>?_];have z:=nw p m;by_cases L:p.1∈D.map (·.1)
  .obtain⟨q,mq,e⟩:=ß.mp L;have e:q.1=p.1:=e;rw[<- e];show l.n q mq
  .unfold cX at z;rw[ao6 L] at z;show l.g.h.free z
def SS{a9:gm}(a:z=Â->k.z=Â)(hn:∀xs Q,a9 xs Q->↑xs=n)(h:eY K k ta pa):bF K k (Dv (bP K z 0 n a9) [] E ta) (xC a9 pa):=
 EZ (R':=λ_=>E) (q':=λ_=>False) (a9:=λxs Q _=>a9 xs Q) (λ_ _ _ _ _ _ _ _ _ h=>h.elim) a (λxs Q _=>hn xs Q) h
abbrev mV(K:aq)(k:Md)(r:ay->Hp->VK->Prop)(h:af->(az)->Prop):Prop:=∀(F:Hp)(B:Bool->Hp)(H:Hp)(g:ay)(f:af)(d:Cs)(Q:VK)(e:az),aE F H->(∀k,aE (B k) H)->(k.z=Â->Fz S0 F)->Rs K F B f g d->au F H d->h f e->
 (∀t v a b cs,e t->Gr F H a b->R K a B t v cs->au a b cs->(∀p∈cs,H p.1=È\/p∈d)->Q v b)->r g H Q
abbrev pB(b:af->(az)->Prop)(a:cj):bh:=λj Q=>a j λd=>b d Q
def HH(o:mV K k r pr)(h:eY K k ta pa):bF K k (mQ r ta) (pB pr pa):=λF B H j i Q u c p q=>by
 show h F B H j i _ _ c p λC vs d f x p1 a=>?_
 show o d B f vs C x Q u a.g.s (λk=>(c.b k).trans a.g.h) (λh=>a.g.fz<|c.z h) a.r a.c p1 λt v e l cs y g A w n=>?_
 show q t v e l cs y #[a.g.trans' g,A,w,λp m=>?_];rcases n p m with z |z
 .show a.g.h.free z
 .show a.n p z
def Rs.one(r:Rs K F B [t] xs cs):∃v,xs=[v]/\R K F B t v cs:=by
 let#[v,r,c,d,b,a,e,rfl,rfl]:=r;rw[Ą] at a;show#[v,b,by rw[a];show e]
abbrev x6(a:af)(Q:az):Prop:=match a with
 |[.int i]=>Q (.int (if i < 0 then -i else i))
 |_=>False
def ze:mV K k (λxs H Q=>∃i,xs=[.int i]/\Q (.int (if i<0 then -i else i)) H) x6:=λF B H xs f d Q a s b z r e p q=>by
 unfold x6 at p;split at p
 .obtain⟨v,rfl,rfl,_⟩:=r.one;show#[_,rfl,q _ _ F H [] p `ah #[rfl,rfl] .nil λ_ m=>nomatch m]
 .show p.elim
end
structure QE(X:Cx)(k:Md)(e:ę)(pe:bh):Prop where
 h:∃te,PE X e te/\bF X.K k te pe
structure QT(X:Cx)(k:Md)(e:ę)(pe:eB):Prop where
 h:∃te,PT X e te/\gz X.K k te pe
structure QW(X:Cx)(k:Md)(e:ę)(pe:eB):Prop where
 h:∃te,PW X e te/\gz X.K k te pe
structure QA(X:Cx)(k:Md)(es:bN)(pa:cj):Prop where
 h:∃ta,PA X es ta/\eY X.K k ta pa
structure QS(X:Cx)(k:Md)(lo:Nat)(st:Ā)(ps:cB):Prop where
 h:∃ts,PS X st ts/\c6 X.K k lo ts ps
structure QB(X:Cx)(k:Md)(lo:Nat)(sts:List Ā)(ps:cB):Prop where
 h:∃ts,fR X sts ts/\c6 X.K k lo ts ps
section
def qv(i:Nat)(b:do X.N[i]?=À x)(d:qb X.env.scope x:=by first |show Ϸ rfl |show ż (Ϸ rfl) |show ż<|ż rfl)(hd: ~~~(dZ x))(a: ~~~((x == ("__classdict__":Str))=É)):QE X k `ao (vj i):=#[_,v3 b d hd a,VR i]
def aD{i j}:QE X k (.Constant `aw j pos) (pC<|.int i):=#[_,HK,U0]
def f9{i j}:QE X k (.Constant (.str i) j pos) (pC<|.str i):=#[_,HL,U1]
def kq{i j}:QE X k (.Constant (.bool i) j pos) (pC<|.bl i):=#[_,YL,Xe]
def mn{j}:QE X k `cR (pC .aT):=#[_,Xr,U2]
def HI(v:V)(a:Gl X x)(hm:X.mg x=À u)(r:aG v u)(ht:∀F B,R X.K F B t v [])(hd: ~~~(dZ x)):QE X k `ao (pC t):=#[_,Ul a hm r hd,tw ht]
def o3(l:cu X (ś op) r)(hs:eE X.K k r pr)(i:QE X k a pa)(j:QE X k b pb):QE X k `dA `cZ:=by
 ∎;let#[m,f,g]:=i.h;let#[tb,d,e]:=j.h;∎;show#[_,YP l f d,wj hs g e]
def dQ(d:QE X k a pa)(e:QE X k b pb):QE X k (.BinOp a .Add b pos) (p2 vl pa pb):=o3 Ko U6 d e
def o6(d:QE X k a pa)(e:QE X k b pb):QE X k (.BinOp a .Sub b pos) (p2 (jJ (λ_ _=>True) λi j=>.int<|i - j) pa pb):=o3 XB U9 d e
def da(d:QE X k a pa)(e:QE X k b pb):QE X k `de (p2 vm pa pb):=o3 Kq U7 d e
def iY(d:QE X k a pa)(e:QE X k b pb):QE X k (.BinOp a .FloorDiv b pos) (p2 (jJ dR λi j=>.int<|i.fdiv j) pa pb):=o3 RH RZ d e
def fg(d:QE X k a pa)(e:QE X k b pb):QE X k (.BinOp a .Mod b pos) (p2 (jJ (λ_ j=>0<j) λi j=>.int<|i % j) pa pb):=o3 XC Va d e
def iF(e:QE X k a pa):QE X k (.UnaryOp .USub a pos) (p1 vn pa):=by
 let#[f,b,d]:=e.h;show#[_,YQ XG b,Xf Vb d]
def a8(i:QE X k a pa)(j:QE X k b pb)(hs:Cu b:=by show λ_ _=>rfl)(l:X.A.units+1<Ĭ:=by assumption):QE X k `dw (p2 gA pa pb):=by
 ∎;let#[m,f,g]:=i.h;let#[tb,d,e]:=j.h;∎;show#[_,YU (J9 l) f d hs,wj U8 g e]
def tD(l:cu X (ú op) r)(hs:eE X.K k r pr)(i:QE X k a pa)(j:QE X k b pb)(hm:ϸ op b=É:=by with_unfolding_all rfl):QE X k (.Compare a [op] [b] pos) `cZ:=by
 ∎;let#[m,f,g]:=i.h;let#[tb,d,e]:=j.h;∎;show#[_,Ur l f d hm,wj hs g e]
def cm(l:cu X (ú op) r)(hs:eE X.K k r pr)(i:QE X k a pa)(j:QE X k b pb)(hm:ϸ op b=É:=by with_unfolding_all rfl):QT X k (.Compare a [op] [b] pos) (pT<|p2 pr pa pb):=by
 ∎;let#[m,f,g]:=i.h;let#[tb,d,e]:=j.h;∎;show#[_,F8 l f d hm,PF<|wj hs g e]
def ke(h:QE X k e pe)(he:∀whole,af4 e X.env whole=(do let v <- whole;Z5 e.pos;holding [v] `bZ):=by intro _;rfl):QT X k e (pT pe):=by
 let#[d,a,b]:=h.h;show#[_,Xs a he,HG b]
def Je(h:QT X k e pe):QT X k (.UnaryOp .Not e pos) (xV pe):=by
 let#[d,a,b]:=h.h;show#[_,Xw a,Vg b]
def QW.t(h:QW X k e pe):QT X k e pe:=by
 let#[d,a,b]:=h.h;show#[_,a.pt,b]
def qD(h:QT X k e pe):QW X k (.BoolOp .And [e] pos) pe:=by
 let#[d,a,b]:=h.h;show#[_,Um a,b]
def qW(h:QT X k e pe):QW X k (.BoolOp .Or [e] pos) pe:=by
 let#[d,a,b]:=h.h;show#[_,Xt a,b]
def qM(h:QT X k e pe)(h':QW X k (.BoolOp .And (f::r) pos) pf):QW X k (.BoolOp .And (e::f::r) pos) (xU pe pf):=by
 ∎;let#[i,d,g]:=h.h;let#[j,a,b]:=h'.h;∎;show#[_,Xu d a,Vf g b]
def o7(h:QT X k e pe)(h':QW X k (.BoolOp .Or (f::r) pos) pf):QW X k (.BoolOp .Or (e::f::r) pos) (AS pe pf):=by
 ∎;let#[i,d,g]:=h.h;let#[j,a,b]:=h'.h;∎;show#[_,YM d a,Ya g b]
def Jf{op}(h:QE X k e pe):QE X k (.BoolOp op [e] pos) pe:=by
 let#[d,a,b]:=h.h;show#[_,Xx a,b]
def Kr(h:QE X k e pe)(h':QE X k (.BoolOp .And (f::r) pos) pf):QE X k (.BoolOp .And (e::f::r) pos) (xy pe pf):=by
 ∎;let#[i,d,g]:=h.h;let#[j,a,b]:=h'.h;∎;show#[_,Xy d a,R0 g b]
def Ka(h:QE X k e pe)(h':QE X k (.BoolOp .Or (f::r) pos) pf):QE X k (.BoolOp .Or (e::f::r) pos) (xW pe pf):=by
 ∎;let#[i,d,g]:=h.h;let#[j,a,b]:=h'.h;∎;show#[_,YN d a,Vh g b]
def tE{pt:eB}(n:QT X k c pt)(l:QE X k a pa)(m:QE X k b pb):QE X k `dQ (AO pt pa pb):=by
 ∎;let#[p,i,j]:=n.h;let#[o,f,g]:=l.h;let#[tb,d,e]:=m.h;∎;show#[_,Sb i f d,Vi j g e]
def aC:QA X k [] vk:=#[_,lL,GB]
def ak(h:QE X k a pa)(h':QA X k es ps)(hs:do d0 a es X.env):QA X k (a::es) (xw pa ps):=by
 ∎;let#[g,e,f]:=h.h;let#[i,b,d]:=h'.h;∎;show#[_,kI e b hs,RY f d]
def iZ{x1}(h:QA X k es ps):QE X k `dS (xS ps):=by
 let#[d,a,b]:=h.h;show#[_,WO a,U3 b]
def fK(h:QA X k es ps):QE X k (.List es pos) (xT ps):=by
 let#[d,a,b]:=h.h;show#[_,WQ a,U4 b]
def fy{r:ay->Hp->VK->Prop}{d:af->(az)->Prop}{id:String}{x:Str}{p:Pos}{e:ę}{a:bN}{f:cj}(l:bQ X `aC r)(n:mV X.K k r d)(hm:X.mg x=È)(j:QA X k (e::a) f)(m:do Gl X x)(o:do ϧ x=À `aC)(hn: ~~~(x≠"__name__"))(b: ~~~(dZ x))(he:do d0 e a X.env)(hpl:do fS pos a X.env):
  QE X k (.Call `aL (e::a) [] pos) (pB d f):=by
 let#[q,g,i]:=j.h;show#[_,Si l m hm o g hn b he hpl,HH n i]
def cM:QB X k lo [] xA:=#[_,Uo,R1]
def aO(h:QS X k lo st p)(h':QB X k lo r q):QB X k lo (st::r) (vo p q):=by
 ∎;let#[f,d,e]:=h.h;let#[g,a,b]:=h'.h;∎;show#[_,yT d a,Vj e b]
def aZ(h:QS X k lo st p):QB X k lo [st] p:=by
 let#[d,a,b]:=h.h;show#[_,y8 a,b]
abbrev CJ:cB:=λ_ _=>False
def sH:QS X k lo st CJ:=#[_,Sd,λ_ _ _ _ _ _ _ _ _ _ _ h _=>h]
def Yc(h:QE X k e pe)(hs:do Į e È pos.line X.env=pure É):QS X k lo `cT (xB pe):=by
 let#[d,a,b]:=h.h;show#[_,vH a hs,R3 b]
def bW(h:QE X k e pe):QS X k lo `bJ (xY pe):=by
 let#[d,a,b]:=h.h;show#[_,HM a,Vl b]
def cN(j:QT X k e pe)(h:QB X k lo s1 p)(h':QB X k lo s2 q):QS X k lo (.If e s1 s2 pos) (xZ pe p q):=by
 ∎;let#[m,g,i]:=j.h;let#[l,d,f]:=h.h;let#[tb,a,b]:=h'.h;∎;show#[_,YO g d a,Yb i f b]
def AG(g:QT X k e pe)(h:QB X k lo s1 p)(hp:ZW `aa X.A X.env X.xe:=by first |show ab3 |show eI rfl):QS X k lo (.While e s1 [] pos) (DW pe p):=by
 ∎;let#[j,d,f]:=g.h;let#[i,a,b]:=h.h;∎;show#[_,Se hp d a,Vm f b]
def jh(i:Nat)(h:QE X k e pe)(d:X.N.Nodup:=by assumption)(j: ~~~(lo<=i))(g:do X.N[i]?=À x)(l:Loc X.env.scope x:=by first |show Ϸ rfl |show ż rfl)(hs:do Į e (À<|.Name x pos') pos.line X.env=pure É)(f:lz X x:=by first |show .inl rfl |show .inr rfl |assumption):
  QS X k lo (.Assign [.Name x pos'] e pos) (xX i pe):=by
 let#[m,a,b]:=h.h;show#[_,v5 d g l a hs f,Vk j b]
end
section
def cc{a9:gm}(F:ir K x qual st f fd)(S:bS N ps `aT)(hn:↑ps=n)(d:lo<=n)(a:∀(bH:ao)(A:ĉ)(outer:cH)(s:aj)(H:Hp)(E:XK),bA m (A.deeper<|Ę qual (bD st) ⇑s f bH)->(A.deeper<|Ę qual (bD st) ⇑s f bH).units+1<Ĭ->N.Nodup->
   ∃pb,QB (kc bI P w K mg base N qual `aT f bH A outer s H E).rf (Md.base z) lo `bw pb/\∀xs b,xs.length=n->a9 xs b->pb { nx:=λj=>b .aT j,rt:=b } (xs++Ó (↑N - n) .ar)):
  aJ P w K mg base bI (m+1) f fd ps (bP K z lo n a9):=Vn F S hn d λbH A outer s H E e=>by
 ∎;let#[pb,h,q]:=a bH A outer s H E e (Ja e) S.nd;let#[l,g,i]:=h.h;∎;show#[l,pb,g,i,q]
def wA{a9:iA}(F:ir K x qual st f fd)(S:bS N ps `aT)(hn:↑ps=n)(d:lo<=n)(a:∀(bH:ao)(A:ĉ)(outer:cH)(s:aj)(H:Hp)(E:XK)(q:Xv->Prop),bA m (A.deeper<|Ę qual (bD st) ⇑s f bH)->(A.deeper<|Ę qual (bD st) ⇑s f bH).units+1<Ĭ->N.Nodup->
   ∃pb,QB (kc `bc P w K mg base N qual `aT f bH A outer s H E) #[z,λ_=>E,q] lo `bw pb/\∀xs b,xs.length=n->a9 xs b q->pb { nx:=λj=>b .aT j,rt:=b } (xs++Ó (↑N - n) .ar)):
  aJ P w K mg base `bc (m+1) f fd ps (jc K z lo n a9):=R4 F S hn d λbH A outer s H E q e=>by
 ∎;let#[pb,h,q]:=a bH A outer s H E q e (Ja e) S.nd;let#[l,g,i]:=h.h;∎;show#[l,pb,g,i,q]
end
section
def lay:∀(c:Cs){F:Hp},Gr Fb Hb F H->au F H c->dy Hb c->Plain c->∃i,Gr Fb Hb i H/\(∀S,Fz S F->Fz S i)/\aE F i/\(∀p∈c,i p.1=À p.2)/\∀a,a ∉ c.map (·.1)->i a=F a
 |[],F,g,_,_,_=>#[F,g,λ_ h=>h,aE.refl F,λ_ m=>(nomatch m),λ_ _=>rfl]
 |(a,o)::c,F,g,hc,n,pl=>by
  let#[v,A,E,D,q,l]:=Vc.aB g.toGr0 g.z (n _<|.head _) (hc.f _<|.head _) (hc.h _<|.head _)<|pl _<|.head _;have nd:=hc.nd;rw[ë,ē] at nd;have j:au v H c:=#[λp m=>hc.h p<|.tail _ m,λp m=>by rw[l p.1<|λz=>nd.1<|ß.mpr #[p,m,z]];show hc.f p<|.tail _ m,nd.2];let#[w,B,G,r,y,C]:=lay c #[A,E] j (λp m=>n p<|.tail _ m) λp m=>pl p<|.tail _ m
  show#[w,B,λS h=>G S λb x u e=>?_,D.trans r,λp m=>?_,λb d=>?_]
  .by_cases d:b=a
   .subst d;rw[q] at e;show ao8 (Ù e)<|pl _ (.head _) x u
   .rw[l b d] at e;show h b x u e
  .cases m with
   |head=>show r _ _ q
   |tail _ m=>show y p m
  .rw[ë,æ] at d;rw[C b λz=>d<|.inr z,l b λz=>d<|.inl z]
def bj.lay{c:Cs}(W:bj K k lo us Fb Hb F H G J cs)(w:au F H c)(n:dy Hb c)(pl:Plain c)(d:∀j,∀p∈cs j,∀q∈c,p.1≠q.1):∃a,bj K k lo us Fb Hb a H G J cs/\aE F a/\∀p∈c,a p.1=À p.2:=by
 let#[o,u,A,b,r,y]:=Pu.lay c W.g w n pl;show#[o,#[u,λh=>A _<|W.z h,W.l,λi t h=>(W.e i t h).imp id λ⟨v,h1,h2⟩=>#[v,h1,h2.mo (Le.of b) (λ_=>Le.refl _) t],λi=>#[(W.c i).h,λp m=>?_,(W.c i).nd],W.n,W.d,W.p,W.x],b,r];rw[y p.1 λz=>?_]
 .show (W.c i).f p m
 .obtain⟨q,mq,e⟩:=ß.mp z;show d i p m q mq e.symm
def bj.fresh{t:Tr}{v:V}{c:Cs}{B:Bool->Hp}(W:bj K k lo us Fb Hb F H i G cs)(o:Out K F B H F' H' t v c):dy Hb c/\∀j,∀p∈cs j,∀q∈c,p.1≠q.1:=
 #[λp m=>W.g.h.free<|o.n p m,λj p a q b e=>by
  have:=(W.c j).h p a;rw[e,o.n q b] at this;cases this]
def bj.outF{i:Nat}{t:Tr}{v:V}{c:Cs}(W:bj K k lo us Fb Hb F H j G cs)(o:Out K F `cC H F' H' t v c)(l:lo<=i)(n:bM t=Â):
  ∃a b,bj K k lo us Fb Hb a H' (j.set i<|À v) (G.set i<|aB t) b:=by
 ∎;let#[p,f]:=W.fresh o;let#[d,e,q,h]:=(W.gr o.g).lay o.c p `bT f;∎;show#[d,_,e.set l ((R.low (B':=λ_=>Hb) t n rfl o.r).aB (Le.of q) t h) .nil .nil λ_ _ _ _ _ m=>nomatch m]
def bj.held{t:Tr}{v:V}{c:Cs}(W:bj K k lo us Fb Hb F H j i cs)(o:Out K F `cC H F' H' t v c)(n:bM t=Â):
  ∃a,bj K k lo us Fb Hb a H' j i cs/\R K a (λ_=>Hb) `ba v []:=by
 ∎;let#[h,e]:=W.fresh o;let#[b,d,l,f]:=(W.gr o.g).lay o.c h `bT e;∎;show#[b,d,(R.low (B':=λ_=>Hb) t n rfl o.r).aB (Le.of l) t f]
abbrev rW(i:Nat)(pe:bh):cB:=λD j=>pe `ae λt=>bM t=Â/\D.nx (j.set i<|aB t)
def FN(g:lo<=i)(h:bF K k te pe):c6 K k lo (mf te<|j5 i) (rW i pe):=λus n d F H j G cs D l W p L=>by
 show h F `cr H j _ _ _ W.fm p λt v m b c q o=>?_
 let#[a,f,e]:=W.outF o g q.1;show L.nx a b _ _ _ e q.2
nonrec abbrev eV:=Tr->af->(aA)->Prop
abbrev oC(K:aq)(k:Md)(lo:Nat)(h:TG)(pg:eV):Prop:=∀(us:ay)(d a F H:Hp)(j:St)(i:af)(cs:Nat->Cs)(x:V)(t:Tr)(Q:St->Hp->Prop)(e:aA),bj K k lo us d a F H j i cs->R K F (λ_=>a) t x []->pg t i e->(∀g f b,bj K k lo us d a F H g f b->e f->Q g H)->h x j H Q
abbrev tV(i:Nat):eV:=λt j Q=>Q<|j.set i t
def Yd(a:lo<=i):oC K k lo (j5 i) (tV i):=λus b d F H j G cs x t Q e W r p q=>q _ _ _ (W.set a r .nil .nil λ_ _ _ _ _ m=>nomatch m) p
abbrev rX(K:aq)(k:Md)(lo:Nat)(m:om)(pg:af->af->(aA)->Prop):Prop:=∀(us:ay)(d a F H:Hp)(j:St)(i:af)(cs:Nat->Cs)(l:ay)(h:af)(Q:St->Hp->Prop)(e:aA),bj K k lo us d a F H j i cs->Rs K F (λ_=>a) h l []->pg h i e->(∀g f b,bj K k lo us d a F H g f b->e f->Q g H)->m l j H Q
abbrev ou:af->af->(aA)->Prop:=λa j Q=>match a with |[]=>Q j |_=>False
abbrev ow(pg:eV)(b:af->af->(aA)->Prop):af->af->(aA)->Prop:=λd j Q=>match d with |t::r=>pg t j λa=>b r a Q |[]=>False
def PH:rX K k lo yp ou:=λus a b F H j i cs f e Q d W r p q=>by
 unfold ou at p;split at p
 .show#[r.1,q j i cs W p]
 .show p.elim
def Pk(h:oC K k lo tg pg)(h':rX K k lo tr pr):rX K k lo (xE tg tr) `cN:=λus b f F H j i cs x u Q g W r p q=>by
 unfold ow at p;split at p
 .obtain⟨v,w,c,d,h1,h2,h3,h4⟩:=r;have e:=ģ.mp h2.symm;rw[e.1] at h3;rw[e.2] at h4;show#[v,w,h1,h us b f F H j i cs v _ _ _ W h3 p λn m a l o=>h' us b f F H n m a w _ Q g l h4 o q]
 .show p.elim
abbrev n5(n:Nat)(b:af->af->(aA)->Prop):eV:=λt j Q=>match t with |.aL a=>↑a=n/\b a j Q |_=>False
def Ye(h:rX K k lo tr pr):oC K k lo (yq K n tr) `di:=λus b d F H j i cs x t Q e W r p q=>by
 unfold n5 at p;split at p
 .obtain⟨a,vs,rfl,h1,h2⟩:=r.eA W.g.s;show#[a,vs,rfl,h1,h2.length.trans p.1,h us b d F H j i cs vs _ Q e W h2 p.2 q]
 .show p.elim
abbrev x8(pe:bh)(pg:eV):cB:=λD j=>pe `ae λt=>bM t=Â/\pg `ba j D.nx
def Vo(h:bF K k te pe)(m:oC K k lo tg pg):c6 K k lo (mf te tg) (x8 pe pg):=λus f e F H j i cs D w W p L=>by
 show h F (Bq e H) H j _ _ _ W.fm p λt v x d c q o=>?_
 let#[b,l,r2]:=W.held o q.1;show m us f e b d j i cs v _ _ _ l r2 q.2 λr n a g u=>L.nx b d r n a g u
abbrev x9(i j:Nat)(d:cj):cB:=λD G=>d `eo λe=>match e with |[a,b]=>bM a=Â/\bM b=Â/\D.nx ((G.set i<|aB a).set j<|aB b) |_=>False
def Vp{i j:Nat}{l:TA}{d:cj}(A:lo<=i)(B:lo<=j)(h:eY K k l d):c6 K k lo (DB i j l) (x9 i j d):=λus Q a F H G J cs D N W p L=>by
 show h F `ea H G _ _ _ W.fm p λU vs O w c q o=>?_
 split at q
 .obtain⟨v,r,c1,d1,h1,h2,h3,v',r',c2,d2,g1,g2,g3,g4,g5⟩:=o.r;have I:dy a c:=λp m=>W.g.h.free<|o.n p m
  have y:∀j,∀p∈cs j,∀q∈c,p.1≠q.1:=λj p C q E e=>by
   have:=(W.c j).h p C;rw[e,o.n q E] at this;cases this
  have M:Plain c:=Rs.plain _ o.r;let#[u,x,f,b]:=(W.gr o.g).lay o.c I M y;show#[v,v',by rw[h1,g1,g4],L.nx u w _ _ _ ((x.set A ((R.low (B':=λ_=>a) _ q.1 rfl h3).aB `dj _ λp m=>b p (by rw[h2];show Æ.mpr<|.inl m)) .nil .nil λ_ _ _ _ _ m=>nomatch m).set B ((R.low (B':=λ_=>a) _ q.2.1 rfl g3).aB `dj _ λp m=>b p (by rw[h2,g2];show Æ.mpr<|.inr<|Æ.mpr<|.inl m)) .nil .nil λ_ _ _ _ _ m=>nomatch m) q.2.2]
 .show q.elim
end
abbrev LR(J:It)(n:Nat)(h:Hp->Prop)(Y:Nat->Hp->V->Hp->Prop):Prop:=∀(g:TG)(tb:TS)(D:iR)(j:St)(H:Hp)(Pv:Nat->St->Hp->Prop),Pv 0 j H->(∀i j H,i<=n->Pv i j H->h H)->
 (∀i x j H a,i<n->Pv i j H->Y i H x a->g x j a λd b=>tb { D with nx:=Pv<|i+1,ct:=Pv<|i+1,bk:=D.nx } d b)->(∀j H,Pv n j H->D.nx j H)->
 ∃W:Nat->Nat->St->Hp->Prop,(∃m,W 0 m j H)/\∀i m j H,W i m j H->
  (J.stop i H/\D.nx j H)\/(J.go i H/\∃N:St->Hp->Prop,(∀e a,N e a->∃f,f<m/\W (i+1) f e a)/\∀x a,J.mS i H x a->g x j a λd b=>tb { D with nx:=N,ct:=N,bk:=D.nx } d b)
def AH{j:Type}{xs:List j}{i:Nat}{x:j}(h:xs[i]?=À x):i<↑xs:=(Á.mp h).1
structure gk(J:It)(n:Nat)(Kp:Hp->Prop)(Y:Nat->Hp->V->Hp->Prop):Prop where
 go:∀i H,i<n->Kp H->J.go i H
 st:∀H,Kp H->J.stop n H
 yl:∀i H x H',i<n->Kp H->J.mS i H x H'->Y i H x H'
def gk.runs(o:gk J n Kp Y):LR J n Kp Y:=λg tb D j H Pv h f l hd=>by
 show#[λi m j H=>m=n - i/\i<=n/\Pv i j H,#[n,by simp,Ĝ _,h],?_];rintro i m j H ⟨rfl,d,p⟩;by_cases a:i<n
 .show .inr #[o.go i H a<|f i j H d p,Pv<|i+1,λr b q=>#[n - (i+1),⋯,rfl,a,q],λx b y=>l i x j H b a p<|o.yl i H x b a (f i j H d p) y]
 .have e:i=n:=⋯
  subst e;show .inl #[o.st H<|f i j H d p,hd j H p]
def qX{j:Type}{xs:List j}{i:Nat}(h:i<↑xs):∃x,xs[i]?=À x:=#[_,Ì h]
def Vq{K:aq}{a:ai}{xs:ay}:gk `dR ↑xs (λH=>bE K H a xs) (λi H x b=>xs[i]?=À x/\b=H):=
 #[λi H h q=>by let#[x,e]:=qX h;show#[xs,x,q,e],λH q=>#[xs,q,Ï _],λi H x b h q y=>#[y.2 xs q,y.1]]
def SU:gk (oh l n) n (λ_=>True) (λi H x a=>x=.int (l+i)/\a=H):=#[λi H h _=>h,λH _=>Ï _,λi H x a h _ y=>#[y.2,y.1]]
def PJ:gk (uj l c n) n (λ_=>True) (λi H x a=>x=.int (l+i*c)/\a=H):=#[λi H h _=>h,λH _=>Ï _,λi H x a h _ y=>#[y.2,y.1]]
def Wj{K:aq}{a:ai}{xs:ay}:gk `dY ↑xs (λH=>bE K H a xs) (λi H y b=>∃x p,xs[i]?=À x/\y=.ref p/\H p=È/\b=aQ H p (.aL [.int i,x])):=
 #[λi H h q=>by let#[x,e]:=qX h;show#[xs,x,q,e],λH q=>#[xs,q,Ï _],λi H y b h q z=>by let#[p,x,d,f,g,j]:=z;show#[x,p,g xs q,d,f,j]]
def Yf{K:aq}{a b:ai}{xs ys:ay}:gk `ek (min ↑xs ↑ys) (λH=>bE K H a xs/\bE K H b ys) (λi H z d=>∃x y p,xs[i]?=À x/\ys[i]?=À y/\z=.ref p/\H p=È/\d=aQ H p (.aL [x,y])):=
 #[λi H h q=>by let#[x,e]:=qX (xs:=xs) (i:=i) ⋯;let#[y,f]:=qX (xs:=ys) (i:=i) ⋯;show#[xs,ys,x,y,q.1,q.2,e,f],λH q=>#[xs,ys,q.1,q.2,⋯],λi H z d h q y=>by let#[p,x,y,g,j,l,m,n]:=y;show#[x,y,p,l xs q.1,m ys q.2,g,j,n]]
abbrev Src(K:aq)(B:Bool->Hp)(F:Hp)(J:It)(g:af):Prop:=∃(f:Hp->Prop)(Y:Nat->Hp->V->Hp->Prop),gk J ↑g f Y/\(∀b a,Le F b->aE b a->(∀k,aE (B k) a)->f a)/\
 ∀i t b a x e,g[i]?=À t->Le F b->aE b a->(∀k,aE (B k) a)->Y i a x e->∃d,Gr b a d e/\R K d B t x []
section
nonrec abbrev jf:=af->(af->Bool->Prop)->Prop
abbrev lI(K:aq)(k:Md)(m:TI)(l:jf):Prop:=∀(F:Hp)(B:Bool->Hp)(H:Hp)(j:St)(i:af)(g:It->Hp->Prop)(f:af->Bool->Prop),iq K k F B H j i->l i f->
 (∀b h J a e,f b h->Gr F H a e->Src K B a J b->(h=Â->∀d:Bool->Hp,d É=B É->Src K d a J b)->g J e)->m j H g
def _root_.Vc.Gr.base(g:Gr Fb Hb F1 H1)(g':Gr F1 Hb F H):Gr Fb Hb F H:=
 Gr.of #[g'.h,g.f.trans g'.f,g'.s,λa u e z=>by
  cases q:F1 a with
  |some w=>show g.n a w q z
  |none=>show g'.n a u e q] (g'.fz g.z)
def bj.base(a:bj K k lo us Fb Hb F1 H1 j0 i0 cs0)(W:bj K k lo us F1 Hb F H j i cs):bj K k lo us Fb Hb F H j i cs:=#[a.g.base W.g,W.z,W.l,W.e,W.c,W.n,W.d,W.p,a.x]
def bj.rebase(W:bj K k lo us Fb Hb F H j i cs):bj K k lo us F Hb F H j i cs:=#[#[#[W.g.h,aE.refl F,W.g.s,λa u e z=>by rw[e] at z;cases z],Fz.refl F],W.z,W.l,W.e,W.c,W.n,W.d,W.p,λx m b f q d y g=>W.x x m b f q d y<|W.g.base g]
def Lk.rebase(a:bj K k lo us Fb Hb F1 H1 j0 i0 cs0)(L:Lk K k lo us Fb Hb D D'):Lk K k lo us F1 Hb D D':=
 #[λF H j i cs W=>L.nx F H j i cs<|a.base W,λF H j i cs v t c W=>L.rt F H j i cs v t c<|a.base W,λF H j i cs W=>L.bk F H j i cs<|a.base W,λF H j i cs W=>L.ct F H j i cs<|a.base W]
abbrev ya(e:jf)(pg:eV)(pb:cB):cB:=λD j=>e `ae λa d=>d=Â/\∃I:Nat->aA,I 0 j/\(∀i t j,a[i]?=À t->I i j->pg t j λb=>pb { D with nx:=I<|i+1,ct:=I<|i+1,bk:=D.nx } b)/\∀j,I ↑a j->D.nx j
def Wl(b:lI K k wi pi)(Q:oC K k lo tg pg)(O:c6 K k lo tb pb):c6 K k lo (yr wi tg tb) (ya pi pg pb):=λus Fb a F H j G cs D D' W p L=>by
 show b F `ea H j _ _ _ W.fm p λA nl J d C q M _ r=>?_
 have v:=W.gr M;∎;let#[n,I,U,step,m]:=q;let#[Kp,Y,o,kp,yl]:=r n (λ_=>a) rfl;∎;have run:=o.runs;have e:=L.rebase v;show run tg tb D j C (λi j H=>∃F G cs,bj K k lo us d a F H j G cs/\I i G) #[d,G,cs,v.rebase,U] ?_ ?_ ?_
 .rintro i j H b ⟨F,G,cs,W,_⟩;show kp F H (Le.of W.g.f) W.g.s λ_=>W.g.h
 .rintro i x j H H' b ⟨F,G,cs,W,ii⟩ y;have w:A[i]?=À (A[i]'b):=Ì b;let#[u,N,r2]:=yl i _ F H x H' w (Le.of W.g.f) W.g.s (λ_=>W.g.h) y;show Q us d a u H' j G cs x _ _ _ (W.gr N) r2 (step i _ G w ii) λj' B l E p'=>?_
  show O us d a u H' j' B l _ _ E p' #[λF H j G cs W q=>#[F,G,cs,W,q],e.rt,e.nx,λF H j G cs W q=>#[F,G,cs,W,q]]
 .rintro j H ⟨F,G,cs,W,q⟩;show e.nx F H j G cs W<|m G q
def Yg(l:Le F F')(s:aE F' H')(h:bE K F a vs):bE K H' a vs:=s.seq<|l.ag h
def lO(r:R K F B `ar v []):∃a vs,v=.ref a/\Rs K F B xs vs []/\∀g d,Le F g->aE g d->(∀k,aE (B k) d)->bE K d a vs:=by
 cases f with
 |f=>let#[_,a,vs,h,e,i]:=r;show#[a,vs,h,i,λg d l s b=>Yg l s e]
 |l q=>let#[_,a,vs,h,e,i]:=r;show#[a,vs,h,i,λg d l s b=>(b q).seq e]
 |o=>let#[a,vs,j,h,e,i]:=r;cases e
def Rs.dB{xs:af}{vs:ay}{i:Nat}{t:Tr}(r:Rs K F B xs vs [])(h:xs[i]?=À t):∃u,vs[i]?=À u/\R K F B t u []:=by
 let#[u,c,b,a,d]:=r.at h;have e:c=[]:=List.eq_nil_iff_forall_not_mem.mpr λp m=>nomatch d p m
 rw[e] at a;show#[u,b,a]
def FO{a:ai}{f:Fl}{xs:af}(r:R K F B `ar `aA []):Src K B F `dR xs:=by
 let#[v,vs,n,d,o]:=lO r;cases n;show#[_,_,d.length ▸ Vq (K:=K) (a:=a) (xs:=vs),o,λi t g q x h p l s b y=>?_];∎;let#[e,rfl]:=y;let#[u,j,m]:=d.dB p;∎;rw[j] at e;cases e;show#[g,Gr.aS s,m.mo l (λ_=>Le.refl _) t]
def FP{a:ai}{f:Fl}{xs:af}(r:R K F B `ar `aA []):Src K B F `dY (xs.mapIdx λi x=>.aL [.int i,x]):=by
 let#[E,vs,v,e,w]:=lO r;cases v;show#[_,_,(by rw[an1,<- ↑e];show Wj (K:=K) (a:=a) (xs:=vs)),w,λi t C D x m d l s b y=>?_];let#[z,p,h,rfl,A,rfl]:=y;rw[Z1] at d;cases q:xs[i]? with
 |none=>rw[q] at d;cases d
 |some u=>
  rw[q] at d;cases d;let#[G,n,o]:=e.dB q;rw[n] at h;cases h;let#[j,g,r2,_]:=sS (xs:=[.int i,u]) (cs:=[]) s #[.int i,[z],[],[],rfl,rfl,#[rfl,rfl],z,[],[],[],rfl,rfl,o.mo l (λ_=>Le.refl _) u,rfl,rfl] .nil A;show#[j,g,r2]
def GC{a e:ai}{f I:Fl}{xs ys:af}(r:R K F B `ar `aA [])(U:R K F B (.ag I ys) `bE []):Src K B F (uk K a e) (xs.zipWith (λx y=>.aL [x,y]) ys):=by
 ∎;let#[_,vs,O,n,Q]:=lO r;let#[_,us,M,m,N]:=lO U;∎;cases O;cases M;show#[(λH=>bE K H a vs/\bE K H e us),_,(by rw[Z9,<- ↑n,<- ↑m];show Yf (K:=K) (a:=a) (b:=e) (xs:=vs) (ys:=us)),λh j l s b=>#[Q h j l s b,N h j l s b],λi t h j x D d l s b y=>?_];let#[z,A,p,v,w,rfl,y3,rfl]:=y;rw[aj3] at d;cases q:xs[i]? with
 |none=>rw[q] at d;cases d
 |some u=>
  cases q':ys[i]? with
  |none=>rw[q,q'] at d;cases d
  |some o=>
   rw[q,q'] at d;cases d;∎;let#[u',E,G]:=n.dB q;let#[Y,J,L]:=m.dB q';∎;rw[E] at v;rw[J] at w;cases v;cases w;let#[C,g,r2,_]:=sS (xs:=[u,o]) (cs:=[]) s #[z,[A],[],[],rfl,rfl,G.mo l (λ_=>Le.refl _) u,A,[],[],[],rfl,rfl,L.mo l (λ_=>Le.refl _) o,rfl,rfl] .nil y3;show#[C,g,r2]
def EJ{l c:Int}{n:Nat}:Src K B F (uj l c n) ((Ç n).map λ(i:Nat)=>.int<|l+i*c):=by
 show#[_,_,(by rw[Å,Õ];show PJ (l:=l) (c:=c) (n:=n)),λ_ _ _ _ _=>ý,λi t e g x f a h s b y=>?_];let#[rfl,rfl]:=y;rw[Ê] at a;cases q:(Ç n)[i]? with
 |none=>rw[q] at a;cases a
 |some u=>
  rw[q] at a;cases a;have d:=AH q;rw[Õ] at d;rw[ê d] at q;cases q;show#[e,Gr.aS s,rfl,rfl]
def yL{l:Int}{n:Nat}:Src K B F (oh l n) ((Ç n).map λ(i:Nat)=>.int<|l+i):=by
 show#[_,_,(by rw[Å,Õ];show SU (l:=l) (n:=n)),λ_ _ _ _ _=>ý,λi t e g x f a h s b y=>?_];let#[rfl,rfl]:=y;rw[Ê] at a;cases q:(Ç n)[i]? with
 |none=>rw[q] at a;cases a
 |some u=>
  rw[q] at a;cases a;have d:=AH q;rw[Õ] at d;rw[ê d] at q;cases q;show#[e,Gr.aS s,rfl,rfl]
def Out.held{t:Tr}{v:V}{c:Cs}(o:Out K F B H F' H' t v c):∃a,Gr F H a H'/\R K a B `ba v []:=by
 let#[b,e,_,f,d,_]:=Pu.lay c o.g o.c o.n<|o.r.plain t;show#[b,e,o.r.aB `dj t d]
def eU.held{t:af}{v:ay}{c:Cs}(o:eU K F B H F' H' t v c):∃a,Gr F H a H'/\Rs K a B (bf t) v []:=by
 let#[b,e,_,f,d,_]:=Pu.lay c o.g o.c o.n<|o.r.plain t;show#[b,e,o.r.aB `dj t d]
abbrev iB(t:Tr)(Q:aA):Prop:=match t with |.ag _ a=>Q a |_=>False
def sI{Q:aA}(h:iB t Q):∃f xs,t=.ag f xs/\Q xs:=by
 unfold iB at h;split at h
 .show#[_,_,rfl,h]
 .show h.elim
abbrev AZ(pe:bh):jf:=λj Q=>pe j λt=>iB `ba λa=>Q a<|bM<|aB t
def PL(h:bF K k te pe):lI K k (Dr K te) (AZ pe):=λF B H j i x w c p q=>by
 show h F B H j i _ _ c p λt v u l y p1 o=>?_
 ∎;let#[g,d,r2]:=o.held;let#[f,A,e,p1]:=sI p1;∎;rw[e] at r2 p1;let#[a,vs,rfl,_,n]:=lO r2;show#[a,rfl,#[vs,n g l `bf d.s λk=>(c.b k).trans d.h],q _ _ _ g l p1 d (FO r2) λhn r m=>FO<|R.low _ hn m.symm r2]
abbrev oD(a:af)(Q:az):Prop:=match a with |[t]=>Q t |_=>False
def GD{Q:az}(h:oD ts Q):∃t,ts=[t]/\Q t:=by
 unfold oD at h;split at h
 .show#[_,rfl,h]
 .show h.elim
abbrev AY(a:cj):jf:=λj Q=>a j λb=>oD b λt=>iB `ba λd=>Q (d.mapIdx λi x=>.aL [.int i,x])<|bM<|aB t
def PM(h:eY K k ta pa):lI K k (Dg K ta) (AY pa):=λF B H j i D C c p q=>by
 show h F B H j i _ _ c p λG vs A m E p1 o=>?_
 ∎;let#[t,rfl,p1]:=GD p1;let#[v,rfl,x]:=o.r.one;let#[l,d,r2]:=Out.held #[o.g,x,o.c,o.n];let#[f,I,e,p1]:=sI p1;∎;rw[e] at r2 p1;let#[a,vs,rfl,_,w]:=lO r2;show#[a,rfl,#[vs,w l m `bf d.s λk=>(c.b k).trans d.h],q _ _ _ l m p1 d (FP r2) λhn y u=>FP<|R.low _ hn u.symm r2]
abbrev nh(a:af)(Q:Tr->az):Prop:=match a with |[t,u]=>Q t u |_=>False
def Wo{Q:Tr->az}(h:nh ts Q):∃t u,ts=[t,u]/\Q t u:=by
 unfold nh at h;split at h
 .show#[_,_,rfl,h]
 .show h.elim
def Rs.two(r:Rs K F B [t,u] xs cs):∃v w c d,xs=[v,w]/\R K F B t v c/\R K F B u w d/\cs=c++d:=by
 let#[v,r,c,d,g,h,i,j,m,b,l,e,a,f,rfl,rfl]:=r;rw[Ą] at a;show#[v,j,c,b,by rw[g,e],i,f,by rw[h,a]]
abbrev A1(a:cj):jf:=λj Q=>a j λb=>nh b λt u=>iB `ba λd=>iB (aB u) λe=>Q (d.zipWith (λx y=>.aL [x,y]) e)<|bM (aB t)&&bM (aB u)
def SV(h:eY K k ta pa):lI K k (DR K ta) (A1 pa):=λF B H j i I G c p q=>by
 show h F B H j i _ _ c p λO vs E d J p1 o=>?_
 ∎;let#[t,u,rfl,p1]:=Wo p1;let#[l,g,r2]:=o.held;let#[v,w,L,M,rfl,r3,r4,e]:=Rs.two r2;∎;have z:=ģ.mp e.symm;rw[z.1] at r3;rw[z.2] at r4;∎;let#[f,Q,x,p1]:=sI p1;let#[N,U,y,p1]:=sI p1;∎;rw[x] at r3 p1;rw[y] at r4 p1;∎;let#[a,vs,rfl,_,C]:=lO r3;let#[r,us,rfl,_,A]:=lO r4;∎;have m:∀k,aE (B k) d:=λk=>(c.b k).trans g.h
 show#[a,r,rfl,#[vs,C l d `bf g.s m],#[us,A l d `bf g.s m],q _ _ _ l d p1 g (GC r3 r4) λhn D n=>?_];rw[í] at hn;show GC (R.low _ hn.1 n.symm r3)<|R.low _ hn.2 n.symm r4
abbrev u9(a:af)(Q:Int->Prop):Prop:=match a with |[.int i]=>Q i |_=>False
abbrev yb(a:cj):jf:=λG Q=>a G λb=>u9 b λj=>-1000000<=j/\j<=1000000/\Q ((Ç j.toNat).map λ(i:Nat)=>.int i) Â
def Wq(h:eY K k ta pa):lI K k (Ds ta) (yb pa):=λF B H G J m f c p q=>by
 show h F B H G J _ _ c p λw vs a e u p1 o=>?_
 unfold u9 at p1;split at p1
 .rename_i j;let#[v,rfl,rfl,_]:=o.r.one;have b:∀B,Src K B a (oh 0 j.toNat) ((Ç j.toNat).map λ(i:Nat)=>.int i):=λB=>by
   have:=yL (K:=K) (B:=B) (F:=a) (l:=0) (n:=ai0 j);simp only[Int.zero_add] at this;show this
  show#[_,rfl,⋯,⋯,q _ _ _ a e p1.2.2 o.g (b B) λ_ d _=>b d]
 .show p1.elim
abbrev u6(a:af)(Q:Int->Int->Prop):Prop:=match a with |[.int i,.int j]=>Q i j |_=>False
abbrev yc(a:cj):jf:=λG Q=>a G λb=>u6 b λi j=>(-1000000<=i/\i<=1000000/\-1000000<=j/\j<=1000000)/\Q ((Ç (j - i).toNat).map λ(n:Nat)=>.int<|i+n) Â
def Wr(h:eY K k ta pa):lI K k (Dt ta) (yc pa):=λF B H j i f e c p q=>by
 show h F B H j i _ _ c p λm vs a b l p1 o=>?_
 unfold u6 at p1;split at p1
 .obtain⟨v,w,d1,d2,rfl,⟨rfl,_⟩,⟨rfl,_⟩,_⟩:=o.r.two;show#[_,_,rfl,#[⋯,⋯,⋯,⋯],q _ _ _ a b p1.2 o.g yL λ_ d _=>yL]
 .show p1.elim
end
section
def bj.mut{i:Nat}(W:bj K k lo us Fb Hb F H G J cs)(N:G[i]?=À (À v))(e:(a,o)∈cs i)(hd:au F H ds')(hn:dy Hb ds')(E:∀p∈ds',p.1≠a)(C:∀j,j≠i->∀p∈ds',∀q∈cs j,p.1≠q.1)(B:c'.Perm ((a,o')::ds'))(O:R K F (λ_=>Hb) t' v c'):
  bj K k lo us Fb Hb F (aQ H a o') G (J.set i t') (λj=>if j=i then c' else cs j):=by
 have I:=W.n i _ e;have D:=(W.c i).f _ e;have b:∀j,j≠i->∀p∈cs j,p.1≠a:=λj C p m z=>W.d j i C p m _ e z
 show#[#[#[W.g.h.pR I,W.g.f,W.g.s.pR D,W.g.n],W.g.z],W.z,by rw[ď];show W.l,λj u h=>?_,λj=>?_,λj=>?_,λx y ne p w q r=>?_,W.p,W.x]
 .by_cases ej:j=i
  .subst ej;have M:j<↑J:=by have:=(Á.mp h).1;rw[ď] at this;show this
   rw[Ĉ M] at h;cases h;show .inr #[v,N,by rw[ao7 rfl];show O]
  .rw[ć<|λz=>ej z.symm] at h;rw[ao6 ej];show W.e j u h
 .split
  .show#[λp m=>?_,λp m=>?_,?_]
   .rcases æ.mp `bu with rfl |m
    .show cD
    .rw[a6 (E p m)];show hd.h p m
   .rcases æ.mp `bu with rfl |m
    .show D
    .show hd.f p m
   .show ((B.map (·.1)).nodup_iff).mpr ?_;rw[ë,ē];show#[λm=>?_,hd.nd];let#[p,w,e]:=ß.mp m;show E p w e
  .rename_i ej;show#[λp m=>by rw[a6<|b j ej p m];show (W.c j).h p m,(W.c j).f,(W.c j).nd]
 .split
  .intro p m;rcases æ.mp `bu with rfl |m
   .show I
   .show hn p m
  .show W.n j
 .have key:∀p,p∈c'->∀y,y≠i->∀q∈cs y,p.1≠q.1:=λp m y L q r=>by
   rcases æ.mp `bu with rfl |m
   .show (b y L q r).symm
   .show C y L p m q r
  by_cases ex:x=i
  .have A:y≠i:=λz=>ne<|ex.trans z.symm
   rw[ao7 ex] at w;rw[ao6 A] at r;show key p w y A q r
  .rw[ao6 ex] at w;by_cases A:y=i
   .rw[ao7 A] at r;show (key q r x ex p w).symm
   .rw[ao6 A] at r;show W.d x y ne p w q r
abbrev gT(f:Str)(u:Tr):bx->bx
 |[]=>[]
 |(g,x)::r=>if g=f then (g,u)::r else (g,x)::gT f u r
abbrev cW(t:Tr):ah->Tr
 |[]=>t
 |f::r=>match cW t r with |.ins .o _ fs=>(fs.lookup f).getD .ar |_=>.ar
abbrev iS(t:Tr):ah->Tr->Tr
 |[],u=>u
 |f::r,u=>iS t r (match cW t r with |.ins .o c fs=>.ins .o c `dD |y=>y)
abbrev pH(K:aq)(t:Tr):ah->Prop
 |[]=>True
 |f::r=>pH K t r /\ (match cW t r with |.ins .o c fs=>(g6 K c /\ bo K c f) /\ (fs.lookup f).isSome=Â |_=>False)
abbrev tR(K:aq)(i:Nat):ah->TE
 |[]=>add i
 |f::r=>xv K `cb f
def Rf.at:∀{fs:bx}{vs:List (Str×V)}{n:Cs}{f:Str}{x:Tr},Rf K F B fs vs n->fs.lookup f=À x->∃w c pre a,vs.lookup f=À w/\R K F B x w c/\n=pre++c++a/\∀b,Le F b->∀u d,R K b B u w d->Rf K b B `dD vs (pre++d++a)
 |(g,y)::fs,_,_,f,x,y0,h=>by
  let#[v,r,c,d,j,o,p,q]:=y0;by_cases e:g=f
  .subst e;rw[aj4] at h;cases h;show#[v,c,[],d,by rw[j,aj4],p,by rw[o];rfl,λb l u i m=>?_];unfold gT;rw[ao7 rfl];show#[v,r,i,d,j,rfl,m,q.mo l (λ_=>Le.refl _) fs]
  .have e':(f == g)=É:=by simpa using λz=>e z.symm
   rw[ċ,e'] at h;let#[w,G,pre,a,A,C,D,E]:=Rf.at (fs:=fs) q h;show#[w,G,c++pre,a,by rw[j,ċ,e'];show A,C,by rw[o,D];simp only[ô],λb l u i m=>?_];unfold gT;rw[ao6 e];show#[v,r,c,pre++i++a,j,by simp only[ô],p.mo l (λ_=>Le.refl _) y,E b l u i m]
def place{B:Bool->Hp}(s:aE F H)(b:∀k,aE (B k) H)(N:j[i]?=À (À v))(U:R K F B t v c0)(M:au F H c0):∀(r:ah),pH K t r->∃w c rest,c0.Perm (c++rest)/\R K F B `bU w c/\(∀g,Le F g->∀u d,R K g B u w d->∃p,R K g B `ep v p/\p.Perm (d++rest))/\∀Q:VK,Q w H->tR K i r j H Q
 |[],_=>#[v,c0,[],by rw[Ą],U,λg l u d I=>#[d,I,by rw[Ą]],λQ q=>#[v,N,q]]
 |f::r,ok=>by
  let#[w,c,rest,p1,Y,cl,rd]:=place s b N U M r ok.1;have D:=ok.2;split at D
  .rename_i C fs eg;∎;let#[#[AN,E],G]:=D;let#[x,O]:=Ŭ.mp G;∎;rw[eg] at Y;∎;let#[a,m,vs,ds,J,L,h3]:=Y;let#[A,n,pre,e,a1,a2,a3,a4]:=h3.at O;∎;have hm:(a,HO.ins C m vs)∈c0:=p1.mem_iff.mpr (Æ.mpr (.inl (by rw[L];show .head _)));show#[A,n,(a,.ins C m vs)::(pre++e++rest),?_,?_,λg l u d I=>?_,λQ q=>?_]
   .show p1.trans ?_;rw[L,a3];change List.Perm ((a,HO.ins C m vs)::((pre++n++e)++rest)) _;show ak7 (ϯ _ ?_)<|List.perm_middle.symm;rw[ô pre n e,<- ô,<- ô,<- ô];show Ŵ _ ?_;show Ŵ _ ?_;show Ϝ
   .show R K F B (match cW t r with |.ins .o _ fs=>(fs.lookup f).getD .ar |_=>.ar) A n;rw[eg];change R K F B ((fs.lookup f).getD .ar) A n;rw[O];show a2
   .obtain⟨p,b1,b2⟩:=cl g l (.ins .o C<|gT f u fs) ((a,.ins C m vs)::(pre++d++e)) #[a,m,vs,_,J,rfl,a4 g l u d I];show#[p,?_,b2.trans ?_]
    .show R K g B (iS t r (match cW t r with |.ins .o c fs=>.ins .o c `dD |y=>y)) v p;rw[eg];show b1
    .show List.Perm ((a,HO.ins C m vs)::((pre++d++e)++rest)) _;show ak7 (ϯ _ ?_)<|List.perm_middle.symm;rw[ô pre d e,<- ô,<- ô,<- ô];show Ŵ _ ?_;show Ŵ _ ?_;show Ϝ
   .show rd _ #[a,C,m,vs,A,J,Rd.of<|M.h _ hm,AN,E,a1,q]
  .show D.elim
def bj.at(W:bj K k lo us Fb Hb F H G J cs)(ht:J[i]?=À t)(hn:t≠.ar)(r:ah)(ok:pH K t r):∃w c,R K F (λ_=>Hb) `bU w c/\(∀p∈c,p∈cs i)/\au F H c/\(∀Q:VK,Q w H->tR K i r G H Q)/\
  ∀b B,bj K k lo us Fb Hb b B G J cs->Le F b->∀(a:ai)(o o':HO)(A ds' e:Cs)(u:Tr)(d:Cs),c=(a,o)::A->ds'.Sublist A->au b B e->dy Hb e->(∀j,∀p∈cs j,∀q∈e,p.1≠q.1)->d.Perm ((a,o')::(ds'++e))->R K b (λ_=>Hb) u w d->∃I,bj K k lo us Fb Hb b (aQ B a o') G (J.set i<|iS t r u) I:=by
 rcases W.e i t ht with z |⟨v,Y,rv⟩
 .show ao8 z hn
 .obtain⟨w,c,rest,p1,r1,cl,rd⟩:=place W.g.s (λ_=>W.g.h) Y rv (W.c i) r ok;have sub:∀{F H:Hp},au F H (cs i)->au F H (c++rest):=λh=>#[λp m=>h.h p<|p1.mem_iff.mpr m,λp m=>h.f p<|p1.mem_iff.mpr m,((p1.map (·.1)).nodup_iff).mp h.nd]
  show#[w,c,r1,λp m=>p1.mem_iff.mpr<|Æ.mpr<|.inl m,(sub<|W.c i).left,rd,λb B y l a o o' A ds' e u d L sl he M x pd ru=>?_];let#[c1,b1,b2]:=cl b l u d ru;have U:=sub<|y.c i;rw[L] at U;have O:(a,o)∈cs i:=p1.mem_iff.mpr (Æ.mpr (.inl (by rw[L];show .head _)));have D:(a ∉ (A++rest).map (·.1))/\((A++rest).map (·.1)).Nodup:=ē.mp U.nd;have N:(ds'++rest).Sublist (A++rest):=sl.append_right rest;have C:∀p∈ds'++rest,p∈cs i:=λp m=>p1.mem_iff.mpr (by rw[L];show .tail _<|N.subset m)
  have c3:au b B (ds'++rest):=#[λp m=>(y.c i).h p<|C p m,λp m=>(y.c i).f p<|C p m,List.Sublist.nodup (N.map _) D.2]
  show#[_,y.mut (o:=o) (o':=o') (ds':=(ds'++rest)++e) Y O (c3.app he λp mp q E=>x i p (C p mp) q E) ?_ ?_ ?_ (b2.trans<|(pd.append_right rest).trans ?_) b1]
  .show λp m=>(Æ.mp m).elim (λm=>y.n i p<|C p m)<|M p
  .intro p m z;rcases Æ.mp m with m |m
   .show D.1 (ß.mpr ⟨p,N.subset m,z⟩)
   .show x i _ O p m z.symm
  .intro j hj p m q E;rcases Æ.mp m with m |m
   .show y.d i j (λz=>hj z.symm) p (C p m) q E
   .show (x j q E p m).symm
  .show List.Perm ((a,o')::((ds'++e)++rest)) ((a,o')::((ds'++rest)++e));show ϯ _ ?_;rw[ô,ô];show List.Perm.append_left _ Ϝ
end
section
abbrev iL(K:aq)(j:af)(i:Nat)(r:ah)(Q:Tr->(Tr->af)->Prop):Prop:=match j[i]? with
 |some .ar=>False
 |some t=>pH K t r /\ Q `bU λu=>j.set i<|iS t r u
 |none=>False
def sY{Q:Tr->(Tr->af)->Prop}(h:iL K j i r Q):∃t,j[i]?=À t/\t≠.ar/\pH K t r/\Q `bU λu=>j.set i `ep:=by
 unfold iL at h;split at h
 .show h.elim
 .rename_i t ne e;show#[t,e,ne,h.1,h.2]
 .show h.elim
def Rs.set:∀{xs:af}{vs:ay}{e:Cs}(n:Nat){t:Tr}{v:V},Rs K F B xs vs e->R K F B t v []->∃ds',Rs K F B `dk (vs.set n v) ds'/\ds'.Sublist e
 |[],_,e,n,_,_,y,_=>by let#[a,b]:=y;show#[[],by rw[a];show#[rfl,rfl],by rw[b];show Ū _]
 |x::xs,_,_,0,_,_,y,rt=>by let#[v,r,c,d,a,b,h,f]:=y;show#[d,by rw[a];show#[_,r,[],d,rfl,rfl,rt,f],by rw[b];show Ο c d]
 |x::xs,_,_,n + 1,_,_,y,rt=>by
  ∎;let#[v,r,c,d,a,b,h,f]:=y;let#[g,i,j]:=Rs.set (xs:=xs) n f rt;∎;show#[c++g,by rw[a];show#[v,_,c,g,rfl,rfl,h,i],by rw[b];show j.append_left c]
def Rs.snoc(h:Rs K F B xs vs ds)(rt:R K F B t v e):Rs K F B (xs++[t]) (vs++[v]) (ds++e):=h.append #[v,[],e,[],rfl,by rw[Ą],rt,rfl,rfl]
def bj.fC{t:Tr}{v:V}{c:Cs}(W:bj K k lo us Fb Hb F H j i cs)(o:Out K F `cC H F' H' t v c)(n:bM t=Â):
  ∃a,bj K k lo us Fb Hb a H' j i cs/\R K a (λ_=>Hb) `ba v []/\Le F a:=by
 ∎;let#[l,f]:=W.fresh o;let#[d,e,b,h]:=(W.gr o.g).lay o.c l `bT f;∎;show#[d,e,(R.low (B':=λ_=>Hb) t n rfl o.r).aB (Le.of b) t h,Le.trans o.g.le<|Le.of b]
def vM:dy Hb []:=λ_ m=>nomatch m
def vD{cs:Nat->Cs}:∀(j:Nat),∀p∈cs j,∀q∈([]:Cs),p.1≠q.1:=λ_ _ _ _ m=>nomatch m
abbrev m8(u:Tr)(Q:aA):Prop:=match u with |.ag .o xs=>Q xs |_=>False
def FQ{Q:aA}(h:m8 u Q):∃xs,u=.ag .o xs/\Q xs:=by
 unfold m8 at h;split at h
 .show#[_,rfl,h]
 .show h.elim
abbrev yd(K:aq)(i:Nat)(r:ah)(pe:bh):cB:=λD j=>iL K j i r λu s=>m8 u λa=>pe `ae λt=>bM t=Â/\↑a<1000000/\D.nx (s<|.ag .o<|a++[aB t])
def Ws(h:bF K k te pe):c6 K k lo (rT<|Bl K "list" Cv (tR K i r)<|jI te jK) (yd K i r pe):=λus Y B F H j G cs D Q W p L=>by
 ∎;let#[t,I,J,M,p]:=sY p;let#[A,N,p]:=FQ p;let#[w,c,y,sub,O,rd,cl]:=W.at I J r M;∎;rw[N] at y;let#[a,vs,b,rfl,m,n]:=y;have x:H a=À `da:=O.h (a,.ag vs) (by rw[m];show .head _);show rd _ #[VO x,h F (Bq B H) H j _ _ _ W.fm p λu v U l c1 q o=>?_];let#[f,C,r2,l2]:=W.fC o q.1;have e:l a=À `da:=o.g.h _ _ x;let#[d,E]:=cl f l C l2 a `da (.ag<|vs++[v]) b b [] (.ag .o<|A++[aB u]) ((a,.ag<|vs++[v])::(b++[])) m (Ū _) .nil vM vD (Zy _) #[a,vs++[v],b++[],rfl,rfl,(n.mo l2 (λ_=>Le.refl _) A).snoc r2];show#[a,vs,v,rfl,rfl,e,Ö (by rw[n.length];show q.2.1) ∎,L.nx f _ j _ d E q.2.2]
abbrev rY(xs:af)(y t:Tr)(Q:aA):Prop:=match y with |.int j=>(match iJ ↑xs j with |some n=>Q `dk |none=>False) |_=>False
abbrev xD(K:aq)(i:Nat)(r:ah)(b pe:bh):cB:=λD j=>pe `ae λt=>bM t=Â/\iL K j i r λu s=>m8 u λd=>b `ae λy=>rY d y `ba λa=>D.nx<|s<|.ag .o a
def SW(h:bF K k te pe)(hj:bF K k tj pj):c6 K k lo (mf te<|DA (tR K i r) tj Dc) (xD K i r pj pe):=λus Fb A F H j G cs D D' W p L=>by
 show h F (Bq A H) H j _ _ _ W.fm p λu v F1 f c1 q o=>?_
 ∎;let#[J,l,r2,l2]:=W.fC o q.1;let#[t,Y,e2,e3,p]:=sY q.2;let#[I,eg,p]:=FQ p;let#[w,c,E,sub,hc,rd,cl]:=l.at Y e2 r e3;∎;rw[eg] at E;let#[a,vs,U,rfl,B,C]:=E;have ha:f a=À `da:=hc.h (a,.ag vs) (by rw[B];show .head _);show rd _<|hj J (Bq A f) f j _ _ _ l.fm p λy vy x M c3 e d=>?_;unfold rY at e;split at e
 .obtain⟨rfl,_⟩:=d.r;split at e
  .rename_i n en;∎;let#[b,O,Q]:=(C.mo d.g.le (λ_=>Le.refl _) I).set n<|r2.mo d.g.le (λ_=>Le.refl _) _;let#[m,N]:=cl x M (l.gr d.g) d.g.le a `da (.ag<|vs.set n v) U b [] (.ag .o<|I.set n<|aB u) ((a,.ag<|vs.set n v)::(b++[])) B Q .nil vM vD (Zy _) #[a,_,b++[],rfl,rfl,by rw[Ą];show O];∎;show#[a,vs,_,n,rfl,rfl,d.g.h _ _ ha,by rw[C.length];show en,L.nx x _ j _ m N e]
  .show e.elim
 .show e.elim
abbrev jL(m:bz)(y:aW)(t:Tr):bz:=
 if (m.any λa=>decide<|a.1=y)=Â then m.map (λa=>if a.1=y then (a.1,t) else a) else m++[(y,t)]
def Rk.any:∀{m:bz}{vs:bL}{b:Cs}{y:aW},Rk K F B m vs b->(vs.any λa=>decide<|a.1=y)=m.any λa=>decide<|a.1=y
 |[],_,_,y,y0=>by let#[h,_]:=y0;rw[h];rfl
 |(k,x)::m,_,_,y,y0=>by let#[v,r,c,d,e,g,i,f]:=y0;rw[e,ϣ,ϣ,Rk.any f]
def Rk.rep:∀{m:bz}{vs:bL}{i:Cs}{y:aW}{t:Tr}{v:V},Rk K F B m vs i->R K F B t v []->∃ds',Rk K F B (m.map (λa=>if a.1=y then (a.1,t) else a)) (vs.map (λa=>if a.1=y then (a.1,v) else a)) ds'/\ds'.Sublist i
 |[],_,_,y,_,_,y0,_=>by let#[h,n]:=y0;show#[[],by rw[h];show#[rfl,rfl],by rw[n];show Ū _]
 |(k,x)::m,_,_,y,t,w,y0,rt=>by
  ∎;let#[v,r,c,d,j,l,o,p]:=y0;let#[b,f,g]:=Rk.rep (y:=y) p rt;∎;by_cases e:k=y
  .show#[b,?_,by rw[l];show g.trans<|Ο c d];rw[j,ë,ë];change Rk K F B ((if k=y then (k,t) else (k,x))::_) ((if k=y then (k,w) else (k,v))::_) _;rw[ao7 e,ao7 e];show#[w,_,[],b,rfl,rfl,rt,f]
  .show#[c++b,?_,by rw[l];show g.append_left c];rw[j,ë,ë];change Rk K F B ((if k=y then (k,t) else (k,x))::_) ((if k=y then (k,w) else (k,v))::_) _;rw[ao6 e,ao6 e];show#[v,_,c,b,rfl,rfl,o,f]
def Rk.append:∀{m n:bz}{vs us:bL}{c d:Cs},Rk K F B m vs c->Rk K F B n us d->Rk K F B (m++n) (vs++us) (c++d)
 |[],_,_,_,_,_,y,h=>by let#[a,b]:=y;rw[a,b];show h
 |(k,x)::m,_,_,_,_,_,y,h=>by let#[v,r,c,d,a,b,e,f]:=y;rw[a,b];show#[v,r ++ _,c,d ++ _,rfl,by rw[ô],e,Rk.append f h]
def Rk.put(h:Rk K F B m vs ds)(rt:R K F B t v []):∃ds',Rk K F B (jL m y t) (fx vs y v) ds'/\ds'.Sublist ds:=by
 unfold jL fx;rw[h.any];split
 .show h.rep rt
 .show#[ds++[],h.append #[v,[],[],[],rfl,rfl,rt,rfl,rfl],by rw[Ą];show Ū _]
def PN(n:(m.map (·.1)).Nodup)(y:aW)(t:Tr):((jL m y t).map (·.1)).Nodup:=by
 unfold jL;split
 .have e:(m.map λd=>if d.1=y then (d.1,t) else d).map (·.1)=m.map (·.1):=by
   rw[þ];show č λp _=>?_
   change (if p.1=y then (p.1,t) else p).1=p.1;split<;>rfl
  rw[e];show n
 .rename_i h;rw[Û,Ĵ];show#[n,ē.mpr #[λz=>(nomatch z),ab5],λa f b g e=>h ?_];let#[p,i,rfl]:=ß.mp f;rw[ä.mp g] at e;show ů.mpr #[p,i,ao9 e]
abbrev rZ(u:Tr)(Q:bz->Prop):Prop:=match u with |.aP .o xs=>Q xs |_=>False
def SX{Q:bz->Prop}(h:rZ u Q):∃xs,u=.aP .o xs/\Q xs:=by
 unfold rZ at h;split at h
 .show#[_,rfl,h]
 .show h.elim
abbrev kG(y:Tr)(Q:aW->Prop):Prop:=match qq y with |some y=>Q y |none=>False
abbrev ye(K:aq)(i:Nat)(r:ah)(a pe:bh):cB:=λD j=>pe `ae λt=>bM t=Â/\iL K j i r λu s=>rZ u λm=>a `ae λy=>kG y λy=>↑m<1000000/\D.nx (s<|.aP .o<|jL m y<|aB t)
def Wt(h:bF K k te pe)(hj:bF K k tj pj):c6 K k lo (C7 `cb tj te) (ye K i r pj pe):=λus Fb A F H j G cs D D' W p L=>by
 show h F (Bq A H) H j _ _ _ W.fm p λu v F1 f c1 q o=>?_
 ∎;let#[I,l,r2,l2]:=W.fC o q.1;let#[t,U,Y,e3,p]:=sY q.2;let#[m,eg,p]:=SX p;let#[w,c,E,sub,hc,rd,cl]:=l.at U Y r e3;∎;rw[eg] at E;let#[a,vs,Q,rfl,B,C,h4]:=E;have ha:f a=À `aD:=hc.h (a,.dK vs) (by rw[B];show .head _);show rd _<|hj I (Bq A f) f j _ _ _ l.fm p λy vy x J c3 e d=>?_;unfold kG at e;split at e
 .rename_i yk ey;obtain rfl:=wk d.r ey;∎;let#[b,N,O]:=(C.mo d.g.le (λ_=>Le.refl _) m).put (y:=yk)<|r2.mo d.g.le (λ_=>Le.refl _) _;let#[n,M]:=cl x J (l.gr d.g) d.g.le a `aD (.dK<|fx vs yk v) Q b [] (.aP .o<|jL m yk<|aB u) ((a,.dK<|fx vs yk v)::(b++[])) B O .nil vM vD (Zy _) #[a,_,b++[],rfl,rfl,by rw[Ą];show N,PN h4 _ _];∎;show#[a,_,rfl,ky.k (d.g.h _ _ ha) (Ö (by rw[C.length];show e.1) ∎),L.nx x _ j _ n M e.2]
 .show e.elim
abbrev xH:bh:=λ_ Q=>Q<|.aP .o []
def SY:bF K k CC xH:=λF B H j i Q d c p q a b=>q _ _ F _ _ p #[Gr.il c.s b,#[a,[],[],rfl,rfl,#[rfl,rfl],ab5],sT c.s .nil b,λp m=>by
 cases m with
 |head=>show b
 |tail _ m=>nomatch m]
abbrev iT(f:Str)(u:Tr):bx->bx
 |[]=>[(f,u)]
 |(g,x)::r=>if g=f then (g,u)::r else (g,x)::iT f u r
def Rf.put:∀{fs:bx}{vs:List (Str×V)}{h:Cs}{f:Str}{t:Tr}{v:V}{e:Cs},Rf K F B fs vs h->R K F B t v e->∃ds' d,Rf K F B (iT f t fs) (fN f v vs) d/\ds'.Sublist h/\d.Perm (ds'++e)
 |[],_,_,f,t,v,e,y,rt=>by let#[a,b]:=y;show#[[],e,by rw[a];show#[v,[],e,[],rfl,by rw[Ą],rt,rfl,rfl],by rw[b];show Ū _,Zy _]
 |(g,x)::fs,_,_,f,t,w,e,y,rt=>by
  let#[v,r,c,d,a,b,j,i]:=y;by_cases z:g=f
  .show#[d,e++d,?_,by rw[b];show Ο c d,Ϝ];rw[a];change Rf K F B (if g=f then (g,t)::fs else _) (if g=f then (g,w)::r else _) _;rw[ao7 z,ao7 z];show#[w,r,e,d,rfl,rfl,rt,i]
  .obtain⟨d',d2,a1,a2,a3⟩:=Rf.put (f:=f) i rt;show#[c++d',c++d2,?_,by rw[b];show a2.append_left c,by rw[ô];show a3.append_left c];rw[a];change Rf K F B (if g=f then _ else (g,x)::iT f t fs) (if g=f then _ else (g,v)::fN f w r) _;rw[ao6 z,ao6 z];show#[v,_,c,d2,rfl,rfl,j,a1]
def Rf.length:∀{fs:bx}{vs:List (Str×V)}{a:Cs},Rf K F B fs vs a->↑vs=↑fs
 |[],_,_,y=>by let#[h,_]:=y;rw[h];rfl
 |(k,x)::xs,_,_,y=>by let#[v,r,c,d,b,f,g,e]:=y;rw[b,Ú,Ú,Rf.length e]
abbrev oA(K:aq)(f:Str)(u:Tr)(Q:ai->bx->Prop):Prop:=match u with |.ins .o c fs=>(g6 K c/\bo K c f)/\↑fs<900/\Q c fs |_=>False
def FR{Q:ai->bx->Prop}(h:oA K f u Q):∃c fs,u=.ins .o c fs/\(g6 K c/\bo K c f)/\↑fs<900/\Q c fs:=by
 unfold oA at h;split at h
 .show#[_,_,rfl,h]
 .show h.elim
abbrev xI(K:aq)(i:Nat)(r:ah)(f:Str)(pe:bh):cB:=λD j=>pe `ae λt=>bM t=Â/\iL K j i r λu s=>oA K f u λc fs=>D.nx<|s<|.ins .o c<|iT f t fs
def S1(h:bF K k te pe):c6 K k lo (yv K `cb te f) (xI K i r f pe):=λus Fb x F H j G cs D D' W p L=>by
 show h F (Bq x H) H j _ _ _ W.fm p λu v m n O q o=>?_
 have y:=W.gr o.g;∎;let#[n1,Q]:=W.fresh o;let#[t,Y,e2,e3,p]:=sY q.2;let#[C,fs,eg,ok,hl,p]:=FR p;let#[w,c,E,sub,hc,rd,cl]:=y.at Y e2 r e3;∎;rw[eg] at E;let#[a,b,vs,U,rfl,A,B]:=E;have ha:n a=À `bV:=hc.h (a,.ins C b vs) (by rw[A];show .head _);∎;let#[l,d,J,M,N]:=B.put (f:=f)<|R.low (B':=λ_=>x) u q.1 rfl o.r;let#[e,I]:=cl m n y `bf a `bV (.ins C b<|fN f v vs) U l O (.ins .o C<|iT f u fs) ((a,.ins C b<|fN f v vs)::d) A M o.c n1 Q (ϯ _ N) #[a,b,_,d,rfl,rfl,J];∎;show rd _ #[a,C,b,vs,rfl,ha,ok.1,ok.2,Ö (by rw[B.length];show hl) ∎,L.nx m _ j _ e I p]
end
section
def Wu{Hb:Hp}(h:Hb a=È\/Hb a=À `aD):Le (fz Hb a<|.aB ob<|.dK vs) Hb:=λb u n r=>by
 by_cases e:b=a
 .subst e;rcases h with h |h
  .rcases r with r |⟨o,r⟩<;>(rw[iE,ao7 h] at r;cases r)
  .have z:fz Hb b (.aB ob<|.dK vs) b=À (.aB ob<|.dK vs):=by rw[iE,ao6 (by rw[h];intro z;cases z)]
   rcases r with r |⟨o,r⟩
   .rw[z] at r;cases r;show ao8 rfl<|n _ _
   .rw[z] at r;cases r;show .inl h
 .rcases r with r |⟨o,r⟩
  .rw[ff e] at r;show .inl r
  .rw[ff e] at r;show .inr #[o,r]
def bj.walk(W:bj K k lo us F Hb F H j G cs)(b:F a=À `aD):bj K k.walk lo us (fz F a<|.aB ob<|.dK vs) (fz Hb a<|.aB ob<|.dK vs) (fz F a<|.aB ob<|.dK vs) (aQ H a<|.aB ob<|.dK vs) j G cs:=by
 have r:H a=À `aD:=W.g.s _ _ b;have o:Hb a=È\/Hb a=À `aD:=by
  cases q:Hb a with
  |none=>show .inl rfl
  |some u=>have:=W.g.h _ _ q;rw[r] at this;show .inr this.symm
 have ne:∀i,∀p∈cs i,p.1≠a:=λi p m e=>by have:=(W.c i).f p m;rw[e,b] at this;cases this
 show#[#[YW _ W.g.toGr0,Fz.refl _],λh=>(by cases h),W.l,λi t h=>(W.e i t h).imp id λ⟨v,h1,h2⟩=>#[v,h1,h2.mo (wJ<|.inr b) (λ_=>wJ o) t],λi=>#[λp m=>?_,λp m=>?_,(W.c i).nd],λi p m=>?_,W.d,W.p,λ_ _ _ _ h=>h.elim]
 .rw[a6<|ne i p m];show (W.c i).h p m
 .rw[ff<|ne i p m];show (W.c i).f p m
 .rw[ff<|ne i p m];show W.n i p m
def bj.fX(hz:k.z=Â)(w:bj K k lo us F1 Hb F1 H1 j G cs)(B:F1 a=À `aD)(W:bj K k.walk lo us (fz F1 a<|.aB ob<|.dK vs) (fz Hb a<|.aB ob<|.dK vs) F H j' G' y):
  H a=À (.aB ob<|.dK vs)/\∃r,bj K k lo us F1 Hb r (aQ H a<|.dK vs) j' G' y/\Le F r/\(∀b,b≠a->r b=F b)/\(∀b,F b=È->b≠a):=by
 have J:H1 a=À `aD:=w.g.s _ _ B;have Q:Hb a=È\/Hb a=À `aD:=by
  cases q:Hb a with
  |none=>show .inl rfl
  |some u=>have:=w.g.h _ _ q;rw[J] at this;show .inr this.symm
 have I:fz F1 a (.aB ob<|.dK vs) a=À (.aB ob<|.dK vs):=by rw[iE,ao6 (by rw[B];intro z;cases z)]
 have A:F a=À (.aB ob<|.dK vs):=W.g.f _ _ I;have C:H a=À (.aB ob<|.dK vs):=W.g.s _ _ A;have N:Fz (λb=>b=a\/S0 b) F:=λb o u e=>by
  let#[U,Y,E]:=W.g.z b o u e;by_cases eb:b=a
  .show .inl eb
  .rw[ff eb] at E;show .inr<|w.z hz b U Y E
 let#[M,O,L,l2,e2,n2,D,c2]:=J8 (Fb:=F1) (Hb:=Hb) (F:=F1) (H:=H1) (S:=S0) w.g.toGr0 J (.inr B) W.g.toGr0 (A.trans I.symm) N;have ne:∀i,∀p∈y i,p.1≠a:=λi p m e=>by have:=(W.c i).f p m;rw[e,A] at this;cases this
 show#[C,M,#[#[O,λb o u e=>(L b o u e).elim],λ_=>L,W.l,λi t h=>(W.e i t h).imp id λ⟨v,h1,h2⟩=>#[v,h1,h2.mo l2 (λ_=>Wu Q) t],λi=>#[λp m=>?_,λp m=>?_,(W.c i).nd],λi p m=>?_,W.d,W.p,w.x],l2,D,λb e z=>?_]
 .rw[a6<|ne i p m];show (W.c i).h p m
 .rw[D _<|ne i p m];show (W.c i).f p m
 .have:=W.n i p m;rw[ff<|ne i p m] at this;show this
 .rw[z,A] at e;cases e
abbrev lF:aW->Tr |.inl n=>.int n |.inr s=>.str s
inductive Wm where |it |ks |vs
abbrev wit:Wm->aW×Tr->Tr
 |.it,p=>.aL [lF p.1,p.2]
 |.ks,p=>lF p.1
 |.vs,p=>p.2
abbrev rQ(t:Tr)(Q:bz->Prop):Prop:=match t with |.aP .f m=>Q m |_=>False
abbrev xJ(w:Wm)(pe:bh)(pg:eV)(pb:cB):cB:=λD j=>pe `ae λt=>bM t=Â/\rQ `ba λm=>∃I:Nat->aA,I 0 j/\(∀i p j,m[i]?=À p->I i j->pg (wit w p) j λa=>pb { D with nx:=I<|i+1,ct:=I<|i+1,bk:=D.nx } a)/\∀j,I ↑m j->D.nx j
def Rk.dB:∀{m:bz}{vs:bL}{i:Nat}{y:aW}{v:V},Rk K F B m vs []->vs[i]?=À (y,v)->∃t,m[i]?=À (y,t)/\R K F B t v []
 |[],_,i,y,v,y0,e=>by let#[h,_]:=y0;rw[h] at e;cases e
 |(y',x)::m,_,0,y,v,y0,e=>by
  let#[u,r,c,d,a,b,f,g]:=y0;rw[a] at e;cases e;have z:=ģ.mp b.symm;rw[z.1] at f;show#[x,rfl,f]
 |(y',x)::m,_,i + 1,y,v,y0,e=>by
  let#[u,r,c,d,a,b,f,g]:=y0;rw[a] at e;have z:=ģ.mp b.symm;rw[z.2] at g;show Rk.dB (i:=i) g e
def Jg:R K F B (lF y) (kV y) []:=by
 cases y with
 |inl n=>show#[rfl,rfl]
 |inr n=>show#[rfl,rfl]
def Wv(hz:k.z=Â)(b:∀o u,X.H₀ a≠À `aG)(g:bj K k lo us F1 Hb F1 H1 j i cs)(l:F1 a=À `aD)(L:Lk K k lo us F1 Hb D D'):Lk K k.walk lo us (fz F1 a<|.aB ob<|.dK vs) (fz Hb a<|.aB ob<|.dK vs) (xF X D) D':=by
 show#[λF H j i cs W q=>?_,λF H j i cs v t c W r e n d w q=>?_,λF H j i cs W q=>?_,λF H j i cs W q=>?_]
 .obtain⟨h1,F2,W2,_⟩:=g.fX hz l W;show#[a,ob,vs,h1,b,L.nx F2 _ j i cs W2 q]
 .obtain⟨h1,F2,W2,l2,b2,f2⟩:=g.fX hz l W;show#[a,ob,vs,h1,b,L.rt F2 _ j i cs v t c W2 ((r.mo l2 (λ_=>Le.refl _) t).base t w) #[λp m=>?_,λp m=>?_,e.nd] (λp m=>?_) d w q]
  .rw[a6<|f2 _<|e.f p m];show e.h p m
  .rw[b2 _<|f2 _<|e.f p m];show e.f p m
  .have:=n p m;rw[ff<|f2 _<|e.f p m] at this;show this
 .obtain⟨h1,F2,W2,_⟩:=g.fX hz l W;show#[a,ob,vs,h1,b,L.bk F2 _ j i cs W2 q]
 .obtain⟨h1,F2,W2,_⟩:=g.fX hz l W;show#[a,ob,vs,h1,b,L.ct F2 _ j i cs W2 q]
def E1(d:bj K k lo us F1 Hb F1 H1 j i cs)(b:F1 a=À `aD)(r:Rk K F1 (λ_=>Hb) m vs [])(W:bj K k.walk lo us (fz F1 a<|.aB ob<|.dK vs) (fz Hb a<|.aB ob<|.dK vs) F H j' i' cs'):
  H a=À (.aB ob<|.dK vs)/\Rk K F (λ_=>fz Hb a<|.aB ob<|.dK vs) m vs []:=by
 have l:Hb a=È\/Hb a=À `aD:=by
  cases q:Hb a with
  |none=>show .inl rfl
  |some u=>have:=d.g.h _ _ q;rw[d.g.s _ _ b] at this;show .inr this.symm
 have e:fz F1 a (.aB ob<|.dK vs) a=À (.aB ob<|.dK vs):=by rw[iE,ao6 (by rw[b];intro z;cases z)]
 show#[W.g.s _ _<|W.g.f _ _ e,r.mo (Le.trans (wJ<|.inr b)<|Le.of W.g.f) (λ_=>wJ l) m]
def S2(hz:k.z=Â)(h:bF K k te pe)(hg:oC K k.walk lo tg pg)(Y:c6 K k.walk lo tb pb):c6 K k lo (De X te tg tb) (xJ .it pe pg pb):=λus Fb A F H j G cs D D' W p L=>by
 show h F (Bq A H) H j _ _ _ W.fm p λt v F1 H1 c p1 o=>?_
 let#[C,d,r2]:=W.held o p1.1;have p2:=p1.2;unfold rQ at p2;split at p2
 .rename_i m em;rw[em] at r2;let#[_,a,vs,rfl,U,r,h4]:=r2;have b:=vJ (d.z hz) U;let#[I,i0,step,n]:=p2;have f:=d.rebase;have J:=L.rebase d;show#[a,vs,rfl,d.g.s _ _ b,λob w=>?_];have L2:=Wv hz (X:=X) (ob:=ob) w f b J;show Qa (λi j H=>∃F G cs,bj K k.walk lo us (fz C a<|.aB ob<|.dK vs) (fz A a<|.aB ob<|.dK vs) F H j G cs/\I i G) #[_,G,cs,f.walk b,i0] ?_ ?_ ?_
  .rintro i j H hi ⟨F,G,cs,W,_⟩;show (E1 f b r W).1
  .rintro i y u j H p e ⟨F,G,cs,W,ii⟩ hp;∎;let#[_,rk]:=E1 f b r W;let#[B,N,O]:=rk.dB e;let#[x,Q,r4,_]:=sS (xs:=[lF y,B]) (cs:=[]) W.g.s #[kV y,[u],[],[],rfl,rfl,Jg,u,[],[],[],rfl,rfl,O,rfl,rfl] .nil hp;∎;show hg us _ _ x _ j G cs _ _ _ _ (W.gr Q) r4 (step i (y,B) G N ii) λj' E l M p'=>?_
   show Y us _ _ x _ j' E l _ _ M p' #[λF H j G cs W q=>#[F,G,cs,W,q],L2.rt,L2.nx,λF H j G cs W q=>#[F,G,cs,W,q]]
  .rintro j H ⟨F,G,cs,W,q⟩;show L2.nx F H j G cs W (n G (by rw[<- ↑r];show q))
 .show p2.elim
end
section
abbrev Dl(K:aq):ay->Hp->VK->Prop:=λb H Q=>(λb H Q=>∃x n,b=[x]/\DC K x H n/\Q `aQ H) b H Q\/(λb H Q=>∃a d,b=[V.ref a]/\H a=À `cz/\Q (.int ↑d) H) b H Q
def gq:bQ X (.builtin "len") (Dl X.K):=Ly.or P9
abbrev CK(K:aq):ay->Hp->VK->Prop:=λb H Q=>(λb H Q=>∃p e,b=[.ref p]/\(bE K H p e\/df K H p e)/\∀l,H l=È->Q `cq (aQ H l<|.ag e)) b H Q\/(λb H Q=>∃a d,b=[.ref a]/\Rd H a `cz/\∀p,H p=È->Q `ak (aQ H p<|.ag<|d.map λf=>kV f.1)) b H Q
def ki(a:X.calm=Â):bQ X (.type "list") (CK X.K):=acl.or<|Pc a
abbrev DX(K:aq):R2:=λx y H Q=>tX K É x y H Q\/si É x y H Q
def Kb(a:X.A.units+1<Ĭ:=by assumption):cu X (ú .In) (DX X.K):=Lq.or<|Xg a
abbrev Cm(K:aq):R2:=λx y H Q=>tX K Â x y H Q\/si Â x y H Q
def zf(a:X.A.units+1<Ĭ:=by assumption):cu X `dC (Cm X.K):=Lr.or<|PD a
abbrev DY(K:aq):V->bK->bK->Hp->VK->Prop:=λx l h H Q=>DN K x l h H Q\/DP x l h H Q
def Kc:mW X (DY X.K):=Lw.or W9
end
section
abbrev sk(k:Bool)(a:af)(Q:az):Prop:=match a with
 |[.str x]=>↑x <= 1000000 /\ Q (.int ↑x)
 |[.ag _ xs]=>Q<|.int ↑xs
 |[.aL xs]=>Q<|.int ↑xs
 |[.aP .f m]=>k=Â /\ Q `dE
 |[.aP .o m]=>Q<|.int ↑m
 |_=>False
def gu:mV K k (Dl K) (sk k.z):=λF B H D n C Q e s b z r w p q=>by
 cases n with
 |nil=>show ò p
 |cons t n=>
  cases n with
  |cons _ _=>cases t<;>first |show ò p |(rename_i f _;cases f<;>show ò p)
  |nil=>
   let#[v,rfl,g]:=r.one;cases t with
   |str x=>
    have p:↑x<=1000000/\e (.int ↑x):=p;let#[rfl,_]:=g;show .inl #[_,_,rfl,#[nL p.1,rfl],q _ _ F H [] p.2 `ah #[rfl,rfl] .nil λ_ m=>nomatch m]
   |ag f u=>
    have p:e (.int ↑u):=p;let#[a,vs,y,rfl,i,d,_]:=g.cZ s b w;show .inl #[_,_,rfl,.inl #[vs,i,rfl],q `dl _ F H [] (by rw[<- ↑d] at p;show p) `ah #[rfl,rfl] .nil λ_ m=>nomatch m]
   |aL u=>
    have p:e (.int ↑u):=p;let#[a,vs,rfl,i,d]:=g.eA s;show .inl #[_,_,rfl,.inr #[vs,i,rfl],q `dl _ F H [] (by rw[<- ↑d] at p;show p) `ah #[rfl,rfl] .nil λ_ m=>nomatch m]
   |aP f m=>
    cases f with
    |f=>
     have p:k.z=Â/\e `dE:=p;let#[_,a,vs,rfl,d,j,A]:=g;show .inr #[a,vs,rfl,s _ _<|vJ (z p.1) d,q (.int ↑vs) _ F H [] (by rw[<- ↑j] at p;show p.2) (Gr.aS s) #[rfl,rfl] .nil λ_ m=>nomatch m]
    |o=>
     have p:e `dE:=p;let#[a,vs,y,rfl,d,j,A]:=g;show .inr #[a,vs,rfl,w.h (a,.dK vs) (by rw[d];show .head _),q `dl _ F H [] (by rw[<- ↑j] at p;show p) `ah #[rfl,rfl] .nil λ_ m=>nomatch m]
    |l _=>show ò p
   |_=>show ò p
def Rk.n0:∀{m:bz}{vs:bL}{a:Cs},Rk K F B m vs a->Rs K F B (m.map λp=>lF p.1) (vs.map λf=>kV f.1) []
 |[],_,_,y=>by let#[h,_]:=y;rw[h];show#[rfl,rfl]
 |(y,x)::m,_,_,y0=>by let#[v,r,c,d,b,g,i,e]:=y0;rw[b];show#[kV y,_,[],[],rfl,rfl,Jg,Rk.n0 e]
def vC{xs:af}{vs:ay}{cs cx:Cs}{p:ai}{Q:VK}{d:az}(s:aE F H)(r:Rs K F B xs vs cs)(c:au F H cs)(sub:∀p∈cs,p∈cx)(hp:H p=È)(h:d `aE)(q:∀t v a b cs,d t->Gr F H a b->R K a B t v cs->au a b cs->(∀p∈cs,H p.1=È\/p∈cx)->Q v b):Q `ak (aQ H p<|.ag vs):=by
 let#[e,f,g]:=mh s r c hp;show q _ _ F _ _ h e f g λp m=>?_
 cases m with
 |head=>show .inl hp
 |tail _ m=>show .inr<|sub p m
abbrev rR(a:af)(Q:az):Prop:=match a with
 |[.ag _ xs]=>Q<|.ag .o xs
 |[.aL xs]=>Q<|.ag .o xs
 |[.aP _ m]=>Q<|.ag .o<|m.map λp=>lF p.1
 |_=>False
def jZ:mV K k (CK K) rR:=λF B H A j y Q x s b z r h p q=>by
 cases j with
 |nil=>show ò p
 |cons t j=>
  cases j with
  |cons _ _=>cases t<;>show ò p
  |nil=>
   let#[v,rfl,i]:=r.one;cases t with
   |ag f w=>
    let#[a,vs,u,rfl,d,e,n,o]:=i.cZ s b h;show .inl #[_,_,rfl,.inl d,λl g=>vC s e n o g p q]
   |aL w=>
    let#[a,vs,rfl,d,e]:=i.eA s;show .inl #[_,_,rfl,.inr d,λl g=>vC s e h (λ_ m=>m) g p q]
   |aP f m=>
    let#[a,vs,u,rfl,d,e,n,o]:=i.h9 s b h;show .inr #[_,_,rfl,d,λl g=>vC s e.n0 .nil (λ_ m=>nomatch m) g p q]
   |_=>show ò p
abbrev Dm(a:af)(Q:az):Prop:=match a with
 |[.aP _ m]=>Q<|.aP .o m
 |_=>False
def R.yF(r:R K F B `bn v cs):(xs.map (·.1)).Nodup:=by
 cases f with
 |f=>let#[_,_,_,_,_,_,h]:=r;show h
 |l q=>let#[_,_,_,_,_,_,h]:=r;show h
 |o=>let#[_,_,_,_,_,_,h]:=r;show h
def S3:mV K k (λxs H Q=>∃a kvs,xs=[.ref a]/\Rd H a `am/\∀p,H p=È->Q `ak (aQ H p<|.dK kvs)) Dm:=λF B H xs u o Q n s b z r j p q=>by
 unfold Dm at p;split at p
 .obtain⟨v,rfl,r1⟩:=r.one;let#[a,vs,e,rfl,f,g,h,i]:=r1.h9 s b j;show#[_,_,rfl,f,λl d=>q _ _ F _ ((l,.dK vs)::e) p (Gr.il s d) #[l,vs,e,rfl,rfl,g,r1.yF] (sT s h d) λp m=>?_];cases m with
  |head=>show .inl d
  |tail _ m=>show .inr<|i p m
 .show p.elim
abbrev oB:Tr->Bool
 |.int _=>Â |.bl _=>Â |.str _=>Â |.aT=>Â |_=>É
abbrev qr:Tr->V
 |.int n=>.int n |.bl b=>.bl b |.str x=>.str x |_=>.aT
def z3(r:R K F B t v cs)(h:oB t=Â):v=qr t/\jg v=Â:=by
 cases t with
 |int n=>rw[r.1];show#[rfl,rfl]
 |bl n=>rw[r.1];show#[rfl,rfl]
 |str n=>rw[r.1];show#[rfl,rfl]
 |aT=>rw[r.1];show#[rfl,rfl]
 |_=>cases h
def zg:∀{a:af}{vs:ay}{cs:Cs},Rs K F B a vs cs->a.all oB=Â->vs=a.map qr/\vs.all jg=Â
 |[],_,_,⟨h,_⟩,_=>by rw[h];show#[rfl,rfl]
 |x::xs,_,_,⟨v,r,c,d,h1,h2,h3,h4⟩,h=>by
  rw[Zq,í] at h;let#[b,f]:=z3 h3 h.1;let#[e,g]:=zg h4 h.2;rw[h1,e,b];show#[rfl,by rw[Zq,<- e,g,<- b,f];rfl]
abbrev ra(x:Tr)(xs:af):Bool:=wL (qr x)<|xs.map qr
abbrev ub(neg:Bool)(x y:Tr)(Q:az):Prop:=match y with
 |.ag _ a=>oB x=Â /\ a.all oB=Â /\ Q (.bl (if neg=Â then !ra x a else ra x a))
 |.aL a=>oB x=Â /\ a.all oB=Â /\ Q (.bl (if neg=Â then !ra x a else ra x a))
 |.aP _ m=>kG x λy=>Q (.bl (if neg=Â then !(look m y).isSome else (look m y).isSome))
 |_=>False
def GF:eE K k (λx y H Q=>tX K neg x y H Q\/si neg x y H Q) (ub neg):=λF B H x y E ty A C Q w s b z j l D n hd p q=>by
 unfold ub at p;split at p
 .obtain⟨h1,h2,p⟩:=p;∎;let#[a,vs,o,rfl,d,g,_]:=l.cZ s b n;let#[e,f]:=z3 j h1;let#[h,i]:=zg g h2;∎;show .inl #[a,vs,rfl,.inl d,f,i,q _ _ F H [] p `ah #[?_,rfl] .nil λ_ m=>nomatch m];rw[e,h];cases neg<;>rfl
 .obtain⟨h1,h2,p⟩:=p;∎;let#[a,vs,rfl,d,g]:=l.eA s;let#[e,f]:=z3 j h1;let#[h,i]:=zg g h2;∎;show .inl #[a,vs,rfl,.inr d,f,i,q _ _ F H [] p `ah #[?_,rfl] .nil λ_ m=>nomatch m];rw[e,h];cases neg<;>rfl
 .obtain⟨a,vs,o,rfl,d,g,g3,_⟩:=l.h9 s b n;unfold kG at p;split at p
  .rename_i yk ey;obtain rfl:=wk j ey;rcases g.look yk g3 with⟨r,v⟩ |⟨x,u,c,e,f,_⟩
   .show .inr ⟨a,È,rfl,.inl ⟨vs,yk,d,rfl,v.symm⟩,q _ _ F H [] p (Gr.aS s) ⟨?_,rfl⟩ .nil λ_ m=>nomatch m⟩;rw[r];cases neg<;>rfl
   .show .inr #[a,À u,rfl,.inl #[vs,yk,d,rfl,f.symm],q _ _ F H [] p `ah #[?_,rfl] .nil λ_ m=>nomatch m];rw[e];cases neg<;>rfl
  .show p.elim
 .show p.elim
def Yh:eE K k (DX K) (ub É):=GF
def yM:eE K k (Cm K) (ub Â):=GF
abbrev iC(K:aq)(f:Str)(x:Tr)(Q:az):Prop:=match x with
 |.ins _ c fs=>(g6 K c /\ bo K c f) /\ (match fs.lookup f with |some t=>Q t |none=>False)
 |_=>False
def Rf.look:∀{fs:bx}{vs:List (Str×V)}{a:Cs}{f:Str}{x:Tr},Rf K F B fs vs a->au F H a->fs.lookup f=À x->∃u c,vs.lookup f=À u/\R K F B x u c/\au F H c/\∀p∈c,p∈a:=λ{fs vs a f x} h d e=>by
 let#[w,c,pre,g,i,j,b,_]:=h.at e;rw[b] at d;show#[w,c,i,j,d.left.right,λp m=>by rw[b];show Æ.mpr<|.inl<|Æ.mpr<|.inr m]
def Ww(h:bF K k te pe):bF K k (xv K te f) (p1 (iC K f) pe):=λF B H j i Q L c p q=>by
 show h F B H j i _ _ c p λx v l o M p1 e=>?_
 unfold iC at p1;split at p1
 .obtain⟨ok,p1⟩:=p1;split at p1
  .rename_i t et;∎;let#[a,D,vs,N,rfl,E,G,I,J]:=e.r.pD e.g.s (λk=>(c.b k).trans e.g.h) e.c;let#[u,d,w,y,A,C]:=G.look I et;∎;show#[a,_,D,vs,u,rfl,E,ok.1,ok.2,w,q _ _ l o d p1 #[e.g,y,A,λp m=>e.n p<|J p<|C p m]]
  .show p1.elim
 .show p1.elim
abbrev va(x y z:Tr)(Q:az):Prop:=match x with
 |.aP _ m=>kG y λy=>Q<|(look m y).getD z
 |_=>False
abbrev p3(d:Tr->Tr->Tr->(az)->Prop)(a pb b:bh):bh:=λj Q=>a j λx=>(match x with |.aP _ _=>True |_=>False)/\pb j λy=>b j λz=>d x y z Q
def S4(ha:bF K k ta pa)(hb:bF K k tb pb)(hc:bF K k tc pc):bF K k (CF ta tb tc) (p3 va pa pb pc):=λF B H j i Q Q' c p q=>by
 show ha F B H j i _ _ c p λx v J M c1 p1 l=>?_
 let#[hx,p1]:=p1;cases x with
 |aP f m=>
  have bB:∀{G},aE H G->∀k,aE (B k) G:=λs k=>(c.b k).trans s
  let#[a,vs,ds,rfl,I,h2,h3,h4]:=l.r.h9 l.g.s (bB l.g.h) l.c;show#[a,rfl,.inl #[vs,I],hb J B M j i _ _ (c.gr l.g) p1 λy u L N c2 p2 A=>?_];show hc L B N j i _ _ ((c.gr l.g).gr A.g) p2 λz w E D c3 p3 C=>?_
  have e:=A.g.trans' C.g;unfold va kG at p3;dsimp only at p3;split at p3
  .rename_i yk ey;obtain rfl:=wk A.r ey;have o:Rd D a `aD:=(e.h).rd I;rcases (h2.mo e.le (λk=>Le.refl _) m).look yk (h3.gr e) with⟨z1,z2⟩ |⟨x,u,d,O,U,Y,a4,a5⟩
   .rw[z1] at p3;show#[È,.inl #[vs,yk,o,rfl,z2.symm],q _ _ E D c3 p3 #[l.g.trans' e,C.r,C.c,C.n.back<|l.g.h.trans A.g.h]]
   .rw[O] at p3;show#[À u,.inl #[vs,yk,o,rfl,U.symm],q _ _ E D d p3 #[l.g.trans' e,Y,a4,λp m=>l.n p<|h4 p<|a5 p m]]
  .show p3.elim
 |_=>show hx.elim
nonrec abbrev pZ:=af->(bK->Prop)->Prop
abbrev sq(K:aq)(k:Md)(f:TO)(pe:pZ):Prop:=∀(F:Hp)(B:Bool->Hp)(H:Hp)(j:St)(i:af)(Q:bK->Hp->Prop)(d:bK->Prop),iq K k F B H j i->pe i d->(∀b e a,d b->Gr F H e a->Q b a)->f j H Q
abbrev A5:pZ:=λ_ Q=>Q È
abbrev A6(pe:bh):pZ:=λj Q=>pe j λx=>match x with |.int i=>Q (À i) |_=>False
def Yi:sq K k Ct A5:=λF B H j i Q a c p q=>q È F H p<|Gr.aS c.s
def Yj(h:bF K k te pe):sq K k (C9 te) (A6 pe):=λF B H j i Q e c p q=>by
 show h F B H j i _ _ c p λx v b d f p1 a=>?_
 split at p1
 .obtain⟨rfl,_⟩:=a.r;show#[_,rfl,q _ b d p1 a.g]
 .show p1.elim
abbrev adc{j:Type}(xs:List j)(l h:bK):List j:=(xs.drop<|HT.dM ↑xs 0 l).take<|HT.dM ↑xs ↑xs h - HT.dM ↑xs 0 l
def Rs.drop:∀(n:Nat){xs:af}{vs:ay}{a:Cs},Rs K F B xs vs a->au F H a->∃d,Rs K F B (xs.drop n) (vs.drop n) d/\au F H d/\∀p∈d,p∈a
 |0,_,_,a,h,hc=>#[a,h,hc,λ_ m=>m]
 |n + 1,[],_,a,y,_=>by let#[b,e]:=y;show#[[],by rw[b];show#[rfl,rfl],.nil,λ_ m=>nomatch m]
 |n + 1,x::xs,_,_,y,hc=>by
  let#[v,r,c,d,b,e,o,l]:=y;rw[e] at hc;let#[j,f,g,i]:=Rs.drop n l hc.right;show#[j,by rw[b];show f,g,λp m=>by rw[e];show Æ.mpr<|.inr<|i p m]
def Rs.take:∀(n:Nat){xs:af}{vs:ay}{a:Cs},Rs K F B xs vs a->au F H a->∃d,Rs K F B (xs.take n) (vs.take n) d/\au F H d/\∀p∈d,p∈a
 |0,_,_,a,h,hc=>#[[],#[rfl,rfl],.nil,λ_ m=>nomatch m]
 |n + 1,[],_,a,y,_=>by let#[b,e]:=y;show#[[],by rw[b];show#[rfl,rfl],.nil,λ_ m=>nomatch m]
 |n + 1,x::xs,_,_,y,hc=>by
  let#[v,r,c,d,b,e,l,o]:=y;rw[e] at hc;let#[g,i,j,f]:=Rs.take n o hc.right;show#[c++g,by rw[b];show#[v,_,c,g,rfl,rfl,l,i],hc.left.app j λp u q w=>?_,λp m=>by rw[e];show (Æ.mp m).elim (λm=>Æ.mpr<|.inl m) λm=>Æ.mpr<|.inr<|f p m];have:=hc.nd;rw[Û,Ĵ] at this;show this.2.2 _ (ß.mpr #[p,u,rfl]) _<|ß.mpr #[q,f q w,rfl]
abbrev wZ(x:Tr)(l h:bK)(Q:az):Prop:=match x with
 |.ag _ a=>Q<|.ag .o<|adc a l h
 |.str x=>↑x <= 1000000 /\ Q (.str<|Txt.slice x l h)
 |_=>False
abbrev AU(pe:bh)(pl a:pZ):bh:=λj Q=>pe j λx=>pl j λl=>a j λh=>wZ x l h Q
def Yk(h:bF K k te pe)(hl:sq K k tl pl)(Y:sq K k th ph):bF K k (Jl (DY K) te tl th) (AU pe pl ph):=λF B H j i Q Q' c p q=>by
 show h F B H j i _ _ c p λx v A D c1 p1 e=>?_
 show hl A B D j i _ _ (c.gr e.g) p1 λl C E p2 y=>?_
 show Y C B E j i _ _ ((c.gr e.g).gr y) p2 λh w G p3 U=>?_
 have d:=y.trans' U;have o:=(c.gr e.g).gr d;have r3:=e.r.mo d.le (λk=>Le.refl<|B k) x;have u:=e.c.gr d;unfold wZ at p3;split at p3
 .obtain⟨a,vs,ds,rfl,h1,h2,h3,h4⟩:=r3.cZ o.s o.b u;show .inl #[a,vs,rfl,h1,λl' f=>?_];∎;let#[d1,I,J,L]:=h2.drop (HT.dM ↑vs 0 l) h3;let#[d2,M,N,O]:=I.take (HT.dM ↑vs ↑vs h - HT.dM ↑vs 0 l) J;let#[n1,n2,n3]:=mh o.s M N f;∎;show q _ _ w _ _ p3 #[(e.g.trans' d).trans' n1,?_,n3,λp m=>?_]
  .unfold adc;rw[<- ↑h2];show n2
  .cases m with
   |head=>show (e.g.h.trans d.h).free f
   |tail _ m=>show e.n p<|h4 p<|L p<|O p m
 .obtain⟨rfl,_⟩:=r3;show .inr #[_,rfl,nL p3.1,q _ _ w G [] p3.2 #[e.g.trans' d,#[rfl,rfl],.nil,.nil]]
 .show p3.elim
end
section
abbrev oz(ix:bJ)(j:af):af:=ix.map λo=>match o with |none=>.ar |some i=>(j[i]?).getD .ar
def dX.pick(e:dX K F B G J):dX K F B (fw ix G) (oz ix J):=λj t h=>by
 unfold oz at h;rw[Ê] at h;cases q:ix[j]? with
 |none=>rw[q] at h;cases h
 |some o=>
  rw[q] at h;cases o with
  |none=>cases h;show .inl rfl
  |some i=>
   cases z:J[i]? with
   |none=>
    have h:À ((J[i]?).getD .ar)=À t:=h;rw[z] at h;cases h;show .inl rfl
   |some u=>
    have h:À ((J[i]?).getD .ar)=À t:=h;rw[z] at h;cases h;show (e i u z).imp id λa=>?_
    let#[v,b,d]:=a;show#[v,?_,d];unfold fw;rw[Ê,q];change À ((G[i]?).getD È)=_;rw[b];rfl
def wB:∀{a b:St},a.length=↑b->(∀(i:Nat)(v:V),a[i]?=À (À v)->b[i]?=À (À v))->Wk a b
 |[],[],_,_=>.nil
 |[],_::_,h,_=>by cases h
 |_::_,[],h,_=>by cases h
 |none::a,y::b,h,g=>.aT<|wB (Ϭ h) λi v e=>g (i + 1) v e
 |some x::a,y::b,h,g=>by
  have e:=g 0 x rfl;cases e;show .wW<|wB (Ϭ h) λi v e=>g (i+1) v e
abbrev sr(K:aq)(e:List Nat)(f:TG)(pg:eV):Prop:=∀(F:Hp)(B:Bool->Hp)(H:Hp)(j:St)(G:af)(x:V)(t:Tr)(Q:St->Hp->Prop)(d:aA),aE F H->dX K F B j G->↑j=↑G->R K F B t x []->pg t G d->(∀a b,dX K F B a b->↑a=↑b->↑a=↑j->(∀i,i ∉ e->a[i]?=j[i]?)->d b->Q a H)->f x j H Q
def dX.set(e:dX K F B G J)(d:↑G=↑J)(r:R K F B t x []):dX K F B (G.set i<|À x) `cD:=λj u h=>by
 by_cases a:j=i
 .subst a;have b:j<↑J:=by have:=AH h;rw[ď] at this;show this
  rw[Ĉ b] at h;cases h;show .inr #[x,Ĉ (by rw[d];show b),r]
 .rw[ć<|λz=>a z.symm] at h;show (e j u h).imp id λ⟨v,h1,h2⟩=>#[v,by rw[ć<|λz=>a z.symm];show h1,h2]
def Yl:sr K [i] (j5 i) (tV i):=λF B H G J x t Q d s e a r p q=>q _ _ (e.set a r) (by rw[ď,ď];show a) (by rw[ď]) (λj b=>ć λz=>b (by rw[z];show ä.mpr rfl)) p
abbrev rS(K:aq)(g:List Nat)(h:om)(pg:af->af->(aA)->Prop):Prop:=∀(F:Hp)(B:Bool->Hp)(H:Hp)(j:St)(G:af)(f:ay)(e:af)(Q:St->Hp->Prop)(d:aA),aE F H->dX K F B j G->↑j=↑G->Rs K F B e f []->pg e G d->(∀a b,dX K F B a b->↑a=↑b->↑a=↑j->(∀i,i ∉ g->a[i]?=j[i]?)->d b->Q a H)->h f j H Q
def S5:rS K [] yp ou:=λF B H j i f d Q b s e a r p q=>by
 unfold ou at p;split at p
 .show#[r.1,q j i e a rfl (λ_ _=>rfl) p]
 .show p.elim
def PQ(h:sr K js tg pg)(h':rS K ks tr pr):rS K (js++ks) (xE tg tr) `cN:=λF B H j G I E Q g s e n r p q=>by
 unfold ow at p;split at p
 .obtain⟨v,w,c,d,h1,h2,h3,h4⟩:=r;have z:=ģ.mp h2.symm;rw[z.1] at h3;rw[z.2] at h4;show#[v,w,h1,h F B H j G v _ _ _ s e n h3 p λo b l l1 l2 A D=>h' F B H o b w _ Q g s l l1 h4 D λu f m x y C p2=>q u f m x (y.trans l2) (λi a=>?_) p2];rw[C i λz=>a<|Æ.mpr<|.inr z,A i λz=>a<|Æ.mpr<|.inl z]
 .show p.elim
def Ym(h:rS K js tr pr):sr K js (yq K n tr) `di:=λF B H j i x t Q b s e d r p q=>by
 unfold n5 at p;split at p
 .obtain⟨a,vs,rfl,h1,h2⟩:=r.eA s;show#[a,vs,rfl,h1,h2.length.trans p.1,h F B H j i vs _ Q b s e d h2 p.2 q]
 .show p.elim
abbrev su:eB:=λ_ Q=>Q Â
def Wx:gz K k DO su:=λF B H j i Q a c p q=>q Â F H p<|Gr.aS c.s
abbrev vb(f:jf)(pg:eV)(pt:eB)(pe:bh)(ix:bJ):bh:=λj Q=>f j λe _=>∃I:Nat->aA,I 0 []/\
 (∀i t a,e[i]?=À t->I i a->pg t (oz ix j) λd=>pt d λb=>if b=Â then pe d λx=>↑a<1000000/\I (i+1) (a++[x]) else I (i+1) a)/\∀a,I ↑e a->↑a<=1000000/\Q `en
def FT{wi:TI}{pi:jf}{js:List Nat}{tg:TG}{pg:eV}{ti:TT}{pt:eB}{te:TE}{pe:bh}{ix:bJ}(hi:lI K k wi pi)(hg:sr K js tg pg)(ht:gz K k.gJ ti pt)(he:bF K k.gJ te pe)(hj:∀j∈js,ix[j]?=À È):bF K k (rV wi tg ti te ix) `dF:=λF B H G O Q Q' c p q=>by
 show hi F B H G O _ _ c p λts nl J F1 H1 p1 E δ _=>?_
 ∎;let#[I,i0,step,α]:=p1;let#[Kp,Y,C,kp,yl]:=δ;∎;have c1:=c.gr E;show Jd (n:=↑ts) (λi w f=>∃o us d,Gr F1 H1 o f/\Rs K o B us w d/\au o f d/\dy H1 d/\I i us) #[F1,[],[],Gr.aS E.s,#[rfl,rfl],.nil,.nil,i0] ?_ ?_ ?_ ?_
 .rintro i w f hlt ⟨o,us,d,g2,_⟩;show C.go i f hlt<|kp o f g2.le g2.s (c1.gr g2).b
 .rintro w f ⟨o,us,d,g2,_⟩;show C.st f<|kp o f g2.le g2.s (c1.gr g2).b
 .rintro i x w f H3 hlt ⟨o,us,d,g2,r2,hc2,n2,ii⟩ y;have c2:=c1.gr g2;∎;let#[t,et]:=qX hlt;let#[U,g3,r3]:=yl i t o f x H3 et g2.le g2.s c2.b<|C.yl i f x H3 hlt (kp o f g2.le g2.s c2.b) y;∎;have D:=c2.gr g3;have β:(fw ix G).length=(oz ix O).length:=by unfold fw oz;rw[Å,Å]
  show hg U B H3 _ _ x t _ _ D.s D.e.pick β r3 (step i t us et ii) λG2 O2 e2 l2 γ n3 p2=>#[wB γ.symm λj v M=>?_,?_]
  .by_cases hjs:j∈js
   .have z:=hj j hjs;unfold fw at M;rw[Ê,z] at M;cases M
   .rw[n3 j hjs];show M
  .have c3':iq K k.gJ U B H3 G2 O2:=#[D.s,D.b,D.z,e2,λ_ _ _ h=>h.elim]
   show ht U B H3 G2 O2 _ _ c3' p2 λb F4 H4 N g4=>?_
   have l:=g3.trans' g4;cases b with
   |false=>
    rw[ao6 ∎] at N ⊢;show#[F4,us,d,g2.trans' l,r2.mo l.le (λk=>Le.refl<|B k) us,hc2.gr l,n2,N]
   |true=>
    rw[ao7 rfl] at N ⊢;show he F4 B H4 G2 O2 _ _ (c3'.gr g4) N λu v F5 H5 c5 p5 L=>?_
    have A:=l.trans' L.g;show#[Ö (by rw[r2.length];show p5.1) ∎,F5,us++[u],d++c5,g2.trans' A,(r2.mo A.le (λk=>Le.refl<|B k) us).snoc L.r,(hc2.gr A).app L.c λp mp q mq e=>?_,λp m=>?_,p5.2]
    .have:=(hc2.gr l).h p mp;rw[e,L.n q mq] at this;cases this
    .rcases Æ.mp m with m |m
     .show n2 p m
     .show (g2.h.trans l.h).free (L.n p m)
 .rintro w f ⟨o,us,d,g2,r2,hc2,n2,ii⟩;let#[hl,hq]:=α us ii;show#[by rw[r2.length];show nL hl,λa ha=>?_];let#[m1,m2,m3]:=mh g2.s r2 hc2 ha;show q _ _ o _ _ hq #[(E.trans' g2).trans' m1,m2,m3,λp m=>?_];cases m with
  |head=>show (E.h.trans g2.h).free ha
  |tail _ m=>show E.h.free<|n2 p m
end
mutual
noncomputable def dh:Tr->Tr->Option Bool
 |.aL xs,.aL ys=>if ↑xs=↑ys then cg xs ys else È
 |.ag _ xs,.ag _ ys=>if ↑xs=↑ys then cg xs ys else À É
 |.int a,.int b=>À<|decide<|a=b
 |.str a,.str b=>À<|decide<|a=b
 |.bl a,.bl b=>À<|decide<|a=b
 |.aT,.aT=>À Â
 |_,_=>È
noncomputable def cg:List Tr->List Tr->Option Bool
 |[],[]=>À Â
 |x::xs,y::ys=>(dh x y).bind λa=>(cg xs ys).bind λb=>À<|a&&b
 |_,_=>È
end
mutual
noncomputable def dep:Tr->Nat
 |.aL a=>d8 a + 1
 |.ag _ a=>d8 a + 1
 |_=>0
noncomputable def d8:List Tr->Nat
 |[]=>0
 |x::xs=>max (dep x)<|d8 xs
end
section
variable{t':Tr}{b:Bool}
def mO{P:Prop}(e:È=À b):P:=nomatch e
def vN{xs:af}(e:dh `av t'=À b):∃ys,t'=.aL ys/\↑xs=↑ys/\cg xs ys=À b:=by
 cases t' with
 |aL ys=>
  have e:(if ↑xs=↑ys then cg xs ys else È)=À b:=e;by_cases h:↑xs=↑ys
  .rw[ao7 h] at e;show#[ys,rfl,h,e]
  .rw[ao6 h] at e;cases e
 |_=>show mO e
def vO{f:Fl}{xs:af}(e:dh `ar t'=À b):∃g ys,t'=.ag g ys/\(if ↑xs=↑ys then cg xs ys else À É)=À b:=by
 cases t' with
 |ag g ys=>show#[g,ys,rfl,e]
 |_=>show mO e
def zh{a:Int}(e:dh (.int a) t'=À b):∃d,t'=.int d/\b=decide (a=d):=by
 cases t' with
 |int d=>show#[d,rfl,(Ù e).symm]
 |_=>show mO e
def zi{a:Str}(e:dh (.str a) t'=À b):∃d,t'=.str d/\b=decide (a=d):=by
 cases t' with
 |str d=>show#[d,rfl,(Ù e).symm]
 |_=>show mO e
def z4{a:Bool}(e:dh (.bl a) t'=À b):∃d,t'=.bl d/\b=decide (a=d):=by
 cases t' with
 |bl d=>show#[d,rfl,(Ù e).symm]
 |_=>show mO e
def zj(e:dh .aT t'=À b):t'=.aT/\b=Â:=by
 cases t' with
 |aT=>show#[rfl,(Ù e).symm]
 |_=>show mO e
abbrev pJ:az
 |.aL _ |.ag _ _ |.int _ |.str _ |.bl _ |.aT=>False
 |_=>True
def zk{t:Tr}(e:dh t t'=À b)(h:pJ t):False:=by
 have:dh t t'=È:=by
  cases t with
  |ar |ty |cl |exc |aP |ins=>cases t'<;>rfl
  |_=>show h.elim
 rw[this] at e;show mO e
end
section
mutual
theorem z5(I:ax X aa j H s)(i:aE F H)(sb:∀k,aE (B k) H):∀(t:Tr)(t':Tr)(v:V)(c d:Cs)(b:Bool),dh t t'=À b->R X.K F B t v c->R X.K F B t' v d->au F H c->au F H d->b=Â
 |.aL A=>λt' v c d b e r g x h=>by
  ∎;let#[C,rfl,_,m]:=vN e;let#[a,vs,rfl,w,o]:=r.eA i;let#[l,y,q,u,n]:=g.eA i;∎;cases q;have z:=VA I w u;subst z;show gF I i sb A C vs c d b m o n x h
 |.ag f A=>λt' v c d b e r g x h=>by
  ∎;let#[J,C,rfl,m]:=vO e;let#[a,vs,D,rfl,w,o,G,_]:=r.cZ i sb x;let#[l,y,p,q,u,n,E,_]:=g.cZ i sb h;∎;cases q;have z:=VB I w u;subst z;rw[ao7<|o.length.symm.trans ↑n] at m;show gF I i sb A C vs D p b m o n G E
 |.int a=>λt' v c d b e r g _ _=>by
  let#[l,rfl,rfl]:=zh e;have:=r.1.symm.trans g.1;cases this;show ao9 rfl
 |.str a=>λt' v c d b e r g _ _=>by
  let#[l,rfl,rfl]:=zi e;have:=r.1.symm.trans g.1;cases this;show ao9 rfl
 |.bl a=>λt' v c d b e r g _ _=>by
  let#[l,rfl,rfl]:=z4 e;have:=r.1.symm.trans g.1;cases this;show ao9 rfl
 |.aT=>λt' v c d b e r g _ _=>by
  show (zj e).2
 |.ar |.ty _ |.cl _ |.exc _ _ |.aP _ _ |.ins _ _ _=>λt' v c d b e _ _ _ _=>(zk e ý).elim
theorem gF(I:ax X aa j H s)(m:aE F H)(sb:∀k,aE (B k) H):∀(n:List Tr)(d:List Tr)(vs:List V)(c g:Cs)(b:Bool),cg n d=À b->Rs X.K F B n vs c->Rs X.K F B d vs g->au F H c->au F H g->b=Â
 |[]=>λd vs c g b e _ _ _ _=>by
  cases d with
  |nil=>cases e;rfl
  |cons _ _=>cases e
 |x::xs=>λd vs c g b e r l h f=>by
  cases d with
  |nil=>cases e
  |cons y o=>
   ∎;let#[v,r,q,w,G,J,L,M]:=r;let#[N,l,u,A,i,C,D,E]:=l;∎;rw[G] at i;cases i;rw[J] at h;rw[C] at f;unfold cg at e;cases e1:dh x y with
   |none=>rw[e1] at e;cases e
   |some a=>
    cases e2:cg xs o with
    |none=>rw[e1,e2] at e;cases e
    |some p=>
     rw[e1,e2] at e;cases e;rw[z5 I m sb x y v q u a e1 L D h.left f.left,gF I m sb xs o r w A p e2 M E h.right f.right];rfl
end
abbrev jS(b a:af)(j:Nat):Bool:=match b[j]?,a[j]? with |some x,À y=>(dh x y).getD É |_,_=>É
def sJ:∀{f d:af}{b:Bool},cg f d=À b->(Ç ↑f).all (jS f d)=b/\∀(j:Nat)(x y:Tr),f[j]?=À x->d[j]?=À y->dh x y=À (jS f d j)
 |[],[],b,e=>by cases e;show#[rfl,λj x y h=>by cases h]
 |[],_::_,b,e=>by cases e
 |_::_,[],b,e=>by cases e
 |x::xs,y::ys,b,e=>by
  unfold cg at e;cases e1:dh x y with
  |none=>rw[e1] at e;cases e
  |some a=>
   cases e2:cg xs ys with
   |none=>rw[e1,e2] at e;cases e
   |some o=>
    rw[e1,e2] at e;cases e;let#[l,m]:=sJ e2;show#[?_,λj u w g i=>?_]
    .rw[Ú,List.range_succ_eq_map,Zq,List.all_map];have n:jS (x::xs) (y::ys) 0=a:=by change (dh x y).getD É=a;rw[e1];rfl
     rw[n,<- l];rfl
    .cases j with
     |zero=>cases g;cases i;change dh x y=À ((dh x y).getD É);rw[e1];rfl
     |succ j=>show m j u w g i
mutual
theorem Yn(I:ax X aa i H s)(E:aE F H)(sb:∀k,aE (B k) H):∀(t:Tr)(t':Tr)(Au:ĉ)(v m:V)(c n:Cs)(b:Bool)(u w:Ϛ),dh t t'=À b->R X.K F B t v c->R X.K F B t' m n->au F H c->au F H n->aG v u->aG m w->Au.units+dep t<Ĭ->Ņ Au s u w b
 |.aL C=>λt' Au v m c n b u w e r l N o g d hu=>by
  have fn:=λ(z:v=m)=>z5 I E sb (.aL C) t' m c n b e (z ▸ r) l N o
  ∎;let#[J,rfl,Y,M]:=vN e;let#[a,vs,rfl,U,D]:=r.eA E;let#[h,G,rfl,Q,L]:=l.eA E;∎;obtain rfl:u=å a:=g;obtain rfl:w=å h:=d;by_cases z:a=h
  .rw[fn (by rw[z]),z];show Χ _
  .unfold dep at hu;let#[al,ix]:=sJ M;have O:=Gu (Au:=Au) I U Q ⋯ (by rw[D.length,L.length];show Y) `ec (λj x y p q ex ey rx ry=>ee I E sb C J `ec Au.in1 vs G c n j x y p q ix D L N o ex ey rx ry (by rw[qF];omega));rw[D.length,al] at O;show Ϯ z O
 |.ag f C=>λt' Au v m c n b u w e r l N o g d hu=>by
  have fn:=λ(z:v=m)=>z5 I E sb (.ag f C) t' m c n b e (z ▸ r) l N o
  ∎;let#[f',J,rfl,M]:=vO e;let#[a,vs,ds,rfl,U,D,h3,_]:=r.cZ E sb N;let#[h,G,α,rfl,Q,L,g3,_]:=l.cZ E sb o;∎;obtain rfl:u=å a:=g;obtain rfl:w=å h:=d;unfold dep at hu;by_cases z:a=h
  .rw[fn (by rw[z]),z];show Χ _
  .split at M
   .rename_i Y;let#[al,ix]:=sJ M;have O:=Gv (Au:=Au) I U Q ⋯ (by rw[D.length,L.length];show Y) `ec (λj x y p q ex ey rx ry=>ee I E sb C J `ec Au.in1 vs G ds α j x y p q ix D L h3 g3 ex ey rx ry (by rw[qF];omega));rw[D.length,al] at O;show Ϯ z O
   .rename_i Y;cases M;∎;let#[us,r1,t1,_]:=I.list U;let#[zs,r2,t2,_]:=I.list Q;∎;have m1:=↑r1;have m2:=↑r2;have l1:=↑D;have l2:=↑L;show Ϯ z (SeqAt.RcAt.lists_lengths t1.isList t2.isList (by simp;omega) ⋯)
 |.int a=>λt' Au v m c n b u w e r l _ _ g d _=>by
  let#[h,rfl,rfl]:=zh e;rw[r.1] at g;rw[l.1] at d;show RL g d
 |.str a=>λt' Au v m c n b u w e r l _ _ g d _=>by
  let#[h,rfl,rfl]:=zi e;rw[r.1] at g;rw[l.1] at d;have z:=oN (A:=Au) (s:=s) g d rfl rfl;have e:i5 (.str a) (.str h)=decide (a=h):=by change (a == h)=_;rw[ZN]
  rw[e] at z;show z
 |.bl a=>λt' Au v m c n b u w e r l _ _ g d _=>by
  let#[h,rfl,rfl]:=z4 e;rw[r.1] at g;rw[l.1] at d;have z:=oN (A:=Au) (s:=s) g d rfl rfl;have e:i5 (.bl a) (.bl h)=decide (a=h):=by change (a == h)=_;rw[ZN]
  rw[e] at z;show z
 |.aT=>λt' Au v m c n b u w e r l _ _ g d _=>by
  let#[rfl,rfl]:=zj e;rw[r.1] at g;rw[l.1] at d;show oN (A:=Au) (s:=s) g d rfl rfl
 |.ar |.ty _ |.cl _ |.exc _ _ |.aP _ _ |.ins _ _ _=>λt' Au v m c n b u w e _ _ _ _ _ _ _=>(zk e ý).elim
theorem ee(I:ax X aa G H s)(C:aE F H)(sb:∀k,aE (B k) H):∀(n:List Tr)(d:List Tr)(e:Nat->Bool)(Au:ĉ)(vs f:List V)(c o:Cs)(j:Nat)(x y:V)(u h:Ϛ),(∀(j:Nat)(x y:Tr),n[j]?=À x->d[j]?=À y->dh x y=À (e j))->Rs X.K F B n vs c->Rs X.K F B d f o->au F H c->au F H o->vs[j]?=À x->f[j]?=À y->aG x u->aG y h->Au.units+d8 n<Ĭ->Ņ Au s u h (e j)
 |[]=>λd e Au vs f c o j x y u h _ r _ _ _ ex _ _ _ _=>by rw[r.1] at ex;cases ex
 |t::n=>λd e Au vs f c o j x y u h w r p q g ex l A m hu=>by
  cases d with
  |nil=>rw[p.1] at l;cases l
  |cons D d=>
   ∎;let#[v,r,E,L,Y,h2,h3,h4]:=r;let#[v',p,J,M,N,O,Q,U]:=p;∎;rw[Y] at ex;rw[N] at l;rw[h2] at q;rw[O] at g;unfold d8 at hu;cases j with
   |zero=>
    cases ex;cases l;show Yn I C sb t D Au _ _ E J (e 0) u h (w 0 t D rfl rfl) h3 Q q.left g.left A m ⋯
   |succ j=>show ee I C sb n d (λi=>e<|i+1) Au r p L M j x y u h (λi a b ha hb=>w (i+1) a b ha hb) h4 U q.right g.right ex l A m ⋯
end
def Wy(I:ax X aa G H s)(f:df X.K H a xs)(g:df X.K H b ys)(r:Au.units<Ĭ)(E:↑xs=↑ys)(e:Nat->Bool)(he:∀(j:Nat) x y u v,xs[j]?=À x->ys[j]?=À y->aG x u->aG y v->Ņ Au.in1 s u v (e j)):ah3 Au s `aA `dV (!(Ç ↑xs).all e):=by
 ∎;let#[us,m,C,_]:=I.tuple f;let#[d,r2,D,_]:=I.tuple g;∎;have l1:=↑m;have l2:=↑r2;have z:=SeqAt.RcNeAt.tuples (A:=Au) (e:=e) C D r<|λj f g=>?_
 .have e0:((Ç<|min us.toArray.size d.toArray.size).all e&&us.toArray.size == d.toArray.size)=(Ç ↑xs).all e:=by
   simp only[ã];have h:min ↑us ↑d=↑xs:=⋯
   have l:(↑us == ↑d)=Â:=by simp;omega
   rw[h,l,af9]
  rw[e0] at z;show z
 .simp only[ã] at f g;∎;let#[u,h,w]:=m.get (i:=j) (x:=xs[j]'⋯) ∅;let#[v,l,B]:=r2.get (i:=j) (x:=ys[j]'⋯) ∅;let#[_,n]:=Á.mp h;let#[_,o]:=Á.mp l;∎;have p:us.toArray[j]'(by simpa using f)=u:=by simpa using n
  have q:d.toArray[j]'(by simpa using g)=v:=by simpa using o
  rw[p,q];show he j _ _ u v ∅ ∅ w B
abbrev vp(K:aq)(neg:Bool):R2:=λx y H Q=>∃(F:Hp)(B:Bool->Hp)(t d:Tr)(c a:Cs)(b:Bool),aE F H/\(∀k,aE (B k) H)/\R K F B t x c/\R K F B d y a/\au F H c/\au F H a/\dh t d=À b/\dep t<=60/\1<=dep t/\Q (.bl (if neg=Â then !b else b)) H
def HJ{x y:V}(hu:X.A.units+64<Ĭ)(I:ax X aa i H s)(G:aE F H)(sb:∀k,aE (B k) H)(r:R X.K F B t x c)(r':R X.K F B t' y c')(hc:au F H c)(J:au F H c')(e:dh t t'=À b)(d:dep t<=60)(d1:1<=dep t)(D:aG x v)(E:aG y u):ad8 X.A s v u b/\ah3 X.A s v u (!b):=by
 cases t with
 |aL h=>
  let#[m,rfl,L,e]:=vN e;unfold dep at d;∎;let#[a,vs,rfl,C,n]:=r.eA G;let#[O,g,rfl,o,w]:=r'.eA G;∎;obtain rfl:v=å a:=D;obtain rfl:u=å O:=E;let#[al,Y]:=sJ ‹cg h m=À b›;have it:=λ(j:Nat)(x y:V)(p q:ao) ex U D E=>ee I G sb h m `cs X.A.in1 vs g c c' j x y p q Y n w hc J ex U D E (by rw[qF];omega)
  have l:↑vs=↑g:=by rw[n.length,w.length];show L
  have M:=Gu (Au:=X.A) I C o ⋯ l `cs it;have rn:=Wy (Au:=X.A) I C o ⋯ l `cs it;rw[n.length,al] at M rn;show#[M,rn]
 |ag f h=>
  let#[f',m,rfl,N]:=vO e;unfold dep at d;∎;let#[a,vs,ds,rfl,C,n,h3,_]:=r.cZ G sb hc;let#[O,g,Q,rfl,o,w,g3,_]:=r'.cZ G sb J;∎;obtain rfl:v=å a:=D;obtain rfl:u=å O:=E;by_cases L:↑h=↑m
  .rw[ao7 L] at N;let#[al,Y]:=sJ N;have it:=λ(j:Nat)(x y:V)(p q:ao) ex U D E=>ee I G sb h m `cs X.A.in1 vs g ds Q j x y p q Y n w h3 g3 ex U D E (by rw[qF];omega)
   have l:↑vs=↑g:=by rw[n.length,w.length];show L
   have M:=Gv (Au:=X.A) I C o ⋯ l `cs it;have rn:=VN (Au:=X.A) I C o ⋯ l `cs it;rw[n.length,al] at M rn;show#[M,rn]
  .rw[ao6 L] at N;cases N;∎;let#[us,r1,t1,_]:=I.list C;let#[zs,r2,t2,_]:=I.list o;∎;have m1:=↑r1;have m2:=↑r2;have l1:=↑n;have l2:=↑w;show#[.lists_lengths t1.isList t2.isList (by simp;omega) ⋯,.lists_lengths (A:=X.A) t1.isList t2.isList (by simp;omega) ⋯]
 |_=>show ao8 d1<|Nat.not_succ_le_zero 0
def Yo(i:X.A.units+64<Ĭ):cu X (ú .Eq) (vp X.K É):=by
 intro aa s j H x y v u Q I m n h;let#[F,B,t,C,c,p,b,o,sb,r,l,g,a,e,d,f,q]:=h;show (HJ i I o sb r l g a e d f m n).1 X.prog X.w X.xe _ #[.bl b,H,I,rfl,q]
def Yp(i:X.A.units+64<Ĭ):cu X `cy (vp X.K Â):=by
 intro aa s j H x y v u Q I m n h;let#[F,B,t,C,c,p,b,o,sb,r,l,g,a,e,d,f,q]:=h;show (HJ i I o sb r l g a e d f m n).2 X.prog X.w X.xe _ #[.bl (!b),H,I,rfl,q]
abbrev DZ(K:aq):R2:=λx y H Q=>Ba x y H Q\/vp K É x y H Q
def gB(a:X.A.units+64<Ĭ:=by show bA.units<|by assumption):cu X (ú .Eq) (DZ X.K):=LI.or<|Yo a
abbrev D2(K:aq):R2:=λx y H Q=>tY x y H Q\/vp K Â x y H Q
def jR(a:X.A.units+64<Ĭ:=by show bA.units<|by assumption):cu X `cy (D2 X.K):=Du.or<|Yp a
abbrev lV(neg:Bool)(x y:Tr)(Q:az):Prop:=match x,y with
 |.int a,.int b=>Q (.bl (if neg=Â then !decide (a=b) else decide (a=b)))
 |.str a,.str b=>Q (.bl (if neg=Â then !decide (a=b) else decide (a=b)))
 |.bl a,.bl b=>Q (.bl (if neg=Â then !decide (a=b) else decide (a=b)))
 |x,y=>sj neg x y Q \/ ∃b,dh x y=À b /\ dep x <= 60 /\ 1 <= dep x /\ Q (.bl (if neg=Â then !b else b))
def gp:eE K k (DZ K) (lV É):=λF B H x y n ty g i Q o s b z a f j l hd p q=>by
 unfold lV at p;split at p
 .obtain⟨rfl,_⟩:=a;let#[rfl,_]:=f;show .inl #[rfl,q _ _ F H [] p `ah #[?_,rfl] .nil λ_ m=>nomatch m];show ap2 V.bl (decide_eq_decide.mpr #[λh=>V.int.inj h,λh=>by rw[h]])
 .obtain⟨rfl,_⟩:=a;let#[rfl,_]:=f;show .inl #[rfl,q _ _ F H [] p `ah #[?_,rfl] .nil λ_ m=>nomatch m];show ap2 V.bl (decide_eq_decide.mpr #[λh=>V.str.inj h,λh=>by rw[h]])
 .obtain⟨rfl,_⟩:=a;let#[rfl,_]:=f;show .inl #[rfl,q _ _ F H [] p `ah #[?_,rfl] .nil λ_ m=>nomatch m];show ap2 V.bl (decide_eq_decide.mpr #[λh=>V.bl.inj h,λh=>by rw[h]])
 .rcases p with p |p
  .show .inl (Vd (k:=k) F B H x y n ty g i Q o s b z a f j l hd p q)
  .obtain⟨bb,e,d,d1,p⟩:=p;show .inr #[F,B,n,ty,g,i,bb,s,b,a,f,j,l,e,d,d1,q _ _ F H [] p `ah #[rfl,rfl] .nil λ_ m=>nomatch m]
def jP:eE K k (D2 K) (lV Â):=λF B H x y n ty g i Q o s b z a f j l hd p q=>by
 unfold lV at p;split at p
 .obtain⟨rfl,_⟩:=a;let#[rfl,_]:=f;show .inl #[rfl,q _ _ F H [] p `ah #[?_,rfl] .nil λ_ m=>nomatch m];show ap2 (λb=>V.bl (!b)) (decide_eq_decide.mpr #[λh=>V.int.inj h,λh=>by rw[h]])
 .obtain⟨rfl,_⟩:=a;let#[rfl,_]:=f;show .inl #[rfl,q _ _ F H [] p `ah #[?_,rfl] .nil λ_ m=>nomatch m];show ap2 (λb=>V.bl (!b)) (decide_eq_decide.mpr #[λh=>V.str.inj h,λh=>by rw[h]])
 .obtain⟨rfl,_⟩:=a;let#[rfl,_]:=f;show .inl #[rfl,q _ _ F H [] p `ah #[?_,rfl] .nil λ_ m=>nomatch m];show ap2 (λb=>V.bl (!b)) (decide_eq_decide.mpr #[λh=>V.bl.inj h,λh=>by rw[h]])
 .rcases p with p |p
  .show .inl (Ve (k:=k) F B H x y n ty g i Q o s b z a f j l hd p q)
  .obtain⟨bb,e,d,d1,p⟩:=p;show .inr #[F,B,n,ty,g,i,bb,s,b,a,f,j,l,e,d,d1,q _ _ F H [] p `ah #[rfl,rfl] .nil λ_ m=>nomatch m]
end
abbrev Bm(K:aq)(k:Md)(pe:bh):TE:=λj H Q=>∃(F:Hp)(B:Bool->Hp)(i:af)(b:az),iq K k F B H j i/\pe i b/\∀t v d a cs,b t->Out K F B H d a t v cs->Q v a
abbrev yf(K:aq)(k:Md)(pe:eB):TT:=λj H Q=>∃(F:Hp)(B:Bool->Hp)(i:af)(d:Bool->Prop),iq K k F B H j i/\pe i d/\∀b e a,d b->Gr F H e a->Q b a
section
def QE.of(h:QE X k e pe):PE X e (Bm X.K k pe):=λaa s j H Q I y=>by
 ∎;let#[F,B,i,a,f,g,l]:=y;let#[m,b,d]:=h.h;∎;show b aa s j H Q I<|d F B H j i Q a f g l
def HW:bF K k (Bm K k pe) pe:=λF B H j i Q a b d e=>#[F,B,i,a,b,d,e]
def QT.of(h:QT X k e pe):PT X e (yf X.K k pe):=λaa s j H Q I y=>by
 ∎;let#[F,B,i,a,f,g,l]:=y;let#[m,b,d]:=h.h;∎;show b aa s j H Q I<|d F B H j i Q a f g l
def GG:gz K k (yf K k pe) pe:=λF B H j i Q a b d e=>#[F,B,i,a,b,d,e]
def Jh(d:QE X k a pa)(e:QE X k b pb):QE X k (.BinOp a .Pow b pos) (p2 (jJ vg λi j=>.int<|i ^ j.toNat) pa pb):=o3 XE (AF λ_ _ _ _=>#[rfl,rfl]) d e
def jO(g:bQ X `bl r)(j:mV X.K k r pr)(hm:X.mg x=È)(f:QA X k (e::es) ps)(i:do Gl X x)(l:do ϧ x=À `bl)(hn: ~~~(x≠"__name__"))(a: ~~~(dZ x))(he:do d0 e es X.env)(hpl:do fS pos es X.env):
  QE X k (.Call `aL (e::es) [] pos) (pB pr ps):=by
 let#[m,b,d]:=f.h;show#[_,oF g i hm l b hn a he hpl,HH j d]
def wo:QE X k (.Dict [] [] pos) xH:=#[_,Sj,SY]
def Ks(h:QE X k e pe)(d:do Ė e f X.env `bK=eval e X.env):QE X k `aZ (p1 (iC X.K f) pe):=by
 let#[g,a,b]:=h.h;show#[_,Gz a d,Ww b]
def z6(m:QE X k o po)(he:QE X k e pe)(l:QE X k f pf)(hm:M2 X o "get" apos e f br:=by show#[rfl,rfl,rfl,rfl])(n:X.A.units+1<Ĭ:=by assumption):QE X k (.Call (.Attribute o "get" apos) [e,f] [] br) (p3 va po pe pf):=by
 ∎;let#[p,i,j]:=m.h;let#[q,d,g]:=he.h;let#[r,a,b]:=l.h;∎;show#[_,Sl n i d a hm,S4 j g b]
structure QO(X:Cx)(k:Md)(e:Option ę)(pe:pZ):Prop where
 h:∃te,PO X e te/\sq X.K k te pe
def q0:QO X k È A5:=#[_,Vu,Yi]
def lR(h:QE X k e pe):QO X k (À e) (A6 pe):=by
 let#[d,a,b]:=h.h;show#[_,Vv a,Yj b]
def nO{e:ę}{pe:bh}{l h:Option ę}{pl a:pZ}{p2:Pos}(he:QE X k e pe)(n:QO X k l pl)(m:QO X k h a):QE X k (.Subscript e (.Slice l h È p2) pos) (AU pe pl a):=by
 ∎;let#[o,i,j]:=he.h;let#[p,f,g]:=n.h;let#[q,b,d]:=m.h;∎;show#[_,RE Kc i f b,Yk j g d]
structure QG(X:Cx)(k:Md)(lo:Nat)(e:ę)(pg:eV):Prop where
 h:∃tg,PG X e tg/\oC X.K k lo tg pg
structure uo(X:Cx)(k:Md)(lo:Nat)(es:bN)(pg:af->af->(aA)->Prop):Prop where
 h:∃tg,pY X es tg/\rX X.K k lo tg pg
def cR(i:Nat)(a:X.N.Nodup:=by assumption)(e: ~~~(lo<=i))(d:do X.N[i]?=À x)(f:Loc X.env.scope x:=by first |show Ϸ rfl |show ż rfl)(b:lz X x:=by first |show .inl rfl |show .inr rfl |assumption):QG X k lo `ao (tV i):=#[_,y9 a d f b,Yd e]
def iN:uo X k lo [] ou:=#[_,F0,PH]
def dP(h:QG X k lo e pg)(h':uo X k lo es pr)(hs:do (ĥ (e::es) X.env).map (·.2)=assign e X.env::(ĥ es X.env).map (·.2)):uo X k lo (e::es) `cN:=by
 ∎;let#[g,d,f]:=h.h;let#[i,a,b]:=h'.h;∎;show#[_,Fd d a hs,Pk f b]
def iU(d:X.calm=Â)(h:uo X k lo es pr)(hn:do (ĥ es X.env).length=n)(e:do (ĥ es X.env).findIdx? (·.1)=È):QG X k lo `ed `di:=by
 let#[f,a,b]:=h.h;show#[_,HN d a hn e,Ye b]
structure QI(X:Cx)(k:Md)(tg e:ę)(pi:jf):Prop where
 h:∃ti,PI X tg e ti/\lI X.K k ti pi
section
def fj(h:QE X k l pl):QI X k tg l (AZ pl):=by
 let#[d,a,b]:=h.h;show#[_,Up a,PL b]
def tF(hm:X.mg "range"=È)(h:QA X k [l] ps)(d:do Gl X "range")(hs:do lA l X.env):QI X k tg (.Call (.Name "range" p) [l] [] pos) (yb ps):=by
 let#[e,a,b]:=h.h;show#[_,PU d hm a hs,Wq b]
def Kt(hm:X.mg "range"=È)(h:QA X k [l,m] ps)(e:do Gl X "range")(hs:do p9 l m X.env)(a:do lA m X.env):QI X k tg (.Call (.Name "range" p) [l,m] [] pos) (yc ps):=by
 let#[f,b,d]:=h.h;show#[_,PV e hm b hs a,Wr d]
def tO(hm:X.mg "enumerate"=È)(h:QA X k [l] ps)(d:do Gl X "enumerate")(hs:do lA l X.env):QI X k `bP (.Call (.Name "enumerate" p) [l] [] pos) (AY ps):=by
 let#[e,a,b]:=h.h;show#[_,VI d hm a hs,PM b]
def mE(hm:X.mg "zip"=È)(h:QA X k [l,m] ps)(e:do Gl X "zip")(hs:do p9 l m X.env)(a:do lA m X.env):QI X k `bP (.Call (.Name "zip" p) [l,m] [] pos) (A1 ps):=by
 let#[f,b,d]:=h.h;show#[_,Xc e hm b hs a,SV d]
end
def bC(i:Nat)(h:QE X k e pe)(d:X.N.Nodup:=by assumption)(j: ~~~(lo<=i))(g:do X.N[i]?=À x)(l:Loc X.env.scope x:=by first |show Ϸ rfl |show ż rfl)(hs:do Į e (À<|.Name x pos') pos.line X.env=pure É)(f:lz X x:=by first |show .inl rfl |show .inr rfl |assumption):
  QS X k lo (.Assign [.Name x pos'] e pos) (rW i pe):=by
 let#[m,a,b]:=h.h;show#[_,v5 d g l a hs f,FN j b]
def Ku(h:QE X k e pe)(l:QG X k lo tg pg)(g:do ZL [tg] e pos.line X.env=pure É)(i:do ZK [tg] e X.env=pure È)(j:do (ĥ [tg] X.env).map (·.2)=[assign tg X.env]):QS X k lo (.Assign [tg] e pos) (x8 pe pg):=by
 ∎;let#[m,a,b]:=h.h;let#[n,d,f]:=l.h;∎;show#[_,HP a d g i j,Vo b f]
def Kv(i j:Nat){x y:Str}{n:cj}{l m pt d:Pos}{g k2:Nat}(h:QA X k [a,b] n)(r:do X.calm=Â)(q:X.N.Nodup:=by assumption)(w: ~~~(lo<=i))(f: ~~~(lo<=j))(u:do X.N[i]?=À x)(v:do X.N[j]?=À y)(e: ~~~(i≠j))(B:do X.env.scope.names.lookup x=À .local)(C:do X.env.scope.names.lookup y=À .local)(hs:do ZK [.Tuple [.Name x l,.Name y m] g pt] (.Tuple [a,b] k2 d) X.env=pure (À [x,y]))(A:do ZL [.Tuple [.Name x l,.Name y m] g pt] (.Tuple [a,b] k2 d) pos.line X.env=pure É):QS X k lo (.Assign [.Tuple [.Name x l,.Name y m] g pt] (.Tuple [a,b] k2 d) pos) (x9 i j n):=by
 let#[D,o,p]:=h.h;show#[_,XA r q u v e B C o hs A,Vp w f p]
def fL(m:QI X k tg iter pi)(l:QG X k lo tg pg)(i:QB X k lo body pb)(hp:ZW `aa X.A X.env X.xe:=by first |show ab3 |show eI rfl)(j:do X.calm=Â)(hs:∀x,ĭ iter X.env x=pure x:=by intro _;rfl):QS X k lo (.For tg iter body [] pos) (ya pi pg pb):=by
 ∎;let#[n,f,g]:=m.h;let#[o,d,e]:=l.h;let#[tb,a,b]:=i.h;∎;show#[_,HQ hp j f d a hs,Wl g e b]
def HX(q:QE X k o po)(p:QG X k.walk lo `dm pg)(m:QB X k.walk lo body pb)(hz:do k.z=Â)(hp:ZW `aa X.A X.env X.xe:=by first |show ab3 |show eI rfl)(n:do X.calm=Â)(i:do Ė o "items" X.env `at=eval o X.env)(j:do (apos.endLine == br.line)=Â)(l:∀x,ĭ (.Call (.Attribute o "items" apos) [] [] br) X.env x=pure x:=by intro _;rfl):
  QS X k lo (.For `dm (.Call (.Attribute o "items" apos) [] [] br) body [] pos) (xJ .it po pg pb):=by
 ∎;let#[r,d,e]:=q.h;let#[u,f,g]:=p.h;let#[tb,a,b]:=m.h;∎;show#[_,Vw hp n d f a i j l,S2 hz e g b]
def dz(i:Nat)(b:do X.N[i]?=À x)(d:qb X.env.scope x:=by first |show Ϸ rfl |show ż (Ϸ rfl) |show ż<|ż rfl)(hd: ~~~(dZ x))(a: ~~~((x == ("__classdict__":Str))=É)):PE X `ao (tR X.K i []):=v3 b d hd a
def nM(hp:PE X o `aY)(h:QE X k e pe)(f:do Ė o "append" X.env `at=eval o X.env)(g:do (((ű br<|Ă [e] X.env).all (!·.1)&&(Α br<|ŗ [] X.env).all (·.1.isSome))&&decide (([e].length+([]:List ZE).length+if ([]:List ZE).isEmpty=Â then 0 else 1)<30))=Â)(j:do (apos.endLine == br.line)=Â)(a:do d0 e [] X.env)(hs:do Į (.Call (.Attribute o "append" apos) [e] [] br) È spos.line X.env=pure É):
  QS X k lo (.Expr (.Call (.Attribute o "append" apos) [e] [] br) spos) (yd X.K i r pe):=by
 let#[l,b,d]:=h.h;show#[_,vH (I0 PySem.F.plainAttrs_list slot_list_append type_list_append P6 hp (kI b lL a) f g j a rfl) hs,Ws d]
def qN(hp:PE X o `aY)(p:QE X k j pj)(h:QE X k e pe)(n:∀v,assign `dn X.env v=(do
   let ov <- holding [v] (eval o X.env)
   let iv <- holding [v,ov] (eval j X.env)
   Z5 pos'
   holding [v,ov,iv] (setItem ov iv v)
   release [v,ov,iv] []):=by intro _;rfl)(g:do ZL [.Subscript o j pos'] e pos.line X.env=pure É)(l:do ZK [.Subscript o j pos'] e X.env=pure È)(m:do (ĥ [.Subscript o j pos'] X.env).map (·.2)=[assign `dn X.env]):
  QS X k lo (.Assign [.Subscript o j pos'] e pos) (xD X.K i r pj pe):=by
 ∎;let#[q,a,b]:=h.h;let#[u,d,f]:=p.h;∎;show#[_,HP a (Xz hp d RF n) g l m,SW b f]
def wC(hp:PE X o `aY)(g:QE X k j pj)(h:QE X k e pe)(l:X.A.units+1<Ĭ:=by assumption)(hs:do Į e (À<|.Subscript o j pos') pos.line X.env=pure É):QS X k lo (.Assign [.Subscript o j pos'] e pos) (ye X.K i r pj pe):=by
 ∎;let#[m,a,b]:=h.h;let#[n,d,f]:=g.h;∎;show#[_,Vr l hp d a hs,Wt b f]
def oP(hp:PE X o `aY)(h:QE X k e pe)(hs:do Į e (À<|.Attribute o f pos') pos.line X.env=pure É):QS X k lo (.Assign [.Attribute o f pos'] e pos) (xI X.K i r f pe):=by
 let#[d,a,b]:=h.h;show#[_,HS hp a hs,S1 b]
structure rq(X:Cx)(scope:Zr)(N:ah)(js:List Nat)(e:ę)(pg:eV):Prop where
 h:∃tg,(∀C s H fp pl,PG `ag e tg)/\sr X.K js tg pg
structure vq(X:Cx)(scope:Zr)(N:ah)(js:List Nat)(es:bN)(pg:af->af->(aA)->Prop):Prop where
 h:∃tg,(∀C s H fp pl,pY `ag es tg)/\rS X.K js tg pg
section
def eF(i:Nat)(b: ~~~(N.Nodup))(d:do N[i]?=À x)(a:∀C s H fp pl,(cV X scope N C s H fp pl).env.scope.names.lookup x=À .local:=by intros;rfl):rq X scope N [i] `ao (tV i):=#[_,λC s H fp pl=>y9 (X:=cV X scope N C s H fp pl) b d (.inl<|a C s H fp pl)<|.inr<|a C s H fp pl,Yl]
def zl:vq X scope N [] [] ou:=#[_,λ_ _ _ _ _=>F0,S5]
def qH(h:rq X scope N js e pg)(h':vq X scope N ks es pr)(hs:∀C s H fp pl,(ĥ (e::es) (cV X scope N C s H fp pl).env).map (·.2)=assign e (cV X scope N C s H fp pl).env::(ĥ es (cV X scope N C s H fp pl).env).map (·.2):=by intros;rfl):vq X scope N (js++ks) (e::es) `cN:=by
 ∎;let#[g,d,f]:=h.h;let#[i,a,b]:=h'.h;∎;show#[_,λC s H fp pl=>Fd (d C s H fp pl) (a C s H fp pl)<|hs C s H fp pl,PQ f b]
def Bg(d:X.calm=Â)(h:vq X scope N js es pr)(hn:∀C s H fp pl,(ĥ es (cV X scope N C s H fp pl).env).length=n:=by intros;rfl)(e:∀C s H fp pl,(ĥ es (cV X scope N C s H fp pl).env).findIdx? (·.1)=È:=by intros;rfl):rq X scope N js `ed `di:=by
 let#[f,a,b]:=h.h;show#[_,λC s H fp pl=>HN (X:=cV X scope N C s H fp pl) d (a C s H fp pl) (hn C s H fp pl)<|e C s H fp pl,Ym b]
structure uq(Y:Cx)(k:Md)(es:bN)(pt:eB):Prop where
 h:p0 Y es (yf Y.K k pt)
def GH:uq X k [] su:=#[λaa s j H Q I a=>by let#[F,B,i,b,d,e,f]:=a;show VD aa s j H Q I<|Wx (k:=k) F B H j i Q b d e f]
def Wz{e:ę}{pt:eB}(h:QT X k e pt):uq X k [e] pt:=#[Gw h.of]
variable{elt target iter:ę}{ifs:bN}{ix:bJ}{pi:jf}{pg:eV}{pt:eB}{pe:bh}{js:List Nat}
def hJ(N:ah)(ix:bJ)(q:QI X k target iter pi)(p:rq X a N js target pg)(he:∀C s H fp pl,QE `aU k.gJ elt pe)(ht:∀C s H fp pl,uq `aU k.gJ ifs pt:=by show λ_ _ _ _ _=>GH)(o:do X.calm=Â)(g:bO X a N ix:=by repeat first |show ý |show#[rfl,rfl,rfl,?_])(r: ~~~(∀j∈js,ix[j]?=À È))(e:do a.kind=.function)(d: ~~~(∀y∈a.names,y.2≠.cell))(b: ~~~(∀x∈a.names,x.2=.local->a.names.lookup x.1=À .local))(f:do kE a X.env=Â)(hs:∀x,ĭ iter X.env x=pure x:=by intro _;rfl):
  QE X k (.ListComp elt [#[target,iter,ifs,0]] a pos) `dF:=by
 ∎;let#[u,m,n]:=q.h;let#[v,i,l]:=p.h;∎;show#[_,Gx o m i (λC s H fp pl=>(ht C s H fp pl).h) (λC s H fp pl=>(he C s H fp pl).of) g e d b f hs,FT n l GG HW r]
def oU(i:Nat)(N:ah)(ix:bJ)(A:QI X k target iter pi)(w:rq X a N js target pg)(he:∀C s H fp pl,QE `aU k.gJ elt pe)(ht:∀C s H fp pl,uq `aU k.gJ ifs pt:=by show λ_ _ _ _ _=>GH)(r:X.N.Nodup:=by assumption)(D: ~~~(lo<=i))(m:do X.N[i]?=À y)(E:Loc X.env.scope y:=by first |show Ϸ rfl |show ż rfl)(u:do X.calm=Â)(g:bO X a N ix:=by repeat first |show ý |show#[rfl,rfl,rfl,?_])(B: ~~~(∀j∈js,ix[j]?=À È))(l:Į (.ListComp elt [#[target,iter,ifs,0]] a pos) (À<|.Name y py) spos.line X.env=pure Â:=by with_unfolding_all rfl)(e:do a.kind=.function)(d: ~~~(∀y∈a.names,y.2≠.cell))(b: ~~~(∀x∈a.names,x.2=.local->a.names.lookup x.1=À .local))(f:do kE a X.env=Â)(hs:∀x,ĭ iter X.env x=pure x:=by intro _;rfl)(v:lz X y:=by first |show .inl rfl |show .inr rfl |assumption):
  QS X k lo (.Assign [.Name y py] (.ListComp elt [#[target,iter,ifs,0]] a pos) spos) (rW i<|vb pi pg pt pe ix):=by
 ∎;let#[G,p,q]:=A.h;let#[I,n,o]:=w.h;∎;show#[_,VF r m E u p n (λC s H fp pl=>(ht C s H fp pl).h) (λC s H fp pl=>(he C s H fp pl).of) g l e d b f hs v,FN D<|FT q o GG HW B]
end
end
section
def Lk.md(L:Lk K k lo us Fb Hb D D')(hz:k.z=Â->k'.z=Â)(x:∀x e a b,k.q x->∀d,XF K a d x.f->Gr Fb Hb a b->k.E e x.c d b):Lk K k' lo us Fb Hb D D':=
 #[λF H j i cs W=>L.nx F H j i cs<|W.md hz x,λF H j i cs v t c W=>L.rt F H j i cs v t c<|W.md hz x,λF H j i cs W=>L.bk F H j i cs<|W.md hz x,λF H j i cs W=>L.ct F H j i cs<|W.md hz x]
abbrev xn(q:Xv->Prop)(C:ai)(pe:bh):cB:=λ_ j=>pe `ae λ_=>q<|.ref C
def QF(h:bF K #[z,λ_=>E,q] te pe):c6 K #[z,λ_=>E,q] lo (CH C E te) (xn q C pe):=λus f d F H j i cs D e W p L=>
 h F `cr H j _ _ _ W.fm p λt v a b c q o=>W.x `ai j a b q È `aj<|W.g.trans' o.g
abbrev D3(K:aq)(k:Md)(lo:Nat)(e:cB):TS:=λD j H=>∃(us:ay)(b d F:Hp)(i:af)(cs:Nat->Cs)(a:Pd),bj K k lo us b d F H j i cs/\e a i/\Lk K k lo us b d D a
def QB.of(h:QB X k lo sts ps):fR X sts (D3 X.K k lo ps):=λaa s j H D I y=>by
 ∎;let#[us,b,d,F,i,cs,a,g,l,m]:=y;let#[n,e,f]:=h.h;∎;show e aa s j H D I<|f us b d F H j i cs D a g l m
def WA:c6 K k lo (D3 K k lo ps) ps:=λus b d F H j i cs D a e f g=>#[us,b,d,F,i,cs,a,e,f,g]
abbrev xc(K:aq)(k:Md)(lo:Nat)(n:TE->TS)(m:bh->cB):Prop:=∀(us:ay)(d a F H:Hp)(j:St)(i:af)(cs:Nat->Cs)(D:iR)(b:Pd)(h:TE)(g:bh),bj K k lo us d a F H j i cs->Lk K k lo us d a D b->(∀Q f,g (i.map aK) f->(∀t v l e c,f t->Out K F `ea H l e t v c->Q v e)->h j H Q)->m g b i->n h D j H
def S6(g:lo<=i):xc K k lo (λa=>mf a<|j5 i) (rW i):=λus n r F H j G cs D l a u W L h p=>h _ _ p λt v m d c q o=>by
 let#[b,f,e]:=W.outF o g q.1;show L.nx b d _ _ _ e q.2
abbrev Jm(K:aq)(z:Bool)(pe:(Xv->Prop)->bh)(R':St->XK):TE:=λj H Q=>∃q,Bm K #[z,R',q] (pe q) j H Q
def Kw{pe:(Xv->Prop)->bh}(h:∀q,QE X #[z,R',q] e<|pe q):PE X e (Jm X.K z pe R'):=λaa s j H Q I ⟨q,h'⟩=>(h q).of aa s j H Q I h'
@[reducible] def D4(K:aq)(C:ai)(a:ao):Prop:=W.exmOne K a `ai=À Â
abbrev yg(K:aq)(C:ai)(a:bh->cB)(pe:(Xv->Prop)->bh)(b:cB):cB:=λD j=>a (pe λx=>D4 K C x.c/\b D j) D j
def WB{n:TE->TS}(v:xc K k lo n pS)(w:c6 K k.gJ lo th ph):c6 K k lo (DQ K C (λR'=>n<|Jm K k.z pe R') th) (yg K C pS pe ph):=λus l a F H j i cs D f W p L=>
 v us l a F H j i cs D f _ _ W L (λQ u y q=>#[_,F,Bq a H,_,u,#[W.fm.s,W.fm.b,W.fm.z,W.fm.e,λx o r m d A g=>#[m.1,w us l a o r j i cs D f ((W.gr g).md id λ_ _ _ _ h=>h.elim) m.2<|L.md id W.x]],y,q]) p
end
section
def GI(h:ot `aB X E):∀j,j9 `aB X j E:=λj aa H s e a I c=>h aa j H s e a I c
def WC(hs:X.stack=X.env::X.outer)(j:X.env.frame=À X.env.locals)(d:X.ex=[])(f:qd X E)(a:X.calm=Â)(l:Gl X x)(hm:X.mg x=À `ai)(FB:ExcBaseFacts B newId initId bmB)(m:ZY X.K C bmB newId=Â)(he:QE X #[z,λ_=>E,q] e₀ pe)(b: ~~~(dZ x))(e:do d0 e₀ [] X.env)(hpl:do fS br [] X.env):
  QS X #[z,λ_=>E,q] lo (.Raise (À<|.Call (.Name x np) [e₀] [] br) È pos) (xn q C pe):=by
 let#[n,g,i]:=he.h;show#[_,RO hs j d f a l hm FB m g b e hpl,QF i]
section
def Kx(hs:X.stack=X.env::X.outer)(h:X.env.frame=À X.env.locals)(i:Gl X x)(hm:X.mg x=À `ai)(f:xc X.K k lo tS pS)(g:∀pn xe d,PE `bi e d->PS `bi st (tS d))(he:∀(pn:aX)(xe:ao->aj->Prop)(R':St->XK),(∀j,j9 `aB `bi j<|R' j)->∀q,QE `bi #[k.z,R',q] e<|pe q)(l:∀v:Ϛ,QB `dX k.gJ lo (a::suite) ph)(b: ~~~(dZ x)):
  QS X k lo (.Try [st] [.ExceptHandler (À<|.Name x np) È (a::suite) hpos] [] [] pos) (yg X.K C pS pe ph):=
 #[_,Xa hs h i hm (λpn xe R' m=>y8<|g pn xe _<|Kw<|he pn xe R' m) (λv=>(l v).of) b,WB f WA]
end
def HY:cu X (ú .Is) (λx y H Q=>((∃d,y=.bl d)\/y=.aT)/\Q (.bl<|decide<|x=y) H):=by
 intro aa s j H x y v u Q I a b h;let#[e,q]:=h;rcases e with⟨d,rfl⟩ |rfl
 .cases b;cases x with
  |bl c=>cases a;show PyProof.Rows.is_bool (cQ I q (by cases c<;>cases d<;>rfl))
  |_=>first
   |(cases a;show Ü (cQ I q rfl))
   |(let⟨t,rfl⟩:=a;show Ü (cQ I q rfl))
 .show XH aa s j H x _ v u Q I a b ⟨rfl,q⟩
end
section
def GJ:cu X (ú .IsNot) (λx y H Q=>((∃d,y=.bl d)\/y=.aT)/\Q (.bl (!decide (x=y))) H):=by
 intro aa s j H x y v u Q I a b h;let#[e,q]:=h;rcases e with⟨d,rfl⟩ |rfl
 .cases b;cases x with
  |bl c=>cases a;show PyProof.Rows.isnot_bool (cQ I q (by cases c<;>cases d<;>rfl))
  |_=>first
   |(cases a;show Ü (cQ I q rfl))
   |(let⟨t,rfl⟩:=a;show Ü (cQ I q rfl))
 .show Uq aa s j H x _ v u Q I a b ⟨rfl,q⟩
end
section
abbrev rb:Tr->Tr->Bool
 |.bl c,.bl d=>c == d
 |.aT,.aT=>Â
 |_,_=>É
abbrev nj(neg:Bool)(x y:Tr)(Q:az):Prop:=match y with
 |.bl d=>Q<|.bl<|neg ^^ rb x (.bl d)
 |.aT=>Q<|.bl<|neg ^^ rb x .aT
 |_=>False
def R.ref(r:R K F B t v c):(∃b,t=.bl b/\v=.bl b)\/(t=.aT/\v=.aT)\/(∀d,rb t (.bl d)=É/\rb t .aT=É/\v≠.bl d/\v≠.aT):=by
 cases t with
 |bl b=>show .inl #[b,rfl,r.1]
 |aT=>show .inr<|.inl #[rfl,r.1]
 |ar=>show (show False from r).elim
 |int n=>show .inr (.inr λd=>#[rfl,rfl,(by rw[r.1];intro z;cases z),(by rw[r.1];intro z;cases z)])
 |str n=>show .inr (.inr λd=>#[rfl,rfl,(by rw[r.1];intro z;cases z),(by rw[r.1];intro z;cases z)])
 |ty n=>show .inr (.inr λd=>#[rfl,rfl,(by rw[r.1];intro z;cases z),(by rw[r.1];intro z;cases z)])
 |cl n=>show .inr (.inr λd=>#[rfl,rfl,(by rw[r.1];intro z;cases z),(by rw[r.1];intro z;cases z)])
 |exc n _=>let#[_,a,_,rfl,_]:=r;show .inr (.inr λd=>#[rfl,rfl,(by intro z;cases z),(by intro z;cases z)])
 |aL e=>let#[a,vs,rfl,_]:=r;show .inr (.inr λd=>#[rfl,rfl,(by intro z;cases z),(by intro z;cases z)])
 |ag f e=>
  cases f with
  |o=>let#[a,vs,g,rfl,_]:=r;show .inr (.inr λd=>#[rfl,rfl,(by intro z;cases z),(by intro z;cases z)])
  |f=>let#[_,a,vs,rfl,_]:=r;show .inr (.inr λd=>#[rfl,rfl,(by intro z;cases z),(by intro z;cases z)])
  |l b=>let#[_,a,vs,rfl,_]:=r;show .inr (.inr λd=>#[rfl,rfl,(by intro z;cases z),(by intro z;cases z)])
 |aP f e=>
  cases f with
  |o=>let#[a,vs,g,rfl,_]:=r;show .inr (.inr λd=>#[rfl,rfl,(by intro z;cases z),(by intro z;cases z)])
  |f=>let#[_,a,vs,rfl,_]:=r;show .inr (.inr λd=>#[rfl,rfl,(by intro z;cases z),(by intro z;cases z)])
  |l b=>let#[_,a,vs,rfl,_]:=r;show .inr (.inr λd=>#[rfl,rfl,(by intro z;cases z),(by intro z;cases z)])
 |ins f c e=>
  cases f with
  |o=>let#[a,h,vs,g,rfl,_]:=r;show .inr (.inr λd=>#[rfl,rfl,(by intro z;cases z),(by intro z;cases z)])
  |f=>let#[_,a,h,vs,rfl,_]:=r;show .inr (.inr λd=>#[rfl,rfl,(by intro z;cases z),(by intro z;cases z)])
  |l b=>let#[_,a,h,vs,rfl,_]:=r;show .inr (.inr λd=>#[rfl,rfl,(by intro z;cases z),(by intro z;cases z)])
def HZ(r:R K F B t v c)(d:Bool):decide (v=.bl d)=rb t (.bl d):=by
 rcases r.ref with⟨b,rfl,rfl⟩ |⟨rfl,rfl⟩ |h
 .cases b<;>cases d<;>rfl
 .rfl
 .rw[(h d).1];show ap0 (h d).2.2.1
def GK(r:R K F B t v c):decide (v=.aT)=rb t .aT:=by
 rcases r.ref with⟨b,rfl,rfl⟩ |⟨rfl,rfl⟩ |h
 .rfl
 .rfl
 .rw[(h Â).2.1];show ap0 (h Â).2.2.2
def H0:eE K k (λx y H Q=>((∃d,y=.bl d)\/y=.aT)/\Q (.bl<|decide<|x=y) H) (nj É):=λF B H x y l ty g h Q f s b z a e i j hd p q=>by
 unfold nj at p;split at p
 .obtain⟨rfl,_⟩:=e;show#[.inl #[_,rfl],?_];rw[HZ a];rw[Bool.false_xor] at p;show q _ _ F H [] p `ah #[rfl,rfl] .nil λ_ m=>nomatch m
 .obtain⟨rfl,_⟩:=e;show#[.inr rfl,?_];rw[GK a];rw[Bool.false_xor] at p;show q _ _ F H [] p `ah #[rfl,rfl] .nil λ_ m=>nomatch m
 .show p.elim
def E2:eE K k (λx y H Q=>((∃d,y=.bl d)\/y=.aT)/\Q (.bl (!decide (x=y))) H) (nj Â):=λF B H x y l ty g h Q f s b z a e i j hd p q=>by
 unfold nj at p;split at p
 .obtain⟨rfl,_⟩:=e;show#[.inl #[_,rfl],?_];rw[HZ a];rw[Bool.true_xor] at p;show q _ _ F H [] p `ah #[rfl,rfl] .nil λ_ m=>nomatch m
 .obtain⟨rfl,_⟩:=e;show#[.inr rfl,?_];rw[GK a];rw[Bool.true_xor] at p;show q _ _ F H [] p `ah #[rfl,rfl] .nil λ_ m=>nomatch m
 .show p.elim
def Rs.Ec:∀{bs:List Bool}{vs:ay}{c:Cs},Rs K F B (bs.map .bl) vs c->vs=bs.map V.bl
 |[],_,_,y=>by let#[h,_]:=y;show h
 |b::bs,_,_,y=>by let#[v,r,c,d,a,g,e,f]:=y;rw[a,Rs.Ec f,e.1];rfl
abbrev D5(all:Bool)(a:af)(Q:az):Prop:=match a with
 |[.ag _ xs]=>∃bs:List Bool,xs=bs.map .bl /\ Q (.bl (if all=Â then bs.all id else bs.any id))
 |_=>False
def WD:mV K k (λxs H Q=>∃(a:ai)(bs:List Bool),xs=[.ref a]/\bE K H a `cY/\Q (.bl<|bs.any id) H) (D5 É):=λF B H xs j h Q g s b z r f p q=>by
 unfold D5 at p;split at p
 .obtain⟨v,rfl,r1⟩:=r.one;∎;let#[a,vs,i,rfl,d,e,_]:=r1.cZ s b f;let#[bs,rfl,p]:=p;∎;rw[e.Ec] at d;show#[a,bs,rfl,d,q _ _ F H [] p `ah #[rfl,rfl] .nil λ_ m=>nomatch m]
 .show p.elim
def Kd(a:af)(b:Gl X x)(hm:X.mg x=À `aW)(ht:∃(o:Obj)(bu:cU)(n:Nat),X.K.lookup c=À o/\o.cls=.type "tuple"/\o.data=.seq bu n/\bu.size<=Ô/\aH vs bu.toList)(d:∀F B,Rs X.K F B a vs [])(hd: ~~~(dZ x)):QE X k `ao (pC<|.aL a):=
 HI `aW b hm rfl (λF B=>#[c,vs,rfl,.inr ht,d F B]) hd
def GL:∀(a:aF),Rs K F B (a.map .int) (a.map V.int) []
 |[]=>#[rfl,rfl]
 |i::a=>#[.int i,a.map V.int,[],[],rfl,rfl,#[rfl,rfl],GL a]
def gb(a:aF)(hm:X.mg x=À `aW)(ht:∃(o:Obj)(bu:cU)(n:Nat),X.K.lookup c=À o/\o.cls=.type "tuple"/\o.data=.seq bu n/\bu.size<=Ô/\aH (a.map V.int) bu.toList)(b:do Gl X x)(hd: ~~~(dZ x)):QE X k `ao (pC<|.aL<|a.map .int):=
 Kd _ b hm ht (λ_ _=>GL a) hd
def nP(hm:X.mg x=À `bz)(a:do Gl X x)(hd: ~~~(dZ x)):QE X k `ao (pC<|.int i):=HI `aw a hm #[_,rfl] (λ_ _=>#[rfl,rfl]) hd
abbrev qk:List (bh×bh)->af->(bz->Prop)->Prop
 |[],_,Q=>Q []
 |(pk,pv)::r,j,Q=>pk j λx=>kG x λy=>pv j λt=>qk r j λm=>Q ((y,t)::m)
abbrev sv(K:aq)(k:Md)(d:List (TE×TE))(g:List (bh×bh)):Prop:=∀(F:Hp)(B:Bool->Hp)(H:Hp)(j:St)(i:af)(Q:List (V×V)->Hp->Prop)(e:bz->Prop),iq K k F B H j i->qk g i e->
 (∀m vs a b cs,e m->↑m=↑g->Gr F H a b->Rk K a B m vs cs->au a b cs->dy H cs->Q (vs.map λf=>(kV f.1,f.2)) b)->uZ d j H Q
def S7:sv K k [] []:=λF B H j i Q a c p q=>q [] [] F H [] p rfl (Gr.aS c.s) #[rfl,rfl] .nil .nil
def Ky(r:R K F B t v c)(h:qq t=À y):v=kV y:=by
 unfold qq at h;split at h<;>cases h
 .show r.1
 .show r.1
def QJ{E G:TE}{f:List (TE×TE)}{C pv:bh}{D:List (bh×bh)}(Y:bF K k E C)(hv:bF K k G pv)(h:sv K k f D):sv K k ((E,G)::f) ((C,pv)::D):=λF B H j i Q Q' c p q=>by
 show Y F B H j i _ _ c p λx v I M c1 p1 d=>?_
 unfold kG at p1;split at p1
 .rename_i y hy;show hv I B M j i _ _ `el p1 λt u J N o p2 b=>?_
  show h J B N j i _ _ ((c.gr d.g).gr b.g) p2 λm vs L O w p3 hl l r3 U A=>?_
  have e:=Ky d.r hy;rw[e];have:=q ((y,t)::m) ((y,u)::vs) L O (o++w) p3 (by rw [Ú,Ú,hl]) ((d.g.trans' b.g).trans' l) #[u,vs,o,w,rfl,rfl,b.r.mo l.le (λk=>Le.refl<|B k) t,r3] ((b.c.gr l).app U λp a q mq z=>by have:=b.c.h p a;rw [z,A q mq] at this;cases this) (λp a=>by
   rcases Æ.mp a with a |a
   .show d.g.h.free (b.n p a)
   .show (d.g.trans' b.g).h.free (A p a))
  show this
 .show p1.elim
end
def S8{a:bL}{y:aW}{v:V}(h:y ∉ a.map (·.1)):fx a y v=a++[(y,v)]:=by
 unfold fx;rw[ao6];rw[ů];rintro⟨p,m,e⟩;show h<|ß.mpr #[p,m,ap1 e]
def E3:∀(b a:bL),((a++b).map (·.1)).Nodup->m7 a b=a++b
 |[],a,_=>by rw[Ą];rfl
 |p::r,a,h=>by
  have e:fx a p.1 p.2=a++[p]:=S8 λm=>by
   rw[Û,Ĵ] at h;show h.2.2 _ m _ (ß.mpr #[p,.head _,rfl]) rfl
  change m7 (fx a p.1 p.2) r=_;rw[e,E3 r (a++[p]) (by rw[ô];show h),ô];rfl
section
def Rk.fst:∀{m:bz}{vs:bL}{c:Cs},Rk K F B m vs c->vs.map (·.1)=m.map (·.1)
 |[],_,_,y=>by let#[h,_]:=y;rw[h];rfl
 |(y,x)::m,_,_,y0=>by let#[v,r,c,d,a,e,f,b]:=y0;rw[a,ë,ë,Rk.fst b]
abbrev xK(a:List (bh×bh)):bh:=λj Q=>qk a j λm=>(m.map (·.1)).Nodup/\Q `eq
def S9(h:sv K k trs ps)(J:↑ps<=15):bF K k (C8 trs) (xK ps):=λF B H j i Q M c p q d l=>by
 have I:Gr F H F (aQ H d<|.dK []):=Gr.il c.s l;show h F B _ j i _ _ (c.gr I) p λm vs v D cs p1 N g C w r=>?_
 have E:D d=À (.dK []):=g.h _ _ cD;have G:m7 [] vs=vs:=E3 vs [] (by rw[ϲ,C.fst];show p1.1);have O:↑vs=↑m:=by have:=ap2 İ C.fst;rw[Å,Å] at this;show this
 show#[E,vs,rfl,⋯,?_];rw[G];have A:v d=È:=by
  cases z:v d with
  |none=>rfl
  |some u=>
   have y:=g.n d u z<|c.s.free l;rw[cD] at y;cases y
 show q `eq (.ref d) v (aQ D d<|.dK vs) ((d,.dK vs)::cs) p1.2 #[Gr.of #[λa o e=>?_,g.f,λa o e=>?_,λa u e z=>?_] g.z,#[d,vs,cs,rfl,rfl,C,p1.1],#[λx b=>?_,λx b=>?_,?_],λx b=>?_]
 .have ne:a≠d:=λz=>by rw[z,l] at e;cases e
  rw[a6 ne];show g.h a o (by rw[a6 ne];show e)
 .have ne:a≠d:=λz=>by rw[z,A] at e;cases e
  rw[a6 ne];show g.s a o e
 .have y:=g.n a u e z;have ne:a≠d:=λz=>by rw[z,A] at e;cases e
  rw[a6 ne] at y;show y
 .cases b with
  |head=>show cD
  |tail _ b=>
   have ne:x.1≠d:=λz=>by have:=r x b;rw[z,cD] at this;cases this
   rw[a6 ne];show w.h x b
 .cases b with
  |head=>show A
  |tail _ b=>show w.f x b
 .rw[ë,ē];show#[λL=>?_,w.nd];let#[x,b,e]:=ß.mp L;have:=r x b;have e:x.1=d:=e;rw[e,cD] at this;cases this
 .cases b with
  |head=>show l
  |tail _ b=>
   have ne:x.1≠d:=λz=>by have:=r x b;rw[z,cD] at this;cases this
   have:=r x b;rw[a6 ne] at this;show this
end
section
structure QP(X:Cx)(k:Md)(pos:Pos)(keys:List (Option ę))(values:bN)(ps:List (bh×bh)):Prop where
 h:∃trs,rp X pos keys values trs/\sv X.K k trs ps
def H9:QP X k pos [] [] []:=#[_,Vs,S7]
def GN(l:QE X k a pa)(m:QE X k b pb)(h:QP X k pos ks vs ps):QP X k pos (À a::ks) (b::vs) ((pa,pb)::ps):=by
 ∎;let#[n,d,e]:=l.h;let#[tb,f,g]:=m.h;let#[o,i,j]:=h.h;∎;show#[_,Sk d f i,QJ e g j]
def Ia(h:QP X k pos keys values ps)(a:do keys.all (·.isSome)=Â)(g:do ↑keys=↑values)(f:keys≠[]:=by intro z;cases z)(b: ~~~(↑keys<=15))(hp: ~~~(↑ps<=15)):QE X k `cU (xK ps):=by
 let#[i,d,e]:=h.h;show#[_,Vt d a g f b,S9 e hp]
def cK(K:aq)(h:QE X k e pe)(a:do X.K=K)(b:do Ė e f X.env `bK=eval e X.env):QE X k `aZ (p1 (iC K f) pe):=by
 subst a;show Ks h b
end
mutual
noncomputable def Cl:Tr->Bool
 |.aL a=>fu a
 |.ag .f a=>fu a
 |.aP .f a=>lY a
 |.ins .f _ a=>ud a
 |.ag _ _=>É
 |.aP _ _=>É
 |.ins _ _ _=>É
 |_=>Â
noncomputable def fu:List Tr->Bool
 |[]=>Â |x::xs=>Cl x&&fu xs
noncomputable def lY:List (aW×Tr)->Bool
 |[]=>Â |(_,x)::xs=>Cl x&&lY xs
noncomputable def ud:List (Str×Tr)->Bool
 |[]=>Â |(_,x)::xs=>Cl x&&ud xs
end
structure K3(t:Tr):Prop where
 l:aK t=t
 f:aB t=t
 d:dn t=t
 o:cI t=Â
 t:bM t=Â
structure LS(t:af):Prop where
 l:c8 t=t
 f:bf t=t
 d:cA t=t
 o:bZ t=Â
 t:bY t=Â
structure LU(t:bz):Prop where
 l:ef t=t
 f:dJ t=t
 d:iH t=t
 o:ja t=Â
 t:gK t=Â
structure LV(t:bx):Prop where
 l:cp t=t
 f:fU t=t
 d:jm t=t
 o:e5 t=Â
 t:fV t=Â
mutual
theorem mB:∀(t:Tr),Cl t=Â->K3 t
 |.int _,_=>#[rfl,rfl,rfl,rfl,rfl]
 |.bl _,_=>#[rfl,rfl,rfl,rfl,rfl]
 |.str _,_=>#[rfl,rfl,rfl,rfl,rfl]
 |.aT,_=>#[rfl,rfl,rfl,rfl,rfl]
 |.ar,_=>#[rfl,rfl,rfl,rfl,rfl]
 |.ty _,_=>#[rfl,rfl,rfl,rfl,rfl]
 |.cl _,_=>#[rfl,rfl,rfl,rfl,rfl]
 |.exc _ _,_=>#[rfl,rfl,rfl,rfl,rfl]
 |.aL xs,h=>have c:=hZ xs h;#[by change Tr.aL (c8 xs)=_;rw[c.l],by change Tr.aL (bf xs)=_;rw[c.f],by change Tr.aL `dG=_;rw[c.d],c.o,c.t]
 |.ag .f xs,h=>have c:=hZ xs h;#[rfl,rfl,by change Tr.ag .f `dG=_;rw[c.d],c.o,c.t]
 |.aP .f xs,h=>have c:=b8 xs h;#[rfl,rfl,by change Tr.aP .f (iH xs)=_;rw[c.d],c.o,c.t]
 |.ins .f a xs,h=>have c:=sG xs h;#[rfl,rfl,by change Tr.ins .f a (jm xs)=_;rw[c.d],c.o,c.t]
theorem hZ:∀(t:List Tr),fu t=Â->LS t
 |[],_=>#[rfl,rfl,rfl,rfl,rfl]
 |x::xs,h=>by
  have h:(Cl x&&fu xs)=Â:=h;rw[í] at h;have a:=mB x h.1;have b:=hZ xs h.2;show#[by change aK x::c8 xs=_;rw[a.l,b.l],by change aB x::bf xs=_;rw[a.f,b.f],by change dn x::cA xs=_;rw[a.d,b.d],by change (cI x&&bZ xs)=_;rw[a.o,b.o];rfl,by change (bM x&&bY xs)=_;rw[a.t,b.t];rfl]
theorem b8:∀(t:List (aW×Tr)),lY t=Â->LU t
 |[],_=>#[rfl,rfl,rfl,rfl,rfl]
 |(k,x)::xs,h=>by
  have h:(Cl x&&lY xs)=Â:=h;rw[í] at h;have a:=mB x h.1;have b:=b8 xs h.2;show#[by change (k,aK x)::ef xs=_;rw[a.l,b.l],by change (k,aB x)::dJ xs=_;rw[a.f,b.f],by change (k,dn x)::iH xs=_;rw[a.d,b.d],by change (cI x&&ja xs)=_;rw[a.o,b.o];rfl,by change (bM x&&gK xs)=_;rw[a.t,b.t];rfl]
theorem sG:∀(t:List (Str×Tr)),ud t=Â->LV t
 |[],_=>#[rfl,rfl,rfl,rfl,rfl]
 |(k,x)::xs,h=>by
  have h:(Cl x&&ud xs)=Â:=h;rw[í] at h;have a:=mB x h.1;have b:=sG xs h.2;show#[by change (k,aK x)::cp xs=_;rw[a.l,b.l],by change (k,aB x)::fU xs=_;rw[a.f,b.f],by change (k,dn x)::jm xs=_;rw[a.d,b.d],by change (cI x&&e5 xs)=_;rw[a.o,b.o];rfl,by change (bM x&&fV xs)=_;rw[a.t,b.t];rfl]
end
class ae(α:Type) where
 t:α->Tr
 c:∀a,Cl (t a)=Â
 h:∀a,t a≠.ar
def nJ[ae j]:∀xs:List j,fu ↥xs=Â
 |[]=>rfl
 |x::xs=>by change (Cl `ct&&fu ↥xs)=Â;rw[ae.c x,nJ xs];rfl
def kg[ae j]:∀xs:List (aW×j),lY (xs.map λp=>(p.1,ae.t p.2))=Â
 |[]=>rfl
 |x::xs=>by change (Cl (ae.t x.2)&&lY (xs.map λp=>(p.1,ae.t p.2)))=Â;rw[ae.c x.2,kg xs];rfl
instance:ae Int:=#[.int,λ_=>rfl,λ_ z=>by cases z]
instance:ae Str:=#[.str,λ_=>rfl,λ_ z=>by cases z]
instance:ae Bool:=#[.bl,λ_=>rfl,λ_ z=>by cases z]
instance:ae Rat:=#[λq=>.aL [.int q.num,.int (q.den:Int)],λ_=>rfl,λ_ z=>by cases z]
instance {j:Type} [ae j]:ae (List j):=#[λxs=>.ag .f ↥xs,λxs=>nJ xs,λ_ z=>by cases z]
instance {j i:Type} [ae j] [ae i]:ae (j ⊕ i):=#[λx=>match x with |.inl a=>ae.t a |.inr b=>ae.t b,λx=>by cases x<;>show ae.c _,λx=>by cases x<;>show ae.h _]
instance {j i:Type} [ae j] [ae i]:ae (j×i):=#[λx=>.aL [ae.t x.1,ae.t x.2],λx=>by change (Cl _&&(Cl _&&Â))=Â;rw[ae.c,ae.c];rfl,λ_ z=>by cases z]
section
variable{α β:Type}[ae α][ae β](a:α)(xs:List α)
@[simp] theorem Uh(n:Int):ae.t n=.int n:=rfl
@[simp] theorem Ui(n:Str):ae.t n=.str n:=rfl
@[simp] theorem Zj(n:Bool):ae.t n=.bl n:=rfl
def IX(q:Rat):ae.t q=.aL [.int q.num,.int (q.den:Int)]:=rfl
def f6:ae.t xs=.ag .f ↥xs:=rfl
def pw:aK `bG=ae.t a:=(mB _<|ae.c a).l
def ia:aB `bG=ae.t a:=(mB _<|ae.c a).f
def kr:dn `bG=ae.t a:=(mB _<|ae.c a).d
def iI:cI `bG=Â:=(mB _<|ae.c a).o
def i2:bM `bG=Â:=(mB _<|ae.c a).t
def IV:c8 ↥xs=↥xs:=(hZ _<|nJ xs).l
def lM:bf ↥xs=↥xs:=(hZ _<|nJ xs).f
def pq:cA ↥xs=↥xs:=(hZ _<|nJ xs).d
def mG:bZ ↥xs=Â:=(hZ _<|nJ xs).o
def iD:bY ↥xs=Â:=(hZ _<|nJ xs).t
end
class inductive Fp:Fl->Prop where
 |f:Fp .f
 |l:Fp (.l É)
instance:Fp .f:=.f
instance:Fp `aM:=.l
section
variable{f:Fl}[h:Fp f]
def Tq:aK `ar=.ag f xs:=by cases h<;>rfl
def QK:aB `ar=.ag f xs:=by cases h<;>rfl
def QM:dn `ar=.ag f `dG:=by cases h<;>rfl
def QN{j:Type}[ae j]{xs:List j}:bM (.ag f ↥xs)=Â:=by cases h<;>first |show iD xs |rfl
def HB:aK `bn=.aP f xs:=by cases h<;>rfl
def FU:aB `bn=.aP f xs:=by cases h<;>rfl
def FV:dn `bn=.aP f (iH xs):=by cases h<;>rfl
def Yq{j:Type}[ae j]{xs:List (aW×j)}:bM (.aP f<|xs.map λp=>(p.1,ae.t p.2))=Â:=by cases h<;>first |show (b8 _<|kg xs).t |rfl
end
section
variable{α:Type}[ae α]{xs:List (aW×α)}
def Ke:iH (xs.map λp=>(p.1,ae.t p.2))=xs.map λp=>(p.1,ae.t p.2):=(b8 _<|kg xs).d
end
def n4:aB `aE=.ag .f (bf xs):=rfl
section
abbrev m9(pa:cj):cj:=λj Q=>pa j λts=>Q<|bf ts
def FW(h:eY K k ta pa):eY K k ta (m9 pa):=λF B H j i Q g c p q=>by
 show h F B H j i _ _ c p λm vs f b l p1 e=>?_
 let#[a,d,r2]:=e.held;show q _ vs a b [] p1 #[d,r2,.nil,.nil]
def QA.aB(h:QA X k es pa):QA X k es (m9 pa):=by
 let#[d,a,b]:=h.h;show#[d,a,FW b]
end
def LY(x:j)(xs:List j):cS (x::xs) 0=À x:=by unfold cS iJ;simp
def LZ(x y:j)(xs:List j):cS (x::y::xs) 1=À y:=by unfold cS iJ;rw[ao7 ⋯,ao7 (by simp only[Ú];omega)];rfl
def at2(x y z:j)(xs:List j):cS (x::y::z::xs) 2=À z:=by unfold cS iJ;rw[ao7 ⋯,ao7 (by simp only[Ú];omega)];rfl
inductive tI(xs:af)(Q:Tr->aA):Prop
 |mk(_:↑xs=2)(a b)(_:xs=[.int a,.int b])(_:0<=a)(_:0<=b)(_:∀j,Q (.int (gd a b)) j):tI xs Q
inductive kY(xs:af)(Q:Tr->aA):Prop
 |mk(_:↑xs=2)(a b)(_:xs=[.int a,.int b])(_:b ≠ 0)(_:bi b<=7990)(_:∀j,Q (ae.t (Í a b)) j):kY xs Q
def AI(f:b≠0)(h:bi b<=k):bi (gd a b)<=k:=by
 show gU ?_;have d:=kd h;have e:(gd a b).natAbs<=b.natAbs:=aa9 ⋯ (ϟ.mpr<|yY a b);omega
def vP(d:b≠0)(h:bi b<=7990):dR x (gd a b):=#[by have:=nI (a:=a) d;omega,kd (Ñ (AI d h) (show 7990<=8000 by omega))]
def FX(d:b≠0)(h:bi b<=7990):dR x (-gd a b):=#[by have:=nI (a:=a) d;omega,by rw[ŭ];show kd (Ñ (AI d h) (show 7990<=8000 by omega))]
inductive jz(f:Rat->Rat->Rat)(xs:af)(Q:Tr->aA):Prop
 |mk(_:↑xs=2)(a b:Rat)(_:xs=[ae.t a,ae.t b])(_:bs a+bs b<=7990)(_:∀j,Q (ae.t (f a b)) j):jz f xs Q
def eC(a:bi x<=n)(b:bi y<=m)(h:n+m<=60000000):l8 x y:=YY ⋯ ⋯
def zm(a b:Rat)(h:bs a+bs b<=7990):bi ((a.den:Int)*b.den)<=7990:=Ñ `aR (by have:=fZ a;have:=fZ b;omega)
def vz[ae j][ae i](a:List j)(ns:List i):(↥a).zipWith (λx y=>Tr.aL [x,y]) ↥ns=(a.zip ns).map λp=>Tr.aL [ae.t p.1,ae.t p.2]:=by
 rw[ac8,ū,Zv]
def Ot[ae j](a:List j):(↥a).mapIdx (λi x=>Tr.aL [.int i,x])=a.zipIdx.map λp=>Tr.aL [.int p.2,ae.t p.1]:=by
 apply ė;intro i;rw[Z1,Ê,Ê,į];cases a[i]?<;>simp
def Ta(a b:Rat):(a.num*(b.den:Int)<b.num*(a.den:Int))↔a<b:=by
 rw[Rat.lt_iff]
inductive gI(xs:af)(Q:Tr->aA):Prop
 |mk(_:↑xs=2)(a b:Rat)(_:xs=[ae.t a,ae.t b])(_:bs a+bs b<=60000000)(_:∀j,Q (.bl (decide (a<b))) j):gI xs Q
def Yr(t:Tr)(a:af)(Q:az):pC t a Q=(Q t):=rfl
def Ys(b:Tr->Tr->(az)->Prop)(a pb:bh)(j:af)(Q:az):p2 b a pb j Q=(a j λx=>pb j λy=>b x y Q):=rfl
def Yt(b:Tr->(az)->Prop)(a:bh)(j:af)(Q:az):Pu.p1 b a j Q=(a j λx=>b x Q):=rfl
def QQ:vk j' Q=(Q []):=rfl
def Ou:xw pe pa j Q=(pe j λx=>pa j λxs=>Q (x::xs)):=rfl
def QR:xS pa j Q=(pa j λxs=>↑xs<=10000/\Q `av):=rfl
def QU:xT pa j Q=(pa j λxs=>↑xs<=10000/\Q `aE):=rfl
def Yu(pe:bh)(j:af)(Q:Bool->Prop):pT pe j Q=(pe j λx=>lU x Q):=rfl
def QV(a pb:eB)(j:af)(Q:Bool->Prop):xU a pb j Q=(a j λc=>if c=Â then pb j Q else Q É):=rfl
def Ts(a pb:eB)(j:af)(Q:Bool->Prop):AS a pb j Q=(a j λc=>if c=Â then Q Â else pb j Q):=rfl
def QX(a:eB)(j:af)(Q:Bool->Prop):xV a j Q=(a j λc=>Q (!c)):=rfl
def Ov:xy pa pb j Q=(pa j λx=>lU x λc=>if c=Â then pb j Q else Q `cS):=rfl
def QY:xW pa pb j Q=(pa j λx=>lU x λc=>if c=Â then Q `cp else pb j Q):=rfl
def Tt:AO pc pa pb j Q=(pc j λc=>if c=Â then pa j Q else pb j Q):=rfl
def QZ:vo p q D j=(p { D with nx:=q D } j):=rfl
def Ow:xA D j=(D.nx j):=rfl
def Q0(i:Nat)(pe:bh)(D:Pd)(j:af):xX i pe D j=(pe `ae λt=>bM t=Â/\D.nx (j.set i t)):=rfl
def Ox:xB pe D j=(pe `ae λ_=>D.nx j):=rfl
def Q1:xY pe D j=(pe `ae λt=>cI t=Â/\D.rt t j):=rfl
def Yv:xZ pc p q D j=(pc `ae λb=>if b=Â then p D j else q D j):=rfl
def Nx(q:Xv->Prop)(a9:iA)(a:cj)(j:af)(Q:az):u0 q a9 a j Q=(a j λb=>a9 (cA b) (λt _=>Q t) q):=rfl
def Oy:xC a9 pa j Q=(pa j λa=>a9 (cA a) λt _=>Q t):=rfl
def Yw(b:af->(az)->Prop)(a:cj)(j:af)(Q:az):pB b a j Q=(a j λd=>b d Q):=rfl
def Ny:CJ D' j'=(False):=rfl
def Oz(i:Nat)(pe:bh)(D:Pd)(j:af):rW i pe D j=(pe `ae λt=>bM t=Â/\D.nx (j.set i<|aB t)):=rfl
def Tu(i:Nat)(t:Tr)(j:af)(Q:aA):tV i t j Q=(Q<|j.set i t):=rfl
def Nz:ou ts j Q=(match ts with |[]=>Q j |_=>False):=rfl
def MP(pg:eV)(a:af->af->(aA)->Prop)(b:af)(j:af)(Q:aA):ow pg a b j Q=(match b with |t::r=>pg t j λd=>a r d Q |[]=>False):=rfl
def Tv(n:Nat)(a:af->af->(aA)->Prop)(t:Tr)(j:af)(Q:aA):n5 n a t j Q=(match t with |.aL b=>↑b=n/\a b j Q |_=>False):=rfl
def Q2:x8 pe pg D j=(pe `ae λt=>bM t=Â/\pg `ba j D.nx):=rfl
def Q3(i j:Nat)(d:cj)(D:Pd)(G:af):x9 i j d D G=(d `eo λe=>match e with |[a,b]=>bM a=Â/\bM b=Â/\D.nx ((G.set i<|aB a).set j<|aB b) |_=>False):=rfl
def Tw(pe:bh)(j:af)(Q:af->Bool->Prop):AZ pe j Q=(pe j λt=>iB `ba λxs=>Q xs<|bM<|aB t):=rfl
def Tz(a:cj)(j:af)(Q:af->Bool->Prop):AY a j Q=(a j λb=>oD b λt=>iB `ba λxs=>Q (xs.mapIdx λi x=>.aL [.int i,x])<|bM<|aB t):=rfl
def TB(a:cj)(j:af)(Q:af->Bool->Prop):A1 a j Q=(a j λb=>nh b λt u=>iB `ba λxs=>iB (aB u) λys=>Q (xs.zipWith (λx y=>.aL [x,y]) ys)<|bM (aB t)&&bM (aB u)):=rfl
def Q4(a:cj)(G:af)(Q:af->Bool->Prop):yb a G Q=(a G λb=>u9 b λj=>-1000000<=j/\j<=1000000/\Q ((Ç j.toNat).map λ(i:Nat)=>.int i) Â):=rfl
def Q5(a:cj)(G:af)(Q:af->Bool->Prop):yc a G Q=(a G λb=>u6 b λi j=>(-1000000<=i/\i<=1000000/\-1000000<=j/\j<=1000000)/\Q ((Ç (j - i).toNat).map λ(n:Nat)=>.int<|i+n) Â):=rfl
def Q6(K:aq)(i:Nat)(r:ah)(pe:bh)(D:Pd)(j:af):yd K i r pe D j=(iL K j i r λu s=>m8 u λxs=>pe `ae λt=>bM t=Â/\↑xs<1000000/\D.nx (s<|.ag .o<|xs++[aB t])):=rfl
def OA(K:aq)(i:Nat)(r:ah)(b pe:bh)(D:Pd)(j:af):xD K i r b pe D j=(pe `ae λt=>bM t=Â/\iL K j i r λu s=>m8 u λxs=>b `ae λy=>rY xs y `ba λa=>D.nx<|s<|.ag .o a):=rfl
def Qc(K:aq)(i:Nat)(r:ah)(a pe:bh)(D:Pd)(j:af):ye K i r a pe D j=(pe `ae λt=>bM t=Â/\iL K j i r λu s=>rZ u λm=>a `ae λy=>kG y λy=>↑m<1000000/\D.nx (s<|.aP .o<|jL m y<|aB t)):=rfl
def NY:xH j' Q=(Q<|.aP .o []):=rfl
def NZ(K:aq)(i:Nat)(r:ah)(f:Str)(pe:bh)(D:Pd)(j:af):xI K i r f pe D j=(pe `ae λt=>bM t=Â/\iL K j i r λu s=>oA K f u λc fs=>D.nx<|s<|.ins .o c<|iT f t fs):=rfl
def TC(a:af)(Q:bK->Prop):A5 a Q=(Q È):=rfl
def TF(pe:bh)(j:af)(Q:bK->Prop):A6 pe j Q=(pe j λx=>match x with |.int i=>Q (À i) |_=>False):=rfl
def TH:AU pe pl ph j Q=(pe j λx=>pl j λl=>ph j λh=>wZ x l h Q):=rfl
def NA(q:Xv->Prop)(C:ai)(pe:bh)(a:Pd)(j:af):xn q C pe a j=(pe `ae λ_=>q<|.ref C):=rfl
def Qd(K:aq)(C:ai)(a:bh->cB)(pe:(Xv->Prop)->bh)(b:cB)(D:Pd)(j:af):yg K C a pe b D j=(a (pe λx=>D4 K C x.c/\b D j) D j):=rfl
def N0(a:List (bh×bh))(j:af)(Q:az):xK a j Q=(qk a j λm=>(m.map (·.1)).Nodup/\Q `eq):=rfl
def N1:m9 pa j Q=(pa j λts=>Q<|bf ts):=rfl
def EH(n:Int):aK `aQ=`aQ:=rfl
def Qe:aK `cE=`cE:=rfl
def N2:aK `br=`br:=rfl
def N3:aK .aT=.aT:=rfl
def NB:aK .ar=.ar:=rfl
def E4(n:Int):Pu.aB `aQ=`aQ:=rfl
def Qf:Pu.aB `cE=`cE:=rfl
def N4:Pu.aB `br=`br:=rfl
def N5:Pu.aB .aT=.aT:=rfl
def E5(n:Int):dn `aQ=`aQ:=rfl
def N6:dn `br=`br:=rfl
def N7:dn .aT=.aT:=rfl
def E6(n:Int):cI `aQ=Â:=rfl
def Qg:cI `cE=Â:=rfl
def N8:cI `br=Â:=rfl
def N9:cI .aT=Â:=rfl
def E7(n:Int):bM `aQ=Â:=rfl
def Qh:bM `cE=Â:=rfl
def Oa:bM `br=Â:=rfl
def Ob:bM .aT=Â:=rfl
def Oc:aK `av=.aL (c8 xs):=rfl
def Od:Pu.aB `av=.aL (bf xs):=rfl
def Oe:dn `av=.aL `dG:=rfl
def Of:cI `av=bZ xs:=rfl
def Og:bM `av=bY xs:=rfl
def Oh:aK `aE=.ag `bO (c8 xs):=rfl
def Oi:Pu.aB `aE=.ag .f (bf xs):=rfl
def Oj:dn (.ag `bO xs)=.ag `aM `dG:=rfl
def Qi:Pu.aB (.ag (.l b) xs)=.ag (.l b) xs:=rfl
def Ol:cI `aE=bZ xs:=rfl
def Om:bM `aE=bY xs:=rfl
def TJ:cI (.ag .f xs)=bZ xs:=rfl
def Oo(xs:bz):aK `bQ=.aP `bO (ef xs):=rfl
def Oq(xs:bz):Pu.aB `bQ=.aP .f (dJ xs):=rfl
def OF(xs:bz):cI `bQ=ja xs:=rfl
def OG(xs:bz):bM `bQ=gK xs:=rfl
abbrev Loop(a:af)(pg:eV)(pb:cB)(D:Pd)(j:af):Prop:=∃I:Nat->aA,I 0 j/\(∀i t j,a[i]?=À t->I i j->pg t j λb=>pb { D with nx:=I<|i+1,ct:=I<|i+1,bk:=D.nx } b)/\∀j,I ↑a j->D.nx j
def Qj:ya pi pg pb D j=(pi `ae λb a=>a=Â/\Loop b pg pb D j):=rfl
def Loop.map(ys:List O)(g:O->Tr){pg:eV}(J:Nat->aA)(d:J 0 G)(step:∀i y G,ys[i]?=À y->J i G->pg (g y) G λb=>pb { D with nx:=J<|i+1,ct:=J<|i+1,bk:=D.nx } b)(a:∀G,J ↑ys G->D.nx G):Loop `cc pg pb D G:=by
 show#[J,d,λi t G h j=>?_,λG h=>a G (by rw[Å] at h;show h)];rw[Ê] at h;cases e:ys[i]? with
 |none=>rw[e] at h;cases h
 |some y=>rw[e] at h;cases h;show step i y G e j
abbrev pV(o:Option Tr)(Q:az):Prop:=match o with |some .ar=>False |some t=>Q t |none=>False
def Qk(i:Nat)(j:af)(Q:az):vj i j Q=pV j[i]? Q:=rfl
def TK[ae j](a:j)(Q:az):pV (À<|ae.t a) Q=Q `bG:=by
 have h:=ae.h a;generalize ae.t a=t at h;cases t with
 |ar=>show ao8 rfl h
 |_=>rfl
def TL:pV (À<|.int n) Q=Q `aQ:=rfl
def Yx:pV (À<|.bl n) Q=Q `cE:=rfl
def TM:pV (À<|.str n) Q=Q `br:=rfl
def TN:pV (À .aT) Q=Q .aT:=rfl
def TQ:pV (À<|.aL xs) Q=Q `av:=rfl
def TR:pV (À<|.ag f xs) Q=Q `ar:=rfl
def TU(f:Fl)(xs:bz)(Q:az):pV (À<|.aP f xs) Q=Q `bn:=rfl
def TV(f:Fl)(c:ai)(xs:bx)(Q:az):pV (À<|.ins f c xs) Q=Q (.ins f c xs):=rfl
def NC(q:Rat)(Q:az):gA `ee (.int 0) Q=Q (.int q.num):=rfl
def ND(q:Rat)(Q:az):gA `ee `db Q=Q (.int (q.den:Int)):=rfl
def Ql:Tr.aL [.int 0,.int 1]=ae.t (0:Rat):=rfl
def TX:Tr.aL [.int 1,.int 1]=ae.t (1:Rat):=rfl
abbrev bc(e:af)(pg:eV)(pt:eB)(pe:bh)(f:af)(Q:az):Prop:=∃I:Nat->aA,I 0 []/\
 (∀i t a,e[i]?=À t->I i a->pg t f λd=>pt d λb=>if b=Â then pe d λx=>↑a<1000000/\I (i+1) (a++[x]) else I (i+1) a)/\∀a,I ↑e a->↑a<=1000000/\Q `en
def OH(a:jf)(pg:eV)(pt:eB)(pe:bh)(ix:bJ)(j:af)(Q:az):vb a pg pt pe ix j Q=(a j λb _=>bc b pg pt pe (oz ix j) Q):=rfl
def bc.mL(ys:List j)(g:j->Tr)(h:j->Tr){pg:eV}{pe:bh}{Q:az}(d:↑ys<=1000000)(step:∀y∈ys,∀R:az,R (h y)->pg (g y) j' λf=>pe f R)(q:Q (.ag .o<|ys.map h)):bc `cc pg su pe j' Q:=by
 show#[λi b=>b=(ys.take i).map h,rfl,λi t b e a=>?_,λb a=>?_]
 .rw[Ê] at e;cases e':ys[i]? with
  |none=>rw[e'] at e;cases e
  |some y=>
   rw[e'] at e;cases e;have l:=(Á.mp e').1;show step y (Î e') _ #[?_,?_]
   .rw[a,Å,û];omega
   .show b++[h y]=(ys.take<|i+1).map h;rw[a,đ,e',Û];rfl
 .rw[Å,Ĕ] at a;rw[a,Å];show#[d,q]
def bc.map[ae j](ys:List i)(g:i->Tr)(h:i->j){pg:eV}{pe:bh}{Q:az}(a:↑ys<=1000000)(step:∀y∈ys,∀R:az,R (ae.t<|h y)->pg (g y) j' λb=>pe b R)(q:Q (.ag .o<|(ys.map h).map ae.t)):bc `cc pg su pe j' Q:=
 bc.mL ys g (λy=>ae.t<|h y) a step (by rw[þ] at q;show q)
abbrev bV{j:Type}[ae j](f:Fl)(m:List (Str×j)):Tr:=.aP f<|m.map λp=>(ñ p.1,ae.t p.2)
def z7[ae j](m:List (Str×j)):(m.map λp=>((ñ p.1:aW),ae.t p.2))=(m.map λp=>((ñ p.1:aW),p.2)).map λp=>(p.1,ae.t p.2):=by rw[þ];rfl
def Hk[ae j](m:List (Str×j)):Cl (bV .f m)=Â:=by
 change lY (m.map λp=>((ñ p.1:aW),ae.t p.2))=Â;rw[z7];show kg _
def z8[ae j](m:List (Str×j))(x:Str):look (m.map λp=>((ñ p.1:aW),ae.t p.2)) (ñ x)=(bU m x).map ae.t:=by
 unfold look bU
 induction m with
 |nil=>rfl
 |cons p m a=>
  rw[ë,Ł,Ł];by_cases h:p.1=x
  .rw[ao9 (by rw[h]),ao9 h];rfl
  .rw[ap0<|λz=>h<|Θ z,ap0 h];show a
def TY[ae j](f:Fl)(m:List (Str×j))(x:Str)(d:j)(Q:az):va `bH `bS (ae.t d) Q=Q (ae.t<|(bU m x).getD d):=by
 change Q ((look (m.map λp=>((ñ p.1:aW),ae.t p.2))<|ñ x).getD<|ae.t d)=_;rw[z8];cases bU m x<;>rfl
abbrev Dn(x:Tr):Prop:=match x with |.aP _ _=>True |_=>False
def Yy(d:Tr->Tr->Tr->(az)->Prop)(a pb b:bh)(j:af)(Q:az):p3 d a pb b j Q=(a j λx=>Dn x/\pb j λy=>b j λz=>d x y z Q):=rfl
def TZ[ae j](f:Fl)(m:List (Str×j)):Dn `bH=True:=rfl
abbrev oQ(o:Option Tr)(Q:az):Prop:=match o with |some t=>Q t |none=>False
def Qm(t:Tr)(Q:az):oQ (À t) Q=Q t:=rfl
section
def Qn:gA `av `aw Q=oQ (cS xs i) Q:=rfl
def gQ:gA `ar `aw Q=oQ (cS xs i) Q:=rfl
def Qo(C:Int->Int->Prop)(t:Int->Int->Tr):jJ C t `aw `bq Q=(C i j/\Q (t i j)):=rfl
def Qp:vl `aw `bq Q=Q (.int<|i+j):=rfl
def vZ:vl `ar (.ag g ys) Q=(↑xs+↑ys<=1000000/\Q (.ag .o<|xs++ys)):=rfl
def T1:vm `aw `bq Q=(l8 i j/\Q (.int<|i*j)):=rfl
def w_lt:Bp `aw `bq Q=Q (.bl<|decide<|i<j):=rfl
def Yz:Bo `aw `bq Q=Q (.bl<|decide<|j<i):=rfl
def T2:vn `aw Q=Q (.int (-i)):=rfl
def Uz:x6 [.int i] Q=Q (.int (if i<0 then -i else i)):=rfl
def IW(R:Bool->Prop):lU `cV R=R b:=rfl
def UA:lV É `aw `bq Q=Q (.bl<|decide<|i=j):=rfl
def UB:lV É `bS (.str y) Q=Q (.bl<|decide<|x=y):=rfl
def UC:lV Â `aw `bq Q=Q (.bl (!decide (i=j))):=rfl
def UD:lV Â `bS (.str y) Q=Q (.bl (!decide (x=y))):=rfl
def Qq(k:Bool):sk k [.ag f xs] Q=Q (.int ↑xs):=rfl
def Qr:rR [.ag f xs] Q=Q `aE:=rfl
def lN(R:aA):iB `ar R=R xs:=rfl
def UE(t:Tr):oD [t] Q=Q t:=rfl
def UG(t u:Tr)(R:Tr->az):nh [t,u] R=R t u:=rfl
def Qs(R:Int->Prop):u9 [.int i] R=R i:=rfl
def Qt(R:Int->Int->Prop):u6 [.int i,.int j] R=R i j:=rfl
end
def UH(x y:Int ⊕ Str)(Q:az):lV É `ct (ae.t y) Q=Q (.bl<|decide<|x=y):=by
 cases x with
 |inl a=>cases y with
  |inl b=>change Q (.bl<|decide<|a=b)=_;rw[decide_eq_decide.mpr (show a=b↔(ï a:Int ⊕ Str)=.inl b from #[λh=>by rw[h],λh=>Η h])]
  |inr b=>
   show propext #[λh=>?_,λh=>.inl #[rfl,h]];rcases h with h |⟨_,h,_⟩
   .show h.2
   .cases h
 |inr a=>cases y with
  |inl b=>
   show propext #[λh=>?_,λh=>.inl #[rfl,h]];rcases h with h |⟨_,h,_⟩
   .show h.2
   .cases h
  |inr b=>change Q (.bl<|decide<|a=b)=_;rw[decide_eq_decide.mpr (show a=b↔(ñ a:Int ⊕ Str)=.inr b from #[λh=>by rw[h],λh=>Θ h])]
nonrec abbrev bR:=List (Str×Rat)×Str×Rat×Int×Int
nonrec abbrev av:=List bR
noncomputable instance (priority:=high) rowEnc:ae bR:=#[λr=>.aL [bV .f r.1,.str r.2.1,ae.t r.2.2.1,.int r.2.2.2.1,.int r.2.2.2.2],λr=>by change (Cl (bV .f r.1)&&_)=Â;rw[Hk];rfl,λ_ z=>by cases z]
def UI(r:bR)(Q:az):gA `bW (.int 0) Q=Q (bV .f r.1):=rfl
def UJ(r:bR)(Q:az):gA `bW `db Q=Q (.str r.2.1):=rfl
def UK(r:bR)(Q:az):gA `bW (.int 2) Q=Q (ae.t r.2.2.1):=rfl
def UL(r:bR)(Q:az):gA `bW (.int 3) Q=Q (.int r.2.2.2.1):=rfl
def UM(r:bR)(Q:az):gA `bW (.int 4) Q=Q (.int r.2.2.2.2):=rfl
def Qu[ae j][ae i](r:j×i)(Q:az):gA `bW (.int 0) Q=Q (ae.t r.1):=rfl
def Qv[ae j][ae i](r:j×i)(Q:az):gA `bW `db Q=Q (ae.t r.2):=rfl
section
abbrev uc(o:Option Tr)(R:az):Prop:=match o with |some .ar=>False |some t=>R t |none=>False
def UN(j:af)(i:Nat)(Q:Tr->(Tr->af)->Prop):iL K j i [] Q=uc j[i]? λt=>Q t λu=>j.set i u:=by
 unfold iL uc;cases j[i]? with
 |none=>rfl
 |some t=>cases t <;> first |rfl |show propext #[λh=>h.2,λh=>#[trivial,h]]
def Qw(f:Fl)(xs:af)(R:az):uc (À<|.ag f xs) R=R `ar:=rfl
def Qx(f:Fl)(xs:bz)(R:az):uc (À<|.aP f xs) R=R `bn:=rfl
def Qy:m8 `aE Q=Q xs:=rfl
def Qz(xs:bz)(Q:bz->Prop):rZ `bQ Q=Q xs:=rfl
end
section
variable{α:Type}[ae α]
def ED(xs:List α)(a:α):↥xs++[ae.t a]=(xs++[a]).map ae.t:=by rw[Û];rfl
def NF(xs:aF)(a:Int):↥xs++[Tr.int a]=(xs++[a]).map ae.t:=ED xs a
def gO(xs:List α)(i:Int):cS ↥xs i=(cS xs i).map ae.t:=by
 unfold cS;rw[Å];cases iJ ↑xs i with
 |none=>rfl
 |some n=>show Ê ..
def wq(xs:List j)(a:0<=i)(h:i.toNat<↑xs):cS xs i=À (xs[i.toNat]'h):=by
 unfold cS iJ;rw[ao7 a,ao7 ⋯];show Ì h
def dE[ae j](o:Option j)(Q:az)(x:j)(h:o=À x)(q:Q `ct):oQ ↥o Q:=by rw[h];show q
def OI(xs:List α)(l h:bK):adc ↥xs l h=(adc xs l h).map ae.t:=by
 unfold adc;rw[Å,ag2,List.map_drop]
def wt(f:Fl)(xs:af)(l h:bK)(Q:az):wZ `ar l h Q=Q (.ag .o<|adc xs l h):=rfl
end
def JI{p:cB}(J:aA)(a:∀N:aA,(∀j,J j->N j)->p { D with nx:=N } j)(b:∀j,J j->D.nx j):p D j:=a D.nx b
section
def bj.ar{i:Nat}(W:bj K k lo us Fb Hb F H G J cs):bj K k lo us Fb Hb F H G (J.set i .ar) (λj=>if j=i then [] else cs j) where
 g:=W.g
 z:=W.z
 l:=by rw[ď];show W.l
 e:=λj u h=>by
  by_cases e:j=i
  .subst e;have r:j<↑J:=by have:=(Á.mp h).1;rw[ď] at this;show this
   rw[Ĉ r] at h;cases h;show .inl rfl
  .rw[ć<|λz=>e z.symm] at h;rw[ao6 e];show W.e j u h
 c:=λj=>by
  split
  .show .nil
  .show W.c j
 n:=λj=>by
  split
  .show .nil
  .show W.n j
 d:=λa b ne p f q m=>by
  by_cases o:a=i
  .rw[ao7 o] at f;cases f
  .rw[ao6 o] at f;by_cases eb:b=i
   .rw[ao7 eb] at m;cases m
   .rw[ao6 eb] at m;show W.d a b ne p f q m
 p:=W.p
 x:=W.x
def bj.fz{i:Nat}(W:bj K k lo us Fb Hb F H G J cs)(ht:J[i]?=À t)(hn:t≠.ar):∃m,bj K k lo us Fb Hb m H G (J.set i<|Pu.aB t) (λj=>if j=i then [] else cs j):=by
 rcases W.e i t ht with rfl |⟨v,w,r⟩
 .show ao8 rfl hn
 let#[o,a,s,e]:=(W.ar (i:=i)).lay (W.c i) (W.n i) (r.plain t) (λj p f q A=>by
  by_cases b:j=i
  .rw[ao7 b] at f;cases f
  .rw[ao6 b] at f;show W.d j i b p f q A)
 show#[o,#[a.g,a.z,by rw[ď];show W.l,λj u h=>?_,a.c,a.n,a.d,a.p,a.x]];by_cases b:j=i
 .subst b;have y:j<↑J:=by have:=(Á.mp h).1;rw[ď] at this;show this
  rw[Ĉ y] at h;cases h;show .inr #[v,w,by rw[ao7 rfl];show r.aB (Le.of s) t e]
 .show a.e j u (by rw[ć<|λz=>b z.symm] at h ⊢;show h)
abbrev wQ(i:Nat)(p:cB):cB:=λD j=>pV j[i]? λt=>p D<|j.set i<|Pu.aB t
def XM(h:c6 K k lo ts p):c6 K k lo ts (wQ i p):=λus d f F H j G cs D a W q L=>by
 unfold wQ pV at q;split at q
 .show q.elim
 .rename_i t hn e;let#[b,g]:=W.fz e (λz=>hn<|by rw[z]);show h us d f b H j _ _ D a g q L
 .show q.elim
def Bh(i:Nat)(h:QB X k lo sts p):QB X k lo sts (wQ i p):=by
 let#[d,a,b]:=h.h;show#[d,a,XM b]
def UO(i:Nat)(p:cB)(D:Pd)(j:af):wQ i p D j=(pV j[i]? λt=>p D<|j.set i<|Pu.aB t):=rfl
end
abbrev je(w:Wm)(m:bz)(pg:eV)(pb:cB)(D:Pd)(j:af):Prop:=∃I:Nat->aA,I 0 j/\(∀i p j,m[i]?=À p->I i j->pg (wit w p) j λa=>pb { D with nx:=I<|i+1,ct:=I<|i+1,bk:=D.nx } a)/\∀j,I ↑m j->D.nx j
def OJ(w:Wm)(pe:bh)(pg:eV)(pb:cB)(D:Pd)(j:af):xJ w pe pg pb D j=(pe `ae λt=>bM t=Â/\rQ (Pu.aB t) λm=>je w m pg pb D j):=rfl
def je.map[ae O](m:List (Str×O)){pg:eV}(J:Nat->aA)(d:J 0 G)(step:∀i x y G,m[i]?=À (x,y)->J i G->pg (wit w (ñ x,ae.t y)) G λb=>pb { D with nx:=J<|i+1,ct:=J<|i+1,bk:=D.nx } b)(a:∀G,J ↑m G->D.nx G):je w (m.map λp=>((ñ p.1:aW),ae.t p.2)) pg pb D G:=by
 show#[J,d,λi t G h j=>?_,λG h=>a G (by rw[Å] at h;show h)];rw[Ê] at h;cases e:m[i]? with
 |none=>rw[e] at h;cases h
 |some y=>rw[e] at h;cases h;show step i y.1 y.2 G e j
def XN(x:Str)(t:Tr):wit .it (ñ x,t)=.aL [.str x,t]:=rfl
section
variable{α:Type}[ae α](m:List (Str×α)){f:Fl}
def QC(Q:bz->Prop):rQ (bV .f m) Q=Q (m.map λp=>((ñ p.1:aW),ae.t p.2)):=rfl
def Tj[h:Fp f]:aK `bH=bV f m:=HB
def Ti[h:Fp f]:Pu.aB `bH=bV f m:=FU
def Th[h:Fp f]:dn `bH=bV f m:=by
 unfold bV;rw[FV,z7,Ke]
def To[h:Fp f]:bM `bH=Â:=by
 unfold bV;rw[z7];show Yq
def Tn:cI (bV .f m)=Â:=(mB _<|Hk m).o
def QD:pV (À<|bV f m) Q=Q `bH:=rfl
def UP(x:Str)(Q:az):gA `bH `bS Q=oQ ((bU m x).map ae.t) Q:=by
 change (match look (m.map λp=>((ñ p.1:aW),ae.t p.2)) (ñ x) with |some t=>Q t |none=>False)=_;rw[z8];cases bU m x<;>rfl
end
def bc.filter[ae j](ys:List G)(g:G->Tr)(p:G->Bool)(h:G->j){pg:eV}{pt:eB}{Q:az}(r:↑ys<=1000000)(step:∀y∈ys,∀(A:Prop)(R:az),(p y=Â->R (ae.t<|h y))->(p y=É->A)->pg (g y) j' λm=>pt m λb=>if b=Â then pe m R else A)(q:Q (.ag .o<|((ys.filter p).map h).map ae.t)):bc `cc pg pt pe j' Q:=by
 show#[λi d=>d=(((ys.take i).filter p).map h).map ae.t,rfl,λi t d e a=>?_,λd a=>?_]
 .rw[Ê] at e;cases e':ys[i]? with
  |none=>rw[e'] at e;cases e
  |some y=>
   rw[e'] at e;cases e;have l:=(Á.mp e').1;have n:ys.take (i+1)=ys.take i++[y]:=by rw[đ,e'];rfl
   show step y (Î e') _ _ (λf=>#[?_,?_])<|λf=>?_
   .rw[a,Å,Å];have:=Ĺ p<|ys.take i;rw[û] at this;omega
   .show d++[ae.t<|h y]=(((ys.take<|i+1).filter p).map h).map ae.t;rw[n,Ÿ,a,ah1 f,Û,Û];rfl
   .show d=(((ys.take<|i+1).filter p).map h).map ae.t;rw[n,Ÿ,a,ah0 (by rw[f];decide),List.filter_nil,Ą]
 .rw[Å,Ĕ] at a;rw[a,Å,Å];show#[Ñ (Ĺ p ys) r,q]
section
variable{α:Type}[ae α](m:List (Str×α))(f:Fl)
def Kz(x:Str):((m.map λp=>((ñ p.1:aW),ae.t p.2)).any λb=>decide<|b.1=ñ x)=m.any λp=>decide (p.1=x):=by
 induction m with
 |nil=>rfl
 |cons p m a=>
  rw[ë,ϣ,ϣ,a,decide_eq_decide.mpr (show (ñ p.1:aW)=ñ x↔p.1=x from #[λh=>Θ h,λh=>by rw[h]])]
def UQ(x:Str)(a:α):jL (m.map λp=>((ñ p.1:aW),ae.t p.2)) (ñ x) `bG=(pK m x a).map λp=>((ñ p.1:aW),ae.t p.2):=by
 unfold jL pK;rw[Kz];split
 .rw[þ,þ];show č λp _=>?_
  change (if (ñ p.1:aW)=ñ x then _ else _)=_;by_cases h:p.1=x
  .rw[ao7<|by rw[h]];change _=((ñ (if p.1=x then (p.1,a) else p).1:aW),ae.t (if p.1=x then (p.1,a) else p).2);rw[ao7 h]
  .rw[ao6<|λz=>h<|Θ z];change _=((ñ (if p.1=x then (p.1,a) else p).1:aW),ae.t (if p.1=x then (p.1,a) else p).2);rw[ao6 h]
 .rw[Û];rfl
def Rh(x:Str)(Q:aW->Prop):kG `bS Q=Q (ñ x):=rfl
def Ri(x:Int)(Q:aW->Prop):kG (.int x) Q=Q (ï x):=rfl
end
abbrev Bk(t t':Tr):Bool:=dh t t' == À Â
abbrev D6:bz->bz->Bool
 |[],[]=>Â
 |x::xs,y::ys=>decide (x.1=y.1)&&(Bk x.2 y.2&&D6 xs ys)
 |_,_=>É
abbrev D7:bz->Nat
 |[]=>0
 |x::xs=>max (dep x.2)<|D7 xs
mutual
noncomputable def Tp:Tr->Tr->Bool
 |.int a,.int b=>decide<|a=b
 |.str a,.str b=>decide<|a=b
 |.bl a,.bl b=>decide<|a=b
 |.aT,.aT=>Â
 |.aL xs,.aL ys=>pM xs ys
 |.ag _ xs,.ag _ ys=>pM xs ys
 |.aP _ xs,.aP _ ys=>D6 xs ys
 |_,_=>É
noncomputable def pM:List Tr->List Tr->Bool
 |[],[]=>Â
 |x::xs,y::ys=>Tp x y&&pM xs ys
 |_,_=>É
end
mutual
noncomputable def LW:Tr->Nat
 |.aL a=>kM a + 1
 |.ag _ a=>kM a + 1
 |.aP _ a=>D7 a + 1
 |_=>0
noncomputable def kM:List Tr->Nat
 |[]=>0
 |x::xs=>max (LW x)<|kM xs
end
section
def XP{x y:Tr}{xs ys:af}(e:cg (x::xs) (y::ys)=À Â):dh x y=À Â/\cg xs ys=À Â:=by
 have e:((dh x y).bind λa=>(cg xs ys).bind λb=>À<|a&&b)=À Â:=e;cases h1:dh x y with
 |none=>rw[h1] at e;show mO e
 |some a=>
  cases h2:cg xs ys with
  |none=>rw[h1,h2] at e;show mO e
  |some b=>
   rw[h1,h2] at e;have:=Ù e;rw[í] at this;rw[this.1,this.2];show#[rfl,rfl]
mutual
theorem IA(n:aE F H)(sb:∀k,aE (B k) H):∀(t t':Tr)(v i:V)(c g:Cs),dh t t'=À Â->R K F B t v c->R K F B t' i g->au F H c->au F H g->lx K H (dep t) v i
 |.aL o=>λt' v i c g e r b A j=>by
  ∎;let#[p,rfl,_,m]:=vN e;let#[a,vs,rfl,x,y]:=r.eA n;let#[l,d,rfl,u,w]:=b.eA n;∎;show .inr #[a,l,vs,d,rfl,rfl,.inl #[x,u],gE n sb o p vs d c g (d8 o) m y w A j<|Ï _]
 |.ag f o=>λt' v i c g e r b A j=>by
  ∎;let#[I,p,rfl,m]:=vO e;let#[a,vs,D,rfl,x,y,G,_]:=r.cZ n sb A;let#[l,d,q,rfl,u,w,E,_]:=b.cZ n sb j;∎;by_cases C:↑o=↑p
  .rw[ao7 C] at m;show .inr #[a,l,vs,d,rfl,rfl,.inr #[x,u],gE n sb o p vs d D q (d8 o) m y w G E<|Ï _]
  .rw[ao6 C] at m;cases m
 |.int a=>λt' v i c g e r b _ _=>by
  let#[l,rfl,h]:=zh e;have:=ap1 h.symm;subst this;rw[r.1,b.1];show#[rfl,rfl]
 |.str a=>λt' v i c g e r b _ _=>by
  let#[l,rfl,h]:=zi e;have:=ap1 h.symm;subst this;rw[r.1,b.1];show#[rfl,rfl]
 |.bl a=>λt' v i c g e r b _ _=>by
  let#[l,rfl,h]:=z4 e;have:=ap1 h.symm;subst this;rw[r.1,b.1];show#[rfl,rfl]
 |.aT=>λt' v i c g e r b _ _=>by
  let#[rfl,_]:=zj e;rw[r.1,b.1];show#[rfl,rfl]
 |.ar |.ty _ |.cl _ |.exc _ _ |.aP _ _ |.ins _ _ _=>λt' v i c g e _ _ _ _=>(zk e ý).elim
theorem gE(j:aE F H)(sb:∀k,aE (B k) H):∀(i a:List Tr)(vs b:List V)(c f:Cs)(n:Nat),cg i a=À Â->Rs K F B i vs c->Rs K F B a b f->au F H c->au F H f->d8 i<=n->ft (lx K H n) vs b
 |[]=>λa vs b c f n e r h _ _ _=>by
  cases a with
  |nil=>rw[r.1,h.1];show ý
  |cons _ _=>cases e
 |x::xs=>λa vs b c f n e r h g d hn=>by
  cases a with
  |nil=>cases e
  |cons y O=>
   ∎;let#[v,q,l,o,G,I,J,L]:=r;let#[N,M,m,p,A,C,D,E]:=h;∎;rw[I] at g;rw[C] at d;rw[G,A];let#[u,w]:=XP e;unfold d8 at hn;show#[RM (IA j sb x y v N l m u J D g.left d.left) ⋯,gE j sb xs O q M o p n w L E g.right d.right ⋯]
end
end
def XQ(q:Rat):Bk `ee `ee=Â:=by change (À (decide _&&(decide _&&Â)) == À Â)=Â;rw[ao9 rfl,ao9 rfl];rfl
abbrev i8(b a:Str):Bool:=!(Builtin.Str.occurrences b a 0 ↑b 1).isEmpty
end Pu
namespace L2
open PySem PySem.Spec PyProof.Rows
nonrec abbrev rl(X:Cx)(o:ę)(m:Str)(b:bN)(a pos:Pos)(pl:Sem Bool):Prop:=eval (.Call (.Attribute o m a) b [] pos) X.env=(do
   let ov <- eval o X.env
   Z5 a.atName
   let (f,first) <- holding [ov] (getMethod ov m pl)
   ak1 pos f first (ű pos<|Ă b X.env) (Α pos<|ŗ [] X.env))
abbrev sx(D:ai->Nat->Prop)(m:Str)(sp:Nat->Sp)(R:St->XK)(f:TE)(t:TA):TE:=λj H Q=>f j H λx b=>∃a C e fs g,x=.ref a/\Rd b a (.ins C e fs)/\D C g/\fs.lookup m=È/\t j b λvs d=>sp g (x::vs) d Q<|R j
section
def IB(he:PE X o ta)(B:∀C g,D C g->fQ X.prog X.w X.K X.mg X.base CX k m C ps (sp g))(J:bA k X.A)(L:∀j,j9 CX X j<|R j)(E:PA X (e::es) t)(n:do d0 e es X.env)(hpl:do fS pos es X.env)(ht:do rl X o m (e::es) apos pos pl):
  PE X (.Call `aN (e::es) [] pos) (sx D m sp R ta t):=by
 intro aa s j H Q I h;show af3 (pl:=pl) (bq `au λu s1 b=>?_) ht;let#[x,v,i,Y,a,C,dx,fs,g,ex,y,d,l,q]:=b;subst ex;obtain rfl:u=å a:=Y;∎;let#[c,f,fd,hm,F,G]:=B C g d;let#[M,O,r]:=zZ i.aR y;∎;have hn:M m=È:=b7.none_of (by rw[<- l];show r m);show Ff i.eO O (c.get m) hm.at_ hm.fn hn ?_;show ZX (first:=[.ref a]) (h₀:=X.base) I.ok.mod.mJ hm.kp (bq (E pos aa s1 j v _ i q) λus s2 b=>?_) n hpl;let#[vs,H2,p,U,N]:=b;show#[p.eO,?_];show zd (us:=.ref a::us) (vs:=.ref a::vs) F J G .nil (L j) p (.cons rfl U) (by rw[Ą];show N)
def WE(he:PE X o ta)(n:∀C g,D C g->fQ X.prog X.w X.K X.mg X.base CX k m C ps (sp g))(v:bA k X.A)(y:∀j,j9 CX X j<|R j)(ht:do rl X o m [] apos pos pl):
  PE X (.Call `aN [] [] pos) (sx D m sp R ta jK):=by
 intro aa s j H Q I h;show af3 (pl:=pl) (bq `au λu M e=>?_) ht;let#[x,G,b,E,a,C,J,fs,g,ex,i,d,l,q]:=e;subst ex;obtain rfl:u=å a:=E;∎;let#[c,f,L,hm,F,p]:=n C g d;let#[B,O,r]:=zZ b.aR i;∎;have hn:B m=È:=b7.none_of (by rw[<- l];show r m);show Ff b.eO O (c.get m) hm.at_ hm.fn hn ?_;show W.callWith_K0 (first:=[.ref a]) b.eO hm.kp (zd (us:=[.ref a]) (vs:=[.ref a]) F v p .nil (y j) b (.cons rfl .nil) (by rw[Ą];show q))
def wD(h:ot CX X E):∀j,j9 CX X j E:=λj aa H s e a I c=>h aa j H s e a I c
end
end L2
namespace Pu
open PySem L2 Vc Sf
section
def IC:∀(a:af)(i:Nat),(cA a)[i]?=a[i]?.map dn
 |[],_=>rfl
 |_::_,0=>rfl
 |_::xs,i + 1=>IC xs i
def yZ{a9:iA}{E:XK}{q':Xv->Prop}{A:Tr->aA}{Q:VK}(hk:z=Â->Fz S0 F)(hn:(cA ts).length=n)(G:∀k,aE (B k) H)(b:eU K F B H F1 H1 ts vs c1)(hE:∀x j l,q' x->∀d,XF K j d x.f->Gr F H j l->E x.c d l)(p1:a9 (cA ts) A q')(C:∀j l D g' w v t c,Gr F H j l->(∀c,dy (cX (c1.map (·.1)) H1) c->dy H c)->bj K #[z,λ_=>E,q'] lo vs F1 (cX (c1.map (·.1)) H1) j l D g' w->R K j (λ_=>cX (c1.map (·.1)) H1) t v c->au j l c->dy H c->(∀i,∀p∈w i,∀q∈c,p.1≠q.1)->cI t=Â->A t g'->Q v l):jc K z lo n a9 vs H1 Q E:=by
 let#[cs,L,M,N,O]:=b.r.split b.c;have hl:↑vs=n:=by rw[b.r.length,<- hn,nv]
 have hb:∀k,aE (B k) (cX (c1.map (·.1)) H1):=λk a o e=>qU (vL b.n<|G k a o e)<|b.g.h _ _<|G k a o e
 have J:∀c,dy (cX (c1.map (·.1)) H1) c->dy H c:=λc n p m=>by
  have z:=n p m;by_cases I:p.1∈c1.map (·.1)
  .obtain⟨q,mq,e⟩:=ß.mp I;have e:q.1=p.1:=e;rw[<- e];show b.n q mq
  .unfold cX at z;rw[ao6 I] at z;show b.g.h.free z
 show#[hl,F1,cX (c1.map (·.1)) H1,cA ts,cs,_,q',#[#[zL b.g.s,Fz.refl F1],λh=>b.g.fz<|hk h,by rw[Å,nv,b.r.length],?_,N,λi p m=>yK<|M i p m,O,λi _=>by rw[Ê],λx _ j l h d y g=>hE x j l h d y<|b.g.cX b.n g],p1,?_]
 .intro i t h;rw[IC] at h;cases z:ts[i]? with
  |none=>rw[z] at h;cases h
  |some u=>
   rw[z] at h;cases h;let#[v,U,Y]:=L i u z;show .inr #[v,by rw[Ê,U];rfl,Y.dn (λk=>Le.of<|hb k) u]
 .intro j l D g' w v t c' W r hc n dj nl qt;show C j l D g' w v t c' (b.g.cX b.n W.g) J W r hc (J _ n) dj nl qt
def Rj{a9:iA}{E:XK}{q':Xv->Prop}{e:az}{Q:VK}(l:z=Â->Fz S0 F)(hn:(cA ts).length=n)(h:∀k,aE (B k) H)(o:eU K F B H F1 H1 ts vs c1)(i:∀x b a,q' x->∀d,XF K b d x.f->Gr F H b a->E x.c d a)(p1:a9 (cA ts) (λt _=>e t) q')(q:∀t v b a cs,e t->Out K F B H b a t v cs->Q v a):jc K z 0 n a9 vs H1 Q E:=
 yZ l hn h o i p1 λb a _ _ _ v t c g _ _ r j n _ m p=>q t v b a c p #[g,r.base t m,j,n]
def eU.cons{b f:Hp}{t:Tr}{v:V}{c:Cs}{i:af}{vs:ay}{d:Cs}(o:Out K F B H F1 H1 t v c)(a:eU K F1 B H1 b f i vs d):eU K F B H b f (t::i) (v::vs) (c++d) where
 g:=o.g.trans' a.g
 r:=#[v,vs,c,d,rfl,rfl,o.r.mo a.g.le (λ_=>Le.refl _) t,a.r]
 c:=(o.c.gr a.g).app a.c λp j q l e=>by
  have:=o.c.h p j;rw[e,a.n q l] at this;cases this
 n:=λp m=>(Æ.mp m).elim (o.n p) λm=>o.g.h.free<|a.n p m
abbrev iP(D:ai->Nat->Prop)(m:Str)(x:Tr)(Q:Nat->Prop):Prop:=match x with |.ins _ c fs=>∃g,D c g/\fs.lookup m=È/\Q g |_=>False
def Hl{D:ai->Nat->Prop}{Q:Nat->Prop}(h:iP D m x Q):∃f c fs g,x=.ins f c fs/\D c g/\fs.lookup m=È/\Q g:=by
 unfold iP at h;split at h
 .obtain⟨g,h⟩:=h;show#[_,_,_,g,rfl,h]
 .show h.elim
abbrev LH(q:Xv->Prop)(D:ai->Nat->Prop)(m:Str)(a9:Nat->iA)(po:bh)(a:cj):bh:=λj Q=>po j λx=>iP D m x λc=>a j λb=>a9 c (cA (x::b)) (λt _=>Q t) q
abbrev vr(D:ai->Nat->Prop)(m:Str)(a9:Nat->gm)(po:bh)(a:cj):bh:=λj Q=>po j λx=>iP D m x λc=>a j λb=>a9 c (cA (x::b))<|λt _=>Q t
def Rf.none_of:∀{fs:bx}{vs:List (Str×V)}{a:Cs}{f:Str},Rf K F B fs vs a->fs.lookup f=È->vs.lookup f=È
 |[],_,_,_,y,_=>by let#[h,_]:=y;rw[h];rfl
 |(g,y)::fs,_,_,f,y0,h=>by
  let#[v,r,c,d,b,j,l,i]:=y0;rw[b];rw[ċ] at h ⊢;cases e:f == g with
  |true=>rw[e] at h;cases h
  |false=>rw[e] at h;show Rf.none_of i h
def Tb{a9:Nat->iA}{R':St->XK}{q':Xv->Prop}(J:∀(F:Hp)(B:Bool->Hp)(H:Hp)(j:St)(i:af),iq K k F B H j i->∀x l o,q' x->∀d,XF K l d x.f->Gr F H l o->R' j x.c d o)(M:z=Â->k.z=Â)(hn:∀C xs Q q,a9 C xs Q q->↑xs=n)(h:bF K k te po)(L:eY K k ta pa):bF K k (sx D m (λC=>jc K z 0 n<|a9 C) R' te ta) (LH q' D m a9 po pa):=λF B H j i Q Q' c p q=>by
 show h F B H j i _ _ c p λx v w y c1 p1 e=>?_
 ∎;let#[f,C,fs,g,rfl,I,N,p1]:=Hl p1;let#[a,A,vs,ds,rfl,E,G,_]:=e.r.pD e.g.s (λk=>(c.b k).trans e.g.h) e.c;∎;show#[a,C,A,vs,g,rfl,E,I,G.none_of N,L w B y j i _ _ (c.gr e.g) p1 λts us Y H2 c2 p2 U=>?_];show Rj (λh=>c.z<|M h) (hn _ _ _ _ p2) c.b (eU.cons e U) (λu l o O g=>J F B H j i c u l o O g) p2 q
def Hm{a9:Nat->gm}(b:z=Â->k.z=Â)(hn:∀C xs Q,a9 C xs Q->↑xs=n)(h:bF K k te po)(a:eY K k ta pa):bF K k (sx D m (λC=>bP K z 0 n<|a9 C) (λ_=>E) te ta) (vr D m a9 po pa):=
 Tb (R':=λ_=>E) (q':=λ_=>False) (a9:=λC xs Q _=>a9 C xs Q) (λ_ _ _ _ _ _ _ _ _ h=>h.elim) b (λC xs Q _=>hn C xs Q) h a
abbrev qu(o:Option Tr)(Q:az):Prop:=match o with |some (.ins f c fs)=>cI `ax=Â/\Q `ax |_=>False
def WG{Q:az}(h:qu o Q):∃f c fs,o=À `ax/\cI `ax=Â/\Q `ax:=by
 unfold qu at h;split at h
 .show#[_,_,_,rfl,h]
 .show h.elim
abbrev LD(q:Xv->Prop)(C:ai)(a9:iA)(b:cj):bh:=λj Q=>b j λd=>a9 (cA (.ins .o C []::d)) (λt a=>t=.aT/\qu a[0]? Q) q
abbrev xM(C:ai)(a9:gm)(b:cj):bh:=λj Q=>b j λd=>a9 (cA (.ins .o C []::d)) λt a=>t=.aT/\qu a[0]? Q
def WH(a:eU K F B H F1 H1 ts vs c1)(f:H1 x=È)(hd:H1 dx=È)(ne:dx≠x):∃b,eU K F B H b (aQ (aQ H1 dx<|.own x) x<|.ins C dx []) (.ins .o C []::ts) (.ref x::vs) ((x,.ins C dx [])::c1):=by
 let#[b,e,_]:=sA (o:=.own x) a.g.s (by intro _ _ z;cases z) hd;have d:aQ H1 dx `cP x=È:=by rw[a6<|Ć ne];show f
 have i:Gr b (aQ H1 dx<|.own x) b (aQ (aQ H1 dx<|.own x) x<|.ins C dx []):=Gr.il e.s d;have g:=e.trans' i;show#[b,a.g.trans' g,#[.ref x,vs,[(x,.ins C dx [])],c1,rfl,rfl,#[x,dx,[],[],rfl,rfl,rfl,rfl],a.r.mo g.le (λ_=>Le.refl _) ts],sT e.s (a.c.gr e) d,λp m=>?_];cases m with
 |head=>show a.g.h.free f
 |tail _ m=>show a.n p m
def Rl{a9:iA}{R':St->XK}{q':Xv->Prop}(I:∀(F:Hp)(B:Bool->Hp)(H:Hp)(j:St)(i:af),iq K k F B H j i->∀x a l,q' x->∀d,XF K a d x.f->Gr F H a l->R' j x.c d l)(L:z=Â->k.z=Â)(hn:∀xs Q q,a9 xs Q q->↑xs=n)(J:eY K k ta pa):bF K k (xu C (jc K z 1 n a9) [] R' ta) (LD q' C a9 pa):=λF B H j i Q Q' c p q=>by
 show J F B H j i _ _ c p λts vs F1 H1 c1 p1 U x dx N hd ne=>?_
 rw[Ą];let#[F2,Y]:=WH (C:=C) U N hd ne;show yZ (λh=>c.z<|L h) (hn _ _ _ p1) c.b Y (λm a l M g=>I F B H j i c m a l M g) p1 λa l j' i' o v t c' g O W r hc n dj nl w=>?_
 ∎;let#[rfl,w]:=w;let#[f,c,fs,y,A,D]:=WG w;∎;show#[r.1,?_];rcases W.e 0 _ y with z |⟨u,E,G⟩
 .cases z
 .have:=W.p 0 Nat.zero_lt_one;rw[E] at this;cases this;show q _ _ a l (o 0) D #[g,G.base _ A,W.c 0,O _<|W.n 0]
def Tc{a9:gm}(b:z=Â->k.z=Â)(hn:∀xs Q,a9 xs Q->↑xs=n)(a:eY K k ta pa):bF K k (xu C (bP K z 1 n a9) [] (λ_=>E) ta) (xM C a9 pa):=
 Rl (R':=λ_=>E) (q':=λ_=>False) (a9:=λxs Q _=>a9 xs Q) (λ_ _ _ _ _ _ _ _ _ h=>h.elim) b (λxs Q _=>hn xs Q) a
end
section
def eK{D:ai->Nat->Prop}{a9:Nat->gm}(l:∀C g,D C g->fQ X.prog X.w X.K X.mg X.base bI kj m C ps (bP X.K z 0 n<|a9 g))(u:QE X k o po)(p:QA X k (e::es) pa)(v:bA km X.A:=by assumption)(q:kj<=km:=by first |decide |omega)(r:z=Â->k.z=Â:=by first |show id |show λ_=>rfl)(hn:∀C xs Q,a9 C xs Q->↑xs=n:=by show λ_ _ _ h=>h.1)(a:do d0 e es X.env)(hpl:do fS pos es X.env)(ht:do rl X o m (e::es) apos pos pl):QE X k (.Call `aN (e::es) [] pos) (vr D m a9 po<|m9 pa):=by
 ∎;let#[y,i,j]:=u.h;let#[x,b,f]:=p.aB.h;∎;show#[_,IB (R:=λ_=>E0) i (λC g d=>(l C g d).mono q) v (wD tp) b a hpl ht,Hm r hn j f]
def ID{D:ai->Nat->Prop}{a9:Nat->gm}(e:∀C g,D C g->fQ X.prog X.w X.K X.mg X.base bI kj m C ps (bP X.K z 0 n<|a9 g))(j:QE X k o po)(l:bA km X.A:=by assumption)(f:kj<=km:=by first |decide |omega)(i:z=Â->k.z=Â:=by first |show id |show λ_=>rfl)(hn:∀C xs Q,a9 C xs Q->↑xs=n:=by show λ_ _ _ h=>h.1)(ht:do rl X o m [] apos pos pl):QE X k (.Call `aN [] [] pos) (vr D m a9 po vk):=by
 let#[p,a,b]:=j.h;show#[_,WE (R:=λ_=>E0) a (λC g d=>(e C g d).mono f) l (wD tp) ht,Hm i hn b GB]
end
nonrec abbrev l0:=af->(Tr->aA)->Prop
structure lZ(K:PySem.W.Frag)(k:Md)(lo:Nat)(us:ay)(Fb Hb F F' H':Hp)(j:St)(G:af)(cs:Nat->Cs)(t:Tr)(v:V)(e:Cs):Prop where
 l:Le F F'
 W:bj K k lo us Fb Hb F' H' j G cs
 r:R K F' (λ_=>Hb) t v e
 c:au F' H' e
 n:dy Hb e
 d:∀i,∀p∈cs i,∀q∈e,p.1≠q.1
abbrev qw(K:aq)(k:Md)(lo:Nat)(l:TE)(pl:l0):Prop:=∀(us:ay)(b e F H:Hp)(j:St)(i:af)(cs:Nat->Cs)(Q:VK)(f:Tr->aA),bj K k lo us b e F H j i cs->pl i f->
 (∀t v h d g a c,lZ K k lo us b e F h d j g a t v c->f t g->Q v d)->l j H Q
section
def lZ.held{t:Tr}{v:V}{c:Cs}(o:lZ K k lo us Fb Hb F F' H' j i cs t v c):∃a,Le F a/\bj K k lo us Fb Hb a H' j i cs/\R K a (λ_=>Hb) `ba v []:=by
 let#[a,e,b,f]:=o.W.lay o.c o.n `bT o.d;show#[a,o.l.trans<|Le.of b,e,o.r.aB (Le.of b) t f]
abbrev xo(i:Nat)(pl:l0):cB:=λD j=>pl j λt a=>D.nx<|a.set i<|aB t
def Rm(l:lo<=i)(h:qw K k lo te pl):c6 K k lo (mf te<|j5 i) (xo i pl):=λus b e F H j G cs D n W p L=>by
 show h us b e F H j G cs _ _ W p λt v q d r g u o p1=>?_
 let#[a,l2,f,r2]:=o.held;show L.nx a d _ _ _ (f.set l r2 .nil .nil λ_ _ _ _ _ m=>nomatch m) p1
abbrev xp(pl:l0):cB:=λD j=>pl j λ_ j1=>D.nx j1
def Rn(h:qw K k lo te pl):c6 K k lo (rT te) (xp pl):=λus b e F H j i cs D g W p L=>
 h us b e F H j i cs _ _ W p λt v a d m f l o p1=>L.nx a d _ _ _ o.W p1
abbrev xN(pl:l0):cB:=λD j=>pl j λt a=>cI t=Â/\D.rt t a
def Td(h:qw K k lo te pl):c6 K k lo (yo te) (xN pl):=λus e g F H j i cs D q W p L=>
 h us e g F H j i cs _ _ W p λt v b f m a l o p1=>L.rt b f j m a v t l o.W o.r o.c o.n o.d p1.1 p1.2
end
section
abbrev HA(K:aq)(F Hb:Hp)(j:St)(G:af):bJ->af->ay->Prop
 |[],ts,vs=>ts=[] /\ vs=[]
 |none::hs,ts,vs=>∃t v a b,ts=t::a /\ vs=v::b /\ R K F (λ_=>Hb) t v [] /\ HA K F Hb j G hs a b
 |some i::hs,ts,vs=>∃t v a b,ts=t::a /\ vs=v::b /\ G[i]? = À t /\ t ≠ .ar /\ j[i]? = À (À v) /\ HA K F Hb j G hs a b
abbrev sy(K:aq)(k:Md)(lo:Nat)(hs:bJ)(l:TA)(h:cj):Prop:=∀(us:ay)(d b F H:Hp)(j:St)(i:af)(cs:Nat->Cs)(Q:ay->Hp->Prop)(f:aA),bj K k lo us d b F H j i cs->h i f->
 (∀g vs a e,Le F a->bj K k lo us d b a e j i cs->HA K a b j i hs g vs->f g->Q vs e)->l j H Q
abbrev AV:cj:=λ_ Q=>Q []
abbrev AW(pe:bh)(a:cj):cj:=λj Q=>pe `ae λt=>bM t=Â/\a j λb=>Q (Pu.aB t::b)
def Te:sy K k lo [] jK AV:=λus a b F H j i cs Q d W p q=>q [] [] F H `be W #[rfl,rfl] p
def wF{Q:az}(h:pV o Q):∃t,o=À t/\t≠.ar/\Q t:=by
 unfold pV at h;split at h
 .show h.elim
 .rename_i t hn;show#[t,rfl,λz=>hn (by rw[z]),h]
 .show h.elim
def XR(he:bF K k te pe)(h:sy K k lo hs ta ph):sy K k lo (È::hs) (jI te ta) (AW pe ph):=λus m b F H j i cs Q y W p q=>by
 show he F (Bq b H) H j _ _ _ W.fm p λt v x n A e o=>?_
 let#[g,u,r2,l2]:=W.fC o e.1;show h us m b g n j i cs _ _ u e.2 λf vs l r d w a p3=>q (Pu.aB t::f) _ l r (l2.trans d) w #[Pu.aB t,v,f,vs,rfl,rfl,r2.mo d (λ_=>Le.refl _) _,a] p3
def HA.rs(W:bj K k lo us Fb Hb F H G J cs):∀{hs:bJ}{D:af}{vs:ay},(hs.filterMap id).Nodup->HA K F Hb G J hs D vs->∃c,Rs K F (λ_=>Hb) D vs c/\au F H c/\dy Hb c/\(∀p∈c,∃i,À i∈hs/\p∈cs i)/\∀i,À i∈hs->∀p∈cs i,p∈c
 |[],_,_,_,y=>by let#[f,g]:=y;show#[[],by rw[f,g];show#[rfl,rfl],.nil,.nil,(λ_ m=>nomatch m),λ_ m=>nomatch m]
 |none::hs,_,_,nd,y=>by
  ∎;let#[t,v,B,a,f,g,x,A]:=y;let#[c,l,o,r,h,w]:=HA.rs W (hs:=hs) nd A;∎;show#[c,by rw[f,g];show#[v,a,[],c,rfl,rfl,x,l],o,r,λp m=>?_,λi m p b=>?_]
  .obtain⟨i,b1,b2⟩:=h p m;show#[i,.tail _ b1,b2]
  .cases m with
   |tail _ m=>show w i m p b
 |some i::hs,_,_,nd,y=>by
  let#[t,v,B,a,f,g,x,A,I,L]:=y;have nd:(i::hs.filterMap id).Nodup:=nd;rw[ē] at nd;let#[c,l,o,r,h,w]:=HA.rs W (hs:=hs) nd.2 L;have N:À i ∉ hs:=λm=>nd.1<|ϋ.mpr #[_,m,rfl]
  have rt:R K F (λ_=>Hb) t v (cs i):=by
   rcases W.e i t x with z |⟨u,C,E⟩
   .show ao8 z A
   .rw[I] at C;cases C;show E
  show#[cs i++c,by rw[f,g];show#[v,a,cs i,c,rfl,rfl,rt,l],(W.c i).app o λp b q M=>?_,λp m=>(Æ.mp m).elim (W.n i p)<|r p,λp m=>?_,λj m p b=>?_]
  .obtain⟨j,b1,b2⟩:=h q M;show W.d i j (λz=>N (by rw[z];show b1)) p b q b2
  .rcases Æ.mp m with m |m
   .show⟨i,.head _,m⟩
   .obtain⟨j,b1,b2⟩:=h p m;show#[j,.tail _ b1,b2]
  .rcases æ.mp m with e |m
   .cases e;show Æ.mpr<|.inl b
   .show Æ.mpr (.inr<|w j m p b)
abbrev gc:bJ->af->af
 |[],j=>j
 |none::hs,j=>gc hs j
 |some i::hs,j=>(gc hs j).set i .ar
def yN:∀(hs:bJ)(j:af),(gc hs j).length=↑j
 |[],_=>rfl
 |none::hs,j=>yN hs j
 |some i::hs,j=>by change ((gc hs j).set i .ar).length=_;rw[ď];show yN hs j
def vE:∀(hs:bJ)(G:af),À i ∉ hs->(gc hs G).set i t=gc hs (G.set i t)
 |[],_,_=>rfl
 |none::hs,G,h=>vE hs G λm=>h<|.tail _ m
 |some j::hs,G,h=>by
  change ((gc hs G).set j .ar).set i t=(gc hs<|G.set i t).set j .ar;rw[List.set_comm _ _ (λz=>h (by rw[z];show .head _)),vE hs G λm=>h<|.tail _ m]
def y4:∀(hs:bJ)(G:af),(gc hs G)[j]?=À t->t=.ar\/(À j ∉ hs/\G[j]?=À t)
 |[],_,h=>.inr #[(λm=>nomatch m),h]
 |none::hs,G,h=>(y4 hs G h).imp id λ⟨a,b⟩=>#[λm=>by cases m with |tail _ m=>show a m,b]
 |some i::hs,G,h=>by
  have h:((gc hs G).set i .ar)[j]?=À t:=h;by_cases e:i=j
  .subst e;have d:=(Á.mp h).1;rw[ď] at d;rw[Ĉ d] at h;cases h;show .inl rfl
  .rw[ć e] at h;show (y4 hs G h).imp id λ⟨a,b⟩=>#[λm=>by
    rcases æ.mp m with z |m
    .cases z;show e rfl
    .show a m,b]
def bj.past{hs:bJ}{c:Cs}(W:bj K k lo us Fb Hb F H G J cs)(n:dy Hb c)(B:∀p∈c,∃i,À i∈hs/\p∈cs i)(g:Gr F (cX (c.map (·.1)) H) F' H'):bj K k lo us Fb Hb F' H' G (gc hs J) (λj=>if À j∈hs then [] else cs j)/\∀j,À j ∉ hs->∀p∈cs j,(cX (c.map (·.1)) H) p.1=À p.2:=by
 have C:Gr Fb Hb F' H':=W.g.cX n g;have keep:∀j,À j ∉ hs->∀p∈cs j,(cX (c.map (·.1)) H) p.1=À p.2:=λj w p o=>by
  show qU (λm=>?_)<|(W.c j).h p o;∎;let#[q,r,e]:=ß.mp m;let#[i,y,A]:=B q r;∎;show W.d j i (λz=>w (by rw[z];show y)) p o q A e.symm
 show#[#[C,λh=>g.fz<|W.z h,by rw[yN];show W.l,λj t h=>?_,λj=>?_,λj=>?_,λa b ne p o q r=>?_,W.p,W.x],keep]
 .rcases y4 hs J h with z |⟨z,e⟩
  .show .inl z
  .rw[ao6 z];show (W.e j t e).imp id λ⟨v,h1,h2⟩=>#[v,h1,h2.mo g.le (λ_=>Le.refl _) t]
 .split
  .show .nil
  .rename_i w;show#[λp m=>g.h _ _<|keep j w p m,λp m=>?_,(W.c j).nd];cases z:F' p.1 with
   |none=>rfl
   |some u=>
    have:=g.n p.1 u z<|(W.c j).f p m;rw[keep j w p m] at this;cases this
 .split
  .show .nil
  .show W.n j
 .split at o
  .cases o
  .split at r
   .cases r
   .show W.d a b ne p o q r
def bj.fill{i:Nat}{t:Tr}{v:V}{c:Cs}(W:bj K k lo us Fb Hb F H G J cs)(A:G[i]?=À (À v))(r:R K F (λ_=>Hb) t v c)(w:au F H c)(n:dy Hb c)(d:∀j,j≠i->∀p∈cs j,∀q∈c,p.1≠q.1):
  bj K k lo us Fb Hb F H G `cD (λj=>if j=i then c else cs j) where
 g:=W.g
 z:=W.z
 l:=by rw[ď];show W.l
 e:=λj u h=>by
  by_cases e:j=i
  .subst e;have y:j<↑J:=by have:=(Á.mp h).1;rw[ď] at this;show this
   rw[Ĉ y] at h;cases h;show .inr #[v,A,by rw[ao7 rfl];show r]
  .rw[ć<|λz=>e z.symm] at h;rw[ao6 e];show W.e j u h
 c:=λj=>by
  split
  .show w
  .show W.c j
 n:=λj=>by
  split
  .show n
  .show W.n j
 d:=λa b ne p o q f=>by
  by_cases m:a=i
  .rw[ao7 m] at o;rw[ao6<|λz=>ne<|m.trans z.symm] at f;show (d b (λz=>ne<|m.trans z.symm) q f p o).symm
  .rw[ao6 m] at o;by_cases eb:b=i
   .rw[ao7 eb] at f;show d a m p o q f
   .rw[ao6 eb] at f;show W.d a b ne p o q f
 p:=W.p
 x:=W.x
abbrev kF:bJ->Nat->af->af->(aA)->Prop
 |[],_,_,G,Q=>Q G
 |none::hs,j,G',G,Q=>kF hs (j + 1) G' G Q
 |some i::hs,j,G',G,Q=>pV G'[j]? λt=>cI t=Â /\ kF hs (j + 1) G' (G.set i t) Q
def y6{U:Md}{r:Nat}{vs:ay}{A:Hp}{D:St}{B:af}{a:Nat->Cs}{G:Prop}{C:aA}(f:bj K U r vs F1 A F' H' D B a)(y:aE Hb A):∀(hs:bJ)(j:Nat)(O:af)(cx:Nat->Cs),(hs.filterMap id).Nodup->bj K k lo us Fb Hb F' H' J (gc hs O) cx->(∀n i,hs[n]?=À (À i)->∃v,J[i]?=À (À v)/\vs[j+n]?=À v)->j+↑hs<=r->
  (∀i m,(i<lo\/True)->j<=m->∀p∈cx i,∀q∈a m,p.1≠q.1)->kF hs j B O C->(∀w b,bj K k lo us Fb Hb F' H' J w b->(∀i,∀p∈b i,p∈cx i\/∃m,p∈a m)->C w->G)->G
 |[],j,O,cx,_,W,_,_,_,p,q=>q O cx W (λi p m=>.inl m) p
 |none::hs,j,O,cx,nd,W,hv,hl,d,p,q=>by
  show y6 f y hs (j+1) O cx nd W (λn i e=>?_) (by rw[Ú] at hl;omega) (λi m z hm=>d i m z ⋯) p q;let#[v,l,o]:=hv (n+1) i e;show#[v,l,by rw[show j+1+n=j+(n+1) by omega];show o]
 |some i::hs,j,O,cx,nd,W,hv,hl,d,p,q=>by
  have nd:(i::hs.filterMap id).Nodup:=nd;rw[ē] at nd;have Y:À i ∉ hs:=λm=>nd.1<|ϋ.mpr #[_,m,rfl]
  ∎;let#[t,I,L,M,p]:=wF p;let#[v,l,o]:=hv 0 i rfl;∎;rw[Ú] at hl;have rt:R K F' (λ_=>Hb) t v (a j):=by
   rcases f.e j t I with z |⟨u,N,Q⟩
   .show ao8 z L
   .have:=f.p j ⋯;rw[N,show vs[j]?=À v from o] at this;cases this;show Q.base t M
  have H:bj K k lo us Fb Hb F' H' J (gc hs<|O.set i t) (λm=>if m=i then a j else cx m):=by
   have:=W.fill (i:=i) l rt (f.c j) (λp m=>y.free<|f.n j p m) λm _ p h q x=>d m j (.inr trivial) (Ï j) p h q x
   rw[show (gc (À i::hs) O).set i t=gc hs (O.set i t) by
    change ((gc hs O).set i .ar).set i t=_;rw[List.set_set];show vE hs O Y] at this
   show this
  show y6 f y hs (j+1) (O.set i t) _ nd.2 H (λn g e=>?_) ⋯ (λg m z hm p h q x=>?_) p λw b E sub=>q w b E λg p m=>?_
  .obtain⟨v,l,o⟩:=hv (n+1) g e;show#[v,l,by rw[show j+1+n=j+(n+1) by omega];show o]
  .by_cases ei:g=i
   .rw[ao7 ei] at h;show f.d j m ⋯ p h q x
   .rw[ao6 ei] at h;show d g m z ⋯ p h q x
  .rcases sub g p m with z |z
   .by_cases ei:g=i
    .rw[ao7 ei] at z;show .inr #[j,z]
    .rw[ao6 ei] at z;show .inl z
   .show .inr z
def HA.at_:∀{hs:bJ}{q:af}{vs:ay}{n i:Nat},HA K F Hb j G hs q vs->hs[n]?=À (À i)->∃v,j[i]?=À (À v)/\vs[n]?=À v
 |none::hs,_,_,n,i,y,e=>by
  let#[t,v,f,g,l,d,m,h]:=y;cases n with
  |zero=>cases e
  |succ n=>let#[u,a,b]:=HA.at_ (hs:=hs) h e;show#[u,a,by rw[d];show b]
 |some x::hs,_,_,n,i,y,e=>by
  let#[t,v,f,g,l,d,m,h,o,p]:=y;cases n with
  |zero=>cases e;show#[v,o,by rw[d];rfl]
  |succ n=>let#[u,a,b]:=HA.at_ (hs:=hs) p e;show#[u,a,by rw[d];show b]
def HA.len:∀{hs:bJ}{f:af}{vs:ay},HA K F Hb j G hs f vs->↑f=↑hs
 |[],_,_,y=>by let#[a,_]:=y;rw[a];rfl
 |none::hs,_,_,y=>by let#[t,v,b,d,a,g,h,e]:=y;rw[a,Ú,Ú,HA.len e]
 |some i::hs,_,_,y=>by let#[t,v,b,d,a,g,h,e,m,l]:=y;rw[a,Ú,Ú,HA.len l]
end
structure QL(X:Cx)(k:Md)(lo:Nat)(e:ę)(pl:l0):Prop where
 h:∃te,PE X e te/\qw X.K k lo te pl
structure QH(X:Cx)(k:Md)(lo:Nat)(es:bN)(hs:bJ)(ph:cj):Prop where
 h:∃ta,PA X es ta/\sy X.K k lo hs ta ph
section
def qO:QH X k lo [] [] AV:=#[_,lL,Te]
def mF(he:QE X k e pe)(h:QH X k lo es hs ph)(a:do d0 e es X.env):QH X k lo (e::es) (È::hs) (AW pe ph):=by
 ∎;let#[i,f,g]:=he.h;let#[j,b,d]:=h.h;∎;show#[_,kI f b a,XR g d]
section
def zy(i:Nat)(h:QL X k lo e pl)(d:X.N.Nodup:=by assumption)(j: ~~~(lo<=i))(g:do X.N[i]?=À x)(l:Loc X.env.scope x:=by first |show Ϸ rfl |show ż rfl)(hs:do Į e (À<|.Name x pos') pos.line X.env=pure É)(f:lz X x:=by first |show .inl rfl |show .inr rfl |assumption):
  QS X k lo (.Assign [.Name x pos'] e pos) (xo i pl):=by
 let#[m,a,b]:=h.h;show#[_,v5 d g l a hs f,Rm j b]
def zA(h:QL X k lo e pl)(hs:do Į e È pos.line X.env=pure É):QS X k lo `cT (xp pl):=by
 let#[d,a,b]:=h.h;show#[_,vH a hs,Rn b]
def mw(h:QL X k lo e pl):QS X k lo `bJ (xN pl):=by
 let#[d,a,b]:=h.h;show#[_,HM a,Td b]
end
end
end Pu
namespace L2
open PySem PySem.Spec PyProof.Rows
abbrev D8(e:TE):TE:=λj H Q=>e j H λx d=>∃a b,x=.ref a/\Rd d a (.dK b)/\∀p,d p=È->Q `ak (aQ d p (.ag (b.map (·.2))))
def Nq(Y:X.calm=Â)(hg:Gl X "list")(hm:X.mg "list"=È)(ho:PE X o td)(g:Ė o "values" X.env `at=eval o X.env)(l:(apos.endLine == br.line)=Â)(hs:do Ă [.Call (.Attribute o "values" apos) [] [] br] X.env=[(É,eval (.Call (.Attribute o "values" apos) [] [] br) X.env)]):
  PE X (.Call (.Name "list" p) [.Call (.Attribute o "values" apos) [] [] br] [] pos) (D8 td):=by
 intro aa s i H Q I h;show ġ<|kH I hg hm (u:=.type "list") rfl ?_;show ø ?_ hs rfl;rw[hs];change Ý _ _ (spliced ((É,eval (.Call (.Attribute o "values" apos) [] [] br) X.env)::ű pos [])) _ _ s;show Ō ?_;show an3 g l<|bq (ho aa s i H _ I h) λv m E=>?_;let#[x,G,B,r1,a,kvs,ex,L,q]:=E;subst ex;obtain rfl:v=å a:=r1;let#[N,t2,hd]:=v7 B<|.inl #[kvs,L];show#["dict","dict.values",PySem.F.plainAttrs_dict,PySem.F.slot_dict_values,PySem.F.type_dict_values,N,t2,ό rfl<|PySem.evalArgs_none ?_];let#[z,y,vs,r,dd]:=jN B.aR L;show ae1 PySem.F.slot_dict_values N PySem.F.entry_dict_values (PySem.F.args_dict_values_1 _) (meets_dict_values `aK a hd) #[#[vs,dd],?_];have J:ax X aa i G { m with heap:=m.heap.push { cls:=.type "dict_values",data:=.fields ([.ref a].toArray) } }:=B.kept (t':=m.toks) λb o e=>Ä _ e
 let#[ep,C]:=dd.dictAt;have A:=C.push { cls:=.type "dict_values",data:=.fields ([.ref a].toArray) };have M:↑kvs=↑vs:=KV.length r;show ύ ?_;show W.kdl_call (s:={ m with heap:=m.heap.push { cls:=.type "dict_values",data:=.fields ([.ref a].toArray) } }) (W.kdl_values (knd:=eL X.prog X.w) (kvs:=vs) (ep:=ep) (r:=⇑m) (d:=a)) (I.ok.hd Y) #[#[_,Ø _ rfl,rfl,rfl],A] (by rw[<- M];show z) λh' tk n O hk U f=>?_
 have D:G (m.heap.push { cls:=.type "dict_values",data:=.fields ([.ref a].toArray) }).objs.size=È:=J.aR.fresh<|Ï _;show#[.ref _,_,J.laid (o:=.ag (kvs.map (·.2))) (h':=h') (t':=tk) hk (Ï _) #[by rw[Å];show z,n.toList,O,?_,by rw[Ϡ];show U],rfl,q _ D];show Px r (by rw[Ž,f.1,M]) λj u hu=>?_
 show f.2 j u (by rw[<- Ϗ];show hu)
end L2
namespace Pu
open PySem L2 Vc Sf
section
def Rk.snd:∀{m:bz}{vs:bL}{c:Cs},Rk K F B m vs c->Rs K F B (m.map (·.2)) (vs.map (·.2)) c
 |[],_,_,y=>by let#[h,a]:=y;rw[h,a];show#[rfl,rfl]
 |(y,x)::m,_,_,y0=>by let#[v,r,c,d,b,a,e,f]:=y0;rw[b,a];show#[v,_,c,d,rfl,rfl,e,Rk.snd f]
abbrev wY(t:Tr)(Q:az):Prop:=match t with |.aP _ m=>Q (.ag .o (m.map (·.2))) |_=>False
def XS(h:bF K k te pe):bF K k (D8 te) (p1 wY pe):=λF B H j i Q A c p q=>by
 show h F B H j i _ _ c p λx v f w C p1 d=>?_
 unfold wY at p1;split at p1
 .obtain⟨a,vs,ds,rfl,h1,h2,h3,h4⟩:=d.r.h9 d.g.s (λk=>(c.b k).trans d.g.h) d.c;show#[a,vs,rfl,h1,λp e=>?_];let#[l,o,u]:=mh d.g.s h2.snd h3 e;show q _ _ f _ _ p1 #[d.g.trans' l,o,u,λy m=>?_];cases m with
  |head=>show d.g.h.free e
  |tail _ m=>show d.n y<|h4 y m
 .show p1.elim
abbrev D9(neg:Bool)(x y:Tr)(Q:az):Prop:=∃(f g:Fl)(m a:bz)(n:Nat),x=.aP f m/\y=.aP g a/\n<=20/\↑m=↑a/\(∀p∈m,∃t,look a p.1=À t/\Bk p.2 t=Â/\dep p.2=n)/\Q (.bl (!neg))
def Rk.mem:∀{m:bz}{vs:bL}{c:Cs}{y:aW}{u:V},Rk K F B m vs c->au F H c->(y,u)∈vs->∃x d,(y,x)∈m/\R K F B x u d/\au F H d
 |[],_,_,_,_,y,_,m=>by let#[h,_]:=y;rw[h] at m;cases m
 |(k',x)::xs,_,_,y,u,y0,hc,m=>by
  let#[v,r,c,d,a,b,f,g]:=y0;rw[b] at hc;rw[a] at m;rcases æ.mp m with e |m
  .cases e;show#[x,c,.head _,f,hc.left]
  .obtain⟨x',d',a1,a2,a3⟩:=Rk.mem g hc.right m;show#[x',d',.tail _ a1,a2,a3]
def Tf:eE K k (yx K (!neg)) (D9 neg):=λF B H x y tx ty cx cy Q Q' s b z rx ry U Y hd p q=>by
 ∎;let#[f,g,m,m',n,rfl,rfl,hn,O,al,p]:=p;let#[a,vs,ds,rfl,M,j,N,_]:=rx.h9 s b U;let#[o,us,es,rfl,J,i,L,_]:=ry.h9 s b Y;∎;have l1:↑vs=↑m:=by have:=ap2 İ j.fst;rw[Å,Å] at this;show this
 have l2:↑us=↑m':=by have:=ap2 İ i.fst;rw[Å,Å] at this;show this
 show#[n,a,o,vs,us,Ñ hn ∎,rfl,rfl,M,J,#[by rw[l1,l2];show O,λkk v mv=>?_],q _ _ F H [] p `ah #[rfl,rfl] .nil λ_ m=>nomatch m];∎;let#[t,d,C,D,E]:=j.mem N mv;let#[t',h,G,I]:=al _ C;∎;rcases i.look kk L with⟨l,_⟩ |⟨t2,u,c,e,r,w,A,_⟩
 .rw[h] at l;cases l
 .rw[h] at e;cases e;show#[u,r,?_];have:=IA s b t t' v u d c (eq_of_beq G) D w E A;rw[I] at this;show this
def WI:eE K k (yx K É) (D9 Â):=Tf (neg:=Â)
end
section
def Kf(f:X.calm=Â)(g:Gl X "list")(hm:X.mg "list"=È)(h:QE X k o po)(d:do Ė o "values" X.env `at=eval o X.env)(e:do (apos.endLine == br.line)=Â)(hs:do Ă [.Call (.Attribute o "values" apos) [] [] br] X.env=[(É,eval (.Call (.Attribute o "values" apos) [] [] br) X.env)]):
  QE X k (.Call (.Name "list" p) [.Call (.Attribute o "values" apos) [] [] br] [] pos) (p1 wY po):=by
 let#[i,a,b]:=h.h;show#[_,Nq f g hm a d e hs,XS b]
end
def Ro:vr D m a9 po pa j Q=(po j λx=>iP D m x λc=>pa j λa=>a9 c (cA (x::a))<|λt _=>Q t):=rfl
def OK:xM C a9 pa j Q=(pa j λb=>a9 (cA (.ins .o C []::b)) λt a=>t=.aT/\qu a[0]? Q):=rfl
def Nr(i:Nat)(pl:l0)(D:Pd)(j:af):xo i pl D j=(pl j λt a=>D.nx<|a.set i<|aB t):=rfl
def Nt:xp pl D j=(pl j λ_ j1=>D.nx j1):=rfl
def OL:xN pl D j=(pl j λt a=>cI t=Â/\D.rt t a):=rfl
def UR:AV j' Q=(Q []):=rfl
def US:AW pe ph j Q=(pe `ae λt=>bM t=Â/\ph j λa=>Q (Pu.aB t::a)):=rfl
def Nu(j:Nat)(a i:af)(Q:aA):kF [] j a i Q=Q i:=rfl
def OM(hs:bJ)(j:Nat)(a i:af)(Q:aA):kF (È::hs) j a i Q=kF hs (j+1) a i Q:=rfl
def Np(c:ai)(fs:bx):aK `aI=.ins `bO c (cp fs):=rfl
def Nn(c:ai)(fs:bx):dn `aI=.ins .o c (jm fs):=rfl
def zN(c:ai)(fs:bx):cI `aI=e5 fs:=rfl
def FD(c:ai)(fs:bx):bM `aI=fV fs:=rfl
def XT(f:Fl)(m:bz)(Q:az):wY (.aP f m) Q=Q (.ag .o (m.map (·.2))):=rfl
def Rp(K:aq)(f:Str)(c:ai)(fs:bx)(Q:ai->bx->Prop):oA K f `aI Q=((g6 K c/\bo K c f)/\↑fs<900/\Q c fs):=rfl
def oG(f:Str)(u:Tr):iT f u []=[(f,u)]:=rfl
def ON(f:Fl)(c:ai)(xs:bx)(R:az):uc (À<|.ins f c xs) R=R (.ins f c xs):=rfl
section
abbrev yh(i:Nat):l0:=λj Q=>pV j[i]? λt=>Q t<|j.set i .ar
def WJ:qw K k lo (add i) (yh i):=λus m o F H G J cs Q r W p q=>by
 let#[t,b,f,p]:=wF p;rcases W.e i t b with z |⟨v,g,h⟩
 .show ao8 z f
 show⟨v,g,q t v F H _ _ (cs i) ⟨Le.refl _,W.ar (i:=i),h,W.c i,W.n i,λj p a q l=>?_⟩ p⟩;split at a
 .cases a
 .rename_i hj;show W.d j i hj p a q l
def Rq(i:Nat)(j:af)(Q:Tr->aA):yh i j Q=(pV j[i]? λt=>Q t<|j.set i .ar):=rfl
end
section
def mr(i:Nat)(b:do X.N[i]?=À x)(d:qb X.env.scope x:=by first |show Ϸ rfl |show ż (Ϸ rfl) |show ż<|ż rfl)(hd: ~~~(dZ x))(a: ~~~((x == ("__classdict__":Str))=É)):QL X k lo `ao (yh i):=#[_,v3 b d hd a,WJ]
end
def eI(a:qd X E):ZW `aa X.A X.env X.xe:=by
 rw[show X.xe=_ from a]
 passes_own
nonrec abbrev Zk:=Pd->af->Xv->Prop
end Pu
namespace Pu
open PySem PySem.Spec PyProof.Rows
section
variable{p:aN->Prop}
def OB(h:p []):∀us:aN,us.length=0->p us:=λus e=>by
 cases us with
 |nil=>show h
 |cons=>cases e
def tQ{p:aN->Prop}{k:Nat}(h:∀a (us:aN),us.length=k->p (a::us)):∀us:aN,us.length=k+1->p us:=λus e=>by
 cases us with
 |nil=>cases e
 |cons a us=>show h a us<|Ϭ e
def GO(h:∀a,p [a]):∀us:aN,us.length=[x1].length->p us:=tQ λa=>OB<|h a
def ln2(h:∀a b,p [a,b]):∀us:aN,us.length=[x1,x2].length->p us:=tQ λa=>GO (x1:=x2) (p:=λl=>p (a::l))<|h a
def GP(h:∀a b c,p [a,b,c]):∀us:aN,us.length=[x1,x2,x3].length->p us:=tQ λa=>ln2 (x1:=x2) (x2:=x3) (p:=λl=>p (a::l))<|h a
def GQ(h:∀a b c d,p [a,b,c,d]):∀us:aN,us.length=[x1,x2,x3,x4].length->p us:=tQ λa=>GP (x1:=x2) (x2:=x3) (x3:=x4) (p:=λl=>p (a::l))<|h a
def OC(h:∀a b c d e,p [a,b,c,d,e]):∀us:aN,us.length=[x1,x2,x3,x4,x5].length->p us:=tQ λa=>GQ (x1:=x2) (x2:=x3) (x3:=x4) (x4:=x5) (p:=λl=>p (a::l))<|h a
end
end Pu
namespace Pu
open PySem L2 Vc Sf
def q4(hp:PE X o `aY)(a:do Ė o f X.env `at=eval o X.env):PE X (.Attribute o f pos) (tR X.K i (f::r)):=Gz hp a
section
def au.perm(h:au F H c)(p:c.Perm d):au F H d:=#[λx m=>h.h x<|p.mem_iff.mpr m,λx m=>h.f x<|p.mem_iff.mpr m,((p.map (·.1)).nodup_iff).mp h.nd]
def au.tq(h:au F H (c++d)):∀p∈c,∀q∈d,p.1≠q.1:=by
 have:=h.nd;rw[Û,Ĵ] at this;show λp a q b=>this.2.2 _ (ß.mpr #[p,a,rfl]) _<|ß.mpr #[q,b,rfl]
def Rr{hs:bJ}{n:Nat}{z:Bool}{a9:iA}{ts:af}{vs:ay}{E:XK}{q':Xv->Prop}{Q':Tr->aA}{Q:VK}{t:Tr}{r:ah}{v w:V}{c rest:Cs}(W:bj K k lo us Fb Hb F1 H1 G J cs)(l:Le F F1)(hv:G[i]?=À (À v))(pm:(cs i).Perm (c++rest))(η:R K F1 (λ_=>Hb) `bU w c)(cl:∀B,Le F1 B->∀u d,R K B (λ_=>Hb) u w d->∃c1,R K B (λ_=>Hb) `ep v c1/\c1.Perm (d++rest))(a:HA K F1 Hb G J hs ts vs)(nd:((À i::hs).filterMap id).Nodup)(hk:z=Â->k.z=Â)(hn:(cA (cW t r::ts)).length=n)(hE:∀x B H,q' x->∀d,XF K B d x.f->Gr Fb Hb B H->E x.c d H)(p1:a9 (cA (cW t r::ts)) (λx J'=>pV J'[0]? λu=>cI u=Â/\kF hs 1 J' (J.set i<|iS t r u) λJ2=>Q' x J2) q')(q:∀t v B H J' U c,lZ K k lo us Fb Hb F B H G J' U t v c->Q' t J'->Q v H):jc K z n n a9 (w::vs) H1 Q E:=by
 have O:(i::hs.filterMap id).Nodup:=nd;rw[ē] at O;have ni:À i ∉ hs:=λm=>O.1<|ϋ.mpr #[_,m,rfl]
 let#[I,a1,a2,a3,a4,a5]:=a.rs W O.2;have Y:au F1 H1 (c++rest):=(W.c i).perm pm;have sub:∀p∈c,p∈cs i:=λp m=>pm.mem_iff.mpr<|Æ.mpr<|.inl m
 have C:∀p∈rest,p∈cs i:=λp m=>pm.mem_iff.mpr<|Æ.mpr<|.inr m
 have β:∀p∈cs i,∀q∈I,p.1≠q.1:=λp b q A=>by
  let#[j,b1,b2]:=a4 q A;show W.d i j (λz=>ni (by rw[z];show b1)) p b q b2
 have A2:au F1 H1 (c++I):=Y.left.app a2 λp b q A=>β p (sub p b) q A
 have A3:dy Hb (c++I):=λp m=>(Æ.mp m).elim (λm=>W.n i p<|sub p m)<|a3 p
 have A4:∀p∈c++I,∃j,À j∈(À i::hs)/\p∈cs j:=λp m=>by
  rcases Æ.mp m with m |m
  .show⟨i,.head _,sub p m⟩
  .obtain⟨j,b1,b2⟩:=a4 p m;show#[j,.tail _ b1,b2]
 have hb:aE Hb (cX ((c++I).map (·.1)) H1):=λx o e=>qU (vL A3 e)<|W.g.h _ _ e
 have o1:eU K F1 (λ_=>Hb) (cX ((c++I).map (·.1)) H1) F1 H1 (cW t r::ts) (w::vs) (c++I):=#[#[zL W.g.s,Fz.refl F1],#[w,vs,c,I,rfl,rfl,η,a1],A2,λp m=>yK m]
 show yZ (λh=>W.z<|hk h) hn (λ_=>hb) o1 (λx B H hq d y g=>hE x B H hq d y<|W.g.cX A3 g) p1 λB H G' J' U v' t' N g nw M r' ε nc dj nl qt=>?_
 let#[W0,keep]:=W.past (hs:=À i::hs) A3 A4 g;have D:∀p∈rest,(cX ((c++I).map (·.1)) H1) p.1=À p.2:=λp b=>by
  show qU (λm=>?_)<|(W.c i).h p<|C p b;let#[q,A,e]:=ß.mp m;rcases Æ.mp A with A |A
  .show Y.tq q A p b e
  .show β p (C p b) q A e.symm
 have L:∀(N:Cs),dy (cX ((c++I).map (·.1)) H1) N->∀p∈rest,∀q∈N,p.1≠q.1:=λN nc p b q A e=>by
  have:=D p b;rw[e,nc q A] at this;cases this
 have tq:∀(N:Cs),dy (cX ((c++I).map (·.1)) H1) N->∀j,∀p∈(if À j∈(À i::hs) then [] else cs j),∀q∈N,p.1≠q.1:=λN nc j p b q A e=>by
  split at b
  .cases b
  .rename_i hj;have:=keep j hj p b;rw[e,nc q A] at this;cases this
 let#[u,x1,x2,x3,qt]:=wF qt;have α:0<n:=by rw[<- hn,nv];show Nat.succ_pos _
 have ru:R K B (λ_=>Hb) u w (U 0):=by
  rcases M.e 0 u x1 with z |⟨u',g1,g2⟩
  .show ao8 z x2
  .have:=M.p 0 α;rw[g1] at this;cases this;show g2.base u x3
 let#[d1,y1,y2]:=cl B g.le u _ ru;have fr:∀p∈rest,B p.1=È:=λp m=>by
  cases z:B p.1 with
  |none=>rfl
  |some o=>
   have:=g.n p.1 o z<|(W.c i).f p<|C p m;rw[D p m] at this;cases this
 have cr:au B H rest:=#[λp m=>g.h _ _<|D p m,fr,Y.right.nd]
 have cd:au B H d1:=((M.c 0).app cr λp b q A e=>L _ (M.n 0) q A p b e.symm).perm y2.symm;have ζ:dy Hb d1:=λp m=>by
  rcases Æ.mp (y2.mem_iff.mp m) with m |m
  .show hb.free (M.n 0 p m)
  .show W.n i p (C p m)
 have W1:bj K k lo us Fb Hb B H G (gc hs<|J.set i<|iS t r u) (λm=>if m=i then d1 else (if À m∈(À i::hs) then [] else cs m)):=by
  have:=W0.fill (i:=i) hv y1 cd ζ λm hm p b q A=>by
   rcases Æ.mp (y2.mem_iff.mp A) with A |A
   .show tq _ (M.n 0) m p b q A
   .split at b
    .cases b
    .show W.d m i hm p b q (C q A)
  rw[show (gc (À i::hs) J).set i (iS t r u)=gc hs (J.set i (iS t r u)) by
   change ((gc hs J).set i .ar).set i _=_;rw[List.set_set];show vE hs J ni] at this
  show this
 have θ:n=↑hs+1:=by rw[<- hn,nv,Ú,a.len]
 show y6 M hb hs 1 (J.set i<|iS t r u) _ O.2 W1 (λm j e=>?_) ⋯ (λj m _ hm p b q A=>?_) qt λJ2 δ W2 γ q2=>?_
 .obtain⟨x,h1,h2⟩:=a.at_ e;show#[x,h1,by rw[show 1+m=m+1 by omega];show h2]
 .by_cases ej:j=i
  .rw[ao7 ej] at b;rcases Æ.mp (y2.mem_iff.mp b) with b |b
   .show M.d 0 m ⋯ p b q A
   .show L _ (M.n m) p b q A
  .rw[ao6 ej] at b;show tq _ (M.n m) j p b q A
 .show q t' v' B H J2 δ N #[l.trans g.le,W2,r'.base t' nl,ε,λp m=>hb.free<|nc p m,λj p b q A=>?_] q2;rcases γ j p b with z |⟨m,z⟩
  .by_cases ej:j=i
   .rw[ao7 ej] at z;rcases Æ.mp (y2.mem_iff.mp z) with z |z
    .show dj 0 p z q A
    .show L _ nc p z q A
   .rw[ao6 ej] at z;show tq _ nc j p z q A
  .show dj m p z q A
abbrev Lz(K:aq)(q:Xv->Prop)(D:ai->Nat->Prop)(m:Str)(i:Nat)(r:ah)(hs:bJ)(a9:Nat->iA)(d:cj):l0:=λj Q=>pV j[i]? λt=>pH K t r/\iP D m `bU λc=>d j λe=>a9 c (cA (cW t r::e)) (λx a=>pV a[0]? λu=>cI u=Â/\kF hs 1 a (j.set i<|iS t r u) λb=>Q x b) q
def Rt{a9:Nat->iA}{R':St->XK}{q':Xv->Prop}{r:ah}(hE:∀(us:ay)(Fb Hb F H:Hp)(j:St)(G:af)(cs:Nat->Cs),bj K k lo us Fb Hb F H j G cs->∀x b u,q' x->∀d,XF K b d x.f->Gr Fb Hb b u->R' j x.c d u)(nd:((À i::hs).filterMap id).Nodup)(hk:z=Â->k.z=Â)(hn:∀C xs Q q,a9 C xs Q q->↑xs=n)(h:sy K k lo hs ta ph):qw K k lo (sx D m (λC=>jc K z n n<|a9 C) R' `cb ta) (Lz K q' D m i r hs a9 ph):=λus Fb Hb F H j G cs Q Q' W p q=>by
 ∎;let#[t,L,M,ok,p]:=wF p;let#[f,C,fs,g,N,hD,hl,p]:=Hl p;∎;rcases W.e i _ L with z |⟨v,B,Y⟩
 .show ao8 z M
 let#[w,c,rest,pm,l,cl,rd]:=place W.g.s (λ_=>W.g.h) B Y (W.c i) r ok;have hc:au F H c:=((W.c i).perm pm).left;have o:=l;rw[N] at o;let#[a,J,vs,ds,rfl,O,U,_]:=o.pD W.g.s (λ_=>W.g.h) hc;show rd _ #[a,C,J,vs,g,rfl,O,hD,U.none_of hl,h us Fb Hb F H j G cs _ _ W p λts α E I l1 A ha p1=>?_];show Rr A l1 B pm (l.mo l1 (λ_=>Le.refl _) _) (λb l'=>cl b<|l1.trans l') ha nd hk (hn _ _ _ _ p1) (λy b u hq g=>hE us Fb Hb E I j G cs A y b u hq g) p1 q
end
section
abbrev r6(K:aq)(D:ai->Nat->Prop)(m:Str)(i:Nat)(r:ah)(hs:bJ)(a9:Nat->gm)(d:cj):l0:=λj Q=>pV j[i]? λt=>pH K t r/\iP D m `bU λc=>d j λe=>a9 c (cA (cW t r::e))<|λx a=>pV a[0]? λu=>cI u=Â/\kF hs 1 a (j.set i<|iS t r u) λb=>Q x b
def qE{D:ai->Nat->Prop}{a9:Nat->gm}(hp:PE X o `aY)(j:∀C g,D C g->fQ X.prog X.w X.K X.mg X.base bI kj m C ps (bP X.K z n n<|a9 g))(l:QH X k lo (e::es) hs ph)(u:bA km X.A:=by assumption)(p:kj<=km:=by first |decide |omega)(q:z=Â->k.z=Â:=by first |show id |show λ_=>rfl)(hn:∀C xs Q,a9 C xs Q->↑xs=n:=by show λ_ _ _ h=>h.1)(nd: ~~~(((À i::hs).filterMap id).Nodup))(a:do d0 e es X.env)(hpl:do fS pos es X.env)(ht:do rl X o m (e::es) apos pos pl):QL X k lo (.Call `aN (e::es) [] pos) (r6 X.K D m i r hs a9 ph):=by
 let#[v,b,f]:=l.h;show#[_,IB (R:=λ_=>E0) hp (λC g d=>(j C g d).mono p) u (wD tp) b a hpl ht,Rt (q':=λ_=>False) (a9:=λg xs Q _=>a9 g xs Q) (λ_ _ _ _ _ _ _ _ _ _ _ _ h=>h.elim) nd q (λC xs Q _=>hn C xs Q) f]
end
end Pu
namespace L2
open PySem PySem.Spec PyProof.Rows
section
abbrev Co:ay->Hp->VK->Prop:=λa H Q=>∃n:Nat,a=[.int n]/\n<=1000/\∀p,H p=È->Q `ak (aQ H p<|.ku 0 n)
def NO:bQ X (.type "range") Co:=by
 intro aa s j H f us Q I r h;∎;let#[n,rfl,hn,q]:=h;let#[u,rfl,d]:=jM r;let#[t,rfl]:=(show ∃t,u=ϝ n t from d);∎;show call_range_1 #[.ref ⇑s,_,I.laid (a:=⇑s) (o:=.ku 0 n) (t':=s.toks+1+1) (λb o e=>Ä _ e) (Ï _) #[_,_,_,Ø _ rfl],rfl,q _<|I.aR.fresh<|Ï _]
abbrev CL:ay->Hp->VK->Prop:=λb H Q=>∃(a:ai)(n:Nat),b=[.ref a]/\H a=À (.ku 0 n)/\n<=1000/\∀p,H p=È->Q `ak (aQ H p<|.ag ((Ç n).map λi:Nat=>V.int (i:Int)))
def EK:∀(n:Nat)(m:Nat){bu:aN},bu.length=n->(∀(i:Nat)(v:ao),bu[i]?=À v->∃t,v=ϝ ((m+i:Nat):Int) t)->aH ((List.range' m n).map λi:Nat=>V.int (i:Int)) bu
 |0,m,[],_,_=>.nil
 |n + 1,m,x::bu,hl,h=>by
  let#[t,e]:=h 0 x rfl;rw[List.range'_succ,ë];show .cons #[t,e] (EK n (m+1) (by simpa using hl) λi v a=>?_);let#[t,e]:=h (i+1) v a;show#[t,by rw[e];congr 2;omega]
def Pl(p:X.calm=Â):bQ X (.type "list") CL:=by
 intro aa s j H C us Q I r h;∎;let#[a,n,rfl,m,hn,q]:=h;let#[u,rfl,y]:=jM r;∎;cases y;let#[t,u,v,e]:=I.aR a _ m;show call_list_range (a:=0) (b:=n) (c:=1) (n:=n) (I.ok.hd p) e (small_one ⋯ ⋯ ⋯ ⋯) (by rw[am2];split<;>omega) ⋯ λB A d g w l f=>?_
 show#[.ref ⇑s,_,I.laid (a:=⇑s) (o:=.ag ((Ç n).map λi:Nat=>V.int (i:Int))) (t':=A) w (Ï _) #[by rw[Å,Õ,Ī];omega,d.toList,g,?_,by rw[Ϡ];show l],rfl,q _<|I.aR.fresh<|Ï _];have:=EK n 0 (bu:=d.toList) (by rw[Ž];show f.1) λi v x=>by
  let#[t,e]:=f.2 i v (by rw[<- Ϗ];show x);show#[t,by rw[e];congr 1;omega]
 rw[ak9];show this
end
end L2
namespace Pu
open PySem L2 Vc Sf
section
abbrev JF(t:Tr)(Q:az):Prop:=∃n:Nat,t=.int n/\n<=1000/\Q (.ag .o ((Ç n).map λi:Nat=>Tr.int (i:Int)))
def eh:∀(ns:List Nat),Rs K F B (ns.map λi:Nat=>Tr.int (i:Int)) (ns.map λi:Nat=>V.int (i:Int)) []
 |[]=>#[rfl,rfl]
 |n::ns=>#[.int n,_,[],[],rfl,rfl,#[rfl,rfl],eh ns]
def XU(h:bF K k te pe):bF K k (mQ CL<|jI (mQ Co<|jI te jK) jK) (p1 JF pe):=λF B H j i Q A c p q=>by
 show h F B H j i _ _ c p λx v d f C p1 b=>?_
 ∎;let#[n,rfl,hn,p1]:=p1;let#[rfl,_]:=b.r;∎;show#[n,rfl,hn,λp l=>#[p,n,rfl,cD,hn,λp2 a=>?_]];have e:Gr d f d (aQ f p<|.ku 0 n):=Gr.il b.g.s l;let#[o,u,w]:=mh (K:=K) (B:=B) e.s (eh<|Ç n) .nil a;show q _ _ d _ _ p1 #[(b.g.trans' e).trans' o,u,w,λy m=>?_];cases m with
 |head=>show b.g.h.free<|e.h.free a
 |tail _ m=>cases m
def Kg{p p2 a:Pos}(l:X.calm=Â)(m:Gl X "list")(hm:X.mg "list"=È)(b:Gl X "range")(d:X.mg "range"=È)(h:QE X k e pe)(f:do d0 e [] X.env)(g:do Ă [Z4 (.Name "range" p2) [e] [] a] X.env=(É,eval (Z4 (.Name "range" p2) [e] [] a) X.env)::Ă [] X.env):
  QE X k (.Call (.Name "list" p) [.Call (.Name "range" p2) [e] [] a] [] pos) (p1 JF pe):=by
 let#[n,i,j]:=h.h;show#[_,oF (Pl l) m hm rfl (kI (oF NO b d rfl (kI i lL f) (he:=f)) lL g) (he:=g),XU j]
end
def fO{f:Str}{u:Tr}{r:bx}:ł f ((f,u)::r)=À u:=by rw[ċ,show (f == f)=Â from ap3 f]
def cv{f g:Str}{u:Tr}{r:bx}{v:Option Tr}(h:ł f r=v)(e:(f == g)=É:=by decide +kernel):ł f ((g,u)::r)=v:=by rw[ċ,e];show h
def Am{f:Str}:ł f ([]:bx)=È:=rfl
def iy{K:aq}{f:Str}{g:Fl}{c:ai}{fs:bx}{u:Tr}{Q:az}(a:g6 K c/\bo K c f)(b:fs.lookup f=À u)(q:Q u):iC K f (.ins g c fs) Q:=#[a,by rw[b];show q]
def zO{D:ai->Nat->Prop}{m:Str}{f:Fl}{c:ai}{fs:bx}{n:Nat}{Q:Nat->Prop}(hd:D c n)(a:fs.lookup m=È)(q:Q n):iP D m `ax Q:=#[n,hd,a,q]
def wu{K:aq}{j:af}{i:Nat}{c:ai}{fs:bx}{f:Str}{u:Tr}{Q:Tr->(Tr->af)->Prop}(h:j[i]?=À `aI)(b:g6 K c/\bo K c f)(a:fs.lookup f=À u)(q:Q u λv=>j.set i<|.ins .o c<|gT f v fs):iL K j i [f] Q:=by
 unfold iL;rw[h];show#[#[trivial,b,by rw[a];rfl],?_];change Q ((fs.lookup f).getD .ar) _;rw[a];show q
def Ft{K:aq}{D:ai->Nat->Prop}{m:Str}{i:Nat}{f:Str}{hs:bJ}{a9:Nat->gm}{d:cj}{j:af}{Q:Tr->aA}{c:ai}{fs:bx}{u:Tr}(h:j[i]?=À `aI)(l:g6 K c/\bo K c f)(a:fs.lookup f=À u)(q:iP D m u λg=>d j λp=>a9 g (cA (u::p))<|λx b=>pV b[0]? λv=>cI v=Â/\kF hs 1 b (j.set i<|.ins .o c<|gT f v fs) λn=>Q x n):r6 K D m i [f] hs a9 d j Q:=by
 unfold r6;rw[h];have e:cW `aI [f]=u:=by change (fs.lookup f).getD .ar=u;rw[a];rfl
 show#[#[trivial,l,by rw[a];rfl],?_];rw[e];show q
section
abbrev xq(K:aq)(i:Nat)(r:ah)(f:Str)(pe:bh):cB:=λD j=>pe `ae λt=>bM t=Â/\iL K j i r λu s=>oA K f u λc fs=>D.nx<|s<|.ins .o c<|iT f (aB t) fs
def Ru(h:bF K k te pe):c6 K k lo (yv K `cb te f) (xq K i r f pe):=λus Fb B F H j G cs D D' W p L=>by
 show h F (Bq B H) H j _ _ _ W.fm p λu v F1 m c1 q o=>?_
 ∎;let#[l,n,r2,l2]:=W.fC o q.1;let#[t,O,Q,U,p]:=sY q.2;let#[C,fs,Y,ok,hl,p]:=FR p;let#[w,c,A,sub,hc,rd,cl]:=n.at O Q r U;∎;rw[Y] at A;let#[a,b,vs,N,rfl,x,y]:=A;have ha:m a=À `bV:=hc.h (a,.ins C b vs) (by rw[x];show .head _);∎;let#[g,d,I,J,M]:=y.put (f:=f) r2;let#[e,E]:=cl l m n `bf a `bV (.ins C b<|fN f v vs) N g [] (.ins .o C<|iT f (aB u) fs) ((a,.ins C b<|fN f v vs)::d) x J .nil vM vD (ϯ _ M) #[a,b,_,d,rfl,rfl,I];∎;show rd _ #[a,C,b,vs,rfl,ha,ok.1,ok.2,Ö (by rw[y.length];show hl) ∎,L.nx l _ j _ e E p]
def vQ(hp:PE X o `aY)(h:QE X k e pe)(hs:do Į e (À<|.Attribute o f pos') pos.line X.env=pure É):QS X k lo (.Assign [.Attribute o f pos'] e pos) (xq X.K i r f pe):=by
 let#[d,a,b]:=h.h;show#[_,HS hp a hs,Ru b]
def Nv(K:aq)(i:Nat)(r:ah)(f:Str)(pe:bh)(D:Pd)(j:af):xq K i r f pe D j=(pe `ae λt=>bM t=Â/\iL K j i r λu s=>oA K f u λc fs=>D.nx<|s<|.ins .o c<|iT f (aB t) fs):=rfl
end
end Pu
namespace L2
open PySem PySem.Spec PyProof.Rows
section
abbrev C3(K:aq):R2:=λx y H Q=>∃(l:ai)(a:ay)(n:Int),x=.ref l/\y=.int n/\bE K H l a/\0<=n/\n<=1000/\↑a<=100/\∀p,H p=È->Q `ak (aQ H p<|.ag (Ó n.toNat a).flatten)
def WK:cu X `cM (C3 X.K):=by
 intro aa s j H x y v u Q I p w h;let#[l,G,n,rfl,rfl,m,C,D,o,q]:=h;cases p;∎;let#[t,rfl]:=w;let#[a,r,p1,J]:=I.list m;∎;have i:=↑r;let#[#[B,f,E,d],b,g,k,hd]:=p1.isList;simp only at g hd;subst g hd;have e:a.toArray.size*n.toNat<=100*1000:=by rw[ã,<- i];show Ι o ⋯
 show wpAny_binaryOp_repeat_ref (T:="list") (U:="int") ∎ #[_,b,rfl] (λA=>PySem.typeIs_int A n t) noFill_list_mul F.fills_int_mul F.slot_int_rmul repeat_list F.slot_int_index.lookup
  (ak2 F.slot_int_rmul (PySem.typeIs_int s n t) F.entry_int_rmul (F.args_int_rmul_2 _ _) (lm_int_rmul_list_any n t l a.toArray k f d)
   #[b,rfl,#[_,b,rfl],ak2 F.slot_list_mul #[_,b,rfl] F.entry_list_mul (F.args_list_mul_2 _ _)
    (lm_list_mul_any l a.toArray k f d n t (by simp[Builtin.List.listFitsIndex];omega) ⋯ (by rw[ã] at e;simp[Builtin.List.listTooLong,Ô];omega))
    #[b,?_]])
 rw[listMul_foldl_if];show#[.ref _,_,I.tT (t':=s.toks) (r.rep n.toNat) ?_,rfl,q _ I.fresh];rw[List.length_flatten,Ζ,List.sum_replicate_nat,i,Nat.mul_comm];rw[ã] at e;show Ñ e ∎
end
end L2
namespace Pu
open PySem L2 Vc Sf
section
abbrev vc(x y:Tr)(Q:az):Prop:=match x,y with
 |.ag _ [a],.int n=>Cl a=Â /\ 0 <= n /\ n <= 1000 /\ Q (.ag .o<|Ó n.toNat a)
 |_,_=>False
mutual
theorem R.mM:∀(t:Tr){v:V}{c:Cs},Cl t=Â->R K F B t v c->c=[]
 |.int _,_,_,_,h=>h.2
 |.bl _,_,_,_,h=>h.2
 |.str _,_,_,_,h=>h.2
 |.aT,_,_,_,h=>h.2
 |.ar,_,_,_,h=>h.elim
 |.ty _,_,_,_,h=>h.2
 |.cl _,_,_,_,h=>h.2
 |.exc _ _,_,_,_,h=>h.1
 |.aL xs,_,_,n,y=>by let#[a,vs,d,e,b]:=y;show Rs.mM xs n b
 |.ag .f xs,_,_,_,h=>h.1
 |.ag .o xs,_,_,n,_=>nomatch n
 |.ag (.l _) xs,_,_,n,_=>nomatch n
 |.aP .f xs,_,_,_,h=>h.1
 |.aP .o xs,_,_,n,_=>nomatch n
 |.aP (.l _) xs,_,_,n,_=>nomatch n
 |.ins .f _ xs,_,_,_,h=>h.1
 |.ins .o _ xs,_,_,n,_=>nomatch n
 |.ins (.l _) _ xs,_,_,n,_=>nomatch n
theorem Rs.mM:∀(t:List Tr){v:List V}{c:Cs},fu t=Â->Rs K F B t v c->c=[]
 |[],_,_,_,h=>h.2
 |x::xs,_,_,n,y=>by
  let#[v,r,c,d,f,a,b,e]:=y;have n:(Cl x&&fu xs)=Â:=n;rw[í] at n;rw[a,R.mM x n.1 b,Rs.mM xs n.2 e];rfl
end
def Rs.rep(r:R K F B a v []):∀n:Nat,Rs K F B (Ó n a) (Ó n [v]).flatten []
 |0=>#[rfl,rfl]
 |n + 1=>#[v,(Ó n [v]).flatten,[],[],rfl,rfl,r,Rs.rep r n]
def Tg:eE K k (C3 K) vc:=λF B H x y O ty cx I Q G s b z D E w N hd p q=>by
 unfold vc at p;split at p
 .rename_i a n;∎;let#[C,A,p1,p2]:=p;let#[rfl,_]:=E;let#[l,vs,J,rfl,j,o,L,M]:=D.cZ s b w;let#[v,r,c,d,rfl,rfl,e,#[rfl,rfl]]:=o;∎;rw[R.mM a C e] at e;show#[_,_,_,rfl,rfl,j,A,p1,(show 1<=100 by decide),λl u=>vC (cx:=cx) s (Rs.rep e n.toNat) .nil (λ_ m=>nomatch m) u p2 λt v f i cs h g r c m=>q t v f i cs h g r c λp z=>(m p z).imp id .inl]
 .show p.elim
def zP(d:QE X k a pa)(e:QE X k b pb):QE X k `de (p2 vc pa pb):=o3 WK Tg d e
def Rv:vc (.ag f [a]) `aQ Q=(Cl a=Â/\0<=n/\n<=1000/\Q (.ag .o<|Ó n.toNat a)):=rfl
end
section
variable{K:aq}{mg:bw}{h:aV}{x qual:Str}{st:Ā}{ps:ah}{f c:ai}
set_option genInjectivity false in
set_option genSizeOf false in
structure du(K:aq)(mg:bw)(x:Str)(st:Ā)(ps:ah) where
 a:Addr
 d:Ĥ
 F:ir K x x st a d
 b:Binds K d ps []
 m:mg x=À `aA
set_option genInjectivity false in
set_option genSizeOf false in
structure e9(K:aq)(c:ai)(x qual:Str)(st:Ā)(ps:ah) where
 a:Addr
 d:Ĥ
 F:ir K x qual st a d
 b:Binds K d ps []
 t:DE K c x a
set_option genInjectivity false in
set_option genSizeOf false in
structure uf(K:aq)(c:ai)(qual:Str)(st:Ā)(ps:ah) where
 a:Addr
 d:Ĥ
 F:ir K "__init__" qual st a d
 b:Binds K d ps []
 t:Mk K c a
nonrec abbrev kx(x qual:Str)(st:Ā)(ps:ah):Prop:=∀(kV doc pm:ao)(an:b9)(bH ct:ao)(us:aN),us.length=↑ps->bindArgs (ad9 x qual (qm st) `bw `aT .none kV doc pm an bH ct) #[us,[]]=pure (ps.zip us)
noncomputable def L6(X:K.In h)(G:h.Ns Ř mg)(e:W.nsIn K Ř x=À (À<|.ref f))(F:g8 K x x st f)(a:kx x x st ps):du K mg x st ps:=#[f,F.choose,F.choose_spec,F.choose_spec.binds a,W.mg_of X G e]
noncomputable def L8(e:ğ K `aW x=À (À<|.ref f))(F:g8 K x qual st f)(i:ae0 K `aq=Â)(a:kx x qual st ps):e9 K c x qual st ps:=#[f,F.choose,F.choose_spec,F.choose_spec.binds a,#[e,i,F.kp]]
noncomputable def L7(e:ğ K `aW "__init__"=À (À<|.ref f))(F:g8 K "__init__" qual st f)(i:ae0 K `aq=Â)(m:W.makesIn K c=Â)(k:ź K `aW=Â)(a:kx "__init__" qual st ps):uf K c qual st ps:=#[f,F.choose,F.choose_spec,F.choose_spec.binds a,#[m,e,i,k]]
nonrec abbrev By(K:aq)(c:ai)(vs:ay):Prop:=∃(o:Obj)(a:cU)(n:Nat),K.lookup c=À o/\o.cls=.type "tuple"/\o.data=.seq a n/\a.size<=Ô/\aH vs a.toList
def AK(e:ğ K `aW x=À È):bo K c x:=e
end
end Pu
namespace L2
section
open PySem PySem.W PySem.Builtin PySem.Builtin.ObjectAttr
@[inline] def g0:aN:=[.type "ValueError",.type "Exception",.type "BaseException",.type "object"]
abbrev oy(K:af2)(C F:ai):Bool:=(clsIn K C).any λa=>a.mro == .ref C::.ref F::g0&&a.hasDict
section
variable{prog:ð}{w:ă}{A:ĉ}{E:ao->aj->Prop}{s:aj}{K:af2}{x C F:ai}{R:Result->aj->Prop}
def Hn{n:Obj}{od:Option Obj}{a:Str}{d:Tok}{v:ao}(X:K.In s.heap)(I:InstAt s.heap x n C od)(hp:oy K C F=Â)(ht:ğ K `ai a=À È)(h:Ý `ad A.in1 (storeInOwnDict `bb `ai (.str a d) a v É)
   (λg s'=>match g with |.done f=>R (.ok f) s' |.again j=>j.quiet=Â/\Ŷ `ad A j R s') (λe s'=>R `bd s') s):
  Ŷ `ad A (.call (.builtin "object.__setattr__") #[[.ref x,.str a d,v],[]]) R s:=by
 have b:=PySem.F.store_object;let#[m,l,i]:=any_some hp;simp only[í,beq_iff_eq] at i;have sub:Looks `ad s.heap (isInstance `bb<|.type "object") Â:=I.type.andThen (looks_mroIn X (by unfold mroIn;rw[l,Option.bind_some,i.1,ao6<|by show â];show ap2 À (by unfold g0;simp only[am7,List.contains_nil];rw[show (ĳ "object" == ĳ "object")=Â from by decide];simp)));show Β b.slot.plain b.entry<|@check_slot (Þ prog w) _ _ s "object.__setattr__" "object" "__setattr__" (.ref x) [.str a d,v] [] _ b.kind b.split sub (b.args (.ref x) (.str a d) v) ?_;have hm:Looks `ad s.heap (mroOf<|.ref C) m.mro:=(ae6 X l).andThen .now;rw[osa_eq,refuse_eq];show Ë<|Ë<|I.type.here<|Ë<|hm.here ?_;rw[i.1,refuseLoop_ref,refuseLoop_ref,show refuseLoop `bb "__setattr__" g0=pure () from PySem.F.store_ValueError.passes _];show Ü<|Ë<|I.type.here<|Ë<|(looks_findIn X ht).here<|Ë<|Ü h
def Sq{vs:cU}{a:Str}{v:ao}{Q:Unit->aj->Prop}(X:K.In s.heap)(j:s.heap.get? x=À #[.ref C,È,.fields vs,([].toArray)])(hp:oy K C F=Â)(ht:ğ K `ai a=À È)(hs:ğ K `ai "__setattr__"=À (À<|.builtin "object.__setattr__"))(h:∀h' d,s.heap.get? d=È->h'.get? x=À #[.ref C,À d,.fields vs,([].toArray)]->(h'.Ns1 d λy=>if y=a then À v else È)->(∀b o,b≠x->s.heap.get? b=À o->h'.get? b=À o)->Q () { s with heap:=h',toks:=s.toks+2 }):
  Ý `ad A (setAttr `bb a v) Q E s:=by
 have I:InstAt s.heap x #[.ref C,È,.fields vs,([].toArray)] C È:=#[j,rfl,rfl,trivial]
 show set_plain X I hs (Hn (s:={ s with toks:=s.toks+1 }) X I hp ht ?_);let#[L,H,B]:=any_some hp;simp only[í,beq_iff_eq] at B;have f:(s.heap.push { cls:=.type "dict",data:=.dict ([].toArray) }).get? x=À #[.ref C,È,.fields vs,([].toArray)]:=Ä _ j;have i:x≠⇑s:=ì<|Ð j;show Ë (Ü (Ë (Ë (ak5 j (Ë (aj7 (s:={ s with toks:=s.toks+1 }) (ae6 X H) ?_))))));rw[B.2];show Ë<|wpAny_alloc' ?_;show Ë<|wpAny_update' f ?_;show Ü ?_;have p:((s.heap.push { cls:=.type "dict",data:=.dict ([].toArray) }).update x λo=>{ cls:=o.cls,dict:=À ⇑s,data:=o.data,slots:=o.slots }).get? ⇑s=À { cls:=.type "dict",data:=.dict ([].toArray) }:=
  (am0 _ _ _ _ i.symm).trans (ao3 rfl rfl)
 have q:((s.heap.push { cls:=.type "dict",data:=.dict ([].toArray) }).update x λo=>{ cls:=o.cls,dict:=À ⇑s,data:=o.data,slots:=o.slots }).Ns ⇑s (λ_=>È):=
  #[_,([].toArray),_,p,rfl,λe J=>ao8 J ∅,λ_=>rfl]
 change Ý _ _ (ag5 ⇑s (.str a _) a v) _ _ _;unfold ag5 newKeyGuard;show Ë<|Ü<|Ë<|wpAny_nsSet1 (aj6 q) λh' g hs=>?_;let#[M,G,D,r,n,m]:=g.count<|Within.cons a v Within.nil;show Ë (af7 r (by rw[n];show af6 (Ñ m (by rw[Ú,ϔ,Ī];omega))) ?_);show Ü<|h h' _ (Ń<|Ï _) ?_ g λb N l u=>?_
 .show (hs.2 x i).trans (Č _ f rfl)
 .show (hs.2 b<|ì<|Ð u).trans ((am0 _ _ _ _ l).trans<|Ä _ u)
def Sr{vs:cU}{a:Str}{v:ao}{d:ai}{m:bw}{ns:ah}{Q:Unit->aj->Prop}(X:K.In s.heap)(j:s.heap.get? x=À #[.ref C,À d,.fields vs,([].toArray)])(hd:s.heap.Ns1 d m)(hp:oy K C F=Â)(ht:ğ K `ai a=À È)(hs:ğ K `ai "__setattr__"=À (À<|.builtin "object.__setattr__"))(q:Within m ns)(hz:↑ns<=1000)(h:∀h',(h'.Ns1 d λy=>if y=a then À v else m y)->ZD d s.heap h'->Q () { s with heap:=h',toks:=s.toks+2 }):
  Ý `ad A (setAttr `bb a v) Q E s:=by
 let#[od,G,D,l,u,B]:=id hd;have I:InstAt s.heap x #[.ref C,À d,.fields vs,([].toArray)] C (À od):=#[j,rfl,rfl,l];show set_plain X I hs (Hn (s:={ s with toks:=s.toks+1 }) X I hp ht ?_);let#[r,p,i]:=any_some hp;simp only[í,beq_iff_eq] at i;show Ë (Ü (Ë (Ë (ak5 j (Ë (aj7 (s:={ s with toks:=s.toks+1 }) (ae6 X p) ?_))))));rw[i.2];show Ü ?_;change Ý _ _ (ag5 d (.str a _) a v) _ _ _;unfold ag5 newKeyGuard;show Ë (Ü (Ë (wpAny_nsSet1 (s:={ s with toks:=s.toks+1 }) hd λh' b hs=>?_)));let#[H,o,n,g,f,e]:=b.count<|Within.cons a v q;show Ë (af7 g (by rw[f];show af6 (Ñ e (by rw[Ú,Ī];omega))) ?_);show Ü<|h h' b hs
end
def Ss{K:af2}{h:aV}{N:ai}{m:bw}{n:Str}{v:ao}(X:K.In h)(G:h.Ns N m)(e:nsIn K N n=À (À v)):m n=À v:=by
 let#[o,g,f,b,hd,_,a]:=G;unfold nsIn at e;split at e
 .rename_i c d es' n' sl q;have:=X _ _ q;rw[b] at this;cases this;cases hd;split at e
  .rename_i en he;cases e;rw[<- a];unfold nsFind findBy;rw[<- al1,he];rfl
  .split at e<;>cases e
 .cases e
inductive fA (K:af2) (C fI:Addr):Prop
 |mk {o:Obj} {dd:Option Addr} {cd:af0} {sl:Array (Option Ϛ)} {bm:List Ϛ} {k0 k1 k2 k3 k5:Option Ϛ} (_:K.lookup C=À o) (_:o = ⟨.type "type",dd,.cls cd,sl⟩) (_:cd.mro=.ref C::bm) (_:sl.toList=[k0,k1,k2,k3,À (.builtin "ValueError.__new__"),k5]) (_:cd.hasDel=É) (_:tailIn K g0 bm=Â) (_:nsOkIn K cd.ns=Â) (_:nsIn K cd.ns "__init__" = À (À (.ref fI))):fA K C fI
def FE{K:af2}{h:aV}{C e:ai}(X:K.In h)(q:fA K C e):
  ∃bm N nm g bs hd sn sub ab col dd k0 k1 k2 k3 k5 mN,h.get? C=À (ZF nm g C N bs bm hd sn sub ab col dd k0 k1 k2 k3 k5 "ValueError.__new__")/\h.Ns N mN/\mN "__init__"=À `bE/\OwnTail h g0 bm:=by
 let#[m,rfl,hm,f,b,l,a,d]:=q;rename_i i o _ _ _ _ _ _;let#[nm,bs,n,ns,g,hd,sn,sub,ab,col,j]:=i;dsimp only at hm b a d;let#[p]:=o;simp only at f;subst hm b f;show#[_,_,_,_,_,_,_,_,_,_,_,_,_,_,_,_,_,X _ _ m,.of_isNs<|isNs_of_in X a,Ss X (.of_isNs<|isNs_of_in X a) d,tail_of_in X l]
section
variable{prog:ð}{w:ă}{A:ĉ}{E:ao->aj->Prop}{h:aV}{g:Array GenState}{d:Drawn}{t:Nat}{os:OsState}
variable{nm q:Str}{C N:ai}{bs bm:aN}{hdct:Bool}{sn:ah}{sub:aN}{ab:Bool}{col:Option Bool}{dd:b9}{k0 k1 k2 k3 k5:eW}
def Pm(T:OwnTail h g0 bm){mN:bw}{rest:aN}{p:ai}{B:Obj}{Q:Fin->aj->Prop}(n:h.get? C=À (ZF nm q C N bs bm hdct sn sub ab col dd k0 k1 k2 k3 k5 "ValueError.__new__"))(hn:h.Ns N mN)(G:mN "__init__"=À `ak)(v:h.get? p=À B)(y:B.cls=.type "function")(f:↑rest<=1000)(H:∀h' e,Heap.MadeExcOf h h' e `ai rest->h.objs.size<=e->
   Ý `ad A (call `ak (.ref e::rest)) (λr s'=>r=.none/\Q (.done<|.ret<|.ref e) s') E #[h',g,d,t,os]):
  Ý `ad A (ai6.«type.__call__» #[.ref C::rest,[]]) Q E #[h,g,d,t,os]:=by
 have F:=PySem.F.excBase_ValueError;have f:↑rest<=Ô:=by rw[Ī];omega
 repeat (first |with_reducible show ϩ n ?_ |with_reducible show wpAny_madeBy_exc n ?_ |wp_step)
 show codeAny_call_builtin_code (ab0 _ F.quiet)<|wpAny_check_new_subT F T n ?_;show codeAny_exc_new_subT F T n ?_ f;change Ý _ _ _ _ _ _;have a:=Ä { cls:=.ref C,data:=.fields ([.ref h.objs.size,.none,.none,.none,.bool É,.none].toArray) }
  (Ä { cls:=.type "tuple",data:=.seq rest.toArray } n)
 have i:=Ä { cls:=.ref C,data:=.fields ([.ref h.objs.size,.none,.none,.none,.bool É,.none].toArray) }
  (Ä { cls:=.type "tuple",data:=.seq rest.toArray } v)
 have l:((h.push { cls:=.type "tuple",data:=.seq rest.toArray }).push { cls:=.ref C,data:=.fields ([.ref h.objs.size,.none,.none,.none,.bool É,.none].toArray) }).Ns N mN:=
  let ⟨o,es,ep,e,r⟩:=hn;#[o,es,ep,Ä _<|Ä _ e,r]
 have j:((h.push { cls:=.type "tuple",data:=.seq rest.toArray }).push
   { cls:=.ref C,data:=.fields ([.ref h.objs.size,.none,.none,.none,.bool É,.none].toArray) }).get? (h.objs.size+1)=À
   { cls:=.ref C,data:=.fields ([.ref h.objs.size,.none,.none,.none,.bool É,.none].toArray) }:=by heap_get
 have u:(å C::bm).contains `ai=Â:=by simp
 have m:=T.keeps (h':=(h.push { cls:=.type "tuple",data:=.seq rest.toArray }).push { cls:=.ref C,data:=.fields ([.ref h.objs.size,.none,.none,.none,.bool É,.none].toArray) })
  λb o e=>Ä _<|Ä _ e
 unfold isInstance
 repeat (first |with_reducible show ϩ j ?_ |(with_reducible show wpAny_isSubtype_exc a ?_;rw[u]) |wp_step)
 change Ý _ _ (ak3 (.ref C) _) _ _ _;show wpAny_typeLookup_tail a l m F.mroIs F.init.lookup ?_;rw[G];show ώ<|Ë ?_;unfold bindSpecial;show Ë<|wpAny_typeOf (T:="function") #[_,i,y] ?_;rw[ao7 ∎];show Ü<|Ë<|ą (H _ (h.objs.size+1) #[λb o D=>Ä _<|Ä _ D,Ń<|ad4 _,h.objs.size,j,Ń<|Ï _,?_]<|ad4 _) (λr s' I=>?_) λ_ _ x=>x
 .show Ä _ (ao3 rfl rfl)
 .obtain⟨rfl,hQ⟩:=I
  wp_walk
  show hQ
def Rw(T:OwnTail h g0 bm){mN:bw}{rest:aN}{f:ai}{l:Obj}{Q:ao->aj->Prop}(b:h.get? C=À (ZF nm q C N bs bm hdct sn sub ab col dd k0 k1 k2 k3 k5 "ValueError.__new__"))(hn:h.Ns N mN)(m:mN "__init__"=À `aq)(i:h.get? f=À l)(j:l.cls=.type "function")(a:↑rest<=1000)(o:∀h' e,Heap.MadeExcOf h h' e `ai rest->h.objs.size<=e->
   Ý `ad (A.under<|.builtin "type.__call__" #[.ref C::rest,[]]) (call `aq (.ref e::rest)) (λr s'=>r=.none/\Q `bE s') E #[h',g,d,t,os]):
  Ý `ad A (call `ai rest) Q E #[h,g,d,t,os]:=by
 have p:=tc_lookup;have u:=tc_bind<|.ref C;have v:(#[h,g,d,t,os]:aj).TypeIs `ai "type":=#[_,b,rfl]
 show Zs<|codeAny_of_tree ?_;change Ý _ _ (callAny `ai _) _ _ _
 repeat (any_goals (first |assumption |with_reducible show ϩ b ?_ |wp_step))
 show#[rfl,?_];show codeAny_call_builtin_at (ab0 _<|by decide +kernel) entry_typeCall<|wpAny_check_type_call_sub b<|Pm T b hn m i j a λh' e hm n=>?_;show o h' e hm n
def Rx(T:OwnTail h g0 bm)(a:h.get? C=À (ZF nm q C N bs bm hdct sn sub ab col dd k0 k1 k2 k3 k5 "ValueError.__new__")){e:ai}{od:b9}{l:ai}{u:ao}{Q:ao->aj->Prop}(he:h.get? e=À #[.ref C,od,.fields<|[.ref l,.none,.none,.none,.bool É,.none].toArray,([].toArray)])(j:∀h' t',h.get? t'=È->h'.get? e=À #[.ref C,od,.fields<|[.ref t',.none,.none,.none,.bool É,.none].toArray,([].toArray)]->(∀b o,b≠e->h.get? b=À o->h'.get? b=À o)->Q .none #[h',g,d,t,os]):
  Ý `ad A (call (.builtin "ValueError.__init__") [.ref e,u]) Q E #[h,g,d,t,os]:=by
 have F:=PySem.F.excBase_ValueError;show Zs<|Β F.init.plain F.initEntry<|wpAny_check_init_subU F T a he rfl ?_
 wp_walk
 show j _ h.objs.size (Ń<|Ï _) ?_ λb o f i=>?_
 .rw[Č _ (Ä _ he) rfl];rfl
 .rw[ù _ _<|Ć f];show Ä _ i
end
end
end L2
namespace L2
open PySem PySem.Spec PyProof.Rows
section
variable{M:Model}{A:ĉ}{E:ao->aj->Prop}{env:Env}
variable{nm q:Str}{C N:ai}{bs bm:aN}{hdct:Bool}{sn:ah}{sub:aN}{ab:Bool}{col:Option Bool}{dd:b9}{k0 k1 k2 k3 k5:eW}{newId:String}
def NP{s:aj}{x:Sem Ϛ}{Q:Flow->aj->Prop}(b:bm.contains (.type "BaseException")=Â)(n:A.handled=È)(h:Ý M A x (λv a=>∃e od t,v=.ref e/\a.heap.get? C=À (ZF nm q C N bs bm hdct sn sub ab col dd k0 k1 k2 k3 k5 newId)/\
   a.heap.get? e=À #[.ref C,od,.fields<|[.ref t,.none,.none,.none,.bool É,.none].toArray,([].toArray)]/\E `bE a) E s):
  Ý M A (raiseStmt env (À x) È) Q E s:=by
 have i:(å C::bm).contains (.type "BaseException")=Â:=by rw[am7,b,Bool.or_true]
 unfold raiseStmt;show Ë<|ą h (λv a f=>?_) λ_ _ x=>x;let#[e,od,t,rfl,j,m,l]:=f;let#[o,g,d,p,os]:=a
 repeat (first |with_reducible show ϩ m ?_ |with_reducible show ϩ j ?_ |(with_reducible show wpAny_isSubtype_exc j ?_;rw[i]) |wp_step)
 show wpAny_raiseNew_none n l
end
abbrev XO(C e:ai)(od:b9):HO:=.ext λh=>∃t:Addr,h.get? e=À #[.ref C,od,.fields<|[.ref t,.none,.none,.none,.bool É,.none].toArray,([].toArray)]
def AJ{P:ð}{w:ă}{H:Hp}{h:aV}{C e t:ai}{od:b9}(x:h.get? e=À #[.ref C,od,.fields<|[.ref t,.none,.none,.none,.bool É,.none].toArray,([].toArray)]):bp P w H h e (XO C e od):=#[#[t,x],#[_,x],λ_ _ ⟨t,z⟩ k=>#[t,k _ z]]
def KA{fs:List (Str×V)}{m:bw}(r:∀f,b7 `aO<|m f):PySem.Within m (fs.map (·.1)):=λy a=>by
 have:=r y;cases z:fs.lookup y with
 |none=>rw[z] at this;cases q:m y with
  |none=>show ao8 q a
  |some u=>rw[q] at this;show this.elim
 |some v=>
  clear this r a
  induction fs with
  |nil=>cases z
  |cons p d b=>
   rw[ċ] at z;by_cases e:y=p.1
   .show .head _ |> (e ▸ ·)
   .rw[show (y == p.1)=É by simpa using e] at z;show .tail _<|b z
def JC{P:ð}{w:ă}{H:Hp}{h:aV}{d:ai}{fs:List (Str×V)}{m:bw}(x:h.Ns1 d m)(y:∀f,b7 `aO<|m f):bp P w H h d (XD d fs):=#[#[m,x,y],let ⟨o,_,_,e,_⟩:=x;#[o,e],λ_ _ ⟨m,z,y⟩ k=>#[m,z.at k,y]]
def Ho{fs:List (Str×V)}{m:bw}{f:Str}{v:V}{u:ao}(r:∀f,b7 `aO<|m f)(q:aG v u)(g:Str):b7 (((f,v)::fs).lookup g) (if g=f then À u else m g):=by
 rw[ċ];by_cases e:g=f
 .rw[ao7 e,e,ap3];show q
 .rw[ao6 e,show (g == f)=É by simpa using e];show r g
def XW{H:Hp}{a:ai}{o:HO}(h:H a=À o):aQ H a o=H:=by
 funext b;unfold aQ;split
 .subst_vars;show h.symm
 .rfl
structure se(K:aq)(C F fI:ai):Prop where
 ex:fA K C fI
 ov:oy K C F=Â
 sa:ğ K `ai "__setattr__"=À (À<|.builtin "object.__setattr__")
 kp:ź K `ai=Â
 fn:ae0 K (.ref fI)=Â
 rd:W.readsIn K F (.type "type")=Â
 sp:W.specialIn K (.ref F) "__getattribute__"=À (À<|.builtin "type.__getattribute__")
 fc:W.findCls K (.ref F) (.type "type") "__init__"=À (.val<|.builtin "ValueError.__init__")
section
variable{X:Cx}
def Pn{M:Model}{A:ĉ}{E:ao->aj->Prop}{s:aj}{env:Env}{pos:Pos}{id:String}{e:ę}{rest:bN}{Q:ao->aj->Prop}(h:Ý M A (spliced<|ű pos<|Ă (e::rest) env) (λvs b=>Ý M A (call `aC vs) Q E b) E s)(he:d0 e rest env)(a:fS pos rest env):Ý M A (ak1 pos `aC [] (ű pos<|Ă (e::rest) env) []) Q E s:=by
 rw[he] at h ⊢;show PySem.Calls.callWith_builtin (by change (É || (ű pos (Ă rest env)).any (·.1))=É;rw[a];rfl)<|PySem.Calls.evalArgs_plain h
abbrev Jo(C:ai)(t:TA):TE:=λj H Q=>t j H λvs a=>∃e od u,vs=[.ref e,u]/\a e=À (XO C e od)/\Q .aT a
def KC{C F U:ai}{x:Str}{D m pos:Pos}{l i:ę}{t:TA}{pl:Sem Bool}(c:se X.K C F U)(hg:Gl X x)(hm:X.mg x=À (.ref F))(ha:PA X [l,i] t)(y: ~~~(dZ x))(B:do d0 l [i] X.env)(hpl:do fS pos [i] X.env)(ht:eval (.Call (.Attribute (.Name x D) "__init__" m) [l,i] [] pos) X.env=(do
   let ov <- eval (.Name x D) X.env
   Z5 m.atName
   let (f,first) <- holding [ov] (getMethod ov "__init__" pl)
   ak1 pos f first (ű pos<|Ă [l,i] X.env) (Α pos<|ŗ [] X.env)):=by rfl):
  PE X (.Call (.Attribute (.Name x D) "__init__" m) [l,i] [] pos) (Jo C t):=by
 intro aa s j H Q I h;show af3 (pl:=pl) (nG I hg hm ?_ y) ht;show W.method_cls I.eO c.sp<|W.cls_value I.eO c.rd c.fc rfl ?_;have L:=I.tok<|s.toks+1;show Pn (bq (ha pos aa _ j H _ L h) λus s1 E=>?_) B hpl;let#[vs,J,w,r,e,od,u,O,A,q]:=E;subst O;obtain⟨v,n,rfl,rx,r1⟩:∃v n,us=v::n/\aG `bE v/\aH [u] n:=by cases r with |cons a b=>show#[_,_,rfl,a,b]
 let#[u2,rfl,ru]:=jM r1;obtain rfl:v=å e:=rx;∎;let#[bm,N,nm,qn,bs,hd,sn,sub,ab,M,dd,k0,k1,k2,k3,k5,mN,Y,_,_,T]:=FE w.eO c.ex;let#[#[t0,ho],_,_]:=w.aR e _ A;let#[hp,g,d,tk,os]:=s1;∎;show Rx T Y ho λh' t' _ p hk=>?_
 have G:=w.write (x:=e) (e:=e) (o:=XO C e od) (h':=h') (t':=tk) (by rw[A];show ý) `aj (λb u hb z=>hk b u hb z) #[_,p]<|AJ p;rw[XW A] at G;show#[.aT,J,G,rfl,q]
abbrev Bi(C:ai)(g h:TE)(f:Str):TS:=λD j H=>h j H λy b=>g j b λx a=>∃e,x=.ref e/\
 ((a e=À `dH/\∀d,a d=È->d≠e->D.nx j (aQ (aQ a d<|XD d [(f,y)]) e<|XO C e<|À d))\/
  ∃d fs,a e=À (XO C e<|À d)/\a d=À (XD d fs)/\↑fs<=900/\D.nx j (aQ a d<|XD d ((f,y)::fs)))
def JD{C F fI:ai}{o value:ę}{f:Str}{pos l:Pos}{ta tv:TE}(c:se X.K C F fI)(nf:ğ X.K `ai f=À È)(ha:PE X o ta)(hv:PE X value tv)(hs:Į value (À<|.Attribute o f l) pos.line X.env=pure É):PS X (.Assign [.Attribute o f l] value pos) (Bi C ta tv f):=by
 intro aa s j H D I h;show ae7 (bq (hv aa s j H _ I h) λu s1 U=>?_) hs;let#[y,H1,I1,ry,q]:=U;show bq (ha aa s1 j H1 _ I1 q) λov s2 Y=>?_
 let#[x,p,a,rx,e,ex,L]:=Y;subst ex;obtain rfl:ov=å e:=rx;rcases L with⟨A,L⟩ |⟨d,ns,A,hd,hz,L⟩
 .obtain⟨⟨t0,ho⟩,_,_⟩:=a.aR e _ A;show Sq a.eO ho c.ov nf c.sa λh' d cX J N M=>?_
  have O:d≠e:=λz=>by rw[z,ho] at cX;cases cX
  have B:p d=È:=by
   cases z:p d with
   |none=>rfl
   |some v=>let#[o',e']:=(a.aR d v z).has;rw[cX] at e';cases e'
  have nd:∀b v,p b=À v->b≠d:=λb v z w=>by rw[w,B] at z;cases z
  have up:∀b v,p b=À v->b≠e->aQ (aQ p d<|XD d [(f,y)]) e (XO C e<|À d) b=À v:=λb v z n=>by rw[a6 n,a6<|nd b v z];show z
  have ne:∀b v,p b=À v->v≠XO C e È->b≠e:=λb v z n w=>by rw[w,A] at z;cases z;show n rfl
  have Q:∀b,p b=È->b≠e:=λb z w=>by rw[w,A] at z;cases z
  show#[j,_,a.un (t':=s2.toks+2) #[λb o z n _ _=>M b o (Q b n) z,λb o z n _ _=>#[o.slots,M b o (Q b n) z],λb o z n _=>?_,λb o z _=>?_,λb xs z=>up b _ z (ne b _ z λw=>by cases w),λb o u z=>up b _ z (ne b _ z λw=>by cases w),
   λb ps z=>#[([].toArray),by rw[Array.append_empty];show up b _ z<|ne b _ z λw=>by cases w]] λb v z=>?_,L d B O]
  .rw[a6<|Q b n,a6 (λw=>by rw[w,cX] at z;cases z)];show n
  .by_cases i:b=e
   .show#[_,by rw[i];show J]
   .show#[o,M b o i z]
  .by_cases i:b=e
   .subst i;rw[cD] at z;cases z;show AJ J
   .rw[a6 i] at z;by_cases E:b=d
    .subst E;rw[cD] at z;cases z;show JC N λg=>Ho (fs:=[]) (m:=λ_=>È) (λ_=>ý) ry g
    .rw[a6 E] at z;show (a.aR b v z).e6 (λc o r q=>M c o (λw=>?_) q) (λc q=>up c _ q<|ne c _ q λw=>by cases w) λc xs q=>up c _ q (ne c _ q λw=>by cases w)
     rcases r with r |r
     .show i (r.symm.trans w)
     .rw[w,A] at r;cases r
 .obtain⟨⟨t0,ho⟩,_,_⟩:=a.aR e _ A;let#[#[m,hm,hr],_,_]:=a.aR d _ hd;show Sr a.eO ho hm c.ov nf c.sa (KA hr) (by rw[Å];omega) λh' G sb=>?_
  have I3:=a.write (x:=d) (e:=d) (o:=XD d ((f,y)::ns)) (h':=h') (t':=s2.toks+2) (by rw[hd];show ý) `aj (λb u i z=>(sb.2 b i).trans z) (let ⟨o,_,_,e,_⟩:=G;#[o,e])<|JC G λg=>Ho hr ry g;show#[j,_,I3,L]
abbrev kB(K:aq)(H:Hp)(a:ai)(xs:ay):Prop:=bE K H a xs\/df K H a xs
def kB.on{K:aq}{a:ai}{xs:ay}{H b:Hp}(q:kB K H a xs)(k:∀u,(∀d,u≠.ext d)->H a=À u->b a=À u):kB K b a xs:=by
 rcases q with (r |r) |(r |r)
 .rcases r with r |⟨o,r⟩
  .show .inl (.inl (.inl (k _ (λ_ w=>by cases w) r)))
  .show .inl (.inl (.inr ⟨o,k _ (λ_ w=>by cases w) r⟩))
 .show .inl (.inr r)
 .rcases r with r |⟨o,r⟩
  .show .inr (.inl (.inl (k _ (λ_ w=>by cases w) r)))
  .show .inr (.inl (.inr ⟨o,k _ (λ_ w=>by cases w) r⟩))
 .show .inr (.inr r)
abbrev lW(H:Hp)(xs ys:ay)(l m d:ai):Hp:=aQ (aQ (aQ H l<|.ag xs) m<|.ag ys) d<|XD d [("weights",.ref m),("numbers",.ref l)]
abbrev w4(H:Hp)(xs ys:ay)(l m d:ai):Prop:=H l=È/\aQ H l `bB m=È/\aQ (aQ H l<|.ag xs) m (.ag ys) d=È
def mz{H:Hp}{a b:ai}{o:HO}(h:aQ H a o b=È):b≠a/\H b=È:=by
 by_cases z:b=a
 .rw[z,cD] at h;cases h
 .rw[a6 z] at h;show#[z,h]
abbrev yi(K:aq)(C:ai):Sp:=λvs H Q _=>∃e a b g h,vs=[.ref e,.ref a,.ref b]/\H e=À `dH/\kB K H a g/\kB K H b h/\∀f l m d,f e=À (XO C e<|À d)->(∀x,x≠e->f x=lW H g h l m d x)->w4 H g h l m d->Q .aT f
def WL{K:aq}{C e a b:ai}{xs ys:ay}{D:iR}{N:ah}{H:Hp}{z:V}(he:H e=À `dH)(v:kB K H a xs)(A:kB K H b ys)(q:∀h l m d,h e=À (XO C e<|À d)->(∀x,x≠e->h x=lW H xs ys l m d x)->w4 H xs ys l m d->D.nx (start N [.ref e,.ref a,.ref b]) h):
  vf (rT<|Jo C<|jI (add 0)<|jI (tC z) jK) (vf (Bi C (add 0) (mQ (λxs H Q=>∃p ys,xs=[.ref p]/\(bE K H p ys\/df K H p ys)/\∀l,H l=È->Q `cq (aQ H l<|.ag ys))<|jI (add 1) jK) "numbers")
   (Bi C (add 0) (mQ (λxs H Q=>∃p ys,xs=[.ref p]/\(bE K H p ys\/df K H p ys)/\∀l,H l=È->Q `cq (aQ H l<|.ag ys))<|jI (add 2) jK) "weights")) D (start N [.ref e,.ref a,.ref b]) H:=by
 show#[.ref e,rfl,e,È,z,rfl,he,#[.ref a,rfl,a,xs,rfl,v,λl g=>#[.ref e,rfl,e,rfl,.inl #[?_,λd hd f=>?_]]]]
 .rw[a6 λw=>by rw[<- w,he] at g;cases g];show he
 let#[dl,i]:=mz hd;show#[.ref b,rfl,b,ys,rfl,A.on λu n z=>?_,λm hm=>#[.ref e,rfl,e,rfl,.inr #[d,[("numbers",.ref l)],?_,?_,(show (1:Nat)<=900 by decide),q _ l m d ?_ (λx B=>?_) ?_]]]
 .have b1:b≠e:=λw=>by rw[w,he] at z;show n _ (Ù z).symm
  have o:b≠d:=λw=>by rw[w,i] at z;cases z
  have r:b≠l:=λw=>by rw[w,g] at z;cases z
  rw[a6 b1,a6 o,a6 r];show z
 all_goals
  let#[j,hm]:=mz hm;let#[md,hm]:=mz hm
 .rw[a6 j.symm,cD]
 .rw[a6 md.symm,a6 f,cD]
 .rw[a6 f.symm,a6 j.symm,cD]
 .unfold lW;by_cases z:x=d
  .rw[z,cD,cD]
  .rw[a6 z,a6 z];by_cases y:x=m
   .rw[y,cD,cD]
   .rw[a6 y,a6 y,a6 B,a6 z]
 .show#[g,hm,by rw[a6 md.symm];show hd]
abbrev CT(K:aq)(C:ai)(E:XK)(h:TA):TS:=λ_ j H=>h j H λvs e=>∃a b f g,vs=[.ref a,.ref b]/\kB K e a f/\kB K e b g/\∀l m d,w4 e f g l m d->E `ai (À d) (lW e f g l m d)
def Ry{E:XK}{x:Str}{np M pos:Pos}{y p:ę}{t:TA}{C F fI:ai}{fd:Ĥ}{ps:ah}{k:Nat}(hs:X.stack=X.env::X.outer)(hf:X.env.frame=À X.env.locals)(ζ:X.ex=[])(σ:qd X E)(β:X.calm=Â)(hg:Gl X x)(hm:X.mg x=À `ai)(c:se X.K C F fI)(G:aJ X.prog X.w X.K X.mg X.base bI k fI fd ps (yi X.K C))(hr:bA (k+1) X.A)(hb:Binds X.K fd ps [])(ha:PA X [y,p] t)(μ: ~~~(dZ x))(ρ:do d0 y [p] X.env)(hpl:do fS M [p] X.env):
  PS X (.Raise (À<|.Call (.Name x np) [y,p] [] M) È pos) (CT X.K C E t):=by
 intro aa s j H D I h;let#[bm,N,nm,qn,bs,hd,sn,sub,ab,col,dd,k0,k1,k2,k3,k5,mN,hC,hN,ο,T]:=FE I.ok.mod.mJ c.ex;rw[arm_exec_Raise];show Ë<|Ţ<|NP (C:=C) (nm:=nm) (q:=qn) (N:=N) (bs:=bs) (bm:=bm) (hdct:=hd) (sn:=sn) (sub:=sub) (ab:=ab) (col:=col) (dd:=dd) (k0:=k0) (k1:=k1) (k2:=k2) (k3:=k3) (k5:=k5) (newId:="ValueError.__new__") (T.hasType PySem.F.excBase_ValueError.hasBase) (I.ok.hd β)<|Ë<|ą (ġ<|nG I hg hm ?_ μ) (λv υ ι=>Ë<|Ţ<|Ü ι) λ_ _ x=>x;show ZX (h₀:=X.base) I.ok.mod.mJ c.kp (bq (ha M aa s j H _ I h) λus s1 τ=>?_) ρ hpl;let#[vs,B,O,r,a,b,L,ys,ev,sa,sb,q1]:=τ;show#[O.eO,?_];subst ev;have θ:↑us=2:=r.length.symm;let#[hp,g,dr,tk,os]:=s1;have δ:∃oI,hp.get? fI=À oI/\oI.cls=.type "function":=by
  let#[o,ho,z]:=ag3.mp<|beq_iff_eq.mp c.fn;show#[o,O.eO _ _ ho,z]
 let#[oI,δ,ν]:=δ;show Rw (T.keeps O.bk) (O.bk _ _ hC) (hN.keeps O.bk) ο δ ν (by change ↑us<=1000;omega) λh' e i η=>?_
 let#[t,ht,φ,χ]:=i.there;have α:B e=È:=O.aR.fresh η;have J:ax X aa j (aQ B e<|XO C e È) #[h',g,dr,tk,os]:=O.laid (t':=tk) i.keeps η<|AJ ht;have on:∀{a L},kB X.K B a L->kB X.K (aQ B e<|XO C e È) a L:=λ{a L} q=>q.on λu _ z=>by rw[a6 λw=>by rw[w,α] at z;cases z];show z
 have E9:(å e::us++[]).length=↑ps:=by
  have z:=G.len [.ref e,.ref a,.ref b] (aQ B e<|XO C e È) (λ_ _=>True) (λ_ _ _=>False) #[e,a,b,L,ys,rfl,cD,on sa,on sb,λ_ _ _ _ _ _ _=>trivial];rw[<- z];simp[θ]
 show Zs (ŷ (G.run _ X.stack _ (aQ B e<|XO C e È) #[.ref e::us,[]] (.ref e::us++[]) [.ref e,.ref a,.ref b] (λv H'=>v=.aT/\∃l m d,H' e=À (XO C e<|À d)/\(∀x,x≠e->H' x=lW (aQ B e<|XO C e È) L ys l m d x)/\w4 (aQ B e<|XO C e È) L ys l m d) (λ_ _ _=>False) (hr.make _ _ _) (J.mH.make C us []) (hb _ (.ref e::us) J.eO E9) (by rw[Ą];show .cons rfl r) #[e,a,b,L,ys,rfl,cD,on sa,on sb,λH' l m d h1 h2 h3=>#[rfl,l,m,d,h1,h2,h3]]) λr s' hq=>?_);cases r with
 |error x=>show ò hq
 |ok fl=>
 cases fl with
 |next=>show ò hq
 |brk=>show ò hq
 |cont=>show ò hq
 |ret u=>
 let#[v,H',π,bare,un,aR,rv,rfl,l,m,d,γ,U,hl,hm,hd]:=hq;obtain rfl:u=ŵ:=rv;let#[#[t1,ε],_,_]:=aR e _ γ;have ne:∀b o,hp.get? b=À o->b≠e:=λb o z w=>by rw[w,i.new] at z;cases z
 have nt:∀b v,B b=À v->b≠e:=λb v z w=>by rw[w,α] at z;cases z
 ∎;let#[le,hl]:=mz hl;let#[ml,hm]:=mz hm;let#[me,hm]:=mz hm;let#[dm,hd]:=mz hd;let#[dl,hd]:=mz hd;let#[de,hd]:=mz hd;∎;have Y:lW B L ys l m d e=È:=by unfold lW;rw[a6 de.symm,a6 me.symm,a6 le.symm];show α
 have U:∀x,x≠e->H' x=lW B L ys l m d x:=λx hx=>by
  rw[U x hx];unfold lW;have k:∀(P Q:Hp) a o,P x=Q x->aQ P a o x=aQ Q a o x:=λP Q a o z=>by
   by_cases w:x=a
   .rw[w,cD,cD]
   .rw[a6 w,a6 w];show z
  show k _ _ _ _<|k _ _ _ _<|k _ _ _ _<|a6 hx
 have I4:ax X aa j (lW B L ys l m d) s':=O.eM (ch:=[]) (π.trans rfl) #[λb o z n f x=>un.keep b o `bx (by rw [a6<|ne b o z];show n) f x,λb o z n f x=>un.slot b o `bx (by rw [a6<|ne b o z];show n) f x,λb o z n x=>by rw [<- U b (ne b o z)];show un.free b o `bx (by rw [a6<|ne b o z];show n) x,
  λb o z x=>un.there b o `bx x,λb _ z=>by rw[<- U b `er];show un.e8 b _ (by rw[a6<|nt b _ z];show z),λb _ _ z=>by rw[<- U b `er];show un.bf b _ _ (by rw[a6<|nt b _ z];show z),λb ps z=>by rw[<- U b `er];show un.e7 b ps (by rw[a6<|nt b _ z];show z)] (λb v z=>?_) bare (λb z=>ao8 z<|by simp)
 .show#[rfl,e,À d,t1,rfl,I4.bk _ _ hC,ε,?_];have up:∀b,hp.get? b=È->X.s₀.heap.get? b=È:=λb z=>by
   cases q:X.s₀.heap.get? b with
   |none=>rfl
   |some o=>let#[o',e']:=O.base.there b o q (by rw[ζ];simp);rw[z] at e';cases e'
  rw[σ];have ξ:∀env∈X.env::X.outer,∀a,env.frame=À a->a∈e::cE X.stack:=λenv he a hf=>.tail _ (by rw[hs];show vK env he a hf)
  show Eo (base:=Ű s'.heap (e::cE X.stack)) (a0:=.ref t1) (by rw[I4.ok.frames,hs]) (ZJ (hs ▸ I4.stack) ξ) hf ε (λb o q=>ZZ _ q)
   (Ϟ _<|.head _) rfl rfl rfl rfl λh2 hL κ=>?_
  let#[l1,_,l3,l4]:=hL;show zK hs hf ζ I4 (bad:=[e]) (λb hb=>by
   rcases æ.mp hb with z |hb
   .show .inl (by rw[z];show .head _)
   .show .inr hb) (λb hb=>by
   have z:b=e:=by simpa using hb
   rw[z];show#[up _ i.new,Y]) l1 l4 l3 κ (up _ i.new) Y (q1 l m d #[hl,by rw[a6 ml];show hm,by rw[a6 dm,a6 dl];show hd])
 .have nb:b≠e:=λw=>by rw[w,Y] at z;cases z
  show (aR b v<|(U b nb).trans z).e6 (λ_ _ _ q=>q) (λc q=>by rw[<- U c λw=>by rw[w,γ] at q;cases q];show q) λc L q=>by rw[<- U c λw=>by rw[w,γ] at q;cases q];show q
end
end L2
namespace Pu
open PySem L2 Vc Sf
section
variable{X:Cx}
abbrev xO(d:af)(Q:af->aA):Prop:=match d with |[.ag .f a,.ag .f b]=>Q a b |_=>False
abbrev xr(q:Xv->Prop)(C:ai)(d:cj):cB:=λ_ j=>m9 d `ae λe=>xO e λa b=>bZ a=Â/\bZ b=Â/\q #[.ref C,[("weights",.ag .f b),("numbers",.ag .f a)]]
def Po{z:Bool}{q:Xv->Prop}{E:XK}{K:PySem.W.Frag}{A:TA}{y:cj}{lo:Nat}{C:ai}(h:eY K #[z,λ_=>E,q] A y):c6 K #[z,λ_=>E,q] lo (CT K C E A) (xr q C y):=λus Y G F H j i cs D Q W p L=>
 FW h F (Bq G H) H j _ _ _ W.fm p λts vs U H1 c p2 o=>by
  unfold xO at p2;split at p2
  .obtain⟨n1,n2,p2⟩:=p2;let#[v1,r1,c1,d1,rfl,rfl,#[_,a,v,rfl,sa,N],v2,r2,c2,d2,rfl,rfl,#[_,b,w,rfl,sb,O],rfl,rfl]:=o.r;show#[a,b,v,w,rfl,.inl<|(Le.of o.g.s).ag sa,.inl<|(Le.of o.g.s).ag sb,λl m d n=>?_];∎;let#[G1,u,I]:=sA (o:=.ag v) o.g.s (by intro _ _ z;cases z) n.1;let#[G2,e,J]:=sA (o:=.ag w) u.s (by intro _ _ z;cases z) n.2.1;let#[B,f,M]:=sA (o:=XD d [("weights",.ref m),("numbers",.ref l)]) e.s (by intro _ _ z;cases z) n.2.2;∎;have le:=u.le.trans<|e.le.trans f.le;show W.x #[.ref C,_] j B _ p2 (À d) (.inr #[d,_,rfl,.inl M,by change (bZ _&&(bZ _&&Â))=Â;rw[n1,n2];rfl,.ref m,_,[],[],rfl,rfl,#[rfl,m,w,rfl,f.le.ag<|.inl<|.inl J,Rs.mo le (λ_=>le) _<|Rs.base _ n2 O],.ref l,_,[],[],rfl,rfl,#[rfl,l,v,rfl,(e.le.trans f.le).ag<|.inl<|.inl I,Rs.mo le (λ_=>le) _<|Rs.base _ n1 N],rfl,rfl])<|W.g.trans'<|o.g.trans'<|u.trans'<|e.trans' f
  .show p2.elim
def Su{z:Bool}{q:Xv->Prop}{E:XK}{x:Str}{H d pos:Pos}{b a:ę}{n:cj}{lo:Nat}{C F l:ai}{m:Ĥ}{o:ah}{k:Nat}(hs:X.stack=X.env::X.outer)(y:X.env.frame=À X.env.locals)(g:X.ex=[])(j:qd X E)(e:X.calm=Â)(B:Gl X x)(hm:X.mg x=À `ai)(c:se X.K C F l)(G:aJ X.prog X.w X.K X.mg X.base bI k l m o (yi X.K C))(D:bA (k+1) X.A)(v:Binds X.K m o [])(u:QA X #[z,λ_=>E,q] [b,a] n)(f: ~~~(dZ x))(i:do d0 b [a] X.env)(hpl:do fS d [a] X.env):
  QS X #[z,λ_=>E,q] lo (.Raise (À<|.Call (.Name x H) [b,a] [] d) È pos) (xr q C n):=by
 let#[I,p,r]:=u.h;show#[_,Ry hs y g j e B hm c G D v p f i hpl,Po r]
end
end Pu
namespace L2
open PySem PySem.Spec PyProof.Rows
section
variable{X:Cx}{tg a b c:ę}{ta:TA}{p pos:Pos}
abbrev C4(ta:TA):TI:=λj H R=>ta j H λvs d=>∃i:Int,vs=[.int i,.int (-1),.int (-1)]/\-1<=i/\i<1000000/\R (uj i (-1) (i+1).toNat) d
def Rz(A:Gl X "range")(hm:X.mg "range"=È)(x:PA X [a,b,c] ta)(hs:do Ă [a,b,c] X.env=[(É,eval a X.env),(É,eval b X.env),(É,eval c X.env)])(d:do p9 b c X.env):
  PI X tg (.Call (.Name "range" p) [a,b,c] [] pos) (C4 ta):=by
 intro aa s j H R I h;show Call_ (kH I A hm boot_range (ø (bq (x pos aa s j H _ I h) λus g u=>?_) (by rw[hs,d]) (by rw[d];rfl)));∎;let#[vs,v,w,D,B]:=u;let#[i,e,E,G,q]:=B;∎;subst e;cases D with
 |cons r f=>
 cases f with
 |cons C f=>
 cases f with
 |cons m f=>
 cases f;∎;let#[t,rfl]:=r;let#[t',rfl]:=C;let#[n,rfl]:=m;∎;have sz:š i (-1) (-1)=i+1:=by
  unfold š;rw[ao6 ∎,show (- -1:Int)=1 from rfl,Int.ediv_one];split<;>omega
 have sm:ad5 i (-1) (-1)=Â:=by
  unfold ad5;simp only[Builtin.Range.rangeFitsLong,í,Bool.or_eq_true,decide_eq_true_eq,beq_iff_eq];show#[#[#[#[⋯,∎],∎],⋯],.inr ∎]
 show call_range_3 ∎ ?_ (.inl<|PyProof.noPylong_small ∎);show wpAny_pyIter_range (IsRange.new ..) sm ?_;have l:ax X aa j v { g with heap:=g.heap.push { cls:=.type "range",data:=.fields ([.int i t,.int (-1) t',.int (-1) n].toArray) },toks:=g.toks }:=w.kept λb o e=>Ä _ e
 show#[_,[_],_,_,v,rfl,l.kept (t':=g.toks) λb o e=>Ä _ e,NL _ i (-1) (i+1).toNat,?_,λb y=>?_,q]
 .show ag6 _ _ (i+((0:Nat):Int)*(-1)) ((((i+1).toNat:Nat):Int) - ((0:Nat):Int)) (-1);rw[show i+((0:Nat):Int)*(-1)=i from by simp,show (((i+1).toNat:Nat):Int) - ((0:Nat):Int)=š i (-1) (-1) from by rw[sz];omega];show Ø _ rfl
 .have e:=ä.mp y;rw[e];show l.fB (Ï _)<|l.aR.fresh<|Ï _
abbrev CU:ay->Hp->VK->Prop:=λd H Q=>∃(a:Int)(n:Nat),d=[.int a,.int<|a+n]/\0<=a/\a<=1000/\n<=1000/\∀p,H p=È->Q `ak (aQ H p<|.ku a<|a+n)
def NQ:bQ X (.type "range") CU:=by
 intro aa s j H m us Q I r h;let#[a,n,rfl,_,_,hn,q]:=h;cases r with
 |cons d f=>
 ∎;let#[i,rfl,g]:=jM f;let#[t,rfl]:=(show ∃t,_=ϝ a t from d);let#[l,rfl]:=(show ∃t,i=ϝ (a+n) t from g);∎;show call_range_2 #[.ref ⇑s,_,I.laid (a:=⇑s) (o:=.ku a<|a+n) (t':=s.toks+1) (λb o e=>Ä _ e) (Ï _) #[_,_,_,Ø _ rfl],rfl,q _<|I.aR.fresh<|Ï _]
abbrev CV:ay->Hp->VK->Prop:=λd H Q=>∃(p:ai)(a:Int)(n:Nat),d=[.ref p]/\H p=À (.ku a<|a+n)/\0<=a/\a<=1000/\n<=1000/\∀p,H p=È->Q `ak (aQ H p<|.ag ((Ç n).map λi:Nat=>V.int<|a+i))
def EB(a:Int):∀(n:Nat)(m:Nat){bu:aN},bu.length=n->(∀(i:Nat)(v:ao),bu[i]?=À v->∃t,v=ϝ (a+(m+i:Nat)) t)->aH ((List.range' m n).map λi:Nat=>V.int<|a+i) bu
 |0,m,[],_,_=>.nil
 |n + 1,m,x::bu,hl,h=>by
  let#[t,e]:=h 0 x rfl;rw[List.range'_succ,ë];show .cons #[t,e] (EB a n (m+1) (by simpa using hl) λi v d=>?_);let#[t,e]:=h (i+1) v d;show#[t,by rw[e];congr 2;omega]
def NR(w:X.calm=Â):bQ X (.type "list") CV:=by
 intro aa s j H G us Q I r h;∎;let#[p,a,n,rfl,m,D,E,hn,q]:=h;let#[u,rfl,A]:=jM r;∎;cases A;let#[t,u,v,e]:=I.aR p _ m;show call_list_range (a:=a) (b:=a+n) (c:=1) (n:=n) (I.ok.hd w) e (small_one ⋯ ⋯ ⋯ ⋯) (by rw[am2];split<;>omega) ⋯ λC B d g x l f=>?_
 show#[.ref ⇑s,_,I.laid (a:=⇑s) (o:=.ag ((Ç n).map λi:Nat=>V.int<|a+i)) (t':=B) x (Ï _) #[by rw[Å,Õ,Ī];omega,d.toList,g,?_,by rw[Ϡ];show l],rfl,q _<|I.aR.fresh<|Ï _];have:=EB a n 0 (bu:=d.toList) (by rw[Ž];show f.1) λi v y=>by
  let#[t,e]:=f.2 i v (by rw[<- Ϗ];show y);show#[t,by rw[e];congr 1]
 rw[ak9];show this
end
end L2
namespace Pu
open PySem L2 Vc Sf
section
abbrev r9(a:af)(Q:Int->Prop):Prop:=match a with |[.int i,.int j,.int k]=>j=-1/\k=-1/\-1<=i/\i<1000000/\Q i |_=>False
abbrev yj(a:cj):jf:=λj Q=>a j λb=>r9 b λi=>Q ((Ç (i+1).toNat).map λ(n:Nat)=>.int<|i+n*(-1)) Â
def WM(h:eY K k ta pa):lI K k (C4 ta) (yj pa):=λF B H j i n m c p q=>by
 show h F B H j i _ _ c p λw vs a b u p1 o=>?_
 unfold r9 at p1;split at p1
 .obtain⟨v,r,c2,d,rfl,rfl,⟨rfl,_⟩,v',r',c',d',rfl,rfl,⟨rfl,_⟩,v2,r2,c3,d3,rfl,rfl,⟨rfl,_⟩,rfl,rfl⟩:=o.r;let#[rfl,rfl,e,f,p1]:=p1;show#[_,rfl,e,f,q _ _ _ a b p1 o.g EJ λ_ l _=>EJ]
 .show p1.elim
def KD(e:Gl X "range")(hm:X.mg "range"=È)(h:QA X k [l,m,n] ps)(hs:do Ă [l,m,n] X.env=[(É,eval l X.env),(É,eval m X.env),(É,eval n X.env)])(a:do p9 m n X.env):QI X k tg (.Call (.Name "range" p) [l,m,n] [] pos) (yj ps):=by
 let#[f,b,d]:=h.h;show#[_,Rz e hm b hs a,WM d]
abbrev vt(a:af)(Q:az):Prop:=match a with |[.ag _ xs]=>fu xs=Â/\Q `dI |_=>False
def Hq:∀{xs:af}{vs:ay}{x:Tr}{v:V},Rs K F B xs vs []->R K F B x v []->Rs K F B (xs++[x]) (vs++[v]) []
 |[],_,x,v,y,r=>by let#[h,_]:=y;rw[h];show#[v,[],[],[],rfl,rfl,r,rfl,rfl]
 |y::xs,_,x,v,y0,r'=>by
  ∎;let#[w,r,c,d,a,b,e,f]:=y0;let#[rfl,rfl]:=ģ.mp b.symm;∎;rw[a];show#[w,_,[],[],rfl,rfl,e,Hq f r']
def IE:∀{xs:af}{vs:ay},Rs K F B xs vs []->Rs K F B xs.reverse vs.reverse []
 |[],_,y=>by let#[h,_]:=y;rw[h];show#[rfl,rfl]
 |y::xs,_,y0=>by
  ∎;let#[w,r,c,d,a,b,e,f]:=y0;let#[rfl,rfl]:=ģ.mp b.symm;∎;rw[a,Υ,Υ];show Hq (IE f) e
def Sv(h:eY K k ta pa):bF K k (Jj K ta) (λi Q=>pa i λl=>vt l Q):=λF B H j i Q D c p q=>by
 show h F B H j i _ _ c p λl vs n C E p1 o=>?_
 unfold vt at p1;split at p1
 .obtain⟨v,rfl,r1⟩:=o.r.one;have d:=c.gr o.g;let#[a,us,G,rfl,u,e,_]:=r1.cZ d.s d.b o.c;obtain rfl:=Rs.mM _ p1.1 e;show#[a,us,rfl,u,λp f=>?_];let#[w,x,A]:=mh (K:=K) (B:=B) o.g.s (IE e) .nil f;show q _ _ n _ _ p1.2 #[o.g.trans' w,x,A,λy m=>?_];cases m with
  |head=>show o.g.h.free f
  |tail _ m=>cases m
 .show p1.elim
def XX{p p2 a:Pos}(m:X.calm=Â)(n:Gl X "list")(hm:X.mg "list"=È)(b:Gl X "reversed")(d:X.mg "reversed"=È)(h:QA X k [l] ps)(g:do lA l X.env)(i:do Ă [Z4 (.Name "reversed" p2) [l] [] a] X.env=[(É,eval (Z4 (.Name "reversed" p2) [l] [] a) X.env)]):
  QE X k (.Call (.Name "list" p) [.Call (.Name "reversed" p2) [l] [] a] [] pos) (λj Q=>ps j λo=>vt o Q):=by
 let#[q,e,f]:=h.h;show#[_,Pj m n hm b d e g i,Sv f]
abbrev Ea(t u:Tr)(Q:az):Prop:=∃(a:Int)(n:Nat),t=.int a/\u=.int (a+n)/\0<=a/\a<=1000/\n<=1000/\Q (.ag .o ((Ç n).map λi:Nat=>Tr.int<|a+i))
def FF(a:Int):∀(ns:List Nat),Rs K F B (ns.map λi:Nat=>Tr.int<|a+i) (ns.map λi:Nat=>V.int<|a+i) []
 |[]=>#[rfl,rfl]
 |n::ns=>#[.int<|a + n,_,[],[],rfl,rfl,#[rfl,rfl],FF a ns]
def WN(h:eY K k ta pa):bF K k (mQ CV<|jI (mQ CU ta) jK) (λi Q=>pa i λA=>nh A λt u=>Ea t u Q):=λF B H j i Q I c p q=>by
 show h F B H j i _ _ c p λA vs e l J p1 d=>?_
 unfold nh at p1;split at p1
 .obtain⟨v,w,d1,d2,rfl,r1,r2,_⟩:=d.r.two;∎;let#[a,n,rfl,rfl,o,x,hn,p1]:=p1;let#[rfl,_]:=r1;let#[rfl,_]:=r2;∎;show#[a,n,rfl,o,x,hn,λp C=>#[p,a,n,rfl,cD,o,x,hn,λp2 b=>?_]];have f:Gr e l e (aQ l p<|.ku a<|a+n):=Gr.il d.g.s C;let#[D,E,G]:=mh (K:=K) (B:=B) f.s (FF a<|Ç n) .nil b;show q _ _ e _ _ p1 #[(d.g.trans' f).trans' D,E,G,λy m=>?_];cases m with
  |head=>show d.g.h.free<|f.h.free b
  |tail _ m=>cases m
 .show p1.elim
def KG{p p2 a:Pos}(o:X.calm=Â)(q:Gl X "list")(hm:X.mg "list"=È)(b:Gl X "range")(d:X.mg "range"=È)(h:QA X k [l,m] ps)(i:do d0 l [m] X.env)(n:do fS a [m] X.env)(e:do Ă [Z4 (.Name "range" p2) [l,m] [] a] X.env=(É,eval (Z4 (.Name "range" p2) [l,m] [] a) X.env)::Ă [] X.env):
  QE X k (.Call (.Name "list" p) [.Call (.Name "range" p2) [l,m] [] a] [] pos) (λj Q=>ps j λr=>nh r λt u=>Ea t u Q):=by
 let#[v,f,g]:=h.h;show#[_,oF (NR o) q hm rfl (kI (oF NQ b d rfl f (he:=i) (hpl:=n)) lL e) (he:=e),WN g]
abbrev AQ(i j:Nat):bh:=λG Q=>∃(m:bz)(ns:aF)(y:Int),G[i]?=À `es/\m.map (·.1)=ns.map (λn=>(ï n:aW))/\G[j]?=À (.int y)/\↑ns<=1000/\Q (.ag .o<|(ns.filter λx=>!decide (x=y)).map Tr.int)
def FG:∀(ns:aF),Rs K F B `bg `ay []
 |[]=>#[rfl,rfl]
 |n::ns=>#[.int n,_,[],[],rfl,rfl,#[rfl,rfl],FG ns]
def XY(hz:k.z=Â){i j:Nat}:bF K k (xt X<|rV (zM vi X<|add i) (j5 0) (u7<|pP tY (add 0)<|add 1) (add 0) [È,À j]) (AQ i j):=λF B H G J Q Q' c p q=>by
 let#[m,ns,y,hi,hm,hj,hn,pQ]:=p;rcases c.e i _ hi with z |⟨v,h1,_,a,vs,rfl,h2,h3,h4⟩
 .cases z
 rcases c.e j _ hj with z |⟨v,g1,rfl,_⟩
 .cases z
 have hF:=vJ (c.z hz) h2;have N:=c.s _ _ hF;have ek:∀{m:bz}{vs:bL},Rk K F B m vs []->vs.map (·.1)=m.map (·.1):=λ{m}=>by
  induction m with
  |nil=>intro vs h;rw[h.1];rfl
  |cons x m ih=>
   intro vs h;∎;let#[v,r,c,d,g,A,e3,e4]:=h;let#[rfl,rfl]:=ģ.mp A.symm;∎;rw[g,ë,ë,ih e4]
 have O:vs.map (·.1)=ns.map (λn=>(ï n:aW)):=(ek h3).trans hm;have hl:↑vs=↑ns:=by have:=ap2 İ O;simpa using this
 show#[.ref a,h1,a,vs,rfl,N,λM L=>?_];show VM (Q:=λv=>qp X<|Q v) (λn f E=>E=aQ H a (.aB M<|.dK vs)/\f=((ns.take n).filter λx=>!decide (x=y)).map V.int) #[rfl,rfl] (λ_ _ _ _ h=>by rw[h.1,cD]) ?_ ?_
 .rintro n kk v f E e ⟨rfl,rfl⟩;have g:(ns.map<|λn=>(ï n:aW))[n]?=À kk:=by rw[<- O,Ê,e];rfl
  rw[Ê] at g;cases A:ns[n]? with
  |none=>rw[A] at g;cases g
  |some x=>
   rw[A] at g;cases g;have Y:ns.take (n+1)=ns.take n++[x]:=by rw[đ,A];rfl
   have U:(((ns.take n).filter λx=>!decide (x=y)).map V.int).length<=1000:=by
    rw[Å];show Ñ (Ĺ _ _) (by rw[û];omega)
   show#[wB rfl λi v e=>?_,.int x,rfl,.int y,?_,rfl,_,rfl,?_]
   .match i,e with
    |1,e=>show e
   .show ([È,À j].map λo=>match o with |none=>È |some i=>(G[i]?).getD È)[1]?=_;change À ((G[j]?).getD È)=_;rw[g1];rfl
   .have di:decide (V.int x=V.int y)=decide (x=y):=by by_cases z:x=y<;>simp[z]
    rw[di];by_cases z:x=y
    .subst z;rw[ao9 rfl];show#[rfl,?_];rw[Y,Ÿ];simp
    .rw[ap0 z];show#[.int x,rfl,by rw[Ī];omega,rfl,?_];rw[Y,Ÿ,Û];simp[z]
 .rintro f E ⟨rfl,rfl⟩;have C:ns.take ↑vs=ns:=by rw[hl,Ĕ]
  rw[C];show#[?_,λp D=>?_]
  .rw[Å,Ī];have:=Ĺ (λx=>!decide (x=y)) ns;omega
  have u:p≠a:=λw=>by rw[w,cD] at D;cases D
  rw[a6 u] at D;show#[a,M,vs,by rw[a6<|Ć u,cD],L,?_];have eq:aQ (aQ (aQ H a<|.aB M<|.dK vs) p<|.ag<|(ns.filter λx=>!decide (x=y)).map V.int) a `aD=aQ H p (.ag<|(ns.filter λx=>!decide (x=y)).map V.int):=by
   funext b;by_cases I:b=a
   .rw[I,cD,a6<|Ć u,N]
   .rw[a6 I];by_cases l:b=p
    .rw[l,cD,cD]
    .rw[a6 l,a6 I,a6 l]
  rw[eq];let#[n1,n2,n3]:=mh (K:=K) (B:=B) c.s (FG<|ns.filter λx=>!decide (x=y)) .nil D;show q _ _ F _ _ pQ #[n1,n2,n3,λy m=>?_];cases m with
  |head=>show D
  |tail _ m=>cases m
def Sw{e:ę}{i j:Nat}(hz:k.z=Â)(h:PE X e (xt X<|rV (zM vi X<|add i) (j5 0) (u7<|pP tY (add 0)<|add 1) (add 0) [È,À j])):QE X k e (AQ i j):=#[_,h,XY hz]
end
end Pu
namespace L2
section
open PySem
open AutoSeq1 (wpAny_loadPart')
section
variable{prog:ð}{w:ă}{A:ĉ}{E:ao->aj->Prop}{s:aj}
def NS(l:ai)(items:cU)(n:Nat)(b:b9)(m:Array (eW))(o:Tok):
  Meets (ai6.«enumerate.__new__» #[[.type "enumerate",.ref l],[("start",.int 1 o)]]) (λ_ R s=>s.heap.get? l=À { cls:=.type "list",dict:=b,data:=.seq items n,slots:=m }/\
   R (.ok<|.ret<|.ref (s.heap.push { cls:=.type "list_iterator",data:=.fields ([.ref l,.int 0 0].toArray) }).objs.size)
    { s with heap:=(s.heap.push { cls:=.type "list_iterator",data:=.fields ([.ref l,.int 0 0].toArray) }).push { cls:=.type "enumerate",data:=.fields ([.none,.bool É,.ref ⇑s,Ϩ 1,.none,.none].toArray) } }):=
 .of_wp λprog w A R s h=>by
  ∎;let#[j,g,d,f,os]:=s;let#[a,h]:=h;∎;have i:=sub_enumerate;have e:Heap.IsList (Shared.heap #[j,g,d,f,os]) l items:=#[_,a,rfl,n,rfl]
  wp_walk using wpAny_loadPart' a
  show wpAny_stack_any λst=>Ü ?_
  split
  .rename_i c _ _ _ _ _;cases (c == ĳ "enumerate")
   .wp_walk using wpAny_loadPart' a,Ϫ e
    show#[_,rfl,h]
   .wp_walk using wpAny_loadPart' a,Ϫ e
    show#[_,rfl,h]
  .wp_walk using wpAny_loadPart' a,Ϫ e
   show#[_,rfl,h]
def OQ{self x:ao}{e:List (Str×ao)}:Meets (ai6.«object.__init__» #[[self,x],e]) (λ_ R s=>s.TypeIs self "enumerate"/\R (.ok<|.ret .none) s):=by
 show Meets.of_wp λprog w A R s d=>?_
 let#[f,b]:=d;have g:=F.called_enumerate.init.lookup;have hm:=F.called_enumerate.made;have a:(À "enumerate.__new__" != À "object.__new__")=Â:=∎
 repeat (any_goals (first |assumption |wp_step))
 show#[_,rfl,b]
def OR{l:ai}{items:cU}{f:Tok}{Q:ao->aj->Prop}(D:s.heap.IsList l items)(h:∀h',IsEnum h' (⇑s+1) ⇑s 1 .none->h'.IsListIter ⇑s l 0->(∀b o,s.heap.get? b=À o->h'.get? b=À o)->Q (.ref<|⇑s+1) { s with heap:=h' }):
  Ý `ad A (call (.type "enumerate") [.ref l] [("start",.int 1 f)]) Q E s:=by
 let#[#[c,i,dt,L],I,j,n,hd]:=D
 replace j:c=.type "list":=j
 replace hd:dt=.seq items n:=hd
 subst j hd;have d:=F.called_enumerate;let#[c,O,y]:=d.mro;have p:=d.made;have B:=d.sub;show Zs<|codeAny_of_tree ?_;change Ý _ _ (callAny (.type "enumerate") _) _ _ _;show Ü #[ab0 _ (by decide +kernel),codeAny_builtin F.entry_type_call ?_];rw[Around.under_plain (weight_type_call_type _ _ _)<|units_type_call_type _ _ _];have M:=d.notType;have N:=d.canCreate;have H:checkTypeCall "enumerate" #[[.ref l],[("start",.int 1 f)]]=pure ():=by kernel_rfl
 have m:checkBuiltinCall "enumerate.__new__" #[[.type "enumerate",.ref l],[("start",.int 1 f)]]=pure ():=by kernel_rfl
 repeat (any_goals (first |assumption |wp_step))
 have C:(s.heap.push { cls:=.type "list_iterator",data:=.fields ([.ref l,.int 0 0].toArray) }).objs.size=⇑s+1:=ϑ ..;have x:IsEnum ((s.heap.push { cls:=.type "list_iterator",data:=.fields ([.ref l,.int 0 0].toArray) }).push { cls:=.type "enumerate",data:=.fields ([.none,.bool É,.ref ⇑s,Ϩ 1,.none,.none].toArray) }) (⇑s+1) ⇑s 1 .none:=by
  have:=Ø (s.heap.push { cls:=.type "list_iterator",data:=.fields ([.ref l,.int 0 0].toArray) }) (o:={ cls:=.type "enumerate",data:=.fields ([.none,.bool É,.ref ⇑s,Ϩ 1,.none,.none].toArray) }) rfl;rw[C] at this;show this
 have u:Ŷ `ad A.in1 (.call (.builtin "enumerate.__new__") #[[.type "enumerate",.ref l],[("start",.int 1 f)]]) (λr a=>r=.ok (.ret<|.ref<|⇑s+1)/\a={ s with heap:=(s.heap.push { cls:=.type "list_iterator",data:=.fields ([.ref l,.int 0 0].toArray) }).push { cls:=.type "enumerate",data:=.fields ([.none,.bool É,.ref ⇑s,Ϩ 1,.none,.none].toArray) } }) s:=
  Β d.plain F.entry_enumerate_new (wpAny_of_eq m (NS l items n i L f prog w A.in1 (λr a=>r=.ok (.ret<|.ref<|⇑s+1)/\a={ s with heap:=(s.heap.push { cls:=.type "list_iterator",data:=.fields ([.ref l,.int 0 0].toArray) }).push { cls:=.type "enumerate",data:=.fields ([.none,.bool É,.ref ⇑s,Ϩ 1,.none,.none].toArray) } }) s #[I,by rw[C],rfl]))
 show ŷ u λr a q=>?_
 let#[rfl,rfl]:=q;have v:Shared.TypeIs { s with heap:=(s.heap.push { cls:=.type "list_iterator",data:=.fields ([.ref l,.int 0 0].toArray) }).push { cls:=.type "enumerate",data:=.fields ([.none,.bool É,.ref ⇑s,Ϩ 1,.none,.none].toArray) } } (.ref<|⇑s+1) "enumerate":=#[_,x,rfl];have J:=d.init.lookup;have G:=d.init.bind<|.ref<|⇑s+1
 repeat (any_goals (first |assumption |wp_step))
 have aR:argsOk "object.__init__" #[[.ref<|⇑s+1,.ref l],[("start",.int 1 f)]]:=by kernel_rfl
 have g:Ŷ `ad A.in1 (.call (.builtin "object.__init__") #[[.ref<|⇑s+1,.ref l],[("start",.int 1 f)]]) (λr a=>r=.ok (.ret .none)/\a={ s with heap:=(s.heap.push { cls:=.type "list_iterator",data:=.fields ([.ref l,.int 0 0].toArray) }).push { cls:=.type "enumerate",data:=.fields ([.none,.bool É,.ref ⇑s,Ϩ 1,.none,.none].toArray) } }) { s with heap:=(s.heap.push { cls:=.type "list_iterator",data:=.fields ([.ref l,.int 0 0].toArray) }).push { cls:=.type "enumerate",data:=.fields ([.none,.bool É,.ref ⇑s,Ϩ 1,.none,.none].toArray) } }:=
  Β d.init.plain F.entry_object_init (d.init.check _ _ _ _ _ _ _ _ v aR (OQ prog w A.in1 (λr a=>r=.ok (.ret .none)/\a={ s with heap:=(s.heap.push { cls:=.type "list_iterator",data:=.fields ([.ref l,.int 0 0].toArray) }).push { cls:=.type "enumerate",data:=.fields ([.none,.bool É,.ref ⇑s,Ϩ 1,.none,.none].toArray) } }) _ #[v,rfl,rfl]))
 show ŷ g λr a q=>?_
 let#[rfl,rfl]:=q
 repeat (any_goals (first |assumption |wp_step))
 show h _ x #[_,Ä _<|Ø _ rfl,rfl,rfl] λb o e=>Ä _<|Ä _ e
end
end
end L2
namespace L2
open PySem PySem.Spec PyProof.Rows
def XZ{prog:ð}{w:ă}{A:ĉ}(d:A.handled=È)(it l:ai)(a:l≠it)(items:cU):
  Draws prog w A it [it,l] (items.size+1) (λi v=>items[i - 1]?=À v) (λj h=>∃i:Nat,j=i+1/\h.IsListIter it l i/\h.IsList l items) where
 live:=λ_ _ ⟨_,_,st⟩=>let ⟨o,ho,_⟩:=st.1;#[o,ho]
 frame:=λ_ _ _ ⟨i,e,st⟩ hk=>#[i,e,st.1.at λo e=>hk it ∅ o e,st.2.at λo e=>hk l ∅ o e]
 item:=λj s Q E m ⟨i,e,st⟩ hQ=>by
  subst e;show (Draws.list d it l a items).item i s Q E ⋯ st λx f g p b sb=>hQ x f g (by simpa using p) #[i+1,rfl,b] sb
 done:=λs Q E ⟨i,e,st⟩ hE=>by
  obtain rfl:i=items.size:=⋯
  show (Draws.list d it l a items).done s Q E st hE
abbrev vu(K:aq)(a:ai):It:=
 #[λi H=>∃b x,bE K H a b/\b[i]?=À x,λi H y d=>∃p x,y=.ref p/\H p=È/\(∀b,bE K H a b->b[i]?=À x)/\d=aQ H p (.aL [.int ((i+1:Nat):Int),x]),λi H=>∃b,bE K H a b/\↑b<=i]
def OS{P:ð}{w:ă}{K:aq}{elts:bN}{x1:Nat}{pos:Pos}(a it n:ai)(B:n≠it):
  lG P w K `as `ef [n,it] n (λi h=>(∃g,IsEnum h n it ((i+1:Nat):Int) g)/\h.IsListIter it a i/\a≠it/\a≠n) where
 mem:=by simp
 obj:=λi h st b l=>by
  let#[#[g,e1],#[o,e2,c,d],_]:=st;rcases æ.mp l with z |l
  .rw[z];show#[_,e1,λv z=>by cases z]
  .have z:b=it:=by simpa using l
   rw[z];show#[o,e2,λv z=>by rw[d] at z;cases z]
 keep:=λi h h' st k=>by
  let#[#[g,e1],e2,e3]:=st;show#[#[g,k n ∅ _ e1],e2.at λo e=>k it ∅ o e,e3]
 item:=by
  intro X hP hw hK hc i aa s j H E I hf st hg;subst hP hw hK;∎;let#[#[g,G],y,α,Y]:=st;let#[xs,x,r,hx]:=hg;let#[m,rv,p,hz]:=I.list r;let#[u,hu,ru]:=rv.get hx;∎;have fe:=hf n ∅;have fi:=hf it ∅;have η:i<m.toArray.size:=by have:=(Á.mp hu).1;simpa using this
  show wpAny_pyNext_enum_itemD (XZ (A:=X.A.in1) `cl it a α m.toArray) G #[i,rfl,y,p.isList] ⋯ B (by simp[B,Ć Y]) λJ h' C pu O U hT θ hk=>?_
  let#[i',ei,M,_]:=U;obtain rfl:i'=i+1:=⋯
  have eu:J=u:=by
   have z:m.toArray[i]?=À J:=by simpa using pu
   rw[aj2,hu] at z;cases z;rfl
  subst eu;show#[.ref ⇑s,rfl,ak4 O λh2 L hs=>?_];have le:n<⇑s:=Ð G;have li:it<⇑s:=let ⟨o,e,_⟩:=y;Ð e;have ε:H ⇑s=È:=I.aR.fresh<|Ï _;have β:n≠⇑s:=ì le;have γ:it≠⇑s:=ì li;have I1:=I.laid (a:=⇑s) (o:=.aL [.int ((i+1:Nat):Int),x]) (h':=s.heap.push { cls:=.type "tuple",data:=.seq ([.int ((i+1:Nat):Int) C,J].toArray) }) (t':=C) (λb q r=>Ä _ r) (Ï _)
   #[by change 2<=Ô;decide,[.int ((i+1:Nat):Int) C,J],.cons #[_,rfl]<|.cons ru .nil,#[_,Ø _ rfl,rfl,_,rfl]]
  have up:∀{b:ai},b≠⇑s->hU X aa H b->hU X aa (aQ H ⇑s (.aL [.int ((i+1:Nat):Int),x])) b:=λl f=>#[by rw[a6 l];show f.1,f.2]
  have ζ:∀b q,b≠n->b≠it->(s.heap.push { cls:=.type "tuple",data:=.seq ([.int ((i+1:Nat):Int) C,J].toArray) }).get? b=À q->h2.get? b=À q:=λb q h1 h3 r=>by
   show hs.extBut b q h1 ?_;rcases ϭ r with⟨δ,eq⟩ |r
   .subst δ;subst eq;show hT
   .show hk b q h1 h3 r
  let#[oi,ei,ci,di]:=M;have N:h2.IsListIter it a (i+1):=#[oi,hs.extBut it oi (Ć B) ei,ci,di];show#[.ref ⇑s,aQ H ⇑s (.aL [.int ((i+1:Nat):Int),x]),?_,rfl,#[_,x,rfl,ε,λys hy=>by rw[I.dA hy r];show hx,rfl],#[#[_,L],N,α,Y],λb l=>?_]
  .show ax.jC (s:={ s with heap:=s.heap.push { cls:=.type "tuple",data:=.seq ([.int ((i+1:Nat):Int) C,J].toArray) },toks:=C }) (t':=C+1) I1 ζ (up β fe) (up γ fi) #[_,L] #[oi,hs.extBut it oi (Ć B) ei]
  .rcases æ.mp l with z |l
   .rw[z,a6 β];show fe.1
   .have z:b=it:=by simpa using l
    rw[z,a6 γ];show fi.1
 done:=by
  intro X hP hw hK hc i aa s j H E I hf st hg;subst hP hw hK;∎;let#[#[g,G],y,_]:=st;let#[xs,r,hx]:=hg;let#[m,rv,p,hz]:=I.list r;∎;have hl:=↑rv;let#[f0,f1,f2,f3,f4,f5]:=hf it ∅;have D:Draws X.prog X.w X.A.in1 it [it,a] 0 (λ_ _=>True) (λ_ h=>h.IsListIter it a i/\h.IsList a m.toArray):=#[λ_ _ st=>let ⟨o,ho,_⟩:=st.1;#[o,ho],λ_ _ _ st hk=>#[st.1.at λo e=>hk it ∅ o e,st.2.at λo e=>hk a ∅ o e],λ_ _ _ _ h=>ao8 h<|ZP _,
   λs Q E st hE=>wpAny_nextOf_list_end `cl st.1 st.2 (by simp;omega) hE]
  show wpAny_pyNext_enum_endD D G #[y,p.isList] λh' eb=>#[rfl,I.turned (t':=s.toks) (λb o l e=>eb b o l e) f0 f1 f3 f4 f5]
 self:=λ_ _ _ _ _ st h=>let ⟨⟨_,G⟩,_⟩:=st;ZG G h
def MQ{M:Model}{A:ĉ}{E:ao->aj->Prop}{s:aj}{pos:Pos}{T:String}{first:aN}{args:List (Bool×Sem Ϛ)}{e:List (Option Str×Sem Ϛ)}{Q:ao->aj->Prop}(b:(args.any (·.1) || e.any (·.1.isNone))=É)(h:Ý M A (evalArgs `bl Â args e) (λa d=>Ý M A (call `bl (first++a.pos) a.kw) Q E d) E s):
  Ý M A (ak1 pos `bl first args e) Q E s:=by
 unfold ak1;show Ë<|ώ<|ą h (λa d f=>Ë<|Ţ ?_) λ_ _ x=>x;simp only[b];show Ë<|Ü ?_;show Ë<|ą f (λr g i=>Ë<|ώ<|wpAny_point<|Ü i) λ_ _ x=>x
section
variable{X:Cx}
abbrev CM(K:aq)(d:TA):TI:=λj H R=>d j H λvs b=>∃a,vs=[.ref a]/\(∃e,bE K b a e)/\R `ef b
def Sx{l:ę}{E:TA}{elts:bN}{x1 x:Nat}{m p pos d kpos:Pos}(Q:Gl X "enumerate")(hm:X.mg "enumerate"=È)(O:PA X [l] E)(hs:do d0 l [] X.env)(hpl:do ((ű pos<|Ă [l] X.env).any (·.1) || (Α pos (ŗ [⟨À "start",.Constant (.int 1) x d,kpos⟩] X.env)).any (·.1.isNone))=É):
  PI X (.Tuple elts x1 m) (.Call (.Name "enumerate" p) [l] [#[À "start",.Constant `db x d,kpos]] pos) (CM X.K E):=by
 intro aa s G H R I h;show ġ<|kH I Q hm (u:=.type "enumerate") rfl ?_;show MQ hpl<|evalArgs_kw2 rfl (bq (O pos aa s G H _ I h) λus s1 y=>?_) hs;let#[vs,B,L,r1,a,e,#[xs,Y],q]:=y;show bq (Ux (nm:=À "start") (kpos:=kpos) (HK (X:=X) (i:=1) (j:=x) (pos:=d)) WS pos aa s1 G B (λJ n=>J=[.int 1]/\n=B) L #[rfl,rfl]) λks f A=>?_
 let#[J,n,g,r2,N,M]:=A;subst e N M;let#[k1,rfl,t,rfl]:=jM r2;cases r1 with
 |cons r rr=>
  cases rr;cases r;let#[α,rv,p,hz]:=g.list Y;show OR p.isList λh' C w U=>ZG C ?_
  have ne:⇑f+1≠⇑f:=⋯
  have D:a<⇑f:=let ⟨o,ho,_⟩:=p.isList;Ð ho;show#[⇑f+1,[⇑f+1,⇑f],_,_,n,rfl,g.kept (t':=f.toks) U,OS a _ _ ne,#[#[_,C],w,ì D,ì<|ħ D],λb v=>?_,q];rcases æ.mp v with z |v
  .rw[z];show g.fB ⋯ (g.aR.fresh ⋯)
  .have z:b=⇑f:=by simpa using v
   rw[z];show g.fB (Ï _)<|g.aR.fresh<|Ï _
end
end L2
namespace Pu
open PySem L2 Vc Sf
section
def Sy{K:aq}{a:ai}{xs:ay}:gk `ef ↑xs (λH=>bE K H a xs) (λi H y b=>∃x p,xs[i]?=À x/\y=.ref p/\H p=È/\b=aQ H p (.aL [.int ((i+1:Nat):Int),x])):=
 #[λi H h q=>by let#[x,e]:=qX h;show#[xs,x,q,e],λH q=>#[xs,q,Ï _],λi H y b h q z=>by let#[p,x,d,f,g,j]:=z;show#[x,p,g xs q,d,f,j]]
def Fu{a:ai}{f:Fl}{xs:af}(r:R K F B `ar `aA []):Src K B F `ef (xs.mapIdx λi x=>.aL [.int ((i+1:Nat):Int),x]):=by
 let#[E,vs,v,e,w]:=lO r;cases v;show#[_,_,(by rw[an1,<- ↑e];show Sy (K:=K) (a:=a) (xs:=vs)),w,λi t C D x m d l s b y=>?_];let#[z,p,h,rfl,A,rfl]:=y;rw[Z1] at d;cases q:xs[i]? with
 |none=>rw[q] at d;cases d
 |some u=>
  rw[q] at d;cases d;let#[G,n,o]:=e.dB q;rw[n] at h;cases h;let#[j,g,r2,_]:=sS (xs:=[.int ((i+1:Nat):Int),u]) (cs:=[]) s #[.int ((i+1:Nat):Int),[z],[],[],rfl,rfl,#[rfl,rfl],z,[],[],[],rfl,rfl,o.mo l (λ_=>Le.refl _) u,rfl,rfl] .nil A;show#[j,g,r2]
abbrev ym(a:cj):jf:=λj Q=>a j λb=>oD b λt=>iB `ba λd=>Q (d.mapIdx λi x=>.aL [.int ((i+1:Nat):Int),x])<|bM<|aB t
def OT(h:eY K k ta pa):lI K k (CM K ta) (ym pa):=λF B H j i D C c p q=>by
 show h F B H j i _ _ c p λG vs A m E p1 o=>?_
 ∎;let#[t,rfl,p1]:=GD p1;let#[v,rfl,x]:=o.r.one;let#[l,d,r2]:=Out.held #[o.g,x,o.c,o.n];let#[f,I,e,p1]:=sI p1;∎;rw[e] at r2 p1;let#[a,vs,rfl,_,w]:=lO r2;show#[a,rfl,#[vs,w l m `bf d.s λk=>(c.b k).trans d.h],q _ _ _ l m p1 d (Fu r2) λhn y u=>Fu<|R.low _ hn u.symm r2]
def KH{b:Nat}{a kpos:Pos}(f:Gl X "enumerate")(hm:X.mg "enumerate"=È)(h:QA X k [l] ps)(hs:do d0 l [] X.env)(hpl:do ((ű pos<|Ă [l] X.env).any (·.1) || (Α pos (ŗ [⟨À "start",.Constant (.int 1) b a,kpos⟩] X.env)).any (·.1.isNone))=É):QI X k `bP (.Call (.Name "enumerate" p) [l] [#[À "start",.Constant `db b a,kpos]] pos) (ym ps):=by
 let#[g,d,e]:=h.h;show#[_,Sx f hm d hs hpl,OT e]
end
section
variable{K:aq}{qual:Str}{st:Ā}{ps:ah}{f c E:ai}
set_option genInjectivity false in
set_option genSizeOf false in
structure w6(K:aq)(c E:ai)(qual:Str)(st:Ā)(ps:ah) where
 a:Addr
 d:Ĥ
 F:ir K "__init__" qual st a d
 b:Binds K d ps []
 t:se K c E a
noncomputable def L9(F:g8 K "__init__" qual st f)(x1:fA K c f)(x2:oy K c E=Â)(x3:ğ K `aW "__setattr__"=À (À<|.builtin "object.__setattr__"))(x4:ź K `aW=Â)(b:ae0 K `aq=Â)(d:W.readsIn K E (.type "type")=Â)(e:W.specialIn K `eg "__getattribute__"=À (À<|.builtin "type.__getattribute__"))(g:W.findCls K `eg (.type "type") "__init__"=À (.val<|.builtin "ValueError.__init__"))(a:kx "__init__" qual st ps):w6 K c E qual st ps:=
 #[f,F.choose,F.choose_spec,F.choose_spec.binds a,#[x1,x2,x3,x4,b,d,e,g]]
end
def M8(q:Xv->Prop)(C:ai)(d:cj)(e:Pd)(j:af):xr q C d e j=(m9 d `ae λg=>xO g λa b=>bZ a=Â/\bZ b=Â/\q #[.ref C,[("weights",.ag .f b),("numbers",.ag .f a)]]):=rfl
def RA(a:cj)(j:af)(Q:af->Bool->Prop):yj a j Q=(a j λb=>r9 b λi=>Q ((Ç (i+1).toNat).map λ(n:Nat)=>.int<|i+n*(-1)) Â):=rfl
def UT(i j:Nat)(G:af)(Q:az):AQ i j G Q=(∃(m:bz)(ns:aF)(y:Int),G[i]?=À `es/\m.map (·.1)=ns.map (λn=>(ï n:aW))/\G[j]?=À (.int y)/\↑ns<=1000/\Q (.ag .o<|(ns.filter λx=>!decide (x=y)).map Tr.int)):=rfl
def RB(a:cj)(j:af)(Q:af->Bool->Prop):ym a j Q=(a j λb=>oD b λt=>iB `ba λxs=>Q (xs.mapIdx λi x=>.aL [.int ((i+1:Nat):Int),x])<|bM<|aB t):=rfl
def RC(i:Int)(Q:Int->Prop):r9 [.int i,.int (-1),.int (-1)] Q=(-1<=i/\i<1000000/\Q i):=by
 unfold r9;simp
def UU:vt [.ag f xs] Q=(fu xs=Â/\Q `dI):=rfl
section
abbrev vd(x:Tr)(Q:Bool->Prop):Prop:=match x with |.aP .f m=>Q (!m.isEmpty) |_=>False
abbrev xP(pe:bh):eB:=λj Q=>pe j λx=>vd x Q
def SA(hz:k.z=Â)(h:bF K k te pe):gz K k (λj H Q=>te j H λx d=>∃b,yu K x d b/\Q b d) (xP pe):=λF B H j i Q A c p q=>by
 show h F B H j i _ _ c p λt v f l C p1 o=>?_
 unfold vd at p1;split at p1
 .rename_i m;let#[_,a,vs,rfl,u,w,D]:=o.r;have y:=vJ ((c.gr o.g).z hz) u;show#[!vs.isEmpty,.inr<|.inr #[vs,o.g.s _ _ y,rfl],q _ f l ?_ o.g];have e:=↑w;have n:vs.isEmpty=m.isEmpty:=by
   cases vs with
   |nil=>cases m with
    |nil=>rfl
    |cons _ _=>cases e
   |cons _ _=>cases m with
    |nil=>cases e
    |cons _ _=>rfl
  rw[n];show p1
 .show p1.elim
def X0(hz:k.z=Â)(h:QE X k e pe)(he:∀whole,af4 e X.env whole=(do let v <- whole;Z5 e.pos;holding [v] `bZ):=by intro _;rfl):QT X k e (xP pe):=by
 let#[d,a,b]:=h.h;show#[_,Sg a he,SA hz b]
def OO(pe:bh)(j:af)(Q:Bool->Prop):xP pe j Q=(pe j λx=>vd x Q):=rfl
def RD(m:bz)(Q:Bool->Prop):vd `es Q=Q (!m.isEmpty):=rfl
def zB(f:Fl)(m:bz)(Q:az):rR [.aP f m] Q=Q (.ag .o<|m.map λp=>lF p.1):=by cases f<;>rfl
end
section
variable{K:aq}{qual:Str}{st:Ā}{ps:ah}{f c E:ai}
def SD{a:af0}(h:W.clsIn K c=À a)(hm:a.mro=.ref c::.ref E::g0)(hd:a.hasDict=Â):oy K c E=Â:=by
 unfold oy;rw[h];change (a.mro == _&&a.hasDict)=Â;rw[hm,hd,ap3];rfl
def SE(h:ZY K E g0 "ValueError.__new__"=Â):W.tailIn K g0 (.ref E::g0)=Â:=by
 unfold ZY at h;split at h
 case h_2=>cases h
 case h_1 ddc cdc slc hlook=>
  split at h
  case h_2=>cases h
  case h_1 Cc bmc k0 k1 k2 k3 nn k5 hmro hslots=>
   simp only[í,beq_iff_eq,an4] at h;let#[#[#[#[#[d,e],g],i],a],b]:=h;unfold W.tailIn;show al2.mpr<|.inr ?_;dsimp only;rw[hlook];dsimp only;rw[a,b,ap3,aa4,aa4];unfold W.tailIn g0;show al2.mpr<|.inl<|ap3 _
def Q7{o j:Obj}{dd:b9}{g:af0}{l:Array (eW)}{k0 k1 k2 k3 k5:eW}{i:Array DictEntry}{n:Nat}(m:K.lookup c=À o)(v:o=#[.type "type",dd,.cls g,l])(hm:g.mro=.ref c::.ref E::g0)(hs:l.toList=[k0,k1,k2,k3,À<|.builtin "ValueError.__new__",k5])(h:g.hasDel=É)(p:ZY K E g0 "ValueError.__new__"=Â)(q:K.lookup g.ns=À j)(hd:j.data=.dict i n)(u:(i.toList.all λe=>match e.key with |.str _ _=>Â |_=>É)=Â)(r:W.nsIn K g.ns "__init__"=À (À<|.ref f)):fA K c f:=by
 have aR:W.nsOkIn K g.ns=Â:=by
  unfold W.nsOkIn;rw[q];let#[a,b,d,e]:=j;dsimp only at hd;subst hd;change (i.all _)=Â;rw[<- Array.all_toList];show u
 show#[m,v,hm,hs,h,SE p,aR,r]
noncomputable def yE{d:af0}{o h:Obj}{dd:b9}{a:af0}{i:Array (eW)}{k0 k1 k2 k3 k5:eW}{g:Array DictEntry}{n:Nat}(e:ğ K `aW "__init__"=À (À<|.ref f))(F:g8 K "__init__" qual st f)(p:K.lookup c=À o)(x:o=#[.type "type",dd,.cls a,i])(hm:a.mro=.ref c::.ref E::g0)(hs:i.toList=[k0,k1,k2,k3,À<|.builtin "ValueError.__new__",k5])(b:a.hasDel=É)(q:ZY K E g0 "ValueError.__new__"=Â)(r:K.lookup a.ns=À h)(hd:h.data=.dict g n)(w:(g.toList.all λe=>match e.key with |.str _ _=>Â |_=>É)=Â)(v:W.nsIn K a.ns "__init__"=À (À<|.ref f))(j:W.clsIn K c=À d)(l:d.mro=.ref c::.ref E::g0)(m:d.hasDict=Â)(x3:ğ K `aW "__setattr__"=À (À<|.builtin "object.__setattr__"))(x4:ź K `aW=Â)(y:ae0 K `aq=Â)(A:W.readsIn K E (.type "type")=Â)(B:W.specialIn K `eg "__getattribute__"=À (À<|.builtin "type.__getattribute__"))(C:W.findCls K `eg (.type "type") "__init__"=À (.val<|.builtin "ValueError.__init__"))(u:kx "__init__" qual st ps):w6 K c E qual st ps:=
 L9 F (Q7 p x hm hs b q r hd w v) (SD j l m) x3 x4 y A B C u
end
end Pu
namespace L2
open PySem PySem.Spec PyProof.Rows
section
abbrev C5(K:aq):V->ay->Hp->VK->Prop:=λx vs H Q=>∃(l:ai)(ns:aF)(c:Int),x=.ref l/\vs=[.int c]/\bE K H l `ay/\c∈ns/\↑ns<=1000/\Q (.int (ns.idxOf c:Nat)) H
def VS:Bu X "list.index" (C5 X.K):=by
 intro aa s i H x vs v us Q I D C h;let#[l,ns,c,rfl,rfl,p,e,E,q]:=h;cases D;∎;let#[u,rfl,B]:=C.one;let#[t,rfl]:=B;let#[b,r,#[#[oc,od,A,osl],n,m,o,hd,f],G]:=I.list p;∎;cases o;cases hd;cases f;have d:=O8 r;have a:=↑d;have g:ns.idxOf c<↑ns:=ag1.mpr e;show ak2 F.slot_list_index #[_,m,rfl] F.entry_list_index (F.args_list_index_2 _ _) (SeqAt.list_indexAt l _ n È osl (.int c t) (isInt c) (ns.idxOf c) (by simpa [a] using g) ⋯ ?_ ?_) #[m,λy w=>(eq_isInt c t d y<|by simpa using w).at _ _,.int _,H,I.tok _,#[_,rfl],q]
 .show isInt c b[ns.idxOf c]=Â;rw[isInt_at c d _ ⋯ g];simpa using am9 g
 .intro j hjs hlt;change isInt c b[j]=É;rw[isInt_at c d j (by simpa using hjs) ⋯];show ne_of_lt_idxOf hlt _
end
end L2
namespace Pu
open PySem L2 Vc Sf
section
abbrev xQ(po pe:bh):bh:=λj Q=>po j λx=>∃(f:Fl)(ns:aF),x=.ag f `bg/\pe j λt=>∃c:Int,t=.int c/\c∈ns/\↑ns<=1000/\Q (.int (ns.idxOf c:Nat))
def Hr:∀{ns:aF}{vs:ay}{c:Cs},Rs K F B `bg vs c->vs=ns.map V.int/\c=[]
 |[],_,_,h=>h
 |n::ns,_,_,y=>by
  ∎;let#[v,r,c,d,g,i,j,l]:=y;let#[a,b]:=Hr l;let#[e,f]:=(show v=V.int n/\c=[] from j);∎;show#[by rw[g,a,e];rfl,by rw[i,f,b];rfl]
def SF(C:bF K k to po)(he:bF K k te pe):bF K k (Bl K "list" (C5 K) to<|jI te jK) (xQ po pe):=λF B H j i Q E c p q=>by
 show C F B H j i _ _ c p λx v m o G p1 d=>?_
 ∎;let#[f,ns,rfl,p1]:=p1;let#[a,vs,J,rfl,l,A,L,M]:=d.r.cZ d.g.s (λk=>(c.b k).trans d.g.h) d.c;let#[rfl,_]:=Hr A;∎;show#[.inl #[rfl,_,l],he m B o j i _ _ `el p1 λy u n w I p2 e=>?_];∎;let#[b,rfl,p2,p3,D]:=p2;let#[rfl,_]:=e.r;∎;show#[a,ns,b,rfl,rfl,(l.imp (λh=>e.g.h.rd h) id),p2,p3,q _ _ n w [] D #[d.g.trans' e.g,#[rfl,rfl],.nil,.nil]]
def X1(hp:QE X k o po)(h:QE X k e pe)(f:do Ė o "index" X.env `at=eval o X.env)(g:do (((ű br<|Ă [e] X.env).all (!·.1)&&(Α br<|ŗ [] X.env).all (·.1.isSome))&&decide (([e].length+([]:List ZE).length+if ([]:List ZE).isEmpty=Â then 0 else 1)<30))=Â)(i:do (apos.endLine == br.line)=Â)(a:do d0 e [] X.env):
  QE X k (.Call (.Attribute o "index" apos) [e] [] br) (xQ po pe):=by
 ∎;let#[n,j,l]:=hp.h;let#[m,b,d]:=h.h;∎;show#[_,I0 PySem.F.plainAttrs_list PySem.F.slot_list_index PySem.F.type_list_index VS j (kI b lL a) f g i a rfl,SF l d]
def OP:xQ po pe j Q=(po j λx=>∃(f:Fl)(ns:aF),x=.ag f `bg/\pe j λt=>∃c:Int,t=.int c/\c∈ns/\↑ns<=1000/\Q (.int (ns.idxOf c:Nat))):=rfl
end
end Pu
namespace Pu
def UW(f:j->i)(a:j)(l:List j):Ų f (a::l)=f a::Ų f l:=rfl
def UX(f:j->i):Ų f []=[]:=rfl
open PySem L2 in
def X2(CX:fP)(P:ð)(w:ă)(K:aq)(mg:bw)(base:aV)(N:ah)(b:Str)(a:Zr)(f:ai)(d:ao)(A:ĉ)(outer:cH)(s:aj)(H:Hp)(E:XK):(kc CX P w K mg base N b a f d A outer s H E).K=K:=rfl
end Pu
namespace Pu
open PySem L2 Vc Sf
section
variable{st:Ā}{x:Str}{p pos:Pos}{e:ę}{es:bN}{pn:ah}{ps:cj}{j m n:Nat}{z:Bool}{C:ai}{qual:Str}
def qc{a9:gm}(r:du X.K X.mg x st pn)(G:aJ X.prog X.w X.K X.mg X.base bI j r.a r.d pn (bP X.K z 0 n a9))(l:QA X k (e::es) ps)(v:bA m X.A:=by assumption)(q:j<=m:=by first |decide |omega)(u:z=Â->k.z=Â:=by first |show id |show λ_=>rfl)(hn:∀xs Q,a9 xs Q->↑xs=n:=by show λ_ _ h=>h.1)(o:do Gl X x)(f: ~~~(dZ x))(he:do d0 e es X.env)(hpl:do fS pos es X.env):
  QE X k (.Call `aL (e::es) [] pos) (xC a9<|m9 ps):=by
 let#[y,g,i]:=l.aB.h;show#[_,Uw (E:=E0) (G.mono q) v o r.m r.F.kp r.b .nil tp g f he hpl,SS u hn i]
def tW{a9:iA}(r:du X.K X.mg x st pn)(G:aJ X.prog X.w X.K X.mg X.base `aB j r.a r.d pn (jc X.K z 0 n a9))(D:QA X k (e::es) ps)(U:∀i,j9 `aB X i (k.E i):=by first |assumption |show GI (YZ rfl rfl rfl rfl) |show GI Xb)(O:bA m X.A:=by assumption)(L:j<=m:=by first |decide |omega)(M:z=Â->k.z=Â:=by first |show id |show λ_=>rfl)(hn:∀xs Q q,a9 xs Q q->↑xs=n:=by show λ_ _ _ h=>h.1)(I:do Gl X x)(l: ~~~(dZ x))(he:do d0 e es X.env)(hpl:do fS pos es X.env):
  QE X k (.Call `aL (e::es) [] pos) (u0 k.q a9<|m9 ps):=by
 let#[Y,v,y]:=D.aB.h;show#[_,RP (G.mono L) O I r.m r.F.kp r.b .nil U v l he hpl,EZ (λF B H i J c f o u N g=>c.x f o u N g) M hn y]
def IF{a9:gm}(r:uf X.K C qual st pn)(G:aJ X.prog X.w X.K X.mg X.base bI j r.a r.d pn (bP X.K z 1 n a9))(hm:X.mg x=À `ai)(l:QA X k (e::es) ps)(v:bA (m+1) X.A:=by assumption)(q:j<=m:=by first |decide |omega)(u:z=Â->k.z=Â:=by first |show id |show λ_=>rfl)(hn:∀xs Q,a9 xs Q->↑xs=n:=by show λ_ _ h=>h.1)(o:do Gl X x)(f: ~~~(dZ x))(he:do d0 e es X.env)(hpl:do fS pos es X.env):
  QE X k (.Call `aL (e::es) [] pos) (xM C a9 ps):=by
 let#[y,g,i]:=l.h;show#[_,RX (R:=λ_=>E0) r.t (G.mono q) v o hm r.b .nil (wD tp) g f he hpl,Tc u hn i]
end
end Pu
namespace Lp
abbrev sm:Nat->(Nat->Int)->Int
 |0,_=>0
 |n + 1,f=>sm n f + f n
def aY{f g:Nat->Int}:∀{n:Nat},(∀k,k<n->f k=g k)->sm n f=sm n g
 |0,_=>rfl
 |n + 1,h=>by rw[sm,sm,aY λk a=>h k ⋯,h n ⋯]
def sZ(a b:Int)(f g:Nat->Int):∀n:Nat,sm n (λk=>a*f k+b*g k)=a*sm n f+b*sm n g
 |0=>by simp[sm]
 |n + 1=>by rw[sm,sm,sm,sZ a b f g n];grind
def bG(a:Int)(f:Nat->Int):∀n:Nat,sm n (λk=>a*f k)=a*sm n f
 |0=>by simp[sm]
 |n + 1=>by rw[sm,sm,bG a f n];grind
def kJ{f:Nat->Int}:∀{n:Nat},(∀k,k<n->f k=0)->sm n f=0
 |0,_=>rfl
 |n + 1,h=>by rw[sm,kJ λk a=>h k ⋯,h n ⋯];rfl
def iz{f:Nat->Int}{a:Nat}:∀{n:Nat},a<n->(∀k,k<n->k≠a->f k=0)->sm n f=f a
 |n + 1,ha,h=>by
  by_cases e:a=n
  .subst e;rw[sm,kJ λk b=>h k ⋯ ⋯];omega
  .rw[sm,iz (a:=a) ⋯ λk b=>h k ⋯,h n ⋯ ⋯];omega
def fE{f:Nat->Int}{a b:Nat}(d:a<b):∀{n:Nat},b<n->(∀k,k<n->k≠a->k≠b->f k=0)->sm n f=f a+f b
 |n + 1,hb,h=>by
  by_cases e:b=n
  .subst e;rw[sm,iz (a:=a) d λk g i=>h k ⋯ i ⋯]
  .rw[sm,fE d ⋯ λk g=>h k ⋯,h n ⋯ ⋯ ⋯];omega
def dI(f:aM)(n:Nat):∀m:Nat,sm m (λi=>sm n<|f i)=sm n λk=>sm m λi=>f i k
 |0=>by rw[sm,kJ];intro k _;rfl
 |m + 1=>by
  rw[sm,dI f n m];have:=sZ 1 1 (λk=>sm m λi=>f i k) (f m) n;simp only[ad6] at this;rw[<- this];rfl
abbrev sg(n:Nat):Int:=if n % 2=0 then 1 else -1
def VT(n:Nat):sg (n+1)=- sg n:=by unfold sg;split<;>split<;>omega
abbrev skip(k j:Nat):Nat:=if j<k then j else j+1
abbrev up{i:Type}(v:Nat->i)(s:Nat)(x:i):Nat->i:=λj=>if j=s then x else v j
abbrev dt:Nat->(aM)->Int
 |0,_=>1
 |m + 1,v=>sm (m + 1) λk=>sg (m + k) * v k m * dt m (λj=>v<|skip k j)
def oJ:∀{m:Nat}{v w:aM},(∀j i,j<m->i<m->v j i=w j i)->dt m v=dt m w
 |0,_,_,_=>rfl
 |m + 1,v,w,h=>by
  rw[dt,dt];apply aY;intro k a;rw[h k m a ⋯,oJ (m:=m) (v:=λj=>v<|skip k j) (w:=λj=>w<|skip k j) λj i d b=>h _ _ (by unfold skip;split<;>omega) ⋯]
def zC{v:aM}{s k:Nat}(x:Nat->Int)(h:k≠s):(λj=>up v s x<|skip k j)=up (λj=>v<|skip k j) (if s<k then s else s - 1) x:=by
 funext j;unfold up skip;dsimp only;by_cases a:s<k
 .rw[ao7 a];by_cases b:j<k
  .rw[ao7 b]
  .rw[ao6 b,ao6 ⋯,ao6 ⋯]
 .rw[ao6 a];by_cases b:j<k
  .rw[ao7 b,ao6 ⋯,ao6 ⋯]
  .rw[ao6 b];by_cases c:j+1=s
   .rw[ao7 c,ao7 ⋯]
   .rw[ao6 c,ao6 ⋯]
def Q8{v:aM}{s:Nat}(x:Nat->Int):(λj=>up v s x<|skip s j)=λj=>v (skip s j):=by
 funext j;unfold up skip;rw[ao6 (by split<;>omega)]
def kh{v:aM}{s:Nat}{x:Nat->Int}:up v s x s=x:=by simp[up]
def ji{v:aM}{s k:Nat}{x:Nat->Int}(h:k≠s):up v s x k=v k:=by simp[up,h]
def oR(a b:Int)(x y:Nat->Int):∀{m:Nat}(v:aM){s:Nat},s<m->dt m (up v s λi=>a*x i+b*y i)=a*dt m (up v s x)+b*dt m (up v s y)
 |m + 1,v,s,hs=>by
  simp only[dt];rw[<- sZ];apply aY;intro k d;by_cases e:k=s
  .subst e;simp only[Q8,kh];grind
  .simp only[ji e];rw[zC _ e,zC _ e,zC _ e,oR a b x y (m:=m) _ (by split<;>omega)];grind
def Ib:∀{m:Nat}{v:aM}{a:Nat},a+1<m->(∀i,i<m->v a i=v (a+1) i)->dt m v=0
 |m + 1,v,a,ha,h=>by
  rw[dt,fE (a:=a) (b:=a+1) ⋯ ha]
  .have e:dt m (λj=>v<|skip a j)=dt m (λj=>v<|skip (a+1) j):=by
    apply oJ;intro j i f d;unfold skip;by_cases c:j=a
    .subst c;rw[ao6 ⋯,ao7 ⋯];show (h i ⋯).symm
    .by_cases b:j<a
     .rw[ao7 b,ao7 ⋯]
     .rw[ao6 b,ao6 ⋯]
   rw[e,h m ⋯,<- aa8,VT];grind
  .intro k hk ka kb;rw[Ib (m:=m) (v:=λj=>v<|skip k j) (a:=if k<a then a - 1 else a),Ċ]
   .split<;>omega
   .intro i d;unfold skip;by_cases c:k<a
    .simp only[c,if_true];rw[ao6 ⋯,ao6 ⋯,show a - 1+1=a by omega];show h i ⋯
    .simp only[c,if_false];rw[ao7 ⋯,ao7 ⋯];show h i ⋯
def o8{v:aM}{s t:Nat}{x y:Nat->Int}(h:s≠t):up (up v s x) t y=up (up v t y) s x:=by
 funext j;unfold up;by_cases a:j=t<;>by_cases b:j=s<;>simp[a,b]<;>omega
def EL{m a b:Nat}(d:a≠b)(e:a<m)(f:b<m)(h:∀v:aM,(∀i,i<m->v a i=v b i)->dt m v=0)(v:aM)(x y:Nat->Int):dt m `dJ=- dt m `dK:=by
 have z:=λp=>h (up (up v a p) b p) λi _=>by rw[ji d,kh,kh]
 have l:=oR 1 1 x y (m:=m) (up v a λi=>1*x i+1*y i) f;rw[z,o8 d,o8 d,oR 1 1 x y (m:=m) _ e,oR 1 1 x y (m:=m) _ e,o8 d.symm,o8 d.symm,o8 d.symm,o8 d.symm,z,z] at l;omega
def wx{m:Nat}:∀(n:Nat){v:aM}{a b:Nat},b=a+n+1->b<m->(∀i,i<m->v a i=v b i)->dt m v=0
 |0,v,a,b,e,hb,h=>by subst e;show Ib hb h
 |n + 1,v,a,b,e,hb,h=>by
  have s:=EL (m:=m) (a:=b - 1) (b:=b) ⋯ ⋯ hb (λw g=>wx 0 ⋯ hb g) v (v<|b - 1) (v b);have f:up (up v (b - 1)<|v<|b - 1) b (v b)=v:=by
   funext j;unfold up;by_cases c:j=b
   .simp[c]
   .by_cases d:j=b - 1
    .rw[ao6 c,ao7 d,d]
    .rw[ao6 c,ao6 d]
  rw[f,wx n (v:=up (up v (b - 1)<|v b) b<|v<|b - 1) (a:=a) (b:=b - 1) ⋯ ⋯] at s
  .omega
  .intro i hi;rw[ji ⋯,ji ⋯,ji ⋯,kh];show h i hi
def s9{m a b:Nat}{v:aM}(e:a≠b)(d:a<m)(f:b<m)(h:∀i,i<m->v a i=v b i):dt m v=0:=by
 by_cases c:a<b
 .show wx (b - a - 1) ⋯ f h
 .show wx (a - b - 1) (a:=b) (b:=a) ⋯ d λi g=>(h i g).symm
def VU{m a b:Nat}(d:a≠b)(e:a<m)(f:b<m)(v:aM)(x y:Nat->Int):dt m `dJ=- dt m `dK:=
 EL d e f (λ_ h=>s9 d e f h) v x y
def zQ{m s:Nat}(hs:s<m)(v:aM)(c:Nat->Int)(u:aM):∀n:Nat,dt m (up v s λi=>sm n λj=>c j*u j i)=sm n λj=>c j*dt m (up v s<|u j)
 |0=>by
  have:=oR 0 0 (λ_=>0) (λ_=>0) (m:=m) v hs;simp only[ž,ab9] at this;show this
 |n + 1=>by
  have:=oR 1 (c n) (λi=>sm n λj=>c j*u j i) (u n) (m:=m) v hs;simp only[ad6] at this;change dt m (up v s λi=>(sm n λj=>c j*u j i)+c n*u n i)=_;rw[this,zQ hs v c u n];rfl
def zD:∀m:Nat,dt m (λj i=>if i=j then 1 else 0)=1
 |0=>rfl
 |m + 1=>by
  rw[dt,iz (a:=m) ⋯]
  .rw[ao7 rfl,oJ (w:=λj i=>if i=j then 1 else 0),zD m]
   .have:sg (m+m)=1:=by unfold sg;rw[ao7 ⋯]
    rw[this];rfl
   .intro j i hj hi;unfold skip;rw[ao7 hj]
  .intro k hk hn;rw[ao6 ⋯,Ċ,ž]
variable{m n:Nat}{A:aM}{S:Nat->Nat}
abbrev bs(A:aM)(S:Nat->Nat):aM:=λj i=>A i<|S j
abbrev dd(m:Nat)(A:aM)(S:Nat->Nat):Int:=dt m<|bs A S
abbrev tt(m:Nat)(A:aM)(S:Nat->Nat)(i k:Nat):Int:=dt m<|up (bs A S) i λx=>A x k
abbrev Cr(m:Nat)(A:aM)(S:Nat->Nat):Prop:=∀i k,i<m->dd m A S*A i k=sm m λj=>tt m A S j k*A i (S j)
def Ap{v:aM}{i:Nat}:up v i (v i)=v:=by funext j;unfold up;split<;>simp_all
def SG{v:aM}{i:Nat}{x y:Nat->Int}:up (up v i x) i y=up v i y:=by funext j;unfold up;split<;>simp_all
def Aq{r c:Nat}:bs A `bo=up `bj r λx=>A x c:=by funext j i;unfold bs up;split<;>rfl
def Ic{i:Nat}:tt m A S i (S i)=dd m A S:=by
 unfold tt dd;rw[show (λx=>A x<|S i)=bs A S i from rfl,Ap]
def FH{i j:Nat}(a:i<m)(b:j<m)(h:i≠j):tt m A S i (S j)=0:=
 s9 h a b λx _=>by rw[kh,ji<|Ć h];rfl
def wy(h:dd m A S≠0){i j:Nat}(a:i<m)(b:j<m)(e:S i=S j):i=j:=by
 apply Ĳ;intro q;show h (s9 q a b λx _=>by unfold bs;rw[e])
def dG{r c:Nat}:dd m A `bo=tt m A S r c:=by unfold dd tt;rw[Aq]
def bX{r c k:Nat}:tt m A `bo r k=tt m A S r k:=by unfold tt;rw[Aq,SG]
def ew(C:Cr m A S){r c i:Nat}(k:Nat)(f:i<m)(l:r<m)(h:i≠r):
  dd m A S*tt m A `bo i k=tt m A S i k*tt m A S r c - tt m A S i c*tt m A S r k:=by
 have u:dd m A S*tt m A `bo i k=dt m (up (up `bj r λx=>A x c) i λx=>sm m λj=>tt m A S j k*bs A S j x):=by
  unfold tt;rw[Aq];have:=oR (dd m A S) 0 (λx=>A x k) (λ_=>0) (m:=m) (up `bj r λx=>A x c) f;simp only[ž,ab9] at this;rw[<- this];apply oJ;intro j x d v;by_cases q:j=i
  .subst q;rw[kh,kh];show C x k v
  .rw[ji q,ji q]
 have z:∀j,j<m->j≠i->j≠r->tt m A S j k*dt m (up (up `bj r λx=>A x c) i<|bs A S j)=0:=λj d e g=>by
  rw[s9 (a:=i) (b:=j) (Ć e) f d λx _=>by rw[kh,ji e,ji g],Ċ]
 have o:dt m (up (up `bj r λx=>A x c) i<|bs A S i)=tt m A S r c:=by
  rw[o8<|Ć h,Ap];rfl
 have p:dt m (up (up `bj r λx=>A x c) i<|bs A S r)=- tt m A S i c:=by
  rw[VU (Ć h) l f,Ap];rfl
 rw[u,zQ f];by_cases q:i<r
 .rw[fE q l λj d e g=>z j d e g,o,p];grind
 .rw[fE (a:=r) (b:=i) ⋯ f λj d g e=>z j d e g,o,p];grind
def Cr.turn(C:Cr m A S)(hd:dd m A S≠0){r c:Nat}(o:r<m):Cr m A `bo:=by
 intro i k l;rw[dG];have g:sm m (λj=>dd m A S*(tt m A `bo j k*A i (up S r c j)) - tt m A S r c*(tt m A S j k*A i (S j))+tt m A S r k*(tt m A S j c*A i (S j)))=dd m A S*tt m A S r k*A i c:=by
  rw[iz (a:=r) o]
  .rw[bX];simp only[up,if_true];grind
  .intro j hj q;have:=ew C (c:=c) k hj o q;rw[show up S r c j=S j by simp[up,q]];grind
 have e:∀(f g h:Nat->Int)(a b d:Int)(n:Nat),sm n (λj=>a*f j - b*g j+d*h j)=a*sm n f - b*sm n g+d*sm n h:=by
  intro f g h a b d n;induction n with
  |zero=>simp[sm]
  |succ n p=>rw[sm,sm,sm,sm,p];grind
 rw[e,<- C i k l,<- C i c l] at g;apply Ľ hd
 grind
def gN{j:Nat}(k:Nat)(b:j<m):tt m A S j k=sm m λi=>A i k*dt m (up `bj j λx=>if x=i then 1 else 0):=by
 unfold tt;rw[<- zQ b `bj (λi=>A i k) (λi x=>if x=i then 1 else 0)];apply oJ;intro a x e d;by_cases q:a=j
 .subst q;rw[kh,kh,iz (a:=x) d]
  .simp
  .intro i hi h;rw[ao6<|Ć h,Ċ]
 .rw[ji q,ji q]
abbrev oj(m N:Nat)(A:aM)(y:Nat->Int):Prop:=∀i,i<m->sm N (λk=>A i k*y k)=0
def oj.tt{N:Nat}{y:Nat->Int}(h:oj m N A y){j:Nat}(b:j<m):sm N (λk=>tt m A S j k*y k)=0:=by
 rw[aY (g:=λk=>sm m λi=>dt m (up `bj j λx=>if x=i then 1 else 0)*(A i k*y k))]
 .rw[<- dI λi k=>dt m (up `bj j λx=>if x=i then 1 else 0)*(A i k*y k)];apply kJ;intro i a;rw[bG,h i a,Ċ]
 .intro k _;rw[gN k b,Ϣ,<- bG];apply aY;intro i _;grind
def X3{N:Nat}{y:Nat->Int}(C:Cr m A S)(hd:dd m A S≠0)(h:∀j,j<m->sm N (λk=>Lp.tt m A S j k*y k)=0):oj m N A y:=by
 intro i a;apply Ľ hd;rw[<- bG,Ċ,aY (g:=λk=>sm m λj=>A i (S j)*(Lp.tt m A S j k*y k))]
 .rw[<- dI λj k=>A i (S j)*(Lp.tt m A S j k*y k)];apply kJ;intro j b;rw[bG,h j b,Ċ]
 .intro k _;rw[<- aa7,C i k a,Ϣ,<- bG];apply aY;intro j _;grind
abbrev zz(m:Nat)(A:aM)(c:Nat->Int)(S:Nat->Nat)(k:Nat):Int:=dd m A S*c k - sm m λi=>c (S i)*tt m A S i k
def eJ{c:Nat->Int}{i:Nat}(b:i<m):zz m A c S (S i)=0:=by
 unfold zz;rw[iz (a:=i) b,Ic]
 .grind
 .intro j hj q;rw[FH hj b q,Ċ]
def wz{N:Nat}{c y:Nat->Int}(h:oj m N A y):sm N (λk=>zz m A c S k*y k)=dd m A S*sm N λk=>c k*y k:=by
 rw[aY (g:=λk=>dd m A S*(c k*y k)+(-1)*sm m λi=>c (S i)*(tt m A S i k*y k)),sZ,<- dI λi k=>c (S i)*(tt m A S i k*y k)]
 .rw[kJ (n:=m)]
  .grind
  .intro i hi;rw[bG,h.tt hi,Ċ]
 .intro k _;unfold zz;have:sm m (λi=>c (S i)*tt m A S i k)*y k=sm m λi=>c (S i)*(tt m A S i k*y k):=by
   rw[Ϣ,<- bG];apply aY;intro i _;grind
  grind
def VW(C:Cr m A S)(hd:dd m A S≠0){c:Nat->Int}{r e:Nat}(k:Nat)(l:r<m):
  dd m A S*zz m A c `et k=zz m A c S k*tt m A S r e - zz m A c S e*tt m A S r k:=by
 unfold zz;rw[dG];have g:sm m (λi=>dd m A S*(c (up S r e i)*tt m A `et i k) - tt m A S r e*(c (S i)*tt m A S i k)+tt m A S r k*(c (S i)*tt m A S i e))=dd m A S*tt m A S r k*c e:=by
  rw[iz (a:=r) l]
  .rw[bX];simp only[up,if_true];grind
  .intro j hj q;have:=ew C (c:=e) k hj l q;rw[show up S r e j=S j by simp[up,q]];grind
 have o:∀(f g h:Nat->Int)(a b d:Int)(n:Nat),sm n (λj=>a*f j - b*g j+d*h j)=a*sm n f - b*sm n g+d*sm n h:=by
  intro f g h a b d n;induction n with
  |zero=>simp[sm]
  |succ n p=>rw[sm,sm,sm,sm,p];grind
 rw[o] at g
 grind
variable{m n:Nat}{A:aM}
def Ie{d x y:Int}(hd:0<d)(h:d*x<=d*y):x<=y:=Int.le_of_mul_le_mul_left h hd
def tr{a b c x y z:Int}(f:0<x)(g:0<y)(hz:0<z)(d:a*y<=b*x)(e:b*z<=c*y):a*z<=c*x:=by
 have h:=ad0 d<|ľ hz;have i:=ad0 e<|ľ f;apply Ie g;grind
def cP{f:Nat->Int}:∀{n:Nat},(∀k,k<n->0<=f k)->0<=sm n f
 |0,_=>al3 _
 |n + 1,h=>by
  have:=cP (n:=n) λk a=>h k ⋯
  have:=h n ⋯;rw[sm];omega
structure Gd(m n:Nat)(A:aM)(S:Nat->Nat):Prop where
 cr:Cr m A S
 pos:0<dd m A S
 lt:∀i,i<m->S i<n
 fe:∀i,i<m->0<=tt m A S i n
abbrev Ent(m n:Nat)(A:aM)(c:Nat->Int)(sh:Nat->Prop)(S:Nat->Nat)(e:Nat):Prop:=
 e<n/\zz m A c S e<0/\¬ sh e/\∀k,k<e->¬ sh k->0<=zz m A c S k
abbrev Lv(m n:Nat)(A:aM)(S:Nat->Nat)(r e:Nat):Prop:=
 r<m/\0<tt m A S r e/\∀i,i<m->0<tt m A S i e->tt m A S r n*tt m A S i e<tt m A S i n*tt m A S r e\/(tt m A S r n*tt m A S i e=tt m A S i n*tt m A S r e/\S r<=S i)
def Gd.turn{S:Nat->Nat}{r e:Nat}(G:Gd m n A S)(V:Lv m n A S r e)(he:e<n):Gd m n A `et:=by
 show#[G.cr.turn `bp V.1,by rw[dG];show V.2.1,λi d=>?_,λi d=>?_]
 .unfold up;split
  .show he
  .show G.lt i d
 .by_cases q:i=r
  .rw[q,bX];show G.fe r V.1
  .have t:=ew G.cr (c:=e) n d V.1 q;apply Ie G.pos;rw[t,Ċ];by_cases p:0<tt m A S i e
   .have:=V.2.2 i d p;have:tt m A S r n*tt m A S i e<=tt m A S i n*tt m A S r e:=⋯
    rw[Ϣ<|tt m A S i e];omega
   .have a:=ϒ (G.fe i d)<|ľ V.2.1;have b:=ϒ (show 0<=- tt m A S i e by omega)<|G.fe r V.1;rw[Int.neg_mul] at b;omega
abbrev dr(m:Nat)(A:aM)(S:Nat->Nat)(e k:Nat):Int:=(if k=e then dd m A S else 0)+(-1)*sm m λi=>if S i=k then tt m A S i e else 0
def zR{S:Nat->Nat}{e:Nat}(C:Cr m A S)(hd:dd m A S≠0)(lt:∀i,i<m->S i<n+1)(he:e<n+1):oj m (n+1) A (dr m A S e):=by
 apply X3 C hd;intro j b;rw[aY (g:=λk=>1*(tt m A S j k*if k=e then dd m A S else 0)+(-1)*sm m λi=>if S i=k then tt m A S j k*tt m A S i e else 0),sZ]
 .rw[iz (n:=n+1) (a:=e) he,ao7 rfl,<- dI λi k=>if S i=k then tt m A S j k*tt m A S i e else 0,iz (n:=m) (a:=j) b,iz (n:=n+1) (a:=S j)<|lt j b,ao7 rfl,Ic]
  .grind
  .intro k _ q;rw[ao6<|Ć q]
  .intro i hi q;apply kJ;intro k _;split
   .rename_i h;rw[<- h,FH b hi<|Ć q,ž]
   .rfl
  .intro k _ q;rw[ao6 q,Ċ]
 .intro k _;unfold dr;have:sm m (λi=>if S i=k then tt m A S j k*tt m A S i e else 0)=tt m A S j k*sm m λi=>if S i=k then tt m A S i e else 0:=by
   rw[<- bG];apply aY;intro i _;split
   .rfl
   .rw[Ċ]
  rw[this];grind
def tL{S:Nat->Nat}{e:Nat}(h:∀i,i<m->S i≠e):dr m A S e e=dd m A S:=by
 unfold dr;rw[ao7 rfl,kJ λi a=>ao6<|h i a];omega
def zS{S:Nat->Nat}{e i:Nat}(hd:dd m A S≠0)(b:i<m)(h:S i≠e):dr m A S e (S i)=- tt m A S i e:=by
 unfold dr;rw[ao6 h,iz (a:=i) b,ao7 rfl]
 .omega
 .intro j hj q;rw[ao6 λx=>q<|wy hd hj b x]
def qI{S:Nat->Nat}{e k:Nat}(h:∀i,i<m->S i≠k)(b:k≠e):dr m A S e k=0:=by
 unfold dr;rw[ao6 b,kJ λi a=>ao6<|h i a];rfl
def Ig(e:Nat->Nat):∀{L:Nat},0<L->∃t,t<L/\∀u,u<L->e u<=e t
 |1,_=>#[0,⋯,λu a=>by rw[show u=0 by omega];omega]
 |L + 2,_=>by
  let#[t,b,h]:=Ig e (L:=L+1) ⋯;by_cases q:e t<=e (L+1)
  .show#[L+1,⋯,λu a=>by
    by_cases x:u=L+1
    .subst x;omega
    .have:=h u ⋯;omega]
  .show#[t,⋯,λu a=>by
    by_cases x:u=L+1
    .subst x;omega
    .show h u ⋯]
def SH{c:Nat->Int}{sh:Nat->Prop}{S:Nat->Nat->Nat}{r e:Nat->Nat}{L:Nat}(hL:0<L)(G:∀t,t<=L->Gd m n A (S t))(E:∀t,t<L->Ent m n A c sh (S t) (e t))(V:∀t,t<L->Lv m n A (S t) (r t) (e t))(U:∀t,t<L->S (t+1)=up (S t) (r t) (e t))(B:S L=S 0):False:=by
 have nz:=λt d=>é (G t d).pos
 have dU:∀t,t<L->dd m A (S<|t+1)=tt m A (S t) (r t) (e t):=λt d=>by rw[U t d,dG]
 have zU:=λt (d:t<L)=>VW (G t ⋯).cr (nz t ⋯) (c:=c) (e:=e t) n (V t d).1
 have st:∀t,t<L->zz m A c (S t) n*dd m A (S<|t+1)<=zz m A c (S<|t+1) n*dd m A (S t)/\(0<tt m A (S t) (r t) n->zz m A c (S t) n*dd m A (S<|t+1)<zz m A c (S<|t+1) n*dd m A (S t)):=λt d=>by
  have z:=zU t d;rw[<- U t d,<- dU t d] at z;have a:=(E t d).2.1;have f:=(G t ⋯).fe _ (V t d).1;show#[?_,λp=>?_]
  .have:=ϒ (show 0<=- zz m A c (S t) (e t) by omega) f
   grind
  .have:=Ŧ (show 0 < - zz m A c (S t) (e t) by omega) p
   grind
 have mono:∀u t,t<=u->u<=L->zz m A c (S t) n*dd m A (S u)<=zz m A c (S u) n*dd m A (S t):=by
  intro u;induction u with
  |zero=>intro t h _;rw[show t=0 by omega];omega
  |succ u H=>
   intro t h v;by_cases q:t=u+1
   .subst q;omega
   .show tr (G t ⋯).pos (G u ⋯).pos (G (u+1) v).pos (H t ⋯ ⋯) (st u ⋯).1
 have C:∀t,t<L->tt m A (S t) (r t) n=0:=λt d=>by
  apply Ĳ;intro q;have f:=(G t ⋯).fe _ (V t d).1;have s:=(st t d).2 ⋯;have a:=mono t 0 ⋯ ⋯;have b:=mono L (t+1) ⋯ ⋯;rw[B] at b;have:=tr (G (t+1) ⋯).pos (G 0 ⋯).pos (G t ⋯).pos b a;omega
 have val:∀k t,t<=L->((sm m λi=>if S t i=k then tt m A (S t) i n else 0)=0↔(sm m λi=>if S 0 i=k then tt m A (S 0) i n else 0)=0):=by
  intro k t;induction t with
  |zero=>show λ_=>Iff.rfl
  |succ t H=>
   intro d;rw[<- H ⋯];have h:dd m A (S t)*(sm m λi=>if S (t+1) i=k then tt m A (S<|t+1) i n else 0)=dd m A (S<|t+1)*(sm m λi=>if S t i=k then tt m A (S t) i n else 0):=by
    rw[<- bG,<- bG];apply aY;intro i g;by_cases q:i=r t
    .rw[U t ⋯,q,bX,C t ⋯,ite_self,ite_self,Ċ,Ċ]
    .have:=ew (G t ⋯).cr (c:=e t) n g (V t ⋯).1 q;rw[C t ⋯,<- U t ⋯,<- dU t ⋯] at this;rw[show S (t+1) i=S t i by rw[U t ⋯];simp[up,q]];split<;>grind
   constructor
   .intro x;rw[x,Ċ] at h;show (ZO.mp h.symm).resolve_left<|nz _ d
   .intro x;rw[x,Ċ] at h;show (ZO.mp h).resolve_left<|nz _ ⋯
 have D:∀t,t<L->∀i,i<m->S t i≠e t:=λt d i g q=>by
  have:=(E t d).2.1;rw[<- q,eJ g] at this;omega
 have Q:∀t k,t<L->(∃i,i<m/\S (t+1) i=k)->k=e t\/∃i,i<m/\S t i=k:=λt k d ⟨i,g,q⟩=>by
  rw[U t d] at q;unfold up at q;split at q
  .show .inl q.symm
  .show .inr #[i,g,q]
 have out:∀t k,t<L->(∃i,i<m/\S t i=k)->k=S t (r t)\/∃i,i<m/\S (t+1) i=k:=λt k d ⟨i,g,q⟩=>by
  by_cases x:i=r t
  .subst x;show .inl q.symm
  .show .inr #[i,g,?_];rw[U t d];simp[up,x,q]
 have back:∀k,(∀t,t<L->e t≠k)->∀s t,t<=s->s<=L->(∃i,i<m/\S s i=k)->∃i,i<m/\S t i=k:=by
  intro k J s;induction s with
  |zero=>intro t h _ b;rw[show t=0 by omega];show b
  |succ s H=>
   intro t h l b;by_cases q:t=s+1
   .rw[q];show b
   .rcases Q s k ⋯ b with x |x
    .show ao8 x.symm (J s ⋯)
    .show H t ⋯ ⋯ x
 have O:∀k,(∀t,t<L->S t (r t)≠k)->∀s t,t<=s->s<=L->(∃i,i<m/\S t i=k)->∃i,i<m/\S s i=k:=by
  intro k J s;induction s with
  |zero=>intro t h _ b;rw[show t=0 by omega] at b;show b
  |succ s H=>
   intro t h l b;by_cases q:t=s+1
   .rw[<- q];show b
   .rcases out s k ⋯ (H t ⋯ ⋯ b) with x |x
    .show ao8 x.symm (J s ⋯)
    .show x
 let#[t,d,big]:=Ig e hL;have lv:∃s,s<L/\S s (r s)=e t:=by
  apply Ĳ;intro q;have f:=O (e t) λs l x=>q #[s,l,x]
  have b1:∃i,i<m/\S (t+1) i=e t:=#[r t,(V t d).1,by rw[U t d];simp[up]]
  have Y:=f L (t+1) ⋯ ⋯ b1;rw[B] at Y;let#[i,g,x]:=f t 0 ⋯ ⋯ Y;show D t d i g x
 let#[s,l,hl]:=lv;have M:=G s ⋯;have o:=D s l;have K:=zR (e:=e s) M.cr (nz s ⋯) (λi g=>ħ<|M.lt i g)<|ħ (E s l).1;have k1:=wz (S:=S s) (c:=c) K;have k2:=wz (S:=S t) (c:=c) K;rw[iz (a:=e s)<|ħ (E s l).1,tL o,Ϣ] at k1
 .have k3:=Ľ (nz s ⋯) k1;have neg:=(E s l).2.1;rw[k3] at neg;have p:0<=sm (n+1) λk=>zz m A c (S t) k*dr m A (S s) (e s) k:=by
   apply cP;intro k J;have es:e s<e t:=by
    have:=big s l;have:=o (r s) (V s l).1;omega
   by_cases q:k=e s
   .subst q;rw[tL o];show ϒ ((E t d).2.2.2 _ es (E s l).2.2.1)<|ľ M.pos
   .by_cases b:∃i,i<m/\S s i=k
    .obtain⟨i,g,x⟩:=b;subst x;rw[zS (nz s ⋯) g q];by_cases N:∃u,u<L/\e u=S s i
     .obtain⟨u,v,x⟩:=N;by_cases y:S s i=e t
      .have:i=r s:=wy (nz s ⋯) g (V s l).1<|y.trans hl.symm;rw[y,this];have a:=(E t d).2.1;have b:=(V s l).2.1;have:=Ŧ (show 0 < - zz m A c (S t) (e t) by omega) b
       grind
      .have lt:S s i<e t:=by have:=big u v;omega
       have z:=(E t d).2.2.2 _ lt<|x ▸ (E u v).2.2.1;by_cases p:0<tt m A (S s) i (e s)
       .have v0:tt m A (S s) i n=0:=by
         have w:(sm m λj=>if S u j=S s i then tt m A (S u) j n else 0)=0:=kJ λj I=>ao6 λy=>D u v j I<|y.trans x.symm
         have w2:=(val (S s i) s ⋯).mpr<|(val (S s i) u ⋯).mp w;rw[iz (a:=i) g,ao7 rfl] at w2
         .show w2
         .intro j I y;rw[ao6 λz=>y<|wy (nz s ⋯) I g z]
        have:=(V s l).2.2 i g p;rw[C s l,v0,hl] at this;omega
       .show ϒ z ⋯
     .have b0:=back (S s i) (λu v x=>N #[u,v,x]) s 0 ⋯ ⋯ #[i,g,rfl];rw[<- B] at b0;let#[j,I,x]:=back (S s i) (λu v x=>N #[u,v,x]) L t ⋯ ⋯ b0;rw[<- x,eJ I,ž];omega
    .rw[qI (λi g x=>b #[i,g,x]) q,Ċ];omega
  rw[k2] at p;have:=Ŧ (G t ⋯).pos (show 0 < - sm (n+1) λk=>c k*dr m A (S s) (e s) k by omega)
  grind
 .intro k _ q;by_cases b:∃i,i<m/\S s i=k
  .obtain⟨i,g,x⟩:=b;rw[<- x,eJ g,ž]
  .rw[qI (λi g x=>b #[i,g,x]) q,Ċ]
variable{m n:Nat}{A:aM}
def AX:∀(K:Nat){L:Nat}{f:Nat->Nat},(∀t,t<L->f t<K)->(∀s t,s<t->t<L->f s≠f t)->L<=K
 |0,L,f,h,_=>by
  by_cases q:L=0
  .omega
  .have:=h 0 ⋯;omega
 |K + 1,L,f,h,d=>by
  by_cases q:∃t,t<L/\f t=K
  .obtain⟨t,g,e⟩:=q;have:=AX K (L:=L - 1) (f:=λs=>f<|skip t s) (λs i=>by
    have a:skip t s<L/\skip t s≠t:=by unfold skip;split<;>omega
    have b:=h _ a.1;have c:f (skip t s)≠f t:=by
     by_cases x:skip t s<t
     .show d _ _ x g
     .show (d _ _ ⋯ a.1).symm
    change f (skip t s)<K;omega) λs u l j=>d _ _ (by unfold skip;split<;>split<;>omega) (by unfold skip;split<;>omega)
   omega
  .have:=AX K (L:=L) (f:=f) (λt g=>by
    have a:=h t g;have b:f t≠K:=λe=>q #[t,g,e]
    omega) d
   omega
abbrev code(n:Nat):Nat->(Nat->Nat)->Nat
 |0,_=>0
 |m + 1,S=>code n m S * n + S m
def Hs{S:Nat->Nat}:∀{m:Nat},(∀i,i<m->S i<n)->code n m S<n ^ m
 |0,_=>by simp[code]
 |m + 1,h=>by
  have a:=Hs (m:=m) λi d=>h i ⋯
  have b:=h m ⋯;have c:=ţ n<|Nat.succ_le_of_lt a;rw[code,Nat.pow_succ];rw[ϥ] at c;omega
def FI{S R:Nat->Nat}:∀{m:Nat},(∀i,i<m->S i<n)->(∀i,i<m->R i<n)->code n m S=code n m R->∀i,i<m->S i=R i
 |m + 1,h,g,e,i,d=>by
  rw[code,code] at e;have a:=h m ⋯;have b:=g m ⋯;have f:S m=R m:=by
   have:=ap2 (· % n) e;simp only[ac1 _<|S m,ac1 _<|R m,Nat.add_mul_mod_self_right,Nat.mod_eq_of_lt a,Nat.mod_eq_of_lt b] at this;show this
  by_cases q:i=m
  .subst q;show f
  .show FI (m:=m) (λi d=>h i ⋯) (λi d=>g i ⋯) ?_ i ⋯;show Nat.eq_of_mul_eq_mul_right ⋯ (show code n m S*n=code n m R*n by omega)
abbrev Bx(m n:Nat)(A:aM)(c:Nat->Int)(sh:Nat->Prop)(S a:Nat->Nat):Prop:=∃r e,Ent m n A c sh S e/\Lv m n A S r e/\a=up S r e
abbrev Ch(m n:Nat)(A:aM)(c:Nat->Int)(sh:Nat->Prop):Nat->(Nat->Nat)->Prop
 |0,_=>True
 |L + 1,S=>∃a,Bx m n A c sh S a /\ Ch m n A c sh L a
abbrev kx(m n:Nat)(A:aM)(c:Nat->Int)(sh:Nat->Prop)(S:Nat->Nat)(N:Nat):Prop:=∀L,Ch m n A c sh L S->L<=N
def kx.step{c:Nat->Int}{sh:Nat->Prop}{S a:Nat->Nat}{N:Nat}(B:kx m n A c sh S N)(s:Bx m n A c sh S a):0<N/\kx m n A c sh a (N - 1):=
 #[B 1 #[a,s,trivial],λL h=>by have:=B (L+1) #[a,s,h];omega]
def Ch.seq{c:Nat->Int}{sh:Nat->Prop}:∀{L:Nat}{S:Nat->Nat},Gd m n A S->Ch m n A c sh L S->∃(T:Nat->Nat->Nat)(r e:Nat->Nat),T 0=S/\(∀t,t<=L->Gd m n A (T t))/\(∀t,t<L->Ent m n A c sh (T t) (e t)/\Lv m n A (T t) (r t) (e t)/\T (t+1)=up (T t) (r t) (e t))
 |0,S,G,_=>#[λ_=>S,λ_=>0,λ_=>0,rfl,λ_ _=>G,λt h=>ao8 h ⋯]
 |L + 1,S,G,⟨S',⟨r,e,h1,h2,h3⟩,h⟩=>by
  let#[T,d,a,f,g,s]:=Ch.seq (h3 ▸ G.turn h2 h1.1:Gd m n A S') h;show#[λt=>match t with |0=>S |t+1=>T t,λt=>match t with |0=>r |t+1=>d t,λt=>match t with |0=>e |t+1=>a t,rfl,λt b=>?_,λt b=>?_]
  .cases t with
   |zero=>show G
   |succ t=>show g t ⋯
  .cases t with
   |zero=>show#[h1,h2,f.trans h3]
   |succ t=>show s t ⋯
def L0{c:Nat->Int}{sh:Nat->Prop}{S:Nat->Nat}(G:Gd m n A S):kx m n A c sh S (n ^ m):=by
 intro L h;let#[T,r,e,w,g,s]:=h.seq G;have out:∀t,t<=L->∀i,m<=i->T t i=S i:=by
  intro t;induction t with
  |zero=>intro _ i _;rw[w]
  |succ t p=>
   intro d i o;let#[_,v,u]:=s t ⋯;have:=v.1;rw[u,<- p ⋯ i o];unfold up;rw[ao6 ⋯]
 have:=AX (n ^ m) (L:=L+1) (f:=λt=>code n m<|T t) (λt d=>Hs (g t ⋯).lt) λa b y B q=>by
  have j:=FI (g a ⋯).lt (g b ⋯).lt q;have l:T (a+(b - a))=T (a+0):=by
   rw[show a+(b - a)=b by omega];funext i;by_cases x:i<m
   .show (j i x).symm
   .rw[out b ⋯ i ⋯];show (out a ⋯ i ⋯).symm
  show SH (L:=b - a) (S:=λt=>T<|a+t) (r:=λt=>r<|a+t) (e:=λt=>e<|a+t) ⋯ (λt d=>g _ ⋯) (λt d=>(s _ ⋯).1) (λt d=>(s _ ⋯).2.1) (λt d=>(s (a+t) ⋯).2.2) l
 omega
variable{m n:Nat}{A:aM}{S:Nat->Nat}{c:Nat->Int}{sh:Nat->Prop}
structure eT(m n:Nat)(A:aM)(sh:Nat->Prop)(q:Int)(y:Nat->Int):Prop where
 pE:oj m (n+1) A y
 nn:∀k,k<n->0<=y k
 sz:∀k,k<n->sh k->y k=0
 rhs:y n=-q
def EM{f:Nat->Int}:∀{n:Nat},(∀k,k<n->0<=f k)->sm n f=0->∀k,k<n->f k=0
 |n + 1,h,e,k,d=>by
  rw[sm] at e;have a:=cP (n:=n) (f:=f) λk d=>h k ⋯
  have b:=h n ⋯;by_cases q:k=n
  .subst q;omega
  .show EM (n:=n) (λk d=>h k ⋯) ⋯ k ⋯
def eT.cost{q:Int}{y:Nat->Int}(F:eT m n A sh q y)(a:c n=0):dd m A S*sm n (λk=>c k*y k)=sm n (λk=>zz m A c S k*y k) - q*zz m A c S n:=by
 have h:=wz (S:=S) (c:=c) F.pE;rw[sm,sm,F.rhs,a] at h;grind
def opt{q:Int}{y:Nat->Int}(b:c n=0)(hz:∀k,k<n->¬ sh k->0<=zz m A c S k)(F:eT m n A sh q y):
  -(q*zz m A c S n)<=dd m A S*sm n (λk=>c k*y k)/\(dd m A S*sm n (λk=>c k*y k)=-(q*zz m A c S n)↔eT m n A (λk=>sh k\/0<zz m A c S k) q y):=by
 have t:∀k,k<n->0<=zz m A c S k*y k:=λk a=>by
  by_cases s:sh k
  .rw[F.sz k a s,Ċ];omega
  .show ϒ (hz k a s) (F.nn k a)
 have e:=F.cost (S:=S) b;have p:=cP t;show#[⋯,λh=>?_,λG=>?_]
 .have z:=EM t ⋯;show#[F.pE,F.nn,λk a s=>?_,F.rhs];rcases s with s |s
  .show F.sz k a s
  .show (ZO.mp (z k a)).resolve_left (é s)
 .rw[e,kJ λk a=>?_]
  .omega
  .by_cases s:sh k\/0<zz m A c S k
   .rw[G.sz k a s,Ċ]
   .have:=hz k a λx=>s<|.inl x
    have d:¬ 0<zz m A c S k:=λx=>s<|.inr x
    rw[show zz m A c S k=0 by omega,ž]
abbrev mD(m n:Nat)(A:aM)(S:Nat->Nat)(k:Nat):Int:=(-1)*dr m A S n k
def gD(G:Gd m n A S){i:Nat}(a:i<m):mD m n A S (S i)=tt m A S i n:=by
 unfold mD;rw[zS `bp a<|ì<|G.lt i a];omega
def dF{k:Nat}(a:k≠n)(h:∀i,i<m->S i≠k):mD m n A S k=0:=by
 unfold mD;rw[qI h a];rfl
def kL(G:Gd m n A S)(hs:∀i,i<m->¬ sh (S i)):eT m n A sh (dd m A S) (mD m n A S):=by
 have K:=zR (e:=n) G.cr `bp (λi a=>ħ<|G.lt i a)<|ŧ n;show#[λi a=>?_,λk d=>?_,λk d s=>?_,?_]
 .rw[aY (g:=λk=>(-1)*(A i k*dr m A S n k)) λk _=>by unfold mD;grind,bG,K i a];rfl
 .by_cases b:∃i,i<m/\S i=k
  .obtain⟨i,a,x⟩:=b;rw[<- x,gD G a];show G.fe i a
  .rw[dF ⋯ λi a x=>b #[i,a,x]];omega
 .show dF ⋯ λi a x=>hs i a<|x ▸ s
 .unfold mD;rw[tL λi a=>ì<|G.lt i a];omega
def So(G:Gd m n A S){e:Nat}(he:e<n)(hn:∀i,i<m->S i≠e)(ht:∀i,i<m->tt m A S i e<=0)(f:c n=0):
  (∀k,k<n->0<=dr m A S e k)/\oj m (n+1) A (dr m A S e)/\dr m A S e n=0/\sm n (λk=>c k*dr m A S e k)=zz m A c S e:=by
 have K:=zR (e:=e) G.cr `bp (λi d=>ħ<|G.lt i d)<|ħ he;have z:dr m A S e n=0:=qI (λi d=>ì<|G.lt i d)<|ϖ he;show#[λk g=>?_,K,z,?_]
 .by_cases q:k=e
  .subst q;rw[tL hn];show ľ G.pos
  .by_cases b:∃i,i<m/\S i=k
   .obtain⟨i,d,x⟩:=b;rw[<- x,zS `bp d<|hn i d];have:=ht i d;omega
   .rw[qI (λi d x=>b #[i,d,x]) q];omega
 .have h:=wz (S:=S) (c:=c) K;rw[iz (a:=e)<|ħ he,tL hn] at h
  .apply Ľ `bp;rw[sm,z] at h;grind
  .intro k _ q;by_cases b:∃i,i<m/\S i=k
   .obtain⟨i,d,x⟩:=b;rw[<- x,eJ d,ž]
   .rw[qI (λi d x=>b #[i,d,x]) q,Ċ]
abbrev gG:Nat->Nat
 |0=>1
 |m + 1=>(m + 1) * gG m
def zT{f:Nat->Int}{B:Nat}:∀{n:Nat},(∀k,k<n->(f k).natAbs<=B)->(sm n f).natAbs<=n*B
 |0,_=>by simp[sm]
 |n + 1,h=>by
  have a:=zT (n:=n) λk d=>h k ⋯
  have b:=h n ⋯;have c:=ac0 (sm n f)<|f n;rw[sm,ϥ];omega
variable{m n:Nat}{A:aM}{S:Nat->Nat}
abbrev Un(m:Nat)(A:aM)(S:Nat->Nat):Prop:=∀i j,i<m->j<m->A i (S j)=if i=j then 1 else 0
def Un.dd(h:Un m A S):dd m A S=1:=by
 rw[<- zD m];show oJ λj i b a=>h i j a b
def Un.tt(h:Un m A S){i:Nat}(k:Nat)(f:i<m):tt m A S i k=A i k:=by
 rw[gN k f,iz (a:=i) f]
 .rw[oJ (w:=λj x=>if x=j then 1 else 0),zD,al4];intro j x d g;by_cases e:j=i
  .subst e;rw[kh]
  .rw[ji e];show h x j g d
 .intro j d e;rw[s9 (a:=i) (b:=j) (Ć e) f d,Ċ];intro x g;rw[kh,ji e];show (h x j g d).symm
def Un.gd(h:Un m A S)(lt:∀i,i<m->S i<n)(fe:∀i,i<m->0<=A i n):Gd m n A S:=by
 show#[λi k b=>?_,by rw[h.dd];decide,lt,λi b=>by rw[h.tt n b];show fe i b];rw[h.dd,iz (a:=i) b]
 .rw[h.tt k b,h i i b b,ao7 rfl];grind
 .intro j hj e;rw[h i j b hj,ao6<|Ć e,Ċ]
variable{m n:Nat}{A:aM}{S:Nat->Nat}
abbrev sN:Nat->(Nat->Nat)->Nat
 |0,_=>0
 |m + 1,b=>sN m b + b m
def y7{b c:Nat->Nat}:∀{m:Nat},(∀j,j<m->b j=c j)->sN m b=sN m c
 |0,_=>rfl
 |m + 1,h=>by rw[sN,sN,y7 λj a=>h j ⋯,h m ⋯]
def Ht(b:Nat->Nat):∀(m:Nat){k:Nat},k<=m->sN (m+1) b=b k+sN m λj=>b<|skip k j
 |0,k,h=>by rw[show k=0 by omega];simp[sN]
 |m + 1,k,h=>by
  by_cases e:k=m+1
  .rw[sN,y7 (c:=λj=>b<|skip k j) λj a=>by unfold skip;rw[ao7 ⋯]];rw[e];omega
  .rw[sN,Ht b m (show k<=m by omega),sN,show skip k m=m+1 by unfold skip;rw[ao6 ⋯]];omega
def Ih:∀{m:Nat}{v:aM}{b:Nat->Nat},(∀j i,j<m->i<m->(v j i).natAbs<=2 ^ b j)->(dt m v).natAbs<=gG m*2 ^ sN m b
 |0,v,b,_=>by simp[dt,gG,sN]
 |m + 1,v,b,h=>by
  rw[dt,gG,Nat.mul_assoc];apply zT;intro k d;have a:=Ih (m:=m) (v:=λj=>v<|skip k j) (b:=λj=>b<|skip k j) λj i f e=>h _ _ (by unfold skip;split<;>omega) ⋯
  have c:=h k m d ⋯;have s:(sg<|m+k).natAbs=1:=by unfold sg;split<;>rfl
  rw[ϓ,ϓ,s,Nat.one_mul,Ht b m (k:=k) ⋯,ab6,Nat.mul_left_comm];show Ι c a
def Ii(b c:Nat->Nat):∀m:Nat,sN m (λj=>b j+c j)=sN m b+sN m c
 |0=>rfl
 |m + 1=>by rw[sN,sN,sN,Ii b c m];omega
def Hu{b:Nat->Nat}:∀{m:Nat},(∀j,j<m->b j=0)->sN m b=0
 |0,_=>rfl
 |m + 1,h=>by rw[sN,Hu λj a=>h j ⋯,h m ⋯]
def zV{e c:Nat}:∀{m:Nat},(∀i j,i<m->j<m->S i=S j->i=j)->sN m (λj=>if S j=c then e else 0)<=e
 |0,_=>Ĝ _
 |m + 1,h=>by
  rw[sN];by_cases q:S m=c
  .rw[ao7 q,Hu λj a=>ao6 λz=>by have:=h j m ⋯ ⋯ (by rw[z,q]);omega];omega
  .rw[ao6 q];show zV λi j b a=>h i j ⋯ ⋯
def Hv{e x:Nat}(inj:∀i j,i<m->j<m->S i=S j->i=j):∀u:Nat,u<=n->sN m (λj=>if S j<u then e else if S j=n then x else 0)<=u*e+x
 |0,_=>by have:=zV (e:=x) (c:=n) inj;simpa using this
 |u + 1,h=>by
  have a:=Hv (e:=e) (x:=x) inj u ⋯;have b:=zV (c:=u) (e:=e) inj;rw[y7 (c:=λj=>(if S j<u then e else if S j=n then x else 0)+if S j=u then e else 0) λj _=>by
   by_cases d:S j<u
   .rw[ao7 d,ao7 ⋯,ao6 ⋯];rfl
   .by_cases h2:S j=u
    .rw[ao6 d,ao7 ⋯,ao7 h2,ao6 ⋯,ac3]
    .rw[ao6 d,ao6 (show ¬ S j<u+1 by omega),ao6 h2,aj5],Ii,ϥ]
  omega
def i1{u e x:Nat}(d:u<=n)(h:∀i j,i<m->j<m->(A i<|S j).natAbs<=2 ^ if S j<u then e else if S j=n then x else 0):(dd m A S).natAbs<=gG m*2 ^ (u*e+x):=by
 by_cases z:dd m A S=0
 .rw[z];show Ĝ _
 .show Ñ (Ih λj i b a=>h i j a b) (aa5 _<|Ħ ∎ ?_);show Hv (λi j a b=>wy z a b) u d
def lq{u e x:Nat}(g:u<=n)(h:∀i k,i<m->k<=n->(A i k).natAbs<=2 ^ if k<u then e else if k=n then x else 0)(lt:∀i,i<m->S i<n){i k:Nat}(f:k<=n):(tt m A S i k).natAbs<=gG m*2 ^ (u*e+x):=by
 rw[<- dG];show i1 g λa j b d=>h a _ b ?_
 unfold up;split
 .show f
 .show ń (lt j d)
def pU{u e x C:Nat}{c:Nat->Int}(l:u<=n)(h:∀i k,i<m->k<=n->(A i k).natAbs<=2 ^ if k<u then e else if k=n then x else 0)(lt:∀i,i<m->S i<n)(f:∀k,(c k).natAbs<=C){k:Nat}(p:k<=n):(zz m A c S k).natAbs<=(m+1)*(C*(gG m*2 ^ (u*e+x))):=by
 unfold zz;have a:=i1 (S:=S) l λi j g o=>h i _ g<|ń<|lt j o
 have b:(sm m λi=>c (S i)*tt m A S i k).natAbs<=m*(C*(gG m*2 ^ (u*e+x))):=zT λi g=>by
  rw[ϓ];show Ι (f _)<|lq l h lt p
 have d:(dd m A S*c k).natAbs<=C*(gG m*2 ^ (u*e+x)):=by rw[ϓ,Nat.mul_comm];show Ι (f k) a
 have:=Int.natAbs_sub_le (dd m A S*c k)<|sm m λi=>c (S i)*tt m A S i k;rw[ϥ];omega
end Lp
namespace Sf
open PySem L2 Vc Pu
local macro_rules|`(tactic| walk_at "k") => `(tactic| decide +kernel)
abbrev inClass(s:Ā)(j:Nat):Ā:=match s with
 |.ClassDef _ _ _ a _ _ _ _ _ _ _=>a.getD j<|.Pass #[0,0,0,0]
 |_=>.Pass #[0,0,0,0]
abbrev top(i:Nat):Ā:=PySem.Challenge.pw_springframe_k44_whole_musts_that_are_kep.main.body.getD i<|.Pass #[0,0,0,0]
nonrec abbrev CN:Ā:=top 8
nonrec abbrev BC:Ā:=top 9
nonrec abbrev CO:Ā:=top 10
nonrec abbrev CW:Ā:=top 11
nonrec abbrev CY:Ā:=top 12
nonrec abbrev CP:Ā:=top 13
nonrec abbrev CZ:Ā:=top 14
nonrec abbrev BU:Ā:=top 20
nonrec abbrev B8:Ā:=top 22
nonrec abbrev B9:Ā:=top 23
nonrec abbrev Ca:Ā:=top 26
nonrec abbrev BK:Ā:=top 28
nonrec abbrev BL:Ā:=top 29
nonrec abbrev Cp:Ā:=top 30
nonrec abbrev BI:Ā:=top 33
nonrec abbrev BV:Ā:=top 34
nonrec abbrev Cd:Ā:=top 35
nonrec abbrev CQ:Ā:=top 36
nonrec abbrev C0:Ā:=top 38
nonrec abbrev C1:Ā:=top 39
nonrec abbrev Cw:Ā:=top 40
nonrec abbrev BW:Ā:=top 41
nonrec abbrev Cy:Ā:=top 42
nonrec abbrev Cq:Ā:=top 43
nonrec abbrev BM:Ā:=top 45
nonrec abbrev Cz:Ā:=top 46
nonrec abbrev BN:Ā:=top 47
nonrec abbrev BX:Ā:=top 48
nonrec abbrev BH:Ā:=top 49
nonrec abbrev CA:Ā:=top 50
nonrec abbrev BJ:Ā:=top 51
nonrec abbrev C6:Ā:=top 52
nonrec abbrev B4:Ā:=inClass `bs 0
nonrec abbrev BD:Ā:=inClass `bs 1
nonrec abbrev Ce:Ā:=inClass `bs 2
nonrec abbrev Cf:Ā:=inClass `bs 3
nonrec abbrev BE:Ā:=inClass `bs 4
nonrec abbrev BA:Ā:=inClass `bs 5
nonrec abbrev BY:Ā:=inClass `bs 6
nonrec abbrev BB:Ā:=inClass `bs 7
nonrec abbrev BZ:Ā:=inClass `bs 8
nonrec abbrev B5:Ā:=inClass `aS 0
nonrec abbrev Cg:Ā:=inClass `aS 1
nonrec abbrev BO:Ā:=inClass `aS 2
nonrec abbrev BP:Ā:=inClass `aS 3
nonrec abbrev act:Ā:=inClass `aS 4
nonrec abbrev B0:Ā:=inClass `aS 5
nonrec abbrev B3:Ā:=inClass `aS 6
nonrec abbrev Cj:Ā:=inClass `aS 7
nonrec abbrev BQ:Ā:=inClass `aS 9
nonrec abbrev Ci:Ā:=inClass `aS 10
nonrec abbrev BR:Ā:=inClass `aS 11
nonrec abbrev B6:Ā:=inClass `aS 12
nonrec abbrev Ck:Ā:=inClass `aS 13
nonrec abbrev BS:Ā:=inClass `aS 14
nonrec abbrev B7:Ā:=inClass (top 5) 0
def VX:bS ["top","bottom","divisor"] ["top","bottom"] (bD CN):=1e2
def Me:bS ["one","other","remainder"] ["one","other"] (bD BC):=1e2
def VY:bS ["one","other"] ["one","other"] (bD CO):=1e2
def SI:bS ["one","other"] ["one","other"] (bD CW):=1e2
def SJ:bS ["one","other"] ["one","other"] (bD CY):=1e2
def VZ:bS ["one","other"] ["one","other"] (bD CP):=1e2
def SK:bS ["one","other"] ["one","other"] (bD CZ):=1e2
def Nb:bS ["rows","unknowns"] ["rows","unknowns"] (bD BU):=1e2
def MF:bS ["fractions","bottom","fraction"] ["fractions"] (bD B8):=1e2
def MG:bS ["fractions","bottom"] ["fractions","bottom"] (bD B9):=1e2
def MH:bS ["rows","unknowns","sheet"] ["rows","unknowns"] (bD Ca):=1e2
def MR:bS ["rows","unknowns","numbers","sheet","missed","shown","number","price"] ["rows","unknowns","numbers"] (bD BK):=1e2
def MS:bS ["rows","unknowns","numbers","clash","number","fewer"] ["rows","unknowns","numbers"] (bD BL):=1e2
def Q9:bS ["rows","unknowns","numbers","sheet","clash"] ["rows","unknowns","numbers"] (bD Cp):=1e2
def NT:bS ["unknowns"] ["unknowns"] (bD BI):=1e2
def Nc:bS ["sheet","unknowns","ranks"] ["sheet","unknowns"] (bD BV):=1e2
def Ml:bS ["rows","unknowns","sheet","costs"] ["rows","unknowns"] (bD Cd):=1e2
def V0:bS ["rows","unknowns","sheet","settled","papers","place","goal","prices_and_shares"] ["rows","unknowns"] (bD CQ):=1e2
def SM:bS ["rows","unknowns","settled","goal","paper","total"] ["rows","unknowns","settled","goal","paper"] (bD C0):=1e2
def SN:bS ["rows","unknowns","settled","goal","paper","prices","shares","one","price","room","unknown"] ["rows","unknowns","settled","goal","paper"] (bD C1):=1e2
def OU:bS ["settled","shares","goal","thing","count","pair","share"] ["settled","shares","goal","thing"] (bD Cw):=1e2
def Nd:bS ["rows","prices","one","price"] ["rows","prices"] (bD BW):=1e2
def OV:bS ["weights","numbers","total","weight","number"] ["weights","numbers"] (bD Cy):=1e2
def Ra:bS ["rows","prices","unknown"] ["rows","prices","unknown"] (bD Cq):=1e2
def MT:bS ["_law_script","_law_k"] ["_law_script","_law_k"] (bD BM):=1e2
def OW:bS ["_law_cell","_law_k","_law_base","_law_left","_law_step","_law_number"] ["_law_cell","_law_k"] (bD Cz):=1e2
def MU:bS ["_law_one","_law_other"] ["_law_one","_law_other"] (bD BN):=1e2
def Nf:bS ["_law_top","_law_bottom","_law_both"] ["_law_top","_law_bottom"] (bD BX):=1e2
def Nw:bS ["_law_cell","_law_some","_law_bottoms","_law_parts_here","_law_k","_law_name","_law_number"] ["_law_cell","_law_some","_law_bottoms"] (bD BH):=1e2
def OX:bS ["_law_cell","_law_some","_law_bottoms","_law_kind","_law_rank","_law_weight","_law_number"] ["_law_cell","_law_some","_law_bottoms"] (bD CA):=1e2
def NU:bS ["_law_cell","_law_some","_law_placing","_law_parts_here","_law_top","_law_bottom","_law_name","_law_number","_law_kind","_law_spare"] ["_law_cell","_law_some","_law_placing"] (bD BJ):=1e2
def CS:bS ["_law_script","_law_first","_law_some","_law_rows","_law_found","_law_placing","_law_more_here","_law_told","_law_k","_law_goal","_law_value"] ["_law_script"] (bD C6):=1e2
def Mb:bS ["self","lines","solved"] ["self","lines","solved"] (bD B4):=1e2
def Mf:bS ["self","costs","left","line","column","cost"] ["self","costs"] (bD BD):=1e2
def Mm:bS ["self","costs","column","line"] ["self","costs"] (bD Ce):=1e2
def Mn:bS ["self","costs","left","column"] ["self","costs"] (bD Cf):=1e2
def Mg:bS ["self","column","best","number","line"] ["self","column"] (bD BE):=1e2
def L3:bS ["self","number","best","column","line","other","one_way","other_way"] ["self","number","best","column"] (bD BA):=1e2
def Ng:bS ["self","number","column","turned","middle","lines","line","entry"] ["self","number","column"] (bD BY):=1e2
def L4:bS ["self","costs","mark","left","column"] ["self","costs","mark"] (bD BB):=1e2
def Nh:bS ["self","column"] ["self","column"] (bD BZ):=1e2
def My:bS ["self","rows","unknowns","lines","solved","number","one","line","upright"] ["self","rows","unknowns"] (bD B5):=1e2
def Mo:bS ["self"] ["self"] (bD Cg):=1e2
def MV:bS ["self","number"] ["self","number"] (bD BO):=1e2
def MW:bS ["self","number"] ["self","number"] (bD BP):=1e2
def Mp:bS ["self","number","one","fractions","scale","entries","line"] ["self","number","one"] (bD act):=1e2
def Mh:bS ["self","rank","costs","number","one","cost"] ["self","rank"] (bD B0):=1e2
def Mj:bS ["self","parts","costs"] ["self","parts"] (bD B3):=1e2
def MJ:bS ["self","costs","scale","numbers","column","fall","left"] ["self","costs"] (bD Cj):=1e2
def MX:bS ["self","place"] ["self","place"] (bD BQ):=1e2
def Mq:bS ["self","told","place","unknown"] ["self"] (bD Ci):=1e2
def MY:bS ["self","place","left","shares","ahead","share"] ["self","place"] (bD BR):=1e2
def Mz:bS ["self","left","ahead","share","column","mark","needed"] ["self","left","ahead"] (bD B6):=1e2
def MK:bS ["self","left"] ["self","left"] (bD Ck):=1e2
def MZ:bS ["self","number","left","below","above","kind","scale"] ["self","number","left"] (bD BS):=1e2
def MA:bS ["self","numbers","weights"] ["self","numbers","weights"] (bD B7):=1e2
set_option genInjectivity false in
set_option genSizeOf false in
structure Tx(w:ă)(K:aq)(mg:bw) where
 {aaa:ai}
 K7:mg "Table"=À (.ref aaa)
 jH:g6 K aaa
 xg:bo K aaa "lines"
 xh:bo K aaa "solved"
 xi:bo K aaa "bottom"
 xj:bo K aaa "shut"
 {aah:ai}
 K8:mg "Sheet"=À (.ref aah)
 fM:g6 K aah
 rH:bo K aah "rows"
 qg:bo K aah "unknowns"
 xk:bo K aah "scales"
 xl:bo K aah "settled"
 uR:bo K aah "table"
 kD:du K mg "part" CN ["top","bottom"]
 rJ:du K mg "greatest_divisor" BC ["one","other"]
 qh:du K mg "plus" CO ["one","other"]
 mY:du K mg "minus" CW ["one","other"]
 l5:du K mg "times" CY ["one","other"]
 rK:du K mg "over" CP ["one","other"]
 lD:du K mg "under" CZ ["one","other"]
 uS:du K mg "check_many" BU ["rows","unknowns"]
 rL:du K mg "common_bottom" B8 ["fractions"]
 rM:du K mg "whole_numbers" B9 ["fractions","bottom"]
 rN:du K mg "settled_musts" Ca ["rows","unknowns"]
 rB:du K mg "shown_clash" BK ["rows","unknowns","numbers"]
 uB:du K mg "least_clash" BL ["rows","unknowns","numbers"]
 uC:du K mg "fitted" Cp ["rows","unknowns","numbers"]
 uD:du K mg "goals_of" BI ["unknowns"]
 uE:du K mg "goal_costs" BV ["sheet","unknowns"]
 uF:du K mg "settled_sheet" Cd ["rows","unknowns"]
 rC:du K mg "laid" CQ ["rows","unknowns"]
 uG:du K mg "bound" C0 ["rows","unknowns","settled","goal","paper"]
 uH:du K mg "holds" C1 ["rows","unknowns","settled","goal","paper"]
 rD:du K mg "counted" Cw ["settled","shares","goal","thing"]
 uI:du K mg "signs_good" BW ["rows","prices"]
 qe:du K mg "weighed" Cy ["weights","numbers"]
 uJ:du K mg "column" Cq ["rows","prices","unknown"]
 uK:du K mg "_law_cell_at" BM ["_law_script","_law_k"]
 iO:du K mg "_law_mix" Cz ["_law_cell","_law_k"]
 uL:du K mg "_law_divisor" BN ["_law_one","_law_other"]
 qf:du K mg "_law_lowest" BX ["_law_top","_law_bottom"]
 rE:du K mg "_law_parts" BH ["_law_cell","_law_some","_law_bottoms"]
 uM:du K mg "_law_row" CA ["_law_cell","_law_some","_law_bottoms"]
 uN:du K mg "_law_more" BJ ["_law_cell","_law_some","_law_placing"]
 mX:du K mg "law" C6 ["_law_script"]
 uO:uf K aaa "Table.__init__" B4 ["self","lines","solved"]
 rF:e9 K aaa "costs_left" "Table.costs_left" BD ["self","costs"]
 uP:e9 K aaa "go_down" "Table.go_down" Ce ["self","costs"]
 rG:e9 K aaa "falling" "Table.falling" Cf ["self","costs"]
 uQ:e9 K aaa "first_stop" "Table.first_stop" BE ["self","column"]
 uu:e9 K aaa "stops_ahead" "Table.stops_ahead" BA ["self","number","best","column"]
 uv:e9 K aaa "turn" "Table.turn" BY ["self","number","column"]
 uw:e9 K aaa "shut_rising" "Table.shut_rising" BB ["self","costs","mark"]
 ux:e9 K aaa "told" "Table.told" BZ ["self","column"]
 uy:uf K aah "Sheet.__init__" B5 ["self","rows","unknowns"]
 uz:e9 K aah "columns" "Sheet.columns" Cg ["self"]
 oo:e9 K aah "below" "Sheet.below" BO ["self","number"]
 oq:e9 K aah "above" "Sheet.above" BP ["self","number"]
 uA:e9 K aah "line_of" "Sheet.line_of" act ["self","number","one"]
 rA:e9 K aah "rank_costs" "Sheet.rank_costs" B0 ["self","rank"]
 uT:e9 K aah "sum_costs" "Sheet.sum_costs" B3 ["self","parts"]
 rO:e9 K aah "settle" "Sheet.settle" Cj ["self","costs"]
 qj:e9 K aah "value" "Sheet.value" BQ ["self","place"]
 uU:e9 K aah "placing" "Sheet.placing" Ci ["self"]
 uV:e9 K aah "paper" "Sheet.paper" BR ["self","place"]
 uW:e9 K aah "share_of" "Sheet.share_of" B6 ["self","left","ahead"]
 rP:e9 K aah "prices" "Sheet.prices" Ck ["self","left"]
 uX:e9 K aah "price" "Sheet.price" BS ["self","number","left"]
 {abi:ai}
 gw:mg "NOUGHT"=À (.ref abi)
 gx:By K abi (([0,1]:aF).map V.int)
 {abl:ai}
 Li:mg "ONE"=À (.ref abl)
 Lj:By K abl (([1,1]:aF).map V.int)
 {abo:Tok}
 uY:mg "MUST"=À (.int (0) abo)
 {abq:Tok}
 BG:mg "MOST_RANK"=À (.int (4) abq)
 {abt:Tok}
 Ll:mg "MOST_ROWS"=À (.int (16) abt)
 {abv:Tok}
 Lm:mg "MOST_UNKNOWNS"=À (.int (8) abv)
 {abx:ai}
 Ln:mg "FrameError"=À (.ref abx)
 {abz:ai}
 K9:mg "TooMany"=À (.ref abz)
 La:ZY K abz [.type "ValueError",.type "Exception",.type "BaseException",.type "object"] "ValueError.__new__"=Â
 {abC:ai}
 BF:mg "Clash"=À `cd
 {abE:ai}
 Zl:mg "NoPart"=À (.ref abE)
 mZ:w6 K abC abx "Clash.__init__" B7 ["self","numbers","weights"]
 Lb:ğ K `cd "numbers"=À È
 Lc:ğ K `cd "weights"=À È
 Ld:W.exmOne K `cd `cd=À Â
 xm:mg "abs"=È
 gv:mg "len"=È
 l6:mg "range"=È
 Zm:mg "isinstance"=È
 Zn:mg "tuple"=È
 gS:mg "list"=È
 Lf:mg "any"=È
 qi:mg "enumerate"=È
 l7:mg "zip"=È
 Lg:mg "reversed"=È
 Zo:mg "int"=È
 Lh:mg "dict"=È
section
variable{P:ð}{w:ă}{K:aq}{mg:bw}{base:aV}(T:Tx w K mg)
@[inline] def JG:String:="X2 OP OO RD M8 RA UT RB RC UU Nv Rv Ro OK Nr Nt OL UR US Nu OM Np Nn XT Rp oG ON Rq cp fU jm e5 fV Yr Ys Yt QQ Ou QR QU Yu QV Ts QX Ov QY Tt QZ Ow Q0 Ox Q1 Nx Oy Yw Ny Oz Tu Nz MP Tv Q2 Q3 Tw Tz TB Q4 Q5 Q6 OA Qc NY NZ TC TF TH NA Qd N0 N1 EH Qe N2 N3 NB E4 Qf N4 N5 E5 N6 N7 E6 Qg N8 N9 E7 Qh Oa Ob Oc Od Oe Of Og Oh Oi Oj Qi Ol Om TJ Oo Oq OF OG Qj Yy OH TY TZ UI UJ UK UL UM Qu Qv oz Zp Qk TK TL Yx TM TN TQ TR TU TV UQ Rh Ri UO OJ XN QC Tj Ti Th To Tn QD UP Å UN Qw Qx Qy Qz ED NF gO OI wt Qm Qn gQ Qo Qp vZ T1 w_lt Yz T2 Uz IW UA UB UC UD Qq Qr lN UE UG Qs Qt UH LY LZ at2 UW UX List.getElem?_cons_succ List.getElem?_cons_zero List.set_cons_zero List.set_cons_succ c8 bf cA bZ bY ϡ if_true if_false true_and ϙ ϲ Ó Nat.reduceSub Ú ϔ Nat.reduceAdd Nat.reduceLeDiff decide_true decide_false Bool.not_true Bool.not_false Δ NC ND Ql TX Uh Ui pw ia kr iI i2 IV lM pq mG iD Tq QK QM QN HB FU FV vz Ot Tr.int.injEq"
local macro_rules |`(tactic|rfl')=>do
 let a:=((JG++" Yv").splitOn " ").toArray.map λx=>Lean.mkIdent x.toName
 `(tactic|simp only[$[$a:ident],*])
local macro_rules |`(tactic|walk_at "q")=>do
 let a:=(JG.splitOn " ").toArray.map λx=>Lean.mkIdent x.toName
 `(tactic|simp only[$[$a:ident],*])
abbrev dO:Fl->Fl |.o=>.l Â |.f=>.f |.l b=>.l b
abbrev eD:Fl->Fl |.o=>.o |.f=>.f |.l _=>.l É
instance:ae (bK):=#[λo=>match o with |none=>.aT |some n=>.int n,λo=>by cases o<;>rfl,λo z=>by cases o<;>cases z]
abbrev mT(m:aI):bz:=m.map λp=>(p.1,ae.t p.2)
structure hB where
 ls:List (aF)
 so:aF
 bt:Int
 m:aI
structure iw where
 rs:av
 us:ah
 sc:aF
 ss:a7
 tb:hB
abbrev gj(f:Fl)(S:hB):bx:=[("lines",ae.t S.ls),("solved",.ag f ↥S.so),("bottom",.int S.bt),("shut",.aP f<|mT S.m)]
abbrev cq(f:Fl)(S:hB):Tr:=.ins f T.aaa<|gj f S
abbrev ip(f:Fl)(S:iw):bx:=[("rows",ae.t S.rs),("unknowns",ae.t S.us),("scales",.ag f ↥S.sc),("settled",.ag f ↥S.ss),("table",cq T f S.tb)]
abbrev cw(f:Fl)(S:iw):Tr:=.ins f T.aah<|ip T f S
abbrev ll(f:Fl)(rs:av)(us:ah)(sc:aF):bx:=[("rows",ae.t rs),("unknowns",ae.t us),("scales",.ag f ↥sc),("settled",.ag f [])]
abbrev iK(f:Fl)(rs:av)(us:ah)(sc:aF):Tr:=.ins f T.aah<|ll f rs us sc
abbrev ue(C:ai)(g:Nat):Prop:=C=T.aaa/\g=0
abbrev w5(C:ai)(g:Nat):Prop:=C=T.aah/\g=0
def lP{x q:Str}{st:Ā}{e:ah}{m lo n:Nat}{z:Bool}{g:gm}(r:e9 K T.aaa x q st e)(G:aJ P w K mg base bI m r.a r.d e `by):∀C i,ue T C i->fQ P w K mg base bI m x C e `by:=λC i h=>by
 let#[rfl,rfl]:=h;show#[T.jH,_,_,r.t,G,r.b]
def fh{x q:Str}{st:Ā}{e:ah}{m lo n:Nat}{z:Bool}{g:gm}(r:e9 K T.aah x q st e)(G:aJ P w K mg base bI m r.a r.d e `by):∀C i,w5 T C i->fQ P w K mg base bI m x C e `by:=λC i h=>by
 let#[rfl,rfl]:=h;show#[T.fM,_,_,r.t,G,r.b]
def Ar[ae j](f:Fl)(xs:List j):aK (.ag f ↥xs)=.ag `cm ↥xs:=by
 cases f with
 |f=>rfl
 |o=>change Tr.ag _ (c8 _)=_;rw[IV];rfl
 |l b=>rfl
def As[ae j](f:Fl)(xs:List j):dn (.ag f ↥xs)=.ag `do ↥xs:=by
 cases f with
 |f=>change Tr.ag .f (cA _)=_;rw[pq];rfl
 |o=>change Tr.ag .o (cA _)=_;rw[pq];rfl
 |l b=>change Tr.ag `aM (cA _)=_;rw[pq];rfl
def KI(f:Fl):aK (.ag f [])=.ag `cm []:=by cases f<;>rfl
def KJ(f:Fl):dn (.ag f [])=.ag `do []:=by cases f<;>rfl
def Kh(f:Fl)(m:aI):aK (.aP f<|mT m)=.aP `cm `eh:=by
 cases f with
 |f=>rfl
 |o=>change Tr.aP _ (ef _)=_;rw[show ef `eh=mT m from (b8 _<|kg m).l];rfl
 |l b=>rfl
def Ki(f:Fl)(m:aI):dn (.aP f<|mT m)=.aP `do `eh:=by
 have e:iH `eh=mT m:=(b8 _<|kg m).d;cases f with
 |f=>change Tr.aP .f (iH _)=_;rw[e];rfl
 |o=>change Tr.aP .o (iH _)=_;rw[e];rfl
 |l b=>change Tr.aP `aM (iH _)=_;rw[e];rfl
def Av(f:Fl)(c:ai)(fs:bx)(h:f=.o\/cp fs=fs):aK `ax=.ins `cm c (cp fs):=by
 rcases h with rfl |h
 .rfl
 .cases f with
  |o=>rfl
  |f=>change Tr.ins .f c fs=_;rw[h];rfl
  |l b=>change Tr.ins (.l b) c fs=_;rw[h];rfl
def Aw(f:Fl)(c:ai)(fs:bx):dn `ax=.ins `do c (jm fs):=by cases f<;>rfl
def iV(f:Fl)(S:hB):aK `eu=cq T `cm S:=by
 have e:cp (gj f S)=gj `cm S:=by simp only[gj,cp,Kh,Ar,EH,pw]
 unfold cq;rw[Av _ _ _ ?_,e];cases f with
 |o=>show .inl rfl
 |f=>show .inr e
 |l b=>show .inr e
def jl(f:Fl)(S:hB):dn `eu=cq T `do S:=by
 unfold cq gj;rw[Aw];simp only[jm,Ki,As,E5,kr]
def fk(f:Fl)(S:iw):aK `aV=cw T `cm S:=by
 have e:cp (ip T f S)=ip T `cm S:=by simp only[ip,cp,Ar,iV,pw]
 unfold cw;rw[Av _ _ _ ?_,e];cases f with
 |o=>show .inl rfl
 |f=>show .inr e
 |l b=>show .inr e
def fT(f:Fl)(S:iw):dn `aV=cw T `do S:=by
 unfold cw ip;rw[Aw];simp only[jm,As,jl,kr]
def JJ(f:Fl)(rs:av)(us:ah)(sc:aF):aK `aP=iK T `cm rs us sc:=by
 have e:cp (ll f rs us sc)=ll `cm rs us sc:=by simp only[ll,cp,Ar,KI,pw]
 unfold iK;rw[Av _ _ _ ?_,e];cases f with
 |o=>show .inl rfl
 |f=>show .inr e
 |l b=>show .inr e
def Bb(f:Fl)(rs:av)(us:ah)(sc:aF):dn `aP=iK T `do rs us sc:=by
 unfold iK ll;rw[Aw];simp only[jm,As,KJ,kr]
def gW(f:Fl)(S:hB)(Q:az):pV (À<|cq T f S) Q=Q `eu:=rfl
def d7(f:Fl)(S:iw)(Q:az):pV (À<|cw T f S) Q=Q `aV:=rfl
def Bc(f:Fl)(rs:av)(us:ah)(sc:aF)(Q:az):pV (À<|iK T f rs us sc) Q=Q `aP:=rfl
def Kj(m:aI):cI (.aP .o<|mT m)=Â:=(b8 _<|kg m).o
def qY[ae j](xs:List j):cI (.ag .o ↥xs)=Â:=mG xs
def Kk(m:aI):bM (.aP .o<|mT m)=Â:=(b8 _<|kg m).t
def nN[ae j](xs:List j):bM (.ag .o ↥xs)=Â:=iD xs
def tM(T:Tx w K mg)(S:hB):cI `dL=Â:=by
 unfold cq gj;rw[zN];simp only[e5,Kj,qY,iI,E6,ϡ]
def JK(T:Tx w K mg)(S:hB):bM `dL=Â:=by
 unfold cq gj;rw[FD];simp only[fV,Kk,nN,i2,E7,ϡ]
def q5(T:Tx w K mg)(S:iw):cI `dM=Â:=by
 unfold cw ip;rw[zN];simp only[e5,qY,tM,iI,ϡ]
def tN(T:Tx w K mg)(S:iw):bM `dM=Â:=by
 unfold cw ip;rw[FD];simp only[fV,nN,JK,i2,ϡ]
def Kl(rs:av)(us:ah)(sc:aF):cI (iK T .o rs us sc)=Â:=by
 unfold iK ll;rw[zN];simp only[e5,qY,iI,show cI (.ag .o [])=Â from rfl,ϡ]
section
variable(T:Tx w K mg){f:Fl}{S:iw}{B:hB}{Q:az}{rs:av}{us:ah}{sc:aF}
def oK(q:Q (.ag .f ↥B.ls)):iC K "lines" `ce Q:=iy #[T.jH,T.xg] fO q
def sC(q:Q (.ag f ↥B.so)):iC K "solved" `ce Q:=iy #[T.jH,T.xh] (cv fO) q
def vF(q:Q (.int B.bt)):iC K "bottom" `ce Q:=iy #[T.jH,T.xi] (cv<|cv fO) q
def zE(q:Q (.aP f<|mT B.m)):iC K "shut" `ce Q:=iy #[T.jH,T.xj] (cv<|cv<|cv fO) q
def vR(q:Q (.ag .f ↥S.rs)):iC K "rows" `aV Q:=iy #[T.fM,T.rH] fO q
def EC(q:Q (.ag .f ↥S.us)):iC K "unknowns" `aV Q:=iy #[T.fM,T.qg] (cv fO) q
def Fv(q:Q (.ag f ↥S.sc)):iC K "scales" `aV Q:=iy #[T.fM,T.xk] (cv<|cv fO) q
def qz(q:Q (.ag f ↥S.ss)):iC K "settled" `aV Q:=iy #[T.fM,T.xl] (cv<|cv<|cv fO) q
def yP(q:Q (cq T f S.tb)):iC K "table" `aV Q:=iy #[T.fM,T.uR] (cv<|cv<|cv<|cv fO) q
def V1(q:Q (.ag .f ↥rs)):iC K "rows" `aP Q:=iy #[T.fM,T.rH] fO q
def NV(q:Q (.ag .f ↥us)):iC K "unknowns" `aP Q:=iy #[T.fM,T.qg] (cv fO) q
def nB{n:Str}{R:Nat->Prop}(q:R 0)(a:(n == ("lines":Str))=É:=by walk_at "k")(b:(n == ("solved":Str))=É:=by walk_at "k")(d:(n == ("bottom":Str))=É:=by walk_at "k")(e:(n == ("shut":Str))=É:=by walk_at "k"):iP (ue T) n `ce R:=zO #[rfl,rfl] (cv `dc a) q
def f7{n:Str}{R:Nat->Prop}(q:R 0)(a:(n == ("rows":Str))=É:=by walk_at "k")(b:(n == ("unknowns":Str))=É:=by walk_at "k")(d:(n == ("scales":Str))=É:=by walk_at "k")(e:(n == ("settled":Str))=É:=by walk_at "k")(g:(n == ("table":Str))=É:=by walk_at "k"):iP (w5 T) n `aV R:=zO #[rfl,rfl] (cv (cv (cv (cv (cv Am g) e) d) b) a) q
def tf{n:Str}{R:Nat->Prop}(q:R 0)(a:(n == ("rows":Str))=É:=by walk_at "k")(b:(n == ("unknowns":Str))=É:=by walk_at "k")(d:(n == ("scales":Str))=É:=by walk_at "k")(e:(n == ("settled":Str))=É:=by walk_at "k"):iP (w5 T) n `aP R:=zO #[rfl,rfl] (cv `dc a) q
end
def nD{f g:Str}{v u:Tr}{r:bx}(h:(g == f)=É:=by walk_at "k"):iT g u ((f,v)::r)=(f,v)::iT g u r:=by
 change (if f=g then _ else _)=_;rw[ao6 λz=>by rw[z,ap3] at h;cases h]
def sU{f:Str}{v u:Tr}{r:bx}:gT f u ((f,v)::r)=(f,u)::r:=by
 change (if f=f then _ else _)=_;rw[ao7 rfl]
def jQ{f g:Str}{v u:Tr}{r:bx}(h:(g == f)=É:=by walk_at "k"):gT g u ((f,v)::r)=(f,v)::gT g u r:=by
 change (if f=g then _ else _)=_;rw[ao6 λz=>by rw[z,ap3] at h;cases h]
def X4(S:hB)(a:aI):gT "shut" (.aP .o<|mT a) (gj .o S)=gj .o { S with m:=a }:=by
 unfold gj;rw[jQ,jQ,jQ,sU]
def Hw(S:iw)(B:hB):gT "table" (cq T .o B) (ip T .o S)=ip T .o { S with tb:=B }:=by
 unfold ip;rw[jQ,jQ,jQ,jQ,sU]
def V2(S:iw)(a:a7):gT "settled" (.ag .o ↥a) (ip T .o S)=ip T .o { S with ss:=a }:=by
 unfold ip;rw[jQ,jQ,jQ,sU]
def X5(rs:av)(us:ah)(sc a:aF):gT "scales" (.ag .o ↥a) (ll .o rs us sc)=ll .o rs us a:=by
 unfold ll;rw[jQ,jQ,sU]
def JE(S:iw):Tr.ins `bO T.aah (cp<|ip T .o S)=cw T `bO S:=fk T .o S
def gX{f:Fl}[h:Fp f]:dO f=f:=by cases h<;>rfl
def iW{f:Fl}[h:Fp f]:eD f=f:=by cases h<;>rfl
def X6(m:aI)(y:aW)(k:bK):jL `eh y (ae.t k)=mT (if (m.any λp=>decide<|p.1=y)=Â then m.map (λp=>if p.1=y then (p.1,k) else p) else m++[(y,k)]):=by
 unfold jL;have e:((mT m).any λa=>decide<|a.1=y)=m.any λp=>decide (p.1=y):=by unfold mT;rw[List.any_map];rfl
 rw[e];split
 .unfold mT;rw[þ,þ];show č λp _=>?_
  change (if p.1=y then (p.1,ae.t k) else (p.1,ae.t p.2))=((if p.1=y then (p.1,k) else p).1,ae.t (if p.1=y then (p.1,k) else p).2)
  split<;>rfl
 .unfold mT;rw[Û];rfl
def Eh{z:Bool}:aJ P w K mg base bI 1 T.rJ.a T.rJ.d ["one","other"] (bP K z 0 2 tI):=by
 show cc T.rJ.F Me rfl ∎ ?_
 intros
 show#[_,(aO (AG (cm jR jP `bL aD) (aO (bC 2<|fg (qv 0)<|qv 1)
  (aO (bC 0<|qv 1)
  (aZ<|bC 1<|qv 2))))
  (aZ<|bW<|qv 0)),?_]
 intro o n _ zy;let#[_,a,b,rfl,h,i,q]:=zy;show#[λm j=>∃x y z,j=[.int x,.int y,z]/\0<=x/\0<=y/\gd x y=gd a b/\m=y.toNat,#[_,a,b,.ar,rfl,h,i,rfl,rfl],?_];intro m j zy;let#[x,y,z,rfl,g,l,e,rfl]:=zy;rfl';by_cases f:y=0
 .subst f;rfl';rw[<- e,Vx x g] at q;show q _
 .rw[ao7<|by simp[f]];show#[⋯,?_];show#[(x % y).toNat,?_,_,_,_,rfl,l,ā _ f,?_,rfl]
  .have:=õ x (show 0<y by omega);have:=ā x f;omega
  .rw[W3 g ⋯];show e
def nH{z:Bool}:aJ P w K mg base bI 2 T.kD.a T.kD.d ["top","bottom"] (bP K z 0 2 kY):=by
 show cc T.kD.F VX rfl ∎ ?_
 intros
 show#[_,(aO (cN (cm gB gp `bL aD) (aZ sH) cM)
  (aO (bC 2<|qc T.rJ (Eh T)<|ak (fy yU ze T.xm<|ak (qv 0) aC)<|ak (fy yU ze T.xm<|ak (qv 1) aC) aC)
  (aO (cN (cm pA oO `bL aD) (aZ<|bC 2<|iF<|qv 2) cM)
  (aZ<|bW<|iZ<|ak (iY (qv 0)<|qv 2)<|ak (iY (qv 1)<|qv 2) aC)))),?_]
 intro i g _ zy;let#[_,a,b,rfl,e,f,q]:=zy;rfl';rw[ao6<|by simp[e]];show#[rfl,_,_,rfl,by split<;>omega,by split<;>omega,λj=>?_];rw[Vy];rw[IX,<- Fm e,<- Fn e] at q;unfold dv at q;by_cases h:b<0
 .rw[ao7 h] at q;rw[ao7<|ao9 h];rfl';show#[FX e f,FX e f,q _]
 .rw[ao6 h] at q;rw[ao6<|by simp[h]];rfl';show#[vP e f,vP e f,q _]
def zF{z:Bool}:aJ P w K mg base bI 3 T.qh.a T.qh.d ["one","other"] (bP K z 0 2 (jz (·+·))):=by
 show cc T.qh.F VY rfl ∎ ?_
 intros
 show#[_,(aZ<|bW<|qc T.kD (nH T)<|ak (dQ (da (a8 (qv 0) aD)<|a8 (qv 1) aD)<|da (a8 (qv 1) aD)<|a8 (qv 0) aD)<|ak (da (a8 (qv 0) aD)<|a8 (qv 1) aD) aC),?_];intro g f _ zy;let#[_,a,b,rfl,e,q]:=zy;rfl';show#[eC (iX a) `dp ⋯,eC (iX b) `dq ⋯,eC `dq `dp ⋯,rfl,_,_,rfl,sQ a b,zm a b e,λj=>?_];rw[<- Pf];show#[iI _,q _]
def sF{z:Bool}:aJ P w K mg base bI 3 T.mY.a T.mY.d ["one","other"] (bP K z 0 2 (jz (· - ·))):=by
 show cc T.mY.F SI rfl ∎ ?_
 intros
 show#[_,(aZ<|bW<|qc T.kD (nH T)<|ak (o6 (da (a8 (qv 0) aD)<|a8 (qv 1) aD)<|da (a8 (qv 1) aD)<|a8 (qv 0) aD)<|ak (da (a8 (qv 0) aD)<|a8 (qv 1) aD) aC),?_];intro g f _ zy;let#[_,a,b,rfl,e,q]:=zy;rfl';show#[eC (iX a) `dp ⋯,eC (iX b) `dq ⋯,eC `dq `dp ⋯,rfl,_,_,rfl,sQ a b,zm a b e,λj=>?_];rw[<- Eu];show#[iI _,q _]
def qJ{z:Bool}:aJ P w K mg base bI 3 T.l5.a T.l5.d ["one","other"] (bP K z 0 2 (jz (·*·))):=by
 show cc T.l5.F SJ rfl ∎ ?_
 intros
 show#[_,(aZ<|bW<|qc T.kD (nH T)<|ak (da (a8 (qv 0) aD)<|a8 (qv 1) aD)<|ak (da (a8 (qv 0) aD)<|a8 (qv 1) aD) aC),?_];intro g f _ zy;let#[_,a,b,rfl,e,q]:=zy;rfl';show#[eC (iX a) (iX b) ⋯,eC `dq `dp ⋯,rfl,_,_,rfl,sQ a b,zm a b e,λj=>?_];rw[<- Ew];show#[iI _,q _]
def oM{z:Bool}:aJ P w K mg base bI 1 T.lD.a T.lD.d ["one","other"] (bP K z 0 2 gI):=by
 show cc T.lD.F SK rfl ∎ ?_
 intros
 show#[_,(aZ<|bW<|tD pA oO (da (a8 (qv 0) aD)<|a8 (qv 1) aD)<|da (a8 (qv 1) aD)<|a8 (qv 0) aD),?_];intro g e _ zy;let#[_,a,b,rfl,f,q]:=zy;rfl';show#[eC (iX a) `dp ⋯,eC (iX b) `dq ⋯,?_];rw[decide_eq_decide.mpr<|Ta a b];show q _
def EN(a b:Rat):Í (a.num*(b.den:Int)) ((a.den:Int)*b.num)=a / b:=by
 rw[<- ĸ,Ż,Ģ,Rat.inv_def]
inductive kX(xs:af)(Q:Tr->aA):Prop
 |mk(_:↑xs=2)(a b:Rat)(_:xs=[ae.t a,ae.t b])(_:b ≠ 0)(_:bs a+bs b<=7990)(_:∀j,Q (ae.t (a / b)) j):kX xs Q
def Hx{z:Bool}:aJ P w K mg base bI 3 T.rK.a T.rK.d ["one","other"] (bP K z 0 2 kX):=by
 show cc T.rK.F VZ rfl ∎ ?_
 intros
 show#[_,(aO (cN (cm gB gp (a8 `bL aD) aD) (aZ sH) cM)
  (aZ<|bW<|qc T.kD (nH T)<|ak (da (a8 (qv 0) aD)<|a8 (qv 1) aD)<|ak (da (a8 (qv 0) aD)<|a8 (qv 1) aD) aC)),?_]
 intro h f _ zy;let#[_,a,b,rfl,e,g,q]:=zy;have hn:b.num≠0:=λz=>e<|Rat.num_eq_zero.mp z
 rfl';rw[ao6<|by simp[hn]];show#[eC (iX a) `dp ⋯,eC `dq (iX b) ⋯,rfl,_,_,rfl,ϰ (by have:=a.den_nz;omega) hn,Ñ `aR (by have:=fZ a;have:=iX b;omega),λj=>?_];rw[EN];show#[iI _,q _]
inductive kW(T:Tx w K mg)(xs:af)(Q:Tr->aA)(q:Xv->Prop):Prop
 |mk(_:↑xs=2)(f g:Fl)(rs:av)(us:ah)(_:Fp f)(_:Fp g)(_:xs=[.ag f ↥rs,.ag g ↥us])(_:16<↑rs\/8<↑us->q (.ref T.abz))(_:↑rs<=16->↑us<=8->∀j,Q .aT j):kW T xs Q q
def Ni{z:Bool}:aJ P w K mg base `bc 1 T.uS.a T.uS.d ["rows","unknowns"] (jc K z 0 2<|kW T):=by
 show wA T.uS.F Nb rfl ∎ λbH A outer s H E q n o m=>?_
 show#[_,(aZ<|cN (QW.t<|o7 (cm qZ qV (fy gq gu T.gv<|ak (qv 0) aC)<|nP T.Ll)<|qW<|cm qZ qV (fy gq gu T.gv<|ak (qv 1) aC)<|nP T.Lm) (aZ<|WC rfl rfl rfl rfl rfl rfl T.K9 PySem.F.excBase_ValueError T.La f9) cM),?_];intro p i _ zy;let#[_,f,g,rs,us,_,_,rfl,b,e]:=zy;rfl';split
 .rename_i c;show b (.inl (by have:=ap1 c;omega))
 .rename_i c;have j:¬ (16:Int)<(↑rs:Int):=λh=>c<|ao9 h
  split
  .rename_i c2;show b (.inr (by have:=ap1 c2;omega))
  .rename_i c2;have l:¬ (8:Int)<(↑us:Int):=λh=>c2<|ao9 h
   show e ⋯ ⋯ _
abbrev wM(m n:Nat)(A:aM)(S:Nat->Nat):List (aF):=(Ç m).map λi=>(Ç<|n+1).map<|Lp.tt m A S i
abbrev pN(m:Nat)(S:Nat->Nat):aF:=(Ç m).map λi=>(S i:Int)
abbrev cG(m n:Nat)(A:aM)(S:Nat->Nat)(mk:aI):hB:=#[wM m n A S,pN m S,Lp.dd m A S,mk]
structure Sz(m n:Nat)(A:aM):Prop where
 hm:m<=16
 hn:n<=60
 t:∀S i k,(∀i,i<m->S i<n)->k<=n->bi (Lp.tt m A S i k)<=3000
 d:∀S,(∀i,i<m->S i<n)->bi (Lp.dd m A S)<=3000
abbrev cf(ns:aF):Nat->Int:=λk=>ns.getD k 0
abbrev oE(ns:aF)(n:Nat):Prop:=↑ns=n/\∀c∈ns,bi c<=3000
def oS{n i j:Nat}(h:(Ç n)[i]?=À j):j<n/\i=j:=by
 let#[a,b]:=Á.mp h;rw[an0] at b;rw[Õ] at a;omega
def eH{xs:List j}{s:Nat}{x:j}(h:xs[s]?=À x):cS xs (s:Int)=À x:=by
 let#[a,e]:=Á.mp h;rw[wq xs ⋯ (by simpa using a)];simp[e]
def gP[ae j](xs:List j):Pu.aB (.ag .o ↥xs)=ae.t xs:=by change Tr.ag .f (bf _)=_;rw[lM];rfl
def Hy[ae j](h:i->List j):∀vs:List i,bf (vs.map λv=>.ag .o<|(h v).map ae.t)=(vs.map h).map ae.t
 |[]=>rfl
 |v::vs=>by
  change Pu.aB (.ag .o<|(h v).map ae.t)::bf (vs.map λv=>.ag .o<|(h v).map ae.t)=ae.t (h v)::(vs.map h).map ae.t;rw[Hy h vs];change Tr.ag .f (bf _)::_=_;rw[lM];rfl
def Hz[ae j](h:i->List j):∀vs:List i,bY (vs.map λv=>.ag .o<|(h v).map ae.t)=Â
 |[]=>rfl
 |v::vs=>by
  change (bM (.ag .o<|(h v).map ae.t)&&bY (vs.map λv=>.ag .o<|(h v).map ae.t))=Â;rw[Hz h vs,nN];rfl
inductive nY(T:Tx w K mg)(xs:af)(Q:Tr->aA):Prop
 |mk(_:↑xs=3)(f g:Fl)(ls:List (aF))(so:aF)(_:Fp f)(_:Fp g)(_:xs=[.ins .o T.aaa [],.ag f ↥ls,.ag g ↥so])(_:↑ls<=100)(_:∀j:af,j[0]?=À (cq T .o ⟨ls,so,1,[]⟩)->Q .aT j):nY T xs Q
def MB{z:Bool}:aJ P w K mg base bI 1 T.uO.a T.uO.d ["self","lines","solved"] (bP K z 1 3<|nY T):=by
 show cc T.uO.F Mb rfl ∎ ?_
 intros
 show#[_,(aO (vQ `cF<|hJ ["line"] [È] (fj<|qv 1) (eF 0) (λ_ _ _ _ _=>(jO (ki rfl) jZ T.gS<|ak (qv 0) aC)))
  (aO (oP `cF<|jO (ki rfl) jZ T.gS<|ak (qv 2) aC)
  (aO (oP `cF aD)
  (aZ<|oP (dz 0) wo)))),?_]
 intro i e _ zy;let#[_,f,g,ls,so,_,_,rfl,h,q]:=zy;rfl';show bc.mL ls _ (λl=>.ag .o ↥l) ⋯ (λl m R b=>?_) ?_
 .rfl';show b
 rw[show Pu.aB (.ag .o<|ls.map λl=>.ag .o ↥l)=.ag .f (bf<|ls.map λl=>.ag .o ↥l) from rfl,Hy<|λl=>l,List.map_id'];show#[Hz (λl=>l) ls,#[T.jH,T.xg],∎,#[T.jH,T.xh],∎,#[T.jH,T.xi],by (repeat first |rw[oG] |rw[nD]);show (by decide:2<900),rfl,#[T.jH,T.xj],by (repeat first |rw[oG] |rw[nD]);show (by decide:3<900),q _ ?_]
 (repeat first |rw[oG] |rw[nD])
 rfl
def SO(ns:aF)(d:Int)(S:Nat->Nat)(t:aM)(h:↑ns=n):ns.map (λc=>c*d)++[0]=(Ç<|n+1).map λk=>d*cf ns k - Lp.sm 0 λj=>cf ns (S j)*t j k:=by
 apply ė;intro k;rw[Ê,ŝ,Å,h];by_cases q:k<n
 .rw[ao7 q,Ê,ê ⋯,Ì ⋯];simp only[ŏ,cf,Lp.sm,Int.sub_zero,Ã,Ì (show k<↑ns by omega),Zp,Ϣ]
 .rw[ao6 q];by_cases e:k=n
  .subst e;rw[ê ⋯];simp[cf,Lp.sm,Ã,à (show ↑ns<=k by omega)]
  .rw[à (show (Ç<|n+1).length<=k by rw[Õ];omega),à (by simp;omega)];rfl
def V3(n:Nat)(a:Nat->Int)(v:Int)(t:Nat->Int):ϳ (λx y=>x - v*y) ((Ç<|n+1).map a) ((Ç<|n+1).map t)=(Ç<|n+1).map λk=>a k - v*t k:=by
 rw[ac8,ao1]
def X7{ns:aF}{n:Nat}(h:oE ns n)(k:Nat):bi (cf ns k)<=3000:=by
 unfold cf;rw[Ã];by_cases q:k<↑ns
 .rw[Ì q];show h.2 _<|Ϲ q
 .rw[à ⋯];decide
def KL{ns:aF}{n k:Nat}(h:↑ns=n)(a:k<n):ns[k]?=À (cf ns k):=by
 unfold cf;rw[Ã,Ì ⋯];rfl
def KN(m n:Nat)(M:aM)(S:Nat->Nat)(mk:aI):(cG m n M S mk).ls.zip (cG m n M S mk).so=(Ç m).map λi=>((Ç<|n+1).map<|Lp.tt m M S i,(S i:Int)):=by
 change List.zip ((Ç m).map _) ((Ç m).map _)=_;rw[ū,ac8,ao1]
inductive i7(T:Tx w K mg)(xs:af)(Q:Tr->aA):Prop
 |mk(_:↑xs=2)(f g:Fl)(m n:Nat)(M:aM)(S:Nat->Nat)(mk:aI)(ns:aF)(_:Fp f)(_:Fp g)(_:xs=[cq T f (cG m n M S mk),.ag g ↥ns])(_:Sz m n M)(_:∀i,i<m->S i<n)(_:oE ns n)(_:∀j,Q (ae.t ((Ç (n+1)).map (Lp.zz m M (cf ns) S))) j):i7 T xs Q
def Ei{z:Bool}:aJ P w K mg base bI 1 T.rF.a T.rF.d ["self","costs"] (bP K z 0 2<|i7 T):=by
 show cc T.rF.F Mf rfl ∎ ?_
 intros
 show#[_,(aO (bC 2<|dQ (hJ ["cost","self"] [È,À 0] (fj<|qv 1) (eF 0) (λ_ _ _ _ _=>(da (qv 0)<|cK K<|qv 1)))<|fK<|ak aD aC)
  (aO (fL (mE T.l7<|ak (cK K<|qv 0)<|ak (cK K<|qv 0) aC) (iU (n:=2) rfl<|dP (cR 3)<|dP (cR 4) iN) (aO (bC 5<|a8 (qv 1)<|qv 4)
  (aZ<|cN (cm jR jP (qv 5) aD) (aZ<|oU 2 ["one","other","cost"] [È,È,À 5] (mE T.l7<|ak (qv 2)<|ak (qv 3) aC) (Bg (n:=2) rfl<|qH (eF 0)<|qH (eF 1) zl) (λ_ _ _ _ _=>(o6 (qv 0)<|da (qv 2)<|qv 1))) cM)))
  (aZ<|bW<|qv 2))),?_]
 intro I H _ zy;let#[_,f,g,m,n,M,S,mk,ns,_,_,rfl,h,v,x,q]:=zy;have hn:=h.hn;have hm:=h.hm;have A:=x.1;have hd:=h.d S v;rfl';simp only[iV,gX,gW];show bc.map ns _ (λc=>c*Lp.dd m M S) ⋯ (λc D R r=>?_) ?_
 .rfl';simp only[gW];show vF T ?_;rfl';show#[eC (x.2 c D) hd ⋯,r]
 rfl';show#[⋯,oK T<|sC T ?_];rfl';rw[SO ns (Lp.dd m M S) S (Lp.tt m M S) A];rw[KN,þ];show Loop.map (Ç m) _ (λi G=>∃y z u,G=[cq T f<|cG m n M S mk,.ag g ↥ns,ae.t<|(Ç<|n+1).map λk=>Lp.dd m M S*cf ns k - Lp.sm i λj=>cf ns (S j)*Lp.tt m M S j k,y,z,u]) #[_,_,_,rfl] ?_ ?_
 .rintro i j G hj ⟨y,z,u,rfl⟩;let#[B,rfl]:=oS hj;dsimp only[ZR];rfl';show dE _ _ _ (eH<|KL A<|v i B) ?_;rfl';by_cases o:cf ns (S i)=0
  .rw[ao6<|by simp[o]];simp only[Lp.sm,o,ž,ab9];show#[_,_,_,rfl]
  .rw[ao7 (by simp[o]),f6,f6,lN,lN,vz];show bc.map _ _ (λp=>p.1 - cf ns (S i)*p.2) (by rw[Đ,Å,Õ];omega) (λp E R r=>?_) ?_
   .rfl';let#[k,C,e]:=ß.mp (Ġ E).2;rw[ī] at C;show#[eC (X7 x _) (e ▸ h.t S i k v ⋯) ⋯,r]
   .have e3:∀L l:aF,(L.zip l).map (λp=>p.1 - cf ns (S i)*p.2)=ϳ (λa b=>a - cf ns (S i)*b) L l:=λL l=>by rw[ū,Zv]
    rw[e3,V3,gP];simp only[Lp.sm,<- Int.sub_sub];show#[nN _,_,_,_,rfl]
 .rintro G ⟨y,z,u,rfl⟩;rfl';rw[Õ];show q _
abbrev fa(mk:aI)(k:Nat):Prop:=(look `cf<|ï (k:Int)).isSome=Â
def qP{f:Nat->Int}{n k:Nat}(h:k<n):((Ç n).map f)[k]?=À (f k):=by rw[Ê,ê h];rfl
section
variable(T:Tx w K mg){f₀ f g:Fl}{m n:Nat}{M:aM}{S:Nat->Nat}{mk:aI}{ns:aF}{Q:az}
def Fw[Fp f][Fp g](hz:Sz m n M)(a:∀i,i<m->S i<n)(b:oE ns n)(q:Q (ae.t<|(Ç<|n+1).map<|Lp.zz m M (cf ns) S)):iP (ue T) "costs_left" (cq T f₀<|cG m n M S mk) λ_=>i7 T [cq T f<|cG m n M S mk,.ag g ↥ns] λt _=>Q t:=nB T #[rfl,f,g,m,n,M,S,mk,ns,‹_›,‹_›,rfl,hz,a,b,λ_=>q]
end
inductive i6(T:Tx w K mg)(xs:af)(Q:Tr->aA):Prop
 |mk(_:↑xs=2)(f g:Fl)(m n:Nat)(M:aM)(S:Nat->Nat)(mk:aI)(ns:aF)(_:Fp f)(_:Fp g)(_:xs=[cq T f (cG m n M S mk),.ag g ↥ns])(_:Sz m n M)(_:∀i,i<m->S i<n)(_:oE ns n)(_:∀e:Nat,Lp.Ent m n M (cf ns) (fa mk) S e->∀j,Q (.int e) j)(_:(∀k,k<n->¬ fa mk k->0<=Lp.zz m M (cf ns) S k)->∀j,Q .aT j):i6 T xs Q
def Ed{z:Bool}:aJ P w K mg base bI 2 T.rG.a T.rG.d ["self","costs"] (bP K z 0 2<|i6 T):=by
 show cc T.rG.F Mn rfl ∎ ?_
 intros
 show#[_,(aO (bC 2<|eK (lP T T.rF<|Ei T) (qv 0)<|ak (qv 1) aC)
  (aO (fL (tF T.l6<|ak (fy gq gu T.gv<|ak (qv 1) aC) aC) (cR 3)<|aZ<|cN (QW.t<|qM (cm pA oO (a8 (qv 2)<|qv 3) aD)<|qD<|cm zf yM (qv 3)<|cK K<|qv 0) (aZ<|bW<|qv 3) cM)
  (aZ<|bW mn))),?_]
 intro E C _ zy;let#[_,f,g,m,n,M,S,mk,ns,_,_,rfl,v,A,u,q,B]:=zy;have hn:=v.hn;have D:=u.1;rfl';simp only[iV,jl,gX,iW,gW];show Fw T v A u ?_;rfl';show#[⋯,⋯,Loop.map _ _ (λi G=>(∃y,G=[cq T f<|cG m n M S mk,.ag g ↥ns,ae.t<|(Ç<|n+1).map<|Lp.zz m M (cf ns) S,y])/\∀k,k<i->¬ fa mk k->0<=Lp.zz m M `bh S k) #[#[_,rfl],λk o=>ao8 o ⋯] ?_ ?_]
 .rintro i j G hj ⟨⟨y,rfl⟩,o⟩;have p:j<↑ns/\i=j:=by have:=oS hj;omega
  let#[p,rfl]:=p;rfl';rw[f6,gQ,gO];show dE _ _ _ (eH (qP (show i<n+1 by omega))) ?_;rfl';have r:(Lp.zz m M `bh S i<0->fa mk i)->∀k,k<i+1->¬ fa mk k->0<=Lp.zz m M `bh S k:=λh k b l=>by
   by_cases e:k=i
   .subst e;have:¬ Lp.zz m M `bh S k<0:=λx=>l<|h x
    omega
   .show o k ⋯ l
  by_cases h:Lp.zz m M (cf ns) S i<0
  .rw[ao7<|ao9 h];simp only[iV,gX,gW];show zE T (show if (!(look `cf<|ï (i:Int)).isSome)=Â then _ else _ from ?_);by_cases l:fa mk i
   .rw[ao6 (by rw[show (look `cf<|ï (i:Int)).isSome=Â from l];decide)];show#[#[_,rfl],r λ_=>l]
   .rw[ao7 (by rw[show (look `cf<|ï (i:Int)).isSome=É from eq_false_of_ne_true l];rfl)];show q i #[⋯,h,l,λk b=>o k b] _
  .rw[ao6<|by simpa using h];show#[#[_,rfl],r λx=>ao8 x h]
 .rintro G ⟨⟨y,rfl⟩,o⟩;rfl';show B (λk b=>o k (by simpa using (show k<↑ns by omega))) _
def tG{m n i:Nat}{M:aM}{S:Nat->Nat}{mk:aI}(h:i<m):(cG m n M S mk).ls[i]?=À ((Ç<|n+1).map<|Lp.tt m M S i):=by
 change ((Ç m).map _)[i]?=_;rw[Ê,ê h];rfl
def Ax{m n i:Nat}{M:aM}{S:Nat->Nat}{mk:aI}(h:i<m):(cG m n M S mk).so[i]?=À (S i:Int):=by
 change ((Ç m).map _)[i]?=_;rw[Ê,ê h];rfl
def Be{n:Nat}(f:Nat->Int):cS ((Ç<|n+1).map f) (-1)=À (f n):=by
 rw[Z2,Û];show GA
abbrev rh(m n:Nat)(M:aM)(S:Nat->Nat)(c i b:Nat):Bool:=decide (Lp.tt m M S i n*Lp.tt m M S b c<Lp.tt m M S b n*Lp.tt m M S i c) || (decide (Lp.tt m M S i n*Lp.tt m M S b c=Lp.tt m M S b n*Lp.tt m M S i c)&&decide ((S i:Int)<(S b:Int)))
inductive nX(T:Tx w K mg)(xs:af)(Q:Tr->aA):Prop
 |mk(_:↑xs=4)(f:Fl)(m n:Nat)(M:aM)(S:Nat->Nat)(mk:aI)(i b c:Nat)(_:Fp f)(_:xs=[cq T f (cG m n M S mk),.int i,.int b,.int c])(_:Sz m n M)(_:∀i,i<m->S i<n)(_:i<m)(_:b<m)(_:c<n)(_:∀j,Q (.bl (rh m n M S c i b)) j):nX T xs Q
def L5{z:Bool}:aJ P w K mg base bI 1 T.uu.a T.uu.d ["self","number","best","column"] (bP K z 0 4<|nX T):=by
 show cc T.uu.F L3 rfl ∎ ?_
 intros
 show#[_,(aO (bC 4<|a8 (cK K<|qv 0)<|qv 1)
  (aO (bC 5<|a8 (cK K<|qv 0)<|qv 2)
  (aO (bC 6<|da (a8 (qv 4)<|iF aD)<|a8 (qv 5)<|qv 3)
  (aO (bC 7<|da (a8 (qv 5)<|iF aD)<|a8 (qv 4)<|qv 3)
  (aZ<|bW<|Ka (tD pA oO (qv 6)<|qv 7)<|Jf<|Kr (tD gB gp (qv 6)<|qv 7)<|Jf<|tD pA oO (a8 (cK K<|qv 0)<|qv 1)<|a8 (cK K<|qv 0)<|qv 2))))),?_]
 intro B y _ zy;let#[_,f,m,n,M,S,mk,i,b,c,_,rfl,r,x,p,o,A,q]:=zy;have hn:=r.hn;rfl';simp only[iV,jl,gX,iW,gW];show oK T ?_;rw[gQ,gO];show dE _ _ _ (eH<|tG p) #[i2 _,?_];show oK T ?_;rw[gQ,gO];show dE _ _ _ (eH<|tG o) #[i2 _,?_];rfl';simp only[f6];rfl';have u:∀j,cS ((Ç<|n+1).map<|Lp.tt m M S j) (-1)=À `ev:=λj=>Be _
 have v:∀j,cS ((Ç<|n+1).map<|Lp.tt m M S j) (c:Int)=À (Lp.tt m M S j c):=λj=>eH<|qP ⋯
 simp only[u,v,ŏ];rfl';have l:=λj k (h:k<=n)=>r.t S j k x h
 show#[eC (l i n<|Ï _) (l b c ⋯) ⋯,eC (l b n<|Ï _) (l i c ⋯) ⋯,?_];unfold rh at q;by_cases e:Lp.tt m M S i n*Lp.tt m M S b c<Lp.tt m M S b n*Lp.tt m M S i c
 .rw[ao7<|ao9 e];rw[ao9 e,Bool.true_or] at q;show q _
 .rw[ao6<|by simpa using e];rw[ap0 e,ag0] at q;by_cases g:Lp.tt m M S i n*Lp.tt m M S b c=Lp.tt m M S b n*Lp.tt m M S i c
  .rw[ao7<|ao9 g];rw[ao9 g,aa4] at q;show sC T ?_;rw[gQ,gO];show dE _ _ _ (eH<|Ax p)<|sC T ?_;rw[gQ,gO];show dE _ _ _ (eH<|Ax o) ?_;show#[rfl,q _]
  .rw[ao6<|by simpa using g];rw[ap0 g,Z0] at q;show q _
abbrev jF(m n:Nat)(M:aM)(S:Nat->Nat)(c b i:Nat):Prop:=Lp.tt m M S b n*Lp.tt m M S i c<Lp.tt m M S i n*Lp.tt m M S b c\/(Lp.tt m M S b n*Lp.tt m M S i c=Lp.tt m M S i n*Lp.tt m M S b c/\S b<=S i)
abbrev lu(m n:Nat)(M:aM)(S:Nat->Nat)(c i:Nat):Option Nat->Prop
 |none=>∀j,j < i -> Lp.tt m M S j c <= 0
 |some b=>b < i /\ 0 < Lp.tt m M S b c /\ ∀j,j < i -> 0 < Lp.tt m M S j c -> jF m n M S c b j
def jF.trans{m n:Nat}{M:aM}{S:Nat->Nat}{c a b i:Nat}(d:0<Lp.tt m M S a c)(f:0<Lp.tt m M S b c)(j:0<Lp.tt m M S i c)(h:jF m n M S c a b)(g:jF m n M S c b i):jF m n M S c a i:=by
 unfold jF at *;generalize Lp.tt m M S a c=x at *;generalize Lp.tt m M S b c=y at *;generalize Lp.tt m M S i c=z at *;generalize Lp.tt m M S a n=u at *;generalize Lp.tt m M S b n=v at *;generalize Lp.tt m M S i n=w at *;have t:=Lp.tr (a:=u) (b:=v) (c:=w) d f j ⋯ ⋯;by_cases e:u*z=w*x
 .show .inr #[e,?_];have l:=Lp.tr (a:=w) (b:=u) (c:=v) j d f ⋯ ⋯;have r2:=Lp.tr (a:=v) (b:=w) (c:=u) f j d ⋯ ⋯;omega
 .show .inl ⋯
def C2{m n:Nat}{M:aM}{S:Nat->Nat}{c i b:Nat}:(rh m n M S c i b=Â->jF m n M S c i b)/\(rh m n M S c i b=É->jF m n M S c b i):=by
 unfold rh jF;simp only[Bool.or_eq_true,í,decide_eq_true_eq,Bool.or_eq_false_iff,Bool.and_eq_false_iff,decide_eq_false_iff_not];omega
def Ij{Q:az}:nj É .aT .aT Q=Q `cp:=rfl
def Ik{Q:az}{i:Int}:nj É `aw .aT Q=Q `cS:=rfl
def Il{Q:az}:nj Â .aT .aT Q=Q `cS:=rfl
def X8{Q:az}{i:Int}:nj Â `aw .aT Q=Q `cp:=rfl
abbrev oT:Option Nat->Tr
 |none=>.aT
 |some b=>.int b
def X9(m n:Nat)(M:aM)(S:Nat->Nat)(mk:aI):(cG m n M S mk).ls.zipIdx=(Ç m).map λi=>((Ç<|n+1).map<|Lp.tt m M S i,i):=by
 apply ė;intro k;rw[į,Ê];by_cases h:k<m
 .rw[tG h,ê h];simp
 .rw[à (show (cG m n M S mk).ls.length<=k by change ((Ç m).map _).length<=k;rw[Å,Õ];omega),à (by rw[Õ];omega)];rfl
def lu.skip{m n:Nat}{M:aM}{S:Nat->Nat}{c i:Nat}{o:Option Nat}(h:lu m n M S c i o)(hn:¬ 0<Lp.tt m M S i c):lu m n M S c (i+1) o:=by
 cases o with
 |none=>
  intro j a;by_cases e:j=i
  .subst e;omega
  .show h j ⋯
 |some b=>
  show#[by have:=h.1;omega,h.2.1,λj a p=>?_];by_cases e:j=i
  .subst e;show ao8 p hn
  .show h.2.2 j ⋯ p
def lu.keep{m n:Nat}{M:aM}{S:Nat->Nat}{c i b:Nat}(h:lu m n M S c i (À b))(g:jF m n M S c b i):lu m n M S c (i+1) (À b):=
 #[by have:=h.1;omega,h.2.1,λj a p=>by
  by_cases e:j=i
  .subst e;show g
  .show h.2.2 j ⋯ p]
def jF.refl{m n:Nat}{M:aM}{S:Nat->Nat}{c i:Nat}:jF m n M S c i i:=.inr #[rfl,Ï _]
def lu.take{m n:Nat}{M:aM}{S:Nat->Nat}{c i:Nat}{o:Option Nat}(h:lu m n M S c i o)(hp:0<Lp.tt m M S i c)(g:∀b,o=À b->jF m n M S c i b):lu m n M S c (i+1) (À i):=
 #[ŧ i,hp,λj a p=>by
  by_cases e:j=i
  .subst e;show .refl
  .cases o with
   |none=>have:=h j ⋯;omega
   |some b=>show (g b rfl).trans hp h.2.1 p<|h.2.2 j ⋯ p]
inductive k7(T:Tx w K mg)(xs:af)(Q:Tr->aA):Prop
 |mk(_:↑xs=2)(f:Fl)(m n:Nat)(M:aM)(S:Nat->Nat)(mk:aI)(c:Nat)(_:Fp f)(_:xs=[cq T f (cG m n M S mk),.int c])(_:Sz m n M)(_:∀i,i<m->S i<n)(_:c<n)(_:∀r:Nat,Lp.Lv m n M S r c->∀j,Q (.int r) j)(_:(∀i,i<m->Lp.tt m M S i c<=0)->∀j,Q .aT j):k7 T xs Q
def Mi{z:Bool}:aJ P w K mg base bI 2 T.uQ.a T.uQ.d ["self","column"] (bP K z 0 2<|k7 T):=by
 show cc T.uQ.F Mg rfl ∎ ?_
 intros
 show#[_,(aO (bC 2 mn)
  (aO (fL (tO T.qi<|ak (cK K<|qv 0) aC) (iU (n:=2) rfl<|dP (cR 3)<|dP (cR 4) iN)<|aZ<|cN (QW.t<|qM (cm qZ qV (a8 (qv 4)<|qv 1) aD)<|qD<|QW.t<|o7 (cm HY H0 (qv 2) mn)<|qW<|ke<|eK (lP T T.uu<|L5 T) (qv 0)<|ak (qv 3)<|ak (qv 2)<|ak (qv 1) aC) (aZ<|bC 2<|qv 3) cM)
  (aZ<|bW<|qv 2))),?_]
 intro C A _ zy;let#[_,f,m,n,M,S,mk,c,_,rfl,l,u,v,q,x]:=zy;have hn:=l.hn;have hm:=l.hm;rfl';simp only[iV,jl,gX,iW,gW];show oK T ?_;rfl';rw[X9,þ];show Loop.map (Ç m) _ (λi G=>∃(o:Option Nat)(y z:Tr),G=[cq T f<|cG m n M S mk,.int c,oT o,y,z]/\lu m n M S c i o) #[È,_,_,rfl,λj h=>ao8 h ⋯] ?_ ?_
 .rintro i j G h ⟨o,y,z,rfl,ho⟩;let#[p,rfl]:=oS h;dsimp only[ZR];rfl';simp only[f6];rfl';show dE _ _ _ (eH (qP (show c<n+1 by omega))) ?_;rfl';by_cases g:0<Lp.tt m M S i c
  .rw[ao7<|ao9 g];cases o with
   |none=>
    rw[show oT È=.aT from rfl];rfl';rw[Ij];show#[À i,_,_,rfl,ho.take g λb e=>by cases e]
   |some b=>
    rw[show oT (À b)=.int b from rfl];rfl';rw[Ik];rfl';simp only[iV,jl,gX,iW,gW];show nB T #[rfl,f,m,n,M,S,mk,i,b,c,‹_›,rfl,l,u,p,Nat.lt_trans ho.1 p,v,λ_=>?_];rfl';cases e:rh m n M S c i b with
    |true=>show#[À i,_,_,rfl,ho.take g λB r=>by cases r;show C2.1 e]
    |false=>show#[À b,_,_,rfl,ho.keep<|C2.2 e]
  .rw[ao6<|by simpa using g];show#[o,_,_,rfl,ho.skip g]
 .rintro G ⟨o,y,z,rfl,ho⟩;rw[Õ] at ho;cases o with
  |none=>
   rw[show oT È=.aT from rfl];rfl';show x ho _
  |some b=>
   rw[show oT (À b)=.int b from rfl];rfl';show q b #[ho.1,ho.2.1,ho.2.2] _
def oV{xs:af}{k:Nat}{t:Tr}{Q:aA}(h:k<↑xs)(q:Q (xs.set k t)):rY xs (.int k) t Q:=by
 change (match iJ ↑xs (k:Int) with |some n=>Q `dk |none=>False);have e:iJ ↑xs (k:Int)=À k:=by unfold iJ;rw[ao7 ⋯,ao7<|by simpa using h];simp
 rw[e];show q
def SQ{xs:af}{k:Nat}{t:Tr}{Q:aA}(h:k<↑xs)(q:Q (xs.set k t)):m8 `aE λxs=>rY xs (.int k) t Q:=oV h q
def Fx(F:Nat->j)(i:Nat):(Ç<|i+1).map F=(Ç i).map F++[F i]:=by rw[Z2,Û];rfl
abbrev nR(m n:Nat)(M:aM)(S:Nat->Nat)(r c i k:Nat):Int:=(Lp.tt m M S i k*Lp.tt m M S r c - Lp.tt m M S i c*Lp.tt m M S r k).fdiv<|Lp.dd m M S
def V4{m n:Nat}{M:aM}{S:Nat->Nat}{r c:Nat}(hz:Sz m n M)(G:Lp.Gd m n M S)(a:r<m)(b:c<n)(hp:0<Lp.tt m M S r c):((Ç m).map λj=>(Ç<|n+1).map<|nR m n M S r c j).set r ((Ç<|n+1).map<|Lp.tt m M S r)=wM m n M (Lp.up S r c):=by
 apply ė;intro i;unfold wM;rw[Τ,Ê,Ê,Å,Õ];by_cases e:r=i
 .subst e;rw[ao7 rfl,ao7 a,ê a,ŏ];congr 1;show č λk _=>Lp.bX.symm
 .rw[ao6 e];by_cases h:i<m
  .rw[ê h,ŏ,ŏ];congr 1;show č λk _=>?_
   unfold nR;rw[<- Lp.ew G.cr k h a (Ć e)];show Ě _<|é G.pos
  .rw[à (by rw[Õ];omega)];rfl
def V5{m:Nat}{S:Nat->Nat}{r c:Nat}(a:r<m):(pN m S).set r (c:Int)=pN m (Lp.up S r c):=by
 apply ė;intro i;unfold pN;rw[Τ,Ê,Ê,Å,Õ];by_cases e:r=i
 .subst e;rw[ao7 rfl,ao7 a,ê a];simp[Lp.up]
 .rw[ao6 e];by_cases h:i<m
  .rw[ê h];simp[Lp.up,Ć e]
  .rw[à (by rw[Õ];omega)];rfl
def Im{f:Str}{v u:Tr}{r:bx}:iT f u ((f,v)::r)=(f,u)::r:=by
 change (if f=f then _ else _)=_;rw[ao7 rfl]
def V6(B:hB)(ls:List (aF)):iT "lines" (.ag .f ↥ls) (gj .o B)=gj .o { B with ls:=ls }:=by unfold gj;rw[Im];rfl
def V7(B:hB)(d:Int):iT "bottom" (.int d) (gj .o B)=gj .o { B with bt:=d }:=by unfold gj;rw[nD,nD,Im]
def V8(B:hB)(so:aF):gT "solved" (.ag .o ↥so) (gj .o B)=gj .o { B with so:=so }:=by unfold gj;rw[jQ,sU]
inductive k9(T:Tx w K mg)(xs:af)(Q:Tr->aA):Prop
 |mk(_:↑xs=3)(m n:Nat)(M:aM)(S:Nat->Nat)(mk:aI)(r c:Nat)(_:xs=[cq T .o (cG m n M S mk),.int r,.int c])(_:Sz m n M)(_:Lp.Gd m n M S)(_:r<m)(_:c<n)(_:0<Lp.tt m M S r c)(_:∀j:af,j[0]?=À (cq T .o (cG m n M (Lp.up S r c) mk))->Q .aT j):k9 T xs Q
def Nj{z:Bool}:aJ P w K mg base bI 1 T.uv.a T.uv.d ["self","number","column"] (bP K z 3 3<|k9 T):=by
 show cc T.uv.F Ng rfl ∎ λbH A outer s H E hr hu U=>?_
 show#[_,(aO (bC 3<|a8 (cK K<|qv 0)<|qv 1)
  (aO (cN (cm pA oO (a8 (qv 3)<|qv 2) aD) (aZ<|oU 3 ["entry"] [È] (fj<|qv 3) (eF 0) (λ_ _ _ _ _=>(iF<|qv 0))) cM)
  (aO (bC 4<|a8 (qv 3)<|qv 2)
  (aO (jh 5<|fK aC)
  (aO (fL (fj<|cK K<|qv 0) (cR 6) (aO (bC 7<|a8 (qv 6)<|qv 2)
  (aZ<|nM (dz 5)<|hJ ["one","other","self","middle","entry"] [È,È,À 0,À 4,À 7] (mE T.l7<|ak (qv 6)<|ak (qv 3) aC) (Bg (n:=2) rfl<|qH (eF 0)<|qH (eF 1) zl) (λ_ _ _ _ _=>(iY (o6 (da (qv 0)<|qv 3)<|da (qv 4)<|qv 1)<|cK K<|qv 2)))))
  (aO (qN (dz 5) `bL<|qv 3)
  (Bh 5 (aO (vQ `cF<|qv 5)
  (aO (oP `cF<|qv 4)
  (aZ<|qN (q4<|dz 0) (qv 1)<|qv 2)))))))))),?_]
 intro xs Q _ zy;let#[_,m,n,M,S,mk,r,c,rfl,f,G,b,D,N,q]:=zy;have hn:=f.hn;have hm:=f.hm;rfl';simp only[iV,jl,dO,eD,gW];show oK T ?_;rw[gQ,gO];show dE _ _ _ (eH<|tG b) #[i2 _,?_];rfl';simp only[f6];rfl';have x:cS ((Ç<|n+1).map<|Lp.tt m M S r) (c:Int)=À (Lp.tt m M S r c):=eH<|qP ⋯;simp only[x,ŏ];rfl';rw[ao6 (by simp;omega)];show oK T ?_;rfl';rw[show (cG m n M S mk).ls=(Ç m).map λi=>(Ç<|n+1).map (Lp.tt m M S i) from rfl,þ];show Loop.map (Ç m) _ (λi J=>∃(y z:Tr),J=[cq T .o<|cG m n M S mk,.int r,.int c,ae.t<|(Ç<|n+1).map<|Lp.tt m M S r,.int<|Lp.tt m M S r c,.ag .o<|((Ç i).map λj=>(Ç<|n+1).map<|nR m n M S r c j).map ae.t,y,z]) #[_,_,rfl] ?_ ?_
 .rintro i j J hj ⟨y,z,rfl⟩;let#[Y,rfl]:=oS hj;have B:cS ((Ç<|n+1).map<|Lp.tt m M S i) (c:Int)=À (Lp.tt m M S i c):=eH<|qP ⋯;dsimp only[ZR];rfl';simp only[f6];rfl';simp only[B,ŏ];rfl';simp only[iV,dO];show bc.map _ _ (λp=>(p.1*Lp.tt m M S r c - Lp.tt m M S i c*p.2).fdiv<|Lp.dd m M S) (by rw[Đ,Å,Õ];omega) (λp h R C=>?_) ?_
  .rfl';∎;let#[k,I,e]:=ß.mp (Ġ h).1;let#[O,g,v]:=ß.mp (Ġ h).2;∎;rw[ī] at I g;have l:bi p.1<=3000:=by rw[<- e];show f.t S i k G.lt ⋯
   have u:bi p.2<=3000:=by rw[<- v];show f.t S r O G.lt ⋯
   show#[eC l (f.t S r c G.lt ⋯) ⋯,eC (f.t S i c G.lt ⋯) u ⋯,?_];simp only[gW];show vF T ?_;rfl';show#[A7 `bp<|Ñ (f.d S G.lt) ⋯,C]
  .have eR:((((Ç<|n+1).map<|Lp.tt m M S i).zip<|(Ç<|n+1).map<|Lp.tt m M S r).map λp=>(p.1*Lp.tt m M S r c - Lp.tt m M S i c*p.2).fdiv<|Lp.dd m M S)=(Ç<|n+1).map (nR m n M S r c i):=by rw[List.zip_map',þ];rfl
   rw[eR,gP,Fx _ i,Û (l₂:=[_])];show#[nN _,by rw[Õ];omega,_,_,rfl]
 .rintro J ⟨y,z,rfl⟩;rfl';rw[Õ];show oV (by rw[Å,Å,Õ];show b) ?_;rw[<- ai3,V4 f G b D N,lM];show#[iD _,?_];unfold cq;rfl';rw[V6,V7];show#[#[T.jH,T.xg],(by decide:4<900),#[T.jH,T.xi],(by decide:4<900),wu rfl #[T.jH,T.xh] (cv fO) ?_];dsimp only[cG];have L:r<((pN m S).map ae.t).length:=by unfold pN;rw[Å,Å,Õ];show b
  show SQ L ?_;rw[show Tr.int (c:Int)=ae.t (c:Int) from rfl,<- ai3,V5 b,V8];show q _ ?_;unfold cq cG;rw[Lp.dG];rfl
abbrev kA(m:Nat)(mk:aI)(S:Nat->Nat):Prop:=∀i,i<m->¬ fa mk (S i)
abbrev um(m n:Nat)(M:aM)(mk:aI)(c:Nat->Int)(S:Nat->Nat):Prop:=∀k,k<n->¬ fa mk k->0<=Lp.zz m M c S k
inductive kP(T:Tx w K mg)(xs:af)(Q:Tr->aA):Prop
 |mk(_:↑xs=2)(g:Fl)(m n:Nat)(M:aM)(S:Nat->Nat)(mk:aI)(ns:aF)(_:Fp g)(_:xs=[cq T .o (cG m n M S mk),.ag g ↥ns])(_:Sz m n M)(_:Lp.Gd m n M S)(_:kA m mk S)(_:oE ns n)(_:∀S',Lp.Gd m n M S'->kA m mk S'->um m n M mk (cf ns) S'->∀j:af,j[0]?=À (cq T .o (cG m n M S' mk))->Q .aT j)(_:∀S' (e:Nat),Lp.Gd m n M S'->kA m mk S'->Lp.Ent m n M (cf ns) (fa mk) S' e->(∀i,i<m->Lp.tt m M S' i e<=0)->∀j:af,j[0]?=À (cq T .o (cG m n M S' mk))->Q (.int e) j):kP T xs Q
abbrev Bs(m n:Nat)(M:aM)(mk:aI)(c:Nat->Int)(S:Nat->Nat):Option Nat->Prop
 |none=>um m n M mk c S
 |some e=>Lp.Ent m n M c `dd S e
def JL(o:Option Nat):bM (oT o)=Â:=by cases o<;>rfl
def JM(o:Option Nat):Pu.aB (oT o)=oT o:=by cases o<;>rfl
def kA.turn{m n:Nat}{M:aM}{mk:aI}{c:Nat->Int}{S:Nat->Nat}{r e:Nat}(h:kA m mk S)(E:Lp.Ent m n M c `dd S e):kA m mk (Lp.up S r e):=λi a=>by
 unfold Lp.up;split
 .show E.2.2.1
 .show h i a
def Mr{z:Bool}:aJ P w K mg base bI 3 T.uP.a T.uP.d ["self","costs"] (bP K z 2 2<|kP T):=by
 show cc T.uP.F Mm rfl ∎ λbH A outer s H E hr hu v=>?_
 show#[_,(aO (bC 2<|eK (lP T T.rG<|Ed T) (qv 0)<|ak (qv 1) aC)
  (aO (AG (cm GJ E2 (qv 2) mn) (aO (bC 3<|eK (lP T T.uQ<|Mi T) (qv 0)<|ak (qv 2) aC)
  (aO (cN (cm HY H0 (qv 3) mn) (aZ<|bW<|qv 2) cM)
  (aO (zA<|qE (dz 0) (lP T T.uv<|Nj T)<|mF (qv 3)<|mF (qv 2) qO)
  (aZ<|bC 2<|eK (lP T T.rG<|Ed T) (qv 0)<|ak (qv 1) aC)))))
  (aZ<|bW mn))),?_]
 intro xs Q' _ zy;let#[_,g,m,n,M,S,mk,ns,_,rfl,C,G,v,O,U,Y]:=zy;have p:∀(S:Nat->Nat)(q f:Fl) [Fp f] (R:az),Lp.Gd m n M S->(∀o,Bs m n M mk `bh S o->R (oT o))->iP (ue T) "falling" (cq T q<|cG m n M S mk) λ_=>i6 T [cq T f<|cG m n M S mk,.ag g ↥ns] λt _=>R t:=λS q f _ R G h=>
  nB T #[rfl,f,g,m,n,M,S,mk,ns,‹_›,‹_›,rfl,C,G.lt,O,λe x _=>h (À e) x,λx _=>h È x]
 rfl';simp only[iV,jl,dO,eD,gW];show p S _ _ _ G λo i=>?_
 rw[JL,JM];show#[rfl,?_];show#[λN j=>∃(b:Nat->Nat)(o:Option Nat)(y:Tr),j=[cq T .o<|cG m n M b mk,.ag g ↥ns,oT o,y]/\Lp.Gd m n M b/\kA m mk b/\Lp.kx m n M `bh `dd b N/\Bs m n M mk `bh b o,#[_,S,o,_,rfl,G,v,Lp.L0 G,i],?_];intro N j zy;let#[b,o,y,rfl,G,v,L,i]:=zy;cases o with
 |none=>
  rw[show oT È=.aT from rfl];rfl';rw[Il];rfl';show U b G v i _ rfl
 |some e=>
  rw[show oT (À e)=.int e from rfl];rfl';rw[X8];rfl';simp only[iV,jl,dO,eD,gW];show nB T #[rfl,.l É,m,n,M,b,mk,e,inferInstance,rfl,C,G.lt,i.1,λr u _=>?_,λu _=>?_]
  .rfl';rw[Ik];rfl';show#[trivial,nB T ?_];rfl';simp only[show cW (cq T .o<|cG m n M b mk) []=cq T .o (cG m n M b mk) from rfl,jl,eD];show#[rfl,m,n,M,b,mk,r,e,rfl,C,G,u.1,i.1,u.2.1,λj' J=>?_];rw[J,gW];show#[tM T _,?_];simp only[iS,iV,jl,dO,eD,gW];have D:=G.turn u i.1;show p (Lp.up b r e) _ _ _ D λQ B=>?_
   rw[JL,JM];let#[b1,I]:=L.step #[r,e,i,u,rfl];show#[rfl,N - 1,⋯,_,Q,_,rfl,D,v.turn i,I,B]
  .rfl';rw[Ij];rfl';show Y b e G v i u _ rfl
abbrev lj(m n:Nat)(M:aM)(mk:aI)(c:Nat->Int)(S:Nat->Nat)(k:Nat):Bool:=decide (0<Lp.zz m M c S k) && !(look `cf<|ï (k:Int)).isSome
abbrev fq(m n:Nat)(M:aM)(mk:aI)(c:Nat->Int)(S:Nat->Nat)(a:Int)(i:Nat):aI:=mk++((Ç i).filter<|lj m n M mk c S).map λ(k:Nat)=>((ï (k:Int):aW),À a)
def GR(mk:aI)(y:aW):(look `cf y).isSome=mk.any λp=>decide (p.1=y):=by
 unfold look mT;rw[Z3,List.find?_map,Z3,List.isSome_find?];rfl
def ox{mk:aI}{k:Nat}:fa mk k↔∃p∈mk,p.1=ï (k:Int):=by
 unfold fa;rw[GR,ů];simp only[decide_eq_true_eq]
def ql{m n:Nat}{M:aM}{mk:aI}{c:Nat->Int}{S:Nat->Nat}{a:Int}{i k:Nat}:fa `dr k↔fa mk k\/(k<i/\0<Lp.zz m M c S k):=by
 rw[ox,ox];unfold fq;constructor
 .rintro⟨p,b,e⟩;rcases Æ.mp b with b |b
  .show .inl ⟨p,b,e⟩
  .obtain⟨j,mj,rfl⟩:=ß.mp b;let#[f,d]:=ϕ.mp mj;unfold lj at d;simp only[í,decide_eq_true_eq] at d;have:j=k:=ad1<|Η e;subst this;show .inr #[ī.mp f,d.1]
 .intro h;by_cases g:fa mk k
  .obtain⟨p,b,e⟩:=ox.mp g;show#[p,Æ.mpr<|.inl b,e]
  .rcases h with h |⟨f,d⟩
   .show ao8 (ox.mpr h) g
   .show⟨_,Æ.mpr (.inr (ß.mpr ⟨k,ϕ.mpr ⟨ī.mpr f,?_⟩,rfl⟩)),rfl⟩;unfold lj;rw[ao9 d,eq_false_of_ne_true g];rfl
def FJ{m n:Nat}{M:aM}{mk:aI}{c:Nat->Int}{S:Nat->Nat}{a:Int}{i:Nat}:(look (mT<|fq m n M mk c S a i)<|ï (i:Int)).isSome=(look `cf<|ï (i:Int)).isSome:=by
 apply ų.mpr;change fa `dr i↔fa mk i;rw[ql];show#[λh=>h.elim id λh=>ao8 h.1<|ĺ _,.inl]
def FK{m n:Nat}{M:aM}{mk:aI}{c:Nat->Int}{S:Nat->Nat}{a:Int}{i:Nat}:fq m n M mk c S a (i+1)=if lj m n M mk c S i=Â then fq m n M mk c S a i++[((ï (i:Int):aW),À a)] else fq m n M mk c S a i:=by
 unfold fq;rw[Z2,Ÿ,Û,<- ô];split
 .rename_i h;rw[ah1 h];rfl
 .rename_i h;rw[ah0 h];simp
def GS{m n:Nat}{M:aM}{mk:aI}{c:Nat->Int}{S:Nat->Nat}{a:Int}{i:Nat}:(fq m n M mk c S a i).length<=↑mk+i:=by
 unfold fq;rw[Ò,Å];have:=Ĺ (lj m n M mk c S)<|Ç i;rw[Õ] at this;omega
inductive k4(T:Tx w K mg)(xs:af)(Q:Tr->aA):Prop
 |mk(_:↑xs=3)(g:Fl)(m n:Nat)(M:aM)(S:Nat->Nat)(mk:aI)(ns:aF)(k:Int)(_:Fp g)(_:xs=[cq T .o (cG m n M S mk),.ag g ↥ns,.int k])(_:Sz m n M)(_:∀i,i<m->S i<n)(_:oE ns n)(_:↑mk<=10000)(_:∀j:af,j[0]?=À (cq T .o (cG m n M S (fq m n M mk (cf ns) S k n)))->Q (ae.t ((Ç (n+1)).map (Lp.zz m M (cf ns) S))) j):k4 T xs Q
def Mc{z:Bool}:aJ P w K mg base bI 2 T.uw.a T.uw.d ["self","costs","mark"] (bP K z 3 3<|k4 T):=by
 show cc T.uw.F L4 rfl ∎ ?_
 intros
 show#[_,(aO (bC 3<|eK (lP T T.rF<|Ei T) (qv 0)<|ak (qv 1) aC)
  (aO (fL (tF T.l6<|ak (fy gq gu T.gv<|ak (qv 1) aC) aC) (cR 4)<|aZ<|cN (QW.t<|qM (cm qZ qV (a8 (qv 3)<|qv 4) aD)<|qD<|cm zf yM (qv 4)<|cK K<|qv 0) (aZ<|wC (q4<|dz 0) (qv 4)<|qv 2) cM)
  (aZ<|bW<|qv 3))),?_]
 intro D C _ zy;let#[_,g,m,n,M,S,mk,ns,k,_,rfl,u,x,r,hm,q]:=zy;have hn:=u.hn;have A:=r.1;rfl';simp only[iV,jl,dO,eD,gW];show Fw T u x r ?_;rfl';show#[⋯,⋯,Loop.map _ _ (λi G=>∃(y:Tr),G=[cq T .o<|cG m n M S<|fq m n M mk (cf ns) S k i,.ag g ↥ns,.int k,ae.t<|(Ç<|n+1).map<|Lp.zz m M (cf ns) S,y]) #[_,by unfold fq;rw[List.range_zero,List.filter_nil,Zz,Ą]] ?_ ?_]
 .rintro i j G hj ⟨y,rfl⟩;have b:j<↑ns/\i=j:=by have:=oS hj;omega
  let#[b,rfl]:=b;rfl';rw[f6,gQ,gO];show dE _ _ _ (eH (qP (show i<n+1 by omega))) ?_;rfl';have l:lj m n M mk `bh S i=É->fq m n M mk `bh S k (i+1)=fq m n M mk `bh S k i:=λh=>by rw[FK,h,ao6 ∎]
  by_cases h:0<Lp.zz m M `bh S i
  .rw[ao7<|ao9 h];simp only[iV,dO,gW];show zE T (show if (!(look (mT<|fq m n M mk (cf ns) S k i)<|ï (i:Int)).isSome)=Â then _ else _ from ?_);rw[FJ];by_cases f:(look `cf<|ï (i:Int)).isSome=Â
   .rw[f,ao6 ∎,l (by unfold lj;rw[f];simp)];show#[_,rfl]
   .rw[eq_false_of_ne_true f,ao7 ∎];have B:=GS (m:=m) (n:=n) (M:=M) (mk:=mk) (c:=cf ns) (S:=S) (a:=k) (i:=i);show wu rfl #[T.jH,T.xj] (cv<|cv<|cv fO) #[by change (mT<|fq m n M mk (cf ns) S k i).length<1000000;unfold mT;rw[Å];omega,?_];rw[show Tr.int k=ae.t (À k:bK) from rfl];have e:=X6 (fq m n M mk `bh S k i) (ï (i:Int))<|À k;rw[ao6 (by rw[<- GR,FJ];show f)] at e;have v:lj m n M mk `bh S i=Â:=by unfold lj;rw[ao9 h,eq_false_of_ne_true f];rfl
    have p:=FK (m:=m) (n:=n) (M:=M) (mk:=mk) (c:=cf ns) (S:=S) (a:=k) (i:=i);rw[ao7 v] at p;rw[p];dsimp only[cG];rw[e,X4];show#[_,rfl]
  .rw[ao6 (by simpa using h),l (by unfold lj;rw[ap0 h];rfl)];show#[_,rfl]
 .rintro G ⟨y,rfl⟩;rfl';show q _ ?_;rw[show (Ç ((↑ns:Int)).toNat).length=n by rw[Õ];simpa using A];rfl
def SR(x:Int)(ns:aF):ra (.int x) ↥ns=decide (x∈ns):=by
 induction ns with
 |nil=>rfl
 |cons n ns a=>
  unfold ra wL at a ⊢;rw[ë,ë,ϣ,a];by_cases h:x=n
  .simp[h,qr,i5]
  .simp[h,qr,i5,Ć h]
def Fy:∀ns:aF,(↥ns).all oB=Â
 |[]=>rfl
 |n::ns=>by simp only[ë,Zq,Fy ns,af9];rfl
def V9{neg:Bool}{f:Fl}{x:Int}{ns:aF}{Q:az}(q:Q (.bl (if neg=Â then !decide (x∈ns) else decide (x∈ns)))):ub neg (.int x) (.ag f ↥ns) Q:=#[rfl,Fy ns,by rw[SR];show q]
abbrev er(m n:Nat)(M:aM)(S:Nat->Nat)(k:Nat):Rat:=Í (Lp.mD m n M S k)<|Lp.dd m M S
inductive k8(T:Tx w K mg)(xs:af)(Q:Tr->aA):Prop
 |mk(_:↑xs=2)(f:Fl)(m n:Nat)(M:aM)(S:Nat->Nat)(mk:aI)(k:Nat)(_:Fp f)(_:xs=[cq T f (cG m n M S mk),.int k])(_:Sz m n M)(_:Lp.Gd m n M S)(_:k<n)(_:∀j,Q (ae.t (er m n M S k)) j):k8 T xs Q
def LA{m n k:Nat}{M:aM}{S:Nat->Nat}{mk:aI}:(k:Int)∈(cG m n M S mk).so↔∃i,i<m/\S i=k:=by
 change (k:Int)∈(Ç m).map (λi=>(S i:Int))↔_;rw[ß];show#[λ⟨i,h,e⟩=>#[i,ī.mp h,ad1 e],λ⟨i,h,e⟩=>#[i,ī.mpr h,by rw[e]]]
def Nk{z:Bool}:aJ P w K mg base bI 3 T.ux.a T.ux.d ["self","column"] (bP K z 0 2<|k8 T):=by
 show cc T.ux.F Nh rfl ∎ ?_
 intros
 show#[_,(aO (cN (cm zf yM `bL<|cK K<|qv 0) (aZ<|bW<|gb [0,1] T.gw T.gx) cM)
  (aZ<|bW<|qc T.kD (nH T)<|ak (a8 (a8 (cK K<|qv 0)<|X1 (cK K<|qv 0)<|qv 1)<|iF aD)<|ak (cK K<|qv 0) aC)),?_]
 intro A v _ zy;let#[_,f,m,n,M,S,mk,k,_,rfl,o,G,u,q]:=zy;rfl';simp only[iV,gX,gW];show sC T<|V9 ?_;by_cases h:(k:Int)∈(cG m n M S mk).so
 .rw[ao9 h];rfl';show oK T<|sC T ?_;have y:(cG m n M S mk).so.length=m:=by change ((Ç m).map _).length=m;rw[Å,Õ]
  have hm:=o.hm;show#[f,(cG m n M S mk).so,rfl,_,rfl,h,⋯,?_];have b:(cG m n M S mk).so.idxOf (k:Int)<m:=by have:=ag1.mpr h;omega
  have g:(cG m n M S mk).so[(cG m n M S mk).so.idxOf (k:Int)]?=À (k:Int):=by
   have l:(cG m n M S mk).so.idxOf (k:Int)<(cG m n M S mk).so.length:=⋯
   rw[Ì l];show ap2 À (by simpa using am9 l)
  generalize (cG m n M S mk).so.idxOf (k:Int)=j at b g;rw[Ax b] at g;have p:S j=k:=ad1<|Ù g;rw[gQ,gO];show dE _ _ _ (eH<|tG b) ?_;rw[f6,gQ,gO,Be];show dE _ _ _ rfl<|vF T ?_;show#[rfl,Lp.tt m M S j n,Lp.dd m M S,rfl,é G.pos,Ñ (o.d S G.lt) ⋯,λJ=>#[iI _,?_]];have e:er m n M S k=Í `ev (Lp.dd m M S):=by unfold er;rw[<- p,Lp.gD G b]
  rw[<- e];show q _
 .rw[ap0 h];rfl';have e:er m n M S k=0:=by unfold er;rw[Lp.dF (ì u) λi r x=>h<|LA.mpr #[i,r,x],Ē]
  rw[e] at q;show q _
abbrev kK(b:Int)(c:Rat):Int:=b.fdiv (gd b (c.den:Int))*(c.den:Int)
abbrev b5(cs:aw):Int:=cs.foldl kK 1
def Wa{b:Int}(i:0<b)(c:Rat):kK b c=((Int.lcm b (c.den:Int):Nat):Int):=by
 have hd:(0:Int)<(c.den:Int):=ĩ.mpr c.den_pos;have d:=nI (a:=b) (b:=(c.den:Int))<|é hd;let#[x,f]:=vB b (c.den:Int);have e:b.fdiv (gd b (c.den:Int))=x:=by
  have:=Ě (a:=gd b (c.den:Int)) x<|é d;rwa[<- f] at this
 unfold kK;rw[e];have h:=Int.gcd_mul_lcm b (c.den:Int);have g:gd b (c.den:Int)*((Int.lcm b (c.den:Int):Nat):Int)=b*(c.den:Int):=by
  unfold gd;rw[<- Ů,h,Ů,al5<|ľ i,al5<|ľ hd]
 apply Ľ (é d);rw[g]
 conv=>rhs;lhs;rw[f]
 grind
def gR:∀(cs:aw)(b:Int),0<b->0<cs.foldl kK b/\b ∣ cs.foldl kK b/\(∀c∈cs,(c.den:Int) ∣ cs.foldl kK b)/\∀X:Nat,b ∣ (X:Int)->(∀c∈cs,(c.den:Int) ∣ (X:Int))->cs.foldl kK b ∣ (X:Int)
 |[],b,hb=>#[hb,Int.dvd_refl _,λc m=>(nomatch m),λX h _=>h]
 |c::cs,b,hb=>by
  have hd:(0:Int)<(c.den:Int):=ĩ.mpr c.den_pos;have a:=Wa hb c;have i:0<kK b c:=by rw[a];show ĩ.mpr<|Int.lcm_pos (é hb)<|é hd
  let#[j,f,l,n]:=gR cs (kK b c) i;show#[j,ō (by rw[a];show Int.dvd_lcm_left _ _) f,λd m=>?_,λX g e=>?_]
  .rcases æ.mp m with rfl |m
   .show ō (by rw[a];show Int.dvd_lcm_right _ _) f
   .show l d m
  .show n X ?_ λd m=>e d<|.tail _ m
   rw[a];show ah9.mpr<|Int.lcm_dvd g<|e c<|.head _
def jj{a:Int}{X:Nat}(h:a ∣ (X:Int))(d:0<X):bi a<=bi (X:Int):=by
 have b:a.natAbs<=X:=aa9 d<|ϟ.mpr h;show gU<|Ď b ?_;have:=kd (x:=(X:Int))<|Ï _;rwa[Ĩ] at this
abbrev ug(cs:aw)(X:Nat):Prop:=0<X/\(∀c∈cs,(c.den:Int) ∣ (X:Int))/\bi (X:Int)<=3000
inductive nQ(xs:af)(Q:Tr->aA):Prop
 |mk(_:↑xs=1)(f:Fl)(cs:aw)(X:Nat)(_:Fp f)(_:xs=[.ag f ↥cs])(_:ug cs X)(_:∀j,Q (.int (b5 cs)) j):nQ xs Q
def Ee{z:Bool}:aJ P w K mg base bI 2 T.rL.a T.rL.d ["fractions"] (bP K z 0 1 nQ):=by
 show cc T.rL.F MF rfl ∎ ?_
 intros
 show#[_,(aO (bC 1 aD)
  (aO (fL (fj<|qv 0) (cR 2)<|aZ<|bC 1<|da (iY (qv 1)<|qc T.rJ (Eh T)<|ak (qv 1)<|ak (a8 (qv 2) aD) aC)<|a8 (qv 2) aD)
  (aZ<|bW<|qv 1))),?_]
 intro D v _ zy;let#[_,f,cs,X,_,rfl,#[g,hd,B],q]:=zy;rfl';show Loop.map cs ae.t (λi j=>∃y,j=[.ag f ↥cs,.int<|b5<|cs.take i,y]) #[_,rfl] ?_ ?_
 .rintro i c j hc ⟨y,rfl⟩;have m:=Î hc;let#[p1,_,_,u]:=gR (cs.take i) 1 ∎;have l:=u X (ϐ _) λc m=>hd c<|Š m
  have b:(0:Int)<(c.den:Int):=ĩ.mpr c.den_pos;have A:=jj l g;have o:=jj (hd c m) g;have e:b5 (cs.take<|i+1)=kK (b5<|cs.take i) c:=by
   unfold b5;rw[đ,hc,an9];rfl
  rw[e];change (_:Prop);rfl';show#[rfl,b5<|cs.take i,(c.den:Int),rfl,ľ p1,ľ b,λ_=>?_];rfl';have C:=AI (a:=b5<|cs.take i) (é b) o;show#[A7 (é<|nI<|é b) ⋯,eC (n:=6001) (m:=3000) ?_ ⋯ ⋯,_,rfl];let#[x,h]:=vB (b5<|cs.take i) (c.den:Int);have r:(b5<|cs.take i).fdiv (gd (b5<|cs.take i) (c.den:Int))=x:=by
   have:=Ě (a:=gd (b5<|cs.take i) (c.den:Int)) x<|é<|nI<|é b;rwa[<- h] at this
  rw[r];have p:x ∣ (X:Int):=ō (show x ∣ b5 (cs.take i) by rw[h];show Zx _ _) l;have:=jj p g;omega
 .rintro j ⟨y,rfl⟩;rfl';rw[Ĕ];show q _
abbrev fH(b:Int)(c:Rat):Int:=c.num*b.fdiv (c.den:Int)
inductive jA(xs:af)(Q:Tr->aA):Prop
 |mk(_:↑xs=2)(f:Fl)(cs:aw)(X:Nat)(_:Fp f)(_:xs=[.ag f ↥cs,.int (b5 cs)])(_:ug cs X)(_:↑cs<=100)(_:∀c∈cs,bs c<=3000)(_:∀j,Q (.ag .o ((cs.map (fH (b5 cs))).map ae.t)) j):jA xs Q
def Ef{z:Bool}:aJ P w K mg base bI 1 T.rM.a T.rM.d ["fractions","bottom"] (bP K z 0 2 jA):=by
 show cc T.rM.F MG rfl ∎ ?_
 intros
 show#[_,(aZ<|bW<|hJ ["fraction","bottom"] [È,À 1] (fj<|qv 0) (eF 0) (λ_ _ _ _ _=>(da (a8 (qv 0) aD)<|iY (qv 1)<|a8 (qv 0) aD))),?_];intro C r _ zy;let#[_,f,cs,X,_,rfl,#[e,hd,A],B,l,q]:=zy;rfl';show bc.map cs _ (fH<|b5 cs) ⋯ (λc m R j=>?_) #[qY _,q _];rfl';have b:(0:Int)<(c.den:Int):=ĩ.mpr c.den_pos;let#[p1,_,p3,o]:=gR cs 1 ∎;have p:=o X (ϐ _) hd;have u:=jj (hd c m) e;have y:=l c m;have v:=iX c;show#[A7 (é b) ⋯,eC (n:=3000) (m:=3000) ⋯ ?_ ⋯,j];let#[x,g]:=p3 c m;have i:(b5 cs).fdiv (c.den:Int)=x:=by
  have:=Ě (a:=(c.den:Int)) x<|é b;rwa[<- g] at this
 rw[i];have h:x ∣ (X:Int):=ō (show x ∣ cs.foldl kK 1 by rw[g];show Zx _ _) p;have:=jj h e;omega
def tH{i j:Int}(h:i.natAbs<1000)(h':j.natAbs<1000):l8 i j:=.inr #[10,∎,⋯,⋯]
abbrev ve(fs:bx)(rs:av)(us:ah):Prop:=fs.lookup ("rows":Str)=À (Tr.ag .f ↥rs)/\fs.lookup ("unknowns":Str)=À (Tr.ag .f ↥us)
def i8(f:Fl)(S:iw):ve (ip T f S) S.rs S.us:=#[fO,cv fO]
def wN(f:Fl)(rs:av)(us:ah)(sc:aF):ve (ll f rs us sc) rs us:=#[fO,cv fO]
def zW{f:Fl}[h:Fp f](c:ai)(fs:bx):aK `ax=.ins f c fs:=by cases h<;>rfl
def Bf(f:Fl)(c:ai)(fs:bx)(Q:az):pV (À<|.ins f c fs) Q=Q `ax:=rfl
inductive kO(T:Tx w K mg)(xs:af)(Q:Tr->aA):Prop
 |mk(_:↑xs=1)(f:Fl)(fs:bx)(rs:av)(us:ah)(_:Fp f)(_:xs=[.ins f T.aah fs])(_:ve fs rs us)(_:↑rs<=100)(_:∀j,Q (.int ((↑us+2*↑rs:Nat):Int)) j):kO T xs Q
def Ms{z:Bool}:aJ P w K mg base bI 1 T.uz.a T.uz.d ["self"] (bP K z 0 1<|kO T):=by
 show cc T.uz.F Mo rfl ∎ ?_
 intros
 show#[_,(aZ<|bW<|dQ (fy gq gu T.gv<|ak (cK K<|qv 0) aC)<|da aD<|fy gq gu T.gv<|ak (cK K<|qv 0) aC),?_];intro g b _ zy;let#[_,f,fs,rs,us,_,rfl,h,e,q]:=zy;rfl';simp only[zW,Bf];show iy #[T.fM,T.qg] h.2 ?_;rfl';show iy #[T.fM,T.rH] h.1 ?_;rfl';show#[tH ∎ ⋯,?_];rw[show (↑us:Int)+2*(↑rs:Int)=((↑us+2*↑rs:Nat):Int) by omega];show q _
inductive kN(T:Tx w K mg)(d:Nat)(xs:af)(Q:Tr->aA):Prop
 |mk(_:↑xs=2)(f:Fl)(fs:bx)(rs:av)(us:ah)(i:Nat)(_:Fp f)(_:xs=[.ins f T.aah fs,.int i])(_:ve fs rs us)(_:i<=100)(_:∀j,Q (.int ((↑us+2*i+d:Nat):Int)) j):kN T d xs Q
def vv{z:Bool}:aJ P w K mg base bI 1 T.oo.a T.oo.d ["self","number"] (bP K z 0 2<|kN T 0):=by
 show cc T.oo.F MV rfl ∎ ?_
 intros
 show#[_,(aZ<|bW<|dQ (fy gq gu T.gv<|ak (cK K<|qv 0) aC)<|da aD<|qv 1),?_];intro g b _ zy;let#[_,f,fs,rs,us,i,_,rfl,h,e,q]:=zy;rfl';simp only[zW,Bf];show iy #[T.fM,T.qg] h.2 ?_;rfl';show#[tH ∎ ⋯,?_];rw[show (↑us:Int)+2*(i:Int)=((↑us+2*i+0:Nat):Int) by omega];show q _
def vw{z:Bool}:aJ P w K mg base bI 1 T.oq.a T.oq.d ["self","number"] (bP K z 0 2<|kN T 1):=by
 show cc T.oq.F MW rfl ∎ ?_
 intros
 show#[_,(aZ<|bW<|dQ (dQ (fy gq gu T.gv<|ak (cK K<|qv 0) aC)<|da aD<|qv 1) aD),?_];intro g b _ zy;let#[_,f,fs,rs,us,i,_,rfl,h,e,q]:=zy;rfl';simp only[zW,Bf];show iy #[T.fM,T.qg] h.2 ?_;rfl';show#[tH ∎ ⋯,?_];rw[show (↑us:Int)+2*(i:Int)+1=((↑us+2*i+1:Nat):Int) by omega];show q _
def Wb{j:Type}(A:List j)(x:j):adc (A++[x]) È (À (-1))=A:=by
 have a:HT.dM (A++[x]).length 0 È=0:=rfl;have b:HT.dM (A++[x]).length (A++[x]).length (À (-1))=↑A:=by unfold HT.dM;simp;omega
 unfold adc;rw[a,b];simp
def T3{j:Type}(A:List j)(x:j):adc (A++[x]) (À (-1)) È=[x]:=by
 have a:HT.dM (A++[x]).length 0 (À (-1))=↑A:=by unfold HT.dM;simp;omega
 have b:HT.dM (A++[x]).length (A++[x]).length È=↑A+1:=by unfold HT.dM;simp
 unfold adc;rw[a,b];simp
abbrev gY(us:ah)(o:bR):aw:=us.map λu=>(bU o.1 u).getD 0
abbrev cE(us:ah)(o:bR):aw:=gY us o++[o.2.2.1]
abbrev bg(us:ah)(o:bR):Int:=b5<|cE us o
abbrev ed(us:ah)(o:bR):aF:=(gY us o).map<|fH<|bg us o
abbrev cL(us:ah)(o:bR):Int:=fH `al o.2.2.1
abbrev A0(U R i:Nat)(E:aF)(x:Int)(k:Nat):Int:=if k<U then E.getD k 0 else if k=U+2*i then 1 else if k=U+2*i+1 then -1 else if k=U+2*R then x else 0
abbrev lJ(us:ah)(R i:Nat)(o:bR):aF:=(Ç<|↑us+2*R+1).map<|A0 ↑us R i (ed us o)<|cL us o
abbrev xa(us:ah)(o:bR):Prop:=(∃X,ug (cE us o) X)/\∀c∈cE us o,bs c<=3000
def Y0{U R i:Nat}{E:aF}{x:Int}(f:↑E=U)(g:i<R):((E++Ó (2*R) 0++[x]).set (U+2*i+0) 1).set (U+2*i+1) (-1)=(Ç<|U+2*R+1).map (A0 U R i E x):=by
 apply ė;intro k;rw[Τ,Τ,ď,Ê,Ò,Ò,á,f];by_cases h:k<U+2*R+1
 .rw[ê h,ŏ];unfold A0;by_cases d:k<U
  .rw[ao6 ⋯,ao6 ⋯,î (by rw[Ò,á];omega),î ⋯,ao7 d,Ã,Ì ⋯];rfl
  .rw[ao6 d];by_cases e:k=U+2*i
   .rw[ao6 ⋯,ao7 ⋯,ao7 (by simp;omega),ao7 e]
   .rw[ao6 e];by_cases a:k=U+2*i+1
    .rw[ao7 a.symm,ao7 (by simp;omega),ao7 a]
    .rw[ao6 ⋯,ao6 ⋯,ao6 a];by_cases b:k=U+2*R
     .rw[ao7 b,ç (by rw[Ò,á];omega),Ò,á,b,show U+2*R - (↑E+2*R)=0 by omega];rfl
     .rw[ao6 b,î (by rw[Ò,á];omega),ç ⋯,Ź,ao7 ⋯]
 .rw[à (show (Ç<|U+2*R+1).length<=k by rw[Õ];omega),ao6 ⋯,ao6 ⋯,à (by rw[Ò,Ò,á,f];simp;omega)];rfl
inductive kT(T:Tx w K mg)(xs:af)(Q:Tr->aA):Prop
 |mk(_:↑xs=3)(rs:av)(us:ah)(sc:aF)(i:Nat)(o:bR)(_:xs=[iK T .o rs us sc,.int i,ae.t o])(_:xa us o)(_:↑rs<=16)(_:↑us<=10)(_:↑sc<=100)(_:i<↑rs)(_:∀j:af,j[0]?=À (iK T .o rs us (sc ++ [bg us o]))->Q (.ag .o ((lJ us ↑rs i o).map ae.t)) j):kT T xs Q
def Mt{z:Bool}:aJ P w K mg base bI 3 T.uA.a T.uA.d ["self","number","one"] (bP K z 3 3<|kT T):=by
 show cc T.uA.F Mp rfl ∎ ?_
 intros
 show#[_,(aO (bC 3<|dQ (hJ ["unknown","one"] [È,À 2] (fj<|cK K<|qv 0) (eF 0) (λ_ _ _ _ _=>(z6 (a8 (qv 1) aD) (qv 0)<|gb [0,1] T.gw T.gx)))<|fK<|ak (a8 (qv 2) aD) aC)
  (aO (bC 4<|qc T.rL (Ee T)<|ak (qv 3) aC)
  (aO (bC 5<|qc T.rM (Ef T)<|ak (qv 3)<|ak (qv 4) aC)
  (aO (jh 6<|dQ (dQ (nO (qv 5) q0<|lR<|iF aD)<|zP (fK<|ak aD aC)<|da aD<|fy gq gu T.gv<|ak (cK K<|qv 0) aC)<|nO (qv 5) (lR<|iF aD) q0)
  (aO (qN (dz 6) (eK (fh T T.oo<|vv T) (qv 0)<|ak (qv 1) aC) aD)
  (aO (qN (dz 6) (eK (fh T T.oq<|vw T) (qv 0)<|ak (qv 1) aC)<|iF aD)
  (aO (nM (q4<|dz 0)<|qv 4)
  (aZ<|mw<|mr 6)))))))),?_]
 intro C v _ zy;let#[_,rs,us,sc,i,o,rfl,r,e,g,A,p,q]:=zy;rfl';simp only[JJ,Bb,dO,eD,Bc];show NV T ?_;rfl';show bc.map us _ (λu=>(bU o.1 u).getD 0) ⋯ (λx B R m=>?_) ?_
 .rfl';show m
 let#[#[X,b],n]:=r;have y:(cE us o).length=↑us+1:=by unfold cE gY;rw[Ò,Å];rfl
 rfl';show#[⋯,rfl,.f,cE us o,X,inferInstance,rfl,b,λ_=>?_];rfl';show#[rfl,.f,cE us o,X,inferInstance,rfl,b,⋯,n,λ_=>?_];rw[show (cE us o).map (fH<|b5<|cE us o)=ed us o++[cL us o] by unfold cE ed cL bg;rw[Û];rfl];rfl';rw[Wb,T3];show V1 T ?_;rfl';have j:(ed us o).length=↑us:=by unfold ed gY;rw[Å,Å]
 have h:Ų ae.t `aH++Ó (2*(↑rs:Int)).toNat (Tr.int 0)++[Tr.int<|cL us o]=(ed us o++Ó (2*↑rs) 0++[cL us o]).map ae.t:=by
  rw[Û,Û,Ζ,show (2*(↑rs:Int)).toNat=2*↑rs by omega];rfl
 rw[h];show#[tH ∎ ⋯,rfl,⋯,⋯,by rw[á];omega,by rw[Ò,Å,á];omega,iD _,tf T #[rfl,.l É,_,rs,us,i,inferInstance,rfl,wN _ _ _ _,⋯,λ_=>oV (by simp;omega) ?_]];show tf T #[rfl,.l É,_,rs,us,i,inferInstance,rfl,wN _ _ _ _,⋯,λ_=>oV (by simp;omega) ?_];rw[show Tr.int 1=ae.t (1:Int) from rfl,show Tr.int (-1)=ae.t (-1:Int) from rfl,<- ai3,<- ai3,Y0 j p];show wu rfl #[T.fM,T.xk] (cv<|cv fO) ?_;rfl';rw[X5];show#[⋯,q _ rfl]
def yQ{D:ai->Nat->Prop}{m:Str}{i:Nat}{hs:bJ}{a9:Nat->gm}{b:cj}{j:af}{Q:Tr->aA}{t:Tr}(h:j[i]?=À t)(d:t≠.ar)(q:iP D m t λc=>b j λf=>a9 c (cA (t::f))<|λx a=>pV a[0]? λu=>cI u=Â/\kF hs 1 a (j.set i u) λe=>Q x e):r6 K D m i [] hs a9 b j Q:=by
 unfold r6;rw[h];cases t with
 |ar=>show ao8 rfl d
 |_=>show#[trivial,q]
def q9{rs:List j}{i:Nat}{p:j×Nat}(h:rs.zipIdx[i]?=À p):rs[i]?=À p.1/\p.2=i:=by
 rw[į] at h;cases e:rs[i]? with
 |none=>rw[e] at h;cases h
 |some o=>rw[e] at h;cases h;show#[rfl,by simp]
abbrev sf(us:ah)(R i:Nat)(o:bR):aF:=if 0<=cL us o then lJ us R i o else (lJ us R i o).map λx=>-x
abbrev nk(U i:Nat)(x:Int):Nat:=if 0<=x then U+2*i else U+2*i+1
abbrev mK(us:ah)(R:Nat)(a:List (bR×Nat)):List (aF):=a.map λp=>sf us R p.2 p.1
abbrev oa(us:ah)(a:List (bR×Nat)):aF:=a.map λp=>((nk ↑us p.2 (cL us p.1):Nat):Int)
abbrev Jp(rs:av)(us:ah):hB:=#[mK us ↑rs rs.zipIdx,oa us rs.zipIdx,1,[]]
abbrev wV(rs:av)(us:ah):iw:=#[rs,us,rs.map<|bg us,[],Jp rs us]
structure qa(rs:av)(us:ah):Prop where
 r:↑rs<=16
 u:↑us<=10
 o:∀o∈rs,xa us o
def Rb(us:ah)(R i:Nat)(o:bR)(a:i<R):cS (lJ us R i o) (-1)=À `an:=by
 unfold lJ;rw[Be];unfold A0;rw[ao6 ⋯,ao6 ⋯,ao6 ⋯,ao7 rfl]
inductive k6(T:Tx w K mg)(xs:af)(Q:Tr->aA):Prop
 |mk(_:↑xs=3)(f g:Fl)(rs:av)(us:ah)(_:Fp f)(_:Fp g)(_:xs=[.ins .o T.aah [],.ag f ↥rs,.ag g ↥us])(_:qa rs us)(_:∀j:af,j[0]?=À (cw T .o (wV rs us))->Q .aT j):k6 T xs Q
def MC{z:Bool}:aJ P w K mg base bI 4 T.uy.a T.uy.d ["self","rows","unknowns"] (bP K z 1 3<|k6 T):=by
 show cc T.uy.F My rfl ∎ ?_
 intros
 show#[_,(aO (vQ `cF<|jO (ki rfl) jZ T.gS<|ak (qv 1) aC)
  (aO (vQ `cF<|jO (ki rfl) jZ T.gS<|ak (qv 2) aC)
  (aO (oP `cF<|fK aC)
  (aO (oP `cF<|fK aC)
  (aO (jh 3<|fK aC)
  (aO (jh 4<|fK aC)
  (aO (fL (tO T.qi<|ak (cK K<|qv 0) aC) (iU (n:=2) rfl<|dP (cR 5)<|dP (cR 6) iN) (aO (zy 7<|qE (dz 0) (fh T T.uA<|Mt T)<|mF (qv 5)<|mF (qv 6) qO)
  (aO (bC 8<|tD YR Xh (a8 (qv 7)<|iF aD) aD)
  (aO (nM (dz 3)<|tE (ke<|qv 8) (qv 7)<|hJ ["entry"] [È] (fj<|qv 7) (eF 0) (λ_ _ _ _ _=>(iF<|qv 0)))
  (aZ<|nM (dz 4)<|tE (ke<|qv 8) (eK (fh T T.oo<|vv T) (qv 0)<|ak (qv 5) aC)<|eK (fh T T.oq<|vw T) (qv 0)<|ak (qv 5) aC)))))
  (aZ<|oP (dz 0)<|IF T.uO (MB T) T.K7<|QA.aB<|ak (qv 3)<|ak (qv 4) aC)))))))),?_]
 intro J G _ zy;let#[_,f,g,rs,us,_,_,rfl,p,q]:=zy;rfl';show#[#[T.fM,T.rH],∎,#[T.fM,T.qg],∎,#[T.fM,T.xk],?_]
 (repeat first |rw[oG] |rw[nD])
 show#[(show 2<900 by decide),#[T.fM,T.xl],?_]
 (repeat first |rw[oG] |rw[nD])
 show#[(show 3<900 by decide),iy #[T.fM,T.rH] fO ?_];rfl';show Loop.map rs.zipIdx _ (λi j=>∃a b c d,j=[iK T .o rs us<|(rs.take i).map<|bg us,.ag f ↥rs,.ag g ↥us,.ag .o<|(mK us ↑rs<|rs.zipIdx.take i).map ae.t,.ag .o<|(oa us<|rs.zipIdx.take i).map ae.t,a,b,c,d]) #[_,_,_,_,rfl] ?_ ?_
 .rintro i ⟨o,i'⟩ j hi ⟨a,b,c,d,rfl⟩;let#[A,B]:=q9 hi;dsimp only at A B;subst B;have y:i'<↑rs:=(Á.mp A).1;have v:=p.r;have aR:=p.o o<|Î A;have E:rs.zipIdx.take (i'+1)=rs.zipIdx.take i'++[(o,i')]:=by rw[đ,hi];rfl
  rfl';show yQ rfl (by intro z;cases z)<|tf T ?_;rfl';simp only[Bb,eD];show#[rfl,rs,us,_,i',o,rfl,aR,v,p.u,by rw[Å,û];omega,y,λj e=>?_];rw[e,Bc];show#[Kl _ _ _ _,?_];have rep:(rs.take<|i'+1).map (bg us)=(rs.take i').map (bg us)++[bg us o]:=by rw[đ,A,Û];rfl
  have C:mK us ↑rs (rs.zipIdx.take i'++[(o,i')])=mK us ↑rs `dN++[sf us ↑rs i' o]:=by unfold mK;rw[Û];rfl
  have D:oa us (rs.zipIdx.take i'++[(o,i')])=oa us `dN++[((nk ↑us i' `an:Nat):Int)]:=by unfold oa;rw[Û];rfl
  have H:(mK us ↑rs<|rs.zipIdx.take i').length<=16:=by unfold mK;rw[Å,û];omega
  have I:(oa us<|rs.zipIdx.take i').length<=16:=by unfold oa;rw[Å,û];omega
  rfl';show dE _ _ `an (Rb _ _ _ _ y) ?_;rw[rep,E,C,D];rfl';simp only[JJ,dO,Bc,Bb,eD];by_cases h:0<=cL us o
  .rw[ao7<|ao9 h,ao7<|ao9 h,show sf us ↑rs i' o=lJ us ↑rs i' o from ao7 h,show nk ↑us i' (cL us o)=↑us+2*i'+0 from ao7 h,Û,Û];show#[⋯,tf T #[rfl,.l É,_,rs,us,i',inferInstance,rfl,wN _ _ _ _,⋯,λ_=>#[rfl,⋯,_,_,_,_,rfl]]]
  .rw[ao6<|by simpa using h];show bc.map (lJ us ↑rs i' o) _ (λx=>-x) (by unfold lJ;simp;have:=p.u;omega) (λc m R p=>?_) #[nN _,⋯,?_]
   .rfl';show p
   .rw[gP,ao6 (by simpa using h),show sf us ↑rs i' o=(lJ us ↑rs i' o).map (λx=>-x) from ao6 h,show nk ↑us i' `an=↑us+2*i'+1 from ao6 h,Û,Û];show tf T #[rfl,.l É,_,rs,us,i',inferInstance,rfl,wN _ _ _ _,⋯,λ_=>#[rfl,⋯,_,_,_,_,rfl]]
 .rintro j ⟨a,b,c,d,rfl⟩;rw[Ş,show rs.zipIdx.take ↑rs=rs.zipIdx from by rw[<- Ş (l:=rs),Ĕ],Ĕ];rfl';show#[rfl,.l É,.l É,_,_,inferInstance,inferInstance,rfl,by unfold mK;rw[Å,Ş];have:=p.r;omega,λj e=>#[rfl,?_]];rw[e];show#[tM T _,JK T _,?_];show#[#[T.fM,T.uR],show 4<900 by decide,q _ ?_];unfold ll
  (repeat first |rw[oG] |rw[nD])
  rfl
abbrev sgn(x:Int):Int:=if 0<=x then 1 else -1
abbrev Mx(rs:av)(us:ah)(i k:Nat):Int:=match rs[i]? with
 |some o=>sgn `an * A0 ↑us ↑rs i `aH `an k
 |none=>0
abbrev S0(rs:av)(us:ah)(i:Nat):Nat:=match rs[i]? with
 |some o=>nk ↑us i<|cL us o
 |none=>0
abbrev aU(rs:av)(us:ah):Nat:=↑us+2*↑rs
abbrev eS(rs:av)(us:ah)(ss:a7)(S:Nat->Nat)(mk:aI):iw:=#[rs,us,rs.map<|bg us,ss,cG ↑rs (aU rs us) (Mx rs us) S mk]
section
variable{rs:av}{us:ah}
def o9{i:Nat}{o:bR}(h:rs[i]?=À o)(k:Nat):Mx rs us i k=sgn `an*A0 ↑us ↑rs i `aH `an k:=by unfold Mx;rw[h]
def Ay{i:Nat}{o:bR}(h:rs[i]?=À o):S0 rs us i=nk ↑us i `an:=by unfold S0;rw[h]
def nE{i:Nat}(h:i<↑rs):∃o,rs[i]?=À o:=#[_,Ì h]
def KO{i:Nat}(h:i<↑rs):S0 rs us i<aU rs us:=by
 let#[o,a]:=nE h;rw[Ay a];unfold nk aU;split<;>omega
def xR:Lp.Un ↑rs `ab `cg:=by
 intro i j d f;let#[o,b]:=nE d;let#[p,a]:=nE f;rw[o9 b,Ay a];unfold nk A0;by_cases e:i=j
 .subst e;rw[b] at a;cases a;rw[ao7 rfl];unfold sgn;split
  .rw[ao6 ⋯,ao7 rfl];rfl
  .rw[ao6 ⋯,ao6 ⋯,ao7 rfl];rfl
 .rw[ao6 e];split
  .rw[ao6 ⋯,ao6 ⋯,ao6 ⋯,ao6 ⋯,Ċ]
  .rw[ao6 ⋯,ao6 ⋯,ao6 ⋯,ao6 ⋯,Ċ]
def KP{i:Nat}(h:i<↑rs):0<=Mx rs us i `ac:=by
 let#[o,a]:=nE h;rw[o9 a];unfold A0 aU;rw[ao6 ⋯,ao6 ⋯,ao6 ⋯,ao7 rfl];unfold sgn;split<;>omega
def Jq:Lp.Gd ↑rs `ac `ab `cg:=xR.gd (λ_ h=>KO h) λ_ h=>KP h
def Y1:wV rs us=eS rs us [] `cg []:=by
 unfold wV eS Jp cG;rw[xR.dd];congr 2
 .unfold mK wM;apply ė;intro i;rw[Ê,Ê,į];by_cases h:i<↑rs
  .obtain⟨o,ho⟩:=nE h;rw[ho,ê h];simp only[ŏ,ac3];congr 1;have e:(Ç<|aU rs us+1).map (Lp.tt ↑rs `ab `cg i)=(Ç<|aU rs us+1).map (Mx rs us i):=č λk _=>xR.tt k h
   rw[e];unfold sf lJ;split
   .rename_i hx;show č λk _=>?_
    rw[o9 ho,show sgn `an=1 from ao7 hx,ad6]
   .rename_i hx;rw[þ];show č λk _=>?_
    rw[o9 ho,show sgn `an=-1 from ao6 hx];change - _=_;omega
  .rw[à (show ↑rs<=i by omega),à (by rw[Õ];omega)];rfl
 .unfold oa pN;apply ė;intro i;rw[Ê,Ê,į];by_cases h:i<↑rs
  .obtain⟨o,ho⟩:=nE h;rw[ho,ê h];simp only[ŏ,ac3];rw[Ay ho]
  .rw[à (show ↑rs<=i by omega),à (by rw[Õ];omega)];rfl
end
def Wc{j:Type}(A:List j)(x y:j)(B:List j)(k:Nat)(h:↑A=k):(A++x::B).set k y=A++y::B:=by
 subst h;rw[List.set_append_right _ _<|Ï _,ab2];rfl
abbrev cb(us:ah)(k:Int)(o:bR):Rat:=if o.2.2.2.1=k then (if o.2.1="most" then 0 else Í o.2.2.2.2 `al) else 0
abbrev ca(us:ah)(k:Int)(o:bR):Rat:=if o.2.2.2.1=k then (if o.2.1="least" then 0 else Í o.2.2.2.2 `al) else 0
abbrev cF(us:ah)(rs:av)(k:Int):aw:=Ó ↑us 0++rs.flatMap λo=>[cb us k o,ca us k o]
def vG{j:Type}(f g:j->Rat)(xs:List j):(xs.flatMap λo=>[f o,g o]).length=2*↑xs:=by
 induction xs with
 |nil=>rfl
 |cons x xs a=>rw[an7,Ò,a];simp;omega
def JN[ae j](A:List j)(x y:j)(B:List j)(k:Nat)(h:↑A=k):((A++x::B).map ae.t).set k (ae.t y)=(A++y::B).map ae.t:=by rw[<- ai3,Wc _ _ _ _ _ h]
def Jr[ae j](A:List j)(x a y:j)(B:List j)(k:Nat)(h:↑A=k):((A++a::x::B).map ae.t).set (k+1) (ae.t y)=(A++a::y::B).map ae.t:=by
 have e:∀z:j,A++a::z::B=(A++[a])++z::B:=λz=>by rw[ô];rfl
 rw[e,e,JN _ _ _ _ _ (by rw[Ò,h];rfl)]
inductive kZ(T:Tx w K mg)(xs:af)(Q:Tr->aA):Prop
 |mk(_:↑xs=2)(f:Fl)(rs:av)(us:ah)(ss:a7)(S:Nat->Nat)(mk:aI)(k:Int)(_:Fp f)(_:xs=[cw T f (eS rs us ss S mk),.int k])(_:qa rs us)(_:∀o∈rs,0<bg us o/\bi (bg us o)<=3000)(_:∀j,Q (.ag .o ((cF us rs k).map ae.t)) j):kZ T xs Q
def Ej{z:Bool}:aJ P w K mg base bI 3 T.rA.a T.rA.d ["self","rank"] (bP K z 0 2<|kZ T):=by
 show cc T.rA.F Mh rfl ∎ ?_
 intros
 show#[_,(aO (jh 2<|zP (fK<|ak (gb [0,1] T.gw T.gx) aC)<|ID (fh T T.uz<|Ms T)<|qv 0)
  (aO (fL (tO T.qi<|ak (cK K<|qv 0) aC) (iU (n:=2) rfl<|dP (cR 3)<|dP (cR 4) iN) (aZ (cN (cm gB gp (a8 `ei aD)<|qv 1) (aO (bC 5<|qc T.kD (nH T)<|ak (a8 (qv 4) aD)<|ak (a8 (cK K<|qv 0)<|qv 3) aC)
  (aO (cN (cm jR jP (a8 `ei aD) f9) (aZ<|qN (dz 2) (eK (fh T T.oo<|vv T) (qv 0)<|ak (qv 3) aC)<|qv 5) cM)
  (aZ<|cN (cm jR jP (a8 (qv 4) aD) f9) (aZ<|qN (dz 2) (eK (fh T T.oq<|vw T) (qv 0)<|ak (qv 3) aC)<|qv 5) cM))) cM)))
  (aZ<|mw<|mr 2))),?_]
 intro N M _ zy;let#[_,f,rs,us,ss,S,mk,k,_,rfl,A,p,q]:=zy;have G:=A.r;have E:=A.u;rfl';simp only[fk,fT,gX,iW,d7];show f7 T #[rfl,f,_,rs,us,‹_›,rfl,i8 T f _,⋯,λ_=>?_];rfl';have D:Ó ((↑us+2*↑rs:Nat):Int).toNat (ae.t (0:Rat))=(Ó ↑us (0:Rat)++((rs.take 0).flatMap λo=>[cb us k o,ca us k o])++Ó (2*(↑rs - 0)) 0).map ae.t:=by
  rw[ae4,List.flatMap_nil,Ą,List.replicate_append_replicate,Ζ,Ň];rfl
 rw[D];show#[rfl,⋯,⋯,iD _,vR T ?_];change iB (Pu.aB<|Tr.ag .f ↥rs) _;rfl';show Loop.map rs.zipIdx _ (λi j=>∃a b c,j=[cw T f<|eS rs us ss S mk,.int k,.ag .o<|(Ó ↑us (0:Rat)++((rs.take i).flatMap λo=>[cb us k o,ca us k o])++Ó (2*(↑rs - i)) 0).map ae.t,a,b,c]) #[_,_,_,rfl] ?_ ?_
 .rintro i ⟨o,i'⟩ j hi ⟨a,b,c,rfl⟩;let#[l,y]:=q9 hi;dsimp only at l y;subst y;have H:i'<↑rs:=(Á.mp l).1;have J:rs.take (i'+1)=rs.take i'++[o]:=by rw[đ,l];rfl
  have g:(Ó ↑us (0:Rat)++((rs.take i').flatMap λo=>[cb us k o,ca us k o])).length=↑us+2*i':=by rw[Ò,á,vG,û];omega
  have B:Ó (2*(↑rs - i')) (0:Rat)=0::0::Ó (2*(↑rs - (i'+1))) 0:=by
   rw[show 2*(↑rs - i')=2*(↑rs - (i'+1))+1+1 by omega];rfl
  have C:Ó ↑us (0:Rat)++((rs.take<|i'+1).flatMap λo=>[cb us k o,ca us k o])++Ó (2*(↑rs - (i'+1))) 0=(Ó ↑us (0:Rat)++((rs.take i').flatMap λo=>[cb us k o,ca us k o]))++cb us k o::ca us k o::Ó (2*(↑rs - (i'+1))) 0:=by
   rw[J,List.flatMap_append,List.flatMap_singleton,<- ô,ô];rfl
  rw[B,C];generalize Ó ↑us (0:Rat)++((rs.take i').flatMap λo=>[cb us k o,ca us k o])=L at g ⊢;generalize Ó (2*(↑rs - (i'+1))) (0:Rat)=Z;rfl';by_cases h:o.2.2.2.1=k
  .rw[ao7<|ao9 h];simp only[fk,fT,gX,iW,d7];show Fv T ?_;change gA (.ag f<|(rs.map<|bg us).map ae.t) (.int i') _;rw[gQ,gO];show dE _ _ `al (eH (by rw[Ê,l];rfl)) ?_;rfl';show#[rfl,o.2.2.2.2,bg us o,rfl,é (p o<|Î l).1,by have:=(p o<|Î l).2;omega,λ_=>?_];rfl';unfold cb ca;rw[ao7 h,ao7 h];have I:(↑us+2*i'+0:Nat)<((L++(0:Rat)::0::Z).map ae.t).length:=by rw[Å,Ò,g];simp
   have v:∀x:Rat,(↑us+2*i'+1:Nat)<((L++x::(0:Rat)::Z).map ae.t).length:=λx=>by rw[Å,Ò,g];simp
   by_cases m:o.2.1="most"
   .have e:¬ o.2.1="least":=by rw[m];decide +kernel
    rw[ao7 m,ao6 e,ao6 (by simp[m]),ao7<|by simp[e]];show f7 T #[rfl,f,_,rs,us,i',‹_›,rfl,i8 T f _,⋯,λ_=>oV (v 0) ?_];rw[Jr _ _ _ _ _ _ g];show#[_,_,_,rfl]
   .rw[ao6 m,ao7<|by simp[m]];show f7 T #[rfl,f,_,rs,us,i',‹_›,rfl,i8 T f _,⋯,λ_=>oV I ?_];rw[JN _ _ _ _ _ (show ↑L=↑us+2*i'+0 from g)];by_cases e:o.2.1="least"
    .rw[ao7 e,ao6<|by simp[e]];show#[_,_,_,rfl]
    .rw[ao6 e,ao7<|by simp[e]];show f7 T #[rfl,f,_,rs,us,i',‹_›,rfl,i8 T f _,⋯,λ_=>oV (v _) ?_];rw[Jr _ _ _ _ _ _ g];show#[_,_,_,rfl]
  .rw[ao6<|by simpa using h];unfold cb ca;rw[ao6 h,ao6 h];show#[_,_,_,rfl]
 .rintro j ⟨a,b,c,rfl⟩;rw[Ş,Ĕ,ab2,Nat.mul_zero,List.replicate_zero,Ą];rfl';show q _
abbrev dq(us:ah)(R:Nat)(a:List (Str×Rat)):aw:=(us.map λx=>(bU a x).getD 0)++Ó (2*R) 0
inductive gH(T:Tx w K mg)(xs:af)(Q:Tr->aA):Prop
 |mk(_:↑xs=2)(f g:Fl)(rs:av)(us:ah)(ss:a7)(S:Nat->Nat)(mk:aI)(ps:List (Str×Rat))(_:Fp f)(_:Fp g)(_:xs=[cw T f (eS rs us ss S mk),bV g ps])(_:qa rs us)(_:∀j,Q (.ag .o ((dq us ↑rs ps).map ae.t)) j):gH T xs Q
def Ma{z:Bool}:aJ P w K mg base bI 2 T.uT.a T.uT.d ["self","parts"] (bP K z 0 2<|gH T):=by
 show cc T.uT.F Mj rfl ∎ ?_
 intros
 show#[_,(aO (oU 2 ["unknown","parts"] [È,À 1] (fj<|cK K<|qv 0) (eF 0) (λ_ _ _ _ _=>(z6 `bL (qv 0)<|gb [0,1] T.gw T.gx)))
  (aZ<|bW<|dQ (qv 2)<|zP (fK<|ak (gb [0,1] T.gw T.gx) aC)<|da aD<|fy gq gu T.gv<|ak (cK K<|qv 0) aC)),?_]
 intro n l _ zy;let#[_,f,g,rs,us,ss,S,mk,e,_,_,rfl,b,q]:=zy;have j:=b.r;have i:=b.u;rfl';simp only[fk,fT,gX,iW,d7];show EC T ?_;change iB (Tr.ag .f ↥us) _;rfl';show bc.map us _ (λx=>(bU e x).getD 0) ⋯ (λx m R b=>?_) ?_
 .rfl';show b
 .rfl';show vR T ?_;change sk _ [Tr.ag .f ↥rs] _;rfl';have h:Ų ae.t (us.map λx=>(bU e x).getD 0)++Ó (2*(↑rs:Int)).toNat (ae.t (0:Rat))=(dq us ↑rs e).map ae.t:=by
   unfold dq;rw[Û,Ζ,show (2*(↑rs:Int)).toNat=2*↑rs by omega]
  rw[h];show#[tH ∎ ⋯,rfl,⋯,⋯,by rw[á];omega,mG _,q _]
abbrev c9(cs:aw):aF:=cs.map<|fH<|b5 cs
structure dW(rs:av)(us:ah)(cs:aw):Prop where
 l:↑cs=aU rs us
 x:∃X,ug cs X
 b:∀c∈cs,bs c<=3000
 n:∀c∈c9 cs,bi c<=3000
 p:∀c∈cs,0<=c
def dW.c{rs:av}{us:ah}{cs:aw}(h:dW rs us cs):oE `cG `ac:=#[by unfold c9;rw[Å];show h.l,h.n]
def dW.nn{rs:av}{us:ah}{cs:aw}(h:dW rs us cs)(k:Nat):0<=cf `cG k:=by
 unfold cf c9;rw[Ã,Ê];cases e:cs[k]? with
 |none=>show al3 _
 |some c=>
  have p:=h.p c<|Î e;have a:=(gR cs 1 ∎).1;change 0<=fH (b5 cs) c;unfold fH;show ϒ (Rat.num_nonneg.mpr p)<|Int.fdiv_nonneg (ľ a)<|an6 _
def Y2{m n:Nat}{M:aM}{S:Nat->Nat}{c:Nat->Int}{sh:Nat->Prop}{e:Nat}(G:Lp.Gd m n M S)(b:∀k,0<=c k)(a:c n=0)(E:Lp.Ent m n M c sh S e)(h:∀i,i<m->Lp.tt m M S i e<=0):False:=by
 have ne:∀i,i<m->S i≠e:=λi d q=>by have:=E.2.1;rw[<- q,Lp.eJ d] at this;omega
 let#[g,_,_,r4]:=Lp.So G E.1 ne h a;have:0<=Lp.sm n λk=>c k*Lp.dr m M S e k:=Lp.cP λk f=>ϒ (b k)<|g k f
 have:=E.2.1;omega
def zX{ns:aF}{n:Nat}(h:↑ns=n):cf ns n=0:=by unfold cf;rw[Ã,à ⋯];rfl
abbrev fW(rs:av)(us:ah)(cs:aw)(S:Nat->Nat):aw:=(Ç<|aU rs us+1).map λk=>Í (Lp.zz ↑rs `ab (cf<|c9 cs) S k)<|b5 cs*Lp.dd ↑rs (Mx rs us) S
def Rc[ae j](xs:List j)(x:j):↥xs++[ae.t x]=(xs++[x]).map ae.t:=by rw[Û];rfl
inductive nV(T:Tx w K mg)(xs:af)(Q:Tr->aA):Prop
 |mk(_:↑xs=2)(g:Fl)(rs:av)(us:ah)(ss:a7)(S:Nat->Nat)(mk:aI)(cs:aw)(_:Fp g)(_:xs=[cw T .o (eS rs us ss S mk),.ag g ↥cs])(_:Sz ↑rs (aU rs us) (Mx rs us))(_:Lp.Gd ↑rs (aU rs us) (Mx rs us) S)(_:kA ↑rs mk S)(_:dW rs us cs)(_:↑mk<=10000)(_:↑ss<=1000)(_:∀S',Lp.Gd ↑rs (aU rs us) (Mx rs us) S'->kA ↑rs mk S'->um ↑rs (aU rs us) (Mx rs us) mk (cf (c9 cs)) S'->∀j:af,j[0]?=À (cw T .o (eS rs us (ss ++ [fW rs us cs S']) S' (fq ↑rs (aU rs us) (Mx rs us) mk (cf (c9 cs)) S' ↑ss (aU rs us))))->Q .aT j):nV T xs Q
def Em{z:Bool}:aJ P w K mg base bI 4 T.rO.a T.rO.d ["self","costs"] (bP K z 2 2<|nV T):=by
 show cc T.rO.F MJ rfl ∎ λbH A outer s H E Q Y v=>?_
 show#[_,(aO (bC 2<|qc T.rL (Ee T)<|ak (qv 1) aC)
  (aO (bC 3<|qc T.rM (Ef T)<|ak (qv 1)<|ak (qv 2) aC)
  (aO (zy 4<|qE (q4<|dz 0) (lP T T.uP<|Mr T)<|mF (qv 3) qO)
  (aO (cN (cm GJ E2 `ei mn) (aO sH
  (aZ sH)) cM)
  (aO (zy 6<|qE (q4<|dz 0) (lP T T.uw<|Mc T)<|mF (qv 3)<|mF (fy gq gu T.gv<|ak (cK K<|qv 0) aC) qO)
  (aO (nM (q4<|dz 0)<|hJ ["entry","scale","self"] [È,À 2,À 0] (fj<|qv 6) (eF 0) (λ_ _ _ _ _=>(qc T.kD (nH T)<|ak (qv 0)<|ak (da (qv 1)<|cK K<|cK K<|qv 2) aC)))
  (aZ<|bW mn))))))),?_]
 intro xs y _ zy;let#[_,g,rs,us,ss,S,mk,cs,_,rfl,u,G,v,i,hm,U,q]:=zy;let#[X,r]:=i.x;have hn:=u.hn;have O:=i.l;rfl';show#[rfl,g,cs,X,‹_›,rfl,r,λ_=>?_];rfl';show#[rfl,g,cs,X,‹_›,rfl,r,⋯,i.b,λ_=>?_];rfl';show Ft rfl #[T.fM,T.uR] (cv<|cv<|cv<|cv fO)<|nB T ?_;rfl';simp only[jl,eD];show#[rfl,.f,rs.length,aU rs us,Mx rs us,S,mk,c9 cs,inferInstance,rfl,u,G,v,i.c,λh j p C N e=>?_,λh e j p B M=>(Y2 j i.nn (zX i.c.1) B M).elim];rw[e,gW];show#[tM T _,?_];rw[Hw];rfl';rw[Il];rfl';show Ft rfl #[T.fM,T.uR] (cv<|cv<|cv<|cv fO)<|nB T ?_;rfl';rw[JE];show qz T ?_;change sk _ [Tr.ag _ ↥ss] _;rfl';simp only[jl,eD];show#[rfl,.f,rs.length,aU rs us,Mx rs us,h,mk,c9 cs,_,inferInstance,rfl,u,j.lt,i.c,hm,λN e=>?_];rw[e,gW];show#[tM T _,?_];rw[Hw];show wu rfl #[T.fM,T.xl] (cv<|cv<|cv fO) ?_;rfl';rw[JE,f6,lN];have J:=(gR cs 1 ∎).1;have L:=jj ((gR cs 1 ∎).2.2.2 X (ϐ _) r.2.1) r.1;have I:=r.2.2;have hd:=u.d h j.lt;show bc.map _ _ (λn=>Í n<|b5 cs*Lp.dd ↑rs (Mx rs us) h) (by rw[Å,Õ];omega) (λn hn R D=>?_) #[nN _,show ↑ss<1000000 by omega,?_]
 .rfl';simp only[d7];show yP T<|vF T ?_;rfl';show#[eC (n:=3000) (m:=3000) (by unfold b5;omega) hd ⋯,rfl,n,_,rfl,é<|Ŧ J j.pos,Ñ (dg (b5 cs)<|Lp.dd ↑rs (Mx rs us) h) (by unfold b5;omega),λ_=>D]
 .rw[gP,þ]
  change y Tr.aT (Tr.ins .o T.aah (gT "settled" (.ag .o<|↥ss++[ae.t<|fW rs us cs h])<|ip T .o<|eS rs us ss h<|fq ↑rs (aU rs us) (Mx rs us) mk (cf<|c9 cs) h ↑ss<|aU rs us)::_)
  rw[Rc,V2];show q h j p C _ rfl
inductive nZ(T:Tx w K mg)(xs:af)(Q:Tr->aA):Prop
 |mk(_:↑xs=2)(f:Fl)(S:iw)(i:Nat)(r:aw)(x:Rat)(_:Fp f)(_:xs=[cw T f S,.int i])(_:S.ss[i]?=À (r ++ [x]))(_:bs x<=7000)(_:∀j,Q (ae.t (0 - x)) j):nZ T xs Q
def yA{z:Bool}:aJ P w K mg base bI 4 T.qj.a T.qj.d ["self","place"] (bP K z 0 2<|nZ T):=by
 show cc T.qj.F MX rfl ∎ ?_
 intros
 show#[_,(aZ<|bW<|qc T.mY (sF T)<|ak (gb [0,1] T.gw T.gx)<|ak (a8 (a8 (cK K<|qv 0)<|qv 1)<|iF aD) aC),?_];intro j e _ zy;let#[_,f,S,i,r,x,_,rfl,b,h,q]:=zy;rfl';simp only[fk,gX,d7];show qz T ?_;rfl';show dE _ _ (r++[x]) (eH b) ?_;rw[f6,gQ,gO,GA];show dE _ _ x rfl ?_;rw[ia,kr];have g:bs (0:Rat)<=10:=by walk_at "k"
 show#[rfl,0,x,rfl,⋯,λ_=>#[iI _,q _]]
abbrev rg(rs:av)(us:ah)(S:Nat->Nat)(p:Str×Nat):Str×Rat:=(p.1,er ↑rs `ac `ab S p.2)
abbrev eQ(rs:av)(us:ah)(S:Nat->Nat):List (Str×Rat):=us.zipIdx.map<|rg rs us S
def EF{us:ah}(h:us.Nodup){i:Nat}{u:Str}(e:us[i]?=À u):¬ u∈us.take i:=λm=>by
 ∎;let#[j,f,b]:=Ν.mp m;let#[d,a]:=Á.mp e;∎;show (Ξ.mp h) j i ⋯ d ⋯ (b.trans a.symm)
def nr[ae j](m:List (Str×j)):lY (m.map λp=>((ñ p.1:aW),ae.t p.2))=Â:=by
 have:=kg<|m.map λp=>((ñ p.1:aW),p.2);rw[þ] at this;show this
inductive nW(T:Tx w K mg)(xs:af)(Q:Tr->aA):Prop
 |mk(_:↑xs=1)(f:Fl)(rs:av)(us:ah)(ss:a7)(S:Nat->Nat)(mk:aI)(_:Fp f)(_:xs=[cw T f (eS rs us ss S mk)])(_:Sz ↑rs (aU rs us) (Mx rs us))(_:Lp.Gd ↑rs (aU rs us) (Mx rs us) S)(_:us.Nodup)(_:↑us<=50)(_:∀j,Q (.aP .o ((eQ rs us S).map λp=>((ñ p.1:aW),ae.t p.2))) j):nW T xs Q
def Mu{z:Bool}:aJ P w K mg base bI 4 T.uU.a T.uU.d ["self"] (bP K z 0 1<|nW T):=by
 show cc T.uU.F Mq rfl ∎ ?_
 intros
 show#[_,(aO (jh 1 wo)
  (aO (fL (tO T.qi<|ak (cK K<|qv 0) aC) (iU (n:=2) rfl<|dP (cR 2)<|dP (cR 3) iN)<|aZ<|wC (dz 1) (qv 3)<|eK (lP T T.ux<|Nk T) (cK K<|qv 0)<|ak (qv 2) aC)
  (aZ<|mw<|mr 1))),?_]
 intro D B _ zy;let#[_,f,rs,us,ss,S,mk,_,rfl,g,G,hn,C,q]:=zy;rfl';simp only[fk,d7];show#[rfl,EC T ?_];change iB (Pu.aB<|Tr.ag .f ↥us) _;rfl';show Loop.map us.zipIdx _ (λi J=>∃y z,J=[cw T f<|eS rs us ss S mk,.aP .o<|((us.zipIdx.take i).map<|rg rs us S).map λp=>((ñ p.1:aW),ae.t p.2),y,z]) #[_,_,rfl] ?_ ?_
 .rintro i ⟨u,j⟩ J hj ⟨y,z,rfl⟩;let#[e,h]:=q9 hj;dsimp only at e h;subst h;have r:=(Á.mp e).1;rfl';simp only[fk,d7];show yP T ?_;simp only[jl,gX,iW];show nB T #[rfl,_,_,_,_,_,_,j,inferInstance,rfl,g,G,by unfold aU;omega,λ_=>?_];rfl';have m:pK ((us.zipIdx.take j).map<|rg rs us S) u (er ↑rs `ac `ab S j)=(us.zipIdx.take<|j+1).map (rg rs us S):=by
   rw[gL,đ,hj,Option.toList_some,Û]
   .rfl
   .intro z g;let#[#[x,k],v,rfl]:=ß.mp g;rintro rfl;show EF hn e ?_;let#[A,b,l]:=Ν.mp v;have:=q9<|Á.mpr #[⋯,l];show Ν.mpr #[A,by rw[Ş] at b;show b,(Á.mp this.1).2]
  rw[m];show#[by rw[û];omega,_,_,rfl]
 .rintro J ⟨y,z,rfl⟩;rw[Ĕ];rfl';show#[(b8 _<|nr _).o,q _]
def sV{x:Int}(h:bi x<=100):bs (x:Rat)<=100:=by
 unfold bs;change max (bl x.natAbs) (bl 1)<=100;have:bl 1<=1:=by walk_at "k"
 unfold bi at h;omega
abbrev Bd(lr:aw):Prop:=∀x∈lr,bs x<=3900
abbrev n7(kind:Str)(sc:Int)(b a:Rat):Rat:=if kind="least" then a*(sc:Rat) else if kind="most" then b*((-sc:Int):Rat) else (a - b)*Í sc 2
abbrev jU(rs:av)(us:ah)(a:aw)(i:Nat):Rat:=match rs[i]? with
 |some o=>n7 o.2.1 `al (a.getD (↑us + 2 * i) 0)<|a.getD (↑us + 2 * i + 1) 0
 |none=>0
abbrev jV(rs:av)(us:ah)(a:aw):aw:=(Ç ↑rs).map<|jU rs us a
inductive jv(T:Tx w K mg)(xs:af)(Q:Tr->aA):Prop
 |mk(_:↑xs=3)(f g:Fl)(rs:av)(us:ah)(ss:a7)(S:Nat->Nat)(mk:aI)(i:Nat)(lr:aw)(o:bR)(_:Fp f)(_:Fp g)(_:xs=[cw T f (eS rs us ss S mk),.int i,.ag g ↥lr])(_:i<=100)(_:rs[i]?=À o)(_:↑lr=↑us+2*↑rs+1)(_:Bd lr)(_:bi (bg us o)<=100)(_:∀j,Q (ae.t (n7 o.2.1 (bg us o) (lr.getD (↑us+2*i) 0) (lr.getD (↑us+2*i+1) 0))) j):jv T xs Q
def M0{z:Bool}:aJ P w K mg base bI 4 T.uX.a T.uX.d ["self","number","left"] (bP K z 0 3<|jv T):=by
 show cc T.uX.F MZ rfl ∎ ?_
 intros
 show#[_,(aO (bC 3<|a8 (qv 2)<|eK (fh T T.oo<|vv T) (qv 0)<|ak (qv 1) aC)
  (aO (bC 4<|a8 (qv 2)<|eK (fh T T.oq<|vw T) (qv 0)<|ak (qv 1) aC)
  (aO (bC 5<|a8 (a8 (cK K<|qv 0)<|qv 1) aD)
  (aO (bC 6<|a8 (cK K<|qv 0)<|qv 1)
  (aO (cN `dx (aZ<|bW<|qc T.l5 (qJ T)<|ak (qv 4)<|ak (iZ<|ak (qv 6)<|ak aD aC) aC) cM)
  (aO (cN `dx (aZ<|bW<|qc T.l5 (qJ T)<|ak (qv 3)<|ak (iZ<|ak (iF<|qv 6)<|ak aD aC) aC) cM)
  (aZ<|bW<|qc T.l5 (qJ T)<|ak (qc T.mY (sF T)<|ak (qv 4)<|ak (qv 3) aC)<|ak (qc T.kD (nH T)<|ak (qv 6)<|ak aD aC) aC))))))),?_]
 intro H C _ zy;let#[_,f,g,rs,us,ss,S,mk,i,n,o,_,_,rfl,E,l,G,p,m,q]:=zy;have v:=(Á.mp l).1;rfl';simp only[fk,fT,gX,iW,d7];show f7 T #[rfl,f,_,rs,us,i,‹_›,rfl,i8 T f _,⋯,λ_=>?_];obtain⟨b,eb⟩:∃b,n[us.length+2*i+0]?=À b:=#[_,Ì ⋯];obtain⟨a,j⟩:∃a,n[us.length+2*i+1]?=À a:=#[_,Ì ⋯];rw[Ã,Ã,j,show n[us.length+2*i]?=À b from eb] at q;have r:=p b<|Î eb;have u:=p a<|Î j;rfl';show dE _ _ b (eH eb) ?_;rfl'
 try simp only[fk,fT,gX,iW,d7]
 show f7 T #[rfl,f,_,rs,us,i,‹_›,rfl,i8 T f _,⋯,λ_=>?_];rfl';show dE _ _ a (eH j) ?_;rfl'
 try simp only[fk,fT,gX,iW,d7]
 show vR T ?_;rfl';show dE _ _ o (eH l) ?_;rfl';show Fv T ?_;change gA (.ag f<|(rs.map<|bg us).map ae.t) `aw _;rw[gQ,gO];show dE _ _ `al (eH (by rw[Ê,l];rfl)) ?_;rfl';have A:=sV m;have B:=sV (x:=-bg us o) (by unfold bi;rw[ŭ];show m);unfold n7 at q;by_cases e:o.2.1="least"
 .rw[ao7<|ao9 e];rw[ao7 e] at q;show#[rfl,a,(bg us o:Rat),rfl,⋯,λ_=>#[iI _,q _]]
 .rw[ao6<|by simpa using e];rw[ao6 e] at q;by_cases h:o.2.1="most"
  .rw[ao7<|ao9 h];rw[ao7 h] at q;show#[rfl,b,((-bg us o:Int):Rat),rfl,⋯,λ_=>#[iI _,q _]]
  .rw[ao6<|by simpa using h];rw[ao6 h] at q;have y:=qT a b;have D:bs (Í `al 2)<=100:=ny ∎ m (by walk_at "k");show#[rfl,a,b,rfl,⋯,λ_=>#[rfl,_,2,rfl,∎,by walk_at "k",λ_=>?_]];rw[ia,kr];show#[rfl,_,_,rfl,⋯,λ_=>#[iI _,q _]]
inductive ij(T:Tx w K mg)(xs:af)(Q:Tr->aA):Prop
 |mk(_:↑xs=2)(f g:Fl)(rs:av)(us:ah)(ss:a7)(S:Nat->Nat)(mk:aI)(lr:aw)(_:Fp f)(_:Fp g)(_:xs=[cw T f (eS rs us ss S mk),.ag g ↥lr])(_:↑rs<=100)(_:↑lr=↑us+2*↑rs+1)(_:Bd lr)(_:∀o∈rs,bi (bg us o)<=100)(_:∀j,Q (.ag .o ((jV rs us lr).map ae.t)) j):ij T xs Q
def En{z:Bool}:aJ P w K mg base bI 5 T.rP.a T.rP.d ["self","left"] (bP K z 0 2<|ij T):=by
 show cc T.rP.F MK rfl ∎ ?_
 intros
 show#[_,(aZ<|bW<|hJ ["number","left","self"] [È,À 1,À 0] (tF T.l6<|ak (fy gq gu T.gv<|ak (cK K<|qv 0) aC) aC) (eF 0) (λ_ _ _ _ _=>(eK (fh T T.uX<|M0 T) (qv 2)<|ak (qv 0)<|ak (qv 1) aC))),?_];intro r p _ zy;let#[_,f,g,rs,us,ss,S,mk,h,_,_,rfl,j,n,l,o,q]:=zy;rfl';simp only[fk,fT,gX,iW,d7];show vR T ?_;rfl'
 change -1000000<=(↑rs:Int)/\(↑rs:Int)<=1000000/\bc (Ų (λi:Nat=>Tr.int (i:Int))<|Ç ((↑rs:Int)).toNat) _ _ _ _ _
 rw[Ň];show#[⋯,⋯,bc.map (Ç ↑rs) _ (jU rs us h) (by rw[Õ];omega) (λi m R e=>?_) #[qY _,q _]];have b:=ī.mp m;rfl'
 try simp only[fk,fT,gX,iW,d7]
 show f7 T #[rfl,f,g,rs,us,ss,S,mk,i,h,rs[i],‹_›,‹_›,rfl,⋯,Ì b,n,l,o _<|Ϲ b,λ_=>?_];unfold jU at e;rw[Ì b] at e;show e
def Y3{a b:Rat}(h:b≠0):bs (a / b)<=bs a+bs b:=by
 have hn:b.num≠0:=λz=>h<|Rat.num_eq_zero.mp z
 rw[<- EN];show ny (ϰ (by have:=a.den_nz;omega) hn) (Ñ `aR (by have:=iX a;have:=fZ b;omega)) (Ñ `aR (by have:=fZ a;have:=iX b;omega))
def tm{neg:Bool}{a b:Rat}{Q:az}(q:Q (.bl (if neg=Â then !decide (a=b) else decide (a=b)))):lV neg `bG (ae.t b) Q:=by
 show .inr #[decide<|a=b,?_,show (1:Nat)<=60 by decide,Ï 1,q];change (if 2=2 then (À<|decide<|a.num=b.num).bind λx=>((À<|decide<|(a.den:Int)=b.den).bind λy=>(À Â).bind λz=>À<|y&&z).bind λy=>À (x&&y) else È)=_;rw[ao7 rfl];change À (decide (a.num=b.num)&&(decide ((a.den:Int)=b.den)&&Â))=_;congr 1;by_cases h:a=b
 .subst h;simp
 .rw[ap0 h];by_cases d:a.num=b.num
  .have h2:¬ (a.den:Int)=b.den:=λz=>h<|Rat.ext d ⋯
   rw[ap0 h2,Z0,Bool.and_false]
  .rw[ap0 d,Z0]
structure mU(C:Nat)(ss:a7)(mk:aI):Prop where
 r:∀row∈ss,∀v∈row,bs v<=3000
 m:∀p∈mk,∃kn j:Nat,p.2=À (kn:Int)/\p.1=ï (j:Int)/\j<C/\∃row v,ss[kn]?=À row/\row[j]?=À v/\0<v
abbrev lh(a:aw)(ss:a7)(k:Nat)(j:Nat):Rat:=(0 - a.getD j 0) / (ss.getD k []).getD j 0
abbrev gZ(b:aw)(ss:a7)(k:Nat)(s:Rat)(p:aW×bK):Rat:=match p with
 |(.inl j,À a)=>if a=(k:Int) then (if s < lh b ss k j.toNat then lh b ss k j.toNat else s) else s
 |_=>s
abbrev shr(a:aw)(ss:a7)(k:Nat)(mk:aI):Rat:=mk.foldl `bR 0
inductive jw(T:Tx w K mg)(xs:af)(Q:Tr->aA):Prop
 |mk(_:↑xs=3)(g:Fl)(rs:av)(us:ah)(ss:a7)(S:Nat->Nat)(mk:aI)(lr:aw)(k C:Nat)(_:Fp g)(_:xs=[cw T .f (eS rs us ss S mk),.ag g ↥lr,.int k])(_:mU C ss mk)(_:↑lr=C+1)(_:Bd lr)(_:∀j,Q (ae.t (shr lr ss k mk)) j):jw T xs Q
def MD:aJ P w K mg base bI 4 T.uW.a T.uW.d ["self","left","ahead"] (bP K Â 0 3<|jw T):=by
 show cc T.uW.F Mz rfl ∎ ?_
 intros
 show#[_,(aO (bC 3<|gb [0,1] T.gw T.gx)
  (aO (HX (cK K<|cK K<|qv 0) (iU (n:=2) rfl<|dP (cR 4)<|dP (cR 5) iN) (aZ (cN (cm gB gp (qv 5)<|qv 2) (aO (bC 6<|qc T.rK (Hx T)<|ak (qc T.mY (sF T)<|ak (gb [0,1] T.gw T.gx)<|ak (a8 (qv 1)<|qv 4) aC)<|ak (a8 (a8 (cK K<|qv 0)<|qv 2)<|qv 4) aC)
  (aZ<|bC 3<|tE (ke<|qc T.lD (oM T)<|ak (qv 3)<|ak (qv 6) aC) (qv 6)<|qv 3)) cM)))
  (aZ<|bW<|qv 3))),?_]
 intro xs Q' _ zy;let#[_,g,rs,us,ss,S,m,h,k,C,_,rfl,J,Q,O,q]:=zy;rfl';simp only[fk,fT,dO,eD,d7];show yP T<|zE T ?_;have M:Pu.aB (.aP .f<|mT m)=.aP .f `eh:=rfl
 change bM (Tr.aP .f<|mT m)=Â/\rQ (Pu.aB<|Tr.aP .f<|mT m) _
 rw[M];show#[(b8 _<|kg m).t,#[λi G=>∃a b c,G=[cw T .f<|eS rs us ss S m,.ag g ↥h,.int k,ae.t<|(m.take i).foldl (gZ h ss k) 0,a,b,c]/\bs ((m.take i).foldl `cH 0)<=6910,#[_,_,_,rfl,by rw[ae4];change bs 0<=6910;rw[kf];decide],?_,?_]]
 .rintro i p G hp ⟨a,b,c,rfl,hsb⟩;unfold mT at hp;rw[Ê] at hp;cases e:m[i]? with
  |none=>rw[e] at hp;cases hp
  |some E=>
  rw[e] at hp;cases hp;have tk:(m.take<|i+1).foldl `cH 0=gZ h ss k ((m.take i).foldl `cH 0) E:=by rw[đ,e,an9];rfl
  let#[kn,j,H,I,hj,row,v,u,y,L]:=J.m E<|Î e;obtain⟨x,ex⟩:∃x,h[j]?=À x:=#[_,Ì (by rw[Q];omega)];have α:=O x<|Î ex;have Y:=J.r row (Î u) v<|Î y;let#[y1,y2]:=E;dsimp only at H I;subst H I;change n5 _ _ (.aL [.int (j:Int),.int (kn:Int)]) _ _;rfl';simp only[tk];generalize (m.take i).foldl `cH 0=sh at hsb ⊢;by_cases B:(kn:Int)=(k:Int)
  .rw[ao7<|ao9 B];have D:kn=k:=⋯
   subst D;have N:lh h ss kn j=(0 - x) / v:=by
    unfold lh;rw[Ã,ex,Ã,Ã,u];simp[y]
   have A:gZ h ss kn sh (ï (j:Int),À (kn:Int))=if sh<(0 - x) / v then (0 - x) / v else sh:=by
    unfold gZ;dsimp only;rw[ao7 rfl,Ň,N]
   rw[A];show dE _ _ x (eH ex) ?_;rfl';show#[rfl,0,x,rfl,by rw[kf];omega,λ_=>?_];rfl';simp only[fk,dO,d7];show qz T ?_;rfl';show dE _ _ row (eH u) ?_;rw[f6,gQ,gO];show dE _ _ v (eH y) ?_;have U:=qT 0 x;rw[kf] at U;have o:v≠0:=λz=>by rw[z] at L;show ao8 L ∎
   rw[ia,kr];show#[rfl,0 - x,v,rfl,o,⋯,λ_=>#[i2 _,?_]];have hd:=Y3 (a:=0 - x) (b:=v) o;rfl';show#[rfl,sh,(0 - x) / v,rfl,⋯,λ_=>?_];rfl';by_cases l:sh<(0 - x) / v
   .rw[ao7<|ao9 l,ao7 l];show#[_,_,_,rfl,⋯]
   .rw[ao6 (by simpa using l),ao6 l];show#[_,_,_,rfl,hsb]
  .rw[ao6<|by simpa using B];have A:gZ h ss k sh (ï (j:Int),À (kn:Int))=sh:=by unfold gZ;dsimp only;rw[ao6 B]
   rw[A];show#[_,_,_,rfl,hsb]
 .rintro G ⟨a,b,c,rfl,_⟩;rfl';rw[show (m.take (mT m).length)=m by unfold mT;rw[Å,Ĕ]];show q _
abbrev n6(ss:a7)(mk:aI)(st:aw×aw)(k:Nat):aw×aw:=(if shr st.1 ss k mk=0 then st.1 else ϳ (λa b=>a+shr st.1 ss k mk*b) st.1 (ss.getD k []),st.2++[shr st.1 ss k mk])
abbrev pp(ss:a7)(mk:aI)(i:Nat):Nat->aw×aw
 |0=>(ss.getD i [],[])
 |j + 1=>n6 ss mk (pp ss mk i j)<|i - 1 - j
structure Eb(C:Nat)(ss:a7)(mk:aI)(i:Nat):Prop where
 l:∀j,j<=i->(pp ss mk i j).1.length=C+1/\Bd (pp ss mk i j).1
 s:∀j,j<i->∀b∈ss.getD (i - 1 - j) [],bs (shr (pp ss mk i j).1 ss (i - 1 - j) mk)+bs b<=7990/\bs (shr (pp ss mk i j).1 ss (i - 1 - j) mk*b)<=4000
inductive ju(T:Tx w K mg)(xs:af)(Q:Tr->aA):Prop
 |mk(_:↑xs=2)(rs:av)(us:ah)(ss:a7)(S:Nat->Nat)(mk:aI)(i:Nat)(_:xs=[cw T .f (eS rs us ss S mk),.int i])(_:↑rs<=16)(_:↑us<=10)(_:i<↑ss)(_:↑ss<=1000)(_:mU (aU rs us) ss mk)(_:Eb (aU rs us) ss mk i)(_:∀o∈rs,bi (bg us o)<=100)(_:∀j,Q (.aL [.ag .o ((jV rs us (pp ss mk i i).1).map ae.t),.ag .o ((pp ss mk i i).2.reverse.map ae.t)]) j):ju T xs Q
def qQ{ss:a7}{mk:aI}{i:Nat}:∀j,(pp ss mk i j).2.length=j
 |0=>rfl
 |j + 1=>by change (_ ++ [_]).length=_;rw[Ò,qQ j];rfl
def M1:aJ P w K mg base bI 6 T.uV.a T.uV.d ["self","place"] (bP K Â 0 2<|ju T):=by
 show cc T.uV.F MY rfl ∎ ?_
 intros
 show#[_,(aO (bC 2<|a8 (cK K<|qv 0)<|qv 1)
  (aO (jh 3<|fK aC)
  (aO (fL (KD rfl T.l6<|ak (o6 (qv 1) aD)<|ak (iF aD)<|ak (iF aD) aC) (cR 4) (aO (bC 5<|eK (fh T T.uW<|MD T) (qv 0)<|ak (qv 2)<|ak (qv 4) aC)
  (aO (cN (cm jR jP (qv 5)<|gb [0,1] T.gw T.gx) (aZ<|oU 2 ["one","other","share"] [È,È,À 5] (mE T.l7<|ak (qv 2)<|ak (a8 (cK K<|qv 0)<|qv 4) aC) (Bg (n:=2) rfl<|qH (eF 0)<|qH (eF 1) zl) (λ_ _ _ _ _=>(qc T.qh (zF T)<|ak (qv 0)<|ak (qc T.l5 (qJ T)<|ak (qv 2)<|ak (qv 1) aC) aC))) cM)
  (aZ<|nM (dz 3)<|qv 5))))
  (aZ<|bW<|iZ<|ak (eK (fh T T.rP<|En T) (qv 0)<|ak (qv 2) aC)<|ak (XX rfl rfl T.gS rfl T.Lg<|ak (qv 3) aC) aC)))),?_]
 intro xs Q _ zy;let#[_,rs,us,ss,S,m,i,rfl,I,H,M,h,L,r,y,q]:=zy;have v:ss[i]?=À (ss.getD i []):=by rw[Ã,Ì M];rfl
 rfl';simp only[fk,fT,dO,eD,d7];show qz T ?_;rfl';show dE _ _ _ (eH v) ?_;rfl';show#[⋯,⋯,Loop.map (Ç ((i:Int) - 1+1).toNat) (λn:Nat=>Tr.int<|(i:Int) - 1+n*-1) (λj G=>∃a b,G=[cw T .f<|eS rs us ss S m,.int i,ae.t (pp ss m i j).1,.ag .o<|(pp ss m i j).2.map ae.t,a,b]) #[_,_,rfl] ?_ ?_]
 .rintro j n G hj ⟨a,b,rfl⟩;let#[hn,rfl]:=oS hj;have u:j<i:=⋯
  have E:(i:Int) - 1+(j:Int)*-1=((i - 1 - j:Nat):Int):=⋯
  rw[E];have e:=r.l j ⋯;have x:=r.s j u;have D:(pp ss m i<|j+1).2=(pp ss m i j).2++[shr (pp ss m i j).1 ss (i - 1 - j) m]:=rfl;have C:(pp ss m i<|j+1).1=if shr (pp ss m i j).1 ss (i - 1 - j) m=0 then (pp ss m i j).1 else ϳ (λa b=>a+shr (pp ss m i j).1 ss (i - 1 - j) m*b) (pp ss m i j).1 (ss.getD (i - 1 - j) []):=rfl
  have A:=qQ (ss:=ss) (mk:=m) (i:=i) j;rfl'
  try simp only[fk,fT,dO,eD,d7]
  show f7 T #[rfl,.f,rs,us,ss,S,m,(pp ss m i j).1,i - 1 - j,_,inferInstance,rfl,L,e.1,e.2,λ_=>?_];rfl';simp only[D,C];generalize shr (pp ss m i j).1 ss (i - 1 - j) m=sh at x ⊢;show tm ?_;rfl';by_cases g:sh=0
  .rw[ao6 (by simp[g]),ao7 g];show#[⋯,_,_,rfl]
  .rw[ao7 (by simp[g]),ao6 g];have N:ss[i - 1 - j]?=À (ss.getD (i - 1 - j) []):=by rw[Ã,Ì ⋯];rfl
   show qz T ?_;rw[gQ,gO];show dE _ _ _ (eH N) ?_;generalize ss.getD (i - 1 - j) []=row at x ⊢;generalize (pp ss m i j).1=lr at e ⊢;have hc:↑lr<=100:=by have:=e.1;unfold aU at this;omega
   rw[ia,f6,f6,lN,lN,vz];show bc.map (lr.zip row) _ (λp=>p.1+sh*p.2) (by rw[Đ];omega) (λp O R J=>?_) ?_
   .obtain⟨m1,m2⟩:=Ġ O;have U:=e.2 _ m1;let#[B,Y]:=x _ m2;rfl';show#[rfl,sh,p.2,rfl,B,λ_=>?_];rw[ia,kr];show#[rfl,p.1,sh*p.2,rfl,⋯,λ_=>J]
   .have e3:(lr.zip row).map (λp=>p.1+sh*p.2)=ϳ (λa b=>a+sh*b) lr row:=by rw[ū,Zv]
    rw[e3,gP];show#[nN _,⋯,_,_,rfl]
 .rintro G ⟨a,b,rfl⟩;rw[Õ,show ((i:Int) - 1+1).toNat=i by omega];rfl';simp only[fk,fT,dO,eD,d7];have e:=r.l i<|Ï _;show f7 T #[rfl,.f,.f,rs,us,ss,S,m,(pp ss m i i).1,inferInstance,inferInstance,rfl,⋯,e.1,e.2,y,λ_=>?_];rw[<- List.map_reverse];show#[nJ _,by rw[qY,mG];rfl,q _]
structure iu(e x v M:Nat)(us:ah)(o:bR):Prop where
 b:xa us o
 p:0<bg us o
 sd:bg us o ∣ (M:Int)
 eb:∀y∈ed us o,bi y<=e
 xb:bi `an<=x
 w:0<=o.2.2.2.2/\bi o.2.2.2.2<=v
def zY{x:Int}{k:Nat}(h:bi x<=k):x.natAbs<=2 ^ k:=ń<|kd h
def z9:∀{m k:Nat},m<=k->Lp.gG m<=Lp.gG k
 |m,0,h=>by rw[show m=0 by omega];show Ï _
 |m,k + 1,h=>by
  by_cases e:m=k+1
  .rw[e];show Ï _
  .show Ñ (z9 (show m<=k by omega)) (Nat.le_mul_of_pos_left _ ⋯)
section
variable{rs:av}{us:ah}{e x v M:Nat}
def Aa(h:∀o∈rs,iu e x v M us o)(i k:Nat)(j:i<↑rs)(_:k<=aU rs us):(Mx rs us i k).natAbs<=2 ^ if k<↑us then e else if k=aU rs us then x else 0:=by
 let#[o,g]:=nE j;have z:=h o<|Î g;have one:∀n,1<=2 ^ n:=λn=>Nat.one_le_two_pow
 rw[o9 g,ϓ,show (sgn<|cL us o).natAbs=1 by unfold sgn;split<;>rfl,Nat.one_mul];unfold A0;by_cases a:k<↑us
 .rw[ao7 a,ao7 a,Ã];cases q:`aH[k]? with
  |none=>show Ĝ _
  |some y=>show zY<|z.eb y<|Î q
 .rw[ao6 a,ao6 a];by_cases d:k=↑us+2*i
  .rw[ao7 d];show one _
  .rw[ao6 d];by_cases f:k=↑us+2*i+1
   .rw[ao7 f];show one _
   .rw[ao6 f];by_cases b:k=aU rs us
    .rw[ao7 (show k=↑us+2*↑rs from b),ao7 b];show zY z.xb
    .rw[ao6 (show ¬ k=↑us+2*↑rs from b)];show Ĝ _
abbrev fb(N:Nat):Nat:=if N<=6 then 10 else 45
def Js{m N:Nat}(h:m<=N)(a:N<=16):Lp.gG m<2 ^ fb N:=by
 unfold fb;split
 .show Ď (z9 (show m<=6 by omega)) (by walk_at "k")
 .show Ď (z9 (show m<=16 by omega)) (by walk_at "k")
def JO{m f k:Nat}(a:Lp.gG m<2 ^ f){y:Int}(h:y.natAbs<=Lp.gG m*2 ^ k):bi y<=f+k:=by
 show gU<|Ď h ?_;rw[ab6];show Ϻ a<|ϻ _
def Ab:↑us<=aU rs us:=Ϥ _ _
def Jt(h:∀o∈rs,iu e x v M us o){f:Nat}(a:Lp.gG ↑rs<2 ^ f){S:Nat->Nat}(lt:∀i,i<↑rs->S i<aU rs us)(i:Nat){k:Nat}(b:k<=aU rs us):bi (Lp.tt ↑rs `ab S i k)<=f+(↑us*e+x):=JO a<|Lp.lq Ab (Aa h) lt b
def Az(h:∀o∈rs,iu e x v M us o){f:Nat}(d:Lp.gG ↑rs<2 ^ f){S:Nat->Nat}(lt:∀i,i<↑rs->S i<aU rs us):bi (Lp.dd ↑rs `ab S)<=f+↑us*e:=JO d (Lp.i1 (x:=0) Ab λi j g b=>by
 have a:=Aa h i _ g<|ń<|lt j b;have:=lt j b;rw[ao6 (show ¬ S j=aU rs us by omega)] at a;rwa[ao6 (show ¬ S j=aU rs us by omega)])
def KQ(h:∀o∈rs,iu e x v M us o)(hm:↑rs<=16){f:Nat}(a:Lp.gG ↑rs<2 ^ f)(hn:aU rs us<=60)(b:f+(↑us*e+x)<=3000):Sz ↑rs `ac `ab where
 hm:=⋯
 hn:=hn
 t:=λS i k lt g=>Ñ (Jt h a lt i g) b
 d:=λS lt=>Ñ (Az h a lt) ⋯
def vS(a:Int){b:Int}(d:0<b):((Í a b).den:Int) ∣ b:=by
 rw[Rat.den_divInt,ao6<|é d];show ō (ah9.mpr<|Nat.div_dvd_of_dvd<|Nat.gcd_dvd_left _ _)<|Int.natAbs_dvd_self
def Ju{cs:aw}{X:Nat}(p:↑cs=aU rs us)(i:0<X)(hd:∀c∈cs,(c.den:Int) ∣ (X:Int)){x y:Nat}(u:bi (X:Int)<=x)(j:∀c∈cs,bi c.num<=y)(hp:∀c∈cs,0<=c)(h:x+y<=3000):dW rs us cs/\∀k,bi (cf `cG k)<=x+y:=by
 have f:∀c∈cs,bi (fH (b5 cs) c)<=x+y:=λc m=>by
  unfold fH;let#[z,l]:=(gR cs 1 ∎).2.2.1 c m;have g:(0:Int)<(c.den:Int):=ĩ.mpr c.den_pos;have o:(b5 cs).fdiv (c.den:Int)=z:=by
   have:=Ě (a:=(c.den:Int)) z<|é g;rwa[<- l] at this
  rw[o];have r:=(gR cs 1 ∎).2.2.2 X (ϐ _) hd;have n:z ∣ (X:Int):=ō (by rw[l];show Zx _ _) r;have:=jj n i;have:=dg c.num z;have:=j c m;omega
 show#[#[p,#[X,i,hd,⋯],λc m=>?_,λc m=>?_,hp],λk=>?_]
 .have a:=jj (hd c m) i;have b:=j c m;unfold bs;unfold bi at a b;rw[Ĩ] at a;have:bi (X:Int)=bl (X:Int).natAbs:=rfl;omega
 .unfold c9 at m;let#[d,md,rfl]:=ß.mp m;have:=f d md;omega
 .unfold cf c9;rw[Ã,Ê];cases q:cs[k]? with
  |none=>show Ĝ _
  |some c=>show f c<|Î q
def Ac(a:Int){b:Int}(g:0<b):bi (Í a b).num<=bi a:=by
 have h:=af8 a b;by_cases f:a=0
 .subst f;rw[Ē];show Ĝ _
 .have d:(Í a b).num ∣ a:=by
   rw[h,ZH g,ad6];show am5<|Ψ ..
  have:=aa9 ⋯ (ϟ.mpr d);show gU<|Ď this<|kd<|Ï _
def sD{a b:Int}(d:0<=a)(f:0<b):0<=Í a b:=Rat.divInt_nonneg d<|ľ f
def zo{k:Int}{c:Rat}(m:c∈cF us rs k):c=0\/∃o∈rs,c=Í o.2.2.2.2 `al:=by
 unfold cF at m;rcases Æ.mp m with m |m
 .show .inl (Ω m)
 .obtain⟨o,ho,mo⟩:=List.mem_flatMap.mp m;simp only[æ,Zw,or_false] at mo;rcases mo with rfl |rfl
  .unfold cb;split
   .split
    .show .inl rfl
    .show .inr #[o,ho,rfl]
   .show .inl rfl
  .unfold ca;split
   .split
    .show .inl rfl
    .show .inr #[o,ho,rfl]
   .show .inl rfl
def Jv(h:∀o∈rs,iu e x v M us o)(k:Int):∀c∈cF us rs k,(c.den:Int) ∣ (M:Int):=λc m=>by
 rcases zo m with rfl |⟨o,a,rfl⟩
 .show ϐ _
 .show ō (vS _ (h o a).p) (h o a).sd
def KR(h:∀o∈rs,iu e x v M us o)(a:0<M){s:Nat}(hs:bi (M:Int)<=s)(k:Int)(b:s+v<=3000):dW rs us `cn/\∀j,bi (cf (c9<|cF us rs k) j)<=s+v:=by
 show Ju (X:=M) (by unfold cF aU;rw[Ò,á,vG]) a (Jv h k) hs (λc m=>?_) (λc m=>?_) b
 .rcases zo m with rfl |⟨o,ho,rfl⟩
  .show Ĝ _
  .show Ñ (Ac _ (h o ho).p) (h o ho).w.2
 .rcases zo m with rfl |⟨o,ho,rfl⟩
  .show Z7
  .show sD (h o ho).w.1 (h o ho).p
def KS{a:List (Str×Rat)}(hp:∀u,(bU a u).getD 0=0\/(bU a u).getD 0=1):dW rs us (dq us ↑rs a)/\∀j,bi (cf (c9<|dq us ↑rs a) j)<=2:=by
 have mem:∀c∈dq us ↑rs a,c=0\/c=1:=λc m=>by
  unfold dq at m;rcases Æ.mp m with m |m
  .obtain⟨u,_,rfl⟩:=ß.mp m;show hp u
  .show .inl (Ω m)
 show Ju (X:=1) (x:=1) (y:=1) (by unfold dq aU;rw[Ò,Å,á]) ∎ (λc m=>?_) (by walk_at "k") (λc m=>?_) (λc m=>?_) ∎
 .rcases mem c m with rfl |rfl<;>show ϐ _
 .rcases mem c m with rfl |rfl<;>decide +kernel
 .rcases mem c m with rfl |rfl<;>decide
abbrev CD(l d:Nat)(row:aw):Prop:=∃D:Int,0<D/\bi D<=d/\∀x∈row,∃a:Int,x=Í a D/\bi a<=l
def CD.mono{l d f d':Nat}{row:aw}(h:CD l d row)(a:l<=f)(b:d<=d'):CD f d' row:=by
 let#[D,g,j,i]:=h;show#[D,g,⋯,λx m=>by let#[y,e,n]:=i x m;show#[y,e,⋯]]
def CD.bs{l d:Nat}{row:aw}(h:CD l d row)(hd:d<=l){x:Rat}(m:x∈row):Vc.bs x<=l:=by
 ∎;let#[D,b,i,g]:=h;let#[a,rfl,f]:=g x m;∎;show ny (é b) f ⋯
def Io(h:∀o∈rs,iu e x v M us o)(hm:↑rs<=16){f:Nat}(a:Lp.gG ↑rs<2 ^ f){cs:aw}{S:Nat->Nat}{C y:Nat}(lt:∀i,i<↑rs->S i<aU rs us)(G:0<Lp.dd ↑rs `ab S)(g:∀k,bi (cf `cG k)<=C)(m:bi (b5 cs)<=y)(l:y<=C+5):CD (C+(f+5)+(↑us*e+x)) (C+(f+5)+(↑us*e+x)) `cI:=by
 have hd:=Az h a lt;show#[b5 cs*Lp.dd ↑rs `ab S,Ŧ (gR cs 1 ∎).1 G,Ñ `aR ⋯,λy b=>?_];unfold fW at b;let#[k,j,rfl]:=ß.mp b;rw[ī] at j;show#[_,rfl,?_];have z:=Lp.pU (A:=Mx rs us) Ab (Aa h) lt (C:=2 ^ C) (λk=>zY<|g k) (k:=k) ⋯;show gU<|Ď z ?_;rw[show C+(f+5)+(↑us*e+x)=5+(C+(f+(↑us*e+x))) by omega,ab6 2 5,ab6 2 C];have d:Lp.gG ↑rs*2 ^ (↑us*e+x)<2 ^ (f+(↑us*e+x)):=by
  rw[ab6 2 f];show Ϻ a<|ϻ _
 show Nat.mul_lt_mul_of_lt_of_le (show ↑rs+1<2 ^ 5 by omega) (aa5 _<|ń d)<|Nat.mul_pos (ϻ _)<|ϻ _
end
def yR(f:Nat->Int):∀n,Lp.sm (n+1) f=f 0+Lp.sm n λk=>f<|k+1
 |0=>by rw[Lp.sm,Lp.sm,Lp.sm];omega
 |n + 1=>by rw[Lp.sm,yR f n,Lp.sm];omega
def oW{b:Int}{c:Rat}(h:(c.den:Int) ∣ b):((fH b c:Int):Rat)=b*c:=by
 let#[k,rfl]:=h;have hd:(c.den:Int)≠0:=by have:=c.den_pos;omega
 unfold fH;rw[Ě k hd,è,è];have e:c*(c.den:Int)=c.num:=by
  have:=Ż c;rw[ö] at this;have d:((c.den:Int):Rat)≠0:=λe=>hd<|aj0.mp e
  have m:=ĵ (a:=(c.num:Rat)) d;rw[this] at m;show m
 rw[<- e]
 grind
def Km(m:Nat)(A:aM)(c:Nat->Int)(S:Nat->Nat):∃u:Nat->Int,∀k,Lp.zz m A c S k=Lp.dd m A S*c k - Lp.sm m λi=>u i*A i k:=by
 show#[λi=>Lp.sm m λj=>c (S j)*Lp.dt m (Lp.up (Lp.bs A S) j λx=>if x=i then 1 else 0),λk=>?_];unfold Lp.zz;congr 1;rw[Lp.aY (g:=λj=>Lp.sm m λi=>c (S j)*(A i k*Lp.dt m (Lp.up (Lp.bs A S) j λx=>if x=i then 1 else 0))) λj a=>by rw[Lp.gN k a,Lp.bG],Lp.dI];show Lp.aY λi b=>?_
 rw[Ϣ,<- Lp.bG];show Lp.aY λj a=>?_
 grind
abbrev Bj(rs:av)(us:ah)(i:Nat):Int:=match rs[i]? with
 |some o=>sgn<|cL us o
 |none=>0
abbrev AR(rs:av)(us:ah)(i k:Nat):Int:=match rs[i]? with
 |some o=>A0 ↑us ↑rs i `aH `an k
 |none=>0
def KU(rs:av)(us:ah)(i k:Nat):Mx rs us i k=Bj rs us i*AR rs us i k:=by
 unfold Mx Bj AR;cases rs[i]? with
 |none=>rfl
 |some o=>rfl
def tu{rs:av}{us:ah}{i:Nat}{o:bR}(h:rs[i]?=À o)(k:Nat):AR rs us i k=A0 ↑us ↑rs i `aH `an k:=by unfold AR;rw[h]
def Gb{j:Type}(f g:j->Rat):∀{xs:List j}{i:Nat}{o:j},xs[i]?=À o->(xs.flatMap λo=>[f o,g o])[2*i]?=À (f o)/\(xs.flatMap λo=>[f o,g o])[2*i+1]?=À (g o)
 |x::xs,0,o,h=>by cases h;show#[rfl,rfl]
 |x::xs,i + 1,o,h=>Gb f g (xs:=xs) (i:=i) h
abbrev cY:av->(Nat->bR->Rat)->Rat
 |[],_=>0
 |o::rs,h=>h 0 o + cY rs λi=>h<|i + 1
def qG:∀{rs:av}{h g:Nat->bR->Rat},(∀i o,rs[i]?=À o->h i o=g i o)->cY rs h=cY rs g
 |[],_,_,_=>rfl
 |o::rs,h,g,e=>by rw[cY,cY,e 0 o rfl,qG λi o h=>e (i + 1) o h]
def Ip{F:Nat->Int}:∀{rs:av}{h:Nat->bR->Rat},(∀i o,rs[i]?=À o->((F i:Int):Rat)=h i o)->((Lp.sm ↑rs F:Int):Rat)=cY rs h
 |[],_,_=>rfl
 |o::rs,h,e=>by rw[Ú,yR,Ŕ,cY,e 0 o rfl,Ip (F:=λk=>F<|k + 1) λi o h=>e (i + 1) o h]
def vT(a:Rat):∀(rs:av)(h:Nat->bR->Rat),cY rs (λi o=>a*h i o)=a*cY rs h
 |[],_=>by rw[cY,cY];grind
 |o::rs,h=>by rw[cY,cY,vT a rs];grind
def Iq(rs:av)(us:ah)(cs:aw)(S:Nat->Nat){k:Nat}(h:k<=aU rs us):(fW rs us cs S).getD k 0=(Lp.zz ↑rs `ab (cf<|c9 cs) S k:Rat) / ((b5 cs*Lp.dd ↑rs `ab S:Int):Rat):=by
 unfold fW;rw[Ã,Ê,ê ⋯,<- ö];rfl
def GU:∀(rs:av)(h g:Nat->bR->Rat),cY rs (λi o=>h i o+g i o)=cY rs h+cY rs g
 |[],_,_=>by rw[cY,cY,cY];grind
 |o::rs,h,g=>by rw[cY,cY,cY,GU rs];grind
def Kn(rs:av)(us:ah)(cs:aw)(S:Nat->Nat):∃l:Nat->Int,∀k,Lp.zz ↑rs `ab (cf<|c9 cs) S k=Lp.dd ↑rs `ab S*cf `cG k - Lp.sm ↑rs λi=>l i*AR rs us i k:=by
 let#[u,a]:=Km ↑rs `ab (cf<|c9 cs) S;show#[λi=>u i*Bj rs us i,λk=>?_];rw[a k];congr 1;show Lp.aY λi _=>?_
 rw[KU,aa7]
def Y4(a:aw)(ss:a7)(k:Nat)(s:Rat)(p:aW×bK):s<=gZ a ss k s p:=by
 unfold gZ;split
 .split
  .split<;>grind
  .show Z7
 .show Z7
def zp(a:aw)(ss:a7)(k:Nat):∀(mk:aI)(s:Rat),s<=mk.foldl `bR s
 |[],_=>Z7
 |p::mk,s=>Rat.le_trans (Y4 a ss k s p)<|zp a ss k mk _
def Ir(a:aw)(ss:a7)(k j:Nat):∀(mk:aI)(s:Rat),((ï (j:Int):aW),À (k:Int))∈mk->lh a ss k j<=mk.foldl `bR s
 |p::mk,s,m=>by
  rcases æ.mp m with rfl |m
  .show Rat.le_trans ?_ (zp a ss k mk _);change lh a ss k j<=if (k:Int)=(k:Int) then (if s<lh a ss k ((j:Int).toNat) then lh a ss k ((j:Int).toNat) else s) else s
   rw[ao7 rfl,Ň];split<;>grind
  .show Ir a ss k j mk _ m
def Y5(cs:aw)(k:Nat):((cf `cG k:Int):Rat)=(b5 cs:Rat)*cs.getD k 0:=by
 unfold cf c9;rw[Ã,Ê,Ã];cases e:cs[k]? with
 |none=>change ((0:Int):Rat)=_ * 0;rw[ũ];rfl
 |some c=>show oW<|(gR cs 1 ∎).2.2.1 c<|Î e
abbrev Cb(rs:av)(us:ah)(c:Nat->Rat)(row:aw)(l:Nat->Rat):Prop:=∀k,k<=aU rs us->row.getD k 0=c k - cY rs λj _=>l j*(AR rs us j k:Rat)
def Y6{rs:av}{us:ah}{cs:aw}{S:Nat->Nat}(G:0<Lp.dd ↑rs `ab S):∃l,Cb rs us (λk=>cs.getD k 0) `cI l:=by
 let#[l,g]:=Kn rs us cs S;have f:(0:Rat)<((b5 cs*Lp.dd ↑rs `ab S:Int):Rat):=ó.mpr<|Ŧ (gR cs 1 ∎).1 G;have e:((b5 cs*Lp.dd ↑rs `ab S:Int):Rat)=(b5 cs:Rat)*(Lp.dd ↑rs `ab S:Rat):=è _ _;show#[λj=>(l j:Rat) / ((b5 cs*Lp.dd ↑rs `ab S:Int):Rat),λk m=>?_];rw[Iq _ _ _ _ m,g k,Rat.intCast_sub,è,Y5,Ip (F:=λi=>l i*AR rs us i k) (h:=λi _=>(l i:Rat)*(AR rs us i k:Rat)) λi o _=>è _ _];generalize ((b5 cs*Lp.dd ↑rs `ab S:Int):Rat)=D at *;have a:cY rs (λj _=>(l j:Rat) / D*(AR rs us j k:Rat))=D⁻¹*cY rs λj _=>(l j:Rat)*(AR rs us j k:Rat):=by
  rw[<- vT];show qG λj o _=>?_
  rw[Ģ]
  grind
 dsimp only;rw[a,Ģ];have:=ķ _<|ĕ f;clear a g f;generalize cY rs _=Z;generalize cs.getD k 0=c;generalize (Lp.dd ↑rs `ab S:Rat)=d at *;generalize (b5 cs:Rat)=b at *;subst e
 grind
def JT(a D b E:Int):(0 - Í a D) / Í b E=Í (-a*E) (D*b):=by
 rw[Ģ,ő,Œ,Μ,Rat.inv_divInt,ĸ]
def Ad(a D b c:Int){E:Int}(d:E≠0):Í (-a*E) (D*b)*Í c E=Í (-(a*c)) (D*b):=by
 rw[ĸ,show -a*E*c=(-(a*c))*E by grind,Ť d]
def Y7(x:Int){D:Int}(a:Int){b:Int}(c:Int)(d:D≠0)(e:b≠0):Í x D+Í (-(a*c)) (D*b)=Í (x*b - a*c) (D*b):=by
 have h:=ϰ d e;rw[al0 _ _ d h];show (Zt (ϰ d h) h).mpr (by grind)
def Y8{a:aw}{ss:a7}{k C:Nat}{mk:aI}(h:mU C ss mk):shr a ss k mk=0\/∃j row v,j<C/\ss[k]?=À row/\row[j]?=À v/\0<v/\shr a ss k mk=(0 - a.getD j 0) / v:=by
 unfold shr;have e:∀(l:aI)(s:Rat),(∀p∈l,p∈mk)->(s=0\/∃j row v,j<C/\ss[k]?=À row/\row[j]?=À v/\0<v/\s=(0 - a.getD j 0) / v)->(l.foldl `bR s=0\/∃j row v,j<C/\ss[k]?=À row/\row[j]?=À v/\0<v/\l.foldl `bR s=(0 - a.getD j 0) / v):=by
  intro l
  induction l with
  |nil=>intro s _ b;show b
  |cons p l x=>
   intro s o b;show x _ (λq m=>o q<|.tail _ m) ?_;∎;let#[kn,j,f,g,r,row,v,i,n,u]:=h.m p<|o p<|.head _;let#[y,A]:=p;∎;dsimp only at f g;subst f g;unfold gZ;dsimp only;split
   .rename_i hk;have d:kn=k:=⋯
    subst d;split
    .show .inr #[j,row,v,r,i,n,u,?_];unfold lh;rw[Ň,Ã (l:=ss),i,Zp,Ã (l:=row),n];rfl
    .show b
   .show b
 show e mk 0 (λ_ m=>m)<|.inl rfl
def Ae{ss:a7}{mk:aI}{st:aw×aw}{k C l d z:Nat}(h:mU C ss mk)(hk:k<↑ss)(J:aw)(M:↑st.1=C+1)(cd:CD l d (st.1++J))(hd:d<=l)(α:1<=l)(hr:(ss.getD k []).length=C+1)(cr:CD z z (ss.getD k [])):
  (n6 ss mk st k).1.length=C+1/\CD (l+z+1) (d+z) ((n6 ss mk st k).1++(J++[shr st.1 ss k mk*(ss.getD k []).getD C 0]))/\∀b∈ss.getD k [],bs (shr st.1 ss k mk)<=l+z/\bs (shr st.1 ss k mk*b)<=l+z+1:=by
 have r:ss[k]?=À (ss.getD k []):=by rw[Ã,Ì hk];rfl
 have mC:(ss.getD k []).getD C 0∈ss.getD k []:=by
  generalize ss.getD k []=row at hr ⊢;rw[Ã,Ì ⋯];show Ϲ _
 have up:shr st.1 ss k mk=0->CD (l+z+1) (d+z) (st.1++(J++[shr st.1 ss k mk*(ss.getD k []).getD C 0])):=λi=>by
  let#[D,h1,h2,h3]:=cd;show#[D,h1,⋯,λx m=>?_];rw[<- ô] at m;rcases Æ.mp m with m |m
  .obtain⟨a,e,ha⟩:=h3 x m;show#[a,e,⋯]
  .rw[ä.mp m,i,Ϙ];show#[0,(Ē _).symm,Ĝ _]
 unfold n6;dsimp only;rcases Y8 h with i |⟨j,row,v,hj,e3,e4,hv,n⟩
 .rw[ao7 i];show#[M,up i,λb u=>?_];rw[i];show (λb u=>#[by rw[kf];omega,by rw[Ϙ,kf];omega]:∀b∈ss.getD k [],bs 0<=l+z/\bs (0*b)<=l+z+1) b u
 .rw[r] at e3;cases e3;∎;let#[D,L,β,O]:=cd;let#[E,H,γ,I]:=cr;∎;have Q:∃x,st.1[j]?=À x:=#[_,Ì ⋯];∎;let#[x,ex]:=Q;let#[a,rfl,ha]:=O x<|Æ.mpr<|.inl<|Î ex;let#[b,rfl,hb]:=I v<|Î e4;∎;have G:0<b:=by
   apply Ĳ;intro q;have:Í b E<=0:=by
    have:=sD (a:=-b) (b:=E) ⋯ H;rw[<- Μ] at this;have:=Rat.neg_le_neg this;rwa[Rat.neg_neg,Rat.neg_zero] at this
   show ao8 hv<|ņ.mpr this
  rw[Ã,ex,Zp,JT] at n;have nz:=ϰ (é L)<|é G;have sb:bs (shr st.1 ss k mk)<=l+z:=by
   rw[n];show ny nz (Ñ `aR ?_)<|Ñ (dg _ _) ⋯;have:bi (-a)=bi a:=by unfold bi;rw[ŭ]
   omega
  have u:∀c∈ss.getD k [],bs (shr st.1 ss k mk*c)<=l+z+1:=λc A=>by
   let#[g,rfl,o]:=I c A;rw[n,Ad _ _ _ _<|é H];show ny nz ?_<|Ñ (dg _ _) ⋯;have e:bi (-(a*g))=bi (a*g):=by unfold bi;rw[ŭ]
   rw[e];show Ñ `aR ⋯
  split
  .next i=>show#[M,up i,λc A=>#[sb,u c A]]
  .show#[by rw[Z9,M,hr];omega,#[D*b,Ŧ L G,Ñ `aR ⋯,λy f=>?_],λc A=>#[sb,u c A]];have Y:∀y∈st.1++J,∃a:Int,y=Í a (D*b)/\bi a<=l+z+1:=λy f=>by
    let#[B,rfl,N]:=O y f;show#[B*b,(Ť<|é G).symm,Ñ `aR ⋯]
   rw[<- ô,Æ,Æ] at f;rcases f with (f |f) |f
   rotate_left
   .show Y y (Æ.mpr (.inr f))
   .rw[ä.mp f];let#[g,ec,o]:=I _ mC;rw[ec,n,Ad _ _ _ _<|é H];show#[_,rfl,?_];have e:bi (-(a*g))=bi (a*g):=by unfold bi;rw[ŭ]
    rw[e];show Ñ `aR ⋯
   have ez:ϳ (λa b=>a+shr st.1 ss k mk*b) st.1 (ss.getD k [])=(st.1.zip<|ss.getD k []).map λp=>p.1+shr st.1 ss k mk*p.2:=by rw[ū,Zv]
   rw[ez] at f;∎;let#[#[p,c],U,rfl]:=ß.mp f;let#[m1,m2]:=Ġ U;let#[B,rfl,N]:=O p<|Æ.mpr<|.inl m1;let#[g,rfl,o]:=I c m2;∎;show#[B*b - a*g,?_,?_]
   .rw[n,Ad _ _ _ _<|é H,Y7 _ _ _ (é L)<|é G]
   .have h1:=zJ (B*b)<|a*g;have h2:=dg B b;have h3:=dg a g;omega
abbrev wR(C:Nat)(ss:a7)(mk:aI)(i:Nat):Nat->aw
 |0=>[]
 |j + 1=>wR C ss mk i j ++ [shr (pp ss mk i j).1 ss (i - 1 - j) mk * (ss.getD (i - 1 - j) []).getD C 0]
section
variable{ss:a7}{mk:aI}{C z i:Nat}
def sW(b:∀row∈ss,row.length=C+1/\CD z z row)(k:Nat)(a:k<↑ss):(ss.getD k []).length=C+1/\CD z z (ss.getD k []):=by
 have e:ss[k]?=À (ss.getD k []):=by rw[Ã,Ì a];rfl
 show b _<|Î e
def AA(h:mU C ss mk)(e:∀row∈ss,row.length=C+1/\CD z z row)(f:i<↑ss)(l:1<=z):∀j,j<=i->(pp ss mk i j).1.length=C+1/\CD (z+j*(z+1)) (z+j*z) ((pp ss mk i j).1++wR C ss mk i j):=by
 intro j
 induction j with
 |zero=>intro _;let#[a,b]:=sW e i f;show#[a,by rw[Nat.zero_mul,Nat.zero_mul,aj5];change CD z z (ss.getD i [] ++ []);rw[Ą];show b]
 |succ j g=>
  intro m;∎;let#[a,b]:=g ⋯;let#[c,d]:=sW e (i - 1 - j) ⋯;let#[p1,p2,_]:=Ae (st:=pp ss mk i j) h ⋯ (wR C ss mk i j) a b (by rw[ac2];omega) ⋯ c d;∎;show#[p1,?_];rw[show z+(j+1)*(z+1)=z+j*(z+1)+z+1 by rw[ϥ];omega,show z+(j+1)*z=z+j*z+z by rw[ϥ];omega];show p2
def JU(h:mU C ss mk)(n:∀row∈ss,row.length=C+1/\CD z z row)(r:i<↑ss)(q:z+i*(z+1)<=3900)(p:1<=z):Eb C ss mk i:=by
 have g:=AA h n r p;have e:∀j,j<=i->z+j*(z+1)<=3900:=λj l=>Ñ (ϴ (ţ _ l) _) q
 show#[λj l=>#[(g j l).1,λx m=>?_],λj l b o=>?_]
 .show Ñ ((g j l).2.bs (by rw[ac2];omega)<|Æ.mpr<|.inl m) (e j ⋯)
 .obtain⟨a,b'⟩:=g j ⋯;∎;let#[c,d]:=sW n (i - 1 - j) ⋯;let#[_,_,p3]:=Ae (st:=pp ss mk i j) h ⋯ _ a b' (by rw[ac2];omega) ⋯ c d;let#[v,y]:=p3 b o;∎;have f:=e (j+1) ⋯;rw[ϥ] at f;have u:=d.bs (Ï _) o;omega
end
nonrec abbrev dw:=(Nat->Int)×Int×Int
abbrev jX(n:Nat)(y:Nat->Int)(q:Int)(a:Prop):List dw->Prop
 |[]=>a
 |g::gs=>g.2.1 * q < g.2.2 * Lp.sm n (λk=>g.1 k * y k) \/ (g.2.2 * Lp.sm n (λk=>g.1 k * y k)=g.2.1 * q /\ jX n y q a gs)
def jX.imp{n:Nat}{y:Nat->Int}{q:Int}{f d:Prop}(h:f->d):∀{e:List dw},jX n y q f e->jX n y q d e
 |[],p=>h p
 |_::_,p=>Or.imp id (λ⟨a,b⟩=>#[a,jX.imp h b]) p
def jX.snoc{n:Nat}{y:Nat->Int}{q:Int}{f:Prop}(g:dw):∀{d:List dw},jX n y q (g.2.1*q<g.2.2*Lp.sm n (λk=>g.1 k*y k)\/(g.2.2*Lp.sm n (λk=>g.1 k*y k)=g.2.1*q/\f)) d->jX n y q f (d++[g])
 |[],p=>p
 |_::_,p=>Or.imp id (λ⟨a,b⟩=>#[a,jX.snoc g b]) p
structure fv(z:Nat)(rs:av)(us:ah)(gs:List (aw×dw))(ss:a7)(S:Nat->Nat)(mk:aI):Prop where
 g:Lp.Gd ↑rs `ac `ab S
 n:kA ↑rs mk S
 m:mU `ac ss mk
 r:∀row∈ss,row.length=aU rs us+1/\CD z z row
 l:↑mk<=↑ss*aU rs us
 s:↑ss=↑gs
 k:∀(i:Nat)(p:aw×dw),gs[i]?=À p->∃l,Cb rs us (λk=>p.1.getD k 0) (ss.getD i []) l
 o:∀(i:Nat)(row:aw),ss[i]?=À row->∀k,k<aU rs us->row.getD k 0<0->∃a:Nat,a<i/\((ï (k:Int):aW),À (a:Int))∈mk
 c:∀p∈gs,p.2.1=cf (c9 p.1)/\0<p.2.2.2
 v:∀(i:Nat)(p:aw×dw),gs[i]?=À p->∃row x,ss[i]?=À (row++[x])/\0 - x=Í p.2.2.1 (p.2.2.2*b5 p.1)
 x:∀(q:Int)(y:Nat->Int),0<=q->Lp.eT ↑rs `ac `ab (λ_=>False) q y->jX `ac y q (Lp.eT ↑rs `ac `ab `dd q y) (gs.map (·.2))
 e:∀(q:Int)(y:Nat->Int),Lp.eT ↑rs `ac `ab `dd q y->∀p∈gs,p.2.2.2*Lp.sm `ac (λk=>p.2.1 k*y k)=p.2.2.1*q
def KW{z:Nat}{rs:av}{us:ah}:fv z rs us [] [] `cg []:=by
 show#[Jq,λi a h=>?_,#[λ_ m=>(nomatch m),λ_ m=>(nomatch m)],λ_ m=>(nomatch m),Ĝ _,rfl,(λ_ _ h=>nomatch h),(λ_ _ h=>nomatch h),λ_ m=>(nomatch m),λi p h=>?_,λq y _ F=>#[F.pE,F.nn,λk _ s=>?_,F.rhs],λ_ _ _ _ m=>(nomatch m)]
 .show ao8 (ox.mp h) ∅
 .cases h
 .show ao8 (ox.mp s) ∅
def T4(rs:av)(us:ah)(cs:aw)(S:Nat->Nat):fW rs us cs S=(Ç<|aU rs us).map (λk=>Í (Lp.zz ↑rs `ab (cf<|c9 cs) S k)<|b5 cs*Lp.dd ↑rs (Mx rs us) S)++[Í (Lp.zz ↑rs `ab (cf<|c9 cs) S<|aU rs us)<|b5 cs*Lp.dd ↑rs (Mx rs us) S]:=by
 unfold fW;rw[Fx]
def Iu{rs:av}{us:ah}{mk:aI}{cs:aw}{S:Nat->Nat}{a:Int}:∀p∈mk,p∈fq ↑rs `ac `ab mk (cf<|c9 cs) S a `ac:=λp m=>by
 unfold fq;show Æ.mpr<|.inl m
def fv.step{z:Nat}{rs:av}{us:ah}{H:List (aw×dw)}{ss:a7}{S d:Nat->Nat}{mk:aI}{cs:aw}(h:fv z rs us H ss S mk)(hz:z<=3000)(U:dW rs us cs)(G:Lp.Gd ↑rs `ac `ab d)(hN:kA ↑rs mk d)(N:um ↑rs `ac `ab mk (cf<|c9 cs) d)(Q:CD z z (fW rs us cs d)):
  fv z rs us (H++[(cs,cf<|c9 cs,- Lp.zz ↑rs (Mx rs us) (cf<|c9 cs) d (aU rs us),Lp.dd ↑rs (Mx rs us) d)]) (ss++[fW rs us cs d]) d (fq ↑rs `ac `ab mk (cf<|c9 cs) d ↑ss<|aU rs us):=by
 have D:(fW rs us cs d).length=aU rs us+1:=by unfold fW;rw[Å,Õ]
 have hb:=(gR cs 1 ∎).1;show#[G,λi A s=>?_,#[λrow m v O=>?_,λp m=>?_],λrow m=>?_,?_,by rw[Ò,Ò,h.s];rfl,λi p e=>?_,λi row e k f hn=>?_,λp m=>?_,λi p e=>?_,λq y hq F=>?_,λq y F p m=>?_]
 .rcases ql.mp s with s |⟨_,s⟩
  .show hN i A s
  .rw[Lp.eJ A] at s;omega
 .rcases Æ.mp m with m |m
  .show h.m.r row m v O
  .rw[ä.mp m] at O;show Ñ (Q.bs (Ï _) O) hz
 .unfold fq at m;rcases Æ.mp m with m |m
  .obtain⟨kn,j,u,C,I,row,v,E,Y,hv⟩:=h.m.m p m;show#[kn,j,u,C,I,row,v,?_,Y,hv];rw[î (Á.mp E).1];show E
  .obtain⟨j,mj,rfl⟩:=ß.mp m;let#[h1,L]:=ϕ.mp mj;have I:=ī.mp h1;unfold lj at L;simp only[í,decide_eq_true_eq] at L;show#[ss.length,j,rfl,rfl,I,fW rs us cs d,Í (Lp.zz ↑rs `ab (cf<|c9 cs) d j)<|b5 cs*Lp.dd ↑rs (Mx rs us) d,by rw[ç<|Ï _,ab2];rfl,?_,?_]
   .unfold fW;rw[Ê,ê ⋯];rfl
   .have hd:=Ŧ hb G.pos;have h0:=sD (ľ L.1) hd;show Rat.lt_of_le_of_ne h0 λe=>?_
    rw[<- Ē 1] at e;have:=(Zt ∎ (é hd)).mp e;omega
 .rcases Æ.mp m with m |m
  .show h.r row m
  .rw[ä.mp m];show#[D,Q]
 .have a:=GS (m:=↑rs) (n:=aU rs us) (M:=Mx rs us) (mk:=mk) (c:=cf<|c9 cs) (S:=d) (a:=(↑ss:Int)) (i:=aU rs us);have b:=h.l;rw[Ò,ŕ,ϥ];omega
 .rw[ŝ] at e;split at e
  .next A=>
   let#[l,hl]:=h.k i p e;rw[Ã,î (by rw[h.s];show A),<- Ã];show#[l,hl]
  .next A=>
   have g:i - ↑H=0:=by
    have:=(Á.mp e).1;simp at this;omega
   rw[g] at e;cases e;rw[show i=↑ss by rw[h.s];omega,Ã,ç<|Ï _,ab2];show Y6 G.pos
 .rw[ŝ] at e;split at e
  .obtain⟨a,ha,m⟩:=h.o i row e k f hn;show#[a,ha,Iu _ m]
  .next A=>
   have g:i - ↑ss=0:=by
    have:=(Á.mp e).1;simp at this;omega
   rw[g] at e;cases e;have hs:fa mk k:=Ĳ λs=>by
    rw[Iq _ _ _ _ ⋯,Ģ] at hn;have D1:(0:Rat)<((b5 cs*Lp.dd ↑rs `ab d:Int):Rat):=ó.mpr<|Ŧ hb G.pos;show ao8 hn<|ņ.mpr<|ŋ (Ķ.mpr<|N k f s)<|ZM<|Rat.inv_pos.mpr D1
   ∎;let#[#[y1,y2],mp,ep]:=ox.mp hs;let#[kn,j,u,C,I,row,v,E,Y,hv]:=h.m.m _ mp;∎;dsimp only at ep u C;subst u ep;show#[kn,by have:=(Á.mp E).1;omega,Iu _ mp]
 .rcases Æ.mp m with m |m
  .show h.c p m
  .rw[ä.mp m];show#[rfl,G.pos]
 .rw[ŝ] at e;split at e
  .obtain⟨row,x,u,C⟩:=h.v i p e;show#[row,x,by rw[î (Á.mp u).1];show u,C]
  .rename_i A;have g:i - ↑H=0:=by
    have:=(Á.mp e).1;simp at this;omega
   rw[g] at e;cases e;have ei:i=↑ss:=by rw[h.s];omega
   show#[_,_,by rw[ei,ç<|Ï _,ab2,T4];rfl,?_];rw[ő,Œ,Μ,Ϣ]
 .rw[Û];show jX.snoc _<|(h.x q y hq F).imp λF'=>?_;let#[B,J]:=Lp.opt (c:=cf<|c9 cs) (S:=d) (zX U.c.1) (λk f s=>N k f s) F';dsimp only;have e:-(q*Lp.zz ↑rs `ab (cf<|c9 cs) d `ac)=- Lp.zz ↑rs `ab (cf<|c9 cs) d `ac*q:=by grind
  rw[e] at B J;rcases Int.lt_or_eq_of_le B with B |B
  .show .inl B
  .have F2:=J.mp B.symm;show .inr #[B.symm,F2.pE,F2.nn,λk f s=>?_,F2.rhs];rcases ql.mp s with s |⟨_,s⟩
   .show F2.sz k f (.inl s)
   .show F2.sz k f (.inr s)
 .have F1:Lp.eT ↑rs `ac `ab `dd q y:=#[F.pE,F.nn,λk f s=>F.sz k f<|ql.mpr<|.inl s,F.rhs]
  rcases Æ.mp m with m |m
  .show h.e q y F1 p m
  .rw[ä.mp m];have J:=(Lp.opt (c:=cf<|c9 cs) (S:=d) (zX U.c.1) (λk f s=>N k f s) F1).2.mpr #[F.pE,F.nn,λk f s=>?_,F.rhs]
   .dsimp only;rw[J]
    grind
   .rcases s with s |s
    .show F.sz k f (ql.mpr (.inl s))
    .show F.sz k f (ql.mpr (.inr ⟨f,s⟩))
structure ur(z:Nat)(rs:av)(us:ah):Prop where
 b:qa rs us
 y:Sz ↑rs `ac `ab
 s:∀o∈rs,0<bg us o/\bi `al<=100
 k:∀r:Int,dW rs us (cF us rs r)/\∀S,Lp.Gd ↑rs `ac `ab S->CD z z (fW rs us (cF us rs r) S)
 c:∀ps:List (Str×Rat),(∀u,(bU ps u).getD 0=0\/(bU ps u).getD 0=1)->dW rs us (dq us ↑rs ps)/\∀S,Lp.Gd ↑rs `ac `ab S->CD z z (fW rs us (dq us ↑rs ps) S)
 h:1<=z/\z<=645
def dW.cb{rs:av}{us:ah}{cs:aw}(h:dW rs us cs){X:Nat}(a:0<X)(hd:∀c∈cs,(c.den:Int) ∣ (X:Int)):bi (b5 cs)<=bi (X:Int):=jj ((gR cs 1 ∎).2.2.2 X (ϐ _) hd) a
def JV{rs:av}{us:ah}{e x v M N s z:Nat}(h:∀o∈rs,iu e x v M us o)(hm:↑rs<=N)(i:N<=16)(A:↑us<=8)(d:0<M)(hs:bi (M:Int)<=s)(n:s<=100)(hz:2+s+v+(fb N+5)+(↑us*e+x)<=z)(q:z<=645):ur z rs us:=by
 have f:=Js hm i;have l:2<=fb N:=by unfold fb;split<;>decide
 have hn:aU rs us<=60:=by unfold aU;omega
 show#[#[⋯,⋯,λo m=>(h o m).b],KQ h ⋯ f hn ⋯,λo m=>#[(h o m).p,Ñ (jj (h o m).sd d) ⋯],λr=>?_,λj g=>?_,⋯]
 .obtain⟨a,b⟩:=KR h d hs r ⋯;show#[a,λS G=>?_];show (Io (S:=S) h ⋯ f (C:=s+v) (y:=s) G.lt G.pos b (Ñ (a.cb d<|Jv h r) hs) ⋯).mono ⋯ ⋯
 .obtain⟨a,b⟩:=KS (rs:=rs) (us:=us) g;show#[a,λS G=>?_];have c:bi (b5<|dq us ↑rs j)<=1:=Ñ (a.cb (X:=1) ∎ λc m=>by
   unfold dq at m;rcases Æ.mp m with m |m
   .obtain⟨u,_,rfl⟩:=ß.mp m;rcases g u with e |e<;>rw[e]<;>show ϐ _
   .rw[Ω m];show ϐ _) (by walk_at "k")
  have:=Io (S:=S) h ⋯ f (C:=2) (y:=1) G.lt G.pos (λk=>Ñ (b k) ⋯) c ⋯;show this.mono ⋯ ⋯
structure Bz(N z:Nat)(rs:av)(us:ah):Prop where
 n:N<=16
 q:∀qs:av,(∀o∈qs,o∈rs)->↑qs<=N->ur z qs us
def Jw{rs:av}{us:ah}{e x v M N s z:Nat}(h:∀o∈rs,iu e x v M us o)(a:N<=16)(j:↑us<=8)(f:0<M)(hs:bi (M:Int)<=s)(b:s<=100)(hz:2+s+v+(fb N+5)+(↑us*e+x)<=z)(d:z<=645):Bz N z rs us:=#[a,λ_ i g=>JV (λo m=>h o<|i o m) g a j f hs b hz d]
def T5{f g:Fl}{rs:av}{us:ah}[Fp f][Fp g](a:qa rs us){R:az}(q:R (cw T .o<|wV rs us)):k6 T [.ins .o T.aah [],.ag f ↥rs,.ag g ↥us] λt b=>t=.aT/\qu b[0]? R:=#[rfl,f,g,rs,us,‹_›,‹_›,rfl,a,λj e=>#[rfl,by rw[e];show#[q5 T _,q]]]
inductive tJ(T:Tx w K mg)(xs:af)(Q:Tr->aA):Prop
 |mk(_:↑xs=2)(f g:Fl)(rs:av)(us:ah)(z:Nat)(_:Fp f)(_:Fp g)(_:xs=[.ag f ↥rs,.ag g ↥us])(_:ur z rs us)(_:∀(p:aw×dw) (ss:a7) (S:Nat->Nat) (mk:aI),p.1=cF us rs 0->fv z rs us [p] ss S mk->∀j,Q (cw T .o (eS rs us ss S mk)) j):tJ T xs Q
def Eg{z:Bool}:aJ P w K mg base bI 6 T.rN.a T.rN.d ["rows","unknowns"] (bP K z 0 2<|tJ T):=by
 show cc T.rN.F MH rfl ∎ λbH A outer s H E I J r=>?_
 show#[_,(aO (jh 2<|IF T.uy (MC T) T.K8<|QA.aB<|ak (qv 0)<|ak (qv 1) aC)
  (aO (zA<|qE (dz 2) (fh T T.rO<|Em T)<|mF (eK (fh T T.rA<|Ej T) (qv 2)<|ak (nP T.uY) aC) qO)
  (aZ<|mw<|mr 2))),?_]
 intro L D _ zy;let#[_,f,g,rs,us,C,_,_,rfl,i,q]:=zy;let#[p,x]:=i.k 0;have u:=KW (z:=C) (rs:=rs) (us:=us);rfl';show T5 T i.b #[tN T _,yQ rfl (by intro z;cases z)<|f7 T ?_];rw[Y1];rfl';simp only[fk,fT,dO,eD,d7];show f7 T #[rfl,.l É,rs,us,[],S0 rs us,[],_,inferInstance,rfl,i.b,λo m=>#[(i.s o m).1,by have:=(i.s o m).2;omega],λ_=>?_];rfl';show#[rfl,.f,rs,us,[],S0 rs us,[],cF us rs 0,inferInstance,rfl,i.y,Jq,u.n,p,by simp,by simp,λv G r B j e=>?_];rw[e,d7];show#[q5 T _,?_];rw[d7];show#[q5 T _,q _ _ _ _ rfl (u.step (by have:=i.h.2;omega) p G r B<|x v G) _]
abbrev n9:bR:=([],"",0,0,1)
abbrev pick(rs:av)(ks:aF):av:=ks.map λk=>rs.getD k.toNat n9
abbrev Val(rs:av)(ks:aF):Prop:=∀k∈ks,0<=k/\k.toNat<↑rs
def Af{rs:av}{ks:aF}(h:Val rs ks){k:Int}(m:k∈ks):cS rs k=À (rs.getD k.toNat n9):=by
 let#[a,b]:=h k m;rw[wq rs a b,Ã,Ì b];rfl
def GV{rs:av}{us:ah}{ks:aF}{N z:Nat}(b:Bz N z rs us)(a:↑ks<=N)(d:Val rs ks):ur z (pick rs ks) us:=
 b.q _ (λo m=>by
  let#[k,mk,rfl]:=ß.mp m;rw[Ã,Ì (d k mk).2];show Ϲ _) (by unfold pick;rw[Å];show a)
def Y9{rs:av}{us:ah}{a:aw}(h:∀y∈a,bs y<=645)(hs:∀o∈rs,bi `al<=100):∀x∈jV rs us a,bs x<=1500:=by
 intro x m;unfold jV at m;let#[i,_,rfl]:=ß.mp m;have at':∀j,bs (a.getD j 0)<=645:=λj=>by
  rw[Ã];cases e:a[j]? with
  |none=>change bs 0<=645;rw[kf];decide
  |some y=>show h y<|Î e
 unfold jU;cases e:rs[i]? with
 |none=>change bs 0 <= 1500;rw[kf];decide
 |some o=>
  have so:=hs o<|Î e;have g:=at'<|↑us+2*i;have l:=at'<|↑us+2*i+1;have b:=sV so;have d:=sV (x:=-bg us o) (by unfold bi;rw[ŭ];show so);have f:bs (Í `al 2)<=100:=ny ∎ so (by walk_at "k");change bs (n7 _ _ _ _)<=1500;unfold n7;split
  .have:=wg (a.getD (↑us+2*i+1) 0) (bg us o:Rat);omega
  .split
   .have:=wg (a.getD (↑us+2*i) 0) ((-bg us o:Int):Rat);omega
   .have:=wg (a.getD (↑us+2*i+1) 0 - a.getD (↑us+2*i) 0)<|Í (bg us o) 2;have:=qT (a.getD (↑us+2*i+1) 0)<|a.getD (↑us+2*i) 0;omega
abbrev dK(d:List (Int×Rat)):bz:=d.map λp=>((ï p.1:aW),ae.t p.2)
def nF(d:List (Int×Rat)):lY (dK d)=Â:=by
 have:=kg<|d.map λp=>((ï p.1:aW),p.2);rw[þ] at this;show this
abbrev qx(d:List (Int×Rat))(y:Int)(k:Rat):List (Int×Rat):=if (d.any λp=>decide<|p.1=y)=Â then d.map (λp=>if p.1=y then (p.1,k) else p) else d++[(y,k)]
def Za(d:List (Int×Rat))(y:Int)(k:Rat):jL (dK d) (ï y) (ae.t k)=dK (qx d y k):=by
 unfold jL qx;have e:((dK d).any λa=>decide<|a.1=(ï y:aW))=d.any λp=>decide (p.1=y):=by
  unfold dK;rw[List.any_map];congr 1;funext p;show decide_eq_decide.mpr #[λz=>Η z,λz=>by change (ï p.1:aW)=_;rw[z]]
 rw[e];split
 .unfold dK;rw[þ,þ];show č λp _=>?_
  change (if (ï p.1:aW)=ï y then ((ï p.1:aW),ae.t k) else (ï p.1,ae.t p.2))=(ï (if p.1=y then (p.1,k) else p).1,ae.t (if p.1=y then (p.1,k) else p).2)
  by_cases h:p.1=y
  .rw[ao7 h,ao7<|by rw[h]]
  .rw[ao6 h,ao6<|λz=>h<|Η z]
 .unfold dK;rw[Û];rfl
def T6{d:List (Int×Rat)}{y:Int}{k:Rat}{ks:aF}(h:∀p∈d,p.1∈ks)(a:y∈ks):∀p∈qx d y k,p.1∈ks:=λp m=>by
 unfold qx at m;split at m
 .obtain⟨p',mp,rfl⟩:=ß.mp m;split
  .show h p' mp
  .show h p' mp
 .rcases Æ.mp m with z |z
  .show h p z
  .rw[ä.mp z];show a
def T7(d:List (Int×Rat))(y:Int)(k:Rat):(qx d y k).length<=↑d+1:=by
 unfold qx;split
 .rw[Å];omega
 .rw[Ò];show Ï _
def JP(d:List (Int×Rat)):Pu.aB (.aP .o<|dK d)=.aP .f (dK d):=by change Tr.aP .f (dJ _)=_;rw[show dJ (dK d)=dK d from (b8 _<|nF d).f]
def KY(S:hB):Pu.aB `dL=cq T .f S:=by
 unfold cq gj;change Tr.ins .f _ (fU _)=_;simp only[fU,ia,E4,gP,show Pu.aB (.aP .o<|mT S.m)=.aP .f (mT S.m) from by change Tr.aP .f (dJ _)=_;rw[show dJ (mT S.m)=mT S.m from (b8 _<|kg S.m).f]];rfl
def JQ(S:iw):Pu.aB `dM=cw T .f S:=by
 unfold cw ip;change Tr.ins .f _ (fU _)=_;simp only[fU,ia,KY,gP];rfl
inductive jx(xs:af)(Q:Tr->aA):Prop
 |mk(_:↑xs=3)(f g h:Fl)(rs:av)(us:ah)(ks:aF)(N zz:Nat)(_:Fp f)(_:Fp g)(_:Fp h)(_:xs=[.ag f ↥rs,.ag g ↥us,.ag h ↥ks])(_:Bz N zz rs us)(_:↑us<=8)(_:↑ks<=N)(_:Val rs ks)(_:∀d:List (Int×Rat),(∀p∈d,p.1∈ks)->↑d<=↑ks->∀j,Q (.aP .o (dK d)) j):jx xs Q
def Ek{z:Bool}:aJ P w K mg base bI 7 T.rB.a T.rB.d ["rows","unknowns","numbers"] (bP K z 0 3 jx):=by
 show cc T.rB.F MR rfl ∎ ?_
 intros
 show#[_,(aO (bC 3<|qc T.rN (Eg T)<|ak (hJ ["number","rows"] [È,À 0] (fj<|qv 2) (eF 0) (λ_ _ _ _ _=>(a8 (qv 1)<|qv 0)))<|ak (qv 1) aC)
  (aO (bC 4<|eK (fh T T.qj<|yA T) (qv 3)<|ak aD aC)
  (aO (jh 5 wo)
  (aO (cN (cm gB gp `ei<|gb [0,1] T.gw T.gx) (aZ<|mw<|mr 5) cM)
  (aO (fL (mE T.l7<|ak (qv 2)<|ak (eK (fh T T.rP<|En T) (qv 3)<|ak (a8 (cK K<|qv 3) aD) aC) aC) (iU (n:=2) rfl<|dP (cR 6)<|dP (cR 7) iN)<|aZ<|cN (cm jR jP (qv 7)<|gb [0,1] T.gw T.gx) (aZ<|wC (dz 5) (qv 6)<|qc T.rK (Hx T)<|ak (qv 7)<|ak (qv 4) aC) cM)
  (aZ<|mw<|mr 5)))))),?_]
 intro xs Q' _ zy;let#[_,f,g,h,rs,us,ks,N,zz,_,_,_,rfl,B,U,E,O,q]:=zy;have J:=B.n;have l:=GV B E O;have α:=l.h.2;rfl';show bc.map ks _ (λk=>rs.getD k.toNat n9) ⋯ (λk mk R l=>?_) ?_
 .rfl';show dE _ _ _ (Af O mk) l
 rfl';show#[rfl,.f,g,pick rs ks,us,zz,inferInstance,‹_›,rfl,l,λp ss S mk hp M _=>?_];let#[row,e,A,_]:=M.v 0 p rfl;have u:=M.r _<|Î A;have C:∀y∈row++[e],bs y<=645:=λy m=>Ñ (u.2.bs (Ï _) m) l.h.2
 have Y:=C e<|Æ.mpr<|.inr<|.head _;have L:=l.b.r;simp only[JQ,fk,fT,dO,eD,d7];show#[tN T _,f7 T #[rfl,.f,_,0,row,e,inferInstance,rfl,A,⋯,λ_=>?_]];have G:=qT 0 e;rw[kf] at G;rfl';show#[rfl,tm ?_];rfl';by_cases I:0 - e=0
 .rw[ao7<|ao9 I];show#[rfl,q [] (λ_ m=>(nomatch m)) (Ĝ _) _]
 .rw[ao6<|by simpa using I];show f7 T<|qz T ?_;rw[gQ,gO];show dE _ _ _ (eH (s:=0) A) ?_;rw[ia,kr];show#[rfl,.f,.f,pick rs ks,us,ss,S,mk,row++[e],inferInstance,inferInstance,rfl,⋯,u.1,λy m=>Ñ (C y m) ⋯,λo m=>(l.s o m).2,λ_=>?_];have H:=Y9 (rs:=pick rs ks) (us:=us) C λo m=>(l.s o m).2
  rw[gP,aa4,f6,lN,vz];show#[iD _,Loop.map (ks.zip<|jV (pick rs ks) us<|row++[e]) _ (λi j=>∃(d:List (Int×Rat))(a b:Tr),j=[.ag f ↥rs,.ag g ↥us,.ag h ↥ks,cw T .f<|eS (pick rs ks) us ss S mk,ae.t<|0 - e,.aP .o<|dK d,a,b]/\(∀p∈d,p.1∈ks)/\↑d<=i) #[[],_,_,rfl,λ_ m=>(nomatch m),Ï _] ?_ ?_]
  .rintro i ⟨k,x⟩ j hi ⟨d,a,b,rfl,hd,hdl⟩;have hm:=Ġ<|Î hi;have D:=(Á.mp hi).1;rw[Đ] at D;rfl';show tm ?_;rfl';by_cases Q:x=0
   .rw[ao6<|by simp[Q]];show#[d,_,_,rfl,hd,⋯]
   .rw[ao7<|by simp[Q]];have:=H x hm.2
    skip
    show#[rfl,x,0 - e,rfl,I,⋯,λ_=>?_];rw[ia,Za];show#[i2 _,by unfold dK;rw[Å];omega,_,_,_,rfl,T6 hd hm.1,Ñ (T7 _ _ _) ⋯]
  .rintro j ⟨d,a,b,rfl,hd,hdl⟩;rfl';rw[Đ] at hdl;show#[(b8 _<|nF d).o,q d hd ⋯ _]
inductive ie(xs:af)(Q:Tr->aA):Prop
 |mk(_:↑xs=3)(f g h:Fl)(rs:av)(us:ah)(ks:aF)(N zz:Nat)(_:Fp f)(_:Fp g)(_:Fp h)(_:xs=[.ag f ↥rs,.ag g ↥us,.ag h ↥ks])(_:Bz N zz rs us)(_:↑us<=8)(_:↑ks<=N)(_:Val rs ks)(_:∀d:List (Int×Rat),∀j,Q (.aP .f (dK d)) j):ie xs Q
def MM:aJ P w K mg base bI 8 T.uB.a T.uB.d ["rows","unknowns","numbers"] (bP K Â 0 3 ie):=by
 show cc T.uB.F MS rfl ∎ ?_
 intros
 show#[_,(aO (bC 3<|qc T.rB (Ek T)<|ak (qv 0)<|ak (qv 1)<|ak (qv 2) aC)
  (aO (fL (fj<|jO (ki rfl) jZ T.gS<|ak (qv 3) aC) (cR 4) (aZ (cN (cm Kb Yh `ei<|qv 3) (aO (bC 5 (qc T.rB (Ek T) (ak (qv 0) (ak `bL (ak (Sw rfl (VL (Gx (N:=["other","number"]) (ix:=[È,À 4]) rfl (VJ<|pv 3) (λ_ _ _ _ _=>y9 (show (["other","number"]:ah).Nodup by decide) rfl `aj<|.inr rfl) (λ_ _ _ _ _=>Gw<|F8 Du (pv 0) (pv 1)<|XI _) (λ_ _ _ _ _=>pv 0) #[rfl,rfl,rfl,ý]))) aC)))))
  (aZ<|bC 3<|tE (X0 rfl<|qv 5) (qv 5)<|qv 3)) cM)))
  (aZ<|bW<|qv 3))),?_]
 intro O M _ zy;let#[_,f,g,h,rs,us,ks,N,zz,_,_,_,rfl,u,y,E,I,q]:=zy;have H:=u.n;rfl';show#[rfl,f,g,h,rs,us,ks,N,zz,‹_›,‹_›,‹_›,rfl,u,y,E,I,λd hd L _=>?_];rw[JP];rfl';have r:∀d:List (Int×Rat),(dK d).map (λp=>lF p.1)=(d.map (·.1)).map ae.t:=λd=>by
  unfold dK;rw[þ,þ];rfl
 have D:∀d:List (Int×Rat),(dK d).map (·.1)=(d.map (·.1)).map λn=>(ï n:aW):=λd=>by
  unfold dK;rw[þ,þ];rfl
 show#[(b8 _<|nF d).t,?_];rw[zB,r,gP,f6,lN];show#[iD _,Loop.map (d.map (·.1)) _ (λ_ j=>∃(e:List (Int×Rat))(a b:Tr),j=[.ag f ↥rs,.ag g ↥us,.ag h ↥ks,.aP .f<|dK e,a,b]/\(∀p∈e,p.1∈ks)/\↑e<=N) #[d,_,_,rfl,hd,⋯] ?_ ?_]
 .rintro i k j hi ⟨e,a,b,rfl,hd',hl'⟩;rfl';change if ((look (dK e)<|ï k).isSome)=Â then _ else _
  split
  .show#[dK e,e.map (·.1),k,rfl,D e,rfl,by rw[Å];omega,?_];have m:Val rs ((e.map (·.1)).filter λx=>!decide (x=k)):=λx G=>by
    let#[p,A,rfl]:=ß.mp (ϕ.mp G).1;show I _<|hd' p A
   have l:((e.map (·.1)).filter λx=>!decide (x=k)).length<=N:=Ñ (Ĺ _ _) (by rw[Å];show hl');have v:∀x∈(e.map (·.1)).filter (λx=>!decide (x=k)),x∈ks:=λx G=>by
    let#[p,A,rfl]:=ß.mp (ϕ.mp G).1;show hd' p A
   generalize (e.map (·.1)).filter (λx=>!decide (x=k))=fs at m l v ⊢;have J:cA (bf<|fs.map Tr.int)=↥fs:=by rw[show fs.map Tr.int=↥fs from rfl,lM,pq]
   rw[J];show#[rfl,f,g,.f,rs,us,fs,N,zz,‹_›,‹_›,inferInstance,rfl,u,y,l,m,λB C E8 _=>?_];rw[JP];rfl';show#[(b8 _<|nF B).t,?_];split
   .show#[(b8 _<|nF B).t,B,_,_,rfl,λp A=>v _<|C p A,⋯]
   .show#[(b8 _<|nF e).t,e,_,_,rfl,hd',hl']
  .show#[e,_,_,rfl,hd',hl']
 .rintro j ⟨e,a,b,rfl,hd',hl'⟩;rfl';show#[(b8 _<|nF e).o,q e _]
def ME:aJ P w K mg base bI 1 T.mZ.a T.mZ.d ["self","numbers","weights"] (yi K T.abC):=by
 show T.mZ.F.ok MA (λvs H Q E h=>?_) λbH A outer s H vs Q E f h=>?_
 .obtain⟨_,_,_,_,_,rfl,_⟩:=h;rfl
 .obtain⟨e,a,b,xs,ys,rfl,he,ha,hb,q⟩:=h;show#[_,yT (vH<|KC T.mZ.t rfl T.Ln<|kI (pv 0)<|kI HL lL)<|yT (JD T.mZ.t T.Lb (pv 0) (oF acl rfl T.gS rfl<|kI (pv 1) lL) rfl)<|y8<|JD T.mZ.t T.Lc (pv 0) (oF acl rfl T.gS rfl<|kI (pv 2) lL) rfl,WL he ha hb q]
abbrev yB(d:List (Int×Rat)):Xv:=#[.ref T.abC,[("weights",.ag .f ((d.map (·.2)).map ae.t)),("numbers",.ag .f ((d.map (·.1)).map ae.t))]]
inductive nS(T:Tx w K mg)(xs:af)(Q:Tr->aA)(q:Xv->Prop):Prop
 |mk(_:↑xs=3)(f g h:Fl)(rs:av)(us:ah)(ks:aF)(N zz:Nat)(_:Fp f)(_:Fp g)(_:Fp h)(_:xs=[.ag f ↥rs,.ag g ↥us,.ag h ↥ks])(_:Bz N zz rs us)(_:↑us<=8)(_:↑ks<=N)(_:Val rs ks)(_:∀(p:aw×dw) (ss:a7) (S:Nat->Nat) (mk:aI),p.1=cF us (pick rs ks) 0->fv zz (pick rs ks) us [p] ss S mk->p.2.2.1 ≠ 0->∀d,q (yB T d))(_:∀(p:aw×dw) (ss:a7) (S:Nat->Nat) (mk:aI),p.1=cF us (pick rs ks) 0->fv zz (pick rs ks) us [p] ss S mk->p.2.2.1=0->∀j,Q (cw T .o (eS (pick rs ks) us ss S mk)) j):nS T xs Q q
def Rg:aJ P w K mg base `bc 9 T.uC.a T.uC.d ["rows","unknowns","numbers"] (jc K Â 0 3<|nS T):=by
 show wA T.uC.F Q9 rfl ∎ λbH A outer s H E q hr hu hN=>?_
 show#[_,(aO (jh 3<|qc T.rN (Eg T)<|ak (hJ ["number","rows"] [È,À 0] (fj<|qv 2) (eF 0) (λ_ _ _ _ _=>(a8 (qv 1)<|qv 0)))<|ak (qv 1) aC)
  (aO (cN (cm gB gp (eK (fh T T.qj<|yA T) (qv 3)<|ak aD aC)<|gb [0,1] T.gw T.gx) (aZ<|mw<|mr 3) cM)
  (aO (bC 4<|qc T.uB (MM T)<|ak (qv 0)<|ak (qv 1)<|ak (hJ ["number","rows"] [È,À 0] (fj<|qv 2) (eF 0) (λ_ _ _ _ _=>(qv 0)) (ht:=λ_ _ _ _ _=>(Wz<|cm gB gp (a8 (a8 (qv 1)<|qv 0) aD)<|nP T.uY))) aC)
  (aZ<|Su rfl rfl rfl rfl rfl rfl T.BF T.mZ.t ((ME T).mono ⋯) hr T.mZ.b<|ak (jO (ki rfl) jZ T.gS<|ak (qv 4) aC)<|ak (Kf rfl rfl T.gS<|qv 4) aC)))),?_]
 intro xs Q' _ zy;let#[_,f,g,h,rs,us,ks,N,zz,_,_,_,rfl,o,O,C,L,q1,q2]:=zy;have Q:=o.n;have J:=GV o C L;have β:=J.h.2;rfl';show bc.map ks _ (λk=>rs.getD k.toNat n9) ⋯ (λk mk R J=>?_) ?_
 .rfl';show dE _ _ _ (Af L mk) J
 rfl';show#[rfl,.f,g,pick rs ks,us,zz,inferInstance,‹_›,rfl,J,λp ss S mk U y _=>?_];let#[row,I,u,M]:=y.v 0 p rfl;have G:=y.r _<|Î u;have α:=G.2.bs (Ï _) (Æ.mpr (.inr<|.head _):I∈row++[I]);have D:=Ŧ (y.c p<|.head _).2 (gR p.1 1 ∎).1;have i:0 - I=0↔p.2.2.1=0:=by
  rw[M];constructor
  .intro e;rw[<- Ē 1] at e;have:=(Zt (é D) ∎).mp e;omega
  .intro e;rw[e,Ē]
 try simp only[fk,fT,dO,eD,d7]
 show#[tN T _,f7 T #[rfl,.l É,_,0,row,I,inferInstance,rfl,u,⋯,λ_=>?_]];show tm ?_;rfl';by_cases ht:0 - I=0
 .rw[ao7<|ao9 ht];show#[q5 T _,q2 p ss S mk U y (i.mp ht) _]
 .rw[ao6<|by simpa using ht];have B:=q1 p ss S mk U y λz=>ht<|i.mpr z
  have m:Val rs (ks.filter λk=>decide<|(rs.getD k.toNat n9).2.2.2.1=0):=λx mx=>L x (ϕ.mp mx).1
  have j:(ks.filter λk=>decide<|(rs.getD k.toNat n9).2.2.2.1=0).length<=N:=Ñ (Ĺ _ _) C;show bc.filter ks ae.t (λk=>decide<|(rs.getD k.toNat n9).2.2.2.1=0) id ⋯ (λk mk A R h1 h2=>?_) ?_
  .rfl';show dE _ _ _ (Af L mk) ?_;rfl';split
   .next z=>show h1 z
   .next z=>show h2 (by simpa using z)
  .rw[List.map_id];generalize (ks.filter λk=>decide<|(rs.getD k.toNat n9).2.2.2.1=0)=fs at m j;rw[gP,kr];show#[rfl,f,g,.f,rs,us,fs,N,zz,‹_›,‹_›,inferInstance,rfl,o,O,j,m,λd _=>#[(b8 _<|nF d).t,?_]];rfl';rw[zB];have Y:(dK d).map (λp=>lF p.1)=(d.map (·.1)).map ae.t:=by unfold dK;rw[þ,þ];rfl
   have M:(dK d).map (·.2)=(d.map (·.2)).map ae.t:=by unfold dK;rw[þ,þ];rfl
   rw[Y,M,gP,lM];show#[mG _,mG _,B d]
abbrev gi(us:ah):List (Int ⊕ Str):=([1,2,3,4]:aF).map ï++us.map ñ
def Wd(us:ah):(([1,2,3,4]:aF).map ae.t++↥us)=(gi us).map ae.t:=by
 unfold gi;rw[Û,þ,þ];rfl
inductive jq(xs:af)(Q:Tr->aA):Prop
 |mk(_:↑xs=1)(f:Fl)(us:ah)(_:Fp f)(_:xs=[.ag f ↥us])(_:↑us<=100)(_:∀j,Q (.ag .o ((gi us).map ae.t)) j):jq xs Q
def NW{z:Bool}:aJ P w K mg base bI 1 T.uD.a T.uD.d ["unknowns"] (bP K z 0 1 jq):=by
 show cc T.uD.F NT rfl ∎ ?_
 intros
 show#[_,(aZ<|bW<|dQ (KG rfl rfl T.gS rfl T.l6<|ak aD<|ak (dQ (nP T.BG) aD) aC)<|jO (ki rfl) jZ T.gS<|ak (qv 0) aC),?_];intro g e _ zy;let#[_,f,us,_,rfl,b,q]:=zy;rfl';show#[1,4,rfl,rfl,∎,∎,∎,?_];dsimp only;rw[show (Ç 4).map (λi:Nat=>Tr.int<|1+i)=([1,2,3,4]:aF).map ae.t from rfl,vZ,Wd];show#[by rw[Å,Å];change 4+↑us<=1000000;omega,mG _,q _]
abbrev eN(rs:av)(us vs:ah):a7:=([0,1,2,3,4]:aF).map `ch++vs.map λu=>dq us ↑rs [(u,1)]
def Iv(u x:Str):(bU [(u,(1:Rat))] x).getD 0=0\/(bU [(u,(1:Rat))] x).getD 0=1:=by
 by_cases e:u=x
 .rw[sR (p:=(u,(1:Rat))) e];show .inr rfl
 .left;simp[bU,e]
abbrev hW(x:aw):Tr:=.ag .o ↥x
def zq:∀B:a7,bf `bI=↥B
 |[]=>rfl
 |x::B=>by change Pu.aB (.ag .o ↥x)::bf `bI=ae.t x::_;rw[gP,zq B]
def yS:∀(A B:af),bf (A++B)=bf A++bf B
 |[],_=>rfl
 |a::A,B=>by change Pu.aB a::bf (A ++ B)=_;rw[yS A B];rfl
def JW(A B:a7):Pu.aB (.ag .o<|↥A++B.map hW)=.ag .f ((A++B).map ae.t):=by
 change Tr.ag .f (bf _)=_;rw[yS,lM,zq,Û]
def n4(B:a7):Pu.aB (.ag .o<|B.map hW)=ae.t B:=by
 change Tr.ag .f (bf _)=_;rw[zq];rfl
def Iw:∀B:a7,bY `bI=Â
 |[]=>rfl
 |x::B=>by change (bY ↥x&&bY `bI)=Â;rw[iD,Iw B];rfl
def Iy:∀B:a7,bZ `bI=Â
 |[]=>rfl
 |x::B=>by change (bZ ↥x&&bZ `bI)=Â;rw[mG,Iy B];rfl
def Ge:∀A B:af,bZ (A++B)=(bZ A&&bZ B)
 |[],_=>rfl
 |a::A,B=>by change (cI a&&bZ (A ++ B))=(cI a&&bZ A&&bZ B);rw[Ge A B,Bool.and_assoc]
def Gf:∀A B:af,bY (A++B)=(bY A&&bY B)
 |[],_=>rfl
 |a::A,B=>by change (bM a&&bY (A ++ B))=(bM a&&bY A&&bY B);rw[Gf A B,Bool.and_assoc]
inductive jo(T:Tx w K mg)(xs:af)(Q:Tr->aA):Prop
 |mk(_:↑xs=2)(f g:Fl)(rs:av)(us vs:ah)(ss:a7)(S:Nat->Nat)(mk:aI)(_:Fp f)(_:Fp g)(_:xs=[cw T f (eS rs us ss S mk),.ag g ↥vs])(_:qa rs us)(_:∀o∈rs,0<bg us o/\bi (bg us o)<=3000)(_:↑vs<=100)(_:∀j,Q (.ag .o ((([0,1,2,3,4]:aF).map (cF us rs)).map ae.t ++ (vs.map λu=>dq us ↑rs [(u,1)]).map hW)) j):jo T xs Q
def Nl{z:Bool}:aJ P w K mg base bI 4 T.uE.a T.uE.d ["sheet","unknowns"] (bP K z 0 2<|jo T):=by
 show cc T.uE.F Nc rfl ∎ ?_
 intros
 show#[_,(aO (oU 2 ["rank","sheet"] [È,À 0] (Kt T.l6<|ak (nP T.uY)<|ak (dQ (nP T.BG) aD) aC) (eF 0) (λ_ _ _ _ _=>(eK (fh T T.rA<|Ej T) `bL<|ak (qv 0) aC)))
  (aZ<|bW<|dQ (qv 2)<|hJ ["unknown","sheet"] [È,À 0] (fj<|qv 1) (eF 0) (λ_ _ _ _ _=>(eK (fh T T.uT<|Ma T) (qv 1)<|ak (Ia (GN (qv 0) (gb [1,1] T.Li T.Lj) H9) (hp:=ZS rfl)) aC)))),?_]
 intro o m _ zy;let#[_,f,g,rs,us,vs,ss,S,mk,_,_,rfl,e,b,l,q]:=zy;rfl';rw[fk,gX];rw[show Ų (λn:Nat=>Tr.int<|0+n) (Ç (4+1 - 0:Int).toNat)=([0,1,2,3,4]:aF).map ae.t from rfl];show#[∎,bc.mL _ _ (λk=>hW<|cF us rs k) ∎ (λk _ R h=>?_) #[?_,?_]]
 .rfl';rw[d7];show f7 T #[rfl,f,rs,us,ss,S,mk,k,‹_›,by rw[fT,iW],e,b,λ_=>h]
 .show Iw (([0,1,2,3,4]:aF).map<|cF us rs)
 rw[show Ų (λk=>hW<|cF us rs k) ([0,1,2,3,4]:aF)=(([0,1,2,3,4]:aF).map<|cF us rs).map hW from rfl,n4,pw];generalize i:([0,1,2,3,4]:aF).map `ch=A at q ⊢;have j:↑A=5:=by rw[<- i];rfl
 rfl';show bc.mL vs _ (λu=>hW<|dq us ↑rs [(u,(1:Rat))]) ⋯ (λu _ R h=>?_) ?_
 .rfl';rw[d7];show f7 T ?_;change (Ų (λx=>x.fst) [((ñ u:aW),ae.t (1:Rat))]).Nodup/\gH T [dn<|cw T f<|eS rs us ss S mk,Tr.aP .f<|iH<|dJ [((ñ u:aW),ae.t (1:Rat))]] _;show#[by simp,rfl,f,.f,rs,us,ss,S,mk,[(u,1)],‹_›,inferInstance,by rw[fT,iW];rfl,e,λ_=>h]
 .rw[show Ų (λu=>hW<|dq us ↑rs [(u,(1:Rat))]) vs=(vs.map λu=>dq us ↑rs [(u,1)]).map hW from by rw[þ];rfl,show (ae.t A:Tr)=.ag .f ↥A from rfl,vZ];show#[by simp only[Å,j];omega,?_,q _];change bZ _=Â;rw[Ge,mG,Iy];rfl
def JR{j:Type}(x:j)(r:List j):adc (x::r) (À 1) È=r:=by
 have a:HT.dM (x::r).length 0 (À 1)=1:=by
  unfold HT.dM;simp
 have b:HT.dM (x::r).length (x::r).length È=(x::r).length:=rfl;unfold adc;rw[a,b];simp
abbrev nq(n:Nat):aF:=(Ç n).map λi:Nat=>(i:Int)
def Gg(rs:av):pick rs (nq ↑rs)=rs:=by
 unfold pick nq;rw[þ];show ac7 ∅ λi b a=>?_
 simp only[List.getElem_map,an0,ZR];rw[Ň,Ã,Ì a];rfl
def We(rs:av):Val rs (nq ↑rs):=λk m=>by
 let#[i,a,rfl]:=ß.mp m;show#[an6 _,by rw[Ň];show ī.mp a]
inductive tK(T:Tx w K mg)(xs:af)(Q:Tr->aA)(q:Xv->Prop):Prop
 |mk(_:↑xs=2)(f g:Fl)(rs:av)(us:ah)(N zz:Nat)(_:Fp f)(_:Fp g)(_:xs=[.ag f ↥rs,.ag g ↥us])(_:Bz N zz rs us)(_:↑rs<=N)(_:↑us<=8)(_:∀(p:aw×dw) (ss:a7) (S:Nat->Nat) (mk:aI),p.1=cF us rs 0->fv zz rs us [p] ss S mk->p.2.2.1 ≠ 0->∀d,q (yB T d))(_:∀(gs:List (aw×dw)) (ss:a7) (S:Nat->Nat) (mk:aI),gs.map (·.1)=eN rs us us->(∀p,gs[0]?=À p->p.2.2.1=0)->fv zz rs us gs ss S mk->∀j,Q (cw T .o (eS rs us ss S mk)) j):tK T xs Q q
def Mv:aJ P w K mg base `bc 10 T.uF.a T.uF.d ["rows","unknowns"] (jc K Â 0 2<|tK T):=by
 show wA T.uF.F Ml rfl ∎ λbH A outer s H E q hr hu hN=>?_
 show#[_,(aO (Yc<|tW T.uS (Ni T)<|ak (qv 0)<|ak (qv 1) aC)
  (aO (jh 2<|tW T.uC (Rg T)<|ak (qv 0)<|ak (qv 1)<|ak (Kg rfl rfl T.gS rfl T.l6<|fy gq gu T.gv<|ak (qv 0) aC) aC)
  (aO (fL (fj<|nO (qc T.uE (Nl T)<|ak (qv 2)<|ak (qv 1) aC) (lR aD) q0) (cR 3)<|aZ<|zA<|qE (dz 2) (fh T T.rO<|Em T)<|mF (qv 3) qO)
  (aZ<|mw<|mr 2)))),?_]
 intro xs Q' _ zy;let#[_,f,g,rs,us,N,zz,_,_,rfl,v,h1,h2,q3,Q]:=zy;have D:=v.n;rfl';show#[rfl,f,g,rs,us,‹_›,‹_›,rfl,λh=>ao8 h ⋯,λ_ _ j=>?_];show#[rs.length,rfl,⋯,?_];dsimp only;rw[show (Ç ↑rs).map (λi:Nat=>Tr.int (i:Int))=(nq ↑rs).map ae.t from by unfold nq;rw[þ];rfl,gP,kr];have α:(nq ↑rs).length=↑rs:=by unfold nq;rw[Å,Õ]
 have B:=v.q rs (λ_ m=>m) h1;have ε:=B.h.2;have D:=v.n;have O:∀o∈rs,0<bg us o/\bi `al<=3000:=λo m=>#[(B.s o m).1,by have:=(B.s o m).2;omega]
 show#[rfl,f,g,.f,rs,us,nq ↑rs,N,zz,‹_›,‹_›,inferInstance,rfl,v,⋯,⋯,We rs,λp ss S mk J r M=>?_,λp ss S mk J r C _=>#[tN T _,?_]]
 .rw[Gg] at J r;show q3 p ss S mk J r M
 rw[Gg] at J r ⊢;rw[fk];simp only[dO,d7];rw[show Pu.aB (cw T (Fl.l Â)<|eS rs us ss S mk)=cw T (Fl.l Â) (eS rs us ss S mk) from rfl,fT];show#[rfl,.l É,g,rs,us,us,ss,S,mk,inferInstance,‹_›,rfl,B.b,O,⋯,λ_=>?_];have ok:∀cs∈(([1,2,3,4]:aF).map (cF us rs)++us.map λu=>dq us ↑rs [(u,1)]),dW rs us cs/\∀S,Lp.Gd ↑rs `ac `ab S->CD zz zz `cI:=λcs mc=>by
  rcases Æ.mp mc with m |m
  .obtain⟨k,_,rfl⟩:=ß.mp m;show B.k k
  .obtain⟨u,_,rfl⟩:=ß.mp m;show B.c _<|Iv u
 have el:(([1,2,3,4]:aF).map `ch++us.map λu=>dq us ↑rs [(u,1)]).length=↑us+4:=by rw[Ò,Å,Å];simp;omega
 have ec:adc ((([0,1,2,3,4]:aF).map<|cF us rs).map ae.t++(us.map λu=>dq us ↑rs [(u,1)]).map hW) (À 1) È=((([1,2,3,4]:aF).map<|cF us rs).map ae.t++(us.map λu=>dq us ↑rs [(u,1)]).map hW):=JR _ _;have eg:eN rs us us=cF us rs 0::(([1,2,3,4]:aF).map `ch++us.map λu=>dq us ↑rs [(u,1)]):=rfl;rw[wt,ec,JW];rw[eg] at Q;generalize (([1,2,3,4]:aF).map `ch++us.map λu=>dq us ↑rs [(u,1)])=cl at ok el Q;have I:aU rs us<=40:=by unfold aU;omega
 rw[lN];show#[iD _,Loop.map cl _ (λi j=>∃(x:List (aw×dw))(ss:a7)(S:Nat->Nat)(mk:aI)(a:Tr),j=[.ag f ↥rs,.ag g ↥us,cw T .o<|eS rs us ss S mk,a]/\fv zz rs us x ss S mk/\x.map (·.1)=cF us rs 0::cl.take i/\∀p,x[0]?=À p->p.2.2.1=0) #[[p],ss,S,mk,_,rfl,r,by rw[ae4];show ap2 (·::[]) J,λp' e=>by cases e;show C] ?_ ?_]
 .rintro i cs j hi ⟨x,ss,S,mk,a,rfl,r,eG,C⟩;have γ:=(Á.mp hi).1;let#[hC,hD]:=ok cs<|Î hi;have β:↑x=i+1:=by have:=ap2 İ eG;rw[Å,Ú,û] at this;omega
  have δ:=r.s;have L:↑mk<=10000:=Ñ r.l (Ñ (Ι (show ↑ss<=20 by omega) I) ∎);rfl';show yQ rfl (by intro z;cases z)<|f7 T ?_;rfl';rw[fT];show#[rfl,.f,rs,us,ss,S,mk,cs,inferInstance,rfl,B.y,r.g,r.n,hC,L,⋯,λU G hN hO j2 e=>?_];rw[e,d7];show#[q5 T _,?_];show#[_,_,U,_,_,rfl,r.step ⋯ hC G hN hO (hD U G),?_,λp' Y=>?_]
  .rw[Û,eG,đ,hi];rfl
  .rw[î ⋯] at Y;show C p' Y
 .rintro j ⟨x,ss,S,mk,a,rfl,r,eG,C⟩;rfl'
  try rw[d7]
  rw[Ĕ] at eG;show#[q5 T _,Q x ss S mk eG C r _]
def KZ{j:Type}[ae j](xs:List j):List.mapIdx (λi x=>Tr.aL [Tr.int ((i+1:Nat):Int),x]) ↥xs=xs.zipIdx.map λp=>Tr.aL [Tr.int ((p.2+1:Nat):Int),ae.t p.1]:=by
 show ac7 ∅ λi a b=>?_
 simp
abbrev cz(p:aw×dw):Rat:=Í p.2.2.1<|p.2.2.2*b5 p.1
abbrev cT(us:ah)(a:List (aw×dw)):List ((Int ⊕ Str)×Rat):=(gi us).zip<|a.tail.map cz
abbrev pap(rs:av)(us:ah)(ss:a7)(mk:aI)(i:Nat):aw×aw:=(jV rs us (pp ss mk (i+1)<|i+1).1,(pp ss mk (i+1)<|i+1).2.reverse.tail)
abbrev iQ(rs:av)(us:ah)(ss:a7)(mk:aI)(n:Nat):List (aw×aw):=(Ç n).map<|pap rs us ss mk
inductive kQ(T:Tx w K mg)(xs:af)(Q:Tr->aA)(q:Xv->Prop):Prop
 |mk(_:↑xs=2)(f g:Fl)(rs:av)(us:ah)(N zz:Nat)(_:Fp f)(_:Fp g)(_:xs=[.ag f ↥rs,.ag g ↥us])(_:Bz N zz rs us)(_:us.Nodup)(_:↑rs<=N)(_:↑us<=8)(_:zz+(↑us+4)*(zz+1)<=3900)(_:∀(p:aw×dw) (ss:a7) (S:Nat->Nat) (mk:aI),p.1=cF us rs 0->fv zz rs us [p] ss S mk->p.2.2.1 ≠ 0->∀d,q (yB T d))(_:∀(gs:List (aw×dw)) (ss:a7) (S:Nat->Nat) (mk:aI),gs.map (·.1)=eN rs us us->(∀p,gs[0]?=À p->p.2.2.1=0)->fv zz rs us gs ss S mk->∀j,Q (.aL [.aP .o ((eQ rs us S).map λp=>((ñ p.1:aW),ae.t p.2)),ae.t (cT us gs),ae.t (iQ rs us ss mk (↑us+4))]) j):kQ T xs Q q
def GW:aJ P w K mg base `bc 11 T.rC.a T.rC.d ["rows","unknowns"] (jc K Â 0 2<|kQ T):=by
 show wA T.rC.F V0 rfl ∎ λbH A outer s H E q hr hu hN=>?_
 show#[_,(aO (bC 2<|tW T.uF (Mv T)<|ak (qv 0)<|ak (qv 1) aC)
  (aO (jh 3<|fK aC)
  (aO (jh 4<|fK aC)
  (aO (fL (KH rfl T.qi<|ak (qc T.uD (NW T)<|ak (qv 1) aC) aC) (iU (n:=2) rfl<|dP (cR 5)<|dP (cR 6) iN) (aO (nM (dz 3)<|iZ<|ak (qv 6)<|ak (eK (fh T T.qj<|yA T) (qv 2)<|ak (qv 5) aC) aC)
  (aO (bC 7<|eK (fh T T.uV<|M1 T) (qv 2)<|ak (qv 5) aC)
  (aZ<|nM (dz 4)<|iZ<|ak (a8 (qv 7) aD)<|ak (nO (a8 (qv 7) aD) (lR aD) q0) aC))))
  (Bh 4<|Bh 3<|aZ<|bW<|iZ<|ak (ID (fh T T.uU<|Mu T)<|qv 2)<|ak (qv 3)<|ak (qv 4) aC))))),?_]
 intro xs Q' _ zy;let#[_,f,g,rs,us,N,zz,_,_,rfl,u,γ,h1,h2,h3,q1,q2]:=zy;have I:=u.n;rfl';show#[rfl,f,g,rs,us,N,zz,‹_›,‹_›,rfl,u,h1,⋯,q1,λp ss S mk eg h0 C _=>?_];have O:=u.q rs (λ_ m=>m) h1;have η:=O.h.2;have I:=u.n;have δ:↑p=↑us+5:=by
  have:=ap2 İ eg;unfold eN at this;rw[Å,Ò,Å,Å] at this;simp at this;omega
 have ζ:=C.s;rw[JQ];show#[tN T _,rfl,g,us,‹_›,rfl,⋯,λ_=>?_];rw[gP,f6,lN,KZ];have β:(gi us).length=↑us+4:=by unfold gi;rw[Ò,Å,Å];simp;omega
 show#[iD _,Loop.map _ _ (λi j=>∃(x y z:Tr),j=[.ag f ↥rs,.ag g ↥us,cw T .f<|eS rs us ss S mk,.ag .o<|((cT us p).take i).map ae.t,.ag .o<|(iQ rs us ss mk i).map ae.t,x,y,z]) #[_,_,_,rfl] ?_ ?_]
 .rintro i ⟨gl,l⟩ j hi ⟨x,y,z,rfl⟩;let#[hg,ei]:=q9 hi;dsimp only at hg ei;subst ei;have ε:l<(gi us).length:=(Á.mp hg).1;have J:l+1<↑ss:=⋯
  obtain⟨pg,L⟩:∃pg,p[l+1]?=À pg:=#[_,Ì ⋯];let#[r,v,G,ev]:=C.v (l+1) pg L;have M:=C.r _<|Î G;have hv:=M.2.bs (Ï _) (Æ.mpr (.inr<|.head _):v∈r++[v]);have Y:(cT us p).take (l+1)=(cT us p).take l++[(gl,0 - v)]:=by
   rw[đ];congr 1;unfold cT;rw[Ļ.mpr (show `dO[l]?=À (gl,cz pg).1/\(p.tail.map cz)[l]?=À (gl,cz pg).2 from #[hg,by rw[Ê,Ε,L];rfl])];change [(gl,cz pg)]=_;rw[ev];rfl
  have α:=JU C.m C.r J (Ñ (ϴ (ţ _ (show l+1<=↑us+4 by omega)) _) h3) O.h.1;rfl';simp only[fk,dO,d7,fT,eD];show f7 T #[rfl,.f,_,l+1,r,v,inferInstance,rfl,G,⋯,λ_=>?_];rw[i2];show#[rfl,by rw[û];omega,f7 T #[rfl,rs,us,ss,S,mk,l+1,rfl,⋯,⋯,J,⋯,C.m,α,λo m=>(O.s o m).2,λ_=>?_]];have ep:∀(A B:aw),Pu.aB (Tr.aL [.ag .o ↥A,.ag .o ↥B])=.aL [ae.t A,ae.t B]:=λA B=>by
   change Tr.aL [Pu.aB _,Pu.aB _]=_;rw[gP,gP]
  have el:∀(A B:aw),aK (Tr.aL [ae.t A,ae.t B])=.aL [ae.t A,ae.t B]:=λA B=>pw (A,B)
  have eP:iQ rs us ss mk (l+1)=iQ rs us ss mk l++[pap rs us ss mk l]:=by unfold iQ;rw[Z2,Û];rfl
  rw[eP];have eb:(iQ rs us ss mk l).length=l:=by unfold iQ;rw[Å,Õ]
  generalize iQ rs us ss mk l=b at eb ⊢;unfold pap;generalize jV rs us (pp ss mk (l+1)<|l+1).1=qA;obtain⟨Q,D,U⟩:∃Q D,(pp ss mk (l+1)<|l+1).2.reverse=Q::D:=by
   cases e:(pp ss mk (l+1)<|l+1).2.reverse with
   |nil=>have:=ap2 İ e;rw[al6,qQ] at this;cases this
   |cons Q D=>show#[Q,D,rfl]
  rw[U];rw[ep,el];show#[by change (bY (_:af)&&(bY (_:af)&&Â))=Â;rw[iD,iD];rfl,?_];rfl';rw[f6,wt,ë,JR,gP];rw[Y,Û,show Ų ae.t b++[Tr.aL [ae.t qA,ae.t D]]=(b++[(qA,D)]).map ae.t from by rw[Û];rfl];show#[by change (Â&&(bY _&&Â))=Â;rw[iD];rfl,⋯,_,_,_,rfl]
 .rintro j ⟨x,y,z,rfl⟩;rfl';simp only[fk,dO,d7,fT,eD];rw[Ş,β,show (cT us p).take (↑us+4)=cT us p from List.take_of_length_le (by unfold cT;rw[Đ];omega)];show f7 T #[rfl,.f,rs,us,ss,S,mk,inferInstance,rfl,O.y,C.g,γ,⋯,λ_=>#[by rw[show (cI<|Tr.aP .o _)=Â from (b8 _<|nr _).o];rfl,q2 p ss S mk eg h0 C _]]
abbrev dot:aw->(Nat->Rat)->Rat
 |[],_=>0
 |c::cs,y=>c * y 0 + dot cs λk=>y<|k + 1
def FA:∀{cs:aw}{y z:Nat->Rat},(∀k,k<↑cs->y k=z k)->dot cs y=dot cs z
 |[],_,_,_=>rfl
 |c::cs,y,z,h=>by
  rw[dot,dot,h 0<|Nat.zero_lt_succ _,FA λk a=>h (k+1)<|Nat.succ_lt_succ a]
def GX(a:Rat):∀(cs:aw)(y:Nat->Rat),dot cs (λk=>a*y k)=a*dot cs y
 |[],_=>by rw[dot,dot];grind
 |c::cs,y=>by rw[dot,dot,GX a cs];grind
def zr:∀(A B:aw)(y:Nat->Rat),dot (A++B) y=dot A y+dot B λk=>y<|↑A+k
 |[],B,y=>by
  rw[dot,ϲ];have:(λk=>y<|([]:aw).length+k)=y:=by funext k;rw[ϔ,ac3]
  rw[this];grind
 |c::A,B,y=>by
  rw[ϙ,dot,dot,zr A B];have:(λk=>y<|↑A+k+1)=λk=>y ((c::A).length+k):=by funext k;rw[Ú];congr 1;omega
  rw[this];grind
def vU:∀(n:Nat)(y:Nat->Rat),dot (Ó n 0) y=0
 |0,_=>rfl
 |n + 1,y=>by rw[aa0,dot,vU n];grind
def Gh(a:Nat)(f:Nat->Int):∀b,Lp.sm (a+b) f=Lp.sm a f+Lp.sm b λk=>f<|a+k
 |0=>by rw[aj5,Lp.sm];omega
 |b + 1=>by rw[<- aa8,Lp.sm,Gh a f b,Lp.sm];omega
def Ag{b:Int}:∀{cs:aw}(y:Nat->Int),(∀c∈cs,(c.den:Int) ∣ b)->((Lp.sm ↑cs (λk=>(cs.map<|fH b).getD k 0*y k):Int):Rat)=b*dot cs λk=>(y k:Rat)
 |[],y,_=>by rw[dot,ϔ,Lp.sm];change (0:Rat)=_;grind
 |c::cs,y,h=>by
  rw[Ú,yR,Ŕ,è,dot];have a:=Ag (cs:=cs) (λk=>y<|k+1) λc m=>h c<|.tail _ m
  rw[show (λk=>((c::cs).map<|fH b).getD (k+1) 0*y (k+1))=λk=>(cs.map<|fH b).getD k 0*y (k+1) from rfl,a,show ((c::cs).map<|fH b).getD 0 0=fH b c from rfl,oW<|h c<|.head _]
  grind
abbrev lK(us:ah)(o:bR)(x:Nat->Rat):Rat:=dot `bX x - o.2.2.1
abbrev lg(k:Str)(d:Rat):Rat:=if k="least" then (if d<0 then -d else 0) else if k="most" then (if 0<d then d else 0) else if d<0 then -d else d
abbrev dH(us:ah)(k:Int)(x:Nat->Rat):av->Rat
 |[]=>0
 |o::rs=>(if o.2.2.2.1=k then (o.2.2.2.2:Rat) * lg o.2.1 `dP else 0) + dH us k x rs
abbrev cst(us:ah)(k:Int):av->(Nat->Rat)->Rat
 |[],_=>0
 |o::rs,y=>cb us k o * y 0 + ca us k o * y 1 + cst us k rs λj=>y<|j + 2
def GY(us:ah)(k:Int):∀(rs:av)(y:Nat->Rat),dot (rs.flatMap λo=>[cb us k o,ca us k o]) y=cst us k rs y
 |[],_=>rfl
 |o::rs,y=>by
  rw[an7,cst,<- GY us k rs,ϙ,ϙ,ϲ,dot,dot]
  grind
def GZ(us:ah)(rs:av)(k:Int)(y:Nat->Rat):dot `cn y=cst us k rs λj=>y (↑us+j):=by
 unfold cF;rw[zr,vU,GY,á];grind
def Zb{us:ah}{k:Int}{o:bR}{q d a b:Rat}(hs:0<bg us o)(v:0<=o.2.2.2.2)(n:0<=a)(p:0<=b)(e:b - a=- ((bg us o:Rat)*(d*q)))(y:0<=q):q*(if o.2.2.2.1=k then (o.2.2.2.2:Rat)*lg o.2.1 d else 0)<=cb us k o*b+ca us k o*a:=by
 unfold cb ca;by_cases f:o.2.2.2.1=k
 .rw[ao7 f,ao7 f,ao7 f];have i:(0:Rat)<(bg us o:Rat):=ó.mpr hs;have u:Í o.2.2.2.2 `al*(bg us o:Rat)=(o.2.2.2.2:Rat):=by
   rw[ö];show ĵ<|ĕ i
  have j:0<=Í o.2.2.2.2 `al:=sD v hs;generalize Í o.2.2.2.2 `al=r at *;have A:=ŋ j n;have B:=ŋ j p;have z:r*b - r*a=- (q*((o.2.2.2.2:Rat)*d)):=by
   have x:r*(b - a)=r*(- ((bg us o:Rat)*(d*q))):=by rw[e]
   rw[<- u];grind
  generalize (o.2.2.2.2:Rat)=W at *;have l:q*(W*(-d))=- (q*(W*d)):=by grind
  have m:q*(W*0)=0:=by grind
  unfold lg;generalize q*(W*d)=Z at *;by_cases h:o.2.1="least"
  .have g:¬ o.2.1="most":=by rw[h];decide
   rw[ao7 h,ao7 h,ao6 g];split
   .rw[l];grind
   .rw[m];grind
  .rw[ao6 h,ao6 h];by_cases g:o.2.1="most"
   .rw[ao7 g,ao7 g];split
    .grind
    .rw[m];grind
   .rw[ao6 g,ao6 g];split
    .rw[l];grind
    .grind
 .rw[ao6 f,ao6 f,ao6 f];grind
def Zc{us:ah}{k:Int}{o:bR}{q d a b:Rat}(hs:0<bg us o)(n:a=0\/b=0)(C:0<=a)(D:0<=b)(e:b - a=- ((bg us o:Rat)*(d*q)))(E:0<q):q*(if o.2.2.2.1=k then (o.2.2.2.2:Rat)*lg o.2.1 d else 0)=cb us k o*b+ca us k o*a:=by
 unfold cb ca;by_cases f:o.2.2.2.1=k
 .rw[ao7 f,ao7 f,ao7 f];have i:(0:Rat)<(bg us o:Rat):=ó.mpr hs;have G:Í o.2.2.2.2 `al*(bg us o:Rat)=(o.2.2.2.2:Rat):=by
   rw[ö];show ĵ<|ĕ i
  have j:0<(bg us o:Rat)*q:=Z8 i E;have v:b - a=- ((bg us o:Rat)*q*d):=by rw[e];grind
  generalize Í o.2.2.2.2 `al=r at *;have z:r*b - r*a=- (q*((o.2.2.2.2:Rat)*d)):=by
   have v:r*(b - a)=r*(- ((bg us o:Rat)*(d*q))):=by rw[e]
   rw[<- G];grind
  have A:d<0->a=0:=λhd=>by
   have:=Z8 j (show 0 < -d by grind);rcases n with h |h
   .show h
   .grind
  have B:0<d->b=0:=λhd=>by
   have:=Z8 j hd;rcases n with h |h
   .grind
   .show h
  have u:d=0->a=0/\b=0:=λhd=>by
   rw[hd] at v;rcases n with h |h<;>grind
  generalize (o.2.2.2.2:Rat)=W at *;have x:q*(W*(-d))=- (q*(W*d)):=by grind
  have y:q*(W*0)=0:=by grind
  have m:r*0=0:=ũ r;have p:d<0\/d=0\/0<d:=by grind
  have c:(d<0/\r*a=0)\/(d=0/\r*a=0/\r*b=0)\/(0<d/\r*b=0):=by
   rcases p with t |t |t
   .show .inl ⟨t,by rw[A t,m]⟩
   .show .inr (.inl ⟨t,by rw[(u t).1,m],by rw[(u t).2,m]⟩)
   .show .inr (.inr ⟨t,by rw[B t,m]⟩)
  unfold lg;generalize q*(W*d)=Z at *;by_cases l:o.2.1="least"
  .have g:¬ o.2.1="most":=by rw[l];decide
   rw[ao7 l,ao7 l,ao6 g];split
   .rw[x];grind
   .rw[y];grind
  .rw[ao6 l,ao6 l];by_cases g:o.2.1="most"
   .rw[ao7 g,ao7 g];split
    .grind
    .rw[y];grind
   .rw[ao6 g,ao6 g];split
    .rw[x];grind
    .grind
 .rw[ao6 f,ao6 f,ao6 f];grind
def Iz{us:ah}{k:Int}{x:Nat->Rat}{q:Rat}(a:0<=q):∀(rs:av)(y:Nat->Rat),(∀o∈rs,0<bg us o/\0<=o.2.2.2.2)->(∀j,j<2*↑rs->0<=y j)->(∀i o,rs[i]?=À o->y (2*i) - y (2*i+1)=- ((bg us o:Rat)*(lK us o x*q)))->q*dH us k x rs<=cst us k rs y
 |[],_,_,_,_=>by rw[dH,cst];grind
 |o::rs,y,h,nn,e=>by
  rw[dH,cst,Rat.mul_add];have d:=Zb (k:=k) (h o<|.head _).1 (h o<|.head _).2 (nn 1 (by rw[Ú];omega)) (nn 0 (by rw[Ú];omega)) (e 0 o rfl) a;have f:=Iz (k:=k) a rs (λj=>y<|j+2) (λo m=>h o<|.tail _ m) (λj g=>nn (j+2) (by rw[Ú];omega)) λi o b=>e (i+1) o b
  grind
def IG{us:ah}{k:Int}{x:Nat->Rat}{q:Rat}(a:0<q):∀(rs:av)(y:Nat->Rat),(∀o∈rs,0<bg us o)->(∀j,j<2*↑rs->0<=y j)->(∀i o,rs[i]?=À o->(y (2*i+1)=0\/y (2*i)=0)/\y (2*i) - y (2*i+1)=- ((bg us o:Rat)*(lK us o x*q)))->q*dH us k x rs=cst us k rs y
 |[],_,_,_,_=>by rw[dH,cst];grind
 |o::rs,y,h,nn,e=>by
  rw[dH,cst,Rat.mul_add];have b:=Zc (k:=k) (h o<|.head _) (e 0 o rfl).1 (nn 1 (by rw[Ú];omega)) (nn 0 (by rw[Ú];omega)) (e 0 o rfl).2 a;have d:=IG (k:=k) a rs (λj=>y<|j+2) (λo m=>h o<|.tail _ m) (λj g=>nn (j+2) (by rw[Ú];omega)) λi o f=>e (i+1) o f
  rw[b,d]
def G0{us:ah}{o:bR}{R i:Nat}{y:Nat->Int}(q:i<R):Lp.sm (↑us+2*R+1) (λk=>A0 ↑us R i `aH `an k*y k)=Lp.sm ↑us (λk=>(ed us o).getD k 0*y k)+(y (↑us+2*i) - y (↑us+2*i+1))+cL us o*y (↑us+2*R):=by
 rw[Lp.sm,Gh];have j:Lp.sm ↑us (λk=>A0 ↑us R i `aH `an k*y k)=Lp.sm ↑us (λk=>(ed us o).getD k 0*y k):=Lp.aY λk d=>by unfold A0;rw[ao7 d]
 have l:=Lp.fE (f:=λk=>A0 ↑us R i `aH `an (↑us+k)*y (↑us+k)) (a:=2*i) (b:=2*i+1) ⋯ (n:=2*R) ⋯ λk d m p=>by
  unfold A0;rw[ao6 ⋯,ao6 ⋯,ao6 ⋯,ao6 ⋯,ž]
 rw[j,l];have e:A0 ↑us R i `aH `an (↑us+2*i)=1:=by unfold A0;rw[ao6 ⋯,ao7 rfl]
 have g:A0 ↑us R i `aH `an (↑us+(2*i+1))=-1:=by unfold A0;rw[ao6 ⋯,ao6 ⋯,ao7 ⋯]
 have h:A0 ↑us R i `aH `an (↑us+2*R)=cL us o:=by unfold A0;rw[ao6 ⋯,ao6 ⋯,ao6 ⋯,ao7 rfl]
 rw[e,g,h,ad6,<- aa8];omega
def mi(us:ah)(o:bR):0<bg us o/\(∀c∈gY us o,(c.den:Int) ∣ bg us o)/\(o.2.2.1.den:Int) ∣ bg us o:=by
 have h:=gR (cE us o) 1 ∎;show#[h.1,λc m=>h.2.2.1 c<|Æ.mpr<|.inl m,h.2.2.1 _<|Æ.mpr<|.inr<|.head _]
def K0(us:ah)(o:bR)(y:Nat->Int):((Lp.sm ↑us (λk=>(ed us o).getD k 0*y k):Int):Rat)=bg us o*dot `bX λk=>(y k:Rat):=by
 have:=Ag (b:=bg us o) (cs:=gY us o) y (mi us o).2.1;rwa[show (gY us o).length=↑us from Å _] at this
def Gi{rs:av}{us:ah}{sh:Nat->Prop}{q:Int}{y:Nat->Int}(F:Lp.eT ↑rs `ac `ab sh q y){x:Nat->Rat}(j:∀k,k<↑us->x k*q=y k){i:Nat}{o:bR}(a:rs[i]?=À o):((y (↑us+2*i):Int):Rat) - ((y (↑us+(2*i+1)):Int):Rat)=- ((bg us o:Rat)*(lK us o x*q)):=by
 have b:=(Á.mp a).1;have k:=F.pE i b;rw[Lp.aY (g:=λk=>sgn `an*(A0 ↑us ↑rs i `aH `an k*y k)) λk _=>by rw[o9 a,aa7],Lp.bG] at k;have h:sgn `an≠0:=by unfold sgn;split<;>decide
 have e:=(ZO.mp k).resolve_left h;rw[show aU rs us+1=↑us+2*↑rs+1 from rfl,G0 b,show ↑us+2*↑rs=aU rs us from rfl,F.rhs] at e;have c:((_:Int):Rat)=((0:Int):Rat):=ap2 (λz:Int=>(z:Rat)) e;rw[Ŕ,Ŕ,K0,Rat.intCast_sub,è,ZQ,show cL us o=fH `al o.2.2.1 from rfl,oW (mi us o).2.2] at c;have d:dot `bX (λk=>(y k:Rat))=q*dot `bX x:=by
  rw[<- GX];show FA λk f=>?_
  rw[<- j k (by rwa[show (gY us o).length=↑us from Å _] at f)];show Rat.mul_comm _ _
 rw[d,Rat.intCast_zero] at c;unfold lK;rw[<- aa8]
 grind
abbrev lT(us:ah)(q:Int)(t:Nat->Int)(o:bR):Int:=cL us o*q - Lp.sm ↑us λk=>(ed us o).getD k 0*t k
abbrev i9(rs:av)(us:ah)(q:Int)(t:Nat->Int)(k:Nat):Int:=
 if k<↑us then t k else if k=aU rs us then -q else match rs[(k - ↑us) / 2]? with
 |some o=>if (k - ↑us) % 2=0 then max `bY 0 else max (- lT us q t o) 0
 |none=>0
def wG{rs:av}{us:ah}{q:Int}{t:Nat->Int}{i:Nat}{o:bR}(a:rs[i]?=À o):i9 rs us q t (↑us+2*i)=max `bY 0/\i9 rs us q t (↑us+2*i+1)=max (- lT us q t o) 0:=by
 have b:=(Á.mp a).1;unfold i9 aU;rw[ao6 ⋯,ao6 ⋯,ao6 ⋯,ao6 ⋯,show (↑us+2*i - ↑us) / 2=i by omega,show (↑us+2*i+1 - ↑us) / 2=i by omega,a];dsimp only;rw[ao7 ⋯,ao6 ⋯];show#[rfl,rfl]
def Gj{rs:av}{us:ah}{q:Int}{t:Nat->Int}(ht:∀k,k<↑us->0<=t k):Lp.eT ↑rs `ac `ab (λ_=>False) q (i9 rs us q t):=by
 have a:i9 rs us q t `ac=-q:=by unfold i9;rw[ao6 (by unfold aU;omega),ao7 rfl]
 show#[λi b=>?_,λk d=>?_,λ_ _ h=>h.elim,a]
 .obtain⟨o,ho⟩:=nE b;rw[Lp.aY (g:=λk=>sgn `an*(A0 ↑us ↑rs i `aH `an k*i9 rs us q t k)) λk _=>by rw[o9 ho,aa7],Lp.bG,show aU rs us+1=↑us+2*↑rs+1 from rfl,G0 b,show ↑us+2*↑rs=aU rs us from rfl,a,(wG ho).1,(wG ho).2];rw[Lp.aY (g:=λk=>(ed us o).getD k 0*t k) λk d=>by rw[show i9 rs us q t k=t k by unfold i9;rw[ao7 d]]];have:Lp.sm ↑us (λk=>(ed us o).getD k 0*t k)+(max `bY 0 - max (- lT us q t o) 0)+cL us o*-q=0:=by
   have e:lT us q t o=cL us o*q - Lp.sm ↑us λk=>(ed us o).getD k 0*t k:=rfl
   rw[Int.mul_neg];omega
  rw[this,Ċ]
 .unfold i9;split
  .show ht k (by assumption)
  .rw[ao6 ⋯];split
   .split<;>omega
   .show al3 _
abbrev lQ(rs:av)(us:ah):Int ⊕ (Str×Nat)->aw
 |.inl k=>cF us rs k
 |.inr p=>dq us ↑rs [(p.1,1)]
abbrev ua(rs:av)(us:ah)(x:Nat->Rat):Int ⊕ (Str×Nat)->Rat
 |.inl k=>dH us k x rs
 |.inr p=>x p.2
abbrev pX(us:ah):Int ⊕ (Str×Nat)->Prop
 |.inl _=>True
 |.inr p=>us[p.2]? = À p.1
def vX{u:Str}:∀{us:ah}{j:Nat}(y:Nat->Rat),us.Nodup->us[j]?=À u->dot (us.map λx=>(bU [(u,(1:Rat))] x).getD 0) y=y j
 |v::us,j,y,nd,h=>by
  let#[a,i]:=ē.mp nd;rw[ë,dot]
  match j,h with
  |0,h=>
   have d:v=u:=Ù h;subst d;have z:us.map (λx=>(bU [(v,(1:Rat))] x).getD 0)=Ó ↑us 0:=List.eq_replicate_iff.mpr #[Å _,λb m=>by
    let#[x,g,rfl]:=ß.mp m;have:¬ v=x:=λe=>a (e ▸ g)
    simp[bU,this]]
   rw[z,vU,sR rfl];change (1:Rat)*_+0=_
   grind
  |j+1,h=>
   have f:u∈us:=Î h;have:¬ u=v:=λe=>a<|e ▸ f
   rw[vX (u:=u) (us:=us) (j:=j) _ i h,show (bU [(u,(1:Rat))] v).getD 0=0 by simp[bU,this]]
   grind
def G3{us:ah}{u:Str}{j R:Nat}(y:Nat->Rat)(nd:us.Nodup)(h:us[j]?=À u):dot (dq us R [(u,1)]) y=y j:=by
 unfold dq;rw[zr,vU,vX y nd h];grind
def Wf{rs:av}{us:ah}{sh:Nat->Prop}{q:Int}{y:Nat->Int}(F:Lp.eT ↑rs `ac `ab sh q y)(e:0<q){x:Nat->Rat}(a:∀k,k<↑us->x k*q=y k)(f:∀o∈rs,0<=o.2.2.2.2)(nd:us.Nodup){d:Int ⊕ (Str×Nat)}(hd:pX us d):q*ua rs us x d<=dot (lQ rs us d) λk=>(y k:Rat):=by
 match d,hd with
 |.inl k,_=>
  change q*dH us k x rs<=dot `cn _;rw[GZ];show Iz (ZM<|ó.mpr e) rs _ (λo m=>#[(mi us o).1,f o m]) (λj g=>Ķ.mpr (F.nn _ (by unfold aU;omega))) λi o b=>Gi F a b
 |.inr p,h=>
  change q*x p.2<=dot (dq us ↑rs [(p.1,1)]) _;rw[G3 _ nd h,<- a _ (Á.mp h).1]
  grind
def T8{rs:av}{us:ah}{q:Int}{t:Nat->Int}(ht:∀k,k<↑us->0<=t k)(f:0<q){x:Nat->Rat}(g:∀k,k<↑us->x k*q=t k)(nd:us.Nodup){d:Int ⊕ (Str×Nat)}(hd:pX us d):q*ua rs us x d=dot (lQ rs us d) λk=>(i9 rs us q t k:Rat):=by
 have F:=Gj (rs:=rs) (q:=q) ht;have a:∀k,k<↑us->x k*q=i9 rs us q t k:=λk e=>by rw[g k e];unfold i9;rw[ao7 e]
 match d,hd with
 |.inl k,_=>
  change q*dH us k x rs=dot `cn _;rw[GZ];show IG (ó.mpr f) rs _ (λo m=>(mi us o).1) (λj l=>Ķ.mpr (F.nn _ (by unfold aU;omega))) λi o b=>#[?_,Gi F a b]
  change ((i9 rs us q t (↑us+2*i+1):Int):Rat)=0\/((i9 rs us q t (↑us+2*i):Int):Rat)=0;rw[(wG b).1,(wG b).2];by_cases h:0<=lT us q t o
  .left;rw[show max (- lT us q t o) 0=0 by omega];rfl
  .right;rw[show max `bY 0=0 by omega];rfl
 |.inr p,h=>
  change q*x p.2=dot (dq us ↑rs [(p.1,1)]) _;rw[G3 _ nd h,<- a _ (Á.mp h).1]
  grind
abbrev ly:aw->aw->Prop
 |v::vs,g::gs=>v < g \/ (v=g /\ ly vs gs)
 |_,_=>True
def Ah{p:aw×dw}(h:0<p.2.2.2):cz p*((p.2.2.2:Rat)*(b5 p.1:Rat))=(p.2.2.1:Rat)/\0<(p.2.2.2:Rat)*(b5 p.1:Rat):=by
 have b:=(gR p.1 1 ∎).1;have a:=Z8 (ó.mpr h)<|ó.mpr b;show#[?_,a];unfold cz;rw[ö,è];show ĵ<|ĕ a
def OY{a b c:Rat}(d:0<c)(h:a*c<b*c):a<b:=by
 have:=am4 d (a:=a) (b:=b);show this.mp h
def IH{n:Nat}{y:Nat->Int}{q:Int}{f:Prop}(r:0<q):∀(d:List (aw×dw))(G:aw),(∀p∈d,0<p.2.2.2)->(∀(i:Nat)(p:aw×dw)(g:Rat),d[i]?=À p->G[i]?=À g->((Lp.sm n (λk=>p.2.1 k*y k):Int):Rat)=b5 p.1*(q*g))->jX n y q f (d.map (·.2))->ly (d.map cz) G
 |[],_,_,_,_=>by rw[Zz];unfold ly;trivial
 |p::d,[],_,_,_=>by unfold ly;trivial
 |p::d,g::G,hp,e,h=>by
  have o:=e 0 p g rfl rfl;let#[u,B]:=Ah<|hp p<|.head _;have j:(0:Rat)<q:=ó.mpr r;have v:=Z8 B j;rw[ë];change cz p<g\/(cz p=g/\ly (d.map cz) G);rcases h with h |⟨h,A⟩
  .left;have h:=Rat.intCast_lt_intCast.mpr h;rw[è,è,o,<- u] at h;show OY v ?_
   grind
  .right;show#[?_,IH r d G (λp m=>hp p<|.tail _ m) (λi p g a b=>e (i+1) p g a b) A];have h:((_:Int):Rat)=((_:Int):Rat):=ap2 (λz:Int=>(z:Rat)) h;rw[è,è,o,<- u] at h;have C:cz p*((p.2.2.2:Rat)*(b5 p.1:Rat)*q)=g*((p.2.2.2:Rat)*(b5 p.1:Rat)*q):=by grind
   have x:(cz p - g)*((p.2.2.2:Rat)*(b5 p.1:Rat)*q)=0:=by grind
   rcases Rat.mul_eq_zero.mp x with l |l
   .grind
   .show ao8 l (ĕ v)
def Jx:∀(V G:aw),V.length=↑G->ly V G->(∀(i:Nat)(v g:Rat),V[i]?=À v->G[i]?=À g->g<=v)->V=G
 |[],[],_,_,_=>rfl
 |v::V,g::G,hl,h,le=>by
  have e:=le 0 v g rfl rfl;rcases h with h |⟨h,d⟩
  .show ao8 h (by grind)
  .rw[h,Jx V G (Ϭ hl) d λi v g a b=>le (i+1) v g a b]
def G4:∀(n:Nat)(x:Nat->Rat),∃(q:Int)(t:Nat->Int),0<q/\∀k,k<n->x k*q=t k
 |0,_=>#[1,λ_=>0,∎,λk a=>ao8 a<|ZP k]
 |n + 1,x=>by
  let#[q,t,b,h]:=G4 n x;have hd:(0:Int)<((x n).den:Int):=ĩ.mpr (x n).den_pos;show#[(x n).den*q,λk=>if k=n then (x n).num*q else (x n).den*t k,Ŧ hd b,λk a=>?_];change x k*_=(((if k=n then (x n).num*q else (x n).den*t k):Int):Rat);by_cases e:k=n
  .rw[ao7 e,e];have w:=oW (c:=x n)<|Int.dvd_refl ((x n).den:Int);unfold fH at w;rw[Int.fdiv_self<|é hd,al4] at w;rw[è,è,w]
   grind
  .rw[ao6 e,è,è,<- h k ⋯]
   grind
def G5{rs:av}{us:ah}(d:Int ⊕ (Str×Nat)):(lQ rs us d).length=aU rs us:=by
 unfold aU
 match d with
 |.inl k=>
  change (cF us rs k).length=_;unfold cF;rw[Ò,á,vG]
 |.inr p=>
  change (dq us ↑rs [(p.1,1)]).length=_;unfold dq;rw[Ò,á,Å]
def Jy{rs:av}{us:ah}{cs:aw}(h:↑cs=aU rs us)(y:Nat->Int):((Lp.sm `ac (λk=>cf `cG k*y k):Int):Rat)=b5 cs*dot cs λk=>(y k:Rat):=by
 rw[<- h];show Ag (b:=b5 cs) (cs:=cs) y (gR cs 1 ∎).2.2.1
def Jz{rs:av}{us:ah}{a:List (aw×dw)}{D:List (Int ⊕ (Str×Nat))}(b:a.map (·.1)=D.map `ci){i:Nat}{p:aw×dw}(hp:a[i]?=À p):∃d,D[i]?=À d/\p.1=lQ rs us d:=by
 have this:(a.map (·.1))[i]?=(D.map<|lQ rs us)[i]?:=by rw[b]
 rw[Ê,Ê,hp,ŏ] at this;cases e:D[i]? with
 |none=>rw[e] at this;cases this
 |some d=>rw[e] at this;show#[d,rfl,Ù this]
def AB{z:Nat}{rs:av}{us:ah}{a:List (aw×dw)}{ss:a7}{S:Nat->Nat}{mk:aI}{D:List (Int ⊕ (Str×Nat))}(h:fv z rs us a ss S mk)(v:a.map (·.1)=D.map `ci)(hd:∀d∈D,pX us d)(nd:us.Nodup){x:Nat->Rat}(y:∀k,k<↑us->0<=x k):ly (a.map cz) (D.map<|ua rs us x):=by
 let#[q,t,b,r]:=G4 ↑us x;have e:(0:Rat)<q:=ó.mpr b;have u:∀k,k<↑us->0<=t k:=λk n=>by
  have:=ŋ (y k n)<|ZM e;rw[r k n] at this;show Ķ.mp this
 show IH b a _ (λp m=>(h.c p m).2) (λi p g o l=>?_)<|h.x q _ (ľ b)<|Gj u;let#[d,f,j]:=Jz v o;rw[Ê,f,ŏ] at l;cases l;rw[(h.c p<|Î o).1,Jy (by rw[j];show G5 d),j,T8 u b r nd<|hd d<|Î f]
def Zd{rs:av}{us:ah}{S:Nat->Nat}(G:Lp.Gd ↑rs `ac `ab S)(k:Nat):er ↑rs `ac `ab S k*(Lp.dd ↑rs `ab S:Int)=(Lp.mD ↑rs `ac `ab S k:Int):=by
 unfold er;rw[ö];show ĵ<|ĕ<|ó.mpr G.pos
def best{z:Nat}{rs:av}{us:ah}{f:List (aw×dw)}{ss:a7}{S:Nat->Nat}{mk:aI}{D:List (Int ⊕ (Str×Nat))}(h:fv z rs us f ss S mk)(j:f.map (·.1)=D.map `ci)(hd:∀d∈D,pX us d)(nd:us.Nodup)(H:∀o∈rs,0<=o.2.2.2.2):(∀k,k<↑us->0<=er ↑rs `ac `ab S k)/\f.map cz=D.map (ua rs us<|er ↑rs (aU rs us) (Mx rs us) S):=by
 have F:=Lp.kL (sh:=fa mk) h.g h.n;have m:=h.g.pos;have q:(0:Rat)<(Lp.dd ↑rs `ab S:Int):=ó.mpr m;have B:∀k,k<↑us->0<=er ↑rs `ac `ab S k:=λk L=>by
  unfold er;show sD (F.nn k (by unfold aU;omega)) m
 show#[B,Jx _ _ (by rw[Å,Å];have:=ap2 İ j;rwa[Å,Å] at this) (AB h j hd nd B) λi v g b y=>?_];rw[Ê] at b;cases hp:f[i]? with
 |none=>rw[hp] at b;cases b
 |some p=>
  rw[hp] at b;cases b;let#[d,u,x]:=Jz j hp;rw[Ê,u,ŏ] at y;cases y;have r:=Î hp;have C:((_:Int):Rat)=((_:Int):Rat):=ap2 (λz:Int=>(z:Rat))<|h.e _ _ F p r;let#[I,J]:=Ah (h.c p r).2;rw[è,è,(h.c p r).1,Jy (by rw[x];show G5 d),<- I] at C;have a:=Wf F m (λk _=>Zd h.g k) H nd<|hd d<|Î u;rw[<- x] at a;generalize dot p.1 _=A at *;have E:(A - cz p*(Lp.dd ↑rs `ab S:Int))*((p.2.2.2:Rat)*(b5 p.1:Rat))=0:=by grind
  have G:A=cz p*(Lp.dd ↑rs `ab S:Int):=by
   rcases Rat.mul_eq_zero.mp E with c |c
   .grind
   .show ao8 c (ĕ J)
  rw[G] at a;show ņ.mp λl=>?_
  have:=(am4 q).mpr l
  grind
def Gk:∀(A B:aw),A.length=↑B->ly A B->ly B A->A=B
 |[],[],_,_,_=>rfl
 |a::A,b::B,hl,h,g=>by
  rcases h with h |⟨h,d⟩
  .rcases g with g |⟨g,_⟩<;>grind
  .rcases g with g |⟨_,g'⟩
   .grind
   .rw[h,Gk A B (Ϭ hl) d g']
def Ze(k:Str)(d:Rat):0<=lg k d:=by
 unfold lg
 repeat' split
 all_goals grind
def v9{us:ah}{k:Int}{x:Nat->Rat}:∀{rs:av},(∀o∈rs,0<=o.2.2.2.2)->0<=dH us k x rs
 |[],_=>Z7
 |o::rs,h=>by
  have b:=v9 (us:=us) (k:=k) (x:=x) λo m=>h o<|.tail _ m
  have a:(0:Rat)<=(o.2.2.2.2:Rat):=Ķ.mpr<|h o<|.head _;have:=ŋ a<|Ze o.2.1<|lK us o x;rw[dH];split<;>grind
def sL(us:ah)(k:Int)(x:Nat->Rat):∀A B:av,dH us k x (A++B)=dH us k x A+dH us k x B
 |[],B=>by rw[ϲ,dH,Œ]
 |o::A,B=>by rw[ϙ,dH,dH,sL us k x A B,ah7]
abbrev Wn(rs:av):Prop:=∀o∈rs,0<=o.2.2.2.2
def vY(k:Str)(d:Rat):lg k d=0↔(k="least"->0<=d)/\(k="most"->d<=0)/\(k≠"least"->k≠"most"->d=0):=by
 unfold lg;have ne:¬ ("most":Str)="least":=∎
 by_cases a:k="least"
 .rw[ao7 a];have b:¬ k="most":=λe=>ne<|e.symm.trans a
  split<;>grind
 .rw[ao6 a];by_cases b:k="most"
  .rw[ao7 b];split<;>grind
  .rw[ao6 b];split<;>grind
abbrev DD(us:ah):List (Int ⊕ (Str×Nat)):=([0,1,2,3,4]:aF).map ï++us.zipIdx.map ñ
def JA(us:ah):∀d∈DD us,pX us d:=by
 intro d m;rcases Æ.mp m with m |m
 .obtain⟨k,_,rfl⟩:=ß.mp m;show ý
 .obtain⟨p,mp,rfl⟩:=ß.mp m;have:=œ.mp mp;show this
def JX(rs:av)(us:ah):eN rs us us=(DD us).map `ci:=by
 unfold eN DD;rw[Û,þ,þ];congr 1;apply ė;intro i;rw[Ê,Ê,į];cases us[i]?<;>rfl
abbrev jT(rs:av)(us:ah)(x:Nat->Rat):aw:=(DD us).map<|ua rs us x
def sX(rs:av)(us:ah)(x:Nat->Rat):jT rs us x=dH us 0 x rs::(([1,2,3,4]:aF).map λk=>dH us k x rs)++us.zipIdx.map λp=>x p.2:=by
 unfold jT DD;rw[Û,þ,þ];rfl
def Wg(rs a:av)(us:ah)(x y:Nat->Rat):(jT rs us x).length=(jT a us y).length:=by unfold jT;rw[Å,Å]
def Zf{rs d:av}{us:ah}{x y:Nat->Rat}(h:jT rs us x=jT d us y){i:Nat}(b:i<↑us):x i=y i:=by
 rw[sX,sX] at h;have a:=(List.append_inj h<|by simp).2;have:=ap2 (λl=>l[i]?) a;rw[Ê,Ê,į,Ì b] at this;simpa using this
structure yn(rs:av)(us:ah)(S:Nat->Nat)(gs:List (aw×dw)):Prop where
 n:∀k,k<↑us->0<=er ↑rs `ac `ab S k
 v:gs.map cz=jT rs us (er ↑rs `ac `ab S)
 z:dH us 0 (er ↑rs `ac `ab S) rs=0
 l:∀y:Nat->Rat,(∀k,k<↑us->0<=y k)->ly (jT rs us<|er ↑rs (aU rs us) (Mx rs us) S) (jT rs us y)
def II{z:Nat}{rs:av}{us:ah}{a:List (aw×dw)}{ss:a7}{S:Nat->Nat}{mk:aI}(f:fv z rs us a ss S mk)(d:a.map (·.1)=eN rs us us)(h:∀p,a[0]?=À p->p.2.2.1=0)(nd:us.Nodup)(i:Wn rs):yn rs us S a:=by
 rw[JX] at d;let#[g,b]:=best f d (JA us) nd i;show#[g,b,?_,λy j=>?_]
 .have e:(a.map cz)[0]?=(jT rs us<|er ↑rs (aU rs us) (Mx rs us) S)[0]?:=by rw[b];rfl
  rw[sX,Ê] at e;cases q:a[0]? with
  |none=>rw[q] at e;cases e
  |some p=>
   rw[q] at e;have e:cz p=_:=Ù e;rw[<- e];unfold cz;rw[h p q,Ē]
 .have:=AB f d (JA us) nd j;rw[b] at this;show this
def Wh{z:Nat}{rs:av}{us:ah}{p:aw×dw}{ss:a7}{S:Nat->Nat}{mk:aI}(a:fv z rs us [p] ss S mk)(e:p.1=cF us rs 0)(f:p.2.2.1≠0)(nd:us.Nodup)(h:Wn rs){y:Nat->Rat}(i:∀k,k<↑us->0<=y k):dH us 0 y rs≠0:=by
 have g:[p].map (·.1)=[ï (0:Int)].map `ci:=ap2 (·::[]) e;have hd:∀d∈[(ï (0:Int):Int ⊕ (Str×Nat))],pX us d:=λd m=>by rw[ä.mp m];show ý
 let#[_,b]:=best a g hd nd h;have l:=AB a g hd nd i;have b:cz p=dH us 0 _ rs:=(List.cons.inj b).1;have n:=v9 (us:=us) (k:=0) (x:=er ↑rs `ac `ab S) h;rw[<- b] at n;have v:=Ah (a.c p<|.head _).2;have j:cz p≠0:=λz=>by
  rw[z,Ϙ] at v;show f<|aj0.mp v.1.symm
 intro z;have l:cz p<dH us 0 y rs\/(cz p=dH us 0 y rs/\_):=l;rw[z] at l;rcases l with l |⟨l,_⟩
 .grind
 .show j l
def Gm{us:ah}{k:Int}{x:Nat->Rat}(b:k≠0):∀{a:av},(∀o∈a,o.2.2.2.1=0)->dH us k x a=0
 |[],_=>rfl
 |o::a,h=>by
  have d:=h o<|.head _;rw[dH,Gm b λq m=>h q<|.tail _ m,ao6 ⋯]
  grind
def R8{rs a:av}{us:ah}{S R:Nat->Nat}{b hs:List (aw×dw)}(A:yn rs us S b)(hm:∀o∈a,o.2.2.2.1=0)(j:dH us 0 (er ↑rs `ac `ab S) a=0)(f:Wn (rs++a))(B:yn (rs++a) us R hs):eQ rs us S=eQ (rs++a) us R/\cT us b=cT us hs:=by
 have same:∀x:Nat->Rat,dH us 0 x rs=0->dH us 0 x a=0->jT (rs++a) us x=jT rs us x:=λx h i=>by
  rw[sX,sX,sL,h,i,ü];congr 2;show č λk mk=>?_
  rw[sL,Gm (by rintro rfl;show ao8 mk ∎) hm,ü]
 have d:=same _ A.z j;have u:=v9 (us:=us) (k:=0) (x:=er (rs++a).length (aU (rs++a) us) (Mx (rs++a) us) R) (rs:=rs) λo m=>f o<|Æ.mpr<|.inl m
 have y:=v9 (us:=us) (k:=0) (x:=er (rs++a).length (aU (rs++a) us) (Mx (rs++a) us) R) (rs:=a) λo m=>f o<|Æ.mpr<|.inr m
 have z:=B.z;rw[sL] at z;have g:=same (er (rs++a).length (aU (rs++a) us) (Mx (rs++a) us) R) (by grind) (by grind);have l1:=A.l _ B.n;have l2:=B.l _ A.n;rw[<- g,<- d] at l1;have e:=Gk _ _ (Wg _ _ _ _ _) l1 l2;constructor
 .unfold eQ;show č λp r=>?_
  unfold rg;have q:=œ.mp r;rw[Zf e (Á.mp q).1]
 .unfold cT;have:b.tail.map cz=hs.tail.map cz:=by
   rw[show b.tail.map cz=(b.map cz).tail by cases b<;>rfl,show hs.tail.map cz=(hs.map cz).tail by cases hs<;>rfl,A.v,B.v,<- e,d]
  rw[this]
abbrev dk:Nat->(Nat->Rat)->Rat
 |0,_=>0
 |n + 1,f=>dk n f + f n
def yG{f g:Nat->Rat}:∀{n:Nat},(∀a,a<n->f a=g a)->dk n f=dk n g
 |0,_=>rfl
 |n + 1,h=>by rw[dk,dk,yG λa b=>h a ⋯,h n ⋯]
def sO{f:Nat->Rat}:∀{n:Nat},(∀a,a<n->f a=0)->dk n f=0
 |0,_=>rfl
 |n + 1,h=>by rw[dk,sO λa b=>h a ⋯,h n ⋯,ü]
def sM{f:Nat->Rat}{b:Nat}:∀{n:Nat},b<n->(∀a,a<n->a≠b->f a=0)->dk n f=f b
 |n + 1,hb,h=>by
  rw[dk];by_cases e:b=n
  .subst e;rw[sO λa d=>h a ⋯ ⋯,Œ]
  .rw[sM (n:=n) ⋯ λa d=>h a ⋯,h n ⋯ ⋯,ü]
def zt(f g:Nat->Rat):∀n:Nat,dk n (λa=>f a+g a)=dk n f+dk n g
 |0=>(ü _).symm
 |n + 1=>by rw[dk,dk,dk,zt f g n];grind
def G6{j F:Nat->Rat}{n b:Nat}(s:Rat)(h:b<n)(d:j b=0):dk n (λa=>(if a=b then s else j a)*F a)=dk n (λa=>j a*F a)+s*F b:=by
 rw[yG (g:=λa=>j a*F a+if a=b then s*F b else 0) λa _=>?_,zt,sM (f:=λa=>if a=b then s*F b else 0) h λa _ ne=>ao6 ne,ao7 rfl];by_cases e:a=b
 .rw[ao7 e,ao7 e,e,d];grind
 .rw[ao6 e,ao6 e,ü]
def G7{j:Nat}{p:bR}:∀{rs:av}{h:Nat->bR->Rat},rs[j]?=À p->(∀i o,rs[i]?=À o->i≠j->h i o=0)->cY rs h=h j p:=by
 induction j with
 |zero=>
  intro rs h e z;cases rs with
  |nil=>cases e
  |cons o rs=>
   cases e;rw[cY,qG (g:=λ_ _=>0*0) λi o h=>by rw[z (i+1) o h ⋯,Ϙ],vT]
   grind
 |succ j a=>
  intro rs h e z;cases rs with
  |nil=>cases e
  |cons o rs=>
   rw[cY,a (h:=λi=>h<|i+1) e λi o h ne=>z (i+1) o h ⋯,z 0 o rfl ⋯,Œ]
def JS{rs:av}{us:ah}{i j k:Nat}{o:bR}(h:rs[j]?=À o)(b:k=↑us+2*i\/k=↑us+2*i+1)(a:i<↑rs)(ne:j≠i):AR rs us j k=0:=by
 rw[tu h];unfold A0;rw[ao6 ⋯,ao6 ⋯,ao6 ⋯,ao6 ⋯]
def Cb.ba{rs:av}{us:ah}{c l:Nat->Rat}{row:aw}(h:Cb rs us c row l){i:Nat}{o:bR}(e:rs[i]?=À o):row.getD (↑us+2*i) 0=c (↑us+2*i) - l i/\row.getD (↑us+2*i+1) 0=c (↑us+2*i+1)+l i:=by
 have b:=(Á.mp e).1;have z:((0:Int):Rat)=0:=rfl;constructor
 .rw[h _ (by unfold aU;omega),G7 e λj p a ne=>by rw[JS a `aj b ne,z,ũ],tu e];unfold A0;rw[ao6 ⋯,ao7 rfl,show ((1:Int):Rat)=1 from rfl,Rat.mul_one]
 .rw[h _ (by unfold aU;omega),G7 e λj p a ne=>by rw[JS a (.inr rfl) b ne,z,ũ],tu e];unfold A0;rw[ao6 ⋯,ao6 ⋯,ao7 rfl,show ((-1:Int):Rat)=-1 from rfl]
  grind
def Zg{ss:a7}{mk:aI}{st:aw×aw}{k C:Nat}(b:↑st.1=C+1)(a:(ss.getD k []).length=C+1){n:Nat}(hn:n<=C):(n6 ss mk st k).1.getD n 0=st.1.getD n 0+shr st.1 ss k mk*(ss.getD k []).getD n 0:=by
 unfold n6;dsimp only;generalize ss.getD k []=row at a ⊢;generalize shr st.1 ss k mk=s;split
 .next e=>rw[e];grind
 .rw[Ã,Ã,Ã,aj3,Ì ⋯,Ì ⋯];rfl
def Wi{ss:a7}{mk:aI}{st:aw×aw}{k C:Nat}(a:↑st.1=C+1)(b:(ss.getD k []).length=C+1):(n6 ss mk st k).1.length=C+1:=by
 unfold n6;dsimp only;split
 .show a
 .rw[Z9,a,b,Nat.min_self]
def ML{y s v:Rat}(q:0 - y<=s*v):0<=y+s*v:=by grind
def OD{y m:Rat}(h:y+m<0)(q:0<=m):y<0:=by grind
structure K6(rs:av)(us:ah)(cs ss:a7)(mk:aI)(i j:Nat)(G l:Nat->Rat):Prop where
 n:(pp ss mk i j).1.length=aU rs us+1
 c:Cb rs us (λk=>dk (i+1) λa=>G a*(cs.getD a []).getD k 0) (pp ss mk i j).1 l
 x:(pp ss mk i j).1.getD `ac 0=dk (i+1) λa=>G a*(ss.getD a []).getD `ac 0
 h:G i=1
 z:∀a,a<i - j->G a=0
 g:∀a,i<a->G a=0
 p:∀a,0<=G a
 s:(pp ss mk i j).2=(Ç j).map λt=>G<|i - 1 - t
 o:∀k,k<aU rs us->(pp ss mk i j).1.getD k 0<0->∃b:Nat,b<i - j/\((ï (k:Int):aW),À (b:Int))∈mk
def fv.pI{z:Nat}{rs:av}{us:ah}{u:List (aw×dw)}{ss:a7}{S:Nat->Nat}{mk:aI}(h:fv z rs us u ss S mk){i:Nat}(hi:i<↑ss):∀j,j<=i->∃G l,K6 rs us (u.map (·.1)) ss mk i j G l:=by
 have Q:∀a,a<↑ss->(ss.getD a []).length=aU rs us+1/\ss[a]?=À (ss.getD a [])/\∃l,Cb rs us (λk=>((u.map (·.1)).getD a []).getD k 0) (ss.getD a []) l:=λa f=>by
  obtain⟨p,U⟩:∃p,u[a]?=À p:=#[_,Ì (by rw[<- h.s];show f)];show#[(sW h.r a f).1,by rw[Ã,Ì f];rfl,?_];rw[Ã (l:=u.map (·.1)),Ê,U];show h.k a p U
 intro j
 induction j with
 |zero=>
  intro _;let#[J,H,l,M]:=Q i hi;show#[λa=>if a=i then 1 else 0,l,J,λk d=>?_,?_,ao7 rfl,λa f=>ao6 ⋯,λa f=>ao6 ⋯,λa=>?_,rfl,λk d hn=>h.o i _ H k d hn]
  .show (ss.getD i []).getD k 0=_;rw[M k d];dsimp only;rw[sM (b:=i) ⋯ λa _ ne=>by rw[ao6 ne,Ϙ],ao7 rfl,Rat.one_mul]
  .rw[sM (b:=i) ⋯ λa _ ne=>by rw[ao6 ne,Ϙ],ao7 rfl,Rat.one_mul];rfl
  .split<;>decide
 |succ j ih=>
  intro hj;∎;let#[G,l,I]:=ih ⋯;let#[J,H,l2,M]:=Q (i - 1 - j) ⋯;∎;have O:=I.z (i - 1 - j) ⋯;have s0:0<=shr (pp ss mk i j).1 ss (i - 1 - j) mk:=zp _ _ _ _ 0;have at':∀k,k<=aU rs us->(pp ss mk i<|j+1).1.getD k 0=(pp ss mk i j).1.getD k 0+shr (pp ss mk i j).1 ss (i - 1 - j) mk*(ss.getD (i - 1 - j) []).getD k 0:=λk d=>Zg I.n J d
  have sg:(pp ss mk i<|j+1).2=(pp ss mk i j).2++[shr (pp ss mk i j).1 ss (i - 1 - j) mk]:=rfl;have ge:∀k:Nat,((ï (k:Int):aW),À ((i - 1 - j:Nat):Int))∈mk->lh (pp ss mk i j).1 ss (i - 1 - j) k<=shr (pp ss mk i j).1 ss (i - 1 - j) mk:=λk=>Ir _ ss (i - 1 - j) k mk 0
  show#[λa=>if a=i - 1 - j then shr (pp ss mk i j).1 ss (i - 1 - j) mk else G a,λt=>l t+shr (pp ss mk i j).1 ss (i - 1 - j) mk*l2 t,Wi I.n J,λk d=>?_,?_,?_,λa f=>?_,λa f=>?_,λa=>?_,?_,λk d hn=>?_]
  .rw[at' k d,I.c k d,M k d];dsimp only;rw[G6 _ ⋯ O,qG (h:=λt _=>(l t+shr (pp ss mk i j).1 ss (i - 1 - j) mk*l2 t)*(AR rs us t k:Rat)) (g:=λt _=>l t*(AR rs us t k:Rat)+shr (pp ss mk i j).1 ss (i - 1 - j) mk*(l2 t*(AR rs us t k:Rat))) λt o _=>by grind,GU,vT];generalize cY rs _=A;generalize cY rs _=B;generalize dk (i+1) _=R
   grind
  .rw[at' _<|Ï _,I.x,G6 _ ⋯ O]
  .rw[ao6 ⋯];show I.h
  .rw[ao6 ⋯];show I.z a ⋯
  .rw[ao6 ⋯];show I.g a f
  .split
   .show s0
   .show I.p a
  .rw[sg,I.s,Z2,Û];congr 1
   .show č λt mt=>?_
    have:=ī.mp mt;rw[ao6 ⋯]
   .rw[List.map_singleton,ao7 rfl]
  .rw[at' k ⋯] at hn;generalize shr (pp ss mk i j).1 ss (i - 1 - j) mk=s at *;by_cases L:(ss.getD (i - 1 - j) []).getD k 0<0
   .obtain⟨b,hb,C⟩:=h.o _ _ H k d L;show#[b,⋯,C]
   .have L:=ņ.mp L;have m:=ŋ s0 L;let#[b,hb,C]:=I.o k d<|OD hn m;by_cases e:b=i - 1 - j
    .subst e;let#[kn,j',D,E,α,row,v,N,e4,Y]:=h.m.m _ C;dsimp only at D E;have D:kn=i - 1 - j:=by have:=Ù D;omega
     have E:j'=k:=by have:=Η E;omega
     subst D E;have g:=ge _ C;rw[H] at N;cases N;unfold lh at g;rw[Ã (l:=ss.getD (i - 1 - j) []),e4,Zp] at g hn;have q:=Rat.mul_le_mul_of_nonneg_right g<|ZM Y;rw[ĵ<|ĕ Y] at q;generalize (pp ss mk i j).1.getD j' 0=y at *;show ao8 hn<|ņ.mpr<|ML q
    .show#[b,⋯,C]
section
variable{rs:av}{us:ah}
def Zh(k:Int){t:Nat}(h:t<↑us):(cF us rs k).getD t 0=0:=by
 unfold cF;rw[Ã,î (by rw[á];show h),Ź,ao7 h];rfl
def wa(k:Int){j:Nat}{o:bR}(h:rs[j]?=À o):(cF us rs k).getD (↑us+2*j) 0=cb us k o/\(cF us rs k).getD (↑us+2*j+1) 0=ca us k o:=by
 let#[a,b]:=Gb (cb us k) (ca us k) h;unfold cF;rw[Ã,ç (by rw[á];omega),á,Ã,ç (by rw[á];omega),á,show ↑us+2*j - ↑us=2*j by omega,show ↑us+2*j+1 - ↑us=2*j+1 by omega,a,b];show#[rfl,rfl]
def Zi(a:List (Str×Rat)){t:Nat}{u:Str}(h:us[t]?=À u):(dq us ↑rs a).getD t 0=(bU a u).getD 0:=by
 unfold dq;rw[Ã,î (by rw[Å];show (Á.mp h).1),Ê,h];rfl
def Ai(a:List (Str×Rat)){t:Nat}(h:↑us<=t):(dq us ↑rs a).getD t 0=0:=by
 unfold dq;rw[Ã,ç (by rw[Å];show h),Ź];split<;>rfl
def wc(a:Nat):(a<=4/\(eN rs us us).getD a []=cF us rs a)\/(5<=a/\∃u,us[a - 5]?=À u/\(eN rs us us).getD a []=dq us ↑rs [(u,1)])\/(5<=a/\↑us<=a - 5/\(eN rs us us).getD a []=[]):=by
 match a with
 |0=>show .inl #[⋯,rfl]
 |1=>show .inl #[⋯,rfl]
 |2=>show .inl #[⋯,rfl]
 |3=>show .inl #[⋯,rfl]
 |4=>show .inl #[⋯,rfl]
 |a + 5=>
  right;have e:(eN rs us us).getD (a+5) []=(us.map λu=>dq us ↑rs [(u,1)]).getD a []:=by
   unfold eN;rw[Ã,ç ∅,Ã];rfl
  rw[e,Ã,Ê,show a+5 - 5=a by omega];cases q:us[a]? with
  |none=>show .inr #[⋯,List.getElem?_eq_none_iff.mp q,rfl]
  |some u=>show .inl #[⋯,u,rfl,rfl]
def G8{j:Nat}{o:bR}(h:rs[j]?=À o)(b:0<=o.2.2.2.1/\o.2.2.2.1<=4){a:Nat}(ne:a≠o.2.2.2.1.toNat):((eN rs us us).getD a []).getD (↑us+2*j) 0=0/\((eN rs us us).getD a []).getD (↑us+2*j+1) 0=0:=by
 rcases wc (rs:=rs) (us:=us) a with⟨_,e⟩ |⟨_,u,_,e⟩ |⟨_,_,e⟩
 .rw[e,(wa _ h).1,(wa _ h).2];unfold cb ca;rw[ao6 ⋯,ao6 ⋯];show#[rfl,rfl]
 .rw[e];show#[Ai _ ⋯,Ai _ ⋯]
 .rw[e];show#[rfl,rfl]
def IJ(nd:us.Nodup){t:Nat}{u:Str}(h:us[t]?=À u)(a:Nat):((eN rs us us).getD a []).getD t 0=if a=5+t then 1 else 0:=by
 have d:=(Á.mp h).1;rcases wc (rs:=rs) (us:=us) a with⟨_,e⟩ |⟨_,v,b,e⟩ |⟨_,_,e⟩
 .rw[e,Zh _ d,ao6 ⋯]
 .rw[e,Zi _ h];by_cases q:a=5+t
  .rw[q,show 5+t - 5=t by omega,h] at b;cases b;rw[ao7 q,sR (p:=(u,(1:Rat))) rfl];rfl
  .have ne:v≠u:=by
    rintro rfl;have:=(ao0 (Á.mp b).1 nd).mp<|b.trans h.symm;omega
   rw[ao6 q];simp[bU,ne]
 .rw[e,ao6 ⋯];rfl
def Xi(a:Nat):((eN rs us us).getD a []).getD `ac 0=0:=by
 rcases wc (rs:=rs) (us:=us) a with⟨_,e⟩ |⟨_,v,b,e⟩ |⟨_,_,e⟩
 .rw[e,Ã,à (by unfold cF aU;rw[Ò,á,vG];show Ï _)];rfl
 .rw[e];show Ai _ (by unfold aU;omega)
 .rw[e];rfl
def K1{j t:Nat}{o:bR}{u:Str}(h:rs[j]?=À o)(b:us[t]?=À u):(AR rs us j t:Rat)=(bg us o:Rat)*(bU o.1 u).getD 0:=by
 have a:`bX[t]?=À ((bU o.1 u).getD 0):=by unfold gY;rw[Ê,b];rfl
 rw[tu h];unfold A0;rw[ao7 (Á.mp b).1];unfold ed;rw[Ã,Ê,a];show oW<|(mi us o).2.1 _<|Î a
def K2{j:Nat}{o:bR}(h:rs[j]?=À o):(AR rs us j `ac:Rat)=(bg us o:Rat)*o.2.2.1:=by
 have a:=(Á.mp h).1;rw[tu h];unfold A0 aU;rw[ao6 ⋯,ao6 ⋯,ao6 ⋯,ao7 rfl];show oW (mi us o).2.2
def T9{left:aw}{c l:Nat->Rat}(r:Cb rs us c left l)(nn:∀k,k<aU rs us->0<=left.getD k 0){j:Nat}{o:bR}(h:rs[j]?=À o)(B:0<=o.2.2.2.2){s:Rat}(eb:c (↑us+2*j)=s*cb us o.2.2.2.1 o)(q:c (↑us+2*j+1)=s*ca us o.2.2.2.1 o)(hs:0<=s):
  jU rs us left j=l j*(bg us o:Rat)/\(o.2.1="least"->0<=jU rs us left j)/\(o.2.1="most"->jU rs us left j<=0)/\jU rs us left j<=(o.2.2.2.2:Rat)*s/\-((o.2.2.2.2:Rat)*s)<=jU rs us left j:=by
 have D:=(Á.mp h).1;let#[b,a]:=r.ba h;have i:=nn (↑us+2*j) (by unfold aU;omega);have m:=nn (↑us+2*j+1) (by unfold aU;omega);have sp:(0:Rat)<(bg us o:Rat):=ó.mpr (mi us o).1;have C:(0:Rat)<=(o.2.2.2.2:Rat):=Ķ.mpr B;have E:0<=(o.2.2.2.2:Rat)*s:=ŋ C hs;have x:Í o.2.2.2.2 `al*(bg us o:Rat)=(o.2.2.2.2:Rat):=by rw[ö,ĵ<|ĕ sp]
 have v:Í `al 2=(bg us o:Rat) / 2:=by rw[ö];rfl
 unfold jU;rw[h];dsimp only;rw[eb] at b;rw[q] at a;rw[b] at i ⊢;rw[a] at m ⊢;unfold n7 cb ca at *;rw[ao7 rfl] at i m ⊢;rw[ao7 rfl];clear b a eb q r nn;have n:=λy:Rat=>λhy:0<=y=>ŋ hy<|ZM sp
 generalize Í o.2.2.2.2 (bg us o)=d at *;generalize (o.2.2.2.2:Rat)=W at *;have A:((-bg us o:Int):Rat)=-(bg us o:Rat):=ZQ _;rw[A,v];generalize (bg us o:Rat)=Z at *;generalize l j=L at *;subst x;by_cases f:o.2.1="least"
 .have g:¬ o.2.1="most":=by rw[f];decide
  rw[ao7 f] at m;rw[ao6 g] at i;rw[ao7 f,ao7 f];have p:=n _ m;have u:=n _ i;show#[by grind,λ_=>p,λe=>ao8 e g,by grind,by grind]
 .rw[ao6 f] at m;by_cases g:o.2.1="most"
  .rw[ao7 g] at i;rw[ao6 f,ao7 g,ao7 g];have p:=n _ m;have u:=n _ i;show#[by grind,λe=>ao8 e f,λ_=>by grind,by grind,by grind]
  .rw[ao6 g] at i;have e:(s*d+L - (s*d - L))*(Z / 2)=L*Z:=by grind
   rw[ao6 f,ao6 g,ao6 f,ao6 g,e];have p:=n _ m;have u:=n _ i;show#[rfl,λe=>ao8 e f,λe=>ao8 e g,by grind,by grind]
end
def YA{rs:av}{us:ah}{a:aw}{i:Nat}(h:i<↑rs):(jV rs us a).getD i 0=jU rs us a i:=by
 unfold jV;rw[Ã,Ê,ê h];rfl
structure K5(rs:av)(us:ah)(gs:List (aw×dw))(ss:a7)(mk:aI)(k:Nat)(i:Nat->Rat):Prop where
 s:(pap rs us ss mk k).2=(Ç k).map λa=>i<|a+1
 l:(pap rs us ss mk k).1.length=↑rs
 h:i (k+1)=1
 g:∀a,k+1<a->i a=0
 p:∀a,0<=i a
 r:∀(j:Nat)(o:bR),rs[j]?=À o->(o.2.1="least"->0<=(pap rs us ss mk k).1.getD j 0)/\(o.2.1="most"->(pap rs us ss mk k).1.getD j 0<=0)/\(pap rs us ss mk k).1.getD j 0<=(o.2.2.2.2:Rat)*i o.2.2.2.1.toNat/\-((o.2.2.2.2:Rat)*i o.2.2.2.1.toNat)<=(pap rs us ss mk k).1.getD j 0
 c:∀(t:Nat)(u:Str),us[t]?=À u->cY rs (λj o=>(pap rs us ss mk k).1.getD j 0*(bU o.1 u).getD 0)<=i (5+t)
 v:cY rs (λj o=>(pap rs us ss mk k).1.getD j 0*o.2.2.1)=dk (k+2) λa=>i a*(gs.map cz).getD a 0
 t:∀a,a<k+1->(pp ss mk (k+1)<|k+1).2[k - a]?=À (i a)
 e:∀a,a<k+2->(ss.getD a []).getD `ac 0=-(gs.map cz).getD a 0
def Xj{f g:Nat->Rat}{n:Nat}(h:∀a,a<n->f a=-g a):dk n f=-dk n g:=by
 have:=zt f g n;rw[sO λa b=>by rw[h a b];grind] at this
 grind
def fv.pap{z:Nat}{rs:av}{us:ah}{y:List (aw×dw)}{ss:a7}{S:Nat->Nat}{mk:aI}(h:fv z rs us y ss S mk)(Q:y.map (·.1)=eN rs us us)(nd:us.Nodup)(hr:∀o∈rs,(0<=o.2.2.2.1/\o.2.2.2.1<=4)/\0<=o.2.2.2.2){k:Nat}(Y:k+1<↑ss):∃G,K5 rs us y ss mk k G:=by
 let#[G,l,I]:=h.pI Y (k+1)<|Ï _;rw[Q] at I;have nn:∀m,m<aU rs us->0<=(pp ss mk (k+1)<|k+1).1.getD m 0:=λm hm=>ņ.mp λq=>by
  let#[b,L,_]:=I.o m hm q;omega
 have one:∀(f:Nat->Rat)(b:Nat),(∀a,a≠b->f a=0)->dk (k+2) (λa=>G a*f a)=G b*f b:=λf b M=>by
  by_cases L:b<k+2
  .show sM L λa _ ne=>by rw[M a ne,ũ]
  .rw[I.g b ⋯,Ϙ];show sO λa B=>by rw[M a ⋯,ũ]
 have at':∀j o,rs[j]?=À o->(Sf.pap rs us ss mk k).1.getD j 0=jU rs us (pp ss mk (k+1)<|k+1).1 j:=λj o e=>YA (Á.mp e).1
 have d:∀(j:Nat)(o:bR)(e:rs[j]?=À o),_:=λj o e=>by
  let#[#[D,J],hw]:=hr o<|Î e;have H:(eN rs us us).getD o.2.2.2.1.toNat []=cF us rs o.2.2.2.1:=by
   rcases wc (rs:=rs) (us:=us) o.2.2.2.1.toNat with⟨_,q⟩ |⟨_,_⟩ |⟨_,_⟩
   .rw[q,am6 D]
   .omega
   .omega
  show T9 I.c nn e hw (s:=G o.2.2.2.1.toNat) (by rw[one _ o.2.2.2.1.toNat λa ne=>(G8 e ⟨D,J⟩ ne).1,H,(wa _ e).1]) (by rw[one _ o.2.2.2.1.toNat λa ne=>(G8 e ⟨D,J⟩ ne).2,H,(wa _ e).2]) (I.p _)
 have val:∀a,a<k+2->(ss.getD a []).getD `ac 0=-(y.map cz).getD a 0:=λa B=>by
  obtain⟨p,N⟩:∃p,y[a]?=À p:=#[_,Ì (by rw[<- h.s];omega)];let#[row,x,E,O]:=h.v a p N;have hl:=(h.r _<|Î E).1;rw[Ò,ŕ] at hl;rw[Ã (l:=ss),E,Zp,Ã,ç ⋯,show aU rs us - ↑row=0 by omega,Ã,Ê,N];change x=-cz p;unfold cz;rw[<- O]
  grind
 show#[G,?_,?_,I.h,λa B=>I.g a ⋯,I.p,λj o e=>?_,λt u C=>?_,?_,λa B=>?_,val]
 .show (pp ss mk (k+1)<|k+1).2.reverse.tail=_;rw[I.s];show ac7 ∅ λi U h2=>?_
  simp at U;simp[List.getElem_reverse];congr 1;omega
 .show (jV _ _ _).length=_;unfold jV;rw[Å,Õ]
 .rw[at' j o e];show (d j o e).2
 .rw[qG (g:=λj _=>l j*(AR rs us j t:Rat)) λj o e=>by rw[at' j o e,(d j o e).1,K1 e C,Rat.mul_assoc]];have ht:=(Á.mp C).1;have c:_=dk (k+2) (λa=>G a*((eN rs us us).getD a []).getD t 0) - cY rs (λj _=>l j*(AR rs us j t:Rat)):=I.c t (by unfold aU;omega);have n:=nn t (by unfold aU;omega);rw[one (λa=>((eN rs us us).getD a []).getD t 0) (5+t) λa ne=>by rw[IJ nd C,ao6 ne],IJ nd C,ao7 rfl,Rat.mul_one] at c;rw[c] at n;generalize cY rs _=A at *
  grind
 .rw[qG (g:=λj _=>l j*(AR rs us j `ac:Rat)) λj o e=>by rw[at' j o e,(d j o e).1,K2 e,Rat.mul_assoc]];have c:_=dk (k+2) (λa=>G a*((eN rs us us).getD a []).getD `ac 0) - cY rs (λj _=>l j*(AR rs us j `ac:Rat)):=I.c `ac<|Ï _;rw[sO λa _=>by rw[Xi,ũ],I.x,Xj (g:=λa=>G a*(y.map cz).getD a 0) λa B=>?_] at c
  .generalize cY rs _=A at *
   grind
  .rw[val a ⋯]
   grind
 .rw[I.s,Ê,ê ⋯,ŏ,show k+1 - 1 - (k - a)=a by omega]
abbrev dc:List (Rat×Rat)->Rat
 |[]=>0
 |p::ps=>p.1 * p.2 + dc ps
def vV:∀A B:List (Rat×Rat),dc (A++B)=dc A+dc B
 |[],B=>by rw[ϲ,dc];grind
 |p::A,B=>by rw[ϙ,dc,dc,vV A B];grind
def zu(f:bR->Rat):∀{rs:av}{P:aw},rs.length=↑P->dc (P.zip<|rs.map f)=cY rs λi o=>P.getD i 0*f o
 |[],[],_=>rfl
 |o::rs,x::P,hl=>by
  have a:=zu f (rs:=rs) (P:=P)<|Ϭ hl;change x*f o+dc (P.zip<|rs.map f)=x*f o+cY rs λi o=>P.getD i 0*f o
  rw[a]
def Gn(a b:Int){D:Int}(h:D≠0):Í a D+Í b D=Í (a+b) D:=by
 rw[al0 _ _ h h,<- Int.add_mul,Ť h]
def Aj{D:Int}(d:0<D){l:Nat}:∀z:List (Rat×Rat),(∀p∈z,∃a:Int,p.1*p.2=Í a D/\bi a<=l)->∃a:Int,dc z=Í a D/\a.natAbs<=↑z*2 ^ l
 |[],_=>#[0,(Ē _).symm,by simp]
 |p::z,h=>by
  ∎;let#[a,e,g]:=Aj d z λq m=>h q<|.tail _ m
  let#[b,eb,f]:=h p<|.head _;∎;show#[b+a,by rw[dc,e,eb,Gn _ _<|é d],?_];have:=kd f;have:=ac0 b a;rw[Ú,ϥ];omega
def IK{z:List (Rat×Rat)}(h:CD 3900 3900 (z.map λp=>p.1*p.2))(j:↑z<=16)(i:Nat):bs (dc<|z.take i)<=3905:=by
 let#[D,b,g,f]:=h;let#[a,d,e]:=Aj b (l:=3900) `ew λp m=>f _<|Ŏ<|Š m
 rw[d];show ny (é b) (gU<|Ď e ?_) ⋯;rw[show 3905=5+3900 from rfl,ab6];show Ϻ (Ď (show _<=16 by rw[û];omega) ∎)<|ϻ _
def Ua{z:List (Rat×Rat)}{i:Nat}{p:Rat×Rat}(h:z[i]?=À p):dc (z.take<|i+1)=dc `ew+p.1*p.2:=by
 rw[đ,h,vV];change _+(_+0)=_;rw[ü]
structure kC(ws ns:aw):Prop where
 b:∀p∈ws.zip ns,bs p.1+bs p.2<=7990
 l:(ws.zip ns).length<=16
 c:CD 3900 3900 ((ws.zip ns).map λp=>p.1*p.2)
def kC.s{a ns:aw}(h:kC a ns):bs (dc<|a.zip ns)<=3905:=by
 have:=IK h.c h.l (a.zip ns).length;rwa[Ĕ] at this
inductive gh(xs:af)(Q:Tr->aA):Prop
 |mk(_:↑xs=2)(f g:Fl)(ws ns:aw)(_:Fp f)(_:Fp g)(_:xs=[.ag f ↥ws,.ag g ↥ns])(_:kC ws ns)(_:∀j,Q (ae.t (dc (ws.zip ns))) j):gh xs Q
def yH{z:Bool}:aJ P w K mg base bI 4 T.qe.a T.qe.d ["weights","numbers"] (bP K z 0 2 gh):=by
 show cc T.qe.F OV rfl ∎ ?_
 intros
 show#[_,(aO (bC 2<|gb [0,1] T.gw T.gx)
  (aO (fL (mE T.l7<|ak (qv 0)<|ak (qv 1) aC) (iU (n:=2) rfl<|dP (cR 3)<|dP (cR 4) iN)<|aZ<|bC 2<|qc T.qh (zF T)<|ak (qv 2)<|ak (qc T.l5 (qJ T)<|ak (qv 3)<|ak (qv 4) aC) aC)
  (aZ<|bW<|qv 2))),?_]
 intro r o _ zy;let#[_,f,g,h,ns,_,_,rfl,e,q]:=zy;rfl';show Loop.map _ _ (λi j=>∃(a b:Tr),j=[.ag f ↥h,.ag g ↥ns,ae.t<|dc<|(h.zip ns).take i,a,b]) #[.ar,.ar,rfl] ?_ ?_
 .rintro i ⟨x,y⟩ j hx ⟨a,b,rfl⟩;have m:=e.b _<|Î hx;have t:=IK e.c e.l i;have p:bs (x*y)<=3900:=e.c.bs (Ï _)<|Ŏ (f:=λp:Rat×Rat=>p.1*p.2)<|Î hx;dsimp only at m;rfl';show#[rfl,x,y,rfl,m,λj=>?_];rfl';show#[rfl,_,x*y,rfl,⋯,λj=>?_];rfl';show#[_,_,by rw[Ua hx]]
 .rintro j ⟨a,b,rfl⟩;rw[Ĕ];rfl';show q _
nonrec abbrev wU(a:av)(u:Str):aw:=a.map λr=>(bU r.1 u).getD 0
inductive ic(xs:af)(Q:Tr->aA):Prop
 |mk(_:↑xs=3)(f g:Fl)(rows:av)(ps:aw)(u:Str)(_:Fp f)(_:Fp g)(_:xs=[.ag f ↥rows,.ag g ↥ps,.str u])(_:↑rows<=16)(_:kC ps (wU rows u))(_:∀j,Q (ae.t (dc (ps.zip (wU rows u)))) j):ic xs Q
def R9{z:Bool}:aJ P w K mg base bI 5 T.uJ.a T.uJ.d ["rows","prices","unknown"] (bP K z 0 3 ic):=by
 show cc T.uJ.F Ra rfl ∎ λbH A outer s H E i p o=>?_
 show#[_,(aZ<|bW<|qc T.qe (yH T)<|ak (qv 1)<|ak (hJ ["one","unknown"] [È,À 2] (fj<|qv 0) (eF 0) (λ_ _ _ _ _=>(z6 (a8 (qv 0) aD) (qv 1)<|gb [0,1] T.gw T.gx))) aC),?_];intro v m _ zy;let#[_,f,g,b,l,u,_,_,rfl,n,h,q]:=zy;rfl';show bc.map b ae.t (λr=>(bU r.1 u).getD (0:Rat)) ⋯ (λr i R e=>?_) ?_
 .rfl';show e
 .rfl';show#[rfl,g,.f,l,_,inferInstance,inferInstance,rfl,h,λj=>#[iI _,q _]]
abbrev eZ(t:Int ⊕ Str):List (((Int ⊕ Str)×Rat)×Rat)->Rat
 |[]=>0
 |p::z=>(if p.1.1=t then p.2 else 0) + eZ t z
def G9(t:Int ⊕ Str):∀A B,eZ t (A++B)=eZ t A+eZ t B
 |[],B=>by rw[ϲ,eZ];grind
 |p::A,B=>by rw[ϙ,eZ,eZ,G9 t A B];grind
def Gp{t:Int ⊕ Str}{z:List (((Int ⊕ Str)×Rat)×Rat)}{i:Nat}{p:((Int ⊕ Str)×Rat)×Rat}(h:z[i]?=À p):eZ t (z.take<|i+1)=eZ t `ew+if p.1.1=t then p.2 else 0:=by
 rw[đ,h,G9];change _+(_+0)=_;rw[ü]
abbrev cn(st:List ((Int ⊕ Str)×Rat))(sh:aw)(g t:Int ⊕ Str):Rat:=(if t=g then 1 else 0)+eZ t (st.zip sh)
inductive gg(xs:af)(Q:Tr->aA):Prop
 |mk(_:↑xs=4)(f g:Fl)(st:List ((Int ⊕ Str)×Rat))(sh:aw)(goal thing:Int ⊕ Str)(_:Fp f)(_:Fp g)(_:xs=[.ag f ↥st,.ag g ↥sh,ae.t goal,ae.t thing])(_:∀s∈sh,bs s<=3900)(_:∀i,bs ((if thing=goal then 1 else 0)+eZ thing ((st.zip sh).take i))<=3900)(_:∀j,Q (ae.t (cn st sh goal thing)) j):gg xs Q
def EG{z:Bool}:aJ P w K mg base bI 4 T.rD.a T.rD.d ["settled","shares","goal","thing"] (bP K z 0 4 gg):=by
 show cc T.rD.F OU rfl ∎ ?_
 intros
 show#[_,(aO (bC 4<|tE (cm gB gp (qv 3)<|qv 2) (iZ<|ak aD<|ak aD aC)<|gb [0,1] T.gw T.gx)
  (aO (fL (mE T.l7<|ak (qv 0)<|ak (qv 1) aC) (iU (n:=2) rfl<|dP (cR 5)<|dP (cR 6) iN)<|aZ<|cN (cm gB gp (a8 (qv 5) aD)<|qv 3) (aZ<|bC 4<|qc T.qh (zF T)<|ak (qv 4)<|ak (qv 6) aC) cM)
  (aZ<|bW<|qv 4))),?_]
 intro B A _ zy;let#[_,f,g,st,p,l,h,_,_,rfl,r,u,q]:=zy;rfl';split
 .next e=>
  show Loop.map _ _ (λi j=>∃(a b:Tr),j=[.ag f ↥st,.ag g ↥p,ae.t l,ae.t h,ae.t ((if h=l then 1 else 0)+eZ h ((st.zip p).take i)),a,b]) #[.ar,.ar,?_] ?_ ?_
  .rw[ao7<|ap1 e,show eZ h ((st.zip p).take 0)=0 from rfl,ü]
  .rintro i ⟨⟨x,v⟩,y⟩ j hx ⟨a,b,rfl⟩;have m:=r _ (Ġ<|Î hx).2;have c:=u i;have o:=Gp (t:=h) hx;rfl';split
   .next hh=>
    rw[ao7<|ap1 hh] at o;show#[rfl,_,y,rfl,⋯,λj=>?_];rfl';show#[_,_,by rw[o,ah7]]
   .next hh=>
    rw[ao6 (of_decide_eq_false<|by simpa using hh),ü] at o;show#[_,_,by rw[o]]
  .rintro j ⟨a,b,rfl⟩;rw[Ĕ];rfl';show q _
 .next e=>
  show Loop.map _ _ (λi j=>∃(a b:Tr),j=[.ag f ↥st,.ag g ↥p,ae.t l,ae.t h,ae.t ((if h=l then 1 else 0)+eZ h ((st.zip p).take i)),a,b]) #[.ar,.ar,?_] ?_ ?_
  .rw[ao6 (of_decide_eq_false<|by simpa using e),show eZ h ((st.zip p).take 0)=0 from rfl,ü]
  .rintro i ⟨⟨x,v⟩,y⟩ j hx ⟨a,b,rfl⟩;have m:=r _ (Ġ<|Î hx).2;have c:=u i;have o:=Gp (t:=h) hx;rfl';split
   .next hh=>
    rw[ao7<|ap1 hh] at o;show#[rfl,_,y,rfl,⋯,λj=>?_];rfl';show#[_,_,by rw[o,ah7]]
   .next hh=>
    rw[ao6 (of_decide_eq_false<|by simpa using hh),ü] at o;show#[_,_,by rw[o]]
  .rintro j ⟨a,b,rfl⟩;rw[Ĕ];rfl';show q _
abbrev DJ(p:bR×Rat):Prop:=(p.1.2.1="least"->0<=p.2)/\(p.1.2.1="most"->p.2<=0)
inductive jy(xs:af)(Q:Tr->aA):Prop
 |mk(_:↑xs=2)(f g:Fl)(rows:av)(ps:aw)(_:Fp f)(_:Fp g)(_:xs=[.ag f ↥rows,.ag g ↥ps])(_:∀q∈ps,bs q<=3900)(_:∀p∈rows.zip ps,DJ p)(_:∀j,Q (.bl Â) j):jy xs Q
def qK{a b:Rat}(h:bs a+bs b<=60000000){Q:Tr->aA}(q:∀j,Q (.bl<|decide<|a<b) j):gI [ae.t a,ae.t b] Q:=#[rfl,a,b,rfl,h,q]
def Nm{z:Bool}:aJ P w K mg base bI 2 T.uI.a T.uI.d ["rows","prices"] (bP K z 0 2 jy):=by
 show cc T.uI.F Nd rfl ∎ ?_
 intros
 show#[_,(aO (fL (mE T.l7<|ak (qv 0)<|ak (qv 1) aC) (iU (n:=2) rfl<|dP (cR 2)<|dP (cR 3) iN) (aO (cN (QW.t<|qM (cm gB gp (a8 (qv 2) aD) f9)<|qD<|ke<|qc T.lD (oM T)<|ak (qv 3)<|ak (gb [0,1] T.gw T.gx) aC) (aZ<|bW kq) cM)
  (aZ<|cN (QW.t<|qM (cm gB gp (a8 (qv 2) aD) f9)<|qD<|ke<|qc T.lD (oM T)<|ak (gb [0,1] T.gw T.gx)<|ak (qv 3) aC) (aZ<|bW kq) cM)))
  (aZ<|bW kq)),?_]
 intro D B _ zy;let#[_,f,g,e,p,_,_,rfl,x,A,q]:=zy;rfl';show Loop.map (e.zip p) _ (λi j=>∃(a b:Tr),j=[.ag f ↥e,.ag g ↥p,a,b]) #[.ar,.ar,rfl] ?_ ?_
 .rintro i ⟨r,y⟩ j hx ⟨a,b,rfl⟩;have o:=Î hx;have m:=x _ (Ġ o).2;let#[u,v]:=A _ o;dsimp only at u v;have C:=kf;rfl';by_cases l:r.2.1="least"
  .have h:¬ r.2.1="most":=by rw[l];decide
   rw[ao7<|ao9 l];show qK ⋯ λj=>?_
   rfl';rw[ao6 (by rw[decide_eq_true_eq];show ņ.mpr<|u l),ao6 (by rw[decide_eq_true_eq];show h)];show#[_,_,rfl]
  .rw[ao6 (by rw[decide_eq_true_eq];show l)];by_cases h:r.2.1="most"
   .rw[ao7<|ao9 h];show qK ⋯ λj=>?_
    rfl';rw[ao6 (by rw[decide_eq_true_eq];show ņ.mpr<|v h)];show#[_,_,rfl]
   .rw[ao6 (by rw[decide_eq_true_eq];show h)];show#[_,_,rfl]
 .rintro j ⟨a,b,rfl⟩;rfl';show q _
structure ri(rows:av)(un:ah)(st:List ((Int ⊕ Str)×Rat))(goal:Int ⊕ Str)(pr sh:aw):Prop where
 l1:↑pr=↑rows
 l2:↑sh=↑st
 r:↑rows<=16
 r2:↑st<=16
 sb:∀s∈sh,bs s<=3900/\0<=s
 pb:∀q∈pr,bs q<=3900
 sg:∀p∈rows.zip pr,DJ p
 cb:∀t i,bs ((if t=goal then 1 else 0)+eZ t ((st.zip sh).take i))<=3900
 rm:∀p∈rows.zip pr,p.2<=(p.1.2.2.2.2:Rat)*cn st sh goal (.inl p.1.2.2.2.1)\/p.1.2.2.2.1=0
 rn:∀p∈rows.zip pr,0 - (p.1.2.2.2.2:Rat)*cn st sh goal (.inl p.1.2.2.2.1)<=p.2\/p.1.2.2.2.1=0
 wb:∀r∈rows,bi r.2.2.2.2<=100
 cl:∀u∈un,kC pr (wU rows u)/\dc (pr.zip<|wU rows u)<=cn st sh goal (.inr u)
def ri.cs{b:av}{un:ah}{st:List ((Int ⊕ Str)×Rat)}{a:Int ⊕ Str}{d sh:aw}(h:ri b un st a d sh)(t:Int ⊕ Str):bs (cn st sh a t)<=3900:=by
 have:=h.cb t (st.zip sh).length;rwa[Ĕ] at this
inductive jr(xs:af)(Q:Tr->aA):Prop
 |mk(_:↑xs=5)(f g h a b:Fl)(rows:av)(un:ah)(st:List ((Int ⊕ Str)×Rat))(goal:Int ⊕ Str)(pr sh:aw)(_:Fp f)(_:Fp g)(_:Fp h)(_:Fp a)(_:Fp b)(_:xs=[.ag f ↥rows,.ag g ↥un,.ag h ↥st,ae.t goal,.aL [.ag a ↥pr,.ag b ↥sh]])(_:ri rows un st goal pr sh)(_:∀j,Q (.bl Â) j):jr xs Q
def Ub{z:Bool}:aJ P w K mg base bI 6 T.uH.a T.uH.d ["rows","unknowns","settled","goal","paper"] (bP K z 0 5 jr):=by
 show cc T.uH.F SN rfl ∎ ?_
 intros
 show#[_,(aO (bC 5<|a8 (qv 4) aD)
  (aO (bC 6<|a8 (qv 4) aD)
  (aO (cN (QW.t<|o7 (cm jR jP (fy gq gu T.gv<|ak (qv 5) aC)<|fy gq gu T.gv<|ak (qv 0) aC)<|qW<|cm jR jP (fy gq gu T.gv<|ak (qv 6) aC)<|fy gq gu T.gv<|ak (qv 2) aC) (aZ<|bW kq) cM)
  (aO (cN (QW.t<|o7 (ke<|fy (Pt rfl) WD T.Lf<|ak (hJ ["share"] [È] (fj<|qv 6) (eF 0) (λ_ _ _ _ _=>(qc T.lD (oM T)<|ak (qv 0)<|ak (gb [0,1] T.gw T.gx) aC))) aC)<|qW<|Je<|ke<|qc T.uI (Nm T)<|ak (qv 0)<|ak (qv 5) aC) (aZ<|bW kq) cM)
  (aO (fL (mE T.l7<|ak (qv 0)<|ak (qv 5) aC) (iU (n:=2) rfl<|dP (cR 7)<|dP (cR 8) iN) (aO (bC 9<|qc T.l5 (qJ T)<|ak (iZ<|ak (a8 (qv 7) aD)<|ak aD aC)<|ak (qc T.rD (EG T)<|ak (qv 2)<|ak (qv 6)<|ak (qv 3)<|ak (a8 (qv 7) aD) aC) aC)
  (aZ<|cN (QW.t<|qM (cm jR jP (a8 (qv 7) aD)<|nP T.uY)<|qD<|QW.t<|o7 (ke<|qc T.lD (oM T)<|ak (qv 9)<|ak (qv 8) aC)<|qW<|ke<|qc T.lD (oM T)<|ak (qv 8)<|ak (qc T.mY (sF T)<|ak (gb [0,1] T.gw T.gx)<|ak (qv 9) aC) aC) (aZ<|bW kq) cM)))
  (aO (fL (fj<|qv 1) (cR 10)<|aZ<|cN (ke<|qc T.lD (oM T)<|ak (qc T.rD (EG T)<|ak (qv 2)<|ak (qv 6)<|ak (qv 3)<|ak (qv 10) aC)<|ak (qc T.uJ (R9 T)<|ak (qv 0)<|ak (qv 5)<|ak (qv 10) aC) aC) (aZ<|bW kq) cM)
  (aZ<|bW kq))))))),?_]
 intro xs U _ zy;let#[_,f,g,h,a,b,p,un,st,l,A,v,_,_,_,_,_,rfl,o,q]:=zy;have Y:=kf;have J:=o.r2;rfl';rw[ao6 (by simp[o.l1]),ao6<|by simp[o.l2]];show bc.map v ae.t (λs=>decide<|s<0) (by have:=o.l2;omega) (λs N R L=>?_) ?_
 .have:=(o.sb s N).1;rfl';show qK ⋯ λ_=>L
 show#[_,rfl,?_];rfl';rw [ao6 (by
  intro e;∎;let#[y,Q,I]:=ů.mp e;let#[s,O,rfl]:=ß.mp Q;∎;show ao8 (ap1 I)<|ņ.mpr (o.sb s O).2)]
 show#[rfl,f,a,p,A,inferInstance,inferInstance,rfl,o.pb,o.sg,λj=>?_];rfl';show Loop.map (p.zip A) _ (λi j=>∃x y z:Tr,j=[.ag f ↥p,.ag g ↥un,.ag h ↥st,ae.t l,.aL [.ag a ↥A,.ag b ↥v],.ag a ↥A,.ag b ↥v,x,y,z,.ar]) #[.ar,.ar,.ar,rfl] ?_ ?_
 .rintro i ⟨r,y⟩ j hx ⟨x1,x2,x3,rfl⟩;have C:=Î hx;have H:=Ġ C;have u1:=o.pb _ H.2;have u3:=sV<|o.wb _ H.1;have D:=o.rm _ C;have E:=o.rn _ C;have hb:=o.cs<|.inl r.2.2.2.1;dsimp only at D E;rfl';show#[rfl,h,b,st,v,l,.inl r.2.2.2.1,inferInstance,inferInstance,rfl,λs m=>(o.sb s m).1,o.cb _,λj=>?_];rfl';have u4:=wg ((r.2.2.2.2:Int):Rat)<|cn st v l<|.inl r.2.2.2.1;show#[rfl,((r.2.2.2.2:Int):Rat),_,rfl,⋯,λj=>?_];have u5:=qT 0<|((r.2.2.2.2:Int):Rat)*cn st v l (.inl r.2.2.2.1);rfl';split
  .rename_i B;have B:¬ r.2.2.2.1=0:=by simpa using B
   show qK ⋯ λj=>?_
   rfl';rw[ao6 (by rw[decide_eq_true_eq];show ņ.mpr<|D.resolve_right B)];show#[rfl,0,_,rfl,⋯,λj=>?_];rfl';show qK ⋯ λj=>?_
   rfl';rw[ao6 (by rw[decide_eq_true_eq];show ņ.mpr<|E.resolve_right B)];show#[_,_,_,rfl]
  .show#[_,_,_,rfl]
 .rintro j ⟨x1,x2,x3,rfl⟩;rfl';show Loop.map un _ (λi j=>∃x:Tr,j=[.ag f ↥p,.ag g ↥un,.ag h ↥st,ae.t l,.aL [.ag a ↥A,.ag b ↥v],.ag a ↥A,.ag b ↥v,x1,x2,x3,x]) #[.ar,rfl] ?_ ?_
  .rintro i u j hx ⟨x,rfl⟩;let#[G,M]:=o.cl u<|Î hx;have w1:=G.s;have w2:=o.cs<|.inr u;rfl';show#[rfl,h,b,st,v,l,.inr u,inferInstance,inferInstance,rfl,λs m=>(o.sb s m).1,o.cb _,λj=>?_];show#[rfl,f,a,p,A,u,inferInstance,inferInstance,rfl,o.r,G,λj=>?_];rfl';show qK ⋯ λj=>?_
   rfl';rw[ao6 (by rw[decide_eq_true_eq];show ņ.mpr M)];show#[_,rfl]
  .rintro j ⟨x,rfl⟩;rfl';show q _
inductive jn(xs:af)(Q:Tr->aA):Prop
 |mk(_:↑xs=5)(f g h a b:Fl)(rows:av)(un:ah)(st:List ((Int ⊕ Str)×Rat))(goal:Int ⊕ Str)(pr sh:aw)(_:Fp f)(_:Fp g)(_:Fp h)(_:Fp a)(_:Fp b)(_:xs=[.ag f ↥rows,.ag g ↥un,.ag h ↥st,ae.t goal,.aL [.ag a ↥pr,.ag b ↥sh]])(_:ri rows un st goal pr sh)(_:kC pr (rows.map (·.2.2.1)))(_:kC sh (st.map (·.2)))(_:∀j,Q (ae.t (dc (pr.zip (rows.map (·.2.2.1))) - dc (sh.zip (st.map (·.2))))) j):jn xs Q
def Uc{z:Bool}:aJ P w K mg base bI 7 T.uG.a T.uG.d ["rows","unknowns","settled","goal","paper"] (bP K z 0 5 jn):=by
 show cc T.uG.F SM rfl ∎ λbH A outer s H E p D C=>?_
 show#[_,(aO (cN (Je<|ke<|qc T.uH (Ub T)<|ak (qv 0)<|ak (qv 1)<|ak (qv 2)<|ak (qv 3)<|ak (qv 4) aC) (aZ sH) cM)
  (aO (bC 5<|qc T.qe (yH T)<|ak (a8 (qv 4) aD)<|ak (hJ ["one"] [È] (fj<|qv 0) (eF 0) (λ_ _ _ _ _=>(a8 (qv 0) aD))) aC)
  (aZ<|bW<|qc T.mY (sF T)<|ak (qv 5)<|ak (qc T.qe (yH T)<|ak (a8 (qv 4) aD)<|ak (hJ ["pair"] [È] (fj<|qv 2) (eF 0) (λ_ _ _ _ _=>(a8 (qv 0) aD))) aC) aC))),?_]
 intro J x _ zy;let#[_,f,g,h,a,b,e,un,st,i,u,v,_,_,_,_,_,rfl,o,n,m,q]:=zy;have y:=o.r;have B:=o.r2;have G:=n.s;have I:=m.s;rfl';show#[rfl,f,g,h,a,b,e,un,st,i,u,v,inferInstance,inferInstance,inferInstance,inferInstance,inferInstance,rfl,o,λj=>?_];rfl';show bc.map e ae.t (λr=>r.2.2.1) ⋯ (λr p R l=>?_) ?_
 .rfl';show l
 rfl';show#[rfl,a,.f,u,_,inferInstance,inferInstance,rfl,n,λj=>?_];rfl';show bc.map st ae.t (λr=>r.2) ⋯ (λr p R l=>?_) ?_
 .rfl';show l
 rfl';show#[rfl,b,.f,v,_,inferInstance,inferInstance,rfl,m,λj=>?_];rfl';show#[rfl,_,_,rfl,⋯,λj=>?_];rfl';show q _
section
variable{rs:av}{us:ah}{ss:a7}{mk:aI}{C z i:Nat}
def JY(h:mU C ss mk)(f:∀row∈ss,row.length=C+1/\CD z z row)(l:i<↑ss)(g:1<=z):∀j,j<=i->∀s∈(pp ss mk i j).2,bs s<=z+j*(z+1):=by
 intro j
 induction j with
 |zero=>intro _ s m;cases m
 |succ j n=>
  intro o s m;∎;let#[a,b]:=AA h f l g j ⋯;let#[c,d]:=sW f (i - 1 - j) ⋯;let#[_,_,p3]:=Ae (st:=pp ss mk i j) h ⋯ _ a b (by rw[ac2];omega) ⋯ c d;∎;rw[ϥ];rcases Æ.mp m with m |m
  .have:=n ⋯ s m;omega
  .rw[ä.mp m];cases e:ss.getD (i - 1 - j) [] with
   |nil=>rw[e] at c;cases c
   |cons x p=>
    have:=(p3 x (by rw[e];show .head _)).1;omega
def Ha{C:Nat}:∀(j t:Nat)(s:Rat),(pp ss mk i j).2[t]?=À s->s*(ss.getD (i - 1 - t) []).getD C 0∈wR C ss mk i j
 |0,t,s,e=>by cases e
 |j + 1,t,s,e=>by
  have e:((pp ss mk i j).2++[shr (pp ss mk i j).1 ss (i - 1 - j) mk])[t]?=À s:=e;rw[ŝ] at e;split at e
  .show Æ.mpr (.inl<|Ha j t s e)
  .next q=>
   rw[qQ] at q;have a:t - j=0:=by
    have:=(Á.mp e).1;rw[qQ] at this;simp at this;omega
   rw[qQ,a] at e;cases e;rw[show t=j by omega];show Æ.mpr<|.inr<|.head _
def YB{left u:aw}{l d:Nat}(h:CD l d (left++u))(hs:∀o∈rs,bi `al<=100):CD (l+105) (d+2) (jV rs us left):=by
 let#[D,p,A,r]:=h;have at':∀j,∃a:Int,left.getD j 0=Í a D/\bi a<=l:=λj=>by
  rw[Ã];cases e:left[j]? with
  |none=>show#[0,(Ē _).symm,Ĝ _]
  |some y=>show r y<|Æ.mpr<|.inl<|Î e
 have m:bi (2*D)<=d+2:=by
  have:=dg 2 D;have:bi (2:Int)<=2:=by walk_at "k"
  omega
 show#[2*D,⋯,m,λy g=>?_];unfold jV at g;let#[j,_,rfl]:=ß.mp g;unfold jU;cases e:rs[j]? with
 |none=>show#[0,(Ē _).symm,Ĝ _]
 |some o=>
  have so:=hs o<|Î e;∎;let#[b,eb,q]:=at'<|↑us+2*j;let#[a,n,v]:=at'<|↑us+2*j+1;∎;have two:bi (2:Int)<=2:=by walk_at "k"
  change ∃f:Int,n7 _ _ _ _=Í f (2*D)/\bi f<=l+105
  rw[n,eb];have dd:∀x s:Int,Í x D*(s:Rat)=Í (2*(x*s)) (2*D):=λx s=>by
   rw[Rat.divInt_mul_left ∎,ö,ö,è,Ģ,Ģ]
   grind
  unfold n7;split
  .show#[_,dd a _,?_];have:=dg 2<|a*bg us o;have:=dg a<|bg us o;omega
  .split
   .show#[_,dd b _,?_];have:=dg 2<|b*-bg us o;have:=dg b (-bg us o);have:bi (-bg us o)=bi `al:=by unfold bi;rw[ŭ]
    omega
   .show#[(a - b)*bg us o,?_,?_]
    .rw[ő,Μ,Gn _ _<|é p,ĸ,Ϣ D,ab1]
    .have:=dg (a - b)<|bg us o;have:=zJ a b;omega
def YC{b ns:aw}{l d:Nat}(h:CD l d b){M x:Nat}(E:0<M)(hn:∀y∈ns,∃n:Int,y=Í n M/\bi n<=x)(j:∀y∈ns,bs y<=3000)(r:∀y∈b,bs y<=3900)(q:(b.zip ns).length<=16)(A:l+x<=3900)(B:d+bi (M:Int)<=3900):kC b ns:=by
 let#[D,g,o,u]:=h;show#[λp m=>?_,q,D*M,Ŧ g ⋯,Ñ `aR ⋯,λy v=>?_]
 .have m:=Ġ m;have:=r _ m.1;have:=j _ m.2;omega
 .obtain⟨p,mp,rfl⟩:=ß.mp v;have m:=Ġ mp;∎;let#[a,e,G]:=u _ m.1;let#[n,f,hn]:=hn _ m.2;∎;show#[a*n,by rw[e,f,ĸ],Ñ `aR ⋯]
def Ud{e x v M:Nat}{o:bR}(h:iu e x v M us o)(d:0<M):∀c∈cE us o,∃n:Int,c=Í n M/\bi n<=e+x+bi (M:Int):=by
 let#[q,b]:=h.sd;have g:q≠0:=by
  rintro rfl;rw[Ċ] at b;omega
 have f:bi q<=bi (M:Int):=jj #[bg us o,by rw[b,Ϣ]] d;have a:∀c:Rat,(c.den:Int) ∣ bg us o->bi (fH `al c)<=e+x->∃n:Int,c=Í n M/\bi n<=e+x+bi (M:Int):=λc dv j=>by
  show#[fH `al c*q,?_,Ñ `aR ⋯];rw[b,Ť g,ö,oW dv,Ģ];have:=ķ _<|ĕ<|ó.mpr h.p
  grind
 intro c m;rcases Æ.mp m with m |m
 .show a c ((mi us o).2.1 c m) (Ñ (h.eb _ (Ŏ m)) ⋯)
 .rw[ä.mp m];show a _ (mi us o).2.2<|Ñ h.xb ⋯
end
def wd{G:Type}{l:List G}(nd:l.Nodup){i j:Nat}{a:i<↑l}{b:j<↑l}(e:l[i]=l[j]):i=j:=(ao0 a nd).mp (by rw[Ì a,Ì b,e])
def we{t:Int ⊕ Str}:∀{z:List (((Int ⊕ Str)×Rat)×Rat)},t ∉ z.map (·.1.1)->eZ t z=0
 |[],_=>rfl
 |p::z,h=>by
  rw[ë,æ,not_or] at h;rw[eZ,we h.2,ao6<|λe=>h.1 e.symm,ü]
def Ak{t:Int ⊕ Str}:∀{z:List (((Int ⊕ Str)×Rat)×Rat)},(z.map (·.1.1)).Nodup->∀p∈z,p.1.1=t->eZ t z=p.2
 |q::z,h,p,m,e=>by
  rw[ë,ē] at h;rw[eZ];rcases æ.mp m with rfl |m
  .rw[ao7 e,we (e ▸ h.1),ü]
  .rw[ao6 λa=>h.1 (by rw[a,<- e];show Ŏ m),Ak h.2 p m e,Œ]
def YD{t:Int ⊕ Str}{z:List (((Int ⊕ Str)×Rat)×Rat)}(h:(z.map (·.1.1)).Nodup):eZ t z=0\/∃p∈z,p.1.1=t/\eZ t z=p.2:=by
 by_cases m:t∈z.map (·.1.1)
 .obtain⟨p,mp,e⟩:=ß.mp m;show .inr #[p,mp,e,Ak h p mp e]
 .show .inl (we m)
section
variable{G:List (Int ⊕ Str)}{V:aw}{f:Nat->Rat}{k:Nat}
nonrec abbrev zG(G:List (Int ⊕ Str))(V:aw)(f:Nat->Rat)(k:Nat):List (((Int ⊕ Str)×Rat)×Rat):=((G.zip V).take k).zip<|(Ç k).map f
def AD(b:k<↑G)(d:↑G=↑V){j:Nat}(a:j<k):(zG G V f k)[j]?=À ((G[j],V[j]),f j):=by
 show Ļ.mpr #[?_,?_]
 .rw[ě a,Ì (by rw[Đ];omega),Zu]
 .rw[Ê,ê a];rfl
def zv(b:k<↑G)(d:↑G=↑V):(zG G V f k).map (·.1.1)=G.take k:=by
 show ė λj=>?_
 rw[Ê];by_cases a:j<k
 .rw[AD b d a,ě a,Ì ⋯];rfl
 .rw[à (by simp;omega),à (by simp;omega)];rfl
def JZ(nd:G.Nodup)(g:k<↑G)(h:↑G=↑V)(n:∀j,j<k->bs (f j)<=3900)(t:Int ⊕ Str)(i:Nat):bs ((if t=G[k] then 1 else 0)+eZ t ((zG G V f k).take i))<=3900:=by
 have kn:((zG G V f k).map (·.1.1)).Nodup:=by rw[zv g h];show nd.sublist<|Φ _ _
 have d:(((zG G V f k).take i).map (·.1.1)).Nodup:=kn.sublist<|(Φ _ _).map _;have b:eZ t ((zG G V f k).take i)=0\/(t≠G[k]/\bs (eZ t<|(zG G V f k).take i)<=3900):=by
  rcases YD (t:=t) d with e |⟨p,o,e,m⟩
  .show .inl e
  .right;let#[j,a]:=ĝ<|Š o;have l:j<k:=by
    have:=(Á.mp a).1;simp at this;omega
   rw[AD g h l] at a;cases a;show#[?_,by rw[m];show n j l];rw[<- e];intro q;have:=wd nd q;omega
 rcases b with e |⟨ne,e⟩
 .rw[e,ü];split
  .rw[W7];decide
  .rw[kf];decide
 .rw[ao6 ne,Œ];show e
def J3{J:Nat->Rat}(nd:G.Nodup)(b:k<↑G)(d:↑G=↑V)(l:J (k+1)=1)(n:∀a,k+1<a->J a=0){j:Nat}{t:Int ⊕ Str}(ht:G[j]?=À t):cn ((G.zip V).take k) ((Ç k).map λa=>J<|a+1) G[k] t=J (j+1):=by
 let#[p,rfl]:=Á.mp ht;have kn:((zG G V (λa=>J<|a+1) k).map (·.1.1)).Nodup:=by rw[zv b d];show nd.sublist<|Φ _ _
 unfold cn;by_cases h:j<k
 .rw[ao6 λq=>by have:=wd nd q;omega,Ak kn _ (Î<|AD b d h) rfl,Œ]
 .have no:G[j] ∉ (zG G V (λa=>J<|a+1) k).map (·.1.1):=by
   rw[zv b d];intro m;let#[i,g]:=ĝ m;have o:i<k:=by
    have:=(Á.mp g).1;simp at this;omega
   rw[ě o,Ì ⋯] at g;have:=wd nd<|Ù g;omega
  rw[we no,ü];by_cases e:j=k
  .subst e;rw[ao7 rfl,l]
  .rw[ao6 λq=>by have:=wd nd q;omega,n _ ⋯]
def Hc(f:Nat->Rat):∀(k:Nat)(V:aw),k<=↑V->dc (((Ç k).map f).zip V)=dk k λa=>f a*V.getD a 0
 |0,V,_=>rfl
 |k + 1,V,h=>by
  have d:=Hc f k V ⋯;rw[dk,<- d];have l1:((Ç<|k+1).map f).zip V=(((Ç<|k+1).map f).zip V).take k++[(f k,V[k])]:=by
   show ė λj=>?_
   by_cases b:j<k
   .rw[î (by rw[û,Đ,Å,Õ];omega),ě b]
   .by_cases e:j=k
    .subst e;rw[ç (by rw[û];omega),û,Đ,Å,Õ,show j - min j (min (j+1) ↑V)=0 by omega,Ì (by rw[Đ,Å,Õ];omega),Zu];simp
    .rw[à (by rw[Đ,Å,Õ];omega),à (by rw[Ò,û,Đ,Å,Õ,ŕ];omega)]
  have l2:(((Ç<|k+1).map f).zip V).take k=((Ç k).map f).zip V:=by
   show ė λj=>?_
   by_cases b:j<k
   .rw[ě b,Ì (by rw[Đ,Å,Õ];omega),Ì (by rw[Đ,Å,Õ];omega),Zu,Zu];simp
   .rw[à (by rw[û];omega),à (by rw[Đ,Å,Õ];omega)]
  rw[l1,l2,vV,Ã,Ì ⋯];change _+(f k*V[k]+0)=_;rw[ü];rfl
def FC(f:Nat->Rat):∀n:Nat,dk (n+1) f=f 0+dk n λa=>f<|a+1
 |0=>by rw[dk,dk,dk];grind
 |n + 1=>by rw[dk,FC f n,dk];grind
end
def YE{us:ah}(nd:us.Nodup):(gi us).Nodup:=by
 unfold gi;show Ĵ.mpr #[∎,List.Pairwise.map _ (λa b ne e=>ne<|Θ e) nd,λa d b f=>?_];∎;let#[x,_,rfl]:=ß.mp d;let#[y,_,rfl]:=ß.mp f;∎;show Sum.inl_ne_inr
def vW(us:ah):(gi us).length=↑us+4:=by
 unfold gi;rw[Ò,Å,Å];show ac1 _ _
def Gq(us:ah){r:Int}(h:r≠0)(a:0<=r/\r<=4):`dO[r.toNat - 1]?=À (.inl r)/\r.toNat - 1+1=r.toNat:=by
 have:r=1\/r=2\/r=3\/r=4:=⋯
 rcases this with rfl |rfl |rfl |rfl<;>show#[rfl,rfl]
def YF{us:ah}{t:Nat}{u:Str}(h:us[t]?=À u):`dO[4+t]?=À (.inr u):=by
 unfold gi;rw[ç ∅,Ê,show 4+t - (Ų ï ([1,2,3,4]:aF)).length=t by simp,h];rfl
def Xk{z e x v M:Nat}{rs:av}{us:ah}{d:List (aw×dw)}{ss:a7}{S:Nat->Nat}{mk:aI}(h:fv z rs us d ss S mk)(eg:d.map (·.1)=eN rs us us)(h0:∀p,d[0]?=À p->p.2.2.1=0)(nd:us.Nodup)(Y:∀o∈rs,0<=o.2.2.2.1/\o.2.2.2.1<=4)(J:∀o∈rs,iu e x v M us o)(O:0<M)(hb:bi (M:Int)<=100)(hx:e+x<=200)(hv:v<=100)(U:↑rs<=16)(γ:↑us<=8)(z1:1<=z)(hz:z+(↑us+4)*(z+1)<=3400){k:Nat}{g:Int ⊕ Str}(hk:`dO[k]?=À g):
  ri rs us ((cT us d).take k) g (pap rs us ss mk k).1 (pap rs us ss mk k).2/\kC (pap rs us ss mk k).1 (rs.map (·.2.2.1))/\kC (pap rs us ss mk k).2 (((cT us d).take k).map (·.2))/\dc ((pap rs us ss mk k).1.zip (rs.map (·.2.2.1))) - dc ((pap rs us ss mk k).2.zip (((cT us d).take k).map (·.2)))=(d.map cz).getD (k+1) 0:=by
 have gl:↑d=↑us+5:=by
  have:=ap2 İ eg;unfold eN at this;rw[Å,Ò,Å,Å] at this;simp at this;omega
 have sl:=h.s;let#[kl,ek]:=Á.mp hk;rw[vW] at kl;have hG:k<(gi us).length:=by rw[vW];show kl
 have hV:(gi us).length=(d.tail.map cz).length:=by rw[vW,Å,List.length_tail];omega
 have gn:=YE nd;let#[G,A]:=h.pap eg nd (λo m=>#[Y o m,(J o m).w.1]) (k:=k) ⋯;have δ:z+(k+1)*(z+1)<=3400:=Ñ (ϴ (ţ _ ⋯) _) hz;have β:(k+1)*z<=(k+1)*(z+1):=aa5 _ ⋯;let#[_,cd]:=AA h.m h.r (i:=k+1) ⋯ z1 (k+1) (Ï _);have sc:∀o∈rs,bi `al<=100:=λo m=>Ñ (jj (J o m).sd O) hb
 have pc:=YB (rs:=rs) (us:=us) cd sc;have pb:∀q∈(Sf.pap rs us ss mk k).1,bs q<=3900:=λq m=>Ñ (pc.bs ⋯ m) ⋯
 have sb:∀s∈(Sf.pap rs us ss mk k).2,bs s<=3900:=λs m=>Ñ (JY h.m h.r (i:=k+1) ⋯ z1 (k+1) (Ï _) s (List.mem_reverse.mp<|ak8 m)) ⋯
 have α:∀j,j<k->G (j+1)∈(Sf.pap rs us ss mk k).2:=λj I=>by rw[A.s];show Ŏ<|ī.mpr I
 have fW:((cT us d).take k).length=k:=by unfold cT;rw[û,Đ];omega
 have vs:((cT us d).take k).map (·.2)=(d.tail.map cz).take k:=by
  unfold cT;rw[ag2,<- List.unzip_snd,List.unzip_zip ⋯]
 have mem:∀p∈rs.zip (Sf.pap rs us ss mk k).1,∃j,rs[j]?=À p.1/\p.2=(Sf.pap rs us ss mk k).1.getD j 0:=λp m=>by
  let#[j,I]:=ĝ m;let#[a,b]:=Ļ.mp I;show#[j,a,by rw[Ã,b];rfl]
 have cnt:∀(j:Nat)(t:Int ⊕ Str),`dO[j]?=À t->cn ((cT us d).take k) (Sf.pap rs us ss mk k).2 g t=G (j+1):=λj t N=>by
  rw[A.s,<- ek];show J3 gn hG hV A.h A.g N
 have W:∀ns:aw,(∀y∈ns,∃o∈rs,y∈cE us o)->↑ns<=16->kC (Sf.pap rs us ss mk k).1 ns:=λns hn nl=>by
  show YC pc O (x:=200+bi (M:Int)) (λy B=>?_) (λy B=>?_) pb (by rw[Đ];omega) ⋯ ⋯
  .obtain⟨o,mo,B⟩:=hn y B;let#[n,L,hn]:=Ud (J o mo) O y B;show#[n,L,⋯]
  .obtain⟨o,mo,B⟩:=hn y B;show (J o mo).b.2 y B
 show#[#[A.l,by rw[A.s,Å,Õ,fW],U,⋯,λs m=>#[sb s m,?_],pb,λp m=>?_,λt i=>?_,λp m=>?_,λp m=>?_,λr m=>Ñ (J r m).w.2 hv,λu mu=>?_],W _ (λy B=>?_) (by rw[Å];show U),#[λp m=>?_,?_,?_],?_]
 .rw[A.s] at m;let#[a,_,rfl]:=ß.mp m;show A.p _
 .obtain⟨j,E,H⟩:=mem p m;let#[r1,r2,_]:=A.r j _ E;rw[<- H] at r1 r2;show#[r1,r2]
 .rw[A.s,<- ek];show JZ gn hG hV (λj I=>sb _<|α j I) t i
 .obtain⟨j,E,H⟩:=mem p m;by_cases q:p.1.2.2.2.1=0
  .show .inr q
  .obtain⟨a,b⟩:=Gq us q<|Y _<|Î E;rw[cnt _ _ a,b,H];show .inl (A.r j _ E).2.2.1
 .obtain⟨j,E,H⟩:=mem p m;by_cases q:p.1.2.2.2.1=0
  .show .inr q
  .obtain⟨a,b⟩:=Gq us q<|Y _<|Î E;rw[cnt _ _ a,b,H,ő,Œ];show .inl (A.r j _ E).2.2.2
 .obtain⟨t,N⟩:=ĝ mu;show#[W _ (λy B=>?_) (by rw[Å];show U),?_]
  .obtain⟨o,mo,rfl⟩:=ß.mp B;show#[o,mo,Æ.mpr<|.inl<|Ŏ mu]
  .rw[cnt _ _<|YF N,zu _ A.l.symm,show 4+t+1=5+t by omega];show A.c t u N
 .obtain⟨o,mo,rfl⟩:=ß.mp B;show#[o,mo,Æ.mpr<|.inr<|.head _]
 .rw[vs] at m;have m:=Ġ m;have:=sb _ m.1;∎;let#[q,mq,e]:=ß.mp<|Š m.2;let#[a,Q]:=ĝ<|ak8 mq;let#[row,y,E,H]:=h.v a q Q;∎;have hb:=(h.r _<|Î E).2.bs (Ï _) (Æ.mpr (.inr<|.head _):y∈row++[y]);have b3:=qT 0 y;rw[kf,H] at b3;rw[<- e];unfold cz;omega
 .rw[Đ,Å,fW];omega
 .obtain⟨D,hD,hdb,hx⟩:=cd;show#[D,hD,⋯,λy B=>?_];∎;let#[p,mp,rfl]:=ß.mp B;let#[j,I]:=ĝ mp;let#[a,b]:=Ļ.mp I;∎;rw[A.s,Ê] at a;rw[vs] at b;have jk:j<k:=by
   have:=(Á.mp b).1;rw[û] at this;omega
  rw[ê jk] at a;rw[ě jk,Ê,Ε] at b;have pm:=Ha (C:=aU rs us) (k+1) (k - (j+1)) _<|A.t (j+1) ⋯;rw[show k+1 - 1 - (k - (j+1))=j+1 by omega,A.e _ ⋯] at pm;let#[n,L,hn]:=hx _<|Æ.mpr<|.inr pm;have ev:(d.map cz).getD (j+1) 0=p.2:=by rw[Ã,Ê,b];rfl
  have ea:G (j+1)=p.1:=Ù a;rw[ev,ea] at L;show#[-n,?_,by unfold bi at hn ⊢;rw[ŭ];omega];rw[<- Μ,<- L]
  grind
 .rw[zu _ A.l.symm,A.v,A.s,vs,Hc _ _ _ (by rw[û];omega),FC,dk];have z0:(d.map cz).getD 0 0=0:=by
   obtain⟨p,hp⟩:∃p,d[0]?=À p:=#[_,Ì ⋯];rw[Ã,Ê,hp];change cz p=0;unfold cz;rw[h0 p hp,Ē]
  rw[z0,A.h,yG (f:=λa=>G (a+1)*((d.tail.map cz).take k).getD a 0) (g:=λa=>G (a+1)*(d.map cz).getD (a+1) 0) λa Q=>by
   rw[Ã,ě Q,Ê,Ε,Ã,Ê]]
  grind
def nA{j:Int}(h:j.natAbs<2 ^ 100):j.natAbs<2 ^ 8000:=Ö h<|Ħ ∎ ⋯
inductive gf(xs:af)(Q:Tr->aA):Prop
 |mk(_:↑xs=2)(f:Fl)(script:aF)(k:Int)(_:Fp f)(_:xs=[.ag f ↥script,.int k])(_:0<=k)(_:∀c:Int,∀j,Q (.int c) j):gf xs Q
def MN{z:Bool}:aJ P w K mg base bI 1 T.uK.a T.uK.d ["_law_script","_law_k"] (bP K z 0 2 gf):=by
 show cc T.uK.F MT rfl ∎ ?_
 intros
 show#[_,(aO (cN (cm pA oO `bL<|fy gq gu T.gv<|ak (qv 0) aC) (aZ<|bW<|a8 (qv 0)<|qv 1) cM)
  (aZ<|bW aD)),?_]
 intro h g _ zy;let#[_,f,b,k,_,rfl,e,q]:=zy;rfl';split
 .rename_i c;show dE _ _ _ (wq b e (by have:=ap1 c;omega)) #[iI _,q _ _]
 .show q _ _
def yC{i j:Int}(h:-(2 ^ 64)<i/\i<2 ^ 64):l8 i j:=.inl<|.inl h
def L1{i j:Int}(h:-(2 ^ 64)<j/\j<2 ^ 64):l8 i j:=.inl<|.inr h
def Hd{xs:af}{r:Int}{Q:az}(a:0<=r)(b:r<↑xs)(q:∀x,x∈xs->Q x):oQ (cS xs r) Q:=by
 rw[wq xs a ⋯];show q _<|Ϲ _
def qL{ns:aF}{r:Int}{Q:az}(a:0<=r)(b:r<↑ns)(q:∀n,n∈ns->Q `aQ):oQ (cS `bg r) Q:=by
 show Hd a (by rw[Å];show b) λx d=>?_
 let#[n,hn,rfl]:=ß.mp d;show q n hn
inductive nU(xs:af)(Q:Tr->aA):Prop
 |mk(_:↑xs=2)(c k:Int)(_:xs=[.int c,.int k])(_:0<=k)(_:k<=1000)(_:∀r:Int,∀j,Q (.int r) j):nU xs Q
def YG:vg 10 12:=#[∎,∎,∎]
def jY{z:Bool}:aJ P w K mg base bI 1 T.iO.a T.iO.d ["_law_cell","_law_k"] (bP K z 0 2 nU):=by
 show cc T.iO.F OW rfl ∎ λbH A outer s H E y B g=>?_
 show#[_,(aO (cN (cm gB gp (fg (iY (qv 0) aD) aD) aD) (aO (bC 2<|a8 (fK<|ak aD<|ak (Jh aD aD) aC)<|fg (iY (qv 0) aD) aD)
  (aO (bC 3<|iY (qv 0) aD)
  (aO (fL (tF T.l6<|ak (o6 (qv 1) aD) aC) (cR 4)<|aZ<|bC 3<|iY (qv 3)<|qv 2)
  (aZ<|cN (cm qZ qV (qv 3) aD) (aZ<|bW<|fg (qv 3)<|qv 2) cM)))) cM)
  (aO (bC 5<|fg (da (fg (dQ (dQ (qv 0)<|da aD<|qv 1) aD) aD) aD) aD)
  (aO (bC 5<|fg (da (qv 5)<|dQ (iY (qv 5) aD) aD) aD)
  (aZ<|bW<|fg (da (qv 5)<|dQ (iY (qv 5) aD) aD) aD)))),?_]
 intro I x _ zy;let#[_,c,k,rfl,C,D,q]:=zy;walk_at "q";show JI (λG=>∃a b d e:Tr,G=[.int c,.int k,a,b,d,e]) (λN g=>?_) ?_
 .rfl';show#[#[∎,nA ∎],∎,?_];split
  .show#[YG,#[∎,nA ∎],∎,qL (ns:=[50,10 ^ ai0 12]) (ā _ ∎) (õ _ ∎) λbs p=>?_];have f:0<bs/\bs.natAbs<2 ^ 100:=by
    rcases æ.mp p with rfl |r
    .decide
    .rw[ä.mp r];decide
   rfl';show#[#[∎,nA ∎],⋯,⋯,Loop.map _ _ (λi G=>∃(n:Int)(d:Tr),G=[.int c,.int k,.int bs,.int n,d,.ar]) #[_,_,rfl] ?_ ?_]
   .rintro i j G hi ⟨n,d,rfl⟩;rfl';show#[#[⋯,nA f.2],_,_,rfl]
   .rintro G ⟨n,d,rfl⟩;rfl';split
    .show#[f.1,q _ _]
    .show g _ #[_,_,_,_,rfl]
  .show g _ #[_,_,_,_,rfl]
 intro _ zy;let#[a,b,d,e,rfl]:=zy;rfl';have h:=ā ((c+7919*k+1) % 2147483647*48271) (show (2147483647:Int)≠0 by decide);have l:=õ ((c+7919*k+1) % 2147483647*48271) (show (0:Int)<2147483647 by decide);generalize (c+7919*k+1) % 2147483647*48271 % 2147483647=u at h l;have m:=ā (u*(u.fdiv 1009+69621)) (show (2147483647:Int)≠0 by decide);have o:=õ (u*(u.fdiv 1009+69621)) (show (0:Int)<2147483647 by decide);generalize u*(u.fdiv 1009+69621) % 2147483647=v at m o;show#[yC ∎,∎,L1 ∎,∎,#[∎,nA ∎],yC ⋯,∎,#[∎,nA ∎],yC ⋯,∎,q _ _]
inductive kS(xs:af)(Q:Tr->aA):Prop
 |mk(_:↑xs=2)(a b:Int)(_:xs=[.int a,.int b])(_:0<=b)(_:∀j,Q (.int (gd a b)) j):kS xs Q
def MO{z:Bool}:aJ P w K mg base bI 1 T.uL.a T.uL.d ["_law_one","_law_other"] (bP K z 0 2 kS):=by
 show cc T.uL.F MU rfl ∎ ?_
 intros
 show#[_,(aO (AG (cm jR jP `bL aD)<|aZ<|Kv 0 1<|ak (qv 1)<|ak (fg (qv 0)<|qv 1) aC)
  (aZ<|bW<|fy yU ze T.xm<|ak (qv 0) aC)),?_]
 intro n i _ zy;let#[_,a,b,rfl,h,q]:=zy;show#[λm j=>∃x y,j=[.int x,.int y]/\0<=y/\gd x y=gd a b/\m=y.toNat,#[_,a,b,rfl,h,rfl,rfl],?_];intro m j zy;let#[x,y,rfl,l,e,rfl]:=zy;rfl';by_cases f:y=0
 .subst f;rw[ao6 ∎];rw[<- e] at q;have g:gd x 0=if x<0 then -x else x:=by
   unfold gd;rw[an5];split<;>omega
  rw[g] at q;show q _
 .rw[ao7<|by simp[f]];show#[⋯,(x % y).toNat,?_,_,_,rfl,ā _ f,?_,rfl]
  .have:=õ x (show 0<y by omega);have:=ā x f;omega
  .rw[<- e];unfold gd;have:=Int.emod_add_mul_ediv x y;rw[aj1 x y,show x % y=x+y*(-(x / y)) by rw[Int.mul_neg];omega,Int.gcd_add_mul_left_right]
inductive nT(xs:af)(Q:Tr->aA):Prop
 |mk(_:↑xs=2)(a b:Int)(_:xs=[.int a,.int b])(_:0<b)(_:bi b<=7990)(_:∀j,Q (ae.t (Í a b)) j):nT xs Q
def yz{z:Bool}:aJ P w K mg base bI 2 T.qf.a T.qf.d ["_law_top","_law_bottom"] (bP K z 0 2 nT):=by
 show cc T.qf.F Nf rfl ∎ ?_
 intros
 show#[_,(aO (bC 2<|qc T.uL (MO T)<|ak (qv 0)<|ak (qv 1) aC)
  (aZ<|bW<|iZ<|ak (iY (qv 0)<|qv 2)<|ak (iY (qv 1)<|qv 2) aC)),?_]
 intro i h _ zy;let#[_,a,b,rfl,g,f,q]:=zy;have e:=é g;rfl';show#[rfl,a,b,rfl,ľ g,λj=>?_];rw[IX,<- Fm e,<- Fn e] at q;unfold dv at q;rw[ao6 ⋯] at q;rfl';show#[vP e f,vP e f,q _]
def IL(a:Int){b:Int}(f:0<b):(Í a b).num.natAbs<=a.natAbs:=by
 by_cases e:a=0
 .subst e;rw[Ē];show Ĝ _
 .have d:(Í a b).num ∣ a:=by
   rw[af8 a b,ZH f,ad6];show am5<|Ψ ..
  show aa9 ⋯ (ϟ.mpr d)
def IM(a:Int){b:Int}(d:0<b):((Í a b).den:Int)<=b:=Int.le_of_dvd d<|vS a d
def gC{A B:cB}(J:aA)(a:∀N:aA,(∀j,J j->N j)->A { D with nx:=N } j)(b:∀j,J j->B D j):vo A B D j:=a (B D) b
def gL{m:List (Str×Rat)}{u:Str}{a:Rat}(h:u ∉ m.map (·.1)):pK m u a=m++[(u,a)]:=by
 unfold pK;rw[ao6];intro e;let#[p,d,b]:=ů.mp e;show h<|ß.mpr #[p,d,ap1 b]
def Gs{r:Int}{Q:az}(b:0<=r)(d:r<3)(q:∀k:Str,(k="least"\/k="most"\/k="just")->Q (.str k)):oQ (cS [.str<|ac4 "least",.str<|ac4 "most",.str<|ac4 "just"] r) Q:=by
 show Hd b d λx a=>?_
 rcases æ.mp a with rfl |a
 .show q _ (.inl rfl)
 rcases æ.mp a with rfl |a
 .show q _ (.inr (.inl rfl))
 rcases æ.mp a with rfl |a
 .show q _ (.inr (.inr rfl))
 cases a
structure p6(b:Int)(us:ah)(ps:List (Str×Rat)):Prop where
 p:∀p∈ps,p.1∈us/\p.2.num.natAbs<=3/\(p.2.den:Int)<=b
 d:(ps.map (·.1)).Nodup
 l:↑ps<=↑us
nonrec abbrev dS(a:List (Str×Rat)):bz:=a.map λp=>((ñ p.1:aW),ae.t p.2)
inductive ig(xs:af)(Q:Tr->aA):Prop
 |mk(_:↑xs=3)(f:Fl)(c b:Int)(us:ah)(_:Fp f)(_:xs=[.int c,.ag f ↥us,.int b])(_:us.Nodup)(_:↑us<=4)(_:0<b/\b<=3)(_:∀ps:List (Str×Rat),p6 b us ps->∀j,Q (.aP .o (dS ps)) j):ig xs Q
def Ep{z:Bool}:aJ P w K mg base bI 4 T.rE.a T.rE.d ["_law_cell","_law_some","_law_bottoms"] (bP K z 0 3 ig):=by
 show cc T.rE.F Nw rfl ∎ λbH A outer s H E hr hu D=>?_
 show#[_,(aO (jh 3 wo)
  (aO (fL (tO T.qi<|ak (qv 1) aC) (iU (n:=2) rfl<|dP (cR 4)<|dP (cR 5) iN) (aO (bC 6<|qc T.qf (yz T)<|ak (a8 (fK<|ak aD<|ak (iF aD)<|ak aD<|ak aD<|ak (iF aD) aC)<|fg (qc T.iO (jY T)<|ak (qv 0)<|ak (dQ (qv 4) aD) aC) aD)<|ak (dQ aD<|fg (qc T.iO (jY T)<|ak (qv 0)<|ak (dQ (qv 4) aD) aC)<|qv 2) aC)
  (aZ<|cN (cm gB gp (fg (qc T.iO (jY T)<|ak (qv 0)<|ak (dQ (qv 4) aD) aC) aD) aD) (aZ<|wC (dz 3) (qv 5)<|qv 6) cM)))
  (aZ<|mw<|mr 3))),?_]
 intro xs Q' _ zy;let#[_,f,c,b,us,_,rfl,r,O,G,q]:=zy;show gC (λj=>j=[.int c,.ag f ↥us,.int b,.aP .o [],.ar,.ar,.ar]) (λN D=>?_) ?_
 .rfl';show#[rfl,D _ rfl]
 rintro _ rfl;rfl';show Loop.map us.zipIdx _ (λi j=>∃(h:List (Str×Rat))(x y v:Tr),j=[.int c,.ag f ↥us,.int b,.aP .o<|dS h,x,y,v]/\(∀p∈h,p.1∈us.take i/\p.2.num.natAbs<=3/\(p.2.den:Int)<=b)/\(h.map (·.1)).Nodup/\↑h<=i) #[[],_,_,_,rfl,λ_ m=>(nomatch m),ab5,Ï 0] ?_ ?_
 .rintro i ⟨u,i'⟩ j hi ⟨h,x,y,v,rfl,hp,hd,hpl⟩;let#[l,C]:=q9 hi;dsimp only at l C;subst C;have J:=(Á.mp l).1;walk_at "q";show#[rfl,c,_,rfl,⋯,⋯,λr1 _=>?_];walk_at "q";show#[∎,qL (ns:=[1,-1,1,2,-3]) (ā _ ∎) (õ _ ∎) λs L=>?_];have M:s.natAbs<=3:=by
   have A:∀n:Int,n∈[(1:Int),-1,1,2,-3]->n.natAbs<=3:=∎
   show A s L
  walk_at "q";show#[rfl,c,_,rfl,⋯,⋯,λr2 _=>?_];have g3:=ā r2 (show b≠0 by omega);have I:=õ r2 G.1;walk_at "q";show#[G.1,rfl,_,_,rfl,⋯,Ñ (gU (k:=8) ⋯) ∎,λ_=>#[i2 _,?_]];rw[ia];have Y:=IL s (show 0<1+r2 % b by omega);have t2:=IM s (show 0<1+r2 % b by omega);generalize Í s (1+r2 % b)=nu at Y t2;rfl';show#[rfl,c,_,rfl,⋯,⋯,λr3 _=>?_];rfl';have B:us.take (i'+1)=us.take i'++[u]:=Qb l;have hn:u ∉ h.map (·.1):=λm=>by
   let#[p,g,e]:=ß.mp m;show EF r l<|e ▸ (hp p g).1
  show#[∎,?_];split
  .rw[gL hn];show#[⋯,h++[(u,nu)],_,_,_,rfl,λp g=>?_,?_,by rw[Ò,ŕ];omega]
   .rcases Æ.mp g with g |g
    .rw[B];show#[Æ.mpr<|.inl (hp p g).1,(hp p g).2]
    .rw[ä.mp g,B];show#[Æ.mpr<|.inr<|.head _,(by omega:nu.num.natAbs<=3),(by omega:(nu.den:Int)<=b)]
   .rw[Û];show Ĵ.mpr #[hd,ē.mpr #[λm=>(nomatch m),ab5],λa Q b' U e=>?_];rw[ä.mp U] at e;have e:a=u:=e;subst e;show hn Q
  .show#[h,_,_,_,rfl,λp g=>#[by rw[B];show Æ.mpr<|.inl (hp p g).1,(hp p g).2],hd,⋯]
 .rintro j ⟨h,x,y,v,rfl,hp,hd,hpl⟩;rw[Ş] at hpl;rfl';show#[(b8 _<|nr h).o,q h #[λp m=>#[Š (hp p m).1,(hp p m).2],hd,hpl] _]
abbrev mP(o:bR):Tr:=.aL [.aP .o<|dS o.1,.str o.2.1,ae.t o.2.2.1,.int o.2.2.2.1,.int o.2.2.2.2]
structure R5(us:ah)(o:bR):Prop where
 p:p6 3 us o.1
 n:o.2.2.1.num.natAbs<=20/\(o.2.2.1.den:Int)<=3
 r:0<=o.2.2.2.1/\o.2.2.2.1<=4
 w:1<=o.2.2.2.2/\o.2.2.2.2<=10 ^ 5
def J4:vg 10 5:=#[∎,∎,∎]
inductive kU(xs:af)(Q:Tr->aA):Prop
 |mk(_:↑xs=3)(f:Fl)(c b:Int)(us:ah)(_:Fp f)(_:xs=[.int c,.ag f ↥us,.int b])(_:us.Nodup)(_:↑us<=4)(_:0<b/\b<=3)(_:∀o:bR,R5 us o->∀j,Q (mP o) j):kU xs Q
def OZ{z:Bool}:aJ P w K mg base bI 5 T.uM.a T.uM.d ["_law_cell","_law_some","_law_bottoms"] (bP K z 0 3 kU):=by
 show cc T.uM.F OX rfl ∎ λbH A outer s H E hr hu r=>?_
 show#[_,(aO (bC 3<|a8 (fK<|ak f9<|ak f9<|ak f9 aC)<|fg (qc T.iO (jY T)<|ak (qv 0)<|ak aD aC) aD)
  (aO (bC 4<|a8 (fK<|ak aD<|ak aD<|ak aD<|ak aD<|ak aD<|ak aD<|ak aD aC)<|fg (qc T.iO (jY T)<|ak (qv 0)<|ak aD aC) aD)
  (aO (bC 5 aD)
  (aO (cN (cm qZ qV `ei aD) (aZ<|bC 5<|dQ aD<|fg (qc T.iO (jY T)<|ak (qv 0)<|ak aD aC)<|a8 (fK<|ak aD<|ak aD<|ak (Jh aD aD) aC)<|fg (qc T.iO (jY T)<|ak (qv 0)<|ak aD aC) aD) cM)
  (aO (bC 6<|qc T.qf (yz T)<|ak (o6 (fg (qc T.iO (jY T)<|ak (qv 0)<|ak aD aC) aD) aD)<|ak (dQ aD<|fg (qc T.iO (jY T)<|ak (qv 0)<|ak aD aC)<|qv 2) aC)
  (aZ<|bW<|iZ<|ak (qc T.rE (Ep T)<|ak (qv 0)<|ak (qv 1)<|ak (qv 2) aC)<|ak (qv 3)<|ak (qv 6)<|ak (qv 4)<|ak (qv 5) aC)))))),?_]
 intro xs Q' _ zy;let#[_,f,c,b,us,_,rfl,x,B,u,q]:=zy;walk_at "q";show#[rfl,c,_,rfl,∎,∎,λr7 _=>?_];walk_at "q";show#[∎,Gs (ā _ ∎) (õ _ ∎) λk hk=>?_];walk_at "q";show#[rfl,c,_,rfl,∎,∎,λr8 _=>?_];walk_at "q";show#[∎,qL (ns:=[0,0,1,2,2,3,4]) (ā _ ∎) (õ _ ∎) λi y=>?_];have v:0<=i/\i<=4:=by
  have A:∀n:Int,n∈[(0:Int),0,1,2,2,3,4]->0<=n/\n<=4:=∎
  show A i y
 walk_at "q";show JI (λj=>∃e:Int,j=[.int c,.ag f ↥us,.int b,.str k,.int i,.int e,.ar]/\1<=e/\e<=10 ^ 5) (λN r=>?_) ?_
 .rfl';split
  .show#[rfl,c,_,rfl,∎,∎,λG _=>#[J4,?_]];show#[rfl,c,_,rfl,∎,∎,λM _=>?_];rfl';show#[∎,qL (ns:=[1,9,10 ^ ai0 5]) (ā _ ∎) (õ _ ∎) λe C=>?_];have h:0<e/\e<=10 ^ 5:=by
    have A:∀n:Int,n∈[(1:Int),9,10 ^ ai0 5]->0<n/\n<=10 ^ 5:=∎
    show A e C
   have y0:=ā G (show e≠0 by omega);have y1:=õ G h.1;rfl';show#[h.1,r _ #[_,rfl,⋯,⋯]]
  .show r _ #[1,rfl,∎,∎]
 intro _ zy;let#[e,rfl,U,Y]:=zy;walk_at "q";show#[rfl,c,_,rfl,∎,∎,λr3 _=>?_];have g7:=ā r3 (show (25:Int)≠0 by decide);have L:=õ r3 (show (0:Int)<25 by decide);walk_at "q";show#[∎,rfl,c,_,rfl,∎,∎,λr4 _=>?_];have g3:=ā r4 (show b≠0 by omega);have J:=õ r4 u.1;walk_at "q";show#[u.1,rfl,_,_,rfl,⋯,Ñ (gU (k:=8) ⋯) ∎,λ_=>?_];have O:=IL (r3 % 25 - 4) (show 0<1+r4 % b by omega);have Q:=IM (r3 % 25 - 4) (show 0<1+r4 % b by omega);generalize Í (r3 % 25 - 4) (1+r4 % b)=nu at O Q;rw[ia];show#[i2 _,?_];walk_at "q";show#[rfl,f,c,b,us,‹_›,rfl,x,B,u,λD g _=>?_];have I:=b8 _<|nr D;show#[?_,q (D,k,nu,i,e) #[#[λp m=>#[(g.p p m).1,(g.p p m).2.1,by have:=(g.p p m).2.2;omega],g.d,g.l],#[(by omega:nu.num.natAbs<=20),(by omega:(nu.den:Int)<=3)],v,#[U,Y]] _];rw[show cI (Tr.aP Fl.o<|dS D)=Â from I.o];rfl
abbrev adr(X:List (Str×Rat))(m:List (Str×Rat)):List (Rat×Rat):=m.map λp=>(p.2,(bU X p.1).getD 0)
def Ue(t b:Int)(f:0<b)(x y:Rat):Í (t*((x.den:Int)*(y.den:Int))+x.num*y.num*b) (b*((x.den:Int)*(y.den:Int)))=Í t b+x*y:=by
 have e:∀x:Rat,x=(x.num:Rat) / ((x.den:Int):Rat):=λx=>by
  have:=Ż x;rw[ö] at this;show this.symm
 have g:((x.den:Int):Rat)≠0:=ĕ<|ó.mpr<|ĩ.mpr x.den_pos;have h:((y.den:Int):Rat)≠0:=ĕ<|ó.mpr<|ĩ.mpr y.den_pos;have a:(b:Rat)≠0:=ĕ<|ó.mpr f;simp only[ö,Ŕ,è]
 conv=>rhs;rw[e x,e y]
 generalize ((x.den:Int):Rat)=p at *;generalize ((y.den:Int):Rat)=q at *;generalize (b:Rat)=d at *;rw[Ģ,Ģ,Ģ,Ģ];have i:=ķ _ g;have j:=ķ _ h;have l:=ķ _ a;rw[Rat.inv_mul_rev,Rat.inv_mul_rev]
 grind
structure R6(us:ah)(X:List (Str×Rat))(o:bR):Prop where
 p:p6 2 us o.1
 r:o.2.2.2.1=0
 w:o.2.2.2.2=1
 n:∃s:Int,0<=s/\s<=8/\((o.2.1="least"/\o.2.2.1=dc (adr X o.1) - s)\/(o.2.1="most"/\o.2.2.1=dc (adr X o.1)+s)\/(o.2.1="just"/\o.2.2.1=dc (adr X o.1)))
inductive jt(xs:af)(Q:Tr->aA):Prop
 |mk(_:↑xs=3)(f g:Fl)(c:Int)(us:ah)(X:List (Str×Rat))(_:Fp f)(_:Fp g)(_:xs=[.int c,.ag f ↥us,bV g X])(_:us.Nodup)(_:↑us<=4)(_:∀u∈us,∃x,bU X u=À x/\bs x<=60)(_:∀o:bR,R6 us X o->∀j,Q (ae.t o) j):jt xs Q
def NX:aJ P w K mg base bI 5 T.uN.a T.uN.d ["_law_cell","_law_some","_law_placing"] (bP K Â 0 3 jt):=by
 show cc T.uN.F NU rfl ∎ λbH A outer s H E hr hu m=>?_
 show#[_,(aO (bC 3<|qc T.rE (Ep T)<|ak (qv 0)<|ak (qv 1)<|ak aD aC)
  (aO (bC 4 aD)
  (aO (bC 5 aD)
  (aO (HX (qv 3) (iU (n:=2) rfl<|dP (cR 6)<|dP (cR 7) iN) (aO (bC 7<|iZ<|ak (da (a8 (qv 7) aD)<|a8 (a8 (qv 2)<|qv 6) aD)<|ak (da (a8 (qv 7) aD)<|a8 (a8 (qv 2)<|qv 6) aD) aC)
  (aO (bC 4<|dQ (da (qv 4)<|a8 (qv 7) aD)<|da (a8 (qv 7) aD)<|qv 5)
  (aZ<|bC 5<|da (qv 5)<|a8 (qv 7) aD))))
  (aO (bC 8<|a8 (fK<|ak f9<|ak f9<|ak f9 aC)<|fg (qc T.iO (jY T)<|ak (qv 0)<|ak aD aC) aD)
  (aO (bC 9<|a8 (fK<|ak aD<|ak (fg (qc T.iO (jY T)<|ak (qv 0)<|ak aD aC) aD) aC)<|fg (qc T.iO (jY T)<|ak (qv 0)<|ak aD aC) aD)
  (aO (cN `dy (aZ<|bC 4<|o6 (qv 4)<|da (qv 9)<|qv 5) cM)
  (aO (cN `dy (aZ<|bC 4<|dQ (qv 4)<|da (qv 9)<|qv 5) cM)
  (aZ<|bW<|iZ<|ak (qv 3)<|ak (qv 8)<|ak (qc T.qf (yz T)<|ak (qv 4)<|ak (qv 5) aC)<|ak aD<|ak aD aC))))))))),?_]
 intro xs Q' _ zy;let#[_,f,g,c,us,X,_,_,rfl,U,α,hX,q]:=zy;show gC (λj=>∃h,j=[.int c,.ag f ↥us,bV g X,bV .f h,.ar,.ar,.ar,.ar,.ar,.ar]/\p6 2 us h) (λN m=>?_) ?_
 .rfl';show#[rfl,f,c,2,us,‹_›,rfl,U,α,∎,λh D _=>?_];have ck:=b8 _<|nr h;show#[ck.t,?_];rw[show Pu.aB (.aP .o<|dS h)=bV .f h by change Tr.aP .f (dJ _)=_;rw[ck.f];rfl];show m _ #[h,rfl,D]
 rintro _ ⟨h,rfl,D⟩;show gC (λj=>j=[.int c,.ag f ↥us,bV g X,bV .f h,.int 0,.ar,.ar,.ar,.ar,.ar]) (λN m=>by rfl';show m _ rfl) ?_;rintro _ rfl;show gC (λj=>j=[.int c,.ag f ↥us,bV g X,bV .f h,.int 0,.int 1,.ar,.ar,.ar,.ar]) (λN m=>by rfl';show m _ rfl) ?_;rintro _ rfl;show gC (λj=>∃(t b:Int)(x y:Tr),j=[.int c,.ag f ↥us,bV g X,bV .f h,.int t,.int b,x,y,.ar,.ar]/\0<b/\Í t b=dc `ds/\bi t<=1000/\bi b<=1000) (λN m=>?_) ?_
 .rfl';show je.map h (λi j=>∃(t b:Int)(x y:Tr),j=[.int c,.ag f ↥us,bV g X,bV .f h,.int t,.int b,x,y,.ar,.ar]/\0<b/\Í t b=dc (adr X<|h.take i)/\bi t<=1+i*130/\bi b<=1+i*130) #[0,1,_,_,rfl,∎,rfl,by walk_at "k",by walk_at "k"] ?_ ?_
  .rintro i u a j hi ⟨t,b,x,y,rfl,B,C,h1,J⟩;have β:=(Á.mp hi).1;have Y:=D.l;∎;let#[mu,n3,d2]:=D.p _<|Î hi;let#[v,hv,bv]:=hX u mu;∎;dsimp only at n3 d2;have a1:bi a.num<=2:=gU ⋯;have a2:bi (a.den:Int)<=2:=gU (by rw[Ĩ];omega);have v1:=iX v;have v2:=fZ v;have m1:=dg a.num v.num;have m2:=dg (a.den:Int) (v.den:Int);have m3:=dg t<|(a.den:Int)*(v.den:Int);have m4:=dg (a.num*v.num) b;have m5:=wh (t*((a.den:Int)*(v.den:Int)))<|a.num*v.num*b;have m6:=dg b<|(a.den:Int)*(v.den:Int);have p1:(0:Int)<b*((a.den:Int)*(v.den:Int)):=Ŧ B<|Ŧ (ĩ.mpr a.den_pos)<|ĩ.mpr v.den_pos;have tk:dc (adr X<|h.take<|i+1)=dc (adr X<|h.take i)+a*v:=by
    rw[đ,hi];unfold adr;rw[Û,vV];change _+(a*(bU X u).getD 0+0)=_;rw[hv,ü];rfl
   rw[tk,<- C,<- Ue t b B];rfl';show dE _ _ v hv ?_;rfl';show#[eC a1 v1 ⋯,dE _ _ v hv ?_];rfl';show#[eC a2 v2 ⋯,eC (Ï _) (Ï _) ⋯,eC (Ï _) (Ï _) ⋯,eC (Ï _) (Ï _) ⋯,_,_,_,_,rfl,p1,rfl,⋯,⋯]
  .rintro j ⟨t,b,x,y,rfl,B,C,h1,J⟩;rw[Ĕ] at C;have Y:=D.l;show m _ #[t,b,x,y,rfl,B,C,⋯,⋯]
 intro _ zy;let#[t,b,x,y,rfl,B,C,h1,J]:=zy;show gC (λj=>∃k:Str,j=[.int c,.ag f ↥us,bV g X,bV .f h,.int t,.int b,x,y,.str k,.ar]/\(k="least"\/k="most"\/k="just")) (λN m=>?_) ?_
 .rfl';show#[rfl,c,_,rfl,∎,∎,λL _=>?_];rfl';show#[∎,Gs (ā _ ∎) (õ _ ∎) λk Q=>#[rfl,m _ #[k,rfl,Q]]]
 rintro _ ⟨k,rfl,Q⟩;show gC (λj=>∃s:Int,j=[.int c,.ag f ↥us,bV g X,bV .f h,.int t,.int b,x,y,.str k,.int s]/\0<=s/\s<=8) (λN m=>?_) ?_
 .rfl';show#[rfl,c,_,rfl,∎,∎,λL _=>?_];have g1:=ā L (show (9:Int)≠0 by decide);have g2:=õ L (show (0:Int)<9 by decide);rfl';show#[∎,rfl,c,_,rfl,∎,∎,λr2 _=>?_];rfl';show#[∎,qL (ns:=[0,L % 9]) (ā _ ∎) (õ _ ∎) λs hs=>#[rfl,m _ #[s,rfl,?_]]];rcases æ.mp hs with rfl |hs
  .decide
  .rw[ä.mp hs];omega
 intro _ zy;let#[s,rfl,s0,s8]:=zy;have G:bi s<=4:=gU ⋯;have mb:=dg s b;have ms:=zJ t<|s*b;have ma:=wh t<|s*b;show gC (λj=>∃I:Int,j=[.int c,.ag f ↥us,bV g X,bV .f h,.int I,.int b,x,y,.str k,.int s]/\((k="least"/\I=t - s*b)\/(k≠"least"/\I=t))) (λN m=>?_) ?_
 .rfl';split
  .next e=>show#[eC G J ⋯,m _ #[_,rfl,.inl #[ap1 e,rfl]]]
  .next e=>show m _ #[_,rfl,.inr #[of_decide_eq_false (by simpa using e),rfl]]
 rintro _ ⟨I,rfl,M⟩;have mt:=wh I<|s*b;show gC (λj=>∃r:Int,j=[.int c,.ag f ↥us,bV g X,bV .f h,.int r,.int b,x,y,.str k,.int s]/\((k="least"/\r=t - s*b)\/(k="most"/\r=t+s*b)\/(k="just"/\r=t))) (λN m=>?_) ?_
 .rfl';split
  .next e=>
   have e:=ap1 e;show#[eC G J ⋯,m _ #[_,rfl,.inr<|.inl #[e,?_]]];rcases M with⟨z,_⟩ |⟨_,z⟩
   .rw[e] at z;show ao8 z ∎
   .rw[z]
  .next e=>
   have e:¬ k="most":=of_decide_eq_false (by simpa using e);show m _ #[_,rfl,?_];rcases M with⟨z,z'⟩ |⟨z,z'⟩
   .show .inl ⟨z,z'⟩
   .show .inr (.inr ⟨(Q.resolve_left z).resolve_left e,z'⟩)
 clear M;rintro _ ⟨r,rfl,e2⟩;have dv:∀n:Int,Í (t+n*b) b=Í t b+n:=λn=>by
  have O:(b:Rat)≠0:=ĕ<|ó.mpr B;have i3:=ķ _ O;simp only[ö,Ŕ,è,Ģ]
  grind
 rfl';show#[rfl,_,_,rfl,B,⋯,λ_=>#[?_,q (h,k,Í r b,0,1) #[D,rfl,rfl,s,s0,s8,?_] _]]
 .rw[iI];rfl
 .show (k=_/\Í r b=dc `ds - s)\/(k=_/\Í r b=dc `ds+s)\/(k=_/\Í r b=dc `ds);rw[<- C];rcases e2 with⟨z,rfl⟩ |⟨z,rfl⟩ |⟨z,rfl⟩
  .show .inl ⟨z,?_⟩;have:=dv (-s);rw[ZQ] at this;rw[ab1,<- Int.neg_mul,this];show (ő _ _).symm
  .show .inr (.inl #[z,dv s])
  .show .inr (.inr #[z,rfl])
def JB:∀(us:ah)(x:Nat->Rat),dot (us.map λ_=>(0:Rat)) x=0
 |[],_=>rfl
 |u::us,x=>by rw[ë,dot,JB us];grind
def He(a:Rat)(f g:Str->Rat):∀(us:ah)(x:Nat->Rat),dot (us.map λu=>a*f u+g u) x=a*dot (us.map f) x+dot (us.map g) x
 |[],_=>by rw[Zz,Zz,Zz,dot];grind
 |u::us,x=>by rw[ë,ë,ë,dot,dot,dot,He a f g us];grind
def zw{us:ah}(nd:us.Nodup){x:Nat->Rat}{j:Nat}{u:Str}(h:us[j]?=À u):bU `aF u=À (x j):=by
 unfold bU;have m:(u,j)∈us.zipIdx:=œ.mpr h;rw[List.find?_map];cases e:us.zipIdx.find? ((λp=>decide<|p.1=u) ∘ 1e3) with
 |none=>show ao8 (am8.mp e _ m) ∅
 |some q=>
  have n:q.1=u:=ap1 (p:=q.1=u) (by have:=List.find?_some e;show this);have g:us[q.2]?=À q.1:=œ.mp<|ae9 e;rw[n] at g;let#[a,b]:=Á.mp g;let#[d,f]:=Á.mp h;have i:q.2=j:=by
   rcases Nat.lt_trichotomy q.2 j with l |e |l
   .show ao8 (b.trans f.symm) (Ξ.mp nd _ _ a d l)
   .show e
   .show ao8 (f.trans b.symm) (Ξ.mp nd _ _ d a l)
  change À (x q.2)=_;rw[i]
def Ug(u v:Str)(c:Rat)(m:List (Str×Rat))(h:u ∉ m.map (·.1)):(bU ((u,c)::m) v).getD 0=c*(bU [(u,(1:Rat))] v).getD 0+(bU m v).getD 0:=by
 unfold bU;rw[Ł,Ł,List.find?_nil];by_cases e:u=v
 .have n:m.find? (λp=>decide<|p.1=v)=È:=am8.mpr λp a z=>h (by rw[e,<- ap1 z];show Ŏ a)
  rw[n];simp only[e,decide_true];change c=c*1+0
  grind
 .simp only[e,decide_false];change _=c*0+_
  grind
def Hf{us:ah}(nd:us.Nodup)(x:Nat->Rat):∀m:List (Str×Rat),(m.map (·.1)).Nodup->(∀p∈m,p.1∈us)->dc (adr `aF m)=dot (us.map λu=>(bU m u).getD 0) x
 |[],_,_=>(JB us x).symm
 |(u,c)::m,hn,hm=>by
  rw[ë,ē] at hn;let#[j,a]:=ĝ<|hm (u,c)<|.head _;have b:=Hf nd x m hn.2 λp d=>hm p<|.tail _ d
  change c*(bU (us.zipIdx.map 1e3) u).getD 0+dc (adr _ m)=_;rw[b,zw nd a,show (us.map λv=>(bU ((u,c)::m) v).getD 0)=us.map λv=>c*(bU [(u,(1:Rat))] v).getD 0+(bU m v).getD 0 from č λv _=>Ug u v c m hn.1,He,vX x nd a];rfl
def jB{m:List (Str×Rat)}{u:Str}:(bU m u).getD 0=0\/∃p∈m,(bU m u).getD 0=p.2:=by
 unfold bU;cases e:m.find? λp=>decide (p.1=u) with
 |none=>show .inl rfl
 |some p=>show .inr #[p,ae9 e,rfl]
def Al{us:ah}{o:bR}{a b s v X:Nat}(hp:∀c∈gY us o,bi c.num<=a/\(c.den:Int) ∣ (X:Int))(hn:bi o.2.2.1.num<=b/\(o.2.2.1.den:Int) ∣ (X:Int))(f:0<X)(hs:bi (X:Int)<=s)(A:a+b+s<=3000)(u:0<=o.2.2.2.2/\bi o.2.2.2.2<=v):iu (a+s) (b+s) v X us o:=by
 have h:∀c∈cE us o,(c.den:Int) ∣ (X:Int):=λc m=>(Æ.mp m).elim (λm=>(hp c m).2) λm=>by rw[ä.mp m];show hn.2
 have r:∀c∈cE us o,bi c.num<=a+b:=λc m=>(Æ.mp m).elim (λm=>Ñ (hp c m).1 ⋯) λm=>by rw[ä.mp m];show Ñ hn.1 ⋯
 let#[l,_,n,y]:=gR (cE us o) 1 ∎;have g:=y X (ϐ _) h
 change 0<bg us o at l
 change ∀c∈cE us o,_ ∣ bg us o at n
 change bg us o ∣ _ at g
 have d:∀c∈cE us o,bi (fH `al c)<=bi c.num+s:=λc m=>by
  unfold fH;let#[z,j]:=n c m;have e:(0:Int)<(c.den:Int):=ĩ.mpr c.den_pos;have q:(bg us o).fdiv (c.den:Int)=z:=by
   have:=Ě (a:=(c.den:Int)) z<|é e;rwa[<- j] at this
  rw[q];have p:z ∣ (X:Int):=ō (by rw[j];show Zx _ _) g;have:=jj p f;have:=dg c.num z;omega
 show#[#[#[X,f,h,⋯],λc m=>?_],l,g,λx m=>?_,Ñ (d _<|Æ.mpr<|.inr<|.head _)<|al7 hn.1 _,u]
 .have b1:=r c m;have i:=jj (h c m) f;unfold bs;unfold bi at b1 i;rw[Ĩ] at i;have:bi (X:Int)=bl (X:Int).natAbs:=rfl;show Nat.max_le.mpr #[⋯,⋯]
 .obtain⟨c,mc,rfl⟩:=ß.mp m;show Ñ (d c<|Æ.mpr<|.inl mc)<|al7 (hp c mc).1 _
def p6.pv{b:Int}{us:ah}{o:bR}(h:p6 b us o.1)(g:b<=3){X:Nat}(a:(6:Int) ∣ (X:Int)):∀c∈gY us o,bi c.num<=2/\(c.den:Int) ∣ (X:Int):=λc m=>by
 let#[u,_,rfl]:=ß.mp m;rcases jB (m:=o.1) (u:=u) with e |⟨p,f,e⟩
 .rw[e];show#[Ĝ _,ϐ _]
 .obtain⟨_,n,d⟩:=h.p p f;have dp:=p.2.den_pos;rw[e];show#[gU ⋯,ō ?_ a];rcases (by omega:p.2.den=1\/p.2.den=2\/p.2.den=3) with e |e |e<;>rw[e]<;>decide
def R5.z{us:ah}{o:bR}(h:R5 us o){X s b:Nat}(f:0<X)(a:(6:Int) ∣ (X:Int))(hs:bi (X:Int)<=s)(g:5<=b)(d:2+b+s<=3000):iu (2+s) (b+s) 17 X us o:=by
 have w:=h.w;have dp:=o.2.2.1.den_pos;show Al (h.p.pv ∎ a) #[Ñ (gU (k:=5) (by have:=h.n.1;omega)) g,ō ?_ a] f hs d #[⋯,gU ⋯];have:=h.n.2;rcases (by omega:o.2.2.1.den=1\/o.2.2.1.den=2\/o.2.2.1.den=3) with e |e |e<;>rw[e]<;>decide
structure R7(us:ah)(x:Nat->Rat)(D:Nat)(o:bR):Prop where
 r:o.2.2.2.1=0
 w:o.2.2.2.2=1
 z:∀s,bi ((6*D:Nat):Int)<=s->s<=100->iu (2+s) (45+s) 17 (6*D) us o
 k:lg o.2.1 `dP=0
section
variable{us:ah}{x:Nat->Rat}{D:Nat}
def R6.z(nd:us.Nodup)(H:↑us<=4)(hD:0<D)(hb:bi (D:Int)<=30)(I:∀k,k<↑us->∃t:Int,x k=Í t D/\bi t<=38){o:bR}(h:R6 us `aF o):R7 us x D o:=by
 have b:(0:Int)<2*D:=⋯
 have U:bi (2:Int)<=2:=by walk_at "k"
 have pl:=h.p.l;let#[N,f,v]:=Aj b (l:=41) (adr `aF o.1) λq M=>by
  ∎;let#[p,L,rfl]:=ß.mp M;let#[O,n,d]:=h.p.p p L;let#[k,y]:=ĝ O;let#[t,C,ht]:=I k (Á.mp y).1;∎;have dp:=p.2.den_pos;have A:∃a:Int,p.2=Í a 2/\bi a<=3:=by
   rcases (by omega:p.2.den=1\/p.2.den=2) with e |e
   .show⟨p.2.num*2,?_,gU (by rw[ϓ];change _*2<_;omega)⟩
    conv=>lhs;rw[<- Ż p.2,e]
    change Í p.2.num 1=Í (p.2.num*2) (1*2);rw[Ť ∎]
   .show#[p.2.num,?_,gU ⋯]
    conv=>lhs;rw[<- Ż p.2,e]
    rfl
  let#[a,B,ha]:=A;show#[a*t,?_,Ñ `aR ⋯];change p.2*(bU _ p.1).getD 0=_;rw[zw nd y,Zp,C]
  conv=>lhs;rw[B]
  rw[ĸ]
 have J:(adr `aF o.1).length<=4:=by unfold adr;rw[Å];omega
 have v:bi N<=44:=gU<|Ď (Ñ v<|ţ _ J) ∎;have E:dot `bX x=dc (adr `aF o.1):=(Hf nd x o.1 h.p.d λp m=>(h.p.p p m).1).symm;let#[s,Q,s8,G]:=h.n;have g:((2*D:Int):Rat)≠0:=ĕ<|ó.mpr b;have dv:∀n:Int,Í N (2*D)+n=Í (N+n*(2*D)) (2*D):=λn=>by
  have i3:=ķ _ g;generalize (2*D:Int)=d at *;simp only[ö,Ŕ,è,Ģ]
  grind
 have sp:(0:Rat)<=(s:Rat):=Ķ.mpr Q;have j:∃n:Int,n.natAbs<=8/\o.2.2.1=Í (N+n*(2*D)) (2*D)/\lg o.2.1 `dP=0:=by
  unfold lK;rw[E];rcases G with⟨k,e⟩ |⟨k,e⟩ |⟨k,e⟩
  .show⟨-s,⋯,by rw[e,f,<- dv,ZQ,ő],(vY _ _).mpr ⟨λ_=>by rw[e];grind,λz=>?_,λz _=>ao8 k z⟩⟩;rw[k] at z;show ao8 z ∎
  .show#[s,⋯,by rw[e,f,<- dv],(vY _ _).mpr #[λz=>?_,λ_=>by rw[e];grind,λ_ z=>ao8 k z]];rw[k] at z;show ao8 z ∎
  .show#[0,∎,by rw[e,f,ž,ab9],(vY _ _).mpr #[λ_=>by rw[e];grind,λ_=>by rw[e];grind,λ_ _=>by rw[e];grind]]
 let#[n,n8,u,hm]:=j;show#[h.r,h.w,λs' i h1=>?_,hm];have Y:bi n<=4:=gU ⋯;have m1:=dg n<|2*D;have m2:=dg 2 (D:Int);have m3:=wh N<|n*(2*D);show Al (h.p.pv ∎ #[(D:Int),by rw[Ů];rfl]) #[?_,?_] ⋯ i ⋯ (by rw[h.w];decide +kernel)
 .rw[u];show Ñ (Ac _ b) ⋯
 .rw[u];show ō (vS _ b) #[3,by rw[Ů];change (6:Int)*D=2*D*3;omega]
def R7.one(nd:us.Nodup)(i:0<D){k:Nat}{u:Str}(f:us[k]?=À u){t:Int}(b:x k=Í t D)(ht:bi t<=38):R7 us x D ([(u,1)],"just",x k,0,1):=by
 have a:(0:Int)<D:=⋯
 have d:dot (gY us ([(u,1)],"just",x k,0,1)) x=x k:=vX x nd f;show#[rfl,rfl,λs g h=>?_,?_]
 .show Al (λc m=>?_) #[?_,?_] ⋯ g ⋯ #[show (0:Int)<=1 by decide,show bi 1<=17 by walk_at "k"]
  .obtain⟨v,_,rfl⟩:=ß.mp m;rcases Iv u v with e |e
   .show bi ((bU [(u,(1:Rat))] v).getD 0).num<=2/\_;rw[e];show#[Ĝ _,ϐ _]
   .show bi ((bU [(u,(1:Rat))] v).getD 0).num<=2/\_;rw[e];show#[by walk_at "k",ϐ _]
  .show bi (x k).num<=45;rw[b];show Ñ (Ac _ a) ⋯
  .show ((x k).den:Int) ∣ _;rw[b];show ō (vS _ a) #[6,by rw[Ů];change (6:Int)*D=D*6;omega]
 .unfold lK;rw[d];show (vY _ _).mpr #[λz=>ao8 z (show ¬ ("just":Str)="least" by decide),λz=>ao8 z (show ¬ ("just":Str)="most" by decide),λ_ _=>?_];change x k - x k=0
  grind
def FY:∀{a:av},(∀o∈a,R7 us x D o)->dH us 0 x a=0
 |[],_=>rfl
 |o::a,h=>by
  rw[dH,(h o<|.head _).k,FY λq m=>h q<|.tail _ m,ũ];split<;>show ü _
end
def bc.mem{G j:Type}(h:j->Tr)(f:j->Prop)(ys:List G)(g:G->Tr){pg:eV}{pe:bh}{n:af}{Q:az}(v:↑ys<=1000)(step:∀y∈ys,∀R:az,(∀b,f b->R (h b))->pg (g y) n λr=>pe r R)(q:∀d:List j,d.length=↑ys->(∀z∈d,f z)->Q (.ag .o<|d.map h)):bc `cc pg su pe n Q:=by
 show#[λi a=>∃d:List j,a=d.map h/\↑d=i/\∀z∈d,f z,#[[],rfl,rfl,λ_ m=>(nomatch m)],λi t a e h=>?_,λa h=>?_]
 .obtain⟨rs,rfl,e1,e2⟩:=h;rw[Ê] at e;cases e':ys[i]? with
  |none=>rw[e'] at e;cases e
  |some y=>
   rw[e'] at e;cases e;have l:=(Á.mp e').1;show step y (Î e') _ λo p=>#[by rw[Å];omega,rs++[o],by rw[Û];rfl,by rw[Ò,e1];rfl,λx u=>?_]
   rcases Æ.mp u with z |z
   .show e2 x z
   .rw[ä.mp z];show p
 .obtain⟨rs,rfl,e1,e2⟩:=h;rw[Å] at e1 ⊢;show#[⋯,q rs e1 e2]
abbrev xG(K:aq):Sp:=λvs H Q _=>∃(a:ai)(ns:aF),vs=[.ref a]/\bE K H a `ay/\↑ns<=63/\∀b,Q `cp b
inductive kR(xs:af)(Q:Tr->aA):Prop
 |mk(_:↑xs=1)(ns:aF)(_:xs=[.ag (.l É) ↥ns])(_:↑ns<=63)(_:∀j,Q (.bl Â) j):kR xs Q
def eh{K:aq}{F:Hp}{B:Bool->Hp}:∀ns:aF,Rs K F B ↥ns `ay []
 |[]=>#[rfl,rfl]
 |n::ns=>#[_,_,[],[],rfl,rfl,#[rfl,rfl],eh ns]
def YH{K:aq}(vs:ay)(H:Hp)(Q:VK)(E:XK)(h:xG K vs H Q E):bP K Â 0 1 kR vs H Q E:=by
 let#[a,ns,rfl,b,d,k]:=h;show#[rfl,λ_=>È,H,[.ag `aM ↥ns],λ_=>[],λt _=>t=.bl Â,λ_=>False,#[?_,(λ_ _ _ _ z=>by cases z),rfl,?_,(λ_=>.nil),(λ_ _ m=>nomatch m),(λ_ _ _ _ m=>nomatch m),(λi h=>ao8 h<|ZP i),λ_ _ _ _ z=>z.elim],#[rfl,ns,rfl,d,λ_=>rfl],?_]
 .show Gr.aS (λ_ _ z=>by cases z)
 .intro i t e;cases i with
  |zero=>cases e;show .inr #[.ref a,rfl,rfl,a,_,rfl,b,eh ns]
  |succ i=>cases e
 .intro F' H' j' g' cs' v t c _ r _ _ _ _ e;subst e;rw[r.1];show k _
def zx:∀rs:av,Pu.bf `cJ=↥rs/\Pu.bY `cJ=Â
 |[]=>#[rfl,rfl]
 |o::rs=>by
  have a:=b8 _<|nr o.1;have b:=zx rs;constructor
  .show Tr.aL [.aP .f<|Pu.dJ<|o.1.map λp=>((ñ p.1:aW),ae.t p.2),_,Pu.aB<|ae.t o.2.2.1,_,_]::Pu.bf `cJ=_;rw[a.f,ia,b.1];rfl
  .show ((Pu.gK (o.1.map λp=>((ñ p.1:aW),ae.t p.2))&&(Â&&(Pu.bM (ae.t o.2.2.1)&&(Â&&(Â&&Â)))))&&Pu.bY `cJ)=Â;rw[a.t,i2,b.2];rfl
def Xl{x:Rat}:dh `ct `ct=À Â:=by
 change (if 2=2 then (À<|decide<|x.num=x.num).bind λa=>((À<|decide<|(x.den:Int)=x.den).bind λb=>(À Â).bind λc=>À<|b&&c).bind λb=>À (a&&b) else È)=_;rw[ao7 rfl,ao9 rfl,ao9 rfl];rfl
def YI{a:Tr}{x:Rat}(h:dh a a=À Â):dh (.aL [a,ae.t x]) (.aL [a,ae.t x])=À Â:=by
 change (if 2=2 then (dh a a).bind λa=>((dh `ct<|ae.t x).bind λb=>(À Â).bind λc=>À<|b&&c).bind λb=>À (a&&b) else È)=_;rw[ao7 rfl,h,Xl];rfl
def Hg{a:Tr}{d:af}(h:dh a a=À Â)(h':cg d d=À Â):cg (a::d) (a::d)=À Â:=by
 change ((dh a a).bind λa=>(cg d d).bind λb=>À<|a&&b)=_;rw[h,h'];rfl
def IP{f g:Fl}{a:af}(h:cg a a=À Â):dh (.ag f a) (.ag g a)=À Â:=by
 change (if ↑a=↑a then cg a a else À É)=_;rw[ao7 rfl,h]
def eq_str(u:Str):dh (.str u) (.str u)=À Â:=by
 change À (decide<|u=u)=_;rw[ao9 rfl]
def Hh:∀us:ah,cg ↥us ↥us=À Â
 |[]=>rfl
 |u::us=>Hg (eq_str u)<|Hh us
def IQ:∀Y:List ((Int ⊕ Str)×Rat),cg ↥Y ↥Y=À Â
 |[]=>rfl
 |(a,r)::Y=>by
  show Hg (YI (x:=r) ?_)<|IQ Y;cases a with
  |inl n=>change À (decide<|n=n)=_;rw[ao9 rfl]
  |inr u=>show eq_str u
def FZ:∀us:ah,d8 ↥us=0
 |[]=>rfl
 |u::us=>by change max 0 (d8 ↥us)=0;rw[FZ us];rfl
def Hi:∀Y:List ((Int ⊕ Str)×Rat),d8 ↥Y<=2
 |[]=>Ĝ _
 |(a,r)::Y=>Nat.max_le.mpr #[by cases a <;> show Ï 2,Hi Y]
def IS:∀{X:List (Str×Rat)},(X.map (·.1)).Nodup->∀q∈X,bU X q.1=À q.2
 |p::X,nd,q,m=>by
  let#[a,b]:=ē.mp nd;rcases æ.mp m with rfl |m
  .show sR rfl
  .have e:¬ p.1=q.1:=λe=>a<|ß.mpr #[q,m,e.symm]
   rw[show bU (p::X) q.1=bU X q.1 by simp[bU,e]];show IS b q m
def Hj(d:aF)(a b:Nat)(h:a<=b):(adc d (À (a:Int))<|À (b:Int)).length<=b - a:=by
 unfold adc;rw[û];unfold HT.dM;dsimp only;rw[ao6 ⋯,ao6 ⋯];omega
def IT(X:List (Str×Rat))(Y:List ((Int ⊕ Str)×Rat))(b:List (aw×aw)):bM (Tr.aL [.aP .o<|dS X,ae.t Y,ae.t b])=Â/\Pu.aB (Tr.aL [.aP .o<|dS X,ae.t Y,ae.t b])=.aL [bV .f X,ae.t Y,ae.t b]:=by
 have a:=b8 _<|nr X;constructor
 .show (gK (dS X)&&(bM (ae.t Y)&&(bM (ae.t b)&&Â)))=Â;rw[a.t,i2,i2];rfl
 .show Tr.aL [Tr.aP .f<|dJ _,Pu.aB<|ae.t Y,Pu.aB<|ae.t b]=_;rw[a.f,ia,ia];rfl
def Xm:aJ P w K mg base bI 60 T.mX.a T.mX.d ["_law_script"] (bP K Â 0 1 kR):=by
 show cc T.mX.F CS rfl ∎ λbH A outer s H E hr hu G=>?_
 show#[_,(aO (bC 1<|qc T.uK (MN T)<|ak (qv 0)<|ak aD aC)
  (aO (bC 2<|nO (fK<|ak f9<|ak f9<|ak f9<|ak f9 aC) q0<|lR<|dQ aD<|fg (qv 1) aD)
  (aO (oU 3 ["_law_cell","_law_some","_law_first"] [È,À 2,À 1] (fj<|nO (qv 0) (lR aD)<|lR aD) (eF 0) (λ_ _ _ _ _=>(qc T.uM (OZ T)<|ak (qv 0)<|ak (qv 1)<|ak (a8 (fK<|ak aD<|ak aD aC)<|fg (iY (qv 2) aD) aD) aC)))
  (aO (bC 4 mn)
  (aO (Kx (pe:=λq=>u0 q _ _) rfl rfl rfl T.BF (S6 (i:=4) ∎) (λpn xe te h=>v5 (i:=4) CS.nd rfl (Ϸ rfl) h) (λpn xe R hx q=>(tW T.rC (GW T)<|ak (jO (ki rfl) jZ T.gS<|ak (qv 3) aC)<|ak (jO (ki rfl) jZ T.gS<|ak (qv 2) aC) aC))<|λv=>(aZ<|bW kq))
  (aO (bC 5<|jO Pb S3 T.Lh<|ak (a8 (qv 4) aD) aC)
  (aO (oU 6 ["_law_cell","_law_some","_law_placing"] [È,À 2,À 5] (fj<|nO (qv 0) (lR aD)<|lR aD) (eF 0) (λ_ _ _ _ _=>(qc T.uN (NX T)<|ak (qv 0)<|ak (qv 1)<|ak (qv 2) aC)))
  (aO (cN (cm gB gp (fg (iY `bL aD) aD) aD) (aZ<|bC 6<|dQ (qv 6)<|hJ ["_law_name","_law_placing"] [È,À 5] (fj<|qv 2) (eF 0) (λ_ _ _ _ _=>(iZ<|ak (Ia (GN (qv 0) (iZ<|ak aD<|ak aD aC) H9) (hp:=ZS rfl))<|ak f9<|ak (a8 (qv 1)<|qv 0)<|ak aD<|ak aD aC))) cM)
  (aO (bC 7<|tW T.rC (GW T)<|ak (dQ (qv 3)<|qv 6)<|ak (jO (ki rfl) jZ T.gS<|ak (qv 2) aC) aC)
  (aO (cN (QW.t<|o7 (cm (WZ hr.units) WI (a8 (qv 7) aD)<|qv 5)<|o7 (cm jR jP (jO (ki rfl) jZ T.gS<|ak (a8 (qv 7) aD) aC)<|qv 2)<|qW<|cm jR jP (a8 (qv 7) aD)<|a8 (qv 4) aD) (aZ<|bW kq) cM)
  (aO (fL (tF T.l6<|ak (fy gq gu T.gv<|ak (a8 (qv 7) aD) aC) aC) (cR 8) (aO (Ku (a8 (a8 (qv 7) aD)<|qv 8)<|iU (n:=2) rfl<|dP (cR 9)<|dP (cR 10) iN)
  (aZ<|cN (cm jR jP (qc T.uG (Uc T)<|ak (dQ (qv 3)<|qv 6)<|ak (jO (ki rfl) jZ T.gS<|ak (qv 2) aC)<|ak (nO (a8 (qv 7) aD) q0<|lR<|qv 8)<|ak (qv 9)<|ak (a8 (a8 (qv 7) aD)<|qv 8) aC)<|qv 10) (aZ<|bW kq) cM)))
  (aZ<|bW kq)))))))))))),?_]
 intro xs Q' _ zy;let#[_,B,rfl,ζ,q]:=zy;show gC (λj=>∃c:Int,j=[.ag `aM ↥B,.int c,.ar,.ar,.ar,.ar,.ar,.ar,.ar,.ar,.ar]) (λN G=>?_) ?_
 .rfl';show#[rfl,_,B,0,inferInstance,rfl,∎,λc j=>#[rfl,G _ #[c,rfl]]]
 rintro _ ⟨c,rfl⟩;show gC (λj=>∃us:ah,j=[.ag `aM ↥B,.int c,.ag .f ↥us,.ar,.ar,.ar,.ar,.ar,.ar,.ar,.ar]/\us.Nodup/\↑us<=4) (λN G=>?_) ?_
 .rfl';have m0:=ā c (show (4:Int)≠0 by decide);have m1:=õ c (show (0:Int)<4 by decide);show#[∎,?_];rcases (by omega:c % 4=0\/c % 4=1\/c % 4=2\/c % 4=3) with e |e |e |e<;>rw[e]
  .show⟨rfl,G _ ⟨["left b"],rfl,∎,∎⟩⟩
  .show⟨rfl,G _ ⟨["left b","left a"],rfl,∎,∎⟩⟩
  .show⟨rfl,G _ ⟨["left b","left a","width a"],rfl,∎,∎⟩⟩
  .show⟨rfl,G _ ⟨["left b","left a","width a","gap c"],rfl,∎,∎⟩⟩
 intro _ zy;let#[us,rfl,nd,β]:=zy;show gC (λj=>∃rs:av,j=[.ag `aM ↥B,.int c,.ag .f ↥us,.ag .f ↥rs,.ar,.ar,.ar,.ar,.ar,.ar,.ar]/\↑rs<=6/\∀o∈rs,R5 us o) (λN G=>?_) ?_
 .have hcl:(adc B (À 1)<|À 7).length<=6:=Hj B 1 7 ∎;rfl';show bc.mem mP (R5 us) _ _ ⋯ (λx mx R hq=>?_) λrs hl ok=>?_
  .rfl';show#[#[∎,nA ∎],∎,qL (ns:=[1,3]) (ā _ ∎) (õ _ ∎) λb hb=>?_];have hb:0<b/\b<=3:=by
    rcases æ.mp hb with rfl |hb
    .decide
    .rw[ä.mp hb];decide
   rfl';show#[rfl,.f,_,b,us,inferInstance,rfl,nd,β,hb,λo r _=>hq o r]
  have fr:=zx rs;rw[show Pu.aB (Tr.ag .o<|rs.map mP)=.ag .f ↥rs by change Tr.ag .f (Pu.bf _)=_;rw[fr.1]];show#[fr.2,G _ #[rs,rfl,⋯,ok]]
 intro _ zy;let#[rs,rfl,hl,h5]:=zy;show gC (λj=>j=[.ag `aM ↥B,.int c,.ag .f ↥us,.ag .f ↥rs,.aT,.ar,.ar,.ar,.ar,.ar,.ar]) (λN G=>by rfl';show G _ rfl) ?_;rintro _ rfl;have z1:∀o∈rs,iu (2+3) (5+3) 17 6 us o:=λo m=>(h5 o m).z ∎ #[1,rfl] (by walk_at "k") ∎ ∎
 have w1:Wn rs:=λp m=>by have:=(h5 p m).w;omega
 have B1:Bz 6 100 rs us:=Jw z1 ∎ ⋯ ∎ (s:=3) (by walk_at "k") ∎ (by unfold fb;rw[ao7 ∎];omega) ∎;have δ:100+(↑us+4)*(100+1)<=3900:=⋯
 show gC (λj=>∃(L:List (aw×dw))(ss:a7)(S:Nat->Nat)(mk:aI)(b:List (aw×aw)),j=[.ag `aM ↥B,.int c,.ag .f ↥us,.ag .f ↥rs,.aL [bV .f<|eQ rs us S,ae.t<|cT us L,ae.t b],.ar,.ar,.ar,.ar,.ar,.ar]/\L.map (·.1)=eN rs us us/\(∀p,L[0]?=À p->p.2.2.1=0)/\fv 100 rs us L ss S mk) (λN G=>?_) ?_
 .rfl';show#[rfl,.f,.f,rs,us,6,100,inferInstance,inferInstance,rfl,B1,nd,hl,⋯,δ,λp ss S mk e J γ d=>#[T.Ld,q _],λL ss S mk M O J _=>?_];have F:=IT `dt (cT us L)<|iQ rs us ss mk<|↑us+4;show#[F.1,?_];rw[F.2];show G _ #[L,ss,S,mk,_,rfl,M,O,J]
 intro _ zy;let#[L,ss,S,mk,b,rfl,M,O,J]:=zy;show gC (λj=>j=[.ag `aM ↥B,.int c,.ag .f ↥us,.ag .f ↥rs,.aL [bV .f<|eQ rs us S,ae.t<|cT us L,ae.t b],bV .f<|eQ rs us S,.ar,.ar,.ar,.ar,.ar]) (λN G=>?_) ?_
 .rfl';have ck:=b8 _<|nr<|eQ rs us S;show#[ck.t,?_];rw[show Pu.aB (.aP .o<|dS<|eQ rs us S)=bV .f `dt by change Tr.aP .f (dJ _)=_;rw[ck.f];rfl];show G _ rfl
 rintro _ rfl;have hD:=J.g.pos;have dn:((Lp.dd ↑rs `ab S).toNat:Int)=Lp.dd ↑rs `ab S:=am6<|ľ hD;have hf:=Js hl (show 6<=16 by decide);rw[show fb 6=10 from rfl] at hf;have Y:bi (Lp.dd ↑rs `ab S)<=30:=Ñ (Az z1 hf J.g.lt) ⋯;have hx:∀k,k<↑us->∃t:Int,er ↑rs `ac `ab S k=Í t (Lp.dd ↑rs `ab S).toNat/\bi t<=38:=λk Q=>by
  rw[dn];unfold er;show#[_,rfl,?_];by_cases h:∃i,i<↑rs/\S i=k
  .obtain⟨i,hi,rfl⟩:=h;rw[Lp.gD J.g hi];show Ñ (Jt z1 hf J.g.lt i<|Ï _) ⋯
  .rw[Lp.dF (by unfold aU;omega) λi hi e=>h #[i,hi,e]];show Ĝ _
 have hT:=II J M O nd w1;have eX:eQ rs us S=us.zipIdx.map λp=>(p.1,er ↑rs `ac `ab S p.2):=rfl
 rw[<- dn] at Y;have D0:0<(Lp.dd ↑rs `ab S).toNat:=⋯
 generalize (Lp.dd ↑rs `ab S).toNat=D at hx Y D0;clear dn hD hf;generalize ex:er ↑rs `ac `ab S=x at hx eX;have hg:∀(k:Nat)(u:Str),us[k]?=À u->bU `dt u=À (x k):=λk u h=>by rw[eX];show zw nd h
 show gC (λj=>∃C:av,j=[.ag `aM ↥B,.int c,.ag .f ↥us,.ag .f ↥rs,.aL [bV .f<|eQ rs us S,ae.t<|cT us L,ae.t b],bV .f<|eQ rs us S,.ag .f ↥C,.ar,.ar,.ar,.ar]/\↑C<=5/\∀o∈C,R7 us x D o) (λN G=>?_) ?_
 .have hcl:(adc B (À 7)<|À 12).length<=5:=Hj B 7 12 ∎;rfl';show bc.mem ae.t (R7 us x D) _ _ ⋯ (λy my R hq=>?_) λC hl ok=>?_
  .rfl';show#[rfl,.f,.f,_,us,eQ rs us S,inferInstance,inferInstance,rfl,nd,β,λu mu=>?_,λo r _=>hq o<|R6.z nd β D0 Y hx<|eX ▸ r];∎;let#[k,Q]:=ĝ mu;let#[t,et,ht]:=hx k (Á.mp Q).1;∎;show#[_,hg k u Q,?_];rw[et];show ny ⋯ ⋯ ⋯
  rw[gP];show#[iD _,G _ #[C,rfl,⋯,ok]]
 intro _ zy;let#[C,rfl,ml,U]:=zy;show gC (λj=>∃C:av,j=[.ag `aM ↥B,.int c,.ag .f ↥us,.ag .f ↥rs,.aL [bV .f<|eQ rs us S,ae.t<|cT us L,ae.t b],bV .f<|eQ rs us S,.ag .f ↥C,.ar,.ar,.ar,.ar]/\↑C<=9/\∀o∈C,R7 us x D o) (λN G=>?_) ?_
 .rfl';show#[#[∎,nA ∎],∎,?_];split
  .show bc.mem mP (R7 us x D) us ae.t ⋯ (λu mu R hq=>?_) λjs hl ok=>?_
   .obtain⟨k,Q⟩:=ĝ mu;let#[t,et,ht]:=hx k (Á.mp Q).1;rfl';unfold qk;rfl';unfold qk;show#[by simp,dE _ _ _ (hg k u Q)<|hq _<|R7.one nd D0 Q et ht]
   .have fr:=zx js;rw[vZ];show#[by rw[Å,Å];omega,?_,?_]
    .show bY _=Â;rw[Gf,iD,fr.2];rfl
    .rw[show Pu.aB (Tr.ag .o<|↥C++js.map mP)=.ag .f ((C++js).map ae.t) by change Tr.ag .f (Pu.bf _)=_;rw[yS,lM,fr.1,Û]];show G _ #[C++js,rfl,by rw[Ò];omega,λo m=>(Æ.mp m).elim (U o)<|ok o]
  .show G _ #[C,rfl,⋯,U]
 clear U ml C;intro _ zy;let#[C,rfl,ml,U]:=zy;have w2:Wn (rs++C):=λp m=>(Æ.mp m).elim (w1 p) λm=>by rw[(U p m).w];decide
 have b6:bi ((6*D:Nat):Int)<=33:=by
  have a:=dg 6 (D:Int);have:bi (6:Int)<=3:=by walk_at "k"
  rw[Ů];show Ñ a ⋯
 have d6:(6:Int) ∣ ((6*D:Nat):Int):=#[(D:Int),by rw[Ů];rfl]
 have z2:∀o∈rs++C,iu (2+33) (45+33) 17 (6*D) us o:=λo m=>(Æ.mp m).elim (λm=>(h5 o m).z ⋯ d6 b6 ∎ ∎) λm=>(U o m).z 33 b6 ∎
 have B2:Bz 15 320 (rs++C) us:=Jw z2 ∎ ⋯ ⋯ b6 ∎ (by unfold fb;rw[ao6 ∎];omega) ∎;have ε:320+(↑us+4)*(320+1)<=3400:=⋯
 have l2:(rs++C).length<=15:=by rw[Ò];omega
 have kept:dH us 0 (er ↑rs `ac `ab S) C=0:=by rw[ex];show FY U
 have mM:dH us 0 (er ↑rs `ac `ab S) (rs++C)=0:=by rw[sL,hT.z,kept,ü]
 have m0:∀o∈C,o.2.2.2.1=0:=λo m=>(U o m).r
 have rk:∀o∈rs++C,0<=o.2.2.2.1/\o.2.2.2.1<=4:=λo m=>(Æ.mp m).elim (λm=>(h5 o m).r) λm=>by rw[m0 o m];decide
 show gC (λj=>∃(I:List (aw×dw))(ss:a7)(R:Nat->Nat)(mk:aI),j=[.ag `aM ↥B,.int c,.ag .f ↥us,.ag .f ↥rs,.aL [bV .f<|eQ rs us S,ae.t<|cT us L,ae.t b],bV .f<|eQ rs us S,.ag .f ↥C,.aL [bV .f<|eQ (rs++C) us R,ae.t<|cT us I,ae.t<|iQ (rs++C) us ss mk<|↑us+4],.ar,.ar,.ar]/\I.map (·.1)=eN (rs++C) us us/\(∀p,I[0]?=À p->p.2.2.1=0)/\fv 320 (rs++C) us I ss R mk) (λN G=>?_) ?_
 .rfl';rw[show cA (bf<|↥rs++↥C)=(rs++C).map ae.t by rw[<- Û,lM,pq]];show#[⋯,rfl,.f,.f,rs++C,us,15,320,inferInstance,inferInstance,rfl,B2,nd,l2,⋯,⋯,λp ss R mk e J γ d=>ao8 mM<|Wh J e γ nd w2 hT.n,λI ss R mk M O J _=>?_];have F:=IT (eQ (rs++C) us R) (cT us I)<|iQ (rs++C) us ss mk<|↑us+4;show#[F.1,?_];rw[F.2];show G _ #[I,ss,R,mk,rfl,M,O,J]
 clear J M O ss mk;intro _ zy;let#[I,ss,R,mk,rfl,M,O,J]:=zy;let#[ep,es]:=R8 hT m0 kept w2<|II J M O nd w2;have α:(eQ rs us S).map (·.1)=us:=by
  unfold eQ rg;rw[þ];apply ė;intro i;rw[Ê,į];cases us[i]?<;>rfl
 have held:=λk g (Q:(gi us)[k]?=À g)=>Xk J M O nd rk z2 ⋯ ⋯ ∎ ∎ ⋯ ⋯ ∎ ε Q
 rw[<- ep,es];generalize eQ rs us S=X at α;clear ep hT kept mM hg eX ex es;show gC (λj=>j=[.ag `aM ↥B,.int c,.ag .f ↥us,.ag .f ↥rs,.aL [bV .f X,ae.t<|cT us I,ae.t b],bV .f X,.ag .f ↥C,.aL [bV .f X,ae.t<|cT us I,ae.t<|iQ (rs++C) us ss mk<|↑us+4],.ar,.ar,.ar]) (λN G=>?_) ?_
 .rfl';show#[.f,.f,_,_,1,rfl,rfl,∎,rfl,λp mp=>?_,?_]
  .obtain⟨q',mq,rfl⟩:=ß.mp mp;show#[ae.t q'.2,?_,?_,rfl]
   .rw[z8,IS (by rw[α];show nd) q' mq];rfl
   .show XQ _
  .dsimp only;rw[show (!true)=É from rfl,IW,ao6 ∎,show rR [bV .f X]=rR [.aP .f<|X.map λp=>((ñ p.1:aW),ae.t p.2)] from rfl,zB,show ((X.map λp=>((ñ p.1:aW),ae.t p.2)).map λp=>lF p.1)=↥us by rw[<- α,þ,þ];rfl];show .inr #[Â,IP<|Hh us,by change d8 ↥us+1<=60;rw[FZ];decide,Nat.succ_le_succ<|Ĝ _,?_];have dY:=Hi<|cT us I;show .inr #[Â,IP<|IQ _,by change d8 ((cT us I).map ae.t)+1<=60;omega,Nat.succ_le_succ<|Ĝ _,G _ rfl]
 rintro _ rfl;have hl:(cT us I).length=↑us+4:=by
  have:=ap2 İ M;unfold eN at this;rw[Å,Ò,Å,Å] at this;simp at this;unfold cT;rw[Đ,Å,List.length_tail,vW];omega
 rfl';change sk _ [Tr.ag .f<|(cT us I).map ae.t] _;rfl';rw[hl];show#[⋯,⋯,Loop.map (Ç<|↑us+4) (λi:Nat=>Tr.int i) (λ_ j=>∃x y z:Tr,j=[.ag `aM ↥B,.int c,.ag .f ↥us,.ag .f ↥rs,.aL [bV .f X,ae.t<|cT us I,ae.t b],bV .f X,.ag .f ↥C,.aL [bV .f X,ae.t<|cT us I,ae.t<|iQ (rs++C) us ss mk<|↑us+4],x,y,z]) #[_,_,_,rfl] ?_ ?_]
 .rintro i k j hi ⟨x0,y0,z0,rfl⟩;let#[kl,_]:=oS hi;obtain⟨p,hp⟩:∃p,(cT us I)[k]?=À p:=#[_,Ì ⋯];∎;let#[hg,hv]:=Ļ.mp hp;let#[H1,H2,H3,H4]:=held k p.1 hg;∎;have ev:(I.map cz).getD (k+1) 0=p.2:=by
   rw[Ê,Ε] at hv;rw[Ã,Ê,hv];rfl
  rw[ev] at H4;have ha:(iQ (rs++C) us ss mk<|↑us+4)[k]?=À (pap (rs++C) us ss mk k):=by
   unfold iQ;rw[Ê,ê ⋯];rfl
  let#[g,v]:=p;have ec:adc ((cT us I).map ae.t) È (À (k:Int))=((cT us I).take k).map ae.t:=by
   unfold adc HT.dM;dsimp only;rw[ao6 ⋯,Ň,Å,Nat.min_eq_left ⋯,List.drop_zero,ag2,Nat.sub_zero]
  rfl';rw[f6,gQ,gO];show dE _ _ _ (eH hp) #[i2 _,?_];rw[ia];show#[rfl,⋯,?_];rw[wt,ec];simp only[pw];rfl';rw[f6,gQ,gO];show dE _ _ _ (eH ha) ?_;rw[show cA (bf<|↥rs++↥C)=(rs++C).map ae.t by rw[<- Û,lM,pq],ia,kr];show#[rfl,.f,.f,.f,.f,.f,rs++C,us,(cT us I).take k,g,_,_,inferInstance,inferInstance,inferInstance,inferInstance,inferInstance,rfl,H1,H2,H3,λ_=>?_];rw[H4];show tm ?_;rw[ao7 rfl,ao9 rfl];show#[_,_,_,rfl]
 .rintro j ⟨x0,y0,z0,rfl⟩;rfl';show q _
def YJ:aJ P w K mg base bI 60 T.mX.a T.mX.d ["_law_script"] (xG K):=(Xm T).imp YH
end
def walk{l:aj8}{q:ð}{b:ah}{u:(bw)->aV->Prop}{p:ă->aV->Prop}{d:DefRec}{K:Params->aq}(hn:l.most=À 63)(i:d.params.defaults=[])(o:d.name="law")(A:∀(w:ă)(h:aV),p w h->(K w.params).In h)(F:∀(w:ă)(mg:bw)(h:aV),(K w.params).In h->h.Ns Ř mg->Nonempty (Tx w `dh mg)):
  W.WalkO q b u p l.row.toRowW d [] (λf vs=>PySem.call f vs):=by
 show L2.mR (n:=63) (k:=60) (x:="_law_script") (CX:=λ_=>bI) (sp:=λw=>xG<|K w.params) hn ∎ i #[rfl,∎,∎] A ?_ (λ_ _ a ns C _ y=>#[a,ns,rfl,y,C,λ_=>rfl]) λ_ _ _ _ _ z=>z
 intro w mg D h r G g;let#[T]:=F w mg h r G;rw[o] at g;have e:=g.symm.trans T.mX.m;cases e;show#[T.mX.d,λs v=>?_,λbase _ _=>YJ T];let#[oc,od,kV,doc,pm,an,bH,ct,osl,j,E,B]:=T.mX.F.ex;rw[j];show .of_eq rfl
end Sf
local macro_rules|`(command|#where)=>return Lean.mkNullNode (←(("heap_39 view_39 sts_547 sts_282 sts_472 sts_202 tree_614 tree_546 heap_615 sts_160 tree_390 sts_109 tree_468 tree_281 tree_201 tree_159 tree_108 tree_93 sts_49 tree_78 sts_79 tree_63 sts_94 sts_64 heap_46 tree_47 env_41".splitOn " ")++("1213211121111111121111211111112111121111111211112111111121111211211111111111211111211111211111211111221111121111121111121111121111121112111211211121112111112111112111112111112111211111211111211111111111121112112111211111211111211111211121111121112111211111211111211111211121111121112111111111112111211211121111121111121111121112111112111211121111121111121111142211111211121112111121111121112111112111112111211121111121111122111112111211111211111211111211111211111211111211111211".toList.foldl (λ(n,l) c=>(n+c.toNat-48,s!"o_{n+c.toNat-48}"::l)) (42,[])).2).toArray.mapM λk=>do return (←`(command|theorem $(Lean.mkIdent (`_root_.PySem.W.Fast++.mkSimple s!"tw{(`PySem.Challenge.cw_springframe_k44_whole_musts_that_are_kep_holds++.mkSimple k).hash}")):ident:True:=trivial)).raw)
#where
theorem _root_.PySem.W.Fast.tw14793751316914490568:True:=trivial
theorem _root_.PySem.W.Fast.tw1354954860493171238:True:=trivial
open PySem PySem.W PyProof.Rows
local macro_rules |`(tactic|walk_at "b")=>`(tactic|first |show λ_ _ _ _ _ _=>Pu.GO λ_=>rfl |show λ_ _ _ _ _ _=>Pu.ln2 λ_ _=>rfl |show λ_ _ _ _ _ _=>Pu.GP λ_ _ _=>rfl |show λ_ _ _ _ _ _=>Pu.GQ λ_ _ _ _=>rfl |show λ_ _ _ _ _ _=>Pu.OC λ_ _ _ _ _=>rfl)
set_option maxRecDepth 100000 in
set_option maxHeartbeats 0 in
theorem PySem.Challenge.cw_springframe_k44_whole_musts_that_are_kep_holds : PySem.Challenge.rw_springframe_k44_whole_musts_that_are_kep.Holds := by
 w_on;o_law;k_head;(case hw=>w_witness2)
 k_fill
 show Sf.walk (l:=PySem.Challenge.rw_springframe_k44_whole_musts_that_are_kep) rfl rfl rfl (λw h Y=>PySem.W.kIn_of Y) ?F
 case F=>
  intro w mg h KX G;show#[?_];apply Sf.Tx.mk
  all_goals first |show Pu.L6 KX G (by k_is) (L2.mI (by k_is) (by k_is)<|by k_is) (by walk_at "b") |show Pu.L8 (by k_is) (L2.mI (by k_is) (by k_is)<|by k_is) (by k_is) (by walk_at "b") |show Pu.L7 (by k_is) (L2.mI (by k_is) (by k_is)<|by k_is) (by k_is) (by k_is) (by k_is) (by walk_at "b") |show mg_of KX G (by k_is) |show mg_none_of KX G (by k_is) |show Pu.AK (by k_is) |show L2.g6.mk (by k_is) (by k_is) (by k_is) (by k_is) |show Pu.yE (by k_is) (L2.mI (by k_is) (by k_is)<|by k_is) (by k_is) (by rfl) (by rfl) (by rfl) (by rfl) (by k_exc) (by k_is) (by rfl) (by rfl) (by k_is) (by k_is) (by rfl) (by rfl) (by k_is) (by k_is) (by k_is) (by k_is) (by k_is) (by k_is) (by walk_at "b") |show#[_,_,_,by k_is,rfl,rfl,ZS rfl,by repeat first |show .nil |show .cons #[_,rfl] ?_] |k_is |kit_is |k_exc |kts_exm
#print axioms PySem.Challenge.cw_springframe_k44_whole_musts_that_are_kep_holds
