import PyProof.Rows.All
import Wide.All
import OpenK.AllK
import Wide.FinOn
import Lean
import PySem.Challenge.RW_roadcall_k37_words_counted
import PyProof.EqAt
import PyProof.EqKinds
import PyProof.TupleCall
import PyProof.NeKinds
import PyProof.EnumMake
import PyProof.EnumFor
import PyProof.ZipIter
import PyProof.Rows.ZipGen
import KE.KLam
import PyProof.DictItems
import KE.KTurnsDict
import KE.KPairComp
import KE.KDictList
import KE.KRevSl
open PySem renaming wpAny_bind->ag,Addr->al,Value->am,Shared->ar,wpAny_pure->bi,Str->br,Expr->db,Program->en,Heap->hX,World->ii,Obj->i8,FuncData->ln,Around->l5,wpAny_mono->l6,Builtin->mf,boot_len->nw,Stmt->r9,wpAny_setField_rec->sB,mem_of_lookup->sK,wpAny_newObj_type->tw,wpAny_callSpecial?_slot->tz,Scope->ul,wpAny_call_entry->ut,Pos->u4,SetTable->u7,wpAny_field->xp,Spec->AL,wpAny_truthy_bool->BY,seg_bind_wrap->B0,wpAny_Call_Name_kw->Cc,codeAny_builtin->Cf,wpAny_holding->EO,wpAny_standAt->EQ,Paired->FM,wpAny_attempt->GE,wpAny_seqItems->IS,IsPair->KB,Env->Lo,wpAny_rule->LS,plainId_quiet->Mc,wpAny_comprehension_free->No,wpAny_typeNameOfWhole_itemiter->NG,wpAny_dictEntries->NL,wpAny_typeNameOfWhole_keyiter->NO,wpAny_fieldsOf->Op,Arguments->OK,TriplesOk->ON,wpAny_passesOwn->OR,Keyword->Ps,NameKind->P3,wpAny_askSetting->RI,wpAny_isInstance->Sk,wpAny_setEntries_of->SB,DictEntry->SZ,wpAny_pyIter_tuple->Tk,tupleKind_room_in1->TW,wpAny_dictEpoch->T0,GenState->US,wpAny_setState_of->WF,Sem->W1,CmpOp->XV,sizeLine_eq->X7,IsZip->Ya,codeAny_mono->Yc,isSubtype_stop->Yf,wpAny_pyIter_list->Yl,wpAny_pyIter_slot->Yn,wpAny_letGo->Yr,wpAny_of_eq->Yt,IsEnum->Yv,wpAny_isOneOf_itemiter->Yw,wpAny_execs_nil->YJ,codeAny_of_tree->YN,wpAny_newFunctionEnv->YO,wpAny_updateSeq_pair->YS,call_meetsIn->YT,IsItemIter->YV,Tok->Y1,ElemsOf->Za,isSubtype_type->Zb,wpAny_runValue->Zc,wpAny_newTuple->Zd,Result->Zh,wpAny_onRaise->Zo,wpAny_assign_Name->Zs,fits_of_scanBound->Zu,PlainAttrs->Zy,call_meets->Zz,BindsTo->ZB,wpAny_typeOf->ZG,PassesOwn->ZM,Walks->ZN,seg_again->ZO,wpAny_loadPart'->ZS,pushCells_keeps->ZT,call->Z0,Operator->Z1,wpAny_load->Z2,ZipApart->Z8,Params->Z9,IsEnumOut->aab,IsRange->aac
open List renaming getElem?_eq_getElem->ap,getElem?_map->bv,length_map->ca,getElem?_eq_some_iff->ce,mem_of_getElem?->cr,mem_cons_of_mem->c8,getD_eq_getElem?_getD->dL,size_toArray->f8,mem_cons_self->gc,mem_cons->im,range->io,mem_singleton->jp,mem_map->kt,map_cons->lw,mem_append_right->l3,map_map->ma,replicate->mo,mem_range->rb,getElem?_zip_eq_some->ss,map_append->u8,mem_iff_getElem?->wv,Nodup->wS,getElem_mem->wT,all_eq_true->xw,length_cons->xy,length_append->xz,not_mem_nil->zd,mem_append->zw,mem_append_left->AN,getElem?_append_left->AS,drop_eq_getElem_cons->AT,length_zip->BS,zip_cons_cons->Ch,lookup_cons->CS,take_length->Db,replicate_succ->DD,map_congr_left->DO,length_range->EM,getElem?_append_right->Go,foldl_append->GG,nodup_cons->GM,of_mem_zip->GS,nil_append->GT,getElem?_eq_none->IF,take_succ->JJ,getElem?_cons_succ->KF,append_nil->Lu,filterMap_cons->LF,getElem?_range->LG,pairwise_cons->Nd,mem_filter->Nl,length_nil->NE,append_assoc->NH,nodup_append->NJ,getElem?_replicate->On,nodup_nil->Os,drop_length->OE,getElem?_set_self->OF,flatten_cons->Pe,getElem?_set->Pi,map_nil->Rs,filter_cons->Sm,foldl_cons->TD,find?_cons->TM,set_cons_zero->Uf,set_cons_succ->UF,eq_nil_of_length_eq_zero->WE,length_replicate->WJ,length_set->X9,mem_or_eq_of_mem_set->Yb,Perm->Ye,getElem?_cons_zero->Yj,ext_getElem?->Yo,pairwise_lt_range->Ys,Pairwise->Yx,sum_cons->YA,ext_getElem->YD,forIn_cons->YM,pairwise_append->YR,getElem?_append->YU,map_set->YY,map_const'->YZ,mem_of_mem_take->Y0,mem_map_of_mem->Y3,mem_filterMap->Zg,getElem?_drop->Zi,length_take->ZD,length_drop->ZE,cons_append->ZI,range_succ->ZV,sum_append->ZW,foldl->Z4
open PySem.Heap renaming get?_push_of_some->ba,get?_push_size->ci,lt_size->ff,SameBut->rf,size_push->wE,get?_update_other->Cn,get?_update_self->ID,ExtBut->Yu
open PySem.W renaming Frag->bn,mg_none_of->mv,nsIn->mT,CodeHd->wb,fnOf->AC,hideAll->BN,keepIn->ES,kia_one->EU,codeIn->Mn,kla_obj->Pd,tabObj->PM,envX->So,mg_of->SS,hideAll_get->X8,looseW->Y4,kitOne->Y7,of_hideAll->Zf,kb_classed->Zk,recOk->Zl,excIn->Zn,methodObj->Zq,xlAt->ZC,opening->ZJ,instObj->ZL,OpenLaw->ZU
open Nat renaming le_refl->cb,ne_of_lt->i4,lt_of_lt_of_le->lc,le_trans->sw,zero_le->wp,lt_succ_of_lt->AE,lt_of_le_of_lt->BB,le_succ->Co,lt_succ_self->Da,min_self->ET,lt_irrefl->FS,ne_of_gt->Gc,lt_or_ge->LM,le_of_lt->OL,le_add_right->X4,pow_le_pow_right->X5,lt_trans->Yd,le_of_not_lt->YB,not_lt_zero->YQ,zero_add->YW,not_lt->Z5,mod_lt->Z7
open Option.some renaming inj->gl,injEq->Ll
open Bool renaming false_ne_true->ij,false_eq_true->l8,and_eq_true->Me,eq_iff_iff->Pc,false_and->WI,not_true->Yy,true_and->Yz,and_false->Y8,or_eq_true->ZQ
open Option renaming map_eq_some_iff->i0,map_some->Fa,some->Wp,isSome_some->Zj,isSome_map->Zx,getD_none->ZF,join_some->ZH
open Int renaming toNat_natCast->kw,eq_ofNat_of_zero_le->At,zero_add->IN,le_refl->WA,emod_nonneg->YX
open Or renaming inl->li,inr->Ix
open PySem.SeqAt renaming RcNeAt->lp,EqAt->l4,RcAt->l9
open PySem.Value renaming ref->l7,none->AM,type->LP,isInt_shape->Yk,str->YE,bool->YI,int->Ze
open PySem.NameKind renaming free->qr,cell->SO
open Sum renaming inl->uu,inr->Y5
open PySem.PassesOwn renaming never->v6
open PySem.Str renaming ofString->wn
open Array renaming length_toList->ww,getElem?_eq_getElem->xL,getElem?_toList->MW,getElem?_eq_none->UV,toList_append->Y2,getD->Z6
open PySem.SetTable renaming below->wP,grown->PP
open PyProof.Rows renaming callWith_type1->xb,IntsAre->WP,BMod->Y9,AllBare->ZZ,boot_range->Z3
open PySem.Around renaming under_plainId->ze
open Ne renaming symm->zn
open PySem.F renaming slot_dict_itemiterator_next->Do,slot_dict_keyiterator_next->EN,slot_dict_get->Na,plain_list_iadd->Pf,called_set->RS,plainAttrs_list->SI,entry_dict_get->VT,plainAttrs_dict->Yi,plain_all_loop->YC,entry_proto_collect->YG,plain_proto_collect->YH,entry_list_iadd->Zw
open PySem.Calls renaming spliced_cons->Fk,spliced_nil->KM,callWith_builtin->Yq,evalArgs_plain->YK
open False renaming elim->FF
open True renaming intro->IR
open PySem.Builtin.Dict_items renaming ownsTuple->IT
open PySem.Builtin.List renaming listExtendWith->LB,listTooLong->Re
open PySem.Heap.SameBut renaming update->LH
open PySem.Obj renaming data_mapFields->OP,mapSeq->Tl,isFreed_of_fields->YF,cls_mapFields->Zv,putSet->ZA
open PySem.W.Fast renaming tw821141287760084731->Po
open PySem.Paired renaming length->SL
open PySem.Builtin.Dict renaming showsAll->WS
open PySem.Shared renaming TypeIs->X6
open PyProof.Rows.F renaming plain_set_update_loop->Yg
open PySem.Builtin.Str renaming occurrences->Yh
open PySem.SetTable.below renaming go->Ym
open ForInStep renaming yield->YL
open PySem.Builtin renaming bitAnd->Y6,bitOr->Zm
open Function renaming comp->Zp
open PySem.SetTable.probe renaming go->Zt
open PySem.Txt renaming slice->ZP
open PySem.SeqAt.EqAt renaming same->ZR
open Sum.inl renaming inj->ZY
open And renaming intro->aaa
set_option linter.all false
set_option Elab.async false
set_option maxRecDepth 100000
namespace My
open PySem PyProof.Rows
def kA (s:r9):OK:=match s with
 | .FunctionDef _ a _ _ _ _ _ _ _ _=>a
 |_=>{posonlyargs:=[],args:=[],vararg:=none,kwonlyargs:=[],kw_defaults:=[],kwarg:=none,defaults:=[]}
def kB (s:r9):List r9:=match s with
 | .FunctionDef _ _ b _ _ _ _ _ _ _=>b
 |_=>[]
def kS (s:r9):ul:=match s with
 | .FunctionDef _ _ _ _ _ _ sc _ _ _=>sc
 |_=>{kind:=.function,names:=[],isGenerator:=false,isCoroutine:=false}
def vS (x:String) (t:Nat):am:=.str (wn x) t
def kE (P:Z9) (x:String) (t:Nat) (v:am):SZ:=⟨PyData.keyHash P (wn x),vS x t,v⟩
def kF (i:Nat) (x:String) (d m:am) (c:Nat):i8:=let st:=PySem.Challenge.pw_roadcall_k37_words_counted.main.body.getD i (.Pass ⟨0,0,0,0⟩);⟨.type "function",none,.func (AC (wn x) (wn x) (kA st) (kB st) (kS st) d .none .none m none (.ref c) .none),#[]⟩
def kC (x:String) (t:Nat) (l n f:Int) (a:Nat) (b:Bool) (m:Int) (p:Nat) (u z:am) (q:Nat) (e:Int) (t2:Nat):i8:=⟨.type "code",none,.fields #[vS x t,vS x (t+1),vS "/claim/cut.py" (t+2),.int l 0,.int n 0,.int 0 0,.int 0 0,.int f 0,.ref a,.bool b,.int m 0,.ref p,.none,u,z,.ref q,.int e 0,.int l 0,vS "/claim/cut.py" t2],#[]⟩
def kK (P:Z9):bn:=[(2,⟨.none,none,.dict [].toArray 0,#[]⟩),
 (3,⟨.type "dict",none,.dict [kE P "__name__" 165 (vS "law_roadcall_k37_words_counted" 356),kE P "__doc__" 166 .none,kE P "__package__" 167 .none,kE P "__loader__" 168 (.builtin "__main__.__loader__#opaque"),kE P "__spec__" 169 .none,kE P "__annotations__" 170 (.ref 6),kE P "__builtins__" 171 (.ref 4),kE P "__file__" 173 (vS "/claim/cut.py" 172),kE P "__cached__" 174 .none,kE P "RoadError" 206 (.ref 24),kE P "NoNet" 222 (.ref 37),kE P "is_whole" 231 (.ref 46),kE P "is_whole_below" 239 (.ref 53),kE P "SIGNS" 243 (vS "abc" 242),kE P "MOST_PLACES" 245 (.int 9 244),kE P "is_row" 255 (.ref 60),kE P "is_net" 264 (.ref 67),kE P "need_net" 271 (.ref 74),kE P "all_places" 278 (.ref 81),kE P "MOST_SETS" 282 (.int 511 281),kE P "first_met" 297 (.ref 89),kE P "sign_image" 305 (.ref 94),kE P "images_met" 314 (.ref 101),kE P "sets_met" 323 (.ref 108),kE P "goals_of_sets" 329 (.ref 113),kE P "one_sign_on" 341 (.ref 120),kE P "counted" 355 (.ref 127),kE P "_law_bag" 368 (.ref 134),kE P "_law_take" 379 (.ref 141),kE P "_law_order" 385 (.ref 146),kE P "_law_net" 391 (.ref 151),kE P "_law_like" 397 (.ref 156),kE P "_law_set_led" 403 (.ref 161),kE P "_law_led_by" 413 (.ref 168),kE P "_law_bits_led" 424 (.ref 175),kE P "_law_by_bits" 430 (.ref 180),kE P "_law_by_words" 436 (.ref 185),kE P "law" 447 (.ref 192)].toArray 38,#[]⟩),
 (23,⟨.type "dict",none,.dict [kE P "__module__" 196 (vS "roadcall.errors" 187),kE P "__firstlineno__" 200 (.int 2 199),kE P "__static_attributes__" 201 (.ref 22),kE P "__weakref__" 203 (.ref 25),kE P "__doc__" 204 .none].toArray 3,#[]⟩),
 (24,⟨.type "type",none,.cls {name:=wn "RoadError",bases:=[.type "ValueError"],mro:=[.ref 24,.type "ValueError",.type "Exception",.type "BaseException",.type "object"],ns:=23,qualname:=wn "RoadError",subclasses:=[.ref 37]},#[some (.ref 15),none,some (vS "RoadError" 189),some (vS "RoadError" 197),some (.builtin "ValueError.__new__"),some (.bool true)]⟩),
 (36,⟨.type "dict",none,.dict [kE P "__module__" 214 (vS "roadcall.errors" 187),kE P "__firstlineno__" 218 (.int 4 217),kE P "__static_attributes__" 219 (.ref 35),kE P "__doc__" 220 .none].toArray 2,#[]⟩),
 (37,⟨.type "type",none,.cls {name:=wn "NoNet",bases:=[.ref 24],mro:=[.ref 37,.ref 24,.type "ValueError",.type "Exception",.type "BaseException",.type "object"],ns:=36,qualname:=wn "NoNet",subclasses:=[]},#[some (.ref 28),none,some (vS "NoNet" 207),some (vS "NoNet" 215),some (.builtin "ValueError.__new__"),some (.bool true)]⟩),
 (45,kC "is_whole" 225 7 1 3 40 true 181 41 (.ref 42) (.ref 43) 44 229 230),
 (46,kF 4 "is_whole" .none (vS "roadcall.whole" 223) 45),
 (52,kC "is_whole_below" 232 9 2 3 47 true 181 48 (.ref 49) (.ref 50) 51 237 238),
 (53,kF 5 "is_whole_below" .none (vS "roadcall.whole" 223) 52),
 (59,kC "is_row" 246 14 3 3 54 true 181 55 (.ref 56) (.ref 57) 58 253 254),
 (60,kF 9 "is_row" .none (vS "roadcall.nets" 240) 59),
 (66,kC "is_net" 256 18 1 3 61 true 181 62 (.ref 63) (.ref 64) 65 262 263),
 (67,kF 10 "is_net" .none (vS "roadcall.nets" 240) 66),
 (73,kC "need_net" 265 26 1 3 68 true 181 69 (.ref 70) (.ref 71) 72 269 270),
 (74,kF 11 "need_net" .none (vS "roadcall.nets" 240) 73),
 (80,kC "all_places" 272 29 1 3 75 true 181 76 (.ref 77) (.ref 78) 79 276 277),
 (81,kF 12 "all_places" .none (vS "roadcall.nets" 240) 80),
 (82,⟨.type "tuple",none,.seq #[.int 511 281] 0,#[]⟩),
 (88,kC "first_met" 283 33 4 3 83 true 181 84 (.ref 85) (.ref 86) 87 295 296),
 (89,kF 15 "first_met" (.ref 82) (vS "roadcall.ways" 279) 88),
 (93,kC "sign_image" 300 45 3 3 90 true 181 91 .none .none 92 303 304),
 (94,kF 17 "sign_image" .none (vS "roadcall.words" 298) 93),
 (100,kC "images_met" 306 47 2 3 95 true 181 96 (.ref 97) (.ref 98) 99 312 313),
 (101,kF 18 "images_met" .none (vS "roadcall.words" 298) 100),
 (107,kC "sets_met" 317 50 1 3 102 true 181 103 (.ref 104) (.ref 105) 106 321 322),
 (108,kF 20 "sets_met" .none (vS "roadcall.callers" 315) 107),
 (112,kC "goals_of_sets" 324 53 1 3 109 true 181 110 .none .none 111 327 328),
 (113,kF 21 "goals_of_sets" .none (vS "roadcall.callers" 315) 112),
 (119,kC "one_sign_on" 330 55 2 3 114 true 181 115 (.ref 116) (.ref 117) 118 339 340),
 (120,kF 22 "one_sign_on" .none (vS "roadcall.callers" 315) 119),
 (126,kC "counted" 342 61 2 3 121 true 181 122 (.ref 123) (.ref 124) 125 353 354),
 (127,kF 23 "counted" .none (vS "roadcall.callers" 315) 126),
 (133,kC "_law_bag" 358 71 2 3 128 true 181 129 (.ref 130) (.ref 131) 132 366 367),
 (134,kF 25 "_law_bag" .none (vS "law_roadcall_k37_words_counted" 356) 133),
 (140,kC "_law_take" 369 81 2 3 135 true 181 136 (.ref 137) (.ref 138) 139 377 378),
 (141,kF 26 "_law_take" .none (vS "law_roadcall_k37_words_counted" 356) 140),
 (145,kC "_law_order" 380 93 2 3 142 true 181 143 .none .none 144 383 384),
 (146,kF 27 "_law_order" .none (vS "law_roadcall_k37_words_counted" 356) 145),
 (150,kC "_law_net" 386 96 2 3 147 true 181 148 .none .none 149 389 390),
 (151,kF 28 "_law_net" .none (vS "law_roadcall_k37_words_counted" 356) 150),
 (155,kC "_law_like" 392 119 2 3 152 true 181 153 .none .none 154 395 396),
 (156,kF 29 "_law_like" .none (vS "law_roadcall_k37_words_counted" 356) 155),
 (160,kC "_law_set_led" 398 129 3 3 157 true 181 158 .none .none 159 401 402),
 (161,kF 30 "_law_set_led" .none (vS "law_roadcall_k37_words_counted" 356) 160),
 (167,kC "_law_led_by" 404 131 3 3 162 true 181 163 (.ref 164) (.ref 165) 166 411 412),
 (168,kF 31 "_law_led_by" .none (vS "law_roadcall_k37_words_counted" 356) 167),
 (174,kC "_law_bits_led" 414 135 3 3 169 true 181 170 (.ref 171) (.ref 172) 173 422 423),
 (175,kF 32 "_law_bits_led" .none (vS "law_roadcall_k37_words_counted" 356) 174),
 (179,kC "_law_by_bits" 425 141 2 3 176 true 181 177 .none .none 178 428 429),
 (180,kF 33 "_law_by_bits" .none (vS "law_roadcall_k37_words_counted" 356) 179),
 (184,kC "_law_by_words" 431 157 2 3 181 true 181 182 .none .none 183 434 435),
 (185,kF 34 "_law_by_words" .none (vS "law_roadcall_k37_words_counted" 356) 184),
 (191,kC "law" 437 169 1 3 186 true 181 187 (.ref 188) (.ref 189) 190 445 446),
 (192,kF 35 "law" .none (vS "law_roadcall_k37_words_counted" 356) 191)]
def U4:List al:=[2,3,23,24,36,37,45,46,52,53,59,60,66,67,73,74,80,81,82,88,89,93,94,100,101,107,108,112,113,119,120,126,127,133,134,140,141,145,146,150,151,155,156,160,161,167,168,174,175,179,180,184,185,191,192]
def kq:en:=PySem.W.view PySem.Challenge.pw_roadcall_k37_words_counted [1,2,4,5,7,8,9,10,11,12,14,17,18,20,21,22,23,25,26,27,28,29,30,31,32,33,34,35]
def kL:List br:=[wn "first_met"]
def kH:PySem.W.Hook:=PySem.W.kHook kK U4 fun _=>by kernel_rfl
theorem JP {r:PySem.W.OpenRow}{q:en}{loose:List br}{H:PySem.W.Hook}{d:DefRec}{Lv:List (br×db)}{N:Nat}(left:PySem.W.LeftO r.prog q loose (fun s=>ZC q [] s && Zl r.records s) H.obs H.val N)
  (wM:PySem.W.defOf q r.name=some (d,Lv)) (hp:r.prog.theDef r.name=some (d.params,d.body,d.scope)) (hk:PySem.W.kwWritten? d.params.kwonlyargs d.params.kw_defaults=some Lv) (U5:(!r.writes || r.records.isEmpty)=true) (k1:r.wellSaid=true)
  (ok:(PySem.W.chainsOk q && PySem.W.opensWell r.prog && (PySem.W.frees r.toRowW && r.within.isEmpty))=true) (hb:r.prog.bare) (hw:r.toRowW.promised) (call:PySem.W.WalkO q loose (PySem.W.XL q []) H.says r.toRowW d Lv fun f vs=>Z0 f vs):r.Holds:=
 PySem.W.holds_open left H.of H.keeps (fun s e=>PySem.W.xl_of s (Bool.and_eq_true_iff.mp e).1) PySem.W.XL.keeps wM hp hk (fun s e=>PySem.W.recFacts_of (Bool.and_eq_true_iff.mp e).2) U5 k1 ok hb hw call
noncomputable def oeQ (p:en) (w:ii) (N:Nat):Option ar:=((PySem.W.Fast.tw10274390034422433532 PySem.W.Fast.tw14364793385576792824 (ZJ p) w N (PySem.W.Fast.tw1435165496053646825 (ZJ p)).1 (PySem.W.Fast.tw1435165496053646825 (ZJ p)).2).bind (PySem.W.Fast.tw14289696077712309145 p)).bind fun s₀=>match s₀.heap.isNs PySem.mainGlobals && s₀.gens.size==0 with
 |true=>(PySem.W.Fast.tw14082659384304107361 PySem.W.Fast.tw14364793385576792824 p w s₀.heap.objs.size (s₀.heap.nsMap PySem.mainGlobals "__annotations__") N s₀ (PySem.W.topStub p)).bind fun aC=>match PySem.W.staticsOk (importedModules p.main.body) s₀.heap aC.heap && PySem.W.namesBound p aC.heap && PySem.W.gensDone aC && PySem.W.laidKept s₀.heap aC.heap with
   |true=>some aC
   |false=>none
 |false=>none
theorem Qq (p:en) (w:ii) (N:Nat):PySem.W.openEnds treeTable p w N=oeQ p w N :=by
 unfold oeQ;rw[<- PySem.W.Fast.te10274390034422433532,<- PySem.W.Fast.te14364793385576792824,<- PySem.W.Fast.te1435165496053646825,<- PySem.W.Fast.te14289696077712309145,<- PySem.W.Fast.te14082659384304107361];rfl
noncomputable def nsQ (q:en):List br:=(PySem.W.Fast.tw3399658132070893891 q).map (·.name)
theorem Im (q:en):(recsOf q).map (·.name)=nsQ q :=by unfold nsQ;rw[<- PySem.W.Fast.te3399658132070893891]
noncomputable def c1Q (s:ar):=PySem.W.Fast.tw5160383126252970620 (nsQ kq) (PySem.W.Fast.tw5991557255702980513 kq) [] {s with gens:=#[]}
theorem Qr (s:ar):seen ((recsOf kq).map (·.name)) (ownsOf kq) [] {s with gens:=#[]}=c1Q s :=by unfold c1Q;rw[Im,<- PySem.W.Fast.te5160383126252970620,<- PySem.W.Fast.te5991557255702980513]
def c2 (s:ar):=(s.heap.bltView,s.heap.keysOk (Y4 kq kL) ((recsOf kq).map (·.name)) ((litsOf kq).map (·.1)) ((clssOf kq (Y4 kq kL)).map (·.name)) && s.heap.accountedOkI (importedModules PySem.Challenge.pw_roadcall_k37_words_counted.main.body) && s.heap.isNs mainGlobals && s.heap.isNs builtinsNs && tablesOk kq s.heap && (ZC kq [] s && Zl [] s) && (s.gens.size==0))
noncomputable def c2Q (s:ar):=(s.heap.bltView,PySem.W.Fast.tw10880121769531294198 s.heap (Po kq kL) (nsQ kq) ((PySem.W.Fast.tw7409074990110511671 kq).map (·.1)) ((PySem.W.Fast.tw13664370479719496447 kq (Po kq kL)).map (·.name)) && PySem.W.Fast.tw14722251495701143533 s.heap (importedModules PySem.Challenge.pw_roadcall_k37_words_counted.main.body) && s.heap.isNs mainGlobals && s.heap.isNs builtinsNs && PySem.W.Fast.tw10994771534591457954 kq s.heap && (ZC kq [] s && Zl [] s) && (s.gens.size==0))
theorem Qs (s:ar):c2 s=c2Q s :=by unfold c2 c2Q;rw[Im,<- PySem.W.Fast.te10880121769531294198,<- PySem.W.Fast.te821141287760084731,<- PySem.W.Fast.te7409074990110511671,<- PySem.W.Fast.te13664370479719496447,<- PySem.W.Fast.te14722251495701143533,<- PySem.W.Fast.te10994771534591457954]
def c3 (s:ar):=tabsOk kq s
def c5 (s:ar):=plainSeenE kq (Y4 kq kL) s
def c4 (s:ar):=(PySem.pinSeenD kq (drecsOf kq) s,plainSeenD kq kL s,PySem.W.wideSeen kq s,PySem.W.clsSeenW kq kL s)
noncomputable def c3Q (s:ar):=PySem.W.Fast.tw479339242167458305 kq s
noncomputable def c5Q (s:ar):=PySem.W.Fast.tw2386780881361962483 kq (Po kq kL) s
noncomputable def c4Q (s:ar):=(PySem.W.Fast.tw16090120013241838585 kq (PySem.W.Fast.tw3247288618530077131 kq) s,PySem.W.Fast.tw11698064438423848299 kq kL s,PySem.W.Fast.tw7317090234206586261 kq s,PySem.W.Fast.tw7369524293546568484 kq kL s)
theorem Qt (s:ar):c3 s=c3Q s :=by unfold c3 c3Q;rw[<- PySem.W.Fast.te479339242167458305]
theorem Qu (s:ar):c5 s=c5Q s :=by unfold c5 c5Q;rw[<- PySem.W.Fast.te2386780881361962483,<- PySem.W.Fast.te821141287760084731]
theorem Qv (s:ar):c4 s=c4Q s :=by unfold c4 c4Q;rw[<- PySem.W.Fast.te16090120013241838585,<- PySem.W.Fast.te3247288618530077131,<- PySem.W.Fast.te11698064438423848299,<- PySem.W.Fast.te7317090234206586261,<- PySem.W.Fast.te7369524293546568484]
set_option maxHeartbeats 0 in
theorem left0 (w:ii):(oeQ PySem.Challenge.pw_roadcall_k37_words_counted w 2548).map (fun s=>kH.obs s)=some (kH.val w) :=by kernel_rfl
set_option maxHeartbeats 0 in
theorem left1 (w:ii):(oeQ PySem.Challenge.pw_roadcall_k37_words_counted w 2548).map c1Q=some (expectedOf kq) :=by kernel_rfl
set_option maxHeartbeats 0 in
theorem left2 (w:ii):(oeQ PySem.Challenge.pw_roadcall_k37_words_counted w 2548).map c2Q=some (bltViewBooted,true) :=by kernel_rfl
set_option maxHeartbeats 0 in
theorem left3 (w:ii):(oeQ PySem.Challenge.pw_roadcall_k37_words_counted w 2548).map c3Q=some true :=by kernel_rfl
set_option maxHeartbeats 0 in
theorem left5 (w:ii):(oeQ PySem.Challenge.pw_roadcall_k37_words_counted w 2548).map c5Q=some (plainGoodE kq (Y4 kq kL)) :=by kernel_rfl
set_option maxHeartbeats 0 in
theorem left4 (w:ii):(oeQ PySem.Challenge.pw_roadcall_k37_words_counted w 2548).map c4Q=some (PySem.pinGoodD (drecsOf kq),plainGoodD kq kL,PySem.W.wideGood kq,PySem.W.clsGoodW kq kL) :=by kernel_rfl
theorem left (w:ii):(PySem.W.openEnds treeTable PySem.Challenge.pw_roadcall_k37_words_counted w 2548).map (fun s=>(PySem.W.openSeen kq kL (importedModules PySem.Challenge.pw_roadcall_k37_words_counted.main.body) (fun s=>ZC kq [] s && Zl [] s) true s,kH.obs s))=some (PySem.W.openGood kq kL,kH.val w) :=by
 rw[Qq];have a0:=left0 w;have a1:=left1 w;have a2:=left2 w;have a3:=left3 w;have a4:=left4 w;have a5:=left5 w;revert a0 a1 a2 a3 a4 a5
 generalize oeQ PySem.Challenge.pw_roadcall_k37_words_counted w 2548=o
 cases o with
 |none=>intro a0;cases a0
 |some s=>
  intro a0 a1 a2 a3 a4 a5;have a0:kH.obs s=kH.val w:=gl a0;have a1:=gl a1;have a2:=gl a2;have a3:=gl a3;have a4:=gl a4;have a5:=gl a5;rw[<- Qr]at a1;rw[<- Qs]at a2;rw[<- Qt]at a3;rw[<- Qv]at a4;rw[<- Qu]at a5;show some ((seen ((recsOf kq).map (·.name)) (ownsOf kq) [] {s with gens:=#[]},(c2 s).1,(c2 s).2,c3 s,(c4 s).1,c5 s,(c4 s).2),kH.obs s)=_
  rw[a0,a1,a2,a3,a4,a5];rfl
end My
namespace L2
open PySem PySem.Spec PyProof.Rows
abbrev Key:=Sum Int br
def pH:Key->am->Bool
 | .inl k,v=>am.isInt k v
 | .inr x,v=>am.isStrOf x v
def Tx (w:ii):Key->Int
 | .inl k=>hashInt k
 | .inr x=>hashStr w x
theorem cJ:∀{k:Key}{v:am},pH k v=true->(∃i t,k=uu i/\v=Ze i t)\/(∃x t,k=Y5 x/\v=YE x t)
 | .inl i,v,h=>by
          obtain⟨t,e⟩:=Yk (k:=i) (v:=v) h;exact .inl ⟨i,t,rfl,e⟩
 | .inr x,v,h=>by
          obtain⟨t,e⟩:=am.isStrOf_shape (x:=x) (v:=v) h;exact .inr ⟨x,t,rfl,e⟩
theorem C2 (i:Int) (t:Y1):pH (.inl i) (.int i t)=true :=by simp[pH,am.isInt]
theorem C3 (x:br) (t:Y1):pH (.inr x) (.str x t)=true :=by simp[pH,am.isStrOf]
theorem Lw (a b:Int):decide ((uu a:Key)=uu b)=(a==b) :=by
 by_cases e:a=b
 ·subst e;simp
 ·have h:¬ (uu a:Key)=uu b:=fun q=>e (ZY q)
  rw[decide_eq_false h];exact(beq_eq_false_iff_ne.mpr e).symm
theorem Lx (a b:br):decide ((Y5 a:Key)=Y5 b)=decide (a=b) :=by
 by_cases e:a=b
 ·subst e;simp
 ·have h:¬ (Y5 a:Key)=Y5 b:=fun q=>e (Y5.inj q)
  rw[decide_eq_false h,decide_eq_false e]
theorem Ly (a:Int) (b:br):decide ((uu a:Key)=Y5 b)=false:=decide_eq_false (fun q=>nomatch q)
theorem Lz (a:br) (b:Int):decide ((Y5 a:Key)=uu b)=false:=decide_eq_false (fun q=>nomatch q)
def bA (prog:en) (w:ii):PySem.KeyKind prog w Key where
 is:=pH
 hash:=Tx w
 inj:=fun v a b ha hb=>by
  rcases cJ ha with ⟨i,t,rfl,rfl⟩|⟨x,t,rfl,rfl⟩
  ·rcases cJ hb with ⟨j,u,rfl,e⟩|⟨y,u,rfl,e⟩
   ·injection e with e1 _;rw[e1]
   ·exact nomatch e
  ·rcases cJ hb with ⟨j,u,rfl,e⟩|⟨y,u,rfl,e⟩
   ·exact nomatch e
   ·injection e with e1 _;rw[e1]
 byValue:=fun k v h=>by
  rcases cJ h with ⟨i,t,rfl,rfl⟩|⟨x,t,rfl,rfl⟩<;>rfl
 pyHash:=fun hv h=>by
  rcases cJ hv with ⟨i,t,rfl,rfl⟩|⟨x,t,rfl,rfl⟩
  ·exact wpAny_pyHash_int h
  ·exact wpAny_pyHash_str h
 eqBool:=fun hu hv h=>by
  rcases cJ hu with ⟨i,t,rfl,rfl⟩|⟨x,t,rfl,rfl⟩
  ·rcases cJ hv with ⟨j,u,rfl,rfl⟩|⟨y,u,rfl,rfl⟩
   ·rw[Lw]at h;exact wpAny_eqBool_int h
   ·rw[Ly]at h;exact l4.int_str i t y u _ _ _ _ h
  ·rcases cJ hv with ⟨j,u,rfl,rfl⟩|⟨y,u,rfl,rfl⟩
   ·rw[Lz]at h;exact l4.str_int x t j u _ _ _ _ h
   ·rw[Lx]at h;exact wpAny_eqBool_str h
 «strs»:=fun k x t v h=>by
  rcases cJ h with ⟨i,u,rfl,e⟩|⟨y,u,rfl,e⟩
  ·exact nomatch e
  ·injection e with e1 _
   subst e1;cases v<;>rfl
theorem zt (prog:en) (w:ii) (i:Int) (t:Y1):(bA prog w).is (.inl i) (.int i t)=true:=C2 i t
theorem zu (prog:en) (w:ii) (x:br) (t:Y1):(bA prog w).is (.inr x) (.str x t)=true:=C3 x t
inductive V where
 |ax|bl (b:Bool)|int (i:Int)|str (x:br)|ki (b:Array UInt8)|zU (b:UInt64)|ref (a:al)|ty (n:String)
 deriving DecidableEq
def RelV:V->am->Prop
 | .ax,u=>u=AM
 | .bl b,u=>u=YI b
 | .int i,u=>∃t,u=Ze i t
 | .str x,u=>∃t,u=YE x t
 | .ki b,u=>∃t,u=am.bytes b t
 | .zU b,u=>∃t,u=am.float b t
 | .ref a,u=>u=l7 a
 | .ty n,u=>u=LP n
abbrev Vals:List V->List am->Prop:=FM RelV
theorem Vals.length {xs:List V}{us:List am}(r:Vals xs us):xs.length=us.length:=SL r
theorem Vals.get:∀{xs:List V}{us:List am}{i:Nat}{x:V},Vals xs us->xs[i]?=some x->∃u,us[i]?=some u/\RelV x u
 |_,_,_,_,.nil,e=>by simp at e
 |_,_,0,_,.cons r _,e=>by simp at e;subst e;exact⟨_,rfl,r⟩
 |_,_,i+1,x,.cons _ t,e=>by
          obtain⟨u,h1,h2⟩:=Vals.get (i:=i) (x:=x) t (by simpa using e)
          exact⟨u,by simpa using h1,h2⟩
theorem Vals.set {x:V}{u:am}(r:RelV x u):∀{xs:List V}{us:List am}(i:Nat),Vals xs us->Vals (xs.set i x) (us.set i u)
 |_,_,_,.nil=>.nil
 |_,_,0,.cons _ t=>.cons r t
 |_,_,i+1,.cons q t=>.cons q (Vals.set r i t)
theorem Vals.append:∀{xs ys:List V}{us ws:List am},Vals xs us->Vals ys ws->Vals (xs++ys) (us++ws)
 |_,_,_,_,.nil,s=>s
 |_,_,_,_,.cons r t,s=>.cons r (Vals.append t s)
theorem Vals.take:∀{xs:List V}{us:List am}(n:Nat),Vals xs us->Vals (xs.take n) (us.take n)
 |_,_,0,_=>.nil
 |_,_,_+1,.nil=>.nil
 |_,_,n+1,.cons r t=>.cons r (Vals.take n t)
theorem Vals.drop:∀{xs:List V}{us:List am}(n:Nat),Vals xs us->Vals (xs.drop n) (us.drop n)
 |_,_,0,r=>r
 |_,_,_+1,.nil=>.nil
 |_,_,n+1,.cons _ t=>Vals.drop n t
def jd:Option V->Option am->Prop
 |some v,some u=>RelV v u
 |none,none=>True
 |_,_=>False
def KV {κ:Type}:List (κ×V)->List (κ×am)->Prop:=FM fun (p:κ×V) (q:κ×am)=>p.1=q.1/\RelV p.2 q.2
def kV:Key->V
 | .inl i=>.int i
 | .inr x=>.str x
inductive HO where
 |lst (xs:List V)
 |tup (xs:List V)
 |dK (ak:List (Key×V))|dT (ak:List (List Key×V))
 |set (S:Int->Bool) (n:Nat)
 |ins (C dx:al) (fs:List (br×V))
 |own (x:al)
 |xd (fs:List (br×V))
 |met (f x:al)
 |rng (lo hi:Int)
 |bQ (o:i8) (u:HO)
 |di (ps:Array am)
 |lam (ps:Array am)
 |ext (φ:hX->Prop)
abbrev Hp:=al->Option HO
def upd (H:Hp) (a:al) (o:HO):Hp:=fun b=>if b=a then some o else H b
theorem aB {H:Hp}{a:al}{o:HO}:upd H a o a=some o :=by unfold upd;rw[if_pos rfl]
theorem ah {H:Hp}{a b:al}{o:HO}(h:b≠a):upd H a o b=H b :=by unfold upd;rw[if_neg h]
theorem wu {H:Hp}{a b:al}{o u:HO}(h:H a=some o) (h':H b=some u) (d:o≠u):a≠b :=by
 intro e;subst e;rw[h]at h';exact d (gl h')
theorem bh {H:Hp}{a b:al}{o:HO}(h:H a=some o) (h':H b=none):a≠b :=by
 intro e;subst e;rw[h]at h';cases h'
section
variable (P:en) (w:ii)
def my (h:hX) (a:al) (items:Array am):Prop:=∃o,h.get? a=some o/\o.cls=.type "tuple" /\ ∃n,o.data=.seq items n/\o.dict=none
theorem my.tup {h:hX}{a:al}{items:Array am}(x:my h a items):IsTup h a items:=let ⟨o,e,c,n,d,_⟩:=x;⟨o,e,c,n,d⟩
theorem my.lt {h:hX}{a:al}{items:Array am}(x:my h a items):a<h.objs.size:=x.tup.lt
theorem my.new (h:hX) (items:Array am):my (h.push {cls:=.type "tuple",data:=.seq items}) h.objs.size items:=⟨_,ci _ rfl,rfl,_,rfl,rfl⟩
def ObjOk (H:Hp) (h:hX) (a:al):HO->Prop
 | .lst xs=>xs.length<=sizeLine/\∃(its:List am) (n:Nat),Vals xs its/\h.get? a=some {cls:=.type "list",data:=.seq its.toArray n}
 | .tup xs=>xs.length<=sizeLine/\∃its:List am,Vals xs its/\my h a its.toArray
 | .dK ak=>ak.length<=sizeLine/\(a==sysModules)=false/\∃vs,KV ak vs/\h.DictOf (bA P w) a vs
 | .dT ak=>ak.length<=sizeLine/\(a==sysModules)=false/\∃xs:List (List Key×al×am),
   FM (fun (p:List Key×V) (q:List Key×al×am)=>p.1=q.1/\H q.2.1=some (.tup (p.1.map kV))/\RelV p.2 q.2.2) ak xs /\
   ∃o es ep,h.get? a=some o/\o.ExactDict/\o.data=.dict es ep/\es.toList=xs.map (entryOfKey (tupleKind (bA P w)))/\(xs.map (·.1)).Nodup
 | .set S n=>h.SetOf (intKind P w) a S n
 | .ins C dx fs=>H dx=some (.own a)/\fs.length<=1000/\dx≠a/\h.get? a=some (ZL C dx) /\
   ∃mA,h.Ns1 dx mA/\(∀f,jd (fs.lookup f) (mA f))/\PySem.Within mA (fs.map (·.1))
 | .own _=>∃o,h.get? a=some o
 | .xd fs=>∃mA,h.Ns1 a mA/\∀f,jd (fs.lookup f) (mA f)
 | .rng lo hi=>∃t u v,h.get? a=some {cls:=.type "range",data:=.fields #[.int lo t,.int hi u,.int 1 v]}
 | .bQ o u=>h.get? a=some o/\ObjOk H h a u
 | .di ps=>h.get? a=some {cls:=.none,data:=.fields ps}
 | .lam ps=>h.get? a=some {cls:=.none,data:=.fields ps}
 | .met f x=>h.get? a=some (Zq (.ref f) (.ref x))
 | .ext φ=>φ h/\(∃o,h.get? a=some o)/\∀h1 h2:hX,φ h1->(∀o,h1.get? a=some o->h2.get? a=some o)->φ h2
def c0 (H:Hp) (h:hX):Prop:=∀a o,H a=some o->ObjOk P w H h a o
end
section
variable {P:en}{w:ii}{H H':Hp}{h h':hX}{a:al}{o:HO}
theorem ObjOk.lt (x:ObjOk P w H h a o):a<h.objs.size :=by
 cases o with
 |lst xs=>obtain⟨_,_,_,_,e⟩:=x;exact ff e
 |tup xs=>obtain⟨_,_,_,p⟩:=x;exact p.lt
 |dK ak=>obtain⟨_,_,_,_,o,_,_,e,_⟩:=x;exact ff e
 |dT ak=>obtain⟨_,_,_,_,o,_,_,e,_⟩:=x;exact ff e
 |set S n=>obtain⟨o,_,_,_,e,_⟩:=x;exact ff e
 |ins C dx fs=>obtain⟨_,_,_,e,_⟩:=x;exact ff e
 |own y=>obtain⟨_,e⟩:=x;exact ff e
 |xd fs=>obtain⟨_,⟨_,_,_,e,_⟩,_⟩:=x;exact ff e
 |rng lo hi=>obtain⟨_,_,_,e⟩:=x;exact ff e
 |bQ ob u=>obtain⟨e,_⟩:=x;exact ff e
 |di ps=>exact ff (show h.get? a=some _ from x)
 |lam ps=>exact ff (show h.get? a=some _ from x)
 |met f y=>exact ff (show h.get? a=some _ from x)
 |ext φ=>obtain⟨_,⟨_,e⟩,_⟩:=x;exact ff e
theorem FM.F8 {α β:Type}{F G:α->β->Prop}:∀{LA:List α}{LC:List β},FM F LA LC->(∀a b,F a b->G a b)->FM G LA LC
 |_,_,.nil,_=>.nil
 |_,_,.cons r t,f=>.cons (f _ _ r) (FM.F8 t f)
theorem ObjOk.cE (x:ObjOk P w H h a o) (k:∀b u,(b=a\/H b=some (.own a))->h.get? b=some u->h'.get? b=some u)
  (ho:∀b,H b=some (.own a)->H' b=some (.own a)) (ht:∀b xs,H b=some (.tup xs)->H' b=some (.tup xs)):ObjOk P w H' h' a o :=by
 induction o with
 |lst xs=>obtain⟨z,its,n,r,e⟩:=x;exact⟨z,its,n,r,k _ _ (.inl rfl) e⟩
 |tup xs=>obtain⟨z,its,r,ob,e,c⟩:=x;exact⟨z,its,r,ob,k _ _ (.inl rfl) e,c⟩
 |dK ak=>obtain⟨z,y,vs,r,ob,es,ep,e,c⟩:=x;exact⟨z,y,vs,r,ob,es,ep,k _ _ (.inl rfl) e,c⟩
 |dT ak=>
  obtain⟨z,y,xs,r,ob,es,ep,e,c⟩:=x;exact⟨z,y,xs,FM.F8 r fun p q z=>⟨z.1,ht _ _ z.2.1,z.2.2⟩,ob,es,ep,k _ _ (.inl rfl) e,c⟩
 |set S n=>obtain⟨ob,es,ep,t,e,c⟩:=x;exact⟨ob,es,ep,t,k _ _ (.inl rfl) e,c⟩
 |ins C dx fs=>
  obtain⟨d,z,ne,e,mA,⟨od,es,ep,e2,c⟩,r⟩:=x;exact⟨ho _ d,z,ne,k _ _ (.inl rfl) e,mA,⟨od,es,ep,k _ _ (.inr d) e2,c⟩,r⟩
 |own y=>obtain⟨ob,e⟩:=x;exact⟨ob,k _ _ (.inl rfl) e⟩
 |xd fs=>obtain⟨mA,⟨od,es,ep,e,c⟩,r⟩:=x;exact⟨mA,⟨od,es,ep,k _ _ (.inl rfl) e,c⟩,r⟩
 |rng lo hi=>obtain⟨t,u,v,e⟩:=x;exact⟨t,u,v,k _ _ (.inl rfl) e⟩
 |bQ ob u ih=>obtain⟨e,q⟩:=x;exact⟨k _ _ (.inl rfl) e,ih q⟩
 |di ps=>
  have e:h.get? a=some {cls:=.none,data:=.fields ps}:=x;show h'.get? a=some {cls:=.none,data:=.fields ps};exact k a _ (.inl rfl) e
 |lam ps=>
  have e:h.get? a=some {cls:=.none,data:=.fields ps}:=x;show h'.get? a=some {cls:=.none,data:=.fields ps};exact k a _ (.inl rfl) e
 |met f y=>
  have e:h.get? a=some (Zq (.ref f) (.ref y)):=x;show h'.get? a=some (Zq (.ref f) (.ref y));exact k a _ (.inl rfl) e
 |ext φ=>obtain⟨p,⟨o,e⟩,st⟩:=x;exact⟨st _ _ p fun o q=>k _ _ (.inl rfl) q,⟨o,k _ _ (.inl rfl) e⟩,st⟩
theorem c0.lt (x:c0 P w H h) (e:H a=some o):a<h.objs.size:=(x a o e).lt
theorem c0.fresh (x:c0 P w H h) (e:h.objs.size<=a):H a=none :=by
 cases q:H a with
 |none=>rfl
 |some u=>exact absurd (lc (x.lt q) e) (FS _)
theorem c0.kept (x:c0 P w H h) (k:∀b u,h.get? b=some u->h'.get? b=some u):c0 P w H h':=fun a o e=>
 (x a o e).cE (fun b u _ q=>k b u q) (fun _ q=>q) fun _ _ q=>q
theorem c0.laid (x:c0 P w H h) (k:∀b u,h.get? b=some u->h'.get? b=some u) (hp:h.objs.size<=a) (new:ObjOk P w (upd H a o) h' a o):c0 P w (upd H a o) h':=fun b u e=>by
 have hn:=x.fresh hp;by_cases hb:b=a
 ·subst hb;rw[aB]at e;cases e;exact new
 ·rw[ah hb]at e;exact(x b u e).cE (fun c v _ q=>k c v q) (fun c q=>by rw[ah (bh q hn)];exact q) fun c xs q=>by rw[ah (bh q hn)];exact q
end
def Rd (H:Hp) (a:al) (u:HO):Prop:=H a=some u\/∃o,H a=some (.bQ o u)
theorem Rd.ok {P:en}{w:ii}{H:Hp}{h:hX}{a:al}{u:HO}(r:Rd H a u) (x:c0 P w H h):ObjOk P w H h a u :=by
 rcases r with r|⟨o,r⟩
 ·exact x a u r
 ·obtain⟨_,q⟩:=x a _ r;exact q
def C4:Option HO->Prop
 |some (.lst _)=>True
 |some (.dK _)=>True
 |some (.dT _)=>True
 |some (.set _ _)=>True
 |some (.ins _ _ _)=>True
 |some (.ext _)=>True
 |some (.lam _)=>True
 |_=>False
section
variable {P:en}{w:ii}{H:Hp}{h h':hX}{x e:al}{o':HO}
theorem c0.write (ok:c0 P w H h) (mu:C4 (H x)) (he:e=x\/H e=some (.own x)) (k:∀b u,b≠e->h.get? b=some u->h'.get? b=some u) (zV:∃u,h'.get? e=some u)
  (new:ObjOk P w (upd H x o') h' x o'):c0 P w (upd H x o') h':=fun b u q=>by
 have LD:∀c y,H c=some (.own y)->c≠x:=fun c y r z=>by subst z;rw[r]at mu;exact mu
 have Tz:∀c xs,H c=some (.tup xs)->c≠x:=fun c xs r z=>by subst z;rw[r]at mu;exact mu
 by_cases hb:b=x
 ·subst hb;rw[aB]at q;cases q;exact new
 ·rw[ah hb]at q;by_cases wN:b=e
  ·have q':H b=some (.own x) :=by
    rcases he with z|z
    ·exact absurd (wN.trans z) hb
    ·rw[wN];exact z
   rw[q]at q';cases q';obtain⟨v,hv⟩:=zV;exact⟨v,by rw[wN];exact hv⟩
  ·refine(ok b u q).cE (fun c v hc r=>k c v ?_ r) (fun c r=>by rw[ah (LD c b r)];exact r) fun c xs r=>by rw[ah (Tz c xs r)];exact r
   rcases hc with rfl|hc
   ·exact wN
   ·rintro rfl;rcases he with z|z
    ·exact LD c b hc z
    ·rw[hc]at z;cases z;exact hb rfl
end
structure Un (fs ex:List al) (H H':Hp) (h h':hX):Prop where
 keep:∀b o,h.get? b=some o->H b=none->b ∉ fs->b ∉ ex->h'.get? b=some o
 slot:∀b o,h.get? b=some o->H b=none->b∈fs->b ∉ ex->∃sl,h'.get? b=some {o with slots:=sl}
 free:∀b o,h.get? b=some o->H b=none->b ∉ ex->H' b=none
 there:∀b o,h.get? b=some o->b ∉ ex->∃o',h'.get? b=some o'
 tups:∀b xs,H b=some (.tup xs)->H' b=some (.tup xs)
 frzs:∀b o u,H b=some (.bQ o u)->H' b=some (.bQ o u)
 tbls:∀b ps,H b=some (.di ps)->∃more,H' b=some (.di (ps++more))
section
variable {fs U6 ex Xu:List al}{H H1 H2:Hp}{h h1 h2 h':hX}{a x e:al}{o:HO}
theorem Un.any (u:Un fs ex H H1 h h1) {b:al}{ob:i8}(q:h.get? b=some ob) (n:H b=none) (hx:b ∉ ex):∃sl,h1.get? b=some {ob with slots:=sl}:=by
 by_cases hb:b∈fs
 ·exact u.slot b ob q n hb hx
 ·exact⟨ob.slots,u.keep b ob q n hb hx⟩
theorem Un.kept (k:∀b u,h.get? b=some u->h'.get? b=some u):Un fs ex H H h h':=
 ⟨fun b ob q _ _ _=>k b ob q,fun b ob q _ _ _=>⟨ob.slots,k b ob q⟩,fun _ _ _ n _=>n,fun b ob q _=>⟨ob,k b ob q⟩,fun _ _ q=>q,fun _ _ _ q=>q,fun _ ps q=>⟨#[],by rw[q];simp⟩⟩
theorem Un.refl:Un fs ex H H h h:=Un.kept fun _ _ q=>q
theorem Un.laid (k:∀b u,h.get? b=some u->h'.get? b=some u) (hp:h.objs.size<=a) (hn:H a=none):Un fs ex H (upd H a o) h h' where
 keep:=fun b u q _ _ _=>k b u q
 slot:=fun b u q _ _ _=>⟨u.slots,k b u q⟩
 free:=fun b u q n _=>by rw[ah (i4 (lc (ff q) hp))];exact n
 there:=fun b u q _=>⟨u,k b u q⟩
 tups:=fun b xs q=>by rw[ah (bh q hn)];exact q
 frzs:=fun b u xs q=>by rw[ah (bh q hn)];exact q
 tbls:=fun b ps q=>⟨#[],by rw[ah (bh q hn),q];simp⟩
theorem Un.write (mu:C4 (H x)) (he:e=x\/H e=some (.own x)) (k:∀b u,b≠e->h.get? b=some u->h'.get? b=some u) (zV:∃u,h'.get? e=some u):Un fs ex H (upd H x o) h h':=by
 have hx:∀b,H b=none->b≠x:=fun b n z=>by subst z;rw[n]at mu;exact mu
 have hb:∀b,H b=none->b≠e:=fun b n z=>by
  subst z;rcases he with r|r
  ·exact hx b n r
  ·rw[n]at r;cases r
 have hm:∀b u,H b=some u->¬ C4 (some u)->b≠x:=fun b u q nm z=>by subst z;rw[q]at mu;exact nm mu
 refine⟨fun b u q n _ _=>k b u (hb b n) q,fun b u q n _ _=>⟨u.slots,k b u (hb b n) q⟩,fun b u q n _=>by rw[ah (hx b n)];exact n,fun b u q _=>?_,
  fun b xs q=>by rw[ah (hm b _ q fun z=>z)];exact q,fun b u xs q=>by rw[ah (hm b _ q fun z=>z)];exact q,fun b ps q=>⟨#[],by rw[ah (hm b _ q fun z=>z),q];simp⟩⟩
 by_cases wN:b=e
 ·subst wN;exact zV
 ·exact⟨u,k b u wN q⟩
end
def Io (h:hX) (H:Hp):List al:=(io h.objs.size).filter fun a=>(H a).isSome
def kj (h:hX) (H:Hp):hX:=BN h (Io h H)
theorem C5 (h:hX) (H:Hp):(kj h H).objs.size=h.objs.size:=PySem.W.hideAll_size _ _
theorem F9 {h:hX}{H:Hp}{b:al}{o:i8}(e:h.get? b=some o) (n:H b=none):(kj h H).get? b=some o:=
 X8 _ e fun hm=>by
  have q:(H b).isSome=true:=(Nl.mp hm).2;rw[n]at q;simp at q
theorem JQ {h:hX}{H:Hp}{b:al}{o:i8}(e:(kj h H).get? b=some o):h.get? b=some o/\H b=none :=by
 have e':h.get? b=some o:=Zf (Io h H) e;refine⟨e',?_⟩;cases q:H b with
 |none=>rfl
 |some x=>
  have hm:b∈Io h H:=Nl.mpr ⟨rb.mpr (ff e'),by simp[q]⟩
  have z:(kj h H).get? b=none:=PySem.W.hideAll_none (Io h H) hm;rw[z]at e;cases e
def JR (g h:hX) (L:al):List (al×i8):=(io h.objs.size).filterMap fun a=>if a=L\/(g.get? a).isSome=true then none else (h.get? a).map fun o=>(a,o)
def rest (g h:hX) (L d:al):List (al×i8):=(JR g h L).filter fun p=>decide (p.1≠d)
structure Mod (K:bn) (mg:br->Option am) (base:hX):Prop where
 kin:K.In base
 glob:base.Ns mainGlobals mg
 blt:∃mb,base.Ns builtinsNs mb/\∀x:br,x ≠ "__name__" -> mb x=bootBuiltins x
 nolimit:base.NoLimit
structure Cx where
 prog:en
 w:ii
 K:bn
 mg:br->Option am
 base:hX
 A:l5
 N:List br
 s₀:ar
 H₀:Hp
 env:Lo
 outer:List Lo
 stack:List Lo
 ex:List al
 fn:br->Bool
 calm:Bool
 pn:List (al×i8)
 xe:am->ar->Prop
def fg (l:List Lo):List al:=l.filterMap (·.frame)
abbrev Cx.fs (X:Cx):List al:=fg X.outer
def qd (sc:ul) (x:br):Prop:=sc.names.lookup x=some .local\/sc.names.lookup x=some .cell\/sc.names.lookup x=some .free
def Loc (sc:ul) (x:br):Prop:=sc.names.lookup x=some .local\/sc.names.lookup x=some .cell
def Look (env:Lo) (h:hX) (m:br->Option am) (x:br) (u:am):Prop:=
 (env.kindOf x=some .local/\m x=some u)\/((env.kindOf x=some .cell\/env.kindOf x=some .free)/\∃c,env.cells.lookup x=some c/\h.IsCell c (some u))
structure Cx.Ok (X:Cx):Prop where
 mod:Mod X.K X.mg X.base
 kind:X.env.scope.kind=.function
 glob:X.env.globals=mainGlobals
 blt:X.env.builtins=builtinsNs
 above:X.s₀.heap.objs.size<=X.env.locals
 inj:∀x y c,X.env.cells.lookup x=some c->X.env.cells.lookup y=some c->x=y
 has:∀x,(X.env.kindOf x=some .cell\/X.env.kindOf x=some .free)->∃c,X.env.cells.lookup x=some c
 cab:∀x c,X.fn x=true->X.env.cells.lookup x=some c->X.s₀.heap.objs.size<=c
 hd:X.calm=true->X.A.handled=none
 frames:X.A.frames=some X.stack
 stk:X.stack=X.outer\/(X.stack=X.env::X.outer/\X.env.frame=some X.env.locals)
 exf:∀b∈X.ex,b≠X.env.locals/\∀x c,X.env.cells.lookup x=some c->c≠b
 bs:∀b o,X.base.get? b=some o->X.s₀.heap.get? b=some o/\X.H₀ b=none
 bsz:X.base.objs.size<=X.s₀.heap.objs.size
 noex:∀b o,X.base.get? b=some o->b ∉ X.ex
 exfs:∀b∈X.ex,b ∉ X.fs
 funs:X.s₀.heap.FunFrames X.base X.outer
 frf:∀b∈X.fs,X.H₀ b=none
def Gn (n:Nat) (g:Array US):Prop:=ZZ g/\n<=g.size
theorem Gn.self {n:Nat}{g:Array US}(x:Gn n g):Gn g.size g:=⟨x.1,cb _⟩
theorem Gn.trans {n:Nat}{g g':Array US}(x:Gn n g) (y:Gn g.size g'):Gn n g':=⟨y.1,sw x.2 y.2⟩
structure Inv (X:Cx) (pins:List (al×i8)) (σ:List (Option V)) (H:Hp) (s:ar):Prop where
 ok:X.Ok
 os:s.os=X.s₀.os
 bare:Gn X.s₀.gens.size s.gens
 base:Un X.fs X.ex X.H₀ H X.s₀.heap s.heap
 loc:∃m,s.heap.Ns X.env.locals m/\∀(i:Nat) (x:br) (v:V),X.N[i]?=some x->σ[i]?=some (some v)->qd X.env.scope x->∃u,RelV v u/\Look X.env s.heap m x u
 cell:∀x c,X.env.cells.lookup x=some c->∃v,s.heap.IsCell c v
 free:H X.env.locals=none
 freeC:∀x c,X.env.cells.lookup x=some c->H c=none
 pin:∀p∈X.pn++pins,s.heap.get? p.1=some p.2/\H p.1=none/\p.1≠X.env.locals/\p.1 ∉ X.fs/\∀v,p.2.data≠.cell v
 hok:c0 X.prog X.w H s.heap
 len:σ.length=X.N.length
section
variable {X:Cx}{pins:List (al×i8)}{σ:List (Option V)}{H H':Hp}{s:ar}{h':hX}
theorem Cx.Ok.TC (ok:X.Ok) {b:al}{o:i8}(e:X.base.get? b=some o):b ∉ X.fs:=fun hb=>by
 have:=(ok.funs.mem hb).1;rw[e]at this;cases this
theorem Inv.bs (I:Inv X pins σ H s):∀b o,X.base.get? b=some o->s.heap.get? b=some o/\H b=none:=fun b o e=>
 ⟨I.base.keep b o (I.ok.bs b o e).1 (I.ok.bs b o e).2 (I.ok.TC e) (I.ok.noex b o e),I.base.free b o (I.ok.bs b o e).1 (I.ok.bs b o e).2 (I.ok.noex b o e)⟩
theorem Inv.bk (I:Inv X pins σ H s):∀b o,X.base.get? b=some o->s.heap.get? b=some o:=fun b o e=>(I.bs b o e).1
theorem Inv.mod (I:Inv X pins σ H s):Mod X.K X.mg X.base:=I.ok.mod
theorem Inv.iB (I:Inv X pins σ H s):X.K.In s.heap:=I.ok.mod.kin.keeps I.bk
theorem Inv.nolimit (I:Inv X pins σ H s):s.heap.NoLimit:=I.ok.mod.nolimit.keeps I.bk
theorem Inv.lt (I:Inv X pins σ H s):X.env.locals<s.heap.objs.size:=let ⟨_,hn,_⟩:=I.loc;hn.lt
theorem Inv.sz (I:Inv X pins σ H s):X.s₀.heap.objs.size<=s.heap.objs.size:=sw I.ok.above (OL I.lt)
theorem Inv.LI (I:Inv X pins σ H s) {a:al}(h:s.heap.objs.size<=a):a ∉ X.fs:=fun hb=>by
 obtain⟨_,o,ho,_⟩:=I.ok.funs.mem hb;exact absurd (lc (ff ho) (sw I.sz h)) (FS _)
theorem Inv.uI (I:Inv X pins σ H s):∀x c,X.env.cells.lookup x=some c->c≠X.env.locals:=fun x c e z=>by
 obtain⟨v,o,ho,hd⟩:=I.cell x c e;obtain⟨m,⟨o',es,ep,i6,jB,_⟩,_⟩:=I.loc;rw[z,i6]at ho;cases ho;rw[jB]at hd;cases hd
theorem Inv.funs (I:Inv X pins σ H s):s.heap.FunFrames X.base X.outer :=by
 have all:∀(l:List Lo),(∀b∈fg l,b∈X.fs)->X.s₀.heap.FunFrames X.base l->s.heap.FunFrames X.base l :=by
  intro l;induction l with
  |nil=>intro _ _;trivial
  |cons env r ih=>
   intro hs hl;obtain⟨hk,⟨L,o,hf,hn,ho,hd⟩,hr⟩:=hl;have hL:L∈X.fs:=hs L (by unfold fg;rw[LF,hf];exact gc)
   obtain⟨sl,e⟩:=I.base.slot L o ho (I.ok.frf L hL) hL fun z=>I.ok.exfs L z hL
   exact⟨hk,⟨L,_,hf,hn,e,hd⟩,ih (fun b hb=>hs b (by unfold fg;rw[LF,hf];exact c8 _ hb)) hr⟩
 exact all X.outer (fun _ hb=>hb) I.ok.funs
theorem Inv.stack (I:Inv X pins σ H s):s.heap.FunFrames X.base X.stack :=by
 rcases I.ok.stk with e|⟨e,hf⟩
 ·rw[e];exact I.funs
 ·rw[e];obtain⟨m,hn,_⟩:=I.loc;refine .cons (by rw[I.ok.kind];decide) hf hn ?_ I.funs
  exact hX.get?_none_of_le (sw I.ok.bsz I.ok.above)
theorem Inv.fT (I:Inv X pins σ H s):∀b∈fg X.stack,b∈X.env.locals::X.fs:=fun b hb=>by
 rcases I.ok.stk with e|⟨e,hf⟩
 ·rw[e]at hb;exact c8 _ hb
 ·rw[e]at hb;unfold fg at hb;rw[LF,hf]at hb;exact hb
theorem Inv.mJ (I:Inv X pins σ H s):∀b∈fg X.stack,H b=none:=fun b hb=>by
 rcases im.mp (I.fT b hb) with e|hb
 ·rw[e];exact I.free
 ·obtain⟨_,o,ho,_⟩:=I.ok.funs.mem hb;exact I.base.free b o ho (I.ok.frf b hb) fun z=>I.ok.exfs b z hb
theorem Inv.step {g':Array US}{t':Nat}{d':Drawn}{ch:List al}(I:Inv X pins σ H s)
  (qf:∀b∈ch,(b∈X.ex\/X.s₀.heap.objs.size<=b)/\b≠X.env.locals/\(∀x c,X.env.cells.lookup x=some c->c≠b)/\∀p∈X.pn++pins,p.1≠b)
  (keep:∀b o,b≠X.env.locals->b ∉ X.fs->b ∉ ch->s.heap.get? b=some o->H b=none->h'.get? b=some o)
  (slot:∀b o,b≠X.env.locals->b∈X.fs->b ∉ ch->s.heap.get? b=some o->H b=none->∃sl,h'.get? b=some {o with slots:=sl}) (free:∀b o,b ∉ ch->s.heap.get? b=some o->H b=none->H' b=none)
  (there:∀b o,b ∉ ch->s.heap.get? b=some o->∃o',h'.get? b=some o')
  (tups:∀b xs,H b=some (.tup xs)->H' b=some (.tup xs)) (frzs:∀b o u,H b=some (.bQ o u)->H' b=some (.bQ o u)) (tbls:∀b ps,H b=some (.di ps)->∃more,H' b=some (.di (ps++more)))
  (ns:∀m,s.heap.Ns X.env.locals m->h'.Ns X.env.locals m) (hok:c0 X.prog X.w H' h') (hg:Gn s.gens.size g') :
  Inv X pins σ H' {s with heap:=h',gens:=g',drawn:=d',toks:=t'}:=by
 have R9:∀b o,X.s₀.heap.get? b=some o->b≠X.env.locals:=fun b o e=>i4 (lc (ff e) I.ok.above)
 have Ip:∀b o,X.s₀.heap.get? b=some o->b ∉ X.ex->b ∉ ch:=fun b o e hx hb=>by
  rcases (qf b hb).1 with z|z
  ·exact hx z
  ·exact absurd (lc (ff e) z) (FS _)
 have cellK:∀x c,X.env.cells.lookup x=some c->∀v,s.heap.IsCell c v->h'.IsCell c v:=fun x c e v ⟨o,ho,hd⟩=>by
  have C6:c ∉ ch:=fun z=>(qf c z).2.2.1 x c e rfl
  by_cases hc:c∈X.fs
  ·obtain⟨sl,q⟩:=slot c o (I.uI x c e) hc C6 ho (I.freeC x c e);exact⟨_,q,hd⟩
  ·exact⟨o,keep c o (I.uI x c e) hc C6 ho (I.freeC x c e),hd⟩
 refine⟨I.ok,I.os,I.bare.trans hg,⟨fun b o e n hb hx=>?_,fun b o e n hb hx=>?_,fun b o e n hx=>?_,fun b o e hx=>?_,fun b xs e=>tups b xs (I.base.tups b xs e),fun b o xs e=>frzs b o xs (I.base.frzs b o xs e),fun b ps e=>?_⟩,?_,fun x c e=>?_,?_,fun x c e=>?_,fun p hp=>?_,hok,I.len⟩
 ·exact keep b o (R9 b o e) hb (Ip b o e hx) (I.base.keep b o e n hb hx) (I.base.free b o e n hx)
 ·obtain⟨sl,e1⟩:=I.base.slot b o e n hb hx;obtain⟨Sa,e2⟩:=slot b _ (R9 b o e) hb (Ip b o e hx) e1 (I.base.free b o e n hx);exact⟨Sa,e2⟩
 ·obtain⟨o',e1⟩:=I.base.there b o e hx;exact free b o' (Ip b o e hx) e1 (I.base.free b o e n hx)
 ·obtain⟨o',e1⟩:=I.base.there b o e hx;exact there b o' (Ip b o e hx) e1
 ·obtain⟨m1,e1⟩:=I.base.tbls b ps e;obtain⟨m2,e2⟩:=tbls b _ e1;exact⟨m1++m2,by rw[e2,Array.append_assoc]⟩
 ·obtain⟨m,hn,hl⟩:=I.loc;refine⟨m,ns m hn,fun i x v e1 e2 e3=>?_⟩
  obtain⟨u,r,l⟩:=hl i x v e1 e2 e3;refine⟨u,r,?_⟩;rcases l with l|⟨k,c,e,z⟩
  ·exact .inl l
  ·exact .inr ⟨k,c,e,cellK x c e _ z⟩
 ·obtain⟨v,z⟩:=I.cell x c e;exact⟨v,cellK x c e v z⟩
 ·obtain⟨m,⟨o,_,_,ho,_⟩,_⟩:=I.loc;exact free _ o (fun z=>(qf _ z).2.1 rfl) ho I.free
 ·obtain⟨v,o,ho,hd⟩:=I.cell x c e;exact free c o (fun z=>(qf c z).2.2.1 x c e rfl) ho (I.freeC x c e)
 ·obtain⟨e,n,ne,nf,d⟩:=I.pin p hp;have C6:p.1 ∉ ch:=fun z=>(qf p.1 z).2.2.2 p hp rfl
  exact⟨keep p.1 p.2 ne nf C6 e n,free p.1 p.2 C6 e n,ne,nf,d⟩
theorem Inv.un {t':Nat}(I:Inv X pins σ H s) (u:Un X.fs [] H H' s.heap h') (hok:c0 X.prog X.w H' h'):Inv X pins σ H' {s with heap:=h',toks:=t'}:=by
 obtain⟨m,⟨o,es,ep,ho,r⟩,_⟩:=id I.loc;obtain⟨sl,hL⟩:=u.any ho I.free (by simp)
 exact I.step (g':=s.gens) (d':=s.drawn) (ch:=[]) (fun _ z=>nomatch z) (fun b o _ hb _ e n=>u.keep b o e n hb (by simp)) (fun b o _ hb _ e n=>u.slot b o e n hb (by simp)) (fun b o _ e n=>u.free b o e n (by simp)) (fun b o _ e=>u.there b o e (by simp)) u.tups u.frzs u.tbls (fun m' hm=>by
  obtain⟨o',jC,LJ,i6,r'⟩:=hm;rw[ho]at i6;cases i6;exact⟨_,jC,LJ,hL,r'⟩) hok I.bare.self
theorem Inv.call {g':Array US}{t':Nat}{d':Drawn}{ch:List al}(I:Inv X pins σ H s) (u:Un (fg X.stack) ch H H' s.heap h') (hok:c0 X.prog X.w H' h') (hg:Gn s.gens.size g')
  (qf:∀b∈ch,(b∈X.ex\/X.s₀.heap.objs.size<=b)/\b≠X.env.locals/\(∀x c,X.env.cells.lookup x=some c->c≠b)/\∀p∈X.pn++pins,p.1≠b) :
  Inv X pins σ H' {s with heap:=h',gens:=g',drawn:=d',toks:=t'}:=by
 obtain⟨m,⟨o,es,ep,ho,r⟩,_⟩:=id I.loc;obtain⟨sl,hL⟩:=u.any ho I.free fun z=>(qf _ z).2.1 rfl
 exact I.step (ch:=ch) qf (fun b o hL hb hc e n=>u.keep b o e n (fun z=>(im.mp (I.fT b z)).elim hL hb) hc) (fun b o _ _ hc e n=>u.any e n hc) (fun b o hc e n=>u.free b o e n hc) (fun b o hc e=>u.there b o e hc) u.tups u.frzs u.tbls (fun m' hm=>by
  obtain⟨o',jC,LJ,i6,r'⟩:=hm;rw[ho]at i6;cases i6;exact⟨_,jC,LJ,hL,r'⟩) hok hg
theorem Inv.turned {t':Nat}{it:al}(I:Inv X pins σ H s) (k:∀b o,b≠it->s.heap.get? b=some o->h'.get? b=some o) (hn:H it=none) (hL:it≠X.env.locals)
  (h1:it∈X.ex\/X.s₀.heap.objs.size<=it) (h2:∀x c,X.env.cells.lookup x=some c->c≠it) (h3:∀p∈X.pn++pins,p.1≠it):Inv X pins σ H {s with heap:=h',toks:=t'}:=by
 have C7:∀b u,H b=some u->b≠it:=fun b u e z=>by rw[z,hn]at e;cases e
 refine I.step (g':=s.gens) (d':=s.drawn) (ch:=[it]) (fun b hb=>?_) (fun b o _ _ hc e _=>k b o (fun z=>hc (by simp[z])) e) (fun b o _ _ hc e _=>⟨o.slots,k b o (fun z=>hc (by simp[z])) e⟩) (fun _ _ _ _ n=>n)
  (fun b o hc e=>⟨o,k b o (fun z=>hc (by simp[z])) e⟩) (fun _ _ e=>e) (fun _ _ _ e=>e) (fun b ps e=>⟨#[],by rw[e];simp⟩) (fun m hm=>?_) (fun b u e=>?_) I.bare.self
 ·have e:b=it :=by simpa using hb
  subst e;exact⟨h1,hL,h2,h3⟩
 ·obtain⟨o,es,ep,ho,r⟩:=hm;exact⟨o,es,ep,k _ o (zn hL) ho,r⟩
 ·refine(I.hok b u e).cE (fun c v hc q=>k c v ?_ q) (fun _ q=>q) fun _ _ q=>q
  rcases hc with z|z
  ·rw[z];exact C7 b u e
  ·exact C7 c _ z
theorem Inv.tok (I:Inv X pins σ H s) (t:Nat):Inv X pins σ H {s with toks:=t}:=I.un (h':=s.heap) (t':=t) Un.refl I.hok
theorem Inv.kept {t':Nat}(I:Inv X pins σ H s) (k:∀b u,s.heap.get? b=some u->h'.get? b=some u):Inv X pins σ H {s with heap:=h',toks:=t'}:=I.un (Un.kept k) (I.hok.kept k)
theorem Inv.laid {a:al}{o:HO}{t':Nat}(I:Inv X pins σ H s) (k:∀b u,s.heap.get? b=some u->h'.get? b=some u) (hp:s.heap.objs.size<=a) (new:ObjOk X.prog X.w (upd H a o) h' a o) :
  Inv X pins σ (upd H a o) {s with heap:=h',toks:=t'}:=I.un (Un.laid k hp (I.hok.fresh hp)) (I.hok.laid k hp new)
theorem Inv.write {x e:al}{o:HO}{t':Nat}(I:Inv X pins σ H s) (mu:C4 (H x)) (he:e=x\/H e=some (.own x)) (k:∀b u,b≠e->s.heap.get? b=some u->h'.get? b=some u) (zV:∃u,h'.get? e=some u)
  (new:ObjOk X.prog X.w (upd H x o) h' x o):Inv X pins σ (upd H x o) {s with heap:=h',toks:=t'}:=I.un (Un.write mu he k zV) (I.hok.write mu he k zV new)
theorem Inv.tJ {pins':List (al×i8)}(I:Inv X pins σ H s) (h:∀p∈pins',s.heap.get? p.1=some p.2/\H p.1=none/\p.1≠X.env.locals/\p.1 ∉ X.fs/\∀v,p.2.data≠.cell v):Inv X pins' σ H s:=
 ⟨I.ok,I.os,I.bare,I.base,I.loc,I.cell,I.free,I.freeC,fun p hp=>(zw.mp hp).elim (fun z=>I.pin p (AN _ z)) (h p),I.hok,I.len⟩
theorem wO {N:List br}(hN:N.Nodup) {i j:Nat}{x:br}(a:N[i]?=some x) (b:N[j]?=some x):i=j :=by
 obtain⟨h1,e1⟩:=ce.mp a;obtain⟨h2,e2⟩:=ce.mp b;exact(List.getElem_inj hN).mp (e1.trans e2.symm)
theorem store_ok2 {M:Model}{A:l5}{E:am->ar->Prop}{i:Nat}{x:br}{v:V}{u:am}{Q:Unit->ar->Prop}(I:Inv X pins σ H s) (hN:X.N.Nodup) (hi:X.N[i]?=some x) (hx:Loc X.env.scope x) (r:RelV v u)
  (h:∀s',Inv X pins (σ.set i (some v)) H s'->(∃a,rf a s.heap s'.heap/\(a=X.env.locals\/X.env.cells.lookup x=some a))->Q () s') (hf:X.fn x=true\/X.env.scope.names.lookup x=some .local :=by first|exact .inl rfl|exact .inr rfl|assumption):wpAny M A (storeName X.env x u) Q E s :=by
 obtain⟨m,hn,hl⟩:=id I.loc;have TF:(X.env.scope.kind==.class || (X.env.scope.kind==.module && X.env.locals != X.env.globals))=false :=by rw[I.ok.kind];rfl
 have LK:i<σ.length :=by rw[I.len];exact(ce.mp hi).1
 have uI:=I.uI;have tracked:∀{a:al} {h':hX},(∃o,s.heap.get? a=some o/\H a=none)->rf a s.heap h'->c0 X.prog X.w H h':=fun {a h'} ha hs b ob e=>by
  obtain⟨_,_,pI⟩:=ha;refine(I.hok b ob e).cE (fun c w' hc q=>(hs.2 c ?_).trans q) (fun _ q=>q) fun _ _ q=>q
  rintro rfl;rcases hc with rfl|hc
  ·rw[pI]at e;cases e
  ·rw[pI]at hc;cases hc
 rcases hx with hk|hk
 ·refine wpAny_storeName_local hk hn (fun h' C8 hs=>?_) TF
  obtain⟨oL,_,_,C9,_⟩:=id hn;refine h _ ⟨I.ok,I.os,I.bare,⟨fun b o e n hb hx=>?_,fun b o e n hb hx=>?_,I.base.free,fun b o e hx=>?_,I.base.tups,I.base.frzs,I.base.tbls⟩,⟨_,C8,fun j y v' e1 e2 e3=>?_⟩,fun y c e=>?_,I.free,I.freeC,fun p hp=>?_,tracked ⟨oL,C9,I.free⟩ hs,by simpa using I.len⟩ ⟨_,hs,.inl rfl⟩
  ·exact(hs.2 b (i4 (lc (ff e) I.ok.above))).trans (I.base.keep b o e n hb hx)
  ·obtain⟨sl,e1⟩:=I.base.slot b o e n hb hx;exact⟨sl,(hs.2 b (i4 (lc (ff e) I.ok.above))).trans e1⟩
  ·obtain⟨o',e1⟩:=I.base.there b o e hx;exact⟨o',(hs.2 b (i4 (lc (ff e) I.ok.above))).trans e1⟩
  ·by_cases hj:j=i
   ·subst hj;rw[hi]at e1;cases e1;rw[OF LK]at e2;cases e2;exact⟨u,r,.inl ⟨hk,by simp⟩⟩
   ·rw[List.getElem?_set_ne (zn hj)]at e2;obtain⟨u',r',q⟩:=hl j y v' e1 e2 e3;refine⟨u',r',?_⟩;rcases q with ⟨k,e⟩|⟨k,c,e,z⟩
    ·refine .inl ⟨k,?_⟩;have:y≠x:=fun e=>hj (wO hN e1 (e▸hi))
     simp[this,e]
    ·exact .inr ⟨k,c,e,z.sameBut hs (uI y c e)⟩
  ·obtain⟨w',z⟩:=I.cell y c e;exact⟨w',z.sameBut hs (uI y c e)⟩
  ·obtain⟨e,n,ne,nf,d⟩:=I.pin p hp;exact⟨(hs.2 p.1 ne).trans e,n,ne,nf,d⟩
 ·have rD:X.fn x=true :=by
   rcases hf with z|z
   ·exact z
   ·rw[z]at hk;cases hk
  obtain⟨c,hc⟩:=I.ok.has x (.inl hk);obtain⟨w',z⟩:=I.cell x c hc;refine wpAny_storeName_cell I.ok.kind hk hc z (fun h' Iq hs=>?_)
  obtain⟨oc,uJ,TH⟩:=id z;refine h {s with heap:=h'} ⟨I.ok,I.os,I.bare,⟨fun b o e n hb hx=>?_,fun b o e n hb hx=>?_,I.base.free,fun b o e hx=>?_,I.base.tups,I.base.frzs,I.base.tbls⟩,⟨m,hn.sameBut hs (zn (uI x c hc)),fun j y v' e1 e2 e3=>?_⟩,fun y c' e=>?_,I.free,I.freeC,fun p hp=>?_,tracked ⟨oc,uJ,I.freeC x c hc⟩ hs,by simpa using I.len⟩ ⟨c,hs,.inr hc⟩
  ·exact(hs.2 b (i4 (lc (ff e) (I.ok.cab x c rD hc)))).trans (I.base.keep b o e n hb hx)
  ·obtain⟨sl,e1⟩:=I.base.slot b o e n hb hx;exact⟨sl,(hs.2 b (i4 (lc (ff e) (I.ok.cab x c rD hc)))).trans e1⟩
  ·obtain⟨o',e1⟩:=I.base.there b o e hx;exact⟨o',(hs.2 b (i4 (lc (ff e) (I.ok.cab x c rD hc)))).trans e1⟩
  ·by_cases hj:j=i
   ·subst hj;rw[hi]at e1;cases e1;rw[OF LK]at e2;cases e2;exact⟨u,r,.inr ⟨.inl hk,c,hc,Iq⟩⟩
   ·rw[List.getElem?_set_ne (zn hj)]at e2;obtain⟨u',r',q⟩:=hl j y v' e1 e2 e3;refine⟨u',r',?_⟩;rcases q with q|⟨k,c',e,z'⟩
    ·exact .inl q
    ·refine .inr ⟨k,c',e,z'.sameBut hs ?_⟩;rintro rfl;exact hj (wO hN e1 (I.ok.inj _ _ _ e hc▸hi))
  ·by_cases uK:c'=c
   ·subst uK;exact⟨_,Iq⟩
   ·obtain⟨w2,z2⟩:=I.cell y c' e;exact⟨w2,z2.sameBut hs uK⟩
  ·obtain⟨e,n,ne,nf,d⟩:=I.pin p hp;refine⟨(hs.2 p.1 ?_).trans e,n,ne,nf,d⟩;intro q;rw[q,uJ]at e;have q':oc=p.2:=gl e;exact d w' (by rw[<- q'];exact TH)
theorem wQ {M:Model}{A:l5}{E:am->ar->Prop}{i:Nat}{x:br}{v:V}{u:am}{Q:Unit->ar->Prop}(I:Inv X pins σ H s) (hN:X.N.Nodup) (hi:X.N[i]?=some x) (hx:Loc X.env.scope x) (r:RelV v u)
  (h:∀s',Inv X pins (σ.set i (some v)) H s'->Q () s') (hf:X.fn x=true\/X.env.scope.names.lookup x=some .local :=by first|exact .inl rfl|exact .inr rfl|assumption):wpAny M A (storeName X.env x u) Q E s:=
 store_ok2 I hN hi hx r (fun s' I' _=>h s' I') hf
theorem Inv.rE {s':ar}{ch:List al}(I:Inv X pins σ H s) (ho:s'.os=s.os) (u:Un (fg X.stack) ch H H' s.heap s'.heap) (hok:c0 X.prog X.w H' s'.heap) (hg:Gn s.gens.size s'.gens)
  (qf:∀b∈ch,(b∈X.ex\/X.s₀.heap.objs.size<=b)/\b≠X.env.locals/\(∀x c,X.env.cells.lookup x=some c->c≠b)/\∀p∈X.pn++pins,p.1≠b):Inv X pins σ H' s':=by
 obtain⟨h',g',d',t',o'⟩:=s';have e:o'=s.os:=ho;subst e;exact I.call (g':=g') (t':=t') (d':=d') u hok hg qf
end
abbrev XK:=am->Option al->Hp->Prop
abbrev St:=List (Option V)
abbrev VK:=V->Hp->Prop
abbrev TE:=St->Hp->VK->Prop
abbrev TT:=St->Hp->(Bool->Hp->Prop)->Prop
abbrev TA:=St->Hp->(List V->Hp->Prop)->Prop
structure Ends where
 nx:St->Hp->Prop
 rt:VK
 bk:St->Hp->Prop:=fun _ _=>False
 ct:St->Hp->Prop:=fun _ _=>False
abbrev TS:=Ends->St->Hp->Prop
def EP (X:Cx) (pins:List (al×i8)) (σ:St) (Q:VK) (u:am) (s':ar):Prop:=∃v H',Inv X pins σ H' s'/\RelV v u/\Q v H'
def TP (X:Cx) (pins:List (al×i8)) (σ:St) (Q:Bool->Hp->Prop) (b:Bool) (s':ar):Prop:=∃H',Inv X pins σ H' s'/\Q b H'
def AP (X:Cx) (pins:List (al×i8)) (σ:St) (Q:List V->Hp->Prop) (us:List am) (s':ar):Prop:=∃vs H',Inv X pins σ H' s'/\Vals vs us/\Q vs H'
def SP (X:Cx) (pins:List (al×i8)) (D:Ends) (f:Flow) (s':ar):Prop:=
 match f with
 | .next=>∃aO H',Inv X pins aO H' s'/\D.nx aO H'
 | .brk=>∃aO H',Inv X pins aO H' s'/\D.bk aO H'
 | .cont=>∃aO H',Inv X pins aO H' s'/\D.ct aO H'
 | .ret u=>∃v aO H',Inv X pins aO H' s'/\RelV v u/\D.rt v H'
structure PE (X:Cx) (e:db) (t:TE):Prop where
 run:∀(pins:List (al×i8)) (s:ar) (σ:St) (H:Hp) (Q:VK),Inv X pins σ H s->t σ H Q->wpAny (model X.prog X.w) X.A (eval e X.env) (EP X pins σ Q) X.xe s
instance {X:Cx} {e:db} {t:TE}:CoeFun (PE X e t) (fun _=>∀(pins:List (al×i8)) (s:ar) (σ:St) (H:Hp) (Q:VK),Inv X pins σ H s->t σ H Q->wpAny (model X.prog X.w) X.A (eval e X.env) (EP X pins σ Q) X.xe s):=⟨PE.run⟩
structure PT (X:Cx) (e:db) (t:TT):Prop where
 run:∀(pins:List (al×i8)) (s:ar) (σ:St) (H:Hp) (Q:Bool->Hp->Prop),Inv X pins σ H s->t σ H Q->wpAny (model X.prog X.w) X.A (isTrue e X.env (eval e X.env)) (TP X pins σ Q) X.xe s
instance {X:Cx} {e:db} {t:TT}:CoeFun (PT X e t) (fun _=>∀(pins:List (al×i8)) (s:ar) (σ:St) (H:Hp) (Q:Bool->Hp->Prop),Inv X pins σ H s->t σ H Q->wpAny (model X.prog X.w) X.A (isTrue e X.env (eval e X.env)) (TP X pins σ Q) X.xe s):=⟨PT.run⟩
def PW (X:Cx) (e:db) (t:TT):Prop:=
 ∀(whole:W1 am) (pins:List (al×i8)) (s:ar) (σ:St) (H:Hp) (Q:Bool->Hp->Prop),Inv X pins σ H s->t σ H Q->wpAny (model X.prog X.w) X.A (isTrue e X.env whole) (TP X pins σ Q) X.xe s
theorem PW.pt {X:Cx}{e:db}{t:TT}(h:PW X e t):PT X e t:=⟨h _⟩
structure PA (X:Cx) (es:List db) (t:TA):Prop where
 run:∀(pos:u4) (pins:List (al×i8)) (s:ar) (σ:St) (H:Hp) (Q:List V->Hp->Prop),Inv X pins σ H s->t σ H Q->wpAny (model X.prog X.w) X.A (spliced (backTo pos (starEach es X.env))) (AP X pins σ Q) X.xe s
instance {X:Cx} {es:List db} {t:TA}:CoeFun (PA X es t) (fun _=>∀(pos:u4) (pins:List (al×i8)) (s:ar) (σ:St) (H:Hp) (Q:List V->Hp->Prop),Inv X pins σ H s->t σ H Q->wpAny (model X.prog X.w) X.A (spliced (backTo pos (starEach es X.env))) (AP X pins σ Q) X.xe s):=⟨PA.run⟩
structure PS (X:Cx) (st:r9) (t:TS):Prop where
 run:∀(pins:List (al×i8)) (s:ar) (σ:St) (H:Hp) (D:Ends),Inv X pins σ H s->t D σ H->wpAny (model X.prog X.w) X.A (exec st X.env) (SP X pins D) X.xe s
instance {X:Cx} {st:r9} {t:TS}:CoeFun (PS X st t) (fun _=>∀(pins:List (al×i8)) (s:ar) (σ:St) (H:Hp) (D:Ends),Inv X pins σ H s->t D σ H->wpAny (model X.prog X.w) X.A (exec st X.env) (SP X pins D) X.xe s):=⟨PS.run⟩
structure ib (X:Cx) (st:List r9) (t:TS):Prop where
 run:∀(pins:List (al×i8)) (s:ar) (σ:St) (H:Hp) (D:Ends),Inv X pins σ H s->t D σ H->wpAny (model X.prog X.w) X.A (execs st X.env) (SP X pins D) X.xe s
instance {X:Cx} {st:List r9} {t:TS}:CoeFun (ib X st t) (fun _=>∀(pins:List (al×i8)) (s:ar) (σ:St) (H:Hp) (D:Ends),Inv X pins σ H s->t D σ H->wpAny (model X.prog X.w) X.A (execs st X.env) (SP X pins D) X.xe s):=⟨ib.run⟩
theorem thn {α:Type}{t:W1 α}{Q Q':α->ar->Prop}{M:Model}{A:l5}{E:am->ar->Prop}{s:ar}(h:wpAny M A t Q E s) (hQ:∀a s,Q a s->Q' a s):wpAny M A t Q' E s:=l6 h hQ fun _ _ x=>x
section
variable {X:Cx}
theorem bin {a b:db}{ta tb:TE}(ha:PE X a ta) (hb:PE X b tb) {pins:List (al×i8)}{s:ar}{σ:St}{H:Hp}{R:V->V->Hp->Prop}(I:Inv X pins σ H s) (h:ta σ H fun x H1=>tb σ H1 fun y H2=>R x y H2)
  {α:Type} {Q:α->ar->Prop} {f:am->am->W1 α}
  (hf:∀v u s2 x y H2,Inv X pins σ H2 s2->RelV x v->RelV y u->R x y H2->wpAny (model X.prog X.w) X.A (f v u) Q X.xe s2) :
  wpAny (model X.prog X.w) X.A (eval a X.env) (fun v aC=>wpAny (model X.prog X.w) X.A (eval b X.env) (fun u je=>wpAny (model X.prog X.w) X.A (f v u) Q X.xe je) X.xe aC) X.xe s :=by
 refine thn (ha pins s σ H _ I h) fun v s1 ⟨x,H1,I1,r1,q1⟩=>?_
 refine thn (hb pins s1 σ H1 _ I1 q1) fun u s2 ⟨y,H2,I2,r2,q2⟩=>?_
 exact hf v u s2 x y H2 I2 r1 r2 q2
def LL (i:Nat):TE:=fun σ H Q=>∃v,σ[i]?=some (some v)/\Q v H
def tC (v:V):TE:=fun _ H Q=>Q v H
theorem wR {i:Nat}{x:br}{pos:u4}(hN:X.N[i]?=some x) (hv:qd X.env.scope x) (hd:(x==("__debug__" : br))=false :=by decide) (eT:(x==("__classdict__" : br))=false :=by decide):PE X (.Name x pos) (LL i) :=by
 refine⟨?_⟩;intro pins s σ H Q I h;obtain⟨v,e,h⟩:=h;obtain⟨m,hn,hl⟩:=I.loc;obtain⟨u,r,l⟩:=hl i x v hN e hv;have fin:EP X pins σ Q u s:=⟨v,H,I,r,h⟩;rcases l with ⟨hk,hm⟩|⟨hk,c,hc,wx⟩
 ·exact wpAny_Name (wpAny_loadName_local I.ok.kind hk hn hm fin) hd
 ·rcases hk with hk|hk
  ·exact wpAny_Name (wpAny_loadName_cell I.ok.kind hk hc wx fin) hd
  ·exact wpAny_Name (wpAny_loadName_free I.ok.kind hk hc wx fin eT) hd
theorem LN {i j pos}:PE X (.Constant (.int i) j pos) (tC (.int i)):=⟨fun _ _ _ H _ I h=>wpAny_Constant_int ⟨.int i,H,I.tok _,⟨_,rfl⟩,h⟩⟩
theorem Qw {b j pos}:PE X (.Constant (.bool b) j pos) (tC (.bl b)):=⟨fun _ _ _ H _ I h=>Constant_bool ⟨.bl b,H,I,rfl,h⟩⟩
theorem LO {j pos}:PE X (.Constant .none j pos) (tC .ax):=⟨fun _ _ _ H _ I h=>Constant_none ⟨.ax,H,I,rfl,h⟩⟩
theorem LQ {x j pos}:PE X (.Constant (.str x) j pos) (tC (.str x)):=⟨fun _ _ _ H _ I h=>Calls.Constant_str ⟨.str x,H,I.tok _,⟨_,rfl⟩,h⟩⟩
def Gl (X:Cx) (x:br):Prop:=X.env.kindOf x=some .globalImplicit
theorem pJ {E:am->ar->Prop}{pins:List (al×i8)}{s:ar}{σ:St}{H:Hp}{x:br}{u:am}{pos:u4}{Q:am->ar->Prop}(I:Inv X pins σ H s) (hg:Gl X x) (hm:X.mg x=some u) (h:Q u s)
  (hd:(x==("__debug__" : br))=false :=by decide):wpAny (model X.prog X.w) X.A (eval (.Name x pos) X.env) Q E s:=
 Calls.Name_function_global I.ok.kind hg (Calls.loadGlobal_global (by rw[I.ok.glob];exact I.mod.glob.keeps I.bk) hm h) hd
theorem fx {E:am->ar->Prop}{pins:List (al×i8)}{s:ar}{σ:St}{H:Hp}{x:br}{u:am}{pos:u4}{Q:am->ar->Prop}(I:Inv X pins σ H s) (hg:Gl X x) (hm:X.mg x=none) (hv:bootBuiltins x=some u) (h:Q u s)
  (hn:x ≠ "__name__" := by decide) (hd:(x==("__debug__" : br))=false :=by decide):wpAny (model X.prog X.w) X.A (eval (.Name x pos) X.env) Q E s :=by
 obtain⟨mb,h1,h2⟩:=I.mod.blt;exact Calls.Name_function_global I.ok.kind hg (Calls.loadGlobal_builtin (by rw[I.ok.glob];exact I.mod.glob.keeps I.bk) hm (by rw[I.ok.blt];exact h1.keeps I.bk) ((h2 x hn).trans hv) h) hd
theorem zW {x:br}{v:V}{u:am}{pos:u4}(hg:Gl X x) (hm:X.mg x=some u) (r:RelV v u) (hd:(x==("__debug__" : br))=false :=by decide):PE X (.Name x pos) (tC v):=⟨fun _ _ _ H _ I h=>pJ I hg hm ⟨v,H,I,r,h⟩ hd⟩
theorem JS {x:br}{v:V}{u:am}{pos:u4}(hg:Gl X x) (hm:X.mg x=none) (hv:bootBuiltins x=some u) (r:RelV v u) (hn:x ≠ "__name__" := by decide) (hd:(x==("__debug__" : br))=false :=by decide):PE X (.Name x pos) (tC v):=⟨fun _ _ _ H _ I h=>fx I hg hm hv ⟨v,H,I,r,h⟩ hn hd⟩
variable {a b:db}{ta tb:TE}{pos:u4}
def PC (X:Cx) (op:XV) (a b:db) (t:TE):Prop:=
 ∀(pins:List (al×i8)) (s:ar) (σ:St) (H:Hp) (Q:VK),Inv X pins σ H s->t σ H Q->
  wpAny (model X.prog X.w) X.A (eval a X.env) (fun v aC=>wpAny (model X.prog X.w) X.A (eval b X.env) (fun u je=>wpAny (model X.prog X.w) X.A (compareOp op v u) (EP X pins σ Q) X.xe je) X.xe aC) X.xe s
theorem Ga (b:db) {op:XV}(h:op≠.In) (h2:op≠.NotIn):behindInMarks op b=false :=by
 have e1:(op==XV.In)=false :=by cases op<;>first|rfl|exact absurd rfl h
 have e2:(op==XV.NotIn)=false :=by cases op<;>first|rfl|exact absurd rfl h2
 cases b<;>simp[behindInMarks,e1,e2]
def tB (t:TE):TT:=fun σ H Q=>t σ H fun x H1=>∃c,x=.bl c/\Q c H1
theorem U7 {op:XV}{t:TE}(h:PC X op a b t) (h1:behindInMarks op b=false :=by first|exact Ga _ (by decide) (by decide)|rfl):PT X (.Compare a [op] [b] pos) (tB t) :=by
 refine⟨?_⟩;intro pins s σ H Q I hw;refine wpAny_isTrue_Compare1 (thn (h pins s σ H _ I hw) fun v s1 h1=>thn h1 fun u s2 h2=>thn h2 fun c s3 ⟨x,H1,I1,r1,q1⟩=>?_) h1
 obtain⟨d,rfl,q⟩:=q1;cases r1;exact BY ⟨H1,I1,q⟩
theorem LR {e:db}{t:TE}(h:PE X e t) (he:∀whole,isTrue e X.env whole=(do let v <- whole;standAt e.pos;holding [v] (truthy v)) :=by intro _;rfl):PT X e (tB t) :=by
 refine⟨?_⟩;intro pins s σ H Q I hw;refine isTrue_plain (thn (h pins s σ H _ I hw) fun v s1 ⟨x,H1,I1,r1,q1⟩=>?_) (he _)
 obtain⟨d,rfl,q⟩:=q1;cases r1;exact BY ⟨H1,I1,q⟩
variable {tA rF:TT}{rest:List db}
def TJ (t u:TT):TT:=fun σ H Q=>t σ H fun c H1=>if c=true then u σ H1 Q else Q false H1
def U8 (t u:TT):TT:=fun σ H Q=>t σ H fun c H1=>if c=true then Q true H1 else u σ H1 Q
def TK (t:TT):TT:=fun σ H Q=>t σ H fun c H1=>Q (!c) H1
theorem JT (ha:PT X a tA):PW X (.BoolOp .And [a] pos) tA :=by
 intro wh pins s σ H Q I h;refine isTrue_and (thn (ha pins s σ H Q I h) fun c s1 e=>?_)
 cases c with
 |true=>exact isTrue_and_nil e
 |false=>exact e
theorem LU (ha:PT X a tA):PW X (.BoolOp .Or [a] pos) tA :=by
 intro wh pins s σ H Q I h;refine isTrue_or (thn (ha pins s σ H Q I h) fun c s1 e=>?_)
 cases c with
 |false=>exact isTrue_or_nil e
 |true=>exact e
theorem LV (ha:PT X a tA) (hb:PW X (.BoolOp .And (b::rest) pos) rF):PW X (.BoolOp .And (a::b::rest) pos) (TJ tA rF) :=by
 intro wh pins s σ H Q I h;refine isTrue_and (thn (ha pins s σ H _ I h) fun c s1 ⟨H1,I1,q1⟩=>?_)
 cases c with
 |true=>exact hb wh pins s1 σ H1 Q I1 q1
 |false=>exact⟨H1,I1,q1⟩
theorem Qx (ha:PT X a tA) (hb:PW X (.BoolOp .Or (b::rest) pos) rF):PW X (.BoolOp .Or (a::b::rest) pos) (U8 tA rF) :=by
 intro wh pins s σ H Q I h;refine isTrue_or (thn (ha pins s σ H _ I h) fun c s1 ⟨H1,I1,q1⟩=>?_)
 cases c with
 |true=>exact⟨H1,I1,q1⟩
 |false=>exact hb wh pins s1 σ H1 Q I1 q1
theorem LX (ha:PT X a tA):PT X (.UnaryOp .Not a pos) (TK tA) :=by
 refine⟨?_⟩;intro pins s σ H Q I h;exact isTrue_not (ha pins s σ H (fun c H1=>Q (!c) H1) I h)
def Qy (ta tb:TE):TE:=fun σ H Q=>ta σ H fun x H1=>∃c,x=.bl c/\if c=true then tb σ H1 Q else Q (.bl false) H1
def Qz (ta:TE):TE:=fun σ H Q=>ta σ H fun x H1=>∃c,x=.bl c/\Q (.bl (!c)) H1
theorem LY {op}{t:TE}(h:PE X a t):PE X (.BoolOp op [a] pos) t:=⟨fun pins s σ H Q I hw=>BoolOp_one (h pins s σ H Q I hw)⟩
theorem LZ (ha:PE X a ta) (hb:PE X (.BoolOp .And (b::rest) pos) tb):PE X (.BoolOp .And (a::b::rest) pos) (Qy ta tb) :=by
 refine⟨?_⟩;intro pins s σ H Q I h;refine BoolOp_and (thn (ha pins s σ H _ I h) fun v s1 ⟨x,H1,I1,r1,q1⟩=>?_)
 obtain⟨c,rfl,q1⟩:=q1;cases r1;refine BY ?_;cases c with
 |true=>exact hb pins s1 σ H1 Q I1 q1
 |false=>exact⟨.bl false,H1,I1,rfl,q1⟩
theorem L0 (ha:PE X a ta):PE X (.UnaryOp .Not a pos) (Qz ta) :=by
 refine⟨?_⟩;intro pins s σ H Q I h;refine UnaryOp_ (thn (ha pins s σ H _ I h) fun v s1 ⟨x,H1,I1,r1,q1⟩=>?_)
 obtain⟨c,rfl,q1⟩:=q1;cases r1;exact not_of (BY ⟨.bl (!c),H1,I1,rfl,q1⟩)
end
def b9 (K:bn) (H:Hp) (a:al) (xs:List V):Prop:=
 Rd H a (.lst xs) \/
  ∃(o:i8) (its:Array am) (n:Nat),K.lookup a=some o/\o.cls=.type "list" /\ o.dict=none/\o.data=.seq its n/\its.size<=sizeLine/\Vals xs its.toList
def dG (K:bn) (H:Hp) (a:al) (xs:List V):Prop:=
 Rd H a (.tup xs) \/
  ∃(o:i8) (its:Array am) (n:Nat),K.lookup a=some o/\o.cls=.type "tuple" /\ o.data=.seq its n/\its.size<=sizeLine/\Vals xs its.toList
def TL:am->Option V
 | .none=>some .ax
 | .bool b=>some (.bl b)
 | .int i _=>some (.int i)
 | .str x _=>some (.str x)
 | .bytes b _=>some (.ki b)
 | .float b _=>some (.zU b)
 | .ref a=>some (.ref a)
 | .type n=>some (.ty n)
 |_=>none
theorem RelV.abs {x:V}{u:am}(r:RelV x u):TL u=some x :=by
 cases x with
 |ax=>cases r;rfl
 |bl _=>cases r;rfl
 |int _=>obtain⟨t,rfl⟩:=r;rfl
 |str _=>obtain⟨t,rfl⟩:=r;rfl
 |ki _=>obtain⟨t,rfl⟩:=r;rfl
 |zU _=>obtain⟨t,rfl⟩:=r;rfl
 |ref _=>cases r;rfl
 |ty _=>cases r;rfl
theorem RelV.inj {x y:V}{u:am}(r:RelV x u) (q:RelV y u):x=y:=gl (r.abs.symm.trans q.abs)
theorem Vals.inj:∀{xs ys:List V}{us:List am},Vals xs us->Vals ys us->xs=ys
 |_,_,_,.nil,.nil=>rfl
 |_,_,_,.cons r t,.cons r' t'=>by rw[r.inj r',Vals.inj t t']
section
variable {X:Cx}{pins:List (al×i8)}{σ:St}{H:Hp}{s:ar}{a:al}{xs ys:List V}
theorem b9.of {K:bn}(h:H a=some (.lst xs)):b9 K H a xs:=.inl (.inl h)
theorem dG.of {K:bn}(h:H a=some (.tup xs)):dG K H a xs:=.inl (.inl h)
theorem Inv.list (I:Inv X pins σ H s) (h:b9 X.K H a xs):∃its:List am,Vals xs its/\PlainL s.heap a its.toArray/\xs.length<=sizeLine :=by
 rcases h with h|⟨o,its,n,hk,hc,hd,hs,hz,r⟩
 ·obtain⟨z,its,n,r,e⟩:=h.ok I.hok;exact⟨its,r,⟨_,n,e,rfl,rfl,rfl⟩,z⟩
 ·refine⟨its.toList,r,⟨o,n,I.iB a o hk,hc,hd,by simpa using hs⟩,?_⟩
  have e:=r.length;simp only[ww]at e;omega
theorem Inv.tuple (I:Inv X pins σ H s) (h:dG X.K H a xs):∃its:List am,Vals xs its/\IsTup s.heap a its.toArray/\xs.length<=sizeLine :=by
 rcases h with h|⟨o,its,n,hk,hc,hs,hz,r⟩
 ·obtain⟨z,its,r,p⟩:=h.ok I.hok;exact⟨its,r,my.tup p,z⟩
 ·refine⟨its.toList,r,⟨o,I.iB a o hk,hc,n,by simpa using hs⟩,?_⟩
  have e:=r.length;simp only[ww]at e;omega
theorem Inv.wU (I:Inv X pins σ H s) (h:b9 X.K H a xs) (h':b9 X.K H a ys):xs=ys :=by
 obtain⟨its,r,⟨o,n,e,_,_,d⟩,_⟩:=I.list h;obtain⟨its',r',⟨o',n',e',_,_,d'⟩,_⟩:=I.list h';rw[e]at e';cases e';rw[d]at d';injection d' with d1 _
 have:its=its':=by simpa using congrArg Array.toList d1
 subst this;exact r.inj r'
theorem Inv.uL (I:Inv X pins σ H s) (h:dG X.K H a xs) (h':dG X.K H a ys):xs=ys :=by
 obtain⟨its,r,⟨o,e,_,n,d⟩,_⟩:=I.tuple h;obtain⟨its',r',⟨o',e',_,n',d'⟩,_⟩:=I.tuple h';rw[e]at e';cases e';rw[d]at d';injection d' with d1 _
 have:its=its':=by simpa using congrArg Array.toList d1
 subst this;exact r.inj r'
end
abbrev Cx.jR (X:Cx) (E:am->ar->Prop):Cx:={X with xe:=E}
abbrev Cx.km (X:Cx):Cx:=X.jR fun _ _=>False
theorem Cx.Ok.jR {X:Cx}(ok:X.Ok) (E:am->ar->Prop):(X.jR E).Ok:=
 ⟨ok.mod,ok.kind,ok.glob,ok.blt,ok.above,ok.inj,ok.has,ok.cab,ok.hd,ok.frames,ok.stk,ok.exf,ok.bs,ok.bsz,ok.noex,ok.exfs,ok.funs,ok.frf⟩
theorem Cx.Ok.gJ {X:Cx}{E:am->ar->Prop}(ok:(X.jR E).Ok):X.Ok:=
 ⟨ok.mod,ok.kind,ok.glob,ok.blt,ok.above,ok.inj,ok.has,ok.cab,ok.hd,ok.frames,ok.stk,ok.exf,ok.bs,ok.bsz,ok.noex,ok.exfs,ok.funs,ok.frf⟩
section
variable {X:Cx}{pins:List (al×i8)}{σ:St}{H:Hp}{s:ar}{E:am->ar->Prop}
theorem Inv.jR (I:Inv X pins σ H s) (E:am->ar->Prop):Inv (X.jR E) pins σ H s:=⟨I.ok.jR E,I.os,I.bare,I.base,I.loc,I.cell,I.free,I.freeC,I.pin,I.hok,I.len⟩
theorem Inv.gJ (I:Inv (X.jR E) pins σ H s):Inv X pins σ H s:=⟨I.ok.gJ,I.os,I.bare,I.base,I.loc,I.cell,I.free,I.freeC,I.pin,I.hok,I.len⟩
theorem SP.gJ {D:Ends}{f:Flow}{s':ar}(h:SP (X.jR E) pins D f s'):SP X pins D f s':=by
 cases f with
 |next=>obtain⟨aO,H',I,q⟩:=h;exact⟨aO,H',I.gJ,q⟩
 |brk=>obtain⟨aO,H',I,q⟩:=h;exact⟨aO,H',I.gJ,q⟩
 |cont=>obtain⟨aO,H',I,q⟩:=h;exact⟨aO,H',I.gJ,q⟩
 |ret u=>obtain⟨v,aO,H',I,r,q⟩:=h;exact⟨v,aO,H',I.gJ,r,q⟩
theorem PE.km {e:db}{t:TE}(h:PE X.km e t):PE X e t:=⟨fun pins s σ H Q I hw=>
 l6 (h pins s σ H Q (I.jR _) hw) (fun _ _ ⟨v,H',I',r,q⟩=>⟨v,H',I'.gJ,r,q⟩) fun _ _ z=>FF z⟩
theorem ib.km {st:List r9}{t:TS}(h:ib X.km st t):ib X st t:=⟨fun pins s σ H D I hw=>
 l6 (h pins s σ H D (I.jR _) hw) (fun _ _ q=>q.gJ) fun _ _ z=>FF z⟩
end
section
variable {X:Cx}{st:r9}{rest:List r9}{t u:TS}{e:db}{te:TE}{pos:u4}
def QB:TS:=fun D σ H=>D.nx σ H
def TN (t u:TS):TS:=fun D σ H=>t {D with nx:=u D} σ H
theorem JU:ib X [] QB:=⟨fun _ _ σ H _ I h=>YJ ⟨σ,H,I,h⟩⟩
theorem Gb (h1:PS X st t) (h2:ib X rest u):ib X (st::rest) (TN t u) :=by
 refine⟨?_⟩;intro pins s σ H D I h;refine wpAny_execs_cons (thn (h1 pins s σ H {D with nx:=u D} I h) fun f s1 q=>?_)
 cases f with
 |next=>
  obtain⟨aO,H',I',q⟩:=q;exact h2 pins s1 aO H' D I' q
 |ret v=>exact q
 |brk=>exact q
 |cont=>exact q
theorem JV (h1:PS X st t):ib X [st] t :=by
 refine⟨?_⟩;intro pins s σ H D I h;refine wpAny_execs_cons (thn (h1 pins s σ H D I h) fun f s1 q=>?_)
 cases f with
 |next=>exact YJ q
 |ret v=>exact q
 |brk=>exact q
 |cont=>exact q
theorem Inv.quiet {pins:List (al×i8)}{σ:St}{H:Hp}{s:ar}(I:Inv X pins σ H s):interactive X.env=false :=by simp[interactive,I.ok.kind]
def QC (te:TE):TS:=fun D σ H=>te σ H fun _ H1=>D.nx σ H1
theorem JW (he:PE X e te) (hs:swapsWith e none pos.line X.env=pure false :=by rfl):PS X (.Expr e pos) (QC te) :=by
 refine⟨?_⟩;intro pins s σ H D I h;exact wpAny_Expr_any (thn (he pins s σ H _ I h) fun v s1 ⟨x,H1,I1,r1,q1⟩=>⟨σ,H1,I1,q1⟩) I.quiet hs
def TQ (te:TE):TS:=fun D σ H=>te σ H D.rt
theorem L1 (he:PE X e te):PS X (.Return (some e) pos) (TQ te) :=by
 refine⟨?_⟩;intro pins s σ H D I h;exact wpAny_Return_some (thn (he pins s σ H _ I h) fun v s1 ⟨x,H1,I1,r1,q1⟩=>⟨x,σ,H1,I1,r1,q1⟩)
def TR (c:TT) (t u:TS):TS:=fun D σ H=>c σ H fun b H1=>if b=true then t D σ H1 else u D σ H1
theorem QD {c:db}{a b:List r9}{tc:TT}(hc:PT X c tc) (ha:ib X a t) (hb:ib X b u):PS X (.If c a b pos) (TR tc t u) :=by
 refine⟨?_⟩;intro pins s σ H D I h;refine wpAny_If (thn (hc pins s σ H _ I h) fun d s1 ⟨H1,I1,q1⟩=>?_)
 cases d with
 |true=>exact ha pins s1 σ H1 D I1 q1
 |false=>exact hb pins s1 σ H1 D I1 q1
end
abbrev TG:=V->St->Hp->(St->Hp->Prop)->Prop
abbrev rG:=List V->St->Hp->(St->Hp->Prop)->Prop
def PG (X:Cx) (target:db) (t:TG):Prop:=
 ∀(pins:List (al×i8)) (s:ar) (σ:St) (H:Hp) (v:V) (u:am) (Q:St->Hp->Prop),Inv X pins σ H s->RelV v u->t v σ H Q->
  wpAny (model X.prog X.w) X.A (assign target X.env u) (fun _ s'=>∃aO H',Inv X pins aO H' s'/\Q aO H') X.xe s
def uM (X:Cx) (ts:List db) (t:rG):Prop:=
 ∀(pins:List (al×i8)) (s:ar) (σ:St) (H:Hp) (vs:List V) (us:List am) (Q:St->Hp->Prop),Inv X pins σ H s->Vals vs us->t vs σ H Q->
  wpAny (model X.prog X.w) X.A (assignInOrder ((assignEach ts X.env).map (·.2)) us) (fun _ s'=>∃aO H',Inv X pins aO H' s'/\Q aO H') X.xe s
abbrev wV:=V->V->V->Hp->(Hp->Prop)->Prop
def Gd (X:Cx) (t:wV):Prop:=
 ∀(pins:List (al×i8)) (s:ar) (σ:St) (H:Hp) (o i v:V) (ov iv u:am) (Q:Hp->Prop),Inv X pins σ H s->RelV o ov->RelV i iv->RelV v u->t o i v H Q->
  wpAny (model X.prog X.w) X.A (setItem ov iv u) (fun _ s'=>∃H',Inv X pins σ H' s'/\Q H') X.xe s
abbrev Ir:=V->V->Hp->VK->Prop
def L3 (X:Cx) (op:Z1) (t:Ir):Prop:=
 ∀(pins:List (al×i8)) (s:ar) (σ:St) (H:Hp) (x y:V) (v u:am) (Q:VK),Inv X pins σ H s->RelV x v->RelV y u->t x y H Q->
  wpAny (model X.prog X.w) X.A (inplaceOp op v u) (EP X pins σ Q) X.xe s
section
variable {X:Cx}{pos:u4}
def rH (i:Nat):TG:=fun v σ H Q=>Q (σ.set i (some v)) H
theorem JX {i:Nat}{x:br}(hN:X.N.Nodup) (hi:X.N[i]?=some x) (hx:Loc X.env.scope x) (hf:X.fn x=true\/X.env.scope.names.lookup x=some .local :=by first|exact .inl rfl|exact .inr rfl|assumption):PG X (.Name x pos) (rH i) :=by
 intro pins s σ H v u Q I r h;exact Zs (wQ I hN hi hx r (fun s' I'=>⟨_,H,I',h⟩) hf)
def TU:rG:=fun vs σ H Q=>vs=[]/\Q σ H
def QF (t:TG) (u:rG):rG:=fun vs σ H Q=>∃v r,vs=v::r/\t v σ H fun aO H'=>u r aO H' Q
theorem JY:uM X [] TU :=by
 intro pins s σ H vs us Q I r h;obtain⟨e,h⟩:=h;subst e;cases r;exact assignInOrder_nil ⟨σ,H,I,h⟩
theorem Ge {e:db}{es:List db}{t:TG}{u:rG}(h1:PG X e t) (h2:uM X es u)
  (hs:(assignEach (e::es) X.env).map (·.2)=assign e X.env::(assignEach es X.env).map (·.2) :=by rfl):uM X (e::es) (QF t u) :=by
 intro pins s σ H vs us Q I r h;obtain⟨v,vr,e1,h⟩:=h;subst e1;cases r with
 |cons r rr=>
  rw[hs];refine assignInOrder_cons (thn (h1 pins s σ H _ _ _ I r h) fun _ s1 ⟨rJ,H1,I1,q1⟩=>?_)
  exact h2 pins s1 rJ H1 _ _ Q I1 rr q1
def TV (K:bn) (n:Nat) (t:rG):TG:=fun v σ H Q=>∃a xs,v=.ref a/\dG K H a xs/\xs.length=n/\t xs σ H Q
theorem L4 {es:List db}{k:Nat}{t:rG}{n:Nat}(hc:X.calm=true) (h:uM X es t)
  (hn:(assignEach es X.env).length=n :=by rfl) (fM:(assignEach es X.env).findIdx? (·.1)=none :=by rfl):PG X (.Tuple es k pos) (TV X.K n t) :=by
 intro pins s σ H v u Q I r hw;obtain⟨a,xs,e1,hq,hl,hw⟩:=hw;subst e1;cases r;obtain⟨its,rv,ht,hz⟩:=I.tuple hq;refine assign_Tuple_tuple (I.ok.hd hc) ht (by simp[hn,<- hl,rv.length]) fM fun h' hx=>?_
 have I1:Inv X pins σ H {s with heap:=h'}:=I.kept (t':=s.toks) fun b o e=>hx b o (i4 (ff e)) e
 exact h pins _ σ H xs _ Q I1 (by simpa using rv) hw
def TX (to ti:TE) (t:wV):TG:=fun v σ H Q=>to σ H fun o H1=>ti σ H1 fun i H2=>t o i v H2 fun H3=>Q σ H3
theorem L5 {o i:db}{to ti:TE}{t:wV}(ho:PE X o to) (hi:PE X i ti) (hs:Gd X t)
  (ha:∀v,assign (.Subscript o i pos) X.env v=(do
   let ov <- holding [v] (eval o X.env)
   let iv <- holding [v,ov] (eval i X.env)
   standAt pos
   holding [v,ov,iv] (setItem ov iv v)
   release [v,ov,iv] []) :=by intro _;rfl):PG X (.Subscript o i pos) (TX to ti t) :=by
 intro pins s σ H v u Q I r h;rw[ha];refine ag (EO (thn (ho pins s σ H _ I h) fun ov s1 ⟨x,H1,I1,r1,q1⟩=>?_))
 refine ag (EO (thn (hi pins s1 σ H1 _ I1 q1) fun iv s2 ⟨y,H2,I2,r2,q2⟩=>?_))
 refine ag (EQ (ag (EO (thn (hs pins s2 σ H2 x y v ov iv u _ I2 r1 r2 r q2) fun _ s3 ⟨H3,I3,q3⟩=>?_))))
 exact wpAny_release ⟨σ,H3,I3,q3⟩
def tK (te:TE) (g:TG):TS:=fun D σ H=>te σ H fun x H1=>g x σ H1 D.nx
theorem L6 {tg e:db}{te:TE}{g:TG}(he:PE X e te) (hg:PG X tg g) (hs:swapsWithSole [tg] e pos.line X.env=pure false :=by rfl) (hw:swappedStores [tg] e X.env=pure none :=by rfl)
  (h1:(assignEach [tg] X.env).map (·.2)=[assign tg X.env] :=by rfl):PS X (.Assign [tg] e pos) (tK te g) :=by
 refine⟨?_⟩;intro pins s σ H D I h;refine wpAny_Assign_stores (thn (he pins s σ H _ I h) fun v s1 ⟨x,H1,I1,r1,q1⟩=>?_) hs hw
 rw[h1];exact thn (hg pins s1 σ H1 x v _ I1 r1 q1) fun _ s2 q=>q
theorem L7 {i:Nat}{x:br}{e:db}{te:TE}{pos':u4}(hN:X.N.Nodup) (hi:X.N[i]?=some x) (hx:Loc X.env.scope x) (he:PE X e te) (hs:swapsWith e (some (.Name x pos')) pos.line X.env=pure false :=by rfl) (hf:X.fn x=true\/X.env.scope.names.lookup x=some .local :=by first|exact .inl rfl|exact .inr rfl|assumption) :
  PS X (.Assign [.Name x pos'] e pos) (tK te (rH i)) :=by
 refine⟨?_⟩;intro pins s σ H D I h;refine wpAny_Assign_Name (thn (he pins s σ H _ I h) fun v s1 ⟨y,H1,I1,r1,q1⟩=>?_) hs
 exact wQ I1 hN hi hx r1 (fun s2 I2=>⟨_,H1,I2,q1⟩) hf
def QH (to ti te:TE) (Bb:V->V->Hp->VK->Prop) (Iu:Ir) (Bc:wV):TS:=fun D σ H=>to σ H fun o H1=>ti σ H1 fun i H2=>Bb o i H2 fun x H3=>te σ H3 fun y H4=>Iu x y H4 fun z H5=>Bc o i z H5 fun H6=>D.nx σ H6
def L8 (X:Cx) (t:V->V->Hp->VK->Prop):Prop:=
 ∀(pins:List (al×i8)) (s:ar) (σ:St) (H:Hp) (o i:V) (ov iv:am) (Q:VK),Inv X pins σ H s->RelV o ov->RelV i iv->t o i H Q->
  wpAny (model X.prog X.w) X.A (getItem ov iv) (EP X pins σ Q) X.xe s
theorem JZ {o i e:db}{to ti te:TE}{Bb:V->V->Hp->VK->Prop}{Iu:Ir}{Bc:wV}{op:Z1}{Bd:u4}(ho:PE X o to) (hi:PE X i ti) (hg:L8 X Bb) (he:PE X e te) (hp:L3 X op Iu) (hs:Gd X Bc)
  (ha:∀ov iv new,augStore i ov iv new=(do holding [new,ov,iv] (setItem ov iv new);release [new,ov,iv] [];pure .next) :=by intros;rfl):PS X (.AugAssign (.Subscript o i Bd) op e pos) (QH to ti te Bb Iu Bc) :=by
 refine⟨?_⟩;intro pins s σ H D I h;refine wpAny_AugAssign_SubscriptAny (thn (ho pins s σ H _ I h) fun ov s1 ⟨x1,H1,I1,r1,q1⟩=>?_) ha
 refine thn (hi pins s1 σ H1 _ I1 q1) fun iv s2 ⟨x2,H2,I2,r2,q2⟩=>?_
 refine thn (hg pins s2 σ H2 x1 x2 ov iv _ I2 r1 r2 q2) fun old s3 ⟨x3,H3,I3,r3,q3⟩=>?_
 refine thn (he pins s3 σ H3 _ I3 q3) fun v s4 ⟨x4,H4,I4,r4,q4⟩=>?_
 refine thn (hp pins s4 σ H4 x3 x4 old v _ I4 r3 r4 q4) fun new s5 ⟨x5,H5,I5,r5,q5⟩=>?_
 exact thn (hs pins s5 σ H5 x1 x2 x5 ov iv new _ I5 r1 r2 r5 q5) fun _ s6 ⟨H6,I6,q6⟩=>⟨σ,H6,I6,q6⟩
def Sb (f:Int->Int->Int):Ir:=fun x y H Q=>∃i j,x=.int i/\y=.int j/\Q (.int (f i j)) H
theorem L9:L3 X .Add (Sb fun i j=>i+j) :=by
 intro pins s σ H x y v u Q I r1 r2 h;obtain⟨i,j,e1,e2,q⟩:=h;subst e1;subst e2;obtain⟨t,rfl⟩:=r1;obtain⟨t',rfl⟩:=r2;exact iadd_int ⟨.int _,H,I.tok _,⟨_,rfl⟩,q⟩
def Dc (c:TT) (tb:TS):TS:=fun D σ H=>∃W:Nat->St->Hp->Prop,(∃m,W m σ H)/\∀m σ H,W m σ H->
 c σ H fun b H1=>if b=true then ∃N:St->Hp->Prop,(∀aO H',N aO H'->∃m',m'<m/\W m' aO H')/\tb {D with nx:=N,ct:=N,bk:=D.nx} σ H1 else D.nx σ H1
theorem Gf {c:db}{body:List r9}{tc:TT}{tb:TS}(hp:ZM (model X.prog X.w) X.A X.env X.xe) (hc:PT X c tc) (hb:ib X body tb):PS X (.While c body [] pos) (Dc tc tb) :=by
 refine⟨?_⟩;intro pins s σ H D I h;obtain⟨W,⟨m0,w0⟩,turn⟩:=h;refine wpAny_While (codeAny_whileLoop (fun n s'=>∃aO H',Inv X pins aO H' s'/\W n aO H') ?_ m0 ⟨σ,H,I,w0⟩)
 rintro n s1 ⟨rJ,H1,I1,w1⟩;refine OR hp (thn (hc pins s1 rJ H1 _ I1 (turn n rJ H1 w1)) fun b s2 ⟨H2,I2,q2⟩=>?_)
 cases b with
 |true=>
  obtain⟨N,hN,q2⟩:=q2;rw[if_pos rfl];refine OR hp (thn (hb pins s2 rJ H2 _ I2 q2) fun f s3 q3=>?_)
  cases f with
  |next=>
   obtain⟨nQ,H3,I3,n3⟩:=q3;obtain⟨m',hm,w3⟩:=hN nQ H3 n3;exact⟨m',hm,nQ,H3,I3,w3⟩
  |cont=>
   obtain⟨nQ,H3,I3,n3⟩:=q3;obtain⟨m',hm,w3⟩:=hN nQ H3 n3;exact⟨m',hm,nQ,H3,I3,w3⟩
  |brk=>exact q3
  |ret v=>exact q3
 |false=>
  rw[if_neg ij];exact YJ ⟨rJ,H2,I2,q2⟩
end
structure It where
 go:Nat->Hp->Prop
 yld:Nat->Hp->V->Hp->Prop
 stop:Nat->Hp->Prop
def cK (X:Cx) (pins:List (al×i8)) (H:Hp) (b:al):Prop:=
 H b=none/\b≠X.env.locals/\b ∉ X.fs/\(b∈X.ex\/X.s₀.heap.objs.size<=b)/\(∀x c,X.env.cells.lookup x=some c->c≠b)/\∀p∈X.pn++pins,p.1≠b
theorem Inv.jf {X:Cx}{pins:List (al×i8)}{σ:St}{H H':Hp}{s:ar}{b:al}(I:Inv X pins σ H s) (hb:s.heap.objs.size<=b) (hn:H' b=none):cK X pins H' b :=by
 refine⟨hn,Gc (lc I.lt hb),I.LI hb,.inr (sw I.sz hb),fun x c e z=>?_,fun p hp z=>?_⟩
 ·obtain⟨v,q⟩:=I.cell x c e;exact absurd (lc q.lt (by rw[z];exact hb)) (FS _)
 ·exact absurd (lc (ff (I.pin p hp).1) (by rw[z];exact hb)) (FS _)
structure Turn (P:en) (w:ii) (K:bn) (tg:db) (J:It) (fp:List al) (it:al) (tn:Nat->hX->Prop):Prop where
 mem:it∈fp
 obj:∀i h,tn i h->∀b∈fp,∃o,h.get? b=some o/\∀v,o.data≠.cell v
 keep:∀i h h',tn i h->(∀b∈fp,∀o,h.get? b=some o->h'.get? b=some o)->tn i h'
 item:∀(X:Cx),X.prog=P->X.w=w->X.K=K->X.calm=true->∀(i:Nat) (pins:List (al×i8)) (s:ar) (σ:St) (H:Hp) (E:am->ar->Prop),Inv X pins σ H s->(∀b∈fp,cK X pins H b)->tn i s.heap->J.go i H->
  wpAny (model P w) X.A (pyNext (.ref it)) (fun r s1=>∃u,r=some u /\
   wpAny (model P w) X.A (letOwnedTupleGo tg (.ref it) u) (fun _ s2=>∃x H',Inv X pins σ H' s2/\RelV x u/\J.yld i H x H'/\tn (i+1) s2.heap/\∀b∈fp,H' b=none) E s1) E s
 done:∀(X:Cx),X.prog=P->X.w=w->X.K=K->X.calm=true->∀(i:Nat) (pins:List (al×i8)) (s:ar) (σ:St) (H:Hp) (E:am->ar->Prop),Inv X pins σ H s->(∀b∈fp,cK X pins H b)->tn i s.heap->J.stop i H->
  wpAny (model P w) X.A (pyNext (.ref it)) (fun r s1=>r=none/\Inv X pins σ H s1) E s
 self:∀(A:l5) (i:Nat) (s:ar) (Q:am->ar->Prop) (E:am->ar->Prop),tn i s.heap->Q (.ref it) s->wpAny (model P w) A (pyIter (.ref it)) Q E s
abbrev TI:=St->Hp->(It->Hp->Prop)->Prop
def Ma (X:Cx) (pins:List (al×i8)) (σ:St) (tg:db) (R:It->Hp->Prop) (uN:am) (s2:ar):Prop:=
 ∃(it:al) (fp:List al) (tn:Nat->hX->Prop) (J:It) (H':Hp),uN=.ref it/\Inv X pins σ H' s2/\Turn X.prog X.w X.K tg J fp it tn/\tn 0 s2.heap/\(∀b∈fp,cK X pins H' b)/\R J H'
def PI (X:Cx) (tg iter:db) (wi:TI):Prop:=
 ∀(pins:List (al×i8)) (s:ar) (σ:St) (H:Hp) (R:It->Hp->Prop),Inv X pins σ H s->wi σ H R->
  wpAny (model X.prog X.w) X.A (eval iter X.env) (fun v s1=>wpAny (model X.prog X.w) X.A (pyIter v) (Ma X pins σ tg R) X.xe s1) X.xe s
theorem rK {M:Model}{A:l5}{E:am->ar->Prop}{s:ar}{tg:db}{it:al}{u:am}{o:i8}{n:String}{vs:Array am}{Q:Unit->ar->Prop}(ho:s.heap.get? it=some o) (hc:o.cls=.type n) (hd:o.data=.fields vs)
  (hn:["enumerate","zip","dict_itemiterator","dict_reverseitemiterator","odict_iterator","itertools.zip_longest","itertools.pairwise"].contains n=false) (hQ:Q () s):wpAny M A (letOwnedTupleGo tg (.ref it) u) Q E s :=by
 unfold letOwnedTupleGo;cases tg<;>first
  |exact bi hQ
  |(cases u<;>first
    |exact bi hQ
    |(refine ag (Z2 ho ?_)
      rw[hc,hd];show wpAny M A (if (["enumerate","zip","dict_itemiterator","dict_reverseitemiterator","odict_iterator","itertools.zip_longest","itertools.pairwise"].contains n && vs[0]?==some (rawInt _))=true then _ else _) Q E s
      rw[if_neg (by intro h;rw[hn,WI]at h;cases h)]
      exact bi hQ))
def Mb (K:bn) (a:al):It:=
 ⟨fun i H=>∃xs x,b9 K H a xs/\xs[i]?=some x,fun i H x H'=>H'=H/\∀xs,b9 K H a xs->xs[i]?=some x,fun i H=>∃xs,b9 K H a xs/\xs.length<=i⟩
def Md (K:bn) (a:al):It:=
 ⟨fun i H=>∃xs x,dG K H a xs/\xs[i]?=some x,fun i H x H'=>H'=H/\∀xs,dG K H a xs->xs[i]?=some x,fun i H=>∃xs,dG K H a xs/\xs.length<=i⟩
def Dd (lo:Int) (n:Nat):It:=⟨fun i _=>i<n,fun i H x H'=>H'=H/\x=.int (lo+i),fun i _=>n<=i⟩
theorem De {P:en}{w:ii}{K:bn}{tg:db}(a it:al):Turn P w K tg (Mb K a) [it] it (fun i h=>h.IsListIter it a i) where
 mem :=by simp
 obj:=fun i h st b hb=>by
  have e:b=it :=by simpa using hb
  subst e;obtain⟨o,e,c,d⟩:=st;exact⟨o,e,fun v z=>by rw[d]at z;cases z⟩
 keep:=fun i h h' st k=>st.at fun o e=>k it (by simp) o e
 item :=by
  intro X hP hw hK hc i pins s σ H E I hf st hg;subst hP hw hK;obtain⟨xs,x,hq,hx⟩:=hg;obtain⟨its,rv,p,hz⟩:=I.list hq;obtain⟨u,hu,ru⟩:=rv.get hx;obtain⟨f0,f1,f2,f3,f4,f5⟩:=hf it (by simp)
  refine wpAny_pyNext_list_item st p.isList (x:=u) (by simpa using hu) fun h' lC sb=>?_
  have I1:Inv X pins σ H {s with heap:=h'}:=I.turned (t':=s.toks) (fun b o hb e=>(sb.2 b hb).trans e) f0 f1 f3 f4 f5
  obtain⟨o,e,c,d⟩:=id lC;exact⟨u,rfl,rK (s:={s with heap:=h'}) e c d (by decide) ⟨x,H,I1,ru,⟨rfl,fun ys hy=>by rw[I.wU hy hq];exact hx⟩,lC,fun b hb=>(hf b hb).1⟩⟩
 done :=by
  intro X hP hw hK hc i pins s σ H E I hf st hg;subst hP hw hK;obtain⟨xs,hq,hx⟩:=hg;obtain⟨its,rv,p,hz⟩:=I.list hq;obtain⟨f0,f1,f2,f3,f4,f5⟩:=hf it (by simp)
  have hl:=rv.length;exact wpAny_pyNext_list_end (I.ok.hd hc) st p.isList (by simp;omega) fun h' eb=>⟨rfl,I.turned (t':=s.toks) (fun b o hb e=>eb b o hb e) f0 f1 f3 f4 f5⟩
 self:=fun _ _ _ _ _ st h=>wpAny_pyIter_listiter st h
theorem Be {P:en}{w:ii}{K:bn}{tg:db}(a it:al):Turn P w K tg (Md K a) [it] it (fun i h=>h.IsTupleIter it a i) where
 mem :=by simp
 obj:=fun i h st b hb=>by
  have e:b=it :=by simpa using hb
  subst e;obtain⟨o,e,c,d⟩:=st;exact⟨o,e,fun v z=>by rw[d]at z;cases z⟩
 keep:=fun i h h' st k=>st.at fun o e=>k it (by simp) o e
 item :=by
  intro X hP hw hK hc i pins s σ H E I hf st hg;subst hP hw hK;obtain⟨xs,x,hq,hx⟩:=hg;obtain⟨its,rv,p,hz⟩:=I.tuple hq;obtain⟨u,hu,ru⟩:=rv.get hx;obtain⟨f0,f1,f2,f3,f4,f5⟩:=hf it (by simp)
  refine wpAny_pyNext_tuple_item st (show s.heap.IsTuple a its.toArray from p) (x:=u) (by simpa using hu) fun h' lC sb=>?_
  have I1:Inv X pins σ H {s with heap:=h'}:=I.turned (t':=s.toks) (fun b o hb e=>(sb.2 b hb).trans e) f0 f1 f3 f4 f5
  obtain⟨o,e,c,d⟩:=id lC;exact⟨u,rfl,rK (s:={s with heap:=h'}) e c d (by decide) ⟨x,H,I1,ru,⟨rfl,fun ys hy=>by rw[I.uL hy hq];exact hx⟩,lC,fun b hb=>(hf b hb).1⟩⟩
 done :=by
  intro X hP hw hK hc i pins s σ H E I hf st hg;subst hP hw hK;obtain⟨xs,hq,hx⟩:=hg;obtain⟨its,rv,p,hz⟩:=I.tuple hq;obtain⟨f0,f1,f2,f3,f4,f5⟩:=hf it (by simp)
  have hl:=rv.length;exact wpAny_pyNext_tuple_end (I.ok.hd hc) st (show s.heap.IsTuple a its.toArray from p) (by simp;omega) fun h' eb=>⟨rfl,I.turned (t':=s.toks) (fun b o hb e=>eb b o hb e) f0 f1 f3 f4 f5⟩
 self:=fun _ _ _ _ _ st h=>wpAny_pyIter_tupleiter st h
theorem Bf {P:en}{w:ii}{K:bn}{tg:db}(it:al) (lo:Int) (n:Nat):Turn P w K tg (Dd lo n) [it] it (fun i h=>IsRangeIter h it (lo+(i:Nat) * 1) ((n:Int) - (i:Nat)) 1) where
 mem :=by simp
 obj:=fun i h st b hb=>by
  have e:b=it :=by simpa using hb
  subst e;exact⟨_,st,fun v z=>by
   have z':Data.fields _=Data.cell v:=z;cases z'⟩
 keep:=fun i h h' st k=>k it (by simp) _ st
 item :=by
  intro X hP hw hK hc i pins s σ H E I hf st hg;subst hP hw hK;obtain⟨f0,f1,f2,f3,f4,f5⟩:=hf it (by simp)
  have W:=ZN.range (prog:=X.prog) (w:=X.w) (I.ok.hd hc) it lo 1 n;refine W.item i s _ _ hg st fun v h' tk hv lC kk=>?_
  obtain⟨t,rfl⟩:=hv;have I1:Inv X pins σ H {s with heap:=h',toks:=tk}:=I.turned (fun b o hb e=>kk b o (by simpa using hb) e) f0 f1 f3 f4 f5
  refine⟨_,rfl,rK (s:={s with heap:=h',toks:=tk}) (n := "range_iterator") lC rfl rfl (by decide) ⟨.int (lo+i),H,I1,⟨t,?_⟩,⟨rfl,rfl⟩,lC,fun b hb=>(hf b hb).1⟩⟩
  rw[Int.mul_one]
 done :=by
  intro X hP hw hK hc i pins s σ H E I hf st hg;subst hP hw hK;obtain⟨f0,f1,f2,f3,f4,f5⟩:=hf it (by simp)
  exact wpAny_pyNext_range_end (I.ok.hd hc) st (by have:n<=i:=hg;omega) fun h' eb=>⟨rfl,I.turned (t':=s.toks) (fun b o hb e=>eb b o hb e) f0 f1 f3 f4 f5⟩
 self:=fun _ _ _ _ _ st h=>wpAny_pyIter_rangeiter st h
section
variable {X:Cx}{tg:db}
def Iv (K:bn) (tl:TE):TI:=fun σ H R=>tl σ H fun x H1=>∃a,x=.ref a/\(∃xs,b9 K H1 a xs)/\R (Mb K a) H1
def Mf (K:bn) (tl:TE):TI:=fun σ H R=>tl σ H fun x H1=>∃a,x=.ref a/\(∃xs,dG K H1 a xs)/\R (Md K a) H1
theorem J0 {l:db}{tl:TE}(hl:PE X l tl):PI X tg l (Iv X.K tl) :=by
 intro pins s σ H R I h;refine thn (hl pins s σ H _ I h) fun v s1 ⟨x,H1,I1,r1,q1⟩=>?_
 obtain⟨a,e,⟨xs,hq⟩,q⟩:=q1;subst e;cases r1;obtain⟨its,rv,p,hz⟩:=I1.list hq;refine Yl p.isList ?_;refine⟨s1.heap.objs.size,[s1.heap.objs.size],_,_,H1,rfl,I1.kept (t':=s1.toks) fun b o e=>ba _ e,De a _,⟨_,ci _ rfl,rfl,rfl⟩,fun b hb=>?_,q⟩
 have e:b=s1.heap.objs.size :=by simpa using hb
 subst e;exact I1.jf (cb _) (I1.hok.fresh (cb _))
theorem Mg {l:db}{tl:TE}(hl:PE X l tl):PI X tg l (Mf X.K tl) :=by
 intro pins s σ H R I h;refine thn (hl pins s σ H _ I h) fun v s1 ⟨x,H1,I1,r1,q1⟩=>?_
 obtain⟨a,e,⟨xs,hq⟩,q⟩:=q1;subst e;cases r1;obtain⟨its,rv,p,hz⟩:=I1.tuple hq;refine Tk (show s1.heap.IsTuple a its.toArray from p) ?_;refine⟨s1.heap.objs.size,[s1.heap.objs.size],_,_,H1,rfl,I1.kept (t':=s1.toks) fun b o e=>ba _ e,Be a _,⟨_,ci _ rfl,rfl,rfl⟩,fun b hb=>?_,q⟩
 have e:b=s1.heap.objs.size :=by simpa using hb
 subst e;exact I1.jf (cb _) (I1.hok.fresh (cb _))
theorem wW {pins:List (al×i8)}{σ:St}{H:Hp}{s:ar}{R:It->Hp->Prop}{E:am->ar->Prop}{lo hi:Int}{t u v:Y1}{tk:Nat}(I:Inv X pins σ H s) (h1 : -(2 ^ 62)<=lo) (h2:lo<2 ^ 62) (h3 : -(2 ^ 62)<=hi) (h4:hi<2 ^ 62)
  (q:R (Dd lo (hi - lo).toNat) H):wpAny (model X.prog X.w) X.A (pyIter (.ref s.heap.objs.size)) (Ma X pins σ tg R) E {s with heap:=s.heap.push {cls:=.type "range",data:=.fields #[.int lo t,.int hi u,.int 1 v]},toks:=tk}:=by
 refine wpAny_pyIter_range (aac.new ..) (small_one h1 h2 h3 h4) ?_;have I1:Inv X pins σ H {s with heap:=s.heap.push {cls:=.type "range",data:=.fields #[.int lo t,.int hi u,.int 1 v]},toks:=tk}:=I.kept fun b o e=>ba _ e
 refine⟨(s.heap.push {cls:=.type "range",data:=.fields #[.int lo t,.int hi u,.int 1 v]}).objs.size,[(s.heap.push {cls:=.type "range",data:=.fields #[.int lo t,.int hi u,.int 1 v]}).objs.size],_,_,H,rfl,
  I1.kept (t':=tk) fun b o e=>ba _ e,Bf _ lo (hi - lo).toNat,?_,fun b hb=>?_,q⟩
 ·have e1:lo+((0:Nat):Int) * 1=lo :=by simp
  have e2:(((hi - lo).toNat:Nat):Int) - ((0:Nat):Int)=mf.Range.rangeSize lo hi 1 :=by rw[rangeSize_one];split<;>omega
  show IsRangeIter _ _ (lo+((0:Nat):Int) * 1) ((((hi - lo).toNat:Nat):Int) - ((0:Nat):Int)) 1;rw[e1,e2];exact ci _ rfl
 ·have e:b=(s.heap.push {cls:=.type "range",data:=.fields #[.int lo t,.int hi u,.int 1 v]}).objs.size :=by simpa using hb
  subst e;exact I1.jf (cb _) (I1.hok.fresh (cb _))
def Iw (ta:TA):TI:=fun σ H R=>ta σ H fun vs H1=>∃j:Int,vs=[.int j] /\ -(2 ^ 62)<=j/\j<2 ^ 62/\R (Dd 0 j.toNat) H1
def Iy (ta:TA):TI:=fun σ H R=>ta σ H fun vs H1=>∃i j:Int,vs=[.int i,.int j]/\(-(2 ^ 62)<=i/\i<2 ^ 62 /\ -(2 ^ 62)<=j/\j<2 ^ 62)/\R (Dd i (j - i).toNat) H1
theorem Dg {a:db}{ta:TA}{p pos:u4}(hg:Gl X "range") (hm:X.mg "range" = none) (ha:PA X [a] ta) (hs:starEach [a] X.env=[(false,eval a X.env)] :=by rfl):PI X tg (.Call (.Name "range" p) [a] [] pos) (Iw ta) :=by
 intro pins s σ H R I h;refine Call_ (fx I hg hm Z3 (xb (thn (ha pos pins s σ H _ I h) fun us s1 ⟨vs,H1,I1,r1,q1⟩=>?_) hs rfl))
 obtain⟨j,e,q1,q2,q⟩:=q1;subst e;cases r1 with
 |cons r rr=>
  cases rr;obtain⟨t,rfl⟩:=r;exact call_range_1 (wW I1 (by omega) (by omega) q1 q2 (by simpa using q))
theorem Dh {a b:db}{ta:TA}{p pos:u4}(hg:Gl X "range") (hm:X.mg "range" = none) (ha:PA X [a,b] ta) (hs:starEach [a,b] X.env=[(false,eval a X.env),(false,eval b X.env)] :=by rfl) (nR:starEach [b] X.env=[(false,eval b X.env)] :=by rfl) :
  PI X tg (.Call (.Name "range" p) [a,b] [] pos) (Iy ta) :=by
 intro pins s σ H R I h;refine Call_ (fx I hg hm Z3 (xb (thn (ha pos pins s σ H _ I h) fun us s1 ⟨vs,H1,I1,r1,q1⟩=>?_) (by rw[hs,nR]) (by rw[nR];rfl)))
 obtain⟨i,j,e,⟨q1,q2,q3,q4⟩,q⟩:=q1;subst e;cases r1 with
 |cons r rr=>
  cases rr with
  |cons r' rr=>
   cases rr;obtain⟨t,rfl⟩:=r;obtain⟨t',rfl⟩:=r';exact call_range_2 (wW I1 q1 q2 q3 q4 q)
def Mi (wi:TI) (g:TG) (tb:TS):TS:=fun D σ H=>wi σ H fun J H1=>∃W:Nat->Nat->St->Hp->Prop,(∃m,W 0 m σ H1)/\∀i m σ H,W i m σ H->
 (J.stop i H/\D.nx σ H)\/(J.go i H/\∃N:St->Hp->Prop,(∀aO H',N aO H'->∃m',m'<m/\W (i+1) m' aO H')/\∀x H',J.yld i H x H'->g x σ H' fun rL H2=>tb {D with nx:=N,ct:=N,bk:=D.nx} rL H2)
def mK (fp:List al) (h:hX):List (al×i8):=fp.filterMap fun b=>(h.get? b).map fun o=>(b,o)
theorem gh {fp:List al}{h:hX}{b:al}{o:i8}(hb:b∈fp) (e:h.get? b=some o):(b,o)∈mK fp h:=Zg.mpr ⟨b,hb,by rw[e];rfl⟩
theorem Di {fp:List al}{h:hX}{p:al×i8}(hp:p∈mK fp h):p.1∈fp/\h.get? p.1=some p.2 :=by
 obtain⟨b,hb,e⟩:=Zg.mp hp;cases q:h.get? b with
 |none=>rw[q]at e;cases e
 |some o=>
  rw[q]at e;have e':(b,o)=p:=gl e;subst e';exact⟨hb,q⟩
theorem Inv.pinned {pins:List (al×i8)}{σ:St}{H:Hp}{s:ar}{fp:List al}(I:Inv X pins σ H s) (hf:∀b∈fp,cK X pins H b) (ho:∀b∈fp,∃o,s.heap.get? b=some o/\∀v,o.data≠.cell v):Inv X (pins++mK fp s.heap) σ H s:=
 I.tJ fun p hp=>(zw.mp hp).elim (fun z=>I.pin p (l3 _ z)) fun z=>by
  obtain⟨hb,e⟩:=Di z;obtain⟨f0,f1,f2,_⟩:=hf p.1 hb;obtain⟨o,e',d⟩:=ho p.1 hb;rw[e]at e';cases e';exact⟨e,f0,f1,f2,d⟩
theorem Inv.gV {pins pl:List (al×i8)}{σ:St}{H:Hp}{s:ar}(I:Inv X (pins++pl) σ H s):Inv X pins σ H s:=I.tJ fun p hp=>I.pin p (l3 _ (AN _ hp))
theorem Mj {iter:db}{body:List r9}{wi:TI}{g:TG}{tb:TS}{pos:u4}(hp:ZM (model X.prog X.w) X.A X.env X.xe) (hc:X.calm=true) (hi:PI X tg iter wi) (hg:PG X tg g) (hb:ib X body tb)
  (hs:∀x,foldedSetIterable iter X.env x=pure x :=by intro _;rfl):PS X (.For tg iter body [] pos) (Mi wi g tb) :=by
 refine⟨?_⟩;intro pins s σ H D I h;refine wpAny_For (thn (hi pins s σ H _ I h) fun v s1 h1=>thn h1 fun uN s2 h2=>?_) hs
 obtain⟨it,fp,tn,J,H2,e,I2,T,mL,f2,W,⟨m0,w0⟩,turn⟩:=h2;subst e;have stat:∀{H':Hp},(∀b∈fp,H' b=none)->∀b∈fp,cK X pins H' b:=fun hn b hb=>⟨hn b hb,(f2 b hb).2⟩
 refine codeAny_forLoop_any (fun n s'=>∃i aO H',Inv X pins aO H' s'/\tn i s'.heap/\(∀b∈fp,H' b=none)/\W i n aO H') ?_ m0 ⟨0,σ,H2,I2,mL,fun b hb=>(f2 b hb).1,w0⟩
 rintro n s3 ⟨i,nQ,H3,I3,uO,Dj,w3⟩;rcases turn i n nQ H3 w3 with ⟨stop,qn⟩|⟨go,N,hN,step⟩
 ·refine OR hp (thn (T.done X rfl rfl rfl hc i pins s3 nQ H3 X.xe I3 (stat Dj) uO stop) fun r s4 ⟨hr,I4⟩=>?_)
  subst hr;exact YJ ⟨nQ,H3,I4,qn⟩
 ·refine OR hp (thn (T.item X rfl rfl rfl hc i pins s3 nQ H3 X.xe I3 (stat Dj) uO go) fun r s4 ⟨u,hr,h4⟩=>?_)
  subst hr;refine OR hp (thn h4 fun _ s5 ⟨x,H5,I5,r5,y5,oh,Dk⟩=>?_)
  have Dl:=I5.pinned (stat Dk) (T.obj _ _ oh);refine OR hp (thn (hg _ s5 nQ H5 x u _ Dl r5 (step x H5 y5)) fun _ s6 ⟨U9,H6,I6,q6⟩=>?_)
  refine OR hp (thn (hb _ s6 U9 H6 _ I6 q6) fun f s7 q7=>?_)
  have again:∀{oi:St} {H7:Hp},Inv X (pins++mK fp s5.heap) oi H7 s7->N oi H7->∃m,m<n/\∃i aO H',Inv X pins aO H' s7/\tn i s7.heap/\(∀b∈fp,H' b=none)/\W i m aO H':=fun {oi H7} I7 n7=>by
   obtain⟨m',hm,w7⟩:=hN oi H7 n7;refine⟨m',hm,i+1,oi,H7,I7.gV,T.keep _ _ _ oh fun b hb o e=>(I7.pin (b,o) (l3 _ (l3 _ (gh hb e)))).1,fun b hb=>?_,w7⟩
   obtain⟨o,e,d⟩:=T.obj _ _ oh b hb;exact(I7.pin (b,o) (l3 _ (l3 _ (gh hb e)))).2.1
  cases f with
  |next=>obtain⟨oi,H7,I7,n7⟩:=q7;exact again I7 n7
  |cont=>obtain⟨oi,H7,I7,n7⟩:=q7;exact again I7 n7
  |brk=>obtain⟨oi,H7,I7,q7⟩:=q7;exact⟨oi,H7,I7.gV,q7⟩
  |ret v=>obtain⟨x7,oi,H7,I7,r7,q7⟩:=q7;exact⟨x7,oi,H7,I7.gV,r7,q7⟩
end
abbrev R2:=V->V->Hp->VK->Prop
def OpR (X:Cx) (f:am->am->W1 am) (r:R2):Prop:=
 ∀(pins:List (al×i8)) (s:ar) (σ:St) (H:Hp) (x y:V) (v u:am) (Q:VK),Inv X pins σ H s->RelV x v->RelV y u->r x y H Q->
  wpAny (model X.prog X.w) X.A (f v u) (EP X pins σ Q) X.xe s
def dM (X:Cx) (f:am) (r:List V->Hp->VK->Prop):Prop:=
 ∀(pins:List (al×i8)) (s:ar) (σ:St) (H:Hp) (xs:List V) (us:List am) (Q:VK),Inv X pins σ H s->Vals xs us->r xs H Q->
  wpAny (model X.prog X.w) X.A (call f us) (EP X pins σ Q) X.xe s
def TY (X:Cx) (r:V->Hp->(Bool->Hp->Prop)->Prop):Prop:=
 ∀(pins:List (al×i8)) (s:ar) (σ:St) (H:Hp) (x:V) (v:am) (Q:Bool->Hp->Prop),Inv X pins σ H s->RelV x v->r x H Q->
  wpAny (model X.prog X.w) X.A (truthy v) (TP X pins σ Q) X.xe s
def Dm (r:R2) (ta tb:TE):TE:=fun σ H Q=>ta σ H fun x H1=>tb σ H1 fun y H2=>r x y H2 Q
def rI (C:Int->Int->Prop) (g:Int->Int->V):R2:=fun x y H Q=>∃i j,x=.int i/\y=.int j/\C i j/\Q (g i j) H
def qg (g:Int->Int->V):R2:=fun x y H Q=>∃i j,x=.int i/\y=.int j/\Q (g i j) H
section
variable {X:Cx}{a b c:db}{ta tb tc:TE}{pos:u4}
theorem Gg (ha:PE X a ta) (hb:PE X b tb) {pins:List (al×i8)}{s:ar}{σ:St}{H:Hp}{R:V->V->Hp->Prop}(I:Inv X pins σ H s)
  (h:ta σ H fun x H1=>tb σ H1 fun y H2=>R x y H2) {Q:am->ar->Prop} {f:am->am->W1 am}
  (hf:∀v u s2 x y H2,Inv X pins σ H2 s2->RelV x v->RelV y u->R x y H2->wpAny (model X.prog X.w) X.A (f v u) Q X.xe s2) :
  wpAny (model X.prog X.w) X.A (eval a X.env) (fun v aC=>wpAny (model X.prog X.w) X.A (eval b X.env) (fun u je=>wpAny (model X.prog X.w) X.A (f v u) Q X.xe je) X.xe aC) X.xe s :=by
 refine thn (ha pins s σ H _ I h) fun v s1 ⟨x,H1,I1,r1,q1⟩=>?_
 refine thn (hb pins s1 σ H1 _ I1 q1) fun u s2 ⟨y,H2,I2,r2,q2⟩=>?_
 exact hf v u s2 x y H2 I2 r1 r2 q2
theorem QJ {op:Z1}{r:R2}(ho:OpR X (binaryOp op) r) (ha:PE X a ta) (hb:PE X b tb):PE X (.BinOp a op b pos) (Dm r ta tb) :=by
 refine⟨?_⟩;intro pins s σ H Q I h;exact wpAny_BinOp (Gg ha hb I h fun v u s2 x y H2 I2 rx ry q=>ho pins s2 σ H2 x y v u Q I2 rx ry q)
theorem zX {f:am->am->W1 am}{C:Int->Int->Prop}{g:Int->Int->Int}
  (rule:∀(i j:Int) (t u:Y1) (s:ar) (Q:am->ar->Prop) (E:am->ar->Prop),C i j->Q (.int (g i j) s.toks) {s with toks:=s.toks+1}->wpAny (model X.prog X.w) X.A (f (.int i t) (.int j u)) Q E s) :
  OpR X f (rI C fun i j=>.int (g i j)) :=by
 intro pins s σ H x y v u Q I rx ry h;obtain⟨i,j,rfl,rfl,hc,q⟩:=h;obtain⟨t,rfl⟩:=rx;obtain⟨t',rfl⟩:=ry;exact rule i j t t' s _ _ hc ⟨.int (g i j),H,I.tok _,⟨_,rfl⟩,q⟩
theorem Bg {f:am->am->W1 am}{g:Int->Int->Int}
  (rule:∀(i j:Int) (t u:Y1) (s:ar) (Q:am->ar->Prop) (E:am->ar->Prop),Q (.int (g i j) s.toks) {s with toks:=s.toks+1}->wpAny (model X.prog X.w) X.A (f (.int i t) (.int j u)) Q E s) :
  OpR X f (qg fun i j=>.int (g i j)) :=by
 intro pins s σ H x y v u Q I rx ry h;obtain⟨i,j,rfl,rfl,q⟩:=h;obtain⟨t,rfl⟩:=rx;obtain⟨t',rfl⟩:=ry;exact rule i j t t' s _ _ ⟨.int (g i j),H,I.tok _,⟨_,rfl⟩,q⟩
theorem Gh {f:am->am->W1 am}{g:Int->Int->Bool}
  (rule:∀(i j:Int) (t u:Y1) (s:ar) (Q:am->ar->Prop) (E:am->ar->Prop),Q (.bool (g i j)) s->wpAny (model X.prog X.w) X.A (f (.int i t) (.int j u)) Q E s) :
  OpR X f (qg fun i j=>.bl (g i j)) :=by
 intro pins s σ H x y v u Q I rx ry h;obtain⟨i,j,rfl,rfl,q⟩:=h;obtain⟨t,rfl⟩:=rx;obtain⟨t',rfl⟩:=ry;exact rule i j t t' s _ _ ⟨.bl (g i j),H,I,rfl,q⟩
def Mk (i j:Int):Prop:=0<j/\j<1073741824
def Bh (i j:Int):Prop:=0<=j/\j<=1000000/\i.natAbs<2 ^ 64
def Bi (i j:Int):Prop:=(-(2 ^ 64)<i/\i<2 ^ 64)\/(-(2 ^ 64)<j/\j<2 ^ 64)
theorem Bi.ok {i j:Int}(h:Bi i j):IntMulOk i j :=by
 rcases h with ⟨h1,h2⟩|⟨h1,h2⟩
 ·exact .of_left (intBits_le_64 h1 h2)
 ·exact .of_right (intBits_le_64 h1 h2)
theorem Bj (k:Nat):(0:Int)<=2 ^ k :=by
 rw[two_pow_cast];exact Int.natCast_nonneg _
theorem Ml:OpR X (binaryOp .Add) (qg fun i j=>.int (i+j)):=Bg fun _ _ _ _ _ _ _ q=>add_int q
theorem Mm:OpR X (binaryOp .Sub) (qg fun i j=>.int (i - j)):=Bg fun _ _ _ _ _ _ _ q=>sub_int q
theorem Mp:OpR X (binaryOp .Mult) (rI Bi fun i j=>.int (i * j)):=zX fun _ _ _ _ _ _ _ hc q=>mul_int q hc.ok
theorem J1:OpR X (binaryOp .FloorDiv) (rI Mk fun i j=>.int (i / j)):=zX fun i j _ _ _ _ _ hc q=>by
 have h1:(0:Int)<j:=hc.1;have h2:j<1073741824:=hc.2;exact floordiv_int (by omega) (by rw[Int.fdiv_eq_ediv_of_nonneg i (by omega)];exact q) (.inl (PyProof.noPylong_small (by omega)))
theorem Mq:OpR X (binaryOp .Mod) (rI (fun _ j=>0<j) fun i j=>.int (i % j)):=zX fun i j _ _ _ _ _ hc q=>by
 have h1:(0:Int)<j:=hc;exact mod_int' (by omega) (by rw[Int.fmod_eq_emod_of_nonneg i (by omega)];exact q)
theorem Mr:OpR X (binaryOp .Pow) (rI Bh fun i j=>.int (i ^ j.toNat)):=zX fun _ _ _ _ _ _ _ hc q=>pow_int_small hc.1 hc.2.1 hc.2.2 q
theorem Ms:OpR X (binaryOp .LShift) (rI Bh fun i j=>.int (i * 2 ^ j.toNat)):=zX fun _ _ _ _ _ _ _ hc q=>lshift_int_small hc.1 hc.2.1 hc.2.2 q
theorem Mt:OpR X (binaryOp .RShift) (rI (fun _ j=>0<=j) fun i j=>.int (i / 2 ^ j.toNat)):=zX fun i j _ _ _ _ _ hc q=>
 rshift_int hc (by rw[Int.fdiv_eq_ediv_of_nonneg i (Bj _)];exact q)
theorem Mu:OpR X (binaryOp .BitAnd) (qg fun i j=>.int (Y6 i j)):=Bg fun _ _ _ _ _ _ _ q=>and_int q
theorem QK:OpR X (binaryOp .BitOr) (qg fun i j=>.int (Zm i j)):=Bg fun _ _ _ _ _ _ _ q=>or_int q
end
def Gi:V->V->Bool
 | .ax,.ax=>true | .ax,.int _=>true | .int _,.ax=>true | .ax,.bl _=>true | .bl _,.ax=>true | .ax,.str _=>true | .str _,.ax=>true
 | .int _,.int _=>true | .bl _,.bl _=>true | .str _,.str _=>true | .ki _,.ki _=>true
 | .int _,.str _=>true | .str _,.int _=>true | .bl _,.str _=>true | .str _,.bl _=>true
 |_,_=>false
def Va:R2:=fun x y H Q=>Gi x y=true/\Q (.bl (decide (x=y))) H
def Vb:R2:=fun x y H Q=>Gi x y=true/\Q (.bl (!decide (x=y))) H
theorem zY {i j:Int}:decide (V.int i=V.int j)=(i==j) :=by
 rw[Pc];simp
theorem Dn {i j:Bool}:decide (V.bl i=V.bl j)=(i==j) :=by
 rw[Pc];simp
theorem zZ {i j:br}:decide (V.str i=V.str j)=(i==j) :=by
 rw[Pc];simp
theorem z9 {i j:Array UInt8}:decide (V.ki i=V.ki j)=(i.toList==j.toList) :=by
 rw[Pc];cases i;cases j;simp
section
variable {X:Cx}{a b c:db}{ta tb tc:TE}{pos:u4}
theorem bq {pins:List (al×i8)}{σ:St}{H:Hp}{s:ar}{Q:VK}{k k':Bool}(I:Inv X pins σ H s) (q:Q (.bl k) H) (e:k=k'):EP X pins σ Q (.bool k') s :=by
 subst e;exact⟨.bl k,H,I,rfl,q⟩
theorem QM:OpR X (compareOp .Eq) Va :=by
 intro pins s σ H x y v u Q I rx ry h;obtain⟨hs,q⟩:=h;cases x with
 |ax=>
  cases rx;cases y with
  |ax=>cases ry;exact PySem.EqNone.eq_none_none (bq I q (by simp))
  |bl j=>cases ry;exact PySem.EqNone.eq_none_bool (bq I q (by simp))
  |int j=>obtain⟨t',rfl⟩:=ry;exact PySem.EqNone.eq_none_int (bq I q (by simp))
  |str j=>obtain⟨t',rfl⟩:=ry;exact PySem.EqNone.eq_none_str (bq I q (by simp))
  |_=>exact absurd (show false=true from hs) ij
 |bl i=>
  cases rx;cases y with
  |ax=>cases ry;exact PySem.EqNone.eq_bool_none (bq I q (by simp))
  |bl j=>cases ry;exact eq_bool (bq I q Dn)
  |str j=>obtain⟨t',rfl⟩:=ry;exact PySem.EqMixed.eq_bool_str (bq I q (by simp))
  |_=>exact absurd (show false=true from hs) ij
 |int i=>
  obtain⟨t,rfl⟩:=rx;cases y with
  |ax=>cases ry;exact PySem.EqNone.eq_int_none (bq I q (by simp))
  |int j=>obtain⟨t',rfl⟩:=ry;exact eq_int (bq I q zY)
  |str j=>obtain⟨t',rfl⟩:=ry;exact PySem.EqMixed.eq_int_str (bq I q (by simp))
  |_=>exact absurd (show false=true from hs) ij
 |str i=>
  obtain⟨t,rfl⟩:=rx;cases y with
  |ax=>cases ry;exact PySem.EqNone.eq_str_none (bq I q (by simp))
  |bl j=>cases ry;exact PySem.EqMixed.eq_str_bool (bq I q (by simp))
  |int j=>obtain⟨t',rfl⟩:=ry;exact PySem.EqMixed.eq_str_int (bq I q (by simp))
  |str j=>obtain⟨t',rfl⟩:=ry;exact eq_str (bq I q zZ)
  |_=>exact absurd (show false=true from hs) ij
 |ki i=>
  obtain⟨t,rfl⟩:=rx;cases y with
  |ki j=>obtain⟨t',rfl⟩:=ry;exact PySem.W.eq_bytes (bq I q z9)
  |_=>exact absurd (show false=true from hs) ij
 |_=>cases y<;>exact absurd (show false=true from hs) ij
theorem QN:OpR X (compareOp .NotEq) Vb :=by
 intro pins s σ H x y v u Q I rx ry h;obtain⟨hs,q⟩:=h;cases x with
 |ax=>
  cases rx;cases y with
  |ax=>cases ry;exact PySem.EqNone.ne_none_none (bq I q (by simp))
  |bl j=>cases ry;exact PySem.EqNone.ne_none_bool (bq I q (by simp))
  |int j=>obtain⟨t',rfl⟩:=ry;exact PySem.EqNone.ne_none_int (bq I q (by simp))
  |str j=>obtain⟨t',rfl⟩:=ry;exact PySem.EqNone.ne_none_str (bq I q (by simp))
  |_=>exact absurd (show false=true from hs) ij
 |bl i=>
  cases rx;cases y with
  |ax=>cases ry;exact PySem.EqNone.ne_bool_none (bq I q (by simp))
  |bl j=>cases ry;exact ne_bool (bq I q (congrArg not Dn))
  |str j=>obtain⟨t',rfl⟩:=ry;exact PySem.EqMixed.ne_bool_str (bq I q (by simp))
  |_=>exact absurd (show false=true from hs) ij
 |int i=>
  obtain⟨t,rfl⟩:=rx;cases y with
  |ax=>cases ry;exact PySem.EqNone.ne_int_none (bq I q (by simp))
  |int j=>obtain⟨t',rfl⟩:=ry;exact ne_int (bq I q (congrArg not zY))
  |str j=>obtain⟨t',rfl⟩:=ry;exact PySem.EqMixed.ne_int_str (bq I q (by simp))
  |_=>exact absurd (show false=true from hs) ij
 |str i=>
  obtain⟨t,rfl⟩:=rx;cases y with
  |ax=>cases ry;exact PySem.EqNone.ne_str_none (bq I q (by simp))
  |bl j=>cases ry;exact PySem.EqMixed.ne_str_bool (bq I q (by simp))
  |int j=>obtain⟨t',rfl⟩:=ry;exact PySem.EqMixed.ne_str_int (bq I q (by simp))
  |str j=>obtain⟨t',rfl⟩:=ry;exact ne_str (bq I q (congrArg not zZ))
  |_=>exact absurd (show false=true from hs) ij
 |ki i=>
  obtain⟨t,rfl⟩:=rx;cases y with
  |ki j=>obtain⟨t',rfl⟩:=ry;exact PySem.W.ne_bytes (bq I q (congrArg not z9))
  |_=>exact absurd (show false=true from hs) ij
 |_=>cases y<;>exact absurd (show false=true from hs) ij
theorem QO:OpR X (compareOp .Lt) (qg fun i j=>.bl (decide (i<j))):=Gh fun _ _ _ _ _ _ _ q=>lt_int q
theorem QP:OpR X (compareOp .LtE) (qg fun i j=>.bl (decide (i<=j))):=Gh fun _ _ _ _ _ _ _ q=>le_int q
theorem QR:OpR X (compareOp .Gt) (qg fun i j=>.bl (decide (j<i))):=Gh fun _ _ _ _ _ _ _ q=>gt_int q
theorem Mv:OpR X (compareOp .Is) (fun x y H Q=>y=.ax/\Q (.bl (decide (x=.ax))) H) :=by
 intro pins s σ H x y v u Q I rx ry h;obtain⟨rfl,q⟩:=h;cases ry;refine is_none_gen (bq I q ?_);cases x<;>first
  |(cases rx;rfl)
  |(obtain⟨t,rfl⟩:=rx;rfl)
theorem bt (b:db) {op:XV}(h:op≠.In :=by decide) (h2:op≠.NotIn :=by decide):behindInMarks op b=false :=by
 have e1:(op==XV.In)=false :=by cases op<;>first|rfl|exact absurd rfl h
 have e2:(op==XV.NotIn)=false :=by cases op<;>first|rfl|exact absurd rfl h2
 cases b<;>simp[behindInMarks,e1,e2]
theorem J4 {op:XV}{r:R2}(ho:OpR X (compareOp op) r) (ha:PE X a ta) (hb:PE X b tb) (hm:behindInMarks op b=false):PE X (.Compare a [op] [b] pos) (Dm r ta tb) :=by
 refine⟨?_⟩;intro pins s σ H Q I h;exact wpAny_Compare1 (Gg ha hb I h fun v u s2 x y H2 I2 rx ry q=>ho pins s2 σ H2 x y v u Q I2 rx ry q) hm
def Bk (t:TE):TT:=fun σ H Q=>t σ H fun x H'=>∃k,x=.bl k/\Q k H'
theorem J5 {op:XV}{r:R2}(ho:OpR X (compareOp op) r) (ha:PE X a ta) (hb:PE X b tb) (hm:behindInMarks op b=false):PT X (.Compare a [op] [b] pos) (Bk (Dm r ta tb)) :=by
 refine⟨?_⟩;intro pins s σ H Q I h;refine wpAny_isTrue_Compare1 (thn (ha pins s σ H _ I h) fun v s1 ⟨x,H1,I1,r1,q1⟩=>thn (hb pins s1 σ H1 _ I1 q1) fun u s2 ⟨y,H2,I2,r2,q2⟩=>
  thn (ho pins s2 σ H2 x y v u _ I2 r1 r2 q2) fun c s3 ⟨z,H3,I3,r3,k,e,q3⟩=>?_) hm
 subst e;cases r3;exact BY ⟨H3,I3,q3⟩
def wX (r r':R2) (ta tb tc:TE):TE:=fun σ H Q=>ta σ H fun x H1=>tb σ H1 fun y H2=>r x y H2 fun z H3=>∃k,z=.bl k /\
 (if k=true then tc σ H3 fun w' H4=>r' y w' H4 Q else Q (.bl false) H3)
theorem Gj {op kn:XV}{r r':R2}(ho:OpR X (compareOp op) r) (i6:OpR X (compareOp kn) r') (ha:PE X a ta) (hb:PE X b tb) (hc:PE X c tc)
  (hm:lastMarks [op,kn] [b,c]=false :=by with_unfolding_all rfl):PE X (.Compare a [op,kn] [b,c] pos) (wX r r' ta tb tc) :=by
 refine⟨?_⟩;intro pins s σ H Q I h;refine Compare_chain (thn (ha pins s σ H _ I h) fun v s1 ⟨x,H1,I1,r1,q1⟩=>chain_link (thn (hb pins s1 σ H1 _ I1 q1) fun u s2 ⟨y,H2,I2,r2,q2⟩=>
  thn (ho pins s2 σ H2 x y v u _ I2 r1 r2 q2) fun d s3 ⟨z,H3,I3,r3,k,e,q3⟩=>?_)) hm
 subst e;cases r3;refine BY ?_;cases k with
 |false=>exact ite_ff ⟨.bl false,H3,I3,rfl,q3⟩
 |true=>exact ite_tt (chain_last (thn (hc pins s3 σ H3 _ I3 q3) fun w' s4 ⟨z',H4,I4,r4,q4⟩=>i6 pins s4 σ H4 y z' u w' Q I4 r2 r4 q4))
theorem Gk {op kn:XV}{r r':R2}(ho:OpR X (compareOp op) r) (i6:OpR X (compareOp kn) r') (ha:PE X a ta) (hb:PE X b tb) (hc:PE X c tc)
  (hm:lastMarks [op,kn] [b,c]=false :=by with_unfolding_all rfl):PT X (.Compare a [op,kn] [b,c] pos) (Bk (wX r r' ta tb tc)) :=by
 refine⟨?_⟩;intro pins s σ H Q I h;refine isTrue_chain (thn (ha pins s σ H _ I h) fun v s1 ⟨x,H1,I1,r1,q1⟩=>test_link (thn (hb pins s1 σ H1 _ I1 q1) fun u s2 ⟨y,H2,I2,r2,q2⟩=>
  thn (ho pins s2 σ H2 x y v u _ I2 r1 r2 q2) fun d s3 ⟨z,H3,I3,r3,k,e,q3⟩=>?_)) hm
 subst e;cases r3;refine BY ?_;cases k with
 |false=>
  obtain⟨k',e',q'⟩:=q3;cases e';exact ite_ff ⟨H3,I3,q'⟩
 |true=>
  refine ite_tt (test_last (thn (hc pins s3 σ H3 _ I3 q3) fun w' s4 ⟨z',H4,I4,r4,q4⟩=>thn (i6 pins s4 σ H4 y z' u w' _ I4 r2 r4 q4) fun d' s5 ⟨z2,H5,I5,r5,k2,e2,q5⟩=>?_))
  subst e2;cases r5;exact BY ⟨H5,I5,q5⟩
def Gm (K:bn) (x:V) (H:Hp) (k:Bool):Prop:=
 match x with
 | .ax=>k=false
 | .bl b=>k=b
 | .int i=>k=(i != 0)
 | .str y=>y.length<=sizeLine/\k=((y.length:Int) != 0)
 | .ki y=>y.size<=sizeLine/\k=((y.size:Int) != 0)
 | .ref p=>(∃xs,b9 K H p xs/\k = !xs.isEmpty)\/(∃xs,dG K H p xs/\k = !xs.isEmpty)\/∃ak,H p=some (.dK ak)/\k = !ak.isEmpty
 |_=>False
theorem Bm {κ:Type}{ak:List (κ×V)}{vs:List (κ×am)}(r:KV ak vs):(!vs.isEmpty) = !ak.isEmpty :=by
 cases r<;>rfl
theorem rM {xs:List V}{its:List am}(r:Vals xs its):(!its.toArray.isEmpty) = !xs.isEmpty :=by
 cases r<;>simp
theorem ko:(sizeLine:Nat)<2 ^ 63 :=by rw[X7];decide
theorem Mw:TY X (fun x H Q=>∃k,Gm X.K x H k/\Q k H) :=by
 intro pins s σ H x v Q I rx h;obtain⟨k,e,q⟩:=h;have hl:=ko;have hs:sizeLine=16777216:=X7;cases x with
 |ax=>
  cases rx;have e':k=false:=e;subst e';exact truthy_none ⟨H,I,q⟩
 |bl b=>
  cases rx;have e':k=b:=e;subst e';exact BY ⟨H,I,q⟩
 |int i=>
  obtain⟨t,rfl⟩:=rx;have e':k=(i != 0):=e;subst e';exact PySem.P.truthy_int ⟨H,I,q⟩
 |str y=>
  obtain⟨t,rfl⟩:=rx;obtain⟨hy,e'⟩:y.length<=sizeLine/\k=((y.length:Int) != 0):=e;subst e';exact PySem.P.truthy_str (by omega) ⟨H,I.tok _,q⟩
 |ki y=>
  obtain⟨t,rfl⟩:=rx;obtain⟨hy,e'⟩:y.size<=sizeLine/\k=((y.size:Int) != 0):=e;subst e';exact PySem.W.truthy_bytes (by omega) ⟨H,I.tok _,q⟩
 |ref p=>
  cases rx;have e':(∃xs,b9 X.K H p xs/\k = !xs.isEmpty)\/(∃xs,dG X.K H p xs/\k = !xs.isEmpty)\/∃ak,H p=some (.dK ak)/\k = !ak.isEmpty:=e;rcases e' with ⟨xs,hx,e'⟩|⟨xs,hx,e'⟩|⟨ak,hx,e'⟩
  ·subst e';obtain⟨its,r,pl,hz⟩:=I.list hx;have hlen:=r.length;exact wpAny_truthy_list pl.isList (by simp only[f8];omega) ⟨H,I.tok _,by rw[rM r];exact q⟩
  ·subst e';obtain⟨its,r,pl,hz⟩:=I.tuple hx;have hlen:=r.length;exact truthy_tuple pl (by simp only[f8];omega) ⟨H,I.tok _,by rw[rM r];exact q⟩
  ·subst e';obtain⟨hz,hS,vs,r,m⟩:ak.length<=sizeLine/\(p==sysModules)=false/\∃vs,KV ak vs/\s.heap.DictOf (bA X.prog X.w) p vs:=I.hok p _ hx;have hlen:ak.length=vs.length:=SL r;exact wpAny_truthy_dict hS m (by omega) ⟨H,I.tok _,by rw[Bm r];exact q⟩
 |_=>exact(show False from e).elim
theorem Gp (ha:PE X a ta) (he:∀whole,isTrue a X.env whole=(do let v <- whole;standAt a.pos;holding [v] (truthy v))) :
  PT X a (fun σ H Q=>ta σ H fun x H'=>∃k,Gm X.K x H' k/\Q k H') :=by
 refine⟨?_⟩;intro pins s σ H Q I h;exact isTrue_plain (thn (ha pins s σ H _ I h) fun v s1 ⟨x,H1,I1,r1,q1⟩=>Mw pins s1 σ H1 x v Q I1 r1 q1) (he _)
theorem Bn:OpR X (binaryOp .Add) (fun x y H Q=>∃i j,x=.str i/\y=.str j/\i.length+j.length<=sizeLine/\Q (.str (i++j)) H) :=by
 intro pins s σ H x y v u Q I rx ry h;obtain⟨i,j,rfl,rfl,hz,q⟩:=h;obtain⟨t,rfl⟩:=rx;obtain⟨t',rfl⟩:=ry;exact add_str (fun t' tk=>⟨.str (i++j),H,I.tok _,⟨_,rfl⟩,q⟩) hz
theorem vals1 {x:V}{us:List am}(r:Vals [x] us):∃u,us=[u]/\RelV x u :=by
 cases r with
 |cons r1 r2=>cases r2;exact⟨_,rfl,r1⟩
theorem vals2 {x y:V}{us:List am}(r:Vals [x,y] us):∃u w',us=[u,w']/\RelV x u/\RelV y w':=by
 cases r with
 |cons r1 r2=>
  cases r2 with
  |cons r3 r4=>cases r4;exact⟨_,_,rfl,r1,r3⟩
theorem Gq:dM X (.builtin "abs") (fun xs H Q=>∃i,xs=[.int i]/\Q (.int (if i<0 then -i else i)) H) :=by
 intro pins s σ H xs us Q I r h;obtain⟨i,rfl,q⟩:=h;obtain⟨u,rfl,t,rfl⟩:=vals1 r;exact call_abs_int fun u tk=>⟨.int (if i<0 then -i else i),H,I.tok _,⟨_,rfl⟩,q⟩
theorem Dp (hc:X.calm=true):dM X (.builtin "max") (fun xs H Q=>∃i j,xs=[.int i,.int j]/\Q (.int (if j > i then j else i)) H) :=by
 intro pins s σ H xs us Q I r h;obtain⟨i,j,rfl,q⟩:=h;obtain⟨u,w',rfl,⟨t,rfl⟩,⟨t',rfl⟩⟩:=vals2 r;refine max_two_ints (I.ok.hd hc) fun h' tk k=>⟨_,H,I.kept k,?_,q⟩
 by_cases hj:j > i
 ·rw[if_pos hj,if_pos hj];exact⟨_,rfl⟩
 ·rw[if_neg hj,if_neg hj];exact⟨_,rfl⟩
theorem Dq (hc:X.calm=true):dM X (.builtin "min") (fun xs H Q=>∃i j,xs=[.int i,.int j]/\Q (.int (if j<i then j else i)) H) :=by
 intro pins s σ H xs us Q I r h;obtain⟨i,j,rfl,q⟩:=h;obtain⟨u,w',rfl,⟨t,rfl⟩,⟨t',rfl⟩⟩:=vals2 r;refine min_two_ints (I.ok.hd hc) fun h' tk k=>⟨_,H,I.kept k,?_,q⟩
 by_cases hj:j<i
 ·rw[if_pos hj,if_pos hj];exact⟨_,rfl⟩
 ·rw[if_neg hj,if_neg hj];exact⟨_,rfl⟩
def Mx (K:bn) (x:V) (H:Hp) (n:Nat):Prop:=
 match x with
 | .str y=>y.length<=sizeLine/\n=y.length
 | .ki y=>y.size<=sizeLine/\n=y.size
 | .ref p=>(∃xs,b9 K H p xs/\n=xs.length)\/∃xs,dG K H p xs/\n=xs.length
 |_=>False
theorem Gr:dM X (.builtin "len") (fun xs H Q=>∃x n,xs=[x]/\Mx X.K x H n/\Q (.int n) H) :=by
 intro pins s σ H xs us Q I r h;obtain⟨x,n,rfl,e,q⟩:=h;obtain⟨u,rfl,rx⟩:=vals1 r;have hl:=ko;have hs:sizeLine=16777216:=X7;cases x with
 |str y=>
  obtain⟨t,rfl⟩:=rx;obtain⟨hy,e'⟩:y.length<=sizeLine/\n=y.length:=e;subst e';exact len_str (by omega) ⟨.int _,H,I.tok _,⟨_,rfl⟩,q⟩
 |ki y=>
  obtain⟨t,rfl⟩:=rx;obtain⟨hy,e'⟩:y.size<=sizeLine/\n=y.size:=e;subst e';exact PySem.W.len_bytes (by omega) ⟨.int _,H,I.tok _,⟨_,rfl⟩,q⟩
 |ref p=>
  cases rx;have e':(∃xs,b9 X.K H p xs/\n=xs.length)\/∃xs,dG X.K H p xs/\n=xs.length:=e;rcases e' with ⟨xs,hx,e'⟩|⟨xs,hx,e'⟩
  ·subst e';obtain⟨its,r',pl,hz⟩:=I.list hx;have hlen:=r'.length;exact Calls.call_len_list pl.isList (by simp only[f8];omega) ⟨.int xs.length,H,I.tok _,⟨_,by simp only[f8];rw[hlen]⟩,q⟩
  ·subst e';obtain⟨its,r',pl,hz⟩:=I.tuple hx;have hlen:=r'.length;exact len_tuple pl (by simp only[f8];omega) ⟨.int xs.length,H,I.tok _,⟨_,by simp only[f8];rw[hlen]⟩,q⟩
 |_=>exact(show False from e).elim
end
structure Gs (h:hX) (x dx C:al) (mA:br->Option am):Prop where
 obj:h.get? x=some (ZL C dx)
 ns:h.Ns1 dx mA
 ne:dx≠x
theorem Dr {h:hX}{dx:al}{mA:br->Option am}(n:h.Ns1 dx mA):∃od,h.get? dx=some od/\∀name,PySem.W.lookIn name od=some (mA name) :=by
 obtain⟨o,es,ep,ho,hd,hk,_,hm⟩:=n;refine⟨o,ho,fun name=>?_⟩
 have e:=hm name;unfold nsFind findBy at e;rw[<- Array.find?_toList]at e;unfold PySem.W.lookIn;rw[hd];dsimp only;split
 ·rename_i y q;rw[q]at e;exact congrArg some e
 ·rename_i q;rw[q]at e;have a:es.toList.any (·.refKey)=false :=by
   rw[List.any_eq_false];intro y hy;obtain⟨z,t,Bo⟩:=hk y (Array.mem_toList_iff.mp hy);simp[SZ.refKey,Bo]
  have a':¬ es.toList.any (·.refKey)=true :=by rw[a];exact ij
  rw[if_neg a'];exact congrArg some e
theorem Gs.look {h:hX}{x dx C:al}{mA:br->Option am}(I:Gs h x dx C mA):∃od,PySem.W.InstAt h x (ZL C dx) C (some od)/\∀name,PySem.W.lookIn name od=some (mA name):=
 let ⟨od,ho,hl⟩:=Dr I.ns
 ⟨od,⟨I.obj,rfl,rfl,ho⟩,hl⟩
theorem jd.some_of {v:V}{o:Option am}(r:jd (some v) o):∃u,o=some u/\RelV v u :=by
 cases o with
 |none=>exact(show False from r).elim
 |some u=>exact⟨u,rfl,r⟩
section
variable {P:en}{w:ii}{H H':Hp}{h h':hX}{a C dx:al}{fs U6:List (br×V)}
theorem J6 (hok:c0 P w H h) (e:H a=some (.ins C dx fs)):∃mA,Gs h a dx C mA/\(∀f,jd (fs.lookup f) (mA f))/\PySem.Within mA (fs.map (·.1))/\fs.length<=1000/\H dx=some (.own a) :=by
 obtain⟨d,z,ne,ob,mA,n,r,q⟩:=(show ObjOk P w H h a (.ins C dx fs) from hok a _ e);exact⟨mA,⟨ob,n,ne⟩,r,q,z,d⟩
end
structure MA (K:bn) (C:al):Prop where
 pg:PySem.W.plainGet K C br.empty=true
 hd:PySem.W.hasDictIn K C=true
 po:PySem.W.plainOver K C=true
 sa:PySem.W.findIn K (.ref C) "__setattr__" = some (some (.builtin "object.__setattr__"))
theorem MA.get {K:bn}{C:al}(c:MA K C) (f:br):PySem.W.plainGet K C f=true:=c.pg
section
variable {X:Cx}{pins:List (al×i8)}{σ:St}{H:Hp}{s:ar}{A:l5}{E:am->ar->Prop}{Q:am->ar->Prop}{c:am}{b:Bool}
inductive gW (K:bn) (H:Hp):V->am->Prop where
 |ax:gW K H .ax (.type "NoneType")
 |bl (x:Bool):gW K H (.bl x) (.type "bool")
 |int (i:Int):gW K H (.int i) (.type "int")
 |str (x:br):gW K H (.str x) (.type "str")
 |zU (x:UInt64):gW K H (.zU x) (.type "float")
 |lst {a:al} {xs:List V} (e:H a=some (.lst xs)):gW K H (.ref a) (.type "list")
 |bQ {a:al} {o:i8} {xs:List V} (e:H a=some (.bQ o (.lst xs))):gW K H (.ref a) (.type "list")
 |tup {a:al} {xs:List V} (e:H a=some (.tup xs)):gW K H (.ref a) (.type "tuple")
 |dK {a:al} {ak:List (Key×V)} (e:H a=some (.dK ak)):gW K H (.ref a) (.type "dict")
 |dT {a:al} {ak:List (List Key×V)} (e:H a=some (.dT ak)):gW K H (.ref a) (.type "dict")
 |ins {a C dx:al} {fs:List (br×V)} (e:H a=some (.ins C dx fs)) (cl:MA K C) (ha:PySem.W.findIn K (.ref C) "__class__" = some (some (.builtin "object.__class__")))
   (hn:PySem.W.specialIn K (.builtin "object.__class__") "__get__" = some (some (.builtin "getset_descriptor.__get__"))) (Sd:PySem.W.takesIn K (.builtin "object.__class__")=some true)
   (hm:PySem.W.mroIn K C (.type "object")=some true):gW K H (.ref a) (.ref C)
theorem Ds {x:V}{u t:am}(I:Inv X pins σ H s) (rx:RelV x u) (ty:gW X.K H x t) (e:Y7 X.K t c=some b) (h:∀tk,Q (.bool b) {s with toks:=tk}) :
  wpAny (model X.prog X.w) A (call (.builtin "isinstance") [u,c]) Q E s :=by
 cases ty with
 |ax=>cases (show u=AM from rx);exact EU PySem.W.kitx_none I.iB IR e (fun z=>nomatch z) h
 |bl y=>cases (show u=YI y from rx);exact EU PySem.W.kitx_bool I.iB IR e (fun z=>nomatch z) h
 |int i=>obtain⟨t,q⟩:=(show ∃t,u=Ze i t from rx);cases q;exact EU PySem.W.kitx_int I.iB IR e (fun z=>nomatch z) h
 |str y=>obtain⟨t,q⟩:=(show ∃t,u=YE y t from rx);cases q;exact EU PySem.W.kitx_str I.iB IR e (fun z=>nomatch z) h
 |zU y=>obtain⟨t,q⟩:=(show ∃t,u=am.float y t from rx);cases q;exact EU PySem.W.kitx_float I.iB IR e (fun z=>nomatch z) h
 | @lst a xs ea=>
  cases (show u=l7 a from rx);obtain⟨_,_,n,_,h1⟩:=(show ObjOk X.prog X.w H s.heap a (.lst xs) from I.hok a _ ea);exact EU PySem.W.kitx_list I.iB ⟨_,h1,rfl⟩ e (fun z=>nomatch z) h
 | @bQ a ob xs ea=>
  cases (show u=l7 a from rx);obtain⟨_,_,_,n,_,h1⟩:=(show ObjOk X.prog X.w H s.heap a (.bQ ob (.lst xs)) from I.hok a _ ea);exact EU PySem.W.kitx_list I.iB ⟨_,h1,rfl⟩ e (fun z=>nomatch z) h
 | @tup a xs ea=>
  cases (show u=l7 a from rx);obtain⟨_,_,_,p⟩:=(show ObjOk X.prog X.w H s.heap a (.tup xs) from I.hok a _ ea);obtain⟨o,h1,h2,_⟩:=p;exact EU PySem.W.kitx_tuple I.iB ⟨o,h1,h2⟩ e (fun z=>nomatch z) h
 | @dK a ak ea=>
  cases (show u=l7 a from rx);obtain⟨_,_,vs,_,p⟩:=(show ObjOk X.prog X.w H s.heap a (.dK ak) from I.hok a _ ea);obtain⟨o,es,ep,h1,h2,_⟩:=p;exact EU PySem.W.kitx_dict I.iB ⟨o,h1,h2.1⟩ e (fun z=>nomatch z) h
 | @dT a ak ea=>
  cases (show u=l7 a from rx);obtain⟨_,_,xs,_,o,es,ep,h1,h2,_⟩:=(show ObjOk X.prog X.w H s.heap a (.dT ak) from I.hok a _ ea);exact EU PySem.W.kitx_dict I.iB ⟨o,h1,h2.1⟩ e (fun z=>nomatch z) h
 | @ins a C dx fs ea cl ha hn Sd hm=>
  cases (show u=l7 a from rx);obtain⟨mA,O,_⟩:=J6 I.hok ea;obtain⟨od,J,_⟩:=O.look;exact EU (PySem.W.kitx_own (cl.get _) cl.hd ha hn Sd hm) I.iB J e (fun z=>nomatch z) h
end
structure cj (k:Nat) (A:l5):Prop where
 hd:A.handled=none
 dp:A.depth+3 * k+5<recursionLimit
 un:A.units+16 * k+200<cLine
theorem cj.mono {j k:Nat}{A:l5}(r:cj k A) (h:j<=k):cj j A:=⟨r.hd,by have:=r.dp;omega,by have:=r.un;omega⟩
theorem cj.deeper {k:Nat}{A:l5}(r:cj (k+1) A) (env:Lo):cj k (A.deeper env):=
 ⟨r.hd,by have:=r.dp;show A.depth+1+3 * k+5<_;omega,by have:=r.un;show A.units+3+16 * k+200<_;omega⟩
theorem cj.depth {k:Nat}{A:l5}(r:cj k A):A.depth<recursionLimit :=by have:=r.dp;omega
theorem cj.units {k:Nat}{A:l5}(r:cj k A):A.units+64<cLine :=by have:=r.un;omega
def TZ:TA:=fun _ H Q=>Q [] H
def QU (ta:TE) (tr:TA):TA:=fun σ H Q=>ta σ H fun x H1=>tr σ H1 fun xs H2=>Q (x::xs) H2
section
variable {X:Cx}{e:db}{es:List db}{te:TE}{t:TA}{pos:u4}
theorem MB:PA X [] TZ:=⟨fun _ _ _ _ H Q I h=>KM ⟨[],H,I,.nil,h⟩⟩
theorem pK (ha:PE X e te) (hr:PA X es t) (hs:starEach (e::es) X.env=(false,eval e X.env)::starEach es X.env :=by rfl):PA X (e::es) (QU te t) :=by
 refine⟨?_⟩;intro pos pins s σ H Q I h;rw[hs];show wpAny _ _ (spliced ((false,eval e X.env)::backTo pos (starEach es X.env))) _ _ s;refine Fk (thn (ha pins s σ H _ I h) fun u s1 ⟨x,H1,I1,r1,q1⟩=>?_)
 exact thn (hr pos pins s1 σ H1 _ I1 q1) fun us s2 ⟨xs,H2,I2,r2,q2⟩=>⟨x::xs,H2,I2,.cons r1 r2,q2⟩
def T4 (t:TA):TE:=fun σ H Q=>t σ H fun xs H1=>xs.length<=sizeLine/\∀p,H1 p=none->Q (.ref p) (upd H1 p (.tup xs))
def T5 (t:TA):TE:=fun σ H Q=>t σ H fun xs H1=>xs.length<=sizeLine/\∀p,H1 p=none->Q (.ref p) (upd H1 p (.lst xs))
theorem MC {x1}(h:PA X es t):PE X (.Tuple es x1 pos) (T4 t) :=by
 refine⟨?_⟩;intro pins s σ H Q I hq;refine wpAny_Tuple_spliced (thn (h pos pins s σ H _ I hq) fun us s1 ⟨xs,H1,I1,r,z,q⟩=>⟨by rw[<- r.length];exact z,?_⟩)
 have hf:H1 s1.heap.objs.size=none:=I1.hok.fresh (cb _);refine⟨.ref s1.heap.objs.size,upd H1 s1.heap.objs.size (.tup xs),I1.laid (t':=s1.toks) (fun b u e=>ba _ e) (cb _) ?_,rfl,q _ hf⟩
 exact⟨z,us,r,⟨_,ci _ rfl,rfl,_,rfl,rfl⟩⟩
theorem Du (h:PA X es t):PE X (.List es pos) (T5 t) :=by
 refine⟨?_⟩;intro pins s σ H Q I hq;refine wpAny_List_spliced (thn (h pos pins s σ H _ I hq) fun us s1 ⟨xs,H1,I1,r,z,q⟩=>⟨by rw[<- r.length];exact z,?_⟩)
 have hf:H1 s1.heap.objs.size=none:=I1.hok.fresh (cb _);refine⟨.ref s1.heap.objs.size,upd H1 s1.heap.objs.size (.lst xs),I1.laid (t':=s1.toks) (fun b u e=>ba _ e) (cb _) ?_,rfl,q _ hf⟩
 exact⟨z,us,0,r,ci _ rfl⟩
end
abbrev Sp:=List V->Hp->VK->XK->Prop
abbrev iC:=List Lo->Hp->ar->XK->am->ar->Prop
structure tL (P:en) (w:ii) (K:bn) (mg:br->Option am) (base:hX) (A:l5) (outer:List Lo) (s:ar) (H:Hp):Prop where
 frames:A.frames=some outer
 mod:Mod K mg base
 bs:∀b o,base.get? b=some o->s.heap.get? b=some o/\H b=none
 bsz:base.objs.size<=s.heap.objs.size
 funs:s.heap.FunFrames base outer
 frf:∀b∈fg outer,H b=none
 hok:c0 P w H s.heap
 bare:ZZ s.gens
def CE (outer:List Lo) (P:en) (w:ii) (H:Hp) (s:ar) (Q:VK) (u:am) (s':ar):Prop:=
 ∃v H',s'.os=s.os/\Gn s.gens.size s'.gens/\Un (fg outer) [] H H' s.heap s'.heap/\c0 P w H' s'.heap/\RelV v u/\Q v H'
def CR (CX:iC) (outer:List Lo) (P:en) (w:ii) (H:Hp) (s:ar) (Q:VK) (E:XK) (r:Zh) (s':ar):Prop:=
 match r with
 | .ok (.ret u)=>CE outer P w H s Q u s'
 | .ok _=>False
 | .error e=>CX outer H s E e s'
structure FnOk (P:en) (w:ii) (K:bn) (mg:br->Option am) (base:hX) (CX:iC) (k:Nat) (f:al) (fd:ln) (ps:List br) (sp:Sp):Prop where
 len:∀vs H Q E,sp vs H Q E->vs.length=ps.length
 run:∀(A:l5) (outer:List Lo) (s:ar) (H:Hp) (args:Args) (us:List am) (vs:List V) (Q:VK) (E:XK),cj k A->tL P w K mg base A outer s H->ZB s fd args (ps.zip us)->Vals vs us->sp vs H Q E->
  codeAny (model P w) A (.call (.ref f) args) (CR CX outer P w H s Q E) s
theorem FnOk.mono {P:en}{w:ii}{K:bn}{mg:br->Option am}{base:hX}{CX:iC}{j k:Nat}{f:al}{fd:ln}{ps:List br}{sp:Sp}(F:FnOk P w K mg base CX j f fd ps sp) (h:j<=k) :
  FnOk P w K mg base CX k f fd ps sp:=⟨F.len,fun A outer s H args us vs Q E hr=>F.run A outer s H args us vs Q E (hr.mono h)⟩
theorem FnOk.imp {P:en}{w:ii}{K:bn}{mg:br->Option am}{base:hX}{CX:iC}{k:Nat}{f:al}{fd:ln}{ps:List br}{sp Se:Sp}(F:FnOk P w K mg base CX k f fd ps sp)
  (h:∀vs H Q E,Se vs H Q E->sp vs H Q E):FnOk P w K mg base CX k f fd ps Se:=
 ⟨fun vs H Q E q=>F.len vs H Q E (h _ _ _ _ q),fun A outer s H args us vs Q E hr he hb hv hs=>F.run A outer s H args us vs Q E hr he hb hv (h _ _ _ _ hs)⟩
section
variable {X:Cx}{pins:List (al×i8)}{σ:St}{H:Hp}{s s':ar}
theorem Inv.T6 (I:Inv X pins σ H s):tL X.prog X.w X.K X.mg X.base X.A X.stack s H:=
 ⟨I.ok.frames,I.ok.mod,I.bs,sw I.ok.bsz I.sz,I.stack,I.mJ,I.hok,I.bare.1⟩
theorem Inv.after {Q:VK}{u:am}(I:Inv X pins σ H s) (h:CE X.stack X.prog X.w H s Q u s'):EP X pins σ Q u s':=by
 obtain⟨v,H',os,bare,un,hok,r,q⟩:=h;obtain⟨hh,g,d,t,Iz⟩:=s';obtain rfl:Iz=s.os:=os;exact⟨v,H',I.call (h':=hh) (g':=g) (d':=d) (t':=t) (ch:=[]) un hok bare (fun b z=>absurd z (by simp)),r,q⟩
end
def IA (sp:Sp) (gK:List V) (E:XK) (t:TA):TE:=fun σ H Q=>t σ H fun vs H1=>sp (vs++gK) H1 Q E
def Binds (K:bn) (fd:ln) (ps:List br) (ds:List am):Prop:=
 ∀(s:ar) (us:List am),K.In s.heap->(us++ds).length=ps.length->ZB s fd ⟨us,[]⟩ (ps.zip (us++ds))
theorem Binds.all {K:bn}{fd:ln}{ps:List br}(h:∀us:List am,us.length=ps.length->bindArgs fd ⟨us,[]⟩=pure (ps.zip us)):Binds K fd ps []:=fun s us _ hl=>by
 rw[Lu]at hl ⊢;exact .of_eq (h us hl)
def Passes (CX:iC) (X:Cx) (E:XK):Prop:=∀(pins:List (al×i8)) (σ:St) (H:Hp) (s:ar) (e:am) (s':ar),Inv X pins σ H s->CX X.stack H s E e s'->X.xe e s'
section
variable {X:Cx}{CX:iC}{k:Nat}{f C:al}{fd:ln}{ps:List br}{sp:Sp}{gK:List V}{ds:List am}{E:XK}{x m:br}{p pos apos:u4}{e o:db}{es:List db}{ta:TE}{t:TA}
theorem Dw {pins:List (al×i8)}{σ:St}{H:Hp}{s:ar}{Q:VK}{us:List am}{vs:List V}(F:FnOk X.prog X.w X.K X.mg X.base CX k f fd ps sp) (hr:cj k X.A) (hb:Binds X.K fd ps ds) (hd:Vals gK ds) (hx:Passes CX X E)
  (I:Inv X pins σ H s) (r:Vals vs us) (h:sp (vs++gK) H Q E):wpAny (model X.prog X.w) X.A (call (.ref f) us) (EP X pins σ Q) X.xe s :=by
 have r2:Vals (vs++gK) (us++ds):=r.append hd;have hl:(us++ds).length=ps.length :=by rw[<- r2.length];exact F.len _ _ _ _ h
 refine wpAny_call (Yc (F.run X.A X.stack s H ⟨us,[]⟩ (us++ds) (vs++gK) Q E hr I.T6 (hb s us I.iB hl) r2 h) fun r s' hq=>?_)
 cases r with
 |error e=>exact hx pins σ H s e s' I hq
 |ok fl=>
  cases fl with
  |ret u=>exact I.after hq
  |next=>exact FF hq
  |brk=>exact FF hq
  |cont=>exact FF hq
theorem J7 (F:FnOk X.prog X.w X.K X.mg X.base CX k f fd ps sp) (hr:cj k X.A) (hg:Gl X x) (hm:X.mg x=some (.ref f)) (hk:ES X.K (.ref f)=true) (hb:Binds X.K fd ps ds) (hd:Vals gK ds) (hx:Passes CX X E)
  (ha:PA X (e::es) t) (fU:(x==("__debug__" : br))=false :=by decide) (he:starEach (e::es) X.env=(false,eval e X.env)::starEach es X.env :=by rfl) (cF:(backTo pos (starEach es X.env)).any (·.1)=false :=by rfl) :
  PE X (.Call (.Name x p) (e::es) [] pos) (IA sp gK E t) :=by
 refine⟨?_⟩;intro pins s σ H Q I h;refine Cc (pJ I hg hm ?_ fU);refine PySem.W.callWith_K (h₀:=X.base) I.ok.mod.kin hk (thn (ha pos pins s σ H _ I h) fun us s1 ⟨vs,H1,I1,r,q⟩=>⟨I1.iB,?_⟩) he cF
 exact Dw F hr hb hd hx I1 r q
end
structure aW (N P:List br) (sc:ul):Prop where
 kind:sc.kind=.function
 co:sc.isCoroutine=false
 gen:sc.isGenerator=false
 nd:N.Nodup
 pre:N.take P.length=P
 par:∀x∈P,sc.names.lookup x=some .local\/sc.names.lookup x=some .cell
 nofree:∀y∈sc.names,y.2≠.free
theorem uP {kindOf:br->Option P3}{x:br}:∀{binds:List (br×am)}{m:br->Option am},(∀v,(x,v) ∉ binds)->bindL kindOf binds m x=m x
 | [],_,_=>rfl
 |(n,v)::r,m,h=>by
          unfold bindL;rw[uP fun w hw=>h w (c8 _ hw)]
          split
          ·have:x≠n :=by rintro rfl;exact h v gc
           simp[this]
          ·rfl
theorem uQ {kindOf:br->Option P3}{x:br}:∀{binds:List (br×am)}{m:br->Option am},(∀v,(x,v) ∉ binds)->bindC kindOf binds m x=m x
 | [],_,_=>rfl
 |(n,v)::r,m,h=>by
          unfold bindC;rw[uQ fun w hw=>h w (c8 _ hw)]
          split
          ·rfl
          ·have:x≠n :=by rintro rfl;exact h v gc
           simp[this]
theorem uR {kindOf:br->Option P3}{x:br}{v:am}:∀{P:List br}{vs:List am}{i:Nat}{m:br->Option am},P.Nodup->P[i]?=some x->vs[i]?=some v->kindOf x=some .local->
  bindL kindOf (P.zip vs) m x=some v
 | [],_,_,_,_,h,_,_=>by simp at h
 |_::_,[],_,_,_,_,h,_=>by simp at h
 |p::P,w::vs,0,m,nd,h1,h2,hk=>by
          simp at h1 h2;subst h1;subst h2;show bindL kindOf ((p,w)::P.zip vs) m p=_;unfold bindL;rw[uP fun v hv=>(GM.mp nd).1 (GS hv).1,if_pos hk]
          simp
 |p::P,w::vs,i+1,m,nd,h1,h2,hk=>by
          show bindL kindOf ((p,w)::P.zip vs) m x=_;unfold bindL;exact uR (i:=i) (GM.mp nd).2 (by simpa using h1) (by simpa using h2) hk
theorem uS {kindOf:br->Option P3}{x:br}{v:am}:∀{P:List br}{vs:List am}{i:Nat}{m:br->Option am},P.Nodup->P[i]?=some x->vs[i]?=some v->kindOf x≠some .local->
  bindC kindOf (P.zip vs) m x=some v
 | [],_,_,_,_,h,_,_=>by simp at h
 |_::_,[],_,_,_,_,h,_=>by simp at h
 |p::P,w::vs,0,m,nd,h1,h2,hk=>by
          simp at h1 h2;subst h1;subst h2;show bindC kindOf ((p,w)::P.zip vs) m p=_;unfold bindC;rw[uQ fun v hv=>(GM.mp nd).1 (GS hv).1,if_neg hk]
          simp
 |p::P,w::vs,i+1,m,nd,h1,h2,hk=>by
          show bindC kindOf ((p,w)::P.zip vs) m x=_;unfold bindC;exact uS (i:=i) (GM.mp nd).2 (by simpa using h1) (by simpa using h2) hk
def start (N:List br) (vs:List V):St:=vs.map some++mo (N.length - vs.length) none
def gF (CX:iC) (P:en) (w:ii) (K:bn) (mg:br->Option am) (base:hX) (N:List br) (qual:br) (scope:ul) (f:al) (cd:am) (A:l5) (outer:List Lo) (s:ar) (H:Hp) (E:XK):Cx where
 prog:=P
 w:=w
 K:=K
 mg:=mg
 base:=base
 A:=A.deeper (envOfC qual scope s.heap.objs.size f cd)
 N:=N
 s₀:=s
 H₀:=H
 env:=envOfC qual scope s.heap.objs.size f cd
 outer:=outer
 stack:=envOfC qual scope s.heap.objs.size f cd::outer
 ex:=[]
 calm:=true
 fn:=fun _=>true
 pn:=[]
 xe:=fun e s'=>wpAny (model P w) (A.deeper (envOfC qual scope s.heap.objs.size f cd)) (leaving (envOfC qual scope s.heap.objs.size f cd) e) (fun _ cR=>CX outer H s E e cR) (fun e' cR=>CX outer H s E e' cR) s'
theorem wY {sc:ul}{n:Nat}{x:br}(h:sc.names.lookup x=some .cell):∃c,(cellsFrom n sc.names []).lookup x=some c :=by
 have q:=PySem.W.cellsFrom_some sc.names n [] (.inl h);exact Option.isSome_iff_exists.mp q
theorem Dx {CX:iC}{P:en}{w:ii}{K:bn}{mg:br->Option am}{base:hX}{N ps:List br}{qual:br}{scope:ul}{f:al}{cd:am}{A:l5}{outer:List Lo}{s s1:ar}{H:Hp}{E:XK}{us:List am}{vs:List V}
  (S:aW N ps scope) (hd:A.handled=none) (e0:tL P w K mg base A outer s H) (hl:vs.length=ps.length) (r:Vals vs us)
  (x:InCallC s s.heap.objs.size (bindL (envOfC qual scope s.heap.objs.size f cd).kindOf (ps.zip us) fun _=>none) (cellsFrom (s.heap.objs.size+1) scope.names []) (bindC (envOfC qual scope s.heap.objs.size f cd).kindOf (ps.zip us) fun _=>none) s1) :
  Inv (gF CX P w K mg base N qual scope f cd A outer s H E) [] (start N vs) H s1 :=by
 have cF:ps.length<=N.length :=by have:=congrArg List.length S.pre;rw[ZD]at this;omega
 obtain⟨h1,tk,rfl,hk⟩:=x.done;have MD:∀b:al,b ∉ (gF CX P w K mg base N qual scope f cd A outer s H E).ex:=fun b z=>absurd (show b∈([]:List al) from z) (by simp)
 refine⟨⟨e0.mod,S.kind,rfl,rfl,cb _,fun y z c h1 h2=>?_,fun y hy=>?_,fun y c _ h=>?_,fun _=>hd,l5.frames_deeper e0.frames,.inr ⟨rfl,rfl⟩,fun b z=>absurd z (MD b),e0.bs,e0.bsz,fun b _ _=>MD b,fun b z=>absurd z (MD b),e0.funs,e0.frf⟩,
  rfl,⟨e0.bare,cb _⟩,Un.kept hk,⟨_,x.toInCall.ns,fun i y v h1 h2 h3=>?_⟩,fun y c h=>⟨_,x.cell y c h⟩,e0.hok.fresh (cb _),fun y c h=>?_,fun p hp=>absurd (show p∈([]:List (al×i8)) from hp) (by simp),e0.hok.kept hk,?_⟩
 ·exact name_of_addr x.apart (sK h1) (sK h2)
 ·have hy:scope.names.lookup y=some .cell\/scope.names.lookup y=some .free:=hy;rcases hy with hy|hy
  ·exact wY hy
  ·exact absurd rfl (S.nofree _ (sK hy))
 ·exact OL (x.above y c (sK h))
 ·have hi:i<vs.length :=by
   unfold start at h2;by_cases hi:i<vs.length
   ·exact hi
   ·rw[Go (by simpa using hi)]at h2
    rw[On]at h2;split at h2<;>cases h2
  have ha:vs[i]?=some v :=by
   unfold start at h2;rw[AS (by simpa using hi),bv]at h2
   cases e:vs[i]? with
   |none=>rw[e]at h2;cases h2
   |some a=>rw[e]at h2;cases h2;rfl
  obtain⟨u,hu,rv⟩:=r.get ha;have hp:ps[i]?=some y :=by
   rw[<- S.pre,List.getElem?_take_of_lt (by omega)];exact h1
  have Sf:ps.Nodup :=by rw[<- S.pre];exact S.nd.sublist (List.take_sublist _ _)
  refine⟨u,rv,?_⟩;rcases S.par y (cr hp) with k|k
  ·exact .inl ⟨k,uR Sf hp hu k⟩
  ·obtain⟨c,e⟩:=wY (n:=s.heap.objs.size+1) k;refine .inr ⟨.inl k,c,e,?_⟩;have q:=x.cell y c e;rw[uS Sf hp hu (by show scope.names.lookup y≠_;rw[k];decide)]at q
   exact q
 ·exact e0.hok.fresh (OL (x.above y c (sK h)))
 ·unfold start;show _=N.length;rw[xz,ca,WJ];omega
theorem Bp {CX:iC}{P:en}{w:ii}{K:bn}{mg:br->Option am}{base:hX}{k:Nat}{f:al}{name qual:br}{params:OK}{body:List r9}{scope:ul}{dV kV doc pm de ct oc:am}{an od:Option al}
  {lD:Array (Option am)} {N ps:List br} {sp:Sp} (lk:K.lookup f=some ⟨oc,od,.func (AC name qual params body scope dV kV doc pm an de ct),lD⟩) (eT:Mn K de qual=true) (S:aW N ps scope)
  (len:∀vs H Q E,sp vs H Q E->vs.length=ps.length)
  (m6:∀(A:l5) (outer:List Lo) (s:ar) (H:Hp) (vs:List V) (Q:VK) (E:XK),cj k (A.deeper (envOfC qual scope s.heap.objs.size f de))->sp vs H Q E->
   ∃t,ib (gF CX P w K mg base N qual scope f de A outer s H E) body t/\t {nx:=fun _ H'=>Q .ax H',rt:=Q} (start N vs) H) :
  FnOk P w K mg base CX (k+1) f (AC name qual params body scope dV kV doc pm an de ct) ps sp :=by
 refine⟨len,fun A outer s H args us vs Q E hr e0 hb r lF=>?_⟩
 have hl:=len _ _ _ _ lF;have KX:K.In s.heap:=e0.mod.kin.keeps fun b o e=>(e0.bs b o e).1
 have lim:s.heap.NoLimit:=e0.mod.nolimit.keeps fun b o e=>(e0.bs b o e).1
 have pL:∀y∈ps.zip us,scope.names.lookup y.1=some .local\/(scope.names.lookup y.1=some .cell/\((cellsFrom (s.heap.objs.size+1) scope.names []).lookup y.1).isSome=true):=fun⟨n,v⟩ hy=>by
  rcases S.par n (GS hy).1 with q|q
  ·exact .inl q
  ·exact .inr ⟨q,PySem.W.cellsFrom_some _ _ _ (.inl q)⟩
 refine codeAny_call_function hr.depth (KX _ _ lk) rfl S.co S.gen rfl (PySem.W.codeRec_of KX eT) (hb _ _ _ _ ?_);refine wpAny_newFunctionEnv_cells S.kind pL fun env he s1 x=>?_
 subst he;refine⟨lim.keeps x.toInCall.keep,codeAny_func ?_⟩;obtain⟨t,ht,hq⟩:=m6 A outer s H vs Q E (hr.deeper _) lF;have I:Inv (gF CX P w K mg base N qual scope f de A outer s H E) [] (start N vs) H s1:=Dx S hr.hd e0 hl r x;refine l6 (ht [] s1 (start N vs) H _ I hq) (fun fl s' hs=>?_) fun e s' hs=>hs
 have fin:∀{aO:St} {H':Hp} {v:V} {u:am},Inv (gF CX P w K mg base N qual scope f de A outer s H E) [] aO H' s'->RelV v u->Q v H'->CE outer P w H s Q u s':=
  fun {aO H' v u} J rv q=>⟨v,H',J.os,J.bare,J.base,J.hok,rv,q⟩
 cases fl with
 |ret u=>
  obtain⟨v,aO,H',J,rv,q⟩:=hs;exact fin J rv q
 |next=>
  obtain⟨aO,H',J,q⟩:=hs;exact fin (v:=V.ax) (u:=AM) J rfl q
 |brk=>
  obtain⟨_,_,_,q⟩:=hs;exact FF q
 |cont=>
  obtain⟨_,_,_,q⟩:=hs;exact FF q
section
variable {X:Cx}{x:br}{p pos:u4}{e:db}{es:List db}{t:TA}{id T:String}{r:List V->Hp->VK->Prop}
def ME (r:List V->Hp->VK->Prop) (t:TA):TE:=fun σ H Q=>t σ H fun vs H1=>r vs H1 Q
theorem Gu (hc:dM X (.builtin id) r) (hg:Gl X x) (hm:X.mg x=none) (hv:bootBuiltins x=some (.builtin id)) (ha:PA X (e::es) t) (hn:x ≠ "__name__" := by decide) (fU:(x==("__debug__" : br))=false :=by decide)
  (he:starEach (e::es) X.env=(false,eval e X.env)::starEach es X.env :=by rfl) (cF:(backTo pos (starEach es X.env)).any (·.1)=false :=by rfl):PE X (.Call (.Name x p) (e::es) [] pos) (ME r t) :=by
 refine⟨?_⟩;intro pins s σ H Q I h;refine Cc (fx I hg hm hv ?_ hn fU);exact PyProof.Rows.callWith_builtin1 (thn (ha pos pins s σ H _ I h) fun us s1 ⟨vs,H1,I1,r1,q1⟩=>hc pins s1 σ H1 vs us Q I1 r1 q1) he cF
theorem Dy (hc:dM X (.type T) r) (hg:Gl X x) (hm:X.mg x=none) (hv:bootBuiltins x=some (.type T)) (ha:PA X (e::es) t) (hn:x ≠ "__name__" := by decide) (fU:(x==("__debug__" : br))=false :=by decide)
  (he:starEach (e::es) X.env=(false,eval e X.env)::starEach es X.env :=by rfl) (cF:(backTo pos (starEach es X.env)).any (·.1)=false :=by rfl):PE X (.Call (.Name x p) (e::es) [] pos) (ME r t) :=by
 refine⟨?_⟩;intro pins s σ H Q I h;refine Cc (fx I hg hm hv ?_ hn fU);exact xb (thn (ha pos pins s σ H _ I h) fun us s1 ⟨vs,H1,I1,r1,q1⟩=>hc pins s1 σ H1 vs us Q I1 r1 q1) he cF
end
end L2
namespace HT
open PySem PyProof.Rows
section
variable {prog:en}{w:ii}{A:l5}{E:am->ar->Prop}{s:ar}
def kr (n d:Nat):Option Int->Nat
 |none=>d
 |some v=>if v<0 then (v+(n:Int)).toNat else min v.toNat n
end
end HT
namespace L2
open PySem PySem.Spec PyProof.Rows
abbrev TO:=St->Hp->(Option Int->Hp->Prop)->Prop
def PO (X:Cx) (e:Option db) (t:TO):Prop:=
 ∀(pins:List (al×i8)) (s:ar) (σ:St) (H:Hp) (Q:Option Int->Hp->Prop),Inv X pins σ H s->t σ H Q->
  wpAny (model X.prog X.w) X.A (evalPart e X.env) (fun u s'=>∃o H',Inv X pins σ H' s'/\IsPart u o/\Q o H') X.xe s
def J8:TO:=fun _ H Q=>Q none H
def QV (t:TE):TO:=fun σ H Q=>t σ H fun x H1=>∃i,x=.int i/\Q (some i) H1
section
variable {X:Cx}{e:db}{te:TE}{lo hi:Option db}{tl th:TO}{pos p2:u4}
theorem J9:PO X none J8 :=by
 intro pins s σ H Q I h;rw[evalPart_none];exact bi ⟨none,H,I,.none,h⟩
theorem Ka (h:PE X e te):PO X (some e) (QV te) :=by
 intro pins s σ H Q I hw;rw[evalPart_some];refine thn (h pins s σ H _ I hw) fun u s1 ⟨x,H1,I1,r1,q1⟩=>?_
 obtain⟨i,rfl,q⟩:=q1;obtain⟨t,rfl⟩:=r1;exact⟨some i,H1,I1,.int i t,q⟩
def IB (X:Cx) (r:V->Option Int->Option Int->Hp->VK->Prop):Prop:=
 ∀(pins:List (al×i8)) (s:ar) (σ:St) (H:Hp) (x:V) (v vl vu:am) (lo hi:Option Int) (sl:al) (Q:VK),Inv X pins σ H s->RelV x v->s.heap.IsSliceOf sl vl vu .none->IsPart vl lo->IsPart vu hi->r x lo hi H Q->
  ∃T id,typeLookup (.type T) "__getitem__" = pure (some (.builtin id))/\s.TypeIs v T/\wpAny (model X.prog X.w) X.A (getItem v (.ref sl)) (EP X pins σ Q) X.xe s
def Vc (r:V->Option Int->Option Int->Hp->VK->Prop) (te:TE) (tl th:TO):TE:=fun σ H Q=>te σ H fun x H1=>tl σ H1 fun l H2=>th σ H2 fun u H3=>r x l u H3 Q
theorem Gv {r:V->Option Int->Option Int->Hp->VK->Prop}(hr:IB X r) (he:PE X e te) (hl:PO X lo tl) (hu:PO X hi th):PE X (.Subscript e (.Slice lo hi none p2) pos) (Vc r te tl th) :=by
 refine⟨?_⟩;intro pins s σ H Q I h;refine Subscript_ (thn (he pins s σ H _ I h) fun v s1 ⟨x,H1,I1,r1,q1⟩=>?_)
 refine wpAny_Slice (thn (hl pins s1 σ H1 _ I1 q1) fun vl s2 ⟨l,H2,I2,pl,q2⟩=>thn (hu pins s2 σ H2 _ I2 q2) fun vu s3 ⟨u,H3,I3,pu,q3⟩=>?_)
 rw[evalPart_none];refine bi ?_;have I4:Inv X pins σ H3 {s3 with heap:=s3.heap.push {cls:=.type "slice",data:=.fields #[vl,vu,.none]}}:=I3.kept (t':=s3.toks) fun b ob q=>ba _ q
 obtain⟨T,id,hT,ht,hg⟩:=hr pins {s3 with heap:=s3.heap.push {cls:=.type "slice",data:=.fields #[vl,vu,.none]}} σ H3 x v vl vu l u s3.heap.objs.size Q I4 r1 (hX.IsSliceOf.new ..) pl pu q3
 show wpAny (model X.prog X.w) X.A (subscriptTail e (.Slice lo hi none p2) v (.ref s3.heap.objs.size)) (EP X pins σ Q) X.xe {s3 with heap:=s3.heap.push {cls:=.type "slice",data:=.fields #[vl,vu,.none]}}
 exact tail_any (ops:=[.ref s3.heap.objs.size,v]) ht hT hg (by with_unfolding_all rfl)
def Bq (xs:List V) (lo hi:Option Int):List V:=(xs.drop (HT.kr xs.length 0 lo)).take (HT.kr xs.length xs.length hi - HT.kr xs.length 0 lo)
theorem zv (xs:List V) (lo hi:Option Int):(Bq xs lo hi).length<=xs.length :=by
 unfold Bq;rw[ZD,ZE];omega
end
def fN (n:Nat) (i:Int):Option Nat:=if 0<=i then (if i<n then some i.toNat else none) else if -(n:Int)<=i then some (i+n).toNat else none
def dj {α:Type}(xs:List α) (i:Int):Option α:=(fN xs.length i).bind fun j=>xs[j]?
theorem tM {n:Nat}{i:Int}{j:Nat}(h:fN n i=some j):seqIndex? i n=some j/\j<n /\ -(n:Int)<=i/\i<n :=by
 unfold fN at h;by_cases h0:0<=i
 ·rw[if_pos h0]at h;by_cases h1:i<n
  ·rw[if_pos h1]at h;have e:i.toNat=j:=gl h;exact⟨by rw[seqIndex_of h0 h1,e],by omega,by omega,h1⟩
  ·rw[if_neg h1]at h;cases h
 ·rw[if_neg h0]at h;by_cases h1 : -(n:Int)<=i
  ·rw[if_pos h1]at h;have e:(i+n).toNat=j:=gl h;exact⟨by rw[seqIndex_neg (by omega) h1,e],by omega,h1,by omega⟩
  ·rw[if_neg h1]at h;cases h
theorem tN {α:Type}{xs:List α}{i:Int}{v:α}(h:dj xs i=some v):∃j,seqIndex? i xs.length=some j/\xs[j]?=some v/\j<xs.length /\ -(xs.length:Int)<=i/\i<xs.length :=by
 unfold dj at h;cases e:fN xs.length i with
 |none=>rw[e]at h;cases h
 |some j=>
  rw[e]at h;obtain⟨h1,h2,h3,h4⟩:=tM e;exact⟨j,h1,h,h2,h3,h4⟩
theorem eh {α:Type}{xs:List α}{j:Nat}{v:α}(h:xs[j]?=some v):dj xs (j:Int)=some v :=by
 have hj:j<xs.length:=(ce.mp h).1;have e:fN xs.length (j:Int)=some j :=by
  unfold fN;rw[if_pos (by omega),if_pos (by omega)];simp
 unfold dj;rw[e];exact h
def Aa (b:db):Prop:=∀o i,subscripted b false o i=operate [o,i] (getItem o i)
def oj (X:Cx) (r:R2):Prop:=
 ∀(value slice:db) (pins:List (al×i8)) (s:ar) (σ:St) (H:Hp) (x y:V) (v u:am) (Q:VK),Inv X pins σ H s->RelV x v->RelV y u->r x y H Q->
  subscripted slice false v u=operate [v,u] (getItem v u)->wpAny (model X.prog X.w) X.A (subscriptTail value slice v u) (EP X pins σ Q) X.xe s
def Dz (X:Cx) (id:String) (r:V->List V->Hp->VK->Prop):Prop:=
 ∀(pins:List (al×i8)) (s:ar) (σ:St) (H:Hp) (x:V) (xs:List V) (v:am) (us:List am) (Q:VK),Inv X pins σ H s->RelV x v->Vals xs us->r x xs H Q->
  wpAny (model X.prog X.w) X.A (call (.builtin id) (v::us)) (EP X pins σ Q) X.xe s
section
variable {X:Cx}{a b:db}{ta tb:TE}{pos:u4}
theorem oj.or {r r':R2}(h:oj X r) (h':oj X r'):oj X (fun x y H Q=>r x y H Q\/r' x y H Q) :=by
 intro value slice pins s σ H x y v u Q I rx ry q hs;rcases q with q|q
 ·exact h value slice pins s σ H x y v u Q I rx ry q hs
 ·exact h' value slice pins s σ H x y v u Q I rx ry q hs
theorem QX {r:R2}(hr:oj X r) (ha:PE X a ta) (hb:PE X b tb) (hs:Aa b):PE X (.Subscript a b pos) (Dm r ta tb) :=by
 refine⟨?_⟩;intro pins s σ H Q I h;exact Subscript_ (Gg ha hb I h fun v u s2 x y H2 I2 rx ry q=>hr a b pins s2 σ H2 x y v u Q I2 rx ry q (hs _ _))
def MF (K:bn):R2:=fun x y H Q=>∃p xs i v,x=.ref p/\y=.int i/\b9 K H p xs/\dj xs i=some v/\Q v H
def MG (K:bn):R2:=fun x y H Q=>∃p xs i v,x=.ref p/\y=.int i/\dG K H p xs/\dj xs i=some v/\Q v H
def MH:R2:=fun x y H Q=>∃z i c,x=.str z/\y=.int i/\z.length<=sizeLine/\dj z.cps.toList i=some c/\Q (.str ⟨#[c]⟩) H
theorem Kb:oj X (MF X.K) :=by
 intro value slice pins s σ H x y v u Q I rx ry h hs;obtain⟨p,xs,i,z,rfl,rfl,hq,he,q⟩:=h;cases rx;obtain⟨t,rfl⟩:=ry;obtain⟨its,r,pl,hz⟩:=I.list hq;obtain⟨j,h1,h2,h3,h4,h5⟩:=tN he;obtain⟨w,ew,fV⟩:=r.get h2;have hl:=r.length;have hn:=ko;have fin:EP X pins σ Q w s:=⟨z,H,I,fV,q⟩;by_cases h0:0<=i
 ·have hj:i.toNat=j :=by
   rw[seqIndex_of h0 h5]at h1;exact gl h1
  exact item_listR pl.isList h0 (by omega) (by rw[hj];simpa using ew) fin hs
 ·have hj:(i+(its.toArray.size:Int)).toNat=j :=by
   rw[seqIndex_neg (by omega) h4]at h1
   rw[f8,<- hl];exact gl h1
  exact subscriptTail_builtinR (x:=w) pl.isList.typeIs slot_list_getitem.lookup
   (wpAny_getItem_list_neg (Q:=fun r s'=>r=w/\EP X pins σ Q r s') pl.isList (by omega) (by rw[f8]<;>omega) (by omega) (by rw[hj];simpa using ew) ⟨rfl,fin⟩) hs
theorem MI:oj X (MG X.K) :=by
 intro value slice pins s σ H x y v u Q I rx ry h hs;obtain⟨p,xs,i,z,rfl,rfl,hq,he,q⟩:=h;cases rx;obtain⟨t,rfl⟩:=ry;obtain⟨its,r,pl,hz⟩:=I.tuple hq;obtain⟨j,h1,h2,h3,h4,h5⟩:=tN he;obtain⟨w,ew,fV⟩:=r.get h2;have hl:=r.length;have hn:=ko;have fin:EP X pins σ Q w s:=⟨z,H,I,fV,q⟩;exact subscriptTail_builtinR (x:=w) pl.typeIs slot_tuple_getitem.lookup
  (getItem_tuple (j:=j) (Q:=fun r s'=>r=w/\EP X pins σ Q r s') pl (by omega) (by omega) (by rw[f8,<- hl];exact h1) (by simpa using ew) ⟨rfl,fin⟩) hs
theorem MJ:oj X MH :=by
 intro value slice pins s σ H x y v u Q I rx ry h hs;obtain⟨z,i,c,rfl,rfl,hz,he,q⟩:=h;obtain⟨t,rfl⟩:=rx;obtain⟨t',rfl⟩:=ry;obtain⟨j,h1,h2,h3,h4,h5⟩:=tN he;have hl:z.cps.toList.length=z.length :=by simp[br.length]
 rw[hl]at h1 h4 h5;have hn:=ko;exact tail_any (typeIs_str s z t) slot_str_getitem.lookup (getItem_str (c:=c) (by
  have e1:decide (i < -(2 ^ 63:Int))=false:=decide_eq_false (by omega)
  have e2:decide (i ≥ 2 ^ 63)=false:=decide_eq_false (by omega)
  rw[e1,e2,Bool.or_false]) (by rw[h1];simpa using h2) ⟨.str ⟨#[c]⟩,H,I.tok _,⟨_,rfl⟩,q⟩) hs
def Sg (K:bn):R2:=fun x y H Q=>MF K x y H Q\/MG K x y H Q\/MH x y H Q
theorem MK:oj X (Sg X.K):=Kb.or (MI.or MJ)
theorem Br (its:List am) (n j:Nat) (u:am):Tl (·.setIfInBounds j u) {cls:=.type "list",data:=.seq its.toArray n}={cls:=.type "list",data:=.seq (its.set j u).toArray n}:=by
 simp[Tl]
theorem Inv.lst {pins:List (al×i8)}{σ:St}{H:Hp}{s:ar}{p:al}{xs:List V}(I:Inv X pins σ H s) (h:H p=some (.lst xs)) :
  ∃(its:List am) (n:Nat),Vals xs its/\s.heap.get? p=some {cls:=.type "list",data:=.seq its.toArray n}/\xs.length<=sizeLine :=by
 obtain⟨z,its,n,r,e⟩:=I.hok p _ h;exact⟨its,n,r,e,z⟩
theorem Inv.ML {pins:List (al×i8)}{σ:St}{H:Hp}{s:ar}{p:al}{xs ys:List V}{its its':List am}{n n':Nat}{f:i8->i8}(I:Inv X pins σ H s) (h:H p=some (.lst xs))
  (ho:s.heap.get? p=some {cls:=.type "list",data:=.seq its.toArray n}) (hf:f {cls:=.type "list",data:=.seq its.toArray n}={cls:=.type "list",data:=.seq its'.toArray n'}) (r:Vals ys its') (hz:ys.length<=sizeLine) (t:Nat) :
  Inv X pins σ (upd H p (.lst ys)) {s with heap:=s.heap.update p f,toks:=t}:=by
 have e:(s.heap.update p f).get? p=some {cls:=.type "list",data:=.seq its'.toArray n'}:=by
  rw[ID f ho (by rw[hf]<;>rfl),hf]
 refine I.write (x:=p) (e:=p) (by rw[h];trivial) (.inl rfl) (fun b u hb q=>(Cn _ _ (zn hb)).trans q) ⟨_,e⟩ ?_
 exact⟨hz,its',n',r,e⟩
def QY:V->V->V->Hp->(Hp->Prop)->Prop:=fun o i v H Q=>∃p xs k j,o=.ref p/\i=.int k/\H p=some (.lst xs)/\fN xs.length k=some j/\Q (upd H p (.lst (xs.set j v)))
theorem set_list:Gd X QY :=by
 intro pins s σ H o i v ov iv u Q I ro ri rv h;obtain⟨p,xs,k,j,rfl,rfl,hp,hj,q⟩:=h;cases ro;obtain⟨t,rfl⟩:=ri;obtain⟨its,n,r,ho,hz⟩:=I.lst hp;obtain⟨h1,h2,h3,h4⟩:=tM hj;have hl:=r.length;have hn:=ko;have I':Inv X pins σ (upd H p (.lst (xs.set j v))) {s with heap:=s.heap.update p (Tl (·.setIfInBounds j u))}:=
  I.ML hp ho (Br its n j u) (r.set rv j) (by rw[X9];exact hz) s.toks
 by_cases h0:0<=k
 ·have hk:k.toNat=j :=by
   rw[seqIndex_of h0 h4]at h1;exact gl h1
  exact PySem.W.ki_setAt ho h0 (by omega) (by rw[f8,<- hl];exact h4) (by rw[hk];exact⟨_,I',q⟩)
 ·have hk:(k+(its.toArray.size:Int)).toNat=j :=by
   rw[seqIndex_neg (by omega) h3]at h1
   rw[f8,<- hl];exact gl h1
  exact PySem.W.ki_setBack ho (by omega) (by rw[f8,<- hl];exact h3) (by omega) (by rw[hk];exact⟨_,I',q⟩)
theorem wZ (lo hi:Option Int) (n:Nat):(sliceBounds lo hi none n).1=((HT.kr n 0 lo:Nat):Int)/\(sliceBounds lo hi none n).2.1=((HT.kr n n hi:Nat):Int)/\(sliceBounds lo hi none n).2.2=1 :=by
 refine⟨?_,?_,rfl⟩
 ·cases lo with
  |none=>simp[sliceBounds,HT.kr]
  |some i=>
   simp only[sliceBounds,HT.kr,ZF,show (1:Int) > 0 by decide,if_true]
   by_cases h:i<0
   ·simp only[h,if_true]<;>omega
   ·simp only[h,if_false]<;>omega
 ·cases hi with
  |none=>simp[sliceBounds,HT.kr]
  |some i=>
   simp only[sliceBounds,HT.kr,ZF,show (1:Int) > 0 by decide,if_true]
   by_cases h:i<0
   ·simp only[h,if_true]<;>omega
   ·simp only[h,if_false]<;>omega
theorem vW (its:List am) (lo hi:Option Int):slicePick its.toArray lo hi none=((its.drop (HT.kr its.length 0 lo)).take (HT.kr its.length its.length hi - HT.kr its.length 0 lo)).toArray :=by
 obtain⟨h1,h2,h3⟩:=wZ lo hi its.toArray.size;unfold slicePick;rw[h1,h2,h3];simp only[sliceRange_one,pick_run,f8]<;>rfl
def T7 (K:bn):V->Option Int->Option Int->Hp->VK->Prop:=fun x lo hi H Q=>∃a xs,x=.ref a/\b9 K H a xs/\∀p,H p=none->Q (.ref p) (upd H p (.lst (Bq xs lo hi)))
theorem U2:IB X (T7 X.K) :=by
 intro pins s σ H x v vl vu lo hi sl Q I rx hs pl pu h;obtain⟨a,xs,rfl,hx,q⟩:=h;cases rx;obtain⟨its,r,ht,hz⟩:=I.list hx;have hlen:=r.length;refine⟨"list",_,slot_list_getitem.lookup,ht.isList.typeIs,?_⟩
 refine wpAny_getItem_list_slice ht.isList hs pl pu .none (by simp) ?_ (by rw[f8]<;>omega)
 rw[vW,<- hlen];refine⟨.ref s.heap.objs.size,_,I.laid (t':=s.toks) (o:=.lst (Bq xs lo hi)) (fun b ob q=>ba _ q) (cb _) ?_,rfl,q _ (I.hok.fresh (cb _))⟩
 exact⟨sw (zv xs lo hi) hz,_,0,(r.drop (HT.kr xs.length 0 lo)).take (HT.kr xs.length xs.length hi - HT.kr xs.length 0 lo),ci _ rfl⟩
theorem vX:dM X (.type "tuple") (fun xs H Q=>∃p ys,xs=[.ref p]/\((b9 X.K H p ys/\∀l,H l=none->Q (.ref l) (upd H l (.tup ys)))\/(dG X.K H p ys/\Q (.ref p) H))) :=by
 intro pins s σ H xs us Q I r h;obtain⟨p,ys,rfl,h⟩:=h;obtain⟨u,rfl,rx⟩:=vals1 r;cases rx;rcases h with ⟨hq,q⟩|⟨hq,q⟩
 ·obtain⟨its,r',pl,hz⟩:=I.list hq;have hlen:=r'.length;refine call_tuple_list pl.isList (fun h' kp=>?_) (by simp only[f8]<;>omega)
  have I1:Inv X pins σ H {s with heap:=h'}:=I.kept (t':=s.toks) kp
  have I2:Inv X pins σ (upd H h'.objs.size (.tup ys)) {s with heap:=h'.push {cls:=.type "tuple",data:=.seq its.toArray}}:=
   I1.laid (t':=s.toks) (fun b o e=>ba _ e) (cb _) (show ObjOk X.prog X.w _ _ _ (.tup ys) from ⟨hz,its,r',my.new _ _⟩)
  exact⟨.ref h'.objs.size,_,I2,rfl,q _ (I1.hok.fresh (cb _))⟩
 ·obtain⟨its,r',pl,hz⟩:=I.tuple hq;exact call_tuple_same pl ⟨.ref p,H,I,rfl,q⟩
def MN (K:bn) (T:String) (x:V) (H:Hp):Prop:=match x with
 | .str _=>T = "str"
 | .int _=>T = "int"
 | .ref p=>(T = "list" /\ ∃xs,b9 K H p xs)\/(T = "tuple" /\ ((∃o,K.lookup p=some o/\o.cls=.type "tuple" /\ o.dict=none)\/∃xs,H p=some (.tup xs))) \/
   (T = "dict" /\ ((∃ak,H p=some (.dK ak))\/∃ak,H p=some (.dT ak)))\/(T = "set" /\ ∃S n,H p=some (.set S n))
 |_=>False
theorem MO {pins:List (al×i8)}{σ:St}{H:Hp}{s:ar}{T:String}{x:V}{v:am}(I:Inv X pins σ H s) (r:RelV x v) (ty:MN X.K T x H) :
  s.TypeIs v T/\∀a,v=.ref a->∃ob,s.heap.get? a=some ob/\ob.dict=none :=by
 cases x with
 |str z=>
  obtain⟨t,rfl⟩:=r;cases (show T = "str" from ty)
  exact⟨typeIs_str s z t,fun _ e=>nomatch e⟩
 |int i=>
  obtain⟨t,rfl⟩:=r;cases (show T = "int" from ty)
  exact⟨typeIs_int s i t,fun _ e=>nomatch e⟩
 |ref p=>
  cases r;rcases ty with ⟨rfl,xs,hq⟩|⟨rfl,⟨o,hk,hc,hd⟩|⟨xs,hk⟩⟩|⟨rfl,hk⟩|⟨rfl,S,n,hk⟩
  ·obtain⟨its,_,pl,_⟩:=I.list hq;refine⟨pl.isList.typeIs,fun a e=>?_⟩
   cases e;obtain⟨o,n,e,c,hd,_⟩:=pl;exact⟨o,e,hd⟩
  ·refine⟨⟨o,I.iB p o hk,hc⟩,fun a e=>?_⟩
   cases e;exact⟨o,I.iB _ o hk,hd⟩
  ·obtain⟨_,its,_,o,e,c,n,d,hd⟩:=I.hok p _ hk;refine⟨⟨o,e,c⟩,fun a e2=>?_⟩
   cases e2;exact⟨o,e,hd⟩
  ·have z:∃o,s.heap.get? p=some o/\o.ExactDict :=by
    rcases hk with ⟨ak,hk⟩|⟨ak,hk⟩
    ·obtain⟨_,_,_,_,o,_,_,e,ex,_⟩:=I.hok p _ hk;exact⟨o,e,ex⟩
    ·obtain⟨_,_,_,_,o,_,_,e,ex,_⟩:=I.hok p _ hk;exact⟨o,e,ex⟩
   obtain⟨o,e,ex⟩:=z;refine⟨⟨o,e,ex.1⟩,fun a e2=>?_⟩
   cases e2;exact⟨o,e,ex.2.1⟩
  ·obtain⟨o,_,_,_,e,ex,_⟩:=I.hok p _ hk;refine⟨⟨o,e,ex.1⟩,fun a e2=>?_⟩
   cases e2;exact⟨o,e,ex.2.1⟩
 |_=>exact FF ty
def Sh (K:bn) (T:String) (r:V->List V->Hp->VK->Prop) (to:TE) (t:TA):TE:=fun σ H Q=>to σ H fun x H1=>MN K T x H1/\t σ H1 fun xs H2=>r x xs H2 Q
variable {o e:db}{es:List db}{to:TE}{t:TA}{name:br}{apos aV:u4}{T id:String}{r:V->List V->Hp->VK->Prop}
theorem QZ (pa:Zy T) (slot:Slot T name id) (om:typeOf (.builtin id)=pure (.type "method_descriptor")) (hm:Dz X id r) (ho:PE X o to) (ha:PA X (e::es) t)
  (jZ:attributeBase o name X.env (eval o X.env)=eval o X.env :=by rfl)
  (m7:((backTo aV (starEach (e::es) X.env)).all (fun x => !x.1) && (backToKw aV (keywordEach [] X.env)).all (fun x=>x.1.isSome)
   && decide ((e::es).length+([]:List Ps).length+(if ([]:List Ps).isEmpty then 0 else 1)<30))=true :=by rfl)
  (hline:(apos.endLine==aV.line)=true :=by rfl) (hs:starEach (e::es) X.env=(false,eval e X.env)::starEach es X.env :=by rfl) (iD:(backTo aV (starEach es X.env)).any (·.1)=false :=by rfl) :
  PE X (.Call (.Attribute o name apos) (e::es) [] aV) (Sh X.K T r to t) :=by
 refine⟨?_⟩;intro pins s σ H Q I h;refine wpAny_Call_method_late jZ m7 hline rfl (thn (ho pins s σ H _ I h) fun v s1 ⟨x,H1,I1,r1,ty,q1⟩=>?_)
 obtain⟨h1,h2⟩:=MO I1 r1 ty;refine⟨T,id,pa,slot,om,h1,h2,?_⟩;have hA:=ha aV pins s1 σ H1 _ I1 q1;rw[hs]at hA ⊢;refine Yq (by show (false || (backTo aV (starEach es X.env)).any (·.1))=false;rw[iD]<;>rfl) (YK ?_)
 exact thn hA fun us s2 ⟨vs,H2,I2,r2,q2⟩=>hm pins s2 σ H2 x vs v us Q I2 r1 r2 q2
end
def MP (X:Cx) (id:String) (r:V->List V->Hp->VK->Prop):Prop:=
 ∀(pins:List (al×i8)) (s:ar) (σ:St) (H:Hp) (x:V) (xs:List V) (v:am) (us:List am) (Q:VK),Inv X pins σ H s->RelV x v->Vals xs us->r x xs H Q->
  wpAny (model X.prog X.w) X.A (call (.builtin id) (v::us)) (EP X pins σ Q) X.xe s
theorem Vals.one:∀{x:V}{us:List am},Vals [x] us->∃u,us=[u]/\RelV x u
 |_,_,.cons r .nil=>⟨_,rfl,r⟩
theorem Vals.eraseIdx:∀{xs:List V}{us:List am}(i:Nat),Vals xs us->Vals (xs.eraseIdx i) (us.eraseIdx i)
 |_,_,_,.nil=>.nil
 |_,_,0,.cons _ t=>t
 |_,_,i+1,.cons r t=>.cons r (Vals.eraseIdx i t)
theorem Vals.rep {xs:List V}{us:List am}(h:Vals xs us):∀k:Nat,Vals (mo k xs).flatten (mo k us).flatten
 |0=>.nil
 |k+1=>by
          rw[DD,DD,Pe,Pe];exact Vals.append h (Vals.rep h k)
theorem uT {α:Type}:∀(l:List α) (i:Nat),(l.eraseIdx i).length<=l.length
 | [],_=>cb _
 |_::_,0=>Co _
 |_::r,i+1=>Nat.succ_le_succ (uT r i)
theorem foldl_rep (its:List am):∀(k:Nat) (acc:List am),
  Z4 (fun x1 x2=>x1++x2) acc.toArray (mo k its.toArray)=(acc++(mo k its).flatten).toArray
 |0,acc=>by simp
 |k+1,acc=>by
          have e:acc.toArray++its.toArray=(acc++its).toArray :=by simp
          have e2:(acc++its)++(mo k its).flatten=acc++(mo (k+1) its).flatten :=by
           rw[DD,Pe,NH]
          rw[<- e2,<- foldl_rep its k (acc++its),<- e,DD,TD]
section
variable {X:Cx}{pins:List (al×i8)}{σ:St}{H:Hp}{s:ar}{l b:al}{xs ys zs:List V}
theorem Inv.Gw {its its':List am}{n:Nat}{f:Array am->Array am}{t':Nat}(I:Inv X pins σ H s) (hH:H l=some (.lst xs))
  (e:s.heap.get? l=some {cls:=.type "list",data:=.seq its.toArray n}) (hf:f its.toArray=its'.toArray) (hv:Vals ys its') (hz:ys.length<=sizeLine) :
  Inv X pins σ (upd H l (.lst ys)) {s with heap:=s.heap.update l (Tl f),toks:=t'}:=by
 have q:=PySem.IsL.update e f;rw[hf]at q;refine I.write (x:=l) (e:=l) (by rw[hH];exact trivial) (.inl rfl) (fun b' u hb hu=>(Cn s.heap (Tl f) (zn hb)).trans hu) ⟨_,q⟩ ?_
 exact⟨hz,its',_,hv,q⟩
theorem Inv.MQ {its:List am}{t':Nat}(I:Inv X pins σ H s) (hv:Vals ys its) (hz:ys.length<=sizeLine) :
  Inv X pins σ (upd H s.heap.objs.size (.lst ys)) {s with heap:=s.heap.push {cls:=.type "list",data:=.seq its.toArray},toks:=t'}:=
 I.laid (fun _ _ q=>ba _ q) (cb _) ⟨hz,its,0,hv,ci _ rfl⟩
theorem Inv.fresh (I:Inv X pins σ H s):H s.heap.objs.size=none:=I.hok.fresh (cb _)
theorem Inv.qF (I:Inv X pins σ H s) (hH:H l=some (.lst xs)):xs.length<=sizeLine/\∃(its:List am) (n:Nat),Vals xs its/\xs.length=its.length/\s.heap.get? l=some {cls:=.type "list",data:=.seq its.toArray n}:=by
 obtain⟨z,its,n,r,e⟩:=I.hok l _ hH;exact⟨z,its,n,r,r.length,e⟩
theorem w5 {n:Nat}(h:n<=sizeLine):Re n=false :=by
 unfold Re;exact decide_eq_false (by omega)
end
section
variable {X:Cx}
def Kc:V->List V->Hp->VK->Prop:=fun x vs H Q=>∃l xs y,x=.ref l/\vs=[y]/\H l=some (.lst xs)/\xs.length<sizeLine/\Q .ax (upd H l (.lst (xs++[y])))
theorem uU:MP X "list.append" Kc :=by
 intro pins s σ H x vs v us Q I rx rv h;obtain⟨l,xs,y,rfl,rfl,hH,hz,q⟩:=h;cases rx;obtain⟨u,rfl,ru⟩:=rv.one;obtain⟨z,its,n,r,hl,e⟩:=I.qF hH;refine Zz F.slot_list_append ⟨_,e,rfl⟩ F.entry_list_append (F.args_list_append_2 _ _) (PySem.list_append l its.toArray n u (by rw[f8];omega)) ⟨e,?_⟩
 refine⟨.ax,_,I.Gw (its':=its++[u]) hH e (by simp) (r.append (.cons ru .nil)) ?_,rfl,q⟩
 rw[xz,List.length_singleton];omega
def Kd:V->List V->Hp->VK->Prop:=fun x vs H Q=>∃l b xs zs,x=.ref l/\vs=[.ref b]/\H l=some (.lst xs)/\H b=some (.lst zs)/\xs.length+zs.length<=sizeLine/\Q .ax (upd H l (.lst (xs++zs)))
theorem DA:MP X "list.extend" Kd :=by
 intro pins s σ H x vs v us Q I rx rv h;obtain⟨l,b,xs,zs,rfl,rfl,hH,hB,hz,q⟩:=h;cases rx;obtain⟨u,rfl,ru⟩:=rv.one;cases ru;obtain⟨z,its,n,r,hl,e⟩:=I.qF hH;obtain⟨z2,cz,n2,r2,iE,e2⟩:=I.qF hB;have hsz:its.toArray.size+cz.toArray.size<=sizeLine :=by rw[f8,f8];omega
 have Bs:¬ (!its.toArray.isEmpty && Re (its.toArray.size+cz.toArray.size))=true :=by
  rw[w5 hsz,Y8];exact ij
 refine Zz F.slot_list_extend ⟨_,e,rfl⟩ F.entry_list_extend (F.args_list_extend_2 _ _)
  (AutoSeq1.list_extend_list_list_0 l its.toArray n b cz.toArray n2 Bs (by rw[f8];omega) (by omega)) ⟨e,e2,?_⟩
 refine⟨.ax,_,I.Gw (its':=its++cz) hH e (by simp) (r.append r2) ?_,rfl,q⟩
 rw[xz];omega
def MR:V->List V->Hp->VK->Prop:=fun x vs H Q=>∃l xs i k y,x=.ref l/\vs=[.int i]/\H l=some (.lst xs) /\ -(2 ^ 63)<=i/\i<2 ^ 63/\seqIndex? i xs.length=some k/\xs[k]?=some y/\Q y (upd H l (.lst (xs.eraseIdx k)))
theorem Gx:MP X "list.pop" MR :=by
 intro pins s σ H x vs v us Q I rx rv h;obtain⟨l,xs,i,k,y,rfl,rfl,hH,h1,h2,hk,hy,q⟩:=h;cases rx;obtain⟨u,rfl,ru⟩:=rv.one;obtain⟨t,rfl⟩:=ru;obtain⟨z,its,n,r,hl,e⟩:=I.qF hH;obtain⟨w,hw,fV⟩:=r.get hy;refine Zz F.slot_list_pop ⟨_,e,rfl⟩ F.entry_list_pop (F.args_list_pop_2 _ _)
  (MeetsSeq.list_pop_at l its.toArray n i t k w (fitsIndex_both h1 h2) (by rw[f8,<- hl];exact hk) (by rw[<- MW];exact hw) (by rw[f8];omega)) ⟨e,?_⟩
 refine⟨y,_,I.Gw (its':=its.eraseIdx k) hH e ?_ (r.eraseIdx k) ?_,fV,q⟩
 ·show its.toArray.eraseIdxIfInBounds k=(its.eraseIdx k).toArray;rw[List.eraseIdxIfInBounds_toArray]
 ·have:=uT xs k;omega
def T8:R2:=fun x y H Q=>∃l b xs zs,x=.ref l/\y=.ref b/\H l=some (.lst xs)/\H b=some (.lst zs)/\xs.length+zs.length<=sizeLine/\∀p,H p=none->Q (.ref p) (upd H p (.lst (xs++zs)))
theorem MS:OpR X (binaryOp .Add) T8 :=by
 intro pins s σ H x y v u Q I rx ry h;obtain⟨l,b,xs,zs,rfl,rfl,hH,hB,hz,q⟩:=h;cases rx;cases ry;obtain⟨z,its,n,r,hl,e⟩:=I.qF hH;obtain⟨z2,cz,n2,r2,iE,e2⟩:=I.qF hB;refine PySem.P.add_list e e2 ?_ (by rw[f8,f8];omega)
 have ea:its.toArray++cz.toArray=(its++cz).toArray :=by simp
 rw[ea];exact⟨.ref _,_,I.MQ (t':=s.toks) (r.append r2) (by rw[xz];omega),rfl,q _ I.fresh⟩
def T9:R2:=fun x y H Q=>∃l k xs,x=.ref l/\y=.int k/\H l=some (.lst xs) /\ -(2 ^ 63)<=k/\k<2 ^ 63/\xs.length * k.toNat<=sizeLine /\
 ∀p,H p=none->Q (.ref p) (upd H p (.lst (mo k.toNat xs).flatten))
theorem len_rep {α:Type}(xs:List α) (k:Nat):(mo k xs).flatten.length=k * xs.length :=by
 induction k with
 |zero=>simp
 |succ k ih=>rw[DD,Pe,xz,ih,Nat.succ_mul,Nat.add_comm]
theorem MT:OpR X (binaryOp .Mult) T9 :=by
 intro pins s σ H x y v u Q I rx ry h;obtain⟨l,k,xs,rfl,rfl,hH,h1,h2,hz,q⟩:=h;cases rx;obtain⟨t,rfl⟩:=ry;obtain⟨z,its,n,r,hl,e⟩:=I.qF hH;have hlen:its.toArray.size * k.toNat<=sizeLine :=by rw[f8,<- hl];exact hz
 have Ua:¬ its.toArray.size * k.toNat > (2 ^ 63 - 1) / 8 :=by
  have:(sizeLine:Nat)<=(2 ^ 63 - 1) / 8 :=by decide
  omega
 have MU:¬ (!Builtin.List.listFitsIndex k)=true :=by
  rw[fitsIndex_both h1 h2];exact ij
 have Bs:¬ Re (its.toArray.size * k.toNat)=true :=by
  rw[w5 hlen];exact ij
 have Gy:Z4 (fun x1 x2=>x1++x2) #[] (mo (if its.toArray.isEmpty=true then 0 else k.toNat) its.toArray)=(mo k.toNat its).flatten.toArray :=by
  have f0:∀m:Nat,Z4 (fun x1 x2=>x1++x2) #[] (mo m its.toArray)=(mo m its).flatten.toArray:=fun m=>by
   have:=foldl_rep its m [];rw[GT]at this;exact this
  rw[f0];cases its with
  |nil=>simp
  |cons a r'=>rw[if_neg (by simp)]
 refine wpAny_binaryOp_repeat_ref (T := "list") (U := "int") (by decide) ⟨_,e,rfl⟩ (fun s'=>typeIs_int s' k t) noFill_list_mul F.fills_int_mul F.slot_int_rmul repeat_list F.slot_int_index.lookup
  (Zz F.slot_int_rmul (typeIs_int s k t) F.entry_int_rmul (F.args_int_rmul_2 _ _) (int___rmul___int_list k t l its.toArray n)
   ⟨e,rfl,⟨_,e,rfl⟩,Zz F.slot_list_mul ⟨_,e,rfl⟩ F.entry_list_mul (F.args_list_mul_2 _ _) (AutoListH.list___mul___list_int_3 l its.toArray n k t MU Ua Bs) ⟨e,?_⟩⟩)
 rw[Gy];exact⟨.ref _,_,I.MQ (t':=s.toks) (r.rep k.toNat) (by rw[len_rep,Nat.mul_comm];exact hz),rfl,q _ I.fresh⟩
end
end L2
namespace Si
open PySem PySem.W PySem.Calls PyProof.Rows
theorem rN {P:Z9}{h:hX}:∀(ns:List Int) (vs:List am),WellAll P h vs (ns.map WData.int)->WP vs ns :=by
 intro ns;induction ns with
 |nil=>
  intro vs w;rw[Rs]at w;cases w;exact .nil
 |cons n ns ih=>
  intro vs w;rw[lw]at w;cases w with
  |cons a b=>
   cases a;exact .cons _ _ (ih _ b)
theorem DB {l:OpenLaw}{n:Nat}(hn:l.most=some n) {P:Z9}{h:hX}{args:List WData}{vals:List am}
  (Bt:l.row.toRowW.claim.pre args=true) (Ab:WellAll P h vals args) :
  ∃a vs ns,vals=[l7 a]/\args=[WData.list (ns.map WData.int)]/\h.get? a=some {cls:=.type "list",data:=.seq vs.toArray}/\WP vs ns/\ns.length<=n :=by
 have Vd:WShape.hasAll [] args [.list .int]=true:=(pre_splitW Bt).1;have hc:l.pre.holds [] {args:=args}=true:=(pre_splitW Bt).2;obtain⟨d,r,rfl,h1,h2⟩:=hasAllW_cons Vd;obtain rfl:=hasAllW_nil h2;obtain⟨xs,rfl,h3⟩:=hasW_list h1;obtain⟨ns,rfl⟩:=items_int h3;have hlen:ns.length<=n :=by
  unfold OpenLaw.pre at hc;have h4:(WTm.not (.lt (.lit (.int (n:Int))) (.len (.arg 0)))).holds [] {args:=[.list (ns.map .int)]}=true :=by
   have h4:=(holds_andW hc).1;rw[hn]at h4;exact h4
  have h5:=condW_of h4 (w_not (w_lt w_lit (w_len_list (w_arg rfl))));rw[ca]at h5;refine YB fun q=>?_
  have q':(n:Int)<((ns.length:Nat):Int) :=by omega
  first
   |(rw[decide_eq_true q']at h5;exact absurd h5 (by decide))
   |(simp at h5;omega)
 cases Ab with
 |cons w1 w2=>
  cases w2;cases w1 with
  |list ho GA=>exact⟨_,_,ns,rfl,rfl,ho,rN ns _ GA,hlen⟩
theorem DC (l:OpenLaw) (args:List WData):l.row.toRowW.claim.post args (.bool true) args=true:=
 postW_of (r:=l.row.toRowW) (X:=(true==true))
  (show WShape.has [] (.bool true) .bool=true by first|rfl|decide|simp[WShape.has,WShape.arms,WShape.armsAll])
  (show (WTm.eq .res (.lit (.bool true))).value [] {args:=args,res:=some (.bool true),after:=args}=some (.bool (true==true)) from w_eq_bool (w_res rfl) w_lit) rfl
theorem zx {l:OpenLaw}{n:Nat}{q:en}{loose:List br}{XP:(br->Option am)->hX->Prop}{YP:ii->hX->Prop}{d:DefRec}
  (hn:l.most=some n) (DE:d.params.defaults=[])
  (call:∀(w:ii) (s₀ aC:ar) (mg mb:br->Option am) (fa:al) (o:i8) (pm cd doc:am) (a:al) (vs:List am) (ns:List Int),
   Ground q loose [] XP w s₀ mg mb aC.heap->YP w aC.heap->
   aC.heap.get? fa=some o->o.data=.func (docDef d.name d.params d.body d.scope pm cd doc)->aC.heap.CodeRec cd d.name->mg d.name=some (.ref fa)->
   aC.heap.get? a=some {cls:=.type "list",data:=.seq vs.toArray}->WP vs ns->ns.length<=n->aC.gens=#[]->
   codeAny (model l.prog w) callerA (.call (.ref fa) ⟨[.ref a],[]⟩) (fun r s'=>r=.ok (.ret (.bool true))/\OldK aC.heap s'.heap/\s'.os=aC.os/\ZZ s'.gens) aC) :
  WalkO q loose XP YP l.row.toRowW d [] (fun f vs=>Z0 f vs) :=by
 intro w s₀ aC mg mb G Y fa o pm cd doc dV kV ho hd eT hD DF hg args vals as Bt Xo Xv Ab Xw;obtain rfl:dV=.none:=Dflts.none hD DE;obtain rfl:kV=.none:=Dflts.noKw hD;obtain⟨a,vs,ns,rfl,rfl,GB,hints,hlen⟩:=DB hn Bt Ab;refine enter_call (Yc (call w s₀ aC mg mb fa o pm cd doc a vs ns G Y ho (fd_plain hd) eT DF GB hints hlen hg) fun r s' hq=>?_)
 obtain⟨rfl,h2,h3,h4⟩:=hq;exact⟨.inl ⟨.bool true,.bool true,[],rfl,fun _=>rfl,.bool true,DC l _,fun _=>⟨Yx.nil,fun _ hm=>(nomatch hm)⟩⟩,h2,h3,h4⟩
end Si
namespace L2
open PySem PySem.Spec PyProof.Rows
theorem uV:∀{vs:List am}{ns:List Int},WP vs ns->Vals (ns.map V.int) vs
 |_,_,.nil=>.nil
 |_,_,.cons n t h=>.cons ⟨t,rfl⟩ (uV h)
def dw (s:r9):OK:=match s with
 | .FunctionDef _ a _ _ _ _ _ _ _ _=>a
 |_=>{posonlyargs:=[],args:=[],vararg:=none,kwonlyargs:=[],kw_defaults:=[],kwarg:=none,defaults:=[]}
def bU (s:r9):List r9:=match s with
 | .FunctionDef _ _ b _ _ _ _ _ _ _=>b
 |_=>[]
def aj (s:r9):ul:=match s with
 | .FunctionDef _ _ _ _ _ _ sc _ _ _=>sc
 |_=>{kind:=.function,names:=[],isGenerator:=false,isCoroutine:=false}
abbrev bw:iC:=fun _ _ _ _ _ _=>False
abbrev E0:XK:=fun _ _ _=>False
theorem bb {X:Cx}:Passes bw X E0:=fun _ _ _ _ _ _ _ h=>h.elim
structure uW (K:bn) (x qual:br) (st:r9) (f:al) (fd:ln):Prop where
 ex:∃(oc:am) (od:Option al) (kV doc pm:am) (an:Option al) (de ct:am) (lD:Array (Option am)),
  fd=AC x qual (dw st) (bU st) (aj st) .none kV doc pm an de ct/\K.lookup f=some ⟨oc,od,.func fd,lD⟩/\Mn K de qual=true
 kp:ES K (.ref f)=true
section
variable {P:en}{w:ii}{K:bn}{mg:br->Option am}{base:hX}
theorem uW.binds {x qual:br}{st:r9}{f:al}{fd:ln}{ps:List br}(F:uW K x qual st f fd)
  (h:∀(kV doc pm:am) (an:Option al) (de ct:am) (us:List am),us.length=ps.length->bindArgs (AC x qual (dw st) (bU st) (aj st) .none kV doc pm an de ct) ⟨us,[]⟩=pure (ps.zip us)):Binds K fd ps [] :=by
 obtain⟨oc,od,kV,doc,pm,an,de,ct,lD,rfl,lk,eT⟩:=F.ex;exact .all (h kV doc pm an de ct)
theorem MV {x qual:br}{st:r9}{f:al}{oc:am}{od an:Option al}{lD:Array (Option am)}{kV doc pm de ct:am}(l:K.lookup f=some ⟨oc,od,.func (AC x qual (dw st) (bU st) (aj st) .none kV doc pm an de ct),lD⟩)
  (c:Mn K de qual=true) (k:ES K (.ref f)=true):uW K x qual st f (AC x qual (dw st) (bU st) (aj st) .none kV doc pm an de ct):=⟨⟨oc,od,kV,doc,pm,an,de,ct,lD,rfl,l,c⟩,k⟩
end
section
variable {X:Cx}
theorem pv (i:Nat) {x:br}{pos:u4}(hN:X.N[i]?=some x :=by rfl) (hv:qd X.env.scope x :=by first|exact li rfl|exact Ix (li rfl)|exact Ix (Ix rfl)) (hd:(x==("__debug__" : br))=false :=by decide)
  (eT:(x==("__classdict__" : br))=false :=by decide):PE X (.Name x pos) (LL i):=wR hN hv hd eT
end
end L2
set_option maxHeartbeats 4000000
namespace L2
open PySem PySem.Spec PyProof.Rows
theorem m8 {env:Lo}:∀(names:List (br×P3)) (acc:List (br×al)),(∀n,(n,qr)∈names->∃c,env.cells.lookup n=some c)->
  (∀n c,acc.lookup n=some c->env.cells.lookup n=some c)->
  ∃cl,(forIn names acc fun x r=>if (x.2==qr)=true then (do let a <- cellOf env x.1;pure (YL ((x.1,a)::r))) else pure (YL r):W1 (List (br×al)))=pure cl /\
   (∀n c,cl.lookup n=some c->env.cells.lookup n=some c)/\(∀n,(n,qr)∈names->∃c,cl.lookup n=some c)/\(∀n c,acc.lookup n=some c->∃c',cl.lookup n=some c')
 | [],acc,_,h2=>⟨acc,rfl,h2,fun n h=>by simp at h,fun n c h=>⟨c,h⟩⟩
 |(n,k)::r,acc,h1,h2=>by
          rw[YM];cases hk:(k==qr) with
          |true=>
           have ek:k=qr :=by simpa using hk
           subst ek;obtain⟨c,hc⟩:=h1 n gc;have e1:cellOf env n=pure c :=by unfold cellOf;rw[hc]
           obtain⟨cl,e,a1,a2,a3⟩:=m8 r ((n,c)::acc) (fun m hm=>h1 m (c8 _ hm)) (fun m c' hm=>by
            rw[CS]at hm;cases hb:m==n with
            |true=>
             rw[hb]at hm;have e2:m=n :=by simpa using hb
             rw[e2,hc];exact hm
            |false=>rw[hb]at hm;exact h2 m c' hm)
           refine⟨cl,?_,a1,fun m hm=>?_,fun m c' hm=>?_⟩
           ·simp only[if_true,e1];exact e
           ·rcases im.mp hm with z|z
            ·cases z;exact a3 n c (by rw[CS];simp)
            ·exact a2 m z
           ·by_cases hb:m=n
            ·subst hb;exact a3 m c (by rw[CS];simp)
            ·exact a3 m c' (by
              rw[CS];have:(m==n)=false :=by simpa using hb
              rw[this];exact hm)
          |false=>
           obtain⟨cl,e,a1,a2,a3⟩:=m8 r acc (fun m hm=>h1 m (c8 _ hm)) h2
           refine⟨cl,?_,a1,fun m hm=>?_,a3⟩
           ·simp only[l8,if_false];exact e
           ·rcases im.mp hm with z|z
            ·cases z;simp at hk
            ·exact a2 m z
theorem fk {scope:ul}{env:Lo}(h:∀n,(n,qr)∈scope.names->∃c,env.cells.lookup n=some c) :
  ∃cl,closureFor scope env=pure cl/\(∀n c,cl.lookup n=some c->env.cells.lookup n=some c)/\(∀n,(n,qr)∈scope.names->∃c,cl.lookup n=some c) :=by
 obtain⟨cl,e,a1,a2,_⟩:=m8 (env:=env) scope.names [] h (fun n c hn=>by simp at hn)
 refine⟨cl,?_,a1,a2⟩;simp only[closureFor];rw[e];rfl
def cxBlock (X:Cx) (N':List br) (env':Lo) (A':l5) (stack':List Lo) (s:ar) (H:Hp) (ex:List al):Cx:=
 {X with N:=N',s₀:=s,H₀:=H,env:=env',A:=A',outer:=X.stack,stack:=stack',ex:=ex,fn:=fun _=>false,pn:=[],xe:=fun _ _=>False}
theorem oo {X:Cx}{pins:List (al×i8)}{σ aO:St}{H H':Hp}{s:ar}{N':List br}{env':Lo}{A':l5}{stack':List Lo}{ex:List al}{h1:hX}{m0:br->Option am}{g':Array US}{tk:Nat}
  (I:Inv X pins σ H s) (pL:env'.scope.kind=.function) (Q0:env'.globals=X.env.globals) (Ub:env'.builtins=X.env.builtins)
  (cS:∀n c,env'.cells.lookup n=some c->X.env.cells.lookup n=some c)
  (qG:∀x,(env'.kindOf x=some .cell\/env'.kindOf x=some .free)->∃c,env'.cells.lookup x=some c)
  (hh:X.calm=true->A'.handled=none) (rO:A'.frames=some stack') (Uc:stack'=X.stack\/(stack'=env'::X.stack/\env'.frame=some env'.locals))
  (hC:s.heap.objs.size<=env'.locals) (hf:∀b∈ex,cK X pins H b) (Bu:∀b∈ex,b<s.heap.objs.size)
  (DG:Un (fg X.stack) ex H H' s.heap h1) (hok:c0 X.prog X.w H' h1) (rP:H' env'.locals=none) (rQ:∀b o,s.heap.get? b=some o->h1.get? b=some o) (ie:h1.Ns env'.locals m0)
  (w6:∀(i:Nat) (x:br) (v:V),N'[i]?=some x->aO[i]?=some (some v)->qd env'.scope x->(env'.kindOf x=some .cell\/env'.kindOf x=some .free)/\qd X.env.scope x/\(X.env.kindOf x=some .cell\/X.env.kindOf x=some .free)/\∃j:Nat,X.N[j]?=some x/\σ[j]?=some (some v))
  (hlen:aO.length=N'.length) (hg:Gn s.gens.size g'):Inv (cxBlock X N' env' A' stack' s H ex) [] aO H' {s with heap:=h1,gens:=g',toks:=tk}:=by
 have DH:∀b∈ex,∀x c,X.env.cells.lookup x=some c->c≠b:=fun b hb=>(hf b hb).2.2.2.2.1
 refine⟨⟨I.ok.mod,pL,Q0.trans I.ok.glob,Ub.trans I.ok.blt,hC,fun x y c a b=>I.ok.inj x y c (cS x c a) (cS y c b),qG,fun _ _ z=>(nomatch z),hh,rO,Uc,fun b hb=>⟨i4 (lc (Bu b hb) hC),fun x c e=>DH b hb x c (cS x c e)⟩,
   I.bs,sw I.ok.bsz I.sz,fun b o e hb=>?_,fun b hb z=>?_,I.stack,I.mJ⟩,rfl,hg,DG,⟨m0,ie,fun i x v e1 e2 e3=>?_⟩,fun x c e=>?_,rP,fun x c e=>?_,fun p hp=>absurd (show p∈([]:List (al×i8)) from hp) (by simp),hok,hlen⟩
 ·rcases (hf b hb).2.2.2.1 with z|z
  ·exact I.ok.noex b o e z
  ·exact absurd (lc (ff e) (sw I.ok.bsz z)) (FS _)
 ·rcases im.mp (I.fT b z) with q|q
  ·exact(hf b hb).2.1 q
  ·exact(hf b hb).2.2.1 q
 ·obtain⟨k1,vx,k2,j,n1,n2⟩:=w6 i x v e1 e2 e3;obtain⟨m,hn,hl⟩:=I.loc;obtain⟨u,r,l⟩:=hl j x v n1 n2 vx;refine⟨u,r,.inr ⟨k1,?_⟩⟩;obtain⟨c',DI⟩:=qG x k1;rcases l with ⟨kl,_⟩|⟨_,c,ec,z⟩
  ·rcases k2 with q|q<;>(rw[kl]at q;cases q)
  ·have:c'=c:=gl ((cS x c' DI).symm.trans ec);subst this;exact⟨c',DI,z.keeps rQ⟩
 ·obtain⟨v,z⟩:=I.cell x c (cS x c e);exact⟨v,z.keeps rQ⟩
 ·obtain⟨v,o,ho,hd⟩:=I.cell x c (cS x c e);exact DG.free c o ho (I.freeC x c (cS x c e)) fun z=>DH c z x c (cS x c e) rfl
theorem lookup_map2 {c:br->P3->P3}:∀{names:List (br×P3)}{x:br},(names.map fun (p:br×P3)=>(p.1,c p.1 p.2)).lookup x=(names.lookup x).map (c x)
 | [],x=>rfl
 |(n,k')::r,x=>by
          have ih:=@lookup_map2 c r x;rw[lw,CS,CS];cases hx:x==n with
          |true=>
           have e:x=n :=by simpa using hx
           subst e;rfl
          |false=>exact ih
theorem dX {scope:ul}{env:Lo}(x:br):(relabel scope env).names.lookup x=(scope.names.lookup x).map fun k=>if (k==.free && env.scope.kind==.function && env.kindOf x==some .cell)=true then .cell else k :=by
 have e:(relabel scope env).names=scope.names.map fun p=>(p.1,(fun n k=>if (k==qr && env.scope.kind==.function && env.kindOf n==some .cell)=true then SO else k) p.1 p.2) :=by
  unfold relabel;dsimp only;congr 1
  funext p
  obtain⟨n,k⟩:=p;dsimp only;split<;>rfl
 rw[e];exact lookup_map2 (c:=fun n k=>if (k==qr && env.scope.kind==.function && env.kindOf n==some .cell)=true then SO else k)
def aD (N:List br) (sc scope:ul) (N':List br) (tn:Nat) (idx:List Nat):Prop:=
 scope.kind=.function/\(∀y∈scope.names,y.2≠.cell/\(y.2=.local->scope.names.lookup y.1=some .local)/\(y.2=.free->sc.names.lookup y.1=some .cell\/sc.names.lookup y.1=some .free)) /\
  N'.length=tn+idx.length/\∀p∈idx.zip (N'.drop tn),N[p.1]?=some p.2/\scope.names.lookup p.2=some .free
instance (N:List br) (sc scope:ul) (N':List br) (tn:Nat) (idx:List Nat):Decidable (aD N sc scope N' tn idx) :=by unfold aD;infer_instance
def bB (tn:Nat) (idx:List Nat) (σ:St):St:=mo tn none++idx.map fun i=>(σ[i]?).join
theorem aD.at {N:List br}{sc scope:ul}{N':List br}{tn:Nat}{idx:List Nat}(B:aD N sc scope N' tn idx) {σ:St}{i:Nat}{x:br}{v:V}(h1:N'[i]?=some x) (h2:(bB tn idx σ)[i]?=some (some v)) :
  scope.names.lookup x=some .free/\∃j:Nat,N[j]?=some x/\σ[j]?=some (some v) :=by
 obtain⟨_,_,b3,b4⟩:=B;unfold bB at h2;by_cases hi:i<tn
 ·rw[AS (by simpa using hi),On,if_pos hi]at h2
  cases h2
 ·rw[Go (by simpa using hi),WJ,bv]at h2
  cases e:idx[i - tn]? with
  |none=>rw[e]at h2;cases h2
  |some k=>
   rw[e]at h2;have h3:(σ[k]?).join=some v:=gl h2;have e2:(N'.drop tn)[i - tn]?=some x :=by
    rw[Zi];have:tn+(i - tn)=i :=by omega
    rw[this];exact h1
   have m:(k,x)∈idx.zip (N'.drop tn) :=by
    refine cr (i:=i - tn) ?_;rw[ss];exact⟨e,e2⟩
   obtain⟨a,b⟩:=b4 _ m;refine⟨b,k,a,?_⟩;cases q:σ[k]? with
   |none=>rw[q]at h3;cases h3
   |some w=>rw[q]at h3;exact congrArg some h3
theorem aD.len {N:List br}{sc scope:ul}{N':List br}{tn:Nat}{idx:List Nat}(B:aD N sc scope N' tn idx) (σ:St):(bB tn idx σ).length=N'.length :=by
 rw[B.2.2.1];unfold bB;simp
section
variable {X:Cx}
def iF (X:Cx) (ifs:List db) (tt:TT):Prop:=
 ∀(pins:List (al×i8)) (s:ar) (σ:St) (H:Hp) (Q:Bool->Hp->Prop),Inv X pins σ H s->tt σ H Q->
  wpAny (model X.prog X.w) X.A (forIn ifs true fun c r=>if r=true then do let ok <- isTrue c X.env (eval c X.env);pure (YL ok) else pure (YL r)) (TP X pins σ Q) X.xe s
def Q3:TT:=fun _ H Q=>Q true H
theorem Ke:iF X [] Q3:=fun _ _ _ H _ I h=>wpAny_tests_nil ⟨H,I,h⟩
theorem Kf {c:db}{tc:TT}(h:PT X c tc):iF X [c] tc:=fun pins s σ H Q I q=>wpAny_tests_one (h pins s σ H Q I q)
abbrev rR (X:Cx) (N':List br) (scope:ul) (cl:List (br×al)) (C:al) (s:ar) (H:Hp) (fp:List al):Cx:=cxBlock X N' (compEnvC scope cl C X.env) X.A X.stack s H fp
abbrev Blk (X:Cx) (N':List br) (scope:ul) (P:Cx->Prop):Prop:=∀(cl:List (br×al)) (C:al) (s:ar) (H:Hp) (fp:List al),P (rR X N' scope cl C s H fp)
end
abbrev TB:=St->Hp->(St->Hp->Prop)->Prop
def PB (X:Cx) (b:W1 Unit) (t:TB):Prop:=∀(pins:List (al×i8)) (s:ar) (σ:St) (H:Hp) (Q:St->Hp->Prop),Inv X pins σ H s->t σ H Q->wpAny (model X.prog X.w) X.A b (fun _ s'=>∃aO H',Inv X pins aO H' s'/\Q aO H') X.xe s
def tLoop (J:It) (g:TG) (tt:TT) (tb:TB) (QE:St->Hp->Prop) (W:Nat->Nat->St->Hp->Prop):Prop:=∀i m τ H,W i m τ H->
 (J.stop i H/\QE τ H)\/(J.go i H/\∀x H',J.yld i H x H'->g x τ H' fun az H2=>tt az H2 fun b H3=>if b=true then tb az H3 fun MX H4=>∃m',m'<m/\W (i+1) m' MX H4 else ∃m',m'<m/\W (i+1) m' az H3)
def turnB (e tg iter:db) (ifs:List db) (d:Nat) (it acc:am) (env:Lo) (body:W1 Unit):W1 Fin:=do
 standAt iter.pos
 match <- pyNext it with
 |none=>pure (.done .next)
 |some v=>
  letOwnedTupleGo tg it v
  assign tg env v
  let mut ok:=true
  for c in ifs do
   if ok then ok <- isTrue c env (eval c env)
  if ok then body
  again (.compLoop e d it acc env)
section
variable {Y:Cx}{e tg iter:db}{ifs:List db}{dp:Nat}{it:al}{acc:am}{body:W1 Unit}{fp:List al}{bY:Nat->hX->Prop}{J:It}{g:TG}{tt:TT}{tb:TB}{QE:St->Hp->Prop}{W:Nat->Nat->St->Hp->Prop}{R:Zh->ar->Prop}{pins:List (al×i8)}{τ:St}{H:Hp}{s:ar}{m0:Nat}
structure w9 (Y:Cx) (e tg iter:db) (ifs:List db) (dp:Nat) (acc:am) (body:W1 Unit):Prop where
 q:∀it,(Code.compLoop e dp it acc Y.env).quiet=true
 den:∀it Q E s,wpAny (model Y.prog Y.w) Y.A ((compTurn e dp it acc Y.env).onRaise (fun x=>do noteFrame x Y.env;theTreesLotGoes x)) Q E s->wpAny (model Y.prog Y.w) (Y.A.under (.compLoop e dp it acc Y.env)) ((model Y.prog Y.w).den (.compLoop e dp it acc Y.env)) Q E s
 turn:∀it,compTurn e dp it acc Y.env=turnB e tg iter ifs dp it acc Y.env body
 denS:∀it Q E s,wpAny (model Y.prog Y.w) Y.A ((compStart e dp it acc Y.env).onRaise (fun x=>do noteFrame x Y.env;standAt theWindowsPlace)) Q E s->wpAny (model Y.prog Y.w) (Y.A.under (.compStart e dp it acc Y.env)) ((model Y.prog Y.w).den (.compStart e dp it acc Y.env)) Q E s
 cl:(clausesOf e)[dp]?=some ⟨tg,iter,ifs,0⟩
theorem oq (hc:Y.calm=true) (xa:∀x s,Y.xe x s->False) (C:w9 Y e tg iter ifs dp acc body) (hg:PG Y tg g) (ht:iF Y ifs tt) (hb:PB Y body tb) (T:Turn Y.prog Y.w Y.K tg J fp it bY) (turn:tLoop J g tt tb QE W)
  (I:Inv Y pins τ H s) (st:bY 0 s.heap) (f:∀b∈fp,cK Y pins H b) (w0:W 0 m0 τ H) (hR:∀aZ H' s',Inv Y pins aZ H' s'->QE aZ H'->R (.ok .next) s') :
  codeAny (model Y.prog Y.w) Y.A (.compLoop e dp (.ref it) acc Y.env) R s :=by
 have stat:∀{H':Hp},(∀b∈fp,H' b=none)->∀b∈fp,cK Y pins H' b:=fun hn b hb=>⟨hn b hb,(f b hb).2⟩
 refine codeAny_loop (C.q _) (fun n s'=>∃i τ H',Inv Y pins τ H' s'/\bY i s'.heap/\(∀b∈fp,H' b=none)/\W i n τ H') (fun n s hI=>?_) m0 ⟨0,τ,H,I,st,fun b hb=>(f b hb).1,w0⟩
 refine C.den _ _ _ _ (wpAny_noted ?_);rw[C.turn];unfold turnB;obtain⟨i,τ,H3,I3,uO,Dj,w3⟩:=hI;rcases turn i n τ H3 w3 with ⟨stop,qn⟩|⟨go,step⟩
 ·refine ag (EQ (ag (l6 (T.done Y rfl rfl rfl hc i pins s τ H3 (fun _ _=>False) I3 (stat Dj) uO stop) (fun r s4 ⟨hr,I4⟩=>?_) fun _ _ z=>z.elim)))
  subst hr;exact bi (hR _ _ _ I4 qn)
 ·refine ag (EQ (ag (l6 (T.item Y rfl rfl rfl hc i pins s τ H3 (fun _ _=>False) I3 (stat Dj) uO go) (fun r s4 ⟨u,hr,h4⟩=>?_) fun _ _ z=>z.elim)))
  subst hr;refine ag (l6 h4 (fun _ s5 ⟨x,H5,I5,r5,y5,oh,Dk⟩=>?_) fun _ _ z=>z.elim)
  have Dl:=I5.pinned (stat Dk) (T.obj _ _ oh);have again:∀{xc:St} {H7:Hp} {s7:ar},Inv Y (pins++mK fp s5.heap) xc H7 s7->(∃m',m'<n/\W (i+1) m' xc H7)->
    ∃m,m<n/\∃i τ H',Inv Y pins τ H' s7/\bY i s7.heap/\(∀b∈fp,H' b=none)/\W i m τ H':=fun {xc H7 s7} I7 n7=>by
   obtain⟨m',hm,w7⟩:=n7;refine⟨m',hm,i+1,xc,H7,I7.gV,T.keep _ _ _ oh fun b hb o e=>(I7.pin (b,o) (l3 _ (l3 _ (gh hb e)))).1,fun b hb=>?_,w7⟩
   obtain⟨o,e,d⟩:=T.obj _ _ oh b hb;exact(I7.pin (b,o) (l3 _ (l3 _ (gh hb e)))).2.1
  refine ag (l6 (hg _ s5 τ H5 x u _ Dl r5 (step x H5 y5)) (fun _ s6 ⟨uX,H6,I6,q6⟩=>?_) fun _ _ z=>(xa _ _ z).elim)
  refine ag (l6 (ht _ s6 uX H6 _ I6 q6) (fun ok s7 ⟨H7,I7,q7⟩=>?_) fun _ _ z=>(xa _ _ z).elim)
  cases ok with
  |false=>exact bi ⟨rfl,again I7 q7⟩
  |true=>
   refine ag (l6 (hb _ s7 uX H7 _ I7 q7) (fun _ s8 ⟨Xx,H8,I8,q8⟩=>?_) fun _ _ z=>(xa _ _ z).elim)
   exact bi ⟨rfl,again I8 q8⟩
theorem m9 (C:w9 Y e tg iter ifs dp acc body) (T:Turn Y.prog Y.w Y.K tg J fp it bY) (st:bY 0 s.heap)
  (h:codeAny (model Y.prog Y.w) Y.A (.compLoop e dp (.ref it) acc Y.env) R s):codeAny (model Y.prog Y.w) Y.A (.compStart e dp (.ref it) acc Y.env) R s :=by
 refine YN (C.denS _ _ _ _ (wpAny_notedAt ?_));unfold compStart;rw[C.cl];show wpAny _ _ (ask>>=_) _ _ s;refine ag (RI (wpAny_ite ?_));split
 ·first
   |exact ag (bi (bi (aaa rfl h)))
   |exact bi (aaa rfl h)
 ·have h2:wpAny (model Y.prog Y.w) Y.A (pyIter (.ref it)) (fun DJ s'=>codeAny (model Y.prog Y.w) Y.A (.compLoop e dp DJ acc Y.env) R s') (notedBy (model Y.prog Y.w) Y.A Y.env fun x s'=>R (.error x) s') s:=T.self _ 0 _ _ _ st h
  first
   |exact ag (LS (ag (EQ (ag (l6 h2 (fun DJ s' h'=>bi (aaa (C.q DJ) h')) fun _ _ x=>x)))))
   |(refine ag (LS ?_);show wpAny _ _ (standAt iter.pos>>=_) _ _ s;exact ag (EQ (ag (l6 h2 (fun DJ s' h'=>bi (aaa (C.q DJ) h')) fun _ _ x=>x))))
end
section
variable {Y:Cx}
def rS (D:al) (te:TE):TB:=fun τ H Q=>te τ H fun y H4=>∃ys,H4 D=some (.lst ys)/\ys.length<sizeLine/\Q τ (upd H4 D (.lst (ys++[y])))
theorem Ac {elt:db}{te:TE}{D:al}(h:PE Y elt te):PB Y (do let _ <- call (.builtin "list.append") [.ref D,<- eval elt Y.env]) (rS D te) :=by
 intro pins s τ H Q I q;refine ag (l6 (h pins s τ H _ I q) (fun yv s8 ⟨y,H8,I8,r8,q8⟩=>?_) fun _ _ z=>z)
 obtain⟨ys,hD,hsz,w8⟩:=q8;refine ag (l6 (uU (X:=Y) _ s8 τ H8 (.ref D) [y] (.ref D) [yv] (fun v H9=>v=.ax/\H9=upd H8 D (.lst (ys++[y]))) I8 rfl (.cons r8 .nil) ⟨_,ys,y,rfl,rfl,hD,hsz,rfl,rfl⟩) (fun rv s9 ⟨v9,H9,I9,_,_,e9⟩=>?_) fun _ _ z=>z)
 subst e9;exact bi ⟨τ,_,I9,w8⟩
end
section
variable {X:Cx}
theorem compG_core {pins:List (al×i8)}{σ:St}{H2:Hp}{s2:ar}{e tg iter:db}{ifs:List db}{scope:ul}{N':List br}{tn:Nat}{idx:List Nat}{g:TG}{tt:TT}{tb:al->TB}{body:am->Lo->W1 Unit}{it:al}{fp:List al}{bY:Nat->hX->Prop}{J:It}
  {cl:List (br×al)} {E:am->ar->Prop} {RR:am->al->Zh->ar->Prop} {Q:VK} {mk:W1 am} {O0:HO} {o0:i8}
  (MY:∀(Q:am->ar->Prop),Q (.ref s2.heap.objs.size) {s2 with heap:=s2.heap.push o0}->wpAny (model X.prog X.w) X.A mk Q E s2) (rO:o0.isFreed=false)
  (MZ:∀(H:Hp) (h1:hX),h1.get? s2.heap.objs.size=some o0->ObjOk X.prog X.w H h1 s2.heap.objs.size O0)
  (hc:X.calm=true) (B:aD X.N X.env.scope scope N' tn idx)
  (hC:∀(D:al),Blk X N' scope fun Y=>w9 Y e tg iter ifs 0 (.ref D) (body (.ref D) Y.env))
  (hg:Blk X N' scope fun Y=>PG Y tg g) (ht:Blk X N' scope fun Y=>iF Y ifs tt) (hb:∀D,Blk X N' scope fun Y=>PB Y (body (.ref D) Y.env) (tb D))
  (I:Inv X pins σ H2 s2) (T:Turn X.prog X.w X.K tg J fp it bY) (st:bY 0 s2.heap) (f2:∀b∈fp,cK X pins H2 b)
  (cA:∀n c,cl.lookup n=some c->X.env.cells.lookup n=some c) (dN:∀n,(n,qr)∈scope.names->∃c,cl.lookup n=some c)
  (hq:∀D,H2 D=none->∃W:Nat->Nat->St->Hp->Prop,(∃m,W 0 m (bB tn idx σ) (upd H2 D O0))/\tLoop J g tt (tb D) (fun _ H'=>Q (.ref D) H') W)
  (rT:∀D C m s' H',Inv X pins σ H' s'->cK X pins H' C->s'.heap.Ns C m->Q (.ref D) H'->RR (.ref D) C (.ok .next) s') :
  wpAny (model X.prog X.w) X.A mk (fun acc jS=>wpAny (model X.prog X.w) X.A (newFunctionEnv scope X.env.globals cl [] X.env.qual none .none (some X.env)) (fun iG ng=>
   codeAny (model X.prog X.w) X.A (.compStart e 0 (.ref it) acc {iG with scope:=relabel scope X.env}) (RR acc iG.locals) ng) E jS) E s2 :=by
 obtain⟨b1,b2,b3,b4⟩:=id B;refine MY _ (YO (fun y hy=>(b2 y hy).1) (by intro y hy;simp at hy) (fun dn iH iI=>?_) b1)
 dsimp only at iH iI ⊢;generalize hG:s2.heap.push o0=G at iH iI ⊢
 have M7:G.objs.size=s2.heap.objs.size+1 :=by rw[<- hG,wE]
 have xf:s2.heap.objs.size≠G.objs.size :=by rw[M7];exact i4 (Da _)
 have jg:s2.heap.objs.size<=G.objs.size :=by rw[M7];exact Co _
 have below:∀b,b<s2.heap.objs.size->b≠G.objs.size:=fun b hb=>by rw[M7];exact i4 (AE hb)
 have old:∀b o,s2.heap.get? b=some o->dn.get? b=some o:=fun b o e=>iI.extBut b o (below b (ff e)) (ba _ (hG▸ba _ e))
 have DK:dn.get? s2.heap.objs.size=some o0:=iI.extBut _ _ xf (ba _ (hG▸ci _ rO));have uY:H2 s2.heap.objs.size=none:=I.hok.fresh (cb _);have rP:upd H2 s2.heap.objs.size O0 G.objs.size=none :=by rw[ah (zn xf)];exact I.hok.fresh jg
 have xg:c0 X.prog X.w (upd H2 s2.heap.objs.size O0) dn:=I.hok.laid old (cb _) (MZ _ _ DK);have jW:∀b∈fp,b<s2.heap.objs.size:=fun b hb=>let ⟨o,e,_⟩:=T.obj _ _ st b hb;ff e
 obtain⟨W,⟨m0,w0⟩,turn⟩:=hq s2.heap.objs.size uY;have I1:Inv (rR X N' scope cl G.objs.size s2 H2 fp) [] (bB tn idx σ) (upd H2 s2.heap.objs.size O0) {s2 with heap:=dn,toks:=s2.toks+([]:List (br×am)).length}:=by
  refine oo (g':=s2.gens) (m0:=fun x=>([]:List (br×am)).reverse.lookup x) I b1 rfl rfl cA (fun x hx=>?_) (fun z=>I.ok.hd z) I.ok.frames (.inl rfl) jg f2 jW (Un.laid old (cb _) uY) xg rP old iH (fun i x v e1 e2 e3=>?_) (B.len σ) I.bare.self
  ·have i7:(relabel scope X.env).names.lookup x=some .cell\/(relabel scope X.env).names.lookup x=some .free:=hx;rw[dX]at i7;cases q:scope.names.lookup x with
   |none=>rw[q]at i7;rcases i7 with z|z<;>cases z
   |some k0=>
    have hm:=sK q;rw[q]at i7;by_cases hk:k0=.free
    ·subst hk;exact dN x hm
    ·have nk:(k0==qr)=false :=by simpa using hk
     have nc:=(b2 _ hm).1;simp only[Fa,nk,WI,l8,if_false]at i7;rcases i7 with z|z
     ·exact absurd (gl z) nc
     ·exact absurd (gl z) hk
  ·obtain⟨fr,j,e4,e5⟩:=B.at e1 e2;have kx:=(b2 _ (sK fr)).2.2 rfl;refine⟨?_,.inr kx,kx,j,e4,e5⟩;show (relabel scope X.env).names.lookup x=some .cell\/(relabel scope X.env).names.lookup x=some .free;rw[dX,fr];simp only[Fa];split
   ·exact .inl rfl
   ·exact .inr rfl
 have stat:∀b∈fp,cK (rR X N' scope cl G.objs.size s2 H2 fp) [] (upd H2 s2.heap.objs.size O0) b:=fun b hb=>by
  refine⟨by rw[ah (i4 (jW b hb))];exact(f2 b hb).1,below b (jW b hb),fun z=>?_,.inl hb,fun x c e=>(f2 b hb).2.2.2.2.1 x c (cA x c e),fun p hp=>absurd (show p∈([]:List (al×i8)) from hp) (by simp)⟩
  rcases im.mp (I.fT b z) with q|q
  ·exact(f2 b hb).2.1 q
  ·exact(f2 b hb).2.2.1 q
 have uZ:bY 0 dn:=T.keep _ _ _ st fun b _ o e=>old b o e
 refine m9 (Y:=rR X N' scope cl G.objs.size s2 H2 fp) (hC _ cl G.objs.size s2 H2 fp) T uZ (oq (Y:=rR X N' scope cl G.objs.size s2 H2 fp) hc (fun _ _ z=>z) (hC _ cl G.objs.size s2 H2 fp) (hg cl G.objs.size s2 H2 fp) (ht cl G.objs.size s2 H2 fp) (hb _ cl G.objs.size s2 H2 fp) T turn I1 uZ stat w0 fun aZ H' s' I4 qn=>?_)
 have J2:Inv X pins σ H' s':=I.rE I4.os I4.base I4.hok I4.bare fun b hb=>⟨(f2 b hb).2.2.2.1,(f2 b hb).2.1,(f2 b hb).2.2.2.2.1,(f2 b hb).2.2.2.2.2⟩
 obtain⟨mm,hm,_⟩:=I4.loc;exact rT _ _ mm s' H' J2 (I.jf jg I4.free) hm qn
def rU (J:It) (g:TG) (tt:TT) (te:TE) (D:al) (Q:VK) (W:Nat->Nat->St->Hp->Prop):Prop:=∀i m τ H,W i m τ H->
 (J.stop i H/\Q (.ref D) H)\/(J.go i H/\∀x H',J.yld i H x H'->g x τ H' fun az H2=>tt az H2 fun b H3=>if b=true then te az H3 fun y H4=>∃ys m',H4 D=some (.lst ys)/\ys.length<sizeLine/\m'<m/\W (i+1) m' az (upd H4 D (.lst (ys++[y]))) else ∃m',m'<m/\W (i+1) m' az H3)
def rV (tn:Nat) (idx:List Nat) (wi:TI) (g:TG) (tt:TT) (te:TE):TE:=fun σ H Q=>wi σ H fun J H1=>∀D,H1 D=none->∃W:Nat->Nat->St->Hp->Prop,(∃m,W 0 m (bB tn idx σ) (upd H1 D (.lst [])))/\rU J g tt te D Q W
theorem rW {J:It}{g:TG}{tt:TT}{te:TE}{D:al}{Q:VK}{W:Nat->Nat->St->Hp->Prop}(h:rU J g tt te D Q W):tLoop J g tt (rS D te) (fun _ H=>Q (.ref D) H) W :=by
 simp only[rU,exists_and_left]at h;exact h
theorem xh (elt tg iter:db) (ifs:List db) (scope:ul) (pos:u4) (it acc:am) (env:Lo) :
  compTurn (.ListComp elt [⟨tg,iter,ifs,0⟩] scope pos) 0 it acc env=turnB (.ListComp elt [⟨tg,iter,ifs,0⟩] scope pos) tg iter ifs 0 it acc env (do let _ <- call (.builtin "list.append") [acc,<- eval elt env]) :=by
 rfl
theorem u0 {pins:List (al×i8)}{σ:St}{H2:Hp}{s2:ar}{tg elt iter:db}{ifs:List db}{scope:ul}{pos:u4}{N':List br}{tn:Nat}{idx:List Nat}{g:TG}{tt:TT}{te:TE}{it:al}{fp:List al}{bY:Nat->hX->Prop}{J:It}
  {cl:List (br×al)} {E:am->ar->Prop} {RR:am->al->Zh->ar->Prop} {Q:VK}
  (hc:X.calm=true) (B:aD X.N X.env.scope scope N' tn idx)
  (hg:Blk X N' scope fun Y=>PG Y tg g) (ht:Blk X N' scope fun Y=>iF Y ifs tt) (he:Blk X N' scope fun Y=>PE Y elt te)
  (I:Inv X pins σ H2 s2) (T:Turn X.prog X.w X.K tg J fp it bY) (st:bY 0 s2.heap) (f2:∀b∈fp,cK X pins H2 b)
  (cA:∀n c,cl.lookup n=some c->X.env.cells.lookup n=some c) (dN:∀n,(n,qr)∈scope.names->∃c,cl.lookup n=some c)
  (hq:∀D,H2 D=none->∃W:Nat->Nat->St->Hp->Prop,(∃m,W 0 m (bB tn idx σ) (upd H2 D (.lst [])))/\rU J g tt te D Q W)
  (rT:∀D C m s' H',Inv X pins σ H' s'->cK X pins H' C->s'.heap.Ns C m->Q (.ref D) H'->RR (.ref D) C (.ok .next) s') :
  wpAny (model X.prog X.w) X.A (newList []) (fun acc jS=>wpAny (model X.prog X.w) X.A (newFunctionEnv scope X.env.globals cl [] X.env.qual none .none (some X.env)) (fun iG ng=>
   codeAny (model X.prog X.w) X.A (.compStart (.ListComp elt [⟨tg,iter,ifs,0⟩] scope pos) 0 (.ref it) acc {iG with scope:=relabel scope X.env}) (RR acc iG.locals) ng) E jS) E s2:=
 compG_core (body:=fun acc env=>do let _ <- call (.builtin "list.append") [acc,<- eval elt env]) (tb:=fun D=>rS D te) (O0:=.lst []) (o0:={cls:=.type "list",dict:=none,data:=.seq ([]:List am).toArray})
  (fun Q q=>tw q) rfl (fun H h1 hd=>⟨wp _,[],0,.nil,hd⟩) hc B (fun D cl C s H fp=>⟨fun _=>rfl,fun _ _ _ _ h=>h,fun _=>xh ..,fun _ _ _ _ h=>h,rfl⟩) hg ht (fun D cl C s H fp=>Ac (he cl C s H fp))
  I T st f2 cA dN (fun D hD=>let ⟨W,w0,t⟩:=hq D hD;⟨W,w0,rW t⟩) rT
variable {tg elt iter:db}{ifs:List db}{scope:ul}{pos:u4}{N':List br}{tn:Nat}{idx:List Nat}{wi:TI}{g:TG}{tt:TT}{te:TE}
theorem cK.turn {pins:List (al×i8)}{σ:St}{H:Hp}{s:ar}{C:al}{h':hX}(f:cK X pins H C) (I:Inv X pins σ H s) (hs:rf C s.heap h'):Inv X pins σ H {s with heap:=h'}:=
 I.turned (t':=s.toks) (fun b o hb e=>(hs.2 b hb).trans e) f.1 f.2.1 f.2.2.2.1 f.2.2.2.2.1 f.2.2.2.2.2
theorem qh (hc:X.calm=true) (B:aD X.N X.env.scope scope N' tn idx) (hi:PI X tg iter wi)
  (hg:Blk X N' scope fun Y=>PG Y tg g) (ht:Blk X N' scope fun Y=>iF Y ifs tt) (he:Blk X N' scope fun Y=>PE Y elt te)
  (hs:∀x,foldedSetIterable iter X.env x=pure x :=by intro _;rfl):PE X (.ListComp elt [⟨tg,iter,ifs,0⟩] scope pos) (rV tn idx wi g tt te) :=by
 refine⟨?_⟩;intro pins s σ H Q I h;obtain⟨cl,fO,cA,dN⟩:=fk (scope:=scope) (env:=X.env) fun n hn=>I.ok.has n ((B.2.1 _ hn).2.2 rfl)
 rw[eval_ListComp];refine No (use:=none) rfl hs fO B.1 (fun y hy=>(B.2.1 y hy).2.1) (l6 (hi pins s σ H _ I h) (fun xv s1 h1=>l6 h1 (fun uN s2 h2=>?_) fun _ _ z=>z) fun _ _ z=>z)
 obtain⟨it,fp,bY,J,H2,e,I2,T,mL,f2,q2⟩:=h2;subst e;refine u0 (RR:=fun acc C=>compPost (model X.prog X.w) X.A X.xe none (EP X pins σ Q) acc C) hc B hg ht he I2 T mL f2 cA dN q2 fun D C m s' H' J2 fC hm q=>?_
 exact⟨m,hm,fun h' nS=>⟨.ref D,H',fC.turn J2 nS,rfl,q⟩⟩
theorem Bv {i:Nat}{y:br}{py ku:u4}(hN:X.N.Nodup) (ee:X.N[i]?=some y) (hy:X.env.scope.names.lookup y=some .local) (hc:X.calm=true) (B:aD X.N X.env.scope scope N' tn idx) (hi:PI X tg iter wi)
  (hg:Blk X N' scope fun Y=>PG Y tg g) (ht:Blk X N' scope fun Y=>iF Y ifs tt) (he:Blk X N' scope fun Y=>PE Y elt te)
  (xi:swapsWith (.ListComp elt [⟨tg,iter,ifs,0⟩] scope pos) (some (.Name y py)) ku.line X.env=pure true :=by rfl)
  (hs:∀x,foldedSetIterable iter X.env x=pure x :=by intro _;rfl):PS X (.Assign [.Name y py] (.ListComp elt [⟨tg,iter,ifs,0⟩] scope pos) ku) (tK (rV tn idx wi g tt te) (rH i)) :=by
 refine⟨?_⟩;intro pins s σ H D I h;obtain⟨cl,fO,cA,dN⟩:=fk (scope:=scope) (env:=X.env) fun n hn=>I.ok.has n ((B.2.1 _ hn).2.2 rfl)
 rw[exec_Assign_Name_used _ _ _ _ xi];refine ag (EQ (ag ?_));show wpAny _ X.A (do let _ <- comprehension (.ListComp elt [⟨tg,iter,ifs,0⟩] scope pos) scope X.env _ (newList []) false (eval iter X.env) (some (assign (.Name y py) X.env))) _ _ s;refine ag (l6 (No (use:=some (assign (.Name y py) X.env)) (Q:=fun _ s'=>SP X pins D .next s') rfl hs fO B.1 (fun y hy=>(B.2.1 y hy).2.1)
  (l6 (hi pins s σ H _ I h) (fun xv s1 h1=>l6 h1 (fun uN s2 h2=>?_) fun _ _ z=>z) fun _ _ z=>z)) (fun _ s' hq=>bi (bi hq)) fun _ _ z=>z)
 obtain⟨it,fp,bY,J,H2,e,I2,T,mL,f2,q2⟩:=h2;subst e;refine u0 (RR:=fun acc C=>compPost (model X.prog X.w) X.A X.xe (some (assign (.Name y py) X.env)) (fun _ s'=>SP X pins D .next s') acc C) hc B hg ht he I2 T mL f2 cA dN q2 fun E C m s' H' J2 fC hm q=>?_
 show wpAny _ X.A (assign (.Name y py) X.env (.ref E)) _ _ s';refine Zs (store_ok2 J2 hN ee (.inl hy) (v:=.ref E) rfl (fun s3 J3 ⟨a,iJ,ha⟩=>?_) (.inr hy))
 have eR:C≠a :=by
  rcases ha with z|z
  ·rw[z];exact fC.2.1
  ·exact fun w=>fC.2.2.2.2.1 _ _ z w.symm
 exact⟨m,hm.sameBut iJ eR,fun h' nS=>⟨_,H',fC.turn J3 nS,q⟩⟩
end
def Tb (P:al) (H:Hp):Prop:=∃ps,H P=some (.di ps)/\ON ps.toList
section
variable {X:Cx}{pins:List (al×i8)}{σ:St}{H:Hp}{s:ar}{P:al}{ps more:Array am}{h':hX}
theorem Inv.grown (I:Inv X pins σ H s) (hP:H P=some (.di ps)) (k:∀b o,b≠P->s.heap.get? b=some o->h'.get? b=some o) (n:h'.get? P=some {cls:=.none,data:=.fields (ps++more)}) (t':Nat) :
  Inv X pins σ (upd H P (.di (ps++more))) {s with heap:=h',toks:=t'}:=by
 have ne:∀b u,H b=some u->u≠.di ps->b≠P:=fun b u e d=>wu e hP d
 have nn:∀b,H b=none->b≠P:=fun b e z=>by rw[z,hP]at e;cases e
 refine I.un ⟨fun b o e q _ _=>k b o (nn b q) e,fun b o e q _ _=>⟨o.slots,k b o (nn b q) e⟩,fun b o e q _=>by rw[ah (nn b q)];exact q,fun b o e _=>?_,fun b xs e=>by rw[ah (ne b _ e (by intro z;cases z))];exact e,
  fun b o u e=>by rw[ah (ne b _ e (by intro z;cases z))];exact e,fun b qs e=>?_⟩ fun b u e=>?_
 ·by_cases hb:b=P
  ·subst hb;exact⟨_,n⟩
  ·exact⟨o,k b o hb e⟩
 ·by_cases hb:b=P
  ·subst hb;rw[hP]at e;cases e;exact⟨more,aB⟩
  ·exact⟨#[],by rw[ah hb,e];simp⟩
 ·by_cases hb:b=P
  ·subst hb;rw[aB]at e;cases e;exact n
  ·rw[ah hb]at e;refine(I.hok b u e).cE (fun c v hc q=>k c v ?_ q) (fun c q=>?_) fun c xs q=>?_
   ·rcases hc with z|z
    ·rw[z];exact hb
    ·exact ne c _ z (by intro w;cases w)
   ·rw[ah (ne c _ q (by intro w;cases w))];exact q
   ·rw[ah (ne c _ q (by intro w;cases w))];exact q
theorem tO {c:al}{pos:u4}{qn:br}{scope:ul}{Q:am->ar->Prop}{A:l5}{E:am->ar->Prop}(I:Inv X pins σ H s) (hc:X.env.code=.ref c) (hd:wb X.base c P) (hP:H P=some (.di ps)) (ht:ON ps.toList)
  (h:∀code iK s',ON iK.toList->Inv X pins σ (upd H P (.di iK)) s'->(∀b o,b≠P->s.heap.get? b=some o->s'.heap.get? b=some o)->s'.gens=s.gens->Q code s'):wpAny (model X.prog X.w) A (genexprCode X.env pos qn scope) Q E s :=by
 have xj:s.heap.get? P=some (PM ps):=I.hok P _ hP;have jB:=hd.keeps I.bk;have ic:=jB.code xj ht;cases q:codeAmong pos ps.toList with
 |some c'=>
  refine wpAny_genexprCode_hit hc ic q (h c' ps s ht ?_ (fun _ _ _ e=>e) rfl)
  have e:upd H P (.di ps)=H :=by
   funext b
   by_cases hb:b=P
   ·subst hb;rw[aB,hP]
   ·rw[ah hb]
  rw[e];exact I
 |none=>
  refine wpAny_genexprCodeX hc ic (jB.tab xj) q fun c' h' tk ex h1 h2 Xy _ ta _=>?_
  obtain⟨_,IC⟩:=ta;have tr:ON (ps++#[rawInt pos.line,rawInt pos.col,l7 c']).toList :=by
   rw[Y2];exact TriplesOk_snoc _ _ _ _ ht
  exact h _ _ _ tr (I.grown hP (fun b o hb e=>ex b o hb e) IC tk) (fun b o hb e=>ex b o hb e) rfl
end
def qH (s cR:ar):Prop:=cR.heap=s.heap/\cR.os=s.os/\Gn s.gens.size cR.gens
theorem Inv.qJ {X:Cx}{pins:List (al×i8)}{σ:St}{H:Hp}{s cR:ar}(I:Inv X pins σ H s) (o:qH s cR):Inv X pins σ H cR :=by
 obtain⟨h,g,d,t,os⟩:=s;obtain⟨h',g',d',t',Iz⟩:=cR;obtain⟨e1,e2,e3⟩:=o;cases e1;cases e2;exact⟨I.ok,I.os,I.bare.trans e3,I.base,I.loc,I.cell,I.free,I.freeC,I.pin,I.hok,I.len⟩
section
variable {Y:Cx}{A2:l5}{tg elt iter:db}{ifs:List db}{scope:ul}{pos:u4}{it:al}{fp:List al}{bY:Nat->hX->Prop}{J:It}{g:TG}{tt:TT}{te:TE}{pp:List (al×i8)}{R:GenEnd}{Yp:Protocol}
def M8 (J:It) (g:TG) (tt:TT) (te:TE) (stopAt:Bool) (Z:Bool->Hp->Prop) (W:Nat->Nat->St->Hp->Prop):Prop:=∀i m τ H,W i m τ H->
 (J.stop i H/\Z (!stopAt) H)\/(J.go i H/\∀x H',J.yld i H x H'->g x τ H' fun az H2=>tt az H2 fun b H3=>if b=true then te az H3 fun y H4=>∃c,y=.bl c/\(if c=stopAt then Z stopAt H4 else ∃m',m'<m/\W (i+1) m' az H4) else ∃m',m'<m/\W (i+1) m' az H3)
theorem GC (hA:Y.A=A2.over (.compLoop (.GeneratorExp elt [⟨tg,iter,ifs,0⟩] scope pos) 0 (.ref it) .none Y.env) []) (xa:Y.xe=fun _ _=>False) (hc:Y.calm=true) (u5:Y.env.scope.isCoroutine=false)
  (T:Turn Y.prog Y.w Y.K tg J fp it bY) (hg:PG Y tg g) (ht:iF Y ifs tt) (he:PE Y elt te) (stat:∀{H':Hp},(∀b∈fp,H' b=none)->∀b∈fp,cK Y pp H' b)
  {W:Nat->Nat->St->Hp->Prop} {Z:Bool->Hp->Prop} {stopAt:Bool} (turn:M8 J g tt te stopAt Z W)
  (hR:∀n s₀ aC τ H,Inv Y pp τ H aC->Z (!stopAt) H->R n s₀ (.ok .next) aC)
  (hY:∀n s₀ s xk c τ H,Inv Y pp τ H s->(c=stopAt->Z stopAt H)->(c≠stopAt->∀cR,qH s cR->xk (.send .none) cR)->Yp n s₀ (.bool c) s xk) :
  ∀(m n i:Nat) (τ:St) (H:Hp) (s s₀:ar),m<n->W i m τ H->Inv Y pp τ H s->bY i s.heap->(∀b∈fp,H b=none)->
   Seg (model Y.prog Y.w) A2 R Yp n s₀ (.compLoop (.GeneratorExp elt [⟨tg,iter,ifs,0⟩] scope pos) 0 (.ref it) .none Y.env)
    ((model Y.prog Y.w).den (.compLoop (.GeneratorExp elt [⟨tg,iter,ifs,0⟩] scope pos) 0 (.ref it) .none Y.env)) [] s :=by
 intro m;induction m using Nat.strongRecOn with
 |ind m ih=>
  intro n i τ H s s₀ Xz w I st fr;show Seg _ A2 _ _ _ s₀ _ ((compTurn (.GeneratorExp elt [⟨tg,iter,ifs,0⟩] scope pos) 0 (.ref it) .none Y.env).onRaise (leaving Y.env)) [] s;rw[compTurn_gen,W1.onRaise_eq_wrap];rcases turn i m τ H w with ⟨stop,qn⟩|⟨go,step⟩
  ·refine B0 (EQ ?_);have d:=T.done Y rfl rfl rfl hc i pp s τ H (fun _ _=>False) I (stat fr) st stop
   rw[hA]at d;refine B0 (l6 d (fun r s1 ⟨hr,I1⟩=>?_) fun _ _ z=>z.elim)
   subst hr;exact seg_end (.ok .next) (hR _ _ _ _ _ I1 qn)
  ·refine B0 (EQ ?_);have d:=T.item Y rfl rfl rfl hc i pp s τ H (fun _ _=>False) I (stat fr) st go
   rw[hA]at d;refine B0 (l6 d (fun r s4 ⟨u,hr,h4⟩=>?_) fun _ _ z=>z.elim)
   subst hr;refine B0 (l6 h4 (fun _ s5 ⟨x,H5,I5,r5,y5,oh,Dk⟩=>?_) fun _ _ z=>z.elim)
   have Dl:=I5.pinned (stat Dk) (T.obj _ _ oh);have back:∀{xc:St} {H7:Hp} {s7:ar},Inv Y (pp++mK fp s5.heap) xc H7 s7->bY (i+1) s7.heap/\∀b∈fp,H7 b=none:=fun {xc H7 s7} I7=>by
    refine⟨T.keep _ _ _ oh fun b hb o e=>(I7.pin (b,o) (l3 _ (l3 _ (gh hb e)))).1,fun b hb=>?_⟩
    obtain⟨o,e,d⟩:=T.obj _ _ oh b hb;exact(I7.pin (b,o) (l3 _ (l3 _ (gh hb e)))).2.1
   have d2:=hg _ s5 τ H5 x u _ Dl r5 (step x H5 y5);rw[hA,xa]at d2;refine B0 (l6 d2 (fun _ s6 ⟨uX,H6,I6,q6⟩=>?_) fun _ _ z=>z.elim)
   have d3:=ht _ s6 uX H6 _ I6 q6;rw[hA,xa]at d3;refine B0 (l6 d3 (fun ok s7 ⟨H7,I7,q7⟩=>?_) fun _ _ z=>z.elim)
   have hy:∀v,yieldOut Y.env v=yieldValue v:=fun v=>by simp only[yieldOut,u5,l8,if_false]
   cases ok with
   |false=>
    simp only[l8,if_false]at q7 ⊢;obtain⟨m',Ad,w7⟩:=q7;exact ZO rfl (ih m' Ad n (i+1) uX H7 s7 s₀ (by omega) w7 I7.gV (back I7).1 (back I7).2)
   |true=>
    simp only[if_true]at q7 ⊢;simp only[hy];rw[W1.bind_eq_wrap',W1.bind_eq_wrap',W1.wrap_wrap,W1.wrap_wrap];have d4:=he _ s7 uX H7 _ I7 q7;rw[hA,xa]at d4;refine seg_wrap (l6 d4 (fun yv s8 ⟨y,H8,I8,r8,q8⟩=>?_) fun _ _ z=>z.elim)
    obtain⟨c,ey,q8⟩:=q8;subst ey;cases (show yv=YI c from r8);obtain⟨n,rfl⟩:∃n',n=n'+1:=⟨n - 1,by omega⟩
    refine seg_at (seg_yield rfl rfl rfl (hY _ _ _ _ c uX H8 I8.gV (fun e=>by rw[if_pos e]at q8;exact q8) fun e cR ok=>?_))
    rw[if_neg e]at q8;obtain⟨m',Ad,w8⟩:=q8;have I9:=I8.qJ ok;exact ZO rfl (ih m' Ad n (i+1) uX H8 cR cR (by omega) w8 I9.gV (back I9).1 (back I9).2)
end
abbrev fm (elt tg iter:db) (ifs:List db) (scope:ul) (pos:u4):db:=.GeneratorExp elt [⟨tg,iter,ifs,0⟩] scope pos
abbrev M9 (X:Cx) (N':List br) (scope:ul) (cl:List (br×al)) (C:al) (code:am) (A':l5) (s:ar) (H:Hp) (fp:List al):Cx:=
 cxBlock X N' (genEnv scope cl C code builtinsNs X.env) A' (genEnv scope cl C code builtinsNs X.env::X.stack) s H fp
abbrev qK (X:Cx) (N':List br) (scope:ul) (k:Nat) (P:Cx->Prop):Prop:=∀(cl:List (br×al)) (C:al) (code:am) (A':l5) (s:ar) (H:Hp) (fp:List al),cj k A'->P (M9 X N' scope cl C code A' s H fp)
structure Ud (X:Cx) (pins:List (al×i8)) (σ:St) (N':List br) (scope:ul) (tn:Nat) (idx:List Nat) (k:Nat) (elt tg iter:db) (ifs:List db) (pos:u4) (J:It) (H3:Hp) (a:al) (s5:ar)
  (Y:Cx) (it:al) (fp:List al) (bY:Nat->hX->Prop) (g:Nat) (pp:List (al×i8)):Prop where
 inv:Inv Y pp (bB tn idx σ) H3 s5
 isg:∀{τ:St} {H':Hp} {s':ar},Inv Y pp τ H' s'->s'.heap.IsGen a g
 st:s5.gens[g]?=some (.fresh (.compStart (fm elt tg iter ifs scope pos) 0 (.ref it) .none Y.env))
 T:Turn Y.prog Y.w Y.K tg J fp it bY
 tn0:bY 0 s5.heap
 fr:∀b∈fp,H3 b=none
 stat:∀{H':Hp},(∀b∈fp,H' b=none)->∀b∈fp,cK Y pp H' b
 out:∀{τ:St} {H':Hp} {s':ar},Inv Y pp τ H' s'->Inv X pins σ H' s'
 A:Y.A=X.A.in4.in1.over (.compLoop (fm elt tg iter ifs scope pos) 0 (.ref it) .none Y.env) []
 xe:Y.xe=fun _ _=>False
 calm:Y.calm=true
 co:Y.env.scope.isCoroutine=false
 gsz:∀{τ:St} {H':Hp} {s':ar},Inv Y pp τ H' s'->g<s'.gens.size
 blk:∀P:Cx->Prop,qK X N' scope k P->P Y
 prog:Y.prog=X.prog
 w:Y.w=X.w
section
variable {X:Cx}{tg elt iter:db}{ifs:List db}{scope:ul}{pos:u4}{N':List br}{tn:Nat}{idx:List Nat}{wi:TI}{g:TG}{tt:TT}{te:TE}{c P:al}{k:Nat}
def Nb (P:al) (wi:TI) (R:It->Hp->Prop):St->Hp->Prop:=fun σ H=>wi σ H fun J H1=>Tb P H1/\∀ps,ON ps.toList->R J (upd H1 P (.di ps))
theorem GD {pins:List (al×i8)}{s:ar}{σ:St}{H:Hp}{QQ:am->ar->Prop}{R:It->Hp->Prop}(hr:cj (k+1) X.A) (hc:X.calm=true) (B:aD X.N X.env.scope scope N' tn idx)
  (h0:scope.names.lookup (".0" : br)=some .local) (u5:scope.isCoroutine=false) (gS:X.env.code=.ref c) (hd:wb X.base c P) (eU:∃bm ob,Y9 X.base mainGlobals X.mg bm ob)
  (hi:PI X tg iter wi) (hs:∀x,genFold iter X.env x=pure x) (I:Inv X pins σ H s) (h:Nb P wi R σ H)
  (q:∀J H3 a s5 Y it fp bY gn pp,Ud X pins σ N' scope tn idx k elt tg iter ifs pos J H3 a s5 Y it fp bY gn pp->R J H3->QQ (.ref a) s5) :
  wpAny (model X.prog X.w) X.A (eval (fm elt tg iter ifs scope pos) X.env) QQ X.xe s :=by
 obtain⟨cl,fO,cA,dN⟩:=fk (scope:=scope) (env:=X.env) fun n hn=>I.ok.has n ((B.2.1 _ hn).2.2 rfl)
 refine wpAny_GeneratorExp_make u5 fO (fun y hy=>(B.2.1 y hy).1) h0 B.1 hr.depth (thn (hi pins s σ H _ I h) fun xv s1 h1=>thn h1 fun uN s2 h2=>?_) hs
 obtain⟨it,fp,bY,J,H2,e,I2,T,mL,f2,⟨ps,hP,ou⟩,q2⟩:=h2;subst e;refine⟨I2.nolimit,tO I2 gS hd hP ou fun code iK s3 Ve I3 kp XA=>?_⟩
 obtain⟨bm,ob,bmod⟩:=eU;have ig:=bmod.keeps I3.bk;refine wpAny_builtinsFor (by rw[I3.ok.glob];exact ig.ns) ig.name ig.ne ig.obj ig.cls ig.dict ig.data ?_
 intro h' C8 nS;have Sj:∀b∈fp,b≠P:=fun b hb z=>by have:=(f2 b hb).1;rw[z,hP]at this;cases this
 have uO:bY 0 s3.heap:=T.keep _ _ _ mL fun b hb o e=>kp b o (Sj b hb) e
 have jW:∀b∈fp,b<s3.heap.objs.size:=fun b hb=>let ⟨o,e,_⟩:=T.obj _ _ uO b hb;ff e
 have f3:∀b∈fp,cK X pins (upd H2 P (.di iK)) b:=fun b hb=>⟨by rw[ah (Sj b hb)];exact(f2 b hb).1,(f2 b hb).2⟩
 have hsz:h'.objs.size=s3.heap.objs.size+1 :=by rw[nS.1,wE]
 have Q4:∀b o,s3.heap.get? b=some o->h'.get? b=some o:=fun b o e=>nS.extBut b o (i4 (ff e)) (ba _ e)
 have Sl:Gn s3.gens.size (s3.gens.push (.fresh (.compStart (fm elt tg iter ifs scope pos) 0 (.ref it) .none (genEnv scope cl s3.heap.objs.size code builtinsNs X.env)))):=⟨ZZ.push I3.bare.1 rfl,by rw[Array.size_push];exact Co _⟩
 have Sn:Inv X pins σ (upd H2 P (.di iK)) {s3 with gens:=s3.gens.push (.fresh (.compStart (fm elt tg iter ifs scope pos) 0 (.ref it) .none (genEnv scope cl s3.heap.objs.size code builtinsNs X.env)))}:=I3.qJ ⟨rfl,rfl,Sl⟩
 have hA:(X.A.in4.in1.over (.compLoop (fm elt tg iter ifs scope pos) 0 (.ref it) .none (genEnv scope cl s3.heap.objs.size code builtinsNs X.env)) []).frames=some (genEnv scope cl s3.heap.objs.size code builtinsNs X.env::X.stack) :=by
  show pushEnvs [_] (pushEnvs [] X.A.frames)=_;rw[I.ok.frames];rfl
 have jx:cj k (X.A.in4.in1.over (.compLoop (fm elt tg iter ifs scope pos) 0 (.ref it) .none (genEnv scope cl s3.heap.objs.size code builtinsNs X.env)) []) :=by
  refine⟨hr.hd,?_,?_⟩
  ·show X.A.depth+0+1+3 * k+5<recursionLimit;have:=hr.dp;omega
  ·show X.A.units+1+1+1+1+1+0+3+16 * k+200<cLine;have:=hr.un;omega
 generalize xl:({cls:=.type "generator",data:=.fields #[.int s3.gens.size 0,.str "<genexpr>" (s3.toks+1),.str (X.env.qual ++ "<genexpr>") (s3.toks+1+1)]}:i8)=qi
 have wy:∀b o,s3.heap.get? b=some o->(h'.push qi).get? b=some o:=fun b o e=>ba _ (Q4 b o e)
 have Ue:qi.isFreed=false :=by rw[<- xl];rfl
 have Vf:(h'.push qi).get? h'.objs.size=some qi:=ci _ Ue;have Vg:h'.objs.size≠s3.heap.objs.size :=by rw[hsz];exact Nat.succ_ne_self _
 have Vh:upd H2 P (.di iK) h'.objs.size=none:=I3.hok.fresh (by rw[hsz];exact Co _)
 have I5:=oo (X:=X) (N':=N') (A':=X.A.in4.in1.over (.compLoop (fm elt tg iter ifs scope pos) 0 (.ref it) .none (genEnv scope cl s3.heap.objs.size code builtinsNs X.env)) []) (env':=genEnv scope cl s3.heap.objs.size code builtinsNs X.env) (stack':=genEnv scope cl s3.heap.objs.size code builtinsNs X.env::X.stack) (ex:=fp) (h1:=h'.push qi) (m0:=fun y=>if y = ".0" then some (.ref it) else none)
  (g':=s3.gens.push (.fresh (.compStart (fm elt tg iter ifs scope pos) 0 (.ref it) .none (genEnv scope cl s3.heap.objs.size code builtinsNs X.env)))) (tk:=s3.toks+1+1+1) (aO:=bB tn idx σ) Sn B.1 rfl I3.ok.blt.symm cA (fun x hx=>by
   have i7:scope.names.lookup x=some .cell\/scope.names.lookup x=some .free:=hx;rcases i7 with z|z
   ·exact absurd rfl ((B.2.1 _ (sK z)).1)
   ·exact dN x (sK z)) (fun z=>I.ok.hd z) hA (.inr ⟨rfl,rfl⟩) (cb _) f3 jW (Un.kept wy) (I3.hok.kept wy) (I3.hok.fresh (cb _)) wy (C8.push _) (fun i x v e1 e2 e3=>by
   obtain⟨fr,j,e4,e5⟩:=B.at e1 e2;have kx:=(B.2.1 _ (sK fr)).2.2 rfl;exact⟨.inr fr,.inr kx,kx,j,e4,e5⟩) (B.len σ) (Gn.self Sl)
 have Vi:h'.objs.size ∉ fg X.stack:=fun z=>by
  rcases im.mp (I3.fT _ z) with q|q
  ·exact Gc (lc I3.lt (by rw[hsz];exact Co _)) q
  ·exact I3.LI (by rw[hsz];exact Co _) q
 have wx:∀v,qi.data≠.cell v :=by rw[<- xl];intro v z;cases z
 have I6:=I5.tJ (pins':=[(h'.objs.size,qi)]) (fun p hp=>by
  rcases jp.mp hp with rfl
  exact⟨Vf,Vh,Vg,Vi,wx⟩)
 refine q J _ _ _ (M9 X N' scope cl s3.heap.objs.size code _ _ _ fp) it fp bY s3.gens.size [(h'.objs.size,qi)] ⟨I6,fun {τ H' s'} J'=>?_,?_,T,T.keep _ _ _ uO fun b _ o e=>wy b o e,fun b hb=>(f3 b hb).1,fun {H'} hn b hb=>?_,fun {τ H' s'} J'=>?_,rfl,rfl,hc,u5,fun {τ H' s'} J'=>?_,fun Pp hb=>hb cl _ code _ _ _ fp jx,rfl,rfl⟩ (q2 iK Ve)
 ·have:=(J'.pin (h'.objs.size,qi) (l3 _ (jp.mpr rfl))).1;exact⟨qi,_,_,this,by rw[<- xl],by rw[<- xl],by rw[<- xl]⟩
 ·exact Array.getElem?_push_size ..
 ·refine⟨hn b hb,i4 (jW b hb),fun z=>?_,.inl hb,fun x c e=>(f2 b hb).2.2.2.2.1 x c (cA x c e),fun p hp z=>?_⟩
  ·rcases im.mp (I2.fT b z) with q|q
   ·exact(f2 b hb).2.1 q
   ·exact(f2 b hb).2.2.1 q
  ·rcases jp.mp hp with rfl
   have z':h'.objs.size=b:=z;have:=jW b hb;rw[<- z',hsz]at this;exact absurd this (Z5.mpr (Co _))
 ·exact Sn.rE J'.os J'.base J'.hok J'.bare fun b hb=>⟨(f3 b hb).2.2.2.1,(f3 b hb).2.1,(f3 b hb).2.2.2.2.1,(f3 b hb).2.2.2.2.2⟩
 ·have:=J'.bare.2;have e:(M9 X N' scope cl s3.heap.objs.size code (X.A.in4.in1.over (.compLoop (fm elt tg iter ifs scope pos) 0 (.ref it) .none (genEnv scope cl s3.heap.objs.size code builtinsNs X.env)) []) {s3 with gens:=s3.gens.push (.fresh (.compStart (fm elt tg iter ifs scope pos) 0 (.ref it) .none (genEnv scope cl s3.heap.objs.size code builtinsNs X.env)))} (upd H2 P (.di iK)) fp).s₀.gens.size=s3.gens.size+1 :=by
   show (s3.gens.push _).size=_;rw[Array.size_push]
  rw[e]at this;omega
theorem GF {prog:en}{w:ii}{A:l5}{a:al}{R':Zh->ar->Prop}(In:Nat->ar->Prop)
  (turn:∀n s,In n s->wpAny (model prog w) A.in1 (pyNext (.ref a)) (fun r s1=>match r with
   |none=>R' (.ok (.ret (.bool true))) s1
   |some v=>∃c,v=.bool c/\if c=true then ∃m,m<n/\In m s1 else R' (.ok (.ret (.bool false))) s1) (fun e s'=>R' (.error e) s') s) :
  ∀(n:Nat) (s:ar),In n s->codeAny (model prog w) A (.builtin "all.loop" ⟨[.ref a],[]⟩) R' s :=by
 intro n;induction n using Nat.strongRecOn with
 |ind n ih=>
  intro s h;refine Cf F.entry_all_loop ?_;rw[ze YC _];show wpAny _ A.in1 (pyNext (.ref a)>>=_) _ _ s;refine ag (l6 (turn n s h) (fun r s1 q=>?_) fun _ _ z=>z)
  cases r with
  |none=>exact ag (LS (bi q))
  |some v=>
   obtain⟨c,e,q⟩:=q;subst e;refine ag (EO (BY ?_));refine ag (Yr ?_);cases c with
   |true=>
    simp only[if_true]at q ⊢;obtain⟨m,hm,hI⟩:=q;exact bi ⟨Mc YC _,ih m hm s1 hI⟩
   |false=>
    simp only[l8,if_false]at q ⊢;exact ag (LS (bi q))
theorem ow {s:ar}{g:Nat}{x:US}{n:Nat}(h:Gn n s.gens) (hx:x.bare=true):Gn s.gens.size (s.setGen g x).gens :=by
 refine⟨fun y hy=>?_,?_⟩
 ·have Vj:y∈s.gens.setIfInBounds g x:=hy;rcases Array.mem_or_eq_of_mem_setIfInBounds Vj with z|z
  ·exact h.1 y z
  ·rw[z];exact hx
 ·show s.gens.size<=(s.gens.setIfInBounds g x).size;rw[Array.size_setIfInBounds];exact cb _
theorem DL {s:ar}{g:Nat}{x:US}(h:g<s.gens.size):(s.setGen g x).gens[g]?=some x :=by
 show (s.gens.setIfInBounds g x)[g]?=_;rw[Array.getElem?_setIfInBounds_self];simp[h]
theorem DM {Y:Cx}{A2:l5}{R:GenEnd}{Yp:Protocol}{n:Nat}{s₀ s:ar}{it:al}{J:It}{fp:List al}{bY:Nat->hX->Prop}(T:Turn Y.prog Y.w Y.K tg J fp it bY) {i:Nat}(st:bY i s.heap)
  (loop:Seg (model Y.prog Y.w) A2 R Yp n s₀ (.compLoop (fm elt tg iter ifs scope pos) 0 (.ref it) .none Y.env) ((model Y.prog Y.w).den (.compLoop (fm elt tg iter ifs scope pos) 0 (.ref it) .none Y.env)) [] s) :
  Seg (model Y.prog Y.w) A2 R Yp n s₀ (.compStart (fm elt tg iter ifs scope pos) 0 (.ref it) .none Y.env) ((model Y.prog Y.w).den (.compStart (fm elt tg iter ifs scope pos) 0 (.ref it) .none Y.env)) [] s :=by
 show Seg _ A2 _ _ _ s₀ _ ((compStart (fm elt tg iter ifs scope pos) 0 (.ref it) .none Y.env).onRaise (leaving Y.env)) [] s;unfold compStart;rw[W1.onRaise_eq_wrap];show Seg _ A2 _ _ _ s₀ _ ((ask>>=_).wrap _ _ _ _) [] s;refine B0 (RI ?_);split
 ·exact ZO rfl loop
 ·first
   |exact B0 (LS (B0 (EQ (B0 (T.self _ i s _ _ st (ZO rfl loop))))))
   |(refine B0 (LS ?_);show Seg _ A2 _ _ _ s₀ _ ((standAt iter.pos>>=_).wrap _ _ _ _) [] s;exact B0 (EQ (B0 (T.self _ i s _ _ st (ZO rfl loop)))))
def Nc (P:al) (tn:Nat) (idx:List Nat) (wi:TI) (g:TG) (tt:TT) (te:TE):TE:=fun σ H Q=>Nb P wi (fun J H1=>∃W:Nat->Nat->St->Hp->Prop,(∃m,W 0 m (bB tn idx σ) H1)/\M8 J g tt te false (fun b H2=>Q (.bl b) H2) W) σ H
theorem Nf {p xm:u4}(hr:cj (k+1) X.A) (hc:X.calm=true) (B:aD X.N X.env.scope scope N' tn idx)
  (h0:scope.names.lookup (".0" : br)=some .local) (u5:scope.isCoroutine=false) (gS:X.env.code=.ref c) (hd:wb X.base c P) (eU:∃bm ob,Y9 X.base mainGlobals X.mg bm ob)
  (Ae:Gl X "all") (hm:X.mg "all" = none) (hi:PI X tg iter wi) (hg:qK X N' scope k fun Y=>PG Y tg g) (ht:qK X N' scope k fun Y=>iF Y ifs tt) (he:qK X N' scope k fun Y=>PE Y elt te)
  (hs:∀x,genFold iter X.env x=pure x :=by intro _;rfl):PE X (.Call (.Name "all" p) [fm elt tg iter ifs scope xm] [] pos) (Nc P tn idx wi g tt te) :=by
 refine⟨?_⟩;intro pins s σ H Q I h;refine Cc (fx I Ae hm PyProof.Rows.boot_all ?_);refine PyProof.Rows.callWith_builtin1 ?_ rfl rfl;show wpAny _ _ (spliced ((false,eval (fm elt tg iter ifs scope xm) X.env)::[])) _ _ s;refine Fk (GD hr hc B h0 u5 gS hd eU hi hs I h ?_);intro J H3 a s5 Y it fp bY gn pp G ⟨W,⟨m0,w0⟩,turn⟩;refine KM ?_;refine call_function_tree F.kind_all F.plain_all F.entry_all (F.args_all1 _) ?_;unfold mf.«all»;refine ag (m:=oneArg "all" _) (bi ?_)
 refine ag (wpAny_pyIter_gen (G.isg G.inv) ?_);refine bi ⟨Mc YC _,?_⟩;have Ng:=GC (A2:=X.A.in4.in1) (pp:=pp) (R:=fun n s₀ r aC=>r=.ok .next/\∃τ H,Inv Y pp τ H aC/\Q (.bl true) H)
  (Yp:=fun n s₀ v s xk=>∃c τ H,v=.bool c/\Inv Y pp τ H s/\(c=false->Q (.bl false) H)/\(c≠false->∀cR,qH s cR->xk (.send .none) cR)) G.A G.xe G.calm G.co G.T (G.blk _ hg) (G.blk _ ht) (G.blk _ he) G.stat turn
  (fun n s₀ aC τ H J z=>⟨rfl,τ,H,J,z⟩) (fun n s₀ s xk c τ H J z1 z2=>⟨c,τ,H,rfl,J,z1,z2⟩)
 have hP:=G.prog;have hW:=G.w;rw[hP,hW]at Ng;refine GF (A:=X.A) (fun n s=>(∃τ H,Inv Y pp τ H s)/\∃gs,s.gens[gn]?=some gs/\∀cR,qH s cR->gs.Goes (model X.prog X.w) X.A.in4.in1 (fun n s₀ r aC=>r=.ok .next/\∃τ H,Inv Y pp τ H aC/\Q (.bl true) H)
  (fun n s₀ v s xk=>∃c τ H,v=.bool c/\Inv Y pp τ H s/\(c=false->Q (.bl false) H)/\(c≠false->∀cR,qH s cR->xk (.send .none) cR)) n (.send .none) cR) ?_ (m0+1) s5 ?_
 ·rintro n s6 ⟨⟨τ,H6,I6⟩,gs,Vk,xl⟩;have Xp:=G.gsz I6;refine wpAny_of_in1 (wpAny_of_in1 (wpAny_of_in1 ?_));show wpAny (model X.prog X.w) X.A.in4 (pyNext (.ref a)) _ _ s6;refine wpAny_pyNext_genexpQ (A:=X.A.in4) (P:=fun n s₀ aC=>∃τ H,Inv Y pp τ H aC/\Q (.bl true) H) hr.hd I6.nolimit hr.depth (G.isg I6) Vk (xl _ ⟨rfl,rfl,ow I6.bare rfl⟩) (fun v s1 Sr hb hv=>?_) (fun s1 hp h' hk=>?_)
  ·obtain⟨c,Ss,H1,e,I1,z1,z2⟩:=hv;subst e;refine⟨c,rfl,?_⟩;have DN:qH s1 (s1.setGen gn Sr):=⟨rfl,rfl,ow I1.bare hb⟩;cases c with
   |false=>
    rw[if_neg ij];exact⟨.bl false,H1,G.out (I1.qJ DN),rfl,z1 rfl⟩
   |true=>
    rw[if_pos rfl];have z3:=z2 (by decide)
    cases n with
    |zero=>exact(z3 s1 ⟨rfl,rfl,I1.bare.self⟩).elim
    |succ m=>
     refine⟨m,Da _,⟨Ss,H1,I1.qJ DN⟩,Sr,DL (G.gsz I1),fun cR o=>z3 cR ⟨o.1,o.2.1,?_⟩⟩
     exact DN.2.2.trans o.2.2
  ·obtain⟨Ss,H1,I1,z1⟩:=hp;have I2:=I1.kept (t':=s1.toks) hk;have Vl:qH {s1 with heap:=h'} {s1.setGen gn .finished with heap:=h'}:=⟨rfl,rfl,ow (s:=s1) I1.bare rfl⟩
   exact⟨.bl true,H1,G.out (I2.qJ Vl),rfl,z1⟩
 ·refine⟨⟨_,_,G.inv⟩,_,G.st,fun cR o=>⟨rfl,?_⟩⟩
  have I7:=G.inv.qJ o;have Su:bY 0 cR.heap :=by rw[o.1];exact G.tn0
  have q:=DM (iter:=iter) (ifs:=ifs) (scope:=scope) (pos:=xm) (elt:=elt) G.T Su (by rw[hP,hW];exact Ng m0 (m0+1) 0 _ _ cR cR (Da _) w0 I7 Su G.fr)
  rw[hP,hW]at q;exact q
end
def DP (x:br):It:=⟨fun i _=>i<x.length,fun i H v H'=>H'=H/\∃c,x.cps[i]?=some c/\v=.str ⟨#[c]⟩,fun i _=>x.length<=i⟩
theorem xn {P:en}{w:ii}{K:bn}{tg:db}(it:al) (x:br) (t:Y1) (ty:String) (om:["enumerate","zip","dict_itemiterator","dict_reverseitemiterator","odict_iterator","itertools.zip_longest","itertools.pairwise"].contains ty=false)
  (W:∀A:l5,A.handled=none->ZN P w A it [it] [it] x.cps.size (SignAt x) (fun i h=>h.IsStrIter it ty x t i))
  (self:∀(A:l5) (i:Nat) (s:ar) (Q:am->ar->Prop) (E:am->ar->Prop),s.heap.IsStrIter it ty x t i->Q (.ref it) s->wpAny (model P w) A (pyIter (.ref it)) Q E s) :
  Turn P w K tg (DP x) [it] it (fun i h=>h.IsStrIter it ty x t i/\i<=x.length) where
 mem :=by simp
 obj:=fun i h st b hb=>by
  have e:b=it :=by simpa using hb
  subst e;obtain⟨⟨o,ho,_,hd⟩,_⟩:=st;exact⟨o,ho,fun v z=>by rw[hd]at z;cases z⟩
 keep:=fun i h h' st k=>⟨let ⟨o,ho,r⟩:=st.1;⟨o,k it (by simp) o ho,r⟩,st.2⟩
 item :=by
  intro X hP hw hK hc i pins s σ H E I hf st hg;subst hP hw hK;obtain⟨f0,f1,f2,f3,f4,f5⟩:=hf it (by simp)
  have Sv:i<x.cps.size:=hg;refine(W X.A (I.ok.hd hc)).item i s _ _ Sv st.1 fun v h' tk hv lC kk=>?_
  obtain⟨c,u,Vm,rfl⟩:=hv;have I1:Inv X pins σ H {s with heap:=h',toks:=tk}:=I.turned (fun b o hb e=>kk b o (by simpa using hb) e) f0 f1 f3 f4 f5
  obtain⟨o,ho,cS,hd⟩:=id lC;exact⟨_,rfl,rK (s:={s with heap:=h',toks:=tk}) (n:=ty) ho cS hd om ⟨.str ⟨#[c]⟩,H,I1,⟨u,rfl⟩,⟨rfl,c,Vm,rfl⟩,⟨lC,Sv⟩,fun b hb=>(hf b hb).1⟩⟩
 done :=by
  intro X hP hw hK hc i pins s σ H E I hf st hg;subst hP hw hK;obtain⟨f0,f1,f2,f3,f4,f5⟩:=hf it (by simp)
  have e:i=x.cps.size:=Nat.le_antisymm st.2 hg;subst e;exact(W X.A (I.ok.hd hc)).done s _ _ st.1 fun h' tk kk=>⟨rfl,I.turned (fun b o hb e=>kk b o (by simpa using hb) e) f0 f1 f3 f4 f5⟩
 self:=fun A i s Q E st h=>self A i s Q E st.1 h
section
variable {X:Cx}{tg l:db}{tl:TE}
def Ug (tl:TE):TI:=fun σ H R=>tl σ H fun x H1=>∃z,x=.str z/\R (DP z) H1
theorem Nh (hl:PE X l tl):PI X tg l (Ug tl) :=by
 intro pins s σ H R I h;refine thn (hl pins s σ H _ I h) fun v s1 ⟨y,H1,I1,r1,q1⟩=>?_
 obtain⟨z,rfl,q⟩:=q1;obtain⟨t,rfl⟩:=r1;have fin:∀(o:i8) (ty:String),(∀v,o.data≠.cell v)->(s1.heap.push o).IsStrIter s1.heap.objs.size ty z t 0->Turn X.prog X.w X.K tg (DP z) [s1.heap.objs.size] s1.heap.objs.size (fun i h=>h.IsStrIter s1.heap.objs.size ty z t i/\i<=z.length)->Ma X pins σ tg R (.ref s1.heap.objs.size) {s1 with heap:=s1.heap.push o}:=fun o ty hd hit T=>
  ⟨_,[s1.heap.objs.size],_,DP z,H1,rfl,I1.kept (t':=s1.toks) (fun b u e=>ba _ e),T,⟨hit,wp _⟩,fun b hb=>by
   have e:b=s1.heap.objs.size :=by simpa using hb
   subst e;exact I1.jf (cb _) (I1.hok.fresh (cb _)),q⟩
 cases ha:z.cps.all (· < 128)
 ·exact wpAny_pyIter_wide ha (fin _ "str_iterator" (fun v e=>by cases e) ⟨_,ci _ rfl,rfl,rfl⟩ (xn _ z t _ (by decide) (fun A' hA=>ZN.strWide hA _ z t) fun A i s Q E st h=>wpAny_pyIter_striter_wide st h))
 ·exact wpAny_pyIter_ascii ha (fin _ "str_ascii_iterator" (fun v e=>by cases e) ⟨_,ci _ rfl,rfl,rfl⟩ (xn _ z t _ (by decide) (fun A' hA=>ZN.strAscii hA _ z t) fun A i s Q E st h=>wpAny_pyIter_striter_ascii st h))
def Uh:V->Option Int->Option Int->Hp->VK->Prop:=fun x lo hi H Q=>∃z,x=.str z/\z.length<=sizeLine/\Q (.str (ZP z lo hi)) H
theorem Ni:IB X Uh :=by
 intro pins s σ H x v vl vu lo hi sl Q I rx hs pl pu h;obtain⟨z,rfl,hz,q⟩:=h;obtain⟨t,rfl⟩:=rx;refine⟨"str",_,F.slot_str_getitem.lookup,typeIs_str _ _ _,?_⟩
 have fin:∀(l u:Option (Int×Y1)),s.heap.IsSlice sl l u none->l.map (·.1)=lo->u.map (·.1)=hi->wpAny (model X.prog X.w) X.A (getItem (.str z t) (.ref sl)) (EP X pins σ Q) X.xe s:=fun l u e e1 e2=>by
  refine wpAny_getItem_str_slice (l:=l) (u:=u) (st:=none) e rfl ?_;refine post_val_or_str ⟨?_,fun t' k=>?_⟩
  ·exact(show (ZP z (l.map (·.1)) (u.map (·.1))).length<=sizeLine from sw (Txt.slice_le z _ _) hz)
  ·refine⟨.str (ZP z lo hi),H,I.tok k,⟨t',?_⟩,q⟩;rw[<- e1,<- e2];rfl
 obtain⟨o,ho,hc,hd⟩:=hs;cases pl with
 |none=>
  cases pu with
  |none=>exact fin none none ⟨o,ho,hc,hd⟩ rfl rfl
  |int j uj=>exact fin none (some (j,uj)) ⟨o,ho,hc,hd⟩ rfl rfl
 |int i ui=>
  cases pu with
  |none=>exact fin (some (i,ui)) none ⟨o,ho,hc,hd⟩ rfl rfl
  |int j uj=>exact fin (some (i,ui)) (some (j,uj)) ⟨o,ho,hc,hd⟩ rfl rfl
theorem cT {xs:List V}{us:List am}(r:Vals xs us) {j:Nat}(h:j<us.toArray.size):RelV (xs.getD j .ax) us.toArray[j] :=by
 have hl:=r.length;have hj:j<xs.length :=by simpa[hl] using h
 obtain⟨u,e,q⟩:=r.get (i:=j) (x:=xs[j]) (ap hj);have e2:us.toArray[j]=u :=by
  rw[ce]at e;obtain⟨h',e⟩:=e;simpa using e
 rw[e2,dL,ap hj];exact q
theorem zy:dM X (.builtin "isinstance") (fun xs H Q=>∃x T t b,xs=[x,.ty T]/\gW X.K H x t/\Y7 X.K t (.type T)=some b/\Q (.bl b) H) :=by
 intro pins s σ H xs us Q I r h;obtain⟨x,T,t,b,rfl,ty,e,q⟩:=h;obtain⟨u,w',rfl,r1,r2⟩:=vals2 r;cases (show w'=LP T from r2);exact Ds I r1 ty e fun tk=>⟨.bl b,H,I.tok tk,rfl,q⟩
theorem jy:∀{xs:List V}{us:List am},xs.length=us.length->(∀(i:Nat) (v:V),xs[i]?=some v->∃u,us[i]?=some u/\RelV v u)->Vals xs us
 | [],[],_,_=>.nil
 | [],_::_,h,_=>by simp at h
 |_::_,[],h,_=>by simp at h
 |x::xs,u::us,h,g=>by
          obtain⟨u',e,r⟩:=g 0 x rfl;have e':u=u':=by simpa using e
          subst e';exact .cons r (jy (by simpa using h) fun i v hv=>by
           obtain⟨w,e2,r2⟩:=g (i+1) v (by simpa using hv)
           exact⟨w,by simpa using e2,r2⟩)
theorem xo {e:db}{te:TE}{p p1 p2 pos:u4}(hc:X.calm=true) (hg:Gl X "list") (hm:X.mg "list" = none) (xq:Gl X "range") (xr:X.mg "range" = none) (he:PE X e te) (hs:starEach [e] X.env=[(false,eval e X.env)] :=by rfl) :
  PE X (.Call (.Name "list" p) [.Call (.Name "range" p1) [e] [] p2] [] pos) (fun σ H Q=>te σ H fun x H1=>∃j:Int,x=.int j /\ -(2 ^ 24)<=j/\j<=2 ^ 24/\∀l,H1 l=none->Q (.ref l) (upd H1 l (.lst ((io j.toNat).map fun i=>V.int (i:Nat))))) :=by
 refine⟨?_⟩;intro pins s σ H Q I h;refine Cc (fx I hg hm (by decide +kernel:bootBuiltins "list" = some (.type "list")) ?_)
 refine xb ?_ rfl rfl;show wpAny _ _ (spliced ((false,eval (.Call (.Name "range" p1) [e] [] p2) X.env)::[])) _ _ s
 refine Fk ?_;refine Call_ (fx I xq xr Z3 (xb ?_ hs rfl));rw[hs];refine Fk (thn (he pins s σ H _ I h) fun v s1 ⟨x,H1,I1,r1,q1⟩=>KM ?_)
 obtain⟨j,rfl,b1,b2,q⟩:=q1;obtain⟨t,rfl⟩:=r1;refine call_range_1 ?_;refine KM ?_;refine call_list_range (n:=j.toNat) (I1.ok.hd hc) (aac.new ..) (small_one (by omega) (by omega) (by omega) (by omega)) (by rw[PyProof.Rows.rangeSize_nat];simp) (by omega) fun h' tk fK c' hk hS hit=>?_
 have I2:Inv X pins σ H1 {s1 with heap:=s1.heap.push {cls:=.type "range",data:=.fields #[.int 0 s1.toks,.int j t,.int 1 (s1.toks+1)]},toks:=s1.toks+1+1}:=I1.kept fun b o e=>ba _ e
 obtain⟨hsz,iL⟩:=hit;have rv:Vals ((io j.toNat).map fun i=>V.int (i:Nat)) fK.toList :=by
  refine jy (by simpa using hsz.symm) fun i v e=>?_
  rw[bv]at e;cases q2:(io j.toNat)[i]? with
  |none=>rw[q2]at e;cases e
  |some k=>
   rw[q2]at e;have ek:k=i :=by
    obtain⟨_,e3⟩:=ce.mp q2;simpa using e3.symm
   have hi:i<fK.size :=by
    have:=(ce.mp q2).1;rw[EM]at this;omega
   obtain⟨t2,e4⟩:=iL i fK[i] (by simp[hi])
   refine⟨fK[i],by simp[hi],?_⟩
   rw[e4];have e5:v=V.int (k:Nat):=(gl e).symm;rw[e5,ek];exact⟨t2,by simp⟩
 have ob:ObjOk X.prog X.w (upd H1 (s1.heap.push {cls:=.type "range",data:=.fields #[.int 0 s1.toks,.int j t,.int 1 (s1.toks+1)]}).objs.size (.lst ((io j.toNat).map fun i=>V.int (i:Nat)))) h' (s1.heap.push {cls:=.type "range",data:=.fields #[.int 0 s1.toks,.int j t,.int 1 (s1.toks+1)]}).objs.size (.lst ((io j.toNat).map fun i=>V.int (i:Nat))) :=by
  refine⟨?_,fK.toList,c',rv,by simpa using hS⟩
  rw[ca,EM];exact sw (show j.toNat<=2 ^ 24 by omega) (by decide)
 exact⟨.ref _,_,I2.laid (t':=tk) hk (cb _) ob,rfl,q _ (I2.hok.fresh (cb _))⟩
end
theorem xt:bootBuiltins "int" = some (.type "int") :=by decide +kernel
theorem rX:bootBuiltins "str" = some (.type "str") :=by decide +kernel
theorem tP:bootBuiltins "bool" = some (.type "bool") :=by decide +kernel
theorem ck:bootBuiltins "tuple" = some (.type "tuple") :=by decide +kernel
theorem ik:bootBuiltins "list" = some (.type "list") :=by decide +kernel
theorem DQ:bootBuiltins "min" = some (.builtin "min") :=by decide +kernel
theorem Nj:bootBuiltins "max" = some (.builtin "max") :=by decide +kernel
theorem Nk:bootBuiltins "abs" = some (.builtin "abs") :=by decide +kernel
theorem aF:bootBuiltins "isinstance" = some (.builtin "isinstance") :=by decide +kernel
structure Bl (mg:br->Option am):Prop where
 len_:mg "len" = none
 range_:mg "range" = none
 min_:mg "min" = none
 max_:mg "max" = none
 abs_:mg "abs" = none
 list_:mg "list" = none
 tuple_:mg "tuple" = none
 int_:mg "int" = none
 str_:mg "str" = none
 bool_:mg "bool" = none
 isinstance_:mg "isinstance" = none
 all_:mg "all" = none
 set_:mg "set" = none
 sorted_:mg "sorted" = none
 zip_:mg "zip" = none
 enumerate_:mg "enumerate" = none
 sum_:mg "sum" = none
 reversed_:mg "reversed" = none
 divmod_:mg "divmod" = none
 any_:mg "any" = none
 ValueError_:mg "ValueError" = none
structure Df (K:bn) (mg:br->Option am) (x:br) (st:r9) (ps:List br) (f:al) (fd:ln):Prop where
 fn:uW K x x st f fd
 bd:Binds K fd ps []
 mg:mg x=some (.ref f)
structure DR (base:hX) (fd:ln) (c P:al):Prop where
 code:fd.code=.ref c
 hd:wb base c P
section
variable {P:en}{w:ii}{K:bn}{mg:br->Option am}{base:hX}
theorem uW.Vn {x qual:br}{st:r9}{f:al}{fd:ln}{N ps:List br}{k:Nat}{sp:Sp}(F:uW K x qual st f fd) (S:aW N ps (aj st)) (len:∀vs H Q E,sp vs H Q E->vs.length=ps.length)
  (m6:∀(A:l5) (outer:List Lo) (s:ar) (H:Hp) (vs:List V) (Q:VK) (E:XK),cj k (A.deeper (envOfC qual (aj st) s.heap.objs.size f fd.code))->sp vs H Q E->
   ∃t,ib (gF bw P w K mg base N qual (aj st) f fd.code A outer s H E).km (bU st) t/\t {nx:=fun _ H'=>Q .ax H',rt:=Q} (start N vs) H):FnOk P w K mg base bw (k+1) f fd ps sp :=by
 obtain⟨oc,od,kV,doc,pm,an,de,ct,lD,rfl,lk,eT⟩:=F.ex;refine Bp lk eT S len fun A outer s H vs Q E hr lF=>?_
 obtain⟨t,h,q⟩:=m6 A outer s H vs Q E hr lF;exact⟨t,h.km,q⟩
end
def XB:V->Bool | .int _=>true|_=>false
def below (m:Int):V->Bool | .int i=>decide (0<=i) && decide (i<m)|_=>false
structure bJ (ae:List (List Int)) (w:Nat):Prop where
 one:1<=ae.length
 nine:ae.length<=9
 wid:w=2\/w=3
 row:∀r∈ae,r.length=w/\∀g∈r,0<=g/\g<(ae.length:Int)
def IE (tb:List al) (H:Hp):Prop:=∀p∈tb,Tb p H
def Q5 (H:Hp) (b:al):Prop:=∃c m:Int,H b=some (.lst [.int c,.int m])/\0<=c/\0<=m
def Runs (J:It) (ys:List V) (H:Hp):Prop:=∀i,(i<ys.length->J.go i H/\∀x H',J.yld i H x H'->H'=H/\ys[i]?=some x)/\(ys.length<=i->J.stop i H)
def ky (z:br):List V:=z.cps.toList.map fun c=>.str ⟨#[c]⟩
theorem GH {K:bn}{a:al}{ys:List V}{H:Hp}(h:dG K H a ys):Runs (Md K a) ys H:=fun i=>
 ⟨fun hi=>⟨⟨ys,ys[i],h,ap hi⟩,fun x H' y=>⟨y.1,y.2 ys h⟩⟩,fun hi=>⟨ys,h,hi⟩⟩
theorem DS {K:bn}{a:al}{ys:List V}{H:Hp}(h:b9 K H a ys):Runs (Mb K a) ys H:=fun i=>
 ⟨fun hi=>⟨⟨ys,ys[i],h,ap hi⟩,fun x H' y=>⟨y.1,y.2 ys h⟩⟩,fun hi=>⟨ys,h,hi⟩⟩
theorem rY {lo:Int}{n:Nat}{H:Hp}:Runs (Dd lo n) ((io n).map fun i=>V.int (lo+(i:Nat))) H:=fun i=>by
 have el:((io n).map fun i=>V.int (lo+(i:Nat))).length=n :=by simp
 rw[el];refine⟨fun hi=>⟨hi,fun x H' y=>?_⟩,fun hi=>hi⟩
 obtain⟨e1,e2⟩:=y;refine⟨e1,?_⟩;rw[e2,bv,LG hi];rfl
theorem rZ (z:br):(ky z).length=z.length :=by
 unfold ky;rw[ca];rfl
theorem GI {z:br}{H:Hp}:Runs (DP z) (ky z) H:=fun i=>
 ⟨fun hi=>⟨by rw[rZ]at hi;exact hi,fun x H' y=>by
  obtain⟨e,c,hc,rfl⟩:=y;refine⟨e,?_⟩;unfold ky;rw[bv,MW,hc];rfl⟩,fun hi=>by rw[rZ]at hi;exact hi⟩
section
variable {X:Cx}{K:bn}
theorem Af (h:X.K=K):oj X (Sg K):=h▸MK
theorem DT (h:X.K=K):dM X (.builtin "len") (fun xs H Q=>∃x n,xs=[x]/\Mx K x H n/\Q (.int n) H):=h▸Gr
theorem tQ (h:X.K=K):dM X (.type "tuple") (fun xs H Q=>∃p ys,xs=[.ref p]/\((b9 K H p ys/\∀l,H l=none->Q (.ref l) (upd H l (.tup ys)))\/(dG K H p ys/\Q (.ref p) H))):=h▸vX
theorem xu (h:X.K=K):dM X (.builtin "isinstance") (fun xs H Q=>∃x T t b,xs=[x,.ty T]/\gW K H x t/\Y7 K t (.type T)=some b/\Q (.bl b) H):=h▸zy
theorem GJ {tg l:db}{tl:TE}(h:X.K=K) (hl:PE X l tl):PI X tg l (Iv K tl):=h▸J0 hl
theorem Kg {tg l:db}{tl:TE}(h:X.K=K) (hl:PE X l tl):PI X tg l (Mf K tl):=h▸Mg hl
variable {o e:db}{es:List db}{to:TE}{t:TA}{name:br}{apos aV:u4}{T id:String}{r:V->List V->Hp->VK->Prop}
theorem Nm (h:X.K=K) (pa:Zy T) (slot:Slot T name id) (om:typeOf (.builtin id)=pure (.type "method_descriptor")) (hm:Dz X id r) (ho:PE X o to) (ha:PA X (e::es) t) (jZ:attributeBase o name X.env (eval o X.env)=eval o X.env :=by rfl)
  (m7:((backTo aV (starEach (e::es) X.env)).all (fun x => !x.1) && (backToKw aV (keywordEach [] X.env)).all (fun x=>x.1.isSome)
   && decide ((e::es).length+([]:List Ps).length+(if ([]:List Ps).isEmpty then 0 else 1)<30))=true :=by rfl)
  (hline:(apos.endLine==aV.line)=true :=by rfl) (hs:starEach (e::es) X.env=(false,eval e X.env)::starEach es X.env :=by rfl) (iD:(backTo aV (starEach es X.env)).any (·.1)=false :=by rfl) :
  PE X (.Call (.Attribute o name apos) (e::es) [] aV) (Sh K T r to t):=h▸QZ pa slot om hm ho ha jZ m7 hline hs iD
end
abbrev cn (K:bn) (x:br) (st:r9):Prop:=
 ∃(f:al) (oc:am) (od:Option al) (sl:Array (Option am)) (kV dc pm:am) (an:Option al) (cd ct:am),
  mT K mainGlobals x=some (some (.ref f))/\K.lookup f=some ⟨oc,od,.func (AC x x (dw st) (bU st) (aj st) .none kV dc pm an cd ct),sl⟩/\Mn K cd x=true/\ES K (.ref f)=true
theorem bu {K:bn}{x:br}{st:r9}{f:al}{oc:am}{od:Option al}{sl:Array (Option am)}{kV dc pm:am}{an:Option al}{cd ct:am}(a:mT K mainGlobals x=some (some (.ref f)))
  (l:K.lookup f=some ⟨oc,od,.func (AC x x (dw st) (bU st) (aj st) .none kV dc pm an cd ct),sl⟩) (c:Mn K cd x=true) (k:ES K (.ref f)=true):cn K x st:=⟨f,oc,od,sl,kV,dc,pm,an,cd,ct,a,l,c,k⟩
section
variable {K:bn}{mg:br->Option am}{h base:hX}
theorem cn.df {x:br}{st:r9}(d:cn K x st) (X:K.In h) (G:h.Ns mainGlobals mg) (ps:List br)
  (hb:∀(kV doc pm:am) (an:Option al) (de ct:am) (us:List am),us.length=ps.length->bindArgs (AC x x (dw st) (bU st) (aj st) .none kV doc pm an de ct) ⟨us,[]⟩=pure (ps.zip us)) :
  ∃f fd,Df K mg x st ps f fd :=by
 obtain⟨f,oc,od,sl,kV,dc,pm,an,cd,ct,a,l,c,k⟩:=d;have F:=MV (st:=st) l c k;exact⟨f,_,F,F.binds hb,SS X G a⟩
theorem xx {x:br}{st:r9}{ps:List br}{f p:al}{fd:ln}(D:Df K mg x st ps f fd) (X:K.In h)
  (t:∃f o fd c,mg x=some (.ref f)/\h.get? f=some o/\o.data=.func fd/\fd.code=.ref c/\wb h c p) (tr:∀c p,wb h c p->wb base c p):∃c,DR base fd c p :=by
 obtain⟨f',o,IG,c,e1,e2,e3,e4,e5⟩:=t;obtain⟨oc,od,kV,doc,pm,an,de,ct,lD,rfl,lk,eT⟩:=D.fn.ex;have e:=D.mg.symm.trans e1;cases e;have q:=(X _ _ lk).symm.trans e2;cases q;cases e3;exact⟨c,e4,tr _ _ e5⟩
theorem Df.bind1 {x y:br}{st:r9}{f:al}{fd:ln}(D:Df K mg x st [y] f fd) (s:ar) (v:am)
  (hb:∀(kV doc pm:am) (an:Option al) (de ct:am) (u:am),bindArgs (AC x x (dw st) (bU st) (aj st) .none kV doc pm an de ct) ⟨[u],[]⟩=pure [(y,u)]):ZB s fd ⟨[v],[]⟩ [(y,v)] :=by
 obtain⟨oc,od,kV,doc,pm,an,de,ct,lD,rfl,lk,eT⟩:=D.fn.ex;exact .of_eq (hb kV doc pm an de ct v)
theorem mB {α β:Type}{F:α->β->Prop}{a:α}{r:List α}{t:List β}(h:FM F (a::r) t):∃b t',t=b::t'/\F a b/\FM F r t':=by
 cases h with
 |cons x y=>exact⟨_,_,rfl,x,y⟩
theorem recs_of {q:en}{nU:List br}(h:(nU.all fun y=>(recsOf q).any fun r=>decide (r.name=y))=true):∀y∈nU,∃r∈recsOf q,r.name=y:=fun y hy=>by
 have:=xw.mp h y hy;obtain⟨r,hr,e⟩:=List.any_eq_true.mp this;exact⟨r,hr,of_decide_eq_true e⟩
end
def mM (xs:Array Nat):Prop:=xs.toList.Pairwise (· < ·)
theorem sd {xs:Array Nat}(h:mM xs) {i j:Nat}(Sw:i<j) (hj:j<xs.size):xs[i]<xs[j] :=by
 have:=List.pairwise_iff_getElem.mp h i j (by simpa using Yd Sw hj) (by simpa using hj) Sw
 simpa using this
theorem below_go {xs:Array Nat}{v:Nat}(h:mM xs):∀(fuel lo hi:Nat),hi - lo<=fuel->lo<=hi->hi<=xs.size->(∀i (ee:i<xs.size),i<lo->xs[i]<v)->(∀i (ee:i<xs.size),hi<=i->v<=xs[i])->
  Ym xs v fuel lo hi<=xs.size/\(∀i (ee:i<xs.size),i<Ym xs v fuel lo hi->xs[i]<v)/\∀i (ee:i<xs.size),Ym xs v fuel lo hi<=i->v<=xs[i]
 |0,lo,hi,hf,h1,h2,ha,hb=>by
          have e:lo=hi :=by omega
          subst e;exact⟨h2,ha,hb⟩
 |fuel+1,lo,hi,hf,h1,h2,ha,hb=>by
          unfold Ym;by_cases aQ:lo<hi
          ·rw[if_pos aQ];dsimp only;have hm:(lo+hi) / 2<xs.size :=by omega
           have e:xs.getD ((lo+hi) / 2) v=xs[(lo+hi) / 2] :=by simp[Z6,hm]
           rw[e];by_cases hc:xs[(lo+hi) / 2]<v
           ·rw[if_pos hc];refine below_go h fuel _ _ (by omega) (by omega) h2 (fun i ee hl=>?_) hb
            by_cases ei:i=(lo+hi) / 2
            ·subst ei;exact hc
            ·exact Yd (sd h (show i<(lo+hi) / 2 by omega) hm) hc
           ·rw[if_neg hc];refine below_go h fuel _ _ (by omega) (by omega) (by omega) ha (fun i ee hl=>?_)
            by_cases ei:i=(lo+hi) / 2
            ·subst ei;exact YB hc
            ·exact sw (YB hc) (OL (sd h (show (lo+hi) / 2<i by omega) ee))
          ·rw[if_neg aQ];have e:lo=hi :=by omega
           subst e;exact⟨h2,ha,hb⟩
theorem qM {xs:Array Nat}(v:Nat) (h:mM xs):wP xs v<=xs.size/\(∀i (ee:i<xs.size),i<wP xs v->xs[i]<v)/\∀i (ee:i<xs.size),wP xs v<=i->v<=xs[i]:=
 below_go h _ _ _ (by omega) (wp _) (cb _) (fun i _ z=>absurd z (YQ _)) (fun i z z'=>absurd z (Z5.mpr z'))
theorem Bw {xs:Array Nat}{v:Nat}(h:mM xs) (hn:xs[wP xs v]?≠some v):mM (u7.insertAt xs (wP xs v) v) :=by
 obtain⟨b0,b1,b2⟩:=qM v h;generalize wP xs v=p at *
 unfold mM u7.insertAt;have e:((xs.extract 0 p).push v++xs.extract p xs.size).toList=xs.toList.take p++[v]++xs.toList.drop p :=by
  simp;exact List.take_of_length_le (by simp)
 rw[e];have hl:∀y∈xs.toList.take p,y<v:=fun y hy=>by
  obtain⟨i,hi,rfl⟩:=List.mem_take_iff_getElem.mp hy;have lH:i<p/\i<xs.size :=by simpa[Nat.lt_min] using hi
  simpa using b1 i lH.2 lH.1
 have hr:∀y∈xs.toList.drop p,v<y:=fun y hy=>by
  obtain⟨i,hi,rfl⟩:=List.mem_drop_iff_getElem.mp hy;have lH:p+i<xs.size :=by rw[Nat.add_comm];simpa using hi
  have h1:v<=xs[p+i]:=b2 (p+i) lH (X4 _ _);have h2:v≠xs[p+i]:=fun z=>by
   by_cases Vo:i=0
   ·subst Vo;exact hn (by rw[Nat.add_zero]at lH;rw[xL lH];simpa using z.symm)
   ·have q:=sd h (show p<p+i by omega) lH
    have q2:=b2 p (by omega) (cb _)
    omega
  have:xs.toList[p+i]'(by simpa using lH)=xs[p+i] :=by simp
  rw[this];omega
 have hp:=List.take_append_drop p xs.toList;have Vp:(xs.toList.take p++xs.toList.drop p).Pairwise (· < ·) :=by rw[hp];exact h
 obtain⟨q1,q2,q3⟩:=YR.mp Vp;refine YR.mpr ⟨YR.mpr ⟨q1,List.pairwise_singleton _ _,fun a ha b hb=>?_⟩,q2,fun a ha b hb=>?_⟩
 ·rw[jp]at hb;subst hb;exact hl a ha
 ·rcases zw.mp ha with ha|ha
  ·exact q3 a ha b hb
  ·rw[jp]at ha;subst ha;exact hr b hb
structure cy (w:ii) (t:u7):Prop where
 dum:t.dummies=#[]
 ris:mM t.place
 led:t.led = !w.params.followText "set-order"
theorem DU (n:Nat):mM (Array.range n) :=by
 unfold mM;rw[Array.toList_range];exact Ys
theorem cy.standIn {w:ii}{t:u7}(h:cy w t) (n:Nat):cy w (t.standIn n):=⟨rfl,DU n,h.led⟩
theorem cy.orStandIn {w:ii}{t:u7}(h:cy w t) (n:Nat):cy w (t.orStandIn n) :=by
 unfold u7.orStandIn;split
 ·exact h
 ·exact h.standIn n
theorem Ag (j:Nat):u7.has #[] j=false :=by
 unfold u7.has;have:(#[]:Array Nat)[wP #[] j]?=none :=by simp
 rw[this];rfl
theorem xA {w:ii}{t:u7}(h:cy w t) {hashAt:Nat->Int}{hh:Int}{j:Nat}{d:Option Nat}:∀(fuel:Nat) (p:u7.Probe),p.dummy=none->Zt t hashAt hh fuel p=some (.empty j d)->t.slot j=.empty/\d=none
 |0,p,_,e=>by simp[Zt]at e
 |fuel+1,p,hp,e=>by
          unfold Zt at e;have Ui:∀p:u7.Probe,(t.advance p).dummy=p.dummy:=fun p=>by
           unfold u7.advance;split<;>rfl
          cases hs:t.slot p.j with
          |empty=>
           rw[hs]at e;have e':=gl e;injection e' with e1 e2
           exact⟨by rw[<- e1];exact hs,by rw[<- e2];exact hp⟩
          |dummy=>
           exfalso
           unfold u7.slot at hs;dsimp only at hs;rw[h.dum,Ag]at hs;split at hs<;>simp at hs
          |live i=>
           rw[hs]at e;dsimp only at e;split at e
           ·simp at e
           ·exact xA h fuel _ (by rw[Ui];exact hp) e
theorem By {w:ii}{t:u7}(h:cy w t) {j:Nat}(e:t.slot j=.empty):t.place[wP t.place j]?≠some j:=fun z=>by
 unfold u7.slot at e;dsimp only at e;rw[z]at e;simp at e
theorem cy.put {w:ii}{t:u7}(h:cy w t) {j:Nat}(e:t.slot j=.empty):cy w (t.put j).1 :=by
 unfold u7.put;refine⟨?_,Bw h.ris (By h e),h.led⟩;show (if u7.has t.dummies j then _ else t.dummies)=#[]
 rw[h.dum,Ag];rfl
theorem cy.layNew {w:ii}{t:u7}(h:cy w t) (es:Array (Int×am)) (hh:Int) (x:am):cy w (layNew t es hh x).2.1 :=by
 unfold PySem.layNew;split
 ·rename_i slot qN hf;unfold u7.freeSlot at hf;refine(cy.put h ?_).orStandIn _;split at hf
  ·rename_i j dummy hp;obtain⟨e1,e2⟩:=xA h _ _ rfl hp;subst e2;have:=gl hf;injection this with z1 _
   rw[<- z1];exact e1
  ·cases hf
 ·exact h.standIn _
theorem GK {α:Type}(f:Nat->Option α) (n:Nat):mM (((io n).filterMap fun j=>(f j).map (j,·)).map (·.1)).toArray :=by
 unfold mM;have e:(((io n).filterMap fun j=>(f j).map (j,·)).map (·.1)).toArray.toList=(io n).filter fun j=>(f j).isSome :=by
  rw[List.toList_toArray];induction io n with
  |nil=>rfl
  |cons a l ih=>
   cases hf:f a with
   |none=>simp[LF,hf,ih]
   |some b=>simp[LF,hf,ih]
 rw[e];exact Yx.filter _ Ys
theorem cy.Q6 {w:ii}{t:u7}(h:cy w t) (es:Array (Int×am)) (wanted:Nat):cy w (relayAll t es wanted).2.1 :=by
 unfold relayAll;split
 ·rename_i t' order hr;dsimp only;split
  ·unfold u7.relaid u7.laid at hr;simp only[Option.bind_eq_bind,Option.bind_eq_some_iff,Option.pure_def]at hr;obtain⟨owner,_,hr⟩:=hr;have:=gl hr;injection this with z1 _
   subst z1;exact⟨rfl,GK (fun j=>owner.getD j none) _,h.led⟩
  ·exact h.standIn _
 ·exact h.standIn _
theorem cy.GL {w:ii}{t:u7}(h:cy w t) (b:Bool):cy w (if b=true then t else {t with plain:=false}) :=by
 split
 ·exact h
 ·exact⟨h.dum,h.ris,h.led⟩
def eG (e:Int×am):Int:=match e.2 with | .int i _=>i|_=>0
def cm (P:en) (w:ii) (h:hX) (a:al) (ns:List Int):Prop:=
 ∃o es ep t,h.get? a=some o/\o.ExactSet/\o.data=.set es ep t/\Za (intKind P w) es.toList/\(es.toList.map eG).Perm ns/\ns.Nodup/\es.size<scanBound/\t.fits es.size=true/\cy w t
theorem cm.cE {P:en}{w:ii}{h h':hX}{a:al}{ns:List Int}(x:cm P w h a ns) (k:∀o,h.get? a=some o->h'.get? a=some o):cm P w h' a ns:=
 let ⟨o,es,ep,t,e,r⟩:=x;⟨o,es,ep,t,k o e,r⟩
def fW (P:en) (w:ii) (a:al) (ns:List Int):HO:=.ext fun h=>cm P w h a ns
def c7 (ns:List Int) (m:Int):List Int:=if m∈ns then ns else ns++[m]
theorem zz {P:en}{w:ii}{es:List (Int×am)}(h:Za (intKind P w) es) {k:Int}:(∃e∈es,(intKind P w).is k e.2=true) ↔ k∈es.map eG :=by
 constructor
 ·rintro⟨e,he,hk⟩;obtain⟨t,e2⟩:=Yk (k:=k) (v:=e.2) hk;exact kt.mpr ⟨e,he,by unfold eG;rw[e2]⟩
 ·intro hm;obtain⟨e,he,q⟩:=kt.mp hm;obtain⟨⟨k',kz,_⟩,_⟩:=h e he;obtain⟨t,e2⟩:=Yk (k:=k') (v:=e.2) kz;have:k'=k :=by rw[<- q];unfold eG;rw[e2]
  exact⟨e,he,this▸kz⟩
section
variable {P:en}{w:ii}{A:l5}{E:am->ar->Prop}{s:ar}
theorem se {h:hX}{a:al}{o:i8}{es:Array (Int×am)}{ep:Nat}{t:u7}(ho:h.get? a=some o) (hex:o.ExactSet) (hd:o.data=.set es ep t)
  {jC:Array (Int×am)} {t':u7} {ns:List Int} (fP:Za (intKind P w) jC.toList) (hp:(jC.toList.map eG).Perm ns) (hn:ns.Nodup) (hb:jC.size<scanBound) (hf:t'.fits jC.size=true) (ht:cy w t') :
  (h.update a (ZA jC t')).get? a=some {o with data:=.set jC (ep+1) t'}/\cm P w (h.update a (ZA jC t')) a ns :=by
 have hg:(h.update a (ZA jC t')).get? a=some {o with data:=.set jC (ep+1) t'}:=by
  have:=ID (ZA jC t') ho (by rw[putSet_of jC t' hd];rfl)
  rw[putSet_of jC t' hd]at this;exact this
 exact⟨hg,_,jC,ep+1,t',hg,hex,rfl,fP,hp,hn,hb,hf,ht⟩
theorem xB {g:Bool->W1 Unit}(hg:∀(b:Bool) (aC:ar) (Q':Unit->ar->Prop),Q' () aC->wpAny (model P w) A (g b) Q' E aC)
  {a:al} {o:i8} {es:Array (Int×am)} {ep:Nat} {t:u7} (ho:s.heap.get? a=some o) (hex:o.ExactSet) (hd:o.data=.set es ep t)
  {fy:Array (Int×am)} {t2:u7} {ns:List Int} (xC:Za (intKind P w) fy.toList) (DV:(fy.toList.map eG).Perm ns) (hn:ns.Nodup)
  (sf:fy.size<scanBound) (Vq:t2.fits fy.size=true) (Sx:cy w t2) {qN:Bool} {R:Option Bool->ar->Prop}
  (h:∀h',rf a s.heap h'->cm P w h' a ns->R (some true) {s with heap:=h'}) :
  wpAny (model P w) A (do
    storeSet a fy t2
    if (!qN && t2.tooFull)=true then do
      g (relayAll t2 fy (PP fy.size)).2.2
      storeSet a (relayAll t2 fy (PP fy.size)).1 (relayAll t2 fy (PP fy.size)).2.1
      pure (some true)
     else pure (some true)) R E s :=by
 refine ag (wpAny_storeSet_of ho hd ?_ (Zu sf));obtain⟨Sy,DW⟩:=se (P:=P) (w:=w) ho hex hd xC DV hn sf Vq Sx;have Np:=LH s.heap a (ZA fy t2);split
 ·have hp:=relayAll_perm t2 fy (PP fy.size);have rO:=relayAll_fits t2 fy (PP fy.size);have ou:=Sx.Q6 fy (PP fy.size);generalize relayAll t2 fy (PP fy.size)=Rl at hp rO ou ⊢
  obtain⟨qj,t3,Xh⟩:=Rl;dsimp only at hp rO ou ⊢;have hsz:qj.size=fy.size :=by rw[<- ww,hp.length_eq,ww]
  have Ah:qj.size<scanBound :=by rw[hsz];exact sf
  refine ag (hg _ _ _ (ag (wpAny_storeSet_of Sy rfl ?_ (Zu Ah))));obtain⟨_,Nq⟩:=se (P:=P) (w:=w) Sy hex rfl (xC.perm hp) ((hp.map eG).trans DV) hn Ah rO ou;exact bi (h _ (Np.trans (LH _ a _)) Nq)
 ·exact bi (h _ Np DW)
theorem u6 {a:al}{ns:List Int}{m:Int}{tk:Y1}{Q:Bool->ar->Prop}(hS:cm P w s.heap a ns) (jx:ns.length+1<scanBound)
  (h:∀h',rf a s.heap h'->cm P w h' a (c7 ns m)->Q (decide (m ∉ ns)) {s with heap:=h',toks:=s.toks+1}):wpAny (model P w) A (setAdd a (.int m tk)) Q E s :=by
 unfold setAdd;refine EO (ag ((intKind P w).pyHash (k:=m) (intKind_is _ _ _ _) ?_));have Bo:(intKind P w).is m (.int m tk)=true:=intKind_is _ _ _ _;obtain⟨o,es,ep,t,ho,hex,hd,fP,hp,hn,hb,hf,ht⟩:=hS;have qO:∀k,(∃e∈es.toList,(intKind P w).is k e.2=true) ↔ k∈ns:=fun k=>(zz fP).trans hp.mem_iff
 have hlen:es.size=ns.length :=by rw[<- ww,<- hp.length_eq,ca]
 unfold setAddHashed setAddHashedIn;refine EO (ag (WF (s:={s with toks:=s.toks+1}) ho hd hf ?_))
 dsimp only;rw[byScan_of (x:=.int m tk) rfl hb fP];simp only[↓reduceIte];unfold setAddByScan;refine ag (ag (LS (ag (wpAny_setScan_of Bo ho hd hf fP ?_))));cases hr:List.findIdx? (fun e=>(intKind P w).is m e.2) es.toList with
 |some j=>
  dsimp only;obtain⟨hj,Vr,_⟩:=List.findIdx?_eq_some_iff_getElem.mp hr;have hm:m∈ns:=(qO m).mp ⟨es.toList[j],wT hj,Vr⟩;have:=h s.heap (rf.refl a s.heap) (by unfold c7;rw[if_pos hm];exact⟨o,es,ep,t,ho,hex,hd,fP,hp,hn,hb,hf,ht⟩)
  rw[decide_eq_false (fun z=>z hm)]at this
  exact bi (bi this)
 |none=>
  dsimp only;have hm:m ∉ ns:=fun z=>by
   obtain⟨e,he,q⟩:=(qO m).mpr z;have:=List.findIdx?_eq_none_iff.mp hr e he;rw[q]at this;cases this
  have pM:=layNew_perm t es ((intKind P w).hash m) (.int m tk);have sg:=layNew_fits t es ((intKind P w).hash m) (.int m tk);have kD:=ht.layNew es ((intKind P w).hash m) (.int m tk);generalize layNew t es ((intKind P w).hash m) (.int m tk)=L at pM sg kD ⊢
  obtain⟨fy,t1,qN,Xq⟩:=L;dsimp only at pM sg kD ⊢;rw[Array.toList_push]at pM;have xC:Za (intKind P w) fy.toList:=(fP.push Bo rfl).perm pM;have Nr:c7 ns m=ns++[m] :=by unfold c7;rw[if_neg hm]
  have DV:(fy.toList.map eG).Perm (c7 ns m) :=by
   rw[Nr];refine(pM.map eG).trans ?_;rw[u8];exact Ye.append hp (.refl _)
  have Sz:(c7 ns m).Nodup :=by
   rw[Nr];exact NJ.mpr ⟨hn,by simp,fun a ha b hb=>by rw[jp]at hb;rw[hb];exact fun z=>hm (z▸ha)⟩
  have sf:fy.size<scanBound :=by rw[<- ww,pM.length_eq,xz,ww,hlen];simpa using jx
  have Nt:∀(b:Bool) (aC:ar) (Q':Unit->ar->Prop),Q' () aC->wpAny (model P w) A (match b with|true=>rule "set.scan.the-table-gave-way" |false=>pure ()) Q' E aC:=
   fun b aC Q' hq=>by cases b<;>first|exact bi hq|exact LS hq
  have ox:∀h',rf a s.heap h'->cm P w h' a (c7 ns m)->Q true {s with heap:=h',toks:=s.toks+1}:=by
   intro h' iJ jD;have:=h h' iJ jD;rw[decide_eq_true hm]at this;exact this
  refine ag (Nt _ _ _ ?_);split
  ·refine ag ?_;rw[hashByValue_scannable 8 (x:=.int m tk) rfl];refine bi (xB (P:=P) (w:=w) (s:={s with toks:=s.toks+1}) Nt ho hex hd xC DV Sz sf ?_ (kD.GL _) fun h' iJ jD=>bi (ox h' iJ jD))
   split
   ·exact sg
   ·exact u7.fits_plain_off sg
  ·refine ag (bi ?_);simp only[↓reduceIte];exact xB (P:=P) (w:=w) (s:={s with toks:=s.toks+1}) Nt ho hex hd xC DV Sz sf sg kD fun h' iJ jD=>bi (ox h' iJ jD)
theorem BA {ns:List Int}(h:ns.Nodup) (m:Int):(c7 ns m).Nodup :=by
 unfold c7;split
 ·exact h
 ·rename_i hm;exact NJ.mpr ⟨h,by simp,fun a ha b hb=>by rw[jp]at hb;rw[hb];exact fun z=>hm (z▸ha)⟩
theorem GN {ns:List Int}{m k:Int}:k∈c7 ns m ↔ k∈ns\/k=m :=by
 unfold c7;split
 ·rename_i hm;exact⟨.inl,fun h=>h.elim id fun e=>e▸hm⟩
 ·simp
theorem xD {ns:List Int}{m:Int}:(c7 ns m).length<=ns.length+1 :=by
 unfold c7;split
 ·omega
 ·simp
end
def dO (ns:List Int):List Int:=ns.foldl c7 []
theorem DX (ns:List Int) (m:Int):dO (ns++[m])=c7 (dO ns) m :=by
 unfold dO;rw[GG];rfl
theorem BC (ns:List Int):(dO ns).Nodup :=by
 unfold dO;have:∀(l acc:List Int),acc.Nodup->(l.foldl c7 acc).Nodup:=fun l=>by
  induction l with
  |nil=>exact fun acc h=>h
  |cons a l ih=>exact fun acc h=>ih _ (BA h a)
 exact this ns [] .nil
theorem GO {ns:List Int}{k:Int}:k∈dO ns ↔ k∈ns :=by
 unfold dO;have:∀(l acc:List Int),k∈l.foldl c7 acc ↔ k∈acc\/k∈l:=fun l=>by
  induction l with
  |nil=>intro acc;simp
  |cons a l ih=>
   intro acc;rw[TD,ih,GN,im];constructor
   ·rintro ((h|h)|h)
    ·exact .inl h
    ·exact .inr (.inl h)
    ·exact .inr (.inr h)
   ·rintro (h|h|h)
    ·exact .inl (.inl h)
    ·exact .inl (.inr h)
    ·exact .inr h
 rw[this];simp
theorem qP (ns:List Int):(dO ns).length<=ns.length :=by
 unfold dO;have:∀(l acc:List Int),(l.foldl c7 acc).length<=acc.length+l.length:=fun l=>by
  induction l with
  |nil=>intro acc;simp
  |cons a l ih=>
   intro acc;rw[TD,xy];have h1:=ih (c7 acc a);have h2:=@xD acc a;omega
 simpa using this ns []
section
variable {P:en}{w:ii}{A:l5}{R:Zh->ar->Prop}{I:al}{fp wr:List al}{G:Array US->Array US->Prop}{n:Nat}{St:Nat->ar->Prop}
theorem GP {vs:List Int}{Pv:Nat->am->Prop}(W:WalksS P w A.in1 I fp wr G vs.length Pv St) (S:al) (xE:S ∉ fp) (GQ:∀(i:Nat) (v:am),Pv i v->∃m t,vs[i]?=some m/\v=.int m t) (hb:vs.length+1<scanBound) :
  ∀(k i:Nat) (s:ar),vs.length - i=k->i<=vs.length->St i s->cm P w s.heap S (dO (vs.take i))->
   (∀s',Moved (S::wr) G s s'->cm P w s'.heap S (dO vs)->R (.ok (.ret .none)) s')->
   codeAny (model P w) A (.builtin "set.update.loop" ⟨[.ref S,.ref I],[]⟩) R s :=by
 have SA:S ∉ wr:=fun h=>xE (W.sub _ h)
 have qQ:∀b∈wr,b∈S::wr:=fun b hb=>c8 _ hb
 intro k;induction k with
 |zero=>
  intro i s hk hi fM hS hR;have lJ:i=vs.length :=by omega
  subst lJ;refine Cf F.entry_set_update_loop ?_;rw[ze Yg _];show wpAny _ A.in1 (pyNext (.ref I)>>=_) _ _ s;refine ag (W.done s _ _ fM fun s' hm=>?_)
  rw[Db]at hS;exact bi (hR s' (hm.mono qQ) (hS.cE fun o e=>hm.heap S _ SA e))
 |succ k ih=>
  intro i s hk hi fM hS hR;have aQ:i<vs.length :=by omega
  refine Cf F.entry_set_update_loop ?_;rw[ze Yg _];show wpAny _ A.in1 (pyNext (.ref I)>>=_) _ _ s;refine ag (W.item i s _ _ aQ fM fun v s' hP Uj hm=>?_)
  obtain⟨m,t,mO,rfl⟩:=GQ i v hP;have jD:cm P w s'.heap S (dO (vs.take i)):=hS.cE fun o e=>hm.heap S _ SA e
  show wpAny _ A.in1 (holding [Ze m t] (setAdd S (.int m t))>>=_) _ _ s';have jx:(dO (vs.take i)).length+1<scanBound :=by
   have h1:=qP (vs.take i);rw[ZD]at h1;omega
  refine ag (EO (u6 jD jx fun h' iJ Nq=>?_))
  have Vs:cm P w h' S (dO (vs.take (i+1))) :=by
   rw[List.take_add_one,mO];show cm P w h' S (dO (vs.take i++[m]));rw[DX];exact Nq
  refine bi ⟨Mc Yg _,ih (i+1) _ (by omega) aQ (W.frame _ s' _ _ Uj (Co _) fun b hb o e=>?_) Vs fun cR Uk Ul=>?_⟩
  ·rw[iJ.2 b (fun h:b=S=>xE (by rw[<- h];exact hb))];exact e
  ·refine hR cR (Moved.trans W.gtrans ((hm.mono qQ).then_heap (Co _) fun b o hb e=>?_) Uk) Ul
   rw[iJ.2 b (fun h:b=S=>hb (by rw[h];exact gc))];exact e
end
theorem sub_tuple_set:isSubtype (.type "tuple") (.type "set")=pure false :=by rw[Zb];kernel_rfl
theorem tR:isSubtype (.type "tuple") (.type "frozenset")=pure false :=by rw[Zb];kernel_rfl
section
variable {P:en}{w:ii}{A:l5}{E:am->ar->Prop}{s:ar}
abbrev gX (w:ii):i8:={cls:=.type "set",dict:=none,data:=.set #[] 0 (.fresh 0 0 (!w.params.followText "set-order"))}
theorem Ai {h:hX}:cm P w (h.push (gX w)) h.objs.size []:=⟨_,#[],0,_,ci _ rfl,⟨rfl,rfl,rfl⟩,rfl,fun e he=>by simp at he,by simp,by simp,by decide,by rfl,rfl,Yx.nil,rfl⟩
theorem GR (a:am) {Q₁:am->ar->Prop}(h:Q₁ (.ref s.heap.objs.size) {s with heap:=s.heap.push (gX w)}) :
  codeAny (model P w) A (.call (.builtin "set.__new__") ⟨[.type "set",a],[]⟩) (wants Q₁ E) s :=by
 refine YN ?_;show wpAny _ A.in1 (do checkBuiltinCall "set.__new__" ⟨[.type "set",a],[]⟩;again (.builtin "set.__new__" ⟨[.type "set",a],[]⟩)) _ _ s
 refine ag (Yt (F.newCall_set_1 a) (bi ⟨Mc F.plain_set_new _,Cf F.entry_set_new ?_⟩));rw[ze F.plain_set_new _];unfold mf.«set.__new__» mf.Frozenset.newClass;have qQ:=sub_set_self;obtain⟨hp,g,d,tk,os⟩:=s;dsimp only;wp_walk
 refine RI (bi ?_);dsimp only;simp only[newObj];refine ag (wpAny_alloc (bi ?_));exact bi h
theorem cm.typeIs {h:hX}{a:al}{ns:List Int}{s:ar}(x:cm P w s.heap a ns):s.TypeIs (.ref a) "set" := let ⟨o,_,_,_,ho,hex,_⟩:=x;⟨o,ho,hex.1⟩
theorem oy {T:String}{l:al}{itob:i8}{vs:List Int}{Pv:Nat->am->Prop}{St:al->Nat->hX->Prop}{Q:am->ar->Prop}(hh:A.handled=none)
  (hl:∃o,s.heap.get? l=some o) (hT:∀s1:ar,(∀o,s.heap.get? l=some o->s1.heap.get? l=some o)->s1.TypeIs (.ref l) T) (h1:isSubtype (.type T) (.type "set")=pure false) (h2:isSubtype (.type T) (.type "frozenset")=pure false) (h3:(LP T==LP "dict")=false)
  (hit:∀(A':l5) (s1:ar) (Q':am->ar->Prop) (E':am->ar->Prop),(∀o,s.heap.get? l=some o->s1.heap.get? l=some o)->Q' (.ref s1.heap.objs.size) {s1 with heap:=s1.heap.push itob}->wpAny (model P w) A' (pyIter (.ref l)) Q' E' s1)
  (hW:∀(A':l5) (I:al),A'.handled=none->l≠I->ZN P w A' I [I,l] [I] vs.length Pv (St I)) (Vt:∀h1:hX,(∀o,s.heap.get? l=some o->h1.get? l=some o)->St h1.objs.size 0 (h1.push itob))
  (GQ:∀(i:Nat) (v:am),Pv i v->∃m t,vs[i]?=some m/\v=.int m t) (hb:vs.length+1<scanBound)
  (h:∀(h':hX) (tk:Nat),cm P w h' s.heap.objs.size (dO vs)->(∀b o,s.heap.get? b=some o->h'.get? b=some o)->Q (.ref s.heap.objs.size) {s with heap:=h',toks:=tk}) :
  wpAny (model P w) A (call (.type "set") [.ref l]) Q E s :=by
 obtain⟨c,tl,Xr⟩:=RS.mro;have Xi:=RS.made;have qQ:=RS.sub;refine wpAny_call (YN ?_);show wpAny _ _ (callAny (.type "set") _) _ _ _
 refine bi ⟨Code.quiet_builtin _ (by decide +kernel),Cf F.entry_type_call ?_⟩
 rw[l5.under_plain (weight_type_call_type "set" [.ref l] []) rfl]
 have k1:=RS.notType;have k2:=RS.canCreate;have XC:=F.typeCall_set_1 (.ref l);repeat (any_goals (first|assumption|wp_step))
 refine Yc (GR (P:=P) (w:=w) (.ref l) (E:=E) (Q₁:=fun obj aC=>obj=.ref s.heap.objs.size/\aC={s with heap:=s.heap.push (gX w)}) ⟨rfl,rfl⟩) fun r aC hr=>?_
 cases r with
 |error e=>exact hr
 |ok fl=>
  cases fl with
  |ret obj=>
   obtain⟨rfl,rfl⟩:=hr;have hS:(s.heap.push (gX w)).get? s.heap.objs.size=some {cls:=.type "set",dict:=none,data:=.set #[] 0 (.fresh 0 0 (!w.params.followText "set-order"))}:=ci _ rfl
   have Vu:X6 {s with heap:=s.heap.push (gX w)} (.ref s.heap.objs.size) "set" := ⟨_,hS,rfl⟩
   have kp:∀b o,s.heap.get? b=some o->(s.heap.push (gX w)).get? b=some o:=fun b o e=>ba _ e
   have sz:(s.heap.push (gX w)).objs.size=s.heap.objs.size+1 :=by rw[wE]
   have xF:=RS.init.lookup;have Aj:=RS.init.bind (.ref s.heap.objs.size);repeat (any_goals (first|assumption|wp_step))
   refine Yc (codeAny_call_builtin (R:=wants (fun r je=>r=.none/\∃h' tk,je={s with heap:=h',toks:=tk}/\cm P w h' s.heap.objs.size (dO vs) /\
     (∀b o,s.heap.get? b=some o->h'.get? b=some o)) E) RS.init.plain F.entry_set_init (check_set_init_1 Vu ?_)) fun Um je BD=>?_
   ·have XD:=hT {s with heap:=s.heap.push (gX w)} (fun o e=>kp l o e)
    unfold mf.«set.__init__» noKeywords mf.Frozenset.updateFrom;generalize Vv:pyIter=PI
    wp_walk
    subst Vv;obtain⟨ol,xG⟩:=hl;have SD:l<s.heap.objs.size:=ff xG;refine hit _ {s with heap:=s.heap.push (gX w)} _ _ (fun o e=>kp l o e) ?_
    refine ag (Zc ?_);have Vw:A.in1.in1.in1.handled=none :=by simp[hh]
    have Uo:l≠(s.heap.push (gX w)).objs.size :=by rw[sz];exact i4 (AE SD)
    have xE:s.heap.objs.size ∉ [(s.heap.push (gX w)).objs.size,l] :=by
     rw[sz];simp only[im,zd,or_false,not_or];exact⟨i4 (Da _),Gc SD⟩
    refine GP ((hW _ (s.heap.push (gX w)).objs.size Vw Uo).toS) s.heap.objs.size xE GQ hb (vs.length - 0) 0 _ (by omega) (wp _) (Vt (s.heap.push (gX w)) fun o e=>kp l o e) (Ai.cE fun o e=>ba _ e) ?_
    intro s' hm jD;obtain⟨h',g',d',DY,Iz⟩:=s';have eg:g'=s.gens:=hm.gens;have ed:d'=s.drawn:=hm.drawn;have eo:Iz=s.os:=hm.os;subst eg;subst ed;subst eo;show wpAny _ _ _ _ _ _;refine bi ?_;show wpAny _ _ (ret AM) _ _ _;refine bi ⟨rfl,h',DY,rfl,jD,fun b o e=>?_⟩
    have IH:b<s.heap.objs.size:=ff e;refine hm.heap b o ?_ (ba _ (kp b o e));simp only[im,zd,or_false,not_or];exact⟨i4 IH,by rw[sz];exact i4 (AE IH)⟩
   ·cases Um with
    |error e=>exact BD
    |ok Q7=>
     cases Q7 with
     |ret r=>
      obtain⟨rfl,h',tk,rfl,jD,kz⟩:=BD;repeat (any_goals (first|assumption|wp_step))
      exact h _ _ jD kz
     |_=>exact BD.elim
  |_=>exact hr.elim
end
theorem DZ:Manifest.owners.lookup (String.ofList ['r','o','t','a','r','e','t','i','_','t','e','s'].reverse)=some Manifest.sig_set_iterator :=by kernel_rfl
theorem cL:Slot "set_iterator" "__next__" "set_iterator.__next__" :=
 .of (owner := "set_iterator") (n := "__next__") (by rw[typeLookup_type,builtinLookup_eq_fast];kernel_rfl) (by decide +kernel) (by decide +kernel) (by decide +kernel)
  (by first|exact .inl (by decide +kernel)|exact .inr (by decide +kernel)) (by rw[Zb];kernel_rfl)
theorem j0:entryFor table "set_iterator.__next__" = some mf.«set_iterator.__next__»:=entryFor_of_tree (by kernel_rfl)
theorem j1 (a:am):argsOk "set_iterator.__next__" ⟨[a],[]⟩ :=by
 unfold argsOk;rw[signature?_of (id := "set_iterator.__next__") (n:=['_','_','t','x','e','n','_','_']) (o:=['r','o','t','a','r','e','t','i','_','t','e','s']) (by kernel_rfl) DZ];kernel_rfl
theorem sh:Slot "set_iterator" "__iter__" "set_iterator.__iter__" :=
 .of (owner := "set_iterator") (n := "__iter__") (by rw[typeLookup_type,builtinLookup_eq_fast];kernel_rfl) (by decide +kernel) (by decide +kernel) (by decide +kernel)
  (by first|exact .inl (by decide +kernel)|exact .inr (by decide +kernel)) (by rw[Zb];kernel_rfl)
theorem BE:entryFor table "set_iterator.__iter__" = some mf.«dict_keyiterator.__iter__»:=
 entryFor_alias (id' := "dict_keyiterator.__iter__") (by kernel_rfl) (by first|rfl|decide +kernel|(unfold String.splitOn;simp +decide [String.splitOnAux])) (by decide +kernel) (by kernel_rfl)
theorem BF (a:am):argsOk "set_iterator.__iter__" ⟨[a],[]⟩ :=by
 unfold argsOk;rw[signature?_of (id := "set_iterator.__iter__") (n:=['_','_','r','e','t','i','_','_']) (o:=['r','o','t','a','r','e','t','i','_','t','e','s']) (by kernel_rfl) DZ];kernel_rfl
theorem zA:entryFor table "set.__iter__" = some mf.«frozenset.__iter__»:=
 entryFor_alias (id' := "frozenset.__iter__") (by kernel_rfl) (by first|rfl|decide +kernel|(unfold String.splitOn;simp +decide [String.splitOnAux])) (by decide +kernel) (by kernel_rfl)
def fA (h:hX) (I a:al) (first:am) (i n ep:Nat):Prop:=∃o,h.get? I=some o/\o.cls=.type "set_iterator" /\ o.data=.fields #[first,.int i 0,.ref a,.int n 0,.int ep 0]
theorem fA.typeIs {s:ar}{I a:al}{first:am}{i n ep:Nat}(x:fA s.heap I a first i n ep):s.TypeIs (.ref I) "set_iterator" := let ⟨o,ho,hc,_⟩:=x;⟨o,ho,hc⟩
theorem gm {α:Type}:∀{l:List α}{i:Nat}(h:i<l.length),(l[i]::l.eraseIdx i).Perm l
 | [],i,h=>by simp at h
 |x::l,0,h=>.refl _
 |x::l,i+1,h=>by
          rw[List.eraseIdx_cons_succ,List.getElem_cons_succ];exact(Ye.swap _ _ _).trans (.cons _ (gm (by simpa using h)))
section
variable {P:en}{w:ii}{A:l5}{E:am->ar->Prop}{s:ar}
theorem wp_choose {src:Source}{n:Nat}{Q:Nat->ar->Prop}(hn:n≠0) (h:∀i d,i<n->Q i {s with drawn:=d}):wpAny (model P w) A (choose src n) Q E s:=fun Γ p _=>by
 refine⟨hn,?_⟩;exact h _ _ (Z7 _ (Nat.pos_of_ne_zero hn))
theorem oz {α:Type}:∀(n:Nat) (xs:List α) {s:ar}{Q:List α->ar->Prop},n=xs.length->(∀ys d,ys.Perm xs->Q ys {s with drawn:=d})->wpAny (model P w) A (drawOrder n xs) Q E s
 |0,xs,s,Q,hn,h=>by
          have:xs=[]:=WE hn.symm;subst this;exact bi (h [] s.drawn .nil)
 |n+1,[],s,Q,hn,h=>by simp at hn
 |n+1,x::xs,s,Q,hn,h=>by
          show wpAny _ _ (choose .order (x::xs).length>>=_) _ _ s;refine ag (wp_choose (by simp) fun i d hi=>?_)
          have e:(x::xs)[i]?=some (x::xs)[i]:=ap hi;rw[e];dsimp only;refine ag (oz n _ (by rw[List.length_eraseIdx_of_lt hi];simp at hn ⊢;omega) fun ys d' hp=>bi (h _ _ ?_))
          exact(Ye.cons _ hp).trans (gm hi)
structure kG (P:en) (w:ii) (h:hX) (a:al) (es:Array (Int×am)) (ep:Nat) (t:u7):Prop where
 at_:∃o,h.get? a=some o/\o.ExactSet/\o.data=.set es ep t
 fits:t.fits es.size=true
 tab:cy w t
theorem Ak {α:Type}(next:Nat->Nat):∀(fuel k:Nat) (left:List α) (out:Array α),fuel=left.length->(pickOrder.go next fuel k left out).toList.Perm (out.toList++left)
 |0,k,left,out,h=>by
          have:left=[]:=WE h.symm;subst this;simp[pickOrder.go]
 |fuel+1,k,left,out,h=>by
          unfold pickOrder.go;have hl:next k % left.length<left.length:=Z7 _ (by omega)
          rw[ap hl];dsimp only;refine(Ak next fuel (k+1) _ _ (by rw[List.length_eraseIdx_of_lt hl];omega)).trans ?_
          rw[Array.toList_push,NH];exact Ye.append_left _ (gm hl)
theorem u9 {α:Type}(next:Nat->Nat) (xs:Array α):(pickOrder next xs).toList.Perm xs.toList :=by
 unfold pickOrder;exact(Ak next xs.size 0 xs.toList #[] (by simp)).trans (by simp)
theorem oA {Q:Bool->ar->Prop}(h:Q (w.params.followText "set-order") s):wpAny (model P w) A setsByText Q E s :=by
 unfold setsByText;exact ag (RI (bi h))
theorem si {a:al}{es:Array (Int×am)}{ep:Nat}{t:u7}{slot given:Nat}{Q:Option (am×Nat)->ar->Prop}(hE:kG P w s.heap a es ep t)
  (hd:w.params.followText "set-order" = false->(!t.plain && decide (es.size > 1))=false)
  (h1:w.params.followText "set-order" = true->Q ((pickOrder (w.params.setOrder a ep) es)[given]?.map fun e=>(e.2,slot)) s)
  (h2:w.params.followText "set-order" = false->Q (match es[wP t.place slot]?,t.place[wP t.place slot]? with|some (_,x),some j=>some (x,j+1)|_,_=>none) s) :
  wpAny (model P w) A (setNext a slot given ep) Q E s :=by
 obtain⟨⟨o,ho,hex,qk⟩,hf,ht⟩:=hE;unfold setNext;refine ag (WF ho qk hf ?_);dsimp only;refine ag (oA ?_);cases hb:w.params.followText "set-order" with
 |true=>
  simp only[if_true,bne_self_eq_false,l8,if_false];unfold setWalk;refine ag (ag (WF ho qk hf ?_));dsimp only;refine ag (oA ?_);rw[hb];simp only[if_true];refine ag (RI (bi (bi ?_)));exact h1 hb
 |false=>
  simp only[l8,if_false];have jB:=hd hb;have Up:t.led=true :=by rw[ht.led,hb];rfl
  show wpAny _ _ (if (!t.plain && decide (es.size > 1))=true then _ else _) _ _ s
  rw[jB];simp only[l8,if_false];refine ag ?_;show wpAny _ _ (if (!t.led && !es.isEmpty)=true then _ else _) _ _ s
  rw[Up];simp only[Yy,WI,l8,if_false];exact bi (bi (h2 hb))
theorem fA.Nu {h:hX}{I a:al}{first x:am}{i n ep:Nat}(hit:fA h I a first i n ep):fA (h.update I (i8.mapFields (·.setIfInBounds 0 x))) I a x i n ep :=by
 obtain⟨o,ho,hc,hd⟩:=hit;exact⟨_,ID _ ho (YF (OP hd _)),(Zv ..).trans hc,by rw[OP hd];simp⟩
theorem fA.xH {h:hX}{I a:al}{first:am}{i n ep:Nat}(hit:fA h I a first i n ep):fA (h.update I (i8.mapFields (·.setIfInBounds 1 (rawInt ((i:Int)+1))))) I a first (i+1) n ep :=by
 obtain⟨o,ho,hc,hd⟩:=hit;exact⟨_,ID _ ho (YF (OP hd _)),(Zv ..).trans hc,by rw[OP hd];simp[rawInt]⟩
theorem mP {I a:al}{first x:am}{i n ep k:Nat}{Q:Unit->ar->Prop}(hk:k<5) (hit:fA s.heap I a first i n ep) (h:Q () {s with heap:=s.heap.update I (i8.mapFields (·.setIfInBounds k x))}):wpAny (model P w) A (setField (.ref I) k x) Q E s :=by
 obtain⟨o,ho,hc,hd⟩:=hit;exact wpAny_setField ho hd (by simpa using hk) h
theorem Al {Q:Fin->ar->Prop}(hh:A.handled=none) (h:∀e h',s.TypeIs e "StopIteration" \/ True->(∀b o,s.heap.get? b=some o->h'.get? b=some o)->X6 {s with heap:=h'} e "StopIteration" -> E e {s with heap:=h'}) :
  wpAny (model P w) A (newExc (.type "StopIteration") []>>=fun e=>raiseNew e) Q E s :=by
 refine ag ?_;simp only[newExc,newTuple];refine ag (tw ?_ (by size_fits))
 refine ag (m:=firstArgMember _ _) (Yt (a:=AM) (by first|rfl|(simp only[firstArgMember];rfl)) ?_)
 refine tw ?_ (by size_fits)
 simp only[raiseNew];refine ag (wpAny_handled ?_);rw[hh];refine ag (bi (wpAny_throw ?_));exact h _ _ (.inr trivial) (fun b o e=>ba _ (ba _ e)) ⟨_,ci _ rfl,rfl⟩
theorem xI {Q:Option am->ar->Prop}{e:am}(hT:s.TypeIs e "StopIteration") (h:Q none s):wpAny (model P w) A (do let b <- isInstance e (.type "StopIteration");if b=true then pure none else throw e) Q E s:=
 ag (Sk (T := "StopIteration") (b:=true) hT Yf (bi h))
theorem Kh {I a:al}{slot i ep next:Nat}{es:Array (Int×am)}{t:u7}{x:am}{Q:Option am->ar->Prop}(hit:fA s.heap I a (.int slot 0) i es.size ep) (hE:kG P w s.heap a es ep t)
  (hd:w.params.followText "set-order" = false->(!t.plain && decide (es.size > 1))=false)
  (h1:w.params.followText "set-order" = true->(pickOrder (w.params.setOrder a ep) es)[i]?.map (fun e=>(e.2,slot))=some (x,next))
  (h2:w.params.followText "set-order" = false->(match es[wP t.place slot]?,t.place[wP t.place slot]? with|some (_,x),some j=>some (x,j+1)|_,_=>none)=some (x,next))
  (hQ:∀h',fA h' I a (.int next 0) (i+1) es.size ep->rf I s.heap h'->Q (some x) {s with heap:=h'}):wpAny (model P w) A (pyNext (.ref I)) Q E s :=by
 obtain⟨o,ho,hc,jB⟩:=id hit;obtain⟨oa,va,GU,vb⟩:=hE.at_;unfold pyNext;refine ag (GE (tz (name:=wn "__next__") hit.typeIs cL (ut cL hit.typeIs j0 ?_ (j1 _))))
 unfold mf.«set_iterator.__next__»;refine ag (m:=slotArgs "__next__" 0 _) (bi ?_)
 dsimp only;refine ag (Op ho jB ?_);dsimp only;refine ag (SB va vb hE.fits ?_);simp only[bne_self_eq_false,l8,if_false,kw];have fin:∀r,r=some (x,next)->wpAny (model P w) A.in1 (match r with
    |some (x,next)=>do
     setField (l7 I) 0 (rawInt next)
     setField (l7 I) 1 (rawInt (↑i+1))
     ret x
    |none=>do
     setField (l7 I) 2 AM
     let __do_lift <- newExc (LP "StopIteration") []
     raiseNew __do_lift) (fun fin s'=>∃v,fin=Fin.done (Flow.ret v)/\wpAny (model P w) A (pure (some v)) Q E s') (fun e s'=>wpAny (model P w) A (do
     let __do_lift <- isInstance e (LP "StopIteration")
     if __do_lift=true then pure none else throw e) Q E s') s:=fun r hr=>by
  subst hr;dsimp only;refine ag (mP (by decide) hit ?_)
  have Nv:=hit.Nu (x:=rawInt next);refine ag (mP (by decide) Nv ?_)
  exact bi ⟨x,rfl,bi (hQ _ Nv.xH ((LH ..).trans (LH ..)))⟩
 exact ag (si hE hd (fun hb=>fin _ (h1 hb)) (fun hb=>fin _ (h2 hb)))
theorem Ki {I a:al}{slot i ep:Nat}{es:Array (Int×am)}{t:u7}{Q:Option am->ar->Prop}(hh:A.handled=none) (hit:fA s.heap I a (.int slot 0) i es.size ep) (hE:kG P w s.heap a es ep t)
  (hd:w.params.followText "set-order" = false->(!t.plain && decide (es.size > 1))=false)
  (h1:w.params.followText "set-order" = true->(pickOrder (w.params.setOrder a ep) es)[i]?.map (fun e=>(e.2,slot))=none)
  (h2:w.params.followText "set-order" = false->(match es[wP t.place slot]?,t.place[wP t.place slot]? with|some (_,x),some j=>some (x,j+1)|_,_=>none)=none)
  (hQ:∀h',(∀b o,b≠I->s.heap.get? b=some o->h'.get? b=some o)->Q none {s with heap:=h'}):wpAny (model P w) A (pyNext (.ref I)) Q E s :=by
 obtain⟨o,ho,hc,jB⟩:=id hit;obtain⟨oa,va,GU,vb⟩:=hE.at_;unfold pyNext;refine ag (GE (tz (name:=wn "__next__") hit.typeIs cL (ut cL hit.typeIs j0 ?_ (j1 _))))
 unfold mf.«set_iterator.__next__»;refine ag (m:=slotArgs "__next__" 0 _) (bi ?_)
 dsimp only;refine ag (Op ho jB ?_);dsimp only;refine ag (SB va vb hE.fits ?_);simp only[bne_self_eq_false,l8,if_false,kw];have fin:∀r:Option (am×Nat),r=none->wpAny (model P w) A.in1 (match r with
    |some (x,next)=>do
     setField (l7 I) 0 (rawInt next)
     setField (l7 I) 1 (rawInt (↑i+1))
     ret x
    |none=>do
     setField (l7 I) 2 AM
     let __do_lift <- newExc (LP "StopIteration") []
     raiseNew __do_lift) (fun fin s'=>∃v,fin=Fin.done (Flow.ret v)/\wpAny (model P w) A (pure (some v)) Q E s') (fun e s'=>wpAny (model P w) A (do
     let __do_lift <- isInstance e (LP "StopIteration")
     if __do_lift=true then pure none else throw e) Q E s') s:=fun r hr=>by
  subst hr;dsimp only;refine ag (mP (by decide) hit ?_)
  exact Al hh fun e h' _ k hT=>xI hT (hQ h' fun b o hb q=>k b o ((Cn _ _ (zn hb)).trans q))
 exact ag (si hE hd (fun hb=>fin _ (h1 hb)) (fun hb=>fin _ (h2 hb)))
theorem Kj {I a T:al}{i ep j:Nat}{es:Array (Int×am)}{t:u7}{ps:List Nat}{x:Int×am}{Q:Option am->ar->Prop}(hit:fA s.heap I a (.ref T) i es.size ep) (hE:kG P w s.heap a es ep t)
  (hT:s.heap.IsTuple T (ps.map fun (i:Nat)=>rawInt i).toArray) (hj:ps[i]?=some j) (hx:es[j]?=some x)
  (hQ:∀h',fA h' I a (.ref T) (i+1) es.size ep->rf I s.heap h'->Q (some x.2) {s with heap:=h'}):wpAny (model P w) A (pyNext (.ref I)) Q E s :=by
 obtain⟨o,ho,hc,jB⟩:=id hit;obtain⟨oa,va,GU,vb⟩:=hE.at_;unfold pyNext;refine ag (GE (tz (name:=wn "__next__") hit.typeIs cL (ut cL hit.typeIs j0 ?_ (j1 _))))
 unfold mf.«set_iterator.__next__»;refine ag (m:=slotArgs "__next__" 0 _) (bi ?_)
 dsimp only;refine ag (Op ho jB ?_);dsimp only;refine ag (SB va vb hE.fits ?_);simp only[bne_self_eq_false,l8,if_false,kw];obtain⟨ot,Nw,_,nt,qk⟩:=hT;refine ag (IS Nw qk ?_);have e:(ps.map fun (i:Nat)=>rawInt i).toArray[i]?=some (rawInt j) :=by simp[hj]
 dsimp only;rw[e];show wpAny _ _ (setNextDrawn a (Int.toNat (j:Int)) ep>>=_) _ _ s;rw[kw];refine ag ?_;unfold setNextDrawn;refine ag (WF va vb hE.fits ?_);simp only[bne_self_eq_false,l8,if_false,hx];refine bi ?_;refine ag (mP (by decide) hit ?_)
 exact bi ⟨x.2,rfl,bi (hQ _ hit.xH (LH ..))⟩
theorem Kk {I a T:al}{i ep:Nat}{es:Array (Int×am)}{t:u7}{ps:List Nat}{Q:Option am->ar->Prop}(hh:A.handled=none) (hit:fA s.heap I a (.ref T) i es.size ep) (hE:kG P w s.heap a es ep t)
  (hT:s.heap.IsTuple T (ps.map fun (i:Nat)=>rawInt i).toArray) (hj:ps.length<=i)
  (hQ:∀h',(∀b o,b≠I->s.heap.get? b=some o->h'.get? b=some o)->Q none {s with heap:=h'}):wpAny (model P w) A (pyNext (.ref I)) Q E s :=by
 obtain⟨o,ho,hc,jB⟩:=id hit;obtain⟨oa,va,GU,vb⟩:=hE.at_;unfold pyNext;refine ag (GE (tz (name:=wn "__next__") hit.typeIs cL (ut cL hit.typeIs j0 ?_ (j1 _))))
 unfold mf.«set_iterator.__next__»;refine ag (m:=slotArgs "__next__" 0 _) (bi ?_)
 dsimp only;refine ag (Op ho jB ?_);dsimp only;refine ag (SB va vb hE.fits ?_);simp only[bne_self_eq_false,l8,if_false,kw];obtain⟨ot,Nw,_,nt,qk⟩:=hT;refine ag (IS Nw qk ?_);have e:(ps.map fun (i:Nat)=>rawInt i).toArray[i]?=none :=by simp[hj]
 dsimp only;rw[e];dsimp only;refine ag (mP (by decide) hit ?_)
 refine ag (mP (by decide) (hit.Nu (x:=rawInt 0)) ?_)
 exact Al hh fun e h' _ k hT=>xI hT (hQ h' fun b o hb q=>k b o ((Cn _ _ (zn hb)).trans ((Cn _ _ (zn hb)).trans q)))
end
theorem fA.cE {h h':hX}{I a:al}{first:am}{i n ep:Nat}(x:fA h I a first i n ep) (k:∀o,h.get? I=some o->h'.get? I=some o):fA h' I a first i n ep:=let ⟨o,ho,r⟩:=x;⟨o,k o ho,r⟩
theorem kG.cE {P:en}{w:ii}{h h':hX}{a:al}{es:Array (Int×am)}{ep:Nat}{t:u7}(x:kG P w h a es ep t) (k:∀o,h.get? a=some o->h'.get? a=some o):kG P w h' a es ep t:=
 ⟨let ⟨o,ho,r⟩:=x.at_;⟨o,k o ho,r⟩,x.fits,x.tab⟩
theorem BG {xs:Array Nat}(h:mM xs) {i:Nat}(hi:i<xs.size):wP xs (xs[i]+1)=i+1 :=by
 obtain⟨b0,b1,b2⟩:=qM (xs[i]+1) h;generalize wP xs (xs[i]+1)=p at *
 have h1:i<p :=by
  refine Nat.lt_of_not_le fun hp=>?_
  have:=b2 i hi hp;omega
 refine Nat.le_antisymm (YB fun hp=>?_) h1
 have SE:i+1<xs.size :=by omega
 have q:=b1 (i+1) SE hp;have q2:=sd h (show i<i+1 by omega) SE
 omega
theorem BH {xs:Array Nat}(h:mM xs):wP xs 0=0 :=by
 obtain⟨b0,b1,b2⟩:=qM 0 h;generalize wP xs 0=p at *
 by_cases hp:p=0
 ·exact hp
 ·have:=b1 0 (by omega) (by omega)
  omega
section
variable {P:en}{w:ii}{A:l5}{E:am->ar->Prop}{s:ar}
theorem si_self {I a:al}{first:am}{i n ep:Nat}{Q:am->ar->Prop}(hit:fA s.heap I a first i n ep) (h:Q (.ref I) s):wpAny (model P w) A (pyIter (.ref I)) Q E s :=by
 refine Yn hit.typeIs sh (ut sh hit.typeIs BE ?_ (BF _));show wpAny _ _ (ret (.ref I)) _ _ s;exact bi ⟨_,rfl,"set_iterator",_,hit.typeIs,cL.lookup,h⟩
theorem xJ {es:List (Int×am)}(h:Za (intKind P w) es) {e:Int×am}(he:e∈es):∃t,e.2=.int (eG e) t :=by
 obtain⟨⟨k',kz,_⟩,_⟩:=h e he;obtain⟨t,e2⟩:=Yk (k:=k') (v:=e.2) kz;exact⟨t,by unfold eG;rw[e2]⟩
abbrev D0 (xs:List Int):Nat->am->Prop:=fun i v=>∃m t,xs[i]?=some m/\v=.int m t
def gp (w:ii) (a:al) (ep:Nat) (es:Array (Int×am)):List (Int×am):=if w.params.followText "set-order" = true then (pickOrder (w.params.setOrder a ep) es).toList else es.toList
theorem j4 (w:ii) (a:al) (ep:Nat) (es:Array (Int×am)):(gp w a ep es).Perm es.toList :=by
 unfold gp;split
 ·exact u9 _ _
 ·exact .refl _
theorem GV {I a:al}{es:Array (Int×am)}{ep:Nat}{t:u7}(hh:A.handled=none) (eR:a≠I) (fP:Za (intKind P w) es.toList) (hd:w.params.followText "set-order" = false->(!t.plain && decide (es.size > 1))=false) :
  WalksS P w A I [I,a] [I] (fun a b=>b=a) ((gp w a ep es).map eG).length (D0 ((gp w a ep es).map eG))
   (fun i s=>kG P w s.heap a es ep t/\∃slot:Nat,fA s.heap I a (.int slot 0) i es.size ep/\(w.params.followText "set-order" = false->wP t.place slot=i)) where
 sub:=fun b hb=>by simp at hb;simp[hb]
 grefl:=fun _=>rfl
 gtrans:=fun _ _ _ h1 h2=>h2.trans h1
 frame:=fun i s h' _ st _ hk=>⟨st.1.cE fun o e=>hk a (by simp) o e,let ⟨slot,h1,h2⟩:=st.2;⟨slot,h1.cE fun o e=>hk I (by simp) o e,h2⟩⟩
 item:=fun i s Q E hi st hQ=>by
  obtain⟨hE,slot,hit,hb⟩:=st;have hl:i<(gp w a ep es).length :=by simpa using hi
  have xF:i<es.size :=by rw[<- ww,<- (j4 w a ep es).length_eq];exact hl
  obtain⟨tk,he⟩:=xJ (P:=P) (w:=w) fP ((j4 w a ep es).mem_iff.mp (wT hl));have cF:i<t.place.size :=by
   have:=hE.fits;simp only[u7.fits,Me,beq_iff_eq]at this;rw[this.1];exact xF
  refine Kh (next:=if w.params.followText "set-order" = true then slot else t.place[i]+1) (x:=((gp w a ep es)[i]).2) hit hE hd (fun ip=>?_) (fun ip=>?_) (fun h' GW hs=>hQ _ _ ⟨_,tk,by rw[bv,ap hl];rfl,he⟩ ⟨hE.cE fun o e=>by rw[hs.2 a eR];exact e,_,GW,fun ip=>?_⟩ ⟨fun b o hb e=>by rw[hs.2 b (fun z=>hb (by simp[z]))];exact e,rfl,rfl,rfl,cb _⟩)
  ·rw[if_pos ip];have e1:gp w a ep es=(pickOrder (w.params.setOrder a ep) es).toList :=by unfold gp;rw[if_pos ip]
   have e2:(pickOrder (w.params.setOrder a ep) es)[i]?=some (gp w a ep es)[i] :=by
    rw[<- MW,<- e1];exact ap hl
   rw[e2];rfl
  ·rw[if_neg (by rw[ip];decide),hb ip,xL xF,xL cF]
   have e1:gp w a ep es=es.toList :=by unfold gp;rw[if_neg (by rw[ip];decide)]
   have e2:(gp w a ep es)[i]=es[i] :=by simp[e1]
   rw[e2]
  ·rw[if_neg (by rw[ip];decide)]
   exact BG hE.tab.ris cF
 done:=fun s Q E st hQ=>by
  obtain⟨hE,slot,hit,hb⟩:=st;have hl:((gp w a ep es).map eG).length=es.size :=by rw[ca,(j4 w a ep es).length_eq,ww]
  rw[hl]at hit hb;refine Ki hh hit hE hd (fun ip=>?_) (fun ip=>?_) (fun h' k=>hQ _ ⟨fun b o hb e=>k b o (fun z=>hb (by simp[z])) e,rfl,rfl,rfl,cb _⟩)
  ·have e1:(pickOrder (w.params.setOrder a ep) es)[es.size]?=none :=by
    refine UV ?_;rw[<- ww,(u9 _ es).length_eq,ww];exact cb _
   rw[e1];rfl
  ·rw[hb ip,UV (cb _)]
 self:=fun i s Q E st hQ=>let ⟨_,slot,hit,_⟩:=st;si_self hit hQ
theorem BI {I a T:al}{es:Array (Int×am)}{ep:Nat}{t:u7}{ps:List Nat}(hh:A.handled=none) (eR:a≠I) (Uq:T≠I) (fP:Za (intKind P w) es.toList) (D1:∀j∈ps,j<es.size) (cF:ps.length=es.size) :
  WalksS P w A I [I,a,T] [I] (fun a b=>b=a) (ps.map fun j=>eG (es.getD j (0,.none))).length (D0 (ps.map fun j=>eG (es.getD j (0,.none))))
   (fun i s=>kG P w s.heap a es ep t/\s.heap.IsTuple T (ps.map fun (i:Nat)=>rawInt i).toArray/\fA s.heap I a (.ref T) i es.size ep) where
 sub:=fun b hb=>by simp at hb;simp[hb]
 grefl:=fun _=>rfl
 gtrans:=fun _ _ _ h1 h2=>h2.trans h1
 frame:=fun i s h' _ st _ hk=>⟨st.1.cE fun o e=>hk a (by simp) o e,st.2.1.at fun o e=>hk T (by simp) o e,st.2.2.cE fun o e=>hk I (by simp) o e⟩
 item:=fun i s Q E hi st hQ=>by
  obtain⟨hE,hT,hit⟩:=st;have hl:i<ps.length :=by simpa using hi
  have hj:=D1 _ (wT hl);have hx:es[ps[i]]?=some es[ps[i]]:=xL hj;have hg:es.getD ps[i] (0,.none)=es[ps[i]] :=by simp[Z6,hj]
  obtain⟨tk,he⟩:=xJ (P:=P) (w:=w) fP (show es[ps[i]]∈es.toList by simp)
  refine Kj hit hE hT (ap hl) hx fun h' GW hs=>hQ _ _ ⟨_,tk,by rw[bv,ap hl];rfl,by dsimp only;rw[hg];exact he⟩ ⟨hE.cE fun o e=>by rw[hs.2 a eR];exact e,hT.at fun o e=>by rw[hs.2 T Uq];exact e,GW⟩ ⟨fun b o hb e=>by rw[hs.2 b (fun z=>hb (by simp[z]))];exact e,rfl,rfl,rfl,cb _⟩
 done:=fun s Q E st hQ=>by
  obtain⟨hE,hT,hit⟩:=st;have hl:(ps.map fun j=>eG (es.getD j (0,.none))).length=ps.length:=ca _
  rw[hl]at hit;exact Kk hh hit hE hT (cb _) fun h' k=>hQ _ ⟨fun b o hb e=>k b o (fun z=>hb (by simp[z])) e,rfl,rfl,rfl,cb _⟩
 self:=fun i s Q E st hQ=>si_self st.2.2 hQ
theorem BJ {a:al}{ns:List Int}{Q:am->ar->Prop}(hS:cm P w s.heap a ns)
  (hQ:∀(I:al) (h':hX) (d':Drawn) (xs:List Int) (fp:List al) (St:Nat->ar->Prop),xs.Perm ns->(∀b o,s.heap.get? b=some o->h'.get? b=some o)->s.heap.objs.size<=I->(∀b∈fp,b=a\/s.heap.objs.size<=b)->
   (∀A':l5,A'.handled=none->WalksS P w A' I fp [I] (fun a b=>b=a) xs.length (D0 xs) St)->St 0 {s with heap:=h',drawn:=d'}->Q (.ref I) {s with heap:=h',drawn:=d'}):wpAny (model P w) A (pyIter (.ref a)) Q E s :=by
 have SF:=hS.typeIs (h:=s.heap);obtain⟨o,es,ep,t,ho,hex,hd,fP,hp,hn,hb,hf,ht⟩:=hS;have hE:kG P w s.heap a es ep t:=⟨⟨o,ho,hex,hd⟩,hf,ht⟩;have aQ:=ff ho;refine Yn SF F.slot_set_iter (ut F.slot_set_iter SF zA ?_ (F.args_set_iter_1 _));unfold mf.«frozenset.__iter__»;refine ag (m:=mf.Frozenset.slot0 "__iter__" _) (bi ?_)
 unfold mf.Frozenset.sizeOf;refine ag (ag (SB ho hd hf (bi ?_)));refine ag ?_;unfold setDrawn;refine ag (WF ho hd hf ?_);dsimp only;refine ag (oA ?_);refine bi ?_;by_cases vc:(!w.params.followText "set-order" && (!t.plain && decide (es.size > 1)))=true
 ·show wpAny _ _ (if (!w.params.followText "set-order" && (!t.plain && decide (es.size > 1)))=true then _ else _) _ _ s
  rw[if_pos vc];refine ag (oz _ _ (by simp) fun ps d D1=>?_)
  have cF:ps.length=es.size :=by rw[D1.length_eq,EM]
  refine ag (Zd ?_ (by rw[ca,cF];exact Zu hb))
  refine ag (wpAny_setEpoch_of (o:=o) (ba _ ho) hd hf ?_);unfold newFields;refine ag (tw ?_ (by size_fits))
  have hsz:∀u:i8,(s.heap.push u).objs.size=s.heap.objs.size+1:=fun u=>wE _ _
  have hit:fA ((s.heap.push {cls:=.type "tuple",data:=.seq (ps.map fun (i:Nat)=>rawInt i).toArray}).push {cls:=.type "set_iterator",data:=.fields #[.ref s.heap.objs.size,.int (0:Nat) 0,.ref a,.int es.size 0,.int ep 0]}) (s.heap.push {cls:=.type "tuple",data:=.seq (ps.map fun (i:Nat)=>rawInt i).toArray}).objs.size a (.ref s.heap.objs.size) 0 es.size ep:=⟨_,ci _ rfl,rfl,rfl⟩
  have Vx:(ps.map fun j=>eG (es.getD j (0,.none))).Perm ns :=by
   refine((D1.map _).trans ?_).trans hp;have:(io es.size).map (fun j=>eG (es.getD j (0,.none)))=es.toList.map eG :=by
    refine YD (by simp) fun n h1 h2=>?_
    have C8:n<es.size :=by simpa using h1
    simp[Z6,C8]
   rw[this]
  refine bi ⟨_,rfl,"set_iterator",_,fA.typeIs (s:={s with heap:=_,drawn:=d}) hit,cL.lookup,?_⟩
  refine hQ _ _ d _ [(s.heap.push {cls:=.type "tuple",data:=.seq (ps.map fun (i:Nat)=>rawInt i).toArray}).objs.size,a,s.heap.objs.size] _ Vx (fun b o e=>ba _ (ba _ e)) (by rw[hsz];exact Co _) (fun b hb=>?_) (fun A' hA=>BI (t:=t) (ep:=ep) hA ?_ ?_ fP (fun j hj=>by simpa using D1.mem_iff.mp hj) cF) ⟨hE.cE fun o e=>ba _ (ba _ e),⟨_,ba _ (ci _ rfl),rfl,_,rfl⟩,hit⟩
  ·simp only[im,zd,or_false]at hb;rcases hb with rfl|rfl|rfl
   ·exact .inr (by rw[hsz];exact Co _)
   ·exact .inl rfl
   ·exact .inr (cb _)
  ·rw[hsz];exact i4 (AE aQ)
  ·rw[hsz];exact i4 (Da _)
 ·show wpAny _ _ (if (!w.params.followText "set-order" && (!t.plain && decide (es.size > 1)))=true then _ else _) _ _ s
  rw[if_neg vc];refine ag (bi (ag (wpAny_setEpoch_of ho hd hf ?_)));unfold newFields;refine ag (tw ?_ (by size_fits))
  have hit:fA (s.heap.push {cls:=.type "set_iterator",data:=.fields #[.int (0:Nat) 0,.int (0:Nat) 0,.ref a,.int es.size 0,.int ep 0]}) s.heap.objs.size a (.int (0:Nat) 0) 0 es.size ep:=⟨_,ci _ rfl,rfl,rfl⟩
  refine bi ⟨_,rfl,"set_iterator",_,fA.typeIs (s:={s with heap:=_}) hit,cL.lookup,?_⟩
  refine hQ _ _ s.drawn _ [s.heap.objs.size,a] _ (((j4 w a ep es).map eG).trans hp) (fun b o e=>ba _ e) (cb _) (fun b hb=>?_) (fun A' hA=>GV (t:=t) (ep:=ep) hA (i4 aQ) fP fun hb=>?_) ⟨hE.cE fun o e=>ba _ e,0,hit,fun _=>BH ht.ris⟩
  ·simp only[im,zd,or_false]at hb;rcases hb with rfl|rfl
   ·exact .inr (cb _)
   ·exact .inl rfl
  ·rw[hb]at vc;simpa using vc
theorem zB {a:al}{Q:Bool->ar->Prop}(hT:s.TypeIs (.ref a) "set") (h:Q false s):wpAny (model P w) A (mf.List.listLengthHint (.ref a)) Q E s :=by
 unfold mf.List.listLengthHint;refine ag (wpAny_specialOf hT F.slot_set_len.lookup ?_);have e:splitId "set.__len__" = some ("set","__len__") :=by kernel_rfl
 dsimp only;rw[e];dsimp only;refine ag (Sk hT sub_set_self ?_);simp only[Yy,l8,if_false];show wpAny _ _ (if _=true then _ else _) _ _ s
 rw[if_pos (by kernel_rfl)]
 exact ag (ZG hT (bi h))
theorem ints_of {xs:List Int}{acc:Array am}(h:ItemsOf (D0 xs) acc xs.length):WP acc.toList xs :=by
 obtain⟨hs,hi⟩:=h;have:∀(vs:List am) (xs:List Int),vs.length=xs.length->(∀(j:Nat) (v:am),vs[j]?=some v->D0 xs j v)->WP vs xs :=by
  intro vs;induction vs with
  |nil=>intro xs hl _;cases xs with|nil=>exact .nil|cons x xs=>simp at hl
  |cons v vs ih=>
   intro xs hl hg;cases xs with
   |nil=>simp at hl
   |cons x xs=>
    obtain⟨m,t,e1,rfl⟩:=hg 0 v rfl;have e2:x=m :=by simpa using e1
    subst e2;refine .cons _ _ (ih xs (by simpa using hl) fun j u hu=>?_)
    obtain⟨m',t',e3,e4⟩:=hg (j+1) u (by simpa using hu)
    exact⟨m',t',by simpa using e3,e4⟩
 exact this acc.toList xs (by simpa using hs) fun j v hv=>hi j v (by rw[<- MW];exact hv)
theorem zD {a:al}{ns:List Int}{QL:List am->ar->Prop}(hh:A.handled=none) (hS:cm P w s.heap a ns) (hz:ns.length<=sizeLine)
  (hQ:∀us xs h' d' tk,WP us xs->xs.Perm ns->(∀b o,s.heap.get? b=some o->h'.get? b=some o)->QL us {s with heap:=h',drawn:=d',toks:=tk}):wpAny (model P w) A (collect (.ref a)) QL E s :=by
 have aQ:a<s.heap.objs.size:=let ⟨_,_,_,_,ho,_⟩:=hS;ff ho;have SG:s.heap.objs.size≠a:=Gc aQ;unfold collect;refine ag (Zc (Cf YG ?_));rw[ze YH _];show wpAny _ A.in1 (newList []>>=fun l=>again (.builtin "list.__iadd__" ⟨[l,.ref a],[]⟩)) _ _ s
 refine ag (tw ?_);refine bi ⟨Mc Pf _,Cf Zw ?_⟩;rw[ze Pf _];have DW:cm P w (s.heap.push {cls:=.type "list",data:=.seq ([]:List am).toArray}) a ns:=hS.cE fun o e=>ba _ e
 have T1:X6 {s with heap:=s.heap.push {cls:=.type "list",data:=.seq ([]:List am).toArray}} (.ref a) "set" := cm.typeIs (P:=P) (w:=w) (h:=s.heap) (s:={s with heap:=_}) DW
 show wpAny _ A.in1 (LB (.ref s.heap.objs.size) (.ref a) (.ref s.heap.objs.size)) _ _ _;unfold LB;refine ag (ZG T1 ?_);have h1:mf.List.listSameRef (.ref s.heap.objs.size) (.ref a)=false :=by simp[mf.List.listSameRef,SG]
 have h2:(LP "set" == LP "list")=false :=by decide
 have h3:(LP "set" == LP "tuple")=false :=by decide
 simp only[h1,h2,h3,Bool.or_false,l8,if_false];refine ag (BJ (s:={s with heap:=s.heap.push {cls:=.type "list",data:=.seq ([]:List am).toArray}}) DW ?_)
 intro I h' d' xs fp St hp hk hI Vy hW fM;have T2:X6 {s with heap:=h',drawn:=d'} (.ref a) "set" := cm.typeIs (P:=P) (w:=w) (h:=s.heap) (s:={s with heap:=_,drawn:=d'}) (DW.cE fun o e=>hk a o e)
 refine ag (EO (zB T2 ?_));show wpAny _ A.in1 (if _=true then _ else _) _ _ _
 rw[if_pos (by kernel_rfl)]
 show wpAny _ A.in1 (rule "list.extend.makes-room" >>= fun _=>mf.List.listTouch (.ref s.heap.objs.size)>>=fun _=>
  again (.builtin "list.extend.loop" ⟨[.ref s.heap.objs.size,.ref I,.ref s.heap.objs.size],[]⟩)) _ _ _
 refine ag (LS ?_);have II:h'.get? s.heap.objs.size=some {cls:=.type "list",data:=.seq ([]:List am).toArray}:=hk _ _ (ci _ rfl)
 refine ag ?_;show wpAny _ A.in1 (updateSeq s.heap.objs.size (·.push .none)>>=fun _=>updateSeq s.heap.objs.size (·.pop)) _ _ _
 refine ag (wpAny_updateSeq II rfl ?_);have IJ:=ID (Tl (·.push AM)) II rfl;refine wpAny_updateSeq IJ rfl ?_;have Q8:=ID (Tl (·.pop)) IJ rfl;have SH:∀b o,b≠s.heap.objs.size->h'.get? b=some o->((h'.update s.heap.objs.size (Tl (·.push AM))).update s.heap.objs.size (Tl (·.pop))).get? b=some o:=
  fun b o hb e=>(Cn _ _ (zn hb)).trans ((Cn _ _ (zn hb)).trans e)
 have Nx:(s.heap.push {cls:=.type "list",data:=.seq ([]:List am).toArray}).objs.size=s.heap.objs.size+1:=wE _ _
 have xE:s.heap.objs.size ∉ fp:=fun hm=>by
  rcases Vy _ hm with z|z
  ·exact SG z
  ·have z':s.heap.objs.size+1<=s.heap.objs.size :=by rw[<- Nx];exact z
   exact absurd z' (Nat.not_succ_le_self _)
 have W:=hW A.in1.in1 (by simp[hh])
 have hl:xs.length<=sizeLine :=by rw[hp.length_eq];exact hz
 refine bi ⟨Mc F.plain_extend_loop _,codeAny_extend_loopS (W.of_in1) hl _ xE _ xs.length 0 _ _ _ rfl (wp _) (W.frame 0 ({s with heap:=h',drawn:=d'}:ar) _ s.toks fM (cb _) fun b hb o e=>SH b o (fun h=>xE (h▸hb)) e) Q8 (ItemsOf.nil _) fun s' fK c' hm jD eV=>?_⟩
 show wpAny _ A (load s.heap.objs.size>>=_) _ _ s';refine ag (Z2 jD ?_);refine bi ?_;obtain⟨h2,g2,d2,Vz,os2⟩:=s';have eg:g2=s.gens:=hm.gens;have ed:d2=d':=hm.drawn;have eo:os2=s.os:=hm.os;subst eg;subst ed;subst eo;refine hQ _ xs h2 _ Vz (ints_of eV) hp fun b o e=>hm.heap b o ?_ (SH b o (i4 (ff e)) (hk b o (ba _ e)))
 have hb:b<s.heap.objs.size:=ff e;simp only[im,zd,or_false,not_or];refine⟨i4 hb,fun z=>?_⟩
 have z':s.heap.objs.size+1<=b :=by rw[<- Nx,z];exact hI
 exact absurd (lc (AE hb) z') (FS _)
end
def sortI (ns:List Int):List Int:=ns.mergeSort fun a b=>decide (a<=b)
theorem sortI_perm (ns:List Int):(sortI ns).Perm ns:=List.mergeSort_perm _ _
theorem xK (ns:List Int):(sortI ns).Pairwise (·<=·) :=by
 have:=List.pairwise_mergeSort (le:=fun a b:Int=>decide (a<=b)) (fun a b c h1 h2=>by simp only[decide_eq_true_eq]at *;omega) (fun a b=>by simp only[ZQ,decide_eq_true_eq];omega) ns
 exact this.imp fun h=>by simpa using h
theorem zE {a b:List Int}(p:a.Perm b) (ha:a.Pairwise (·<=·)) (hb:b.Pairwise (·<=·)):a=b:=Ye.eq_of_pairwise (le:=(·<=·)) (fun x y _ _ h1 h2=>Int.le_antisymm h1 h2) ha hb p
theorem GX {ms ns:List Int}(p:ms.Perm ns) (h:ms.Pairwise (·<=·)):ms=sortI ns:=zE (p.trans (sortI_perm ns).symm) h (xK ns)
theorem BK:∀{ns:List Int}{us:List am},Vals (ns.map V.int) us->WP us ns
 | [],_,.nil=>.nil
 |n::ns,_,.cons r t=>by
          obtain⟨k,rfl⟩:=r;exact .cons _ _ (BK t)
theorem oB:∀{ns:List Int}{us:List am},WP us ns->Vals (ns.map V.int) us
 |_,_,.nil=>.nil
 |_,_,.cons n t r=>.cons ⟨t,rfl⟩ (oB r)
section
variable {P:en}{w:ii}{A:l5}{E:am->ar->Prop}{s:ar}
theorem ql {T:String}{l:al}{vs:List am}{Q:List am->ar->Prop}{o:i8}{n:Nat}(ho:s.heap.get? l=some o) (hc:o.cls=.type T) (hd:o.data=.seq vs.toArray n) (hT:T = "list" \/ T = "tuple")
  (h:∀h',(∀b o,s.heap.get? b=some o->h'.get? b=some o)->Q vs {s with heap:=h'}) (hsz:vs.length<=sizeLine):wpAny (model P w) A (collect (.ref l)) Q E s :=by
 unfold collect;refine ag (Zc (Cf YG ?_));rw[ze YH _];show wpAny _ A.in1 (newList []>>=fun l'=>again (.builtin "list.__iadd__" ⟨[l',.ref l],[]⟩)) _ _ s
 refine ag (wpAny_newList (bi ⟨Mc Pf _,Cf Zw ?_⟩));rw[ze Pf _];show wpAny _ A.in1 (LB (.ref s.heap.objs.size) (.ref l) (.ref s.heap.objs.size)) _ _ {s with heap:=s.heap.push (seqObj "list" #[] 0)}
 unfold LB;have i6:(s.heap.push (seqObj "list" #[] 0)).get? l=some o:=ba _ ho
 refine ag (ZG (T:=T) ⟨o,i6,hc⟩ ?_);rw[if_pos (by rcases hT with rfl|rfl<;>simp)]
 refine ag (listItems_at i6 hd ?_);refine ag (listItems_at (xs:=#[]) (n:=0) (ci _ rfl) rfl ?_);rw[if_neg (by simp)]
 refine ag (listUpdate_at (xs:=#[]) (n:=0) (ci _ rfl) rfl ?_ (wp _) (by show (#[]++vs.toArray).size<=sizeLine+1;simp only[Array.size_append,f8,NE];omega))
 refine bi ?_;show wpAny (model P w) A (load s.heap.objs.size>>=_) Q E _;refine ag (Z2 (get?_update_seq (ci _ rfl) _) ?_);show wpAny _ _ (pure ((#[]:Array am)++vs.toArray).toList) Q E _;rw[show ((#[]:Array am)++vs.toArray).toList=vs by simp]
 exact bi (h _ fun b o e=>(Cn _ _ (Gc (ff e))).trans (ba _ e))
theorem BL {a:am}{ns:List Int}{Q:am->ar->Prop}(Ur:∀QL:List am->ar->Prop,(∀us xs h' d' tk,WP us xs->xs.Perm ns->(∀b o,s.heap.get? b=some o->h'.get? b=some o)->QL us {s with heap:=h',drawn:=d',toks:=tk})->wpAny (model P w) A.in1 (collect a) QL E s) (Ny:ns.length<64)
  (h:∀(h1 h':hX) d' tk (us:List am) e,WP us (sortI ns)->(∀b o,s.heap.get? b=some o->h1.get? b=some o)->(∀b o,h1.get? b=some o->h'.get? b=some o)->h'.get? h1.objs.size=some {cls:=.type "list",data:=.seq us.toArray e}->Q (.ref h1.objs.size) {s with heap:=h',drawn:=d',toks:=tk}) :
  wpAny (model P w) A (call (.builtin "sorted") [a]) Q E s :=by
 refine Calls.call_function_entry kind_sorted plain_sorted entry_sorted (args_sorted1 _) ?_;unfold mf.«sorted»;refine ag (m:=checkCount "sorted" 1 1 _) (bi ?_)
 refine ag (Ur _ fun us xs h' d' tk hI hp hk=>?_)
 have Nz:us.length<64 :=by
  have:us.length=xs.length:=(oB hI).length.symm.trans (ca _);rw[this,hp.length_eq];exact Ny
 refine ag (wpAny_newList ?_ (hsz:=sw (OL Nz) (by decide)))
 have C9:(h'.push (seqObj "list" us.toArray 0)).get? h'.objs.size=some (seqObj "list" us.toArray 0):=ci _ rfl
 refine ag (EO (ut slot_list_sort ⟨_,C9,rfl⟩ entry_list_sort (list_sort_tree C9 hI Nz fun out XE a1 a2 a3=>⟨_,rfl,?_⟩) (args_list_sort _)))
 refine bi ⟨_,rfl,?_⟩;obtain⟨e,he⟩:=sortedHeap_at (out:=out) C9;refine h h' _ d' tk out.toList e (by rw[<- GX (a2.trans hp) a3];exact a1) hk (fun b o hb=>?_) (by simpa using he)
 have aQ:=ff hb;rw[sortedHeap_old (i4 aQ) (by rw[wE];exact AE aQ)]
 exact ba _ hb
end
theorem sj {P:en}{w:ii}{h:hX}{a:al}{ns:List Int}(x:cm P w h a ns):∃o,h.get? a=some o:=let ⟨o,_,_,_,e,_⟩:=x;⟨o,e⟩
theorem tS {P:en}{w:ii}{H:Hp}{h:hX}{a:al}{ns:List Int}(x:cm P w h a ns):ObjOk P w H h a (fW P w a ns):=⟨x,sj x,fun h1 h2 y k=>y.cE k⟩
theorem Am {X:Cx}{pins:List (al×i8)}{σ:St}{H:Hp}{s:ar}{a:al}{ns:List Int}(I:Inv X pins σ H s) (h:H a=some (fW X.prog X.w a ns)):cm X.prog X.w s.heap a ns:=(I.hok a _ h).1
section
variable {P:en}{w:ii}{A:l5}{E:am->ar->Prop}{s:ar}
theorem Km {Q:am->ar->Prop}(h:Q (.ref s.heap.objs.size) {s with heap:=s.heap.push (gX w)}):wpAny (model P w) A (newSet (.type "set")) Q E s :=by
 unfold newSet setsByText;refine ag (ag (RI (bi ?_)));dsimp only;simp only[newObj];exact ag (wpAny_alloc (bi h))
theorem D2 {a:al}{ns:List Int}{m:Int}{tk:Y1}{Q:am->ar->Prop}(hS:cm P w s.heap a ns) (jx:ns.length+1<scanBound)
  (h:∀h' DY,rf a s.heap h'->cm P w h' a (c7 ns m)->Q .none {s with heap:=h',toks:=DY}):wpAny (model P w) A (call (.builtin "set.add") [.ref a,.int m tk]) Q E s :=by
 refine ut F.slot_set_add (cm.typeIs (h:=s.heap) hS) F.entry_set_add ?_ (F.args_set_add_2 _ _);unfold mf.«set.add» mf.Frozenset.oneOther;simp only[List.isEmpty_nil,bind_assoc];unfold mf.Frozenset.addrOf;refine ag (bi ?_);try dsimp only
 refine ag (bi ?_);try dsimp only
 refine ag (u6 hS jx fun h' iJ jD=>?_)
 show wpAny _ _ (ret AM) _ _ _;exact bi ⟨_,rfl,h h' _ iJ jD⟩
theorem GY (elt tg iter:db) (ifs:List db) (scope:ul) (pos:u4) (it acc:am) (env:Lo) :
  compTurn (.SetComp elt [⟨tg,iter,ifs,0⟩] scope pos) 0 it acc env=turnB (.SetComp elt [⟨tg,iter,ifs,0⟩] scope pos) tg iter ifs 0 it acc env (eval elt env>>=fun v=>standAt elt.pos>>=fun _=>call (.builtin "set.add") [acc,v]>>=fun _=>pure ()) :=by
 rfl
end
section
variable {X:Cx}
def sk (X:Cx) (J:It) (g:TG) (tt:TT) (te:TE) (D:al) (Q:VK) (W:Nat->Nat->St->Hp->Prop):Prop:=∀i m τ H,W i m τ H->
 (J.stop i H/\Q (.ref D) H)\/(J.go i H/\∀x H',J.yld i H x H'->g x τ H' fun az H2=>tt az H2 fun b H3=>if b=true then te az H3 fun y H4=>∃k ns m',y=.int k/\H4 D=some (fW X.prog X.w D ns)/\ns.length+1<scanBound/\m'<m/\W (i+1) m' az (upd H4 D (fW X.prog X.w D (c7 ns k))) else ∃m',m'<m/\W (i+1) m' az H3)
def D3 (X:Cx) (tn:Nat) (idx:List Nat) (wi:TI) (g:TG) (tt:TT) (te:TE):TE:=fun σ H Q=>wi σ H fun J H1=>∀D,H1 D=none->∃W:Nat->Nat->St->Hp->Prop,(∃m,W 0 m (bB tn idx σ) (upd H1 D (fW X.prog X.w D [])))/\sk X J g tt te D Q W
def xM (X:Cx) (D:al) (te:TE):TB:=fun τ H Q=>te τ H fun y H4=>∃k ns,y=.int k/\H4 D=some (fW X.prog X.w D ns)/\ns.length+1<scanBound/\Q τ (upd H4 D (fW X.prog X.w D (c7 ns k)))
theorem zF {J:It}{g:TG}{tt:TT}{te:TE}{D:al}{Q:VK}{W:Nat->Nat->St->Hp->Prop}(h:sk X J g tt te D Q W):tLoop J g tt (xM X D te) (fun _ H=>Q (.ref D) H) W :=by
 simp only[sk,exists_and_left]at h;simp only[tLoop,xM,exists_and_left];exact h
theorem Kn {Y:Cx}{elt:db}{te:TE}{D:al}(hp:Y.prog=X.prog) (hw:Y.w=X.w) (h:PE Y elt te):PB Y (eval elt Y.env>>=fun v=>standAt elt.pos>>=fun _=>call (.builtin "set.add") [.ref D,v]>>=fun _=>pure ()) (xM X D te) :=by
 intro pins s τ H Q I q;refine ag (l6 (h pins s τ H _ I q) (fun yv s8 ⟨y,H8,I8,r8,q8⟩=>?_) fun _ _ z=>z)
 obtain⟨m,ns,ey,hD,hsz,w8⟩:=q8;subst ey;obtain⟨tk,rfl⟩:=r8;rw[<- hp,<- hw]at hD w8;refine ag (EQ (ag (D2 (Am (X:=Y) I8 hD) hsz fun h' DY iJ hM=>?_)))
 have I9:=I8.write (x:=D) (e:=D) (t':=DY) (by rw[hD];exact trivial) (.inl rfl) (fun b u hb hu=>(iJ.2 b hb).trans hu) (sj hM) (tS hM)
 exact bi ⟨τ,_,I9,w8⟩
theorem BM {pins:List (al×i8)}{σ:St}{H2:Hp}{s2:ar}{tg elt iter:db}{ifs:List db}{scope:ul}{pos:u4}{N':List br}{tn:Nat}{idx:List Nat}{g:TG}{tt:TT}{te:TE}{it:al}{fp:List al}{bY:Nat->hX->Prop}{J:It}
  {cl:List (br×al)} {E:am->ar->Prop} {RR:am->al->Zh->ar->Prop} {Q:VK}
  (hc:X.calm=true) (B:aD X.N X.env.scope scope N' tn idx)
  (hg:Blk X N' scope fun Y=>PG Y tg g) (ht:Blk X N' scope fun Y=>iF Y ifs tt) (he:Blk X N' scope fun Y=>PE Y elt te)
  (I:Inv X pins σ H2 s2) (T:Turn X.prog X.w X.K tg J fp it bY) (st:bY 0 s2.heap) (f2:∀b∈fp,cK X pins H2 b)
  (cA:∀n c,cl.lookup n=some c->X.env.cells.lookup n=some c) (dN:∀n,(n,qr)∈scope.names->∃c,cl.lookup n=some c)
  (hq:∀D,H2 D=none->∃W:Nat->Nat->St->Hp->Prop,(∃m,W 0 m (bB tn idx σ) (upd H2 D (fW X.prog X.w D [])))/\sk X J g tt te D Q W)
  (rT:∀D C m s' H',Inv X pins σ H' s'->cK X pins H' C->s'.heap.Ns C m->Q (.ref D) H'->RR (.ref D) C (.ok .next) s') :
  wpAny (model X.prog X.w) X.A (newSet (.type "set")) (fun acc jS=>wpAny (model X.prog X.w) X.A (newFunctionEnv scope X.env.globals cl [] X.env.qual none .none (some X.env)) (fun iG ng=>
   codeAny (model X.prog X.w) X.A (.compStart (.SetComp elt [⟨tg,iter,ifs,0⟩] scope pos) 0 (.ref it) acc {iG with scope:=relabel scope X.env}) (RR acc iG.locals) ng) E jS) E s2 :=by
 obtain⟨b1,b2,b3,b4⟩:=id B;refine Km (YO (fun y hy=>(b2 y hy).1) (by intro y hy;simp at hy) (fun dn iH iI=>?_) b1)
 dsimp only at iH iI ⊢;generalize hG:s2.heap.push (gX X.w)=G at iH iI ⊢
 have hC:G.objs.size=s2.heap.objs.size+1 :=by rw[<- hG,wE]
 have xf:s2.heap.objs.size≠G.objs.size :=by rw[hC];exact i4 (Da _)
 have jg:s2.heap.objs.size<=G.objs.size :=by rw[hC];exact Co _
 have below:∀b,b<s2.heap.objs.size->b≠G.objs.size:=fun b hb=>by rw[hC];exact i4 (AE hb)
 have old:∀b o,s2.heap.get? b=some o->dn.get? b=some o:=fun b o e=>iI.extBut b o (below b (ff e)) (ba _ (hG▸ba _ e))
 have DK:cm X.prog X.w dn s2.heap.objs.size [] :=by
  have q:cm X.prog X.w G s2.heap.objs.size []:=hG▸Ai;exact q.cE fun o e=>iI.extBut _ _ xf (ba _ e)
 have uY:H2 s2.heap.objs.size=none:=I.hok.fresh (cb _);have rP:upd H2 s2.heap.objs.size (fW X.prog X.w s2.heap.objs.size []) G.objs.size=none :=by rw[ah (zn xf)];exact I.hok.fresh jg
 have xg:c0 X.prog X.w (upd H2 s2.heap.objs.size (fW X.prog X.w s2.heap.objs.size [])) dn:=I.hok.laid old (cb _) (tS DK);have jW:∀b∈fp,b<s2.heap.objs.size:=fun b hb=>let ⟨o,e,_⟩:=T.obj _ _ st b hb;ff e
 obtain⟨W,⟨m0,w0⟩,turn⟩:=hq s2.heap.objs.size uY;have I1:Inv (rR X N' scope cl G.objs.size s2 H2 fp) [] (bB tn idx σ) (upd H2 s2.heap.objs.size (fW X.prog X.w s2.heap.objs.size [])) {s2 with heap:=dn,toks:=s2.toks+([]:List (br×am)).length}:=by
  refine oo (g':=s2.gens) (m0:=fun x=>([]:List (br×am)).reverse.lookup x) I b1 rfl rfl cA (fun x hx=>?_) (fun z=>I.ok.hd z) I.ok.frames (.inl rfl) jg f2 jW (Un.laid old (cb _) uY) xg rP old iH (fun i x v e1 e2 e3=>?_) (B.len σ) I.bare.self
  ·have i7:(relabel scope X.env).names.lookup x=some .cell\/(relabel scope X.env).names.lookup x=some .free:=hx;rw[dX]at i7;cases q:scope.names.lookup x with
   |none=>rw[q]at i7;rcases i7 with z|z<;>cases z
   |some k0=>
    have hm:=sK q;rw[q]at i7;by_cases hk:k0=.free
    ·subst hk;exact dN x hm
    ·have nk:(k0==qr)=false :=by simpa using hk
     have nc:=(b2 _ hm).1;simp only[Fa,nk,WI,l8,if_false]at i7;rcases i7 with z|z
     ·exact absurd (gl z) nc
     ·exact absurd (gl z) hk
  ·obtain⟨fr,j,e4,e5⟩:=B.at e1 e2;have kx:=(b2 _ (sK fr)).2.2 rfl;refine⟨?_,.inr kx,kx,j,e4,e5⟩;show (relabel scope X.env).names.lookup x=some .cell\/(relabel scope X.env).names.lookup x=some .free;rw[dX,fr];simp only[Fa];split
   ·exact .inl rfl
   ·exact .inr rfl
 have stat:∀{H':Hp},(∀b∈fp,H' b=none)->∀b∈fp,cK (rR X N' scope cl G.objs.size s2 H2 fp) [] H' b:=fun hn b hb=>by
  refine⟨hn b hb,below b (jW b hb),fun z=>?_,.inl hb,fun x c e=>(f2 b hb).2.2.2.2.1 x c (cA x c e),fun p hp=>absurd (show p∈([]:List (al×i8)) from hp) (by simp)⟩
  rcases im.mp (I.fT b z) with q|q
  ·exact(f2 b hb).2.1 q
  ·exact(f2 b hb).2.2.1 q
 have C1:w9 (rR X N' scope cl G.objs.size s2 H2 fp) (.SetComp elt [⟨tg,iter,ifs,0⟩] scope pos) tg iter ifs 0 (.ref s2.heap.objs.size) _:=⟨fun _=>rfl,fun _ _ _ _ h=>h,fun _=>GY ..,fun _ _ _ _ h=>h,rfl⟩
 have uZ:bY 0 dn:=T.keep _ _ _ st fun b _ o e=>old b o e
 refine m9 C1 T uZ (oq hc (fun _ _ z=>z) C1 (hg cl G.objs.size s2 H2 fp) (ht cl G.objs.size s2 H2 fp) (Kn (X:=X) rfl rfl (he cl G.objs.size s2 H2 fp)) T (zF turn) I1 uZ (stat fun b hb=>by rw[ah (i4 (jW b hb))];exact(f2 b hb).1) w0 fun aZ H' s' I4 qn=>?_)
 have J2:Inv X pins σ H' s':=I.rE I4.os I4.base I4.hok I4.bare fun b hb=>⟨(f2 b hb).2.2.2.1,(f2 b hb).2.1,(f2 b hb).2.2.2.2.1,(f2 b hb).2.2.2.2.2⟩
 obtain⟨mm,hm,_⟩:=I4.loc;exact rT _ _ mm s' H' J2 (I.jf jg I4.free) hm qn
variable {tg elt iter:db}{ifs:List db}{scope:ul}{pos:u4}{N':List br}{tn:Nat}{idx:List Nat}{wi:TI}{g:TG}{tt:TT}{te:TE}
theorem BO (hc:X.calm=true) (B:aD X.N X.env.scope scope N' tn idx) (hi:PI X tg iter wi)
  (hg:Blk X N' scope fun Y=>PG Y tg g) (ht:Blk X N' scope fun Y=>iF Y ifs tt) (he:Blk X N' scope fun Y=>PE Y elt te)
  (hs:∀x,foldedSetIterable iter X.env x=pure x :=by intro _;rfl):PE X (.SetComp elt [⟨tg,iter,ifs,0⟩] scope pos) (D3 X tn idx wi g tt te) :=by
 refine⟨?_⟩;intro pins s σ H Q I h;obtain⟨cl,fO,cA,dN⟩:=fk (scope:=scope) (env:=X.env) fun n hn=>I.ok.has n ((B.2.1 _ hn).2.2 rfl)
 rw[arm_eval_SetComp];refine No (use:=none) rfl hs fO B.1 (fun y hy=>(B.2.1 y hy).2.1) (l6 (hi pins s σ H _ I h) (fun xv s1 h1=>l6 h1 (fun uN s2 h2=>?_) fun _ _ z=>z) fun _ _ z=>z)
 obtain⟨it,fp,bY,J,H2,e,I2,T,mL,f2,q2⟩:=h2;subst e;refine BM (RR:=fun acc C=>compPost (model X.prog X.w) X.A X.xe none (EP X pins σ Q) acc C) hc B hg ht he I2 T mL f2 cA dN q2 fun D C m s' H' J2 fC hm q=>?_
 exact⟨m,hm,fun h' nS=>⟨.ref D,H',fC.turn J2 nS,rfl,q⟩⟩
end
inductive Dt where
 |ax|bl (b:Bool)|int (i:Int)|str (x:br)|lst (xs:List Dt)|tup (xs:List Dt)
inductive fB (H:Hp):V->Dt->Prop where
 |ax:fB H .ax .ax
 |bl (b:Bool):fB H (.bl b) (.bl b)
 |int (i:Int):fB H (.int i) (.int i)
 |str (x:br):fB H (.str x) (.str x)
 |lst {a:al} {xs:List V} {ds:List Dt} (e:H a=some (.lst xs)) (hl:xs.length=ds.length) (h:∀(i:Nat) (x:V) (d:Dt),xs[i]?=some x->ds[i]?=some d->fB H x d):fB H (.ref a) (.lst ds)
 |tup {a:al} {xs:List V} {ds:List Dt} (e:H a=some (.tup xs)) (hl:xs.length=ds.length) (h:∀(i:Nat) (x:V) (d:Dt),xs[i]?=some x->ds[i]?=some d->fB H x d):fB H (.ref a) (.tup ds)
mutual
def eS:Dt->Dt->Bool
 | .ax,.ax=>true
 | .bl a,.bl b=>a==b
 | .bl a,.int b=>(if a then 1 else 0)==b
 | .int a,.bl b=>a==(if b then 1 else 0)
 | .int a,.int b=>a==b
 | .str a,.str b=>a==b
 | .lst xs,.lst ys=>kI xs ys
 | .tup xs,.tup ys=>kI xs ys
 |_,_=>false
def kI:List Dt->List Dt->Bool
 | [],[]=>true
 |x::xs,y::ys=>eS x y && kI xs ys
 |_,_=>false
end
mutual
theorem kJ:∀d:Dt,eS d d=true
 | .ax=>by simp[eS]
 | .bl b=>by simp[eS]
 | .int i=>by simp[eS]
 | .str x=>by simp[eS]
 | .lst xs=>by simp only[eS];exact oC xs
 | .tup xs=>by simp only[eS];exact oC xs
theorem oC:∀ds:List Dt,kI ds ds=true
 | []=>by simp[kI]
 |d::ds=>by simp only[kI];rw[kJ d,oC ds];rfl
end
theorem fq:∀(xs ys:List Dt),kI xs ys=((io (min xs.length ys.length)).all (fun j=>eS (xs.getD j .ax) (ys.getD j .ax)) && xs.length==ys.length)
 | [],[]=>by simp[kI]
 | [],_::_=>by simp[kI]
 |_::_,[]=>by simp[kI]
 |x::xs,y::ys=>by
          rw[kI,fq xs ys];have e:min (x::xs).length (y::ys).length=min xs.length ys.length+1 :=by simp[Nat.succ_min_succ]
          rw[e,List.range_succ_eq_map,List.all_cons,List.all_map];have e2:((x::xs).length==(y::ys).length)=(xs.length==ys.length) :=by simp
          rw[e2,Bool.and_assoc];rfl
theorem fB.inj {H:Hp}{v:V}{d:Dt}(h:fB H v d):∀{d':Dt},fB H v d'->d=d':=by
 induction h with
 |ax=>intro d' h';cases h';rfl
 |bl b=>intro d' h';cases h';rfl
 |int i=>intro d' h';cases h';rfl
 |str x=>intro d' h';cases h';rfl
 |lst e hl h ih=>
  intro d' h';cases h' with
  |lst e' NA h'=>
   rw[e]at e';cases e';congr 1
   refine Yo fun i=>?_
   rename_i xs ds iq;by_cases hi:i<xs.length
   ·rw[ap (by omega),ap (by omega)]
    exact congrArg some (ih i _ _ (ap hi) (ap (by omega)) (h' i _ _ (ap hi) (ap (by omega))))
   ·rw[IF (by omega),IF (by omega)]
  |tup e' NA h'=>rw[e]at e';cases e'
 |tup e hl h ih=>
  intro d' h';cases h' with
  |lst e' NA h'=>rw[e]at e';cases e'
  |tup e' NA h'=>
   rw[e]at e';cases e';congr 1
   refine Yo fun i=>?_
   rename_i xs ds iq;by_cases hi:i<xs.length
   ·rw[ap (by omega),ap (by omega)]
    exact congrArg some (ih i _ _ (ap hi) (ap (by omega)) (h' i _ _ (ap hi) (ap (by omega))))
   ·rw[IF (by omega),IF (by omega)]
mutual
def i9:Dt->Nat
 | .lst xs=>gG xs+1
 | .tup xs=>gG xs+1
 |_=>0
def gG:List Dt->Nat
 | []=>0
 |x::xs=>max (i9 x) (gG xs)
end
theorem kM:∀{ds:List Dt}{i:Nat}{d:Dt},ds[i]?=some d->i9 d<=gG ds
 | [],_,_,h=>by simp at h
 |x::xs,0,d,h=>by
          simp at h;subst h;rw[gG];exact Nat.le_max_left _ _
 |x::xs,i+1,d,h=>by
          rw[gG];exact sw (kM (i:=i) (by simpa using h)) (Nat.le_max_right _ _)
section
variable {X:Cx}{pins:List (al×i8)}{σ:St}{H:Hp}{s:ar}
theorem Inv.lists (I:Inv X pins σ H s) {a:al}{xs:List V}(h:H a=some (.lst xs)):∃its:List am,Vals xs its/\s.heap.IsList a its.toArray :=by
 obtain⟨its,rv,p,_⟩:=I.list (b9.of h);exact⟨its,rv,p.isList⟩
theorem Inv.tups (I:Inv X pins σ H s) {a:al}{xs:List V}(h:H a=some (.tup xs)):∃its:List am,Vals xs its/\s.heap.IsTuple a its.toArray :=by
 obtain⟨its,rv,p,_⟩:=I.tuple (dG.of h);exact⟨its,rv,p⟩
theorem sm (I:Inv X pins σ H s) {x y:V}{d:Dt}(hx:fB H x d):∀{e:Dt}{u v:am}{A:l5},fB H y e->RelV x u->RelV y v->A.units+i9 d<cLine->l4 A s u v (eS d e) :=by
 have lists:=fun {a:al} {xs:List V} (h:H a=some (.lst xs))=>I.lists h
 have tups:=fun {a:al} {xs:List V} (h:H a=some (.tup xs))=>I.tups h
 induction hx generalizing y with
 |ax=>
  intro e u v A hy rx ry hu;have a9:A.units<cLine :=by omega
  cases rx;cases hy with
  |ax=>cases ry;exact ZR _
  |bl b=>cases ry;exact l4.none_bool _
  |int i=>obtain⟨t,rfl⟩:=ry;exact l4.none_int _ _
  |str z=>obtain⟨t,rfl⟩:=ry;exact l4.none_str _ _
  |lst e2 _ _=>cases ry;obtain⟨_,_,p⟩:=lists e2;exact l4.none_list p a9
  |tup e2 _ _=>cases ry;obtain⟨_,_,p⟩:=tups e2;exact l4.none_tuple p a9
 |bl a=>
  intro e u v A hy rx ry hu;have a9:A.units<cLine :=by omega
  cases rx;cases hy with
  |ax=>cases ry;exact l4.bool_none _
  |bl b=>cases ry;exact l4.bool_bool _ _
  |int i=>obtain⟨t,rfl⟩:=ry;exact l4.bool_int _ _ _
  |str z=>obtain⟨t,rfl⟩:=ry;exact l4.bool_str _ _ _
  |lst e2 _ _=>cases ry;obtain⟨_,_,p⟩:=lists e2;exact l4.bool_list _ p a9
  |tup e2 _ _=>cases ry;obtain⟨_,_,p⟩:=tups e2;exact l4.bool_tuple _ p a9
 |int a=>
  intro e u v A hy rx ry hu;have a9:A.units<cLine :=by omega
  obtain⟨ta,rfl⟩:=rx;cases hy with
  |ax=>cases ry;exact l4.int_none _ _
  |bl b=>cases ry;exact l4.int_bool _ _ _
  |int i=>obtain⟨t,rfl⟩:=ry;exact l4.int_int _ _ _ _
  |str z=>obtain⟨t,rfl⟩:=ry;exact l4.int_str _ _ _ _
  |lst e2 _ _=>cases ry;obtain⟨_,_,p⟩:=lists e2;exact l4.int_list _ _ p a9
  |tup e2 _ _=>cases ry;obtain⟨_,_,p⟩:=tups e2;exact l4.int_tuple _ _ p a9
 |str a=>
  intro e u v A hy rx ry hu;have a9:A.units<cLine :=by omega
  obtain⟨ta,rfl⟩:=rx;cases hy with
  |ax=>cases ry;exact l4.str_none _ _
  |bl b=>cases ry;exact l4.str_bool _ _ _
  |int i=>obtain⟨t,rfl⟩:=ry;exact l4.str_int _ _ _ _
  |str z=>obtain⟨t,rfl⟩:=ry;exact l4.str_str _ _ _ _
  |lst e2 _ _=>cases ry;obtain⟨_,_,p⟩:=lists e2;exact l4.str_list _ _ p a9
  |tup e2 _ _=>cases ry;obtain⟨_,_,p⟩:=tups e2;exact l4.str_tuple _ _ p a9
 |lst e1 lK h1 ih=>
  rename_i a xs ds;intro e u v A hy rx ry hu;have a9:A.units<cLine :=by omega
  have xN:A.units+gG ds+1<cLine :=by rw[i9]at hu;omega
  cases rx;obtain⟨its,rv,p⟩:=lists e1;cases hy with
  |ax=>cases ry;exact l4.list_none p a9
  |bl b=>cases ry;exact l4.list_bool _ p a9
  |int i=>obtain⟨t,rfl⟩:=ry;exact l4.list_int _ _ p a9
  |str z=>obtain⟨t,rfl⟩:=ry;exact l4.list_str _ _ p a9
  |lst e2 iE h2=>
   rename_i b ys es;cases ry;by_cases ja:a=b
   ·subst ja;have:=(fB.lst e1 lK h1).inj (fB.lst e2 iE h2);cases this;rw[kJ];exact ZR _
   ·obtain⟨cz,gE,p2⟩:=lists e2;have l1:=rv.length;have l2:=gE.length;have at_:∀j (g1:j<its.toArray.size) (g2:j<cz.toArray.size),l4 A.in1 s its.toArray[j] cz.toArray[j] (eS (ds.getD j .ax) (es.getD j .ax)):=fun j g1 g2=>by
     have jE:j<xs.length :=by rw[l1];simpa using g1
     have jF:j<ys.length :=by rw[l2];simpa using g2
     have r1:=cT rv g1;have r2:=cT gE g2;rw[dL,ap jE]at r1;rw[dL,ap jF]at r2;have d1:ds[j]?=some ds[j]:=ap (by omega)
     have d2:es[j]?=some es[j]:=ap (by omega)
     rw[dL,dL,d1,d2];have:=kM d1;exact ih j _ _ (ap jE) d1 (h2 j _ _ (ap jF) d2) r1 r2 (by show A.units+1+_<cLine;omega)
    refine l4.of_refs ja ?_;rw[eS,fq];by_cases hsz:ds.length=es.length
    ·have q:=l9.lists p p2 (by simp only[f8];omega) a9 at_
     have z:(ds.length==es.length)=true :=by simpa using hsz
     rw[z,Bool.and_true,<- hsz,ET];rw[f8,<- l1,lK]at q;exact q
    ·have z:(ds.length==es.length)=false :=by simpa using hsz
     rw[z,Y8];exact l9.lists_lengths p p2 (by simp only[f8];simpa[bne_iff_ne] using (show its.length≠cz.length by omega)) a9
  |tup e2 iE h2=>cases ry;obtain⟨_,_,p2⟩:=tups e2;exact l4.list_tuple p p2 a9
 |tup e1 lK h1 ih=>
  rename_i a xs ds;intro e u v A hy rx ry hu;have a9:A.units<cLine :=by omega
  have xN:A.units+gG ds+1<cLine :=by rw[i9]at hu;omega
  cases rx;obtain⟨its,rv,p⟩:=tups e1;cases hy with
  |ax=>cases ry;exact l4.tuple_none p a9
  |bl b=>cases ry;exact l4.tuple_bool _ p a9
  |int i=>obtain⟨t,rfl⟩:=ry;exact l4.tuple_int _ _ p a9
  |str z=>obtain⟨t,rfl⟩:=ry;exact l4.tuple_str _ _ p a9
  |lst e2 iE h2=>cases ry;obtain⟨_,_,p2⟩:=lists e2;exact l4.tuple_list p p2 a9
  |tup e2 iE h2=>
   rename_i b ys es;cases ry;by_cases ja:a=b
   ·subst ja;have:=(fB.tup e1 lK h1).inj (fB.tup e2 iE h2);cases this;rw[kJ];exact ZR _
   ·obtain⟨cz,gE,p2⟩:=tups e2;have l1:=rv.length;have l2:=gE.length;have at_:∀j (g1:j<its.toArray.size) (g2:j<cz.toArray.size),l4 A.in1 s its.toArray[j] cz.toArray[j] (eS (ds.getD j .ax) (es.getD j .ax)):=fun j g1 g2=>by
     have jE:j<xs.length :=by rw[l1];simpa using g1
     have jF:j<ys.length :=by rw[l2];simpa using g2
     have r1:=cT rv g1;have r2:=cT gE g2;rw[dL,ap jE]at r1;rw[dL,ap jF]at r2;have d1:ds[j]?=some ds[j]:=ap (by omega)
     have d2:es[j]?=some es[j]:=ap (by omega)
     rw[dL,dL,d1,d2];have:=kM d1;exact ih j _ _ (ap jE) d1 (h2 j _ _ (ap jF) d2) r1 r2 (by show A.units+1+_<cLine;omega)
    refine l4.of_refs ja ?_;rw[eS,fq];have q:=l9.tuples p p2 a9 at_;rw[f8,f8,<- l1,<- l2,lK,iE]at q;exact q
theorem NB (I:Inv X pins σ H s) {x y:V}{d e:Dt}{u v:am}{A:l5}(hx:fB H x d) (hy:fB H y e) (rx:RelV x u) (ry:RelV y v) (hu:A.units+i9 d<cLine):l9 A s u v (eS d e) :=by
 have a9:A.units<cLine :=by omega
 have lists:=fun {a:al} {xs:List V} (h:H a=some (.lst xs))=>I.lists h
 have tups:=fun {a:al} {xs:List V} (h:H a=some (.tup xs))=>I.tups h
 cases hx with
 |ax=>
  cases rx;cases hy with
  |ax=>cases ry;exact l9.none_none
  |bl b=>cases ry;exact l9.none_bool _
  |int b=>obtain⟨t,rfl⟩:=ry;exact l9.none_int _ _
  |str b=>obtain⟨t,rfl⟩:=ry;exact l9.none_str _ _
  |lst e2 _ _=>cases ry;obtain⟨_,_,p⟩:=lists e2;exact l9.none_list p a9
  |tup e2 _ _=>cases ry;obtain⟨_,_,p⟩:=tups e2;exact l9.none_tuple p a9
 |bl a=>
  cases rx;cases hy with
  |ax=>cases ry;exact l9.bool_none _
  |bl b=>cases ry;exact l9.bool_bool _ _
  |int b=>obtain⟨t,rfl⟩:=ry;exact l9.bool_int _ _ _
  |str b=>obtain⟨t,rfl⟩:=ry;exact l9.bool_str _ _ _
  |lst e2 _ _=>cases ry;obtain⟨_,_,p⟩:=lists e2;exact l9.bool_list _ p a9
  |tup e2 _ _=>cases ry;obtain⟨_,_,p⟩:=tups e2;exact l9.bool_tuple _ p a9
 |int a=>
  obtain⟨ta,rfl⟩:=rx;cases hy with
  |ax=>cases ry;exact l9.int_none _ _
  |bl b=>cases ry;exact l9.int_bool _ _ _
  |int b=>obtain⟨t,rfl⟩:=ry;exact l9.int_int _ _ _ _
  |str b=>obtain⟨t,rfl⟩:=ry;exact l9.int_str _ _ _ _
  |lst e2 _ _=>cases ry;obtain⟨_,_,p⟩:=lists e2;exact l9.int_list _ _ p a9
  |tup e2 _ _=>cases ry;obtain⟨_,_,p⟩:=tups e2;exact l9.int_tuple _ _ p a9
 |str a=>
  obtain⟨ta,rfl⟩:=rx;cases hy with
  |ax=>cases ry;exact l9.str_none _ _
  |bl b=>cases ry;exact l9.str_bool _ _ _
  |int b=>obtain⟨t,rfl⟩:=ry;exact l9.str_int _ _ _ _
  |str b=>obtain⟨t,rfl⟩:=ry;exact l9.str_str _ _ _ _
  |lst e2 _ _=>cases ry;obtain⟨_,_,p⟩:=lists e2;exact l9.str_list _ _ p a9
  |tup e2 _ _=>cases ry;obtain⟨_,_,p⟩:=tups e2;exact l9.str_tuple _ _ p a9
 |lst e1 lK h1=>
  rename_i a xs ds;have xN:A.units+gG ds+1<cLine :=by rw[i9]at hu;omega
  cases rx;obtain⟨its,rv,p⟩:=lists e1;cases hy with
  |ax=>cases ry;exact l9.list_none p a9
  |bl b=>cases ry;exact l9.list_bool _ p a9
  |int b=>obtain⟨t,rfl⟩:=ry;exact l9.list_int _ _ p a9
  |str b=>obtain⟨t,rfl⟩:=ry;exact l9.list_str _ _ p a9
  |lst e2 iE h2=>
   rename_i b ys es;cases ry;obtain⟨cz,gE,p2⟩:=lists e2;have l1:=rv.length;have l2:=gE.length;have at_:∀j (g1:j<its.toArray.size) (g2:j<cz.toArray.size),l4 A.in1 s its.toArray[j] cz.toArray[j] (eS (ds.getD j .ax) (es.getD j .ax)):=fun j g1 g2=>by
    have jE:j<xs.length :=by rw[l1];simpa using g1
    have jF:j<ys.length :=by rw[l2];simpa using g2
    have r1:=cT rv g1;have r2:=cT gE g2;rw[dL,ap jE]at r1;rw[dL,ap jF]at r2;have d1:ds[j]?=some ds[j]:=ap (by omega)
    have d2:es[j]?=some es[j]:=ap (by omega)
    rw[dL,dL,d1,d2];have:=kM d1;exact sm I (h1 j _ _ (ap jE) d1) (h2 j _ _ (ap jF) d2) r1 r2 (by show A.units+1+_<cLine;omega)
   rw[eS,fq];by_cases hsz:ds.length=es.length
   ·have q:=l9.lists p p2 (by simp only[f8];omega) a9 at_
    have z:(ds.length==es.length)=true :=by simpa using hsz
    rw[z,Bool.and_true,<- hsz,ET];rw[f8,<- l1,lK]at q;exact q
   ·have z:(ds.length==es.length)=false :=by simpa using hsz
    rw[z,Y8];exact l9.lists_lengths p p2 (by simp only[f8];simpa[bne_iff_ne] using (show its.length≠cz.length by omega)) a9
  |tup e2 iE h2=>cases ry;obtain⟨_,_,p2⟩:=tups e2;exact l9.list_tuple p p2 a9
 |tup e1 lK h1=>
  rename_i a xs ds;have xN:A.units+gG ds+1<cLine :=by rw[i9]at hu;omega
  cases rx;obtain⟨its,rv,p⟩:=tups e1;cases hy with
  |ax=>cases ry;exact l9.tuple_none p a9
  |bl b=>cases ry;exact l9.tuple_bool _ p a9
  |int b=>obtain⟨t,rfl⟩:=ry;exact l9.tuple_int _ _ p a9
  |str b=>obtain⟨t,rfl⟩:=ry;exact l9.tuple_str _ _ p a9
  |lst e2 iE h2=>cases ry;obtain⟨_,_,p2⟩:=lists e2;exact l9.tuple_list p p2 a9
  |tup e2 iE h2=>
   rename_i b ys es;cases ry;obtain⟨cz,gE,p2⟩:=tups e2;have l1:=rv.length;have l2:=gE.length;have at_:∀j (g1:j<its.toArray.size) (g2:j<cz.toArray.size),l4 A.in1 s its.toArray[j] cz.toArray[j] (eS (ds.getD j .ax) (es.getD j .ax)):=fun j g1 g2=>by
    have jE:j<xs.length :=by rw[l1];simpa using g1
    have jF:j<ys.length :=by rw[l2];simpa using g2
    have r1:=cT rv g1;have r2:=cT gE g2;rw[dL,ap jE]at r1;rw[dL,ap jF]at r2;have d1:ds[j]?=some ds[j]:=ap (by omega)
    have d2:es[j]?=some es[j]:=ap (by omega)
    rw[dL,dL,d1,d2];have:=kM d1;exact sm I (h1 j _ _ (ap jE) d1) (h2 j _ _ (ap jF) d2) r1 r2 (by show A.units+1+_<cLine;omega)
   rw[eS,fq];have q:=l9.tuples p p2 a9 at_;rw[f8,f8,<- l1,<- l2,lK,iE]at q;exact q
theorem NC (I:Inv X pins σ H s) {x y:V}{d e:Dt}{u v:am}{A:l5}(hx:fB H x d) (hy:fB H y e) (rx:RelV x u) (ry:RelV y v) (hu:A.units+i9 d<cLine):lp A s u v (!(eS d e)) :=by
 have a9:A.units<cLine :=by omega
 have lists:=fun {a:al} {xs:List V} (h:H a=some (.lst xs))=>I.lists h
 have tups:=fun {a:al} {xs:List V} (h:H a=some (.tup xs))=>I.tups h
 cases hx with
 |ax=>
  cases rx;cases hy with
  |ax=>cases ry;exact lp.none_none
  |bl b=>cases ry;exact lp.none_bool _
  |int b=>obtain⟨t,rfl⟩:=ry;exact lp.none_int _ _
  |str b=>obtain⟨t,rfl⟩:=ry;exact lp.none_str _ _
  |lst e2 _ _=>cases ry;obtain⟨_,_,p⟩:=lists e2;exact lp.none_list p a9
  |tup e2 _ _=>cases ry;obtain⟨_,_,p⟩:=tups e2;exact lp.none_tuple p a9
 |bl a=>
  cases rx;cases hy with
  |ax=>cases ry;exact lp.bool_none _
  |bl b=>cases ry;exact lp.bool_bool _ _
  |int b=>obtain⟨t,rfl⟩:=ry;exact lp.bool_int _ _ _
  |str b=>obtain⟨t,rfl⟩:=ry;exact lp.bool_str _ _ _
  |lst e2 _ _=>cases ry;obtain⟨_,_,p⟩:=lists e2;exact lp.bool_list _ p a9
  |tup e2 _ _=>cases ry;obtain⟨_,_,p⟩:=tups e2;exact lp.bool_tuple _ p a9
 |int a=>
  obtain⟨ta,rfl⟩:=rx;cases hy with
  |ax=>cases ry;exact lp.int_none _ _
  |bl b=>cases ry;exact lp.int_bool _ _ _
  |int b=>obtain⟨t,rfl⟩:=ry;exact lp.int_int _ _ _ _
  |str b=>obtain⟨t,rfl⟩:=ry;exact lp.int_str _ _ _ _
  |lst e2 _ _=>cases ry;obtain⟨_,_,p⟩:=lists e2;exact lp.int_list _ _ p a9
  |tup e2 _ _=>cases ry;obtain⟨_,_,p⟩:=tups e2;exact lp.int_tuple _ _ p a9
 |str a=>
  obtain⟨ta,rfl⟩:=rx;cases hy with
  |ax=>cases ry;exact lp.str_none _ _
  |bl b=>cases ry;exact lp.str_bool _ _ _
  |int b=>obtain⟨t,rfl⟩:=ry;exact lp.str_int _ _ _ _
  |str b=>obtain⟨t,rfl⟩:=ry;exact lp.str_str _ _ _ _
  |lst e2 _ _=>cases ry;obtain⟨_,_,p⟩:=lists e2;exact lp.str_list _ _ p a9
  |tup e2 _ _=>cases ry;obtain⟨_,_,p⟩:=tups e2;exact lp.str_tuple _ _ p a9
 |lst e1 lK h1=>
  rename_i a xs ds;have xN:A.units+gG ds+1<cLine :=by rw[i9]at hu;omega
  cases rx;obtain⟨its,rv,p⟩:=lists e1;cases hy with
  |ax=>cases ry;exact lp.list_none p a9
  |bl b=>cases ry;exact lp.list_bool _ p a9
  |int b=>obtain⟨t,rfl⟩:=ry;exact lp.list_int _ _ p a9
  |str b=>obtain⟨t,rfl⟩:=ry;exact lp.list_str _ _ p a9
  |lst e2 iE h2=>
   rename_i b ys es;cases ry;obtain⟨cz,gE,p2⟩:=lists e2;have l1:=rv.length;have l2:=gE.length;have at_:∀j (g1:j<its.toArray.size) (g2:j<cz.toArray.size),l4 A.in1 s its.toArray[j] cz.toArray[j] (eS (ds.getD j .ax) (es.getD j .ax)):=fun j g1 g2=>by
    have jE:j<xs.length :=by rw[l1];simpa using g1
    have jF:j<ys.length :=by rw[l2];simpa using g2
    have r1:=cT rv g1;have r2:=cT gE g2;rw[dL,ap jE]at r1;rw[dL,ap jF]at r2;have d1:ds[j]?=some ds[j]:=ap (by omega)
    have d2:es[j]?=some es[j]:=ap (by omega)
    rw[dL,dL,d1,d2];have:=kM d1;exact sm I (h1 j _ _ (ap jE) d1) (h2 j _ _ (ap jF) d2) r1 r2 (by show A.units+1+_<cLine;omega)
   rw[eS,fq];by_cases hsz:ds.length=es.length
   ·have q:=lp.lists p p2 (by simp only[f8];omega) a9 at_
    have z:(ds.length==es.length)=true :=by simpa using hsz
    rw[z,Bool.and_true,<- hsz,ET];rw[f8,<- l1,lK]at q;exact q
   ·have z:(ds.length==es.length)=false :=by simpa using hsz
    rw[z,Y8];exact lp.lists_lengths p p2 (by simp only[f8];simpa[bne_iff_ne] using (show its.length≠cz.length by omega)) a9
  |tup e2 iE h2=>cases ry;obtain⟨_,_,p2⟩:=tups e2;exact lp.list_tuple p p2 a9
 |tup e1 lK h1=>
  rename_i a xs ds;have xN:A.units+gG ds+1<cLine :=by rw[i9]at hu;omega
  cases rx;obtain⟨its,rv,p⟩:=tups e1;cases hy with
  |ax=>cases ry;exact lp.tuple_none p a9
  |bl b=>cases ry;exact lp.tuple_bool _ p a9
  |int b=>obtain⟨t,rfl⟩:=ry;exact lp.tuple_int _ _ p a9
  |str b=>obtain⟨t,rfl⟩:=ry;exact lp.tuple_str _ _ p a9
  |lst e2 iE h2=>cases ry;obtain⟨_,_,p2⟩:=lists e2;exact lp.tuple_list p p2 a9
  |tup e2 iE h2=>
   rename_i b ys es;cases ry;obtain⟨cz,gE,p2⟩:=tups e2;have l1:=rv.length;have l2:=gE.length;have at_:∀j (g1:j<its.toArray.size) (g2:j<cz.toArray.size),l4 A.in1 s its.toArray[j] cz.toArray[j] (eS (ds.getD j .ax) (es.getD j .ax)):=fun j g1 g2=>by
    have jE:j<xs.length :=by rw[l1];simpa using g1
    have jF:j<ys.length :=by rw[l2];simpa using g2
    have r1:=cT rv g1;have r2:=cT gE g2;rw[dL,ap jE]at r1;rw[dL,ap jF]at r2;have d1:ds[j]?=some ds[j]:=ap (by omega)
    have d2:es[j]?=some es[j]:=ap (by omega)
    rw[dL,dL,d1,d2];have:=kM d1;exact sm I (h1 j _ _ (ap jE) d1) (h2 j _ _ (ap jF) d2) r1 r2 (by show A.units+1+_<cLine;omega)
   rw[eS,fq];have q:=lp.tuples p p2 a9 at_;rw[f8,f8,<- l1,<- l2,lK,iE]at q;exact q
end
section
variable {X:Cx}
def GZ (neg:Bool):R2:=fun x y H Q=>∃d e,fB H x d/\fB H y e/\i9 d<=60/\Q (.bl (if neg then !eS d e else eS d e)) H
theorem ND (hu:X.A.units+64<cLine):OpR X (compareOp .Eq) (GZ false) :=by
 intro pins s σ H x y v u Q I rx ry h;obtain⟨d,e,hx,hy,hd,q⟩:=h;exact NB I hx hy rx ry (by omega) X.prog X.w X.xe _ ⟨.bl _,H,I,rfl,q⟩
theorem NF (hu:X.A.units+64<cLine):OpR X (compareOp .NotEq) (GZ true) :=by
 intro pins s σ H x y v u Q I rx ry h;obtain⟨d,e,hx,hy,hd,q⟩:=h;exact NC I hx hy rx ry (by omega) X.prog X.w X.xe _ ⟨.bl _,H,I,rfl,q⟩
end
theorem NI:bootBuiltins "set" = some (.type "set") :=by decide +kernel
theorem ve:bootBuiltins "sorted" = some (.builtin "sorted") :=by decide +kernel
section
variable {X:Cx}
def D4 (K:bn) (H:Hp) (p:al) (ns:List Int):Prop:=b9 K H p (ns.map V.int)\/dG K H p (ns.map V.int)
def xO (P:en) (w:ii) (K:bn):List V->Hp->VK->Prop:=fun xs H Q=>∃p ns,xs=[.ref p]/\D4 K H p ns/\ns.length+1<scanBound/\∀l,H l=none->Q (.ref l) (upd H l (fW P w l (dO ns)))
theorem xP {ns:List Int}{us:List am}(r:Vals (ns.map V.int) us):∀(i:Nat) (v:am),us.toArray[i]?=some v->∃m t,ns[i]?=some m/\v=.int m t:=fun i v h=>by
 have hl:=r.length;have h':us[i]?=some v :=by simpa using h
 have hi:i<us.length:=(ce.mp h').1;have ee:i<ns.length :=by rw[ca]at hl;omega
 obtain⟨u,e,q⟩:=r.get (i:=i) (x:=V.int ns[i]) (by rw[bv,ap ee];rfl)
 rw[h']at e;cases e;obtain⟨t,rfl⟩:=q;exact⟨_,t,ap ee,rfl⟩
theorem D5 (hc:X.calm=true):dM X (.type "set") (xO X.prog X.w X.K) :=by
 intro pins s σ H xs us Q I r h;obtain⟨p,ns,rfl,hq,hb,q⟩:=h;obtain⟨u,rfl,rx⟩:=vals1 r;cases rx;have fin:∀(h':hX) (tk:Nat),cm X.prog X.w h' s.heap.objs.size (dO ns)->(∀b o,s.heap.get? b=some o->h'.get? b=some o)->EP X pins σ Q (.ref s.heap.objs.size) {s with heap:=h',toks:=tk}:=fun h' tk hM hk=>
  ⟨.ref s.heap.objs.size,_,I.laid (t':=tk) hk (cb _) (tS hM),rfl,q _ (I.hok.fresh (cb _))⟩
 have hh:=I.ok.hd hc;rcases hq with hq|hq
 ·obtain⟨its,rv,pl,hz⟩:=I.list hq;have hl:its.toArray.size=ns.length :=by rw[f8,<- rv.length,ca]
  obtain⟨o,ho,cS,n,hd⟩:=pl.isList;refine oy (T := "list") (vs:=ns) (itob:={cls:=.type "list_iterator",data:=.fields #[.ref p,.int 0 0]}) (Pv:=fun i v=>its.toArray[i]?=some v) (St:=fun I i h=>h.IsListIter I p i/\h.IsList p its.toArray) hh ⟨o,ho⟩ (fun s1 k=>⟨o,k o ho,cS⟩) F.sub_list_set F.sub_list_frozenset (by decide)
   (fun A' s1 Q' E' k xQ=>Yl ⟨o,k o ho,cS,n,hd⟩ xQ) (fun A' I' hA eR=>hl▸ZN.list hA I' p eR its.toArray) (fun h1 k=>⟨⟨_,ci _ rfl,rfl,rfl⟩,⟨o,ba _ (k o ho),cS,n,hd⟩⟩) (xP rv) hb fin
 ·obtain⟨its,rv,pl,hz⟩:=I.tuple hq;have hl:its.toArray.size=ns.length :=by rw[f8,<- rv.length,ca]
  obtain⟨o,ho,cS,n,hd⟩:=pl;refine oy (T := "tuple") (vs:=ns) (itob:={cls:=.type "tuple_iterator",data:=.fields #[.ref p,.int 0 0]}) (Pv:=fun i v=>its.toArray[i]?=some v) (St:=fun I i h=>h.IsTupleIter I p i/\h.IsTuple p its.toArray) hh ⟨o,ho⟩ (fun s1 k=>⟨o,k o ho,cS⟩) sub_tuple_set tR (by decide)
   (fun A' s1 Q' E' k xQ=>Tk ⟨o,k o ho,cS,n,hd⟩ xQ) (fun A' I' hA eR=>hl▸ZN.tuple hA I' p eR its.toArray) (fun h1 k=>⟨⟨_,ci _ rfl,rfl,rfl⟩,⟨o,ba _ (k o ho),cS,n,hd⟩⟩) (xP rv) hb fin
def An (P:en) (w:ii) (K:bn):List V->Hp->VK->Prop:=fun xs H Q=>∃p ns,xs=[.ref p]/\(H p=some (fW P w p ns)\/D4 K H p ns)/\ns.length<64/\∀l,H l=none->Q (.ref l) (upd H l (.lst ((sortI ns).map V.int)))
theorem xR (hc:X.calm=true):dM X (.builtin "sorted") (An X.prog X.w X.K) :=by
 intro pins s σ H xs us Q I r h;obtain⟨p,ns,rfl,hq,Ny,q⟩:=h;obtain⟨u,rfl,rx⟩:=vals1 r;cases rx;have hh:=I.ok.hd hc;refine BL (ns:=ns) (fun QL NK=>?_) Ny (fun h1 h' d' tk us e hI k1 k2 he=>?_)
 ·rcases hq with hq|hq|hq
  ·exact zD (by simp[hh]) (Am I hq) (by have:sizeLine=16777216:=X7;omega) NK
  ·obtain⟨its,rv,pl,hz⟩:=I.list hq;have hl:=rv.length;obtain⟨o,ho,cS,n,hd⟩:=pl.isList;exact ql ho cS hd (.inl rfl) (fun h' k=>NK its ns h' s.drawn s.toks (BK rv) (.refl _) k) (by omega)
  ·obtain⟨its,rv,pl,hz⟩:=I.tuple hq;have hl:=rv.length;obtain⟨o,ho,cS,n,hd⟩:=pl;exact ql ho cS hd (.inr rfl) (fun h' k=>NK its ns h' s.drawn s.toks (BK rv) (.refl _) k) (by omega)
 ·have I1:Inv X pins σ H {s with heap:=h1,drawn:=d'}:=(I.kept (t':=s.toks) k1).qJ ⟨rfl,rfl,I.bare.self⟩
  have hsz:sizeLine=16777216:=X7;have ob:ObjOk X.prog X.w (upd H h1.objs.size (.lst ((sortI ns).map V.int))) h' h1.objs.size (.lst ((sortI ns).map V.int)):=⟨by rw[ca,(sortI_perm ns).length_eq];omega,us,e,oB hI,he⟩
  exact⟨.ref h1.objs.size,_,I1.laid (t':=tk) k2 (cb _) ob,rfl,q _ (I1.hok.fresh (cb _))⟩
def NM:V->List V->Hp->VK->Prop:=fun x vs H Q=>∃a b i rest,x=.str a/\vs=[.str b]/\Yh a b 0 a.length 1=i::rest/\Q (.int (i:Nat)) H
theorem G0:Dz X "str.index" NM :=by
 intro pins s σ H x vs v us Q I rx rv h;obtain⟨a,b,i,rest,rfl,rfl,ho,q⟩:=h;obtain⟨t,rfl⟩:=rx;obtain⟨u,rfl,ru⟩:=rv.one;obtain⟨t',rfl⟩:=ru;exact SC.index ho ⟨.int i,H,I.tok _,⟨_,rfl⟩,q⟩
end
section
variable {P:en}{w:ii}{A:l5}{E:am->ar->Prop}{s:ar}
theorem vY {QL:List am->ar->Prop}{r:al}{a b c:Int}{t u v:Y1}{n:Nat}(hh:A.handled=none) (hr:aac s.heap r a b c t u v) (NN:mf.Range.small a b c=true)
  (hn:mf.Range.rangeSize a b c=n) (hlen:n<=2 ^ 24)
  (hQ:∀acc h' tk,ItemsOf (fun i v=>∃t,v=.int (a+i * c) t) acc n->(∀b o,s.heap.get? b=some o->h'.get? b=some o)->QL acc.toList {s with heap:=h',toks:=tk}):wpAny (model P w) A (collect (.ref r)) QL E s :=by
 unfold collect;refine ag (Zc (Cf YG ?_));rw[ze YH _];show wpAny _ A.in1 (newList []>>=fun l=>again (.builtin "list.__iadd__" ⟨[l,.ref r],[]⟩)) _ _ s
 refine ag (tw ?_);refine bi ⟨Mc Pf _,Cf Zw ?_⟩;rw[ze Pf _];show wpAny _ A.in1 (LB (.ref s.heap.objs.size) (.ref r) (.ref s.heap.objs.size)) _ _ _;refine wpAny_extend_range (R:=fun r s'=>match r with
       |Except.ok (Flow.ret v)=>
        wpAny (model P w) A
         (match v with
         |l7 a=>do
          let __do_lift <- load a
          match __do_lift.data with
           |Data.seq xs Xj=>pure xs.toList
           |x=>unsupported "internal:collect"
         |x=>unsupported "internal:collect")
         QL E s'
       |Except.ok a=>False
       |Except.error e=>E e s') (s:={s with heap:=s.heap.push {cls:=.type "list",data:=.seq ([]:List am).toArray}}) hh (ba _ hr) NN hn hlen _ _ 0 (ci _ rfl) fun h' tk fK c' hk jD eV=>?_
 show wpAny _ A (load s.heap.objs.size>>=_) _ _ _;refine ag (Z2 jD ?_);exact bi (hQ fK h' tk eV fun b o e=>hk b o (i4 (ff e)) (ba _ e))
theorem oE {Q₁:am->ar->Prop}{QL:List am->ar->Prop}{I:al}(hT:s.TypeIs (.ref I) "range")
  (W:wpAny (model P w) A.in1 (collect (.ref I)) QL E s) (hsz:∀us s',QL us s'->us.length<=sizeLine)
  (h:∀us s',QL us s'->Q₁ (.ref s'.heap.objs.size) {s' with heap:=s'.heap.push {cls:=.type "tuple",data:=.seq us.toArray}}) :
  codeAny (model P w) A (.call (.builtin "tuple.__new__") ⟨[.type "tuple",.ref I],[]⟩) (wants Q₁ E) s :=by
 refine YN ?_;show wpAny _ A.in1 (do checkBuiltinCall "tuple.__new__" ⟨[.type "tuple",.ref I],[]⟩;again (.builtin "tuple.__new__" ⟨[.type "tuple",.ref I],[]⟩)) _ _ s
 refine ag (Yt (F.newCall_tuple_1 _) (bi ⟨Mc F.plain_tuple_new _,Cf F.entry_tuple_new ?_⟩));rw[ze F.plain_tuple_new _];have qQ:=sub_tuple_self;have Xk:=init_tuple_lookup;have XF:=madeHere_tuple;wp_walk using ZG hT,l6 W
 ·intro us s' hq;show wpAny _ _ (mf.Tuple.tupleExact us.toArray>>=fun v=>ret v) _ _ _
  unfold mf.Tuple.tupleExact;refine ag (tw ?_ (by show us.toArray.size<=sizeLine;rw[f8];exact hsz us s' hq))
  exact bi (h us s' hq)
 ·exact fun _ _ z=>z
end
def aR (n:Nat):List Int:=(io n).map fun i=>((i:Nat):Int)
section
variable {X:Cx}
theorem vZ {e:db}{te:TE}{p p1 p2 pos:u4}(hc:X.calm=true) (hg:Gl X "tuple") (hm:X.mg "tuple" = none) (xq:Gl X "range") (xr:X.mg "range" = none) (he:PE X e te) (hs:starEach [e] X.env=[(false,eval e X.env)] :=by rfl) :
  PE X (.Call (.Name "tuple" p) [.Call (.Name "range" p1) [e] [] p2] [] pos) (fun σ H Q=>te σ H fun x H1=>∃j:Int,x=.int j /\ -(2 ^ 20)<=j/\j<=2 ^ 20/\∀l,H1 l=none->Q (.ref l) (upd H1 l (.tup ((aR j.toNat).map V.int)))) :=by
 refine⟨?_⟩;intro pins s σ H Q I h;refine Cc (fx I hg hm ck ?_);refine xb ?_ rfl rfl;show wpAny _ _ (spliced ((false,eval (.Call (.Name "range" p1) [e] [] p2) X.env)::[])) _ _ s
 refine Fk ?_;refine Call_ (fx I xq xr Z3 (xb ?_ hs rfl));rw[hs];refine Fk (thn (he pins s σ H _ I h) fun v s1 ⟨x,H1,I1,r1,q1⟩=>KM ?_)
 obtain⟨j,rfl,b1,b2,q⟩:=q1;obtain⟨t,rfl⟩:=r1;refine call_range_1 ?_;refine KM ?_;have hh:=I1.ok.hd hc;have I2:Inv X pins σ H1 {s1 with heap:=s1.heap.push {cls:=.type "range",data:=.fields #[.int 0 s1.toks,.int j t,.int 1 (s1.toks+1)]},toks:=s1.toks+1+1}:=I1.kept fun b o e=>ba _ e
 generalize nR:({s1 with heap:=s1.heap.push {cls:=.type "range",data:=.fields #[.int 0 s1.toks,.int j t,.int 1 (s1.toks+1)]},toks:=s1.toks+1+1}:ar)=s2 at I2 ⊢
 have NP:aac s2.heap s1.heap.objs.size 0 j 1 s1.toks t (s1.toks+1) :=by rw[<- nR];exact aac.new ..
 have hT:s2.TypeIs (.ref s1.heap.objs.size) "range" := by
  rw[<- nR];exact⟨_,ci _ rfl,rfl⟩
 refine callType_codes (Q₁:=fun obj aC=>aC.TypeIs obj "tuple" /\ EP X pins σ Q obj aC) F.called_tuple (F.typeCall_tuple_1 _) F.entry_object_init
  (oE (QL:=fun us s'=>us.length<=sizeLine/\Inv X pins σ H1 s'/\Vals ((aR j.toNat).map V.int) us) hT
   (vY (n:=j.toNat) (by simp[hh]) NP (small_one (by omega) (by omega) (by omega) (by omega)) (by rw[PyProof.Rows.rangeSize_nat];simp) (by omega) fun acc h' tk hit hk=>?_) (fun us s' q=>q.1) fun us s' ⟨hl,I',rv⟩=>⟨⟨_,ci _ rfl,rfl⟩,?_⟩) fun obj aC dn=>?_
 ·have hsz:sizeLine=16777216:=X7;refine⟨by rw[ww,hit.1];omega,I2.kept hk,?_⟩
  refine jy (by have:=hit.1;simp[aR];omega) fun i v e=>?_
  have hi:i<j.toNat :=by
   have:=(ce.mp e).1;simpa[aR] using this
  have D6:i<acc.size :=by rw[hit.1];exact hi
  obtain⟨t2,e4⟩:=hit.2 i acc[i] (by simp[D6])
  refine⟨acc[i],by simp[D6],?_⟩
  have e5:v=V.int (i:Nat) :=by
   have:((aR j.toNat).map V.int)[i]?=some (V.int (i:Nat)) :=by simp[aR,hi]
   rw[this]at e;exact(gl e).symm
  rw[e4,e5];exact⟨t2,by simp⟩
 ·have I3:Inv X pins σ (upd H1 s'.heap.objs.size (.tup ((aR j.toNat).map V.int))) {s' with heap:=s'.heap.push {cls:=.type "tuple",data:=.seq us.toArray}}:=
   I'.laid (t':=s'.toks) (fun b o e=>ba _ e) (cb _) (show ObjOk X.prog X.w _ _ _ (.tup _) from ⟨by rw[rv.length];exact hl,us,rv,my.new _ _⟩)
  exact⟨.ref s'.heap.objs.size,_,I3,rfl,q _ (I'.hok.fresh (cb _))⟩
 ·exact⟨dn.1,F.args_object_init_2 obj _,object_init_meets F.called_tuple.init.lookup F.called_tuple.made (by decide) X.prog X.w X.A.in1 _ aC ⟨dn.1,rfl,dn.2⟩⟩
theorem BP {K:bn}(h:X.K=K) (hc:X.calm=true):dM X (.type "set") (xO X.prog X.w K):=h▸D5 hc
end
theorem D7:bootBuiltins "all" = some (.builtin "all"):=PyProof.Rows.boot_all
section
variable {X:Cx}
def IK (K:bn):List V->Hp->VK->Prop:=fun xs H Q=>∃(p:al) (bs:List Bool),xs=[.ref p]/\b9 K H p (bs.map V.bl)/\Q (.bl (bs.all id)) H
theorem D8 (hc:X.calm=true):dM X (.builtin "all") (IK X.K) :=by
 intro pins s σ H xs us Q I r h;obtain⟨p,bs,rfl,hq,q⟩:=h;obtain⟨u,rfl,rx⟩:=vals1 r;cases rx;have hh:=I.ok.hd hc;obtain⟨its,rv,pl,hz⟩:=I.list hq;have hl:its.toArray.size=bs.length :=by rw[f8,<- rv.length,ca]
 have xF:s.heap.IsList p its.toArray:=pl.isList;have aQ:p<s.heap.objs.size:=let ⟨o,ho,_⟩:=xF;ff ho;have at_:∀(i:Nat) (v:am),its.toArray[i]?=some v->v=.bool (bs.getD i false):=fun i v hv=>by
  have h':its[i]?=some v :=by simpa using hv
  have hi:i<its.length:=(ce.mp h').1;have ee:i<bs.length :=by rw[f8]at hl;omega
  obtain⟨u,e,q2⟩:=rv.get (i:=i) (x:=V.bl bs[i]) (by rw[bv,ap ee];rfl)
  rw[h']at e;cases e;rw[dL,ap ee];exact q2
 refine call_function_tree F.kind_all F.plain_all F.entry_all (F.args_all1 _) ?_;unfold mf.«all»;refine ag (m:=oneArg "all" _) (bi ?_)
 refine ag (Yl xF ?_);have W:=ZN.list (prog:=X.prog) (w:=X.w) (A:=X.A.in1) (by simp[hh]) s.heap.objs.size p (i4 aQ) its.toArray
 refine bi ⟨Mc YC _,codeAny_all_loop W (fun i=>bs.getD i false) ?_ its.toArray.size 0 _ rfl (wp _) ⟨⟨_,ci _ rfl,rfl,rfl⟩,xF.push _⟩ fun h' tk hk=>?_⟩
 ·intro i v s' Q' E' hv xQ;have:=at_ i v hv;subst this;exact BY xQ
 ·have e:((io its.toArray.size).drop 0).all (fun i=>bs.getD i false)=bs.all id :=by
   rw[List.drop_zero,hl];refine Pc.mpr ?_;rw[xw,xw];constructor
   ·intro hx b hb;obtain⟨i,hi⟩:=List.getElem?_of_mem hb;have lH:=(ce.mp hi).1;have:=hx i (by rw[rb];exact lH)
    rw[dL,hi]at this;exact this
   ·intro hx i hi;rw[rb]at hi;rw[dL,ap hi];exact hx _ (wT hi)
  have I2:Inv X pins σ H {s with heap:=h',toks:=tk}:=I.kept fun b o eb=>hk b o (by simp only[jp];exact i4 (ff eb)) (ba _ eb)
  refine⟨.bl (bs.all id),H,I2,?_,q⟩;show YI _=YI _;rw[e]
theorem BQ {K:bn}(h:X.K=K) (hc:X.calm=true):dM X (.builtin "all") (IK K):=h▸D8 hc
end
theorem ObjOk.there {P:en}{w:ii}{H:Hp}{h:hX}{a:al}{o:HO}(x:ObjOk P w H h a o):∃u,h.get? a=some u :=by
 cases o with
 |lst xs=>obtain⟨_,_,_,_,e⟩:=x;exact⟨_,e⟩
 |tup xs=>obtain⟨_,_,_,ob,e,_⟩:=x;exact⟨_,e⟩
 |dK ak=>obtain⟨_,_,_,_,o,_,_,e,_⟩:=x;exact⟨_,e⟩
 |dT ak=>obtain⟨_,_,_,_,o,_,_,e,_⟩:=x;exact⟨_,e⟩
 |set S n=>obtain⟨o,_,_,_,e,_⟩:=x;exact⟨_,e⟩
 |ins C dx fs=>obtain⟨_,_,_,e,_⟩:=x;exact⟨_,e⟩
 |own y=>obtain⟨_,e⟩:=x;exact⟨_,e⟩
 |xd fs=>obtain⟨_,⟨_,_,_,e,_⟩,_⟩:=x;exact⟨_,e⟩
 |rng lo hi=>obtain⟨_,_,_,e⟩:=x;exact⟨_,e⟩
 |bQ ob u=>obtain⟨e,_⟩:=x;exact⟨_,e⟩
 |di ps=>exact⟨_,x⟩
 |lam ps=>exact⟨_,x⟩
 |met f y=>exact⟨_,x⟩
 |ext φ=>obtain⟨_,⟨_,e⟩,_⟩:=x;exact⟨_,e⟩
def gL (P:en) (w:ii):iC:=fun outer H s E e s'=>∃(a C t:al) (B:hX) (H':Hp),e=.ref a/\s'.os=s.os/\Gn s.gens.size s'.gens/\hX.FlyingW B outer a (.ref C) (.ref t) s'.heap /\
 (∀b o,s.heap.get? b=some o->b ∉ fg outer->∃o',B.get? b=some o')/\(∀b u,H' b=some u->∃o',B.get? b=some o')/\Un (fg outer) [] H H' s.heap s'.heap/\c0 P w H' s'.heap/\E (.ref C) none H'
section
variable {X:Cx}{pins:List (al×i8)}{σ:St}{H H1:Hp}{s s1:ar}{B h':hX}
theorem Inv.oF (I:Inv X pins σ H s) {b:al}(h1:b≠X.env.locals) (h2:b ∉ X.fs):b ∉ fg X.stack:=fun z=>by
 rcases im.mp (I.fT b z) with q|q
 ·exact h1 q
 ·exact h2 q
theorem Inv.wz (I:Inv X pins σ H s) {b:al}{o:i8}(e:X.s₀.heap.get? b=some o):b≠X.env.locals:=fun z=>by
 have l:=ff e;have:=I.ok.above;rw[<- z]at this;exact absurd l (Z5.mpr this)
theorem Inv.SJ (I1:Inv X pins σ H1 s1) (I:Inv X pins σ H s) (c1:∀b o,s1.heap.get? b=some o->b ∉ fg X.stack->∃o',B.get? b=some o') (c2:∀b u,H b=some u->∃o',B.get? b=some o')
  (k:B.StaysIn s.heap) (k':B.StaysIn h') (up:s.heap.UpToSlots h'):Inv X pins σ H {s with heap:=h'}:=by
 have same:∀b o',(∃o2,B.get? b=some o2)->s.heap.get? b=some o'->h'.get? b=some o':=fun b o' ⟨o2,e⟩ q=>by
  have z:=k b o2 e;rw[q]at z;cases z;exact k' b _ e
 refine⟨I.ok,I.os,I.bare,⟨fun b o q n hb hx=>?_,fun b o q n hb hx=>?_,I.base.free,fun b o q hx=>?_,I.base.tups,I.base.frzs,I.base.tbls⟩,?_,fun x c e=>?_,I.free,I.freeC,fun p hp=>?_,fun a o e=>?_,I.len⟩
 ·exact same b o (c1 b o (I1.base.keep b o q n hb hx) (I.oF (I.wz q) hb)) (I.base.keep b o q n hb hx)
 ·obtain⟨sl,e⟩:=I.base.slot b o q n hb hx;obtain⟨_,o2,e2,nf⟩:=I.funs.mem hb;rw[e]at e2;cases e2;obtain⟨VA,e4⟩:=up b {o with slots:=sl} e nf
  exact⟨VA,e4⟩
 ·obtain⟨o',e⟩:=I.base.there b o q hx;by_cases hb:b∈X.fs
  ·obtain⟨_,o2,e2,nf⟩:=I.funs.mem hb;obtain⟨sl,e3⟩:=up b _ e2 nf;exact⟨_,e3⟩
  ·obtain⟨o1,q1⟩:=I1.base.there b o q hx;exact⟨o',same b o' (c1 b o1 q1 (I.oF (I.wz q) hb)) e⟩
 ·obtain⟨m,hn,hl⟩:=I.loc;refine⟨m,up.ns hn,fun i x v a b c=>?_⟩
  obtain⟨u,r,l⟩:=hl i x v a b c;refine⟨u,r,?_⟩;rcases l with l|⟨kd,c,ec,o,ho,hd⟩
  ·exact .inl l
  ·obtain⟨sl,e⟩:=up c o ho fun vs z=>by rw[hd]at z;cases z
   exact .inr ⟨kd,c,ec,_,e,hd⟩
 ·obtain⟨v,o,ho,hd⟩:=I.cell x c e;obtain⟨sl,e⟩:=up c o ho fun vs z=>by rw[hd]at z;cases z
  exact⟨v,_,e,hd⟩
 ·obtain⟨p1,p2,p3,p4,p5⟩:=I.pin p hp;exact⟨same p.1 p.2 (c1 p.1 p.2 (I1.pin p hp).1 (I.oF p3 p4)) p1,p2,p3,p4,p5⟩
 ·refine(I.hok a o e).cE (fun b u hb q=>?_) (fun _ q=>q) fun _ _ q=>q
  rcases hb with z|z
  ·exact same b u (c2 b o (by rw[z];exact e)) q
  ·exact same b u (c2 b _ z) q
end
section
variable {P:en}{w:ii}{K:bn}{mg:br->Option am}{base:hX}{N:List br}{qual:br}{scope:ul}{f:al}{cd:am}{A:l5}{outer:List Lo}{s0:ar}{H0:Hp}{E:XK}
theorem wA:Passes (gL P w) (gF (gL P w) P w K mg base N qual scope f cd A outer s0 H0 E) E :=by
 intro pins σ H s e s' I h;obtain⟨a,C,t,B,H',rfl,os,gn,fl,c1,c2,un,hok,q⟩:=h;have I':=I.rE (ch:=[]) os un hok gn (fun b z=>absurd z (by simp))
 refine wpAny_leaves_onW (cls:=.ref C) (a0:=.ref t) I.ok.frames rfl fl fun h' SK up=>?_
 have I2:=I.SJ I' c1 c2 fl.1 SK.1 up;refine⟨a,C,t,B,H',rfl,I2.os,I2.bare,SK,fun b o e n=>?_,c2,I2.base,I2.hok,q⟩
 obtain⟨o1,e1⟩:=I.base.there b o e (fun z=>absurd (show b∈([]:List al) from z) (by simp))
 exact c1 b o1 e1 (I.oF (I.wz e) n)
def Raises (X:Cx) (E:XK):Prop:=∀(pins:List (al×i8)) (σ:St) (H:Hp) (s:ar) (C:al) (h':hX) (a:al) (vs:List am),Inv X pins σ H s->hX.MadeExcOf s.heap h' a (.ref C) vs->E (.ref C) none H->X.xe (.ref a) {s with heap:=h'}
theorem NQ:Raises (gF (gL P w) P w K mg base N qual scope f cd A outer s0 H0 E) E :=by
 intro pins σ H s C h' a vs I hx q;have c1:∀b o,s.heap.get? b=some o->b ∉ fg (gF (gL P w) P w K mg base N qual scope f cd A outer s0 H0 E).stack->∃o',(BN s.heap (fg (gF (gL P w) P w K mg base N qual scope f cd A outer s0 H0 E).stack)).get? b=some o':=
  fun b o e n=>⟨o,X8 _ e n⟩
 have c2:∀b u,H b=some u->∃o',(BN s.heap (fg (gF (gL P w) P w K mg base N qual scope f cd A outer s0 H0 E).stack)).get? b=some o':=fun b u hu=>by
  obtain⟨o,e⟩:=(I.hok b u hu).there;exact c1 b o e fun z=>by rw[I.mJ b z]at hu;cases hu
 have st:(BN s.heap (fg (gF (gL P w) P w K mg base N qual scope f cd A outer s0 H0 E).stack)).StaysIn s.heap:=fun b o e=>Zf _ e
 refine wpAny_leaves_madeW (cls:=.ref C) I.ok.frames rfl st (PySem.W.funFrames_hide I.stack fun env he b hb=>Zg.mpr ⟨env,he,hb⟩) hx fun XG t fl _ _ up=>?_
 have I2:=I.SJ I c1 c2 st fl.1 ((hX.UpToSlots.of_keeps hx.keeps).trans up);refine⟨a,C,t,_,H,rfl,I2.os,I2.bare,fl,fun b o e n=>?_,c2,I2.base,I2.hok,q⟩
 obtain⟨o1,e1⟩:=I.base.there b o e (fun z=>absurd (show b∈([]:List al) from z) (by simp))
 exact c1 b o1 e1 (I.oF (I.wz e) n)
end
theorem Ko {K:bn}{h:hX}{C:al}{vf:List am}{newId:String}(X:K.In h) (q:Zn K C vf newId=true) :
  ∃bm Nn nm qn bs hd sn sub ab col dd k0 k1 k2 k3 k5 mN,h.get? C=some (excClassObj nm qn C Nn bs bm hd sn sub ab col dd k0 k1 k2 k3 k5 newId)/\h.Ns Nn mN/\mN "__init__" = none/\OwnTail h vf bm :=by
 unfold Zn at q;split at q;case h_2=>cases q
 case h_1 dd cd sl ho=>
  split at q;case h_2=>cases q
  case h_1 C' bm k0 k1 k2 k3 n k5 hm hs=>
   rw[Me,Me,Me,Me,Me]at q;obtain⟨⟨⟨⟨⟨q1,q2⟩,q3⟩,q4⟩,q5⟩,q6⟩:=q;have e1:C'=C:=beq_iff_eq.mp q1;have e2:n=newId:=beq_iff_eq.mp q2;have e3:cd.hasDel=false :=by simpa using q3
   subst e1 e2;obtain⟨nm,bs,mro,ns,qn,hd,sn,sub,ab,col,del⟩:=cd;dsimp only at hm e3 q5 q6;subst hm e3;have es:sl=#[k0,k1,k2,k3,some (.builtin n),k5] :=by
    cases sl with
    |mk l=>exact congrArg Array.mk hs
   subst es;exact⟨bm,ns,nm,qn,bs,hd,sn,sub,ab,col,dd,k0,k1,k2,k3,k5,_,X _ _ ho,hX.Ns.of_isNs (PySem.W.isNs_of_in X q5),PySem.W.nsMap_none_of_in X q5 (beq_iff_eq.mp q6),PySem.W.tail_of_in X q4⟩
section
variable {X:Cx}{x:br}{C:al}{mC:db}{rest:List db}{t:TA}{vf:List am}{B newId xS:String}{E:XK}{np aV pos:u4}
def NR (C:al) (E:XK) (t:TA):TS:=fun _ σ H=>t σ H fun vs H1=>vs.length<=sizeLine/\E (.ref C) none H1
theorem G1 (O:Zn X.K C vf newId=true) (FB:ExcBaseFacts B newId xS vf) (hc:X.calm=true) (hR:Raises X E) (hg:Gl X x) (hm:X.mg x=some (.ref C)) (ha:PA X (mC::rest) t)
  (fU:(x==("__debug__" : br))=false :=by decide) (he:starEach (mC::rest) X.env=(false,eval mC X.env)::starEach rest X.env :=by rfl) (cF:(backTo aV (starEach rest X.env)).any (·.1)=false :=by rfl) :
  PS X (.Raise (some (.Call (.Name x np) (mC::rest) [] aV)) none pos) (NR C E t) :=by
 refine⟨fun pins s σ H D I h=>?_⟩
 obtain⟨bm,Nn,nm,qn,bs,hd,sn,sub,ab,col,dd,k0,k1,k2,k3,k5,mN,hC,hN,VB,T⟩:=Ko I.ok.mod.kin O;have hp:(backTo aV (starEach (mC::rest) X.env)).any (·.1)=false :=by
  rw[he];exact cF
 have lL:=ha aV pins s σ H _ I h;rw[he]at lL;refine wpAny_Raise_call_subT (C:=C) (nm:=nm) (q:=qn) (N:=Nn) (bs:=bs) (bm:=bm) (hdct:=hd) (sn:=sn) (sub:=sub) (ab:=ab) (col:=col) (dd:=dd) (k0:=k0) (k1:=k1) (k2:=k2) (k3:=k3) (k5:=k5) FB (mN:=mN)
  (T.hasType FB.hasBase) (I.ok.hd hc) hp VB (pJ I hg hm ⟨rfl,?_⟩ fU)
 rw[he];refine YK (thn lL fun us s2 ⟨vs,H2,I2,r,l,q⟩=>?_)
 exact⟨rfl,by rw[<- r.length];exact l,I2.bk _ _ hC,hN.keeps I2.bk,T.keeps I2.bk,fun h' a hx=>hR pins σ H2 s2 C h' a us I2 hx q⟩
end
end L2
namespace L2
open PySem PySem.Spec PyProof.Rows PySem.W Builtin Builtin.ObjectAttr Builtin.Getset_descriptor
def ExcAt (C a:al) (h:hX):Prop:=∃o vs,h.get? a=some o/\o.cls=.ref C/\o.data=.fields vs
def Us (C a:al):HO:=.ext (ExcAt C a)
structure NS (K:Frag) (C:al):Prop where
 cls:(clsIn K C).isSome=true
 ga:findIn K (.ref C) "__getattribute__" = some (some (.builtin "BaseException.__getattribute__"))
 gt:findIn K (.ref C) "__getattr__" = some none
 cl:findIn K (.ref C) "__class__" = some (some (.builtin "object.__class__"))
 gg:specialIn K (.builtin "object.__class__") "__get__" = some (some (.builtin "getset_descriptor.__get__"))
 tk:takesIn K (.builtin "object.__class__")=some true
 ob:mroIn K C (.type "object")=some true
 be:mroIn K C (.type "BaseException")=some true
end L2
namespace L2
open PySem PySem.Spec PyProof.Rows PySem.W
section
variable {X:Cx}{pins pins':List (al×i8)}{σ:St}{H:Hp}{s:ar}{T:am->ar->Prop}
theorem Inv.Q9 {a:al}{o:HO}(I:Inv X pins σ H s) (n0:H a=none) (n1:X.s₀.heap.get? a=none) (n2:a≠X.env.locals) (n3:∀x c,X.env.cells.lookup x=some c->c≠a) (n4:∀p∈X.pn++pins,p.1≠a)
  (ob:ObjOk X.prog X.w (upd H a o) s.heap a o):Inv X pins σ (upd H a o) s :=by
 have un:∀b u,H b=some u->upd H a o b=some u:=fun b u e=>by rw[ah (bh e n0)];exact e
 refine⟨I.ok,I.os,I.bare,⟨I.base.keep,I.base.slot,fun b u q n hx=>?_,I.base.there,fun b xs e=>un _ _ (I.base.tups b xs e),fun b u v e=>un _ _ (I.base.frzs b u v e),fun b ps e=>?_⟩,I.loc,I.cell,?_,fun x c e=>?_,fun p hp=>?_,fun b u e=>?_,I.len⟩
 ·rw[ah (fun z=>by rw[z,n1]at q;cases q)]
  exact I.base.free b u q n hx
 ·obtain⟨more,z⟩:=I.base.tbls b ps e;exact⟨more,un _ _ z⟩
 ·rw[ah (zn n2)];exact I.free
 ·rw[ah (n3 x c e)];exact I.freeC x c e
 ·obtain⟨p1,p2,p3⟩:=I.pin p hp;exact⟨p1,by rw[ah (n4 p hp)];exact p2,p3⟩
 ·by_cases hb:b=a
  ·subst hb;rw[aB]at e;cases e;exact ob
  ·rw[ah hb]at e;exact(I.hok b u e).cE (fun _ _ _ q=>q) (fun c q=>un _ _ q) fun c xs q=>un _ _ q
end
structure D9 (K:Frag) (C0:al):Prop where
 ty:typeIn K (.ref C0)=some (.type "type")
 be:subIn K (.ref C0) (.type "BaseException")=some true
 it:(clsIn K C0).isSome=true
theorem Ra {P:en}{w:ii}{X:Cx}:Passes (gL P w) X (fun _ _ _=>False):=fun _ _ _ _ _ _ _ h=>by
 obtain⟨_,_,_,_,_,_,_,_,_,_,_,_,_,q⟩:=h;exact q.elim
theorem uW.DN {P:en}{w:ii}{K:bn}{mg:br->Option am}{base:hX}{x qual:br}{st:r9}{f:al}{fd:ln}{N ps:List br}{k:Nat}{sp:Sp}(F:uW K x qual st f fd) (S:aW N ps (aj st)) (len:∀vs H Q E,sp vs H Q E->vs.length=ps.length)
  (m6:∀(A:l5) (outer:List Lo) (s:ar) (H:Hp) (vs:List V) (Q:VK) (E:XK),cj k (A.deeper (envOfC qual (aj st) s.heap.objs.size f fd.code))->sp vs H Q E->
   ∃t,ib (gF (gL P w) P w K mg base N qual (aj st) f fd.code A outer s H E) (bU st) t/\t {nx:=fun _ H'=>Q .ax H',rt:=Q} (start N vs) H):FnOk P w K mg base (gL P w) (k+1) f fd ps sp :=by
 obtain⟨oc,od,kV,doc,pm,an,de,ct,lD,rfl,lk,eT⟩:=F.ex;exact Bp lk eT S len fun A outer s H vs Q E hr lF=>m6 A outer s H vs Q E hr lF
def SM:List am:=[.type "ValueError",.type "Exception",.type "BaseException",.type "object"]
def G2 (K:Frag) (C0 C:al):Bool:=excIn K C SM "ValueError.__new__" && (clsIn K C).isSome && findIn K (.ref C) "__getattribute__" == some (some (.builtin "BaseException.__getattribute__")) && findIn K (.ref C) "__getattr__" == some none &&
 findIn K (.ref C) "__class__" == some (some (.builtin "object.__class__")) && mroIn K C (.type "object")==some true && mroIn K C (.type "BaseException")==some true && subIn K (.ref C) (.ref C0)==some true && kitOne K (.ref C) (.type "ValueError")==some true
def BR (K:Frag) (C0:al) (cs:List al):Bool:=cs.all (G2 K C0) && (cs.all fun C=>cs.all fun D=>kitOne K (.ref C) (.ref D)==some (decide (C=D))) && specialIn K (.builtin "object.__class__") "__get__" == some (some (.builtin "getset_descriptor.__get__")) && takesIn K (.builtin "object.__class__")==some true &&
 typeIn K (.ref C0)==some (.type "type") && subIn K (.ref C0) (.type "BaseException")==some true && (clsIn K C0).isSome
structure NT (K:Frag) (C0:al) (cs:List al):Prop where
 ex:∀C∈cs,excIn K C SM "ValueError.__new__" = true
 cl:∀C∈cs,NS K C
 sub:∀C∈cs,subIn K (.ref C) (.ref C0)=some true
 one:∀C∈cs,∀D∈cs,kitOne K (.ref C) (.ref D)=some (decide (C=D))
 val:∀C∈cs,kitOne K (.ref C) (.type "ValueError")=some true
 top:D9 K C0
theorem Kp {K:Frag}{C0:al}{cs:List al}(h:BR K C0 cs=true):NT K C0 cs :=by
 unfold BR at h;simp only[Me]at h;obtain⟨⟨⟨⟨⟨⟨h1,h2⟩,h3⟩,h4⟩,h5⟩,h6⟩,h7⟩:=h;have all:∀C∈cs,G2 K C0 C=true:=xw.mp h1;have part:∀C∈cs,_:=fun C hC=>by
  have z:=all C hC;unfold G2 at z;simp only[Me]at z;exact z
 refine⟨fun C hC=>(part C hC).1.1.1.1.1.1.1.1,fun C hC=>?_,fun C hC=>beq_iff_eq.mp (part C hC).1.2,fun C hC D hD=>beq_iff_eq.mp (xw.mp (xw.mp h2 C hC) D hD),fun C hC=>beq_iff_eq.mp (part C hC).2,⟨beq_iff_eq.mp h5,beq_iff_eq.mp h6,h7⟩⟩
 obtain⟨⟨⟨⟨⟨⟨⟨⟨_,p1⟩,p2⟩,p3⟩,p4⟩,p5⟩,p6⟩,_⟩,_⟩:=part C hC;exact⟨p1,beq_iff_eq.mp p2,beq_iff_eq.mp p3,beq_iff_eq.mp p4,beq_iff_eq.mp h3,beq_iff_eq.mp h4,beq_iff_eq.mp p5,beq_iff_eq.mp p6⟩
end L2
namespace L2
open PySem PySem.Spec PyProof.Rows Builtin.SmallTypes
def SqIt (k:Bool) (h:hX) (it a:al) (i:Nat):Prop:=if k=true then h.IsListIter it a i else h.IsTupleIter it a i
def cV (k:Bool) (h:hX) (a:al) (items:Array am):Prop:=if k=true then h.IsList a items else h.IsTuple a items
theorem SqIt.at {k:Bool}{h h':hX}{it a:al}{i:Nat}(x:SqIt k h it a i) (q:∀o,h.get? it=some o->h'.get? it=some o):SqIt k h' it a i :=by
 cases k with
 |true=>exact hX.IsListIter.at (h:=h) x q
 |false=>exact hX.IsTupleIter.at (h:=h) x q
theorem SqIt.obj {k:Bool}{h:hX}{it a:al}{i:Nat}(x:SqIt k h it a i):∃o,h.get? it=some o/\∃vs,o.data=.fields vs :=by
 cases k with
 |true=>obtain⟨o,e,_,d⟩:=(show h.IsListIter it a i from x);exact⟨o,e,_,d⟩
 |false=>obtain⟨o,e,_,d⟩:=(show h.IsTupleIter it a i from x);exact⟨o,e,_,d⟩
theorem cV.obj {k:Bool}{h:hX}{a:al}{items:Array am}(x:cV k h a items):∃o n,h.get? a=some o/\o.data=.seq items n :=by
 cases k with
 |true=>obtain⟨o,e,_,n,d⟩:=(show h.IsList a items from x);exact⟨o,n,e,d⟩
 |false=>obtain⟨o,e,_,n,d⟩:=(show h.IsTuple a items from x);exact⟨o,n,e,d⟩
theorem cV.at {k:Bool}{h h':hX}{a:al}{items:Array am}(x:cV k h a items) (q:∀o,h.get? a=some o->h'.get? a=some o):cV k h' a items :=by
 cases k with
 |true=>exact hX.IsList.at (h:=h) x q
 |false=>exact hX.IsTuple.at (h:=h) x q
section
variable {prog:en}{w:ii}{A:l5}{E:am->ar->Prop}{s:ar}{it a:al}{i:Nat}{items:Array am}{x:am}{k:Bool}
theorem G3 {Q:Option am->ar->Prop}(hit:s.heap.IsTupleIter it a i) (ha:s.heap.IsTuple a items) (hx:items[i]?=some x)
  (hQ:∀h',h'.IsTupleIter it a (i+1)->rf it s.heap h'->Q (some x) {s with heap:=h'}):wpAny (model prog w) A (callSpecial? (.ref it) "__next__") Q E s :=by
 obtain⟨o,ho,hc,hd⟩:=id hit;obtain⟨ol,xG,_,nl,NU⟩:=ha;have sl:=F.slot_tuple_iterator_next;refine tz (name:=wn "__next__") hit.typeIs sl (ut sl hit.typeIs F.entry_tuple_iterator_next ?_ (F.args_tuple_iterator_next_1 _))
 have nn:¬ ((l7 a==AM)=true):=ij;refine ag (m:=field (.ref it) 0) (xp ho hd (x:=.ref a) rfl ?_);rw[if_neg nn];refine ag (m:=field (.ref it) 1) (xp ho hd (x:=.int i 0) rfl (ag (m:=seqItems? (.ref a)) (IS xG NU ?_)));simp only[kw,hx];refine ag (m:=setField _ _ _) (wpAny_setField ho hd (by simp) (bi ⟨x,rfl,hQ _ ?_ (LH ..)⟩))
 refine⟨_,ID _ ho (YF (OP hd _)),(Zv ..).trans hc,?_⟩;rw[OP hd];simp[rawInt]
theorem G4 {Q:Option am->ar->Prop}(hh:A.handled=none) (hit:s.heap.IsTupleIter it a i) (ha:s.heap.IsTuple a items) (hx:items[i]?=none)
  (hE:∀h' e,Yu it s.heap h'->(∃o,h'.get? e=some o/\o.cls=.type "StopIteration")->E (.ref e) {s with heap:=h'}):wpAny (model prog w) A (callSpecial? (.ref it) "__next__") Q E s :=by
 obtain⟨o,ho,hc,hd⟩:=id hit;obtain⟨ol,xG,_,nl,NU⟩:=ha;have sl:=F.slot_tuple_iterator_next;refine tz (name:=wn "__next__") hit.typeIs sl (ut sl hit.typeIs F.entry_tuple_iterator_next ?_ (F.args_tuple_iterator_next_1 _))
 have nn:¬ ((l7 a==AM)=true):=ij;refine ag (m:=field (.ref it) 0) (xp ho hd (x:=.ref a) rfl ?_);rw[if_neg nn];refine ag (m:=field (.ref it) 1) (xp ho hd (x:=.int i 0) rfl (ag (m:=seqItems? (.ref a)) (IS xG NU ?_)));simp only[kw,hx];refine ag (LS (ag (m:=setField _ _ _) (wpAny_setField ho hd (by simp) ?_)))
 refine ag (m:=newExc (.type "StopIteration") []) ?_
 unfold newExc newTuple;refine ag (tw ?_ (by size_fits))
 refine ag (m:=firstArgMember _ _) (Yt (a:=AM) (by first|rfl|(simp only[firstArgMember];rfl)) (tw ?_ (by size_fits)))
 refine wpAny_raiseNew_none hh ?_;exact hE _ _ (((LH ..).extBut.push _).push _) ⟨_,ci _ rfl,rfl⟩
theorem pN {Q:am->ar->Prop}(hit:SqIt k s.heap it a i) (ha:cV k s.heap a items) (hx:items[i]?=some x)
  (hQ:∀h',SqIt k h' it a (i+1)->rf it s.heap h'->Q x {s with heap:=h'}):wpAny (model prog w) A (nextOf (.ref it)) Q E s :=by
 cases k with
 |true=>exact wpAny_nextOf_list_item hit ha hx hQ
 |false=>
  unfold nextOf;exact ag (G3 hit ha hx fun h' a b=>bi (hQ h' a b))
theorem tT {Q:am->ar->Prop}(hh:A.handled=none) (hit:SqIt k s.heap it a i) (ha:cV k s.heap a items) (hx:items[i]?=none)
  (hE:∀h' e,Yu it s.heap h'->(∃o,h'.get? e=some o/\o.cls=.type "StopIteration")->E (.ref e) {s with heap:=h'}):wpAny (model prog w) A (nextOf (.ref it)) Q E s :=by
 cases k with
 |true=>exact wpAny_nextOf_list_end hh hit ha hx hE
 |false=>
  unfold nextOf;exact ag (G4 hh hit ha hx hE)
end
section
variable {prog:en}{w:ii}{A:l5}{E:am->ar->Prop}{s:ar}{e it a:al}{i:Nat}{items:Array am}{x old:am}{k:Bool}
theorem Ea {Q:am->ar->Prop}(he:Yv s.heap e it i old) (eR:e≠it) (hit:SqIt k s.heap it a i) (ha:cV k s.heap a items) (hx:items[i]?=some x)
  (hQ:∀h',aab h' e it ((i:Int)+1) x s.heap.objs.size->SqIt k h' it a (i+1)->h'.get? s.heap.objs.size=some {cls:=.type "tuple",data:=.seq #[.int i s.toks,x]}->
   (∀b o,b≠e->b≠it->s.heap.get? b=some o->h'.get? b=some o)->Q (.ref s.heap.objs.size) {s with heap:=h',toks:=s.toks+1}) :
  wpAny (model prog w) A (mf.«enumerate.__next__» ⟨[.ref e],[]⟩) (fun fin s'=>∃v,fin=.done (.ret v)/\Q v s') E s :=by
 obtain⟨hp,g,d,tk,os⟩:=s;refine ag (m:=field (.ref e) 2) (xp he rfl (x:=.ref it) rfl (ag (m:=nextOf (.ref it)) (pN hit ha hx fun h1 Eb (gM:rf it hp h1)=>?_)))
 have e1:Yv h1 e it i old:=(gM.2 e eR).trans he;refine ag (m:=field (.ref e) 3) (xp e1 rfl (x:=rawInt i) rfl (ag (m:=field (.ref e) 4) (xp e1 rfl (x:=.none) rfl (ag (m:=mkInt i) (wpAny_mkInt ?_)))));refine ag (m:=setField (.ref e) 3 _) (sB e1 (by simp) fun h2 (e2:Yv h2 e it ((i:Int)+1) old) (eB:rf e h1 h2)=>?_)
 refine ag (m:=setField (.ref e) 4 .none) (sB e2 (by simp) fun h3 (e3:Yv h3 e it ((i:Int)+1) old) (lM:rf e h2 h3)=>?_)
 refine ag (m:=newTuple [.int i tk,x]) (Zd ?_);have z3:h3.objs.size=hp.objs.size :=by rw[lM.1,eB.1,gM.1]
 have el:e<hp.objs.size:=ff he;have e4:Yv (h3.push {cls:=.type "tuple",data:=.seq #[.int i tk,x]}) e it ((i:Int)+1) old:=ba _ e3
 have t4:(h3.push {cls:=.type "tuple",data:=.seq #[.int i tk,x]}).get? hp.objs.size=some {cls:=.type "tuple",data:=.seq #[.int i tk,x]}:=z3▸ci _ rfl
 have up:∀b o,b≠e->h1.get? b=some o->(h3.push {cls:=.type "tuple",data:=.seq #[.int i tk,x]}).get? b=some o:=fun b o n q=>ba _ (lM.extBut b o n (eB.extBut b o n q))
 generalize h3.push {cls:=.type "tuple",data:=.seq #[.int i tk,x]}=h4 at e4 t4 up
 rw[z3];refine ag (m:=ownedTupleIsFree (.ref e)) ?_;unfold ownedTupleIsFree;refine ag (m:=field (.ref e) 0) (xp e4 rfl (x:=.none) rfl (bi ?_));rw[if_pos rfl];refine ag (LS (ag (m:=field (.ref e) 5) (xp e4 rfl (x:=old) rfl ?_)));refine ag (m:=setField (.ref e) 5 x) (sB e4 (by simp) fun h5 (e5:Yv h5 e it ((i:Int)+1) x) (xT:rf e h4 h5)=>?_)
 refine ag (m:=ownedTupleHandOut (.ref e) _) ?_;unfold ownedTupleHandOut;refine ag (sB e5 (by simp) fun h6 (e6:aab h6 e it ((i:Int)+1) x hp.objs.size) (VC:rf e h5 h6)=>?_)
 refine sB e6 (by simp) fun h7 (e7:aab h7 e it ((i:Int)+1) x hp.objs.size) (IL:rf e h6 h7)=>?_
 have NV:∀b o,b≠e->h4.get? b=some o->h7.get? b=some o:=fun b o n q=>IL.extBut b o n (VC.extBut b o n (xT.extBut b o n q))
 refine ag (Yr (bi ⟨_,rfl,hQ h7 e7 (Eb.at fun o q=>NV it o (zn eR) (up it o (zn eR) q)) (NV _ _ (Gc el) t4) fun b o n1 n2 q=>NV b o n1 (up b o n1 ((gM.2 b n2).trans q))⟩))
theorem Ec {Q:Option am->ar->Prop}(he:Yv s.heap e it i old) (eR:e≠it) (hit:SqIt k s.heap it a i) (ha:cV k s.heap a items) (hx:items[i]?=some x)
  (hQ:∀h',aab h' e it ((i:Int)+1) x s.heap.objs.size->SqIt k h' it a (i+1)->h'.get? s.heap.objs.size=some {cls:=.type "tuple",data:=.seq #[.int i s.toks,x]}->
   (∀b o,b≠e->b≠it->s.heap.get? b=some o->h'.get? b=some o)->Q (some (.ref s.heap.objs.size)) {s with heap:=h',toks:=s.toks+1}) :
  wpAny (model prog w) A (pyNext (.ref e)) Q E s :=by
 have hT:s.TypeIs (.ref e) "enumerate" := ⟨_,he,rfl⟩
 have sl:=F.slot_enumerate_next;unfold pyNext;exact ag (GE (tz (name:=wn "__next__") hT sl (ut sl hT F.entry_enumerate_next (Ea he eR hit ha hx fun h' a b c d=>bi (hQ h' a b c d)) (F.args_enumerate_next_1 _))))
theorem Ed {Q:Option am->ar->Prop}(hh:A.handled=none) (he:Yv s.heap e it i old) (hit:SqIt k s.heap it a i) (ha:cV k s.heap a items) (hx:items[i]?=none)
  (hQ:∀h',Yu it s.heap h'->Q none {s with heap:=h'}):wpAny (model prog w) A (pyNext (.ref e)) Q E s :=by
 have hT:s.TypeIs (.ref e) "enumerate" := ⟨_,he,rfl⟩
 have sl:=F.slot_enumerate_next;unfold pyNext;refine ag (GE (tz (name:=wn "__next__") hT sl (ut sl hT F.entry_enumerate_next ?_ (F.args_enumerate_next_1 _))))
 refine ag (m:=field (.ref e) 2) (xp he rfl (x:=.ref it) rfl (ag (m:=nextOf (.ref it)) (tT hh hit ha hx fun h' y eb ⟨o,ho,hc⟩=>?_)))
 exact ag (Sk (T := "StopIteration") (b:=true) ⟨o,ho,hc⟩ Yf (bi (hQ _ eb)))
end
end L2
namespace L2
open PySem PySem.Spec PyProof.Rows Builtin.SmallTypes AutoSeq1
theorem xU:bootBuiltins "enumerate" = some (.type "enumerate") :=by decide +kernel
theorem NW:bootBuiltins "zip" = some (.type "zip") :=by decide +kernel
section
variable {X:Cx}{pins:List (al×i8)}{σ:St}{H:Hp}{s:ar}{h':hX}
theorem Inv.mQ {t':Nat}{ch:List al}(I:Inv X pins σ H s) (k:∀b o,b ∉ ch->s.heap.get? b=some o->h'.get? b=some o) (hf:∀b∈ch,cK X pins H b):Inv X pins σ H {s with heap:=h',toks:=t'}:=by
 have C7:∀b u,H b=some u->b ∉ ch:=fun b u e z=>by rw[(hf b z).1]at e;cases e
 refine I.step (g':=s.gens) (d':=s.drawn) (ch:=ch) (fun b hb=>?_) (fun b o _ _ hc e _=>k b o hc e) (fun b o _ _ hc e _=>⟨o.slots,k b o hc e⟩) (fun _ _ _ _ n=>n)
  (fun b o hc e=>⟨o,k b o hc e⟩) (fun _ _ e=>e) (fun _ _ _ e=>e) (fun b ps e=>⟨#[],by rw[e];simp⟩) (fun m hm=>?_) (fun b u e=>?_) I.bare.self
 ·obtain⟨_,f1,f2,f3,f4,f5⟩:=hf b hb;exact⟨f3,f1,f4,f5⟩
 ·obtain⟨o,es,ep,ho,r⟩:=hm;exact⟨o,es,ep,k _ o (fun z=>(hf _ z).2.1 rfl) ho,r⟩
 ·refine(I.hok b u e).cE (fun c v hc q=>k c v ?_ q) (fun _ q=>q) fun _ _ q=>q
  rcases hc with z|z
  ·rw[z];exact C7 b u e
  ·exact C7 c _ z
theorem Inv.pair {t:al}{a b:V}{u v:am}{h1:hX}{tk tk0:Nat}(I0:Inv X pins σ H {s with toks:=tk0}) (ht:s.heap.objs.size<=t) (I:Inv X pins σ H {s with heap:=h1,toks:=tk}) (e:h1.get? t=some {cls:=.type "tuple",data:=.seq #[u,v]}) (ru:RelV a u) (rv:RelV b v) :
  Inv X pins σ (upd H t (.tup [a,b])) {s with heap:=h1,toks:=tk}:=by
 have f:=Inv.jf (H':=H) I0 (b:=t) ht (I0.hok.fresh ht);refine I.Q9 f.1 ?_ f.2.1 f.2.2.2.2.1 f.2.2.2.2.2 ⟨by show 2<=sizeLine;decide,[u,v],.cons ru (.cons rv .nil),⟨_,e,rfl,_,rfl,rfl⟩⟩
 exact hX.get?_none_of_le (sw I0.sz ht)
end
def Sq (k:Bool) (K:bn) (H:Hp) (a:al) (xs:List V):Prop:=if k=true then b9 K H a xs else dG K H a xs
theorem Inv.sq {X:Cx}{pins:List (al×i8)}{σ:St}{H:Hp}{s:ar}{k:Bool}{a:al}{xs:List V}(I:Inv X pins σ H s) (h:Sq k X.K H a xs):∃its:List am,Vals xs its/\cV k s.heap a its.toArray :=by
 cases k with
 |true=>obtain⟨its,rv,p,_⟩:=I.list (show b9 X.K H a xs from h);exact⟨its,rv,p.isList⟩
 |false=>obtain⟨its,rv,p,_⟩:=I.tuple (show dG X.K H a xs from h);exact⟨its,rv,p⟩
theorem Inv.xV {X:Cx}{pins:List (al×i8)}{σ:St}{H:Hp}{s:ar}{k:Bool}{a:al}{xs ys:List V}(I:Inv X pins σ H s) (h:Sq k X.K H a xs) (h':Sq k X.K H a ys):xs=ys :=by
 cases k with
 |true=>exact I.wU (show b9 X.K H a xs from h) h'
 |false=>exact I.uL (show dG X.K H a xs from h) h'
def IM (k:Bool) (K:bn) (a:al):It:=
 ⟨fun i H=>∃xs x,Sq k K H a xs/\xs[i]?=some x,fun i H v H'=>∃t x,H t=none/\v=.ref t/\H'=upd H t (.tup [.int (i:Nat),x])/\∀xs,Sq k K H a xs->xs[i]?=some x,fun i H=>∃xs,Sq k K H a xs/\xs.length<=i⟩
theorem Ee {P:en}{w:ii}{K:bn}{elts:List db}{x1:Nat}{pos:u4}(k:Bool) (a it e:al) (eR:e≠it) :
  Turn P w K (.Tuple elts x1 pos) (IM k K a) [e,it] e (fun i h=>(∃old,Yv h e it i old)/\SqIt k h it a i) where
 mem :=by simp
 obj:=fun i h st b hb=>by
  obtain⟨⟨old,he⟩,hit⟩:=st;simp only[im,zd,or_false]at hb;rcases hb with rfl|rfl
  ·exact⟨_,he,fun v z=>nomatch z⟩
  ·obtain⟨o,ho,vs,hd⟩:=hit.obj;exact⟨o,ho,fun v z=>by rw[hd]at z;cases z⟩
 keep:=fun i h h' st q=>by
  obtain⟨⟨old,he⟩,hit⟩:=st;exact⟨⟨old,q e (by simp) _ he⟩,hit.at fun o ho=>q it (by simp) o ho⟩
 item :=by
  intro X hP hw hK hc i pins s σ H E I hf st hg;subst hP hw hK;obtain⟨⟨old,he⟩,hit⟩:=st;obtain⟨xs,x,hq,hx⟩:=hg;obtain⟨its,rv,p⟩:=I.sq hq;obtain⟨u,hu,ru⟩:=rv.get hx;refine Ec he eR hit p (x:=u) (by simpa using hu) fun h1 eo Eb t1 kk=>?_
  refine⟨_,rfl,wpAny_letOwnedTupleGo_enum eo fun h2 e2 (eB:rf e h1 h2)=>?_⟩
  have el:e<s.heap.objs.size:=ff he;have I2:Inv X pins σ H {s with heap:=h2,toks:=s.toks+1}:=I.mQ (ch:=[e,it]) (fun b o hb q=>by
   simp only[im,zd,or_false,not_or]at hb;exact(eB.2 b hb.1).trans (kk b o hb.1 hb.2 q)) hf
  have t2:h2.get? s.heap.objs.size=some {cls:=.type "tuple",data:=.seq #[.int i s.toks,u]}:=(eB.2 _ (Gc el)).trans t1
  have hn:H s.heap.objs.size=none:=I.hok.fresh (cb _);refine⟨.ref s.heap.objs.size,_,Inv.pair (s:=s) (tk0:=s.toks) I (cb _) I2 t2 (a:=.int (i:Nat)) ⟨s.toks,rfl⟩ ru,rfl,⟨_,x,hn,rfl,rfl,fun ys hy=>by rw[I.xV hy hq];exact hx⟩,⟨⟨u,?_⟩,Eb.at fun o q=>(eB.2 it (zn eR)).trans q⟩,fun b hb=>?_⟩
  ·have c:((i+1:Nat):Int)=(i:Int)+1 :=by push_cast;rfl
   rw[c];exact e2
  ·have l:b≠s.heap.objs.size :=by
    simp only[im,zd,or_false]at hb;rcases hb with rfl|rfl
    ·exact i4 el
    ·obtain⟨o,ho,_⟩:=hit.obj;exact i4 (ff ho)
   rw[ah l];exact(hf b hb).1
 done :=by
  intro X hP hw hK hc i pins s σ H E I hf st hg;subst hP hw hK;obtain⟨⟨old,he⟩,hit⟩:=st;obtain⟨xs,hq,hx⟩:=hg;obtain⟨its,rv,p⟩:=I.sq hq;have hl:=rv.length;exact Ed (I.ok.hd hc) he hit p (by simp;omega) fun h1 eb=>⟨rfl,I.mQ (t':=s.toks) (ch:=[it]) (fun b o hb q=>eb b o (by simpa using hb) q) fun b hb=>hf b (by simp at hb;simp[hb])⟩
 self:=fun _ _ _ _ _ st h=>wpAny_pyIter_enum st.1.choose_spec h
abbrev Ef (a:al):i8:={cls:=.type "tuple_iterator",data:=.fields #[.ref a,.int 0 0]}
abbrev NX (it:al):i8:={cls:=.type "enumerate",data:=.fields #[.none,.bool false,.ref it,rawInt 0,.none,.none]}
theorem Kq (a:al) (items:Array am) (n:Nat) (dct:Option al) (sl:Array (Option am)) :
  Meets (mf.«enumerate.__new__» ⟨[.type "enumerate",.ref a],[]⟩) (fun _ R s=>s.heap.get? a=some {cls:=.type "tuple",dict:=dct,data:=.seq items n,slots:=sl} /\
   R (.ok (.ret (.ref (s.heap.push (Ef a)).objs.size))) {s with heap:=(s.heap.push (Ef a)).push (NX s.heap.objs.size)}):=
 .of_wp fun prog w A R s h=>by
  obtain⟨hp,g,d,tk,os⟩:=s;obtain⟨hl,h⟩:=h;have qQ:=sub_enumerate;have hT:hX.IsTuple (ar.heap ⟨hp,g,d,tk,os⟩) a items:=⟨_,hl,rfl,n,rfl⟩;wp_walk using ZS hl
  refine wpAny_stack_any fun st=>bi ?_
  split;case h_1 c _ _ _ _ _=>cases (c==LP "enumerate")<;>(wp_walk using ZS hl,Tk hT;exact⟨_,rfl,h⟩)
  case h_2=>wp_walk using ZS hl,Tk hT;exact⟨_,rfl,h⟩
section
variable {prog:en}{w:ii}{A:l5}{E:am->ar->Prop}{s:ar}
theorem BU {a:al}{items:Array am}{Q:am->ar->Prop}(hT:s.heap.IsTuple a items)
  (h:∀h',Yv h' (s.heap.objs.size+1) s.heap.objs.size 0 .none->h'.IsTupleIter s.heap.objs.size a 0->(∀b o,s.heap.get? b=some o->h'.get? b=some o)->Q (.ref (s.heap.objs.size+1)) {s with heap:=h'}) :
  wpAny (model prog w) A (call (.type "enumerate") [.ref a]) Q E s :=by
 obtain⟨ob,ho,hc,n,hd⟩:=hT;obtain⟨c,dd,dt,sl⟩:=ob;dsimp only at hc hd;subst hc hd;refine callType_new F.called_enumerate (by decide) (F.typeCall_enumerate_1 _) (F.newCall_enumerate_1 _) (fun obj=>F.args_object_init_2 obj _) F.entry_enumerate_new (Kq a items n dd sl) ⟨ho,?_⟩
 have z:(s.heap.push (Ef a)).objs.size=s.heap.objs.size+1:=wE ..;have he:((s.heap.push (Ef a)).push (NX s.heap.objs.size)).get? (s.heap.objs.size+1)=some (NX s.heap.objs.size):=z▸ci (s.heap.push (Ef a)) rfl;show _/\_;rw[z];exact⟨⟨_,he,rfl⟩,h _ he ⟨_,ba _ (ci _ rfl),rfl,rfl⟩ fun b o x=>ba _ (ba _ x)⟩
theorem Eg {k:Bool}{a:al}{items:Array am}{Q:am->ar->Prop}(hT:cV k s.heap a items)
  (h:∀h',Yv h' (s.heap.objs.size+1) s.heap.objs.size 0 .none->SqIt k h' s.heap.objs.size a 0->(∀b o,s.heap.get? b=some o->h'.get? b=some o)->Q (.ref (s.heap.objs.size+1)) {s with heap:=h'}) :
  wpAny (model prog w) A (call (.type "enumerate") [.ref a]) Q E s :=by
 cases k with
 |true=>exact call_enumerate_list hT fun h' a b _ c=>h h' a b c
 |false=>exact BU hT h
end
section
variable {X:Cx}{l:db}{tl:TE}{elts:List db}{x1:Nat}{tp p pos:u4}
def Rb (k:Bool) (K:bn) (tl:TE):TI:=fun σ H R=>tl σ H fun x H1=>∃a,x=.ref a/\(∃xs,Sq k K H1 a xs)/\R (IM k K a) H1
theorem Kr (k:Bool) {K:bn}(hK:X.K=K) (hg:Gl X "enumerate") (hm:X.mg "enumerate" = none) (hl:PE X l tl) (hs:starEach [l] X.env=[(false,eval l X.env)] :=by rfl) :
  PI X (.Tuple elts x1 tp) (.Call (.Name "enumerate" p) [l] [] pos) (Rb k K tl) :=by
 subst hK;intro pins s σ H R I h;refine Cc (fx I hg hm xU ?_);refine xb ?_ hs rfl;rw[hs];refine Fk (thn (hl pins s σ H _ I h) fun v s1 ⟨x,H1,I1,r1,q1⟩=>KM ?_)
 obtain⟨a,rfl,⟨xs,hq⟩,q⟩:=q1;cases (show v=l7 a from r1);obtain⟨its,rv,sq⟩:=I1.sq hq;refine Eg sq fun h' he hit kk=>?_
 refine wpAny_pyIter_enum he ?_;have I2:Inv X pins σ H1 {s1 with heap:=h'}:=I1.kept (t':=s1.toks) kk
 have ne:s1.heap.objs.size+1≠s1.heap.objs.size:=Gc (Da _);refine⟨_,[s1.heap.objs.size+1,s1.heap.objs.size],_,IM k X.K a,H1,rfl,I2,Ee k a _ _ ne,⟨⟨_,he⟩,hit⟩,fun b hb=>?_,q⟩
 simp only[im,zd,or_false]at hb;rcases hb with rfl|rfl
 ·exact I1.jf (Co _) (I1.hok.fresh (Co _))
 ·exact I1.jf (cb _) (I1.hok.fresh (cb _))
end
def wB (J:It) (ys:List (V×V)) (H:Hp):Prop:=∀i,(i<ys.length->J.go i H/\∀x H',J.yld i H x H'->∃t p,H t=none/\x=.ref t/\ys[i]?=some p/\H'=upd H t (.tup [p.1,p.2]))/\(ys.length<=i->J.stop i H)
theorem vg {k:Bool}{K:bn}{a:al}{ys:List V}{H:Hp}(h:Sq k K H a ys):wB (IM k K a) ((io ys.length).map fun i=>(V.int (i:Nat),ys.getD i .ax)) H:=fun i=>by
 have el:((io ys.length).map fun i=>(V.int (i:Nat),ys.getD i .ax)).length=ys.length :=by simp
 rw[el];refine⟨fun hi=>⟨⟨ys,ys[i],h,ap hi⟩,fun x H' ⟨t,y,n,e1,e2,e3⟩=>⟨t,(.int (i:Nat),y),n,e1,?_,e2⟩⟩,fun hi=>⟨ys,h,hi⟩⟩
 rw[bv,LG hi];have:=e3 ys h;show some (V.int (i:Nat),ys.getD i .ax)=_;rw[dL,this];rfl
section
variable {prog:en}{w:ii}{A:l5}{E:am->ar->Prop}{s:ar}{z TI TO i1 i2 l1 l2:al}{n1 n2:Nat}{xs ys:Array am}{x y a b:am}{k1 k2:Bool}
theorem G5 {Q:am->ar->Prop}(D:Z8 z TI TO i1 i2 l1 l2) (hz:Ya s.heap z TI TO .none) (iM:KB s.heap TI (.ref i1) (.ref i2)) (jb:KB s.heap TO a b)
  (h1:SqIt k1 s.heap i1 l1 n1) (h2:SqIt k2 s.heap i2 l2 n2) (q1:cV k1 s.heap l1 xs) (q2:cV k2 s.heap l2 ys) (hx:xs[n1]?=some x) (hy:ys[n2]?=some y)
  (hQ:∀h',Ya h' z TI TO (rawInt s.heap.objs.size)->KB h' TO x y->SqIt k1 h' i1 l1 (n1+1)->SqIt k2 h' i2 l2 (n2+1)->KB h' s.heap.objs.size x y->
   (∀c o,c≠z->c≠TO->c≠i1->c≠i2->s.heap.get? c=some o->h'.get? c=some o)->Q (.ref s.heap.objs.size) {s with heap:=h'}) :
  wpAny (model prog w) A (mf.«zip.__next__» ⟨[.ref z],[]⟩) (fun fin s'=>∃v,fin=.done (.ret v)/\Q v s') E s :=by
 refine ag (m:=field (.ref z) 2) (xp hz rfl (x:=.bool false) rfl (ag (m:=field (.ref z) 3) (xp hz rfl (x:=.ref TI) rfl (ag (m:=seqItems? (.ref TI)) (IS iM rfl ?_)))));refine ag (m:=ownedTupleIsFree (.ref z)) ?_;unfold ownedTupleIsFree;refine ag (m:=field (.ref z) 0) (xp hz rfl (x:=.none) rfl (bi ?_));rw[if_pos rfl];refine ag (LS (ag (m:=field (.ref z) 4) (xp hz rfl (x:=.ref TO) rfl (ag (m:=setField (.ref z) 0 .ellipsis) (sB hz (by simp) fun g1 (z1:Ya g1 z TI TO .ellipsis) gM=>?_)))))
 refine ag ?_;simp only[List.zipIdx_cons,List.zipIdx_nil,YM,List.forIn_nil];refine ag (ag (Zo ?_));refine ag (m:=nextOf (.ref i1)) (pN (h1.at fun o e=>gM.extBut _ o D.i1z e) (q1.at fun o e=>gM.extBut _ o D.l1z e) hx fun g2 IP eB=>bi ?_)
 have o2:KB g2 TO a b:=eB.extBut _ _ D.TOi1 (gM.extBut _ _ D.TOz jb);refine ag (IS o2 rfl (ag (YS o2 fun g3 (o3:KB g3 TO x b) lM=>ag (Yr (bi ?_)))))
 refine ag (ag (Zo ?_));refine ag (m:=nextOf (.ref i2)) (pN (h2.at fun o e=>lM.extBut _ o D.TOi2.symm (eB.extBut _ o D.i12.symm (gM.extBut _ o D.i2z e))) (q2.at fun o e=>lM.extBut _ o D.l2TO (eB.extBut _ o D.l2i1 (gM.extBut _ o D.l2z e))) hy fun g4 VD Eh=>bi ?_)
 have o4:KB g4 TO x b:=Eh.extBut _ _ D.TOi2 o3;refine ag (IS o4 rfl (ag (YS o4 fun g5 (o5:KB g5 TO x y) xT=>ag (Yr (bi (bi ?_))))))
 refine ag (IS o5 rfl (ag (Zd ?_)));have sz:g5.objs.size=s.heap.objs.size :=by rw[xT.1,Eh.1,lM.1,eB.1,gM.1]
 have z5:Ya g5 z TI TO .ellipsis:=xT.extBut _ _ D.TOz.symm (Eh.extBut _ _ D.i2z.symm (lM.extBut _ _ D.TOz.symm (eB.extBut _ _ D.i1z.symm z1)));have k5:∀c o,c≠z->c≠TO->c≠i1->c≠i2->s.heap.get? c=some o->g5.get? c=some o:=fun c o c1 c2 c3 c4 e=>xT.extBut _ _ c2 (Eh.extBut _ _ c4 (lM.extBut _ _ c2 (eB.extBut _ _ c3 (gM.extBut _ _ c1 e))))
 have zl:z<g5.objs.size:=ff z5;refine ag (m:=ownedTupleHandOut (.ref z) _) ?_;unfold ownedTupleHandOut;have z6:Ya (g5.push {cls:=.type "tuple",data:=.seq #[x,y]}) z TI TO .ellipsis:=ba _ z5
 refine ag (sB z6 (by simp) fun g7 (z7:Ya g7 z TI TO (rawInt g5.objs.size)) IL=>?_)
 refine sB z7 (by simp) fun g8 (z8:Ya g8 z TI TO (rawInt g5.objs.size)) SN=>?_
 have up:∀c o,c≠z->g5.get? c=some o->g8.get? c=some o:=fun c o c1 e=>SN.extBut _ _ c1 (IL.extBut _ _ c1 (ba _ e))
 have t8:KB g8 g5.objs.size x y:=SN.extBut _ _ (Gc zl) (IL.extBut _ _ (Gc zl) (ci _ rfl));rw[sz]at z8 t8;refine bi ⟨_,rfl,?_⟩;show Q (.ref g5.objs.size) _;rw[sz];exact hQ g8 z8 (up _ _ D.TOz o5) (IP.at fun o e=>up _ o D.i1z (xT.extBut _ o D.TOi1.symm (Eh.extBut _ o D.i12 (lM.extBut _ o D.TOi1.symm e)))) (VD.at fun o e=>up _ o D.i2z (xT.extBut _ o D.TOi2.symm e)) t8
  fun c o c1 c2 c3 c4 e=>up c o c1 (k5 c o c1 c2 c3 c4 e)
theorem Ks {Q:Fin->ar->Prop}(hh:A.handled=none) (D:Z8 z TI TO i1 i2 l1 l2) (hz:Ya s.heap z TI TO .none) (iM:KB s.heap TI (.ref i1) (.ref i2)) (jb:KB s.heap TO a b)
  (h1:SqIt k1 s.heap i1 l1 n1) (h2:SqIt k2 s.heap i2 l2 n2) (q1:cV k1 s.heap l1 xs) (q2:cV k2 s.heap l2 ys) (ox:xs[n1]?=none\/ys[n2]?=none)
  (hE:∀h' e,(∀c o,c≠z->c≠TO->c≠i1->c≠i2->s.heap.get? c=some o->h'.get? c=some o)->(∃o,h'.get? e=some o/\o.cls=.type "StopIteration")->E (.ref e) {s with heap:=h'}) :
  wpAny (model prog w) A (mf.«zip.__next__» ⟨[.ref z],[]⟩) Q E s :=by
 refine ag (m:=field (.ref z) 2) (xp hz rfl (x:=.bool false) rfl (ag (m:=field (.ref z) 3) (xp hz rfl (x:=.ref TI) rfl (ag (m:=seqItems? (.ref TI)) (IS iM rfl ?_)))));refine ag (m:=ownedTupleIsFree (.ref z)) ?_;unfold ownedTupleIsFree;refine ag (m:=field (.ref z) 0) (xp hz rfl (x:=.none) rfl (bi ?_));rw[if_pos rfl];refine ag (LS (ag (m:=field (.ref z) 4) (xp hz rfl (x:=.ref TO) rfl (ag (m:=setField (.ref z) 0 .ellipsis) (sB hz (by simp) fun g1 (z1:Ya g1 z TI TO .ellipsis) gM=>?_)))))
 refine ag ?_;simp only[List.zipIdx_cons,List.zipIdx_nil,YM,List.forIn_nil];refine ag (ag (Zo ?_));have stop:∀(g:hX) (e:al),Ya g z TI TO .ellipsis->(∃o,g.get? e=some o/\o.cls=.type "StopIteration")->(∀c o,c≠z->c≠TO->c≠i1->c≠i2->s.heap.get? c=some o->g.get? c=some o)->
   wpAny (model prog w) A (setField (.ref z) 0 .none) (fun _ s'=>E (.ref e) s') E {s with heap:=g}:=fun g e zg ⟨o,ho,hc⟩ kk=>by
  have ne:e≠z:=fun q=>by subst q;rw[zg]at ho;cases ho;simp at hc
  exact sB zg (by simp) fun g' _ SQ=>hE g' e (fun c o c1 c2 c3 c4 q=>SQ.extBut _ _ c1 (kk c o c1 c2 c3 c4 q)) ⟨o,SQ.extBut _ _ ne ho,hc⟩
 cases hx:xs[n1]? with
 |none=>
  refine ag (m:=nextOf (.ref i1)) (tT hh (h1.at fun o e=>gM.extBut _ o D.i1z e) (q1.at fun o e=>gM.extBut _ o D.l1z e) hx fun g2 e eb he=>?_)
  exact stop g2 e (eb _ _ D.i1z.symm z1) he fun c o c1 c2 c3 c4 q=>eb _ _ c3 (gM.extBut _ _ c1 q)
 |some x=>
  have hy:ys[n2]?=none:=ox.elim (fun q=>by rw[hx]at q;cases q) id
  refine ag (m:=nextOf (.ref i1)) (pN (h1.at fun o e=>gM.extBut _ o D.i1z e) (q1.at fun o e=>gM.extBut _ o D.l1z e) hx fun g2 IP eB=>bi ?_)
  have o2:KB g2 TO a b:=eB.extBut _ _ D.TOi1 (gM.extBut _ _ D.TOz jb);refine ag (IS o2 rfl (ag (YS o2 fun g3 (o3:KB g3 TO x b) lM=>ag (Yr (bi ?_)))))
  refine ag (ag (Zo ?_));refine ag (m:=nextOf (.ref i2)) (tT hh (h2.at fun o e=>lM.extBut _ o D.TOi2.symm (eB.extBut _ o D.i12.symm (gM.extBut _ o D.i2z e))) (q2.at fun o e=>lM.extBut _ o D.l2TO (eB.extBut _ o D.l2i1 (gM.extBut _ o D.l2z e))) hy fun g4 e eb he=>?_)
  exact stop g4 e (eb _ _ D.i2z.symm (lM.extBut _ _ D.TOz.symm (eB.extBut _ _ D.i1z.symm z1))) he fun c o c1 c2 c3 c4 q=>eb _ _ c4 (lM.extBut _ _ c2 (eB.extBut _ _ c3 (gM.extBut _ _ c1 q)))
theorem G6 {Q:Option am->ar->Prop}(D:Z8 z TI TO i1 i2 l1 l2) (hz:Ya s.heap z TI TO .none) (iM:KB s.heap TI (.ref i1) (.ref i2)) (jb:KB s.heap TO a b)
  (h1:SqIt k1 s.heap i1 l1 n1) (h2:SqIt k2 s.heap i2 l2 n2) (q1:cV k1 s.heap l1 xs) (q2:cV k2 s.heap l2 ys) (hx:xs[n1]?=some x) (hy:ys[n2]?=some y)
  (hQ:∀h',Ya h' z TI TO (rawInt s.heap.objs.size)->KB h' TO x y->SqIt k1 h' i1 l1 (n1+1)->SqIt k2 h' i2 l2 (n2+1)->KB h' s.heap.objs.size x y->
   (∀c o,c≠z->c≠TO->c≠i1->c≠i2->s.heap.get? c=some o->h'.get? c=some o)->Q (some (.ref s.heap.objs.size)) {s with heap:=h'}):wpAny (model prog w) A (pyNext (.ref z)) Q E s :=by
 have hT:s.TypeIs (.ref z) "zip" := ⟨_,hz,rfl⟩
 have sl:=F.slot_zip_next;unfold pyNext;exact ag (GE (tz (name:=wn "__next__") hT sl (ut sl hT F.entry_zip_next (G5 D hz iM jb h1 h2 q1 q2 hx hy fun h' b1 b2 b3 b4 b5 b6=>bi (hQ h' b1 b2 b3 b4 b5 b6)) (F.args_zip_next_1 _))))
theorem G7 {Q:Option am->ar->Prop}(hh:A.handled=none) (D:Z8 z TI TO i1 i2 l1 l2) (hz:Ya s.heap z TI TO .none) (iM:KB s.heap TI (.ref i1) (.ref i2)) (jb:KB s.heap TO a b)
  (h1:SqIt k1 s.heap i1 l1 n1) (h2:SqIt k2 s.heap i2 l2 n2) (q1:cV k1 s.heap l1 xs) (q2:cV k2 s.heap l2 ys) (ox:xs[n1]?=none\/ys[n2]?=none)
  (hQ:∀h',(∀c o,c≠z->c≠TO->c≠i1->c≠i2->s.heap.get? c=some o->h'.get? c=some o)->Q none {s with heap:=h'}):wpAny (model prog w) A (pyNext (.ref z)) Q E s :=by
 have hT:s.TypeIs (.ref z) "zip" := ⟨_,hz,rfl⟩
 have sl:=F.slot_zip_next;unfold pyNext;refine ag (GE (tz (name:=wn "__next__") hT sl (ut sl hT F.entry_zip_next (Ks hh D hz iM jb h1 h2 q1 q2 ox fun h' e kk ⟨o,ho,hc⟩=>?_) (F.args_zip_next_1 _))))
 exact ag (Sk (T := "StopIteration") (b:=true) ⟨o,ho,hc⟩ Yf (bi (hQ _ kk)))
end
def IQ (k1 k2:Bool) (K:bn) (a1 a2:al):It:=
 ⟨fun i H=>∃xs ys x y,Sq k1 K H a1 xs/\Sq k2 K H a2 ys/\xs[i]?=some x/\ys[i]?=some y,fun i H v H'=>∃t x y,H t=none/\v=.ref t/\H'=upd H t (.tup [x,y])/\(∀xs,Sq k1 K H a1 xs->xs[i]?=some x)/\∀ys,Sq k2 K H a2 ys->ys[i]?=some y,
  fun i H=>∃xs ys,Sq k1 K H a1 xs/\Sq k2 K H a2 ys/\(xs.length<=i\/ys.length<=i)⟩
theorem G8 {P:en}{w:ii}{K:bn}{elts:List db}{x1:Nat}{pos:u4}(k1 k2:Bool) (z TI TO i1 i2 l1 l2:al) (D:Z8 z TI TO i1 i2 l1 l2) :
  Turn P w K (.Tuple elts x1 pos) (IQ k1 k2 K l1 l2) [z,TI,TO,i1,i2] z (fun i h=>Ya h z TI TO .none/\KB h TI (.ref i1) (.ref i2)/\(∃a b,KB h TO a b)/\SqIt k1 h i1 l1 i/\SqIt k2 h i2 l2 i) where
 mem :=by simp
 obj:=fun i h st b hb=>by
  obtain⟨hz,iM,⟨a,c,jb⟩,h1,h2⟩:=st;simp only[im,zd,or_false]at hb;rcases hb with rfl|rfl|rfl|rfl|rfl
  ·exact⟨_,hz,fun v q=>nomatch q⟩
  ·exact⟨_,iM,fun v q=>nomatch q⟩
  ·exact⟨_,jb,fun v q=>nomatch q⟩
  ·obtain⟨o,ho,vs,hd⟩:=h1.obj;exact⟨o,ho,fun v q=>by rw[hd]at q;cases q⟩
  ·obtain⟨o,ho,vs,hd⟩:=h2.obj;exact⟨o,ho,fun v q=>by rw[hd]at q;cases q⟩
 keep:=fun i h h' st q=>by
  obtain⟨hz,iM,⟨a,c,jb⟩,h1,h2⟩:=st;exact⟨q z (by simp) _ hz,q TI (by simp) _ iM,⟨a,c,q TO (by simp) _ jb⟩,h1.at fun o ho=>q i1 (by simp) o ho,h2.at fun o ho=>q i2 (by simp) o ho⟩
 item :=by
  intro X hP hw hK hc i pins s σ H E I hf st hg;subst hP hw hK;obtain⟨hz,iM,⟨a,c,jb⟩,h1,h2⟩:=st;obtain⟨xs,ys,x,y,Ao,Ap,hx,hy⟩:=hg;obtain⟨NY,IU,p1⟩:=I.sq Ao;obtain⟨u1,xN,VE⟩:=IU.get hx;obtain⟨cz,gE,p2⟩:=I.sq Ap;obtain⟨u2,VF,VG⟩:=gE.get hy;refine G6 D hz iM jb h1 h2 p1 p2 (x:=u1) (y:=u2) (by simpa using xN) (by simpa using VF) fun g1 zo VH Eb IP t1 kk=>?_
  refine⟨_,rfl,wpAny_letOwnedTupleGo_zip zo fun g2 z2 (eB:rf z g1 g2)=>?_⟩
  have zl:z<s.heap.objs.size:=ff hz;have I2:Inv X pins σ H {s with heap:=g2}:=I.mQ (t':=s.toks) (ch:=[z,TO,i1,i2]) (fun b o hb q=>by
   simp only[im,zd,or_false,not_or]at hb;exact(eB.2 b hb.1).trans (kk b o hb.1 hb.2.1 hb.2.2.1 hb.2.2.2 q)) fun b hb=>hf b (by simp at hb ⊢;rcases hb with h|h|h|h<;>simp[h])
  have hn:H s.heap.objs.size=none:=I.hok.fresh (cb _);refine⟨.ref s.heap.objs.size,_,Inv.pair (s:=s) (tk0:=s.toks) (tk:=s.toks) I (cb _) I2 ((eB.2 _ (Gc zl)).trans t1) VE VG,rfl,⟨_,x,y,hn,rfl,rfl,fun zs hs=>by rw[I.xV hs Ao];exact hx,fun zs hs=>by rw[I.xV hs Ap];exact hy⟩,
   ⟨z2,(eB.2 _ D.TIz).trans (kk _ _ D.TIz D.TITO D.TIi1 D.TIi2 iM),⟨u1,u2,(eB.2 _ D.TOz).trans VH⟩,Eb.at fun o q=>(eB.2 _ D.i1z).trans q,IP.at fun o q=>(eB.2 _ D.i2z).trans q⟩,fun b hb=>?_⟩
  have l:b≠s.heap.objs.size :=by
   have ex:∃o,s.heap.get? b=some o :=by
    simp only[im,zd,or_false]at hb;rcases hb with rfl|rfl|rfl|rfl|rfl
    ·exact⟨_,hz⟩
    ·exact⟨_,iM⟩
    ·exact⟨_,jb⟩
    ·obtain⟨o,ho,_⟩:=h1.obj;exact⟨o,ho⟩
    ·obtain⟨o,ho,_⟩:=h2.obj;exact⟨o,ho⟩
   obtain⟨o,ho⟩:=ex;exact i4 (ff ho)
  rw[ah l];exact(hf b hb).1
 done :=by
  intro X hP hw hK hc i pins s σ H E I hf st hg;subst hP hw hK;obtain⟨hz,iM,⟨a,c,jb⟩,h1,h2⟩:=st;obtain⟨xs,ys,Ao,Ap,hx⟩:=hg;obtain⟨NY,IU,p1⟩:=I.sq Ao;obtain⟨cz,gE,p2⟩:=I.sq Ap;have lK:=IU.length;have iE:=gE.length;exact G7 (I.ok.hd hc) D hz iM jb h1 h2 p1 p2 (by rcases hx with h|h;exact .inl (by simp;omega);exact .inr (by simp;omega)) fun g1 kk=>⟨rfl,I.mQ (t':=s.toks) (ch:=[z,TO,i1,i2]) (fun b o hb q=>by
   simp only[im,zd,or_false,not_or]at hb;exact kk b o hb.1 hb.2.1 hb.2.2.1 hb.2.2.2 q) fun b hb=>hf b (by simp at hb ⊢;rcases hb with h|h|h|h<;>simp[h])⟩
 self:=fun _ _ _ _ _ st h=>wpAny_pyIter_zip st.1 h
abbrev vh (k:Bool) (a:al):i8:={cls:=.type (if k=true then "list_iterator" else "tuple_iterator"),data:=.fields #[.ref a,.int 0 0]}
theorem vi {prog:en}{w:ii}{A:l5}{E:am->ar->Prop}{s:ar}{k:Bool}{a:al}{items:Array am}{Q:am->ar->Prop}(h:cV k s.heap a items) (hQ:Q (.ref s.heap.objs.size) {s with heap:=s.heap.push (vh k a)}) :
  wpAny (model prog w) A (pyIter (.ref a)) Q E s :=by
 cases k with
 |true=>exact Yl h hQ
 |false=>exact Tk h hQ
theorem Ei {k:Bool}{a it:al}{h:hX}(e:h.get? it=some (vh k a)):SqIt k h it a 0 :=by
 cases k with
 |true=>exact⟨_,e,rfl,rfl⟩
 |false=>exact⟨_,e,rfl,rfl⟩
abbrev IV (k1 k2:Bool) (h:hX) (a1 a2:al):hX:=(h.push (vh k1 a1)).push (vh k2 a2)
abbrev IW (k1 k2:Bool) (h:hX) (a1 a2:al):hX:=(IV k1 k2 h a1 a2).push {cls:=.type "tuple",data:=.seq #[.ref h.objs.size,.ref (h.push (vh k1 a1)).objs.size]}
abbrev IX (k1 k2:Bool) (h:hX) (a1 a2:al):hX:=(IW k1 k2 h a1 a2).push {cls:=.type "tuple",data:=.seq #[.none,.none]}
abbrev Aq (k1 k2:Bool) (h:hX) (a1 a2:al):hX:=(IX k1 k2 h a1 a2).push {cls:=.type "zip",data:=.fields #[.none,.bool false,.bool false,.ref (IV k1 k2 h a1 a2).objs.size,.ref (IW k1 k2 h a1 a2).objs.size]}
theorem NZ (k1 k2:Bool) (a1 a2:al) (xs ys:Array am) :
  Meets (mf.«zip.__new__» ⟨[.type "zip",.ref a1,.ref a2],[]⟩) (fun _ R s=>cV k1 s.heap a1 xs/\cV k2 s.heap a2 ys/\R (.ok (.ret (.ref (IX k1 k2 s.heap a1 a2).objs.size))) {s with heap:=Aq k1 k2 s.heap a1 a2}):=
 .of_wp fun prog w A R s h=>by
  obtain⟨hp,g,d,tk,os⟩:=s;obtain⟨q1,q2,h⟩:=h;have qQ:=sub_zip;have Q1:cV k1 (ar.heap ⟨hp,g,d,tk,os⟩) a1 xs:=q1;have Q2:cV k2 (ar.heap ⟨hp.push (vh k1 a1),g,d,tk,os⟩) a2 ys:=cV.at (h:=hp) q2 fun o e=>ba _ e
  wp_walk using vi Q1,vi Q2
  exact⟨_,rfl,h⟩
section
variable {prog:en}{w:ii}{A:l5}{E:am->ar->Prop}{s:ar}{k1 k2:Bool}{a1 a2:al}{xs ys:Array am}
theorem Kt {Q:am->ar->Prop}(q1:cV k1 s.heap a1 xs) (q2:cV k2 s.heap a2 ys)
  (h:∀h',Ya h' (s.heap.objs.size+4) (s.heap.objs.size+2) (s.heap.objs.size+3) .none->KB h' (s.heap.objs.size+2) (.ref s.heap.objs.size) (.ref (s.heap.objs.size+1))->KB h' (s.heap.objs.size+3) .none .none->
   SqIt k1 h' s.heap.objs.size a1 0->SqIt k2 h' (s.heap.objs.size+1) a2 0->(∀c o,s.heap.get? c=some o->h'.get? c=some o)->Q (.ref (s.heap.objs.size+4)) {s with heap:=h'}) :
  wpAny (model prog w) A (call (.type "zip") [.ref a1,.ref a2]) Q E s :=by
 refine callType_new F.called_zip (by decide) (F.typeCall_zip_2 _ _) (F.newCall_zip_2 _ _) (fun obj=>F.args_object_init_3 obj _ _) F.entry_zip_new (NZ k1 k2 a1 a2 xs ys) ⟨q1,q2,?_⟩
 have p:∀{g:hX} {o o':i8} {b:al},g.get? b=some o->(g.push o').get? b=some o:=fun e=>ba _ e
 have e1:(s.heap.push (vh k1 a1)).objs.size=s.heap.objs.size+1:=wE ..;have e2:(IV k1 k2 s.heap a1 a2).objs.size=s.heap.objs.size+2 :=by rw[wE,e1]
 have e3:(IW k1 k2 s.heap a1 a2).objs.size=s.heap.objs.size+3 :=by rw[wE,e2]
 have e4:(IX k1 k2 s.heap a1 a2).objs.size=s.heap.objs.size+4 :=by rw[wE,e3]
 have g5:(Aq k1 k2 s.heap a1 a2).get? (IX k1 k2 s.heap a1 a2).objs.size=some _:=ci _ rfl;have g4:(Aq k1 k2 s.heap a1 a2).get? (IW k1 k2 s.heap a1 a2).objs.size=some _:=p (ci _ rfl);have g3:(Aq k1 k2 s.heap a1 a2).get? (IV k1 k2 s.heap a1 a2).objs.size=some _:=p (p (ci _ rfl));have g2:(Aq k1 k2 s.heap a1 a2).get? (s.heap.push (vh k1 a1)).objs.size=some _:=p (p (p (ci _ rfl)));have g1:(Aq k1 k2 s.heap a1 a2).get? s.heap.objs.size=some _:=p (p (p (p (ci _ rfl))));show _/\_;rw[e2,e3,e4]at g5;rw[e1,e2]at g3;rw[e3]at g4;rw[e1]at g2;rw[e4];exact⟨⟨_,g5,rfl⟩,h _ g5 g3 g4 (Ei g1) (Ei g2) fun c o q=>p (p (p (p (p q))))⟩
end
section
variable {X:Cx}{l1 l2:db}{t1 t2:TE}{elts:List db}{x1:Nat}{tp p pos:u4}
def Ut (k1 k2:Bool) (K:bn) (t1 t2:TE):TI:=fun σ H R=>t1 σ H fun x H1=>t2 σ H1 fun y H2=>∃a1 a2,x=.ref a1/\y=.ref a2/\(∃xs,Sq k1 K H2 a1 xs)/\(∃ys,Sq k2 K H2 a2 ys)/\R (IQ k1 k2 K a1 a2) H2
theorem N0 (k1 k2:Bool) {K:bn}(hK:X.K=K) (hg:Gl X "zip") (hm:X.mg "zip" = none) (h1:PE X l1 t1) (h2:PE X l2 t2) (hs:starEach [l1,l2] X.env=(false,eval l1 X.env)::starEach [l2] X.env :=by rfl) (nR:starEach [l2] X.env=[(false,eval l2 X.env)] :=by rfl) :
  PI X (.Tuple elts x1 tp) (.Call (.Name "zip" p) [l1,l2] [] pos) (Ut k1 k2 K t1 t2) :=by
 subst hK;intro pins s σ H R I h;refine Cc (fx I hg hm NW ?_);refine xb ?_ hs (by rw[nR];rfl)
 rw[hs,nR];refine Fk (thn (h1 pins s σ H _ I h) fun v s1 ⟨x,H1,I1,r1,q1⟩=>Fk (thn (h2 pins s1 σ H1 _ I1 q1) fun u s2 ⟨y,H2,I2,r2,q2⟩=>KM ?_))
 obtain⟨a1,a2,rfl,rfl,⟨xs,Ao⟩,⟨ys,Ap⟩,q⟩:=q2;cases (show v=l7 a1 from r1);cases (show u=l7 a2 from r2);obtain⟨NY,IU,SR⟩:=I2.sq Ao;obtain⟨cz,gE,SU⟩:=I2.sq Ap;refine Kt SR SU fun h' hz iM jb i1 i2 kk=>?_
 refine wpAny_pyIter_zip hz ?_;have I3:Inv X pins σ H2 {s2 with heap:=h'}:=I2.kept (t':=s2.toks) kk
 have VI:a1<s2.heap.objs.size:=let ⟨o,n,ho,_⟩:=SR.obj;ff ho;have VJ:a2<s2.heap.objs.size:=let ⟨o,n,ho,_⟩:=SU.obj;ff ho;refine⟨_,[s2.heap.objs.size+4,s2.heap.objs.size+2,s2.heap.objs.size+3,s2.heap.objs.size,s2.heap.objs.size+1],_,IQ k1 k2 X.K a1 a2,H2,rfl,I3,G8 k1 k2 _ _ _ _ _ a1 a2 (zipApart_new VI VJ),⟨hz,iM,⟨_,_,jb⟩,i1,i2⟩,fun b hb=>?_,q⟩
 have ge:s2.heap.objs.size<=b :=by
  simp only[im,zd,or_false]at hb;rcases hb with rfl|rfl|rfl|rfl|rfl
  ·exact X4 _ _
  ·exact X4 _ _
  ·exact X4 _ _
  ·exact cb _
  ·exact X4 _ _
 exact I2.jf ge (I2.hok.fresh ge)
end
theorem G9 {k1 k2:Bool}{K:bn}{a1 a2:al}{xs ys:List V}{H:Hp}(h1:Sq k1 K H a1 xs) (h2:Sq k2 K H a2 ys):wB (IQ k1 k2 K a1 a2) (xs.zip ys) H:=fun i=>by
 refine⟨fun hi=>?_,fun hi=>?_⟩
 ·have ee:=hi;rw[BS]at ee;have i1:i<xs.length :=by omega
  have i2:i<ys.length :=by omega
  refine⟨⟨xs,ys,xs[i],ys[i],h1,h2,ap i1,ap i2⟩,fun v H' ⟨t,x,y,n,e1,e2,e3,e4⟩=>⟨t,(x,y),n,e1,?_,e2⟩⟩
  rw[ss];exact⟨e3 xs h1,e4 ys h2⟩
 ·rw[BS]at hi;exact⟨xs,ys,h1,h2,by omega⟩
end L2
namespace L2
open PySem PySem.Spec PyProof.Rows
section
variable {X:Cx}{st:r9}{ι:Type}{Pre:ι->St->Hp->Prop}{D:ι->Ends}
theorem v3 {P:en}{w:ii}{K:bn}(hP:X.prog=P) (hw:X.w=w) (h:X.K=K) (hc:X.calm=true):dM X (.builtin "sorted") (An P w K) :=by
 subst hP hw h;exact xR hc
theorem PS.km {st:r9}{t:TS}(h:PS X.km st t):PS X st t:=⟨fun pins s σ H D I hw=>
 l6 (h pins s σ H D (I.jR _) hw) (fun _ _ q=>q.gJ) fun _ _ z=>FF z⟩
end
section
variable {κ:Type} [DecidableEq κ]
def jT (ak:List (κ×V)) (k:κ):Option V:=(ak.find? fun kv=>decide (kv.1=k)).map (·.2)
def putK (ak:List (κ×V)) (k:κ) (v:V):List (κ×V):=
 if (ak.any fun kv=>decide (kv.1=k))=true then ak.map (fun kv=>if kv.1=k then (kv.1,v) else kv) else ak++[(k,v)]
theorem nh {p:κ×V}{r:List (κ×V)}{k:κ}(e:p.1=k):jT (p::r) k=some p.2 :=by simp[jT,TM,e]
theorem ni {p:κ×V}{r:List (κ×V)}{k:κ}(e:¬ p.1=k):jT (p::r) k=jT r k :=by simp[jT,TM,e]
theorem qR (k:κ):∀ak:List (κ×V),(ak.any fun kv=>decide (kv.1=k))=(jT ak k).isSome
 | []=>rfl
 |p::r=>by
          rw[List.any_cons];by_cases e:p.1=k
          ·simp only[nh e,decide_eq_true e,Bool.true_or,Zj]
          ·rw[ni e,decide_eq_false e,Bool.false_or];exact qR k r
theorem gN (ak:List (κ×V)) (k:κ) (v:V):(putK ak k v).length<=ak.length+1 :=by
 unfold putK;split
 ·rw[ca];omega
 ·rw[xz,xy,NE];omega
theorem jd.oG {o:Option V}{u:Option am}(r:jd o u):o.isSome=u.isSome :=by
 cases o with
 |none=>cases u with
  |none=>rfl
  |some _=>exact(show False from r).elim
 |some _=>cases u with
  |none=>exact(show False from r).elim
  |some _=>rfl
theorem jd.getD {o:Option V}{u:Option am}{d:V}{d':am}(r:jd o u) (rd:RelV d d'):RelV (o.getD d) (u.getD d') :=by
 cases o with
 |none=>cases u with
  |none=>exact rd
  |some _=>exact(show False from r).elim
 |some _=>cases u with
  |none=>exact(show False from r).elim
  |some _=>exact r
theorem KV.val {ak:List (κ×V)}{vs:List (κ×am)}(r:KV ak vs) (k:κ):jd (jT ak k) (valueAt vs k) :=by
 unfold KV at r;induction r with
 |nil=>exact IR
 | @cons p q ps qs h t ih=>
  obtain⟨h1,h2⟩:=h;by_cases e:p.1=k
  ·have e':q.1=k:=h1.symm.trans e;have b:valueAt (q::qs) k=some q.2 :=by simp[valueAt,TM,e']
   rw[nh e,b];exact h2
  ·have e':¬ q.1=k:=fun z=>e (h1.trans z)
   have b:valueAt (q::qs) k=valueAt qs k :=by simp[valueAt,TM,e']
   rw[ni e,b];exact ih
theorem KV.any {ak:List (κ×V)}{vs:List (κ×am)}(r:KV ak vs) (k:κ):(ak.any fun kv=>decide (kv.1=k))=vs.any fun kv=>decide (kv.1=k) :=by
 unfold KV at r;induction r with
 |nil=>rfl
 |cons h t ih=>rw[List.any_cons,List.any_cons,ih,h.1]
theorem KV.repl {ak:List (κ×V)}{vs:List (κ×am)}(r:KV ak vs) (k:κ) {y:V}{u:am}(ry:RelV y u) :
  KV (ak.map fun kv=>if kv.1=k then (kv.1,y) else kv) (vs.map fun kv=>if kv.1=k then (kv.1,u) else kv) :=by
 unfold KV at r ⊢;induction r with
 |nil=>exact .nil
 | @cons p q ps qs h t ih=>
  rw[lw,lw];refine .cons ?_ ih;obtain⟨h1,h2⟩:=h;by_cases e:p.1=k
  ·rw[if_pos e,if_pos (h1.symm.trans e)];exact⟨h1,ry⟩
  ·rw[if_neg e,if_neg (fun z=>e (h1.trans z))];exact⟨h1,h2⟩
theorem KV.put {ak:List (κ×V)}{vs:List (κ×am)}(r:KV ak vs) (k:κ) {y:V}{u:am}(ry:RelV y u):KV (putK ak k y) (stored vs k u) :=by
 unfold putK stored;rw[r.any k];by_cases e:(vs.any fun kv=>decide (kv.1=k))=true
 ·rw[if_pos e,if_pos e];exact r.repl k ry
 ·rw[if_neg e,if_neg e];exact FM.snoc r ⟨rfl,ry⟩
theorem KV.length {ak:List (κ×V)}{vs:List (κ×am)}(r:KV ak vs):ak.length=vs.length:=SL r
end
theorem lN {P:en}{w:ii}{k:Key}{u:am}(r:RelV (kV k) u):(bA P w).is k u=true :=by
 cases k with
 |inl i=>obtain⟨t,e⟩:=(show ∃t,u=Ze i t from r);subst e;exact zt P w i t
 |inr x=>obtain⟨t,e⟩:=(show ∃t,u=YE x t from r);subst e;exact zu P w x t
theorem vj {P:en}{w:ii}:∀{ks:List Key}{us:List am},Vals (ks.map kV) us->ItemsAre (bA P w) ks us
 | [],_,r=>by rw[Rs]at r;cases r;exact .nil
 |k::ks,_,r=>by
          rw[lw]at r;cases r with
          |cons h t=>exact .cons (lN h) (vj t)
abbrev KT (H:Hp):List (List Key×V)->List (List Key×al×am)->Prop:=FM fun p q=>p.1=q.1/\H q.2.1=some (.tup (p.1.map kV))/\RelV p.2 q.2.2
theorem KT.val {H:Hp}{ak:List (List Key×V)}{xs:List (List Key×al×am)}(r:KT H ak xs) (k:List Key):jd (jT ak k) ((atKey xs k).map (·.2)) :=by
 induction r with
 |nil=>exact IR
 | @cons p q ps qs h t ih=>
  obtain⟨h1,_,h2⟩:=h;by_cases e:p.1=k
  ·have e':q.1=k:=h1.symm.trans e;have b:atKey (q::qs) k=some q.2 :=by simp[atKey,TM,e']
   rw[nh e,b];exact h2
  ·have e':¬ q.1=k:=fun z=>e (h1.trans z)
   have b:atKey (q::qs) k=atKey qs k :=by simp[atKey,TM,e']
   rw[ni e,b];exact ih
theorem KT.repl {H:Hp}{ak:List (List Key×V)}{xs:List (List Key×al×am)}(r:KT H ak xs) (k:List Key) {y:V}{u:am}(ry:RelV y u) :
  KT H (ak.map fun kv=>if kv.1=k then (kv.1,y) else kv) (xs.map (putAt k u)) :=by
 induction r with
 |nil=>exact .nil
 | @cons p q ps qs h t ih=>
  rw[lw,lw];refine .cons ?_ ih;obtain⟨h1,h2,h3⟩:=h;unfold putAt;by_cases e:p.1=k
  ·rw[if_pos e,if_pos (h1.symm.trans e)];exact⟨h1,h2,ry⟩
  ·rw[if_neg e,if_neg (fun z=>e (h1.trans z))];exact⟨h1,h2,h3⟩
theorem KT.put {H:Hp}{ak:List (List Key×V)}{xs:List (List Key×al×am)}(r:KT H ak xs) (k:List Key) {b:al}{y:V}{u:am}(hb:H b=some (.tup (k.map kV))) (ry:RelV y u) :
  KT H (putK ak k y) (storedH xs k b u) :=by
 have e:(ak.any fun kv=>decide (kv.1=k))=(atKey xs k).isSome :=by
  rw[qR,(r.val k).oG,Zx]
 unfold putK storedH;rw[e];by_cases q:(atKey xs k).isSome=true
 ·rw[if_pos q,if_pos q];exact r.repl k ry
 ·rw[if_neg q,if_neg q];exact FM.snoc r ⟨rfl,hb,ry⟩
theorem KT.keeps {H H':Hp}{ak:List (List Key×V)}{xs:List (List Key×al×am)}(r:KT H ak xs) (ht:∀b ys,H b=some (.tup ys)->H' b=some (.tup ys)):KT H' ak xs:=
 FM.F8 r fun _ _ z=>⟨z.1,ht _ _ z.2.1,z.2.2⟩
section
variable {P:en}{w:ii}{H:Hp}{h:hX}{a:al}
theorem IY {u:HO}(ok:c0 P w H h) (e:Rd H a u):ObjOk P w H h a u:=e.ok ok
theorem nj {ak:List (Key×V)}(ok:c0 P w H h) (e:Rd H a (.dK ak)):ak.length<=sizeLine/\(a==sysModules)=false/\∃vs,KV ak vs/\h.DictOf (bA P w) a vs:=
 show ObjOk P w H h a (.dK ak) from IY ok e
theorem BV {ak:List (Key×V)}(ok:c0 P w H h) (e:H a=some (.dK ak)):ak.length<=sizeLine/\(a==sysModules)=false/\∃vs,KV ak vs/\h.DictOf (bA P w) a vs:=nj ok (.inl e)
theorem jG {ks:List Key}(ok:c0 P w H h) (e:H a=some (.tup (ks.map kV))):(tupleKind (bA P w)).is h ks a :=by
 obtain⟨_,its,r,o,h1,h2,n,h3,_⟩:=(show ObjOk P w H h a (.tup (ks.map kV)) from ok a _ e);exact⟨o,its.toArray,n,h1,h2,h3,by simpa using vj r⟩
theorem lQ {ak:List (List Key×V)}(ok:c0 P w H h) (e:Rd H a (.dT ak)):ak.length<=sizeLine/\(a==sysModules)=false /\
  ∃xs,KT H ak xs/\h.DictOfH (tupleKind (bA P w)) a xs :=by
 obtain⟨z,y,xs,r,o,es,ep,h1,h2,h3,h4,h5⟩:=(show ObjOk P w H h a (.dT ak) from IY ok e);refine⟨z,y,xs,r,o,es,ep,h1,h2,h3,h4,fun x hx=>?_,h5⟩
 have all:∀{l:List (List Key×V)} {m:List (List Key×al×am)},KT H l m->∀x∈m,(tupleKind (bA P w)).is h x.1 x.2.1 :=by
  intro l m q;induction q with
  |nil=>intro x hx;exact nomatch hx
  | @cons p q ps qs hq t ih=>
   intro x hx;rcases im.mp hx with e|hx
   ·subst e;exact jG ok (by rw[<- hq.1];exact hq.2.1)
   ·exact ih x hx
 exact all r x hx
theorem BW {ak:List (List Key×V)}(ok:c0 P w H h) (e:H a=some (.dT ak)):ak.length<=sizeLine/\(a==sysModules)=false /\
  ∃xs,KT H ak xs/\h.DictOfH (tupleKind (bA P w)) a xs:=lQ ok (.inl e)
end
def mD (H:Hp) (a:al) (y:V) (r:Option V):Prop:=
 (∃ak k,Rd H a (.dK ak)/\y=kV k/\r=jT ak k)\/∃ak k b,Rd H a (.dT ak)/\y=.ref b/\H b=some (.tup (k.map kV))/\r=jT ak k
def BX (H:Hp) (a:al) (y v:V) (H':Hp):Prop:=
 (∃ak k,H a=some (.dK ak)/\y=kV k/\ak.length<sizeLine/\H'=upd H a (.dK (putK ak k v))) \/
 ∃ak k b,H a=some (.dT ak)/\y=.ref b/\H b=some (.tup (k.map kV))/\ak.length<sizeLine/\H'=upd H a (.dT (putK ak k v))
section
variable {X:Cx}{pins:List (al×i8)}{σ:St}{H:Hp}{s:ar}{a:al}{y v:V}{u r:am}{o:Option V}{A:l5}{E:am->ar->Prop}
theorem Inv.big (I:Inv X pins σ H s):sysModules<s.heap.objs.size :=by
 have h:mainGlobals<s.heap.objs.size:=(I.mod.glob.keeps I.bk).lt;exact Yd (by decide) h
theorem Ej {Q:am->ar->Prop}(hu:A.units+1<cLine) (I:Inv X pins σ H s) (g:mD H a y (some v)) (ry:RelV y u) (h:∀w' s',Inv X pins σ H s'->RelV v w'->Q w' s') :
  wpAny (model X.prog X.w) A (getItem (.ref a) u) Q E s :=by
 rcases g with ⟨ak,k,e,ey,l⟩|⟨ak,k,b,e,ey,eb,l⟩
 ·subst ey;obtain⟨z,hd,vs,rel,dd⟩:=nj I.hok e;obtain⟨w',hw,fV⟩:=jd.some_of (v:=v) (o:=valueAt vs k) (by rw[l];exact rel.val k)
  exact wpAny_getItem_of (lN ry) dd.mapOf hw (h w' _ (I.tok _) fV)
 ·subst ey;cases (show u=l7 b from ry);obtain⟨z,hd,xs,rel,dd⟩:=lQ I.hok e;obtain⟨w',hw,fV⟩:=jd.some_of (v:=v) (o:=(atKey xs k).map (·.2)) (by rw[l];exact rel.val k)
  obtain⟨p,hp,VL⟩:=i0.mp hw;refine wpAny_getItem_heap (TW hu) (jG I.hok eb) dd hp ?_;rw[VL];exact h w' _ (I.tok _) fV
theorem Ku {Q:am->ar->Prop}(hu:A.units+1<cLine) (I:Inv X pins σ H s) (g:mD H a y o) (ry:RelV y u) (h:∀s',Inv X pins σ H s'->Q (.bool (!o.isSome)) s') :
  wpAny (model X.prog X.w) A (compareOp .NotIn u (.ref a)) Q E s :=by
 rcases g with ⟨ak,k,e,ey,l⟩|⟨ak,k,b,e,ey,eb,l⟩
 ·subst ey;obtain⟨z,hd,vs,rel,dd⟩:=nj I.hok e;refine wpAny_notIn_of (lN ry) hd dd.mapOf ?_;rw[<- (rel.val k).oG,<- l];exact h _ (I.tok _)
 ·subst ey;cases (show u=l7 b from ry);obtain⟨z,hd,xs,rel,dd⟩:=lQ I.hok e;refine wpAny_notIn_heap (TW hu) (jG I.hok eb) hd dd ?_;have q:=(rel.val k).oG;rw[Zx]at q;rw[<- q,<- l];exact h _ (I.tok _)
theorem kg {h':hX}{t':Nat}{ob:HO}(I:Inv X pins σ H s) (mu:C4 (H a)) (hs:rf a s.heap h') (he:∃q,h'.get? a=some q) (new:ObjOk X.prog X.w (upd H a ob) h' a ob) :
  Inv X pins σ (upd H a ob) {s with heap:=h',toks:=t'}:=
 I.write (x:=a) (e:=a) mu (.inl rfl) (fun b q hb z=>(hs.2 b hb).trans z) he new
theorem xW {P:en}{w:ii}{H':Hp}{h':hX}{ak:List (Key×V)}{vs:List (Key×am)}(z:ak.length<=sizeLine) (hd:(a==sysModules)=false) (rel:KV ak vs) (dd:h'.DictOf (bA P w) a vs) :
  ObjOk P w H' h' a (.dK ak):=⟨z,hd,vs,rel,dd⟩
theorem Ek {H':Hp}{Q:Unit->ar->Prop}(hu:A.units+1<cLine) (I:Inv X pins σ H s) (g:BX H a y v H') (ry:RelV y u) (rv:RelV v r) (h:∀s',Inv X pins σ H' s'->Q () s') :
  wpAny (model X.prog X.w) A (setItem (.ref a) u r) Q E s :=by
 rcases g with ⟨ak,k,e,ey,l,eH⟩|⟨ak,k,b,e,ey,eb,l,eH⟩
 ·subst ey eH;obtain⟨z,hd,vs,rel,dd⟩:=BV I.hok e;have hz:vs.length<=sizeLine :=by rw[<- rel.length];exact z
  have hl:(putK ak k v).length<=sizeLine :=by have:=gN ak k v;omega
  refine wpAny_setItem_pairs (hsz:=hz) (lN ry) dd fun h' lR hs=>h _ ?_
  have he:∃q,h'.get? a=some q:=let ⟨q,_,_,hq,_⟩:=lR;⟨q,hq⟩;exact kg I (by rw[e];exact IR) hs he (xW hl hd (rel.put k rv) lR)
 ·subst ey eH;cases (show u=l7 b from ry);obtain⟨z,hd,xs,rel,dd⟩:=BW I.hok e;have hz:xs.length<=sizeLine :=by rw[<- SL rel];exact z
  have hl:(putK ak k v).length<=sizeLine :=by have:=gN ak k v;omega
  refine wpAny_setItem_heap (hsz:=hz) (TW hu) (jG I.hok eb) dd fun h' lR hs=>h _ ?_
  obtain⟨q,es,ep,hq,h2,h3,h4,_,h5⟩:=lR;refine kg I (by rw[e];exact IR) hs ⟨q,hq⟩ ⟨hl,hd,_,(rel.put k eb rv).keeps fun c ys ec=>?_,q,es,ep,hq,h2,h3,h4,h5⟩
  rw[ah (wu ec e (fun z=>nomatch z))]
  exact ec
end
def Ha (i:db):Prop:=∀ov iv,subscripted i false ov iv=operate [ov,iv] (getItem ov iv)
theorem Kv {prog:en}{w:ii}{A:l5}{E:am->ar->Prop}{s:ar}{env:Lo}{value slice:db}{pos:u4}{T id:String}{Q:am->ar->Prop}
  (hl:typeLookup (.type T) "__getitem__" = pure (some (.builtin id))) (hs:Ha slice)
  (h:wpAny (model prog w) A (eval value env) (fun o aC=>wpAny (model prog w) A (eval slice env) (fun i je=>je.TypeIs o T/\wpAny (model prog w) A (getItem o i) Q E je) E aC) E s) :
  wpAny (model prog w) A (eval (.Subscript value slice pos) env) Q E s :=by
 refine Subscript_ (l6 h (fun o aC dn=>l6 dn (fun i je Hb=>?_) fun _ _ x=>x) fun _ _ x=>x)
 obtain⟨hT,Hb⟩:=Hb;unfold subscriptTail;refine ag ?_;rw[getitemInPython_of_ne hT.not_modules];refine ag (wpAny_specialOf hT hl ?_);have fin:wpAny (model prog w) A (subscripted slice false o i) (fun r jS=>wpAny (model prog w) A (letTemporaryGo value o r>>=fun _=>pure r) Q E jS) E je :=by
  rw[hs o i];exact wpAny_operating (l6 Hb (fun r jS Uu=>ag (wpAny_letTemporaryGo (bi Uu))) fun _ _ x=>x)
 first
  |exact bi (ag fin)
  |exact ag (bi (ag fin))
  |exact ag fin
theorem zG {X:Cx}{pins:List (al×i8)}{σ:St}{H:Hp}{s:ar}{a:al}{y:V}{o:Option V}(I:Inv X pins σ H s) (g:mD H a y o):s.TypeIs (.ref a) "dict" := by
 rcases g with ⟨ak,k,e,_,_⟩|⟨ak,k,b,e,_,_,_⟩
 ·obtain⟨_,_,vs,_,dd⟩:=nj I.hok e;exact dd.typeIs
 ·obtain⟨_,_,xs,_,dd⟩:=lQ I.hok e;exact dd.typeIs
def Rc (td ty:TE):TE:=fun σ H Q=>td σ H fun x H1=>ty σ H1 fun y H2=>∃a v,x=.ref a/\mD H2 a y (some v)/\Q v H2
def Rf (td ty tv:TE):TS:=fun D σ H=>tv σ H fun v H1=>td σ H1 fun x H2=>ty σ H2 fun y H3=>∃a H4,x=.ref a/\BX H3 a y v H4/\D.nx σ H4
section
variable {X:Cx}{o i e value:db}{pos pos' Bd:u4}{td ty tv:TE}
theorem Kw (hu:X.A.units+1<cLine) (ho:PE X o td) (hi:PE X i ty) (hs:Ha i):PE X (.Subscript o i pos) (Rc td ty) :=by
 refine⟨?_⟩;intro pins s σ H Q I h;refine Kv PySem.F.slot_dict_getitem.lookup hs (thn (ho pins s σ H _ I h) fun u s1 ⟨x,H1,I1,rx,q1⟩=>thn (hi pins s1 σ H1 _ I1 q1) fun iv s2 ⟨y,H2,I2,ry,a,v,ex,g,q2⟩=>?_)
 subst ex;obtain rfl:u=l7 a:=rx;exact⟨zG I2 g,Ej hu I2 g ry fun w' s3 I3 fV=>⟨v,H2,I3,fV,q2⟩⟩
theorem Kx (hu:X.A.units+1<cLine) (ho:PE X o td) (hi:PE X i ty) (hv:PE X value tv) (hs:swapsWith value (some (.Subscript o i pos')) pos.line X.env=pure false) :
  PS X (.Assign [.Subscript o i pos'] value pos) (Rf td ty tv) :=by
 refine⟨?_⟩;intro pins s σ H D I h;refine wpAny_Assign_Subscript (thn (hv pins s σ H _ I h) fun r s1 ⟨v,H1,I1,rv,q1⟩=>thn (ho pins s1 σ H1 _ I1 q1) fun u s2 ⟨x,H2,I2,rx,q2⟩=>thn (hi pins s2 σ H2 _ I2 q2) fun iv s3 ⟨y,H3,I3,ry,a,H4,ex,g,q3⟩=>?_) hs
 subst ex;obtain rfl:u=l7 a:=rx;exact Ek hu I3 g ry rv fun s4 I4=>⟨σ,H4,I4,q3⟩
end
theorem xX {P:en}{w:ii}{H:Hp}(h:hX) (hb:sysModules<h.objs.size):ObjOk P w H (h.push {cls:=.type "dict",data:=.dict #[]}) h.objs.size (.dK []):=
 ⟨wp _,beq_eq_false_iff_ne.mpr (zn (i4 hb)),[],.nil,hX.DictOf.new h⟩
theorem xY {P:en}{w:ii}{H:Hp}(h:hX) (hb:sysModules<h.objs.size):ObjOk P w H (h.push {cls:=.type "dict",data:=.dict #[]}) h.objs.size (.dT []):=
 ⟨wp _,beq_eq_false_iff_ne.mpr (zn (i4 hb)),[],.nil,_,#[],0,ci _ rfl,⟨rfl,rfl,rfl⟩,rfl,rfl,Os⟩
def N1:TE:=fun _ H Q=>∀p,H p=none->Q (.ref p) (upd H p (.dK []))
def N4:TE:=fun _ H Q=>∀p,H p=none->Q (.ref p) (upd H p (.dT []))
section
variable {X:Cx}{pos:u4}
theorem Hc:PE X (.Dict [] [] pos) N1:=⟨fun pins s σ H Q I h=>
 wpAny_Dict_empty ⟨.ref s.heap.objs.size,_,I.laid (a:=s.heap.objs.size) (o:=.dK []) (t':=s.toks) (fun _ _ q=>ba _ q) (cb _) (xX s.heap I.big),rfl,h _ (I.hok.fresh (cb _))⟩⟩
theorem Hd:PE X (.Dict [] [] pos) N4:=⟨fun pins s σ H Q I h=>
 wpAny_Dict_empty ⟨.ref s.heap.objs.size,_,I.laid (a:=s.heap.objs.size) (o:=.dT []) (t':=s.toks) (fun _ _ q=>ba _ q) (cb _) (xY s.heap I.big),rfl,h _ (I.hok.fresh (cb _))⟩⟩
end
def xZ:List (TE×TE)->St->Hp->(List (V×V)->Hp->Prop)->Prop
 | [],_,H,Q=>Q [] H
 |(tk,tv)::r,σ,H,Q=>tk σ H fun x H1=>tv σ H1 fun y H2=>xZ r σ H2 fun ps H3=>Q ((x,y)::ps) H3
abbrev VV:List (V×V)->List (am×am)->Prop:=FM fun p q=>RelV p.1 q.1/\RelV p.2 q.2
def PPs (X:Cx) (pos:u4) (keys:List (Option db)) (values:List db) (so:List (TE×TE)):Prop:=
 ∀(pins:List (al×i8)) (s:ar) (σ:St) (H:Hp) (Q:List (V×V)->Hp->Prop),Inv X pins σ H s->xZ so σ H Q->
  wpAny (model X.prog X.w) X.A (evalPairs (pairTrees keys values X.env pos)) (fun vs s'=>∃ps H',Inv X pins σ H' s'/\VV ps vs/\Q ps H') X.xe s
theorem Ky {X:Cx}{pos:u4}:PPs X pos [] [] []:=fun pins s σ H Q I h=>pairTrees_nil_walk ⟨[],H,I,.nil,h⟩
theorem He {X:Cx}{pos:u4}{k v:db}{ks:List (Option db)}{vs:List db}{tk tv:TE}{so:List (TE×TE)}(hk:PE X k tk) (hv:PE X v tv) (hr:PPs X pos ks vs so) :
  PPs X pos (some k::ks) (v::vs) ((tk,tv)::so):=fun pins s σ H Q I h=>
 pairTrees_cons_walk (thn (hk pins s σ H _ I h) fun u s1 ⟨x,H1,I1,rx,q1⟩=>thn (hv pins s1 σ H1 _ I1 q1) fun w2 s2 ⟨y,H2,I2,ry,q2⟩=>
  thn (hr pins s2 σ H2 _ I2 q2) fun ws s3 ⟨ps,H3,I3,rel,q3⟩=>⟨(x,y)::ps,H3,I3,.cons ⟨rx,ry⟩ rel,q3⟩)
def mR (ak more:List (Key×V)):List (Key×V):=more.foldl (fun acc kv=>putK acc kv.1 kv.2) ak
theorem KV.merge:∀{more:List (Key×V)}{rs:List (Key×am)}{ak:List (Key×V)}{vs:List (Key×am)},KV more rs->KV ak vs->KV (mR ak more) (merged vs rs) :=by
 intro more rs ak vs r;unfold KV at r;induction r generalizing ak vs with
 |nil=>intro q;exact q
 | @cons p q ps qs h t ih=>
  intro r0;have e:KV (putK ak p.1 p.2) (stored vs q.1 q.2) :=by
   have:=r0.put p.1 h.2;rw[<- h.1];exact this
  exact ih e
theorem nV:∀(more ak:List (Key×V)),(mR ak more).length<=ak.length+more.length
 | [],ak=>by show ak.length<=ak.length+0;omega
 |p::r,ak=>by
          have h1:=nV r (putK ak p.1 p.2);have h2:=gN ak p.1 p.2;show (mR (putK ak p.1 p.2) r).length<=_;rw[xy];omega
theorem sr {P:en}{w:ii}:∀{ak:List (Key×V)}{ws:List (am×am)},VV (ak.map fun kv=>(kV kv.1,kv.2)) ws->∃rs,Carries (bA P w) ws rs/\KV ak rs
 | [],_,r=>by rw[Rs]at r;cases r;exact⟨[],IR,.nil⟩
 |p::ak,_,r=>by
          rw[lw]at r;cases r with
          | @cons a b as bs h t=>
           obtain⟨rs,c,q⟩:=sr (P:=P) (w:=w) t;obtain⟨b1,b2⟩:=b;exact⟨(p.1,b2)::rs,⟨lN h.1,rfl,c⟩,.cons ⟨rfl,h.2⟩ q⟩
def Rg (so:List (TE×TE)):TE:=fun σ H Q=>∀p,H p=none->xZ so σ (upd H p (.dK [])) fun ps H2=>H2 p=some (.dK [])/\∃ak:List (Key×V),ps=ak.map (fun kv=>(kV kv.1,kv.2))/\ak.length<=15/\Q (.ref p) (upd H2 p (.dK (mR [] ak)))
theorem Kz {X:Cx}{pos:u4}{keys:List (Option db)}{values:List db}{so:List (TE×TE)}(h:PPs X pos keys values so) (GA:keys.all (·.isSome)=true) (hl:keys.length=values.length) (h0:keys≠[])
  (VM:keys.length<=15):PE X (.Dict keys values pos) (Rg so) :=by
 refine⟨?_⟩;intro pins s σ H Q I q;have hn:=I.hok.fresh (cb s.heap.objs.size);have I1:=I.laid (a:=s.heap.objs.size) (o:=.dK []) (h':=s.heap.push {cls:=.type "dict",data:=.dict #[]}) (t':=s.toks) (fun _ _ q=>ba _ q) (cb _) (xX s.heap I.big)
 refine wpAny_Dict_walk (knd:=bA X.prog X.w) GA hl h0 VM (thn (h pins _ σ _ _ I1 (q _ hn)) fun ws s2 ⟨ps,H2,I2,rel,e,ak,ep,lk,q2⟩=>?_)
 subst ep;obtain⟨rs,c,rk⟩:=sr (P:=X.prog) (w:=X.w) rel;obtain⟨z,hd,N5,r0,dd⟩:=BV I2.hok e;cases r0;refine⟨rs,c,dd,fun h' lR hs=>⟨.ref s.heap.objs.size,_,?_,rfl,q2⟩⟩
 have hz:(mR [] ak).length<=sizeLine :=by
  have h1:=nV ak [];rw[NE]at h1;rw[X7];omega
 have he:∃q,h'.get? s.heap.objs.size=some q:=let ⟨q,_,_,hq,_⟩:=lR;⟨q,hq⟩;exact kg I2 (by rw[e];exact IR) hs he (xW hz hd (rk.merge .nil) lR)
structure M1 (X:Cx) (o:db) (m:br) (apos:u4) (e:db) (aV:u4):Prop where
 base:attributeBase o m X.env (eval o X.env)=eval o X.env
 few:((backTo aV (starEach [e] X.env)).all (fun x => !x.1) && (backToKw aV (keywordEach [] X.env)).all (fun x=>x.1.isSome)
  && decide (([e]:List db).length+([]:List Ps).length+(if ([]:List Ps).isEmpty then 0 else 1)<30))=true
 line:(apos.endLine==aV.line)=true
 trees:backTo aV (starEach [e] X.env)=[(false,eval e X.env)]
structure M2 (X:Cx) (o:db) (m:br) (apos:u4) (e f:db) (aV:u4):Prop where
 base:attributeBase o m X.env (eval o X.env)=eval o X.env
 few:((backTo aV (starEach [e,f] X.env)).all (fun x => !x.1) && (backToKw aV (keywordEach [] X.env)).all (fun x=>x.1.isSome)
  && decide (([e,f]:List db).length+([]:List Ps).length+(if ([]:List Ps).isEmpty then 0 else 1)<30))=true
 line:(apos.endLine==aV.line)=true
 trees:backTo aV (starEach [e,f] X.env)=[(false,eval e X.env),(false,eval f X.env)]
section
variable {X:Cx}{pins:List (al×i8)}{σ:St}{H:Hp}{s:ar}{a:al}{y d:V}{u r:am}{o:Option V}{A:l5}{E:am->ar->Prop}
theorem N6 {Q:am->ar->Prop}(hu:A.units+1<cLine) (I:Inv X pins σ H s) (g:mD H a y o) (ry:RelV y u) (h:∀w' s',Inv X pins σ H s'->RelV (o.getD .ax) w'->Q w' s') :
  wpAny (model X.prog X.w) A (call (.builtin "dict.get") [.ref a,u]) Q E s :=by
 rcases g with ⟨ak,k,e,ey,l⟩|⟨ak,k,b,e,ey,eb,l⟩
 ·subst ey;obtain⟨z,hd,vs,rel,dd⟩:=nj I.hok e;refine YT Na dd.typeIs VT (PySem.F.args_dict_get_2 _ _) (meets_dict_get (bA X.prog X.w) a (lN ry) hd) ⟨_,dd.mapOf,h _ _ (I.tok _) ?_⟩;rw[l];exact(rel.val k).getD rfl
 ·subst ey;cases (show u=l7 b from ry);obtain⟨z,hd,xs,rel,dd⟩:=lQ I.hok e;refine YT Na dd.typeIs VT (PySem.F.args_dict_get_2 _ _) (meetsH_dict_get (tupleKind (bA X.prog X.w)) a b hd) ⟨TW hu,k,xs,jG I.hok eb,dd,h _ _ (I.tok _) ?_⟩;rw[l];exact(rel.val k).getD rfl
theorem N7 {Q:am->ar->Prop}(hu:A.units+1<cLine) (I:Inv X pins σ H s) (g:mD H a y o) (ry:RelV y u) (rd:RelV d r) (h:∀w' s',Inv X pins σ H s'->RelV (o.getD d) w'->Q w' s') :
  wpAny (model X.prog X.w) A (call (.builtin "dict.get") [.ref a,u,r]) Q E s :=by
 rcases g with ⟨ak,k,e,ey,l⟩|⟨ak,k,b,e,ey,eb,l⟩
 ·subst ey;obtain⟨z,hd,vs,rel,dd⟩:=nj I.hok e;refine YT Na dd.typeIs VT (PySem.F.args_dict_get_3 _ _ _) (meets_dict_get_default (bA X.prog X.w) a (lN ry) hd r) ⟨_,dd.mapOf,h _ _ (I.tok _) ?_⟩;rw[l];exact(rel.val k).getD rd
 ·subst ey;cases (show u=l7 b from ry);obtain⟨z,hd,xs,rel,dd⟩:=lQ I.hok e;refine YT Na dd.typeIs VT (PySem.F.args_dict_get_3 _ _ _) (meetsH_dict_get_default (tupleKind (bA X.prog X.w)) a b hd r) ⟨TW hu,k,xs,jG I.hok eb,dd,h _ _ (I.tok _) ?_⟩;rw[l];exact(rel.val k).getD rd
end
inductive Dv where
 |int (i:Int)|bl (b:Bool)|ax|str (z:br)|tup (xs:List Dv)|lst (xs:List Dv)|set (ns:List Int)|ptr (a:al)|exc (C:al)|bR (ns:List Int)|raw (v:V)|dk (ks:List Key) (ds:List Dv)|dt (ks:List (List Key)) (ds:List Dv)|bZ (f:al) (o:i8) (c:al) (oc:i8) (vs:List V) (ds:List Dv)
inductive Mo where
 |lst (xs:List Dv)|c6|dk (ks:List Key) (ds:List Dv)|dt (ks:List (List Key)) (ds:List Dv)
abbrev Mh:=al->Option Mo
structure cG where
 g:List al
 l:List (al×br)
instance:Membership al cG:=⟨fun t a=>a∈t.g⟩
def IZ:HO->Bool
 | .di _=>true
 | .lam _=>true
 | .dK _=>true
 | .dT _=>true
 |_=>false
def El:HO->Bool
 | .di _=>false
 |_=>true
def iN:HO->Bool
 | .dK _=>true
 | .dT _=>true
 |_=>false
theorem Rd.map {H H':Hp}{a:al}{u:HO}(e:Rd H a u) (k:∀x,H a=some x->H' a=some x):Rd H' a u:=e.imp (k _) fun⟨o,h⟩=>⟨o,k _ h⟩
theorem Rd.N8 {H H':Hp}{a:al}{u:HO}(e:Rd H a u) (hu:iN u=true) (k:∀x,El x=true->H a=some x->H' a=some x):Rd H' a u:=e.imp (k _ (by cases u<;>first|rfl|cases hu)) fun⟨o,h⟩=>⟨o,k _ rfl h⟩
theorem Rd.there {H:Hp}{a:al}{u:HO}(e:Rd H a u):∃x,H a=some x:=e.elim (fun h=>⟨_,h⟩) fun⟨o,h⟩=>⟨_,h⟩
def Tg (o o':HO):Prop:=(∃ps iK:Array am,o=.di ps/\o'=.di iK/\ON iK.toList)\/(∃ps iK:Array am,o=.lam ps/\o'=.lam iK)\/(iN o=true/\∃ob,o'=.bQ ob o)
theorem Tg.trans {a b c:HO}(x:Tg a b) (y:Tg b c):Tg a c :=by
 rcases x with ⟨p,q,rfl,rfl,t⟩|⟨p,q,rfl,rfl⟩|⟨hd,ob,rfl⟩
 ·rcases y with ⟨p2,q2,e,rfl,t2⟩|⟨p2,q2,e,_⟩|⟨e,_⟩
  ·exact .inl ⟨p,q2,rfl,rfl,t2⟩
  ·cases e
  ·cases e
 ·rcases y with ⟨p2,q2,e,_⟩|⟨p2,q2,e,rfl⟩|⟨e,_⟩
  ·cases e
  ·exact .inr (.inl ⟨p,q2,rfl,rfl⟩)
  ·cases e
 ·rcases y with ⟨p2,q2,e,_⟩|⟨p2,q2,e,_⟩|⟨e,_⟩<;>cases e
theorem Tg.tab {a b:HO}(x:Tg a b):IZ a=true :=by
 rcases x with ⟨p,q,rfl,rfl,_⟩|⟨p,q,rfl,rfl⟩|⟨hd,ob,rfl⟩
 ·rfl
 ·rfl
 ·cases a<;>first|rfl|cases hd
def Uv (H:Hp) (q:br) (cv:am):Prop:=∃(c:al) (oc:i8) (u:HO) (vs:Array am) (t:Y1),cv=l7 c/\H c=some (.bQ oc u)/\oc.data=.fields vs/\vs[1]?=some (YE q t)
def Lm (H:Hp) (p:al×br):Prop:=∃ps:Array am,H p.1=some (.lam ps)/\ON ps.toList/\∀pos cv,codeAmong pos ps.toList=some cv->Uv H p.2 cv
theorem Lm.keep {H H':Hp}{p:al×br}(h:Lm H p) (k1:∀ps,H p.1=some (.lam ps)->H' p.1=some (.lam ps)) (k2:∀c oc u,H c=some (.bQ oc u)->H' c=some (.bQ oc u)):Lm H' p :=by
 obtain⟨ps,e,t,c⟩:=h;refine⟨ps,k1 _ e,t,fun pos cv q=>?_⟩
 obtain⟨a,oc,u,vs,tk,e1,e2,r⟩:=c pos cv q;exact⟨a,oc,u,vs,tk,e1,k2 _ _ _ e2,r⟩
structure Bz where
 P:en
 w:ii
 K:bn
 tb:cG
 hid:List al
def Fz (β:Bz) (M:Mh) (a:al):Prop:=M a=none/\a ∉ β.hid
def Kl (K:bn) (a:al) (ns:List Int):Prop:=∃(o:i8) (its:Array am) (n:Nat),K.lookup a=some o/\o.cls=.type "list" /\ o.dict=none/\o.data=.seq its n/\its.size<=sizeLine/\Vals (ns.map V.int) its.toList
inductive Rz (β:Bz) (M:Mh) (H:Hp):V->Dv->Prop where
 |int (i:Int):Rz β M H (.int i) (.int i)
 |bl (b:Bool):Rz β M H (.bl b) (.bl b)
 |ax:Rz β M H .ax .ax
 |str (z:br):Rz β M H (.str z) (.str z)
 |tup {a:al} {vs:List V} {ds:List Dv} (m:Fz β M a) (e:H a=some (.tup vs)) (hl:vs.length=ds.length) (h:∀(i:Nat) (v:V) (d:Dv),vs[i]?=some v->ds[i]?=some d->Rz β M H v d):Rz β M H (.ref a) (.tup ds)
 |lst {a:al} {vs:List V} {ds:List Dv} (m:Fz β M a) (e:H a=some (.lst vs)) (hl:vs.length=ds.length) (h:∀(i:Nat) (v:V) (d:Dv),vs[i]?=some v->ds[i]?=some d->Rz β M H v d):Rz β M H (.ref a) (.lst ds)
 |set {a:al} {ns:List Int} (m:Fz β M a) (e:H a=some (fW β.P β.w a ns)):Rz β M H (.ref a) (.set ns)
 |ptr {a:al} (m:(M a).isSome=true):Rz β M H (.ref a) (.ptr a)
 |exc {a C:al} (m:Fz β M a) (e:H a=some (Us C a)):Rz β M H (.ref a) (.exc C)
 |bR {a:al} {o:i8} {ns:List Int} (m:Fz β M a) (e:H a=some (.bQ o (.lst (ns.map V.int)))):Rz β M H (.ref a) (.bR ns)
 |cW {a:al} {ns:List Int} (m:Fz β M a) (e:H a=some (.lst (ns.map V.int))):Rz β M H (.ref a) (.bR ns)
 |cY {a:al} {ns:List Int} (e:Kl β.K a ns):Rz β M H (.ref a) (.bR ns)
 |raw (v:V):Rz β M H v (.raw v)
 |dk {a:al} {ks:List Key} {vs:List V} {ds:List Dv} (m:Fz β M a) (e:Rd H a (.dK (ks.zip vs))) (hk:ks.length=vs.length) (hl:vs.length=ds.length) (h:∀(i:Nat) (v:V) (d:Dv),vs[i]?=some v->ds[i]?=some d->Rz β M H v d):Rz β M H (.ref a) (.dk ks ds)
 |dt {a:al} {ks:List (List Key)} {vs:List V} {ds:List Dv} (m:Fz β M a) (e:Rd H a (.dT (ks.zip vs))) (hk:ks.length=vs.length) (hl:vs.length=ds.length) (h:∀(i:Nat) (v:V) (d:Dv),vs[i]?=some v->ds[i]?=some d->Rz β M H v d):Rz β M H (.ref a) (.dt ks ds)
 |bZ {f c:al} {o oc:i8} {u uc:HO} {vs:List V} {ds:List Dv} (m:Fz β M f) (e:H f=some (.bQ o u)) (m2:Fz β M c) (e2:H c=some (.bQ oc uc)) (hl:vs.length=ds.length) (h:∀(i:Nat) (v:V) (d:Dv),vs[i]?=some v->ds[i]?=some d->Rz β M H v d):Rz β M H (.ref f) (.bZ f o c oc vs ds)
structure aH (β:Bz) (M:Mh) (H:Hp) (vs:List V) (ds:List Dv):Prop where
 len:vs.length=ds.length
 at':∀(i:Nat) (v:V) (d:Dv),vs[i]?=some v->ds[i]?=some d->Rz β M H v d
def jH (β:Bz) (M:Mh) (H:Hp) (a:al):Mo->Prop
 | .lst ds=>∃vs,H a=some (.lst vs)/\aH β M H vs ds
 | .c6=>Q5 H a
 | .dk ks ds=>∃vs,H a=some (.dK (ks.zip vs))/\ks.length=vs.length/\aH β M H vs ds
 | .dt ks ds=>∃vs,H a=some (.dT (ks.zip vs))/\ks.length=vs.length/\aH β M H vs ds
def oH:HO->Bool
 | .lst _=>true
 | .set _ _=>true
 | .dK _=>true
 | .dT _=>true
 | .ext _=>true
 | .di _=>true
 |_=>false
def BZ (H:Hp) (a:al):Prop:=∃o,H a=some o/\oH o=true
theorem BZ.upd {H:Hp}{a p:al}{o:HO}(h:BZ H a) (d:H p=none\/oH o=true):BZ (upd H p o) a :=by
 obtain⟨u,e,n⟩:=h;by_cases z:a=p
 ·subst z;rcases d with d|d
  ·rw[e]at d;cases d
  ·exact⟨o,aB,d⟩
 ·exact⟨u,by rw[ah z];exact e,n⟩
structure Mz (β:Bz) (M:Mh) (H:Hp):Prop where
 obj:∀a o,M a=some o->jH β M H a o
 tabs:IE β.tb.g H
 hids:∀a∈β.hid,BZ H a
 apart:∀a o,M a=some o->a ∉ β.hid
 lams:∀p∈β.tb.l,Lm H p
structure Ey (M:Mh) (H:Hp) (M':Mh) (H':Hp):Prop where
 keep:∀b o,M b=none->H b=some o->H' b=some o\/∃o',Tg o o'/\H' b=some o'
 dom:∀a,(M a).isSome=true->(M' a).isSome=true
 new:∀a o,M a=none->H a=some o->M' a=none
structure Ex (β:Bz) (M:Mh) (H:Hp) (M':Mh) (H':Hp):Prop extends Ey M H M' H' where
 mz:Mz β M' H'
section
variable {β:Bz}{M M1 M2:Mh}{H H1 H2:Hp}
theorem Ey.refl:Ey M H M H:=⟨fun _ _ _ h=>.inl h,fun _ h=>h,fun _ _ h _=>h⟩
theorem Ex.refl (m:Mz β M H):Ex β M H M H:=⟨.refl,m⟩
theorem Ey.trans (x:Ey M H M1 H1) (y:Ey M1 H1 M2 H2):Ey M H M2 H2 :=by
 refine⟨fun b o hm h=>?_,fun a h=>y.dom a (x.dom a h),fun a o hm h=>?_⟩
 ·have mO:=x.new b o hm h;rcases x.keep b o hm h with q|⟨o1,t,q⟩
  ·exact y.keep b o mO q
  ·rcases y.keep b _ mO q with q2|⟨o2,t2,q2⟩
   ·exact .inr ⟨o1,t,q2⟩
   ·exact .inr ⟨o2,t.trans t2,q2⟩
 ·have mO:=x.new a o hm h;rcases x.keep a o hm h with q|⟨o1,t,q⟩
  ·exact y.new a _ mO q
  ·exact y.new a _ mO q
theorem Ex.trans (x:Ex β M H M1 H1) (y:Ex β M1 H1 M2 H2):Ex β M H M2 H2:=⟨x.toEy.trans y.toEy,y.mz⟩
theorem Ey.get (x:Ey M H M1 H1) {b:al}{o:HO}(m:M b=none) (h:H b=some o) (n:IZ o=false):H1 b=some o :=by
 rcases x.keep b o m h with q|⟨o',e,_⟩
 ·exact q
 ·rw[e.tab]at n;cases n
theorem Ey.rd (x:Ey M H M1 H1) {b:al}{u:HO}(m:M b=none) (h:Rd H b u) (hu:iN u=true):Rd H1 b u :=by
 rcases h with h|⟨o,h⟩
 ·rcases x.keep b u m h with q|⟨o',t,q⟩
  ·exact .inl q
  ·rcases t with ⟨_,_,rfl,_⟩|⟨_,_,rfl,_⟩|⟨_,ob,rfl⟩
   ·cases hu
   ·cases hu
   ·exact .inr ⟨ob,q⟩
 ·exact .inr ⟨o,x.get m h rfl⟩
theorem Ey.gone (x:Ey M H M1 H1) {b:al}(h:H1 b=none):M b=none->H b=none:=fun m=>by
 cases e:H b with
 |none=>rfl
 |some o=>
  rcases x.keep b o m e with q|⟨_,_,q⟩<;>(rw[h]at q;cases q)
theorem Rz.ey (x:Ey M H M1 H1) {v:V}{d:Dv}(h:Rz β M H v d):Rz β M1 H1 v d :=by
 induction h with
 |int i=>exact .int i
 |bl b=>exact .bl b
 |ax=>exact .ax
 |str z=>exact .str z
 |tup m e hl h ih=>exact .tup ⟨x.new _ _ m.1 e,m.2⟩ (x.get m.1 e rfl) hl ih
 |lst m e hl h ih=>exact .lst ⟨x.new _ _ m.1 e,m.2⟩ (x.get m.1 e rfl) hl ih
 |dk m e hk hl h ih=>exact .dk ⟨x.new _ _ m.1 e.there.choose_spec,m.2⟩ (x.rd m.1 e rfl) hk hl ih
 |dt m e hk hl h ih=>exact .dt ⟨x.new _ _ m.1 e.there.choose_spec,m.2⟩ (x.rd m.1 e rfl) hk hl ih
 |bZ m e m2 e2 hl h ih=>exact .bZ ⟨x.new _ _ m.1 e,m.2⟩ (x.get m.1 e rfl) ⟨x.new _ _ m2.1 e2,m2.2⟩ (x.get m2.1 e2 rfl) hl ih
 |set m e=>exact .set ⟨x.new _ _ m.1 e,m.2⟩ (x.get m.1 e rfl)
 |ptr m=>exact .ptr (x.dom _ m)
 |exc m e=>exact .exc ⟨x.new _ _ m.1 e,m.2⟩ (x.get m.1 e rfl)
 |bR m e=>exact .bR ⟨x.new _ _ m.1 e,m.2⟩ (x.get m.1 e rfl)
 |cW m e=>exact .cW ⟨x.new _ _ m.1 e,m.2⟩ (x.get m.1 e rfl)
 |cY e=>exact .cY e
 |raw v=>exact .raw v
theorem Rz.ex (x:Ex β M H M1 H1) {v:V}{d:Dv}(h:Rz β M H v d):Rz β M1 H1 v d:=h.ey x.toEy
theorem aH.ex (x:Ex β M H M1 H1) {vs:List V}{ds:List Dv}(h:aH β M H vs ds):aH β M1 H1 vs ds:=⟨h.len,fun i v d a b=>(h.at' i v d a b).ex x⟩
theorem aH.nil:aH β M H [] []:=⟨rfl,fun i v d h=>by simp at h⟩
theorem aH.cons {v:V}{d:Dv}{vs:List V}{ds:List Dv}(h:Rz β M H v d) (t:aH β M H vs ds):aH β M H (v::vs) (d::ds):=⟨by simp[t.len],fun i x y a b=>by
 cases i with
 |zero=>simp at a b;subst a b;exact h
 |succ i=>rw[KF]at a b;exact t.at' i x y a b⟩
theorem aH.head {v:V}{d:Dv}{vs:List V}{ds:List Dv}(h:aH β M H (v::vs) (d::ds)):Rz β M H v d:=h.at' 0 v d rfl rfl
theorem aH.tail {v:V}{d:Dv}{vs:List V}{ds:List Dv}(h:aH β M H (v::vs) (d::ds)):aH β M H vs ds:=⟨by simpa using h.len,fun i x y a b=>h.at' (i+1) x y (by rw[KF];exact a) (by rw[KF];exact b)⟩
theorem aH.append {vs Em:List V}{ds iq:List Dv}(h:aH β M H vs ds) (t:aH β M H Em iq):aH β M H (vs++Em) (ds++iq):=⟨by simp[h.len,t.len],fun i x y a b=>by
 rw[YU]at a b;rw[h.len]at a;split at b
 ·rename_i z;rw[if_pos z]at a;exact h.at' i x y a b
 ·rename_i z;rw[if_neg z]at a;exact t.at' _ x y a b⟩
theorem aH.snoc {v:V}{d:Dv}{vs:List V}{ds:List Dv}(t:aH β M H vs ds) (h:Rz β M H v d):aH β M H (vs++[v]) (ds++[d]):=t.append (.cons h .nil)
theorem aH.get {vs:List V}{ds:List Dv}(h:aH β M H vs ds) {i:Nat}{d:Dv}(e:ds[i]?=some d):∃v,vs[i]?=some v/\Rz β M H v d :=by
 have hi:=(ce.mp e).1;have ee:i<vs.length :=by rw[h.len];exact hi
 exact⟨vs[i],ap ee,h.at' i _ _ (ap ee) e⟩
theorem aH.get' {vs:List V}{ds:List Dv}(h:aH β M H vs ds) {i:Nat}{v:V}(e:vs[i]?=some v):∃d,ds[i]?=some d/\Rz β M H v d :=by
 have hi:=(ce.mp e).1;have ee:i<ds.length :=by rw[<- h.len];exact hi
 exact⟨ds[i],ap ee,h.at' i _ _ e (ap ee)⟩
theorem aH.take {vs:List V}{ds:List Dv}(h:aH β M H vs ds) (n:Nat):aH β M H (vs.take n) (ds.take n):=⟨by simp[h.len],fun i x y a b=>by
 rw[List.getElem?_take]at a b;split at a
 ·rename_i z;rw[if_pos z]at b;exact h.at' i x y a b
 ·cases a⟩
theorem aH.drop {vs:List V}{ds:List Dv}(h:aH β M H vs ds) (n:Nat):aH β M H (vs.drop n) (ds.drop n):=⟨by simp[h.len],fun i x y a b=>by
 rw[Zi]at a b;exact h.at' _ x y a b⟩
theorem aH.set {vs:List V}{ds:List Dv}(h:aH β M H vs ds) (n:Nat) {v:V}{d:Dv}(r:Rz β M H v d):aH β M H (vs.set n v) (ds.set n d):=⟨by simp[h.len],fun i x y a b=>by
 rw[Pi]at a b;rw[h.len]at a;split at a
 ·rename_i z;rw[if_pos z]at b;split at a
  ·rename_i z2;rw[if_pos z2]at b;cases a;cases b;exact r
  ·cases a
 ·rename_i z;rw[if_neg z]at b;exact h.at' i x y a b⟩
theorem jI {a:al}{vs:List V}{ds:List Dv}(m:Fz β M a) (e:H a=some (.tup vs)) (h:aH β M H vs ds):Rz β M H (.ref a) (.tup ds):=.tup m e h.len h.at'
theorem ya {a:al}{vs:List V}{ds:List Dv}(m:Fz β M a) (e:H a=some (.lst vs)) (h:aH β M H vs ds):Rz β M H (.ref a) (.lst ds):=.lst m e h.len h.at'
theorem dq {v:V}{ds:List Dv}(h:Rz β M H v (.tup ds)):∃a vs,v=.ref a/\Fz β M a/\H a=some (.tup vs)/\aH β M H vs ds :=by
 cases h with
 |tup m e hl h=>exact⟨_,_,rfl,m,e,hl,h⟩
theorem dS {v:V}{ds:List Dv}(h:Rz β M H v (.lst ds)):∃a vs,v=.ref a/\Fz β M a/\H a=some (.lst vs)/\aH β M H vs ds :=by
 cases h with
 |lst m e hl h=>exact⟨_,_,rfl,m,e,hl,h⟩
theorem aL {v:V}{i:Int}(h:Rz β M H v (.int i)):v=.int i :=by cases h;rfl
theorem dY {v:V}{b:Bool}(h:Rz β M H v (.bl b)):v=.bl b :=by cases h;rfl
theorem cp {v:V}{z:br}(h:Rz β M H v (.str z)):v=.str z :=by cases h;rfl
theorem ir {v:V}(h:Rz β M H v .ax):v=.ax :=by cases h;rfl
theorem En {v u:V}(h:Rz β M H v (.raw u)):v=u :=by cases h;rfl
theorem bL {v:V}{a:al}(h:Rz β M H v (.ptr a)):v=.ref a/\(M a).isSome=true :=by cases h with|ptr m=>exact⟨rfl,m⟩
theorem Eo {v:V}{ns:List Int}(h:Rz β M H v (.set ns)):∃a,v=.ref a/\Fz β M a/\H a=some (fW β.P β.w a ns) :=by cases h with|set m e=>exact⟨_,rfl,m,e⟩
theorem vk {v:V}{ns:List Int}(h:Rz β M H v (.bR ns)):∃a,v=.ref a/\b9 β.K H a (ns.map V.int) :=by
 cases h with
 |bR m e=>exact⟨_,rfl,.inl (.inr ⟨_,e⟩)⟩
 |cW m e=>exact⟨_,rfl,.inl (.inl e)⟩
 |cY e=>exact⟨_,rfl,.inr e⟩
def qS:HO->Bool
 | .lst _=>true
 | .dK _=>true
 | .dT _=>true
 |_=>false
theorem Mz.own (m:Mz β M H) {a:al}{o:Mo}(e:M a=some o):∃u,H a=some u/\qS u=true :=by
 have q:=m.obj a o e;cases o with
 |lst ds=>obtain⟨vs,q,_⟩:=q;exact⟨_,q,rfl⟩
 |dk ks ds=>obtain⟨vs,q,_⟩:=q;exact⟨_,q,rfl⟩
 |dt ks ds=>obtain⟨vs,q,_⟩:=q;exact⟨_,q,rfl⟩
 |c6=>obtain⟨_,_,q,_⟩:=q;exact⟨_,q,rfl⟩
theorem Mz.iO (m:Mz β M H) {a:al}{u:HO}(h:H a=some u) (n:qS u=false):M a=none :=by
 cases e:M a with
 |none=>rfl
 |some o=>obtain⟨u',q,w⟩:=m.own e;rw[h]at q;cases q;rw[n]at w;cases w
theorem Mz.Rh (m:Mz β M H) {p:al}(hp:p∈β.tb):M p=none:=let ⟨_,h,_⟩:=m.tabs p hp;m.iO h rfl
theorem Mz.N9 (m:Mz β M H) {p:al×br}(hp:p∈β.tb.l):M p.1=none:=let ⟨_,h,_⟩:=m.lams p hp;m.iO h rfl
theorem Mz.free (m:Mz β M H) {a:al}(h:H a=none):M a=none :=by
 cases e:M a with
 |none=>rfl
 |some o=>obtain⟨xs,q,_⟩:=m.own e;rw[h]at q;cases q
theorem Mz.fz (m:Mz β M H) {a:al}(h:H a=none):Fz β M a:=⟨m.free h,fun z=>by
 obtain⟨o,e,_⟩:=m.hids a z;rw[h]at e;cases e⟩
theorem Hf {p a:al}{o:HO}(h:∃u,H a=Wp u):∃u,upd H p o a=Wp u :=by
 unfold upd;split
 ·exact⟨_,rfl⟩
 ·exact h
theorem Ex.lay (m:Mz β M H) {p:al}(h:H p=none) (o:HO):Ex β M H M (upd H p o) :=by
 have pre:∀b u,H b=some u->upd H p o b=some u:=fun b u q=>by rw[ah (bh q h)];exact q
 have rz:∀{v:V} {d:Dv},Rz β M H v d->Rz β M (upd H p o) v d:=fun r=>by
  induction r with
  |int i=>exact .int i
  |bl b=>exact .bl b
  |ax=>exact .ax
  |str z=>exact .str z
  |tup m e hl h ih=>exact .tup m (pre _ _ e) hl ih
  |lst m e hl h ih=>exact .lst m (pre _ _ e) hl ih
  |dk m e hk hl h ih=>exact .dk m (e.map fun _ h=>pre _ _ h) hk hl ih
  |dt m e hk hl h ih=>exact .dt m (e.map fun _ h=>pre _ _ h) hk hl ih
  |bZ m e m2 e2 hl h ih=>exact .bZ m (pre _ _ e) m2 (pre _ _ e2) hl ih
  |set m e=>exact .set m (pre _ _ e)
  |ptr m=>exact .ptr m
  |exc m e=>exact .exc m (pre _ _ e)
  |bR m e=>exact .bR m (pre _ _ e)
  |cW m e=>exact .cW m (pre _ _ e)
  |cY e=>exact .cY e
  |raw v=>exact .raw v
 refine⟨⟨fun b u _ q=>.inl (pre b u q),fun _ h=>h,fun _ _ h _=>h⟩,fun a u e=>?_,fun q hq=>?_,fun a ha=>(m.hids a ha).upd (.inl h),m.apart,fun q hq=>(m.lams q hq).keep (fun _ e=>pre _ _ e) fun _ _ _ e=>pre _ _ e⟩
 ·have z:=m.obj a u e;cases u with
  |lst ds=>obtain⟨vs,z,l,r⟩:=z;exact⟨vs,pre _ _ z,l,fun i v d a b=>rz (r i v d a b)⟩
  |dk ks ds=>obtain⟨vs,z,hk,l,r⟩:=z;exact⟨vs,pre _ _ z,hk,l,fun i v d a b=>rz (r i v d a b)⟩
  |dt ks ds=>obtain⟨vs,z,hk,l,r⟩:=z;exact⟨vs,pre _ _ z,hk,l,fun i v d a b=>rz (r i v d a b)⟩
  |c6=>obtain⟨c,n,z,r⟩:=z;exact⟨c,n,pre _ _ z,r⟩
 ·obtain⟨ps,e,t⟩:=m.tabs q hq;exact⟨ps,pre _ _ e,t⟩
theorem Ex.grow (m:Mz β M H) {p:al}(hp:p∈β.tb) {ps:Array am}(t:ON ps.toList):Ex β M H M (upd H p (.di ps)) :=by
 obtain⟨VN,vm,t0⟩:=m.tabs p hp;have pre:∀b u,H b=some u->El u=true->upd H p (.di ps) b=some u:=fun b u q n=>by
  have:b≠p:=fun z=>by subst z;rw[vm]at q;cases q;cases n
  rw[ah this];exact q
 have rz:∀{v:V} {d:Dv},Rz β M H v d->Rz β M (upd H p (.di ps)) v d:=fun r=>by
  induction r with
  |int i=>exact .int i
  |bl b=>exact .bl b
  |ax=>exact .ax
  |str z=>exact .str z
  |tup m e hl h ih=>exact .tup m (pre _ _ e rfl) hl ih
  |lst m e hl h ih=>exact .lst m (pre _ _ e rfl) hl ih
  |dk m e hk hl h ih=>exact .dk m (e.N8 rfl fun x hx h=>pre _ _ h hx) hk hl ih
  |dt m e hk hl h ih=>exact .dt m (e.N8 rfl fun x hx h=>pre _ _ h hx) hk hl ih
  |bZ m e m2 e2 hl h ih=>exact .bZ m (pre _ _ e rfl) m2 (pre _ _ e2 rfl) hl ih
  |set m e=>exact .set m (pre _ _ e rfl)
  |ptr m=>exact .ptr m
  |exc m e=>exact .exc m (pre _ _ e rfl)
  |bR m e=>exact .bR m (pre _ _ e rfl)
  |cW m e=>exact .cW m (pre _ _ e rfl)
  |cY e=>exact .cY e
  |raw v=>exact .raw v
 refine⟨⟨fun b u _ q=>?_,fun _ h=>h,fun _ _ h _=>h⟩,fun a u e=>?_,fun q hq=>?_,fun a ha=>(m.hids a ha).upd (.inr rfl),m.apart,fun q hq=>(m.lams q hq).keep (fun _ e=>pre _ _ e rfl) fun _ _ _ e=>pre _ _ e rfl⟩
 ·by_cases e:b=p
  ·subst e;rw[vm]at q;cases q;exact .inr ⟨_,.inl ⟨VN,ps,rfl,rfl,t⟩,aB⟩
  ·exact .inl (by rw[ah e];exact q)
 ·have z:=m.obj a u e;cases u with
  |lst ds=>obtain⟨vs,z,l,r⟩:=z;exact⟨vs,pre _ _ z rfl,l,fun i v d a b=>rz (r i v d a b)⟩
  |dk ks ds=>obtain⟨vs,z,hk,l,r⟩:=z;exact⟨vs,pre _ _ z rfl,hk,l,fun i v d a b=>rz (r i v d a b)⟩
  |dt ks ds=>obtain⟨vs,z,hk,l,r⟩:=z;exact⟨vs,pre _ _ z rfl,hk,l,fun i v d a b=>rz (r i v d a b)⟩
  |c6=>obtain⟨c,n,z,r⟩:=z;exact⟨c,n,pre _ _ z rfl,r⟩
 ·by_cases e:q=p
  ·subst e;exact⟨ps,aB,t⟩
  ·obtain⟨p2,e2,t2⟩:=m.tabs q hq;exact⟨p2,by rw[ah e];exact e2,t2⟩
def au (M:Mh) (a:al) (o:Mo):Mh:=fun b=>if b=a then Wp o else M b
theorem updM_same {a:al}{o:Mo}:au M a o a=Wp o :=by unfold au;rw[if_pos rfl]
theorem ao {a b:al}{o:Mo}(h:b≠a):au M a o b=M b :=by unfold au;rw[if_neg h]
theorem updM_updM {a:al}{o u:Mo}:au (au M a o) a u=au M a u :=by funext b;unfold au;split<;>rfl
theorem mS {p:al}{o:Mo}{u:HO}(hp:(M p).isSome=true\/H p=none) {v:V}{d:Dv}(h:Rz β M H v d):Rz β (au M p o) (upd H p u) v d :=by
 have ne:∀a x,M a=none->H a=Wp x->a≠p:=fun a x m e z=>by
  subst z;rcases hp with q|q
  ·rw[m]at q;cases q
  ·rw[q]at e;cases e
 induction h with
 |int i=>exact .int i
 |bl b=>exact .bl b
 |ax=>exact .ax
 |str z=>exact .str z
 |tup m e hl h ih=>have n:=ne _ _ m.1 e;exact .tup ⟨by rw[ao n];exact m.1,m.2⟩ (by rw[ah n];exact e) hl ih
 |lst m e hl h ih=>have n:=ne _ _ m.1 e;exact .lst ⟨by rw[ao n];exact m.1,m.2⟩ (by rw[ah n];exact e) hl ih
 |dk m e hk hl h ih=>have n:=ne _ _ m.1 e.there.choose_spec;exact .dk ⟨by rw[ao n];exact m.1,m.2⟩ (e.map fun _ h=>by rw[ah n];exact h) hk hl ih
 |dt m e hk hl h ih=>have n:=ne _ _ m.1 e.there.choose_spec;exact .dt ⟨by rw[ao n];exact m.1,m.2⟩ (e.map fun _ h=>by rw[ah n];exact h) hk hl ih
 |bZ m e m2 e2 hl h ih=>have n:=ne _ _ m.1 e;have n2:=ne _ _ m2.1 e2;exact .bZ ⟨by rw[ao n];exact m.1,m.2⟩ (by rw[ah n];exact e) ⟨by rw[ao n2];exact m2.1,m2.2⟩ (by rw[ah n2];exact e2) hl ih
 |set m e=>have n:=ne _ _ m.1 e;exact .set ⟨by rw[ao n];exact m.1,m.2⟩ (by rw[ah n];exact e)
 |ptr m=>
  refine .ptr ?_;unfold au;split
  ·rfl
  ·exact m
 |exc m e=>have n:=ne _ _ m.1 e;exact .exc ⟨by rw[ao n];exact m.1,m.2⟩ (by rw[ah n];exact e)
 |bR m e=>have n:=ne _ _ m.1 e;exact .bR ⟨by rw[ao n];exact m.1,m.2⟩ (by rw[ah n];exact e)
 |cW m e=>have n:=ne _ _ m.1 e;exact .cW ⟨by rw[ao n];exact m.1,m.2⟩ (by rw[ah n];exact e)
 |cY e=>exact .cY e
 |raw v=>exact .raw v
theorem jH.upd {p:al}{o':Mo}{u:HO}(hp:(M p).isSome=true\/H p=none) {a:al}{o:Mo}(ha:a≠p) (z:jH β M H a o):jH β (au M p o') (L2.upd H p u) a o :=by
 cases o with
 |lst ds=>obtain⟨vs,z,l,r⟩:=z;exact⟨vs,by rw[ah ha];exact z,l,fun i v d a b=>mS hp (r i v d a b)⟩
 |dk ks ds=>obtain⟨vs,z,hk,l,r⟩:=z;exact⟨vs,by rw[ah ha];exact z,hk,l,fun i v d a b=>mS hp (r i v d a b)⟩
 |dt ks ds=>obtain⟨vs,z,hk,l,r⟩:=z;exact⟨vs,by rw[ah ha];exact z,hk,l,fun i v d a b=>mS hp (r i v d a b)⟩
 |c6=>obtain⟨c,n,z,r⟩:=z;exact⟨c,n,by rw[ah ha];exact z,r⟩
theorem Ex.qS (m:Mz β M H) {p:al}{u:HO}{o':Mo}(hp:(M p).isSome=true\/H p=none) (hu:oH u=true) (r:jH β (au M p o') (upd H p u) p o'):Ex β M H (au M p o') (upd H p u) :=by
 have ne:∀a x,M a=none->H a=Wp x->a≠p:=fun a x m e z=>by
  subst z;rcases hp with q|q
  ·rw[m]at q;cases q
  ·rw[q]at e;cases e
 refine⟨⟨fun b u hm q=>.inl ?_,fun a h=>?_,fun a o hm h=>?_⟩,fun a o e=>?_,fun q hq=>?_,fun a ha=>(m.hids a ha).upd (.inr hu),fun a o e z=>?_,fun q hq=>?_⟩
 ·rw[ah (ne b _ hm q)];exact q
 ·unfold au;split
  ·rfl
  ·exact h
 ·rw[ao (ne a _ hm h)];exact hm
 ·by_cases ha:a=p
  ·subst ha;rw[updM_same]at e;cases e;exact r
  ·rw[ao ha]at e;exact(m.obj a o e).upd hp ha
 ·obtain⟨ps,e,t⟩:=m.tabs q hq;exact⟨ps,by rw[ah (ne q _ (m.Rh hq) e)];exact e,t⟩
 ·by_cases ha:a=p
  ·subst ha;rcases hp with h|h
   ·cases q:M a with
    |none=>rw[q]at h;cases h
    |some u=>exact m.apart a u q z
   ·obtain⟨u,hu,_⟩:=m.hids a z;rw[h]at hu;cases hu
  ·rw[ao ha]at e;exact m.apart a o e z
 ·exact(m.lams q hq).keep (fun _ e=>by rw[ah (ne q.1 _ (m.N9 hq) e)];exact e) fun c _ _ e=>by rw[ah (ne c _ (m.iO e rfl) e)];exact e
theorem Ex.own (m:Mz β M H) {p:al}{vs:List V}{ds:List Dv}(hp:(M p).isSome=true\/H p=none) (r:aH β M H vs ds):Ex β M H (au M p (.lst ds)) (upd H p (.lst vs)):=
 Ex.qS m hp rfl ⟨vs,aB,r.len,fun i v d a b=>mS hp (r.at' i v d a b)⟩
theorem Ex.Oa (m:Mz β M H) {p:al}{ks:List Key}{vs:List V}{ds:List Dv}(hp:(M p).isSome=true\/H p=none) (hk:ks.length=vs.length) (r:aH β M H vs ds):Ex β M H (au M p (.dk ks ds)) (upd H p (.dK (ks.zip vs))):=
 Ex.qS m hp rfl ⟨vs,aB,hk,r.len,fun i v d a b=>mS hp (r.at' i v d a b)⟩
theorem Ex.Ob (m:Mz β M H) {p:al}{ks:List (List Key)}{vs:List V}{ds:List Dv}(hp:(M p).isSome=true\/H p=none) (hk:ks.length=vs.length) (r:aH β M H vs ds):Ex β M H (au M p (.dt ks ds)) (upd H p (.dT (ks.zip vs))):=
 Ex.qS m hp rfl ⟨vs,aB,hk,r.len,fun i v d a b=>mS hp (r.at' i v d a b)⟩
abbrev Bz.add (β:Bz) (D:al):Bz:={β with hid:=D::β.hid}
theorem Rz.enter {D:al}{o:HO}(hD:H D=none) {v:V}{d:Dv}(h:Rz β M H v d):Rz (β.add D) M (upd H D o) v d :=by
 have ne:∀a x,Fz β M a->H a=some x->Fz (β.add D) M a:=fun a x m e=>⟨m.1,by
  intro z;rcases im.mp z with z|z
  ·subst z;rw[hD]at e;cases e
  ·exact m.2 z⟩
 have pre:∀a x,H a=some x->upd H D o a=some x:=fun a x e=>by rw[ah (bh e hD)];exact e
 induction h with
 |int i=>exact .int i
 |bl b=>exact .bl b
 |ax=>exact .ax
 |str z=>exact .str z
 |tup m e hl h ih=>exact .tup (ne _ _ m e) (pre _ _ e) hl ih
 |lst m e hl h ih=>exact .lst (ne _ _ m e) (pre _ _ e) hl ih
 |dk m e hk hl h ih=>exact .dk (ne _ _ m e.there.choose_spec) (e.map fun _ h=>pre _ _ h) hk hl ih
 |dt m e hk hl h ih=>exact .dt (ne _ _ m e.there.choose_spec) (e.map fun _ h=>pre _ _ h) hk hl ih
 |bZ m e m2 e2 hl h ih=>exact .bZ (ne _ _ m e) (pre _ _ e) (ne _ _ m2 e2) (pre _ _ e2) hl ih
 |set m e=>exact .set (ne _ _ m e) (pre _ _ e)
 |ptr m=>exact .ptr m
 |exc m e=>exact .exc (ne _ _ m e) (pre _ _ e)
 |bR m e=>exact .bR (ne _ _ m e) (pre _ _ e)
 |cW m e=>exact .cW (ne _ _ m e) (pre _ _ e)
 |cY e=>exact .cY e
 |raw v=>exact .raw v
theorem Rz.sub {dg:Bz}(hP:dg.P=β.P) (hw:dg.w=β.w) (hK:dg.K=β.K) (hs:∀a,a∈dg.hid->a∈β.hid) {v:V}{d:Dv}(h:Rz β M H v d):Rz dg M H v d :=by
 have ne:∀a,Fz β M a->Fz dg M a:=fun a m=>⟨m.1,fun z=>m.2 (hs a z)⟩
 induction h with
 |int i=>exact .int i
 |bl b=>exact .bl b
 |ax=>exact .ax
 |str z=>exact .str z
 |tup m e hl h ih=>exact .tup (ne _ m) e hl ih
 |lst m e hl h ih=>exact .lst (ne _ m) e hl ih
 |dk m e hk hl h ih=>exact .dk (ne _ m) e hk hl ih
 |dt m e hk hl h ih=>exact .dt (ne _ m) e hk hl ih
 |bZ m e m2 e2 hl h ih=>exact .bZ (ne _ m) e (ne _ m2) e2 hl ih
 |set m e=>exact .set (ne _ m) (by rw[hP,hw];exact e)
 |ptr m=>exact .ptr m
 |exc m e=>exact .exc (ne _ m) e
 |bR m e=>exact .bR (ne _ m) e
 |cW m e=>exact .cW (ne _ m) e
 |cY e=>exact .cY (by rw[hK];exact e)
 |raw v=>exact .raw v
theorem Mz.sub {dg:Bz}(hP:dg.P=β.P) (hw:dg.w=β.w) (hK:dg.K=β.K) (ht:dg.tb=β.tb) (hs:∀a,a∈dg.hid->a∈β.hid) (m:Mz β M H):Mz dg M H:=⟨fun a o e=>by
 have z:=m.obj a o e;cases o with
 |lst ds=>obtain⟨vs,z,l,r⟩:=z;exact⟨vs,z,l,fun i v d a b=>(r i v d a b).sub hP hw hK hs⟩
 |dk ks ds=>obtain⟨vs,z,hk,l,r⟩:=z;exact⟨vs,z,hk,l,fun i v d a b=>(r i v d a b).sub hP hw hK hs⟩
 |dt ks ds=>obtain⟨vs,z,hk,l,r⟩:=z;exact⟨vs,z,hk,l,fun i v d a b=>(r i v d a b).sub hP hw hK hs⟩
 |c6=>exact z,by rw[ht];exact m.tabs,fun a ha=>m.hids a (hs a ha),fun a o e z=>m.apart a o e (hs a z),by rw[ht];exact m.lams⟩
theorem Mz.enter {D:al}{o:HO}(hD:H D=none) (ho:oH o=true) (m:Mz β M H):Mz (β.add D) M (upd H D o):=⟨fun a u e=>by
 have pre:∀a x,H a=Wp x->upd H D o a=Wp x:=fun a x e=>by rw[ah (bh e hD)];exact e
 have z:=m.obj a u e;cases u with
 |lst ds=>obtain⟨vs,z,l,r⟩:=z;exact⟨vs,pre _ _ z,l,fun i v d a b=>(r i v d a b).enter hD⟩
 |dk ks ds=>obtain⟨vs,z,hk,l,r⟩:=z;exact⟨vs,pre _ _ z,hk,l,fun i v d a b=>(r i v d a b).enter hD⟩
 |dt ks ds=>obtain⟨vs,z,hk,l,r⟩:=z;exact⟨vs,pre _ _ z,hk,l,fun i v d a b=>(r i v d a b).enter hD⟩
 |c6=>obtain⟨c,n,z,r⟩:=z;exact⟨c,n,pre _ _ z,r⟩,fun p hp=>by
 obtain⟨ps,e,t⟩:=m.tabs p hp;exact⟨ps,by rw[ah (bh e hD)];exact e,t⟩,fun a ha=>by
 rcases im.mp ha with z|z
 ·subst z;exact⟨_,aB,ho⟩
 ·exact(m.hids a z).upd (.inl hD),fun a o e ha=>by
 rcases im.mp ha with z|z
 ·subst z;rw[m.free hD]at e;cases e
 ·exact m.apart a o e z,fun q hq=>(m.lams q hq).keep (fun _ e=>by rw[ah (bh e hD)];exact e) fun _ _ _ e=>by rw[ah (bh e hD)];exact e⟩
theorem Rz.over {D:al}{o:HO}(hD:D∈β.hid) {v:V}{d:Dv}(h:Rz β M H v d):Rz β M (upd H D o) v d :=by
 have pre:∀a x,Fz β M a->H a=some x->upd H D o a=some x:=fun a x m e=>by
  have n:a≠D:=fun z=>by subst z;exact m.2 hD
  rw[ah n];exact e
 induction h with
 |int i=>exact .int i
 |bl b=>exact .bl b
 |ax=>exact .ax
 |str z=>exact .str z
 |tup m e hl h ih=>exact .tup m (pre _ _ m e) hl ih
 |lst m e hl h ih=>exact .lst m (pre _ _ m e) hl ih
 |dk m e hk hl h ih=>exact .dk m (e.map fun _ h=>pre _ _ m h) hk hl ih
 |dt m e hk hl h ih=>exact .dt m (e.map fun _ h=>pre _ _ m h) hk hl ih
 |bZ m e m2 e2 hl h ih=>exact .bZ m (pre _ _ m e) m2 (pre _ _ m2 e2) hl ih
 |set m e=>exact .set m (pre _ _ m e)
 |ptr m=>exact .ptr m
 |exc m e=>exact .exc m (pre _ _ m e)
 |bR m e=>exact .bR m (pre _ _ m e)
 |cW m e=>exact .cW m (pre _ _ m e)
 |cY e=>exact .cY e
 |raw v=>exact .raw v
theorem Mz.over {D:al}{o:HO}(hD:D∈β.hid) (ho:oH o=true) (hM:M D=none) (ht:D ∉ β.tb) (m:Mz β M H):Mz β M (upd H D o):=⟨fun a u e=>by
 have na:a≠D:=fun z=>by subst z;rw[hM]at e;cases e
 have z:=m.obj a u e;cases u with
 |lst ds=>obtain⟨vs,z,l,r⟩:=z;exact⟨vs,by rw[ah na];exact z,l,fun i v d a b=>(r i v d a b).over hD⟩
 |dk ks ds=>obtain⟨vs,z,hk,l,r⟩:=z;exact⟨vs,by rw[ah na];exact z,hk,l,fun i v d a b=>(r i v d a b).over hD⟩
 |dt ks ds=>obtain⟨vs,z,hk,l,r⟩:=z;exact⟨vs,by rw[ah na];exact z,hk,l,fun i v d a b=>(r i v d a b).over hD⟩
 |c6=>obtain⟨c,n,z,r⟩:=z;exact⟨c,n,by rw[ah na];exact z,r⟩,fun p hp=>by
 obtain⟨ps,e,t⟩:=m.tabs p hp;have n:p≠D:=fun z=>by subst z;exact ht hp
 exact⟨ps,by rw[ah n];exact e,t⟩,fun a ha=>(m.hids a ha).upd (.inr ho),m.apart,fun q hq=>by
 obtain⟨o',e',n⟩:=m.hids D hD;exact(m.lams q hq).keep (fun _ e=>by rw[ah (fun z=>by subst z;rw[e']at e;cases e;cases n)];exact e) fun c _ _ e=>by rw[ah (fun z=>by subst z;rw[e']at e;cases e;cases n)];exact e⟩
theorem Ey.over {D:al}{o:HO}(x:Ey M H M1 H1) (hD:H D=none):Ey M H M1 (upd H1 D o):=⟨fun b u m h=>by
 have nb:b≠D:=bh h hD;rw[ah nb];exact x.keep b u m h,x.dom,x.new⟩
theorem Mz.yb {D:al}(m:Mz β M H) (hD:H D=none):D ∉ β.tb:=fun z=>by
 obtain⟨_,e,_⟩:=m.tabs D z;rw[hD]at e;cases e
structure Bx (β dg:Bz) (H:Hp):Prop where
 P:dg.P=β.P
 w:dg.w=β.w
 K:dg.K=β.K
 tb:dg.tb=β.tb
 old:∀a,a∈β.hid->a∈dg.hid
 new:∀a,a∈dg.hid->a∈β.hid\/H a=none
theorem Bx.refl:Bx β β H:=⟨rfl,rfl,rfl,rfl,fun _ h=>h,fun _ h=>.inl h⟩
theorem Bx.add {D:al}(hD:H D=none):Bx β (β.add D) H:=⟨rfl,rfl,rfl,rfl,fun _ h=>c8 _ h,fun a h=>by
 rcases im.mp h with z|z
 ·exact .inr (z▸hD)
 ·exact .inl z⟩
theorem Rz.bx {dg:Bz}(b:Bx β dg H) {v:V}{d:Dv}(h:Rz β M H v d):Rz dg M H v d :=by
 have ne:∀a x,Fz β M a->H a=some x->Fz dg M a:=fun a x m e=>⟨m.1,fun z=>by
  rcases b.new a z with q|q
  ·exact m.2 q
  ·rw[q]at e;cases e⟩
 induction h with
 |int i=>exact .int i
 |bl b=>exact .bl b
 |ax=>exact .ax
 |str z=>exact .str z
 |tup m e hl h ih=>exact .tup (ne _ _ m e) e hl ih
 |lst m e hl h ih=>exact .lst (ne _ _ m e) e hl ih
 |dk m e hk hl h ih=>exact .dk (ne _ _ m e.there.choose_spec) e hk hl ih
 |dt m e hk hl h ih=>exact .dt (ne _ _ m e.there.choose_spec) e hk hl ih
 |bZ m e m2 e2 hl h ih=>exact .bZ (ne _ _ m e) e (ne _ _ m2 e2) e2 hl ih
 |set m e=>exact .set (ne _ _ m e) (by rw[b.P,b.w];exact e)
 |ptr m=>exact .ptr m
 |exc m e=>exact .exc (ne _ _ m e) e
 |bR m e=>exact .bR (ne _ _ m e) e
 |cW m e=>exact .cW (ne _ _ m e) e
 |cY e=>exact .cY (by rw[b.K];exact e)
 |raw v=>exact .raw v
end
inductive Pin (M:Mh):Dv->Prop where
 |int (i:Int):Pin M (.int i)
 |bl (b:Bool):Pin M (.bl b)
 |ax:Pin M .ax
 |str (z:br):Pin M (.str z)
 |tup {ds:List Dv} (h:∀d∈ds,Pin M d):Pin M (.tup ds)
 |lst {ds:List Dv} (h:∀d∈ds,Pin M d):Pin M (.lst ds)
 |set (ns:List Int):Pin M (.set ns)
 |ptr {a:al} (h:(M a).isSome=true):Pin M (.ptr a)
 |exc (C:al):Pin M (.exc C)
 |bR (ns:List Int):Pin M (.bR ns)
 |raw (v:V):Pin M (.raw v)
 |dk {ks:List Key} {ds:List Dv} (h:∀d∈ds,Pin M d):Pin M (.dk ks ds)
 |dt {ks:List (List Key)} {ds:List Dv} (h:∀d∈ds,Pin M d):Pin M (.dt ks ds)
 |bZ {f c:al} {o oc:i8} {vs:List V} {ds:List Dv} (h:∀d∈ds,Pin M d):Pin M (.bZ f o c oc vs ds)
theorem Rz.pin {β:Bz}{M:Mh}{H:Hp}{v:V}{d:Dv}(h:Rz β M H v d):Pin M d :=by
 induction h with
 |int i=>exact .int i
 |bl b=>exact .bl b
 |ax=>exact .ax
 |str z=>exact .str z
 |tup m e hl h ih=>
  refine .tup fun d hd=>?_
  obtain⟨i,hi⟩:=wv.mp hd;have h1:=(ce.mp hi).1;exact ih i _ d (ap (by omega)) hi
 |lst m e hl h ih=>
  refine .lst fun d hd=>?_
  obtain⟨i,hi⟩:=wv.mp hd;have h1:=(ce.mp hi).1;exact ih i _ d (ap (by omega)) hi
 |dk m e hk hl h ih=>
  refine .dk fun d hd=>?_
  obtain⟨i,hi⟩:=wv.mp hd;have h1:=(ce.mp hi).1;exact ih i _ d (ap (by omega)) hi
 |dt m e hk hl h ih=>
  refine .dt fun d hd=>?_
  obtain⟨i,hi⟩:=wv.mp hd;have h1:=(ce.mp hi).1;exact ih i _ d (ap (by omega)) hi
 |bZ m e m2 e2 hl h ih=>
  refine .bZ fun d hd=>?_
  obtain⟨i,hi⟩:=wv.mp hd;have h1:=(ce.mp hi).1;exact ih i _ d (ap (by omega)) hi
 |set m e=>exact .set _
 |ptr m=>exact .ptr m
 |exc m e=>exact .exc _
 |bR m e=>exact .bR _
 |cW m e=>exact .bR _
 |cY e=>exact .bR _
 |raw v=>exact .raw v
def Mo.items:Mo->List Dv
 | .lst ds=>ds
 | .dk _ ds=>ds
 | .dt _ ds=>ds
 | .c6=>[]
def Wf (M:Mh):Prop:=∀b o,M b=some o->∀d∈o.items,Pin M d
theorem jH.VO {β:Bz}{M:Mh}{H:Hp}{a:al}{o:Mo}(h:jH β M H a o):∃vs,aH β M H vs o.items :=by
 cases o with
 |lst ds=>obtain⟨vs,_,rs⟩:=h;exact⟨vs,rs⟩
 |dk ks ds=>obtain⟨vs,_,_,rs⟩:=h;exact⟨vs,rs⟩
 |dt ks ds=>obtain⟨vs,_,_,rs⟩:=h;exact⟨vs,rs⟩
 |c6=>exact⟨[],.nil⟩
theorem Mz.wf {β:Bz}{M:Mh}{H:Hp}(m:Mz β M H):Wf M:=fun b o e d hd=>by
 obtain⟨vs,rs⟩:=(m.obj b _ e).VO;obtain⟨i,hi⟩:=wv.mp hd;obtain⟨v,_,r⟩:=rs.get hi;exact r.pin
abbrev aA:=List (Option Dv)
abbrev ZK:=Dv->Mh->Prop
abbrev aI:=aA->Mh->ZK->Prop
abbrev cC:=aA->Mh->(Bool->Mh->Prop)->Prop
abbrev fh:=aA->Mh->(List Dv->Mh->Prop)->Prop
structure iP where
 nx:aA->Mh->Prop
 rt:ZK
 bk:aA->Mh->Prop:=fun _ _=>False
 ct:aA->Mh->Prop:=fun _ _=>False
abbrev cu:=iP->aA->Mh->Prop
abbrev cf:=Dv->aA->Mh->(aA->Mh->Prop)->Prop
abbrev oI:=List Dv->aA->Mh->(aA->Mh->Prop)->Prop
abbrev dZ:=aA->Mh->(List Dv->Mh->Prop)->Prop
structure Gz extends Bz where
 M0:Mh
 H0:Hp
structure Zr (Γ:Gz) (β:Bz) (M:Mh) (ρ:aA) (σ:St) (H:Hp):Prop where
 eP:β.P=Γ.P
 ew:β.w=Γ.w
 eK:β.K=Γ.K
 et:β.tb=Γ.tb
 sub:∀a,a∈Γ.hid->a∈β.hid
 wf:Wf Γ.M0
 ent:Ey Γ.M0 Γ.H0 M H
 mz:Mz β M H
 len:ρ.length=σ.length
 at':∀(i:Nat) (d:Dv),ρ[i]?=some (some d)->∃v,σ[i]?=some (some v)/\Rz β M H v d
section
variable {Γ:Gz}{β:Bz}{M M':Mh}{ρ:aA}{σ:St}{H H':Hp}
theorem Zr.step (z:Zr Γ β M ρ σ H) (x:Ex β M H M' H'):Zr Γ β M' ρ σ H':=⟨z.eP,z.ew,z.eK,z.et,z.sub,z.wf,z.ent.trans x.toEy,x.mz,z.len,fun i d e=>let ⟨v,h,r⟩:=z.at' i d e;⟨v,h,r.ex x⟩⟩
theorem Zr.set (z:Zr Γ β M ρ σ H) (i:Nat) {v:V}{d:Dv}(r:Rz β M H v d):Zr Γ β M (ρ.set i (some d)) (σ.set i (some v)) H:=⟨z.eP,z.ew,z.eK,z.et,z.sub,z.wf,z.ent,z.mz,by simp[z.len],fun j e h=>by
 rw[Pi]at h ⊢;rw[z.len]at h;split at h
 ·rename_i q;rw[if_pos q];split at h
  ·rename_i q2;rw[if_pos q2];cases h;exact⟨v,rfl,r⟩
  ·cases h
 ·rename_i q;rw[if_neg q];exact z.at' j e h⟩
end
def lE (Γ:Gz) (p:aI):TE:=fun σ H Q=>∃(β:Bz) (ρ:aA) (M:Mh) (Q':ZK),Zr Γ β M ρ σ H/\p ρ M Q'/\∀d M' v H',Ex β M H M' H'->Rz β M' H' v d->Q' d M'->Q v H'
def lT (Γ:Gz) (p:cC):TT:=fun σ H Q=>∃(β:Bz) (ρ:aA) (M:Mh) (Q':Bool->Mh->Prop),Zr Γ β M ρ σ H/\p ρ M Q'/\∀b M' H',Ex β M H M' H'->Q' b M'->Q b H'
def lA (Γ:Gz) (p:fh):TA:=fun σ H Q=>∃(β:Bz) (ρ:aA) (M:Mh) (Q':List Dv->Mh->Prop),Zr Γ β M ρ σ H/\p ρ M Q'/\∀ds M' vs H',Ex β M H M' H'->aH β M' H' vs ds->Q' ds M'->Q vs H'
structure Ev (β:Bz) (M:Mh) (H:Hp) (M':Mh) (H':Hp):Prop where
 keep:∀b o,M b=none->H b=some o->H' b=some o\/∃o',Tg o o'/\H' b=some o'
 new:∀a o,M a=none->H a=some o->M' a=none
 mz:Mz β M' H'
theorem Ex.ev {β:Bz}{M M':Mh}{H H':Hp}(x:Ex β M H M' H'):Ev β M H M' H':=⟨x.keep,x.new,x.mz⟩
theorem Ev.refl {β:Bz}{M:Mh}{H:Hp}(m:Mz β M H):Ev β M H M H:=(Ex.refl m).ev
theorem Ev.trans {β:Bz}{M M1 M2:Mh}{H H1 H2:Hp}(x:Ev β M H M1 H1) (y:Ev β M1 H1 M2 H2):Ev β M H M2 H2 :=by
 refine⟨fun b o hm h=>?_,fun a o hm h=>?_,y.mz⟩
 ·have mO:=x.new b o hm h;rcases x.keep b o hm h with q|⟨o1,t,q⟩
  ·exact y.keep b o mO q
  ·rcases y.keep b _ mO q with q2|⟨o2,t2,q2⟩
   ·exact .inr ⟨o1,t,q2⟩
   ·exact .inr ⟨o2,t.trans t2,q2⟩
 ·have mO:=x.new a o hm h;rcases x.keep a o hm h with q|⟨o1,t,q⟩
  ·exact y.new a _ mO q
  ·exact y.new a _ mO q
structure B1 (Γ:Gz) (β:Bz) (M:Mh) (H:Hp) (D':iP) (D:Ends):Prop where
 nx:∀b7 M' aO H',Ev β M H M' H'->Zr Γ β M' b7 aO H'->D'.nx b7 M'->D.nx aO H'
 rt:∀d M' v H',Ev β M H M' H'->Ey Γ.M0 Γ.H0 M' H'->Rz β M' H' v d->D'.rt d M'->D.rt v H'
 bk:∀b7 M' aO H',Ev β M H M' H'->Zr Γ β M' b7 aO H'->D'.bk b7 M'->D.bk aO H'
 ct:∀b7 M' aO H',Ev β M H M' H'->Zr Γ β M' b7 aO H'->D'.ct b7 M'->D.ct aO H'
theorem B1.step {Γ:Gz}{β:Bz}{M M1:Mh}{H H1:Hp}{D':iP}{D:Ends}(r:B1 Γ β M H D' D) (x:Ev β M H M1 H1):B1 Γ β M1 H1 D' D:=
 ⟨fun a b c d y=>r.nx a b c d (x.trans y),fun a b c d y=>r.rt a b c d (x.trans y),fun a b c d y=>r.bk a b c d (x.trans y),fun a b c d y=>r.ct a b c d (x.trans y)⟩
def lS (Γ:Gz) (p:cu):TS:=fun D σ H=>∃(β:Bz) (ρ:aA) (M:Mh) (D':iP),Zr Γ β M ρ σ H/\p D' ρ M/\B1 Γ β M H D' D
def lG (Γ:Gz) (p:cf):TG:=fun x σ H N=>∃(β:Bz) (d:Dv) (ρ:aA) (M:Mh) (N':aA->Mh->Prop),Zr Γ β M ρ σ H/\Rz β M H x d/\p d ρ M N'/\∀b7 M' aO H',Ex β M H M' H'->Zr Γ β M' b7 aO H'->N' b7 M'->N aO H'
def VP (Γ:Gz) (p:oI):rG:=fun xs σ H N=>∃(β:Bz) (ds:List Dv) (ρ:aA) (M:Mh) (N':aA->Mh->Prop),Zr Γ β M ρ σ H/\aH β M H xs ds/\p ds ρ M N'/\∀b7 M' aO H',Ex β M H M' H'->Zr Γ β M' b7 aO H'->N' b7 M'->N aO H'
def Ep (β:Bz) (J:It) (ds:List Dv) (M:Mh) (H:Hp):Prop:=∀dg M' H',Bx β dg H->Ey M H M' H'->Mz dg M' H'->∀i,(i<ds.length->J.go i H'/\∀x jJ,J.yld i H' x jJ->Ex dg M' H' M' jJ/\∃d,ds[i]?=some d/\Rz dg M' jJ x d)/\(ds.length<=i->J.stop i H')
def lI (Γ:Gz) (p:dZ):TI:=fun σ H R=>∃(β:Bz) (ρ:aA) (M:Mh) (R':List Dv->Mh->Prop),Zr Γ β M ρ σ H/\p ρ M R'/\∀ds M' H' J,Ex β M H M' H'->Ep β J ds M' H'->R' ds M'->R J H'
abbrev QE (Γ:Gz) (X:Cx) (e:db) (p:aI):Prop:=PE X e (lE Γ p)
abbrev QT (Γ:Gz) (X:Cx) (e:db) (p:cC):Prop:=PT X e (lT Γ p)
abbrev QW (Γ:Gz) (X:Cx) (e:db) (p:cC):Prop:=PW X e (lT Γ p)
abbrev QA (Γ:Gz) (X:Cx) (es:List db) (p:fh):Prop:=PA X es (lA Γ p)
abbrev QS (Γ:Gz) (X:Cx) (s:r9) (p:cu):Prop:=PS X s (lS Γ p)
abbrev nW (Γ:Gz) (X:Cx) (s:List r9) (p:cu):Prop:=ib X s (lS Γ p)
abbrev QG (Γ:Gz) (X:Cx) (e:db) (p:cf):Prop:=PG X e (lG Γ p)
abbrev Ja (Γ:Gz) (X:Cx) (e:List db) (p:oI):Prop:=uM X e (VP Γ p)
abbrev QI (Γ:Gz) (X:Cx) (tg e:db) (p:dZ):Prop:=PI X tg e (lI Γ p)
section
variable {X:Cx}
theorem PE.imp {e:db}{t t':TE}(h:PE X e t) (i:∀σ H Q,t' σ H Q->t σ H Q):PE X e t':=⟨fun pins s σ H Q I q=>h pins s σ H Q I (i _ _ _ q)⟩
theorem PT.imp {e:db}{t t':TT}(h:PT X e t) (i:∀σ H Q,t' σ H Q->t σ H Q):PT X e t':=⟨fun pins s σ H Q I q=>h pins s σ H Q I (i _ _ _ q)⟩
theorem PW.imp {e:db}{t t':TT}(h:PW X e t) (i:∀σ H Q,t' σ H Q->t σ H Q):PW X e t':=fun wh pins s σ H Q I q=>h wh pins s σ H Q I (i _ _ _ q)
theorem PA.imp {e:List db}{t t':TA}(h:PA X e t) (i:∀σ H Q,t' σ H Q->t σ H Q):PA X e t':=⟨fun pos pins s σ H Q I q=>h pos pins s σ H Q I (i _ _ _ q)⟩
theorem PS.imp {e:r9}{t t':TS}(h:PS X e t) (i:∀D σ H,t' D σ H->t D σ H):PS X e t':=⟨fun pins s σ H D I q=>h pins s σ H D I (i _ _ _ q)⟩
theorem ib.imp {e:List r9}{t t':TS}(h:ib X e t) (i:∀D σ H,t' D σ H->t D σ H):ib X e t':=⟨fun pins s σ H D I q=>h pins s σ H D I (i _ _ _ q)⟩
theorem PG.imp {e:db}{t t':TG}(h:PG X e t) (i:∀v σ H Q,t' v σ H Q->t v σ H Q):PG X e t':=fun pins s σ H v u Q I r q=>h pins s σ H v u Q I r (i _ _ _ _ q)
theorem uM.imp {e:List db}{t t':rG}(h:uM X e t) (i:∀v σ H Q,t' v σ H Q->t v σ H Q):uM X e t':=fun pins s σ H v u Q I r q=>h pins s σ H v u Q I r (i _ _ _ _ q)
theorem PI.imp {tg e:db}{t t':TI}(h:PI X tg e t) (i:∀σ H Q,t' σ H Q->t σ H Q):PI X tg e t':=fun pins s σ H Q I q=>h pins s σ H Q I (i _ _ _ q)
theorem iF.imp {e:List db}{t t':TT}(h:iF X e t) (i:∀σ H Q,t' σ H Q->t σ H Q):iF X e t':=fun pins s σ H Q I q=>h pins s σ H Q I (i _ _ _ q)
variable {Γ:Gz}{a b c:db}{pa pb pc:aI}{pos:u4}
def zVar (i:Nat):aI:=fun ρ M Q=>match ρ[i]? with|some (some d)=>Q d M|_=>False
def zC (d:Dv):aI:=fun _ M Q=>Q d M
theorem Oc {i:Nat}{x:br}(hN:X.N[i]?=some x) (hv:qd X.env.scope x) (hd:(x==("__debug__" : br))=false :=by decide) (eT:(x==("__classdict__" : br))=false :=by decide):QE Γ X (.Name x pos) (zVar i):=
 (wR hN hv hd eT).imp fun σ H Q ⟨β,ρ,M,Q',z,h,q⟩=>by
  unfold zVar at h;split at h
  ·rename_i d e;obtain⟨v,e2,r⟩:=z.at' i d e;exact⟨v,e2,q d M v H (.refl z.mz) r h⟩
  ·exact h.elim
theorem qc {e:db}{v:V}{d:Dv}(h:PE X e (tC v)) (r:∀β M H,Rz β M H v d):QE Γ X e (zC d):=h.imp fun σ H Q ⟨β,ρ,M,Q',z,h,q⟩=>q d M v H (.refl z.mz) (r β M H) h
theorem aw {i j pos}:QE Γ X (.Constant (.int i) j pos) (zC (.int i)):=qc LN fun _ _ _=>.int _
theorem j5 {b j pos}:QE Γ X (.Constant (.bool b) j pos) (zC (.bl b)):=qc Qw fun _ _ _=>.bl _
theorem su {j pos}:QE Γ X (.Constant .none j pos) (zC .ax):=qc LO fun _ _ _=>.ax
theorem oJ {x j pos}:QE Γ X (.Constant (.str x) j pos) (zC (.str x)):=qc LQ fun _ _ _=>.str _
theorem Hg {x:br}{i:Int}{u:am}(hg:Gl X x) (hm:X.mg x=some u) (r:RelV (.int i) u) (hd:(x==("__debug__" : br))=false :=by decide):QE Γ X (.Name x pos) (zC (.int i)):=qc (zW hg hm r hd) fun _ _ _=>.int _
theorem Hh {x z:br}{u:am}(hg:Gl X x) (hm:X.mg x=some u) (r:RelV (.str z) u) (hd:(x==("__debug__" : br))=false :=by decide):QE Γ X (.Name x pos) (zC (.str z)):=qc (zW hg hm r hd) fun _ _ _=>.str _
theorem bI {x:br}{v:V}{u:am}(hg:Gl X x) (hm:X.mg x=none) (hv:bootBuiltins x=some u) (r:RelV v u) (hn:x ≠ "__name__" := by decide) (hd:(x==("__debug__" : br))=false :=by decide):QE Γ X (.Name x pos) (zC (.raw v)):=qc (JS hg hm hv r hn hd) fun _ _ _=>.raw _
abbrev fi:=Dv->Dv->Mh->ZK->Prop
def sv (Γ:Gz) (r:R2) (z:fi):Prop:=∀(β:Bz) x y d e M H Q Q',β.P=Γ.P->β.w=Γ.w->β.K=Γ.K->Mz β M H->Rz β M H x d->Rz β M H y e->z d e M Q'->(∀d' M' v H',Ex β M H M' H'->Rz β M' H' v d'->Q' d' M'->Q v H')->r x y H Q
def eC (Γ:Gz) (X:Cx) (f:am->am->W1 am) (z:fi):Prop:=∃r,OpR X f r/\sv Γ r z
def zOp (z:fi) (pa pb:aI):aI:=fun ρ M Q=>pa ρ M fun d M1=>pb ρ M1 fun e M2=>z d e M2 Q
theorem B2 {r:R2}{z:fi}(hz:sv Γ r z) {σ:St}{H:Hp}{Q:VK}(h:lE Γ (zOp z pa pb) σ H Q):Dm r (lE Γ pa) (lE Γ pb) σ H Q :=by
 obtain⟨β,ρ,M,Q',zr,h,q⟩:=h;exact⟨β,ρ,M,_,zr,h,fun d M1 v H1 x1 r1 h1=>⟨β,ρ,M1,_,zr.step x1,h1,fun e M2 u H2 x2 r2 h2=>hz β v u d e M2 H2 Q Q' zr.eP zr.ew zr.eK x2.mz (r1.ex x2) r2 h2 fun d' M' v' H' x3 r3 q3=>q _ _ _ _ (x1.trans (x2.trans x3)) r3 q3⟩⟩
theorem aP {op:Z1}{z:fi}(ho:eC Γ X (binaryOp op) z) (ha:QE Γ X a pa) (hb:QE Γ X b pb):QE Γ X (.BinOp a op b pos) (zOp z pa pb) :=by
 obtain⟨r,h1,h2⟩:=ho;exact(QJ h1 ha hb).imp fun σ H Q h=>B2 h2 h
theorem iu {op:XV}{z:fi}(ho:eC Γ X (compareOp op) z) (ha:QE Γ X a pa) (hb:QE Γ X b pb) (hm:behindInMarks op b=false):QE Γ X (.Compare a [op] [b] pos) (zOp z pa pb) :=by
 obtain⟨r,h1,h2⟩:=ho;exact(J4 h1 ha hb hm).imp fun σ H Q h=>B2 h2 h
def zBool (Q:Bool->Mh->Prop):ZK:=fun d M=>match d with | .bl k=>Q k M|_=>False
theorem kN {Q:Bool->Mh->Prop}{d:Dv}{M:Mh}(h:zBool Q d M):∃k,d=.bl k/\Q k M :=by
 unfold zBool at h;split at h
 ·exact⟨_,rfl,h⟩
 ·exact h.elim
def zTest (p:aI):cC:=fun ρ M Q=>p ρ M (zBool Q)
theorem yc {p:aI}{t:TE}(i:∀σ H Q,lE Γ p σ H Q->t σ H Q) {σ:St}{H:Hp}{Q:Bool->Hp->Prop}(h:lT Γ (zTest p) σ H Q):Bk t σ H Q :=by
 obtain⟨β,ρ,M,Q',zr,h,q⟩:=h;refine i _ _ _ ⟨β,ρ,M,_,zr,h,fun d M1 v H1 x1 r1 h1=>?_⟩
 obtain⟨k,rfl,h2⟩:=kN h1;exact⟨k,dY r1,q k M1 H1 x1 h2⟩
theorem bC {op:XV}{z:fi}(ho:eC Γ X (compareOp op) z) (ha:QE Γ X a pa) (hb:QE Γ X b pb) (hm:behindInMarks op b=false):QT Γ X (.Compare a [op] [b] pos) (zTest (zOp z pa pb)) :=by
 obtain⟨r,h1,h2⟩:=ho;exact(J5 h1 ha hb hm).imp fun σ H Q h=>yc (fun _ _ _=>B2 h2) h
theorem fX {e:db}{p:aI}(h:QE Γ X e p) (he:∀whole,isTrue e X.env whole=(do let v <- whole;standAt e.pos;holding [v] (truthy v)) :=by intro _;rfl):QT Γ X e (zTest p):=
 (LR h he).imp fun σ H Q h=>yc (fun _ _ _ h=>h) h
def zChain (z z':fi) (pa pb pc:aI):aI:=fun ρ M Q=>pa ρ M fun x M1=>pb ρ M1 fun y M2=>z x y M2 (zBool fun k M3=>if k=true then pc ρ M3 fun u M4=>z' y u M4 Q else Q (.bl false) M3)
theorem Ar {r r':R2}{z z':fi}(hz:sv Γ r z) (VQ:sv Γ r' z') {σ:St}{H:Hp}{Q:VK}(h:lE Γ (zChain z z' pa pb pc) σ H Q):wX r r' (lE Γ pa) (lE Γ pb) (lE Γ pc) σ H Q :=by
 obtain⟨β,ρ,M,Q',zr,h,q⟩:=h;refine⟨β,ρ,M,_,zr,h,fun d M1 v H1 x1 r1 h1=>⟨β,ρ,M1,_,zr.step x1,h1,fun e M2 u H2 x2 r2 h2=>hz β v u d e M2 H2 _ _ zr.eP zr.ew zr.eK x2.mz (r1.ex x2) r2 h2 fun d' M3 v' H3 x3 r3 h3=>?_⟩⟩
 obtain⟨k,rfl,h4⟩:=kN h3;have kO:=x1.trans (x2.trans x3);refine⟨k,dY r3,?_⟩;cases k with
 |true=>
  rw[if_pos rfl]at h4 ⊢;exact⟨β,ρ,M3,_,zr.step kO,h4,fun f M4 g H4 x4 r4 h5=>VQ β u g e f M4 H4 _ _ zr.eP zr.ew zr.eK x4.mz ((r2.ex x3).ex x4) r4 h5 fun d5 M5 v5 H5 x5 r5 q5=>q _ _ _ _ (kO.trans (x4.trans x5)) r5 q5⟩
 |false=>
  rw[if_neg ij]at h4 ⊢;exact q _ _ _ _ kO (.bl _) h4
theorem Hi {op kn:XV}{z z':fi}(ho:eC Γ X (compareOp op) z) (i6:eC Γ X (compareOp kn) z') (ha:QE Γ X a pa) (hb:QE Γ X b pb) (hc:QE Γ X c pc) (hm:lastMarks [op,kn] [b,c]=false :=by with_unfolding_all rfl) :
  QE Γ X (.Compare a [op,kn] [b,c] pos) (zChain z z' pa pb pc) :=by
 obtain⟨r,h1,h2⟩:=ho;obtain⟨r',Od,Oe⟩:=i6;exact(Gj h1 Od ha hb hc hm).imp fun σ H Q h=>Ar h2 Oe h
theorem ye {op kn:XV}{z z':fi}(ho:eC Γ X (compareOp op) z) (i6:eC Γ X (compareOp kn) z') (ha:QE Γ X a pa) (hb:QE Γ X b pb) (hc:QE Γ X c pc) (hm:lastMarks [op,kn] [b,c]=false :=by with_unfolding_all rfl) :
  QT Γ X (.Compare a [op,kn] [b,c] pos) (zTest (zChain z z' pa pb pc)) :=by
 obtain⟨r,h1,h2⟩:=ho;obtain⟨r',Od,Oe⟩:=i6;exact(Gk h1 Od ha hb hc hm).imp fun σ H Q h=>yc (fun _ _ _=>Ar h2 Oe) h
variable {tA rF:cC}{rest:List db}
def zAnd (t u:cC):cC:=fun ρ M Q=>t ρ M fun c M1=>if c=true then u ρ M1 Q else Q false M1
def zOr (t u:cC):cC:=fun ρ M Q=>t ρ M fun c M1=>if c=true then Q true M1 else u ρ M1 Q
def zNot (t:cC):cC:=fun ρ M Q=>t ρ M fun c M1=>Q (!c) M1
theorem As (ha:QT Γ X a tA):QW Γ X (.BoolOp .And [a] pos) tA:=JT ha
theorem kP (ha:QT Γ X a tA):QW Γ X (.BoolOp .Or [a] pos) tA:=LU ha
theorem Er (ha:QT Γ X a tA) (hb:QW Γ X (.BoolOp .And (b::rest) pos) rF):QW Γ X (.BoolOp .And (a::b::rest) pos) (zAnd tA rF):=
 (LV ha hb).imp fun σ H Q ⟨β,ρ,M,Q',zr,h,q⟩=>⟨β,ρ,M,_,zr,h,fun k M1 H1 x1 h1=>by
  cases k with
  |true=>rw[if_pos rfl]at h1 ⊢;exact⟨β,ρ,M1,_,zr.step x1,h1,fun k2 M2 H2 x2 h2=>q _ _ _ (x1.trans x2) h2⟩
  |false=>rw[if_neg ij]at h1 ⊢;exact q _ _ _ x1 h1⟩
theorem nq (ha:QT Γ X a tA) (hb:QW Γ X (.BoolOp .Or (b::rest) pos) rF):QW Γ X (.BoolOp .Or (a::b::rest) pos) (zOr tA rF):=
 (Qx ha hb).imp fun σ H Q ⟨β,ρ,M,Q',zr,h,q⟩=>⟨β,ρ,M,_,zr,h,fun k M1 H1 x1 h1=>by
  cases k with
  |false=>rw[if_neg ij]at h1 ⊢;exact⟨β,ρ,M1,_,zr.step x1,h1,fun k2 M2 H2 x2 h2=>q _ _ _ (x1.trans x2) h2⟩
  |true=>rw[if_pos rfl]at h1 ⊢;exact q _ _ _ x1 h1⟩
theorem oK (ha:QT Γ X a tA):QT Γ X (.UnaryOp .Not a pos) (zNot tA):=(LX ha).imp fun σ H Q ⟨β,ρ,M,Q',zr,h,q⟩=>⟨β,ρ,M,_,zr,h,fun k M1 H1 x1 h1=>q _ _ _ x1 h1⟩
theorem QW.pt {e:db}{t:cC}(h:QW Γ X e t):QT Γ X e t:=PW.pt h
def zAndV (pa pb:aI):aI:=fun ρ M Q=>pa ρ M (zBool fun c M1=>if c=true then pb ρ M1 Q else Q (.bl false) M1)
def zNotV (pa:aI):aI:=fun ρ M Q=>pa ρ M (zBool fun c M1=>Q (.bl (!c)) M1)
theorem jK {op}(h:QE Γ X a pa):QE Γ X (.BoolOp op [a] pos) pa:=LY h
theorem gO (ha:QE Γ X a pa) (hb:QE Γ X (.BoolOp .And (b::rest) pos) pb):QE Γ X (.BoolOp .And (a::b::rest) pos) (zAndV pa pb):=
 (LZ ha hb).imp fun σ H Q ⟨β,ρ,M,Q',zr,h,q⟩=>⟨β,ρ,M,_,zr,h,fun d M1 v H1 x1 r1 h1=>by
  obtain⟨k,rfl,h2⟩:=kN h1;refine⟨k,dY r1,?_⟩;cases k with
  |true=>rw[if_pos rfl]at h2 ⊢;exact⟨β,ρ,M1,_,zr.step x1,h2,fun d2 M2 v2 H2 x2 r2 h2=>q _ _ _ _ (x1.trans x2) r2 h2⟩
  |false=>rw[if_neg ij]at h2 ⊢;exact q _ _ _ _ x1 (.bl _) h2⟩
theorem yf (ha:QE Γ X a pa):QE Γ X (.UnaryOp .Not a pos) (zNotV pa):=(L0 ha).imp fun σ H Q ⟨β,ρ,M,Q',zr,h,q⟩=>⟨β,ρ,M,_,zr,h,fun d M1 v H1 x1 r1 h1=>by
  obtain⟨k,rfl,h2⟩:=kN h1;exact⟨k,dY r1,q _ _ _ _ x1 (.bl _) h2⟩⟩
def zNil:fh:=fun _ M Q=>Q [] M
def zCons (p:aI) (r:fh):fh:=fun ρ M Q=>p ρ M fun d M1=>r ρ M1 fun ds M2=>Q (d::ds) M2
variable {es:List db}{za:fh}
theorem af:QA Γ X [] zNil:=MB.imp fun σ H Q ⟨β,ρ,M,Q',zr,h,q⟩=>q [] M [] H (.refl zr.mz) .nil h
theorem aa {e:db}(ha:QE Γ X e pa) (hr:QA Γ X es za) (hs:starEach (e::es) X.env=(false,eval e X.env)::starEach es X.env :=by rfl):QA Γ X (e::es) (zCons pa za):=
 (pK ha hr hs).imp fun σ H Q ⟨β,ρ,M,Q',zr,h,q⟩=>⟨β,ρ,M,_,zr,h,fun d M1 v H1 x1 r1 h1=>⟨β,ρ,M1,_,zr.step x1,h1,fun ds M2 vs H2 x2 r2 h2=>q _ _ _ _ (x1.trans x2) (.cons (r1.ex x2) r2) h2⟩⟩
def zTup (p:fh):aI:=fun ρ M Q=>p ρ M fun ds M1=>ds.length<=sizeLine/\Q (.tup ds) M1
def zLst (p:fh):aI:=fun ρ M Q=>p ρ M fun ds M1=>ds.length<=sizeLine/\Q (.lst ds) M1
def zLstP (p:fh):aI:=fun ρ M Q=>p ρ M fun ds M1=>ds.length<=sizeLine/\∀a,M1 a=none->Q (.ptr a) (au M1 a (.lst ds))
theorem Of {x1}(h:QA Γ X es za):QE Γ X (.Tuple es x1 pos) (zTup za):=(MC h).imp fun σ H Q ⟨β,ρ,M,Q',zr,h,q⟩=>⟨β,ρ,M,_,zr,h,fun ds M1 vs H1 x1 r1 h1=>⟨by rw[r1.len];exact h1.1,fun p hp=>by
  have x2:=Ex.lay x1.mz hp (.tup vs);exact q _ _ _ _ (x1.trans x2) (jI (x1.mz.fz hp) aB (r1.ex x2)) h1.2⟩⟩
theorem sx (h:QA Γ X es za):QE Γ X (.List es pos) (zLst za):=(Du h).imp fun σ H Q ⟨β,ρ,M,Q',zr,h,q⟩=>⟨β,ρ,M,_,zr,h,fun ds M1 vs H1 x1 r1 h1=>⟨by rw[r1.len];exact h1.1,fun p hp=>by
  have x2:=Ex.lay x1.mz hp (.lst vs);exact q _ _ _ _ (x1.trans x2) (ya (x1.mz.fz hp) aB (r1.ex x2)) h1.2⟩⟩
theorem tU (h:QA Γ X es za):QE Γ X (.List es pos) (zLstP za):=(Du h).imp fun σ H Q ⟨β,ρ,M,Q',zr,h,q⟩=>⟨β,ρ,M,_,zr,h,fun ds M1 vs H1 x1 r1 h1=>⟨by rw[r1.len];exact h1.1,fun p hp=>by
  have x2:=Ex.own x1.mz (.inr hp) r1;exact q _ _ _ _ (x1.trans x2) (.ptr (by rw[updM_same];rfl)) (h1.2 p (x1.mz.free hp))⟩⟩
abbrev vn:=List Dv->Mh->ZK->Prop
def Jb (Γ:Gz) (r:List V->Hp->VK->Prop) (z:vn):Prop:=∀(β:Bz) xs ds M H Q Q',β.P=Γ.P->β.w=Γ.w->β.K=Γ.K->Mz β M H->aH β M H xs ds->z ds M Q'->(∀d' M' v H',Ex β M H M' H'->Rz β M' H' v d'->Q' d' M'->Q v H')->r xs H Q
def gq (Γ:Gz) (X:Cx) (f:am) (z:vn):Prop:=∃r,dM X f r/\Jb Γ r z
def zCB (z:vn) (p:fh):aI:=fun ρ M Q=>p ρ M fun ds M1=>z ds M1 Q
theorem Og {r:List V->Hp->VK->Prop}{z:vn}(hz:Jb Γ r z) {σ:St}{H:Hp}{Q:VK}(h:lE Γ (zCB z za) σ H Q):ME r (lA Γ za) σ H Q :=by
 obtain⟨β,ρ,M,Q',zr,h,q⟩:=h;exact⟨β,ρ,M,_,zr,h,fun ds M1 vs H1 x1 r1 h1=>hz β vs ds M1 H1 _ _ zr.eP zr.ew zr.eK x1.mz r1 h1 fun d' M' v' H' x2 r2 q2=>q _ _ _ _ (x1.trans x2) r2 q2⟩
variable {st:r9}{SV:List r9}{p p2:cu}{e:db}{pe:aI}
def zNext:cu:=fun D ρ M=>D.nx ρ M
def zSeq (p q:cu):cu:=fun D ρ M=>p {D with nx:=q D} ρ M
theorem qss_nil:nW Γ X [] zNext:=JU.imp fun D σ H ⟨β,ρ,M,D',zr,h,r⟩=>r.nx ρ M σ H (.refl zr.mz) zr h
theorem ai (h1:QS Γ X st p) (h2:nW Γ X SV p2):nW Γ X (st::SV) (zSeq p p2):=(Gb h1 h2).imp fun D σ H ⟨β,ρ,M,D',zr,h,r⟩=>
 ⟨β,ρ,M,_,zr,h,fun b7 M' aO H' x fY h'=>⟨β,b7,M',D',fY,h',r.step x⟩,r.rt,r.bk,r.ct⟩
theorem av (h1:QS Γ X st p):nW Γ X [st] p:=JV h1
def zDrop (p:aI):cu:=fun D ρ M=>p ρ M fun _ M1=>D.nx ρ M1
theorem pO (he:QE Γ X e pe) (hs:swapsWith e none pos.line X.env=pure false :=by rfl):QS Γ X (.Expr e pos) (zDrop pe):=(JW he hs).imp fun D σ H ⟨β,ρ,M,D',zr,h,r⟩=>
 ⟨β,ρ,M,_,zr,h,fun d M1 v H1 x1 r1 h1=>r.nx ρ M1 σ H1 x1.ev (zr.step x1) h1⟩
def zRet (p:aI):cu:=fun D ρ M=>p ρ M D.rt
theorem aS (he:QE Γ X e pe):QS Γ X (.Return (some e) pos) (zRet pe):=(L1 he).imp fun D σ H ⟨β,ρ,M,D',zr,h,r⟩=>⟨β,ρ,M,_,zr,h,fun d M' v H' x r1 h1=>r.rt _ _ _ _ x.ev (zr.ent.trans x.toEy) r1 h1⟩
def zIfS (c:cC) (p q:cu):cu:=fun D ρ M=>c ρ M fun b M1=>if b=true then p D ρ M1 else q D ρ M1
theorem cq {as bs:List r9}{pa pb:cu}(hc:QT Γ X c tA) (ha:nW Γ X as pa) (hb:nW Γ X bs pb):QS Γ X (.If c as bs pos) (zIfS tA pa pb):=(QD hc ha hb).imp fun D σ H ⟨β,ρ,M,D',zr,h,r⟩=>
 ⟨β,ρ,M,_,zr,h,fun k M1 H1 x1 h1=>by
  cases k with
  |true=>rw[if_pos rfl]at h1 ⊢;exact⟨β,ρ,M1,D',zr.step x1,h1,r.step x1.ev⟩
  |false=>rw[if_neg ij]at h1 ⊢;exact⟨β,ρ,M1,D',zr.step x1,h1,r.step x1.ev⟩⟩
def zgName (i:Nat):cf:=fun d ρ M N=>N (ρ.set i (some d)) M
theorem aE {i:Nat}{x:br}(hN:X.N.Nodup) (hi:X.N[i]?=some x) (hx:Loc X.env.scope x) (hf:X.fn x=true\/X.env.scope.names.lookup x=some .local :=by first|exact .inl rfl|exact .inr rfl|assumption):QG Γ X (.Name x pos) (zgName i):=
 (JX hN hi hx hf).imp fun v σ H N ⟨β,d,ρ,M,N',zr,r,h,q⟩=>q _ _ _ _ (.refl zr.mz) (zr.set i r) h
def zgNil:oI:=fun ds ρ M N=>match ds with | []=>N ρ M|_=>False
def zgCons (g:cf) (u:oI):oI:=fun ds ρ M N=>match ds with|d::r=>g d ρ M fun b7 M'=>u r b7 M' N | []=>False
theorem mU:Ja Γ X [] zgNil:=JY.imp fun vs σ H N ⟨β,ds,ρ,M,N',zr,r,h,q⟩=>by
 unfold zgNil at h;split at h
 ·have e:vs=[]:=List.length_eq_zero_iff.mp r.len;exact⟨e,q _ _ _ _ (.refl zr.mz) zr h⟩
 ·exact h.elim
theorem eJ {g:cf}{u:oI}(h1:QG Γ X e g) (h2:Ja Γ X es u) (hs:(assignEach (e::es) X.env).map (·.2)=assign e X.env::(assignEach es X.env).map (·.2) :=by rfl):Ja Γ X (e::es) (zgCons g u):=
 (Ge h1 h2 hs).imp fun vs σ H N ⟨β,ds,ρ,M,N',zr,r,h,q⟩=>by
  unfold zgCons at h;split at h
  ·rename_i d rest;cases vs with
   |nil=>exact absurd r.len (by simp)
   |cons v vs=>exact⟨v,vs,rfl,β,d,ρ,M,_,zr,r.head,h,fun b7 M' aO H' x fY h'=>⟨β,rest,b7,M',N',fY,r.tail.ex x,h',fun a b c d y=>q a b c d (x.trans y)⟩⟩
  ·exact h.elim
def zgTup (n:Nat) (u:oI):cf:=fun d ρ M N=>match d with | .tup ds=>ds.length=n/\u ds ρ M N|_=>False
theorem oM {k:Nat}{u:oI}{n:Nat}(hc:X.calm=true) (h:Ja Γ X es u) (hn:(assignEach es X.env).length=n :=by rfl) (fM:(assignEach es X.env).findIdx? (·.1)=none :=by rfl):QG Γ X (.Tuple es k pos) (zgTup n u):=
 (L4 hc h hn fM).imp fun v σ H N ⟨β,d,ρ,M,N',zr,r,h,q⟩=>by
  unfold zgTup at h;split at h
  ·obtain⟨a,vs,rfl,m,e,rs⟩:=dq r;exact⟨a,vs,rfl,dG.of e,by rw[rs.len];exact h.1,β,_,ρ,M,N',zr,rs,h.2,q⟩
  ·exact h.elim
def zAsg (p:aI) (g:cf):cu:=fun D ρ M=>p ρ M fun d M1=>g d ρ M1 D.nx
theorem Ri {g:cf}{D:Ends}{σ:St}{H:Hp}(h:lS Γ (zAsg pe g) D σ H):tK (lE Γ pe) (lG Γ g) D σ H :=by
 obtain⟨β,ρ,M,D',zr,h,r⟩:=h;exact⟨β,ρ,M,_,zr,h,fun d M1 v H1 x1 r1 h1=>⟨β,d,ρ,M1,D'.nx,zr.step x1,r1,h1,fun b7 M' aO H' x fY h'=>r.nx _ _ _ _ (x1.trans x).ev fY h'⟩⟩
theorem jL {tg:db}{g:cf}(he:QE Γ X e pe) (hg:QG Γ X tg g) (hs:swapsWithSole [tg] e pos.line X.env=pure false :=by rfl) (hw:swappedStores [tg] e X.env=pure none :=by rfl)
  (h1:(assignEach [tg] X.env).map (·.2)=[assign tg X.env] :=by rfl):QS Γ X (.Assign [tg] e pos) (zAsg pe g):=(L6 he hg hs hw h1).imp fun D σ H h=>Ri h
theorem B3 {t:TE}(i:∀σ H Q,lE Γ pe σ H Q->t σ H Q) {n:Nat}{D:Ends}{σ:St}{H:Hp}(h:lS Γ (zAsg pe (zgName n)) D σ H):tK t (rH n) D σ H :=by
 obtain⟨β,ρ,M,D',zr,h,r⟩:=h;exact i _ _ _ ⟨β,ρ,M,_,zr,h,fun d M1 v H1 x1 r1 h1=>r.nx _ _ _ _ x1.ev ((zr.step x1).set n r1) h1⟩
theorem aK {i:Nat}{x:br}{pos':u4}(hN:X.N.Nodup) (hi:X.N[i]?=some x) (hx:Loc X.env.scope x) (he:QE Γ X e pe) (hs:swapsWith e (some (.Name x pos')) pos.line X.env=pure false :=by rfl) (hf:X.fn x=true\/X.env.scope.names.lookup x=some .local :=by first|exact .inl rfl|exact .inr rfl|assumption) :
  QS Γ X (.Assign [.Name x pos'] e pos) (zAsg pe (zgName i)):=(L7 hN hi hx he hs hf).imp fun D σ H h=>B3 (fun _ _ _ h=>h) h
end
section
variable {X:Cx}{Γ:Gz}{β:Bz}
def ziTup (p:aI):dZ:=fun ρ M R=>p ρ M fun d M1=>match d with | .tup ds=>R ds M1|_=>False
def ziLst (p:aI):dZ:=fun ρ M R=>p ρ M fun d M1=>match d with | .lst ds=>R ds M1|_=>False
def jM (z:br):List Dv:=z.cps.toList.map fun c=>.str ⟨#[c]⟩
def ziStr (p:aI):dZ:=fun ρ M R=>p ρ M fun d M1=>match d with | .str z=>R (jM z) M1|_=>False
def cw (lo:Int) (n:Nat):List Dv:=(io n).map fun i=>.int (lo+(i:Nat))
def ziRng1 (p:fh):dZ:=fun ρ M R=>p ρ M fun ds M1=>match ds with | [.int j] => -(2 ^ 62)<=j/\j<2 ^ 62/\R (cw 0 j.toNat) M1|_=>False
def ziRng2 (p:fh):dZ:=fun ρ M R=>p ρ M fun ds M1=>match ds with | [.int i,.int j]=>(-(2 ^ 62)<=i/\i<2 ^ 62 /\ -(2 ^ 62)<=j/\j<2 ^ 62)/\R (cw i (j - i).toNat) M1|_=>False
theorem gY {J:It}{vs:List V}{ds:List Dv}{M:Mh}{H:Hp}(r:aH β M H vs ds) (h:∀M' H',Ey M H M' H'->Runs J vs H'):Ep β J ds M H:=fun dg M' H' bx x m i=>by
 have q:=h M' H' x i;rw[<- r.len];refine⟨fun hi=>⟨(q.1 hi).1,fun v jJ y=>?_⟩,q.2⟩
 obtain⟨e,hv⟩:=(q.1 hi).2 v jJ y;subst e;obtain⟨d,hd,rd⟩:=r.get' hv;exact⟨.refl m,d,hd,(rd.bx bx).ey x⟩
variable {tg l:db}{p:aI}{pa:fh}{K:bn}
theorem kQ (hK:X.K=K) (hl:QE Γ X l p):QI Γ X tg l (ziTup p):=(Kg hK hl).imp fun σ H R ⟨β,ρ,M,R',zr,h,q⟩=>⟨β,ρ,M,_,zr,h,fun d M1 v H1 x1 r1 h1=>by
 revert h1
 split
 ·intro h1;obtain⟨a,vs,rfl,m,e,rs⟩:=dq r1;exact⟨a,rfl,⟨_,dG.of e⟩,q _ _ _ _ x1 (gY rs fun M' H' x=>GH (dG.of (x.get m.1 e rfl))) h1⟩
 ·exact fun h=>h.elim⟩
theorem jh (hK:X.K=K) (hl:QE Γ X l p):QI Γ X tg l (ziLst p):=(GJ hK hl).imp fun σ H R ⟨β,ρ,M,R',zr,h,q⟩=>⟨β,ρ,M,_,zr,h,fun d M1 v H1 x1 r1 h1=>by
 revert h1
 split
 ·intro h1;obtain⟨a,vs,rfl,m,e,rs⟩:=dS r1;exact⟨a,rfl,⟨_,b9.of e⟩,q _ _ _ _ x1 (gY rs fun M' H' x=>DS (b9.of (x.get m.1 e rfl))) h1⟩
 ·exact fun h=>h.elim⟩
theorem Es {z:br}{M:Mh}{H:Hp}:aH β M H (ky z) (jM z):=⟨by simp[ky,jM],fun i v d a b=>by
 unfold ky at a;unfold jM at b;rw[bv]at a b;cases e:z.cps.toList[i]? with
 |none=>rw[e]at a;cases a
 |some c=>rw[e]at a b;cases a;cases b;exact .str _⟩
theorem Et (hl:QE Γ X l p):QI Γ X tg l (ziStr p):=(Nh hl).imp fun σ H R ⟨β,ρ,M,R',zr,h,q⟩=>⟨β,ρ,M,_,zr,h,fun d M1 v H1 x1 r1 h1=>by
 revert h1
 split
 ·intro h1;exact⟨_,cp r1,q _ _ _ _ x1 (gY Es fun M' H' x=>GI) h1⟩
 ·exact fun h=>h.elim⟩
theorem vo {lo:Int}{n:Nat}{M:Mh}{H:Hp}:aH β M H ((io n).map fun i=>V.int (lo+(i:Nat))) (cw lo n):=⟨by simp[cw],fun i v d a b=>by
 unfold cw at b;rw[bv]at a b;cases e:(io n)[i]? with
 |none=>rw[e]at a;cases a
 |some c=>rw[e]at a b;cases a;cases b;exact .int _⟩
theorem dy {xs:List V}{d:Dv}{M:Mh}{H:Hp}(r:aH β M H xs [d]):∃v,xs=[v]/\Rz β M H v d :=by
 match xs,r with
 | [v],r=>exact⟨v,rfl,r.head⟩
 | [],r=>exact absurd r.len (by simp)
 |_::_::_,r=>exact absurd r.len (by simp)
theorem mV {xs:List V}{d e:Dv}{M:Mh}{H:Hp}(r:aH β M H xs [d,e]):∃v u,xs=[v,u]/\Rz β M H v d/\Rz β M H u e :=by
 match xs,r with
 | [v,u],r=>exact⟨v,u,rfl,r.head,r.tail.head⟩
 | [],r=>exact absurd r.len (by simp)
 | [_],r=>exact absurd r.len (by simp)
 |_::_::_::_,r=>exact absurd r.len (by simp)
section
variable {e e1 e2:db}{pr pos:u4}
theorem Oh {σ:St}{H:Hp}{R:It->Hp->Prop}(h:lI Γ (ziRng1 pa) σ H R):Iw (lA Γ pa) σ H R :=by
 obtain⟨β,ρ,M,R',zr,h,q⟩:=h;refine⟨β,ρ,M,_,zr,h,fun ds M1 vs H1 x1 r1 h1=>?_⟩
 revert h1
 split
 ·rintro⟨b1,b2,h1⟩;obtain⟨v,rfl,r⟩:=dy r1;rw[aL r];exact⟨_,rfl,b1,b2,q _ _ _ _ x1 (gY vo fun M' H' x=>rY) h1⟩
 ·exact fun h=>h.elim
theorem Oi {σ:St}{H:Hp}{R:It->Hp->Prop}(h:lI Γ (ziRng2 pa) σ H R):Iy (lA Γ pa) σ H R :=by
 obtain⟨β,ρ,M,R',zr,h,q⟩:=h;refine⟨β,ρ,M,_,zr,h,fun ds M1 vs H1 x1 r1 h1=>?_⟩
 revert h1
 split
 ·rintro⟨b1,h1⟩;obtain⟨v,u,rfl,r,r'⟩:=mV r1;rw[aL r,aL r'];exact⟨_,_,rfl,b1,q _ _ _ _ x1 (gY vo fun M' H' x=>rY) h1⟩
 ·exact fun h=>h.elim
end
def zLoop (g:cf) (tb:cu) (D:iP):List Dv->aA->Mh->Prop
 | [],ρ,M=>D.nx ρ M
 |d::ds,ρ,M=>g d ρ M fun mW M2=>tb {D with nx:=zLoop g tb D ds,ct:=zLoop g tb D ds,bk:=D.nx} mW M2
def zFor (zi:dZ) (g:cf) (tb:cu):cu:=fun D ρ M=>zi ρ M fun ds M1=>zLoop g tb D ds ρ M1
def zForM (zi:dZ) (g:cf) (tb:Mh->cu):cu:=fun D ρ M=>zi ρ M fun ds M1=>zLoop g (tb M1) D ds ρ M1
theorem Zr.root {M:Mh}{ρ:aA}{σ:St}{H:Hp}(z:Zr Γ β M ρ σ H):Zr ⟨β,M,H⟩ β M ρ σ H:=⟨rfl,rfl,rfl,rfl,fun _ h=>h,z.mz.wf,.refl,z.mz,z.len,z.at'⟩
theorem Zr.Eu {M M1:Mh}{ρ SW:aA}{σ rJ:St}{H H1:Hp}(z:Zr Γ β M ρ σ H) (y:Zr ⟨β,M,H⟩ β M1 SW rJ H1):Zr Γ β M1 SW rJ H1:=⟨z.eP,z.ew,z.eK,z.et,z.sub,z.wf,z.ent.trans y.ent,y.mz,y.len,y.at'⟩
theorem Rj {zi:dZ}{g:cf}{tb:Mh->cu}{t:TS}(hb:∀bT:Gz,bT.P=Γ.P->bT.w=Γ.w->bT.K=Γ.K->bT.tb=Γ.tb->∀D σ H,lS bT (tb bT.M0) D σ H->t D σ H) {tg:TG}(hg:∀bT:Gz,bT.P=Γ.P->bT.w=Γ.w->bT.K=Γ.K->bT.tb=Γ.tb->∀x σ H N,lG bT g x σ H N->tg x σ H N) {D:Ends}{σ:St}{H:Hp}(h:lS Γ (zForM zi g tb) D σ H):Mi (lI Γ zi) tg t D σ H :=by
 obtain⟨β,ρ,M,D',zr,h,r⟩:=h;refine⟨β,ρ,M,_,zr,h,fun ds M1 H1 J x1 it h1=>?_⟩
 have iQ:=zr.step x1;refine⟨fun i m aO H'=>m=ds.length - i/\i<=ds.length/\∃b7 M',Zr ⟨β,M1,H1⟩ β M' b7 aO H'/\zLoop g (tb M1) D' (ds.drop i) b7 M',⟨ds.length,rfl,wp _,ρ,M1,iQ.root,h1⟩,?_⟩
 rintro i m aO H' ⟨rfl,hi,b7,M',fY,h'⟩;have ev:∀{M2:Mh} {mW:aA} {rL:St} {H2:Hp},Zr ⟨β,M1,H1⟩ β M2 mW rL H2->Ev β M H M2 H2:=fun z=>x1.ev.trans ⟨z.ent.keep,z.ent.new,z.mz⟩
 by_cases aQ:i<ds.length
 ·have q:=(it β M' H' .refl fY.ent fY.mz i).1 aQ;refine .inr ⟨q.1,fun rL H2=>∃mW M2,Zr ⟨β,M1,H1⟩ β M2 mW rL H2/\zLoop g (tb M1) D' (ds.drop (i+1)) mW M2,fun rL H2 ⟨mW,M2,Jc,h2⟩=>⟨ds.length - (i+1),by omega,rfl,aQ,mW,M2,Jc,h2⟩,fun v jJ y=>?_⟩
  obtain⟨x2,d,hd,rd⟩:=q.2 v jJ y;have e:ds.drop i=d::ds.drop (i+1) :=by
   rw[AT aQ];rw[ap aQ]at hd;cases hd;rfl
  rw[e]at h';refine hg ⟨β,M1,H1⟩ zr.eP zr.ew zr.eK zr.et _ _ _ _ ⟨β,d,b7,M',_,fY.step x2,rd,h',fun VR M3 nQ H3 x3 Oj h3=>hb ⟨β,M1,H1⟩ zr.eP zr.ew zr.eK zr.et _ _ _ ⟨β,VR,M3,_,Oj,h3,?_⟩⟩
  exact⟨fun sy M4 Ew H4 x4 nX h4=>⟨sy,M4,nX,h4⟩,fun d4 M4 v4 H4 x4 e4 r4 h4=>r.rt _ _ _ _ (x1.ev.trans ⟨e4.keep,e4.new,x4.mz⟩) (iQ.ent.trans e4) r4 h4,fun sy M4 Ew H4 x4 nX h4=>r.nx _ _ _ _ (ev nX) (iQ.Eu nX) h4,fun sy M4 Ew H4 x4 nX h4=>⟨sy,M4,nX,h4⟩⟩
 ·have e:i=ds.length :=by omega
  subst e;rw[OE]at h';exact .inl ⟨(it β M' H' .refl fY.ent fY.mz _).2 (cb _),r.nx _ _ _ _ (ev fY) (iQ.Eu fY) h'⟩
def VS (Γ:Gz) (p:Mh->cu):TS:=fun D σ H=>∃bT:Gz,bT.P=Γ.P/\bT.w=Γ.w/\bT.K=Γ.K/\bT.tb=Γ.tb/\lS bT (p bT.M0) D σ H
def VU (Γ:Gz) (p:cf):TG:=fun x σ H N=>∃bT:Gz,bT.P=Γ.P/\bT.w=Γ.w/\bT.K=Γ.K/\bT.tb=Γ.tb/\lG bT p x σ H N
theorem tV {body:List r9}{iter:db}{zi:dZ}{g:cf}{tb:Mh->cu}{pos:u4}(hp:ZM (model X.prog X.w) X.A X.env X.xe) (hc:X.calm=true) (hi:QI Γ X tg iter zi)
  (Jd:∀(bT:Gz) (M1:Mh),bT.M0=M1->bT.P=Γ.P->bT.w=Γ.w->bT.K=Γ.K->bT.tb=Γ.tb->QG bT X tg g/\nW bT X body (tb M1))
  (hs:∀x,foldedSetIterable iter X.env x=pure x :=by intro _;rfl):QS Γ X (.For tg iter body [] pos) (zForM zi g tb):=
 (Mj (g:=VU Γ g) (tb:=VS Γ tb) hp hc hi (fun pins s σ H v u Q I r h=>by obtain⟨bT,e1,e2,e3,e4,h⟩:=h;exact(Jd bT _ rfl e1 e2 e3 e4).1 pins s σ H v u Q I r h) ⟨fun pins s σ H D I h=>by obtain⟨bT,e1,e2,e3,e4,h⟩:=h;exact(Jd bT _ rfl e1 e2 e3 e4).2 pins s σ H D I h⟩ hs).imp
  fun D σ H h=>Rj (fun bT e1 e2 e3 e4 D σ H h=>⟨bT,e1,e2,e3,e4,h⟩) (fun bT e1 e2 e3 e4 x σ H N h=>⟨bT,e1,e2,e3,e4,h⟩) h
theorem dH {body:List r9}{iter:db}{zi:dZ}{g:cf}{tb:cu}{pos:u4}(hp:ZM (model X.prog X.w) X.A X.env X.xe) (hc:X.calm=true) (hi:QI Γ X tg iter zi)
  (Jd:∀bT:Gz,bT.P=Γ.P->bT.w=Γ.w->bT.K=Γ.K->bT.tb=Γ.tb->QG bT X tg g/\nW bT X body tb)
  (hs:∀x,foldedSetIterable iter X.env x=pure x :=by intro _;rfl):QS Γ X (.For tg iter body [] pos) (zFor zi g tb):=tV (tb:=fun _=>tb) hp hc hi (fun bT M1 _ e1 e2 e3 e4=>Jd bT e1 e2 e3 e4) hs
theorem bM {a:db}{p pos:u4}(hg:Gl X "range") (hm:X.mg "range" = none) (ha:QA Γ X [a] pa) (hs:starEach [a] X.env=[(false,eval a X.env)] :=by rfl):QI Γ X tg (.Call (.Name "range" p) [a] [] pos) (ziRng1 pa):=(Dg hg hm ha hs).imp fun σ H R h=>Oh h
theorem Ez {a b:db}{p pos:u4}(hg:Gl X "range") (hm:X.mg "range" = none) (ha:QA Γ X [a,b] pa) (hs:starEach [a,b] X.env=[(false,eval a X.env),(false,eval b X.env)] :=by rfl) (nR:starEach [b] X.env=[(false,eval b X.env)] :=by rfl) :
  QI Γ X tg (.Call (.Name "range" p) [a,b] [] pos) (ziRng2 pa):=(Dh hg hm ha hs nR).imp fun σ H R h=>Oi h
def EA (c:cC) (tb:cu):cu:=fun D ρ M=>∃W:Nat->aA->Mh->Prop,(∃m,W m ρ M)/\∀m ρ M,W m ρ M->
 c ρ M fun b M1=>if b=true then tb {D with nx:=fun b7 M'=>∃m',m'<m/\W m' b7 M',ct:=fun b7 M'=>∃m',m'<m/\W m' b7 M',bk:=D.nx} ρ M1 else D.nx ρ M1
theorem KA {c:cC}{tb:cu}{D:Ends}{σ:St}{H:Hp}(h:lS Γ (EA c tb) D σ H):Dc (lT Γ c) (lS Γ tb) D σ H :=by
 obtain⟨β,ρ,M,D',zr,⟨W,⟨m0,w0⟩,turn⟩,r⟩:=h;refine⟨fun m aO H'=>∃b7 M',Ev β M H M' H'/\Zr Γ β M' b7 aO H'/\W m b7 M',⟨m0,ρ,M,.refl zr.mz,zr,w0⟩,?_⟩
 rintro m aO H' ⟨b7,M',x',fY,w'⟩;refine⟨β,b7,M',_,fY,turn m b7 M' w',fun k M1 H1 x1 h1=>?_⟩
 have EB:=x'.trans x1.ev;cases k with
 |true=>
  dsimp only at h1 ⊢;rw[if_pos rfl]at h1 ⊢;refine⟨fun rL H2=>∃m',m'<m/\∃mW M2,Ev β M H M2 H2/\Zr Γ β M2 mW rL H2/\W m' mW M2,fun rL H2 h2=>h2,β,b7,M1,_,fY.step x1,h1,?_⟩
  exact⟨fun sy M4 Ew H4 x4 nX ⟨m',hm,w4⟩=>⟨m',hm,sy,M4,EB.trans x4,nX,w4⟩,fun d4 M4 v4 H4 x4 e4 r4 h4=>r.rt _ _ _ _ (EB.trans x4) e4 r4 h4,fun sy M4 Ew H4 x4 nX h4=>r.nx _ _ _ _ (EB.trans x4) nX h4,fun sy M4 Ew H4 x4 nX ⟨m',hm,w4⟩=>⟨m',hm,sy,M4,EB.trans x4,nX,w4⟩⟩
 |false=>
  dsimp only at h1 ⊢;rw[if_neg ij]at h1 ⊢;exact r.nx _ _ _ _ EB (fY.step x1) h1
theorem yg {body:List r9}{c:db}{zc:cC}{tb:cu}{pos:u4}(hp:ZM (model X.prog X.w) X.A X.env X.xe) (hc:QT Γ X c zc) (hb:nW Γ X body tb):QS Γ X (.While c body [] pos) (EA zc tb):=(Gf hp hc hb).imp fun D σ H h=>KA h
theorem bN {g:cf}{tb:cu}{D:iP}(J:Nat->aA->Mh->Prop) {ds:List Dv}{ρ:aA}{M:Mh}(h0:J 0 ρ M)
  (hs:∀i d ρ M (N:aA->Mh->Prop),ds[i]?=some d->J i ρ M->(∀b7 M',J (i+1) b7 M'->N b7 M')->g d ρ M fun mW M2=>tb {D with nx:=N,ct:=N,bk:=D.nx} mW M2)
  (hd:∀ρ M,J ds.length ρ M->D.nx ρ M):zLoop g tb D ds ρ M :=by
 have key:∀(n i:Nat) ρ M,n=ds.length - i->i<=ds.length->J i ρ M->zLoop g tb D (ds.drop i) ρ M :=by
  intro n;induction n with
  |zero=>
   intro i ρ M e hi h;have:i=ds.length :=by omega
   subst this;rw[OE];exact hd _ _ h
  |succ n ih=>
   intro i ρ M e hi h;have aQ:i<ds.length :=by omega
   rw[AT aQ];exact hs i _ ρ M _ (ap aQ) h fun ρ M h=>ih (i+1) ρ M (by omega) aQ h
 exact key _ 0 ρ M rfl (wp _) h0
end
section
variable {X:Cx}{Γ:Gz}{β:Bz}
def zBlock (tn:Nat) (idx:List Nat) (ρ:aA):aA:=mo tn none++idx.map fun i=>(ρ[i]?).join
theorem Zr.block {M:Mh}{ρ:aA}{σ:St}{H:Hp}(z:Zr Γ β M ρ σ H) (tn:Nat) (idx:List Nat):Zr Γ β M (zBlock tn idx ρ) (bB tn idx σ) H:=⟨z.eP,z.ew,z.eK,z.et,z.sub,z.wf,z.ent,z.mz,by simp[zBlock,bB],fun i d e=>by
 unfold zBlock at e;unfold bB;rw[YU]at e ⊢;rw[WJ]at e ⊢;split at e
 ·rw[On]at e;split at e<;>cases e
 ·rename_i hi;rw[if_neg hi];rw[bv]at e ⊢;cases q:idx[i - tn]? with
  |none=>rw[q]at e;cases e
  |some j=>
   rw[q]at e;have e2:ρ[j]?=some (some d) :=by
    simp only[Fa,Ll]at e;cases q2:ρ[j]? with
    |none=>rw[q2]at e;cases e
    |some o=>rw[q2]at e;simp only[ZH]at e;rw[e]
   obtain⟨v,hv,r⟩:=z.at' j d e2;exact⟨v,by simp[hv],r⟩⟩
theorem Zr.enter {M:Mh}{ρ:aA}{σ:St}{H:Hp}{D:al}{o:HO}(z:Zr Γ β M ρ σ H) (hD:H D=none) (ho:oH o=true):Zr Γ (β.add D) M ρ σ (upd H D o):=
 ⟨z.eP,z.ew,z.eK,z.et,fun a h=>c8 _ (z.sub a h),z.wf,z.ent.over (z.ent.gone hD (by
  cases e:Γ.M0 D with
  |none=>rfl
  |some u=>have:=z.ent.dom D (by rw[e];rfl);rw[z.mz.free hD]at this;cases this)),z.mz.enter hD ho,z.len,fun i d e=>let ⟨v,h,r⟩:=z.at' i d e;⟨v,h,r.enter hD⟩⟩
theorem Zr.over {M:Mh}{ρ:aA}{σ:St}{H:Hp}{D:al}{o:HO}(z:Zr Γ β M ρ σ H) (hD:D∈β.hid) (ho:oH o=true) (hM:M D=none) (ht:D ∉ β.tb) (h0:Γ.H0 D=none):Zr Γ β M ρ σ (upd H D o):=
 ⟨z.eP,z.ew,z.eK,z.et,z.sub,z.wf,z.ent.over h0,z.mz.over hD ho hM ht,z.len,fun i d e=>let ⟨v,h,r⟩:=z.at' i d e;⟨v,h,r.over hD⟩⟩
abbrev sA (Γ:Gz) (X:Cx) (ifs:List db) (t:cC):Prop:=iF X ifs (lT Γ t)
def zNoIf:cC:=fun _ M Q=>Q true M
theorem bS:sA Γ X [] zNoIf:=Ke.imp fun σ H Q ⟨β,ρ,M,Q',zr,h,q⟩=>q true M H (.refl zr.mz) h
theorem Au {c:db}{tc:cC}(h:QT Γ X c tc):sA Γ X [c] tc:=Kf h
def gZ (g:cf) (tt:cC) (te:aI):List Dv->aA->Mh->(List Dv->Mh->Prop)->Prop
 | [],_,M,Q=>Q [] M
 |d::ds,τ,M,Q=>g d τ M fun az M2=>tt az M2 fun b M3=>if b=true then te az M3 fun y M4=>gZ g tt te ds az M4 fun ys M5=>Q (y::ys) M5 else gZ g tt te ds az M3 Q
structure Acc (Γ:Gz) (β:Bz) (D:al) (M1:Mh) (H1:Hp) (aZ:aA) (M:Mh) (τ:St) (H:Hp) (acc:List V) (aT:List Dv):Prop where
 ey:Ey M1 H1 M H
 m:M D=none
 zr:Zr Γ (β.add D) M aZ τ H
 at':H D=some (.lst acc)
 rs:aH (β.add D) M H acc aT
 h1:H1 D=none
 h0:Γ.H0 D=none
 nt:D ∉ β.tb
theorem Acc.start {D:al}{M1:Mh}{H1:Hp}{aZ:aA}{τ:St}(zr:Zr Γ β M1 aZ τ H1) (hD:H1 D=none):Acc Γ β D M1 H1 aZ M1 τ (upd H1 D (.lst [])) [] []:=
 ⟨Ey.refl.over hD,zr.mz.free hD,zr.enter hD rfl,aB,.nil,hD,zr.ent.gone hD (by
  cases e:Γ.M0 D with
  |none=>rfl
  |some u=>have:=zr.ent.dom D (by rw[e];rfl);rw[zr.mz.free hD]at this;cases this),zr.mz.yb hD⟩
section
variable {D:al}{M1 M M2:Mh}{H1 H H2:Hp}{aZ yh:aA}{τ az:St}{acc:List V}{aT:List Dv}
theorem Acc.step (A:Acc Γ β D M1 H1 aZ M τ H acc aT) (x:Ex (β.add D) M H M2 H2) (z:Zr Γ (β.add D) M2 yh az H2):Acc Γ β D M1 H1 yh M2 az H2 acc aT:=
 ⟨A.ey.trans x.toEy,x.new D _ A.m A.at',z,x.get A.m A.at' rfl,A.rs.ex x,A.h1,A.h0,A.nt⟩
theorem Acc.snoc (A:Acc Γ β D M1 H1 aZ M τ H acc aT) {y:V}{d:Dv}(r:Rz (β.add D) M H y d):Acc Γ β D M1 H1 aZ M τ (upd H D (.lst (acc++[y]))) (acc++[y]) (aT++[d]) :=by
 have hD:D∈(β.add D).hid:=gc;exact⟨A.ey.over A.h1,A.m,A.zr.over hD rfl A.m A.nt A.h0,aB,⟨by simp[A.rs.len],fun i v d a b=>((A.rs.snoc r).at' i v d a b).over hD⟩,A.h1,A.h0,A.nt⟩
theorem Acc.fz (A:Acc Γ β D M1 H1 aZ M τ H acc aT) (m1:Mz β M1 H1):Fz β M D:=⟨A.m,(m1.fz A.h1).2⟩
theorem Acc.mz (A:Acc Γ β D M1 H1 aZ M τ H acc aT):Mz β M H:=Mz.sub (β:=β.add D) (dg:=β) rfl rfl rfl rfl (fun a h=>c8 _ h) A.zr.mz
theorem Acc.items (A:Acc Γ β D M1 H1 aZ M τ H acc aT):aH β M H acc aT:=⟨A.rs.len,fun i v d a b=>Rz.sub (β:=β.add D) (dg:=β) rfl rfl rfl (fun a h=>c8 _ h) (A.rs.at' i v d a b)⟩
theorem Acc.ex (A:Acc Γ β D M1 H1 aZ M τ H acc aT):Ex β M1 H1 M H:=⟨A.ey,A.mz⟩
end
def zComp (tn:Nat) (idx:List Nat) (zi:dZ) (g:cf) (tt:cC) (te:aI):aI:=fun ρ M Q=>zi ρ M fun ds M1=>ds.length<sizeLine/\gZ g tt te ds (zBlock tn idx ρ) M1 fun ys M2=>Q (.lst ys) M2
def zCompP (tn:Nat) (idx:List Nat) (zi:dZ) (g:cf) (tt:cC) (te:aI):aI:=fun ρ M Q=>zi ρ M fun ds M1=>ds.length<sizeLine/\gZ g tt te ds (zBlock tn idx ρ) M1 fun ys M2=>∀a,M2 a=none->Q (.ptr a) (au M2 a (.lst ys))
variable {zi:dZ}{g:cf}{tt:cC}{te:aI}{tn:Nat}{idx:List Nat}
def oN (Γ:Gz) (β:Bz) (D:al) (M1:Mh) (H1:Hp) (g:cf) (tt:cC) (te:aI) (ds:List Dv) (Q':List Dv->Mh->Prop) (i m:Nat) (τ:St) (H:Hp):Prop:=
 m=ds.length - i/\i<=ds.length/\∃aZ M acc aT,Acc Γ β D M1 H1 aZ M τ H acc aT/\acc.length<=i/\gZ g tt te (ds.drop i) aZ M fun ys M2=>Q' (aT++ys) M2
theorem vp {D:al}{M1:Mh}{H1:Hp}{ds:List Dv}{Q':List Dv->Mh->Prop}{J:It}(it:Ep β J ds M1 H1) (hlen:ds.length<sizeLine) {i m:Nat}{τ:St}{H:Hp}(w:oN Γ β D M1 H1 g tt te ds Q' i m τ H)
  {C:V->St->Hp->Prop} (hC:∀y az H4 acc,H4 D=some (.lst acc)->acc.length<sizeLine->(∃m',m'<m/\oN Γ β D M1 H1 g tt te ds Q' (i+1) m' az (upd H4 D (.lst (acc++[y]))))->C y az H4) :
  (J.stop i H/\∃aZ M acc aT,Acc Γ β D M1 H1 aZ M τ H acc aT/\acc.length<sizeLine/\Q' aT M) \/
  (J.go i H/\∀x H',J.yld i H x H'->lG Γ g x τ H' fun az H2=>lT Γ tt az H2 fun b H3=>if b=true then lE Γ te az H3 fun y H4=>C y az H4 else ∃m',m'<m/\oN Γ β D M1 H1 g tt te ds Q' (i+1) m' az H3) :=by
 obtain⟨rfl,hi,aZ,M,acc,aT,A,eV,h⟩:=w;have q:=it (β.add D) M H (.add A.h1) A.ey A.zr.mz i;by_cases aQ:i<ds.length
 ·refine .inr ⟨(q.1 aQ).1,fun x H' y=>?_⟩
  obtain⟨x2,d,hd,rd⟩:=(q.1 aQ).2 x H' y;have e:ds.drop i=d::ds.drop (i+1) :=by
   rw[AT aQ];rw[ap aQ]at hd;cases hd;rfl
  rw[e]at h;have A2:=A.step x2 (A.zr.step x2);refine⟨β.add D,d,aZ,M,_,A2.zr,rd,h,fun dP M3 kR H3 x3 z3 h3=>?_⟩
  have A3:=A2.step x3 z3;refine⟨β.add D,dP,M3,_,z3,h3,fun b M4 H4 x4 h4=>?_⟩
  have A4:=A3.step x4 (z3.step x4);cases b with
  |false=>
   dsimp only at h4 ⊢;rw[if_neg ij]at h4 ⊢;exact⟨ds.length - (i+1),by omega,rfl,aQ,dP,M4,acc,aT,A4,by omega,h4⟩
  |true=>
   dsimp only at h4 ⊢;rw[if_pos rfl]at h4 ⊢;refine⟨β.add D,dP,M4,_,A4.zr,h4,fun yd M5 yv H5 x5 r5 h5=>?_⟩
   have A5:=A4.step x5 (A4.zr.step x5);refine hC yv kR H5 acc A5.at' (by omega) ⟨ds.length - (i+1),by omega,rfl,aQ,dP,M5,acc++[yv],aT++[yd],A5.snoc r5,by simp;omega,?_⟩
   have e2:(fun ys M2=>Q' (aT++[yd]++ys) M2)=fun ys M2=>Q' (aT++yd::ys) M2 :=by
    funext ys M2
    rw[NH];rfl
   rw[e2];exact h5
 ·have e:i=ds.length :=by omega
  subst e;rw[OE]at h;refine .inl ⟨q.2 (cb _),aZ,M,acc,aT,A,by omega,?_⟩
  have h':Q' (aT++[]) M:=h;rwa [Lu]at h'
theorem sC {D:al}{M1:Mh}{H1:Hp}{ds:List Dv}{Q':List Dv->Mh->Prop}{aZ:aA}{τ:St}(zr:Zr Γ β M1 aZ τ H1) (hD:H1 D=none) (h:gZ g tt te ds aZ M1 Q'):oN Γ β D M1 H1 g tt te ds Q' 0 ds.length τ (upd H1 D (.lst [])):=
 ⟨rfl,wp _,aZ,M1,[],[],.start zr hD,cb _,h⟩
theorem Ol {σ:St}{H:Hp}{Q:VK}(h:lE Γ (zComp tn idx zi g tt te) σ H Q):rV tn idx (lI Γ zi) (lG Γ g) (lT Γ tt) (lE Γ te) σ H Q :=by
 obtain⟨β,ρ,M,Q',zr,h,q⟩:=h;refine⟨β,ρ,M,_,zr,h,fun ds M1 H1 J x1 it ⟨hlen,h1⟩ D hD=>?_⟩
 have iQ:=zr.step x1;refine⟨oN Γ β D M1 H1 g tt te ds fun ys M2=>Q' (.lst ys) M2,⟨_,sC (iQ.block tn idx) hD h1⟩,fun i m τ H' w=>?_⟩
 rcases vp it hlen w (C:=fun y az H4=>∃ys m',H4 D=some (.lst ys)/\ys.length<sizeLine/\m'<m/\oN Γ β D M1 H1 g tt te ds (fun ys M2=>Q' (.lst ys) M2) (i+1) m' az (upd H4 D (.lst (ys++[y])))) (fun y az H4 acc e hl ⟨m',hm,w'⟩=>⟨acc,m',e,hl,hm,w'⟩) with ⟨hs,aZ,M',acc,aT,A,_,hq⟩|z
 ·exact .inl ⟨hs,q _ _ _ _ (x1.trans A.ex) (ya (A.fz iQ.mz) A.at' A.items) hq⟩
 ·exact .inr z
theorem tW {σ:St}{H:Hp}{Q:VK}(h:lE Γ (zCompP tn idx zi g tt te) σ H Q):rV tn idx (lI Γ zi) (lG Γ g) (lT Γ tt) (lE Γ te) σ H Q :=by
 obtain⟨β,ρ,M,Q',zr,h,q⟩:=h;refine⟨β,ρ,M,_,zr,h,fun ds M1 H1 J x1 it ⟨hlen,h1⟩ D hD=>?_⟩
 have iQ:=zr.step x1;refine⟨oN Γ β D M1 H1 g tt te ds fun ys M2=>∀a,M2 a=none->Q' (.ptr a) (au M2 a (.lst ys)),⟨_,sC (iQ.block tn idx) hD h1⟩,fun i m τ H' w=>?_⟩
 rcases vp it hlen w (C:=fun y az H4=>∃ys m',H4 D=some (.lst ys)/\ys.length<sizeLine/\m'<m/\oN Γ β D M1 H1 g tt te ds (fun ys M2=>∀a,M2 a=none->Q' (.ptr a) (au M2 a (.lst ys))) (i+1) m' az (upd H4 D (.lst (ys++[y])))) (fun y az H4 acc e hl ⟨m',hm,w'⟩=>⟨acc,m',e,hl,hm,w'⟩) with ⟨hs,aZ,M',acc,aT,A,_,hq⟩|z
 ·refine .inl ⟨hs,?_⟩;have VW:D ∉ β.hid:=(A.fz iQ.mz).2;have hM:M' D=none:=A.m;have mz:Mz β (au M' D (.lst aT)) H':=by
   have rz:∀{v:V} {d:Dv},Rz (β.add D) M' H' v d->Rz β (au M' D (.lst aT)) H' v d:=fun r=>by
    have ne:∀a,Fz (β.add D) M' a->Fz β (au M' D (.lst aT)) a:=fun a f=>⟨by rw[ao (fun z=>f.2 (by rw[z];exact gc))];exact f.1,fun z=>f.2 (c8 _ z)⟩
    induction r with
    |int i=>exact .int i
    |bl b=>exact .bl b
    |ax=>exact .ax
    |str z=>exact .str z
    |tup m e hl h ih=>exact .tup (ne _ m) e hl ih
    |lst m e hl h ih=>exact .lst (ne _ m) e hl ih
    |dk m e hk hl h ih=>exact .dk (ne _ m) e hk hl ih
    |dt m e hk hl h ih=>exact .dt (ne _ m) e hk hl ih
    |bZ m e m2 e2 hl h ih=>exact .bZ (ne _ m) e (ne _ m2) e2 hl ih
    |set m e=>exact .set (ne _ m) e
    |ptr m=>exact .ptr (by unfold au;split;rfl;exact m)
    |exc m e=>exact .exc (ne _ m) e
    |bR m e=>exact .bR (ne _ m) e
    |cW m e=>exact .cW (ne _ m) e
    |cY e=>exact .cY e
    |raw v=>exact .raw v
   refine⟨fun a o e=>?_,A.zr.mz.tabs,fun a ha=>A.zr.mz.hids a (c8 _ ha),fun a o e z=>?_,A.zr.mz.lams⟩
   by_cases ha:a=D
   ·subst ha;rw[updM_same]at e;cases e;exact⟨acc,A.at',A.rs.len,fun i v d a b=>rz (A.rs.at' i v d a b)⟩
   ·rw[ao ha]at e;have z:=A.zr.mz.obj a o e;cases o with
    |lst ds=>obtain⟨vs,z,l,r⟩:=z;exact⟨vs,z,l,fun i v d a b=>rz (r i v d a b)⟩
    |dk ks ds=>obtain⟨vs,z,hk,l,r⟩:=z;exact⟨vs,z,hk,l,fun i v d a b=>rz (r i v d a b)⟩
    |dt ks ds=>obtain⟨vs,z,hk,l,r⟩:=z;exact⟨vs,z,hk,l,fun i v d a b=>rz (r i v d a b)⟩
    |c6=>exact z
   ·by_cases ha:a=D
    ·subst ha;exact VW z
    ·rw[ao ha]at e;exact A.zr.mz.apart a o e (c8 _ z)
  have ey:Ey M1 H1 (au M' D (.lst aT)) H':=⟨A.ey.keep,fun a h=>by unfold au;split;rfl;exact A.ey.dom a h,fun a o m e=>by rw[ao (bh e A.h1)];exact A.ey.new a o m e⟩
  exact q _ _ _ _ (x1.trans ⟨ey,mz⟩) (.ptr (by rw[updM_same];rfl)) (hq D hM)
 ·exact .inr z
theorem Uw {P:al}{zi:dZ}{R:It->Hp->Prop}{σ:St}{H:Hp}{ρ:aA}{M:Mh}{R':List Dv->Mh->Prop}(hP:P∈Γ.tb) (zr:Zr Γ β M ρ σ H) (h:zi ρ M R') (q:∀ds M' H' J,Ex β M H M' H'->Ep β J ds M' H'->R' ds M'->R J H'):Nb P (lI Γ zi) R σ H :=by
 refine⟨β,ρ,M,_,zr,h,fun ds M1 H1 J x1 it h1=>?_⟩
 have IC:P∈β.tb :=by rw[zr.et];exact hP
 refine⟨x1.mz.tabs P IC,fun ps t=>?_⟩
 have x2:=Ex.grow x1.mz IC t;refine q ds M1 _ J (x1.trans x2) (fun dg M' H' bx ey mz=>it dg M' H' ⟨bx.P,bx.w,bx.K,bx.tb,bx.old,fun a ha=>?_⟩ (x2.toEy.trans ey) mz) h1
 rcases bx.new a ha with z|z
 ·exact .inl z
 ·right;cases e:H1 a with
  |none=>rfl
  |some o=>obtain⟨u,hu⟩:=Hf (p:=P) (o:=.di ps) ⟨o,e⟩;rw[z]at hu;cases hu
def lU (g:cf) (tt:cC) (te:aI):List Dv->aA->Mh->(Bool->Mh->Prop)->Prop
 | [],_,M,Q=>Q true M
 |d::ds,τ,M,Q=>g d τ M fun az M2=>tt az M2 fun b M3=>if b=true then te az M3 (zBool fun c M4=>if c=false then Q false M4 else lU g tt te ds az M4 Q) else lU g tt te ds az M3 Q
def zAll (tn:Nat) (idx:List Nat) (zi:dZ) (g:cf) (tt:cC) (te:aI):aI:=fun ρ M Q=>zi ρ M fun ds M1=>lU g tt te ds (zBlock tn idx ρ) M1 fun b M2=>Q (.bl b) M2
theorem Rk {P:al}(hP:P∈Γ.tb) {σ:St}{H:Hp}{Q:VK}(h:lE Γ (zAll tn idx zi g tt te) σ H Q):Nc P tn idx (lI Γ zi) (lG Γ g) (lT Γ tt) (lE Γ te) σ H Q :=by
 obtain⟨β,ρ,M,Q',zr,h,q⟩:=h;refine Uw hP zr h fun ds M1 H1 J x1 it h1=>?_
 have iQ:=zr.step x1;refine⟨fun i m τ H'=>m=ds.length - i/\i<=ds.length/\∃aZ M',Ex β M1 H1 M' H'/\Zr Γ β M' aZ τ H'/\lU g tt te (ds.drop i) aZ M' fun b M2=>Q' (.bl b) M2,⟨_,rfl,wp _,_,M1,.refl x1.mz,iQ.block tn idx,h1⟩,?_⟩
 rintro i m τ H' ⟨rfl,hi,aZ,M',x',fY,h'⟩;have qq:=it β M' H' .refl x'.toEy x'.mz i;by_cases aQ:i<ds.length
 ·refine .inr ⟨(qq.1 aQ).1,fun x jJ y=>?_⟩
  obtain⟨x2,d,hd,rd⟩:=(qq.1 aQ).2 x jJ y;have e:ds.drop i=d::ds.drop (i+1) :=by
   rw[AT aQ];rw[ap aQ]at hd;cases hd;rfl
  rw[e]at h';refine⟨β,d,aZ,M',_,fY.step x2,rd,h',fun dP M3 kR H3 x3 z3 h3=>⟨β,dP,M3,_,z3,h3,fun b M4 H4 x4 h4=>?_⟩⟩
  have nY:=x'.trans (x2.trans (x3.trans x4));cases b with
  |false=>
   dsimp only at h4 ⊢;rw[if_neg ij]at h4 ⊢;exact⟨ds.length - (i+1),by omega,rfl,aQ,dP,M4,nY,z3.step x4,h4⟩
  |true=>
   dsimp only at h4 ⊢;rw[if_pos rfl]at h4 ⊢;refine⟨β,dP,M4,_,z3.step x4,h4,fun yd M5 yv H5 x5 r5 h5=>?_⟩
   obtain⟨k,rfl,h6⟩:=kN h5;refine⟨k,dY r5,?_⟩;cases k with
   |false=>
    rw[if_pos rfl]at h6 ⊢;exact q _ _ _ _ (x1.trans (nY.trans x5)) (.bl _) h6
   |true=>
    rw[if_neg (by decide)]at h6 ⊢
    exact⟨ds.length - (i+1),by omega,rfl,aQ,dP,M5,nY.trans x5,(z3.step x4).step x5,h6⟩
 ·have e:i=ds.length :=by omega
  subst e;rw[OE]at h';exact .inl ⟨qq.2 (cb _),q _ _ _ _ (x1.trans x') (.bl _) h'⟩
end
section
variable {X:Cx}{Γ:Gz}{β:Bz}{K:bn}
def zII (f:Int->Int->Dv):fi:=fun d e M Q=>match d,e with | .int i,.int j=>Q (f i j) M|_,_=>False
def zIC (C:Int->Int->Prop) (f:Int->Int->Dv):fi:=fun d e M Q=>match d,e with | .int i,.int j=>C i j/\Q (f i j) M|_,_=>False
theorem kU {g:Int->Int->V}{f:Int->Int->Dv}(h:∀β M H i j,Rz β M H (g i j) (f i j)):sv Γ (qg g) (zII f):=fun β x y d e M H Q Q' _ _ _ m rx ry z q=>by
 unfold zII at z;split at z
 ·exact⟨_,_,aL rx,aL ry,q _ _ _ _ (.refl m) (h ..) z⟩
 ·exact z.elim
theorem mX {C:Int->Int->Prop}{g:Int->Int->V}{f:Int->Int->Dv}(h:∀β M H i j,Rz β M H (g i j) (f i j)):sv Γ (rI C g) (zIC C f):=fun β x y d e M H Q Q' _ _ _ m rx ry z q=>by
 unfold zIC at z;split at z
 ·exact⟨_,_,aL rx,aL ry,z.1,q _ _ _ _ (.refl m) (h ..) z.2⟩
 ·exact z.elim
theorem fQ:eC Γ X (binaryOp .Add) (zII fun i j=>.int (i+j)):=⟨_,Ml,kU fun _ _ _ _ _=>.int _⟩
theorem nu:eC Γ X (binaryOp .Sub) (zII fun i j=>.int (i - j)):=⟨_,Mm,kU fun _ _ _ _ _=>.int _⟩
theorem pP:eC Γ X (binaryOp .Mult) (zIC Bi fun i j=>.int (i * j)):=⟨_,Mp,mX fun _ _ _ _ _=>.int _⟩
theorem EC:eC Γ X (binaryOp .FloorDiv) (zIC Mk fun i j=>.int (i / j)):=⟨_,J1,mX fun _ _ _ _ _=>.int _⟩
theorem j6:eC Γ X (binaryOp .Mod) (zIC (fun _ j=>0<j) fun i j=>.int (i % j)):=⟨_,Mq,mX fun _ _ _ _ _=>.int _⟩
theorem Rm:eC Γ X (binaryOp .Pow) (zIC Bh fun i j=>.int (i ^ j.toNat)):=⟨_,Mr,mX fun _ _ _ _ _=>.int _⟩
theorem tX:eC Γ X (compareOp .Lt) (zII fun i j=>.bl (decide (i<j))):=⟨_,QO,kU fun _ _ _ _ _=>.bl _⟩
theorem B4:eC Γ X (compareOp .LtE) (zII fun i j=>.bl (decide (i<=j))):=⟨_,QP,kU fun _ _ _ _ _=>.bl _⟩
theorem Ux:eC Γ X (compareOp .Gt) (zII fun i j=>.bl (decide (j<i))):=⟨_,QR,kU fun _ _ _ _ _=>.bl _⟩
def scalZ (d e:Dv):Option Bool:=match d with
 | .int i=>(match e with | .int j=>some (decide (i=j)) | .ax=>some false | .str _=>some false|_=>none)
 | .bl i=>(match e with | .bl j=>some (decide (i=j)) | .ax=>some false | .str _=>some false|_=>none)
 | .str i=>(match e with | .str j=>some (decide (i=j)) | .ax=>some false | .int _=>some false | .bl _=>some false|_=>none)
 | .ax=>(match e with | .ax=>some true | .int _=>some false | .bl _=>some false | .str _=>some false|_=>none)
 |_=>none
def zEq:fi:=fun d e M Q=>match scalZ d e with|some b=>Q (.bl b) M|none=>False
def zNe:fi:=fun d e M Q=>match scalZ d e with|some b=>Q (.bl (!b)) M|none=>False
theorem yi {M:Mh}{H:Hp}{x y:V}{d e:Dv}{b:Bool}(rx:Rz β M H x d) (ry:Rz β M H y e) (h:scalZ d e=some b):Gi x y=true/\decide (x=y)=b :=by
 unfold scalZ at h;split at h
 ·rw[aL rx];split at h<;>cases h
  ·rw[aL ry];exact⟨rfl,by simp⟩
  ·rw[ir ry];exact⟨rfl,by simp⟩
  ·rw[cp ry];exact⟨rfl,by simp⟩
 ·rw[dY rx];split at h<;>cases h
  ·rw[dY ry];exact⟨rfl,by simp⟩
  ·rw[ir ry];exact⟨rfl,by simp⟩
  ·rw[cp ry];exact⟨rfl,by simp⟩
 ·rw[cp rx];split at h<;>cases h
  ·rw[cp ry];exact⟨rfl,by simp⟩
  ·rw[ir ry];exact⟨rfl,by simp⟩
  ·rw[aL ry];exact⟨rfl,by simp⟩
  ·rw[dY ry];exact⟨rfl,by simp⟩
 ·rw[ir rx];split at h<;>cases h
  ·rw[ir ry];exact⟨rfl,by simp⟩
  ·rw[aL ry];exact⟨rfl,by simp⟩
  ·rw[dY ry];exact⟨rfl,by simp⟩
  ·rw[cp ry];exact⟨rfl,by simp⟩
 ·cases h
theorem jU:eC Γ X (compareOp .Eq) zEq:=⟨_,QM,fun β x y d e M H Q Q' _ _ _ m rx ry z q=>by
 unfold zEq at z;split at z
 ·rename_i b hb;obtain⟨h1,h2⟩:=yi rx ry hb;exact⟨h1,by rw[h2];exact q _ _ _ _ (.refl m) (.bl _) z⟩
 ·exact z.elim⟩
theorem yj:eC Γ X (compareOp .NotEq) zNe:=⟨_,QN,fun β x y d e M H Q Q' _ _ _ m rx ry z q=>by
 unfold zNe at z;split at z
 ·rename_i b hb;obtain⟨h1,h2⟩:=yi rx ry hb;exact⟨h1,by rw[h2];exact q _ _ _ _ (.refl m) (.bl _) z⟩
 ·exact z.elim⟩
def isNonD:Dv->Option Bool
 | .ax=>some true
 | .raw _=>none
 |_=>some false
theorem ED {M:Mh}{H:Hp}{x:V}{d:Dv}{b:Bool}(r:Rz β M H x d) (h:isNonD d=some b):decide (x=.ax)=b :=by
 cases r<;>simp[isNonD]at h ⊢<;>exact h
def zIsN (neg:Bool):fi:=fun d e M Q=>match e,isNonD d with | .ax,some b=>Q (.bl (if neg then !b else b)) M|_,_=>False
theorem wC:eC Γ X (compareOp .Is) (zIsN false):=⟨_,Mv,fun β x y d e M H Q Q' _ _ _ m rx ry z q=>by
 unfold zIsN at z;split at z
 ·rename_i b hb;exact⟨ir ry,by rw[ED rx hb];exact q _ _ _ _ (.refl m) (.bl _) z⟩
 ·exact z.elim⟩
def zSS (C:br->br->Prop) (f:br->br->Dv):fi:=fun d e M Q=>match d,e with | .str i,.str j=>C i j/\Q (f i j) M|_,_=>False
theorem vq:eC Γ X (binaryOp .Add) (zSS (fun i j=>i.length+j.length<=sizeLine) fun i j=>.str (i++j)):=⟨_,Bn,fun β x y d e M H Q Q' _ _ _ m rx ry z q=>by
 unfold zSS at z;split at z
 ·exact⟨_,_,cp rx,cp ry,z.1,q _ _ _ _ (.refl m) (.str _) z.2⟩
 ·exact z.elim⟩
mutual
def cB:Dv->Option Dt
 | .int i=>some (.int i)
 | .bl b=>some (.bl b)
 | .ax=>some .ax
 | .str z=>some (.str z)
 | .tup ds=>(lV ds).map .tup
 | .lst ds=>(lV ds).map .lst
 |_=>none
def lV:List Dv->Option (List Dt)
 | []=>some []
 |d::ds=>match cB d,lV ds with|some a,some as=>some (a::as)|_,_=>none
end
theorem nv:∀{ds:List Dv}{ts:List Dt},lV ds=some ts->ds.length=ts.length/\∀(i:Nat) (d:Dv) (t:Dt),ds[i]?=some d->ts[i]?=some t->cB d=some t
 | [],ts,h=>by simp only[lV,Ll]at h;subst h;exact⟨rfl,fun i d t a=>by simp at a⟩
 |d::ds,ts,h=>by
          simp only[lV]at h;split at h
          ·rename_i a as h1 h2;cases h;obtain⟨hl,q⟩:=nv h2;refine⟨by simp[hl],fun i e t x y=>?_⟩
           cases i with
           |zero=>simp at x y;subst x y;exact h1
           |succ i=>rw[KF]at x y;exact q i e t x y
          ·cases h
theorem EE {M:Mh}{H:Hp}{v:V}{d:Dv}(h:Rz β M H v d):∀{t:Dt},cB d=some t->fB H v t :=by
 induction h with
 |int i=>intro t e;simp only[cB,Ll]at e;subst e;exact .int i
 |bl b=>intro t e;simp only[cB,Ll]at e;subst e;exact .bl b
 |ax=>intro t e;simp only[cB,Ll]at e;subst e;exact .ax
 |str z=>intro t e;simp only[cB,Ll]at e;subst e;exact .str z
 |tup m e hl h ih=>
  intro t q;simp only[cB,i0]at q;obtain⟨ts,q,rfl⟩:=q;obtain⟨l2,at2⟩:=nv q;refine .tup e (hl.trans l2) fun i x d hx hd=>?_
  have hi:=(ce.mp hd).1;have:=ap (l:=_) (i:=i) (show i<_ from l2▸hi);exact ih i x _ hx this (at2 i _ _ this hd)
 |lst m e hl h ih=>
  intro t q;simp only[cB,i0]at q;obtain⟨ts,q,rfl⟩:=q;obtain⟨l2,at2⟩:=nv q;refine .lst e (hl.trans l2) fun i x d hx hd=>?_
  have hi:=(ce.mp hd).1;have:=ap (l:=_) (i:=i) (show i<_ from l2▸hi);exact ih i x _ hx this (at2 i _ _ this hd)
 |set m e=>intro t q;simp[cB]at q
 |ptr m=>intro t q;simp[cB]at q
 |exc m e=>intro t q;simp[cB]at q
 |bR m e=>intro t q;simp[cB]at q
 |cW m e=>intro t q;simp[cB]at q
 |cY e=>intro t q;simp[cB]at q
 |dk m e hk hl h ih=>intro t q;simp[cB]at q
 |dt m e hk hl h ih=>intro t q;simp[cB]at q
 |bZ m e m2 e2 hl h ih=>intro t q;simp[cB]at q
 |raw v=>intro t q;simp[cB]at q
def now (M:Mh):Dv->Dv
 | .ptr a=>match M a with|some (.lst ds)=>.lst ds|_=>.ptr a
 |d=>d
theorem Av {M:Mh}{H:Hp}{v:V}{d:Dv}(m:Mz β M H) (h:Rz β M H v d) {t:Dt}(e:cB (now M d)=some t):fB H v t :=by
 cases d with
 |ptr a=>
  simp only[now]at e;obtain⟨rfl,hs⟩:=bL h;cases q:M a with
  |none=>rw[q]at hs;cases hs
  |some o=>
   rw[q]at e;cases o with
   |c6=>simp[cB]at e
   |dk ks es=>simp[cB]at e
   |dt ks es=>simp[cB]at e
   |lst ds=>
    obtain⟨vs,hv,rs⟩:=m.obj a _ q;simp only[cB,i0]at e;obtain⟨ts,q,rfl⟩:=e;obtain⟨l2,at2⟩:=nv q;refine .lst hv (rs.len.trans l2) fun i x d hx hd=>?_
    have hi:=(ce.mp hd).1;have:=ap (l:=_) (i:=i) (show i<_ from l2▸hi);exact EE (rs.at' i x _ hx this) (at2 i _ _ this hd)
 |_=>exact EE h e
def oO (neg:Bool):fi:=fun d e M Q=>match cB (now M d),cB (now M e) with|some a,some b=>i9 a<=60/\Q (.bl (if neg then !eS a b else eS a b)) M|_,_=>False
theorem Aw {neg:Bool}:sv Γ (GZ neg) (oO neg):=fun β x y d e M H Q Q' _ _ _ m rx ry z q=>by
 unfold oO at z;split at z
 ·rename_i a b h1 h2;exact⟨a,b,Av m rx h1,Av m ry h2,z.1,q _ _ _ _ (.refl m) (.bl _) z.2⟩
 ·exact z.elim
theorem wD (hu:X.A.units+64<cLine):eC Γ X (compareOp .Eq) (oO false):=⟨_,ND hu,Aw⟩
theorem Rn (hu:X.A.units+64<cLine):eC Γ X (compareOp .NotEq) (oO true):=⟨_,NF hu,Aw⟩
def itemsM (M:Mh):Dv->Option (List Dv)
 | .tup ds=>some ds
 | .lst ds=>some ds
 | .ptr a=>match M a with|some (.lst ds)=>some ds|_=>none
 |_=>none
theorem kW {M:Mh}{H:Hp}{x:V}{d:Dv}{ds:List Dv}(m:Mz β M H) (r:Rz β M H x d) (h:itemsM M d=some ds):∃a vs,x=.ref a/\(H a=some (.lst vs)\/H a=some (.tup vs))/\aH β M H vs ds :=by
 cases d with
 |tup es=>cases h;obtain⟨a,vs,e,_,h,rs⟩:=dq r;exact⟨a,vs,e,.inr h,rs⟩
 |lst es=>cases h;obtain⟨a,vs,e,_,h,rs⟩:=dS r;exact⟨a,vs,e,.inl h,rs⟩
 |ptr a=>
  obtain⟨rfl,hs⟩:=bL r;simp only[itemsM]at h;split at h
  ·rename_i es q;cases h;obtain⟨vs,hv,rs⟩:=m.obj a _ q;exact⟨a,vs,rfl,.inl hv,rs⟩
  ·cases h
 |_=>cases h
theorem KC {M:Mh}{H:Hp}{vs:List V}{ds:List Dv}(rs:aH β M H vs ds) {i:Int}{d:Dv}(h:dj ds i=some d):∃v,dj vs i=some v/\Rz β M H v d :=by
 unfold dj at h ⊢;rw[rs.len];cases e:fN ds.length i with
 |none=>rw[e]at h;cases h
 |some j=>
  rw[e]at h;obtain⟨v,hv,r⟩:=rs.get (i:=j) (d:=d) h;exact⟨v,hv,r⟩
def Om (Γ:Gz) (X:Cx) (z:fi):Prop:=∃r,oj X r/\sv Γ r z
def zIx:fi:=fun d e M Q=>match e with
 | .int i=>(match d with
  | .str z=>z.length<=sizeLine/\(match dj z.cps.toList i with|some c=>Q (.str ⟨#[c]⟩) M|none=>False)
  |_=>match itemsM M d with|some ds=>(match dj ds i with|some r=>Q r M|none=>False)|none=>False)
 |_=>False
theorem du (hK:X.K=K):Om Γ X zIx:=⟨_,Af hK,fun β x y d e M H Q Q' _ _ _ m rx ry z q=>by
 unfold zIx at z;split at z
 ·rename_i i;have hy:=aL ry;split at z
  ·rename_i s;obtain⟨hz,z⟩:=z;split at z
   ·rename_i c hc;exact .inr (.inr ⟨s,i,c,cp rx,hy,hz,hc,q _ _ _ _ (.refl m) (.str _) z⟩)
   ·exact z.elim
  ·split at z
   ·rename_i ds vt;obtain⟨a,vs,rfl,ha,rs⟩:=kW m rx vt;split at z
    ·rename_i r hr;obtain⟨v,hv,rv⟩:=KC rs hr;have z':=q _ _ _ _ (.refl m) rv z;rcases ha with ha|ha
     ·exact .inl ⟨a,vs,i,v,rfl,hy,b9.of ha,hv,z'⟩
     ·exact .inr (.inl ⟨a,vs,i,v,rfl,hy,dG.of ha,hv,z'⟩)
    ·exact z.elim
   ·exact z.elim
 ·exact z.elim⟩
theorem bV {a b:db}{pa pb:aI}{z:fi}{pos:u4}(hr:Om Γ X z) (ha:QE Γ X a pa) (hb:QE Γ X b pb) (hs:Aa b):QE Γ X (.Subscript a b pos) (zOp z pa pb) :=by
 obtain⟨r,h1,h2⟩:=hr;exact(QX h1 ha hb hs).imp fun σ H Q h=>B2 h2 h
abbrev EF:=aA->Mh->(Option Int->Mh->Prop)->Prop
def lO (Γ:Gz) (p:EF):TO:=fun σ H Q=>∃(β:Bz) (ρ:aA) (M:Mh) (Q':Option Int->Mh->Prop),Zr Γ β M ρ σ H/\p ρ M Q'/\∀o M' H',Ex β M H M' H'->Q' o M'->Q o H'
def zoNone:EF:=fun _ M Q=>Q none M
def zoSome (p:aI):EF:=fun ρ M Q=>p ρ M fun d M1=>match d with | .int i=>Q (some i) M1|_=>False
theorem PO.imp {e:Option db}{t t':TO}(h:PO X e t) (i:∀σ H Q,t' σ H Q->t σ H Q):PO X e t':=fun pins s σ H Q I q=>h pins s σ H Q I (i _ _ _ q)
theorem KD:PO X none (lO Γ zoNone):=PO.imp J9 fun σ H Q ⟨β,ρ,M,Q',zr,h,q⟩=>q _ _ _ (.refl zr.mz) h
theorem KG {e:db}{p:aI}(h:QE Γ X e p):PO X (some e) (lO Γ (zoSome p)):=PO.imp (Ka h) fun σ H Q ⟨β,ρ,M,Q',zr,h,q⟩=>⟨β,ρ,M,_,zr,h,fun d M1 v H1 x1 r1 h1=>by
 revert h1
 split
 ·intro h1;exact⟨_,aL r1,q _ _ _ x1 h1⟩
 ·exact fun z=>z.elim⟩
abbrev Je:=Dv->Option Int->Option Int->Mh->ZK->Prop
def SX (Γ:Gz) (X:Cx) (z:Je):Prop:=∃r,IB X r/\∀(β:Bz) x d lo hi M H Q Q',β.P=Γ.P->β.w=Γ.w->β.K=Γ.K->Mz β M H->Rz β M H x d->z d lo hi M Q'->(∀d' M' v H',Ex β M H M' H'->Rz β M' H' v d'->Q' d' M'->Q v H')->r x lo hi H Q
def zSl (z:Je) (p:aI) (l h:EF):aI:=fun ρ M Q=>p ρ M fun d M1=>l ρ M1 fun lo M2=>h ρ M2 fun hi M3=>z d lo hi M3 Q
theorem Hj {z:Je}{e:db}{p:aI}{lo hi:Option db}{l h:EF}{p2 pos:u4}(hr:SX Γ X z) (he:QE Γ X e p) (hl:PO X lo (lO Γ l)) (hu:PO X hi (lO Γ h)):QE Γ X (.Subscript e (.Slice lo hi none p2) pos) (zSl z p l h) :=by
 obtain⟨r,h1,h2⟩:=hr;exact(Gv h1 he hl hu).imp fun σ H Q ⟨β,ρ,M,Q',zr,h,q⟩=>⟨β,ρ,M,_,zr,h,fun d M1 v H1 x1 r1 h1=>⟨β,ρ,M1,_,zr.step x1,h1,fun o M2 H2 x2 h3=>⟨β,ρ,M2,_,(zr.step x1).step x2,h3,fun o2 M3 H3 x3 h4=>
  h2 β v d o o2 M3 H3 _ _ zr.eP zr.ew zr.eK x3.mz ((r1.ex x2).ex x3) h4 fun d' M' v' H' x4 r4 q4=>q _ _ _ _ (x1.trans (x2.trans (x3.trans x4))) r4 q4⟩⟩⟩
def zSlS:Je:=fun d lo hi M Q=>match d with | .str s=>s.length<=sizeLine/\Q (.str (ZP s lo hi)) M|_=>False
theorem Ro:SX Γ X zSlS:=⟨_,Ni,fun β x d lo hi M H Q Q' _ _ _ m rx z q=>by
 unfold zSlS at z;split at z
 ·exact⟨_,cp rx,z.1,q _ _ _ _ (.refl m) (.str _) z.2⟩
 ·exact z.elim⟩
section
variable {x:br}{p pos:u4}{e:db}{es:List db}{za:fh}{id T:String}{z:vn}
theorem ay (hc:gq Γ X (.builtin id) z) (hg:Gl X x) (hm:X.mg x=none) (hv:bootBuiltins x=some (.builtin id)) (ha:QA Γ X (e::es) za) (hn:x ≠ "__name__" := by decide) (fU:(x==("__debug__" : br))=false :=by decide)
  (he:starEach (e::es) X.env=(false,eval e X.env)::starEach es X.env :=by rfl) (cF:(backTo pos (starEach es X.env)).any (·.1)=false :=by rfl):QE Γ X (.Call (.Name x p) (e::es) [] pos) (zCB z za) :=by
 obtain⟨r,h1,h2⟩:=hc;exact(Gu h1 hg hm hv ha hn fU he cF).imp fun σ H Q h=>Og h2 h
theorem dU (hc:gq Γ X (.type T) z) (hg:Gl X x) (hm:X.mg x=none) (hv:bootBuiltins x=some (.type T)) (ha:QA Γ X (e::es) za) (hn:x ≠ "__name__" := by decide) (fU:(x==("__debug__" : br))=false :=by decide)
  (he:starEach (e::es) X.env=(false,eval e X.env)::starEach es X.env :=by rfl) (cF:(backTo pos (starEach es X.env)).any (·.1)=false :=by rfl):QE Γ X (.Call (.Name x p) (e::es) [] pos) (zCB z za) :=by
 obtain⟨r,h1,h2⟩:=hc;exact(Dy h1 hg hm hv ha hn fU he cF).imp fun σ H Q h=>Og h2 h
end
def z1 (f:Dv->Mh->ZK->Prop):vn:=fun ds M Q=>match ds with | [d]=>f d M Q|_=>False
def zLenD (d:Dv) (M:Mh) (Q:ZK):Prop:=match d with
 | .str s=>s.length<=sizeLine/\Q (.int s.length) M
 | .bR ns=>Q (.int ns.length) M
 |_=>match itemsM M d with|some ds=>Q (.int ds.length) M|none=>False
theorem cD (hK:X.K=K) (hG:K=Γ.K):gq Γ X (.builtin "len") (z1 zLenD):=⟨_,DT hK,fun β xs ds M H Q Q' _ _ eK m rs z q=>by
 rw[<- hG]at eK;unfold z1 at z;split at z
 ·rename_i d;obtain⟨x,rfl,r⟩:=dy rs;unfold zLenD at z;split at z
  ·rename_i s;have e:=cp r;subst e;exact⟨_,_,rfl,⟨z.1,rfl⟩,q _ _ _ _ (.refl m) (.int _) z.2⟩
  ·rename_i ns;obtain⟨a,rfl,h⟩:=vk r;rw[eK]at h;exact⟨_,ns.length,rfl,.inl ⟨_,h,by simp⟩,q _ _ _ _ (.refl m) (.int _) z⟩
  ·split at z
   ·rename_i ds vt;obtain⟨a,vs,rfl,ha,fD⟩:=kW m r vt;have q':=q _ _ (.int ds.length) _ (.refl m) (.int _) z;rcases ha with ha|ha
    ·exact⟨_,ds.length,rfl,.inl ⟨vs,b9.of ha,fD.len.symm⟩,q'⟩
    ·exact⟨_,ds.length,rfl,.inr ⟨vs,dG.of ha,fD.len.symm⟩,q'⟩
   ·exact z.elim
 ·exact z.elim⟩
def z2I (f:Int->Int->Int):vn:=fun ds M Q=>match ds with | [.int i,.int j]=>Q (.int (f i j)) M|_=>False
theorem Oo (hc:X.calm=true):gq Γ X (.builtin "max") (z2I fun i j=>if j > i then j else i):=⟨_,Dp hc,fun β xs ds M H Q Q' _ _ _ m rs z q=>by
 unfold z2I at z;split at z
 ·obtain⟨x,y,rfl,r,r'⟩:=mV rs;rw[aL r,aL r'];exact⟨_,_,rfl,q _ _ _ _ (.refl m) (.int _) z⟩
 ·exact z.elim⟩
theorem EG (hc:X.calm=true):gq Γ X (.builtin "min") (z2I fun i j=>if j<i then j else i):=⟨_,Dq hc,fun β xs ds M H Q Q' _ _ _ m rs z q=>by
 unfold z2I at z;split at z
 ·obtain⟨x,y,rfl,r,r'⟩:=mV rs;rw[aL r,aL r'];exact⟨_,_,rfl,q _ _ _ _ (.refl m) (.int _) z⟩
 ·exact z.elim⟩
def zAbs (d:Dv) (M:Mh) (Q:ZK):Prop:=match d with | .int i=>Q (.int (if i<0 then -i else i)) M|_=>False
theorem Rp:gq Γ X (.builtin "abs") (z1 zAbs):=⟨_,Gq,fun β xs ds M H Q Q' _ _ _ m rs z q=>by
 unfold z1 at z;split at z
 ·obtain⟨x,rfl,r⟩:=dy rs;unfold zAbs at z;split at z
  ·rw[aL r];exact⟨_,rfl,q _ _ _ _ (.refl m) (.int _) z⟩
  ·exact z.elim
 ·exact z.elim⟩
def zTuple (d:Dv) (M:Mh) (Q:ZK):Prop:=match itemsM M d with|some ds=>Q (.tup ds) M|none=>False
theorem ji (hK:X.K=K):gq Γ X (.type "tuple") (z1 zTuple):=⟨_,tQ hK,fun β xs ds M H Q Q' _ _ _ m rs z q=>by
 unfold z1 at z;split at z
 ·rename_i d;obtain⟨x,rfl,r⟩:=dy rs;unfold zTuple at z;split at z
  ·rename_i ds vt;obtain⟨a,vs,rfl,ha,fD⟩:=kW m r vt;refine⟨a,vs,rfl,?_⟩;rcases ha with ha|ha
   ·refine .inl ⟨b9.of ha,fun l hl=>?_⟩
    have x2:=Ex.lay m hl (.tup vs);exact q _ _ _ _ x2 (jI (m.fz hl) aB (fD.ex x2)) z
   ·refine .inr ⟨dG.of ha,?_⟩;have f:Fz β M a :=by
     cases d with
     |tup es=>obtain⟨b,us,e,f,_⟩:=dq r;cases e;exact f
     |lst es=>obtain⟨b,us,e,f,_⟩:=dS r;cases e;exact f
     |ptr b=>
      obtain⟨e,hs⟩:=bL r;cases e;cases q2:M a with
      |none=>rw[q2]at hs;cases hs
      |some o=>have:=m.iO ha rfl;rw[q2]at this;cases this
     |_=>cases vt
    exact q _ _ _ _ (.refl m) (jI f ha fD) z
  ·exact z.elim
 ·exact z.elim⟩
def jz:List Dv->Option (List Int)
 | []=>some []
 | .int i::ds=>(jz ds).map (i::·)
 |_::_=>none
theorem yk:∀{ds:List Dv}{ns:List Int},jz ds=some ns->ds=ns.map Dv.int
 | [],ns,h=>by simp only[jz,Ll]at h;subst h;rfl
 |d::ds,ns,h=>by
          cases d with
          |int i=>
           simp only[jz,i0]at h;obtain⟨ms,h,rfl⟩:=h;rw[yk h];rfl
          |_=>simp[jz]at h
theorem vw:∀ns:List Int,jz (ns.map Dv.int)=some ns
 | []=>rfl
 |n::ns=>by simp[jz,vw ns]
theorem qT {M:Mh}{H:Hp}:∀{vs:List V}{ns:List Int},aH β M H vs (ns.map Dv.int)->vs=ns.map V.int
 | [],[],_=>rfl
 | [],_::_,r=>absurd r.len (by simp)
 |_::_,[],r=>absurd r.len (by simp)
 |v::vs,n::ns,r=>by
          rw[lw]at r;rw[lw,aL r.head,qT r.tail]
theorem ny {M:Mh}{H:Hp}:∀{ns:List Int},aH β M H (ns.map V.int) (ns.map Dv.int)
 | []=>.nil
 |n::ns=>.cons (.int _) ny
def intsM (M:Mh) (d:Dv):Option (List Int):=match d with | .set ns=>some ns|_=>(itemsM M d).bind jz
def zSorted (d:Dv) (M:Mh) (Q:ZK):Prop:=match intsM M d with|some ns=>ns.length<64/\Q (.lst ((sortI ns).map .int)) M|none=>False
theorem vy {M:Mh}{H:Hp}{x:V}{d:Dv}{ns:List Int}(m:Mz β M H) (r:Rz β M H x d) (h:(itemsM M d).bind jz=some ns):∃a,x=.ref a/\(H a=some (.lst (ns.map V.int))\/H a=some (.tup (ns.map V.int))) :=by
 cases e:itemsM M d with
 |none=>rw[e]at h;cases h
 |some ds=>
  rw[e]at h;obtain⟨a,vs,rfl,ha,rs⟩:=kW m r e;have e2:=yk (ns:=ns) h;subst e2;have:=qT rs;subst this;exact⟨a,rfl,ha⟩
theorem yl (hP:X.prog=Γ.P) (hw:X.w=Γ.w) (hK:X.K=K) (hc:X.calm=true):gq Γ X (.builtin "sorted") (z1 zSorted):=⟨_,v3 hP hw hK hc,fun β xs ds M H Q Q' eP ew _ m rs z q=>by
 unfold z1 at z;split at z
 ·rename_i d;obtain⟨x,rfl,r⟩:=dy rs;unfold zSorted at z;split at z
  ·rename_i ns ie;have fin:∀l,H l=none->Q (.ref l) (upd H l (.lst ((sortI ns).map V.int))):=fun l hl=>by
    have x2:=Ex.lay m hl (.lst ((sortI ns).map V.int));exact q _ _ _ _ x2 (ya (m.fz hl) aB ny) z.2
   unfold intsM at ie;split at ie
   ·cases ie;obtain⟨a,rfl,f,h⟩:=Eo r;rw[eP,ew]at h;exact⟨a,_,rfl,.inl h,z.1,fin⟩
   ·obtain⟨a,rfl,ha⟩:=vy m r ie;exact⟨a,_,rfl,.inr (ha.imp b9.of dG.of),z.1,fin⟩
  ·exact z.elim
 ·exact z.elim⟩
def zSet (d:Dv) (M:Mh) (Q:ZK):Prop:=match (itemsM M d).bind jz with|some ns=>ns.length+1<scanBound/\Q (.set (dO ns)) M|none=>False
theorem Rq (hP:X.prog=Γ.P) (hw:X.w=Γ.w) (hK:X.K=K) (hc:X.calm=true):gq Γ X (.type "set") (z1 zSet) :=by
 refine⟨xO Γ.P Γ.w K,by rw[<- hP,<- hw];exact BP hK hc,fun β xs ds M H Q Q' eP ew _ m rs z q=>?_⟩
 unfold z1 at z;split at z
 ·rename_i d;obtain⟨x,rfl,r⟩:=dy rs;unfold zSet at z;split at z
  ·rename_i ns ie;obtain⟨a,rfl,ha⟩:=vy m r ie;refine⟨a,ns,rfl,ha.imp b9.of dG.of,z.1,fun l hl=>?_⟩
   have x2:=Ex.lay m hl (fW Γ.P Γ.w l (dO ns));exact q _ _ _ _ x2 (.set (m.fz hl) (by rw[eP,ew];exact aB)) z.2
  ·exact z.elim
 ·exact z.elim
def isD (T:String) (M:Mh) (d:Dv):Option Bool:=match d with
 | .int _=>some (T == "int") | .bl _=>some (T == "int" || T == "bool") | .ax=>some false | .str _=>some (T == "str") | .tup _=>some (T == "tuple") | .lst _=>some (T == "list") | .ptr a=>(match M a with|some (.lst _)=>some (T == "list")|some .c6=>some (T == "list")|some _=>some false|none=>none)|_=>none
def tY:List String:=["int","bool","str","tuple","list"]
def zIsInst:vn:=fun ds M Q=>match ds with | [d,.raw (.ty T)]=>T∈tY/\(match isD T M d with|some b=>Q (.bl b) M|none=>False)|_=>False
theorem Oq {K:bn}{M:Mh}{H:Hp}{x:V}{d:Dv}{T:String}{b:Bool}(m:Mz β M H) (hT:T∈tY) (r:Rz β M H x d) (h:isD T M d=some b):∃t,gW K H x t/\Y7 K t (.type T)=some b :=by
 have qm:T = "int" \/ T = "bool" \/ T = "str" \/ T = "tuple" \/ T = "list" := by simpa[tY] using hT
 cases r with
 |int i=>cases h;exact⟨_,.int i,by rcases qm with rfl|rfl|rfl|rfl|rfl<;>rfl⟩
 |bl i=>cases h;exact⟨_,.bl i,by rcases qm with rfl|rfl|rfl|rfl|rfl<;>rfl⟩
 |ax=>cases h;exact⟨_,.ax,by rcases qm with rfl|rfl|rfl|rfl|rfl<;>rfl⟩
 |str i=>cases h;exact⟨_,.str i,by rcases qm with rfl|rfl|rfl|rfl|rfl<;>rfl⟩
 |tup f e hl q=>cases h;exact⟨_,.tup e,by rcases qm with rfl|rfl|rfl|rfl|rfl<;>rfl⟩
 |lst f e hl q=>cases h;exact⟨_,.lst e,by rcases qm with rfl|rfl|rfl|rfl|rfl<;>rfl⟩
 |ptr hs=>
  rename_i a;cases q2:M a with
  |none=>rw[q2]at hs;cases hs
  |some o=>
   simp only[isD,q2]at h;have q:=m.obj a o q2;cases o with
   |lst ds=>obtain⟨vs,e,_⟩:=q;cases h;exact⟨_,.lst e,by rcases qm with rfl|rfl|rfl|rfl|rfl<;>rfl⟩
   |c6=>obtain⟨_,_,e,_⟩:=q;cases h;exact⟨_,.lst e,by rcases qm with rfl|rfl|rfl|rfl|rfl<;>rfl⟩
   |dk ks ds=>obtain⟨vs,e,_⟩:=q;cases h;exact⟨_,.dK e,by rcases qm with rfl|rfl|rfl|rfl|rfl<;>rfl⟩
   |dt ks ds=>obtain⟨vs,e,_⟩:=q;cases h;exact⟨_,.dT e,by rcases qm with rfl|rfl|rfl|rfl|rfl<;>rfl⟩
 |set f e=>cases h
 |exc f e=>cases h
 |bR f e=>cases h
 |cW f e=>cases h
 |cY e=>cases h
 |raw v=>cases h
 |dk f e _ _ _=>cases h
 |dt f e _ _ _=>cases h
 |bZ _ _ _ _ _ _=>cases h
theorem bj (hK:X.K=K):gq Γ X (.builtin "isinstance") zIsInst:=⟨_,xu hK,fun β xs ds M H Q Q' _ _ _ m rs z q=>by
 unfold zIsInst at z;split at z
 ·obtain⟨x,y,rfl,r,r'⟩:=mV rs;rw[En r'];obtain⟨hT,z⟩:=z;split at z
  ·rename_i b hb;obtain⟨t,ht,hk⟩:=Oq (K:=K) m hT r hb;exact⟨_,_,t,b,rfl,ht,hk,q _ _ _ _ (.refl m) (.bl _) z⟩
  ·exact z.elim
 ·exact z.elim⟩
abbrev oP:=Dv->List Dv->Mh->ZK->Prop
def ym (Γ:Gz) (X:Cx) (T id:String) (K:bn) (z:oP):Prop:=∃r,Dz X id r/\∀(β:Bz) x xs d ds M H Q Q',β.P=Γ.P->β.w=Γ.w->β.K=Γ.K->Mz β M H->Rz β M H x d->aH β M H xs ds->z d ds M Q'->(∀d' M' v H',Ex β M H M' H'->Rz β M' H' v d'->Q' d' M'->Q v H')->r x xs H Q
def tyZ (T:String) (M:Mh):Dv->Prop
 | .ptr a=>match M a with|some (.lst _)=>T = "list" |some .c6=>T = "list" |some (.dk _ _)=>T = "dict" |some (.dt _ _)=>T = "dict" |none=>False
 | .lst _=>T = "list"
 | .tup _=>T = "tuple"
 | .str _=>T = "str"
 |_=>False
theorem Ot {M:Mh}{H:Hp}{x:V}{d:Dv}{T:String}(m:Mz β M H) (r:Rz β M H x d) (h:tyZ T M d):MN K T x H :=by
 cases r with
 |str=>exact h
 |lst f e _ _=>exact .inl ⟨h,_,b9.of e⟩
 |tup f e _ _=>exact .inr (.inl ⟨h,.inr ⟨_,e⟩⟩)
 |ptr hs=>
  rename_i a;cases q2:M a with
  |none=>rw[q2]at hs;cases hs
  |some o=>
   simp only[tyZ,q2]at h;have q:=m.obj a o q2;cases o with
   |lst ds=>obtain⟨vs,e,_⟩:=q;exact .inl ⟨h,_,b9.of e⟩
   |c6=>obtain⟨_,_,e,_⟩:=q;exact .inl ⟨h,_,b9.of e⟩
   |dk ks ds=>obtain⟨vs,e,_⟩:=q;exact .inr (.inr (.inl ⟨h,.inl ⟨_,e⟩⟩))
   |dt ks ds=>obtain⟨vs,e,_⟩:=q;exact .inr (.inr (.inl ⟨h,.inr ⟨_,e⟩⟩))
 |_=>exact h.elim
def zBM (T:String) (z:oP) (po:aI) (pa:fh):aI:=fun ρ M Q=>po ρ M fun d M1=>tyZ T M1 d/\pa ρ M1 fun ds M2=>z d ds M2 Q
section
variable {o e:db}{es:List db}{po:aI}{pa:fh}{name:br}{apos aV:u4}{T id:String}{z:oP}
theorem sD (h:X.K=K) (pat:Zy T) (slot:Slot T name id) (om:typeOf (.builtin id)=pure (.type "method_descriptor")) (hm:ym Γ X T id K z) (ho:QE Γ X o po) (ha:QA Γ X (e::es) pa) (jZ:attributeBase o name X.env (eval o X.env)=eval o X.env :=by rfl)
  (m7:((backTo aV (starEach (e::es) X.env)).all (fun x => !x.1) && (backToKw aV (keywordEach [] X.env)).all (fun x=>x.1.isSome)
   && decide ((e::es).length+([]:List Ps).length+(if ([]:List Ps).isEmpty then 0 else 1)<30))=true :=by rfl)
  (hline:(apos.endLine==aV.line)=true :=by rfl) (hs:starEach (e::es) X.env=(false,eval e X.env)::starEach es X.env :=by rfl) (iD:(backTo aV (starEach es X.env)).any (·.1)=false :=by rfl) :
  QE Γ X (.Call (.Attribute o name apos) (e::es) [] aV) (zBM T z po pa) :=by
 obtain⟨r,h1,h2⟩:=hm;exact(Nm h pat slot om h1 ho ha jZ m7 hline hs iD).imp fun σ H Q ⟨β,ρ,M,Q',zr,h,q⟩=>⟨β,ρ,M,_,zr,h,fun d M1 v H1 x1 r1 ⟨ht,h1⟩=>⟨Ot x1.mz r1 ht,β,ρ,M1,_,zr.step x1,h1,fun ds M2 vs H2 x2 r2 h3=>
  h2 β v vs d ds M2 H2 _ _ zr.eP zr.ew zr.eK x2.mz (r1.ex x2) r2 h3 fun d' M' v' H' x3 r3 q3=>q _ _ _ _ (x1.trans (x2.trans x3)) r3 q3⟩⟩
end
def zAppend:oP:=fun d ds M Q=>match d,ds with | .ptr a,[y]=>(match M a with|some (.lst xs)=>xs.length<sizeLine/\Q .ax (au M a (.lst (xs++[y])))|_=>False)|_,_=>False
theorem Hk:ym Γ X "list" "list.append" K zAppend:=⟨_,uU,fun β x xs d ds M H Q Q' _ _ _ m r rs z q=>by
 unfold zAppend at z;split at z
 ·rename_i a y;split at z
  ·rename_i es he;obtain⟨e,hs⟩:=bL r;obtain⟨v,e2,rv⟩:=dy rs;subst e e2;obtain⟨vs,hv,fD⟩:=m.obj a _ he;refine⟨a,vs,v,rfl,rfl,hv,by rw[fD.len];exact z.1,?_⟩
   exact q _ _ _ _ (Ex.own m (.inl hs) (fD.snoc rv)) .ax z.2
  ·exact z.elim
 ·exact z.elim⟩
def zExtend:oP:=fun d ds M Q=>match d,ds with | .ptr a,[y]=>(match M a,itemsM M y with|some (.lst xs),some ys=>(∀t,y≠.tup t)/\xs.length+ys.length<=sizeLine/\Q .ax (au M a (.lst (xs++ys)))|_,_=>False)|_,_=>False
theorem Hl:ym Γ X "list" "list.extend" K zExtend:=⟨_,DA,fun β x xs d ds M H Q Q' _ _ _ m r rs z q=>by
 unfold zExtend at z;split at z
 ·rename_i a y;split at z
  ·rename_i es ys he hy;obtain⟨e,hs⟩:=bL r;obtain⟨v,e2,rv⟩:=dy rs;subst e e2;obtain⟨vs,hv,fD⟩:=m.obj a _ he;obtain⟨b,us,rfl,hb,SY⟩:=kW m rv hy;have ip:H b=some (.lst us) :=by
    rcases hb with hb|hb
    ·exact hb
    ·exfalso
     cases y with
     |tup t=>exact z.1 t rfl
     |lst t=>obtain⟨c,_,e,_,h,_⟩:=dS rv;cases e;rw[hb]at h;cases h
     |ptr c=>
      obtain⟨e,hs⟩:=bL rv;cases e;cases q2:M b with
      |none=>rw[q2]at hs;cases hs
      |some o=>have:=m.iO hb rfl;rw[q2]at this;cases this
     |_=>cases hy
   refine⟨a,b,vs,us,rfl,rfl,hv,ip,by rw[fD.len,SY.len];exact z.2.1,?_⟩
   exact q _ _ _ _ (Ex.own m (.inl hs) (fD.append SY)) .ax z.2.2
  ·exact z.elim
 ·exact z.elim⟩
def zPop:oP:=fun d ds M Q=>match d,ds with | .ptr a,[]=>(match M a with|some (.lst xs)=>(match xs[xs.length - 1]? with|some y=>Q y (au M a (.lst xs.dropLast))|none=>False)|_=>False)|_,_=>False
def zPopAt:oP:=fun d ds M Q=>match d,ds with | .ptr a,[.int i]=>(match M a with|some (.lst xs) => -(2 ^ 63)<=i/\i<2 ^ 63/\(match seqIndex? i xs.length with|some k=>(match xs[k]? with|some y=>Q y (au M a (.lst (xs.eraseIdx k)))|none=>False)|none=>False)|_=>False)|_,_=>False
theorem aH.eraseIdx {M:Mh}{H:Hp}{vs:List V}{ds:List Dv}(h:aH β M H vs ds) (k:Nat):aH β M H (vs.eraseIdx k) (ds.eraseIdx k) :=by
 rw[List.eraseIdx_eq_take_drop_succ,List.eraseIdx_eq_take_drop_succ];exact(h.take _).append (h.drop _)
theorem Ax:ym Γ X "list" "list.pop" K zPopAt:=⟨_,Gx,fun β x xs d ds M H Q Q' _ _ _ m r rs z q=>by
 unfold zPopAt at z;split at z
 ·rename_i a i;split at z
  ·rename_i es he;obtain⟨b1,b2,z⟩:=z;split at z
   ·rename_i k hk;split at z
    ·rename_i y hy;obtain⟨e,hs⟩:=bL r;obtain⟨v0,e2,VX⟩:=dy rs;subst e e2;rw[aL VX];obtain⟨vs,hv,fD⟩:=m.obj a _ he;obtain⟨v,Ou,rv⟩:=fD.get hy;refine⟨a,vs,i,k,v,rfl,rfl,hv,b1,b2,by rw[fD.len];exact hk,Ou,?_⟩
     have x2:=Ex.own m (.inl hs) (fD.eraseIdx k);exact q _ _ _ _ x2 (rv.ex x2) z
    ·exact z.elim
   ·exact z.elim
  ·exact z.elim
 ·exact z.elim⟩
def zIndexS:oP:=fun d ds M Q=>match d,ds with | .str a,[.str b]=>(match Yh a b 0 a.length 1 with|i::_=>Q (.int (i:Nat)) M | []=>False)|_,_=>False
theorem Hm:ym Γ X "str" "str.index" K zIndexS:=⟨_,G0,fun β x xs d ds M H Q Q' _ _ _ m r rs z q=>by
 unfold zIndexS at z;split at z
 ·split at z
  ·rename_i i rest hi;obtain⟨v,e2,rv⟩:=dy rs;subst e2;exact⟨_,_,i,rest,cp r,by rw[cp rv],hi,q _ _ _ _ (.refl m) (.int _) z⟩
  ·exact z.elim
 ·exact z.elim⟩
def zSetI:Dv->Dv->Dv->Mh->(Mh->Prop)->Prop:=fun o i v M N=>match o,i with | .ptr a,.int k=>(match M a with|some (.lst xs)=>(match fN xs.length k with|some j=>N (au M a (.lst (xs.set j v)))|none=>False)|_=>False)|_,_=>False
def zgSub (po pi:aI):cf:=fun d ρ M N=>po ρ M fun o M1=>pi ρ M1 fun i M2=>zSetI o i d M2 fun M3=>N ρ M3
theorem jN {o i:db}{po pi:aI}{pos:u4}(ho:QE Γ X o po) (hi:QE Γ X i pi)
  (ha:∀v,assign (.Subscript o i pos) X.env v=(do
   let ov <- holding [v] (eval o X.env)
   let iv <- holding [v,ov] (eval i X.env)
   standAt pos
   holding [v,ov,iv] (setItem ov iv v)
   release [v,ov,iv] []) :=by intro _;rfl):QG Γ X (.Subscript o i pos) (zgSub po pi):=
 (L5 ho hi set_list ha).imp fun v σ H N ⟨β,d,ρ,M,N',zr,r,h,q⟩=>⟨β,ρ,M,_,zr,h,fun od M1 ov H1 x1 r1 h1=>⟨β,ρ,M1,_,zr.step x1,h1,fun XH M2 iv H2 x2 r2 h2=>by
  unfold zSetI at h2;split at h2
  ·rename_i a k;split at h2
   ·rename_i es he;split at h2
    ·rename_i j hj;obtain⟨e,hs⟩:=bL (r1.ex x2);subst e;rw[aL r2];obtain⟨vs,hv,fD⟩:=x2.mz.obj a _ he;have x3:=Ex.own x2.mz (.inl hs) (fD.set j ((r.ex x1).ex x2));exact⟨a,vs,k,j,rfl,rfl,hv,by rw[fD.len];exact hj,q _ _ _ _ (x1.trans (x2.trans x3)) (((zr.step x1).step x2).step x3) h2⟩
    ·exact h2.elim
   ·exact h2.elim
  ·exact h2.elim⟩⟩
end
end L2
namespace L2
open PySem PySem.Spec PySem.W PyProof.Rows
abbrev ZX:=al->Mh->Prop
abbrev cM:=List Dv->Mh->ZK->ZX->Prop
def bp (P:en) (w:ii) (K:bn) (tb:cG) (S:cM):Sp:=fun vs H Q E=>∃(β:Bz) (ds:List Dv) (M:Mh) (Q':ZK) (E':ZX),β.P=P/\β.w=w/\β.K=K/\β.tb=tb/\Mz β M H/\aH β M H vs ds/\S ds M Q' E' /\
 (∀d M' v H',Ex β M H M' H'->Rz β M' H' v d->Q' d M'->Q v H')/\∀C M' H',Ex β M H M' H'->E' C M'->E (.ref C) none H'
theorem Rz.lW {β:Bz}{M0 M:Mh}{H:Hp}(dom:∀a,(M0 a).isSome=true->(M a).isSome=true) {v:V}{d:Dv}(h:Rz β M H v d):Pin M0 d->Rz β M0 H v d :=by
 have ne:∀a,Fz β M a->Fz β M0 a:=fun a m=>⟨(by
  cases e:M0 a with
  |none=>rfl
  |some o=>have:=dom a (by rw[e];rfl);rw[m.1]at this;cases this),m.2⟩
 induction h with
 |int i=>exact fun _=>.int i
 |bl b=>exact fun _=>.bl b
 |ax=>exact fun _=>.ax
 |str z=>exact fun _=>.str z
 |tup m e hl h ih=>
  intro p;cases p with
  |tup p=>exact .tup (ne _ m) e hl fun i v d a b=>ih i v d a b (p d (cr b))
 |lst m e hl h ih=>
  intro p;cases p with
  |lst p=>exact .lst (ne _ m) e hl fun i v d a b=>ih i v d a b (p d (cr b))
 |set m e=>exact fun _=>.set (ne _ m) e
 |ptr m=>intro p;cases p with|ptr p=>exact .ptr p
 |exc m e=>exact fun _=>.exc (ne _ m) e
 |bR m e=>exact fun _=>.bR (ne _ m) e
 |cW m e=>exact fun _=>.cW (ne _ m) e
 |cY e=>exact fun _=>.cY e
 |dk m e hk hl h ih=>
  intro p;cases p with
  |dk p=>exact .dk (ne _ m) e hk hl fun i v d a b=>ih i v d a b (p d (cr b))
 |dt m e hk hl h ih=>
  intro p;cases p with
  |dt p=>exact .dt (ne _ m) e hk hl fun i v d a b=>ih i v d a b (p d (cr b))
 |bZ m e m2 e2 hl h ih=>
  intro p;cases p with
  |bZ p=>exact .bZ (ne _ m) e (ne _ m2) e2 hl fun i v d a b=>ih i v d a b (p d (cr b))
 |raw v=>exact fun _=>.raw v
inductive nZ (M0 M:Mh):Dv->Dv->Prop where
 |pin {d:Dv} (h:Pin M0 d):nZ M0 M d d
 |ptr {a:al} {ds iq:List Dv} (h0:M0 a=none) (h:M a=some (.lst ds)) (hl:ds.length=iq.length) (r:∀(i:Nat) (d d':Dv),ds[i]?=some d->iq[i]?=some d'->nZ M0 M d d'):nZ M0 M (.ptr a) (.lst iq)
 |tup {ds iq:List Dv} (hl:ds.length=iq.length) (r:∀(i:Nat) (d d':Dv),ds[i]?=some d->iq[i]?=some d'->nZ M0 M d d'):nZ M0 M (.tup ds) (.tup iq)
 |dk {a:al} {ks:List Key} {ds iq:List Dv} (h0:M0 a=none) (h:M a=some (.dk ks ds)) (hl:ds.length=iq.length) (r:∀(i:Nat) (d d':Dv),ds[i]?=some d->iq[i]?=some d'->nZ M0 M d d'):nZ M0 M (.ptr a) (.dk ks iq)
 |dt {a:al} {ks:List (List Key)} {ds iq:List Dv} (h0:M0 a=none) (h:M a=some (.dt ks ds)) (hl:ds.length=iq.length) (r:∀(i:Nat) (d d':Dv),ds[i]?=some d->iq[i]?=some d'->nZ M0 M d d'):nZ M0 M (.ptr a) (.dt ks iq)
theorem nZ.rz {β:Bz}{M0 M:Mh}{H:Hp}(mz:Mz β M H) (dom:∀a,(M0 a).isSome=true->(M a).isSome=true) {d d':Dv}(h:nZ M0 M d d'):∀{v:V},Rz β M H v d->Rz β M0 H v d':=by
 induction h with
 |pin h=>exact fun r=>r.lW dom h
 |ptr h0 h hl r ih=>
  intro v r;obtain⟨rfl,_⟩:=bL r;obtain⟨vs,hv,rs⟩:=mz.obj _ _ h;refine .lst ⟨h0,mz.apart _ _ h⟩ hv (rs.len.trans hl) fun i v d a b=>?_
  obtain⟨d0,q,rd⟩:=rs.get' a;exact ih i d0 d q b rd
 |dk h0 h hl r ih=>
  intro v r;obtain⟨rfl,_⟩:=bL r;obtain⟨vs,hv,hk,rs⟩:=mz.obj _ _ h;refine .dk ⟨h0,mz.apart _ _ h⟩ (.inl hv) hk (rs.len.trans hl) fun i v d a b=>?_
  obtain⟨d0,q,rd⟩:=rs.get' a;exact ih i d0 d q b rd
 |dt h0 h hl r ih=>
  intro v r;obtain⟨rfl,_⟩:=bL r;obtain⟨vs,hv,hk,rs⟩:=mz.obj _ _ h;refine .dt ⟨h0,mz.apart _ _ h⟩ (.inl hv) hk (rs.len.trans hl) fun i v d a b=>?_
  obtain⟨d0,q,rd⟩:=rs.get' a;exact ih i d0 d q b rd
 |tup hl r ih=>
  intro v r;obtain⟨a,vs,rfl,f,hv,rs⟩:=dq r;refine .tup ⟨?_,f.2⟩ hv (rs.len.trans hl) fun i v d a b=>?_
  ·cases e:M0 a with
   |none=>rfl
   |some o=>have:=dom a (by rw[e];rfl);rw[f.1]at this;cases this
  ·obtain⟨d0,q,rd⟩:=rs.get' a;exact ih i d0 d q b rd
def jj (M0:Mh) (Q:ZK):ZK:=fun d M=>Q d M\/((∀a o,M0 a=some o->M a=some o)/\∃d',nZ M0 M d d'/\Q d' M0)
theorem pQ {β:Bz}{M0 M:Mh}{H0 H:Hp}{Q':ZK}{Q:VK}(m0:Mz β M0 H0) (q:∀d M' v H',Ex β M0 H0 M' H'->Rz β M' H' v d->Q' d M'->Q v H') {d:Dv}{v:V}(x:Ex β M0 H0 M H) (r:Rz β M H v d) (h:jj M0 Q' d M):Q v H :=by
 rcases h with h|⟨same,d',rv,h⟩
 ·exact q _ _ _ _ x r h
 ·refine q d' M0 v H ⟨⟨x.keep,fun _ h=>h,fun _ _ h _=>h⟩,fun a o e=>?_,x.mz.tabs,x.mz.hids,m0.apart,x.mz.lams⟩ (rv.rz x.mz x.dom r) h
  have z:=x.mz.obj a o (same a o e);have z0:=m0.obj a o e;cases o with
  |lst ds=>
   obtain⟨vs,z,rs⟩:=z;obtain⟨N5,_,EH⟩:=z0;refine⟨vs,z,rs.len,fun i v d a b=>(rs.at' i v d a b).lW x.dom ?_⟩
   obtain⟨v0,_,r0⟩:=EH.get b;exact r0.pin
  |dk ks ds=>
   obtain⟨vs,z,hk,rs⟩:=z;obtain⟨N5,_,_,EH⟩:=z0;refine⟨vs,z,hk,rs.len,fun i v d a b=>(rs.at' i v d a b).lW x.dom ?_⟩
   obtain⟨v0,_,r0⟩:=EH.get b;exact r0.pin
  |dt ks ds=>
   obtain⟨vs,z,hk,rs⟩:=z;obtain⟨N5,_,_,EH⟩:=z0;refine⟨vs,z,hk,rs.len,fun i v d a b=>(rs.at' i v d a b).lW x.dom ?_⟩
   obtain⟨v0,_,r0⟩:=EH.get b;exact r0.pin
  |c6=>exact z
def zstart (N:List br) (ds:List Dv):aA:=ds.map some++mo (N.length - ds.length) none
theorem qU {Γ:Gz}{N:List br}{vs:List V}{ds:List Dv}(m:Mz Γ.toBz Γ.M0 Γ.H0) (rs:aH Γ.toBz Γ.M0 Γ.H0 vs ds):Zr Γ Γ.toBz Γ.M0 (zstart N ds) (start N vs) Γ.H0:=⟨rfl,rfl,rfl,rfl,fun _ h=>h,m.wf,.refl,m,by simp[zstart,start,rs.len],fun i d e=>by
 unfold zstart at e;unfold start;rw[YU]at e ⊢;rw[ca]at e ⊢;rw[rs.len];split at e
 ·rename_i hi;rw[if_pos hi];rw[bv,i0]at e;obtain⟨d2,e,e2⟩:=e;cases e2;obtain⟨v,hv,r⟩:=rs.get e;exact⟨v,by rw[bv,hv];rfl,r⟩
 ·rw[On]at e;split at e<;>cases e⟩
def zEndsOf (M0:Mh) (Q:ZK):iP:={nx:=fun _ M=>jj M0 Q .ax M,rt:=jj M0 Q}
def XR (Γ:Gz) (E':ZX) (E:XK):Prop:=∀C M' H',Ex Γ.toBz Γ.M0 Γ.H0 M' H'->E' C M'->E (.ref C) none H'
section
variable {P:en}{w:ii}{K:bn}{mg:br->Option am}{base:hX}{tb:cG}{x:br}{st:r9}{f:al}{fd:ln}{N ps:List br}{k:Nat}{S:cM}
theorem tZ (len:∀ds M Q E,S ds M Q E->ds.length=ps.length):∀vs H Q E,bp P w K tb S vs H Q E->vs.length=ps.length:=fun vs H Q E hS=>by
 obtain⟨β,ds,M,Q',E',_,_,_,_,m,rs,s,_⟩:=hS;exact rs.len.trans (len _ _ _ _ s)
theorem eW (D:Df K mg x st ps f fd) (sc:aW N ps (aj st)) (len:∀ds M Q E,S ds M Q E->ds.length=ps.length)
  (body:∀(A:l5) (outer:List Lo) (s:ar) (E:XK) (Γ:Gz) (ds:List Dv) (Q':ZK) (E':ZX),P=Γ.P->w=Γ.w->K=Γ.K->tb=Γ.tb->cj k (A.deeper (envOfC x (aj st) s.heap.objs.size f fd.code))->S ds Γ.M0 Q' E'->
   ∃p,nW Γ (gF bw P w K mg base N x (aj st) f fd.code A outer s Γ.H0 E).km (bU st) p/\p (zEndsOf Γ.M0 Q') (zstart N ds) Γ.M0):FnOk P w K mg base bw (k+1) f fd ps (bp P w K tb S) :=by
 refine D.fn.Vn sc (tZ len) fun A outer s H vs Q E hr h=>?_
 obtain⟨β,ds,M,Q',E',eP,ew,eK,et,m,rs,hS,q,_⟩:=h;obtain⟨p,hp,hq⟩:=body A outer s E ⟨β,M,H⟩ ds Q' E' eP.symm ew.symm eK.symm et.symm hr hS;refine⟨_,hp,β,zstart N ds,M,zEndsOf M Q',qU (Γ:=⟨β,M,H⟩) m rs,hq,?_⟩;have fin:∀d M' v H',Ex β M H M' H'->Rz β M' H' v d->jj M Q' d M'->Q v H':=fun d M' v H' x r h=>pQ m q x r h
 exact⟨fun b7 M' aO H' x zr h=>fin _ _ _ _ ⟨zr.ent,x.mz⟩ .ax h,fun d M' v H' x e r h=>fin _ _ _ _ ⟨e,x.mz⟩ r h,fun _ _ _ _ _ _ h=>h,fun _ _ _ _ _ _ h=>h⟩
theorem sE (D:Df K mg x st ps f fd) (sc:aW N ps (aj st)) (len:∀ds M Q E,S ds M Q E->ds.length=ps.length)
  (body:∀(A:l5) (outer:List Lo) (s:ar) (E:XK) (Γ:Gz) (ds:List Dv) (Q':ZK) (E':ZX),P=Γ.P->w=Γ.w->K=Γ.K->tb=Γ.tb->XR Γ E' E->cj k (A.deeper (envOfC x (aj st) s.heap.objs.size f fd.code))->S ds Γ.M0 Q' E'->
   ∃p,nW Γ (gF (gL P w) P w K mg base N x (aj st) f fd.code A outer s Γ.H0 E) (bU st) p/\p (zEndsOf Γ.M0 Q') (zstart N ds) Γ.M0):FnOk P w K mg base (gL P w) (k+1) f fd ps (bp P w K tb S) :=by
 refine D.fn.DN sc (tZ len) fun A outer s H vs Q E hr h=>?_
 obtain⟨β,ds,M,Q',E',eP,ew,eK,et,m,rs,hS,q,qx⟩:=h;obtain⟨p,hp,hq⟩:=body A outer s E ⟨β,M,H⟩ ds Q' E' eP.symm ew.symm eK.symm et.symm qx hr hS;refine⟨_,hp,β,zstart N ds,M,zEndsOf M Q',qU (Γ:=⟨β,M,H⟩) m rs,hq,?_⟩;have fin:∀d M' v H',Ex β M H M' H'->Rz β M' H' v d->jj M Q' d M'->Q v H':=fun d M' v H' x r h=>pQ m q x r h
 exact⟨fun b7 M' aO H' x zr h=>fin _ _ _ _ ⟨zr.ent,x.mz⟩ .ax h,fun d M' v H' x e r h=>fin _ _ _ _ ⟨e,x.mz⟩ r h,fun _ _ _ _ _ _ h=>h,fun _ _ _ _ _ _ h=>h⟩
end
section
variable {X:Cx}{Γ:Gz}{β:Bz}{K:bn}
def zCall (S:cM) (E':ZX) (za:fh):aI:=fun ρ M Q=>za ρ M fun ds M1=>S ds M1 Q E'
theorem XR.none:XR Γ (fun _ _=>False) (fun _ _ _=>False):=fun _ _ _ _ h=>h
theorem sF {M M1 M2:Mh}{H H1 H2:Hp}(ent:Ey M H M1 H1) (sub:∀a,a∈Γ.hid->a∈β.hid) (eP:β.P=Γ.P) (ew:β.w=Γ.w) (eK:β.K=Γ.K) (et:β.tb=Γ.tb) (x:Ex β M1 H1 M2 H2):Ex Γ.toBz M H M2 H2:=⟨ent.trans x.toEy,x.mz.sub eP.symm ew.symm eK.symm et.symm sub⟩
section
variable {CX:iC}{k:Nat}{f:al}{fd:ln}{ps:List br}{S:cM}{E:XK}{E':ZX}{x:br}{p pos:u4}{e:db}{es:List db}{za:fh}{P:en}{w:ii}{tb:cG}
theorem Ov (hP:P=Γ.P) (hw:w=Γ.w) (hK:K=Γ.K) (ht:tb=Γ.tb) (hE:XR Γ E' E) {σ:St}{H:Hp}{Q:VK}(h:lE Γ (zCall S E' za) σ H Q):IA (bp P w K tb S) [] E (lA Γ za) σ H Q :=by
 subst hP hw hK ht;obtain⟨β,ρ,M,Q',zr,h,q⟩:=h;refine⟨β,ρ,M,_,zr,h,fun ds M1 vs H1 x1 r1 h1=>?_⟩
 show bp Γ.P Γ.w Γ.K Γ.tb S (vs++[]) H1 Q E;rw[Lu];exact⟨β,ds,M1,Q',E',zr.eP,zr.ew,zr.eK,zr.et,x1.mz,r1,h1,fun d M2 v H2 x2 r2 h2=>q _ _ _ _ (x1.trans x2) r2 h2,fun C M2 H2 x2 h2=>hE C M2 H2 (sF zr.ent zr.sub zr.eP zr.ew zr.eK zr.et (x1.trans x2)) h2⟩
theorem aG (F:FnOk X.prog X.w X.K X.mg X.base CX k f fd ps (bp P w K tb S)) (hr:cj k X.A) (hg:Gl X x) (hm:X.mg x=some (.ref f)) (hk:ES X.K (.ref f)=true) (hb:Binds X.K fd ps []) (hx:Passes CX X E) (hP:P=Γ.P) (hw:w=Γ.w) (hK:K=Γ.K) (ht:tb=Γ.tb) (hE:XR Γ E' E)
  (ha:QA Γ X (e::es) za) (fU:(x==("__debug__" : br))=false :=by decide) (he:starEach (e::es) X.env=(false,eval e X.env)::starEach es X.env :=by rfl) (cF:(backTo pos (starEach es X.env)).any (·.1)=false :=by rfl) :
  QE Γ X (.Call (.Name x p) (e::es) [] pos) (zCall S E' za):=(J7 F hr hg hm hk hb .nil hx ha fU he cF).imp fun σ H Q h=>Ov hP hw hK ht hE h
end
def zRaise (C:al) (E':ZX) (za:fh):cu:=fun _ ρ M=>za ρ M fun ds M1=>ds.length<=sizeLine/\E' C M1
theorem Hn {x:br}{C:al}{mC:db}{rest:List db}{za:fh}{vf:List am}{B newId xS:String}{E:XK}{E':ZX}{np aV pos:u4}(O:Zn X.K C vf newId=true) (FB:ExcBaseFacts B newId xS vf) (hc:X.calm=true) (hR:Raises X E) (hE:XR Γ E' E) (hg:Gl X x) (hm:X.mg x=some (.ref C)) (ha:QA Γ X (mC::rest) za)
  (fU:(x==("__debug__" : br))=false :=by decide) (he:starEach (mC::rest) X.env=(false,eval mC X.env)::starEach rest X.env :=by rfl) (cF:(backTo aV (starEach rest X.env)).any (·.1)=false :=by rfl) :
  QS Γ X (.Raise (some (.Call (.Name x np) (mC::rest) [] aV)) none pos) (zRaise C E' za):=(G1 O FB hc hR hg hm ha fU he cF).imp fun D σ H ⟨β,ρ,M,D',zr,h,r⟩=>⟨β,ρ,M,_,zr,h,fun ds M1 vs H1 x1 r1 h1=>
 ⟨by rw[r1.len];exact h1.1,hE C M1 H1 (sF zr.ent zr.sub zr.eP zr.ew zr.eK zr.et x1) h1.2⟩⟩
section
variable {tg elt iter:db}{ifs:List db}{scope:ul}{pos:u4}{N':List br}{tn:Nat}{idx:List Nat}{zi:dZ}{g:cf}{tt:cC}{te:aI}{c P:al}{k:Nat}
theorem bX (hc:X.calm=true) (B:aD X.N X.env.scope scope N' tn idx) (hi:QI Γ X tg iter zi)
  (hg:Blk X N' scope fun Y=>QG Γ Y tg g) (ht:Blk X N' scope fun Y=>sA Γ Y ifs tt) (he:Blk X N' scope fun Y=>QE Γ Y elt te)
  (hs:∀x,foldedSetIterable iter X.env x=pure x :=by intro _;rfl):QE Γ X (.ListComp elt [⟨tg,iter,ifs,0⟩] scope pos) (zComp tn idx zi g tt te):=(qh hc B hi hg ht he hs).imp fun σ H Q h=>Ol h
theorem kX (hc:X.calm=true) (B:aD X.N X.env.scope scope N' tn idx) (hi:QI Γ X tg iter zi)
  (hg:Blk X N' scope fun Y=>QG Γ Y tg g) (ht:Blk X N' scope fun Y=>sA Γ Y ifs tt) (he:Blk X N' scope fun Y=>QE Γ Y elt te)
  (hs:∀x,foldedSetIterable iter X.env x=pure x :=by intro _;rfl):QE Γ X (.ListComp elt [⟨tg,iter,ifs,0⟩] scope pos) (zCompP tn idx zi g tt te):=(qh hc B hi hg ht he hs).imp fun σ H Q h=>tW h
theorem mE {i:Nat}{y:br}{py ku:u4}(hN:X.N.Nodup) (ee:X.N[i]?=some y) (hy:X.env.scope.names.lookup y=some .local) (hc:X.calm=true) (B:aD X.N X.env.scope scope N' tn idx) (hi:QI Γ X tg iter zi)
  (hg:Blk X N' scope fun Y=>QG Γ Y tg g) (ht:Blk X N' scope fun Y=>sA Γ Y ifs tt) (he:Blk X N' scope fun Y=>QE Γ Y elt te)
  (xi:swapsWith (.ListComp elt [⟨tg,iter,ifs,0⟩] scope pos) (some (.Name y py)) ku.line X.env=pure true :=by rfl)
  (hs:∀x,foldedSetIterable iter X.env x=pure x :=by intro _;rfl):QS Γ X (.Assign [.Name y py] (.ListComp elt [⟨tg,iter,ifs,0⟩] scope pos) ku) (zAsg (zCompP tn idx zi g tt te) (zgName i)):=(Bv hN ee hy hc B hi hg ht he xi hs).imp fun D σ H h=>B3 (fun _ _ _ h=>tW h) h
theorem EI {p xm:u4}(hP:P∈Γ.tb) (hr:cj (k+1) X.A) (hc:X.calm=true) (B:aD X.N X.env.scope scope N' tn idx)
  (h0:scope.names.lookup (".0" : br)=some .local) (u5:scope.isCoroutine=false) (gS:X.env.code=.ref c) (hd:wb X.base c P) (eU:∃bm ob,Y9 X.base mainGlobals X.mg bm ob)
  (Ae:Gl X "all") (hm:X.mg "all" = none) (hi:QI Γ X tg iter zi) (hg:qK X N' scope k fun Y=>QG Γ Y tg g) (ht:qK X N' scope k fun Y=>sA Γ Y ifs tt) (he:qK X N' scope k fun Y=>QE Γ Y elt te)
  (hs:∀x,genFold iter X.env x=pure x :=by intro _;rfl):QE Γ X (.Call (.Name "all" p) [fm elt tg iter ifs scope xm] [] pos) (zAll tn idx zi g tt te):=(Nf hr hc B h0 u5 gS hd eU Ae hm hi hg ht he hs).imp fun σ H Q h=>Rk hP h
end
end
section
variable {X:Cx}{Γ:Gz}{β:Bz}{K:bn}
section
variable {tg elt iter:db}{ifs:List db}{scope:ul}{pos:u4}{N':List br}{tn:Nat}{idx:List Nat}{zi:dZ}{g:cf}{tt:cC}{te:aI}{c P:al}{k:Nat}
def nz (g:cf) (tt:cC) (te:aI):List Dv->aA->Mh->(List Int->Mh->Prop)->List Int->Prop
 | [],_,M,Q,acc=>Q acc M
 |d::ds,τ,M,Q,acc=>g d τ M fun az M2=>tt az M2 fun b M3=>if b=true then te az M3 fun y M4=>(match y with | .int k=>acc.length+1<scanBound/\nz g tt te ds az M4 Q (c7 acc k)|_=>False) else nz g tt te ds az M3 Q acc
def zSetC (tn:Nat) (idx:List Nat) (zi:dZ) (g:cf) (tt:cC) (te:aI):aI:=fun ρ M Q=>zi ρ M fun ds M1=>nz g tt te ds (zBlock tn idx ρ) M1 (fun ns M2=>Q (.set ns) M2) []
theorem Ow (hP:X.prog=Γ.P) (hw:X.w=Γ.w) {σ:St}{H:Hp}{Q:VK}(h:lE Γ (zSetC tn idx zi g tt te) σ H Q):D3 X tn idx (lI Γ zi) (lG Γ g) (lT Γ tt) (lE Γ te) σ H Q :=by
 obtain⟨β,ρ,M,Q',zr,h,q⟩:=h;refine⟨β,ρ,M,_,zr,h,fun ds M1 H1 J x1 it h1 D hD=>?_⟩
 have iQ:=zr.step x1;have VY:=iQ.block tn idx;have VZ:Γ.H0 D=none:=iQ.ent.gone hD (by
  cases e:Γ.M0 D with
  |none=>rfl
  |some u=>have:=iQ.ent.dom D (by rw[e];rfl);rw[x1.mz.free hD]at this;cases this)
 have V0:=x1.mz.yb hD;have qO:D∈(β.add D).hid:=gc;refine⟨fun i m τ H'=>m=ds.length - i/\i<=ds.length/\∃aZ M' acc,Ey M1 H1 M' H'/\M' D=none/\Zr Γ (β.add D) M' aZ τ H'/\H' D=some (fW X.prog X.w D acc)/\nz g tt te (ds.drop i) aZ M' (fun ns M2=>Q' (.set ns) M2) acc,
  ⟨_,rfl,wp _,_,M1,[],Ey.refl.over hD,x1.mz.free hD,VY.enter hD rfl,aB,h1⟩,?_⟩
 rintro i m τ H' ⟨rfl,hi,aZ,M',acc,ey,hm,fY,at',h'⟩;have qq:=it (β.add D) M' H' (.add hD) ey fY.mz i;by_cases aQ:i<ds.length
 ·refine .inr ⟨(qq.1 aQ).1,fun x jJ y=>?_⟩
  obtain⟨x2,d,hd,rd⟩:=(qq.1 aQ).2 x jJ y;have e:ds.drop i=d::ds.drop (i+1) :=by
   rw[AT aQ];rw[ap aQ]at hd;cases hd;rfl
  rw[e]at h';refine⟨β.add D,d,aZ,M',_,fY.step x2,rd,h',fun dP M3 kR H3 x3 z3 h3=>⟨β.add D,dP,M3,_,z3,h3,fun b M4 H4 x4 h4=>?_⟩⟩
  have nY:=x2.trans (x3.trans x4);cases b with
  |false=>
   dsimp only at h4 ⊢;rw[if_neg ij]at h4 ⊢;exact⟨ds.length - (i+1),by omega,rfl,aQ,dP,M4,acc,ey.trans nY.toEy,nY.new D _ hm at',z3.step x4,nY.get hm at' rfl,h4⟩
  |true=>
   dsimp only at h4 ⊢;rw[if_pos rfl]at h4 ⊢;refine⟨β.add D,dP,M4,_,z3.step x4,h4,fun yd M5 yv H5 x5 r5 h5=>?_⟩
   have Ox:=nY.trans x5;cases yd with
   |int k=>
    have h6:acc.length+1<scanBound/\nz g tt te (ds.drop (i+1)) dP M5 (fun ns M2=>Q' (.set ns) M2) (c7 acc k):=h5
    have S0:=Ox.new D _ hm at';exact⟨k,acc,ds.length - (i+1),aL r5,Ox.get hm at' rfl,h6.1,by omega,rfl,aQ,dP,M5,c7 acc k,(ey.trans Ox.toEy).over hD,S0,((z3.step x4).step x5).over qO rfl S0 V0 VZ,aB,h6.2⟩
   |_=>exact FF h5
 ·have e:i=ds.length :=by omega
  subst e;rw[OE]at h';have mz:Mz β M' H':=Mz.sub (β:=β.add D) (dg:=β) rfl rfl rfl rfl (fun a h=>c8 _ h) fY.mz
  refine .inl ⟨qq.2 (cb _),q _ _ _ _ (x1.trans ⟨ey,mz⟩) (.set ⟨hm,(x1.mz.fz hD).2⟩ ?_) h'⟩;rw[zr.eP,zr.ew,<- hP,<- hw];exact at'
theorem B5 (hP:X.prog=Γ.P) (hw:X.w=Γ.w) (hc:X.calm=true) (B:aD X.N X.env.scope scope N' tn idx) (hi:QI Γ X tg iter zi)
  (hg:Blk X N' scope fun Y=>QG Γ Y tg g) (ht:Blk X N' scope fun Y=>sA Γ Y ifs tt) (he:Blk X N' scope fun Y=>QE Γ Y elt te)
  (hs:∀x,foldedSetIterable iter X.env x=pure x :=by intro _;rfl):QE Γ X (.SetComp elt [⟨tg,iter,ifs,0⟩] scope pos) (zSetC tn idx zi g tt te):=(BO hc B hi hg ht he hs).imp fun σ H Q h=>Ow hP hw h
end
def cg (xs ys:List Dv):List Dv:=(xs.zip ys).map fun p=>.tup [p.1,p.2]
def kY (n:Nat):List Dv:=(io n).map fun i=>.int (i:Nat)
theorem jO {J:It}{vs us:List V}{ds es:List Dv}{M:Mh}{H:Hp}(r:aH β M H vs ds) (r2:aH β M H us es) (h:∀M' H',Ey M H M' H'->wB J (vs.zip us) H'):Ep β J (cg ds es) M H:=fun dg M' H' bx x m i=>by
 have q:=h M' H' x i;have hl:(cg ds es).length=(vs.zip us).length :=by simp[cg,r.len,r2.len]
 rw[hl];refine⟨fun hi=>⟨(q.1 hi).1,fun v jJ y=>?_⟩,q.2⟩
 obtain⟨t,p,ht,rfl,hp,rfl⟩:=(q.1 hi).2 v jJ y;rw[ss]at hp;obtain⟨d,hd,rd⟩:=r.get' hp.1;obtain⟨e,he,re⟩:=r2.get' hp.2;have x2:=Ex.lay m ht (.tup [p.1,p.2]);refine⟨x2,.tup [d,e],?_,jI (m.fz ht) aB (.cons (((rd.bx bx).ey x).ex x2) (.cons (((re.bx bx).ey x).ex x2) .nil))⟩;unfold cg;rw[bv,i0];exact⟨(d,e),by rw[ss];exact⟨hd,he⟩,rfl⟩
theorem enum_zip (vs:List V):((io vs.length).map fun i=>(V.int (i:Nat),vs.getD i .ax))=((io vs.length).map fun i=>V.int (i:Nat)).zip vs :=by
 refine Yo fun i=>?_
 by_cases hi:i<vs.length
 ·rw[bv,LG hi];symm
  show _=some (V.int (i:Nat),vs.getD i .ax);rw[ss,bv,LG hi,dL,ap hi];exact⟨rfl,rfl⟩
 ·rw[List.getElem?_eq_none_iff.mpr (by simp;omega),List.getElem?_eq_none_iff.mpr (by simp;omega)]
theorem t5 {n:Nat}{M:Mh}{H:Hp}:aH β M H ((io n).map fun i=>V.int (i:Nat)) (kY n):=⟨by simp[kY],fun i v d a b=>by
 unfold kY at b;rw[bv]at a b;cases e:(io n)[i]? with
 |none=>rw[e]at a;cases a
 |some c=>rw[e]at a b;cases a;cases b;exact .int _⟩
theorem Sq.Oy {H:Hp}{a:al}{xs:List V}(h:H a=some (.lst xs)):Sq true K H a xs :=by
 unfold Sq;exact b9.of h
theorem Sq.ofT {H:Hp}{a:al}{xs:List V}(h:H a=some (.tup xs)):Sq false K H a xs :=by
 unfold Sq;exact dG.of h
section
variable {elts:List db}{x1:Nat}{tp p pos:u4}{l l1 l2:db}{pl p1 p2:aI}
def ziEnumK (k:Bool) (p:aI):dZ:=fun ρ M R=>p ρ M fun d M1=>match k,d with|false,.tup ds=>R (cg (kY ds.length) ds) M1|true,.lst ds=>R (cg (kY ds.length) ds) M1|_,_=>False
theorem KH (k:Bool) (hK:X.K=K) (hg:Gl X "enumerate") (hm:X.mg "enumerate" = none) (hl:QE Γ X l pl) (hs:starEach [l] X.env=[(false,eval l X.env)] :=by rfl) :
  QI Γ X (.Tuple elts x1 tp) (.Call (.Name "enumerate" p) [l] [] pos) (ziEnumK k pl):=(Kr k hK hg hm hl hs).imp fun σ H R ⟨β,ρ,M,R',zr,h,q⟩=>⟨β,ρ,M,_,zr,h,fun d M1 v H1 x1 r1 h1=>by
 revert h1
 split
 ·intro h1;obtain⟨a,vs,rfl,f,e,rs⟩:=dq r1;refine⟨a,rfl,⟨vs,Sq.ofT e⟩,q _ _ _ _ x1 ?_ h1⟩;rw[<- rs.len];exact jO t5 rs fun M' H' x=>by rw[<- enum_zip];exact vg (Sq.ofT (x.get f.1 e rfl))
 ·intro h1;obtain⟨a,vs,rfl,f,e,rs⟩:=dS r1;refine⟨a,rfl,⟨vs,Sq.Oy e⟩,q _ _ _ _ x1 ?_ h1⟩;rw[<- rs.len];exact jO t5 rs fun M' H' x=>by rw[<- enum_zip];exact vg (Sq.Oy (x.get f.1 e rfl))
 ·exact fun h=>h.elim⟩
def seqK (k:Bool) (d:Dv) (R:List Dv->Prop):Prop:=match k,d with|false,.tup ds=>R ds|true,.lst ds=>R ds|_,_=>False
theorem Ay {k:Bool}{M:Mh}{H:Hp}{v:V}{d:Dv}{R:List Dv->Prop}(r:Rz β M H v d) (h:seqK k d R):∃a vs ds,v=.ref a/\R ds/\aH β M H vs ds/\∀M' H',Ey M H M' H'->Sq k K H' a vs :=by
 unfold seqK at h;split at h
 ·obtain⟨a,vs,rfl,f,e,rs⟩:=dq r;exact⟨a,vs,_,rfl,h,rs,fun M' H' x=>Sq.ofT (x.get f.1 e rfl)⟩
 ·obtain⟨a,vs,rfl,f,e,rs⟩:=dS r;exact⟨a,vs,_,rfl,h,rs,fun M' H' x=>Sq.Oy (x.get f.1 e rfl)⟩
 ·exact h.elim
def ziZip (k1 k2:Bool) (p1 p2:aI):dZ:=fun ρ M R=>p1 ρ M fun d M1=>p2 ρ M1 fun e M2=>seqK k1 d fun xs=>seqK k2 e fun ys=>R (cg xs ys) M2
theorem sG (k1 k2:Bool) (hK:X.K=K) (hg:Gl X "zip") (hm:X.mg "zip" = none) (h1:QE Γ X l1 p1) (h2:QE Γ X l2 p2) (hs:starEach [l1,l2] X.env=(false,eval l1 X.env)::starEach [l2] X.env :=by rfl) (nR:starEach [l2] X.env=[(false,eval l2 X.env)] :=by rfl) :
  QI Γ X (.Tuple elts x1 tp) (.Call (.Name "zip" p) [l1,l2] [] pos) (ziZip k1 k2 p1 p2):=(N0 k1 k2 hK hg hm h1 h2 hs nR).imp fun σ H R ⟨β,ρ,M,R',zr,h,q⟩=>⟨β,ρ,M,_,zr,h,fun d M1 v H1 x1 r1 h1=>⟨β,ρ,M1,_,zr.step x1,h1,fun e M2 u H2 x2 r2 h2=>by
 obtain⟨a,vs,ds,rfl,h3,rs,s1⟩:=Ay (K:=K) (r1.ex x2) h2;obtain⟨b,us,es,rfl,h4,fD,s2⟩:=Ay (K:=K) r2 h3;exact⟨a,b,rfl,rfl,⟨vs,s1 _ _ .refl⟩,⟨us,s2 _ _ .refl⟩,q _ _ _ _ (x1.trans x2) (jO rs fD fun M' H' x=>G9 (s1 _ _ x) (s2 _ _ x)) h4⟩⟩⟩
end
def zRangeT (p:aI):aI:=fun ρ M Q=>p ρ M fun d M1=>match d with | .int j => -(2 ^ 20)<=j/\j<=2 ^ 20/\Q (.tup ((aR j.toNat).map .int)) M1|_=>False
def zRangeP (p:aI):aI:=fun ρ M Q=>p ρ M fun d M1=>match d with | .int j => -(2 ^ 24)<=j/\j<=2 ^ 24/\∀a,M1 a=none->Q (.ptr a) (au M1 a (.lst (kY j.toNat)))|_=>False
section
variable {e:db}{pe:aI}{p p1 p2 pos:u4}
theorem n5 (hc:X.calm=true) (hg:Gl X "tuple") (hm:X.mg "tuple" = none) (xq:Gl X "range") (xr:X.mg "range" = none) (he:QE Γ X e pe) (hs:starEach [e] X.env=[(false,eval e X.env)] :=by rfl) :
  QE Γ X (.Call (.Name "tuple" p) [.Call (.Name "range" p1) [e] [] p2] [] pos) (zRangeT pe):=(vZ hc hg hm xq xr he hs).imp fun σ H Q ⟨β,ρ,M,Q',zr,h,q⟩=>⟨β,ρ,M,_,zr,h,fun d M1 v H1 x1 r1 h1=>by
 revert h1
 split
 ·rintro⟨b1,b2,h1⟩;refine⟨_,aL r1,b1,b2,fun l hl=>?_⟩
  exact q _ _ _ _ (x1.trans (Ex.lay x1.mz hl _)) (jI (x1.mz.fz hl) aB ny) h1
 ·exact fun h=>h.elim⟩
theorem v7 (hc:X.calm=true) (hg:Gl X "list") (hm:X.mg "list" = none) (xq:Gl X "range") (xr:X.mg "range" = none) (he:QE Γ X e pe) (hs:starEach [e] X.env=[(false,eval e X.env)] :=by rfl) :
  QE Γ X (.Call (.Name "list" p) [.Call (.Name "range" p1) [e] [] p2] [] pos) (zRangeP pe):=(xo hc hg hm xq xr he hs).imp fun σ H Q ⟨β,ρ,M,Q',zr,h,q⟩=>⟨β,ρ,M,_,zr,h,fun d M1 v H1 x1 r1 h1=>by
 revert h1
 split
 ·rename_i j;rintro⟨b1,b2,h1⟩;refine⟨_,aL r1,b1,b2,fun l hl=>?_⟩
  have x2:=Ex.own x1.mz (.inr hl) (t5 (n:=j.toNat) (β:=β) (M:=M1) (H:=H1));exact q _ _ _ _ (x1.trans x2) (.ptr (by rw[updM_same];rfl)) (h1 l (x1.mz.free hl))
 ·exact fun h=>h.elim⟩
def truD (M:Mh):Dv->Option Bool
 | .bl b=>some b
 | .ax=>some false
 | .int i=>some (i != 0)
 | .str z=>if z.length<=sizeLine then some ((z.length:Int) != 0) else none
 | .tup ds=>some (!ds.isEmpty)
 | .lst ds=>some (!ds.isEmpty)
 | .ptr a=>match M a with|some (.lst ds)=>some (!ds.isEmpty)|_=>none
 |_=>none
def zTruth (p:aI):cC:=fun ρ M Q=>p ρ M fun d M1=>match truD M1 d with|some b=>Q b M1|none=>False
theorem aH.isEmpty {M:Mh}{H:Hp}{vs:List V}{ds:List Dv}(h:aH β M H vs ds):vs.isEmpty=ds.isEmpty :=by
 have:=h.len;cases vs<;>cases ds<;>simp_all
theorem KI {M:Mh}{H:Hp}{v:V}{d:Dv}{b:Bool}(m:Mz β M H) (r:Rz β M H v d) (h:truD M d=some b):Gm K v H b :=by
 cases r with
 |int i=>cases h;exact rfl
 |bl i=>cases h;exact rfl
 |ax=>cases h;exact rfl
 |str z=>
  simp only[truD]at h;split at h
  ·rename_i hz;cases h;exact⟨hz,rfl⟩
  ·cases h
 |tup f e hl q=>cases h;exact .inr (.inl ⟨_,dG.of e,by rw[aH.isEmpty ⟨hl,q⟩]⟩)
 |lst f e hl q=>cases h;exact .inl ⟨_,b9.of e,by rw[aH.isEmpty ⟨hl,q⟩]⟩
 |ptr hs=>
  simp only[truD]at h;split at h
  ·rename_i ds vt;cases h;obtain⟨vs,hv,rs⟩:=m.obj _ _ vt;exact .inl ⟨_,b9.of hv,by rw[rs.isEmpty]⟩
  ·cases h
 |set f e=>cases h
 |exc f e=>cases h
 |bR f e=>cases h
 |cW f e=>cases h
 |cY e=>cases h
 |raw v=>cases h
 |dk f e _ _ _=>cases h
 |dt f e _ _ _=>cases h
 |bZ _ _ _ _ _ _=>cases h
theorem Ho (ha:QE Γ X e pe) (he:∀whole,isTrue e X.env whole=(do let v <- whole;standAt e.pos;holding [v] (truthy v)) :=by intro _;rfl):QT Γ X e (zTruth pe):=(Gp ha he).imp fun σ H Q ⟨β,ρ,M,Q',zr,h,q⟩=>⟨β,ρ,M,_,zr,h,fun d M1 v H1 x1 r1 h1=>by
 revert h1
 split
 ·rename_i b hb;intro h1;exact⟨b,KI x1.mz r1 hb,q _ _ _ x1 h1⟩
 ·exact fun h=>h.elim⟩
end
theorem qv (i:Nat) {x:br}{pos:u4}(hN:X.N[i]?=some x :=by rfl) (hv:qd X.env.scope x :=by first|exact li rfl|exact Ix (li rfl)|exact Ix (Ix rfl)) (hd:(x==("__debug__" : br))=false :=by decide)
  (eT:(x==("__classdict__" : br))=false :=by decide):QE Γ X (.Name x pos) (zVar i):=Oc hN hv hd eT
end
theorem V1 {c:Bool}{A B:Prop}(h:c=true) (a:A):if c=true then A else B :=by rw[if_pos h];exact a
theorem V2 {c:Bool}{A B:Prop}(h:c=false) (b:B):if c=true then A else B :=by rw[h,if_neg ij];exact b
theorem fE {c:Bool}{A B:Prop}(h1:c=true->A) (h2:c=false->B):if c=true then A else B :=by
 cases c
 ·exact V2 rfl (h2 rfl)
 ·exact V1 rfl (h1 rfl)
theorem t6 {g:cf}{te:aI}{M:Mh}(p:Dv->Bool) (I:aA->Prop):∀{ds:List Dv}{τ:aA}{Q:Bool->Mh->Prop},I τ->(∀d∈ds,∀τ,I τ->∀R:aA->ZK,(∀az,I az->R az (.bl (p d)) M)->g d τ M fun az M2=>te az M2 (R az))->Q (ds.all p) M->lU g zNoIf te ds τ M Q
 | [],τ,Q,_,_,q=>q
 |d::ds,τ,Q,i,h,q=>by
          refine h d gc τ i (fun az=>zBool fun c M4=>if c=false then Q false M4 else lU g zNoIf te ds az M4 Q) fun az i2=>?_
          show if p d=false then Q false M else lU g zNoIf te ds az M Q
          cases e:p d with
          |false=>
           rw[if_pos rfl];rw[List.all_cons,e]at q;exact q
          |true=>
           rw[if_neg (by decide)]
           rw[List.all_cons,e,Yz]at q;exact t6 p I i2 (fun d' hd=>h d' (c8 _ hd)) q
theorem gr {g:cf}{te:aI}(f:Dv->Dv) (I:aA->Mh->Prop):∀{ds:List Dv}{τ:aA}{M:Mh}{Q:List Dv->Mh->Prop},I τ M->(∀d∈ds,∀τ M,I τ M->∀R:aA->ZK,(∀az M2,I az M2->R az (f d) M2)->g d τ M fun az M2=>te az M2 (R az))->(∀τ M,I τ M->Q (ds.map f) M)->gZ g zNoIf te ds τ M Q
 | [],τ,M,Q,i,_,q=>q τ M i
 |d::ds,τ,M,Q,i,h,q=>by
          refine h d gc τ M i (fun az y M4=>gZ g zNoIf te ds az M4 fun ys M5=>Q (y::ys) M5) fun az M2 i2=>?_
          exact gr f I i2 (fun d' hd=>h d' (c8 _ hd)) fun kR M3 i3=>q kR M3 i3
theorem t7 {g:cf}{tt:cC}{te:aI}(t:Dv->Bool) (f:Dv->Dv) (I:aA->Mh->Prop):∀{ds:List Dv}{τ:aA}{M:Mh}{Q:List Dv->Mh->Prop},I τ M->
  (∀d∈ds,∀τ M,I τ M->∀(R0:aA->Mh->Prop) (R:aA->ZK),(t d=true->∀az M2,I az M2->R az (f d) M2)->(t d=false->∀az M2,I az M2->R0 az M2)->g d τ M fun az M2=>tt az M2 fun b M3=>if b=true then te az M3 (R az) else R0 az M3)->
  (∀τ M,I τ M->Q ((ds.filter t).map f) M)->gZ g tt te ds τ M Q
 | [],τ,M,Q,i,_,q=>q τ M i
 |d::ds,τ,M,Q,i,h,q=>by
          refine h d gc τ M i (fun az M3=>gZ g tt te ds az M3 Q) (fun az y M4=>gZ g tt te ds az M4 fun ys M5=>Q (y::ys) M5) (fun e az M2 i2=>?_) fun e az M2 i2=>?_
          ·refine t7 t f I i2 (fun d' hd=>h d' (c8 _ hd)) fun kR M3 i3=>?_
           have:=q kR M3 i3;rw[Sm,if_pos e]at this;exact this
          ·refine t7 t f I i2 (fun d' hd=>h d' (c8 _ hd)) fun kR M3 i3=>?_
           have:=q kR M3 i3;rw[Sm,if_neg (by rw[e];decide)]at this
           exact this
theorem Az {g:cf}{te:aI}(f:Dv->Int) (I:aA->Mh->Prop):∀{ds:List Dv}{τ:aA}{M:Mh}{Q:List Int->Mh->Prop}{acc:List Int},I τ M->acc.length+ds.length+1<scanBound->(∀d∈ds,∀τ M,I τ M->∀R:aA->ZK,(∀az M2,I az M2->R az (.int (f d)) M2)->g d τ M fun az M2=>te az M2 (R az))->(∀τ M,I τ M->Q ((ds.map f).foldl c7 acc) M)->nz g zNoIf te ds τ M Q acc
 | [],τ,M,Q,acc,i,_,_,q=>q τ M i
 |d::ds,τ,M,Q,acc,i,hl,h,q=>by
          refine h d gc τ M i (fun az y M4=>match y with | .int k=>acc.length+1<scanBound/\nz g zNoIf te ds az M4 Q (c7 acc k)|_=>False) fun az M2 i2=>?_
          rw[xy]at hl;refine⟨by omega,Az f I i2 ?_ (fun d' hd=>h d' (c8 _ hd)) fun kR M3 i3=>q kR M3 i3⟩
          have:=xD (ns:=acc) (m:=f d);omega
abbrev eI (ns:List Int):Dv:=.tup (ns.map .int)
abbrev eN (ae:List (List Int)):Dv:=.tup (ae.map eI)
abbrev lX (ns:List Int):Dv:=.lst (ns.map .int)
theorem yn:∀ns:List Int,lV (ns.map Dv.int)=some (ns.map Dt.int)
 | []=>rfl
 |n::ns=>by simp only[lw,lV,cB,yn ns]
theorem yo {n:Nat}:∀{ds:List Dt},(∀d∈ds,i9 d<=n)->gG ds<=n
 | [],_=>by rw[gG];exact wp _
 |d::ds,h=>by
          rw[gG];exact Nat.max_le.mpr ⟨h d gc,yo fun d' hd=>h d' (c8 _ hd)⟩
theorem KJ (ns:List Int):gG (ns.map Dt.int)<=0:=yo fun d hd=>by
 obtain⟨i,_,rfl⟩:=kt.mp hd;exact cb _
theorem jk {M:Mh}(ns:List Int):∀d∈ns.map Dv.int,Pin M d:=fun d hd=>by
 obtain⟨i,_,rfl⟩:=kt.mp hd;exact .int i
theorem kZ {M:Mh}(ns:List Int):Pin M (eI ns):=.tup (jk ns)
theorem oQ {M:Mh}(ae:List (List Int)):Pin M (eN ae):=.tup fun d hd=>by
 obtain⟨r,_,rfl⟩:=kt.mp hd;exact kZ r
theorem KL {α β:Type}{f:α->β}{xs:List α}{i:Int}{x:α}(h:dj xs i=some x):dj (xs.map f) i=some (f x) :=by
 unfold dj at h ⊢;rw[ca];cases e:fN xs.length i with
 |none=>rw[e]at h;cases h
 |some j=>rw[e]at h;simp only[Option.bind_some]at h ⊢;rw[bv,h];rfl
theorem EJ {α:Type}{xs:List α}{k:Nat}(h:k<xs.length):dj xs ((k:Nat):Int)=some xs[k]:=eh (ap h)
def spLaw (K:bn) (tb:cG):Sp:=fun vs H Q _=>∃(a:al) (ns:List Int),vs=[.ref a]/\b9 K H a (ns.map V.int)/\ns.length<=63/\IE tb.g H/\(∀p∈tb.l,Lm H p)/\∀H',(∀p∈tb.l,∃ps,H' p.1=some (.lam ps))->Q (.bl true) H'
def Oz:cM:=fun ds M Q _=>∃ns:List Int,ds=[.bR ns]/\ns.length<=63/\(∀a,M a=none)/\∀M',Q (.bl true) M'
theorem OA {P:en}{w:ii}{K:bn}{mg:br->Option am}{base:hX}{k:Nat}{f:al}{fd:ln}{x:br}{tb:cG}(G:FnOk P w K mg base bw k f fd [x] (bp P w K tb Oz)):FnOk P w K mg base bw k f fd [x] (spLaw K tb):=
 G.imp fun vs H Q E ⟨a,ns,e,hS,hl,hT,hL,q⟩=>by
  subst e;have m:Mz ⟨P,w,K,tb,[]⟩ (fun _=>none) H:=⟨(fun a o e=>nomatch e),hT,(fun a ha=>absurd ha (by simp)),(fun a o e=>nomatch e),hL⟩
  refine⟨⟨P,w,K,tb,[]⟩,[.bR ns],fun _=>none,fun d _=>d=.bl true,fun _ _=>False,rfl,rfl,rfl,rfl,m,.cons ?_ .nil,⟨ns,rfl,hl,fun _=>rfl,fun _=>rfl⟩,fun d M' v H' x r h=>?_,fun _ _ _ _ h=>h.elim⟩
  ·have fz:Fz ⟨P,w,K,tb,[]⟩ (fun _=>none) a:=⟨rfl,by simp⟩
   rcases hS with (h|⟨o,h⟩)|h
   ·exact .cW fz h
   ·exact .bR fz h
   ·exact .cY h
  ·subst h;rw[dY r];exact q H' fun p hp=>let ⟨ps,e,_⟩:=x.mz.lams p hp;⟨ps,e⟩
def Keeps (M0 M:Mh):Prop:=∀a o,M0 a=some o->M a=some o
theorem Keeps.refl {M0:Mh}:Keeps M0 M0:=fun _ _ h=>h
theorem Keeps.upd {M0 M:Mh}{a:al}{o:Mo}(ha:M0 a=none) (h:Keeps M0 M):Keeps M0 (au M a o):=fun b u e=>by
 rw[ao (fun z=>by rw[z,ha]at e;cases e)]
 exact h b u e
theorem jP {M0 M:Mh}{Q:ZK}{d:Dv}(h:Keeps M0 M) (p:Pin M0 d) (q:Q d M0):jj M0 Q d M:=.inr ⟨h,d,.pin p,q⟩
theorem EK {M0 M:Mh}{Q:ZK}{a:al}{ds:List Dv}(h:Keeps M0 M) (h0:M0 a=none) (ha:M a=some (.lst ds)) (p:∀d∈ds,Pin M0 d) (q:Q (.lst ds) M0):jj M0 Q (.ptr a) M:=.inr ⟨h,.lst ds,.ptr h0 ha rfl fun i d d' e e'=>by
 rw[e]at e';cases e';exact .pin (p d (cr e)),q⟩
theorem cU {lo:Int}{n i:Nat}{d:Dv}(h:(cw lo n)[i]?=some d):d=.int (lo+(i:Nat))/\i<n :=by
 unfold cw at h;rw[bv]at h;cases e:(io n)[i]? with
 |none=>rw[e]at h;cases h
 |some k=>
  rw[e]at h;obtain⟨h1,h2⟩:=ce.mp e;rw[List.getElem_range]at h2;subst h2;exact⟨(gl h).symm,by simpa using h1⟩
theorem sH {lo:Int}{n:Nat}{d:Dv}(h:d∈cw lo n):∃i:Nat,i<n/\d=.int (lo+(i:Nat)) :=by
 obtain⟨i,hi⟩:=wv.mp h;obtain⟨e,l⟩:=cU hi;exact⟨i,l,e⟩
theorem rangeD_len (lo:Int) (n:Nat):(cw lo n).length=n :=by simp[cw]
theorem qV {tt:cC}(t:Dv->Bool) {τ:aA}:∀{ds:List Dv}{x:Option Dv}{M:Mh}{Q:List Dv->Mh->Prop},(∀d∈ds,∀R:Bool->Mh->Prop,R (t d) M->tt (some d::τ) M R)->Q (ds.filter t) M->gZ (zgName 0) tt (zVar 0) ds (x::τ) M Q
 | [],x,M,Q,_,q=>q
 |d::ds,x,M,Q,h,q=>by
          refine h d gc _ ?_;cases e:t d with
          |true=>
           rw[Sm,if_pos e]at q;exact qV t (Q:=fun ys M5=>Q (d::ys) M5) (fun d' hd=>h d' (c8 _ hd)) q
          |false=>
           rw[Sm,if_neg (by rw[e];decide)]at q
           exact qV t (fun d' hd=>h d' (c8 _ hd)) q
theorem lY {xs ys:List Dv}{k:Nat}{d:Dv}(h:(cg xs ys)[k]?=some d):∃x y,d=.tup [x,y]/\xs[k]?=some x/\ys[k]?=some y :=by
 unfold cg at h;rw[bv,i0]at h;obtain⟨p,h,rfl⟩:=h;rw[ss]at h;exact⟨p.1,p.2,rfl,h.1,h.2⟩
theorem KN {n k:Nat}{d:Dv}(h:(kY n)[k]?=some d):d=.int (k:Nat)/\k<n :=by
 unfold kY at h;rw[bv]at h;cases e:(io n)[k]? with
 |none=>rw[e]at h;cases h
 |some j=>
  rw[e]at h;obtain⟨h1,h2⟩:=ce.mp e;rw[List.getElem_range]at h2;subst h2;exact⟨(gl h).symm,by simpa using h1⟩
theorem KO {ds:List Dv}{k:Nat}{d:Dv}(h:(cg (kY ds.length) ds)[k]?=some d):∃x,d=.tup [.int (k:Nat),x]/\ds[k]?=some x :=by
 obtain⟨x,y,rfl,h1,h2⟩:=lY h;obtain⟨rfl,_⟩:=KN h1;exact⟨y,rfl,h2⟩
theorem atI_zero {α:Type}{x:α}{xs:List α}:dj (x::xs) 0=some x:=eh (j:=0) rfl
theorem oR {α:Type}{f:α->Dv}{xs:List α}{k:Nat}{d:Dv}(h:(xs.map f)[k]?=some d):∃x,xs[k]?=some x/\d=f x :=by
 rw[bv,i0]at h;obtain⟨x,h,e⟩:=h;exact⟨x,h,e.symm⟩
theorem pairsD_len (xs ys:List Dv):(cg xs ys).length=min xs.length ys.length :=by simp[cg]
end L2
namespace L2
open PySem PySem.Spec PyProof.Rows
theorem EL {M:Model}{A:l5}{E:am->ar->Prop}{s:ar}{scope:ul}{globals:al}{cl:List (br×al)}{qual:br}{env:Lo}{Q:Lo->ar->Prop}
  (h:Q (newEnv scope s.heap.objs.size globals (cellsFrom (s.heap.objs.size+1) scope.names cl) qual none .none (some env) builtinsNs) {s with heap:=pushCells (s.heap.push {cls:=.type "dict",data:=.dict #[]}) scope.names}) :
  wpAny M A (newFunctionEnv scope globals cl [] qual none .none (some env)) Q E s :=by
 simp only[newFunctionEnv,Zj,if_true];refine ag (wpAny_alloc ?_);refine ag (wpAny_layCells _ (fun name kind cells=>by cases V3:kind==SO<;>simp[V3]) _ _ _ _ ?_)
 rw[show ({s with heap:=s.heap.push {cls:=.type "dict",data:=.dict #[]}}:ar).heap.objs.size=s.heap.objs.size+1 from wE ..]
 exact bi h
theorem k4:∀(names:List (br×P3)) (h:hX) (cl:List (br×al)) (x:br) (c:al),(cellsFrom h.objs.size names cl).lookup x=some c->
  ((x,SO)∈names/\h.objs.size<=c/\(pushCells h names).IsCell c none)\/((∀k,(x,k)∈names->k≠.cell)/\cl.lookup x=some c)
 | [],h,cl,x,c,e=>.inr ⟨fun k z=>by simp at z,e⟩
 |(n,k)::r,h,cl,x,c,e=>by
          unfold cellsFrom at e;unfold pushCells;split at e
          ·rename_i hk;have kz:k=.cell :=by simpa using hk
           subst kz;rw[if_pos hk];have sz:(h.push {cls:=.type "cell",data:=.cell none}).objs.size=h.objs.size+1:=wE ..
           rw[<- sz]at e;rcases k4 r _ _ x c e with ⟨a,b,d⟩|⟨a,b⟩
           ·exact .inl ⟨c8 _ a,by omega,d⟩
           ·rw[CS]at b;cases hx:x==n with
            |true=>
             rw[hx]at b;cases b;have e2:x=n :=by simpa using hx
             subst e2;exact .inl ⟨gc,cb _,⟨_,ZT r _ _ _ (ci _ rfl),rfl⟩⟩
            |false=>
             rw[hx]at b;refine .inr ⟨fun k2 z=>?_,b⟩
             rcases im.mp z with q|q
             ·cases q;simp at hx
             ·exact a k2 q
          ·rename_i hk;rw[if_neg hk];rcases k4 r h cl x c e with ⟨a,b,d⟩|⟨a,b⟩
           ·exact .inl ⟨c8 _ a,b,d⟩
           ·refine .inr ⟨fun k2 z=>?_,b⟩
            rcases im.mp z with q|q
            ·cases q;intro z;subst z;exact hk rfl
            ·exact a k2 q
theorem cells_apart:∀(names:List (br×P3)) (h:hX) (cl:List (br×al)) (x y:br) (c:al),(∀n c,cl.lookup n=some c->c<h.objs.size)->(∀x y c,cl.lookup x=some c->cl.lookup y=some c->x=y)->(cellsFrom h.objs.size names cl).lookup x=some c->(cellsFrom h.objs.size names cl).lookup y=some c->x=y
 | [],h,cl,x,y,c,_,inj,e,e'=>inj x y c e e'
 |(n,k)::r,h,cl,x,y,c,lt,inj,e,e'=>by
          unfold cellsFrom at e e';split at e
          ·rename_i hk;rw[if_pos hk]at e';have sz:(h.push {cls:=.type "cell",data:=.cell none}).objs.size=h.objs.size+1:=wE ..
           rw[<- sz]at e e';refine cells_apart r _ _ x y c (fun m d z=>?_) (fun x y d a b=>?_) e e'
           ·rw[sz];rw[CS]at z;cases hm:m==n with
            |true=>rw[hm]at z;cases z;exact Da _
            |false=>rw[hm]at z;exact AE (lt m d z)
           ·rw[CS]at a b;have old:∀z,cl.lookup z=some h.objs.size->False:=fun z q=>absurd (lt _ _ q) (FS _)
            cases hx:x==n with
            |true=>
             rw[hx]at a;cases a;cases hy:y==n with
             |true=>rw[show x=n by simpa using hx,show y=n by simpa using hy]
             |false=>rw[hy]at b;exact(old y b).elim
            |false=>
             rw[hx]at a;cases hy:y==n with
             |true=>rw[hy]at b;cases b;exact(old x a).elim
             |false=>rw[hy]at b;exact inj x y d a b
          ·rename_i hk;rw[if_neg hk]at e';exact cells_apart r h cl x y c lt inj e e'
theorem lZ:∀(names:List (br×P3)) (n:Nat) (cl:List (br×al)) (x:br),((x,SO)∈names\/∃c,cl.lookup x=some c)->∃c,(cellsFrom n names cl).lookup x=some c
 | [],n,cl,x,h=>by
          rcases h with h|h
          ·simp at h
          ·exact h
 |(y,k)::r,n,cl,x,h=>by
          unfold cellsFrom;split
          ·rename_i hk;refine lZ r _ _ x ?_;by_cases e:x=y
           ·subst e;exact .inr ⟨n,by rw[CS];simp⟩
           ·rcases h with h|⟨c,h⟩
            ·rcases im.mp h with q|q
             ·cases q;exact absurd rfl e
             ·exact .inl q
            ·exact .inr ⟨c,by rw[CS,show (x==y)=false by simpa using e];exact h⟩
          ·rename_i hk;refine lZ r _ _ x ?_;rcases h with h|h
           ·rcases im.mp h with q|q
            ·cases q;exact absurd rfl hk
            ·exact .inl q
           ·exact .inr h
theorem B6 {X:Cx}{pins:List (al×i8)}{σ:St}{H:Hp}{s:ar}(I:Inv X pins σ H s) {x:br}{c:al}(h:X.env.cells.lookup x=some c):c<s.heap.objs.size :=by
 obtain⟨v,o,ho,_⟩:=I.cell x c h;exact ff ho
abbrev Jf (X:Cx) (N':List br) (scope:ul) (cl:List (br×al)) (C:al) (s:ar) (H:Hp) (fp:List al) (own:br->Bool):Cx:={rR X N' scope cl C s H fp with fn:=own}
def cN (N:List br) (sc scope:ul) (N':List br) (tn:Nat) (idx:List Nat):Prop:=
 scope.kind=.function/\(∀y∈scope.names,(y.2=.cell->scope.names.lookup y.1=some .cell)/\(y.2=.local->scope.names.lookup y.1=some .local)/\(y.2=.free->sc.names.lookup y.1=some .cell\/sc.names.lookup y.1=some .free)) /\
  N'.length=tn+idx.length/\∀p∈idx.zip (N'.drop tn),N[p.1]?=some p.2/\scope.names.lookup p.2=some .free
instance (N:List br) (sc scope:ul) (N':List br) (tn:Nat) (idx:List Nat):Decidable (cN N sc scope N' tn idx) :=by unfold cN;infer_instance
theorem cN.at {N:List br}{sc scope:ul}{N':List br}{tn:Nat}{idx:List Nat}(B:cN N sc scope N' tn idx) {σ:St}{i:Nat}{x:br}{v:V}(h1:N'[i]?=some x) (h2:(bB tn idx σ)[i]?=some (some v)) :
  scope.names.lookup x=some .free/\∃j:Nat,N[j]?=some x/\σ[j]?=some (some v) :=by
 obtain⟨_,_,b3,b4⟩:=B;unfold bB at h2;by_cases hi:i<tn
 ·rw[AS (by simpa using hi),On,if_pos hi]at h2
  cases h2
 ·rw[Go (by simpa using hi),WJ,bv]at h2
  cases e:idx[i - tn]? with
  |none=>rw[e]at h2;cases h2
  |some k=>
   rw[e]at h2;have h3:(σ[k]?).join=some v:=gl h2;have e2:(N'.drop tn)[i - tn]?=some x :=by
    rw[Zi];have:tn+(i - tn)=i :=by omega
    rw[this];exact h1
   have m:(k,x)∈idx.zip (N'.drop tn) :=by
    refine cr (i:=i - tn) ?_;rw[ss];exact⟨e,e2⟩
   obtain⟨a,b⟩:=b4 _ m;refine⟨b,k,a,?_⟩;cases q:σ[k]? with
   |none=>rw[q]at h3;cases h3
   |some w=>rw[q]at h3;exact congrArg some h3
theorem cN.len {N:List br}{sc scope:ul}{N':List br}{tn:Nat}{idx:List Nat}(B:cN N sc scope N' tn idx) (σ:St):(bB tn idx σ).length=N'.length :=by
 rw[B.2.2.1];unfold bB;simp
def g6 (scope:ul) (x:br):Bool:=scope.names.lookup x==some .cell
abbrev eL (X:Cx) (N':List br) (scope:ul) (P:Cx->Prop):Prop:=∀(cl:List (br×al)) (C:al) (s:ar) (H:Hp) (fp:List al),P (Jf X N' scope cl C s H fp (g6 scope))
theorem B7 {X:Cx}{pins:List (al×i8)}{σ aO:St}{H H':Hp}{s:ar}{N':List br}{scope:ul}{cs:List (br×al)}{C:al}{ex:List al}{h1:hX}{m0:br->Option am}{g':Array US}{tk:Nat}
  (I:Inv X pins σ H s) (pL:scope.kind=.function)
  (cS:∀n c,cs.lookup n=some c->(g6 scope n=true/\C<c/\h1.IsCell c none/\H' c=none)\/(g6 scope n=false/\X.env.cells.lookup n=some c))
  (Uy:∀x y c,cs.lookup x=some c->cs.lookup y=some c->x=y)
  (qG:∀x,((relabel scope X.env).names.lookup x=some .cell\/(relabel scope X.env).names.lookup x=some .free)->∃c,cs.lookup x=some c)
  (hC:s.heap.objs.size<=C) (hf:∀b∈ex,cK X pins H b) (Bu:∀b∈ex,b<s.heap.objs.size)
  (DG:Un (fg X.stack) ex H H' s.heap h1) (hok:c0 X.prog X.w H' h1) (rP:H' C=none) (rQ:∀b o,s.heap.get? b=some o->h1.get? b=some o) (ie:h1.Ns C m0)
  (w6:∀(i:Nat) (x:br) (v:V),N'[i]?=some x->aO[i]?=some (some v)->g6 scope x=false/\((relabel scope X.env).names.lookup x=some .cell\/(relabel scope X.env).names.lookup x=some .free)/\qd X.env.scope x/\(X.env.kindOf x=some .cell\/X.env.kindOf x=some .free)/\∃j:Nat,X.N[j]?=some x/\σ[j]?=some (some v))
  (hlen:aO.length=N'.length) (hg:Gn s.gens.size g'):Inv (Jf X N' scope cs C s H ex (g6 scope)) [] aO H' {s with heap:=h1,gens:=g',toks:=tk}:=by
 have DH:∀b∈ex,∀x c,X.env.cells.lookup x=some c->c≠b:=fun b hb=>(hf b hb).2.2.2.2.1
 have V4:∀b∈ex,∀x c,cs.lookup x=some c->c≠b:=fun b hb x c e z=>by
  rcases cS x c e with ⟨_,q,_⟩|⟨_,q⟩
  ·subst z;exact absurd (Yd (BB hC q) (Bu _ hb)) (FS _)
  ·exact DH b hb x c q z
 refine⟨⟨I.ok.mod,pL,I.ok.glob,I.ok.blt,hC,Uy,qG,fun x c hx e=>?_,fun z=>I.ok.hd z,I.ok.frames,.inl rfl,fun b hb=>⟨i4 (lc (Bu b hb) hC),fun x c e=>V4 b hb x c e⟩,
   I.bs,sw I.ok.bsz I.sz,fun b o e hb=>?_,fun b hb z=>?_,I.stack,I.mJ⟩,rfl,hg,DG,⟨m0,ie,fun i x v e1 e2 e3=>?_⟩,fun x c e=>?_,rP,fun x c e=>?_,fun p hp=>absurd (show p∈([]:List (al×i8)) from hp) (by simp),hok,hlen⟩
 ·rcases cS x c e with ⟨_,q,_⟩|⟨q,_⟩
  ·exact OL (BB hC q)
  ·have i7:g6 scope x=true:=hx;rw[q]at i7;cases i7
 ·rcases (hf b hb).2.2.2.1 with z|z
  ·exact I.ok.noex b o e z
  ·exact absurd (lc (ff e) (sw I.ok.bsz z)) (FS _)
 ·rcases im.mp (I.fT b z) with q|q
  ·exact(hf b hb).2.1 q
  ·exact(hf b hb).2.2.1 q
 ·obtain⟨k0,k1,vx,k2,j,n1,n2⟩:=w6 i x v e1 e2;obtain⟨m,hn,hl⟩:=I.loc;obtain⟨u,r,l⟩:=hl j x v n1 n2 vx;refine⟨u,r,.inr ⟨k1,?_⟩⟩;obtain⟨c',DI⟩:=qG x k1;rcases l with ⟨kl,_⟩|⟨_,c,ec,z⟩
  ·rcases k2 with q|q<;>(rw[kl]at q;cases q)
  ·rcases cS x c' DI with ⟨q,_⟩|⟨_,q⟩
   ·rw[k0]at q;cases q
   ·have:c'=c:=gl (q.symm.trans ec);subst this;exact⟨c',DI,z.keeps rQ⟩
 ·rcases cS x c e with ⟨_,_,q,_⟩|⟨_,q⟩
  ·exact⟨_,q⟩
  ·obtain⟨v,z⟩:=I.cell x c q;exact⟨v,z.keeps rQ⟩
 ·rcases cS x c e with ⟨_,_,_,q⟩|⟨_,q⟩
  ·exact q
  ·obtain⟨v,o,ho,hd⟩:=I.cell x c q;exact DG.free c o ho (I.freeC x c q) fun z=>DH c z x c q rfl
section
variable {X:Cx}
theorem compG_coreC {pins:List (al×i8)}{σ:St}{H2:Hp}{s2:ar}{e tg iter:db}{ifs:List db}{scope:ul}{N':List br}{tn:Nat}{idx:List Nat}{g:TG}{tt:TT}{tb:al->TB}{body:am->Lo->W1 Unit}{it:al}{fp:List al}{bY:Nat->hX->Prop}{J:It}
  {cl:List (br×al)} {E:am->ar->Prop} {RR:am->al->Zh->ar->Prop} {Q:VK} {mk:W1 am} {O0:HO} {o0:i8}
  (MY:∀(Q:am->ar->Prop),Q (.ref s2.heap.objs.size) {s2 with heap:=s2.heap.push o0}->wpAny (model X.prog X.w) X.A mk Q E s2) (rO:o0.isFreed=false)
  (MZ:∀(H:Hp) (h1:hX),h1.get? s2.heap.objs.size=some o0->ObjOk X.prog X.w H h1 s2.heap.objs.size O0)
  (hc:X.calm=true) (B:cN X.N X.env.scope scope N' tn idx)
  (S1:∀(D:al),eL X N' scope fun Y=>w9 Y e tg iter ifs 0 (.ref D) (body (.ref D) Y.env))
  (hg:eL X N' scope fun Y=>PG Y tg g) (ht:eL X N' scope fun Y=>iF Y ifs tt) (hb:∀D,eL X N' scope fun Y=>PB Y (body (.ref D) Y.env) (tb D))
  (I:Inv X pins σ H2 s2) (T:Turn X.prog X.w X.K tg J fp it bY) (st:bY 0 s2.heap) (f2:∀b∈fp,cK X pins H2 b)
  (cA:∀n c,cl.lookup n=some c->X.env.cells.lookup n=some c) (dN:∀n,(n,qr)∈scope.names->∃c,cl.lookup n=some c)
  (hq:∀D,H2 D=none->∃W:Nat->Nat->St->Hp->Prop,(∃m,W 0 m (bB tn idx σ) (upd H2 D O0))/\tLoop J g tt (tb D) (fun _ H'=>Q (.ref D) H') W)
  (rT:∀D C m s' H',Inv X pins σ H' s'->cK X pins H' C->s'.heap.Ns C m->Q (.ref D) H'->RR (.ref D) C (.ok .next) s') :
  wpAny (model X.prog X.w) X.A mk (fun acc jS=>wpAny (model X.prog X.w) X.A (newFunctionEnv scope X.env.globals cl [] X.env.qual none .none (some X.env)) (fun iG ng=>
   codeAny (model X.prog X.w) X.A (.compStart e 0 (.ref it) acc {iG with scope:=relabel scope X.env}) (RR acc iG.locals) ng) E jS) E s2 :=by
 obtain⟨b1,b2,b3,b4⟩:=id B;refine MY _ (EL ?_);dsimp only;generalize hG:s2.heap.push o0=G
 have hC:G.objs.size=s2.heap.objs.size+1 :=by rw[<- hG,wE]
 generalize OB:pushCells (G.push {cls:=.type "dict",data:=.dict #[]}) scope.names=dn
 have iH:dn.Ns G.objs.size fun _=>none :=by rw[<- OB];exact(hX.Ns.new G (.type "dict")).keeps (ZT _ _)
 have AA:∀b o,G.get? b=some o->dn.get? b=some o:=fun b o e=>by rw[<- OB];exact ZT _ _ b o (ba _ e)
 have xf:s2.heap.objs.size≠G.objs.size :=by rw[hC];exact i4 (Da _)
 have jg:s2.heap.objs.size<=G.objs.size :=by rw[hC];exact Co _
 have below:∀b,b<s2.heap.objs.size->b≠G.objs.size:=fun b hb=>by rw[hC];exact i4 (AE hb)
 have old:∀b o,s2.heap.get? b=some o->dn.get? b=some o:=fun b o e=>AA b o (hG▸ba _ e)
 have DK:dn.get? s2.heap.objs.size=some o0:=AA _ _ (hG▸ci _ rO);generalize yp:cellsFrom (G.objs.size+1) scope.names cl=cs
 have Jg:(G.push {cls:=.type "dict",data:=.dict #[]}).objs.size=G.objs.size+1:=wE ..
 have OC:∀x,(x,SO)∈scope.names->g6 scope x=true:=fun x hx=>by
  unfold g6;rw[(b2 _ hx).1 rfl];rfl
 have KP:∀x,(∀k,(x,k)∈scope.names->k≠SO)->g6 scope x=false:=fun x hx=>by
  unfold g6;cases q:scope.names.lookup x with
  |none=>rfl
  |some k=>have:=hx k (sK q);simpa using this
 have look:∀x c,cs.lookup x=some c->(g6 scope x=true/\G.objs.size<c/\dn.IsCell c none)\/(g6 scope x=false/\cl.lookup x=some c):=fun x c e=>by
  rw[<- yp,<- Jg]at e;rcases k4 scope.names _ cl x c e with ⟨a,b,d⟩|⟨a,b⟩
  ·rw[OB]at d;rw[Jg]at b;exact .inl ⟨OC x a,b,d⟩
  ·exact .inr ⟨KP x a,b⟩
 have inj:∀x y c,cs.lookup x=some c->cs.lookup y=some c->x=y:=fun x y c e e'=>by
  rw[<- yp,<- Jg]at e e';refine cells_apart scope.names _ cl x y c (fun n d z=>?_) (fun x y d a b=>I.ok.inj x y d (cA x d a) (cA y d b)) e e'
  rw[Jg,hC];exact AE (AE (B6 I (cA n d z)))
 have uY:H2 s2.heap.objs.size=none:=I.hok.fresh (cb _);have rP:upd H2 s2.heap.objs.size O0 G.objs.size=none :=by rw[ah (zn xf)];exact I.hok.fresh jg
 have xg:c0 X.prog X.w (upd H2 s2.heap.objs.size O0) dn:=I.hok.laid old (cb _) (MZ _ _ DK);have jW:∀b∈fp,b<s2.heap.objs.size:=fun b hb=>let ⟨o,e,_⟩:=T.obj _ _ st b hb;ff e
 obtain⟨W,⟨m0,w0⟩,turn⟩:=hq s2.heap.objs.size uY;have I1:Inv (Jf X N' scope cs G.objs.size s2 H2 fp (g6 scope)) [] (bB tn idx σ) (upd H2 s2.heap.objs.size O0) {s2 with heap:=dn,toks:=s2.toks}:=by
  refine B7 (g':=s2.gens) (m0:=fun _=>none) I b1 (fun n c e=>?_) inj (fun x hx=>?_) jg f2 jW (Un.laid old (cb _) uY) xg rP old iH (fun i x v e1 e2=>?_) (B.len σ) I.bare.self
  ·rcases look n c e with ⟨o,a,b⟩|⟨o,a⟩
   ·refine .inl ⟨o,a,b,?_⟩;have:c≠s2.heap.objs.size:=fun z=>by rw[z,hC]at a;exact absurd (Yd a (Da _)) (fun h=>by omega)
    rw[ah this];exact I.hok.fresh (OL (BB jg a))
   ·exact .inr ⟨o,cA n c a⟩
  ·rw[dX]at hx;rw[<- yp];cases q:scope.names.lookup x with
   |none=>rw[q]at hx;rcases hx with z|z<;>cases z
   |some k0=>
    have hm:=sK q;rw[q]at hx;by_cases hk:k0=.free
    ·subst hk;exact lZ _ _ _ _ (.inr (dN x hm))
    ·have nk:(k0==qr)=false :=by simpa using hk
     simp only[Fa,nk,WI,l8,if_false]at hx;rcases hx with z|z
     ·have e0:k0=.cell:=gl z;subst e0;exact lZ _ _ _ _ (.inl hm)
     ·exact absurd (gl z) hk
  ·obtain⟨fr,j,e4,e5⟩:=B.at e1 e2;have kx:=(b2 _ (sK fr)).2.2 rfl;refine⟨by unfold g6;rw[fr];rfl,?_,.inr kx,kx,j,e4,e5⟩
   rw[dX,fr];simp only[Fa];split
   ·exact .inl rfl
   ·exact .inr rfl
 have stat:∀{H':Hp},(∀b∈fp,H' b=none)->∀b∈fp,cK (Jf X N' scope cs G.objs.size s2 H2 fp (g6 scope)) [] H' b:=fun hn b hb=>by
  refine⟨hn b hb,below b (jW b hb),fun z=>?_,.inl hb,(fun x c e=>by
   rcases look x c e with ⟨_,a,_⟩|⟨_,a⟩
   ·exact fun z=>absurd (Yd (BB jg (z▸a)) (jW b hb)) (FS _)
   ·exact(f2 b hb).2.2.2.2.1 x c (cA x c a)),fun p hp=>absurd (show p∈([]:List (al×i8)) from hp) (by simp)⟩
  rcases im.mp (I.fT b z) with q|q
  ·exact(f2 b hb).2.1 q
  ·exact(f2 b hb).2.2.1 q
 have uZ:bY 0 dn:=T.keep _ _ _ st fun b _ o e=>old b o e
 refine m9 (S1 _ cs G.objs.size s2 H2 fp) T uZ (oq hc (fun _ _ z=>z) (S1 _ cs G.objs.size s2 H2 fp) (hg cs G.objs.size s2 H2 fp) (ht cs G.objs.size s2 H2 fp) (hb _ cs G.objs.size s2 H2 fp) T turn I1 uZ (stat fun b hb=>by rw[ah (i4 (jW b hb))];exact(f2 b hb).1) w0 fun aZ H' s' I4 qn=>?_)
 have J2:Inv X pins σ H' s':=I.rE I4.os I4.base I4.hok I4.bare fun b hb=>⟨(f2 b hb).2.2.2.1,(f2 b hb).2.1,(f2 b hb).2.2.2.2.1,(f2 b hb).2.2.2.2.2⟩
 obtain⟨mm,hm,_⟩:=I4.loc;exact rT _ _ mm s' H' J2 (I.jf jg I4.free) hm qn
theorem B8 {pins:List (al×i8)}{σ:St}{H2:Hp}{s2:ar}{tg elt iter:db}{ifs:List db}{scope:ul}{pos:u4}{N':List br}{tn:Nat}{idx:List Nat}{g:TG}{tt:TT}{te:TE}{it:al}{fp:List al}{bY:Nat->hX->Prop}{J:It}
  {cl:List (br×al)} {E:am->ar->Prop} {RR:am->al->Zh->ar->Prop} {Q:VK}
  (hc:X.calm=true) (B:cN X.N X.env.scope scope N' tn idx)
  (hg:eL X N' scope fun Y=>PG Y tg g) (ht:eL X N' scope fun Y=>iF Y ifs tt) (he:eL X N' scope fun Y=>PE Y elt te)
  (I:Inv X pins σ H2 s2) (T:Turn X.prog X.w X.K tg J fp it bY) (st:bY 0 s2.heap) (f2:∀b∈fp,cK X pins H2 b)
  (cA:∀n c,cl.lookup n=some c->X.env.cells.lookup n=some c) (dN:∀n,(n,qr)∈scope.names->∃c,cl.lookup n=some c)
  (hq:∀D,H2 D=none->∃W:Nat->Nat->St->Hp->Prop,(∃m,W 0 m (bB tn idx σ) (upd H2 D (.lst [])))/\rU J g tt te D Q W)
  (rT:∀D C m s' H',Inv X pins σ H' s'->cK X pins H' C->s'.heap.Ns C m->Q (.ref D) H'->RR (.ref D) C (.ok .next) s') :
  wpAny (model X.prog X.w) X.A (newList []) (fun acc jS=>wpAny (model X.prog X.w) X.A (newFunctionEnv scope X.env.globals cl [] X.env.qual none .none (some X.env)) (fun iG ng=>
   codeAny (model X.prog X.w) X.A (.compStart (.ListComp elt [⟨tg,iter,ifs,0⟩] scope pos) 0 (.ref it) acc {iG with scope:=relabel scope X.env}) (RR acc iG.locals) ng) E jS) E s2:=
 compG_coreC (body:=fun acc env=>do let _ <- call (.builtin "list.append") [acc,<- eval elt env]) (tb:=fun D=>rS D te) (O0:=.lst []) (o0:={cls:=.type "list",dict:=none,data:=.seq ([]:List am).toArray}) (fun Q q=>tw q) rfl (fun H h1 hd=>⟨wp _,[],0,.nil,hd⟩) hc B
  (fun D cl C s H fp=>⟨fun _=>rfl,fun _ _ _ _ h=>h,fun _=>xh ..,fun _ _ _ _ h=>h,rfl⟩) hg ht (fun D cl C s H fp=>Ac (he cl C s H fp)) I T st f2 cA dN (fun D hD=>let ⟨W,hm,turn⟩:=hq D hD;⟨W,hm,rW turn⟩) rT
variable {tg elt iter:db}{ifs:List db}{scope:ul}{pos:u4}{N':List br}{tn:Nat}{idx:List Nat}{wi:TI}{g:TG}{tt:TT}{te:TE}
variable {Γ:Gz}
theorem zH {i:Nat}{y:br}{py ku:u4}(hN:X.N.Nodup) (ee:X.N[i]?=some y) (hy:X.env.scope.names.lookup y=some .local) (hc:X.calm=true) (B:cN X.N X.env.scope scope N' tn idx) (hi:PI X tg iter wi)
  (hg:eL X N' scope fun Y=>PG Y tg g) (ht:eL X N' scope fun Y=>iF Y ifs tt) (he:eL X N' scope fun Y=>PE Y elt te)
  (xi:swapsWith (.ListComp elt [⟨tg,iter,ifs,0⟩] scope pos) (some (.Name y py)) ku.line X.env=pure true :=by rfl)
  (hs:∀x,foldedSetIterable iter X.env x=pure x :=by intro _;rfl):PS X (.Assign [.Name y py] (.ListComp elt [⟨tg,iter,ifs,0⟩] scope pos) ku) (tK (rV tn idx wi g tt te) (rH i)) :=by
 refine⟨?_⟩;intro pins s σ H D I h;obtain⟨cl,fO,cA,dN⟩:=fk (scope:=scope) (env:=X.env) fun n hn=>I.ok.has n ((B.2.1 _ hn).2.2 rfl)
 rw[exec_Assign_Name_used _ _ _ _ xi];refine ag (EQ (ag ?_));show wpAny _ X.A (do let _ <- comprehension (.ListComp elt [⟨tg,iter,ifs,0⟩] scope pos) scope X.env _ (newList []) false (eval iter X.env) (some (assign (.Name y py) X.env))) _ _ s;refine ag (l6 (No (use:=some (assign (.Name y py) X.env)) (Q:=fun _ s'=>SP X pins D .next s') rfl hs fO B.1 (fun y hy=>(B.2.1 y hy).2.1)
  (l6 (hi pins s σ H _ I h) (fun xv s1 h1=>l6 h1 (fun uN s2 h2=>?_) fun _ _ z=>z) fun _ _ z=>z)) (fun _ s' hq=>bi (bi hq)) fun _ _ z=>z)
 obtain⟨it,fp,bY,J,H2,e,I2,T,mL,f2,q2⟩:=h2;subst e;refine B8 (RR:=fun acc C=>compPost (model X.prog X.w) X.A X.xe (some (assign (.Name y py) X.env)) (fun _ s'=>SP X pins D .next s') acc C) hc B hg ht he I2 T mL f2 cA dN q2 fun E C m s' H' J2 fC hm q=>?_
 show wpAny _ X.A (assign (.Name y py) X.env (.ref E)) _ _ s';refine Zs (store_ok2 J2 hN ee (.inl hy) (v:=.ref E) rfl (fun s3 J3 ⟨a,iJ,ha⟩=>?_) (.inr hy))
 have eR:C≠a :=by
  rcases ha with z|z
  ·rw[z];exact fC.2.1
  ·exact fun w=>fC.2.2.2.2.1 _ _ z w.symm
 exact⟨m,hm.sameBut iJ eR,fun h' nS=>⟨_,H',fC.turn J3 nS,q⟩⟩
end
theorem Hq {scope:ul}{env:Lo}{x:br}(h:scope.names.lookup x=some .cell\/scope.names.lookup x=some .free):(relabel scope env).names.lookup x=some .cell\/(relabel scope env).names.lookup x=some .free :=by
 rw[dX];rcases h with h|h
 ·rw[h];exact .inl rfl
 ·rw[h];simp only[Fa];split
  ·exact .inl rfl
  ·exact .inr rfl
theorem aD.rel {N:List br}{sc scope:ul}{env:Lo}{N':List br}{tn:Nat}{idx:List Nat}(B:aD N sc scope N' tn idx):aD N (relabel sc env) scope N' tn idx:=
 ⟨B.1,fun y hy=>⟨(B.2.1 y hy).1,(B.2.1 y hy).2.1,fun z=>Hq ((B.2.1 y hy).2.2 z)⟩,B.2.2.1,B.2.2.2⟩
end L2
namespace L2
open PySem PySem.Spec PySem.W PyProof.Rows
section
variable {X:Cx}{Γ:Gz}{β:Bz}{K:bn}
def boolsD:List Dv->Option (List Bool)
 | []=>some []
 | .bl b::ds=>(boolsD ds).map (b::·)
 |_::_=>none
theorem vz:∀{ds:List Dv}{bs:List Bool},boolsD ds=some bs->ds=bs.map Dv.bl
 | [],bs,h=>by simp only[boolsD,Ll]at h;subst h;rfl
 |d::ds,bs,h=>by
          cases d with
          |bl b=>
           simp only[boolsD,i0]at h;obtain⟨ms,h,rfl⟩:=h;rw[vz h];rfl
          |_=>simp[boolsD]at h
theorem sI:∀bs:List Bool,boolsD (bs.map Dv.bl)=some bs
 | []=>rfl
 |n::ns=>by simp[boolsD,sI ns]
theorem vA {M:Mh}{H:Hp}:∀{vs:List V}{bs:List Bool},aH β M H vs (bs.map Dv.bl)->vs=bs.map V.bl
 | [],[],_=>rfl
 | [],_::_,r=>absurd r.len (by simp)
 |_::_,[],r=>absurd r.len (by simp)
 |v::vs,n::ns,r=>by
          rw[lw]at r;rw[lw,dY r.head,vA r.tail]
def zAllB (d:Dv) (M:Mh) (Q:ZK):Prop:=match d with | .lst ds=>(match boolsD ds with|some bs=>Q (.bl (bs.all id)) M|none=>False)|_=>False
theorem ER (hK:X.K=K) (hc:X.calm=true):gq Γ X (.builtin "all") (z1 zAllB):=⟨_,BQ hK hc,fun β xs ds M H Q Q' _ _ _ m rs z q=>by
 unfold z1 at z;split at z
 ·obtain⟨x,rfl,r⟩:=dy rs;unfold zAllB at z;split at z
  ·split at z
   ·rename_i bs V5;obtain⟨a,vs,rfl,f,ha,fD⟩:=dS r;have e:=vz V5;subst e;have:=vA fD;subst this;exact⟨a,bs,rfl,b9.of ha,q _ _ _ _ (.refl m) (.bl _) z⟩
   ·exact z.elim
  ·exact z.elim
 ·exact z.elim⟩
theorem Pin.mono {M M':Mh}{d:Dv}(h:Pin M d):(∀a,(M a).isSome=true->(M' a).isSome=true)->Pin M' d :=by
 intro k;induction h with
 |int i=>exact .int i
 |bl b=>exact .bl b
 |ax=>exact .ax
 |str z=>exact .str z
 |tup h ih=>exact .tup ih
 |lst h ih=>exact .lst ih
 |dk h ih=>exact .dk ih
 |dt h ih=>exact .dt ih
 |bZ h ih=>exact .bZ ih
 |set ns=>exact .set ns
 |ptr h=>exact .ptr (k _ h)
 |exc C=>exact .exc C
 |bR ns=>exact .bR ns
 |raw v=>exact .raw v
def aN (M:Mh) (a:al):Mh:=fun b=>if b=a then none else M b
theorem bf {M:Mh}{a:al}:aN M a a=none :=by unfold aN;rw[if_pos rfl]
theorem aX {M:Mh}{a b:al}(h:b≠a):aN M a b=M b :=by unfold aN;rw[if_neg h]
theorem sJ {M:Mh}{a:al}{o:Mo}(h:M a=none):aN (au M a o) a=M :=by
 funext b
 unfold aN au;by_cases e:b=a
 ·rw[if_pos e,e,h]
 ·rw[if_neg e,if_neg e]
structure t9 (M1 M:Mh) (ρ:aA):Prop where
 env:∀(i:Nat) (d:Dv),ρ[i]?=some (some d)->Pin M d
 obj:∀b o,M b=some o->M1 b=some o\/∀d∈o.items,Pin M d
theorem Zr.freeze {M:Mh}{ρ:aA}{σ:St}{H:Hp}{i:Nat}{a:al}{ds:List Dv}(z:Zr Γ β M ρ σ H) (hi:ρ[i]?=some (some (.ptr a))) (ha:M a=some (.lst ds)) (h0:Γ.M0 a=none) (fr:t9 Γ.M0 (aN M a) (ρ.set i (some (.lst ds)))) :
  Zr Γ β (aN M a) (ρ.set i (some (.lst ds))) σ H/\Ev β M H (aN M a) H :=by
 have rz:∀{v:V} {d:Dv},Rz β M H v d->Pin (aN M a) d->Rz β (aN M a) H v d:=fun r p=>r.lW (M0:=aN M a) (fun b hb=>by
  by_cases e:b=a
  ·rw[e,bf]at hb;cases hb
  ·rw[aX e]at hb;exact hb) p
 have lJ:i<ρ.length:=(ce.mp hi).1;have EV:∀d∈ds,Pin (aN M a) d:=fun d hd=>by
  have:=fr.env i (.lst ds) (by rw[OF lJ])
  cases this with|lst h=>exact h d hd
 have obj:∀b es,aN M a b=some es->∀d∈es.items,Pin (aN M a) d:=fun b es e d hd=>by
  rcases fr.obj b es e with q|q
  ·refine(z.wf b es q d hd).mono fun c hc=>?_
   have nc:c≠a:=fun w=>by rw[w,h0]at hc;cases hc
   rw[aX nc];exact z.ent.dom c hc
  ·exact q d hd
 have mz:Mz β (aN M a) H :=by
  refine⟨fun b o e=>?_,z.mz.tabs,z.mz.hids,fun b o e=>?_,z.mz.lams⟩
  ·have nb:b≠a:=fun q=>by rw[q,bf]at e;cases e
   have e':M b=some o :=by rw[aX nb]at e;exact e
   have q:=z.mz.obj b o e';cases o with
   |lst es=>obtain⟨vs,hv,rs⟩:=q;exact⟨vs,hv,rs.len,fun j v d x y=>rz (rs.at' j v d x y) (obj b _ e d (cr y))⟩
   |dk ks es=>obtain⟨vs,hv,hk,rs⟩:=q;exact⟨vs,hv,hk,rs.len,fun j v d x y=>rz (rs.at' j v d x y) (obj b _ e d (cr y))⟩
   |dt ks es=>obtain⟨vs,hv,hk,rs⟩:=q;exact⟨vs,hv,hk,rs.len,fun j v d x y=>rz (rs.at' j v d x y) (obj b _ e d (cr y))⟩
   |c6=>exact q
  ·have nb:b≠a:=fun q=>by rw[q,bf]at e;cases e
   rw[aX nb]at e;exact z.mz.apart b o e
 refine⟨⟨z.eP,z.ew,z.eK,z.et,z.sub,z.wf,⟨z.ent.keep,fun b hb=>?_,fun b o m h=>?_⟩,mz,by simp[z.len],fun j d e=>?_⟩,⟨fun b o _ h=>.inl h,fun b o m h=>?_,mz⟩⟩
 ·have nb:b≠a:=fun q=>by rw[q,h0]at hb;cases hb
  rw[aX nb];exact z.ent.dom b hb
 ·by_cases e:b=a
  ·rw[e,bf]
  ·rw[aX e];exact z.ent.new b o m h
 ·have p:=fr.env j d e;rw[Pi]at e;split at e
  ·rename_i q;subst q;first
    |cases e
    |(rw[if_pos lJ]at e;cases e)
   obtain⟨v,hv,r⟩:=z.at' i _ hi;obtain⟨rfl,_⟩:=bL r;obtain⟨vs,hl,rs⟩:=z.mz.obj a _ ha;refine⟨_,hv,.lst ⟨bf,z.mz.apart a _ ha⟩ hl rs.len fun k v d x y=>rz (rs.at' k v d x y) (EV d (cr y))⟩
  ·obtain⟨v,hv,r⟩:=z.at' j d e;exact⟨v,hv,rz r p⟩
 ·by_cases e:b=a
  ·rw[e,bf]
  ·rw[aX e];exact m
def Uz (i:Nat) (M0:Mh) (p:cu):cu:=fun D ρ M=>p D ρ M\/∃a ds,ρ[i]?=some (some (.ptr a))/\M a=some (.lst ds)/\M0 a=none/\t9 M0 (aN M a) (ρ.set i (some (.lst ds)))/\p D (ρ.set i (some (.lst ds))) (aN M a)
theorem EW (i:Nat) {M1:Mh}{st:r9}{p:cu}(hM:Γ.M0=M1) (h:QS Γ X st p):QS Γ X st (Uz i M1 p):=h.imp fun D σ H ⟨β,ρ,M,D',zr,h,r⟩=>by
 rcases h with h|⟨a,ds,hi,ha,h0,fr,h⟩
 ·exact⟨β,ρ,M,D',zr,h,r⟩
 ·obtain⟨z2,e2⟩:=zr.freeze hi ha (by rw[hM];exact h0) (by rw[hM];exact fr)
  exact⟨β,_,_,D',z2,h,r.step e2⟩
end
end L2
namespace L2
open PySem PySem.Spec PyProof.Rows
section
variable {κ:Type} [DecidableEq κ] {α:Type}
def look:List κ->List α->κ->Option α
 |k::ks,d::ds,x=>if k=x then some d else look ks ds x
 |_,_,_=>none
def bO:List κ->List α->κ->α->List α
 |k::ks,d::ds,x,y=>(if k=x then y else d)::bO ks ds x y
 |_,_,_,_=>[]
def putL (ks:List κ) (k:κ):List κ:=if k∈ks then ks else ks++[k]
def cO (ks:List κ) (ds:List α) (k:κ) (d:α):List α:=if k∈ks then bO ks ds k d else ds++[d]
theorem iw {x:κ}:∀{ks:List κ}{ds:List α},ks.length=ds.length->(look ks ds x=none ↔ x ∉ ks)
 | [],[],_=>by simp[look]
 |k::ks,d::ds,h=>by
          have ih:=iw (x:=x) (ks:=ks) (ds:=ds) (by simpa using h)
          unfold look;by_cases e:k=x
          ·simp[e]
          ·rw[if_neg e,ih,im];constructor
           ·rintro a (b|b)
            ·exact e b.symm
            ·exact a b
           ·exact fun a b=>a (.inr b)
 | [],_::_,h=>by simp at h
 |_::_,[],h=>by simp at h
theorem qW (x:κ):∀(ks:List κ) (vs:List V),jT (ks.zip vs) x=look ks vs x
 | [],vs=>by cases vs<;>rfl
 |_::_,[]=>rfl
 |k::ks,v::vs=>by
          rw[Ch];unfold look;by_cases e:k=x
          ·rw[if_pos e];exact nh (p:=(k,v)) e
          ·rw[if_neg e,ni (p:=(k,v)) e];exact qW x ks vs
theorem yq (x:κ):∀(ks:List κ) (ds:List α) {d:α},look ks ds x=some d->∃i:Nat,ks[i]?=some x/\ds[i]?=some d/\∀{β:Type}(es:List β),look ks es x=es[i]?
 | [],ds,d,h=>by cases ds<;>cases h
 |_::_,[],d,h=>by cases h
 |k::ks,e::ds,d,h=>by
          unfold look at h;by_cases q:k=x
          ·rw[if_pos q]at h;cases h;refine⟨0,by rw[q];rfl,rfl,fun es=>?_⟩
           cases es with
           |nil=>rfl
           |cons a es=>unfold look;rw[if_pos q];rfl
          ·rw[if_neg q]at h;obtain⟨i,a,b,c⟩:=yq x ks ds h;refine⟨i+1,a,b,fun es=>?_⟩
           cases es with
           |nil=>rfl
           |cons y es=>unfold look;rw[if_neg q,c es];rfl
theorem oS (x:κ):∀(ks:List κ) (ds:List α) {β:Type}(es:List β),ds.length=es.length->look ks ds x=none->look ks es x=none
 | [],ds,_,es,_,_=>by cases es<;>rfl
 |_::_,[],_,es,h,_=>by cases es with
  |nil=>rfl
  |cons _ _=>simp at h
 |k::ks,d::ds,_,[],h,_=>by simp at h
 |k::ks,d::ds,_,e::es,h,q=>by
          unfold look at q ⊢;by_cases z:k=x
          ·rw[if_pos z]at q;cases q
          ·rw[if_neg z]at q ⊢;exact oS x ks ds es (by simpa using h) q
theorem vB (x:κ) (y:α):∀(ks:List κ) (ds:List α),ks.length=ds.length->(bO ks ds x y).length=ds.length
 | [],[],_=>rfl
 |k::ks,d::ds,h=>by unfold bO;rw[xy,vB x y ks ds (by simpa using h)];rfl
 | [],_::_,h=>by simp at h
 |_::_,[],h=>by simp at h
theorem nA {ks:List κ}{ds:List α}(h:ks.length=ds.length) (k:κ) (d:α):(putL ks k).length=(cO ks ds k d).length :=by
 unfold putL cO;split
 ·rw[vB _ _ _ _ h,h]
 ·simp[h]
theorem vC (x:κ) (y:V):∀(ks:List κ) (vs:List V),ks.length=vs.length->(ks.zip vs).map (fun kv=>if kv.1=x then (kv.1,y) else kv)=ks.zip (bO ks vs x y)
 | [],[],_=>rfl
 |k::ks,d::ds,h=>by
          unfold bO;rw[Ch,Ch,lw,vC x y ks ds (by simpa using h)]
          congr 1
          dsimp only;split<;>rfl
 | [],_::_,h=>by simp at h
 |_::_,[],h=>by simp at h
theorem ua {ks:List κ}{vs:List V}(h:ks.length=vs.length) (k:κ) (v:V):putK (ks.zip vs) k v=(putL ks k).zip (cO ks vs k v) :=by
 have e:((ks.zip vs).any fun kv=>decide (kv.1=k))=decide (k∈ks) :=by
  rw[qR,qW];cases q:look ks vs k with
  |none=>exact(decide_eq_false ((iw h).mp q)).symm
  |some x=>
   have hm:k∈ks:=Classical.byContradiction fun z=>by rw[(iw h).mpr z]at q;cases q
   rw[decide_eq_true hm];rfl
 unfold putK putL cO;rw[e];by_cases q:k∈ks
 ·rw[if_pos (decide_eq_true q),if_pos q,if_pos q];exact vC k v ks vs h
 ·rw[if_neg (by rw[decide_eq_false q];exact ij),if_neg q,if_neg q,List.zip_append h]
  rfl
end
section
variable {β:Bz}{M:Mh}{H:Hp}{κ:Type} [DecidableEq κ]
theorem vD (x:κ) {v:V}{d:Dv}(r:Rz β M H v d):∀(ks:List κ) (vs:List V) (ds:List Dv),aH β M H vs ds->aH β M H (bO ks vs x v) (bO ks ds x d)
 | [],_,_,_=>by
          unfold bO;exact .nil
 |_::_,[],[],_=>.nil
 |_::_,[],_::_,h=>absurd h.len (by simp)
 |_::_,_::_,[],h=>absurd h.len (by simp)
 |k::ks,u::vs,e::ds,h=>by
          unfold bO;refine .cons ?_ (vD x r ks vs ds h.tail);split
          ·exact r
          ·exact h.head
theorem nB (x:κ) {v:V}{d:Dv}(r:Rz β M H v d) {ks:List κ}{vs:List V}{ds:List Dv}(h:aH β M H vs ds):aH β M H (cO ks vs x v) (cO ks ds x d) :=by
 unfold cO;split
 ·exact vD x r ks vs ds h
 ·exact h.snoc r
theorem yr {ks:List κ}{vs:List V}{ds:List Dv}(rs:aH β M H vs ds) {x:κ}{o:Option Dv}(h:look ks ds x=o):∃ov,jT (ks.zip vs) x=ov/\ov.isSome=o.isSome/\∀r,o=some r->∃v,ov=some v/\Rz β M H v r :=by
 rw[qW];cases o with
 |none=>exact⟨none,oS x ks ds vs rs.len.symm h,rfl,fun r e=>nomatch e⟩
 |some r=>
  obtain⟨i,a,b,c⟩:=yq x ks ds h;obtain⟨v,hv,rv⟩:=rs.get b;exact⟨some v,(c vs).trans hv,rfl,fun r' e=>by cases e;exact⟨v,rfl,rv⟩⟩
end
def keyD:Dv->Option Key
 | .int i=>some (.inl i)
 | .str z=>some (.inr z)
 |_=>none
def iR:List Dv->Option (List Key)
 | []=>some []
 |d::ds=>match keyD d,iR ds with|some k,some ks=>some (k::ks)|_,_=>none
theorem sL:∀(ns:List Int),iR (ns.map Dv.int)=some (ns.map uu)
 | []=>rfl
 |n::ns=>by rw[lw,iR,sL ns];rfl
def nowK (M:Mh):Dv->Dv
 | .ptr a=>match M a with|some (.dk ks ds)=>.dk ks ds|some (.dt ks ds)=>.dt ks ds|_=>.ptr a
 |d=>d
def lookD (M:Mh) (d e:Dv):Option (Option Dv):=match nowK M d with
 | .dk ks ds=>(match keyD e with|some k=>some (look ks ds k)|none=>none)
 | .dt ks ds=>(match e with | .tup es=>(match iR es with|some k=>some (look ks ds k)|none=>none)|_=>none)
 |_=>none
section
variable {X:Cx}{Γ:Gz}{β:Bz}{K:bn}{M:Mh}{H:Hp}
theorem pR {y:V}{e:Dv}{k:Key}(r:Rz β M H y e) (h:keyD e=some k):y=kV k :=by
 cases e with
 |int i=>cases h;exact aL r
 |str z=>cases h;exact cp r
 |_=>cases h
theorem k6:∀{es:List Dv}{ks:List Key}{vs:List V},aH β M H vs es->iR es=some ks->vs=ks.map kV
 | [],ks,vs,rs,h=>by
          cases h;cases vs with
          |nil=>rfl
          |cons _ _=>exact absurd rs.len (by simp)
 |e::es,ks,[],rs,h=>absurd rs.len (by simp)
 |e::es,ks,v::vs,rs,h=>by
          unfold iR at h;split at h
          ·rename_i k S2 h1 h2;cases h;rw[lw,pR rs.head h1,k6 rs.tail h2]
          ·cases h
theorem pS (m:Mz β M H) {x:V}{d:Dv}(r:Rz β M H x d):(∀ks ds,nowK M d=.dk ks ds->∃a vs,x=.ref a/\Rd H a (.dK (ks.zip vs))/\ks.length=vs.length/\aH β M H vs ds) /\
  (∀ks ds,nowK M d=.dt ks ds->∃a vs,x=.ref a/\Rd H a (.dT (ks.zip vs))/\ks.length=vs.length/\aH β M H vs ds) :=by
 cases r with
 |dk f e hk hl h=>exact⟨fun ks ds q=>(by cases q;exact⟨_,_,rfl,e,hk,hl,h⟩),fun ks ds q=>by cases q⟩
 |dt f e hk hl h=>exact⟨fun ks ds q=>(by cases q),fun ks ds q=>by cases q;exact⟨_,_,rfl,e,hk,hl,h⟩⟩
 | @ptr a hs=>
  simp only[nowK];cases q2:M a with
  |none=>rw[q2]at hs;cases hs
  |some o=>
   have q:=m.obj a o q2;cases o with
   |dk ks ds=>obtain⟨vs,e,hk,rs⟩:=q;exact⟨fun ks ds q=>(by cases q;exact⟨_,_,rfl,.inl e,hk,rs⟩),fun ks ds q=>by cases q⟩
   |dt ks ds=>obtain⟨vs,e,hk,rs⟩:=q;exact⟨fun ks ds q=>(by cases q),fun ks ds q=>by cases q;exact⟨_,_,rfl,.inl e,hk,rs⟩⟩
   |_=>exact⟨fun ks ds q=>(by cases q),fun ks ds q=>by cases q⟩
 |_=>exact⟨fun ks ds q=>(by cases q),fun ks ds q=>(by cases q)⟩
theorem nC (m:Mz β M H) {x y:V}{d e:Dv}{o:Option Dv}(r:Rz β M H x d) (re:Rz β M H y e) (h:lookD M d e=some o):∃a ov,x=.ref a/\mD H a y ov/\ov.isSome=o.isSome/\∀r,o=some r->∃v,ov=some v/\Rz β M H v r :=by
 unfold lookD at h;obtain⟨h1,h2⟩:=pS m r;split at h
 ·rename_i ks ds q;obtain⟨a,vs,rfl,ha,hk,rs⟩:=h1 ks ds q;split at h
  ·rename_i k sM;rw[pR re sM];obtain⟨ov,e1,e2,e3⟩:=yr rs (gl h);subst e1;exact⟨a,_,rfl,.inl ⟨_,k,ha,rfl,rfl⟩,e2,e3⟩
  ·cases h
 ·rename_i ks ds q;obtain⟨a,vs,rfl,ha,hk,rs⟩:=h2 ks ds q;split at h
  ·split at h
   ·rename_i k sM;obtain⟨b,us,rfl,_,hb,ru⟩:=dq re;rw[k6 ru sM]at hb;obtain⟨ov,e1,e2,e3⟩:=yr rs (gl h);subst e1;exact⟨a,_,rfl,.inr ⟨_,k,b,ha,rfl,hb,rfl⟩,e2,e3⟩
   ·cases h
  ·cases h
 ·cases h
def zGetR:fi:=fun d e M Q=>match lookD M d e with|some (some r)=>Q r M|_=>False
theorem mY {a b:db}{pa pb:aI}{pos:u4}(hu:X.A.units+64<cLine) (ha:QE Γ X a pa) (hb:QE Γ X b pb) (hs:Ha b):QE Γ X (.Subscript a b pos) (zOp zGetR pa pb):=
 (Kw (by omega) ha hb hs).imp fun σ H Q ⟨β,ρ,M,Q',zr,h,q⟩=>⟨β,ρ,M,_,zr,h,fun d M1 v H1 x1 r1 h1=>⟨β,ρ,M1,_,zr.step x1,h1,fun e M2 u H2 x2 r2 h2=>by
  unfold zGetR at h2;split at h2
  ·rename_i r hl;obtain⟨a,ov,rfl,g,_,e3⟩:=nC x2.mz (r1.ex x2) r2 hl;obtain⟨w,rfl,fV⟩:=e3 r rfl;exact⟨a,w,rfl,g,q _ _ _ _ (x1.trans x2) fV h2⟩
  ·exact h2.elim⟩⟩
def zDIn (neg:Bool):fi:=fun e d M Q=>match lookD M d e with|some o=>Q (.bl (if neg then !o.isSome else o.isSome)) M|none=>False
def OD (neg:Bool):R2:=fun y x H Q=>∃a o,x=.ref a/\mD H a y o/\Q (.bl (if neg then !o.isSome else o.isSome)) H
theorem KQ {neg:Bool}:sv Γ (OD neg) (zDIn neg):=fun β x y d e M H Q Q' _ _ _ m rx ry z q=>by
 unfold zDIn at z;split at z
 ·rename_i o hl;obtain⟨a,ov,rfl,g,e2,_⟩:=nC m ry rx hl;refine⟨a,ov,rfl,g,?_⟩;rw[e2];exact q _ _ _ _ (.refl m) (.bl _) z
 ·exact z.elim
theorem yt (hu:X.A.units+64<cLine):eC Γ X (compareOp .NotIn) (zDIn true):=⟨OD true,fun pins s σ H x y v u Q I rx ry ⟨a,o,e,g,q⟩=>by
 subst e;cases (show u=l7 a from ry);exact Ku (by omega) I g rx fun s3 I3=>⟨.bl (!o.isSome),H,I3,rfl,q⟩,KQ⟩
def zMGet:oP:=fun d ds M Q=>match ds with
 | [e]=>(match lookD M d e with|some o=>Q (o.getD .ax) M|none=>False)
 | [e,z]=>(match lookD M d e with|some o=>Q (o.getD z) M|none=>False)
 |_=>False
def Rr:V->List V->Hp->VK->Prop:=fun x xs H Q=>(∃a y o,x=.ref a/\xs=[y]/\mD H a y o/\Q (o.getD .ax) H)\/∃a y z o,x=.ref a/\xs=[y,z]/\mD H a y o/\Q (o.getD z) H
theorem EX (hu:X.A.units+64<cLine):ym Γ X "dict" "dict.get" K zMGet:=⟨Rr,fun pins s σ H x xs v us Q I rx rs h=>by
 rcases h with ⟨a,y,o,rfl,rfl,g,q⟩|⟨a,y,z,o,rfl,rfl,g,q⟩
 ·cases (show v=l7 a from rx);cases rs with
  |cons r1 rs=>cases rs;exact N6 (by omega) I g r1 fun w' s3 I3 fV=>⟨_,H,I3,fV,q⟩
 ·cases (show v=l7 a from rx);cases rs with
  |cons r1 rs=>cases rs with
   |cons r2 rs=>cases rs;exact N7 (by omega) I g r1 r2 fun w' s3 I3 fV=>⟨_,H,I3,fV,q⟩,fun β x xs d ds M H Q Q' _ _ _ m rx rs z q=>by
 unfold zMGet at z;split at z
 ·split at z
  ·rename_i o hl;obtain⟨y,rfl,ry⟩:=dy rs;obtain⟨a,ov,rfl,g,e2,e3⟩:=nC m rx ry hl;refine .inl ⟨a,y,ov,rfl,rfl,g,?_⟩;cases o with
   |none=>cases ov with
    |none=>exact q _ _ _ _ (.refl m) .ax z
    |some _=>cases e2
   |some r=>
    obtain⟨w,rfl,fV⟩:=e3 r rfl;exact q _ _ _ _ (.refl m) fV z
  ·exact z.elim
 ·split at z
  ·rename_i o hl;obtain⟨y,u,rfl,ry,ru⟩:=mV rs;obtain⟨a,ov,rfl,g,e2,e3⟩:=nC m rx ry hl;refine .inr ⟨a,y,u,ov,rfl,rfl,g,?_⟩;cases o with
   |none=>cases ov with
    |none=>exact q _ _ _ _ (.refl m) ru z
    |some _=>cases e2
   |some r=>
    obtain⟨w,rfl,fV⟩:=e3 r rfl;exact q _ _ _ _ (.refl m) fV z
  ·exact z.elim
 ·exact z.elim⟩
end
section
variable {β:Bz}{M:Mh}{H:Hp}{D:al}{o':Mo}{u:HO}
theorem KR {v:V}{d:Dv}(r:Rz (β.add D) M H v d):Rz β (au M D o') (upd H D u) v d :=by
 have na:∀a,Fz (β.add D) M a->a≠D:=fun a f z=>f.2 (by rw[z];exact gc)
 have ne:∀a,Fz (β.add D) M a->Fz β (au M D o') a:=fun a f=>⟨by rw[ao (na a f)];exact f.1,fun z=>f.2 (c8 _ z)⟩
 have pre:∀a x,Fz (β.add D) M a->H a=some x->upd H D u a=some x:=fun a x f e=>by rw[ah (na a f)];exact e
 induction r with
 |int i=>exact .int i
 |bl b=>exact .bl b
 |ax=>exact .ax
 |str z=>exact .str z
 |tup m e hl h ih=>exact .tup (ne _ m) (pre _ _ m e) hl ih
 |lst m e hl h ih=>exact .lst (ne _ m) (pre _ _ m e) hl ih
 |dk m e hk hl h ih=>exact .dk (ne _ m) (e.map fun _ h=>pre _ _ m h) hk hl ih
 |dt m e hk hl h ih=>exact .dt (ne _ m) (e.map fun _ h=>pre _ _ m h) hk hl ih
 |bZ m e m2 e2 hl h ih=>exact .bZ (ne _ m) (pre _ _ m e) (ne _ m2) (pre _ _ m2 e2) hl ih
 |set m e=>exact .set (ne _ m) (pre _ _ m e)
 |ptr m=>exact .ptr (by unfold au;split;rfl;exact m)
 |exc m e=>exact .exc (ne _ m) (pre _ _ m e)
 |bR m e=>exact .bR (ne _ m) (pre _ _ m e)
 |cW m e=>exact .cW (ne _ m) (pre _ _ m e)
 |cY e=>exact .cY e
 |raw v=>exact .raw v
theorem jl {vs:List V}{ds:List Dv}(r:aH (β.add D) M H vs ds):aH β (au M D o') (upd H D u) vs ds:=⟨r.len,fun i v d a b=>KR (r.at' i v d a b)⟩
theorem Ex.yu {M2:Mh}{H2:Hp}{o:HO}(x:Ex β M H M2 H2) (hD:D∈β.hid) (m:M D=none) (h:H D=some o) (ho:iN o=true):H2 D=some o :=by
 rcases x.keep D o m h with q|⟨o',t,q⟩
 ·exact q
 ·rcases t with ⟨_,_,rfl,_⟩|⟨_,_,rfl,_⟩|⟨_,ob,rfl⟩
  ·cases ho
  ·cases ho
  ·obtain⟨w,e,n⟩:=x.mz.hids D hD;rw[q]at e;cases e;cases n
theorem Mz.Hr (m:Mz (β.add D) M H) (hM:M D=none) (hD:D ∉ β.hid) (nt:D ∉ β.tb) (hu:oH u=true) (r:jH β (au M D o') (upd H D u) D o'):Mz β (au M D o') (upd H D u) :=by
 obtain⟨oD,eD,nD⟩:=m.hids D gc;refine⟨fun a o e=>?_,fun q hq=>?_,fun a ha=>(m.hids a (c8 _ ha)).upd (.inr hu),fun a o e z=>?_,fun q hq=>?_⟩
 ·by_cases ha:a=D
  ·subst ha;rw[updM_same]at e;cases e;exact r
  ·rw[ao ha]at e;have z:=m.obj a o e;cases o with
   |lst ds=>obtain⟨vs,z,rs⟩:=z;exact⟨vs,by rw[ah ha];exact z,jl rs⟩
   |dk ks ds=>obtain⟨vs,z,hk,rs⟩:=z;exact⟨vs,by rw[ah ha];exact z,hk,jl rs⟩
   |dt ks ds=>obtain⟨vs,z,hk,rs⟩:=z;exact⟨vs,by rw[ah ha];exact z,hk,jl rs⟩
   |c6=>obtain⟨c,n,z,q⟩:=z;exact⟨c,n,by rw[ah ha];exact z,q⟩
 ·obtain⟨ps,e,t⟩:=m.tabs q hq;exact⟨ps,by rw[ah (show q≠D from fun z=>nt (by rw[<- z];exact hq))];exact e,t⟩
 ·by_cases ha:a=D
  ·exact hD (ha▸z)
  ·rw[ao ha]at e;exact m.apart a o e (c8 _ z)
 ·exact(m.lams q hq).keep (fun _ e=>by rw[ah (fun z=>by subst z;rw[eD]at e;cases e;cases nD)];exact e) fun c _ _ e=>by rw[ah (fun z=>by subst z;rw[eD]at e;cases e;cases nD)];exact e
end
section
variable {X:Cx}{pos:u4}
def KS (tk tv:TE):TE:=fun σ H Q=>∀p,H p=none->tk σ (upd H p (.dT [])) fun x H1=>tv σ H1 fun y H2=>H2 p=some (.dT [])/\∃b k,x=.ref b/\H2 b=some (.tup (k.map kV))/\Q (.ref p) (upd H2 p (.dT [(k,y)]))
theorem EY {k v:db}{tk tv:TE}(hu:X.A.units+1<cLine) (hk:PE X k tk) (hv:PE X v tv):PE X (.Dict [some k] [v] pos) (KS tk tv) :=by
 refine⟨?_⟩;intro pins s σ H Q I q;have hn:=I.hok.fresh (cb s.heap.objs.size);have I1:=I.laid (a:=s.heap.objs.size) (o:=.dT []) (h':=s.heap.push {cls:=.type "dict",data:=.dict #[]}) (t':=s.toks) (fun _ _ q=>ba _ q) (cb _) (xY s.heap I.big)
 refine wpAny_Dict_any rfl rfl (by simp) (by simp) (pairTrees_cons_walk (thn (hk pins _ σ _ _ I1 (q _ hn)) fun w1 s2 ⟨x,H1,I2,rx,q1⟩=>thn (hv pins s2 σ H1 _ I2 q1) fun w2 s3 ⟨y,H2,I3,ry,hp,b,ks,ex,hb,q2⟩=>pairTrees_nil_walk ?_))
 subst ex;cases (show w1=l7 b from rx);unfold storeAll;rw[YM];obtain⟨z,hd,xs,rel,dd⟩:=BW I3.hok hp;cases rel;refine ag (ag (wpAny_dictSet_heap (knd:=tupleKind (bA X.prog X.w)) (by show X.A.units<cLine;omega) (jG I3.hok hb) dd (fun h' lR hs=>bi ?_) (by simp)))
 dsimp only;rw[List.forIn_nil];refine bi ⟨.ref s.heap.objs.size,_,?_,rfl,q2⟩;obtain⟨o,es,ep,ho,h2,h3,h4,h5,h6⟩:=lR;have he:storedH ([]:List (List Key×al×am)) ks b w2=[(ks,b,w2)]:=rfl;rw[he]at h4 h6;refine kg I3 (by rw[hp];exact IR) hs ⟨o,ho⟩ ⟨by show 1<=sizeLine;decide,hd,[(ks,b,w2)],.cons ⟨rfl,?_,ry⟩ .nil,o,es,ep,ho,h2,h3,h4,h6⟩
 rw[ah (wu hb hp (by intro z;cases z))]
 exact hb
end
section
variable {X:Cx}{Γ:Gz}{β:Bz}{K:bn}
def zDNewK:aI:=fun _ M Q=>∀a,M a=none->Q (.ptr a) (au M a (.dk [] []))
def zDNewT:aI:=fun _ M Q=>∀a,M a=none->Q (.ptr a) (au M a (.dt [] []))
theorem yw {pos:u4}:QE Γ X (.Dict [] [] pos) zDNewK:=Hc.imp fun σ H Q ⟨β,ρ,M,Q',zr,h,q⟩ p hp=>
 q _ _ _ _ (Ex.Oa (ks:=[]) (vs:=[]) (ds:=[]) zr.mz (.inr hp) rfl .nil) (.ptr (by rw[updM_same];rfl)) (h p (zr.mz.free hp))
theorem Hs {pos:u4}:QE Γ X (.Dict [] [] pos) zDNewT:=Hd.imp fun σ H Q ⟨β,ρ,M,Q',zr,h,q⟩ p hp=>
 q _ _ _ _ (Ex.Ob (ks:=[]) (vs:=[]) (ds:=[]) zr.mz (.inr hp) rfl .nil) (.ptr (by rw[updM_same];rfl)) (h p (zr.mz.free hp))
def zDisp1K (pk pv:aI):aI:=fun ρ M Q=>pk ρ M fun e M1=>pv ρ M1 fun v M2=>match keyD e with|some k=>∀a,M2 a=none->Q (.ptr a) (au M2 a (.dk [k] [v]))|none=>False
def zDisp1T (pk pv:aI):aI:=fun ρ M Q=>pk ρ M fun e M1=>pv ρ M1 fun v M2=>match e with | .tup es=>(match iR es with|some k=>∀a,M2 a=none->Q (.ptr a) (au M2 a (.dt [k] [v]))|none=>False)|_=>False
theorem AB {M M2:Mh}{H H2:Hp}{D:al}{o:HO}{o':Mo}{u:HO}(hD:H D=none) (x:Ex (β.add D) M (upd H D o) M2 H2) (mz:Mz β (au M2 D o') (upd H2 D u)):Ex β M H (au M2 D o') (upd H2 D u) :=by
 have ey:Ey M H M2 (upd H2 D u):=((Ey.refl (M:=M) (H:=H)).over (o:=o) hD |>.trans x.toEy).over hD
 exact⟨⟨ey.keep,fun a h=>by unfold au;split;rfl;exact ey.dom a h,fun a w m e=>by rw[ao (bh e hD)];exact ey.new a w m e⟩,mz⟩
theorem EZ {k v:db}{pk pv:aI}{pos:u4}(hk:QE Γ X k pk) (hv:QE Γ X v pv):QE Γ X (.Dict [some k] [v] pos) (zDisp1K pk pv):=
 (Kz (He hk hv Ky) rfl rfl (by simp) (by simp)).imp fun σ H Q ⟨β,ρ,M,Q',zr,h,q⟩ p hp=>by
  have z1:=zr.enter hp (o:=.dK []) rfl;refine⟨β.add p,ρ,M,_,z1,h,fun e M1 y H1 x1 r1 h1=>⟨β.add p,ρ,M1,_,z1.step x1,h1,fun d M2 w H2 x2 r2 h2=>?_⟩⟩
  have dI:=x1.trans x2;have E1:M p=none:=zr.mz.free hp;have e2:H2 p=some (.dK []):=dI.yu gc E1 aB rfl;have E2:M2 p=none:=dI.new p _ E1 aB;refine⟨e2,?_⟩;split at h2
  ·rename_i kk OG;refine⟨[(kk,w)],by rw[pR (r1.ex x2) OG];rfl,by simp,?_⟩
   have e:mR [] [(kk,w)]=[kk].zip [w]:=rfl;rw[e];refine q _ _ _ _ (AB (o':=.dk [kk] [d]) hp dI (dI.mz.Hr E2 (zr.mz.fz hp).2 (zr.mz.yb hp) rfl ⟨[w],aB,rfl,jl (.cons r2 .nil)⟩)) (.ptr (by rw[updM_same];rfl)) (h2 p E2)
  ·exact h2.elim
theorem vE {k v:db}{pk pv:aI}{pos:u4}(hu:X.A.units+64<cLine) (hk:QE Γ X k pk) (hv:QE Γ X v pv):QE Γ X (.Dict [some k] [v] pos) (zDisp1T pk pv):=
 (EY (by omega) hk hv).imp fun σ H Q ⟨β,ρ,M,Q',zr,h,q⟩ p hp=>by
  have z1:=zr.enter hp (o:=.dT []) rfl;refine⟨β.add p,ρ,M,_,z1,h,fun e M1 y H1 x1 r1 h1=>⟨β.add p,ρ,M1,_,z1.step x1,h1,fun d M2 w H2 x2 r2 h2=>?_⟩⟩
  have dI:=x1.trans x2;have E1:M p=none:=zr.mz.free hp;have e2:H2 p=some (.dT []):=dI.yu gc E1 aB rfl;have E2:M2 p=none:=dI.new p _ E1 aB;refine⟨e2,?_⟩;split at h2
  ·split at h2
   ·rename_i es kk OG;obtain⟨b,us,rfl,_,hb,ru⟩:=dq (r1.ex x2);rw[k6 ru OG]at hb;refine⟨b,kk,rfl,hb,?_⟩;refine q _ _ _ _ (AB (o':=.dt [kk] [d]) (u:=.dT ([kk].zip [w])) hp dI (dI.mz.Hr E2 (zr.mz.fz hp).2 (zr.mz.yb hp) rfl ⟨[w],aB,rfl,jl (.cons r2 .nil)⟩)) (.ptr (by rw[updM_same];rfl)) (h2 p E2)
   ·exact h2.elim
  ·exact h2.elim
def zDPut (pd pk pv:aI):cu:=fun D ρ M=>pv ρ M fun v M1=>pd ρ M1 fun d M2=>pk ρ M2 fun e M3=>match d with
 | .ptr a=>(match M3 a with
  |some (.dk ks ds)=>(match keyD e with|some k=>ks.length<sizeLine/\D.nx ρ (au M3 a (.dk (putL ks k) (cO ks ds k v)))|none=>False)
  |some (.dt ks ds)=>(match e with | .tup es=>(match iR es with|some k=>ks.length<sizeLine/\D.nx ρ (au M3 a (.dt (putL ks k) (cO ks ds k v)))|none=>False)|_=>False)
  |_=>False)
 |_=>False
theorem pT {o i value:db}{pd pk pv:aI}{pos pos':u4}(hu:X.A.units+64<cLine) (ho:QE Γ X o pd) (hi:QE Γ X i pk) (hv:QE Γ X value pv) (hs:swapsWith value (some (.Subscript o i pos')) pos.line X.env=pure false :=by rfl) :
  QS Γ X (.Assign [.Subscript o i pos'] value pos) (zDPut pd pk pv):=(Kx (by omega) ho hi hv hs).imp fun D σ H ⟨β,ρ,M,D',zr,h,r⟩=>⟨β,ρ,M,_,zr,h,fun v M1 vv H1 x1 r1 h1=>⟨β,ρ,M1,_,zr.step x1,h1,fun d M2 dv H2 x2 r2 h2=>
   ⟨β,ρ,M2,_,(zr.step x1).step x2,h2,fun e M3 ev H3 x3 r3 h3=>by
 have z3:=((zr.step x1).step x2).step x3;have kO:=x1.trans (x2.trans x3);have rv:=(r1.ex x2).ex x3;split at h3
 ·rename_i a;obtain⟨rfl,hs⟩:=bL r2;split at h3
  ·rename_i ks ds hM;obtain⟨vs,ha,hk,rs⟩:=x3.mz.obj a _ hM;split at h3
   ·rename_i k sM;obtain⟨hl,h3⟩:=h3;have hp:(M3 a).isSome=true :=by rw[hM];rfl
    have x4:Ex β M3 H3 (au M3 a (.dk (putL ks k) (cO ks ds k v))) (upd H3 a (.dK ((putL ks k).zip (cO ks vs k vv)))):=Ex.Oa x3.mz (.inl hp) (nA hk k vv) (nB k rv rs);refine⟨a,_,rfl,.inl ⟨_,k,ha,pR r3 sM,by rw[BS,<- hk,ET];exact hl,rfl⟩,?_⟩
    rw[ua hk];exact r.nx _ _ _ _ (kO.trans x4).ev (z3.step x4) h3
   ·exact h3.elim
  ·rename_i ks ds hM;obtain⟨vs,ha,hk,rs⟩:=x3.mz.obj a _ hM;split at h3
   ·split at h3
    ·rename_i k sM;obtain⟨hl,h3⟩:=h3;obtain⟨b,us,rfl,_,hb,ru⟩:=dq r3;rw[k6 ru sM]at hb;have hp:(M3 a).isSome=true :=by rw[hM];rfl
     have x4:Ex β M3 H3 (au M3 a (.dt (putL ks k) (cO ks ds k v))) (upd H3 a (.dT ((putL ks k).zip (cO ks vs k vv)))):=Ex.Ob x3.mz (.inl hp) (nA hk k vv) (nB k rv rs);refine⟨a,_,rfl,.inr ⟨_,k,b,ha,rfl,hb,by rw[BS,<- hk,ET];exact hl,rfl⟩,?_⟩
     rw[ua hk];exact r.nx _ _ _ _ (kO.trans x4).ev (z3.step x4) h3
    ·exact h3.elim
   ·exact h3.elim
  ·exact h3.elim
 ·exact h3.elim⟩⟩⟩
end
def g9 (X:Cx):br:=X.env.qual ++ "<lambda>"
structure OH (X:Cx) (params:OK) (body:db) (scope:ul) (o:i8) (c:al) (oc:i8) (aY:List (br×al)):Prop where
 cells:∀n a,aY.lookup n=some a->X.env.cells.lookup n=some a
 has:∀n,(n,qr)∈scope.names->∃a,aY.lookup n=some a
 obj:∃jX,o=Pd "<lambda>" (g9 X) params body scope aY ((X.mg "__name__").getD .none) c jX
 code:∃vs t,oc.data=.fields vs/\vs[1]?=some (YE (g9 X) t)
structure OI (X:Cx) (P:al) (H H2:Hp) (f:al) (o:i8) (c:al) (oc:i8):Prop where
 new:H f=none
 at':∃u,H2 f=some (.bQ o u)
 cd:∃u,H2 c=some (.bQ oc u)
 lm:Lm H2 (P,g9 X)
 keep:∀b u,H b=some u->b≠P->H2 b=some u
 tab:∃ps,H P=some (.lam ps)
def UA (X:Cx) (P:al) (params:OK) (body:db) (scope:ul):TE:=fun _ H Q=>Lm H (P,g9 X)/\∀f o c oc aY H2,OH X params body scope o c oc aY->OI X P H H2 f o c oc->Q (.ref f) H2
def k7 (a:al) (o:i8):HO:=.bQ o (.ext fun h=>h.get? a=some o)
theorem yx {P:en}{w:ii}{H:Hp}{h:hX}{a:al}{o:i8}(e:h.get? a=some o):ObjOk P w H h a (k7 a o):=⟨e,e,⟨o,e⟩,fun _ _ x k=>k o x⟩
theorem E3 {a b c cv:am}{pos:u4}(l:List am) (h:ON l) (e:codeAmong pos (l++[a,b,c])=some cv):codeAmong pos l=some cv\/cv=c :=by
 induction l using TriplesOk.induct with
 |case1=>
  right;simp only[GT]at e;unfold codeAmong at e;split at e
  ·rename_i heq;cases heq;split at e
   ·exact(gl e).symm
   ·simp[codeAmong]at e
  ·cases e
 |case2 x tx y ty z rest ih=>
  simp only[ZI,codeAmong]at e ⊢;split at e
  ·rename_i q;rw[if_pos q];exact .inl e
  ·rename_i q;rw[if_neg q];exact ih h e
 |case3 l n1 n2=>
  exfalso
  unfold ON at h;split at h
  ·exact n1 rfl
  ·exact n2 _ _ _ _ _ _ rfl
  ·exact h
section
variable {X:Cx}{params:OK}{body:db}{scope:ul}{pos:u4}{P cX:al}
theorem B9 {pins:List (al×i8)}{s:ar}{σ:St}{H:Hp}{h':hX}{o:i8}(I:Inv X pins σ H s) (hk:∀b u,s.heap.get? b=some u->h'.get? b=some u) (hsz:s.heap.objs.size<=h'.objs.size) (hc:o.isFreed=false) (tk:Nat) :
  Inv X pins σ (upd H h'.objs.size (k7 h'.objs.size o)) {s with heap:=h'.push o,toks:=tk}:=
 I.laid (a:=h'.objs.size) (o:=k7 h'.objs.size o) (t':=tk) (fun b u e=>ba _ (hk b u e)) hsz (yx (ci _ hc))
theorem Ca {pins:List (al×i8)}{s:ar}{σ:St}{H:Hp}{h':hX}{o oc:i8}{c:al}{ps iK:Array am}(I:Inv X pins σ H s) (hP:H P=some (.lam ps)) (hx:Yu P s.heap h') (yy:s.heap.objs.size<=c) (aQ:c<h'.objs.size) (uJ:h'.get? c=some oc)
  (Jh:h'.get? P=some {cls:=.none,data:=.fields iK}) (hc:o.isFreed=false) (tk:Nat) :
  Inv X pins σ (upd (upd (upd H P (.lam iK)) c (k7 c oc)) h'.objs.size (k7 h'.objs.size o)) {s with heap:=h'.push o,toks:=tk}:=by
 have OJ:P<s.heap.objs.size:=(I.hok P _ hP).lt;have hsz:s.heap.objs.size<=h'.objs.size:=OL (BB yy aQ);have old:∀b,b<s.heap.objs.size->b≠P->upd (upd (upd H P (.lam iK)) c (k7 c oc)) h'.objs.size (k7 h'.objs.size o) b=H b:=fun b hb n=>by
  rw[ah (i4 (lc hb hsz)),ah (i4 (lc hb yy)),ah n]
 have XI:upd (upd (upd H P (.lam iK)) c (k7 c oc)) h'.objs.size (k7 h'.objs.size o) P=some (.lam iK) :=by
  rw[ah (i4 (lc OJ hsz)),ah (i4 (lc OJ yy)),aB]
 have k:∀b u,b≠P->s.heap.get? b=some u->(h'.push o).get? b=some u:=fun b u n e=>ba _ (hx b u n e)
 have E4:∀b u,H b=some u->b<s.heap.objs.size:=fun b u e=>(I.hok b u e).lt
 have nP:∀b,H b=none->b≠P:=fun b e z=>by rw[z,hP]at e;cases e
 have nT:∀b u,H b=some u->(∀ps,u≠.lam ps)->b≠P:=fun b u e n z=>by rw[z,hP]at e;cases e;exact n _ rfl
 refine I.un ⟨fun b u q n _ _=>k b u (nP b n) q,fun b u q n _ _=>⟨u.slots,k b u (nP b n) q⟩,fun b u q n _=>by rw[old b (ff q) (nP b n)];exact n,fun b u q _=>?_,fun b xs q=>by rw[old b (E4 b _ q) (nT b _ q (by intro _ z;cases z))];exact q,
  fun b u xs q=>by rw[old b (E4 b _ q) (nT b _ q (by intro _ z;cases z))];exact q,fun b qs q=>⟨#[],by rw[old b (E4 b _ q) (nT b _ q (by intro _ z;cases z)),q];simp⟩⟩ fun b u q=>?_
 ·by_cases e:b=P
  ·subst e;exact⟨_,ba _ Jh⟩
  ·exact⟨u,k b u e q⟩
 ·by_cases e1:b=h'.objs.size
  ·subst e1;rw[aB]at q;cases q;exact yx (ci _ hc)
  ·rw[ah e1]at q;by_cases e2:b=c
   ·subst e2;rw[aB]at q;cases q;exact yx (ba _ uJ)
   ·rw[ah e2]at q;by_cases e3:b=P
    ·subst e3;rw[aB]at q;cases q;exact ba _ Jh
    ·rw[ah e3]at q;refine(I.hok b u q).cE (fun a v hc q=>k a v ?_ q) (fun a z=>?_) fun a xs z=>?_
     ·rcases hc with z|z
      ·rw[z];exact e3
      ·exact nT a _ z (by intro _ w;cases w)
     ·rw[old a (E4 a _ z) (nT a _ z (by intro _ w;cases w))];exact z
     ·rw[old a (E4 a _ z) (nT a _ z (by intro _ w;cases w))];exact z
theorem OM (gS:X.env.code=.ref cX) (hd:wb X.base cX P) (eU:∃bm ob,Y9 X.base mainGlobals X.mg bm ob) (wM:defaultsOf params X.env=([],[]))
  (pI:∀n,(n,qr)∈scope.names->X.env.kindOf n=some .cell\/X.env.kindOf n=some .free):PE X (.Lambda params body scope pos) (UA X P params body scope) :=by
 refine⟨?_⟩;intro pins s σ H Q I ⟨⟨ps,hP,ou,yp⟩,q⟩;obtain⟨aY,fO,cA,dN⟩:=fk (scope:=scope) (env:=X.env) fun n hn=>I.ok.has n (pI n hn)
 have xj:s.heap.get? P=some (PM ps):=I.hok P _ hP;obtain⟨bm,ob,bmod⟩:=eU;have ig:=bmod.keeps I.bk;have V6:mainGlobals≠P:=fun z=>by
  obtain⟨o,es,ep,e,hd,_⟩:=ig.ns;rw[z,xj]at e;cases e;cases hd
 have V7:bm≠P:=fun z=>by
  have e:=ig.obj;have e2:=ig.data;rw[z,xj]at e;cases e;cases e2
 have V8:bm≠mainGlobals:=fun z=>by
  obtain⟨o,es,ep,e,hd,_⟩:=ig.ns;have e1:=ig.obj;have e2:=ig.data;rw[z,e]at e1;cases e1;rw[hd]at e2;cases e2
 have hb:s.heap.BuiltinsAt X.mg P:=⟨bm,ob,ig.name,ig.ne,V8,V7,ig.obj,ig.cls,ig.dict,ig.data⟩;refine PySem.W.kla_eval wM ?_;cases hq:codeAmong pos ps.toList with
 |some cv=>
  obtain⟨c,oc,uc,vs,t,rfl,ec,d1,d2⟩:=yp pos cv hq;refine PySem.W.kla_makeFunctionHit (mg:=X.mg) fO I.ok.glob (I.mod.glob.keeps I.bk) gS (hd.keeps I.bk) xj ou hq hb fun jX h' tk hk hsz=>?_
  have hf:H h'.objs.size=none:=I.hok.fresh hsz;have pre:∀b u,H b=some u->upd H h'.objs.size (k7 h'.objs.size (Pd "<lambda>" (g9 X) params body scope aY ((X.mg "__name__").getD .none) c jX)) b=some u:=fun b u e=>by rw[ah (bh e hf)];exact e
  refine⟨.ref h'.objs.size,_,B9 I hk hsz (o:=Pd "<lambda>" (g9 X) params body scope aY ((X.mg "__name__").getD .none) c jX) rfl tk,rfl,q _ _ c oc aY _ ⟨cA,dN,⟨jX,rfl⟩,⟨vs,t,d1,d2⟩⟩ ⟨hf,⟨_,aB⟩,⟨uc,pre _ _ ec⟩,Lm.keep ⟨ps,hP,ou,yp⟩ (fun _ e=>pre _ _ e) fun _ _ _ e=>pre _ _ e,fun b u e _=>pre b u e,⟨ps,hP⟩⟩⟩
 |none=>
  refine PySem.W.kla_makeFunction (mg:=X.mg) fO I.ok.glob (I.mod.glob.keeps I.bk) gS (hd.keeps I.bk) xj ou hq V6 hb fun c jX h' tk hx yy aQ UB Jh=>?_
  obtain⟨c2,oc,vs,t,e2,uJ,d1,d2⟩:=UB;cases e2;have I2:=Ca (o:=Pd "<lambda>" (g9 X) params body scope aY ((X.mg "__name__").getD .none) c jX) I hP hx yy aQ uJ Jh rfl tk
  have hsz:s.heap.objs.size<=h'.objs.size:=OL (BB yy aQ);have hf:H h'.objs.size=none:=I.hok.fresh hsz;have oU:H c=none:=I.hok.fresh yy;have vF:c≠h'.objs.size:=i4 aQ;have V9:P≠c:=fun z=>by rw[z,oU]at hP;cases hP
  have Wa:P≠h'.objs.size:=fun z=>by rw[z,hf]at hP;cases hP
  have Wb:ON (ps++#[rawInt pos.line,rawInt pos.col,l7 c]).toList :=by
   rw[Y2];exact TriplesOk_snoc _ _ _ _ ou
  have pre:∀b u,H b=some u->b≠P->upd (upd (upd H P (.lam (ps++#[rawInt pos.line,rawInt pos.col,l7 c]))) c (k7 c oc)) h'.objs.size (k7 h'.objs.size (Pd "<lambda>" (g9 X) params body scope aY ((X.mg "__name__").getD .none) c jX)) b=some u:=fun b u e n=>by
   rw[ah (bh e hf),ah (bh e oU),ah n];exact e
  have S3:upd (upd (upd H P (.lam (ps++#[rawInt pos.line,rawInt pos.col,l7 c]))) c (k7 c oc)) h'.objs.size (k7 h'.objs.size (Pd "<lambda>" (g9 X) params body scope aY ((X.mg "__name__").getD .none) c jX)) c=some (k7 c oc) :=by rw[ah vF,aB]
  refine⟨.ref h'.objs.size,_,I2,rfl,q _ _ c oc aY _ ⟨cA,dN,⟨jX,rfl⟩,⟨vs,t,d1,d2⟩⟩ ⟨hf,⟨_,aB⟩,⟨_,S3⟩,⟨_,by rw[ah Wa,ah V9,aB],Wb,fun p cv e=>?_⟩,pre,⟨ps,hP⟩⟩⟩
  rw[Y2]at e;rcases E3 _ ou e with e|e
  ·obtain⟨c3,Wc,u3,Wd,t3,a1,a2,a3⟩:=yp p cv e;exact⟨c3,Wc,u3,Wd,t3,a1,pre _ _ a2 (fun z=>by rw[z,hP]at a2;cases a2),a3⟩
  ·exact⟨c,oc,_,vs,t,e,S3,d1,d2⟩
end
structure Ji (X:Cx) (σ:St) (b':hX):Prop where
 ext:∀b o,X.base.get? b=some o->b'.get? b=some o
 cell:∀(i:Nat) (x:br) (v:V),X.N[i]?=some x->σ[i]?=some (some v)->X.env.scope.names.lookup x=some .cell->∃c u,X.env.cells.lookup x=some c/\RelV v u/\b'.IsCell c (some u)
 cells:∀x c,X.env.cells.lookup x=some c->∃v,b'.IsCell c v
 inj:∀x y c,X.env.cells.lookup x=some c->X.env.cells.lookup y=some c->x=y
theorem Mod.ext {K:bn}{mg:br->Option am}{b b':hX}(m:Mod K mg b) (k:∀a o,b.get? a=some o->b'.get? a=some o):Mod K mg b':=
 ⟨m.kin.keeps k,m.glob.keeps k,let ⟨mb,h1,h2⟩:=m.blt;⟨mb,h1.keeps k,h2⟩,m.nolimit.keeps k⟩
section
variable {X:Cx}{pins:List (al×i8)}{σ:St}{H:Hp}{s:ar}
theorem Inv.Rt (I:Inv X pins σ H s) (rD:∀x,X.fn x=true):∃b',Ji X σ b'/\tL X.prog X.w X.K X.mg b' X.A X.stack s H :=by
 let Jj:al->Prop:=fun a=>∃x,X.env.cells.lookup x=some a
 let l:List al:=(io s.heap.objs.size).filter fun a=>@decide ((X.base.get? a=none)/\¬ Jj a) (Classical.propDecidable _)
 have ml:∀a,a∈l ↔ a<s.heap.objs.size/\X.base.get? a=none/\¬ Jj a:=fun a=>by
  show a∈(io s.heap.objs.size).filter _ ↔ _;rw[Nl,rb];simp only[decide_eq_true_eq]
 have ext:∀b o,X.base.get? b=some o->(BN s.heap l).get? b=some o:=fun b o e=>X8 l (I.bk b o e) fun z=>by
  have:=((ml b).mp z).2.1;rw[e]at this;cases this
 have cls:∀x c o,X.env.cells.lookup x=some c->s.heap.get? c=some o->(BN s.heap l).get? c=some o:=fun x c o e ho=>X8 l ho fun z=>((ml c).mp z).2.2 ⟨x,e⟩
 have only:∀b o,(BN s.heap l).get? b=some o->s.heap.get? b=some o/\((∃o',X.base.get? b=some o')\/Jj b):=fun b o e=>by
  have e':=Zf l e;refine⟨e',?_⟩;by_cases hc:Jj b
  ·exact .inr hc
  ·cases q:X.base.get? b with
   |some o'=>exact .inl ⟨o',rfl⟩
   |none=>
    have:(BN s.heap l).get? b=none:=PySem.W.hideAll_none l ((ml b).mpr ⟨ff e',q,hc⟩);rw[e]at this;cases this
 refine⟨BN s.heap l,⟨ext,fun i x v h1 h2 h3=>?_,fun x c e=>?_,I.ok.inj⟩,I.ok.frames,I.ok.mod.ext ext,fun b o e=>?_,Nat.le_of_eq (PySem.W.hideAll_size _ _),?_,I.mJ,I.hok,I.bare.1⟩
 ·obtain⟨m,hn,hl⟩:=I.loc;obtain⟨u,r,lk⟩:=hl i x v h1 h2 (.inr (.inl h3));rcases lk with ⟨hk,_⟩|⟨_,c,ec,o,ho,hd⟩
  ·have hk:X.env.scope.names.lookup x=some .local:=hk;rw[h3]at hk;cases hk
  ·exact⟨c,u,ec,r,o,cls x c o ec ho,hd⟩
 ·obtain⟨v,o,ho,hd⟩:=I.cell x c e;exact⟨v,o,cls x c o e ho,hd⟩
 ·obtain⟨e',q⟩:=only b o e;refine⟨e',?_⟩;rcases q with ⟨o',q⟩|⟨x,q⟩
  ·exact(I.bs b o' q).2
  ·exact I.freeC x b q
 ·have fr:∀L∈fg X.stack,(BN s.heap l).get? L=none:=fun L hL=>by
   cases q:(BN s.heap l).get? L with
   |none=>rfl
   |some o=>
    exfalso
    obtain⟨e',q⟩:=only L o q;have nb:=(I.stack.mem hL).1;rcases q with ⟨o',q⟩|⟨x,q⟩
    ·rw[nb]at q;cases q
    ·rcases im.mp (I.fT L hL) with z|z
     ·exact I.uI x L q z
     ·have h1:=I.ok.cab x L (rD x) q;obtain⟨_,o2,We,_⟩:=I.ok.funs.mem z;exact absurd (ff We) (Z5.mpr h1)
  have go:∀(st:List Lo),(∀L∈fg st,(BN s.heap l).get? L=none)->s.heap.FunFrames X.base st->s.heap.FunFrames (BN s.heap l) st :=by
   intro st;induction st with
   |nil=>intro _ _;trivial
   |cons env r ih=>
    intro hs hl;obtain⟨hk,⟨L,o,hf,hn,ho,hd⟩,hr⟩:=hl;exact⟨hk,⟨L,o,hf,hs L (by unfold fg;rw[LF,hf];exact gc),ho,hd⟩,ih (fun b hb=>hs b (by unfold fg;rw[LF,hf];exact c8 _ hb)) hr⟩
  exact go X.stack fr I.stack
end
section
variable {X:Cx}{CX:iC}{k:Nat}{f:al}{fd:ln}{ps:List br}{gK:List V}{ds:List am}{E:XK}{x:br}{p pos:u4}{e:db}{es:List db}{t:TA}
def OO (X:Cx) (sp:hX->Sp) (gK:List V) (E:XK) (t:TA):TE:=fun σ H Q=>t σ H fun vs H1=>∀b',Ji X σ b'->sp b' (vs++gK) H1 Q E
theorem Ht {sp:hX->Sp}(F:∀b',(∀b o,X.base.get? b=some o->b'.get? b=some o)->FnOk X.prog X.w X.K X.mg b' CX k f fd ps (sp b')) (hr:cj k X.A) (rD:∀x,X.fn x=true) (hg:Gl X x) (hm:X.mg x=some (.ref f)) (hk:ES X.K (.ref f)=true) (hb:Binds X.K fd ps ds) (hd:Vals gK ds) (hx:Passes CX X E)
  (ha:PA X (e::es) t) (fU:(x==("__debug__" : br))=false :=by decide) (he:starEach (e::es) X.env=(false,eval e X.env)::starEach es X.env :=by rfl) (cF:(backTo pos (starEach es X.env)).any (·.1)=false :=by rfl) :
  PE X (.Call (.Name x p) (e::es) [] pos) (OO X sp gK E t) :=by
 refine⟨?_⟩;intro pins s σ H Q I h;refine Cc (pJ I hg hm ?_ fU);refine PySem.W.callWith_K (h₀:=X.base) I.ok.mod.kin hk (thn (ha pos pins s σ H _ I h) fun us s1 ⟨vs,H1,I1,r,q⟩=>⟨I1.iB,?_⟩) he cF
 obtain⟨b',B,e0⟩:=I1.Rt rD;have r2:Vals (vs++gK) (us++ds):=r.append hd;have hl:(us++ds).length=ps.length :=by rw[<- r2.length];exact(F b' B.ext).len _ _ _ _ (q b' B)
 refine wpAny_call (Yc ((F b' B.ext).run X.A X.stack s1 H1 ⟨us,[]⟩ (us++ds) (vs++gK) Q E hr e0 (hb s1 us I1.iB hl) r2 (q b' B)) fun r s' hq=>?_)
 cases r with
 |error e=>exact hx pins σ H1 s1 e s' I1 hq
 |ok fl=>
  cases fl with
  |ret u=>exact I1.after hq
  |next=>exact FF hq
  |brk=>exact FF hq
  |cont=>exact FF hq
def OQ (f:al) (o:i8) (sp:Sp) (E:XK) (i:Nat) (t:TA):TE:=fun σ H Q=>σ[i]?=some (some (.ref f))/\(∃u,H f=some (.bQ o u))/\t σ H fun vs H1=>(∃u,H1 f=some (.bQ o u))/\sp vs H1 Q E
theorem Hu {o:i8}{sp:Sp}{i:Nat}(F:FnOk X.prog X.w X.K X.mg X.base CX k f fd ps sp) (ho:∃oc od fd sl,o=⟨oc,od,.func fd,sl⟩) (hr:cj k X.A) (hN:X.N[i]?=some x) (hv:qd X.env.scope x) (hb:Binds X.K fd ps []) (hx:Passes CX X E) (ha:PA X (e::es) t)
  (fU:(x==("__debug__" : br))=false :=by decide) (eT:(x==("__classdict__" : br))=false :=by decide) (he:starEach (e::es) X.env=(false,eval e X.env)::starEach es X.env :=by rfl) (cF:(backTo pos (starEach es X.env)).any (·.1)=false :=by rfl) :
  PE X (.Call (.Name x p) (e::es) [] pos) (OQ f o sp E i t) :=by
 refine⟨?_⟩;intro pins s σ H Q I ⟨hi,hf,h⟩;obtain⟨oc,od,IG,sl,rfl⟩:=ho;refine Cc (thn ((wR hN hv fU eT) pins s σ H (fun v H'=>v=.ref f/\H'=H) I ⟨_,hi,rfl,rfl⟩) fun u s0 ⟨v,H0,I0,r0,e1,e2⟩=>?_)
 subst e1 e2;cases (show u=l7 f from r0);have at_:∀{H':Hp} {s':ar},Inv X pins σ H' s'->(∃u,H' f=some (.bQ ⟨oc,od,.func IG,sl⟩ u))->PySem.W.FnAt f s'.heap:=fun I' ⟨u,hu⟩=>⟨oc,od,IG,sl,(I'.hok f _ hu).1⟩
 refine PySem.W.callWith_F (at_ I0 hf) (thn (ha pos pins s0 σ H0 _ I0 h) fun us s1 ⟨vs,H1,I1,r,Wg,q⟩=>⟨at_ I1 Wg,?_⟩) he cF
 have q':sp (vs++[]) H1 Q E :=by rw[Lu];exact q
 exact Dw F hr hb .nil hx I1 r q'
end
def Cb (CX:iC) (P:en) (w:ii) (K:bn) (mg:br->Option am) (base:hX) (N:List br) (qual:br) (scope:ul) (f:al) (cd:am) (aY:List (br×al)) (A:l5) (outer:List Lo) (s:ar) (H:Hp) (E:XK):Cx where
 prog:=P
 w:=w
 K:=K
 mg:=mg
 base:=base
 A:=A.deeper (So qual scope s.heap.objs.size f cd aY)
 N:=N
 s₀:=s
 H₀:=H
 env:=So qual scope s.heap.objs.size f cd aY
 outer:=outer
 stack:=So qual scope s.heap.objs.size f cd aY::outer
 ex:=[]
 calm:=true
 fn:=fun _=>false
 pn:=[]
 xe:=fun e s'=>wpAny (model P w) (A.deeper (So qual scope s.heap.objs.size f cd aY)) (leaving (So qual scope s.heap.objs.size f cd aY) e) (fun _ cR=>CX outer H s E e cR) (fun e' cR=>CX outer H s E e' cR) s'
structure nE (ps fs:List br) (sc:ul):Prop where
 kind:sc.kind=.function
 co:sc.isCoroutine=false
 gen:sc.isGenerator=false
 nd:(ps++fs).Nodup
 par:∀x∈ps,sc.names.lookup x=some .local
 fre:∀x∈fs,sc.names.lookup x=some .free
 nocell:∀y∈sc.names,y.2≠.cell
structure ub (base:hX) (fs:List br) (aY:List (br×al)) (vcs:List V):Prop where
 inj:∀x y c,aY.lookup x=some c->aY.lookup y=some c->x=y
 all:∀x c,aY.lookup x=some c->∃v,base.IsCell c v
 cell:∀(j:Nat) (x:br) (v:V),fs[j]?=some x->vcs[j]?=some v->∃c u,aY.lookup x=some c/\RelV v u/\base.IsCell c (some u)
theorem sN {x:br}{v:am}:∀{ps:List br}{us:List am}{i:Nat},ps.Nodup->ps[i]?=some x->us[i]?=some v->(ps.zip us).reverse.lookup x=some v
 | [],_,_,_,h,_=>by simp at h
 |_::_,[],_,_,_,h=>by simp at h
 |p::ps,u::us,i,nd,h1,h2=>by
          rw[Ch,List.reverse_cons];have hn:=GM.mp nd;cases i with
          |zero=>
           simp at h1 h2;subst h1 h2;rw[List.lookup_append];have:(ps.zip us).reverse.lookup p=none :=by
            rw[List.lookup_eq_none_iff];intro q hq;have xQ:=List.mem_reverse.mp hq;have:=(GS xQ).1;have ne:p≠q.1:=fun z=>hn.1 (by rw[z];exact this)
            simpa using ne
           rw[this];simp[List.lookup]
          |succ i=>
           rw[List.lookup_append,sN hn.2 (by simpa using h1) (by simpa using h2)]
           rfl
section
variable {CX:iC}{P:en}{w:ii}{K:bn}{mg:br->Option am}{base:hX}{ps fs:List br}{qual:br}{scope:ul}{f c:al}{aY:List (br×al)}{A:l5}{outer:List Lo}{s:ar}{H:Hp}{E:XK}{us:List am}{vs vcs:List V}
theorem KU {h1:hX}{tk:Nat}(S:nE ps fs scope) (C:ub base fs aY vcs) (has:∀n,(n,qr)∈scope.names->∃a,aY.lookup n=some a) (hd:A.handled=none) (e0:tL P w K mg base A outer s H) (hl:vs.length=ps.length) (hc:vcs.length=fs.length) (r:Vals vs us)
  (ie:h1.Ns s.heap.objs.size (fun y=>(ps.zip us).reverse.lookup y)) (hk:∀b o,s.heap.get? b=some o->h1.get? b=some o) :
  Inv (Cb CX P w K mg base (ps++fs) qual scope f (.ref c) aY A outer s H E) [] (vs.map some++vcs.map some) H {s with heap:=h1,toks:=tk}:=by
 have bc:∀x a,aY.lookup x=some a->∃v o,s.heap.get? a=some o/\o.data=.cell v/\H a=none:=fun x a e=>by
  obtain⟨v,o,ho,hd⟩:=C.all x a e;obtain⟨h1,h2⟩:=e0.bs a o ho;exact⟨v,o,h1,hd,h2⟩
 refine⟨⟨e0.mod,S.kind,rfl,rfl,cb _,C.inj,fun y hy=>?_,fun _ _ z=>(nomatch z),fun _=>hd,l5.frames_deeper e0.frames,.inr ⟨rfl,rfl⟩,fun b z=>absurd (show b∈([]:List al) from z) (by simp),e0.bs,e0.bsz,fun b _ _ z=>absurd (show b∈([]:List al) from z) (by simp),fun b z=>absurd (show b∈([]:List al) from z) (by simp),e0.funs,e0.frf⟩,
  rfl,⟨e0.bare,cb _⟩,Un.kept hk,⟨_,ie,fun i y v h1 h2 h3=>?_⟩,fun y a e=>?_,e0.hok.fresh (cb _),fun y a e=>?_,fun p hp=>absurd (show p∈([]:List (al×i8)) from hp) (by simp),e0.hok.kept hk,?_⟩
 ·have hy:scope.names.lookup y=some .cell\/scope.names.lookup y=some .free:=hy;rcases hy with hy|hy
  ·exact absurd rfl (S.nocell _ (sK hy))
  ·exact has y (sK hy)
 ·have h1:(ps++fs)[i]?=some y:=h1;by_cases hi:i<ps.length
  ·rw[AS hi]at h1;rw[AS (by simpa[hl] using hi),bv]at h2
   have ha:vs[i]?=some v :=by
    cases e:vs[i]? with
    |none=>rw[e]at h2;cases h2
    |some a=>rw[e]at h2;cases h2;rfl
   obtain⟨u,hu,rv⟩:=r.get ha;have nd:ps.Nodup:=S.nd.sublist (List.sublist_append_left _ _);exact⟨u,rv,.inl ⟨S.par y (cr h1),sN nd h1 hu⟩⟩
  ·rw[Go (by omega)]at h1
   rw[Go (by simp only[ca];omega),ca,hl,bv]at h2
   have ha:vcs[i - ps.length]?=some v :=by
    cases e:vcs[i - ps.length]? with
    |none=>rw[e]at h2;cases h2
    |some a=>rw[e]at h2;cases h2;rfl
   obtain⟨a,u,e1,rv,o,ho,hd⟩:=C.cell _ y v h1 ha;exact⟨u,rv,.inr ⟨.inr (S.fre y (cr h1)),a,e1,o,hk _ _ (e0.bs a o ho).1,hd⟩⟩
 ·obtain⟨v,o,ho,hd,_⟩:=bc y a e;exact⟨v,o,hk _ _ ho,hd⟩
 ·obtain⟨v,o,ho,hd,hn⟩:=bc y a e;exact hn
 ·show _=(ps++fs).length;simp[hl,hc]
structure Cd (params:OK) (body:db) (scope:ul) (qual:br) (o:i8) (c:al) (oc:i8) (aY:List (br×al)) (fd:ln):Prop where
 has:∀n,(n,qr)∈scope.names->∃a,aY.lookup n=some a
 obj:∃name pm jX,fd=PySem.W.kla_fn name qual params body scope aY pm (.ref c) jX/\o={cls:=.type "function",data:=.func fd}
 code:∃vs t,oc.data=.fields vs/\vs[1]?=some (YE qual t)
theorem OS {params:OK}{body:db}{o oc:i8}{fd:ln}{k:Nat}{sp:Sp}(L:Cd params body scope qual o c oc aY fd) (S:nE ps fs scope) (C:ub base fs aY vcs) (cS:vcs.length=fs.length) (len:∀vs H Q E,sp vs H Q E->vs.length=ps.length)
  (at':∀vs H Q E,sp vs H Q E->(∃u,H f=some (.bQ o u))/\∃u,H c=some (.bQ oc u))
  (m6:∀(A:l5) (outer:List Lo) (s:ar) (H:Hp) (vs:List V) (Q:VK) (E:XK),cj k (A.deeper (So qual scope s.heap.objs.size f (.ref c) aY))->sp vs H Q E->
   ∃t,PE (Cb CX P w K mg base (ps++fs) qual scope f (.ref c) aY A outer s H E) body t/\t (vs.map some++vcs.map some) H Q):FnOk P w K mg base CX (k+1) f fd ps sp :=by
 obtain⟨has,⟨name,pm,jX,rfl,rfl⟩,⟨Wh,ct,d1,d2⟩⟩:=L;refine⟨len,fun A outer s H args us vs Q E hr e0 hb r lF=>?_⟩
 have hl:=len _ _ _ _ lF;obtain⟨⟨u1,ef⟩,⟨u2,ec⟩⟩:=at' _ _ _ _ lF;have Wi:=(e0.hok f _ ef).1;have uJ:=(e0.hok c _ ec).1;have lim:s.heap.NoLimit:=e0.mod.nolimit.keeps fun b o e=>(e0.bs b o e).1
 refine PySem.W.kla_callFunE hr.depth Wi rfl S.co S.gen rfl ⟨c,oc,Wh,ct,rfl,uJ,d1,d2⟩ (hb _ _ _ _ ?_);refine YO S.nocell (fun y hy=>S.par y.1 (GS hy).1) (fun h1 ie iJ=>⟨lim.fresh _ iJ,?_⟩) S.kind
 have hk:∀b o,s.heap.get? b=some o->h1.get? b=some o:=fun b o e=>iJ.extBut b o (i4 (ff e)) (ba _ e)
 obtain⟨t,ht,hq⟩:=m6 A outer s H vs Q E (hr.deeper _) lF;have I:=KU (CX:=CX) (qual:=qual) (f:=f) (c:=c) (E:=E) (tk:=s.toks+(ps.zip us).length) S C has hr.hd e0 hl cS r ie hk;show codeAny _ _ (.expr body (So qual scope s.heap.objs.size f (.ref c) aY)) _ _;refine PySem.W.kla_codeExpr (l6 (ht [] _ _ H Q I hq) (fun u s' ⟨v,H',J,rv,q⟩=>?_) fun e s' hs=>hs)
 exact⟨v,H',J.os,J.bare,J.base,J.hok,rv,q⟩
end
end L2
namespace L2
open PySem PySem.Spec PySem.W PyProof.Rows
structure Jk (K:bn) (mg:br->Option am) (x:br) (st:r9) (ps:List br) (ds:List am) (f:al) (fd:ln):Prop where
 ex:∃(oc:am) (od:Option al) (dV kV doc pm:am) (an:Option al) (de ct:am) (lD:Array (Option am)),
  fd=AC x x (dw st) (bU st) (aj st) dV kV doc pm an de ct/\K.lookup f=some ⟨oc,od,.func fd,lD⟩/\Mn K de x=true
 kp:ES K (.ref f)=true
 bd:Binds K fd ps ds
 bd0:Binds K fd ps []
 mg:mg x=some (.ref f)
section
variable {P:en}{w:ii}{K:bn}{mg:br->Option am}{base:hX}{tb:cG}{x:br}{st:r9}{f:al}{fd:ln}{N ps:List br}{gK:List am}{k:Nat}{S:cM}
theorem Ru (D:Jk K mg x st ps gK f fd) (sc:aW N ps (aj st)) (len:∀ds M Q E,S ds M Q E->ds.length=ps.length)
  (body:∀(A:l5) (outer:List Lo) (s:ar) (E:XK) (Γ:Gz) (ds:List Dv) (Q':ZK) (E':ZX),P=Γ.P->w=Γ.w->K=Γ.K->tb=Γ.tb->cj k (A.deeper (envOfC x (aj st) s.heap.objs.size f fd.code))->S ds Γ.M0 Q' E'->
   ∃p,nW Γ (gF bw P w K mg base N x (aj st) f fd.code A outer s Γ.H0 E).km (bU st) p/\p (zEndsOf Γ.M0 Q') (zstart N ds) Γ.M0):FnOk P w K mg base bw (k+1) f fd ps (bp P w K tb S) :=by
 obtain⟨oc,od,dV,kV,doc,pm,an,de,ct,lD,rfl,lk,eT⟩:=D.ex;refine Bp lk eT sc (tZ len) fun A outer s H vs Q E hr h=>?_
 obtain⟨β,ds,M,Q',E',eP,ew,eK,et,m,rs,hS,q,_⟩:=h;obtain⟨p,hp,hq⟩:=body A outer s E ⟨β,M,H⟩ ds Q' E' eP.symm ew.symm eK.symm et.symm hr hS;refine⟨_,hp.km,β,zstart N ds,M,zEndsOf M Q',qU (Γ:=⟨β,M,H⟩) m rs,hq,?_⟩;have fin:∀d M' v H',Ex β M H M' H'->Rz β M' H' v d->jj M Q' d M'->Q v H':=fun d M' v H' x r h=>pQ m q x r h
 exact⟨fun b7 M' aO H' x zr h=>fin _ _ _ _ ⟨zr.ent,x.mz⟩ .ax h,fun d M' v H' x e r h=>fin _ _ _ _ ⟨e,x.mz⟩ r h,fun _ _ _ _ _ _ h=>h,fun _ _ _ _ _ _ h=>h⟩
def Jl (P:en) (w:ii) (K:bn) (tb:cG) (f:al) (o:i8) (c:al) (oc:i8) (vcs:List V) (S:List Dv->cM):Sp:=fun vs H Q E=>∃(β:Bz) (ds cH:List Dv) (M:Mh) (Q':ZK) (E':ZX),β.P=P/\β.w=w/\β.K=K/\β.tb=tb/\Mz β M H/\aH β M H vs ds/\Rz β M H (.ref f) (.bZ f o c oc vcs cH)/\S cH ds M Q' E' /\
 (∀d M' v H',Ex β M H M' H'->Rz β M' H' v d->Q' d M'->Q v H')/\∀C M' H',Ex β M H M' H'->E' C M'->E (.ref C) none H'
theorem l0 {β:Bz}{M:Mh}{H:Hp}{v:V}{f c:al}{o oc:i8}{vs:List V}{ds:List Dv}(h:Rz β M H v (.bZ f o c oc vs ds)):v=.ref f/\(∃u,H f=some (.bQ o u))/\(∃u,H c=some (.bQ oc u))/\aH β M H vs ds :=by
 cases h with
 |bZ m e m2 e2 hl h=>exact⟨rfl,⟨_,e⟩,⟨_,e2⟩,hl,h⟩
theorem OT {Γ:Gz}{vs vcs:List V}{ds cH:List Dv}(m:Mz Γ.toBz Γ.M0 Γ.H0) (rs:aH Γ.toBz Γ.M0 Γ.H0 vs ds) (rc:aH Γ.toBz Γ.M0 Γ.H0 vcs cH):Zr Γ Γ.toBz Γ.M0 (ds.map some++cH.map some) (vs.map some++vcs.map some) Γ.H0:=
 ⟨rfl,rfl,rfl,rfl,fun _ h=>h,m.wf,.refl,m,by simp[rs.len,rc.len],fun i d e=>by
  rw[<- u8,bv,i0]at e;obtain⟨d2,e,e2⟩:=e;cases e2;obtain⟨v,hv,r⟩:=(rs.append rc).get e;exact⟨v,by rw[<- u8,bv,hv];rfl,r⟩⟩
theorem UC {fs:List br}{qual:br}{scope:ul}{params:OK}{body:db}{c:al}{o oc:i8}{aY:List (br×al)}{vcs:List V}{Sc:List Dv->cM}(L:Cd params body scope qual o c oc aY fd) (sc:nE ps fs scope) (C:ub base fs aY vcs) (cS:vcs.length=fs.length)
  (len:∀cH ds M Q E,Sc cH ds M Q E->ds.length=ps.length)
  (hb:∀(A:l5) (outer:List Lo) (s:ar) (E:XK) (Γ:Gz) (cH ds:List Dv) (Q':ZK) (E':ZX),P=Γ.P->w=Γ.w->K=Γ.K->tb=Γ.tb->cj k (A.deeper (So qual scope s.heap.objs.size f (.ref c) aY))->Sc cH ds Γ.M0 Q' E'->
   ∃p,QE Γ (Cb bw P w K mg base (ps++fs) qual scope f (.ref c) aY A outer s Γ.H0 E).km body p/\p (ds.map some++cH.map some) Γ.M0 (jj Γ.M0 Q')):FnOk P w K mg base bw (k+1) f fd ps (Jl P w K tb f o c oc vcs Sc) :=by
 refine OS L sc C cS (fun vs H Q E hS=>by obtain⟨β,ds,cH,M,Q',E',_,_,_,_,m,rs,rc,s,_⟩:=hS;exact rs.len.trans (len _ _ _ _ _ s)) (fun vs H Q E hS=>by obtain⟨β,ds,cH,M,Q',E',_,_,_,_,m,rs,rc,s,_⟩:=hS;obtain⟨_,h1,h2,_⟩:=l0 rc;exact⟨h1,h2⟩) fun A outer s H vs Q E hr h=>?_
 obtain⟨β,ds,cH,M,Q',E',eP,ew,eK,et,m,rs,rc,hS,q,_⟩:=h;obtain⟨p,hp,hq⟩:=hb A outer s E ⟨β,M,H⟩ cH ds Q' E' eP.symm ew.symm eK.symm et.symm hr hS;obtain⟨_,_,_,Jm⟩:=l0 rc;exact⟨_,hp.km,β,_,M,_,OT (Γ:=⟨β,M,H⟩) m rs Jm,hq,fun d M' v H' x r h=>pQ m q x r h⟩
end
section
variable {X:Cx}{Γ:Gz}{β:Bz}{CX:iC}{k:Nat}{f:al}{fd:ln}{ps:List br}{E:XK}{E':ZX}{x:br}{p pos:u4}{e:db}{es:List db}{za:fh}{P:en}{w:ii}{tb:cG}{K:bn}
def zCallL (f:al) (o:i8) (c:al) (oc:i8) (vcs:List V) (S:List Dv->cM) (E':ZX) (i:Nat) (za:fh):aI:=fun ρ M Q=>match ρ[i]? with
 |some (some (.bZ f' o' c' OU OV cH))=>(f'=f/\o'=o/\c'=c/\OU=oc/\OV=vcs)/\za ρ M fun ds M1=>S cH ds M1 Q E'
 |_=>False
theorem Hv {c:al}{o oc:i8}{vcs:List V}{S:List Dv->cM}{i:Nat}(F:FnOk X.prog X.w X.K X.mg X.base CX k f fd ps (Jl P w K tb f o c oc vcs S)) (ho:∃oc od fd sl,o=⟨oc,od,.func fd,sl⟩) (hr:cj k X.A) (hN:X.N[i]?=some x) (hv:qd X.env.scope x) (hb:Binds X.K fd ps [])
  (hx:Passes CX X E) (hP:P=Γ.P) (hw:w=Γ.w) (hK:K=Γ.K) (ht:tb=Γ.tb) (hE:XR Γ E' E) (ha:QA Γ X (e::es) za) (fU:(x==("__debug__" : br))=false :=by decide) (eT:(x==("__classdict__" : br))=false :=by decide)
  (he:starEach (e::es) X.env=(false,eval e X.env)::starEach es X.env :=by rfl) (cF:(backTo pos (starEach es X.env)).any (·.1)=false :=by rfl):QE Γ X (.Call (.Name x p) (e::es) [] pos) (zCallL f o c oc vcs S E' i za):=
 (Hu F ho hr hN hv hb hx ha fU eT he cF).imp fun σ H Q ⟨β,ρ,M,Q',zr,h,q⟩=>by
  subst hP hw hK ht;unfold zCallL at h;split at h
  ·rename_i f' o' c' OU OV cH hi;obtain⟨⟨rfl,rfl,rfl,rfl,rfl⟩,h⟩:=h;obtain⟨v,hv,r⟩:=zr.at' i _ hi;obtain⟨rfl,h1,_,_⟩:=l0 r;refine⟨hv,h1,β,ρ,M,_,zr,h,fun ds M1 vs H1 x1 r1 h2=>?_⟩
   have r':=r.ex x1;obtain⟨_,h3,_,_⟩:=l0 r';exact⟨h3,β,ds,cH,M1,Q',E',zr.eP,zr.ew,zr.eK,zr.et,x1.mz,r1,r',h2,fun d M2 v H2 x2 r2 h2=>q _ _ _ _ (x1.trans x2) r2 h2,fun C M2 H2 x2 h2=>hE C M2 H2 (sF zr.ent zr.sub zr.eP zr.ew zr.eK zr.et (x1.trans x2)) h2⟩
  ·exact h.elim
end
theorem Ex.UD {X:Cx}{P:al}{β:Bz}{M:Mh}{H H2:Hp}{f c:al}{o oc:i8}(m:Mz β M H) (hp:∀q∈β.tb.l,q.1=P->q.2=g9 X) (n:OI X P H H2 f o c oc):Ex β M H M H2 :=by
 obtain⟨new,at',cd,lm,keep,⟨ps,hP⟩⟩:=n;obtain⟨ps2,Wj,_⟩:=id lm;have nP:∀b u,H b=some u->(∀ps,u≠.lam ps)->b≠P:=fun b u e q z=>by rw[z,hP]at e;cases e;exact q _ rfl
 have ey:Ey M H M H2:=⟨fun b u _ e=>by
  by_cases hb:b=P
  ·subst hb;rw[hP]at e;cases e;exact .inr ⟨_,.inr (.inl ⟨ps,ps2,rfl,rfl⟩),Wj⟩
  ·exact .inl (keep b u e hb),fun _ h=>h,fun _ _ h _=>h⟩
 refine⟨ey,fun a u e=>?_,fun q hq=>?_,fun a ha=>?_,m.apart,fun q hq=>?_⟩
 ·have z:=m.obj a u e;have k:∀u,H a=some u->L2.qS u=true->H2 a=some u:=fun u h hu=>keep a u h (nP a u h (by intro ps z;subst z;cases hu))
  cases u with
  |lst ds=>obtain⟨vs,z,l,r⟩:=z;exact⟨vs,k _ z rfl,l,fun i v d a b=>(r i v d a b).ey ey⟩
  |dk ks ds=>obtain⟨vs,z,hk,l,r⟩:=z;exact⟨vs,k _ z rfl,hk,l,fun i v d a b=>(r i v d a b).ey ey⟩
  |dt ks ds=>obtain⟨vs,z,hk,l,r⟩:=z;exact⟨vs,k _ z rfl,hk,l,fun i v d a b=>(r i v d a b).ey ey⟩
  |c6=>obtain⟨c,n,z,r⟩:=z;exact⟨c,n,k _ z rfl,r⟩
 ·obtain⟨ps,e,t⟩:=m.tabs q hq;exact⟨ps,keep _ _ e (nP _ _ e (by intro ps z;cases z)),t⟩
 ·obtain⟨u,e,n⟩:=m.hids a ha;exact⟨u,keep _ _ e (nP _ _ e (by intro ps z;subst z;cases n)),n⟩
 ·by_cases hb:q.1=P
  ·have:q=(P,g9 X):=Prod.ext hb (hp q hq hb);rw[this];exact lm
  ·exact(m.lams q hq).keep (fun _ e=>keep _ _ e hb) fun c' _ _ e=>keep _ _ e (nP _ _ e (by intro ps z;cases z))
section
variable {X:Cx}{Γ:Gz}{β:Bz}{CX:iC}{k:Nat}{f:al}{fd:ln}{ps:List br}{E:XK}{E':ZX}{x:br}{p pos oV:u4}{e1 e2:db}{rest:List db}{z1 z2:aI}{zr:fh}{P:en}{w:ii}{tb:cG}{K:bn}
def sO:List Nat->aA->Option (List Dv)
 | [],_=>some []
 |i::is,ρ=>match ρ[i]?,sO is ρ with|some (some d),some ds=>some (d::ds)|_,_=>none
theorem AD {Γ:Gz}{M:Mh}{ρ:aA}{σ:St}{H:Hp}(z:Zr Γ β M ρ σ H):∀{idx:List Nat}{cH:List Dv},sO idx ρ=some cH->∃vcs,aH β M H vcs cH/\vcs.length=idx.length/\∀(j i:Nat) (v:V),idx[j]?=some i->vcs[j]?=some v->σ[i]?=some (some v)
 | [],cH,h=>by cases h;exact⟨[],.nil,rfl,fun j i v h=>by simp at h⟩
 |i::is,cH,h=>by
          unfold sO at h;split at h
          ·rename_i d ds h1 h2;cases h;obtain⟨v,hv,r⟩:=z.at' i d h1;obtain⟨vcs,rs,l,q⟩:=AD z h2;refine⟨v::vcs,.cons r rs,by simp[l],fun j i' u a b=>?_⟩
           cases j with
           |zero=>simp at a b;subst a b;exact hv
           |succ j=>exact q j i' u (by simpa using a) (by simpa using b)
          ·cases h
def yz (X:Cx) (params:OK) (body:db) (scope:ul) (idx:List Nat) (fs:List br) (S:hX->cM) (dd:List Dv) (E':ZX) (z1 z2:aI) (zr:fh):aI:=fun ρ M Q=>z1 ρ M fun d1 M1=>z2 ρ M1 fun d2 M2=>match sO idx ρ with
 |some cH=>∀f o c oc aY vcs,vcs.length=idx.length->OH X params body scope o c oc aY->zr ρ M2 fun es M3=>∀b',(∀b o,X.base.get? b=some o->b'.get? b=some o)->ub b' fs aY vcs->S b' (d1::d2::.bZ f o c oc vcs cH::es++dd) M3 Q E'
 |none=>False
theorem Ce {params:OK}{body:db}{scope:ul}{idx:List Nat}{fs:List br}{S:hX->cM}{gK:List V}{dd:List Dv}{ds:List am}{PT cX:al}(gS:X.env.code=.ref cX) (eT:wb X.base cX PT) (eU:∃bm ob,Y9 X.base mainGlobals X.mg bm ob) (wM:defaultsOf params X.env=([],[]))
  (pI:∀n,(n,qr)∈scope.names->X.env.kindOf n=some .cell\/X.env.kindOf n=some .free) (Wk:∀(j:Nat) (n:br),fs[j]?=some n->(n,qr)∈scope.names/\X.env.scope.names.lookup n=some .cell/\∃i,idx[j]?=some i/\X.N[i]?=some n)
  (lJ:(PT,g9 X)∈Γ.tb.l) (OW:∀q∈Γ.tb.l,q.1=PT->q.2=g9 X)
  (F:∀b',(∀b o,X.base.get? b=some o->b'.get? b=some o)->FnOk X.prog X.w X.K X.mg b' CX k f fd ps (bp P w K tb (S b'))) (hr:cj k X.A) (rD:∀x,X.fn x=true) (hg:Gl X x) (hm:X.mg x=some (.ref f)) (hk:ES X.K (.ref f)=true) (hb:Binds X.K fd ps ds) (hd:Vals gK ds) (Wl:∀β M H,aH β M H gK dd)
  (hx:Passes CX X E) (hP:P=Γ.P) (hw:w=Γ.w) (hK:K=Γ.K) (ht:tb=Γ.tb) (hE:XR Γ E' E) (h1:QE Γ X e1 z1) (h2:QE Γ X e2 z2) (h3:QA Γ X rest zr) (fU:(x==("__debug__" : br))=false :=by decide)
  (s1:starEach (e1::e2::.Lambda params body scope oV::rest) X.env=(false,eval e1 X.env)::starEach (e2::.Lambda params body scope oV::rest) X.env :=by rfl)
  (s2:starEach (e2::.Lambda params body scope oV::rest) X.env=(false,eval e2 X.env)::starEach (.Lambda params body scope oV::rest) X.env :=by rfl)
  (s3:starEach (.Lambda params body scope oV::rest) X.env=(false,eval (.Lambda params body scope oV) X.env)::starEach rest X.env :=by rfl)
  (cF:(backTo pos (starEach (e2::.Lambda params body scope oV::rest) X.env)).any (·.1)=false :=by rfl) :
  QE Γ X (.Call (.Name x p) (e1::e2::.Lambda params body scope oV::rest) [] pos) (yz X params body scope idx fs S dd E' z1 z2 zr):=
 (Ht F hr rD hg hm hk hb hd hx (pK h1 (pK h2 (pK (OM gS eT eU wM pI) h3 s3) s2) s1) fU s1 cF).imp fun σ H Q ⟨β,ρ,M,Q',k8,h,q⟩=>by
  subst hP hw hK ht;refine⟨β,ρ,M,_,k8,h,fun d1 M1 v1 H1 x1 r1 h1=>⟨β,ρ,M1,_,k8.step x1,h1,fun d2 M2 v2 H2 x2 r2 h2=>?_⟩⟩
  have Jc:=(k8.step x1).step x2;have UE:(PT,g9 X)∈β.tb.l :=by rw[k8.et];exact lJ
  have UG:∀q∈β.tb.l,q.1=PT->q.2=g9 X :=by rw[k8.et];exact OW
  refine⟨x2.mz.lams _ UE,fun lf o c oc aY H3 hO hN=>?_⟩
  split at h2
  ·rename_i cH Rv;obtain⟨vcs,Jm,lcs,at'⟩:=AD Jc Rv;have x3:=Ex.UD x2.mz UG hN;have Oj:=Jc.step x3;refine⟨β,ρ,M2,_,Oj,h2 lf o c oc aY vcs lcs hO,fun es M4 ws H4 x4 r4 h4=>?_⟩
   intro b' B;obtain⟨u1,a1⟩:=hN.at';obtain⟨u2,a2⟩:=hN.cd;have S4:=x3.mz;have OX:Fz β M2 lf:=x2.mz.fz hN.new;have UH:∀a o u,H3 a=some (.bQ o u)->a ∉ β.hid:=fun a o u e z=>by
    obtain⟨w,e',n⟩:=S4.hids a z;rw[e]at e';cases e';cases n
   have UI:Rz β M2 H3 (.ref lf) (.bZ lf o c oc vcs cH):=.bZ OX a1 ⟨S4.iO a2 rfl,UH _ _ _ a2⟩ a2 Jm.len fun i v d a b=>(Jm.at' i v d a b).ex x3
   have UJ:ub b' fs aY vcs :=by
    refine⟨fun n m a e e'=>B.inj n m a (hO.cells n a e) (hO.cells m a e'),fun n a e=>B.cells n a (hO.cells n a e),fun j n v hj hv=>?_⟩
    obtain⟨fr,kc,i,hi,hn⟩:=Wk j n hj;obtain⟨a,u,e1,e2,e3⟩:=B.cell i n v hn (at' j i v hi hv) kc;obtain⟨a',e'⟩:=hO.has n fr;have:=(hO.cells n a' e').symm.trans e1;cases this;exact⟨a,u,e',e2,e3⟩
   have nY:=x2.trans (x3.trans x4);have Wm:=x3.trans x4;refine⟨β,_,M4,Q',E',k8.eP,k8.ew,k8.eK,k8.et,x4.mz,?_,h4 b' B.ext UJ,fun d M5 v H5 x5 r5 h5=>q _ _ _ _ (x1.trans (nY.trans x5)) r5 h5,fun C M5 H5 x5 h5=>hE C M5 H5 (sF k8.ent k8.sub k8.eP k8.ew k8.eK k8.et (x1.trans (nY.trans x5))) h5⟩
   have rs:aH β M4 H4 (v1::v2::.ref lf::ws++gK) (d1::d2::.bZ lf o c oc vcs cH::es++dd):=.cons (r1.ex nY) (.cons (r2.ex Wm) (.cons (UI.ex x4) (r4.append (Wl _ _ _))));exact rs
  ·exact h2.elim
end
end L2
namespace L2
open PySem PySem.Spec PyProof.Rows
theorem E5 {P:en}{w:ii}{K:bn}{mg mb:br->Option am}{CX:iC}{k:Nat}{fa a:al}{fd:ln}{x:br}{sp:Sp}{aC:ar}{vs:List am}{ns:List Int}{tabs lts:List al}
  (KX:K.In aC.heap) (ie:aC.heap.Ns mainGlobals mg) (hb:aC.heap.Ns builtinsNs mb) (Wn:∀x:br,x ≠ "__name__" -> mb x=bootBuiltins x) (OY:aC.heap.NoLimit) (hg:aC.gens=#[])
  (ha:aC.heap.get? a=some {cls:=.type "list",data:=.seq vs.toArray}) (hi:WP vs ns) (hl:ns.length<=sizeLine) (hr:cj k callerA)
  (kD:∀p∈tabs++lts,aC.heap.get? p=some (PM #[])/\isCodeTable aC.heap p) (UK:∀p∈tabs,p ∉ lts) (E6:Zk K=true) (eU:∃bm ob,Y9 aC.heap mainGlobals mg bm ob)
  (F:∀base:hX,K.In base->base.Ns mainGlobals mg->(∃bm ob,Y9 base mainGlobals mg bm ob)->(∀c p,wb aC.heap c p->wb base c p)->FnOk P w K mg base CX k fa fd [x] sp)
  (Rw:∀(s:ar) (u:am),ZB s fd ⟨[u],[]⟩ [(x,u)])
  (lF:∀H:Hp,(∀p∈tabs,Tb p H)->(∀p∈lts,H p=some (.lam #[]))->b9 K H a (ns.map V.int)->sp [.ref a] H (fun v H'=>v=.bl true/\∀p∈lts,∃ps,H' p=some (.lam ps)) fun _ _ _=>False)
  (OZ:∀H e s',CX [] H aC (fun _ _ _=>False) e s'->False) :
  codeAny (model P w) callerA (.call (.ref fa) ⟨[.ref a],[]⟩) (fun r s'=>r=.ok (.ret (.bool true))/\OldK aC.heap s'.heap/\s'.os=aC.os/\ZZ s'.gens) aC :=by
 have rv:=uV hi;have UL:=hi.length;have iL:a ∉ tabs++lts:=fun z=>by
  have e:=(kD a z).1;rw[ha]at e;cases e
 have core:∀H:Hp,(∀b u,H b=some u->(b=a/\∃o xs,u=.bQ o (.lst xs))\/(b∈tabs++lts/\(u=.di #[]/\b∈tabs\/u=.lam #[]/\b∈lts)))->(∀p∈tabs,H p=some (.di #[]))->(∀p∈lts,H p=some (.lam #[]))->b9 K H a (ns.map V.int)->c0 P w H aC.heap->(H a≠none->K.lookup a=none)->
   codeAny (model P w) callerA (.call (.ref fa) ⟨[.ref a],[]⟩) (fun r s'=>r=.ok (.ret (.bool true))/\OldK aC.heap s'.heap/\s'.os=aC.os/\ZZ s'.gens) aC :=by
  intro H hO Wo Wq hS hok hK;have pU:∀{b:al} {o:i8},aC.heap.get? b=some o->H b=none->(kj aC.heap H).get? b=some o:=fun e n=>F9 e n
  have no:∀{b:al} {o:i8},aC.heap.get? b=some o->(∀n,o.data≠.seq vs.toArray n)->o≠PM #[]->H b=none:=fun {b o} e d1 d2=>by
   cases q:H b with
   |none=>rfl
   |some u=>
    rcases hO b u q with ⟨e',_⟩|⟨ip,_⟩
    ·subst e';rw[ha]at e;cases e;exact absurd rfl (d1 _)
    ·rw[(kD b ip).1]at e;exact absurd (gl e).symm d2
  have Wr:∀{b:al} {o:i8} {es:Array SZ} {ep:Nat},aC.heap.get? b=some o->o.data=.dict es ep->H b=none:=fun {b o es ep} e d=>no e (fun n z=>by rw[d]at z;cases z) fun z=>by rw[z]at d;cases d
  have E7:∀{b:al} {m:br->Option am},aC.heap.Ns b m->(kj aC.heap H).Ns b m:=fun {b m} hS=>by obtain⟨o,es,ep,e,d,r⟩:=hS;exact⟨o,es,ep,pU e (Wr e d),d,r⟩
  have S5:K.In (kj aC.heap H):=fun b o e=>pU (KX b o e) (by
   cases q:H b with
   |none=>rfl
   |some u=>
    rcases hO b u q with ⟨e',_⟩|⟨ip,_⟩
    ·subst e';rw[hK (by rw[q];simp)]at e;cases e
    ·have e1:=KX b o e;have e2:=(kD b ip).1;rw[e1]at e2;have e3:o=PM #[]:=gl e2;have q2:=xw.mp E6 (b,o) (PySem.W.kb_mem e);simp only[ZQ,decide_eq_true_eq,beq_iff_eq]at q2;rcases q2 with (q2|q2)|q2
     ·rw[e3]at q2;exact absurd rfl q2
     ·obtain⟨mc,⟨oc,es,ep,ho,hd,_⟩,_⟩:=OY;rw[<- q2,e1]at ho;cases ho;rw[e3]at hd;cases hd
     ·obtain⟨oc,es,ep,ho,hd,_⟩:=id ie;rw[<- q2,e1]at ho;cases ho;rw[e3]at hd;cases hd)
  have hM:Mod K mg (kj aC.heap H):=⟨S5,E7 ie,⟨mb,E7 hb,Wn⟩,let ⟨mc,h1,h2⟩:=OY;⟨mc,E7 h1,h2⟩⟩;have hB:∃bm ob,Y9 (kj aC.heap H) mainGlobals mg bm ob :=by
   obtain⟨bm,ob,B⟩:=eU;exact⟨bm,ob,E7 B.ns,B.name,B.ne,pU B.obj (no B.obj (fun n z=>by rw[B.data]at z;cases z) fun z=>by have:=B.data;rw[z]at this;cases this),B.cls,B.dict,B.data⟩
  have hC:∀c p,wb aC.heap c p->wb (kj aC.heap H) c p:=fun c p ⟨o,Em,file,tf,flags,tg,Ws,text,tt,e1,e2,e3,r⟩=>
   ⟨o,Em,file,tf,flags,tg,Ws,text,tt,pU e1 (no e1 (fun n z=>by rw[e3]at z;cases z) fun z=>by rw[z]at e2;cases e2),e2,e3,r⟩
  have e0:tL P w K mg (kj aC.heap H) callerA [] aC H:=⟨rfl,hM,fun b o e=>JQ e,Nat.le_of_eq (C5 _ _),trivial,fun b hb=>absurd (show b∈([]:List al) from hb) (by simp),hok,.of_eq hg⟩
  refine Yc ((F _ S5 (E7 ie) hB hC).run callerA [] aC H ⟨[.ref a],[]⟩ [.ref a] [.ref a] _ _ hr e0 (Rw aC (.ref a)) (.cons rfl .nil) (lF H (fun p hp=>⟨#[],Wo p hp,trivial⟩) Wq hS)) fun r s' h=>?_
  cases r with
  |error e=>exact(OZ H e s' h).elim
  |ok fl=>
   cases fl with
   |next=>exact FF h
   |brk=>exact FF h
   |cont=>exact FF h
   |ret u=>
    obtain⟨v,H',os,bare,un,Hw,r',q⟩:=h;obtain⟨q',qL⟩:=q;subst q';obtain rfl:u=YI true:=r';have all:∀b o,aC.heap.get? b=some o->asItWas aC.heap s'.heap b o/\∃o',s'.heap.get? b=some o':=fun b o e=>by
     cases q:H b with
     |none=>
      have:=un.keep b o e q (by intro z;exact absurd (show b∈([]:List al) from z) (by simp)) (by simp)
      exact⟨.inl this,_,this⟩
     |some u=>
      rcases hO b u q with ⟨_,ob,xs,z⟩|⟨ip,z⟩
      ·subst z;have z2:=un.frzs b ob _ q;obtain⟨e1,_⟩:=hok b _ q;obtain⟨e2,_⟩:=Hw b _ z2;rw[e]at e1;cases e1;exact⟨.inl e2,_,e2⟩
      ·have e2:∃more,s'.heap.get? b=some {cls:=.none,data:=.fields (#[]++more)}:=by
        rcases z with ⟨z,_⟩|⟨z,Ah⟩
        ·subst z;obtain⟨more,z2⟩:=un.tbls b #[] q;exact⟨more,Hw b _ z2⟩
        ·obtain⟨ps,z2⟩:=qL b Ah;refine⟨ps,?_⟩;have:=Hw b _ z2;rw[show (#[]:Array am)++ps=ps by simp]
         exact this
       obtain⟨more,e2⟩:=e2;have e1:=(kD b ip).1;rw[e]at e1;obtain rfl:o=PM #[]:=gl e1;exact⟨.inr (.inl ⟨(kD b ip).2,rfl,#[],more,rfl,e2⟩),_,e2⟩
    exact⟨rfl,⟨fun b o e=>(all b o e).1,fun b o e=>(all b o e).2⟩,os,bare.1⟩
 have O1:∀p∈tabs++lts,∀H:Hp,∀u,(u=.di #[]/\p∈tabs\/u=.lam #[]/\p∈lts)->ObjOk P w H aC.heap p u:=fun p hp H u hu=>by
  rcases hu with ⟨rfl,_⟩|⟨rfl,_⟩<;>exact(kD p hp).1
 let T:Hp:=fun b=>if b∈lts then some (.lam #[]) else if b∈tabs then some (.di #[]) else none
 have T1:∀b u,T b=some u->b∈tabs++lts/\(u=.di #[]/\b∈tabs\/u=.lam #[]/\b∈lts):=fun b u z=>by
  by_cases h1:b∈lts
  ·have z':=(show T b=_ from if_pos h1).symm.trans z;cases z';exact⟨l3 _ h1,.inr ⟨rfl,h1⟩⟩
  ·by_cases h2:b∈tabs
   ·have z':=(show T b=_ from (if_neg h1).trans (if_pos h2)).symm.trans z;cases z';exact⟨AN _ h2,.inl ⟨rfl,h2⟩⟩
   ·have z':=(show T b=_ from (if_neg h1).trans (if_neg h2)).symm.trans z;cases z'
 have T2:∀p∈tabs,T p=some (.di #[]):=fun p hp=>(if_neg (UK p hp)).trans (if_pos hp)
 have T3:∀p∈lts,T p=some (.lam #[]):=fun p hp=>if_pos hp
 have Ta:T a=none:=(if_neg fun z=>iL (l3 _ z)).trans (if_neg fun z=>iL (AN _ z))
 cases hk:K.lookup a with
 |some o=>
  have e:=KX a o hk;rw[ha]at e;cases e;exact core T (fun b u z=>.inr (T1 b u z)) T2 T3 (.inr ⟨_,vs.toArray,_,hk,rfl,rfl,rfl,by rw[f8,UL];exact hl,by simpa using rv⟩) (fun b u z=>O1 b (T1 b u z).1 _ u (T1 b u z).2) fun z=>absurd Ta z
 |none=>
  have na:∀p∈tabs++lts,p≠a:=fun p hp z=>iL (z▸hp)
  refine core (upd T a (.bQ {cls:=.type "list",data:=.seq vs.toArray} (.lst (ns.map V.int)))) (fun b u z=>?_) (fun p hp=>by rw[ah (na p (AN _ hp))];exact T2 p hp) (fun p hp=>by rw[ah (na p (l3 _ hp))];exact T3 p hp) (.inl (.inr ⟨_,aB⟩)) (fun b u z=>?_) fun _=>hk
  ·by_cases hb:b=a
   ·subst hb;rw[aB]at z;cases z;exact .inl ⟨rfl,_,_,rfl⟩
   ·rw[ah hb]at z;exact .inr (T1 b u z)
  ·by_cases hb:b=a
   ·subst hb;rw[aB]at z;cases z;exact⟨ha,by rw[ca];exact hl,vs,_,rv,ha⟩
   ·rw[ah hb]at z;exact O1 b (T1 b u z).1 _ u (T1 b u z).2
def wF (K:bn) (x:br):Option al:=match mT K mainGlobals x with
 |some (some (.ref f))=>(match K.lookup f with
  |some ⟨_,_,.func fd,_⟩=>(match fd.code with
   | .ref c=>(match K.lookup c with
    |some ⟨_,_,.fields vs,_⟩=>(match vs[11]? with|some (l7 p)=>some p|_=>none)
    |_=>none)
   |_=>none)
  |_=>none)
 |_=>none
abbrev TabOf (mg:br->Option am) (h:hX) (y:br) (p:al):Prop:=∃f o fd c,mg y=some (.ref f)/\h.get? f=some o/\o.data=.func fd/\fd.code=.ref c/\wb h c p
theorem yA {K:bn}{mg:br->Option am}{h:hX}{y:br}{p q:al}(X:K.In h) (G:h.Ns mainGlobals mg) (t:TabOf mg h y p) (e:wF K y=some q):p=q :=by
 obtain⟨f,o,fd,c,e1,e2,e3,e4,oc,vs,_,_,_,_,_,_,_,g1,_,g3,g4,_⟩:=t;unfold wF at e;split at e
 ·rename_i f' ie;have:=(SS X G ie).symm.trans e1;cases this;split at e
  ·rename_i OU XJ IG Sa O2;have:=(X _ _ O2).symm.trans e2;cases this;cases e3;rw[e4]at e;dsimp only at e;split at e
   ·rename_i a1 a2 Em a3 Wt;have:=(X _ _ Wt).symm.trans g1;cases this;cases g3;rw[g4]at e;cases e;rfl
   ·cases e
  ·cases e
 ·cases e
def ud (K:bn) (gs ls:List br):Bool:=gs.all fun x=>ls.all fun y=>match wF K x,wF K y with|some p,some q=>decide (p≠q)|_,_=>false
theorem AF {α β:Type}{F:α->β->Prop}{l:List α}{m:List β}(h:FM F l m) {b:β}(hb:b∈m):∃a∈l,F a b :=by
 induction h with
 |nil=>simp at hb
 |cons x t ih=>
  rcases im.mp hb with e|e
  ·subst e;exact⟨_,gc,x⟩
  ·obtain⟨a,ha,q⟩:=ih e;exact⟨a,c8 _ ha,q⟩
theorem Hx {K:bn}{mg:br->Option am}{h:hX}{gs ls:List br}{tabs lts:List al}(X:K.In h) (G:h.Ns mainGlobals mg) (d:ud K gs ls=true) (t1:FM (TabOf mg h) gs tabs) (t2:FM (TabOf mg h) ls lts):∀p∈tabs,p ∉ lts:=fun p hp hq=>by
 obtain⟨x,hx,tx⟩:=AF t1 hp;obtain⟨y,hy,ty⟩:=AF t2 hq;have:=xw.mp (xw.mp d x hx) y hy;split at this
 ·rename_i p' q' e1 e2;have a:=yA X G tx e1;have b:=yA X G ty e2;exact(of_decide_eq_true this) (a.symm.trans b)
 ·cases this
theorem Hy {l:ZU}{n k:Nat}{q:en}{loose:List br}{XP:(br->Option am)->hX->Prop}{YP:ii->hX->Prop}{d:DefRec}{K:Z9->bn}{CX:iC}{sp:bn->List al->List al->Sp}{x:br}{nU E8:List br}
  (hn:l.most=some n) (Wu:n<=sizeLine) (DE:d.params.defaults=[]) (hr:cj k callerA) (E6:∀w:ii,Zk (K w.params)=true)
  (Jn:∀y∈nU++E8,∃r∈recsOf q,r.name=y) (qk:∀w:ii,ud (K w.params) nU E8=true)
  (hY:∀(w:ii) (h:hX),YP w h->(K w.params).In h)
  (F:∀(w:ii) (mg:br->Option am) (fa:al) (h:hX) (tabs lts:List al),(K w.params).In h->h.Ns mainGlobals mg->mg d.name=some (.ref fa)->
   FM (TabOf mg h) nU tabs->FM (TabOf mg h) E8 lts->
   ∃fd:ln,(∀(s:ar) (u:am),ZB s fd ⟨[u],[]⟩ [(x,u)]) /\
    ∀base:hX,(K w.params).In base->base.Ns mainGlobals mg->(∃bm ob,Y9 base mainGlobals mg bm ob)->(∀c p,wb h c p->wb base c p)->FnOk l.prog w (K w.params) mg base CX k fa fd [x] (sp (K w.params) tabs lts))
  (lF:∀(K:bn) (tabs lts:List al) (H:Hp) (a:al) (ns:List Int),lts.length=E8.length->ns.length<=n->(∀p∈tabs,Tb p H)->(∀p∈lts,H p=some (.lam #[]))->b9 K H a (ns.map V.int)->sp K tabs lts [.ref a] H (fun v H'=>v=.bl true/\∀p∈lts,∃ps,H' p=some (.lam ps)) fun _ _ _=>False)
  (OZ:∀(H:Hp) (s:ar) (e:am) (s':ar),CX [] H s (fun _ _ _=>False) e s'->False) :
  PySem.W.WalkO q loose XP YP l.row.toRowW d [] (fun f vs=>Z0 f vs) :=by
 refine Si.zx hn DE fun w s₀ aC mg mb fa o pm cd doc a vs ns G Y ho hd eT DF GB hints hlen hg=>?_
 have KX:=hY w _ Y;have tb:∀nU:List br,(∀y∈nU,∃r∈recsOf q,r.name=y)->∃tabs,FM (TabOf mg aC.heap) nU tabs/\∀p∈tabs,aC.heap.get? p=some (PM #[])/\isCodeTable aC.heap p :=by
  intro nU;induction nU with
  |nil=>intro _;exact⟨[],.nil,fun p hp=>absurd hp (by simp)⟩
  |cons y r ih=>
   intro hm;obtain⟨tabs,h1,h2⟩:=ih fun z hz=>hm z (c8 _ hz)
   obtain⟨rr,Wv,e⟩:=hm y gc;obtain⟨f,o',fd,c,p,a1,a2,a3,a4,a5,a6⟩:=G.T.tab rr Wv;rw[e]at a1;refine⟨p::tabs,.cons ⟨f,o',fd,c,a1,a2,a3,a4,.of a5 a6⟩ h1,fun z hz=>?_⟩
   rcases im.mp hz with rfl|hz
   ·exact⟨a6.2,a6.isCodeTable⟩
   ·exact h2 z hz
 obtain⟨tabs,t1,t2⟩:=tb nU fun y hy=>Jn y (AN _ hy)
 obtain⟨lts,u1,u2⟩:=tb E8 fun y hy=>Jn y (l3 _ hy)
 obtain⟨fd,hb,hF⟩:=F w mg fa _ tabs lts KX G.T.g DF t1 u1;exact E5 (lts:=lts) KX G.T.g G.T.b G.T.builtins G.T.nolimit hg GB hints (sw hlen Wu) hr (fun p hp=>(zw.mp hp).elim (t2 p) (u2 p)) (Hx KX G.T.g (qk w) t1 u1) (E6 w) (PySem.W.bmod_of_top G.T) hF hb (fun H hO hL hS=>lF _ tabs lts H a ns (SL u1).symm hlen hO hL hS) fun H e s'=>OZ H aC e s'
abbrev oW (K:bn) (x:br) (st:r9) (dv:am):Prop:=
 ∃(f:al) (oc:am) (od:Option al) (sl:Array (Option am)) (T:al) (oT:i8) (nT:Nat) (kV dc pm:am) (an:Option al) (cd ct:am),
  mT K mainGlobals x=some (some (.ref f))/\K.lookup f=some ⟨oc,od,.func (AC x x (dw st) (bU st) (aj st) (.ref T) kV dc pm an cd ct),sl⟩/\Mn K cd x=true/\ES K (.ref f)=true/\K.lookup T=some oT/\oT.data=.seq #[dv] nT
theorem E9 {K:bn}{x:br}{st:r9}{dv:am}{f:al}{oc:am}{od:Option al}{sl:Array (Option am)}{T:al}{oT:i8}{nT:Nat}{kV dc pm:am}{an:Option al}{cd ct:am}(a:mT K mainGlobals x=some (some (.ref f)))
  (l:K.lookup f=some ⟨oc,od,.func (AC x x (dw st) (bU st) (aj st) (.ref T) kV dc pm an cd ct),sl⟩) (c:Mn K cd x=true) (k:ES K (.ref f)=true) (t:K.lookup T=some oT) (u:oT.data=.seq #[dv] nT):oW K x st dv:=⟨f,oc,od,sl,T,oT,nT,kV,dc,pm,an,cd,ct,a,l,c,k,t,u⟩
theorem oW.df {K:bn}{mg:br->Option am}{h:hX}{x:br}{st:r9}{dv:am}(d:oW K x st dv) (X:K.In h) (G:h.Ns mainGlobals mg) (ps:List br)
  (hb:∀(T:al) (kV doc pm:am) (an:Option al) (de ct:am) (us:List am),us.length+1=ps.length->∃k,bindArgs (AC x x (dw st) (bU st) (aj st) (.ref T) kV doc pm an de ct) ⟨us,[]⟩=seqItems? (.ref T)>>=k/\k (some #[dv])=pure (ps.zip (us++[dv])))
  (IH:∀(T:al) (kV doc pm:am) (an:Option al) (de ct:am) (us:List am),us.length=ps.length->∃k,bindArgs (AC x x (dw st) (bU st) (aj st) (.ref T) kV doc pm an de ct) ⟨us,[]⟩=seqItems? (.ref T)>>=k/\k (some #[dv])=pure (ps.zip us)) :
  ∃f fd,Jk K mg x st ps [dv] f fd :=by
 obtain⟨f,oc,od,sl,T,oT,nT,kV,dc,pm,an,cd,ct,a,l,c,k,t,u⟩:=d;refine⟨f,_,⟨oc,od,.ref T,kV,dc,pm,an,cd,ct,sl,rfl,l,c⟩,k,fun s us hK hl=>?_,fun s us hK hl=>?_,SS X G a⟩
 ·obtain⟨kk,h1,h2⟩:=hb T kV dc pm an cd ct us (by rw[xz]at hl;exact hl)
  exact PySem.W.binds_K hK rfl t u h1 h2
 ·rw[Lu]at hl ⊢;obtain⟨kk,h1,h2⟩:=IH T kV dc pm an cd ct us hl;exact PySem.W.binds_K hK rfl t u h1 h2
theorem Hz {K:bn}{tabs lts:List al}{qs:List br}{H:Hp}{a:al}{ns:List Int}(hl:lts.length=qs.length) (hn:ns.length<=63) (hT:∀p∈tabs,Tb p H) (hL:∀p∈lts,H p=some (.lam #[])) (hS:b9 K H a (ns.map V.int)) :
  spLaw K ⟨tabs,lts.zip qs⟩ [.ref a] H (fun v H'=>v=.bl true/\∀p∈lts,∃ps,H' p=some (.lam ps)) fun _ _ _=>False:=
 ⟨a,ns,rfl,hS,hn,hT,fun p hp=>⟨#[],hL p.1 (GS hp).1,trivial,fun pos cv e=>nomatch e⟩,fun H' h=>⟨rfl,fun p hp=>by
  obtain⟨i,hi⟩:=wv.mp hp;have h1:=(ce.mp hi).1;exact h (p,qs[i]) (cr (i:=i) (ss.mpr ⟨hi,ap (by omega)⟩))⟩⟩
theorem Fb {K:bn}{x:br}{st:r9}{i:Int}{tk:Y1}{f:al}{oc:am}{od:Option al}{sl:Array (Option am)}{T:al}{oT:i8}{nT:Nat}{kV dc pm:am}{an:Option al}{cd ct:am}(a:mT K mainGlobals x=some (some (.ref f)))
  (l:K.lookup f=some ⟨oc,od,.func (AC x x (dw st) (bU st) (aj st) (.ref T) kV dc pm an cd ct),sl⟩) (c:Mn K cd x=true) (k:ES K (.ref f)=true) (t:K.lookup T=some oT) (u:oT.data=.seq #[.int i tk] nT):∃tk,oW K x st (.int i tk):=⟨tk,E9 a l c k t u⟩
structure dJ (h:hX) (d:al) (es:Array SZ) (ep:Nat):Prop where
 ex:∃o,h.get? d=some o/\o.cls=.type "dict" /\ o.data=.dict es ep
abbrev sP (d:al) (i n ep:Nat):i8:={cls:=.type "dict_keyiterator",dict:=none,data:=.fields #[.ref d,.int i 0,.int n 0,.int ep 0],slots:=#[]}
theorem sQ (d:al):¬ ((l7 d==AM)=true):=fun z=>nomatch (show false=true from z)
section
variable {prog:en}{w:ii}{A:l5}{E:am->ar->Prop}{s:ar}{d it:al}{es:Array SZ}{ep i:Nat}
theorem vG {Q:am->ar->Prop}(lo:(d==sysModules)=false) (r:dJ s.heap d es ep) (q:Q (.ref s.heap.objs.size) {s with heap:=s.heap.push (sP d 0 es.size ep)}) :
  wpAny (model prog w) A (pyIter (.ref d)) Q E s :=by
 obtain⟨o,g,c,dt⟩:=r;have ty:s.TypeIs (.ref d) "dict" := ⟨o,g,c⟩
 refine Yn ty PySem.F.slot_dict_iter (ut PySem.F.slot_dict_iter ty PySem.F.entry_dict_iter ?_ (PySem.F.args_dict_iter_1 _));unfold mf.«dict.__iter__» mf.Dict.dictSlotNone;refine ag (ag (wpAny_notOrdered_dict ty ?_));refine(show wpAny _ _ (pure (l7 d)) _ _ s from bi ?_);refine(show wpAny _ _ (WS d>>=_) _ _ s from ?_);unfold WS;rw[if_neg (by rw[lo];decide)]
 refine ag (bi (ag (NL g dt (ag (T0 g dt ?_)))));refine ag (tw (bi ⟨_,rfl,"dict_keyiterator",_,⟨_,ci _ rfl,rfl⟩,EN.lookup,?_⟩))
 simpa[rawInt,sP] using q
theorem vH {Q:Option am->ar->Prop}(gi:s.heap.get? it=some (sP d i es.size ep)) (r:dJ s.heap d es ep) (hi:i<es.size)
  (q:∀h',h'.get? it=some (sP d (i+1) es.size ep)->rf it s.heap h'->Q (some es[i].key) {s with heap:=h'}):wpAny (model prog w) A (pyNext (.ref it)) Q E s :=by
 obtain⟨o,g,c,dt⟩:=r;have ty:s.TypeIs (.ref it) "dict_keyiterator" := ⟨_,gi,rfl⟩
 unfold pyNext;refine ag (GE (tz (name:=wn "__next__") ty EN (ut EN ty PySem.F.entry_dict_keyiterator_next ?_ (PySem.F.args_dict_keyiterator_next_1 _))))
 refine ag (bi (ag (ag ?_)));refine ag (NO ty (bi (ag (Op gi rfl ?_))));simp only[show IT "dict_keyiterator" = false by decide,l8,if_false]
 refine(show wpAny _ _ (if (l7 d==AM)=true then _ else _) _ _ s from ?_)
 rw[if_neg (sQ d)];refine ag (bi (ag (NL g dt ?_)));rw[if_neg (by simp)]
 refine ag (bi (ag (T0 g dt ?_)));rw[if_neg (by simp)]
 refine bi ?_;simp only[show ¬ ((i:Int)<0) by omega,if_false,kw,xL hi]
 refine ag (ag (NO ty (bi (ag (wpAny_isOneOf_keyiter ty ?_)))));refine(show wpAny _ _ (setField (.ref it) 1 (rawInt ((i:Int)+1))>>=_) _ _ s from ag (sB gi (by simp) fun h1 e1 b1=>?_))
 have e1:h1.get? it=some (sP d (i+1) es.size ep) :=by
  rw[e1];simp[sP,rawInt]
 refine ag (EO (ag (wpAny_isOneOf_keyiter (s:={s with heap:=h1}) ⟨_,e1,rfl⟩ ?_)))
 exact(show wpAny _ _ (pure es[i].key) _ _ _ from bi (bi ⟨_,rfl,bi (q _ e1 b1)⟩))
theorem yB {Q:Option am->ar->Prop}(hh:A.handled=none) (gi:s.heap.get? it=some (sP d i es.size ep)) (r:dJ s.heap d es ep) (hi:es.size<=i)
  (q:∀h',Yu it s.heap h'->Q none {s with heap:=h'}):wpAny (model prog w) A (pyNext (.ref it)) Q E s :=by
 obtain⟨o,g,c,dt⟩:=r;have ty:s.TypeIs (.ref it) "dict_keyiterator" := ⟨_,gi,rfl⟩
 unfold pyNext;refine ag (GE (tz (name:=wn "__next__") ty EN (ut EN ty PySem.F.entry_dict_keyiterator_next ?_ (PySem.F.args_dict_keyiterator_next_1 _))))
 refine ag (bi (ag (ag ?_)));refine ag (NO ty (bi (ag (Op gi rfl ?_))));simp only[show IT "dict_keyiterator" = false by decide,l8,if_false]
 refine(show wpAny _ _ (if (l7 d==AM)=true then _ else _) _ _ s from ?_)
 rw[if_neg (sQ d)];refine ag (bi (ag (NL g dt ?_)));rw[if_neg (by simp)]
 refine ag (bi (ag (T0 g dt ?_)));rw[if_neg (by simp)]
 refine bi ?_;simp only[show ¬ ((i:Int)<0) by omega,if_false,kw,UV hi]
 refine ag (ag (NO ty (bi ?_)));refine(show wpAny _ _ (setField (.ref it) 0 .none>>=_) _ _ s from ag (sB gi (by simp) fun h1 e1 b1=>?_))
 refine(show wpAny _ _ (newExc (.type "StopIteration") []>>=_) _ _ _ from ag ?_)
 simp only[newExc,newTuple];refine ag (tw (ag (m:=firstArgMember _ _) (Yt (a:=AM) (by first|rfl|(simp only[firstArgMember];rfl)) (tw ?_ (by size_fits)))) (by size_fits))
 simp only[raiseNew];refine ag (wpAny_handled ?_);rw[show A.in1.handled=none from hh];refine ag (bi (wpAny_throw ?_));refine ag (Sk (T := "StopIteration") (b:=true) ⟨_,ci _ rfl,rfl⟩ Yf (bi (q _ ?_)))
 exact(b1.extBut.push _).push _
theorem Cg (d:al) (lo:(d==sysModules)=false):MeetsIn prog w (mf.«dict.items» ⟨[.ref d],[]⟩) (fun _ R s=>s.TypeIs (.ref d) "dict" /\ R (.ok (.ret (.ref s.heap.objs.size))) {s with heap:=s.heap.push {cls:=.type "dict_items",data:=.fields #[.ref d]}}):=
 .of_wp fun A R s ⟨ty,h⟩=>by
  unfold mf.«dict.items» mf.Dict.noArgs;refine ag (ag (wpAny_notOrdered_dict ty ?_));refine(show wpAny _ _ (pure d) _ _ s from bi ?_);refine(show wpAny _ _ (WS d>>=_) _ _ s from ?_);unfold WS;rw[if_neg (by rw[lo];decide)]
  exact ag (bi (ag (tw (bi ⟨_,rfl,h⟩))))
theorem Ci {R:am->ar->Prop}(lo:(d==sysModules)=false) (r:dJ s.heap d es ep) (q:R (.ref s.heap.objs.size) {s with heap:=s.heap.push {cls:=.type "dict_items",data:=.fields #[.ref d]}}) :
  wpAny (model prog w) A (call (.builtin "dict.items") [.ref d]) R E s :=by
 obtain⟨o,g,c,dt⟩:=r;have ty:s.TypeIs (.ref d) "dict" := ⟨o,g,c⟩
 exact YT PySem.F.slot_dict_items ty PySem.F.entry_dict_items (PySem.F.args_dict_items_1 _) (Cg d lo) ⟨ty,q⟩
theorem Cj {v:al}{Q:am->ar->Prop}(hv:s.heap.IsItemsView v d) (r:dJ s.heap d es ep)
  (q:∀h',h'.objs.size=s.heap.objs.size+1->YV h' s.heap.objs.size d 0 es.size ep .none .none->(∀b o,s.heap.get? b=some o->h'.get? b=some o)->Q (.ref s.heap.objs.size) {s with heap:=h'}):wpAny (model prog w) A (pyIter (.ref v)) Q E s :=by
 obtain⟨ov,gv,cv,dv⟩:=id hv;obtain⟨o,g,c,dt⟩:=r;refine Yn hv.typeIs PySem.F.slot_dict_items_iter (ut PySem.F.slot_dict_items_iter hv.typeIs PySem.F.entry_dict_items_iter ?_ (PySem.F.args_dict_items_iter_1 _));unfold mf.«dict_items.__iter__» mf.Dict_items.dictOf mf.Dict_items.newIterator;refine ag (bi (ag (ag (xp gv dv (x:=.ref d) rfl (bi ?_)))));refine ag (ag (NL g dt (ag (T0 g dt ?_))));simp only[show IT "dict_itemiterator" = true by decide,if_true]
 refine tw (bi ⟨_,rfl,"dict_itemiterator",_,⟨_,ci _ rfl,rfl⟩,Do.lookup,q _ (wE ..) ?_ fun b o e=>ba _ e⟩) ?_
 ·refine(ci _ rfl).trans ?_;simp[rawInt,mf.Dict_items.ownedTupleFields]
 ·simp only[sizeOk,mf.Dict_items.ownedTupleFields,f8,xz,xy,NE];decide
theorem Ck {ok ov:am}{Q:Option am->ar->Prop}(gi:YV s.heap it d i es.size ep ok ov) (r:dJ s.heap d es ep) (hi:i<es.size)
  (q:∀h',IsItemIterOut h' it d (i+1) es.size ep es[i].key es[i].val s.heap.objs.size->h'.get? s.heap.objs.size=some {cls:=.type "tuple",data:=.seq #[es[i].key,es[i].val]}->h'.objs.size=s.heap.objs.size+1->
   (∀b o,b≠it->s.heap.get? b=some o->h'.get? b=some o)->Q (some (.ref s.heap.objs.size)) {s with heap:=h'}):wpAny (model prog w) A (pyNext (.ref it)) Q E s :=by
 obtain⟨hp,gn,dr,tk,os⟩:=s;obtain⟨o,g,c,dt⟩:=r;have ty:X6 ⟨hp,gn,dr,tk,os⟩ (.ref it) "dict_itemiterator" := ⟨_,gi,rfl⟩
 unfold pyNext;refine ag (GE (tz (name:=wn "__next__") ty Do (ut Do ty PySem.F.entry_dict_itemiterator_next ?_ (PySem.F.args_dict_itemiterator_next_1 _))))
 refine ag (bi (ag (ag ?_)));refine ag (NG ty (bi (ag (Op gi rfl ?_))));simp only[show IT "dict_itemiterator" = true by decide,if_true]
 refine(show wpAny _ _ (if (l7 d==AM)=true then _ else _) _ _ _ from ?_)
 rw[if_neg (sQ d)];refine ag (bi (ag (NL g dt ?_)));rw[if_neg (by simp)]
 refine ag (bi (ag (T0 g dt ?_)));rw[if_neg (by simp)]
 refine bi ?_;simp only[show ¬ ((i:Int)<0) by omega,if_false,kw,xL hi]
 refine ag (ag (NG ty (bi (ag (Yw ty ?_)))));refine(show wpAny _ _ (setField (.ref it) 3 (rawInt ((i:Int)+1))>>=_) _ _ ⟨hp,gn,dr,tk,os⟩ from ag (sB gi (by simp) fun h1 e1 b1=>?_))
 have e1:YV h1 it d (i+1) es.size ep ok ov:=e1.trans (by simp[rawInt])
 have S6:X6 ⟨h1,gn,dr,tk,os⟩ (.ref it) "dict_itemiterator" := ⟨_,e1,rfl⟩
 refine ag (EO (ag (Yw S6 (ag (Yw S6 ?_)))));refine(show wpAny _ _ (mf.Dict_items.pairFromOwner (.ref it) 6 es[i].key es[i].val) _ _ ⟨h1,gn,dr,tk,os⟩ from ?_);unfold mf.Dict_items.pairFromOwner;refine ag (Zd ?_);have b1:rf it hp h1:=b1;have z1:h1.objs.size=hp.objs.size:=b1.1;have il:it<hp.objs.size:=ff gi;obtain⟨h2,Fc⟩:∃h2,h2=h1.push {cls:=.type "tuple",data:=.seq #[es[i].key,es[i].val]}:=⟨_,rfl⟩
 have e2:YV h2 it d (i+1) es.size ep ok ov :=by rw[Fc];exact ba _ e1
 have t2:h2.get? hp.objs.size=some {cls:=.type "tuple",data:=.seq #[es[i].key,es[i].val]}:=by rw[Fc,<- z1];exact ci _ rfl
 have z2:h2.objs.size=hp.objs.size+1 :=by rw[Fc,wE,z1]
 have k2:∀b o,b≠it->hp.get? b=some o->h2.get? b=some o:=fun b o hb e=>by rw[Fc];exact ba _ (b1.extBut b o hb e)
 refine(show wpAny _ _ (mf.Dict_items.ownedTupleIsFree (.ref it)>>=_) _ _ ⟨h1.push {cls:=.type "tuple",data:=.seq #[es[i].key,es[i].val]},gn,dr,tk,os⟩ from ?_)
 rw[<- Fc,z1];unfold mf.Dict_items.ownedTupleIsFree;refine ag (ag (xp e2 rfl (x:=.none) rfl (bi ?_)));simp only[if_true];refine ag (xp e2 rfl (x:=ok) rfl (ag (xp e2 rfl (x:=ov) rfl ?_)));refine ag (sB e2 (by simp) fun h3 e3 b3=>ag (sB e3 (by simp) fun h4 e4 b4=>ag (sB e4 (by simp) fun h5 e5 b5=>ag (sB e5 (by simp) fun h6 e6 b6=>?_))))
 have b3:rf it h2 h3:=b3;have b4:rf it h3 h4:=b4;have b5:rf it h4 h5:=b5;have b6:rf it h5 h6:=b6;have all:∀b o,b≠it->h2.get? b=some o->h6.get? b=some o:=fun b o n e=>b6.extBut b o n (b5.extBut b o n (b4.extBut b o n (b3.extBut b o n e)))
 refine ag (Yr (bi (bi ⟨_,rfl,bi (q h6 e6 (all _ _ (Gc il) t2) ?_ fun b o n e=>all b o n (k2 b o n e))⟩)))
 exact(show h6.objs.size=_ by rw[b6.1,b5.1,b4.1,b3.1,z2])
theorem Fd {ok ov:am}{Q:Option am->ar->Prop}(hh:A.handled=none) (gi:YV s.heap it d i es.size ep ok ov) (r:dJ s.heap d es ep) (hi:es.size<=i)
  (q:∀h',Yu it s.heap h'->Q none {s with heap:=h'}):wpAny (model prog w) A (pyNext (.ref it)) Q E s :=by
 obtain⟨o,g,c,dt⟩:=r;have ty:s.TypeIs (.ref it) "dict_itemiterator" := ⟨_,gi,rfl⟩
 unfold pyNext;refine ag (GE (tz (name:=wn "__next__") ty Do (ut Do ty PySem.F.entry_dict_itemiterator_next ?_ (PySem.F.args_dict_itemiterator_next_1 _))))
 refine ag (bi (ag (ag ?_)));refine ag (NG ty (bi (ag (Op gi rfl ?_))));simp only[show IT "dict_itemiterator" = true by decide,if_true]
 refine(show wpAny _ _ (if (l7 d==AM)=true then _ else _) _ _ s from ?_)
 rw[if_neg (sQ d)];refine ag (bi (ag (NL g dt ?_)));rw[if_neg (by simp)]
 refine ag (bi (ag (T0 g dt ?_)));rw[if_neg (by simp)]
 refine bi ?_;simp only[show ¬ ((i:Int)<0) by omega,if_false,kw,UV hi]
 refine ag (ag (NG ty (bi ?_)));refine(show wpAny _ _ (setField (.ref it) 2 .none>>=_) _ _ s from ag (sB gi (by simp) fun h1 e1 b1=>?_))
 refine(show wpAny _ _ (newExc (.type "StopIteration") []>>=_) _ _ _ from ag ?_)
 simp only[newExc,newTuple];refine ag (tw (ag (m:=firstArgMember _ _) (Yt (a:=AM) (by first|rfl|(simp only[firstArgMember];rfl)) (tw ?_ (by size_fits)))) (by size_fits))
 simp only[raiseNew];refine ag (wpAny_handled ?_);rw[show A.in1.handled=none from hh];refine ag (bi (wpAny_throw ?_));refine ag (Sk (T := "StopIteration") (b:=true) ⟨_,ci _ rfl,rfl⟩ Yf (bi (q _ ?_)))
 exact(b1.extBut.push _).push _
end
def Cm (es:Array SZ) (ps:List (V×V)):Prop:=es.size=ps.length/\∀(i:Nat) (p:V×V),ps[i]?=some p->∃hi:i<es.size,RelV p.1 es[i].key/\RelV p.2 es[i].val
inductive qX (H:Hp):HO->List (V×V)->Prop where
 |k (ak:List (Key×V)):qX H (.dK ak) (ak.map fun kv=>(kV kv.1,kv.2))
 |t (ak:List (List Key×V)) (bs:List al) (hl:bs.length=ak.length) (h:∀(i:Nat) (b:al) (kv:List Key×V),bs[i]?=some b->ak[i]?=some kv->H b=some (.tup (kv.1.map kV))):qX H (.dT ak) ((bs.map V.ref).zip (ak.map (·.2)))
theorem HA {P:en}{w:ii}{k:Key}{u:am}(h:(bA P w).is k u=true):RelV (kV k) u :=by
 rcases cJ (k:=k) (v:=u) h with ⟨i,t,rfl,rfl⟩|⟨x,t,rfl,rfl⟩
 ·exact⟨t,rfl⟩
 ·exact⟨t,rfl⟩
theorem md {α β:Type}{F:α->β->Prop}:∀{l:List α}{m:List β}{i:Nat}{a:α},FM F l m->l[i]?=some a->∃b,m[i]?=some b/\F a b
 |_,_,_,_,.nil,h=>by simp at h
 |_,_,0,_,.cons x _,h=>by simp at h;subst h;exact⟨_,rfl,x⟩
 |_,_,i+1,_,.cons _ t,h=>by obtain⟨b,e,q⟩:=md (i:=i) t (by simpa using h);exact⟨b,by simpa using e,q⟩
section
variable {P:en}{w:ii}{H:Hp}{h:hX}{a:al}{u:HO}
structure Rows (H:Hp) (h:hX) (a:al) (u:HO) (o:i8) (es:Array SZ) (ep:Nat) (ps:List (V×V)):Prop where
 obj:h.get? a=some o
 cls:o.cls=.type "dict"
 dict:o.dict=none
 data:o.data=.dict es ep
 lo:(a==sysModules)=false
 rel:Cm es ps
 ps:qX H u ps
theorem ue (ok:c0 P w H h) (e:Rd H a u) (hu:iN u=true):∃o es ep ps,Rows H h a u o es ep ps :=by
 have q:=e.ok ok;cases u with
 |dK ak=>
  obtain⟨z,lo,vs,rel,o,es,ep,g,x,dt,hk,hp,hn⟩:=q;refine⟨o,es,ep,_,g,x.1,x.2.1,dt,lo,⟨?_,fun i p hi=>?_⟩,.k ak⟩
  ·have h1:=hp.length;have h2:=rel.length;simp only[ca,ww]at h1 ⊢;omega
  ·rw[bv,i0]at hi;obtain⟨kv,me,rfl⟩:=hi;obtain⟨⟨k',v'⟩,hv,e1,e2⟩:=md rel me;have hl:i<es.size :=by
    have h1:=hp.length;have h2:=(ce.mp hv).1;simp only[ww]at h1;omega
   obtain⟨a1,a2⟩:=hp.get? (e:=es[i]) (by simp[hl]) hv
   refine⟨hl,?_,?_⟩
   ·rw[e1];exact HA a1
   ·rw[a2];exact e2
 |dT ak=>
  obtain⟨z,lo,xs,rel,o,es,ep,g,x,dt,he,hn⟩:=q;have Ww:ak.length=xs.length:=SL rel;have fZ:es.size=xs.length :=by
   have:=congrArg List.length he;simpa using this
  refine⟨o,es,ep,_,g,x.1,x.2.1,dt,lo,⟨?_,fun i p hi=>?_⟩,.t ak (xs.map (·.2.1)) (by rw[ca];exact Ww.symm) fun i b kv hb me=>?_⟩
  ·simp only[BS,ca];omega
  ·rw[ss,ma,bv,bv,i0,i0]at hi;obtain⟨⟨x1,Fe,e1⟩,⟨kv,me,e2⟩⟩:=hi;obtain⟨x2,Ff,_,_,r⟩:=md rel me;rw[Fe]at Ff;cases Ff;have hl:i<es.size :=by rw[fZ];exact(ce.mp Fe).1
   have n6:es[i]=entryOfKey (tupleKind (bA P w)) x1 :=by
    have:es.toList[i]?=some (entryOfKey (tupleKind (bA P w)) x1) :=by rw[he,bv,Fe];rfl
    rw[MW,xL hl]at this;exact gl this
   refine⟨hl,?_,?_⟩
   ·rw[n6,<- e1];rfl
   ·rw[n6,<- e2];exact r
  ·rw[bv,i0]at hb;obtain⟨x1,Fe,rfl⟩:=hb;obtain⟨x2,Ff,e1,e2,_⟩:=md rel me;rw[Fe]at Ff;cases Ff;exact e2
 |_=>cases hu
end
inductive ix (a:al) (o:i8) (u:HO) (H:Hp):Hp->Prop where
 |now (e:H a=some u) (hu:iN u=true):ix a o u H (upd H a (.bQ o u))
 |was (e:H a=some (.bQ o u)):ix a o u H H
theorem ix.at {a:al}{o:i8}{u:HO}{H H2:Hp}(f:ix a o u H H2):H2 a=some (.bQ o u) :=by
 cases f with
 |now e hu=>exact aB
 |was e=>exact e
section
variable {X:Cx}{pins:List (al×i8)}{σ:St}{H:Hp}{s:ar}{a:al}{o:i8}{u:HO}
theorem Inv.bQ (I:Inv X pins σ H s) (e:H a=some u) (hu:iN u=true) (ho:s.heap.get? a=some o):Inv X pins σ (upd H a (.bQ o u)) s :=by
 have nT:∀b v,H b=some v->iN v=false->b≠a:=fun b v q n z=>by rw[z,e]at q;cases q;rw[hu]at n;cases n
 have n0:∀b,H b=none->b≠a:=fun b q z=>by rw[z,e]at q;cases q
 have J:=I.un (t':=s.toks) (h':=s.heap) (H':=upd H a (.bQ o u)) ⟨fun b v q n _ _=>q,fun b v q n _ _=>⟨v.slots,q⟩,fun b v q n _=>by rw[ah (n0 b n)];exact n,fun b v q _=>⟨v,q⟩,fun b xs q=>by rw[ah (nT b _ q rfl)];exact q,
  fun b v xs q=>by rw[ah (nT b _ q rfl)];exact q,fun b qs q=>⟨#[],by rw[ah (nT b _ q rfl),q];simp⟩⟩ fun b v q=>?_
 ·exact J
 ·by_cases hb:b=a
  ·subst hb;rw[aB]at q;cases q;exact⟨ho,(I.hok b u e).cE (fun _ _ _ z=>z) (fun c z=>by rw[ah (nT c _ z rfl)];exact z) fun c xs z=>by rw[ah (nT c _ z rfl)];exact z⟩
  ·rw[ah hb]at q;exact(I.hok b v q).cE (fun _ _ _ z=>z) (fun c z=>by rw[ah (nT c _ z rfl)];exact z) fun c xs z=>by rw[ah (nT c _ z rfl)];exact z
theorem Inv.AG (I:Inv X pins σ H s) (d:Rd H a u) (hu:iN u=true):∃o H2 es ep ps,ix a o u H H2/\Inv X pins σ H2 s/\Rows H s.heap a u o es ep ps :=by
 obtain⟨o,es,ep,ps,R⟩:=ue I.hok d hu;rcases d with d|⟨o',d⟩
 ·exact⟨o,_,es,ep,ps,.now d hu,I.bQ d hu R.obj,R⟩
 ·have e:=(I.hok a _ d).1;rw[R.obj]at e;cases e;exact⟨o,H,es,ep,ps,.was d,I,R⟩
end
def O3 (a:al) (o:i8) (u:HO) (ks:List V):It:=⟨fun i H=>H a=some (.bQ o u)/\i<ks.length,fun i H x H'=>H'=H/\ks[i]?=some x,fun i H=>H a=some (.bQ o u)/\ks.length<=i⟩
def O4 (a:al) (o:i8) (u:HO) (ps:List (V×V)):It:=⟨fun i H=>H a=some (.bQ o u)/\i<ps.length,fun i H x H'=>∃t p,H t=none/\x=.ref t/\ps[i]?=some p/\H'=upd H t (.tup [p.1,p.2]),fun i H=>H a=some (.bQ o u)/\ps.length<=i⟩
section
variable {P:en}{w:ii}{K:bn}{a it:al}{o:i8}{u:HO}{es:Array SZ}{ep:Nat}{ps:List (V×V)}
theorem Fg {tg:db}(oU:o.cls=.type "dict") (Fh:o.data=.dict es ep) (rel:Cm es ps) (eR:a≠it):Turn P w K tg (O3 a o u (ps.map (·.1))) [it] it (fun i h=>h.get? it=some (sP a i es.size ep)) where
 mem :=by simp
 obj:=fun i h st b hb=>by
  have e:b=it :=by simpa using hb
  subst e;exact⟨_,st,fun v z=>nomatch z⟩
 keep:=fun i h h' st k=>k it (by simp) _ st
 item :=by
  intro X hP hw hK hc i pins s σ H E I hf st hg;subst hP hw hK;obtain⟨ha,hi⟩:=hg;rw[ca]at hi;have hr:dJ s.heap a es ep:=⟨o,(I.hok a _ ha).1,oU,Fh⟩;obtain⟨p,hp⟩:∃p,ps[i]?=some p:=⟨_,ap hi⟩;obtain⟨lH,r1,_⟩:=rel.2 i p hp;obtain⟨f0,f1,f2,f3,f4,f5⟩:=hf it (by simp)
  refine vH st hr lH fun h' lC sb=>?_
  have I1:Inv X pins σ H {s with heap:=h'}:=I.turned (t':=s.toks) (fun b o hb e=>(sb.2 b hb).trans e) f0 f1 f3 f4 f5
  exact⟨_,rfl,rK (s:={s with heap:=h'}) lC rfl rfl (by decide) ⟨p.1,H,I1,r1,⟨rfl,by rw[bv,hp];rfl⟩,lC,fun b hb=>(hf b hb).1⟩⟩
 done :=by
  intro X hP hw hK hc i pins s σ H E I hf st hg;subst hP hw hK;obtain⟨ha,hi⟩:=hg;rw[ca]at hi;have hr:dJ s.heap a es ep:=⟨o,(I.hok a _ ha).1,oU,Fh⟩;obtain⟨f0,f1,f2,f3,f4,f5⟩:=hf it (by simp)
  exact yB (I.ok.hd hc) st hr (by rw[rel.1];exact hi) fun h' eb=>⟨rfl,I.turned (t':=s.toks) (fun b o hb e=>eb b o hb e) f0 f1 f3 f4 f5⟩
 self:=fun _ i _ _ _ st h=>wpAny_pyIter_keyiter (d:=a) (i:=i) (n:=es.size) (ep:=ep) ⟨_,st,rfl,rfl⟩ h
theorem Cp {elts:List db}{x1:Nat}{pos:u4}(oU:o.cls=.type "dict") (Fh:o.data=.dict es ep) (rel:Cm es ps) (eR:a≠it):Turn P w K (.Tuple elts x1 pos) (O4 a o u ps) [it] it (fun i h=>∃ok ov,YV h it a i es.size ep ok ov) where
 mem :=by simp
 obj:=fun i h st b hb=>by
  obtain⟨ok,ov,st⟩:=st;have e:b=it :=by simpa using hb
  subst e;exact⟨_,st,fun v z=>nomatch z⟩
 keep:=fun i h h' ⟨ok,ov,st⟩ k=>⟨ok,ov,k it (by simp) _ st⟩
 item :=by
  intro X hP hw hK hc i pins s σ H E I hf st hg;subst hP hw hK;obtain⟨ok,ov,st⟩:=st;obtain⟨ha,hi⟩:=hg;have hr:dJ s.heap a es ep:=⟨o,(I.hok a _ ha).1,oU,Fh⟩;obtain⟨p,hp⟩:∃p,ps[i]?=some p:=⟨_,ap hi⟩;obtain⟨lH,r1,r2⟩:=rel.2 i p hp;refine Ck st hr lH fun h1 eo t1 z1 kk=>⟨_,rfl,wpAny_letOwnedTupleGo_items (s:={s with heap:=h1}) eo fun h2 e2 (eB:rf it h1 h2)=>?_⟩
  have il:it<s.heap.objs.size:=ff st;have I2:Inv X pins σ H {s with heap:=h2}:=I.mQ (t':=s.toks) (ch:=[it]) (fun b o hb q=>by
   have hb:b≠it :=by simpa using hb
   exact(eB.2 b hb).trans (kk b o hb q)) fun b hb=>hf b hb
  have t2:h2.get? s.heap.objs.size=some {cls:=.type "tuple",data:=.seq #[es[i].key,es[i].val]}:=(eB.2 _ (Gc il)).trans t1
  have hn:H s.heap.objs.size=none:=I.hok.fresh (cb _);refine⟨.ref s.heap.objs.size,_,Inv.pair (s:=s) (tk0:=s.toks) I (cb _) I2 t2 r1 r2,rfl,⟨_,p,hn,rfl,hp,rfl⟩,⟨_,_,e2⟩,fun b hb=>?_⟩
  have l:b≠s.heap.objs.size :=by
   have e:b=it :=by simpa using hb
   rw[e];exact i4 il
  rw[ah l];exact(hf b hb).1
 done :=by
  intro X hP hw hK hc i pins s σ H E I hf st hg;subst hP hw hK;obtain⟨ok,ov,st⟩:=st;obtain⟨ha,hi⟩:=hg;have hr:dJ s.heap a es ep:=⟨o,(I.hok a _ ha).1,oU,Fh⟩;obtain⟨f0,f1,f2,f3,f4,f5⟩:=hf it (by simp)
  exact Fd (I.ok.hd hc) st hr (by rw[rel.1];exact hi) fun h' eb=>⟨rfl,I.turned (t':=s.toks) (fun b o hb e=>eb b o hb e) f0 f1 f3 f4 f5⟩
 self:=fun A i s Q E st h=>by
  obtain⟨ok,ov,st⟩:=st;exact PySem.W.kcp_self st h
end
end L2
namespace L2
open PySem PySem.Spec PySem.W PyProof.Rows
section
variable {X:Cx}{Γ:Gz}{K:bn}
theorem aH.rep {β:Bz}{M:Mh}{H:Hp}{vs:List V}{ds:List Dv}(r:aH β M H vs ds):∀k:Nat,aH β M H (mo k vs).flatten (mo k ds).flatten
 |0=>⟨rfl,fun i v d h=>by simp at h⟩
 |k+1=>by rw[DD,DD,Pe,Pe];exact r.append (aH.rep r k)
open Classical in
theorem HB {A:l5}{E:am->ar->Prop}{s:ar}{P:en}{w:ii}{d:al}{o:i8}{es:Array SZ}{ep:Nat}{Q:am->ar->Prop}(hd:(d==sysModules)=false) (ho:s.heap.get? d=some o) (hc:o.cls=.type "dict") (UM:o.data=.dict es ep) (MU:(es.size:Int)<2 ^ 63)
  (h:Q (.int es.size (s.toks+1)) {s with toks:=s.toks+1+1}):wpAny (model P w) A (call (.builtin "len") [.ref d]) Q E s :=by
 have mt:Meets (mf.«dict.__len__» ⟨[.ref d],[]⟩) (fun _ R s'=>s'.heap.get? d=some o/\R (.ok (.ret (.int es.size s'.toks))) {s' with toks:=s'.toks+1}):=.of_wp fun P w A R s' ⟨hg,hR⟩=>by
  show wpAny _ _ (dictSize d>>=_) _ _ s';unfold dictSize;exact ag (ag (NL hg UM (bi (ag (wpAny_pendingCount_other hd (wpAny_ret_mkInt (by rw[Nat.add_zero];exact hR)))))))
 exact call_len_meets ⟨_,ho,hc⟩ F.slot_dict_len F.entry_dict_len (F.args_dict_len_1 _) mt (by omega) (by omega) (fun _ q=>⟨ho,q⟩) h
def zLenT (d:Dv) (M:Mh) (Q:ZK):Prop:=match nowK M d with | .dt ks _=>Q (.int ks.length) M|_=>False
theorem O5:gq Γ X (.builtin "len") (z1 zLenT):=⟨fun xs H Q=>∃a ak,xs=[.ref a]/\Rd H a (.dT ak)/\Q (.int ak.length) H,fun pins s σ H xs us Q I rs ⟨a,ak,e,ha,q⟩=>by
 subst e;cases rs with
 |cons r1 rs=>
  cases rs;cases r1;obtain⟨o,es,ep,ps,R⟩:=ue I.hok ha rfl;have hl:=(lQ I.hok ha).1;have hp:ps.length=ak.length :=by
   cases R.ps with
   |t _ bs hl h=>simp only[BS,ca];omega
  have he:es.size=ak.length:=R.rel.1.trans hp;refine HB R.lo R.obj R.cls R.data (by rw[he];rw[show sizeLine=16777216 from rfl]at hl;omega) ⟨.int ak.length,H,I.tok _,⟨_,by rw[he]⟩,q⟩,fun β xs ds M H Q Q' _ _ _ m rs z q=>by
 unfold z1 at z;split at z
 ·obtain⟨x,rfl,r⟩:=dy rs;unfold zLenT at z;split at z
  ·rename_i ks ds hk;obtain⟨a,vs,rfl,ha,hk,_⟩:=(pS m r).2 _ _ hk;refine⟨a,_,rfl,ha,?_⟩;rw[BS,<- hk,ET];exact q _ _ _ _ (.refl m) (.int _) z
  ·exact z.elim
 ·exact z.elim⟩
end
end L2
namespace L2
open PySem PySem.Spec PyProof.Rows
section
variable {X:Cx}{tg l:db}{tl:TE}
def Rx (tl:TE):TI:=fun σ H R=>tl σ H fun x H1=>∃a u,x=.ref a/\iN u=true/\Rd H1 a u/\∀o H2 ps,ix a o u H1 H2->qX H1 u ps->R (O3 a o u (ps.map (·.1))) H2
theorem KW (hl:PE X l tl):PI X tg l (Rx tl) :=by
 intro pins s σ H R I h;refine thn (hl pins s σ H _ I h) fun v s1 ⟨x,H1,I1,r1,q1⟩=>?_
 obtain⟨a,u,e,hu,hr,q⟩:=q1;subst e;cases r1;obtain⟨o,H2,es,ep,ps,f,I2,rw⟩:=I1.AG hr hu;have eR:a≠s1.heap.objs.size:=i4 (ff rw.obj);refine vG rw.lo ⟨o,rw.obj,rw.cls,rw.data⟩ ?_;refine⟨s1.heap.objs.size,[s1.heap.objs.size],_,_,H2,rfl,I2.kept (t':=s1.toks) fun b o e=>ba _ e,Fg rw.cls rw.data rw.rel eR,ci _ rfl,fun b hb=>?_,q o H2 ps f rw.ps⟩
 have e:b=s1.heap.objs.size :=by simpa using hb
 subst e;exact I2.jf (cb _) (I2.hok.fresh (cb _))
def O6 (tl:TE):TI:=fun σ H R=>tl σ H fun x H1=>∃a u,x=.ref a/\iN u=true/\Rd H1 a u/\∀o H2 ps,ix a o u H1 H2->qX H1 u ps->R (O4 a o u ps) H2
theorem HC {elts:List db}{x1:Nat}{tp apos aV:u4}(hl:PE X l tl) (hb:attributeBase l "items" X.env (eval l X.env)=eval l X.env :=by rfl) (hn:(apos.endLine==aV.line)=true :=by rfl) :
  PI X (.Tuple elts x1 tp) (.Call (.Attribute l "items" apos) [] [] aV) (O6 tl) :=by
 intro pins s σ H R I h;refine wpAny_Call_method0_late hb hn (thn (hl pins s σ H _ I h) fun v s1 ⟨x,H1,I1,r1,q1⟩=>?_)
 obtain⟨a,u,e,hu,hr,q⟩:=q1;subst e;cases r1;obtain⟨o,H2,es,ep,ps,f,I2,rw⟩:=I1.AG hr hu;have aQ:=ff rw.obj;refine⟨"dict","dict.items",Yi,PySem.F.slot_dict_items,PySem.F.type_dict_items,⟨o,rw.obj,rw.cls⟩,fun b e=>by cases e;exact⟨o,rw.obj,rw.dict⟩,Yq rfl (PySem.evalArgs_none (Ci rw.lo ⟨o,rw.obj,rw.cls,rw.data⟩ ?_))⟩
 refine Cj (v:=s1.heap.objs.size) (d:=a) ⟨_,ci _ rfl,rfl,rfl⟩ ⟨o,ba _ rw.obj,rw.cls,rw.data⟩ fun h' hz hit hk=>?_
 have hsz:(s1.heap.push {cls:=.type "dict_items",data:=.fields #[.ref a]}).objs.size=s1.heap.objs.size+1 :=by simp[hX.push]
 have eR:a≠(s1.heap.push {cls:=.type "dict_items",data:=.fields #[.ref a]}).objs.size:=i4 (by rw[hsz];exact AE aQ)
 refine⟨_,[(s1.heap.push {cls:=.type "dict_items",data:=.fields #[.ref a]}).objs.size],_,_,H2,rfl,I2.kept (t':=s1.toks) fun b o e=>hk b o (ba _ e),Cp rw.cls rw.data rw.rel eR,⟨_,_,hit⟩,fun b hb=>?_,q o H2 ps f rw.ps⟩
 have e:b=(s1.heap.push {cls:=.type "dict_items",data:=.fields #[.ref a]}).objs.size :=by simpa using hb
 rw[e];have hle:s1.heap.objs.size<=(s1.heap.push {cls:=.type "dict_items",data:=.fields #[.ref a]}).objs.size :=by rw[hsz];exact Co _
 exact I2.jf hle (I2.hok.fresh hle)
end
theorem Ex.bQ {β:Bz}{M:Mh}{H H2:Hp}{a:al}{o:i8}{u:HO}(m:Mz β M H) (f:ix a o u H H2) (fz:Fz β M a):Ex β M H M H2 :=by
 cases f with
 |was e=>exact .refl m
 |now e hu=>
  have y:Ey M H M (upd H a (.bQ o u)):=⟨fun b v hm hb=>by
   by_cases z:b=a
   ·subst z;rw[e]at hb;cases hb;exact .inr ⟨_,.inr (.inr ⟨hu,_,rfl⟩),aB⟩
   ·exact .inl (by rw[ah z];exact hb),fun _ h=>h,fun _ _ h _=>h⟩
  have nd:∀b v,H b=some v->iN v=false->b≠a:=fun b v q n z=>by rw[z,e]at q;cases q;rw[hu]at n;cases n
  refine⟨y,⟨fun b v hb=>?_,fun p hp=>?_,fun b hb=>?_,m.apart,fun p hp=>?_⟩⟩
  ·have AH:b≠a:=fun z=>by rw[z,fz.1]at hb;cases hb
   have q:=m.obj b v hb;cases v with
   |c6=>
    obtain⟨c,k,e2,r⟩:=q;exact⟨c,k,by rw[ah AH];exact e2,r⟩
   |lst ds=>
    obtain⟨us,e2,ru⟩:=q;exact⟨us,by rw[ah AH];exact e2,ru.len,fun i w d p q=>(ru.at' i w d p q).ey y⟩
   |dk ks ds=>
    obtain⟨us,e2,hk,ru⟩:=q;exact⟨us,by rw[ah AH];exact e2,hk,ru.len,fun i w d p q=>(ru.at' i w d p q).ey y⟩
   |dt ks ds=>
    obtain⟨us,e2,hk,ru⟩:=q;exact⟨us,by rw[ah AH];exact e2,hk,ru.len,fun i w d p q=>(ru.at' i w d p q).ey y⟩
  ·obtain⟨ps,e2,t⟩:=m.tabs p hp;exact⟨ps,by rw[ah (nd _ _ e2 rfl)];exact e2,t⟩
  ·obtain⟨v,e2,n⟩:=m.hids b hb;have AH:b≠a:=fun z=>fz.2 (by rw[<- z];exact hb)
   exact⟨v,by rw[ah AH];exact e2,n⟩
  ·exact(m.lams p hp).keep (fun ps e2=>by rw[ah (nd _ _ e2 rfl)];exact e2) fun c oc v e2=>by rw[ah (nd _ _ e2 rfl)];exact e2
def f9:Key->Dv
 | .inl i=>.int i
 | .inr z=>.str z
def ziKeys (p:aI):dZ:=fun ρ M R=>p ρ M fun d M1=>match d with | .dk ks _=>R (ks.map f9) M1 | .dt ks _=>R (ks.map fun k=>.tup (k.map f9)) M1|_=>False
section
variable {X:Cx}{Γ:Gz}{β:Bz}{M:Mh}{H:Hp}{tg l:db}{p:aI}
theorem O7 (k:Key):Rz β M H (kV k) (f9 k) :=by
 cases k with
 |inl i=>exact .int i
 |inr z=>exact .str z
theorem jm (ks:List Key):aH β M H (ks.map kV) (ks.map f9):=⟨by simp,fun i v d a b=>by
 rw[bv]at a b;cases e:ks[i]? with
 |none=>rw[e]at a;cases a
 |some k=>rw[e]at a b;cases a;cases b;exact O7 k⟩
theorem vI {a:al}{o:i8}{u:HO}{vs:List V}(h:H a=some (.bQ o u)):Runs (O3 a o u vs) vs H:=fun i=>⟨fun hi=>⟨⟨h,hi⟩,fun v H' q=>q⟩,fun hi=>⟨h,hi⟩⟩
theorem iy {α γ:Type}:∀{ks:List α}{vs:List γ},ks.length=vs.length->(ks.zip vs).map (·.1)=ks
 | [],[],_=>rfl
 |k::ks,v::vs,h=>by rw[Ch,lw,iy (by simpa using h)]
theorem AI (hl:QE Γ X l p):QI Γ X tg l (ziKeys p):=(KW hl).imp fun σ H R ⟨β,ρ,M,R',zr,h,q⟩=>⟨β,ρ,M,_,zr,h,fun d M1 v H1 x1 r1 h1=>by
 revert h1
 split
 ·intro h1;rename_i ks ds;cases r1 with
  | @dk a _ vs _ f e hk hl hh=>
   refine⟨a,.dK (ks.zip vs),rfl,rfl,e,fun o H2 ps g mZ=>?_⟩
   have x2:=Ex.bQ x1.mz g f;cases mZ;refine q _ _ _ _ (x1.trans x2) (gY (vs:=ks.map kV) (jm ks) fun M' H' x=>?_) h1
   have e2:((ks.zip vs).map fun kv=>(kV kv.1,kv.2)).map (·.1)=ks.map kV :=by
    rw[ma];show (ks.zip vs).map (kV ∘ Prod.fst)=_;rw[<- ma,iy hk]
   rw[e2];exact vI (x.get f.1 g.at rfl)
 ·intro h1;rename_i ks ds;cases r1 with
  | @dt a _ vs _ f e hk hl hh=>
   refine⟨a,.dT (ks.zip vs),rfl,rfl,e,fun o H2 ps g mZ=>?_⟩
   have x2:=Ex.bQ x1.mz g f;cases mZ with
   |t _ bs hb iL=>
    have hz:(ks.zip vs).length=ks.length :=by rw[BS,<- hk,ET]
    have e2:((bs.map V.ref).zip ((ks.zip vs).map (·.2))).map (·.1)=bs.map V.ref:=iy (by rw[ca,ca];exact hb)
    rw[e2];refine q _ _ _ _ (x1.trans x2) (gY (vs:=bs.map V.ref) ⟨by rw[ca,ca,hb,hz],fun i v d ha hd=>?_⟩ fun M' H' x=>vI (x.get f.1 g.at rfl)) h1
    rw[bv,i0]at ha hd;obtain⟨b,Aj,rfl⟩:=ha;obtain⟨k,vJ,rfl⟩:=hd;have Fi:i<(ks.zip vs).length :=by rw[hz];exact(ce.mp vJ).1
    have me:=ap Fi;have ht:=iL i b _ Aj me;have ek:((ks.zip vs)[i]).1=k :=by
     have:((ks.zip vs).map (·.1))[i]?=some ((ks.zip vs)[i]).1 :=by rw[bv,me];rfl
     rw[iy hk,vJ]at this;exact(gl this).symm
    rw[ek]at ht;have fb:Fz β M1 b:=⟨x1.mz.iO ht rfl,fun z=>by
     obtain⟨w,hw,n⟩:=x1.mz.hids b z;rw[ht]at hw;cases hw;cases n⟩
    have r0:Rz β M1 H1 (.ref b) (.tup (k.map f9)):=jI fb ht (jm k);exact r0.ex x2
 ·exact fun h=>h.elim⟩
def ziItems (p:aI):dZ:=fun ρ M R=>p ρ M fun d M1=>match d with | .dk ks ds=>R (cg (ks.map f9) ds) M1 | .dt ks ds=>R (cg (ks.map fun k=>.tup (k.map f9)) ds) M1|_=>False
theorem sR {a:al}{o:i8}{u:HO}{ps:List (V×V)}(h:H a=some (.bQ o u)):wB (O4 a o u ps) ps H:=fun i=>⟨fun hi=>⟨⟨h,hi⟩,fun v H' ⟨t,p,h1,h2,h3,h4⟩=>⟨t,p,h1,h2,h3,h4⟩⟩,fun hi=>⟨h,hi⟩⟩
theorem AJ {α γ:Type}:∀{ks:List α}{vs:List γ},ks.length=vs.length->(ks.zip vs).map (·.2)=vs
 | [],[],_=>rfl
 |k::ks,v::vs,h=>by rw[Ch,lw,AJ (by simpa using h)]
theorem Fj:∀(ks:List Key) (vs:List V),((ks.zip vs).map fun kv=>(kV kv.1,kv.2))=(ks.map kV).zip vs
 | [],_=>rfl
 |_::_,[]=>rfl
 |k::ks,v::vs=>by rw[Ch,lw,lw,Ch,Fj ks vs]
theorem HD {ks:List (List Key)}{vs:List V}{bs:List al}(m:Mz β M H) (hk:ks.length=vs.length) (hb:bs.length=(ks.zip vs).length) (iL:∀(i:Nat) (b:al) (kv:List Key×V),bs[i]?=some b->(ks.zip vs)[i]?=some kv->H b=some (.tup (kv.1.map kV))):aH β M H (bs.map V.ref) (ks.map fun k=>.tup (k.map f9)) :=by
 have hz:(ks.zip vs).length=ks.length :=by rw[BS,<- hk,ET]
 refine⟨by rw[ca,ca,hb,hz],fun i v d ha hd=>?_⟩
 rw[bv,i0]at ha hd;obtain⟨b,Aj,rfl⟩:=ha;obtain⟨k,vJ,rfl⟩:=hd;have Fi:i<(ks.zip vs).length :=by rw[hz];exact(ce.mp vJ).1
 have me:=ap Fi;have ht:=iL i b _ Aj me;have ek:((ks.zip vs)[i]).1=k :=by
  have:((ks.zip vs).map (·.1))[i]?=some ((ks.zip vs)[i]).1 :=by rw[bv,me];rfl
  rw[iy hk,vJ]at this;exact(gl this).symm
 rw[ek]at ht;exact jI ⟨m.iO ht rfl,fun z=>by
  obtain⟨w,hw,n⟩:=m.hids b z;rw[ht]at hw;cases hw;cases n⟩ ht (jm k)
theorem yC {elts:List db}{x1:Nat}{tp apos aV:u4}(hl:QE Γ X l p) (hb:attributeBase l "items" X.env (eval l X.env)=eval l X.env :=by rfl) (hn:(apos.endLine==aV.line)=true :=by rfl) :
  QI Γ X (.Tuple elts x1 tp) (.Call (.Attribute l "items" apos) [] [] aV) (ziItems p):=(HC hl hb hn).imp fun σ H R ⟨β,ρ,M,R',zr,h,q⟩=>⟨β,ρ,M,_,zr,h,fun d M1 v H1 x1 r1 h1=>by
 revert h1
 split
 ·intro h1;rename_i ks ds;cases r1 with
  | @dk a _ vs _ f e hk hl hh=>
   refine⟨a,.dK (ks.zip vs),rfl,rfl,e,fun o H2 ps g mZ=>?_⟩
   have x2:=Ex.bQ x1.mz g f;have rv:aH β M1 H1 vs ds:=⟨hl,hh⟩;cases mZ;rw[Fj];exact q _ _ _ _ (x1.trans x2) (jO (jm ks) (rv.ex x2) fun M' H' x=>sR (x.get f.1 g.at rfl)) h1
 ·intro h1;rename_i ks ds;cases r1 with
  | @dt a _ vs _ f e hk hl hh=>
   refine⟨a,.dT (ks.zip vs),rfl,rfl,e,fun o H2 ps g mZ=>?_⟩
   have x2:=Ex.bQ x1.mz g f;have rv:aH β M1 H1 vs ds:=⟨hl,hh⟩;cases mZ with
   |t _ bs hb iL=>
    rw[AJ hk];exact q _ _ _ _ (x1.trans x2) (jO ((HD x1.mz hk hb iL).ex x2) (rv.ex x2) fun M' H' x=>sR (x.get f.1 g.at rfl)) h1
 ·exact fun h=>h.elim⟩
end
section
variable {Γ:Gz}{X:Cx}{K:bn}
def zCatLP:fi:=fun d e M Q=>match d,e with | .lst ds,.lst es=>ds.length+es.length<=sizeLine/\∀a,M a=none->Q (.ptr a) (au M a (.lst (ds++es)))|_,_=>False
theorem KY (hK:X.K=K):eC Γ X (binaryOp .Add) zCatLP:=⟨_,MS,fun β x y d e M H Q Q' _ _ _ m rx ry z q=>by
 unfold zCatLP at z;split at z
 ·obtain⟨a,vs,rfl,f,ha,rs⟩:=dS rx;obtain⟨b,us,rfl,f2,hb,fD⟩:=dS ry;refine⟨a,b,vs,us,rfl,rfl,ha,hb,by rw[rs.len,fD.len];exact z.1,fun p hp=>?_⟩
  have x2:=Ex.own m (.inr hp) (rs.append fD);exact q _ _ _ _ x2 (.ptr (by rw[updM_same];rfl)) (z.2 p (m.free hp))
 ·exact z.elim⟩
end
theorem hV {g:cf}{te:aI}(J:List Dv->aA->Mh->Prop):∀{ds acc:List Dv}{τ:aA}{M:Mh}{Q:List Dv->Mh->Prop},J acc τ M->
  (∀i d fK τ M,ds[i]?=some d->fK.length=acc.length+i->J fK τ M->∀R:aA->ZK,(∀y az M2,J (fK++[y]) az M2->R az y M2)->g d τ M fun az M2=>te az M2 (R az))->
  (∀ys τ M,ys.length=ds.length->J (acc++ys) τ M->Q ys M)->gZ g zNoIf te ds τ M Q
 | [],acc,τ,M,Q,j,_,q=>q [] τ M rfl (by rw[Lu];exact j)
 |d::ds,acc,τ,M,Q,j,h,q=>by
          refine h 0 d acc τ M rfl rfl j (fun az y M4=>gZ g zNoIf te ds az M4 fun ys M5=>Q (y::ys) M5) fun y az M2 j2=>?_
          refine hV J (acc:=acc++[y]) j2 (fun i d' fK aZ M' e1 e2 j' R hR=>?_) fun ys kR M3 e3 j3=>?_
          ·exact h (i+1) d' fK aZ M' e1 (by rw[e2,xz];simp;omega) j' R hR
          ·exact q (y::ys) kR M3 (by simp[e3]) (by rw[NH]at j3;exact j3)
section
variable {X:Cx}{Γ:Gz}{tg elt iter:db}{ifs:List db}{scope:ul}{pos:u4}{N':List br}{tn:Nat}{idx:List Nat}
theorem yD {zi:dZ}{g:cf}{tt:cC}{te:aI}{i:Nat}{y:br}{py ku:u4}(hN:X.N.Nodup) (ee:X.N[i]?=some y) (hy:X.env.scope.names.lookup y=some .local) (hc:X.calm=true) (B:cN X.N X.env.scope scope N' tn idx) (hi:QI Γ X tg iter zi)
  (hg:eL X N' scope fun Y=>QG Γ Y tg g) (ht:eL X N' scope fun Y=>sA Γ Y ifs tt) (he:eL X N' scope fun Y=>QE Γ Y elt te)
  (xi:swapsWith (.ListComp elt [⟨tg,iter,ifs,0⟩] scope pos) (some (.Name y py)) ku.line X.env=pure true :=by rfl)
  (hs:∀x,foldedSetIterable iter X.env x=pure x :=by intro _;rfl):QS Γ X (.Assign [.Name y py] (.ListComp elt [⟨tg,iter,ifs,0⟩] scope pos) ku) (zAsg (zCompP tn idx zi g tt te) (zgName i)):=(zH hN ee hy hc B hi hg ht he xi hs).imp fun D σ H h=>B3 (fun _ _ _ h=>tW h) h
end
theorem pV {a1 r:cu}{D:iP}{ρ:aA}{M:Mh}(I:aA->Mh->Prop) (h1:∀N:aA->Mh->Prop,(∀ρ M,I ρ M->N ρ M)->a1 {D with nx:=N} ρ M) (h2:∀ρ M,I ρ M->r D ρ M):(zSeq a1 r) D ρ M:=h1 _ h2
theorem Ry {a1 a2 r:cu}{D:iP}{ρ:aA}{M:Mh}(I:aA->Mh->Prop) (h1:∀N:aA->Mh->Prop,(∀ρ M,I ρ M->N ρ M)->(zSeq a1 a2) {D with nx:=N} ρ M) (h2:∀ρ M,I ρ M->r D ρ M):(zSeq a1 (zSeq a2 r)) D ρ M:=h1 _ h2
theorem Jo {a1 a2 a3 a4 r:cu}{D:iP}{ρ:aA}{M:Mh}(I:aA->Mh->Prop) (h1:∀N:aA->Mh->Prop,(∀ρ M,I ρ M->N ρ M)->(zSeq a1 (zSeq a2 (zSeq a3 a4))) {D with nx:=N} ρ M) (h2:∀ρ M,I ρ M->r D ρ M):(zSeq a1 (zSeq a2 (zSeq a3 (zSeq a4 r)))) D ρ M:=h1 _ h2
theorem RA {a1 a2 a3 a4 a5 a6 a7 a8 r:cu}{D:iP}{ρ:aA}{M:Mh}(I:aA->Mh->Prop) (h1:∀N:aA->Mh->Prop,(∀ρ M,I ρ M->N ρ M)->(zSeq a1 (zSeq a2 (zSeq a3 (zSeq a4 (zSeq a5 (zSeq a6 (zSeq a7 a8))))))) {D with nx:=N} ρ M) (h2:∀ρ M,I ρ M->r D ρ M):(zSeq a1 (zSeq a2 (zSeq a3 (zSeq a4 (zSeq a5 (zSeq a6 (zSeq a7 (zSeq a8 r)))))))) D ρ M:=h1 _ h2
section
variable {X:Cx}{Γ:Gz}
theorem Jp:eC Γ X (binaryOp .LShift) (zIC Bh fun i j=>.int (i * 2 ^ j.toNat)):=⟨_,Ms,mX fun _ _ _ _ _=>.int _⟩
theorem Jq:eC Γ X (binaryOp .RShift) (zIC (fun _ j=>0<=j) fun i j=>.int (i / 2 ^ j.toNat)):=⟨_,Mt,mX fun _ _ _ _ _=>.int _⟩
theorem Jr:eC Γ X (binaryOp .BitAnd) (zII fun i j=>.int (Y6 i j)):=⟨_,Mu,kU fun _ _ _ _ _=>.int _⟩
end
section
variable {β:Bz}{M M':Mh}{H H':Hp}{a:al}{o o' o2 qo:Mo}
theorem Rz.dom (hd:∀a,(M a).isSome=(M' a).isSome) {v:V}{d:Dv}(r:Rz β M H v d):Rz β M' H v d:=
 r.lW (M0:=M') (fun a h=>by rw[hd a];exact h) (r.pin.mono fun a h=>by rw[<- hd a];exact h)
theorem jH.dom (hd:∀a,(M a).isSome=(M' a).isSome) (h:jH β M H a o):jH β M' H a o :=by
 cases o with
 |lst ds=>obtain⟨vs,h1,rs⟩:=h;exact⟨vs,h1,rs.len,fun i v d x y=>(rs.at' i v d x y).dom hd⟩
 |c6=>exact h
 |dk ks ds=>obtain⟨vs,h1,h2,rs⟩:=h;exact⟨vs,h1,h2,rs.len,fun i v d x y=>(rs.at' i v d x y).dom hd⟩
 |dt ks ds=>obtain⟨vs,h1,h2,rs⟩:=h;exact⟨vs,h1,h2,rs.len,fun i v d x y=>(rs.at' i v d x y).dom hd⟩
theorem kh (M:Mh) (a:al) (o o2:Mo) (b:al):(au M a o b).isSome=(au M a o2 b).isSome :=by
 by_cases e:b=a
 ·subst e;rw[updM_same,updM_same];rfl
 ·rw[ao e,ao e]
theorem mh {b:al}(o2:Mo) (h:au M a o b=none):au M a o2 b=none :=by
 by_cases e:b=a
 ·subst e;rw[updM_same]at h;cases h
 ·rw[ao e]at h ⊢;exact h
theorem Mz.chg (m:Mz β (au M a o) H) (h2:jH β (au M a o2) H a o2):Mz β (au M a o2) H :=by
 refine⟨fun b u e=>?_,m.tabs,m.hids,fun b u e=>?_,m.lams⟩
 ·by_cases z:b=a
  ·subst z;rw[updM_same]at e;cases e;exact h2
  ·rw[ao z]at e;exact jH.dom (kh M a o o2) (m.obj b u (by rw[ao z];exact e))
 ·by_cases z:b=a
  ·subst z;exact m.apart b o updM_same
  ·rw[ao z]at e;exact m.apart b u (by rw[ao z];exact e)
theorem AK (h:M a=some o):au M a o=M :=by
 funext b
 by_cases e:b=a
 ·subst e;rw[updM_same,h]
 ·rw[ao e]
theorem Ex.chg (x:Ex β (au M a o) H (au M a o') H') (h2:jH β (au M a qo) H' a qo):Ex β (au M a o2) H (au M a qo) H':=
 ⟨⟨fun b u h e=>x.keep b u (mh o h) e,fun b h=>by rw[kh M a qo o'];exact x.dom b (by rw[kh M a o o2];exact h),fun b u h e=>mh qo (x.new b u (mh o h) e)⟩,x.mz.chg h2⟩
theorem Ex.sealed (hn:M a=none) (x:Ex β M H (au M a o') H') (h2:jH β (au M a qo) H' a qo):Ex β M H (au M a qo) H':=
 ⟨⟨x.keep,fun b h=>by rw[kh M a qo o'];exact x.dom b h,fun b u h e=>mh qo (x.new b u h e)⟩,x.mz.chg h2⟩
theorem Fl {c m:Int}(z:Mz β (au M a (.lst [.int c,.int m])) H) (hc:0<=c) (hm:0<=m):jH β (au M a .c6) H a .c6 :=by
 obtain⟨vs,h,rs⟩:=z.obj a _ updM_same;refine⟨c,m,?_,hc,hm⟩;have:=qT (ns:=[c,m]) rs;rw[h,this];rfl
theorem O8 (z:Mz β (au M a .c6) H):∃c m:Int,0<=c/\0<=m/\jH β (au M a (.lst [.int c,.int m])) H a (.lst [.int c,.int m]) :=by
 obtain⟨c,m,h,hc,hm⟩:=z.obj a _ updM_same;exact⟨c,m,hc,hm,_,h,ny (ns:=[c,m])⟩
end
section
variable {X:Cx}{Γ:Gz}{K:bn}
def zIxS:fi:=fun d e M Q=>match d,e with | .bR ns,.int i=>(match dj ns i with|some x=>Q (.int x) M|none=>False)|_,_=>False
theorem Js (hK:X.K=K) (hG:K=Γ.K):Om Γ X zIxS:=⟨_,Af hK,fun β x y d e M H Q Q' _ _ eK m rx ry z q=>by
 unfold zIxS at z;split at z
 ·rename_i ns i;split at z
  ·rename_i v hv;obtain⟨a,rfl,hS⟩:=vk rx;rw[eK,<- hG]at hS;exact .inl ⟨a,_,i,.int v,rfl,aL ry,hS,KL hv,q _ _ _ _ (.refl m) (.int _) z⟩
  ·exact z.elim
 ·exact z.elim⟩
end
def AO (k:Nat):br:=⟨#[97+k]⟩
theorem AQ (k:Nat):(AO k).length=1:=rfl
theorem Cq (a b:br):(a++b).length=a.length+b.length :=by
 show (a.cps++b.cps).size=a.cps.size+b.cps.size;exact Array.size_append
section
variable {κ:Type} [DecidableEq κ]
theorem fF:∀(ks U:List κ),ks.Nodup->(∀k∈ks,k∈U)->ks.length<=U.length
 | [],_,_,_=>wp _
 |k::ks,U,nd,h=>by
          have hn:=GM.mp nd;have hk:=h k gc;have ih:=fF ks (U.erase k) hn.2 fun x hx=>(List.mem_erase_of_ne (fun e=>hn.1 (by rw[<- e];exact hx))).mpr (h x (c8 _ hx))
          rw[List.length_erase_of_mem hk]at ih;have:=List.length_pos_of_mem hk;rw[xy];omega
def jn (step:κ->Nat->κ) (met:κ) (w:br) (st:List κ×List br) (a:Nat):List κ×List br:=if step met a∈st.1 then st else (st.1++[step met a],st.2++[w++AO a])
def visit (step:κ->Nat->κ) (met:κ) (w:br) (n:Nat) (st:List κ×List br):List κ×List br:=(io n).foldl (jn step met w) st
def k9 (step:κ->Nat->κ) (n most:Nat):Nat->Nat->List κ×List br->List κ×List br
 |0,_,st=>st
 |fuel+1,i,st=>match st.1[i]?,st.2[i]? with
  |some met,some w=>if st.1.length<=most then k9 step n most fuel (i+1) (visit step met w n st) else st
  |_,_=>st
structure fR (U:List κ) (st:List κ×List br):Prop where
 len:st.1.length=st.2.length
 nd:st.1.Nodup
 sub:∀k∈st.1,k∈U
 wl:∀(i:Nat) (w:br),st.2[i]?=some w->w.length<=i
theorem fR.le {U:List κ}{st:List κ×List br}(o:fR U st):st.1.length<=U.length:=fF _ _ o.nd o.sub
theorem iS (step:κ->Nat->κ) (met:κ) (w:br) (n:Nat) (st:List κ×List br):visit step met w (n+1) st=jn step met w (visit step met w n st) n :=by
 unfold visit;rw[ZV,GG];rfl
theorem vK (step:κ->Nat->κ) (met:κ) (w:br) (st:List κ×List br) (a:Nat):∃ks ws,(jn step met w st a).1=st.1++ks/\(jn step met w st a).2=st.2++ws :=by
 unfold jn;split
 ·exact⟨[],[],by simp,by simp⟩
 ·exact⟨_,_,rfl,rfl⟩
theorem j7 (step:κ->Nat->κ) (met:κ) (w:br) (n:Nat) (st:List κ×List br):∃ks ws,(visit step met w n st).1=st.1++ks/\(visit step met w n st).2=st.2++ws :=by
 induction n with
 |zero=>exact⟨[],[],by simp[visit],by simp[visit]⟩
 |succ n ih=>
  obtain⟨ks,ws,h1,h2⟩:=ih;rw[iS];obtain⟨S2,Wx,h3,h4⟩:=vK step met w (visit step met w n st) n;exact⟨ks++S2,ws++Wx,by rw[h3,h1,NH],by rw[h4,h2,NH]⟩
theorem uf {α:Type}{l m:List α}{i:Nat}{x:α}(h:l[i]?=some x):(l++m)[i]?=some x :=by
 rw[AS (ce.mp h).1];exact h
theorem fR.jn {U:List κ}{step:κ->Nat->κ}{st:List κ×List br}(o:fR U st) {i a:Nat}{met:κ}{w:br}(hw:st.2[i]?=some w) (hs:step met a∈U):fR U (L2.jn step met w st a) :=by
 unfold L2.jn;split
 ·exact o
 ·rename_i hn;refine⟨by simp[o.len],?_,fun k hk=>?_,fun j v hj=>?_⟩
  ·rw[NJ];refine⟨o.nd,by simp,fun x hx y hy e=>?_⟩
   rw[jp]at hy;subst e;exact hn (hy▸hx)
  ·rcases zw.mp hk with z|z
   ·exact o.sub k z
   ·rw[jp]at z;rw[z];exact hs
  ·by_cases h:j<st.2.length
   ·rw[AS h]at hj;exact o.wl j v hj
   ·rw[Go (by omega)]at hj
    have e:j - st.2.length=0 :=by
     have:=(ce.mp hj).1;simp at this;omega
    rw[e]at hj;cases hj;have h1:=o.wl i w hw;have h2:=(ce.mp hw).1;rw[Cq,AQ];omega
theorem fR.visit {U:List κ}{step:κ->Nat->κ}{st:List κ×List br}(o:fR U st) {i n:Nat}{met:κ}{w:br}(hw:st.2[i]?=some w) (hs:∀a,a<n->step met a∈U):fR U (L2.visit step met w n st) :=by
 induction n with
 |zero=>exact o
 |succ n ih=>
  rw[iS];obtain⟨ks,ws,h1,h2⟩:=j7 step met w n st;exact(ih fun a ha=>hs a (by omega)).jn (i:=i) (by rw[h2];exact uf hw) (hs n (by omega))
def met (step:κ->Nat->κ) (n most N:Nat) (s:κ):List κ×List br:=k9 step n most (N+1) 0 ([s],[""])
theorem mi {U:List κ}{s:κ}(h:s∈U):fR U ([s],[("" : br)]):=⟨rfl,by simp,fun k hk=>by rw[jp]at hk;rw[hk];exact h,fun i w e=>by
 cases i with
 |zero=>cases e;exact cb 0
 |succ i=>simp at e⟩
theorem Fm {U:List κ}{step:κ->Nat->κ}{n most:Nat}(hs:∀k∈U,∀a,a<n->step k a∈U):∀(fuel i:Nat) (st:List κ×List br),fR U st->fR U (k9 step n most fuel i st)
 |0,_,st,o=>o
 |fuel+1,i,st,o=>by
          unfold k9;split
          ·rename_i k w h1 h2;split
           ·exact Fm hs fuel (i+1) _ (o.visit h2 fun a ha=>hs k (o.sub k (cr h1)) a ha)
           ·exact o
          ·exact o
theorem Fn {step:κ->Nat->κ}{n most fuel i:Nat}{st:List κ×List br}{k:κ}{w:br}(h1:st.1[i]?=some k) (h2:st.2[i]?=some w) (h3:st.1.length<=most):k9 step n most (fuel+1) i st=k9 step n most fuel (i+1) (visit step k w n st) :=by
 rw[k9];simp only[h1,h2,if_pos h3]
theorem AR:∀{ks:List κ}{ws:List br}{i:Nat}{k:κ}{w:br},ks.Nodup->ks[i]?=some k->ws[i]?=some w->look ks ws k=some w
 | [],_,_,_,_,_,h,_=>by simp at h
 |_::_,[],_,_,_,_,_,h=>by simp at h
 |c::ks,v::ws,0,k,w,_,h1,h2=>by
          simp at h1 h2;unfold look;rw[if_pos h1,h2]
 |c::ks,v::ws,i+1,k,w,nd,h1,h2=>by
          have hn:=GM.mp nd;have h1:ks[i]?=some k :=by simpa using h1
          unfold look;rw[if_neg (fun e=>hn.1 (by rw[e];exact cr h1))]
          exact AR hn.2 h1 (by simpa using h2)
theorem yE {jc:Type} [DecidableEq jc] {f:κ->jc}(hf:∀a b,f a=f b->a=b) (x:κ):∀(ks:List κ) (ws:List br),look (ks.map f) (ws.map Dv.str) (f x)=(look ks ws x).map Dv.str
 | [],ws=>by cases ws<;>rfl
 |_::_,[]=>rfl
 |k::ks,w::ws=>by
          rw[lw,lw];unfold look;by_cases e:k=x
          ·rw[if_pos e,if_pos (by rw[e])];rfl
          ·rw[if_neg e,if_neg (fun z=>e (hf _ _ z))]
           exact yE hf x ks ws
theorem ug {α:Type}{ks:List κ}{ds:List α}{k:κ}{d:α}(h:k ∉ ks):putL ks k=ks++[k]/\cO ks ds k d=ds++[d] :=by
 unfold putL cO;rw[if_neg h,if_neg h];exact⟨rfl,rfl⟩
theorem mF {jc:Type}{f:κ->jc}(hf:∀a b,f a=f b->a=b) {x:κ}{ks:List κ}:f x∈ks.map f ↔ x∈ks :=by
 constructor
 ·intro h;obtain⟨y,hy,e⟩:=kt.mp h;rw[<- hf _ _ e];exact hy
 ·exact fun h=>Y3 h
theorem Fo {ks:List κ}{ws:List br}(h:ks.length=ws.length) (x:κ):(look ks ws x).isSome=decide (x∈ks) :=by
 cases q:look ks ws x with
 |none=>rw[decide_eq_false ((iw h).mp q)];rfl
 |some w=>
  have:x∈ks:=Classical.byContradiction fun z=>by rw[(iw h).mpr z]at q;cases q
  rw[decide_eq_true this];rfl
end
theorem KZ {k:Nat}(h:k<3):dj ("abc" : br).cps.toList ((k:Nat):Int)=some (97+k) :=by
 have:k=0\/k=1\/k=2 :=by omega
 rcases this with rfl|rfl|rfl<;>decide +kernel
theorem qY {α:Type}{l:List α}{i:Nat}{x:α}(h:l[i]?=some x):l.drop i=x::l.drop (i+1) :=by
 obtain⟨hi,e⟩:=ce.mp h;rw[AT hi,e]
section
variable {κ α:Type} [DecidableEq κ]
theorem la:∀{ks:List κ}{ws:List α}{i:Nat}{k:κ}{w:α},ks.Nodup->ks[i]?=some k->ws[i]?=some w->look ks ws k=some w
 | [],_,_,_,_,_,h,_=>by simp at h
 |_::_,[],_,_,_,_,_,h=>by simp at h
 |k0::ks,w0::ws,0,k,w,nd,h1,h2=>by
          simp at h1 h2;subst h1 h2;unfold look;rw[if_pos rfl]
 |k0::ks,w0::ws,i+1,k,w,nd,h1,h2=>by
          have hn:=GM.mp nd;have h1:ks[i]?=some k :=by simpa using h1
          have h2:ws[i]?=some w :=by simpa using h2
          unfold look;rw[if_neg (fun e=>hn.1 (by rw[e];exact cr h1))]
          exact la hn.2 h1 h2
end
section
variable {prog:en}{w:ii}{A:l5}{d:al}{es:Array SZ}{ep:Nat}
theorem dJ.at {h h':hX}(r:dJ h d es ep) (k:∀o,h.get? d=some o->h'.get? d=some o):dJ h' d es ep :=by
 obtain⟨o,g,x⟩:=r;exact⟨o,k o g,x⟩
theorem Fp (hh:A.handled=none) (I d:al) (eR:d≠I):ZN prog w A I [I,d] [I] es.size (fun i v=>∃hi:i<es.size,v=es[i].key) (fun i h=>h.get? I=some (sP d i es.size ep)/\dJ h d es ep) where
 sub:=fun b hb=>by simp at hb;simp[hb]
 frame:=fun _ _ _ st hk=>⟨hk I (by simp) _ st.1,st.2.at fun o e=>hk d (by simp) o e⟩
 item:=fun i s Q E hi st hQ=>vH st.1 st.2 hi fun h' hit hs=>hQ _ h' s.toks ⟨hi,rfl⟩ ⟨hit,st.2.at fun o e=>(hs.2 d eR).trans e⟩ fun b o hb e=>(hs.2 b (fun h=>hb (by simp[h]))).trans e
 done:=fun s Q E st hQ=>yB hh st.1 st.2 (cb _) fun h' he=>hQ h' s.toks fun b o hb e=>he b o (fun h=>hb (by simp[h])) e
 self:=fun i _ _ _ st hQ=>wpAny_pyIter_keyiter (d:=d) (i:=i) (n:=es.size) (ep:=ep) ⟨_,st.1,rfl,rfl⟩ hQ
theorem HE (lo:(d==sysModules)=false):PySem.W.KdlSrc prog w "dict" d d es.size (fun i v=>∃hi:i<es.size,v=es[i].key) (fun h=>dJ h d es ep) where
 type:=fun _ r=>by obtain⟨o,g,c,_⟩:=r;exact⟨o,g,c⟩
 there:=fun _ r=>by obtain⟨o,g,c,_⟩:=r;exact⟨ff g,ff g⟩
 keep:=fun _ _ r hk=>r.at fun o e=>hk d (.inl rfl) o e
 notList :=by decide
 notTuple :=by decide
 hint:=fun _ _ _ _ r hq=>PySem.W.kdl_hint_dict (by obtain⟨o,g,c,_⟩:=r;exact⟨o,g,c⟩) hq
 iter:=fun _ s hh r=>⟨_,_,(fun _ _ hq=>vG lo r hq),Fp hh _ d (by obtain⟨o,g,c,_⟩:=r;exact i4 (ff g)),ci _ rfl,r.at fun o e=>ba _ e⟩
end
section
variable {X:Cx}{Γ:Gz}
def O9:List V->Hp->VK->Prop:=fun xs H Q=>∃a u,xs=[.ref a]/\iN u=true/\Rd H a u/\∀ps,qX H u ps->ps.length<=sizeLine/\∀l,H l=none->Q (.ref l) (upd H l (.lst (ps.map (·.1))))
theorem uh (hc:X.calm=true):dM X (.type "list") O9 :=by
 intro pins s σ H xs us Q I r h;obtain⟨a,u,rfl,hu,hr,q⟩:=h;obtain⟨v,rfl,rx⟩:=vals1 r;cases rx;obtain⟨o,es,ep,ps,rw⟩:=ue I.hok hr hu;obtain⟨hz,q⟩:=q ps rw.ps;have hsz:=rw.rel.1;refine PySem.W.kdl_call (HE rw.lo) (I.ok.hd hc) ⟨o,rw.obj,rw.cls,rw.data⟩ (by rw[hsz];exact hz) fun h' tk acc c hk hD eV=>?_
 have rv:Vals (ps.map (·.1)) acc.toList :=by
  refine jy (by have h1:=eV.1;rw[ca,<- hsz,<- h1];simp) fun i v e=>?_
  rw[bv,i0]at e;obtain⟨p,hp,rfl⟩:=e;obtain⟨hi,r1,_⟩:=rw.rel.2 i p hp;have D6:i<acc.size :=by rw[eV.1];exact hi
  obtain⟨_,ev⟩:=eV.2 i acc[i] (xL D6);exact⟨acc[i],by rw[MW];exact xL D6,by rw[ev];exact r1⟩
 exact⟨.ref s.heap.objs.size,_,I.laid (t':=tk) hk (cb _) (show ObjOk X.prog X.w _ h' _ (.lst (ps.map (·.1))) from ⟨by rw[ca];exact hz,acc.toList,c,rv,by rw[Array.toArray_toList];exact hD⟩),rfl,q _ (I.hok.fresh (cb _))⟩
variable {K:bn}
def keysL:Dv->Option (List Dv)
 | .dk ks _=>some (ks.map f9)
 | .dt ks _=>some (ks.map fun k=>.tup (k.map f9))
 |_=>none
def zListDP (d:Dv) (M:Mh) (Q:ZK):Prop:=match keysL d with|some ys=>ys.length<=sizeLine/\∀a,M a=none->Q (.ptr a) (au M a (.lst ys))|none=>False
theorem HF {β:Bz}{M:Mh}{H:Hp}{v:V}{d:Dv}{ys:List Dv}(m:Mz β M H) (r:Rz β M H v d) (h:keysL d=some ys):∃a u,v=.ref a/\iN u=true/\Rd H a u/\∀ps,qX H u ps->aH β M H (ps.map (·.1)) ys :=by
 unfold keysL at h;split at h
 ·rename_i ks ds;cases h;cases r with
  | @dk a _ vs _ f e hk hl hh=>
   refine⟨a,.dK (ks.zip vs),rfl,rfl,e,fun ps mZ=>?_⟩
   cases mZ;have e2:((ks.zip vs).map fun kv=>(kV kv.1,kv.2)).map (·.1)=ks.map kV :=by
    rw[ma];show (ks.zip vs).map (kV ∘ Prod.fst)=_;rw[<- ma,iy hk]
   rw[e2];exact jm ks
 ·rename_i ks ds;cases h;cases r with
  | @dt a _ vs _ f e hk hl hh=>
   refine⟨a,.dT (ks.zip vs),rfl,rfl,e,fun ps mZ=>?_⟩
   cases mZ with
   |t _ bs hb iL=>
    have hz:(ks.zip vs).length=ks.length :=by rw[BS,<- hk,ET]
    have e2:((bs.map V.ref).zip ((ks.zip vs).map (·.2))).map (·.1)=bs.map V.ref:=iy (by rw[ca,ca];exact hb)
    rw[e2];refine⟨by rw[ca,ca,hb,hz],fun i v d ha hd=>?_⟩
    rw[bv,i0]at ha hd;obtain⟨b,Aj,rfl⟩:=ha;obtain⟨k,vJ,rfl⟩:=hd;have Fi:i<(ks.zip vs).length :=by rw[hz];exact(ce.mp vJ).1
    have me:=ap Fi;have ht:=iL i b _ Aj me;have ek:((ks.zip vs)[i]).1=k :=by
     have:((ks.zip vs).map (·.1))[i]?=some ((ks.zip vs)[i]).1 :=by rw[bv,me];rfl
     rw[iy hk,vJ]at this;exact(gl this).symm
    rw[ek]at ht;have fb:Fz β M b:=⟨m.iO ht rfl,fun z=>by
     obtain⟨w,hw,n⟩:=m.hids b z;rw[ht]at hw;cases hw;cases n⟩
    exact jI fb ht (jm k)
 ·cases h
theorem yF (hc:X.calm=true):gq Γ X (.type "list") (z1 zListDP):=⟨_,uh hc,fun β xs ds M H Q Q' _ _ _ m rs z q=>by
 unfold z1 at z;split at z
 ·obtain⟨x,rfl,r⟩:=dy rs;unfold zListDP at z;split at z
  ·rename_i ys Wy;obtain⟨a,u,rfl,hu,hr,h⟩:=HF m r Wy;refine⟨a,u,rfl,hu,hr,fun ps mZ=>?_⟩
   have rp:=h ps mZ;refine⟨by have:=rp.len;rw[ca]at this;rw[this];exact z.1,fun l hl=>?_⟩
   have x2:=Ex.own m (.inr hl) rp;exact q _ _ _ _ x2 (.ptr (by rw[updM_same];rfl)) (z.2 l (m.free hl))
  ·exact z.elim
 ·exact z.elim⟩
end
def UN (p q:dZ):dZ:=fun ρ M R=>p ρ M R\/q ρ M R
theorem Jt {Γ:Gz}{X:Cx}{tg e:db}{p q:dZ}(h1:QI Γ X tg e p) (h2:QI Γ X tg e q):QI Γ X tg e (UN p q):=fun pins s σ H R I h=>by
 obtain⟨β,ρ,M,R',zr,hp|hq,k⟩:=h
 ·exact h1 pins s σ H R I ⟨β,ρ,M,R',zr,hp,k⟩
 ·exact h2 pins s σ H R I ⟨β,ρ,M,R',zr,hq,k⟩
section
variable {X:Cx}{Γ:Gz}
def zRepP:fi:=fun d e M Q=>match d,e with | .lst ds,.int k=>(-(2 ^ 63)<=k/\k<2 ^ 63/\ds.length * k.toNat<=sizeLine)/\∀a,M a=none->Q (.ptr a) (au M a (.lst (mo k.toNat ds).flatten))|_,_=>False
theorem Pa:eC Γ X (binaryOp .Mult) zRepP:=⟨_,MT,fun β x y d e M H Q Q' _ _ _ m rx ry z q=>by
 unfold zRepP at z;split at z
 ·rename_i ds k;obtain⟨a,vs,rfl,f,ha,rs⟩:=dS rx;obtain⟨⟨z1,z2,z3⟩,z4⟩:=z;refine⟨a,_,vs,rfl,aL ry,ha,z1,z2,by rw[rs.len];exact z3,fun p hp=>?_⟩
  have x2:=Ex.own m (.inr hp) (rs.rep k.toNat);exact q _ _ _ _ x2 (.ptr (by rw[updM_same];rfl)) (z4 p (m.free hp))
 ·exact z.elim⟩
end
end L2
namespace L2
open PySem PySem.Spec PySem.W PyProof.Rows
def iT {α:Type}(R:Nat->Int) (n:Nat):KasT α->(α->Prop)->Prop
 | .ret a,Q=>Q a
 | .ask i j k,Q=>i<n/\j<n/\iT R n (k (decide (R i<R j))) Q
theorem mj {α β:Type}{R:Nat->Int}{n:Nat}{f:α->KasT β}{Q:β->Prop}:∀{t:KasT α},iT R n t (fun a=>iT R n (f a) Q)->iT R n (t.bind f) Q
 | .ret _,h=>h
 | .ask _ _ k,h=>⟨h.1,h.2.1,mj (t:=k _) h.2.2⟩
structure Pm (n:Nat) (p:Array Nat):Prop where
 sz:p.size=n
 pm:p.toList.Perm (io n)
theorem Pm.lt {n:Nat}{p:Array Nat}(h:Pm n p) {k:Nat}(hk:k<n):p.getD k 0<n :=by
 have kz:k<p.size :=by rw[h.sz];exact hk
 have e:p.getD k 0=p[k] :=by simp[Z6,kz]
 rw[e];have:p[k]∈p.toList :=by simp
 exact rb.mp (h.pm.mem_iff.mp this)
theorem Pm.of {n:Nat}{p p':Array Nat}(h:Pm n p) (hs:p'.size=p.size) (hp:p'.Perm p):Pm n p':=⟨hs.trans h.sz,(Array.perm_iff_toList_perm.mp hp).trans h.pm⟩
def rk (R:Nat->Int) (p:Array Nat) (k:Nat):Int:=R (p.getD k 0)
theorem yG (p:Array Nat) (k:Nat):p.getD k 0=(p[k]?).getD 0 :=by simp[Array.getD_eq_getD_getElem?]
theorem sS (R:Nat->Int) {p:Array Nat}{i j:Nat}(hj:j<=p.size) (k:Nat):rk R (kas_rev p i j) k=if i<=k/\k<j then rk R p (i+j - 1 - k) else rk R p k :=by
 unfold rk kas_rev;rw[yG,getElem?_mirror_all hj k];split<;>rw[yG]
def Fq (R:Nat->Int) (p:Array Nat) (m:Nat):Prop:=∀a b,a<=b->b<m->rk R p a<=rk R p b
def qp (R:Nat->Int) (p:Array Nat) (m:Nat):Prop:=∀a b,a<=b->b<m->rk R p b<=rk R p a
section
variable {R:Nat->Int}{n:Nat}
theorem yH {p:Array Nat}(hp:Pm n p) {Q:Nat->Prop}:∀(f m:Nat),Fq R p m->1<=m->m+f<=n->(∀m',m<=m'->m'<=m+f->Fq R p m'->(m'<m+f->rk R p m'<rk R p (m' - 1))->Q m')->iT R n (kas_asc p f m) Q
 |0,m,ha,h1,hn,q=>q m (cb _) (cb _) ha (fun h=>absurd h (FS _))
 |f+1,m,ha,h1,hn,q=>by
          refine⟨hp.lt (by omega),hp.lt (by omega),?_⟩
          show iT R n (if decide (rk R p m<rk R p (m - 1))=true then _ else _) Q
          by_cases h:rk R p m<rk R p (m - 1)
          ·rw[decide_eq_true h,if_pos rfl];exact q m (cb _) (by omega) ha (fun _=>h)
          ·rw[decide_eq_false h,if_neg ij];refine yH hp f (m+1) (fun a b ja hb=>?_) (by omega) (by omega) fun m' h2 h3 h4 h5=>q m' (by omega) (by omega) h4 (fun z=>h5 (by omega))
           rcases LM b m with z|z
           ·exact ha a b ja z
           ·have eb:b=m :=by omega
            subst eb;rcases LM a b with y|y
            ·have:=ha a (b - 1) (by omega) (by omega)
             omega
            ·have:a=b :=by omega
             subst this;exact WA _
theorem qp.rev {p:Array Nat}{m i:Nat}(hm:m<=p.size) (h:qp R p m) (he:∀k,i<=k->k<m->rk R p k=rk R p (m - 1)):qp R (kas_rev p i m) m/\∀k,rk R (kas_rev p i m) k=rk R p k :=by
 have e:∀k,rk R (kas_rev p i m) k=rk R p k:=fun k=>by
  rw[sS R hm];split
  ·rename_i z;rw[he (i+m - 1 - k) (by omega) (by omega),he k z.1 z.2]
  ·rfl
 exact⟨fun a b ja hb=>by rw[e a,e b];exact h a b ja hb,e⟩
theorem Pm.rev {p:Array Nat}(h:Pm n p) (i j:Nat):Pm n (kas_rev p i j):=h.of (mirror_size _ _ _ _) (mirror_perm _ _ _ _)
theorem pW {Q:Array Nat×Nat×Nat->Prop}:∀(f:Nat) (p:Array Nat) (m q:Nat),Pm n p->qp R p m->(∀k,m - (q+1)<=k->k<m->rk R p k=rk R p (m - 1))->q+1<=m->m+f<=n->
  (∀p' m' q',Pm n p'->qp R p' m'->(∀k,m' - (q'+1)<=k->k<m'->rk R p' k=rk R p' (m' - 1))->q'+1<=m'->m'<=n->Q (p',m',q'))->iT R n (kas_desc f p m q) Q
 |0,p,m,q,hp,hd,he,hq,hn,k=>k p m q hp hd he hq (by omega)
 |f+1,p,m,q,hp,hd,he,hq,hn,k=>by
          have hsz:=hp.sz;refine⟨hp.lt (by omega),hp.lt (by omega),?_⟩
          show iT R n (if decide (rk R p m<rk R p (m - 1))=true then _ else _) Q
          by_cases h:rk R p m<rk R p (m - 1)
          ·rw[decide_eq_true h,if_pos rfl];have more:∀p',Pm n p'->(∀k,rk R p' k=rk R p k)->qp R p' (m+1):=fun p' _ e a b ja hb=>by
            rw[e a,e b];rcases LM b m with z|z
            ·exact hd a b ja z
            ·have eb:b=m :=by omega
             subst eb;rcases LM a b with y|y
             ·have:=hd a (b - 1) (by omega) (by omega)
              omega
             ·have:a=b :=by omega
              subst this;exact WA _
           have one:∀p':Array Nat,∀k,m+1 - (0+1)<=k->k<m+1->rk R p' k=rk R p' (m+1 - 1):=fun p' k h1 h2=>by rw[show k=m by omega];rfl
           by_cases Ju:q > 0
           ·rw[if_pos Ju];obtain⟨_,e⟩:=qp.rev (i:=m - (q+1)) (show m<=p.size by omega) hd he
            exact pW f _ (m+1) 0 (hp.rev _ _) (more _ (hp.rev _ _) e) (one _) (by omega) (by omega) k
           ·rw[if_neg Ju];exact pW f p (m+1) 0 hp (more p hp fun _=>rfl) (one p) (by omega) (by omega) k
          ·rw[decide_eq_false h,if_neg ij];refine⟨hp.lt (by omega),hp.lt (by omega),?_⟩
           show iT R n (if decide (rk R p (m - 1)<rk R p m)=true then _ else _) Q
           by_cases h2:rk R p (m - 1)<rk R p m
           ·rw[decide_eq_true h2,if_pos rfl];exact k p m q hp hd he hq (by omega)
           ·rw[decide_eq_false h2,if_neg ij];have e:rk R p m=rk R p (m - 1) :=by omega
            refine pW f p (m+1) (q+1) hp (fun a b ja hb=>?_) (fun x h3 h4=>?_) (by omega) (by omega) k
            ·rcases LM b m with z|z
             ·exact hd a b ja z
             ·have eb:b=m :=by omega
              subst eb;rcases LM a b with y|y
              ·rw[e];exact hd a (b - 1) (by omega) (by omega)
              ·have:a=b :=by omega
               subst this;exact WA _
            ·show rk R p x=rk R p m;rcases LM x m with z|z
             ·rw[e];exact he x (by omega) z
             ·rw[show x=m by omega]
theorem yI {m:Nat}{p:Array Nat}(hp:Pm n p) (hd:qp R p m) (h1:1<=m) (hm:m<=n) {Q:Nat×Array Nat->Prop}(q:∀m' p',Pm n p'->Fq R p' m'->1<=m'->m'<=n->Q (m',p')):iT R n (kas_tail3 m n p) Q :=by
 have hsz:=hp.sz;refine mj (yH (hp.rev 0 m) (n - m) m (fun a b ja hb=>?_) h1 (by omega) fun m' h2 h3 h4 _=>q m' _ (hp.rev 0 m) h4 (by omega) (by omega))
 rw[sS R (by omega),sS R (by omega),if_pos ⟨by omega,by omega⟩,if_pos ⟨by omega,by omega⟩]
 exact hd _ _ (by omega) (by omega)
theorem qt {m:Nat}{p:Array Nat}(hp:Pm n p) (hd:qp R p (m+1)) (hm:m+1<=n) {Q:Nat×Array Nat->Prop}(q:∀m' p',Pm n p'->Fq R p' m'->1<=m'->m'<=n->Q (m',p')):iT R n (kas_descPart m n p) Q :=by
 refine mj (pW (n - (m+1)) p (m+1) 0 hp hd (fun k h1 h2=>by rw[show k=m by omega];rfl) (by omega) (by omega) fun p' m' q' Pb jB he hq hn=>?_)
 have hsz:=Pb.sz;show iT R n (if q' > 0 then kas_tail3 m' n (kas_rev p' (m' - (q'+1)) m') else kas_tail3 m' n p') Q
 by_cases h:q' > 0
 ·rw[if_pos h];exact yI (Pb.rev _ _) (qp.rev (by omega) jB he).1 (by omega) hn q
 ·rw[if_neg h];exact yI Pb jB (by omega) hn q
theorem hZ {p:Array Nat}(hp:Pm n p) (h1:1<=n) {Q:Nat×Array Nat->Prop}(q:∀m' p',Pm n p'->Fq R p' m'->1<=m'->m'<=n->Q (m',p')):iT R n (kas_count n p) Q :=by
 have hsz:=hp.sz;refine mj (yH hp (n - 1) 1 (fun a b ja hb=>by rw[show a=b by omega];exact WA _) (cb _) (by omega) fun m h2 h3 h4 h5=>?_)
 by_cases e:m=n
 ·rw[if_pos (by simpa using e)]
  exact q m p hp h4 h2 (by omega)
 ·rw[if_neg (by simpa using e)]
  have aQ:=h5 (by omega)
  by_cases hm:m > 1
  ·rw[if_pos hm];refine⟨hp.lt (by omega),hp.lt (by omega),?_⟩
   show iT R n (if decide (rk R p 0<rk R p (m - 1))=true then _ else _) Q
   by_cases h:rk R p 0<rk R p (m - 1)
   ·rw[decide_eq_true h,if_pos rfl];exact q m p hp h4 (by omega) (by omega)
   ·rw[decide_eq_false h,if_neg ij];have eq:∀k,k<m->rk R p k=rk R p (m - 1):=fun k hk=>by
     have a1:=h4 k (m - 1) (by omega) (by omega)
     have a2:=h4 0 k (by omega) hk
     omega
    have er:∀k,rk R (kas_rev p 0 m) k=rk R p k:=fun k=>by
     rw[sS R (by omega)]
     split
     ·rename_i z;rw[eq (0+m - 1 - k) (by omega),eq k z.2]
     ·rfl
    refine qt (hp.rev 0 m) (fun a b ja hb=>?_) (by omega) q
    rw[er,er];rcases LM b m with z|z
    ·rw[eq a (by omega),eq b z];exact WA _
    ·have eb:b=m :=by omega
     subst eb;rcases LM a b with y|y
     ·rw[eq a y];omega
     ·rw[show a=b by omega];exact WA _
  ·rw[if_neg hm];have em:m=1 :=by omega
   subst em;refine qt hp (fun a b ja hb=>?_) (by omega) q
   have aQ:rk R p 1<rk R p 0:=aQ;match a,b,ja,hb with
   |0,0,_,_=>exact WA _
   |0,1,_,_=>omega
   |1,1,_,_=>exact WA _
   |a,b+2,_,hb=>omega
   |a+2,b,h,hb=>omega
   |1,0,h,_=>omega
end
end L2
namespace L2
open PySem PySem.Spec PyProof.Rows
theorem Fs (k v tg iter:db) (ifs:List db) (scope:ul) (pos:u4) (it:am) (D:al) (env:Lo) :
  compTurn (.DictComp k v [⟨tg,iter,ifs,0⟩] scope pos) 0 it (.ref D) env =
   turnB (.DictComp k v [⟨tg,iter,ifs,0⟩] scope pos) tg iter ifs 0 it (.ref D) env (do
    let kv <- eval k env
    let vv <- holding [kv] (eval v env)
    standAt {k.pos with endLine:=v.pos.endLine,endCol:=v.pos.endCol}
    holding [kv,vv] (dictSet D kv vv)) :=by
 rfl
section
variable {X:Cx}{pins:List (al×i8)}{σ:St}{H:Hp}{s:ar}{a:al}{y v:V}{u r:am}{A:l5}{E:am->ar->Prop}
theorem Ft {H':Hp}{Q:Unit->ar->Prop}(hu:A.units+1<cLine) (I:Inv X pins σ H s) (g:BX H a y v H') (ry:RelV y u) (rv:RelV v r) (h:∀s',Inv X pins σ H' s'->Q () s') :
  wpAny (model X.prog X.w) A (dictSet a u r) Q E s :=by
 rcases g with ⟨ak,k,e,ey,l,eH⟩|⟨ak,k,b,e,ey,eb,l,eH⟩
 ·subst ey eH;obtain⟨z,hd,vs,rel,dd⟩:=BV I.hok e;have hz:vs.length<=sizeLine :=by rw[<- rel.length];exact z
  have hl:(putK ak k v).length<=sizeLine :=by have:=gN ak k v;omega
  refine wpAny_dictSet_pairs (hsz:=hz) (lN ry) dd fun h' lR hs=>h _ ?_
  have he:∃q,h'.get? a=some q:=let ⟨q,_,_,hq,_⟩:=lR;⟨q,hq⟩;exact kg I (by rw[e];exact IR) hs he (xW hl hd (rel.put k rv) lR)
 ·subst ey eH;cases (show u=l7 b from ry);obtain⟨z,hd,xs,rel,dd⟩:=BW I.hok e;have hz:xs.length<=sizeLine :=by rw[<- SL rel];exact z
  have hl:(putK ak k v).length<=sizeLine :=by have:=gN ak k v;omega
  refine wpAny_dictSet_heap (hsz:=hz) (show (tupleKind (bA X.prog X.w)).room A from Nat.lt_of_succ_lt hu) (jG I.hok eb) dd fun h' lR hs=>h _ ?_
  obtain⟨q,es,ep,hq,h2,h3,h4,_,h5⟩:=lR;refine kg I (by rw[e];exact IR) hs ⟨q,hq⟩ ⟨hl,hd,_,(rel.put k eb rv).keeps fun c ys ec=>?_,q,es,ep,hq,h2,h3,h4,h5⟩
  rw[ah (wu ec e (fun z=>nomatch z))]
  exact ec
end
section
variable {X:Cx}
def Cr (k v:db) (D:al) (env:Lo):W1 Unit:=do
 let kv <- eval k env
 let vv <- holding [kv] (eval v env)
 standAt {k.pos with endLine:=v.pos.endLine,endCol:=v.pos.endCol}
 holding [kv,vv] (dictSet D kv vv)
def Ct (D:al) (tk tv:TE):TB:=fun τ H Q=>tk τ H fun y H1=>tv τ H1 fun v H2=>∃H3,BX H2 D y v H3/\Q τ H3
theorem Pg {Y:Cx}{k v:db}{tk tv:TE}{D:al}(hu:Y.A.units+1<cLine) (hk:PE Y k tk) (hv:PE Y v tv):PB Y (Cr k v D Y.env) (Ct D tk tv) :=by
 intro pins s τ H Q I q;unfold Cr;refine ag (l6 (hk pins s τ H _ I q) (fun kv s1 ⟨y,H1,I1,r1,q1⟩=>?_) fun _ _ z=>z)
 refine ag (EO (l6 (hv pins s1 τ H1 _ I1 q1) (fun vv s2 ⟨x,H2,I2,r2,q2⟩=>?_) fun _ _ z=>z))
 obtain⟨H3,g,q3⟩:=q2;exact ag (EQ (EO (Ft hu I2 g r1 r2 fun s' I3=>⟨τ,H3,I3,q3⟩)))
def Fu (tup:Bool) (tn:Nat) (idx:List Nat) (wi:TI) (g:TG) (tt:TT) (tk tv:TE):TE:=fun σ H Q=>wi σ H fun J H1=>∀D,H1 D=none->∃W:Nat->Nat->St->Hp->Prop,(∃m,W 0 m (bB tn idx σ) (upd H1 D (if tup=true then .dT [] else .dK []))) /\
 tLoop J g tt (Ct D tk tv) (fun _ H'=>Q (.ref D) H') W
variable {tg elt iter XM Xl k v:db}{ifs Xs:List db}{scope:ul}{pos:u4}{N':List br}{tn:Nat}{idx:List Nat}{wi XN:TI}{g g2:TG}{tt XO:TT}{te tk tv:TE}
theorem Cu {P:en}{w:ii}{H:Hp}{h:hX}{a:al}(tup:Bool) (hb:sysModules<a) (e:h.get? a=some {cls:=.type "dict",data:=.dict #[]}):ObjOk P w H h a (if tup=true then .dT [] else .dK []) :=by
 have ne:(a==sysModules)=false:=beq_eq_false_iff_ne.mpr (zn (i4 hb));cases tup with
 |true=>exact⟨wp _,ne,[],.nil,_,#[],0,e,⟨rfl,rfl,rfl⟩,rfl,rfl,Os⟩
 |false=>exact⟨wp _,ne,[],.nil,_,#[],0,e,⟨rfl,rfl,rfl⟩,rfl,(fun _ he=>by simp at he),Pairs.nil,Os⟩
end
abbrev AU:=List Dv->aA->Mh->(List Dv->aA->Mh->Prop)->Prop
def oX (g:cf) (tt:cC) (lb:AU):List Dv->AU
 | [],acc,τ,M,Q=>Q acc τ M
 |d::ds,acc,τ,M,Q=>g d τ M fun az M2=>tt az M2 fun b M3=>if b=true then lb acc az M3 fun nF MX M4=>oX g tt lb ds nF MX M4 Q else oX g tt lb ds acc az M3 Q
theorem Ph {g:cf}{lb:AU}(I:Nat->List Dv->aA->Mh->Prop):∀{ds:List Dv}{i:Nat}{acc:List Dv}{τ:aA}{M:Mh}{Q:List Dv->aA->Mh->Prop},I i acc τ M->
  (∀j d acc τ M,ds[j]?=some d->I (i+j) acc τ M->∀R:List Dv->aA->Mh->Prop,(∀nF az M2,I (i+j+1) nF az M2->R nF az M2)->g d τ M fun az M2=>lb acc az M2 R)->
  (∀acc τ M,I (i+ds.length) acc τ M->Q acc τ M)->oX g zNoIf lb ds acc τ M Q
 | [],i,acc,τ,M,Q,h,_,q=>q acc τ M h
 |d::ds,i,acc,τ,M,Q,h,hs,q=>by
          refine hs 0 d acc τ M rfl h (fun nF az M2=>oX g zNoIf lb ds nF az M2 Q) fun nF az M2 h2=>?_
          refine Ph I (i:=i+1) h2 (fun j d acc τ M hd hI R hR=>hs (j+1) d acc τ M hd (by rw[show i+(j+1)=i+1+j by omega];exact hI) R fun nF az M2 h3=>hR nF az M2 (by rw[show i+1+j+1=i+(j+1)+1 by omega];exact h3)) fun acc τ M h3=>q acc τ M (by rw[xy,show i+(ds.length+1)=i+1+ds.length by omega];exact h3)
section
variable {Γ:Gz}{β:Bz}{g:cf}{tt:cC}{D:al}{M1:Mh}{H1:Hp}
def Wz (Γ:Gz) (β:Bz) (D:al) (M1:Mh) (H1:Hp) (lb:AU) (tb:TB):Prop:=∀(aZ:aA) (M:Mh) (τ:St) (H:Hp) (acc:List V) (aT:List Dv) (N:St->Hp->Prop) (N':List Dv->aA->Mh->Prop),Acc Γ β D M1 H1 aZ M τ H acc aT->lb aT aZ M N'->
 (∀wG Cv M' az H' fK,Acc Γ β D M1 H1 Cv M' az H' fK wG->N' wG Cv M'->N az H')->tb τ H N
def LW (Γ:Gz) (β:Bz) (D:al) (M1:Mh) (H1:Hp) (g:cf) (tt:cC) (lb:AU) (ds:List Dv) (N':List Dv->aA->Mh->Prop) (i m:Nat) (τ:St) (H:Hp):Prop:=
 m=ds.length - i/\i<=ds.length/\∃aZ M acc aT,Acc Γ β D M1 H1 aZ M τ H acc aT/\oX g tt lb (ds.drop i) aT aZ M N'
theorem U3 {lb:AU}{tb:TB}{ds:List Dv}{N':List Dv->aA->Mh->Prop}{J:It}{QE:St->Hp->Prop}
  (it:∀aZ M τ H acc aT,Acc Γ β D M1 H1 aZ M τ H acc aT->∀i,(i<ds.length->J.go i H/\∀x jJ,J.yld i H x jJ->Ex (β.add D) M H M jJ/\∃d,ds[i]?=some d/\Rz (β.add D) M jJ x d)/\(ds.length<=i->J.stop i H))
  (WB:Wz Γ β D M1 H1 lb tb) (ox:∀aZ M τ H acc aT,Acc Γ β D M1 H1 aZ M τ H acc aT->N' aT aZ M->QE τ H) :
  tLoop J (lG Γ g) (lT Γ tt) tb QE (LW Γ β D M1 H1 g tt lb ds N') :=by
 rintro i m τ H ⟨rfl,hi,aZ,M,acc,aT,A,h⟩;have q:=it _ _ _ _ _ _ A i;by_cases aQ:i<ds.length
 ·refine .inr ⟨(q.1 aQ).1,fun x H' y=>?_⟩
  obtain⟨x2,d,hd,rd⟩:=(q.1 aQ).2 x H' y;have e:ds.drop i=d::ds.drop (i+1) :=by
   rw[AT aQ];rw[ap aQ]at hd;cases hd;rfl
  rw[e]at h;have A2:=A.step x2 (A.zr.step x2);refine⟨β.add D,d,aZ,M,_,A2.zr,rd,h,fun dP M3 kR H3 x3 z3 h3=>?_⟩
  have A3:=A2.step x3 z3;refine⟨β.add D,dP,M3,_,z3,h3,fun b M4 H4 x4 h4=>?_⟩
  have A4:=A3.step x4 (z3.step x4);cases b with
  |false=>
   dsimp only at h4 ⊢;rw[if_neg ij]at h4 ⊢;exact⟨ds.length - (i+1),by omega,rfl,aQ,dP,M4,acc,aT,A4,h4⟩
  |true=>
   dsimp only at h4 ⊢;rw[if_pos rfl]at h4 ⊢;exact WB _ _ _ _ _ _ _ _ A4 h4 fun wG Cv M' az H' fK A5 h5=>⟨ds.length - (i+1),by omega,rfl,aQ,Cv,M',fK,wG,A5,h5⟩
 ·have e:i=ds.length :=by omega
  subst e;rw[OE]at h;exact .inl ⟨q.2 (cb _),ox _ _ _ _ _ _ A h⟩
end
def pX (g:cf) (tt:cC) (tk tv:aI):List Dv->List (List Key)->List Dv->aA->Mh->(List (List Key)->List Dv->Mh->Prop)->Prop
 | [],ks,es,_,M,Q=>Q ks es M
 |d::ds,ks,es,τ,M,Q=>g d τ M fun az M2=>tt az M2 fun b M3=>if b=true then tk az M3 fun k M4=>tv az M4 fun v M5=>ks.length<sizeLine/\(match k with
  | .tup xs=>(match iR xs with|some k=>pX g tt tk tv ds (putL ks k) (cO ks es k v) az M5 Q|none=>False)
  |_=>False) else pX g tt tk tv ds ks es az M3 Q
def zCompDT (tn:Nat) (idx:List Nat) (zi:dZ) (g:cf) (tt:cC) (tk tv:aI):aI:=fun ρ M Q=>zi ρ M fun ds M1=>pX g tt tk tv ds [] [] (zBlock tn idx ρ) M1 fun ks es M2=>∀a,M2 a=none->Q (.ptr a) (au M2 a (.dt ks es))
theorem Fv {g:cf}{tk tv:aI}(I:Nat->List (List Key)->List Dv->aA->Mh->Prop):∀{ds:List Dv}{i:Nat}{ks:List (List Key)}{es:List Dv}{τ:aA}{M:Mh}{Q:List (List Key)->List Dv->Mh->Prop},I i ks es τ M->
  (∀j d ks es τ M,ds[j]?=some d->I (i+j) ks es τ M->∀R:List (List Key)->List Dv->aA->Mh->Prop,(∀yJ qj az M2,I (i+j+1) yJ qj az M2->R yJ qj az M2)->g d τ M fun az M2=>tk az M2 fun k M4=>tv az M4 fun v M5=>ks.length<sizeLine/\(match k with
   | .tup xs=>(match iR xs with|some k=>R (putL ks k) (cO ks es k v) az M5|none=>False)
   |_=>False))->
  (∀ks es τ M,I (i+ds.length) ks es τ M->Q ks es M)->pX g zNoIf tk tv ds ks es τ M Q
 | [],i,ks,es,τ,M,Q,h,_,q=>q ks es τ M h
 |d::ds,i,ks,es,τ,M,Q,h,hs,q=>by
          refine hs 0 d ks es τ M rfl h (fun yJ qj az M2=>pX g zNoIf tk tv ds yJ qj az M2 Q) fun yJ qj az M2 h2=>?_
          refine Fv I (i:=i+1) h2 (fun j d ks es τ M hd hI R hR=>hs (j+1) d ks es τ M hd (by rw[show i+(j+1)=i+1+j by omega];exact hI) R fun yJ qj az M2 h3=>hR yJ qj az M2 (by rw[show i+1+j+1=i+(j+1)+1 by omega];exact h3)) fun ks es τ M h3=>q ks es τ M (by rw[xy,show i+(ds.length+1)=i+1+ds.length by omega];exact h3)
structure lg (Γ:Gz) (β:Bz) (D:al) (M1:Mh) (H1:Hp) (aZ:aA) (M:Mh) (τ:St) (H:Hp) (ks:List (List Key)) (acc:List V) (aT:List Dv):Prop where
 ey:Ey M1 H1 M H
 m:M D=none
 zr:Zr Γ (β.add D) M aZ τ H
 at':H D=some (.dT (ks.zip acc))
 hk:ks.length=acc.length
 rs:aH (β.add D) M H acc aT
 h1:H1 D=none
 h0:Γ.H0 D=none
 nt:D ∉ β.tb
section
variable {Γ:Gz}{β:Bz}{D:al}{M1 M M2:Mh}{H1 H H2:Hp}{aZ yh:aA}{τ az:St}{ks:List (List Key)}{acc:List V}{aT:List Dv}
theorem lg.start (zr:Zr Γ β M1 aZ τ H1) (hD:H1 D=none):lg Γ β D M1 H1 aZ M1 τ (upd H1 D (.dT [])) [] [] []:=
 ⟨Ey.refl.over hD,zr.mz.free hD,zr.enter hD rfl,aB,rfl,.nil,hD,zr.ent.gone hD (by
  cases e:Γ.M0 D with
  |none=>rfl
  |some u=>have:=zr.ent.dom D (by rw[e];rfl);rw[zr.mz.free hD]at this;cases this),zr.mz.yb hD⟩
theorem lg.step (A:lg Γ β D M1 H1 aZ M τ H ks acc aT) (x:Ex (β.add D) M H M2 H2) (z:Zr Γ (β.add D) M2 yh az H2):lg Γ β D M1 H1 yh M2 az H2 ks acc aT:=
 ⟨A.ey.trans x.toEy,x.new D _ A.m A.at',z,x.yu gc A.m A.at' rfl,A.hk,A.rs.ex x,A.h1,A.h0,A.nt⟩
theorem lg.put (A:lg Γ β D M1 H1 aZ M τ H ks acc aT) {k:List Key}{y:V}{d:Dv}(r:Rz (β.add D) M H y d):lg Γ β D M1 H1 aZ M τ (upd H D (.dT ((putL ks k).zip (cO ks acc k y)))) (putL ks k) (cO ks acc k y) (cO ks aT k d) :=by
 have hD:D∈(β.add D).hid:=gc;exact⟨A.ey.over A.h1,A.m,A.zr.over hD rfl A.m A.nt A.h0,aB,nA A.hk k y,⟨(nB k r A.rs).len,fun i v d a b=>((nB k r A.rs).at' i v d a b).over hD⟩,A.h1,A.h0,A.nt⟩
theorem Fw {H:Hp}{a:al}{o:HO}(h:H a=some o):upd H a o=H :=by
 funext b
 by_cases e:b=a
 ·rw[e,aB,h]
 ·rw[ah e]
theorem lg.own (A:lg Γ β D M1 H1 aZ M τ H ks acc aT) (m1:Mz β M1 H1):Ex β M1 H1 (au M D (.dt ks aT)) H :=by
 have mz:Mz β (au M D (.dt ks aT)) (upd H D (.dT (ks.zip acc))):=A.zr.mz.Hr A.m (m1.fz A.h1).2 A.nt rfl ⟨acc,aB,A.hk,jl A.rs⟩;rw[Fw A.at']at mz;exact⟨⟨A.ey.keep,fun a h=>by unfold au;split;rfl;exact A.ey.dom a h,fun a w m e=>by rw[ao (bh e A.h1)];exact A.ey.new a w m e⟩,mz⟩
end
section
variable {Γ:Gz}{β:Bz}{g:cf}{tt:cC}{tk tv:aI}{zi:dZ}{tn:Nat}{idx:List Nat}
theorem HG {σ:St}{H:Hp}{Q:VK}(h:lE Γ (zCompDT tn idx zi g tt tk tv) σ H Q):Fu true tn idx (lI Γ zi) (lG Γ g) (lT Γ tt) (lE Γ tk) (lE Γ tv) σ H Q :=by
 obtain⟨β,ρ,M,Q',zr,h,q⟩:=h;refine⟨β,ρ,M,_,zr,h,fun ds M1 H1 J x1 it h1 D hD=>?_⟩
 have iQ:=zr.step x1;refine⟨fun i m τ H=>m=ds.length - i/\i<=ds.length/\∃aZ M ks acc aT,lg Γ β D M1 H1 aZ M τ H ks acc aT/\pX g tt tk tv (ds.drop i) ks aT aZ M fun ks es M2=>∀a,M2 a=none->Q' (.ptr a) (au M2 a (.dt ks es)),⟨_,rfl,wp _,_,_,_,_,_,.start (iQ.block tn idx) hD,h1⟩,?_⟩
 rintro i m τ H ⟨rfl,hi,aZ,M,ks,acc,aT,A,h⟩;have q2:=it (β.add D) M H (.add A.h1) A.ey A.zr.mz i;by_cases aQ:i<ds.length
 ·refine .inr ⟨(q2.1 aQ).1,fun x H' y=>?_⟩
  obtain⟨x2,d,hd,rd⟩:=(q2.1 aQ).2 x H' y;have e:ds.drop i=d::ds.drop (i+1) :=by
   rw[AT aQ];rw[ap aQ]at hd;cases hd;rfl
  rw[e]at h;have A2:=A.step x2 (A.zr.step x2);refine⟨β.add D,d,aZ,M,_,A2.zr,rd,h,fun dP M3 kR H3 x3 z3 h3=>?_⟩
  have A3:=A2.step x3 z3;refine⟨β.add D,dP,M3,_,z3,h3,fun b M4 H4 x4 h4=>?_⟩
  have A4:=A3.step x4 (z3.step x4);cases b with
  |false=>
   dsimp only at h4 ⊢;rw[if_neg ij]at h4 ⊢;exact⟨ds.length - (i+1),by omega,rfl,aQ,dP,M4,ks,acc,aT,A4,h4⟩
  |true=>
   dsimp only at h4 ⊢;rw[if_pos rfl]at h4 ⊢;refine⟨β.add D,dP,M4,_,A4.zr,h4,fun kd M5 kv H5 x5 r5 h5=>⟨β.add D,dP,M5,_,A4.zr.step x5,h5,fun vd M6 vv H6 x6 r6 h6=>?_⟩⟩
   have A6:=(A4.step x5 (A4.zr.step x5)).step x6 ((A4.zr.step x5).step x6);obtain⟨hl,h6⟩:=h6;split at h6
   ·split at h6
    ·rename_i k sM;obtain⟨b,us,rfl,_,hb,ru⟩:=dq (r5.ex x6);rw[k6 ru sM]at hb;have WC:(ks.zip acc).length<sizeLine :=by rw[BS,<- A6.hk,ET];exact hl
     have e4:putK (ks.zip acc) k vv=(putL ks k).zip (cO ks acc k vv):=ua A6.hk k vv;exact⟨_,.inr ⟨_,k,b,A6.at',rfl,hb,WC,rfl⟩,ds.length - (i+1),by omega,rfl,aQ,dP,M6,_,_,_,e4▸A6.put r6,h6⟩
    ·exact h6.elim
   ·exact h6.elim
 ·have e:i=ds.length :=by omega
  subst e;rw[OE]at h;exact .inl ⟨q2.2 (cb _),q _ _ _ _ (x1.trans (A.own iQ.mz)) (.ptr (by rw[updM_same];rfl)) (h D A.m)⟩
variable {X:Cx}{tg k v iter:db}{ifs:List db}{scope:ul}{pos:u4}{N':List br}
end
section
variable {X:Cx}{Γ:Gz}{K:bn}
def HH (x:V) (H:Hp):Prop:=∃p,x=.ref p/\((∃ak,Rd H p (.dK ak))\/∃ak,Rd H p (.dT ak))
def UO (r:V->List V->Hp->VK->Prop) (to:TE) (t:TA):TE:=fun σ H Q=>to σ H fun x H1=>HH x H1/\t σ H1 fun xs H2=>r x xs H2 Q
theorem K0 {pins:List (al×i8)}{σ:St}{H:Hp}{s:ar}{x:V}{v:am}(I:Inv X pins σ H s) (r:RelV x v) (ty:HH x H):s.TypeIs v "dict" /\ ∀a,v=.ref a->∃ob,s.heap.get? a=some ob/\ob.dict=none :=by
 obtain⟨p,rfl,hk⟩:=ty;cases (show v=l7 p from r);rcases hk with ⟨ak,hk⟩|⟨ak,hk⟩
 ·obtain⟨_,_,_,_,o,_,_,e,ex,_⟩:=nj I.hok hk;exact⟨⟨o,e,ex.1⟩,fun a e2=>by cases e2;exact⟨o,e,ex.2.1⟩⟩
 ·obtain⟨_,_,_,_,o,_,_,e,ex,_⟩:=lQ I.hok hk;exact⟨⟨o,e,ex.1⟩,fun a e2=>by cases e2;exact⟨o,e,ex.2.1⟩⟩
variable {o e:db}{es:List db}{to:TE}{t:TA}{name:br}{apos aV:u4}{id:String}{r:V->List V->Hp->VK->Prop}
theorem Pj (pa:Zy "dict") (slot:Slot "dict" name id) (om:typeOf (.builtin id)=pure (.type "method_descriptor")) (hm:Dz X id r) (ho:PE X o to) (ha:PA X (e::es) t)
  (jZ:attributeBase o name X.env (eval o X.env)=eval o X.env :=by rfl)
  (m7:((backTo aV (starEach (e::es) X.env)).all (fun x => !x.1) && (backToKw aV (keywordEach [] X.env)).all (fun x=>x.1.isSome) && decide ((e::es).length+([]:List Ps).length+(if ([]:List Ps).isEmpty then 0 else 1)<30))=true :=by rfl)
  (hline:(apos.endLine==aV.line)=true :=by rfl) (hs:starEach (e::es) X.env=(false,eval e X.env)::starEach es X.env :=by rfl) (iD:(backTo aV (starEach es X.env)).any (·.1)=false :=by rfl) :
  PE X (.Call (.Attribute o name apos) (e::es) [] aV) (UO r to t) :=by
 refine⟨?_⟩;intro pins s σ H Q I h;refine wpAny_Call_method_late jZ m7 hline rfl (thn (ho pins s σ H _ I h) fun v s1 ⟨x,H1,I1,r1,ty,q1⟩=>?_)
 obtain⟨h1,h2⟩:=K0 I1 r1 ty;refine⟨"dict",id,pa,slot,om,h1,h2,?_⟩
 have hA:=ha aV pins s1 σ H1 _ I1 q1;rw[hs]at hA ⊢;refine Yq (by show (false || (backTo aV (starEach es X.env)).any (·.1))=false;rw[iD]<;>rfl) (YK ?_)
 exact thn hA fun us s2 ⟨vs,H2,I2,r2,q2⟩=>hm pins s2 σ H2 x vs v us Q I2 r1 r2 q2
def tyD (M:Mh) (d:Dv):Prop:=match nowK M d with | .dk _ _=>True | .dt _ _=>True|_=>False
def zBMD (z:oP) (po:aI) (pa:fh):aI:=fun ρ M Q=>po ρ M fun d M1=>tyD M1 d/\pa ρ M1 fun ds M2=>z d ds M2 Q
theorem Pk {β:Bz}{M:Mh}{H:Hp}{x:V}{d:Dv}(m:Mz β M H) (r:Rz β M H x d) (h:tyD M d):HH x H :=by
 unfold tyD at h;split at h
 ·rename_i ks ds hk;obtain⟨a,vs,rfl,ha,_⟩:=(pS m r).1 _ _ hk;exact⟨a,rfl,.inl ⟨_,ha⟩⟩
 ·rename_i ks ds hk;obtain⟨a,vs,rfl,ha,_⟩:=(pS m r).2 _ _ hk;exact⟨a,rfl,.inr ⟨_,ha⟩⟩
 ·exact h.elim
variable {po:aI}{pa:fh}{z:oP}
theorem Fx (pat:Zy "dict") (slot:Slot "dict" name id) (om:typeOf (.builtin id)=pure (.type "method_descriptor")) (hm:ym Γ X "dict" id K z) (ho:QE Γ X o po) (ha:QA Γ X (e::es) pa) (jZ:attributeBase o name X.env (eval o X.env)=eval o X.env :=by rfl)
  (m7:((backTo aV (starEach (e::es) X.env)).all (fun x => !x.1) && (backToKw aV (keywordEach [] X.env)).all (fun x=>x.1.isSome) && decide ((e::es).length+([]:List Ps).length+(if ([]:List Ps).isEmpty then 0 else 1)<30))=true :=by rfl)
  (hline:(apos.endLine==aV.line)=true :=by rfl) (hs:starEach (e::es) X.env=(false,eval e X.env)::starEach es X.env :=by rfl) (iD:(backTo aV (starEach es X.env)).any (·.1)=false :=by rfl) :
  QE Γ X (.Call (.Attribute o name apos) (e::es) [] aV) (zBMD z po pa) :=by
 obtain⟨r,h1,h2⟩:=hm;exact(Pj pat slot om h1 ho ha jZ m7 hline hs iD).imp fun σ H Q ⟨β,ρ,M,Q',zr,h,q⟩=>⟨β,ρ,M,_,zr,h,fun d M1 v H1 x1 r1 ⟨ht,h1⟩=>⟨Pk x1.mz r1 ht,β,ρ,M1,_,zr.step x1,h1,fun ds M2 vs H2 x2 r2 h3=>
  h2 β v vs d ds M2 H2 _ _ zr.eP zr.ew zr.eK x2.mz (r1.ex x2) r2 h3 fun d' M' v' H' x3 r3 q3=>q _ _ _ _ (x1.trans (x2.trans x3)) r3 q3⟩⟩
end
end L2
namespace L2
open PySem PySem.Spec PySem.W PyProof.Rows
section
variable {X:Cx}{Γ:Gz}{β:Bz}{K:bn}
theorem Zr.K1 {M:Mh}{ρ:aA}{σ:St}{H:Hp}{i:Nat}{a:al}{ks:List (List Key)}{ds:List Dv}(z:Zr Γ β M ρ σ H) (hi:ρ[i]?=some (some (.ptr a))) (ha:M a=some (.dt ks ds)) (h0:Γ.M0 a=none) (fr:t9 Γ.M0 (aN M a) (ρ.set i (some (.dt ks ds)))) :
  Zr Γ β (aN M a) (ρ.set i (some (.dt ks ds))) σ H/\Ev β M H (aN M a) H :=by
 have rz:∀{v:V} {d:Dv},Rz β M H v d->Pin (aN M a) d->Rz β (aN M a) H v d:=fun r p=>r.lW (M0:=aN M a) (fun b hb=>by
  by_cases e:b=a
  ·rw[e,bf]at hb;cases hb
  ·rw[aX e]at hb;exact hb) p
 have lJ:i<ρ.length:=(ce.mp hi).1;have EV:∀d∈ds,Pin (aN M a) d:=fun d hd=>by
  have:=fr.env i (.dt ks ds) (by rw[OF lJ])
  cases this with|dt h=>exact h d hd
 have obj:∀b es,aN M a b=some es->∀d∈es.items,Pin (aN M a) d:=fun b es e d hd=>by
  rcases fr.obj b es e with q|q
  ·refine(z.wf b es q d hd).mono fun c hc=>?_
   have nc:c≠a:=fun w=>by rw[w,h0]at hc;cases hc
   rw[aX nc];exact z.ent.dom c hc
  ·exact q d hd
 have mz:Mz β (aN M a) H :=by
  refine⟨fun b o e=>?_,z.mz.tabs,z.mz.hids,fun b o e=>?_,z.mz.lams⟩
  ·have nb:b≠a:=fun q=>by rw[q,bf]at e;cases e
   have e':M b=some o :=by rw[aX nb]at e;exact e
   have q:=z.mz.obj b o e';cases o with
   |lst es=>obtain⟨vs,hv,rs⟩:=q;exact⟨vs,hv,rs.len,fun j v d x y=>rz (rs.at' j v d x y) (obj b _ e d (cr y))⟩
   |dk ks es=>obtain⟨vs,hv,hk,rs⟩:=q;exact⟨vs,hv,hk,rs.len,fun j v d x y=>rz (rs.at' j v d x y) (obj b _ e d (cr y))⟩
   |dt ks es=>obtain⟨vs,hv,hk,rs⟩:=q;exact⟨vs,hv,hk,rs.len,fun j v d x y=>rz (rs.at' j v d x y) (obj b _ e d (cr y))⟩
   |c6=>exact q
  ·have nb:b≠a:=fun q=>by rw[q,bf]at e;cases e
   rw[aX nb]at e;exact z.mz.apart b o e
 refine⟨⟨z.eP,z.ew,z.eK,z.et,z.sub,z.wf,⟨z.ent.keep,fun b hb=>?_,fun b o m h=>?_⟩,mz,by simp[z.len],fun j d e=>?_⟩,⟨fun b o _ h=>.inl h,fun b o m h=>?_,mz⟩⟩
 ·have nb:b≠a:=fun q=>by rw[q,h0]at hb;cases hb
  rw[aX nb];exact z.ent.dom b hb
 ·by_cases e:b=a
  ·rw[e,bf]
  ·rw[aX e];exact z.ent.new b o m h
 ·have p:=fr.env j d e;rw[Pi]at e;split at e
  ·rename_i q;subst q;first
    |cases e
    |(rw[if_pos lJ]at e;cases e)
   obtain⟨v,hv,r⟩:=z.at' i _ hi;obtain⟨rfl,_⟩:=bL r;obtain⟨vs,hl,hk,rs⟩:=z.mz.obj a _ ha;refine⟨_,hv,.dt ⟨bf,z.mz.apart a _ ha⟩ (.inl hl) hk rs.len fun k v d x y=>rz (rs.at' k v d x y) (EV d (cr y))⟩
  ·obtain⟨v,hv,r⟩:=z.at' j d e;exact⟨v,hv,rz r p⟩
 ·by_cases e:b=a
  ·rw[e,bf]
  ·rw[aX e];exact m
def RB (i:Nat) (M0:Mh) (p:cu):cu:=fun D ρ M=>p D ρ M\/∃a ks ds,ρ[i]?=some (some (.ptr a))/\M a=some (.dt ks ds)/\M0 a=none/\t9 M0 (aN M a) (ρ.set i (some (.dt ks ds)))/\p D (ρ.set i (some (.dt ks ds))) (aN M a)
theorem K2 (i:Nat) {M1:Mh}{st:r9}{p:cu}(hM:Γ.M0=M1) (h:QS Γ X st p):QS Γ X st (RB i M1 p):=h.imp fun D σ H ⟨β,ρ,M,D',zr,h,r⟩=>by
 rcases h with h|⟨a,ks,ds,hi,ha,h0,fr,h⟩
 ·exact⟨β,ρ,M,D',zr,h,r⟩
 ·obtain⟨z2,e2⟩:=zr.K1 hi ha (by rw[hM];exact h0) (by rw[hM];exact fr)
  exact⟨β,_,_,D',z2,h,r.step e2⟩
end
section
variable {X:Cx}{Γ:Gz}
def RC:V->V->Hp->VK->Prop:=fun o i H Q=>∃p xs k j v,o=.ref p/\i=.int k/\H p=some (.lst xs)/\k=((j:Nat):Int)/\xs[j]?=some v/\Q v H
theorem HI:L8 X RC :=by
 intro pins s σ H o i ov iv Q I ro ri h;obtain⟨p,xs,k,j,v,rfl,rfl,hp,rfl,hv,q⟩:=h;cases ro;obtain⟨t,rfl⟩:=ri;obtain⟨its,n,r,ho,hz⟩:=I.lst hp;have hl:=r.length;have hn:=ko;obtain⟨w,ew,fV⟩:=r.get hv;have hj:=(ce.mp hv).1;exact wpAny_getItem_list (PySem.IsL.isList (n:=n) ho) (by omega) (by omega) (by simpa using ew) ⟨v,H,I,fV,q⟩
def zAugS (f:Int->Int->Int) (po pi pe:aI):cu:=fun D ρ M=>po ρ M fun o M1=>pi ρ M1 fun i M2=>match o,i with
 | .ptr a,.int k=>0<=k/\(match M2 a with
  |some (.lst xs)=>(match xs[k.toNat]? with
   |some (.int x)=>pe ρ M2 fun y M3=>match y with
    | .int y=>(match M3 a with|some (.lst ys)=>(match fN ys.length k with|some j=>D.nx ρ (au M3 a (.lst (ys.set j (.int (f x y)))))|none=>False)|_=>False)
    |_=>False
   |_=>False)
  |_=>False)
 |_,_=>False
theorem K3 {o i e:db}{po pi pe:aI}{op:Z1}{f:Int->Int->Int}{pos Bd:u4}(ho:QE Γ X o po) (hi:QE Γ X i pi) (he:QE Γ X e pe) (hp:L3 X op (Sb f))
  (ha:∀ov iv new,augStore i ov iv new=(do holding [new,ov,iv] (setItem ov iv new);release [new,ov,iv] [];pure .next) :=by intros;rfl):QS Γ X (.AugAssign (.Subscript o i Bd) op e pos) (zAugS f po pi pe):=
 (JZ ho hi HI he hp set_list ha).imp fun D σ H ⟨β,ρ,M,D',zr,h,r⟩=>⟨β,ρ,M,_,zr,h,fun od M1 ov H1 x1 r1 h1=>⟨β,ρ,M1,_,zr.step x1,h1,fun d2 M2 iv H2 x2 r2 h2=>by
  have z2:=(zr.step x1).step x2;split at h2
  ·rename_i a k;obtain⟨h0,h2⟩:=h2;split at h2
   ·rename_i xs hx;split at h2
    ·rename_i x WD;obtain⟨e1,hs⟩:=bL (r1.ex x2);subst e1;have e2:=aL r2;subst e2;obtain⟨vs,hv,rs⟩:=x2.mz.obj a _ hx;obtain⟨v,Ou,rv⟩:=rs.get WD;have e3:=aL rv;subst e3;refine⟨a,vs,k,k.toNat,_,rfl,rfl,hv,by omega,Ou,?_⟩
     refine⟨β,ρ,M2,_,z2,h2,fun y M3 yv H3 x3 r3 h3=>?_⟩
     split at h3
     ·rename_i y;have e4:=aL r3;subst e4;split at h3
      ·rename_i ys hy;split at h3
       ·rename_i j hj;obtain⟨us,hu,ru⟩:=x3.mz.obj a _ hy;obtain⟨_,WG⟩:=bL ((r1.ex x2).ex x3);have x4:=Ex.own x3.mz (.inl WG) (ru.set j (.int (f x y)));refine⟨x,y,rfl,rfl,a,us,k,j,rfl,rfl,hu,by rw[ru.len];exact hj,?_⟩
        exact r.nx _ _ _ _ (x1.trans (x2.trans (x3.trans x4))).ev ((z2.step x3).step x4) h3
       ·exact h3.elim
      ·exact h3.elim
     ·exact h3.elim
    ·exact h2.elim
   ·exact h2.elim
  ·exact h2.elim⟩⟩
end
section
variable {X:Cx}{Γ:Gz}{β:Bz}{K:bn}
theorem Zr.K4 {M:Mh}{ρ:aA}{σ:St}{H:Hp}{i:Nat}{a:al}{ks:List Key}{ds:List Dv}(z:Zr Γ β M ρ σ H) (hi:ρ[i]?=some (some (.ptr a))) (ha:M a=some (.dk ks ds)) (h0:Γ.M0 a=none) (fr:t9 Γ.M0 (aN M a) (ρ.set i (some (.dk ks ds)))) :
  Zr Γ β (aN M a) (ρ.set i (some (.dk ks ds))) σ H/\Ev β M H (aN M a) H :=by
 have rz:∀{v:V} {d:Dv},Rz β M H v d->Pin (aN M a) d->Rz β (aN M a) H v d:=fun r p=>r.lW (M0:=aN M a) (fun b hb=>by
  by_cases e:b=a
  ·rw[e,bf]at hb;cases hb
  ·rw[aX e]at hb;exact hb) p
 have lJ:i<ρ.length:=(ce.mp hi).1;have EV:∀d∈ds,Pin (aN M a) d:=fun d hd=>by
  have:=fr.env i (.dk ks ds) (by rw[OF lJ])
  cases this with|dk h=>exact h d hd
 have obj:∀b es,aN M a b=some es->∀d∈es.items,Pin (aN M a) d:=fun b es e d hd=>by
  rcases fr.obj b es e with q|q
  ·refine(z.wf b es q d hd).mono fun c hc=>?_
   have nc:c≠a:=fun w=>by rw[w,h0]at hc;cases hc
   rw[aX nc];exact z.ent.dom c hc
  ·exact q d hd
 have mz:Mz β (aN M a) H :=by
  refine⟨fun b o e=>?_,z.mz.tabs,z.mz.hids,fun b o e=>?_,z.mz.lams⟩
  ·have nb:b≠a:=fun q=>by rw[q,bf]at e;cases e
   have e':M b=some o :=by rw[aX nb]at e;exact e
   have q:=z.mz.obj b o e';cases o with
   |lst es=>obtain⟨vs,hv,rs⟩:=q;exact⟨vs,hv,rs.len,fun j v d x y=>rz (rs.at' j v d x y) (obj b _ e d (cr y))⟩
   |dk ks es=>obtain⟨vs,hv,hk,rs⟩:=q;exact⟨vs,hv,hk,rs.len,fun j v d x y=>rz (rs.at' j v d x y) (obj b _ e d (cr y))⟩
   |dt ks es=>obtain⟨vs,hv,hk,rs⟩:=q;exact⟨vs,hv,hk,rs.len,fun j v d x y=>rz (rs.at' j v d x y) (obj b _ e d (cr y))⟩
   |c6=>exact q
  ·have nb:b≠a:=fun q=>by rw[q,bf]at e;cases e
   rw[aX nb]at e;exact z.mz.apart b o e
 refine⟨⟨z.eP,z.ew,z.eK,z.et,z.sub,z.wf,⟨z.ent.keep,fun b hb=>?_,fun b o m h=>?_⟩,mz,by simp[z.len],fun j d e=>?_⟩,⟨fun b o _ h=>.inl h,fun b o m h=>?_,mz⟩⟩
 ·have nb:b≠a:=fun q=>by rw[q,h0]at hb;cases hb
  rw[aX nb];exact z.ent.dom b hb
 ·by_cases e:b=a
  ·rw[e,bf]
  ·rw[aX e];exact z.ent.new b o m h
 ·have p:=fr.env j d e;rw[Pi]at e;split at e
  ·rename_i q;subst q;first
    |cases e
    |(rw[if_pos lJ]at e;cases e)
   obtain⟨v,hv,r⟩:=z.at' i _ hi;obtain⟨rfl,_⟩:=bL r;obtain⟨vs,hl,hk,rs⟩:=z.mz.obj a _ ha;refine⟨_,hv,.dk ⟨bf,z.mz.apart a _ ha⟩ (.inl hl) hk rs.len fun k v d x y=>rz (rs.at' k v d x y) (EV d (cr y))⟩
  ·obtain⟨v,hv,r⟩:=z.at' j d e;exact⟨v,hv,rz r p⟩
 ·by_cases e:b=a
  ·rw[e,bf]
  ·rw[aX e];exact m
def RD (i:Nat) (M0:Mh) (p:cu):cu:=fun D ρ M=>p D ρ M\/∃a ks ds,ρ[i]?=some (some (.ptr a))/\M a=some (.dk ks ds)/\M0 a=none/\t9 M0 (aN M a) (ρ.set i (some (.dk ks ds)))/\p D (ρ.set i (some (.dk ks ds))) (aN M a)
theorem AV (i:Nat) {M1:Mh}{st:r9}{p:cu}(hM:Γ.M0=M1) (h:QS Γ X st p):QS Γ X st (RD i M1 p):=h.imp fun D σ H ⟨β,ρ,M,D',zr,h,r⟩=>by
 rcases h with h|⟨a,ks,ds,hi,ha,h0,fr,h⟩
 ·exact⟨β,ρ,M,D',zr,h,r⟩
 ·obtain⟨z2,e2⟩:=zr.K4 hi ha (by rw[hM];exact h0) (by rw[hM];exact fr)
  exact⟨β,_,_,D',z2,h,r.step e2⟩
end
section
variable {X:Cx}{Γ:Gz}
variable {tg iter k v:db}{ifs:List db}{scope:ul}{pos:u4}{N':List br}{tn:Nat}{idx:List Nat}{wi:TI}{g:TG}{tt:TT}{tk tv:TE}
theorem yK (tup:Bool) (hu:X.A.units+1<cLine) (hc:X.calm=true) (B:cN X.N X.env.scope scope N' tn idx) (hi:PI X tg iter wi)
  (hg:eL X N' scope fun Y=>PG Y tg g) (ht:eL X N' scope fun Y=>iF Y ifs tt) (hk:eL X N' scope fun Y=>PE Y k tk) (hv:eL X N' scope fun Y=>PE Y v tv)
  (hs:∀x,foldedSetIterable iter X.env x=pure x :=by intro _;rfl):PE X (.DictComp k v [⟨tg,iter,ifs,0⟩] scope pos) (Fu tup tn idx wi g tt tk tv) :=by
 refine⟨?_⟩;intro pins s σ H Q I h;obtain⟨cl,fO,cA,dN⟩:=fk (scope:=scope) (env:=X.env) fun n hn=>I.ok.has n ((B.2.1 _ hn).2.2 rfl)
 rw[arm_eval_DictComp];refine No (use:=none) rfl hs fO B.1 (fun y hy=>(B.2.1 y hy).2.1) (l6 (hi pins s σ H _ I h) (fun xv s1 h1=>l6 h1 (fun uN s2 h2=>?_) fun _ _ z=>z) fun _ _ z=>z)
 obtain⟨it,fp,bY,J,H2,e,I2,T,mL,f2,q2⟩:=h2;subst e;refine compG_coreC (RR:=fun acc C=>compPost (model X.prog X.w) X.A X.xe none (EP X pins σ Q) acc C) (body:=fun acc env=>match acc with | .ref D=>Cr k v D env|_=>pure ()) (tb:=fun D=>Ct D tk tv) (O0:=if tup=true then .dT [] else .dK []) (o0:={cls:=.type "dict",data:=.dict #[]})
  (fun Q q=>tw q) rfl (fun H h1 hd=>Cu tup I2.big hd) hc B (fun D cl C s H fp=>⟨fun _=>rfl,fun _ _ _ _ h=>h,fun _=>Fs ..,fun _ _ _ _ h=>h,rfl⟩) hg ht (fun D cl C s H fp=>Pg hu (hk cl C s H fp) (hv cl C s H fp))
  I2 T mL f2 cA dN q2 fun D C m s' H' J2 fC hm q=>?_
 exact⟨m,hm,fun h' nS=>⟨.ref D,H',fC.turn J2 nS,rfl,q⟩⟩
theorem v8 {zi:dZ}{g:cf}{tt:cC}{tk tv:aI}(hu:X.A.units+64<cLine) (hc:X.calm=true) (B:cN X.N X.env.scope scope N' tn idx) (hi:QI Γ X tg iter zi)
  (hg:eL X N' scope fun Y=>QG Γ Y tg g) (ht:eL X N' scope fun Y=>sA Γ Y ifs tt) (hk:eL X N' scope fun Y=>QE Γ Y k tk) (hv:eL X N' scope fun Y=>QE Γ Y v tv)
  (hs:∀x,foldedSetIterable iter X.env x=pure x :=by intro _;rfl):QE Γ X (.DictComp k v [⟨tg,iter,ifs,0⟩] scope pos) (zCompDT tn idx zi g tt tk tv):=
 (yK true (by omega) hc B hi hg ht hk hv hs).imp fun σ H Q h=>HG h
end
end L2
open PySem L2 PyProof.Rows
local macro_rules | `(tactic| simp! only[$xs,*] $[$l]?)=>`(tactic| simp only[zVar,zC,zOp,zII,zIC,zEq,zNe,scalZ,zIsN,isNonD,zSS,zTest,zBool,zChain,zAnd,zOr,zNot,zAndV,zNotV,zNil,zCons,zTup,zLst,zLstP,zCB,z1,zLenD,z2I,zAbs,zTuple,zSorted,zSet,intsM,itemsM,zIsInst,isD,zBM,tyZ,zAppend,zExtend,zPop,zPopAt,zIndexS,zSetI,zgSub,zNext,zSeq,zDrop,zRet,zIfS,zgName,zgNil,zgCons,zgTup,zAsg,zFor,zForM,zComp,zCompP,zAll,zSetC,zBlock,zCall,zRaise,zstart,zEndsOf,ziTup,ziLst,ziStr,ziRng1,ziRng2,ziEnumK,ziZip,ziKeys,ziItems,seqK,zoNone,zoSome,zSl,zSlS,zIx,zRangeT,zRangeP,zTruth,truD,zNoIf,zAllB,zGetR,zDIn,zMGet,lookD,nowK,keyD,zDNewK,zDNewT,zDisp1K,zDisp1T,zDPut,zLenT,zCatLP,zIxS,zListDP,boolsD,keysL,zRepP,zAugS,zCallL,zBMD,tyD,zCompDT,Yj,KF,lw,Rs,GT,ZI,xy,NE,DD,List.replicate_zero,Uf,UF,ZH,Nat.reduceAdd,Nat.reduceSub,Nat.sub_self,YW,if_true,if_false,l8,Yy,Bool.not_false,true_and,and_true,beq_self_eq_true,String.reduceBEq,zLoop,ca,X9,updM_same,updM_updM,Lu,IN,kw,rangeD_len,pairsD_len,ET,atI_zero,decide_true,decide_false,Bool.not_eq_true,bne_self_eq_false,$xs,*] $[$l]?)
local macro_rules | `(tactic| dsimp! only[$xs,*] $[$l]?)=>`(tactic| simp only[zVar,zC,zOp,zII,zIC,zEq,zNe,scalZ,zIsN,isNonD,zSS,zTest,zBool,zChain,zAnd,zOr,zNot,zAndV,zNotV,zNil,zCons,zTup,zLst,zLstP,zCB,z1,zLenD,z2I,zAbs,zTuple,zSorted,zSet,intsM,itemsM,zIsInst,isD,zBM,tyZ,zAppend,zExtend,zPop,zPopAt,zIndexS,zSetI,zgSub,zNext,zSeq,zDrop,zRet,zIfS,zgName,zgNil,zgCons,zgTup,zAsg,zFor,zForM,zComp,zCompP,zAll,zSetC,zBlock,zCall,zRaise,zstart,zEndsOf,ziTup,ziLst,ziStr,ziRng1,ziRng2,ziEnumK,ziZip,ziKeys,ziItems,seqK,zoNone,zoSome,zSl,zSlS,zIx,zRangeT,zRangeP,zTruth,truD,zNoIf,zAllB,zGetR,zDIn,zMGet,lookD,nowK,keyD,zDNewK,zDNewT,zDisp1K,zDisp1T,zDPut,zLenT,zCatLP,zIxS,zListDP,boolsD,keysL,zRepP,zAugS,zCallL,zBMD,tyD,zCompDT,Yj,KF,lw,Rs,GT,ZI,xy,NE,DD,List.replicate_zero,Uf,UF,ZH,Nat.reduceAdd,Nat.reduceSub,Nat.sub_self,YW,if_true,if_false,l8,Yy,Bool.not_false,true_and,and_true,beq_self_eq_true,String.reduceBEq,ca,X9,updM_same,updM_updM,Lu,IN,kw,rangeD_len,pairsD_len,ET,atI_zero,decide_true,decide_false,Bool.not_eq_true,bne_self_eq_false,$xs,*] $[$l]?)
namespace My
open PySem L2 PyProof.Rows
def top (i:Nat):r9:=PySem.Challenge.pw_roadcall_k37_words_counted.main.body.getD i (.Pass ⟨0,0,0,0⟩)
abbrev gu:r9:=top 4
abbrev d6:r9:=top 5
abbrev lh:r9:=top 9
abbrev lj:r9:=top 10
abbrev j8:r9:=top 11
abbrev gb:r9:=top 12
abbrev jA:r9:=top 15
abbrev d7:r9:=top 17
abbrev aJ:r9:=top 18
abbrev j9:r9:=top 20
abbrev eE:r9:=top 21
abbrev gT:r9:=top 22
abbrev mn:r9:=top 23
abbrev ka:r9:=top 25
abbrev fH:r9:=top 26
abbrev gd:r9:=top 27
abbrev cP:r9:=top 28
abbrev eO:r9:=top 29
abbrev eX:r9:=top 30
abbrev gU:r9:=top 31
abbrev fS:r9:=top 32
abbrev c9:r9:=top 33
abbrev dz:r9:=top 34
abbrev Cw:r9:=top 35
section
variable {P:en}{w:ii}{K:bn}{mg:br->Option am}{base:hX}{tb:cG}{k:Nat}{f:al}{fd:ln}{ps:List br}
theorem eQ:aW ["_law_script","_law_at","_law_cell","_law_mix","_law_k"] ["_law_script","_law_at"] (aj ka):=⟨rfl,rfl,rfl,by decide +kernel,rfl,by decide +kernel,by decide +kernel⟩
theorem eY:aW ["_law_bag_here","_law_many","_law_digit","_law_number","_law_room"] ["_law_bag_here","_law_many"] (aj fH):=⟨rfl,rfl,rfl,by decide +kernel,rfl,by decide +kernel,by decide +kernel⟩
theorem n8:aW ["_law_bag_here","_law_many","_law_free"] ["_law_bag_here","_law_many"] (aj gd):=⟨rfl,rfl,rfl,by decide +kernel,rfl,by decide +kernel,by decide +kernel⟩
theorem bK:aW ["_law_bag_here","_law_most","_law_many","_law_ways","_law_kind","_law_rows","_law_order_here","_law_period","_law_stays","_law_k","_law_place","_law_onward","_law_goals","_law_turns"] ["_law_bag_here","_law_most"] (aj cP):=⟨rfl,rfl,rfl,by decide +kernel,rfl,by decide +kernel,by decide +kernel⟩
def Pl:cM:=fun ds M Q _=>∃(ns:List Int) (t:Int),ds=[.bR ns,.int t]/\ns.length<=63/\0<=t/\t<=63/\∀b,M b=none->Q (.ptr b) (au M b .c6)
def Jv:cM:=fun ds M Q _=>∃(ns:List Int) (t:Int),ds=[.bR ns,.int t]/\ns.length<=63/\0<=t/\t<=63/\∀b c m,M b=none->0<=c->0<=m->Q (.ptr b) (au M b (.lst [.int c,.int m]))
theorem Cy (D:Df K mg "_law_bag" ka ["_law_script","_law_at"] f fd) (bl:Bl mg):FnOk P w K mg base bw 1 f fd ["_law_script","_law_at"] (bp P w K tb Jv) :=by
 refine eW D eQ (fun ds M Q E hS=>by obtain⟨ns,t,e,_⟩:=hS;rw[e];rfl) fun A outer s E Γ ds Q' E' hP hw hK ht hr hS=>?_
 obtain⟨ns,t,e,hl,t0,t1,q⟩:=hS;refine⟨_,(ai (aK (i:=2) eQ.nd rfl (li rfl) aw)
  (ai (cq (bC tX (qv 1) (ay (cD (K:=K) rfl hK) rfl bl.len_ nw (aa (qv 0) af)) (bt _))
   (av (aK (i:=2) eQ.nd rfl (li rfl) (ay Rp rfl bl.abs_ Nk (aa (bV (Js (K:=K) rfl hK) (qv 0) (qv 1) (fun _ _=>rfl)) af))))
   qss_nil)
  (ai (aK (i:=3) eQ.nd rfl (li rfl) (aP fQ (aP pP aw (qv 1)) aw))
  (ai (dH v6 rfl (bM rfl bl.range_ (aa (ay (EG rfl) rfl bl.min_ DQ (aa (ay (cD (K:=K) rfl hK) rfl bl.len_ nw (aa (qv 0) af)) (aa aw af))) af)) (fun jQ eP ew eK et=>by have hP:=hP.trans eP.symm;have hw:=hw.trans ew.symm;have hK:=hK.trans eK.symm;have ht:=ht.trans et.symm;exact⟨(aE (i:=4) eQ.nd rfl (li rfl)),(av (aK (i:=3) eQ.nd rfl (li rfl) (aP j6 (aP fQ (aP fQ (aP pP (qv 3) aw) (aP j6 (bV (Js (K:=K) rfl hK) (qv 0) (qv 4) (fun _ _=>rfl)) aw)) (qv 4)) aw)))⟩))
  (ai (cq (bC tX (qv 2) (aP Rm aw aw) (bt _))
   (av (aK (i:=2) eQ.nd rfl (li rfl) aw))
   qss_nil)
  (av (aS (tU (aa (qv 2) (aa (qv 3) af)))))))))),?_⟩
 subst e;refine Jo (fun ρ M=>M=Γ.M0/\∃c m x:Int,∃x4,0<=c/\0<=m/\ρ=[some (.bR ns),some (.int t),some (.int c),some (.int m),x4]) (fun N hN=>?_) ?_
 ·refine Ry (fun ρ M=>M=Γ.M0/\∃c:Int,0<=c/\ρ=[some (.bR ns),some (.int t),some (.int c),none,none]) (fun N hN=>?_) ?_
  ·simp! only[];refine fE (fun h=>?_) (fun _=>hN _ _ ⟨rfl,0,by omega,rfl⟩)
   have ht:t<(ns.length:Int):=of_decide_eq_true h;obtain⟨k,rfl⟩:=At t0;rw[EJ (show k<ns.length by omega)]
   exact hN _ _ ⟨rfl,_,by split<;>omega,rfl⟩
  rintro ρ M ⟨rfl,c,hc,rfl⟩;simp! only[];refine⟨.inl ⟨by decide,by decide⟩,by split<;>omega,by split<;>omega,?_⟩
  refine bN (fun i ρ M=>M=Γ.M0/\∃m:Int,∃x4,0<=m/\ρ=[some (.bR ns),some (.int t),some (.int c),some (.int m),x4]) ⟨rfl,_,_,by omega,rfl⟩ (fun i d ρ M N2 hd hJ yL=>?_) (fun ρ M hJ=>?_)
  ·obtain⟨rfl,m,x4,hm,rfl⟩:=hJ;obtain⟨rfl,hi⟩:=cU hd;have hi:i<ns.length :=by split at hi<;>omega
   simp! only[EJ hi];exact⟨.inr ⟨by decide,by decide⟩,by decide,by decide,yL _ _ ⟨rfl,_,_,YX _ (by decide),rfl⟩⟩
  ·obtain⟨rfl,m,x4,hm,rfl⟩:=hJ;exact hN _ _ ⟨rfl,c,m,0,x4,hc,hm,rfl⟩
 ·rintro ρ M ⟨rfl,c,m,x,x4,hc,hm,rfl⟩;simp! only[];exact⟨⟨by decide,by decide,by decide⟩,fE (fun _=>⟨by decide,fun a ha=>.inl (q a 0 m ha (by omega) hm)⟩) (fun _=>⟨by decide,fun a ha=>.inl (q a c m ha hc hm)⟩)⟩
theorem RE (G:FnOk P w K mg base bw k f fd ps (bp P w K tb Jv)):FnOk P w K mg base bw k f fd ps (bp P w K tb Pl):=G.imp fun vs H Q E hS=>by
 obtain⟨β,ds,M,Q',E',eP,ew,eK,et,m,rs,⟨ns,t,e,h1,h2,h3,h⟩,q,qe⟩:=hS;refine⟨β,ds,M,fun d M'=>∃b c m,d=.ptr b/\M b=none/\0<=c/\0<=m/\M'=au M b (.lst [.int c,.int m]),fun _ _=>False,eP,ew,eK,et,m,rs,⟨ns,t,e,h1,h2,h3,fun b c m h4 h5 h6=>⟨b,c,m,rfl,h4,h5,h6,rfl⟩⟩,fun d M' v H' x r hQ=>?_,fun _ _ _ _ h=>h.elim⟩
 obtain⟨b,c,m',rfl,hb,hc,hm,rfl⟩:=hQ;have hB:=Fl x.mz hc hm;exact q _ _ _ _ (Ex.sealed hb x hB) (r.dom (kh M b _ _)) (h b hb)
def pY:cM:=fun ds M Q _=>∃(b:al) (n:Int),ds=[.ptr b,.int n]/\M b=some .c6/\1<=n/\n<1073741824/\∀d:Nat,(d:Int)<n->Q (.int (d:Nat)) M
def Fy:cM:=fun ds M Q _=>∃(b:al) (n c m:Int),ds=[.ptr b,.int n]/\M b=some (.lst [.int c,.int m])/\0<=c/\0<=m/\1<=n/\n<1073741824/\∀(d:Nat) (c m:Int),(d:Int)<n->0<=c->0<=m->Q (.int (d:Nat)) (au M b (.lst [.int c,.int m]))
theorem zI (D:Df K mg "_law_take" fH ["_law_bag_here","_law_many"] f fd):FnOk P w K mg base bw 1 f fd ["_law_bag_here","_law_many"] (bp P w K tb Fy) :=by
 refine eW D eY (fun ds M Q E hS=>by obtain⟨b,n,c,m,e,_⟩:=hS;rw[e];rfl) fun A outer s E Γ ds Q' E' hP hw hK ht hr hS=>?_
 obtain⟨b,n,c,m,e,hb,hc,hm,n1,n2,q⟩:=hS;refine⟨_,(ai (cq (bC Ux (bV (du (K:=K) rfl) (qv 0) aw (fun _ _=>rfl)) aw (bt _))
   (ai (aK (i:=2) eY.nd rfl (li rfl) (aP j6 (bV (du (K:=K) rfl) (qv 0) aw (fun _ _=>rfl)) (qv 1)))
  (ai (jL (aP EC (bV (du (K:=K) rfl) (qv 0) aw (fun _ _=>rfl)) (qv 1)) (jN (qv 0) aw))
  (av (aS (qv 2)))))
   qss_nil)
  (ai (aK (i:=3) eY.nd rfl (li rfl) aw)
  (ai (aK (i:=4) eY.nd rfl (li rfl) aw)
  (ai (yg v6 (bC tX (qv 4) (qv 1) (bt _))
   (ai (jL (aP j6 (aP fQ (aP pP (bV (du (K:=K) rfl) (qv 0) aw (fun _ _=>rfl)) aw) aw) aw) (jN (qv 0) aw))
  (ai (aK (i:=3) eY.nd rfl (li rfl) (aP fQ (aP pP (qv 3) aw) (aP j6 (aP pP (aP EC (bV (du (K:=K) rfl) (qv 0) aw (fun _ _=>rfl)) aw) aw) aw)))
  (av (aK (i:=4) eY.nd rfl (li rfl) (aP pP (qv 4) aw))))))
  (av (aS (aP j6 (qv 3) (qv 1)))))))),?_⟩
 subst e;have WH:∀x y:Int,dj [Dv.int x,Dv.int y] 1=some (.int y):=fun x y=>eh (j:=1) rfl
 have WK:fN 2 0=some 0:=rfl;have WL:fN 2 1=some 1:=rfl;have fin:∀{i c m:Int} {M:Mh},0<=c->0<=m->M=au Γ.M0 b (.lst [.int c,.int m])->jj Γ.M0 Q' (.int (i % n)) M:=fun {i c m M} hc hm e=>by
  obtain⟨d,hd⟩:=At (YX i (show n≠0 by omega))
  have:=Int.emod_lt_of_pos i (show 0<n by omega)
  rw[hd,e];exact .inl (q d c m (by omega) hc hm)
 simp! only[hb,WK];refine fE (fun h=>?_) (fun h=>?_)
 ·refine⟨by omega,⟨by omega,n2⟩,fin (Int.ediv_nonneg hc (by omega)) hm rfl⟩
 ·refine⟨fun k ρ M=>∃num room c m x2,0<=num/\1<=room/\0<=c/\0<=m/\k=(n - room).toNat/\ρ=[some (.ptr b),some (.int n),x2,some (.int num),some (.int room)]/\M=au Γ.M0 b (.lst [.int c,.int m]),⟨_,0,1,c,m,_,by omega,by omega,hc,hm,rfl,rfl,(AK hb).symm⟩,?_⟩
  rintro k ρ M ⟨num,room,c,m,x2,h1,h2,hc,hm,rfl,rfl,rfl⟩;simp! only[WH,WL,updM_same];refine fE (fun h=>?_) (fun h=>⟨by omega,fin hc hm rfl⟩)
  have h:=of_decide_eq_true h;have m3:0<=(m * 48271+7919) % 2147483647:=YX _ (by decide)
  have n3:0<=(m * 48271+7919) % 2147483647 / 8 * 69621 % 1073741789:=YX _ (by decide)
  refine⟨.inr ⟨by decide,by decide⟩,by decide,.inr ⟨by decide,by decide⟩,⟨by decide,by decide⟩,.inr ⟨by decide,by decide⟩,by decide,.inr ⟨by decide,by decide⟩,_,?_,_,_,c,_,_,?_,?_,hc,m3,rfl,rfl,rfl⟩<;>omega
theorem Pn (G:FnOk P w K mg base bw k f fd ps (bp P w K tb Fy)):FnOk P w K mg base bw k f fd ps (bp P w K tb pY):=G.imp fun vs H Q E hS=>by
 obtain⟨β,ds,M,Q',E',eP,ew,eK,et,m,rs,⟨b,n,e,hb,h1,h2,h⟩,q,qe⟩:=hS;have eM:=AK hb;have d1:∀o a,(M a).isSome=(au M b o a).isSome:=fun o a=>by have:=kh M b .c6 o a;rwa [eM]at this
 rw[<- eM]at m;obtain⟨c,m0,hc,hm,hO⟩:=O8 m;refine⟨β,ds,au M b (.lst [.int c,.int m0]),fun d M'=>∃(k:Nat) (c' m':Int),d=.int (k:Nat)/\(k:Int)<n/\0<=c'/\0<=m'/\M'=au M b (.lst [.int c',.int m']),fun _ _=>False,eP,ew,eK,et,m.chg hO,⟨rs.len,fun i v d x y=>(rs.at' i v d x y).dom (d1 _)⟩,⟨b,n,c,m0,e,updM_same,hc,hm,h1,h2,fun d c' m' h3 h4 h5=>⟨d,c',m',rfl,h3,h4,h5,updM_updM⟩⟩,fun d M' v H' x r hQ=>?_,fun _ _ _ _ h=>h.elim⟩
 obtain⟨k,c',m',rfl,hk,Iq,Ad,rfl⟩:=hQ;have hB:=Fl x.mz Iq Ad;have x2:=Ex.chg (o2:=.c6) x hB;rw[eM]at x2;exact q _ _ _ _ x2 (r.dom fun a=>(d1 _ a).symm) (h k hk)
theorem vL {α β:Type}(f:α->β):∀(l:List α) (i:Nat),(l.map f).eraseIdx i=(l.eraseIdx i).map f
 | [],_=>rfl
 |_::_,0=>rfl
 |a::l,i+1=>by
          show f a::(l.map f).eraseIdx i=f a::(l.eraseIdx i).map f;rw[vL f l i]
theorem gm {α:Type}:∀(l:List α) (i:Nat) (h:i<l.length),(l[i]::l.eraseIdx i).Perm l
 |a::l,0,_=>.refl _
 |a::l,i+1,h=>by
          have h':i<l.length :=by simpa using h
          show (l[i]::a::l.eraseIdx i).Perm (a::l);exact(Ye.swap a l[i] _).trans ((gm l i h').cons a)
structure fI (n:Nat) (os:List Int):Prop where
 perm:os.Perm ((io n).map fun i:Nat=>(i:Int))
theorem fI.len {n:Nat}{os:List Int}(h:fI n os):os.length=n :=by
 have:=h.perm.length_eq;simpa using this
theorem fI.mem {n:Nat}{os:List Int}(h:fI n os) {x:Int}(hx:x∈os):0<=x/\x<n :=by
 have:=h.perm.mem_iff.mp hx;obtain⟨i,hi,rfl⟩:=kt.mp this;have:=rb.mp hi;omega
theorem fI.at {n:Nat}{os:List Int}(h:fI n os) {i:Nat}(hi:i<n):∃x:Int,dj (os.map Dv.int) (i:Int)=some (.int x)/\0<=x/\x<n :=by
 have hl:i<os.length :=by rw[h.len];exact hi
 exact⟨os[i],eh (by rw[bv,ap hl];rfl),h.mem (wT hl)⟩
def FA:cM:=fun ds M Q _=>∃(b:al) (n:Nat),ds=[.ptr b,.int (n:Nat)]/\M b=some .c6/\n<=100/\∀os,fI n os->Q (lX os) M
def Jw:cM:=fun ds M Q _=>∃(b:al) (most:Nat),ds=[.ptr b,.int (most:Nat)]/\M b=some .c6/\1<=most/\most<=9/\∀ae n,bJ ae n->ae.length<=most->Q (eN ae) M
theorem K5 {n d:Nat}(h:d<n):seqIndex? (d:Int) n=some d:=(tM (n:=n) (i:=(d:Int)) (j:=d) (by unfold fN;rw[if_pos (by omega),if_pos (by omega)];rfl)).1
theorem yM {f1:al}{cI:ln}(D:Df K mg "_law_order" gd ["_law_bag_here","_law_many"] f fd)
  (aq:Df K mg "_law_take" fH ["_law_bag_here","_law_many"] f1 cI) (bz:FnOk P w K mg base bw 1 f1 cI ["_law_bag_here","_law_many"] (bp P w K tb pY)) (bl:Bl mg):FnOk P w K mg base bw 2 f fd ["_law_bag_here","_law_many"] (bp P w K tb FA) :=by
 refine eW D n8 (fun ds M Q E hS=>by obtain⟨b,n,e,_⟩:=hS;rw[e];rfl) fun A outer s E Γ ds Q' E' hP hw hK ht hr hS=>?_
 obtain⟨b,n,e,hb,hn,q⟩:=hS;refine⟨_,(ai (aK (i:=2) n8.nd rfl (Ix rfl) (v7 rfl rfl bl.list_ rfl bl.range_ (qv 1)))
  (av (aS (bX (N':=["_law_k","_law_free","_law_bag_here","_law_many"]) (tn:=1) (idx:=[2,0,1]) rfl (show aD ["_law_bag_here","_law_many","_law_free"] (aj gd) _ ["_law_k","_law_free","_law_bag_here","_law_many"] 1 [2,0,1] from by decide +kernel) (bM rfl bl.range_ (aa (qv 1) af)) (fun _ _ _ _ _=>(aE (i:=0) (show wS [("_law_k" : br),("_law_free" : br),("_law_bag_here" : br),("_law_many" : br)] from by decide +kernel) rfl (li rfl))) (fun _ _ _ _ _=>bS) (fun _ _ _ _ _=>(sD (K:=K) rfl SI PySem.F.slot_list_pop PySem.F.type_list_pop Ax (qv 1) (aa (aG bz (hr.mono (by decide)) rfl aq.mg aq.fn.kp aq.bd bb hP hw hK ht XR.none (aa (qv 2) (aa (aP nu (qv 3) (qv 0)) af))) af))))))),?_⟩
 subst e;simp! only[];refine⟨by omega,by omega,fun a ha=>⟨by omega,by omega,?_⟩⟩
 have WM:b≠a:=fun z=>by rw[z,ha]at hb;cases hb
 refine⟨BB hn (by decide),hV (acc:=[]) (fun acc τ M=>∃rest got:List Int,acc=got.map Dv.int/\(∃x,τ=[x,some (.ptr a),some (.ptr b),some (.int (n:Nat))])/\M a=some (.lst (rest.map .int))/\(∀c,c≠a->M c=Γ.M0 c)/\(got++rest).Perm ((io n).map fun i:Nat=>(i:Int))) ⟨(io n).map fun i:Nat=>(i:Int),[],rfl,⟨_,rfl⟩,by rw[updM_same,kY,ma];rfl,fun c hc=>ao hc,.refl _⟩ (fun i d acc τ M hd hl ⟨rest,got,e1,⟨x,e2⟩,h1,h2,h3⟩ R hR=>?_) (fun ys τ M hl ⟨rest,got,e1,⟨x,e2⟩,h1,h2,h3⟩=>?_)⟩
 ·subst e1 e2;obtain⟨rfl,hi⟩:=cU hd;have hlen:got.length+rest.length=n :=by have:=h3.length_eq;simpa using this
  have hl:got.length=i :=by simpa using hl
  simp! only[];refine⟨by rw[h1];trivial,b,_,rfl,(by rw[h2 b WM];exact hb),by omega,by omega,fun d hd=>?_⟩
  have vc:d<rest.length :=by omega
  simp only[h1,ca,K5 vc,bv,ap vc,Fa];refine⟨by omega,by omega,hR _ _ _ ⟨rest.eraseIdx d,got++[rest[d]],by rw[u8];rfl,⟨_,rfl⟩,by rw[updM_same,vL],fun c hc=>by rw[ao hc];exact h2 c hc,?_⟩⟩
  refine Ye.trans ?_ h3;rw[NH];exact Ye.append_left got (gm rest d vc)
 ·simp only[GT]at e1;subst e1;have hlen:got.length+rest.length=n :=by have:=h3.length_eq;simpa using this
  have hl:got.length=n :=by simpa[rangeD_len] using hl
  have sT:rest=[]:=WE (by omega)
  rw[sT,Lu]at h3;exact jP (fun c o e=>by rw[h2 c (fun z=>by rw[z,ha]at e;cases e)];exact e) (.lst (jk _)) (q got ⟨h3⟩)
end
section
variable {P:en}{w:ii}{K:bn}{mg:br->Option am}{base:hX}{tb:cG}
def gy (n ways:Nat) (row:List Int):Prop:=row.length=ways/\∀x∈row,0<=x/\x<(n:Int)
structure dA (M0 M:Mh) (r:al) (as:List al) (n ways:Nat):Prop where
 kp:Keeps M0 M
 r0:M0 r=none
 rm:M r=some (.lst (as.map .ptr))
 fr:∀a∈as,M0 a=none/\a≠r
 len:as.length=n
 row:∀a∈as,∃row:List Int,M a=some (.lst (row.map .int))/\gy n ways row
 pin:∀b o,M b=some o->M0 b=some o\/b=r\/(∃row:List Int,o=.lst (row.map .int))\/∃bs:List al,o=.lst (bs.map .ptr)/\∀c∈bs,c≠r/\∃o,M c=some o
theorem dA.xH {M0 M:Mh}{r:al}{as:List al}{n ways:Nat}(h:dA M0 M r as n ways) {a:al}(ha:a∈as) {row:List Int}(o:gy n ways row):dA M0 (au M a (.lst (row.map .int))) r as n ways :=by
 obtain⟨f0,f1⟩:=h.fr a ha;refine⟨.upd f0 h.kp,h.r0,by rw[ao (zn f1)];exact h.rm,h.fr,h.len,fun c hc=>?_,fun b u e=>?_⟩
 ·by_cases z:c=a
  ·subst z;exact⟨row,updM_same,o⟩
  ·rw[ao z];exact h.row c hc
 ·by_cases z:b=a
  ·subst z;rw[updM_same]at e;cases e;exact .inr (.inr (.inl ⟨row,rfl⟩))
  ·rw[ao z]at e;rcases h.pin b u e with q|q|q|⟨bs,q1,q2⟩
   ·exact .inl q
   ·exact .inr (.inl q)
   ·exact .inr (.inr (.inl q))
   ·refine .inr (.inr (.inr ⟨bs,q1,fun c hc=>⟨(q2 c hc).1,?_⟩⟩))
    by_cases z:c=a
    ·subst z;exact⟨_,updM_same⟩
    ·rw[ao z];exact(q2 c hc).2
theorem dA.put {M0 M:Mh}{r:al}{as:List al}{n ways:Nat}(h:dA M0 M r as n ways) {a:al}(ha:M a=none) {row:List Int}(o:gy n ways row) {i:Nat}(hi:i<n):dA M0 (au (au M a (.lst (row.map .int))) r (.lst ((as.map .ptr).set i (.ptr a)))) r (as.set i a) n ways :=by
 have nr:a≠r:=fun z=>by rw[z,h.rm]at ha;cases ha
 have a0:M0 a=none :=by
  cases e:M0 a with
  |none=>rfl
  |some u=>rw[h.kp a u e]at ha;cases ha
 have WN:a ∉ as:=fun z=>by obtain⟨row,e,_⟩:=h.row a z;rw[ha]at e;cases e
 refine⟨.upd h.r0 (.upd a0 h.kp),h.r0,by rw[updM_same,YY],fun c hc=>?_,by rw[X9];exact h.len,fun c hc=>?_,fun b u e=>?_⟩
 ·rcases Yb hc with z|z
  ·exact h.fr c z
  ·rw[z];exact⟨a0,nr⟩
 ·rcases Yb hc with z|z
  ·have n1:=(h.fr c z).2;have n2:c≠a:=fun e=>WN (e▸z)
   rw[ao n1,ao n2];exact h.row c z
  ·rw[z,ao nr,updM_same];exact⟨row,rfl,o⟩
 ·by_cases z:b=r
  ·exact .inr (.inl z)
  ·rw[ao z]at e;by_cases z2:b=a
   ·subst z2;rw[updM_same]at e;cases e;exact .inr (.inr (.inl ⟨row,rfl⟩))
   ·rw[ao z2]at e;rcases h.pin b u e with q|q|q|⟨bs,q1,q2⟩
    ·exact .inl q
    ·exact .inr (.inl q)
    ·exact .inr (.inr (.inl q))
    ·refine .inr (.inr (.inr ⟨bs,q1,fun c hc=>⟨(q2 c hc).1,?_⟩⟩))
     rw[ao (q2 c hc).1];by_cases z:c=a
     ·subst z;exact⟨_,updM_same⟩
     ·rw[ao z];exact(q2 c hc).2
structure ll (M0 M:Mh):Prop where
 kp:Keeps M0 M
 pin:∀b o,M b=some o->M0 b=some o\/(∃row:List Int,o=.lst (row.map .int))\/∃bs:List al,o=.lst (bs.map .ptr)/\∀c∈bs,∃o,M c=some o
theorem ll.refl {M0:Mh}:ll M0 M0:=⟨.refl,fun b o e=>.inl e⟩
theorem kb {M0 M:Mh}(h:Keeps M0 M) {a:al}(ha:M a=none):M0 a=none :=by
 cases e:M0 a with
 |none=>rfl
 |some u=>rw[h a u e]at ha;cases ha
theorem ll.row {M0 M:Mh}(h:ll M0 M) {a:al}(ha:M a=none) (row:List Int):ll M0 (au M a (.lst (row.map .int))) :=by
 refine⟨.upd (kb h.kp ha) h.kp,fun b o e=>?_⟩
 by_cases z:b=a
 ·subst z;rw[updM_same]at e;cases e;exact .inr (.inl ⟨row,rfl⟩)
 ·rw[ao z]at e;rcases h.pin b o e with q|q|⟨bs,q1,q2⟩
  ·exact .inl q
  ·exact .inr (.inl q)
  ·refine .inr (.inr ⟨bs,q1,fun c hc=>?_⟩)
   by_cases z:c=a
   ·subst z;exact⟨_,updM_same⟩
   ·rw[ao z];exact q2 c hc
theorem dA.own {M0 M:Mh}{r:al}{as:List al}{n ways:Nat}(h:dA M0 M r as n ways):ll M0 M:=⟨h.kp,fun b o e=>by
 rcases h.pin b o e with q|q|q|⟨bs,q1,q2⟩
 ·exact .inl q
 ·subst q;rw[h.rm]at e;cases e;exact .inr (.inr ⟨as,rfl,fun c hc=>let ⟨row,e,_⟩:=h.row c hc;⟨_,e⟩⟩)
 ·exact .inr (.inl q)
 ·exact .inr (.inr ⟨bs,q1,fun c hc=>(q2 c hc).2⟩)⟩
theorem dA.mk' {M0 M:Mh}{r:al}{as:List al}{n ways:Nat}(h:ll M0 M) (hr:M r=none) (hl:as.length=n) (ha:∀a∈as,M0 a=none/\∃row:List Int,M a=some (.lst (row.map .int))/\gy n ways row):dA M0 (au M r (.lst (as.map .ptr))) r as n ways :=by
 have ne:∀{c o},M c=some o->c≠r:=fun e z=>by rw[z,hr]at e;cases e
 refine⟨.upd (kb h.kp hr) h.kp,kb h.kp hr,updM_same,fun a h=>?_,hl,fun a h=>?_,fun b o e=>?_⟩
 ·obtain⟨h0,row,e,_⟩:=ha a h;exact⟨h0,ne e⟩
 ·obtain⟨h0,row,e,o⟩:=ha a h;exact⟨row,by rw[ao (ne e)];exact e,o⟩
 ·by_cases z:b=r
  ·exact .inr (.inl z)
  ·rw[ao z]at e;rcases h.pin b o e with q|q|⟨bs,q1,q2⟩
   ·exact .inl q
   ·exact .inr (.inr (.inl q))
   ·refine .inr (.inr (.inr ⟨bs,q1,fun c hc=>?_⟩))
    obtain⟨u,e⟩:=q2 c hc;exact⟨ne e,u,by rw[ao (ne e)];exact e⟩
theorem wH {g:cf}{te:aI}{n:Nat}{M1:Mh}(T:aA->Prop) {ds:List Dv}{τ:aA}{Q:List Dv->Mh->Prop}(h0:T τ) (h:∀d∈ds,∀τ,T τ->∀R:aA->ZK,(∀(x:Int) az,0<=x->x<(n:Int)->T az->R az (.int x) M1)->g d τ M1 fun az M2=>te az M2 (R az)) (q:∀row:List Int,row.length=ds.length->(∀x∈row,0<=x/\x<(n:Int))->Q (row.map .int) M1):gZ g zNoIf te ds τ M1 Q :=by
 refine hV (acc:=[]) (fun acc τ M=>∃row:List Int,acc=row.map Dv.int/\(∀x∈row,0<=x/\x<(n:Int))/\T τ/\M=M1) ⟨[],rfl,(fun _ h=>nomatch h),h0,rfl⟩ (fun i d acc τ M hd _ ⟨row,e1,hr,ht,e2⟩ R hR=>?_) (fun ys τ M hl ⟨row,e1,hr,ht,e2⟩=>?_)
 ·subst e1 e2;refine h d (cr hd) τ ht R fun x az x0 x1 t2=>hR _ _ _ ⟨row++[x],by rw[u8];rfl,fun y hy=>?_,t2,rfl⟩
  rcases zw.mp hy with z|z
  ·exact hr y z
  ·rw[jp]at z;rw[z];exact⟨x0,x1⟩
 ·rw[GT]at e1;subst e1 e2;exact q row (by simpa using hl) hr
def eZ (x:Option Dv):Prop:=∀M d,x=some d->Pin M d
theorem eZ.none:eZ none:=fun _ _ h=>nomatch h
theorem eZ.int (i:Int):eZ (some (.int i)):=fun _ _ h=>by cases h;exact .int i
theorem eZ.lI (ns:List Int):eZ (some (lX ns)):=fun _ _ h=>by cases h;exact .lst (jk ns)
theorem vM {M0 M:Mh}{as:List al}{n ways:Nat}{T:Prop}(hO:ll M0 M) (ha:∀a∈as,M0 a=none/\∃row:List Int,M a=some (.lst (row.map .int))/\gy n ways row) {a:al}(h:M a=none) {row:List Int}(o:gy n ways row) (t:T) :
  ∃S7:List al,as.map Dv.ptr++[Dv.ptr a]=S7.map Dv.ptr/\T/\ll M0 (au M a (.lst (row.map .int)))/\∀c∈S7,M0 c=none/\∃Cz:List Int,au M a (.lst (row.map .int)) c=some (.lst (Cz.map .int))/\gy n ways Cz :=by
 refine⟨as++[a],by rw[u8];rfl,t,hO.row h row,fun c hc=>?_⟩
 rcases zw.mp hc with z|z
 ·obtain⟨h0,Cz,e,o'⟩:=ha c z;have ne:c≠a:=fun q=>by rw[q,h]at e;cases e
  exact⟨h0,Cz,by rw[ao ne];exact e,o'⟩
 ·rw[jp]at z;subst z;exact⟨kb hO.kp h,row,updM_same,o⟩
theorem pZ {n d:Nat}(h:d<n):fN n (d:Int)=some d :=by unfold fN;rw[if_pos (by omega),if_pos (by omega)];rfl
theorem yN (row:List Int) (t:Nat) (x:Int):(row.map Dv.int).set t (.int x)=(row.set t x).map Dv.int :=by rw[YY]
theorem gy.set {n ways:Nat}{row:List Int}(h:gy n ways row) {t:Nat}{x:Int}(x0:0<=x) (x1:x<(n:Int)):gy n ways (row.set t x):=⟨by rw[X9];exact h.1,fun y hy=>by
 rcases Yb hy with z|z
 ·exact h.2 y z
 ·rw[z];exact⟨x0,x1⟩⟩
def sU (os:List Int):Dv->Int | .int j=>os.getD j.toNat 0|_=>0
theorem yO {os:List Int}{j:Nat}{x:Int}(h:dj (os.map Dv.int) (j:Int)=some (.int x)):sU os (.int (j:Nat))=x :=by
 by_cases hj:j<os.length
 ·rw[eh (j:=j) (v:=Dv.int os[j]) (by rw[bv,ap hj];rfl)]at h
  cases h;show os.getD (Int.toNat (j:Int)) 0=_;rw[kw,dL,ap hj];rfl
 ·unfold dj fN at h;rw[if_pos (by omega),if_neg (by simp;omega)]at h
  cases h
def HJ (per i:Nat):Dv->Bool | .int j=>decide (j % (per:Int)=((i:Int)+1) % (per:Int))|_=>false
theorem HK {n per i:Nat}{os:List Int}(oY:fI n os) (p1:1<=per) (pn:per<=n):∃gs:List Int,((cw 0 n).filter (HJ per i)).map (fun d=>Dv.int (sU os d))=gs.map Dv.int/\1<=gs.length/\gs.length<=n/\∀x∈gs,0<=x/\x<(n:Int) :=by
 refine⟨((cw 0 n).filter (HJ per i)).map (sU os),by rw[ma];rfl,?_,?_,fun x hx=>?_⟩
 ·rw[ca];refine List.length_pos_of_mem (a:=Dv.int (((i+1) % per:Nat):Int)) (Nl.mpr ⟨?_,?_⟩)
  ·have:(i+1) % per<per:=Z7 _ (by omega)
   exact cr (i:=(i+1) % per) (by rw[cw,bv,LG (by omega)];simp)
  ·show decide _=true;rw[decide_eq_true_eq];push_cast
   exact Int.emod_emod_of_dvd _ (Int.dvd_refl _)
 ·rw[ca];exact sw (List.length_filter_le _ _) (by rw[rangeD_len];exact cb _)
 ·obtain⟨d,hd,rfl⟩:=kt.mp hx;obtain⟨j,hj,rfl⟩:=sH (Nl.mp hd).1;rw[IN];obtain⟨gx,qu,g0,g1⟩:=oY.at hj;rw[yO qu];exact⟨g0,g1⟩
theorem CA {f f1 f2:al}{fd cI fd2:ln}(D:Df K mg "_law_net" cP ["_law_bag_here","_law_most"] f fd)
  (aq:Df K mg "_law_take" fH ["_law_bag_here","_law_many"] f1 cI) (bz:FnOk P w K mg base bw 1 f1 cI ["_law_bag_here","_law_many"] (bp P w K tb pY))
  (cQ:Df K mg "_law_order" gd ["_law_bag_here","_law_many"] f2 fd2) (oZ:FnOk P w K mg base bw 2 f2 fd2 ["_law_bag_here","_law_many"] (bp P w K tb FA)) (bl:Bl mg):FnOk P w K mg base bw 3 f fd ["_law_bag_here","_law_most"] (bp P w K tb Jw) :=by
 refine eW D bK (fun ds M Q E hS=>by obtain⟨b,n,e,_⟩:=hS;rw[e];rfl) fun A outer s E Γ ds Q' E' hP hw hK ht hr hS=>?_
 obtain⟨b,most,e,hb,h1,h9,q⟩:=hS;refine⟨_,(ai (aK (i:=2) bK.nd rfl (Ix rfl) (aP fQ aw (aG bz (hr.mono (by decide)) rfl aq.mg aq.fn.kp aq.bd bb hP hw hK ht XR.none (aa (qv 0) (aa (qv 1) af)))))
  (ai (aK (i:=3) bK.nd rfl (Ix rfl) (aP fQ aw (aG bz (hr.mono (by decide)) rfl aq.mg aq.fn.kp aq.bd bb hP hw hK ht XR.none (aa (qv 0) (aa aw af)))))
  (ai (aK (i:=4) bK.nd rfl (li rfl) (aG bz (hr.mono (by decide)) rfl aq.mg aq.fn.kp aq.bd bb hP hw hK ht XR.none (aa (qv 0) (aa aw af))))
  (ai (mE (i:=5) bK.nd rfl rfl (N':=["_law_place","_law_bag_here","_law_many","_law_ways"]) (tn:=1) (idx:=[0,2,3]) rfl (show aD ["_law_bag_here","_law_most","_law_many","_law_ways","_law_kind","_law_rows","_law_order_here","_law_period","_law_stays","_law_k","_law_place","_law_onward","_law_goals","_law_turns"] (aj cP) _ ["_law_place","_law_bag_here","_law_many","_law_ways"] 1 [0,2,3] from by decide +kernel) (bM rfl bl.range_ (aa (qv 2) af)) (fun _ _ _ _ _=>(aE (i:=0) (show wS [("_law_place" : br),("_law_bag_here" : br),("_law_many" : br),("_law_ways" : br)] from by decide +kernel) rfl (li rfl))) (fun _ _ _ _ _=>bS) (fun _ _ _ _ _=>(kX (N':=["_law_road","_law_bag_here","_law_many"]) (tn:=1) (idx:=[1,2]) rfl (aD.rel (show aD ["_law_place","_law_bag_here","_law_many","_law_ways"] _ _ ["_law_road","_law_bag_here","_law_many"] 1 [1,2] from by decide +kernel)) (bM rfl bl.range_ (aa (qv 3) af)) (fun _ _ _ _ _=>(aE (i:=0) (show wS [("_law_road" : br),("_law_bag_here" : br),("_law_many" : br)] from by decide +kernel) rfl (li rfl))) (fun _ _ _ _ _=>bS) (fun _ _ _ _ _=>(aG bz (hr.mono (by decide)) rfl aq.mg aq.fn.kp aq.bd bb hP hw hK ht XR.none (aa (qv 1) (aa (qv 2) af)))))))
  (ai (aK (i:=6) bK.nd rfl (Ix rfl) (aG oZ (hr.mono (by decide)) rfl cQ.mg cQ.fn.kp cQ.bd bb hP hw hK ht XR.none (aa (qv 0) (aa (qv 2) af))))
  (ai (aK (i:=7) bK.nd rfl (Ix rfl) (aP fQ aw (aG bz (hr.mono (by decide)) rfl aq.mg aq.fn.kp aq.bd bb hP hw hK ht XR.none (aa (qv 0) (aa (qv 2) af)))))
  (ai (aK (i:=8) bK.nd rfl (Ix rfl) (aG bz (hr.mono (by decide)) rfl aq.mg aq.fn.kp aq.bd bb hP hw hK ht XR.none (aa (qv 0) (aa aw af))))
  (ai (dH v6 rfl (KH true (K:=K) rfl rfl bl.enumerate_ (qv 6)) (fun jQ eP ew eK et=>by have hP:=hP.trans eP.symm;have hw:=hw.trans ew.symm;have hK:=hK.trans eK.symm;have ht:=ht.trans et.symm;exact⟨(oM (n:=2) rfl (eJ (aE (i:=9) bK.nd rfl (Ix rfl)) (eJ (aE (i:=10) bK.nd rfl (Ix rfl)) mU))),(ai (aK (i:=11) bK.nd rfl (Ix rfl) (bV (du (K:=K) rfl) (qv 6) (aP j6 (aP fQ (qv 9) aw) (qv 2)) (fun _ _=>rfl)))
  (ai (cq (ye tX tX aw (qv 4) aw)
   (av (jL (qv 11) (jN (bV (du (K:=K) rfl) (qv 5) (qv 10) (fun _ _=>rfl)) (aG bz (hr.mono (by decide)) rfl aq.mg aq.fn.kp aq.bd bb hP hw hK ht XR.none (aa (qv 0) (aa (qv 3) af))))))
   qss_nil)
  (ai (cq (bC jU (qv 4) aw (bt _))
   (ai (aK (i:=12) bK.nd rfl (Ix rfl) (bX (N':=["_law_j","_law_order_here","_law_period","_law_k"]) (tn:=1) (idx:=[6,7,9]) rfl (show aD ["_law_bag_here","_law_most","_law_many","_law_ways","_law_kind","_law_rows","_law_order_here","_law_period","_law_stays","_law_k","_law_place","_law_onward","_law_goals","_law_turns"] (aj cP) _ ["_law_j","_law_order_here","_law_period","_law_k"] 1 [6,7,9] from by decide +kernel) (bM rfl bl.range_ (aa (qv 2) af)) (fun _ _ _ _ _=>(aE (i:=0) (show wS [("_law_j" : br),("_law_order_here" : br),("_law_period" : br),("_law_k" : br)] from by decide +kernel) rfl (li rfl))) (fun _ _ _ _ _=>(Au (bC jU (aP j6 (qv 0) (qv 2)) (aP j6 (aP fQ (qv 3) aw) (qv 2)) (bt _)))) (fun _ _ _ _ _=>(bV (du (K:=K) rfl) (qv 1) (qv 0) (fun _ _=>rfl)))))
  (av (jL (kX (N':=["_law_road","_law_goals","_law_bag_here"]) (tn:=1) (idx:=[12,0]) rfl (show aD ["_law_bag_here","_law_most","_law_many","_law_ways","_law_kind","_law_rows","_law_order_here","_law_period","_law_stays","_law_k","_law_place","_law_onward","_law_goals","_law_turns"] (aj cP) _ ["_law_road","_law_goals","_law_bag_here"] 1 [12,0] from by decide +kernel) (bM rfl bl.range_ (aa (qv 3) af)) (fun _ _ _ _ _=>(aE (i:=0) (show wS [("_law_road" : br),("_law_goals" : br),("_law_bag_here" : br)] from by decide +kernel) rfl (li rfl))) (fun _ _ _ _ _=>bS) (fun _ _ _ _ _=>(bV (du (K:=K) rfl) (qv 1) (aG bz (hr.mono (by decide)) rfl aq.mg aq.fn.kp aq.bd bb hP hw hK ht XR.none (aa (qv 2) (aa (ay (cD (K:=K) rfl hK) rfl bl.len_ nw (aa (qv 1) af)) af))) (fun _ _=>rfl)))) (jN (qv 5) (qv 10)))))
   qss_nil)
  (av (cq (bC jU (qv 4) aw (bt _))
   (av (jL (aP (KY (K:=K) rfl) (sx (aa (qv 11) af)) (bX (N':=["_law_road","_law_stays","_law_onward","_law_place"]) (tn:=1) (idx:=[8,11,10]) rfl (show aD ["_law_bag_here","_law_most","_law_many","_law_ways","_law_kind","_law_rows","_law_order_here","_law_period","_law_stays","_law_k","_law_place","_law_onward","_law_goals","_law_turns"] (aj cP) _ ["_law_road","_law_stays","_law_onward","_law_place"] 1 [8,11,10] from by decide +kernel) (Ez rfl bl.range_ (aa aw (aa (qv 3) af))) (fun _ _ _ _ _=>(aE (i:=0) (show wS [("_law_road" : br),("_law_stays" : br),("_law_onward" : br),("_law_place" : br)] from by decide +kernel) rfl (li rfl))) (fun _ _ _ _ _=>bS) (fun _ _ _ _ _=>(bV (du (K:=K) rfl) (sx (aa (qv 2) (aa (qv 3) af))) (qv 1) (fun _ _=>rfl))))) (jN (qv 5) (qv 10))))
   qss_nil)))))⟩))
  (ai (cq (bC jU (qv 4) aw (bt _))
   (ai (aK (i:=13) bK.nd rfl (Ix rfl) (bX (N':=["_law_road","_law_bag_here","_law_many"]) (tn:=1) (idx:=[0,2]) rfl (show aD ["_law_bag_here","_law_most","_law_many","_law_ways","_law_kind","_law_rows","_law_order_here","_law_period","_law_stays","_law_k","_law_place","_law_onward","_law_goals","_law_turns"] (aj cP) _ ["_law_road","_law_bag_here","_law_many"] 1 [0,2] from by decide +kernel) (bM rfl bl.range_ (aa (qv 3) af)) (fun _ _ _ _ _=>(aE (i:=0) (show wS [("_law_road" : br),("_law_bag_here" : br),("_law_many" : br)] from by decide +kernel) rfl (li rfl))) (fun _ _ _ _ _=>bS) (fun _ _ _ _ _=>(aG oZ (hr.mono (by decide)) rfl cQ.mg cQ.fn.kp cQ.bd bb hP hw hK ht XR.none (aa (qv 1) (aa (qv 2) af))))))
  (av (yD (i:=5) bK.nd rfl rfl (N':=["_law_place","_law_turns"]) (tn:=1) (idx:=[13]) rfl (show cN ["_law_bag_here","_law_most","_law_many","_law_ways","_law_kind","_law_rows","_law_order_here","_law_period","_law_stays","_law_k","_law_place","_law_onward","_law_goals","_law_turns"] (aj cP) _ ["_law_place","_law_turns"] 1 [13] from by decide +kernel) (bM rfl bl.range_ (aa (qv 2) af)) (fun _ _ _ _ _=>(aE (i:=0) (show wS [("_law_place" : br),("_law_turns" : br)] from by decide +kernel) rfl (Ix rfl))) (fun _ _ _ _ _=>bS) (fun _ _ _ _ _=>(kX (N':=["_law_turn","_law_place"]) (tn:=1) (idx:=[0]) rfl (aD.rel (show aD ["_law_place","_law_turns"] _ _ ["_law_turn","_law_place"] 1 [0] from by decide +kernel)) (jh (K:=K) rfl (qv 1)) (fun _ _ _ _ _=>(aE (i:=0) (show wS [("_law_turn" : br),("_law_place" : br)] from by decide +kernel) rfl (li rfl))) (fun _ _ _ _ _=>bS) (fun _ _ _ _ _=>(bV (du (K:=K) rfl) (qv 0) (qv 1) (fun _ _=>rfl))))))))
   qss_nil)
  (ai (cq (QW.pt (nq (bC jU (qv 4) aw (bt _)) (kP (QW.pt (Er (bC jU (qv 4) aw (bt _)) (As (bC jU (qv 8) aw (bt _))))))))
   (av (jL (aG bz (hr.mono (by decide)) rfl aq.mg aq.fn.kp aq.bd bb hP hw hK ht XR.none (aa (qv 0) (aa (qv 2) af))) (jN (bV (du (K:=K) rfl) (qv 5) (bV (du (K:=K) rfl) (qv 6) aw (fun _ _=>rfl)) (fun _ _=>rfl)) (aG bz (hr.mono (by decide)) rfl aq.mg aq.fn.kp aq.bd bb hP hw hK ht XR.none (aa (qv 0) (aa (qv 3) af))))))
   qss_nil)
  (av (EW 5 rfl (aS (dU (ji (K:=K) rfl) rfl bl.tuple_ ck (aa (bX (N':=["_law_row"]) (tn:=1) (idx:=[]) rfl (show aD ["_law_bag_here","_law_most","_law_many","_law_ways","_law_kind","_law_rows","_law_order_here","_law_period","_law_stays","_law_k","_law_place","_law_onward","_law_goals","_law_turns"] (aj cP) _ ["_law_row"] 1 [] from by decide +kernel) (jh (K:=K) rfl (qv 5)) (fun _ _ _ _ _=>(aE (i:=0) (show wS [("_law_row" : br)] from by decide +kernel) rfl (li rfl))) (fun _ _ _ _ _=>bS) (fun _ _ _ _ _=>(dU (ji (K:=K) rfl) rfl bl.tuple_ ck (aa (qv 0) af)))) af))))))))))))))),?_⟩
 subst e;have big:(100:Nat)<sizeLine :=by decide
 refine RA (fun ρ M=>∃(n ways kind stays:Nat) (r:al) (as:List al) (os:List Int) (x7 x9 o6 o7 dI:Option Dv),(eZ x7/\eZ x9/\eZ o6/\eZ o7/\eZ dI)/\ρ=[some (.ptr b),some (.int (most:Nat)),some (.int (n:Nat)),some (.int (ways:Nat)),some (.int (kind:Nat)),some (.ptr r),some (lX os),x7,some (.int (stays:Nat)),x9,o6,o7,dI,none]/\dA Γ.M0 M r as n ways/\fI n os/\1<=n/\n<=most/\(ways=2\/ways=3)) (fun N hN=>?_) ?_
 ·simp! only[];refine⟨b,_,rfl,hb,by omega,by omega,fun m hm=>?_⟩
  obtain⟨n,hn⟩:∃n:Nat,(1+(m:Int))=(n:Nat):=⟨1+m,by omega⟩
  have n1:1<=n :=by omega
  have n9:n<=most :=by omega
  simp! only[hn];refine⟨b,_,rfl,hb,by omega,by omega,fun v hv=>?_⟩
  obtain⟨ways,RF⟩:∃ways:Nat,(2+(v:Int))=(ways:Nat):=⟨2+v,by omega⟩
  have w2:ways=2\/ways=3 :=by omega
  simp! only[RF];refine⟨b,_,rfl,hb,by omega,by omega,fun kind pL=>?_⟩
  simp! only[];refine⟨by omega,by omega,by omega,?_⟩
  refine hV (acc:=[]) (fun acc τ M=>∃as:List al,acc=as.map Dv.ptr/\(∃x,τ=[x,some (.ptr b),some (.int (n:Nat)),some (.int (ways:Nat))])/\ll Γ.M0 M/\∀a∈as,Γ.M0 a=none/\∃row:List Int,M a=some (.lst (row.map .int))/\gy n ways row) ⟨[],rfl,⟨_,rfl⟩,.refl,fun _ h=>nomatch h⟩ (fun i d acc τ M hd _ ⟨as,e1,⟨x,e2⟩,hO,ha⟩ R hR=>?_) (fun ys τ M hl ⟨as,e1,⟨x,e2⟩,hO,ha⟩=>?_)
  ·subst e1 e2;simp! only[];refine⟨by omega,by omega,by omega,wH (n:=n) (fun τ=>∃y,τ=[y,some (.ptr b),some (.int (n:Nat))]) ⟨_,rfl⟩ (fun d hd τ ⟨y,e⟩ R2 Pq=>?_) (fun row hl qZ a lL=>?_)⟩
   ·subst e;simp! only[];exact⟨b,_,rfl,hO.kp _ _ hb,by omega,by omega,fun d hd=>Pq _ _ (by omega) (by omega) ⟨_,rfl⟩⟩
   ·exact hR _ _ _ (vM hO ha lL ⟨by simpa[rangeD_len] using hl,qZ⟩ ⟨_,rfl⟩)
  ·rw[GT]at e1;subst e1 e2;intro r WO;have RM:=dA.mk' (n:=n) (ways:=ways) hO WO (by simpa[rangeD_len] using hl) ha
   refine⟨b,n,rfl,RM.kp _ _ hb,by omega,fun os oY=>?_⟩
   simp! only[];refine⟨b,_,rfl,RM.kp _ _ hb,by omega,by omega,fun pe XQ=>?_⟩
   simp! only[];refine⟨b,_,rfl,RM.kp _ _ hb,by omega,by omega,fun stays fM=>?_⟩
   obtain⟨per,UP⟩:∃per:Nat,(1+(pe:Int))=(per:Nat):=⟨1+pe,by omega⟩
   simp! only[UP];have xG:=oY.len;refine bN (fun i ρ M=>∃(as:List al) (x9 o6 o7 dI:Option Dv),(eZ x9/\eZ o6/\eZ o7/\eZ dI)/\ρ=[some (.ptr b),some (.int (most:Nat)),some (.int (n:Nat)),some (.int (ways:Nat)),some (.int (kind:Nat)),some (.ptr r),some (lX os),some (.int (per:Nat)),some (.int (stays:Nat)),x9,o6,o7,dI,none]/\dA Γ.M0 M r as n ways)
    ⟨as,_,_,_,_,⟨.none,.none,.none,.none⟩,rfl,RM⟩ (fun i d ρ M N2 hd ⟨as,x9,o6,o7,dI,⟨p9,Jx,Jy,mq⟩,e1,RM⟩ yL=>?_) (fun ρ M ⟨as,x9,o6,o7,dI,⟨p9,Jx,Jy,mq⟩,e1,RM⟩=>?_)
   ·subst e1;have hd:(cg (kY (os.map Dv.int).length) (os.map Dv.int))[i]?=some d :=by rw[ca];exact hd
    obtain⟨y,rfl,hy⟩:=KO hd;obtain⟨place,cF,rfl⟩:=oR hy;have hi:i<n :=by have:=(ce.mp cF).1;omega
    obtain⟨S8,WQ⟩:=oY.mem (cr cF);obtain⟨pk,rfl⟩:=At S8;have FC:pk<n :=by omega
    have UQ:((i:Int)+1) % (n:Int)=(((i+1) % n:Nat):Int) :=by push_cast;rfl
    obtain⟨on,WR,Jz,Pr⟩:=oY.at (i:=(i+1) % n) (Z7 _ (by omega))
    obtain⟨AW,rfl⟩:=At Jz;have step:∀{as:List al} {M:Mh},dA Γ.M0 M r as n ways->∃a,dj (as.map Dv.ptr) ((pk:Nat):Int)=some (.ptr a)/\a∈as:=fun {as M} RM=>by
     have hl:pk<as.length :=by rw[RM.len];exact FC
     exact⟨as[pk],eh (by rw[bv,ap hl];rfl),wT hl⟩
    simp only[zgTup,zgCons,zgNil,zgName,Uf,UF,xy,NE,Nat.reduceAdd,Yj];refine⟨trivial,?_⟩;refine pV (fun ρ M=>∃(as:List al) (dI:Option Dv),eZ dI/\ρ=[some (.ptr b),some (.int (most:Nat)),some (.int (n:Nat)),some (.int (ways:Nat)),some (.int (kind:Nat)),some (.ptr r),some (lX os),some (.int (per:Nat)),some (.int (stays:Nat)),some (.int (i:Nat)),some (.int (pk:Nat)),some (.int (AW:Nat)),dI,none]/\dA Γ.M0 M r as n ways) (fun N hN=>?_) ?_
    ·simp! only[UQ,WR];exact⟨by omega,hN _ _ ⟨as,_,mq,rfl,RM⟩⟩
    rintro ρ M ⟨as,dI,mq,rfl,RM⟩;refine pV (fun ρ M=>∃(as:List al) (dI:Option Dv),eZ dI/\ρ=[some (.ptr b),some (.int (most:Nat)),some (.int (n:Nat)),some (.int (ways:Nat)),some (.int (kind:Nat)),some (.ptr r),some (lX os),some (.int (per:Nat)),some (.int (stays:Nat)),some (.int (i:Nat)),some (.int (pk:Nat)),some (.int (AW:Nat)),dI,none]/\dA Γ.M0 M r as n ways) (fun N hN=>?_) ?_
    ·simp! only[];refine fE (fun h=>fE (fun h2=>?_) (fun _=>hN _ _ ⟨as,_,mq,rfl,RM⟩)) (fun _=>hN _ _ ⟨as,_,mq,rfl,RM⟩)
     obtain⟨a,ea,ha⟩:=step RM;obtain⟨row,em,ro⟩:=RM.row a ha;simp only[RM.rm,ea];refine⟨b,_,rfl,RM.kp _ _ hb,by omega,by omega,fun t ht=>?_⟩
     simp only[em,ca,ro.1,pZ (show t<ways by omega)]
     rw[yN];exact hN _ _ ⟨as,_,mq,rfl,RM.xH ha (ro.set Jz Pr)⟩
    rintro ρ M ⟨as,dI,mq,rfl,RM⟩;refine pV (fun ρ M=>∃(as:List al) (dI:Option Dv),eZ dI/\ρ=[some (.ptr b),some (.int (most:Nat)),some (.int (n:Nat)),some (.int (ways:Nat)),some (.int (kind:Nat)),some (.ptr r),some (lX os),some (.int (per:Nat)),some (.int (stays:Nat)),some (.int (i:Nat)),some (.int (pk:Nat)),some (.int (AW:Nat)),dI,none]/\dA Γ.M0 M r as n ways) (fun N hN=>?_) ?_
    ·simp! only[];refine fE (fun h=>?_) (fun _=>hN _ _ ⟨as,_,mq,rfl,RM⟩)
     have XS:∀j:Nat,((j:Int) % (per:Int))=((j % per:Nat):Int):=fun j=>by push_cast;rfl
     refine⟨by omega,by omega,by omega,t7 (HJ per i) (fun d=>.int (sU os d)) (fun τ M'=>(∃x,τ=[x,some (lX os),some (.int (per:Nat)),some (.int (i:Nat))])/\M'=M) ⟨⟨_,rfl⟩,rfl⟩ (fun d hd τ M' ⟨⟨x,e⟩,eM⟩ R0 R h1 h2=>?_) (fun τ M' ⟨⟨x,e⟩,eM⟩=>?_)⟩
     ·subst e eM;obtain⟨j,hj,rfl⟩:=sH hd;simp only[IN]at h1 h2 ⊢;obtain⟨gx,qu,g0,g1⟩:=oY.at hj;have hg:sU os (.int (j:Nat))=gx:=yO qu;simp! only[qu];refine⟨by omega,by omega,fE (fun h=>?_) (fun h=>?_)⟩
      ·rw[hg]at h1;exact h1 h _ _ ⟨⟨_,rfl⟩,rfl⟩
      ·exact h2 h _ _ ⟨⟨_,rfl⟩,rfl⟩
     ·subst e eM;obtain⟨gs,WT,XT,XU,WU⟩:=HK (i:=i) oY (per:=per) (by omega) (by omega)
      rw[WT];refine⟨by omega,by omega,by omega,wH (n:=n) (fun τ=>∃y,τ=[y,some (lX gs),some (.ptr b)]) ⟨_,rfl⟩ (fun d hd τ ⟨y,e⟩ R hR=>?_) (fun row hl qZ a lL=>?_)⟩
      ·subst e;simp! only[];refine⟨b,_,rfl,RM.kp _ _ hb,by omega,by omega,fun t ht=>?_⟩
       have qw:t<gs.length :=by omega
       simp only[show dj (gs.map Dv.int) (t:Int)=some (.int gs[t]) from eh (by rw[bv,ap qw];rfl)]
       obtain⟨q0,q1⟩:=WU _ (wT qw);exact hR _ _ q0 q1 ⟨_,rfl⟩
      ·have nr:r≠a:=fun z=>by rw[<- z,RM.rm]at lL;cases lL
       simp only[ao nr,RM.rm,ca,RM.len,pZ FC];exact hN _ _ ⟨_,_,.lI gs,rfl,RM.put lL ⟨by simpa[rangeD_len] using hl,qZ⟩ FC⟩
    rintro ρ M ⟨as,dI,mq,rfl,RM⟩;simp! only[];refine fE (fun h=>?_) (fun _=>yL _ _ ⟨as,_,_,_,_,⟨.int _,.int _,.int _,mq⟩,rfl,RM⟩)
    refine⟨by omega,⟨by omega,by omega,by omega,by omega⟩,by omega,wH (n:=n) (fun τ=>∃y,τ=[y,some (.int (stays:Nat)),some (.int (AW:Nat)),some (.int (pk:Nat))]) ⟨_,rfl⟩ (fun d hd τ ⟨y,e⟩ R hR=>?_) (fun row hl qZ=>⟨?_,fun a lL=>?_⟩)⟩
    ·subst e;simp! only[];have WV:stays=0\/stays=1 :=by omega
     rcases WV with rfl|rfl
     ·exact⟨by omega,hR _ _ Jz Pr ⟨_,rfl⟩⟩
     ·exact⟨by omega,hR _ _ S8 WQ ⟨_,rfl⟩⟩
    ·rw[ca,hl,rangeD_len];omega
    ·have nr:r≠a:=fun z=>by rw[<- z,RM.rm]at lL;cases lL
     have er:Dv.int (AW:Nat)::row.map Dv.int=((AW:Int)::row).map Dv.int:=rfl;rw[er];simp only[ao nr,RM.rm,ca,RM.len,pZ FC];refine yL _ _ ⟨_,_,_,_,_,⟨.int _,.int _,.int _,mq⟩,rfl,RM.put lL ⟨?_,fun x hx=>?_⟩ FC⟩
     ·rw[xy,hl,rangeD_len];omega
     ·rcases im.mp hx with z|z
      ·rw[z];exact⟨Jz,Pr⟩
      ·exact qZ x z
   ·exact hN _ _ ⟨n,ways,kind,stays,r,as,os,_,_,_,_,_,⟨.int _,p9,Jx,Jy,mq⟩,e1,RM,oY,n1,n9,w2⟩
 ·rintro ρ M ⟨n,ways,kind,stays,r,as,os,x7,x9,o6,o7,dI,⟨p7,p9,Jx,Jy,mq⟩,rfl,RM,oY,n1,n9,w2⟩;have xG:=oY.len;refine pV (fun ρ M=>∃(r:al) (as:List al) (kO:Option Dv),eZ kO/\ρ=[some (.ptr b),some (.int (most:Nat)),some (.int (n:Nat)),some (.int (ways:Nat)),some (.int (kind:Nat)),some (.ptr r),some (lX os),x7,some (.int (stays:Nat)),x9,o6,o7,dI,kO]/\dA Γ.M0 M r as n ways) (fun N hN=>?_) ?_
  ·simp! only[];refine fE (fun h=>?_) (fun _=>hN _ _ ⟨r,as,_,.none,rfl,RM⟩)
   refine⟨by omega,by omega,by omega,hV (acc:=[]) (fun acc τ M'=>∃ts:List (List Int),acc=ts.map lX/\(∃x,τ=[x,some (.ptr b),some (.int (n:Nat))])/\(∀o∈ts,fI n o)/\M'=M) ⟨[],rfl,⟨_,rfl⟩,(fun _ h=>nomatch h),rfl⟩ (fun i d acc τ M' hd _ ⟨ts,e1,⟨x,e2⟩,hT,eM⟩ R hR=>?_) (fun ys τ M' hl ⟨ts,e1,⟨x,e2⟩,hT,eM⟩=>?_)⟩
   ·subst e1 e2 eM;simp! only[];refine⟨b,n,rfl,RM.kp _ _ hb,by omega,fun o ho=>hR _ _ _ ⟨ts++[o],by rw[u8];rfl,⟨_,rfl⟩,fun c hc=>?_,rfl⟩⟩
    rcases zw.mp hc with z|z
    ·exact hT c z
    ·rw[jp]at z;rw[z];exact ho
   ·rw[GT]at e1;subst e1 e2 eM;have qw:ts.length=ways :=by simpa[rangeD_len] using hl
    refine⟨by omega,by omega,by omega,hV (acc:=[]) (fun acc τ M=>∃as:List al,acc=as.map Dv.ptr/\(∃x,τ=[x,some (.lst (ts.map lX))])/\ll Γ.M0 M/\∀a∈as,Γ.M0 a=none/\∃row:List Int,M a=some (.lst (row.map .int))/\gy n ways row) ⟨[],rfl,⟨_,rfl⟩,RM.own,fun _ h=>nomatch h⟩ (fun i d acc τ M hd _ ⟨as,e1,⟨x,e2⟩,hO,ha⟩ R hR=>?_) (fun ys τ M hl ⟨as,e1,⟨x,e2⟩,hO,ha⟩=>?_)⟩
    ·subst e1 e2;obtain⟨rfl,hi⟩:=cU hd;simp! only[];refine⟨by omega,wH (n:=n) (fun τ=>∃y,τ=[y,some (.int (i:Nat))]) ⟨_,rfl⟩ (fun d hd τ ⟨y,e⟩ R2 Pq=>?_) (fun row hl qZ a lL=>?_)⟩
     ·subst e;obtain⟨o,ho,rfl⟩:=kt.mp hd;obtain⟨gx,qu,g0,g1⟩:=(hT o ho).at hi;simp! only[qu];exact Pq _ _ g0 g1 ⟨_,rfl⟩
     ·exact hR _ _ _ (vM hO ha lL ⟨by rw[hl,ca];exact qw,qZ⟩ ⟨_,rfl⟩)
    ·rw[GT]at e1;subst e1 e2;intro r2 NP;refine hN _ _ ⟨r2,as,_,fun M d e=>?_,rfl,dA.mk' (n:=n) (ways:=ways) hO NP (by simpa[rangeD_len] using hl) ha⟩
     cases e;exact .lst fun d hd=>by obtain⟨o,_,rfl⟩:=kt.mp hd;exact .lst (jk o)
  rintro ρ M ⟨r,as,kO,FD,rfl,RM⟩;refine pV (fun ρ M=>∃(r:al) (as:List al) (kO:Option Dv),eZ kO/\ρ=[some (.ptr b),some (.int (most:Nat)),some (.int (n:Nat)),some (.int (ways:Nat)),some (.int (kind:Nat)),some (.ptr r),some (lX os),x7,some (.int (stays:Nat)),x9,o6,o7,dI,kO]/\dA Γ.M0 M r as n ways) (fun N hN=>?_) ?_
  ·simp! only[];obtain⟨gx,qu,g0,g1⟩:=oY.at (i:=0) (by omega)
   obtain⟨gk,rfl⟩:=At g0;have qu:dj (os.map Dv.int) 0=some (.int (gk:Nat)):=qu;have Ae:gk<as.length :=by rw[RM.len];omega
   have ea:dj (as.map Dv.ptr) (gk:Int)=some (.ptr as[gk]):=eh (by rw[bv,ap Ae];rfl)
   have ha:=wT Ae;obtain⟨row,em,ro⟩:=RM.row as[gk] ha;simp only[qu];have put:pY [.ptr b,.int (n:Nat)] M (fun d M1=>match (match M1 r with|some (.lst ds)=>some ds|_=>none) with
     |some ds=>(match dj ds (gk:Int) with
      |some WW=>pY [.ptr b,.int (ways:Nat)] M1 (fun i M2=>match WW,i with
       | .ptr a,.int k=>(match M2 a with
        |some (.lst xs)=>(match fN xs.length k with
         |some j=>N [some (.ptr b),some (.int (most:Nat)),some (.int (n:Nat)),some (.int (ways:Nat)),some (.int (kind:Nat)),some (.ptr r),some (lX os),x7,some (.int (stays:Nat)),x9,o6,o7,dI,kO] (au M2 a (.lst (xs.set j d)))
         |none=>False)
        |_=>False)
       |_,_=>False) fun _ _=>False
      |none=>False)
     |none=>False) fun _ _=>False :=by
    refine⟨b,_,rfl,RM.kp _ _ hb,by omega,by omega,fun u hu=>?_⟩
    simp only[RM.rm,ea];refine⟨b,_,rfl,RM.kp _ _ hb,by omega,by omega,fun t ht=>?_⟩
    simp only[em,ca,ro.1,pZ (show t<ways by omega)]
    rw[yN];exact hN _ _ ⟨r,as,_,FD,rfl,RM.xH ha (ro.set (by omega) (by omega))⟩
   exact fE (fun _=>put) (fun _=>fE (fun _=>fE (fun _=>put) (fun _=>hN _ _ ⟨r,as,_,FD,rfl,RM⟩)) (fun _=>hN _ _ ⟨r,as,_,FD,rfl,RM⟩))
  rintro ρ M ⟨r,as,kO,FD,rfl,RM⟩;have nb:∀{c o},Γ.M0 c=some o->c≠r:=fun e z=>by rw[z,RM.r0]at e;cases e
  have dk:Keeps Γ.M0 (aN M r):=fun c o e=>by rw[aX (nb e)];exact RM.kp c o e
  refine .inr ⟨r,_,rfl,RM.rm,RM.r0,⟨fun j d e=>?_,fun c o e=>?_⟩,?_⟩
  ·match j,e with
   |0,e=>cases e;exact .ptr (by rw[dk _ _ hb];rfl)
   |1,e=>cases e;exact .int _
   |2,e=>cases e;exact .int _
   |3,e=>cases e;exact .int _
   |4,e=>cases e;exact .int _
   |5,e=>cases e;exact .lst fun d hd=>by
                 obtain⟨a,ha,rfl⟩:=kt.mp hd;obtain⟨row,em,_⟩:=RM.row a ha;exact .ptr (by rw[aX (RM.fr a ha).2,em];rfl)
   |6,e=>cases e;exact .lst (jk _)
   |7,e=>exact p7 _ _ (gl e)
   |8,e=>cases e;exact .int _
   |9,e=>exact p9 _ _ (gl e)
   |10,e=>exact Jx _ _ (gl e)
   |11,e=>exact Jy _ _ (gl e)
   |12,e=>exact mq _ _ (gl e)
   |13,e=>exact FD _ _ (gl e)
   |j+14,e=>exact nomatch e
  ·have nc:c≠r:=fun z=>by rw[z,bf]at e;cases e
   rw[aX nc]at e;rcases RM.pin c o e with q|q|⟨row,rfl⟩|⟨bs,rfl,q2⟩
   ·exact .inl q
   ·exact absurd q nc
   ·exact .inr (jk row)
   ·refine .inr fun d hd=>?_
    obtain⟨a,ha,rfl⟩:=kt.mp hd;obtain⟨h1,u,h2⟩:=q2 a ha;exact .ptr (by rw[aX h1,h2];rfl)
  ·simp! only[];refine⟨by rw[RM.len];omega,hV (acc:=[]) (fun acc τ M'=>∃rs:List (List Int),acc=rs.map eI/\(∃x,τ=[x])/\(∀row∈rs,gy n ways row)/\M'=aN M r) ⟨[],rfl,⟨_,rfl⟩,(fun _ h=>nomatch h),rfl⟩ (fun i d acc τ M' hd _ ⟨rs,e1,⟨x,e2⟩,JA,eM⟩ R hR=>?_) (fun ys τ M' hl ⟨rs,e1,⟨x,e2⟩,JA,eM⟩=>?_)⟩
   ·subst e1 e2 eM;obtain⟨a,ha,rfl⟩:=oR hd;have ha:=cr ha;obtain⟨row,em,ro⟩:=RM.row a ha;simp! only[aX (RM.fr a ha).2,em];refine hR _ _ _ ⟨rs++[row],by rw[u8];rfl,⟨_,rfl⟩,fun c hc=>?_,rfl⟩
    rcases zw.mp hc with z|z
    ·exact JA c z
    ·rw[jp]at z;rw[z];exact ro
   ·rw[GT]at e1;subst e1 e2 eM;have WX:rs.length=n :=by rw[ca,ca,RM.len]at hl;exact hl
    exact jP dk (oQ rs) (q rs ways ⟨by omega,by omega,w2,fun row hr=>⟨(JA row hr).1,fun g hg=>by rw[WX];exact(JA row hr).2 g hg⟩⟩ (by omega))
theorem zJ:aW ["thing"] ["thing"] (aj gu):=⟨rfl,rfl,rfl,by decide +kernel,rfl,by decide +kernel,by decide +kernel⟩
theorem qa:aW ["thing","many"] ["thing","many"] (aj d6):=⟨rfl,rfl,rfl,by decide +kernel,rfl,by decide +kernel,by decide +kernel⟩
theorem FE:aW ["thing","many","width"] ["thing","many","width"] (aj lh):=⟨rfl,rfl,rfl,by decide +kernel,rfl,by decide +kernel,by decide +kernel⟩
theorem o8:aW ["thing","many","width"] ["thing"] (aj lj):=⟨rfl,rfl,rfl,by decide +kernel,rfl,by decide +kernel,by decide +kernel⟩
def yP (d:Dv):Bool:=(isD "int" (fun _=>none) d).isSome
def FG:Dv->Bool | .int _=>true|_=>false
def gP (m:Int):Dv->Bool | .int i=>decide (0<=i) && decide (i<m)|_=>false
def Pt:cM:=fun ds M Q _=>∃d,ds=[d]/\yP d=true/\Q (.bl (FG d)) M
theorem zK {f:al}{fd:ln}(D:Df K mg "is_whole" gu ["thing"] f fd) (bl:Bl mg):FnOk P w K mg base bw 1 f fd ["thing"] (bp P w K tb Pt) :=by
 refine eW D zJ (fun ds M Q E hS=>by obtain⟨d,e,_⟩:=hS;rw[e];rfl) fun A outer s E Γ ds Q' E' hP hw hK ht hr hS=>?_
 obtain⟨d,e,hk,q⟩:=hS;refine⟨_,(av (aS (gO (ay (bj (K:=K) rfl) rfl bl.isinstance_ aF (aa (qv 0) (aa (bI (v:=.ty "int") rfl bl.int_ xt rfl) af))) (jK (yf (ay (bj (K:=K) rfl) rfl bl.isinstance_ aF (aa (qv 0) (aa (bI (v:=.ty "bool") rfl bl.bool_ tP rfl) af)))))))),?_⟩
 subst e;cases d<;>first|exact⟨by decide,⟨by decide,.inl q⟩⟩|exact⟨by decide,.inl q⟩|exact nomatch hk
def Pu:cM:=fun ds M Q _=>∃d m,ds=[d,.int m]/\yP d=true/\Q (.bl (gP m d)) M
theorem qb {f f1:al}{fd cI:ln}(D:Df K mg "is_whole_below" d6 ["thing","many"] f fd) (dh:Df K mg "is_whole" gu ["thing"] f1 cI) (bl:Bl mg):FnOk P w K mg base bw 2 f fd ["thing","many"] (bp P w K tb Pu) :=by
 have CB:=zK (P:=P) (w:=w) (base:=base) (tb:=tb) dh bl;refine eW D qa (fun ds M Q E hS=>by obtain⟨d,m,e,_⟩:=hS;rw[e];rfl) fun A outer s E Γ ds Q' E' hP hw hK ht hr hS=>?_
 obtain⟨d,m,e,hk,q⟩:=hS;refine⟨_,(av (aS (gO (aG CB (hr.mono (by decide)) rfl dh.mg dh.fn.kp dh.bd bb hP hw hK ht XR.none (aa (qv 0) af)) (jK (Hi B4 tX aw (qv 0) (qv 1)))))),?_⟩
 subst e;refine⟨d,rfl,hk,?_⟩;cases d with
 |int i=>
  simp! only[FG];refine fE (fun h=>?_) (fun h=>?_)
  ·rw[show gP m (.int i)=decide (i<m) by simp only[gP,h,Yz]]at q
   exact .inl q
  ·rw[show gP m (.int i)=false by simp only[gP,h,WI]]at q
   exact .inl q
 |_=>exact .inl q
def jo (m:Int) (w:Nat):Dv->Bool | .tup ds=>decide (ds.length=w) && ds.all (gP m)|_=>false
def HL:Dv->Bool | .tup ds=>ds.all yP|d=>yP d
def Pw:cM:=fun ds M Q _=>∃d m w,ds=[d,.int m,.int (w:Nat)]/\HL d=true/\Q (.bl (jo m w d)) M
theorem FH {f f1 f2:al}{fd cI fd2:ln}{nG bo:al}(D:Df K mg "is_row" lh ["thing","many","width"] f fd) (jq:DR base fd nG bo) (hp:bo∈tb) (eU:∃bm ob,Y9 base mainGlobals mg bm ob)
  (bW:Df K mg "is_whole_below" d6 ["thing","many"] f1 cI) (dh:Df K mg "is_whole" gu ["thing"] f2 fd2) (bl:Bl mg):FnOk P w K mg base bw 4 f fd ["thing","many","width"] (bp P w K tb Pw) :=by
 have q9:=qb (P:=P) (w:=w) (base:=base) (tb:=tb) bW dh bl;refine eW D FE (fun ds M Q E hS=>by obtain⟨d,m,n,e,_⟩:=hS;rw[e];rfl) fun A outer s E Γ ds Q' E' hP hw hK ht hr hS=>?_
 obtain⟨d,m,n,e,hk,q⟩:=hS;have CC:bo∈Γ.tb:=ht▸hp;refine⟨_,(ai (cq (QW.pt (nq (oK (fX (ay (bj (K:=K) rfl) rfl bl.isinstance_ aF (aa (qv 0) (aa (bI (v:=.ty "tuple") rfl bl.tuple_ ck rfl) af))))) (kP (bC yj (ay (cD (K:=K) rfl hK) rfl bl.len_ nw (aa (qv 0) af)) (qv 2) (bt _)))))
   (av (aS j5))
   qss_nil)
  (av (aS (EI (k:=2) (N':=["goal","many"]) (tn:=1) (idx:=[1]) CC (hr.mono (by decide)) rfl (show aD ["thing","many","width"] (aj lh) _ ["goal","many"] 1 [1] from by decide +kernel) rfl rfl jq.code jq.hd eU rfl bl.all_ (kQ (K:=K) rfl (qv 0)) (fun _ _ _ _ _ _ _ hr=>(aE (i:=0) (show wS [("goal" : br),("many" : br)] from by decide +kernel) rfl (li rfl))) (fun _ _ _ _ _ _ _ hr=>bS) (fun _ _ _ _ _ _ _ hr=>(aG q9 (hr.mono (by decide)) rfl bW.mg bW.fn.kp bW.bd bb hP hw hK ht XR.none (aa (qv 0) (aa (qv 1) af)))))))),?_⟩
 subst e;cases d with
 |tup es=>
  refine⟨by decide,fE (c := !decide ((es.length:Int)=(n:Nat))) (fun h=>?_) (fun h=>?_)⟩
  ·rw[show jo m n (.tup es)=false by simp at h;simp[jo];intro z;omega]at q
   exact .inl q
  ·rw[show jo m n (.tup es)=es.all (gP m) by simp at h;simp[jo,show es.length=n by omega]]at q
   refine t6 (gP m) (fun τ=>∃x,τ=[x,some (.int m)]) ⟨none,rfl⟩ (fun d hd τ ⟨x,e⟩ R hR=>?_) (.inl q)
   subst e;exact⟨d,m,rfl,xw.mp hk d hd,hR _ ⟨_,rfl⟩⟩
 |_=>first|exact⟨by decide,.inl q⟩|exact nomatch hk
def lq:Dv->Bool | .tup rs=>decide (1<=rs.length/\rs.length<=9) && (rs.all (jo rs.length 2) || rs.all (jo rs.length 3))|_=>false
def CD:Dv->Bool | .tup rs=>rs.all HL|d=>yP d
def Px:cM:=fun ds M Q _=>∃d,ds=[d]/\CD d=true/\Q (.bl (lq d)) M
theorem FI {f f1 f2 f3:al}{fd cI fd2 o9:ln}{nG bo yQ bG:al}(D:Df K mg "is_net" lj ["thing"] f fd) (nH:DR base fd yQ bG) (WY:bG∈tb) (h8:Df K mg "is_row" lh ["thing","many","width"] f3 o9) (jq:DR base o9 nG bo) (hp:bo∈tb) (eU:∃bm ob,Y9 base mainGlobals mg bm ob)
  (bW:Df K mg "is_whole_below" d6 ["thing","many"] f1 cI) (dh:Df K mg "is_whole" gu ["thing"] f2 fd2) (bl:Bl mg) {tk:Y1} (jr:mg "MOST_PLACES" = some (.int 9 tk)):FnOk P w K mg base bw 6 f fd ["thing"] (bp P w K tb Px) :=by
 have HM:=FH (P:=P) (w:=w) (tb:=tb) h8 jq hp eU bW dh bl;refine eW D o8 (fun ds M Q E hS=>by obtain⟨d,e,_⟩:=hS;rw[e];rfl) fun A outer s E Γ ds Q' E' hP hw hK ht hr hS=>?_
 obtain⟨d,e,hk,q⟩:=hS;have nI:bG∈Γ.tb:=ht▸WY;refine⟨_,(ai (cq (QW.pt (nq (oK (fX (ay (bj (K:=K) rfl) rfl bl.isinstance_ aF (aa (qv 0) (aa (bI (v:=.ty "tuple") rfl bl.tuple_ ck rfl) af))))) (kP (oK (ye B4 B4 aw (ay (cD (K:=K) rfl hK) rfl bl.len_ nw (aa (qv 0) af)) (Hg (i:=9) rfl jr ⟨_,rfl⟩))))))
   (av (aS j5))
   qss_nil)
  (ai (aK (i:=1) o8.nd rfl (Ix rfl) (ay (cD (K:=K) rfl hK) rfl bl.len_ nw (aa (qv 0) af)))
  (ai (dH v6 rfl (kQ (K:=K) rfl (Of (aa aw (aa aw af)))) (fun jQ eP ew eK et=>by have hP:=hP.trans eP.symm;have hw:=hw.trans ew.symm;have hK:=hK.trans eK.symm;have ht:=ht.trans et.symm;have nI:=et.symm▸nI;exact⟨(aE (i:=2) o8.nd rfl (Ix rfl)),(av (cq (fX (EI (k:=4) (N':=["row","many","width"]) (tn:=1) (idx:=[1,2]) nI (hr.mono (by decide)) rfl (show aD ["thing","many","width"] (aj lj) _ ["row","many","width"] 1 [1,2] from by decide +kernel) rfl rfl nH.code nH.hd eU rfl bl.all_ (kQ (K:=K) rfl (qv 0)) (fun _ _ _ _ _ _ _ hr=>(aE (i:=0) (show wS [("row" : br),("many" : br),("width" : br)] from by decide +kernel) rfl (li rfl))) (fun _ _ _ _ _ _ _ hr=>bS) (fun _ _ _ _ _ _ _ hr=>(aG HM (hr.mono (by decide)) rfl h8.mg h8.fn.kp h8.bd bb hP hw hK ht XR.none (aa (qv 0) (aa (qv 1) (aa (qv 2) af)))))))
   (av (aS j5))
   qss_nil))⟩))
  (av (aS j5))))),?_⟩
 subst e;cases d with
 |tup rs=>
  refine⟨by decide,?_⟩
  have row:∀(n:Nat) (D:Bool->Mh->Prop),(D (rs.all (jo rs.length n)) Γ.M0)->lU (zgName 0) zNoIf (zCall Pw (fun _ _=>False) (zCons (zVar 0) (zCons (zVar 1) (zCons (zVar 2) zNil)))) rs [none,some (.int rs.length),some (.int (n:Nat))] Γ.M0 D:=fun n D hD=>by
   refine t6 (jo rs.length n) (fun τ=>∃x,τ=[x,some (.int rs.length),some (.int (n:Nat))]) ⟨none,rfl⟩ (fun d hd τ ⟨x,e⟩ R hR=>?_) hD
   subst e;exact⟨d,rs.length,n,rfl,xw.mp hk d hd,hR _ ⟨_,rfl⟩⟩
  simp! only[];refine fE (fun h1=>fE (fun h2=>?_) (fun h2=>⟨by decide,?_⟩)) (fun h1=>?_)
  ·rw[show lq (.tup rs)=false by simp at h1 h2;simp[lq];intro z;omega]at q
   exact .inl q
  ·have e:lq (.tup rs)=(rs.all (jo rs.length 2) || rs.all (jo rs.length 3)) :=by
    simp at h1 h2;simp only[lq];rw[decide_eq_true (by omega),Yz]
   rw[e]at q;refine row 2 _ (fE (fun z=>?_) (fun z=>row 3 _ (fE (fun z2=>?_) (fun z2=>?_))))
   ·rw[z]at q;exact .inl q
   ·rw[z,z2]at q;exact .inl q
   ·rw[z,z2]at q;exact .inl q
  ·rw[show lq (.tup rs)=false by simp at h1;simp[lq];intro z;omega]at q
   exact .inl q
 |_=>first|exact⟨by decide,.inl q⟩|exact nomatch hk
theorem zL:aW ["thing"] ["thing"] (aj j8):=⟨rfl,rfl,rfl,by decide +kernel,rfl,by decide +kernel,by decide +kernel⟩
theorem FJ {m:Int}{g:Int}(h:0<=g/\g<m):gP m (.int g)=true :=by simp[gP,h.1,h.2]
theorem AX {ae:List (List Int)}{n:Nat}(o:bJ ae n):lq (eN ae)=true :=by
 have hr:∀d∈ae.map eI,jo (ae.map eI).length n d=true:=fun d hd=>by
  obtain⟨r,hr,rfl⟩:=kt.mp hd;obtain⟨h1,h2⟩:=o.row r hr;simp only[jo,ca];rw[decide_eq_true h1,Yz,xw];intro d hd;obtain⟨g,hg,rfl⟩:=kt.mp hd;exact FJ (h2 g hg)
 have ho:=o.one;have hn:=o.nine;simp only[lq,eN];rw[decide_eq_true (by rw[ca];omega),Yz]
 have ha:=xw.mpr hr;rcases o.wid with rfl|rfl
 ·rw[ha];rfl
 ·rw[ha,Bool.or_true]
theorem AY (ae:List (List Int)):CD (eN ae)=true :=by
 simp only[CD,eN];rw[xw];intro d hd;obtain⟨r,_,rfl⟩:=kt.mp hd;simp only[HL,eI];rw[xw];intro d hd;obtain⟨g,hg,rfl⟩:=kt.mp hd;rfl
def JB (C:al):cM:=fun ds M Q E=>∃d,ds=[d]/\CD d=true/\(lq d=true->Q .ax M)/\(lq d=false->E C M)
theorem zM {f f1:al}{fd cI:ln}{C0 C_NoNet:al}{cs:List al}(D:Df K mg "need_net" j8 ["thing"] f fd) (ia:Df K mg "is_net" lj ["thing"] f1 cI) (ra:FnOk P w K mg base bw 6 f1 cI ["thing"] (bp P w K tb Px))
  (X_:NT K C0 cs) (uk:C_NoNet∈cs) (um:mg "NoNet" = some (.ref C_NoNet)):FnOk P w K mg base (gL P w) 7 f fd ["thing"] (bp P w K tb (JB C_NoNet)) :=by
 refine sE D zL (fun ds M Q E hS=>by obtain⟨d,e,_⟩:=hS;rw[e];rfl) fun A outer s E Γ ds Q' E' hP hw hK ht hE hr hS=>?_
 obtain⟨d,e,hk,q1,q2⟩:=hS;refine⟨_,(av (cq (oK (fX (aG ra (hr.mono (by decide)) rfl ia.mg ia.fn.kp ia.bd bb hP hw hK ht XR.none (aa (qv 0) af))))
   (av (Hn (X_.ex _ uk) PySem.F.excBase_ValueError rfl NQ hE rfl um (aa oJ af)))
   qss_nil)),?_⟩
 subst e;simp! only[];refine⟨d,rfl,hk,fE (fun h=>?_) (fun h=>?_)⟩
 ·exact⟨by decide,q2 (by simpa using h)⟩
 ·exact .inl (q1 (by simpa using h))
theorem pf:aW ["_law_found","_law_due"] ["_law_found","_law_due"] (aj eO):=⟨rfl,rfl,rfl,by decide +kernel,rfl,by decide +kernel,by decide +kernel⟩
def CF:Nat->Dv->Prop
 |0,d=>∃i,d=.int i
 |n+1,d=>∃xs:List Dv,(d=.lst xs\/d=.tup xs)/\xs.length<=1000/\∀x∈xs,CF n x
def wI (n:Nat):cM:=fun ds M Q _=>∃d,ds=[d,d]/\CF n d/\Q (.bl true) M
theorem sV {xs:List Dv}{d:Dv}(h:d∈cg xs xs):∃x∈xs,d=.tup [x,x] :=by
 obtain⟨i,hi⟩:=wv.mp h;obtain⟨x,y,rfl,h1,h2⟩:=lY hi;rw[h1]at h2;cases h2;exact⟨x,cr h1,rfl⟩
theorem sW:∀n:Nat,boolsD (mo n (Dv.bl true))=some (mo n true)
 |n=>by
          have:=sI (mo n true);rwa [List.map_replicate]at this
theorem HN {d:Dv}{t:Dt}{M:Mh}{Q:ZK}(h:cB (now M d)=some t) (hp:i9 t<=60) (q:Q (.bl true) M):oO false d d M Q :=by
 unfold oO;rw[h];refine⟨hp,?_⟩;rw[kJ];exact q
theorem FK {f:al}{fd:ln}{k:Nat}:FnOk P w K mg base bw k f fd ["_law_found","_law_due"] (bp P w K tb fun _ _ _ _=>False):=
 have no:∀{vs H Q E},bp P w K tb (fun _ _ _ _=>False) vs H Q E->False:=fun h=>by obtain⟨β,ds,M,Q',E',_,_,_,_,m,rs,s,_⟩:=h;exact s
 ⟨fun _ _ _ _ h=>(no h).elim,fun _ _ _ _ _ _ _ _ _ _ _ _ _ h=>(no h).elim⟩
theorem FL {f:al}{fd:ln}(D:Df K mg "_law_like" eO ["_law_found","_law_due"] f fd) (bl:Bl mg):FnOk P w K mg base bw 1 f fd ["_law_found","_law_due"] (bp P w K tb (wI 0)) :=by
 have bH:=D;have gQ:=FK (P:=P) (w:=w) (K:=K) (mg:=mg) (base:=base) (tb:=tb) (f:=f) (fd:=fd) (k:=0);refine eW D pf (fun ds M Q E hS=>by obtain⟨d,e,_⟩:=hS;rw[e];rfl) fun A outer s E Γ ds Q' E' hP hw hK ht hr hS=>?_
 obtain⟨d,e,h,q⟩:=hS;refine⟨_,(ai (cq (QW.pt (nq (fX (ay (bj (K:=K) rfl) rfl bl.isinstance_ aF (aa (qv 1) (aa (bI (v:=.ty "list") rfl bl.list_ ik rfl) af)))) (kP (fX (ay (bj (K:=K) rfl) rfl bl.isinstance_ aF (aa (qv 1) (aa (bI (v:=.ty "tuple") rfl bl.tuple_ ck rfl) af)))))))
   (ai (cq (QW.pt (nq (bC yj (ay (bj (K:=K) rfl) rfl bl.isinstance_ aF (aa (qv 1) (aa (bI (v:=.ty "list") rfl bl.list_ ik rfl) af))) (ay (bj (K:=K) rfl) rfl bl.isinstance_ aF (aa (qv 0) (aa (bI (v:=.ty "list") rfl bl.list_ ik rfl) af))) (bt _)) (kP (bC yj (ay (bj (K:=K) rfl) rfl bl.isinstance_ aF (aa (qv 1) (aa (bI (v:=.ty "tuple") rfl bl.tuple_ ck rfl) af))) (ay (bj (K:=K) rfl) rfl bl.isinstance_ aF (aa (qv 0) (aa (bI (v:=.ty "tuple") rfl bl.tuple_ ck rfl) af))) (bt _)))))
   (av (aS j5))
   qss_nil)
  (av (aS (gO (iu jU (ay (cD (K:=K) rfl hK) rfl bl.len_ nw (aa (qv 0) af)) (ay (cD (K:=K) rfl hK) rfl bl.len_ nw (aa (qv 1) af)) (bt _)) (jK (ay (ER (K:=K) rfl rfl) rfl bl.all_ D7 (aa (bX (N':=["_law_one","_law_other"]) (tn:=2) (idx:=[]) rfl (show aD ["_law_found","_law_due"] (aj eO) _ ["_law_one","_law_other"] 2 [] from by decide +kernel) (Jt (sG true true (K:=K) rfl rfl bl.zip_ (qv 0) (qv 1)) (sG false false (K:=K) rfl rfl bl.zip_ (qv 0) (qv 1))) (fun _ _ _ _ _=>(oM (n:=2) rfl (eJ (aE (i:=0) (show wS [("_law_one" : br),("_law_other" : br)] from by decide +kernel) rfl (li rfl)) (eJ (aE (i:=1) (show wS [("_law_one" : br),("_law_other" : br)] from by decide +kernel) rfl (li rfl)) mU)))) (fun _ _ _ _ _=>bS) (fun _ _ _ _ _=>(aG gQ hr rfl bH.mg bH.fn.kp bH.bd bb hP hw hK ht XR.none (aa (qv 0) (aa (qv 1) af))))) af)))))))
   qss_nil)
  (ai (cq (fX (ay (bj (K:=K) rfl) rfl bl.isinstance_ aF (aa (qv 1) (aa (bI (v:=.ty "str") rfl bl.str_ rX rfl) af))))
   (av (aS (gO (ay (bj (K:=K) rfl) rfl bl.isinstance_ aF (aa (qv 0) (aa (bI (v:=.ty "str") rfl bl.str_ rX rfl) af))) (jK (iu (wD hr.units) (qv 0) (qv 1) (bt _))))))
   qss_nil)
  (ai (cq (bC wC (qv 1) su (bt _))
   (av (aS (iu wC (qv 0) su (bt _))))
   qss_nil)
  (av (aS (gO (ay (bj (K:=K) rfl) rfl bl.isinstance_ aF (aa (qv 0) (aa (bI (v:=.ty "int") rfl bl.int_ xt rfl) af))) (gO (yf (ay (bj (K:=K) rfl) rfl bl.isinstance_ aF (aa (qv 0) (aa (bI (v:=.ty "bool") rfl bl.bool_ tP rfl) af)))) (jK (iu (wD hr.units) (qv 0) (qv 1) (bt _)))))))))),?_⟩
 subst e;obtain⟨i,rfl⟩:=h;simp! only[];exact⟨by decide,by decide,by decide,by decide,by decide,HN rfl (Nat.le_of_ble_eq_true rfl) (.inl q)⟩
theorem FN {f:al}{fd:ln}{n k:Nat}(D:Df K mg "_law_like" eO ["_law_found","_law_due"] f fd) (gQ:FnOk P w K mg base bw k f fd ["_law_found","_law_due"] (bp P w K tb (wI n))) (bl:Bl mg):FnOk P w K mg base bw (k+1) f fd ["_law_found","_law_due"] (bp P w K tb (wI (n+1))) :=by
 have bH:=D;refine eW D pf (fun ds M Q E hS=>by obtain⟨d,e,_⟩:=hS;rw[e];rfl) fun A outer s E Γ ds Q' E' hP hw hK ht hr hS=>?_
 obtain⟨d,e,h,q⟩:=hS;refine⟨_,(ai (cq (QW.pt (nq (fX (ay (bj (K:=K) rfl) rfl bl.isinstance_ aF (aa (qv 1) (aa (bI (v:=.ty "list") rfl bl.list_ ik rfl) af)))) (kP (fX (ay (bj (K:=K) rfl) rfl bl.isinstance_ aF (aa (qv 1) (aa (bI (v:=.ty "tuple") rfl bl.tuple_ ck rfl) af)))))))
   (ai (cq (QW.pt (nq (bC yj (ay (bj (K:=K) rfl) rfl bl.isinstance_ aF (aa (qv 1) (aa (bI (v:=.ty "list") rfl bl.list_ ik rfl) af))) (ay (bj (K:=K) rfl) rfl bl.isinstance_ aF (aa (qv 0) (aa (bI (v:=.ty "list") rfl bl.list_ ik rfl) af))) (bt _)) (kP (bC yj (ay (bj (K:=K) rfl) rfl bl.isinstance_ aF (aa (qv 1) (aa (bI (v:=.ty "tuple") rfl bl.tuple_ ck rfl) af))) (ay (bj (K:=K) rfl) rfl bl.isinstance_ aF (aa (qv 0) (aa (bI (v:=.ty "tuple") rfl bl.tuple_ ck rfl) af))) (bt _)))))
   (av (aS j5))
   qss_nil)
  (av (aS (gO (iu jU (ay (cD (K:=K) rfl hK) rfl bl.len_ nw (aa (qv 0) af)) (ay (cD (K:=K) rfl hK) rfl bl.len_ nw (aa (qv 1) af)) (bt _)) (jK (ay (ER (K:=K) rfl rfl) rfl bl.all_ D7 (aa (bX (N':=["_law_one","_law_other"]) (tn:=2) (idx:=[]) rfl (show aD ["_law_found","_law_due"] (aj eO) _ ["_law_one","_law_other"] 2 [] from by decide +kernel) (Jt (sG true true (K:=K) rfl rfl bl.zip_ (qv 0) (qv 1)) (sG false false (K:=K) rfl rfl bl.zip_ (qv 0) (qv 1))) (fun _ _ _ _ _=>(oM (n:=2) rfl (eJ (aE (i:=0) (show wS [("_law_one" : br),("_law_other" : br)] from by decide +kernel) rfl (li rfl)) (eJ (aE (i:=1) (show wS [("_law_one" : br),("_law_other" : br)] from by decide +kernel) rfl (li rfl)) mU)))) (fun _ _ _ _ _=>bS) (fun _ _ _ _ _=>(aG gQ hr rfl bH.mg bH.fn.kp bH.bd bb hP hw hK ht XR.none (aa (qv 0) (aa (qv 1) af))))) af)))))))
   qss_nil)
  (ai (cq (fX (ay (bj (K:=K) rfl) rfl bl.isinstance_ aF (aa (qv 1) (aa (bI (v:=.ty "str") rfl bl.str_ rX rfl) af))))
   (av (aS (gO (ay (bj (K:=K) rfl) rfl bl.isinstance_ aF (aa (qv 0) (aa (bI (v:=.ty "str") rfl bl.str_ rX rfl) af))) (jK (iu (wD hr.units) (qv 0) (qv 1) (bt _))))))
   qss_nil)
  (ai (cq (bC wC (qv 1) su (bt _))
   (av (aS (iu wC (qv 0) su (bt _))))
   qss_nil)
  (av (aS (gO (ay (bj (K:=K) rfl) rfl bl.isinstance_ aF (aa (qv 0) (aa (bI (v:=.ty "int") rfl bl.int_ xt rfl) af))) (gO (yf (ay (bj (K:=K) rfl) rfl bl.isinstance_ aF (aa (qv 0) (aa (bI (v:=.ty "bool") rfl bl.bool_ tP rfl) af)))) (jK (iu (wD hr.units) (qv 0) (qv 1) (bt _)))))))))),?_⟩
 subst e;obtain⟨xs,hd,hl,hx⟩:=h;have big:(1000:Nat)<sizeLine :=by decide
 rcases hd with rfl|rfl
 ·simp! only[];refine⟨by decide,by decide,by decide,by decide,by decide,.inl ?_⟩
  simp! only[];refine⟨by omega,gr (fun _=>.bl true) (fun τ M=>(∃x y,τ=[x,y])/\M=Γ.M0) ⟨⟨_,_,rfl⟩,rfl⟩ (fun d hd τ M hI R hR=>?_) (fun τ M hI=>?_)⟩
  ·obtain⟨⟨x,y,rfl⟩,rfl⟩:=hI;obtain⟨z,hz,rfl⟩:=sV hd;simp! only[];exact⟨z,rfl,hx z hz,hR _ _ ⟨⟨_,_,rfl⟩,rfl⟩⟩
  ·obtain⟨⟨x,y,rfl⟩,rfl⟩:=hI;rw[YZ,sW];have:(mo (cg xs xs).length true).all id=true :=by simp
   show jj Γ.M0 Q' (.bl ((mo (cg xs xs).length true).all id)) Γ.M0;rw[this];exact .inl q
 ·simp! only[];refine⟨by decide,by decide,by decide,by decide,by decide,by decide,.inr ?_⟩
  simp! only[];refine⟨by omega,gr (fun _=>.bl true) (fun τ M=>(∃x y,τ=[x,y])/\M=Γ.M0) ⟨⟨_,_,rfl⟩,rfl⟩ (fun d hd τ M hI R hR=>?_) (fun τ M hI=>?_)⟩
  ·obtain⟨⟨x,y,rfl⟩,rfl⟩:=hI;obtain⟨z,hz,rfl⟩:=sV hd;simp! only[];exact⟨z,rfl,hx z hz,hR _ _ ⟨⟨_,_,rfl⟩,rfl⟩⟩
  ·obtain⟨⟨x,y,rfl⟩,rfl⟩:=hI;rw[YZ,sW];have:(mo (cg xs xs).length true).all id=true :=by simp
   show jj Γ.M0 Q' (.bl ((mo (cg xs xs).length true).all id)) Γ.M0;rw[this];exact .inl q
end
def CG (ns:List Int):List Int:=sortI (dO ns)
theorem rg {ns:List Int}{k:Int}:k∈CG ns ↔ k∈ns:=(sortI_perm _).mem_iff.trans GO
theorem qy (ns:List Int):(CG ns).Pairwise (· < ·) :=by
 have h1:=xK (dO ns);have h2:(CG ns).Nodup:=(sortI_perm _).nodup_iff.mpr (BC ns);exact(Yx.and h1 h2).imp fun⟨a,b⟩=>by omega
theorem nJ:∀{a b:List Int},a.Pairwise (· < ·)->b.Pairwise (· < ·)->(∀k,k∈a ↔ k∈b)->a=b
 | [],[],_,_,_=>rfl
 | [],y::b,_,_,h=>by have:=(h y).mpr gc;cases this
 |x::a,[],_,_,h=>by have:=(h x).mp gc;cases this
 |x::a,y::b,ha,hb,h=>by
          obtain⟨S9,FO⟩:=Nd.mp ha;obtain⟨sf,Ah⟩:=Nd.mp hb;have WZ:x=y :=by
           rcases im.mp ((h x).mp gc) with e|e
           ·exact e
           ·rcases im.mp ((h y).mpr gc) with e'|e'
            ·exact e'.symm
            ·have:=sf x e;have:=S9 y e';omega
          subst WZ;congr 1
          refine nJ FO Ah fun k=>⟨fun hk=>?_,fun hk=>?_⟩
          ·rcases im.mp ((h k).mp (c8 _ hk)) with e|e
           ·have:=S9 k hk;omega
           ·exact e
          ·rcases im.mp ((h k).mpr (c8 _ hk)) with e|e
           ·have:=sf k hk;omega
           ·exact e
structure ft (m:Nat) (ns:List Int):Prop where
 str:ns.Pairwise (· < ·)
 rng:∀p∈ns,0<=p/\p<(m:Int)
 ne:ns≠[]
theorem sX {m:Nat}:∀{ns:List Int}{lo:Int},ns.Pairwise (· < ·)->(∀p∈ns,lo<=p/\p<(m:Int))->(ns.length:Int)<=max 0 ((m:Int) - lo)
 | [],lo,_,_=>by simp;omega
 |x::ns,lo,h,hr=>by
          obtain⟨h1,h2⟩:=Nd.mp h;obtain⟨r1,r2⟩:=hr x gc;have:=sX (lo:=x+1) h2 fun p hp=>⟨h1 p hp,(hr p (c8 _ hp)).2⟩
          rw[xy];omega
theorem ft.len {m:Nat}{ns:List Int}(h:ft m ns):ns.length<=m :=by
 have:=sX (lo:=0) h.str h.rng;omega
theorem sY (n:Nat):(aR n).length=n :=by simp[aR]
section
variable {P:en}{w:ii}{K:bn}{mg:br->Option am}{base:hX}{tb:cG}
theorem e8:aW ["start","width","step","most","found","queue","met","at","goal"] ["start","width","step","most"] (aj jA):=⟨rfl,rfl,rfl,by decide +kernel,rfl,by decide +kernel,by decide +kernel⟩
def FP (cH:List Dv) (step:List Int->Nat->List Int) (U:List (List Int)) (n:Nat):List Dv->cM:=fun UR ds M Q _=>UR=cH/\∃(p:List Int) (a:Nat),ds=[eI p,.int ((a:Nat):Int)]/\p∈U/\a<n/\Q (eI (step p a)) M
def kT (k:List Int):List Key:=k.map uu
theorem lr (a b:List Int) (h:kT a=kT b):a=b :=by
 have:=congrArg (List.map fun k:Key=>match k with | .inl i=>i | .inr _=>0) h
 simpa[kT,ma,Function.comp_def] using this
theorem js (k:List Int):iR (k.map Dv.int)=some (kT k):=sL k
def yR (r:List (List Int)×List br):Dv:=.dt (r.1.map kT) (r.2.map Dv.str)
def AZ (P:en) (w:ii) (K:bn) (mg:br->Option am) (tb:cG) (base:hX):cM:=fun ds M Q _=>∃(s:List Int) (step:List Int->Nat->List Int) (U:List (List Int)) (n most:Nat) (f:al) (fd:ln) (o:i8) (c:al) (oc:i8) (vcs:List V) (cH:List Dv) (ps:List br),
 ds=[eI s,.int (n:Nat),.bZ f o c oc vcs cH,.int (most:Nat)]/\FnOk P w K mg base bw 6 f fd ps (Jl P w K tb f o c oc vcs (FP cH step U n))/\(∃oc od fd sl,o=⟨oc,od,.func fd,sl⟩)/\Binds K fd ps []/\n<=3/\s∈U/\(∀k∈U,∀a,a<n->step k a∈U)/\U.length<=10000 /\
 Q (yR (met step n most U.length s)) M
theorem yS {f:al}{fd:ln}{dv:List am}(D:Jk K mg "first_met" jA ["start","width","step","most"] dv f fd) (bl:Bl mg) {tk:Y1}(lu:mg "SIGNS" = some (.str "abc" tk)) :
  FnOk P w K mg base bw 7 f fd ["start","width","step","most"] (bp P w K tb (AZ P w K mg tb base)) :=by
 refine Ru D e8 (fun ds M Q E hS=>by obtain⟨s,step,U,n,most,f,fd,o,c,oc,vcs,cH,ps,e,_⟩:=hS;rw[e];rfl) fun A outer s0 E Γ ds Q' E' hP hw hK ht hr hS=>?_
 obtain⟨s,step,U,n,most,f,fd,o,c,oc,vcs,cH,ps,e,Py,Pz,PD,hn,hs,hU,hl,q⟩:=hS;refine⟨_,(ai (aK (i:=4) e8.nd rfl (li rfl) (vE hr.units (qv 0) oJ))
  (ai (aK (i:=5) e8.nd rfl (li rfl) (tU (aa (qv 0) af)))
  (ai (yg v6 (QW.pt (Er (Ho (qv 5)) (As (bC B4 (ay O5 rfl bl.len_ nw (aa (qv 4) af)) (qv 3) (bt _)))))
   (ai (aK (i:=6) e8.nd rfl (li rfl) (sD (K:=K) rfl SI PySem.F.slot_list_pop PySem.F.type_list_pop Ax (qv 5) (aa aw af)))
  (av (dH v6 rfl (bM rfl bl.range_ (aa (qv 1) af)) (fun jQ eP ew eK et=>by have hP:=hP.trans eP.symm;have hw:=hw.trans ew.symm;have hK:=hK.trans eK.symm;have ht:=ht.trans et.symm;exact⟨(aE (i:=7) e8.nd rfl (li rfl)),(ai (aK (i:=8) e8.nd rfl (li rfl) (Hv (i:=2) Py Pz (hr.mono (by decide)) rfl (li rfl) PD bb hP hw hK ht XR.none (aa (qv 6) (aa (qv 7) af))))
  (av (cq (bC (yt hr.units) (qv 8) (qv 4) (by rfl))
   (ai (pT hr.units (qv 4) (qv 8) (aP vq (mY hr.units (qv 4) (qv 6) (fun _ _=>rfl)) (bV (du (K:=K) rfl) (Hh (z := "abc") rfl lu ⟨_,rfl⟩) (qv 7) (fun _ _=>rfl))))
  (av (pO (sD (K:=K) rfl SI PySem.F.slot_list_append PySem.F.type_list_append Hk (qv 5) (aa (qv 8) af)))))
   qss_nil)))⟩)))))
  (av (aS (qv 4)))))),?_⟩
 subst e;simp! only[js];intro a ha;refine⟨by decide,fun qq hq=>?_⟩
 have FQ:qq≠a:=fun z=>by rw[z,updM_same]at hq;cases hq
 have Ju:Γ.M0 qq=none :=by rw[ao FQ]at hq;exact hq
 have big:(10000:Nat)+10<sizeLine :=by decide
 have Tc:∀{M:Mh},(∀b,b≠a->b≠qq->M b=Γ.M0 b)->Keeps Γ.M0 M:=fun h b o e=>by
  rw[h b (fun z=>by rw[z,ha]at e;cases e) (fun z=>by rw[z,Ju]at e;cases e)];exact e
 let I:Nat->List (List Int)×List br->aA->Mh->Prop:=fun i st ρ M=>(∃x6 x7 x8,ρ=[some (eI s),some (.int (n:Nat)),some (.bZ f o c oc vcs cH),some (.int (most:Nat)),some (.ptr a),some (.ptr qq),x6,x7,x8])/\M a=some (.dt (st.1.map kT) (st.2.map Dv.str))/\M qq=some (.lst ((st.1.drop i).map eI))/\(∀b,b≠a->b≠qq->M b=Γ.M0 b)/\fR U st/\i<=st.1.length
 refine⟨fun m ρ M=>∃i st,m=U.length+1 - i/\I i st ρ M/\k9 step n most (U.length+1 - i) i st=met step n most U.length s,⟨_,0,([s],[""]),rfl,⟨⟨_,_,_,rfl⟩,by rw[ao (zn FQ),updM_same];rfl,updM_same,fun b h1 h2=>by rw[ao h2,ao h1],mi hs,wp _⟩,rfl⟩,?_⟩
 rintro m ρ M ⟨i,st,rfl,⟨⟨x6,x7,x8,rfl⟩,JC,W0,AA,ok,hi⟩,hb⟩;have hle:=ok.le;have XW:=ok.len;have fin:∀M',M' a=some (.dt (st.1.map kT) (st.2.map Dv.str))->Keeps Γ.M0 M'->st=met step n most U.length s->jj Γ.M0 Q' (.ptr a) M':=fun M' h k e=>.inr ⟨k,yR st,.dt ha h rfl fun j d d' e1 e2=>by
  rw[e1]at e2;cases e2;obtain⟨w,_,rfl⟩:=kt.mp (cr e1);exact .pin (.str w),by rw[e];exact q⟩
 have PF:U.length+1 - i=(U.length - i)+1 :=by omega
 simp! only[JC,W0];refine fE (fun h1=>?_) (fun h1=>?_)
 ·have aQ:i<st.1.length :=by
   rcases LM i st.1.length with h|h
   ·exact h
   ·rw[List.drop_eq_nil_of_le h]at h1;cases h1
  obtain⟨k,hk⟩:∃k,st.1[i]?=some k:=⟨_,ap aQ⟩;obtain⟨wd,FR⟩:∃wd,st.2[i]?=some wd:=⟨_,ap (by omega)⟩
  have PH:k∈U:=ok.sub k (cr hk);refine fE (fun h2=>?_) (fun h2=>?_)
  ·have CH:st.1.length<=most :=by simpa using h2
   have Xm:(st.1.drop i).length=st.1.length - i:=ZE;have W2:seqIndex? 0 (st.1.drop i).length=some 0:=(by unfold seqIndex?;simp;omega)
   have e0:((st.1.drop i).map eI)[0]?=some (eI k) :=by rw[qY hk];rfl
   simp only[W2,e0];refine⟨by decide,by decide,by omega,by omega,?_⟩
   have er:((st.1.drop i).map eI).eraseIdx 0=(st.1.drop (i+1)).map eI :=by rw[qY hk];rfl
   simp only[er];refine bN (fun j ρ M=>(∃x7 x8,ρ=[some (eI s),some (.int (n:Nat)),some (.bZ f o c oc vcs cH),some (.int (most:Nat)),some (.ptr a),some (.ptr qq),some (eI k),x7,x8])/\M a=some (.dt ((visit step k wd j st).1.map kT) ((visit step k wd j st).2.map Dv.str))/\M qq=some (.lst (((visit step k wd j st).1.drop (i+1)).map eI))/\(∀b,b≠a->b≠qq->M b=Γ.M0 b)/\j<=n)
    ⟨⟨_,_,rfl⟩,by rw[ao (zn FQ)];exact JC,updM_same,fun b h1 h2=>by rw[ao h2];exact AA b h1 h2,wp _⟩ (fun j d ρ M N hd ⟨⟨x7,x8,e1⟩,FT,FU,JD,gj⟩ hN=>?_) (fun ρ M ⟨⟨x7,x8,e1⟩,FT,FU,JD,gj⟩=>?_)
   ·subst e1;obtain⟨rfl,hj⟩:=cU hd;obtain⟨gk,gw,g1,g2⟩:=j7 step k wd j st;have JE:=ok.visit (n:=j) (step:=step) (met:=k) FR fun b hb=>hU k PH b (by omega)
    have XX:=JE.le;have UT:=JE.len;have Td:(visit step k wd j st).1[i]?=some k :=by rw[g1];exact uf hk
    have Te:(visit step k wd j st).2[i]?=some wd :=by rw[g2];exact uf FR
    have O2:=AR JE.nd Td Te;have Ab:=JE.wl i wd Te;have Xt:i<(visit step k wd j st).1.length:=(ce.mp Td).1;simp! only[];refine⟨rfl,k,j,rfl,PH,hj,?_⟩;simp! only[eI,js,FT,yE lr,Zx,Fo UT];have nx:∀{b7 M'},(∃x7 x8,b7=[some (eI s),some (.int (n:Nat)),some (.bZ f o c oc vcs cH),some (.int (most:Nat)),some (.ptr a),some (.ptr qq),some (eI k),x7,x8])->M' a=some (.dt ((visit step k wd (j+1) st).1.map kT) ((visit step k wd (j+1) st).2.map Dv.str))->M' qq=some (.lst (((visit step k wd (j+1) st).1.drop (i+1)).map eI))->(∀b,b≠a->b≠qq->M' b=Γ.M0 b)->N b7 M':=fun h1 h2 h3 h4=>hN _ _ ⟨h1,h2,h3,h4,hj⟩
    have vs:=iS step k wd j st;refine fE (fun hm=>?_) (fun hm=>?_)
    ·have hm:step k j ∉ (visit step k wd j st).1 :=by simpa using hm
     have hv:visit step k wd (j+1) st=((visit step k wd j st).1++[step k j],(visit step k wd j st).2++[wd++AO j]) :=by rw[vs];unfold jn;rw[if_neg hm]
     obtain⟨p1,p2⟩:=ug (κ:=List Key) (k:=kT (step k j)) (d:=Dv.str (wd++AO j)) (ks:=(visit step k wd j st).1.map kT) (ds:=(visit step k wd j st).2.map Dv.str) (fun z=>hm ((mF lr).mp z))
     simp only[O2,Fa,KZ (show j<3 by omega)]
     refine⟨by decide,by rw[show (⟨#[97+j]⟩:br)=AO j from rfl,AQ];omega,by omega,?_⟩
     rw[show (⟨#[97+j]⟩:br)=AO j from rfl,p1,p2];simp only[ao FQ,FU];refine⟨trivial,by simp only[ca,ZE];omega,nx ⟨_,_,rfl⟩ ?_ ?_ fun b h1 h2=>by rw[ao h2,ao h1];exact JD b h1 h2⟩
     ·rw[ao (zn FQ),updM_same,hv,u8,u8];rfl
     ·rw[updM_same,hv];show some (Mo.lst (_++[_]))=_;rw[List.drop_append_of_le_length (by omega),u8];rfl
    ·have hm:step k j∈(visit step k wd j st).1 :=by simpa using hm
     have hv:visit step k wd (j+1) st=visit step k wd j st :=by rw[vs];unfold jn;rw[if_pos hm]
     exact nx ⟨_,_,rfl⟩ (by rw[hv];exact FT) (by rw[hv];exact FU) JD
   ·subst e1;have W3:(cw 0 n).length=n:=rangeD_len 0 n;rw[W3]at FT FU gj;have W4:=ok.visit (n:=n) (step:=step) (met:=k) FR fun b hb=>hU k PH b hb
    obtain⟨gk,gw,g1,g2⟩:=j7 step k wd n st;refine⟨U.length+1 - (i+1),by omega,i+1,visit step k wd n st,rfl,⟨⟨_,_,_,rfl⟩,FT,FU,JD,W4,by rw[g1,xz];omega⟩,?_⟩
    rw[<- hb,PF,Fn hk FR CH];rw[show U.length+1 - (i+1)=U.length - i by omega]
  ·refine fin M JC (Tc AA) ?_;have CH:¬ st.1.length<=most :=by simpa using h2
   rw[<- hb,PF];unfold k9;simp only[hk,FR,if_neg CH]
 ·refine fin M JC (Tc AA) ?_;have h:st.1.length<=i :=by
   rcases LM i st.1.length with h|h
   ·rw[qY (ap h)]at h1;cases h1
   ·exact h
  rw[<- hb,PF];unfold k9;have e1:st.1[i]?=none:=IF h;simp only[e1]
end
def yT (st:r9):db:=match bU st with | [.Return (some (.Call _ (_::_::l::_) _ _)) _]=>l|_=>.Constant .none 0 ⟨0,0,0,0⟩
def lP (st:r9):OK:=match yT st with | .Lambda p _ _ _=>p|_=>⟨[],[],none,[],[],none,[]⟩
def lB (st:r9):db:=match yT st with | .Lambda _ b _ _=>b|e=>e
def lS (st:r9):ul:=match yT st with | .Lambda _ _ s _=>s|_=>aj st
def dB (ae:List (List Int)):List Int:=(io ae.length).map fun i:Nat=>(i:Int)
def dQ (ae:List (List Int)) (p:Int) (a:Nat):Int:=(ae.getD p.toNat []).getD a 0
theorem bg {ae:List (List Int)}{p:Int}:p∈dB ae ↔ 0<=p/\p<(ae.length:Int) :=by
 unfold dB;rw[kt];constructor
 ·rintro⟨i,hi,rfl⟩;have:=rb.mp hi;omega
 ·rintro⟨h1,h2⟩;exact⟨p.toNat,rb.mpr (by omega),by omega⟩
theorem getD_at {α:Type}{l:List α}{i:Nat}{d:α}(h:i<l.length):l.getD i d=l[i] :=by rw[dL,ap h];rfl
theorem lx {ae:List (List Int)}{n:Nat}(o:bJ ae n) {p:Int}(hp:p∈dB ae) {a:Nat}(ha:a<n):dQ ae p a∈dB ae :=by
 obtain⟨h1,h2⟩:=bg.mp hp;have aQ:p.toNat<ae.length :=by omega
 obtain⟨e1,e2⟩:=o.row ae[p.toNat] (wT aQ);unfold dQ;rw[getD_at aQ,getD_at (by omega)]
 exact bg.mpr (e2 _ (wT _))
theorem ly {ae:List (List Int)}{p:Int}(hp:p∈dB ae):dj (ae.map eI) p=some (eI (ae.getD p.toNat [])) :=by
 obtain⟨h1,h2⟩:=bg.mp hp;have aQ:p.toNat<ae.length :=by omega
 have e:p=((p.toNat:Nat):Int) :=by omega
 rw[e];refine eh ?_;rw[bv,kw,dL,ap aQ];rfl
theorem yU {ae:List (List Int)}{n:Nat}(o:bJ ae n) {p:Int}(hp:p∈dB ae) {a:Nat}(ha:a<n):dj ((ae.getD p.toNat []).map Dv.int) ((a:Nat):Int)=some (.int (dQ ae p a)) :=by
 obtain⟨h1,h2⟩:=bg.mp hp;have aQ:p.toNat<ae.length :=by omega
 have e1:=(o.row ae[p.toNat] (wT aQ)).1;refine eh ?_;unfold dQ;rw[bv,getD_at aQ,getD_at (by omega),ap (by omega)]
 rfl
def gz:List Int->List (List Int)
 | []=>[[]]
 |x::xs=>gz xs++(gz xs).map (x::·)
theorem vN:∀xs:List Int,(gz xs).length=2 ^ xs.length
 | []=>rfl
 |x::xs=>by rw[gz,xz,ca,vN xs,xy,Nat.pow_succ];omega
theorem ph:∀xs:List Int,[]∈gz xs
 | []=>jp.mpr rfl
 |x::xs=>AN _ (ph xs)
theorem pj:∀{xs ns:List Int},xs.Pairwise (· < ·)->ns.Pairwise (· < ·)->(∀p∈ns,p∈xs)->ns∈gz xs
 | [],ns,_,_,h=>by
          cases ns with
          |nil=>exact jp.mpr rfl
          |cons y ns=>exact absurd (h y gc) (by simp)
 |x::xs,[],_,_,_=>ph _
 |x::xs,y::ns,hx,hn,h=>by
          obtain⟨x1,x2⟩:=Nd.mp hx;obtain⟨n1,n2⟩:=Nd.mp hn;have ge:∀p∈y::ns,p≠x->p∈xs:=fun p hp ne=>by
           rcases im.mp (h p hp) with z|z
           ·exact absurd z ne
           ·exact z
          by_cases e:y=x
          ·subst e;refine l3 _ (kt.mpr ⟨ns,pj x2 n2 fun p hp=>ge p (c8 _ hp) fun z=>?_,rfl⟩)
           have:=n1 p hp;omega
          ·refine AN _ (pj x2 hn fun p hp=>ge p hp fun z=>?_)
           have hy:=x1 y (ge y gc e);rcases im.mp hp with q|q
           ·omega
           ·have:=n1 p q;omega
def fu (m:Nat):List (List Int):=(gz (aR m)).erase []
theorem mr {m:Nat}(h:m<=9):(fu m).length<=511 :=by
 unfold fu;rw[List.length_erase_of_mem (ph _),vN,sY];have:2 ^ m<=2 ^ 9:=X5 (by omega) h
 omega
theorem fG (m:Nat):(aR m).Pairwise (· < ·) :=by
 unfold aR;exact List.pairwise_map.mpr (Ys.imp fun h=>by omega)
theorem iU {m:Nat}{p:Int}:p∈aR m ↔ 0<=p/\p<(m:Int) :=by
 unfold aR;rw[kt];constructor
 ·rintro⟨i,hi,rfl⟩;have:=rb.mp hi;omega
 ·rintro⟨h1,h2⟩;exact⟨p.toNat,rb.mpr (by omega),by omega⟩
theorem iz {m:Nat}{ns:List Int}:ns∈fu m->ft m ns:=fun h=>by
 have nd:(gz (aR m)).Nodup/\∀k∈gz (aR m),k.Pairwise (· < ·)/\∀p∈k,p∈aR m :=by
  have key:∀xs:List Int,xs.Pairwise (· < ·)->(gz xs).Nodup/\∀k∈gz xs,k.Pairwise (· < ·)/\∀p∈k,p∈xs :=by
   intro xs;induction xs with
   |nil=>exact fun _=>⟨by simp[gz],fun k hk=>by rw[jp.mp hk];exact⟨.nil,fun _ h=>nomatch h⟩⟩
   |cons x xs ih=>
    intro h;obtain⟨x1,x2⟩:=Nd.mp h;obtain⟨i1,i2⟩:=ih x2;refine⟨?_,fun k hk=>?_⟩
    ·rw[gz,NJ];refine⟨i1,List.pairwise_map.mpr (i1.imp fun h e=>h (List.cons.inj e).2),fun a ha b hb e=>?_⟩
     obtain⟨c,hc,rfl⟩:=kt.mp hb;have:=x1 x ((i2 a ha).2 x (by rw[e];exact gc))
     omega
    ·rcases zw.mp hk with z|z
     ·exact⟨(i2 k z).1,fun p hp=>c8 _ ((i2 k z).2 p hp)⟩
     ·obtain⟨c,hc,rfl⟩:=kt.mp z;refine⟨Nd.mpr ⟨fun p hp=>x1 p ((i2 c hc).2 p hp),(i2 c hc).1⟩,fun p hp=>?_⟩
      rcases im.mp hp with z|z
      ·rw[z];exact gc
      ·exact c8 _ ((i2 c hc).2 p z)
  exact key _ (fG m)
 unfold fu at h;have h':=(wS.mem_erase_iff nd.1).mp h;exact⟨(nd.2 ns h'.2).1,fun p hp=>iU.mp ((nd.2 ns h'.2).2 p hp),h'.1⟩
theorem fj {m:Nat}{ns:List Int}(h:ft m ns):ns∈fu m:=(List.mem_erase_of_ne h.ne).mpr (pj (fG m) h.str fun p hp=>iU.mpr (h.rng p hp))
def fL (ae:List (List Int)) (ps:List Int) (a:Nat):List Int:=CG (ps.map fun p=>dQ ae p a)
theorem pq {ae:List (List Int)}{n:Nat}(O:bJ ae n) {ps:List Int}(h:ft ae.length ps) {a:Nat}(ha:a<n):ft ae.length (fL ae ps a) :=by
 refine⟨qy _,fun p hp=>?_,fun e=>?_⟩
 ·obtain⟨q,hq,rfl⟩:=kt.mp (rg.mp hp);exact bg.mp (lx O (bg.mpr (h.rng q hq)) ha)
 ·cases ps with
  |nil=>exact h.ne rfl
  |cons p ps=>
   have:dQ ae p a∈fL ae (p::ps) a:=rg.mpr (kt.mpr ⟨p,gc,rfl⟩);rw[e]at this;cases this
section
variable {P:en}{w:ii}{K:bn}{mg:br->Option am}{base:hX}{tb:cG}
theorem wa:aW ["net","places","at"] ["net","places","at"] (aj d7):=⟨rfl,rfl,rfl,by decide +kernel,rfl,by decide +kernel,by decide +kernel⟩
theorem wc:aW ["net","places"] ["net","places"] (aj aJ):=⟨rfl,rfl,rfl,by decide +kernel,rfl,by decide +kernel,by decide +kernel⟩
def qI:br:=("images_met" ++ ".<locals>." : br) ++ "<lambda>"
def wJ:cM:=fun ds M Q _=>∃ae n ps a,ds=[eN ae,eI ps,.int ((a:Nat):Int)]/\bJ ae n/\ft ae.length ps/\a<n/\Q (eI (fL ae ps a)) M
def wK (ae:List (List Int)) (a:Nat):Dv->Int | .int p=>dQ ae p a|_=>0
theorem FV (ae:List (List Int)) (a:Nat) (ps:List Int):(ps.map Dv.int).map (wK ae a)=ps.map fun p=>dQ ae p a :=by rw[ma];rfl
theorem oe {f:al}{fd:ln}(D:Df K mg "sign_image" d7 ["net","places","at"] f fd) (bl:Bl mg):FnOk P w K mg base bw 1 f fd ["net","places","at"] (bp P w K tb wJ) :=by
 refine eW D wa (fun ds M Q E hS=>by obtain⟨ae,n,ps,a,e,_⟩:=hS;rw[e];rfl) fun A outer s0 E Γ ds Q' E' hP hw hK ht hr hS=>?_
 obtain⟨ae,n,ps,a,e,O,hS,ha,q⟩:=hS;refine⟨_,(av (aS (dU (ji (K:=K) rfl) rfl bl.tuple_ ck (aa (ay (yl hP hw (K:=K) rfl rfl) rfl bl.sorted_ ve (aa (B5 hP hw (N':=["place","at","net"]) (tn:=1) (idx:=[2,0]) rfl (show aD ["net","places","at"] (aj d7) _ ["place","at","net"] 1 [2,0] from by decide +kernel) (kQ (K:=K) rfl (qv 1)) (fun _ _ _ _ _=>(aE (i:=0) (show wS [("place" : br),("at" : br),("net" : br)] from by decide +kernel) rfl (li rfl))) (fun _ _ _ _ _=>bS) (fun _ _ _ _ _=>(bV (du (K:=K) rfl) (bV (du (K:=K) rfl) (qv 2) (qv 0) (fun _ _=>rfl)) (qv 1) (fun _ _=>rfl)))) af)) af)))),?_⟩
 subst e;have h9:=O.nine;have hl:=hS.len;simp! only[];refine Az (wK ae a) (fun τ M=>(∃x,τ=[x,some (.int (a:Nat)),some (eN ae)])/\M=Γ.M0) ⟨⟨_,rfl⟩,rfl⟩ (BB (show _<=21 by simp only[NE,ca];omega) (by decide)) (fun d hd τ M ⟨⟨x,e⟩,eM⟩ R hR=>?_) (fun τ M ⟨⟨x,e⟩,eM⟩=>?_)
 ·subst e eM;obtain⟨p,hp,rfl⟩:=kt.mp hd;have cF:=bg.mpr (hS.rng p hp);simp! only[ly cF,yU O cF ha];exact hR _ _ ⟨⟨_,rfl⟩,rfl⟩
 ·subst e eM;rw[FV];have:=qP (ps.map fun p=>dQ ae p a)
  rw[ca]at this;exact⟨BB (show (dO (ps.map fun p=>dQ ae p a)).length<=9 by omega) (by decide),.inl q⟩
theorem uo:nE ["met","at"] ["net"] (lS aJ):=⟨rfl,rfl,rfl,by decide +kernel,by decide +kernel,by decide +kernel,by decide +kernel⟩
theorem CI {f c f1:al}{fd cI:ln}{o oc:i8}{aY:List (br×al)}{vcs:List V}(L:Cd (lP aJ) (lB aJ) (lS aJ) qI o c oc aY fd) (C:ub base ["net"] aY vcs) (cS:vcs.length=1) {ae:List (List Int)}{n:Nat}(O:bJ ae n)
  (bD:Df K mg "sign_image" d7 ["net","places","at"] f1 cI) (bl:Bl mg) :
  FnOk P w K mg base bw 2 f fd ["met","at"] (Jl P w K tb f o c oc vcs (FP [eN ae] (fL ae) (fu ae.length) n)) :=by
 have gf:=oe (P:=P) (w:=w) (base:=base) (tb:=tb) bD bl;refine UC L uo C cS (fun cH ds M Q E hS=>by obtain⟨_,p,a,e,_⟩:=hS;rw[e];rfl) fun A outer s E Γ cH ds Q' E' hP hw hK ht hr hS=>?_
 obtain⟨e0,p,a,e,hp,ha,q⟩:=hS;refine⟨_,(aG gf (hr.mono (by decide)) rfl bD.mg bD.fn.kp bD.bd bb hP hw hK ht XR.none (aa (qv 2) (aa (qv 0) (aa (qv 1) af)))),?_⟩
 subst e e0;simp! only[];exact⟨ae,n,p,a,rfl,O,iz hp,ha,.inl q⟩
theorem rh:∀n,(n,qr)∈(lS aJ).names->(aj aJ).names.lookup n=some .cell\/(aj aJ).names.lookup n=some .free :=by
 have h:∀y∈(lS aJ).names,y.2=qr->(aj aJ).names.lookup y.1=some .cell :=by decide +kernel
 exact fun n hn=>.inl (h _ hn rfl)
theorem uq:∀(j:Nat) (n:br),(["net"]:List br)[j]?=some n->(n,qr)∈(lS aJ).names/\(aj aJ).names.lookup n=some .cell/\∃i,([0]:List Nat)[j]?=some i/\(["net","places"]:List br)[i]?=some n:=fun j n h=>by
 cases j with
 |zero=>cases h;exact⟨by decide +kernel,by decide +kernel,0,rfl,rfl⟩
 |succ j=>simp at h
def HP (ae:List (List Int)) (n:Nat) (s:List Int):List (List Int)×List br:=met (fL ae) n 511 (fu ae.length).length s
def JF:cM:=fun ds M Q _=>∃ae n s,ds=[eN ae,eI s]/\bJ ae n/\ft ae.length s/\Q (yR (HP ae n s)) M
theorem we {f f1:al}{fd cI:ln}{px aM:al}{tk0:Y1}(D:Df K mg "images_met" aJ ["net","places"] f fd) (iV:DR base fd px aM) (eU:∃bm ob,Y9 base mainGlobals mg bm ob)
  (lJ:(aM,qI)∈tb.l) (OW:∀q∈tb.l,q.1=aM->q.2=qI) (fJ:Jk K mg "first_met" jA ["start","width","step","most"] [.int 511 tk0] f1 cI) {f2:al} {fd2:ln} (bD:Df K mg "sign_image" d7 ["net","places","at"] f2 fd2) (bl:Bl mg) {tk:Y1} (lu:mg "SIGNS" = some (.str "abc" tk)) :
  FnOk P w K mg base bw 8 f fd ["net","places"] (bp P w K tb JF) :=by
 refine eW D wc (fun ds M Q E hS=>by obtain⟨ae,n,s,e,_⟩:=hS;rw[e];rfl) fun A outer s0 E Γ ds Q' E' hP hw hK ht hr hS=>?_
 obtain⟨ae,n,s,e,O,hs,q⟩:=hS;have jt:(aM,qI)∈Γ.tb.l:=ht▸lJ;have ju:∀q∈Γ.tb.l,q.1=aM->q.2=qI:=ht▸OW;have zN:∀b',(∀b o,base.get? b=some o->b'.get? b=some o)->FnOk P w K mg b' bw 7 f1 cI ["start","width","step","most"] (bp P w K tb (AZ P w K mg tb b')):=fun b' _=>yS fJ bl lu
 have yV:Vals [V.int 511] [Ze 511 tk0]:=.cons ⟨_,rfl⟩ .nil;have yW:∀(β:Bz) (M:Mh) (H:Hp),aH β M H [V.int 511] [Dv.int 511]:=fun _ _ _=>.cons (.int _) .nil
 refine⟨_,(av (aS (Ce (idx:=[0]) (fs:=["net"]) iV.code iV.hd eU rfl (rh) (uq) jt ju zN (hr.mono (by decide)) (fun _=>rfl) rfl fJ.mg fJ.kp fJ.bd (yV) (yW) bb hP hw hK ht XR.none (qv 1) (ay (cD (K:=K) rfl hK) rfl bl.len_ nw (aa (bV (du (K:=K) rfl) (qv 0) aw (fun _ _=>rfl)) af)) af))),?_⟩
 subst e;have h1:=O.one;have h0:(0:Int)∈dB ae:=bg.mpr ⟨by omega,by omega⟩
 have sT:(ae.getD 0 []).length=n :=by
  have:=O.one;rw[getD_at (by omega)]
  exact(O.row _ (wT _)).1
 have JG:=O.wid;simp! only[yz,sO,ly h0,Int.toNat_zero,sT];intro lf o c oc aY vcs lv hO b' hb hC;obtain⟨W5,qG,⟨jX,rfl⟩,gS⟩:=hO;have L:Cd (lP aJ) (lB aJ) (lS aJ) qI (Pd "<lambda>" qI (lP aJ) (lB aJ) (lS aJ) aY ((mg "__name__").getD .none) c jX) c oc aY (PySem.W.kla_fn "<lambda>" qI (lP aJ) (lB aJ) (lS aJ) aY ((mg "__name__").getD .none) (.ref c) jX):=⟨qG,⟨_,_,_,rfl,rfl⟩,gS⟩
 refine⟨s,fL ae,fu ae.length,n,511,lf,_,_,c,oc,vcs,[eN ae],["met","at"],rfl,(CI L hC lv O bD bl).mono (by decide),⟨_,_,_,_,rfl⟩,.all fun us hl=>?_,by omega,fj hs,fun k hk a ha=>fj (pq O (iz hk) ha),?_,.inl q⟩
 ·match us,hl with
  | [_,_],_=>rfl
 ·have:=mr O.nine;omega
end
section
variable {κ:Type} [DecidableEq κ]
abbrev Cs (κ:Type):=List κ×List Nat
def fv (st:Cs κ) (k:κ) (c:Nat):Cs κ:=(putL st.1 k,cO st.1 st.2 k ((look st.1 st.2 k).getD 0+c))
def da (gs:List κ) (c:Nat) (st:Cs κ):Cs κ:=gs.foldl (fun st g=>fv st g c) st
def iW (G:κ->List κ) (st:Cs κ):Cs κ:=(st.1.zip st.2).foldl (fun acc e=>da (G e.1) e.2 acc) ([],[])
def fc (G:κ->List κ) (s:κ):Nat->Cs κ
 |0=>([s],[1])
 |m+1=>iW G (fc G s m)
structure dF (U:List κ) (st:Cs κ):Prop where
 len:st.1.length=st.2.length
 nd:st.1.Nodup
 sub:∀k∈st.1,k∈U
def d8 (φ:κ->Nat) (st:Cs κ):Nat:=((st.1.zip st.2).map fun e=>e.2 * φ e.1).sum
theorem dF.add {U:List κ}{st:Cs κ}(o:dF U st) {k:κ}(hk:k∈U) (c:Nat):dF U (fv st k c) :=by
 refine⟨nA o.len k _,?_,fun x hx=>?_⟩
 ·show (putL st.1 k).Nodup;unfold putL;split
  ·exact o.nd
  ·rename_i h;rw[NJ];exact⟨o.nd,by simp,fun x hx y hy e=>h (by rw[jp.mp hy]at e;rw[<- e];exact hx)⟩
 ·have hx:x∈putL st.1 k:=hx;unfold putL at hx;split at hx
  ·exact o.sub x hx
  ·rcases zw.mp hx with z|z
   ·exact o.sub x z
   ·rw[jp.mp z];exact hk
theorem yX (φ:κ->Nat) (k:κ) (c:Nat):∀(ks:List κ) (cs:List Nat),ks.length=cs.length->ks.Nodup->k∈ks->d8 φ (ks,bO ks cs k ((look ks cs k).getD 0+c))=d8 φ (ks,cs)+c * φ k
 | [],_,_,_,h=>nomatch h
 |_::_,[],h,_,_=>by simp at h
 |x::ks,d::cs,h,nd,hk=>by
          have Tf:=GM.mp nd;have hl:ks.length=cs.length :=by simpa using h
          by_cases e:x=k
          ·subst e;have e1:look (x::ks) (d::cs) x=some d :=by unfold look;rw[if_pos rfl]
           have e2:∀v,bO ks cs x v=cs:=fun v=>by
            have:∀(ks:List κ) (cs:List Nat),ks.length=cs.length->x ∉ ks->bO ks cs x v=cs :=by
             intro ks;induction ks with
             |nil=>intro cs h _;cases cs with
              |nil=>rfl
              |cons _ _=>simp at h
             |cons y ks ih=>intro cs h hn;cases cs with
              |nil=>simp at h
              |cons z cs=>
               unfold bO;rw[if_neg (fun e=>hn (by rw[e];exact gc)),ih cs (by simpa using h) fun z=>hn (c8 _ z)]
            exact this ks cs hl Tf.1
           rw[e1];show d8 φ (x::ks,bO (x::ks) (d::cs) x (d+c))=_;unfold bO;rw[if_pos rfl,e2];unfold d8;simp only[Ch,lw,YA,Nat.add_mul];omega
          ·have kz:k∈ks :=by
            rcases im.mp hk with z|z
            ·exact absurd z.symm e
            ·exact z
           have ih:=yX φ k c ks cs hl Tf.2 kz;have e1:look (x::ks) (d::cs) k=look ks cs k :=by show (if x=k then some d else look ks cs k)=_;rw[if_neg e]
           rw[e1];show d8 φ (x::ks,bO (x::ks) (d::cs) k _)=_;have e2:∀v,bO (x::ks) (d::cs) k v=d::bO ks cs k v:=fun v=>by show (if x=k then v else d)::_=_;rw[if_neg e]
           rw[e2];unfold d8 at ih ⊢;simp only[Ch,lw,YA]at ih ⊢;omega
theorem sum_add {U:List κ}{st:Cs κ}(φ:κ->Nat) (o:dF U st) (k:κ) (c:Nat):d8 φ (fv st k c)=d8 φ st+c * φ k :=by
 obtain⟨ks,cs⟩:=st;by_cases h:k∈ks
 ·unfold fv putL cO;simp only[if_pos h];exact yX φ k c ks cs o.len o.nd h
 ·have hl:ks.length=cs.length:=o.len;have e:look ks cs k=none:=(iw hl).mpr h;unfold fv putL cO;simp only[if_neg h,e,ZF,YW];unfold d8;rw[List.zip_append hl];simp
theorem yY {U:List κ}(φ:κ->Nat) (c:Nat):∀(gs:List κ) {st:Cs κ},dF U st->(∀g∈gs,g∈U)->dF U (da gs c st)/\d8 φ (da gs c st)=d8 φ st+c * (gs.map φ).sum
 | [],st,o,_=>⟨o,by simp[da]⟩
 |g::gs,st,o,h=>by
          obtain⟨h1,h2⟩:=yY φ c gs (o.add (h g gc) c) fun x hx=>h x (c8 _ hx)
          refine⟨h1,?_⟩;show d8 φ (da gs c (fv st g c))=_;rw[h2,sum_add φ o];simp only[lw,YA,Nat.mul_add];omega
theorem p0 {U:List κ}(φ:κ->Nat) {G:κ->List κ}(hG:∀k∈U,∀g∈G k,g∈U):∀(es:List (κ×Nat)) {acc:Cs κ},(∀e∈es,e.1∈U)->dF U acc->dF U (es.foldl (fun acc e=>da (G e.1) e.2 acc) acc)/\d8 φ (es.foldl (fun acc e=>da (G e.1) e.2 acc) acc)=d8 φ acc+(es.map fun e=>e.2 * ((G e.1).map φ).sum).sum
 | [],acc,_,o=>⟨o,by simp⟩
 |e::es,acc,h,o=>by
          obtain⟨o1,s1⟩:=yY φ e.2 (G e.1) o (hG e.1 (h e gc));obtain⟨o2,s2⟩:=p0 φ hG es (acc:=da (G e.1) e.2 acc) (fun x hx=>h x (c8 _ hx)) o1
          refine⟨o2,?_⟩;rw[TD,s2,s1,lw,YA];omega
theorem A0 {U:List κ}(φ:κ->Nat) {G:κ->List κ}(hG:∀k∈U,∀g∈G k,g∈U) {st:Cs κ}(o:dF U st):dF U (iW G st)/\d8 φ (iW G st)=d8 (fun k=>((G k).map φ).sum) st :=by
 obtain⟨h1,h2⟩:=p0 φ hG (st.1.zip st.2) (acc:=([],[])) (fun e he=>o.sub _ (GS he).1) ⟨rfl,Os,fun _ h=>nomatch h⟩
 exact⟨h1,by show d8 φ ((st.1.zip st.2).foldl _ _)=_;rw[h2];simp[d8]⟩
theorem hZ {U:List κ}{G:κ->List κ}(hG:∀k∈U,∀g∈G k,g∈U) {s:κ}(hs:s∈U):∀m,dF U (fc G s m)
 |0=>⟨rfl,by simp[fc],fun k hk=>by rw[jp.mp hk];exact hs⟩
 |m+1=>(A0 (fun _=>0) hG (hZ hG hs m)).1
def ur (G:κ->List κ) (s:κ):Nat->List κ
 |0=>[s]
 |m+1=>(ur G s m).flatMap G
theorem vO {U:List κ}{G:κ->List κ}(hG:∀k∈U,∀g∈G k,g∈U) {s:κ}(hs:s∈U):∀(m:Nat) (φ:κ->Nat),d8 φ (fc G s m)=((ur G s m).map φ).sum
 |0,φ=>by simp[fc,ur,d8]
 |m+1,φ=>by
          show d8 φ (iW G (fc G s m))=(((ur G s m).flatMap G).map φ).sum;rw[(A0 φ hG (hZ hG hs m)).2,vO hG hs m];have:∀l:List κ,(l.map fun k=>((G k).map φ).sum).sum=((l.flatMap G).map φ).sum :=by
           intro l;induction l with
           |nil=>rfl
           |cons x l ih=>rw[lw,YA,ih,List.flatMap_cons,u8,ZW]
          exact this _
end
section
variable {κ jc:Type} [DecidableEq κ] [DecidableEq jc]
def gH (f:κ->jc) (st:Cs κ):Cs jc:=(st.1.map f,st.2)
theorem mw {α:Type}{f:κ->jc}{x:κ}:∀{ks:List κ}{cs:List α},(∀k∈ks,f k=f x->k=x)->look (ks.map f) cs (f x)=look ks cs x
 | [],_,_=>by simp[look]
 |_::_,[],_=>by simp[look]
 |k::ks,c::cs,h=>by
          show (if f k=f x then some c else look (ks.map f) cs (f x))=if k=x then some c else look ks cs x
          rw[mw fun y hy=>h y (c8 _ hy)]
          by_cases e:k=x
          ·rw[if_pos e,if_pos (by rw[e])]
          ·rw[if_neg e,if_neg fun z=>e (h k gc z)]
theorem mx {α:Type}{f:κ->jc}{x:κ}(v:α):∀{ks:List κ}{cs:List α},(∀k∈ks,f k=f x->k=x)->bO (ks.map f) cs (f x) v=bO ks cs x v
 | [],_,_=>by simp[bO]
 |_::_,[],_=>by simp[bO]
 |k::ks,c::cs,h=>by
          show (if f k=f x then v else c)::bO (ks.map f) cs (f x) v=(if k=x then v else c)::bO ks cs x v
          rw[mx v fun y hy=>h y (c8 _ hy)]
          by_cases e:k=x
          ·rw[if_pos e,if_pos (by rw[e])]
          ·rw[if_neg e,if_neg fun z=>e (h k gc z)]
theorem K6 {U:List κ}{f:κ->jc}(hf:∀a∈U,∀b∈U,f a=f b->a=b) {st:Cs κ}(o:dF U st) {k:κ}(hk:k∈U) (c:Nat):fv (gH f st) (f k) c=gH f (fv st k c) :=by
 have inj:∀x∈st.1,f x=f k->x=k:=fun x hx e=>hf x (o.sub x hx) k hk e
 have hm:f k∈st.1.map f ↔ k∈st.1:=⟨fun h=>by obtain⟨x,hx,e⟩:=kt.mp h;rw[<- inj x hx e];exact hx,fun h=>Y3 h⟩
 unfold fv gH putL cO;simp only[mw inj];by_cases h:k∈st.1
 ·simp only[if_pos h,if_pos (hm.mpr h),mx _ inj]
 ·simp only[if_neg h,if_neg fun z=>h (hm.mp z),u8,lw,Rs]
theorem A1 {U:List κ}{f:κ->jc}(hf:∀a∈U,∀b∈U,f a=f b->a=b) (c:Nat):∀(gs:List κ) {st:Cs κ},dF U st->(∀g∈gs,g∈U)->da (gs.map f) c (gH f st)=gH f (da gs c st)
 | [],st,_,_=>rfl
 |g::gs,st,o,h=>by
          show da (gs.map f) c (fv (gH f st) (f g) c)=gH f (da gs c (fv st g c));rw[K6 hf o (h g gc)];exact A1 hf c gs (o.add (h g gc) c) fun x hx=>h x (c8 _ hx)
theorem HQ {U:List κ}{f:κ->jc}(hf:∀a∈U,∀b∈U,f a=f b->a=b) {G:κ->List κ}{G':jc->List jc}(hG:∀k∈U,∀g∈G k,g∈U) (hc:∀k∈U,G' (f k)=(G k).map f) {st:Cs κ}(o:dF U st):iW G' (gH f st)=gH f (iW G st) :=by
 have key:∀(es:List (κ×Nat)) {acc:Cs κ},(∀e∈es,e.1∈U)->dF U acc->(es.map fun e=>(f e.1,e.2)).foldl (fun acc e=>da (G' e.1) e.2 acc) (gH f acc)=gH f (es.foldl (fun acc e=>da (G e.1) e.2 acc) acc) :=by
  intro es;induction es with
  |nil=>intro acc _ _;rfl
  |cons e es ih=>
   intro acc h o;have he:=h e gc;rw[lw,TD,TD];show Z4 _ (da (G' (f e.1)) e.2 (gH f acc)) _=_;rw[hc _ he,A1 hf e.2 (G e.1) o (hG _ he)];exact ih (fun x hx=>h x (c8 _ hx)) (yY (fun _=>0) e.2 (G e.1) o (hG _ he)).1
 have:=key (st.1.zip st.2) (acc:=([],[])) (fun e he=>o.sub _ (GS he).1) ⟨rfl,Os,fun _ h=>nomatch h⟩
 have ez:(st.1.map f).zip st.2=(st.1.zip st.2).map fun e=>(f e.1,e.2) :=by rw[List.zip_map_left];rfl
 show ((st.1.map f).zip st.2).foldl _ ([],[])=_;rw[ez];exact this
theorem count_map {U:List κ}{f:κ->jc}(hf:∀a∈U,∀b∈U,f a=f b->a=b) {G:κ->List κ}{G':jc->List jc}(hG:∀k∈U,∀g∈G k,g∈U) (hc:∀k∈U,G' (f k)=(G k).map f) {s:κ}(hs:s∈U):∀m,fc G' (f s) m=gH f (fc G s m)
 |0=>rfl
 |m+1=>by
          show iW G' (fc G' (f s) m)=gH f (iW G (fc G s m));rw[count_map hf hG hc hs m];exact HQ hf hG hc (hZ hG hs m)
def aU (m:Nat) (es:List (Nat×Nat)):List Int:=(io m).map fun j=>(((es.map fun e=>if e.1=j+1 then e.2 else 0).sum:Nat):Int)
theorem p8 {m:Nat}{es:List (Nat×Nat)}{j:Nat}(h:j<m):(aU m es)[j]?=some (((es.map fun e=>if e.1=j+1 then e.2 else 0).sum:Nat):Int) :=by
 unfold aU;rw[bv,LG h];rfl
theorem pz {m:Nat}{es:List (Nat×Nat)}{j c:Nat}(h:j<m):(aU m es).set j ((((es.map fun e=>if e.1=j+1 then e.2 else 0).sum:Nat):Int)+(c:Int))=aU m (es++[(j+1,c)]) :=by
 refine Yo fun i=>?_
 rw[Pi];have hl:(aU m es).length=m :=by simp[aU]
 by_cases e:j=i
 ·subst e;rw[if_pos rfl,if_pos (by rw[hl];exact h),p8 h]
  simp[ZW]
 ·rw[if_neg e];unfold aU;rw[bv,bv];by_cases hi:i<m
  ·rw[LG hi];simp[ZW,e]
  ·rw[IF (by simpa using hi)]
   rfl
end
section
variable {P:en}{w:ii}{K:bn}{mg:br->Option am}{base:hX}{tb:cG}{C_NoNet:al}
theorem wg:aW ["net"] ["net"] (aj gb):=⟨rfl,rfl,rfl,by decide +kernel,rfl,by decide +kernel,by decide +kernel⟩
theorem qz:aW ["net"] ["net"] (aj j9):=⟨rfl,rfl,rfl,by decide +kernel,rfl,by decide +kernel,by decide +kernel⟩
theorem uv {ae:List (List Int)}{n:Nat}(O:bJ ae n) {s:List Int}(hs:ft ae.length s):fR (fu ae.length) (HP ae n s):=Fm (fun k hk a ha=>fj (pq O (iz hk) ha)) _ _ _ (mi (fj hs))
theorem UU (k:List Int):(kT k).map f9=k.map Dv.int :=by rw[kT,ma];rfl
theorem gA {m:Nat}(h:1<=m):ft m (aR m):=⟨fG m,fun p hp=>iU.mp hp,fun e=>by have:=sY m;rw[e]at this;simp at this;omega⟩
def CJ:cM:=fun ds M Q _=>∃ae n,ds=[eN ae]/\bJ ae n/\Q (eI (aR ae.length)) M
theorem wj {f:al}{fd:ln}(D:Df K mg "all_places" gb ["net"] f fd) (bl:Bl mg):FnOk P w K mg base bw 1 f fd ["net"] (bp P w K tb CJ) :=by
 refine eW D wg (fun ds M Q E hS=>by obtain⟨ae,n,e,_⟩:=hS;rw[e];rfl) fun A outer s E Γ ds Q' E' hP hw hK ht hr hS=>?_
 obtain⟨ae,n,e,O,q⟩:=hS;refine⟨_,(av (aS (n5 rfl rfl bl.tuple_ rfl bl.range_ (ay (cD (K:=K) rfl hK) rfl bl.len_ nw (aa (qv 0) af))))),?_⟩;subst e;have h9:=O.nine;simp! only[];exact⟨by omega,by omega,.inl q⟩
def allM (ae:List (List Int)) (n:Nat):List (List Int):=(HP ae n (aR ae.length)).1
theorem nK {ae:List (List Int)}{n:Nat}(O:bJ ae n):(allM ae n).length<=511:=sw (uv O (gA O.one)).le (mr O.nine)
theorem nL (ks:List (List Int)):(ks.map kT).map (fun k=>Dv.tup (k.map f9))=ks.map eI :=by
 rw[ma];exact DO fun k _=>by show Dv.tup ((kT k).map f9)=_;rw[UU]
def PJ:cM:=fun ds M Q _=>∃ae n,ds=[eN ae]/\bJ ae n/\∀a,M a=none->Q (.ptr a) (au M a (.lst ((allM ae n).map eI)))
def FW:cM:=fun ds M Q _=>∃ae n,ds=[eN ae]/\bJ ae n/\Q (.lst ((allM ae n).map eI)) M
theorem zO {f f1 f2 f3:al}{fd cI fd2 o9:ln}(D:Df K mg "sets_met" j9 ["net"] f fd)
  (dR:Df K mg "need_net" j8 ["thing"] f1 cI) (ke:FnOk P w K mg base (gL P w) 7 f1 cI ["thing"] (bp P w K tb (JB C_NoNet)))
  (cx:Df K mg "images_met" aJ ["net","places"] f2 fd2) (iX:FnOk P w K mg base bw 8 f2 fd2 ["net","places"] (bp P w K tb JF))
  (bE:Df K mg "all_places" gb ["net"] f3 o9) (d9:FnOk P w K mg base bw 1 f3 o9 ["net"] (bp P w K tb CJ)) (bl:Bl mg) :
  FnOk P w K mg base (gL P w) 9 f fd ["net"] (bp P w K tb PJ)/\FnOk P w K mg base (gL P w) 9 f fd ["net"] (bp P w K tb FW) :=by
 have big:(1000:Nat)<sizeLine :=by decide
 constructor
 ·refine sE D qz (fun ds M Q E ⟨ae,n,e,_⟩=>by rw[e];rfl) fun A outer s E Γ ds Q' E' hP hw hK ht hE hr hS=>?_
  obtain⟨ae,n,e,O,q⟩:=hS;refine⟨_,(ai (pO (aG ke (hr.mono (by decide)) rfl dR.mg dR.fn.kp dR.bd wA hP hw hK ht hE (aa (qv 0) af)))
  (av (aS (dU (yF rfl) rfl bl.list_ ik (aa (aG iX (hr.mono (by decide)) rfl cx.mg cx.fn.kp cx.bd bb hP hw hK ht XR.none (aa (qv 0) (aa (aG d9 (hr.mono (by decide)) rfl bE.mg bE.fn.kp bE.bd bb hP hw hK ht XR.none (aa (qv 0) af)) af))) af))))),?_⟩
  subst e;refine⟨_,rfl,AY ae,fun _=>?_,fun h=>by rw[AX O]at h;cases h⟩
  simp! only[];refine⟨ae,n,rfl,O,ae,n,_,rfl,O,gA O.one,?_⟩;simp! only[yR,nL];exact⟨by have:=nK O;show (allM ae n).length<=_;omega,fun a ha=>.inl (q a ha)⟩
 ·refine sE D qz (fun ds M Q E ⟨ae,n,e,_⟩=>by rw[e];rfl) fun A outer s E Γ ds Q' E' hP hw hK ht hE hr hS=>?_
  obtain⟨ae,n,e,O,q⟩:=hS;refine⟨_,(ai (pO (aG ke (hr.mono (by decide)) rfl dR.mg dR.fn.kp dR.bd wA hP hw hK ht hE (aa (qv 0) af)))
  (av (aS (dU (yF rfl) rfl bl.list_ ik (aa (aG iX (hr.mono (by decide)) rfl cx.mg cx.fn.kp cx.bd bb hP hw hK ht XR.none (aa (qv 0) (aa (aG d9 (hr.mono (by decide)) rfl bE.mg bE.fn.kp bE.bd bb hP hw hK ht XR.none (aa (qv 0) af)) af))) af))))),?_⟩
  subst e;refine⟨_,rfl,AY ae,fun _=>?_,fun h=>by rw[AX O]at h;cases h⟩
  simp! only[];refine⟨ae,n,rfl,O,ae,n,_,rfl,O,gA O.one,?_⟩;simp! only[yR,nL];refine⟨by have:=nK O;show (allM ae n).length<=_;omega,fun a ha=>EK (.upd ha .refl) ha updM_same (fun d hd=>?_) q⟩
  obtain⟨k,_,rfl⟩:=kt.mp hd;exact kZ k
end
section
theorem vP {κ:Type} [DecidableEq κ] {step:κ->Nat->κ}{k:κ}{w:br}{st:List κ×List br}:∀{n a:Nat},a<n->step k a∈(visit step k w n st).1
 |n+1,a,h=>by
          rw[iS];obtain⟨ks,ws,h1,_⟩:=vK step k w (visit step k w n st) n;by_cases e:a=n
          ·subst e;unfold jn;split
           ·assumption
           ·exact l3 _ (jp.mpr rfl)
          ·rw[h1];exact AN _ (vP (by omega))
theorem sZ {κ:Type} [DecidableEq κ] {step:κ->Nat->κ}{k:κ}{w:br}{st:List κ×List br}:∀{n:Nat}{x:κ},x∈(visit step k w n st).1->x∈st.1\/∃a,a<n/\x=step k a
 |0,x,h=>.inl h
 |n+1,x,h=>by
          rw[iS]at h;have h2:x∈(visit step k w n st).1\/x=step k n :=by
           unfold jn at h;split at h
           ·exact .inl h
           ·exact(zw.mp h).imp id jp.mp
          rcases h2 with h2|h2
          ·exact(sZ h2).imp id fun⟨a,ha,e⟩=>⟨a,by omega,e⟩
          ·exact .inr ⟨n,by omega,h2⟩
theorem uw {κ:Type} [DecidableEq κ] {U:List κ}{step:κ->Nat->κ}{n most:Nat}{R:κ->Prop}(hs:∀k∈U,∀a,a<n->step k a∈U) (hm:U.length<=most) (hR:∀k,R k->∀a,a<n->R (step k a)):∀(fuel i:Nat) (st:List κ×List br),fR U st->U.length<fuel+i->i<=st.1.length->
  (∀j k,st.1[j]?=some k->j<i->∀a,a<n->step k a∈st.1)->(∀k∈st.1,R k)->
  (∀k∈st.1,k∈(k9 step n most fuel i st).1)/\(∀k∈(k9 step n most fuel i st).1,R k/\∀a,a<n->step k a∈(k9 step n most fuel i st).1)
 |0,i,st,ok,hf,hi,hc,hr=>by have:=ok.le;omega
 |fuel+1,i,st,ok,hf,hi,hc,hr=>by
          have hle:=ok.le;have hlen:=ok.len;by_cases aQ:i<st.1.length
          ·have h1:=ap aQ;have h2:=ap (show i<st.2.length by omega)
           have qO:st.1[i]∈st.1:=wT aQ;rw[Fn h1 h2 (by omega)]
           obtain⟨ks,ws,g1,g2⟩:=j7 step st.1[i] (st.2[i]'(by omega)) n st
           have sub:∀x∈st.1,x∈(visit step st.1[i] (st.2[i]'(by omega)) n st).1:=fun x hx=>by rw[g1];exact AN _ hx
           obtain⟨r1,r2⟩:=uw hs hm hR fuel (i+1) (visit step st.1[i] (st.2[i]'(by omega)) n st) (ok.visit h2 fun a ha=>hs _ (ok.sub _ qO) a ha) (by omega) (by rw[g1,xz];omega) (fun j k hj XY a ha=>by
            rw[g1,AS (by omega)]at hj
            by_cases e:j=i
            ·subst e;rw[h1]at hj;cases hj;exact vP ha
            ·exact sub _ (hc j k hj (by omega) a ha)) (fun k hk=>by
            rcases sZ hk with z|⟨a,ha,rfl⟩
            ·exact hr k z
            ·exact hR _ (hr _ qO) a ha)
           exact⟨fun k hk=>r1 k (sub k hk),r2⟩
          ·have e:k9 step n most (fuel+1) i st=st :=by
            unfold k9;rw[IF (by omega)]
           rw[e];exact⟨fun k hk=>hk,fun k hk=>⟨hr k hk,fun a ha=>by
            obtain⟨j,hj⟩:=wv.mp hk;exact hc j k hj (by have:=(ce.mp hj).1;omega) a ha⟩⟩
end
section
variable {P:en}{w:ii}{K:bn}{mg:br->Option am}{base:hX}{tb:cG}
theorem rj:aW ["net"] ["net"] (aj eE):=⟨rfl,rfl,rfl,by decide +kernel,rfl,by decide +kernel,by decide +kernel⟩
theorem fe:aW ["words","goals","longer","places","many","goal"] ["words","goals"] (aj gT):=⟨rfl,rfl,rfl,by decide +kernel,rfl,by decide +kernel,by decide +kernel⟩
def gR (ae:List (List Int)) (n:Nat) (s:List Int):List (List Int):=(io n).map (fL ae s)
def iY (ae:List (List Int)) (n:Nat):Dv:=.dt ((allM ae n).map kT) ((allM ae n).map fun s=>.lst ((gR ae n s).map eI))
theorem iZ {ae:List (List Int)}{n:Nat}(O:bJ ae n):∀k∈allM ae n,∀g∈gR ae n k,g∈allM ae n :=by
 have hU:∀k∈fu ae.length,∀a,a<n->fL ae k a∈fu ae.length:=fun k hk a ha=>fj (pq O (iz hk) ha)
 obtain⟨r1,r2⟩:=uw (step:=fL ae) (n:=n) (most:=511) (R:=fun _=>True) hU (mr O.nine) (fun _ _ _ _=>trivial) ((fu ae.length).length+1) 0 ([aR ae.length],[""]) (mi (fj (gA O.one))) (by omega) (wp _) (fun j k _ h=>absurd h (YQ _)) (fun k hk=>trivial)
 intro k hk g hg;obtain⟨a,ha,rfl⟩:=kt.mp hg;exact(r2 k hk).2 a (rb.mp ha)
theorem pA {ae:List (List Int)}{n:Nat}(O:bJ ae n):aR ae.length∈allM ae n :=by
 have hU:∀k∈fu ae.length,∀a,a<n->fL ae k a∈fu ae.length:=fun k hk a ha=>fj (pq O (iz hk) ha)
 obtain⟨r1,r2⟩:=uw (step:=fL ae) (n:=n) (most:=511) (R:=fun _=>True) hU (mr O.nine) (fun _ _ _ _=>trivial) ((fu ae.length).length+1) 0 ([aR ae.length],[""]) (mi (fj (gA O.one))) (by omega) (wp _) (fun j k _ h=>absurd h (YQ _)) (fun k hk=>trivial)
 exact r1 _ (jp.mpr rfl)
theorem rl {ae:List (List Int)}{n:Nat}(O:bJ ae n) {s:List Int}(h:s∈allM ae n):ft ae.length s:=iz ((uv O (gA O.one)).sub s h)
theorem A7 {α:Type}{f:List Int->α}{q:List Int}:∀{ks:List (List Int)},look (ks.map kT) (ks.map f) (kT q)=if q∈ks then some (f q) else none
 | []=>by simp[look]
 |k::ks=>by
          show (if kT k=kT q then some (f k) else look (ks.map kT) (ks.map f) (kT q))=_
          rw[A7];by_cases e:k=q
          ·subst e;simp
          ·rw[if_neg fun z=>e (lr _ _ z)]
           simp[zn e]
theorem pB {κ α β:Type} [DecidableEq κ] {f:α->β}{x:κ}:∀{ks:List κ}{cs:List α},look ks (cs.map f) x=(look ks cs x).map f
 | [],_=>by simp[look]
 |_::_,[]=>by simp[look]
 |k::ks,c::cs=>by
          show (if k=x then some (f c) else look ks (cs.map f) x)=(if k=x then some c else look ks cs x).map f
          rw[pB];split<;>rfl
theorem pC {κ α β:Type} [DecidableEq κ] {f:α->β}{x:κ}{v:α}:∀{ks:List κ}{cs:List α},bO ks (cs.map f) x (f v)=(bO ks cs x v).map f
 | [],_=>by simp[bO]
 |_::_,[]=>by simp[bO]
 |k::ks,c::cs=>by
          show (if k=x then f v else f c)::bO ks (cs.map f) x (f v)=((if k=x then v else c)::bO ks cs x v).map f
          rw[pC,lw];split<;>rfl
theorem HR {st:Cs (List Int)}{k:List Int}{c:Nat}:putL (st.1.map kT) (kT k)=(fv st k c).1.map kT/\cO (st.1.map kT) (st.2.map fun c=>Dv.int (c:Nat)) (kT k) (.int ((((look st.1 st.2 k).getD 0:Nat):Int)+(c:Int)))=(fv st k c).2.map fun c=>Dv.int (c:Nat) :=by
 have hm:kT k∈st.1.map kT ↔ k∈st.1:=mF lr;have hv:Dv.int ((((look st.1 st.2 k).getD 0:Nat):Int)+(c:Int))=(fun c:Nat=>Dv.int (c:Nat)) ((look st.1 st.2 k).getD 0+c) :=by simp
 unfold fv putL cO;by_cases h:k∈st.1
 ·simp only[if_pos h,if_pos (hm.mpr h),true_and];rw[hv,mx _ (fun x _ e=>lr _ _ e),pC]
 ·simp only[if_neg h,if_neg fun z=>h (hm.mp z),u8,lw,Rs,true_and]
  rw[hv]
def yZ:cM:=fun ds M Q _=>∃ae n,ds=[eN ae]/\bJ ae n/\Q (iY ae n) M
theorem rn {f f1 f2:al}{fd cI fd2:ln}(D:Df K mg "goals_of_sets" eE ["net"] f fd)
  (gB:Df K mg "sets_met" j9 ["net"] f1 cI) (nM:FnOk P w K mg base (gL P w) 9 f1 cI ["net"] (bp P w K tb FW))
  (bD:Df K mg "sign_image" d7 ["net","places","at"] f2 fd2) (gf:FnOk P w K mg base bw 1 f2 fd2 ["net","places","at"] (bp P w K tb wJ)) (bl:Bl mg) :
  FnOk P w K mg base (gL P w) 10 f fd ["net"] (bp P w K tb yZ) :=by
 refine sE D rj (fun ds M Q E hS=>by obtain⟨ae,n,e,_⟩:=hS;rw[e];rfl) fun A outer s E Γ ds Q' E' hP hw hK ht hE hr hS=>?_
 obtain⟨ae,n,e,O,q⟩:=hS;refine⟨_,(av (aS (v8 hr.units (N':=["places","net"]) (tn:=1) (idx:=[0]) rfl (show cN ["net"] (aj eE) _ ["places","net"] 1 [0] from by decide +kernel) (jh (K:=K) rfl (aG nM (hr.mono (by decide)) rfl gB.mg gB.fn.kp gB.bd wA hP hw hK ht hE (aa (qv 0) af))) (fun _ _ _ _ _=>(aE (i:=0) (show wS [("places" : br),("net" : br)] from by decide +kernel) rfl (Ix rfl))) (fun _ _ _ _ _=>bS) (fun _ _ _ _ _=>(qv 0)) (fun _ _ _ _ _=>(bX (N':=["at","net","places"]) (tn:=1) (idx:=[1,0]) rfl (aD.rel (show aD ["places","net"] _ _ ["at","net","places"] 1 [1,0] from by decide +kernel)) (bM rfl bl.range_ (aa (ay (cD (K:=K) rfl hK) rfl bl.len_ nw (aa (bV (du (K:=K) rfl) (qv 1) aw (fun _ _=>rfl)) af)) af)) (fun _ _ _ _ _=>(aE (i:=0) (show wS [("at" : br),("net" : br),("places" : br)] from by decide +kernel) rfl (li rfl))) (fun _ _ _ _ _=>bS) (fun _ _ _ _ _=>(aG gf (hr.mono (by decide)) rfl bD.mg bD.fn.kp bD.bd bb hP hw hK ht XR.none (aa (qv 1) (aa (qv 2) (aa (qv 0) af)))))))))),?_⟩
 subst e;simp! only[];refine⟨ae,n,rfl,O,?_⟩;simp! only[];have big:(1000:Nat)<sizeLine :=by decide
 have PK:=nK O;have W6:=(uv O (gA O.one)).nd;have h9:=O.nine;have h1:=O.one;have JG:=O.wid;have vm:(0:Int)∈dB ae:=bg.mpr ⟨by omega,by omega⟩
 have sT:(ae.getD 0 []).length=n :=by
  rw[getD_at (by omega)]
  exact(O.row _ (wT _)).1
 refine Fv (fun i ks es τ M=>(∃x,τ=[x,some (eN ae)])/\M=Γ.M0/\ks=((allM ae n).take i).map kT/\es=((allM ae n).take i).map fun s=>.lst ((gR ae n s).map eI)) (i:=0) ⟨⟨_,rfl⟩,rfl,rfl,rfl⟩ (fun i d ks es τ M hd hI R hR=>?_) fun ks es τ M hI=>?_
 ·obtain⟨⟨x,rfl⟩,rfl,rfl,rfl⟩:=hI;obtain⟨p,hp,rfl⟩:=oR hd;have W7:=cr hp;have hl:((allM ae n).take i).length<=511:=sw (List.length_take_le' ..) PK;have hs:(allM ae n).take (i+1)=(allM ae n).take i++[p] :=by rw[JJ,hp];rfl
  have Gy:kT p ∉ ((allM ae n).take i).map kT:=fun h=>by
   obtain⟨q',hq,e⟩:=kt.mp h;have e:=lr _ _ e;subst e;have hn:=(List.take_sublist (i+1) (allM ae n)).nodup W6;rw[hs,NJ]at hn;exact hn.2.2 q' hq q' (jp.mpr rfl) rfl
  obtain⟨p1,p2⟩:=ug (k:=kT p) (d:=Dv.lst ((gR ae n p).map eI)) (ds:=((allM ae n).take i).map fun s=>Dv.lst ((gR ae n s).map eI)) Gy
  simp! only[js,YW]at hR ⊢;have e0:dj (ae.map eI) 0=some (eI (ae.getD 0 [])) :=by have:=ly vm;simpa using this
  simp! only[e0];rw[sT];refine⟨by omega,by omega,by omega,gr (fun d=>match d with | .int a=>eI (fL ae p a.toNat)|d=>d) (fun τ M=>(∃x,τ=[x,some (eN ae),some (eI p)])/\M=Γ.M0) ⟨⟨_,rfl⟩,rfl⟩ (fun d hd2 τ M hJ R2 kk=>?_) (fun τ M hJ=>?_)⟩
  ·obtain⟨⟨x,rfl⟩,rfl⟩:=hJ;obtain⟨a,ha⟩:=wv.mp hd2;obtain⟨rfl,FO⟩:=cU ha;simp! only[];have kk:=kk [some (.int (a:Nat)),some (eN ae),some (eI p)] Γ.M0 ⟨⟨_,rfl⟩,rfl⟩;simp only[IN,kw]at kk;exact⟨ae,n,p,a,rfl,O,rl O W7,FO,kk⟩
  ·obtain⟨⟨x,rfl⟩,rfl⟩:=hJ;have er:(cw 0 n).map (fun d=>match d with | .int a=>eI (fL ae p a.toNat)|d=>d)=(gR ae n p).map eI :=by
    unfold cw gR;rw[ma,ma];refine DO fun i _=>?_
    show eI (fL ae p (0+(i:Int)).toNat)=_;rw[IN,kw];rfl
   rw[er,p1,p2];refine⟨by omega,hR _ _ _ _ ⟨⟨_,rfl⟩,rfl,?_,?_⟩⟩
   ·rw[hs,u8];rfl
   ·rw[hs,u8];rfl
 ·obtain⟨⟨x,rfl⟩,rfl,rfl,rfl⟩:=hI;simp only[YW,ca,Db];intro a ha;refine .inr ⟨show Keeps Γ.M0 _ from .upd ha .refl,iY ae n,.dt ha updM_same rfl fun j d d' e1 e2=>?_,q⟩
  rw[e1]at e2;cases e2;obtain⟨s,_,rfl⟩:=kt.mp (cr e1);refine .pin (.lst fun d hd=>?_)
  obtain⟨k,_,rfl⟩:=kt.mp hd;exact kZ k
def nN (st:Cs (List Int)):Dv:=.dt (st.1.map kT) (st.2.map fun c=>.int (c:Nat))
def FX:cM:=fun ds M Q _=>∃ae n st,ds=[nN st,iY ae n]/\bJ ae n/\dF (allM ae n) st/\Q (nN (iW (gR ae n) st)) M
theorem PL {ae:List (List Int)}{n:Nat}(O:bJ ae n) {st:Cs (List Int)}(o:dF (allM ae n) st):st.1.length<=511:=sw (fF _ _ o.nd o.sub) (nK O)
theorem ux {f:al}{fd:ln}(D:Df K mg "one_sign_on" gT ["words","goals"] f fd) (bl:Bl mg) :
  FnOk P w K mg base bw 1 f fd ["words","goals"] (bp P w K tb FX) :=by
 refine eW D fe (fun ds M Q E hS=>by obtain⟨ae,n,st,e,_⟩:=hS;rw[e];rfl) fun A outer s E Γ ds Q' E' hP hw hK ht hr hS=>?_
 obtain⟨ae,n,st,e,O,o,q⟩:=hS;refine⟨_,(ai (aK (i:=2) fe.nd rfl (li rfl) Hs)
  (ai (dH v6 rfl (yC (qv 0)) (fun jQ eP ew eK et=>by have hP:=hP.trans eP.symm;have hw:=hw.trans ew.symm;have hK:=hK.trans eK.symm;have ht:=ht.trans et.symm;exact⟨(oM (n:=2) rfl (eJ (aE (i:=3) fe.nd rfl (li rfl)) (eJ (aE (i:=4) fe.nd rfl (li rfl)) mU))),(av (dH v6 rfl (jh (K:=K) rfl (mY hr.units (qv 1) (qv 3) (fun _ _=>rfl))) (fun jQ eP ew eK et=>by have hP:=hP.trans eP.symm;have hw:=hw.trans ew.symm;have hK:=hK.trans eK.symm;have ht:=ht.trans et.symm;exact⟨(aE (i:=5) fe.nd rfl (li rfl)),(av (pT hr.units (qv 2) (qv 5) (aP fQ (Fx (K:=K) Yi Na PySem.F.type_dict_get (EX hr.units) (qv 2) (aa (qv 5) (aa aw af))) (qv 4))))⟩)))⟩))
  (av (aS (qv 2))))),?_⟩
 subst e;have big:(1000:Nat)<sizeLine :=by decide
 obtain⟨es,fZ⟩:∃es,es=st.1.zip st.2:=⟨_,rfl⟩;have PN:∀e∈es,e.1∈allM ae n:=fun e he=>o.sub _ (GS (by rw[<- fZ];exact he)).1
 have go:∀i,dF (allM ae n) ((es.take i).foldl (fun acc e=>da (gR ae n e.1) e.2 acc) ([],[])):=fun i=>
  (p0 (fun _=>0) (iZ O) (es.take i) (acc:=([],[])) (fun e he=>PN e (Y0 he)) ⟨rfl,Os,fun _ h=>nomatch h⟩).1
 simp! only[];intro a ha;unfold nN;simp! only[nL];refine bN (fun i ρ M=>(∃x3 x4 x5,ρ=[some (nN st),some (iY ae n),some (.ptr a),x3,x4,x5])/\∃acc:Cs (List Int),acc=(es.take i).foldl (fun acc e=>da (gR ae n e.1) e.2 acc) ([],[])/\M=au Γ.M0 a (.dt (acc.1.map kT) (acc.2.map fun c=>.int (c:Nat)))) ⟨⟨_,_,_,rfl⟩,([],[]),rfl,rfl⟩ (fun i d ρ M N hd hJ hN=>?_) (fun ρ M hJ=>?_)
 ·obtain⟨⟨x3,x4,x5,rfl⟩,acc,eV,rfl⟩:=hJ;obtain⟨x,y,rfl,hx,hy⟩:=lY hd;rw[bv]at hx hy;obtain⟨k,hk,rfl⟩:=i0.mp hx;obtain⟨c,hc,rfl⟩:=i0.mp hy;have n6:es[i]?=some (k,c) :=by rw[fZ,ss];exact⟨hk,hc⟩
  have Th:=o.sub k (cr hk);have CK:(es.take (i+1)).foldl (fun acc e=>da (gR ae n e.1) e.2 acc) ([],[])=da (gR ae n k) c acc :=by
   rw[JJ,n6,GG,<- eV];rfl
  have oa:=go i;rw[<- eV]at oa;refine⟨rfl,?_⟩;dsimp only[zgCons,zgName,zgNil,Uf,UF];simp! only[iY,js,A7,if_pos Th];refine bN (fun j ρ M=>(∃x5,ρ=[some (nN st),some (iY ae n),some (.ptr a),some (eI k),some (.int (c:Nat)),x5])/\∃ac:Cs (List Int),ac=da ((gR ae n k).take j) c acc/\dF (allM ae n) ac/\M=au Γ.M0 a (.dt (ac.1.map kT) (ac.2.map fun c=>.int (c:Nat)))) ⟨⟨_,rfl⟩,acc,rfl,oa,rfl⟩ (fun j d ρ M N' hd hJ vQ=>?_) (fun ρ M hJ=>?_)
  ·obtain⟨⟨x5,rfl⟩,ac,pD,vR,rfl⟩:=hJ;obtain⟨g,hg,rfl⟩:=oR hd;have PQ:=iZ O k Th g (cr hg);have PK:=PL O vR;simp! only[js,updM_same];have el:(look (ac.1.map kT) (ac.2.map fun c=>Dv.int (c:Nat)) (kT g)).getD (.int 0)=.int (((look ac.1 ac.2 g).getD 0:Nat)) :=by
    rw[mw (fun x _ e=>lr _ _ e),pB]
    cases look ac.1 ac.2 g<;>rfl
   rw[el];have ep:=HR (st:=ac) (k:=g) (c:=c);refine⟨by omega,vQ _ _ ⟨⟨_,rfl⟩,fv ac g c,by rw[JJ,hg];unfold da at pD ⊢;rw[GG,<- pD];rfl,vR.add PQ c,?_⟩⟩
   rw[<- ep.1,<- ep.2]
  ·obtain⟨⟨x5,rfl⟩,ac,pD,vR,rfl⟩:=hJ;rw[ca,Db]at pD;exact hN _ _ ⟨⟨_,_,_,rfl⟩,ac,by rw[CK,pD],rfl⟩
 ·obtain⟨⟨x3,x4,x5,rfl⟩,acc,eV,rfl⟩:=hJ;have fP:es.length=(cg (st.1.map eI) (st.2.map fun c=>Dv.int (c:Nat))).length :=by rw[fZ,pairsD_len];simp
  rw[<- fP,Db]at eV;have ea:acc=iW (gR ae n) st :=by rw[eV,fZ];rfl
  have kp:Keeps Γ.M0 (au Γ.M0 a (.dt (acc.1.map kT) (acc.2.map fun c=>.int (c:Nat)))):=.upd ha .refl
  simp! only[];refine .inr ⟨kp,nN acc,.dt ha updM_same rfl fun j d d' e1 e2=>?_,by rw[ea];exact q⟩
  rw[e1]at e2;cases e2;obtain⟨s,_,rfl⟩:=kt.mp (cr e1);exact .pin (.int _)
theorem eF:aW ["net","m","goals","words","turn","told","places","many"] ["net","m"] (aj mn):=⟨rfl,rfl,rfl,by decide +kernel,rfl,by decide +kernel,by decide +kernel⟩
def nO (st:Cs (List Int)):List (Nat×Nat):=(st.1.zip st.2).map fun e=>(e.1.length,e.2)
def mG (ae:List (List Int)) (n m:Nat):Cs (List Int):=fc (gR ae n) (aR ae.length) m
def y0:cM:=fun ds M Q _=>∃(ae:List (List Int)) (n m:Nat),ds=[eN ae,.int (m:Nat)]/\bJ ae n/\m<=100/\Q (.tup ((aU ae.length (nO (mG ae n m))).map Dv.int)) M
theorem CL {f f1 f2 f3:al}{fd cI fd2 o9:ln}(D:Df K mg "counted" mn ["net","m"] f fd)
  (dC:Df K mg "goals_of_sets" eE ["net"] f1 cI) (tj:FnOk P w K mg base (gL P w) 10 f1 cI ["net"] (bp P w K tb yZ))
  (bE:Df K mg "all_places" gb ["net"] f2 fd2) (d9:FnOk P w K mg base bw 1 f2 fd2 ["net"] (bp P w K tb CJ))
  (eu:Df K mg "one_sign_on" gT ["words","goals"] f3 o9) (wk:FnOk P w K mg base bw 1 f3 o9 ["words","goals"] (bp P w K tb FX)) (bl:Bl mg) :
  FnOk P w K mg base (gL P w) 11 f fd ["net","m"] (bp P w K tb y0) :=by
 refine sE D eF (fun ds M Q E hS=>by obtain⟨ae,n,m,e,_⟩:=hS;rw[e];rfl) fun A outer s E Γ ds Q' E' hP hw hK ht hE hr hS=>?_
 obtain⟨ae,n,m,e,O,hm,q⟩:=hS;refine⟨_,(ai (aK (i:=2) eF.nd rfl (li rfl) (aG tj (hr.mono (by decide)) rfl dC.mg dC.fn.kp dC.bd wA hP hw hK ht hE (aa (qv 0) af)))
  (ai (aK (i:=3) eF.nd rfl (li rfl) (vE hr.units (aG d9 (hr.mono (by decide)) rfl bE.mg bE.fn.kp bE.bd bb hP hw hK ht XR.none (aa (qv 0) af)) aw))
  (ai (PS.km (K2 3 rfl (dH v6 rfl (bM rfl bl.range_ (aa (qv 1) af)) (fun jQ eP ew eK et=>by have hP:=hP.trans eP.symm;have hw:=hw.trans ew.symm;have hK:=hK.trans eK.symm;have ht:=ht.trans et.symm;exact⟨(aE (i:=4) eF.nd rfl (li rfl)),(av (aK (i:=3) eF.nd rfl (li rfl) (aG wk (hr.mono (by decide)) rfl eu.mg eu.fn.kp eu.bd bb hP hw hK ht XR.none (aa (qv 3) (aa (qv 2) af)))))⟩))))
  (ai (aK (i:=5) eF.nd rfl (li rfl) (aP Pa (sx (aa aw af)) (ay (cD (K:=K) rfl hK) rfl bl.len_ nw (aa (qv 0) af))))
  (ai (PS.km (dH v6 rfl (yC (qv 3)) (fun jQ eP ew eK et=>by have hP:=hP.trans eP.symm;have hw:=hw.trans ew.symm;have hK:=hK.trans eK.symm;have ht:=ht.trans et.symm;exact⟨(oM (n:=2) rfl (eJ (aE (i:=6) eF.nd rfl (li rfl)) (eJ (aE (i:=7) eF.nd rfl (li rfl)) mU))),(av (K3 (qv 5) (aP nu (ay (cD (K:=K) rfl hK) rfl bl.len_ nw (aa (qv 6) af)) aw) (qv 7) L9))⟩)))
  (av (aS (dU (ji (K:=K) rfl) rfl bl.tuple_ ck (aa (qv 5) af))))))))),?_⟩
 subst e;have big:(1000:Nat)<sizeLine :=by decide
 simp! only[];refine⟨ae,n,rfl,O,ae,n,rfl,O,?_⟩;simp! only[js];intro a ha;have dm:aN (au Γ.M0 a (.dt [kT (aR ae.length)] [Dv.int 1])) a=Γ.M0:=sJ ha;have o0:=hZ (iZ O) (pA O);have h9:=O.nine;have pg:∀M,Pin M (iY ae n):=fun M=>.dt fun d hd=>by
  obtain⟨s,_,rfl⟩:=kt.mp hd;exact .lst fun d hd=>by obtain⟨k,_,rfl⟩:=kt.mp hd;exact kZ k
 refine .inr ⟨a,_,_,rfl,updM_same,ha,⟨fun j d e=>?_,fun c o e=>by rw[dm]at e;exact .inl e⟩,?_⟩
 ·match j,e with
  |0,e=>cases e;exact oQ ae
  |1,e=>cases e;exact .int _
  |2,e=>cases e;exact pg _
  |3,e=>cases e;exact .dt fun d hd=>by rw[jp.mp hd];exact .int _
  |4,e=>exact nomatch e
  |5,e=>exact nomatch e
  |6,e=>exact nomatch e
  |7,e=>exact nomatch e
  |j+8,e=>exact nomatch e
 ·rw[dm];simp! only[];refine⟨by omega,by omega,?_⟩
  refine bN (fun i ρ M=>(∃x4,ρ=[some (eN ae),some (.int (m:Nat)),some (iY ae n),some (nN (mG ae n i)),x4,none,none,none])/\M=Γ.M0) ⟨⟨_,rfl⟩,rfl⟩ (fun i d ρ M N hd hJ hN=>?_) (fun ρ M hJ=>?_)
  ·obtain⟨⟨x4,rfl⟩,rfl⟩:=hJ;simp! only[];exact⟨ae,n,_,rfl,O,o0 i,hN _ _ ⟨⟨_,rfl⟩,rfl⟩⟩
  ·obtain⟨⟨x4,rfl⟩,rfl⟩:=hJ;rw[rangeD_len];obtain⟨st,fM⟩:∃st,st=mG ae n m:=⟨_,rfl⟩;have pE:dF (allM ae n) st :=by rw[fM];exact o0 m
   rw[<- fM]at q ⊢;simp! only[];refine⟨by omega,⟨by omega,by omega,by omega⟩,fun b hb=>?_⟩
   obtain⟨es,fZ⟩:∃es,es=nO st:=⟨_,rfl⟩;have e0:(mo ae.length [Dv.int 0]).flatten=(aU ae.length []).map Dv.int :=by
    unfold aU;rw[ma,List.flatten_replicate_singleton];refine YD (by simp) fun i h1 h2=>?_
    simp
   unfold nN;simp! only[nL];rw[e0];refine bN (fun i ρ M=>(∃x6 x7,ρ=[some (eN ae),some (.int (m:Nat)),some (iY ae n),some (nN st),x4,some (.ptr b),x6,x7])/\M=au Γ.M0 b (.lst ((aU ae.length (es.take i)).map Dv.int))) ⟨⟨_,_,rfl⟩,rfl⟩ (fun i d ρ M N hd hJ hN=>?_) (fun ρ M hJ=>?_)
   ·obtain⟨⟨x6,x7,rfl⟩,rfl⟩:=hJ;obtain⟨x,y,rfl,hx,hy⟩:=lY hd;rw[bv]at hx hy;obtain⟨k,hk,rfl⟩:=i0.mp hx;obtain⟨c,hc,rfl⟩:=i0.mp hy;have n6:es[i]?=some (k.length,c) :=by
     rw[fZ];unfold nO;rw[bv,show (st.1.zip st.2)[i]?=some (k,c) from ss.mpr ⟨hk,hc⟩];rfl
    have vT:=rl O (pE.sub k (cr hk));have Ti:=vT.len;have Tj:1<=k.length :=by
     cases k with
     |nil=>exact absurd rfl vT.ne
     |cons _ _=>simp
    obtain⟨j,hj⟩:∃j,k.length=j+1:=⟨k.length - 1,by omega⟩
    have vU:j<ae.length :=by omega
    refine⟨rfl,?_⟩;dsimp only[zgCons,zgName,zgNil,Uf,UF];have ej:((k.length:Nat):Int) - 1=(j:Nat) :=by omega
    have iL:((aU ae.length (es.take i)).map Dv.int)[j]?=some (.int ((((es.take i).map fun e=>if e.1=j+1 then e.2 else 0).sum:Nat):Int)) :=by
     rw[bv,p8 vU];rfl
    have qw:(aU ae.length (es.take i)).length=ae.length :=by simp[aU]
    simp! only[ej,kw,iL];have ex:fN (aU ae.length (es.take i)).length (j:Int)=some j :=by
     unfold fN;rw[qw,if_pos (by omega),if_pos (by omega),kw]
    rw[ex];refine⟨by omega,hN _ _ ⟨⟨_,_,rfl⟩,?_⟩⟩
    rw[JJ,n6,hj];show _=au Γ.M0 b (.lst ((aU ae.length (es.take i++[(j+1,c)])).map Dv.int));rw[<- pz vU,YY]
   ·obtain⟨⟨x6,x7,rfl⟩,rfl⟩:=hJ;have fP:es.length=(cg (st.1.map eI) (st.2.map fun c=>Dv.int (c:Nat))).length :=by rw[fZ,pairsD_len];unfold nO;simp
    rw[<- fP,Db,fZ];simp! only[];exact jP (.upd hb .refl) (kZ _) q
end
def rq (bits:Int) (p:Int):Bool:=decide (Y6 (bits / 2 ^ p.toNat) 1=1)
theorem HS {bits:Int}{p:Nat}(h:0<=bits):rq bits (p:Nat)=true ↔ (bits / 2 ^ p) % 2=1 :=by
 unfold rq;have h0:0<=bits / 2 ^ p:=Int.ediv_nonneg h (Int.le_of_lt (Int.pow_pos (by decide)))
 rw[kw,bitAnd_pp h0 (by decide),decide_eq_true_iff]
 have e:((bits / 2 ^ p).toNat &&& (1:Int).toNat:Nat)=(bits / 2 ^ p).toNat % 2:=Nat.and_one_is_mod _;rw[e];constructor<;>intro z<;>omega
def wL (m:Nat) (bits:Int):List Int:=(aR m).filter (rq bits)
def HU (bits:Int):Dv->Bool | .int p=>rq bits p|_=>false
theorem HV (m:Nat) (bits:Int):(cw 0 m).filter (HU bits)=(wL m bits).map Dv.int :=by
 have e:cw 0 m=(aR m).map Dv.int :=by
  unfold cw aR;rw[ma];exact DO fun i _=>by show Dv.int _=Dv.int _;rw[IN]
 rw[e,List.filter_map];rfl
section
theorem rA (b p:Nat):rq (b:Nat) (p:Nat)=b.testBit p :=by
 rw[Pc,HS (by omega),Nat.testBit_eq_decide_div_mod_eq,decide_eq_true_eq]
 have:((b:Int) / 2 ^ p) % 2=((b / 2 ^ p % 2:Nat):Int) :=by simp
 rw[this];omega
def vV (ae:List (List Int)) (k:Nat) (ps:List Nat) (acc:Nat):Nat:=ps.foldl (fun acc p=>acc ||| 2 ^ (dQ ae (p:Nat) k).toNat) acc
def tm (ae:List (List Int)) (k b:Nat):Nat:=vV ae k ((io ae.length).filter fun p=>b.testBit p) 0
theorem A8 (ae:List (List Int)) (k q:Nat):∀(ps:List Nat) (acc:Nat),(vV ae k ps acc).testBit q=true ↔ acc.testBit q=true\/∃p∈ps,(dQ ae (p:Nat) k).toNat=q
 | [],acc=>by simp[vV]
 |p::ps,acc=>by
          show (vV ae k ps (acc ||| 2 ^ (dQ ae (p:Nat) k).toNat)).testBit q=true ↔ _
          rw[A8 ae k q ps,Nat.testBit_or,ZQ,Nat.testBit_two_pow,decide_eq_true_eq];simp only[im,exists_eq_or_imp];rw[or_assoc]
theorem uy {ae:List (List Int)}{k b q:Nat}:(tm ae k b).testBit q=true ↔ ∃p,p<ae.length/\b.testBit p=true/\(dQ ae (p:Nat) k).toNat=q :=by
 unfold tm;rw[A8];constructor
 ·rintro (h|⟨p,hp,e⟩)
  ·simp at h
  ·obtain⟨h1,h2⟩:=Nl.mp hp;exact⟨p,rb.mp h1,h2,e⟩
 ·rintro⟨p,h1,h2,e⟩;exact .inr ⟨p,Nl.mpr ⟨rb.mpr h1,h2⟩,e⟩
theorem PR {ae:List (List Int)}{n k b:Nat}(O:bJ ae n) (hk:k<n):tm ae k b<2 ^ ae.length :=by
 refine Nat.lt_pow_two_of_testBit _ fun i hi=>?_
 rw[Bool.eq_false_iff];intro h;obtain⟨p,h1,_,e⟩:=uy.mp h;have:=bg.mp (lx O (bg.mpr ⟨by omega,by omega⟩:((p:Nat):Int)∈dB ae) hk)
 omega
def setB (m b:Nat):List Int:=wL m (b:Nat)
theorem jv {m b:Nat}{p:Int}:p∈setB m b ↔ 0<=p/\p<(m:Int)/\b.testBit p.toNat=true :=by
 unfold setB wL;rw[Nl,iU];constructor
 ·rintro⟨⟨h0,h1⟩,h2⟩;obtain⟨q,rfl⟩:=At h0;rw[rA]at h2;exact⟨h0,h1,h2⟩
 ·rintro⟨h0,h1,h2⟩;obtain⟨q,rfl⟩:=At h0;exact⟨⟨h0,h1⟩,by rw[rA];exact h2⟩
theorem qA (m b:Nat):(setB m b).Pairwise (· < ·):=Yx.filter _ (fG m)
theorem HW {ae:List (List Int)}{n k b:Nat}(O:bJ ae n) (hk:k<n):setB ae.length (tm ae k b)=fL ae (setB ae.length b) k :=by
 refine nJ (qA _ _) (qy _) fun q=>?_
 unfold fL;rw[jv,rg,kt];constructor
 ·rintro⟨h0,h1,h2⟩;obtain⟨p,hp,hb,e⟩:=uy.mp h2;have hs:=bg.mp (lx O (bg.mpr ⟨by omega,by omega⟩:((p:Nat):Int)∈dB ae) hk)
  exact⟨(p:Nat),jv.mpr ⟨by omega,by omega,hb⟩,by omega⟩
 ·rintro⟨p,hp,rfl⟩;obtain⟨h0,h1,h2⟩:=jv.mp hp;obtain⟨p,rfl⟩:=At h0;have hs:=bg.mp (lx O (bg.mpr ⟨by omega,by omega⟩:((p:Nat):Int)∈dB ae) hk)
  exact⟨hs.1,hs.2,uy.mpr ⟨p,by omega,h2,rfl⟩⟩
theorem HX {m:Nat}:∀a∈io (2 ^ m),∀b∈io (2 ^ m),setB m a=setB m b->a=b:=fun a ha b hb e=>by
 refine Nat.eq_of_testBit_eq fun i=>?_
 by_cases hi:i<m
 ·have h:((i:Nat):Int)∈setB m a ↔ ((i:Nat):Int)∈setB m b :=by rw[e]
  rw[jv,jv]at h;rw[Pc];constructor
  ·intro h2;exact(h.mp ⟨by omega,by omega,h2⟩).2.2
  ·intro h2;exact(h.mpr ⟨by omega,by omega,h2⟩).2.2
 ·have big:2 ^ m<=2 ^ i:=X5 (by decide) (by omega)
  rw[Nat.testBit_lt_two_pow (lc (rb.mp ha) big),Nat.testBit_lt_two_pow (lc (rb.mp hb) big)]
theorem HY (m:Nat):setB m (2 ^ m - 1)=aR m :=by
 refine nJ (qA _ _) (fG _) fun q=>?_
 rw[jv,iU];constructor
 ·rintro⟨h0,h1,_⟩;exact⟨h0,h1⟩
 ·rintro⟨h0,h1⟩;refine⟨h0,h1,?_⟩;rw[Nat.testBit_two_pow_sub_one,decide_eq_true_eq];omega
def jY (ae:List (List Int)) (n b:Nat):List Nat:=(io n).map fun k=>tm ae k b
theorem kf {ae:List (List Int)}{n:Nat}(O:bJ ae n):∀b∈io (2 ^ ae.length),∀g∈jY ae n b,g∈io (2 ^ ae.length):=fun b _ g hg=>by
 obtain⟨k,hk,rfl⟩:=kt.mp hg;exact rb.mpr (PR O (rb.mp hk))
def lz (ae:List (List Int)) (n m:Nat):Cs Nat:=fc (jY ae n) (2 ^ ae.length - 1) m
theorem A9 {ae:List (List Int)}{n:Nat}(O:bJ ae n) (m:Nat):dF (io (2 ^ ae.length)) (lz ae n m):=hZ (kf O) (rb.mpr (by have:=Nat.pow_pos (n:=ae.length) (show 0<2 by decide);omega)) m
theorem y1 {ae:List (List Int)}{n:Nat}(O:bJ ae n) (m:Nat):mG ae n m=gH (setB ae.length) (lz ae n m) :=by
 unfold mG lz;rw[<- HY ae.length];exact count_map HX (kf O) (fun b hb=>by
  unfold gR jY;rw[ma];exact DO fun k hk=>(HW O (rb.mp hk)).symm) (rb.mpr (by have:=Nat.pow_pos (n:=ae.length) (show 0<2 by decide);omega)) m
def uz (m:Nat) (st:Cs Nat):List (Nat×Nat):=(st.1.zip st.2).map fun e=>((setB m e.1).length,e.2)
theorem y2 {ae:List (List Int)}{n:Nat}(O:bJ ae n) (m:Nat):nO (mG ae n m)=uz ae.length (lz ae n m) :=by
 rw[y1 O];unfold nO uz gH;simp only;rw[List.zip_map_left,ma];rfl
end
section
variable {P:en}{w:ii}{K:bn}{mg:br->Option am}{base:hX}{tb:cG}
theorem fw:aW ["_law_net_here","_law_bits","_law_k","_law_found","_law_place"] ["_law_net_here","_law_bits","_law_k"] (aj fS):=⟨rfl,rfl,rfl,by decide +kernel,rfl,by decide +kernel,by decide +kernel⟩
theorem bF:aW ["_law_net_here","_law_m","_law_counts","_law_followers","_law_turn","_law_ahead","_law_bits","_law_there","_law_found","_law_size"] ["_law_net_here","_law_m"] (aj c9):=⟨rfl,rfl,rfl,by decide +kernel,rfl,by decide +kernel,by decide +kernel⟩
theorem FY:∀(n a b:Nat),a<n->(a &&& b)+(a ||| b)=a+b
 |0,_,_,h=>absurd h (YQ _)
 |n+1,a,b,h=>by
          by_cases h0:a=0
          ·subst h0;simp
          have ih:=FY n (a / 2) (b / 2) (by omega)
          have m1:=@Nat.and_mod_two_eq_one a b;have m2:=@Nat.or_mod_two_eq_one a b;have e1:=@Nat.and_div_two a b;have e2:=@Nat.or_div_two a b;generalize a / 2 &&& b / 2=u at ih e1
          generalize a / 2 ||| b / 2=v at ih e2
          generalize a &&& b=x at m1 e1 ⊢
          generalize a ||| b=y at m2 e2 ⊢
          omega
theorem UW {X:Cx}{Γ:Gz}:eC Γ X (binaryOp .BitOr) (zII fun i j=>.int (Zm i j)):=⟨_,QK,kU fun _ _ _ _ _=>.int _⟩
theorem PU (a b:Nat):Zm (a:Nat) (b:Nat)=((a ||| b:Nat):Int) :=by
 have h:=FY (a+1) a b (Da _);rw[bitOr_and,bitAnd_pp (by omega) (by omega)]
 simp only[kw];omega
def y3:cM:=fun ds M Q _=>∃(ae:List (List Int)) (n b k:Nat),ds=[eN ae,.int (b:Nat),.int (k:Nat)]/\bJ ae n/\b<2 ^ ae.length/\k<n/\Q (.int (tm ae k b:Nat)) M
theorem tq {f:al}{fd:ln}(D:Df K mg "_law_bits_led" fS ["_law_net_here","_law_bits","_law_k"] f fd) (bl:Bl mg):FnOk P w K mg base bw 1 f fd ["_law_net_here","_law_bits","_law_k"] (bp P w K tb y3) :=by
 refine eW D fw (fun ds M Q E hS=>by obtain⟨ae,n,b,k,e,_⟩:=hS;rw[e];rfl) fun A outer s E Γ ds Q' E' hP hw hK ht hr hS=>?_
 obtain⟨ae,n,b,k,e,O,hb,hk,q⟩:=hS;refine⟨_,(ai (aK (i:=3) fw.nd rfl (li rfl) aw)
  (ai (dH v6 rfl (bM rfl bl.range_ (aa (ay (cD (K:=K) rfl hK) rfl bl.len_ nw (aa (qv 0) af)) af)) (fun jQ eP ew eK et=>by have hP:=hP.trans eP.symm;have hw:=hw.trans ew.symm;have hK:=hK.trans eK.symm;have ht:=ht.trans et.symm;exact⟨(aE (i:=4) fw.nd rfl (li rfl)),(av (cq (bC jU (aP Jr (aP Jq (qv 1) (qv 4)) aw) aw (bt _))
   (av (aK (i:=3) fw.nd rfl (li rfl) (aP UW (qv 3) (aP Jp aw (bV (du (K:=K) rfl) (bV (du (K:=K) rfl) (qv 0) (qv 4) (fun _ _=>rfl)) (qv 2) (fun _ _=>rfl))))))
   qss_nil))⟩))
  (av (aS (qv 3))))),?_⟩
 subst e;have h9:=O.nine;simp! only[];refine⟨by omega,by omega,?_⟩
 refine bN (fun i ρ M=>(∃x4,ρ=[some (eN ae),some (.int (b:Nat)),some (.int (k:Nat)),some (.int ((vV ae k ((io i).filter fun p=>b.testBit p) 0:Nat))),x4])/\M=Γ.M0) ⟨⟨_,rfl⟩,rfl⟩ (fun i d ρ M N hd hJ hN=>?_) (fun ρ M hJ=>?_)
 ·obtain⟨⟨x4,rfl⟩,rfl⟩:=hJ;obtain⟨rfl,hi⟩:=cU hd;have PV:((i:Nat):Int)∈dB ae:=bg.mpr ⟨by omega,by omega⟩
  have fM:=bg.mp (lx O PV hk);have eb:decide (Y6 ((b:Int) / 2 ^ i) 1=1)=b.testBit i :=by rw[<- rA];unfold rq;rw[kw]
  have ri:=yU O PV hk;rw[kw]at ri;simp! only[ly PV,ri,eb];refine⟨by omega,?_⟩
  refine fE (fun h=>?_) (fun h=>?_)
  ·obtain⟨x,hx⟩:=At fM.1;have W8:Zm ((vV ae k ((io i).filter fun p=>b.testBit p) 0:Nat)) (1 * 2 ^ (dQ ae (i:Nat) k).toNat)=((vV ae k ((io (i+1)).filter fun p=>b.testBit p) 0:Nat):Int) :=by
    rw[Int.one_mul,show (2:Int) ^ (dQ ae (i:Nat) k).toNat=((2 ^ (dQ ae (i:Nat) k).toNat:Nat):Int) by simp,PU,ZV,List.filter_append,Sm,h]
    unfold vV;rw[GG];rfl
   rw[W8];exact⟨⟨fM.1,by omega,by decide⟩,hN _ _ ⟨⟨_,rfl⟩,rfl⟩⟩
  ·refine hN _ _ ⟨⟨some (.int (i:Nat)),?_⟩,rfl⟩;rw[ZV,List.filter_append,Sm,h];simp
 ·obtain⟨⟨x4,rfl⟩,rfl⟩:=hJ;rw[rangeD_len];simp! only[];exact .inl q
def i5 (st:Cs Nat):Dv:=.dk (st.1.map fun b:Nat=>uu (b:Int)) (st.2.map fun c=>.int (c:Nat))
theorem y4 (st:Cs Nat):i5 st=.dk (st.1.map fun b:Nat=>uu (b:Int)) (st.2.map fun c=>.int (c:Nat)):=rfl
def Ba:cM:=fun ds M Q _=>∃(ae:List (List Int)) (n m:Nat),ds=[eN ae,.int (m:Nat)]/\bJ ae n/\m<=100/\Q (.tup ((aU ae.length (uz ae.length (lz ae n m))).map Dv.int)) M
theorem la {κ α:Type} [DecidableEq κ]:∀{ks:List κ}{ws:List α}{i:Nat}{k:κ}{w:α},ks.Nodup->ks[i]?=some k->ws[i]?=some w->look ks ws k=some w
 | [],_,_,_,_,_,h,_=>by simp at h
 |_::_,[],_,_,_,_,_,h=>by simp at h
 |c::ks,v::ws,0,k,w,_,h1,h2=>by
          simp at h1 h2;unfold look;rw[if_pos h1,h2]
 |c::ks,v::ws,i+1,k,w,nd,h1,h2=>by
          have hn:=GM.mp nd;have h1:ks[i]?=some k :=by simpa using h1
          unfold look;rw[if_neg (fun e=>hn.1 (by rw[e];exact cr h1))]
          exact la hn.2 h1 (by simpa using h2)
theorem rB (a b:Nat) (h:(uu (a:Int):Key)=uu (b:Int)):a=b :=by have:=ZY h;omega
theorem HZ {st:Cs Nat}{k c:Nat}:putL (st.1.map fun b:Nat=>(uu (b:Int):Key)) (uu (k:Int))=(fv st k c).1.map (fun b:Nat=>(uu (b:Int):Key))/\cO (st.1.map fun b:Nat=>(uu (b:Int):Key)) (st.2.map fun c=>Dv.int (c:Nat)) (uu (k:Int)) (.int ((((look st.1 st.2 k).getD 0:Nat):Int)+(c:Int)))=(fv st k c).2.map fun c=>Dv.int (c:Nat) :=by
 have hm:(uu (k:Int):Key)∈st.1.map (fun b:Nat=>(uu (b:Int):Key)) ↔ k∈st.1:=mF (f:=fun b:Nat=>(uu (b:Int):Key)) rB
 have hv:Dv.int ((((look st.1 st.2 k).getD 0:Nat):Int)+(c:Int))=(fun c:Nat=>Dv.int (c:Nat)) ((look st.1 st.2 k).getD 0+c) :=by simp
 unfold fv putL cO;by_cases h:k∈st.1
 ·simp only[if_pos h,if_pos (hm.mpr h),true_and];rw[hv,<- pC,<- mx (f:=fun b:Nat=>(uu (b:Int):Key)) _ (fun x _ e=>rB _ _ e)]
 ·simp only[if_neg h,if_neg fun z=>h (hm.mp z),u8,lw,Rs,true_and]
  rw[hv]
theorem pF {st:Cs Nat}{k:Nat}:look (st.1.map fun b:Nat=>(uu (b:Int):Key)) (st.2.map fun c=>Dv.int (c:Nat)) (uu (k:Int))=(look st.1 st.2 k).map fun c:Nat=>Dv.int (c:Nat) :=by
 have h:=mw (f:=fun b:Nat=>(uu (b:Int):Key)) (x:=k) (ks:=st.1) (cs:=st.2.map fun c=>Dv.int (c:Nat)) (fun x _ e=>rB _ _ e)
 exact h.trans pB
theorem zP {M0 M:Mh}(h:Keeps M0 M) {a:al}(ha:M a=none):M0 a=none :=by
 cases e:M0 a with
 |none=>rfl
 |some u=>rw[h a u e]at ha;cases ha
theorem y6 {M:Mh}{a b:al}{o o2:Mo}(ha:M a=none) (h:a≠b):aN (au (au M a o) b o2) a=au M b o2 :=by
 funext c
 unfold aN au;by_cases e:c=a
 ·subst e;rw[if_pos rfl,if_neg h,ha]
 ·rw[if_neg e,if_neg e]
def mH (ae:List (List Int)) (n:Nat) (L:List Nat):Mo:=.dk (L.map fun b:Nat=>uu (b:Int)) (L.map fun b=>.lst ((jY ae n b).map fun g:Nat=>.int (g:Nat)))
theorem uA {M:Mh}(st:Cs Nat):Pin M (i5 st):=.dk fun d hd=>by
 obtain⟨c,_,rfl⟩:=kt.mp hd;exact .int _
theorem FZ {ae:List (List Int)}{n:Nat}:Dv.dk [uu (1 * 2 ^ ae.length - 1)] [Dv.int 1]=i5 (lz ae n 0) :=by
 have h:(1:Int) * 2 ^ ae.length - 1=((2 ^ ae.length - 1:Nat):Int) :=by
  have:=Nat.pow_pos (n:=ae.length) (show 0<2 by decide)
  rw[Int.one_mul,Int.natCast_sub (by omega)]
  simp
 rw[h];rfl
theorem uB {f f1:al}{fd cI:ln}(D:Df K mg "_law_by_bits" c9 ["_law_net_here","_law_m"] f fd)
  (dD:Df K mg "_law_bits_led" fS ["_law_net_here","_law_bits","_law_k"] f1 cI) (tu:FnOk P w K mg base bw 1 f1 cI ["_law_net_here","_law_bits","_law_k"] (bp P w K tb y3)) (bl:Bl mg):FnOk P w K mg base bw 2 f fd ["_law_net_here","_law_m"] (bp P w K tb Ba) :=by
 refine eW D bF (fun ds M Q E hS=>by obtain⟨ae,n,m,e,_⟩:=hS;rw[e];rfl) fun A outer s E Γ ds Q' E' hP hw hK ht hr hS=>?_
 obtain⟨ae,n,m,e,O,hm,q⟩:=hS;refine⟨_,(ai (aK (i:=2) bF.nd rfl (li rfl) (EZ (aP nu (aP Jp aw (ay (cD (K:=K) rfl hK) rfl bl.len_ nw (aa (qv 0) af))) aw) aw))
  (ai (aK (i:=3) bF.nd rfl (li rfl) yw)
  (ai (AV 2 rfl (tV v6 rfl (bM rfl bl.range_ (aa (qv 1) af)) (fun jQ M1 hM eP ew eK et=>by have hP:=hP.trans eP.symm;have hw:=hw.trans ew.symm;have hK:=hK.trans eK.symm;have ht:=ht.trans et.symm;exact⟨(aE (i:=4) bF.nd rfl (li rfl)),(ai (aK (i:=5) bF.nd rfl (li rfl) yw)
  (ai (dH v6 rfl (AI (qv 2)) (fun jQ eP ew eK et=>by have hP:=hP.trans eP.symm;have hw:=hw.trans ew.symm;have hK:=hK.trans eK.symm;have ht:=ht.trans et.symm;exact⟨(aE (i:=6) bF.nd rfl (Ix rfl)),(ai (cq (bC (yt hr.units) (qv 6) (qv 3) (by rfl))
   (av (pT hr.units (qv 3) (qv 6) (bX (N':=["_law_k","_law_net_here","_law_bits"]) (tn:=1) (idx:=[0,6]) rfl (show aD ["_law_net_here","_law_m","_law_counts","_law_followers","_law_turn","_law_ahead","_law_bits","_law_there","_law_found","_law_size"] (aj c9) _ ["_law_k","_law_net_here","_law_bits"] 1 [0,6] from by decide +kernel) (bM rfl bl.range_ (aa (ay (cD (K:=K) rfl hK) rfl bl.len_ nw (aa (bV (du (K:=K) rfl) (qv 0) aw (fun _ _=>rfl)) af)) af)) (fun _ _ _ _ _=>(aE (i:=0) (show wS [("_law_k" : br),("_law_net_here" : br),("_law_bits" : br)] from by decide +kernel) rfl (li rfl))) (fun _ _ _ _ _=>bS) (fun _ _ _ _ _=>(aG tu (hr.mono (by decide)) rfl dD.mg dD.fn.kp dD.bd bb hP hw hK ht XR.none (aa (qv 1) (aa (qv 2) (aa (qv 0) af))))))))
   qss_nil)
  (av (dH v6 rfl (jh (K:=K) rfl (mY hr.units (qv 3) (qv 6) (fun _ _=>rfl))) (fun jQ eP ew eK et=>by have hP:=hP.trans eP.symm;have hw:=hw.trans ew.symm;have hK:=hK.trans eK.symm;have ht:=ht.trans et.symm;exact⟨(aE (i:=7) bF.nd rfl (li rfl)),(av (pT hr.units (qv 5) (qv 7) (aP fQ (Fx (K:=K) Yi Na PySem.F.type_dict_get (EX hr.units) (qv 5) (aa (qv 7) (aa aw af))) (mY hr.units (qv 2) (qv 6) (fun _ _=>rfl)))))⟩))))⟩))
  (av (AV 5 hM (aK (i:=2) bF.nd rfl (li rfl) (qv 5))))))⟩)))
  (ai (mE (i:=8) bF.nd rfl rfl (N':=["_law_place"]) (tn:=1) (idx:=[]) rfl (show aD ["_law_net_here","_law_m","_law_counts","_law_followers","_law_turn","_law_ahead","_law_bits","_law_there","_law_found","_law_size"] (aj c9) _ ["_law_place"] 1 [] from by decide +kernel) (kQ (K:=K) rfl (qv 0)) (fun _ _ _ _ _=>(aE (i:=0) (show wS [("_law_place" : br)] from by decide +kernel) rfl (li rfl))) (fun _ _ _ _ _=>bS) (fun _ _ _ _ _=>aw))
  (ai (dH v6 rfl (AI (qv 2)) (fun jQ eP ew eK et=>by have hP:=hP.trans eP.symm;have hw:=hw.trans ew.symm;have hK:=hK.trans eK.symm;have ht:=ht.trans et.symm;exact⟨(aE (i:=6) bF.nd rfl (Ix rfl)),(ai (aK (i:=9) bF.nd rfl (li rfl) (ay (cD (K:=K) rfl hK) rfl bl.len_ nw (aa (bX (N':=["_law_place","_law_bits"]) (tn:=1) (idx:=[6]) rfl (show aD ["_law_net_here","_law_m","_law_counts","_law_followers","_law_turn","_law_ahead","_law_bits","_law_there","_law_found","_law_size"] (aj c9) _ ["_law_place","_law_bits"] 1 [6] from by decide +kernel) (bM rfl bl.range_ (aa (ay (cD (K:=K) rfl hK) rfl bl.len_ nw (aa (qv 0) af)) af)) (fun _ _ _ _ _=>(aE (i:=0) (show wS [("_law_place" : br),("_law_bits" : br)] from by decide +kernel) rfl (li rfl))) (fun _ _ _ _ _=>(Au (bC jU (aP Jr (aP Jq (qv 1) (qv 0)) aw) aw (bt _)))) (fun _ _ _ _ _=>(qv 0))) af)))
  (av (jL (aP fQ (bV (du (K:=K) rfl) (qv 8) (aP nu (qv 9) aw) (fun _ _=>rfl)) (mY hr.units (qv 2) (qv 6) (fun _ _=>rfl))) (jN (qv 8) (aP nu (qv 9) aw)))))⟩))
  (av (aS (dU (ji (K:=K) rfl) rfl bl.tuple_ ck (aa (qv 8) af))))))))),?_⟩
 subst e;have h9:=O.nine;have JG:=O.wid;have h1:=O.one;have big:(1000:Nat)<sizeLine :=by decide
 have jx:2 ^ ae.length<=512 :=by
  have:=X5 (show 0<2 by decide) h9
  omega
 simp! only[];refine⟨⟨by omega,by omega,by decide⟩,fun a ha fo JH=>?_⟩
 have JI:a≠fo:=fun z=>by rw[z,updM_same]at JH;cases JH
 have OX:Γ.M0 fo=none :=by rw[ao (zn JI)]at JH;exact JH
 refine .inr ⟨a,_,_,rfl,by rw[ao JI,updM_same],ha,?_,?_⟩
 ·rw[y6 ha JI];refine⟨fun j d e=>?_,fun c o e=>?_⟩
  ·match j,e with
   |0,e=>cases e;exact oQ ae
   |1,e=>cases e;exact .int _
   |2,e=>cases e;exact .dk fun d hd=>by rw[jp.mp hd];exact .int _
   |3,e=>cases e;exact .ptr (by rw[updM_same];rfl)
   |4,e=>exact nomatch e
   |5,e=>exact nomatch e
   |6,e=>exact nomatch e
   |7,e=>exact nomatch e
   |8,e=>exact nomatch e
   |9,e=>exact nomatch e
   |j+10,e=>exact nomatch e
  ·by_cases z:c=fo
   ·rw[z,updM_same]at e;cases e;exact .inr fun d hd=>nomatch hd
   ·rw[ao z]at e;exact .inl e
 ·rw[y6 ha JI];simp! only[];refine⟨by omega,by omega,?_⟩
  rw[FZ (n:=n)];refine bN (fun i ρ M=>(∃x4 x5 x6 x7,((∀M d,x4=some d->Pin M d)/\(∀M d,x5=some d->Pin M d)/\(∀M d,x6=some d->Pin M d)/\∀M d,x7=some d->Pin M d)/\ρ=[some (eN ae),some (.int (m:Nat)),some (i5 (lz ae n i)),some (.ptr fo),x4,x5,x6,x7,none,none])/\∃L:List Nat,L.Nodup/\(∀b∈L,b<2 ^ ae.length)/\M=au Γ.M0 fo (mH ae n L)) ⟨⟨none,none,none,none,⟨(fun _ _ h=>nomatch h),(fun _ _ h=>nomatch h),(fun _ _ h=>nomatch h),(fun _ _ h=>nomatch h)⟩,rfl⟩,[],Os,(fun _ h=>nomatch h),rfl⟩ (fun i d ρ M N hd hJ hN=>?_) (fun ρ M hJ=>?_)
  ·obtain⟨⟨x4,x5,x6,x7,⟨p4,p5,p6,p7⟩,rfl⟩,L,qB,qC,rfl⟩:=hJ;obtain⟨rfl,hi⟩:=cU hd;simp! only[];intro c hc;have vF:c≠fo:=fun z=>by rw[z,updM_same]at hc;cases hc
   have oU:Γ.M0 c=none :=by rw[ao vF]at hc;exact hc
   obtain⟨st,fM⟩:∃st,st=lz ae n i:=⟨_,rfl⟩;have pE:dF (io (2 ^ ae.length)) st :=by rw[fM];exact A9 O i
   have RG:iW (jY ae n) st=lz ae n (i+1) :=by rw[fM];rfl
   rw[<- fM,y4];obtain⟨es,fZ⟩:∃es,es=st.1.zip st.2:=⟨_,rfl⟩;have PN:∀e∈es,e.1∈io (2 ^ ae.length):=fun e he=>pE.sub _ (GS (by rw[<- fZ];exact he)).1
   have go:∀j,dF (io (2 ^ ae.length)) ((es.take j).foldl (fun acc e=>da (jY ae n e.1) e.2 acc) ([],[])):=fun j=>
    (p0 (fun _=>0) (kf O) (es.take j) (acc:=([],[])) (fun e he=>PN e (Y0 he)) ⟨rfl,Os,fun _ h=>nomatch h⟩).1
   simp! only[];refine bN (fun j ρ M=>∃x6 x7,((∀M d,x6=some d->Pin M d)/\∀M d,x7=some d->Pin M d)/\ρ=[some (eN ae),some (.int (m:Nat)),some (i5 st),some (.ptr fo),some (.int (i:Nat)),some (.ptr c),x6,x7,none,none]/\∃(L:List Nat) (acc:Cs Nat),L.Nodup/\(∀b∈L,b<2 ^ ae.length)/\acc=(es.take j).foldl (fun acc e=>da (jY ae n e.1) e.2 acc) ([],[])/\M fo=some (mH ae n L)/\M c=some (.dk (acc.1.map fun b:Nat=>uu (b:Int)) (acc.2.map fun c=>.int (c:Nat)))/\∀d,d≠fo->d≠c->M d=Γ.M0 d)
    ⟨_,_,⟨p6,p7⟩,rfl,L,([],[]),qB,qC,rfl,by rw[ao (zn vF),updM_same],updM_same,fun d h1 h2=>by rw[ao h2,ao h1]⟩ (fun j d ρ M N' hd hJ vQ=>?_) (fun ρ M hJ=>?_)
   ·obtain⟨x6,x7,⟨p6,p7⟩,rfl,L,acc,qB,qC,eV,og,qD,qE⟩:=hJ;rw[ma,bv]at hd;obtain⟨b,hb,rfl⟩:=i0.mp hd;have eU:=rb.mp (pE.sub b (cr hb));have XZ:L.length<=512:=sw (fF L (io (2 ^ ae.length)) qB fun x hx=>rb.mpr (qC x hx)) (by rw[EM];exact jx)
    have kv:∀b:Nat,f9 (uu (b:Int))=.int (b:Nat):=fun _=>rfl
    have lk:∀L:List Nat,look (L.map fun b:Nat=>(uu (b:Int):Key)) (L.map fun b=>Dv.lst ((jY ae n b).map fun g:Nat=>.int (g:Nat))) (uu (b:Int))=if b∈L then some (.lst ((jY ae n b).map fun g:Nat=>.int (g:Nat))) else none :=by
     intro L;induction L with
     |nil=>simp[look]
     |cons x L ih=>
      show (if (uu (x:Int):Key)=uu (b:Int) then _ else look _ _ _)=_
      by_cases e:x=b
      ·subst e;simp
      ·rw[if_neg (fun z=>e (by have:=ZY z;omega)),ih]
       simp[zn e]
    refine pV (fun ρ M=>ρ=[some (eN ae),some (.int (m:Nat)),some (i5 st),some (.ptr fo),some (.int (i:Nat)),some (.ptr c),some (.int (b:Nat)),x7,none,none]/\∃L:List Nat,b∈L/\L.Nodup/\(∀b∈L,b<2 ^ ae.length)/\M fo=some (mH ae n L)/\M c=some (.dk (acc.1.map fun b:Nat=>uu (b:Int)) (acc.2.map fun c=>.int (c:Nat)))/\∀d,d≠fo->d≠c->M d=Γ.M0 d) (fun N2 yL=>?_) ?_
    ·simp! only[og,mH,Zp,kv,lk];by_cases y7:b∈L
     ·simp only[if_pos y7,Zj,Yy,l8,if_false];exact yL _ _ ⟨rfl,L,y7,qB,qC,og,qD,qE⟩
     ·simp only[if_neg y7,Option.isSome_none,Bool.not_false,if_true];have vm:(0:Int)∈dB ae:=bg.mpr ⟨by omega,by omega⟩
      have sT:(ae.getD 0 []).length=n :=by
       rw[getD_at (by omega)]
       exact(O.row _ (wT _)).1
      have e0:dj (ae.map eI) 0=some (eI (ae.getD 0 [])) :=by have:=ly vm;simpa using this
      simp! only[e0];rw[sT];refine⟨by omega,by omega,by omega,gr (fun d=>match d with | .int a=>.int (tm ae a.toNat b:Nat)|d=>d) (fun τ M2=>(∃x,τ=[x,some (eN ae),some (.int (b:Nat))])/\M2=M) ⟨⟨_,rfl⟩,rfl⟩ (fun d hd2 τ M2 hJ R2 kk=>?_) (fun τ M2 hJ=>?_)⟩
      ·obtain⟨⟨x,rfl⟩,rfl⟩:=hJ;obtain⟨a,ha⟩:=wv.mp hd2;obtain⟨rfl,FO⟩:=cU ha;simp! only[];have kk:=kk [some (.int (a:Nat)),some (eN ae),some (.int (b:Nat))] M2 ⟨⟨_,rfl⟩,rfl⟩;simp only[IN,kw]at kk;exact⟨ae,n,b,a,rfl,O,eU,FO,kk⟩
      ·obtain⟨⟨x,rfl⟩,rfl⟩:=hJ;have er:(cw 0 n).map (fun d=>match d with | .int a=>.int (tm ae a.toNat b:Nat)|d=>d)=(jY ae n b).map fun g:Nat=>Dv.int (g:Nat) :=by
        unfold cw jY;rw[ma,ma];refine DO fun i _=>?_
        show Dv.int (tm ae (0+(i:Int)).toNat b:Nat)=_;rw[IN,kw];rfl
       rw[er];have W9:(uu (b:Int):Key) ∉ L.map fun b:Nat=>(uu (b:Int):Key):=fun h=>by
        obtain⟨x,hx,e⟩:=kt.mp h;have e:=ZY e;exact y7 (by rw[show b=x by omega];exact hx)
       obtain⟨q1,q2⟩:=ug (k:=(uu (b:Int):Key)) (d:=Dv.lst ((jY ae n b).map fun g:Nat=>.int (g:Nat))) (ds:=L.map fun b=>Dv.lst ((jY ae n b).map fun g:Nat=>.int (g:Nat))) W9
       simp! only[og,mH];rw[q1,q2];refine⟨by omega,yL _ _ ⟨rfl,L++[b],by simp,?_,fun x hx=>?_,?_,by rw[ao vF];exact qD,fun d h1 h2=>by rw[ao h1];exact qE d h1 h2⟩⟩
       ·rw[NJ];exact⟨qB,by simp,fun x hx y hy e=>y7 (by rw[jp.mp hy]at e;rw[<- e];exact hx)⟩
       ·rcases zw.mp hx with z|z
        ·exact qC x z
        ·rw[jp.mp z];exact eU
       ·rw[updM_same];unfold mH;rw[u8,u8];rfl
    ·rintro ρ M ⟨rfl,L,y7,qB,qC,og,qD,qE⟩;simp! only[og,mH,Zp,kv,lk,if_pos y7];obtain⟨cc,uK⟩:∃cc,st.2[j]?=some cc:=⟨_,ap (by have:=(ce.mp hb).1;rw[<- pE.len];exact this)⟩
     have n6:es[j]?=some (b,cc) :=by rw[fZ];exact ss.mpr ⟨hb,uK⟩
     have cS:look (st.1.map fun b:Nat=>(uu (b:Int):Key)) (st.2.map fun c=>Dv.int (c:Nat)) (uu (b:Int))=some (.int (cc:Nat)) :=by rw[pF,la pE.nd hb uK];rfl
     have CK:(es.take (j+1)).foldl (fun acc e=>da (jY ae n e.1) e.2 acc) ([],[])=da (jY ae n b) cc acc :=by
      rw[JJ,n6,GG,<- eV];rfl
     have oa:=go j;rw[<- eV]at oa;refine bN (fun t ρ M=>(∃x7,(∀M d,x7=some d->Pin M d)/\ρ=[some (eN ae),some (.int (m:Nat)),some (i5 st),some (.ptr fo),some (.int (i:Nat)),some (.ptr c),some (.int (b:Nat)),x7,none,none])/\∃ac:Cs Nat,ac=da ((jY ae n b).take t) cc acc/\dF (io (2 ^ ae.length)) ac/\M fo=some (mH ae n L)/\M c=some (.dk (ac.1.map fun b:Nat=>uu (b:Int)) (ac.2.map fun c=>.int (c:Nat)))/\∀d,d≠fo->d≠c->M d=Γ.M0 d) ⟨⟨_,p7,rfl⟩,acc,rfl,oa,og,qD,qE⟩ (fun t d ρ M N3 hd hJ Xa=>?_) (fun ρ M hJ=>?_)
     ·obtain⟨⟨x7,p7,rfl⟩,ac,pD,vR,og,qD,qE⟩:=hJ;obtain⟨g,hg,rfl⟩:=oR hd;have PQ:=kf O b (rb.mpr eU) g (cr hg);have PK:ac.1.length<=512:=sw (fF _ _ vR.nd vR.sub) (by rw[EM];exact jx)
      simp! only[qD,i5,cS,pF];have el:((look ac.1 ac.2 g).map fun c:Nat=>Dv.int (c:Nat)).getD (.int 0)=.int (((look ac.1 ac.2 g).getD 0:Nat)) :=by cases look ac.1 ac.2 g<;>rfl
      rw[el];obtain⟨q1,q2⟩:=HZ (st:=ac) (k:=g) (c:=cc);dsimp only;rw[q1,q2];refine⟨by omega,Xa _ _ ⟨⟨_,(fun M d e=>by cases e;exact .int _),rfl⟩,fv ac g cc,by rw[JJ,hg];unfold da at pD ⊢;rw[GG,<- pD];rfl,vR.add PQ cc,by rw[ao (zn vF)];exact og,updM_same,fun d h1 h2=>by rw[ao h2];exact qE d h1 h2⟩⟩
     ·obtain⟨⟨x7,p7,rfl⟩,ac,pD,vR,og,qD,qE⟩:=hJ;rw[ca,Db]at pD;exact vQ _ _ ⟨some (.int (b:Nat)),x7,⟨(fun M d e=>by cases e;exact .int _),p7⟩,rfl,L,ac,qB,qC,by rw[CK,pD],og,qD,qE⟩
   ·obtain⟨x6,x7,⟨p6,p7⟩,rfl,L,acc,qB,qC,eV,og,qD,qE⟩:=hJ;have fP:((st.1.map fun b:Nat=>(uu (b:Int):Key)).map f9).length=es.length :=by rw[fZ,BS,ca,ca,pE.len,ET]
    rw[fP,Db]at eV;have ea:acc=lz ae n (i+1) :=by rw[eV,fZ];exact RG
    have ed:aN M c=au Γ.M0 fo (mH ae n L) :=by
     funext d
     by_cases z:d=c
     ·rw[z,bf,ao vF,oU]
     ·rw[aX z];by_cases y:d=fo
      ·rw[y,og,updM_same]
      ·rw[ao y,qE d y z]
    simp! only[];refine .inr ⟨c,_,_,rfl,qD,by rw[ao vF];exact oU,⟨fun j d e=>?_,fun d o e=>?_⟩,?_⟩
    ·rw[ed];match j,e with
     |0,e=>cases e;exact oQ ae
     |1,e=>cases e;exact .int _
     |2,e=>cases e;exact uA st
     |3,e=>cases e;exact .ptr (by rw[updM_same];rfl)
     |4,e=>cases e;exact .int _
     |5,e=>cases e;exact uA acc
     |6,e=>exact p6 _ _ (gl e)
     |7,e=>exact p7 _ _ (gl e)
     |8,e=>exact nomatch e
     |9,e=>exact nomatch e
     |j+10,e=>exact nomatch e
    ·rw[ed]at e ⊢;by_cases z:d=fo
     ·rw[z,updM_same]at e;cases e;refine .inr fun d hd=>?_
      obtain⟨b,_,rfl⟩:=kt.mp hd;exact .lst fun d hd=>by obtain⟨g,_,rfl⟩:=kt.mp hd;exact .int _
     ·rw[ao z]at e;exact .inl (by rw[ao z];exact e)
    ·rw[ed];simp! only[];refine hN _ _ ⟨⟨some (.int (i:Nat)),some (i5 acc),x6,x7,⟨(fun M d e=>by cases e;exact .int _),(fun M d e=>by cases e;exact uA acc),p6,p7⟩,?_⟩,L,qB,qC,rfl⟩
     rw[<- ea];rfl
  ·obtain⟨⟨x4,x5,x6,x7,⟨p4,p5,p6,p7⟩,rfl⟩,L,qB,qC,rfl⟩:=hJ;rw[rangeD_len];simp! only[];obtain⟨MM,hM⟩:∃MM,MM=au Γ.M0 fo (mH ae n L):=⟨_,rfl⟩;have kp:Keeps Γ.M0 MM :=by rw[hM];exact .upd OX .refl
   rw[<- hM];obtain⟨st,fM⟩:∃st,st=lz ae n m:=⟨_,rfl⟩;have pE:dF (io (2 ^ ae.length)) st :=by rw[fM];exact A9 O m
   have UX:∀b∈st.1,ft ae.length (setB ae.length b):=fun b hb=>by
    have h1:=hZ (iZ O) (pA O) m;refine rl O (h1.sub _ ?_);show _∈(mG ae n m).1;rw[y1 O,<- fM];exact Y3 hb
   rw[<- fM]at q ⊢;obtain⟨es,fZ⟩:∃es,es=uz ae.length st:=⟨_,rfl⟩;refine⟨by omega,gr (fun _=>.int 0) (fun τ M2=>(∃x,τ=[x])/\M2=MM) ⟨⟨_,rfl⟩,rfl⟩ (fun d hd τ M2 hJ R kk=>?_) (fun τ M2 hJ=>?_)⟩
   ·obtain⟨⟨x,rfl⟩,e2⟩:=hJ;simp! only[];exact kk _ _ ⟨⟨_,rfl⟩,e2⟩
   ·obtain⟨⟨x,rfl⟩,e2⟩:=hJ;rw[e2];intro g hg;have e0:(ae.map eI).map (fun _=>Dv.int 0)=(aU ae.length []).map Dv.int :=by
     unfold aU;rw[ma,ma];refine YD (by simp) fun i h1 h2=>?_
     simp
    rw[e0,y4];simp! only[ma];refine bN (fun i ρ M2=>(∃x6 x9,ρ=[some (eN ae),some (.int (m:Nat)),some (i5 st),some (.ptr fo),x4,x5,x6,x7,some (.ptr g),x9])/\M2=au MM g (.lst ((aU ae.length (es.take i)).map Dv.int))) ⟨⟨_,_,rfl⟩,rfl⟩ (fun i d ρ M2 N hd hJ hN=>?_) (fun ρ M2 hJ=>?_)
    ·obtain⟨⟨x6,x9,rfl⟩,rfl⟩:=hJ;rw[bv]at hd;obtain⟨b,hb,rfl⟩:=i0.mp hd;have eU:=cr hb;have vT:=UX b eU;obtain⟨cc,uK⟩:∃cc,st.2[i]?=some cc:=⟨_,ap (by have:=(ce.mp hb).1;rw[<- pE.len];exact this)⟩
     have n6:es[i]?=some ((setB ae.length b).length,cc) :=by
      rw[fZ];unfold uz;rw[bv,show (st.1.zip st.2)[i]?=some (b,cc) from ss.mpr ⟨hb,uK⟩];rfl
     have Ti:=vT.len;have Tj:1<=(setB ae.length b).length :=by
      cases h:setB ae.length b with
      |nil=>exact absurd h vT.ne
      |cons _ _=>simp
     obtain⟨j,hj⟩:∃j,(setB ae.length b).length=j+1:=⟨(setB ae.length b).length - 1,by omega⟩
     have vU:j<ae.length :=by omega
     have cS:look (st.1.map fun b:Nat=>(uu (b:Int):Key)) (st.2.map fun c=>Dv.int (c:Nat)) (uu (b:Int))=some (.int (cc:Nat)) :=by rw[pF,la pE.nd hb uK];rfl
     have kv:∀b:Nat,f9 (uu (b:Int))=.int (b:Nat):=fun _=>rfl
     simp! only[Zp,kv];refine⟨by omega,by omega,by omega,qV (HU (b:Nat)) (fun d hd R hR=>?_) ?_⟩
     ·obtain⟨k,hk⟩:=wv.mp hd;obtain⟨rfl,X0⟩:=cU hk;simp only[HU,rq,IN,kw]at hR;simp! only[];exact⟨by omega,hR⟩
     ·rw[HV];have ej:(((wL ae.length (b:Int)).map Dv.int).length:Int) - 1=(j:Nat) :=by
       rw[ca];show ((setB ae.length b).length:Int) - 1=_;omega
      have iL:dj ((aU ae.length (es.take i)).map Dv.int) (j:Nat)=some (.int ((((es.take i).map fun e=>if e.1=j+1 then e.2 else 0).sum:Nat):Int)):=eh (by
       rw[bv,p8 vU];rfl)
      have qw:(aU ae.length (es.take i)).length=ae.length :=by simp[aU]
      have ex:fN (aU ae.length (es.take i)).length (j:Int)=some j :=by
       unfold fN;rw[qw,if_pos (by omega),if_pos (by omega),kw]
      rw[ej];simp! only[i5,iL,cS,ex];refine hN _ _ ⟨⟨_,_,rfl⟩,?_⟩;rw[JJ,n6,hj];show _=au MM g (.lst ((aU ae.length (es.take i++[(j+1,cc)])).map Dv.int));rw[<- pz vU,YY]
    ·obtain⟨⟨x6,x9,rfl⟩,rfl⟩:=hJ;have fP:es.length=(st.1.map (f9 ∘ fun b:Nat=>(uu (b:Int):Key))).length :=by rw[fZ];unfold uz;rw[ca,BS,ca,pE.len,ET]
     rw[<- fP,Db,fZ];simp! only[];exact jP (show Keeps Γ.M0 _ from .upd (zP kp hg) kp) (kZ _) q
theorem tD:aW ["_law_net_here","_law_places","_law_k"] ["_law_net_here","_law_places","_law_k"] (aj eX):=⟨rfl,rfl,rfl,by decide +kernel,rfl,by decide +kernel,by decide +kernel⟩
theorem jw:aW ["_law_net_here","_law_places","_law_word","_law_sign"] ["_law_net_here","_law_places","_law_word"] (aj gU):=⟨rfl,rfl,rfl,by decide +kernel,rfl,by decide +kernel,by decide +kernel⟩
theorem uC {f:al}{fd:ln}(D:Df K mg "_law_set_led" eX ["_law_net_here","_law_places","_law_k"] f fd) (bl:Bl mg):FnOk P w K mg base bw 1 f fd ["_law_net_here","_law_places","_law_k"] (bp P w K tb wJ) :=by
 refine eW D tD (fun ds M Q E hS=>by obtain⟨ae,n,ps,a,e,_⟩:=hS;rw[e];rfl) fun A outer s0 E Γ ds Q' E' hP hw hK ht hr hS=>?_
 obtain⟨ae,n,ps,a,e,O,hS,ha,q⟩:=hS;refine⟨_,(av (aS (dU (ji (K:=K) rfl) rfl bl.tuple_ ck (aa (ay (yl hP hw (K:=K) rfl rfl) rfl bl.sorted_ ve (aa (dU (Rq hP hw (K:=K) rfl rfl) rfl bl.set_ NI (aa (bX (N':=["_law_place","_law_k","_law_net_here"]) (tn:=1) (idx:=[2,0]) rfl (show aD ["_law_net_here","_law_places","_law_k"] (aj eX) _ ["_law_place","_law_k","_law_net_here"] 1 [2,0] from by decide +kernel) (kQ (K:=K) rfl (qv 1)) (fun _ _ _ _ _=>(aE (i:=0) (show wS [("_law_place" : br),("_law_k" : br),("_law_net_here" : br)] from by decide +kernel) rfl (li rfl))) (fun _ _ _ _ _=>bS) (fun _ _ _ _ _=>(bV (du (K:=K) rfl) (bV (du (K:=K) rfl) (qv 2) (qv 0) (fun _ _=>rfl)) (qv 1) (fun _ _=>rfl)))) af)) af)) af)))),?_⟩
 subst e;have h9:=O.nine;have hl:=hS.len;simp! only[];refine⟨BB (show ps.length<=9 by omega) (by decide),gr (fun d=>.int (wK ae a d)) (fun τ M=>(∃x,τ=[x,some (.int (a:Nat)),some (eN ae)])/\M=Γ.M0) ⟨⟨_,rfl⟩,rfl⟩ (fun d hd τ M ⟨⟨x,e⟩,eM⟩ R hR=>?_) (fun τ M ⟨⟨x,e⟩,eM⟩=>?_)⟩
 ·subst e eM;obtain⟨p,hp,rfl⟩:=kt.mp hd;have cF:=bg.mpr (hS.rng p hp);simp! only[ly cF,yU O cF ha];exact hR _ _ ⟨⟨_,rfl⟩,rfl⟩
 ·subst e eM;have e1:(ps.map Dv.int).map (fun d=>Dv.int (wK ae a d))=(ps.map fun p=>dQ ae p a).map Dv.int :=by rw[ma,ma];rfl
  rw[e1];have:=qP (ps.map fun p=>dQ ae p a)
  rw[ca]at this;simp! only[vw,Option.bind_some];exact⟨BB (show ps.length+1<=10 by omega) (by decide),by omega,.inl q⟩
theorem K7 {k:Nat}(hk:k<3):∃rest,Yh "abc" ⟨#[97+k]⟩ 0 (br.length "abc") 1=k::rest :=by
 have:k=0\/k=1\/k=2 :=by omega
 rcases this with rfl|rfl|rfl
 ·exact⟨[],by decide +kernel⟩
 ·exact⟨[],by decide +kernel⟩
 ·exact⟨[],by decide +kernel⟩
def gI (ae:List (List Int)) (s:List Int) (ks:List Nat):List Int:=ks.foldl (fL ae) s
def cZ (ks:List Nat):br:=⟨(ks.map fun k=>97+k).toArray⟩
theorem y8 {ae:List (List Int)}{n:Nat}(O:bJ ae n):∀{ks:List Nat}{s:List Int},(∀k∈ks,k<n)->ft ae.length s->ft ae.length (gI ae s ks)
 | [],_,_,h=>h
 |k::ks,s,hk,h=>y8 (ks:=ks) O (fun x hx=>hk x (c8 _ hx)) (pq O h (hk k gc))
def F0:cM:=fun ds M Q _=>∃(ae:List (List Int)) (n:Nat) (s:List Int) (ks:List Nat),ds=[eN ae,eI s,.str (cZ ks)]/\bJ ae n/\ft ae.length s/\(∀k∈ks,k<n)/\ks.length<=100/\Q (eI (gI ae s ks)) M
theorem wm {f f1:al}{fd cI:ln}(D:Df K mg "_law_led_by" gU ["_law_net_here","_law_places","_law_word"] f fd)
  (dW:Df K mg "_law_set_led" eX ["_law_net_here","_law_places","_law_k"] f1 cI) (uD:FnOk P w K mg base bw 1 f1 cI ["_law_net_here","_law_places","_law_k"] (bp P w K tb wJ)) (bl:Bl mg):FnOk P w K mg base bw 2 f fd ["_law_net_here","_law_places","_law_word"] (bp P w K tb F0) :=by
 refine eW D jw (fun ds M Q E hS=>by obtain⟨ae,n,s,ks,e,_⟩:=hS;rw[e];rfl) fun A outer s0 E Γ ds Q' E' hP hw hK ht hr hS=>?_
 obtain⟨ae,n,s,ks,e,O,hS,hk,hl,q⟩:=hS;refine⟨_,(ai (dH v6 rfl (Et (qv 2)) (fun jQ eP ew eK et=>by have hP:=hP.trans eP.symm;have hw:=hw.trans ew.symm;have hK:=hK.trans eK.symm;have ht:=ht.trans et.symm;exact⟨(aE (i:=3) jw.nd rfl (li rfl)),(av (aK (i:=1) jw.nd rfl (li rfl) (aG uD (hr.mono (by decide)) rfl dW.mg dW.fn.kp dW.bd bb hP hw hK ht XR.none (aa (qv 0) (aa (qv 1) (aa (sD (K:=K) rfl PySem.F.plainAttrs_str PySem.F.slot_str_index PySem.F.type_str_index Hm oJ (aa (qv 3) af)) af))))))⟩))
  (av (aS (qv 1)))),?_⟩
 subst e;have JG:=O.wid;simp! only[];have hlen:(jM (cZ ks)).length=ks.length :=by simp[jM,cZ]
 refine bN (fun i ρ M=>(∃x3,ρ=[some (eN ae),some (eI (gI ae s (ks.take i))),some (.str (cZ ks)),x3])/\M=Γ.M0) ⟨⟨_,rfl⟩,rfl⟩ (fun i d ρ M N hd hJ hN=>?_) (fun ρ M hJ=>?_)
 ·obtain⟨⟨x3,rfl⟩,rfl⟩:=hJ;unfold jM cZ at hd;rw[List.toList_toArray,ma,bv]at hd;obtain⟨k,kz,rfl⟩:=i0.mp hd;have Xb:=hk k (cr kz);obtain⟨rest,ho⟩:=K7 (show k<3 by omega)
  simp! only[Zp,ho];refine⟨ae,n,gI ae s (ks.take i),k,rfl,O,y8 O (fun x hx=>hk x (Y0 hx)) hS,Xb,?_⟩
  simp! only[];refine hN _ _ ⟨⟨some (.str ⟨#[97+k]⟩),?_⟩,rfl⟩;rw[JJ,kz];unfold gI;rw[GG];rfl
 ·obtain⟨⟨x3,rfl⟩,rfl⟩:=hJ;rw[hlen,Db];simp! only[];exact .inl q
def wl (n:Nat):Nat->List (List Nat)
 |0=>[[]]
 |m+1=>(wl n m).flatMap fun w=>(io n).map fun k=>w++[k]
theorem CM {n:Nat}:∀{m:Nat}{w:List Nat},w∈wl n m->w.length=m/\∀k∈w,k<n
 |0,w,h=>by rw[jp.mp h];exact⟨rfl,fun _ h=>nomatch h⟩
 |m+1,w,h=>by
          obtain⟨v,hv,hw⟩:=List.mem_flatMap.mp h;obtain⟨k,hk,rfl⟩:=kt.mp hw;obtain⟨h1,h2⟩:=CM hv;refine⟨by simp[h1],fun x hx=>?_⟩
          rcases zw.mp hx with z|z
          ·exact h2 x z
          ·rw[jp.mp z];exact rb.mp hk
theorem F1 (ae:List (List Int)) (n:Nat) (s:List Int):∀m,(wl n m).map (gI ae s)=ur (gR ae n) s m
 |0=>rfl
 |m+1=>by
          show ((wl n m).flatMap _).map _=(ur (gR ae n) s m).flatMap (gR ae n);rw[<- F1 ae n s m,List.map_flatMap,List.flatMap_map];congr 1
          funext v
          unfold gR;rw[ma];refine DO fun k _=>?_
          show gI ae s (v++[k])=fL ae (gI ae s v) k;unfold gI;rw[GG];rfl
def uE (ae:List (List Int)) (n m:Nat):List (Nat×Nat):=(wl n m).map fun w=>((gI ae (aR ae.length) w).length,1)
theorem CN {ae:List (List Int)}{n:Nat}(O:bJ ae n) (m:Nat):aU ae.length (uE ae n m)=aU ae.length (nO (mG ae n m)) :=by
 unfold aU;refine DO fun j _=>?_
 congr 1
 have h:=vO (iZ O) (pA O) m fun s=>if s.length=j+1 then 1 else 0
 have e1:((nO (mG ae n m)).map fun e=>if e.1=j+1 then e.2 else 0).sum=d8 (fun s=>if s.length=j+1 then 1 else 0) (fc (gR ae n) (aR ae.length) m) :=by
  unfold nO d8 mG;rw[ma];congr 1
  refine DO fun e _=>?_
  show (if e.1.length=j+1 then e.2 else 0)=e.2 * if e.1.length=j+1 then 1 else 0
  split<;>simp
 rw[e1,h,<- F1];unfold uE;rw[ma,ma];rfl
theorem bP:aW ["_law_net_here","_law_m","_law_found","_law_words","_law_k","_law_longer","_law_word","_law_size"] ["_law_net_here","_law_m"] (aj dz):=⟨rfl,rfl,rfl,by decide +kernel,rfl,by decide +kernel,by decide +kernel⟩
def y9:cM:=fun ds M Q _=>∃(ae:List (List Int)) (n m:Nat),ds=[eN ae,.int (m:Nat)]/\bJ ae n/\m<=5/\Q (.tup ((aU ae.length (uE ae n m)).map Dv.int)) M
theorem tE {f f1:al}{fd cI:ln}(D:Df K mg "_law_by_words" dz ["_law_net_here","_law_m"] f fd)
  (eA:Df K mg "_law_led_by" gU ["_law_net_here","_law_places","_law_word"] f1 cI) (wo:FnOk P w K mg base bw 2 f1 cI ["_law_net_here","_law_places","_law_word"] (bp P w K tb F0)) (bl:Bl mg):FnOk P w K mg base bw 3 f fd ["_law_net_here","_law_m"] (bp P w K tb y9) :=by
 refine eW D bP (fun ds M Q E hS=>by obtain⟨ae,n,m,e,_⟩:=hS;rw[e];rfl) fun A outer s E Γ ds Q' E' hP hw hK ht hr hS=>?_
 obtain⟨ae,n,m,e,O,hm,q⟩:=hS;refine⟨_,(ai (mE (i:=2) bP.nd rfl rfl (N':=["_law_place"]) (tn:=1) (idx:=[]) rfl (show aD ["_law_net_here","_law_m","_law_found","_law_words","_law_k","_law_longer","_law_word","_law_size"] (aj dz) _ ["_law_place"] 1 [] from by decide +kernel) (kQ (K:=K) rfl (qv 0)) (fun _ _ _ _ _=>(aE (i:=0) (show wS [("_law_place" : br)] from by decide +kernel) rfl (li rfl))) (fun _ _ _ _ _=>bS) (fun _ _ _ _ _=>aw))
  (ai (aK (i:=3) bP.nd rfl (li rfl) (sx (aa oJ af)))
  (ai (tV v6 rfl (bM rfl bl.range_ (aa (qv 1) af)) (fun jQ M1 hM eP ew eK et=>by have hP:=hP.trans eP.symm;have hw:=hw.trans ew.symm;have hK:=hK.trans eK.symm;have ht:=ht.trans et.symm;exact⟨(aE (i:=4) bP.nd rfl (li rfl)),(ai (aK (i:=5) bP.nd rfl (li rfl) (tU af))
  (ai (dH v6 rfl (jh (K:=K) rfl (qv 3)) (fun jQ eP ew eK et=>by have hP:=hP.trans eP.symm;have hw:=hw.trans ew.symm;have hK:=hK.trans eK.symm;have ht:=ht.trans et.symm;exact⟨(aE (i:=6) bP.nd rfl (Ix rfl)),(av (pO (sD (K:=K) rfl SI PySem.F.slot_list_extend PySem.F.type_list_extend Hl (qv 5) (aa (bX (N':=["_law_sign","_law_word"]) (tn:=1) (idx:=[6]) rfl (show aD ["_law_net_here","_law_m","_law_found","_law_words","_law_k","_law_longer","_law_word","_law_size"] (aj dz) _ ["_law_sign","_law_word"] 1 [6] from by decide +kernel) (Et (Hj Ro oJ KD (KG (ay (cD (K:=K) rfl hK) rfl bl.len_ nw (aa (bV (du (K:=K) rfl) (qv 0) aw (fun _ _=>rfl)) af))))) (fun _ _ _ _ _=>(aE (i:=0) (show wS [("_law_sign" : br),("_law_word" : br)] from by decide +kernel) rfl (li rfl))) (fun _ _ _ _ _=>bS) (fun _ _ _ _ _=>(aP vq (qv 1) (qv 0)))) af))))⟩))
  (av (EW 5 hM (aK (i:=3) bP.nd rfl (li rfl) (qv 5))))))⟩))
  (ai (dH v6 rfl (jh (K:=K) rfl (qv 3)) (fun jQ eP ew eK et=>by have hP:=hP.trans eP.symm;have hw:=hw.trans ew.symm;have hK:=hK.trans eK.symm;have ht:=ht.trans et.symm;exact⟨(aE (i:=6) bP.nd rfl (Ix rfl)),(ai (aK (i:=7) bP.nd rfl (li rfl) (ay (cD (K:=K) rfl hK) rfl bl.len_ nw (aa (aG wo (hr.mono (by decide)) rfl eA.mg eA.fn.kp eA.bd bb hP hw hK ht XR.none (aa (qv 0) (aa (n5 rfl rfl bl.tuple_ rfl bl.range_ (ay (cD (K:=K) rfl hK) rfl bl.len_ nw (aa (qv 0) af))) (aa (qv 6) af)))) af)))
  (av (jL (aP fQ (bV (du (K:=K) rfl) (qv 2) (aP nu (qv 7) aw) (fun _ _=>rfl)) aw) (jN (qv 2) (aP nu (qv 7) aw)))))⟩))
  (av (aS (dU (ji (K:=K) rfl) rfl bl.tuple_ ck (aa (qv 2) af)))))))),?_⟩
 subst e;have h9:=O.nine;have JG:=O.wid;have big:(1000:Nat)<sizeLine :=by decide
 simp! only[];refine⟨by omega,gr (fun _=>.int 0) (fun τ M2=>(∃x,τ=[x])/\M2=Γ.M0) ⟨⟨_,rfl⟩,rfl⟩ (fun d hd τ M2 hJ R kk=>?_) (fun τ M2 hJ=>?_)⟩
 ·obtain⟨⟨x,rfl⟩,e2⟩:=hJ;simp! only[];exact kk _ _ ⟨⟨_,rfl⟩,e2⟩
 ·obtain⟨⟨x,rfl⟩,e2⟩:=hJ;rw[e2];intro a ha;have e0:(ae.map eI).map (fun _=>Dv.int 0)=(aU ae.length []).map Dv.int :=by
   unfold aU;rw[ma,ma];refine YD (by simp) fun i h1 h2=>?_
   simp
  rw[e0];refine⟨by omega,by omega,by omega,?_⟩
  refine bN (fun i ρ M=>(∃x4 x5 x6,((∀M d,x4=some d->Pin M d)/\(∀M d,x5=some d->Pin M d)/\∀M d,x6=some d->Pin M d)/\ρ=[some (eN ae),some (.int (m:Nat)),some (.ptr a),some (.lst ((wl n i).map fun w=>.str (cZ w))),x4,x5,x6,none])/\M=au Γ.M0 a (.lst ((aU ae.length []).map Dv.int))) ⟨⟨none,none,none,⟨(fun _ _ h=>nomatch h),(fun _ _ h=>nomatch h),(fun _ _ h=>nomatch h)⟩,rfl⟩,rfl⟩ (fun i d ρ M N hd hJ hN=>?_) (fun ρ M hJ=>?_)
  ·obtain⟨⟨x4,x5,x6,⟨p4,p5,p6⟩,rfl⟩,rfl⟩:=hJ;obtain⟨rfl,hi⟩:=cU hd;simp! only[];refine⟨wp _,fun l hl=>?_⟩
   have h1:=O.one;have Xc:l≠a:=fun z=>by rw[z,updM_same]at hl;cases hl
   have X1:Γ.M0 l=none :=by rw[ao Xc]at hl;exact hl
   have vm:(0:Int)∈dB ae:=bg.mpr ⟨by omega,by omega⟩
   have sT:(ae.getD 0 []).length=n :=by
    rw[getD_at (by omega)]
    exact(O.row _ (wT _)).1
   have e1:dj (ae.map eI) 0=some (eI (ae.getD 0 [])) :=by have:=ly vm;simpa using this
   have Ab:∀m,(wl n m).length=n ^ m:=fun m=>by
    induction m with
    |zero=>rfl
    |succ m ih=>
     show ((wl n m).flatMap _).length=_;rw[List.length_flatMap];simp only[ca,EM,YZ,List.sum_replicate_nat];rw[ih,Nat.pow_succ]
   have Xd:(wl n i).length<=81 :=by
    rw[Ab];have h3:n ^ i<=3 ^ i:=Nat.pow_le_pow_left (show n<=3 by omega) _
    have h4:(3:Nat) ^ i<=3 ^ 4:=X5 (by decide) (show i<=4 by omega)
    exact sw h3 (sw h4 (by decide))
   refine bN (fun j ρ M=>(∃x6,(∀M d,x6=some d->Pin M d)/\ρ=[some (eN ae),some (.int (m:Nat)),some (.ptr a),some (.lst ((wl n i).map fun w=>.str (cZ w))),some (.int (i:Nat)),some (.ptr l),x6,none])/\M=au (au Γ.M0 a (.lst ((aU ae.length []).map Dv.int))) l (.lst ((((wl n i).take j).flatMap fun w=>(io n).map fun k=>w++[k]).map fun w=>.str (cZ w)))) ⟨⟨_,p6,rfl⟩,rfl⟩ (fun j d ρ M N' hd hJ vQ=>?_) (fun ρ M hJ=>?_)
   ·obtain⟨⟨x6,p6,rfl⟩,rfl⟩:=hJ;rw[bv]at hd;obtain⟨v,hv,rfl⟩:=i0.mp hd;obtain⟨Xe,PX⟩:=CM (cr hv);simp! only[e1];rw[sT];have sig:jM (ZP "abc" none (some (n:Nat)))=(io n).map fun k=>Dv.str ⟨#[97+k]⟩ :=by
     have:n=2\/n=3 :=by omega
     rcases this with rfl|rfl<;>rfl
    have UY:∀k,cZ v++(⟨#[97+k]⟩:br)=cZ (v++[k]):=fun k=>by
     show br.mk _=br.mk _;simp[cZ]
    rw[sig];have Xf:(cZ v).length=v.length :=by simp[cZ,br.length]
    refine⟨by decide,by rw[ca,EM];omega,gr (fun d=>match d with | .str z=>.str (cZ v++z)|d=>d) (fun τ M2=>(∃x,τ=[x,some (.str (cZ v))])/\M2=au (au Γ.M0 a (.lst ((aU ae.length []).map Dv.int))) l (.lst ((((wl n i).take j).flatMap fun w=>(io n).map fun k=>w++[k]).map fun w=>.str (cZ w)))) ⟨⟨_,rfl⟩,rfl⟩ (fun d hd2 τ M2 hJ R2 kk=>?_) (fun τ M2 hJ=>?_)⟩
    ·obtain⟨⟨x,rfl⟩,rfl⟩:=hJ;obtain⟨k,_,rfl⟩:=kt.mp hd2;simp! only[];refine⟨?_,kk _ _ ⟨⟨_,rfl⟩,rfl⟩⟩;rw[Xf];show v.length+1<=_;omega
    ·obtain⟨⟨x,rfl⟩,rfl⟩:=hJ;have hlen:(((wl n i).take j).flatMap fun w=>(io n).map fun k=>w++[k]).length<=81 * n :=by
      rw[List.length_flatMap];simp only[ca,EM,YZ,List.sum_replicate_nat];exact Nat.mul_le_mul_right _ (sw (List.length_take_le' ..) Xd)
     have X2:81 * n<=243 :=by omega
     have em:((io n).map fun k=>Dv.str ⟨#[97+k]⟩).map (fun d=>match d with | .str z=>.str (cZ v++z)|d=>d)=((io n).map fun k=>v++[k]).map fun w=>Dv.str (cZ w) :=by
      rw[ma,ma];refine DO fun k _=>?_
      show Dv.str (cZ v++⟨#[97+k]⟩)=Dv.str (cZ (v++[k]));rw[UY]
     rw[em];simp! only[updM_same,updM_updM];refine⟨(fun t h=>nomatch h),by rw[EM];omega,vQ _ _ ⟨⟨_,(fun M d e=>by cases e;exact .str _),rfl⟩,?_⟩⟩
     rw[JJ,hv,List.flatMap_append,u8];simp
   ·obtain⟨⟨x6,p6,rfl⟩,rfl⟩:=hJ;rw[ca,Db];have dm:aN (au (au Γ.M0 a (.lst ((aU ae.length []).map Dv.int))) l (.lst ((wl n (i+1)).map fun w=>.str (cZ w)))) l=au Γ.M0 a (.lst ((aU ae.length []).map Dv.int)):=sJ hl
    have pw:∀M,Pin M (.lst ((wl n (i+1)).map fun w=>Dv.str (cZ w))):=fun M=>.lst fun d hd=>by obtain⟨w,_,rfl⟩:=kt.mp hd;exact .str _
    refine .inr ⟨l,_,rfl,updM_same,hl,⟨fun q d e=>?_,fun c o e=>?_⟩,?_⟩
    ·show Pin (aN (au (au Γ.M0 a (.lst ((aU ae.length []).map Dv.int))) l (.lst ((wl n (i+1)).map fun w=>.str (cZ w)))) l) d
     rw[dm];match q,e with
     |0,e=>cases e;exact oQ ae
     |1,e=>cases e;exact .int _
     |2,e=>cases e;exact .ptr (by rw[updM_same];rfl)
     |3,e=>cases e;exact .lst fun d hd=>by obtain⟨w,_,rfl⟩:=kt.mp hd;exact .str _
     |4,e=>cases e;exact .int _
     |5,e=>cases e;exact pw _
     |6,e=>exact p6 _ _ (gl e)
     |7,e=>exact nomatch e
     |q+8,e=>exact nomatch e
    ·have e:aN (au (au Γ.M0 a (.lst ((aU ae.length []).map Dv.int))) l (.lst ((wl n (i+1)).map fun w=>.str (cZ w)))) l c=some o:=e
     rw[dm]at e;exact .inl e
    ·show zAsg _ _ _ _ (aN (au (au Γ.M0 a (.lst ((aU ae.length []).map Dv.int))) l (.lst ((wl n (i+1)).map fun w=>.str (cZ w)))) l)
     rw[dm];simp! only[];exact hN _ _ ⟨⟨some (.int (i:Nat)),some (.lst ((wl n (i+1)).map fun w=>.str (cZ w))),x6,⟨(fun M d e=>by cases e;exact .int _),(fun M d e=>by cases e;exact pw _),p6⟩,rfl⟩,rfl⟩
  ·obtain⟨⟨x4,x5,x6,⟨p4,p5,p6⟩,rfl⟩,rfl⟩:=hJ;rw[rangeD_len];simp! only[];obtain⟨es,fZ⟩:∃es,es=uE ae n m:=⟨_,rfl⟩;refine bN (fun i ρ M2=>(∃x6 x7,ρ=[some (eN ae),some (.int (m:Nat)),some (.ptr a),some (.lst ((wl n m).map fun w=>.str (cZ w))),x4,x5,x6,x7])/\M2=au Γ.M0 a (.lst ((aU ae.length (es.take i)).map Dv.int))) ⟨⟨_,_,rfl⟩,rfl⟩ (fun i d ρ M2 N hd hJ hN=>?_) (fun ρ M2 hJ=>?_)
   ·obtain⟨⟨x6,x7,rfl⟩,rfl⟩:=hJ;rw[bv]at hd;obtain⟨v,hv,rfl⟩:=i0.mp hd;obtain⟨Xe,PX⟩:=CM (cr hv);have vT:=y8 O PX (gA O.one);have n6:es[i]?=some ((gI ae (aR ae.length) v).length,1) :=by
     rw[fZ];unfold uE;rw[bv,hv];rfl
    have Ti:=vT.len;have Tj:1<=(gI ae (aR ae.length) v).length :=by
     cases h:gI ae (aR ae.length) v with
     |nil=>exact absurd h vT.ne
     |cons _ _=>simp
    obtain⟨j,hj⟩:∃j,(gI ae (aR ae.length) v).length=j+1:=⟨(gI ae (aR ae.length) v).length - 1,by omega⟩
    have vU:j<ae.length :=by omega
    have iL:dj ((aU ae.length (es.take i)).map Dv.int) (j:Nat)=some (.int ((((es.take i).map fun e=>if e.1=j+1 then e.2 else 0).sum:Nat):Int)):=eh (by
     rw[bv,p8 vU];rfl)
    have qw:(aU ae.length (es.take i)).length=ae.length :=by simp[aU]
    have ex:fN (aU ae.length (es.take i)).length (j:Int)=some j :=by
     unfold fN;rw[qw,if_pos (by omega),if_pos (by omega),kw]
    simp! only[];refine⟨by omega,by omega,ae,n,aR ae.length,v,rfl,O,gA O.one,PX,by omega,?_⟩
    have ej:((gI ae (aR ae.length) v).length:Int) - 1=(j:Nat) :=by omega
    simp! only[eI,ej,iL,ex];refine hN _ _ ⟨⟨_,_,rfl⟩,?_⟩;rw[JJ,n6,hj];show _=au Γ.M0 a (.lst ((aU ae.length (es.take i++[(j+1,1)])).map Dv.int));rw[<- pz vU,YY];rfl
   ·obtain⟨⟨x6,x7,rfl⟩,rfl⟩:=hJ;have fP:es.length=((wl n m).map fun w=>Dv.str (cZ w)).length :=by rw[fZ];unfold uE;rw[ca,ca]
    rw[<- fP,Db,fZ];simp! only[];exact jP (.upd ha .refl) (kZ _) q
theorem m4:aW ["_law_script","_law_k","_law_bag_here","_law_net_here","_law_m"] ["_law_script"] (aj Cw):=⟨rfl,rfl,rfl,by decide +kernel,rfl,by decide +kernel,by decide +kernel⟩
theorem F2 (m:Nat) (h:m<=9) (es:List (Nat×Nat)):CF 1 (.tup ((aU m es).map Dv.int)) :=by
 refine⟨_,.inr rfl,by rw[ca];show ((io m).map _).length<=_;rw[ca,EM];omega,fun x hx=>?_⟩
 obtain⟨i,_,rfl⟩:=kt.mp hx;exact⟨i,rfl⟩
theorem F3 {d:Dv}{t:Dt}{M:Mh}{Q:ZK}(h:cB (now M d)=some t) (hp:i9 t<=60) (q:Q (.bl false) M):oO true d d M Q :=by
 unfold oO;rw[h];refine⟨hp,?_⟩;rw[kJ];exact q
theorem PY (rs:List Int):cB (.tup (rs.map Dv.int))=some (.tup (rs.map Dt.int)) :=by
 simp only[cB,yn,Fa]
theorem PZ (rs:List Int):i9 (.tup (rs.map Dt.int))<=60 :=by
 rw[i9];have:=KJ rs;omega
theorem P0 {f f1 f2 f3 f4 f5 f6 f7:al}{fd cI fd2 o9 Tn To Tp Tq:ln}(D:Df K mg "law" Cw ["_law_script"] f fd)
  (gC:Df K mg "_law_bag" ka ["_law_script","_law_at"] f1 cI) (CO:FnOk P w K mg base bw 1 f1 cI ["_law_script","_law_at"] (bp P w K tb Pl))
  (gD:Df K mg "_law_net" cP ["_law_bag_here","_law_most"] f2 fd2) (CP:FnOk P w K mg base bw 3 f2 fd2 ["_law_bag_here","_law_most"] (bp P w K tb Jw))
  (aq:Df K mg "_law_take" fH ["_law_bag_here","_law_many"] f3 o9) (bz:FnOk P w K mg base bw 1 f3 o9 ["_law_bag_here","_law_many"] (bp P w K tb pY))
  (dE:Df K mg "_law_by_words" dz ["_law_net_here","_law_m"] f4 Tn) (tF:FnOk P w K mg base bw 3 f4 Tn ["_law_net_here","_law_m"] (bp P w K tb y9))
  (b8:Df K mg "_law_by_bits" c9 ["_law_net_here","_law_m"] f5 To) (m5:FnOk P w K mg base bw 2 f5 To ["_law_net_here","_law_m"] (bp P w K tb Ba))
  (iA:Df K mg "counted" mn ["net","m"] f6 Tp) (pG:FnOk P w K mg base (gL P w) 11 f6 Tp ["net","m"] (bp P w K tb y0))
  (bH:Df K mg "_law_like" eO ["_law_found","_law_due"] f7 Tq) (gQ:FnOk P w K mg base bw 2 f7 Tq ["_law_found","_law_due"] (bp P w K tb (wI 1))) (bl:Bl mg) :
  FnOk P w K mg base bw 12 f fd ["_law_script"] (bp P w K tb Oz) :=by
 refine eW D m4 (fun ds M Q E hS=>by obtain⟨ns,e,_⟩:=hS;rw[e];rfl) fun A outer s E Γ ds Q' E' hP hw hK ht hr hS=>?_
 obtain⟨ns,e,hl,hM,q⟩:=hS;refine⟨_,(ai (dH v6 rfl (bM rfl bl.range_ (aa (ay (Oo rfl) rfl bl.max_ Nj (aa aw (aa (ay (EG rfl) rfl bl.min_ DQ (aa (ay (cD (K:=K) rfl hK) rfl bl.len_ nw (aa (qv 0) af)) (aa aw af))) af))) af)) (fun jQ eP ew eK et=>by have hP:=hP.trans eP.symm;have hw:=hw.trans ew.symm;have hK:=hK.trans eK.symm;have ht:=ht.trans et.symm;exact⟨(aE (i:=1) m4.nd rfl (li rfl)),(ai (aK (i:=2) m4.nd rfl (li rfl) (aG CO (hr.mono (by decide)) rfl gC.mg gC.fn.kp gC.bd bb hP hw hK ht XR.none (aa (qv 0) (aa (qv 1) af))))
  (ai (aK (i:=3) m4.nd rfl (li rfl) (aG CP (hr.mono (by decide)) rfl gD.mg gD.fn.kp gD.bd bb hP hw hK ht XR.none (aa (qv 2) (aa aw af))))
  (ai (aK (i:=4) m4.nd rfl (li rfl) (aG bz (hr.mono (by decide)) rfl aq.mg aq.fn.kp aq.bd bb hP hw hK ht XR.none (aa (qv 2) (aa aw af))))
  (ai (cq (bC jU (aG bz (hr.mono (by decide)) rfl aq.mg aq.fn.kp aq.bd bb hP hw hK ht XR.none (aa (qv 2) (aa aw af))) aw (bt _))
   (ai (aK (i:=4) m4.nd rfl (li rfl) (aG bz (hr.mono (by decide)) rfl aq.mg aq.fn.kp aq.bd bb hP hw hK ht XR.none (aa (qv 2) (aa aw af))))
  (av (cq (bC (Rn hr.units) (aG tF (hr.mono (by decide)) rfl dE.mg dE.fn.kp dE.bd bb hP hw hK ht XR.none (aa (qv 3) (aa (qv 4) af))) (aG m5 (hr.mono (by decide)) rfl b8.mg b8.fn.kp b8.bd bb hP hw hK ht XR.none (aa (qv 3) (aa (qv 4) af))) (bt _))
   (av (aS j5))
   qss_nil)))
   qss_nil)
  (av (cq (oK (fX (aG gQ (hr.mono (by decide)) rfl bH.mg bH.fn.kp bH.bd bb hP hw hK ht XR.none (aa (aG pG (hr.mono (by decide)) rfl iA.mg iA.fn.kp iA.bd Ra hP hw hK ht XR.none (aa (qv 3) (aa (qv 4) af))) (aa (aG m5 (hr.mono (by decide)) rfl b8.mg b8.fn.kp b8.bd bb hP hw hK ht XR.none (aa (qv 3) (aa (qv 4) af))) af)))))
   (av (aS j5))
   qss_nil))))))⟩))
  (av (aS j5))),?_⟩
 subst e;simp! only[];refine⟨by split<;>split<;>omega,by split<;>split<;>omega,?_⟩
 refine bN (fun k ρ M=>(∃x1 x2 x3 x4,ρ=[some (.bR ns),x1,x2,x3,x4])/\∀b o,M b=some o->o=.c6) ⟨⟨_,_,_,_,rfl⟩,fun b o e=>by rw[hM b]at e;cases e⟩ (fun k d ρ M N hd hJ hN=>?_) (fun ρ M _=>.inl (q _))
 obtain⟨⟨x1,x2,x3,x4,rfl⟩,hO⟩:=hJ;obtain⟨rfl,hk⟩:=cU hd;have hk:k<=20 :=by split at hk<;>split at hk<;>omega
 have big:(1000:Nat)<sizeLine :=by decide
 refine Jo (fun ρ M=>∃(ae:List (List Int)) (n m:Nat) (b:al),ρ=[some (.bR ns),some (.int (0+(k:Nat))),some (.ptr b),some (eN ae),some (.int (m:Nat))]/\bJ ae n/\m<=60/\∀c o,M c=some o->o=.c6) (fun N' vQ=>?_) (fun ρ M hI=>?_)
 ·simp! only[];have Tr:∀{b:al},∀c o,au M b .c6 c=some o->o=.c6:=fun {b} c o e=>by
   by_cases z:c=b
   ·subst z;rw[updM_same]at e;cases e;rfl
   ·rw[ao z]at e;exact hO c o e
  refine⟨ns,_,rfl,hl,by omega,by omega,fun b hb=>?_⟩
  refine⟨b,9,rfl,updM_same,by omega,by omega,fun ae n O _=>?_⟩
  refine⟨b,61,rfl,updM_same,by omega,by omega,fun m hm=>?_⟩
  refine⟨b,4,rfl,updM_same,by omega,by omega,fun d hd=>?_⟩
  refine fE (fun _=>?_) (fun _=>?_)
  ·refine⟨b,6,rfl,updM_same,by omega,by omega,fun m' Ad=>?_⟩
   refine⟨ae,n,m',rfl,O,by omega,ae,n,m',rfl,O,by omega,?_⟩
   rw[<- y2 O,CN O];refine F3 (by simp only[now];exact PY _) (PZ _) ?_
   show N' _ _;exact vQ _ _ ⟨ae,n,m',b,by rw[IN],O,by omega,Tr⟩
  ·exact vQ _ _ ⟨ae,n,m,b,by rw[IN],O,by omega,Tr⟩
 ·obtain⟨ae,n,m,b,rfl,O,hm,hO⟩:=hI;simp! only[];refine⟨ae,n,m,rfl,O,by omega,ae,n,m,rfl,O,by omega,?_⟩
  rw[<- y2 O];refine⟨_,rfl,F2 _ O.nine _,?_⟩;exact hN _ _ ⟨⟨_,_,_,_,rfl⟩,hO⟩
end
theorem all_mk {l:ZU}{w:ii}{K:bn}{h:hX}{mg:br->Option am}{fa:al}{tabs lts:List al}{C_RoadError C_NoNet:al}(X:K.In h) (G:h.Ns mainGlobals mg) (Xg:mg "law" = some (.ref fa))
  (T:FM (TabOf mg h) ["is_row","is_net"] tabs) (U:FM (TabOf mg h) ["images_met"] lts)
  (zQ:mT K mainGlobals "RoadError" = some (some (.ref C_RoadError)))
  (K8:mT K mainGlobals "NoNet" = some (some (.ref C_NoNet)))
  (eb:BR K C_RoadError [C_NoNet]=true) (X3:[C_NoNet].Nodup)
  (CQ:cn K "is_whole" gu)
  (rC:cn K "is_whole_below" d6)
  (Ia:cn K "is_row" lh)
  (Ib:cn K "is_net" lj)
  (CT:cn K "need_net" j8)
  (zb:cn K "all_places" gb)
  (mI:∃tk,oW K "first_met" jA (.int 511 tk))
  (zf:cn K "sign_image" d7)
  (zh:cn K "images_met" aJ)
  (CU:cn K "sets_met" j9)
  (tG:cn K "goals_of_sets" eE)
  (wq:cn K "one_sign_on" gT)
  (F4:cn K "counted" mn)
  (CV:cn K "_law_bag" ka)
  (zR:cn K "_law_take" fH)
  (zj:cn K "_law_order" gd)
  (CW:cn K "_law_net" cP)
  (zS:cn K "_law_like" eO)
  (uF:cn K "_law_set_led" eX)
  (wt:cn K "_law_led_by" gU)
  (tH:cn K "_law_bits_led" fS)
  (uG:cn K "_law_by_bits" c9)
  (tI:cn K "_law_by_words" dz)
  (RH:cn K "law" Cw)
  (RJ:mT K mainGlobals "len" = some none)
  (K9:mT K mainGlobals "range" = some none)
  (RK:mT K mainGlobals "min" = some none)
  (RL:mT K mainGlobals "max" = some none)
  (RN:mT K mainGlobals "abs" = some none)
  (P1:mT K mainGlobals "list" = some none)
  (La:mT K mainGlobals "tuple" = some none)
  (RO:mT K mainGlobals "int" = some none)
  (RP:mT K mainGlobals "str" = some none)
  (P2:mT K mainGlobals "bool" = some none)
  (zk:mT K mainGlobals "isinstance" = some none)
  (RQ:mT K mainGlobals "all" = some none)
  (RT:mT K mainGlobals "set" = some none)
  (Ic:mT K mainGlobals "sorted" = some none)
  (RU:mT K mainGlobals "zip" = some none)
  (zT:mT K mainGlobals "enumerate" = some none)
  (RV:mT K mainGlobals "sum" = some none)
  (CY:mT K mainGlobals "reversed" = some none)
  (Ie:mT K mainGlobals "divmod" = some none)
  (RW:mT K mainGlobals "any" = some none)
  (zm:mT K mainGlobals "ValueError" = some none)
  (uH:∃tk,mT K mainGlobals "SIGNS" = some (some (.str "abc" tk)))
  (jV:∃tk,mT K mainGlobals "MOST_PLACES" = some (some (.int 9 tk)))
  : ∃fd:ln,(∀(s:ar) (v:am),ZB s fd ⟨[v],[]⟩ [("_law_script",v)])/\∀base:hX,K.In base->base.Ns mainGlobals mg->(∃bm ob,Y9 base mainGlobals mg bm ob)->(∀c p,wb h c p->wb base c p)->FnOk l.prog w K mg base bw 12 fa fd ["_law_script"] (spLaw K ⟨tabs,lts.zip [qI]⟩) :=by
 obtain⟨RX,Qh,dh⟩:=CQ.df X G ["thing"] fun _ _ _ _ _ _ us hl=>match us,hl with | [_],_=>rfl
 obtain⟨Ig,F7,bW⟩:=rC.df X G ["thing","many"] fun _ _ _ _ _ _ us hl=>match us,hl with | [_,_],_=>rfl
 obtain⟨UZ,Ts,h8⟩:=Ia.df X G ["thing","many","width"] fun _ _ _ _ _ _ us hl=>match us,hl with | [_,_,_],_=>rfl
 obtain⟨U0,Tt,ia⟩:=Ib.df X G ["thing"] fun _ _ _ _ _ _ us hl=>match us,hl with | [_],_=>rfl
 obtain⟨RY,Qi,dR⟩:=CT.df X G ["thing"] fun _ _ _ _ _ _ us hl=>match us,hl with | [_],_=>rfl
 obtain⟨P4,Lj,bE⟩:=zb.df X G ["net"] fun _ _ _ _ _ _ us hl=>match us,hl with | [_],_=>rfl
 obtain⟨P5,mI⟩:=mI;obtain⟨Qj,P6,fJ⟩:=mI.df X G ["start","width","step","most"] (fun _ _ _ _ _ _ _ us hl=>match us,hl with | [_,_,_],_=>⟨_,rfl,rfl⟩) fun _ _ _ _ _ _ _ us hl=>match us,hl with | [_,_,_,_],_=>⟨_,rfl,rfl⟩
 obtain⟨P7,Lk,bD⟩:=zf.df X G ["net","places","at"] fun _ _ _ _ _ _ us hl=>match us,hl with | [_,_,_],_=>rfl
 obtain⟨P8,Ln,cx⟩:=zh.df X G ["net","places"] fun _ _ _ _ _ _ us hl=>match us,hl with | [_,_],_=>rfl
 obtain⟨RZ,Qk,gB⟩:=CU.df X G ["net"] fun _ _ _ _ _ _ us hl=>match us,hl with | [_],_=>rfl
 obtain⟨JK,Ih,dC⟩:=tG.df X G ["net"] fun _ _ _ _ _ _ us hl=>match us,hl with | [_],_=>rfl
 obtain⟨Lp,Lb,eu⟩:=wq.df X G ["words","goals"] fun _ _ _ _ _ _ us hl=>match us,hl with | [_,_],_=>rfl
 obtain⟨Tu,R1,iA⟩:=F4.df X G ["net","m"] fun _ _ _ _ _ _ us hl=>match us,hl with | [_,_],_=>rfl
 obtain⟨R3,Ql,gC⟩:=CV.df X G ["_law_script","_law_at"] fun _ _ _ _ _ _ us hl=>match us,hl with | [_,_],_=>rfl
 obtain⟨Qm,P9,aq⟩:=zR.df X G ["_law_bag_here","_law_many"] fun _ _ _ _ _ _ us hl=>match us,hl with | [_,_],_=>rfl
 obtain⟨Qa,Lq,cQ⟩:=zj.df X G ["_law_bag_here","_law_many"] fun _ _ _ _ _ _ us hl=>match us,hl with | [_,_],_=>rfl
 obtain⟨R4,Qn,gD⟩:=CW.df X G ["_law_bag_here","_law_most"] fun _ _ _ _ _ _ us hl=>match us,hl with | [_,_],_=>rfl
 obtain⟨Qo,Qb,bH⟩:=zS.df X G ["_law_found","_law_due"] fun _ _ _ _ _ _ us hl=>match us,hl with | [_,_],_=>rfl
 obtain⟨Lc,JL,dW⟩:=uF.df X G ["_law_net_here","_law_places","_law_k"] fun _ _ _ _ _ _ us hl=>match us,hl with | [_,_,_],_=>rfl
 obtain⟨Lr,Ld,eA⟩:=wt.df X G ["_law_net_here","_law_places","_law_word"] fun _ _ _ _ _ _ us hl=>match us,hl with | [_,_,_],_=>rfl
 obtain⟨JM,Ii,dD⟩:=tH.df X G ["_law_net_here","_law_bits","_law_k"] fun _ _ _ _ _ _ us hl=>match us,hl with | [_,_,_],_=>rfl
 obtain⟨Le,JN,b8⟩:=uG.df X G ["_law_net_here","_law_m"] fun _ _ _ _ _ _ us hl=>match us,hl with | [_,_],_=>rfl
 obtain⟨JO,Ij,dE⟩:=tI.df X G ["_law_net_here","_law_m"] fun _ _ _ _ _ _ us hl=>match us,hl with | [_,_],_=>rfl
 obtain⟨Xn,Qc,CZ⟩:=RH.df X G ["_law_script"] fun _ _ _ _ _ _ us hl=>match us,hl with | [_],_=>rfl
 have Qp:=SS X G zQ;have um:=SS X G K8;have X_:=Kp eb;have uk:C_NoNet∈[C_NoNet] :=by simp
 have e:=Xg.symm.trans CZ.mg;cases e;have bl:Bl mg:=⟨mv X G RJ,mv X G K9,mv X G RK,mv X G RL,mv X G RN,mv X G P1,mv X G La,mv X G RO,mv X G RP,mv X G P2,mv X G zk,mv X G RQ,mv X G RT,mv X G Ic,mv X G RU,mv X G zT,mv X G RV,mv X G CY,mv X G Ie,mv X G RW,mv X G zm⟩;obtain⟨U1,uH⟩:=uH;have lu:=SS X G uH;obtain⟨Lf,jV⟩:=jV;have jr:=SS X G jV;obtain⟨bo,Tv,rfl,Ik,T⟩:=mB T;obtain⟨bG,Tw,rfl,Il,T⟩:=mB T;cases T;obtain⟨aM,Ls,rfl,zp,U⟩:=mB U;cases U;refine⟨Qc,fun s v=>CZ.bind1 s v (by intros;rfl),fun base _ _ eU tr=>?_⟩
 obtain⟨nG,jq⟩:=xx h8 X Ik tr;obtain⟨yQ,nH⟩:=xx ia X Il tr;obtain⟨px,iV⟩:=xx cx X zp tr;have F5:bo∈(⟨[bo,bG],[(aM,qI)]⟩:cG) :=by show _∈[bo,bG];simp
 have F6:bG∈(⟨[bo,bG],[(aM,qI)]⟩:cG) :=by show _∈[bo,bG];simp
 have jt:(aM,qI)∈(⟨[bo,bG],[(aM,qI)]⟩:cG).l :=by simp
 have ju:∀q∈(⟨[bo,bG],[(aM,qI)]⟩:cG).l,q.1=aM->q.2=qI :=by simp
 have ra:=FI (P:=l.prog) (w:=w) (tb:=(⟨[bo,bG],[(aM,qI)]⟩:cG)) ia nH F6 h8 jq F5 eU bW dh bl jr;have ke:=zM dR ia ra X_ uk um;have iX:=we (P:=l.prog) (w:=w) (tb:=(⟨[bo,bG],[(aM,qI)]⟩:cG)) cx iV eU jt ju fJ bD bl lu;have gf:=oe (P:=l.prog) (w:=w) (base:=base) (tb:=(⟨[bo,bG],[(aM,qI)]⟩:cG)) bD bl;have d9:=wj (P:=l.prog) (w:=w) (base:=base) (tb:=(⟨[bo,bG],[(aM,qI)]⟩:cG)) bE bl;have nM:=(zO gB dR ke cx iX bE d9 bl).2;have Lg:=rn dC gB nM bD gf bl;have R5:=ux (P:=l.prog) (w:=w) (base:=base) (tb:=(⟨[bo,bG],[(aM,qI)]⟩:cG)) eu bl;have pG:=CL iA dC Lg bE d9 eu R5 bl;have zq:=Pn (tb:=(⟨[bo,bG],[(aM,qI)]⟩:cG)) (zI (P:=l.prog) (w:=w) (base:=base) aq);have R6:=RE (tb:=(⟨[bo,bG],[(aM,qI)]⟩:cG)) (Cy (P:=l.prog) (w:=w) (base:=base) gC bl);have Lh:=yM cQ aq zq bl;have R7:=CA gD aq zq cQ Lh bl;have Qd:=tq (P:=l.prog) (w:=w) (base:=base) (tb:=(⟨[bo,bG],[(aM,qI)]⟩:cG)) dD bl;have Qe:=uB b8 dD Qd bl;have Qf:=uC (P:=l.prog) (w:=w) (base:=base) (tb:=(⟨[bo,bG],[(aM,qI)]⟩:cG)) dW bl;have R8:=wm eA dW Qf bl;have Li:=tE dE eA R8 bl;have Qg:=FN bH (FL (P:=l.prog) (w:=w) (base:=base) (tb:=(⟨[bo,bG],[(aM,qI)]⟩:cG)) bH bl) bl;exact OA (P0 CZ gC R6 gD R7 aq zq dE Li b8 Qe iA pG bH Qg bl)
theorem walk {l:ZU}{q:en}{loose:List br}{XP:(br->Option am)->hX->Prop}{YP:ii->hX->Prop}{d:DefRec}{K:Z9->bn}(hn:l.most=some 63) (DE:d.params.defaults=[])
  (E6:∀w:ii,Zk (K w.params)=true) (Jn:∀y∈((["is_row","is_net"]:List br)++(["images_met"]:List br)),∃r∈recsOf q,r.name=y) (qk:∀w:ii,ud (K w.params) ["is_row","is_net"] ["images_met"]=true) (hY:∀(w:ii) (h:hX),YP w h->(K w.params).In h)
  (F:∀(w:ii) (mg:br->Option am) (fa:al) (h:hX) (tabs lts:List al),(K w.params).In h->h.Ns mainGlobals mg->mg d.name=some (.ref fa)->
   FM (TabOf mg h) ["is_row","is_net"] tabs->FM (TabOf mg h) ["images_met"] lts->
   ∃fd:ln,(∀(s:ar) (u:am),ZB s fd ⟨[u],[]⟩ [("_law_script",u)]) /\
    ∀base:hX,(K w.params).In base->base.Ns mainGlobals mg->(∃bm ob,Y9 base mainGlobals mg bm ob)->(∀c p,wb h c p->wb base c p)->FnOk l.prog w (K w.params) mg base bw 12 fa fd ["_law_script"] (spLaw (K w.params) ⟨tabs,lts.zip [qI]⟩)) :
  PySem.W.WalkO q loose XP YP l.row.toRowW d [] (fun f vs=>Z0 f vs):=
 L2.Hy (n:=63) (k:=12) (x := "_law_script") (CX:=bw) (sp:=fun K tabs lts=>spLaw K ⟨tabs,lts.zip [qI]⟩) hn (by decide) DE ⟨rfl,by decide,by decide⟩ E6 Jn qk hY F (fun _ _ _ _ a ns hl hn hT hL hS=>Hz hl hn hT hL hS) fun _ _ _ _ z=>z
end My
open PySem PySem.W PyProof.Rows L2
set_option maxRecDepth 100000 in
set_option maxHeartbeats 0 in
theorem PySem.Challenge.cw_roadcall_k37_words_counted_holds : PySem.Challenge.rw_roadcall_k37_words_counted.Holds := by
 w_on;o_law
 refine My.JP (q:=My.kq) (loose:=My.kL) (H:=My.kH) My.left (by rfl) (by rfl) (by rfl) (by rfl) (by first|assumption|decide +kernel) (by decide +kernel) ⟨rfl,rfl,rfl,rfl,rfl,by decide +kernel⟩ ?hw ?hc
 (case hw=>w_witness2)
 refine My.walk (l:=PySem.Challenge.rw_roadcall_k37_words_counted) rfl rfl (fun w=>by kernel_rfl) (recs_of (by decide +kernel)) (fun w=>by kernel_rfl) (fun w h Y=>Y) ?F
 intro w mg fa h tabs lts KX G DF T U;exact My.all_mk (C_RoadError:=24) (C_NoNet:=37) KX G DF T U
  (by kernel_rfl)
  (by kernel_rfl)
  (by kernel_rfl)
  (by decide)
  (L2.bu (f:=46) (oc:=.type "function") (od:=none) (sl:=#[]) (kV:=.none) (dc:=.none) (pm:=My.vS "roadcall.whole" 223) (an:=none) (cd:=.ref 45) (ct:=.none) (by kernel_rfl) (by kernel_rfl) (by kernel_rfl) (by kernel_rfl))
  (L2.bu (f:=53) (oc:=.type "function") (od:=none) (sl:=#[]) (kV:=.none) (dc:=.none) (pm:=My.vS "roadcall.whole" 223) (an:=none) (cd:=.ref 52) (ct:=.none) (by kernel_rfl) (by kernel_rfl) (by kernel_rfl) (by kernel_rfl))
  (L2.bu (f:=60) (oc:=.type "function") (od:=none) (sl:=#[]) (kV:=.none) (dc:=.none) (pm:=My.vS "roadcall.nets" 240) (an:=none) (cd:=.ref 59) (ct:=.none) (by kernel_rfl) (by kernel_rfl) (by kernel_rfl) (by kernel_rfl))
  (L2.bu (f:=67) (oc:=.type "function") (od:=none) (sl:=#[]) (kV:=.none) (dc:=.none) (pm:=My.vS "roadcall.nets" 240) (an:=none) (cd:=.ref 66) (ct:=.none) (by kernel_rfl) (by kernel_rfl) (by kernel_rfl) (by kernel_rfl))
  (L2.bu (f:=74) (oc:=.type "function") (od:=none) (sl:=#[]) (kV:=.none) (dc:=.none) (pm:=My.vS "roadcall.nets" 240) (an:=none) (cd:=.ref 73) (ct:=.none) (by kernel_rfl) (by kernel_rfl) (by kernel_rfl) (by kernel_rfl))
  (L2.bu (f:=81) (oc:=.type "function") (od:=none) (sl:=#[]) (kV:=.none) (dc:=.none) (pm:=My.vS "roadcall.nets" 240) (an:=none) (cd:=.ref 80) (ct:=.none) (by kernel_rfl) (by kernel_rfl) (by kernel_rfl) (by kernel_rfl))
  (L2.Fb (f:=89) (oc:=.type "function") (od:=none) (sl:=#[]) (T:=82) (oT:=⟨.type "tuple",none,.seq #[.int 511 281] 0,#[]⟩) (kV:=.none) (dc:=.none) (pm:=My.vS "roadcall.ways" 279) (an:=none) (cd:=.ref 88) (ct:=.none) (by kernel_rfl) (by kernel_rfl) (by kernel_rfl) (by kernel_rfl) (by kernel_rfl) rfl)
  (L2.bu (f:=94) (oc:=.type "function") (od:=none) (sl:=#[]) (kV:=.none) (dc:=.none) (pm:=My.vS "roadcall.words" 298) (an:=none) (cd:=.ref 93) (ct:=.none) (by kernel_rfl) (by kernel_rfl) (by kernel_rfl) (by kernel_rfl))
  (L2.bu (f:=101) (oc:=.type "function") (od:=none) (sl:=#[]) (kV:=.none) (dc:=.none) (pm:=My.vS "roadcall.words" 298) (an:=none) (cd:=.ref 100) (ct:=.none) (by kernel_rfl) (by kernel_rfl) (by kernel_rfl) (by kernel_rfl))
  (L2.bu (f:=108) (oc:=.type "function") (od:=none) (sl:=#[]) (kV:=.none) (dc:=.none) (pm:=My.vS "roadcall.callers" 315) (an:=none) (cd:=.ref 107) (ct:=.none) (by kernel_rfl) (by kernel_rfl) (by kernel_rfl) (by kernel_rfl))
  (L2.bu (f:=113) (oc:=.type "function") (od:=none) (sl:=#[]) (kV:=.none) (dc:=.none) (pm:=My.vS "roadcall.callers" 315) (an:=none) (cd:=.ref 112) (ct:=.none) (by kernel_rfl) (by kernel_rfl) (by kernel_rfl) (by kernel_rfl))
  (L2.bu (f:=120) (oc:=.type "function") (od:=none) (sl:=#[]) (kV:=.none) (dc:=.none) (pm:=My.vS "roadcall.callers" 315) (an:=none) (cd:=.ref 119) (ct:=.none) (by kernel_rfl) (by kernel_rfl) (by kernel_rfl) (by kernel_rfl))
  (L2.bu (f:=127) (oc:=.type "function") (od:=none) (sl:=#[]) (kV:=.none) (dc:=.none) (pm:=My.vS "roadcall.callers" 315) (an:=none) (cd:=.ref 126) (ct:=.none) (by kernel_rfl) (by kernel_rfl) (by kernel_rfl) (by kernel_rfl))
  (L2.bu (f:=134) (oc:=.type "function") (od:=none) (sl:=#[]) (kV:=.none) (dc:=.none) (pm:=My.vS "law_roadcall_k37_words_counted" 356) (an:=none) (cd:=.ref 133) (ct:=.none) (by kernel_rfl) (by kernel_rfl) (by kernel_rfl) (by kernel_rfl))
  (L2.bu (f:=141) (oc:=.type "function") (od:=none) (sl:=#[]) (kV:=.none) (dc:=.none) (pm:=My.vS "law_roadcall_k37_words_counted" 356) (an:=none) (cd:=.ref 140) (ct:=.none) (by kernel_rfl) (by kernel_rfl) (by kernel_rfl) (by kernel_rfl))
  (L2.bu (f:=146) (oc:=.type "function") (od:=none) (sl:=#[]) (kV:=.none) (dc:=.none) (pm:=My.vS "law_roadcall_k37_words_counted" 356) (an:=none) (cd:=.ref 145) (ct:=.none) (by kernel_rfl) (by kernel_rfl) (by kernel_rfl) (by kernel_rfl))
  (L2.bu (f:=151) (oc:=.type "function") (od:=none) (sl:=#[]) (kV:=.none) (dc:=.none) (pm:=My.vS "law_roadcall_k37_words_counted" 356) (an:=none) (cd:=.ref 150) (ct:=.none) (by kernel_rfl) (by kernel_rfl) (by kernel_rfl) (by kernel_rfl))
  (L2.bu (f:=156) (oc:=.type "function") (od:=none) (sl:=#[]) (kV:=.none) (dc:=.none) (pm:=My.vS "law_roadcall_k37_words_counted" 356) (an:=none) (cd:=.ref 155) (ct:=.none) (by kernel_rfl) (by kernel_rfl) (by kernel_rfl) (by kernel_rfl))
  (L2.bu (f:=161) (oc:=.type "function") (od:=none) (sl:=#[]) (kV:=.none) (dc:=.none) (pm:=My.vS "law_roadcall_k37_words_counted" 356) (an:=none) (cd:=.ref 160) (ct:=.none) (by kernel_rfl) (by kernel_rfl) (by kernel_rfl) (by kernel_rfl))
  (L2.bu (f:=168) (oc:=.type "function") (od:=none) (sl:=#[]) (kV:=.none) (dc:=.none) (pm:=My.vS "law_roadcall_k37_words_counted" 356) (an:=none) (cd:=.ref 167) (ct:=.none) (by kernel_rfl) (by kernel_rfl) (by kernel_rfl) (by kernel_rfl))
  (L2.bu (f:=175) (oc:=.type "function") (od:=none) (sl:=#[]) (kV:=.none) (dc:=.none) (pm:=My.vS "law_roadcall_k37_words_counted" 356) (an:=none) (cd:=.ref 174) (ct:=.none) (by kernel_rfl) (by kernel_rfl) (by kernel_rfl) (by kernel_rfl))
  (L2.bu (f:=180) (oc:=.type "function") (od:=none) (sl:=#[]) (kV:=.none) (dc:=.none) (pm:=My.vS "law_roadcall_k37_words_counted" 356) (an:=none) (cd:=.ref 179) (ct:=.none) (by kernel_rfl) (by kernel_rfl) (by kernel_rfl) (by kernel_rfl))
  (L2.bu (f:=185) (oc:=.type "function") (od:=none) (sl:=#[]) (kV:=.none) (dc:=.none) (pm:=My.vS "law_roadcall_k37_words_counted" 356) (an:=none) (cd:=.ref 184) (ct:=.none) (by kernel_rfl) (by kernel_rfl) (by kernel_rfl) (by kernel_rfl))
  (L2.bu (f:=192) (oc:=.type "function") (od:=none) (sl:=#[]) (kV:=.none) (dc:=.none) (pm:=My.vS "law_roadcall_k37_words_counted" 356) (an:=none) (cd:=.ref 191) (ct:=.none) (by kernel_rfl) (by kernel_rfl) (by kernel_rfl) (by kernel_rfl))
  (by kernel_rfl)
  (by kernel_rfl)
  (by kernel_rfl)
  (by kernel_rfl)
  (by kernel_rfl)
  (by kernel_rfl)
  (by kernel_rfl)
  (by kernel_rfl)
  (by kernel_rfl)
  (by kernel_rfl)
  (by kernel_rfl)
  (by kernel_rfl)
  (by kernel_rfl)
  (by kernel_rfl)
  (by kernel_rfl)
  (by kernel_rfl)
  (by kernel_rfl)
  (by kernel_rfl)
  (by kernel_rfl)
  (by kernel_rfl)
  (by kernel_rfl)
  ⟨242,by kernel_rfl⟩
  ⟨244,by kernel_rfl⟩
