import PyProof.Rows.All
import Wide.All
import OpenK.AllK
import Wide.FinOn
import Lean
import PySem.Challenge.RW_roadcall_k08_weights
import PyProof.EqAt
import PyProof.EqKinds
import PyProof.TupleCall
import PyProof.NeKinds
import PyProof.EnumMake
import PyProof.EnumFor
import PyProof.ZipIter
import PyProof.Rows.ZipGen
import KE.KLam
import PyProof.DictItems
import KE.KTurnsDict
import KE.KPairComp
import KE.KDictList
import KE.KRevSl
import KE.KRevIter
import PyProof.FitsBits
import PyProof.NoPylong
open PySem renaming Addr->ac,wpAny_bind->ag,Value->al,Shared->ba,Str->bn,wpAny_pure->ce,Expr->db,Program->gc,Heap->hX,World->i4,Obj->li,FuncData->l8,wpAny_mono->mf,Around->rb,boot_len->r9,Stmt->tw,Builtin->tz,Scope->wp,Pos->wE,mem_of_lookup->xp,wpAny_callSpecial?_slot->xy,seg_bind_wrap->xz,wpAny_call_entry->xL,wpAny_newObj_type->zw,Spec->AE,wpAny_setField_rec->AM,wpAny_loadPart'->BB,wpAny_truthy_bool->Cc,wpAny_field->Ch,wpAny_standAt->Db,wpAny_attempt->Do,wpAny_Call_Name_kw->DD,Paired->Go,wpAny_holding->GE,wpAny_seqItems->GG,IsPair->IS,wpAny_rule->LM,plainId_quiet->LP,wpAny_isInstance->LS,Env->Mn,wpAny_typeNameOfWhole_keyiter->Os,Arguments->OL,TriplesOk->OP,wpAny_passesOwn->Pf,codeAny_builtin->Po,wpAny_updateSeq->Ps,typeIs_int->PP,call_meets->P3,NameKind->Sm,wpAny_comprehension_free->SC,wpAny_setEntries_of->SS,SetTable->UV,wpAny_fieldsOf->WP,CmpOp->XN,sizeLine_eq->XV,wpAny_letGo->XW,wpAny_binaryOp_repeat_ref->XZ,IsZip->X3,DictEntry->X6,GenState->X7,wpAny_pyIter_tuple->X8,wpAny_of_in1->Yb,tupleKind_room_in1->Yd,Keyword->Yf,wpAny_setState_of->Yl,IsEnum->Yr,wpAny_askSetting->Yx,Sem->YD,seg_again->YE,Tok->YJ,wpAny_execs_nil->YL,wpAny_updateSeq_pair->YR,isSubtype_stop->Y0,wpAny_of_eq->Y3,Result->Ze,call_function_tree->Zh,wpAny_onRaise->Zp,wpAny_assign_Name->Zt,wpAny_pyIter_list->Zu,wpAny_pyIter_slot->Zx,wpAny_dictEntries->Zy,BindsTo->ZD,codeAny_mono->ZF,noFill_tuple_add->ZG,PassesOwn->ZS,pushCells_keeps->ZU,wpAny_dictEpoch->ZW,call->Z1,wpAny_call->Z2,ZipApart->Z4,Params->Z6,IsEnumOut->Z8,Model->Z9
open List renaming getElem?_eq_getElem->ap,getElem?_map->br,getElem?_eq_some_iff->bv,length_map->ci,getD_eq_getElem?_getD->cr,mem_of_getElem?->dL,mem_append_right->f8,size_toArray->ii,replicate->io,mem_cons_of_mem->i0,range->jp,mem_cons->kw,mem_singleton->lp,mem_cons_self->ma,mem_iff_getElem?->mo,mem_map->on,map_cons->ss,map_map->sB,getElem?_append_left->ut,mem_append_left->u7,getElem_mem->u8,length_append->wb,all_eq_true->wn,mem_append->wv,getElem?_eq_none->wP,getElem?_append_right->wS,getElem?_range->xw,getElem?_zip_eq_some->zd,replicate_succ->ze,map_append->zn,getElem?_replicate->BS,Nodup->Cf,not_mem_nil->Cs,map_congr_left->CS,lookup_cons->EQ,length_replicate->Fa,length_range->GM,append_nil->Is,drop_eq_getElem_cons->Ix,getElem?_cons_succ->IT,flatten_cons->JJ,ext_getElem?->KM,getElem?_set->Ll,length_set->Lu,nil_append->LB,take_of_length_le->LG,length_cons->Mc,mem_range->Me,length_singleton->Na,mem_filter->Nl,length_zip->NH,append_assoc->On,eq_nil_of_length_eq_zero->Op,nodup_cons->Pi,pairwise_iff_getElem->Re,getElem?_eq_none_iff->Rs,map_nil->SB,filter_cons->SI,filterMap_cons->SO,of_mem_zip->TM,length_nil->Uf,find?_cons->UF,zip_cons_cons->US,length_pos_of_mem->Wp,getElem?_reverse->WS,take_succ->XJ,drop_length->XO,any_cons->XU,length_reverse->XY,forIn_cons->X0,mem_or_eq_of_mem_set->X5,getElem?_take_of_lt->X9,getElem?_set_self->Yn,all_cons->Ys,length_take->Yv,take_length->YB,Perm->YF,length_filter_le->YI,foldl_cons->YN,getElem?_append->YT,range_succ->YU,forIn_nil->Y1,take_zero->Y2,mem_filterMap->Zd,getElem?_drop->Zg,map_take->Zq,foldl_append->Zz,nodup_append->ZA,foldl->ZB,length_drop->ZH,cons_append->ZN,map_set->ZO,map->Z5
open PySem.W renaming Frag->bi,nsIn->nw,mg_none_of->r6,CodeHd->u4,fnOf->B0,hideAll->Co,keepIn->EU,kia_one->Fk,mg_of->IN,codeIn->MW,kla_obj->Pv,tabObj->Sk,envX->SL,hideAll_get->XX,looseW->YX,kitOne->YZ,of_hideAll->Zb,kb_classed->Zi,recOk->Zl,excIn->Zo,methodObj->Zs,xlAt->ZE,opening->ZQ,instObj->ZR,OpenLaw->ZV
open PySem.Heap renaming get?_push_of_some->cb,get?_push_size->ff,lt_size->ij,get?_update_other->wT,get?_update_self->AC,SameBut->AL,size_push->AS,ExtBut->Y4
open Nat renaming le_refl->c8,ne_of_lt->l7,lt_of_lt_of_le->l9,le_trans->wr,zero_le->xb,lt_irrefl->ET,lt_succ_self->Gc,lt_succ_of_lt->KB,le_succ->LF,ne_of_gt->No,gcd->OF,le_of_lt->ON,min_self->Pd,lt_of_le_of_lt->Pe,sub_self->W1,pow_le_pow_right->XS,not_lt_zero->X1,lt_trans->Yc,le_of_eq->Ye,le_of_not_lt->Yw,le_add_right->Yz,strongRecOn->YQ,mod_lt->ZC,not_lt->Z3
open Bool renaming false_ne_true->im,false_eq_true->l6,and_eq_true->EO,eq_iff_iff->TD,false_and->WF,or_eq_true->X2,true_and->Yu,not_true->Zn
open Option.some renaming inj->i8,injEq->Lo
open Option renaming map_eq_some_iff->lc,map_some->AT,some->VT,isSome_map->WE,toList_some->Zk,join_some->ZL,bind_some->ZM,getD_some->ZP
open PySem.SeqAt renaming EqAt->l4,RcAt->qr
open PySem.Value renaming ref->l5,none->GS,type->LH,int->Tl,builtin->Yt,str->YC,bool->YK
open Or renaming inl->mT,inr->FF
open PySem.Str renaming ofString->sw
open PySem.PassesOwn renaming never->sK
open PySem.NameKind renaming free->v6,cell->Tk
open Int renaming toNat_natCast->At,eq_ofNat_of_zero_le->BY,zero_add->DO,le_of_lt->EM,mul_le_mul_of_nonneg_right->EN,pow_pos->OK,mul_assoc->PM,mul_le_mul_of_nonneg_left->WA,mul_comm->XM,emod_nonneg->X4,mul_nonneg->Yg,le_refl->Y6,mul_add->Y7,natAbs_natCast->Zj,mul_pos->ZY,pow_add->ZZ
open Ne renaming symm->AN
open Array renaming length_toList->BN,getElem?_eq_getElem->Nd,getElem?_toList->WI,getElem?_eq_none->Yq,toList_append->YV
open PySem.SetTable renaming below->Cn
open PyProof.Rows renaming callWith_type1->Da,callWith_builtin1->TW,IntsAre->WJ,BMod->Yj,boot_sum->YH,assignInOrder_cons->Zc,AllBare->Z0
open PySem.F renaming slot_dict_keyiterator_next->ES,plainAttrs_list->FM,slot_list_append->NJ,type_list_append->NL,slot_int_rmul->T0,plain_sum_loop->XQ,args_tuple_add_2->Ya,entry_tuple_add->Yh,plain_list_iadd->Ym,slot_tuple_add->Yo,plain_all_loop->Yy,slot_tuple_mul->YA,args_int_rmul_2->Zv,slot_int_index->ZI,entry_int_rmul->ZJ,fills_int_mul->ZT
open PySem.Obj renaming mapSeq->FS,data_mapFields->OR,isFreed_of_fields->YG,cls_mapFields->Zw
open False renaming elim->GT
open Sum renaming inl->ID,inr->YY
open PySem.Calls renaming spliced_cons->IF,spliced_nil->NO
open True renaming intro->NE
open PySem.Around renaming under_plainId->NG
open Classical renaming propDecidable->OE
open PySem.Builtin.List renaming listExtendWith->Pc,listTooLong->So
open PySem.W.Fast renaming tw821141287760084731->RI
open PySem.Heap.SameBut renaming update->SZ
open PySem.Paired renaming length->XT
open PySem.Sem renaming bind_eq_wrap'->Yi,onRaise_eq_wrap->YW,wrap_wrap->Zm
open PySem.SetTable.below renaming go->Yk
open PySem.SeqAt.EqAt renaming same->YM,int_str->Y8,str_int->Za,int_int->Zf
open ForInStep renaming yield->YO
open And renaming intro->Z7
set_option linter.all false
set_option Elab.async false
set_option maxRecDepth 100000
namespace My
open PySem PyProof.Rows
def kA (s:tw):OL:=match s with
 | .FunctionDef _ a _ _ _ _ _ _ _ _=>a
 |_=>{posonlyargs:=[],args:=[],vararg:=none,kwonlyargs:=[],kw_defaults:=[],kwarg:=none,defaults:=[]}
def kB (s:tw):List tw:=match s with
 | .FunctionDef _ _ b _ _ _ _ _ _ _=>b
 |_=>[]
def kS (s:tw):wp:=match s with
 | .FunctionDef _ _ _ _ _ _ sc _ _ _=>sc
 |_=>{kind:=.function,names:=[],isGenerator:=false,isCoroutine:=false}
def vS (x:String) (t:Nat):al:=.str (sw x) t
def kE (P:Z6) (x:String) (t:Nat) (v:al):X6:=⟨PyData.keyHash P (sw x),vS x t,v⟩
def kF (i:Nat) (x:String) (d m:al) (c:Nat):li:=let st:=PySem.Challenge.pw_roadcall_k08_weights.main.body.getD i (.Pass ⟨0,0,0,0⟩);⟨.type "function",none,.func (B0 (sw x) (sw x) (kA st) (kB st) (kS st) d .none .none m none (.ref c) .none),#[]⟩
def kC (x:String) (t:Nat) (l n f:Int) (a:Nat) (b:Bool) (m:Int) (p:Nat) (u z:al) (q:Nat) (e:Int) (t2:Nat):li:=⟨.type "code",none,.fields #[vS x t,vS x (t+1),vS "/claim/cut.py" (t+2),.int l 0,.int n 0,.int 0 0,.int 0 0,.int f 0,.ref a,.bool b,.int m 0,.ref p,.none,u,z,.ref q,.int e 0,.int l 0,vS "/claim/cut.py" t2],#[]⟩
def kK (P:Z6):bi:=[(2,⟨.none,none,.dict [].toArray 0,#[]⟩),
 (3,⟨.type "dict",none,.dict [kE P "__name__" 165 (vS "law_roadcall_k08_weights" 418),kE P "__doc__" 166 .none,kE P "__package__" 167 .none,kE P "__loader__" 168 (.builtin "__main__.__loader__#opaque"),kE P "__spec__" 169 .none,kE P "__annotations__" 170 (.ref 6),kE P "__builtins__" 171 (.ref 4),kE P "__file__" 173 (vS "/claim/cut.py" 172),kE P "__cached__" 174 .none,kE P "RoadError" 206 (.ref 24),kE P "NoNet" 222 (.ref 37),kE P "NoPlace" 238 (.ref 49),kE P "NoSign" 254 (.ref 61),kE P "NoWord" 270 (.ref 73),kE P "NoWhole" 286 (.ref 85),kE P "is_whole" 295 (.ref 94),kE P "is_whole_below" 303 (.ref 101),kE P "common_divisor" 311 (.ref 108),kE P "SIGNS" 315 (vS "abc" 314),kE P "MOST_PLACES" 317 (.int 9 316),kE P "is_row" 327 (.ref 115),kE P "is_net" 336 (.ref 122),kE P "need_net" 343 (.ref 129),kE P "MOST_SETS" 347 (.int 511 346),kE P "first_met" 362 (.ref 137),kE P "first_words" 371 (.ref 144),kE P "parts" 377 (.ref 149),kE P "hangs_together" 384 (.ref 156),kE P "need_whole" 391 (.ref 163),kE P "road_counts" 399 (.ref 168),kE P "without_last" 405 (.ref 173),kE P "shrunk" 411 (.ref 178),kE P "weights" 417 (.ref 183),kE P "_law_bag" 430 (.ref 190),kE P "_law_take" 441 (.ref 197),kE P "_law_order" 452 (.ref 204),kE P "_law_net" 458 (.ref 209),kE P "_law_reach" 464 (.ref 214),kE P "_law_whole" 470 (.ref 219),kE P "_law_told" 478 (.ref 226),kE P "_law_divisor" 487 (.ref 233),kE P "_law_are_weights" 493 (.ref 238),kE P "_law_right" 501 (.ref 245),kE P "law" 507 (.ref 250)].toArray 44,#[]⟩),
 (23,⟨.type "dict",none,.dict [kE P "__module__" 196 (vS "roadcall.errors" 187),kE P "__firstlineno__" 200 (.int 2 199),kE P "__static_attributes__" 201 (.ref 22),kE P "__weakref__" 203 (.ref 25),kE P "__doc__" 204 .none].toArray 3,#[]⟩),
 (24,⟨.type "type",none,.cls {name:=sw "RoadError",bases:=[.type "ValueError"],mro:=[.ref 24,.type "ValueError",.type "Exception",.type "BaseException",.type "object"],ns:=23,qualname:=sw "RoadError",subclasses:=[.ref 37,.ref 49,.ref 61,.ref 73,.ref 85]},#[some (.ref 15),none,some (vS "RoadError" 189),some (vS "RoadError" 197),some (.builtin "ValueError.__new__"),some (.bool true)]⟩),
 (36,⟨.type "dict",none,.dict [kE P "__module__" 214 (vS "roadcall.errors" 187),kE P "__firstlineno__" 218 (.int 4 217),kE P "__static_attributes__" 219 (.ref 35),kE P "__doc__" 220 .none].toArray 2,#[]⟩),
 (37,⟨.type "type",none,.cls {name:=sw "NoNet",bases:=[.ref 24],mro:=[.ref 37,.ref 24,.type "ValueError",.type "Exception",.type "BaseException",.type "object"],ns:=36,qualname:=sw "NoNet",subclasses:=[]},#[some (.ref 28),none,some (vS "NoNet" 207),some (vS "NoNet" 215),some (.builtin "ValueError.__new__"),some (.bool true)]⟩),
 (48,⟨.type "dict",none,.dict [kE P "__module__" 230 (vS "roadcall.errors" 187),kE P "__firstlineno__" 234 (.int 6 233),kE P "__static_attributes__" 235 (.ref 47),kE P "__doc__" 236 .none].toArray 2,#[]⟩),
 (49,⟨.type "type",none,.cls {name:=sw "NoPlace",bases:=[.ref 24],mro:=[.ref 49,.ref 24,.type "ValueError",.type "Exception",.type "BaseException",.type "object"],ns:=48,qualname:=sw "NoPlace",subclasses:=[]},#[some (.ref 40),none,some (vS "NoPlace" 223),some (vS "NoPlace" 231),some (.builtin "ValueError.__new__"),some (.bool true)]⟩),
 (60,⟨.type "dict",none,.dict [kE P "__module__" 246 (vS "roadcall.errors" 187),kE P "__firstlineno__" 250 (.int 8 249),kE P "__static_attributes__" 251 (.ref 59),kE P "__doc__" 252 .none].toArray 2,#[]⟩),
 (61,⟨.type "type",none,.cls {name:=sw "NoSign",bases:=[.ref 24],mro:=[.ref 61,.ref 24,.type "ValueError",.type "Exception",.type "BaseException",.type "object"],ns:=60,qualname:=sw "NoSign",subclasses:=[]},#[some (.ref 52),none,some (vS "NoSign" 239),some (vS "NoSign" 247),some (.builtin "ValueError.__new__"),some (.bool true)]⟩),
 (72,⟨.type "dict",none,.dict [kE P "__module__" 262 (vS "roadcall.errors" 187),kE P "__firstlineno__" 266 (.int 10 265),kE P "__static_attributes__" 267 (.ref 71),kE P "__doc__" 268 .none].toArray 2,#[]⟩),
 (73,⟨.type "type",none,.cls {name:=sw "NoWord",bases:=[.ref 24],mro:=[.ref 73,.ref 24,.type "ValueError",.type "Exception",.type "BaseException",.type "object"],ns:=72,qualname:=sw "NoWord",subclasses:=[]},#[some (.ref 64),none,some (vS "NoWord" 255),some (vS "NoWord" 263),some (.builtin "ValueError.__new__"),some (.bool true)]⟩),
 (84,⟨.type "dict",none,.dict [kE P "__module__" 278 (vS "roadcall.errors" 187),kE P "__firstlineno__" 282 (.int 12 281),kE P "__static_attributes__" 283 (.ref 83),kE P "__doc__" 284 .none].toArray 2,#[]⟩),
 (85,⟨.type "type",none,.cls {name:=sw "NoWhole",bases:=[.ref 24],mro:=[.ref 85,.ref 24,.type "ValueError",.type "Exception",.type "BaseException",.type "object"],ns:=84,qualname:=sw "NoWhole",subclasses:=[]},#[some (.ref 76),none,some (vS "NoWhole" 271),some (vS "NoWhole" 279),some (.builtin "ValueError.__new__"),some (.bool true)]⟩),
 (93,kC "is_whole" 289 15 1 3 88 true 181 89 (.ref 90) (.ref 91) 92 293 294),
 (94,kF 8 "is_whole" .none (vS "roadcall.whole" 287) 93),
 (100,kC "is_whole_below" 296 17 2 3 95 true 181 96 (.ref 97) (.ref 98) 99 301 302),
 (101,kF 9 "is_whole_below" .none (vS "roadcall.whole" 287) 100),
 (107,kC "common_divisor" 304 19 2 3 102 true 181 103 (.ref 104) (.ref 105) 106 309 310),
 (108,kF 10 "common_divisor" .none (vS "roadcall.whole" 287) 107),
 (114,kC "is_row" 318 27 3 3 109 true 181 110 (.ref 111) (.ref 112) 113 325 326),
 (115,kF 14 "is_row" .none (vS "roadcall.nets" 312) 114),
 (121,kC "is_net" 328 31 1 3 116 true 181 117 (.ref 118) (.ref 119) 120 334 335),
 (122,kF 15 "is_net" .none (vS "roadcall.nets" 312) 121),
 (128,kC "need_net" 337 39 1 3 123 true 181 124 (.ref 125) (.ref 126) 127 341 342),
 (129,kF 16 "need_net" .none (vS "roadcall.nets" 312) 128),
 (130,⟨.type "tuple",none,.seq #[.int 511 346] 0,#[]⟩),
 (136,kC "first_met" 348 44 4 3 131 true 181 132 (.ref 133) (.ref 134) 135 360 361),
 (137,kF 19 "first_met" (.ref 130) (vS "roadcall.ways" 344) 136),
 (143,kC "first_words" 363 55 2 3 138 true 181 139 (.ref 140) (.ref 141) 142 369 370),
 (144,kF 20 "first_words" .none (vS "roadcall.ways" 344) 143),
 (148,kC "parts" 372 57 1 3 145 true 181 146 .none .none 147 375 376),
 (149,kF 21 "parts" .none (vS "roadcall.ways" 344) 148),
 (155,kC "hangs_together" 378 66 1 3 150 true 181 151 (.ref 152) (.ref 153) 154 382 383),
 (156,kF 22 "hangs_together" .none (vS "roadcall.ways" 344) 155),
 (162,kC "need_whole" 385 68 1 3 157 true 181 158 (.ref 159) (.ref 160) 161 389 390),
 (163,kF 23 "need_whole" .none (vS "roadcall.ways" 344) 162),
 (167,kC "road_counts" 394 72 1 3 164 true 181 165 .none .none 166 397 398),
 (168,kF 25 "road_counts" .none (vS "roadcall.weights" 392) 167),
 (172,kC "without_last" 400 74 1 3 169 true 181 170 .none .none 171 403 404),
 (173,kF 26 "without_last" .none (vS "roadcall.weights" 392) 172),
 (177,kC "shrunk" 406 78 1 3 174 true 181 175 .none .none 176 409 410),
 (178,kF 27 "shrunk" .none (vS "roadcall.weights" 392) 177),
 (182,kC "weights" 412 83 1 3 179 true 181 180 .none .none 181 415 416),
 (183,kF 28 "weights" .none (vS "roadcall.weights" 392) 182),
 (189,kC "_law_bag" 420 96 2 3 184 true 181 185 (.ref 186) (.ref 187) 188 428 429),
 (190,kF 30 "_law_bag" .none (vS "law_roadcall_k08_weights" 418) 189),
 (196,kC "_law_take" 431 106 2 3 191 true 181 192 (.ref 193) (.ref 194) 195 439 440),
 (197,kF 31 "_law_take" .none (vS "law_roadcall_k08_weights" 418) 196),
 (203,kC "_law_order" 442 118 2 3 198 true 181 199 (.ref 200) (.ref 201) 202 450 451),
 (204,kF 32 "_law_order" .none (vS "law_roadcall_k08_weights" 418) 203),
 (208,kC "_law_net" 453 124 2 3 205 true 181 206 .none .none 207 456 457),
 (209,kF 33 "_law_net" .none (vS "law_roadcall_k08_weights" 418) 208),
 (213,kC "_law_reach" 459 146 1 3 210 true 181 211 .none .none 212 462 463),
 (214,kF 34 "_law_reach" .none (vS "law_roadcall_k08_weights" 418) 213),
 (218,kC "_law_whole" 465 153 1 3 215 true 181 216 .none .none 217 468 469),
 (219,kF 35 "_law_whole" .none (vS "law_roadcall_k08_weights" 418) 218),
 (225,kC "_law_told" 471 155 1 3 220 true 181 221 (.ref 222) (.ref 223) 224 476 477),
 (226,kF 36 "_law_told" .none (vS "law_roadcall_k08_weights" 418) 225),
 (232,kC "_law_divisor" 479 162 2 3 227 true 181 228 (.ref 229) (.ref 230) 231 485 486),
 (233,kF 37 "_law_divisor" .none (vS "law_roadcall_k08_weights" 418) 232),
 (237,kC "_law_are_weights" 488 168 2 3 234 true 181 235 .none .none 236 491 492),
 (238,kF 38 "_law_are_weights" .none (vS "law_roadcall_k08_weights" 418) 237),
 (244,kC "_law_right" 494 181 1 3 239 true 181 240 (.ref 241) (.ref 242) 243 499 500),
 (245,kF 39 "_law_right" .none (vS "law_roadcall_k08_weights" 418) 244),
 (249,kC "law" 502 186 1 3 246 true 181 247 .none .none 248 505 506),
 (250,kF 40 "law" .none (vS "law_roadcall_k08_weights" 418) 249)]
def UZ:List ac:=[2,3,23,24,36,37,48,49,60,61,72,73,84,85,93,94,100,101,107,108,114,115,121,122,128,129,130,136,137,143,144,148,149,155,156,162,163,167,168,172,173,177,178,182,183,189,190,196,197,203,204,208,209,213,214,218,219,225,226,232,233,237,238,244,245,249,250]
def kq:gc:=PySem.W.view PySem.Challenge.pw_roadcall_k08_weights [1,2,3,4,5,6,8,9,10,12,13,14,15,16,18,20,21,22,23,25,26,27,28,30,31,32,33,34,35,36,37,38,39,40]
def kL:List bn:=[sw "first_met"]
def kH:PySem.W.Hook:=PySem.W.kHook kK UZ fun _=>by kernel_rfl
theorem Je {r:PySem.W.OpenRow}{q:gc}{loose:List bn}{H:PySem.W.Hook}{d:DefRec}{Lj:List (bn×db)}{N:Nat}(left:PySem.W.LeftO r.prog q loose (fun s=>ZE q [] s && Zl r.records s) H.obs H.val N)
  (vQ:PySem.W.defOf q r.name=some (d,Lj)) (hp:r.prog.theDef r.name=some (d.params,d.body,d.scope)) (hk:PySem.W.kwWritten? d.params.kwonlyargs d.params.kw_defaults=some Lj) (U0:(!r.writes || r.records.isEmpty)=true) (k1:r.wellSaid=true)
  (ok:(PySem.W.chainsOk q && PySem.W.opensWell r.prog && (PySem.W.frees r.toRowW && r.within.isEmpty))=true) (hb:r.prog.bare) (hw:r.toRowW.promised) (call:PySem.W.WalkO q loose (PySem.W.XL q []) H.says r.toRowW d Lj fun f vs=>Z1 f vs):r.Holds:=
 PySem.W.holds_open left H.of H.keeps (fun s e=>PySem.W.xl_of s (Bool.and_eq_true_iff.mp e).1) PySem.W.XL.keeps vQ hp hk (fun s e=>PySem.W.recFacts_of (Bool.and_eq_true_iff.mp e).2) U0 k1 ok hb hw call
noncomputable def oeQ (p:gc) (w:i4) (N:Nat):Option ba:=((PySem.W.Fast.tw10274390034422433532 PySem.W.Fast.tw14364793385576792824 (ZQ p) w N (PySem.W.Fast.tw1435165496053646825 (ZQ p)).1 (PySem.W.Fast.tw1435165496053646825 (ZQ p)).2).bind (PySem.W.Fast.tw14289696077712309145 p)).bind fun s₀=>match s₀.heap.isNs PySem.mainGlobals && s₀.gens.size==0 with
 |true=>(PySem.W.Fast.tw14082659384304107361 PySem.W.Fast.tw14364793385576792824 p w s₀.heap.objs.size (s₀.heap.nsMap PySem.mainGlobals "__annotations__") N s₀ (PySem.W.topStub p)).bind fun aC=>match PySem.W.staticsOk (importedModules p.main.body) s₀.heap aC.heap && PySem.W.namesBound p aC.heap && PySem.W.gensDone aC && PySem.W.laidKept s₀.heap aC.heap with
   |true=>some aC
   |false=>none
 |false=>none
theorem Qo (p:gc) (w:i4) (N:Nat):PySem.W.openEnds treeTable p w N=oeQ p w N :=by
 unfold oeQ;rw[<- PySem.W.Fast.te10274390034422433532,<- PySem.W.Fast.te14364793385576792824,<- PySem.W.Fast.te1435165496053646825,<- PySem.W.Fast.te14289696077712309145,<- PySem.W.Fast.te14082659384304107361];rfl
noncomputable def nsQ (q:gc):List bn:=(PySem.W.Fast.tw3399658132070893891 q).map (·.name)
theorem Hk (q:gc):(recsOf q).map (·.name)=nsQ q :=by unfold nsQ;rw[<- PySem.W.Fast.te3399658132070893891]
noncomputable def c1Q (s:ba):=PySem.W.Fast.tw5160383126252970620 (nsQ kq) (PySem.W.Fast.tw5991557255702980513 kq) [] {s with gens:=#[]}
theorem Qp (s:ba):seen ((recsOf kq).map (·.name)) (ownsOf kq) [] {s with gens:=#[]}=c1Q s :=by unfold c1Q;rw[Hk,<- PySem.W.Fast.te5160383126252970620,<- PySem.W.Fast.te5991557255702980513]
def c2 (s:ba):=(s.heap.bltView,s.heap.keysOk (YX kq kL) ((recsOf kq).map (·.name)) ((litsOf kq).map (·.1)) ((clssOf kq (YX kq kL)).map (·.name)) && s.heap.accountedOkI (importedModules PySem.Challenge.pw_roadcall_k08_weights.main.body) && s.heap.isNs mainGlobals && s.heap.isNs builtinsNs && tablesOk kq s.heap && (ZE kq [] s && Zl [] s) && (s.gens.size==0))
noncomputable def c2Q (s:ba):=(s.heap.bltView,PySem.W.Fast.tw10880121769531294198 s.heap (RI kq kL) (nsQ kq) ((PySem.W.Fast.tw7409074990110511671 kq).map (·.1)) ((PySem.W.Fast.tw13664370479719496447 kq (RI kq kL)).map (·.name)) && PySem.W.Fast.tw14722251495701143533 s.heap (importedModules PySem.Challenge.pw_roadcall_k08_weights.main.body) && s.heap.isNs mainGlobals && s.heap.isNs builtinsNs && PySem.W.Fast.tw10994771534591457954 kq s.heap && (ZE kq [] s && Zl [] s) && (s.gens.size==0))
theorem Qq (s:ba):c2 s=c2Q s :=by unfold c2 c2Q;rw[Hk,<- PySem.W.Fast.te10880121769531294198,<- PySem.W.Fast.te821141287760084731,<- PySem.W.Fast.te7409074990110511671,<- PySem.W.Fast.te13664370479719496447,<- PySem.W.Fast.te14722251495701143533,<- PySem.W.Fast.te10994771534591457954]
def c3 (s:ba):=tabsOk kq s
def c5 (s:ba):=plainSeenE kq (YX kq kL) s
def c4 (s:ba):=(PySem.pinSeenD kq (drecsOf kq) s,plainSeenD kq kL s,PySem.W.wideSeen kq s,PySem.W.clsSeenW kq kL s)
noncomputable def c3Q (s:ba):=PySem.W.Fast.tw479339242167458305 kq s
noncomputable def c5Q (s:ba):=PySem.W.Fast.tw2386780881361962483 kq (RI kq kL) s
noncomputable def c4Q (s:ba):=(PySem.W.Fast.tw16090120013241838585 kq (PySem.W.Fast.tw3247288618530077131 kq) s,PySem.W.Fast.tw11698064438423848299 kq kL s,PySem.W.Fast.tw7317090234206586261 kq s,PySem.W.Fast.tw7369524293546568484 kq kL s)
theorem Qr (s:ba):c3 s=c3Q s :=by unfold c3 c3Q;rw[<- PySem.W.Fast.te479339242167458305]
theorem Qs (s:ba):c5 s=c5Q s :=by unfold c5 c5Q;rw[<- PySem.W.Fast.te2386780881361962483,<- PySem.W.Fast.te821141287760084731]
theorem Qt (s:ba):c4 s=c4Q s :=by unfold c4 c4Q;rw[<- PySem.W.Fast.te16090120013241838585,<- PySem.W.Fast.te3247288618530077131,<- PySem.W.Fast.te11698064438423848299,<- PySem.W.Fast.te7317090234206586261,<- PySem.W.Fast.te7369524293546568484]
set_option maxHeartbeats 0 in
theorem left0 (w:i4):(oeQ PySem.Challenge.pw_roadcall_k08_weights w 4310).map (fun s=>kH.obs s)=some (kH.val w) :=by kernel_rfl
set_option maxHeartbeats 0 in
theorem left1 (w:i4):(oeQ PySem.Challenge.pw_roadcall_k08_weights w 4310).map c1Q=some (expectedOf kq) :=by kernel_rfl
set_option maxHeartbeats 0 in
theorem left2 (w:i4):(oeQ PySem.Challenge.pw_roadcall_k08_weights w 4310).map c2Q=some (bltViewBooted,true) :=by kernel_rfl
set_option maxHeartbeats 0 in
theorem left3 (w:i4):(oeQ PySem.Challenge.pw_roadcall_k08_weights w 4310).map c3Q=some true :=by kernel_rfl
set_option maxHeartbeats 0 in
theorem left5 (w:i4):(oeQ PySem.Challenge.pw_roadcall_k08_weights w 4310).map c5Q=some (plainGoodE kq (YX kq kL)) :=by kernel_rfl
set_option maxHeartbeats 0 in
theorem left4 (w:i4):(oeQ PySem.Challenge.pw_roadcall_k08_weights w 4310).map c4Q=some (PySem.pinGoodD (drecsOf kq),plainGoodD kq kL,PySem.W.wideGood kq,PySem.W.clsGoodW kq kL) :=by kernel_rfl
theorem left (w:i4):(PySem.W.openEnds treeTable PySem.Challenge.pw_roadcall_k08_weights w 4310).map (fun s=>(PySem.W.openSeen kq kL (importedModules PySem.Challenge.pw_roadcall_k08_weights.main.body) (fun s=>ZE kq [] s && Zl [] s) true s,kH.obs s))=some (PySem.W.openGood kq kL,kH.val w) :=by
 rw[Qo];have a0:=left0 w;have a1:=left1 w;have a2:=left2 w;have a3:=left3 w;have a4:=left4 w;have a5:=left5 w;revert a0 a1 a2 a3 a4 a5
 generalize oeQ PySem.Challenge.pw_roadcall_k08_weights w 4310=o
 cases o with
 |none=>intro a0;cases a0
 |some s=>
  intro a0 a1 a2 a3 a4 a5;have a0:kH.obs s=kH.val w:=i8 a0;have a1:=i8 a1;have a2:=i8 a2;have a3:=i8 a3;have a4:=i8 a4;have a5:=i8 a5;rw[<- Qp]at a1;rw[<- Qq]at a2;rw[<- Qr]at a3;rw[<- Qt]at a4;rw[<- Qs]at a5;show some ((seen ((recsOf kq).map (·.name)) (ownsOf kq) [] {s with gens:=#[]},(c2 s).1,(c2 s).2,c3 s,(c4 s).1,c5 s,(c4 s).2),kH.obs s)=_
  rw[a0,a1,a2,a3,a4,a5];rfl
end My
namespace L2
open PySem PySem.Spec PyProof.Rows
abbrev Key:=Sum Int bn
def oU:Key->al->Bool
 | .inl k,v=>al.isInt k v
 | .inr x,v=>al.isStrOf x v
def Ts (w:i4):Key->Int
 | .inl k=>hashInt k
 | .inr x=>hashStr w x
theorem cC:∀{k:Key}{v:al},oU k v=true->(∃i t,k=ID i/\v=Tl i t)\/(∃x t,k=YY x/\v=YC x t)
 | .inl i,v,h=>by
          obtain⟨t,e⟩:=al.isInt_shape (k:=i) (v:=v) h;exact .inl ⟨i,t,rfl,e⟩
 | .inr x,v,h=>by
          obtain⟨t,e⟩:=al.isStrOf_shape (x:=x) (v:=v) h;exact .inr ⟨x,t,rfl,e⟩
theorem BR (i:Int) (t:YJ):oU (.inl i) (.int i t)=true :=by simp[oU,al.isInt]
theorem BU (x:bn) (t:YJ):oU (.inr x) (.str x t)=true :=by simp[oU,al.isStrOf]
theorem Lk (a b:Int):decide ((ID a:Key)=ID b)=(a==b) :=by
 by_cases e:a=b
 ·subst e;simp
 ·have h:¬ (ID a:Key)=ID b:=fun q=>e (ID.inj q)
  rw[decide_eq_false h];exact(beq_eq_false_iff_ne.mpr e).symm
theorem Ln (a b:bn):decide ((YY a:Key)=YY b)=decide (a=b) :=by
 by_cases e:a=b
 ·subst e;simp
 ·have h:¬ (YY a:Key)=YY b:=fun q=>e (YY.inj q)
  rw[decide_eq_false h,decide_eq_false e]
theorem Lp (a:Int) (b:bn):decide ((ID a:Key)=YY b)=false:=decide_eq_false (fun q=>nomatch q)
theorem Lq (a:bn) (b:Int):decide ((YY a:Key)=ID b)=false:=decide_eq_false (fun q=>nomatch q)
def bI (prog:gc) (w:i4):PySem.KeyKind prog w Key where
 is:=oU
 hash:=Ts w
 inj:=fun v a b ha hb=>by
  rcases cC ha with ⟨i,t,rfl,rfl⟩|⟨x,t,rfl,rfl⟩
  ·rcases cC hb with ⟨j,u,rfl,e⟩|⟨y,u,rfl,e⟩
   ·injection e with e1 _;rw[e1]
   ·exact nomatch e
  ·rcases cC hb with ⟨j,u,rfl,e⟩|⟨y,u,rfl,e⟩
   ·exact nomatch e
   ·injection e with e1 _;rw[e1]
 byValue:=fun k v h=>by
  rcases cC h with ⟨i,t,rfl,rfl⟩|⟨x,t,rfl,rfl⟩<;>rfl
 pyHash:=fun hv h=>by
  rcases cC hv with ⟨i,t,rfl,rfl⟩|⟨x,t,rfl,rfl⟩
  ·exact wpAny_pyHash_int h
  ·exact wpAny_pyHash_str h
 eqBool:=fun hu hv h=>by
  rcases cC hu with ⟨i,t,rfl,rfl⟩|⟨x,t,rfl,rfl⟩
  ·rcases cC hv with ⟨j,u,rfl,rfl⟩|⟨y,u,rfl,rfl⟩
   ·rw[Lk]at h;exact wpAny_eqBool_int h
   ·rw[Lp]at h;exact Y8 i t y u _ _ _ _ h
  ·rcases cC hv with ⟨j,u,rfl,rfl⟩|⟨y,u,rfl,rfl⟩
   ·rw[Lq]at h;exact Za x t j u _ _ _ _ h
   ·rw[Ln]at h;exact wpAny_eqBool_str h
 «strs»:=fun k x t v h=>by
  rcases cC h with ⟨i,u,rfl,e⟩|⟨y,u,rfl,e⟩
  ·exact nomatch e
  ·injection e with e1 _
   subst e1;cases v<;>rfl
theorem yw (prog:gc) (w:i4) (i:Int) (t:YJ):(bI prog w).is (.inl i) (.int i t)=true:=BR i t
theorem yx (prog:gc) (w:i4) (x:bn) (t:YJ):(bI prog w).is (.inr x) (.str x t)=true:=BU x t
inductive V where
 |au|bl (b:Bool)|int (i:Int)|str (x:bn)|jU (b:Array UInt8)|yW (b:UInt64)|ref (a:ac)|ty (n:String)
 deriving DecidableEq
def RelV:V->al->Prop
 | .au,u=>u=GS
 | .bl b,u=>u=YK b
 | .int i,u=>∃t,u=Tl i t
 | .str x,u=>∃t,u=YC x t
 | .jU b,u=>∃t,u=al.bytes b t
 | .yW b,u=>∃t,u=al.float b t
 | .ref a,u=>u=l5 a
 | .ty n,u=>u=LH n
abbrev Vals:List V->List al->Prop:=Go RelV
theorem Vals.length {xs:List V}{us:List al}(r:Vals xs us):xs.length=us.length:=XT r
theorem Vals.get:∀{xs:List V}{us:List al}{i:Nat}{x:V},Vals xs us->xs[i]?=some x->∃u,us[i]?=some u/\RelV x u
 |_,_,_,_,.nil,e=>by simp at e
 |_,_,0,_,.cons r _,e=>by simp at e;subst e;exact⟨_,rfl,r⟩
 |_,_,i+1,x,.cons _ t,e=>by
          obtain⟨u,h1,h2⟩:=Vals.get (i:=i) (x:=x) t (by simpa using e)
          exact⟨u,by simpa using h1,h2⟩
theorem Vals.set {x:V}{u:al}(r:RelV x u):∀{xs:List V}{us:List al}(i:Nat),Vals xs us->Vals (xs.set i x) (us.set i u)
 |_,_,_,.nil=>.nil
 |_,_,0,.cons _ t=>.cons r t
 |_,_,i+1,.cons q t=>.cons q (Vals.set r i t)
theorem Vals.append:∀{xs ys:List V}{us ws:List al},Vals xs us->Vals ys ws->Vals (xs++ys) (us++ws)
 |_,_,_,_,.nil,s=>s
 |_,_,_,_,.cons r t,s=>.cons r (Vals.append t s)
theorem Vals.take:∀{xs:List V}{us:List al}(n:Nat),Vals xs us->Vals (xs.take n) (us.take n)
 |_,_,0,_=>.nil
 |_,_,_+1,.nil=>.nil
 |_,_,n+1,.cons r t=>.cons r (Vals.take n t)
theorem Vals.drop:∀{xs:List V}{us:List al}(n:Nat),Vals xs us->Vals (xs.drop n) (us.drop n)
 |_,_,0,r=>r
 |_,_,_+1,.nil=>.nil
 |_,_,n+1,.cons _ t=>Vals.drop n t
def jV:Option V->Option al->Prop
 |some v,some u=>RelV v u
 |none,none=>True
 |_,_=>False
def KV {κ:Type}:List (κ×V)->List (κ×al)->Prop:=Go fun (p:κ×V) (q:κ×al)=>p.1=q.1/\RelV p.2 q.2
def kV:Key->V
 | .inl i=>.int i
 | .inr x=>.str x
inductive HO where
 |lst (xs:List V)
 |tup (xs:List V)
 |dK (ak:List (Key×V))|dT (ak:List (List Key×V))
 |set (S:Int->Bool) (n:Nat)
 |ins (C dx:ac) (fs:List (bn×V))
 |own (x:ac)
 |xd (fs:List (bn×V))
 |met (f x:ac)
 |Hl (lo hi:Int)
 |bM (o:li) (u:HO)
 |c7 (ps:Array al)
 |lam (ps:Array al)
 |ext (φ:hX->Prop)
abbrev Hp:=ac->Option HO
def upd (H:Hp) (a:ac) (o:HO):Hp:=fun b=>if b=a then some o else H b
theorem aA {H:Hp}{a:ac}{o:HO}:upd H a o a=some o :=by unfold upd;rw[if_pos rfl]
theorem af {H:Hp}{a b:ac}{o:HO}(h:b≠a):upd H a o b=H b :=by unfold upd;rw[if_neg h]
theorem Ak {H:Hp}{a b:ac}{o u:HO}(h:H a=some o) (h':H b=some u) (d:o≠u):a≠b :=by
 intro e;subst e;rw[h]at h';exact d (i8 h')
theorem a7 {H:Hp}{a b:ac}{o:HO}(h:H a=some o) (h':H b=none):a≠b :=by
 intro e;subst e;rw[h]at h';cases h'
section
variable (P:gc) (w:i4)
def jW (h:hX) (a:ac) (items:Array al):Prop:=∃o,h.get? a=some o/\o.cls=.type "tuple" /\ ∃n,o.data=.seq items n/\o.dict=none
theorem jW.tup {h:hX}{a:ac}{items:Array al}(x:jW h a items):IsTup h a items:=let ⟨o,e,c,n,d,_⟩:=x;⟨o,e,c,n,d⟩
theorem jW.lt {h:hX}{a:ac}{items:Array al}(x:jW h a items):a<h.objs.size:=x.tup.lt
theorem jW.new (h:hX) (items:Array al):jW (h.push {cls:=.type "tuple",data:=.seq items}) h.objs.size items:=⟨_,ff _ rfl,rfl,_,rfl,rfl⟩
def ObjOk (H:Hp) (h:hX) (a:ac):HO->Prop
 | .lst xs=>xs.length<=sizeLine/\∃(its:List al) (n:Nat),Vals xs its/\h.get? a=some {cls:=.type "list",data:=.seq its.toArray n}
 | .tup xs=>xs.length<=sizeLine/\∃its:List al,Vals xs its/\jW h a its.toArray
 | .dK ak=>ak.length<=sizeLine/\(a==sysModules)=false/\∃vs,KV ak vs/\h.DictOf (bI P w) a vs
 | .dT ak=>ak.length<=sizeLine/\(a==sysModules)=false/\∃xs:List (List Key×ac×al),
   Go (fun (p:List Key×V) (q:List Key×ac×al)=>p.1=q.1/\H q.2.1=some (.tup (p.1.map kV))/\RelV p.2 q.2.2) ak xs /\
   ∃o es ep,h.get? a=some o/\o.ExactDict/\o.data=.dict es ep/\es.toList=xs.map (entryOfKey (tupleKind (bI P w)))/\(xs.map (·.1)).Nodup
 | .set S n=>h.SetOf (intKind P w) a S n
 | .ins C dx fs=>H dx=some (.own a)/\fs.length<=1000/\dx≠a/\h.get? a=some (ZR C dx) /\
   ∃mA,h.Ns1 dx mA/\(∀f,jV (fs.lookup f) (mA f))/\PySem.Within mA (fs.map (·.1))
 | .own _=>∃o,h.get? a=some o
 | .xd fs=>∃mA,h.Ns1 a mA/\∀f,jV (fs.lookup f) (mA f)
 | .Hl lo hi=>∃t u v,h.get? a=some {cls:=.type "range",data:=.fields #[.int lo t,.int hi u,.int 1 v]}
 | .bM o u=>h.get? a=some o/\ObjOk H h a u
 | .c7 ps=>h.get? a=some {cls:=.none,data:=.fields ps}
 | .lam ps=>h.get? a=some {cls:=.none,data:=.fields ps}
 | .met f x=>h.get? a=some (Zs (.ref f) (.ref x))
 | .ext φ=>φ h/\(∃o,h.get? a=some o)/\∀h1 h2:hX,φ h1->(∀o,h1.get? a=some o->h2.get? a=some o)->φ h2
def cS (H:Hp) (h:hX):Prop:=∀a o,H a=some o->ObjOk P w H h a o
end
section
variable {P:gc}{w:i4}{H H':Hp}{h h':hX}{a:ac}{o:HO}
theorem ObjOk.lt (x:ObjOk P w H h a o):a<h.objs.size :=by
 cases o with
 |lst xs=>obtain⟨_,_,_,_,e⟩:=x;exact ij e
 |tup xs=>obtain⟨_,_,_,p⟩:=x;exact p.lt
 |dK ak=>obtain⟨_,_,_,_,o,_,_,e,_⟩:=x;exact ij e
 |dT ak=>obtain⟨_,_,_,_,o,_,_,e,_⟩:=x;exact ij e
 |set S n=>obtain⟨o,_,_,_,e,_⟩:=x;exact ij e
 |ins C dx fs=>obtain⟨_,_,_,e,_⟩:=x;exact ij e
 |own y=>obtain⟨_,e⟩:=x;exact ij e
 |xd fs=>obtain⟨_,⟨_,_,_,e,_⟩,_⟩:=x;exact ij e
 |Hl lo hi=>obtain⟨_,_,_,e⟩:=x;exact ij e
 |bM ob u=>obtain⟨e,_⟩:=x;exact ij e
 |c7 ps=>exact ij (show h.get? a=some _ from x)
 |lam ps=>exact ij (show h.get? a=some _ from x)
 |met f y=>exact ij (show h.get? a=some _ from x)
 |ext φ=>obtain⟨_,⟨_,e⟩,_⟩:=x;exact ij e
theorem Go.E4 {α β:Type}{F G:α->β->Prop}:∀{Lr:List α}{Ls:List β},Go F Lr Ls->(∀a b,F a b->G a b)->Go G Lr Ls
 |_,_,.nil,_=>.nil
 |_,_,.cons r t,f=>.cons (f _ _ r) (Go.E4 t f)
theorem ObjOk.cG (x:ObjOk P w H h a o) (k:∀b u,(b=a\/H b=some (.own a))->h.get? b=some u->h'.get? b=some u)
  (ho:∀b,H b=some (.own a)->H' b=some (.own a)) (ht:∀b xs,H b=some (.tup xs)->H' b=some (.tup xs)):ObjOk P w H' h' a o :=by
 induction o with
 |lst xs=>obtain⟨z,its,n,r,e⟩:=x;exact⟨z,its,n,r,k _ _ (.inl rfl) e⟩
 |tup xs=>obtain⟨z,its,r,ob,e,c⟩:=x;exact⟨z,its,r,ob,k _ _ (.inl rfl) e,c⟩
 |dK ak=>obtain⟨z,y,vs,r,ob,es,ep,e,c⟩:=x;exact⟨z,y,vs,r,ob,es,ep,k _ _ (.inl rfl) e,c⟩
 |dT ak=>
  obtain⟨z,y,xs,r,ob,es,ep,e,c⟩:=x;exact⟨z,y,xs,Go.E4 r fun p q z=>⟨z.1,ht _ _ z.2.1,z.2.2⟩,ob,es,ep,k _ _ (.inl rfl) e,c⟩
 |set S n=>obtain⟨ob,es,ep,t,e,c⟩:=x;exact⟨ob,es,ep,t,k _ _ (.inl rfl) e,c⟩
 |ins C dx fs=>
  obtain⟨d,z,ne,e,mA,⟨od,es,ep,e2,c⟩,r⟩:=x;exact⟨ho _ d,z,ne,k _ _ (.inl rfl) e,mA,⟨od,es,ep,k _ _ (.inr d) e2,c⟩,r⟩
 |own y=>obtain⟨ob,e⟩:=x;exact⟨ob,k _ _ (.inl rfl) e⟩
 |xd fs=>obtain⟨mA,⟨od,es,ep,e,c⟩,r⟩:=x;exact⟨mA,⟨od,es,ep,k _ _ (.inl rfl) e,c⟩,r⟩
 |Hl lo hi=>obtain⟨t,u,v,e⟩:=x;exact⟨t,u,v,k _ _ (.inl rfl) e⟩
 |bM ob u ih=>obtain⟨e,q⟩:=x;exact⟨k _ _ (.inl rfl) e,ih q⟩
 |c7 ps=>
  have e:h.get? a=some {cls:=.none,data:=.fields ps}:=x;show h'.get? a=some {cls:=.none,data:=.fields ps};exact k a _ (.inl rfl) e
 |lam ps=>
  have e:h.get? a=some {cls:=.none,data:=.fields ps}:=x;show h'.get? a=some {cls:=.none,data:=.fields ps};exact k a _ (.inl rfl) e
 |met f y=>
  have e:h.get? a=some (Zs (.ref f) (.ref y)):=x;show h'.get? a=some (Zs (.ref f) (.ref y));exact k a _ (.inl rfl) e
 |ext φ=>obtain⟨p,⟨o,e⟩,st⟩:=x;exact⟨st _ _ p fun o q=>k _ _ (.inl rfl) q,⟨o,k _ _ (.inl rfl) e⟩,st⟩
theorem cS.lt (x:cS P w H h) (e:H a=some o):a<h.objs.size:=(x a o e).lt
theorem cS.fresh (x:cS P w H h) (e:h.objs.size<=a):H a=none :=by
 cases q:H a with
 |none=>rfl
 |some u=>exact absurd (l9 (x.lt q) e) (ET _)
theorem cS.kept (x:cS P w H h) (k:∀b u,h.get? b=some u->h'.get? b=some u):cS P w H h':=fun a o e=>
 (x a o e).cG (fun b u _ q=>k b u q) (fun _ q=>q) fun _ _ q=>q
theorem cS.laid (x:cS P w H h) (k:∀b u,h.get? b=some u->h'.get? b=some u) (hp:h.objs.size<=a) (new:ObjOk P w (upd H a o) h' a o):cS P w (upd H a o) h':=fun b u e=>by
 have hn:=x.fresh hp;by_cases hb:b=a
 ·subst hb;rw[aA]at e;cases e;exact new
 ·rw[af hb]at e;exact(x b u e).cG (fun c v _ q=>k c v q) (fun c q=>by rw[af (a7 q hn)];exact q) fun c xs q=>by rw[af (a7 q hn)];exact q
end
def Rd (H:Hp) (a:ac) (u:HO):Prop:=H a=some u\/∃o,H a=some (.bM o u)
theorem Rd.ok {P:gc}{w:i4}{H:Hp}{h:hX}{a:ac}{u:HO}(r:Rd H a u) (x:cS P w H h):ObjOk P w H h a u :=by
 rcases r with r|⟨o,r⟩
 ·exact x a u r
 ·obtain⟨_,q⟩:=x a _ r;exact q
def BV:Option HO->Prop
 |some (.lst _)=>True
 |some (.dK _)=>True
 |some (.dT _)=>True
 |some (.set _ _)=>True
 |some (.ins _ _ _)=>True
 |some (.ext _)=>True
 |some (.lam _)=>True
 |_=>False
section
variable {P:gc}{w:i4}{H:Hp}{h h':hX}{x e:ac}{o':HO}
theorem cS.write (ok:cS P w H h) (mu:BV (H x)) (he:e=x\/H e=some (.own x)) (k:∀b u,b≠e->h.get? b=some u->h'.get? b=some u) (yX:∃u,h'.get? e=some u)
  (new:ObjOk P w (upd H x o') h' x o'):cS P w (upd H x o') h':=fun b u q=>by
 have Lv:∀c y,H c=some (.own y)->c≠x:=fun c y r z=>by subst z;rw[r]at mu;exact mu
 have Tt:∀c xs,H c=some (.tup xs)->c≠x:=fun c xs r z=>by subst z;rw[r]at mu;exact mu
 by_cases hb:b=x
 ·subst hb;rw[aA]at q;cases q;exact new
 ·rw[af hb]at q;by_cases vR:b=e
  ·have q':H b=some (.own x) :=by
    rcases he with z|z
    ·exact absurd (vR.trans z) hb
    ·rw[vR];exact z
   rw[q]at q';cases q';obtain⟨v,hv⟩:=yX;exact⟨v,by rw[vR];exact hv⟩
  ·refine(ok b u q).cG (fun c v hc r=>k c v ?_ r) (fun c r=>by rw[af (Lv c b r)];exact r) fun c xs r=>by rw[af (Tt c xs r)];exact r
   rcases hc with rfl|hc
   ·exact vR
   ·rintro rfl;rcases he with z|z
    ·exact Lv c b hc z
    ·rw[hc]at z;cases z;exact hb rfl
end
structure Un (fs ex:List ac) (H H':Hp) (h h':hX):Prop where
 keep:∀b o,h.get? b=some o->H b=none->b ∉ fs->b ∉ ex->h'.get? b=some o
 slot:∀b o,h.get? b=some o->H b=none->b∈fs->b ∉ ex->∃sl,h'.get? b=some {o with slots:=sl}
 free:∀b o,h.get? b=some o->H b=none->b ∉ ex->H' b=none
 there:∀b o,h.get? b=some o->b ∉ ex->∃o',h'.get? b=some o'
 tups:∀b xs,H b=some (.tup xs)->H' b=some (.tup xs)
 frzs:∀b o u,H b=some (.bM o u)->H' b=some (.bM o u)
 tbls:∀b ps,H b=some (.c7 ps)->∃more,H' b=some (.c7 (ps++more))
section
variable {fs U1 ex Xn:List ac}{H H1 H2:Hp}{h h1 h2 h':hX}{a x e:ac}{o:HO}
theorem Un.any (u:Un fs ex H H1 h h1) {b:ac}{ob:li}(q:h.get? b=some ob) (n:H b=none) (hx:b ∉ ex):∃sl,h1.get? b=some {ob with slots:=sl}:=by
 by_cases hb:b∈fs
 ·exact u.slot b ob q n hb hx
 ·exact⟨ob.slots,u.keep b ob q n hb hx⟩
theorem Un.kept (k:∀b u,h.get? b=some u->h'.get? b=some u):Un fs ex H H h h':=
 ⟨fun b ob q _ _ _=>k b ob q,fun b ob q _ _ _=>⟨ob.slots,k b ob q⟩,fun _ _ _ n _=>n,fun b ob q _=>⟨ob,k b ob q⟩,fun _ _ q=>q,fun _ _ _ q=>q,fun _ ps q=>⟨#[],by rw[q];simp⟩⟩
theorem Un.refl:Un fs ex H H h h:=Un.kept fun _ _ q=>q
theorem Un.laid (k:∀b u,h.get? b=some u->h'.get? b=some u) (hp:h.objs.size<=a) (hn:H a=none):Un fs ex H (upd H a o) h h' where
 keep:=fun b u q _ _ _=>k b u q
 slot:=fun b u q _ _ _=>⟨u.slots,k b u q⟩
 free:=fun b u q n _=>by rw[af (l7 (l9 (ij q) hp))];exact n
 there:=fun b u q _=>⟨u,k b u q⟩
 tups:=fun b xs q=>by rw[af (a7 q hn)];exact q
 frzs:=fun b u xs q=>by rw[af (a7 q hn)];exact q
 tbls:=fun b ps q=>⟨#[],by rw[af (a7 q hn),q];simp⟩
theorem Un.write (mu:BV (H x)) (he:e=x\/H e=some (.own x)) (k:∀b u,b≠e->h.get? b=some u->h'.get? b=some u) (yX:∃u,h'.get? e=some u):Un fs ex H (upd H x o) h h':=by
 have hx:∀b,H b=none->b≠x:=fun b n z=>by subst z;rw[n]at mu;exact mu
 have hb:∀b,H b=none->b≠e:=fun b n z=>by
  subst z;rcases he with r|r
  ·exact hx b n r
  ·rw[n]at r;cases r
 have hm:∀b u,H b=some u->¬ BV (some u)->b≠x:=fun b u q nm z=>by subst z;rw[q]at mu;exact nm mu
 refine⟨fun b u q n _ _=>k b u (hb b n) q,fun b u q n _ _=>⟨u.slots,k b u (hb b n) q⟩,fun b u q n _=>by rw[af (hx b n)];exact n,fun b u q _=>?_,
  fun b xs q=>by rw[af (hm b _ q fun z=>z)];exact q,fun b u xs q=>by rw[af (hm b _ q fun z=>z)];exact q,fun b ps q=>⟨#[],by rw[af (hm b _ q fun z=>z),q];simp⟩⟩
 by_cases vR:b=e
 ·subst vR;exact yX
 ·exact⟨u,k b u vR q⟩
end
def Hm (h:hX) (H:Hp):List ac:=(jp h.objs.size).filter fun a=>(H a).isSome
def jX (h:hX) (H:Hp):hX:=Co h (Hm h H)
theorem BW (h:hX) (H:Hp):(jX h H).objs.size=h.objs.size:=PySem.W.hideAll_size _ _
theorem E5 {h:hX}{H:Hp}{b:ac}{o:li}(e:h.get? b=some o) (n:H b=none):(jX h H).get? b=some o:=
 XX _ e fun hm=>by
  have q:(H b).isSome=true:=(Nl.mp hm).2;rw[n]at q;simp at q
theorem Jf {h:hX}{H:Hp}{b:ac}{o:li}(e:(jX h H).get? b=some o):h.get? b=some o/\H b=none :=by
 have e':h.get? b=some o:=Zb (Hm h H) e;refine⟨e',?_⟩;cases q:H b with
 |none=>rfl
 |some x=>
  have hm:b∈Hm h H:=Nl.mpr ⟨Me.mpr (ij e'),by simp[q]⟩
  have z:(jX h H).get? b=none:=PySem.W.hideAll_none (Hm h H) hm;rw[z]at e;cases e
def Jg (g h:hX) (L:ac):List (ac×li):=(jp h.objs.size).filterMap fun a=>if a=L\/(g.get? a).isSome=true then none else (h.get? a).map fun o=>(a,o)
def rest (g h:hX) (L d:ac):List (ac×li):=(Jg g h L).filter fun p=>decide (p.1≠d)
structure Mod (K:bi) (mg:bn->Option al) (base:hX):Prop where
 kin:K.In base
 glob:base.Ns mainGlobals mg
 blt:∃mb,base.Ns builtinsNs mb/\∀x:bn,x ≠ "__name__" -> mb x=bootBuiltins x
 nolimit:base.NoLimit
structure Cx where
 prog:gc
 w:i4
 K:bi
 mg:bn->Option al
 base:hX
 A:rb
 N:List bn
 s₀:ba
 H₀:Hp
 env:Mn
 outer:List Mn
 stack:List Mn
 ex:List ac
 fn:bn->Bool
 calm:Bool
 pn:List (ac×li)
 xe:al->ba->Prop
def d6 (l:List Mn):List ac:=l.filterMap (·.frame)
abbrev Cx.fs (X:Cx):List ac:=d6 X.outer
def pP (sc:wp) (x:bn):Prop:=sc.names.lookup x=some .local\/sc.names.lookup x=some .cell\/sc.names.lookup x=some .free
def Loc (sc:wp) (x:bn):Prop:=sc.names.lookup x=some .local\/sc.names.lookup x=some .cell
def Look (env:Mn) (h:hX) (m:bn->Option al) (x:bn) (u:al):Prop:=
 (env.kindOf x=some .local/\m x=some u)\/((env.kindOf x=some .cell\/env.kindOf x=some .free)/\∃c,env.cells.lookup x=some c/\h.IsCell c (some u))
structure Cx.Ok (X:Cx):Prop where
 mod:Mod X.K X.mg X.base
 kind:X.env.scope.kind=.function
 glob:X.env.globals=mainGlobals
 blt:X.env.builtins=builtinsNs
 above:X.s₀.heap.objs.size<=X.env.locals
 inj:∀x y c,X.env.cells.lookup x=some c->X.env.cells.lookup y=some c->x=y
 has:∀x,(X.env.kindOf x=some .cell\/X.env.kindOf x=some .free)->∃c,X.env.cells.lookup x=some c
 cab:∀x c,X.fn x=true->X.env.cells.lookup x=some c->X.s₀.heap.objs.size<=c
 hd:X.calm=true->X.A.handled=none
 frames:X.A.frames=some X.stack
 stk:X.stack=X.outer\/(X.stack=X.env::X.outer/\X.env.frame=some X.env.locals)
 exf:∀b∈X.ex,b≠X.env.locals/\∀x c,X.env.cells.lookup x=some c->c≠b
 bs:∀b o,X.base.get? b=some o->X.s₀.heap.get? b=some o/\X.H₀ b=none
 bsz:X.base.objs.size<=X.s₀.heap.objs.size
 noex:∀b o,X.base.get? b=some o->b ∉ X.ex
 exfs:∀b∈X.ex,b ∉ X.fs
 funs:X.s₀.heap.FunFrames X.base X.outer
 frf:∀b∈X.fs,X.H₀ b=none
def Gn (n:Nat) (g:Array X7):Prop:=Z0 g/\n<=g.size
theorem Gn.self {n:Nat}{g:Array X7}(x:Gn n g):Gn g.size g:=⟨x.1,c8 _⟩
theorem Gn.trans {n:Nat}{g g':Array X7}(x:Gn n g) (y:Gn g.size g'):Gn n g':=⟨y.1,wr x.2 y.2⟩
structure Inv (X:Cx) (pins:List (ac×li)) (σ:List (Option V)) (H:Hp) (s:ba):Prop where
 ok:X.Ok
 os:s.os=X.s₀.os
 bare:Gn X.s₀.gens.size s.gens
 base:Un X.fs X.ex X.H₀ H X.s₀.heap s.heap
 loc:∃m,s.heap.Ns X.env.locals m/\∀(i:Nat) (x:bn) (v:V),X.N[i]?=some x->σ[i]?=some (some v)->pP X.env.scope x->∃u,RelV v u/\Look X.env s.heap m x u
 cell:∀x c,X.env.cells.lookup x=some c->∃v,s.heap.IsCell c v
 free:H X.env.locals=none
 freeC:∀x c,X.env.cells.lookup x=some c->H c=none
 pin:∀p∈X.pn++pins,s.heap.get? p.1=some p.2/\H p.1=none/\p.1≠X.env.locals/\p.1 ∉ X.fs/\∀v,p.2.data≠.cell v
 hok:cS X.prog X.w H s.heap
 len:σ.length=X.N.length
section
variable {X:Cx}{pins:List (ac×li)}{σ:List (Option V)}{H H':Hp}{s:ba}{h':hX}
theorem Cx.Ok.Tu (ok:X.Ok) {b:ac}{o:li}(e:X.base.get? b=some o):b ∉ X.fs:=fun hb=>by
 have:=(ok.funs.mem hb).1;rw[e]at this;cases this
theorem Inv.bs (I:Inv X pins σ H s):∀b o,X.base.get? b=some o->s.heap.get? b=some o/\H b=none:=fun b o e=>
 ⟨I.base.keep b o (I.ok.bs b o e).1 (I.ok.bs b o e).2 (I.ok.Tu e) (I.ok.noex b o e),I.base.free b o (I.ok.bs b o e).1 (I.ok.bs b o e).2 (I.ok.noex b o e)⟩
theorem Inv.bk (I:Inv X pins σ H s):∀b o,X.base.get? b=some o->s.heap.get? b=some o:=fun b o e=>(I.bs b o e).1
theorem Inv.mod (I:Inv X pins σ H s):Mod X.K X.mg X.base:=I.ok.mod
theorem Inv.fB (I:Inv X pins σ H s):X.K.In s.heap:=I.ok.mod.kin.keeps I.bk
theorem Inv.nolimit (I:Inv X pins σ H s):s.heap.NoLimit:=I.ok.mod.nolimit.keeps I.bk
theorem Inv.lt (I:Inv X pins σ H s):X.env.locals<s.heap.objs.size:=let ⟨_,hn,_⟩:=I.loc;hn.lt
theorem Inv.sz (I:Inv X pins σ H s):X.s₀.heap.objs.size<=s.heap.objs.size:=wr I.ok.above (ON I.lt)
theorem Inv.Lw (I:Inv X pins σ H s) {a:ac}(h:s.heap.objs.size<=a):a ∉ X.fs:=fun hb=>by
 obtain⟨_,o,ho,_⟩:=I.ok.funs.mem hb;exact absurd (l9 (ij ho) (wr I.sz h)) (ET _)
theorem Inv.ra (I:Inv X pins σ H s):∀x c,X.env.cells.lookup x=some c->c≠X.env.locals:=fun x c e z=>by
 obtain⟨v,o,ho,hd⟩:=I.cell x c e;obtain⟨m,⟨o',es,ep,iA,kU,_⟩,_⟩:=I.loc;rw[z,iA]at ho;cases ho;rw[kU]at hd;cases hd
theorem Inv.funs (I:Inv X pins σ H s):s.heap.FunFrames X.base X.outer :=by
 have all:∀(l:List Mn),(∀b∈d6 l,b∈X.fs)->X.s₀.heap.FunFrames X.base l->s.heap.FunFrames X.base l :=by
  intro l;induction l with
  |nil=>intro _ _;trivial
  |cons env r ih=>
   intro hs hl;obtain⟨hk,⟨L,o,hf,hn,ho,hd⟩,hr⟩:=hl;have hL:L∈X.fs:=hs L (by unfold d6;rw[SO,hf];exact ma)
   obtain⟨sl,e⟩:=I.base.slot L o ho (I.ok.frf L hL) hL fun z=>I.ok.exfs L z hL
   exact⟨hk,⟨L,_,hf,hn,e,hd⟩,ih (fun b hb=>hs b (by unfold d6;rw[SO,hf];exact i0 _ hb)) hr⟩
 exact all X.outer (fun _ hb=>hb) I.ok.funs
theorem Inv.stack (I:Inv X pins σ H s):s.heap.FunFrames X.base X.stack :=by
 rcases I.ok.stk with e|⟨e,hf⟩
 ·rw[e];exact I.funs
 ·rw[e];obtain⟨m,hn,_⟩:=I.loc;refine .cons (by rw[I.ok.kind];decide) hf hn ?_ I.funs
  exact hX.get?_none_of_le (wr I.ok.bsz I.ok.above)
theorem Inv.gh (I:Inv X pins σ H s):∀b∈d6 X.stack,b∈X.env.locals::X.fs:=fun b hb=>by
 rcases I.ok.stk with e|⟨e,hf⟩
 ·rw[e]at hb;exact i0 _ hb
 ·rw[e]at hb;unfold d6 at hb;rw[SO,hf]at hb;exact hb
theorem Inv.lW (I:Inv X pins σ H s):∀b∈d6 X.stack,H b=none:=fun b hb=>by
 rcases kw.mp (I.gh b hb) with e|hb
 ·rw[e];exact I.free
 ·obtain⟨_,o,ho,_⟩:=I.ok.funs.mem hb;exact I.base.free b o ho (I.ok.frf b hb) fun z=>I.ok.exfs b z hb
theorem Inv.step {g':Array X7}{t':Nat}{d':Drawn}{ch:List ac}(I:Inv X pins σ H s)
  (pQ:∀b∈ch,(b∈X.ex\/X.s₀.heap.objs.size<=b)/\b≠X.env.locals/\(∀x c,X.env.cells.lookup x=some c->c≠b)/\∀p∈X.pn++pins,p.1≠b)
  (keep:∀b o,b≠X.env.locals->b ∉ X.fs->b ∉ ch->s.heap.get? b=some o->H b=none->h'.get? b=some o)
  (slot:∀b o,b≠X.env.locals->b∈X.fs->b ∉ ch->s.heap.get? b=some o->H b=none->∃sl,h'.get? b=some {o with slots:=sl}) (free:∀b o,b ∉ ch->s.heap.get? b=some o->H b=none->H' b=none)
  (there:∀b o,b ∉ ch->s.heap.get? b=some o->∃o',h'.get? b=some o')
  (tups:∀b xs,H b=some (.tup xs)->H' b=some (.tup xs)) (frzs:∀b o u,H b=some (.bM o u)->H' b=some (.bM o u)) (tbls:∀b ps,H b=some (.c7 ps)->∃more,H' b=some (.c7 (ps++more)))
  (ns:∀m,s.heap.Ns X.env.locals m->h'.Ns X.env.locals m) (hok:cS X.prog X.w H' h') (hg:Gn s.gens.size g') :
  Inv X pins σ H' {s with heap:=h',gens:=g',drawn:=d',toks:=t'}:=by
 have R6:∀b o,X.s₀.heap.get? b=some o->b≠X.env.locals:=fun b o e=>l7 (l9 (ij e) I.ok.above)
 have Hn:∀b o,X.s₀.heap.get? b=some o->b ∉ X.ex->b ∉ ch:=fun b o e hx hb=>by
  rcases (pQ b hb).1 with z|z
  ·exact hx z
  ·exact absurd (l9 (ij e) z) (ET _)
 have cellK:∀x c,X.env.cells.lookup x=some c->∀v,s.heap.IsCell c v->h'.IsCell c v:=fun x c e v ⟨o,ho,hd⟩=>by
  have BX:c ∉ ch:=fun z=>(pQ c z).2.2.1 x c e rfl
  by_cases hc:c∈X.fs
  ·obtain⟨sl,q⟩:=slot c o (I.ra x c e) hc BX ho (I.freeC x c e);exact⟨_,q,hd⟩
  ·exact⟨o,keep c o (I.ra x c e) hc BX ho (I.freeC x c e),hd⟩
 refine⟨I.ok,I.os,I.bare.trans hg,⟨fun b o e n hb hx=>?_,fun b o e n hb hx=>?_,fun b o e n hx=>?_,fun b o e hx=>?_,fun b xs e=>tups b xs (I.base.tups b xs e),fun b o xs e=>frzs b o xs (I.base.frzs b o xs e),fun b ps e=>?_⟩,?_,fun x c e=>?_,?_,fun x c e=>?_,fun p hp=>?_,hok,I.len⟩
 ·exact keep b o (R6 b o e) hb (Hn b o e hx) (I.base.keep b o e n hb hx) (I.base.free b o e n hx)
 ·obtain⟨sl,e1⟩:=I.base.slot b o e n hb hx;obtain⟨R7,e2⟩:=slot b _ (R6 b o e) hb (Hn b o e hx) e1 (I.base.free b o e n hx);exact⟨R7,e2⟩
 ·obtain⟨o',e1⟩:=I.base.there b o e hx;exact free b o' (Hn b o e hx) e1 (I.base.free b o e n hx)
 ·obtain⟨o',e1⟩:=I.base.there b o e hx;exact there b o' (Hn b o e hx) e1
 ·obtain⟨m1,e1⟩:=I.base.tbls b ps e;obtain⟨m2,e2⟩:=tbls b _ e1;exact⟨m1++m2,by rw[e2,Array.append_assoc]⟩
 ·obtain⟨m,hn,hl⟩:=I.loc;refine⟨m,ns m hn,fun i x v e1 e2 e3=>?_⟩
  obtain⟨u,r,l⟩:=hl i x v e1 e2 e3;refine⟨u,r,?_⟩;rcases l with l|⟨k,c,e,z⟩
  ·exact .inl l
  ·exact .inr ⟨k,c,e,cellK x c e _ z⟩
 ·obtain⟨v,z⟩:=I.cell x c e;exact⟨v,cellK x c e v z⟩
 ·obtain⟨m,⟨o,_,_,ho,_⟩,_⟩:=I.loc;exact free _ o (fun z=>(pQ _ z).2.1 rfl) ho I.free
 ·obtain⟨v,o,ho,hd⟩:=I.cell x c e;exact free c o (fun z=>(pQ c z).2.2.1 x c e rfl) ho (I.freeC x c e)
 ·obtain⟨e,n,ne,nf,d⟩:=I.pin p hp;have BX:p.1 ∉ ch:=fun z=>(pQ p.1 z).2.2.2 p hp rfl
  exact⟨keep p.1 p.2 ne nf BX e n,free p.1 p.2 BX e n,ne,nf,d⟩
theorem Inv.un {t':Nat}(I:Inv X pins σ H s) (u:Un X.fs [] H H' s.heap h') (hok:cS X.prog X.w H' h'):Inv X pins σ H' {s with heap:=h',toks:=t'}:=by
 obtain⟨m,⟨o,es,ep,ho,r⟩,_⟩:=id I.loc;obtain⟨sl,hL⟩:=u.any ho I.free (by simp)
 exact I.step (g':=s.gens) (d':=s.drawn) (ch:=[]) (fun _ z=>nomatch z) (fun b o _ hb _ e n=>u.keep b o e n hb (by simp)) (fun b o _ hb _ e n=>u.slot b o e n hb (by simp)) (fun b o _ e n=>u.free b o e n (by simp)) (fun b o _ e=>u.there b o e (by simp)) u.tups u.frzs u.tbls (fun m' hm=>by
  obtain⟨o',Lx,Ly,iA,r'⟩:=hm;rw[ho]at iA;cases iA;exact⟨_,Lx,Ly,hL,r'⟩) hok I.bare.self
theorem Inv.call {g':Array X7}{t':Nat}{d':Drawn}{ch:List ac}(I:Inv X pins σ H s) (u:Un (d6 X.stack) ch H H' s.heap h') (hok:cS X.prog X.w H' h') (hg:Gn s.gens.size g')
  (pQ:∀b∈ch,(b∈X.ex\/X.s₀.heap.objs.size<=b)/\b≠X.env.locals/\(∀x c,X.env.cells.lookup x=some c->c≠b)/\∀p∈X.pn++pins,p.1≠b) :
  Inv X pins σ H' {s with heap:=h',gens:=g',drawn:=d',toks:=t'}:=by
 obtain⟨m,⟨o,es,ep,ho,r⟩,_⟩:=id I.loc;obtain⟨sl,hL⟩:=u.any ho I.free fun z=>(pQ _ z).2.1 rfl
 exact I.step (ch:=ch) pQ (fun b o hL hb hc e n=>u.keep b o e n (fun z=>(kw.mp (I.gh b z)).elim hL hb) hc) (fun b o _ _ hc e n=>u.any e n hc) (fun b o hc e n=>u.free b o e n hc) (fun b o hc e=>u.there b o e hc) u.tups u.frzs u.tbls (fun m' hm=>by
  obtain⟨o',Lx,Ly,iA,r'⟩:=hm;rw[ho]at iA;cases iA;exact⟨_,Lx,Ly,hL,r'⟩) hok hg
theorem Inv.turned {t':Nat}{it:ac}(I:Inv X pins σ H s) (k:∀b o,b≠it->s.heap.get? b=some o->h'.get? b=some o) (hn:H it=none) (hL:it≠X.env.locals)
  (h1:it∈X.ex\/X.s₀.heap.objs.size<=it) (h2:∀x c,X.env.cells.lookup x=some c->c≠it) (h3:∀p∈X.pn++pins,p.1≠it):Inv X pins σ H {s with heap:=h',toks:=t'}:=by
 have BZ:∀b u,H b=some u->b≠it:=fun b u e z=>by rw[z,hn]at e;cases e
 refine I.step (g':=s.gens) (d':=s.drawn) (ch:=[it]) (fun b hb=>?_) (fun b o _ _ hc e _=>k b o (fun z=>hc (by simp[z])) e) (fun b o _ _ hc e _=>⟨o.slots,k b o (fun z=>hc (by simp[z])) e⟩) (fun _ _ _ _ n=>n)
  (fun b o hc e=>⟨o,k b o (fun z=>hc (by simp[z])) e⟩) (fun _ _ e=>e) (fun _ _ _ e=>e) (fun b ps e=>⟨#[],by rw[e];simp⟩) (fun m hm=>?_) (fun b u e=>?_) I.bare.self
 ·have e:b=it :=by simpa using hb
  subst e;exact⟨h1,hL,h2,h3⟩
 ·obtain⟨o,es,ep,ho,r⟩:=hm;exact⟨o,es,ep,k _ o (AN hL) ho,r⟩
 ·refine(I.hok b u e).cG (fun c v hc q=>k c v ?_ q) (fun _ q=>q) fun _ _ q=>q
  rcases hc with z|z
  ·rw[z];exact BZ b u e
  ·exact BZ c _ z
theorem Inv.tok (I:Inv X pins σ H s) (t:Nat):Inv X pins σ H {s with toks:=t}:=I.un (h':=s.heap) (t':=t) Un.refl I.hok
theorem Inv.kept {t':Nat}(I:Inv X pins σ H s) (k:∀b u,s.heap.get? b=some u->h'.get? b=some u):Inv X pins σ H {s with heap:=h',toks:=t'}:=I.un (Un.kept k) (I.hok.kept k)
theorem Inv.laid {a:ac}{o:HO}{t':Nat}(I:Inv X pins σ H s) (k:∀b u,s.heap.get? b=some u->h'.get? b=some u) (hp:s.heap.objs.size<=a) (new:ObjOk X.prog X.w (upd H a o) h' a o) :
  Inv X pins σ (upd H a o) {s with heap:=h',toks:=t'}:=I.un (Un.laid k hp (I.hok.fresh hp)) (I.hok.laid k hp new)
theorem Inv.write {x e:ac}{o:HO}{t':Nat}(I:Inv X pins σ H s) (mu:BV (H x)) (he:e=x\/H e=some (.own x)) (k:∀b u,b≠e->s.heap.get? b=some u->h'.get? b=some u) (yX:∃u,h'.get? e=some u)
  (new:ObjOk X.prog X.w (upd H x o) h' x o):Inv X pins σ (upd H x o) {s with heap:=h',toks:=t'}:=I.un (Un.write mu he k yX) (I.hok.write mu he k yX new)
theorem Inv.jJ {pins':List (ac×li)}(I:Inv X pins σ H s) (h:∀p∈pins',s.heap.get? p.1=some p.2/\H p.1=none/\p.1≠X.env.locals/\p.1 ∉ X.fs/\∀v,p.2.data≠.cell v):Inv X pins' σ H s:=
 ⟨I.ok,I.os,I.bare,I.base,I.loc,I.cell,I.free,I.freeC,fun p hp=>(wv.mp hp).elim (fun z=>I.pin p (u7 _ z)) (h p),I.hok,I.len⟩
theorem vT {N:List bn}(hN:N.Nodup) {i j:Nat}{x:bn}(a:N[i]?=some x) (b:N[j]?=some x):i=j :=by
 obtain⟨h1,e1⟩:=bv.mp a;obtain⟨h2,e2⟩:=bv.mp b;exact(List.getElem_inj hN).mp (e1.trans e2.symm)
theorem store_ok2 {M:Z9}{A:rb}{E:al->ba->Prop}{i:Nat}{x:bn}{v:V}{u:al}{Q:Unit->ba->Prop}(I:Inv X pins σ H s) (hN:X.N.Nodup) (hi:X.N[i]?=some x) (hx:Loc X.env.scope x) (r:RelV v u)
  (h:∀s',Inv X pins (σ.set i (some v)) H s'->(∃a,AL a s.heap s'.heap/\(a=X.env.locals\/X.env.cells.lookup x=some a))->Q () s') (hf:X.fn x=true\/X.env.scope.names.lookup x=some .local :=by first|exact .inl rfl|exact .inr rfl|assumption):wpAny M A (storeName X.env x u) Q E s :=by
 obtain⟨m,hn,hl⟩:=id I.loc;have Tv:(X.env.scope.kind==.class || (X.env.scope.kind==.module && X.env.locals != X.env.globals))=false :=by rw[I.ok.kind];rfl
 have Lz:i<σ.length :=by rw[I.len];exact(bv.mp hi).1
 have ra:=I.ra;have tracked:∀{a:ac} {h':hX},(∃o,s.heap.get? a=some o/\H a=none)->AL a s.heap h'->cS X.prog X.w H h':=fun {a h'} ha hs b ob e=>by
  obtain⟨_,_,oV⟩:=ha;refine(I.hok b ob e).cG (fun c w' hc q=>(hs.2 c ?_).trans q) (fun _ q=>q) fun _ _ q=>q
  rintro rfl;rcases hc with rfl|hc
  ·rw[oV]at e;cases e
  ·rw[oV]at hc;cases hc
 rcases hx with hk|hk
 ·refine wpAny_storeName_local hk hn (fun h' vU hs=>?_) Tv
  obtain⟨oL,_,_,B1,_⟩:=id hn;refine h _ ⟨I.ok,I.os,I.bare,⟨fun b o e n hb hx=>?_,fun b o e n hb hx=>?_,I.base.free,fun b o e hx=>?_,I.base.tups,I.base.frzs,I.base.tbls⟩,⟨_,vU,fun j y v' e1 e2 e3=>?_⟩,fun y c e=>?_,I.free,I.freeC,fun p hp=>?_,tracked ⟨oL,B1,I.free⟩ hs,by simpa using I.len⟩ ⟨_,hs,.inl rfl⟩
  ·exact(hs.2 b (l7 (l9 (ij e) I.ok.above))).trans (I.base.keep b o e n hb hx)
  ·obtain⟨sl,e1⟩:=I.base.slot b o e n hb hx;exact⟨sl,(hs.2 b (l7 (l9 (ij e) I.ok.above))).trans e1⟩
  ·obtain⟨o',e1⟩:=I.base.there b o e hx;exact⟨o',(hs.2 b (l7 (l9 (ij e) I.ok.above))).trans e1⟩
  ·by_cases hj:j=i
   ·subst hj;rw[hi]at e1;cases e1;rw[Yn Lz]at e2;cases e2;exact⟨u,r,.inl ⟨hk,by simp⟩⟩
   ·rw[List.getElem?_set_ne (AN hj)]at e2;obtain⟨u',r',q⟩:=hl j y v' e1 e2 e3;refine⟨u',r',?_⟩;rcases q with ⟨k,e⟩|⟨k,c,e,z⟩
    ·refine .inl ⟨k,?_⟩;have:y≠x:=fun e=>hj (vT hN e1 (e▸hi))
     simp[this,e]
    ·exact .inr ⟨k,c,e,z.sameBut hs (ra y c e)⟩
  ·obtain⟨w',z⟩:=I.cell y c e;exact⟨w',z.sameBut hs (ra y c e)⟩
  ·obtain⟨e,n,ne,nf,d⟩:=I.pin p hp;exact⟨(hs.2 p.1 ne).trans e,n,ne,nf,d⟩
 ·have rg:X.fn x=true :=by
   rcases hf with z|z
   ·exact z
   ·rw[z]at hk;cases hk
  obtain⟨c,hc⟩:=I.ok.has x (.inl hk);obtain⟨w',z⟩:=I.cell x c hc;refine wpAny_storeName_cell I.ok.kind hk hc z (fun h' Ho hs=>?_)
  obtain⟨oc,uf,Tw⟩:=id z;refine h {s with heap:=h'} ⟨I.ok,I.os,I.bare,⟨fun b o e n hb hx=>?_,fun b o e n hb hx=>?_,I.base.free,fun b o e hx=>?_,I.base.tups,I.base.frzs,I.base.tbls⟩,⟨m,hn.sameBut hs (AN (ra x c hc)),fun j y v' e1 e2 e3=>?_⟩,fun y c' e=>?_,I.free,I.freeC,fun p hp=>?_,tracked ⟨oc,uf,I.freeC x c hc⟩ hs,by simpa using I.len⟩ ⟨c,hs,.inr hc⟩
  ·exact(hs.2 b (l7 (l9 (ij e) (I.ok.cab x c rg hc)))).trans (I.base.keep b o e n hb hx)
  ·obtain⟨sl,e1⟩:=I.base.slot b o e n hb hx;exact⟨sl,(hs.2 b (l7 (l9 (ij e) (I.ok.cab x c rg hc)))).trans e1⟩
  ·obtain⟨o',e1⟩:=I.base.there b o e hx;exact⟨o',(hs.2 b (l7 (l9 (ij e) (I.ok.cab x c rg hc)))).trans e1⟩
  ·by_cases hj:j=i
   ·subst hj;rw[hi]at e1;cases e1;rw[Yn Lz]at e2;cases e2;exact⟨u,r,.inr ⟨.inl hk,c,hc,Ho⟩⟩
   ·rw[List.getElem?_set_ne (AN hj)]at e2;obtain⟨u',r',q⟩:=hl j y v' e1 e2 e3;refine⟨u',r',?_⟩;rcases q with q|⟨k,c',e,z'⟩
    ·exact .inl q
    ·refine .inr ⟨k,c',e,z'.sameBut hs ?_⟩;rintro rfl;exact hj (vT hN e1 (I.ok.inj _ _ _ e hc▸hi))
  ·by_cases R8:c'=c
   ·subst R8;exact⟨_,Ho⟩
   ·obtain⟨w2,z2⟩:=I.cell y c' e;exact⟨w2,z2.sameBut hs R8⟩
  ·obtain⟨e,n,ne,nf,d⟩:=I.pin p hp;refine⟨(hs.2 p.1 ?_).trans e,n,ne,nf,d⟩;intro q;rw[q,uf]at e;have q':oc=p.2:=i8 e;exact d w' (by rw[<- q'];exact Tw)
theorem mJ {M:Z9}{A:rb}{E:al->ba->Prop}{i:Nat}{x:bn}{v:V}{u:al}{Q:Unit->ba->Prop}(I:Inv X pins σ H s) (hN:X.N.Nodup) (hi:X.N[i]?=some x) (hx:Loc X.env.scope x) (r:RelV v u)
  (h:∀s',Inv X pins (σ.set i (some v)) H s'->Q () s') (hf:X.fn x=true\/X.env.scope.names.lookup x=some .local :=by first|exact .inl rfl|exact .inr rfl|assumption):wpAny M A (storeName X.env x u) Q E s:=
 store_ok2 I hN hi hx r (fun s' I' _=>h s' I') hf
theorem Inv.rh {s':ba}{ch:List ac}(I:Inv X pins σ H s) (ho:s'.os=s.os) (u:Un (d6 X.stack) ch H H' s.heap s'.heap) (hok:cS X.prog X.w H' s'.heap) (hg:Gn s.gens.size s'.gens)
  (pQ:∀b∈ch,(b∈X.ex\/X.s₀.heap.objs.size<=b)/\b≠X.env.locals/\(∀x c,X.env.cells.lookup x=some c->c≠b)/\∀p∈X.pn++pins,p.1≠b):Inv X pins σ H' s':=by
 obtain⟨h',g',d',t',o'⟩:=s';have e:o'=s.os:=ho;subst e;exact I.call (g':=g') (t':=t') (d':=d') u hok hg pQ
end
abbrev XK:=al->Option ac->Hp->Prop
abbrev St:=List (Option V)
abbrev VK:=V->Hp->Prop
abbrev TE:=St->Hp->VK->Prop
abbrev TT:=St->Hp->(Bool->Hp->Prop)->Prop
abbrev TA:=St->Hp->(List V->Hp->Prop)->Prop
structure Ends where
 nx:St->Hp->Prop
 rt:VK
 bk:St->Hp->Prop:=fun _ _=>False
 ct:St->Hp->Prop:=fun _ _=>False
abbrev TS:=Ends->St->Hp->Prop
def EP (X:Cx) (pins:List (ac×li)) (σ:St) (Q:VK) (u:al) (s':ba):Prop:=∃v H',Inv X pins σ H' s'/\RelV v u/\Q v H'
def TP (X:Cx) (pins:List (ac×li)) (σ:St) (Q:Bool->Hp->Prop) (b:Bool) (s':ba):Prop:=∃H',Inv X pins σ H' s'/\Q b H'
def AP (X:Cx) (pins:List (ac×li)) (σ:St) (Q:List V->Hp->Prop) (us:List al) (s':ba):Prop:=∃vs H',Inv X pins σ H' s'/\Vals vs us/\Q vs H'
def SP (X:Cx) (pins:List (ac×li)) (D:Ends) (f:Flow) (s':ba):Prop:=
 match f with
 | .next=>∃aF H',Inv X pins aF H' s'/\D.nx aF H'
 | .brk=>∃aF H',Inv X pins aF H' s'/\D.bk aF H'
 | .cont=>∃aF H',Inv X pins aF H' s'/\D.ct aF H'
 | .ret u=>∃v aF H',Inv X pins aF H' s'/\RelV v u/\D.rt v H'
structure PE (X:Cx) (e:db) (t:TE):Prop where
 run:∀(pins:List (ac×li)) (s:ba) (σ:St) (H:Hp) (Q:VK),Inv X pins σ H s->t σ H Q->wpAny (model X.prog X.w) X.A (eval e X.env) (EP X pins σ Q) X.xe s
instance {X:Cx} {e:db} {t:TE}:CoeFun (PE X e t) (fun _=>∀(pins:List (ac×li)) (s:ba) (σ:St) (H:Hp) (Q:VK),Inv X pins σ H s->t σ H Q->wpAny (model X.prog X.w) X.A (eval e X.env) (EP X pins σ Q) X.xe s):=⟨PE.run⟩
structure PT (X:Cx) (e:db) (t:TT):Prop where
 run:∀(pins:List (ac×li)) (s:ba) (σ:St) (H:Hp) (Q:Bool->Hp->Prop),Inv X pins σ H s->t σ H Q->wpAny (model X.prog X.w) X.A (isTrue e X.env (eval e X.env)) (TP X pins σ Q) X.xe s
instance {X:Cx} {e:db} {t:TT}:CoeFun (PT X e t) (fun _=>∀(pins:List (ac×li)) (s:ba) (σ:St) (H:Hp) (Q:Bool->Hp->Prop),Inv X pins σ H s->t σ H Q->wpAny (model X.prog X.w) X.A (isTrue e X.env (eval e X.env)) (TP X pins σ Q) X.xe s):=⟨PT.run⟩
def PW (X:Cx) (e:db) (t:TT):Prop:=
 ∀(whole:YD al) (pins:List (ac×li)) (s:ba) (σ:St) (H:Hp) (Q:Bool->Hp->Prop),Inv X pins σ H s->t σ H Q->wpAny (model X.prog X.w) X.A (isTrue e X.env whole) (TP X pins σ Q) X.xe s
theorem PW.pt {X:Cx}{e:db}{t:TT}(h:PW X e t):PT X e t:=⟨h _⟩
structure PA (X:Cx) (es:List db) (t:TA):Prop where
 run:∀(pos:wE) (pins:List (ac×li)) (s:ba) (σ:St) (H:Hp) (Q:List V->Hp->Prop),Inv X pins σ H s->t σ H Q->wpAny (model X.prog X.w) X.A (spliced (backTo pos (starEach es X.env))) (AP X pins σ Q) X.xe s
instance {X:Cx} {es:List db} {t:TA}:CoeFun (PA X es t) (fun _=>∀(pos:wE) (pins:List (ac×li)) (s:ba) (σ:St) (H:Hp) (Q:List V->Hp->Prop),Inv X pins σ H s->t σ H Q->wpAny (model X.prog X.w) X.A (spliced (backTo pos (starEach es X.env))) (AP X pins σ Q) X.xe s):=⟨PA.run⟩
structure PS (X:Cx) (st:tw) (t:TS):Prop where
 run:∀(pins:List (ac×li)) (s:ba) (σ:St) (H:Hp) (D:Ends),Inv X pins σ H s->t D σ H->wpAny (model X.prog X.w) X.A (exec st X.env) (SP X pins D) X.xe s
instance {X:Cx} {st:tw} {t:TS}:CoeFun (PS X st t) (fun _=>∀(pins:List (ac×li)) (s:ba) (σ:St) (H:Hp) (D:Ends),Inv X pins σ H s->t D σ H->wpAny (model X.prog X.w) X.A (exec st X.env) (SP X pins D) X.xe s):=⟨PS.run⟩
structure f6 (X:Cx) (st:List tw) (t:TS):Prop where
 run:∀(pins:List (ac×li)) (s:ba) (σ:St) (H:Hp) (D:Ends),Inv X pins σ H s->t D σ H->wpAny (model X.prog X.w) X.A (execs st X.env) (SP X pins D) X.xe s
instance {X:Cx} {st:List tw} {t:TS}:CoeFun (f6 X st t) (fun _=>∀(pins:List (ac×li)) (s:ba) (σ:St) (H:Hp) (D:Ends),Inv X pins σ H s->t D σ H->wpAny (model X.prog X.w) X.A (execs st X.env) (SP X pins D) X.xe s):=⟨f6.run⟩
theorem thn {α:Type}{t:YD α}{Q Q':α->ba->Prop}{M:Z9}{A:rb}{E:al->ba->Prop}{s:ba}(h:wpAny M A t Q E s) (hQ:∀a s,Q a s->Q' a s):wpAny M A t Q' E s:=mf h hQ fun _ _ x=>x
section
variable {X:Cx}
theorem bin {a b:db}{ta tb:TE}(ha:PE X a ta) (hb:PE X b tb) {pins:List (ac×li)}{s:ba}{σ:St}{H:Hp}{R:V->V->Hp->Prop}(I:Inv X pins σ H s) (h:ta σ H fun x H1=>tb σ H1 fun y H2=>R x y H2)
  {α:Type} {Q:α->ba->Prop} {f:al->al->YD α}
  (hf:∀v u s2 x y H2,Inv X pins σ H2 s2->RelV x v->RelV y u->R x y H2->wpAny (model X.prog X.w) X.A (f v u) Q X.xe s2) :
  wpAny (model X.prog X.w) X.A (eval a X.env) (fun v aC=>wpAny (model X.prog X.w) X.A (eval b X.env) (fun u jg=>wpAny (model X.prog X.w) X.A (f v u) Q X.xe jg) X.xe aC) X.xe s :=by
 refine thn (ha pins s σ H _ I h) fun v s1 ⟨x,H1,I1,r1,q1⟩=>?_
 refine thn (hb pins s1 σ H1 _ I1 q1) fun u s2 ⟨y,H2,I2,r2,q2⟩=>?_
 exact hf v u s2 x y H2 I2 r1 r2 q2
def LA (i:Nat):TE:=fun σ H Q=>∃v,σ[i]?=some (some v)/\Q v H
def tC (v:V):TE:=fun _ H Q=>Q v H
theorem vV {i:Nat}{x:bn}{pos:wE}(hN:X.N[i]?=some x) (hv:pP X.env.scope x) (hd:(x==("__debug__" : bn))=false :=by decide) (d7:(x==("__classdict__" : bn))=false :=by decide):PE X (.Name x pos) (LA i) :=by
 refine⟨?_⟩;intro pins s σ H Q I h;obtain⟨v,e,h⟩:=h;obtain⟨m,hn,hl⟩:=I.loc;obtain⟨u,r,l⟩:=hl i x v hN e hv;have fin:EP X pins σ Q u s:=⟨v,H,I,r,h⟩;rcases l with ⟨hk,hm⟩|⟨hk,c,hc,vF⟩
 ·exact wpAny_Name (wpAny_loadName_local I.ok.kind hk hn hm fin) hd
 ·rcases hk with hk|hk
  ·exact wpAny_Name (wpAny_loadName_cell I.ok.kind hk hc vF fin) hd
  ·exact wpAny_Name (wpAny_loadName_free I.ok.kind hk hc vF fin d7) hd
theorem LC {i j pos}:PE X (.Constant (.int i) j pos) (tC (.int i)):=⟨fun _ _ _ H _ I h=>wpAny_Constant_int ⟨.int i,H,I.tok _,⟨_,rfl⟩,h⟩⟩
theorem Qu {b j pos}:PE X (.Constant (.bool b) j pos) (tC (.bl b)):=⟨fun _ _ _ H _ I h=>Constant_bool ⟨.bl b,H,I,rfl,h⟩⟩
theorem LD {x j pos}:PE X (.Constant (.str x) j pos) (tC (.str x)):=⟨fun _ _ _ H _ I h=>Calls.Constant_str ⟨.str x,H,I.tok _,⟨_,rfl⟩,h⟩⟩
def Gl (X:Cx) (x:bn):Prop:=X.env.kindOf x=some .globalImplicit
theorem lX {E:al->ba->Prop}{pins:List (ac×li)}{s:ba}{σ:St}{H:Hp}{x:bn}{u:al}{pos:wE}{Q:al->ba->Prop}(I:Inv X pins σ H s) (hg:Gl X x) (hm:X.mg x=some u) (h:Q u s)
  (hd:(x==("__debug__" : bn))=false :=by decide):wpAny (model X.prog X.w) X.A (eval (.Name x pos) X.env) Q E s:=
 Calls.Name_function_global I.ok.kind hg (Calls.loadGlobal_global (by rw[I.ok.glob];exact I.mod.glob.keeps I.bk) hm h) hd
theorem fD {E:al->ba->Prop}{pins:List (ac×li)}{s:ba}{σ:St}{H:Hp}{x:bn}{u:al}{pos:wE}{Q:al->ba->Prop}(I:Inv X pins σ H s) (hg:Gl X x) (hm:X.mg x=none) (hv:bootBuiltins x=some u) (h:Q u s)
  (hn:x ≠ "__name__" := by decide) (hd:(x==("__debug__" : bn))=false :=by decide):wpAny (model X.prog X.w) X.A (eval (.Name x pos) X.env) Q E s :=by
 obtain⟨mb,h1,h2⟩:=I.mod.blt;exact Calls.Name_function_global I.ok.kind hg (Calls.loadGlobal_builtin (by rw[I.ok.glob];exact I.mod.glob.keeps I.bk) hm (by rw[I.ok.blt];exact h1.keeps I.bk) ((h2 x hn).trans hv) h) hd
theorem sW {x:bn}{v:V}{u:al}{pos:wE}(hg:Gl X x) (hm:X.mg x=some u) (r:RelV v u) (hd:(x==("__debug__" : bn))=false :=by decide):PE X (.Name x pos) (tC v):=⟨fun _ _ _ H _ I h=>lX I hg hm ⟨v,H,I,r,h⟩ hd⟩
theorem Jh {x:bn}{v:V}{u:al}{pos:wE}(hg:Gl X x) (hm:X.mg x=none) (hv:bootBuiltins x=some u) (r:RelV v u) (hn:x ≠ "__name__" := by decide) (hd:(x==("__debug__" : bn))=false :=by decide):PE X (.Name x pos) (tC v):=⟨fun _ _ _ H _ I h=>fD I hg hm hv ⟨v,H,I,r,h⟩ hn hd⟩
variable {a b:db}{ta tb:TE}{pos:wE}
def PC (X:Cx) (op:XN) (a b:db) (t:TE):Prop:=
 ∀(pins:List (ac×li)) (s:ba) (σ:St) (H:Hp) (Q:VK),Inv X pins σ H s->t σ H Q->
  wpAny (model X.prog X.w) X.A (eval a X.env) (fun v aC=>wpAny (model X.prog X.w) X.A (eval b X.env) (fun u jg=>wpAny (model X.prog X.w) X.A (compareOp op v u) (EP X pins σ Q) X.xe jg) X.xe aC) X.xe s
theorem E6 (b:db) {op:XN}(h:op≠.In) (h2:op≠.NotIn):behindInMarks op b=false :=by
 have e1:(op==XN.In)=false :=by cases op<;>first|rfl|exact absurd rfl h
 have e2:(op==XN.NotIn)=false :=by cases op<;>first|rfl|exact absurd rfl h2
 cases b<;>simp[behindInMarks,e1,e2]
def tB (t:TE):TT:=fun σ H Q=>t σ H fun x H1=>∃c,x=.bl c/\Q c H1
theorem U2 {op:XN}{t:TE}(h:PC X op a b t) (h1:behindInMarks op b=false :=by first|exact E6 _ (by decide) (by decide)|rfl):PT X (.Compare a [op] [b] pos) (tB t) :=by
 refine⟨?_⟩;intro pins s σ H Q I hw;refine wpAny_isTrue_Compare1 (thn (h pins s σ H _ I hw) fun v s1 h1=>thn h1 fun u s2 h2=>thn h2 fun c s3 ⟨x,H1,I1,r1,q1⟩=>?_) h1
 obtain⟨d,rfl,q⟩:=q1;cases r1;exact Cc ⟨H1,I1,q⟩
theorem LI {e:db}{t:TE}(h:PE X e t) (he:∀whole,isTrue e X.env whole=(do let v <- whole;standAt e.pos;holding [v] (truthy v)) :=by intro _;rfl):PT X e (tB t) :=by
 refine⟨?_⟩;intro pins s σ H Q I hw;refine isTrue_plain (thn (h pins s σ H _ I hw) fun v s1 ⟨x,H1,I1,r1,q1⟩=>?_) (he _)
 obtain⟨d,rfl,q⟩:=q1;cases r1;exact Cc ⟨H1,I1,q⟩
variable {tA rl:TT}{rest:List db}
def Tx (t u:TT):TT:=fun σ H Q=>t σ H fun c H1=>if c=true then u σ H1 Q else Q false H1
def U3 (t u:TT):TT:=fun σ H Q=>t σ H fun c H1=>if c=true then Q true H1 else u σ H1 Q
def Tz (t:TT):TT:=fun σ H Q=>t σ H fun c H1=>Q (!c) H1
theorem Ji (ha:PT X a tA):PW X (.BoolOp .And [a] pos) tA :=by
 intro wh pins s σ H Q I h;refine isTrue_and (thn (ha pins s σ H Q I h) fun c s1 e=>?_)
 cases c with
 |true=>exact isTrue_and_nil e
 |false=>exact e
theorem LJ (ha:PT X a tA):PW X (.BoolOp .Or [a] pos) tA :=by
 intro wh pins s σ H Q I h;refine isTrue_or (thn (ha pins s σ H Q I h) fun c s1 e=>?_)
 cases c with
 |false=>exact isTrue_or_nil e
 |true=>exact e
theorem LK (ha:PT X a tA) (hb:PW X (.BoolOp .And (b::rest) pos) rl):PW X (.BoolOp .And (a::b::rest) pos) (Tx tA rl) :=by
 intro wh pins s σ H Q I h;refine isTrue_and (thn (ha pins s σ H _ I h) fun c s1 ⟨H1,I1,q1⟩=>?_)
 cases c with
 |true=>exact hb wh pins s1 σ H1 Q I1 q1
 |false=>exact⟨H1,I1,q1⟩
theorem Qv (ha:PT X a tA) (hb:PW X (.BoolOp .Or (b::rest) pos) rl):PW X (.BoolOp .Or (a::b::rest) pos) (U3 tA rl) :=by
 intro wh pins s σ H Q I h;refine isTrue_or (thn (ha pins s σ H _ I h) fun c s1 ⟨H1,I1,q1⟩=>?_)
 cases c with
 |true=>exact⟨H1,I1,q1⟩
 |false=>exact hb wh pins s1 σ H1 Q I1 q1
theorem LL (ha:PT X a tA):PT X (.UnaryOp .Not a pos) (Tz tA) :=by
 refine⟨?_⟩;intro pins s σ H Q I h;exact isTrue_not (ha pins s σ H (fun c H1=>Q (!c) H1) I h)
def Qw (ta tb:TE):TE:=fun σ H Q=>ta σ H fun x H1=>∃c,x=.bl c/\if c=true then tb σ H1 Q else Q (.bl false) H1
def TC (ta tb:TE):TE:=fun σ H Q=>ta σ H fun x H1=>∃c,x=.bl c/\if c=true then Q (.bl true) H1 else tb σ H1 Q
def Qx (ta:TE):TE:=fun σ H Q=>ta σ H fun x H1=>∃c,x=.bl c/\Q (.bl (!c)) H1
theorem LN {op}{t:TE}(h:PE X a t):PE X (.BoolOp op [a] pos) t:=⟨fun pins s σ H Q I hw=>BoolOp_one (h pins s σ H Q I hw)⟩
theorem LO (ha:PE X a ta) (hb:PE X (.BoolOp .And (b::rest) pos) tb):PE X (.BoolOp .And (a::b::rest) pos) (Qw ta tb) :=by
 refine⟨?_⟩;intro pins s σ H Q I h;refine BoolOp_and (thn (ha pins s σ H _ I h) fun v s1 ⟨x,H1,I1,r1,q1⟩=>?_)
 obtain⟨c,rfl,q1⟩:=q1;cases r1;refine Cc ?_;cases c with
 |true=>exact hb pins s1 σ H1 Q I1 q1
 |false=>exact⟨.bl false,H1,I1,rfl,q1⟩
theorem Qy (ha:PE X a ta) (hb:PE X (.BoolOp .Or (b::rest) pos) tb):PE X (.BoolOp .Or (a::b::rest) pos) (TC ta tb) :=by
 refine⟨?_⟩;intro pins s σ H Q I h;refine BoolOp_or (thn (ha pins s σ H _ I h) fun v s1 ⟨x,H1,I1,r1,q1⟩=>?_)
 obtain⟨c,rfl,q1⟩:=q1;cases r1;refine Cc ?_;cases c with
 |false=>exact hb pins s1 σ H1 Q I1 q1
 |true=>exact⟨.bl true,H1,I1,rfl,q1⟩
theorem LQ (ha:PE X a ta):PE X (.UnaryOp .Not a pos) (Qx ta) :=by
 refine⟨?_⟩;intro pins s σ H Q I h;refine UnaryOp_ (thn (ha pins s σ H _ I h) fun v s1 ⟨x,H1,I1,r1,q1⟩=>?_)
 obtain⟨c,rfl,q1⟩:=q1;cases r1;exact not_of (Cc ⟨.bl (!c),H1,I1,rfl,q1⟩)
end
def bo (K:bi) (H:Hp) (a:ac) (xs:List V):Prop:=
 Rd H a (.lst xs) \/
  ∃(o:li) (its:Array al) (n:Nat),K.lookup a=some o/\o.cls=.type "list" /\ o.dict=none/\o.data=.seq its n/\its.size<=sizeLine/\Vals xs its.toList
def cw (K:bi) (H:Hp) (a:ac) (xs:List V):Prop:=
 Rd H a (.tup xs) \/
  ∃(o:li) (its:Array al) (n:Nat),K.lookup a=some o/\o.cls=.type "tuple" /\ o.data=.seq its n/\its.size<=sizeLine/\Vals xs its.toList
def TF:al->Option V
 | .none=>some .au
 | .bool b=>some (.bl b)
 | .int i _=>some (.int i)
 | .str x _=>some (.str x)
 | .bytes b _=>some (.jU b)
 | .float b _=>some (.yW b)
 | .ref a=>some (.ref a)
 | .type n=>some (.ty n)
 |_=>none
theorem RelV.abs {x:V}{u:al}(r:RelV x u):TF u=some x :=by
 cases x with
 |au=>cases r;rfl
 |bl _=>cases r;rfl
 |int _=>obtain⟨t,rfl⟩:=r;rfl
 |str _=>obtain⟨t,rfl⟩:=r;rfl
 |jU _=>obtain⟨t,rfl⟩:=r;rfl
 |yW _=>obtain⟨t,rfl⟩:=r;rfl
 |ref _=>cases r;rfl
 |ty _=>cases r;rfl
theorem RelV.inj {x y:V}{u:al}(r:RelV x u) (q:RelV y u):x=y:=i8 (r.abs.symm.trans q.abs)
theorem Vals.inj:∀{xs ys:List V}{us:List al},Vals xs us->Vals ys us->xs=ys
 |_,_,_,.nil,.nil=>rfl
 |_,_,_,.cons r t,.cons r' t'=>by rw[r.inj r',Vals.inj t t']
section
variable {X:Cx}{pins:List (ac×li)}{σ:St}{H:Hp}{s:ba}{a:ac}{xs ys:List V}
theorem bo.of {K:bi}(h:H a=some (.lst xs)):bo K H a xs:=.inl (.inl h)
theorem cw.of {K:bi}(h:H a=some (.tup xs)):cw K H a xs:=.inl (.inl h)
theorem Inv.list (I:Inv X pins σ H s) (h:bo X.K H a xs):∃its:List al,Vals xs its/\PlainL s.heap a its.toArray/\xs.length<=sizeLine :=by
 rcases h with h|⟨o,its,n,hk,hc,hd,hs,hz,r⟩
 ·obtain⟨z,its,n,r,e⟩:=h.ok I.hok;exact⟨its,r,⟨_,n,e,rfl,rfl,rfl⟩,z⟩
 ·refine⟨its.toList,r,⟨o,n,I.fB a o hk,hc,hd,by simpa using hs⟩,?_⟩
  have e:=r.length;simp only[BN]at e;omega
theorem Inv.tuple (I:Inv X pins σ H s) (h:cw X.K H a xs):∃its:List al,Vals xs its/\IsTup s.heap a its.toArray/\xs.length<=sizeLine :=by
 rcases h with h|⟨o,its,n,hk,hc,hs,hz,r⟩
 ·obtain⟨z,its,r,p⟩:=h.ok I.hok;exact⟨its,r,jW.tup p,z⟩
 ·refine⟨its.toList,r,⟨o,I.fB a o hk,hc,n,by simpa using hs⟩,?_⟩
  have e:=r.length;simp only[BN]at e;omega
theorem Inv.qh (I:Inv X pins σ H s) (h:bo X.K H a xs) (h':bo X.K H a ys):xs=ys :=by
 obtain⟨its,r,⟨o,n,e,_,_,d⟩,_⟩:=I.list h;obtain⟨its',r',⟨o',n',e',_,_,d'⟩,_⟩:=I.list h';rw[e]at e';cases e';rw[d]at d';injection d' with d1 _
 have:its=its':=by simpa using congrArg Array.toList d1
 subst this;exact r.inj r'
theorem Inv.uh (I:Inv X pins σ H s) (h:cw X.K H a xs) (h':cw X.K H a ys):xs=ys :=by
 obtain⟨its,r,⟨o,e,_,n,d⟩,_⟩:=I.tuple h;obtain⟨its',r',⟨o',e',_,n',d'⟩,_⟩:=I.tuple h';rw[e]at e';cases e';rw[d]at d';injection d' with d1 _
 have:its=its':=by simpa using congrArg Array.toList d1
 subst this;exact r.inj r'
end
abbrev Cx.jh (X:Cx) (E:al->ba->Prop):Cx:={X with xe:=E}
abbrev Cx.ju (X:Cx):Cx:=X.jh fun _ _=>False
theorem Cx.Ok.jh {X:Cx}(ok:X.Ok) (E:al->ba->Prop):(X.jh E).Ok:=
 ⟨ok.mod,ok.kind,ok.glob,ok.blt,ok.above,ok.inj,ok.has,ok.cab,ok.hd,ok.frames,ok.stk,ok.exf,ok.bs,ok.bsz,ok.noex,ok.exfs,ok.funs,ok.frf⟩
theorem Cx.Ok.gm {X:Cx}{E:al->ba->Prop}(ok:(X.jh E).Ok):X.Ok:=
 ⟨ok.mod,ok.kind,ok.glob,ok.blt,ok.above,ok.inj,ok.has,ok.cab,ok.hd,ok.frames,ok.stk,ok.exf,ok.bs,ok.bsz,ok.noex,ok.exfs,ok.funs,ok.frf⟩
section
variable {X:Cx}{pins:List (ac×li)}{σ:St}{H:Hp}{s:ba}{E:al->ba->Prop}
theorem Inv.jh (I:Inv X pins σ H s) (E:al->ba->Prop):Inv (X.jh E) pins σ H s:=⟨I.ok.jh E,I.os,I.bare,I.base,I.loc,I.cell,I.free,I.freeC,I.pin,I.hok,I.len⟩
theorem Inv.gm (I:Inv (X.jh E) pins σ H s):Inv X pins σ H s:=⟨I.ok.gm,I.os,I.bare,I.base,I.loc,I.cell,I.free,I.freeC,I.pin,I.hok,I.len⟩
theorem SP.gm {D:Ends}{f:Flow}{s':ba}(h:SP (X.jh E) pins D f s'):SP X pins D f s':=by
 cases f with
 |next=>obtain⟨aF,H',I,q⟩:=h;exact⟨aF,H',I.gm,q⟩
 |brk=>obtain⟨aF,H',I,q⟩:=h;exact⟨aF,H',I.gm,q⟩
 |cont=>obtain⟨aF,H',I,q⟩:=h;exact⟨aF,H',I.gm,q⟩
 |ret u=>obtain⟨v,aF,H',I,r,q⟩:=h;exact⟨v,aF,H',I.gm,r,q⟩
theorem PE.ju {e:db}{t:TE}(h:PE X.ju e t):PE X e t:=⟨fun pins s σ H Q I hw=>
 mf (h pins s σ H Q (I.jh _) hw) (fun _ _ ⟨v,H',I',r,q⟩=>⟨v,H',I'.gm,r,q⟩) fun _ _ z=>GT z⟩
theorem f6.ju {st:List tw}{t:TS}(h:f6 X.ju st t):f6 X st t:=⟨fun pins s σ H D I hw=>
 mf (h pins s σ H D (I.jh _) hw) (fun _ _ q=>q.gm) fun _ _ z=>GT z⟩
end
section
variable {X:Cx}{st:tw}{rest:List tw}{t u:TS}{e:db}{te:TE}{pos:wE}
def Qz:TS:=fun D σ H=>D.nx σ H
def TH (t u:TS):TS:=fun D σ H=>t {D with nx:=u D} σ H
theorem Jj:f6 X [] Qz:=⟨fun _ _ σ H _ I h=>YL ⟨σ,H,I,h⟩⟩
theorem E7 (h1:PS X st t) (h2:f6 X rest u):f6 X (st::rest) (TH t u) :=by
 refine⟨?_⟩;intro pins s σ H D I h;refine wpAny_execs_cons (thn (h1 pins s σ H {D with nx:=u D} I h) fun f s1 q=>?_)
 cases f with
 |next=>
  obtain⟨aF,H',I',q⟩:=q;exact h2 pins s1 aF H' D I' q
 |ret v=>exact q
 |brk=>exact q
 |cont=>exact q
theorem Jk (h1:PS X st t):f6 X [st] t :=by
 refine⟨?_⟩;intro pins s σ H D I h;refine wpAny_execs_cons (thn (h1 pins s σ H D I h) fun f s1 q=>?_)
 cases f with
 |next=>exact YL q
 |ret v=>exact q
 |brk=>exact q
 |cont=>exact q
theorem Inv.quiet {pins:List (ac×li)}{σ:St}{H:Hp}{s:ba}(I:Inv X pins σ H s):interactive X.env=false :=by simp[interactive,I.ok.kind]
def QB (te:TE):TS:=fun D σ H=>te σ H fun _ H1=>D.nx σ H1
theorem Jl (he:PE X e te) (hs:swapsWith e none pos.line X.env=pure false :=by rfl):PS X (.Expr e pos) (QB te) :=by
 refine⟨?_⟩;intro pins s σ H D I h;exact wpAny_Expr_any (thn (he pins s σ H _ I h) fun v s1 ⟨x,H1,I1,r1,q1⟩=>⟨σ,H1,I1,q1⟩) I.quiet hs
def TJ (te:TE):TS:=fun D σ H=>te σ H D.rt
theorem LR (he:PE X e te):PS X (.Return (some e) pos) (TJ te) :=by
 refine⟨?_⟩;intro pins s σ H D I h;exact wpAny_Return_some (thn (he pins s σ H _ I h) fun v s1 ⟨x,H1,I1,r1,q1⟩=>⟨x,σ,H1,I1,r1,q1⟩)
def TK (c:TT) (t u:TS):TS:=fun D σ H=>c σ H fun b H1=>if b=true then t D σ H1 else u D σ H1
theorem QC {c:db}{a b:List tw}{tc:TT}(hc:PT X c tc) (ha:f6 X a t) (hb:f6 X b u):PS X (.If c a b pos) (TK tc t u) :=by
 refine⟨?_⟩;intro pins s σ H D I h;refine wpAny_If (thn (hc pins s σ H _ I h) fun d s1 ⟨H1,I1,q1⟩=>?_)
 cases d with
 |true=>exact ha pins s1 σ H1 D I1 q1
 |false=>exact hb pins s1 σ H1 D I1 q1
end
abbrev TG:=V->St->Hp->(St->Hp->Prop)->Prop
abbrev rn:=List V->St->Hp->(St->Hp->Prop)->Prop
def PG (X:Cx) (target:db) (t:TG):Prop:=
 ∀(pins:List (ac×li)) (s:ba) (σ:St) (H:Hp) (v:V) (u:al) (Q:St->Hp->Prop),Inv X pins σ H s->RelV v u->t v σ H Q->
  wpAny (model X.prog X.w) X.A (assign target X.env u) (fun _ s'=>∃aF H',Inv X pins aF H' s'/\Q aF H') X.xe s
def ui (X:Cx) (ts:List db) (t:rn):Prop:=
 ∀(pins:List (ac×li)) (s:ba) (σ:St) (H:Hp) (vs:List V) (us:List al) (Q:St->Hp->Prop),Inv X pins σ H s->Vals vs us->t vs σ H Q->
  wpAny (model X.prog X.w) X.A (assignInOrder ((assignEach ts X.env).map (·.2)) us) (fun _ s'=>∃aF H',Inv X pins aF H' s'/\Q aF H') X.xe s
abbrev E8:=V->V->V->Hp->(Hp->Prop)->Prop
def LU (X:Cx) (t:E8):Prop:=
 ∀(pins:List (ac×li)) (s:ba) (σ:St) (H:Hp) (o i v:V) (ov iv u:al) (Q:Hp->Prop),Inv X pins σ H s->RelV o ov->RelV i iv->RelV v u->t o i v H Q->
  wpAny (model X.prog X.w) X.A (setItem ov iv u) (fun _ s'=>∃H',Inv X pins σ H' s'/\Q H') X.xe s
section
variable {X:Cx}{pos:wE}
def rq (i:Nat):TG:=fun v σ H Q=>Q (σ.set i (some v)) H
theorem Jm {i:Nat}{x:bn}(hN:X.N.Nodup) (hi:X.N[i]?=some x) (hx:Loc X.env.scope x) (hf:X.fn x=true\/X.env.scope.names.lookup x=some .local :=by first|exact .inl rfl|exact .inr rfl|assumption):PG X (.Name x pos) (rq i) :=by
 intro pins s σ H v u Q I r h;exact Zt (mJ I hN hi hx r (fun s' I'=>⟨_,H,I',h⟩) hf)
def TL:rn:=fun vs σ H Q=>vs=[]/\Q σ H
def QD (t:TG) (u:rn):rn:=fun vs σ H Q=>∃v r,vs=v::r/\t v σ H fun aF H'=>u r aF H' Q
theorem Jn:ui X [] TL :=by
 intro pins s σ H vs us Q I r h;obtain⟨e,h⟩:=h;subst e;cases r;exact assignInOrder_nil ⟨σ,H,I,h⟩
theorem E9 {e:db}{es:List db}{t:TG}{u:rn}(h1:PG X e t) (h2:ui X es u)
  (hs:(assignEach (e::es) X.env).map (·.2)=assign e X.env::(assignEach es X.env).map (·.2) :=by rfl):ui X (e::es) (QD t u) :=by
 intro pins s σ H vs us Q I r h;obtain⟨v,vr,e1,h⟩:=h;subst e1;cases r with
 |cons r rr=>
  rw[hs];refine Zc (thn (h1 pins s σ H _ _ _ I r h) fun _ s1 ⟨pR,H1,I1,q1⟩=>?_)
  exact h2 pins s1 pR H1 _ _ Q I1 rr q1
def TN (K:bi) (n:Nat) (t:rn):TG:=fun v σ H Q=>∃a xs,v=.ref a/\cw K H a xs/\xs.length=n/\t xs σ H Q
theorem LV {es:List db}{k:Nat}{t:rn}{n:Nat}(hc:X.calm=true) (h:ui X es t)
  (hn:(assignEach es X.env).length=n :=by rfl) (jv:(assignEach es X.env).findIdx? (·.1)=none :=by rfl):PG X (.Tuple es k pos) (TN X.K n t) :=by
 intro pins s σ H v u Q I r hw;obtain⟨a,xs,e1,hq,hl,hw⟩:=hw;subst e1;cases r;obtain⟨its,rv,ht,hz⟩:=I.tuple hq;refine assign_Tuple_tuple (I.ok.hd hc) ht (by simp[hn,<- hl,rv.length]) jv fun h' hx=>?_
 have I1:Inv X pins σ H {s with heap:=h'}:=I.kept (t':=s.toks) fun b o e=>hx b o (l7 (ij e)) e
 exact h pins _ σ H xs _ Q I1 (by simpa using rv) hw
def TQ (to ti:TE) (t:E8):TG:=fun v σ H Q=>to σ H fun o H1=>ti σ H1 fun i H2=>t o i v H2 fun H3=>Q σ H3
theorem LW {o i:db}{to ti:TE}{t:E8}(ho:PE X o to) (hi:PE X i ti) (hs:LU X t)
  (ha:∀v,assign (.Subscript o i pos) X.env v=(do
   let ov <- holding [v] (eval o X.env)
   let iv <- holding [v,ov] (eval i X.env)
   standAt pos
   holding [v,ov,iv] (setItem ov iv v)
   release [v,ov,iv] []) :=by intro _;rfl):PG X (.Subscript o i pos) (TQ to ti t) :=by
 intro pins s σ H v u Q I r h;rw[ha];refine ag (GE (thn (ho pins s σ H _ I h) fun ov s1 ⟨x,H1,I1,r1,q1⟩=>?_))
 refine ag (GE (thn (hi pins s1 σ H1 _ I1 q1) fun iv s2 ⟨y,H2,I2,r2,q2⟩=>?_))
 refine ag (Db (ag (GE (thn (hs pins s2 σ H2 x y v ov iv u _ I2 r1 r2 r q2) fun _ s3 ⟨H3,I3,q3⟩=>?_))))
 exact wpAny_release ⟨σ,H3,I3,q3⟩
def sX (te:TE) (g:TG):TS:=fun D σ H=>te σ H fun x H1=>g x σ H1 D.nx
theorem LX {tg e:db}{te:TE}{g:TG}(he:PE X e te) (hg:PG X tg g) (hs:swapsWithSole [tg] e pos.line X.env=pure false :=by rfl) (hw:swappedStores [tg] e X.env=pure none :=by rfl)
  (h1:(assignEach [tg] X.env).map (·.2)=[assign tg X.env] :=by rfl):PS X (.Assign [tg] e pos) (sX te g) :=by
 refine⟨?_⟩;intro pins s σ H D I h;refine wpAny_Assign_stores (thn (he pins s σ H _ I h) fun v s1 ⟨x,H1,I1,r1,q1⟩=>?_) hs hw
 rw[h1];exact thn (hg pins s1 σ H1 x v _ I1 r1 q1) fun _ s2 q=>q
theorem LY {i:Nat}{x:bn}{e:db}{te:TE}{pos':wE}(hN:X.N.Nodup) (hi:X.N[i]?=some x) (hx:Loc X.env.scope x) (he:PE X e te) (hs:swapsWith e (some (.Name x pos')) pos.line X.env=pure false :=by rfl) (hf:X.fn x=true\/X.env.scope.names.lookup x=some .local :=by first|exact .inl rfl|exact .inr rfl|assumption) :
  PS X (.Assign [.Name x pos'] e pos) (sX te (rq i)) :=by
 refine⟨?_⟩;intro pins s σ H D I h;refine wpAny_Assign_Name (thn (he pins s σ H _ I h) fun v s1 ⟨y,H1,I1,r1,q1⟩=>?_) hs
 exact mJ I1 hN hi hx r1 (fun s2 I2=>⟨_,H1,I2,q1⟩) hf
def TR (i j:Nat) (ta:TA):TS:=fun D σ H=>ta σ H fun vs H1=>∃v w,vs=[v,w]/\D.nx ((σ.set i (some v)).set j (some w)) H1
theorem LZ {i j:Nat}{x y:bn}{a b:db}{ta:TA}{px py pt:wE}{kt k2 vW}(hc:X.calm=true) (hN:X.N.Nodup) (hi:X.N[i]?=some x) (hj:X.N[j]?=some y) (yY:i≠j)
  (hx:X.env.scope.names.lookup x=some .local) (hy:X.env.scope.names.lookup y=some .local) (ha:PA X [a,b] ta)
  (hw:swappedStores [.Tuple [.Name x px,.Name y py] kt pt] (.Tuple [a,b] k2 vW) X.env=pure (some [x,y]))
  (hs:swapsWithSole [.Tuple [.Name x px,.Name y py] kt pt] (.Tuple [a,b] k2 vW) pos.line X.env=pure false :=by rfl) :
  PS X (.Assign [.Tuple [.Name x px,.Name y py] kt pt] (.Tuple [a,b] k2 vW) pos) (TR i j ta) :=by
 refine⟨?_⟩;intro pins s σ H D I h;rw[exec_Assign_arm];refine ag (Db ?_);rw[hs];refine ag (ce ?_);rw[if_neg (by decide)]
 refine ag (Tuple_ (thn (ha _ pins s σ H _ I h) fun us s1 ⟨vs,H1,I1,r1,q1⟩=>?_))
 obtain⟨v,w,e1,q1⟩:=q1;subst e1;obtain⟨u1,u2,rfl,rv,jY⟩:∃u1 u2,us=[u1,u2]/\RelV v u1/\RelV w u2 :=by
  cases r1 with
  |cons p q=>
   cases q with
   |cons p' q'=>
    cases q';exact⟨_,_,rfl,p,p'⟩
 refine zw ?_ (by show 2<=sizeLine;decide)
 have I2:Inv X pins σ H1 {s1 with heap:=s1.heap.push {cls:=.type "tuple",data:=.seq [u1,u2].toArray}}:=I1.kept (t':=s1.toks) fun b o e=>cb _ e
 rw[hw];refine ag (ce ?_);show wpAny (model X.prog X.w) X.A (do rule "assign.swapped-stores";let items <- unpackItems (.ref s1.heap.objs.size) 2 none;assignInOrder [fun v=>bindName X.env y v,fun v=>bindName X.env x v] items.reverse;pure Flow.next) _ _ _
 refine ag (LM (ag (unpackItems_tuple (items:=#[u1,u2]) (I.ok.hd hc) (IsTup.new s1.heap _) fun h' lY=>?_)))
 have I3:=I2.kept (h':=h') (t':=s1.toks) fun b o e=>lY b o (l7 (ij e)) e
 show wpAny _ _ (assignInOrder [fun v=>bindName X.env y v,fun v=>bindName X.env x v] [u2,u1]>>=fun _=>pure Flow.next) _ _ _
 refine ag (Zc (wpAny_bindName (mJ I3 hN hj (.inl hy) jY (fun s2 I4=>?_) (.inr hy))))
 refine Zc (wpAny_bindName (mJ I4 hN hi (.inl hx) rv (fun s3 I5=>assignInOrder_nil (ce ?_)) (.inr hx)))
 rw[List.set_comm _ _ (AN yY)]at I5;exact⟨_,H1,I5,q1⟩
def B2 (c:TT) (tb:TS):TS:=fun D σ H=>∃W:Nat->St->Hp->Prop,(∃m,W m σ H)/\∀m σ H,W m σ H->
 c σ H fun b H1=>if b=true then ∃N:St->Hp->Prop,(∀aF H',N aF H'->∃m',m'<m/\W m' aF H')/\tb {D with nx:=N,ct:=N,bk:=D.nx} σ H1 else D.nx σ H1
theorem Fb {c:db}{body:List tw}{tc:TT}{tb:TS}(hp:ZS (model X.prog X.w) X.A X.env X.xe) (hc:PT X c tc) (hb:f6 X body tb):PS X (.While c body [] pos) (B2 tc tb) :=by
 refine⟨?_⟩;intro pins s σ H D I h;obtain⟨W,⟨m0,w0⟩,turn⟩:=h;refine wpAny_While (codeAny_whileLoop (fun n s'=>∃aF H',Inv X pins aF H' s'/\W n aF H') ?_ m0 ⟨σ,H,I,w0⟩)
 rintro n s1 ⟨pR,H1,I1,w1⟩;refine Pf hp (thn (hc pins s1 pR H1 _ I1 (turn n pR H1 w1)) fun b s2 ⟨H2,I2,q2⟩=>?_)
 cases b with
 |true=>
  obtain⟨N,hN,q2⟩:=q2;rw[if_pos rfl];refine Pf hp (thn (hb pins s2 pR H2 _ I2 q2) fun f s3 q3=>?_)
  cases f with
  |next=>
   obtain⟨nq,H3,I3,n3⟩:=q3;obtain⟨m',hm,w3⟩:=hN nq H3 n3;exact⟨m',hm,nq,H3,I3,w3⟩
  |cont=>
   obtain⟨nq,H3,I3,n3⟩:=q3;obtain⟨m',hm,w3⟩:=hN nq H3 n3;exact⟨m',hm,nq,H3,I3,w3⟩
  |brk=>exact q3
  |ret v=>exact q3
 |false=>
  rw[if_neg im];exact YL ⟨pR,H2,I2,q2⟩
end
structure It where
 go:Nat->Hp->Prop
 yld:Nat->Hp->V->Hp->Prop
 stop:Nat->Hp->Prop
def cH (X:Cx) (pins:List (ac×li)) (H:Hp) (b:ac):Prop:=
 H b=none/\b≠X.env.locals/\b ∉ X.fs/\(b∈X.ex\/X.s₀.heap.objs.size<=b)/\(∀x c,X.env.cells.lookup x=some c->c≠b)/\∀p∈X.pn++pins,p.1≠b
theorem Inv.ji {X:Cx}{pins:List (ac×li)}{σ:St}{H H':Hp}{s:ba}{b:ac}(I:Inv X pins σ H s) (hb:s.heap.objs.size<=b) (hn:H' b=none):cH X pins H' b :=by
 refine⟨hn,No (l9 I.lt hb),I.Lw hb,.inr (wr I.sz hb),fun x c e z=>?_,fun p hp z=>?_⟩
 ·obtain⟨v,q⟩:=I.cell x c e;exact absurd (l9 q.lt (by rw[z];exact hb)) (ET _)
 ·exact absurd (l9 (ij (I.pin p hp).1) (by rw[z];exact hb)) (ET _)
structure Turn (P:gc) (w:i4) (K:bi) (tg:db) (J:It) (fp:List ac) (it:ac) (tn:Nat->hX->Prop):Prop where
 mem:it∈fp
 obj:∀i h,tn i h->∀b∈fp,∃o,h.get? b=some o/\∀v,o.data≠.cell v
 keep:∀i h h',tn i h->(∀b∈fp,∀o,h.get? b=some o->h'.get? b=some o)->tn i h'
 item:∀(X:Cx),X.prog=P->X.w=w->X.K=K->X.calm=true->∀(i:Nat) (pins:List (ac×li)) (s:ba) (σ:St) (H:Hp) (E:al->ba->Prop),Inv X pins σ H s->(∀b∈fp,cH X pins H b)->tn i s.heap->J.go i H->
  wpAny (model P w) X.A (pyNext (.ref it)) (fun r s1=>∃u,r=some u /\
   wpAny (model P w) X.A (letOwnedTupleGo tg (.ref it) u) (fun _ s2=>∃x H',Inv X pins σ H' s2/\RelV x u/\J.yld i H x H'/\tn (i+1) s2.heap/\∀b∈fp,H' b=none) E s1) E s
 done:∀(X:Cx),X.prog=P->X.w=w->X.K=K->X.calm=true->∀(i:Nat) (pins:List (ac×li)) (s:ba) (σ:St) (H:Hp) (E:al->ba->Prop),Inv X pins σ H s->(∀b∈fp,cH X pins H b)->tn i s.heap->J.stop i H->
  wpAny (model P w) X.A (pyNext (.ref it)) (fun r s1=>r=none/\Inv X pins σ H s1) E s
 self:∀(A:rb) (i:Nat) (s:ba) (Q:al->ba->Prop) (E:al->ba->Prop),tn i s.heap->Q (.ref it) s->wpAny (model P w) A (pyIter (.ref it)) Q E s
abbrev TI:=St->Hp->(It->Hp->Prop)->Prop
def R9 (X:Cx) (pins:List (ac×li)) (σ:St) (tg:db) (R:It->Hp->Prop) (vX:al) (s2:ba):Prop:=
 ∃(it:ac) (fp:List ac) (tn:Nat->hX->Prop) (J:It) (H':Hp),vX=.ref it/\Inv X pins σ H' s2/\Turn X.prog X.w X.K tg J fp it tn/\tn 0 s2.heap/\(∀b∈fp,cH X pins H' b)/\R J H'
def PI (X:Cx) (tg iter:db) (wi:TI):Prop:=
 ∀(pins:List (ac×li)) (s:ba) (σ:St) (H:Hp) (R:It->Hp->Prop),Inv X pins σ H s->wi σ H R->
  wpAny (model X.prog X.w) X.A (eval iter X.env) (fun v s1=>wpAny (model X.prog X.w) X.A (pyIter v) (R9 X pins σ tg R) X.xe s1) X.xe s
theorem rA {M:Z9}{A:rb}{E:al->ba->Prop}{s:ba}{tg:db}{it:ac}{u:al}{o:li}{n:String}{vs:Array al}{Q:Unit->ba->Prop}(ho:s.heap.get? it=some o) (hc:o.cls=.type n) (hd:o.data=.fields vs)
  (hn:["enumerate","zip","dict_itemiterator","dict_reverseitemiterator","odict_iterator","itertools.zip_longest","itertools.pairwise"].contains n=false) (hQ:Q () s):wpAny M A (letOwnedTupleGo tg (.ref it) u) Q E s :=by
 unfold letOwnedTupleGo;cases tg<;>first
  |exact ce hQ
  |(cases u<;>first
    |exact ce hQ
    |(refine ag (wpAny_load ho ?_)
      rw[hc,hd];show wpAny M A (if (["enumerate","zip","dict_itemiterator","dict_reverseitemiterator","odict_iterator","itertools.zip_longest","itertools.pairwise"].contains n && vs[0]?==some (rawInt _))=true then _ else _) Q E s
      rw[if_neg (by intro h;rw[hn,WF]at h;cases h)]
      exact ce hQ))
def L6 (K:bi) (a:ac):It:=
 ⟨fun i H=>∃xs x,bo K H a xs/\xs[i]?=some x,fun i H x H'=>H'=H/\∀xs,bo K H a xs->xs[i]?=some x,fun i H=>∃xs,bo K H a xs/\xs.length<=i⟩
def L7 (K:bi) (a:ac):It:=
 ⟨fun i H=>∃xs x,cw K H a xs/\xs[i]?=some x,fun i H x H'=>H'=H/\∀xs,cw K H a xs->xs[i]?=some x,fun i H=>∃xs,cw K H a xs/\xs.length<=i⟩
def Hq (lo:Int) (n:Nat):It:=⟨fun i _=>i<n,fun i H x H'=>H'=H/\x=.int (lo+i),fun i _=>n<=i⟩
theorem B3 {P:gc}{w:i4}{K:bi}{tg:db}(a it:ac):Turn P w K tg (L6 K a) [it] it (fun i h=>h.IsListIter it a i) where
 mem :=by simp
 obj:=fun i h st b hb=>by
  have e:b=it :=by simpa using hb
  subst e;obtain⟨o,e,c,d⟩:=st;exact⟨o,e,fun v z=>by rw[d]at z;cases z⟩
 keep:=fun i h h' st k=>st.at fun o e=>k it (by simp) o e
 item :=by
  intro X hP hw hK hc i pins s σ H E I hf st hg;subst hP hw hK;obtain⟨xs,x,hq,hx⟩:=hg;obtain⟨its,rv,p,hz⟩:=I.list hq;obtain⟨u,hu,ru⟩:=rv.get hx;obtain⟨f0,f1,f2,f3,f4,f5⟩:=hf it (by simp)
  refine wpAny_pyNext_list_item st p.isList (x:=u) (by simpa using hu) fun h' kW sb=>?_
  have I1:Inv X pins σ H {s with heap:=h'}:=I.turned (t':=s.toks) (fun b o hb e=>(sb.2 b hb).trans e) f0 f1 f3 f4 f5
  obtain⟨o,e,c,d⟩:=id kW;exact⟨u,rfl,rA (s:={s with heap:=h'}) e c d (by decide) ⟨x,H,I1,ru,⟨rfl,fun ys hy=>by rw[I.qh hy hq];exact hx⟩,kW,fun b hb=>(hf b hb).1⟩⟩
 done :=by
  intro X hP hw hK hc i pins s σ H E I hf st hg;subst hP hw hK;obtain⟨xs,hq,hx⟩:=hg;obtain⟨its,rv,p,hz⟩:=I.list hq;obtain⟨f0,f1,f2,f3,f4,f5⟩:=hf it (by simp)
  have hl:=rv.length;exact wpAny_pyNext_list_end (I.ok.hd hc) st p.isList (by simp;omega) fun h' eb=>⟨rfl,I.turned (t':=s.toks) (fun b o hb e=>eb b o hb e) f0 f1 f3 f4 f5⟩
 self:=fun _ _ _ _ _ st h=>wpAny_pyIter_listiter st h
theorem Al {P:gc}{w:i4}{K:bi}{tg:db}(a it:ac):Turn P w K tg (L7 K a) [it] it (fun i h=>h.IsTupleIter it a i) where
 mem :=by simp
 obj:=fun i h st b hb=>by
  have e:b=it :=by simpa using hb
  subst e;obtain⟨o,e,c,d⟩:=st;exact⟨o,e,fun v z=>by rw[d]at z;cases z⟩
 keep:=fun i h h' st k=>st.at fun o e=>k it (by simp) o e
 item :=by
  intro X hP hw hK hc i pins s σ H E I hf st hg;subst hP hw hK;obtain⟨xs,x,hq,hx⟩:=hg;obtain⟨its,rv,p,hz⟩:=I.tuple hq;obtain⟨u,hu,ru⟩:=rv.get hx;obtain⟨f0,f1,f2,f3,f4,f5⟩:=hf it (by simp)
  refine wpAny_pyNext_tuple_item st (show s.heap.IsTuple a its.toArray from p) (x:=u) (by simpa using hu) fun h' kW sb=>?_
  have I1:Inv X pins σ H {s with heap:=h'}:=I.turned (t':=s.toks) (fun b o hb e=>(sb.2 b hb).trans e) f0 f1 f3 f4 f5
  obtain⟨o,e,c,d⟩:=id kW;exact⟨u,rfl,rA (s:={s with heap:=h'}) e c d (by decide) ⟨x,H,I1,ru,⟨rfl,fun ys hy=>by rw[I.uh hy hq];exact hx⟩,kW,fun b hb=>(hf b hb).1⟩⟩
 done :=by
  intro X hP hw hK hc i pins s σ H E I hf st hg;subst hP hw hK;obtain⟨xs,hq,hx⟩:=hg;obtain⟨its,rv,p,hz⟩:=I.tuple hq;obtain⟨f0,f1,f2,f3,f4,f5⟩:=hf it (by simp)
  have hl:=rv.length;exact wpAny_pyNext_tuple_end (I.ok.hd hc) st (show s.heap.IsTuple a its.toArray from p) (by simp;omega) fun h' eb=>⟨rfl,I.turned (t':=s.toks) (fun b o hb e=>eb b o hb e) f0 f1 f3 f4 f5⟩
 self:=fun _ _ _ _ _ st h=>wpAny_pyIter_tupleiter st h
theorem Am {P:gc}{w:i4}{K:bi}{tg:db}(it:ac) (lo:Int) (n:Nat):Turn P w K tg (Hq lo n) [it] it (fun i h=>IsRangeIter h it (lo+(i:Nat) * 1) ((n:Int) - (i:Nat)) 1) where
 mem :=by simp
 obj:=fun i h st b hb=>by
  have e:b=it :=by simpa using hb
  subst e;exact⟨_,st,fun v z=>by
   have z':Data.fields _=Data.cell v:=z;cases z'⟩
 keep:=fun i h h' st k=>k it (by simp) _ st
 item :=by
  intro X hP hw hK hc i pins s σ H E I hf st hg;subst hP hw hK;obtain⟨f0,f1,f2,f3,f4,f5⟩:=hf it (by simp)
  have W:=Walks.range (prog:=X.prog) (w:=X.w) (I.ok.hd hc) it lo 1 n;refine W.item i s _ _ hg st fun v h' tk hv kW kk=>?_
  obtain⟨t,rfl⟩:=hv;have I1:Inv X pins σ H {s with heap:=h',toks:=tk}:=I.turned (fun b o hb e=>kk b o (by simpa using hb) e) f0 f1 f3 f4 f5
  refine⟨_,rfl,rA (s:={s with heap:=h',toks:=tk}) (n := "range_iterator") kW rfl rfl (by decide) ⟨.int (lo+i),H,I1,⟨t,?_⟩,⟨rfl,rfl⟩,kW,fun b hb=>(hf b hb).1⟩⟩
  rw[Int.mul_one]
 done :=by
  intro X hP hw hK hc i pins s σ H E I hf st hg;subst hP hw hK;obtain⟨f0,f1,f2,f3,f4,f5⟩:=hf it (by simp)
  exact wpAny_pyNext_range_end (I.ok.hd hc) st (by have:n<=i:=hg;omega) fun h' eb=>⟨rfl,I.turned (t':=s.toks) (fun b o hb e=>eb b o hb e) f0 f1 f3 f4 f5⟩
 self:=fun _ _ _ _ _ st h=>wpAny_pyIter_rangeiter st h
section
variable {X:Cx}{tg:db}
def Hr (K:bi) (tl:TE):TI:=fun σ H R=>tl σ H fun x H1=>∃a,x=.ref a/\(∃xs,bo K H1 a xs)/\R (L6 K a) H1
def L8 (K:bi) (tl:TE):TI:=fun σ H R=>tl σ H fun x H1=>∃a,x=.ref a/\(∃xs,cw K H1 a xs)/\R (L7 K a) H1
theorem Jo {l:db}{tl:TE}(hl:PE X l tl):PI X tg l (Hr X.K tl) :=by
 intro pins s σ H R I h;refine thn (hl pins s σ H _ I h) fun v s1 ⟨x,H1,I1,r1,q1⟩=>?_
 obtain⟨a,e,⟨xs,hq⟩,q⟩:=q1;subst e;cases r1;obtain⟨its,rv,p,hz⟩:=I1.list hq;refine Zu p.isList ?_;refine⟨s1.heap.objs.size,[s1.heap.objs.size],_,_,H1,rfl,I1.kept (t':=s1.toks) fun b o e=>cb _ e,B3 a _,⟨_,ff _ rfl,rfl,rfl⟩,fun b hb=>?_,q⟩
 have e:b=s1.heap.objs.size :=by simpa using hb
 subst e;exact I1.ji (c8 _) (I1.hok.fresh (c8 _))
theorem L9 {l:db}{tl:TE}(hl:PE X l tl):PI X tg l (L8 X.K tl) :=by
 intro pins s σ H R I h;refine thn (hl pins s σ H _ I h) fun v s1 ⟨x,H1,I1,r1,q1⟩=>?_
 obtain⟨a,e,⟨xs,hq⟩,q⟩:=q1;subst e;cases r1;obtain⟨its,rv,p,hz⟩:=I1.tuple hq;refine X8 (show s1.heap.IsTuple a its.toArray from p) ?_;refine⟨s1.heap.objs.size,[s1.heap.objs.size],_,_,H1,rfl,I1.kept (t':=s1.toks) fun b o e=>cb _ e,Al a _,⟨_,ff _ rfl,rfl,rfl⟩,fun b hb=>?_,q⟩
 have e:b=s1.heap.objs.size :=by simpa using hb
 subst e;exact I1.ji (c8 _) (I1.hok.fresh (c8 _))
theorem Fc {pins:List (ac×li)}{σ:St}{H:Hp}{s:ba}{R:It->Hp->Prop}{E:al->ba->Prop}{lo hi:Int}{t u v:YJ}{tk:Nat}(I:Inv X pins σ H s) (h1 : -(2 ^ 62)<=lo) (h2:lo<2 ^ 62) (h3 : -(2 ^ 62)<=hi) (h4:hi<2 ^ 62)
  (q:R (Hq lo (hi - lo).toNat) H):wpAny (model X.prog X.w) X.A (pyIter (.ref s.heap.objs.size)) (R9 X pins σ tg R) E {s with heap:=s.heap.push {cls:=.type "range",data:=.fields #[.int lo t,.int hi u,.int 1 v]},toks:=tk}:=by
 refine wpAny_pyIter_range (IsRange.new ..) (small_one h1 h2 h3 h4) ?_;have I1:Inv X pins σ H {s with heap:=s.heap.push {cls:=.type "range",data:=.fields #[.int lo t,.int hi u,.int 1 v]},toks:=tk}:=I.kept fun b o e=>cb _ e
 refine⟨(s.heap.push {cls:=.type "range",data:=.fields #[.int lo t,.int hi u,.int 1 v]}).objs.size,[(s.heap.push {cls:=.type "range",data:=.fields #[.int lo t,.int hi u,.int 1 v]}).objs.size],_,_,H,rfl,
  I1.kept (t':=tk) fun b o e=>cb _ e,Am _ lo (hi - lo).toNat,?_,fun b hb=>?_,q⟩
 ·have e1:lo+((0:Nat):Int) * 1=lo :=by simp
  have e2:(((hi - lo).toNat:Nat):Int) - ((0:Nat):Int)=tz.Range.rangeSize lo hi 1 :=by rw[rangeSize_one];split<;>omega
  show IsRangeIter _ _ (lo+((0:Nat):Int) * 1) ((((hi - lo).toNat:Nat):Int) - ((0:Nat):Int)) 1;rw[e1,e2];exact ff _ rfl
 ·have e:b=(s.heap.push {cls:=.type "range",data:=.fields #[.int lo t,.int hi u,.int 1 v]}).objs.size :=by simpa using hb
  subst e;exact I1.ji (c8 _) (I1.hok.fresh (c8 _))
def Hs (ta:TA):TI:=fun σ H R=>ta σ H fun vs H1=>∃j:Int,vs=[.int j] /\ -(2 ^ 62)<=j/\j<2 ^ 62/\R (Hq 0 j.toNat) H1
theorem B4 {a:db}{ta:TA}{p pos:wE}(hg:Gl X "range") (hm:X.mg "range" = none) (ha:PA X [a] ta) (hs:starEach [a] X.env=[(false,eval a X.env)] :=by rfl):PI X tg (.Call (.Name "range" p) [a] [] pos) (Hs ta) :=by
 intro pins s σ H R I h;refine Call_ (fD I hg hm boot_range (Da (thn (ha pos pins s σ H _ I h) fun us s1 ⟨vs,H1,I1,r1,q1⟩=>?_) hs rfl))
 obtain⟨j,e,q1,q2,q⟩:=q1;subst e;cases r1 with
 |cons r rr=>
  cases rr;obtain⟨t,rfl⟩:=r;exact call_range_1 (Fc I1 (by omega) (by omega) q1 q2 (by simpa using q))
def Ma (wi:TI) (g:TG) (tb:TS):TS:=fun D σ H=>wi σ H fun J H1=>∃W:Nat->Nat->St->Hp->Prop,(∃m,W 0 m σ H1)/\∀i m σ H,W i m σ H->
 (J.stop i H/\D.nx σ H)\/(J.go i H/\∃N:St->Hp->Prop,(∀aF H',N aF H'->∃m',m'<m/\W (i+1) m' aF H')/\∀x H',J.yld i H x H'->g x σ H' fun i6 H2=>tb {D with nx:=N,ct:=N,bk:=D.nx} i6 H2)
def fE (fp:List ac) (h:hX):List (ac×li):=fp.filterMap fun b=>(h.get? b).map fun o=>(b,o)
theorem cU {fp:List ac}{h:hX}{b:ac}{o:li}(hb:b∈fp) (e:h.get? b=some o):(b,o)∈fE fp h:=Zd.mpr ⟨b,hb,by rw[e];rfl⟩
theorem uj {fp:List ac}{h:hX}{p:ac×li}(hp:p∈fE fp h):p.1∈fp/\h.get? p.1=some p.2 :=by
 obtain⟨b,hb,e⟩:=Zd.mp hp;cases q:h.get? b with
 |none=>rw[q]at e;cases e
 |some o=>
  rw[q]at e;have e':(b,o)=p:=i8 e;subst e';exact⟨hb,q⟩
theorem Inv.pinned {pins:List (ac×li)}{σ:St}{H:Hp}{s:ba}{fp:List ac}(I:Inv X pins σ H s) (hf:∀b∈fp,cH X pins H b) (ho:∀b∈fp,∃o,s.heap.get? b=some o/\∀v,o.data≠.cell v):Inv X (pins++fE fp s.heap) σ H s:=
 I.jJ fun p hp=>(wv.mp hp).elim (fun z=>I.pin p (f8 _ z)) fun z=>by
  obtain⟨hb,e⟩:=uj z;obtain⟨f0,f1,f2,_⟩:=hf p.1 hb;obtain⟨o,e',d⟩:=ho p.1 hb;rw[e]at e';cases e';exact⟨e,f0,f1,f2,d⟩
theorem Inv.dH {pins pl:List (ac×li)}{σ:St}{H:Hp}{s:ba}(I:Inv X (pins++pl) σ H s):Inv X pins σ H s:=I.jJ fun p hp=>I.pin p (f8 _ (u7 _ hp))
theorem Mb {iter:db}{body:List tw}{wi:TI}{g:TG}{tb:TS}{pos:wE}(hp:ZS (model X.prog X.w) X.A X.env X.xe) (hc:X.calm=true) (hi:PI X tg iter wi) (hg:PG X tg g) (hb:f6 X body tb)
  (hs:∀x,foldedSetIterable iter X.env x=pure x :=by intro _;rfl):PS X (.For tg iter body [] pos) (Ma wi g tb) :=by
 refine⟨?_⟩;intro pins s σ H D I h;refine wpAny_For (thn (hi pins s σ H _ I h) fun v s1 h1=>thn h1 fun vX s2 h2=>?_) hs
 obtain⟨it,fp,tn,J,H2,e,I2,T,nG,f2,W,⟨m0,w0⟩,turn⟩:=h2;subst e;have stat:∀{H':Hp},(∀b∈fp,H' b=none)->∀b∈fp,cH X pins H' b:=fun hn b hb=>⟨hn b hb,(f2 b hb).2⟩
 refine codeAny_forLoop_any (fun n s'=>∃i aF H',Inv X pins aF H' s'/\tn i s'.heap/\(∀b∈fp,H' b=none)/\W i n aF H') ?_ m0 ⟨0,σ,H2,I2,nG,fun b hb=>(f2 b hb).1,w0⟩
 rintro n s3 ⟨i,nq,H3,I3,uk,B5,w3⟩;rcases turn i n nq H3 w3 with ⟨stop,qn⟩|⟨go,N,hN,step⟩
 ·refine Pf hp (thn (T.done X rfl rfl rfl hc i pins s3 nq H3 X.xe I3 (stat B5) uk stop) fun r s4 ⟨hr,I4⟩=>?_)
  subst hr;exact YL ⟨nq,H3,I4,qn⟩
 ·refine Pf hp (thn (T.item X rfl rfl rfl hc i pins s3 nq H3 X.xe I3 (stat B5) uk go) fun r s4 ⟨u,hr,h4⟩=>?_)
  subst hr;refine Pf hp (thn h4 fun _ s5 ⟨x,H5,I5,r5,y5,jZ,vY⟩=>?_)
  have vZ:=I5.pinned (stat vY) (T.obj _ _ jZ);refine Pf hp (thn (hg _ s5 nq H5 x u _ vZ r5 (step x H5 y5)) fun _ s6 ⟨U4,H6,I6,q6⟩=>?_)
  refine Pf hp (thn (hb _ s6 U4 H6 _ I6 q6) fun f s7 q7=>?_)
  have again:∀{nI:St} {H7:Hp},Inv X (pins++fE fp s5.heap) nI H7 s7->N nI H7->∃m,m<n/\∃i aF H',Inv X pins aF H' s7/\tn i s7.heap/\(∀b∈fp,H' b=none)/\W i m aF H':=fun {nI H7} I7 n7=>by
   obtain⟨m',hm,w7⟩:=hN nI H7 n7;refine⟨m',hm,i+1,nI,H7,I7.dH,T.keep _ _ _ jZ fun b hb o e=>(I7.pin (b,o) (f8 _ (f8 _ (cU hb e)))).1,fun b hb=>?_,w7⟩
   obtain⟨o,e,d⟩:=T.obj _ _ jZ b hb;exact(I7.pin (b,o) (f8 _ (f8 _ (cU hb e)))).2.1
  cases f with
  |next=>obtain⟨nI,H7,I7,n7⟩:=q7;exact again I7 n7
  |cont=>obtain⟨nI,H7,I7,n7⟩:=q7;exact again I7 n7
  |brk=>obtain⟨nI,H7,I7,q7⟩:=q7;exact⟨nI,H7,I7.dH,q7⟩
  |ret v=>obtain⟨x7,nI,H7,I7,r7,q7⟩:=q7;exact⟨x7,nI,H7,I7.dH,r7,q7⟩
end
abbrev R2:=V->V->Hp->VK->Prop
def OpR (X:Cx) (f:al->al->YD al) (r:R2):Prop:=
 ∀(pins:List (ac×li)) (s:ba) (σ:St) (H:Hp) (x y:V) (v u:al) (Q:VK),Inv X pins σ H s->RelV x v->RelV y u->r x y H Q->
  wpAny (model X.prog X.w) X.A (f v u) (EP X pins σ Q) X.xe s
def UnR (X:Cx) (f:al->YD al) (r:V->Hp->VK->Prop):Prop:=
 ∀(pins:List (ac×li)) (s:ba) (σ:St) (H:Hp) (x:V) (v:al) (Q:VK),Inv X pins σ H s->RelV x v->r x H Q->
  wpAny (model X.prog X.w) X.A (f v) (EP X pins σ Q) X.xe s
def cV (X:Cx) (f:al) (r:List V->Hp->VK->Prop):Prop:=
 ∀(pins:List (ac×li)) (s:ba) (σ:St) (H:Hp) (xs:List V) (us:List al) (Q:VK),Inv X pins σ H s->Vals xs us->r xs H Q->
  wpAny (model X.prog X.w) X.A (call f us) (EP X pins σ Q) X.xe s
def TU (X:Cx) (r:V->Hp->(Bool->Hp->Prop)->Prop):Prop:=
 ∀(pins:List (ac×li)) (s:ba) (σ:St) (H:Hp) (x:V) (v:al) (Q:Bool->Hp->Prop),Inv X pins σ H s->RelV x v->r x H Q->
  wpAny (model X.prog X.w) X.A (truthy v) (TP X pins σ Q) X.xe s
def B6 (r:R2) (ta tb:TE):TE:=fun σ H Q=>ta σ H fun x H1=>tb σ H1 fun y H2=>r x y H2 Q
def U5 (r:V->Hp->VK->Prop) (ta:TE):TE:=fun σ H Q=>ta σ H fun x H1=>r x H1 Q
def rI (C:Int->Int->Prop) (g:Int->Int->V):R2:=fun x y H Q=>∃i j,x=.int i/\y=.int j/\C i j/\Q (g i j) H
def um (g:Int->Int->V):R2:=fun x y H Q=>∃i j,x=.int i/\y=.int j/\Q (g i j) H
def rU (g:Int->V):V->Hp->VK->Prop:=fun x H Q=>∃i,x=.int i/\Q (g i) H
section
variable {X:Cx}{a b c:db}{ta tb tc:TE}{pos:wE}
theorem Fd (ha:PE X a ta) (hb:PE X b tb) {pins:List (ac×li)}{s:ba}{σ:St}{H:Hp}{R:V->V->Hp->Prop}(I:Inv X pins σ H s)
  (h:ta σ H fun x H1=>tb σ H1 fun y H2=>R x y H2) {Q:al->ba->Prop} {f:al->al->YD al}
  (hf:∀v u s2 x y H2,Inv X pins σ H2 s2->RelV x v->RelV y u->R x y H2->wpAny (model X.prog X.w) X.A (f v u) Q X.xe s2) :
  wpAny (model X.prog X.w) X.A (eval a X.env) (fun v aC=>wpAny (model X.prog X.w) X.A (eval b X.env) (fun u jg=>wpAny (model X.prog X.w) X.A (f v u) Q X.xe jg) X.xe aC) X.xe s :=by
 refine thn (ha pins s σ H _ I h) fun v s1 ⟨x,H1,I1,r1,q1⟩=>?_
 refine thn (hb pins s1 σ H1 _ I1 q1) fun u s2 ⟨y,H2,I2,r2,q2⟩=>?_
 exact hf v u s2 x y H2 I2 r1 r2 q2
theorem QF {op:Operator}{r:R2}(ho:OpR X (binaryOp op) r) (ha:PE X a ta) (hb:PE X b tb):PE X (.BinOp a op b pos) (B6 r ta tb) :=by
 refine⟨?_⟩;intro pins s σ H Q I h;exact wpAny_BinOp (Fd ha hb I h fun v u s2 x y H2 I2 rx ry q=>ho pins s2 σ H2 x y v u Q I2 rx ry q)
theorem QH {op:UnaryOp}{r:V->Hp->VK->Prop}(ho:UnR X (unaryOp op) r) (ha:PE X a ta):PE X (.UnaryOp op a pos) (U5 r ta) :=by
 refine⟨?_⟩;intro pins s σ H Q I h;exact UnaryOp_ (thn (ha pins s σ H _ I h) fun v s1 ⟨x,H1,I1,r1,q1⟩=>ho pins s1 σ H1 x v Q I1 r1 q1)
theorem yZ {f:al->al->YD al}{C:Int->Int->Prop}{g:Int->Int->Int}
  (rule:∀(i j:Int) (t u:YJ) (s:ba) (Q:al->ba->Prop) (E:al->ba->Prop),C i j->Q (.int (g i j) s.toks) {s with toks:=s.toks+1}->wpAny (model X.prog X.w) X.A (f (.int i t) (.int j u)) Q E s) :
  OpR X f (rI C fun i j=>.int (g i j)) :=by
 intro pins s σ H x y v u Q I rx ry h;obtain⟨i,j,rfl,rfl,hc,q⟩:=h;obtain⟨t,rfl⟩:=rx;obtain⟨t',rfl⟩:=ry;exact rule i j t t' s _ _ hc ⟨.int (g i j),H,I.tok _,⟨_,rfl⟩,q⟩
theorem Md {f:al->al->YD al}{g:Int->Int->Int}
  (rule:∀(i j:Int) (t u:YJ) (s:ba) (Q:al->ba->Prop) (E:al->ba->Prop),Q (.int (g i j) s.toks) {s with toks:=s.toks+1}->wpAny (model X.prog X.w) X.A (f (.int i t) (.int j u)) Q E s) :
  OpR X f (um fun i j=>.int (g i j)) :=by
 intro pins s σ H x y v u Q I rx ry h;obtain⟨i,j,rfl,rfl,q⟩:=h;obtain⟨t,rfl⟩:=rx;obtain⟨t',rfl⟩:=ry;exact rule i j t t' s _ _ ⟨.int (g i j),H,I.tok _,⟨_,rfl⟩,q⟩
theorem Fe {f:al->al->YD al}{g:Int->Int->Bool}
  (rule:∀(i j:Int) (t u:YJ) (s:ba) (Q:al->ba->Prop) (E:al->ba->Prop),Q (.bool (g i j)) s->wpAny (model X.prog X.w) X.A (f (.int i t) (.int j u)) Q E s) :
  OpR X f (um fun i j=>.bl (g i j)) :=by
 intro pins s σ H x y v u Q I rx ry h;obtain⟨i,j,rfl,rfl,q⟩:=h;obtain⟨t,rfl⟩:=rx;obtain⟨t',rfl⟩:=ry;exact rule i j t t' s _ _ ⟨.bl (g i j),H,I,rfl,q⟩
def Mf (i j:Int):Prop:=0<j/\j<1073741824
def Mg (i j:Int):Prop:=0<=j/\j<=1000000/\i.natAbs<2 ^ 64
def An (i j:Int):Prop:=(-(2 ^ 64)<i/\i<2 ^ 64)\/(-(2 ^ 64)<j/\j<2 ^ 64)
theorem An.ok {i j:Int}(h:An i j):IntMulOk i j :=by
 rcases h with ⟨h1,h2⟩|⟨h1,h2⟩
 ·exact .of_left (intBits_le_64 h1 h2)
 ·exact .of_right (intBits_le_64 h1 h2)
theorem Mi:OpR X (binaryOp .Add) (um fun i j=>.int (i+j)):=Md fun _ _ _ _ _ _ _ q=>add_int q
theorem Mj:OpR X (binaryOp .Sub) (um fun i j=>.int (i - j)):=Md fun _ _ _ _ _ _ _ q=>sub_int q
theorem Mk:OpR X (binaryOp .Mult) (rI An fun i j=>.int (i * j)):=yZ fun _ _ _ _ _ _ _ hc q=>mul_int q hc.ok
theorem Jp:OpR X (binaryOp .FloorDiv) (rI Mf fun i j=>.int (i / j)):=yZ fun i j _ _ _ _ _ hc q=>by
 have h1:(0:Int)<j:=hc.1;have h2:j<1073741824:=hc.2;exact floordiv_int (by omega) (by rw[Int.fdiv_eq_ediv_of_nonneg i (by omega)];exact q) (.inl (PyProof.noPylong_small (by omega)))
theorem Ml:OpR X (binaryOp .Mod) (rI (fun _ j=>0<j) fun i j=>.int (i % j)):=yZ fun i j _ _ _ _ _ hc q=>by
 have h1:(0:Int)<j:=hc;exact mod_int' (by omega) (by rw[Int.fmod_eq_emod_of_nonneg i (by omega)];exact q)
theorem Mm:OpR X (binaryOp .Pow) (rI Mg fun i j=>.int (i ^ j.toNat)):=yZ fun _ _ _ _ _ _ _ hc q=>pow_int_small hc.1 hc.2.1 hc.2.2 q
theorem U6 {f:al->YD al}{g:Int->Int}
  (rule:∀(i:Int) (t:YJ) (s:ba) (Q:al->ba->Prop) (E:al->ba->Prop),Q (.int (g i) s.toks) {s with toks:=s.toks+1}->wpAny (model X.prog X.w) X.A (f (.int i t)) Q E s) :
  UnR X f (rU fun i=>.int (g i)) :=by
 intro pins s σ H x v Q I rx h;obtain⟨i,rfl,q⟩:=h;obtain⟨t,rfl⟩:=rx;exact rule i t s _ _ ⟨.int (g i),H,I.tok _,⟨_,rfl⟩,q⟩
theorem Mp:UnR X (unaryOp .USub) (rU fun i=>.int (-i)):=U6 fun _ _ _ _ _ q=>neg_int q
end
def Ff:V->V->Bool
 | .au,.au=>true | .au,.int _=>true | .int _,.au=>true | .au,.bl _=>true | .bl _,.au=>true | .au,.str _=>true | .str _,.au=>true
 | .int _,.int _=>true | .bl _,.bl _=>true | .str _,.str _=>true | .jU _,.jU _=>true
 | .int _,.str _=>true | .str _,.int _=>true | .bl _,.str _=>true | .str _,.bl _=>true
 |_,_=>false
def U7:R2:=fun x y H Q=>Ff x y=true/\Q (.bl (decide (x=y))) H
def U8:R2:=fun x y H Q=>Ff x y=true/\Q (.bl (!decide (x=y))) H
theorem y0 {i j:Int}:decide (V.int i=V.int j)=(i==j) :=by
 rw[TD];simp
theorem B7 {i j:Bool}:decide (V.bl i=V.bl j)=(i==j) :=by
 rw[TD];simp
theorem y2 {i j:bn}:decide (V.str i=V.str j)=(i==j) :=by
 rw[TD];simp
theorem y3 {i j:Array UInt8}:decide (V.jU i=V.jU j)=(i.toList==j.toList) :=by
 rw[TD];cases i;cases j;simp
section
variable {X:Cx}{a b c:db}{ta tb tc:TE}{pos:wE}
theorem bb {pins:List (ac×li)}{σ:St}{H:Hp}{s:ba}{Q:VK}{k k':Bool}(I:Inv X pins σ H s) (q:Q (.bl k) H) (e:k=k'):EP X pins σ Q (.bool k') s :=by
 subst e;exact⟨.bl k,H,I,rfl,q⟩
theorem QJ:OpR X (compareOp .Eq) U7 :=by
 intro pins s σ H x y v u Q I rx ry h;obtain⟨hs,q⟩:=h;cases x with
 |au=>
  cases rx;cases y with
  |au=>cases ry;exact PySem.EqNone.eq_none_none (bb I q (by simp))
  |bl j=>cases ry;exact PySem.EqNone.eq_none_bool (bb I q (by simp))
  |int j=>obtain⟨t',rfl⟩:=ry;exact PySem.EqNone.eq_none_int (bb I q (by simp))
  |str j=>obtain⟨t',rfl⟩:=ry;exact PySem.EqNone.eq_none_str (bb I q (by simp))
  |_=>exact absurd (show false=true from hs) im
 |bl i=>
  cases rx;cases y with
  |au=>cases ry;exact PySem.EqNone.eq_bool_none (bb I q (by simp))
  |bl j=>cases ry;exact eq_bool (bb I q B7)
  |str j=>obtain⟨t',rfl⟩:=ry;exact PySem.EqMixed.eq_bool_str (bb I q (by simp))
  |_=>exact absurd (show false=true from hs) im
 |int i=>
  obtain⟨t,rfl⟩:=rx;cases y with
  |au=>cases ry;exact PySem.EqNone.eq_int_none (bb I q (by simp))
  |int j=>obtain⟨t',rfl⟩:=ry;exact eq_int (bb I q y0)
  |str j=>obtain⟨t',rfl⟩:=ry;exact PySem.EqMixed.eq_int_str (bb I q (by simp))
  |_=>exact absurd (show false=true from hs) im
 |str i=>
  obtain⟨t,rfl⟩:=rx;cases y with
  |au=>cases ry;exact PySem.EqNone.eq_str_none (bb I q (by simp))
  |bl j=>cases ry;exact PySem.EqMixed.eq_str_bool (bb I q (by simp))
  |int j=>obtain⟨t',rfl⟩:=ry;exact PySem.EqMixed.eq_str_int (bb I q (by simp))
  |str j=>obtain⟨t',rfl⟩:=ry;exact eq_str (bb I q y2)
  |_=>exact absurd (show false=true from hs) im
 |jU i=>
  obtain⟨t,rfl⟩:=rx;cases y with
  |jU j=>obtain⟨t',rfl⟩:=ry;exact PySem.W.eq_bytes (bb I q y3)
  |_=>exact absurd (show false=true from hs) im
 |_=>cases y<;>exact absurd (show false=true from hs) im
theorem QK:OpR X (compareOp .NotEq) U8 :=by
 intro pins s σ H x y v u Q I rx ry h;obtain⟨hs,q⟩:=h;cases x with
 |au=>
  cases rx;cases y with
  |au=>cases ry;exact PySem.EqNone.ne_none_none (bb I q (by simp))
  |bl j=>cases ry;exact PySem.EqNone.ne_none_bool (bb I q (by simp))
  |int j=>obtain⟨t',rfl⟩:=ry;exact PySem.EqNone.ne_none_int (bb I q (by simp))
  |str j=>obtain⟨t',rfl⟩:=ry;exact PySem.EqNone.ne_none_str (bb I q (by simp))
  |_=>exact absurd (show false=true from hs) im
 |bl i=>
  cases rx;cases y with
  |au=>cases ry;exact PySem.EqNone.ne_bool_none (bb I q (by simp))
  |bl j=>cases ry;exact ne_bool (bb I q (congrArg not B7))
  |str j=>obtain⟨t',rfl⟩:=ry;exact PySem.EqMixed.ne_bool_str (bb I q (by simp))
  |_=>exact absurd (show false=true from hs) im
 |int i=>
  obtain⟨t,rfl⟩:=rx;cases y with
  |au=>cases ry;exact PySem.EqNone.ne_int_none (bb I q (by simp))
  |int j=>obtain⟨t',rfl⟩:=ry;exact ne_int (bb I q (congrArg not y0))
  |str j=>obtain⟨t',rfl⟩:=ry;exact PySem.EqMixed.ne_int_str (bb I q (by simp))
  |_=>exact absurd (show false=true from hs) im
 |str i=>
  obtain⟨t,rfl⟩:=rx;cases y with
  |au=>cases ry;exact PySem.EqNone.ne_str_none (bb I q (by simp))
  |bl j=>cases ry;exact PySem.EqMixed.ne_str_bool (bb I q (by simp))
  |int j=>obtain⟨t',rfl⟩:=ry;exact PySem.EqMixed.ne_str_int (bb I q (by simp))
  |str j=>obtain⟨t',rfl⟩:=ry;exact ne_str (bb I q (congrArg not y2))
  |_=>exact absurd (show false=true from hs) im
 |jU i=>
  obtain⟨t,rfl⟩:=rx;cases y with
  |jU j=>obtain⟨t',rfl⟩:=ry;exact PySem.W.ne_bytes (bb I q (congrArg not y3))
  |_=>exact absurd (show false=true from hs) im
 |_=>cases y<;>exact absurd (show false=true from hs) im
theorem QM:OpR X (compareOp .Lt) (um fun i j=>.bl (decide (i<j))):=Fe fun _ _ _ _ _ _ _ q=>lt_int q
theorem QN:OpR X (compareOp .LtE) (um fun i j=>.bl (decide (i<=j))):=Fe fun _ _ _ _ _ _ _ q=>le_int q
theorem QO:OpR X (compareOp .Gt) (um fun i j=>.bl (decide (j<i))):=Fe fun _ _ _ _ _ _ _ q=>gt_int q
theorem bV (b:db) {op:XN}(h:op≠.In :=by decide) (h2:op≠.NotIn :=by decide):behindInMarks op b=false :=by
 have e1:(op==XN.In)=false :=by cases op<;>first|rfl|exact absurd rfl h
 have e2:(op==XN.NotIn)=false :=by cases op<;>first|rfl|exact absurd rfl h2
 cases b<;>simp[behindInMarks,e1,e2]
theorem Jq {op:XN}{r:R2}(ho:OpR X (compareOp op) r) (ha:PE X a ta) (hb:PE X b tb) (hm:behindInMarks op b=false):PE X (.Compare a [op] [b] pos) (B6 r ta tb) :=by
 refine⟨?_⟩;intro pins s σ H Q I h;exact wpAny_Compare1 (Fd ha hb I h fun v u s2 x y H2 I2 rx ry q=>ho pins s2 σ H2 x y v u Q I2 rx ry q) hm
def Ao (t:TE):TT:=fun σ H Q=>t σ H fun x H'=>∃k,x=.bl k/\Q k H'
theorem Jr {op:XN}{r:R2}(ho:OpR X (compareOp op) r) (ha:PE X a ta) (hb:PE X b tb) (hm:behindInMarks op b=false):PT X (.Compare a [op] [b] pos) (Ao (B6 r ta tb)) :=by
 refine⟨?_⟩;intro pins s σ H Q I h;refine wpAny_isTrue_Compare1 (thn (ha pins s σ H _ I h) fun v s1 ⟨x,H1,I1,r1,q1⟩=>thn (hb pins s1 σ H1 _ I1 q1) fun u s2 ⟨y,H2,I2,r2,q2⟩=>
  thn (ho pins s2 σ H2 x y v u _ I2 r1 r2 q2) fun c s3 ⟨z,H3,I3,r3,k,e,q3⟩=>?_) hm
 subst e;cases r3;exact Cc ⟨H3,I3,q3⟩
def v3 (r r':R2) (ta tb tc:TE):TE:=fun σ H Q=>ta σ H fun x H1=>tb σ H1 fun y H2=>r x y H2 fun z H3=>∃k,z=.bl k /\
 (if k=true then tc σ H3 fun w' H4=>r' y w' H4 Q else Q (.bl false) H3)
theorem Fg {op j0:XN}{r r':R2}(ho:OpR X (compareOp op) r) (iA:OpR X (compareOp j0) r') (ha:PE X a ta) (hb:PE X b tb) (hc:PE X c tc)
  (hm:lastMarks [op,j0] [b,c]=false :=by with_unfolding_all rfl):PE X (.Compare a [op,j0] [b,c] pos) (v3 r r' ta tb tc) :=by
 refine⟨?_⟩;intro pins s σ H Q I h;refine Compare_chain (thn (ha pins s σ H _ I h) fun v s1 ⟨x,H1,I1,r1,q1⟩=>chain_link (thn (hb pins s1 σ H1 _ I1 q1) fun u s2 ⟨y,H2,I2,r2,q2⟩=>
  thn (ho pins s2 σ H2 x y v u _ I2 r1 r2 q2) fun d s3 ⟨z,H3,I3,r3,k,e,q3⟩=>?_)) hm
 subst e;cases r3;refine Cc ?_;cases k with
 |false=>exact ite_ff ⟨.bl false,H3,I3,rfl,q3⟩
 |true=>exact ite_tt (chain_last (thn (hc pins s3 σ H3 _ I3 q3) fun w' s4 ⟨z',H4,I4,r4,q4⟩=>iA pins s4 σ H4 y z' u w' Q I4 r2 r4 q4))
theorem Fh {op j0:XN}{r r':R2}(ho:OpR X (compareOp op) r) (iA:OpR X (compareOp j0) r') (ha:PE X a ta) (hb:PE X b tb) (hc:PE X c tc)
  (hm:lastMarks [op,j0] [b,c]=false :=by with_unfolding_all rfl):PT X (.Compare a [op,j0] [b,c] pos) (Ao (v3 r r' ta tb tc)) :=by
 refine⟨?_⟩;intro pins s σ H Q I h;refine isTrue_chain (thn (ha pins s σ H _ I h) fun v s1 ⟨x,H1,I1,r1,q1⟩=>test_link (thn (hb pins s1 σ H1 _ I1 q1) fun u s2 ⟨y,H2,I2,r2,q2⟩=>
  thn (ho pins s2 σ H2 x y v u _ I2 r1 r2 q2) fun d s3 ⟨z,H3,I3,r3,k,e,q3⟩=>?_)) hm
 subst e;cases r3;refine Cc ?_;cases k with
 |false=>
  obtain⟨k',e',q'⟩:=q3;cases e';exact ite_ff ⟨H3,I3,q'⟩
 |true=>
  refine ite_tt (test_last (thn (hc pins s3 σ H3 _ I3 q3) fun w' s4 ⟨z',H4,I4,r4,q4⟩=>thn (iA pins s4 σ H4 y z' u w' _ I4 r2 r4 q4) fun d' s5 ⟨z2,H5,I5,r5,k2,e2,q5⟩=>?_))
  subst e2;cases r5;exact Cc ⟨H5,I5,q5⟩
def Fi (K:bi) (x:V) (H:Hp) (k:Bool):Prop:=
 match x with
 | .au=>k=false
 | .bl b=>k=b
 | .int i=>k=(i != 0)
 | .str y=>y.length<=sizeLine/\k=((y.length:Int) != 0)
 | .jU y=>y.size<=sizeLine/\k=((y.size:Int) != 0)
 | .ref p=>(∃xs,bo K H p xs/\k = !xs.isEmpty)\/(∃xs,cw K H p xs/\k = !xs.isEmpty)\/∃ak,H p=some (.dK ak)/\k = !ak.isEmpty
 |_=>False
theorem Ap {κ:Type}{ak:List (κ×V)}{vs:List (κ×al)}(r:KV ak vs):(!vs.isEmpty) = !ak.isEmpty :=by
 cases r<;>rfl
theorem rB {xs:List V}{its:List al}(r:Vals xs its):(!its.toArray.isEmpty) = !xs.isEmpty :=by
 cases r<;>simp
theorem lZ:(sizeLine:Nat)<2 ^ 63 :=by rw[XV];decide
theorem Mq:TU X (fun x H Q=>∃k,Fi X.K x H k/\Q k H) :=by
 intro pins s σ H x v Q I rx h;obtain⟨k,e,q⟩:=h;have hl:=lZ;have hs:sizeLine=16777216:=XV;cases x with
 |au=>
  cases rx;have e':k=false:=e;subst e';exact truthy_none ⟨H,I,q⟩
 |bl b=>
  cases rx;have e':k=b:=e;subst e';exact Cc ⟨H,I,q⟩
 |int i=>
  obtain⟨t,rfl⟩:=rx;have e':k=(i != 0):=e;subst e';exact PySem.P.truthy_int ⟨H,I,q⟩
 |str y=>
  obtain⟨t,rfl⟩:=rx;obtain⟨hy,e'⟩:y.length<=sizeLine/\k=((y.length:Int) != 0):=e;subst e';exact PySem.P.truthy_str (by omega) ⟨H,I.tok _,q⟩
 |jU y=>
  obtain⟨t,rfl⟩:=rx;obtain⟨hy,e'⟩:y.size<=sizeLine/\k=((y.size:Int) != 0):=e;subst e';exact PySem.W.truthy_bytes (by omega) ⟨H,I.tok _,q⟩
 |ref p=>
  cases rx;have e':(∃xs,bo X.K H p xs/\k = !xs.isEmpty)\/(∃xs,cw X.K H p xs/\k = !xs.isEmpty)\/∃ak,H p=some (.dK ak)/\k = !ak.isEmpty:=e;rcases e' with ⟨xs,hx,e'⟩|⟨xs,hx,e'⟩|⟨ak,hx,e'⟩
  ·subst e';obtain⟨its,r,pl,hz⟩:=I.list hx;have hlen:=r.length;exact wpAny_truthy_list pl.isList (by simp only[ii];omega) ⟨H,I.tok _,by rw[rB r];exact q⟩
  ·subst e';obtain⟨its,r,pl,hz⟩:=I.tuple hx;have hlen:=r.length;exact truthy_tuple pl (by simp only[ii];omega) ⟨H,I.tok _,by rw[rB r];exact q⟩
  ·subst e';obtain⟨hz,hS,vs,r,m⟩:ak.length<=sizeLine/\(p==sysModules)=false/\∃vs,KV ak vs/\s.heap.DictOf (bI X.prog X.w) p vs:=I.hok p _ hx;have hlen:ak.length=vs.length:=XT r;exact wpAny_truthy_dict hS m (by omega) ⟨H,I.tok _,by rw[Ap r];exact q⟩
 |_=>exact(show False from e).elim
theorem Fj (ha:PE X a ta) (he:∀whole,isTrue a X.env whole=(do let v <- whole;standAt a.pos;holding [v] (truthy v))) :
  PT X a (fun σ H Q=>ta σ H fun x H'=>∃k,Fi X.K x H' k/\Q k H') :=by
 refine⟨?_⟩;intro pins s σ H Q I h;exact isTrue_plain (thn (ha pins s σ H _ I h) fun v s1 ⟨x,H1,I1,r1,q1⟩=>Mq pins s1 σ H1 x v Q I1 r1 q1) (he _)
theorem Aq:OpR X (binaryOp .Add) (fun x y H Q=>∃i j,x=.str i/\y=.str j/\i.length+j.length<=sizeLine/\Q (.str (i++j)) H) :=by
 intro pins s σ H x y v u Q I rx ry h;obtain⟨i,j,rfl,rfl,hz,q⟩:=h;obtain⟨t,rfl⟩:=rx;obtain⟨t',rfl⟩:=ry;exact add_str (fun t' tk=>⟨.str (i++j),H,I.tok _,⟨_,rfl⟩,q⟩) hz
theorem vals1 {x:V}{us:List al}(r:Vals [x] us):∃u,us=[u]/\RelV x u :=by
 cases r with
 |cons r1 r2=>cases r2;exact⟨_,rfl,r1⟩
theorem vals2 {x y:V}{us:List al}(r:Vals [x,y] us):∃u w',us=[u,w']/\RelV x u/\RelV y w':=by
 cases r with
 |cons r1 r2=>
  cases r2 with
  |cons r3 r4=>cases r4;exact⟨_,_,rfl,r1,r3⟩
theorem Fl:cV X (.builtin "abs") (fun xs H Q=>∃i,xs=[.int i]/\Q (.int (if i<0 then -i else i)) H) :=by
 intro pins s σ H xs us Q I r h;obtain⟨i,rfl,q⟩:=h;obtain⟨u,rfl,t,rfl⟩:=vals1 r;exact call_abs_int fun u tk=>⟨.int (if i<0 then -i else i),H,I.tok _,⟨_,rfl⟩,q⟩
theorem B8 (hc:X.calm=true):cV X (.builtin "max") (fun xs H Q=>∃i j,xs=[.int i,.int j]/\Q (.int (if j > i then j else i)) H) :=by
 intro pins s σ H xs us Q I r h;obtain⟨i,j,rfl,q⟩:=h;obtain⟨u,w',rfl,⟨t,rfl⟩,⟨t',rfl⟩⟩:=vals2 r;refine max_two_ints (I.ok.hd hc) fun h' tk k=>⟨_,H,I.kept k,?_,q⟩
 by_cases hj:j > i
 ·rw[if_pos hj,if_pos hj];exact⟨_,rfl⟩
 ·rw[if_neg hj,if_neg hj];exact⟨_,rfl⟩
theorem B9 (hc:X.calm=true):cV X (.builtin "min") (fun xs H Q=>∃i j,xs=[.int i,.int j]/\Q (.int (if j<i then j else i)) H) :=by
 intro pins s σ H xs us Q I r h;obtain⟨i,j,rfl,q⟩:=h;obtain⟨u,w',rfl,⟨t,rfl⟩,⟨t',rfl⟩⟩:=vals2 r;refine min_two_ints (I.ok.hd hc) fun h' tk k=>⟨_,H,I.kept k,?_,q⟩
 by_cases hj:j<i
 ·rw[if_pos hj,if_pos hj];exact⟨_,rfl⟩
 ·rw[if_neg hj,if_neg hj];exact⟨_,rfl⟩
def Mr (K:bi) (x:V) (H:Hp) (n:Nat):Prop:=
 match x with
 | .str y=>y.length<=sizeLine/\n=y.length
 | .jU y=>y.size<=sizeLine/\n=y.size
 | .ref p=>(∃xs,bo K H p xs/\n=xs.length)\/∃xs,cw K H p xs/\n=xs.length
 |_=>False
theorem Fm:cV X (.builtin "len") (fun xs H Q=>∃x n,xs=[x]/\Mr X.K x H n/\Q (.int n) H) :=by
 intro pins s σ H xs us Q I r h;obtain⟨x,n,rfl,e,q⟩:=h;obtain⟨u,rfl,rx⟩:=vals1 r;have hl:=lZ;have hs:sizeLine=16777216:=XV;cases x with
 |str y=>
  obtain⟨t,rfl⟩:=rx;obtain⟨hy,e'⟩:y.length<=sizeLine/\n=y.length:=e;subst e';exact len_str (by omega) ⟨.int _,H,I.tok _,⟨_,rfl⟩,q⟩
 |jU y=>
  obtain⟨t,rfl⟩:=rx;obtain⟨hy,e'⟩:y.size<=sizeLine/\n=y.size:=e;subst e';exact PySem.W.len_bytes (by omega) ⟨.int _,H,I.tok _,⟨_,rfl⟩,q⟩
 |ref p=>
  cases rx;have e':(∃xs,bo X.K H p xs/\n=xs.length)\/∃xs,cw X.K H p xs/\n=xs.length:=e;rcases e' with ⟨xs,hx,e'⟩|⟨xs,hx,e'⟩
  ·subst e';obtain⟨its,r',pl,hz⟩:=I.list hx;have hlen:=r'.length;exact Calls.call_len_list pl.isList (by simp only[ii];omega) ⟨.int xs.length,H,I.tok _,⟨_,by simp only[ii];rw[hlen]⟩,q⟩
  ·subst e';obtain⟨its,r',pl,hz⟩:=I.tuple hx;have hlen:=r'.length;exact len_tuple pl (by simp only[ii];omega) ⟨.int xs.length,H,I.tok _,⟨_,by simp only[ii];rw[hlen]⟩,q⟩
 |_=>exact(show False from e).elim
end
structure Fn (h:hX) (x dx C:ac) (mA:bn->Option al):Prop where
 obj:h.get? x=some (ZR C dx)
 ns:h.Ns1 dx mA
 ne:dx≠x
theorem Ca {h:hX}{dx:ac}{mA:bn->Option al}(n:h.Ns1 dx mA):∃od,h.get? dx=some od/\∀name,PySem.W.lookIn name od=some (mA name) :=by
 obtain⟨o,es,ep,ho,hd,hk,_,hm⟩:=n;refine⟨o,ho,fun name=>?_⟩
 have e:=hm name;unfold nsFind findBy at e;rw[<- Array.find?_toList]at e;unfold PySem.W.lookIn;rw[hd];dsimp only;split
 ·rename_i y q;rw[q]at e;exact congrArg some e
 ·rename_i q;rw[q]at e;have a:es.toList.any (·.refKey)=false :=by
   rw[List.any_eq_false];intro y hy;obtain⟨z,t,TV⟩:=hk y (Array.mem_toList_iff.mp hy);simp[X6.refKey,TV]
  have a':¬ es.toList.any (·.refKey)=true :=by rw[a];exact im
  rw[if_neg a'];exact congrArg some e
theorem Fn.look {h:hX}{x dx C:ac}{mA:bn->Option al}(I:Fn h x dx C mA):∃od,PySem.W.InstAt h x (ZR C dx) C (some od)/\∀name,PySem.W.lookIn name od=some (mA name):=
 let ⟨od,ho,hl⟩:=Ca I.ns
 ⟨od,⟨I.obj,rfl,rfl,ho⟩,hl⟩
theorem jV.some_of {v:V}{o:Option al}(r:jV (some v) o):∃u,o=some u/\RelV v u :=by
 cases o with
 |none=>exact(show False from r).elim
 |some u=>exact⟨u,rfl,r⟩
section
variable {P:gc}{w:i4}{H H':Hp}{h h':hX}{a C dx:ac}{fs U1:List (bn×V)}
theorem Js (hok:cS P w H h) (e:H a=some (.ins C dx fs)):∃mA,Fn h a dx C mA/\(∀f,jV (fs.lookup f) (mA f))/\PySem.Within mA (fs.map (·.1))/\fs.length<=1000/\H dx=some (.own a) :=by
 obtain⟨d,z,ne,ob,mA,n,r,q⟩:=(show ObjOk P w H h a (.ins C dx fs) from hok a _ e);exact⟨mA,⟨ob,n,ne⟩,r,q,z,d⟩
end
structure Ms (K:bi) (C:ac):Prop where
 pg:PySem.W.plainGet K C bn.empty=true
 hd:PySem.W.hasDictIn K C=true
 po:PySem.W.plainOver K C=true
 sa:PySem.W.findIn K (.ref C) "__setattr__" = some (some (.builtin "object.__setattr__"))
theorem Ms.get {K:bi}{C:ac}(c:Ms K C) (f:bn):PySem.W.plainGet K C f=true:=c.pg
section
variable {X:Cx}{pins:List (ac×li)}{σ:St}{H:Hp}{s:ba}{A:rb}{E:al->ba->Prop}{Q:al->ba->Prop}{c:al}{b:Bool}
inductive gH (K:bi) (H:Hp):V->al->Prop where
 |au:gH K H .au (.type "NoneType")
 |bl (x:Bool):gH K H (.bl x) (.type "bool")
 |int (i:Int):gH K H (.int i) (.type "int")
 |str (x:bn):gH K H (.str x) (.type "str")
 |yW (x:UInt64):gH K H (.yW x) (.type "float")
 |lst {a:ac} {xs:List V} (e:H a=some (.lst xs)):gH K H (.ref a) (.type "list")
 |bM {a:ac} {o:li} {xs:List V} (e:H a=some (.bM o (.lst xs))):gH K H (.ref a) (.type "list")
 |tup {a:ac} {xs:List V} (e:H a=some (.tup xs)):gH K H (.ref a) (.type "tuple")
 |dK {a:ac} {ak:List (Key×V)} (e:H a=some (.dK ak)):gH K H (.ref a) (.type "dict")
 |dT {a:ac} {ak:List (List Key×V)} (e:H a=some (.dT ak)):gH K H (.ref a) (.type "dict")
 |ins {a C dx:ac} {fs:List (bn×V)} (e:H a=some (.ins C dx fs)) (cl:Ms K C) (ha:PySem.W.findIn K (.ref C) "__class__" = some (some (.builtin "object.__class__")))
   (hn:PySem.W.specialIn K (.builtin "object.__class__") "__get__" = some (some (.builtin "getset_descriptor.__get__"))) (Sa:PySem.W.takesIn K (.builtin "object.__class__")=some true)
   (hm:PySem.W.mroIn K C (.type "object")=some true):gH K H (.ref a) (.ref C)
theorem Cb {x:V}{u t:al}(I:Inv X pins σ H s) (rx:RelV x u) (ty:gH X.K H x t) (e:YZ X.K t c=some b) (h:∀tk,Q (.bool b) {s with toks:=tk}) :
  wpAny (model X.prog X.w) A (call (.builtin "isinstance") [u,c]) Q E s :=by
 cases ty with
 |au=>cases (show u=GS from rx);exact Fk PySem.W.kitx_none I.fB NE e (fun z=>nomatch z) h
 |bl y=>cases (show u=YK y from rx);exact Fk PySem.W.kitx_bool I.fB NE e (fun z=>nomatch z) h
 |int i=>obtain⟨t,q⟩:=(show ∃t,u=Tl i t from rx);cases q;exact Fk PySem.W.kitx_int I.fB NE e (fun z=>nomatch z) h
 |str y=>obtain⟨t,q⟩:=(show ∃t,u=YC y t from rx);cases q;exact Fk PySem.W.kitx_str I.fB NE e (fun z=>nomatch z) h
 |yW y=>obtain⟨t,q⟩:=(show ∃t,u=al.float y t from rx);cases q;exact Fk PySem.W.kitx_float I.fB NE e (fun z=>nomatch z) h
 | @lst a xs ea=>
  cases (show u=l5 a from rx);obtain⟨_,_,n,_,h1⟩:=(show ObjOk X.prog X.w H s.heap a (.lst xs) from I.hok a _ ea);exact Fk PySem.W.kitx_list I.fB ⟨_,h1,rfl⟩ e (fun z=>nomatch z) h
 | @bM a ob xs ea=>
  cases (show u=l5 a from rx);obtain⟨_,_,_,n,_,h1⟩:=(show ObjOk X.prog X.w H s.heap a (.bM ob (.lst xs)) from I.hok a _ ea);exact Fk PySem.W.kitx_list I.fB ⟨_,h1,rfl⟩ e (fun z=>nomatch z) h
 | @tup a xs ea=>
  cases (show u=l5 a from rx);obtain⟨_,_,_,p⟩:=(show ObjOk X.prog X.w H s.heap a (.tup xs) from I.hok a _ ea);obtain⟨o,h1,h2,_⟩:=p;exact Fk PySem.W.kitx_tuple I.fB ⟨o,h1,h2⟩ e (fun z=>nomatch z) h
 | @dK a ak ea=>
  cases (show u=l5 a from rx);obtain⟨_,_,vs,_,p⟩:=(show ObjOk X.prog X.w H s.heap a (.dK ak) from I.hok a _ ea);obtain⟨o,es,ep,h1,h2,_⟩:=p;exact Fk PySem.W.kitx_dict I.fB ⟨o,h1,h2.1⟩ e (fun z=>nomatch z) h
 | @dT a ak ea=>
  cases (show u=l5 a from rx);obtain⟨_,_,xs,_,o,es,ep,h1,h2,_⟩:=(show ObjOk X.prog X.w H s.heap a (.dT ak) from I.hok a _ ea);exact Fk PySem.W.kitx_dict I.fB ⟨o,h1,h2.1⟩ e (fun z=>nomatch z) h
 | @ins a C dx fs ea cl ha hn Sa hm=>
  cases (show u=l5 a from rx);obtain⟨mA,O,_⟩:=Js I.hok ea;obtain⟨od,J,_⟩:=O.look;exact Fk (PySem.W.kitx_own (cl.get _) cl.hd ha hn Sa hm) I.fB J e (fun z=>nomatch z) h
end
structure bC (k:Nat) (A:rb):Prop where
 hd:A.handled=none
 dp:A.depth+3 * k+5<recursionLimit
 un:A.units+16 * k+200<cLine
theorem bC.mono {j k:Nat}{A:rb}(r:bC k A) (h:j<=k):bC j A:=⟨r.hd,by have:=r.dp;omega,by have:=r.un;omega⟩
theorem bC.deeper {k:Nat}{A:rb}(r:bC (k+1) A) (env:Mn):bC k (A.deeper env):=
 ⟨r.hd,by have:=r.dp;show A.depth+1+3 * k+5<_;omega,by have:=r.un;show A.units+3+16 * k+200<_;omega⟩
theorem bC.depth {k:Nat}{A:rb}(r:bC k A):A.depth<recursionLimit :=by have:=r.dp;omega
theorem bC.units {k:Nat}{A:rb}(r:bC k A):A.units+64<cLine :=by have:=r.un;omega
def TX:TA:=fun _ H Q=>Q [] H
def QP (ta:TE) (tr:TA):TA:=fun σ H Q=>ta σ H fun x H1=>tr σ H1 fun xs H2=>Q (x::xs) H2
section
variable {X:Cx}{e:db}{es:List db}{te:TE}{t:TA}{pos:wE}
theorem Mt:PA X [] TX:=⟨fun _ _ _ _ H Q I h=>NO ⟨[],H,I,.nil,h⟩⟩
theorem oW (ha:PE X e te) (hr:PA X es t) (hs:starEach (e::es) X.env=(false,eval e X.env)::starEach es X.env :=by rfl):PA X (e::es) (QP te t) :=by
 refine⟨?_⟩;intro pos pins s σ H Q I h;rw[hs];show wpAny _ _ (spliced ((false,eval e X.env)::backTo pos (starEach es X.env))) _ _ s;refine IF (thn (ha pins s σ H _ I h) fun u s1 ⟨x,H1,I1,r1,q1⟩=>?_)
 exact thn (hr pos pins s1 σ H1 _ I1 q1) fun us s2 ⟨xs,H2,I2,r2,q2⟩=>⟨x::xs,H2,I2,.cons r1 r2,q2⟩
def TY (t:TA):TE:=fun σ H Q=>t σ H fun xs H1=>xs.length<=sizeLine/\∀p,H1 p=none->Q (.ref p) (upd H1 p (.tup xs))
def TZ (t:TA):TE:=fun σ H Q=>t σ H fun xs H1=>xs.length<=sizeLine/\∀p,H1 p=none->Q (.ref p) (upd H1 p (.lst xs))
theorem Mu {x1}(h:PA X es t):PE X (.Tuple es x1 pos) (TY t) :=by
 refine⟨?_⟩;intro pins s σ H Q I hq;refine wpAny_Tuple_spliced (thn (h pos pins s σ H _ I hq) fun us s1 ⟨xs,H1,I1,r,z,q⟩=>⟨by rw[<- r.length];exact z,?_⟩)
 have hf:H1 s1.heap.objs.size=none:=I1.hok.fresh (c8 _);refine⟨.ref s1.heap.objs.size,upd H1 s1.heap.objs.size (.tup xs),I1.laid (t':=s1.toks) (fun b u e=>cb _ e) (c8 _) ?_,rfl,q _ hf⟩
 exact⟨z,us,r,⟨_,ff _ rfl,rfl,_,rfl,rfl⟩⟩
theorem Cd (h:PA X es t):PE X (.List es pos) (TZ t) :=by
 refine⟨?_⟩;intro pins s σ H Q I hq;refine wpAny_List_spliced (thn (h pos pins s σ H _ I hq) fun us s1 ⟨xs,H1,I1,r,z,q⟩=>⟨by rw[<- r.length];exact z,?_⟩)
 have hf:H1 s1.heap.objs.size=none:=I1.hok.fresh (c8 _);refine⟨.ref s1.heap.objs.size,upd H1 s1.heap.objs.size (.lst xs),I1.laid (t':=s1.toks) (fun b u e=>cb _ e) (c8 _) ?_,rfl,q _ hf⟩
 exact⟨z,us,0,r,ff _ rfl⟩
end
abbrev Sp:=List V->Hp->VK->XK->Prop
abbrev gS:=List Mn->Hp->ba->XK->al->ba->Prop
structure sY (P:gc) (w:i4) (K:bi) (mg:bn->Option al) (base:hX) (A:rb) (outer:List Mn) (s:ba) (H:Hp):Prop where
 frames:A.frames=some outer
 mod:Mod K mg base
 bs:∀b o,base.get? b=some o->s.heap.get? b=some o/\H b=none
 bsz:base.objs.size<=s.heap.objs.size
 funs:s.heap.FunFrames base outer
 frf:∀b∈d6 outer,H b=none
 hok:cS P w H s.heap
 bare:Z0 s.gens
def CE (outer:List Mn) (P:gc) (w:i4) (H:Hp) (s:ba) (Q:VK) (u:al) (s':ba):Prop:=
 ∃v H',s'.os=s.os/\Gn s.gens.size s'.gens/\Un (d6 outer) [] H H' s.heap s'.heap/\cS P w H' s'.heap/\RelV v u/\Q v H'
def CR (CX:gS) (outer:List Mn) (P:gc) (w:i4) (H:Hp) (s:ba) (Q:VK) (E:XK) (r:Ze) (s':ba):Prop:=
 match r with
 | .ok (.ret u)=>CE outer P w H s Q u s'
 | .ok _=>False
 | .error e=>CX outer H s E e s'
structure FnOk (P:gc) (w:i4) (K:bi) (mg:bn->Option al) (base:hX) (CX:gS) (k:Nat) (f:ac) (fd:l8) (ps:List bn) (sp:Sp):Prop where
 len:∀vs H Q E,sp vs H Q E->vs.length=ps.length
 run:∀(A:rb) (outer:List Mn) (s:ba) (H:Hp) (args:Args) (us:List al) (vs:List V) (Q:VK) (E:XK),bC k A->sY P w K mg base A outer s H->ZD s fd args (ps.zip us)->Vals vs us->sp vs H Q E->
  codeAny (model P w) A (.call (.ref f) args) (CR CX outer P w H s Q E) s
theorem FnOk.mono {P:gc}{w:i4}{K:bi}{mg:bn->Option al}{base:hX}{CX:gS}{j k:Nat}{f:ac}{fd:l8}{ps:List bn}{sp:Sp}(F:FnOk P w K mg base CX j f fd ps sp) (h:j<=k) :
  FnOk P w K mg base CX k f fd ps sp:=⟨F.len,fun A outer s H args us vs Q E hr=>F.run A outer s H args us vs Q E (hr.mono h)⟩
theorem FnOk.imp {P:gc}{w:i4}{K:bi}{mg:bn->Option al}{base:hX}{CX:gS}{k:Nat}{f:ac}{fd:l8}{ps:List bn}{sp Sb:Sp}(F:FnOk P w K mg base CX k f fd ps sp)
  (h:∀vs H Q E,Sb vs H Q E->sp vs H Q E):FnOk P w K mg base CX k f fd ps Sb:=
 ⟨fun vs H Q E q=>F.len vs H Q E (h _ _ _ _ q),fun A outer s H args us vs Q E hr he hb hv hs=>F.run A outer s H args us vs Q E hr he hb hv (h _ _ _ _ hs)⟩
section
variable {X:Cx}{pins:List (ac×li)}{σ:St}{H:Hp}{s s':ba}
theorem Inv.T4 (I:Inv X pins σ H s):sY X.prog X.w X.K X.mg X.base X.A X.stack s H:=
 ⟨I.ok.frames,I.ok.mod,I.bs,wr I.ok.bsz I.sz,I.stack,I.lW,I.hok,I.bare.1⟩
theorem Inv.after {Q:VK}{u:al}(I:Inv X pins σ H s) (h:CE X.stack X.prog X.w H s Q u s'):EP X pins σ Q u s':=by
 obtain⟨v,H',os,bare,un,hok,r,q⟩:=h;obtain⟨hh,g,d,t,Sd⟩:=s';obtain rfl:Sd=s.os:=os;exact⟨v,H',I.call (h':=hh) (g':=g) (d':=d) (t':=t) (ch:=[]) un hok bare (fun b z=>absurd z (by simp)),r,q⟩
end
def Ht (sp:Sp) (gq:List V) (E:XK) (t:TA):TE:=fun σ H Q=>t σ H fun vs H1=>sp (vs++gq) H1 Q E
def Binds (K:bi) (fd:l8) (ps:List bn) (ds:List al):Prop:=
 ∀(s:ba) (us:List al),K.In s.heap->(us++ds).length=ps.length->ZD s fd ⟨us,[]⟩ (ps.zip (us++ds))
theorem Binds.all {K:bi}{fd:l8}{ps:List bn}(h:∀us:List al,us.length=ps.length->bindArgs fd ⟨us,[]⟩=pure (ps.zip us)):Binds K fd ps []:=fun s us _ hl=>by
 rw[Is]at hl ⊢;exact .of_eq (h us hl)
def Passes (CX:gS) (X:Cx) (E:XK):Prop:=∀(pins:List (ac×li)) (σ:St) (H:Hp) (s:ba) (e:al) (s':ba),Inv X pins σ H s->CX X.stack H s E e s'->X.xe e s'
section
variable {X:Cx}{CX:gS}{k:Nat}{f C:ac}{fd:l8}{ps:List bn}{sp:Sp}{gq:List V}{ds:List al}{E:XK}{x m:bn}{p pos apos:wE}{e o:db}{es:List db}{ta:TE}{t:TA}
theorem Ce {pins:List (ac×li)}{σ:St}{H:Hp}{s:ba}{Q:VK}{us:List al}{vs:List V}(F:FnOk X.prog X.w X.K X.mg X.base CX k f fd ps sp) (hr:bC k X.A) (hb:Binds X.K fd ps ds) (hd:Vals gq ds) (hx:Passes CX X E)
  (I:Inv X pins σ H s) (r:Vals vs us) (h:sp (vs++gq) H Q E):wpAny (model X.prog X.w) X.A (call (.ref f) us) (EP X pins σ Q) X.xe s :=by
 have r2:Vals (vs++gq) (us++ds):=r.append hd;have hl:(us++ds).length=ps.length :=by rw[<- r2.length];exact F.len _ _ _ _ h
 refine Z2 (ZF (F.run X.A X.stack s H ⟨us,[]⟩ (us++ds) (vs++gq) Q E hr I.T4 (hb s us I.fB hl) r2 h) fun r s' hq=>?_)
 cases r with
 |error e=>exact hx pins σ H s e s' I hq
 |ok fl=>
  cases fl with
  |ret u=>exact I.after hq
  |next=>exact GT hq
  |brk=>exact GT hq
  |cont=>exact GT hq
theorem Jt (F:FnOk X.prog X.w X.K X.mg X.base CX k f fd ps sp) (hr:bC k X.A) (hg:Gl X x) (hm:X.mg x=some (.ref f)) (hk:EU X.K (.ref f)=true) (hb:Binds X.K fd ps ds) (hd:Vals gq ds) (hx:Passes CX X E)
  (ha:PA X (e::es) t) (d8:(x==("__debug__" : bn))=false :=by decide) (he:starEach (e::es) X.env=(false,eval e X.env)::starEach es X.env :=by rfl) (dy:(backTo pos (starEach es X.env)).any (·.1)=false :=by rfl) :
  PE X (.Call (.Name x p) (e::es) [] pos) (Ht sp gq E t) :=by
 refine⟨?_⟩;intro pins s σ H Q I h;refine DD (lX I hg hm ?_ d8);refine PySem.W.callWith_K (h₀:=X.base) I.ok.mod.kin hk (thn (ha pos pins s σ H _ I h) fun us s1 ⟨vs,H1,I1,r,q⟩=>⟨I1.fB,?_⟩) he dy
 exact Ce F hr hb hd hx I1 r q
end
structure aO (N P:List bn) (sc:wp):Prop where
 kind:sc.kind=.function
 co:sc.isCoroutine=false
 gen:sc.isGenerator=false
 nd:N.Nodup
 pre:N.take P.length=P
 par:∀x∈P,sc.names.lookup x=some .local\/sc.names.lookup x=some .cell
 nofree:∀y∈sc.names,y.2≠.free
theorem uo {kindOf:bn->Option Sm}{x:bn}:∀{binds:List (bn×al)}{m:bn->Option al},(∀v,(x,v) ∉ binds)->bindL kindOf binds m x=m x
 | [],_,_=>rfl
 |(n,v)::r,m,h=>by
          unfold bindL;rw[uo fun w hw=>h w (i0 _ hw)]
          split
          ·have:x≠n :=by rintro rfl;exact h v ma
           simp[this]
          ·rfl
theorem uq {kindOf:bn->Option Sm}{x:bn}:∀{binds:List (bn×al)}{m:bn->Option al},(∀v,(x,v) ∉ binds)->bindC kindOf binds m x=m x
 | [],_,_=>rfl
 |(n,v)::r,m,h=>by
          unfold bindC;rw[uq fun w hw=>h w (i0 _ hw)]
          split
          ·rfl
          ·have:x≠n :=by rintro rfl;exact h v ma
           simp[this]
theorem ur {kindOf:bn->Option Sm}{x:bn}{v:al}:∀{P:List bn}{vs:List al}{i:Nat}{m:bn->Option al},P.Nodup->P[i]?=some x->vs[i]?=some v->kindOf x=some .local->
  bindL kindOf (P.zip vs) m x=some v
 | [],_,_,_,_,h,_,_=>by simp at h
 |_::_,[],_,_,_,_,h,_=>by simp at h
 |p::P,w::vs,0,m,nd,h1,h2,hk=>by
          simp at h1 h2;subst h1;subst h2;show bindL kindOf ((p,w)::P.zip vs) m p=_;unfold bindL;rw[uo fun v hv=>(Pi.mp nd).1 (TM hv).1,if_pos hk]
          simp
 |p::P,w::vs,i+1,m,nd,h1,h2,hk=>by
          show bindL kindOf ((p,w)::P.zip vs) m x=_;unfold bindL;exact ur (i:=i) (Pi.mp nd).2 (by simpa using h1) (by simpa using h2) hk
theorem uv {kindOf:bn->Option Sm}{x:bn}{v:al}:∀{P:List bn}{vs:List al}{i:Nat}{m:bn->Option al},P.Nodup->P[i]?=some x->vs[i]?=some v->kindOf x≠some .local->
  bindC kindOf (P.zip vs) m x=some v
 | [],_,_,_,_,h,_,_=>by simp at h
 |_::_,[],_,_,_,_,h,_=>by simp at h
 |p::P,w::vs,0,m,nd,h1,h2,hk=>by
          simp at h1 h2;subst h1;subst h2;show bindC kindOf ((p,w)::P.zip vs) m p=_;unfold bindC;rw[uq fun v hv=>(Pi.mp nd).1 (TM hv).1,if_neg hk]
          simp
 |p::P,w::vs,i+1,m,nd,h1,h2,hk=>by
          show bindC kindOf ((p,w)::P.zip vs) m x=_;unfold bindC;exact uv (i:=i) (Pi.mp nd).2 (by simpa using h1) (by simpa using h2) hk
def start (N:List bn) (vs:List V):St:=vs.map some++io (N.length - vs.length) none
def f9 (CX:gS) (P:gc) (w:i4) (K:bi) (mg:bn->Option al) (base:hX) (N:List bn) (qual:bn) (scope:wp) (f:ac) (cd:al) (A:rb) (outer:List Mn) (s:ba) (H:Hp) (E:XK):Cx where
 prog:=P
 w:=w
 K:=K
 mg:=mg
 base:=base
 A:=A.deeper (envOfC qual scope s.heap.objs.size f cd)
 N:=N
 s₀:=s
 H₀:=H
 env:=envOfC qual scope s.heap.objs.size f cd
 outer:=outer
 stack:=envOfC qual scope s.heap.objs.size f cd::outer
 ex:=[]
 calm:=true
 fn:=fun _=>true
 pn:=[]
 xe:=fun e s'=>wpAny (model P w) (A.deeper (envOfC qual scope s.heap.objs.size f cd)) (leaving (envOfC qual scope s.heap.objs.size f cd) e) (fun _ bq=>CX outer H s E e bq) (fun e' bq=>CX outer H s E e' bq) s'
theorem v7 {sc:wp}{n:Nat}{x:bn}(h:sc.names.lookup x=some .cell):∃c,(cellsFrom n sc.names []).lookup x=some c :=by
 have q:=PySem.W.cellsFrom_some sc.names n [] (.inl h);exact Option.isSome_iff_exists.mp q
theorem Cg {CX:gS}{P:gc}{w:i4}{K:bi}{mg:bn->Option al}{base:hX}{N ps:List bn}{qual:bn}{scope:wp}{f:ac}{cd:al}{A:rb}{outer:List Mn}{s s1:ba}{H:Hp}{E:XK}{us:List al}{vs:List V}
  (S:aO N ps scope) (hd:A.handled=none) (e0:sY P w K mg base A outer s H) (hl:vs.length=ps.length) (r:Vals vs us)
  (x:InCallC s s.heap.objs.size (bindL (envOfC qual scope s.heap.objs.size f cd).kindOf (ps.zip us) fun _=>none) (cellsFrom (s.heap.objs.size+1) scope.names []) (bindC (envOfC qual scope s.heap.objs.size f cd).kindOf (ps.zip us) fun _=>none) s1) :
  Inv (f9 CX P w K mg base N qual scope f cd A outer s H E) [] (start N vs) H s1 :=by
 have dy:ps.length<=N.length :=by have:=congrArg List.length S.pre;rw[Yv]at this;omega
 obtain⟨h1,tk,rfl,hk⟩:=x.done;have Mv:∀b:ac,b ∉ (f9 CX P w K mg base N qual scope f cd A outer s H E).ex:=fun b z=>absurd (show b∈([]:List ac) from z) (by simp)
 refine⟨⟨e0.mod,S.kind,rfl,rfl,c8 _,fun y z c h1 h2=>?_,fun y hy=>?_,fun y c _ h=>?_,fun _=>hd,rb.frames_deeper e0.frames,.inr ⟨rfl,rfl⟩,fun b z=>absurd z (Mv b),e0.bs,e0.bsz,fun b _ _=>Mv b,fun b z=>absurd z (Mv b),e0.funs,e0.frf⟩,
  rfl,⟨e0.bare,c8 _⟩,Un.kept hk,⟨_,x.toInCall.ns,fun i y v h1 h2 h3=>?_⟩,fun y c h=>⟨_,x.cell y c h⟩,e0.hok.fresh (c8 _),fun y c h=>?_,fun p hp=>absurd (show p∈([]:List (ac×li)) from hp) (by simp),e0.hok.kept hk,?_⟩
 ·exact name_of_addr x.apart (xp h1) (xp h2)
 ·have hy:scope.names.lookup y=some .cell\/scope.names.lookup y=some .free:=hy;rcases hy with hy|hy
  ·exact v7 hy
  ·exact absurd rfl (S.nofree _ (xp hy))
 ·exact ON (x.above y c (xp h))
 ·have hi:i<vs.length :=by
   unfold start at h2;by_cases hi:i<vs.length
   ·exact hi
   ·rw[wS (by simpa using hi)]at h2
    rw[BS]at h2;split at h2<;>cases h2
  have ha:vs[i]?=some v :=by
   unfold start at h2;rw[ut (by simpa using hi),br]at h2
   cases e:vs[i]? with
   |none=>rw[e]at h2;cases h2
   |some a=>rw[e]at h2;cases h2;rfl
  obtain⟨u,hu,rv⟩:=r.get ha;have hp:ps[i]?=some y :=by
   rw[<- S.pre,X9 (by omega)];exact h1
  have Se:ps.Nodup :=by rw[<- S.pre];exact S.nd.sublist (List.take_sublist _ _)
  refine⟨u,rv,?_⟩;rcases S.par y (dL hp) with k|k
  ·exact .inl ⟨k,ur Se hp hu k⟩
  ·obtain⟨c,e⟩:=v7 (n:=s.heap.objs.size+1) k;refine .inr ⟨.inl k,c,e,?_⟩;have q:=x.cell y c e;rw[uv Se hp hu (by show scope.names.lookup y≠_;rw[k];decide)]at q
   exact q
 ·exact e0.hok.fresh (ON (x.above y c (xp h)))
 ·unfold start;show _=N.length;rw[wb,ci,Fa];omega
theorem Ar {CX:gS}{P:gc}{w:i4}{K:bi}{mg:bn->Option al}{base:hX}{k:Nat}{f:ac}{name qual:bn}{params:OL}{body:List tw}{scope:wp}{dV kV doc pm cT ct oc:al}{an od:Option ac}
  {gr:Array (Option al)} {N ps:List bn} {sp:Sp} (lk:K.lookup f=some ⟨oc,od,.func (B0 name qual params body scope dV kV doc pm an cT ct),gr⟩) (d7:MW K cT qual=true) (S:aO N ps scope)
  (len:∀vs H Q E,sp vs H Q E->vs.length=ps.length)
  (mK:∀(A:rb) (outer:List Mn) (s:ba) (H:Hp) (vs:List V) (Q:VK) (E:XK),bC k (A.deeper (envOfC qual scope s.heap.objs.size f cT))->sp vs H Q E->
   ∃t,f6 (f9 CX P w K mg base N qual scope f cT A outer s H E) body t/\t {nx:=fun _ H'=>Q .au H',rt:=Q} (start N vs) H) :
  FnOk P w K mg base CX (k+1) f (B0 name qual params body scope dV kV doc pm an cT ct) ps sp :=by
 refine⟨len,fun A outer s H args us vs Q E hr e0 hb r kX=>?_⟩
 have hl:=len _ _ _ _ kX;have KX:K.In s.heap:=e0.mod.kin.keeps fun b o e=>(e0.bs b o e).1
 have lim:s.heap.NoLimit:=e0.mod.nolimit.keeps fun b o e=>(e0.bs b o e).1
 have oX:∀y∈ps.zip us,scope.names.lookup y.1=some .local\/(scope.names.lookup y.1=some .cell/\((cellsFrom (s.heap.objs.size+1) scope.names []).lookup y.1).isSome=true):=fun⟨n,v⟩ hy=>by
  rcases S.par n (TM hy).1 with q|q
  ·exact .inl q
  ·exact .inr ⟨q,PySem.W.cellsFrom_some _ _ _ (.inl q)⟩
 refine codeAny_call_function hr.depth (KX _ _ lk) rfl S.co S.gen rfl (PySem.W.codeRec_of KX d7) (hb _ _ _ _ ?_);refine wpAny_newFunctionEnv_cells S.kind oX fun env he s1 x=>?_
 subst he;refine⟨lim.keeps x.toInCall.keep,codeAny_func ?_⟩;obtain⟨t,ht,hq⟩:=mK A outer s H vs Q E (hr.deeper _) kX;have I:Inv (f9 CX P w K mg base N qual scope f cT A outer s H E) [] (start N vs) H s1:=Cg S hr.hd e0 hl r x;refine mf (ht [] s1 (start N vs) H _ I hq) (fun fl s' hs=>?_) fun e s' hs=>hs
 have fin:∀{aF:St} {H':Hp} {v:V} {u:al},Inv (f9 CX P w K mg base N qual scope f cT A outer s H E) [] aF H' s'->RelV v u->Q v H'->CE outer P w H s Q u s':=
  fun {aF H' v u} J rv q=>⟨v,H',J.os,J.bare,J.base,J.hok,rv,q⟩
 cases fl with
 |ret u=>
  obtain⟨v,aF,H',J,rv,q⟩:=hs;exact fin J rv q
 |next=>
  obtain⟨aF,H',J,q⟩:=hs;exact fin (v:=V.au) (u:=GS) J rfl q
 |brk=>
  obtain⟨_,_,_,q⟩:=hs;exact GT q
 |cont=>
  obtain⟨_,_,_,q⟩:=hs;exact GT q
section
variable {X:Cx}{x:bn}{p pos:wE}{e:db}{es:List db}{t:TA}{id T:String}{r:List V->Hp->VK->Prop}
def Mw (r:List V->Hp->VK->Prop) (t:TA):TE:=fun σ H Q=>t σ H fun vs H1=>r vs H1 Q
theorem Fo (hc:cV X (.builtin id) r) (hg:Gl X x) (hm:X.mg x=none) (hv:bootBuiltins x=some (.builtin id)) (ha:PA X (e::es) t) (hn:x ≠ "__name__" := by decide) (d8:(x==("__debug__" : bn))=false :=by decide)
  (he:starEach (e::es) X.env=(false,eval e X.env)::starEach es X.env :=by rfl) (dy:(backTo pos (starEach es X.env)).any (·.1)=false :=by rfl):PE X (.Call (.Name x p) (e::es) [] pos) (Mw r t) :=by
 refine⟨?_⟩;intro pins s σ H Q I h;refine DD (fD I hg hm hv ?_ hn d8);exact TW (thn (ha pos pins s σ H _ I h) fun us s1 ⟨vs,H1,I1,r1,q1⟩=>hc pins s1 σ H1 vs us Q I1 r1 q1) he dy
theorem Ci (hc:cV X (.type T) r) (hg:Gl X x) (hm:X.mg x=none) (hv:bootBuiltins x=some (.type T)) (ha:PA X (e::es) t) (hn:x ≠ "__name__" := by decide) (d8:(x==("__debug__" : bn))=false :=by decide)
  (he:starEach (e::es) X.env=(false,eval e X.env)::starEach es X.env :=by rfl) (dy:(backTo pos (starEach es X.env)).any (·.1)=false :=by rfl):PE X (.Call (.Name x p) (e::es) [] pos) (Mw r t) :=by
 refine⟨?_⟩;intro pins s σ H Q I h;refine DD (fD I hg hm hv ?_ hn d8);exact Da (thn (ha pos pins s σ H _ I h) fun us s1 ⟨vs,H1,I1,r1,q1⟩=>hc pins s1 σ H1 vs us Q I1 r1 q1) he dy
end
end L2
namespace HT
open PySem PyProof.Rows
section
variable {prog:gc}{w:i4}{A:rb}{E:al->ba->Prop}{s:ba}
theorem Ju {t b:ac}{vs ws:List al}{Q:al->ba->Prop}(ht:IsTup s.heap t vs.toArray) (hb:IsTup s.heap b ws.toArray) (hv:vs≠[])
  (h1:ws=[]->Q (.ref t) s) (h2:ws≠[]->Q (.ref s.heap.objs.size) {s with heap:=s.heap.push {cls:=.type "tuple",data:=.seq (vs++ws).toArray}})
  (hsz:vs.length+ws.length<=sizeLine):wpAny (model prog w) A (binaryOp .Add (.ref t) (.ref b)) Q E s :=by
 obtain⟨⟨cls,dd,data,sl⟩,ho,hc,n,hd⟩:=id ht;obtain⟨⟨T5,y4,data2,rC⟩,rD,Cj,n2,hd2⟩:=id hb;simp only at hc hd Cj hd2;subst hc hd Cj hd2;have e:vs.toArray++ws.toArray=(vs++ws).toArray :=by simp
 by_cases hw:ws=[]
 ·exact concat_meets ⟨_,ho,rfl⟩ ⟨_,rD,rfl⟩ ZG seq_tuple_add Yo Yh (Ya _ _)
   (tuple_addW1 t b vs.toArray ws.toArray n n2 dd y4 sl rC (by simpa using hv) (by simp[hw])) ⟨ho,rD,h1 hw⟩
 ·refine concat_meets ⟨_,ho,rfl⟩ ⟨_,rD,rfl⟩ ZG seq_tuple_add Yo Yh (Ya _ _)
   (tuple_addW2 t b vs.toArray ws.toArray n n2 dd y4 sl rC (by simpa using hv) (by simpa using hw) (by rw[ii,ii];exact hsz)) ⟨ho,rD,?_⟩
  rw[e];exact h2 hw
def fF (n d:Nat):Option Int->Nat
 |none=>d
 |some v=>if v<0 then (v+(n:Int)).toNat else min v.toNat n
end
end HT
namespace L2
open PySem PySem.Spec PyProof.Rows
abbrev TO:=St->Hp->(Option Int->Hp->Prop)->Prop
def PO (X:Cx) (e:Option db) (t:TO):Prop:=
 ∀(pins:List (ac×li)) (s:ba) (σ:St) (H:Hp) (Q:Option Int->Hp->Prop),Inv X pins σ H s->t σ H Q->
  wpAny (model X.prog X.w) X.A (evalPart e X.env) (fun u s'=>∃o H',Inv X pins σ H' s'/\IsPart u o/\Q o H') X.xe s
def Jv:TO:=fun _ H Q=>Q none H
def QR (t:TE):TO:=fun σ H Q=>t σ H fun x H1=>∃i,x=.int i/\Q (some i) H1
section
variable {X:Cx}{e:db}{te:TE}{lo hi:Option db}{tl th:TO}{pos p2:wE}
theorem Jw:PO X none Jv :=by
 intro pins s σ H Q I h;rw[evalPart_none];exact ce ⟨none,H,I,.none,h⟩
theorem Jx (h:PE X e te):PO X (some e) (QR te) :=by
 intro pins s σ H Q I hw;rw[evalPart_some];refine thn (h pins s σ H _ I hw) fun u s1 ⟨x,H1,I1,r1,q1⟩=>?_
 obtain⟨i,rfl,q⟩:=q1;obtain⟨t,rfl⟩:=r1;exact⟨some i,H1,I1,.int i t,q⟩
def Hu (X:Cx) (r:V->Option Int->Option Int->Hp->VK->Prop):Prop:=
 ∀(pins:List (ac×li)) (s:ba) (σ:St) (H:Hp) (x:V) (v vl vu:al) (lo hi:Option Int) (sl:ac) (Q:VK),Inv X pins σ H s->RelV x v->s.heap.IsSliceOf sl vl vu .none->IsPart vl lo->IsPart vu hi->r x lo hi H Q->
  ∃T id,typeLookup (.type T) "__getitem__" = pure (some (.builtin id))/\s.TypeIs v T/\wpAny (model X.prog X.w) X.A (getItem v (.ref sl)) (EP X pins σ Q) X.xe s
def U9 (r:V->Option Int->Option Int->Hp->VK->Prop) (te:TE) (tl th:TO):TE:=fun σ H Q=>te σ H fun x H1=>tl σ H1 fun l H2=>th σ H2 fun u H3=>r x l u H3 Q
theorem Fp {r:V->Option Int->Option Int->Hp->VK->Prop}(hr:Hu X r) (he:PE X e te) (hl:PO X lo tl) (hu:PO X hi th):PE X (.Subscript e (.Slice lo hi none p2) pos) (U9 r te tl th) :=by
 refine⟨?_⟩;intro pins s σ H Q I h;refine Subscript_ (thn (he pins s σ H _ I h) fun v s1 ⟨x,H1,I1,r1,q1⟩=>?_)
 refine wpAny_Slice (thn (hl pins s1 σ H1 _ I1 q1) fun vl s2 ⟨l,H2,I2,pl,q2⟩=>thn (hu pins s2 σ H2 _ I2 q2) fun vu s3 ⟨u,H3,I3,pu,q3⟩=>?_)
 rw[evalPart_none];refine ce ?_;have I4:Inv X pins σ H3 {s3 with heap:=s3.heap.push {cls:=.type "slice",data:=.fields #[vl,vu,.none]}}:=I3.kept (t':=s3.toks) fun b ob q=>cb _ q
 obtain⟨T,id,hT,ht,hg⟩:=hr pins {s3 with heap:=s3.heap.push {cls:=.type "slice",data:=.fields #[vl,vu,.none]}} σ H3 x v vl vu l u s3.heap.objs.size Q I4 r1 (hX.IsSliceOf.new ..) pl pu q3
 show wpAny (model X.prog X.w) X.A (subscriptTail e (.Slice lo hi none p2) v (.ref s3.heap.objs.size)) (EP X pins σ Q) X.xe {s3 with heap:=s3.heap.push {cls:=.type "slice",data:=.fields #[vl,vu,.none]}}
 exact tail_any (ops:=[.ref s3.heap.objs.size,v]) ht hT hg (by with_unfolding_all rfl)
def qi (xs:List V) (lo hi:Option Int):List V:=(xs.drop (HT.fF xs.length 0 lo)).take (HT.fF xs.length xs.length hi - HT.fF xs.length 0 lo)
theorem yy (xs:List V) (lo hi:Option Int):(qi xs lo hi).length<=xs.length :=by
 unfold qi;rw[Yv,ZH];omega
def QU (K:bi):R2:=fun x y H Q=>∃a b xs ys,x=.ref a/\y=.ref b/\cw K H a xs/\cw K H b ys/\xs≠[]/\xs.length+ys.length<=sizeLine /\
 (ys=[]->Q (.ref a) H)/\(ys≠[]->∀p,H p=none->Q (.ref p) (upd H p (.tup (xs++ys))))
theorem Vals.jK {xs:List V}{us:List al}(r:Vals xs us):us=[] ↔ xs=[] :=by
 cases r with
 |nil=>simp
 |cons _ _=>simp
theorem Jy:OpR X (binaryOp .Add) (QU X.K) :=by
 intro pins s σ H x y v u Q I rx ry h;obtain⟨a,b,xs,ys,rfl,rfl,ha,hb,hx,hz,q1,q2⟩:=h;cases rx;cases ry;obtain⟨its,r1,p1,_⟩:=I.tuple ha;obtain⟨cO,r2,p2,_⟩:=I.tuple hb;refine HT.Ju p1 p2 (fun z=>hx (r1.jK.mp z)) (fun z=>⟨.ref a,H,I,rfl,q1 (r2.jK.mp z)⟩) (fun z=>?_) (by rw[<- r1.length,<- r2.length];exact hz)
 refine⟨.ref s.heap.objs.size,_,I.laid (t':=s.toks) (o:=.tup (xs++ys)) (fun b ob q=>cb _ q) (c8 _) ?_,rfl,q2 (fun w=>z (r2.jK.mpr w)) _ (I.hok.fresh (c8 _))⟩
 exact⟨by rw[wb];exact hz,_,r1.append r2,jW.new _ _⟩
end
def f7 (n:Nat) (i:Int):Option Nat:=if 0<=i then (if i<n then some i.toNat else none) else if -(n:Int)<=i then some (i+n).toNat else none
def cy {α:Type}(xs:List α) (i:Int):Option α:=(f7 xs.length i).bind fun j=>xs[j]?
theorem sZ {n:Nat}{i:Int}{j:Nat}(h:f7 n i=some j):seqIndex? i n=some j/\j<n /\ -(n:Int)<=i/\i<n :=by
 unfold f7 at h;by_cases h0:0<=i
 ·rw[if_pos h0]at h;by_cases h1:i<n
  ·rw[if_pos h1]at h;have e:i.toNat=j:=i8 h;exact⟨by rw[seqIndex_of h0 h1,e],by omega,by omega,h1⟩
  ·rw[if_neg h1]at h;cases h
 ·rw[if_neg h0]at h;by_cases h1 : -(n:Int)<=i
  ·rw[if_pos h1]at h;have e:(i+n).toNat=j:=i8 h;exact⟨by rw[seqIndex_neg (by omega) h1,e],by omega,h1,by omega⟩
  ·rw[if_neg h1]at h;cases h
theorem tj {α:Type}{xs:List α}{i:Int}{v:α}(h:cy xs i=some v):∃j,seqIndex? i xs.length=some j/\xs[j]?=some v/\j<xs.length /\ -(xs.length:Int)<=i/\i<xs.length :=by
 unfold cy at h;cases e:f7 xs.length i with
 |none=>rw[e]at h;cases h
 |some j=>
  rw[e]at h;obtain⟨h1,h2,h3,h4⟩:=sZ e;exact⟨j,h1,h,h2,h3,h4⟩
theorem cf {α:Type}{xs:List α}{j:Nat}{v:α}(h:xs[j]?=some v):cy xs (j:Int)=some v :=by
 have hj:j<xs.length:=(bv.mp h).1;have e:f7 xs.length (j:Int)=some j :=by
  unfold f7;rw[if_pos (by omega),if_pos (by omega)];simp
 unfold cy;rw[e];exact h
def y6 (b:db):Prop:=∀o i,subscripted b false o i=operate [o,i] (getItem o i)
def nJ (X:Cx) (r:R2):Prop:=
 ∀(value slice:db) (pins:List (ac×li)) (s:ba) (σ:St) (H:Hp) (x y:V) (v u:al) (Q:VK),Inv X pins σ H s->RelV x v->RelV y u->r x y H Q->
  subscripted slice false v u=operate [v,u] (getItem v u)->wpAny (model X.prog X.w) X.A (subscriptTail value slice v u) (EP X pins σ Q) X.xe s
def Hv (X:Cx) (id:String) (r:V->List V->Hp->VK->Prop):Prop:=
 ∀(pins:List (ac×li)) (s:ba) (σ:St) (H:Hp) (x:V) (xs:List V) (v:al) (us:List al) (Q:VK),Inv X pins σ H s->RelV x v->Vals xs us->r x xs H Q->
  wpAny (model X.prog X.w) X.A (call (.builtin id) (v::us)) (EP X pins σ Q) X.xe s
section
variable {X:Cx}{a b:db}{ta tb:TE}{pos:wE}
theorem nJ.or {r r':R2}(h:nJ X r) (h':nJ X r'):nJ X (fun x y H Q=>r x y H Q\/r' x y H Q) :=by
 intro value slice pins s σ H x y v u Q I rx ry q hs;rcases q with q|q
 ·exact h value slice pins s σ H x y v u Q I rx ry q hs
 ·exact h' value slice pins s σ H x y v u Q I rx ry q hs
theorem QV {r:R2}(hr:nJ X r) (ha:PE X a ta) (hb:PE X b tb) (hs:y6 b):PE X (.Subscript a b pos) (B6 r ta tb) :=by
 refine⟨?_⟩;intro pins s σ H Q I h;exact Subscript_ (Fd ha hb I h fun v u s2 x y H2 I2 rx ry q=>hr a b pins s2 σ H2 x y v u Q I2 rx ry q (hs _ _))
def Mx (K:bi):R2:=fun x y H Q=>∃p xs i v,x=.ref p/\y=.int i/\bo K H p xs/\cy xs i=some v/\Q v H
def MA (K:bi):R2:=fun x y H Q=>∃p xs i v,x=.ref p/\y=.int i/\cw K H p xs/\cy xs i=some v/\Q v H
def MB:R2:=fun x y H Q=>∃z i c,x=.str z/\y=.int i/\z.length<=sizeLine/\cy z.cps.toList i=some c/\Q (.str ⟨#[c]⟩) H
theorem Jz:nJ X (Mx X.K) :=by
 intro value slice pins s σ H x y v u Q I rx ry h hs;obtain⟨p,xs,i,z,rfl,rfl,hq,he,q⟩:=h;cases rx;obtain⟨t,rfl⟩:=ry;obtain⟨its,r,pl,hz⟩:=I.list hq;obtain⟨j,h1,h2,h3,h4,h5⟩:=tj he;obtain⟨w,ew,jY⟩:=r.get h2;have hl:=r.length;have hn:=lZ;have fin:EP X pins σ Q w s:=⟨z,H,I,jY,q⟩;by_cases h0:0<=i
 ·have hj:i.toNat=j :=by
   rw[seqIndex_of h0 h5]at h1;exact i8 h1
  exact item_listR pl.isList h0 (by omega) (by rw[hj];simpa using ew) fin hs
 ·have hj:(i+(its.toArray.size:Int)).toNat=j :=by
   rw[seqIndex_neg (by omega) h4]at h1
   rw[ii,<- hl];exact i8 h1
  exact subscriptTail_builtinR (x:=w) pl.isList.typeIs slot_list_getitem.lookup
   (wpAny_getItem_list_neg (Q:=fun r s'=>r=w/\EP X pins σ Q r s') pl.isList (by omega) (by rw[ii]<;>omega) (by omega) (by rw[hj];simpa using ew) ⟨rfl,fin⟩) hs
theorem MC:nJ X (MA X.K) :=by
 intro value slice pins s σ H x y v u Q I rx ry h hs;obtain⟨p,xs,i,z,rfl,rfl,hq,he,q⟩:=h;cases rx;obtain⟨t,rfl⟩:=ry;obtain⟨its,r,pl,hz⟩:=I.tuple hq;obtain⟨j,h1,h2,h3,h4,h5⟩:=tj he;obtain⟨w,ew,jY⟩:=r.get h2;have hl:=r.length;have hn:=lZ;have fin:EP X pins σ Q w s:=⟨z,H,I,jY,q⟩;exact subscriptTail_builtinR (x:=w) pl.typeIs slot_tuple_getitem.lookup
  (getItem_tuple (j:=j) (Q:=fun r s'=>r=w/\EP X pins σ Q r s') pl (by omega) (by omega) (by rw[ii,<- hl];exact h1) (by simpa using ew) ⟨rfl,fin⟩) hs
theorem MD:nJ X MB :=by
 intro value slice pins s σ H x y v u Q I rx ry h hs;obtain⟨z,i,c,rfl,rfl,hz,he,q⟩:=h;obtain⟨t,rfl⟩:=rx;obtain⟨t',rfl⟩:=ry;obtain⟨j,h1,h2,h3,h4,h5⟩:=tj he;have hl:z.cps.toList.length=z.length :=by simp[bn.length]
 rw[hl]at h1 h4 h5;have hn:=lZ;exact tail_any (typeIs_str s z t) slot_str_getitem.lookup (getItem_str (c:=c) (by
  have e1:decide (i < -(2 ^ 63:Int))=false:=decide_eq_false (by omega)
  have e2:decide (i ≥ 2 ^ 63)=false:=decide_eq_false (by omega)
  rw[e1,e2,Bool.or_false]) (by rw[h1];simpa using h2) ⟨.str ⟨#[c]⟩,H,I.tok _,⟨_,rfl⟩,q⟩) hs
def Sf (K:bi):R2:=fun x y H Q=>Mx K x y H Q\/MA K x y H Q\/MB x y H Q
theorem ME:nJ X (Sf X.K):=Jz.or (MC.or MD)
theorem As (its:List al) (n j:Nat) (u:al):FS (·.setIfInBounds j u) {cls:=.type "list",data:=.seq its.toArray n}={cls:=.type "list",data:=.seq (its.set j u).toArray n}:=by
 simp[FS]
theorem Inv.lst {pins:List (ac×li)}{σ:St}{H:Hp}{s:ba}{p:ac}{xs:List V}(I:Inv X pins σ H s) (h:H p=some (.lst xs)) :
  ∃(its:List al) (n:Nat),Vals xs its/\s.heap.get? p=some {cls:=.type "list",data:=.seq its.toArray n}/\xs.length<=sizeLine :=by
 obtain⟨z,its,n,r,e⟩:=I.hok p _ h;exact⟨its,n,r,e,z⟩
theorem Inv.MF {pins:List (ac×li)}{σ:St}{H:Hp}{s:ba}{p:ac}{xs ys:List V}{its its':List al}{n n':Nat}{f:li->li}(I:Inv X pins σ H s) (h:H p=some (.lst xs))
  (ho:s.heap.get? p=some {cls:=.type "list",data:=.seq its.toArray n}) (hf:f {cls:=.type "list",data:=.seq its.toArray n}={cls:=.type "list",data:=.seq its'.toArray n'}) (r:Vals ys its') (hz:ys.length<=sizeLine) (t:Nat) :
  Inv X pins σ (upd H p (.lst ys)) {s with heap:=s.heap.update p f,toks:=t}:=by
 have e:(s.heap.update p f).get? p=some {cls:=.type "list",data:=.seq its'.toArray n'}:=by
  rw[AC f ho (by rw[hf]<;>rfl),hf]
 refine I.write (x:=p) (e:=p) (by rw[h];trivial) (.inl rfl) (fun b u hb q=>(wT _ _ (AN hb)).trans q) ⟨_,e⟩ ?_
 exact⟨hz,its',n',r,e⟩
def QX:V->V->V->Hp->(Hp->Prop)->Prop:=fun o i v H Q=>∃p xs k j,o=.ref p/\i=.int k/\H p=some (.lst xs)/\f7 xs.length k=some j/\Q (upd H p (.lst (xs.set j v)))
theorem set_list:LU X QX :=by
 intro pins s σ H o i v ov iv u Q I ro ri rv h;obtain⟨p,xs,k,j,rfl,rfl,hp,hj,q⟩:=h;cases ro;obtain⟨t,rfl⟩:=ri;obtain⟨its,n,r,ho,hz⟩:=I.lst hp;obtain⟨h1,h2,h3,h4⟩:=sZ hj;have hl:=r.length;have hn:=lZ;have I':Inv X pins σ (upd H p (.lst (xs.set j v))) {s with heap:=s.heap.update p (FS (·.setIfInBounds j u))}:=
  I.MF hp ho (As its n j u) (r.set rv j) (by rw[Lu];exact hz) s.toks
 by_cases h0:0<=k
 ·have hk:k.toNat=j :=by
   rw[seqIndex_of h0 h4]at h1;exact i8 h1
  exact PySem.W.ki_setAt ho h0 (by omega) (by rw[ii,<- hl];exact h4) (by rw[hk];exact⟨_,I',q⟩)
 ·have hk:(k+(its.toArray.size:Int)).toNat=j :=by
   rw[seqIndex_neg (by omega) h3]at h1
   rw[ii,<- hl];exact i8 h1
  exact PySem.W.ki_setBack ho (by omega) (by rw[ii,<- hl];exact h3) (by omega) (by rw[hk];exact⟨_,I',q⟩)
theorem v8 (lo hi:Option Int) (n:Nat):(sliceBounds lo hi none n).1=((HT.fF n 0 lo:Nat):Int)/\(sliceBounds lo hi none n).2.1=((HT.fF n n hi:Nat):Int)/\(sliceBounds lo hi none n).2.2=1 :=by
 refine⟨?_,?_,rfl⟩
 ·cases lo with
  |none=>simp[sliceBounds,HT.fF]
  |some i=>
   simp only[sliceBounds,HT.fF,Option.getD_none,show (1:Int) > 0 by decide,if_true]
   by_cases h:i<0
   ·simp only[h,if_true]<;>omega
   ·simp only[h,if_false]<;>omega
 ·cases hi with
  |none=>simp[sliceBounds,HT.fF]
  |some i=>
   simp only[sliceBounds,HT.fF,Option.getD_none,show (1:Int) > 0 by decide,if_true]
   by_cases h:i<0
   ·simp only[h,if_true]<;>omega
   ·simp only[h,if_false]<;>omega
theorem vo (its:List al) (lo hi:Option Int):slicePick its.toArray lo hi none=((its.drop (HT.fF its.length 0 lo)).take (HT.fF its.length its.length hi - HT.fF its.length 0 lo)).toArray :=by
 obtain⟨h1,h2,h3⟩:=v8 lo hi its.toArray.size;unfold slicePick;rw[h1,h2,h3];simp only[sliceRange_one,pick_run,ii]<;>rfl
def MG (K:bi):V->Option Int->Option Int->Hp->VK->Prop:=fun x lo hi H Q=>∃a xs,x=.ref a/\bo K H a xs/\∀p,H p=none->Q (.ref p) (upd H p (.lst (qi xs lo hi)))
theorem JA:Hu X (MG X.K) :=by
 intro pins s σ H x v vl vu lo hi sl Q I rx hs pl pu h;obtain⟨a,xs,rfl,hx,q⟩:=h;cases rx;obtain⟨its,r,ht,hz⟩:=I.list hx;have hlen:=r.length;refine⟨"list",_,slot_list_getitem.lookup,ht.isList.typeIs,?_⟩
 refine wpAny_getItem_list_slice ht.isList hs pl pu .none (by simp) ?_ (by rw[ii]<;>omega)
 rw[vo,<- hlen];refine⟨.ref s.heap.objs.size,_,I.laid (t':=s.toks) (o:=.lst (qi xs lo hi)) (fun b ob q=>cb _ q) (c8 _) ?_,rfl,q _ (I.hok.fresh (c8 _))⟩
 exact⟨wr (yy xs lo hi) hz,_,0,(r.drop (HT.fF xs.length 0 lo)).take (HT.fF xs.length xs.length hi - HT.fF xs.length 0 lo),ff _ rfl⟩
def kY:V->Bool
 | .au=>true
 | .bl _=>true
 | .int _=>true
 | .str _=>true
 |_=>false
def rE:V->V->Bool
 | .au,.au=>true
 | .bl a,.bl b=>a==b
 | .bl a,.int b=>(if a then 1 else 0)==b
 | .int a,.bl b=>a==(if b then 1 else 0)
 | .int a,.int b=>a==b
 | .str a,.str b=>a==b
 |_,_=>false
theorem MH {A:rb}{s:ba}{y x:V}{u v:al}(ry:RelV y u) (rx:RelV x v) (fy:kY y=true) (fx:kY x=true):l4 A s u v (rE y x) :=by
 cases y with
 |au=>
  cases ry;cases x with
  |au=>cases rx;exact YM _
  |bl b=>cases rx;exact l4.none_bool b
  |int b=>obtain⟨t,rfl⟩:=rx;exact l4.none_int b t
  |str b=>obtain⟨t,rfl⟩:=rx;exact l4.none_str b t
  |_=>exact absurd (show false=true from fx) im
 |bl a=>
  cases ry;cases x with
  |au=>cases rx;exact l4.bool_none a
  |bl b=>cases rx;exact l4.bool_bool a b
  |int b=>obtain⟨t,rfl⟩:=rx;exact l4.bool_int a b t
  |str b=>obtain⟨t,rfl⟩:=rx;exact l4.bool_str a b t
  |_=>exact absurd (show false=true from fx) im
 |int a=>
  obtain⟨t',rfl⟩:=ry;cases x with
  |au=>cases rx;exact l4.int_none a t'
  |bl b=>cases rx;exact l4.int_bool a t' b
  |int b=>obtain⟨t,rfl⟩:=rx;exact Zf a t' b t
  |str b=>obtain⟨t,rfl⟩:=rx;exact Y8 a t' b t
  |_=>exact absurd (show false=true from fx) im
 |str a=>
  obtain⟨t',rfl⟩:=ry;cases x with
  |au=>cases rx;exact l4.str_none a t'
  |bl b=>cases rx;exact l4.str_bool a t' b
  |int b=>obtain⟨t,rfl⟩:=rx;exact Za a t' b t
  |str b=>obtain⟨t,rfl⟩:=rx;exact l4.str_str a t' b t
  |_=>exact absurd (show false=true from fx) im
 |_=>exact absurd (show false=true from fy) im
def rF (x:V) (u:al):Bool:=match u with
 | .none=>rE .au x
 | .bool b=>rE (.bl b) x
 | .int i _=>rE (.int i) x
 | .str z _=>rE (.str z) x
 |_=>false
theorem Ck {x y:V}{u:al}(r:RelV y u) (f:kY y=true):rF x u=rE y x :=by
 cases y with
 |au=>cases r;rfl
 |bl b=>cases r;rfl
 |int i=>obtain⟨t,rfl⟩:=r;rfl
 |str z=>obtain⟨t,rfl⟩:=r;rfl
 |_=>exact absurd (show false=true from f) im
theorem tm {x:V}:∀{xs:List V}{us:List al},Vals xs us->xs.all kY=true->us.any (rF x)=xs.any fun y=>rE y x
 |_,_,.nil,_=>rfl
 |y::xs,u::us,.cons r t,f=>by
          rw[Ys,EO]at f;rw[XU,XU,Ck r f.1,tm t f.2]
theorem qj {A:rb}{s:ba}{x:V}{v:al}(rx:RelV x v) (fx:kY x=true):∀{xs:List V}{us:List al},Vals xs us->xs.all kY=true->∀u∈us,l4 A s u v (rF x u)
 |_,_,.nil,_=>fun u hu=>by cases hu
 |y::xs,u::us,.cons r t,f=>fun u' hu=>by
          rw[Ys,EO]at f;rcases kw.mp hu with rfl|hu
          ·rw[Ck r f.1];exact MH r rx f.1 fx
          ·exact qj rx fx t f.2 u' hu
def Cm (x:V) (xs:List V):Bool:=xs.any fun y=>rE y x
def MI (K:bi) (neg:Bool):R2:=fun x y H Q=>∃p xs,y=.ref p/\(bo K H p xs\/cw K H p xs)/\kY x=true/\xs.all kY=true/\Q (.bl (if neg then !Cm x xs else Cm x xs)) H
theorem Cp:OpR X (compareOp .In) (MI X.K false) :=by
 intro pins s σ H x y v u Q I rx ry h;obtain⟨p,xs,rfl,hq,fx,fs,q⟩:=h;cases ry;rcases hq with hq|hq
 ·obtain⟨its,r,pl,hz⟩:=I.list hq;refine SeqAt.in_listAt (rF x) pl.isList (fun w hw=>qj rx fx r fs w (by simpa using hw)) ⟨.bl _,H,I,rfl,?_⟩
  rw[show its.toArray.any (rF x)=its.any (rF x) by simp,tm r fs]
  exact q
 ·obtain⟨its,r,pl,hz⟩:=I.tuple hq;refine SeqAt.in_tupleAt (rF x) pl (fun w hw=>qj rx fx r fs w (by simpa using hw)) ⟨.bl _,H,I,rfl,?_⟩
  rw[show its.toArray.any (rF x)=its.any (rF x) by simp,tm r fs]
  exact q
theorem vp:cV X (.type "tuple") (fun xs H Q=>∃p ys,xs=[.ref p]/\((bo X.K H p ys/\∀l,H l=none->Q (.ref l) (upd H l (.tup ys)))\/(cw X.K H p ys/\Q (.ref p) H))) :=by
 intro pins s σ H xs us Q I r h;obtain⟨p,ys,rfl,h⟩:=h;obtain⟨u,rfl,rx⟩:=vals1 r;cases rx;rcases h with ⟨hq,q⟩|⟨hq,q⟩
 ·obtain⟨its,r',pl,hz⟩:=I.list hq;have hlen:=r'.length;refine call_tuple_list pl.isList (fun h' kp=>?_) (by simp only[ii]<;>omega)
  have I1:Inv X pins σ H {s with heap:=h'}:=I.kept (t':=s.toks) kp
  have I2:Inv X pins σ (upd H h'.objs.size (.tup ys)) {s with heap:=h'.push {cls:=.type "tuple",data:=.seq its.toArray}}:=
   I1.laid (t':=s.toks) (fun b o e=>cb _ e) (c8 _) (show ObjOk X.prog X.w _ _ _ (.tup ys) from ⟨hz,its,r',jW.new _ _⟩)
  exact⟨.ref h'.objs.size,_,I2,rfl,q _ (I1.hok.fresh (c8 _))⟩
 ·obtain⟨its,r',pl,hz⟩:=I.tuple hq;exact call_tuple_same pl ⟨.ref p,H,I,rfl,q⟩
def MJ (K:bi) (T:String) (x:V) (H:Hp):Prop:=match x with
 | .str _=>T = "str"
 | .int _=>T = "int"
 | .ref p=>(T = "list" /\ ∃xs,bo K H p xs)\/(T = "tuple" /\ ((∃o,K.lookup p=some o/\o.cls=.type "tuple" /\ o.dict=none)\/∃xs,H p=some (.tup xs))) \/
   (T = "dict" /\ ((∃ak,H p=some (.dK ak))\/∃ak,H p=some (.dT ak)))\/(T = "set" /\ ∃S n,H p=some (.set S n))
 |_=>False
theorem MK {pins:List (ac×li)}{σ:St}{H:Hp}{s:ba}{T:String}{x:V}{v:al}(I:Inv X pins σ H s) (r:RelV x v) (ty:MJ X.K T x H) :
  s.TypeIs v T/\∀a,v=.ref a->∃ob,s.heap.get? a=some ob/\ob.dict=none :=by
 cases x with
 |str z=>
  obtain⟨t,rfl⟩:=r;cases (show T = "str" from ty)
  exact⟨typeIs_str s z t,fun _ e=>nomatch e⟩
 |int i=>
  obtain⟨t,rfl⟩:=r;cases (show T = "int" from ty)
  exact⟨PP s i t,fun _ e=>nomatch e⟩
 |ref p=>
  cases r;rcases ty with ⟨rfl,xs,hq⟩|⟨rfl,⟨o,hk,hc,hd⟩|⟨xs,hk⟩⟩|⟨rfl,hk⟩|⟨rfl,S,n,hk⟩
  ·obtain⟨its,_,pl,_⟩:=I.list hq;refine⟨pl.isList.typeIs,fun a e=>?_⟩
   cases e;obtain⟨o,n,e,c,hd,_⟩:=pl;exact⟨o,e,hd⟩
  ·refine⟨⟨o,I.fB p o hk,hc⟩,fun a e=>?_⟩
   cases e;exact⟨o,I.fB _ o hk,hd⟩
  ·obtain⟨_,its,_,o,e,c,n,d,hd⟩:=I.hok p _ hk;refine⟨⟨o,e,c⟩,fun a e2=>?_⟩
   cases e2;exact⟨o,e,hd⟩
  ·have z:∃o,s.heap.get? p=some o/\o.ExactDict :=by
    rcases hk with ⟨ak,hk⟩|⟨ak,hk⟩
    ·obtain⟨_,_,_,_,o,_,_,e,ex,_⟩:=I.hok p _ hk;exact⟨o,e,ex⟩
    ·obtain⟨_,_,_,_,o,_,_,e,ex,_⟩:=I.hok p _ hk;exact⟨o,e,ex⟩
   obtain⟨o,e,ex⟩:=z;refine⟨⟨o,e,ex.1⟩,fun a e2=>?_⟩
   cases e2;exact⟨o,e,ex.2.1⟩
  ·obtain⟨o,_,_,_,e,ex,_⟩:=I.hok p _ hk;refine⟨⟨o,e,ex.1⟩,fun a e2=>?_⟩
   cases e2;exact⟨o,e,ex.2.1⟩
 |_=>exact GT ty
def Sg (K:bi) (T:String) (r:V->List V->Hp->VK->Prop) (to:TE) (t:TA):TE:=fun σ H Q=>to σ H fun x H1=>MJ K T x H1/\t σ H1 fun xs H2=>r x xs H2 Q
variable {o e:db}{es:List db}{to:TE}{t:TA}{name:bn}{apos bD:wE}{T id:String}{r:V->List V->Hp->VK->Prop}
theorem QY (pa:PlainAttrs T) (slot:Slot T name id) (Cq:typeOf (.builtin id)=pure (.type "method_descriptor")) (hm:Hv X id r) (ho:PE X o to) (ha:PA X (e::es) t)
  (rG:attributeBase o name X.env (eval o X.env)=eval o X.env :=by rfl)
  (wa:((backTo bD (starEach (e::es) X.env)).all (fun x => !x.1) && (backToKw bD (keywordEach [] X.env)).all (fun x=>x.1.isSome)
   && decide ((e::es).length+([]:List Yf).length+(if ([]:List Yf).isEmpty then 0 else 1)<30))=true :=by rfl)
  (hline:(apos.endLine==bD.line)=true :=by rfl) (hs:starEach (e::es) X.env=(false,eval e X.env)::starEach es X.env :=by rfl) (nK:(backTo bD (starEach es X.env)).any (·.1)=false :=by rfl) :
  PE X (.Call (.Attribute o name apos) (e::es) [] bD) (Sg X.K T r to t) :=by
 refine⟨?_⟩;intro pins s σ H Q I h;refine wpAny_Call_method_late rG wa hline rfl (thn (ho pins s σ H _ I h) fun v s1 ⟨x,H1,I1,r1,ty,q1⟩=>?_)
 obtain⟨h1,h2⟩:=MK I1 r1 ty;refine⟨T,id,pa,slot,Cq,h1,h2,?_⟩;have hA:=ha bD pins s1 σ H1 _ I1 q1;rw[hs]at hA ⊢;refine Calls.callWith_builtin (by show (false || (backTo bD (starEach es X.env)).any (·.1))=false;rw[nK]<;>rfl) (Calls.evalArgs_plain ?_)
 exact thn hA fun us s2 ⟨vs,H2,I2,r2,q2⟩=>hm pins s2 σ H2 x vs v us Q I2 r1 r2 q2
end
def ML (X:Cx) (id:String) (r:V->List V->Hp->VK->Prop):Prop:=
 ∀(pins:List (ac×li)) (s:ba) (σ:St) (H:Hp) (x:V) (xs:List V) (v:al) (us:List al) (Q:VK),Inv X pins σ H s->RelV x v->Vals xs us->r x xs H Q->
  wpAny (model X.prog X.w) X.A (call (.builtin id) (v::us)) (EP X pins σ Q) X.xe s
theorem Vals.one:∀{x:V}{us:List al},Vals [x] us->∃u,us=[u]/\RelV x u
 |_,_,.cons r .nil=>⟨_,rfl,r⟩
theorem Vals.eraseIdx:∀{xs:List V}{us:List al}(i:Nat),Vals xs us->Vals (xs.eraseIdx i) (us.eraseIdx i)
 |_,_,_,.nil=>.nil
 |_,_,0,.cons _ t=>t
 |_,_,i+1,.cons r t=>.cons r (Vals.eraseIdx i t)
theorem Vals.rep {xs:List V}{us:List al}(h:Vals xs us):∀k:Nat,Vals (io k xs).flatten (io k us).flatten
 |0=>.nil
 |k+1=>by
          rw[ze,ze,JJ,JJ];exact Vals.append h (Vals.rep h k)
theorem uw {α:Type}:∀(l:List α) (i:Nat),(l.eraseIdx i).length<=l.length
 | [],_=>c8 _
 |_::_,0=>LF _
 |_::r,i+1=>Nat.succ_le_succ (uw r i)
theorem foldl_rep (its:List al):∀(k:Nat) (acc:List al),
  ZB (fun x1 x2=>x1++x2) acc.toArray (io k its.toArray)=(acc++(io k its).flatten).toArray
 |0,acc=>by simp
 |k+1,acc=>by
          have e:acc.toArray++its.toArray=(acc++its).toArray :=by simp
          have e2:(acc++its)++(io k its).flatten=acc++(io (k+1) its).flatten :=by
           rw[ze,JJ,On]
          rw[<- e2,<- foldl_rep its k (acc++its),<- e,ze,YN]
section
variable {X:Cx}{pins:List (ac×li)}{σ:St}{H:Hp}{s:ba}{l b:ac}{xs ys zs:List V}
theorem Inv.Fq {its its':List al}{n:Nat}{f:Array al->Array al}{t':Nat}(I:Inv X pins σ H s) (hH:H l=some (.lst xs))
  (e:s.heap.get? l=some {cls:=.type "list",data:=.seq its.toArray n}) (hf:f its.toArray=its'.toArray) (hv:Vals ys its') (hz:ys.length<=sizeLine) :
  Inv X pins σ (upd H l (.lst ys)) {s with heap:=s.heap.update l (FS f),toks:=t'}:=by
 have q:=PySem.IsL.update e f;rw[hf]at q;refine I.write (x:=l) (e:=l) (by rw[hH];exact trivial) (.inl rfl) (fun b' u hb hu=>(wT s.heap (FS f) (AN hb)).trans hu) ⟨_,q⟩ ?_
 exact⟨hz,its',_,hv,q⟩
theorem Inv.MM {its:List al}{t':Nat}(I:Inv X pins σ H s) (hv:Vals ys its) (hz:ys.length<=sizeLine) :
  Inv X pins σ (upd H s.heap.objs.size (.lst ys)) {s with heap:=s.heap.push {cls:=.type "list",data:=.seq its.toArray},toks:=t'}:=
 I.laid (fun _ _ q=>cb _ q) (c8 _) ⟨hz,its,0,hv,ff _ rfl⟩
theorem Inv.fresh (I:Inv X pins σ H s):H s.heap.objs.size=none:=I.hok.fresh (c8 _)
theorem Inv.qk (I:Inv X pins σ H s) (hH:H l=some (.lst xs)):xs.length<=sizeLine/\∃(its:List al) (n:Nat),Vals xs its/\xs.length=its.length/\s.heap.get? l=some {cls:=.type "list",data:=.seq its.toArray n}:=by
 obtain⟨z,its,n,r,e⟩:=I.hok l _ hH;exact⟨z,its,n,r,r.length,e⟩
theorem wc {n:Nat}(h:n<=sizeLine):So n=false :=by
 unfold So;exact decide_eq_false (by omega)
end
section
variable {X:Cx}
def JB:V->List V->Hp->VK->Prop:=fun x vs H Q=>∃l xs y,x=.ref l/\vs=[y]/\H l=some (.lst xs)/\xs.length<sizeLine/\Q .au (upd H l (.lst (xs++[y])))
theorem ux:ML X "list.append" JB :=by
 intro pins s σ H x vs v us Q I rx rv h;obtain⟨l,xs,y,rfl,rfl,hH,hz,q⟩:=h;cases rx;obtain⟨u,rfl,ru⟩:=rv.one;obtain⟨z,its,n,r,hl,e⟩:=I.qk hH;refine P3 F.slot_list_append ⟨_,e,rfl⟩ F.entry_list_append (F.args_list_append_2 _ _) (PySem.list_append l its.toArray n u (by rw[ii];omega)) ⟨e,?_⟩
 refine⟨.au,_,I.Fq (its':=its++[u]) hH e (by simp) (r.append (.cons ru .nil)) ?_,rfl,q⟩
 rw[wb,Na];omega
def JC:V->List V->Hp->VK->Prop:=fun x vs H Q=>∃l b xs zs,x=.ref l/\vs=[.ref b]/\H l=some (.lst xs)/\H b=some (.lst zs)/\xs.length+zs.length<=sizeLine/\Q .au (upd H l (.lst (xs++zs)))
theorem Sh:ML X "list.extend" JC :=by
 intro pins s σ H x vs v us Q I rx rv h;obtain⟨l,b,xs,zs,rfl,rfl,hH,hB,hz,q⟩:=h;cases rx;obtain⟨u,rfl,ru⟩:=rv.one;cases ru;obtain⟨z,its,n,r,hl,e⟩:=I.qk hH;obtain⟨z2,cO,n2,r2,iB,e2⟩:=I.qk hB;have hsz:its.toArray.size+cO.toArray.size<=sizeLine :=by rw[ii,ii];omega
 have Au:¬ (!its.toArray.isEmpty && So (its.toArray.size+cO.toArray.size))=true :=by
  rw[wc hsz,Bool.and_false];exact im
 refine P3 F.slot_list_extend ⟨_,e,rfl⟩ F.entry_list_extend (F.args_list_extend_2 _ _)
  (AutoSeq1.list_extend_list_list_0 l its.toArray n b cO.toArray n2 Au (by rw[ii];omega) (by omega)) ⟨e,e2,?_⟩
 refine⟨.au,_,I.Fq (its':=its++cO) hH e (by simp) (r.append r2) ?_,rfl,q⟩
 rw[wb];omega
def MN:V->List V->Hp->VK->Prop:=fun x vs H Q=>∃l xs i k y,x=.ref l/\vs=[.int i]/\H l=some (.lst xs) /\ -(2 ^ 63)<=i/\i<2 ^ 63/\seqIndex? i xs.length=some k/\xs[k]?=some y/\Q y (upd H l (.lst (xs.eraseIdx k)))
theorem Fs:ML X "list.pop" MN :=by
 intro pins s σ H x vs v us Q I rx rv h;obtain⟨l,xs,i,k,y,rfl,rfl,hH,h1,h2,hk,hy,q⟩:=h;cases rx;obtain⟨u,rfl,ru⟩:=rv.one;obtain⟨t,rfl⟩:=ru;obtain⟨z,its,n,r,hl,e⟩:=I.qk hH;obtain⟨w,hw,jY⟩:=r.get hy;refine P3 F.slot_list_pop ⟨_,e,rfl⟩ F.entry_list_pop (F.args_list_pop_2 _ _)
  (MeetsSeq.list_pop_at l its.toArray n i t k w (fitsIndex_both h1 h2) (by rw[ii,<- hl];exact hk) (by rw[<- WI];exact hw) (by rw[ii];omega)) ⟨e,?_⟩
 refine⟨y,_,I.Fq (its':=its.eraseIdx k) hH e ?_ (r.eraseIdx k) ?_,jY,q⟩
 ·show its.toArray.eraseIdxIfInBounds k=(its.eraseIdx k).toArray;rw[List.eraseIdxIfInBounds_toArray]
 ·have:=uw xs k;omega
def T6:R2:=fun x y H Q=>∃l b xs zs,x=.ref l/\y=.ref b/\H l=some (.lst xs)/\H b=some (.lst zs)/\xs.length+zs.length<=sizeLine/\∀p,H p=none->Q (.ref p) (upd H p (.lst (xs++zs)))
theorem MO:OpR X (binaryOp .Add) T6 :=by
 intro pins s σ H x y v u Q I rx ry h;obtain⟨l,b,xs,zs,rfl,rfl,hH,hB,hz,q⟩:=h;cases rx;cases ry;obtain⟨z,its,n,r,hl,e⟩:=I.qk hH;obtain⟨z2,cO,n2,r2,iB,e2⟩:=I.qk hB;refine PySem.P.add_list e e2 ?_ (by rw[ii,ii];omega)
 have ea:its.toArray++cO.toArray=(its++cO).toArray :=by simp
 rw[ea];exact⟨.ref _,_,I.MM (t':=s.toks) (r.append r2) (by rw[wb];omega),rfl,q _ I.fresh⟩
def T7:R2:=fun x y H Q=>∃l k xs,x=.ref l/\y=.int k/\H l=some (.lst xs) /\ -(2 ^ 63)<=k/\k<2 ^ 63/\xs.length * k.toNat<=sizeLine /\
 ∀p,H p=none->Q (.ref p) (upd H p (.lst (io k.toNat xs).flatten))
theorem len_rep {α:Type}(xs:List α) (k:Nat):(io k xs).flatten.length=k * xs.length :=by
 induction k with
 |zero=>simp
 |succ k ih=>rw[ze,JJ,wb,ih,Nat.succ_mul,Nat.add_comm]
theorem MP:OpR X (binaryOp .Mult) T7 :=by
 intro pins s σ H x y v u Q I rx ry h;obtain⟨l,k,xs,rfl,rfl,hH,h1,h2,hz,q⟩:=h;cases rx;obtain⟨t,rfl⟩:=ry;obtain⟨z,its,n,r,hl,e⟩:=I.qk hH;have hlen:its.toArray.size * k.toNat<=sizeLine :=by rw[ii,<- hl];exact hz
 have T8:¬ its.toArray.size * k.toNat > (2 ^ 63 - 1) / 8 :=by
  have:(sizeLine:Nat)<=(2 ^ 63 - 1) / 8 :=by decide
  omega
 have T9:¬ (!Builtin.List.listFitsIndex k)=true :=by
  rw[fitsIndex_both h1 h2];exact im
 have Au:¬ So (its.toArray.size * k.toNat)=true :=by
  rw[wc hlen];exact im
 have Ua:ZB (fun x1 x2=>x1++x2) #[] (io (if its.toArray.isEmpty=true then 0 else k.toNat) its.toArray)=(io k.toNat its).flatten.toArray :=by
  have f0:∀m:Nat,ZB (fun x1 x2=>x1++x2) #[] (io m its.toArray)=(io m its).flatten.toArray:=fun m=>by
   have:=foldl_rep its m [];rw[LB]at this;exact this
  rw[f0];cases its with
  |nil=>simp
  |cons a r'=>rw[if_neg (by simp)]
 refine XZ (T := "list") (U := "int") (by decide) ⟨_,e,rfl⟩ (fun s'=>PP s' k t) noFill_list_mul ZT T0 repeat_list ZI.lookup
  (P3 T0 (PP s k t) ZJ (Zv _ _) (int___rmul___int_list k t l its.toArray n)
   ⟨e,rfl,⟨_,e,rfl⟩,P3 F.slot_list_mul ⟨_,e,rfl⟩ F.entry_list_mul (F.args_list_mul_2 _ _) (AutoListH.list___mul___list_int_3 l its.toArray n k t T9 T8 Au) ⟨e,?_⟩⟩)
 rw[Ua];exact⟨.ref _,_,I.MM (t':=s.toks) (r.rep k.toNat) (by rw[len_rep,Nat.mul_comm];exact hz),rfl,q _ I.fresh⟩
end
end L2
namespace Si
open PySem PySem.W PySem.Calls PyProof.Rows
theorem rH {P:Z6}{h:hX}:∀(ns:List Int) (vs:List al),WellAll P h vs (ns.map WData.int)->WJ vs ns :=by
 intro ns;induction ns with
 |nil=>
  intro vs w;rw[SB]at w;cases w;exact .nil
 |cons n ns ih=>
  intro vs w;rw[ss]at w;cases w with
  |cons a b=>
   cases a;exact .cons _ _ (ih _ b)
theorem Cr {l:OpenLaw}{n:Nat}(hn:l.most=some n) {P:Z6}{h:hX}{args:List WData}{vals:List al}
  (Av:l.row.toRowW.claim.pre args=true) (Hw:WellAll P h vals args) :
  ∃a vs ns,vals=[l5 a]/\args=[WData.list (ns.map WData.int)]/\h.get? a=some {cls:=.type "list",data:=.seq vs.toArray}/\WJ vs ns/\ns.length<=n :=by
 have Va:WShape.hasAll [] args [.list .int]=true:=(pre_splitW Av).1;have hc:l.pre.holds [] {args:=args}=true:=(pre_splitW Av).2;obtain⟨d,r,rfl,h1,h2⟩:=hasAllW_cons Va;obtain rfl:=hasAllW_nil h2;obtain⟨xs,rfl,h3⟩:=hasW_list h1;obtain⟨ns,rfl⟩:=items_int h3;have hlen:ns.length<=n :=by
  unfold OpenLaw.pre at hc;have h4:(WTm.not (.lt (.lit (.int (n:Int))) (.len (.arg 0)))).holds [] {args:=[.list (ns.map .int)]}=true :=by
   have h4:=(holds_andW hc).1;rw[hn]at h4;exact h4
  have h5:=condW_of h4 (w_not (w_lt w_lit (w_len_list (w_arg rfl))));rw[ci]at h5;refine Yw fun q=>?_
  have q':(n:Int)<((ns.length:Nat):Int) :=by omega
  first
   |(rw[decide_eq_true q']at h5;exact absurd h5 (by decide))
   |(simp at h5;omega)
 cases Hw with
 |cons w1 w2=>
  cases w2;cases w1 with
  |list ho Ft=>exact⟨_,_,ns,rfl,rfl,ho,rH ns _ Ft,hlen⟩
theorem Ct (l:OpenLaw) (args:List WData):l.row.toRowW.claim.post args (.bool true) args=true:=
 postW_of (r:=l.row.toRowW) (X:=(true==true))
  (show WShape.has [] (.bool true) .bool=true by first|rfl|decide|simp[WShape.has,WShape.arms,WShape.armsAll])
  (show (WTm.eq .res (.lit (.bool true))).value [] {args:=args,res:=some (.bool true),after:=args}=some (.bool (true==true)) from w_eq_bool (w_res rfl) w_lit) rfl
theorem yz {l:OpenLaw}{n:Nat}{q:gc}{loose:List bn}{XP:(bn->Option al)->hX->Prop}{YP:i4->hX->Prop}{d:DefRec}
  (hn:l.most=some n) (Cu:d.params.defaults=[])
  (call:∀(w:i4) (s₀ aC:ba) (mg mb:bn->Option al) (fa:ac) (o:li) (pm cd doc:al) (a:ac) (vs:List al) (ns:List Int),
   Ground q loose [] XP w s₀ mg mb aC.heap->YP w aC.heap->
   aC.heap.get? fa=some o->o.data=.func (docDef d.name d.params d.body d.scope pm cd doc)->aC.heap.CodeRec cd d.name->mg d.name=some (.ref fa)->
   aC.heap.get? a=some {cls:=.type "list",data:=.seq vs.toArray}->WJ vs ns->ns.length<=n->aC.gens=#[]->
   codeAny (model l.prog w) callerA (.call (.ref fa) ⟨[.ref a],[]⟩) (fun r s'=>r=.ok (.ret (.bool true))/\OldK aC.heap s'.heap/\s'.os=aC.os/\Z0 s'.gens) aC) :
  WalkO q loose XP YP l.row.toRowW d [] (fun f vs=>Z1 f vs) :=by
 intro w s₀ aC mg mb G Y fa o pm cd doc dV kV ho hd d7 hD Cv hg args vals as Av Xi Xo Hw Xp;obtain rfl:dV=.none:=Dflts.none hD Cu;obtain rfl:kV=.none:=Dflts.noKw hD;obtain⟨a,vs,ns,rfl,rfl,Fu,hints,hlen⟩:=Cr hn Av Hw;refine enter_call (ZF (call w s₀ aC mg mb fa o pm cd doc a vs ns G Y ho (fd_plain hd) d7 Cv Fu hints hlen hg) fun r s' hq=>?_)
 obtain⟨rfl,h2,h3,h4⟩:=hq;exact⟨.inl ⟨.bool true,.bool true,[],rfl,fun _=>rfl,.bool true,Ct l _,fun _=>⟨List.Pairwise.nil,fun _ hm=>(nomatch hm)⟩⟩,h2,h3,h4⟩
end Si
namespace L2
open PySem PySem.Spec PyProof.Rows
theorem uy:∀{vs:List al}{ns:List Int},WJ vs ns->Vals (ns.map V.int) vs
 |_,_,.nil=>.nil
 |_,_,.cons n t h=>.cons ⟨t,rfl⟩ (uy h)
def dh (s:tw):OL:=match s with
 | .FunctionDef _ a _ _ _ _ _ _ _ _=>a
 |_=>{posonlyargs:=[],args:=[],vararg:=none,kwonlyargs:=[],kw_defaults:=[],kwarg:=none,defaults:=[]}
def bJ (s:tw):List tw:=match s with
 | .FunctionDef _ _ b _ _ _ _ _ _ _=>b
 |_=>[]
def ai (s:tw):wp:=match s with
 | .FunctionDef _ _ _ _ _ _ sc _ _ _=>sc
 |_=>{kind:=.function,names:=[],isGenerator:=false,isCoroutine:=false}
abbrev bf:gS:=fun _ _ _ _ _ _=>False
abbrev E0:XK:=fun _ _ _=>False
theorem bA {X:Cx}:Passes bf X E0:=fun _ _ _ _ _ _ _ h=>h.elim
structure uz (K:bi) (x qual:bn) (st:tw) (f:ac) (fd:l8):Prop where
 ex:∃(oc:al) (od:Option ac) (kV doc pm:al) (an:Option ac) (cT ct:al) (gr:Array (Option al)),
  fd=B0 x qual (dh st) (bJ st) (ai st) .none kV doc pm an cT ct/\K.lookup f=some ⟨oc,od,.func fd,gr⟩/\MW K cT qual=true
 kp:EU K (.ref f)=true
section
variable {P:gc}{w:i4}{K:bi}{mg:bn->Option al}{base:hX}
theorem uz.binds {x qual:bn}{st:tw}{f:ac}{fd:l8}{ps:List bn}(F:uz K x qual st f fd)
  (h:∀(kV doc pm:al) (an:Option ac) (cT ct:al) (us:List al),us.length=ps.length->bindArgs (B0 x qual (dh st) (bJ st) (ai st) .none kV doc pm an cT ct) ⟨us,[]⟩=pure (ps.zip us)):Binds K fd ps [] :=by
 obtain⟨oc,od,kV,doc,pm,an,cT,ct,gr,rfl,lk,d7⟩:=F.ex;exact .all (h kV doc pm an cT ct)
theorem MQ {x qual:bn}{st:tw}{f:ac}{oc:al}{od an:Option ac}{gr:Array (Option al)}{kV doc pm cT ct:al}(l:K.lookup f=some ⟨oc,od,.func (B0 x qual (dh st) (bJ st) (ai st) .none kV doc pm an cT ct),gr⟩)
  (c:MW K cT qual=true) (k:EU K (.ref f)=true):uz K x qual st f (B0 x qual (dh st) (bJ st) (ai st) .none kV doc pm an cT ct):=⟨⟨oc,od,kV,doc,pm,an,cT,ct,gr,rfl,l,c⟩,k⟩
end
section
variable {X:Cx}
theorem pv (i:Nat) {x:bn}{pos:wE}(hN:X.N[i]?=some x :=by rfl) (hv:pP X.env.scope x :=by first|exact mT rfl|exact FF (mT rfl)|exact FF (FF rfl)) (hd:(x==("__debug__" : bn))=false :=by decide)
  (d7:(x==("__classdict__" : bn))=false :=by decide):PE X (.Name x pos) (LA i):=vV hN hv hd d7
end
end L2
set_option maxHeartbeats 4000000
namespace L2
open PySem PySem.Spec PyProof.Rows
theorem mL {env:Mn}:∀(names:List (bn×Sm)) (acc:List (bn×ac)),(∀n,(n,v6)∈names->∃c,env.cells.lookup n=some c)->
  (∀n c,acc.lookup n=some c->env.cells.lookup n=some c)->
  ∃cl,(forIn names acc fun x r=>if (x.2==v6)=true then (do let a <- cellOf env x.1;pure (YO ((x.1,a)::r))) else pure (YO r):YD (List (bn×ac)))=pure cl /\
   (∀n c,cl.lookup n=some c->env.cells.lookup n=some c)/\(∀n,(n,v6)∈names->∃c,cl.lookup n=some c)/\(∀n c,acc.lookup n=some c->∃c',cl.lookup n=some c')
 | [],acc,_,h2=>⟨acc,rfl,h2,fun n h=>by simp at h,fun n c h=>⟨c,h⟩⟩
 |(n,k)::r,acc,h1,h2=>by
          rw[X0];cases hk:(k==v6) with
          |true=>
           have ek:k=v6 :=by simpa using hk
           subst ek;obtain⟨c,hc⟩:=h1 n ma;have e1:cellOf env n=pure c :=by unfold cellOf;rw[hc]
           obtain⟨cl,e,a1,a2,a3⟩:=mL r ((n,c)::acc) (fun m hm=>h1 m (i0 _ hm)) (fun m c' hm=>by
            rw[EQ]at hm;cases hb:m==n with
            |true=>
             rw[hb]at hm;have e2:m=n :=by simpa using hb
             rw[e2,hc];exact hm
            |false=>rw[hb]at hm;exact h2 m c' hm)
           refine⟨cl,?_,a1,fun m hm=>?_,fun m c' hm=>?_⟩
           ·simp only[if_true,e1];exact e
           ·rcases kw.mp hm with z|z
            ·cases z;exact a3 n c (by rw[EQ];simp)
            ·exact a2 m z
           ·by_cases hb:m=n
            ·subst hb;exact a3 m c (by rw[EQ];simp)
            ·exact a3 m c' (by
              rw[EQ];have:(m==n)=false :=by simpa using hb
              rw[this];exact hm)
          |false=>
           obtain⟨cl,e,a1,a2,a3⟩:=mL r acc (fun m hm=>h1 m (i0 _ hm)) h2
           refine⟨cl,?_,a1,fun m hm=>?_,a3⟩
           ·simp only[l6,if_false];exact e
           ·rcases kw.mp hm with z|z
            ·cases z;simp at hk
            ·exact a2 m z
theorem fR {scope:wp}{env:Mn}(h:∀n,(n,v6)∈scope.names->∃c,env.cells.lookup n=some c) :
  ∃cl,closureFor scope env=pure cl/\(∀n c,cl.lookup n=some c->env.cells.lookup n=some c)/\(∀n,(n,v6)∈scope.names->∃c,cl.lookup n=some c) :=by
 obtain⟨cl,e,a1,a2,_⟩:=mL (env:=env) scope.names [] h (fun n c hn=>by simp at hn)
 refine⟨cl,?_,a1,a2⟩;simp only[closureFor];rw[e];rfl
def cxBlock (X:Cx) (N':List bn) (env':Mn) (A':rb) (stack':List Mn) (s:ba) (H:Hp) (ex:List ac):Cx:=
 {X with N:=N',s₀:=s,H₀:=H,env:=env',A:=A',outer:=X.stack,stack:=stack',ex:=ex,fn:=fun _=>false,pn:=[],xe:=fun _ _=>False}
theorem uA {X:Cx}{pins:List (ac×li)}{σ aF:St}{H H':Hp}{s:ba}{N':List bn}{env':Mn}{A':rb}{stack':List Mn}{ex:List ac}{h1:hX}{m0:bn->Option al}{g':Array X7}{tk:Nat}
  (I:Inv X pins σ H s) (oX:env'.scope.kind=.function) (QZ:env'.globals=X.env.globals) (Ub:env'.builtins=X.env.builtins)
  (eY:∀n c,env'.cells.lookup n=some c->X.env.cells.lookup n=some c)
  (ql:∀x,(env'.kindOf x=some .cell\/env'.kindOf x=some .free)->∃c,env'.cells.lookup x=some c)
  (hh:X.calm=true->A'.handled=none) (Cw:A'.frames=some stack') (Uc:stack'=X.stack\/(stack'=env'::X.stack/\env'.frame=some env'.locals))
  (hC:s.heap.objs.size<=env'.locals) (hf:∀b∈ex,cH X pins H b) (Aw:∀b∈ex,b<s.heap.objs.size)
  (Cy:Un (d6 X.stack) ex H H' s.heap h1) (hok:cS X.prog X.w H' h1) (we:H' env'.locals=none) (rJ:∀b o,s.heap.get? b=some o->h1.get? b=some o) (d9:h1.Ns env'.locals m0)
  (wg:∀(i:Nat) (x:bn) (v:V),N'[i]?=some x->aF[i]?=some (some v)->pP env'.scope x->(env'.kindOf x=some .cell\/env'.kindOf x=some .free)/\pP X.env.scope x/\(X.env.kindOf x=some .cell\/X.env.kindOf x=some .free)/\∃j:Nat,X.N[j]?=some x/\σ[j]?=some (some v))
  (hlen:aF.length=N'.length) (hg:Gn s.gens.size g'):Inv (cxBlock X N' env' A' stack' s H ex) [] aF H' {s with heap:=h1,gens:=g',toks:=tk}:=by
 have Cz:∀b∈ex,∀x c,X.env.cells.lookup x=some c->c≠b:=fun b hb=>(hf b hb).2.2.2.2.1
 refine⟨⟨I.ok.mod,oX,QZ.trans I.ok.glob,Ub.trans I.ok.blt,hC,fun x y c a b=>I.ok.inj x y c (eY x c a) (eY y c b),ql,fun _ _ z=>(nomatch z),hh,Cw,Uc,fun b hb=>⟨l7 (l9 (Aw b hb) hC),fun x c e=>Cz b hb x c (eY x c e)⟩,
   I.bs,wr I.ok.bsz I.sz,fun b o e hb=>?_,fun b hb z=>?_,I.stack,I.lW⟩,rfl,hg,Cy,⟨m0,d9,fun i x v e1 e2 e3=>?_⟩,fun x c e=>?_,we,fun x c e=>?_,fun p hp=>absurd (show p∈([]:List (ac×li)) from hp) (by simp),hok,hlen⟩
 ·rcases (hf b hb).2.2.2.1 with z|z
  ·exact I.ok.noex b o e z
  ·exact absurd (l9 (ij e) (wr I.ok.bsz z)) (ET _)
 ·rcases kw.mp (I.gh b z) with q|q
  ·exact(hf b hb).2.1 q
  ·exact(hf b hb).2.2.1 q
 ·obtain⟨k1,vx,k2,j,n1,n2⟩:=wg i x v e1 e2 e3;obtain⟨m,hn,hl⟩:=I.loc;obtain⟨u,r,l⟩:=hl j x v n1 n2 vx;refine⟨u,r,.inr ⟨k1,?_⟩⟩;obtain⟨c',CA⟩:=ql x k1;rcases l with ⟨kl,_⟩|⟨_,c,ec,z⟩
  ·rcases k2 with q|q<;>(rw[kl]at q;cases q)
  ·have:c'=c:=i8 ((eY x c' CA).symm.trans ec);subst this;exact⟨c',CA,z.keeps rJ⟩
 ·obtain⟨v,z⟩:=I.cell x c (eY x c e);exact⟨v,z.keeps rJ⟩
 ·obtain⟨v,o,ho,hd⟩:=I.cell x c (eY x c e);exact Cy.free c o ho (I.freeC x c (eY x c e)) fun z=>Cz c z x c (eY x c e) rfl
theorem lookup_map2 {c:bn->Sm->Sm}:∀{names:List (bn×Sm)}{x:bn},(names.map fun (p:bn×Sm)=>(p.1,c p.1 p.2)).lookup x=(names.lookup x).map (c x)
 | [],x=>rfl
 |(n,k')::r,x=>by
          have ih:=@lookup_map2 c r x;rw[ss,EQ,EQ];cases hx:x==n with
          |true=>
           have e:x=n :=by simpa using hx
           subst e;rfl
          |false=>exact ih
theorem fG {scope:wp}{env:Mn}(x:bn):(relabel scope env).names.lookup x=(scope.names.lookup x).map fun k=>if (k==.free && env.scope.kind==.function && env.kindOf x==some .cell)=true then .cell else k :=by
 have e:(relabel scope env).names=scope.names.map fun p=>(p.1,(fun n k=>if (k==v6 && env.scope.kind==.function && env.kindOf n==some .cell)=true then Tk else k) p.1 p.2) :=by
  unfold relabel;dsimp only;congr 1
  funext p
  obtain⟨n,k⟩:=p;dsimp only;split<;>rfl
 rw[e];exact lookup_map2 (c:=fun n k=>if (k==v6 && env.scope.kind==.function && env.kindOf n==some .cell)=true then Tk else k)
def aH (N:List bn) (sc scope:wp) (N':List bn) (tn:Nat) (idx:List Nat):Prop:=
 scope.kind=.function/\(∀y∈scope.names,y.2≠.cell/\(y.2=.local->scope.names.lookup y.1=some .local)/\(y.2=.free->sc.names.lookup y.1=some .cell\/sc.names.lookup y.1=some .free)) /\
  N'.length=tn+idx.length/\∀p∈idx.zip (N'.drop tn),N[p.1]?=some p.2/\scope.names.lookup p.2=some .free
instance (N:List bn) (sc scope:wp) (N':List bn) (tn:Nat) (idx:List Nat):Decidable (aH N sc scope N' tn idx) :=by unfold aH;infer_instance
def bg (tn:Nat) (idx:List Nat) (σ:St):St:=io tn none++idx.map fun i=>(σ[i]?).join
theorem aH.at {N:List bn}{sc scope:wp}{N':List bn}{tn:Nat}{idx:List Nat}(B:aH N sc scope N' tn idx) {σ:St}{i:Nat}{x:bn}{v:V}(h1:N'[i]?=some x) (h2:(bg tn idx σ)[i]?=some (some v)) :
  scope.names.lookup x=some .free/\∃j:Nat,N[j]?=some x/\σ[j]?=some (some v) :=by
 obtain⟨_,_,b3,b4⟩:=B;unfold bg at h2;by_cases hi:i<tn
 ·rw[ut (by simpa using hi),BS,if_pos hi]at h2
  cases h2
 ·rw[wS (by simpa using hi),Fa,br]at h2
  cases e:idx[i - tn]? with
  |none=>rw[e]at h2;cases h2
  |some k=>
   rw[e]at h2;have h3:(σ[k]?).join=some v:=i8 h2;have e2:(N'.drop tn)[i - tn]?=some x :=by
    rw[Zg];have:tn+(i - tn)=i :=by omega
    rw[this];exact h1
   have m:(k,x)∈idx.zip (N'.drop tn) :=by
    refine dL (i:=i - tn) ?_;rw[zd];exact⟨e,e2⟩
   obtain⟨a,b⟩:=b4 _ m;refine⟨b,k,a,?_⟩;cases q:σ[k]? with
   |none=>rw[q]at h3;cases h3
   |some w=>rw[q]at h3;exact congrArg some h3
theorem aH.len {N:List bn}{sc scope:wp}{N':List bn}{tn:Nat}{idx:List Nat}(B:aH N sc scope N' tn idx) (σ:St):(bg tn idx σ).length=N'.length :=by
 rw[B.2.2.1];unfold bg;simp
section
variable {X:Cx}
def gT (X:Cx) (ifs:List db) (tt:TT):Prop:=
 ∀(pins:List (ac×li)) (s:ba) (σ:St) (H:Hp) (Q:Bool->Hp->Prop),Inv X pins σ H s->tt σ H Q->
  wpAny (model X.prog X.w) X.A (forIn ifs true fun c r=>if r=true then do let ok <- isTrue c X.env (eval c X.env);pure (YO ok) else pure (YO r)) (TP X pins σ Q) X.xe s
def Q0:TT:=fun _ H Q=>Q true H
theorem JD:gT X [] Q0:=fun _ _ _ H _ I h=>wpAny_tests_nil ⟨H,I,h⟩
theorem JE {c:db}{tc:TT}(h:PT X c tc):gT X [c] tc:=fun pins s σ H Q I q=>wpAny_tests_one (h pins s σ H Q I q)
abbrev y7 (X:Cx) (N':List bn) (scope:wp) (cl:List (bn×ac)) (C:ac) (s:ba) (H:Hp) (fp:List ac):Cx:=cxBlock X N' (compEnvC scope cl C X.env) X.A X.stack s H fp
abbrev Blk (X:Cx) (N':List bn) (scope:wp) (P:Cx->Prop):Prop:=∀(cl:List (bn×ac)) (C:ac) (s:ba) (H:Hp) (fp:List ac),P (y7 X N' scope cl C s H fp)
end
abbrev TB:=St->Hp->(St->Hp->Prop)->Prop
def PB (X:Cx) (b:YD Unit) (t:TB):Prop:=∀(pins:List (ac×li)) (s:ba) (σ:St) (H:Hp) (Q:St->Hp->Prop),Inv X pins σ H s->t σ H Q->wpAny (model X.prog X.w) X.A b (fun _ s'=>∃aF H',Inv X pins aF H' s'/\Q aF H') X.xe s
def vG (J:It) (g:TG) (tt:TT) (tb:TB) (QE:St->Hp->Prop) (W:Nat->Nat->St->Hp->Prop):Prop:=∀i m τ H,W i m τ H->
 (J.stop i H/\QE τ H)\/(J.go i H/\∀x H',J.yld i H x H'->g x τ H' fun aB H2=>tt aB H2 fun b H3=>if b=true then tb aB H3 fun Vb H4=>∃m',m'<m/\W (i+1) m' Vb H4 else ∃m',m'<m/\W (i+1) m' aB H3)
def Ax (e tg iter:db) (ifs:List db) (d:Nat) (it acc:al) (env:Mn) (body:YD Unit):YD Fin:=do
 standAt iter.pos
 match <- pyNext it with
 |none=>pure (.done .next)
 |some v=>
  letOwnedTupleGo tg it v
  assign tg env v
  let mut ok:=true
  for c in ifs do
   if ok then ok <- isTrue c env (eval c env)
  if ok then body
  again (.compLoop e d it acc env)
section
variable {Y:Cx}{e tg iter:db}{ifs:List db}{dp:Nat}{it:ac}{acc:al}{body:YD Unit}{fp:List ac}{bw:Nat->hX->Prop}{J:It}{g:TG}{tt:TT}{tb:TB}{QE:St->Hp->Prop}{W:Nat->Nat->St->Hp->Prop}{R:Ze->ba->Prop}{pins:List (ac×li)}{τ:St}{H:Hp}{s:ba}{m0:Nat}
structure Ay (Y:Cx) (e tg iter:db) (ifs:List db) (dp:Nat) (acc:al) (body:YD Unit):Prop where
 q:∀it,(Code.compLoop e dp it acc Y.env).quiet=true
 den:∀it Q E s,wpAny (model Y.prog Y.w) Y.A ((compTurn e dp it acc Y.env).onRaise (fun x=>do noteFrame x Y.env;theTreesLotGoes x)) Q E s->wpAny (model Y.prog Y.w) (Y.A.under (.compLoop e dp it acc Y.env)) ((model Y.prog Y.w).den (.compLoop e dp it acc Y.env)) Q E s
 turn:∀it,compTurn e dp it acc Y.env=Ax e tg iter ifs dp it acc Y.env body
 denS:∀it Q E s,wpAny (model Y.prog Y.w) Y.A ((compStart e dp it acc Y.env).onRaise (fun x=>do noteFrame x Y.env;standAt theWindowsPlace)) Q E s->wpAny (model Y.prog Y.w) (Y.A.under (.compStart e dp it acc Y.env)) ((model Y.prog Y.w).den (.compStart e dp it acc Y.env)) Q E s
 cl:(clausesOf e)[dp]?=some ⟨tg,iter,ifs,0⟩
theorem uB (hc:Y.calm=true) (nM:∀x s,Y.xe x s->False) (C:Ay Y e tg iter ifs dp acc body) (hg:PG Y tg g) (ht:gT Y ifs tt) (hb:PB Y body tb) (T:Turn Y.prog Y.w Y.K tg J fp it bw) (turn:vG J g tt tb QE W)
  (I:Inv Y pins τ H s) (st:bw 0 s.heap) (f:∀b∈fp,cH Y pins H b) (w0:W 0 m0 τ H) (hR:∀bW H' s',Inv Y pins bW H' s'->QE bW H'->R (.ok .next) s') :
  codeAny (model Y.prog Y.w) Y.A (.compLoop e dp (.ref it) acc Y.env) R s :=by
 have stat:∀{H':Hp},(∀b∈fp,H' b=none)->∀b∈fp,cH Y pins H' b:=fun hn b hb=>⟨hn b hb,(f b hb).2⟩
 refine codeAny_loop (C.q _) (fun n s'=>∃i τ H',Inv Y pins τ H' s'/\bw i s'.heap/\(∀b∈fp,H' b=none)/\W i n τ H') (fun n s hI=>?_) m0 ⟨0,τ,H,I,st,fun b hb=>(f b hb).1,w0⟩
 refine C.den _ _ _ _ (wpAny_noted ?_);rw[C.turn];unfold Ax;obtain⟨i,τ,H3,I3,uk,B5,w3⟩:=hI;rcases turn i n τ H3 w3 with ⟨stop,qn⟩|⟨go,step⟩
 ·refine ag (Db (ag (mf (T.done Y rfl rfl rfl hc i pins s τ H3 (fun _ _=>False) I3 (stat B5) uk stop) (fun r s4 ⟨hr,I4⟩=>?_) fun _ _ z=>z.elim)))
  subst hr;exact ce (hR _ _ _ I4 qn)
 ·refine ag (Db (ag (mf (T.item Y rfl rfl rfl hc i pins s τ H3 (fun _ _=>False) I3 (stat B5) uk go) (fun r s4 ⟨u,hr,h4⟩=>?_) fun _ _ z=>z.elim)))
  subst hr;refine ag (mf h4 (fun _ s5 ⟨x,H5,I5,r5,y5,jZ,vY⟩=>?_) fun _ _ z=>z.elim)
  have vZ:=I5.pinned (stat vY) (T.obj _ _ jZ);have again:∀{pT:St} {H7:Hp} {s7:ba},Inv Y (pins++fE fp s5.heap) pT H7 s7->(∃m',m'<n/\W (i+1) m' pT H7)->
    ∃m,m<n/\∃i τ H',Inv Y pins τ H' s7/\bw i s7.heap/\(∀b∈fp,H' b=none)/\W i m τ H':=fun {pT H7 s7} I7 n7=>by
   obtain⟨m',hm,w7⟩:=n7;refine⟨m',hm,i+1,pT,H7,I7.dH,T.keep _ _ _ jZ fun b hb o e=>(I7.pin (b,o) (f8 _ (f8 _ (cU hb e)))).1,fun b hb=>?_,w7⟩
   obtain⟨o,e,d⟩:=T.obj _ _ jZ b hb;exact(I7.pin (b,o) (f8 _ (f8 _ (cU hb e)))).2.1
  refine ag (mf (hg _ s5 τ H5 x u _ vZ r5 (step x H5 y5)) (fun _ s6 ⟨jw,H6,I6,q6⟩=>?_) fun _ _ z=>(nM _ _ z).elim)
  refine ag (mf (ht _ s6 jw H6 _ I6 q6) (fun ok s7 ⟨H7,I7,q7⟩=>?_) fun _ _ z=>(nM _ _ z).elim)
  cases ok with
  |false=>exact ce ⟨rfl,again I7 q7⟩
  |true=>
   refine ag (mf (hb _ s7 jw H7 _ I7 q7) (fun _ s8 ⟨Xq,H8,I8,q8⟩=>?_) fun _ _ z=>(nM _ _ z).elim)
   exact ce ⟨rfl,again I8 q8⟩
theorem rK (C:Ay Y e tg iter ifs dp acc body) (T:Turn Y.prog Y.w Y.K tg J fp it bw) (st:bw 0 s.heap)
  (h:codeAny (model Y.prog Y.w) Y.A (.compLoop e dp (.ref it) acc Y.env) R s):codeAny (model Y.prog Y.w) Y.A (.compStart e dp (.ref it) acc Y.env) R s :=by
 refine codeAny_of_tree (C.denS _ _ _ _ (wpAny_notedAt ?_));unfold compStart;rw[C.cl];show wpAny _ _ (ask>>=_) _ _ s;refine ag (Yx (wpAny_ite ?_));split
 ·first
   |exact ag (ce (ce (Z7 rfl h)))
   |exact ce (Z7 rfl h)
 ·have h2:wpAny (model Y.prog Y.w) Y.A (pyIter (.ref it)) (fun CB s'=>codeAny (model Y.prog Y.w) Y.A (.compLoop e dp CB acc Y.env) R s') (notedBy (model Y.prog Y.w) Y.A Y.env fun x s'=>R (.error x) s') s:=T.self _ 0 _ _ _ st h
  first
   |exact ag (LM (ag (Db (ag (mf h2 (fun CB s' h'=>ce (Z7 (C.q CB) h')) fun _ _ x=>x)))))
   |(refine ag (LM ?_);show wpAny _ _ (standAt iter.pos>>=_) _ _ s;exact ag (Db (ag (mf h2 (fun CB s' h'=>ce (Z7 (C.q CB) h')) fun _ _ x=>x))))
end
section
variable {Y:Cx}
def rL (D:ac) (te:TE):TB:=fun τ H Q=>te τ H fun y H4=>∃ys,H4 D=some (.lst ys)/\ys.length<sizeLine/\Q τ (upd H4 D (.lst (ys++[y])))
theorem y8 {elt:db}{te:TE}{D:ac}(h:PE Y elt te):PB Y (do let _ <- call (.builtin "list.append") [.ref D,<- eval elt Y.env]) (rL D te) :=by
 intro pins s τ H Q I q;refine ag (mf (h pins s τ H _ I q) (fun yv s8 ⟨y,H8,I8,r8,q8⟩=>?_) fun _ _ z=>z)
 obtain⟨ys,hD,hsz,w8⟩:=q8;refine ag (mf (ux (X:=Y) _ s8 τ H8 (.ref D) [y] (.ref D) [yv] (fun v H9=>v=.au/\H9=upd H8 D (.lst (ys++[y]))) I8 rfl (.cons r8 .nil) ⟨_,ys,y,rfl,rfl,hD,hsz,rfl,rfl⟩) (fun rv s9 ⟨v9,H9,I9,_,_,e9⟩=>?_) fun _ _ z=>z)
 subst e9;exact ce ⟨τ,_,I9,w8⟩
end
section
variable {X:Cx}
theorem compG_core {pins:List (ac×li)}{σ:St}{H2:Hp}{s2:ba}{e tg iter:db}{ifs:List db}{scope:wp}{N':List bn}{tn:Nat}{idx:List Nat}{g:TG}{tt:TT}{tb:ac->TB}{body:al->Mn->YD Unit}{it:ac}{fp:List ac}{bw:Nat->hX->Prop}{J:It}
  {cl:List (bn×ac)} {E:al->ba->Prop} {RR:al->ac->Ze->ba->Prop} {Q:VK} {mk:YD al} {O0:HO} {o0:li}
  (MR:∀(Q:al->ba->Prop),Q (.ref s2.heap.objs.size) {s2 with heap:=s2.heap.push o0}->wpAny (model X.prog X.w) X.A mk Q E s2) (Cw:o0.isFreed=false)
  (MS:∀(H:Hp) (h1:hX),h1.get? s2.heap.objs.size=some o0->ObjOk X.prog X.w H h1 s2.heap.objs.size O0)
  (hc:X.calm=true) (B:aH X.N X.env.scope scope N' tn idx)
  (hC:∀(D:ac),Blk X N' scope fun Y=>Ay Y e tg iter ifs 0 (.ref D) (body (.ref D) Y.env))
  (hg:Blk X N' scope fun Y=>PG Y tg g) (ht:Blk X N' scope fun Y=>gT Y ifs tt) (hb:∀D,Blk X N' scope fun Y=>PB Y (body (.ref D) Y.env) (tb D))
  (I:Inv X pins σ H2 s2) (T:Turn X.prog X.w X.K tg J fp it bw) (st:bw 0 s2.heap) (f2:∀b∈fp,cH X pins H2 b)
  (c9:∀n c,cl.lookup n=some c->X.env.cells.lookup n=some c) (ee:∀n,(n,v6)∈scope.names->∃c,cl.lookup n=some c)
  (hq:∀D,H2 D=none->∃W:Nat->Nat->St->Hp->Prop,(∃m,W 0 m (bg tn idx σ) (upd H2 D O0))/\vG J g tt (tb D) (fun _ H'=>Q (.ref D) H') W)
  (wj:∀D C m s' H',Inv X pins σ H' s'->cH X pins H' C->s'.heap.Ns C m->Q (.ref D) H'->RR (.ref D) C (.ok .next) s') :
  wpAny (model X.prog X.w) X.A mk (fun acc jj=>wpAny (model X.prog X.w) X.A (newFunctionEnv scope X.env.globals cl [] X.env.qual none .none (some X.env)) (fun j1 qm=>
   codeAny (model X.prog X.w) X.A (.compStart e 0 (.ref it) acc {j1 with scope:=relabel scope X.env}) (RR acc j1.locals) qm) E jj) E s2 :=by
 obtain⟨b1,b2,b3,b4⟩:=id B;refine MR _ (wpAny_newFunctionEnv (fun y hy=>(b2 y hy).1) (by intro y hy;simp at hy) (fun gb nN rM=>?_) b1)
 dsimp only at nN rM ⊢;generalize hG:s2.heap.push o0=G at nN rM ⊢
 have MT:G.objs.size=s2.heap.objs.size+1 :=by rw[<- hG,AS]
 have Hx:s2.heap.objs.size≠G.objs.size :=by rw[MT];exact l7 (Gc _)
 have mM:s2.heap.objs.size<=G.objs.size :=by rw[MT];exact LF _
 have below:∀b,b<s2.heap.objs.size->b≠G.objs.size:=fun b hb=>by rw[MT];exact l7 (KB hb)
 have old:∀b o,s2.heap.get? b=some o->gb.get? b=some o:=fun b o e=>rM.extBut b o (below b (ij e)) (cb _ (hG▸cb _ e))
 have MU:gb.get? s2.heap.objs.size=some o0:=rM.extBut _ _ Hx (cb _ (hG▸ff _ Cw));have CC:H2 s2.heap.objs.size=none:=I.hok.fresh (c8 _);have we:upd H2 s2.heap.objs.size O0 G.objs.size=none :=by rw[af (AN Hx)];exact I.hok.fresh mM
 have Fv:cS X.prog X.w (upd H2 s2.heap.objs.size O0) gb:=I.hok.laid old (c8 _) (MS _ _ MU);have nu:∀b∈fp,b<s2.heap.objs.size:=fun b hb=>let ⟨o,e,_⟩:=T.obj _ _ st b hb;ij e
 obtain⟨W,⟨m0,w0⟩,turn⟩:=hq s2.heap.objs.size CC;have I1:Inv (y7 X N' scope cl G.objs.size s2 H2 fp) [] (bg tn idx σ) (upd H2 s2.heap.objs.size O0) {s2 with heap:=gb,toks:=s2.toks+([]:List (bn×al)).length}:=by
  refine uA (g':=s2.gens) (m0:=fun x=>([]:List (bn×al)).reverse.lookup x) I b1 rfl rfl c9 (fun x hx=>?_) (fun z=>I.ok.hd z) I.ok.frames (.inl rfl) mM f2 nu (Un.laid old (c8 _) CC) Fv we old nN (fun i x v e1 e2 e3=>?_) (B.len σ) I.bare.self
  ·have lY:(relabel scope X.env).names.lookup x=some .cell\/(relabel scope X.env).names.lookup x=some .free:=hx;rw[fG]at lY;cases q:scope.names.lookup x with
   |none=>rw[q]at lY;rcases lY with z|z<;>cases z
   |some k0=>
    have hm:=xp q;rw[q]at lY;by_cases hk:k0=.free
    ·subst hk;exact ee x hm
    ·have nk:(k0==v6)=false :=by simpa using hk
     have nc:=(b2 _ hm).1;simp only[AT,nk,WF,l6,if_false]at lY;rcases lY with z|z
     ·exact absurd (i8 z) nc
     ·exact absurd (i8 z) hk
  ·obtain⟨fr,j,e4,e5⟩:=B.at e1 e2;have kx:=(b2 _ (xp fr)).2.2 rfl;refine⟨?_,.inr kx,kx,j,e4,e5⟩;show (relabel scope X.env).names.lookup x=some .cell\/(relabel scope X.env).names.lookup x=some .free;rw[fG,fr];simp only[AT];split
   ·exact .inl rfl
   ·exact .inr rfl
 have stat:∀b∈fp,cH (y7 X N' scope cl G.objs.size s2 H2 fp) [] (upd H2 s2.heap.objs.size O0) b:=fun b hb=>by
  refine⟨by rw[af (l7 (nu b hb))];exact(f2 b hb).1,below b (nu b hb),fun z=>?_,.inl hb,fun x c e=>(f2 b hb).2.2.2.2.1 x c (c9 x c e),fun p hp=>absurd (show p∈([]:List (ac×li)) from hp) (by simp)⟩
  rcases kw.mp (I.gh b z) with q|q
  ·exact(f2 b hb).2.1 q
  ·exact(f2 b hb).2.2.1 q
 have CD:bw 0 gb:=T.keep _ _ _ st fun b _ o e=>old b o e
 refine rK (Y:=y7 X N' scope cl G.objs.size s2 H2 fp) (hC _ cl G.objs.size s2 H2 fp) T CD (uB (Y:=y7 X N' scope cl G.objs.size s2 H2 fp) hc (fun _ _ z=>z) (hC _ cl G.objs.size s2 H2 fp) (hg cl G.objs.size s2 H2 fp) (ht cl G.objs.size s2 H2 fp) (hb _ cl G.objs.size s2 H2 fp) T turn I1 CD stat w0 fun bW H' s' I4 qn=>?_)
 have J2:Inv X pins σ H' s':=I.rh I4.os I4.base I4.hok I4.bare fun b hb=>⟨(f2 b hb).2.2.2.1,(f2 b hb).2.1,(f2 b hb).2.2.2.2.1,(f2 b hb).2.2.2.2.2⟩
 obtain⟨mm,hm,_⟩:=I4.loc;exact wj _ _ mm s' H' J2 (I.ji mM I4.free) hm qn
def rN (J:It) (g:TG) (tt:TT) (te:TE) (D:ac) (Q:VK) (W:Nat->Nat->St->Hp->Prop):Prop:=∀i m τ H,W i m τ H->
 (J.stop i H/\Q (.ref D) H)\/(J.go i H/\∀x H',J.yld i H x H'->g x τ H' fun aB H2=>tt aB H2 fun b H3=>if b=true then te aB H3 fun y H4=>∃ys m',H4 D=some (.lst ys)/\ys.length<sizeLine/\m'<m/\W (i+1) m' aB (upd H4 D (.lst (ys++[y]))) else ∃m',m'<m/\W (i+1) m' aB H3)
def oY (tn:Nat) (idx:List Nat) (wi:TI) (g:TG) (tt:TT) (te:TE):TE:=fun σ H Q=>wi σ H fun J H1=>∀D,H1 D=none->∃W:Nat->Nat->St->Hp->Prop,(∃m,W 0 m (bg tn idx σ) (upd H1 D (.lst [])))/\rN J g tt te D Q W
theorem rO {J:It}{g:TG}{tt:TT}{te:TE}{D:ac}{Q:VK}{W:Nat->Nat->St->Hp->Prop}(h:rN J g tt te D Q W):vG J g tt (rL D te) (fun _ H=>Q (.ref D) H) W :=by
 simp only[rN,exists_and_left]at h;exact h
theorem wk (elt tg iter:db) (ifs:List db) (scope:wp) (pos:wE) (it acc:al) (env:Mn) :
  compTurn (.ListComp elt [⟨tg,iter,ifs,0⟩] scope pos) 0 it acc env=Ax (.ListComp elt [⟨tg,iter,ifs,0⟩] scope pos) tg iter ifs 0 it acc env (do let _ <- call (.builtin "list.append") [acc,<- eval elt env]) :=by
 rfl
theorem uC {pins:List (ac×li)}{σ:St}{H2:Hp}{s2:ba}{tg elt iter:db}{ifs:List db}{scope:wp}{pos:wE}{N':List bn}{tn:Nat}{idx:List Nat}{g:TG}{tt:TT}{te:TE}{it:ac}{fp:List ac}{bw:Nat->hX->Prop}{J:It}
  {cl:List (bn×ac)} {E:al->ba->Prop} {RR:al->ac->Ze->ba->Prop} {Q:VK}
  (hc:X.calm=true) (B:aH X.N X.env.scope scope N' tn idx)
  (hg:Blk X N' scope fun Y=>PG Y tg g) (ht:Blk X N' scope fun Y=>gT Y ifs tt) (he:Blk X N' scope fun Y=>PE Y elt te)
  (I:Inv X pins σ H2 s2) (T:Turn X.prog X.w X.K tg J fp it bw) (st:bw 0 s2.heap) (f2:∀b∈fp,cH X pins H2 b)
  (c9:∀n c,cl.lookup n=some c->X.env.cells.lookup n=some c) (ee:∀n,(n,v6)∈scope.names->∃c,cl.lookup n=some c)
  (hq:∀D,H2 D=none->∃W:Nat->Nat->St->Hp->Prop,(∃m,W 0 m (bg tn idx σ) (upd H2 D (.lst [])))/\rN J g tt te D Q W)
  (wj:∀D C m s' H',Inv X pins σ H' s'->cH X pins H' C->s'.heap.Ns C m->Q (.ref D) H'->RR (.ref D) C (.ok .next) s') :
  wpAny (model X.prog X.w) X.A (newList []) (fun acc jj=>wpAny (model X.prog X.w) X.A (newFunctionEnv scope X.env.globals cl [] X.env.qual none .none (some X.env)) (fun j1 qm=>
   codeAny (model X.prog X.w) X.A (.compStart (.ListComp elt [⟨tg,iter,ifs,0⟩] scope pos) 0 (.ref it) acc {j1 with scope:=relabel scope X.env}) (RR acc j1.locals) qm) E jj) E s2:=
 compG_core (body:=fun acc env=>do let _ <- call (.builtin "list.append") [acc,<- eval elt env]) (tb:=fun D=>rL D te) (O0:=.lst []) (o0:={cls:=.type "list",dict:=none,data:=.seq ([]:List al).toArray})
  (fun Q q=>zw q) rfl (fun H h1 hd=>⟨xb _,[],0,.nil,hd⟩) hc B (fun D cl C s H fp=>⟨fun _=>rfl,fun _ _ _ _ h=>h,fun _=>wk ..,fun _ _ _ _ h=>h,rfl⟩) hg ht (fun D cl C s H fp=>y8 (he cl C s H fp))
  I T st f2 c9 ee (fun D hD=>let ⟨W,w0,t⟩:=hq D hD;⟨W,w0,rO t⟩) wj
variable {tg elt iter:db}{ifs:List db}{scope:wp}{pos:wE}{N':List bn}{tn:Nat}{idx:List Nat}{wi:TI}{g:TG}{tt:TT}{te:TE}
theorem cH.turn {pins:List (ac×li)}{σ:St}{H:Hp}{s:ba}{C:ac}{h':hX}(f:cH X pins H C) (I:Inv X pins σ H s) (hs:AL C s.heap h'):Inv X pins σ H {s with heap:=h'}:=
 I.turned (t':=s.toks) (fun b o hb e=>(hs.2 b hb).trans e) f.1 f.2.1 f.2.2.2.1 f.2.2.2.2.1 f.2.2.2.2.2
theorem pU (hc:X.calm=true) (B:aH X.N X.env.scope scope N' tn idx) (hi:PI X tg iter wi)
  (hg:Blk X N' scope fun Y=>PG Y tg g) (ht:Blk X N' scope fun Y=>gT Y ifs tt) (he:Blk X N' scope fun Y=>PE Y elt te)
  (hs:∀x,foldedSetIterable iter X.env x=pure x :=by intro _;rfl):PE X (.ListComp elt [⟨tg,iter,ifs,0⟩] scope pos) (oY tn idx wi g tt te) :=by
 refine⟨?_⟩;intro pins s σ H Q I h;obtain⟨cl,gC,c9,ee⟩:=fR (scope:=scope) (env:=X.env) fun n hn=>I.ok.has n ((B.2.1 _ hn).2.2 rfl)
 rw[eval_ListComp];refine SC (use:=none) rfl hs gC B.1 (fun y hy=>(B.2.1 y hy).2.1) (mf (hi pins s σ H _ I h) (fun xv s1 h1=>mf h1 (fun vX s2 h2=>?_) fun _ _ z=>z) fun _ _ z=>z)
 obtain⟨it,fp,bw,J,H2,e,I2,T,nG,f2,q2⟩:=h2;subst e;refine uC (RR:=fun acc C=>compPost (model X.prog X.w) X.A X.xe none (EP X pins σ Q) acc C) hc B hg ht he I2 T nG f2 c9 ee q2 fun D C m s' H' J2 fC hm q=>?_
 exact⟨m,hm,fun h' pV=>⟨.ref D,H',fC.turn J2 pV,rfl,q⟩⟩
theorem rP {i:Nat}{y:bn}{py gZ:wE}(hN:X.N.Nodup) (dQ:X.N[i]?=some y) (hy:X.env.scope.names.lookup y=some .local) (hc:X.calm=true) (B:aH X.N X.env.scope scope N' tn idx) (hi:PI X tg iter wi)
  (hg:Blk X N' scope fun Y=>PG Y tg g) (ht:Blk X N' scope fun Y=>gT Y ifs tt) (he:Blk X N' scope fun Y=>PE Y elt te)
  (rQ:swapsWith (.ListComp elt [⟨tg,iter,ifs,0⟩] scope pos) (some (.Name y py)) gZ.line X.env=pure true :=by rfl)
  (hs:∀x,foldedSetIterable iter X.env x=pure x :=by intro _;rfl):PS X (.Assign [.Name y py] (.ListComp elt [⟨tg,iter,ifs,0⟩] scope pos) gZ) (sX (oY tn idx wi g tt te) (rq i)) :=by
 refine⟨?_⟩;intro pins s σ H D I h;obtain⟨cl,gC,c9,ee⟩:=fR (scope:=scope) (env:=X.env) fun n hn=>I.ok.has n ((B.2.1 _ hn).2.2 rfl)
 rw[exec_Assign_Name_used _ _ _ _ rQ];refine ag (Db (ag ?_));show wpAny _ X.A (do let _ <- comprehension (.ListComp elt [⟨tg,iter,ifs,0⟩] scope pos) scope X.env _ (newList []) false (eval iter X.env) (some (assign (.Name y py) X.env))) _ _ s;refine ag (mf (SC (use:=some (assign (.Name y py) X.env)) (Q:=fun _ s'=>SP X pins D .next s') rfl hs gC B.1 (fun y hy=>(B.2.1 y hy).2.1)
  (mf (hi pins s σ H _ I h) (fun xv s1 h1=>mf h1 (fun vX s2 h2=>?_) fun _ _ z=>z) fun _ _ z=>z)) (fun _ s' hq=>ce (ce hq)) fun _ _ z=>z)
 obtain⟨it,fp,bw,J,H2,e,I2,T,nG,f2,q2⟩:=h2;subst e;refine uC (RR:=fun acc C=>compPost (model X.prog X.w) X.A X.xe (some (assign (.Name y py) X.env)) (fun _ s'=>SP X pins D .next s') acc C) hc B hg ht he I2 T nG f2 c9 ee q2 fun E C m s' H' J2 fC hm q=>?_
 show wpAny _ X.A (assign (.Name y py) X.env (.ref E)) _ _ s';refine Zt (store_ok2 J2 hN dQ (.inl hy) (v:=.ref E) rfl (fun s3 J3 ⟨a,y9,ha⟩=>?_) (.inr hy))
 have dz:C≠a :=by
  rcases ha with z|z
  ·rw[z];exact fC.2.1
  ·exact fun w=>fC.2.2.2.2.1 _ _ z w.symm
 exact⟨m,hm.sameBut y9 dz,fun h' pV=>⟨_,H',fC.turn J3 pV,q⟩⟩
end
def Tb (P:ac) (H:Hp):Prop:=∃ps,H P=some (.c7 ps)/\OP ps.toList
section
variable {X:Cx}{pins:List (ac×li)}{σ:St}{H:Hp}{s:ba}{P:ac}{ps more:Array al}{h':hX}
theorem Inv.grown (I:Inv X pins σ H s) (hP:H P=some (.c7 ps)) (k:∀b o,b≠P->s.heap.get? b=some o->h'.get? b=some o) (n:h'.get? P=some {cls:=.none,data:=.fields (ps++more)}) (t':Nat) :
  Inv X pins σ (upd H P (.c7 (ps++more))) {s with heap:=h',toks:=t'}:=by
 have ne:∀b u,H b=some u->u≠.c7 ps->b≠P:=fun b u e d=>Ak e hP d
 have nn:∀b,H b=none->b≠P:=fun b e z=>by rw[z,hP]at e;cases e
 refine I.un ⟨fun b o e q _ _=>k b o (nn b q) e,fun b o e q _ _=>⟨o.slots,k b o (nn b q) e⟩,fun b o e q _=>by rw[af (nn b q)];exact q,fun b o e _=>?_,fun b xs e=>by rw[af (ne b _ e (by intro z;cases z))];exact e,
  fun b o u e=>by rw[af (ne b _ e (by intro z;cases z))];exact e,fun b qs e=>?_⟩ fun b u e=>?_
 ·by_cases hb:b=P
  ·subst hb;exact⟨_,n⟩
  ·exact⟨o,k b o hb e⟩
 ·by_cases hb:b=P
  ·subst hb;rw[hP]at e;cases e;exact⟨more,aA⟩
  ·exact⟨#[],by rw[af hb,e];simp⟩
 ·by_cases hb:b=P
  ·subst hb;rw[aA]at e;cases e;exact n
  ·rw[af hb]at e;refine(I.hok b u e).cG (fun c v hc q=>k c v ?_ q) (fun c q=>?_) fun c xs q=>?_
   ·rcases hc with z|z
    ·rw[z];exact hb
    ·exact ne c _ z (by intro w;cases w)
   ·rw[af (ne c _ q (by intro w;cases w))];exact q
   ·rw[af (ne c _ q (by intro w;cases w))];exact q
theorem tq {c:ac}{pos:wE}{qn:bn}{scope:wp}{Q:al->ba->Prop}{A:rb}{E:al->ba->Prop}(I:Inv X pins σ H s) (hc:X.env.code=.ref c) (hd:u4 X.base c P) (hP:H P=some (.c7 ps)) (ht:OP ps.toList)
  (h:∀code g6 s',OP g6.toList->Inv X pins σ (upd H P (.c7 g6)) s'->(∀b o,b≠P->s.heap.get? b=some o->s'.heap.get? b=some o)->s'.gens=s.gens->Q code s'):wpAny (model X.prog X.w) A (genexprCode X.env pos qn scope) Q E s :=by
 have wm:s.heap.get? P=some (Sk ps):=I.hok P _ hP;have kU:=hd.keeps I.bk;have ic:=kU.code wm ht;cases q:codeAmong pos ps.toList with
 |some c'=>
  refine wpAny_genexprCode_hit hc ic q (h c' ps s ht ?_ (fun _ _ _ e=>e) rfl)
  have e:upd H P (.c7 ps)=H :=by
   funext b
   by_cases hb:b=P
   ·subst hb;rw[aA,hP]
   ·rw[af hb]
  rw[e];exact I
 |none=>
  refine wpAny_genexprCodeX hc ic (kU.tab wm) q fun c' h' tk ex h1 h2 Xr _ ta _=>?_
  obtain⟨_,Hy⟩:=ta;have tr:OP (ps++#[rawInt pos.line,rawInt pos.col,l5 c']).toList :=by
   rw[YV];exact TriplesOk_snoc _ _ _ _ ht
  exact h _ _ _ tr (I.grown hP (fun b o hb e=>ex b o hb e) Hy tk) (fun b o hb e=>ex b o hb e) rfl
end
def mO (s bq:ba):Prop:=bq.heap=s.heap/\bq.os=s.os/\Gn s.gens.size bq.gens
theorem Inv.lL {X:Cx}{pins:List (ac×li)}{σ:St}{H:Hp}{s bq:ba}(I:Inv X pins σ H s) (o:mO s bq):Inv X pins σ H bq :=by
 obtain⟨h,g,d,t,os⟩:=s;obtain⟨h',g',d',t',Sd⟩:=bq;obtain⟨e1,e2,e3⟩:=o;cases e1;cases e2;exact⟨I.ok,I.os,I.bare.trans e3,I.base,I.loc,I.cell,I.free,I.freeC,I.pin,I.hok,I.len⟩
section
variable {Y:Cx}{A2:rb}{tg elt iter:db}{ifs:List db}{scope:wp}{pos:wE}{it:ac}{fp:List ac}{bw:Nat->hX->Prop}{J:It}{g:TG}{tt:TT}{te:TE}{pp:List (ac×li)}{R:GenEnd}{Yp:Protocol}
def MV (J:It) (g:TG) (tt:TT) (te:TE) (stopAt:Bool) (Z:Bool->Hp->Prop) (W:Nat->Nat->St->Hp->Prop):Prop:=∀i m τ H,W i m τ H->
 (J.stop i H/\Z (!stopAt) H)\/(J.go i H/\∀x H',J.yld i H x H'->g x τ H' fun aB H2=>tt aB H2 fun b H3=>if b=true then te aB H3 fun y H4=>∃c,y=.bl c/\(if c=stopAt then Z stopAt H4 else ∃m',m'<m/\W (i+1) m' aB H4) else ∃m',m'<m/\W (i+1) m' aB H3)
theorem Fw (hA:Y.A=A2.over (.compLoop (.GeneratorExp elt [⟨tg,iter,ifs,0⟩] scope pos) 0 (.ref it) .none Y.env) []) (nM:Y.xe=fun _ _=>False) (hc:Y.calm=true) (kZ:Y.env.scope.isCoroutine=false)
  (T:Turn Y.prog Y.w Y.K tg J fp it bw) (hg:PG Y tg g) (ht:gT Y ifs tt) (he:PE Y elt te) (stat:∀{H':Hp},(∀b∈fp,H' b=none)->∀b∈fp,cH Y pp H' b)
  {W:Nat->Nat->St->Hp->Prop} {Z:Bool->Hp->Prop} {stopAt:Bool} (turn:MV J g tt te stopAt Z W)
  (hR:∀n s₀ aC τ H,Inv Y pp τ H aC->Z (!stopAt) H->R n s₀ (.ok .next) aC)
  (hY:∀n s₀ s rR c τ H,Inv Y pp τ H s->(c=stopAt->Z stopAt H)->(c≠stopAt->∀bq,mO s bq->rR (.send .none) bq)->Yp n s₀ (.bool c) s rR) :
  ∀(m n i:Nat) (τ:St) (H:Hp) (s s₀:ba),m<n->W i m τ H->Inv Y pp τ H s->bw i s.heap->(∀b∈fp,H b=none)->
   Seg (model Y.prog Y.w) A2 R Yp n s₀ (.compLoop (.GeneratorExp elt [⟨tg,iter,ifs,0⟩] scope pos) 0 (.ref it) .none Y.env)
    ((model Y.prog Y.w).den (.compLoop (.GeneratorExp elt [⟨tg,iter,ifs,0⟩] scope pos) 0 (.ref it) .none Y.env)) [] s :=by
 intro m;induction m using YQ with
 |ind m ih=>
  intro n i τ H s s₀ zb w I st fr;show Seg _ A2 _ _ _ s₀ _ ((compTurn (.GeneratorExp elt [⟨tg,iter,ifs,0⟩] scope pos) 0 (.ref it) .none Y.env).onRaise (leaving Y.env)) [] s;rw[compTurn_gen,YW];rcases turn i m τ H w with ⟨stop,qn⟩|⟨go,step⟩
  ·refine xz (Db ?_);have d:=T.done Y rfl rfl rfl hc i pp s τ H (fun _ _=>False) I (stat fr) st stop
   rw[hA]at d;refine xz (mf d (fun r s1 ⟨hr,I1⟩=>?_) fun _ _ z=>z.elim)
   subst hr;exact seg_end (.ok .next) (hR _ _ _ _ _ I1 qn)
  ·refine xz (Db ?_);have d:=T.item Y rfl rfl rfl hc i pp s τ H (fun _ _=>False) I (stat fr) st go
   rw[hA]at d;refine xz (mf d (fun r s4 ⟨u,hr,h4⟩=>?_) fun _ _ z=>z.elim)
   subst hr;refine xz (mf h4 (fun _ s5 ⟨x,H5,I5,r5,y5,jZ,vY⟩=>?_) fun _ _ z=>z.elim)
   have vZ:=I5.pinned (stat vY) (T.obj _ _ jZ);have back:∀{pT:St} {H7:Hp} {s7:ba},Inv Y (pp++fE fp s5.heap) pT H7 s7->bw (i+1) s7.heap/\∀b∈fp,H7 b=none:=fun {pT H7 s7} I7=>by
    refine⟨T.keep _ _ _ jZ fun b hb o e=>(I7.pin (b,o) (f8 _ (f8 _ (cU hb e)))).1,fun b hb=>?_⟩
    obtain⟨o,e,d⟩:=T.obj _ _ jZ b hb;exact(I7.pin (b,o) (f8 _ (f8 _ (cU hb e)))).2.1
   have d2:=hg _ s5 τ H5 x u _ vZ r5 (step x H5 y5);rw[hA,nM]at d2;refine xz (mf d2 (fun _ s6 ⟨jw,H6,I6,q6⟩=>?_) fun _ _ z=>z.elim)
   have d3:=ht _ s6 jw H6 _ I6 q6;rw[hA,nM]at d3;refine xz (mf d3 (fun ok s7 ⟨H7,I7,q7⟩=>?_) fun _ _ z=>z.elim)
   have hy:∀v,yieldOut Y.env v=yieldValue v:=fun v=>by simp only[yieldOut,kZ,l6,if_false]
   cases ok with
   |false=>
    simp only[l6,if_false]at q7 ⊢;obtain⟨m',rS,w7⟩:=q7;exact YE rfl (ih m' rS n (i+1) jw H7 s7 s₀ (by omega) w7 I7.dH (back I7).1 (back I7).2)
   |true=>
    simp only[if_true]at q7 ⊢;simp only[hy];rw[Yi,Yi,Zm,Zm];have d4:=he _ s7 jw H7 _ I7 q7;rw[hA,nM]at d4;refine seg_wrap (mf d4 (fun yv s8 ⟨y,H8,I8,r8,q8⟩=>?_) fun _ _ z=>z.elim)
    obtain⟨c,ey,q8⟩:=q8;subst ey;cases (show yv=YK c from r8);obtain⟨n,rfl⟩:∃n',n=n'+1:=⟨n - 1,by omega⟩
    refine seg_at (seg_yield rfl rfl rfl (hY _ _ _ _ c jw H8 I8.dH (fun e=>by rw[if_pos e]at q8;exact q8) fun e bq ok=>?_))
    rw[if_neg e]at q8;obtain⟨m',rS,w8⟩:=q8;have I9:=I8.lL ok;exact YE rfl (ih m' rS n (i+1) jw H8 bq bq (by omega) w8 I9.dH (back I9).1 (back I9).2)
end
abbrev dN (elt tg iter:db) (ifs:List db) (scope:wp) (pos:wE):db:=.GeneratorExp elt [⟨tg,iter,ifs,0⟩] scope pos
abbrev MX (X:Cx) (N':List bn) (scope:wp) (cl:List (bn×ac)) (C:ac) (code:al) (A':rb) (s:ba) (H:Hp) (fp:List ac):Cx:=
 cxBlock X N' (genEnv scope cl C code builtinsNs X.env) A' (genEnv scope cl C code builtinsNs X.env::X.stack) s H fp
abbrev gd (X:Cx) (N':List bn) (scope:wp) (k:Nat) (P:Cx->Prop):Prop:=∀(cl:List (bn×ac)) (C:ac) (code:al) (A':rb) (s:ba) (H:Hp) (fp:List ac),bC k A'->P (MX X N' scope cl C code A' s H fp)
structure Az (X:Cx) (pins:List (ac×li)) (σ:St) (N':List bn) (scope:wp) (tn:Nat) (idx:List Nat) (k:Nat) (elt tg iter:db) (ifs:List db) (pos:wE) (J:It) (H3:Hp) (a:ac) (s5:ba)
  (Y:Cx) (it:ac) (fp:List ac) (bw:Nat->hX->Prop) (g:Nat) (pp:List (ac×li)):Prop where
 inv:Inv Y pp (bg tn idx σ) H3 s5
 isg:∀{τ:St} {H':Hp} {s':ba},Inv Y pp τ H' s'->s'.heap.IsGen a g
 st:s5.gens[g]?=some (.fresh (.compStart (dN elt tg iter ifs scope pos) 0 (.ref it) .none Y.env))
 T:Turn Y.prog Y.w Y.K tg J fp it bw
 tn0:bw 0 s5.heap
 fr:∀b∈fp,H3 b=none
 stat:∀{H':Hp},(∀b∈fp,H' b=none)->∀b∈fp,cH Y pp H' b
 out:∀{τ:St} {H':Hp} {s':ba},Inv Y pp τ H' s'->Inv X pins σ H' s'
 A:Y.A=X.A.in4.in1.over (.compLoop (dN elt tg iter ifs scope pos) 0 (.ref it) .none Y.env) []
 xe:Y.xe=fun _ _=>False
 calm:Y.calm=true
 co:Y.env.scope.isCoroutine=false
 gsz:∀{τ:St} {H':Hp} {s':ba},Inv Y pp τ H' s'->g<s'.gens.size
 blk:∀P:Cx->Prop,gd X N' scope k P->P Y
 prog:Y.prog=X.prog
 w:Y.w=X.w
section
variable {X:Cx}{tg elt iter:db}{ifs:List db}{scope:wp}{pos:wE}{N':List bn}{tn:Nat}{idx:List Nat}{wi:TI}{g:TG}{tt:TT}{te:TE}{c P:ac}{k:Nat}
def Hz (P:ac) (wi:TI) (R:It->Hp->Prop):St->Hp->Prop:=fun σ H=>wi σ H fun J H1=>Tb P H1/\∀ps,OP ps.toList->R J (upd H1 P (.c7 ps))
theorem wo {pins:List (ac×li)}{s:ba}{σ:St}{H:Hp}{QQ:al->ba->Prop}{R:It->Hp->Prop}(hr:bC (k+1) X.A) (hc:X.calm=true) (B:aH X.N X.env.scope scope N' tn idx)
  (h0:scope.names.lookup (".0" : bn)=some .local) (kZ:scope.isCoroutine=false) (dY:X.env.code=.ref c) (hd:u4 X.base c P) (dX:∃bm ob,Yj X.base mainGlobals X.mg bm ob)
  (hi:PI X tg iter wi) (hs:∀x,genFold iter X.env x=pure x) (I:Inv X pins σ H s) (h:Hz P wi R σ H)
  (q:∀J H3 a s5 Y it fp bw gn pp,Az X pins σ N' scope tn idx k elt tg iter ifs pos J H3 a s5 Y it fp bw gn pp->R J H3->QQ (.ref a) s5) :
  wpAny (model X.prog X.w) X.A (eval (dN elt tg iter ifs scope pos) X.env) QQ X.xe s :=by
 obtain⟨cl,gC,c9,ee⟩:=fR (scope:=scope) (env:=X.env) fun n hn=>I.ok.has n ((B.2.1 _ hn).2.2 rfl)
 refine wpAny_GeneratorExp_make kZ gC (fun y hy=>(B.2.1 y hy).1) h0 B.1 hr.depth (thn (hi pins s σ H _ I h) fun xv s1 h1=>thn h1 fun vX s2 h2=>?_) hs
 obtain⟨it,fp,bw,J,H2,e,I2,T,nG,f2,⟨ps,hP,wq⟩,q2⟩:=h2;subst e;refine⟨I2.nolimit,tq I2 dY hd hP wq fun code g6 s3 Vc I3 kp Xs=>?_⟩
 obtain⟨bm,ob,bmod⟩:=dX;have gU:=bmod.keeps I3.bk;refine wpAny_builtinsFor (by rw[I3.ok.glob];exact gU.ns) gU.name gU.ne gU.obj gU.cls gU.dict gU.data ?_
 intro h' vU pV;have Sj:∀b∈fp,b≠P:=fun b hb z=>by have:=(f2 b hb).1;rw[z,hP]at this;cases this
 have uk:bw 0 s3.heap:=T.keep _ _ _ nG fun b hb o e=>kp b o (Sj b hb) e
 have nu:∀b∈fp,b<s3.heap.objs.size:=fun b hb=>let ⟨o,e,_⟩:=T.obj _ _ uk b hb;ij e
 have f3:∀b∈fp,cH X pins (upd H2 P (.c7 g6)) b:=fun b hb=>⟨by rw[af (Sj b hb)];exact(f2 b hb).1,(f2 b hb).2⟩
 have hsz:h'.objs.size=s3.heap.objs.size+1 :=by rw[pV.1,AS]
 have Q3:∀b o,s3.heap.get? b=some o->h'.get? b=some o:=fun b o e=>pV.extBut b o (l7 (ij e)) (cb _ e)
 have Sl:Gn s3.gens.size (s3.gens.push (.fresh (.compStart (dN elt tg iter ifs scope pos) 0 (.ref it) .none (genEnv scope cl s3.heap.objs.size code builtinsNs X.env)))):=⟨Z0.push I3.bare.1 rfl,by rw[Array.size_push];exact LF _⟩
 have Sn:Inv X pins σ (upd H2 P (.c7 g6)) {s3 with gens:=s3.gens.push (.fresh (.compStart (dN elt tg iter ifs scope pos) 0 (.ref it) .none (genEnv scope cl s3.heap.objs.size code builtinsNs X.env)))}:=I3.lL ⟨rfl,rfl,Sl⟩
 have hA:(X.A.in4.in1.over (.compLoop (dN elt tg iter ifs scope pos) 0 (.ref it) .none (genEnv scope cl s3.heap.objs.size code builtinsNs X.env)) []).frames=some (genEnv scope cl s3.heap.objs.size code builtinsNs X.env::X.stack) :=by
  show pushEnvs [_] (pushEnvs [] X.A.frames)=_;rw[I.ok.frames];rfl
 have Q4:bC k (X.A.in4.in1.over (.compLoop (dN elt tg iter ifs scope pos) 0 (.ref it) .none (genEnv scope cl s3.heap.objs.size code builtinsNs X.env)) []) :=by
  refine⟨hr.hd,?_,?_⟩
  ·show X.A.depth+0+1+3 * k+5<recursionLimit;have:=hr.dp;omega
  ·show X.A.units+1+1+1+1+1+0+3+16 * k+200<cLine;have:=hr.un;omega
 generalize rT:({cls:=.type "generator",data:=.fields #[.int s3.gens.size 0,.str "<genexpr>" (s3.toks+1),.str (X.env.qual ++ "<genexpr>") (s3.toks+1+1)]}:li)=pW
 have vH:∀b o,s3.heap.get? b=some o->(h'.push pW).get? b=some o:=fun b o e=>cb _ (Q3 b o e)
 have Ud:pW.isFreed=false :=by rw[<- rT];rfl
 have Vd:(h'.push pW).get? h'.objs.size=some pW:=ff _ Ud;have Ve:h'.objs.size≠s3.heap.objs.size :=by rw[hsz];exact Nat.succ_ne_self _
 have Vf:upd H2 P (.c7 g6) h'.objs.size=none:=I3.hok.fresh (by rw[hsz];exact LF _)
 have I5:=uA (X:=X) (N':=N') (A':=X.A.in4.in1.over (.compLoop (dN elt tg iter ifs scope pos) 0 (.ref it) .none (genEnv scope cl s3.heap.objs.size code builtinsNs X.env)) []) (env':=genEnv scope cl s3.heap.objs.size code builtinsNs X.env) (stack':=genEnv scope cl s3.heap.objs.size code builtinsNs X.env::X.stack) (ex:=fp) (h1:=h'.push pW) (m0:=fun y=>if y = ".0" then some (.ref it) else none)
  (g':=s3.gens.push (.fresh (.compStart (dN elt tg iter ifs scope pos) 0 (.ref it) .none (genEnv scope cl s3.heap.objs.size code builtinsNs X.env)))) (tk:=s3.toks+1+1+1) (aF:=bg tn idx σ) Sn B.1 rfl I3.ok.blt.symm c9 (fun x hx=>by
   have lY:scope.names.lookup x=some .cell\/scope.names.lookup x=some .free:=hx;rcases lY with z|z
   ·exact absurd rfl ((B.2.1 _ (xp z)).1)
   ·exact ee x (xp z)) (fun z=>I.ok.hd z) hA (.inr ⟨rfl,rfl⟩) (c8 _) f3 nu (Un.kept vH) (I3.hok.kept vH) (I3.hok.fresh (c8 _)) vH (vU.push _) (fun i x v e1 e2 e3=>by
   obtain⟨fr,j,e4,e5⟩:=B.at e1 e2;have kx:=(B.2.1 _ (xp fr)).2.2 rfl;exact⟨.inr fr,.inr kx,kx,j,e4,e5⟩) (B.len σ) (Gn.self Sl)
 have Vg:h'.objs.size ∉ d6 X.stack:=fun z=>by
  rcases kw.mp (I3.gh _ z) with q|q
  ·exact No (l9 I3.lt (by rw[hsz];exact LF _)) q
  ·exact I3.Lw (by rw[hsz];exact LF _) q
 have vF:∀v,pW.data≠.cell v :=by rw[<- rT];intro v z;cases z
 have I6:=I5.jJ (pins':=[(h'.objs.size,pW)]) (fun p hp=>by
  rcases lp.mp hp with rfl
  exact⟨Vd,Vf,Ve,Vg,vF⟩)
 refine q J _ _ _ (MX X N' scope cl s3.heap.objs.size code _ _ _ fp) it fp bw s3.gens.size [(h'.objs.size,pW)] ⟨I6,fun {τ H' s'} J'=>?_,?_,T,T.keep _ _ _ uk fun b _ o e=>vH b o e,fun b hb=>(f3 b hb).1,fun {H'} hn b hb=>?_,fun {τ H' s'} J'=>?_,rfl,rfl,hc,kZ,fun {τ H' s'} J'=>?_,fun Pp hb=>hb cl _ code _ _ _ fp Q4,rfl,rfl⟩ (q2 g6 Vc)
 ·have:=(J'.pin (h'.objs.size,pW) (f8 _ (lp.mpr rfl))).1;exact⟨pW,_,_,this,by rw[<- rT],by rw[<- rT],by rw[<- rT]⟩
 ·exact Array.getElem?_push_size ..
 ·refine⟨hn b hb,l7 (nu b hb),fun z=>?_,.inl hb,fun x c e=>(f2 b hb).2.2.2.2.1 x c (c9 x c e),fun p hp z=>?_⟩
  ·rcases kw.mp (I2.gh b z) with q|q
   ·exact(f2 b hb).2.1 q
   ·exact(f2 b hb).2.2.1 q
  ·rcases lp.mp hp with rfl
   have z':h'.objs.size=b:=z;have:=nu b hb;rw[<- z',hsz]at this;exact absurd this (Z3.mpr (LF _))
 ·exact Sn.rh J'.os J'.base J'.hok J'.bare fun b hb=>⟨(f3 b hb).2.2.2.1,(f3 b hb).2.1,(f3 b hb).2.2.2.2.1,(f3 b hb).2.2.2.2.2⟩
 ·have:=J'.bare.2;have e:(MX X N' scope cl s3.heap.objs.size code (X.A.in4.in1.over (.compLoop (dN elt tg iter ifs scope pos) 0 (.ref it) .none (genEnv scope cl s3.heap.objs.size code builtinsNs X.env)) []) {s3 with gens:=s3.gens.push (.fresh (.compStart (dN elt tg iter ifs scope pos) 0 (.ref it) .none (genEnv scope cl s3.heap.objs.size code builtinsNs X.env)))} (upd H2 P (.c7 g6)) fp).s₀.gens.size=s3.gens.size+1 :=by
   show (s3.gens.push _).size=_;rw[Array.size_push]
  rw[e]at this;omega
theorem Fx {prog:gc}{w:i4}{A:rb}{a:ac}{R':Ze->ba->Prop}(In:Nat->ba->Prop)
  (turn:∀n s,In n s->wpAny (model prog w) A.in1 (pyNext (.ref a)) (fun r s1=>match r with
   |none=>R' (.ok (.ret (.bool true))) s1
   |some v=>∃c,v=.bool c/\if c=true then ∃m,m<n/\In m s1 else R' (.ok (.ret (.bool false))) s1) (fun e s'=>R' (.error e) s') s) :
  ∀(n:Nat) (s:ba),In n s->codeAny (model prog w) A (.builtin "all.loop" ⟨[.ref a],[]⟩) R' s :=by
 intro n;induction n using YQ with
 |ind n ih=>
  intro s h;refine Po F.entry_all_loop ?_;rw[NG Yy _];show wpAny _ A.in1 (pyNext (.ref a)>>=_) _ _ s;refine ag (mf (turn n s h) (fun r s1 q=>?_) fun _ _ z=>z)
  cases r with
  |none=>exact ag (LM (ce q))
  |some v=>
   obtain⟨c,e,q⟩:=q;subst e;refine ag (GE (Cc ?_));refine ag (XW ?_);cases c with
   |true=>
    simp only[if_true]at q ⊢;obtain⟨m,hm,hI⟩:=q;exact ce ⟨LP Yy _,ih m hm s1 hI⟩
   |false=>
    simp only[l6,if_false]at q ⊢;exact ag (LM (ce q))
theorem gV {s:ba}{g:Nat}{x:X7}{n:Nat}(h:Gn n s.gens) (hx:x.bare=true):Gn s.gens.size (s.setGen g x).gens :=by
 refine⟨fun y hy=>?_,?_⟩
 ·have Vh:y∈s.gens.setIfInBounds g x:=hy;rcases Array.mem_or_eq_of_mem_setIfInBounds Vh with z|z
  ·exact h.1 y z
  ·rw[z];exact hx
 ·show s.gens.size<=(s.gens.setIfInBounds g x).size;rw[Array.size_setIfInBounds];exact c8 _
theorem uD {s:ba}{g:Nat}{x:X7}(h:g<s.gens.size):(s.setGen g x).gens[g]?=some x :=by
 show (s.gens.setIfInBounds g x)[g]?=_;rw[Array.getElem?_setIfInBounds_self];simp[h]
theorem uE {Y:Cx}{A2:rb}{R:GenEnd}{Yp:Protocol}{n:Nat}{s₀ s:ba}{it:ac}{J:It}{fp:List ac}{bw:Nat->hX->Prop}(T:Turn Y.prog Y.w Y.K tg J fp it bw) {i:Nat}(st:bw i s.heap)
  (loop:Seg (model Y.prog Y.w) A2 R Yp n s₀ (.compLoop (dN elt tg iter ifs scope pos) 0 (.ref it) .none Y.env) ((model Y.prog Y.w).den (.compLoop (dN elt tg iter ifs scope pos) 0 (.ref it) .none Y.env)) [] s) :
  Seg (model Y.prog Y.w) A2 R Yp n s₀ (.compStart (dN elt tg iter ifs scope pos) 0 (.ref it) .none Y.env) ((model Y.prog Y.w).den (.compStart (dN elt tg iter ifs scope pos) 0 (.ref it) .none Y.env)) [] s :=by
 show Seg _ A2 _ _ _ s₀ _ ((compStart (dN elt tg iter ifs scope pos) 0 (.ref it) .none Y.env).onRaise (leaving Y.env)) [] s;unfold compStart;rw[YW];show Seg _ A2 _ _ _ s₀ _ ((ask>>=_).wrap _ _ _ _) [] s;refine xz (Yx ?_);split
 ·exact YE rfl loop
 ·first
   |exact xz (LM (xz (Db (xz (T.self _ i s _ _ st (YE rfl loop))))))
   |(refine xz (LM ?_);show Seg _ A2 _ _ _ s₀ _ ((standAt iter.pos>>=_).wrap _ _ _ _) [] s;exact xz (Db (xz (T.self _ i s _ _ st (YE rfl loop)))))
def MY (P:ac) (tn:Nat) (idx:List Nat) (wi:TI) (g:TG) (tt:TT) (te:TE):TE:=fun σ H Q=>Hz P wi (fun J H1=>∃W:Nat->Nat->St->Hp->Prop,(∃m,W 0 m (bg tn idx σ) H1)/\MV J g tt te false (fun b H2=>Q (.bl b) H2) W) σ H
theorem MZ {p lM:wE}(hr:bC (k+1) X.A) (hc:X.calm=true) (B:aH X.N X.env.scope scope N' tn idx)
  (h0:scope.names.lookup (".0" : bn)=some .local) (kZ:scope.isCoroutine=false) (dY:X.env.code=.ref c) (hd:u4 X.base c P) (dX:∃bm ob,Yj X.base mainGlobals X.mg bm ob)
  (wt:Gl X "all") (hm:X.mg "all" = none) (hi:PI X tg iter wi) (hg:gd X N' scope k fun Y=>PG Y tg g) (ht:gd X N' scope k fun Y=>gT Y ifs tt) (he:gd X N' scope k fun Y=>PE Y elt te)
  (hs:∀x,genFold iter X.env x=pure x :=by intro _;rfl):PE X (.Call (.Name "all" p) [dN elt tg iter ifs scope lM] [] pos) (MY P tn idx wi g tt te) :=by
 refine⟨?_⟩;intro pins s σ H Q I h;refine DD (fD I wt hm PyProof.Rows.boot_all ?_);refine TW ?_ rfl rfl;show wpAny _ _ (spliced ((false,eval (dN elt tg iter ifs scope lM) X.env)::[])) _ _ s;refine IF (wo hr hc B h0 kZ dY hd dX hi hs I h ?_);intro J H3 a s5 Y it fp bw gn pp G ⟨W,⟨m0,w0⟩,turn⟩;refine NO ?_;refine Zh F.kind_all F.plain_all F.entry_all (F.args_all1 _) ?_;unfold tz.«all»;refine ag (m:=oneArg "all" _) (ce ?_)
 refine ag (wpAny_pyIter_gen (G.isg G.inv) ?_);refine ce ⟨LP Yy _,?_⟩;have AA:=Fw (A2:=X.A.in4.in1) (pp:=pp) (R:=fun n s₀ r aC=>r=.ok .next/\∃τ H,Inv Y pp τ H aC/\Q (.bl true) H)
  (Yp:=fun n s₀ v s rR=>∃c τ H,v=.bool c/\Inv Y pp τ H s/\(c=false->Q (.bl false) H)/\(c≠false->∀bq,mO s bq->rR (.send .none) bq)) G.A G.xe G.calm G.co G.T (G.blk _ hg) (G.blk _ ht) (G.blk _ he) G.stat turn
  (fun n s₀ aC τ H J z=>⟨rfl,τ,H,J,z⟩) (fun n s₀ s rR c τ H J z1 z2=>⟨c,τ,H,rfl,J,z1,z2⟩)
 have hP:=G.prog;have hW:=G.w;rw[hP,hW]at AA;refine Fx (A:=X.A) (fun n s=>(∃τ H,Inv Y pp τ H s)/\∃gs,s.gens[gn]?=some gs/\∀bq,mO s bq->gs.Goes (model X.prog X.w) X.A.in4.in1 (fun n s₀ r aC=>r=.ok .next/\∃τ H,Inv Y pp τ H aC/\Q (.bl true) H)
  (fun n s₀ v s rR=>∃c τ H,v=.bool c/\Inv Y pp τ H s/\(c=false->Q (.bl false) H)/\(c≠false->∀bq,mO s bq->rR (.send .none) bq)) n (.send .none) bq) ?_ (m0+1) s5 ?_
 ·rintro n s6 ⟨⟨τ,H6,I6⟩,gs,M6,rT⟩;have Xj:=G.gsz I6;refine Yb (Yb (Yb ?_));show wpAny (model X.prog X.w) X.A.in4 (pyNext (.ref a)) _ _ s6;refine wpAny_pyNext_genexpQ (A:=X.A.in4) (P:=fun n s₀ aC=>∃τ H,Inv Y pp τ H aC/\Q (.bl true) H) hr.hd I6.nolimit hr.depth (G.isg I6) M6 (rT _ ⟨rfl,rfl,gV I6.bare rfl⟩) (fun v s1 zf hb hv=>?_) (fun s1 hp h' hk=>?_)
  ·obtain⟨c,zh,H1,e,I1,z1,z2⟩:=hv;subst e;refine⟨c,rfl,?_⟩;have wu:mO s1 (s1.setGen gn zf):=⟨rfl,rfl,gV I1.bare hb⟩;cases c with
   |false=>
    rw[if_neg im];exact⟨.bl false,H1,G.out (I1.lL wu),rfl,z1 rfl⟩
   |true=>
    rw[if_pos rfl];have z3:=z2 (by decide)
    cases n with
    |zero=>exact(z3 s1 ⟨rfl,rfl,I1.bare.self⟩).elim
    |succ m=>
     refine⟨m,Gc _,⟨zh,H1,I1.lL wu⟩,zf,uD (G.gsz I1),fun bq o=>z3 bq ⟨o.1,o.2.1,?_⟩⟩
     exact wu.2.2.trans o.2.2
  ·obtain⟨zh,H1,I1,z1⟩:=hp;have I2:=I1.kept (t':=s1.toks) hk;have M7:mO {s1 with heap:=h'} {s1.setGen gn .finished with heap:=h'}:=⟨rfl,rfl,gV (s:=s1) I1.bare rfl⟩
   exact⟨.bl true,H1,G.out (I2.lL M7),rfl,z1⟩
 ·refine⟨⟨_,_,G.inv⟩,_,G.st,fun bq o=>⟨rfl,?_⟩⟩
  have I7:=G.inv.lL o;have CF:bw 0 bq.heap :=by rw[o.1];exact G.tn0
  have q:=uE (iter:=iter) (ifs:=ifs) (scope:=scope) (pos:=lM) (elt:=elt) G.T CF (by rw[hP,hW];exact AA m0 (m0+1) 0 _ _ bq bq (Gc _) w0 I7 CF G.fr)
  rw[hP,hW]at q;exact q
end
section
variable {X:Cx}{tg l:db}{tl:TE}
theorem eQ {xs:List V}{us:List al}(r:Vals xs us) {j:Nat}(h:j<us.toArray.size):RelV (xs.getD j .au) us.toArray[j] :=by
 have hl:=r.length;have hj:j<xs.length :=by simpa[hl] using h
 obtain⟨u,e,q⟩:=r.get (i:=j) (x:=xs[j]) (ap hj);have e2:us.toArray[j]=u :=by
  rw[bv]at e;obtain⟨h',e⟩:=e;simpa using e
 rw[e2,cr,ap hj];exact q
theorem yA:cV X (.builtin "isinstance") (fun xs H Q=>∃x T t b,xs=[x,.ty T]/\gH X.K H x t/\YZ X.K t (.type T)=some b/\Q (.bl b) H) :=by
 intro pins s σ H xs us Q I r h;obtain⟨x,T,t,b,rfl,ty,e,q⟩:=h;obtain⟨u,w',rfl,r1,r2⟩:=vals2 r;cases (show w'=LH T from r2);exact Cb I r1 ty e fun tk=>⟨.bl b,H,I.tok tk,rfl,q⟩
theorem pX:∀{xs:List V}{us:List al},xs.length=us.length->(∀(i:Nat) (v:V),xs[i]?=some v->∃u,us[i]?=some u/\RelV v u)->Vals xs us
 | [],[],_,_=>.nil
 | [],_::_,h,_=>by simp at h
 |_::_,[],h,_=>by simp at h
 |x::xs,u::us,h,g=>by
          obtain⟨u',e,r⟩:=g 0 x rfl;have e':u=u':=by simpa using e
          subst e';exact .cons r (pX (by simpa using h) fun i v hv=>by
           obtain⟨w,e2,r2⟩:=g (i+1) v (by simpa using hv)
           exact⟨w,by simpa using e2,r2⟩)
theorem wx {e:db}{te:TE}{p p1 p2 pos:wE}(hc:X.calm=true) (hg:Gl X "list") (hm:X.mg "list" = none) (M8:Gl X "range") (M9:X.mg "range" = none) (he:PE X e te) (hs:starEach [e] X.env=[(false,eval e X.env)] :=by rfl) :
  PE X (.Call (.Name "list" p) [.Call (.Name "range" p1) [e] [] p2] [] pos) (fun σ H Q=>te σ H fun x H1=>∃j:Int,x=.int j /\ -(2 ^ 24)<=j/\j<=2 ^ 24/\∀l,H1 l=none->Q (.ref l) (upd H1 l (.lst ((jp j.toNat).map fun i=>V.int (i:Nat))))) :=by
 refine⟨?_⟩;intro pins s σ H Q I h;refine DD (fD I hg hm (by decide +kernel:bootBuiltins "list" = some (.type "list")) ?_)
 refine Da ?_ rfl rfl;show wpAny _ _ (spliced ((false,eval (.Call (.Name "range" p1) [e] [] p2) X.env)::[])) _ _ s
 refine IF ?_;refine Call_ (fD I M8 M9 boot_range (Da ?_ hs rfl));rw[hs];refine IF (thn (he pins s σ H _ I h) fun v s1 ⟨x,H1,I1,r1,q1⟩=>NO ?_)
 obtain⟨j,rfl,b1,b2,q⟩:=q1;obtain⟨t,rfl⟩:=r1;refine call_range_1 ?_;refine NO ?_;refine call_list_range (n:=j.toNat) (I1.ok.hd hc) (IsRange.new ..) (small_one (by omega) (by omega) (by omega) (by omega)) (by rw[PyProof.Rows.rangeSize_nat];simp) (by omega) fun h' tk jk c' hk hS hit=>?_
 have I2:Inv X pins σ H1 {s1 with heap:=s1.heap.push {cls:=.type "range",data:=.fields #[.int 0 s1.toks,.int j t,.int 1 (s1.toks+1)]},toks:=s1.toks+1+1}:=I1.kept fun b o e=>cb _ e
 obtain⟨hsz,rV⟩:=hit;have rv:Vals ((jp j.toNat).map fun i=>V.int (i:Nat)) jk.toList :=by
  refine pX (by simpa using hsz.symm) fun i v e=>?_
  rw[br]at e;cases q2:(jp j.toNat)[i]? with
  |none=>rw[q2]at e;cases e
  |some k=>
   rw[q2]at e;have ek:k=i :=by
    obtain⟨_,e3⟩:=bv.mp q2;simpa using e3.symm
   have hi:i<jk.size :=by
    have:=(bv.mp q2).1;rw[GM]at this;omega
   obtain⟨t2,e4⟩:=rV i jk[i] (by simp[hi])
   refine⟨jk[i],by simp[hi],?_⟩
   rw[e4];have e5:v=V.int (k:Nat):=(i8 e).symm;rw[e5,ek];exact⟨t2,by simp⟩
 have ob:ObjOk X.prog X.w (upd H1 (s1.heap.push {cls:=.type "range",data:=.fields #[.int 0 s1.toks,.int j t,.int 1 (s1.toks+1)]}).objs.size (.lst ((jp j.toNat).map fun i=>V.int (i:Nat)))) h' (s1.heap.push {cls:=.type "range",data:=.fields #[.int 0 s1.toks,.int j t,.int 1 (s1.toks+1)]}).objs.size (.lst ((jp j.toNat).map fun i=>V.int (i:Nat))) :=by
  refine⟨?_,jk.toList,c',rv,by simpa using hS⟩
  rw[ci,GM];exact wr (show j.toNat<=2 ^ 24 by omega) (by decide)
 exact⟨.ref _,_,I2.laid (t':=tk) hk (c8 _) ob,rfl,q _ (I2.hok.fresh (c8 _))⟩
end
theorem CG:bootBuiltins "int" = some (.type "int") :=by decide +kernel
theorem zj:bootBuiltins "bool" = some (.type "bool") :=by decide +kernel
theorem gI:bootBuiltins "tuple" = some (.type "tuple") :=by decide +kernel
theorem rW:bootBuiltins "min" = some (.builtin "min") :=by decide +kernel
theorem Nb:bootBuiltins "max" = some (.builtin "max") :=by decide +kernel
theorem wy:bootBuiltins "abs" = some (.builtin "abs") :=by decide +kernel
theorem b7:bootBuiltins "isinstance" = some (.builtin "isinstance") :=by decide +kernel
structure Bl (mg:bn->Option al):Prop where
 len_:mg "len" = none
 range_:mg "range" = none
 min_:mg "min" = none
 max_:mg "max" = none
 abs_:mg "abs" = none
 list_:mg "list" = none
 tuple_:mg "tuple" = none
 int_:mg "int" = none
 str_:mg "str" = none
 bool_:mg "bool" = none
 isinstance_:mg "isinstance" = none
 all_:mg "all" = none
 set_:mg "set" = none
 sorted_:mg "sorted" = none
 zip_:mg "zip" = none
 enumerate_:mg "enumerate" = none
 sum_:mg "sum" = none
 reversed_:mg "reversed" = none
 divmod_:mg "divmod" = none
 any_:mg "any" = none
 ValueError_:mg "ValueError" = none
structure Df (K:bi) (mg:bn->Option al) (x:bn) (st:tw) (ps:List bn) (f:ac) (fd:l8):Prop where
 fn:uz K x x st f fd
 bd:Binds K fd ps []
 mg:mg x=some (.ref f)
structure zk (base:hX) (fd:l8) (c P:ac):Prop where
 code:fd.code=.ref c
 hd:u4 base c P
section
variable {P:gc}{w:i4}{K:bi}{mg:bn->Option al}{base:hX}
theorem uz.Vi {x qual:bn}{st:tw}{f:ac}{fd:l8}{N ps:List bn}{k:Nat}{sp:Sp}(F:uz K x qual st f fd) (S:aO N ps (ai st)) (len:∀vs H Q E,sp vs H Q E->vs.length=ps.length)
  (mK:∀(A:rb) (outer:List Mn) (s:ba) (H:Hp) (vs:List V) (Q:VK) (E:XK),bC k (A.deeper (envOfC qual (ai st) s.heap.objs.size f fd.code))->sp vs H Q E->
   ∃t,f6 (f9 bf P w K mg base N qual (ai st) f fd.code A outer s H E).ju (bJ st) t/\t {nx:=fun _ H'=>Q .au H',rt:=Q} (start N vs) H):FnOk P w K mg base bf (k+1) f fd ps sp :=by
 obtain⟨oc,od,kV,doc,pm,an,cT,ct,gr,rfl,lk,d7⟩:=F.ex;refine Ar lk d7 S len fun A outer s H vs Q E hr kX=>?_
 obtain⟨t,h,q⟩:=mK A outer s H vs Q E hr kX;exact⟨t,h.ju,q⟩
end
def Xt:V->Bool | .int _=>true|_=>false
def Xu (H:Hp):V->Bool | .ref a=>(match H a with|some (.tup _)=>true|_=>false)|_=>false
def below (m:Int):V->Bool | .int i=>decide (0<=i) && decide (i<m)|_=>false
def qo (H:Hp) (m:Int) (w:Nat):V->Bool
 | .ref a=>(match H a with|some (.tup ys)=>decide (ys.length=w) && ys.all (below m)|_=>false)
 |_=>false
structure aY (net:List (List Int)) (w:Nat):Prop where
 one:1<=net.length
 nine:net.length<=9
 wid:w=2\/w=3
 row:∀r∈net,r.length=w/\∀g∈r,0<=g/\g<(net.length:Int)
def HA (tb:List ac) (H:Hp):Prop:=∀p∈tb,Tb p H
def Q5 (H:Hp) (b:ac):Prop:=∃c m:Int,H b=some (.lst [.int c,.int m])/\0<=c/\0<=m
def Runs (J:It) (ys:List V) (H:Hp):Prop:=∀i,(i<ys.length->J.go i H/\∀x H',J.yld i H x H'->H'=H/\ys[i]?=some x)/\(ys.length<=i->J.stop i H)
theorem Fy {K:bi}{a:ac}{ys:List V}{H:Hp}(h:cw K H a ys):Runs (L7 K a) ys H:=fun i=>
 ⟨fun hi=>⟨⟨ys,ys[i],h,ap hi⟩,fun x H' y=>⟨y.1,y.2 ys h⟩⟩,fun hi=>⟨ys,h,hi⟩⟩
theorem CH {K:bi}{a:ac}{ys:List V}{H:Hp}(h:bo K H a ys):Runs (L6 K a) ys H:=fun i=>
 ⟨fun hi=>⟨⟨ys,ys[i],h,ap hi⟩,fun x H' y=>⟨y.1,y.2 ys h⟩⟩,fun hi=>⟨ys,h,hi⟩⟩
theorem AB {lo:Int}{n:Nat}{H:Hp}:Runs (Hq lo n) ((jp n).map fun i=>V.int (lo+(i:Nat))) H:=fun i=>by
 have el:((jp n).map fun i=>V.int (lo+(i:Nat))).length=n :=by simp
 rw[el];refine⟨fun hi=>⟨hi,fun x H' y=>?_⟩,fun hi=>hi⟩
 obtain⟨e1,e2⟩:=y;refine⟨e1,?_⟩;rw[e2,br,xw hi];rfl
section
variable {X:Cx}{K:bi}
theorem zm (h:X.K=K):nJ X (Sf K):=h▸ME
theorem FA (h:X.K=K):Hu X (MG K):=h▸JA
theorem AD (h:X.K=K):OpR X (compareOp .In) (MI K false):=h▸Cp
theorem CI (h:X.K=K):cV X (.builtin "len") (fun xs H Q=>∃x n,xs=[x]/\Mr K x H n/\Q (.int n) H):=h▸Fm
theorem tu (h:X.K=K):cV X (.type "tuple") (fun xs H Q=>∃p ys,xs=[.ref p]/\((bo K H p ys/\∀l,H l=none->Q (.ref l) (upd H l (.tup ys)))\/(cw K H p ys/\Q (.ref p) H))):=h▸vp
theorem wz (h:X.K=K):cV X (.builtin "isinstance") (fun xs H Q=>∃x T t b,xs=[x,.ty T]/\gH K H x t/\YZ K t (.type T)=some b/\Q (.bl b) H):=h▸yA
theorem FC {tg l:db}{tl:TE}(h:X.K=K) (hl:PE X l tl):PI X tg l (Hr K tl):=h▸Jo hl
theorem JF {tg l:db}{tl:TE}(h:X.K=K) (hl:PE X l tl):PI X tg l (L8 K tl):=h▸L9 hl
variable {o e:db}{es:List db}{to:TE}{t:TA}{name:bn}{apos bD:wE}{T id:String}{r:V->List V->Hp->VK->Prop}
theorem Nc (h:X.K=K) (pa:PlainAttrs T) (slot:Slot T name id) (Cq:typeOf (.builtin id)=pure (.type "method_descriptor")) (hm:Hv X id r) (ho:PE X o to) (ha:PA X (e::es) t) (rG:attributeBase o name X.env (eval o X.env)=eval o X.env :=by rfl)
  (wa:((backTo bD (starEach (e::es) X.env)).all (fun x => !x.1) && (backToKw bD (keywordEach [] X.env)).all (fun x=>x.1.isSome)
   && decide ((e::es).length+([]:List Yf).length+(if ([]:List Yf).isEmpty then 0 else 1)<30))=true :=by rfl)
  (hline:(apos.endLine==bD.line)=true :=by rfl) (hs:starEach (e::es) X.env=(false,eval e X.env)::starEach es X.env :=by rfl) (nK:(backTo bD (starEach es X.env)).any (·.1)=false :=by rfl) :
  PE X (.Call (.Attribute o name apos) (e::es) [] bD) (Sg K T r to t):=h▸QY pa slot Cq hm ho ha rG wa hline hs nK
end
abbrev bL (K:bi) (x:bn) (st:tw):Prop:=
 ∃(f:ac) (oc:al) (od:Option ac) (sl:Array (Option al)) (kV dc pm:al) (an:Option ac) (cd ct:al),
  nw K mainGlobals x=some (some (.ref f))/\K.lookup f=some ⟨oc,od,.func (B0 x x (dh st) (bJ st) (ai st) .none kV dc pm an cd ct),sl⟩/\MW K cd x=true/\EU K (.ref f)=true
theorem aV {K:bi}{x:bn}{st:tw}{f:ac}{oc:al}{od:Option ac}{sl:Array (Option al)}{kV dc pm:al}{an:Option ac}{cd ct:al}(a:nw K mainGlobals x=some (some (.ref f)))
  (l:K.lookup f=some ⟨oc,od,.func (B0 x x (dh st) (bJ st) (ai st) .none kV dc pm an cd ct),sl⟩) (c:MW K cd x=true) (k:EU K (.ref f)=true):bL K x st:=⟨f,oc,od,sl,kV,dc,pm,an,cd,ct,a,l,c,k⟩
section
variable {K:bi}{mg:bn->Option al}{h base:hX}
theorem bL.df {x:bn}{st:tw}(d:bL K x st) (X:K.In h) (G:h.Ns mainGlobals mg) (ps:List bn)
  (hb:∀(kV doc pm:al) (an:Option ac) (cT ct:al) (us:List al),us.length=ps.length->bindArgs (B0 x x (dh st) (bJ st) (ai st) .none kV doc pm an cT ct) ⟨us,[]⟩=pure (ps.zip us)) :
  ∃f fd,Df K mg x st ps f fd :=by
 obtain⟨f,oc,od,sl,kV,dc,pm,an,cd,ct,a,l,c,k⟩:=d;have F:=MQ (st:=st) l c k;exact⟨f,_,F,F.binds hb,IN X G a⟩
theorem rX {x:bn}{st:tw}{ps:List bn}{f p:ac}{fd:l8}(D:Df K mg x st ps f fd) (X:K.In h)
  (t:∃f o fd c,mg x=some (.ref f)/\h.get? f=some o/\o.data=.func fd/\fd.code=.ref c/\u4 h c p) (tr:∀c p,u4 h c p->u4 base c p):∃c,zk base fd c p :=by
 obtain⟨f',o,HB,c,e1,e2,e3,e4,e5⟩:=t;obtain⟨oc,od,kV,doc,pm,an,cT,ct,gr,rfl,lk,d7⟩:=D.fn.ex;have e:=D.mg.symm.trans e1;cases e;have q:=(X _ _ lk).symm.trans e2;cases q;cases e3;exact⟨c,e4,tr _ _ e5⟩
theorem Df.bind1 {x y:bn}{st:tw}{f:ac}{fd:l8}(D:Df K mg x st [y] f fd) (s:ba) (v:al)
  (hb:∀(kV doc pm:al) (an:Option ac) (cT ct:al) (u:al),bindArgs (B0 x x (dh st) (bJ st) (ai st) .none kV doc pm an cT ct) ⟨[u],[]⟩=pure [(y,u)]):ZD s fd ⟨[v],[]⟩ [(y,v)] :=by
 obtain⟨oc,od,kV,doc,pm,an,cT,ct,gr,rfl,lk,d7⟩:=D.fn.ex;exact .of_eq (hb kV doc pm an cT ct v)
theorem iV {α β:Type}{F:α->β->Prop}{a:α}{r:List α}{t:List β}(h:Go F (a::r) t):∃b t',t=b::t'/\F a b/\Go F r t':=by
 cases h with
 |cons x y=>exact⟨_,_,rfl,x,y⟩
theorem recs_of {q:gc}{ny:List bn}(h:(ny.all fun y=>(recsOf q).any fun r=>decide (r.name=y))=true):∀y∈ny,∃r∈recsOf q,r.name=y:=fun y hy=>by
 have:=wn.mp h y hy;obtain⟨r,hr,e⟩:=List.any_eq_true.mp this;exact⟨r,hr,of_decide_eq_true e⟩
end
def zp (xs:Array Nat):Prop:=xs.toList.Pairwise (· < ·)
theorem wA {xs:Array Nat}(h:zp xs) {i j:Nat}(yY:i<j) (hj:j<xs.size):xs[i]<xs[j] :=by
 have:=Re.mp h i j (by simpa using Yc yY hj) (by simpa using hj) yY
 simpa using this
theorem below_go {xs:Array Nat}{v:Nat}(h:zp xs):∀(fuel lo hi:Nat),hi - lo<=fuel->lo<=hi->hi<=xs.size->(∀i (dQ:i<xs.size),i<lo->xs[i]<v)->(∀i (dQ:i<xs.size),hi<=i->v<=xs[i])->
  Yk xs v fuel lo hi<=xs.size/\(∀i (dQ:i<xs.size),i<Yk xs v fuel lo hi->xs[i]<v)/\∀i (dQ:i<xs.size),Yk xs v fuel lo hi<=i->v<=xs[i]
 |0,lo,hi,hf,h1,h2,ha,hb=>by
          have e:lo=hi :=by omega
          subst e;exact⟨h2,ha,hb⟩
 |fuel+1,lo,hi,hf,h1,h2,ha,hb=>by
          unfold Yk;by_cases aT:lo<hi
          ·rw[if_pos aT];dsimp only;have hm:(lo+hi) / 2<xs.size :=by omega
           have e:xs.getD ((lo+hi) / 2) v=xs[(lo+hi) / 2] :=by simp[Array.getD,hm]
           rw[e];by_cases hc:xs[(lo+hi) / 2]<v
           ·rw[if_pos hc];refine below_go h fuel _ _ (by omega) (by omega) h2 (fun i dQ hl=>?_) hb
            by_cases ei:i=(lo+hi) / 2
            ·subst ei;exact hc
            ·exact Yc (wA h (show i<(lo+hi) / 2 by omega) hm) hc
           ·rw[if_neg hc];refine below_go h fuel _ _ (by omega) (by omega) (by omega) ha (fun i dQ hl=>?_)
            by_cases ei:i=(lo+hi) / 2
            ·subst ei;exact Yw hc
            ·exact wr (Yw hc) (ON (wA h (show (lo+hi) / 2<i by omega) dQ))
          ·rw[if_neg aT];have e:lo=hi :=by omega
           subst e;exact⟨h2,ha,hb⟩
theorem wB {xs:Array Nat}(v:Nat) (h:zp xs):Cn xs v<=xs.size/\(∀i (dQ:i<xs.size),i<Cn xs v->xs[i]<v)/\∀i (dQ:i<xs.size),Cn xs v<=i->v<=xs[i]:=
 below_go h _ _ _ (by omega) (xb _) (c8 _) (fun i _ z=>absurd z (X1 _)) (fun i z z'=>absurd z (Z3.mpr z'))
structure HC (w:i4) (t:UV):Prop where
 dum:t.dummies=#[]
 ris:zp t.place
 led:t.led = !w.params.followText "set-order"
def iE (e:Int×al):Int:=match e.2 with | .int i _=>i|_=>0
def jl (P:gc) (w:i4) (h:hX) (a:ac) (ns:List Int):Prop:=
 ∃o es ep t,h.get? a=some o/\o.ExactSet/\o.data=.set es ep t/\ElemsOf (intKind P w) es.toList/\(es.toList.map iE).Perm ns/\ns.Nodup/\es.size<scanBound/\t.fits es.size=true/\HC w t
theorem jl.cG {P:gc}{w:i4}{h h':hX}{a:ac}{ns:List Int}(x:jl P w h a ns) (k:∀o,h.get? a=some o->h'.get? a=some o):jl P w h' a ns:=
 let ⟨o,es,ep,t,e,r⟩:=x;⟨o,es,ep,t,k o e,r⟩
def AF (P:gc) (w:i4) (a:ac) (ns:List Int):HO:=.ext fun h=>jl P w h a ns
def Ue (ns:List Int) (m:Int):List Int:=if m∈ns then ns else ns++[m]
section
variable {P:gc}{w:i4}{A:rb}{E:al->ba->Prop}{s:ba}
theorem jl.typeIs {h:hX}{a:ac}{ns:List Int}{s:ba}(x:jl P w s.heap a ns):s.TypeIs (.ref a) "set" := let ⟨o,_,_,_,ho,hex,_⟩:=x;⟨o,ho,hex.1⟩
end
theorem CJ:Manifest.owners.lookup (String.ofList ['r','o','t','a','r','e','t','i','_','t','e','s'].reverse)=some Manifest.sig_set_iterator :=by kernel_rfl
theorem cD:Slot "set_iterator" "__next__" "set_iterator.__next__" :=
 .of (owner := "set_iterator") (n := "__next__") (by rw[typeLookup_type,builtinLookup_eq_fast];kernel_rfl) (by decide +kernel) (by decide +kernel) (by decide +kernel)
  (by first|exact .inl (by decide +kernel)|exact .inr (by decide +kernel)) (by rw[isSubtype_type];kernel_rfl)
theorem jz:entryFor table "set_iterator.__next__" = some tz.«set_iterator.__next__»:=entryFor_of_tree (by kernel_rfl)
theorem jA (a:al):argsOk "set_iterator.__next__" ⟨[a],[]⟩ :=by
 unfold argsOk;rw[signature?_of (id := "set_iterator.__next__") (n:=['_','_','t','x','e','n','_','_']) (o:=['r','o','t','a','r','e','t','i','_','t','e','s']) (by kernel_rfl) CJ];kernel_rfl
theorem rY:Slot "set_iterator" "__iter__" "set_iterator.__iter__" :=
 .of (owner := "set_iterator") (n := "__iter__") (by rw[typeLookup_type,builtinLookup_eq_fast];kernel_rfl) (by decide +kernel) (by decide +kernel) (by decide +kernel)
  (by first|exact .inl (by decide +kernel)|exact .inr (by decide +kernel)) (by rw[isSubtype_type];kernel_rfl)
theorem AG:entryFor table "set_iterator.__iter__" = some tz.«dict_keyiterator.__iter__»:=
 entryFor_alias (id' := "dict_keyiterator.__iter__") (by kernel_rfl) (by first|rfl|decide +kernel|(unfold String.splitOn;simp +decide [String.splitOnAux])) (by decide +kernel) (by kernel_rfl)
theorem AH (a:al):argsOk "set_iterator.__iter__" ⟨[a],[]⟩ :=by
 unfold argsOk;rw[signature?_of (id := "set_iterator.__iter__") (n:=['_','_','r','e','t','i','_','_']) (o:=['r','o','t','a','r','e','t','i','_','t','e','s']) (by kernel_rfl) CJ];kernel_rfl
theorem yB:entryFor table "set.__iter__" = some tz.«frozenset.__iter__»:=
 entryFor_alias (id' := "frozenset.__iter__") (by kernel_rfl) (by first|rfl|decide +kernel|(unfold String.splitOn;simp +decide [String.splitOnAux])) (by decide +kernel) (by kernel_rfl)
def eZ (h:hX) (I a:ac) (first:al) (i n ep:Nat):Prop:=∃o,h.get? I=some o/\o.cls=.type "set_iterator" /\ o.data=.fields #[first,.int i 0,.ref a,.int n 0,.int ep 0]
theorem eZ.typeIs {s:ba}{I a:ac}{first:al}{i n ep:Nat}(x:eZ s.heap I a first i n ep):s.TypeIs (.ref I) "set_iterator" := let ⟨o,ho,hc,_⟩:=x;⟨o,ho,hc⟩
theorem fS {α:Type}:∀{l:List α}{i:Nat}(h:i<l.length),(l[i]::l.eraseIdx i).Perm l
 | [],i,h=>by simp at h
 |x::l,0,h=>.refl _
 |x::l,i+1,h=>by
          rw[List.eraseIdx_cons_succ,List.getElem_cons_succ];exact(YF.swap _ _ _).trans (.cons _ (fS (by simpa using h)))
section
variable {P:gc}{w:i4}{A:rb}{E:al->ba->Prop}{s:ba}
theorem wp_choose {src:Source}{n:Nat}{Q:Nat->ba->Prop}(hn:n≠0) (h:∀i d,i<n->Q i {s with drawn:=d}):wpAny (model P w) A (choose src n) Q E s:=fun Γ p _=>by
 refine⟨hn,?_⟩;exact h _ _ (ZC _ (Nat.pos_of_ne_zero hn))
theorem nO {α:Type}:∀(n:Nat) (xs:List α) {s:ba}{Q:List α->ba->Prop},n=xs.length->(∀ys d,ys.Perm xs->Q ys {s with drawn:=d})->wpAny (model P w) A (drawOrder n xs) Q E s
 |0,xs,s,Q,hn,h=>by
          have:xs=[]:=Op hn.symm;subst this;exact ce (h [] s.drawn .nil)
 |n+1,[],s,Q,hn,h=>by simp at hn
 |n+1,x::xs,s,Q,hn,h=>by
          show wpAny _ _ (choose .order (x::xs).length>>=_) _ _ s;refine ag (wp_choose (by simp) fun i d hi=>?_)
          have e:(x::xs)[i]?=some (x::xs)[i]:=ap hi;rw[e];dsimp only;refine ag (nO n _ (by rw[List.length_eraseIdx_of_lt hi];simp at hn ⊢;omega) fun ys d' hp=>ce (h _ _ ?_))
          exact(YF.cons _ hp).trans (fS hi)
structure j4 (P:gc) (w:i4) (h:hX) (a:ac) (es:Array (Int×al)) (ep:Nat) (t:UV):Prop where
 at_:∃o,h.get? a=some o/\o.ExactSet/\o.data=.set es ep t
 fits:t.fits es.size=true
 tab:HC w t
theorem zq {α:Type}(next:Nat->Nat):∀(fuel k:Nat) (left:List α) (out:Array α),fuel=left.length->(pickOrder.go next fuel k left out).toList.Perm (out.toList++left)
 |0,k,left,out,h=>by
          have:left=[]:=Op h.symm;subst this;simp[pickOrder.go]
 |fuel+1,k,left,out,h=>by
          unfold pickOrder.go;have hl:next k % left.length<left.length:=ZC _ (by omega)
          rw[ap hl];dsimp only;refine(zq next fuel (k+1) _ _ (by rw[List.length_eraseIdx_of_lt hl];omega)).trans ?_
          rw[Array.toList_push,On];exact YF.append_left _ (fS hl)
theorem uF {α:Type}(next:Nat->Nat) (xs:Array α):(pickOrder next xs).toList.Perm xs.toList :=by
 unfold pickOrder;exact(zq next xs.size 0 xs.toList #[] (by simp)).trans (by simp)
theorem nQ {Q:Bool->ba->Prop}(h:Q (w.params.followText "set-order") s):wpAny (model P w) A setsByText Q E s :=by
 unfold setsByText;exact ag (Yx (ce h))
theorem rZ {a:ac}{es:Array (Int×al)}{ep:Nat}{t:UV}{slot given:Nat}{Q:Option (al×Nat)->ba->Prop}(hE:j4 P w s.heap a es ep t)
  (hd:w.params.followText "set-order" = false->(!t.plain && decide (es.size > 1))=false)
  (h1:w.params.followText "set-order" = true->Q ((pickOrder (w.params.setOrder a ep) es)[given]?.map fun e=>(e.2,slot)) s)
  (h2:w.params.followText "set-order" = false->Q (match es[Cn t.place slot]?,t.place[Cn t.place slot]? with|some (_,x),some j=>some (x,j+1)|_,_=>none) s) :
  wpAny (model P w) A (setNext a slot given ep) Q E s :=by
 obtain⟨⟨o,ho,hex,pY⟩,hf,ht⟩:=hE;unfold setNext;refine ag (Yl ho pY hf ?_);dsimp only;refine ag (nQ ?_);cases hb:w.params.followText "set-order" with
 |true=>
  simp only[if_true,bne_self_eq_false,l6,if_false];unfold setWalk;refine ag (ag (Yl ho pY hf ?_));dsimp only;refine ag (nQ ?_);rw[hb];simp only[if_true];refine ag (Yx (ce (ce ?_)));exact h1 hb
 |false=>
  simp only[l6,if_false];have kU:=hd hb;have Ug:t.led=true :=by rw[ht.led,hb];rfl
  show wpAny _ _ (if (!t.plain && decide (es.size > 1))=true then _ else _) _ _ s
  rw[kU];simp only[l6,if_false];refine ag ?_;show wpAny _ _ (if (!t.led && !es.isEmpty)=true then _ else _) _ _ s
  rw[Ug];simp only[Zn,WF,l6,if_false];exact ce (ce (h2 hb))
theorem eZ.Nf {h:hX}{I a:ac}{first x:al}{i n ep:Nat}(hit:eZ h I a first i n ep):eZ (h.update I (li.mapFields (·.setIfInBounds 0 x))) I a x i n ep :=by
 obtain⟨o,ho,hc,hd⟩:=hit;exact⟨_,AC _ ho (YG (OR hd _)),(Zw ..).trans hc,by rw[OR hd];simp⟩
theorem eZ.wC {h:hX}{I a:ac}{first:al}{i n ep:Nat}(hit:eZ h I a first i n ep):eZ (h.update I (li.mapFields (·.setIfInBounds 1 (rawInt ((i:Int)+1))))) I a first (i+1) n ep :=by
 obtain⟨o,ho,hc,hd⟩:=hit;exact⟨_,AC _ ho (YG (OR hd _)),(Zw ..).trans hc,by rw[OR hd];simp[rawInt]⟩
theorem l0 {I a:ac}{first x:al}{i n ep k:Nat}{Q:Unit->ba->Prop}(hk:k<5) (hit:eZ s.heap I a first i n ep) (h:Q () {s with heap:=s.heap.update I (li.mapFields (·.setIfInBounds k x))}):wpAny (model P w) A (setField (.ref I) k x) Q E s :=by
 obtain⟨o,ho,hc,hd⟩:=hit;exact wpAny_setField ho hd (by simpa using hk) h
theorem zt {Q:Fin->ba->Prop}(hh:A.handled=none) (h:∀e h',s.TypeIs e "StopIteration" \/ True->(∀b o,s.heap.get? b=some o->h'.get? b=some o)->ba.TypeIs {s with heap:=h'} e "StopIteration" -> E e {s with heap:=h'}) :
  wpAny (model P w) A (newExc (.type "StopIteration") []>>=fun e=>raiseNew e) Q E s :=by
 refine ag ?_;simp only[newExc,newTuple];refine ag (zw ?_ (by size_fits))
 refine ag (m:=firstArgMember _ _) (Y3 (a:=GS) (by first|rfl|(simp only[firstArgMember];rfl)) ?_)
 refine zw ?_ (by size_fits)
 simp only[raiseNew];refine ag (wpAny_handled ?_);rw[hh];refine ag (ce (wpAny_throw ?_));exact h _ _ (.inr trivial) (fun b o e=>cb _ (cb _ e)) ⟨_,ff _ rfl,rfl⟩
theorem wD {Q:Option al->ba->Prop}{e:al}(hT:s.TypeIs e "StopIteration") (h:Q none s):wpAny (model P w) A (do let b <- isInstance e (.type "StopIteration");if b=true then pure none else throw e) Q E s:=
 ag (LS (T := "StopIteration") (b:=true) hT Y0 (ce h))
theorem JG {I a:ac}{slot i ep next:Nat}{es:Array (Int×al)}{t:UV}{x:al}{Q:Option al->ba->Prop}(hit:eZ s.heap I a (.int slot 0) i es.size ep) (hE:j4 P w s.heap a es ep t)
  (hd:w.params.followText "set-order" = false->(!t.plain && decide (es.size > 1))=false)
  (h1:w.params.followText "set-order" = true->(pickOrder (w.params.setOrder a ep) es)[i]?.map (fun e=>(e.2,slot))=some (x,next))
  (h2:w.params.followText "set-order" = false->(match es[Cn t.place slot]?,t.place[Cn t.place slot]? with|some (_,x),some j=>some (x,j+1)|_,_=>none)=some (x,next))
  (hQ:∀h',eZ h' I a (.int next 0) (i+1) es.size ep->AL I s.heap h'->Q (some x) {s with heap:=h'}):wpAny (model P w) A (pyNext (.ref I)) Q E s :=by
 obtain⟨o,ho,hc,kU⟩:=id hit;obtain⟨oa,uG,FD,uH⟩:=hE.at_;unfold pyNext;refine ag (Do (xy (name:=sw "__next__") hit.typeIs cD (xL cD hit.typeIs jz ?_ (jA _))))
 unfold tz.«set_iterator.__next__»;refine ag (m:=slotArgs "__next__" 0 _) (ce ?_)
 dsimp only;refine ag (WP ho kU ?_);dsimp only;refine ag (SS uG uH hE.fits ?_);simp only[bne_self_eq_false,l6,if_false,At];have fin:∀r,r=some (x,next)->wpAny (model P w) A.in1 (match r with
    |some (x,next)=>do
     setField (l5 I) 0 (rawInt next)
     setField (l5 I) 1 (rawInt (↑i+1))
     ret x
    |none=>do
     setField (l5 I) 2 GS
     let __do_lift <- newExc (LH "StopIteration") []
     raiseNew __do_lift) (fun fin s'=>∃v,fin=Fin.done (Flow.ret v)/\wpAny (model P w) A (pure (some v)) Q E s') (fun e s'=>wpAny (model P w) A (do
     let __do_lift <- isInstance e (LH "StopIteration")
     if __do_lift=true then pure none else throw e) Q E s') s:=fun r hr=>by
  subst hr;dsimp only;refine ag (l0 (by decide) hit ?_)
  have Ng:=hit.Nf (x:=rawInt next);refine ag (l0 (by decide) Ng ?_)
  exact ce ⟨x,rfl,ce (hQ _ Ng.wC ((SZ ..).trans (SZ ..)))⟩
 exact ag (rZ hE hd (fun hb=>fin _ (h1 hb)) (fun hb=>fin _ (h2 hb)))
theorem JH {I a:ac}{slot i ep:Nat}{es:Array (Int×al)}{t:UV}{Q:Option al->ba->Prop}(hh:A.handled=none) (hit:eZ s.heap I a (.int slot 0) i es.size ep) (hE:j4 P w s.heap a es ep t)
  (hd:w.params.followText "set-order" = false->(!t.plain && decide (es.size > 1))=false)
  (h1:w.params.followText "set-order" = true->(pickOrder (w.params.setOrder a ep) es)[i]?.map (fun e=>(e.2,slot))=none)
  (h2:w.params.followText "set-order" = false->(match es[Cn t.place slot]?,t.place[Cn t.place slot]? with|some (_,x),some j=>some (x,j+1)|_,_=>none)=none)
  (hQ:∀h',(∀b o,b≠I->s.heap.get? b=some o->h'.get? b=some o)->Q none {s with heap:=h'}):wpAny (model P w) A (pyNext (.ref I)) Q E s :=by
 obtain⟨o,ho,hc,kU⟩:=id hit;obtain⟨oa,uG,FD,uH⟩:=hE.at_;unfold pyNext;refine ag (Do (xy (name:=sw "__next__") hit.typeIs cD (xL cD hit.typeIs jz ?_ (jA _))))
 unfold tz.«set_iterator.__next__»;refine ag (m:=slotArgs "__next__" 0 _) (ce ?_)
 dsimp only;refine ag (WP ho kU ?_);dsimp only;refine ag (SS uG uH hE.fits ?_);simp only[bne_self_eq_false,l6,if_false,At];have fin:∀r:Option (al×Nat),r=none->wpAny (model P w) A.in1 (match r with
    |some (x,next)=>do
     setField (l5 I) 0 (rawInt next)
     setField (l5 I) 1 (rawInt (↑i+1))
     ret x
    |none=>do
     setField (l5 I) 2 GS
     let __do_lift <- newExc (LH "StopIteration") []
     raiseNew __do_lift) (fun fin s'=>∃v,fin=Fin.done (Flow.ret v)/\wpAny (model P w) A (pure (some v)) Q E s') (fun e s'=>wpAny (model P w) A (do
     let __do_lift <- isInstance e (LH "StopIteration")
     if __do_lift=true then pure none else throw e) Q E s') s:=fun r hr=>by
  subst hr;dsimp only;refine ag (l0 (by decide) hit ?_)
  exact zt hh fun e h' _ k hT=>wD hT (hQ h' fun b o hb q=>k b o ((wT _ _ (AN hb)).trans q))
 exact ag (rZ hE hd (fun hb=>fin _ (h1 hb)) (fun hb=>fin _ (h2 hb)))
theorem JI {I a T:ac}{i ep j:Nat}{es:Array (Int×al)}{t:UV}{ps:List Nat}{x:Int×al}{Q:Option al->ba->Prop}(hit:eZ s.heap I a (.ref T) i es.size ep) (hE:j4 P w s.heap a es ep t)
  (hT:s.heap.IsTuple T (ps.map fun (i:Nat)=>rawInt i).toArray) (hj:ps[i]?=some j) (hx:es[j]?=some x)
  (hQ:∀h',eZ h' I a (.ref T) (i+1) es.size ep->AL I s.heap h'->Q (some x.2) {s with heap:=h'}):wpAny (model P w) A (pyNext (.ref I)) Q E s :=by
 obtain⟨o,ho,hc,kU⟩:=id hit;obtain⟨oa,uG,FD,uH⟩:=hE.at_;unfold pyNext;refine ag (Do (xy (name:=sw "__next__") hit.typeIs cD (xL cD hit.typeIs jz ?_ (jA _))))
 unfold tz.«set_iterator.__next__»;refine ag (m:=slotArgs "__next__" 0 _) (ce ?_)
 dsimp only;refine ag (WP ho kU ?_);dsimp only;refine ag (SS uG uH hE.fits ?_);simp only[bne_self_eq_false,l6,if_false,At];obtain⟨ot,Nh,_,nt,pY⟩:=hT;refine ag (GG Nh pY ?_);have e:(ps.map fun (i:Nat)=>rawInt i).toArray[i]?=some (rawInt j) :=by simp[hj]
 dsimp only;rw[e];show wpAny _ _ (setNextDrawn a (Int.toNat (j:Int)) ep>>=_) _ _ s;rw[At];refine ag ?_;unfold setNextDrawn;refine ag (Yl uG uH hE.fits ?_);simp only[bne_self_eq_false,l6,if_false,hx];refine ce ?_;refine ag (l0 (by decide) hit ?_)
 exact ce ⟨x.2,rfl,ce (hQ _ hit.wC (SZ ..))⟩
theorem JK {I a T:ac}{i ep:Nat}{es:Array (Int×al)}{t:UV}{ps:List Nat}{Q:Option al->ba->Prop}(hh:A.handled=none) (hit:eZ s.heap I a (.ref T) i es.size ep) (hE:j4 P w s.heap a es ep t)
  (hT:s.heap.IsTuple T (ps.map fun (i:Nat)=>rawInt i).toArray) (hj:ps.length<=i)
  (hQ:∀h',(∀b o,b≠I->s.heap.get? b=some o->h'.get? b=some o)->Q none {s with heap:=h'}):wpAny (model P w) A (pyNext (.ref I)) Q E s :=by
 obtain⟨o,ho,hc,kU⟩:=id hit;obtain⟨oa,uG,FD,uH⟩:=hE.at_;unfold pyNext;refine ag (Do (xy (name:=sw "__next__") hit.typeIs cD (xL cD hit.typeIs jz ?_ (jA _))))
 unfold tz.«set_iterator.__next__»;refine ag (m:=slotArgs "__next__" 0 _) (ce ?_)
 dsimp only;refine ag (WP ho kU ?_);dsimp only;refine ag (SS uG uH hE.fits ?_);simp only[bne_self_eq_false,l6,if_false,At];obtain⟨ot,Nh,_,nt,pY⟩:=hT;refine ag (GG Nh pY ?_);have e:(ps.map fun (i:Nat)=>rawInt i).toArray[i]?=none :=by simp[hj]
 dsimp only;rw[e];dsimp only;refine ag (l0 (by decide) hit ?_)
 refine ag (l0 (by decide) (hit.Nf (x:=rawInt 0)) ?_)
 exact zt hh fun e h' _ k hT=>wD hT (hQ h' fun b o hb q=>k b o ((wT _ _ (AN hb)).trans ((wT _ _ (AN hb)).trans q)))
end
theorem eZ.cG {h h':hX}{I a:ac}{first:al}{i n ep:Nat}(x:eZ h I a first i n ep) (k:∀o,h.get? I=some o->h'.get? I=some o):eZ h' I a first i n ep:=let ⟨o,ho,r⟩:=x;⟨o,k o ho,r⟩
theorem j4.cG {P:gc}{w:i4}{h h':hX}{a:ac}{es:Array (Int×al)}{ep:Nat}{t:UV}(x:j4 P w h a es ep t) (k:∀o,h.get? a=some o->h'.get? a=some o):j4 P w h' a es ep t:=
 ⟨let ⟨o,ho,r⟩:=x.at_;⟨o,k o ho,r⟩,x.fits,x.tab⟩
theorem AI {xs:Array Nat}(h:zp xs) {i:Nat}(hi:i<xs.size):Cn xs (xs[i]+1)=i+1 :=by
 obtain⟨b0,b1,b2⟩:=wB (xs[i]+1) h;generalize Cn xs (xs[i]+1)=p at *
 have h1:i<p :=by
  refine Nat.lt_of_not_le fun hp=>?_
  have:=b2 i hi hp;omega
 refine Nat.le_antisymm (Yw fun hp=>?_) h1
 have Sr:i+1<xs.size :=by omega
 have q:=b1 (i+1) Sr hp;have q2:=wA h (show i<i+1 by omega) Sr
 omega
theorem AJ {xs:Array Nat}(h:zp xs):Cn xs 0=0 :=by
 obtain⟨b0,b1,b2⟩:=wB 0 h;generalize Cn xs 0=p at *
 by_cases hp:p=0
 ·exact hp
 ·have:=b1 0 (by omega) (by omega)
  omega
section
variable {P:gc}{w:i4}{A:rb}{E:al->ba->Prop}{s:ba}
theorem si_self {I a:ac}{first:al}{i n ep:Nat}{Q:al->ba->Prop}(hit:eZ s.heap I a first i n ep) (h:Q (.ref I) s):wpAny (model P w) A (pyIter (.ref I)) Q E s :=by
 refine Zx hit.typeIs rY (xL rY hit.typeIs AG ?_ (AH _));show wpAny _ _ (ret (.ref I)) _ _ s;exact ce ⟨_,rfl,"set_iterator",_,hit.typeIs,cD.lookup,h⟩
theorem wG {es:List (Int×al)}(h:ElemsOf (intKind P w) es) {e:Int×al}(he:e∈es):∃t,e.2=.int (iE e) t :=by
 obtain⟨⟨k',Ni,_⟩,_⟩:=h e he;obtain⟨t,e2⟩:=al.isInt_shape (k:=k') (v:=e.2) Ni;exact⟨t,by unfold iE;rw[e2]⟩
abbrev CK (xs:List Int):Nat->al->Prop:=fun i v=>∃m t,xs[i]?=some m/\v=.int m t
def fT (w:i4) (a:ac) (ep:Nat) (es:Array (Int×al)):List (Int×al):=if w.params.followText "set-order" = true then (pickOrder (w.params.setOrder a ep) es).toList else es.toList
theorem jB (w:i4) (a:ac) (ep:Nat) (es:Array (Int×al)):(fT w a ep es).Perm es.toList :=by
 unfold fT;split
 ·exact uF _ _
 ·exact .refl _
theorem FE {I a:ac}{es:Array (Int×al)}{ep:Nat}{t:UV}(hh:A.handled=none) (dz:a≠I) (zu:ElemsOf (intKind P w) es.toList) (hd:w.params.followText "set-order" = false->(!t.plain && decide (es.size > 1))=false) :
  WalksS P w A I [I,a] [I] (fun a b=>b=a) ((fT w a ep es).map iE).length (CK ((fT w a ep es).map iE))
   (fun i s=>j4 P w s.heap a es ep t/\∃slot:Nat,eZ s.heap I a (.int slot 0) i es.size ep/\(w.params.followText "set-order" = false->Cn t.place slot=i)) where
 sub:=fun b hb=>by simp at hb;simp[hb]
 grefl:=fun _=>rfl
 gtrans:=fun _ _ _ h1 h2=>h2.trans h1
 frame:=fun i s h' _ st _ hk=>⟨st.1.cG fun o e=>hk a (by simp) o e,let ⟨slot,h1,h2⟩:=st.2;⟨slot,h1.cG fun o e=>hk I (by simp) o e,h2⟩⟩
 item:=fun i s Q E hi st hQ=>by
  obtain⟨hE,slot,hit,hb⟩:=st;have hl:i<(fT w a ep es).length :=by simpa using hi
  have zv:i<es.size :=by rw[<- BN,<- (jB w a ep es).length_eq];exact hl
  obtain⟨tk,he⟩:=wG (P:=P) (w:=w) zu ((jB w a ep es).mem_iff.mp (u8 hl));have dy:i<t.place.size :=by
   have:=hE.fits;simp only[UV.fits,EO,beq_iff_eq]at this;rw[this.1];exact zv
  refine JG (next:=if w.params.followText "set-order" = true then slot else t.place[i]+1) (x:=((fT w a ep es)[i]).2) hit hE hd (fun gW=>?_) (fun gW=>?_) (fun h' FG hs=>hQ _ _ ⟨_,tk,by rw[br,ap hl];rfl,he⟩ ⟨hE.cG fun o e=>by rw[hs.2 a dz];exact e,_,FG,fun gW=>?_⟩ ⟨fun b o hb e=>by rw[hs.2 b (fun z=>hb (by simp[z]))];exact e,rfl,rfl,rfl,c8 _⟩)
  ·rw[if_pos gW];have e1:fT w a ep es=(pickOrder (w.params.setOrder a ep) es).toList :=by unfold fT;rw[if_pos gW]
   have e2:(pickOrder (w.params.setOrder a ep) es)[i]?=some (fT w a ep es)[i] :=by
    rw[<- WI,<- e1];exact ap hl
   rw[e2];rfl
  ·rw[if_neg (by rw[gW];decide),hb gW,Nd zv,Nd dy]
   have e1:fT w a ep es=es.toList :=by unfold fT;rw[if_neg (by rw[gW];decide)]
   have e2:(fT w a ep es)[i]=es[i] :=by simp[e1]
   rw[e2]
  ·rw[if_neg (by rw[gW];decide)]
   exact AI hE.tab.ris dy
 done:=fun s Q E st hQ=>by
  obtain⟨hE,slot,hit,hb⟩:=st;have hl:((fT w a ep es).map iE).length=es.size :=by rw[ci,(jB w a ep es).length_eq,BN]
  rw[hl]at hit hb;refine JH hh hit hE hd (fun gW=>?_) (fun gW=>?_) (fun h' k=>hQ _ ⟨fun b o hb e=>k b o (fun z=>hb (by simp[z])) e,rfl,rfl,rfl,c8 _⟩)
  ·have e1:(pickOrder (w.params.setOrder a ep) es)[es.size]?=none :=by
    refine Yq ?_;rw[<- BN,(uF _ es).length_eq,BN];exact c8 _
   rw[e1];rfl
  ·rw[hb gW,Yq (c8 _)]
 self:=fun i s Q E st hQ=>let ⟨_,slot,hit,_⟩:=st;si_self hit hQ
theorem AK {I a T:ac}{es:Array (Int×al)}{ep:Nat}{t:UV}{ps:List Nat}(hh:A.handled=none) (dz:a≠I) (Uh:T≠I) (zu:ElemsOf (intKind P w) es.toList) (CL:∀j∈ps,j<es.size) (dy:ps.length=es.size) :
  WalksS P w A I [I,a,T] [I] (fun a b=>b=a) (ps.map fun j=>iE (es.getD j (0,.none))).length (CK (ps.map fun j=>iE (es.getD j (0,.none))))
   (fun i s=>j4 P w s.heap a es ep t/\s.heap.IsTuple T (ps.map fun (i:Nat)=>rawInt i).toArray/\eZ s.heap I a (.ref T) i es.size ep) where
 sub:=fun b hb=>by simp at hb;simp[hb]
 grefl:=fun _=>rfl
 gtrans:=fun _ _ _ h1 h2=>h2.trans h1
 frame:=fun i s h' _ st _ hk=>⟨st.1.cG fun o e=>hk a (by simp) o e,st.2.1.at fun o e=>hk T (by simp) o e,st.2.2.cG fun o e=>hk I (by simp) o e⟩
 item:=fun i s Q E hi st hQ=>by
  obtain⟨hE,hT,hit⟩:=st;have hl:i<ps.length :=by simpa using hi
  have hj:=CL _ (u8 hl);have hx:es[ps[i]]?=some es[ps[i]]:=Nd hj;have hg:es.getD ps[i] (0,.none)=es[ps[i]] :=by simp[Array.getD,hj]
  obtain⟨tk,he⟩:=wG (P:=P) (w:=w) zu (show es[ps[i]]∈es.toList by simp)
  refine JI hit hE hT (ap hl) hx fun h' FG hs=>hQ _ _ ⟨_,tk,by rw[br,ap hl];rfl,by dsimp only;rw[hg];exact he⟩ ⟨hE.cG fun o e=>by rw[hs.2 a dz];exact e,hT.at fun o e=>by rw[hs.2 T Uh];exact e,FG⟩ ⟨fun b o hb e=>by rw[hs.2 b (fun z=>hb (by simp[z]))];exact e,rfl,rfl,rfl,c8 _⟩
 done:=fun s Q E st hQ=>by
  obtain⟨hE,hT,hit⟩:=st;have hl:(ps.map fun j=>iE (es.getD j (0,.none))).length=ps.length:=ci _
  rw[hl]at hit;exact JK hh hit hE hT (c8 _) fun h' k=>hQ _ ⟨fun b o hb e=>k b o (fun z=>hb (by simp[z])) e,rfl,rfl,rfl,c8 _⟩
 self:=fun i s Q E st hQ=>si_self st.2.2 hQ
theorem AO {a:ac}{ns:List Int}{Q:al->ba->Prop}(hS:jl P w s.heap a ns)
  (hQ:∀(I:ac) (h':hX) (d':Drawn) (xs:List Int) (fp:List ac) (St:Nat->ba->Prop),xs.Perm ns->(∀b o,s.heap.get? b=some o->h'.get? b=some o)->s.heap.objs.size<=I->(∀b∈fp,b=a\/s.heap.objs.size<=b)->
   (∀A':rb,A'.handled=none->WalksS P w A' I fp [I] (fun a b=>b=a) xs.length (CK xs) St)->St 0 {s with heap:=h',drawn:=d'}->Q (.ref I) {s with heap:=h',drawn:=d'}):wpAny (model P w) A (pyIter (.ref a)) Q E s :=by
 have Ss:=hS.typeIs (h:=s.heap);obtain⟨o,es,ep,t,ho,hex,hd,zu,hp,hn,hb,hf,ht⟩:=hS;have hE:j4 P w s.heap a es ep t:=⟨⟨o,ho,hex,hd⟩,hf,ht⟩;have aT:=ij ho;refine Zx Ss F.slot_set_iter (xL F.slot_set_iter Ss yB ?_ (F.args_set_iter_1 _));unfold tz.«frozenset.__iter__»;refine ag (m:=tz.Frozenset.slot0 "__iter__" _) (ce ?_)
 unfold tz.Frozenset.sizeOf;refine ag (ag (SS ho hd hf (ce ?_)));refine ag ?_;unfold setDrawn;refine ag (Yl ho hd hf ?_);dsimp only;refine ag (nQ ?_);refine ce ?_;by_cases uI:(!w.params.followText "set-order" && (!t.plain && decide (es.size > 1)))=true
 ·show wpAny _ _ (if (!w.params.followText "set-order" && (!t.plain && decide (es.size > 1)))=true then _ else _) _ _ s
  rw[if_pos uI];refine ag (nO _ _ (by simp) fun ps d CL=>?_)
  have dy:ps.length=es.size :=by rw[CL.length_eq,GM]
  refine ag (wpAny_newTuple ?_ (by rw[ci,dy];exact fits_of_scanBound hb))
  refine ag (wpAny_setEpoch_of (o:=o) (cb _ ho) hd hf ?_);unfold newFields;refine ag (zw ?_ (by size_fits))
  have hsz:∀u:li,(s.heap.push u).objs.size=s.heap.objs.size+1:=fun u=>AS _ _
  have hit:eZ ((s.heap.push {cls:=.type "tuple",data:=.seq (ps.map fun (i:Nat)=>rawInt i).toArray}).push {cls:=.type "set_iterator",data:=.fields #[.ref s.heap.objs.size,.int (0:Nat) 0,.ref a,.int es.size 0,.int ep 0]}) (s.heap.push {cls:=.type "tuple",data:=.seq (ps.map fun (i:Nat)=>rawInt i).toArray}).objs.size a (.ref s.heap.objs.size) 0 es.size ep:=⟨_,ff _ rfl,rfl,rfl⟩
  have Vj:(ps.map fun j=>iE (es.getD j (0,.none))).Perm ns :=by
   refine((CL.map _).trans ?_).trans hp;have:(jp es.size).map (fun j=>iE (es.getD j (0,.none)))=es.toList.map iE :=by
    refine List.ext_getElem (by simp) fun n h1 h2=>?_
    have vU:n<es.size :=by simpa using h1
    simp[Array.getD,vU]
   rw[this]
  refine ce ⟨_,rfl,"set_iterator",_,eZ.typeIs (s:={s with heap:=_,drawn:=d}) hit,cD.lookup,?_⟩
  refine hQ _ _ d _ [(s.heap.push {cls:=.type "tuple",data:=.seq (ps.map fun (i:Nat)=>rawInt i).toArray}).objs.size,a,s.heap.objs.size] _ Vj (fun b o e=>cb _ (cb _ e)) (by rw[hsz];exact LF _) (fun b hb=>?_) (fun A' hA=>AK (t:=t) (ep:=ep) hA ?_ ?_ zu (fun j hj=>by simpa using CL.mem_iff.mp hj) dy) ⟨hE.cG fun o e=>cb _ (cb _ e),⟨_,cb _ (ff _ rfl),rfl,_,rfl⟩,hit⟩
  ·simp only[kw,Cs,or_false]at hb;rcases hb with rfl|rfl|rfl
   ·exact .inr (by rw[hsz];exact LF _)
   ·exact .inl rfl
   ·exact .inr (c8 _)
  ·rw[hsz];exact l7 (KB aT)
  ·rw[hsz];exact l7 (Gc _)
 ·show wpAny _ _ (if (!w.params.followText "set-order" && (!t.plain && decide (es.size > 1)))=true then _ else _) _ _ s
  rw[if_neg uI];refine ag (ce (ag (wpAny_setEpoch_of ho hd hf ?_)));unfold newFields;refine ag (zw ?_ (by size_fits))
  have hit:eZ (s.heap.push {cls:=.type "set_iterator",data:=.fields #[.int (0:Nat) 0,.int (0:Nat) 0,.ref a,.int es.size 0,.int ep 0]}) s.heap.objs.size a (.int (0:Nat) 0) 0 es.size ep:=⟨_,ff _ rfl,rfl,rfl⟩
  refine ce ⟨_,rfl,"set_iterator",_,eZ.typeIs (s:={s with heap:=_}) hit,cD.lookup,?_⟩
  refine hQ _ _ s.drawn _ [s.heap.objs.size,a] _ (((jB w a ep es).map iE).trans hp) (fun b o e=>cb _ e) (c8 _) (fun b hb=>?_) (fun A' hA=>FE (t:=t) (ep:=ep) hA (l7 aT) zu fun hb=>?_) ⟨hE.cG fun o e=>cb _ e,0,hit,fun _=>AJ ht.ris⟩
  ·simp only[kw,Cs,or_false]at hb;rcases hb with rfl|rfl
   ·exact .inr (c8 _)
   ·exact .inl rfl
  ·rw[hb]at uI;simpa using uI
theorem yC {a:ac}{Q:Bool->ba->Prop}(hT:s.TypeIs (.ref a) "set") (h:Q false s):wpAny (model P w) A (tz.List.listLengthHint (.ref a)) Q E s :=by
 unfold tz.List.listLengthHint;refine ag (wpAny_specialOf hT F.slot_set_len.lookup ?_);have e:splitId "set.__len__" = some ("set","__len__") :=by kernel_rfl
 dsimp only;rw[e];dsimp only;refine ag (LS hT sub_set_self ?_);simp only[Zn,l6,if_false];show wpAny _ _ (if _=true then _ else _) _ _ s
 rw[if_pos (by kernel_rfl)]
 exact ag (wpAny_typeOf hT (ce h))
theorem ints_of {xs:List Int}{acc:Array al}(h:ItemsOf (CK xs) acc xs.length):WJ acc.toList xs :=by
 obtain⟨hs,hi⟩:=h;have:∀(vs:List al) (xs:List Int),vs.length=xs.length->(∀(j:Nat) (v:al),vs[j]?=some v->CK xs j v)->WJ vs xs :=by
  intro vs;induction vs with
  |nil=>intro xs hl _;cases xs with|nil=>exact .nil|cons x xs=>simp at hl
  |cons v vs ih=>
   intro xs hl hg;cases xs with
   |nil=>simp at hl
   |cons x xs=>
    obtain⟨m,t,e1,rfl⟩:=hg 0 v rfl;have e2:x=m :=by simpa using e1
    subst e2;refine .cons _ _ (ih xs (by simpa using hl) fun j u hu=>?_)
    obtain⟨m',t',e3,e4⟩:=hg (j+1) u (by simpa using hu)
    exact⟨m',t',by simpa using e3,e4⟩
 exact this acc.toList xs (by simpa using hs) fun j v hv=>hi j v (by rw[<- WI];exact hv)
theorem yD {a:ac}{ns:List Int}{QL:List al->ba->Prop}(hh:A.handled=none) (hS:jl P w s.heap a ns) (hz:ns.length<=sizeLine)
  (hQ:∀us xs h' d' tk,WJ us xs->xs.Perm ns->(∀b o,s.heap.get? b=some o->h'.get? b=some o)->QL us {s with heap:=h',drawn:=d',toks:=tk}):wpAny (model P w) A (collect (.ref a)) QL E s :=by
 have aT:a<s.heap.objs.size:=let ⟨_,_,_,_,ho,_⟩:=hS;ij ho;have Su:s.heap.objs.size≠a:=No aT;unfold collect;refine ag (wpAny_runValue (Po F.entry_proto_collect ?_));rw[NG F.plain_proto_collect _];show wpAny _ A.in1 (newList []>>=fun l=>again (.builtin "list.__iadd__" ⟨[l,.ref a],[]⟩)) _ _ s
 refine ag (zw ?_);refine ce ⟨LP Ym _,Po F.entry_list_iadd ?_⟩;rw[NG Ym _];have Nj:jl P w (s.heap.push {cls:=.type "list",data:=.seq ([]:List al).toArray}) a ns:=hS.cG fun o e=>cb _ e
 have T1:ba.TypeIs {s with heap:=s.heap.push {cls:=.type "list",data:=.seq ([]:List al).toArray}} (.ref a) "set" := jl.typeIs (P:=P) (w:=w) (h:=s.heap) (s:={s with heap:=_}) Nj
 show wpAny _ A.in1 (Pc (.ref s.heap.objs.size) (.ref a) (.ref s.heap.objs.size)) _ _ _;unfold Pc;refine ag (wpAny_typeOf T1 ?_);have h1:tz.List.listSameRef (.ref s.heap.objs.size) (.ref a)=false :=by simp[tz.List.listSameRef,Su]
 have h2:(LH "set" == LH "list")=false :=by decide
 have h3:(LH "set" == LH "tuple")=false :=by decide
 simp only[h1,h2,h3,Bool.or_false,l6,if_false];refine ag (AO (s:={s with heap:=s.heap.push {cls:=.type "list",data:=.seq ([]:List al).toArray}}) Nj ?_)
 intro I h' d' xs fp St hp hk hI Vk hW jv;have T2:ba.TypeIs {s with heap:=h',drawn:=d'} (.ref a) "set" := jl.typeIs (P:=P) (w:=w) (h:=s.heap) (s:={s with heap:=_,drawn:=d'}) (Nj.cG fun o e=>hk a o e)
 refine ag (GE (yC T2 ?_));show wpAny _ A.in1 (if _=true then _ else _) _ _ _
 rw[if_pos (by kernel_rfl)]
 show wpAny _ A.in1 (rule "list.extend.makes-room" >>= fun _=>tz.List.listTouch (.ref s.heap.objs.size)>>=fun _=>
  again (.builtin "list.extend.loop" ⟨[.ref s.heap.objs.size,.ref I,.ref s.heap.objs.size],[]⟩)) _ _ _
 refine ag (LM ?_);have HD:h'.get? s.heap.objs.size=some {cls:=.type "list",data:=.seq ([]:List al).toArray}:=hk _ _ (ff _ rfl)
 refine ag ?_;show wpAny _ A.in1 (updateSeq s.heap.objs.size (·.push .none)>>=fun _=>updateSeq s.heap.objs.size (·.pop)) _ _ _
 refine ag (Ps HD rfl ?_);have HE:=AC (FS (·.push GS)) HD rfl;refine Ps HE rfl ?_;have Q6:=AC (FS (·.pop)) HE rfl;have oth:∀b o,b≠s.heap.objs.size->h'.get? b=some o->((h'.update s.heap.objs.size (FS (·.push GS))).update s.heap.objs.size (FS (·.pop))).get? b=some o:=
  fun b o hb e=>(wT _ _ (AN hb)).trans ((wT _ _ (AN hb)).trans e)
 have Nk:(s.heap.push {cls:=.type "list",data:=.seq ([]:List al).toArray}).objs.size=s.heap.objs.size+1:=AS _ _
 have HF:s.heap.objs.size ∉ fp:=fun hm=>by
  rcases Vk _ hm with z|z
  ·exact Su z
  ·have z':s.heap.objs.size+1<=s.heap.objs.size :=by rw[<- Nk];exact z
   exact absurd z' (Nat.not_succ_le_self _)
 have W:=hW A.in1.in1 (by simp[hh])
 have hl:xs.length<=sizeLine :=by rw[hp.length_eq];exact hz
 refine ce ⟨LP F.plain_extend_loop _,codeAny_extend_loopS (W.of_in1) hl _ HF _ xs.length 0 _ _ _ rfl (xb _) (W.frame 0 ({s with heap:=h',drawn:=d'}:ba) _ s.toks jv (c8 _) fun b hb o e=>oth b o (fun h=>HF (h▸hb)) e) Q6 (ItemsOf.nil _) fun s' jk c' hm Vl Nm=>?_⟩
 show wpAny _ A (load s.heap.objs.size>>=_) _ _ s';refine ag (wpAny_load Vl ?_);refine ce ?_;obtain⟨h2,g2,d2,Vm,os2⟩:=s';have eg:g2=s.gens:=hm.gens;have ed:d2=d':=hm.drawn;have eo:os2=s.os:=hm.os;subst eg;subst ed;subst eo;refine hQ _ xs h2 _ Vm (ints_of Nm) hp fun b o e=>hm.heap b o ?_ (oth b o (l7 (ij e)) (hk b o (cb _ e)))
 have hb:b<s.heap.objs.size:=ij e;simp only[kw,Cs,or_false,not_or];refine⟨l7 hb,fun z=>?_⟩
 have z':s.heap.objs.size+1<=b :=by rw[<- Nk,z];exact hI
 exact absurd (l9 (KB hb) z') (ET _)
end
def sortI (ns:List Int):List Int:=ns.mergeSort fun a b=>decide (a<=b)
theorem sortI_perm (ns:List Int):(sortI ns).Perm ns:=List.mergeSort_perm _ _
theorem FH (ns:List Int):(sortI ns).Pairwise (·<=·) :=by
 have:=List.pairwise_mergeSort (le:=fun a b:Int=>decide (a<=b)) (fun a b c h1 h2=>by simp only[decide_eq_true_eq]at *;omega) (fun a b=>by simp only[X2,decide_eq_true_eq];omega) ns
 exact this.imp fun h=>by simpa using h
theorem yE {a b:List Int}(p:a.Perm b) (ha:a.Pairwise (·<=·)) (hb:b.Pairwise (·<=·)):a=b:=YF.eq_of_pairwise (le:=(·<=·)) (fun x y _ _ h1 h2=>Int.le_antisymm h1 h2) ha hb p
theorem wH {ms ns:List Int}(p:ms.Perm ns) (h:ms.Pairwise (·<=·)):ms=sortI ns:=yE (p.trans (sortI_perm ns).symm) h (FH ns)
theorem mP:∀{ns:List Int}{us:List al},Vals (ns.map V.int) us->WJ us ns
 | [],_,.nil=>.nil
 |n::ns,_,.cons r t=>by
          obtain⟨k,rfl⟩:=r;exact .cons _ _ (mP t)
theorem nR:∀{ns:List Int}{us:List al},WJ us ns->Vals (ns.map V.int) us
 |_,_,.nil=>.nil
 |_,_,.cons n t r=>.cons ⟨t,rfl⟩ (nR r)
section
variable {P:gc}{w:i4}{A:rb}{E:al->ba->Prop}{s:ba}
theorem pZ {T:String}{l:ac}{vs:List al}{Q:List al->ba->Prop}{o:li}{n:Nat}(ho:s.heap.get? l=some o) (hc:o.cls=.type T) (hd:o.data=.seq vs.toArray n) (hT:T = "list" \/ T = "tuple")
  (h:∀h',(∀b o,s.heap.get? b=some o->h'.get? b=some o)->Q vs {s with heap:=h'}) (hsz:vs.length<=sizeLine):wpAny (model P w) A (collect (.ref l)) Q E s :=by
 unfold collect;refine ag (wpAny_runValue (Po F.entry_proto_collect ?_));rw[NG F.plain_proto_collect _];show wpAny _ A.in1 (newList []>>=fun l'=>again (.builtin "list.__iadd__" ⟨[l',.ref l],[]⟩)) _ _ s
 refine ag (wpAny_newList (ce ⟨LP Ym _,Po F.entry_list_iadd ?_⟩));rw[NG Ym _];show wpAny _ A.in1 (Pc (.ref s.heap.objs.size) (.ref l) (.ref s.heap.objs.size)) _ _ {s with heap:=s.heap.push (seqObj "list" #[] 0)}
 unfold Pc;have iA:(s.heap.push (seqObj "list" #[] 0)).get? l=some o:=cb _ ho
 refine ag (wpAny_typeOf (T:=T) ⟨o,iA,hc⟩ ?_);rw[if_pos (by rcases hT with rfl|rfl<;>simp)]
 refine ag (listItems_at iA hd ?_);refine ag (listItems_at (xs:=#[]) (n:=0) (ff _ rfl) rfl ?_);rw[if_neg (by simp)]
 refine ag (listUpdate_at (xs:=#[]) (n:=0) (ff _ rfl) rfl ?_ (xb _) (by show (#[]++vs.toArray).size<=sizeLine+1;simp only[Array.size_append,ii,Uf];omega))
 refine ce ?_;show wpAny (model P w) A (load s.heap.objs.size>>=_) Q E _;refine ag (wpAny_load (get?_update_seq (ff _ rfl) _) ?_);show wpAny _ _ (pure ((#[]:Array al)++vs.toArray).toList) Q E _;rw[show ((#[]:Array al)++vs.toArray).toList=vs by simp]
 exact ce (h _ fun b o e=>(wT _ _ (No (ij e))).trans (cb _ e))
theorem AQ {a:al}{ns:List Int}{Q:al->ba->Prop}(Ui:∀QL:List al->ba->Prop,(∀us xs h' d' tk,WJ us xs->xs.Perm ns->(∀b o,s.heap.get? b=some o->h'.get? b=some o)->QL us {s with heap:=h',drawn:=d',toks:=tk})->wpAny (model P w) A.in1 (collect a) QL E s) (Np:ns.length<64)
  (h:∀(h1 h':hX) d' tk (us:List al) e,WJ us (sortI ns)->(∀b o,s.heap.get? b=some o->h1.get? b=some o)->(∀b o,h1.get? b=some o->h'.get? b=some o)->h'.get? h1.objs.size=some {cls:=.type "list",data:=.seq us.toArray e}->Q (.ref h1.objs.size) {s with heap:=h',drawn:=d',toks:=tk}) :
  wpAny (model P w) A (call (.builtin "sorted") [a]) Q E s :=by
 refine Calls.call_function_entry kind_sorted plain_sorted entry_sorted (args_sorted1 _) ?_;unfold tz.«sorted»;refine ag (m:=checkCount "sorted" 1 1 _) (ce ?_)
 refine ag (Ui _ fun us xs h' d' tk hI hp hk=>?_)
 have Nq:us.length<64 :=by
  have:us.length=xs.length:=(nR hI).length.symm.trans (ci _);rw[this,hp.length_eq];exact Np
 refine ag (wpAny_newList ?_ (hsz:=wr (ON Nq) (by decide)))
 have B1:(h'.push (seqObj "list" us.toArray 0)).get? h'.objs.size=some (seqObj "list" us.toArray 0):=ff _ rfl
 refine ag (GE (xL slot_list_sort ⟨_,B1,rfl⟩ entry_list_sort (list_sort_tree B1 hI Nq fun out Xv a1 a2 a3=>⟨_,rfl,?_⟩) (args_list_sort _)))
 refine ce ⟨_,rfl,?_⟩;obtain⟨e,he⟩:=sortedHeap_at (out:=out) B1;refine h h' _ d' tk out.toList e (by rw[<- wH (a2.trans hp) a3];exact a1) hk (fun b o hb=>?_) (by simpa using he)
 have aT:=ij hb;rw[sortedHeap_old (l7 aT) (by rw[AS];exact KB aT)]
 exact cb _ hb
end
theorem JL {X:Cx}{pins:List (ac×li)}{σ:St}{H:Hp}{s:ba}{a:ac}{ns:List Int}(I:Inv X pins σ H s) (h:H a=some (AF X.prog X.w a ns)):jl X.prog X.w s.heap a ns:=(I.hok a _ h).1
inductive Dt where
 |au|bl (b:Bool)|int (i:Int)|str (x:bn)|lst (xs:List Dt)|tup (xs:List Dt)
inductive fH (H:Hp):V->Dt->Prop where
 |au:fH H .au .au
 |bl (b:Bool):fH H (.bl b) (.bl b)
 |int (i:Int):fH H (.int i) (.int i)
 |str (x:bn):fH H (.str x) (.str x)
 |lst {a:ac} {xs:List V} {ds:List Dt} (e:H a=some (.lst xs)) (hl:xs.length=ds.length) (h:∀(i:Nat) (x:V) (d:Dt),xs[i]?=some x->ds[i]?=some d->fH H x d):fH H (.ref a) (.lst ds)
 |tup {a:ac} {xs:List V} {ds:List Dt} (e:H a=some (.tup xs)) (hl:xs.length=ds.length) (h:∀(i:Nat) (x:V) (d:Dt),xs[i]?=some x->ds[i]?=some d->fH H x d):fH H (.ref a) (.tup ds)
mutual
def fI:Dt->Dt->Bool
 | .au,.au=>true
 | .bl a,.bl b=>a==b
 | .bl a,.int b=>(if a then 1 else 0)==b
 | .int a,.bl b=>a==(if b then 1 else 0)
 | .int a,.int b=>a==b
 | .str a,.str b=>a==b
 | .lst xs,.lst ys=>j5 xs ys
 | .tup xs,.tup ys=>j5 xs ys
 |_,_=>false
def j5:List Dt->List Dt->Bool
 | [],[]=>true
 |x::xs,y::ys=>fI x y && j5 xs ys
 |_,_=>false
end
mutual
theorem j6:∀d:Dt,fI d d=true
 | .au=>by simp[fI]
 | .bl b=>by simp[fI]
 | .int i=>by simp[fI]
 | .str x=>by simp[fI]
 | .lst xs=>by simp only[fI];exact nU xs
 | .tup xs=>by simp only[fI];exact nU xs
theorem nU:∀ds:List Dt,j5 ds ds=true
 | []=>by simp[j5]
 |d::ds=>by simp only[j5];rw[j6 d,nU ds];rfl
end
theorem g9:∀(xs ys:List Dt),j5 xs ys=((jp (min xs.length ys.length)).all (fun j=>fI (xs.getD j .au) (ys.getD j .au)) && xs.length==ys.length)
 | [],[]=>by simp[j5]
 | [],_::_=>by simp[j5]
 |_::_,[]=>by simp[j5]
 |x::xs,y::ys=>by
          rw[j5,g9 xs ys];have e:min (x::xs).length (y::ys).length=min xs.length ys.length+1 :=by simp[Nat.succ_min_succ]
          rw[e,List.range_succ_eq_map,Ys,List.all_map];have e2:((x::xs).length==(y::ys).length)=(xs.length==ys.length) :=by simp
          rw[e2,Bool.and_assoc];rfl
theorem fH.inj {H:Hp}{v:V}{d:Dt}(h:fH H v d):∀{d':Dt},fH H v d'->d=d':=by
 induction h with
 |au=>intro d' h';cases h';rfl
 |bl b=>intro d' h';cases h';rfl
 |int i=>intro d' h';cases h';rfl
 |str x=>intro d' h';cases h';rfl
 |lst e hl h ih=>
  intro d' h';cases h' with
  |lst e' Nr h'=>
   rw[e]at e';cases e';congr 1
   refine KM fun i=>?_
   rename_i xs ds ds';by_cases hi:i<xs.length
   ·rw[ap (by omega),ap (by omega)]
    exact congrArg some (ih i _ _ (ap hi) (ap (by omega)) (h' i _ _ (ap hi) (ap (by omega))))
   ·rw[wP (by omega),wP (by omega)]
  |tup e' Nr h'=>rw[e]at e';cases e'
 |tup e hl h ih=>
  intro d' h';cases h' with
  |lst e' Nr h'=>rw[e]at e';cases e'
  |tup e' Nr h'=>
   rw[e]at e';cases e';congr 1
   refine KM fun i=>?_
   rename_i xs ds ds';by_cases hi:i<xs.length
   ·rw[ap (by omega),ap (by omega)]
    exact congrArg some (ih i _ _ (ap hi) (ap (by omega)) (h' i _ _ (ap hi) (ap (by omega))))
   ·rw[wP (by omega),wP (by omega)]
mutual
def k4:Dt->Nat
 | .lst xs=>hV xs+1
 | .tup xs=>hV xs+1
 |_=>0
def hV:List Dt->Nat
 | []=>0
 |x::xs=>max (k4 x) (hV xs)
end
theorem nV:∀{ds:List Dt}{i:Nat}{d:Dt},ds[i]?=some d->k4 d<=hV ds
 | [],_,_,h=>by simp at h
 |x::xs,0,d,h=>by
          simp at h;subst h;rw[hV];exact Nat.le_max_left _ _
 |x::xs,i+1,d,h=>by
          rw[hV];exact wr (nV (i:=i) (by simpa using h)) (Nat.le_max_right _ _)
section
variable {X:Cx}{pins:List (ac×li)}{σ:St}{H:Hp}{s:ba}
theorem Inv.lists (I:Inv X pins σ H s) {a:ac}{xs:List V}(h:H a=some (.lst xs)):∃its:List al,Vals xs its/\s.heap.IsList a its.toArray :=by
 obtain⟨its,rv,p,_⟩:=I.list (bo.of h);exact⟨its,rv,p.isList⟩
theorem Inv.tups (I:Inv X pins σ H s) {a:ac}{xs:List V}(h:H a=some (.tup xs)):∃its:List al,Vals xs its/\s.heap.IsTuple a its.toArray :=by
 obtain⟨its,rv,p,_⟩:=I.tuple (cw.of h);exact⟨its,rv,p⟩
theorem CM (I:Inv X pins σ H s) {x y:V}{d:Dt}(hx:fH H x d):∀{e:Dt}{u v:al}{A:rb},fH H y e->RelV x u->RelV y v->A.units+k4 d<cLine->l4 A s u v (fI d e) :=by
 have lists:=fun {a:ac} {xs:List V} (h:H a=some (.lst xs))=>I.lists h
 have tups:=fun {a:ac} {xs:List V} (h:H a=some (.tup xs))=>I.tups h
 induction hx generalizing y with
 |au=>
  intro e u v A hy rx ry hu;have bK:A.units<cLine :=by omega
  cases rx;cases hy with
  |au=>cases ry;exact YM _
  |bl b=>cases ry;exact l4.none_bool _
  |int i=>obtain⟨t,rfl⟩:=ry;exact l4.none_int _ _
  |str z=>obtain⟨t,rfl⟩:=ry;exact l4.none_str _ _
  |lst e2 _ _=>cases ry;obtain⟨_,_,p⟩:=lists e2;exact l4.none_list p bK
  |tup e2 _ _=>cases ry;obtain⟨_,_,p⟩:=tups e2;exact l4.none_tuple p bK
 |bl a=>
  intro e u v A hy rx ry hu;have bK:A.units<cLine :=by omega
  cases rx;cases hy with
  |au=>cases ry;exact l4.bool_none _
  |bl b=>cases ry;exact l4.bool_bool _ _
  |int i=>obtain⟨t,rfl⟩:=ry;exact l4.bool_int _ _ _
  |str z=>obtain⟨t,rfl⟩:=ry;exact l4.bool_str _ _ _
  |lst e2 _ _=>cases ry;obtain⟨_,_,p⟩:=lists e2;exact l4.bool_list _ p bK
  |tup e2 _ _=>cases ry;obtain⟨_,_,p⟩:=tups e2;exact l4.bool_tuple _ p bK
 |int a=>
  intro e u v A hy rx ry hu;have bK:A.units<cLine :=by omega
  obtain⟨ta,rfl⟩:=rx;cases hy with
  |au=>cases ry;exact l4.int_none _ _
  |bl b=>cases ry;exact l4.int_bool _ _ _
  |int i=>obtain⟨t,rfl⟩:=ry;exact Zf _ _ _ _
  |str z=>obtain⟨t,rfl⟩:=ry;exact Y8 _ _ _ _
  |lst e2 _ _=>cases ry;obtain⟨_,_,p⟩:=lists e2;exact l4.int_list _ _ p bK
  |tup e2 _ _=>cases ry;obtain⟨_,_,p⟩:=tups e2;exact l4.int_tuple _ _ p bK
 |str a=>
  intro e u v A hy rx ry hu;have bK:A.units<cLine :=by omega
  obtain⟨ta,rfl⟩:=rx;cases hy with
  |au=>cases ry;exact l4.str_none _ _
  |bl b=>cases ry;exact l4.str_bool _ _ _
  |int i=>obtain⟨t,rfl⟩:=ry;exact Za _ _ _ _
  |str z=>obtain⟨t,rfl⟩:=ry;exact l4.str_str _ _ _ _
  |lst e2 _ _=>cases ry;obtain⟨_,_,p⟩:=lists e2;exact l4.str_list _ _ p bK
  |tup e2 _ _=>cases ry;obtain⟨_,_,p⟩:=tups e2;exact l4.str_tuple _ _ p bK
 |lst e1 md h1 ih=>
  rename_i a xs ds;intro e u v A hy rx ry hu;have bK:A.units<cLine :=by omega
  have CN:A.units+hV ds+1<cLine :=by rw[k4]at hu;omega
  cases rx;obtain⟨its,rv,p⟩:=lists e1;cases hy with
  |au=>cases ry;exact l4.list_none p bK
  |bl b=>cases ry;exact l4.list_bool _ p bK
  |int i=>obtain⟨t,rfl⟩:=ry;exact l4.list_int _ _ p bK
  |str z=>obtain⟨t,rfl⟩:=ry;exact l4.list_str _ _ p bK
  |lst e2 iB h2=>
   rename_i b ys es;cases ry;by_cases wI:a=b
   ·subst wI;have:=(fH.lst e1 md h1).inj (fH.lst e2 iB h2);cases this;rw[j6];exact YM _
   ·obtain⟨cO,jx,p2⟩:=lists e2;have l1:=rv.length;have l2:=jx.length;have at_:∀j (g1:j<its.toArray.size) (g2:j<cO.toArray.size),l4 A.in1 s its.toArray[j] cO.toArray[j] (fI (ds.getD j .au) (es.getD j .au)):=fun j g1 g2=>by
     have nW:j<xs.length :=by rw[l1];simpa using g1
     have nX:j<ys.length :=by rw[l2];simpa using g2
     have r1:=eQ rv g1;have r2:=eQ jx g2;rw[cr,ap nW]at r1;rw[cr,ap nX]at r2;have d1:ds[j]?=some ds[j]:=ap (by omega)
     have d2:es[j]?=some es[j]:=ap (by omega)
     rw[cr,cr,d1,d2];have:=nV d1;exact ih j _ _ (ap nW) d1 (h2 j _ _ (ap nX) d2) r1 r2 (by show A.units+1+_<cLine;omega)
    refine l4.of_refs wI ?_;rw[fI,g9];by_cases hsz:ds.length=es.length
    ·have q:=qr.lists p p2 (by simp only[ii];omega) bK at_
     have z:(ds.length==es.length)=true :=by simpa using hsz
     rw[z,Bool.and_true,<- hsz,Pd];rw[ii,<- l1,md]at q;exact q
    ·have z:(ds.length==es.length)=false :=by simpa using hsz
     rw[z,Bool.and_false];exact qr.lists_lengths p p2 (by simp only[ii];simpa[bne_iff_ne] using (show its.length≠cO.length by omega)) bK
  |tup e2 iB h2=>cases ry;obtain⟨_,_,p2⟩:=tups e2;exact l4.list_tuple p p2 bK
 |tup e1 md h1 ih=>
  rename_i a xs ds;intro e u v A hy rx ry hu;have bK:A.units<cLine :=by omega
  have CN:A.units+hV ds+1<cLine :=by rw[k4]at hu;omega
  cases rx;obtain⟨its,rv,p⟩:=tups e1;cases hy with
  |au=>cases ry;exact l4.tuple_none p bK
  |bl b=>cases ry;exact l4.tuple_bool _ p bK
  |int i=>obtain⟨t,rfl⟩:=ry;exact l4.tuple_int _ _ p bK
  |str z=>obtain⟨t,rfl⟩:=ry;exact l4.tuple_str _ _ p bK
  |lst e2 iB h2=>cases ry;obtain⟨_,_,p2⟩:=lists e2;exact l4.tuple_list p p2 bK
  |tup e2 iB h2=>
   rename_i b ys es;cases ry;by_cases wI:a=b
   ·subst wI;have:=(fH.tup e1 md h1).inj (fH.tup e2 iB h2);cases this;rw[j6];exact YM _
   ·obtain⟨cO,jx,p2⟩:=tups e2;have l1:=rv.length;have l2:=jx.length;have at_:∀j (g1:j<its.toArray.size) (g2:j<cO.toArray.size),l4 A.in1 s its.toArray[j] cO.toArray[j] (fI (ds.getD j .au) (es.getD j .au)):=fun j g1 g2=>by
     have nW:j<xs.length :=by rw[l1];simpa using g1
     have nX:j<ys.length :=by rw[l2];simpa using g2
     have r1:=eQ rv g1;have r2:=eQ jx g2;rw[cr,ap nW]at r1;rw[cr,ap nX]at r2;have d1:ds[j]?=some ds[j]:=ap (by omega)
     have d2:es[j]?=some es[j]:=ap (by omega)
     rw[cr,cr,d1,d2];have:=nV d1;exact ih j _ _ (ap nW) d1 (h2 j _ _ (ap nX) d2) r1 r2 (by show A.units+1+_<cLine;omega)
    refine l4.of_refs wI ?_;rw[fI,g9];have q:=qr.tuples p p2 bK at_;rw[ii,ii,<- l1,<- l2,md,iB]at q;exact q
theorem Nt (I:Inv X pins σ H s) {x y:V}{d e:Dt}{u v:al}{A:rb}(hx:fH H x d) (hy:fH H y e) (rx:RelV x u) (ry:RelV y v) (hu:A.units+k4 d<cLine):qr A s u v (fI d e) :=by
 have bK:A.units<cLine :=by omega
 have lists:=fun {a:ac} {xs:List V} (h:H a=some (.lst xs))=>I.lists h
 have tups:=fun {a:ac} {xs:List V} (h:H a=some (.tup xs))=>I.tups h
 cases hx with
 |au=>
  cases rx;cases hy with
  |au=>cases ry;exact qr.none_none
  |bl b=>cases ry;exact qr.none_bool _
  |int b=>obtain⟨t,rfl⟩:=ry;exact qr.none_int _ _
  |str b=>obtain⟨t,rfl⟩:=ry;exact qr.none_str _ _
  |lst e2 _ _=>cases ry;obtain⟨_,_,p⟩:=lists e2;exact qr.none_list p bK
  |tup e2 _ _=>cases ry;obtain⟨_,_,p⟩:=tups e2;exact qr.none_tuple p bK
 |bl a=>
  cases rx;cases hy with
  |au=>cases ry;exact qr.bool_none _
  |bl b=>cases ry;exact qr.bool_bool _ _
  |int b=>obtain⟨t,rfl⟩:=ry;exact qr.bool_int _ _ _
  |str b=>obtain⟨t,rfl⟩:=ry;exact qr.bool_str _ _ _
  |lst e2 _ _=>cases ry;obtain⟨_,_,p⟩:=lists e2;exact qr.bool_list _ p bK
  |tup e2 _ _=>cases ry;obtain⟨_,_,p⟩:=tups e2;exact qr.bool_tuple _ p bK
 |int a=>
  obtain⟨ta,rfl⟩:=rx;cases hy with
  |au=>cases ry;exact qr.int_none _ _
  |bl b=>cases ry;exact qr.int_bool _ _ _
  |int b=>obtain⟨t,rfl⟩:=ry;exact qr.int_int _ _ _ _
  |str b=>obtain⟨t,rfl⟩:=ry;exact qr.int_str _ _ _ _
  |lst e2 _ _=>cases ry;obtain⟨_,_,p⟩:=lists e2;exact qr.int_list _ _ p bK
  |tup e2 _ _=>cases ry;obtain⟨_,_,p⟩:=tups e2;exact qr.int_tuple _ _ p bK
 |str a=>
  obtain⟨ta,rfl⟩:=rx;cases hy with
  |au=>cases ry;exact qr.str_none _ _
  |bl b=>cases ry;exact qr.str_bool _ _ _
  |int b=>obtain⟨t,rfl⟩:=ry;exact qr.str_int _ _ _ _
  |str b=>obtain⟨t,rfl⟩:=ry;exact qr.str_str _ _ _ _
  |lst e2 _ _=>cases ry;obtain⟨_,_,p⟩:=lists e2;exact qr.str_list _ _ p bK
  |tup e2 _ _=>cases ry;obtain⟨_,_,p⟩:=tups e2;exact qr.str_tuple _ _ p bK
 |lst e1 md h1=>
  rename_i a xs ds;have CN:A.units+hV ds+1<cLine :=by rw[k4]at hu;omega
  cases rx;obtain⟨its,rv,p⟩:=lists e1;cases hy with
  |au=>cases ry;exact qr.list_none p bK
  |bl b=>cases ry;exact qr.list_bool _ p bK
  |int b=>obtain⟨t,rfl⟩:=ry;exact qr.list_int _ _ p bK
  |str b=>obtain⟨t,rfl⟩:=ry;exact qr.list_str _ _ p bK
  |lst e2 iB h2=>
   rename_i b ys es;cases ry;obtain⟨cO,jx,p2⟩:=lists e2;have l1:=rv.length;have l2:=jx.length;have at_:∀j (g1:j<its.toArray.size) (g2:j<cO.toArray.size),l4 A.in1 s its.toArray[j] cO.toArray[j] (fI (ds.getD j .au) (es.getD j .au)):=fun j g1 g2=>by
    have nW:j<xs.length :=by rw[l1];simpa using g1
    have nX:j<ys.length :=by rw[l2];simpa using g2
    have r1:=eQ rv g1;have r2:=eQ jx g2;rw[cr,ap nW]at r1;rw[cr,ap nX]at r2;have d1:ds[j]?=some ds[j]:=ap (by omega)
    have d2:es[j]?=some es[j]:=ap (by omega)
    rw[cr,cr,d1,d2];have:=nV d1;exact CM I (h1 j _ _ (ap nW) d1) (h2 j _ _ (ap nX) d2) r1 r2 (by show A.units+1+_<cLine;omega)
   rw[fI,g9];by_cases hsz:ds.length=es.length
   ·have q:=qr.lists p p2 (by simp only[ii];omega) bK at_
    have z:(ds.length==es.length)=true :=by simpa using hsz
    rw[z,Bool.and_true,<- hsz,Pd];rw[ii,<- l1,md]at q;exact q
   ·have z:(ds.length==es.length)=false :=by simpa using hsz
    rw[z,Bool.and_false];exact qr.lists_lengths p p2 (by simp only[ii];simpa[bne_iff_ne] using (show its.length≠cO.length by omega)) bK
  |tup e2 iB h2=>cases ry;obtain⟨_,_,p2⟩:=tups e2;exact qr.list_tuple p p2 bK
 |tup e1 md h1=>
  rename_i a xs ds;have CN:A.units+hV ds+1<cLine :=by rw[k4]at hu;omega
  cases rx;obtain⟨its,rv,p⟩:=tups e1;cases hy with
  |au=>cases ry;exact qr.tuple_none p bK
  |bl b=>cases ry;exact qr.tuple_bool _ p bK
  |int b=>obtain⟨t,rfl⟩:=ry;exact qr.tuple_int _ _ p bK
  |str b=>obtain⟨t,rfl⟩:=ry;exact qr.tuple_str _ _ p bK
  |lst e2 iB h2=>cases ry;obtain⟨_,_,p2⟩:=lists e2;exact qr.tuple_list p p2 bK
  |tup e2 iB h2=>
   rename_i b ys es;cases ry;obtain⟨cO,jx,p2⟩:=tups e2;have l1:=rv.length;have l2:=jx.length;have at_:∀j (g1:j<its.toArray.size) (g2:j<cO.toArray.size),l4 A.in1 s its.toArray[j] cO.toArray[j] (fI (ds.getD j .au) (es.getD j .au)):=fun j g1 g2=>by
    have nW:j<xs.length :=by rw[l1];simpa using g1
    have nX:j<ys.length :=by rw[l2];simpa using g2
    have r1:=eQ rv g1;have r2:=eQ jx g2;rw[cr,ap nW]at r1;rw[cr,ap nX]at r2;have d1:ds[j]?=some ds[j]:=ap (by omega)
    have d2:es[j]?=some es[j]:=ap (by omega)
    rw[cr,cr,d1,d2];have:=nV d1;exact CM I (h1 j _ _ (ap nW) d1) (h2 j _ _ (ap nX) d2) r1 r2 (by show A.units+1+_<cLine;omega)
   rw[fI,g9];have q:=qr.tuples p p2 bK at_;rw[ii,ii,<- l1,<- l2,md,iB]at q;exact q
end
section
variable {X:Cx}
def Nu (neg:Bool):R2:=fun x y H Q=>∃d e,fH H x d/\fH H y e/\k4 d<=60/\Q (.bl (if neg then !fI d e else fI d e)) H
theorem Nv (hu:X.A.units+64<cLine):OpR X (compareOp .Eq) (Nu false) :=by
 intro pins s σ H x y v u Q I rx ry h;obtain⟨d,e,hx,hy,hd,q⟩:=h;exact Nt I hx hy rx ry (by omega) X.prog X.w X.xe _ ⟨.bl _,H,I,rfl,q⟩
end
theorem CO:bootBuiltins "sorted" = some (.builtin "sorted") :=by decide +kernel
section
variable {X:Cx}
def Nw (K:bi) (H:Hp) (p:ac) (ns:List Int):Prop:=bo K H p (ns.map V.int)\/cw K H p (ns.map V.int)
def zx (P:gc) (w:i4) (K:bi):List V->Hp->VK->Prop:=fun xs H Q=>∃p ns,xs=[.ref p]/\(H p=some (AF P w p ns)\/Nw K H p ns)/\ns.length<64/\∀l,H l=none->Q (.ref l) (upd H l (.lst ((sortI ns).map V.int)))
theorem wJ (hc:X.calm=true):cV X (.builtin "sorted") (zx X.prog X.w X.K) :=by
 intro pins s σ H xs us Q I r h;obtain⟨p,ns,rfl,hq,Np,q⟩:=h;obtain⟨u,rfl,rx⟩:=vals1 r;cases rx;have hh:=I.ok.hd hc;refine AQ (ns:=ns) (fun QL Nx=>?_) Np (fun h1 h' d' tk us e hI k1 k2 he=>?_)
 ·rcases hq with hq|hq|hq
  ·exact yD (by simp[hh]) (JL I hq) (by have:sizeLine=16777216:=XV;omega) Nx
  ·obtain⟨its,rv,pl,hz⟩:=I.list hq;have hl:=rv.length;obtain⟨o,ho,eY,n,hd⟩:=pl.isList;exact pZ ho eY hd (.inl rfl) (fun h' k=>Nx its ns h' s.drawn s.toks (mP rv) (.refl _) k) (by omega)
  ·obtain⟨its,rv,pl,hz⟩:=I.tuple hq;have hl:=rv.length;obtain⟨o,ho,eY,n,hd⟩:=pl;exact pZ ho eY hd (.inr rfl) (fun h' k=>Nx its ns h' s.drawn s.toks (mP rv) (.refl _) k) (by omega)
 ·have I1:Inv X pins σ H {s with heap:=h1,drawn:=d'}:=(I.kept (t':=s.toks) k1).lL ⟨rfl,rfl,I.bare.self⟩
  have hsz:sizeLine=16777216:=XV;have ob:ObjOk X.prog X.w (upd H h1.objs.size (.lst ((sortI ns).map V.int))) h' h1.objs.size (.lst ((sortI ns).map V.int)):=⟨by rw[ci,(sortI_perm ns).length_eq];omega,us,e,nR hI,he⟩
  exact⟨.ref h1.objs.size,_,I1.laid (t':=tk) k2 (c8 _) ob,rfl,q _ (I1.hok.fresh (c8 _))⟩
end
theorem CP:bootBuiltins "all" = some (.builtin "all"):=PyProof.Rows.boot_all
section
variable {X:Cx}
def HG (K:bi):List V->Hp->VK->Prop:=fun xs H Q=>∃(p:ac) (bs:List Bool),xs=[.ref p]/\bo K H p (bs.map V.bl)/\Q (.bl (bs.all id)) H
theorem CQ (hc:X.calm=true):cV X (.builtin "all") (HG X.K) :=by
 intro pins s σ H xs us Q I r h;obtain⟨p,bs,rfl,hq,q⟩:=h;obtain⟨u,rfl,rx⟩:=vals1 r;cases rx;have hh:=I.ok.hd hc;obtain⟨its,rv,pl,hz⟩:=I.list hq;have hl:its.toArray.size=bs.length :=by rw[ii,<- rv.length,ci]
 have zv:s.heap.IsList p its.toArray:=pl.isList;have aT:p<s.heap.objs.size:=let ⟨o,ho,_⟩:=zv;ij ho;have at_:∀(i:Nat) (v:al),its.toArray[i]?=some v->v=.bool (bs.getD i false):=fun i v hv=>by
  have h':its[i]?=some v :=by simpa using hv
  have hi:i<its.length:=(bv.mp h').1;have dQ:i<bs.length :=by rw[ii]at hl;omega
  obtain⟨u,e,q2⟩:=rv.get (i:=i) (x:=V.bl bs[i]) (by rw[br,ap dQ];rfl)
  rw[h']at e;cases e;rw[cr,ap dQ];exact q2
 refine Zh F.kind_all F.plain_all F.entry_all (F.args_all1 _) ?_;unfold tz.«all»;refine ag (m:=oneArg "all" _) (ce ?_)
 refine ag (Zu zv ?_);have W:=Walks.list (prog:=X.prog) (w:=X.w) (A:=X.A.in1) (by simp[hh]) s.heap.objs.size p (l7 aT) its.toArray
 refine ce ⟨LP Yy _,codeAny_all_loop W (fun i=>bs.getD i false) ?_ its.toArray.size 0 _ rfl (xb _) ⟨⟨_,ff _ rfl,rfl,rfl⟩,zv.push _⟩ fun h' tk hk=>?_⟩
 ·intro i v s' Q' E' hv Ny;have:=at_ i v hv;subst this;exact Cc Ny
 ·have e:((jp its.toArray.size).drop 0).all (fun i=>bs.getD i false)=bs.all id :=by
   rw[List.drop_zero,hl];refine TD.mpr ?_;rw[wn,wn];constructor
   ·intro hx b hb;obtain⟨i,hi⟩:=List.getElem?_of_mem hb;have me:=(bv.mp hi).1;have:=hx i (by rw[Me];exact me)
    rw[cr,hi]at this;exact this
   ·intro hx i hi;rw[Me]at hi;rw[cr,ap hi];exact hx _ (u8 hi)
  have I2:Inv X pins σ H {s with heap:=h',toks:=tk}:=I.kept fun b o eb=>hk b o (by simp only[lp];exact l7 (ij eb)) (cb _ eb)
  refine⟨.bl (bs.all id),H,I2,?_,q⟩;show YK _=YK _;rw[e]
theorem AR {K:bi}(h:X.K=K) (hc:X.calm=true):cV X (.builtin "all") (HG K):=h▸CQ hc
end
theorem ObjOk.there {P:gc}{w:i4}{H:Hp}{h:hX}{a:ac}{o:HO}(x:ObjOk P w H h a o):∃u,h.get? a=some u :=by
 cases o with
 |lst xs=>obtain⟨_,_,_,_,e⟩:=x;exact⟨_,e⟩
 |tup xs=>obtain⟨_,_,_,ob,e,_⟩:=x;exact⟨_,e⟩
 |dK ak=>obtain⟨_,_,_,_,o,_,_,e,_⟩:=x;exact⟨_,e⟩
 |dT ak=>obtain⟨_,_,_,_,o,_,_,e,_⟩:=x;exact⟨_,e⟩
 |set S n=>obtain⟨o,_,_,_,e,_⟩:=x;exact⟨_,e⟩
 |ins C dx fs=>obtain⟨_,_,_,e,_⟩:=x;exact⟨_,e⟩
 |own y=>obtain⟨_,e⟩:=x;exact⟨_,e⟩
 |xd fs=>obtain⟨_,⟨_,_,_,e,_⟩,_⟩:=x;exact⟨_,e⟩
 |Hl lo hi=>obtain⟨_,_,_,e⟩:=x;exact⟨_,e⟩
 |bM ob u=>obtain⟨e,_⟩:=x;exact⟨_,e⟩
 |c7 ps=>exact⟨_,x⟩
 |lam ps=>exact⟨_,x⟩
 |met f y=>exact⟨_,x⟩
 |ext φ=>obtain⟨_,⟨_,e⟩,_⟩:=x;exact⟨_,e⟩
def fq (P:gc) (w:i4):gS:=fun outer H s E e s'=>∃(a C t:ac) (B:hX) (H':Hp),e=.ref a/\s'.os=s.os/\Gn s.gens.size s'.gens/\hX.FlyingW B outer a (.ref C) (.ref t) s'.heap /\
 (∀b o,s.heap.get? b=some o->b ∉ d6 outer->∃o',B.get? b=some o')/\(∀b u,H' b=some u->∃o',B.get? b=some o')/\Un (d6 outer) [] H H' s.heap s'.heap/\cS P w H' s'.heap/\E (.ref C) none H'
section
variable {X:Cx}{pins:List (ac×li)}{σ:St}{H H1:Hp}{s s1:ba}{B h':hX}
theorem Inv.nY (I:Inv X pins σ H s) {b:ac}(h1:b≠X.env.locals) (h2:b ∉ X.fs):b ∉ d6 X.stack:=fun z=>by
 rcases kw.mp (I.gh b z) with q|q
 ·exact h1 q
 ·exact h2 q
theorem Inv.mQ (I:Inv X pins σ H s) {b:ac}{o:li}(e:X.s₀.heap.get? b=some o):b≠X.env.locals:=fun z=>by
 have l:=ij e;have:=I.ok.above;rw[<- z]at this;exact absurd l (Z3.mpr this)
theorem Inv.HH (I1:Inv X pins σ H1 s1) (I:Inv X pins σ H s) (c1:∀b o,s1.heap.get? b=some o->b ∉ d6 X.stack->∃o',B.get? b=some o') (c2:∀b u,H b=some u->∃o',B.get? b=some o')
  (k:B.StaysIn s.heap) (k':B.StaysIn h') (up:s.heap.UpToSlots h'):Inv X pins σ H {s with heap:=h'}:=by
 have same:∀b o',(∃o2,B.get? b=some o2)->s.heap.get? b=some o'->h'.get? b=some o':=fun b o' ⟨o2,e⟩ q=>by
  have z:=k b o2 e;rw[q]at z;cases z;exact k' b _ e
 refine⟨I.ok,I.os,I.bare,⟨fun b o q n hb hx=>?_,fun b o q n hb hx=>?_,I.base.free,fun b o q hx=>?_,I.base.tups,I.base.frzs,I.base.tbls⟩,?_,fun x c e=>?_,I.free,I.freeC,fun p hp=>?_,fun a o e=>?_,I.len⟩
 ·exact same b o (c1 b o (I1.base.keep b o q n hb hx) (I.nY (I.mQ q) hb)) (I.base.keep b o q n hb hx)
 ·obtain⟨sl,e⟩:=I.base.slot b o q n hb hx;obtain⟨_,o2,e2,nf⟩:=I.funs.mem hb;rw[e]at e2;cases e2;obtain⟨rC,e4⟩:=up b {o with slots:=sl} e nf
  exact⟨rC,e4⟩
 ·obtain⟨o',e⟩:=I.base.there b o q hx;by_cases hb:b∈X.fs
  ·obtain⟨_,o2,e2,nf⟩:=I.funs.mem hb;obtain⟨sl,e3⟩:=up b _ e2 nf;exact⟨_,e3⟩
  ·obtain⟨o1,q1⟩:=I1.base.there b o q hx;exact⟨o',same b o' (c1 b o1 q1 (I.nY (I.mQ q) hb)) e⟩
 ·obtain⟨m,hn,hl⟩:=I.loc;refine⟨m,up.ns hn,fun i x v a b c=>?_⟩
  obtain⟨u,r,l⟩:=hl i x v a b c;refine⟨u,r,?_⟩;rcases l with l|⟨kd,c,ec,o,ho,hd⟩
  ·exact .inl l
  ·obtain⟨sl,e⟩:=up c o ho fun vs z=>by rw[hd]at z;cases z
   exact .inr ⟨kd,c,ec,_,e,hd⟩
 ·obtain⟨v,o,ho,hd⟩:=I.cell x c e;obtain⟨sl,e⟩:=up c o ho fun vs z=>by rw[hd]at z;cases z
  exact⟨v,_,e,hd⟩
 ·obtain⟨p1,p2,p3,p4,p5⟩:=I.pin p hp;exact⟨same p.1 p.2 (c1 p.1 p.2 (I1.pin p hp).1 (I.nY p3 p4)) p1,p2,p3,p4,p5⟩
 ·refine(I.hok a o e).cG (fun b u hb q=>?_) (fun _ q=>q) fun _ _ q=>q
  rcases hb with z|z
  ·exact same b u (c2 b o (by rw[z];exact e)) q
  ·exact same b u (c2 b _ z) q
end
section
variable {P:gc}{w:i4}{K:bi}{mg:bn->Option al}{base:hX}{N:List bn}{qual:bn}{scope:wp}{f:ac}{cd:al}{A:rb}{outer:List Mn}{s0:ba}{H0:Hp}{E:XK}
theorem vI:Passes (fq P w) (f9 (fq P w) P w K mg base N qual scope f cd A outer s0 H0 E) E :=by
 intro pins σ H s e s' I h;obtain⟨a,C,t,B,H',rfl,os,gn,fl,c1,c2,un,hok,q⟩:=h;have I':=I.rh (ch:=[]) os un hok gn (fun b z=>absurd z (by simp))
 refine wpAny_leaves_onW (cls:=.ref C) (a0:=.ref t) I.ok.frames rfl fl fun h' HI up=>?_
 have I2:=I.HH I' c1 c2 fl.1 HI.1 up;refine⟨a,C,t,B,H',rfl,I2.os,I2.bare,HI,fun b o e n=>?_,c2,I2.base,I2.hok,q⟩
 obtain⟨o1,e1⟩:=I.base.there b o e (fun z=>absurd (show b∈([]:List ac) from z) (by simp))
 exact c1 b o1 e1 (I.nY (I.mQ e) n)
def Raises (X:Cx) (E:XK):Prop:=∀(pins:List (ac×li)) (σ:St) (H:Hp) (s:ba) (C:ac) (h':hX) (a:ac) (vs:List al),Inv X pins σ H s->hX.MadeExcOf s.heap h' a (.ref C) vs->E (.ref C) none H->X.xe (.ref a) {s with heap:=h'}
theorem CT:Raises (f9 (fq P w) P w K mg base N qual scope f cd A outer s0 H0 E) E :=by
 intro pins σ H s C h' a vs I hx q;have c1:∀b o,s.heap.get? b=some o->b ∉ d6 (f9 (fq P w) P w K mg base N qual scope f cd A outer s0 H0 E).stack->∃o',(Co s.heap (d6 (f9 (fq P w) P w K mg base N qual scope f cd A outer s0 H0 E).stack)).get? b=some o':=
  fun b o e n=>⟨o,XX _ e n⟩
 have c2:∀b u,H b=some u->∃o',(Co s.heap (d6 (f9 (fq P w) P w K mg base N qual scope f cd A outer s0 H0 E).stack)).get? b=some o':=fun b u hu=>by
  obtain⟨o,e⟩:=(I.hok b u hu).there;exact c1 b o e fun z=>by rw[I.lW b z]at hu;cases hu
 have st:(Co s.heap (d6 (f9 (fq P w) P w K mg base N qual scope f cd A outer s0 H0 E).stack)).StaysIn s.heap:=fun b o e=>Zb _ e
 refine wpAny_leaves_madeW (cls:=.ref C) I.ok.frames rfl st (PySem.W.funFrames_hide I.stack fun env he b hb=>Zd.mpr ⟨env,he,hb⟩) hx fun Xw t fl _ _ up=>?_
 have I2:=I.HH I c1 c2 st fl.1 ((hX.UpToSlots.of_keeps hx.keeps).trans up);refine⟨a,C,t,_,H,rfl,I2.os,I2.bare,fl,fun b o e n=>?_,c2,I2.base,I2.hok,q⟩
 obtain⟨o1,e1⟩:=I.base.there b o e (fun z=>absurd (show b∈([]:List ac) from z) (by simp))
 exact c1 b o1 e1 (I.nY (I.mQ e) n)
end
theorem JM {K:bi}{h:hX}{C:ac}{uJ:List al}{newId:String}(X:K.In h) (q:Zo K C uJ newId=true) :
  ∃bm Nn nm qn bs hd sn sub ab col dd k0 k1 k2 k3 k5 mN,h.get? C=some (excClassObj nm qn C Nn bs bm hd sn sub ab col dd k0 k1 k2 k3 k5 newId)/\h.Ns Nn mN/\mN "__init__" = none/\OwnTail h uJ bm :=by
 unfold Zo at q;split at q;case h_2=>cases q
 case h_1 dd cd sl ho=>
  split at q;case h_2=>cases q
  case h_1 C' bm k0 k1 k2 k3 n k5 hm hs=>
   rw[EO,EO,EO,EO,EO]at q;obtain⟨⟨⟨⟨⟨q1,q2⟩,q3⟩,q4⟩,q5⟩,q6⟩:=q;have e1:C'=C:=beq_iff_eq.mp q1;have e2:n=newId:=beq_iff_eq.mp q2;have e3:cd.hasDel=false :=by simpa using q3
   subst e1 e2;obtain⟨nm,bs,mro,ns,qn,hd,sn,sub,ab,col,del⟩:=cd;dsimp only at hm e3 q5 q6;subst hm e3;have es:sl=#[k0,k1,k2,k3,some (.builtin n),k5] :=by
    cases sl with
    |mk l=>exact congrArg Array.mk hs
   subst es;exact⟨bm,ns,nm,qn,bs,hd,sn,sub,ab,col,dd,k0,k1,k2,k3,k5,_,X _ _ ho,hX.Ns.of_isNs (PySem.W.isNs_of_in X q5),PySem.W.nsMap_none_of_in X q5 (beq_iff_eq.mp q6),PySem.W.tail_of_in X q4⟩
section
variable {X:Cx}{x:bn}{C:ac}{lN:db}{rest:List db}{t:TA}{uJ:List al}{B newId wK:String}{E:XK}{np bD pos:wE}
def Nz (C:ac) (E:XK) (t:TA):TS:=fun _ σ H=>t σ H fun vs H1=>vs.length<=sizeLine/\E (.ref C) none H1
theorem FI (O:Zo X.K C uJ newId=true) (FB:ExcBaseFacts B newId wK uJ) (hc:X.calm=true) (hR:Raises X E) (hg:Gl X x) (hm:X.mg x=some (.ref C)) (ha:PA X (lN::rest) t)
  (d8:(x==("__debug__" : bn))=false :=by decide) (he:starEach (lN::rest) X.env=(false,eval lN X.env)::starEach rest X.env :=by rfl) (dy:(backTo bD (starEach rest X.env)).any (·.1)=false :=by rfl) :
  PS X (.Raise (some (.Call (.Name x np) (lN::rest) [] bD)) none pos) (Nz C E t) :=by
 refine⟨fun pins s σ H D I h=>?_⟩
 obtain⟨bm,Nn,nm,qn,bs,hd,sn,sub,ab,col,dd,k0,k1,k2,k3,k5,mN,hC,hN,Vn,T⟩:=JM I.ok.mod.kin O;have hp:(backTo bD (starEach (lN::rest) X.env)).any (·.1)=false :=by
  rw[he];exact dy
 have zy:=ha bD pins s σ H _ I h;rw[he]at zy;refine wpAny_Raise_call_subT (C:=C) (nm:=nm) (q:=qn) (N:=Nn) (bs:=bs) (bm:=bm) (hdct:=hd) (sn:=sn) (sub:=sub) (ab:=ab) (col:=col) (dd:=dd) (k0:=k0) (k1:=k1) (k2:=k2) (k3:=k3) (k5:=k5) FB (mN:=mN)
  (T.hasType FB.hasBase) (I.ok.hd hc) hp Vn (lX I hg hm ⟨rfl,?_⟩ d8)
 rw[he];refine Calls.evalArgs_plain (thn zy fun us s2 ⟨vs,H2,I2,r,l,q⟩=>?_)
 exact⟨rfl,by rw[<- r.length];exact l,I2.bk _ _ hC,hN.keeps I2.bk,T.keeps I2.bk,fun h' a hx=>hR pins σ H2 s2 C h' a us I2 hx q⟩
end
end L2
namespace L2
open PySem PySem.Spec PyProof.Rows PySem.W Builtin Builtin.ObjectAttr Builtin.Getset_descriptor
def ExcAt (C a:ac) (h:hX):Prop:=∃o vs,h.get? a=some o/\o.cls=.ref C/\o.data=.fields vs
def qp (C a:ac):HO:=.ext (ExcAt C a)
theorem ExcAt.cG {C a:ac}{h h':hX}(x:ExcAt C a h) (k:∀o,h.get? a=some o->h'.get? a=some o):ExcAt C a h':=let ⟨o,vs,e,c,d⟩:=x;⟨o,vs,k o e,c,d⟩
theorem JN {P:gc}{w:i4}{H:Hp}{h:hX}{C a:ac}(x:ExcAt C a h):ObjOk P w H h a (qp C a):=⟨x,let ⟨o,_,e,_⟩:=x;⟨o,e⟩,fun _ _ y k=>y.cG k⟩
structure e8 (K:Frag) (C:ac):Prop where
 cls:(clsIn K C).isSome=true
 ga:findIn K (.ref C) "__getattribute__" = some (some (.builtin "BaseException.__getattribute__"))
 gt:findIn K (.ref C) "__getattr__" = some none
 cl:findIn K (.ref C) "__class__" = some (some (.builtin "object.__class__"))
 gg:specialIn K (.builtin "object.__class__") "__get__" = some (some (.builtin "getset_descriptor.__get__"))
 tk:takesIn K (.builtin "object.__class__")=some true
 ob:mroIn K C (.type "object")=some true
 be:mroIn K C (.type "BaseException")=some true
section
variable {K:Frag}{C a:ac}{M:Z9}{h:hX}
theorem j7 (x:ExcAt C a h):Looks M h (typeOf (.ref a)) (.ref C) :=by
 obtain⟨o,vs,h1,h2,h3⟩:=x;exact h2▸(Looks.ld h1).andThen .now
theorem FJ (X:K.In h) (E:e8 K C):Looks M h (find (.ref a) (.ref C) "__class__") (.bind (.builtin "getset_descriptor.__get__") (.builtin "object.__class__")) :=by
 refine(looks_findIn X E.cl).andThen (Looks.andThen (show Looks M h (getOf (some (.builtin "object.__class__"))) (some (.builtin "getset_descriptor.__get__")) from looks_specialIn X E.gg) ?_)
 have l3:Looks M h (dataDescriptor? (some (.builtin "object.__class__")) (some (.builtin "getset_descriptor.__get__"))) (some (.builtin "getset_descriptor.__get__",.builtin "object.__class__")):=(looks_takesIn X E.tk).andThen .now
 exact l3.andThen (Looks.tag .now)
theorem AU (X:K.In h) (E:e8 K C):Looks M h (isType (.ref C)) true :=by
 have z:=E.cls;unfold clsIn at z;split at z;case h_2=>cases z
 case h_1 ho=>
  intro A Q E s k q;unfold isType loadHead;exact ag (m:=loadPart _ _) (wpAny_loadPart (k _ _ (X _ _ ho)) (ce q))
theorem CU (X:K.In h) (E:e8 K C) {tp:ac}{dd:Option ac}{its:List al}{n:Nat}{sl:Array (Option al)}(e:h.get? tp=some ⟨.type "tuple",dd,.seq its.toArray n,sl⟩):(l5 C==l5 tp)=false :=by
 refine Bool.eq_false_iff.mpr fun q=>?_
 cases l5.inj (beq_iff_eq.mp q);have z:=E.cls;unfold clsIn at z;split at z;case h_2=>cases z
 case h_1 ho=>cases (X _ _ ho).symm.trans e
end
section
variable {K:Frag}{C a:ac}{prog:gc}{w:i4}{A:rb}{s:ba}{R:Ze->ba->Prop}{EE:al->ba->Prop}
theorem vq {tp:al}(X:K.In s.heap) (E:e8 K C) (x:ExcAt C a s.heap) (q:R (.ok (.ret (.ref C))) s):codeAny (model prog w) A (.call (.builtin "getset_descriptor.__get__") ⟨[.builtin "object.__class__",.ref a,tp],[]⟩) R s :=by
 obtain⟨hh,g,dr,t,os⟩:=s;have L0:=j7 (M:=model prog w) x;have L1:=looks_mroIn (M:=model prog w) X E.ob;have ck:=KF.slot_gs.check (model prog w);refine codeAny_call_builtin KF.slot_gs.plain KF.entry_gs (ck _ _ _ _ _ _ _ KF.type_class (KF.args_gs _ _ _) ?_);unfold tz.«getset_descriptor.__get__» descrGet;rw[dga_obj];refine ag (m:=pure _) (ce ?_);unfold descrGetter descrCheckInstance descrNameAndClass;unfold isInstance;simp only[KF.owner_class];repeat lk
 refine⟨Code.quiet_builtin _ (by decide +kernel),Po KF.entry_class ?_⟩
 unfold tz.«object.__class__»;unfold shownTypeOf;repeat lk
 exact q
theorem wL {nv:al}{Q:Unit->ba->Prop}(X:K.In s.heap) (E:e8 K C) (x:ExcAt C a s.heap) (q:Q () s):wpAny (model prog w) A (checkBuiltinCall "BaseException.__getattribute__" ⟨[.ref a,nv],[]⟩) Q EE s :=by
 have e1:builtinKind "BaseException.__getattribute__" = some .slot :=by decide +kernel
 have e2:splitId "BaseException.__getattribute__" = some ("BaseException","__getattribute__") :=by decide +kernel
 have Xe:=F.args_bexc_ga (.ref a) nv;have L0:=j7 (M:=model prog w) x;have L1:=looks_mroIn (M:=model prog w) X E.be;obtain⟨hh,g,dr,t,os⟩:=s;simp only[checkBuiltinCall,e1,e2];refine ag ?_;unfold isInstance;repeat lk
 exact q
theorem tD {Q:Option al->ba->Prop}(X:K.In s.heap) (E:e8 K C) (x:ExcAt C a s.heap) (q:Q (some (.ref C)) {s with toks:=s.toks+1}):wpAny (model prog w) A (getAttr? (.ref a) "__class__") Q EE s :=by
 obtain⟨hh,g,d,t,os⟩:=s;have L0:=j7 (M:=model prog w) x;have L1:=looks_findIn (M:=model prog w) X E.ga;have L2:=looks_findIn (M:=model prog w) X E.gt;have dz:(onTheHeap (l5 C) && Yt "BaseException.__getattribute__" == Yt "object.__getattribute__")=false :=by
  rw[show (Yt "BaseException.__getattribute__" == Yt "object.__getattribute__")=false from by decide +kernel]
  rfl
 unfold getAttr? getAttrBy?;refine ag (wpAny_mkText (ag (m:=(getAttrBy _ _ _).attempt) (Do ?_)));unfold getAttrBy;refine GE (ag (m:=typeOf _) (L0.at (ag (m:=typeLookup _ _) (L1.at ?_))));simp only[dz,l6,if_false];unfold getAttrByItsOwn hookBefore;refine ag (L2.at ?_);refine ag (Do (GE ?_));unfold callGetattribute boundAndCalled;simp only[WF,l6,if_false];refine ag (m:=bindSpecial _ _) (Y3 (F.attr_ValueError.ga.bind (.ref a)) ?_);have L3:=FJ (M:=model prog w) (a:=a) X E;refine Z2 (codeAny_call_builtin F.attr_ValueError.ga.plain F.entry_bexc_ga (wL X E x ?_));unfold tz.«object.__getattribute__»;iterate 9 lk
 refine ag (m:=attrName _) (ce (ag (m:=typeOf _) (L0.at (ag (m:=find _ _ _) (L3.at ?_)))));show wpAny _ _ (holding [Yt "object.__class__"] (call (.builtin "getset_descriptor.__get__") [.builtin "object.__class__",.ref a,.ref C])>>=ret) _ _ _
 refine ag (m:=holding _ _) (GE (Z2 (vq X E x ?_)));exact ce (handed_on rfl (ce q))
end
theorem qt {K:Frag}{C a:ac}(E:e8 K C):KitX K (.ref a) (.ref C) (ExcAt C a) where
 ty:=fun _ _ _ x=>j7 x
 it:=fun _ _ X _=>AU X E
 ne:=fun _ _ _ _ _ _ X e=>CU X E e
 ca:=fun X x q=>tD X E x q
theorem uK:∀{Ds:List ac}{us:List al},Vals (Ds.map V.ref) us->us=Ds.map l5
 | [],_,.nil=>rfl
 |D::Ds,_,.cons r t=>by
          cases (show _=l5 D from r);rw[uK t];rfl
section
variable {X:Cx}
def Uj (K:Frag):List V->Hp->VK->Prop:=fun xs H Q=>∃a C b,H a=some (qp C a)/\e8 K C /\
 ((∃D,xs=[.ref a,.ref D]/\kitOne K (.ref C) (.ref D)=some b)\/(∃T,xs=[.ref a,.ty T]/\kitOne K (.ref C) (.type T)=some b)\/∃(tp:ac) (Ds:List ac),xs=[.ref a,.ref tp]/\H tp=some (.tup (Ds.map V.ref))/\kitAny K (.ref C) (Ds.map l5)=some b)/\Q (.bl b) H
theorem FK {K:Frag}(hK:X.K=K):cV X (.builtin "isinstance") (Uj K) :=by
 subst hK;intro pins s σ H xs us Q I r h;obtain⟨a,C,b,ha,E,h,q⟩:=h;have x:ExcAt C a s.heap:=(I.hok a _ ha).1;have fin:∀tk,EP X pins σ Q (.bool b) {s with toks:=tk}:=fun tk=>⟨.bl b,H,I.tok tk,rfl,q⟩
 rcases h with ⟨D,rfl,e⟩|⟨T,rfl,e⟩|⟨tp,Ds,rfl,ht,e⟩
 ·obtain⟨u,w',rfl,r1,r2⟩:=vals2 r;cases (show u=l5 a from r1);cases (show w'=l5 D from r2);exact kia_one (qt E) I.fB x e (fun z=>nomatch z) fin
 ·obtain⟨u,w',rfl,r1,r2⟩:=vals2 r;cases (show u=l5 a from r1);cases (show w'=LH T from r2);exact kia_one (qt E) I.fB x e (fun z=>nomatch z) fin
 ·obtain⟨u,w',rfl,r1,r2⟩:=vals2 r;cases (show u=l5 a from r1);cases (show w'=l5 tp from r2);obtain⟨_,its,rv,ob,ho,hc,n,hd,_⟩:=I.hok tp _ ht;have ei:=uK rv;subst ei;obtain⟨c,dd,dt,sl⟩:=ob;dsimp only at hc hd;subst hc hd;exact kia_tup (qt E) I.fB x ho e (fun z=>nomatch z) fin
end
end L2
namespace L2
open PySem PySem.Spec PyProof.Rows PySem.W
def blank (n:Nat):St:=io n none
theorem wM {n i:Nat}{v:V}(h:(blank n)[i]?=some (some v)):False :=by
 unfold blank at h;rw[BS]at h;split at h<;>cases h
abbrev Cx.mR (X:Cx) (T:al->ba->Prop) (pn:List (ac×li)):Cx:={X with xe:=T,pn:=pn}
abbrev Cx.suite (X:Cx) (a:ac):Cx:={X with A:=X.A.mark (some (.ref a)),calm:=false,xe:=fun _ _=>False}
section
variable {X:Cx}{pins pins':List (ac×li)}{σ:St}{H:Hp}{s:ba}{T:al->ba->Prop}
theorem Inv.mR (I:Inv X pins σ H s) (T:al->ba->Prop):Inv (X.mR T (X.pn++pins)) [] σ H s:=
 ⟨⟨I.ok.mod,I.ok.kind,I.ok.glob,I.ok.blt,I.ok.above,I.ok.inj,I.ok.has,I.ok.cab,I.ok.hd,I.ok.frames,I.ok.stk,I.ok.exf,I.ok.bs,I.ok.bsz,I.ok.noex,I.ok.exfs,I.ok.funs,I.ok.frf⟩,
  I.os,I.bare,I.base,I.loc,I.cell,I.free,I.freeC,fun p hp=>I.pin p (by simpa using hp),I.hok,I.len⟩
theorem Inv.nZ (J:Inv (X.mR T (X.pn++pins)) pins' σ H s):Inv X pins σ H s:=
 ⟨⟨J.ok.mod,J.ok.kind,J.ok.glob,J.ok.blt,J.ok.above,J.ok.inj,J.ok.has,J.ok.cab,J.ok.hd,J.ok.frames,J.ok.stk,J.ok.exf,J.ok.bs,J.ok.bsz,J.ok.noex,J.ok.exfs,J.ok.funs,J.ok.frf⟩,
  J.os,J.bare,J.base,J.loc,J.cell,J.free,J.freeC,fun p hp=>J.pin p (u7 _ hp),J.hok,J.len⟩
theorem Inv.suite (I:Inv X pins σ H s) (a:ac):Inv (X.suite a) pins σ H s:=
 ⟨⟨I.ok.mod,I.ok.kind,I.ok.glob,I.ok.blt,I.ok.above,I.ok.inj,I.ok.has,I.ok.cab,(fun z=>nomatch z),I.ok.frames,I.ok.stk,I.ok.exf,I.ok.bs,I.ok.bsz,I.ok.noex,I.ok.exfs,I.ok.funs,I.ok.frf⟩,
  I.os,I.bare,I.base,I.loc,I.cell,I.free,I.freeC,I.pin,I.hok,I.len⟩
theorem Inv.JO {a:ac}(ok:X.Ok) (J:Inv (X.suite a) pins σ H s):Inv X pins σ H s:=
 ⟨ok,J.os,J.bare,J.base,J.loc,J.cell,J.free,J.freeC,J.pin,J.hok,J.len⟩
theorem Inv.blank (I:Inv X pins σ H s):Inv X pins (blank X.N.length) H s :=by
 refine⟨I.ok,I.os,I.bare,I.base,?_,I.cell,I.free,I.freeC,I.pin,I.hok,by unfold L2.blank;simp⟩
 obtain⟨m,hn,_⟩:=I.loc;exact⟨m,hn,fun i x v _ e=>(wM e).elim⟩
theorem Inv.lost {h':hX}{m':bn->Option al}{t':Nat}(I:Inv X pins σ H s) (hn:h'.Ns X.env.locals m') (sb:AL X.env.locals s.heap h'):Inv X pins (L2.blank X.N.length) H {s with heap:=h',toks:=t'}:=by
 have mv:∀b o,b≠X.env.locals->s.heap.get? b=some o->h'.get? b=some o:=fun b o n e=>(sb.2 b n).trans e
 refine⟨I.ok,I.os,I.bare,⟨fun b o q n hb hx=>mv b o (I.mQ q) (I.base.keep b o q n hb hx),fun b o q n hb hx=>?_,I.base.free,fun b o q hx=>?_,I.base.tups,I.base.frzs,I.base.tbls⟩,
  ⟨m',hn,fun i x v _ e=>(wM e).elim⟩,fun x c e=>?_,I.free,I.freeC,fun p hp=>?_,fun a o e=>?_,by unfold L2.blank;simp⟩
 ·obtain⟨sl,e⟩:=I.base.slot b o q n hb hx;exact⟨sl,mv b _ (I.mQ q) e⟩
 ·obtain⟨o',e⟩:=I.base.there b o q hx;exact⟨o',mv b _ (I.mQ q) e⟩
 ·obtain⟨v,o,ho,hd⟩:=I.cell x c e;exact⟨v,o,mv c o (I.ra x c e) ho,hd⟩
 ·obtain⟨p1,p2,p3,p4,p5⟩:=I.pin p hp;exact⟨mv _ _ p3 p1,p2,p3,p4,p5⟩
 ·refine(I.hok a o e).cG (fun b u hb q=>mv b u (fun z=>?_) q) (fun _ q=>q) fun _ _ q=>q
  have fr:=I.free;rw[<- z]at fr;rcases hb with y|y
  ·rw[y,e]at fr;cases fr
  ·rw[y]at fr;cases fr
theorem Inv.HJ {a:ac}{o:HO}(I:Inv X pins σ H s) (n0:H a=none) (n1:X.s₀.heap.get? a=none) (n2:a≠X.env.locals) (n3:∀x c,X.env.cells.lookup x=some c->c≠a) (n4:∀p∈X.pn++pins,p.1≠a)
  (ob:ObjOk X.prog X.w (upd H a o) s.heap a o):Inv X pins σ (upd H a o) s :=by
 have un:∀b u,H b=some u->upd H a o b=some u:=fun b u e=>by rw[af (a7 e n0)];exact e
 refine⟨I.ok,I.os,I.bare,⟨I.base.keep,I.base.slot,fun b u q n hx=>?_,I.base.there,fun b xs e=>un _ _ (I.base.tups b xs e),fun b u v e=>un _ _ (I.base.frzs b u v e),fun b ps e=>?_⟩,I.loc,I.cell,?_,fun x c e=>?_,fun p hp=>?_,fun b u e=>?_,I.len⟩
 ·rw[af (fun z=>by rw[z,n1]at q;cases q)]
  exact I.base.free b u q n hx
 ·obtain⟨more,z⟩:=I.base.tbls b ps e;exact⟨more,un _ _ z⟩
 ·rw[af (AN n2)];exact I.free
 ·rw[af (n3 x c e)];exact I.freeC x c e
 ·obtain⟨p1,p2,p3⟩:=I.pin p hp;exact⟨p1,by rw[af (n4 p hp)];exact p2,p3⟩
 ·by_cases hb:b=a
  ·subst hb;rw[aA]at e;cases e;exact ob
  ·rw[af hb]at e;exact(I.hok b u e).cG (fun _ _ _ q=>q) (fun c q=>un _ _ q) fun c xs q=>un _ _ q
end
structure k6 (K:Frag) (C0:ac):Prop where
 ty:typeIn K (.ref C0)=some (.type "type")
 be:subIn K (.ref C0) (.type "BaseException")=some true
 it:(clsIn K C0).isSome=true
theorem CV {K:Frag}{C C0 a:ac}{M:Z9}{A:rb}{E:al->ba->Prop}{s:ba}{Q:Bool->ba->Prop}(X:K.In s.heap) (O:k6 K C0) (e:subIn K (.ref C) (.ref C0)=some true) (x:ExcAt C a s.heap) (q:Q true s) :
  wpAny M A (excMatches (.ref a) (.ref C0)) Q E s :=by
 obtain⟨hh,g,d,t,os⟩:=s;have L0:=j7 (M:=M) x;have L1:=looks_typeIn (M:=M) X O.ty;have L2:=looks_subIn (M:=M) X O.be;have L3:=looks_subIn (M:=M) X e;have L4:Looks M hh (isSubtype (.type "type") (.type "tuple")) false:=Looks.of_pure tc_notTuple
 have L5:Looks M hh (isType (.ref C0)) true :=by
  have z:=O.it;unfold clsIn at z;split at z;case h_2=>cases z
  case h_1 ho=>
   intro A Q E s k q;unfold isType loadHead;exact ag (m:=loadPart _ _) (wpAny_loadPart (k _ _ (X _ _ ho)) (ce q))
 unfold excMatches;unfold isInstance isExcClass;repeat lk
 exact q
def NA (K:Frag) (C0:ac) (i n:Nat) (th:TS) (D:Ends):XK:=fun cls _ H'=>∃C,cls=.ref C/\subIn K (.ref C) (.ref C0)=some true/\∀a,H' a=none->
 th {nx:=fun _ H2=>D.nx (blank n) H2,rt:=D.rt,bk:=fun _ H2=>D.bk (blank n) H2,ct:=fun _ H2=>D.ct (blank n) H2} ((blank n).set i (some (.ref a))) (upd H' a (qp C a))
def Uk (K:Frag) (C0:ac) (i n:Nat) (tb:XK->TS) (th:TS):TS:=fun D σ H=>tb (NA K C0 i n th D) D σ H
section
variable {X:Cx}{body suite:List tw}{x n:bn}{i:Nat}{np wN pos:wE}{tE:tw}{C0:ac}{tb:XK->TS}{th:TS}
theorem NB (hN:X.N.Nodup) (hi:X.N[i]?=some n) (hl:X.env.scope.names.lookup n=some .local) (jv:X.stack=X.env::X.outer/\X.env.frame=some X.env.locals) (hex:X.ex=[]) (O:k6 X.K C0) (hg:Gl X x) (hm:X.mg x=some (.ref C0))
  (hb:∀(T:al->ba->Prop) (pn:List (ac×li)) (E:XK),Passes (fq X.prog X.w) (X.mR T pn) E->f6 (X.mR T pn) body (tb E)) (hs:∀a:ac,f6 (X.suite a) (tE::suite) th)
  (d8:(x==("__debug__" : bn))=false :=by decide) :
  PS X (.Try body [.ExceptHandler (some (.Name x np)) (some n) (tE::suite) wN] [] [] pos) (Uk X.K C0 i X.N.length tb th) :=by
 refine⟨fun pins s σ H D I h=>?_⟩
 refine wpAny_Try_except ?_;have hp:Passes (fq X.prog X.w) (X.mR (fun e aC=>wpAny (model X.prog X.w) X.A (noteFrame e X.env) (fun _ jg=>wpAny (model X.prog X.w) X.A (setFlight e none) (fun _ jj=>wpAny (model X.prog X.w) X.A (handleBy e X.env [.ExceptHandler (some (.Name x np)) (some n) (tE::suite) wN]) (SP X pins D) X.xe jj) X.xe jg) X.xe aC) (X.pn++pins)) (NA X.K C0 i X.N.length th D) :=by
  intro pins' pR H1 s1 e s' J1 Vo;obtain⟨a,C,t,B,H',rfl,os,gn,fl,c1,c2,un,hok,C',ec,wO,q⟩:=Vo;cases ec;have I1:=J1.nZ;have I':=I1.rh (ch:=[]) os un hok gn (fun b z=>absurd z (by simp))
  have fr:X.A.frames=some (X.env::X.outer):=I.ok.frames.trans (congrArg some jv.1);have HI:hX.FlyingW B (X.env::X.outer) a (.ref C) (.ref t) s'.heap:=jv.1▸fl;refine wpAny_looks_onW fr jv.2 HI fun h4 held Sv=>?_
  refine wpAny_landsW held fun h5 NC Sw=>?_
  have I5:=I1.HH I' c1 c2 fl.1 NC.1 (Sv.trans Sw);have Y5:=I5.suite a;have Vp:ExcAt C a h5:=let ⟨oe,vs,e1,e2,e3,_⟩:=NC.first;⟨oe,vs,e1,e2,e3⟩;refine wpAny_handleBy_cons (codeAny_handlers_test (lX Y5 hg hm (CV Y5.fB O wO Vp ?_) d8)) (fun z=>nomatch z)
  refine codeAny_handlers_suite_as (lands_againW NC fun h6 Sx Vq=>?_)
  have I6:=I1.HH I' c1 c2 fl.1 Sx.1 ((Sv.trans Sw).trans Vq);have Sy:ExcAt C a h6:=let ⟨oe,vs,e1,e2,e3,_⟩:=Sx.first;⟨oe,vs,e1,e2,e3⟩;obtain⟨oe,vs,e1,e2,e3⟩:=id Sy;have Vr:a ∉ d6 X.stack:=fun z=>by
   obtain⟨_,o2,q1,q2⟩:=I6.stack.mem z;rw[e1]at q1;cases q1;exact q2 _ e3
  have nb:∀o,s1.heap.get? a≠some o:=fun o z=>by
   obtain⟨o',z'⟩:=c1 a o z Vr;rw[fl.2.1]at z';cases z'
  have nH:H' a=none :=by
   cases z:H' a with
   |none=>rfl
   |some u=>
    obtain⟨o',z'⟩:=c2 a u z;rw[fl.2.1]at z';cases z'
  have nL:a≠X.env.locals:=fun z=>by
   obtain⟨m,⟨o,es,ep,ho,hd,_⟩,_⟩:=I6.loc;rw[<- z,e1]at ho;cases ho;rw[e3]at hd;cases hd
  have I7:Inv X pins (blank X.N.length) (upd H' a (qp C a)) {s' with heap:=h6}:=I6.blank.HJ nH
   (by
    cases z:X.s₀.heap.get? a with
    |none=>rfl
    |some o=>
     obtain⟨o1,q1⟩:=I1.base.there a o z (by rw[hex];simp)
     exact(nb _ q1).elim)
   nL
   (fun y c ec z=>by
    obtain⟨v,o,ho,hd⟩:=I6.cell y c ec;rw[z,e1]at ho;cases ho;rw[e3]at hd;cases hd)
   (fun p hp z=>by
    have:=(I1.pin p hp).1;rw[z]at this;exact(nb _ this).elim)
   (JN Sy)
  refine store_ok2 I7 hN hi (.inl hl) (v:=.ref a) rfl (fun s8 I8 _=>?_) (.inr hl)
  refine mf ((hs a).run pins s8 _ _ _ (I8.suite a) (q a nH)) (fun f s9 r=>?_) (fun _ _ z=>z.elim)
  have fin:∀{zz:St} {H9:Hp},Inv (X.suite a) pins zz H9 s9->(∀zA,Inv X pins (blank X.N.length) H9 zA->SP X pins D f zA)->wpAny (model X.prog X.w) X.A (do bindName X.env n .none;unbindBehindTheSuite X.env n wN) (fun _ Ul=>SP X pins D f Ul) X.xe s9:=fun {zz H9} Y9 k=>by
   have I9:=Y9.JO I.ok;obtain⟨m,hn,_⟩:=id I9.loc;exact wpAny_nameGoes hl hn (by rw[I.ok.kind];rfl) fun h' m' vU sb=>k _ (I9.lost vU sb)
  cases f with
  |next=>obtain⟨zz,H9,Y9,z⟩:=r;exact fin Y9 fun zA J=>⟨_,H9,J,z⟩
  |brk=>obtain⟨zz,H9,Y9,z⟩:=r;exact fin Y9 fun zA J=>⟨_,H9,J,z⟩
  |cont=>obtain⟨zz,H9,Y9,z⟩:=r;exact fin Y9 fun zA J=>⟨_,H9,J,z⟩
  |ret u=>obtain⟨v,zz,H9,Y9,rv,z⟩:=r;exact fin Y9 fun zA J=>⟨v,_,H9,J,rv,z⟩
 have gW:=hb _ (X.pn++pins) _ hp;refine mf (gW.run [] s σ H D (I.mR _) h) (fun f s1 q=>?_) (fun e s1 q=>q)
 have q2:SP X pins D f s1 :=by
  cases f with
  |next=>obtain⟨aF,H',J,z⟩:=q;exact⟨aF,H',J.nZ,z⟩
  |brk=>obtain⟨aF,H',J,z⟩:=q;exact⟨aF,H',J.nZ,z⟩
  |cont=>obtain⟨aF,H',J,z⟩:=q;exact⟨aF,H',J.nZ,z⟩
  |ret u=>obtain⟨v,aF,H',J,r,z⟩:=q;exact⟨v,aF,H',J.nZ,r,z⟩
 cases f with
 |next=>exact ce q2
 |_=>exact q2
end
theorem uz.wu {P:gc}{w:i4}{K:bi}{mg:bn->Option al}{base:hX}{x qual:bn}{st:tw}{f:ac}{fd:l8}{N ps:List bn}{k:Nat}{sp:Sp}(F:uz K x qual st f fd) (S:aO N ps (ai st)) (len:∀vs H Q E,sp vs H Q E->vs.length=ps.length)
  (mK:∀(A:rb) (outer:List Mn) (s:ba) (H:Hp) (vs:List V) (Q:VK) (E:XK),bC k (A.deeper (envOfC qual (ai st) s.heap.objs.size f fd.code))->sp vs H Q E->
   ∃t,f6 (f9 (fq P w) P w K mg base N qual (ai st) f fd.code A outer s H E) (bJ st) t/\t {nx:=fun _ H'=>Q .au H',rt:=Q} (start N vs) H):FnOk P w K mg base (fq P w) (k+1) f fd ps sp :=by
 obtain⟨oc,od,kV,doc,pm,an,cT,ct,gr,rfl,lk,d7⟩:=F.ex;exact Ar lk d7 S len fun A outer s H vs Q E hr kX=>mK A outer s H vs Q E hr kX
def Sz:List al:=[.type "ValueError",.type "Exception",.type "BaseException",.type "object"]
def FL (K:Frag) (C0 C:ac):Bool:=excIn K C Sz "ValueError.__new__" && (clsIn K C).isSome && findIn K (.ref C) "__getattribute__" == some (some (.builtin "BaseException.__getattribute__")) && findIn K (.ref C) "__getattr__" == some none &&
 findIn K (.ref C) "__class__" == some (some (.builtin "object.__class__")) && mroIn K C (.type "object")==some true && mroIn K C (.type "BaseException")==some true && subIn K (.ref C) (.ref C0)==some true && kitOne K (.ref C) (.type "ValueError")==some true
def AV (K:Frag) (C0:ac) (cs:List ac):Bool:=cs.all (FL K C0) && (cs.all fun C=>cs.all fun D=>kitOne K (.ref C) (.ref D)==some (decide (C=D))) && specialIn K (.builtin "object.__class__") "__get__" == some (some (.builtin "getset_descriptor.__get__")) && takesIn K (.builtin "object.__class__")==some true &&
 typeIn K (.ref C0)==some (.type "type") && subIn K (.ref C0) (.type "BaseException")==some true && (clsIn K C0).isSome
structure tF (K:Frag) (C0:ac) (cs:List ac):Prop where
 ex:∀C∈cs,excIn K C Sz "ValueError.__new__" = true
 cl:∀C∈cs,e8 K C
 sub:∀C∈cs,subIn K (.ref C) (.ref C0)=some true
 one:∀C∈cs,∀D∈cs,kitOne K (.ref C) (.ref D)=some (decide (C=D))
 val:∀C∈cs,kitOne K (.ref C) (.type "ValueError")=some true
 top:k6 K C0
theorem JP {K:Frag}{C0:ac}{cs:List ac}(h:AV K C0 cs=true):tF K C0 cs :=by
 unfold AV at h;simp only[EO]at h;obtain⟨⟨⟨⟨⟨⟨h1,h2⟩,h3⟩,h4⟩,h5⟩,h6⟩,h7⟩:=h;have all:∀C∈cs,FL K C0 C=true:=wn.mp h1;have part:∀C∈cs,_:=fun C hC=>by
  have z:=all C hC;unfold FL at z;simp only[EO]at z;exact z
 refine⟨fun C hC=>(part C hC).1.1.1.1.1.1.1.1,fun C hC=>?_,fun C hC=>beq_iff_eq.mp (part C hC).1.2,fun C hC D hD=>beq_iff_eq.mp (wn.mp (wn.mp h2 C hC) D hD),fun C hC=>beq_iff_eq.mp (part C hC).2,⟨beq_iff_eq.mp h5,beq_iff_eq.mp h6,h7⟩⟩
 obtain⟨⟨⟨⟨⟨⟨⟨⟨_,p1⟩,p2⟩,p3⟩,p4⟩,p5⟩,p6⟩,_⟩,_⟩:=part C hC;exact⟨p1,beq_iff_eq.mp p2,beq_iff_eq.mp p3,beq_iff_eq.mp p4,beq_iff_eq.mp h3,beq_iff_eq.mp h4,beq_iff_eq.mp p5,beq_iff_eq.mp p6⟩
theorem tF.any {K:Frag}{C0:ac}{cs:List ac}(E:tF K C0 cs) {C:ac}(hC:C∈cs):∀{Ds:List ac},(∀D∈Ds,D∈cs)->kitAny K (.ref C) (Ds.map l5)=some (decide (C∈Ds))
 | [],_=>by simp[kitAny]
 |D::Ds,h=>by
          rw[ss];unfold kitAny;rw[E.one C hC D (h D ma)];by_cases e:C=D
          ·subst e;simp
          ·have ih:=E.any hC (Ds:=Ds) fun D' hD=>h D' (i0 _ hD)
           simp only[e,decide_false,ih,kw,false_or]
end L2
namespace L2
open PySem PySem.Spec PyProof.Rows Builtin.SmallTypes
def SqIt (k:Bool) (h:hX) (it a:ac) (i:Nat):Prop:=if k=true then h.IsListIter it a i else h.IsTupleIter it a i
def cI (k:Bool) (h:hX) (a:ac) (items:Array al):Prop:=if k=true then h.IsList a items else h.IsTuple a items
theorem SqIt.at {k:Bool}{h h':hX}{it a:ac}{i:Nat}(x:SqIt k h it a i) (q:∀o,h.get? it=some o->h'.get? it=some o):SqIt k h' it a i :=by
 cases k with
 |true=>exact hX.IsListIter.at (h:=h) x q
 |false=>exact hX.IsTupleIter.at (h:=h) x q
theorem SqIt.obj {k:Bool}{h:hX}{it a:ac}{i:Nat}(x:SqIt k h it a i):∃o,h.get? it=some o/\∃vs,o.data=.fields vs :=by
 cases k with
 |true=>obtain⟨o,e,_,d⟩:=(show h.IsListIter it a i from x);exact⟨o,e,_,d⟩
 |false=>obtain⟨o,e,_,d⟩:=(show h.IsTupleIter it a i from x);exact⟨o,e,_,d⟩
theorem cI.obj {k:Bool}{h:hX}{a:ac}{items:Array al}(x:cI k h a items):∃o n,h.get? a=some o/\o.data=.seq items n :=by
 cases k with
 |true=>obtain⟨o,e,_,n,d⟩:=(show h.IsList a items from x);exact⟨o,n,e,d⟩
 |false=>obtain⟨o,e,_,n,d⟩:=(show h.IsTuple a items from x);exact⟨o,n,e,d⟩
theorem cI.at {k:Bool}{h h':hX}{a:ac}{items:Array al}(x:cI k h a items) (q:∀o,h.get? a=some o->h'.get? a=some o):cI k h' a items :=by
 cases k with
 |true=>exact hX.IsList.at (h:=h) x q
 |false=>exact hX.IsTuple.at (h:=h) x q
section
variable {prog:gc}{w:i4}{A:rb}{E:al->ba->Prop}{s:ba}{it a:ac}{i:Nat}{items:Array al}{x:al}{k:Bool}
theorem FN {Q:Option al->ba->Prop}(hit:s.heap.IsTupleIter it a i) (ha:s.heap.IsTuple a items) (hx:items[i]?=some x)
  (hQ:∀h',h'.IsTupleIter it a (i+1)->AL it s.heap h'->Q (some x) {s with heap:=h'}):wpAny (model prog w) A (callSpecial? (.ref it) "__next__") Q E s :=by
 obtain⟨o,ho,hc,hd⟩:=id hit;obtain⟨ol,CW,_,nl,ND⟩:=ha;have sl:=F.slot_tuple_iterator_next;refine xy (name:=sw "__next__") hit.typeIs sl (xL sl hit.typeIs F.entry_tuple_iterator_next ?_ (F.args_tuple_iterator_next_1 _))
 have nn:¬ ((l5 a==GS)=true):=im;refine ag (m:=field (.ref it) 0) (Ch ho hd (x:=.ref a) rfl ?_);rw[if_neg nn];refine ag (m:=field (.ref it) 1) (Ch ho hd (x:=.int i 0) rfl (ag (m:=seqItems? (.ref a)) (GG CW ND ?_)));simp only[At,hx];refine ag (m:=setField _ _ _) (wpAny_setField ho hd (by simp) (ce ⟨x,rfl,hQ _ ?_ (SZ ..)⟩))
 refine⟨_,AC _ ho (YG (OR hd _)),(Zw ..).trans hc,?_⟩;rw[OR hd];simp[rawInt]
theorem FO {Q:Option al->ba->Prop}(hh:A.handled=none) (hit:s.heap.IsTupleIter it a i) (ha:s.heap.IsTuple a items) (hx:items[i]?=none)
  (hE:∀h' e,Y4 it s.heap h'->(∃o,h'.get? e=some o/\o.cls=.type "StopIteration")->E (.ref e) {s with heap:=h'}):wpAny (model prog w) A (callSpecial? (.ref it) "__next__") Q E s :=by
 obtain⟨o,ho,hc,hd⟩:=id hit;obtain⟨ol,CW,_,nl,ND⟩:=ha;have sl:=F.slot_tuple_iterator_next;refine xy (name:=sw "__next__") hit.typeIs sl (xL sl hit.typeIs F.entry_tuple_iterator_next ?_ (F.args_tuple_iterator_next_1 _))
 have nn:¬ ((l5 a==GS)=true):=im;refine ag (m:=field (.ref it) 0) (Ch ho hd (x:=.ref a) rfl ?_);rw[if_neg nn];refine ag (m:=field (.ref it) 1) (Ch ho hd (x:=.int i 0) rfl (ag (m:=seqItems? (.ref a)) (GG CW ND ?_)));simp only[At,hx];refine ag (LM (ag (m:=setField _ _ _) (wpAny_setField ho hd (by simp) ?_)))
 refine ag (m:=newExc (.type "StopIteration") []) ?_
 unfold newExc newTuple;refine ag (zw ?_ (by size_fits))
 refine ag (m:=firstArgMember _ _) (Y3 (a:=GS) (by first|rfl|(simp only[firstArgMember];rfl)) (zw ?_ (by size_fits)))
 refine wpAny_raiseNew_none hh ?_;exact hE _ _ (((SZ ..).extBut.push _).push _) ⟨_,ff _ rfl,rfl⟩
theorem oZ {Q:al->ba->Prop}(hit:SqIt k s.heap it a i) (ha:cI k s.heap a items) (hx:items[i]?=some x)
  (hQ:∀h',SqIt k h' it a (i+1)->AL it s.heap h'->Q x {s with heap:=h'}):wpAny (model prog w) A (nextOf (.ref it)) Q E s :=by
 cases k with
 |true=>exact wpAny_nextOf_list_item hit ha hx hQ
 |false=>
  unfold nextOf;exact ag (FN hit ha hx fun h' a b=>ce (hQ h' a b))
theorem tG {Q:al->ba->Prop}(hh:A.handled=none) (hit:SqIt k s.heap it a i) (ha:cI k s.heap a items) (hx:items[i]?=none)
  (hE:∀h' e,Y4 it s.heap h'->(∃o,h'.get? e=some o/\o.cls=.type "StopIteration")->E (.ref e) {s with heap:=h'}):wpAny (model prog w) A (nextOf (.ref it)) Q E s :=by
 cases k with
 |true=>exact wpAny_nextOf_list_end hh hit ha hx hE
 |false=>
  unfold nextOf;exact ag (FO hh hit ha hx hE)
end
section
variable {prog:gc}{w:i4}{A:rb}{E:al->ba->Prop}{s:ba}{e it a:ac}{i:Nat}{items:Array al}{x old:al}{k:Bool}
theorem CY {Q:al->ba->Prop}(he:Yr s.heap e it i old) (dz:e≠it) (hit:SqIt k s.heap it a i) (ha:cI k s.heap a items) (hx:items[i]?=some x)
  (hQ:∀h',Z8 h' e it ((i:Int)+1) x s.heap.objs.size->SqIt k h' it a (i+1)->h'.get? s.heap.objs.size=some {cls:=.type "tuple",data:=.seq #[.int i s.toks,x]}->
   (∀b o,b≠e->b≠it->s.heap.get? b=some o->h'.get? b=some o)->Q (.ref s.heap.objs.size) {s with heap:=h',toks:=s.toks+1}) :
  wpAny (model prog w) A (tz.«enumerate.__next__» ⟨[.ref e],[]⟩) (fun fin s'=>∃v,fin=.done (.ret v)/\Q v s') E s :=by
 obtain⟨hp,g,d,tk,os⟩:=s;refine ag (m:=field (.ref e) 2) (Ch he rfl (x:=.ref it) rfl (ag (m:=nextOf (.ref it)) (oZ hit ha hx fun h1 CZ (gu:AL it hp h1)=>?_)))
 have e1:Yr h1 e it i old:=(gu.2 e dz).trans he;refine ag (m:=field (.ref e) 3) (Ch e1 rfl (x:=rawInt i) rfl (ag (m:=field (.ref e) 4) (Ch e1 rfl (x:=.none) rfl (ag (m:=mkInt i) (wpAny_mkInt ?_)))));refine ag (m:=setField (.ref e) 3 _) (AM e1 (by simp) fun h2 (e2:Yr h2 e it ((i:Int)+1) old) (eR:AL e h1 h2)=>?_)
 refine ag (m:=setField (.ref e) 4 .none) (AM e2 (by simp) fun h3 (e3:Yr h3 e it ((i:Int)+1) old) (k7:AL e h2 h3)=>?_)
 refine ag (m:=newTuple [.int i tk,x]) (wpAny_newTuple ?_);have z3:h3.objs.size=hp.objs.size :=by rw[k7.1,eR.1,gu.1]
 have el:e<hp.objs.size:=ij he;have e4:Yr (h3.push {cls:=.type "tuple",data:=.seq #[.int i tk,x]}) e it ((i:Int)+1) old:=cb _ e3
 have t4:(h3.push {cls:=.type "tuple",data:=.seq #[.int i tk,x]}).get? hp.objs.size=some {cls:=.type "tuple",data:=.seq #[.int i tk,x]}:=z3▸ff _ rfl
 have up:∀b o,b≠e->h1.get? b=some o->(h3.push {cls:=.type "tuple",data:=.seq #[.int i tk,x]}).get? b=some o:=fun b o n q=>cb _ (k7.extBut b o n (eR.extBut b o n q))
 generalize h3.push {cls:=.type "tuple",data:=.seq #[.int i tk,x]}=h4 at e4 t4 up
 rw[z3];refine ag (m:=ownedTupleIsFree (.ref e)) ?_;unfold ownedTupleIsFree;refine ag (m:=field (.ref e) 0) (Ch e4 rfl (x:=.none) rfl (ce ?_));rw[if_pos rfl];refine ag (LM (ag (m:=field (.ref e) 5) (Ch e4 rfl (x:=old) rfl ?_)));refine ag (m:=setField (.ref e) 5 x) (AM e4 (by simp) fun h5 (e5:Yr h5 e it ((i:Int)+1) x) (wQ:AL e h4 h5)=>?_)
 refine ag (m:=ownedTupleHandOut (.ref e) _) ?_;unfold ownedTupleHandOut;refine ag (AM e5 (by simp) fun h6 (e6:Z8 h6 e it ((i:Int)+1) x hp.objs.size) (Vs:AL e h5 h6)=>?_)
 refine AM e6 (by simp) fun h7 (e7:Z8 h7 e it ((i:Int)+1) x hp.objs.size) (HK:AL e h6 h7)=>?_
 have NF:∀b o,b≠e->h4.get? b=some o->h7.get? b=some o:=fun b o n q=>HK.extBut b o n (Vs.extBut b o n (wQ.extBut b o n q))
 refine ag (XW (ce ⟨_,rfl,hQ h7 e7 (CZ.at fun o q=>NF it o (AN dz) (up it o (AN dz) q)) (NF _ _ (No el) t4) fun b o n1 n2 q=>NF b o n1 (up b o n1 ((gu.2 b n2).trans q))⟩))
theorem C1 {Q:Option al->ba->Prop}(he:Yr s.heap e it i old) (dz:e≠it) (hit:SqIt k s.heap it a i) (ha:cI k s.heap a items) (hx:items[i]?=some x)
  (hQ:∀h',Z8 h' e it ((i:Int)+1) x s.heap.objs.size->SqIt k h' it a (i+1)->h'.get? s.heap.objs.size=some {cls:=.type "tuple",data:=.seq #[.int i s.toks,x]}->
   (∀b o,b≠e->b≠it->s.heap.get? b=some o->h'.get? b=some o)->Q (some (.ref s.heap.objs.size)) {s with heap:=h',toks:=s.toks+1}) :
  wpAny (model prog w) A (pyNext (.ref e)) Q E s :=by
 have hT:s.TypeIs (.ref e) "enumerate" := ⟨_,he,rfl⟩
 have sl:=F.slot_enumerate_next;unfold pyNext;exact ag (Do (xy (name:=sw "__next__") hT sl (xL sl hT F.entry_enumerate_next (CY he dz hit ha hx fun h' a b c d=>ce (hQ h' a b c d)) (F.args_enumerate_next_1 _))))
theorem C2 {Q:Option al->ba->Prop}(hh:A.handled=none) (he:Yr s.heap e it i old) (hit:SqIt k s.heap it a i) (ha:cI k s.heap a items) (hx:items[i]?=none)
  (hQ:∀h',Y4 it s.heap h'->Q none {s with heap:=h'}):wpAny (model prog w) A (pyNext (.ref e)) Q E s :=by
 have hT:s.TypeIs (.ref e) "enumerate" := ⟨_,he,rfl⟩
 have sl:=F.slot_enumerate_next;unfold pyNext;refine ag (Do (xy (name:=sw "__next__") hT sl (xL sl hT F.entry_enumerate_next ?_ (F.args_enumerate_next_1 _))))
 refine ag (m:=field (.ref e) 2) (Ch he rfl (x:=.ref it) rfl (ag (m:=nextOf (.ref it)) (tG hh hit ha hx fun h' y eb ⟨o,ho,hc⟩=>?_)))
 exact ag (LS (T := "StopIteration") (b:=true) ⟨o,ho,hc⟩ Y0 (ce (hQ _ eb)))
end
end L2
namespace L2
open PySem PySem.Spec PyProof.Rows Builtin.SmallTypes AutoSeq1
theorem wR:bootBuiltins "enumerate" = some (.type "enumerate") :=by decide +kernel
theorem NI:bootBuiltins "zip" = some (.type "zip") :=by decide +kernel
section
variable {X:Cx}{pins:List (ac×li)}{σ:St}{H:Hp}{s:ba}{h':hX}
theorem Inv.o6 {t':Nat}{ch:List ac}(I:Inv X pins σ H s) (k:∀b o,b ∉ ch->s.heap.get? b=some o->h'.get? b=some o) (hf:∀b∈ch,cH X pins H b):Inv X pins σ H {s with heap:=h',toks:=t'}:=by
 have BZ:∀b u,H b=some u->b ∉ ch:=fun b u e z=>by rw[(hf b z).1]at e;cases e
 refine I.step (g':=s.gens) (d':=s.drawn) (ch:=ch) (fun b hb=>?_) (fun b o _ _ hc e _=>k b o hc e) (fun b o _ _ hc e _=>⟨o.slots,k b o hc e⟩) (fun _ _ _ _ n=>n)
  (fun b o hc e=>⟨o,k b o hc e⟩) (fun _ _ e=>e) (fun _ _ _ e=>e) (fun b ps e=>⟨#[],by rw[e];simp⟩) (fun m hm=>?_) (fun b u e=>?_) I.bare.self
 ·obtain⟨_,f1,f2,f3,f4,f5⟩:=hf b hb;exact⟨f3,f1,f4,f5⟩
 ·obtain⟨o,es,ep,ho,r⟩:=hm;exact⟨o,es,ep,k _ o (fun z=>(hf _ z).2.1 rfl) ho,r⟩
 ·refine(I.hok b u e).cG (fun c v hc q=>k c v ?_ q) (fun _ q=>q) fun _ _ q=>q
  rcases hc with z|z
  ·rw[z];exact BZ b u e
  ·exact BZ c _ z
theorem Inv.pair {t:ac}{a b:V}{u v:al}{h1:hX}{tk tk0:Nat}(I0:Inv X pins σ H {s with toks:=tk0}) (ht:s.heap.objs.size<=t) (I:Inv X pins σ H {s with heap:=h1,toks:=tk}) (e:h1.get? t=some {cls:=.type "tuple",data:=.seq #[u,v]}) (ru:RelV a u) (rv:RelV b v) :
  Inv X pins σ (upd H t (.tup [a,b])) {s with heap:=h1,toks:=tk}:=by
 have f:=Inv.ji (H':=H) I0 (b:=t) ht (I0.hok.fresh ht);refine I.HJ f.1 ?_ f.2.1 f.2.2.2.2.1 f.2.2.2.2.2 ⟨by show 2<=sizeLine;decide,[u,v],.cons ru (.cons rv .nil),⟨_,e,rfl,_,rfl,rfl⟩⟩
 exact hX.get?_none_of_le (wr I0.sz ht)
end
def Sq (k:Bool) (K:bi) (H:Hp) (a:ac) (xs:List V):Prop:=if k=true then bo K H a xs else cw K H a xs
theorem Inv.sq {X:Cx}{pins:List (ac×li)}{σ:St}{H:Hp}{s:ba}{k:Bool}{a:ac}{xs:List V}(I:Inv X pins σ H s) (h:Sq k X.K H a xs):∃its:List al,Vals xs its/\cI k s.heap a its.toArray :=by
 cases k with
 |true=>obtain⟨its,rv,p,_⟩:=I.list (show bo X.K H a xs from h);exact⟨its,rv,p.isList⟩
 |false=>obtain⟨its,rv,p,_⟩:=I.tuple (show cw X.K H a xs from h);exact⟨its,rv,p⟩
theorem Inv.wU {X:Cx}{pins:List (ac×li)}{σ:St}{H:Hp}{s:ba}{k:Bool}{a:ac}{xs ys:List V}(I:Inv X pins σ H s) (h:Sq k X.K H a xs) (h':Sq k X.K H a ys):xs=ys :=by
 cases k with
 |true=>exact I.qh (show bo X.K H a xs from h) h'
 |false=>exact I.uh (show cw X.K H a xs from h) h'
def HL (k:Bool) (K:bi) (a:ac):It:=
 ⟨fun i H=>∃xs x,Sq k K H a xs/\xs[i]?=some x,fun i H v H'=>∃t x,H t=none/\v=.ref t/\H'=upd H t (.tup [.int (i:Nat),x])/\∀xs,Sq k K H a xs->xs[i]?=some x,fun i H=>∃xs,Sq k K H a xs/\xs.length<=i⟩
theorem C3 {P:gc}{w:i4}{K:bi}{elts:List db}{x1:Nat}{pos:wE}(k:Bool) (a it e:ac) (dz:e≠it) :
  Turn P w K (.Tuple elts x1 pos) (HL k K a) [e,it] e (fun i h=>(∃old,Yr h e it i old)/\SqIt k h it a i) where
 mem :=by simp
 obj:=fun i h st b hb=>by
  obtain⟨⟨old,he⟩,hit⟩:=st;simp only[kw,Cs,or_false]at hb;rcases hb with rfl|rfl
  ·exact⟨_,he,fun v z=>nomatch z⟩
  ·obtain⟨o,ho,vs,hd⟩:=hit.obj;exact⟨o,ho,fun v z=>by rw[hd]at z;cases z⟩
 keep:=fun i h h' st q=>by
  obtain⟨⟨old,he⟩,hit⟩:=st;exact⟨⟨old,q e (by simp) _ he⟩,hit.at fun o ho=>q it (by simp) o ho⟩
 item :=by
  intro X hP hw hK hc i pins s σ H E I hf st hg;subst hP hw hK;obtain⟨⟨old,he⟩,hit⟩:=st;obtain⟨xs,x,hq,hx⟩:=hg;obtain⟨its,rv,p⟩:=I.sq hq;obtain⟨u,hu,ru⟩:=rv.get hx;refine C1 he dz hit p (x:=u) (by simpa using hu) fun h1 eo CZ t1 kk=>?_
  refine⟨_,rfl,wpAny_letOwnedTupleGo_enum eo fun h2 e2 (eR:AL e h1 h2)=>?_⟩
  have el:e<s.heap.objs.size:=ij he;have I2:Inv X pins σ H {s with heap:=h2,toks:=s.toks+1}:=I.o6 (ch:=[e,it]) (fun b o hb q=>by
   simp only[kw,Cs,or_false,not_or]at hb;exact(eR.2 b hb.1).trans (kk b o hb.1 hb.2 q)) hf
  have t2:h2.get? s.heap.objs.size=some {cls:=.type "tuple",data:=.seq #[.int i s.toks,u]}:=(eR.2 _ (No el)).trans t1
  have hn:H s.heap.objs.size=none:=I.hok.fresh (c8 _);refine⟨.ref s.heap.objs.size,_,Inv.pair (s:=s) (tk0:=s.toks) I (c8 _) I2 t2 (a:=.int (i:Nat)) ⟨s.toks,rfl⟩ ru,rfl,⟨_,x,hn,rfl,rfl,fun ys hy=>by rw[I.wU hy hq];exact hx⟩,⟨⟨u,?_⟩,CZ.at fun o q=>(eR.2 it (AN dz)).trans q⟩,fun b hb=>?_⟩
  ·have c:((i+1:Nat):Int)=(i:Int)+1 :=by push_cast;rfl
   rw[c];exact e2
  ·have l:b≠s.heap.objs.size :=by
    simp only[kw,Cs,or_false]at hb;rcases hb with rfl|rfl
    ·exact l7 el
    ·obtain⟨o,ho,_⟩:=hit.obj;exact l7 (ij ho)
   rw[af l];exact(hf b hb).1
 done :=by
  intro X hP hw hK hc i pins s σ H E I hf st hg;subst hP hw hK;obtain⟨⟨old,he⟩,hit⟩:=st;obtain⟨xs,hq,hx⟩:=hg;obtain⟨its,rv,p⟩:=I.sq hq;have hl:=rv.length;exact C2 (I.ok.hd hc) he hit p (by simp;omega) fun h1 eb=>⟨rfl,I.o6 (t':=s.toks) (ch:=[it]) (fun b o hb q=>eb b o (by simpa using hb) q) fun b hb=>hf b (by simp at hb;simp[hb])⟩
 self:=fun _ _ _ _ _ st h=>wpAny_pyIter_enum st.1.choose_spec h
abbrev C4 (a:ac):li:={cls:=.type "tuple_iterator",data:=.fields #[.ref a,.int 0 0]}
abbrev NK (it:ac):li:={cls:=.type "enumerate",data:=.fields #[.none,.bool false,.ref it,rawInt 0,.none,.none]}
theorem JQ (a:ac) (items:Array al) (n:Nat) (dct:Option ac) (sl:Array (Option al)) :
  Meets (tz.«enumerate.__new__» ⟨[.type "enumerate",.ref a],[]⟩) (fun _ R s=>s.heap.get? a=some {cls:=.type "tuple",dict:=dct,data:=.seq items n,slots:=sl} /\
   R (.ok (.ret (.ref (s.heap.push (C4 a)).objs.size))) {s with heap:=(s.heap.push (C4 a)).push (NK s.heap.objs.size)}):=
 .of_wp fun prog w A R s h=>by
  obtain⟨hp,g,d,tk,os⟩:=s;obtain⟨hl,h⟩:=h;have wO:=sub_enumerate;have hT:hX.IsTuple (ba.heap ⟨hp,g,d,tk,os⟩) a items:=⟨_,hl,rfl,n,rfl⟩;wp_walk using BB hl
  refine wpAny_stack_any fun st=>ce ?_
  split;case h_1 c _ _ _ _ _=>cases (c==LH "enumerate")<;>(wp_walk using BB hl,X8 hT;exact⟨_,rfl,h⟩)
  case h_2=>wp_walk using BB hl,X8 hT;exact⟨_,rfl,h⟩
section
variable {prog:gc}{w:i4}{A:rb}{E:al->ba->Prop}{s:ba}
theorem AW {a:ac}{items:Array al}{Q:al->ba->Prop}(hT:s.heap.IsTuple a items)
  (h:∀h',Yr h' (s.heap.objs.size+1) s.heap.objs.size 0 .none->h'.IsTupleIter s.heap.objs.size a 0->(∀b o,s.heap.get? b=some o->h'.get? b=some o)->Q (.ref (s.heap.objs.size+1)) {s with heap:=h'}) :
  wpAny (model prog w) A (call (.type "enumerate") [.ref a]) Q E s :=by
 obtain⟨ob,ho,hc,n,hd⟩:=hT;obtain⟨c,dd,dt,sl⟩:=ob;dsimp only at hc hd;subst hc hd;refine callType_new F.called_enumerate (by decide) (F.typeCall_enumerate_1 _) (F.newCall_enumerate_1 _) (fun obj=>F.args_object_init_2 obj _) F.entry_enumerate_new (JQ a items n dd sl) ⟨ho,?_⟩
 have z:(s.heap.push (C4 a)).objs.size=s.heap.objs.size+1:=AS ..;have he:((s.heap.push (C4 a)).push (NK s.heap.objs.size)).get? (s.heap.objs.size+1)=some (NK s.heap.objs.size):=z▸ff (s.heap.push (C4 a)) rfl;show _/\_;rw[z];exact⟨⟨_,he,rfl⟩,h _ he ⟨_,cb _ (ff _ rfl),rfl,rfl⟩ fun b o x=>cb _ (cb _ x)⟩
theorem C5 {k:Bool}{a:ac}{items:Array al}{Q:al->ba->Prop}(hT:cI k s.heap a items)
  (h:∀h',Yr h' (s.heap.objs.size+1) s.heap.objs.size 0 .none->SqIt k h' s.heap.objs.size a 0->(∀b o,s.heap.get? b=some o->h'.get? b=some o)->Q (.ref (s.heap.objs.size+1)) {s with heap:=h'}) :
  wpAny (model prog w) A (call (.type "enumerate") [.ref a]) Q E s :=by
 cases k with
 |true=>exact call_enumerate_list hT fun h' a b _ c=>h h' a b c
 |false=>exact AW hT h
end
section
variable {X:Cx}{l:db}{tl:TE}{elts:List db}{x1:Nat}{tp p pos:wE}
def Q7 (k:Bool) (K:bi) (tl:TE):TI:=fun σ H R=>tl σ H fun x H1=>∃a,x=.ref a/\(∃xs,Sq k K H1 a xs)/\R (HL k K a) H1
theorem JR (k:Bool) {K:bi}(hK:X.K=K) (hg:Gl X "enumerate") (hm:X.mg "enumerate" = none) (hl:PE X l tl) (hs:starEach [l] X.env=[(false,eval l X.env)] :=by rfl) :
  PI X (.Tuple elts x1 tp) (.Call (.Name "enumerate" p) [l] [] pos) (Q7 k K tl) :=by
 subst hK;intro pins s σ H R I h;refine DD (fD I hg hm wR ?_);refine Da ?_ hs rfl;rw[hs];refine IF (thn (hl pins s σ H _ I h) fun v s1 ⟨x,H1,I1,r1,q1⟩=>NO ?_)
 obtain⟨a,rfl,⟨xs,hq⟩,q⟩:=q1;cases (show v=l5 a from r1);obtain⟨its,rv,sq⟩:=I1.sq hq;refine C5 sq fun h' he hit kk=>?_
 refine wpAny_pyIter_enum he ?_;have I2:Inv X pins σ H1 {s1 with heap:=h'}:=I1.kept (t':=s1.toks) kk
 have ne:s1.heap.objs.size+1≠s1.heap.objs.size:=No (Gc _);refine⟨_,[s1.heap.objs.size+1,s1.heap.objs.size],_,HL k X.K a,H1,rfl,I2,C3 k a _ _ ne,⟨⟨_,he⟩,hit⟩,fun b hb=>?_,q⟩
 simp only[kw,Cs,or_false]at hb;rcases hb with rfl|rfl
 ·exact I1.ji (LF _) (I1.hok.fresh (LF _))
 ·exact I1.ji (c8 _) (I1.hok.fresh (c8 _))
end
def AX (J:It) (ys:List (V×V)) (H:Hp):Prop:=∀i,(i<ys.length->J.go i H/\∀x H',J.yld i H x H'->∃t p,H t=none/\x=.ref t/\ys[i]?=some p/\H'=upd H t (.tup [p.1,p.2]))/\(ys.length<=i->J.stop i H)
theorem uL {k:Bool}{K:bi}{a:ac}{ys:List V}{H:Hp}(h:Sq k K H a ys):AX (HL k K a) ((jp ys.length).map fun i=>(V.int (i:Nat),ys.getD i .au)) H:=fun i=>by
 have el:((jp ys.length).map fun i=>(V.int (i:Nat),ys.getD i .au)).length=ys.length :=by simp
 rw[el];refine⟨fun hi=>⟨⟨ys,ys[i],h,ap hi⟩,fun x H' ⟨t,y,n,e1,e2,e3⟩=>⟨t,(.int (i:Nat),y),n,e1,?_,e2⟩⟩,fun hi=>⟨ys,h,hi⟩⟩
 rw[br,xw hi];have:=e3 ys h;show some (V.int (i:Nat),ys.getD i .au)=_;rw[cr,this];rfl
section
variable {prog:gc}{w:i4}{A:rb}{E:al->ba->Prop}{s:ba}{z TI TO i1 i2 l1 l2:ac}{n1 n2:Nat}{xs ys:Array al}{x y a b:al}{k1 k2:Bool}
theorem FP {Q:al->ba->Prop}(D:Z4 z TI TO i1 i2 l1 l2) (hz:X3 s.heap z TI TO .none) (hZ:IS s.heap TI (.ref i1) (.ref i2)) (iC:IS s.heap TO a b)
  (h1:SqIt k1 s.heap i1 l1 n1) (h2:SqIt k2 s.heap i2 l2 n2) (q1:cI k1 s.heap l1 xs) (q2:cI k2 s.heap l2 ys) (hx:xs[n1]?=some x) (hy:ys[n2]?=some y)
  (hQ:∀h',X3 h' z TI TO (rawInt s.heap.objs.size)->IS h' TO x y->SqIt k1 h' i1 l1 (n1+1)->SqIt k2 h' i2 l2 (n2+1)->IS h' s.heap.objs.size x y->
   (∀c o,c≠z->c≠TO->c≠i1->c≠i2->s.heap.get? c=some o->h'.get? c=some o)->Q (.ref s.heap.objs.size) {s with heap:=h'}) :
  wpAny (model prog w) A (tz.«zip.__next__» ⟨[.ref z],[]⟩) (fun fin s'=>∃v,fin=.done (.ret v)/\Q v s') E s :=by
 refine ag (m:=field (.ref z) 2) (Ch hz rfl (x:=.bool false) rfl (ag (m:=field (.ref z) 3) (Ch hz rfl (x:=.ref TI) rfl (ag (m:=seqItems? (.ref TI)) (GG hZ rfl ?_)))));refine ag (m:=ownedTupleIsFree (.ref z)) ?_;unfold ownedTupleIsFree;refine ag (m:=field (.ref z) 0) (Ch hz rfl (x:=.none) rfl (ce ?_));rw[if_pos rfl];refine ag (LM (ag (m:=field (.ref z) 4) (Ch hz rfl (x:=.ref TO) rfl (ag (m:=setField (.ref z) 0 .ellipsis) (AM hz (by simp) fun g1 (z1:X3 g1 z TI TO .ellipsis) gu=>?_)))))
 refine ag ?_;simp only[List.zipIdx_cons,List.zipIdx_nil,X0,Y1];refine ag (ag (Zp ?_));refine ag (m:=nextOf (.ref i1)) (oZ (h1.at fun o e=>gu.extBut _ o D.i1z e) (q1.at fun o e=>gu.extBut _ o D.l1z e) hx fun g2 HM eR=>ce ?_)
 have o2:IS g2 TO a b:=eR.extBut _ _ D.TOi1 (gu.extBut _ _ D.TOz iC);refine ag (GG o2 rfl (ag (YR o2 fun g3 (o3:IS g3 TO x b) k7=>ag (XW (ce ?_)))))
 refine ag (ag (Zp ?_));refine ag (m:=nextOf (.ref i2)) (oZ (h2.at fun o e=>k7.extBut _ o D.TOi2.symm (eR.extBut _ o D.i12.symm (gu.extBut _ o D.i2z e))) (q2.at fun o e=>k7.extBut _ o D.l2TO (eR.extBut _ o D.l2i1 (gu.extBut _ o D.l2z e))) hy fun g4 Vt C6=>ce ?_)
 have o4:IS g4 TO x b:=C6.extBut _ _ D.TOi2 o3;refine ag (GG o4 rfl (ag (YR o4 fun g5 (o5:IS g5 TO x y) wQ=>ag (XW (ce (ce ?_))))))
 refine ag (GG o5 rfl (ag (wpAny_newTuple ?_)));have sz:g5.objs.size=s.heap.objs.size :=by rw[wQ.1,C6.1,k7.1,eR.1,gu.1]
 have z5:X3 g5 z TI TO .ellipsis:=wQ.extBut _ _ D.TOz.symm (C6.extBut _ _ D.i2z.symm (k7.extBut _ _ D.TOz.symm (eR.extBut _ _ D.i1z.symm z1)));have k5:∀c o,c≠z->c≠TO->c≠i1->c≠i2->s.heap.get? c=some o->g5.get? c=some o:=fun c o c1 c2 c3 c4 e=>wQ.extBut _ _ c2 (C6.extBut _ _ c4 (k7.extBut _ _ c2 (eR.extBut _ _ c3 (gu.extBut _ _ c1 e))))
 have zl:z<g5.objs.size:=ij z5;refine ag (m:=ownedTupleHandOut (.ref z) _) ?_;unfold ownedTupleHandOut;have z6:X3 (g5.push {cls:=.type "tuple",data:=.seq #[x,y]}) z TI TO .ellipsis:=cb _ z5
 refine ag (AM z6 (by simp) fun g7 (z7:X3 g7 z TI TO (rawInt g5.objs.size)) HK=>?_)
 refine AM z7 (by simp) fun g8 (z8:X3 g8 z TI TO (rawInt g5.objs.size)) SA=>?_
 have up:∀c o,c≠z->g5.get? c=some o->g8.get? c=some o:=fun c o c1 e=>SA.extBut _ _ c1 (HK.extBut _ _ c1 (cb _ e))
 have t8:IS g8 g5.objs.size x y:=SA.extBut _ _ (No zl) (HK.extBut _ _ (No zl) (ff _ rfl));rw[sz]at z8 t8;refine ce ⟨_,rfl,?_⟩;show Q (.ref g5.objs.size) _;rw[sz];exact hQ g8 z8 (up _ _ D.TOz o5) (HM.at fun o e=>up _ o D.i1z (wQ.extBut _ o D.TOi1.symm (C6.extBut _ o D.i12 (k7.extBut _ o D.TOi1.symm e)))) (Vt.at fun o e=>up _ o D.i2z (wQ.extBut _ o D.TOi2.symm e)) t8
  fun c o c1 c2 c3 c4 e=>up c o c1 (k5 c o c1 c2 c3 c4 e)
theorem JS {Q:Fin->ba->Prop}(hh:A.handled=none) (D:Z4 z TI TO i1 i2 l1 l2) (hz:X3 s.heap z TI TO .none) (hZ:IS s.heap TI (.ref i1) (.ref i2)) (iC:IS s.heap TO a b)
  (h1:SqIt k1 s.heap i1 l1 n1) (h2:SqIt k2 s.heap i2 l2 n2) (q1:cI k1 s.heap l1 xs) (q2:cI k2 s.heap l2 ys) (FQ:xs[n1]?=none\/ys[n2]?=none)
  (hE:∀h' e,(∀c o,c≠z->c≠TO->c≠i1->c≠i2->s.heap.get? c=some o->h'.get? c=some o)->(∃o,h'.get? e=some o/\o.cls=.type "StopIteration")->E (.ref e) {s with heap:=h'}) :
  wpAny (model prog w) A (tz.«zip.__next__» ⟨[.ref z],[]⟩) Q E s :=by
 refine ag (m:=field (.ref z) 2) (Ch hz rfl (x:=.bool false) rfl (ag (m:=field (.ref z) 3) (Ch hz rfl (x:=.ref TI) rfl (ag (m:=seqItems? (.ref TI)) (GG hZ rfl ?_)))));refine ag (m:=ownedTupleIsFree (.ref z)) ?_;unfold ownedTupleIsFree;refine ag (m:=field (.ref z) 0) (Ch hz rfl (x:=.none) rfl (ce ?_));rw[if_pos rfl];refine ag (LM (ag (m:=field (.ref z) 4) (Ch hz rfl (x:=.ref TO) rfl (ag (m:=setField (.ref z) 0 .ellipsis) (AM hz (by simp) fun g1 (z1:X3 g1 z TI TO .ellipsis) gu=>?_)))))
 refine ag ?_;simp only[List.zipIdx_cons,List.zipIdx_nil,X0,Y1];refine ag (ag (Zp ?_));have stop:∀(g:hX) (e:ac),X3 g z TI TO .ellipsis->(∃o,g.get? e=some o/\o.cls=.type "StopIteration")->(∀c o,c≠z->c≠TO->c≠i1->c≠i2->s.heap.get? c=some o->g.get? c=some o)->
   wpAny (model prog w) A (setField (.ref z) 0 .none) (fun _ s'=>E (.ref e) s') E {s with heap:=g}:=fun g e zg ⟨o,ho,hc⟩ kk=>by
  have ne:e≠z:=fun q=>by subst q;rw[zg]at ho;cases ho;simp at hc
  exact AM zg (by simp) fun g' _ SD=>hE g' e (fun c o c1 c2 c3 c4 q=>SD.extBut _ _ c1 (kk c o c1 c2 c3 c4 q)) ⟨o,SD.extBut _ _ ne ho,hc⟩
 cases hx:xs[n1]? with
 |none=>
  refine ag (m:=nextOf (.ref i1)) (tG hh (h1.at fun o e=>gu.extBut _ o D.i1z e) (q1.at fun o e=>gu.extBut _ o D.l1z e) hx fun g2 e eb he=>?_)
  exact stop g2 e (eb _ _ D.i1z.symm z1) he fun c o c1 c2 c3 c4 q=>eb _ _ c3 (gu.extBut _ _ c1 q)
 |some x=>
  have hy:ys[n2]?=none:=FQ.elim (fun q=>by rw[hx]at q;cases q) id
  refine ag (m:=nextOf (.ref i1)) (oZ (h1.at fun o e=>gu.extBut _ o D.i1z e) (q1.at fun o e=>gu.extBut _ o D.l1z e) hx fun g2 HM eR=>ce ?_)
  have o2:IS g2 TO a b:=eR.extBut _ _ D.TOi1 (gu.extBut _ _ D.TOz iC);refine ag (GG o2 rfl (ag (YR o2 fun g3 (o3:IS g3 TO x b) k7=>ag (XW (ce ?_)))))
  refine ag (ag (Zp ?_));refine ag (m:=nextOf (.ref i2)) (tG hh (h2.at fun o e=>k7.extBut _ o D.TOi2.symm (eR.extBut _ o D.i12.symm (gu.extBut _ o D.i2z e))) (q2.at fun o e=>k7.extBut _ o D.l2TO (eR.extBut _ o D.l2i1 (gu.extBut _ o D.l2z e))) hy fun g4 e eb he=>?_)
  exact stop g4 e (eb _ _ D.i2z.symm (k7.extBut _ _ D.TOz.symm (eR.extBut _ _ D.i1z.symm z1))) he fun c o c1 c2 c3 c4 q=>eb _ _ c4 (k7.extBut _ _ c2 (eR.extBut _ _ c3 (gu.extBut _ _ c1 q)))
theorem FR {Q:Option al->ba->Prop}(D:Z4 z TI TO i1 i2 l1 l2) (hz:X3 s.heap z TI TO .none) (hZ:IS s.heap TI (.ref i1) (.ref i2)) (iC:IS s.heap TO a b)
  (h1:SqIt k1 s.heap i1 l1 n1) (h2:SqIt k2 s.heap i2 l2 n2) (q1:cI k1 s.heap l1 xs) (q2:cI k2 s.heap l2 ys) (hx:xs[n1]?=some x) (hy:ys[n2]?=some y)
  (hQ:∀h',X3 h' z TI TO (rawInt s.heap.objs.size)->IS h' TO x y->SqIt k1 h' i1 l1 (n1+1)->SqIt k2 h' i2 l2 (n2+1)->IS h' s.heap.objs.size x y->
   (∀c o,c≠z->c≠TO->c≠i1->c≠i2->s.heap.get? c=some o->h'.get? c=some o)->Q (some (.ref s.heap.objs.size)) {s with heap:=h'}):wpAny (model prog w) A (pyNext (.ref z)) Q E s :=by
 have hT:s.TypeIs (.ref z) "zip" := ⟨_,hz,rfl⟩
 have sl:=F.slot_zip_next;unfold pyNext;exact ag (Do (xy (name:=sw "__next__") hT sl (xL sl hT F.entry_zip_next (FP D hz hZ iC h1 h2 q1 q2 hx hy fun h' b1 b2 b3 b4 b5 b6=>ce (hQ h' b1 b2 b3 b4 b5 b6)) (F.args_zip_next_1 _))))
theorem FT {Q:Option al->ba->Prop}(hh:A.handled=none) (D:Z4 z TI TO i1 i2 l1 l2) (hz:X3 s.heap z TI TO .none) (hZ:IS s.heap TI (.ref i1) (.ref i2)) (iC:IS s.heap TO a b)
  (h1:SqIt k1 s.heap i1 l1 n1) (h2:SqIt k2 s.heap i2 l2 n2) (q1:cI k1 s.heap l1 xs) (q2:cI k2 s.heap l2 ys) (FQ:xs[n1]?=none\/ys[n2]?=none)
  (hQ:∀h',(∀c o,c≠z->c≠TO->c≠i1->c≠i2->s.heap.get? c=some o->h'.get? c=some o)->Q none {s with heap:=h'}):wpAny (model prog w) A (pyNext (.ref z)) Q E s :=by
 have hT:s.TypeIs (.ref z) "zip" := ⟨_,hz,rfl⟩
 have sl:=F.slot_zip_next;unfold pyNext;refine ag (Do (xy (name:=sw "__next__") hT sl (xL sl hT F.entry_zip_next (JS hh D hz hZ iC h1 h2 q1 q2 FQ fun h' e kk ⟨o,ho,hc⟩=>?_) (F.args_zip_next_1 _))))
 exact ag (LS (T := "StopIteration") (b:=true) ⟨o,ho,hc⟩ Y0 (ce (hQ _ kk)))
end
def HN (k1 k2:Bool) (K:bi) (a1 a2:ac):It:=
 ⟨fun i H=>∃xs ys x y,Sq k1 K H a1 xs/\Sq k2 K H a2 ys/\xs[i]?=some x/\ys[i]?=some y,fun i H v H'=>∃t x y,H t=none/\v=.ref t/\H'=upd H t (.tup [x,y])/\(∀xs,Sq k1 K H a1 xs->xs[i]?=some x)/\∀ys,Sq k2 K H a2 ys->ys[i]?=some y,
  fun i H=>∃xs ys,Sq k1 K H a1 xs/\Sq k2 K H a2 ys/\(xs.length<=i\/ys.length<=i)⟩
theorem FU {P:gc}{w:i4}{K:bi}{elts:List db}{x1:Nat}{pos:wE}(k1 k2:Bool) (z TI TO i1 i2 l1 l2:ac) (D:Z4 z TI TO i1 i2 l1 l2) :
  Turn P w K (.Tuple elts x1 pos) (HN k1 k2 K l1 l2) [z,TI,TO,i1,i2] z (fun i h=>X3 h z TI TO .none/\IS h TI (.ref i1) (.ref i2)/\(∃a b,IS h TO a b)/\SqIt k1 h i1 l1 i/\SqIt k2 h i2 l2 i) where
 mem :=by simp
 obj:=fun i h st b hb=>by
  obtain⟨hz,hZ,⟨a,c,iC⟩,h1,h2⟩:=st;simp only[kw,Cs,or_false]at hb;rcases hb with rfl|rfl|rfl|rfl|rfl
  ·exact⟨_,hz,fun v q=>nomatch q⟩
  ·exact⟨_,hZ,fun v q=>nomatch q⟩
  ·exact⟨_,iC,fun v q=>nomatch q⟩
  ·obtain⟨o,ho,vs,hd⟩:=h1.obj;exact⟨o,ho,fun v q=>by rw[hd]at q;cases q⟩
  ·obtain⟨o,ho,vs,hd⟩:=h2.obj;exact⟨o,ho,fun v q=>by rw[hd]at q;cases q⟩
 keep:=fun i h h' st q=>by
  obtain⟨hz,hZ,⟨a,c,iC⟩,h1,h2⟩:=st;exact⟨q z (by simp) _ hz,q TI (by simp) _ hZ,⟨a,c,q TO (by simp) _ iC⟩,h1.at fun o ho=>q i1 (by simp) o ho,h2.at fun o ho=>q i2 (by simp) o ho⟩
 item :=by
  intro X hP hw hK hc i pins s σ H E I hf st hg;subst hP hw hK;obtain⟨hz,hZ,⟨a,c,iC⟩,h1,h2⟩:=st;obtain⟨xs,ys,x,y,zB,zD,hx,hy⟩:=hg;obtain⟨NM,HP,p1⟩:=I.sq zB;obtain⟨u1,CN,Vu⟩:=HP.get hx;obtain⟨cO,jx,p2⟩:=I.sq zD;obtain⟨u2,Vv,Vw⟩:=jx.get hy;refine FR D hz hZ iC h1 h2 p1 p2 (x:=u1) (y:=u2) (by simpa using CN) (by simpa using Vv) fun g1 zo Vx CZ HM t1 kk=>?_
  refine⟨_,rfl,wpAny_letOwnedTupleGo_zip zo fun g2 z2 (eR:AL z g1 g2)=>?_⟩
  have zl:z<s.heap.objs.size:=ij hz;have I2:Inv X pins σ H {s with heap:=g2}:=I.o6 (t':=s.toks) (ch:=[z,TO,i1,i2]) (fun b o hb q=>by
   simp only[kw,Cs,or_false,not_or]at hb;exact(eR.2 b hb.1).trans (kk b o hb.1 hb.2.1 hb.2.2.1 hb.2.2.2 q)) fun b hb=>hf b (by simp at hb ⊢;rcases hb with h|h|h|h<;>simp[h])
  have hn:H s.heap.objs.size=none:=I.hok.fresh (c8 _);refine⟨.ref s.heap.objs.size,_,Inv.pair (s:=s) (tk0:=s.toks) (tk:=s.toks) I (c8 _) I2 ((eR.2 _ (No zl)).trans t1) Vu Vw,rfl,⟨_,x,y,hn,rfl,rfl,fun zs hs=>by rw[I.wU hs zB];exact hx,fun zs hs=>by rw[I.wU hs zD];exact hy⟩,
   ⟨z2,(eR.2 _ D.TIz).trans (kk _ _ D.TIz D.TITO D.TIi1 D.TIi2 hZ),⟨u1,u2,(eR.2 _ D.TOz).trans Vx⟩,CZ.at fun o q=>(eR.2 _ D.i1z).trans q,HM.at fun o q=>(eR.2 _ D.i2z).trans q⟩,fun b hb=>?_⟩
  have l:b≠s.heap.objs.size :=by
   have ex:∃o,s.heap.get? b=some o :=by
    simp only[kw,Cs,or_false]at hb;rcases hb with rfl|rfl|rfl|rfl|rfl
    ·exact⟨_,hz⟩
    ·exact⟨_,hZ⟩
    ·exact⟨_,iC⟩
    ·obtain⟨o,ho,_⟩:=h1.obj;exact⟨o,ho⟩
    ·obtain⟨o,ho,_⟩:=h2.obj;exact⟨o,ho⟩
   obtain⟨o,ho⟩:=ex;exact l7 (ij ho)
  rw[af l];exact(hf b hb).1
 done :=by
  intro X hP hw hK hc i pins s σ H E I hf st hg;subst hP hw hK;obtain⟨hz,hZ,⟨a,c,iC⟩,h1,h2⟩:=st;obtain⟨xs,ys,zB,zD,hx⟩:=hg;obtain⟨NM,HP,p1⟩:=I.sq zB;obtain⟨cO,jx,p2⟩:=I.sq zD;have md:=HP.length;have iB:=jx.length;exact FT (I.ok.hd hc) D hz hZ iC h1 h2 p1 p2 (by rcases hx with h|h;exact .inl (by simp;omega);exact .inr (by simp;omega)) fun g1 kk=>⟨rfl,I.o6 (t':=s.toks) (ch:=[z,TO,i1,i2]) (fun b o hb q=>by
   simp only[kw,Cs,or_false,not_or]at hb;exact kk b o hb.1 hb.2.1 hb.2.2.1 hb.2.2.2 q) fun b hb=>hf b (by simp at hb ⊢;rcases hb with h|h|h|h<;>simp[h])⟩
 self:=fun _ _ _ _ _ st h=>wpAny_pyIter_zip st.1 h
abbrev uM (k:Bool) (a:ac):li:={cls:=.type (if k=true then "list_iterator" else "tuple_iterator"),data:=.fields #[.ref a,.int 0 0]}
theorem uN {prog:gc}{w:i4}{A:rb}{E:al->ba->Prop}{s:ba}{k:Bool}{a:ac}{items:Array al}{Q:al->ba->Prop}(h:cI k s.heap a items) (hQ:Q (.ref s.heap.objs.size) {s with heap:=s.heap.push (uM k a)}) :
  wpAny (model prog w) A (pyIter (.ref a)) Q E s :=by
 cases k with
 |true=>exact Zu h hQ
 |false=>exact X8 h hQ
theorem C7 {k:Bool}{a it:ac}{h:hX}(e:h.get? it=some (uM k a)):SqIt k h it a 0 :=by
 cases k with
 |true=>exact⟨_,e,rfl,rfl⟩
 |false=>exact⟨_,e,rfl,rfl⟩
abbrev HQ (k1 k2:Bool) (h:hX) (a1 a2:ac):hX:=(h.push (uM k1 a1)).push (uM k2 a2)
abbrev HR (k1 k2:Bool) (h:hX) (a1 a2:ac):hX:=(HQ k1 k2 h a1 a2).push {cls:=.type "tuple",data:=.seq #[.ref h.objs.size,.ref (h.push (uM k1 a1)).objs.size]}
abbrev HS (k1 k2:Bool) (h:hX) (a1 a2:ac):hX:=(HR k1 k2 h a1 a2).push {cls:=.type "tuple",data:=.seq #[.none,.none]}
abbrev zE (k1 k2:Bool) (h:hX) (a1 a2:ac):hX:=(HS k1 k2 h a1 a2).push {cls:=.type "zip",data:=.fields #[.none,.bool false,.bool false,.ref (HQ k1 k2 h a1 a2).objs.size,.ref (HR k1 k2 h a1 a2).objs.size]}
theorem NN (k1 k2:Bool) (a1 a2:ac) (xs ys:Array al) :
  Meets (tz.«zip.__new__» ⟨[.type "zip",.ref a1,.ref a2],[]⟩) (fun _ R s=>cI k1 s.heap a1 xs/\cI k2 s.heap a2 ys/\R (.ok (.ret (.ref (HS k1 k2 s.heap a1 a2).objs.size))) {s with heap:=zE k1 k2 s.heap a1 a2}):=
 .of_wp fun prog w A R s h=>by
  obtain⟨hp,g,d,tk,os⟩:=s;obtain⟨q1,q2,h⟩:=h;have wO:=sub_zip;have Q1:cI k1 (ba.heap ⟨hp,g,d,tk,os⟩) a1 xs:=q1;have Q2:cI k2 (ba.heap ⟨hp.push (uM k1 a1),g,d,tk,os⟩) a2 ys:=cI.at (h:=hp) q2 fun o e=>cb _ e
  wp_walk using uN Q1,uN Q2
  exact⟨_,rfl,h⟩
section
variable {prog:gc}{w:i4}{A:rb}{E:al->ba->Prop}{s:ba}{k1 k2:Bool}{a1 a2:ac}{xs ys:Array al}
theorem JT {Q:al->ba->Prop}(q1:cI k1 s.heap a1 xs) (q2:cI k2 s.heap a2 ys)
  (h:∀h',X3 h' (s.heap.objs.size+4) (s.heap.objs.size+2) (s.heap.objs.size+3) .none->IS h' (s.heap.objs.size+2) (.ref s.heap.objs.size) (.ref (s.heap.objs.size+1))->IS h' (s.heap.objs.size+3) .none .none->
   SqIt k1 h' s.heap.objs.size a1 0->SqIt k2 h' (s.heap.objs.size+1) a2 0->(∀c o,s.heap.get? c=some o->h'.get? c=some o)->Q (.ref (s.heap.objs.size+4)) {s with heap:=h'}) :
  wpAny (model prog w) A (call (.type "zip") [.ref a1,.ref a2]) Q E s :=by
 refine callType_new F.called_zip (by decide) (F.typeCall_zip_2 _ _) (F.newCall_zip_2 _ _) (fun obj=>F.args_object_init_3 obj _ _) F.entry_zip_new (NN k1 k2 a1 a2 xs ys) ⟨q1,q2,?_⟩
 have p:∀{g:hX} {o o':li} {b:ac},g.get? b=some o->(g.push o').get? b=some o:=fun e=>cb _ e
 have e1:(s.heap.push (uM k1 a1)).objs.size=s.heap.objs.size+1:=AS ..;have e2:(HQ k1 k2 s.heap a1 a2).objs.size=s.heap.objs.size+2 :=by rw[AS,e1]
 have e3:(HR k1 k2 s.heap a1 a2).objs.size=s.heap.objs.size+3 :=by rw[AS,e2]
 have e4:(HS k1 k2 s.heap a1 a2).objs.size=s.heap.objs.size+4 :=by rw[AS,e3]
 have g5:(zE k1 k2 s.heap a1 a2).get? (HS k1 k2 s.heap a1 a2).objs.size=some _:=ff _ rfl;have g4:(zE k1 k2 s.heap a1 a2).get? (HR k1 k2 s.heap a1 a2).objs.size=some _:=p (ff _ rfl);have g3:(zE k1 k2 s.heap a1 a2).get? (HQ k1 k2 s.heap a1 a2).objs.size=some _:=p (p (ff _ rfl));have g2:(zE k1 k2 s.heap a1 a2).get? (s.heap.push (uM k1 a1)).objs.size=some _:=p (p (p (ff _ rfl)));have g1:(zE k1 k2 s.heap a1 a2).get? s.heap.objs.size=some _:=p (p (p (p (ff _ rfl))));show _/\_;rw[e2,e3,e4]at g5;rw[e1,e2]at g3;rw[e3]at g4;rw[e1]at g2;rw[e4];exact⟨⟨_,g5,rfl⟩,h _ g5 g3 g4 (C7 g1) (C7 g2) fun c o q=>p (p (p (p (p q))))⟩
end
section
variable {X:Cx}{l1 l2:db}{t1 t2:TE}{elts:List db}{x1:Nat}{tp p pos:wE}
def Um (k1 k2:Bool) (K:bi) (t1 t2:TE):TI:=fun σ H R=>t1 σ H fun x H1=>t2 σ H1 fun y H2=>∃a1 a2,x=.ref a1/\y=.ref a2/\(∃xs,Sq k1 K H2 a1 xs)/\(∃ys,Sq k2 K H2 a2 ys)/\R (HN k1 k2 K a1 a2) H2
theorem NP (k1 k2:Bool) {K:bi}(hK:X.K=K) (hg:Gl X "zip") (hm:X.mg "zip" = none) (h1:PE X l1 t1) (h2:PE X l2 t2) (hs:starEach [l1,l2] X.env=(false,eval l1 X.env)::starEach [l2] X.env :=by rfl) (wV:starEach [l2] X.env=[(false,eval l2 X.env)] :=by rfl) :
  PI X (.Tuple elts x1 tp) (.Call (.Name "zip" p) [l1,l2] [] pos) (Um k1 k2 K t1 t2) :=by
 subst hK;intro pins s σ H R I h;refine DD (fD I hg hm NI ?_);refine Da ?_ hs (by rw[wV];rfl)
 rw[hs,wV];refine IF (thn (h1 pins s σ H _ I h) fun v s1 ⟨x,H1,I1,r1,q1⟩=>IF (thn (h2 pins s1 σ H1 _ I1 q1) fun u s2 ⟨y,H2,I2,r2,q2⟩=>NO ?_))
 obtain⟨a1,a2,rfl,rfl,⟨xs,zB⟩,⟨ys,zD⟩,q⟩:=q2;cases (show v=l5 a1 from r1);cases (show u=l5 a2 from r2);obtain⟨NM,HP,SE⟩:=I2.sq zB;obtain⟨cO,jx,SF⟩:=I2.sq zD;refine JT SE SF fun h' hz hZ iC i1 i2 kk=>?_
 refine wpAny_pyIter_zip hz ?_;have I3:Inv X pins σ H2 {s2 with heap:=h'}:=I2.kept (t':=s2.toks) kk
 have Vy:a1<s2.heap.objs.size:=let ⟨o,n,ho,_⟩:=SE.obj;ij ho;have Vz:a2<s2.heap.objs.size:=let ⟨o,n,ho,_⟩:=SF.obj;ij ho;refine⟨_,[s2.heap.objs.size+4,s2.heap.objs.size+2,s2.heap.objs.size+3,s2.heap.objs.size,s2.heap.objs.size+1],_,HN k1 k2 X.K a1 a2,H2,rfl,I3,FU k1 k2 _ _ _ _ _ a1 a2 (zipApart_new Vy Vz),⟨hz,hZ,⟨_,_,iC⟩,i1,i2⟩,fun b hb=>?_,q⟩
 have ge:s2.heap.objs.size<=b :=by
  simp only[kw,Cs,or_false]at hb;rcases hb with rfl|rfl|rfl|rfl|rfl
  ·exact Yz _ _
  ·exact Yz _ _
  ·exact Yz _ _
  ·exact c8 _
  ·exact Yz _ _
 exact I2.ji ge (I2.hok.fresh ge)
end
theorem FV {k1 k2:Bool}{K:bi}{a1 a2:ac}{xs ys:List V}{H:Hp}(h1:Sq k1 K H a1 xs) (h2:Sq k2 K H a2 ys):AX (HN k1 k2 K a1 a2) (xs.zip ys) H:=fun i=>by
 refine⟨fun hi=>?_,fun hi=>?_⟩
 ·have dQ:=hi;rw[NH]at dQ;have i1:i<xs.length :=by omega
  have i2:i<ys.length :=by omega
  refine⟨⟨xs,ys,xs[i],ys[i],h1,h2,ap i1,ap i2⟩,fun v H' ⟨t,x,y,n,e1,e2,e3,e4⟩=>⟨t,(x,y),n,e1,?_,e2⟩⟩
  rw[zd];exact⟨e3 xs h1,e4 ys h2⟩
 ·rw[NH]at hi;exact⟨xs,ys,h1,h2,by omega⟩
end L2
namespace L2
open PySem PySem.Spec PyProof.Rows AutoSeq1
theorem FW (l b:ac) (items NQ:Array al) (n n2:Nat) (dd y4:Option ac) (sl rC:Array (Option al)) (h0:items.isEmpty=true) :
  Meets (tz.«tuple.__add__» ⟨[.ref l,.ref b],[]⟩) (fun _ R s=>s.heap.get? l=some {cls:=.type "tuple",dict:=dd,data:=.seq items n,slots:=sl}/\s.heap.get? b=some {cls:=.type "tuple",dict:=y4,data:=.seq NQ n2,slots:=rC}/\R (.ok (.ret (.ref b))) s):=
 .of_wp fun prog w A R s h=>by
  obtain⟨hp,g,d,tk,os⟩:=s;obtain⟨hl,hb,h⟩:=h;have f2:=AutoSeq1.sub_tuple_tuple;wp_walk using BB hl,BB hb
  exact⟨_,rfl,h⟩
section
variable {X:Cx}
def Q8 (K:bi):R2:=fun x y H Q=>∃a b xs ys,x=.ref a/\y=.ref b/\cw K H a xs/\cw K H b ys/\xs.length+ys.length<=sizeLine/\(xs=[]->Q (.ref b) H)/\(xs≠[]->ys=[]->Q (.ref a) H)/\(xs≠[]->ys≠[]->∀p,H p=none->Q (.ref p) (upd H p (.tup (xs++ys))))
theorem JU {K:bi}(hK:X.K=K):OpR X (binaryOp .Add) (Q8 K) :=by
 subst hK;intro pins s σ H x y v u Q I rx ry h;obtain⟨a,b,xs,ys,rfl,rfl,ha,hb,hz,q0,q1,q2⟩:=h;by_cases hx:xs=[]
 ·cases rx;cases ry;obtain⟨its,r1,p1,_⟩:=I.tuple ha;obtain⟨cO,r2,p2,_⟩:=I.tuple hb;obtain⟨⟨cls,dd,data,sl⟩,ho,hc,n,hd⟩:=id p1;obtain⟨⟨T5,y4,data2,rC⟩,rD,Cj,n2,hd2⟩:=id p2;dsimp only at hc hd Cj hd2;subst hc hd Cj hd2;exact concat_meets ⟨_,ho,rfl⟩ ⟨_,rD,rfl⟩ ZG seq_tuple_add Yo Yh (Ya _ _) (FW a b its.toArray cO.toArray n n2 dd y4 sl rC (by simp[r1.jK.mpr hx])) ⟨ho,rD,⟨.ref b,H,I,rfl,q0 hx⟩⟩
 ·exact Jy pins s σ H _ _ v u Q I rx ry ⟨a,b,xs,ys,rfl,rfl,ha,hb,hx,hz,q1 hx,q2 hx⟩
end
end L2
namespace L2
open PySem PySem.Spec PyProof.Rows
section
variable {X:Cx}{st:tw}{ι:Type}{Pre:ι->St->Hp->Prop}{D:ι->Ends}
theorem vt {P:gc}{w:i4}{K:bi}(hP:X.prog=P) (hw:X.w=w) (h:X.K=K) (hc:X.calm=true):cV X (.builtin "sorted") (zx P w K) :=by
 subst hP hw h;exact wJ hc
theorem PS.ju {st:tw}{t:TS}(h:PS X.ju st t):PS X st t:=⟨fun pins s σ H D I hw=>
 mf (h pins s σ H D (I.jh _) hw) (fun _ _ q=>q.gm) fun _ _ z=>GT z⟩
end
section
variable {κ:Type} [DecidableEq κ]
def jm (ak:List (κ×V)) (k:κ):Option V:=(ak.find? fun kv=>decide (kv.1=k)).map (·.2)
def putK (ak:List (κ×V)) (k:κ) (v:V):List (κ×V):=
 if (ak.any fun kv=>decide (kv.1=k))=true then ak.map (fun kv=>if kv.1=k then (kv.1,v) else kv) else ak++[(k,v)]
theorem mS {p:κ×V}{r:List (κ×V)}{k:κ}(e:p.1=k):jm (p::r) k=some p.2 :=by simp[jm,UF,e]
theorem mU {p:κ×V}{r:List (κ×V)}{k:κ}(e:¬ p.1=k):jm (p::r) k=jm r k :=by simp[jm,UF,e]
theorem qu (k:κ):∀ak:List (κ×V),(ak.any fun kv=>decide (kv.1=k))=(jm ak k).isSome
 | []=>rfl
 |p::r=>by
          rw[XU];by_cases e:p.1=k
          ·simp only[mS e,decide_eq_true e,Bool.true_or,Option.isSome_some]
          ·rw[mU e,decide_eq_false e,Bool.false_or];exact qu k r
theorem lQ (ak:List (κ×V)) (k:κ) (v:V):(putK ak k v).length<=ak.length+1 :=by
 unfold putK;split
 ·rw[ci];omega
 ·rw[wb,Mc,Uf];omega
theorem jV.i7 {o:Option V}{u:Option al}(r:jV o u):o.isSome=u.isSome :=by
 cases o with
 |none=>cases u with
  |none=>rfl
  |some _=>exact(show False from r).elim
 |some _=>cases u with
  |none=>exact(show False from r).elim
  |some _=>rfl
theorem KV.val {ak:List (κ×V)}{vs:List (κ×al)}(r:KV ak vs) (k:κ):jV (jm ak k) (valueAt vs k) :=by
 unfold KV at r;induction r with
 |nil=>exact NE
 | @cons p q ps qs h t ih=>
  obtain⟨h1,h2⟩:=h;by_cases e:p.1=k
  ·have e':q.1=k:=h1.symm.trans e;have b:valueAt (q::qs) k=some q.2 :=by simp[valueAt,UF,e']
   rw[mS e,b];exact h2
  ·have e':¬ q.1=k:=fun z=>e (h1.trans z)
   have b:valueAt (q::qs) k=valueAt qs k :=by simp[valueAt,UF,e']
   rw[mU e,b];exact ih
theorem KV.any {ak:List (κ×V)}{vs:List (κ×al)}(r:KV ak vs) (k:κ):(ak.any fun kv=>decide (kv.1=k))=vs.any fun kv=>decide (kv.1=k) :=by
 unfold KV at r;induction r with
 |nil=>rfl
 |cons h t ih=>rw[XU,XU,ih,h.1]
theorem KV.repl {ak:List (κ×V)}{vs:List (κ×al)}(r:KV ak vs) (k:κ) {y:V}{u:al}(ry:RelV y u) :
  KV (ak.map fun kv=>if kv.1=k then (kv.1,y) else kv) (vs.map fun kv=>if kv.1=k then (kv.1,u) else kv) :=by
 unfold KV at r ⊢;induction r with
 |nil=>exact .nil
 | @cons p q ps qs h t ih=>
  rw[ss,ss];refine .cons ?_ ih;obtain⟨h1,h2⟩:=h;by_cases e:p.1=k
  ·rw[if_pos e,if_pos (h1.symm.trans e)];exact⟨h1,ry⟩
  ·rw[if_neg e,if_neg (fun z=>e (h1.trans z))];exact⟨h1,h2⟩
theorem KV.put {ak:List (κ×V)}{vs:List (κ×al)}(r:KV ak vs) (k:κ) {y:V}{u:al}(ry:RelV y u):KV (putK ak k y) (stored vs k u) :=by
 unfold putK stored;rw[r.any k];by_cases e:(vs.any fun kv=>decide (kv.1=k))=true
 ·rw[if_pos e,if_pos e];exact r.repl k ry
 ·rw[if_neg e,if_neg e];exact Go.snoc r ⟨rfl,ry⟩
theorem KV.length {ak:List (κ×V)}{vs:List (κ×al)}(r:KV ak vs):ak.length=vs.length:=XT r
end
theorem o7 {P:gc}{w:i4}{k:Key}{u:al}(r:RelV (kV k) u):(bI P w).is k u=true :=by
 cases k with
 |inl i=>obtain⟨t,e⟩:=(show ∃t,u=Tl i t from r);subst e;exact yw P w i t
 |inr x=>obtain⟨t,e⟩:=(show ∃t,u=YC x t from r);subst e;exact yx P w x t
theorem uO {P:gc}{w:i4}:∀{ks:List Key}{us:List al},Vals (ks.map kV) us->ItemsAre (bI P w) ks us
 | [],_,r=>by rw[SB]at r;cases r;exact .nil
 |k::ks,_,r=>by
          rw[ss]at r;cases r with
          |cons h t=>exact .cons (o7 h) (uO t)
abbrev KT (H:Hp):List (List Key×V)->List (List Key×ac×al)->Prop:=Go fun p q=>p.1=q.1/\H q.2.1=some (.tup (p.1.map kV))/\RelV p.2 q.2.2
theorem KT.val {H:Hp}{ak:List (List Key×V)}{xs:List (List Key×ac×al)}(r:KT H ak xs) (k:List Key):jV (jm ak k) ((atKey xs k).map (·.2)) :=by
 induction r with
 |nil=>exact NE
 | @cons p q ps qs h t ih=>
  obtain⟨h1,_,h2⟩:=h;by_cases e:p.1=k
  ·have e':q.1=k:=h1.symm.trans e;have b:atKey (q::qs) k=some q.2 :=by simp[atKey,UF,e']
   rw[mS e,b];exact h2
  ·have e':¬ q.1=k:=fun z=>e (h1.trans z)
   have b:atKey (q::qs) k=atKey qs k :=by simp[atKey,UF,e']
   rw[mU e,b];exact ih
theorem KT.repl {H:Hp}{ak:List (List Key×V)}{xs:List (List Key×ac×al)}(r:KT H ak xs) (k:List Key) {y:V}{u:al}(ry:RelV y u) :
  KT H (ak.map fun kv=>if kv.1=k then (kv.1,y) else kv) (xs.map (putAt k u)) :=by
 induction r with
 |nil=>exact .nil
 | @cons p q ps qs h t ih=>
  rw[ss,ss];refine .cons ?_ ih;obtain⟨h1,h2,h3⟩:=h;unfold putAt;by_cases e:p.1=k
  ·rw[if_pos e,if_pos (h1.symm.trans e)];exact⟨h1,h2,ry⟩
  ·rw[if_neg e,if_neg (fun z=>e (h1.trans z))];exact⟨h1,h2,h3⟩
theorem KT.put {H:Hp}{ak:List (List Key×V)}{xs:List (List Key×ac×al)}(r:KT H ak xs) (k:List Key) {b:ac}{y:V}{u:al}(hb:H b=some (.tup (k.map kV))) (ry:RelV y u) :
  KT H (putK ak k y) (storedH xs k b u) :=by
 have e:(ak.any fun kv=>decide (kv.1=k))=(atKey xs k).isSome :=by
  rw[qu,(r.val k).i7,WE]
 unfold putK storedH;rw[e];by_cases q:(atKey xs k).isSome=true
 ·rw[if_pos q,if_pos q];exact r.repl k ry
 ·rw[if_neg q,if_neg q];exact Go.snoc r ⟨rfl,hb,ry⟩
theorem KT.keeps {H H':Hp}{ak:List (List Key×V)}{xs:List (List Key×ac×al)}(r:KT H ak xs) (ht:∀b ys,H b=some (.tup ys)->H' b=some (.tup ys)):KT H' ak xs:=
 Go.E4 r fun _ _ z=>⟨z.1,ht _ _ z.2.1,z.2.2⟩
section
variable {P:gc}{w:i4}{H:Hp}{h:hX}{a:ac}
theorem HU {u:HO}(ok:cS P w H h) (e:Rd H a u):ObjOk P w H h a u:=e.ok ok
theorem o8 {ak:List (Key×V)}(ok:cS P w H h) (e:Rd H a (.dK ak)):ak.length<=sizeLine/\(a==sysModules)=false/\∃vs,KV ak vs/\h.DictOf (bI P w) a vs:=
 show ObjOk P w H h a (.dK ak) from HU ok e
theorem HV {ak:List (Key×V)}(ok:cS P w H h) (e:H a=some (.dK ak)):ak.length<=sizeLine/\(a==sysModules)=false/\∃vs,KV ak vs/\h.DictOf (bI P w) a vs:=o8 ok (.inl e)
theorem mh {ks:List Key}(ok:cS P w H h) (e:H a=some (.tup (ks.map kV))):(tupleKind (bI P w)).is h ks a :=by
 obtain⟨_,its,r,o,h1,h2,n,h3,_⟩:=(show ObjOk P w H h a (.tup (ks.map kV)) from ok a _ e);exact⟨o,its.toArray,n,h1,h2,h3,by simpa using uO r⟩
theorem sd {ak:List (List Key×V)}(ok:cS P w H h) (e:Rd H a (.dT ak)):ak.length<=sizeLine/\(a==sysModules)=false /\
  ∃xs,KT H ak xs/\h.DictOfH (tupleKind (bI P w)) a xs :=by
 obtain⟨z,y,xs,r,o,es,ep,h1,h2,h3,h4,h5⟩:=(show ObjOk P w H h a (.dT ak) from HU ok e);refine⟨z,y,xs,r,o,es,ep,h1,h2,h3,h4,fun x hx=>?_,h5⟩
 have all:∀{l:List (List Key×V)} {m:List (List Key×ac×al)},KT H l m->∀x∈m,(tupleKind (bI P w)).is h x.1 x.2.1 :=by
  intro l m q;induction q with
  |nil=>intro x hx;exact nomatch hx
  | @cons p q ps qs hq t ih=>
   intro x hx;rcases kw.mp hx with e|hx
   ·subst e;exact mh ok (by rw[<- hq.1];exact hq.2.1)
   ·exact ih x hx
 exact all r x hx
theorem HW {ak:List (List Key×V)}(ok:cS P w H h) (e:H a=some (.dT ak)):ak.length<=sizeLine/\(a==sysModules)=false /\
  ∃xs,KT H ak xs/\h.DictOfH (tupleKind (bI P w)) a xs:=sd ok (.inl e)
end
def qw (H:Hp) (a:ac) (y:V) (r:Option V):Prop:=
 (∃ak k,Rd H a (.dK ak)/\y=kV k/\r=jm ak k)\/∃ak k b,Rd H a (.dT ak)/\y=.ref b/\H b=some (.tup (k.map kV))/\r=jm ak k
def NR (H:Hp) (a:ac) (y v:V) (H':Hp):Prop:=
 (∃ak k,H a=some (.dK ak)/\y=kV k/\ak.length<sizeLine/\H'=upd H a (.dK (putK ak k v))) \/
 ∃ak k b,H a=some (.dT ak)/\y=.ref b/\H b=some (.tup (k.map kV))/\ak.length<sizeLine/\H'=upd H a (.dT (putK ak k v))
section
variable {X:Cx}{pins:List (ac×li)}{σ:St}{H:Hp}{s:ba}{a:ac}{y v:V}{u r:al}{o:Option V}{A:rb}{E:al->ba->Prop}
theorem Inv.big (I:Inv X pins σ H s):sysModules<s.heap.objs.size :=by
 have h:mainGlobals<s.heap.objs.size:=(I.mod.glob.keeps I.bk).lt;exact Yc (by decide) h
theorem C8 {Q:al->ba->Prop}(hu:A.units+1<cLine) (I:Inv X pins σ H s) (g:qw H a y (some v)) (ry:RelV y u) (h:∀w' s',Inv X pins σ H s'->RelV v w'->Q w' s') :
  wpAny (model X.prog X.w) A (getItem (.ref a) u) Q E s :=by
 rcases g with ⟨ak,k,e,ey,l⟩|⟨ak,k,b,e,ey,eb,l⟩
 ·subst ey;obtain⟨z,hd,vs,rel,dd⟩:=o8 I.hok e;obtain⟨w',hw,jY⟩:=jV.some_of (v:=v) (o:=valueAt vs k) (by rw[l];exact rel.val k)
  exact wpAny_getItem_of (o7 ry) dd.mapOf hw (h w' _ (I.tok _) jY)
 ·subst ey;cases (show u=l5 b from ry);obtain⟨z,hd,xs,rel,dd⟩:=sd I.hok e;obtain⟨w',hw,jY⟩:=jV.some_of (v:=v) (o:=(atKey xs k).map (·.2)) (by rw[l];exact rel.val k)
  obtain⟨p,hp,VA⟩:=lc.mp hw;refine wpAny_getItem_heap (Yd hu) (mh I.hok eb) dd hp ?_;rw[VA];exact h w' _ (I.tok _) jY
theorem Uo {Q:al->ba->Prop}(hu:A.units+1<cLine) (I:Inv X pins σ H s) (g:qw H a y o) (ry:RelV y u) (h:∀s',Inv X pins σ H s'->Q (.bool o.isSome) s') :
  wpAny (model X.prog X.w) A (compareOp .In u (.ref a)) Q E s :=by
 rcases g with ⟨ak,k,e,ey,l⟩|⟨ak,k,b,e,ey,eb,l⟩
 ·subst ey;obtain⟨z,hd,vs,rel,dd⟩:=o8 I.hok e;refine wpAny_in_of (o7 ry) hd dd.mapOf ?_;rw[<- (rel.val k).i7,<- l];exact h _ (I.tok _)
 ·subst ey;cases (show u=l5 b from ry);obtain⟨z,hd,xs,rel,dd⟩:=sd I.hok e;refine wpAny_in_heap (Yd hu) (mh I.hok eb) hd dd ?_;have q:=(rel.val k).i7;rw[WE]at q;rw[<- q,<- l];exact h _ (I.tok _)
theorem JV {Q:al->ba->Prop}(hu:A.units+1<cLine) (I:Inv X pins σ H s) (g:qw H a y o) (ry:RelV y u) (h:∀s',Inv X pins σ H s'->Q (.bool (!o.isSome)) s') :
  wpAny (model X.prog X.w) A (compareOp .NotIn u (.ref a)) Q E s :=by
 rcases g with ⟨ak,k,e,ey,l⟩|⟨ak,k,b,e,ey,eb,l⟩
 ·subst ey;obtain⟨z,hd,vs,rel,dd⟩:=o8 I.hok e;refine wpAny_notIn_of (o7 ry) hd dd.mapOf ?_;rw[<- (rel.val k).i7,<- l];exact h _ (I.tok _)
 ·subst ey;cases (show u=l5 b from ry);obtain⟨z,hd,xs,rel,dd⟩:=sd I.hok e;refine wpAny_notIn_heap (Yd hu) (mh I.hok eb) hd dd ?_;have q:=(rel.val k).i7;rw[WE]at q;rw[<- q,<- l];exact h _ (I.tok _)
theorem o9 {h':hX}{t':Nat}{ob:HO}(I:Inv X pins σ H s) (mu:BV (H a)) (hs:AL a s.heap h') (he:∃q,h'.get? a=some q) (new:ObjOk X.prog X.w (upd H a ob) h' a ob) :
  Inv X pins σ (upd H a ob) {s with heap:=h',toks:=t'}:=
 I.write (x:=a) (e:=a) mu (.inl rfl) (fun b q hb z=>(hs.2 b hb).trans z) he new
theorem C9 {P:gc}{w:i4}{H':Hp}{h':hX}{ak:List (Key×V)}{vs:List (Key×al)}(z:ak.length<=sizeLine) (hd:(a==sysModules)=false) (rel:KV ak vs) (dd:h'.DictOf (bI P w) a vs) :
  ObjOk P w H' h' a (.dK ak):=⟨z,hd,vs,rel,dd⟩
theorem Dc {H':Hp}{Q:Unit->ba->Prop}(hu:A.units+1<cLine) (I:Inv X pins σ H s) (g:NR H a y v H') (ry:RelV y u) (rv:RelV v r) (h:∀s',Inv X pins σ H' s'->Q () s') :
  wpAny (model X.prog X.w) A (setItem (.ref a) u r) Q E s :=by
 rcases g with ⟨ak,k,e,ey,l,eH⟩|⟨ak,k,b,e,ey,eb,l,eH⟩
 ·subst ey eH;obtain⟨z,hd,vs,rel,dd⟩:=HV I.hok e;have hz:vs.length<=sizeLine :=by rw[<- rel.length];exact z
  have hl:(putK ak k v).length<=sizeLine :=by have:=lQ ak k v;omega
  refine wpAny_setItem_pairs (hsz:=hz) (o7 ry) dd fun h' se hs=>h _ ?_
  have he:∃q,h'.get? a=some q:=let ⟨q,_,_,hq,_⟩:=se;⟨q,hq⟩;exact o9 I (by rw[e];exact NE) hs he (C9 hl hd (rel.put k rv) se)
 ·subst ey eH;cases (show u=l5 b from ry);obtain⟨z,hd,xs,rel,dd⟩:=HW I.hok e;have hz:xs.length<=sizeLine :=by rw[<- XT rel];exact z
  have hl:(putK ak k v).length<=sizeLine :=by have:=lQ ak k v;omega
  refine wpAny_setItem_heap (hsz:=hz) (Yd hu) (mh I.hok eb) dd fun h' se hs=>h _ ?_
  obtain⟨q,es,ep,hq,h2,h3,h4,_,h5⟩:=se;refine o9 I (by rw[e];exact NE) hs ⟨q,hq⟩ ⟨hl,hd,_,(rel.put k eb rv).keeps fun c ys ec=>?_,q,es,ep,hq,h2,h3,h4,h5⟩
  rw[af (Ak ec e (fun z=>nomatch z))]
  exact ec
end
section
variable {X:Cx}{pins:List (ac×li)}{σ:St}{H:Hp}{s:ba}{a:ac}{ak:List (Key×V)}{k:Key}{u:al}{A:rb}{E:al->ba->Prop}
theorem Q9 {Q:al->ba->Prop}(I:Inv X pins σ H s) (e:Rd H a (.dK ak)) (h:∀t s',Inv X pins σ H s'->Q (.int ak.length t) s'):wpAny (model X.prog X.w) A (call (.builtin "len") [.ref a]) Q E s :=by
 obtain⟨z,hd,vs,rel,dd⟩:=o8 I.hok e;refine call_len_dict hd dd (by rw[<- rel.length];rw[XV]at z;omega) ?_
 rw[<- rel.length];exact h _ _ (I.tok _)
end
def FX (i:db):Prop:=∀ov iv,subscripted i false ov iv=operate [ov,iv] (getItem ov iv)
theorem JW {prog:gc}{w:i4}{A:rb}{E:al->ba->Prop}{s:ba}{env:Mn}{value slice:db}{pos:wE}{T id:String}{Q:al->ba->Prop}
  (hl:typeLookup (.type T) "__getitem__" = pure (some (.builtin id))) (hs:FX slice)
  (h:wpAny (model prog w) A (eval value env) (fun o aC=>wpAny (model prog w) A (eval slice env) (fun i jg=>jg.TypeIs o T/\wpAny (model prog w) A (getItem o i) Q E jg) E aC) E s) :
  wpAny (model prog w) A (eval (.Subscript value slice pos) env) Q E s :=by
 refine Subscript_ (mf h (fun o aC gb=>mf gb (fun i jg FY=>?_) fun _ _ x=>x) fun _ _ x=>x)
 obtain⟨hT,FY⟩:=FY;unfold subscriptTail;refine ag ?_;rw[getitemInPython_of_ne hT.not_modules];refine ag (wpAny_specialOf hT hl ?_);have fin:wpAny (model prog w) A (subscripted slice false o i) (fun r jj=>wpAny (model prog w) A (letTemporaryGo value o r>>=fun _=>pure r) Q E jj) E jg :=by
  rw[hs o i];exact wpAny_operating (mf FY (fun r jj Up=>ag (wpAny_letTemporaryGo (ce Up))) fun _ _ x=>x)
 first
  |exact ce (ag fin)
  |exact ag (ce (ag fin))
  |exact ag fin
theorem yF {X:Cx}{pins:List (ac×li)}{σ:St}{H:Hp}{s:ba}{a:ac}{y:V}{o:Option V}(I:Inv X pins σ H s) (g:qw H a y o):s.TypeIs (.ref a) "dict" := by
 rcases g with ⟨ak,k,e,_,_⟩|⟨ak,k,b,e,_,_,_⟩
 ·obtain⟨_,_,vs,_,dd⟩:=o8 I.hok e;exact dd.typeIs
 ·obtain⟨_,_,xs,_,dd⟩:=sd I.hok e;exact dd.typeIs
def Ra (td ty:TE):TE:=fun σ H Q=>td σ H fun x H1=>ty σ H1 fun y H2=>∃a v,x=.ref a/\qw H2 a y (some v)/\Q v H2
def Rb (td ty tv:TE):TS:=fun D σ H=>tv σ H fun v H1=>td σ H1 fun x H2=>ty σ H2 fun y H3=>∃a H4,x=.ref a/\NR H3 a y v H4/\D.nx σ H4
section
variable {X:Cx}{o i e value:db}{pos pos' Xk:wE}{td ty tv:TE}
theorem JX (hu:X.A.units+1<cLine) (ho:PE X o td) (hi:PE X i ty) (hs:FX i):PE X (.Subscript o i pos) (Ra td ty) :=by
 refine⟨?_⟩;intro pins s σ H Q I h;refine JW PySem.F.slot_dict_getitem.lookup hs (thn (ho pins s σ H _ I h) fun u s1 ⟨x,H1,I1,rx,q1⟩=>thn (hi pins s1 σ H1 _ I1 q1) fun iv s2 ⟨y,H2,I2,ry,a,v,ex,g,q2⟩=>?_)
 subst ex;obtain rfl:u=l5 a:=rx;exact⟨yF I2 g,C8 hu I2 g ry fun w' s3 I3 jY=>⟨v,H2,I3,jY,q2⟩⟩
theorem JY (hu:X.A.units+1<cLine) (ho:PE X o td) (hi:PE X i ty) (hv:PE X value tv) (hs:swapsWith value (some (.Subscript o i pos')) pos.line X.env=pure false) :
  PS X (.Assign [.Subscript o i pos'] value pos) (Rb td ty tv) :=by
 refine⟨?_⟩;intro pins s σ H D I h;refine wpAny_Assign_Subscript (thn (hv pins s σ H _ I h) fun r s1 ⟨v,H1,I1,rv,q1⟩=>thn (ho pins s1 σ H1 _ I1 q1) fun u s2 ⟨x,H2,I2,rx,q2⟩=>thn (hi pins s2 σ H2 _ I2 q2) fun iv s3 ⟨y,H3,I3,ry,a,H4,ex,g,q3⟩=>?_) hs
 subst ex;obtain rfl:u=l5 a:=rx;exact Dc hu I3 g ry rv fun s4 I4=>⟨σ,H4,I4,q3⟩
end
theorem FZ {P:gc}{w:i4}{H:Hp}(h:hX) (hb:sysModules<h.objs.size):ObjOk P w H (h.push {cls:=.type "dict",data:=.dict #[]}) h.objs.size (.dK []):=
 ⟨xb _,beq_eq_false_iff_ne.mpr (AN (l7 hb)),[],.nil,hX.DictOf.new h⟩
theorem F0 {P:gc}{w:i4}{H:Hp}(h:hX) (hb:sysModules<h.objs.size):ObjOk P w H (h.push {cls:=.type "dict",data:=.dict #[]}) h.objs.size (.dT []):=
 ⟨xb _,beq_eq_false_iff_ne.mpr (AN (l7 hb)),[],.nil,_,#[],0,ff _ rfl,⟨rfl,rfl,rfl⟩,rfl,rfl,List.nodup_nil⟩
def wW:List (TE×TE)->St->Hp->(List (V×V)->Hp->Prop)->Prop
 | [],_,H,Q=>Q [] H
 |(tk,tv)::r,σ,H,Q=>tk σ H fun x H1=>tv σ H1 fun y H2=>wW r σ H2 fun ps H3=>Q ((x,y)::ps) H3
abbrev VV:List (V×V)->List (al×al)->Prop:=Go fun p q=>RelV p.1 q.1/\RelV p.2 q.2
def PPs (X:Cx) (pos:wE) (keys:List (Option db)) (values:List db) (sf:List (TE×TE)):Prop:=
 ∀(pins:List (ac×li)) (s:ba) (σ:St) (H:Hp) (Q:List (V×V)->Hp->Prop),Inv X pins σ H s->wW sf σ H Q->
  wpAny (model X.prog X.w) X.A (evalPairs (pairTrees keys values X.env pos)) (fun vs s'=>∃ps H',Inv X pins σ H' s'/\VV ps vs/\Q ps H') X.xe s
theorem JZ {X:Cx}{pos:wE}:PPs X pos [] [] []:=fun pins s σ H Q I h=>pairTrees_nil_walk ⟨[],H,I,.nil,h⟩
theorem F1 {X:Cx}{pos:wE}{k v:db}{ks:List (Option db)}{vs:List db}{tk tv:TE}{sf:List (TE×TE)}(hk:PE X k tk) (hv:PE X v tv) (hr:PPs X pos ks vs sf) :
  PPs X pos (some k::ks) (v::vs) ((tk,tv)::sf):=fun pins s σ H Q I h=>
 pairTrees_cons_walk (thn (hk pins s σ H _ I h) fun u s1 ⟨x,H1,I1,rx,q1⟩=>thn (hv pins s1 σ H1 _ I1 q1) fun w2 s2 ⟨y,H2,I2,ry,q2⟩=>
  thn (hr pins s2 σ H2 _ I2 q2) fun ws s3 ⟨ps,H3,I3,rel,q3⟩=>⟨(x,y)::ps,H3,I3,.cons ⟨rx,ry⟩ rel,q3⟩)
def mi (ak more:List (Key×V)):List (Key×V):=more.foldl (fun acc kv=>putK acc kv.1 kv.2) ak
theorem KV.merge:∀{more:List (Key×V)}{rs:List (Key×al)}{ak:List (Key×V)}{vs:List (Key×al)},KV more rs->KV ak vs->KV (mi ak more) (merged vs rs) :=by
 intro more rs ak vs r;unfold KV at r;induction r generalizing ak vs with
 |nil=>intro q;exact q
 | @cons p q ps qs h t ih=>
  intro r0;have e:KV (putK ak p.1 p.2) (stored vs q.1 q.2) :=by
   have:=r0.put p.1 h.2;rw[<- h.1];exact this
  exact ih e
theorem nz:∀(more ak:List (Key×V)),(mi ak more).length<=ak.length+more.length
 | [],ak=>by show ak.length<=ak.length+0;omega
 |p::r,ak=>by
          have h1:=nz r (putK ak p.1 p.2);have h2:=lQ ak p.1 p.2;show (mi (putK ak p.1 p.2) r).length<=_;rw[Mc];omega
theorem sg {P:gc}{w:i4}:∀{ak:List (Key×V)}{ws:List (al×al)},VV (ak.map fun kv=>(kV kv.1,kv.2)) ws->∃rs,Carries (bI P w) ws rs/\KV ak rs
 | [],_,r=>by rw[SB]at r;cases r;exact⟨[],NE,.nil⟩
 |p::ak,_,r=>by
          rw[ss]at r;cases r with
          | @cons a b as bs h t=>
           obtain⟨rs,c,q⟩:=sg (P:=P) (w:=w) t;obtain⟨b1,b2⟩:=b;exact⟨(p.1,b2)::rs,⟨o7 h.1,rfl,c⟩,.cons ⟨rfl,h.2⟩ q⟩
def Rc (sf:List (TE×TE)):TE:=fun σ H Q=>∀p,H p=none->wW sf σ (upd H p (.dK [])) fun ps H2=>H2 p=some (.dK [])/\∃ak:List (Key×V),ps=ak.map (fun kv=>(kV kv.1,kv.2))/\ak.length<=15/\Q (.ref p) (upd H2 p (.dK (mi [] ak)))
theorem J0 {X:Cx}{pos:wE}{keys:List (Option db)}{values:List db}{sf:List (TE×TE)}(h:PPs X pos keys values sf) (Ft:keys.all (·.isSome)=true) (hl:keys.length=values.length) (h0:keys≠[])
  (VB:keys.length<=15):PE X (.Dict keys values pos) (Rc sf) :=by
 refine⟨?_⟩;intro pins s σ H Q I q;have hn:=I.hok.fresh (c8 s.heap.objs.size);have I1:=I.laid (a:=s.heap.objs.size) (o:=.dK []) (h':=s.heap.push {cls:=.type "dict",data:=.dict #[]}) (t':=s.toks) (fun _ _ q=>cb _ q) (c8 _) (FZ s.heap I.big)
 refine wpAny_Dict_walk (knd:=bI X.prog X.w) Ft hl h0 VB (thn (h pins _ σ _ _ I1 (q _ hn)) fun ws s2 ⟨ps,H2,I2,rel,e,ak,ep,lk,q2⟩=>?_)
 subst ep;obtain⟨rs,c,rk⟩:=sg (P:=X.prog) (w:=X.w) rel;obtain⟨z,hd,NS,r0,dd⟩:=HV I2.hok e;cases r0;refine⟨rs,c,dd,fun h' se hs=>⟨.ref s.heap.objs.size,_,?_,rfl,q2⟩⟩
 have hz:(mi [] ak).length<=sizeLine :=by
  have h1:=nz ak [];rw[Uf]at h1;rw[XV];omega
 have he:∃q,h'.get? s.heap.objs.size=some q:=let ⟨q,_,_,hq,_⟩:=se;⟨q,hq⟩;exact o9 I2 (by rw[e];exact NE) hs he (C9 hz hd (rk.merge .nil) se)
structure M1 (X:Cx) (o:db) (m:bn) (apos:wE) (e:db) (bD:wE):Prop where
 base:attributeBase o m X.env (eval o X.env)=eval o X.env
 few:((backTo bD (starEach [e] X.env)).all (fun x => !x.1) && (backToKw bD (keywordEach [] X.env)).all (fun x=>x.1.isSome)
  && decide (([e]:List db).length+([]:List Yf).length+(if ([]:List Yf).isEmpty then 0 else 1)<30))=true
 line:(apos.endLine==bD.line)=true
 trees:backTo bD (starEach [e] X.env)=[(false,eval e X.env)]
structure M2 (X:Cx) (o:db) (m:bn) (apos:wE) (e f:db) (bD:wE):Prop where
 base:attributeBase o m X.env (eval o X.env)=eval o X.env
 few:((backTo bD (starEach [e,f] X.env)).all (fun x => !x.1) && (backToKw bD (keywordEach [] X.env)).all (fun x=>x.1.isSome)
  && decide (([e,f]:List db).length+([]:List Yf).length+(if ([]:List Yf).isEmpty then 0 else 1)<30))=true
 line:(apos.endLine==bD.line)=true
 trees:backTo bD (starEach [e,f] X.env)=[(false,eval e X.env),(false,eval f X.env)]
inductive Dv where
 |int (i:Int)|bl (b:Bool)|au|str (z:bn)|tup (xs:List Dv)|lst (xs:List Dv)|set (ns:List Int)|ptr (a:ac)|exc (C:ac)|bB (ns:List Int)|raw (v:V)|dk (ks:List Key) (ds:List Dv)|dt (ks:List (List Key)) (ds:List Dv)|bS (f:ac) (o:li) (c:ac) (oc:li) (vs:List V) (ds:List Dv)
inductive Mo where
 |lst (xs:List Dv)|dA|dk (ks:List Key) (ds:List Dv)|dt (ks:List (List Key)) (ds:List Dv)
abbrev Mh:=ac->Option Mo
structure cz where
 g:List ac
 l:List (ac×bn)
instance:Membership ac cz:=⟨fun t a=>a∈t.g⟩
def HX:HO->Bool
 | .c7 _=>true
 | .lam _=>true
 | .dK _=>true
 | .dT _=>true
 |_=>false
def Dd:HO->Bool
 | .c7 _=>false
 |_=>true
def j8:HO->Bool
 | .dK _=>true
 | .dT _=>true
 |_=>false
theorem Rd.map {H H':Hp}{a:ac}{u:HO}(e:Rd H a u) (k:∀x,H a=some x->H' a=some x):Rd H' a u:=e.imp (k _) fun⟨o,h⟩=>⟨o,k _ h⟩
theorem Rd.NT {H H':Hp}{a:ac}{u:HO}(e:Rd H a u) (hu:j8 u=true) (k:∀x,Dd x=true->H a=some x->H' a=some x):Rd H' a u:=e.imp (k _ (by cases u<;>first|rfl|cases hu)) fun⟨o,h⟩=>⟨o,k _ rfl h⟩
theorem Rd.there {H:Hp}{a:ac}{u:HO}(e:Rd H a u):∃x,H a=some x:=e.elim (fun h=>⟨_,h⟩) fun⟨o,h⟩=>⟨_,h⟩
def Tg (o o':HO):Prop:=(∃ps g6:Array al,o=.c7 ps/\o'=.c7 g6/\OP g6.toList)\/(∃ps g6:Array al,o=.lam ps/\o'=.lam g6)\/(j8 o=true/\∃ob,o'=.bM ob o)
theorem Tg.trans {a b c:HO}(x:Tg a b) (y:Tg b c):Tg a c :=by
 rcases x with ⟨p,q,rfl,rfl,t⟩|⟨p,q,rfl,rfl⟩|⟨hd,ob,rfl⟩
 ·rcases y with ⟨p2,q2,e,rfl,t2⟩|⟨p2,q2,e,_⟩|⟨e,_⟩
  ·exact .inl ⟨p,q2,rfl,rfl,t2⟩
  ·cases e
  ·cases e
 ·rcases y with ⟨p2,q2,e,_⟩|⟨p2,q2,e,rfl⟩|⟨e,_⟩
  ·cases e
  ·exact .inr (.inl ⟨p,q2,rfl,rfl⟩)
  ·cases e
 ·rcases y with ⟨p2,q2,e,_⟩|⟨p2,q2,e,_⟩|⟨e,_⟩<;>cases e
theorem Tg.tab {a b:HO}(x:Tg a b):HX a=true :=by
 rcases x with ⟨p,q,rfl,rfl,_⟩|⟨p,q,rfl,rfl⟩|⟨hd,ob,rfl⟩
 ·rfl
 ·rfl
 ·cases a<;>first|rfl|cases hd
def Uq (H:Hp) (q:bn) (cv:al):Prop:=∃(c:ac) (oc:li) (u:HO) (vs:Array al) (t:YJ),cv=l5 c/\H c=some (.bM oc u)/\oc.data=.fields vs/\vs[1]?=some (YC q t)
def Lm (H:Hp) (p:ac×bn):Prop:=∃ps:Array al,H p.1=some (.lam ps)/\OP ps.toList/\∀pos cv,codeAmong pos ps.toList=some cv->Uq H p.2 cv
theorem Lm.keep {H H':Hp}{p:ac×bn}(h:Lm H p) (k1:∀ps,H p.1=some (.lam ps)->H' p.1=some (.lam ps)) (k2:∀c oc u,H c=some (.bM oc u)->H' c=some (.bM oc u)):Lm H' p :=by
 obtain⟨ps,e,t,c⟩:=h;refine⟨ps,k1 _ e,t,fun pos cv q=>?_⟩
 obtain⟨a,oc,u,vs,tk,e1,e2,r⟩:=c pos cv q;exact⟨a,oc,u,vs,tk,e1,k2 _ _ _ e2,r⟩
structure Bz where
 P:gc
 w:i4
 K:bi
 tb:cz
 hid:List ac
def Fz (β:Bz) (M:Mh) (a:ac):Prop:=M a=none/\a ∉ β.hid
def Kl (K:bi) (a:ac) (ns:List Int):Prop:=∃(o:li) (its:Array al) (n:Nat),K.lookup a=some o/\o.cls=.type "list" /\ o.dict=none/\o.data=.seq its n/\its.size<=sizeLine/\Vals (ns.map V.int) its.toList
inductive Rz (β:Bz) (M:Mh) (H:Hp):V->Dv->Prop where
 |int (i:Int):Rz β M H (.int i) (.int i)
 |bl (b:Bool):Rz β M H (.bl b) (.bl b)
 |au:Rz β M H .au .au
 |str (z:bn):Rz β M H (.str z) (.str z)
 |tup {a:ac} {vs:List V} {ds:List Dv} (m:Fz β M a) (e:H a=some (.tup vs)) (hl:vs.length=ds.length) (h:∀(i:Nat) (v:V) (d:Dv),vs[i]?=some v->ds[i]?=some d->Rz β M H v d):Rz β M H (.ref a) (.tup ds)
 |lst {a:ac} {vs:List V} {ds:List Dv} (m:Fz β M a) (e:H a=some (.lst vs)) (hl:vs.length=ds.length) (h:∀(i:Nat) (v:V) (d:Dv),vs[i]?=some v->ds[i]?=some d->Rz β M H v d):Rz β M H (.ref a) (.lst ds)
 |set {a:ac} {ns:List Int} (m:Fz β M a) (e:H a=some (AF β.P β.w a ns)):Rz β M H (.ref a) (.set ns)
 |ptr {a:ac} (m:(M a).isSome=true):Rz β M H (.ref a) (.ptr a)
 |exc {a C:ac} (m:Fz β M a) (e:H a=some (qp C a)):Rz β M H (.ref a) (.exc C)
 |bB {a:ac} {o:li} {ns:List Int} (m:Fz β M a) (e:H a=some (.bM o (.lst (ns.map V.int)))):Rz β M H (.ref a) (.bB ns)
 |cJ {a:ac} {ns:List Int} (m:Fz β M a) (e:H a=some (.lst (ns.map V.int))):Rz β M H (.ref a) (.bB ns)
 |cK {a:ac} {ns:List Int} (e:Kl β.K a ns):Rz β M H (.ref a) (.bB ns)
 |raw (v:V):Rz β M H v (.raw v)
 |dk {a:ac} {ks:List Key} {vs:List V} {ds:List Dv} (m:Fz β M a) (e:Rd H a (.dK (ks.zip vs))) (hk:ks.length=vs.length) (hl:vs.length=ds.length) (h:∀(i:Nat) (v:V) (d:Dv),vs[i]?=some v->ds[i]?=some d->Rz β M H v d):Rz β M H (.ref a) (.dk ks ds)
 |dt {a:ac} {ks:List (List Key)} {vs:List V} {ds:List Dv} (m:Fz β M a) (e:Rd H a (.dT (ks.zip vs))) (hk:ks.length=vs.length) (hl:vs.length=ds.length) (h:∀(i:Nat) (v:V) (d:Dv),vs[i]?=some v->ds[i]?=some d->Rz β M H v d):Rz β M H (.ref a) (.dt ks ds)
 |bS {f c:ac} {o oc:li} {u uc:HO} {vs:List V} {ds:List Dv} (m:Fz β M f) (e:H f=some (.bM o u)) (m2:Fz β M c) (e2:H c=some (.bM oc uc)) (hl:vs.length=ds.length) (h:∀(i:Nat) (v:V) (d:Dv),vs[i]?=some v->ds[i]?=some d->Rz β M H v d):Rz β M H (.ref f) (.bS f o c oc vs ds)
structure aG (β:Bz) (M:Mh) (H:Hp) (vs:List V) (ds:List Dv):Prop where
 len:vs.length=ds.length
 at':∀(i:Nat) (v:V) (d:Dv),vs[i]?=some v->ds[i]?=some d->Rz β M H v d
def i9 (β:Bz) (M:Mh) (H:Hp) (a:ac):Mo->Prop
 | .lst ds=>∃vs,H a=some (.lst vs)/\aG β M H vs ds
 | .dA=>Q5 H a
 | .dk ks ds=>∃vs,H a=some (.dK (ks.zip vs))/\ks.length=vs.length/\aG β M H vs ds
 | .dt ks ds=>∃vs,H a=some (.dT (ks.zip vs))/\ks.length=vs.length/\aG β M H vs ds
def n5:HO->Bool
 | .lst _=>true
 | .set _ _=>true
 | .dK _=>true
 | .dT _=>true
 | .ext _=>true
 | .c7 _=>true
 |_=>false
def AY (H:Hp) (a:ac):Prop:=∃o,H a=some o/\n5 o=true
theorem AY.upd {H:Hp}{a p:ac}{o:HO}(h:AY H a) (d:H p=none\/n5 o=true):AY (upd H p o) a :=by
 obtain⟨u,e,n⟩:=h;by_cases z:a=p
 ·subst z;rcases d with d|d
  ·rw[e]at d;cases d
  ·exact⟨o,aA,d⟩
 ·exact⟨u,by rw[af z];exact e,n⟩
structure Mz (β:Bz) (M:Mh) (H:Hp):Prop where
 obj:∀a o,M a=some o->i9 β M H a o
 tabs:HA β.tb.g H
 hids:∀a∈β.hid,AY H a
 apart:∀a o,M a=some o->a ∉ β.hid
 lams:∀p∈β.tb.l,Lm H p
structure Ey (M:Mh) (H:Hp) (M':Mh) (H':Hp):Prop where
 keep:∀b o,M b=none->H b=some o->H' b=some o\/∃o',Tg o o'/\H' b=some o'
 dom:∀a,(M a).isSome=true->(M' a).isSome=true
 new:∀a o,M a=none->H a=some o->M' a=none
structure Ex (β:Bz) (M:Mh) (H:Hp) (M':Mh) (H':Hp):Prop extends Ey M H M' H' where
 mz:Mz β M' H'
section
variable {β:Bz}{M M1 M2:Mh}{H H1 H2:Hp}
theorem Ey.refl:Ey M H M H:=⟨fun _ _ _ h=>.inl h,fun _ h=>h,fun _ _ h _=>h⟩
theorem Ex.refl (m:Mz β M H):Ex β M H M H:=⟨.refl,m⟩
theorem Ey.trans (x:Ey M H M1 H1) (y:Ey M1 H1 M2 H2):Ey M H M2 H2 :=by
 refine⟨fun b o hm h=>?_,fun a h=>y.dom a (x.dom a h),fun a o hm h=>?_⟩
 ·have k8:=x.new b o hm h;rcases x.keep b o hm h with q|⟨o1,t,q⟩
  ·exact y.keep b o k8 q
  ·rcases y.keep b _ k8 q with q2|⟨o2,t2,q2⟩
   ·exact .inr ⟨o1,t,q2⟩
   ·exact .inr ⟨o2,t.trans t2,q2⟩
 ·have k8:=x.new a o hm h;rcases x.keep a o hm h with q|⟨o1,t,q⟩
  ·exact y.new a _ k8 q
  ·exact y.new a _ k8 q
theorem Ex.trans (x:Ex β M H M1 H1) (y:Ex β M1 H1 M2 H2):Ex β M H M2 H2:=⟨x.toEy.trans y.toEy,y.mz⟩
theorem Ey.get (x:Ey M H M1 H1) {b:ac}{o:HO}(m:M b=none) (h:H b=some o) (n:HX o=false):H1 b=some o :=by
 rcases x.keep b o m h with q|⟨o',e,_⟩
 ·exact q
 ·rw[e.tab]at n;cases n
theorem Ey.rd (x:Ey M H M1 H1) {b:ac}{u:HO}(m:M b=none) (h:Rd H b u) (hu:j8 u=true):Rd H1 b u :=by
 rcases h with h|⟨o,h⟩
 ·rcases x.keep b u m h with q|⟨o',t,q⟩
  ·exact .inl q
  ·rcases t with ⟨_,_,rfl,_⟩|⟨_,_,rfl,_⟩|⟨_,ob,rfl⟩
   ·cases hu
   ·cases hu
   ·exact .inr ⟨ob,q⟩
 ·exact .inr ⟨o,x.get m h rfl⟩
theorem Ey.gone (x:Ey M H M1 H1) {b:ac}(h:H1 b=none):M b=none->H b=none:=fun m=>by
 cases e:H b with
 |none=>rfl
 |some o=>
  rcases x.keep b o m e with q|⟨_,_,q⟩<;>(rw[h]at q;cases q)
theorem Rz.ey (x:Ey M H M1 H1) {v:V}{d:Dv}(h:Rz β M H v d):Rz β M1 H1 v d :=by
 induction h with
 |int i=>exact .int i
 |bl b=>exact .bl b
 |au=>exact .au
 |str z=>exact .str z
 |tup m e hl h ih=>exact .tup ⟨x.new _ _ m.1 e,m.2⟩ (x.get m.1 e rfl) hl ih
 |lst m e hl h ih=>exact .lst ⟨x.new _ _ m.1 e,m.2⟩ (x.get m.1 e rfl) hl ih
 |dk m e hk hl h ih=>exact .dk ⟨x.new _ _ m.1 e.there.choose_spec,m.2⟩ (x.rd m.1 e rfl) hk hl ih
 |dt m e hk hl h ih=>exact .dt ⟨x.new _ _ m.1 e.there.choose_spec,m.2⟩ (x.rd m.1 e rfl) hk hl ih
 |bS m e m2 e2 hl h ih=>exact .bS ⟨x.new _ _ m.1 e,m.2⟩ (x.get m.1 e rfl) ⟨x.new _ _ m2.1 e2,m2.2⟩ (x.get m2.1 e2 rfl) hl ih
 |set m e=>exact .set ⟨x.new _ _ m.1 e,m.2⟩ (x.get m.1 e rfl)
 |ptr m=>exact .ptr (x.dom _ m)
 |exc m e=>exact .exc ⟨x.new _ _ m.1 e,m.2⟩ (x.get m.1 e rfl)
 |bB m e=>exact .bB ⟨x.new _ _ m.1 e,m.2⟩ (x.get m.1 e rfl)
 |cJ m e=>exact .cJ ⟨x.new _ _ m.1 e,m.2⟩ (x.get m.1 e rfl)
 |cK e=>exact .cK e
 |raw v=>exact .raw v
theorem Rz.ex (x:Ex β M H M1 H1) {v:V}{d:Dv}(h:Rz β M H v d):Rz β M1 H1 v d:=h.ey x.toEy
theorem aG.ex (x:Ex β M H M1 H1) {vs:List V}{ds:List Dv}(h:aG β M H vs ds):aG β M1 H1 vs ds:=⟨h.len,fun i v d a b=>(h.at' i v d a b).ex x⟩
theorem aG.nil:aG β M H [] []:=⟨rfl,fun i v d h=>by simp at h⟩
theorem aG.cons {v:V}{d:Dv}{vs:List V}{ds:List Dv}(h:Rz β M H v d) (t:aG β M H vs ds):aG β M H (v::vs) (d::ds):=⟨by simp[t.len],fun i x y a b=>by
 cases i with
 |zero=>simp at a b;subst a b;exact h
 |succ i=>rw[IT]at a b;exact t.at' i x y a b⟩
theorem aG.head {v:V}{d:Dv}{vs:List V}{ds:List Dv}(h:aG β M H (v::vs) (d::ds)):Rz β M H v d:=h.at' 0 v d rfl rfl
theorem aG.tail {v:V}{d:Dv}{vs:List V}{ds:List Dv}(h:aG β M H (v::vs) (d::ds)):aG β M H vs ds:=⟨by simpa using h.len,fun i x y a b=>h.at' (i+1) x y (by rw[IT];exact a) (by rw[IT];exact b)⟩
theorem aG.append {vs wX:List V}{ds ds':List Dv}(h:aG β M H vs ds) (t:aG β M H wX ds'):aG β M H (vs++wX) (ds++ds'):=⟨by simp[h.len,t.len],fun i x y a b=>by
 rw[YT]at a b;rw[h.len]at a;split at b
 ·rename_i z;rw[if_pos z]at a;exact h.at' i x y a b
 ·rename_i z;rw[if_neg z]at a;exact t.at' _ x y a b⟩
theorem aG.snoc {v:V}{d:Dv}{vs:List V}{ds:List Dv}(t:aG β M H vs ds) (h:Rz β M H v d):aG β M H (vs++[v]) (ds++[d]):=t.append (.cons h .nil)
theorem aG.get {vs:List V}{ds:List Dv}(h:aG β M H vs ds) {i:Nat}{d:Dv}(e:ds[i]?=some d):∃v,vs[i]?=some v/\Rz β M H v d :=by
 have hi:=(bv.mp e).1;have dQ:i<vs.length :=by rw[h.len];exact hi
 exact⟨vs[i],ap dQ,h.at' i _ _ (ap dQ) e⟩
theorem aG.get' {vs:List V}{ds:List Dv}(h:aG β M H vs ds) {i:Nat}{v:V}(e:vs[i]?=some v):∃d,ds[i]?=some d/\Rz β M H v d :=by
 have hi:=(bv.mp e).1;have dQ:i<ds.length :=by rw[<- h.len];exact hi
 exact⟨ds[i],ap dQ,h.at' i _ _ e (ap dQ)⟩
theorem aG.take {vs:List V}{ds:List Dv}(h:aG β M H vs ds) (n:Nat):aG β M H (vs.take n) (ds.take n):=⟨by simp[h.len],fun i x y a b=>by
 rw[List.getElem?_take]at a b;split at a
 ·rename_i z;rw[if_pos z]at b;exact h.at' i x y a b
 ·cases a⟩
theorem aG.drop {vs:List V}{ds:List Dv}(h:aG β M H vs ds) (n:Nat):aG β M H (vs.drop n) (ds.drop n):=⟨by simp[h.len],fun i x y a b=>by
 rw[Zg]at a b;exact h.at' _ x y a b⟩
theorem aG.set {vs:List V}{ds:List Dv}(h:aG β M H vs ds) (n:Nat) {v:V}{d:Dv}(r:Rz β M H v d):aG β M H (vs.set n v) (ds.set n d):=⟨by simp[h.len],fun i x y a b=>by
 rw[Ll]at a b;rw[h.len]at a;split at a
 ·rename_i z;rw[if_pos z]at b;split at a
  ·rename_i z2;rw[if_pos z2]at b;cases a;cases b;exact r
  ·cases a
 ·rename_i z;rw[if_neg z]at b;exact h.at' i x y a b⟩
theorem gv {a:ac}{vs:List V}{ds:List Dv}(m:Fz β M a) (e:H a=some (.tup vs)) (h:aG β M H vs ds):Rz β M H (.ref a) (.tup ds):=.tup m e h.len h.at'
theorem sh {a:ac}{vs:List V}{ds:List Dv}(m:Fz β M a) (e:H a=some (.lst vs)) (h:aG β M H vs ds):Rz β M H (.ref a) (.lst ds):=.lst m e h.len h.at'
theorem bN {v:V}{ds:List Dv}(h:Rz β M H v (.tup ds)):∃a vs,v=.ref a/\Fz β M a/\H a=some (.tup vs)/\aG β M H vs ds :=by
 cases h with
 |tup m e hl h=>exact⟨_,_,rfl,m,e,hl,h⟩
theorem cg {v:V}{ds:List Dv}(h:Rz β M H v (.lst ds)):∃a vs,v=.ref a/\Fz β M a/\H a=some (.lst vs)/\aG β M H vs ds :=by
 cases h with
 |lst m e hl h=>exact⟨_,_,rfl,m,e,hl,h⟩
theorem aL {v:V}{i:Int}(h:Rz β M H v (.int i)):v=.int i :=by cases h;rfl
theorem dn {v:V}{b:Bool}(h:Rz β M H v (.bl b)):v=.bl b :=by cases h;rfl
theorem dB {v:V}{z:bn}(h:Rz β M H v (.str z)):v=.str z :=by cases h;rfl
theorem ja {v:V}(h:Rz β M H v .au):v=.au :=by cases h;rfl
theorem k9 {v u:V}(h:Rz β M H v (.raw u)):v=u :=by cases h;rfl
theorem cj {v:V}{a:ac}(h:Rz β M H v (.ptr a)):v=.ref a/\(M a).isSome=true :=by cases h with|ptr m=>exact⟨rfl,m⟩
theorem De {v:V}{ns:List Int}(h:Rz β M H v (.set ns)):∃a,v=.ref a/\Fz β M a/\H a=some (AF β.P β.w a ns) :=by cases h with|set m e=>exact⟨_,rfl,m,e⟩
theorem n6 {v:V}{C:ac}(h:Rz β M H v (.exc C)):∃a,v=.ref a/\Fz β M a/\H a=some (qp C a) :=by cases h with|exc m e=>exact⟨_,rfl,m,e⟩
theorem uP {v:V}{ns:List Int}(h:Rz β M H v (.bB ns)):∃a,v=.ref a/\bo β.K H a (ns.map V.int) :=by
 cases h with
 |bB m e=>exact⟨_,rfl,.inl (.inr ⟨_,e⟩)⟩
 |cJ m e=>exact⟨_,rfl,.inl (.inl e)⟩
 |cK e=>exact⟨_,rfl,.inr e⟩
def qy:HO->Bool
 | .lst _=>true
 | .dK _=>true
 | .dT _=>true
 |_=>false
theorem Mz.own (m:Mz β M H) {a:ac}{o:Mo}(e:M a=some o):∃u,H a=some u/\qy u=true :=by
 have q:=m.obj a o e;cases o with
 |lst ds=>obtain⟨vs,q,_⟩:=q;exact⟨_,q,rfl⟩
 |dk ks ds=>obtain⟨vs,q,_⟩:=q;exact⟨_,q,rfl⟩
 |dt ks ds=>obtain⟨vs,q,_⟩:=q;exact⟨_,q,rfl⟩
 |dA=>obtain⟨_,_,q,_⟩:=q;exact⟨_,q,rfl⟩
theorem Mz.j9 (m:Mz β M H) {a:ac}{u:HO}(h:H a=some u) (n:qy u=false):M a=none :=by
 cases e:M a with
 |none=>rfl
 |some o=>obtain⟨u',q,w⟩:=m.own e;rw[h]at q;cases q;rw[n]at w;cases w
theorem Mz.Rf (m:Mz β M H) {p:ac}(hp:p∈β.tb):M p=none:=let ⟨_,h,_⟩:=m.tabs p hp;m.j9 h rfl
theorem Mz.NU (m:Mz β M H) {p:ac×bn}(hp:p∈β.tb.l):M p.1=none:=let ⟨_,h,_⟩:=m.lams p hp;m.j9 h rfl
theorem Mz.free (m:Mz β M H) {a:ac}(h:H a=none):M a=none :=by
 cases e:M a with
 |none=>rfl
 |some o=>obtain⟨xs,q,_⟩:=m.own e;rw[h]at q;cases q
theorem Mz.fz (m:Mz β M H) {a:ac}(h:H a=none):Fz β M a:=⟨m.free h,fun z=>by
 obtain⟨o,e,_⟩:=m.hids a z;rw[h]at e;cases e⟩
theorem F2 {p a:ac}{o:HO}(h:∃u,H a=VT u):∃u,upd H p o a=VT u :=by
 unfold upd;split
 ·exact⟨_,rfl⟩
 ·exact h
theorem Ex.lay (m:Mz β M H) {p:ac}(h:H p=none) (o:HO):Ex β M H M (upd H p o) :=by
 have pre:∀b u,H b=some u->upd H p o b=some u:=fun b u q=>by rw[af (a7 q h)];exact q
 have rz:∀{v:V} {d:Dv},Rz β M H v d->Rz β M (upd H p o) v d:=fun r=>by
  induction r with
  |int i=>exact .int i
  |bl b=>exact .bl b
  |au=>exact .au
  |str z=>exact .str z
  |tup m e hl h ih=>exact .tup m (pre _ _ e) hl ih
  |lst m e hl h ih=>exact .lst m (pre _ _ e) hl ih
  |dk m e hk hl h ih=>exact .dk m (e.map fun _ h=>pre _ _ h) hk hl ih
  |dt m e hk hl h ih=>exact .dt m (e.map fun _ h=>pre _ _ h) hk hl ih
  |bS m e m2 e2 hl h ih=>exact .bS m (pre _ _ e) m2 (pre _ _ e2) hl ih
  |set m e=>exact .set m (pre _ _ e)
  |ptr m=>exact .ptr m
  |exc m e=>exact .exc m (pre _ _ e)
  |bB m e=>exact .bB m (pre _ _ e)
  |cJ m e=>exact .cJ m (pre _ _ e)
  |cK e=>exact .cK e
  |raw v=>exact .raw v
 refine⟨⟨fun b u _ q=>.inl (pre b u q),fun _ h=>h,fun _ _ h _=>h⟩,fun a u e=>?_,fun q hq=>?_,fun a ha=>(m.hids a ha).upd (.inl h),m.apart,fun q hq=>(m.lams q hq).keep (fun _ e=>pre _ _ e) fun _ _ _ e=>pre _ _ e⟩
 ·have z:=m.obj a u e;cases u with
  |lst ds=>obtain⟨vs,z,l,r⟩:=z;exact⟨vs,pre _ _ z,l,fun i v d a b=>rz (r i v d a b)⟩
  |dk ks ds=>obtain⟨vs,z,hk,l,r⟩:=z;exact⟨vs,pre _ _ z,hk,l,fun i v d a b=>rz (r i v d a b)⟩
  |dt ks ds=>obtain⟨vs,z,hk,l,r⟩:=z;exact⟨vs,pre _ _ z,hk,l,fun i v d a b=>rz (r i v d a b)⟩
  |dA=>obtain⟨c,n,z,r⟩:=z;exact⟨c,n,pre _ _ z,r⟩
 ·obtain⟨ps,e,t⟩:=m.tabs q hq;exact⟨ps,pre _ _ e,t⟩
theorem Ex.grow (m:Mz β M H) {p:ac}(hp:p∈β.tb) {ps:Array al}(t:OP ps.toList):Ex β M H M (upd H p (.c7 ps)) :=by
 obtain⟨VC,SG,t0⟩:=m.tabs p hp;have pre:∀b u,H b=some u->Dd u=true->upd H p (.c7 ps) b=some u:=fun b u q n=>by
  have:b≠p:=fun z=>by subst z;rw[SG]at q;cases q;cases n
  rw[af this];exact q
 have rz:∀{v:V} {d:Dv},Rz β M H v d->Rz β M (upd H p (.c7 ps)) v d:=fun r=>by
  induction r with
  |int i=>exact .int i
  |bl b=>exact .bl b
  |au=>exact .au
  |str z=>exact .str z
  |tup m e hl h ih=>exact .tup m (pre _ _ e rfl) hl ih
  |lst m e hl h ih=>exact .lst m (pre _ _ e rfl) hl ih
  |dk m e hk hl h ih=>exact .dk m (e.NT rfl fun x hx h=>pre _ _ h hx) hk hl ih
  |dt m e hk hl h ih=>exact .dt m (e.NT rfl fun x hx h=>pre _ _ h hx) hk hl ih
  |bS m e m2 e2 hl h ih=>exact .bS m (pre _ _ e rfl) m2 (pre _ _ e2 rfl) hl ih
  |set m e=>exact .set m (pre _ _ e rfl)
  |ptr m=>exact .ptr m
  |exc m e=>exact .exc m (pre _ _ e rfl)
  |bB m e=>exact .bB m (pre _ _ e rfl)
  |cJ m e=>exact .cJ m (pre _ _ e rfl)
  |cK e=>exact .cK e
  |raw v=>exact .raw v
 refine⟨⟨fun b u _ q=>?_,fun _ h=>h,fun _ _ h _=>h⟩,fun a u e=>?_,fun q hq=>?_,fun a ha=>(m.hids a ha).upd (.inr rfl),m.apart,fun q hq=>(m.lams q hq).keep (fun _ e=>pre _ _ e rfl) fun _ _ _ e=>pre _ _ e rfl⟩
 ·by_cases e:b=p
  ·subst e;rw[SG]at q;cases q;exact .inr ⟨_,.inl ⟨VC,ps,rfl,rfl,t⟩,aA⟩
  ·exact .inl (by rw[af e];exact q)
 ·have z:=m.obj a u e;cases u with
  |lst ds=>obtain⟨vs,z,l,r⟩:=z;exact⟨vs,pre _ _ z rfl,l,fun i v d a b=>rz (r i v d a b)⟩
  |dk ks ds=>obtain⟨vs,z,hk,l,r⟩:=z;exact⟨vs,pre _ _ z rfl,hk,l,fun i v d a b=>rz (r i v d a b)⟩
  |dt ks ds=>obtain⟨vs,z,hk,l,r⟩:=z;exact⟨vs,pre _ _ z rfl,hk,l,fun i v d a b=>rz (r i v d a b)⟩
  |dA=>obtain⟨c,n,z,r⟩:=z;exact⟨c,n,pre _ _ z rfl,r⟩
 ·by_cases e:q=p
  ·subst e;exact⟨ps,aA,t⟩
  ·obtain⟨p2,e2,t2⟩:=m.tabs q hq;exact⟨p2,by rw[af e];exact e2,t2⟩
def aw (M:Mh) (a:ac) (o:Mo):Mh:=fun b=>if b=a then VT o else M b
theorem updM_same {a:ac}{o:Mo}:aw M a o a=VT o :=by unfold aw;rw[if_pos rfl]
theorem aj {a b:ac}{o:Mo}(h:b≠a):aw M a o b=M b :=by unfold aw;rw[if_neg h]
theorem updM_updM {a:ac}{o u:Mo}:aw (aw M a o) a u=aw M a u :=by funext b;unfold aw;split<;>rfl
theorem mj {p:ac}{o:Mo}{u:HO}(hp:(M p).isSome=true\/H p=none) {v:V}{d:Dv}(h:Rz β M H v d):Rz β (aw M p o) (upd H p u) v d :=by
 have ne:∀a x,M a=none->H a=VT x->a≠p:=fun a x m e z=>by
  subst z;rcases hp with q|q
  ·rw[m]at q;cases q
  ·rw[q]at e;cases e
 induction h with
 |int i=>exact .int i
 |bl b=>exact .bl b
 |au=>exact .au
 |str z=>exact .str z
 |tup m e hl h ih=>have n:=ne _ _ m.1 e;exact .tup ⟨by rw[aj n];exact m.1,m.2⟩ (by rw[af n];exact e) hl ih
 |lst m e hl h ih=>have n:=ne _ _ m.1 e;exact .lst ⟨by rw[aj n];exact m.1,m.2⟩ (by rw[af n];exact e) hl ih
 |dk m e hk hl h ih=>have n:=ne _ _ m.1 e.there.choose_spec;exact .dk ⟨by rw[aj n];exact m.1,m.2⟩ (e.map fun _ h=>by rw[af n];exact h) hk hl ih
 |dt m e hk hl h ih=>have n:=ne _ _ m.1 e.there.choose_spec;exact .dt ⟨by rw[aj n];exact m.1,m.2⟩ (e.map fun _ h=>by rw[af n];exact h) hk hl ih
 |bS m e m2 e2 hl h ih=>have n:=ne _ _ m.1 e;have n2:=ne _ _ m2.1 e2;exact .bS ⟨by rw[aj n];exact m.1,m.2⟩ (by rw[af n];exact e) ⟨by rw[aj n2];exact m2.1,m2.2⟩ (by rw[af n2];exact e2) hl ih
 |set m e=>have n:=ne _ _ m.1 e;exact .set ⟨by rw[aj n];exact m.1,m.2⟩ (by rw[af n];exact e)
 |ptr m=>
  refine .ptr ?_;unfold aw;split
  ·rfl
  ·exact m
 |exc m e=>have n:=ne _ _ m.1 e;exact .exc ⟨by rw[aj n];exact m.1,m.2⟩ (by rw[af n];exact e)
 |bB m e=>have n:=ne _ _ m.1 e;exact .bB ⟨by rw[aj n];exact m.1,m.2⟩ (by rw[af n];exact e)
 |cJ m e=>have n:=ne _ _ m.1 e;exact .cJ ⟨by rw[aj n];exact m.1,m.2⟩ (by rw[af n];exact e)
 |cK e=>exact .cK e
 |raw v=>exact .raw v
theorem i9.upd {p:ac}{o':Mo}{u:HO}(hp:(M p).isSome=true\/H p=none) {a:ac}{o:Mo}(ha:a≠p) (z:i9 β M H a o):i9 β (aw M p o') (L2.upd H p u) a o :=by
 cases o with
 |lst ds=>obtain⟨vs,z,l,r⟩:=z;exact⟨vs,by rw[af ha];exact z,l,fun i v d a b=>mj hp (r i v d a b)⟩
 |dk ks ds=>obtain⟨vs,z,hk,l,r⟩:=z;exact⟨vs,by rw[af ha];exact z,hk,l,fun i v d a b=>mj hp (r i v d a b)⟩
 |dt ks ds=>obtain⟨vs,z,hk,l,r⟩:=z;exact⟨vs,by rw[af ha];exact z,hk,l,fun i v d a b=>mj hp (r i v d a b)⟩
 |dA=>obtain⟨c,n,z,r⟩:=z;exact⟨c,n,by rw[af ha];exact z,r⟩
theorem Ex.qy (m:Mz β M H) {p:ac}{u:HO}{o':Mo}(hp:(M p).isSome=true\/H p=none) (hu:n5 u=true) (r:i9 β (aw M p o') (upd H p u) p o'):Ex β M H (aw M p o') (upd H p u) :=by
 have ne:∀a x,M a=none->H a=VT x->a≠p:=fun a x m e z=>by
  subst z;rcases hp with q|q
  ·rw[m]at q;cases q
  ·rw[q]at e;cases e
 refine⟨⟨fun b u hm q=>.inl ?_,fun a h=>?_,fun a o hm h=>?_⟩,fun a o e=>?_,fun q hq=>?_,fun a ha=>(m.hids a ha).upd (.inr hu),fun a o e z=>?_,fun q hq=>?_⟩
 ·rw[af (ne b _ hm q)];exact q
 ·unfold aw;split
  ·rfl
  ·exact h
 ·rw[aj (ne a _ hm h)];exact hm
 ·by_cases ha:a=p
  ·subst ha;rw[updM_same]at e;cases e;exact r
  ·rw[aj ha]at e;exact(m.obj a o e).upd hp ha
 ·obtain⟨ps,e,t⟩:=m.tabs q hq;exact⟨ps,by rw[af (ne q _ (m.Rf hq) e)];exact e,t⟩
 ·by_cases ha:a=p
  ·subst ha;rcases hp with h|h
   ·cases q:M a with
    |none=>rw[q]at h;cases h
    |some u=>exact m.apart a u q z
   ·obtain⟨u,hu,_⟩:=m.hids a z;rw[h]at hu;cases hu
  ·rw[aj ha]at e;exact m.apart a o e z
 ·exact(m.lams q hq).keep (fun _ e=>by rw[af (ne q.1 _ (m.NU hq) e)];exact e) fun c _ _ e=>by rw[af (ne c _ (m.j9 e rfl) e)];exact e
theorem Ex.own (m:Mz β M H) {p:ac}{vs:List V}{ds:List Dv}(hp:(M p).isSome=true\/H p=none) (r:aG β M H vs ds):Ex β M H (aw M p (.lst ds)) (upd H p (.lst vs)):=
 Ex.qy m hp rfl ⟨vs,aA,r.len,fun i v d a b=>mj hp (r.at' i v d a b)⟩
theorem Ex.Ur (m:Mz β M H) {p:ac}{ks:List Key}{vs:List V}{ds:List Dv}(hp:(M p).isSome=true\/H p=none) (hk:ks.length=vs.length) (r:aG β M H vs ds):Ex β M H (aw M p (.dk ks ds)) (upd H p (.dK (ks.zip vs))):=
 Ex.qy m hp rfl ⟨vs,aA,hk,r.len,fun i v d a b=>mj hp (r.at' i v d a b)⟩
theorem Ex.Us (m:Mz β M H) {p:ac}{ks:List (List Key)}{vs:List V}{ds:List Dv}(hp:(M p).isSome=true\/H p=none) (hk:ks.length=vs.length) (r:aG β M H vs ds):Ex β M H (aw M p (.dt ks ds)) (upd H p (.dT (ks.zip vs))):=
 Ex.qy m hp rfl ⟨vs,aA,hk,r.len,fun i v d a b=>mj hp (r.at' i v d a b)⟩
abbrev Bz.add (β:Bz) (D:ac):Bz:={β with hid:=D::β.hid}
theorem Rz.enter {D:ac}{o:HO}(hD:H D=none) {v:V}{d:Dv}(h:Rz β M H v d):Rz (β.add D) M (upd H D o) v d :=by
 have ne:∀a x,Fz β M a->H a=some x->Fz (β.add D) M a:=fun a x m e=>⟨m.1,by
  intro z;rcases kw.mp z with z|z
  ·subst z;rw[hD]at e;cases e
  ·exact m.2 z⟩
 have pre:∀a x,H a=some x->upd H D o a=some x:=fun a x e=>by rw[af (a7 e hD)];exact e
 induction h with
 |int i=>exact .int i
 |bl b=>exact .bl b
 |au=>exact .au
 |str z=>exact .str z
 |tup m e hl h ih=>exact .tup (ne _ _ m e) (pre _ _ e) hl ih
 |lst m e hl h ih=>exact .lst (ne _ _ m e) (pre _ _ e) hl ih
 |dk m e hk hl h ih=>exact .dk (ne _ _ m e.there.choose_spec) (e.map fun _ h=>pre _ _ h) hk hl ih
 |dt m e hk hl h ih=>exact .dt (ne _ _ m e.there.choose_spec) (e.map fun _ h=>pre _ _ h) hk hl ih
 |bS m e m2 e2 hl h ih=>exact .bS (ne _ _ m e) (pre _ _ e) (ne _ _ m2 e2) (pre _ _ e2) hl ih
 |set m e=>exact .set (ne _ _ m e) (pre _ _ e)
 |ptr m=>exact .ptr m
 |exc m e=>exact .exc (ne _ _ m e) (pre _ _ e)
 |bB m e=>exact .bB (ne _ _ m e) (pre _ _ e)
 |cJ m e=>exact .cJ (ne _ _ m e) (pre _ _ e)
 |cK e=>exact .cK e
 |raw v=>exact .raw v
theorem Rz.sub {da:Bz}(hP:da.P=β.P) (hw:da.w=β.w) (hK:da.K=β.K) (hs:∀a,a∈da.hid->a∈β.hid) {v:V}{d:Dv}(h:Rz β M H v d):Rz da M H v d :=by
 have ne:∀a,Fz β M a->Fz da M a:=fun a m=>⟨m.1,fun z=>m.2 (hs a z)⟩
 induction h with
 |int i=>exact .int i
 |bl b=>exact .bl b
 |au=>exact .au
 |str z=>exact .str z
 |tup m e hl h ih=>exact .tup (ne _ m) e hl ih
 |lst m e hl h ih=>exact .lst (ne _ m) e hl ih
 |dk m e hk hl h ih=>exact .dk (ne _ m) e hk hl ih
 |dt m e hk hl h ih=>exact .dt (ne _ m) e hk hl ih
 |bS m e m2 e2 hl h ih=>exact .bS (ne _ m) e (ne _ m2) e2 hl ih
 |set m e=>exact .set (ne _ m) (by rw[hP,hw];exact e)
 |ptr m=>exact .ptr m
 |exc m e=>exact .exc (ne _ m) e
 |bB m e=>exact .bB (ne _ m) e
 |cJ m e=>exact .cJ (ne _ m) e
 |cK e=>exact .cK (by rw[hK];exact e)
 |raw v=>exact .raw v
theorem Mz.sub {da:Bz}(hP:da.P=β.P) (hw:da.w=β.w) (hK:da.K=β.K) (ht:da.tb=β.tb) (hs:∀a,a∈da.hid->a∈β.hid) (m:Mz β M H):Mz da M H:=⟨fun a o e=>by
 have z:=m.obj a o e;cases o with
 |lst ds=>obtain⟨vs,z,l,r⟩:=z;exact⟨vs,z,l,fun i v d a b=>(r i v d a b).sub hP hw hK hs⟩
 |dk ks ds=>obtain⟨vs,z,hk,l,r⟩:=z;exact⟨vs,z,hk,l,fun i v d a b=>(r i v d a b).sub hP hw hK hs⟩
 |dt ks ds=>obtain⟨vs,z,hk,l,r⟩:=z;exact⟨vs,z,hk,l,fun i v d a b=>(r i v d a b).sub hP hw hK hs⟩
 |dA=>exact z,by rw[ht];exact m.tabs,fun a ha=>m.hids a (hs a ha),fun a o e z=>m.apart a o e (hs a z),by rw[ht];exact m.lams⟩
theorem Mz.enter {D:ac}{o:HO}(hD:H D=none) (ho:n5 o=true) (m:Mz β M H):Mz (β.add D) M (upd H D o):=⟨fun a u e=>by
 have pre:∀a x,H a=VT x->upd H D o a=VT x:=fun a x e=>by rw[af (a7 e hD)];exact e
 have z:=m.obj a u e;cases u with
 |lst ds=>obtain⟨vs,z,l,r⟩:=z;exact⟨vs,pre _ _ z,l,fun i v d a b=>(r i v d a b).enter hD⟩
 |dk ks ds=>obtain⟨vs,z,hk,l,r⟩:=z;exact⟨vs,pre _ _ z,hk,l,fun i v d a b=>(r i v d a b).enter hD⟩
 |dt ks ds=>obtain⟨vs,z,hk,l,r⟩:=z;exact⟨vs,pre _ _ z,hk,l,fun i v d a b=>(r i v d a b).enter hD⟩
 |dA=>obtain⟨c,n,z,r⟩:=z;exact⟨c,n,pre _ _ z,r⟩,fun p hp=>by
 obtain⟨ps,e,t⟩:=m.tabs p hp;exact⟨ps,by rw[af (a7 e hD)];exact e,t⟩,fun a ha=>by
 rcases kw.mp ha with z|z
 ·subst z;exact⟨_,aA,ho⟩
 ·exact(m.hids a z).upd (.inl hD),fun a o e ha=>by
 rcases kw.mp ha with z|z
 ·subst z;rw[m.free hD]at e;cases e
 ·exact m.apart a o e z,fun q hq=>(m.lams q hq).keep (fun _ e=>by rw[af (a7 e hD)];exact e) fun _ _ _ e=>by rw[af (a7 e hD)];exact e⟩
theorem Rz.over {D:ac}{o:HO}(hD:D∈β.hid) {v:V}{d:Dv}(h:Rz β M H v d):Rz β M (upd H D o) v d :=by
 have pre:∀a x,Fz β M a->H a=some x->upd H D o a=some x:=fun a x m e=>by
  have n:a≠D:=fun z=>by subst z;exact m.2 hD
  rw[af n];exact e
 induction h with
 |int i=>exact .int i
 |bl b=>exact .bl b
 |au=>exact .au
 |str z=>exact .str z
 |tup m e hl h ih=>exact .tup m (pre _ _ m e) hl ih
 |lst m e hl h ih=>exact .lst m (pre _ _ m e) hl ih
 |dk m e hk hl h ih=>exact .dk m (e.map fun _ h=>pre _ _ m h) hk hl ih
 |dt m e hk hl h ih=>exact .dt m (e.map fun _ h=>pre _ _ m h) hk hl ih
 |bS m e m2 e2 hl h ih=>exact .bS m (pre _ _ m e) m2 (pre _ _ m2 e2) hl ih
 |set m e=>exact .set m (pre _ _ m e)
 |ptr m=>exact .ptr m
 |exc m e=>exact .exc m (pre _ _ m e)
 |bB m e=>exact .bB m (pre _ _ m e)
 |cJ m e=>exact .cJ m (pre _ _ m e)
 |cK e=>exact .cK e
 |raw v=>exact .raw v
theorem Mz.over {D:ac}{o:HO}(hD:D∈β.hid) (ho:n5 o=true) (hM:M D=none) (ht:D ∉ β.tb) (m:Mz β M H):Mz β M (upd H D o):=⟨fun a u e=>by
 have na:a≠D:=fun z=>by subst z;rw[hM]at e;cases e
 have z:=m.obj a u e;cases u with
 |lst ds=>obtain⟨vs,z,l,r⟩:=z;exact⟨vs,by rw[af na];exact z,l,fun i v d a b=>(r i v d a b).over hD⟩
 |dk ks ds=>obtain⟨vs,z,hk,l,r⟩:=z;exact⟨vs,by rw[af na];exact z,hk,l,fun i v d a b=>(r i v d a b).over hD⟩
 |dt ks ds=>obtain⟨vs,z,hk,l,r⟩:=z;exact⟨vs,by rw[af na];exact z,hk,l,fun i v d a b=>(r i v d a b).over hD⟩
 |dA=>obtain⟨c,n,z,r⟩:=z;exact⟨c,n,by rw[af na];exact z,r⟩,fun p hp=>by
 obtain⟨ps,e,t⟩:=m.tabs p hp;have n:p≠D:=fun z=>by subst z;exact ht hp
 exact⟨ps,by rw[af n];exact e,t⟩,fun a ha=>(m.hids a ha).upd (.inr ho),m.apart,fun q hq=>by
 obtain⟨o',e',n⟩:=m.hids D hD;exact(m.lams q hq).keep (fun _ e=>by rw[af (fun z=>by subst z;rw[e']at e;cases e;cases n)];exact e) fun c _ _ e=>by rw[af (fun z=>by subst z;rw[e']at e;cases e;cases n)];exact e⟩
theorem Ey.over {D:ac}{o:HO}(x:Ey M H M1 H1) (hD:H D=none):Ey M H M1 (upd H1 D o):=⟨fun b u m h=>by
 have nb:b≠D:=a7 h hD;rw[af nb];exact x.keep b u m h,x.dom,x.new⟩
theorem Mz.F3 {D:ac}(m:Mz β M H) (hD:H D=none):D ∉ β.tb:=fun z=>by
 obtain⟨_,e,_⟩:=m.tabs D z;rw[hD]at e;cases e
structure Bx (β da:Bz) (H:Hp):Prop where
 P:da.P=β.P
 w:da.w=β.w
 K:da.K=β.K
 tb:da.tb=β.tb
 old:∀a,a∈β.hid->a∈da.hid
 new:∀a,a∈da.hid->a∈β.hid\/H a=none
theorem Bx.refl:Bx β β H:=⟨rfl,rfl,rfl,rfl,fun _ h=>h,fun _ h=>.inl h⟩
theorem Bx.add {D:ac}(hD:H D=none):Bx β (β.add D) H:=⟨rfl,rfl,rfl,rfl,fun _ h=>i0 _ h,fun a h=>by
 rcases kw.mp h with z|z
 ·exact .inr (z▸hD)
 ·exact .inl z⟩
theorem Rz.bx {da:Bz}(b:Bx β da H) {v:V}{d:Dv}(h:Rz β M H v d):Rz da M H v d :=by
 have ne:∀a x,Fz β M a->H a=some x->Fz da M a:=fun a x m e=>⟨m.1,fun z=>by
  rcases b.new a z with q|q
  ·exact m.2 q
  ·rw[q]at e;cases e⟩
 induction h with
 |int i=>exact .int i
 |bl b=>exact .bl b
 |au=>exact .au
 |str z=>exact .str z
 |tup m e hl h ih=>exact .tup (ne _ _ m e) e hl ih
 |lst m e hl h ih=>exact .lst (ne _ _ m e) e hl ih
 |dk m e hk hl h ih=>exact .dk (ne _ _ m e.there.choose_spec) e hk hl ih
 |dt m e hk hl h ih=>exact .dt (ne _ _ m e.there.choose_spec) e hk hl ih
 |bS m e m2 e2 hl h ih=>exact .bS (ne _ _ m e) e (ne _ _ m2 e2) e2 hl ih
 |set m e=>exact .set (ne _ _ m e) (by rw[b.P,b.w];exact e)
 |ptr m=>exact .ptr m
 |exc m e=>exact .exc (ne _ _ m e) e
 |bB m e=>exact .bB (ne _ _ m e) e
 |cJ m e=>exact .cJ (ne _ _ m e) e
 |cK e=>exact .cK (by rw[b.K];exact e)
 |raw v=>exact .raw v
end
inductive Pin (M:Mh):Dv->Prop where
 |int (i:Int):Pin M (.int i)
 |bl (b:Bool):Pin M (.bl b)
 |au:Pin M .au
 |str (z:bn):Pin M (.str z)
 |tup {ds:List Dv} (h:∀d∈ds,Pin M d):Pin M (.tup ds)
 |lst {ds:List Dv} (h:∀d∈ds,Pin M d):Pin M (.lst ds)
 |set (ns:List Int):Pin M (.set ns)
 |ptr {a:ac} (h:(M a).isSome=true):Pin M (.ptr a)
 |exc (C:ac):Pin M (.exc C)
 |bB (ns:List Int):Pin M (.bB ns)
 |raw (v:V):Pin M (.raw v)
 |dk {ks:List Key} {ds:List Dv} (h:∀d∈ds,Pin M d):Pin M (.dk ks ds)
 |dt {ks:List (List Key)} {ds:List Dv} (h:∀d∈ds,Pin M d):Pin M (.dt ks ds)
 |bS {f c:ac} {o oc:li} {vs:List V} {ds:List Dv} (h:∀d∈ds,Pin M d):Pin M (.bS f o c oc vs ds)
theorem Rz.pin {β:Bz}{M:Mh}{H:Hp}{v:V}{d:Dv}(h:Rz β M H v d):Pin M d :=by
 induction h with
 |int i=>exact .int i
 |bl b=>exact .bl b
 |au=>exact .au
 |str z=>exact .str z
 |tup m e hl h ih=>
  refine .tup fun d hd=>?_
  obtain⟨i,hi⟩:=mo.mp hd;have h1:=(bv.mp hi).1;exact ih i _ d (ap (by omega)) hi
 |lst m e hl h ih=>
  refine .lst fun d hd=>?_
  obtain⟨i,hi⟩:=mo.mp hd;have h1:=(bv.mp hi).1;exact ih i _ d (ap (by omega)) hi
 |dk m e hk hl h ih=>
  refine .dk fun d hd=>?_
  obtain⟨i,hi⟩:=mo.mp hd;have h1:=(bv.mp hi).1;exact ih i _ d (ap (by omega)) hi
 |dt m e hk hl h ih=>
  refine .dt fun d hd=>?_
  obtain⟨i,hi⟩:=mo.mp hd;have h1:=(bv.mp hi).1;exact ih i _ d (ap (by omega)) hi
 |bS m e m2 e2 hl h ih=>
  refine .bS fun d hd=>?_
  obtain⟨i,hi⟩:=mo.mp hd;have h1:=(bv.mp hi).1;exact ih i _ d (ap (by omega)) hi
 |set m e=>exact .set _
 |ptr m=>exact .ptr m
 |exc m e=>exact .exc _
 |bB m e=>exact .bB _
 |cJ m e=>exact .bB _
 |cK e=>exact .bB _
 |raw v=>exact .raw v
def Mo.items:Mo->List Dv
 | .lst ds=>ds
 | .dk _ ds=>ds
 | .dt _ ds=>ds
 | .dA=>[]
def Wf (M:Mh):Prop:=∀b o,M b=some o->∀d∈o.items,Pin M d
theorem i9.VD {β:Bz}{M:Mh}{H:Hp}{a:ac}{o:Mo}(h:i9 β M H a o):∃vs,aG β M H vs o.items :=by
 cases o with
 |lst ds=>obtain⟨vs,_,rs⟩:=h;exact⟨vs,rs⟩
 |dk ks ds=>obtain⟨vs,_,_,rs⟩:=h;exact⟨vs,rs⟩
 |dt ks ds=>obtain⟨vs,_,_,rs⟩:=h;exact⟨vs,rs⟩
 |dA=>exact⟨[],.nil⟩
theorem Mz.wf {β:Bz}{M:Mh}{H:Hp}(m:Mz β M H):Wf M:=fun b o e d hd=>by
 obtain⟨vs,rs⟩:=(m.obj b _ e).VD;obtain⟨i,hi⟩:=mo.mp hd;obtain⟨v,_,r⟩:=rs.get hi;exact r.pin
abbrev az:=List (Option Dv)
abbrev ZK:=Dv->Mh->Prop
abbrev aK:=az->Mh->ZK->Prop
abbrev cL:=az->Mh->(Bool->Mh->Prop)->Prop
abbrev eh:=az->Mh->(List Dv->Mh->Prop)->Prop
structure gD where
 nx:az->Mh->Prop
 rt:ZK
 bk:az->Mh->Prop:=fun _ _=>False
 ct:az->Mh->Prop:=fun _ _=>False
abbrev bX:=gD->az->Mh->Prop
abbrev cE:=Dv->az->Mh->(az->Mh->Prop)->Prop
abbrev n8:=List Dv->az->Mh->(az->Mh->Prop)->Prop
abbrev fc:=az->Mh->(List Dv->Mh->Prop)->Prop
structure Gz extends Bz where
 M0:Mh
 H0:Hp
structure Zr (Γ:Gz) (β:Bz) (M:Mh) (ρ:az) (σ:St) (H:Hp):Prop where
 eP:β.P=Γ.P
 ew:β.w=Γ.w
 eK:β.K=Γ.K
 et:β.tb=Γ.tb
 sub:∀a,a∈Γ.hid->a∈β.hid
 wf:Wf Γ.M0
 ent:Ey Γ.M0 Γ.H0 M H
 mz:Mz β M H
 len:ρ.length=σ.length
 at':∀(i:Nat) (d:Dv),ρ[i]?=some (some d)->∃v,σ[i]?=some (some v)/\Rz β M H v d
section
variable {Γ:Gz}{β:Bz}{M M':Mh}{ρ:az}{σ:St}{H H':Hp}
theorem Zr.step (z:Zr Γ β M ρ σ H) (x:Ex β M H M' H'):Zr Γ β M' ρ σ H':=⟨z.eP,z.ew,z.eK,z.et,z.sub,z.wf,z.ent.trans x.toEy,x.mz,z.len,fun i d e=>let ⟨v,h,r⟩:=z.at' i d e;⟨v,h,r.ex x⟩⟩
theorem Zr.set (z:Zr Γ β M ρ σ H) (i:Nat) {v:V}{d:Dv}(r:Rz β M H v d):Zr Γ β M (ρ.set i (some d)) (σ.set i (some v)) H:=⟨z.eP,z.ew,z.eK,z.et,z.sub,z.wf,z.ent,z.mz,by simp[z.len],fun j e h=>by
 rw[Ll]at h ⊢;rw[z.len]at h;split at h
 ·rename_i q;rw[if_pos q];split at h
  ·rename_i q2;rw[if_pos q2];cases h;exact⟨v,rfl,r⟩
  ·cases h
 ·rename_i q;rw[if_neg q];exact z.at' j e h⟩
end
def lE (Γ:Gz) (p:aK):TE:=fun σ H Q=>∃(β:Bz) (ρ:az) (M:Mh) (Q':ZK),Zr Γ β M ρ σ H/\p ρ M Q'/\∀d M' v H',Ex β M H M' H'->Rz β M' H' v d->Q' d M'->Q v H'
def lT (Γ:Gz) (p:cL):TT:=fun σ H Q=>∃(β:Bz) (ρ:az) (M:Mh) (Q':Bool->Mh->Prop),Zr Γ β M ρ σ H/\p ρ M Q'/\∀b M' H',Ex β M H M' H'->Q' b M'->Q b H'
def lA (Γ:Gz) (p:eh):TA:=fun σ H Q=>∃(β:Bz) (ρ:az) (M:Mh) (Q':List Dv->Mh->Prop),Zr Γ β M ρ σ H/\p ρ M Q'/\∀ds M' vs H',Ex β M H M' H'->aG β M' H' vs ds->Q' ds M'->Q vs H'
structure Ev (β:Bz) (M:Mh) (H:Hp) (M':Mh) (H':Hp):Prop where
 keep:∀b o,M b=none->H b=some o->H' b=some o\/∃o',Tg o o'/\H' b=some o'
 new:∀a o,M a=none->H a=some o->M' a=none
 mz:Mz β M' H'
theorem Ex.ev {β:Bz}{M M':Mh}{H H':Hp}(x:Ex β M H M' H'):Ev β M H M' H':=⟨x.keep,x.new,x.mz⟩
theorem Ev.refl {β:Bz}{M:Mh}{H:Hp}(m:Mz β M H):Ev β M H M H:=(Ex.refl m).ev
theorem Ev.trans {β:Bz}{M M1 M2:Mh}{H H1 H2:Hp}(x:Ev β M H M1 H1) (y:Ev β M1 H1 M2 H2):Ev β M H M2 H2 :=by
 refine⟨fun b o hm h=>?_,fun a o hm h=>?_,y.mz⟩
 ·have k8:=x.new b o hm h;rcases x.keep b o hm h with q|⟨o1,t,q⟩
  ·exact y.keep b o k8 q
  ·rcases y.keep b _ k8 q with q2|⟨o2,t2,q2⟩
   ·exact .inr ⟨o1,t,q2⟩
   ·exact .inr ⟨o2,t.trans t2,q2⟩
 ·have k8:=x.new a o hm h;rcases x.keep a o hm h with q|⟨o1,t,q⟩
  ·exact y.new a _ k8 q
  ·exact y.new a _ k8 q
structure AZ (Γ:Gz) (β:Bz) (M:Mh) (H:Hp) (D':gD) (D:Ends):Prop where
 nx:∀bG M' aF H',Ev β M H M' H'->Zr Γ β M' bG aF H'->D'.nx bG M'->D.nx aF H'
 rt:∀d M' v H',Ev β M H M' H'->Ey Γ.M0 Γ.H0 M' H'->Rz β M' H' v d->D'.rt d M'->D.rt v H'
 bk:∀bG M' aF H',Ev β M H M' H'->Zr Γ β M' bG aF H'->D'.bk bG M'->D.bk aF H'
 ct:∀bG M' aF H',Ev β M H M' H'->Zr Γ β M' bG aF H'->D'.ct bG M'->D.ct aF H'
theorem AZ.step {Γ:Gz}{β:Bz}{M M1:Mh}{H H1:Hp}{D':gD}{D:Ends}(r:AZ Γ β M H D' D) (x:Ev β M H M1 H1):AZ Γ β M1 H1 D' D:=
 ⟨fun a b c d y=>r.nx a b c d (x.trans y),fun a b c d y=>r.rt a b c d (x.trans y),fun a b c d y=>r.bk a b c d (x.trans y),fun a b c d y=>r.ct a b c d (x.trans y)⟩
def lS (Γ:Gz) (p:bX):TS:=fun D σ H=>∃(β:Bz) (ρ:az) (M:Mh) (D':gD),Zr Γ β M ρ σ H/\p D' ρ M/\AZ Γ β M H D' D
def lG (Γ:Gz) (p:cE):TG:=fun x σ H N=>∃(β:Bz) (d:Dv) (ρ:az) (M:Mh) (N':az->Mh->Prop),Zr Γ β M ρ σ H/\Rz β M H x d/\p d ρ M N'/\∀bG M' aF H',Ex β M H M' H'->Zr Γ β M' bG aF H'->N' bG M'->N aF H'
def VE (Γ:Gz) (p:n8):rn:=fun xs σ H N=>∃(β:Bz) (ds:List Dv) (ρ:az) (M:Mh) (N':az->Mh->Prop),Zr Γ β M ρ σ H/\aG β M H xs ds/\p ds ρ M N'/\∀bG M' aF H',Ex β M H M' H'->Zr Γ β M' bG aF H'->N' bG M'->N aF H'
def Dg (β:Bz) (J:It) (ds:List Dv) (M:Mh) (H:Hp):Prop:=∀da M' H',Bx β da H->Ey M H M' H'->Mz da M' H'->∀i,(i<ds.length->J.go i H'/\∀x la,J.yld i H' x la->Ex da M' H' M' la/\∃d,ds[i]?=some d/\Rz da M' la x d)/\(ds.length<=i->J.stop i H')
def lI (Γ:Gz) (p:fc):TI:=fun σ H R=>∃(β:Bz) (ρ:az) (M:Mh) (R':List Dv->Mh->Prop),Zr Γ β M ρ σ H/\p ρ M R'/\∀ds M' H' J,Ex β M H M' H'->Dg β J ds M' H'->R' ds M'->R J H'
abbrev QE (Γ:Gz) (X:Cx) (e:db) (p:aK):Prop:=PE X e (lE Γ p)
abbrev QT (Γ:Gz) (X:Cx) (e:db) (p:cL):Prop:=PT X e (lT Γ p)
abbrev QW (Γ:Gz) (X:Cx) (e:db) (p:cL):Prop:=PW X e (lT Γ p)
abbrev QA (Γ:Gz) (X:Cx) (es:List db) (p:eh):Prop:=PA X es (lA Γ p)
abbrev QS (Γ:Gz) (X:Cx) (s:tw) (p:bX):Prop:=PS X s (lS Γ p)
abbrev lb (Γ:Gz) (X:Cx) (s:List tw) (p:bX):Prop:=f6 X s (lS Γ p)
abbrev QG (Γ:Gz) (X:Cx) (e:db) (p:cE):Prop:=PG X e (lG Γ p)
abbrev HY (Γ:Gz) (X:Cx) (e:List db) (p:n8):Prop:=ui X e (VE Γ p)
abbrev QI (Γ:Gz) (X:Cx) (tg e:db) (p:fc):Prop:=PI X tg e (lI Γ p)
section
variable {X:Cx}
theorem PE.imp {e:db}{t t':TE}(h:PE X e t) (i:∀σ H Q,t' σ H Q->t σ H Q):PE X e t':=⟨fun pins s σ H Q I q=>h pins s σ H Q I (i _ _ _ q)⟩
theorem PT.imp {e:db}{t t':TT}(h:PT X e t) (i:∀σ H Q,t' σ H Q->t σ H Q):PT X e t':=⟨fun pins s σ H Q I q=>h pins s σ H Q I (i _ _ _ q)⟩
theorem PW.imp {e:db}{t t':TT}(h:PW X e t) (i:∀σ H Q,t' σ H Q->t σ H Q):PW X e t':=fun wh pins s σ H Q I q=>h wh pins s σ H Q I (i _ _ _ q)
theorem PA.imp {e:List db}{t t':TA}(h:PA X e t) (i:∀σ H Q,t' σ H Q->t σ H Q):PA X e t':=⟨fun pos pins s σ H Q I q=>h pos pins s σ H Q I (i _ _ _ q)⟩
theorem PS.imp {e:tw}{t t':TS}(h:PS X e t) (i:∀D σ H,t' D σ H->t D σ H):PS X e t':=⟨fun pins s σ H D I q=>h pins s σ H D I (i _ _ _ q)⟩
theorem f6.imp {e:List tw}{t t':TS}(h:f6 X e t) (i:∀D σ H,t' D σ H->t D σ H):f6 X e t':=⟨fun pins s σ H D I q=>h pins s σ H D I (i _ _ _ q)⟩
theorem PG.imp {e:db}{t t':TG}(h:PG X e t) (i:∀v σ H Q,t' v σ H Q->t v σ H Q):PG X e t':=fun pins s σ H v u Q I r q=>h pins s σ H v u Q I r (i _ _ _ _ q)
theorem ui.imp {e:List db}{t t':rn}(h:ui X e t) (i:∀v σ H Q,t' v σ H Q->t v σ H Q):ui X e t':=fun pins s σ H v u Q I r q=>h pins s σ H v u Q I r (i _ _ _ _ q)
theorem PI.imp {tg e:db}{t t':TI}(h:PI X tg e t) (i:∀σ H Q,t' σ H Q->t σ H Q):PI X tg e t':=fun pins s σ H Q I q=>h pins s σ H Q I (i _ _ _ q)
theorem gT.imp {e:List db}{t t':TT}(h:gT X e t) (i:∀σ H Q,t' σ H Q->t σ H Q):gT X e t':=fun pins s σ H Q I q=>h pins s σ H Q I (i _ _ _ q)
variable {Γ:Gz}{a b c:db}{pa pb pc:aK}{pos:wE}
def zVar (i:Nat):aK:=fun ρ M Q=>match ρ[i]? with|some (some d)=>Q d M|_=>False
def zC (d:Dv):aK:=fun _ M Q=>Q d M
theorem NV {i:Nat}{x:bn}(hN:X.N[i]?=some x) (hv:pP X.env.scope x) (hd:(x==("__debug__" : bn))=false :=by decide) (d7:(x==("__classdict__" : bn))=false :=by decide):QE Γ X (.Name x pos) (zVar i):=
 (vV hN hv hd d7).imp fun σ H Q ⟨β,ρ,M,Q',z,h,q⟩=>by
  unfold zVar at h;split at h
  ·rename_i d e;obtain⟨v,e2,r⟩:=z.at' i d e;exact⟨v,e2,q d M v H (.refl z.mz) r h⟩
  ·exact h.elim
theorem qc {e:db}{v:V}{d:Dv}(h:PE X e (tC v)) (r:∀β M H,Rz β M H v d):QE Γ X e (zC d):=h.imp fun σ H Q ⟨β,ρ,M,Q',z,h,q⟩=>q d M v H (.refl z.mz) (r β M H) h
theorem aq {i j pos}:QE Γ X (.Constant (.int i) j pos) (zC (.int i)):=qc LC fun _ _ _=>.int _
theorem lg {b j pos}:QE Γ X (.Constant (.bool b) j pos) (zC (.bl b)):=qc Qu fun _ _ _=>.bl _
theorem mn {x j pos}:QE Γ X (.Constant (.str x) j pos) (zC (.str x)):=qc LD fun _ _ _=>.str _
theorem F4 {x:bn}{i:Int}{u:al}(hg:Gl X x) (hm:X.mg x=some u) (r:RelV (.int i) u) (hd:(x==("__debug__" : bn))=false :=by decide):QE Γ X (.Name x pos) (zC (.int i)):=qc (sW hg hm r hd) fun _ _ _=>.int _
theorem F5 {x z:bn}{u:al}(hg:Gl X x) (hm:X.mg x=some u) (r:RelV (.str z) u) (hd:(x==("__debug__" : bn))=false :=by decide):QE Γ X (.Name x pos) (zC (.str z)):=qc (sW hg hm r hd) fun _ _ _=>.str _
theorem ka {x:bn}{v:V}{u:al}(hg:Gl X x) (hm:X.mg x=some u) (r:RelV v u) (hd:(x==("__debug__" : bn))=false :=by decide):QE Γ X (.Name x pos) (zC (.raw v)):=qc (sW hg hm r hd) fun _ _ _=>.raw _
theorem iF {x:bn}{v:V}{u:al}(hg:Gl X x) (hm:X.mg x=none) (hv:bootBuiltins x=some u) (r:RelV v u) (hn:x ≠ "__name__" := by decide) (hd:(x==("__debug__" : bn))=false :=by decide):QE Γ X (.Name x pos) (zC (.raw v)):=qc (Jh hg hm hv r hn hd) fun _ _ _=>.raw _
abbrev dI:=Dv->Dv->Mh->ZK->Prop
def p0 (Γ:Gz) (r:R2) (z:dI):Prop:=∀(β:Bz) x y d e M H Q Q',β.P=Γ.P->β.w=Γ.w->β.K=Γ.K->Mz β M H->Rz β M H x d->Rz β M H y e->z d e M Q'->(∀d' M' v H',Ex β M H M' H'->Rz β M' H' v d'->Q' d' M'->Q v H')->r x y H Q
def dR (Γ:Gz) (X:Cx) (f:al->al->YD al) (z:dI):Prop:=∃r,OpR X f r/\p0 Γ r z
def zOp (z:dI) (pa pb:aK):aK:=fun ρ M Q=>pa ρ M fun d M1=>pb ρ M1 fun e M2=>z d e M2 Q
theorem A0 {r:R2}{z:dI}(hz:p0 Γ r z) {σ:St}{H:Hp}{Q:VK}(h:lE Γ (zOp z pa pb) σ H Q):B6 r (lE Γ pa) (lE Γ pb) σ H Q :=by
 obtain⟨β,ρ,M,Q',zr,h,q⟩:=h;exact⟨β,ρ,M,_,zr,h,fun d M1 v H1 x1 r1 h1=>⟨β,ρ,M1,_,zr.step x1,h1,fun e M2 u H2 x2 r2 h2=>hz β v u d e M2 H2 Q Q' zr.eP zr.ew zr.eK x2.mz (r1.ex x2) r2 h2 fun d' M' v' H' x3 r3 q3=>q _ _ _ _ (x1.trans (x2.trans x3)) r3 q3⟩⟩
theorem aM {op:Operator}{z:dI}(ho:dR Γ X (binaryOp op) z) (ha:QE Γ X a pa) (hb:QE Γ X b pb):QE Γ X (.BinOp a op b pos) (zOp z pa pb) :=by
 obtain⟨r,h1,h2⟩:=ho;exact(QF h1 ha hb).imp fun σ H Q h=>A0 h2 h
theorem jL {op:XN}{z:dI}(ho:dR Γ X (compareOp op) z) (ha:QE Γ X a pa) (hb:QE Γ X b pb) (hm:behindInMarks op b=false):QE Γ X (.Compare a [op] [b] pos) (zOp z pa pb) :=by
 obtain⟨r,h1,h2⟩:=ho;exact(Jq h1 ha hb hm).imp fun σ H Q h=>A0 h2 h
def zBool (Q:Bool->Mh->Prop):ZK:=fun d M=>match d with | .bl k=>Q k M|_=>False
theorem iG {Q:Bool->Mh->Prop}{d:Dv}{M:Mh}(h:zBool Q d M):∃k,d=.bl k/\Q k M :=by
 unfold zBool at h;split at h
 ·exact⟨_,rfl,h⟩
 ·exact h.elim
def zTest (p:aK):cL:=fun ρ M Q=>p ρ M (zBool Q)
theorem wY {p:aK}{t:TE}(i:∀σ H Q,lE Γ p σ H Q->t σ H Q) {σ:St}{H:Hp}{Q:Bool->Hp->Prop}(h:lT Γ (zTest p) σ H Q):Ao t σ H Q :=by
 obtain⟨β,ρ,M,Q',zr,h,q⟩:=h;refine i _ _ _ ⟨β,ρ,M,_,zr,h,fun d M1 v H1 x1 r1 h1=>?_⟩
 obtain⟨k,rfl,h2⟩:=iG h1;exact⟨k,dn r1,q k M1 H1 x1 h2⟩
theorem bU {op:XN}{z:dI}(ho:dR Γ X (compareOp op) z) (ha:QE Γ X a pa) (hb:QE Γ X b pb) (hm:behindInMarks op b=false):QT Γ X (.Compare a [op] [b] pos) (zTest (zOp z pa pb)) :=by
 obtain⟨r,h1,h2⟩:=ho;exact(Jr h1 ha hb hm).imp fun σ H Q h=>wY (fun _ _ _=>A0 h2) h
theorem ej {e:db}{p:aK}(h:QE Γ X e p) (he:∀whole,isTrue e X.env whole=(do let v <- whole;standAt e.pos;holding [v] (truthy v)) :=by intro _;rfl):QT Γ X e (zTest p):=
 (LI h he).imp fun σ H Q h=>wY (fun _ _ _ h=>h) h
def zChain (z z':dI) (pa pb pc:aK):aK:=fun ρ M Q=>pa ρ M fun x M1=>pb ρ M1 fun y M2=>z x y M2 (zBool fun k M3=>if k=true then pc ρ M3 fun u M4=>z' y u M4 Q else Q (.bl false) M3)
theorem zF {r r':R2}{z z':dI}(hz:p0 Γ r z) (VF:p0 Γ r' z') {σ:St}{H:Hp}{Q:VK}(h:lE Γ (zChain z z' pa pb pc) σ H Q):v3 r r' (lE Γ pa) (lE Γ pb) (lE Γ pc) σ H Q :=by
 obtain⟨β,ρ,M,Q',zr,h,q⟩:=h;refine⟨β,ρ,M,_,zr,h,fun d M1 v H1 x1 r1 h1=>⟨β,ρ,M1,_,zr.step x1,h1,fun e M2 u H2 x2 r2 h2=>hz β v u d e M2 H2 _ _ zr.eP zr.ew zr.eK x2.mz (r1.ex x2) r2 h2 fun d' M3 v' H3 x3 r3 h3=>?_⟩⟩
 obtain⟨k,rfl,h4⟩:=iG h3;have zG:=x1.trans (x2.trans x3);refine⟨k,dn r3,?_⟩;cases k with
 |true=>
  rw[if_pos rfl]at h4 ⊢;exact⟨β,ρ,M3,_,zr.step zG,h4,fun f M4 g H4 x4 r4 h5=>VF β u g e f M4 H4 _ _ zr.eP zr.ew zr.eK x4.mz ((r2.ex x3).ex x4) r4 h5 fun d5 M5 v5 H5 x5 r5 q5=>q _ _ _ _ (zG.trans (x4.trans x5)) r5 q5⟩
 |false=>
  rw[if_neg im]at h4 ⊢;exact q _ _ _ _ zG (.bl _) h4
theorem F6 {op j0:XN}{z z':dI}(ho:dR Γ X (compareOp op) z) (iA:dR Γ X (compareOp j0) z') (ha:QE Γ X a pa) (hb:QE Γ X b pb) (hc:QE Γ X c pc) (hm:lastMarks [op,j0] [b,c]=false :=by with_unfolding_all rfl) :
  QE Γ X (.Compare a [op,j0] [b,c] pos) (zChain z z' pa pb pc) :=by
 obtain⟨r,h1,h2⟩:=ho;obtain⟨r',NW,NX⟩:=iA;exact(Fg h1 NW ha hb hc hm).imp fun σ H Q h=>zF h2 NX h
theorem F7 {op j0:XN}{z z':dI}(ho:dR Γ X (compareOp op) z) (iA:dR Γ X (compareOp j0) z') (ha:QE Γ X a pa) (hb:QE Γ X b pb) (hc:QE Γ X c pc) (hm:lastMarks [op,j0] [b,c]=false :=by with_unfolding_all rfl) :
  QT Γ X (.Compare a [op,j0] [b,c] pos) (zTest (zChain z z' pa pb pc)) :=by
 obtain⟨r,h1,h2⟩:=ho;obtain⟨r',NW,NX⟩:=iA;exact(Fh h1 NW ha hb hc hm).imp fun σ H Q h=>wY (fun _ _ _=>zF h2 NX) h
variable {tA rl:cL}{rest:List db}
def zAnd (t u:cL):cL:=fun ρ M Q=>t ρ M fun c M1=>if c=true then u ρ M1 Q else Q false M1
def zOr (t u:cL):cL:=fun ρ M Q=>t ρ M fun c M1=>if c=true then Q true M1 else u ρ M1 Q
def zNot (t:cL):cL:=fun ρ M Q=>t ρ M fun c M1=>Q (!c) M1
theorem zH (ha:QT Γ X a tA):QW Γ X (.BoolOp .And [a] pos) tA:=Ji ha
theorem og (ha:QT Γ X a tA):QW Γ X (.BoolOp .Or [a] pos) tA:=LJ ha
theorem Dh (ha:QT Γ X a tA) (hb:QW Γ X (.BoolOp .And (b::rest) pos) rl):QW Γ X (.BoolOp .And (a::b::rest) pos) (zAnd tA rl):=
 (LK ha hb).imp fun σ H Q ⟨β,ρ,M,Q',zr,h,q⟩=>⟨β,ρ,M,_,zr,h,fun k M1 H1 x1 h1=>by
  cases k with
  |true=>rw[if_pos rfl]at h1 ⊢;exact⟨β,ρ,M1,_,zr.step x1,h1,fun k2 M2 H2 x2 h2=>q _ _ _ (x1.trans x2) h2⟩
  |false=>rw[if_neg im]at h1 ⊢;exact q _ _ _ x1 h1⟩
theorem pf (ha:QT Γ X a tA) (hb:QW Γ X (.BoolOp .Or (b::rest) pos) rl):QW Γ X (.BoolOp .Or (a::b::rest) pos) (zOr tA rl):=
 (Qv ha hb).imp fun σ H Q ⟨β,ρ,M,Q',zr,h,q⟩=>⟨β,ρ,M,_,zr,h,fun k M1 H1 x1 h1=>by
  cases k with
  |false=>rw[if_neg im]at h1 ⊢;exact⟨β,ρ,M1,_,zr.step x1,h1,fun k2 M2 H2 x2 h2=>q _ _ _ (x1.trans x2) h2⟩
  |true=>rw[if_pos rfl]at h1 ⊢;exact q _ _ _ x1 h1⟩
theorem fJ (ha:QT Γ X a tA):QT Γ X (.UnaryOp .Not a pos) (zNot tA):=(LL ha).imp fun σ H Q ⟨β,ρ,M,Q',zr,h,q⟩=>⟨β,ρ,M,_,zr,h,fun k M1 H1 x1 h1=>q _ _ _ x1 h1⟩
theorem QW.pt {e:db}{t:cL}(h:QW Γ X e t):QT Γ X e t:=PW.pt h
def zAndV (pa pb:aK):aK:=fun ρ M Q=>pa ρ M (zBool fun c M1=>if c=true then pb ρ M1 Q else Q (.bl false) M1)
def zOrV (pa pb:aK):aK:=fun ρ M Q=>pa ρ M (zBool fun c M1=>if c=true then Q (.bl true) M1 else pb ρ M1 Q)
def zNotV (pa:aK):aK:=fun ρ M Q=>pa ρ M (zBool fun c M1=>Q (.bl (!c)) M1)
theorem mq {op}(h:QE Γ X a pa):QE Γ X (.BoolOp op [a] pos) pa:=LN h
theorem si (ha:QE Γ X a pa) (hb:QE Γ X (.BoolOp .And (b::rest) pos) pb):QE Γ X (.BoolOp .And (a::b::rest) pos) (zAndV pa pb):=
 (LO ha hb).imp fun σ H Q ⟨β,ρ,M,Q',zr,h,q⟩=>⟨β,ρ,M,_,zr,h,fun d M1 v H1 x1 r1 h1=>by
  obtain⟨k,rfl,h2⟩:=iG h1;refine⟨k,dn r1,?_⟩;cases k with
  |true=>rw[if_pos rfl]at h2 ⊢;exact⟨β,ρ,M1,_,zr.step x1,h2,fun d2 M2 v2 H2 x2 r2 h2=>q _ _ _ _ (x1.trans x2) r2 h2⟩
  |false=>rw[if_neg im]at h2 ⊢;exact q _ _ _ _ x1 (.bl _) h2⟩
theorem HZ (ha:QE Γ X a pa) (hb:QE Γ X (.BoolOp .Or (b::rest) pos) pb):QE Γ X (.BoolOp .Or (a::b::rest) pos) (zOrV pa pb):=
 (Qy ha hb).imp fun σ H Q ⟨β,ρ,M,Q',zr,h,q⟩=>⟨β,ρ,M,_,zr,h,fun d M1 v H1 x1 r1 h1=>by
  obtain⟨k,rfl,h2⟩:=iG h1;refine⟨k,dn r1,?_⟩;cases k with
  |false=>rw[if_neg im]at h2 ⊢;exact⟨β,ρ,M1,_,zr.step x1,h2,fun d2 M2 v2 H2 x2 r2 h2=>q _ _ _ _ (x1.trans x2) r2 h2⟩
  |true=>rw[if_pos rfl]at h2 ⊢;exact q _ _ _ _ x1 (.bl _) h2⟩
theorem NY (ha:QE Γ X a pa):QE Γ X (.UnaryOp .Not a pos) (zNotV pa):=(LQ ha).imp fun σ H Q ⟨β,ρ,M,Q',zr,h,q⟩=>⟨β,ρ,M,_,zr,h,fun d M1 v H1 x1 r1 h1=>by
  obtain⟨k,rfl,h2⟩:=iG h1;exact⟨k,dn r1,q _ _ _ _ x1 (.bl _) h2⟩⟩
def zNil:eh:=fun _ M Q=>Q [] M
def zCons (p:aK) (r:eh):eh:=fun ρ M Q=>p ρ M fun d M1=>r ρ M1 fun ds M2=>Q (d::ds) M2
variable {es:List db}{za:eh}
theorem ae:QA Γ X [] zNil:=Mt.imp fun σ H Q ⟨β,ρ,M,Q',zr,h,q⟩=>q [] M [] H (.refl zr.mz) .nil h
theorem aa {e:db}(ha:QE Γ X e pa) (hr:QA Γ X es za) (hs:starEach (e::es) X.env=(false,eval e X.env)::starEach es X.env :=by rfl):QA Γ X (e::es) (zCons pa za):=
 (oW ha hr hs).imp fun σ H Q ⟨β,ρ,M,Q',zr,h,q⟩=>⟨β,ρ,M,_,zr,h,fun d M1 v H1 x1 r1 h1=>⟨β,ρ,M1,_,zr.step x1,h1,fun ds M2 vs H2 x2 r2 h2=>q _ _ _ _ (x1.trans x2) (.cons (r1.ex x2) r2) h2⟩⟩
def zTup (p:eh):aK:=fun ρ M Q=>p ρ M fun ds M1=>ds.length<=sizeLine/\Q (.tup ds) M1
def zLst (p:eh):aK:=fun ρ M Q=>p ρ M fun ds M1=>ds.length<=sizeLine/\Q (.lst ds) M1
def zLstP (p:eh):aK:=fun ρ M Q=>p ρ M fun ds M1=>ds.length<=sizeLine/\∀a,M1 a=none->Q (.ptr a) (aw M1 a (.lst ds))
theorem sj {x1}(h:QA Γ X es za):QE Γ X (.Tuple es x1 pos) (zTup za):=(Mu h).imp fun σ H Q ⟨β,ρ,M,Q',zr,h,q⟩=>⟨β,ρ,M,_,zr,h,fun ds M1 vs H1 x1 r1 h1=>⟨by rw[r1.len];exact h1.1,fun p hp=>by
  have x2:=Ex.lay x1.mz hp (.tup vs);exact q _ _ _ _ (x1.trans x2) (gv (x1.mz.fz hp) aA (r1.ex x2)) h1.2⟩⟩
theorem sk (h:QA Γ X es za):QE Γ X (.List es pos) (zLst za):=(Cd h).imp fun σ H Q ⟨β,ρ,M,Q',zr,h,q⟩=>⟨β,ρ,M,_,zr,h,fun ds M1 vs H1 x1 r1 h1=>⟨by rw[r1.len];exact h1.1,fun p hp=>by
  have x2:=Ex.lay x1.mz hp (.lst vs);exact q _ _ _ _ (x1.trans x2) (sh (x1.mz.fz hp) aA (r1.ex x2)) h1.2⟩⟩
theorem jM (h:QA Γ X es za):QE Γ X (.List es pos) (zLstP za):=(Cd h).imp fun σ H Q ⟨β,ρ,M,Q',zr,h,q⟩=>⟨β,ρ,M,_,zr,h,fun ds M1 vs H1 x1 r1 h1=>⟨by rw[r1.len];exact h1.1,fun p hp=>by
  have x2:=Ex.own x1.mz (.inr hp) r1;exact q _ _ _ _ (x1.trans x2) (.ptr (by rw[updM_same];rfl)) (h1.2 p (x1.mz.free hp))⟩⟩
abbrev sm:=List Dv->Mh->ZK->Prop
def Ia (Γ:Gz) (r:List V->Hp->VK->Prop) (z:sm):Prop:=∀(β:Bz) xs ds M H Q Q',β.P=Γ.P->β.w=Γ.w->β.K=Γ.K->Mz β M H->aG β M H xs ds->z ds M Q'->(∀d' M' v H',Ex β M H M' H'->Rz β M' H' v d'->Q' d' M'->Q v H')->r xs H Q
def ft (Γ:Gz) (X:Cx) (f:al) (z:sm):Prop:=∃r,cV X f r/\Ia Γ r z
def zCB (z:sm) (p:eh):aK:=fun ρ M Q=>p ρ M fun ds M1=>z ds M1 Q
theorem NZ {r:List V->Hp->VK->Prop}{z:sm}(hz:Ia Γ r z) {σ:St}{H:Hp}{Q:VK}(h:lE Γ (zCB z za) σ H Q):Mw r (lA Γ za) σ H Q :=by
 obtain⟨β,ρ,M,Q',zr,h,q⟩:=h;exact⟨β,ρ,M,_,zr,h,fun ds M1 vs H1 x1 r1 h1=>hz β vs ds M1 H1 _ _ zr.eP zr.ew zr.eK x1.mz r1 h1 fun d' M' v' H' x2 r2 q2=>q _ _ _ _ (x1.trans x2) r2 q2⟩
variable {st:tw}{SH:List tw}{p p2:bX}{e:db}{pe:aK}
def zNext:bX:=fun D ρ M=>D.nx ρ M
def zSeq (p q:bX):bX:=fun D ρ M=>p {D with nx:=q D} ρ M
theorem qss_nil:lb Γ X [] zNext:=Jj.imp fun D σ H ⟨β,ρ,M,D',zr,h,r⟩=>r.nx ρ M σ H (.refl zr.mz) zr h
theorem ah (h1:QS Γ X st p) (h2:lb Γ X SH p2):lb Γ X (st::SH) (zSeq p p2):=(E7 h1 h2).imp fun D σ H ⟨β,ρ,M,D',zr,h,r⟩=>
 ⟨β,ρ,M,_,zr,h,fun bG M' aF H' x gy h'=>⟨β,bG,M',D',gy,h',r.step x⟩,r.rt,r.bk,r.ct⟩
theorem ao (h1:QS Γ X st p):lb Γ X [st] p:=Jk h1
def zDrop (p:aK):bX:=fun D ρ M=>p ρ M fun _ M1=>D.nx ρ M1
theorem iH (he:QE Γ X e pe) (hs:swapsWith e none pos.line X.env=pure false :=by rfl):QS Γ X (.Expr e pos) (zDrop pe):=(Jl he hs).imp fun D σ H ⟨β,ρ,M,D',zr,h,r⟩=>
 ⟨β,ρ,M,_,zr,h,fun d M1 v H1 x1 r1 h1=>r.nx ρ M1 σ H1 x1.ev (zr.step x1) h1⟩
def zRet (p:aK):bX:=fun D ρ M=>p ρ M D.rt
theorem aU (he:QE Γ X e pe):QS Γ X (.Return (some e) pos) (zRet pe):=(LR he).imp fun D σ H ⟨β,ρ,M,D',zr,h,r⟩=>⟨β,ρ,M,_,zr,h,fun d M' v H' x r1 h1=>r.rt _ _ _ _ x.ev (zr.ent.trans x.toEy) r1 h1⟩
def zIfS (c:cL) (p q:bX):bX:=fun D ρ M=>c ρ M fun b M1=>if b=true then p D ρ M1 else q D ρ M1
theorem dM {as bs:List tw}{pa pb:bX}(hc:QT Γ X c tA) (ha:lb Γ X as pa) (hb:lb Γ X bs pb):QS Γ X (.If c as bs pos) (zIfS tA pa pb):=(QC hc ha hb).imp fun D σ H ⟨β,ρ,M,D',zr,h,r⟩=>
 ⟨β,ρ,M,_,zr,h,fun k M1 H1 x1 h1=>by
  cases k with
  |true=>rw[if_pos rfl]at h1 ⊢;exact⟨β,ρ,M1,D',zr.step x1,h1,r.step x1.ev⟩
  |false=>rw[if_neg im]at h1 ⊢;exact⟨β,ρ,M1,D',zr.step x1,h1,r.step x1.ev⟩⟩
def zgName (i:Nat):cE:=fun d ρ M N=>N (ρ.set i (some d)) M
theorem aJ {i:Nat}{x:bn}(hN:X.N.Nodup) (hi:X.N[i]?=some x) (hx:Loc X.env.scope x) (hf:X.fn x=true\/X.env.scope.names.lookup x=some .local :=by first|exact .inl rfl|exact .inr rfl|assumption):QG Γ X (.Name x pos) (zgName i):=
 (Jm hN hi hx hf).imp fun v σ H N ⟨β,d,ρ,M,N',zr,r,h,q⟩=>q _ _ _ _ (.refl zr.mz) (zr.set i r) h
def zgNil:n8:=fun ds ρ M N=>match ds with | []=>N ρ M|_=>False
def zgCons (g:cE) (u:n8):n8:=fun ds ρ M N=>match ds with|d::r=>g d ρ M fun bG M'=>u r bG M' N | []=>False
theorem zI:HY Γ X [] zgNil:=Jn.imp fun vs σ H N ⟨β,ds,ρ,M,N',zr,r,h,q⟩=>by
 unfold zgNil at h;split at h
 ·have e:vs=[]:=List.length_eq_zero_iff.mp r.len;exact⟨e,q _ _ _ _ (.refl zr.mz) zr h⟩
 ·exact h.elim
theorem mV {g:cE}{u:n8}(h1:QG Γ X e g) (h2:HY Γ X es u) (hs:(assignEach (e::es) X.env).map (·.2)=assign e X.env::(assignEach es X.env).map (·.2) :=by rfl):HY Γ X (e::es) (zgCons g u):=
 (E9 h1 h2 hs).imp fun vs σ H N ⟨β,ds,ρ,M,N',zr,r,h,q⟩=>by
  unfold zgCons at h;split at h
  ·rename_i d rest;cases vs with
   |nil=>exact absurd r.len (by simp)
   |cons v vs=>exact⟨v,vs,rfl,β,d,ρ,M,_,zr,r.head,h,fun bG M' aF H' x gy h'=>⟨β,rest,bG,M',N',gy,r.tail.ex x,h',fun a b c d y=>q a b c d (x.trans y)⟩⟩
  ·exact h.elim
def zgTup (n:Nat) (u:n8):cE:=fun d ρ M N=>match d with | .tup ds=>ds.length=n/\u ds ρ M N|_=>False
theorem Di {k:Nat}{u:n8}{n:Nat}(hc:X.calm=true) (h:HY Γ X es u) (hn:(assignEach es X.env).length=n :=by rfl) (jv:(assignEach es X.env).findIdx? (·.1)=none :=by rfl):QG Γ X (.Tuple es k pos) (zgTup n u):=
 (LV hc h hn jv).imp fun v σ H N ⟨β,d,ρ,M,N',zr,r,h,q⟩=>by
  unfold zgTup at h;split at h
  ·obtain⟨a,vs,rfl,m,e,rs⟩:=bN r;exact⟨a,vs,rfl,cw.of e,by rw[rs.len];exact h.1,β,_,ρ,M,N',zr,rs,h.2,q⟩
  ·exact h.elim
def zAsg (p:aK) (g:cE):bX:=fun D ρ M=>p ρ M fun d M1=>g d ρ M1 D.nx
theorem Rg {g:cE}{D:Ends}{σ:St}{H:Hp}(h:lS Γ (zAsg pe g) D σ H):sX (lE Γ pe) (lG Γ g) D σ H :=by
 obtain⟨β,ρ,M,D',zr,h,r⟩:=h;exact⟨β,ρ,M,_,zr,h,fun d M1 v H1 x1 r1 h1=>⟨β,d,ρ,M1,D'.nx,zr.step x1,r1,h1,fun bG M' aF H' x gy h'=>r.nx _ _ _ _ (x1.trans x).ev gy h'⟩⟩
theorem kb {tg:db}{g:cE}(he:QE Γ X e pe) (hg:QG Γ X tg g) (hs:swapsWithSole [tg] e pos.line X.env=pure false :=by rfl) (hw:swappedStores [tg] e X.env=pure none :=by rfl)
  (h1:(assignEach [tg] X.env).map (·.2)=[assign tg X.env] :=by rfl):QS Γ X (.Assign [tg] e pos) (zAsg pe g):=(LX he hg hs hw h1).imp fun D σ H h=>Rg h
theorem vJ {t:TE}(i:∀σ H Q,lE Γ pe σ H Q->t σ H Q) {n:Nat}{D:Ends}{σ:St}{H:Hp}(h:lS Γ (zAsg pe (zgName n)) D σ H):sX t (rq n) D σ H :=by
 obtain⟨β,ρ,M,D',zr,h,r⟩:=h;exact i _ _ _ ⟨β,ρ,M,_,zr,h,fun d M1 v H1 x1 r1 h1=>r.nx _ _ _ _ x1.ev ((zr.step x1).set n r1) h1⟩
theorem aI {i:Nat}{x:bn}{pos':wE}(hN:X.N.Nodup) (hi:X.N[i]?=some x) (hx:Loc X.env.scope x) (he:QE Γ X e pe) (hs:swapsWith e (some (.Name x pos')) pos.line X.env=pure false :=by rfl) (hf:X.fn x=true\/X.env.scope.names.lookup x=some .local :=by first|exact .inl rfl|exact .inr rfl|assumption) :
  QS Γ X (.Assign [.Name x pos'] e pos) (zAsg pe (zgName i)):=(LY hN hi hx he hs hf).imp fun D σ H h=>vJ (fun _ _ _ h=>h) h
end
section
variable {X:Cx}{Γ:Gz}{β:Bz}
def ziTup (p:aK):fc:=fun ρ M R=>p ρ M fun d M1=>match d with | .tup ds=>R ds M1|_=>False
def ziLst (p:aK):fc:=fun ρ M R=>p ρ M fun d M1=>match d with | .lst ds=>R ds M1|_=>False
def bH (lo:Int) (n:Nat):List Dv:=(jp n).map fun i=>.int (lo+(i:Nat))
def ziRng1 (p:eh):fc:=fun ρ M R=>p ρ M fun ds M1=>match ds with | [.int j] => -(2 ^ 62)<=j/\j<2 ^ 62/\R (bH 0 j.toNat) M1|_=>False
theorem iI {J:It}{vs:List V}{ds:List Dv}{M:Mh}{H:Hp}(r:aG β M H vs ds) (h:∀M' H',Ey M H M' H'->Runs J vs H'):Dg β J ds M H:=fun da M' H' bx x m i=>by
 have q:=h M' H' x i;rw[<- r.len];refine⟨fun hi=>⟨(q.1 hi).1,fun v la y=>?_⟩,q.2⟩
 obtain⟨e,hv⟩:=(q.1 hi).2 v la y;subst e;obtain⟨d,hd,rd⟩:=r.get' hv;exact⟨.refl m,d,hd,(rd.bx bx).ey x⟩
variable {tg l:db}{p:aK}{pa:eh}{K:bi}
theorem ke (hK:X.K=K) (hl:QE Γ X l p):QI Γ X tg l (ziTup p):=(JF hK hl).imp fun σ H R ⟨β,ρ,M,R',zr,h,q⟩=>⟨β,ρ,M,_,zr,h,fun d M1 v H1 x1 r1 h1=>by
 revert h1
 split
 ·intro h1;obtain⟨a,vs,rfl,m,e,rs⟩:=bN r1;exact⟨a,rfl,⟨_,cw.of e⟩,q _ _ _ _ x1 (iI rs fun M' H' x=>Fy (cw.of (x.get m.1 e rfl))) h1⟩
 ·exact fun h=>h.elim⟩
theorem jN (hK:X.K=K) (hl:QE Γ X l p):QI Γ X tg l (ziLst p):=(FC hK hl).imp fun σ H R ⟨β,ρ,M,R',zr,h,q⟩=>⟨β,ρ,M,_,zr,h,fun d M1 v H1 x1 r1 h1=>by
 revert h1
 split
 ·intro h1;obtain⟨a,vs,rfl,m,e,rs⟩:=cg r1;exact⟨a,rfl,⟨_,bo.of e⟩,q _ _ _ _ x1 (iI rs fun M' H' x=>CH (bo.of (x.get m.1 e rfl))) h1⟩
 ·exact fun h=>h.elim⟩
theorem Dj {lo:Int}{n:Nat}{M:Mh}{H:Hp}:aG β M H ((jp n).map fun i=>V.int (lo+(i:Nat))) (bH lo n):=⟨by simp[bH],fun i v d a b=>by
 unfold bH at b;rw[br]at a b;cases e:(jp n)[i]? with
 |none=>rw[e]at a;cases a
 |some c=>rw[e]at a b;cases a;cases b;exact .int _⟩
theorem dD {xs:List V}{d:Dv}{M:Mh}{H:Hp}(r:aG β M H xs [d]):∃v,xs=[v]/\Rz β M H v d :=by
 match xs,r with
 | [v],r=>exact⟨v,rfl,r.head⟩
 | [],r=>exact absurd r.len (by simp)
 |_::_::_,r=>exact absurd r.len (by simp)
theorem iJ {xs:List V}{d e:Dv}{M:Mh}{H:Hp}(r:aG β M H xs [d,e]):∃v u,xs=[v,u]/\Rz β M H v d/\Rz β M H u e :=by
 match xs,r with
 | [v,u],r=>exact⟨v,u,rfl,r.head,r.tail.head⟩
 | [],r=>exact absurd r.len (by simp)
 | [_],r=>exact absurd r.len (by simp)
 |_::_::_::_,r=>exact absurd r.len (by simp)
section
variable {e e1 e2:db}{pr pos:wE}
theorem N0 {σ:St}{H:Hp}{R:It->Hp->Prop}(h:lI Γ (ziRng1 pa) σ H R):Hs (lA Γ pa) σ H R :=by
 obtain⟨β,ρ,M,R',zr,h,q⟩:=h;refine⟨β,ρ,M,_,zr,h,fun ds M1 vs H1 x1 r1 h1=>?_⟩
 revert h1
 split
 ·rintro⟨b1,b2,h1⟩;obtain⟨v,rfl,r⟩:=dD r1;rw[aL r];exact⟨_,rfl,b1,b2,q _ _ _ _ x1 (iI Dj fun M' H' x=>AB) h1⟩
 ·exact fun h=>h.elim
end
def zLoop (g:cE) (tb:bX) (D:gD):List Dv->az->Mh->Prop
 | [],ρ,M=>D.nx ρ M
 |d::ds,ρ,M=>g d ρ M fun gz M2=>tb {D with nx:=zLoop g tb D ds,ct:=zLoop g tb D ds,bk:=D.nx} gz M2
def zFor (zi:fc) (g:cE) (tb:bX):bX:=fun D ρ M=>zi ρ M fun ds M1=>zLoop g tb D ds ρ M1
def zForM (zi:fc) (g:cE) (tb:Mh->bX):bX:=fun D ρ M=>zi ρ M fun ds M1=>zLoop g (tb M1) D ds ρ M1
theorem Zr.root {M:Mh}{ρ:az}{σ:St}{H:Hp}(z:Zr Γ β M ρ σ H):Zr ⟨β,M,H⟩ β M ρ σ H:=⟨rfl,rfl,rfl,rfl,fun _ h=>h,z.mz.wf,.refl,z.mz,z.len,z.at'⟩
theorem Zr.Dk {M M1:Mh}{ρ SJ:az}{σ pR:St}{H H1:Hp}(z:Zr Γ β M ρ σ H) (y:Zr ⟨β,M,H⟩ β M1 SJ pR H1):Zr Γ β M1 SJ pR H1:=⟨z.eP,z.ew,z.eK,z.et,z.sub,z.wf,z.ent.trans y.ent,y.mz,y.len,y.at'⟩
theorem Rh {zi:fc}{g:cE}{tb:Mh->bX}{t:TS}(hb:∀aW:Gz,aW.P=Γ.P->aW.w=Γ.w->aW.K=Γ.K->aW.tb=Γ.tb->∀D σ H,lS aW (tb aW.M0) D σ H->t D σ H) {tg:TG}(hg:∀aW:Gz,aW.P=Γ.P->aW.w=Γ.w->aW.K=Γ.K->aW.tb=Γ.tb->∀x σ H N,lG aW g x σ H N->tg x σ H N) {D:Ends}{σ:St}{H:Hp}(h:lS Γ (zForM zi g tb) D σ H):Ma (lI Γ zi) tg t D σ H :=by
 obtain⟨β,ρ,M,D',zr,h,r⟩:=h;refine⟨β,ρ,M,_,zr,h,fun ds M1 H1 J x1 it h1=>?_⟩
 have lh:=zr.step x1;refine⟨fun i m aF H'=>m=ds.length - i/\i<=ds.length/\∃bG M',Zr ⟨β,M1,H1⟩ β M' bG aF H'/\zLoop g (tb M1) D' (ds.drop i) bG M',⟨ds.length,rfl,xb _,ρ,M1,lh.root,h1⟩,?_⟩
 rintro i m aF H' ⟨rfl,hi,bG,M',gy,h'⟩;have ev:∀{M2:Mh} {gz:az} {i6:St} {H2:Hp},Zr ⟨β,M1,H1⟩ β M2 gz i6 H2->Ev β M H M2 H2:=fun z=>x1.ev.trans ⟨z.ent.keep,z.ent.new,z.mz⟩
 by_cases aT:i<ds.length
 ·have q:=(it β M' H' .refl gy.ent gy.mz i).1 aT;refine .inr ⟨q.1,fun i6 H2=>∃gz M2,Zr ⟨β,M1,H1⟩ β M2 gz i6 H2/\zLoop g (tb M1) D' (ds.drop (i+1)) gz M2,fun i6 H2 ⟨gz,M2,Ib,h2⟩=>⟨ds.length - (i+1),by omega,rfl,aT,gz,M2,Ib,h2⟩,fun v la y=>?_⟩
  obtain⟨x2,d,hd,rd⟩:=q.2 v la y;have e:ds.drop i=d::ds.drop (i+1) :=by
   rw[Ix aT];rw[ap aT]at hd;cases hd;rfl
  rw[e]at h';refine hg ⟨β,M1,H1⟩ zr.eP zr.ew zr.eK zr.et _ _ _ _ ⟨β,d,bG,M',_,gy.step x2,rd,h',fun VG M3 nq H3 x3 N1 h3=>hb ⟨β,M1,H1⟩ zr.eP zr.ew zr.eK zr.et _ _ _ ⟨β,VG,M3,_,N1,h3,?_⟩⟩
  exact⟨fun so M4 Dl H4 x4 nA h4=>⟨so,M4,nA,h4⟩,fun d4 M4 v4 H4 x4 e4 r4 h4=>r.rt _ _ _ _ (x1.ev.trans ⟨e4.keep,e4.new,x4.mz⟩) (lh.ent.trans e4) r4 h4,fun so M4 Dl H4 x4 nA h4=>r.nx _ _ _ _ (ev nA) (lh.Dk nA) h4,fun so M4 Dl H4 x4 nA h4=>⟨so,M4,nA,h4⟩⟩
 ·have e:i=ds.length :=by omega
  subst e;rw[XO]at h';exact .inl ⟨(it β M' H' .refl gy.ent gy.mz _).2 (c8 _),r.nx _ _ _ _ (ev gy) (lh.Dk gy) h'⟩
def VH (Γ:Gz) (p:Mh->bX):TS:=fun D σ H=>∃aW:Gz,aW.P=Γ.P/\aW.w=Γ.w/\aW.K=Γ.K/\aW.tb=Γ.tb/\lS aW (p aW.M0) D σ H
def VI (Γ:Gz) (p:cE):TG:=fun x σ H N=>∃aW:Gz,aW.P=Γ.P/\aW.w=Γ.w/\aW.K=Γ.K/\aW.tb=Γ.tb/\lG aW p x σ H N
theorem J4 {body:List tw}{iter:db}{zi:fc}{g:cE}{tb:Mh->bX}{pos:wE}(hp:ZS (model X.prog X.w) X.A X.env X.xe) (hc:X.calm=true) (hi:QI Γ X tg iter zi)
  (Ic:∀(aW:Gz) (M1:Mh),aW.M0=M1->aW.P=Γ.P->aW.w=Γ.w->aW.K=Γ.K->aW.tb=Γ.tb->QG aW X tg g/\lb aW X body (tb M1))
  (hs:∀x,foldedSetIterable iter X.env x=pure x :=by intro _;rfl):QS Γ X (.For tg iter body [] pos) (zForM zi g tb):=
 (Mb (g:=VI Γ g) (tb:=VH Γ tb) hp hc hi (fun pins s σ H v u Q I r h=>by obtain⟨aW,e1,e2,e3,e4,h⟩:=h;exact(Ic aW _ rfl e1 e2 e3 e4).1 pins s σ H v u Q I r h) ⟨fun pins s σ H D I h=>by obtain⟨aW,e1,e2,e3,e4,h⟩:=h;exact(Ic aW _ rfl e1 e2 e3 e4).2 pins s σ H D I h⟩ hs).imp
  fun D σ H h=>Rh (fun aW e1 e2 e3 e4 D σ H h=>⟨aW,e1,e2,e3,e4,h⟩) (fun aW e1 e2 e3 e4 x σ H N h=>⟨aW,e1,e2,e3,e4,h⟩) h
theorem cM {body:List tw}{iter:db}{zi:fc}{g:cE}{tb:bX}{pos:wE}(hp:ZS (model X.prog X.w) X.A X.env X.xe) (hc:X.calm=true) (hi:QI Γ X tg iter zi)
  (Ic:∀aW:Gz,aW.P=Γ.P->aW.w=Γ.w->aW.K=Γ.K->aW.tb=Γ.tb->QG aW X tg g/\lb aW X body tb)
  (hs:∀x,foldedSetIterable iter X.env x=pure x :=by intro _;rfl):QS Γ X (.For tg iter body [] pos) (zFor zi g tb):=J4 (tb:=fun _=>tb) hp hc hi (fun aW M1 _ e1 e2 e3 e4=>Ic aW e1 e2 e3 e4) hs
theorem a9 {a:db}{p pos:wE}(hg:Gl X "range") (hm:X.mg "range" = none) (ha:QA Γ X [a] pa) (hs:starEach [a] X.env=[(false,eval a X.env)] :=by rfl):QI Γ X tg (.Call (.Name "range" p) [a] [] pos) (ziRng1 pa):=(B4 hg hm ha hs).imp fun σ H R h=>N0 h
def Dm (c:cL) (tb:bX):bX:=fun D ρ M=>∃W:Nat->az->Mh->Prop,(∃m,W m ρ M)/\∀m ρ M,W m ρ M->
 c ρ M fun b M1=>if b=true then tb {D with nx:=fun bG M'=>∃m',m'<m/\W m' bG M',ct:=fun bG M'=>∃m',m'<m/\W m' bG M',bk:=D.nx} ρ M1 else D.nx ρ M1
theorem J5 {c:cL}{tb:bX}{D:Ends}{σ:St}{H:Hp}(h:lS Γ (Dm c tb) D σ H):B2 (lT Γ c) (lS Γ tb) D σ H :=by
 obtain⟨β,ρ,M,D',zr,⟨W,⟨m0,w0⟩,turn⟩,r⟩:=h;refine⟨fun m aF H'=>∃bG M',Ev β M H M' H'/\Zr Γ β M' bG aF H'/\W m bG M',⟨m0,ρ,M,.refl zr.mz,zr,w0⟩,?_⟩
 rintro m aF H' ⟨bG,M',x',gy,w'⟩;refine⟨β,bG,M',_,gy,turn m bG M' w',fun k M1 H1 x1 h1=>?_⟩
 have Dn:=x'.trans x1.ev;cases k with
 |true=>
  dsimp only at h1 ⊢;rw[if_pos rfl]at h1 ⊢;refine⟨fun i6 H2=>∃m',m'<m/\∃gz M2,Ev β M H M2 H2/\Zr Γ β M2 gz i6 H2/\W m' gz M2,fun i6 H2 h2=>h2,β,bG,M1,_,gy.step x1,h1,?_⟩
  exact⟨fun so M4 Dl H4 x4 nA ⟨m',hm,w4⟩=>⟨m',hm,so,M4,Dn.trans x4,nA,w4⟩,fun d4 M4 v4 H4 x4 e4 r4 h4=>r.rt _ _ _ _ (Dn.trans x4) e4 r4 h4,fun so M4 Dl H4 x4 nA h4=>r.nx _ _ _ _ (Dn.trans x4) nA h4,fun so M4 Dl H4 x4 nA ⟨m',hm,w4⟩=>⟨m',hm,so,M4,Dn.trans x4,nA,w4⟩⟩
 |false=>
  dsimp only at h1 ⊢;rw[if_neg im]at h1 ⊢;exact r.nx _ _ _ _ Dn (gy.step x1) h1
theorem kf {body:List tw}{c:db}{zc:cL}{tb:bX}{pos:wE}(hp:ZS (model X.prog X.w) X.A X.env X.xe) (hc:QT Γ X c zc) (hb:lb Γ X body tb):QS Γ X (.While c body [] pos) (Dm zc tb):=(Fb hp hc hb).imp fun D σ H h=>J5 h
theorem bz {g:cE}{tb:bX}{D:gD}(J:Nat->az->Mh->Prop) {ds:List Dv}{ρ:az}{M:Mh}(h0:J 0 ρ M)
  (hs:∀i d ρ M (N:az->Mh->Prop),ds[i]?=some d->J i ρ M->(∀bG M',J (i+1) bG M'->N bG M')->g d ρ M fun gz M2=>tb {D with nx:=N,ct:=N,bk:=D.nx} gz M2)
  (hd:∀ρ M,J ds.length ρ M->D.nx ρ M):zLoop g tb D ds ρ M :=by
 have key:∀(n i:Nat) ρ M,n=ds.length - i->i<=ds.length->J i ρ M->zLoop g tb D (ds.drop i) ρ M :=by
  intro n;induction n with
  |zero=>
   intro i ρ M e hi h;have:i=ds.length :=by omega
   subst this;rw[XO];exact hd _ _ h
  |succ n ih=>
   intro i ρ M e hi h;have aT:i<ds.length :=by omega
   rw[Ix aT];exact hs i _ ρ M _ (ap aT) h fun ρ M h=>ih (i+1) ρ M (by omega) aT h
 exact key _ 0 ρ M rfl (xb _) h0
end
section
variable {X:Cx}{Γ:Gz}{β:Bz}
def zBlock (tn:Nat) (idx:List Nat) (ρ:az):az:=io tn none++idx.map fun i=>(ρ[i]?).join
theorem Zr.block {M:Mh}{ρ:az}{σ:St}{H:Hp}(z:Zr Γ β M ρ σ H) (tn:Nat) (idx:List Nat):Zr Γ β M (zBlock tn idx ρ) (bg tn idx σ) H:=⟨z.eP,z.ew,z.eK,z.et,z.sub,z.wf,z.ent,z.mz,by simp[zBlock,bg],fun i d e=>by
 unfold zBlock at e;unfold bg;rw[YT]at e ⊢;rw[Fa]at e ⊢;split at e
 ·rw[BS]at e;split at e<;>cases e
 ·rename_i hi;rw[if_neg hi];rw[br]at e ⊢;cases q:idx[i - tn]? with
  |none=>rw[q]at e;cases e
  |some j=>
   rw[q]at e;have e2:ρ[j]?=some (some d) :=by
    simp only[AT,Lo]at e;cases q2:ρ[j]? with
    |none=>rw[q2]at e;cases e
    |some o=>rw[q2]at e;simp only[ZL]at e;rw[e]
   obtain⟨v,hv,r⟩:=z.at' j d e2;exact⟨v,by simp[hv],r⟩⟩
theorem Zr.enter {M:Mh}{ρ:az}{σ:St}{H:Hp}{D:ac}{o:HO}(z:Zr Γ β M ρ σ H) (hD:H D=none) (ho:n5 o=true):Zr Γ (β.add D) M ρ σ (upd H D o):=
 ⟨z.eP,z.ew,z.eK,z.et,fun a h=>i0 _ (z.sub a h),z.wf,z.ent.over (z.ent.gone hD (by
  cases e:Γ.M0 D with
  |none=>rfl
  |some u=>have:=z.ent.dom D (by rw[e];rfl);rw[z.mz.free hD]at this;cases this)),z.mz.enter hD ho,z.len,fun i d e=>let ⟨v,h,r⟩:=z.at' i d e;⟨v,h,r.enter hD⟩⟩
theorem Zr.over {M:Mh}{ρ:az}{σ:St}{H:Hp}{D:ac}{o:HO}(z:Zr Γ β M ρ σ H) (hD:D∈β.hid) (ho:n5 o=true) (hM:M D=none) (ht:D ∉ β.tb) (h0:Γ.H0 D=none):Zr Γ β M ρ σ (upd H D o):=
 ⟨z.eP,z.ew,z.eK,z.et,z.sub,z.wf,z.ent.over h0,z.mz.over hD ho hM ht,z.len,fun i d e=>let ⟨v,h,r⟩:=z.at' i d e;⟨v,h,r.over hD⟩⟩
abbrev p7 (Γ:Gz) (X:Cx) (ifs:List db) (t:cL):Prop:=gT X ifs (lT Γ t)
def zNoIf:cL:=fun _ M Q=>Q true M
theorem cm:p7 Γ X [] zNoIf:=JD.imp fun σ H Q ⟨β,ρ,M,Q',zr,h,q⟩=>q true M H (.refl zr.mz) h
theorem zJ {c:db}{tc:cL}(h:QT Γ X c tc):p7 Γ X [c] tc:=JE h
def gJ (g:cE) (tt:cL) (te:aK):List Dv->az->Mh->(List Dv->Mh->Prop)->Prop
 | [],_,M,Q=>Q [] M
 |d::ds,τ,M,Q=>g d τ M fun aB M2=>tt aB M2 fun b M3=>if b=true then te aB M3 fun y M4=>gJ g tt te ds aB M4 fun ys M5=>Q (y::ys) M5 else gJ g tt te ds aB M3 Q
structure Acc (Γ:Gz) (β:Bz) (D:ac) (M1:Mh) (H1:Hp) (bW:az) (M:Mh) (τ:St) (H:Hp) (acc:List V) (cu:List Dv):Prop where
 ey:Ey M1 H1 M H
 m:M D=none
 zr:Zr Γ (β.add D) M bW τ H
 at':H D=some (.lst acc)
 rs:aG (β.add D) M H acc cu
 h1:H1 D=none
 h0:Γ.H0 D=none
 nt:D ∉ β.tb
theorem Acc.start {D:ac}{M1:Mh}{H1:Hp}{bW:az}{τ:St}(zr:Zr Γ β M1 bW τ H1) (hD:H1 D=none):Acc Γ β D M1 H1 bW M1 τ (upd H1 D (.lst [])) [] []:=
 ⟨Ey.refl.over hD,zr.mz.free hD,zr.enter hD rfl,aA,.nil,hD,zr.ent.gone hD (by
  cases e:Γ.M0 D with
  |none=>rfl
  |some u=>have:=zr.ent.dom D (by rw[e];rfl);rw[zr.mz.free hD]at this;cases this),zr.mz.F3 hD⟩
section
variable {D:ac}{M1 M M2:Mh}{H1 H H2:Hp}{bW N4:az}{τ aB:St}{acc:List V}{cu:List Dv}
theorem Acc.step (A:Acc Γ β D M1 H1 bW M τ H acc cu) (x:Ex (β.add D) M H M2 H2) (z:Zr Γ (β.add D) M2 N4 aB H2):Acc Γ β D M1 H1 N4 M2 aB H2 acc cu:=
 ⟨A.ey.trans x.toEy,x.new D _ A.m A.at',z,x.get A.m A.at' rfl,A.rs.ex x,A.h1,A.h0,A.nt⟩
theorem Acc.snoc (A:Acc Γ β D M1 H1 bW M τ H acc cu) {y:V}{d:Dv}(r:Rz (β.add D) M H y d):Acc Γ β D M1 H1 bW M τ (upd H D (.lst (acc++[y]))) (acc++[y]) (cu++[d]) :=by
 have hD:D∈(β.add D).hid:=ma;exact⟨A.ey.over A.h1,A.m,A.zr.over hD rfl A.m A.nt A.h0,aA,⟨by simp[A.rs.len],fun i v d a b=>((A.rs.snoc r).at' i v d a b).over hD⟩,A.h1,A.h0,A.nt⟩
theorem Acc.fz (A:Acc Γ β D M1 H1 bW M τ H acc cu) (m1:Mz β M1 H1):Fz β M D:=⟨A.m,(m1.fz A.h1).2⟩
theorem Acc.mz (A:Acc Γ β D M1 H1 bW M τ H acc cu):Mz β M H:=Mz.sub (β:=β.add D) (da:=β) rfl rfl rfl rfl (fun a h=>i0 _ h) A.zr.mz
theorem Acc.items (A:Acc Γ β D M1 H1 bW M τ H acc cu):aG β M H acc cu:=⟨A.rs.len,fun i v d a b=>Rz.sub (β:=β.add D) (da:=β) rfl rfl rfl (fun a h=>i0 _ h) (A.rs.at' i v d a b)⟩
theorem Acc.ex (A:Acc Γ β D M1 H1 bW M τ H acc cu):Ex β M1 H1 M H:=⟨A.ey,A.mz⟩
end
def zComp (tn:Nat) (idx:List Nat) (zi:fc) (g:cE) (tt:cL) (te:aK):aK:=fun ρ M Q=>zi ρ M fun ds M1=>ds.length<sizeLine/\gJ g tt te ds (zBlock tn idx ρ) M1 fun ys M2=>Q (.lst ys) M2
def zCompP (tn:Nat) (idx:List Nat) (zi:fc) (g:cE) (tt:cL) (te:aK):aK:=fun ρ M Q=>zi ρ M fun ds M1=>ds.length<sizeLine/\gJ g tt te ds (zBlock tn idx ρ) M1 fun ys M2=>∀a,M2 a=none->Q (.ptr a) (aw M2 a (.lst ys))
variable {zi:fc}{g:cE}{tt:cL}{te:aK}{tn:Nat}{idx:List Nat}
def oh (Γ:Gz) (β:Bz) (D:ac) (M1:Mh) (H1:Hp) (g:cE) (tt:cL) (te:aK) (ds:List Dv) (Q':List Dv->Mh->Prop) (i m:Nat) (τ:St) (H:Hp):Prop:=
 m=ds.length - i/\i<=ds.length/\∃bW M acc cu,Acc Γ β D M1 H1 bW M τ H acc cu/\acc.length<=i/\gJ g tt te (ds.drop i) bW M fun ys M2=>Q' (cu++ys) M2
theorem uQ {D:ac}{M1:Mh}{H1:Hp}{ds:List Dv}{Q':List Dv->Mh->Prop}{J:It}(it:Dg β J ds M1 H1) (hlen:ds.length<sizeLine) {i m:Nat}{τ:St}{H:Hp}(w:oh Γ β D M1 H1 g tt te ds Q' i m τ H)
  {C:V->St->Hp->Prop} (hC:∀y aB H4 acc,H4 D=some (.lst acc)->acc.length<sizeLine->(∃m',m'<m/\oh Γ β D M1 H1 g tt te ds Q' (i+1) m' aB (upd H4 D (.lst (acc++[y]))))->C y aB H4) :
  (J.stop i H/\∃bW M acc cu,Acc Γ β D M1 H1 bW M τ H acc cu/\acc.length<sizeLine/\Q' cu M) \/
  (J.go i H/\∀x H',J.yld i H x H'->lG Γ g x τ H' fun aB H2=>lT Γ tt aB H2 fun b H3=>if b=true then lE Γ te aB H3 fun y H4=>C y aB H4 else ∃m',m'<m/\oh Γ β D M1 H1 g tt te ds Q' (i+1) m' aB H3) :=by
 obtain⟨rfl,hi,bW,M,acc,cu,A,Nm,h⟩:=w;have q:=it (β.add D) M H (.add A.h1) A.ey A.zr.mz i;by_cases aT:i<ds.length
 ·refine .inr ⟨(q.1 aT).1,fun x H' y=>?_⟩
  obtain⟨x2,d,hd,rd⟩:=(q.1 aT).2 x H' y;have e:ds.drop i=d::ds.drop (i+1) :=by
   rw[Ix aT];rw[ap aT]at hd;cases hd;rfl
  rw[e]at h;have A2:=A.step x2 (A.zr.step x2);refine⟨β.add D,d,bW,M,_,A2.zr,rd,h,fun h8 M3 mr H3 x3 z3 h3=>?_⟩
  have A3:=A2.step x3 z3;refine⟨β.add D,h8,M3,_,z3,h3,fun b M4 H4 x4 h4=>?_⟩
  have A4:=A3.step x4 (z3.step x4);cases b with
  |false=>
   dsimp only at h4 ⊢;rw[if_neg im]at h4 ⊢;exact⟨ds.length - (i+1),by omega,rfl,aT,h8,M4,acc,cu,A4,by omega,h4⟩
  |true=>
   dsimp only at h4 ⊢;rw[if_pos rfl]at h4 ⊢;refine⟨β.add D,h8,M4,_,A4.zr,h4,fun yd M5 yv H5 x5 r5 h5=>?_⟩
   have A5:=A4.step x5 (A4.zr.step x5);refine hC yv mr H5 acc A5.at' (by omega) ⟨ds.length - (i+1),by omega,rfl,aT,h8,M5,acc++[yv],cu++[yd],A5.snoc r5,by simp;omega,?_⟩
   have e2:(fun ys M2=>Q' (cu++[yd]++ys) M2)=fun ys M2=>Q' (cu++yd::ys) M2 :=by
    funext ys M2
    rw[On];rfl
   rw[e2];exact h5
 ·have e:i=ds.length :=by omega
  subst e;rw[XO]at h;refine .inl ⟨q.2 (c8 _),bW,M,acc,cu,A,by omega,?_⟩
  have h':Q' (cu++[]) M:=h;rwa [Is]at h'
theorem sr {D:ac}{M1:Mh}{H1:Hp}{ds:List Dv}{Q':List Dv->Mh->Prop}{bW:az}{τ:St}(zr:Zr Γ β M1 bW τ H1) (hD:H1 D=none) (h:gJ g tt te ds bW M1 Q'):oh Γ β D M1 H1 g tt te ds Q' 0 ds.length τ (upd H1 D (.lst [])):=
 ⟨rfl,xb _,bW,M1,[],[],.start zr hD,c8 _,h⟩
theorem wZ {σ:St}{H:Hp}{Q:VK}(h:lE Γ (zComp tn idx zi g tt te) σ H Q):oY tn idx (lI Γ zi) (lG Γ g) (lT Γ tt) (lE Γ te) σ H Q :=by
 obtain⟨β,ρ,M,Q',zr,h,q⟩:=h;refine⟨β,ρ,M,_,zr,h,fun ds M1 H1 J x1 it ⟨hlen,h1⟩ D hD=>?_⟩
 have lh:=zr.step x1;refine⟨oh Γ β D M1 H1 g tt te ds fun ys M2=>Q' (.lst ys) M2,⟨_,sr (lh.block tn idx) hD h1⟩,fun i m τ H' w=>?_⟩
 rcases uQ it hlen w (C:=fun y aB H4=>∃ys m',H4 D=some (.lst ys)/\ys.length<sizeLine/\m'<m/\oh Γ β D M1 H1 g tt te ds (fun ys M2=>Q' (.lst ys) M2) (i+1) m' aB (upd H4 D (.lst (ys++[y])))) (fun y aB H4 acc e hl ⟨m',hm,w'⟩=>⟨acc,m',e,hl,hm,w'⟩) with ⟨hs,bW,M',acc,cu,A,_,hq⟩|z
 ·exact .inl ⟨hs,q _ _ _ _ (x1.trans A.ex) (sh (A.fz lh.mz) A.at' A.items) hq⟩
 ·exact .inr z
theorem tH {σ:St}{H:Hp}{Q:VK}(h:lE Γ (zCompP tn idx zi g tt te) σ H Q):oY tn idx (lI Γ zi) (lG Γ g) (lT Γ tt) (lE Γ te) σ H Q :=by
 obtain⟨β,ρ,M,Q',zr,h,q⟩:=h;refine⟨β,ρ,M,_,zr,h,fun ds M1 H1 J x1 it ⟨hlen,h1⟩ D hD=>?_⟩
 have lh:=zr.step x1;refine⟨oh Γ β D M1 H1 g tt te ds fun ys M2=>∀a,M2 a=none->Q' (.ptr a) (aw M2 a (.lst ys)),⟨_,sr (lh.block tn idx) hD h1⟩,fun i m τ H' w=>?_⟩
 rcases uQ it hlen w (C:=fun y aB H4=>∃ys m',H4 D=some (.lst ys)/\ys.length<sizeLine/\m'<m/\oh Γ β D M1 H1 g tt te ds (fun ys M2=>∀a,M2 a=none->Q' (.ptr a) (aw M2 a (.lst ys))) (i+1) m' aB (upd H4 D (.lst (ys++[y])))) (fun y aB H4 acc e hl ⟨m',hm,w'⟩=>⟨acc,m',e,hl,hm,w'⟩) with ⟨hs,bW,M',acc,cu,A,_,hq⟩|z
 ·refine .inl ⟨hs,?_⟩;have VJ:D ∉ β.hid:=(A.fz lh.mz).2;have hM:M' D=none:=A.m;have mz:Mz β (aw M' D (.lst cu)) H':=by
   have rz:∀{v:V} {d:Dv},Rz (β.add D) M' H' v d->Rz β (aw M' D (.lst cu)) H' v d:=fun r=>by
    have ne:∀a,Fz (β.add D) M' a->Fz β (aw M' D (.lst cu)) a:=fun a f=>⟨by rw[aj (fun z=>f.2 (by rw[z];exact ma))];exact f.1,fun z=>f.2 (i0 _ z)⟩
    induction r with
    |int i=>exact .int i
    |bl b=>exact .bl b
    |au=>exact .au
    |str z=>exact .str z
    |tup m e hl h ih=>exact .tup (ne _ m) e hl ih
    |lst m e hl h ih=>exact .lst (ne _ m) e hl ih
    |dk m e hk hl h ih=>exact .dk (ne _ m) e hk hl ih
    |dt m e hk hl h ih=>exact .dt (ne _ m) e hk hl ih
    |bS m e m2 e2 hl h ih=>exact .bS (ne _ m) e (ne _ m2) e2 hl ih
    |set m e=>exact .set (ne _ m) e
    |ptr m=>exact .ptr (by unfold aw;split;rfl;exact m)
    |exc m e=>exact .exc (ne _ m) e
    |bB m e=>exact .bB (ne _ m) e
    |cJ m e=>exact .cJ (ne _ m) e
    |cK e=>exact .cK e
    |raw v=>exact .raw v
   refine⟨fun a o e=>?_,A.zr.mz.tabs,fun a ha=>A.zr.mz.hids a (i0 _ ha),fun a o e z=>?_,A.zr.mz.lams⟩
   by_cases ha:a=D
   ·subst ha;rw[updM_same]at e;cases e;exact⟨acc,A.at',A.rs.len,fun i v d a b=>rz (A.rs.at' i v d a b)⟩
   ·rw[aj ha]at e;have z:=A.zr.mz.obj a o e;cases o with
    |lst ds=>obtain⟨vs,z,l,r⟩:=z;exact⟨vs,z,l,fun i v d a b=>rz (r i v d a b)⟩
    |dk ks ds=>obtain⟨vs,z,hk,l,r⟩:=z;exact⟨vs,z,hk,l,fun i v d a b=>rz (r i v d a b)⟩
    |dt ks ds=>obtain⟨vs,z,hk,l,r⟩:=z;exact⟨vs,z,hk,l,fun i v d a b=>rz (r i v d a b)⟩
    |dA=>exact z
   ·by_cases ha:a=D
    ·subst ha;exact VJ z
    ·rw[aj ha]at e;exact A.zr.mz.apart a o e (i0 _ z)
  have ey:Ey M1 H1 (aw M' D (.lst cu)) H':=⟨A.ey.keep,fun a h=>by unfold aw;split;rfl;exact A.ey.dom a h,fun a o m e=>by rw[aj (a7 e A.h1)];exact A.ey.new a o m e⟩
  exact q _ _ _ _ (x1.trans ⟨ey,mz⟩) (.ptr (by rw[updM_same];rfl)) (hq D hM)
 ·exact .inr z
theorem N5 {P:ac}{zi:fc}{R:It->Hp->Prop}{σ:St}{H:Hp}{ρ:az}{M:Mh}{R':List Dv->Mh->Prop}(hP:P∈Γ.tb) (zr:Zr Γ β M ρ σ H) (h:zi ρ M R') (q:∀ds M' H' J,Ex β M H M' H'->Dg β J ds M' H'->R' ds M'->R J H'):Hz P (lI Γ zi) R σ H :=by
 refine⟨β,ρ,M,_,zr,h,fun ds M1 H1 J x1 it h1=>?_⟩
 have Hy:P∈β.tb :=by rw[zr.et];exact hP
 refine⟨x1.mz.tabs P Hy,fun ps t=>?_⟩
 have x2:=Ex.grow x1.mz Hy t;refine q ds M1 _ J (x1.trans x2) (fun da M' H' bx ey mz=>it da M' H' ⟨bx.P,bx.w,bx.K,bx.tb,bx.old,fun a ha=>?_⟩ (x2.toEy.trans ey) mz) h1
 rcases bx.new a ha with z|z
 ·exact .inl z
 ·right;cases e:H1 a with
  |none=>rfl
  |some o=>obtain⟨u,hu⟩:=F2 (p:=P) (o:=.c7 ps) ⟨o,e⟩;rw[z]at hu;cases hu
def lj (g:cE) (tt:cL) (te:aK):List Dv->az->Mh->(Bool->Mh->Prop)->Prop
 | [],_,M,Q=>Q true M
 |d::ds,τ,M,Q=>g d τ M fun aB M2=>tt aB M2 fun b M3=>if b=true then te aB M3 (zBool fun c M4=>if c=false then Q false M4 else lj g tt te ds aB M4 Q) else lj g tt te ds aB M3 Q
def zAll (tn:Nat) (idx:List Nat) (zi:fc) (g:cE) (tt:cL) (te:aK):aK:=fun ρ M Q=>zi ρ M fun ds M1=>lj g tt te ds (zBlock tn idx ρ) M1 fun b M2=>Q (.bl b) M2
theorem Ri {P:ac}(hP:P∈Γ.tb) {σ:St}{H:Hp}{Q:VK}(h:lE Γ (zAll tn idx zi g tt te) σ H Q):MY P tn idx (lI Γ zi) (lG Γ g) (lT Γ tt) (lE Γ te) σ H Q :=by
 obtain⟨β,ρ,M,Q',zr,h,q⟩:=h;refine N5 hP zr h fun ds M1 H1 J x1 it h1=>?_
 have lh:=zr.step x1;refine⟨fun i m τ H'=>m=ds.length - i/\i<=ds.length/\∃bW M',Ex β M1 H1 M' H'/\Zr Γ β M' bW τ H'/\lj g tt te (ds.drop i) bW M' fun b M2=>Q' (.bl b) M2,⟨_,rfl,xb _,_,M1,.refl x1.mz,lh.block tn idx,h1⟩,?_⟩
 rintro i m τ H' ⟨rfl,hi,bW,M',x',gy,h'⟩;have qq:=it β M' H' .refl x'.toEy x'.mz i;by_cases aT:i<ds.length
 ·refine .inr ⟨(qq.1 aT).1,fun x la y=>?_⟩
  obtain⟨x2,d,hd,rd⟩:=(qq.1 aT).2 x la y;have e:ds.drop i=d::ds.drop (i+1) :=by
   rw[Ix aT];rw[ap aT]at hd;cases hd;rfl
  rw[e]at h';refine⟨β,d,bW,M',_,gy.step x2,rd,h',fun h8 M3 mr H3 x3 z3 h3=>⟨β,h8,M3,_,z3,h3,fun b M4 H4 x4 h4=>?_⟩⟩
  have qa:=x'.trans (x2.trans (x3.trans x4));cases b with
  |false=>
   dsimp only at h4 ⊢;rw[if_neg im]at h4 ⊢;exact⟨ds.length - (i+1),by omega,rfl,aT,h8,M4,qa,z3.step x4,h4⟩
  |true=>
   dsimp only at h4 ⊢;rw[if_pos rfl]at h4 ⊢;refine⟨β,h8,M4,_,z3.step x4,h4,fun yd M5 yv H5 x5 r5 h5=>?_⟩
   obtain⟨k,rfl,h6⟩:=iG h5;refine⟨k,dn r5,?_⟩;cases k with
   |false=>
    rw[if_pos rfl]at h6 ⊢;exact q _ _ _ _ (x1.trans (qa.trans x5)) (.bl _) h6
   |true=>
    rw[if_neg (by decide)]at h6 ⊢
    exact⟨ds.length - (i+1),by omega,rfl,aT,h8,M5,qa.trans x5,(z3.step x4).step x5,h6⟩
 ·have e:i=ds.length :=by omega
  subst e;rw[XO]at h';exact .inl ⟨qq.2 (c8 _),q _ _ _ _ (x1.trans x') (.bl _) h'⟩
end
section
variable {X:Cx}{Γ:Gz}{β:Bz}{K:bi}
def zII (f:Int->Int->Dv):dI:=fun d e M Q=>match d,e with | .int i,.int j=>Q (f i j) M|_,_=>False
def zIC (C:Int->Int->Prop) (f:Int->Int->Dv):dI:=fun d e M Q=>match d,e with | .int i,.int j=>C i j/\Q (f i j) M|_,_=>False
theorem oi {g:Int->Int->V}{f:Int->Int->Dv}(h:∀β M H i j,Rz β M H (g i j) (f i j)):p0 Γ (um g) (zII f):=fun β x y d e M H Q Q' _ _ _ m rx ry z q=>by
 unfold zII at z;split at z
 ·exact⟨_,_,aL rx,aL ry,q _ _ _ _ (.refl m) (h ..) z⟩
 ·exact z.elim
theorem mw {C:Int->Int->Prop}{g:Int->Int->V}{f:Int->Int->Dv}(h:∀β M H i j,Rz β M H (g i j) (f i j)):p0 Γ (rI C g) (zIC C f):=fun β x y d e M H Q Q' _ _ _ m rx ry z q=>by
 unfold zIC at z;split at z
 ·exact⟨_,_,aL rx,aL ry,z.1,q _ _ _ _ (.refl m) (h ..) z.2⟩
 ·exact z.elim
theorem fu:dR Γ X (binaryOp .Add) (zII fun i j=>.int (i+j)):=⟨_,Mi,oi fun _ _ _ _ _=>.int _⟩
theorem vK:dR Γ X (binaryOp .Sub) (zII fun i j=>.int (i - j)):=⟨_,Mj,oi fun _ _ _ _ _=>.int _⟩
theorem mW:dR Γ X (binaryOp .Mult) (zIC An fun i j=>.int (i * j)):=⟨_,Mk,mw fun _ _ _ _ _=>.int _⟩
theorem w5:dR Γ X (binaryOp .FloorDiv) (zIC Mf fun i j=>.int (i / j)):=⟨_,Jp,mw fun _ _ _ _ _=>.int _⟩
theorem ia:dR Γ X (binaryOp .Mod) (zIC (fun _ j=>0<j) fun i j=>.int (i % j)):=⟨_,Ml,mw fun _ _ _ _ _=>.int _⟩
theorem Rj:dR Γ X (binaryOp .Pow) (zIC Mg fun i j=>.int (i ^ j.toNat)):=⟨_,Mm,mw fun _ _ _ _ _=>.int _⟩
theorem w6:dR Γ X (compareOp .Lt) (zII fun i j=>.bl (decide (i<j))):=⟨_,QM,oi fun _ _ _ _ _=>.bl _⟩
theorem A1:dR Γ X (compareOp .LtE) (zII fun i j=>.bl (decide (i<=j))):=⟨_,QN,oi fun _ _ _ _ _=>.bl _⟩
theorem w9:dR Γ X (compareOp .Gt) (zII fun i j=>.bl (decide (j<i))):=⟨_,QO,oi fun _ _ _ _ _=>.bl _⟩
def scalZ (d e:Dv):Option Bool:=match d with
 | .int i=>(match e with | .int j=>some (decide (i=j)) | .au=>some false | .str _=>some false|_=>none)
 | .bl i=>(match e with | .bl j=>some (decide (i=j)) | .au=>some false | .str _=>some false|_=>none)
 | .str i=>(match e with | .str j=>some (decide (i=j)) | .au=>some false | .int _=>some false | .bl _=>some false|_=>none)
 | .au=>(match e with | .au=>some true | .int _=>some false | .bl _=>some false | .str _=>some false|_=>none)
 |_=>none
def zEq:dI:=fun d e M Q=>match scalZ d e with|some b=>Q (.bl b) M|none=>False
def zNe:dI:=fun d e M Q=>match scalZ d e with|some b=>Q (.bl (!b)) M|none=>False
theorem xa {M:Mh}{H:Hp}{x y:V}{d e:Dv}{b:Bool}(rx:Rz β M H x d) (ry:Rz β M H y e) (h:scalZ d e=some b):Ff x y=true/\decide (x=y)=b :=by
 unfold scalZ at h;split at h
 ·rw[aL rx];split at h<;>cases h
  ·rw[aL ry];exact⟨rfl,by simp⟩
  ·rw[ja ry];exact⟨rfl,by simp⟩
  ·rw[dB ry];exact⟨rfl,by simp⟩
 ·rw[dn rx];split at h<;>cases h
  ·rw[dn ry];exact⟨rfl,by simp⟩
  ·rw[ja ry];exact⟨rfl,by simp⟩
  ·rw[dB ry];exact⟨rfl,by simp⟩
 ·rw[dB rx];split at h<;>cases h
  ·rw[dB ry];exact⟨rfl,by simp⟩
  ·rw[ja ry];exact⟨rfl,by simp⟩
  ·rw[aL ry];exact⟨rfl,by simp⟩
  ·rw[dn ry];exact⟨rfl,by simp⟩
 ·rw[ja rx];split at h<;>cases h
  ·rw[ja ry];exact⟨rfl,by simp⟩
  ·rw[aL ry];exact⟨rfl,by simp⟩
  ·rw[dn ry];exact⟨rfl,by simp⟩
  ·rw[dB ry];exact⟨rfl,by simp⟩
 ·cases h
theorem qz:dR Γ X (compareOp .Eq) zEq:=⟨_,QJ,fun β x y d e M H Q Q' _ _ _ m rx ry z q=>by
 unfold zEq at z;split at z
 ·rename_i b hb;obtain⟨h1,h2⟩:=xa rx ry hb;exact⟨h1,by rw[h2];exact q _ _ _ _ (.refl m) (.bl _) z⟩
 ·exact z.elim⟩
theorem N6:dR Γ X (compareOp .NotEq) zNe:=⟨_,QK,fun β x y d e M H Q Q' _ _ _ m rx ry z q=>by
 unfold zNe at z;split at z
 ·rename_i b hb;obtain⟨h1,h2⟩:=xa rx ry hb;exact⟨h1,by rw[h2];exact q _ _ _ _ (.refl m) (.bl _) z⟩
 ·exact z.elim⟩
def isNonD:Dv->Option Bool
 | .au=>some true
 | .raw _=>none
 |_=>some false
def zIsN (neg:Bool):dI:=fun d e M Q=>match e,isNonD d with | .au,some b=>Q (.bl (if neg then !b else b)) M|_,_=>False
def zSS (C:bn->bn->Prop) (f:bn->bn->Dv):dI:=fun d e M Q=>match d,e with | .str i,.str j=>C i j/\Q (f i j) M|_,_=>False
theorem Dp:dR Γ X (binaryOp .Add) (zSS (fun i j=>i.length+j.length<=sizeLine) fun i j=>.str (i++j)):=⟨_,Aq,fun β x y d e M H Q Q' _ _ _ m rx ry z q=>by
 unfold zSS at z;split at z
 ·exact⟨_,_,dB rx,dB ry,z.1,q _ _ _ _ (.refl m) (.str _) z.2⟩
 ·exact z.elim⟩
mutual
def bY:Dv->Option Dt
 | .int i=>some (.int i)
 | .bl b=>some (.bl b)
 | .au=>some .au
 | .str z=>some (.str z)
 | .tup ds=>(lq ds).map .tup
 | .lst ds=>(lq ds).map .lst
 |_=>none
def lq:List Dv->Option (List Dt)
 | []=>some []
 |d::ds=>match bY d,lq ds with|some a,some as=>some (a::as)|_,_=>none
end
theorem mX:∀{ds:List Dv}{ts:List Dt},lq ds=some ts->ds.length=ts.length/\∀(i:Nat) (d:Dv) (t:Dt),ds[i]?=some d->ts[i]?=some t->bY d=some t
 | [],ts,h=>by simp only[lq,Lo]at h;subst h;exact⟨rfl,fun i d t a=>by simp at a⟩
 |d::ds,ts,h=>by
          simp only[lq]at h;split at h
          ·rename_i a as h1 h2;cases h;obtain⟨hl,q⟩:=mX h2;refine⟨by simp[hl],fun i e t x y=>?_⟩
           cases i with
           |zero=>simp at x y;subst x y;exact h1
           |succ i=>rw[IT]at x y;exact q i e t x y
          ·cases h
theorem Dq {M:Mh}{H:Hp}{v:V}{d:Dv}(h:Rz β M H v d):∀{t:Dt},bY d=some t->fH H v t :=by
 induction h with
 |int i=>intro t e;simp only[bY,Lo]at e;subst e;exact .int i
 |bl b=>intro t e;simp only[bY,Lo]at e;subst e;exact .bl b
 |au=>intro t e;simp only[bY,Lo]at e;subst e;exact .au
 |str z=>intro t e;simp only[bY,Lo]at e;subst e;exact .str z
 |tup m e hl h ih=>
  intro t q;simp only[bY,lc]at q;obtain⟨ts,q,rfl⟩:=q;obtain⟨l2,at2⟩:=mX q;refine .tup e (hl.trans l2) fun i x d hx hd=>?_
  have hi:=(bv.mp hd).1;have:=ap (l:=_) (i:=i) (show i<_ from l2▸hi);exact ih i x _ hx this (at2 i _ _ this hd)
 |lst m e hl h ih=>
  intro t q;simp only[bY,lc]at q;obtain⟨ts,q,rfl⟩:=q;obtain⟨l2,at2⟩:=mX q;refine .lst e (hl.trans l2) fun i x d hx hd=>?_
  have hi:=(bv.mp hd).1;have:=ap (l:=_) (i:=i) (show i<_ from l2▸hi);exact ih i x _ hx this (at2 i _ _ this hd)
 |set m e=>intro t q;simp[bY]at q
 |ptr m=>intro t q;simp[bY]at q
 |exc m e=>intro t q;simp[bY]at q
 |bB m e=>intro t q;simp[bY]at q
 |cJ m e=>intro t q;simp[bY]at q
 |cK e=>intro t q;simp[bY]at q
 |dk m e hk hl h ih=>intro t q;simp[bY]at q
 |dt m e hk hl h ih=>intro t q;simp[bY]at q
 |bS m e m2 e2 hl h ih=>intro t q;simp[bY]at q
 |raw v=>intro t q;simp[bY]at q
def now (M:Mh):Dv->Dv
 | .ptr a=>match M a with|some (.lst ds)=>.lst ds|_=>.ptr a
 |d=>d
theorem zK {M:Mh}{H:Hp}{v:V}{d:Dv}(m:Mz β M H) (h:Rz β M H v d) {t:Dt}(e:bY (now M d)=some t):fH H v t :=by
 cases d with
 |ptr a=>
  simp only[now]at e;obtain⟨rfl,hs⟩:=cj h;cases q:M a with
  |none=>rw[q]at hs;cases hs
  |some o=>
   rw[q]at e;cases o with
   |dA=>simp[bY]at e
   |dk ks es=>simp[bY]at e
   |dt ks es=>simp[bY]at e
   |lst ds=>
    obtain⟨vs,hv,rs⟩:=m.obj a _ q;simp only[bY,lc]at e;obtain⟨ts,q,rfl⟩:=e;obtain⟨l2,at2⟩:=mX q;refine .lst hv (rs.len.trans l2) fun i x d hx hd=>?_
    have hi:=(bv.mp hd).1;have:=ap (l:=_) (i:=i) (show i<_ from l2▸hi);exact Dq (rs.at' i x _ hx this) (at2 i _ _ this hd)
 |_=>exact Dq h e
def qA (neg:Bool):dI:=fun d e M Q=>match bY (now M d),bY (now M e) with|some a,some b=>k4 a<=60/\Q (.bl (if neg then !fI a b else fI a b)) M|_,_=>False
theorem J6 {neg:Bool}:p0 Γ (Nu neg) (qA neg):=fun β x y d e M H Q Q' _ _ _ m rx ry z q=>by
 unfold qA at z;split at z
 ·rename_i a b h1 h2;exact⟨a,b,zK m rx h1,zK m ry h2,z.1,q _ _ _ _ (.refl m) (.bl _) z.2⟩
 ·exact z.elim
theorem Ie (hu:X.A.units+64<cLine):dR Γ X (compareOp .Eq) (qA false):=⟨_,Nv hu,J6⟩
def itemsM (M:Mh):Dv->Option (List Dv)
 | .tup ds=>some ds
 | .lst ds=>some ds
 | .ptr a=>match M a with|some (.lst ds)=>some ds|_=>none
 |_=>none
theorem iK {M:Mh}{H:Hp}{x:V}{d:Dv}{ds:List Dv}(m:Mz β M H) (r:Rz β M H x d) (h:itemsM M d=some ds):∃a vs,x=.ref a/\(H a=some (.lst vs)\/H a=some (.tup vs))/\aG β M H vs ds :=by
 cases d with
 |tup es=>cases h;obtain⟨a,vs,e,_,h,rs⟩:=bN r;exact⟨a,vs,e,.inr h,rs⟩
 |lst es=>cases h;obtain⟨a,vs,e,_,h,rs⟩:=cg r;exact⟨a,vs,e,.inl h,rs⟩
 |ptr a=>
  obtain⟨rfl,hs⟩:=cj r;simp only[itemsM]at h;split at h
  ·rename_i es q;cases h;obtain⟨vs,hv,rs⟩:=m.obj a _ q;exact⟨a,vs,rfl,.inl hv,rs⟩
  ·cases h
 |_=>cases h
theorem J7 {M:Mh}{H:Hp}{vs:List V}{ds:List Dv}(rs:aG β M H vs ds) {i:Int}{d:Dv}(h:cy ds i=some d):∃v,cy vs i=some v/\Rz β M H v d :=by
 unfold cy at h ⊢;rw[rs.len];cases e:f7 ds.length i with
 |none=>rw[e]at h;cases h
 |some j=>
  rw[e]at h;obtain⟨v,hv,r⟩:=rs.get (i:=j) (d:=d) h;exact⟨v,hv,r⟩
def N7 (Γ:Gz) (X:Cx) (z:dI):Prop:=∃r,nJ X r/\p0 Γ r z
def zIx:dI:=fun d e M Q=>match e with
 | .int i=>(match d with
  | .str z=>z.length<=sizeLine/\(match cy z.cps.toList i with|some c=>Q (.str ⟨#[c]⟩) M|none=>False)
  |_=>match itemsM M d with|some ds=>(match cy ds i with|some r=>Q r M|none=>False)|none=>False)
 |_=>False
theorem bt (hK:X.K=K):N7 Γ X zIx:=⟨_,zm hK,fun β x y d e M H Q Q' _ _ _ m rx ry z q=>by
 unfold zIx at z;split at z
 ·rename_i i;have hy:=aL ry;split at z
  ·rename_i s;obtain⟨hz,z⟩:=z;split at z
   ·rename_i c hc;exact .inr (.inr ⟨s,i,c,dB rx,hy,hz,hc,q _ _ _ _ (.refl m) (.str _) z⟩)
   ·exact z.elim
  ·split at z
   ·rename_i ds oj;obtain⟨a,vs,rfl,ha,rs⟩:=iK m rx oj;split at z
    ·rename_i r hr;obtain⟨v,hv,rv⟩:=J7 rs hr;have z':=q _ _ _ _ (.refl m) rv z;rcases ha with ha|ha
     ·exact .inl ⟨a,vs,i,v,rfl,hy,bo.of ha,hv,z'⟩
     ·exact .inr (.inl ⟨a,vs,i,v,rfl,hy,cw.of ha,hv,z'⟩)
    ·exact z.elim
   ·exact z.elim
 ·exact z.elim⟩
theorem aQ {a b:db}{pa pb:aK}{z:dI}{pos:wE}(hr:N7 Γ X z) (ha:QE Γ X a pa) (hb:QE Γ X b pb) (hs:y6 b):QE Γ X (.Subscript a b pos) (zOp z pa pb) :=by
 obtain⟨r,h1,h2⟩:=hr;exact(QV h1 ha hb hs).imp fun σ H Q h=>A0 h2 h
def cutD (xs:List Dv) (lo hi:Option Int):List Dv:=(xs.drop (HT.fF xs.length 0 lo)).take (HT.fF xs.length xs.length hi - HT.fF xs.length 0 lo)
abbrev Dr:=az->Mh->(Option Int->Mh->Prop)->Prop
def lO (Γ:Gz) (p:Dr):TO:=fun σ H Q=>∃(β:Bz) (ρ:az) (M:Mh) (Q':Option Int->Mh->Prop),Zr Γ β M ρ σ H/\p ρ M Q'/\∀o M' H',Ex β M H M' H'->Q' o M'->Q o H'
def zoNone:Dr:=fun _ M Q=>Q none M
def zoSome (p:aK):Dr:=fun ρ M Q=>p ρ M fun d M1=>match d with | .int i=>Q (some i) M1|_=>False
theorem PO.imp {e:Option db}{t t':TO}(h:PO X e t) (i:∀σ H Q,t' σ H Q->t σ H Q):PO X e t':=fun pins s σ H Q I q=>h pins s σ H Q I (i _ _ _ q)
theorem pj:PO X none (lO Γ zoNone):=PO.imp Jw fun σ H Q ⟨β,ρ,M,Q',zr,h,q⟩=>q _ _ _ (.refl zr.mz) h
theorem pz {e:db}{p:aK}(h:QE Γ X e p):PO X (some e) (lO Γ (zoSome p)):=PO.imp (Jx h) fun σ H Q ⟨β,ρ,M,Q',zr,h,q⟩=>⟨β,ρ,M,_,zr,h,fun d M1 v H1 x1 r1 h1=>by
 revert h1
 split
 ·intro h1;exact⟨_,aL r1,q _ _ _ x1 h1⟩
 ·exact fun z=>z.elim⟩
abbrev Du:=Dv->Option Int->Option Int->Mh->ZK->Prop
def SK (Γ:Gz) (X:Cx) (z:Du):Prop:=∃r,Hu X r/\∀(β:Bz) x d lo hi M H Q Q',β.P=Γ.P->β.w=Γ.w->β.K=Γ.K->Mz β M H->Rz β M H x d->z d lo hi M Q'->(∀d' M' v H',Ex β M H M' H'->Rz β M' H' v d'->Q' d' M'->Q v H')->r x lo hi H Q
def zSl (z:Du) (p:aK) (l h:Dr):aK:=fun ρ M Q=>p ρ M fun d M1=>l ρ M1 fun lo M2=>h ρ M2 fun hi M3=>z d lo hi M3 Q
theorem mY {z:Du}{e:db}{p:aK}{lo hi:Option db}{l h:Dr}{p2 pos:wE}(hr:SK Γ X z) (he:QE Γ X e p) (hl:PO X lo (lO Γ l)) (hu:PO X hi (lO Γ h)):QE Γ X (.Subscript e (.Slice lo hi none p2) pos) (zSl z p l h) :=by
 obtain⟨r,h1,h2⟩:=hr;exact(Fp h1 he hl hu).imp fun σ H Q ⟨β,ρ,M,Q',zr,h,q⟩=>⟨β,ρ,M,_,zr,h,fun d M1 v H1 x1 r1 h1=>⟨β,ρ,M1,_,zr.step x1,h1,fun o M2 H2 x2 h3=>⟨β,ρ,M2,_,(zr.step x1).step x2,h3,fun o2 M3 H3 x3 h4=>
  h2 β v d o o2 M3 H3 _ _ zr.eP zr.ew zr.eK x3.mz ((r1.ex x2).ex x3) h4 fun d' M' v' H' x4 r4 q4=>q _ _ _ _ (x1.trans (x2.trans (x3.trans x4))) r4 q4⟩⟩⟩
def zSlT:Du:=fun d lo hi M Q=>match d with | .tup ds=>Q (.tup (cutD ds lo hi)) M|_=>False
theorem J8 {M:Mh}{H:Hp}{vs:List V}{ds:List Dv}(rs:aG β M H vs ds) (lo hi:Option Int):aG β M H (qi vs lo hi) (cutD ds lo hi) :=by
 unfold qi cutD;rw[rs.len];exact(rs.drop _).take _
def zSlL:Du:=fun d lo hi M Q=>match d with | .tup _=>False|_=>match itemsM M d with|some ds=>Q (.lst (cutD ds lo hi)) M|none=>False
theorem vL (hK:X.K=K):SK Γ X zSlL:=⟨_,FA hK,fun β x d lo hi M H Q Q' _ _ _ m rx z q=>by
 unfold zSlL at z;split at z
 ·exact z.elim
 ·rename_i VL;split at z
  ·rename_i ds oj;obtain⟨a,vs,rfl,ha,rs⟩:=iK m rx oj;rcases ha with ha|ha
   ·refine⟨a,vs,rfl,bo.of ha,fun p hp=>?_⟩
    have x2:=Ex.lay m hp (.lst (qi vs lo hi));exact q _ _ _ _ x2 (sh (m.fz hp) aA ((J8 rs lo hi).ex x2)) z
   ·exfalso
    cases d with
    |tup es=>exact VL es rfl
    |lst es=>obtain⟨b,us,e,_,h,_⟩:=cg rx;cases e;rw[ha]at h;cases h
    |ptr b=>
     obtain⟨e,hs⟩:=cj rx;cases e;cases q2:M a with
     |none=>rw[q2]at hs;cases hs
     |some o=>have:=m.j9 ha rfl;rw[q2]at this;cases this
    |_=>cases oj
  ·exact z.elim⟩
def zCatT:dI:=fun d e M Q=>match d,e with | .tup xs,.tup ys=>xs.length+ys.length<=sizeLine/\Q (.tup (xs++ys)) M|_,_=>False
theorem N8 (hK:X.K=K):dR Γ X (binaryOp .Add) zCatT:=⟨_,JU hK,fun β x y d e M H Q Q' _ _ _ m rx ry z q=>by
 unfold zCatT at z;split at z
 ·obtain⟨a,vs,rfl,f,ha,rs⟩:=bN rx;obtain⟨b,us,rfl,f2,hb,bZ⟩:=bN ry;refine⟨a,b,vs,us,rfl,rfl,cw.of ha,cw.of hb,by rw[rs.len,bZ.len];exact z.1,fun e=>?_,fun _ e=>?_,fun _ _ p hp=>?_⟩
  ·subst e;have r3:=rs.append bZ;exact q _ _ _ _ (.refl m) (gv f2 hb r3) z.2
  ·subst e;have r3:=rs.append bZ;rw[Is]at r3;exact q _ _ _ _ (.refl m) (gv f ha r3) z.2
  ·have x2:=Ex.lay m hp (.tup (vs++us));exact q _ _ _ _ x2 (gv (m.fz hp) aA ((rs.append bZ).ex x2)) z.2
 ·exact z.elim⟩
section
variable {x:bn}{p pos:wE}{e:db}{es:List db}{za:eh}{id T:String}{z:sm}
theorem ax (hc:ft Γ X (.builtin id) z) (hg:Gl X x) (hm:X.mg x=none) (hv:bootBuiltins x=some (.builtin id)) (ha:QA Γ X (e::es) za) (hn:x ≠ "__name__" := by decide) (d8:(x==("__debug__" : bn))=false :=by decide)
  (he:starEach (e::es) X.env=(false,eval e X.env)::starEach es X.env :=by rfl) (dy:(backTo pos (starEach es X.env)).any (·.1)=false :=by rfl):QE Γ X (.Call (.Name x p) (e::es) [] pos) (zCB z za) :=by
 obtain⟨r,h1,h2⟩:=hc;exact(Fo h1 hg hm hv ha hn d8 he dy).imp fun σ H Q h=>NZ h2 h
theorem lr (hc:ft Γ X (.type T) z) (hg:Gl X x) (hm:X.mg x=none) (hv:bootBuiltins x=some (.type T)) (ha:QA Γ X (e::es) za) (hn:x ≠ "__name__" := by decide) (d8:(x==("__debug__" : bn))=false :=by decide)
  (he:starEach (e::es) X.env=(false,eval e X.env)::starEach es X.env :=by rfl) (dy:(backTo pos (starEach es X.env)).any (·.1)=false :=by rfl):QE Γ X (.Call (.Name x p) (e::es) [] pos) (zCB z za) :=by
 obtain⟨r,h1,h2⟩:=hc;exact(Ci h1 hg hm hv ha hn d8 he dy).imp fun σ H Q h=>NZ h2 h
end
def z1 (f:Dv->Mh->ZK->Prop):sm:=fun ds M Q=>match ds with | [d]=>f d M Q|_=>False
def zLenD (d:Dv) (M:Mh) (Q:ZK):Prop:=match d with
 | .str s=>s.length<=sizeLine/\Q (.int s.length) M
 | .bB ns=>Q (.int ns.length) M
 |_=>match itemsM M d with|some ds=>Q (.int ds.length) M|none=>False
theorem b8 (hK:X.K=K) (hG:K=Γ.K):ft Γ X (.builtin "len") (z1 zLenD):=⟨_,CI hK,fun β xs ds M H Q Q' _ _ eK m rs z q=>by
 rw[<- hG]at eK;unfold z1 at z;split at z
 ·rename_i d;obtain⟨x,rfl,r⟩:=dD rs;unfold zLenD at z;split at z
  ·rename_i s;have e:=dB r;subst e;exact⟨_,_,rfl,⟨z.1,rfl⟩,q _ _ _ _ (.refl m) (.int _) z.2⟩
  ·rename_i ns;obtain⟨a,rfl,h⟩:=uP r;rw[eK]at h;exact⟨_,ns.length,rfl,.inl ⟨_,h,by simp⟩,q _ _ _ _ (.refl m) (.int _) z⟩
  ·split at z
   ·rename_i ds oj;obtain⟨a,vs,rfl,ha,bZ⟩:=iK m r oj;have q':=q _ _ (.int ds.length) _ (.refl m) (.int _) z;rcases ha with ha|ha
    ·exact⟨_,ds.length,rfl,.inl ⟨vs,bo.of ha,bZ.len.symm⟩,q'⟩
    ·exact⟨_,ds.length,rfl,.inr ⟨vs,cw.of ha,bZ.len.symm⟩,q'⟩
   ·exact z.elim
 ·exact z.elim⟩
def z2I (f:Int->Int->Int):sm:=fun ds M Q=>match ds with | [.int i,.int j]=>Q (.int (f i j)) M|_=>False
theorem N9 (hc:X.calm=true):ft Γ X (.builtin "max") (z2I fun i j=>if j > i then j else i):=⟨_,B8 hc,fun β xs ds M H Q Q' _ _ _ m rs z q=>by
 unfold z2I at z;split at z
 ·obtain⟨x,y,rfl,r,r'⟩:=iJ rs;rw[aL r,aL r'];exact⟨_,_,rfl,q _ _ _ _ (.refl m) (.int _) z⟩
 ·exact z.elim⟩
theorem xc (hc:X.calm=true):ft Γ X (.builtin "min") (z2I fun i j=>if j<i then j else i):=⟨_,B9 hc,fun β xs ds M H Q Q' _ _ _ m rs z q=>by
 unfold z2I at z;split at z
 ·obtain⟨x,y,rfl,r,r'⟩:=iJ rs;rw[aL r,aL r'];exact⟨_,_,rfl,q _ _ _ _ (.refl m) (.int _) z⟩
 ·exact z.elim⟩
def zAbs (d:Dv) (M:Mh) (Q:ZK):Prop:=match d with | .int i=>Q (.int (if i<0 then -i else i)) M|_=>False
theorem A6:ft Γ X (.builtin "abs") (z1 zAbs):=⟨_,Fl,fun β xs ds M H Q Q' _ _ _ m rs z q=>by
 unfold z1 at z;split at z
 ·obtain⟨x,rfl,r⟩:=dD rs;unfold zAbs at z;split at z
  ·rw[aL r];exact⟨_,rfl,q _ _ _ _ (.refl m) (.int _) z⟩
  ·exact z.elim
 ·exact z.elim⟩
def zTuple (d:Dv) (M:Mh) (Q:ZK):Prop:=match itemsM M d with|some ds=>Q (.tup ds) M|none=>False
theorem pA (hK:X.K=K):ft Γ X (.type "tuple") (z1 zTuple):=⟨_,tu hK,fun β xs ds M H Q Q' _ _ _ m rs z q=>by
 unfold z1 at z;split at z
 ·rename_i d;obtain⟨x,rfl,r⟩:=dD rs;unfold zTuple at z;split at z
  ·rename_i ds oj;obtain⟨a,vs,rfl,ha,bZ⟩:=iK m r oj;refine⟨a,vs,rfl,?_⟩;rcases ha with ha|ha
   ·refine .inl ⟨bo.of ha,fun l hl=>?_⟩
    have x2:=Ex.lay m hl (.tup vs);exact q _ _ _ _ x2 (gv (m.fz hl) aA (bZ.ex x2)) z
   ·refine .inr ⟨cw.of ha,?_⟩;have f:Fz β M a :=by
     cases d with
     |tup es=>obtain⟨b,us,e,f,_⟩:=bN r;cases e;exact f
     |lst es=>obtain⟨b,us,e,f,_⟩:=cg r;cases e;exact f
     |ptr b=>
      obtain⟨e,hs⟩:=cj r;cases e;cases q2:M a with
      |none=>rw[q2]at hs;cases hs
      |some o=>have:=m.j9 ha rfl;rw[q2]at this;cases this
     |_=>cases oj
    exact q _ _ _ _ (.refl m) (gv f ha bZ) z
  ·exact z.elim
 ·exact z.elim⟩
def cW:List Dv->Option (List Int)
 | []=>some []
 | .int i::ds=>(cW ds).map (i::·)
 |_::_=>none
theorem kg:∀{ds:List Dv}{ns:List Int},cW ds=some ns->ds=ns.map Dv.int
 | [],ns,h=>by simp only[cW,Lo]at h;subst h;rfl
 |d::ds,ns,h=>by
          cases d with
          |int i=>
           simp only[cW,lc]at h;obtain⟨ms,h,rfl⟩:=h;rw[kg h];rfl
          |_=>simp[cW]at h
theorem de:∀ns:List Int,cW (ns.map Dv.int)=some ns
 | []=>rfl
 |n::ns=>by simp[cW,de ns]
theorem iL {M:Mh}{H:Hp}:∀{vs:List V}{ns:List Int},aG β M H vs (ns.map Dv.int)->vs=ns.map V.int
 | [],[],_=>rfl
 | [],_::_,r=>absurd r.len (by simp)
 |_::_,[],r=>absurd r.len (by simp)
 |v::vs,n::ns,r=>by
          rw[ss]at r;rw[ss,aL r.head,iL r.tail]
theorem qB {M:Mh}{H:Hp}:∀{ns:List Int},aG β M H (ns.map V.int) (ns.map Dv.int)
 | []=>.nil
 |n::ns=>.cons (.int _) qB
def intsM (M:Mh) (d:Dv):Option (List Int):=match d with | .set ns=>some ns|_=>(itemsM M d).bind cW
theorem uR {M:Mh}{H:Hp}{x:V}{d:Dv}{ns:List Int}(m:Mz β M H) (r:Rz β M H x d) (h:(itemsM M d).bind cW=some ns):∃a,x=.ref a/\(H a=some (.lst (ns.map V.int))\/H a=some (.tup (ns.map V.int))) :=by
 cases e:itemsM M d with
 |none=>rw[e]at h;cases h
 |some ds=>
  rw[e]at h;obtain⟨a,vs,rfl,ha,rs⟩:=iK m r e;have e2:=kg (ns:=ns) h;subst e2;have:=iL rs;subst this;exact⟨a,rfl,ha⟩
def isD (T:String) (M:Mh) (d:Dv):Option Bool:=match d with
 | .int _=>some (T == "int") | .bl _=>some (T == "int" || T == "bool") | .au=>some false | .str _=>some (T == "str") | .tup _=>some (T == "tuple") | .lst _=>some (T == "list") | .ptr a=>(match M a with|some (.lst _)=>some (T == "list")|some .dA=>some (T == "list")|some _=>some false|none=>none)|_=>none
def tI:List String:=["int","bool","str","tuple","list"]
def zIsInst:sm:=fun ds M Q=>match ds with | [d,.raw (.ty T)]=>T∈tI/\(match isD T M d with|some b=>Q (.bl b) M|none=>False)|_=>False
theorem Oa {K:bi}{M:Mh}{H:Hp}{x:V}{d:Dv}{T:String}{b:Bool}(m:Mz β M H) (hT:T∈tI) (r:Rz β M H x d) (h:isD T M d=some b):∃t,gH K H x t/\YZ K t (.type T)=some b :=by
 have qb:T = "int" \/ T = "bool" \/ T = "str" \/ T = "tuple" \/ T = "list" := by simpa[tI] using hT
 cases r with
 |int i=>cases h;exact⟨_,.int i,by rcases qb with rfl|rfl|rfl|rfl|rfl<;>rfl⟩
 |bl i=>cases h;exact⟨_,.bl i,by rcases qb with rfl|rfl|rfl|rfl|rfl<;>rfl⟩
 |au=>cases h;exact⟨_,.au,by rcases qb with rfl|rfl|rfl|rfl|rfl<;>rfl⟩
 |str i=>cases h;exact⟨_,.str i,by rcases qb with rfl|rfl|rfl|rfl|rfl<;>rfl⟩
 |tup f e hl q=>cases h;exact⟨_,.tup e,by rcases qb with rfl|rfl|rfl|rfl|rfl<;>rfl⟩
 |lst f e hl q=>cases h;exact⟨_,.lst e,by rcases qb with rfl|rfl|rfl|rfl|rfl<;>rfl⟩
 |ptr hs=>
  rename_i a;cases q2:M a with
  |none=>rw[q2]at hs;cases hs
  |some o=>
   simp only[isD,q2]at h;have q:=m.obj a o q2;cases o with
   |lst ds=>obtain⟨vs,e,_⟩:=q;cases h;exact⟨_,.lst e,by rcases qb with rfl|rfl|rfl|rfl|rfl<;>rfl⟩
   |dA=>obtain⟨_,_,e,_⟩:=q;cases h;exact⟨_,.lst e,by rcases qb with rfl|rfl|rfl|rfl|rfl<;>rfl⟩
   |dk ks ds=>obtain⟨vs,e,_⟩:=q;cases h;exact⟨_,.dK e,by rcases qb with rfl|rfl|rfl|rfl|rfl<;>rfl⟩
   |dt ks ds=>obtain⟨vs,e,_⟩:=q;cases h;exact⟨_,.dT e,by rcases qb with rfl|rfl|rfl|rfl|rfl<;>rfl⟩
 |set f e=>cases h
 |exc f e=>cases h
 |bB f e=>cases h
 |cJ f e=>cases h
 |cK e=>cases h
 |raw v=>cases h
 |dk f e _ _ _=>cases h
 |dt f e _ _ _=>cases h
 |bS _ _ _ _ _ _=>cases h
theorem gK (hK:X.K=K):ft Γ X (.builtin "isinstance") zIsInst:=⟨_,wz hK,fun β xs ds M H Q Q' _ _ _ m rs z q=>by
 unfold zIsInst at z;split at z
 ·obtain⟨x,y,rfl,r,r'⟩:=iJ rs;rw[k9 r'];obtain⟨hT,z⟩:=z;split at z
  ·rename_i b hb;obtain⟨t,ht,hk⟩:=Oa (K:=K) m hT r hb;exact⟨_,_,t,b,rfl,ht,hk,q _ _ _ _ (.refl m) (.bl _) z⟩
  ·exact z.elim
 ·exact z.elim⟩
abbrev uS:=Dv->List Dv->Mh->ZK->Prop
def Ig (Γ:Gz) (X:Cx) (T id:String) (K:bi) (z:uS):Prop:=∃r,Hv X id r/\∀(β:Bz) x xs d ds M H Q Q',β.P=Γ.P->β.w=Γ.w->β.K=Γ.K->Mz β M H->Rz β M H x d->aG β M H xs ds->z d ds M Q'->(∀d' M' v H',Ex β M H M' H'->Rz β M' H' v d'->Q' d' M'->Q v H')->r x xs H Q
def tyZ (T:String) (M:Mh):Dv->Prop
 | .ptr a=>match M a with|some (.lst _)=>T = "list" |some .dA=>T = "list" |some (.dk _ _)=>T = "dict" |some (.dt _ _)=>T = "dict" |none=>False
 | .lst _=>T = "list"
 | .tup _=>T = "tuple"
 | .str _=>T = "str"
 |_=>False
theorem Ob {M:Mh}{H:Hp}{x:V}{d:Dv}{T:String}(m:Mz β M H) (r:Rz β M H x d) (h:tyZ T M d):MJ K T x H :=by
 cases r with
 |str=>exact h
 |lst f e _ _=>exact .inl ⟨h,_,bo.of e⟩
 |tup f e _ _=>exact .inr (.inl ⟨h,.inr ⟨_,e⟩⟩)
 |ptr hs=>
  rename_i a;cases q2:M a with
  |none=>rw[q2]at hs;cases hs
  |some o=>
   simp only[tyZ,q2]at h;have q:=m.obj a o q2;cases o with
   |lst ds=>obtain⟨vs,e,_⟩:=q;exact .inl ⟨h,_,bo.of e⟩
   |dA=>obtain⟨_,_,e,_⟩:=q;exact .inl ⟨h,_,bo.of e⟩
   |dk ks ds=>obtain⟨vs,e,_⟩:=q;exact .inr (.inr (.inl ⟨h,.inl ⟨_,e⟩⟩))
   |dt ks ds=>obtain⟨vs,e,_⟩:=q;exact .inr (.inr (.inl ⟨h,.inr ⟨_,e⟩⟩))
 |_=>exact h.elim
def zBM (T:String) (z:uS) (po:aK) (pa:eh):aK:=fun ρ M Q=>po ρ M fun d M1=>tyZ T M1 d/\pa ρ M1 fun ds M2=>z d ds M2 Q
section
variable {o e:db}{es:List db}{po:aK}{pa:eh}{name:bn}{apos bD:wE}{T id:String}{z:uS}
theorem lu (h:X.K=K) (pat:PlainAttrs T) (slot:Slot T name id) (Cq:typeOf (.builtin id)=pure (.type "method_descriptor")) (hm:Ig Γ X T id K z) (ho:QE Γ X o po) (ha:QA Γ X (e::es) pa) (rG:attributeBase o name X.env (eval o X.env)=eval o X.env :=by rfl)
  (wa:((backTo bD (starEach (e::es) X.env)).all (fun x => !x.1) && (backToKw bD (keywordEach [] X.env)).all (fun x=>x.1.isSome)
   && decide ((e::es).length+([]:List Yf).length+(if ([]:List Yf).isEmpty then 0 else 1)<30))=true :=by rfl)
  (hline:(apos.endLine==bD.line)=true :=by rfl) (hs:starEach (e::es) X.env=(false,eval e X.env)::starEach es X.env :=by rfl) (nK:(backTo bD (starEach es X.env)).any (·.1)=false :=by rfl) :
  QE Γ X (.Call (.Attribute o name apos) (e::es) [] bD) (zBM T z po pa) :=by
 obtain⟨r,h1,h2⟩:=hm;exact(Nc h pat slot Cq h1 ho ha rG wa hline hs nK).imp fun σ H Q ⟨β,ρ,M,Q',zr,h,q⟩=>⟨β,ρ,M,_,zr,h,fun d M1 v H1 x1 r1 ⟨ht,h1⟩=>⟨Ob x1.mz r1 ht,β,ρ,M1,_,zr.step x1,h1,fun ds M2 vs H2 x2 r2 h3=>
  h2 β v vs d ds M2 H2 _ _ zr.eP zr.ew zr.eK x2.mz (r1.ex x2) r2 h3 fun d' M' v' H' x3 r3 q3=>q _ _ _ _ (x1.trans (x2.trans x3)) r3 q3⟩⟩
end
def zAppend:uS:=fun d ds M Q=>match d,ds with | .ptr a,[y]=>(match M a with|some (.lst xs)=>xs.length<sizeLine/\Q .au (aw M a (.lst (xs++[y])))|_=>False)|_,_=>False
theorem kh:Ig Γ X "list" "list.append" K zAppend:=⟨_,ux,fun β x xs d ds M H Q Q' _ _ _ m r rs z q=>by
 unfold zAppend at z;split at z
 ·rename_i a y;split at z
  ·rename_i es he;obtain⟨e,hs⟩:=cj r;obtain⟨v,e2,rv⟩:=dD rs;subst e e2;obtain⟨vs,hv,bZ⟩:=m.obj a _ he;refine⟨a,vs,v,rfl,rfl,hv,by rw[bZ.len];exact z.1,?_⟩
   exact q _ _ _ _ (Ex.own m (.inl hs) (bZ.snoc rv)) .au z.2
  ·exact z.elim
 ·exact z.elim⟩
def zPop:uS:=fun d ds M Q=>match d,ds with | .ptr a,[]=>(match M a with|some (.lst xs)=>(match xs[xs.length - 1]? with|some y=>Q y (aw M a (.lst xs.dropLast))|none=>False)|_=>False)|_,_=>False
def zPopAt:uS:=fun d ds M Q=>match d,ds with | .ptr a,[.int i]=>(match M a with|some (.lst xs) => -(2 ^ 63)<=i/\i<2 ^ 63/\(match seqIndex? i xs.length with|some k=>(match xs[k]? with|some y=>Q y (aw M a (.lst (xs.eraseIdx k)))|none=>False)|none=>False)|_=>False)|_,_=>False
theorem aG.eraseIdx {M:Mh}{H:Hp}{vs:List V}{ds:List Dv}(h:aG β M H vs ds) (k:Nat):aG β M H (vs.eraseIdx k) (ds.eraseIdx k) :=by
 rw[List.eraseIdx_eq_take_drop_succ,List.eraseIdx_eq_take_drop_succ];exact(h.take _).append (h.drop _)
theorem zL:Ig Γ X "list" "list.pop" K zPopAt:=⟨_,Fs,fun β x xs d ds M H Q Q' _ _ _ m r rs z q=>by
 unfold zPopAt at z;split at z
 ·rename_i a i;split at z
  ·rename_i es he;obtain⟨b1,b2,z⟩:=z;split at z
   ·rename_i k hk;split at z
    ·rename_i y hy;obtain⟨e,hs⟩:=cj r;obtain⟨v0,e2,VM⟩:=dD rs;subst e e2;rw[aL VM];obtain⟨vs,hv,bZ⟩:=m.obj a _ he;obtain⟨v,VN,rv⟩:=bZ.get hy;refine⟨a,vs,i,k,v,rfl,rfl,hv,b1,b2,by rw[bZ.len];exact hk,VN,?_⟩
     have x2:=Ex.own m (.inl hs) (bZ.eraseIdx k);exact q _ _ _ _ x2 (rv.ex x2) z
    ·exact z.elim
   ·exact z.elim
  ·exact z.elim
 ·exact z.elim⟩
def zSetI:Dv->Dv->Dv->Mh->(Mh->Prop)->Prop:=fun o i v M N=>match o,i with | .ptr a,.int k=>(match M a with|some (.lst xs)=>(match f7 xs.length k with|some j=>N (aw M a (.lst (xs.set j v)))|none=>False)|_=>False)|_,_=>False
def zgSub (po pi:aK):cE:=fun d ρ M N=>po ρ M fun o M1=>pi ρ M1 fun i M2=>zSetI o i d M2 fun M3=>N ρ M3
theorem ki {o i:db}{po pi:aK}{pos:wE}(ho:QE Γ X o po) (hi:QE Γ X i pi)
  (ha:∀v,assign (.Subscript o i pos) X.env v=(do
   let ov <- holding [v] (eval o X.env)
   let iv <- holding [v,ov] (eval i X.env)
   standAt pos
   holding [v,ov,iv] (setItem ov iv v)
   release [v,ov,iv] []) :=by intro _;rfl):QG Γ X (.Subscript o i pos) (zgSub po pi):=
 (LW ho hi set_list ha).imp fun v σ H N ⟨β,d,ρ,M,N',zr,r,h,q⟩=>⟨β,ρ,M,_,zr,h,fun od M1 ov H1 x1 r1 h1=>⟨β,ρ,M1,_,zr.step x1,h1,fun Xx M2 iv H2 x2 r2 h2=>by
  unfold zSetI at h2;split at h2
  ·rename_i a k;split at h2
   ·rename_i es he;split at h2
    ·rename_i j hj;obtain⟨e,hs⟩:=cj (r1.ex x2);subst e;rw[aL r2];obtain⟨vs,hv,bZ⟩:=x2.mz.obj a _ he;have x3:=Ex.own x2.mz (.inl hs) (bZ.set j ((r.ex x1).ex x2));exact⟨a,vs,k,j,rfl,rfl,hv,by rw[bZ.len];exact hj,q _ _ _ _ (x1.trans (x2.trans x3)) (((zr.step x1).step x2).step x3) h2⟩
    ·exact h2.elim
   ·exact h2.elim
  ·exact h2.elim⟩⟩
end
end L2
namespace L2
open PySem PySem.Spec PySem.W PyProof.Rows
abbrev ZX:=ac->Mh->Prop
abbrev cp:=List Dv->Mh->ZK->ZX->Prop
def aX (P:gc) (w:i4) (K:bi) (tb:cz) (S:cp):Sp:=fun vs H Q E=>∃(β:Bz) (ds:List Dv) (M:Mh) (Q':ZK) (E':ZX),β.P=P/\β.w=w/\β.K=K/\β.tb=tb/\Mz β M H/\aG β M H vs ds/\S ds M Q' E' /\
 (∀d M' v H',Ex β M H M' H'->Rz β M' H' v d->Q' d M'->Q v H')/\∀C M' H',Ex β M H M' H'->E' C M'->E (.ref C) none H'
theorem Rz.pB {β:Bz}{M0 M:Mh}{H:Hp}(dom:∀a,(M0 a).isSome=true->(M a).isSome=true) {v:V}{d:Dv}(h:Rz β M H v d):Pin M0 d->Rz β M0 H v d :=by
 have ne:∀a,Fz β M a->Fz β M0 a:=fun a m=>⟨(by
  cases e:M0 a with
  |none=>rfl
  |some o=>have:=dom a (by rw[e];rfl);rw[m.1]at this;cases this),m.2⟩
 induction h with
 |int i=>exact fun _=>.int i
 |bl b=>exact fun _=>.bl b
 |au=>exact fun _=>.au
 |str z=>exact fun _=>.str z
 |tup m e hl h ih=>
  intro p;cases p with
  |tup p=>exact .tup (ne _ m) e hl fun i v d a b=>ih i v d a b (p d (dL b))
 |lst m e hl h ih=>
  intro p;cases p with
  |lst p=>exact .lst (ne _ m) e hl fun i v d a b=>ih i v d a b (p d (dL b))
 |set m e=>exact fun _=>.set (ne _ m) e
 |ptr m=>intro p;cases p with|ptr p=>exact .ptr p
 |exc m e=>exact fun _=>.exc (ne _ m) e
 |bB m e=>exact fun _=>.bB (ne _ m) e
 |cJ m e=>exact fun _=>.cJ (ne _ m) e
 |cK e=>exact fun _=>.cK e
 |dk m e hk hl h ih=>
  intro p;cases p with
  |dk p=>exact .dk (ne _ m) e hk hl fun i v d a b=>ih i v d a b (p d (dL b))
 |dt m e hk hl h ih=>
  intro p;cases p with
  |dt p=>exact .dt (ne _ m) e hk hl fun i v d a b=>ih i v d a b (p d (dL b))
 |bS m e m2 e2 hl h ih=>
  intro p;cases p with
  |bS p=>exact .bS (ne _ m) e (ne _ m2) e2 hl fun i v d a b=>ih i v d a b (p d (dL b))
 |raw v=>exact fun _=>.raw v
inductive nB (M0 M:Mh):Dv->Dv->Prop where
 |pin {d:Dv} (h:Pin M0 d):nB M0 M d d
 |ptr {a:ac} {ds ds':List Dv} (h0:M0 a=none) (h:M a=some (.lst ds)) (hl:ds.length=ds'.length) (r:∀(i:Nat) (d d':Dv),ds[i]?=some d->ds'[i]?=some d'->nB M0 M d d'):nB M0 M (.ptr a) (.lst ds')
 |tup {ds ds':List Dv} (hl:ds.length=ds'.length) (r:∀(i:Nat) (d d':Dv),ds[i]?=some d->ds'[i]?=some d'->nB M0 M d d'):nB M0 M (.tup ds) (.tup ds')
 |dk {a:ac} {ks:List Key} {ds ds':List Dv} (h0:M0 a=none) (h:M a=some (.dk ks ds)) (hl:ds.length=ds'.length) (r:∀(i:Nat) (d d':Dv),ds[i]?=some d->ds'[i]?=some d'->nB M0 M d d'):nB M0 M (.ptr a) (.dk ks ds')
 |dt {a:ac} {ks:List (List Key)} {ds ds':List Dv} (h0:M0 a=none) (h:M a=some (.dt ks ds)) (hl:ds.length=ds'.length) (r:∀(i:Nat) (d d':Dv),ds[i]?=some d->ds'[i]?=some d'->nB M0 M d d'):nB M0 M (.ptr a) (.dt ks ds')
theorem nB.rz {β:Bz}{M0 M:Mh}{H:Hp}(mz:Mz β M H) (dom:∀a,(M0 a).isSome=true->(M a).isSome=true) {d d':Dv}(h:nB M0 M d d'):∀{v:V},Rz β M H v d->Rz β M0 H v d':=by
 induction h with
 |pin h=>exact fun r=>r.pB dom h
 |ptr h0 h hl r ih=>
  intro v r;obtain⟨rfl,_⟩:=cj r;obtain⟨vs,hv,rs⟩:=mz.obj _ _ h;refine .lst ⟨h0,mz.apart _ _ h⟩ hv (rs.len.trans hl) fun i v d a b=>?_
  obtain⟨d0,q,rd⟩:=rs.get' a;exact ih i d0 d q b rd
 |dk h0 h hl r ih=>
  intro v r;obtain⟨rfl,_⟩:=cj r;obtain⟨vs,hv,hk,rs⟩:=mz.obj _ _ h;refine .dk ⟨h0,mz.apart _ _ h⟩ (.inl hv) hk (rs.len.trans hl) fun i v d a b=>?_
  obtain⟨d0,q,rd⟩:=rs.get' a;exact ih i d0 d q b rd
 |dt h0 h hl r ih=>
  intro v r;obtain⟨rfl,_⟩:=cj r;obtain⟨vs,hv,hk,rs⟩:=mz.obj _ _ h;refine .dt ⟨h0,mz.apart _ _ h⟩ (.inl hv) hk (rs.len.trans hl) fun i v d a b=>?_
  obtain⟨d0,q,rd⟩:=rs.get' a;exact ih i d0 d q b rd
 |tup hl r ih=>
  intro v r;obtain⟨a,vs,rfl,f,hv,rs⟩:=bN r;refine .tup ⟨?_,f.2⟩ hv (rs.len.trans hl) fun i v d a b=>?_
  ·cases e:M0 a with
   |none=>rfl
   |some o=>have:=dom a (by rw[e];rfl);rw[f.1]at this;cases this
  ·obtain⟨d0,q,rd⟩:=rs.get' a;exact ih i d0 d q b rd
def jn (M0:Mh) (Q:ZK):ZK:=fun d M=>Q d M\/((∀a o,M0 a=some o->M a=some o)/\∃d',nB M0 M d d'/\Q d' M0)
theorem pC {β:Bz}{M0 M:Mh}{H0 H:Hp}{Q':ZK}{Q:VK}(m0:Mz β M0 H0) (q:∀d M' v H',Ex β M0 H0 M' H'->Rz β M' H' v d->Q' d M'->Q v H') {d:Dv}{v:V}(x:Ex β M0 H0 M H) (r:Rz β M H v d) (h:jn M0 Q' d M):Q v H :=by
 rcases h with h|⟨same,d',rv,h⟩
 ·exact q _ _ _ _ x r h
 ·refine q d' M0 v H ⟨⟨x.keep,fun _ h=>h,fun _ _ h _=>h⟩,fun a o e=>?_,x.mz.tabs,x.mz.hids,m0.apart,x.mz.lams⟩ (rv.rz x.mz x.dom r) h
  have z:=x.mz.obj a o (same a o e);have z0:=m0.obj a o e;cases o with
  |lst ds=>
   obtain⟨vs,z,rs⟩:=z;obtain⟨NS,_,Dw⟩:=z0;refine⟨vs,z,rs.len,fun i v d a b=>(rs.at' i v d a b).pB x.dom ?_⟩
   obtain⟨v0,_,r0⟩:=Dw.get b;exact r0.pin
  |dk ks ds=>
   obtain⟨vs,z,hk,rs⟩:=z;obtain⟨NS,_,_,Dw⟩:=z0;refine⟨vs,z,hk,rs.len,fun i v d a b=>(rs.at' i v d a b).pB x.dom ?_⟩
   obtain⟨v0,_,r0⟩:=Dw.get b;exact r0.pin
  |dt ks ds=>
   obtain⟨vs,z,hk,rs⟩:=z;obtain⟨NS,_,_,Dw⟩:=z0;refine⟨vs,z,hk,rs.len,fun i v d a b=>(rs.at' i v d a b).pB x.dom ?_⟩
   obtain⟨v0,_,r0⟩:=Dw.get b;exact r0.pin
  |dA=>exact z
def zstart (N:List bn) (ds:List Dv):az:=ds.map some++io (N.length - ds.length) none
theorem qC {Γ:Gz}{N:List bn}{vs:List V}{ds:List Dv}(m:Mz Γ.toBz Γ.M0 Γ.H0) (rs:aG Γ.toBz Γ.M0 Γ.H0 vs ds):Zr Γ Γ.toBz Γ.M0 (zstart N ds) (start N vs) Γ.H0:=⟨rfl,rfl,rfl,rfl,fun _ h=>h,m.wf,.refl,m,by simp[zstart,start,rs.len],fun i d e=>by
 unfold zstart at e;unfold start;rw[YT]at e ⊢;rw[ci]at e ⊢;rw[rs.len];split at e
 ·rename_i hi;rw[if_pos hi];rw[br,lc]at e;obtain⟨d2,e,e2⟩:=e;cases e2;obtain⟨v,hv,r⟩:=rs.get e;exact⟨v,by rw[br,hv];rfl,r⟩
 ·rw[BS]at e;split at e<;>cases e⟩
def zEndsOf (M0:Mh) (Q:ZK):gD:={nx:=fun _ M=>jn M0 Q .au M,rt:=jn M0 Q}
def XR (Γ:Gz) (E':ZX) (E:XK):Prop:=∀C M' H',Ex Γ.toBz Γ.M0 Γ.H0 M' H'->E' C M'->E (.ref C) none H'
section
variable {P:gc}{w:i4}{K:bi}{mg:bn->Option al}{base:hX}{tb:cz}{x:bn}{st:tw}{f:ac}{fd:l8}{N ps:List bn}{k:Nat}{S:cp}
theorem tJ (len:∀ds M Q E,S ds M Q E->ds.length=ps.length):∀vs H Q E,aX P w K tb S vs H Q E->vs.length=ps.length:=fun vs H Q E hS=>by
 obtain⟨β,ds,M,Q',E',_,_,_,_,m,rs,s,_⟩:=hS;exact rs.len.trans (len _ _ _ _ s)
theorem ez (D:Df K mg x st ps f fd) (sc:aO N ps (ai st)) (len:∀ds M Q E,S ds M Q E->ds.length=ps.length)
  (body:∀(A:rb) (outer:List Mn) (s:ba) (E:XK) (Γ:Gz) (ds:List Dv) (Q':ZK) (E':ZX),P=Γ.P->w=Γ.w->K=Γ.K->tb=Γ.tb->bC k (A.deeper (envOfC x (ai st) s.heap.objs.size f fd.code))->S ds Γ.M0 Q' E'->
   ∃p,lb Γ (f9 bf P w K mg base N x (ai st) f fd.code A outer s Γ.H0 E).ju (bJ st) p/\p (zEndsOf Γ.M0 Q') (zstart N ds) Γ.M0):FnOk P w K mg base bf (k+1) f fd ps (aX P w K tb S) :=by
 refine D.fn.Vi sc (tJ len) fun A outer s H vs Q E hr h=>?_
 obtain⟨β,ds,M,Q',E',eP,ew,eK,et,m,rs,hS,q,_⟩:=h;obtain⟨p,hp,hq⟩:=body A outer s E ⟨β,M,H⟩ ds Q' E' eP.symm ew.symm eK.symm et.symm hr hS;refine⟨_,hp,β,zstart N ds,M,zEndsOf M Q',qC (Γ:=⟨β,M,H⟩) m rs,hq,?_⟩;have fin:∀d M' v H',Ex β M H M' H'->Rz β M' H' v d->jn M Q' d M'->Q v H':=fun d M' v H' x r h=>pC m q x r h
 exact⟨fun bG M' aF H' x zr h=>fin _ _ _ _ ⟨zr.ent,x.mz⟩ .au h,fun d M' v H' x e r h=>fin _ _ _ _ ⟨e,x.mz⟩ r h,fun _ _ _ _ _ _ h=>h,fun _ _ _ _ _ _ h=>h⟩
theorem sx (D:Df K mg x st ps f fd) (sc:aO N ps (ai st)) (len:∀ds M Q E,S ds M Q E->ds.length=ps.length)
  (body:∀(A:rb) (outer:List Mn) (s:ba) (E:XK) (Γ:Gz) (ds:List Dv) (Q':ZK) (E':ZX),P=Γ.P->w=Γ.w->K=Γ.K->tb=Γ.tb->XR Γ E' E->bC k (A.deeper (envOfC x (ai st) s.heap.objs.size f fd.code))->S ds Γ.M0 Q' E'->
   ∃p,lb Γ (f9 (fq P w) P w K mg base N x (ai st) f fd.code A outer s Γ.H0 E) (bJ st) p/\p (zEndsOf Γ.M0 Q') (zstart N ds) Γ.M0):FnOk P w K mg base (fq P w) (k+1) f fd ps (aX P w K tb S) :=by
 refine D.fn.wu sc (tJ len) fun A outer s H vs Q E hr h=>?_
 obtain⟨β,ds,M,Q',E',eP,ew,eK,et,m,rs,hS,q,qx⟩:=h;obtain⟨p,hp,hq⟩:=body A outer s E ⟨β,M,H⟩ ds Q' E' eP.symm ew.symm eK.symm et.symm qx hr hS;refine⟨_,hp,β,zstart N ds,M,zEndsOf M Q',qC (Γ:=⟨β,M,H⟩) m rs,hq,?_⟩;have fin:∀d M' v H',Ex β M H M' H'->Rz β M' H' v d->jn M Q' d M'->Q v H':=fun d M' v H' x r h=>pC m q x r h
 exact⟨fun bG M' aF H' x zr h=>fin _ _ _ _ ⟨zr.ent,x.mz⟩ .au h,fun d M' v H' x e r h=>fin _ _ _ _ ⟨e,x.mz⟩ r h,fun _ _ _ _ _ _ h=>h,fun _ _ _ _ _ _ h=>h⟩
end
section
variable {X:Cx}{Γ:Gz}{β:Bz}{K:bi}
def zCall (S:cp) (E':ZX) (za:eh):aK:=fun ρ M Q=>za ρ M fun ds M1=>S ds M1 Q E'
theorem XR.none:XR Γ (fun _ _=>False) (fun _ _ _=>False):=fun _ _ _ _ h=>h
theorem sy {M M1 M2:Mh}{H H1 H2:Hp}(ent:Ey M H M1 H1) (sub:∀a,a∈Γ.hid->a∈β.hid) (eP:β.P=Γ.P) (ew:β.w=Γ.w) (eK:β.K=Γ.K) (et:β.tb=Γ.tb) (x:Ex β M1 H1 M2 H2):Ex Γ.toBz M H M2 H2:=⟨ent.trans x.toEy,x.mz.sub eP.symm ew.symm eK.symm et.symm sub⟩
section
variable {CX:gS}{k:Nat}{f:ac}{fd:l8}{ps:List bn}{S:cp}{E:XK}{E':ZX}{x:bn}{p pos:wE}{e:db}{es:List db}{za:eh}{P:gc}{w:i4}{tb:cz}
theorem Oc (hP:P=Γ.P) (hw:w=Γ.w) (hK:K=Γ.K) (ht:tb=Γ.tb) (hE:XR Γ E' E) {σ:St}{H:Hp}{Q:VK}(h:lE Γ (zCall S E' za) σ H Q):Ht (aX P w K tb S) [] E (lA Γ za) σ H Q :=by
 subst hP hw hK ht;obtain⟨β,ρ,M,Q',zr,h,q⟩:=h;refine⟨β,ρ,M,_,zr,h,fun ds M1 vs H1 x1 r1 h1=>?_⟩
 show aX Γ.P Γ.w Γ.K Γ.tb S (vs++[]) H1 Q E;rw[Is];exact⟨β,ds,M1,Q',E',zr.eP,zr.ew,zr.eK,zr.et,x1.mz,r1,h1,fun d M2 v H2 x2 r2 h2=>q _ _ _ _ (x1.trans x2) r2 h2,fun C M2 H2 x2 h2=>hE C M2 H2 (sy zr.ent zr.sub zr.eP zr.ew zr.eK zr.et (x1.trans x2)) h2⟩
theorem aN (F:FnOk X.prog X.w X.K X.mg X.base CX k f fd ps (aX P w K tb S)) (hr:bC k X.A) (hg:Gl X x) (hm:X.mg x=some (.ref f)) (hk:EU X.K (.ref f)=true) (hb:Binds X.K fd ps []) (hx:Passes CX X E) (hP:P=Γ.P) (hw:w=Γ.w) (hK:K=Γ.K) (ht:tb=Γ.tb) (hE:XR Γ E' E)
  (ha:QA Γ X (e::es) za) (d8:(x==("__debug__" : bn))=false :=by decide) (he:starEach (e::es) X.env=(false,eval e X.env)::starEach es X.env :=by rfl) (dy:(backTo pos (starEach es X.env)).any (·.1)=false :=by rfl) :
  QE Γ X (.Call (.Name x p) (e::es) [] pos) (zCall S E' za):=(Jt F hr hg hm hk hb .nil hx ha d8 he dy).imp fun σ H Q h=>Oc hP hw hK ht hE h
end
def zRaise (C:ac) (E':ZX) (za:eh):bX:=fun _ ρ M=>za ρ M fun ds M1=>ds.length<=sizeLine/\E' C M1
theorem xf {x:bn}{C:ac}{lN:db}{rest:List db}{za:eh}{uJ:List al}{B newId wK:String}{E:XK}{E':ZX}{np bD pos:wE}(O:Zo X.K C uJ newId=true) (FB:ExcBaseFacts B newId wK uJ) (hc:X.calm=true) (hR:Raises X E) (hE:XR Γ E' E) (hg:Gl X x) (hm:X.mg x=some (.ref C)) (ha:QA Γ X (lN::rest) za)
  (d8:(x==("__debug__" : bn))=false :=by decide) (he:starEach (lN::rest) X.env=(false,eval lN X.env)::starEach rest X.env :=by rfl) (dy:(backTo bD (starEach rest X.env)).any (·.1)=false :=by rfl) :
  QS Γ X (.Raise (some (.Call (.Name x np) (lN::rest) [] bD)) none pos) (zRaise C E' za):=(FI O FB hc hR hg hm ha d8 he dy).imp fun D σ H ⟨β,ρ,M,D',zr,h,r⟩=>⟨β,ρ,M,_,zr,h,fun ds M1 vs H1 x1 r1 h1=>
 ⟨by rw[r1.len];exact h1.1,hE C M1 H1 (sy zr.ent zr.sub zr.eP zr.ew zr.eK zr.et x1) h1.2⟩⟩
def zTry (K:bi) (C0:ac) (i n:Nat) (pb:ZX->bX) (ph:bX):bX:=fun D ρ M=>pb (fun C M'=>subIn K (.ref C) (.ref C0)=some true/\ph {D with nx:=fun _ M2=>D.nx (io n none) M2,bk:=fun _ M2=>D.bk (io n none) M2,ct:=fun _ M2=>D.ct (io n none) M2} ((io n none).set i (some (.exc C))) M') D ρ M
theorem Od {body suite:List tw}{x n:bn}{i:Nat}{np wN pos:wE}{tE:tw}{C0:ac}{pb:ZX->bX}{ph:bX}{nn:Nat}(VO:X.N.length=nn) (hN:X.N.Nodup) (hi:X.N[i]?=some n) (hl:X.env.scope.names.lookup n=some .local) (jv:X.stack=X.env::X.outer/\X.env.frame=some X.env.locals) (hex:X.ex=[]) (O:k6 X.K C0) (hg:Gl X x) (hm:X.mg x=some (.ref C0))
  (hb:∀(T:al->ba->Prop) (pn:List (ac×li)) (E:XK) (E':ZX) (aW:Gz),aW.P=Γ.P->aW.w=Γ.w->aW.K=Γ.K->aW.tb=Γ.tb->Passes (fq X.prog X.w) (X.mR T pn) E->XR aW E' E->lb aW (X.mR T pn) body (pb E')) (hs:∀a:ac,lb Γ (X.suite a) (tE::suite) ph)
  (d8:(x==("__debug__" : bn))=false :=by decide) :
  QS Γ X (.Try body [.ExceptHandler (some (.Name x np)) (some n) (tE::suite) wN] [] [] pos) (zTry X.K C0 i nn pb ph) :=by
 subst VO;refine(NB (tb:=fun E=>fun D σ H=>∃(aW:Gz) (E':ZX),aW.P=Γ.P/\aW.w=Γ.w/\aW.K=Γ.K/\aW.tb=Γ.tb/\XR aW E' E/\lS aW (pb E') D σ H) hN hi hl jv hex O hg hm (fun T pn E hp=>⟨fun pins s σ H D I h=>?_⟩) hs d8).imp fun D σ H ⟨β,ρ,M,D',zr,h,r⟩=>⟨⟨β,M,H⟩,_,zr.eP,zr.ew,zr.eK,zr.et,?_,β,ρ,M,D',⟨rfl,rfl,rfl,rfl,fun _ h=>h,zr.mz.wf,.refl,zr.mz,zr.len,zr.at'⟩,h,?_⟩
 ·obtain⟨aW,E',e1,e2,e4,e3,hE,h⟩:=h;exact(hb T pn E E' aW e1 e2 e4 e3 hp hE) pins s σ H D I h
 ·intro C M' H' x' hC;have x':Ex β M H M' H':=x';obtain⟨wO,VP⟩:=hC;refine⟨C,rfl,wO,fun a ha=>?_⟩
  have x2:=Ex.lay x'.mz ha (qp C a);have x3:=x'.trans x2;have bare:∀{M2:Mh} {H2:Hp},Ex β M H M2 H2->Zr Γ β M2 (io X.N.length none) (blank X.N.length) H2:=fun x=>⟨zr.eP,zr.ew,zr.eK,zr.et,zr.sub,zr.wf,zr.ent.trans x.toEy,x.mz,by simp[blank],fun j d e=>by
   rw[BS]at e;split at e<;>cases e⟩
  refine⟨β,_,M',_,(bare x3).set i (.exc (x'.mz.fz ha) aA),VP,?_⟩;have A7:∀{M2:Mh} {gz:az} {i6:St} {H2:Hp},Zr Γ β M2 gz i6 H2->Zr Γ β M2 (io X.N.length none) (blank X.N.length) H2:=fun z=>⟨z.eP,z.ew,z.eK,z.et,z.sub,z.wf,z.ent,z.mz,by simp[blank],fun j d e=>by
   rw[BS]at e;split at e<;>cases e⟩
  exact⟨fun gz M2 i6 H2 y z h=>r.nx _ _ _ _ (x3.ev.trans y) (A7 z) h,fun d M2 v H2 y e z h=>r.rt _ _ _ _ (x3.ev.trans y) e z h,fun gz M2 i6 H2 y z h=>r.bk _ _ _ _ (x3.ev.trans y) (A7 z) h,fun gz M2 i6 H2 y z h=>r.ct _ _ _ _ (x3.ev.trans y) (A7 z) h⟩
 ·have up:∀{bG:az} {M2:Mh} {aF:St} {H2:Hp},Zr ⟨β,M,H⟩ β M2 bG aF H2->Zr Γ β M2 bG aF H2:=fun z=>⟨zr.eP,zr.ew,zr.eK,zr.et,zr.sub,zr.wf,zr.ent.trans z.ent,z.mz,z.len,z.at'⟩
  exact⟨fun gz M2 i6 H2 y z h=>r.nx _ _ _ _ y (up z) h,fun d M2 v H2 y e z h=>r.rt _ _ _ _ y (zr.ent.trans e) z h,fun gz M2 i6 H2 y z h=>r.bk _ _ _ _ y (up z) h,fun gz M2 i6 H2 y z h=>r.ct _ _ _ _ y (up z) h⟩
def zIsE (K:bi):sm:=fun ds M Q=>match ds with
 | [.exc C,.raw (.ref D)]=>e8 K C/\(match kitOne K (.ref C) (.ref D) with|some b=>Q (.bl b) M|none=>False)
 | [.exc C,.raw (.ty T)]=>e8 K C/\(match kitOne K (.ref C) (.type T) with|some b=>Q (.bl b) M|none=>False)
 | [.exc C,.tup es]=>e8 K C/\∃Ds:List ac,es=Ds.map (fun D=>.raw (.ref D))/\(match kitAny K (.ref C) (Ds.map l5) with|some b=>Q (.bl b) M|none=>False)
 |_=>False
theorem Ih (hK:X.K=K):ft Γ X (.builtin "isinstance") (zIsE K):=⟨_,FK hK,fun β xs ds M H Q Q' _ _ _ m rs z q=>by
 unfold zIsE at z;split at z
 ·rename_i C D;obtain⟨x,y,rfl,r,r'⟩:=iJ rs;obtain⟨a,rfl,f,h⟩:=n6 r;have e:=k9 r';subst e;obtain⟨hC,z⟩:=z;split at z
  ·rename_i b hb;exact⟨a,C,b,h,hC,.inl ⟨D,rfl,hb⟩,q _ _ _ _ (.refl m) (.bl _) z⟩
  ·exact z.elim
 ·rename_i C T;obtain⟨x,y,rfl,r,r'⟩:=iJ rs;obtain⟨a,rfl,f,h⟩:=n6 r;have e:=k9 r';subst e;obtain⟨hC,z⟩:=z;split at z
  ·rename_i b hb;exact⟨a,C,b,h,hC,.inr (.inl ⟨T,rfl,hb⟩),q _ _ _ _ (.refl m) (.bl _) z⟩
  ·exact z.elim
 ·rename_i C es;obtain⟨x,y,rfl,r,r'⟩:=iJ rs;obtain⟨a,rfl,f,h⟩:=n6 r;obtain⟨b2,vs,rfl,f2,h2,bZ⟩:=bN r';obtain⟨hC,Ds,rfl,z⟩:=z;split at z
  ·rename_i b hb;have ev:vs=Ds.map V.ref :=by
    refine KM fun i=>?_
    cases e:vs[i]? with
    |none=>
     have:=Rs.mp e;have l:=bZ.len;simp at l;rw[br,Rs.mpr (by omega)]
     rfl
    |some v=>
     obtain⟨d,hd,rd⟩:=bZ.get' e;rw[br]at hd;cases e2:Ds[i]? with
     |none=>rw[e2]at hd;cases hd
     |some D=>rw[e2]at hd;cases hd;rw[br,e2,k9 rd];rfl
   subst ev;exact⟨a,C,b,h,hC,.inr (.inr ⟨b2,Ds,rfl,h2,hb⟩),q _ _ _ _ (.refl m) (.bl _) z⟩
  ·exact z.elim
 ·exact z.elim⟩
section
variable {tg elt iter:db}{ifs:List db}{scope:wp}{pos:wE}{N':List bn}{tn:Nat}{idx:List Nat}{zi:fc}{g:cE}{tt:cL}{te:aK}{c P:ac}{k:Nat}
theorem cY (hc:X.calm=true) (B:aH X.N X.env.scope scope N' tn idx) (hi:QI Γ X tg iter zi)
  (hg:Blk X N' scope fun Y=>QG Γ Y tg g) (ht:Blk X N' scope fun Y=>p7 Γ Y ifs tt) (he:Blk X N' scope fun Y=>QE Γ Y elt te)
  (hs:∀x,foldedSetIterable iter X.env x=pure x :=by intro _;rfl):QE Γ X (.ListComp elt [⟨tg,iter,ifs,0⟩] scope pos) (zComp tn idx zi g tt te):=(pU hc B hi hg ht he hs).imp fun σ H Q h=>wZ h
theorem xg (hc:X.calm=true) (B:aH X.N X.env.scope scope N' tn idx) (hi:QI Γ X tg iter zi)
  (hg:Blk X N' scope fun Y=>QG Γ Y tg g) (ht:Blk X N' scope fun Y=>p7 Γ Y ifs tt) (he:Blk X N' scope fun Y=>QE Γ Y elt te)
  (hs:∀x,foldedSetIterable iter X.env x=pure x :=by intro _;rfl):QE Γ X (.ListComp elt [⟨tg,iter,ifs,0⟩] scope pos) (zCompP tn idx zi g tt te):=(pU hc B hi hg ht he hs).imp fun σ H Q h=>tH h
theorem sA {i:Nat}{y:bn}{py gZ:wE}(hN:X.N.Nodup) (dQ:X.N[i]?=some y) (hy:X.env.scope.names.lookup y=some .local) (hc:X.calm=true) (B:aH X.N X.env.scope scope N' tn idx) (hi:QI Γ X tg iter zi)
  (hg:Blk X N' scope fun Y=>QG Γ Y tg g) (ht:Blk X N' scope fun Y=>p7 Γ Y ifs tt) (he:Blk X N' scope fun Y=>QE Γ Y elt te)
  (rQ:swapsWith (.ListComp elt [⟨tg,iter,ifs,0⟩] scope pos) (some (.Name y py)) gZ.line X.env=pure true :=by rfl)
  (hs:∀x,foldedSetIterable iter X.env x=pure x :=by intro _;rfl):QS Γ X (.Assign [.Name y py] (.ListComp elt [⟨tg,iter,ifs,0⟩] scope pos) gZ) (zAsg (zComp tn idx zi g tt te) (zgName i)):=(rP hN dQ hy hc B hi hg ht he rQ hs).imp fun D σ H h=>vJ (fun _ _ _ h=>wZ h) h
theorem yG {i:Nat}{y:bn}{py gZ:wE}(hN:X.N.Nodup) (dQ:X.N[i]?=some y) (hy:X.env.scope.names.lookup y=some .local) (hc:X.calm=true) (B:aH X.N X.env.scope scope N' tn idx) (hi:QI Γ X tg iter zi)
  (hg:Blk X N' scope fun Y=>QG Γ Y tg g) (ht:Blk X N' scope fun Y=>p7 Γ Y ifs tt) (he:Blk X N' scope fun Y=>QE Γ Y elt te)
  (rQ:swapsWith (.ListComp elt [⟨tg,iter,ifs,0⟩] scope pos) (some (.Name y py)) gZ.line X.env=pure true :=by rfl)
  (hs:∀x,foldedSetIterable iter X.env x=pure x :=by intro _;rfl):QS Γ X (.Assign [.Name y py] (.ListComp elt [⟨tg,iter,ifs,0⟩] scope pos) gZ) (zAsg (zCompP tn idx zi g tt te) (zgName i)):=(rP hN dQ hy hc B hi hg ht he rQ hs).imp fun D σ H h=>vJ (fun _ _ _ h=>tH h) h
theorem Dx {p lM:wE}(hP:P∈Γ.tb) (hr:bC (k+1) X.A) (hc:X.calm=true) (B:aH X.N X.env.scope scope N' tn idx)
  (h0:scope.names.lookup (".0" : bn)=some .local) (kZ:scope.isCoroutine=false) (dY:X.env.code=.ref c) (hd:u4 X.base c P) (dX:∃bm ob,Yj X.base mainGlobals X.mg bm ob)
  (wt:Gl X "all") (hm:X.mg "all" = none) (hi:QI Γ X tg iter zi) (hg:gd X N' scope k fun Y=>QG Γ Y tg g) (ht:gd X N' scope k fun Y=>p7 Γ Y ifs tt) (he:gd X N' scope k fun Y=>QE Γ Y elt te)
  (hs:∀x,genFold iter X.env x=pure x :=by intro _;rfl):QE Γ X (.Call (.Name "all" p) [dN elt tg iter ifs scope lM] [] pos) (zAll tn idx zi g tt te):=(MZ hr hc B h0 kZ dY hd dX wt hm hi hg ht he hs).imp fun σ H Q h=>Ri hP h
end
end
section
variable {X:Cx}{Γ:Gz}{β:Bz}{K:bi}
section
variable {tg elt iter:db}{ifs:List db}{scope:wp}{pos:wE}{N':List bn}{tn:Nat}{idx:List Nat}{zi:fc}{g:cE}{tt:cL}{te:aK}{c P:ac}{k:Nat}
def Ii (g:cE) (tt:cL) (te:aK):List Dv->az->Mh->(List Int->Mh->Prop)->List Int->Prop
 | [],_,M,Q,acc=>Q acc M
 |d::ds,τ,M,Q,acc=>g d τ M fun aB M2=>tt aB M2 fun b M3=>if b=true then te aB M3 fun y M4=>(match y with | .int k=>acc.length+1<scanBound/\Ii g tt te ds aB M4 Q (Ue acc k)|_=>False) else Ii g tt te ds aB M3 Q acc
end
def eA (xs ys:List Dv):List Dv:=(xs.zip ys).map fun p=>.tup [p.1,p.2]
def kj (n:Nat):List Dv:=(jp n).map fun i=>.int (i:Nat)
theorem om {J:It}{vs us:List V}{ds es:List Dv}{M:Mh}{H:Hp}(r:aG β M H vs ds) (r2:aG β M H us es) (h:∀M' H',Ey M H M' H'->AX J (vs.zip us) H'):Dg β J (eA ds es) M H:=fun da M' H' bx x m i=>by
 have q:=h M' H' x i;have hl:(eA ds es).length=(vs.zip us).length :=by simp[eA,r.len,r2.len]
 rw[hl];refine⟨fun hi=>⟨(q.1 hi).1,fun v la y=>?_⟩,q.2⟩
 obtain⟨t,p,ht,rfl,hp,rfl⟩:=(q.1 hi).2 v la y;rw[zd]at hp;obtain⟨d,hd,rd⟩:=r.get' hp.1;obtain⟨e,he,re⟩:=r2.get' hp.2;have x2:=Ex.lay m ht (.tup [p.1,p.2]);refine⟨x2,.tup [d,e],?_,gv (m.fz ht) aA (.cons (((rd.bx bx).ey x).ex x2) (.cons (((re.bx bx).ey x).ex x2) .nil))⟩;unfold eA;rw[br,lc];exact⟨(d,e),by rw[zd];exact⟨hd,he⟩,rfl⟩
theorem enum_zip (vs:List V):((jp vs.length).map fun i=>(V.int (i:Nat),vs.getD i .au))=((jp vs.length).map fun i=>V.int (i:Nat)).zip vs :=by
 refine KM fun i=>?_
 by_cases hi:i<vs.length
 ·rw[br,xw hi];symm
  show _=some (V.int (i:Nat),vs.getD i .au);rw[zd,br,xw hi,cr,ap hi];exact⟨rfl,rfl⟩
 ·rw[Rs.mpr (by simp;omega),Rs.mpr (by simp;omega)]
theorem tK {n:Nat}{M:Mh}{H:Hp}:aG β M H ((jp n).map fun i=>V.int (i:Nat)) (kj n):=⟨by simp[kj],fun i v d a b=>by
 unfold kj at b;rw[br]at a b;cases e:(jp n)[i]? with
 |none=>rw[e]at a;cases a
 |some c=>rw[e]at a b;cases a;cases b;exact .int _⟩
theorem Sq.Oe {H:Hp}{a:ac}{xs:List V}(h:H a=some (.lst xs)):Sq true K H a xs :=by
 unfold Sq;exact bo.of h
theorem Sq.ofT {H:Hp}{a:ac}{xs:List V}(h:H a=some (.tup xs)):Sq false K H a xs :=by
 unfold Sq;exact cw.of h
section
variable {elts:List db}{x1:Nat}{tp p pos:wE}{l l1 l2:db}{pl p1 p2:aK}
def ziEnumK (k:Bool) (p:aK):fc:=fun ρ M R=>p ρ M fun d M1=>match k,d with|false,.tup ds=>R (eA (kj ds.length) ds) M1|true,.lst ds=>R (eA (kj ds.length) ds) M1|_,_=>False
theorem J9 (k:Bool) (hK:X.K=K) (hg:Gl X "enumerate") (hm:X.mg "enumerate" = none) (hl:QE Γ X l pl) (hs:starEach [l] X.env=[(false,eval l X.env)] :=by rfl) :
  QI Γ X (.Tuple elts x1 tp) (.Call (.Name "enumerate" p) [l] [] pos) (ziEnumK k pl):=(JR k hK hg hm hl hs).imp fun σ H R ⟨β,ρ,M,R',zr,h,q⟩=>⟨β,ρ,M,_,zr,h,fun d M1 v H1 x1 r1 h1=>by
 revert h1
 split
 ·intro h1;obtain⟨a,vs,rfl,f,e,rs⟩:=bN r1;refine⟨a,rfl,⟨vs,Sq.ofT e⟩,q _ _ _ _ x1 ?_ h1⟩;rw[<- rs.len];exact om tK rs fun M' H' x=>by rw[<- enum_zip];exact uL (Sq.ofT (x.get f.1 e rfl))
 ·intro h1;obtain⟨a,vs,rfl,f,e,rs⟩:=cg r1;refine⟨a,rfl,⟨vs,Sq.Oe e⟩,q _ _ _ _ x1 ?_ h1⟩;rw[<- rs.len];exact om tK rs fun M' H' x=>by rw[<- enum_zip];exact uL (Sq.Oe (x.get f.1 e rfl))
 ·exact fun h=>h.elim⟩
def seqK (k:Bool) (d:Dv) (R:List Dv->Prop):Prop:=match k,d with|false,.tup ds=>R ds|true,.lst ds=>R ds|_,_=>False
theorem zM {k:Bool}{M:Mh}{H:Hp}{v:V}{d:Dv}{R:List Dv->Prop}(r:Rz β M H v d) (h:seqK k d R):∃a vs ds,v=.ref a/\R ds/\aG β M H vs ds/\∀M' H',Ey M H M' H'->Sq k K H' a vs :=by
 unfold seqK at h;split at h
 ·obtain⟨a,vs,rfl,f,e,rs⟩:=bN r;exact⟨a,vs,_,rfl,h,rs,fun M' H' x=>Sq.ofT (x.get f.1 e rfl)⟩
 ·obtain⟨a,vs,rfl,f,e,rs⟩:=cg r;exact⟨a,vs,_,rfl,h,rs,fun M' H' x=>Sq.Oe (x.get f.1 e rfl)⟩
 ·exact h.elim
def ziZip (k1 k2:Bool) (p1 p2:aK):fc:=fun ρ M R=>p1 ρ M fun d M1=>p2 ρ M1 fun e M2=>seqK k1 d fun xs=>seqK k2 e fun ys=>R (eA xs ys) M2
theorem Of (k1 k2:Bool) (hK:X.K=K) (hg:Gl X "zip") (hm:X.mg "zip" = none) (h1:QE Γ X l1 p1) (h2:QE Γ X l2 p2) (hs:starEach [l1,l2] X.env=(false,eval l1 X.env)::starEach [l2] X.env :=by rfl) (wV:starEach [l2] X.env=[(false,eval l2 X.env)] :=by rfl) :
  QI Γ X (.Tuple elts x1 tp) (.Call (.Name "zip" p) [l1,l2] [] pos) (ziZip k1 k2 p1 p2):=(NP k1 k2 hK hg hm h1 h2 hs wV).imp fun σ H R ⟨β,ρ,M,R',zr,h,q⟩=>⟨β,ρ,M,_,zr,h,fun d M1 v H1 x1 r1 h1=>⟨β,ρ,M1,_,zr.step x1,h1,fun e M2 u H2 x2 r2 h2=>by
 obtain⟨a,vs,ds,rfl,h3,rs,s1⟩:=zM (K:=K) (r1.ex x2) h2;obtain⟨b,us,es,rfl,h4,bZ,s2⟩:=zM (K:=K) r2 h3;exact⟨a,b,rfl,rfl,⟨vs,s1 _ _ .refl⟩,⟨us,s2 _ _ .refl⟩,q _ _ _ _ (x1.trans x2) (om rs bZ fun M' H' x=>FV (s1 _ _ x) (s2 _ _ x)) h4⟩⟩⟩
end
def zRangeP (p:aK):aK:=fun ρ M Q=>p ρ M fun d M1=>match d with | .int j => -(2 ^ 24)<=j/\j<=2 ^ 24/\∀a,M1 a=none->Q (.ptr a) (aw M1 a (.lst (kj j.toNat)))|_=>False
section
variable {e:db}{pe:aK}{p p1 p2 pos:wE}
theorem vw (hc:X.calm=true) (hg:Gl X "list") (hm:X.mg "list" = none) (M8:Gl X "range") (M9:X.mg "range" = none) (he:QE Γ X e pe) (hs:starEach [e] X.env=[(false,eval e X.env)] :=by rfl) :
  QE Γ X (.Call (.Name "list" p) [.Call (.Name "range" p1) [e] [] p2] [] pos) (zRangeP pe):=(wx hc hg hm M8 M9 he hs).imp fun σ H Q ⟨β,ρ,M,Q',zr,h,q⟩=>⟨β,ρ,M,_,zr,h,fun d M1 v H1 x1 r1 h1=>by
 revert h1
 split
 ·rename_i j;rintro⟨b1,b2,h1⟩;refine⟨_,aL r1,b1,b2,fun l hl=>?_⟩
  have x2:=Ex.own x1.mz (.inr hl) (tK (n:=j.toNat) (β:=β) (M:=M1) (H:=H1));exact q _ _ _ _ (x1.trans x2) (.ptr (by rw[updM_same];rfl)) (h1 l (x1.mz.free hl))
 ·exact fun h=>h.elim⟩
def zNeg (p:aK):aK:=fun ρ M Q=>p ρ M fun d M1=>match d with | .int i=>Q (.int (-i)) M1|_=>False
theorem xh (ha:QE Γ X e pe):QE Γ X (.UnaryOp .USub e pos) (zNeg pe):=(QH Mp ha).imp fun σ H Q ⟨β,ρ,M,Q',zr,h,q⟩=>⟨β,ρ,M,_,zr,h,fun d M1 v H1 x1 r1 h1=>by
 revert h1
 split
 ·intro h1;exact⟨_,aL r1,q _ _ _ _ x1 (.int _) h1⟩
 ·exact fun h=>h.elim⟩
def truD (M:Mh):Dv->Option Bool
 | .bl b=>some b
 | .au=>some false
 | .int i=>some (i != 0)
 | .str z=>if z.length<=sizeLine then some ((z.length:Int) != 0) else none
 | .tup ds=>some (!ds.isEmpty)
 | .lst ds=>some (!ds.isEmpty)
 | .ptr a=>match M a with|some (.lst ds)=>some (!ds.isEmpty)|_=>none
 |_=>none
def zTruth (p:aK):cL:=fun ρ M Q=>p ρ M fun d M1=>match truD M1 d with|some b=>Q b M1|none=>False
theorem aG.isEmpty {M:Mh}{H:Hp}{vs:List V}{ds:List Dv}(h:aG β M H vs ds):vs.isEmpty=ds.isEmpty :=by
 have:=h.len;cases vs<;>cases ds<;>simp_all
theorem Ka {M:Mh}{H:Hp}{v:V}{d:Dv}{b:Bool}(m:Mz β M H) (r:Rz β M H v d) (h:truD M d=some b):Fi K v H b :=by
 cases r with
 |int i=>cases h;exact rfl
 |bl i=>cases h;exact rfl
 |au=>cases h;exact rfl
 |str z=>
  simp only[truD]at h;split at h
  ·rename_i hz;cases h;exact⟨hz,rfl⟩
  ·cases h
 |tup f e hl q=>cases h;exact .inr (.inl ⟨_,cw.of e,by rw[aG.isEmpty ⟨hl,q⟩]⟩)
 |lst f e hl q=>cases h;exact .inl ⟨_,bo.of e,by rw[aG.isEmpty ⟨hl,q⟩]⟩
 |ptr hs=>
  simp only[truD]at h;split at h
  ·rename_i ds oj;cases h;obtain⟨vs,hv,rs⟩:=m.obj _ _ oj;exact .inl ⟨_,bo.of hv,by rw[rs.isEmpty]⟩
  ·cases h
 |set f e=>cases h
 |exc f e=>cases h
 |bB f e=>cases h
 |cJ f e=>cases h
 |cK e=>cases h
 |raw v=>cases h
 |dk f e _ _ _=>cases h
 |dt f e _ _ _=>cases h
 |bS _ _ _ _ _ _=>cases h
theorem F8 (ha:QE Γ X e pe) (he:∀whole,isTrue e X.env whole=(do let v <- whole;standAt e.pos;holding [v] (truthy v)) :=by intro _;rfl):QT Γ X e (zTruth pe):=(Fj ha he).imp fun σ H Q ⟨β,ρ,M,Q',zr,h,q⟩=>⟨β,ρ,M,_,zr,h,fun d M1 v H1 x1 r1 h1=>by
 revert h1
 split
 ·rename_i b hb;intro h1;exact⟨b,Ka x1.mz r1 hb,q _ _ _ x1 h1⟩
 ·exact fun h=>h.elim⟩
end
theorem qv (i:Nat) {x:bn}{pos:wE}(hN:X.N[i]?=some x :=by rfl) (hv:pP X.env.scope x :=by first|exact mT rfl|exact FF (mT rfl)|exact FF (FF rfl)) (hd:(x==("__debug__" : bn))=false :=by decide)
  (d7:(x==("__classdict__" : bn))=false :=by decide):QE Γ X (.Name x pos) (zVar i):=NV hN hv hd d7
end
theorem VQ {c:Bool}{A B:Prop}(h:c=true) (a:A):if c=true then A else B :=by rw[if_pos h];exact a
theorem VR {c:Bool}{A B:Prop}(h:c=false) (b:B):if c=true then A else B :=by rw[h,if_neg im];exact b
theorem eS {c:Bool}{A B:Prop}(h1:c=true->A) (h2:c=false->B):if c=true then A else B :=by
 cases c
 ·exact VR rfl (h2 rfl)
 ·exact VQ rfl (h1 rfl)
theorem tL {g:cE}{te:aK}{M:Mh}(p:Dv->Bool) (I:az->Prop):∀{ds:List Dv}{τ:az}{Q:Bool->Mh->Prop},I τ->(∀d∈ds,∀τ,I τ->∀R:az->ZK,(∀aB,I aB->R aB (.bl (p d)) M)->g d τ M fun aB M2=>te aB M2 (R aB))->Q (ds.all p) M->lj g zNoIf te ds τ M Q
 | [],τ,Q,_,_,q=>q
 |d::ds,τ,Q,i,h,q=>by
          refine h d ma τ i (fun aB=>zBool fun c M4=>if c=false then Q false M4 else lj g zNoIf te ds aB M4 Q) fun aB i2=>?_
          show if p d=false then Q false M else lj g zNoIf te ds aB M Q
          cases e:p d with
          |false=>
           rw[if_pos rfl];rw[Ys,e]at q;exact q
          |true=>
           rw[if_neg (by decide)]
           rw[Ys,e,Yu]at q;exact tL p I i2 (fun d' hd=>h d' (i0 _ hd)) q
theorem dO {g:cE}{te:aK}(f:Dv->Dv) (I:az->Mh->Prop):∀{ds:List Dv}{τ:az}{M:Mh}{Q:List Dv->Mh->Prop},I τ M->(∀d∈ds,∀τ M,I τ M->∀R:az->ZK,(∀aB M2,I aB M2->R aB (f d) M2)->g d τ M fun aB M2=>te aB M2 (R aB))->(∀τ M,I τ M->Q (ds.map f) M)->gJ g zNoIf te ds τ M Q
 | [],τ,M,Q,i,_,q=>q τ M i
 |d::ds,τ,M,Q,i,h,q=>by
          refine h d ma τ M i (fun aB y M4=>gJ g zNoIf te ds aB M4 fun ys M5=>Q (y::ys) M5) fun aB M2 i2=>?_
          exact dO f I i2 (fun d' hd=>h d' (i0 _ hd)) fun mr M3 i3=>q mr M3 i3
theorem tM {g:cE}{tt:cL}{te:aK}(t:Dv->Bool) (f:Dv->Dv) (I:az->Mh->Prop):∀{ds:List Dv}{τ:az}{M:Mh}{Q:List Dv->Mh->Prop},I τ M->
  (∀d∈ds,∀τ M,I τ M->∀(R0:az->Mh->Prop) (R:az->ZK),(t d=true->∀aB M2,I aB M2->R aB (f d) M2)->(t d=false->∀aB M2,I aB M2->R0 aB M2)->g d τ M fun aB M2=>tt aB M2 fun b M3=>if b=true then te aB M3 (R aB) else R0 aB M3)->
  (∀τ M,I τ M->Q ((ds.filter t).map f) M)->gJ g tt te ds τ M Q
 | [],τ,M,Q,i,_,q=>q τ M i
 |d::ds,τ,M,Q,i,h,q=>by
          refine h d ma τ M i (fun aB M3=>gJ g tt te ds aB M3 Q) (fun aB y M4=>gJ g tt te ds aB M4 fun ys M5=>Q (y::ys) M5) (fun e aB M2 i2=>?_) fun e aB M2 i2=>?_
          ·refine tM t f I i2 (fun d' hd=>h d' (i0 _ hd)) fun mr M3 i3=>?_
           have:=q mr M3 i3;rw[SI,if_pos e]at this;exact this
          ·refine tM t f I i2 (fun d' hd=>h d' (i0 _ hd)) fun mr M3 i3=>?_
           have:=q mr M3 i3;rw[SI,if_neg (by rw[e];decide)]at this
           exact this
abbrev eI (ns:List Int):Dv:=.tup (ns.map .int)
abbrev eN (net:List (List Int)):Dv:=.tup (net.map eI)
abbrev bO (ns:List Int):Dv:=.lst (ns.map .int)
theorem qD:∀ns:List Int,lq (ns.map Dv.int)=some (ns.map Dt.int)
 | []=>rfl
 |n::ns=>by simp only[ss,lq,bY,qD ns]
theorem xi {n:Nat}:∀{ds:List Dt},(∀d∈ds,k4 d<=n)->hV ds<=n
 | [],_=>by rw[hV];exact xb _
 |d::ds,h=>by
          rw[hV];exact Nat.max_le.mpr ⟨h d ma,xi fun d' hd=>h d' (i0 _ hd)⟩
theorem Kb (ns:List Int):hV (ns.map Dt.int)<=0:=xi fun d hd=>by
 obtain⟨i,_,rfl⟩:=on.mp hd;exact c8 _
theorem km {M:Mh}(ns:List Int):∀d∈ns.map Dv.int,Pin M d:=fun d hd=>by
 obtain⟨i,_,rfl⟩:=on.mp hd;exact .int i
theorem Og {M:Mh}(ns:List Int):Pin M (eI ns):=.tup (km ns)
theorem Dy {M:Mh}(net:List (List Int)):Pin M (eN net):=.tup fun d hd=>by
 obtain⟨r,_,rfl⟩:=on.mp hd;exact Og r
theorem Kc {α β:Type}{f:α->β}{xs:List α}{i:Int}{x:α}(h:cy xs i=some x):cy (xs.map f) i=some (f x) :=by
 unfold cy at h ⊢;rw[ci];cases e:f7 xs.length i with
 |none=>rw[e]at h;cases h
 |some j=>rw[e]at h;simp only[ZM]at h ⊢;rw[br,h];rfl
theorem Dz {α:Type}{xs:List α}{k:Nat}(h:k<xs.length):cy xs ((k:Nat):Int)=some xs[k]:=cf (ap h)
def spLaw (K:bi) (tb:cz):Sp:=fun vs H Q _=>∃(a:ac) (ns:List Int),vs=[.ref a]/\bo K H a (ns.map V.int)/\ns.length<=63/\HA tb.g H/\(∀p∈tb.l,Lm H p)/\∀H',(∀p∈tb.l,∃ps,H' p.1=some (.lam ps))->Q (.bl true) H'
def Oh:cp:=fun ds M Q _=>∃ns:List Int,ds=[.bB ns]/\ns.length<=63/\(∀a,M a=none)/\∀M',Q (.bl true) M'
theorem Oi {P:gc}{w:i4}{K:bi}{mg:bn->Option al}{base:hX}{k:Nat}{f:ac}{fd:l8}{x:bn}{tb:cz}(G:FnOk P w K mg base bf k f fd [x] (aX P w K tb Oh)):FnOk P w K mg base bf k f fd [x] (spLaw K tb):=
 G.imp fun vs H Q E ⟨a,ns,e,hS,hl,hT,hL,q⟩=>by
  subst e;have m:Mz ⟨P,w,K,tb,[]⟩ (fun _=>none) H:=⟨(fun a o e=>nomatch e),hT,(fun a ha=>absurd ha (by simp)),(fun a o e=>nomatch e),hL⟩
  refine⟨⟨P,w,K,tb,[]⟩,[.bB ns],fun _=>none,fun d _=>d=.bl true,fun _ _=>False,rfl,rfl,rfl,rfl,m,.cons ?_ .nil,⟨ns,rfl,hl,fun _=>rfl,fun _=>rfl⟩,fun d M' v H' x r h=>?_,fun _ _ _ _ h=>h.elim⟩
  ·have fz:Fz ⟨P,w,K,tb,[]⟩ (fun _=>none) a:=⟨rfl,by simp⟩
   rcases hS with (h|⟨o,h⟩)|h
   ·exact .cJ fz h
   ·exact .bB fz h
   ·exact .cK h
  ·subst h;rw[dn r];exact q H' fun p hp=>let ⟨ps,e,_⟩:=x.mz.lams p hp;⟨ps,e⟩
def Keeps (M0 M:Mh):Prop:=∀a o,M0 a=some o->M a=some o
theorem Keeps.refl {M0:Mh}:Keeps M0 M0:=fun _ _ h=>h
theorem Keeps.upd {M0 M:Mh}{a:ac}{o:Mo}(ha:M0 a=none) (h:Keeps M0 M):Keeps M0 (aw M a o):=fun b u e=>by
 rw[aj (fun z=>by rw[z,ha]at e;cases e)]
 exact h b u e
theorem uT {M0 M:Mh}{Q:ZK}{d:Dv}(h:Keeps M0 M) (p:Pin M0 d) (q:Q d M0):jn M0 Q d M:=.inr ⟨h,d,.pin p,q⟩
theorem DA {M0 M:Mh}{Q:ZK}{a:ac}{ds:List Dv}(h:Keeps M0 M) (h0:M0 a=none) (ha:M a=some (.lst ds)) (p:∀d∈ds,Pin M0 d) (q:Q (.lst ds) M0):jn M0 Q (.ptr a) M:=.inr ⟨h,.lst ds,.ptr h0 ha rfl fun i d d' e e'=>by
 rw[e]at e';cases e';exact .pin (p d (dL e)),q⟩
theorem bh {lo:Int}{n i:Nat}{d:Dv}(h:(bH lo n)[i]?=some d):d=.int (lo+(i:Nat))/\i<n :=by
 unfold bH at h;rw[br]at h;cases e:(jp n)[i]? with
 |none=>rw[e]at h;cases h
 |some k=>
  rw[e]at h;obtain⟨h1,h2⟩:=bv.mp e;rw[List.getElem_range]at h2;subst h2;exact⟨(i8 h).symm,by simpa using h1⟩
theorem sC {lo:Int}{n:Nat}{d:Dv}(h:d∈bH lo n):∃i:Nat,i<n/\d=.int (lo+(i:Nat)) :=by
 obtain⟨i,hi⟩:=mo.mp h;obtain⟨e,l⟩:=bh hi;exact⟨i,l,e⟩
theorem rangeD_len (lo:Int) (n:Nat):(bH lo n).length=n :=by simp[bH]
theorem qE {tt:cL}(t:Dv->Bool) {τ:az}:∀{ds:List Dv}{x:Option Dv}{M:Mh}{Q:List Dv->Mh->Prop},(∀d∈ds,∀R:Bool->Mh->Prop,R (t d) M->tt (some d::τ) M R)->Q (ds.filter t) M->gJ (zgName 0) tt (zVar 0) ds (x::τ) M Q
 | [],x,M,Q,_,q=>q
 |d::ds,x,M,Q,h,q=>by
          refine h d ma _ ?_;cases e:t d with
          |true=>
           rw[SI,if_pos e]at q;exact qE t (Q:=fun ys M5=>Q (d::ys) M5) (fun d' hd=>h d' (i0 _ hd)) q
          |false=>
           rw[SI,if_neg (by rw[e];decide)]at q
           exact qE t (fun d' hd=>h d' (i0 _ hd)) q
theorem uU {xs ys:List Dv}{k:Nat}{d:Dv}(h:(eA xs ys)[k]?=some d):∃x y,d=.tup [x,y]/\xs[k]?=some x/\ys[k]?=some y :=by
 unfold eA at h;rw[br,lc]at h;obtain⟨p,h,rfl⟩:=h;rw[zd]at h;exact⟨p.1,p.2,rfl,h.1,h.2⟩
theorem Kd {n k:Nat}{d:Dv}(h:(kj n)[k]?=some d):d=.int (k:Nat)/\k<n :=by
 unfold kj at h;rw[br]at h;cases e:(jp n)[k]? with
 |none=>rw[e]at h;cases h
 |some j=>
  rw[e]at h;obtain⟨h1,h2⟩:=bv.mp e;rw[List.getElem_range]at h2;subst h2;exact⟨(i8 h).symm,by simpa using h1⟩
theorem atI_zero {α:Type}{x:α}{xs:List α}:cy (x::xs) 0=some x:=cf (j:=0) rfl
theorem Oj {α:Type}{f:α->Dv}{xs:List α}{k:Nat}{d:Dv}(h:(xs.map f)[k]?=some d):∃x,xs[k]?=some x/\d=f x :=by
 rw[br,lc]at h;obtain⟨x,h,e⟩:=h;exact⟨x,h,e.symm⟩
theorem pairsD_len (xs ys:List Dv):(eA xs ys).length=min xs.length ys.length :=by simp[eA]
theorem numD_len (n:Nat):(kj n).length=n :=by simp[kj]
theorem Ke (xs:List Dv) (lo hi:Option Int):cutD xs lo hi=(xs.drop (HT.fF xs.length 0 lo)).take (HT.fF xs.length xs.length hi - HT.fF xs.length 0 lo):=rfl
theorem Kf {n d k:Nat}:HT.fF n d (some (k:Nat))=min k n :=by
 unfold HT.fF;simp only[];split<;>omega
theorem tN {xs:List Dv}{k:Nat}:cutD xs none (some (k:Nat))=xs.take k :=by
 rw[Ke,Kf];show (xs.drop 0).take (min k xs.length - 0)=xs.take k;rw[List.drop_zero,Nat.sub_zero];by_cases h:k<=xs.length
 ·rw[Nat.min_eq_left h]
 ·rw[Nat.min_eq_right (by omega),LG (c8 _),LG (by omega)]
end L2
namespace L2
open PySem PySem.Spec PyProof.Rows
theorem DB {M:Z9}{A:rb}{E:al->ba->Prop}{s:ba}{scope:wp}{globals:ac}{cl:List (bn×ac)}{qual:bn}{env:Mn}{Q:Mn->ba->Prop}
  (h:Q (newEnv scope s.heap.objs.size globals (cellsFrom (s.heap.objs.size+1) scope.names cl) qual none .none (some env) builtinsNs) {s with heap:=pushCells (s.heap.push {cls:=.type "dict",data:=.dict #[]}) scope.names}) :
  wpAny M A (newFunctionEnv scope globals cl [] qual none .none (some env)) Q E s :=by
 simp only[newFunctionEnv,Option.isSome_some,if_true];refine ag (wpAny_alloc ?_);refine ag (wpAny_layCells _ (fun name kind cells=>by cases VS:kind==Tk<;>simp[VS]) _ _ _ _ ?_)
 rw[show ({s with heap:=s.heap.push {cls:=.type "dict",data:=.dict #[]}}:ba).heap.objs.size=s.heap.objs.size+1 from AS ..]
 exact ce h
theorem kn:∀(names:List (bn×Sm)) (h:hX) (cl:List (bn×ac)) (x:bn) (c:ac),(cellsFrom h.objs.size names cl).lookup x=some c->
  ((x,Tk)∈names/\h.objs.size<=c/\(pushCells h names).IsCell c none)\/((∀k,(x,k)∈names->k≠.cell)/\cl.lookup x=some c)
 | [],h,cl,x,c,e=>.inr ⟨fun k z=>by simp at z,e⟩
 |(n,k)::r,h,cl,x,c,e=>by
          unfold cellsFrom at e;unfold pushCells;split at e
          ·rename_i hk;have Ni:k=.cell :=by simpa using hk
           subst Ni;rw[if_pos hk];have sz:(h.push {cls:=.type "cell",data:=.cell none}).objs.size=h.objs.size+1:=AS ..
           rw[<- sz]at e;rcases kn r _ _ x c e with ⟨a,b,d⟩|⟨a,b⟩
           ·exact .inl ⟨i0 _ a,by omega,d⟩
           ·rw[EQ]at b;cases hx:x==n with
            |true=>
             rw[hx]at b;cases b;have e2:x=n :=by simpa using hx
             subst e2;exact .inl ⟨ma,c8 _,⟨_,ZU r _ _ _ (ff _ rfl),rfl⟩⟩
            |false=>
             rw[hx]at b;refine .inr ⟨fun k2 z=>?_,b⟩
             rcases kw.mp z with q|q
             ·cases q;simp at hx
             ·exact a k2 q
          ·rename_i hk;rw[if_neg hk];rcases kn r h cl x c e with ⟨a,b,d⟩|⟨a,b⟩
           ·exact .inl ⟨i0 _ a,b,d⟩
           ·refine .inr ⟨fun k2 z=>?_,b⟩
            rcases kw.mp z with q|q
            ·cases q;intro z;subst z;exact hk rfl
            ·exact a k2 q
theorem cells_apart:∀(names:List (bn×Sm)) (h:hX) (cl:List (bn×ac)) (x y:bn) (c:ac),(∀n c,cl.lookup n=some c->c<h.objs.size)->(∀x y c,cl.lookup x=some c->cl.lookup y=some c->x=y)->(cellsFrom h.objs.size names cl).lookup x=some c->(cellsFrom h.objs.size names cl).lookup y=some c->x=y
 | [],h,cl,x,y,c,_,inj,e,e'=>inj x y c e e'
 |(n,k)::r,h,cl,x,y,c,lt,inj,e,e'=>by
          unfold cellsFrom at e e';split at e
          ·rename_i hk;rw[if_pos hk]at e';have sz:(h.push {cls:=.type "cell",data:=.cell none}).objs.size=h.objs.size+1:=AS ..
           rw[<- sz]at e e';refine cells_apart r _ _ x y c (fun m d z=>?_) (fun x y d a b=>?_) e e'
           ·rw[sz];rw[EQ]at z;cases hm:m==n with
            |true=>rw[hm]at z;cases z;exact Gc _
            |false=>rw[hm]at z;exact KB (lt m d z)
           ·rw[EQ]at a b;have old:∀z,cl.lookup z=some h.objs.size->False:=fun z q=>absurd (lt _ _ q) (ET _)
            cases hx:x==n with
            |true=>
             rw[hx]at a;cases a;cases hy:y==n with
             |true=>rw[show x=n by simpa using hx,show y=n by simpa using hy]
             |false=>rw[hy]at b;exact(old y b).elim
            |false=>
             rw[hx]at a;cases hy:y==n with
             |true=>rw[hy]at b;cases b;exact(old x a).elim
             |false=>rw[hy]at b;exact inj x y d a b
          ·rename_i hk;rw[if_neg hk]at e';exact cells_apart r h cl x y c lt inj e e'
theorem lx:∀(names:List (bn×Sm)) (n:Nat) (cl:List (bn×ac)) (x:bn),((x,Tk)∈names\/∃c,cl.lookup x=some c)->∃c,(cellsFrom n names cl).lookup x=some c
 | [],n,cl,x,h=>by
          rcases h with h|h
          ·simp at h
          ·exact h
 |(y,k)::r,n,cl,x,h=>by
          unfold cellsFrom;split
          ·rename_i hk;refine lx r _ _ x ?_;by_cases e:x=y
           ·subst e;exact .inr ⟨n,by rw[EQ];simp⟩
           ·rcases h with h|⟨c,h⟩
            ·rcases kw.mp h with q|q
             ·cases q;exact absurd rfl e
             ·exact .inl q
            ·exact .inr ⟨c,by rw[EQ,show (x==y)=false by simpa using e];exact h⟩
          ·rename_i hk;refine lx r _ _ x ?_;rcases h with h|h
           ·rcases kw.mp h with q|q
            ·cases q;exact absurd rfl hk
            ·exact .inl q
           ·exact .inr h
theorem A8 {X:Cx}{pins:List (ac×li)}{σ:St}{H:Hp}{s:ba}(I:Inv X pins σ H s) {x:bn}{c:ac}(h:X.env.cells.lookup x=some c):c<s.heap.objs.size :=by
 obtain⟨v,o,ho,_⟩:=I.cell x c h;exact ij ho
abbrev Ij (X:Cx) (N':List bn) (scope:wp) (cl:List (bn×ac)) (C:ac) (s:ba) (H:Hp) (fp:List ac) (own:bn->Bool):Cx:={y7 X N' scope cl C s H fp with fn:=own}
def cc (N:List bn) (sc scope:wp) (N':List bn) (tn:Nat) (idx:List Nat):Prop:=
 scope.kind=.function/\(∀y∈scope.names,(y.2=.cell->scope.names.lookup y.1=some .cell)/\(y.2=.local->scope.names.lookup y.1=some .local)/\(y.2=.free->sc.names.lookup y.1=some .cell\/sc.names.lookup y.1=some .free)) /\
  N'.length=tn+idx.length/\∀p∈idx.zip (N'.drop tn),N[p.1]?=some p.2/\scope.names.lookup p.2=some .free
instance (N:List bn) (sc scope:wp) (N':List bn) (tn:Nat) (idx:List Nat):Decidable (cc N sc scope N' tn idx) :=by unfold cc;infer_instance
theorem cc.at {N:List bn}{sc scope:wp}{N':List bn}{tn:Nat}{idx:List Nat}(B:cc N sc scope N' tn idx) {σ:St}{i:Nat}{x:bn}{v:V}(h1:N'[i]?=some x) (h2:(bg tn idx σ)[i]?=some (some v)) :
  scope.names.lookup x=some .free/\∃j:Nat,N[j]?=some x/\σ[j]?=some (some v) :=by
 obtain⟨_,_,b3,b4⟩:=B;unfold bg at h2;by_cases hi:i<tn
 ·rw[ut (by simpa using hi),BS,if_pos hi]at h2
  cases h2
 ·rw[wS (by simpa using hi),Fa,br]at h2
  cases e:idx[i - tn]? with
  |none=>rw[e]at h2;cases h2
  |some k=>
   rw[e]at h2;have h3:(σ[k]?).join=some v:=i8 h2;have e2:(N'.drop tn)[i - tn]?=some x :=by
    rw[Zg];have:tn+(i - tn)=i :=by omega
    rw[this];exact h1
   have m:(k,x)∈idx.zip (N'.drop tn) :=by
    refine dL (i:=i - tn) ?_;rw[zd];exact⟨e,e2⟩
   obtain⟨a,b⟩:=b4 _ m;refine⟨b,k,a,?_⟩;cases q:σ[k]? with
   |none=>rw[q]at h3;cases h3
   |some w=>rw[q]at h3;exact congrArg some h3
theorem cc.len {N:List bn}{sc scope:wp}{N':List bn}{tn:Nat}{idx:List Nat}(B:cc N sc scope N' tn idx) (σ:St):(bg tn idx σ).length=N'.length :=by
 rw[B.2.2.1];unfold bg;simp
def gL (scope:wp) (x:bn):Bool:=scope.names.lookup x==some .cell
abbrev eT (X:Cx) (N':List bn) (scope:wp) (P:Cx->Prop):Prop:=∀(cl:List (bn×ac)) (C:ac) (s:ba) (H:Hp) (fp:List ac),P (Ij X N' scope cl C s H fp (gL scope))
theorem A9 {X:Cx}{pins:List (ac×li)}{σ aF:St}{H H':Hp}{s:ba}{N':List bn}{scope:wp}{cs:List (bn×ac)}{C:ac}{ex:List ac}{h1:hX}{m0:bn->Option al}{g':Array X7}{tk:Nat}
  (I:Inv X pins σ H s) (oX:scope.kind=.function)
  (eY:∀n c,cs.lookup n=some c->(gL scope n=true/\C<c/\h1.IsCell c none/\H' c=none)\/(gL scope n=false/\X.env.cells.lookup n=some c))
  (Ut:∀x y c,cs.lookup x=some c->cs.lookup y=some c->x=y)
  (ql:∀x,((relabel scope X.env).names.lookup x=some .cell\/(relabel scope X.env).names.lookup x=some .free)->∃c,cs.lookup x=some c)
  (hC:s.heap.objs.size<=C) (hf:∀b∈ex,cH X pins H b) (Aw:∀b∈ex,b<s.heap.objs.size)
  (Cy:Un (d6 X.stack) ex H H' s.heap h1) (hok:cS X.prog X.w H' h1) (we:H' C=none) (rJ:∀b o,s.heap.get? b=some o->h1.get? b=some o) (d9:h1.Ns C m0)
  (wg:∀(i:Nat) (x:bn) (v:V),N'[i]?=some x->aF[i]?=some (some v)->gL scope x=false/\((relabel scope X.env).names.lookup x=some .cell\/(relabel scope X.env).names.lookup x=some .free)/\pP X.env.scope x/\(X.env.kindOf x=some .cell\/X.env.kindOf x=some .free)/\∃j:Nat,X.N[j]?=some x/\σ[j]?=some (some v))
  (hlen:aF.length=N'.length) (hg:Gn s.gens.size g'):Inv (Ij X N' scope cs C s H ex (gL scope)) [] aF H' {s with heap:=h1,gens:=g',toks:=tk}:=by
 have Cz:∀b∈ex,∀x c,X.env.cells.lookup x=some c->c≠b:=fun b hb=>(hf b hb).2.2.2.2.1
 have VU:∀b∈ex,∀x c,cs.lookup x=some c->c≠b:=fun b hb x c e z=>by
  rcases eY x c e with ⟨_,q,_⟩|⟨_,q⟩
  ·subst z;exact absurd (Yc (Pe hC q) (Aw _ hb)) (ET _)
  ·exact Cz b hb x c q z
 refine⟨⟨I.ok.mod,oX,I.ok.glob,I.ok.blt,hC,Ut,ql,fun x c hx e=>?_,fun z=>I.ok.hd z,I.ok.frames,.inl rfl,fun b hb=>⟨l7 (l9 (Aw b hb) hC),fun x c e=>VU b hb x c e⟩,
   I.bs,wr I.ok.bsz I.sz,fun b o e hb=>?_,fun b hb z=>?_,I.stack,I.lW⟩,rfl,hg,Cy,⟨m0,d9,fun i x v e1 e2 e3=>?_⟩,fun x c e=>?_,we,fun x c e=>?_,fun p hp=>absurd (show p∈([]:List (ac×li)) from hp) (by simp),hok,hlen⟩
 ·rcases eY x c e with ⟨_,q,_⟩|⟨q,_⟩
  ·exact ON (Pe hC q)
  ·have lY:gL scope x=true:=hx;rw[q]at lY;cases lY
 ·rcases (hf b hb).2.2.2.1 with z|z
  ·exact I.ok.noex b o e z
  ·exact absurd (l9 (ij e) (wr I.ok.bsz z)) (ET _)
 ·rcases kw.mp (I.gh b z) with q|q
  ·exact(hf b hb).2.1 q
  ·exact(hf b hb).2.2.1 q
 ·obtain⟨k0,k1,vx,k2,j,n1,n2⟩:=wg i x v e1 e2;obtain⟨m,hn,hl⟩:=I.loc;obtain⟨u,r,l⟩:=hl j x v n1 n2 vx;refine⟨u,r,.inr ⟨k1,?_⟩⟩;obtain⟨c',CA⟩:=ql x k1;rcases l with ⟨kl,_⟩|⟨_,c,ec,z⟩
  ·rcases k2 with q|q<;>(rw[kl]at q;cases q)
  ·rcases eY x c' CA with ⟨q,_⟩|⟨_,q⟩
   ·rw[k0]at q;cases q
   ·have:c'=c:=i8 (q.symm.trans ec);subst this;exact⟨c',CA,z.keeps rJ⟩
 ·rcases eY x c e with ⟨_,_,q,_⟩|⟨_,q⟩
  ·exact⟨_,q⟩
  ·obtain⟨v,z⟩:=I.cell x c q;exact⟨v,z.keeps rJ⟩
 ·rcases eY x c e with ⟨_,_,_,q⟩|⟨_,q⟩
  ·exact q
  ·obtain⟨v,o,ho,hd⟩:=I.cell x c q;exact Cy.free c o ho (I.freeC x c q) fun z=>Cz c z x c q rfl
section
variable {X:Cx}
theorem compG_coreC {pins:List (ac×li)}{σ:St}{H2:Hp}{s2:ba}{e tg iter:db}{ifs:List db}{scope:wp}{N':List bn}{tn:Nat}{idx:List Nat}{g:TG}{tt:TT}{tb:ac->TB}{body:al->Mn->YD Unit}{it:ac}{fp:List ac}{bw:Nat->hX->Prop}{J:It}
  {cl:List (bn×ac)} {E:al->ba->Prop} {RR:al->ac->Ze->ba->Prop} {Q:VK} {mk:YD al} {O0:HO} {o0:li}
  (MR:∀(Q:al->ba->Prop),Q (.ref s2.heap.objs.size) {s2 with heap:=s2.heap.push o0}->wpAny (model X.prog X.w) X.A mk Q E s2) (Cw:o0.isFreed=false)
  (MS:∀(H:Hp) (h1:hX),h1.get? s2.heap.objs.size=some o0->ObjOk X.prog X.w H h1 s2.heap.objs.size O0)
  (hc:X.calm=true) (B:cc X.N X.env.scope scope N' tn idx)
  (SM:∀(D:ac),eT X N' scope fun Y=>Ay Y e tg iter ifs 0 (.ref D) (body (.ref D) Y.env))
  (hg:eT X N' scope fun Y=>PG Y tg g) (ht:eT X N' scope fun Y=>gT Y ifs tt) (hb:∀D,eT X N' scope fun Y=>PB Y (body (.ref D) Y.env) (tb D))
  (I:Inv X pins σ H2 s2) (T:Turn X.prog X.w X.K tg J fp it bw) (st:bw 0 s2.heap) (f2:∀b∈fp,cH X pins H2 b)
  (c9:∀n c,cl.lookup n=some c->X.env.cells.lookup n=some c) (ee:∀n,(n,v6)∈scope.names->∃c,cl.lookup n=some c)
  (hq:∀D,H2 D=none->∃W:Nat->Nat->St->Hp->Prop,(∃m,W 0 m (bg tn idx σ) (upd H2 D O0))/\vG J g tt (tb D) (fun _ H'=>Q (.ref D) H') W)
  (wj:∀D C m s' H',Inv X pins σ H' s'->cH X pins H' C->s'.heap.Ns C m->Q (.ref D) H'->RR (.ref D) C (.ok .next) s') :
  wpAny (model X.prog X.w) X.A mk (fun acc jj=>wpAny (model X.prog X.w) X.A (newFunctionEnv scope X.env.globals cl [] X.env.qual none .none (some X.env)) (fun j1 qm=>
   codeAny (model X.prog X.w) X.A (.compStart e 0 (.ref it) acc {j1 with scope:=relabel scope X.env}) (RR acc j1.locals) qm) E jj) E s2 :=by
 obtain⟨b1,b2,b3,b4⟩:=id B;refine MR _ (DB ?_);dsimp only;generalize hG:s2.heap.push o0=G
 have hC:G.objs.size=s2.heap.objs.size+1 :=by rw[<- hG,AS]
 generalize Ol:pushCells (G.push {cls:=.type "dict",data:=.dict #[]}) scope.names=gb
 have nN:gb.Ns G.objs.size fun _=>none :=by rw[<- Ol];exact(hX.Ns.new G (.type "dict")).keeps (ZU _ _)
 have oo:∀b o,G.get? b=some o->gb.get? b=some o:=fun b o e=>by rw[<- Ol];exact ZU _ _ b o (cb _ e)
 have Hx:s2.heap.objs.size≠G.objs.size :=by rw[hC];exact l7 (Gc _)
 have mM:s2.heap.objs.size<=G.objs.size :=by rw[hC];exact LF _
 have below:∀b,b<s2.heap.objs.size->b≠G.objs.size:=fun b hb=>by rw[hC];exact l7 (KB hb)
 have old:∀b o,s2.heap.get? b=some o->gb.get? b=some o:=fun b o e=>oo b o (hG▸cb _ e)
 have MU:gb.get? s2.heap.objs.size=some o0:=oo _ _ (hG▸ff _ Cw);generalize xj:cellsFrom (G.objs.size+1) scope.names cl=cs
 have Ik:(G.push {cls:=.type "dict",data:=.dict #[]}).objs.size=G.objs.size+1:=AS ..
 have Om:∀x,(x,Tk)∈scope.names->gL scope x=true:=fun x hx=>by
  unfold gL;rw[(b2 _ hx).1 rfl];rfl
 have Kg:∀x,(∀k,(x,k)∈scope.names->k≠Tk)->gL scope x=false:=fun x hx=>by
  unfold gL;cases q:scope.names.lookup x with
  |none=>rfl
  |some k=>have:=hx k (xp q);simpa using this
 have look:∀x c,cs.lookup x=some c->(gL scope x=true/\G.objs.size<c/\gb.IsCell c none)\/(gL scope x=false/\cl.lookup x=some c):=fun x c e=>by
  rw[<- xj,<- Ik]at e;rcases kn scope.names _ cl x c e with ⟨a,b,d⟩|⟨a,b⟩
  ·rw[Ol]at d;rw[Ik]at b;exact .inl ⟨Om x a,b,d⟩
  ·exact .inr ⟨Kg x a,b⟩
 have inj:∀x y c,cs.lookup x=some c->cs.lookup y=some c->x=y:=fun x y c e e'=>by
  rw[<- xj,<- Ik]at e e';refine cells_apart scope.names _ cl x y c (fun n d z=>?_) (fun x y d a b=>I.ok.inj x y d (c9 x d a) (c9 y d b)) e e'
  rw[Ik,hC];exact KB (KB (A8 I (c9 n d z)))
 have CC:H2 s2.heap.objs.size=none:=I.hok.fresh (c8 _);have we:upd H2 s2.heap.objs.size O0 G.objs.size=none :=by rw[af (AN Hx)];exact I.hok.fresh mM
 have Fv:cS X.prog X.w (upd H2 s2.heap.objs.size O0) gb:=I.hok.laid old (c8 _) (MS _ _ MU);have nu:∀b∈fp,b<s2.heap.objs.size:=fun b hb=>let ⟨o,e,_⟩:=T.obj _ _ st b hb;ij e
 obtain⟨W,⟨m0,w0⟩,turn⟩:=hq s2.heap.objs.size CC;have I1:Inv (Ij X N' scope cs G.objs.size s2 H2 fp (gL scope)) [] (bg tn idx σ) (upd H2 s2.heap.objs.size O0) {s2 with heap:=gb,toks:=s2.toks}:=by
  refine A9 (g':=s2.gens) (m0:=fun _=>none) I b1 (fun n c e=>?_) inj (fun x hx=>?_) mM f2 nu (Un.laid old (c8 _) CC) Fv we old nN (fun i x v e1 e2=>?_) (B.len σ) I.bare.self
  ·rcases look n c e with ⟨o,a,b⟩|⟨o,a⟩
   ·refine .inl ⟨o,a,b,?_⟩;have:c≠s2.heap.objs.size:=fun z=>by rw[z,hC]at a;exact absurd (Yc a (Gc _)) (fun h=>by omega)
    rw[af this];exact I.hok.fresh (ON (Pe mM a))
   ·exact .inr ⟨o,c9 n c a⟩
  ·rw[fG]at hx;rw[<- xj];cases q:scope.names.lookup x with
   |none=>rw[q]at hx;rcases hx with z|z<;>cases z
   |some k0=>
    have hm:=xp q;rw[q]at hx;by_cases hk:k0=.free
    ·subst hk;exact lx _ _ _ _ (.inr (ee x hm))
    ·have nk:(k0==v6)=false :=by simpa using hk
     simp only[AT,nk,WF,l6,if_false]at hx;rcases hx with z|z
     ·have e0:k0=.cell:=i8 z;subst e0;exact lx _ _ _ _ (.inl hm)
     ·exact absurd (i8 z) hk
  ·obtain⟨fr,j,e4,e5⟩:=B.at e1 e2;have kx:=(b2 _ (xp fr)).2.2 rfl;refine⟨by unfold gL;rw[fr];rfl,?_,.inr kx,kx,j,e4,e5⟩
   rw[fG,fr];simp only[AT];split
   ·exact .inl rfl
   ·exact .inr rfl
 have stat:∀{H':Hp},(∀b∈fp,H' b=none)->∀b∈fp,cH (Ij X N' scope cs G.objs.size s2 H2 fp (gL scope)) [] H' b:=fun hn b hb=>by
  refine⟨hn b hb,below b (nu b hb),fun z=>?_,.inl hb,(fun x c e=>by
   rcases look x c e with ⟨_,a,_⟩|⟨_,a⟩
   ·exact fun z=>absurd (Yc (Pe mM (z▸a)) (nu b hb)) (ET _)
   ·exact(f2 b hb).2.2.2.2.1 x c (c9 x c a)),fun p hp=>absurd (show p∈([]:List (ac×li)) from hp) (by simp)⟩
  rcases kw.mp (I.gh b z) with q|q
  ·exact(f2 b hb).2.1 q
  ·exact(f2 b hb).2.2.1 q
 have CD:bw 0 gb:=T.keep _ _ _ st fun b _ o e=>old b o e
 refine rK (SM _ cs G.objs.size s2 H2 fp) T CD (uB hc (fun _ _ z=>z) (SM _ cs G.objs.size s2 H2 fp) (hg cs G.objs.size s2 H2 fp) (ht cs G.objs.size s2 H2 fp) (hb _ cs G.objs.size s2 H2 fp) T turn I1 CD (stat fun b hb=>by rw[af (l7 (nu b hb))];exact(f2 b hb).1) w0 fun bW H' s' I4 qn=>?_)
 have J2:Inv X pins σ H' s':=I.rh I4.os I4.base I4.hok I4.bare fun b hb=>⟨(f2 b hb).2.2.2.1,(f2 b hb).2.1,(f2 b hb).2.2.2.2.1,(f2 b hb).2.2.2.2.2⟩
 obtain⟨mm,hm,_⟩:=I4.loc;exact wj _ _ mm s' H' J2 (I.ji mM I4.free) hm qn
theorem sD {pins:List (ac×li)}{σ:St}{H2:Hp}{s2:ba}{tg elt iter:db}{ifs:List db}{scope:wp}{pos:wE}{N':List bn}{tn:Nat}{idx:List Nat}{g:TG}{tt:TT}{te:TE}{it:ac}{fp:List ac}{bw:Nat->hX->Prop}{J:It}
  {cl:List (bn×ac)} {E:al->ba->Prop} {RR:al->ac->Ze->ba->Prop} {Q:VK}
  (hc:X.calm=true) (B:cc X.N X.env.scope scope N' tn idx)
  (hg:eT X N' scope fun Y=>PG Y tg g) (ht:eT X N' scope fun Y=>gT Y ifs tt) (he:eT X N' scope fun Y=>PE Y elt te)
  (I:Inv X pins σ H2 s2) (T:Turn X.prog X.w X.K tg J fp it bw) (st:bw 0 s2.heap) (f2:∀b∈fp,cH X pins H2 b)
  (c9:∀n c,cl.lookup n=some c->X.env.cells.lookup n=some c) (ee:∀n,(n,v6)∈scope.names->∃c,cl.lookup n=some c)
  (hq:∀D,H2 D=none->∃W:Nat->Nat->St->Hp->Prop,(∃m,W 0 m (bg tn idx σ) (upd H2 D (.lst [])))/\rN J g tt te D Q W)
  (wj:∀D C m s' H',Inv X pins σ H' s'->cH X pins H' C->s'.heap.Ns C m->Q (.ref D) H'->RR (.ref D) C (.ok .next) s') :
  wpAny (model X.prog X.w) X.A (newList []) (fun acc jj=>wpAny (model X.prog X.w) X.A (newFunctionEnv scope X.env.globals cl [] X.env.qual none .none (some X.env)) (fun j1 qm=>
   codeAny (model X.prog X.w) X.A (.compStart (.ListComp elt [⟨tg,iter,ifs,0⟩] scope pos) 0 (.ref it) acc {j1 with scope:=relabel scope X.env}) (RR acc j1.locals) qm) E jj) E s2:=
 compG_coreC (body:=fun acc env=>do let _ <- call (.builtin "list.append") [acc,<- eval elt env]) (tb:=fun D=>rL D te) (O0:=.lst []) (o0:={cls:=.type "list",dict:=none,data:=.seq ([]:List al).toArray}) (fun Q q=>zw q) rfl (fun H h1 hd=>⟨xb _,[],0,.nil,hd⟩) hc B
  (fun D cl C s H fp=>⟨fun _=>rfl,fun _ _ _ _ h=>h,fun _=>wk ..,fun _ _ _ _ h=>h,rfl⟩) hg ht (fun D cl C s H fp=>y8 (he cl C s H fp)) I T st f2 c9 ee (fun D hD=>let ⟨W,hm,turn⟩:=hq D hD;⟨W,hm,rO turn⟩) wj
variable {tg elt iter:db}{ifs:List db}{scope:wp}{pos:wE}{N':List bn}{tn:Nat}{idx:List Nat}{wi:TI}{g:TG}{tt:TT}{te:TE}
theorem xk (hc:X.calm=true) (B:cc X.N X.env.scope scope N' tn idx) (hi:PI X tg iter wi)
  (hg:eT X N' scope fun Y=>PG Y tg g) (ht:eT X N' scope fun Y=>gT Y ifs tt) (he:eT X N' scope fun Y=>PE Y elt te)
  (hs:∀x,foldedSetIterable iter X.env x=pure x :=by intro _;rfl):PE X (.ListComp elt [⟨tg,iter,ifs,0⟩] scope pos) (oY tn idx wi g tt te) :=by
 refine⟨?_⟩;intro pins s σ H Q I h;obtain⟨cl,gC,c9,ee⟩:=fR (scope:=scope) (env:=X.env) fun n hn=>I.ok.has n ((B.2.1 _ hn).2.2 rfl)
 rw[eval_ListComp];refine SC (use:=none) rfl hs gC B.1 (fun y hy=>(B.2.1 y hy).2.1) (mf (hi pins s σ H _ I h) (fun xv s1 h1=>mf h1 (fun vX s2 h2=>?_) fun _ _ z=>z) fun _ _ z=>z)
 obtain⟨it,fp,bw,J,H2,e,I2,T,nG,f2,q2⟩:=h2;subst e;refine sD (RR:=fun acc C=>compPost (model X.prog X.w) X.A X.xe none (EP X pins σ Q) acc C) hc B hg ht he I2 T nG f2 c9 ee q2 fun D C m s' H' J2 fC hm q=>?_
 exact⟨m,hm,fun h' pV=>⟨.ref D,H',fC.turn J2 pV,rfl,q⟩⟩
variable {Γ:Gz}
theorem oq {zi:fc}{g:cE}{tt:cL}{te:aK}(hc:X.calm=true) (B:cc X.N X.env.scope scope N' tn idx) (hi:QI Γ X tg iter zi)
  (hg:eT X N' scope fun Y=>QG Γ Y tg g) (ht:eT X N' scope fun Y=>p7 Γ Y ifs tt) (he:eT X N' scope fun Y=>QE Γ Y elt te)
  (hs:∀x,foldedSetIterable iter X.env x=pure x :=by intro _;rfl):QE Γ X (.ListComp elt [⟨tg,iter,ifs,0⟩] scope pos) (zComp tn idx zi g tt te):=(xk hc B hi hg ht he hs).imp fun σ H Q h=>wZ h
theorem yH {i:Nat}{y:bn}{py gZ:wE}(hN:X.N.Nodup) (dQ:X.N[i]?=some y) (hy:X.env.scope.names.lookup y=some .local) (hc:X.calm=true) (B:cc X.N X.env.scope scope N' tn idx) (hi:PI X tg iter wi)
  (hg:eT X N' scope fun Y=>PG Y tg g) (ht:eT X N' scope fun Y=>gT Y ifs tt) (he:eT X N' scope fun Y=>PE Y elt te)
  (rQ:swapsWith (.ListComp elt [⟨tg,iter,ifs,0⟩] scope pos) (some (.Name y py)) gZ.line X.env=pure true :=by rfl)
  (hs:∀x,foldedSetIterable iter X.env x=pure x :=by intro _;rfl):PS X (.Assign [.Name y py] (.ListComp elt [⟨tg,iter,ifs,0⟩] scope pos) gZ) (sX (oY tn idx wi g tt te) (rq i)) :=by
 refine⟨?_⟩;intro pins s σ H D I h;obtain⟨cl,gC,c9,ee⟩:=fR (scope:=scope) (env:=X.env) fun n hn=>I.ok.has n ((B.2.1 _ hn).2.2 rfl)
 rw[exec_Assign_Name_used _ _ _ _ rQ];refine ag (Db (ag ?_));show wpAny _ X.A (do let _ <- comprehension (.ListComp elt [⟨tg,iter,ifs,0⟩] scope pos) scope X.env _ (newList []) false (eval iter X.env) (some (assign (.Name y py) X.env))) _ _ s;refine ag (mf (SC (use:=some (assign (.Name y py) X.env)) (Q:=fun _ s'=>SP X pins D .next s') rfl hs gC B.1 (fun y hy=>(B.2.1 y hy).2.1)
  (mf (hi pins s σ H _ I h) (fun xv s1 h1=>mf h1 (fun vX s2 h2=>?_) fun _ _ z=>z) fun _ _ z=>z)) (fun _ s' hq=>ce (ce hq)) fun _ _ z=>z)
 obtain⟨it,fp,bw,J,H2,e,I2,T,nG,f2,q2⟩:=h2;subst e;refine sD (RR:=fun acc C=>compPost (model X.prog X.w) X.A X.xe (some (assign (.Name y py) X.env)) (fun _ s'=>SP X pins D .next s') acc C) hc B hg ht he I2 T nG f2 c9 ee q2 fun E C m s' H' J2 fC hm q=>?_
 show wpAny _ X.A (assign (.Name y py) X.env (.ref E)) _ _ s';refine Zt (store_ok2 J2 hN dQ (.inl hy) (v:=.ref E) rfl (fun s3 J3 ⟨a,y9,ha⟩=>?_) (.inr hy))
 have dz:C≠a :=by
  rcases ha with z|z
  ·rw[z];exact fC.2.1
  ·exact fun w=>fC.2.2.2.2.1 _ _ z w.symm
 exact⟨m,hm.sameBut y9 dz,fun h' pV=>⟨_,H',fC.turn J3 pV,q⟩⟩
end
theorem F9 {scope:wp}{env:Mn}{x:bn}(h:scope.names.lookup x=some .cell\/scope.names.lookup x=some .free):(relabel scope env).names.lookup x=some .cell\/(relabel scope env).names.lookup x=some .free :=by
 rw[fG];rcases h with h|h
 ·rw[h];exact .inl rfl
 ·rw[h];simp only[AT];split
  ·exact .inl rfl
  ·exact .inr rfl
theorem aH.rel {N:List bn}{sc scope:wp}{env:Mn}{N':List bn}{tn:Nat}{idx:List Nat}(B:aH N sc scope N' tn idx):aH N (relabel sc env) scope N' tn idx:=
 ⟨B.1,fun y hy=>⟨(B.2.1 y hy).1,(B.2.1 y hy).2.1,fun z=>F9 ((B.2.1 y hy).2.2 z)⟩,B.2.2.1,B.2.2.2⟩
end L2
namespace L2
open PySem PySem.Spec PySem.W PyProof.Rows
section
variable {X:Cx}{Γ:Gz}{β:Bz}{K:bi}
def zInI (neg:Bool):dI:=fun d e M Q=>match d,(itemsM M e).bind cW with | .int i,some ns=>Q (.bl (if neg then !decide (i∈ns) else decide (i∈ns))) M|_,_=>False
theorem xl (i:Int):∀ns:List Int,Cm (.int i) (ns.map V.int)=decide (i∈ns)
 | []=>by simp[Cm]
 |n::ns=>by
          have ih:=xl i ns;unfold Cm at ih ⊢;rw[ss,XU,ih];simp only[rE];by_cases h:n=i
          ·subst h;simp
          ·have h':¬ i=n:=fun z=>h z.symm
           simp[h,h']
theorem Kh {neg:Bool}:p0 Γ (MI K neg) (zInI neg):=fun β x y d e M H Q Q' _ _ _ m rx ry z q=>by
 unfold zInI at z;split at z
 ·rename_i i ns d9;obtain⟨a,rfl,ha⟩:=uR m ry d9;have ex:=aL rx;subst ex;refine⟨a,ns.map V.int,rfl,ha.imp bo.of cw.of,rfl,?_,?_⟩
  ·rw[wn];intro v hv;obtain⟨n,_,rfl⟩:=on.mp hv;rfl
  ·rw[xl];exact q _ _ _ _ (.refl m) (.bl _) z
 ·exact z.elim
theorem Ga (hK:X.K=K):dR Γ X (compareOp .In) (zInI false):=⟨_,AD hK,Kh⟩
def boolsD:List Dv->Option (List Bool)
 | []=>some []
 | .bl b::ds=>(boolsD ds).map (b::·)
 |_::_=>none
theorem uV:∀{ds:List Dv}{bs:List Bool},boolsD ds=some bs->ds=bs.map Dv.bl
 | [],bs,h=>by simp only[boolsD,Lo]at h;subst h;rfl
 |d::ds,bs,h=>by
          cases d with
          |bl b=>
           simp only[boolsD,lc]at h;obtain⟨ms,h,rfl⟩:=h;rw[uV h];rfl
          |_=>simp[boolsD]at h
theorem jC:∀bs:List Bool,boolsD (bs.map Dv.bl)=some bs
 | []=>rfl
 |n::ns=>by simp[boolsD,jC ns]
theorem uW {M:Mh}{H:Hp}:∀{vs:List V}{bs:List Bool},aG β M H vs (bs.map Dv.bl)->vs=bs.map V.bl
 | [],[],_=>rfl
 | [],_::_,r=>absurd r.len (by simp)
 |_::_,[],r=>absurd r.len (by simp)
 |v::vs,n::ns,r=>by
          rw[ss]at r;rw[ss,dn r.head,uW r.tail]
def zAllB (d:Dv) (M:Mh) (Q:ZK):Prop:=match d with | .lst ds=>(match boolsD ds with|some bs=>Q (.bl (bs.all id)) M|none=>False)|_=>False
theorem DC (hK:X.K=K) (hc:X.calm=true):ft Γ X (.builtin "all") (z1 zAllB):=⟨_,AR hK hc,fun β xs ds M H Q Q' _ _ _ m rs z q=>by
 unfold z1 at z;split at z
 ·obtain⟨x,rfl,r⟩:=dD rs;unfold zAllB at z;split at z
  ·split at z
   ·rename_i bs VW;obtain⟨a,vs,rfl,f,ha,bZ⟩:=cg r;have e:=uV VW;subst e;have:=uW bZ;subst this;exact⟨a,bs,rfl,bo.of ha,q _ _ _ _ (.refl m) (.bl _) z⟩
   ·exact z.elim
  ·exact z.elim
 ·exact z.elim⟩
theorem Pin.mono {M M':Mh}{d:Dv}(h:Pin M d):(∀a,(M a).isSome=true->(M' a).isSome=true)->Pin M' d :=by
 intro k;induction h with
 |int i=>exact .int i
 |bl b=>exact .bl b
 |au=>exact .au
 |str z=>exact .str z
 |tup h ih=>exact .tup ih
 |lst h ih=>exact .lst ih
 |dk h ih=>exact .dk ih
 |dt h ih=>exact .dt ih
 |bS h ih=>exact .bS ih
 |set ns=>exact .set ns
 |ptr h=>exact .ptr (k _ h)
 |exc C=>exact .exc C
 |bB ns=>exact .bB ns
 |raw v=>exact .raw v
def cZ (M:Mh) (a:ac):Mh:=fun b=>if b=a then none else M b
theorem eU {M:Mh}{a:ac}:cZ M a a=none :=by unfold cZ;rw[if_pos rfl]
theorem dq {M:Mh}{a b:ac}(h:b≠a):cZ M a b=M b :=by unfold cZ;rw[if_neg h]
theorem Ba {M:Mh}{a:ac}{o:Mo}(h:M a=none):cZ (aw M a o) a=M :=by
 funext b
 unfold cZ aw;by_cases e:b=a
 ·rw[if_pos e,e,h]
 ·rw[if_neg e,if_neg e]
structure Oo (M1 M:Mh) (ρ:az):Prop where
 env:∀(i:Nat) (d:Dv),ρ[i]?=some (some d)->Pin M d
 obj:∀b o,M b=some o->M1 b=some o\/∀d∈o.items,Pin M d
theorem Zr.freeze {M:Mh}{ρ:az}{σ:St}{H:Hp}{i:Nat}{a:ac}{ds:List Dv}(z:Zr Γ β M ρ σ H) (hi:ρ[i]?=some (some (.ptr a))) (ha:M a=some (.lst ds)) (h0:Γ.M0 a=none) (fr:Oo Γ.M0 (cZ M a) (ρ.set i (some (.lst ds)))) :
  Zr Γ β (cZ M a) (ρ.set i (some (.lst ds))) σ H/\Ev β M H (cZ M a) H :=by
 have rz:∀{v:V} {d:Dv},Rz β M H v d->Pin (cZ M a) d->Rz β (cZ M a) H v d:=fun r p=>r.pB (M0:=cZ M a) (fun b hb=>by
  by_cases e:b=a
  ·rw[e,eU]at hb;cases hb
  ·rw[dq e]at hb;exact hb) p
 have mx:i<ρ.length:=(bv.mp hi).1;have VX:∀d∈ds,Pin (cZ M a) d:=fun d hd=>by
  have:=fr.env i (.lst ds) (by rw[Yn mx])
  cases this with|lst h=>exact h d hd
 have obj:∀b es,cZ M a b=some es->∀d∈es.items,Pin (cZ M a) d:=fun b es e d hd=>by
  rcases fr.obj b es e with q|q
  ·refine(z.wf b es q d hd).mono fun c hc=>?_
   have nc:c≠a:=fun w=>by rw[w,h0]at hc;cases hc
   rw[dq nc];exact z.ent.dom c hc
  ·exact q d hd
 have mz:Mz β (cZ M a) H :=by
  refine⟨fun b o e=>?_,z.mz.tabs,z.mz.hids,fun b o e=>?_,z.mz.lams⟩
  ·have nb:b≠a:=fun q=>by rw[q,eU]at e;cases e
   have e':M b=some o :=by rw[dq nb]at e;exact e
   have q:=z.mz.obj b o e';cases o with
   |lst es=>obtain⟨vs,hv,rs⟩:=q;exact⟨vs,hv,rs.len,fun j v d x y=>rz (rs.at' j v d x y) (obj b _ e d (dL y))⟩
   |dk ks es=>obtain⟨vs,hv,hk,rs⟩:=q;exact⟨vs,hv,hk,rs.len,fun j v d x y=>rz (rs.at' j v d x y) (obj b _ e d (dL y))⟩
   |dt ks es=>obtain⟨vs,hv,hk,rs⟩:=q;exact⟨vs,hv,hk,rs.len,fun j v d x y=>rz (rs.at' j v d x y) (obj b _ e d (dL y))⟩
   |dA=>exact q
  ·have nb:b≠a:=fun q=>by rw[q,eU]at e;cases e
   rw[dq nb]at e;exact z.mz.apart b o e
 refine⟨⟨z.eP,z.ew,z.eK,z.et,z.sub,z.wf,⟨z.ent.keep,fun b hb=>?_,fun b o m h=>?_⟩,mz,by simp[z.len],fun j d e=>?_⟩,⟨fun b o _ h=>.inl h,fun b o m h=>?_,mz⟩⟩
 ·have nb:b≠a:=fun q=>by rw[q,h0]at hb;cases hb
  rw[dq nb];exact z.ent.dom b hb
 ·by_cases e:b=a
  ·rw[e,eU]
  ·rw[dq e];exact z.ent.new b o m h
 ·have p:=fr.env j d e;rw[Ll]at e;split at e
  ·rename_i q;subst q;first
    |cases e
    |(rw[if_pos mx]at e;cases e)
   obtain⟨v,hv,r⟩:=z.at' i _ hi;obtain⟨rfl,_⟩:=cj r;obtain⟨vs,hl,rs⟩:=z.mz.obj a _ ha;refine⟨_,hv,.lst ⟨eU,z.mz.apart a _ ha⟩ hl rs.len fun k v d x y=>rz (rs.at' k v d x y) (VX d (dL y))⟩
  ·obtain⟨v,hv,r⟩:=z.at' j d e;exact⟨v,hv,rz r p⟩
 ·by_cases e:b=a
  ·rw[e,eU]
  ·rw[dq e];exact m
def Uu (i:Nat) (M0:Mh) (p:bX):bX:=fun D ρ M=>p D ρ M\/∃a ds,ρ[i]?=some (some (.ptr a))/\M a=some (.lst ds)/\M0 a=none/\Oo M0 (cZ M a) (ρ.set i (some (.lst ds)))/\p D (ρ.set i (some (.lst ds))) (cZ M a)
theorem DE (i:Nat) {M1:Mh}{st:tw}{p:bX}(hM:Γ.M0=M1) (h:QS Γ X st p):QS Γ X st (Uu i M1 p):=h.imp fun D σ H ⟨β,ρ,M,D',zr,h,r⟩=>by
 rcases h with h|⟨a,ds,hi,ha,h0,fr,h⟩
 ·exact⟨β,ρ,M,D',zr,h,r⟩
 ·obtain⟨z2,e2⟩:=zr.freeze hi ha (by rw[hM];exact h0) (by rw[hM];exact fr)
  exact⟨β,_,_,D',z2,h,r.step e2⟩
end
def Oq (i:Int):al->Bool
 | .int a _=>a==i
 |_=>false
theorem sE (i:Int):∀{ns:List Int}{its:List al},Vals (ns.map V.int) its->(∀y∈its,∃a t,y=.int a t)/\its.countP (Oq i)=ns.count i
 | [],_,.nil=>⟨(fun _ h=>nomatch h),rfl⟩
 |n::ns,_,.cons r t=>by
          obtain⟨tk,rfl⟩:=r;obtain⟨h1,h2⟩:=sE i t;refine⟨fun y hy=>?_,?_⟩
          ·rcases kw.mp hy with rfl|hy
           ·exact⟨_,_,rfl⟩
           ·exact h1 y hy
          ·rw[List.countP_cons,List.count_cons,h2];rfl
def Ot:V->List V->Hp->VK->Prop:=fun x vs H Q=>∃(p:ac) (ns:List Int) (i:Int),x=.ref p/\vs=[.int i]/\H p=some (.tup (ns.map V.int))/\Q (.int (ns.count i:Nat)) H
theorem Gb {X:Cx}:Hv X "tuple.count" Ot :=by
 intro pins s σ H x vs v us Q I rx rv h;obtain⟨p,ns,i,rfl,rfl,hp,q⟩:=h;cases rx;obtain⟨u,rfl,ru⟩:=rv.one;obtain⟨t,rfl⟩:=ru;obtain⟨z,its,r,o,e,c,n,d,hd⟩:=I.hok p _ hp;obtain⟨oc,od,Il,gr⟩:=o;simp only at c d hd;subst c d hd;obtain⟨h1,h2⟩:=sE i r;refine P3 F.slot_tuple_count ⟨_,e,rfl⟩ F.entry_tuple_count (F.args_tuple_count_2 _ _) (SeqAt.tuple_countAt p its.toArray n _ _ _ (Oq i)) ⟨e,fun y hy=>?_,?_⟩
 ·obtain⟨a,t2,rfl⟩:=h1 y (by simpa using hy)
  exact Zf _ _ _ _
 ·refine⟨.int _,H,I.tok _,⟨_,rfl⟩,?_⟩;rw[List.toList_toArray,h2];exact q
def zCount:uS:=fun d ds M Q=>match d,ds with | .tup xs,[.int i]=>(match cW xs with|some ns=>Q (.int (ns.count i:Nat)) M|none=>False)|_,_=>False
theorem Ki {Γ:Gz}{X:Cx}{K:bi}:Ig Γ X "tuple" "tuple.count" K zCount:=⟨_,Gb,fun β x xs d ds M H Q Q' _ _ _ m r rs z q=>by
 unfold zCount at z;split at z
 ·split at z
  ·rename_i ns d9;obtain⟨v,e2,rv⟩:=dD rs;subst e2;obtain⟨a,vs,rfl,f,hv,bZ⟩:=bN r;rw[kg d9]at bZ;rw[iL bZ]at hv;exact⟨a,ns,_,rfl,by rw[aL rv],hv,q _ _ _ _ (.refl m) (.int _) z⟩
  ·exact z.elim
 ·exact z.elim⟩
def Ou (K:bi):List V->Hp->VK->Prop:=fun xs H Q=>∃(p:ac) (ns:List Int),xs=[.ref p]/\bo K H p (ns.map V.int)/\Q (.int ns.sum) H
theorem DF {X:Cx}(hc:X.calm=true):cV X (.builtin "sum") (Ou X.K) :=by
 intro pins s σ H xs us Q I r h;obtain⟨p,ns,rfl,hq,q⟩:=h;obtain⟨u,rfl,rx⟩:=vals1 r;cases rx;have hh:=I.ok.hd hc;obtain⟨its,rv,pl,hz⟩:=I.list hq;obtain⟨ys,hy⟩:=(mP rv).allInts.items;have hl:=pl.isList;rw[hy]at hl;have en:ys.toList.map (·.1)=ns :=by
  rw[<- nums_intItems,<- hy];exact(mP rv).numsOf
 refine sum_intListG hh hl fun h' tk t' hk=>⟨.int ns.sum,H,I.kept (t':=tk) hk,⟨t',?_⟩,q⟩
 rw[preSum_eq,LG (by simp),en]
theorem Bb {X:Cx}{K:bi}(h:X.K=K) (hc:X.calm=true):cV X (.builtin "sum") (Ou K):=h▸DF hc
def zSum (d:Dv) (M:Mh) (Q:ZK):Prop:=match d with | .lst ds=>(match cW ds with|some ns=>Q (.int ns.sum) M|none=>False)|_=>False
theorem Im {Γ:Gz}{X:Cx}{K:bi}(hK:X.K=K) (hc:X.calm=true):ft Γ X (.builtin "sum") (z1 zSum):=⟨_,Bb hK hc,fun β xs ds M H Q Q' _ _ _ m rs z q=>by
 unfold z1 at z;split at z
 ·rename_i d;obtain⟨x,rfl,r⟩:=dD rs;unfold zSum at z;split at z
  ·split at z
   ·rename_i ns d9;obtain⟨a,vs,rfl,f,hv,bZ⟩:=cg r;rw[kg d9]at bZ;rw[iL bZ]at hv;exact⟨a,ns,rfl,bo.of hv,q _ _ _ _ (.refl m) (.int _) z⟩
   ·exact z.elim
  ·exact z.elim
 ·exact z.elim⟩
end L2
namespace L2
open PySem PySem.Spec PyProof.Rows
section
variable {κ:Type} [DecidableEq κ] {α:Type}
def look:List κ->List α->κ->Option α
 |k::ks,d::ds,x=>if k=x then some d else look ks ds x
 |_,_,_=>none
def iW:List κ->List α->κ->α->List α
 |k::ks,d::ds,x,y=>(if k=x then y else d)::iW ks ds x y
 |_,_,_,_=>[]
def putL (ks:List κ) (k:κ):List κ:=if k∈ks then ks else ks++[k]
def gM (ks:List κ) (ds:List α) (k:κ) (d:α):List α:=if k∈ks then iW ks ds k d else ds++[d]
theorem jb {x:κ}:∀{ks:List κ}{ds:List α},ks.length=ds.length->(look ks ds x=none ↔ x ∉ ks)
 | [],[],_=>by simp[look]
 |k::ks,d::ds,h=>by
          have ih:=jb (x:=x) (ks:=ks) (ds:=ds) (by simpa using h)
          unfold look;by_cases e:k=x
          ·simp[e]
          ·rw[if_neg e,ih,kw];constructor
           ·rintro a (b|b)
            ·exact e b.symm
            ·exact a b
           ·exact fun a b=>a (.inr b)
 | [],_::_,h=>by simp at h
 |_::_,[],h=>by simp at h
theorem qF (x:κ):∀(ks:List κ) (vs:List V),jm (ks.zip vs) x=look ks vs x
 | [],vs=>by cases vs<;>rfl
 |_::_,[]=>rfl
 |k::ks,v::vs=>by
          rw[US];unfold look;by_cases e:k=x
          ·rw[if_pos e];exact mS (p:=(k,v)) e
          ·rw[if_neg e,mU (p:=(k,v)) e];exact qF x ks vs
theorem xm (x:κ):∀(ks:List κ) (ds:List α) {d:α},look ks ds x=some d->∃i:Nat,ks[i]?=some x/\ds[i]?=some d/\∀{β:Type}(es:List β),look ks es x=es[i]?
 | [],ds,d,h=>by cases ds<;>cases h
 |_::_,[],d,h=>by cases h
 |k::ks,e::ds,d,h=>by
          unfold look at h;by_cases q:k=x
          ·rw[if_pos q]at h;cases h;refine⟨0,by rw[q];rfl,rfl,fun es=>?_⟩
           cases es with
           |nil=>rfl
           |cons a es=>unfold look;rw[if_pos q];rfl
          ·rw[if_neg q]at h;obtain⟨i,a,b,c⟩:=xm x ks ds h;refine⟨i+1,a,b,fun es=>?_⟩
           cases es with
           |nil=>rfl
           |cons y es=>unfold look;rw[if_neg q,c es];rfl
theorem ou (x:κ):∀(ks:List κ) (ds:List α) {β:Type}(es:List β),ds.length=es.length->look ks ds x=none->look ks es x=none
 | [],ds,_,es,_,_=>by cases es<;>rfl
 |_::_,[],_,es,h,_=>by cases es with
  |nil=>rfl
  |cons _ _=>simp at h
 |k::ks,d::ds,_,[],h,_=>by simp at h
 |k::ks,d::ds,_,e::es,h,q=>by
          unfold look at q ⊢;by_cases z:k=x
          ·rw[if_pos z]at q;cases q
          ·rw[if_neg z]at q ⊢;exact ou x ks ds es (by simpa using h) q
theorem uX (x:κ) (y:α):∀(ks:List κ) (ds:List α),ks.length=ds.length->(iW ks ds x y).length=ds.length
 | [],[],_=>rfl
 |k::ks,d::ds,h=>by unfold iW;rw[Mc,uX x y ks ds (by simpa using h)];rfl
 | [],_::_,h=>by simp at h
 |_::_,[],h=>by simp at h
theorem xn {ks:List κ}{ds:List α}(h:ks.length=ds.length) (k:κ) (d:α):(putL ks k).length=(gM ks ds k d).length :=by
 unfold putL gM;split
 ·rw[uX _ _ _ _ h,h]
 ·simp[h]
theorem uY (x:κ) (y:V):∀(ks:List κ) (vs:List V),ks.length=vs.length->(ks.zip vs).map (fun kv=>if kv.1=x then (kv.1,y) else kv)=ks.zip (iW ks vs x y)
 | [],[],_=>rfl
 |k::ks,d::ds,h=>by
          unfold iW;rw[US,US,ss,uY x y ks ds (by simpa using h)]
          congr 1
          dsimp only;split<;>rfl
 | [],_::_,h=>by simp at h
 |_::_,[],h=>by simp at h
theorem zN {ks:List κ}{vs:List V}(h:ks.length=vs.length) (k:κ) (v:V):putK (ks.zip vs) k v=(putL ks k).zip (gM ks vs k v) :=by
 have e:((ks.zip vs).any fun kv=>decide (kv.1=k))=decide (k∈ks) :=by
  rw[qu,qF];cases q:look ks vs k with
  |none=>exact(decide_eq_false ((jb h).mp q)).symm
  |some x=>
   have hm:k∈ks:=Classical.byContradiction fun z=>by rw[(jb h).mpr z]at q;cases q
   rw[decide_eq_true hm];rfl
 unfold putK putL gM;rw[e];by_cases q:k∈ks
 ·rw[if_pos (decide_eq_true q),if_pos q,if_pos q];exact uY k v ks vs h
 ·rw[if_neg (by rw[decide_eq_false q];exact im),if_neg q,if_neg q,List.zip_append h]
  rfl
end
section
variable {β:Bz}{M:Mh}{H:Hp}{κ:Type} [DecidableEq κ]
theorem uZ (x:κ) {v:V}{d:Dv}(r:Rz β M H v d):∀(ks:List κ) (vs:List V) (ds:List Dv),aG β M H vs ds->aG β M H (iW ks vs x v) (iW ks ds x d)
 | [],_,_,_=>by
          unfold iW;exact .nil
 |_::_,[],[],_=>.nil
 |_::_,[],_::_,h=>absurd h.len (by simp)
 |_::_,_::_,[],h=>absurd h.len (by simp)
 |k::ks,u::vs,e::ds,h=>by
          unfold iW;refine .cons ?_ (uZ x r ks vs ds h.tail);split
          ·exact r
          ·exact h.head
theorem xo (x:κ) {v:V}{d:Dv}(r:Rz β M H v d) {ks:List κ}{vs:List V}{ds:List Dv}(h:aG β M H vs ds):aG β M H (gM ks vs x v) (gM ks ds x d) :=by
 unfold gM;split
 ·exact uZ x r ks vs ds h
 ·exact h.snoc r
theorem xq {ks:List κ}{vs:List V}{ds:List Dv}(rs:aG β M H vs ds) {x:κ}{o:Option Dv}(h:look ks ds x=o):∃ov,jm (ks.zip vs) x=ov/\ov.isSome=o.isSome/\∀r,o=some r->∃v,ov=some v/\Rz β M H v r :=by
 rw[qF];cases o with
 |none=>exact⟨none,ou x ks ds vs rs.len.symm h,rfl,fun r e=>nomatch e⟩
 |some r=>
  obtain⟨i,a,b,c⟩:=xm x ks ds h;obtain⟨v,hv,rv⟩:=rs.get b;exact⟨some v,(c vs).trans hv,rfl,fun r' e=>by cases e;exact⟨v,rfl,rv⟩⟩
end
def keyD:Dv->Option Key
 | .int i=>some (.inl i)
 | .str z=>some (.inr z)
 |_=>none
def pD:List Dv->Option (List Key)
 | []=>some []
 |d::ds=>match keyD d,pD ds with|some k,some ks=>some (k::ks)|_,_=>none
def nowK (M:Mh):Dv->Dv
 | .ptr a=>match M a with|some (.dk ks ds)=>.dk ks ds|some (.dt ks ds)=>.dt ks ds|_=>.ptr a
 |d=>d
def lookD (M:Mh) (d e:Dv):Option (Option Dv):=match nowK M d with
 | .dk ks ds=>(match keyD e with|some k=>some (look ks ds k)|none=>none)
 | .dt ks ds=>(match e with | .tup es=>(match pD es with|some k=>some (look ks ds k)|none=>none)|_=>none)
 |_=>none
section
variable {X:Cx}{Γ:Gz}{β:Bz}{K:bi}{M:Mh}{H:Hp}
theorem pE {y:V}{e:Dv}{k:Key}(r:Rz β M H y e) (h:keyD e=some k):y=kV k :=by
 cases e with
 |int i=>cases h;exact aL r
 |str z=>cases h;exact dB r
 |_=>cases h
theorem mZ:∀{es:List Dv}{ks:List Key}{vs:List V},aG β M H vs es->pD es=some ks->vs=ks.map kV
 | [],ks,vs,rs,h=>by
          cases h;cases vs with
          |nil=>rfl
          |cons _ _=>exact absurd rs.len (by simp)
 |e::es,ks,[],rs,h=>absurd rs.len (by simp)
 |e::es,ks,v::vs,rs,h=>by
          unfold pD at h;split at h
          ·rename_i k SN h1 h2;cases h;rw[ss,pE rs.head h1,mZ rs.tail h2]
          ·cases h
theorem zO (m:Mz β M H) {x:V}{d:Dv}(r:Rz β M H x d):(∀ks ds,nowK M d=.dk ks ds->∃a vs,x=.ref a/\Rd H a (.dK (ks.zip vs))/\ks.length=vs.length/\aG β M H vs ds) /\
  (∀ks ds,nowK M d=.dt ks ds->∃a vs,x=.ref a/\Rd H a (.dT (ks.zip vs))/\ks.length=vs.length/\aG β M H vs ds) :=by
 cases r with
 |dk f e hk hl h=>exact⟨fun ks ds q=>(by cases q;exact⟨_,_,rfl,e,hk,hl,h⟩),fun ks ds q=>by cases q⟩
 |dt f e hk hl h=>exact⟨fun ks ds q=>(by cases q),fun ks ds q=>by cases q;exact⟨_,_,rfl,e,hk,hl,h⟩⟩
 | @ptr a hs=>
  simp only[nowK];cases q2:M a with
  |none=>rw[q2]at hs;cases hs
  |some o=>
   have q:=m.obj a o q2;cases o with
   |dk ks ds=>obtain⟨vs,e,hk,rs⟩:=q;exact⟨fun ks ds q=>(by cases q;exact⟨_,_,rfl,.inl e,hk,rs⟩),fun ks ds q=>by cases q⟩
   |dt ks ds=>obtain⟨vs,e,hk,rs⟩:=q;exact⟨fun ks ds q=>(by cases q),fun ks ds q=>by cases q;exact⟨_,_,rfl,.inl e,hk,rs⟩⟩
   |_=>exact⟨fun ks ds q=>(by cases q),fun ks ds q=>by cases q⟩
 |_=>exact⟨fun ks ds q=>(by cases q),fun ks ds q=>(by cases q)⟩
theorem xr (m:Mz β M H) {x y:V}{d e:Dv}{o:Option Dv}(r:Rz β M H x d) (re:Rz β M H y e) (h:lookD M d e=some o):∃a ov,x=.ref a/\qw H a y ov/\ov.isSome=o.isSome/\∀r,o=some r->∃v,ov=some v/\Rz β M H v r :=by
 unfold lookD at h;obtain⟨h1,h2⟩:=zO m r;split at h
 ·rename_i ks ds q;obtain⟨a,vs,rfl,ha,hk,rs⟩:=h1 ks ds q;split at h
  ·rename_i k xt;rw[pE re xt];obtain⟨ov,e1,e2,e3⟩:=xq rs (i8 h);subst e1;exact⟨a,_,rfl,.inl ⟨_,k,ha,rfl,rfl⟩,e2,e3⟩
  ·cases h
 ·rename_i ks ds q;obtain⟨a,vs,rfl,ha,hk,rs⟩:=h2 ks ds q;split at h
  ·split at h
   ·rename_i k xt;obtain⟨b,us,rfl,_,hb,ru⟩:=bN re;rw[mZ ru xt]at hb;obtain⟨ov,e1,e2,e3⟩:=xq rs (i8 h);subst e1;exact⟨a,_,rfl,.inr ⟨_,k,b,ha,rfl,hb,rfl⟩,e2,e3⟩
   ·cases h
  ·cases h
 ·cases h
def zGetR:dI:=fun d e M Q=>match lookD M d e with|some (some r)=>Q r M|_=>False
theorem Kj {a b:db}{pa pb:aK}{pos:wE}(hu:X.A.units+64<cLine) (ha:QE Γ X a pa) (hb:QE Γ X b pb) (hs:FX b):QE Γ X (.Subscript a b pos) (zOp zGetR pa pb):=
 (JX (by omega) ha hb hs).imp fun σ H Q ⟨β,ρ,M,Q',zr,h,q⟩=>⟨β,ρ,M,_,zr,h,fun d M1 v H1 x1 r1 h1=>⟨β,ρ,M1,_,zr.step x1,h1,fun e M2 u H2 x2 r2 h2=>by
  unfold zGetR at h2;split at h2
  ·rename_i r hl;obtain⟨a,ov,rfl,g,_,e3⟩:=xr x2.mz (r1.ex x2) r2 hl;obtain⟨w,rfl,jY⟩:=e3 r rfl;exact⟨a,w,rfl,g,q _ _ _ _ (x1.trans x2) jY h2⟩
  ·exact h2.elim⟩⟩
def zDIn (neg:Bool):dI:=fun e d M Q=>match lookD M d e with|some o=>Q (.bl (if neg then !o.isSome else o.isSome)) M|none=>False
def Gd (neg:Bool):R2:=fun y x H Q=>∃a o,x=.ref a/\qw H a y o/\Q (.bl (if neg then !o.isSome else o.isSome)) H
theorem zP {neg:Bool}:p0 Γ (Gd neg) (zDIn neg):=fun β x y d e M H Q Q' _ _ _ m rx ry z q=>by
 unfold zDIn at z;split at z
 ·rename_i o hl;obtain⟨a,ov,rfl,g,e2,_⟩:=xr m ry rx hl;refine⟨a,ov,rfl,g,?_⟩;rw[e2];exact q _ _ _ _ (.refl m) (.bl _) z
 ·exact z.elim
theorem Rk (hu:X.A.units+64<cLine):dR Γ X (compareOp .In) (zDIn false):=⟨Gd false,fun pins s σ H x y v u Q I rx ry ⟨a,o,e,g,q⟩=>by
 subst e;cases (show u=l5 a from ry);exact Uo (by omega) I g rx fun s3 I3=>⟨.bl o.isSome,H,I3,rfl,q⟩,zP⟩
theorem Ge (hu:X.A.units+64<cLine):dR Γ X (compareOp .NotIn) (zDIn true):=⟨Gd true,fun pins s σ H x y v u Q I rx ry ⟨a,o,e,g,q⟩=>by
 subst e;cases (show u=l5 a from ry);exact JV (by omega) I g rx fun s3 I3=>⟨.bl (!o.isSome),H,I3,rfl,q⟩,zP⟩
end
section
variable {β:Bz}{M:Mh}{H:Hp}{D:ac}{o':Mo}{u:HO}
theorem Kk {v:V}{d:Dv}(r:Rz (β.add D) M H v d):Rz β (aw M D o') (upd H D u) v d :=by
 have na:∀a,Fz (β.add D) M a->a≠D:=fun a f z=>f.2 (by rw[z];exact ma)
 have ne:∀a,Fz (β.add D) M a->Fz β (aw M D o') a:=fun a f=>⟨by rw[aj (na a f)];exact f.1,fun z=>f.2 (i0 _ z)⟩
 have pre:∀a x,Fz (β.add D) M a->H a=some x->upd H D u a=some x:=fun a x f e=>by rw[af (na a f)];exact e
 induction r with
 |int i=>exact .int i
 |bl b=>exact .bl b
 |au=>exact .au
 |str z=>exact .str z
 |tup m e hl h ih=>exact .tup (ne _ m) (pre _ _ m e) hl ih
 |lst m e hl h ih=>exact .lst (ne _ m) (pre _ _ m e) hl ih
 |dk m e hk hl h ih=>exact .dk (ne _ m) (e.map fun _ h=>pre _ _ m h) hk hl ih
 |dt m e hk hl h ih=>exact .dt (ne _ m) (e.map fun _ h=>pre _ _ m h) hk hl ih
 |bS m e m2 e2 hl h ih=>exact .bS (ne _ m) (pre _ _ m e) (ne _ m2) (pre _ _ m2 e2) hl ih
 |set m e=>exact .set (ne _ m) (pre _ _ m e)
 |ptr m=>exact .ptr (by unfold aw;split;rfl;exact m)
 |exc m e=>exact .exc (ne _ m) (pre _ _ m e)
 |bB m e=>exact .bB (ne _ m) (pre _ _ m e)
 |cJ m e=>exact .cJ (ne _ m) (pre _ _ m e)
 |cK e=>exact .cK e
 |raw v=>exact .raw v
theorem ko {vs:List V}{ds:List Dv}(r:aG (β.add D) M H vs ds):aG β (aw M D o') (upd H D u) vs ds:=⟨r.len,fun i v d a b=>Kk (r.at' i v d a b)⟩
theorem Ex.DG {M2:Mh}{H2:Hp}{o:HO}(x:Ex β M H M2 H2) (hD:D∈β.hid) (m:M D=none) (h:H D=some o) (ho:j8 o=true):H2 D=some o :=by
 rcases x.keep D o m h with q|⟨o',t,q⟩
 ·exact q
 ·rcases t with ⟨_,_,rfl,_⟩|⟨_,_,rfl,_⟩|⟨_,ob,rfl⟩
  ·cases ho
  ·cases ho
  ·obtain⟨w,e,n⟩:=x.mz.hids D hD;rw[q]at e;cases e;cases n
theorem Mz.Ov (m:Mz (β.add D) M H) (hM:M D=none) (hD:D ∉ β.hid) (nt:D ∉ β.tb) (hu:n5 u=true) (r:i9 β (aw M D o') (upd H D u) D o'):Mz β (aw M D o') (upd H D u) :=by
 obtain⟨oD,eD,nD⟩:=m.hids D ma;refine⟨fun a o e=>?_,fun q hq=>?_,fun a ha=>(m.hids a (i0 _ ha)).upd (.inr hu),fun a o e z=>?_,fun q hq=>?_⟩
 ·by_cases ha:a=D
  ·subst ha;rw[updM_same]at e;cases e;exact r
  ·rw[aj ha]at e;have z:=m.obj a o e;cases o with
   |lst ds=>obtain⟨vs,z,rs⟩:=z;exact⟨vs,by rw[af ha];exact z,ko rs⟩
   |dk ks ds=>obtain⟨vs,z,hk,rs⟩:=z;exact⟨vs,by rw[af ha];exact z,hk,ko rs⟩
   |dt ks ds=>obtain⟨vs,z,hk,rs⟩:=z;exact⟨vs,by rw[af ha];exact z,hk,ko rs⟩
   |dA=>obtain⟨c,n,z,q⟩:=z;exact⟨c,n,by rw[af ha];exact z,q⟩
 ·obtain⟨ps,e,t⟩:=m.tabs q hq;exact⟨ps,by rw[af (show q≠D from fun z=>nt (by rw[<- z];exact hq))];exact e,t⟩
 ·by_cases ha:a=D
  ·exact hD (ha▸z)
  ·rw[aj ha]at e;exact m.apart a o e (i0 _ z)
 ·exact(m.lams q hq).keep (fun _ e=>by rw[af (fun z=>by subst z;rw[eD]at e;cases e;cases nD)];exact e) fun c _ _ e=>by rw[af (fun z=>by subst z;rw[eD]at e;cases e;cases nD)];exact e
end
section
variable {X:Cx}{pos:wE}
def Km (tk tv:TE):TE:=fun σ H Q=>∀p,H p=none->tk σ (upd H p (.dT [])) fun x H1=>tv σ H1 fun y H2=>H2 p=some (.dT [])/\∃b k,x=.ref b/\H2 b=some (.tup (k.map kV))/\Q (.ref p) (upd H2 p (.dT [(k,y)]))
theorem DH {k v:db}{tk tv:TE}(hu:X.A.units+1<cLine) (hk:PE X k tk) (hv:PE X v tv):PE X (.Dict [some k] [v] pos) (Km tk tv) :=by
 refine⟨?_⟩;intro pins s σ H Q I q;have hn:=I.hok.fresh (c8 s.heap.objs.size);have I1:=I.laid (a:=s.heap.objs.size) (o:=.dT []) (h':=s.heap.push {cls:=.type "dict",data:=.dict #[]}) (t':=s.toks) (fun _ _ q=>cb _ q) (c8 _) (F0 s.heap I.big)
 refine wpAny_Dict_any rfl rfl (by simp) (by simp) (pairTrees_cons_walk (thn (hk pins _ σ _ _ I1 (q _ hn)) fun w1 s2 ⟨x,H1,I2,rx,q1⟩=>thn (hv pins s2 σ H1 _ I2 q1) fun w2 s3 ⟨y,H2,I3,ry,hp,b,ks,ex,hb,q2⟩=>pairTrees_nil_walk ?_))
 subst ex;cases (show w1=l5 b from rx);unfold storeAll;rw[X0];obtain⟨z,hd,xs,rel,dd⟩:=HW I3.hok hp;cases rel;refine ag (ag (wpAny_dictSet_heap (knd:=tupleKind (bI X.prog X.w)) (by show X.A.units<cLine;omega) (mh I3.hok hb) dd (fun h' se hs=>ce ?_) (by simp)))
 dsimp only;rw[Y1];refine ce ⟨.ref s.heap.objs.size,_,?_,rfl,q2⟩;obtain⟨o,es,ep,ho,h2,h3,h4,h5,h6⟩:=se;have he:storedH ([]:List (List Key×ac×al)) ks b w2=[(ks,b,w2)]:=rfl;rw[he]at h4 h6;refine o9 I3 (by rw[hp];exact NE) hs ⟨o,ho⟩ ⟨by show 1<=sizeLine;decide,hd,[(ks,b,w2)],.cons ⟨rfl,?_,ry⟩ .nil,o,es,ep,ho,h2,h3,h4,h6⟩
 rw[af (Ak hb hp (by intro z;cases z))]
 exact hb
end
section
variable {X:Cx}{Γ:Gz}{β:Bz}{K:bi}
def zDisp1K (pk pv:aK):aK:=fun ρ M Q=>pk ρ M fun e M1=>pv ρ M1 fun v M2=>match keyD e with|some k=>∀a,M2 a=none->Q (.ptr a) (aw M2 a (.dk [k] [v]))|none=>False
def zDisp1T (pk pv:aK):aK:=fun ρ M Q=>pk ρ M fun e M1=>pv ρ M1 fun v M2=>match e with | .tup es=>(match pD es with|some k=>∀a,M2 a=none->Q (.ptr a) (aw M2 a (.dt [k] [v]))|none=>False)|_=>False
theorem zQ {M M2:Mh}{H H2:Hp}{D:ac}{o:HO}{o':Mo}{u:HO}(hD:H D=none) (x:Ex (β.add D) M (upd H D o) M2 H2) (mz:Mz β (aw M2 D o') (upd H2 D u)):Ex β M H (aw M2 D o') (upd H2 D u) :=by
 have ey:Ey M H M2 (upd H2 D u):=((Ey.refl (M:=M) (H:=H)).over (o:=o) hD |>.trans x.toEy).over hD
 exact⟨⟨ey.keep,fun a h=>by unfold aw;split;rfl;exact ey.dom a h,fun a w m e=>by rw[aj (a7 e hD)];exact ey.new a w m e⟩,mz⟩
theorem DI {k v:db}{pk pv:aK}{pos:wE}(hk:QE Γ X k pk) (hv:QE Γ X v pv):QE Γ X (.Dict [some k] [v] pos) (zDisp1K pk pv):=
 (J0 (F1 hk hv JZ) rfl rfl (by simp) (by simp)).imp fun σ H Q ⟨β,ρ,M,Q',zr,h,q⟩ p hp=>by
  have z1:=zr.enter hp (o:=.dK []) rfl;refine⟨β.add p,ρ,M,_,z1,h,fun e M1 y H1 x1 r1 h1=>⟨β.add p,ρ,M1,_,z1.step x1,h1,fun d M2 w H2 x2 r2 h2=>?_⟩⟩
  have sF:=x1.trans x2;have DJ:M p=none:=zr.mz.free hp;have e2:H2 p=some (.dK []):=sF.DG ma DJ aA rfl;have DK:M2 p=none:=sF.new p _ DJ aA;refine⟨e2,?_⟩;split at h2
  ·rename_i kk Ow;refine⟨[(kk,w)],by rw[pE (r1.ex x2) Ow];rfl,by simp,?_⟩
   have e:mi [] [(kk,w)]=[kk].zip [w]:=rfl;rw[e];refine q _ _ _ _ (zQ (o':=.dk [kk] [d]) hp sF (sF.mz.Ov DK (zr.mz.fz hp).2 (zr.mz.F3 hp) rfl ⟨[w],aA,rfl,ko (.cons r2 .nil)⟩)) (.ptr (by rw[updM_same];rfl)) (h2 p DK)
  ·exact h2.elim
theorem SQ {k v:db}{pk pv:aK}{pos:wE}(hu:X.A.units+64<cLine) (hk:QE Γ X k pk) (hv:QE Γ X v pv):QE Γ X (.Dict [some k] [v] pos) (zDisp1T pk pv):=
 (DH (by omega) hk hv).imp fun σ H Q ⟨β,ρ,M,Q',zr,h,q⟩ p hp=>by
  have z1:=zr.enter hp (o:=.dT []) rfl;refine⟨β.add p,ρ,M,_,z1,h,fun e M1 y H1 x1 r1 h1=>⟨β.add p,ρ,M1,_,z1.step x1,h1,fun d M2 w H2 x2 r2 h2=>?_⟩⟩
  have sF:=x1.trans x2;have DJ:M p=none:=zr.mz.free hp;have e2:H2 p=some (.dT []):=sF.DG ma DJ aA rfl;have DK:M2 p=none:=sF.new p _ DJ aA;refine⟨e2,?_⟩;split at h2
  ·split at h2
   ·rename_i es kk Ow;obtain⟨b,us,rfl,_,hb,ru⟩:=bN (r1.ex x2);rw[mZ ru Ow]at hb;refine⟨b,kk,rfl,hb,?_⟩;refine q _ _ _ _ (zQ (o':=.dt [kk] [d]) (u:=.dT ([kk].zip [w])) hp sF (sF.mz.Ov DK (zr.mz.fz hp).2 (zr.mz.F3 hp) rfl ⟨[w],aA,rfl,ko (.cons r2 .nil)⟩)) (.ptr (by rw[updM_same];rfl)) (h2 p DK)
   ·exact h2.elim
  ·exact h2.elim
def zDPut (pd pk pv:aK):bX:=fun D ρ M=>pv ρ M fun v M1=>pd ρ M1 fun d M2=>pk ρ M2 fun e M3=>match d with
 | .ptr a=>(match M3 a with
  |some (.dk ks ds)=>(match keyD e with|some k=>ks.length<sizeLine/\D.nx ρ (aw M3 a (.dk (putL ks k) (gM ks ds k v)))|none=>False)
  |some (.dt ks ds)=>(match e with | .tup es=>(match pD es with|some k=>ks.length<sizeLine/\D.nx ρ (aw M3 a (.dt (putL ks k) (gM ks ds k v)))|none=>False)|_=>False)
  |_=>False)
 |_=>False
theorem Kn {o i value:db}{pd pk pv:aK}{pos pos':wE}(hu:X.A.units+64<cLine) (ho:QE Γ X o pd) (hi:QE Γ X i pk) (hv:QE Γ X value pv) (hs:swapsWith value (some (.Subscript o i pos')) pos.line X.env=pure false :=by rfl) :
  QS Γ X (.Assign [.Subscript o i pos'] value pos) (zDPut pd pk pv):=(JY (by omega) ho hi hv hs).imp fun D σ H ⟨β,ρ,M,D',zr,h,r⟩=>⟨β,ρ,M,_,zr,h,fun v M1 vv H1 x1 r1 h1=>⟨β,ρ,M1,_,zr.step x1,h1,fun d M2 dv H2 x2 r2 h2=>
   ⟨β,ρ,M2,_,(zr.step x1).step x2,h2,fun e M3 ev H3 x3 r3 h3=>by
 have z3:=((zr.step x1).step x2).step x3;have zG:=x1.trans (x2.trans x3);have rv:=(r1.ex x2).ex x3;split at h3
 ·rename_i a;obtain⟨rfl,hs⟩:=cj r2;split at h3
  ·rename_i ks ds hM;obtain⟨vs,ha,hk,rs⟩:=x3.mz.obj a _ hM;split at h3
   ·rename_i k xt;obtain⟨hl,h3⟩:=h3;have hp:(M3 a).isSome=true :=by rw[hM];rfl
    have x4:Ex β M3 H3 (aw M3 a (.dk (putL ks k) (gM ks ds k v))) (upd H3 a (.dK ((putL ks k).zip (gM ks vs k vv)))):=Ex.Ur x3.mz (.inl hp) (xn hk k vv) (xo k rv rs);refine⟨a,_,rfl,.inl ⟨_,k,ha,pE r3 xt,by rw[NH,<- hk,Pd];exact hl,rfl⟩,?_⟩
    rw[zN hk];exact r.nx _ _ _ _ (zG.trans x4).ev (z3.step x4) h3
   ·exact h3.elim
  ·rename_i ks ds hM;obtain⟨vs,ha,hk,rs⟩:=x3.mz.obj a _ hM;split at h3
   ·split at h3
    ·rename_i k xt;obtain⟨hl,h3⟩:=h3;obtain⟨b,us,rfl,_,hb,ru⟩:=bN r3;rw[mZ ru xt]at hb;have hp:(M3 a).isSome=true :=by rw[hM];rfl
     have x4:Ex β M3 H3 (aw M3 a (.dt (putL ks k) (gM ks ds k v))) (upd H3 a (.dT ((putL ks k).zip (gM ks vs k vv)))):=Ex.Us x3.mz (.inl hp) (xn hk k vv) (xo k rv rs);refine⟨a,_,rfl,.inr ⟨_,k,b,ha,rfl,hb,by rw[NH,<- hk,Pd];exact hl,rfl⟩,?_⟩
     rw[zN hk];exact r.nx _ _ _ _ (zG.trans x4).ev (z3.step x4) h3
    ·exact h3.elim
   ·exact h3.elim
  ·exact h3.elim
 ·exact h3.elim⟩⟩⟩
def zLenK (d:Dv) (M:Mh) (Q:ZK):Prop:=match nowK M d with | .dk ks _=>Q (.int ks.length) M|_=>False
theorem Ox:ft Γ X (.builtin "len") (z1 zLenK):=⟨fun xs H Q=>∃a ak,xs=[.ref a]/\Rd H a (.dK ak)/\Q (.int ak.length) H,fun pins s σ H xs us Q I rs ⟨a,ak,e,ha,q⟩=>by
 subst e;cases rs with
 |cons r1 rs=>
  cases rs;cases r1;exact Q9 I ha fun t s' I'=>⟨.int ak.length,H,I',⟨t,rfl⟩,q⟩,fun β xs ds M H Q Q' _ _ _ m rs z q=>by
 unfold z1 at z;split at z
 ·obtain⟨x,rfl,r⟩:=dD rs;unfold zLenK at z;split at z
  ·rename_i ks ds hk;obtain⟨a,vs,rfl,ha,hk,_⟩:=(zO m r).1 _ _ hk;refine⟨a,_,rfl,ha,?_⟩;rw[NH,<- hk,Pd];exact q _ _ _ _ (.refl m) (.int _) z
  ·exact z.elim
 ·exact z.elim⟩
end
def gN (X:Cx):bn:=X.env.qual ++ "<lambda>"
structure Oy (X:Cx) (params:OL) (body:db) (scope:wp) (o:li) (c:ac) (oc:li) (aP:List (bn×ac)):Prop where
 cells:∀n a,aP.lookup n=some a->X.env.cells.lookup n=some a
 has:∀n,(n,v6)∈scope.names->∃a,aP.lookup n=some a
 obj:∃jy,o=Pv "<lambda>" (gN X) params body scope aP ((X.mg "__name__").getD .none) c jy
 code:∃vs t,oc.data=.fields vs/\vs[1]?=some (YC (gN X) t)
structure Oz (X:Cx) (P:ac) (H H2:Hp) (f:ac) (o:li) (c:ac) (oc:li):Prop where
 new:H f=none
 at':∃u,H2 f=some (.bM o u)
 cd:∃u,H2 c=some (.bM oc u)
 lm:Lm H2 (P,gN X)
 keep:∀b u,H b=some u->b≠P->H2 b=some u
 tab:∃ps,H P=some (.lam ps)
def Uv (X:Cx) (P:ac) (params:OL) (body:db) (scope:wp):TE:=fun _ H Q=>Lm H (P,gN X)/\∀f o c oc aP H2,Oy X params body scope o c oc aP->Oz X P H H2 f o c oc->Q (.ref f) H2
def kr (a:ac) (o:li):HO:=.bM o (.ext fun h=>h.get? a=some o)
theorem xu {P:gc}{w:i4}{H:Hp}{h:hX}{a:ac}{o:li}(e:h.get? a=some o):ObjOk P w H h a (kr a o):=⟨e,e,⟨o,e⟩,fun _ _ x k=>k o x⟩
theorem DL {a b c cv:al}{pos:wE}(l:List al) (h:OP l) (e:codeAmong pos (l++[a,b,c])=some cv):codeAmong pos l=some cv\/cv=c :=by
 induction l using TriplesOk.induct with
 |case1=>
  right;simp only[LB]at e;unfold codeAmong at e;split at e
  ·rename_i heq;cases heq;split at e
   ·exact(i8 e).symm
   ·simp[codeAmong]at e
  ·cases e
 |case2 x tx y ty z rest ih=>
  simp only[ZN,codeAmong]at e ⊢;split at e
  ·rename_i q;rw[if_pos q];exact .inl e
  ·rename_i q;rw[if_neg q];exact ih h e
 |case3 l n1 n2=>
  exfalso
  unfold OP at h;split at h
  ·exact n1 rfl
  ·exact n2 _ _ _ _ _ _ rfl
  ·exact h
section
variable {X:Cx}{params:OL}{body:db}{scope:wp}{pos:wE}{P cX:ac}
theorem Bc {pins:List (ac×li)}{s:ba}{σ:St}{H:Hp}{h':hX}{o:li}(I:Inv X pins σ H s) (hk:∀b u,s.heap.get? b=some u->h'.get? b=some u) (hsz:s.heap.objs.size<=h'.objs.size) (hc:o.isFreed=false) (tk:Nat) :
  Inv X pins σ (upd H h'.objs.size (kr h'.objs.size o)) {s with heap:=h'.push o,toks:=tk}:=
 I.laid (a:=h'.objs.size) (o:=kr h'.objs.size o) (t':=tk) (fun b u e=>cb _ (hk b u e)) hsz (xu (ff _ hc))
theorem Bd {pins:List (ac×li)}{s:ba}{σ:St}{H:Hp}{h':hX}{o oc:li}{c:ac}{ps g6:Array al}(I:Inv X pins σ H s) (hP:H P=some (.lam ps)) (hx:Y4 P s.heap h') (xx:s.heap.objs.size<=c) (aT:c<h'.objs.size) (uf:h'.get? c=some oc)
  (Io:h'.get? P=some {cls:=.none,data:=.fields g6}) (hc:o.isFreed=false) (tk:Nat) :
  Inv X pins σ (upd (upd (upd H P (.lam g6)) c (kr c oc)) h'.objs.size (kr h'.objs.size o)) {s with heap:=h'.push o,toks:=tk}:=by
 have OA:P<s.heap.objs.size:=(I.hok P _ hP).lt;have hsz:s.heap.objs.size<=h'.objs.size:=ON (Pe xx aT);have old:∀b,b<s.heap.objs.size->b≠P->upd (upd (upd H P (.lam g6)) c (kr c oc)) h'.objs.size (kr h'.objs.size o) b=H b:=fun b hb n=>by
  rw[af (l7 (l9 hb hsz)),af (l7 (l9 hb xx)),af n]
 have Xy:upd (upd (upd H P (.lam g6)) c (kr c oc)) h'.objs.size (kr h'.objs.size o) P=some (.lam g6) :=by
  rw[af (l7 (l9 OA hsz)),af (l7 (l9 OA xx)),aA]
 have k:∀b u,b≠P->s.heap.get? b=some u->(h'.push o).get? b=some u:=fun b u n e=>cb _ (hx b u n e)
 have DM:∀b u,H b=some u->b<s.heap.objs.size:=fun b u e=>(I.hok b u e).lt
 have nP:∀b,H b=none->b≠P:=fun b e z=>by rw[z,hP]at e;cases e
 have nT:∀b u,H b=some u->(∀ps,u≠.lam ps)->b≠P:=fun b u e n z=>by rw[z,hP]at e;cases e;exact n _ rfl
 refine I.un ⟨fun b u q n _ _=>k b u (nP b n) q,fun b u q n _ _=>⟨u.slots,k b u (nP b n) q⟩,fun b u q n _=>by rw[old b (ij q) (nP b n)];exact n,fun b u q _=>?_,fun b xs q=>by rw[old b (DM b _ q) (nT b _ q (by intro _ z;cases z))];exact q,
  fun b u xs q=>by rw[old b (DM b _ q) (nT b _ q (by intro _ z;cases z))];exact q,fun b qs q=>⟨#[],by rw[old b (DM b _ q) (nT b _ q (by intro _ z;cases z)),q];simp⟩⟩ fun b u q=>?_
 ·by_cases e:b=P
  ·subst e;exact⟨_,cb _ Io⟩
  ·exact⟨u,k b u e q⟩
 ·by_cases e1:b=h'.objs.size
  ·subst e1;rw[aA]at q;cases q;exact xu (ff _ hc)
  ·rw[af e1]at q;by_cases e2:b=c
   ·subst e2;rw[aA]at q;cases q;exact xu (cb _ uf)
   ·rw[af e2]at q;by_cases e3:b=P
    ·subst e3;rw[aA]at q;cases q;exact cb _ Io
    ·rw[af e3]at q;refine(I.hok b u q).cG (fun a v hc q=>k a v ?_ q) (fun a z=>?_) fun a xs z=>?_
     ·rcases hc with z|z
      ·rw[z];exact e3
      ·exact nT a _ z (by intro _ w;cases w)
     ·rw[old a (DM a _ z) (nT a _ z (by intro _ w;cases w))];exact z
     ·rw[old a (DM a _ z) (nT a _ z (by intro _ w;cases w))];exact z
theorem OB (dY:X.env.code=.ref cX) (hd:u4 X.base cX P) (dX:∃bm ob,Yj X.base mainGlobals X.mg bm ob) (vQ:defaultsOf params X.env=([],[]))
  (oV:∀n,(n,v6)∈scope.names->X.env.kindOf n=some .cell\/X.env.kindOf n=some .free):PE X (.Lambda params body scope pos) (Uv X P params body scope) :=by
 refine⟨?_⟩;intro pins s σ H Q I ⟨⟨ps,hP,wq,xj⟩,q⟩;obtain⟨aP,gC,c9,ee⟩:=fR (scope:=scope) (env:=X.env) fun n hn=>I.ok.has n (oV n hn)
 have wm:s.heap.get? P=some (Sk ps):=I.hok P _ hP;obtain⟨bm,ob,bmod⟩:=dX;have gU:=bmod.keeps I.bk;have VY:mainGlobals≠P:=fun z=>by
  obtain⟨o,es,ep,e,hd,_⟩:=gU.ns;rw[z,wm]at e;cases e;cases hd
 have VZ:bm≠P:=fun z=>by
  have e:=gU.obj;have e2:=gU.data;rw[z,wm]at e;cases e;cases e2
 have V0:bm≠mainGlobals:=fun z=>by
  obtain⟨o,es,ep,e,hd,_⟩:=gU.ns;have e1:=gU.obj;have e2:=gU.data;rw[z,e]at e1;cases e1;rw[hd]at e2;cases e2
 have hb:s.heap.BuiltinsAt X.mg P:=⟨bm,ob,gU.name,gU.ne,V0,VZ,gU.obj,gU.cls,gU.dict,gU.data⟩;refine PySem.W.kla_eval vQ ?_;cases hq:codeAmong pos ps.toList with
 |some cv=>
  obtain⟨c,oc,uc,vs,t,rfl,ec,d1,d2⟩:=xj pos cv hq;refine PySem.W.kla_makeFunctionHit (mg:=X.mg) gC I.ok.glob (I.mod.glob.keeps I.bk) dY (hd.keeps I.bk) wm wq hq hb fun jy h' tk hk hsz=>?_
  have hf:H h'.objs.size=none:=I.hok.fresh hsz;have pre:∀b u,H b=some u->upd H h'.objs.size (kr h'.objs.size (Pv "<lambda>" (gN X) params body scope aP ((X.mg "__name__").getD .none) c jy)) b=some u:=fun b u e=>by rw[af (a7 e hf)];exact e
  refine⟨.ref h'.objs.size,_,Bc I hk hsz (o:=Pv "<lambda>" (gN X) params body scope aP ((X.mg "__name__").getD .none) c jy) rfl tk,rfl,q _ _ c oc aP _ ⟨c9,ee,⟨jy,rfl⟩,⟨vs,t,d1,d2⟩⟩ ⟨hf,⟨_,aA⟩,⟨uc,pre _ _ ec⟩,Lm.keep ⟨ps,hP,wq,xj⟩ (fun _ e=>pre _ _ e) fun _ _ _ e=>pre _ _ e,fun b u e _=>pre b u e,⟨ps,hP⟩⟩⟩
 |none=>
  refine PySem.W.kla_makeFunction (mg:=X.mg) gC I.ok.glob (I.mod.glob.keeps I.bk) dY (hd.keeps I.bk) wm wq hq VY hb fun c jy h' tk hx xx aT Uw Io=>?_
  obtain⟨c2,oc,vs,t,e2,uf,d1,d2⟩:=Uw;cases e2;have I2:=Bd (o:=Pv "<lambda>" (gN X) params body scope aP ((X.mg "__name__").getD .none) c jy) I hP hx xx aT uf Io rfl tk
  have hsz:s.heap.objs.size<=h'.objs.size:=ON (Pe xx aT);have hf:H h'.objs.size=none:=I.hok.fresh hsz;have sG:H c=none:=I.hok.fresh xx;have V1:c≠h'.objs.size:=l7 aT;have V2:P≠c:=fun z=>by rw[z,sG]at hP;cases hP
  have V3:P≠h'.objs.size:=fun z=>by rw[z,hf]at hP;cases hP
  have V4:OP (ps++#[rawInt pos.line,rawInt pos.col,l5 c]).toList :=by
   rw[YV];exact TriplesOk_snoc _ _ _ _ wq
  have pre:∀b u,H b=some u->b≠P->upd (upd (upd H P (.lam (ps++#[rawInt pos.line,rawInt pos.col,l5 c]))) c (kr c oc)) h'.objs.size (kr h'.objs.size (Pv "<lambda>" (gN X) params body scope aP ((X.mg "__name__").getD .none) c jy)) b=some u:=fun b u e n=>by
   rw[af (a7 e hf),af (a7 e sG),af n];exact e
  have SR:upd (upd (upd H P (.lam (ps++#[rawInt pos.line,rawInt pos.col,l5 c]))) c (kr c oc)) h'.objs.size (kr h'.objs.size (Pv "<lambda>" (gN X) params body scope aP ((X.mg "__name__").getD .none) c jy)) c=some (kr c oc) :=by rw[af V1,aA]
  refine⟨.ref h'.objs.size,_,I2,rfl,q _ _ c oc aP _ ⟨c9,ee,⟨jy,rfl⟩,⟨vs,t,d1,d2⟩⟩ ⟨hf,⟨_,aA⟩,⟨_,SR⟩,⟨_,by rw[af V3,af V2,aA],V4,fun p cv e=>?_⟩,pre,⟨ps,hP⟩⟩⟩
  rw[YV]at e;rcases DL _ wq e with e|e
  ·obtain⟨c3,V5,u3,V6,t3,a1,a2,a3⟩:=xj p cv e;exact⟨c3,V5,u3,V6,t3,a1,pre _ _ a2 (fun z=>by rw[z,hP]at a2;cases a2),a3⟩
  ·exact⟨c,oc,_,vs,t,e,SR,d1,d2⟩
end
structure Ip (X:Cx) (σ:St) (b':hX):Prop where
 ext:∀b o,X.base.get? b=some o->b'.get? b=some o
 cell:∀(i:Nat) (x:bn) (v:V),X.N[i]?=some x->σ[i]?=some (some v)->X.env.scope.names.lookup x=some .cell->∃c u,X.env.cells.lookup x=some c/\RelV v u/\b'.IsCell c (some u)
 cells:∀x c,X.env.cells.lookup x=some c->∃v,b'.IsCell c v
 inj:∀x y c,X.env.cells.lookup x=some c->X.env.cells.lookup y=some c->x=y
theorem Mod.ext {K:bi}{mg:bn->Option al}{b b':hX}(m:Mod K mg b) (k:∀a o,b.get? a=some o->b'.get? a=some o):Mod K mg b':=
 ⟨m.kin.keeps k,m.glob.keeps k,let ⟨mb,h1,h2⟩:=m.blt;⟨mb,h1.keeps k,h2⟩,m.nolimit.keeps k⟩
section
variable {X:Cx}{pins:List (ac×li)}{σ:St}{H:Hp}{s:ba}
theorem Inv.Rl (I:Inv X pins σ H s) (rg:∀x,X.fn x=true):∃b',Ip X σ b'/\sY X.prog X.w X.K X.mg b' X.A X.stack s H :=by
 let Iq:ac->Prop:=fun a=>∃x,X.env.cells.lookup x=some a
 let l:List ac:=(jp s.heap.objs.size).filter fun a=>@decide ((X.base.get? a=none)/\¬ Iq a) (OE _)
 have ml:∀a,a∈l ↔ a<s.heap.objs.size/\X.base.get? a=none/\¬ Iq a:=fun a=>by
  show a∈(jp s.heap.objs.size).filter _ ↔ _;rw[Nl,Me];simp only[decide_eq_true_eq]
 have ext:∀b o,X.base.get? b=some o->(Co s.heap l).get? b=some o:=fun b o e=>XX l (I.bk b o e) fun z=>by
  have:=((ml b).mp z).2.1;rw[e]at this;cases this
 have cls:∀x c o,X.env.cells.lookup x=some c->s.heap.get? c=some o->(Co s.heap l).get? c=some o:=fun x c o e ho=>XX l ho fun z=>((ml c).mp z).2.2 ⟨x,e⟩
 have only:∀b o,(Co s.heap l).get? b=some o->s.heap.get? b=some o/\((∃o',X.base.get? b=some o')\/Iq b):=fun b o e=>by
  have e':=Zb l e;refine⟨e',?_⟩;by_cases hc:Iq b
  ·exact .inr hc
  ·cases q:X.base.get? b with
   |some o'=>exact .inl ⟨o',rfl⟩
   |none=>
    have:(Co s.heap l).get? b=none:=PySem.W.hideAll_none l ((ml b).mpr ⟨ij e',q,hc⟩);rw[e]at this;cases this
 refine⟨Co s.heap l,⟨ext,fun i x v h1 h2 h3=>?_,fun x c e=>?_,I.ok.inj⟩,I.ok.frames,I.ok.mod.ext ext,fun b o e=>?_,Ye (PySem.W.hideAll_size _ _),?_,I.lW,I.hok,I.bare.1⟩
 ·obtain⟨m,hn,hl⟩:=I.loc;obtain⟨u,r,lk⟩:=hl i x v h1 h2 (.inr (.inl h3));rcases lk with ⟨hk,_⟩|⟨_,c,ec,o,ho,hd⟩
  ·have hk:X.env.scope.names.lookup x=some .local:=hk;rw[h3]at hk;cases hk
  ·exact⟨c,u,ec,r,o,cls x c o ec ho,hd⟩
 ·obtain⟨v,o,ho,hd⟩:=I.cell x c e;exact⟨v,o,cls x c o e ho,hd⟩
 ·obtain⟨e',q⟩:=only b o e;refine⟨e',?_⟩;rcases q with ⟨o',q⟩|⟨x,q⟩
  ·exact(I.bs b o' q).2
  ·exact I.freeC x b q
 ·have fr:∀L∈d6 X.stack,(Co s.heap l).get? L=none:=fun L hL=>by
   cases q:(Co s.heap l).get? L with
   |none=>rfl
   |some o=>
    exfalso
    obtain⟨e',q⟩:=only L o q;have nb:=(I.stack.mem hL).1;rcases q with ⟨o',q⟩|⟨x,q⟩
    ·rw[nb]at q;cases q
    ·rcases kw.mp (I.gh L hL) with z|z
     ·exact I.ra x L q z
     ·have h1:=I.ok.cab x L (rg x) q;obtain⟨_,o2,rD,_⟩:=I.ok.funs.mem z;exact absurd (ij rD) (Z3.mpr h1)
  have go:∀(st:List Mn),(∀L∈d6 st,(Co s.heap l).get? L=none)->s.heap.FunFrames X.base st->s.heap.FunFrames (Co s.heap l) st :=by
   intro st;induction st with
   |nil=>intro _ _;trivial
   |cons env r ih=>
    intro hs hl;obtain⟨hk,⟨L,o,hf,hn,ho,hd⟩,hr⟩:=hl;exact⟨hk,⟨L,o,hf,hs L (by unfold d6;rw[SO,hf];exact ma),ho,hd⟩,ih (fun b hb=>hs b (by unfold d6;rw[SO,hf];exact i0 _ hb)) hr⟩
  exact go X.stack fr I.stack
end
section
variable {X:Cx}{CX:gS}{k:Nat}{f:ac}{fd:l8}{ps:List bn}{gq:List V}{ds:List al}{E:XK}{x:bn}{p pos:wE}{e:db}{es:List db}{t:TA}
def OC (X:Cx) (sp:hX->Sp) (gq:List V) (E:XK) (t:TA):TE:=fun σ H Q=>t σ H fun vs H1=>∀b',Ip X σ b'->sp b' (vs++gq) H1 Q E
theorem Gf {sp:hX->Sp}(F:∀b',(∀b o,X.base.get? b=some o->b'.get? b=some o)->FnOk X.prog X.w X.K X.mg b' CX k f fd ps (sp b')) (hr:bC k X.A) (rg:∀x,X.fn x=true) (hg:Gl X x) (hm:X.mg x=some (.ref f)) (hk:EU X.K (.ref f)=true) (hb:Binds X.K fd ps ds) (hd:Vals gq ds) (hx:Passes CX X E)
  (ha:PA X (e::es) t) (d8:(x==("__debug__" : bn))=false :=by decide) (he:starEach (e::es) X.env=(false,eval e X.env)::starEach es X.env :=by rfl) (dy:(backTo pos (starEach es X.env)).any (·.1)=false :=by rfl) :
  PE X (.Call (.Name x p) (e::es) [] pos) (OC X sp gq E t) :=by
 refine⟨?_⟩;intro pins s σ H Q I h;refine DD (lX I hg hm ?_ d8);refine PySem.W.callWith_K (h₀:=X.base) I.ok.mod.kin hk (thn (ha pos pins s σ H _ I h) fun us s1 ⟨vs,H1,I1,r,q⟩=>⟨I1.fB,?_⟩) he dy
 obtain⟨b',B,e0⟩:=I1.Rl rg;have r2:Vals (vs++gq) (us++ds):=r.append hd;have hl:(us++ds).length=ps.length :=by rw[<- r2.length];exact(F b' B.ext).len _ _ _ _ (q b' B)
 refine Z2 (ZF ((F b' B.ext).run X.A X.stack s1 H1 ⟨us,[]⟩ (us++ds) (vs++gq) Q E hr e0 (hb s1 us I1.fB hl) r2 (q b' B)) fun r s' hq=>?_)
 cases r with
 |error e=>exact hx pins σ H1 s1 e s' I1 hq
 |ok fl=>
  cases fl with
  |ret u=>exact I1.after hq
  |next=>exact GT hq
  |brk=>exact GT hq
  |cont=>exact GT hq
def OD (f:ac) (o:li) (sp:Sp) (E:XK) (i:Nat) (t:TA):TE:=fun σ H Q=>σ[i]?=some (some (.ref f))/\(∃u,H f=some (.bM o u))/\t σ H fun vs H1=>(∃u,H1 f=some (.bM o u))/\sp vs H1 Q E
theorem Gg {o:li}{sp:Sp}{i:Nat}(F:FnOk X.prog X.w X.K X.mg X.base CX k f fd ps sp) (ho:∃oc od fd sl,o=⟨oc,od,.func fd,sl⟩) (hr:bC k X.A) (hN:X.N[i]?=some x) (hv:pP X.env.scope x) (hb:Binds X.K fd ps []) (hx:Passes CX X E) (ha:PA X (e::es) t)
  (d8:(x==("__debug__" : bn))=false :=by decide) (d7:(x==("__classdict__" : bn))=false :=by decide) (he:starEach (e::es) X.env=(false,eval e X.env)::starEach es X.env :=by rfl) (dy:(backTo pos (starEach es X.env)).any (·.1)=false :=by rfl) :
  PE X (.Call (.Name x p) (e::es) [] pos) (OD f o sp E i t) :=by
 refine⟨?_⟩;intro pins s σ H Q I ⟨hi,hf,h⟩;obtain⟨oc,od,HB,sl,rfl⟩:=ho;refine DD (thn ((vV hN hv d8 d7) pins s σ H (fun v H'=>v=.ref f/\H'=H) I ⟨_,hi,rfl,rfl⟩) fun u s0 ⟨v,H0,I0,r0,e1,e2⟩=>?_)
 subst e1 e2;cases (show u=l5 f from r0);have at_:∀{H':Hp} {s':ba},Inv X pins σ H' s'->(∃u,H' f=some (.bM ⟨oc,od,.func HB,sl⟩ u))->PySem.W.FnAt f s'.heap:=fun I' ⟨u,hu⟩=>⟨oc,od,HB,sl,(I'.hok f _ hu).1⟩
 refine PySem.W.callWith_F (at_ I0 hf) (thn (ha pos pins s0 σ H0 _ I0 h) fun us s1 ⟨vs,H1,I1,r,V7,q⟩=>⟨at_ I1 V7,?_⟩) he dy
 have q':sp (vs++[]) H1 Q E :=by rw[Is];exact q
 exact Ce F hr hb .nil hx I1 r q'
end
def Be (CX:gS) (P:gc) (w:i4) (K:bi) (mg:bn->Option al) (base:hX) (N:List bn) (qual:bn) (scope:wp) (f:ac) (cd:al) (aP:List (bn×ac)) (A:rb) (outer:List Mn) (s:ba) (H:Hp) (E:XK):Cx where
 prog:=P
 w:=w
 K:=K
 mg:=mg
 base:=base
 A:=A.deeper (SL qual scope s.heap.objs.size f cd aP)
 N:=N
 s₀:=s
 H₀:=H
 env:=SL qual scope s.heap.objs.size f cd aP
 outer:=outer
 stack:=SL qual scope s.heap.objs.size f cd aP::outer
 ex:=[]
 calm:=true
 fn:=fun _=>false
 pn:=[]
 xe:=fun e s'=>wpAny (model P w) (A.deeper (SL qual scope s.heap.objs.size f cd aP)) (leaving (SL qual scope s.heap.objs.size f cd aP) e) (fun _ bq=>CX outer H s E e bq) (fun e' bq=>CX outer H s E e' bq) s'
structure m4 (ps fs:List bn) (sc:wp):Prop where
 kind:sc.kind=.function
 co:sc.isCoroutine=false
 gen:sc.isGenerator=false
 nd:(ps++fs).Nodup
 par:∀x∈ps,sc.names.lookup x=some .local
 fre:∀x∈fs,sc.names.lookup x=some .free
 nocell:∀y∈sc.names,y.2≠.cell
structure tO (base:hX) (fs:List bn) (aP:List (bn×ac)) (vcs:List V):Prop where
 inj:∀x y c,aP.lookup x=some c->aP.lookup y=some c->x=y
 all:∀x c,aP.lookup x=some c->∃v,base.IsCell c v
 cell:∀(j:Nat) (x:bn) (v:V),fs[j]?=some x->vcs[j]?=some v->∃c u,aP.lookup x=some c/\RelV v u/\base.IsCell c (some u)
theorem sH {x:bn}{v:al}:∀{ps:List bn}{us:List al}{i:Nat},ps.Nodup->ps[i]?=some x->us[i]?=some v->(ps.zip us).reverse.lookup x=some v
 | [],_,_,_,h,_=>by simp at h
 |_::_,[],_,_,_,h=>by simp at h
 |p::ps,u::us,i,nd,h1,h2=>by
          rw[US,List.reverse_cons];have hn:=Pi.mp nd;cases i with
          |zero=>
           simp at h1 h2;subst h1 h2;rw[List.lookup_append];have:(ps.zip us).reverse.lookup p=none :=by
            rw[List.lookup_eq_none_iff];intro q hq;have Ny:=List.mem_reverse.mp hq;have:=(TM Ny).1;have ne:p≠q.1:=fun z=>hn.1 (by rw[z];exact this)
            simpa using ne
           rw[this];simp[List.lookup]
          |succ i=>
           rw[List.lookup_append,sH hn.2 (by simpa using h1) (by simpa using h2)]
           rfl
section
variable {CX:gS}{P:gc}{w:i4}{K:bi}{mg:bn->Option al}{base:hX}{ps fs:List bn}{qual:bn}{scope:wp}{f c:ac}{aP:List (bn×ac)}{A:rb}{outer:List Mn}{s:ba}{H:Hp}{E:XK}{us:List al}{vs vcs:List V}
theorem Ko {h1:hX}{tk:Nat}(S:m4 ps fs scope) (C:tO base fs aP vcs) (has:∀n,(n,v6)∈scope.names->∃a,aP.lookup n=some a) (hd:A.handled=none) (e0:sY P w K mg base A outer s H) (hl:vs.length=ps.length) (hc:vcs.length=fs.length) (r:Vals vs us)
  (d9:h1.Ns s.heap.objs.size (fun y=>(ps.zip us).reverse.lookup y)) (hk:∀b o,s.heap.get? b=some o->h1.get? b=some o) :
  Inv (Be CX P w K mg base (ps++fs) qual scope f (.ref c) aP A outer s H E) [] (vs.map some++vcs.map some) H {s with heap:=h1,toks:=tk}:=by
 have bc:∀x a,aP.lookup x=some a->∃v o,s.heap.get? a=some o/\o.data=.cell v/\H a=none:=fun x a e=>by
  obtain⟨v,o,ho,hd⟩:=C.all x a e;obtain⟨h1,h2⟩:=e0.bs a o ho;exact⟨v,o,h1,hd,h2⟩
 refine⟨⟨e0.mod,S.kind,rfl,rfl,c8 _,C.inj,fun y hy=>?_,fun _ _ z=>(nomatch z),fun _=>hd,rb.frames_deeper e0.frames,.inr ⟨rfl,rfl⟩,fun b z=>absurd (show b∈([]:List ac) from z) (by simp),e0.bs,e0.bsz,fun b _ _ z=>absurd (show b∈([]:List ac) from z) (by simp),fun b z=>absurd (show b∈([]:List ac) from z) (by simp),e0.funs,e0.frf⟩,
  rfl,⟨e0.bare,c8 _⟩,Un.kept hk,⟨_,d9,fun i y v h1 h2 h3=>?_⟩,fun y a e=>?_,e0.hok.fresh (c8 _),fun y a e=>?_,fun p hp=>absurd (show p∈([]:List (ac×li)) from hp) (by simp),e0.hok.kept hk,?_⟩
 ·have hy:scope.names.lookup y=some .cell\/scope.names.lookup y=some .free:=hy;rcases hy with hy|hy
  ·exact absurd rfl (S.nocell _ (xp hy))
  ·exact has y (xp hy)
 ·have h1:(ps++fs)[i]?=some y:=h1;by_cases hi:i<ps.length
  ·rw[ut hi]at h1;rw[ut (by simpa[hl] using hi),br]at h2
   have ha:vs[i]?=some v :=by
    cases e:vs[i]? with
    |none=>rw[e]at h2;cases h2
    |some a=>rw[e]at h2;cases h2;rfl
   obtain⟨u,hu,rv⟩:=r.get ha;have nd:ps.Nodup:=S.nd.sublist (List.sublist_append_left _ _);exact⟨u,rv,.inl ⟨S.par y (dL h1),sH nd h1 hu⟩⟩
  ·rw[wS (by omega)]at h1
   rw[wS (by simp only[ci];omega),ci,hl,br]at h2
   have ha:vcs[i - ps.length]?=some v :=by
    cases e:vcs[i - ps.length]? with
    |none=>rw[e]at h2;cases h2
    |some a=>rw[e]at h2;cases h2;rfl
   obtain⟨a,u,e1,rv,o,ho,hd⟩:=C.cell _ y v h1 ha;exact⟨u,rv,.inr ⟨.inr (S.fre y (dL h1)),a,e1,o,hk _ _ (e0.bs a o ho).1,hd⟩⟩
 ·obtain⟨v,o,ho,hd,_⟩:=bc y a e;exact⟨v,o,hk _ _ ho,hd⟩
 ·obtain⟨v,o,ho,hd,hn⟩:=bc y a e;exact hn
 ·show _=(ps++fs).length;simp[hl,hc]
structure Bf (params:OL) (body:db) (scope:wp) (qual:bn) (o:li) (c:ac) (oc:li) (aP:List (bn×ac)) (fd:l8):Prop where
 has:∀n,(n,v6)∈scope.names->∃a,aP.lookup n=some a
 obj:∃name pm jy,fd=PySem.W.kla_fn name qual params body scope aP pm (.ref c) jy/\o={cls:=.type "function",data:=.func fd}
 code:∃vs t,oc.data=.fields vs/\vs[1]?=some (YC qual t)
theorem OG {params:OL}{body:db}{o oc:li}{fd:l8}{k:Nat}{sp:Sp}(L:Bf params body scope qual o c oc aP fd) (S:m4 ps fs scope) (C:tO base fs aP vcs) (eY:vcs.length=fs.length) (len:∀vs H Q E,sp vs H Q E->vs.length=ps.length)
  (at':∀vs H Q E,sp vs H Q E->(∃u,H f=some (.bM o u))/\∃u,H c=some (.bM oc u))
  (mK:∀(A:rb) (outer:List Mn) (s:ba) (H:Hp) (vs:List V) (Q:VK) (E:XK),bC k (A.deeper (SL qual scope s.heap.objs.size f (.ref c) aP))->sp vs H Q E->
   ∃t,PE (Be CX P w K mg base (ps++fs) qual scope f (.ref c) aP A outer s H E) body t/\t (vs.map some++vcs.map some) H Q):FnOk P w K mg base CX (k+1) f fd ps sp :=by
 obtain⟨has,⟨name,pm,jy,rfl,rfl⟩,⟨V8,ct,d1,d2⟩⟩:=L;refine⟨len,fun A outer s H args us vs Q E hr e0 hb r kX=>?_⟩
 have hl:=len _ _ _ _ kX;obtain⟨⟨u1,ef⟩,⟨u2,ec⟩⟩:=at' _ _ _ _ kX;have V9:=(e0.hok f _ ef).1;have uf:=(e0.hok c _ ec).1;have lim:s.heap.NoLimit:=e0.mod.nolimit.keeps fun b o e=>(e0.bs b o e).1
 refine PySem.W.kla_callFunE hr.depth V9 rfl S.co S.gen rfl ⟨c,oc,V8,ct,rfl,uf,d1,d2⟩ (hb _ _ _ _ ?_);refine wpAny_newFunctionEnv S.nocell (fun y hy=>S.par y.1 (TM hy).1) (fun h1 d9 y9=>⟨lim.fresh _ y9,?_⟩) S.kind
 have hk:∀b o,s.heap.get? b=some o->h1.get? b=some o:=fun b o e=>y9.extBut b o (l7 (ij e)) (cb _ e)
 obtain⟨t,ht,hq⟩:=mK A outer s H vs Q E (hr.deeper _) kX;have I:=Ko (CX:=CX) (qual:=qual) (f:=f) (c:=c) (E:=E) (tk:=s.toks+(ps.zip us).length) S C has hr.hd e0 hl eY r d9 hk;show codeAny _ _ (.expr body (SL qual scope s.heap.objs.size f (.ref c) aP)) _ _;refine PySem.W.kla_codeExpr (mf (ht [] _ _ H Q I hq) (fun u s' ⟨v,H',J,rv,q⟩=>?_) fun e s' hs=>hs)
 exact⟨v,H',J.os,J.bare,J.base,J.hok,rv,q⟩
end
end L2
namespace L2
open PySem PySem.Spec PySem.W PyProof.Rows
structure Ir (K:bi) (mg:bn->Option al) (x:bn) (st:tw) (ps:List bn) (ds:List al) (f:ac) (fd:l8):Prop where
 ex:∃(oc:al) (od:Option ac) (dV kV doc pm:al) (an:Option ac) (cT ct:al) (gr:Array (Option al)),
  fd=B0 x x (dh st) (bJ st) (ai st) dV kV doc pm an cT ct/\K.lookup f=some ⟨oc,od,.func fd,gr⟩/\MW K cT x=true
 kp:EU K (.ref f)=true
 bd:Binds K fd ps ds
 bd0:Binds K fd ps []
 mg:mg x=some (.ref f)
section
variable {P:gc}{w:i4}{K:bi}{mg:bn->Option al}{base:hX}{tb:cz}{x:bn}{st:tw}{f:ac}{fd:l8}{N ps:List bn}{gq:List al}{k:Nat}{S:cp}
theorem Rm (D:Ir K mg x st ps gq f fd) (sc:aO N ps (ai st)) (len:∀ds M Q E,S ds M Q E->ds.length=ps.length)
  (body:∀(A:rb) (outer:List Mn) (s:ba) (E:XK) (Γ:Gz) (ds:List Dv) (Q':ZK) (E':ZX),P=Γ.P->w=Γ.w->K=Γ.K->tb=Γ.tb->bC k (A.deeper (envOfC x (ai st) s.heap.objs.size f fd.code))->S ds Γ.M0 Q' E'->
   ∃p,lb Γ (f9 bf P w K mg base N x (ai st) f fd.code A outer s Γ.H0 E).ju (bJ st) p/\p (zEndsOf Γ.M0 Q') (zstart N ds) Γ.M0):FnOk P w K mg base bf (k+1) f fd ps (aX P w K tb S) :=by
 obtain⟨oc,od,dV,kV,doc,pm,an,cT,ct,gr,rfl,lk,d7⟩:=D.ex;refine Ar lk d7 sc (tJ len) fun A outer s H vs Q E hr h=>?_
 obtain⟨β,ds,M,Q',E',eP,ew,eK,et,m,rs,hS,q,_⟩:=h;obtain⟨p,hp,hq⟩:=body A outer s E ⟨β,M,H⟩ ds Q' E' eP.symm ew.symm eK.symm et.symm hr hS;refine⟨_,hp.ju,β,zstart N ds,M,zEndsOf M Q',qC (Γ:=⟨β,M,H⟩) m rs,hq,?_⟩;have fin:∀d M' v H',Ex β M H M' H'->Rz β M' H' v d->jn M Q' d M'->Q v H':=fun d M' v H' x r h=>pC m q x r h
 exact⟨fun bG M' aF H' x zr h=>fin _ _ _ _ ⟨zr.ent,x.mz⟩ .au h,fun d M' v H' x e r h=>fin _ _ _ _ ⟨e,x.mz⟩ r h,fun _ _ _ _ _ _ h=>h,fun _ _ _ _ _ _ h=>h⟩
def Iu (P:gc) (w:i4) (K:bi) (tb:cz) (f:ac) (o:li) (c:ac) (oc:li) (vcs:List V) (S:List Dv->cp):Sp:=fun vs H Q E=>∃(β:Bz) (ds cA:List Dv) (M:Mh) (Q':ZK) (E':ZX),β.P=P/\β.w=w/\β.K=K/\β.tb=tb/\Mz β M H/\aG β M H vs ds/\Rz β M H (.ref f) (.bS f o c oc vcs cA)/\S cA ds M Q' E' /\
 (∀d M' v H',Ex β M H M' H'->Rz β M' H' v d->Q' d M'->Q v H')/\∀C M' H',Ex β M H M' H'->E' C M'->E (.ref C) none H'
theorem ly {β:Bz}{M:Mh}{H:Hp}{v:V}{f c:ac}{o oc:li}{vs:List V}{ds:List Dv}(h:Rz β M H v (.bS f o c oc vs ds)):v=.ref f/\(∃u,H f=some (.bM o u))/\(∃u,H c=some (.bM oc u))/\aG β M H vs ds :=by
 cases h with
 |bS m e m2 e2 hl h=>exact⟨rfl,⟨_,e⟩,⟨_,e2⟩,hl,h⟩
theorem OH {Γ:Gz}{vs vcs:List V}{ds cA:List Dv}(m:Mz Γ.toBz Γ.M0 Γ.H0) (rs:aG Γ.toBz Γ.M0 Γ.H0 vs ds) (rc:aG Γ.toBz Γ.M0 Γ.H0 vcs cA):Zr Γ Γ.toBz Γ.M0 (ds.map some++cA.map some) (vs.map some++vcs.map some) Γ.H0:=
 ⟨rfl,rfl,rfl,rfl,fun _ h=>h,m.wf,.refl,m,by simp[rs.len,rc.len],fun i d e=>by
  rw[<- zn,br,lc]at e;obtain⟨d2,e,e2⟩:=e;cases e2;obtain⟨v,hv,r⟩:=(rs.append rc).get e;exact⟨v,by rw[<- zn,br,hv];rfl,r⟩⟩
theorem Ux {fs:List bn}{qual:bn}{scope:wp}{params:OL}{body:db}{c:ac}{o oc:li}{aP:List (bn×ac)}{vcs:List V}{Sc:List Dv->cp}(L:Bf params body scope qual o c oc aP fd) (sc:m4 ps fs scope) (C:tO base fs aP vcs) (eY:vcs.length=fs.length)
  (len:∀cA ds M Q E,Sc cA ds M Q E->ds.length=ps.length)
  (hb:∀(A:rb) (outer:List Mn) (s:ba) (E:XK) (Γ:Gz) (cA ds:List Dv) (Q':ZK) (E':ZX),P=Γ.P->w=Γ.w->K=Γ.K->tb=Γ.tb->bC k (A.deeper (SL qual scope s.heap.objs.size f (.ref c) aP))->Sc cA ds Γ.M0 Q' E'->
   ∃p,QE Γ (Be bf P w K mg base (ps++fs) qual scope f (.ref c) aP A outer s Γ.H0 E).ju body p/\p (ds.map some++cA.map some) Γ.M0 (jn Γ.M0 Q')):FnOk P w K mg base bf (k+1) f fd ps (Iu P w K tb f o c oc vcs Sc) :=by
 refine OG L sc C eY (fun vs H Q E hS=>by obtain⟨β,ds,cA,M,Q',E',_,_,_,_,m,rs,rc,s,_⟩:=hS;exact rs.len.trans (len _ _ _ _ _ s)) (fun vs H Q E hS=>by obtain⟨β,ds,cA,M,Q',E',_,_,_,_,m,rs,rc,s,_⟩:=hS;obtain⟨_,h1,h2,_⟩:=ly rc;exact⟨h1,h2⟩) fun A outer s H vs Q E hr h=>?_
 obtain⟨β,ds,cA,M,Q',E',eP,ew,eK,et,m,rs,rc,hS,q,_⟩:=h;obtain⟨p,hp,hq⟩:=hb A outer s E ⟨β,M,H⟩ cA ds Q' E' eP.symm ew.symm eK.symm et.symm hr hS;obtain⟨_,_,_,Iv⟩:=ly rc;exact⟨_,hp.ju,β,_,M,_,OH (Γ:=⟨β,M,H⟩) m rs Iv,hq,fun d M' v H' x r h=>pC m q x r h⟩
end
section
variable {X:Cx}{Γ:Gz}{β:Bz}{CX:gS}{k:Nat}{f:ac}{fd:l8}{ps:List bn}{E:XK}{E':ZX}{x:bn}{p pos:wE}{e:db}{es:List db}{za:eh}{P:gc}{w:i4}{tb:cz}{K:bi}
def zCallL (f:ac) (o:li) (c:ac) (oc:li) (vcs:List V) (S:List Dv->cp) (E':ZX) (i:Nat) (za:eh):aK:=fun ρ M Q=>match ρ[i]? with
 |some (some (.bS f' o' c' OI OJ cA))=>(f'=f/\o'=o/\c'=c/\OI=oc/\OJ=vcs)/\za ρ M fun ds M1=>S cA ds M1 Q E'
 |_=>False
theorem Gh {c:ac}{o oc:li}{vcs:List V}{S:List Dv->cp}{i:Nat}(F:FnOk X.prog X.w X.K X.mg X.base CX k f fd ps (Iu P w K tb f o c oc vcs S)) (ho:∃oc od fd sl,o=⟨oc,od,.func fd,sl⟩) (hr:bC k X.A) (hN:X.N[i]?=some x) (hv:pP X.env.scope x) (hb:Binds X.K fd ps [])
  (hx:Passes CX X E) (hP:P=Γ.P) (hw:w=Γ.w) (hK:K=Γ.K) (ht:tb=Γ.tb) (hE:XR Γ E' E) (ha:QA Γ X (e::es) za) (d8:(x==("__debug__" : bn))=false :=by decide) (d7:(x==("__classdict__" : bn))=false :=by decide)
  (he:starEach (e::es) X.env=(false,eval e X.env)::starEach es X.env :=by rfl) (dy:(backTo pos (starEach es X.env)).any (·.1)=false :=by rfl):QE Γ X (.Call (.Name x p) (e::es) [] pos) (zCallL f o c oc vcs S E' i za):=
 (Gg F ho hr hN hv hb hx ha d8 d7 he dy).imp fun σ H Q ⟨β,ρ,M,Q',zr,h,q⟩=>by
  subst hP hw hK ht;unfold zCallL at h;split at h
  ·rename_i f' o' c' OI OJ cA hi;obtain⟨⟨rfl,rfl,rfl,rfl,rfl⟩,h⟩:=h;obtain⟨v,hv,r⟩:=zr.at' i _ hi;obtain⟨rfl,h1,_,_⟩:=ly r;refine⟨hv,h1,β,ρ,M,_,zr,h,fun ds M1 vs H1 x1 r1 h2=>?_⟩
   have r':=r.ex x1;obtain⟨_,h3,_,_⟩:=ly r';exact⟨h3,β,ds,cA,M1,Q',E',zr.eP,zr.ew,zr.eK,zr.et,x1.mz,r1,r',h2,fun d M2 v H2 x2 r2 h2=>q _ _ _ _ (x1.trans x2) r2 h2,fun C M2 H2 x2 h2=>hE C M2 H2 (sy zr.ent zr.sub zr.eP zr.ew zr.eK zr.et (x1.trans x2)) h2⟩
  ·exact h.elim
end
theorem Ex.Uy {X:Cx}{P:ac}{β:Bz}{M:Mh}{H H2:Hp}{f c:ac}{o oc:li}(m:Mz β M H) (hp:∀q∈β.tb.l,q.1=P->q.2=gN X) (n:Oz X P H H2 f o c oc):Ex β M H M H2 :=by
 obtain⟨new,at',cd,lm,keep,⟨ps,hP⟩⟩:=n;obtain⟨ps2,OM,_⟩:=id lm;have nP:∀b u,H b=some u->(∀ps,u≠.lam ps)->b≠P:=fun b u e q z=>by rw[z,hP]at e;cases e;exact q _ rfl
 have ey:Ey M H M H2:=⟨fun b u _ e=>by
  by_cases hb:b=P
  ·subst hb;rw[hP]at e;cases e;exact .inr ⟨_,.inr (.inl ⟨ps,ps2,rfl,rfl⟩),OM⟩
  ·exact .inl (keep b u e hb),fun _ h=>h,fun _ _ h _=>h⟩
 refine⟨ey,fun a u e=>?_,fun q hq=>?_,fun a ha=>?_,m.apart,fun q hq=>?_⟩
 ·have z:=m.obj a u e;have k:∀u,H a=some u->L2.qy u=true->H2 a=some u:=fun u h hu=>keep a u h (nP a u h (by intro ps z;subst z;cases hu))
  cases u with
  |lst ds=>obtain⟨vs,z,l,r⟩:=z;exact⟨vs,k _ z rfl,l,fun i v d a b=>(r i v d a b).ey ey⟩
  |dk ks ds=>obtain⟨vs,z,hk,l,r⟩:=z;exact⟨vs,k _ z rfl,hk,l,fun i v d a b=>(r i v d a b).ey ey⟩
  |dt ks ds=>obtain⟨vs,z,hk,l,r⟩:=z;exact⟨vs,k _ z rfl,hk,l,fun i v d a b=>(r i v d a b).ey ey⟩
  |dA=>obtain⟨c,n,z,r⟩:=z;exact⟨c,n,k _ z rfl,r⟩
 ·obtain⟨ps,e,t⟩:=m.tabs q hq;exact⟨ps,keep _ _ e (nP _ _ e (by intro ps z;cases z)),t⟩
 ·obtain⟨u,e,n⟩:=m.hids a ha;exact⟨u,keep _ _ e (nP _ _ e (by intro ps z;subst z;cases n)),n⟩
 ·by_cases hb:q.1=P
  ·have:q=(P,gN X):=Prod.ext hb (hp q hq hb);rw[this];exact lm
  ·exact(m.lams q hq).keep (fun _ e=>keep _ _ e hb) fun c' _ _ e=>keep _ _ e (nP _ _ e (by intro ps z;cases z))
section
variable {X:Cx}{Γ:Gz}{β:Bz}{CX:gS}{k:Nat}{f:ac}{fd:l8}{ps:List bn}{E:XK}{E':ZX}{x:bn}{p pos ow:wE}{e1 e2:db}{rest:List db}{z1 z2:aK}{zr:eh}{P:gc}{w:i4}{tb:cz}{K:bi}
def sI:List Nat->az->Option (List Dv)
 | [],_=>some []
 |i::is,ρ=>match ρ[i]?,sI is ρ with|some (some d),some ds=>some (d::ds)|_,_=>none
theorem zR {Γ:Gz}{M:Mh}{ρ:az}{σ:St}{H:Hp}(z:Zr Γ β M ρ σ H):∀{idx:List Nat}{cA:List Dv},sI idx ρ=some cA->∃vcs,aG β M H vcs cA/\vcs.length=idx.length/\∀(j i:Nat) (v:V),idx[j]?=some i->vcs[j]?=some v->σ[i]?=some (some v)
 | [],cA,h=>by cases h;exact⟨[],.nil,rfl,fun j i v h=>by simp at h⟩
 |i::is,cA,h=>by
          unfold sI at h;split at h
          ·rename_i d ds h1 h2;cases h;obtain⟨v,hv,r⟩:=z.at' i d h1;obtain⟨vcs,rs,l,q⟩:=zR z h2;refine⟨v::vcs,.cons r rs,by simp[l],fun j i' u a b=>?_⟩
           cases j with
           |zero=>simp at a b;subst a b;exact hv
           |succ j=>exact q j i' u (by simpa using a) (by simpa using b)
          ·cases h
def xA (X:Cx) (params:OL) (body:db) (scope:wp) (idx:List Nat) (fs:List bn) (S:hX->cp) (dd:List Dv) (E':ZX) (z1 z2:aK) (zr:eh):aK:=fun ρ M Q=>z1 ρ M fun d1 M1=>z2 ρ M1 fun d2 M2=>match sI idx ρ with
 |some cA=>∀f o c oc aP vcs,vcs.length=idx.length->Oy X params body scope o c oc aP->zr ρ M2 fun es M3=>∀b',(∀b o,X.base.get? b=some o->b'.get? b=some o)->tO b' fs aP vcs->S b' (d1::d2::.bS f o c oc vcs cA::es++dd) M3 Q E'
 |none=>False
theorem Bg {params:OL}{body:db}{scope:wp}{idx:List Nat}{fs:List bn}{S:hX->cp}{gq:List V}{dd:List Dv}{ds:List al}{PT cX:ac}(dY:X.env.code=.ref cX) (d7:u4 X.base cX PT) (dX:∃bm ob,Yj X.base mainGlobals X.mg bm ob) (vQ:defaultsOf params X.env=([],[]))
  (oV:∀n,(n,v6)∈scope.names->X.env.kindOf n=some .cell\/X.env.kindOf n=some .free) (Wa:∀(j:Nat) (n:bn),fs[j]?=some n->(n,v6)∈scope.names/\X.env.scope.names.lookup n=some .cell/\∃i,idx[j]?=some i/\X.N[i]?=some n)
  (mx:(PT,gN X)∈Γ.tb.l) (OO:∀q∈Γ.tb.l,q.1=PT->q.2=gN X)
  (F:∀b',(∀b o,X.base.get? b=some o->b'.get? b=some o)->FnOk X.prog X.w X.K X.mg b' CX k f fd ps (aX P w K tb (S b'))) (hr:bC k X.A) (rg:∀x,X.fn x=true) (hg:Gl X x) (hm:X.mg x=some (.ref f)) (hk:EU X.K (.ref f)=true) (hb:Binds X.K fd ps ds) (hd:Vals gq ds) (Wb:∀β M H,aG β M H gq dd)
  (hx:Passes CX X E) (hP:P=Γ.P) (hw:w=Γ.w) (hK:K=Γ.K) (ht:tb=Γ.tb) (hE:XR Γ E' E) (h1:QE Γ X e1 z1) (h2:QE Γ X e2 z2) (h3:QA Γ X rest zr) (d8:(x==("__debug__" : bn))=false :=by decide)
  (s1:starEach (e1::e2::.Lambda params body scope ow::rest) X.env=(false,eval e1 X.env)::starEach (e2::.Lambda params body scope ow::rest) X.env :=by rfl)
  (s2:starEach (e2::.Lambda params body scope ow::rest) X.env=(false,eval e2 X.env)::starEach (.Lambda params body scope ow::rest) X.env :=by rfl)
  (s3:starEach (.Lambda params body scope ow::rest) X.env=(false,eval (.Lambda params body scope ow) X.env)::starEach rest X.env :=by rfl)
  (dy:(backTo pos (starEach (e2::.Lambda params body scope ow::rest) X.env)).any (·.1)=false :=by rfl) :
  QE Γ X (.Call (.Name x p) (e1::e2::.Lambda params body scope ow::rest) [] pos) (xA X params body scope idx fs S dd E' z1 z2 zr):=
 (Gf F hr rg hg hm hk hb hd hx (oW h1 (oW h2 (oW (OB dY d7 dX vQ oV) h3 s3) s2) s1) d8 s1 dy).imp fun σ H Q ⟨β,ρ,M,Q',ku,h,q⟩=>by
  subst hP hw hK ht;refine⟨β,ρ,M,_,ku,h,fun d1 M1 v1 H1 x1 r1 h1=>⟨β,ρ,M1,_,ku.step x1,h1,fun d2 M2 v2 H2 x2 r2 h2=>?_⟩⟩
  have Ib:=(ku.step x1).step x2;have Uz:(PT,gN X)∈β.tb.l :=by rw[ku.et];exact mx
  have UA:∀q∈β.tb.l,q.1=PT->q.2=gN X :=by rw[ku.et];exact OO
  refine⟨x2.mz.lams _ Uz,fun lf o c oc aP H3 hO hN=>?_⟩
  split at h2
  ·rename_i cA Rn;obtain⟨vcs,Iv,lcs,at'⟩:=zR Ib Rn;have x3:=Ex.Uy x2.mz UA hN;have N1:=Ib.step x3;refine⟨β,ρ,M2,_,N1,h2 lf o c oc aP vcs lcs hO,fun es M4 ws H4 x4 r4 h4=>?_⟩
   intro b' B;obtain⟨u1,a1⟩:=hN.at';obtain⟨u2,a2⟩:=hN.cd;have SU:=x3.mz;have Wc:Fz β M2 lf:=x2.mz.fz hN.new;have UB:∀a o u,H3 a=some (.bM o u)->a ∉ β.hid:=fun a o u e z=>by
    obtain⟨w,e',n⟩:=SU.hids a z;rw[e]at e';cases e';cases n
   have UC:Rz β M2 H3 (.ref lf) (.bS lf o c oc vcs cA):=.bS Wc a1 ⟨SU.j9 a2 rfl,UB _ _ _ a2⟩ a2 Iv.len fun i v d a b=>(Iv.at' i v d a b).ex x3
   have UD:tO b' fs aP vcs :=by
    refine⟨fun n m a e e'=>B.inj n m a (hO.cells n a e) (hO.cells m a e'),fun n a e=>B.cells n a (hO.cells n a e),fun j n v hj hv=>?_⟩
    obtain⟨fr,kc,i,hi,hn⟩:=Wa j n hj;obtain⟨a,u,e1,e2,e3⟩:=B.cell i n v hn (at' j i v hi hv) kc;obtain⟨a',e'⟩:=hO.has n fr;have:=(hO.cells n a' e').symm.trans e1;cases this;exact⟨a,u,e',e2,e3⟩
   have qa:=x2.trans (x3.trans x4);have Wd:=x3.trans x4;refine⟨β,_,M4,Q',E',ku.eP,ku.ew,ku.eK,ku.et,x4.mz,?_,h4 b' B.ext UD,fun d M5 v H5 x5 r5 h5=>q _ _ _ _ (x1.trans (qa.trans x5)) r5 h5,fun C M5 H5 x5 h5=>hE C M5 H5 (sy ku.ent ku.sub ku.eP ku.ew ku.eK ku.et (x1.trans (qa.trans x5))) h5⟩
   have rs:aG β M4 H4 (v1::v2::.ref lf::ws++gq) (d1::d2::.bS lf o c oc vcs cA::es++dd):=.cons (r1.ex qa) (.cons (r2.ex Wd) (.cons (UC.ex x4) (r4.append (Wb _ _ _))));exact rs
  ·exact h2.elim
end
end L2
namespace L2
open PySem PySem.Spec PyProof.Rows
theorem DN {P:gc}{w:i4}{K:bi}{mg mb:bn->Option al}{CX:gS}{k:Nat}{fa a:ac}{fd:l8}{x:bn}{sp:Sp}{aC:ba}{vs:List al}{ns:List Int}{tabs lts:List ac}
  (KX:K.In aC.heap) (d9:aC.heap.Ns mainGlobals mg) (hb:aC.heap.Ns builtinsNs mb) (We:∀x:bn,x ≠ "__name__" -> mb x=bootBuiltins x) (OQ:aC.heap.NoLimit) (hg:aC.gens=#[])
  (ha:aC.heap.get? a=some {cls:=.type "list",data:=.seq vs.toArray}) (hi:WJ vs ns) (hl:ns.length<=sizeLine) (hr:bC k callerA)
  (tP:∀p∈tabs++lts,aC.heap.get? p=some (Sk #[])/\isCodeTable aC.heap p) (UE:∀p∈tabs,p ∉ lts) (DP:Zi K=true) (dX:∃bm ob,Yj aC.heap mainGlobals mg bm ob)
  (F:∀base:hX,K.In base->base.Ns mainGlobals mg->(∃bm ob,Yj base mainGlobals mg bm ob)->(∀c p,u4 aC.heap c p->u4 base c p)->FnOk P w K mg base CX k fa fd [x] sp)
  (Ro:∀(s:ba) (u:al),ZD s fd ⟨[u],[]⟩ [(x,u)])
  (kX:∀H:Hp,(∀p∈tabs,Tb p H)->(∀p∈lts,H p=some (.lam #[]))->bo K H a (ns.map V.int)->sp [.ref a] H (fun v H'=>v=.bl true/\∀p∈lts,∃ps,H' p=some (.lam ps)) fun _ _ _=>False)
  (OS:∀H e s',CX [] H aC (fun _ _ _=>False) e s'->False) :
  codeAny (model P w) callerA (.call (.ref fa) ⟨[.ref a],[]⟩) (fun r s'=>r=.ok (.ret (.bool true))/\OldK aC.heap s'.heap/\s'.os=aC.os/\Z0 s'.gens) aC :=by
 have rv:=uy hi;have UG:=hi.length;have rV:a ∉ tabs++lts:=fun z=>by
  have e:=(tP a z).1;rw[ha]at e;cases e
 have core:∀H:Hp,(∀b u,H b=some u->(b=a/\∃o xs,u=.bM o (.lst xs))\/(b∈tabs++lts/\(u=.c7 #[]/\b∈tabs\/u=.lam #[]/\b∈lts)))->(∀p∈tabs,H p=some (.c7 #[]))->(∀p∈lts,H p=some (.lam #[]))->bo K H a (ns.map V.int)->cS P w H aC.heap->(H a≠none->K.lookup a=none)->
   codeAny (model P w) callerA (.call (.ref fa) ⟨[.ref a],[]⟩) (fun r s'=>r=.ok (.ret (.bool true))/\OldK aC.heap s'.heap/\s'.os=aC.os/\Z0 s'.gens) aC :=by
  intro H hO Wg Wh hS hok hK;have pF:∀{b:ac} {o:li},aC.heap.get? b=some o->H b=none->(jX aC.heap H).get? b=some o:=fun e n=>E5 e n
  have no:∀{b:ac} {o:li},aC.heap.get? b=some o->(∀n,o.data≠.seq vs.toArray n)->o≠Sk #[]->H b=none:=fun {b o} e d1 d2=>by
   cases q:H b with
   |none=>rfl
   |some u=>
    rcases hO b u q with ⟨e',_⟩|⟨gW,_⟩
    ·subst e';rw[ha]at e;cases e;exact absurd rfl (d1 _)
    ·rw[(tP b gW).1]at e;exact absurd (i8 e).symm d2
  have Wi:∀{b:ac} {o:li} {es:Array X6} {ep:Nat},aC.heap.get? b=some o->o.data=.dict es ep->H b=none:=fun {b o es ep} e d=>no e (fun n z=>by rw[d]at z;cases z) fun z=>by rw[z]at d;cases d
  have DQ:∀{b:ac} {m:bn->Option al},aC.heap.Ns b m->(jX aC.heap H).Ns b m:=fun {b m} hS=>by obtain⟨o,es,ep,e,d,r⟩:=hS;exact⟨o,es,ep,pF e (Wi e d),d,r⟩
  have SV:K.In (jX aC.heap H):=fun b o e=>pF (KX b o e) (by
   cases q:H b with
   |none=>rfl
   |some u=>
    rcases hO b u q with ⟨e',_⟩|⟨gW,_⟩
    ·subst e';rw[hK (by rw[q];simp)]at e;cases e
    ·have e1:=KX b o e;have e2:=(tP b gW).1;rw[e1]at e2;have e3:o=Sk #[]:=i8 e2;have q2:=wn.mp DP (b,o) (PySem.W.kb_mem e);simp only[X2,decide_eq_true_eq,beq_iff_eq]at q2;rcases q2 with (q2|q2)|q2
     ·rw[e3]at q2;exact absurd rfl q2
     ·obtain⟨mc,⟨oc,es,ep,ho,hd,_⟩,_⟩:=OQ;rw[<- q2,e1]at ho;cases ho;rw[e3]at hd;cases hd
     ·obtain⟨oc,es,ep,ho,hd,_⟩:=id d9;rw[<- q2,e1]at ho;cases ho;rw[e3]at hd;cases hd)
  have hM:Mod K mg (jX aC.heap H):=⟨SV,DQ d9,⟨mb,DQ hb,We⟩,let ⟨mc,h1,h2⟩:=OQ;⟨mc,DQ h1,h2⟩⟩;have hB:∃bm ob,Yj (jX aC.heap H) mainGlobals mg bm ob :=by
   obtain⟨bm,ob,B⟩:=dX;exact⟨bm,ob,DQ B.ns,B.name,B.ne,pF B.obj (no B.obj (fun n z=>by rw[B.data]at z;cases z) fun z=>by have:=B.data;rw[z]at this;cases this),B.cls,B.dict,B.data⟩
  have hC:∀c p,u4 aC.heap c p->u4 (jX aC.heap H) c p:=fun c p ⟨o,wX,file,tf,flags,tg,Wj,text,tt,e1,e2,e3,r⟩=>
   ⟨o,wX,file,tf,flags,tg,Wj,text,tt,pF e1 (no e1 (fun n z=>by rw[e3]at z;cases z) fun z=>by rw[z]at e2;cases e2),e2,e3,r⟩
  have e0:sY P w K mg (jX aC.heap H) callerA [] aC H:=⟨rfl,hM,fun b o e=>Jf e,Ye (BW _ _),trivial,fun b hb=>absurd (show b∈([]:List ac) from hb) (by simp),hok,.of_eq hg⟩
  refine ZF ((F _ SV (DQ d9) hB hC).run callerA [] aC H ⟨[.ref a],[]⟩ [.ref a] [.ref a] _ _ hr e0 (Ro aC (.ref a)) (.cons rfl .nil) (kX H (fun p hp=>⟨#[],Wg p hp,trivial⟩) Wh hS)) fun r s' h=>?_
  cases r with
  |error e=>exact(OS H e s' h).elim
  |ok fl=>
   cases fl with
   |next=>exact GT h
   |brk=>exact GT h
   |cont=>exact GT h
   |ret u=>
    obtain⟨v,H',os,bare,un,Gi,r',q⟩:=h;obtain⟨q',qL⟩:=q;subst q';obtain rfl:u=YK true:=r';have all:∀b o,aC.heap.get? b=some o->asItWas aC.heap s'.heap b o/\∃o',s'.heap.get? b=some o':=fun b o e=>by
     cases q:H b with
     |none=>
      have:=un.keep b o e q (by intro z;exact absurd (show b∈([]:List ac) from z) (by simp)) (by simp)
      exact⟨.inl this,_,this⟩
     |some u=>
      rcases hO b u q with ⟨_,ob,xs,z⟩|⟨gW,z⟩
      ·subst z;have z2:=un.frzs b ob _ q;obtain⟨e1,_⟩:=hok b _ q;obtain⟨e2,_⟩:=Gi b _ z2;rw[e]at e1;cases e1;exact⟨.inl e2,_,e2⟩
      ·have e2:∃more,s'.heap.get? b=some {cls:=.none,data:=.fields (#[]++more)}:=by
        rcases z with ⟨z,_⟩|⟨z,ox⟩
        ·subst z;obtain⟨more,z2⟩:=un.tbls b #[] q;exact⟨more,Gi b _ z2⟩
        ·obtain⟨ps,z2⟩:=qL b ox;refine⟨ps,?_⟩;have:=Gi b _ z2;rw[show (#[]:Array al)++ps=ps by simp]
         exact this
       obtain⟨more,e2⟩:=e2;have e1:=(tP b gW).1;rw[e]at e1;obtain rfl:o=Sk #[]:=i8 e1;exact⟨.inr (.inl ⟨(tP b gW).2,rfl,#[],more,rfl,e2⟩),_,e2⟩
    exact⟨rfl,⟨fun b o e=>(all b o e).1,fun b o e=>(all b o e).2⟩,os,bare.1⟩
 have OT:∀p∈tabs++lts,∀H:Hp,∀u,(u=.c7 #[]/\p∈tabs\/u=.lam #[]/\p∈lts)->ObjOk P w H aC.heap p u:=fun p hp H u hu=>by
  rcases hu with ⟨rfl,_⟩|⟨rfl,_⟩<;>exact(tP p hp).1
 let T:Hp:=fun b=>if b∈lts then some (.lam #[]) else if b∈tabs then some (.c7 #[]) else none
 have T1:∀b u,T b=some u->b∈tabs++lts/\(u=.c7 #[]/\b∈tabs\/u=.lam #[]/\b∈lts):=fun b u z=>by
  by_cases h1:b∈lts
  ·have z':=(show T b=_ from if_pos h1).symm.trans z;cases z';exact⟨f8 _ h1,.inr ⟨rfl,h1⟩⟩
  ·by_cases h2:b∈tabs
   ·have z':=(show T b=_ from (if_neg h1).trans (if_pos h2)).symm.trans z;cases z';exact⟨u7 _ h2,.inl ⟨rfl,h2⟩⟩
   ·have z':=(show T b=_ from (if_neg h1).trans (if_neg h2)).symm.trans z;cases z'
 have T2:∀p∈tabs,T p=some (.c7 #[]):=fun p hp=>(if_neg (UE p hp)).trans (if_pos hp)
 have T3:∀p∈lts,T p=some (.lam #[]):=fun p hp=>if_pos hp
 have Ta:T a=none:=(if_neg fun z=>rV (f8 _ z)).trans (if_neg fun z=>rV (u7 _ z))
 cases hk:K.lookup a with
 |some o=>
  have e:=KX a o hk;rw[ha]at e;cases e;exact core T (fun b u z=>.inr (T1 b u z)) T2 T3 (.inr ⟨_,vs.toArray,_,hk,rfl,rfl,rfl,by rw[ii,UG];exact hl,by simpa using rv⟩) (fun b u z=>OT b (T1 b u z).1 _ u (T1 b u z).2) fun z=>absurd Ta z
 |none=>
  have na:∀p∈tabs++lts,p≠a:=fun p hp z=>rV (z▸hp)
  refine core (upd T a (.bM {cls:=.type "list",data:=.seq vs.toArray} (.lst (ns.map V.int)))) (fun b u z=>?_) (fun p hp=>by rw[af (na p (u7 _ hp))];exact T2 p hp) (fun p hp=>by rw[af (na p (f8 _ hp))];exact T3 p hp) (.inl (.inr ⟨_,aA⟩)) (fun b u z=>?_) fun _=>hk
  ·by_cases hb:b=a
   ·subst hb;rw[aA]at z;cases z;exact .inl ⟨rfl,_,_,rfl⟩
   ·rw[af hb]at z;exact .inr (T1 b u z)
  ·by_cases hb:b=a
   ·subst hb;rw[aA]at z;cases z;exact⟨ha,by rw[ci];exact hl,vs,_,rv,ha⟩
   ·rw[af hb]at z;exact OT b (T1 b u z).1 _ u (T1 b u z).2
def vM (K:bi) (x:bn):Option ac:=match nw K mainGlobals x with
 |some (some (.ref f))=>(match K.lookup f with
  |some ⟨_,_,.func fd,_⟩=>(match fd.code with
   | .ref c=>(match K.lookup c with
    |some ⟨_,_,.fields vs,_⟩=>(match vs[11]? with|some (l5 p)=>some p|_=>none)
    |_=>none)
   |_=>none)
  |_=>none)
 |_=>none
abbrev TabOf (mg:bn->Option al) (h:hX) (y:bn) (p:ac):Prop:=∃f o fd c,mg y=some (.ref f)/\h.get? f=some o/\o.data=.func fd/\fd.code=.ref c/\u4 h c p
theorem xB {K:bi}{mg:bn->Option al}{h:hX}{y:bn}{p q:ac}(X:K.In h) (G:h.Ns mainGlobals mg) (t:TabOf mg h y p) (e:vM K y=some q):p=q :=by
 obtain⟨f,o,fd,c,e1,e2,e3,e4,oc,vs,_,_,_,_,_,_,_,g1,_,g3,g4,_⟩:=t;unfold vM at e;split at e
 ·rename_i f' d9;have:=(IN X G d9).symm.trans e1;cases this;split at e
  ·rename_i OI Xz HB R7 OU;have:=(X _ _ OU).symm.trans e2;cases this;cases e3;rw[e4]at e;dsimp only at e;split at e
   ·rename_i a1 a2 wX a3 Wk;have:=(X _ _ Wk).symm.trans g1;cases this;cases g3;rw[g4]at e;cases e;rfl
   ·cases e
  ·cases e
 ·cases e
def tQ (K:bi) (gs ls:List bn):Bool:=gs.all fun x=>ls.all fun y=>match vM K x,vM K y with|some p,some q=>decide (p≠q)|_,_=>false
theorem zS {α β:Type}{F:α->β->Prop}{l:List α}{m:List β}(h:Go F l m) {b:β}(hb:b∈m):∃a∈l,F a b :=by
 induction h with
 |nil=>simp at hb
 |cons x t ih=>
  rcases kw.mp hb with e|e
  ·subst e;exact⟨_,ma,x⟩
  ·obtain⟨a,ha,q⟩:=ih e;exact⟨a,i0 _ ha,q⟩
theorem Gj {K:bi}{mg:bn->Option al}{h:hX}{gs ls:List bn}{tabs lts:List ac}(X:K.In h) (G:h.Ns mainGlobals mg) (d:tQ K gs ls=true) (t1:Go (TabOf mg h) gs tabs) (t2:Go (TabOf mg h) ls lts):∀p∈tabs,p ∉ lts:=fun p hp hq=>by
 obtain⟨x,hx,tx⟩:=zS t1 hp;obtain⟨y,hy,ty⟩:=zS t2 hq;have:=wn.mp (wn.mp d x hx) y hy;split at this
 ·rename_i p' q' e1 e2;have a:=xB X G tx e1;have b:=xB X G ty e2;exact(of_decide_eq_true this) (a.symm.trans b)
 ·cases this
theorem Gk {l:ZV}{n k:Nat}{q:gc}{loose:List bn}{XP:(bn->Option al)->hX->Prop}{YP:i4->hX->Prop}{d:DefRec}{K:Z6->bi}{CX:gS}{sp:bi->List ac->List ac->Sp}{x:bn}{ny DR:List bn}
  (hn:l.most=some n) (xC:n<=sizeLine) (Cu:d.params.defaults=[]) (hr:bC k callerA) (DP:∀w:i4,Zi (K w.params)=true)
  (Iw:∀y∈ny++DR,∃r∈recsOf q,r.name=y) (pY:∀w:i4,tQ (K w.params) ny DR=true)
  (hY:∀(w:i4) (h:hX),YP w h->(K w.params).In h)
  (F:∀(w:i4) (mg:bn->Option al) (fa:ac) (h:hX) (tabs lts:List ac),(K w.params).In h->h.Ns mainGlobals mg->mg d.name=some (.ref fa)->
   Go (TabOf mg h) ny tabs->Go (TabOf mg h) DR lts->
   ∃fd:l8,(∀(s:ba) (u:al),ZD s fd ⟨[u],[]⟩ [(x,u)]) /\
    ∀base:hX,(K w.params).In base->base.Ns mainGlobals mg->(∃bm ob,Yj base mainGlobals mg bm ob)->(∀c p,u4 h c p->u4 base c p)->FnOk l.prog w (K w.params) mg base CX k fa fd [x] (sp (K w.params) tabs lts))
  (kX:∀(K:bi) (tabs lts:List ac) (H:Hp) (a:ac) (ns:List Int),lts.length=DR.length->ns.length<=n->(∀p∈tabs,Tb p H)->(∀p∈lts,H p=some (.lam #[]))->bo K H a (ns.map V.int)->sp K tabs lts [.ref a] H (fun v H'=>v=.bl true/\∀p∈lts,∃ps,H' p=some (.lam ps)) fun _ _ _=>False)
  (OS:∀(H:Hp) (s:ba) (e:al) (s':ba),CX [] H s (fun _ _ _=>False) e s'->False) :
  PySem.W.WalkO q loose XP YP l.row.toRowW d [] (fun f vs=>Z1 f vs) :=by
 refine Si.yz hn Cu fun w s₀ aC mg mb fa o pm cd doc a vs ns G Y ho hd d7 Cv Fu hints hlen hg=>?_
 have KX:=hY w _ Y;have tb:∀ny:List bn,(∀y∈ny,∃r∈recsOf q,r.name=y)->∃tabs,Go (TabOf mg aC.heap) ny tabs/\∀p∈tabs,aC.heap.get? p=some (Sk #[])/\isCodeTable aC.heap p :=by
  intro ny;induction ny with
  |nil=>intro _;exact⟨[],.nil,fun p hp=>absurd hp (by simp)⟩
  |cons y r ih=>
   intro hm;obtain⟨tabs,h1,h2⟩:=ih fun z hz=>hm z (i0 _ hz)
   obtain⟨rr,Wl,e⟩:=hm y ma;obtain⟨f,o',fd,c,p,a1,a2,a3,a4,a5,a6⟩:=G.T.tab rr Wl;rw[e]at a1;refine⟨p::tabs,.cons ⟨f,o',fd,c,a1,a2,a3,a4,.of a5 a6⟩ h1,fun z hz=>?_⟩
   rcases kw.mp hz with rfl|hz
   ·exact⟨a6.2,a6.isCodeTable⟩
   ·exact h2 z hz
 obtain⟨tabs,t1,t2⟩:=tb ny fun y hy=>Iw y (u7 _ hy)
 obtain⟨lts,u1,u2⟩:=tb DR fun y hy=>Iw y (f8 _ hy)
 obtain⟨fd,hb,hF⟩:=F w mg fa _ tabs lts KX G.T.g Cv t1 u1;exact DN (lts:=lts) KX G.T.g G.T.b G.T.builtins G.T.nolimit hg Fu hints (wr hlen xC) hr (fun p hp=>(wv.mp hp).elim (t2 p) (u2 p)) (Gj KX G.T.g (pY w) t1 u1) (DP w) (PySem.W.bmod_of_top G.T) hF hb (fun H hO hL hS=>kX _ tabs lts H a ns (XT u1).symm hlen hO hL hS) fun H e s'=>OS H aC e s'
abbrev oy (K:bi) (x:bn) (st:tw) (dv:al):Prop:=
 ∃(f:ac) (oc:al) (od:Option ac) (sl:Array (Option al)) (T:ac) (oT:li) (nT:Nat) (kV dc pm:al) (an:Option ac) (cd ct:al),
  nw K mainGlobals x=some (some (.ref f))/\K.lookup f=some ⟨oc,od,.func (B0 x x (dh st) (bJ st) (ai st) (.ref T) kV dc pm an cd ct),sl⟩/\MW K cd x=true/\EU K (.ref f)=true/\K.lookup T=some oT/\oT.data=.seq #[dv] nT
theorem DS {K:bi}{x:bn}{st:tw}{dv:al}{f:ac}{oc:al}{od:Option ac}{sl:Array (Option al)}{T:ac}{oT:li}{nT:Nat}{kV dc pm:al}{an:Option ac}{cd ct:al}(a:nw K mainGlobals x=some (some (.ref f)))
  (l:K.lookup f=some ⟨oc,od,.func (B0 x x (dh st) (bJ st) (ai st) (.ref T) kV dc pm an cd ct),sl⟩) (c:MW K cd x=true) (k:EU K (.ref f)=true) (t:K.lookup T=some oT) (u:oT.data=.seq #[dv] nT):oy K x st dv:=⟨f,oc,od,sl,T,oT,nT,kV,dc,pm,an,cd,ct,a,l,c,k,t,u⟩
theorem oy.df {K:bi}{mg:bn->Option al}{h:hX}{x:bn}{st:tw}{dv:al}(d:oy K x st dv) (X:K.In h) (G:h.Ns mainGlobals mg) (ps:List bn)
  (hb:∀(T:ac) (kV doc pm:al) (an:Option ac) (cT ct:al) (us:List al),us.length+1=ps.length->∃k,bindArgs (B0 x x (dh st) (bJ st) (ai st) (.ref T) kV doc pm an cT ct) ⟨us,[]⟩=seqItems? (.ref T)>>=k/\k (some #[dv])=pure (ps.zip (us++[dv])))
  (Wm:∀(T:ac) (kV doc pm:al) (an:Option ac) (cT ct:al) (us:List al),us.length=ps.length->∃k,bindArgs (B0 x x (dh st) (bJ st) (ai st) (.ref T) kV doc pm an cT ct) ⟨us,[]⟩=seqItems? (.ref T)>>=k/\k (some #[dv])=pure (ps.zip us)) :
  ∃f fd,Ir K mg x st ps [dv] f fd :=by
 obtain⟨f,oc,od,sl,T,oT,nT,kV,dc,pm,an,cd,ct,a,l,c,k,t,u⟩:=d;refine⟨f,_,⟨oc,od,.ref T,kV,dc,pm,an,cd,ct,sl,rfl,l,c⟩,k,fun s us hK hl=>?_,fun s us hK hl=>?_,IN X G a⟩
 ·obtain⟨kk,h1,h2⟩:=hb T kV dc pm an cd ct us (by rw[wb]at hl;exact hl)
  exact PySem.W.binds_K hK rfl t u h1 h2
 ·rw[Is]at hl ⊢;obtain⟨kk,h1,h2⟩:=Wm T kV dc pm an cd ct us hl;exact PySem.W.binds_K hK rfl t u h1 h2
theorem Gm {K:bi}{tabs lts:List ac}{qs:List bn}{H:Hp}{a:ac}{ns:List Int}(hl:lts.length=qs.length) (hn:ns.length<=63) (hT:∀p∈tabs,Tb p H) (hL:∀p∈lts,H p=some (.lam #[])) (hS:bo K H a (ns.map V.int)) :
  spLaw K ⟨tabs,lts.zip qs⟩ [.ref a] H (fun v H'=>v=.bl true/\∀p∈lts,∃ps,H' p=some (.lam ps)) fun _ _ _=>False:=
 ⟨a,ns,rfl,hS,hn,hT,fun p hp=>⟨#[],hL p.1 (TM hp).1,trivial,fun pos cv e=>nomatch e⟩,fun H' h=>⟨rfl,fun p hp=>by
  obtain⟨i,hi⟩:=mo.mp hp;have h1:=(bv.mp hi).1;exact h (p,qs[i]) (dL (i:=i) (zd.mpr ⟨hi,ap (by omega)⟩))⟩⟩
theorem DT {K:bi}{x:bn}{st:tw}{i:Int}{tk:YJ}{f:ac}{oc:al}{od:Option ac}{sl:Array (Option al)}{T:ac}{oT:li}{nT:Nat}{kV dc pm:al}{an:Option ac}{cd ct:al}(a:nw K mainGlobals x=some (some (.ref f)))
  (l:K.lookup f=some ⟨oc,od,.func (B0 x x (dh st) (bJ st) (ai st) (.ref T) kV dc pm an cd ct),sl⟩) (c:MW K cd x=true) (k:EU K (.ref f)=true) (t:K.lookup T=some oT) (u:oT.data=.seq #[.int i tk] nT):∃tk,oy K x st (.int i tk):=⟨tk,DS a l c k t u⟩
structure oz (h:hX) (d:ac) (es:Array X6) (ep:Nat):Prop where
 ex:∃o,h.get? d=some o/\o.cls=.type "dict" /\ o.data=.dict es ep
abbrev u0 (d:ac) (i n ep:Nat):li:={cls:=.type "dict_keyiterator",dict:=none,data:=.fields #[.ref d,.int i 0,.int n 0,.int ep 0],slots:=#[]}
theorem DU (d:ac):¬ ((l5 d==GS)=true):=fun z=>nomatch (show false=true from z)
section
variable {prog:gc}{w:i4}{A:rb}{E:al->ba->Prop}{s:ba}{d it:ac}{es:Array X6}{ep i:Nat}
theorem DV {Q:al->ba->Prop}(lo:(d==sysModules)=false) (r:oz s.heap d es ep) (q:Q (.ref s.heap.objs.size) {s with heap:=s.heap.push (u0 d 0 es.size ep)}) :
  wpAny (model prog w) A (pyIter (.ref d)) Q E s :=by
 obtain⟨o,g,c,dt⟩:=r;have ty:s.TypeIs (.ref d) "dict" := ⟨o,g,c⟩
 refine Zx ty PySem.F.slot_dict_iter (xL PySem.F.slot_dict_iter ty PySem.F.entry_dict_iter ?_ (PySem.F.args_dict_iter_1 _));unfold tz.«dict.__iter__» tz.Dict.dictSlotNone;refine ag (ag (wpAny_notOrdered_dict ty ?_));refine(show wpAny _ _ (pure (l5 d)) _ _ s from ce ?_);refine(show wpAny _ _ (tz.Dict.showsAll d>>=_) _ _ s from ?_);unfold tz.Dict.showsAll;rw[if_neg (by rw[lo];decide)]
 refine ag (ce (ag (Zy g dt (ag (ZW g dt ?_)))));refine ag (zw (ce ⟨_,rfl,"dict_keyiterator",_,⟨_,ff _ rfl,rfl⟩,ES.lookup,?_⟩))
 simpa[rawInt,u0] using q
theorem DW {Q:Option al->ba->Prop}(gi:s.heap.get? it=some (u0 d i es.size ep)) (r:oz s.heap d es ep) (hi:i<es.size)
  (q:∀h',h'.get? it=some (u0 d (i+1) es.size ep)->AL it s.heap h'->Q (some es[i].key) {s with heap:=h'}):wpAny (model prog w) A (pyNext (.ref it)) Q E s :=by
 obtain⟨o,g,c,dt⟩:=r;have ty:s.TypeIs (.ref it) "dict_keyiterator" := ⟨_,gi,rfl⟩
 unfold pyNext;refine ag (Do (xy (name:=sw "__next__") ty ES (xL ES ty PySem.F.entry_dict_keyiterator_next ?_ (PySem.F.args_dict_keyiterator_next_1 _))))
 refine ag (ce (ag (ag ?_)));refine ag (Os ty (ce (ag (WP gi rfl ?_))));simp only[show tz.Dict_items.ownsTuple "dict_keyiterator" = false by decide,l6,if_false]
 refine(show wpAny _ _ (if (l5 d==GS)=true then _ else _) _ _ s from ?_)
 rw[if_neg (DU d)];refine ag (ce (ag (Zy g dt ?_)));rw[if_neg (by simp)]
 refine ag (ce (ag (ZW g dt ?_)));rw[if_neg (by simp)]
 refine ce ?_;simp only[show ¬ ((i:Int)<0) by omega,if_false,At,Nd hi]
 refine ag (ag (Os ty (ce (ag (wpAny_isOneOf_keyiter ty ?_)))));refine(show wpAny _ _ (setField (.ref it) 1 (rawInt ((i:Int)+1))>>=_) _ _ s from ag (AM gi (by simp) fun h1 e1 b1=>?_))
 have e1:h1.get? it=some (u0 d (i+1) es.size ep) :=by
  rw[e1];simp[u0,rawInt]
 refine ag (GE (ag (wpAny_isOneOf_keyiter (s:={s with heap:=h1}) ⟨_,e1,rfl⟩ ?_)))
 exact(show wpAny _ _ (pure es[i].key) _ _ _ from ce (ce ⟨_,rfl,ce (q _ e1 b1)⟩))
theorem Gp {Q:Option al->ba->Prop}(hh:A.handled=none) (gi:s.heap.get? it=some (u0 d i es.size ep)) (r:oz s.heap d es ep) (hi:es.size<=i)
  (q:∀h',Y4 it s.heap h'->Q none {s with heap:=h'}):wpAny (model prog w) A (pyNext (.ref it)) Q E s :=by
 obtain⟨o,g,c,dt⟩:=r;have ty:s.TypeIs (.ref it) "dict_keyiterator" := ⟨_,gi,rfl⟩
 unfold pyNext;refine ag (Do (xy (name:=sw "__next__") ty ES (xL ES ty PySem.F.entry_dict_keyiterator_next ?_ (PySem.F.args_dict_keyiterator_next_1 _))))
 refine ag (ce (ag (ag ?_)));refine ag (Os ty (ce (ag (WP gi rfl ?_))));simp only[show tz.Dict_items.ownsTuple "dict_keyiterator" = false by decide,l6,if_false]
 refine(show wpAny _ _ (if (l5 d==GS)=true then _ else _) _ _ s from ?_)
 rw[if_neg (DU d)];refine ag (ce (ag (Zy g dt ?_)));rw[if_neg (by simp)]
 refine ag (ce (ag (ZW g dt ?_)));rw[if_neg (by simp)]
 refine ce ?_;simp only[show ¬ ((i:Int)<0) by omega,if_false,At,Yq hi]
 refine ag (ag (Os ty (ce ?_)));refine(show wpAny _ _ (setField (.ref it) 0 .none>>=_) _ _ s from ag (AM gi (by simp) fun h1 e1 b1=>?_))
 refine(show wpAny _ _ (newExc (.type "StopIteration") []>>=_) _ _ _ from ag ?_)
 simp only[newExc,newTuple];refine ag (zw (ag (m:=firstArgMember _ _) (Y3 (a:=GS) (by first|rfl|(simp only[firstArgMember];rfl)) (zw ?_ (by size_fits)))) (by size_fits))
 simp only[raiseNew];refine ag (wpAny_handled ?_);rw[show A.in1.handled=none from hh];refine ag (ce (wpAny_throw ?_));refine ag (LS (T := "StopIteration") (b:=true) ⟨_,ff _ rfl,rfl⟩ Y0 (ce (q _ ?_)))
 exact(b1.extBut.push _).push _
end
def Iy (es:Array X6) (ps:List (V×V)):Prop:=es.size=ps.length/\∀(i:Nat) (p:V×V),ps[i]?=some p->∃hi:i<es.size,RelV p.1 es[i].key/\RelV p.2 es[i].val
inductive Bh (H:Hp):HO->List (V×V)->Prop where
 |k (ak:List (Key×V)):Bh H (.dK ak) (ak.map fun kv=>(kV kv.1,kv.2))
 |t (ak:List (List Key×V)) (bs:List ac) (hl:bs.length=ak.length) (h:∀(i:Nat) (b:ac) (kv:List Key×V),bs[i]?=some b->ak[i]?=some kv->H b=some (.tup (kv.1.map kV))):Bh H (.dT ak) ((bs.map V.ref).zip (ak.map (·.2)))
theorem Gq {P:gc}{w:i4}{k:Key}{u:al}(h:(bI P w).is k u=true):RelV (kV k) u :=by
 rcases cC (k:=k) (v:=u) h with ⟨i,t,rfl,rfl⟩|⟨x,t,rfl,rfl⟩
 ·exact⟨t,rfl⟩
 ·exact⟨t,rfl⟩
theorem lz {α β:Type}{F:α->β->Prop}:∀{l:List α}{m:List β}{i:Nat}{a:α},Go F l m->l[i]?=some a->∃b,m[i]?=some b/\F a b
 |_,_,_,_,.nil,h=>by simp at h
 |_,_,0,_,.cons x _,h=>by simp at h;subst h;exact⟨_,rfl,x⟩
 |_,_,i+1,_,.cons _ t,h=>by obtain⟨b,e,q⟩:=lz (i:=i) t (by simpa using h);exact⟨b,by simpa using e,q⟩
section
variable {P:gc}{w:i4}{H:Hp}{h:hX}{a:ac}{u:HO}
structure Rows (H:Hp) (h:hX) (a:ac) (u:HO) (o:li) (es:Array X6) (ep:Nat) (ps:List (V×V)):Prop where
 obj:h.get? a=some o
 cls:o.cls=.type "dict"
 dict:o.dict=none
 data:o.data=.dict es ep
 lo:(a==sysModules)=false
 rel:Iy es ps
 ps:Bh H u ps
theorem Kp (ok:cS P w H h) (e:Rd H a u) (hu:j8 u=true):∃o es ep ps,Rows H h a u o es ep ps :=by
 have q:=e.ok ok;cases u with
 |dK ak=>
  obtain⟨z,lo,vs,rel,o,es,ep,g,x,dt,hk,hp,hn⟩:=q;refine⟨o,es,ep,_,g,x.1,x.2.1,dt,lo,⟨?_,fun i p hi=>?_⟩,.k ak⟩
  ·have h1:=hp.length;have h2:=rel.length;simp only[ci,BN]at h1 ⊢;omega
  ·rw[br,lc]at hi;obtain⟨kv,u5,rfl⟩:=hi;obtain⟨⟨k',v'⟩,hv,e1,e2⟩:=lz rel u5;have hl:i<es.size :=by
    have h1:=hp.length;have h2:=(bv.mp hv).1;simp only[BN]at h1;omega
   obtain⟨a1,a2⟩:=hp.get? (e:=es[i]) (by simp[hl]) hv
   refine⟨hl,?_,?_⟩
   ·rw[e1];exact Gq a1
   ·rw[a2];exact e2
 |dT ak=>
  obtain⟨z,lo,xs,rel,o,es,ep,g,x,dt,he,hn⟩:=q;have Wn:ak.length=xs.length:=XT rel;have Wo:es.size=xs.length :=by
   have:=congrArg List.length he;simpa using this
  refine⟨o,es,ep,_,g,x.1,x.2.1,dt,lo,⟨?_,fun i p hi=>?_⟩,.t ak (xs.map (·.2.1)) (by rw[ci];exact Wn.symm) fun i b kv hb u5=>?_⟩
  ·simp only[NH,ci];omega
  ·rw[zd,sB,br,br,lc,lc]at hi;obtain⟨⟨x1,DX,e1⟩,⟨kv,u5,e2⟩⟩:=hi;obtain⟨x2,DY,_,_,r⟩:=lz rel u5;rw[DX]at DY;cases DY;have hl:i<es.size :=by rw[Wo];exact(bv.mp DX).1
   have SW:es[i]=entryOfKey (tupleKind (bI P w)) x1 :=by
    have:es.toList[i]?=some (entryOfKey (tupleKind (bI P w)) x1) :=by rw[he,br,DX];rfl
    rw[WI,Nd hl]at this;exact i8 this
   refine⟨hl,?_,?_⟩
   ·rw[SW,<- e1];rfl
   ·rw[SW,<- e2];exact r
  ·rw[br,lc]at hb;obtain⟨x1,DX,rfl⟩:=hb;obtain⟨x2,DY,e1,e2,_⟩:=lz rel u5;rw[DX]at DY;cases DY;exact e2
 |_=>cases hu
end
inductive iM (a:ac) (o:li) (u:HO) (H:Hp):Hp->Prop where
 |now (e:H a=some u) (hu:j8 u=true):iM a o u H (upd H a (.bM o u))
 |was (e:H a=some (.bM o u)):iM a o u H H
theorem iM.at {a:ac}{o:li}{u:HO}{H H2:Hp}(f:iM a o u H H2):H2 a=some (.bM o u) :=by
 cases f with
 |now e hu=>exact aA
 |was e=>exact e
section
variable {X:Cx}{pins:List (ac×li)}{σ:St}{H:Hp}{s:ba}{a:ac}{o:li}{u:HO}
theorem Inv.bM (I:Inv X pins σ H s) (e:H a=some u) (hu:j8 u=true) (ho:s.heap.get? a=some o):Inv X pins σ (upd H a (.bM o u)) s :=by
 have nT:∀b v,H b=some v->j8 v=false->b≠a:=fun b v q n z=>by rw[z,e]at q;cases q;rw[hu]at n;cases n
 have n0:∀b,H b=none->b≠a:=fun b q z=>by rw[z,e]at q;cases q
 have J:=I.un (t':=s.toks) (h':=s.heap) (H':=upd H a (.bM o u)) ⟨fun b v q n _ _=>q,fun b v q n _ _=>⟨v.slots,q⟩,fun b v q n _=>by rw[af (n0 b n)];exact n,fun b v q _=>⟨v,q⟩,fun b xs q=>by rw[af (nT b _ q rfl)];exact q,
  fun b v xs q=>by rw[af (nT b _ q rfl)];exact q,fun b qs q=>⟨#[],by rw[af (nT b _ q rfl),q];simp⟩⟩ fun b v q=>?_
 ·exact J
 ·by_cases hb:b=a
  ·subst hb;rw[aA]at q;cases q;exact⟨ho,(I.hok b u e).cG (fun _ _ _ z=>z) (fun c z=>by rw[af (nT c _ z rfl)];exact z) fun c xs z=>by rw[af (nT c _ z rfl)];exact z⟩
  ·rw[af hb]at q;exact(I.hok b v q).cG (fun _ _ _ z=>z) (fun c z=>by rw[af (nT c _ z rfl)];exact z) fun c xs z=>by rw[af (nT c _ z rfl)];exact z
theorem Inv.Kq (I:Inv X pins σ H s) (d:Rd H a u) (hu:j8 u=true):∃o H2 es ep ps,iM a o u H H2/\Inv X pins σ H2 s/\Rows H s.heap a u o es ep ps :=by
 obtain⟨o,es,ep,ps,R⟩:=Kp I.hok d hu;rcases d with d|⟨o',d⟩
 ·exact⟨o,_,es,ep,ps,.now d hu,I.bM d hu R.obj,R⟩
 ·have e:=(I.hok a _ d).1;rw[R.obj]at e;cases e;exact⟨o,H,es,ep,ps,.was d,I,R⟩
end
def OV (a:ac) (o:li) (u:HO) (ks:List V):It:=⟨fun i H=>H a=some (.bM o u)/\i<ks.length,fun i H x H'=>H'=H/\ks[i]?=some x,fun i H=>H a=some (.bM o u)/\ks.length<=i⟩
section
variable {P:gc}{w:i4}{K:bi}{a it:ac}{o:li}{u:HO}{es:Array X6}{ep:Nat}{ps:List (V×V)}
theorem DZ {tg:db}(sG:o.cls=.type "dict") (SX:o.data=.dict es ep) (rel:Iy es ps) (dz:a≠it):Turn P w K tg (OV a o u (ps.map (·.1))) [it] it (fun i h=>h.get? it=some (u0 a i es.size ep)) where
 mem :=by simp
 obj:=fun i h st b hb=>by
  have e:b=it :=by simpa using hb
  subst e;exact⟨_,st,fun v z=>nomatch z⟩
 keep:=fun i h h' st k=>k it (by simp) _ st
 item :=by
  intro X hP hw hK hc i pins s σ H E I hf st hg;subst hP hw hK;obtain⟨ha,hi⟩:=hg;rw[ci]at hi;have hr:oz s.heap a es ep:=⟨o,(I.hok a _ ha).1,sG,SX⟩;obtain⟨p,hp⟩:∃p,ps[i]?=some p:=⟨_,ap hi⟩;obtain⟨me,r1,_⟩:=rel.2 i p hp;obtain⟨f0,f1,f2,f3,f4,f5⟩:=hf it (by simp)
  refine DW st hr me fun h' kW sb=>?_
  have I1:Inv X pins σ H {s with heap:=h'}:=I.turned (t':=s.toks) (fun b o hb e=>(sb.2 b hb).trans e) f0 f1 f3 f4 f5
  exact⟨_,rfl,rA (s:={s with heap:=h'}) kW rfl rfl (by decide) ⟨p.1,H,I1,r1,⟨rfl,by rw[br,hp];rfl⟩,kW,fun b hb=>(hf b hb).1⟩⟩
 done :=by
  intro X hP hw hK hc i pins s σ H E I hf st hg;subst hP hw hK;obtain⟨ha,hi⟩:=hg;rw[ci]at hi;have hr:oz s.heap a es ep:=⟨o,(I.hok a _ ha).1,sG,SX⟩;obtain⟨f0,f1,f2,f3,f4,f5⟩:=hf it (by simp)
  exact Gp (I.ok.hd hc) st hr (by rw[rel.1];exact hi) fun h' eb=>⟨rfl,I.turned (t':=s.toks) (fun b o hb e=>eb b o hb e) f0 f1 f3 f4 f5⟩
 self:=fun _ i _ _ _ st h=>wpAny_pyIter_keyiter (d:=a) (i:=i) (n:=es.size) (ep:=ep) ⟨_,st,rfl,rfl⟩ h
end
end L2
namespace L2
open PySem PySem.Spec PySem.W PyProof.Rows
theorem xD:fillsNumberSlot (.type "tuple") "mul" = pure false:=
 PySem.fillsNumberSlot_seq (r:=some (.builtin "tuple.__rmul__")) YA.lookup (by decide +kernel) F.slot_tuple_rmul.lookup (by decide +kernel)
theorem Iz:seqRepeat? (.type "tuple")=pure (some (.builtin "tuple.__mul__")) :=by
 unfold seqRepeat?;rw[PySem.seqSlot_of (T := "tuple") (name := "__mul__") (id := "tuple.__mul__") YA.lookup (by decide +kernel),PySem.seqSlot_of (T := "tuple") (name := "__rmul__") (id := "tuple.__rmul__") F.slot_tuple_rmul.lookup (by decide +kernel)]
 rfl
theorem IA (a:Int) (t:YJ) (l:ac) (items:Array al) (n:Nat) (sl:Array (Option al)) :
  Meets (tz.«int.__rmul__» ⟨[.int a t,.ref l],[]⟩) (fun _ R s=>s.heap.get? l=some {cls:=.type "tuple",dict:=none,data:=.seq items n,slots:=sl}/\R (.ok (.ret al.notImplemented)) s):=
 .of_wp fun prog w A R s h=>by obtain⟨hp,g,d,tk,os⟩:=s;obtain⟨hl,h⟩:=h;wp_walk;exact⟨_,rfl,h⟩
theorem u6 (its:List al) (m:Nat):ZB (fun x1 x2=>x1++x2) #[] (io m its.toArray)=(io m its).flatten.toArray :=by
 have:=foldl_rep its m [];rw[LB]at this;exact this
theorem UH (l:ac) (its:List al) (n:Nat) (sl:Array (Option al)) (x:Int) (u:YJ) (h1:2<=x) (h2:x<1000) (dz:its≠[]) (hz:its.length * x.toNat<=10000) :
  Meets (tz.«tuple.__mul__» ⟨[.ref l,.int x u],[]⟩) (fun _ R s=>s.heap.get? l=some {cls:=.type "tuple",dict:=none,data:=.seq its.toArray n,slots:=sl} /\
   R (.ok (.ret (l5 s.heap.objs.size))) {s with heap:=s.heap.push {cls:=LH "tuple",data:=Data.seq (io x.toNat its).flatten.toArray},toks:=s.toks}):=
 .of_wp fun prog w A R s h=>by
  obtain⟨hp,g,d,tk,os⟩:=s;obtain⟨hl,h⟩:=h;have f1:=PySem.AutoSeq1.idx_int;have hs:its.toArray.size=its.length :=by simp
  have xC:its.toArray.isEmpty=false :=by cases its with|nil=>exact absurd rfl dz|cons a b=>rfl
  have e:((its.length * x.toNat:Nat):Int)=(its.toArray.size:Int) * x :=by rw[hs,Int.natCast_mul,Int.toNat_of_nonneg (by omega)]
  have c0:¬ (decide (x < -(2 ^ 63)) || decide (x ≥ 2 ^ 63))=true :=by simp;omega
  have c1:¬ (its.toArray.isEmpty || x==1)=true :=by rw[xC];simp;omega
  have c2:¬ (decide (x<=0) || its.toArray.isEmpty)=true :=by rw[xC];simp;omega
  have c3:¬ (its.toArray.size:Int) * x > (2 ^ 63 - 1) / 8 :=by rw[<- e];omega
  have c4:¬ tz.Tuple.tupleTooMany ((its.toArray.size:Int) * x)=true :=by rw[<- e];unfold tz.Tuple.tupleTooMany;simp only[decide_eq_true_eq,show sizeLine=16777216 from rfl];omega
  have c5:¬ (ZB (fun x1 x2=>x1++x2) #[] (io x.toNat its.toArray)).size > sizeLine :=by
   rw[u6,ii,len_rep,Nat.mul_comm,show sizeLine=16777216 from rfl];omega
  wp_walk using BB hl
  rw[if_neg c0];wp_walk using BB hl
  rw[if_neg c1];wp_walk using BB hl
  rw[if_neg c2];wp_walk using BB hl
  rw[if_neg c3];wp_walk using BB hl
  rw[if_neg c4];wp_walk using BB hl
  rw[u6];exact⟨_,rfl,h⟩
section
variable {X:Cx}{Γ:Gz}{K:bi}
def IB:R2:=fun x y H Q=>∃l k xs,x=.ref l/\y=.int k/\H l=some (.tup xs)/\xs≠[]/\2<=k/\k<1000/\xs.length * k.toNat<=10000/\∀p,H p=none->Q (.ref p) (upd H p (.tup (io k.toNat xs).flatten))
theorem Kr:OpR X (binaryOp .Mult) IB :=by
 intro pins s σ H x y v u Q I rx ry h;obtain⟨l,k,xs,rfl,rfl,hH,dz,h1,h2,hz,q⟩:=h;cases rx;obtain⟨t,rfl⟩:=ry;obtain⟨z,its,r,o,e,c,n,d,hd⟩:=I.hok l _ hH;obtain⟨oc,od,Il,gr⟩:=o;simp only at c d hd;subst c d hd;have hl:=r.length;refine XZ (T := "tuple") (U := "int") (by decide) ⟨_,e,rfl⟩ (fun s'=>PP s' k t) xD ZT T0 Iz ZI.lookup
  (P3 T0 (PP s k t) ZJ (Zv _ _) (IA k t l its.toArray n gr)
   ⟨e,rfl,⟨_,e,rfl⟩,P3 YA ⟨_,e,rfl⟩ F.entry_tuple_mul (F.args_tuple_mul_2 _ _) (UH l its n gr k t h1 h2 (fun w=>dz (r.jK.mp w)) (by rw[<- hl];exact hz)) ⟨e,?_⟩⟩)
 refine⟨.ref s.heap.objs.size,_,I.laid (t':=s.toks) (o:=.tup (io k.toNat xs).flatten) (fun b ob q=>cb _ q) (c8 _) ?_,rfl,q _ (I.hok.fresh (c8 _))⟩
 exact⟨by rw[len_rep,Nat.mul_comm,show sizeLine=16777216 from rfl];omega,_,r.rep k.toNat,jW.new _ _⟩
def zRepT:dI:=fun d e M Q=>match d,e with | .tup ds,.int k=>(ds≠[]/\2<=k/\k<1000/\ds.length * k.toNat<=10000)/\Q (.tup (io k.toNat ds).flatten) M|_,_=>False
theorem aG.rep {β:Bz}{M:Mh}{H:Hp}{vs:List V}{ds:List Dv}(r:aG β M H vs ds):∀k:Nat,aG β M H (io k vs).flatten (io k ds).flatten
 |0=>⟨rfl,fun i v d h=>by simp at h⟩
 |k+1=>by rw[ze,ze,JJ,JJ];exact r.append (aG.rep r k)
def zRepL:dI:=fun d e M Q=>match d,e with | .lst ds,.int k=>(-(2 ^ 63)<=k/\k<2 ^ 63/\ds.length * k.toNat<=sizeLine)/\Q (.lst (io k.toNat ds).flatten) M|_,_=>False
def zCatLD:dI:=fun d e M Q=>match d,e with | .lst ds,.lst es=>ds.length+es.length<=sizeLine/\Q (.lst (ds++es)) M|_,_=>False
theorem OW (hK:X.K=K):dR Γ X (binaryOp .Add) zCatLD:=⟨_,MO,fun β x y d e M H Q Q' _ _ _ m rx ry z q=>by
 unfold zCatLD at z;split at z
 ·obtain⟨a,vs,rfl,f,ha,rs⟩:=cg rx;obtain⟨b,us,rfl,f2,hb,bZ⟩:=cg ry;refine⟨a,b,vs,us,rfl,rfl,ha,hb,by rw[rs.len,bZ.len];exact z.1,fun p hp=>?_⟩
  have x2:=Ex.lay m hp (.lst (vs++us));exact q _ _ _ _ x2 (sh (m.fz hp) aA ((rs.append bZ).ex x2)) z.2
 ·exact z.elim⟩
open Classical in
end
end L2
namespace L2
open PySem PySem.Spec PyProof.Rows
section
variable {X:Cx}{tg l:db}{tl:TE}
def Rp (tl:TE):TI:=fun σ H R=>tl σ H fun x H1=>∃a u,x=.ref a/\j8 u=true/\Rd H1 a u/\∀o H2 ps,iM a o u H1 H2->Bh H1 u ps->R (OV a o u (ps.map (·.1))) H2
theorem Ks (hl:PE X l tl):PI X tg l (Rp tl) :=by
 intro pins s σ H R I h;refine thn (hl pins s σ H _ I h) fun v s1 ⟨x,H1,I1,r1,q1⟩=>?_
 obtain⟨a,u,e,hu,hr,q⟩:=q1;subst e;cases r1;obtain⟨o,H2,es,ep,ps,f,I2,rw⟩:=I1.Kq hr hu;have dz:a≠s1.heap.objs.size:=l7 (ij rw.obj);refine DV rw.lo ⟨o,rw.obj,rw.cls,rw.data⟩ ?_;refine⟨s1.heap.objs.size,[s1.heap.objs.size],_,_,H2,rfl,I2.kept (t':=s1.toks) fun b o e=>cb _ e,DZ rw.cls rw.data rw.rel dz,ff _ rfl,fun b hb=>?_,q o H2 ps f rw.ps⟩
 have e:b=s1.heap.objs.size :=by simpa using hb
 subst e;exact I2.ji (c8 _) (I2.hok.fresh (c8 _))
end
theorem Ex.bM {β:Bz}{M:Mh}{H H2:Hp}{a:ac}{o:li}{u:HO}(m:Mz β M H) (f:iM a o u H H2) (fz:Fz β M a):Ex β M H M H2 :=by
 cases f with
 |was e=>exact .refl m
 |now e hu=>
  have y:Ey M H M (upd H a (.bM o u)):=⟨fun b v hm hb=>by
   by_cases z:b=a
   ·subst z;rw[e]at hb;cases hb;exact .inr ⟨_,.inr (.inr ⟨hu,_,rfl⟩),aA⟩
   ·exact .inl (by rw[af z];exact hb),fun _ h=>h,fun _ _ h _=>h⟩
  have nd:∀b v,H b=some v->j8 v=false->b≠a:=fun b v q n z=>by rw[z,e]at q;cases q;rw[hu]at n;cases n
  refine⟨y,⟨fun b v hb=>?_,fun p hp=>?_,fun b hb=>?_,m.apart,fun p hp=>?_⟩⟩
  ·have zT:b≠a:=fun z=>by rw[z,fz.1]at hb;cases hb
   have q:=m.obj b v hb;cases v with
   |dA=>
    obtain⟨c,k,e2,r⟩:=q;exact⟨c,k,by rw[af zT];exact e2,r⟩
   |lst ds=>
    obtain⟨us,e2,ru⟩:=q;exact⟨us,by rw[af zT];exact e2,ru.len,fun i w d p q=>(ru.at' i w d p q).ey y⟩
   |dk ks ds=>
    obtain⟨us,e2,hk,ru⟩:=q;exact⟨us,by rw[af zT];exact e2,hk,ru.len,fun i w d p q=>(ru.at' i w d p q).ey y⟩
   |dt ks ds=>
    obtain⟨us,e2,hk,ru⟩:=q;exact⟨us,by rw[af zT];exact e2,hk,ru.len,fun i w d p q=>(ru.at' i w d p q).ey y⟩
  ·obtain⟨ps,e2,t⟩:=m.tabs p hp;exact⟨ps,by rw[af (nd _ _ e2 rfl)];exact e2,t⟩
  ·obtain⟨v,e2,n⟩:=m.hids b hb;have zT:b≠a:=fun z=>fz.2 (by rw[<- z];exact hb)
   exact⟨v,by rw[af zT];exact e2,n⟩
  ·exact(m.lams p hp).keep (fun ps e2=>by rw[af (nd _ _ e2 rfl)];exact e2) fun c oc v e2=>by rw[af (nd _ _ e2 rfl)];exact e2
def tR:Key->Dv
 | .inl i=>.int i
 | .inr z=>.str z
def ziKeys (p:aK):fc:=fun ρ M R=>p ρ M fun d M1=>match d with | .dk ks _=>R (ks.map tR) M1 | .dt ks _=>R (ks.map fun k=>.tup (k.map tR)) M1|_=>False
section
variable {X:Cx}{Γ:Gz}{β:Bz}{M:Mh}{H:Hp}{tg l:db}{p:aK}
theorem OX (k:Key):Rz β M H (kV k) (tR k) :=by
 cases k with
 |inl i=>exact .int i
 |inr z=>exact .str z
theorem xE (ks:List Key):aG β M H (ks.map kV) (ks.map tR):=⟨by simp,fun i v d a b=>by
 rw[br]at a b;cases e:ks[i]? with
 |none=>rw[e]at a;cases a
 |some k=>rw[e]at a b;cases a;cases b;exact OX k⟩
theorem u9 {a:ac}{o:li}{u:HO}{vs:List V}(h:H a=some (.bM o u)):Runs (OV a o u vs) vs H:=fun i=>⟨fun hi=>⟨⟨h,hi⟩,fun v H' q=>q⟩,fun hi=>⟨h,hi⟩⟩
theorem pG {α γ:Type}:∀{ks:List α}{vs:List γ},ks.length=vs.length->(ks.zip vs).map (·.1)=ks
 | [],[],_=>rfl
 |k::ks,v::vs,h=>by rw[US,ss,pG (by simpa using h)]
theorem Kt (hl:QE Γ X l p):QI Γ X tg l (ziKeys p):=(Ks hl).imp fun σ H R ⟨β,ρ,M,R',zr,h,q⟩=>⟨β,ρ,M,_,zr,h,fun d M1 v H1 x1 r1 h1=>by
 revert h1
 split
 ·intro h1;rename_i ks ds;cases r1 with
  | @dk a _ vs _ f e hk hl hh=>
   refine⟨a,.dK (ks.zip vs),rfl,rfl,e,fun o H2 ps g OY=>?_⟩
   have x2:=Ex.bM x1.mz g f;cases OY;refine q _ _ _ _ (x1.trans x2) (iI (vs:=ks.map kV) (xE ks) fun M' H' x=>?_) h1
   have e2:((ks.zip vs).map fun kv=>(kV kv.1,kv.2)).map (·.1)=ks.map kV :=by
    rw[sB];show (ks.zip vs).map (kV ∘ Prod.fst)=_;rw[<- sB,pG hk]
   rw[e2];exact u9 (x.get f.1 g.at rfl)
 ·intro h1;rename_i ks ds;cases r1 with
  | @dt a _ vs _ f e hk hl hh=>
   refine⟨a,.dT (ks.zip vs),rfl,rfl,e,fun o H2 ps g OY=>?_⟩
   have x2:=Ex.bM x1.mz g f;cases OY with
   |t _ bs hb rV=>
    have hz:(ks.zip vs).length=ks.length :=by rw[NH,<- hk,Pd]
    have e2:((bs.map V.ref).zip ((ks.zip vs).map (·.2))).map (·.1)=bs.map V.ref:=pG (by rw[ci,ci];exact hb)
    rw[e2];refine q _ _ _ _ (x1.trans x2) (iI (vs:=bs.map V.ref) ⟨by rw[ci,ci,hb,hz],fun i v d ha hd=>?_⟩ fun M' H' x=>u9 (x.get f.1 g.at rfl)) h1
    rw[br,lc]at ha hd;obtain⟨b,Wq,rfl⟩:=ha;obtain⟨k,SY,rfl⟩:=hd;have jc:i<(ks.zip vs).length :=by rw[hz];exact(bv.mp SY).1
    have u5:=ap jc;have ht:=rV i b _ Wq u5;have ek:((ks.zip vs)[i]).1=k :=by
     have:((ks.zip vs).map (·.1))[i]?=some ((ks.zip vs)[i]).1 :=by rw[br,u5];rfl
     rw[pG hk,SY]at this;exact(i8 this).symm
    rw[ek]at ht;have fb:Fz β M1 b:=⟨x1.mz.j9 ht rfl,fun z=>by
     obtain⟨w,hw,n⟩:=x1.mz.hids b z;rw[ht]at hw;cases hw;cases n⟩
    have r0:Rz β M1 H1 (.ref b) (.tup (k.map tR)):=gv fb ht (xE k);exact r0.ex x2
 ·exact fun h=>h.elim⟩
end
theorem ky {g:cE}{te:aK}(J:List Dv->az->Mh->Prop):∀{ds acc:List Dv}{τ:az}{M:Mh}{Q:List Dv->Mh->Prop},J acc τ M->
  (∀i d jk τ M,ds[i]?=some d->jk.length=acc.length+i->J jk τ M->∀R:az->ZK,(∀y aB M2,J (jk++[y]) aB M2->R aB y M2)->g d τ M fun aB M2=>te aB M2 (R aB))->
  (∀ys τ M,ys.length=ds.length->J (acc++ys) τ M->Q ys M)->gJ g zNoIf te ds τ M Q
 | [],acc,τ,M,Q,j,_,q=>q [] τ M rfl (by rw[Is];exact j)
 |d::ds,acc,τ,M,Q,j,h,q=>by
          refine h 0 d acc τ M rfl rfl j (fun aB y M4=>gJ g zNoIf te ds aB M4 fun ys M5=>Q (y::ys) M5) fun y aB M2 j2=>?_
          refine ky J (acc:=acc++[y]) j2 (fun i d' jk bW M' e1 e2 j' R hR=>?_) fun ys mr M3 e3 j3=>?_
          ·exact h (i+1) d' jk bW M' e1 (by rw[e2,wb];simp;omega) j' R hR
          ·exact q (y::ys) mr M3 (by simp[e3]) (by rw[On]at j3;exact j3)
section
variable {X:Cx}{Γ:Gz}{tg elt iter:db}{ifs:List db}{scope:wp}{pos:wE}{N':List bn}{tn:Nat}{idx:List Nat}
theorem xF {zi:fc}{g:cE}{tt:cL}{te:aK}{i:Nat}{y:bn}{py gZ:wE}(hN:X.N.Nodup) (dQ:X.N[i]?=some y) (hy:X.env.scope.names.lookup y=some .local) (hc:X.calm=true) (B:cc X.N X.env.scope scope N' tn idx) (hi:QI Γ X tg iter zi)
  (hg:eT X N' scope fun Y=>QG Γ Y tg g) (ht:eT X N' scope fun Y=>p7 Γ Y ifs tt) (he:eT X N' scope fun Y=>QE Γ Y elt te)
  (rQ:swapsWith (.ListComp elt [⟨tg,iter,ifs,0⟩] scope pos) (some (.Name y py)) gZ.line X.env=pure true :=by rfl)
  (hs:∀x,foldedSetIterable iter X.env x=pure x :=by intro _;rfl):QS Γ X (.Assign [.Name y py] (.ListComp elt [⟨tg,iter,ifs,0⟩] scope pos) gZ) (zAsg (zCompP tn idx zi g tt te) (zgName i)):=(yH hN dQ hy hc B hi hg ht he rQ hs).imp fun D σ H h=>vJ (fun _ _ _ h=>tH h) h
end
theorem IC {a1 r:bX}{D:gD}{ρ:az}{M:Mh}(I:az->Mh->Prop) (h1:∀N:az->Mh->Prop,(∀ρ M,I ρ M->N ρ M)->a1 {D with nx:=N} ρ M) (h2:∀ρ M,I ρ M->r D ρ M):(zSeq a1 r) D ρ M:=h1 _ h2
theorem Rq {a1 a2 r:bX}{D:gD}{ρ:az}{M:Mh}(I:az->Mh->Prop) (h1:∀N:az->Mh->Prop,(∀ρ M,I ρ M->N ρ M)->(zSeq a1 a2) {D with nx:=N} ρ M) (h2:∀ρ M,I ρ M->r D ρ M):(zSeq a1 (zSeq a2 r)) D ρ M:=h1 _ h2
theorem Rr {a1 a2 a3 r:bX}{D:gD}{ρ:az}{M:Mh}(I:az->Mh->Prop) (h1:∀N:az->Mh->Prop,(∀ρ M,I ρ M->N ρ M)->(zSeq a1 (zSeq a2 a3)) {D with nx:=N} ρ M) (h2:∀ρ M,I ρ M->r D ρ M):(zSeq a1 (zSeq a2 (zSeq a3 r))) D ρ M:=h1 _ h2
theorem Rt {a1 a2 a3 a4 r:bX}{D:gD}{ρ:az}{M:Mh}(I:az->Mh->Prop) (h1:∀N:az->Mh->Prop,(∀ρ M,I ρ M->N ρ M)->(zSeq a1 (zSeq a2 (zSeq a3 a4))) {D with nx:=N} ρ M) (h2:∀ρ M,I ρ M->r D ρ M):(zSeq a1 (zSeq a2 (zSeq a3 (zSeq a4 r)))) D ρ M:=h1 _ h2
theorem Ru {a1 a2 a3 a4 a5 r:bX}{D:gD}{ρ:az}{M:Mh}(I:az->Mh->Prop) (h1:∀N:az->Mh->Prop,(∀ρ M,I ρ M->N ρ M)->(zSeq a1 (zSeq a2 (zSeq a3 (zSeq a4 a5)))) {D with nx:=N} ρ M) (h2:∀ρ M,I ρ M->r D ρ M):(zSeq a1 (zSeq a2 (zSeq a3 (zSeq a4 (zSeq a5 r))))) D ρ M:=h1 _ h2
section
variable {β:Bz}{M M':Mh}{H H':Hp}{a:ac}{o o' o2 qd:Mo}
theorem Rz.dom (hd:∀a,(M a).isSome=(M' a).isSome) {v:V}{d:Dv}(r:Rz β M H v d):Rz β M' H v d:=
 r.pB (M0:=M') (fun a h=>by rw[hd a];exact h) (r.pin.mono fun a h=>by rw[<- hd a];exact h)
theorem i9.dom (hd:∀a,(M a).isSome=(M' a).isSome) (h:i9 β M H a o):i9 β M' H a o :=by
 cases o with
 |lst ds=>obtain⟨vs,h1,rs⟩:=h;exact⟨vs,h1,rs.len,fun i v d x y=>(rs.at' i v d x y).dom hd⟩
 |dA=>exact h
 |dk ks ds=>obtain⟨vs,h1,h2,rs⟩:=h;exact⟨vs,h1,h2,rs.len,fun i v d x y=>(rs.at' i v d x y).dom hd⟩
 |dt ks ds=>obtain⟨vs,h1,h2,rs⟩:=h;exact⟨vs,h1,h2,rs.len,fun i v d x y=>(rs.at' i v d x y).dom hd⟩
theorem jO (M:Mh) (a:ac) (o o2:Mo) (b:ac):(aw M a o b).isSome=(aw M a o2 b).isSome :=by
 by_cases e:b=a
 ·subst e;rw[updM_same,updM_same];rfl
 ·rw[aj e,aj e]
theorem lC {b:ac}(o2:Mo) (h:aw M a o b=none):aw M a o2 b=none :=by
 by_cases e:b=a
 ·subst e;rw[updM_same]at h;cases h
 ·rw[aj e]at h ⊢;exact h
theorem Mz.chg (m:Mz β (aw M a o) H) (h2:i9 β (aw M a o2) H a o2):Mz β (aw M a o2) H :=by
 refine⟨fun b u e=>?_,m.tabs,m.hids,fun b u e=>?_,m.lams⟩
 ·by_cases z:b=a
  ·subst z;rw[updM_same]at e;cases e;exact h2
  ·rw[aj z]at e;exact i9.dom (jO M a o o2) (m.obj b u (by rw[aj z];exact e))
 ·by_cases z:b=a
  ·subst z;exact m.apart b o updM_same
  ·rw[aj z]at e;exact m.apart b u (by rw[aj z];exact e)
theorem zU (h:M a=some o):aw M a o=M :=by
 funext b
 by_cases e:b=a
 ·subst e;rw[updM_same,h]
 ·rw[aj e]
theorem Ex.chg (x:Ex β (aw M a o) H (aw M a o') H') (h2:i9 β (aw M a qd) H' a qd):Ex β (aw M a o2) H (aw M a qd) H':=
 ⟨⟨fun b u h e=>x.keep b u (lC o h) e,fun b h=>by rw[jO M a qd o'];exact x.dom b (by rw[jO M a o o2];exact h),fun b u h e=>lC qd (x.new b u (lC o h) e)⟩,x.mz.chg h2⟩
theorem Ex.sealed (hn:M a=none) (x:Ex β M H (aw M a o') H') (h2:i9 β (aw M a qd) H' a qd):Ex β M H (aw M a qd) H':=
 ⟨⟨x.keep,fun b h=>by rw[jO M a qd o'];exact x.dom b h,fun b u h e=>lC qd (x.new b u h e)⟩,x.mz.chg h2⟩
theorem D0 {c m:Int}(z:Mz β (aw M a (.lst [.int c,.int m])) H) (hc:0<=c) (hm:0<=m):i9 β (aw M a .dA) H a .dA :=by
 obtain⟨vs,h,rs⟩:=z.obj a _ updM_same;refine⟨c,m,?_,hc,hm⟩;have:=iL (ns:=[c,m]) rs;rw[h,this];rfl
theorem OZ (z:Mz β (aw M a .dA) H):∃c m:Int,0<=c/\0<=m/\i9 β (aw M a (.lst [.int c,.int m])) H a (.lst [.int c,.int m]) :=by
 obtain⟨c,m,h,hc,hm⟩:=z.obj a _ updM_same;exact⟨c,m,hc,hm,_,h,qB (ns:=[c,m])⟩
end
section
variable {X:Cx}{Γ:Gz}{K:bi}
def zIxS:dI:=fun d e M Q=>match d,e with | .bB ns,.int i=>(match cy ns i with|some x=>Q (.int x) M|none=>False)|_,_=>False
theorem IE (hK:X.K=K) (hG:K=Γ.K):N7 Γ X zIxS:=⟨_,zm hK,fun β x y d e M H Q Q' _ _ eK m rx ry z q=>by
 unfold zIxS at z;split at z
 ·rename_i ns i;split at z
  ·rename_i v hv;obtain⟨a,rfl,hS⟩:=uP rx;rw[eK,<- hG]at hS;exact .inl ⟨a,_,i,.int v,rfl,aL ry,hS,Kc hv,q _ _ _ _ (.refl m) (.int _) z⟩
  ·exact z.elim
 ·exact z.elim⟩
end
def zV (k:Nat):bn:=⟨#[97+k]⟩
theorem zW (k:Nat):(zV k).length=1:=rfl
theorem Bi (a b:bn):(a++b).length=a.length+b.length :=by
 show (a.cps++b.cps).size=a.cps.size+b.cps.size;exact Array.size_append
section
variable {κ:Type} [DecidableEq κ]
theorem jo:∀(ks U:List κ),ks.Nodup->(∀k∈ks,k∈U)->ks.length<=U.length
 | [],_,_,_=>xb _
 |k::ks,U,nd,h=>by
          have hn:=Pi.mp nd;have hk:=h k ma;have ih:=jo ks (U.erase k) hn.2 fun x hx=>(List.mem_erase_of_ne (fun e=>hn.1 (by rw[<- e];exact hx))).mpr (h x (i0 _ hx))
          rw[List.length_erase_of_mem hk]at ih;have:=Wp hk;rw[Mc];omega
def iN (step:κ->Nat->κ) (met:κ) (w:bn) (st:List κ×List bn) (a:Nat):List κ×List bn:=if step met a∈st.1 then st else (st.1++[step met a],st.2++[w++zV a])
def visit (step:κ->Nat->κ) (met:κ) (w:bn) (n:Nat) (st:List κ×List bn):List κ×List bn:=(jp n).foldl (iN step met w) st
def kz (step:κ->Nat->κ) (n most:Nat):Nat->Nat->List κ×List bn->List κ×List bn
 |0,_,st=>st
 |fuel+1,i,st=>match st.1[i]?,st.2[i]? with
  |some met,some w=>if st.1.length<=most then kz step n most fuel (i+1) (visit step met w n st) else st
  |_,_=>st
structure fv (U:List κ) (st:List κ×List bn):Prop where
 len:st.1.length=st.2.length
 nd:st.1.Nodup
 sub:∀k∈st.1,k∈U
 wl:∀(i:Nat) (w:bn),st.2[i]?=some w->w.length<=i
theorem fv.le {U:List κ}{st:List κ×List bn}(o:fv U st):st.1.length<=U.length:=jo _ _ o.nd o.sub
theorem ib (step:κ->Nat->κ) (met:κ) (w:bn) (n:Nat) (st:List κ×List bn):visit step met w (n+1) st=iN step met w (visit step met w n st) n :=by
 unfold visit;rw[YU,Zz];rfl
theorem va (step:κ->Nat->κ) (met:κ) (w:bn) (st:List κ×List bn) (a:Nat):∃ks ws,(iN step met w st a).1=st.1++ks/\(iN step met w st a).2=st.2++ws :=by
 unfold iN;split
 ·exact⟨[],[],by simp,by simp⟩
 ·exact⟨_,_,rfl,rfl⟩
theorem jD (step:κ->Nat->κ) (met:κ) (w:bn) (n:Nat) (st:List κ×List bn):∃ks ws,(visit step met w n st).1=st.1++ks/\(visit step met w n st).2=st.2++ws :=by
 induction n with
 |zero=>exact⟨[],[],by simp[visit],by simp[visit]⟩
 |succ n ih=>
  obtain⟨ks,ws,h1,h2⟩:=ih;rw[ib];obtain⟨SN,Wr,h3,h4⟩:=va step met w (visit step met w n st) n;exact⟨ks++SN,ws++Wr,by rw[h3,h1,On],by rw[h4,h2,On]⟩
theorem tS {α:Type}{l m:List α}{i:Nat}{x:α}(h:l[i]?=some x):(l++m)[i]?=some x :=by
 rw[ut (bv.mp h).1];exact h
theorem fv.iN {U:List κ}{step:κ->Nat->κ}{st:List κ×List bn}(o:fv U st) {i a:Nat}{met:κ}{w:bn}(hw:st.2[i]?=some w) (hs:step met a∈U):fv U (L2.iN step met w st a) :=by
 unfold L2.iN;split
 ·exact o
 ·rename_i hn;refine⟨by simp[o.len],?_,fun k hk=>?_,fun j v hj=>?_⟩
  ·rw[ZA];refine⟨o.nd,by simp,fun x hx y hy e=>?_⟩
   rw[lp]at hy;subst e;exact hn (hy▸hx)
  ·rcases wv.mp hk with z|z
   ·exact o.sub k z
   ·rw[lp]at z;rw[z];exact hs
  ·by_cases h:j<st.2.length
   ·rw[ut h]at hj;exact o.wl j v hj
   ·rw[wS (by omega)]at hj
    have e:j - st.2.length=0 :=by
     have:=(bv.mp hj).1;simp at this;omega
    rw[e]at hj;cases hj;have h1:=o.wl i w hw;have h2:=(bv.mp hw).1;rw[Bi,zW];omega
theorem fv.visit {U:List κ}{step:κ->Nat->κ}{st:List κ×List bn}(o:fv U st) {i n:Nat}{met:κ}{w:bn}(hw:st.2[i]?=some w) (hs:∀a,a<n->step met a∈U):fv U (L2.visit step met w n st) :=by
 induction n with
 |zero=>exact o
 |succ n ih=>
  rw[ib];obtain⟨ks,ws,h1,h2⟩:=jD step met w n st;exact(ih fun a ha=>hs a (by omega)).iN (i:=i) (by rw[h2];exact tS hw) (hs n (by omega))
def met (step:κ->Nat->κ) (n most N:Nat) (s:κ):List κ×List bn:=kz step n most (N+1) 0 ([s],[""])
theorem oA {U:List κ}{s:κ}(h:s∈U):fv U ([s],[("" : bn)]):=⟨rfl,by simp,fun k hk=>by rw[lp]at hk;rw[hk];exact h,fun i w e=>by
 cases i with
 |zero=>cases e;exact c8 0
 |succ i=>simp at e⟩
theorem bfs_ok {U:List κ}{step:κ->Nat->κ}{n most:Nat}(hs:∀k∈U,∀a,a<n->step k a∈U):∀(fuel i:Nat) (st:List κ×List bn),fv U st->fv U (kz step n most fuel i st)
 |0,_,st,o=>o
 |fuel+1,i,st,o=>by
          unfold kz;split
          ·rename_i k w h1 h2;split
           ·exact bfs_ok hs fuel (i+1) _ (o.visit h2 fun a ha=>hs k (o.sub k (dL h1)) a ha)
           ·exact o
          ·exact o
theorem D1 {step:κ->Nat->κ}{n most fuel i:Nat}{st:List κ×List bn}{k:κ}{w:bn}(h1:st.1[i]?=some k) (h2:st.2[i]?=some w) (h3:st.1.length<=most):kz step n most (fuel+1) i st=kz step n most fuel (i+1) (visit step k w n st) :=by
 rw[kz];simp only[h1,h2,if_pos h3]
theorem zX:∀{ks:List κ}{ws:List bn}{i:Nat}{k:κ}{w:bn},ks.Nodup->ks[i]?=some k->ws[i]?=some w->look ks ws k=some w
 | [],_,_,_,_,_,h,_=>by simp at h
 |_::_,[],_,_,_,_,_,h=>by simp at h
 |c::ks,v::ws,0,k,w,_,h1,h2=>by
          simp at h1 h2;unfold look;rw[if_pos h1,h2]
 |c::ks,v::ws,i+1,k,w,nd,h1,h2=>by
          have hn:=Pi.mp nd;have h1:ks[i]?=some k :=by simpa using h1
          unfold look;rw[if_neg (fun e=>hn.1 (by rw[e];exact dL h1))]
          exact zX hn.2 h1 (by simpa using h2)
theorem qG {IG:Type} [DecidableEq IG] {f:κ->IG}(hf:∀a b,f a=f b->a=b) (x:κ):∀(ks:List κ) (ws:List bn),look (ks.map f) (ws.map Dv.str) (f x)=(look ks ws x).map Dv.str
 | [],ws=>by cases ws<;>rfl
 |_::_,[]=>rfl
 |k::ks,w::ws=>by
          rw[ss,ss];unfold look;by_cases e:k=x
          ·rw[if_pos e,if_pos (by rw[e])];rfl
          ·rw[if_neg e,if_neg (fun z=>e (hf _ _ z))]
           exact qG hf x ks ws
theorem Ku {α:Type}{ks:List κ}{ds:List α}{k:κ}{d:α}(h:k ∉ ks):putL ks k=ks++[k]/\gM ks ds k d=ds++[d] :=by
 unfold putL gM;rw[if_neg h,if_neg h];exact⟨rfl,rfl⟩
theorem yI {IG:Type}{f:κ->IG}(hf:∀a b,f a=f b->a=b) {x:κ}{ks:List κ}:f x∈ks.map f ↔ x∈ks :=by
 constructor
 ·intro h;obtain⟨y,hy,e⟩:=on.mp h;rw[<- hf _ _ e];exact hy
 ·exact fun h=>List.mem_map_of_mem h
theorem vb {ks:List κ}{ws:List bn}(h:ks.length=ws.length) (x:κ):(look ks ws x).isSome=decide (x∈ks) :=by
 cases q:look ks ws x with
 |none=>rw[decide_eq_false ((jb h).mp q)];rfl
 |some w=>
  have:x∈ks:=Classical.byContradiction fun z=>by rw[(jb h).mpr z]at q;cases q
  rw[decide_eq_true this];rfl
end
theorem Kv {k:Nat}(h:k<3):cy ("abc" : bn).cps.toList ((k:Nat):Int)=some (97+k) :=by
 have:k=0\/k=1\/k=2 :=by omega
 rcases this with rfl|rfl|rfl<;>decide +kernel
theorem tT (a b:Int) (h:(ID a:Key)=ID b):a=b:=ID.inj h
theorem qH {α:Type}{l:List α}{i:Nat}{x:α}(h:l[i]?=some x):l.drop i=x::l.drop (i+1) :=by
 obtain⟨hi,e⟩:=bv.mp h;rw[Ix hi,e]
section
variable {X:Cx}{Γ:Gz}
def zRepP:dI:=fun d e M Q=>match d,e with | .lst ds,.int k=>(-(2 ^ 63)<=k/\k<2 ^ 63/\ds.length * k.toNat<=sizeLine)/\∀a,M a=none->Q (.ptr a) (aw M a (.lst (io k.toNat ds).flatten))|_,_=>False
theorem D2:dR Γ X (binaryOp .Mult) zRepP:=⟨_,MP,fun β x y d e M H Q Q' _ _ _ m rx ry z q=>by
 unfold zRepP at z;split at z
 ·rename_i ds k;obtain⟨a,vs,rfl,f,ha,rs⟩:=cg rx;obtain⟨⟨z1,z2,z3⟩,z4⟩:=z;refine⟨a,_,vs,rfl,aL ry,ha,z1,z2,by rw[rs.len];exact z3,fun p hp=>?_⟩
  have x2:=Ex.own m (.inr hp) (rs.rep k.toNat);exact q _ _ _ _ x2 (.ptr (by rw[updM_same];rfl)) (z4 p (m.free hp))
 ·exact z.elim⟩
end
def O1 (K:bi):List V->Hp->VK->Prop:=fun xs H Q=>∃(p:ac) (ns:List Int),xs=[.ref p]/\bo K H p (ns.map V.int)/\0<ns.length/\∀m:Int,m∈ns->(∀a∈ns,m<=a)->Q (.int m) H
theorem D3 {X:Cx}(hc:X.calm=true):cV X (.builtin "min") (O1 X.K) :=by
 intro pins s σ H xs us Q I r h;obtain⟨p,ns,rfl,hq,h0,q⟩:=h;obtain⟨u,rfl,rx⟩:=vals1 r;cases rx;have hh:=I.ok.hd hc;obtain⟨its,rv,pl,hz⟩:=I.list hq;obtain⟨ys,hy⟩:=(mP rv).allInts.items;have hl:=pl.isList;rw[hy]at hl;have en:ys.toList.map (·.1)=ns :=by
  rw[<- nums_intItems,<- hy];exact(mP rv).numsOf
 have hsz:0<ys.size :=by
  rw[<- en,ci,BN]at h0;exact h0
 refine min_intList hh hl hsz fun v h' tk hv hk=>?_
 obtain⟨t,rfl⟩:=intItems_at hv;obtain⟨h1,h2⟩:=argBest_lt (numAt ys) (ys.size - 1);refine⟨.int _,H,I.kept (t':=tk) hk,⟨t,rfl⟩,q _ ?_ fun a ha=>?_⟩
 ·rw[<- en,numAt_eq];exact getD_mem (by rw[ci,BN];omega)
 ·rw[<- en]at ha;obtain⟨j,hj,rfl⟩:=mem_getD ha;rw[ci,BN]at hj;rw[<- numAt_eq];exact h2 j (by omega)
theorem Bj {X:Cx}{K:bi}(h:X.K=K) (hc:X.calm=true):cV X (.builtin "min") (O1 K):=h▸D3 hc
def zMinL (d:Dv) (M:Mh) (Q:ZK):Prop:=match (itemsM M d).bind cW with|some ns=>0<ns.length/\(∀t,d≠.tup t)/\∀m:Int,m∈ns->(∀a∈ns,m<=a)->Q (.int m) M|none=>False
theorem O3 {Γ:Gz}{X:Cx}{K:bi}(hK:X.K=K) (hc:X.calm=true):ft Γ X (.builtin "min") (z1 zMinL):=⟨_,Bj hK hc,fun β xs ds M H Q Q' _ _ _ m rs z q=>by
 unfold z1 at z;split at z
 ·rename_i d;obtain⟨x,rfl,r⟩:=dD rs;unfold zMinL at z;split at z
  ·rename_i ns d9;obtain⟨z1,z2,z3⟩:=z;rw[Option.bind_eq_some_iff]at d9;obtain⟨es,he,hi⟩:=d9;obtain⟨a,vs,rfl,ha,bZ⟩:=iK m r he;rw[kg hi]at bZ;rw[iL bZ]at ha;rcases ha with ha|ha
   ·exact⟨a,ns,rfl,bo.of ha,z1,fun k h1 h2=>q _ _ _ _ (.refl m) (.int _) (z3 k h1 h2)⟩
   ·exfalso
    cases d with
    |tup t=>exact z2 t rfl
    |lst t=>obtain⟨a',wX,e,f,hv,_⟩:=cg r;cases e;rw[hv]at ha;cases ha
    |ptr p=>
     obtain⟨e,_⟩:=cj r;cases e;simp only[itemsM]at he;split at he
     ·rename_i xs hx;obtain⟨wX,hv,_⟩:=m.obj _ _ hx;rw[hv]at ha;cases ha
     ·cases he
    |_=>cases he
  ·exact z.elim
 ·exact z.elim⟩
end L2
namespace L2
open PySem PySem.Spec PySem.W PyProof.Rows
def rk (R:Nat->Int) (p:Array Nat) (k:Nat):Int:=R (p.getD k 0)
end L2
namespace L2
open PySem PySem.Spec PyProof.Rows
section
variable {X:Cx}{Γ:Gz}{K:bi}
def zSortedP (d:Dv) (M:Mh) (Q:ZK):Prop:=match intsM M d with|some ns=>ns.length<64/\∀a,M a=none->Q (.ptr a) (aw M a (.lst ((sortI ns).map .int)))|none=>False
theorem D4 (hP:X.prog=Γ.P) (hw:X.w=Γ.w) (hK:X.K=K) (hc:X.calm=true):ft Γ X (.builtin "sorted") (z1 zSortedP):=⟨_,vt hP hw hK hc,fun β xs ds M H Q Q' eP ew _ m rs z q=>by
 unfold z1 at z;split at z
 ·rename_i d;obtain⟨x,rfl,r⟩:=dD rs;unfold zSortedP at z;split at z
  ·rename_i ns d9;have fin:∀l,H l=none->Q (.ref l) (upd H l (.lst ((sortI ns).map V.int))):=fun l hl=>by
    have x2:=Ex.own m (p:=l) (.inr hl) (qB (ns:=sortI ns));exact q _ _ _ _ x2 (.ptr (by rw[updM_same];rfl)) (z.2 l (m.free hl))
   unfold intsM at d9;split at d9
   ·cases d9;obtain⟨a,rfl,f,h⟩:=De r;rw[eP,ew]at h;exact⟨a,_,rfl,.inl h,z.1,fin⟩
   ·obtain⟨a,rfl,ha⟩:=uR m r d9;exact⟨a,_,rfl,.inr (ha.imp bo.of cw.of),z.1,fin⟩
  ·exact z.elim
 ·exact z.elim⟩
def zExtendT:uS:=fun d ds M Q=>match d,ds with | .ptr a,[.tup ys]=>(match M a with|some (.lst xs)=>xs.length+ys.length<=sizeLine/\Q .au (aw M a (.lst (xs++ys)))|_=>False)|_,_=>False
end
section
variable {X:Cx}{Γ:Gz}
def zPar (i j:Nat) (za:eh):bX:=fun D ρ M=>za ρ M fun ds M1=>match ds with | [d,e]=>D.nx ((ρ.set i (some d)).set j (some e)) M1|_=>False
theorem D5 {i j:Nat}{x y:bn}{a b:db}{za:eh}{px py pt pos:wE}{kt k2 vW}(hc:X.calm=true) (hN:X.N.Nodup) (hi:X.N[i]?=some x) (hj:X.N[j]?=some y) (yY:i≠j)
  (hx:X.env.scope.names.lookup x=some .local) (hy:X.env.scope.names.lookup y=some .local) (ha:QA Γ X [a,b] za)
  (hw:swappedStores [.Tuple [.Name x px,.Name y py] kt pt] (.Tuple [a,b] k2 vW) X.env=pure (some [x,y]))
  (hs:swapsWithSole [.Tuple [.Name x px,.Name y py] kt pt] (.Tuple [a,b] k2 vW) pos.line X.env=pure false :=by rfl) :
  QS Γ X (.Assign [.Tuple [.Name x px,.Name y py] kt pt] (.Tuple [a,b] k2 vW) pos) (zPar i j za):=
 (LZ hc hN hi hj yY hx hy ha hw hs).imp fun D σ H ⟨β,ρ,M,D',zr,h,r⟩=>⟨β,ρ,M,_,zr,h,fun ds M1 vs H1 x1 rs h1=>by
  revert h1
  split
  ·rename_i d e;intro h1;obtain⟨v,w,rfl,r1,r2⟩:=iJ rs;exact⟨v,w,rfl,r.nx _ _ _ _ x1.ev (((zr.step x1).set i r1).set j r2) h1⟩
  ·exact fun h=>h.elim⟩
end
end L2
namespace L2
open PySem PySem.Spec PySem.W PyProof.Rows
section
variable {X:Cx}{tg:db}
def S0 (K:bi) (a n:Nat):It where
 go i H:=∃xs,bo K H a xs/\xs.length=n/\i<n
 yld i H x H':=H'=H/\∀xs,bo K H a xs->xs.length=n->xs.reverse[i]?=some x
 stop i H:=n<=i
theorem Gr {P:gc}{w:i4}{K:bi}{tg:db}(a n:Nat) (it:ac):Turn P w K tg (S0 K a n) [it] it (fun i h=>i<=n/\h.IsRevIter it a ((n:Int) - 1 - (i:Int))) where
 mem :=by simp
 obj:=fun i h st b hb=>by
  have e:b=it :=by simpa using hb
  subst e;obtain⟨o,ho,hc,hd⟩:=st.2;exact⟨o,ho,fun v z=>by rw[hd]at z;cases z⟩
 keep:=fun i h h' st k=>⟨st.1,st.2.at fun o e=>k it (by simp) o e⟩
 item :=by
  intro X hP hw hK hc i pins s σ H E I hf st hg;subst hP hw hK;obtain⟨xs,hq,hn,hi⟩:=hg;obtain⟨its,rv,p,hz⟩:=I.list hq;obtain⟨x,hx⟩:∃x,xs[n - 1 - i]?=some x:=⟨_,ap (by omega)⟩
  obtain⟨u,hu,ru⟩:=rv.get hx;obtain⟨f0,f1,f2,f3,f4,f5⟩:=hf it (by simp)
  have hit:=st.2;rw[show (n:Int) - 1 - (i:Int)=((n - 1 - i:Nat):Int) by omega]at hit
  refine wpAny_pyNext_rev_item hit p.isList (x:=u) (by simpa using hu) fun h' kW sb=>?_
  have I1:Inv X pins σ H {s with heap:=h'}:=I.turned (t':=s.toks) (fun b o hb e=>(sb.2 b hb).trans e) f0 f1 f3 f4 f5
  obtain⟨o,e,c,d⟩:=id kW;refine⟨u,rfl,rA (s:={s with heap:=h'}) e c d (by decide) ⟨_,H,I1,ru,⟨rfl,fun ys hy XA=>?_⟩,⟨hi,?_⟩,fun b hb=>(hf b hb).1⟩⟩
  ·rw[I.qh hy hq,WS (by omega),hn]
   exact hx
  ·rw[show (n:Int) - 1 - ((i+1:Nat):Int)=((n - 1 - i:Nat):Int) - 1 by omega]
   exact kW
 done :=by
  intro X hP hw hK hc i pins s σ H E I hf st hg;subst hP hw hK;have hi:i=n:=Nat.le_antisymm st.1 hg;obtain⟨f0,f1,f2,f3,f4,f5⟩:=hf it (by simp)
  have hit:=st.2;rw[hi,show (n:Int) - 1 - (n:Int) = -1 by omega]at hit
  exact wpAny_pyNext_rev_end (I.ok.hd hc) hit fun h' eb=>⟨rfl,I.turned (t':=s.toks) (fun b o hb e=>eb b o hb e) f0 f1 f3 f4 f5⟩
 self:=fun _ _ _ _ _ st h=>wpAny_pyIter_revIter st.2 h
def O4 (K:bi) (ta:TA):TI:=fun σ H R=>ta σ H fun vs H1=>∃a xs,vs=[.ref a]/\bo K H1 a xs/\R (S0 K a xs.length) H1
theorem O5 {a:db}{ta:TA}{p pos:wE}(hg:Gl X "reversed") (hm:X.mg "reversed" = none) (ha:PA X [a] ta) (hs:starEach [a] X.env=[(false,eval a X.env)] :=by rfl):PI X tg (.Call (.Name "reversed" p) [a] [] pos) (O4 X.K ta) :=by
 intro pins s σ H R I h;refine Call_ (fD I hg hm boot_reversed (Da (thn (ha pos pins s σ H _ I h) fun us s1 ⟨vs,H1,I1,r1,q1⟩=>?_) hs rfl))
 obtain⟨l,xs,e,hq,q⟩:=q1;subst e;cases r1 with
 |cons r rr=>
  cases rr;cases r;obtain⟨its,rv,pl,hz⟩:=I1.list hq;have hl:=rv.length;refine call_reversed_list pl.isList ?_;have st:({s1 with heap:=s1.heap.push (revObj l ((its.toArray.size:Int) - 1))}:ba).heap.IsRevIter s1.heap.objs.size l ((its.toArray.size:Int) - 1):=⟨_,ff _ rfl,rfl,rfl⟩
  refine wpAny_pyIter_revIter st ?_;refine⟨s1.heap.objs.size,[s1.heap.objs.size],_,_,H1,rfl,I1.kept (t':=s1.toks) fun b o e=>cb _ e,Gr l xs.length _,⟨xb _,?_⟩,fun b hb=>?_,q⟩
  ·rw[show ((xs.length:Nat):Int) - 1 - ((0:Nat):Int)=(its.toArray.size:Int) - 1 by rw[ii,hl];omega]
   exact st
  ·have e:b=s1.heap.objs.size :=by simpa using hb
   subst e;exact I1.ji (c8 _) (I1.hok.fresh (c8 _))
theorem Kw {K:bi}(h:X.K=K) {a:db}{ta:TA}{p pos:wE}(hg:Gl X "reversed") (hm:X.mg "reversed" = none) (ha:PA X [a] ta) (hs:starEach [a] X.env=[(false,eval a X.env)] :=by rfl):PI X tg (.Call (.Name "reversed" p) [a] [] pos) (O4 K ta):=h▸O5 hg hm ha hs
end
section
variable {X:Cx}{Γ:Gz}{β:Bz}{K:bi}{tg:db}
def ziRev (za:eh):fc:=fun ρ M R=>za ρ M fun es M1=>match es with | [.lst ds]=>R ds.reverse M1|_=>False
theorem O6 {a:db}{za:eh}{p pos:wE}(hK:X.K=K) (hg:Gl X "reversed") (hm:X.mg "reversed" = none) (ha:QA Γ X [a] za) (hs:starEach [a] X.env=[(false,eval a X.env)] :=by rfl):QI Γ X tg (.Call (.Name "reversed" p) [a] [] pos) (ziRev za):=
 (Kw hK hg hm ha hs).imp fun σ H R ⟨β,ρ,M,R',zr,h,q⟩=>⟨β,ρ,M,_,zr,h,fun es M1 vs H1 x1 rs h1=>by
  revert h1
  split
  ·rename_i ds;intro h1;obtain⟨v,rfl,r⟩:=dD rs;obtain⟨a,us,rfl,m,e,bZ⟩:=cg r;refine⟨a,us,rfl,bo.of e,q _ _ _ _ x1 ?_ h1⟩;have rr:aG β M1 H1 us.reverse ds.reverse:=⟨by simp[bZ.len],fun i v d a b=>by
    have hi:=(bv.mp a).1;have me:=(bv.mp b).1;rw[XY]at hi me;rw[WS hi]at a;rw[WS me,<- bZ.len]at b;exact bZ.at' _ v d a b⟩
   refine iI rr fun M' H' x i=>?_
   have hq:bo K H' a us:=bo.of (x.get m.1 e rfl);rw[XY];exact⟨fun hi=>⟨⟨us,hq,rfl,hi⟩,fun y la ⟨e1,e2⟩=>⟨e1,e2 us hq rfl⟩⟩,fun hi=>hi⟩
  ·exact fun h=>h.elim⟩
end
theorem Rv (l:ac) (its:List al) (n:Nat) (sl:Array (Option al)) (u:YJ) (dz:its≠[]) :
  Meets (tz.«tuple.__mul__» ⟨[.ref l,.int 1 u],[]⟩) (fun _ R s=>s.heap.get? l=some {cls:=.type "tuple",dict:=none,data:=.seq its.toArray n,slots:=sl}/\R (.ok (.ret (l5 l))) s):=
 .of_wp fun prog w A R s h=>by
  obtain⟨hp,g,d,tk,os⟩:=s;obtain⟨hl,h⟩:=h;have f1:=PySem.AutoSeq1.idx_int;have f2:=PySem.AutoSeq1.sub_tuple_tuple;have xC:its.toArray.isEmpty=false :=by cases its with|nil=>exact absurd rfl dz|cons a b=>rfl
  have c0:¬ (decide ((1:Int) < -(2 ^ 63)) || decide ((1:Int) ≥ 2 ^ 63))=true :=by simp
  have c1:(its.toArray.isEmpty || (1:Int)==1)=true :=by rw[xC];decide
  wp_walk using BB hl
  first
   |(rw[if_neg c0];wp_walk using BB hl)
   |skip
  first
   |(rw[if_pos c1];wp_walk using BB hl)
   |skip
  first
   |exact⟨_,rfl,h⟩
section
variable {X:Cx}{Γ:Gz}{K:bi}
def D6:R2:=fun x y H Q=>∃l xs,x=.ref l/\y=.int 1/\H l=some (.tup xs)/\xs≠[]/\Q (.ref l) H
theorem Gs:OpR X (binaryOp .Mult) D6 :=by
 intro pins s σ H x y v u Q I rx ry h;obtain⟨l,xs,rfl,rfl,hH,dz,q⟩:=h;cases rx;obtain⟨t,rfl⟩:=ry;obtain⟨z,its,r,o,e,c,n,d,hd⟩:=I.hok l _ hH;obtain⟨oc,od,Il,gr⟩:=o;simp only at c d hd;subst c d hd;have hl:=r.length;refine XZ (T := "tuple") (U := "int") (by decide) ⟨_,e,rfl⟩ (fun s'=>PP s' 1 t) xD ZT T0 Iz ZI.lookup
  (P3 T0 (PP s 1 t) ZJ (Zv _ _) (IA 1 t l its.toArray n gr)
   ⟨e,rfl,⟨_,e,rfl⟩,P3 YA ⟨_,e,rfl⟩ F.entry_tuple_mul (F.args_tuple_mul_2 _ _) (Rv l its n gr t (fun w=>dz (r.jK.mp w))) ⟨e,?_⟩⟩)
 exact⟨.ref l,_,I,rfl,q⟩
def zRepTX:dI:=fun d e M Q=>match d,e with | .tup ds,.int k=>(ds≠[]/\1<=k/\k<1000/\ds.length * k.toNat<=10000)/\Q (.tup (io k.toNat ds).flatten) M|_,_=>False
theorem Gu:OpR X (binaryOp .Mult) (fun x y H Q=>IB x y H Q\/D6 x y H Q) :=by
 intro pins s σ H x y v u Q I rx ry h;rcases h with h|h
 ·exact Kr pins s σ H x y v u Q I rx ry h
 ·exact Gs pins s σ H x y v u Q I rx ry h
theorem Kx:dR Γ X (binaryOp .Mult) zRepTX:=⟨_,Gu,fun β x y d e M H Q Q' _ _ _ m rx ry z q=>by
 unfold zRepTX at z;split at z
 ·rename_i ds k;obtain⟨a,vs,rfl,f,ha,rs⟩:=bN rx;obtain⟨⟨z0,z1,z2,z3⟩,z4⟩:=z;have dz:vs≠[]:=fun w=>z0 (by have:=rs.len;rw[w]at this;exact Op this.symm)
  by_cases hk:k=1
  ·subst hk;refine .inr ⟨a,vs,rfl,aL ry,ha,dz,?_⟩;have e:(io (1:Int).toNat ds).flatten=ds :=by simp
   rw[e]at z4;exact q _ _ _ _ (.refl m) (gv f ha rs) z4
  ·refine .inl ⟨a,_,vs,rfl,aL ry,ha,dz,by omega,z2,by rw[rs.len];exact z3,fun p hp=>?_⟩
   have x2:=Ex.lay m hp (.tup (io k.toNat vs).flatten);exact q _ _ _ _ x2 (gv (m.fz hp) aA ((rs.rep _).ex x2)) z4
 ·exact z.elim⟩
end
end L2
namespace L2
open PySem PySem.Spec PyProof.Rows
def oB (acc:Int) (t:YJ) (c:Nat):li:={cls:=.type "list",dict:=none,data:=.seq #[.int acc t] c,slots:=#[]}
def SumAt (S:ac) (acc:Int) (s:ba):Prop:=∃t c,s.heap.get? S=some (oB acc t c)
section
variable {Y:Cx}{A2:rb}{tg elt iter:db}{ifs:List db}{scope:wp}{pos:wE}{it:ac}{fp:List ac}{bw:Nat->hX->Prop}{J:It}{g:TG}{tt:TT}{te:TE}{pp:List (ac×li)}
def Bk (J:It) (g:TG) (tt:TT) (te:TE) (Z:Int->Hp->Prop) (W:Nat->Nat->Int->St->Hp->Prop):Prop:=∀i m acc τ H,W i m acc τ H->
 (J.stop i H/\Z acc H)\/(J.go i H/\∀x H',J.yld i H x H'->g x τ H' fun aB H2=>tt aB H2 fun b H3=>if b=true then te aB H3 fun y H4=>∃v,y=.int v/\∃m',m'<m/\W (i+1) m' (acc+v) aB H4 else ∃m',m'<m/\W (i+1) m' acc aB H3)
def RS (Y:Cx) (pp:List (ac×li)) (S:ac) (Z:Int->Hp->Prop):GenEnd:=fun _ s₀ r aC=>r=.ok .next/\∃acc τ H,SumAt S acc s₀/\Inv Y pp τ H aC/\Z acc H
def YS (Y:Cx) (pp:List (ac×li)) (S:ac):Protocol:=fun _ s₀ v s rR=>∃acc b t τ H pl,v=.int b t/\SumAt S acc s₀/\SumAt S acc s/\Inv Y (pp++pl) τ H s/\(H S=none/\S≠Y.env.locals/\S ∉ Y.fs)/\(∀p∈pl,p.1≠S) /\
 ∀bq,Inv Y (pp++pl) τ H bq->SumAt S (acc+b) bq->rR (.send .none) bq
theorem D7 {S:ac}(hA:Y.A=A2.over (.compLoop (.GeneratorExp elt [⟨tg,iter,ifs,0⟩] scope pos) 0 (.ref it) .none Y.env) []) (nM:Y.xe=fun _ _=>False) (hc:Y.calm=true) (kZ:Y.env.scope.isCoroutine=false)
  (T:Turn Y.prog Y.w Y.K tg J fp it bw) (hg:PG Y tg g) (ht:gT Y ifs tt) (he:PE Y elt te) (stat:∀{H':Hp},(∀b∈fp,H' b=none)->∀b∈fp,cH Y pp H' b) (hS:S ∉ fp)
  {W:Nat->Nat->Int->St->Hp->Prop} {Z:Int->Hp->Prop} (turn:Bk J g tt te Z W) :
  ∀(m n i:Nat) (acc:Int) (τ:St) (H:Hp) (s s₀:ba) (t:YJ) (c:Nat),m<n->W i m acc τ H->Inv Y (pp++[(S,oB acc t c)]) τ H s->s₀.heap.get? S=some (oB acc t c)->bw i s.heap->(∀b∈fp,H b=none)->
   Seg (model Y.prog Y.w) A2 (RS Y pp S Z) (YS Y pp S) n s₀ (.compLoop (.GeneratorExp elt [⟨tg,iter,ifs,0⟩] scope pos) 0 (.ref it) .none Y.env)
    ((model Y.prog Y.w).den (.compLoop (.GeneratorExp elt [⟨tg,iter,ifs,0⟩] scope pos) 0 (.ref it) .none Y.env)) [] s :=by
 intro m;induction m using YQ with
 |ind m ih=>
  intro n i acc τ H s s₀ t c zb w I h0 st fr;have Bm:∀{H':Hp},(∀b∈fp,H' b=none)->∀b∈fp,cH Y (pp++[(S,oB acc t c)]) H' b:=fun hn b hb=>by
   obtain⟨f0,f1,f2,f3,f4,f5⟩:=stat hn b hb;refine⟨f0,f1,f2,f3,f4,fun p hp=>?_⟩
   rcases wv.mp hp with z|z
   ·exact f5 p (u7 _ z)
   ·rcases wv.mp z with z|z
    ·exact f5 p (f8 _ z)
    ·rw[lp.mp z];exact fun e=>hS (by rw[show S=b from e];exact hb)
  show Seg _ A2 _ _ _ s₀ _ ((compTurn (.GeneratorExp elt [⟨tg,iter,ifs,0⟩] scope pos) 0 (.ref it) .none Y.env).onRaise (leaving Y.env)) [] s;rw[compTurn_gen,YW];rcases turn i m acc τ H w with ⟨stop,qn⟩|⟨go,step⟩
  ·refine xz (Db ?_);have d:=T.done Y rfl rfl rfl hc i _ s τ H (fun _ _=>False) I (Bm fr) st stop
   rw[hA]at d;refine xz (mf d (fun r s1 ⟨hr,I1⟩=>?_) fun _ _ z=>z.elim)
   subst hr;exact seg_end (.ok .next) ⟨rfl,acc,τ,H,⟨t,c,h0⟩,I1.dH,qn⟩
  ·refine xz (Db ?_);have d:=T.item Y rfl rfl rfl hc i _ s τ H (fun _ _=>False) I (Bm fr) st go
   rw[hA]at d;refine xz (mf d (fun r s4 ⟨u,hr,h4⟩=>?_) fun _ _ z=>z.elim)
   subst hr;refine xz (mf h4 (fun _ s5 ⟨x,H5,I5,r5,y5,jZ,vY⟩=>?_) fun _ _ z=>z.elim)
   have vZ:=I5.pinned (Bm vY) (T.obj _ _ jZ);have back:∀{qq:List (ac×li)} {pT:St} {H7:Hp} {s7:ba},Inv Y (qq++fE fp s5.heap) pT H7 s7->bw (i+1) s7.heap/\∀b∈fp,H7 b=none:=fun {qq pT H7 s7} I7=>by
    refine⟨T.keep _ _ _ jZ fun b hb o e=>(I7.pin (b,o) (f8 _ (f8 _ (cU hb e)))).1,fun b hb=>?_⟩
    obtain⟨o,e,d⟩:=T.obj _ _ jZ b hb;exact(I7.pin (b,o) (f8 _ (f8 _ (cU hb e)))).2.1
   have d2:=hg _ s5 τ H5 x u _ vZ r5 (step x H5 y5);rw[hA,nM]at d2;refine xz (mf d2 (fun _ s6 ⟨jw,H6,I6,q6⟩=>?_) fun _ _ z=>z.elim)
   have d3:=ht _ s6 jw H6 _ I6 q6;rw[hA,nM]at d3;refine xz (mf d3 (fun ok s7 ⟨H7,I7,q7⟩=>?_) fun _ _ z=>z.elim)
   have hy:∀v,yieldOut Y.env v=yieldValue v:=fun v=>by simp only[yieldOut,kZ,l6,if_false]
   cases ok with
   |false=>
    simp only[l6,if_false]at q7 ⊢;obtain⟨m',rS,w7⟩:=q7;exact YE rfl (ih m' rS n (i+1) acc jw H7 s7 s₀ t c (by omega) w7 I7.dH h0 (back I7).1 (back I7).2)
   |true=>
    simp only[if_true]at q7 ⊢;simp only[hy];rw[Yi,Yi,Zm,Zm];have d4:=he _ s7 jw H7 _ I7 q7;rw[hA,nM]at d4;refine seg_wrap (mf d4 (fun yv s8 ⟨y,H8,I8,r8,q8⟩=>?_) fun _ _ z=>z.elim)
    obtain⟨b,rfl,m',rS,w8⟩:=q8;obtain⟨tv,rfl⟩:=r8;obtain⟨n,rfl⟩:∃n',n=n'+1:=⟨n - 1,by omega⟩
    have pS:=I8.pin (S,oB acc t c) (f8 _ (u7 _ (f8 _ (lp.mpr rfl))));have pl:∀p∈fE fp s5.heap,p.1≠S:=fun p hp e=>hS (by rw[<- e];exact(uj hp).1)
    have Ws:Inv Y (pp++fE fp s5.heap) jw H8 s8:=I8.jJ fun p hp=>I8.pin p (f8 _ ((wv.mp hp).elim (fun z=>u7 _ (u7 _ z)) (f8 _)))
    refine seg_at (seg_yield rfl rfl rfl ⟨acc,b,tv,jw,H8,fE fp s5.heap,rfl,⟨t,c,h0⟩,⟨t,c,pS.1⟩,Ws,⟨pS.2.1,pS.2.2.1,pS.2.2.2.1⟩,pl,fun bq I9 ⟨t2,c2,h9⟩=>?_⟩)
    have Wt:Inv Y (pp++[(S,oB (acc+b) t2 c2)]) jw H8 bq:=I9.jJ fun p hp=>by
     rcases wv.mp hp with z|z
     ·exact I9.pin p (f8 _ (u7 _ z))
     ·rw[lp.mp z];exact⟨h9,pS.2.1,pS.2.2.1,pS.2.2.2.1,fun v z=>by cases z⟩
    exact YE rfl (ih m' rS n (i+1) (acc+b) jw H8 bq bq t2 c2 (by omega) w8 Wt h9 (back I9).1 (back I9).2)
end
section
variable {X:Cx}{tg elt iter:db}{ifs:List db}{scope:wp}{pos:wE}{N':List bn}{tn:Nat}{idx:List Nat}{wi:TI}{g:TG}{tt:TT}{te:TE}{c P:ac}{k:Nat}
def Bn (X Y:Cx) (pp:List (ac×li)) (gn:Nat) (S:ac) (Z:Int->Hp->Prop) (n:Nat) (acc:Int) (s:ba):Prop:=
 SumAt S acc s/\∃τ H pl gs,Inv Y (pp++pl) τ H s/\s.gens[gn]?=some gs/\∀bq,Inv Y (pp++pl) τ H bq->SumAt S acc bq->gs.Goes (model X.prog X.w) X.A.in4.in1 (RS Y pp S Z) (YS Y pp S) n (.send .none) bq
theorem SumAt.inj {S:ac}{a b:Int}{s:ba}(h:SumAt S a s) (h2:SumAt S b s):a=b :=by
 obtain⟨t,c,e⟩:=h;obtain⟨t2,c2,e2⟩:=h2;rw[e]at e2;have:(#[Tl a t]:Array al)=#[Tl b t2] :=by
  have:=i8 e2;unfold oB at this;injection this with _ _ h3 _
  injection h3
 have:=congrArg (fun x:Array al=>x[0]?) this
 simp at this;exact this.1
theorem O7 {pins:List (ac×li)}{σ:St}{J:It}{H3:Hp}{a:ac}{s5:ba}{Y:Cx}{it:ac}{fp:List ac}{bw:Nat->hX->Prop}{gn:Nat}{pp:List (ac×li)}{S:ac}{Z:Int->Hp->Prop}{n:Nat}{acc:Int}{s:ba}{E:al->ba->Prop}
  (hr:bC (k+1) X.A) (G:Az X pins σ N' scope tn idx k elt tg iter ifs pos J H3 a s5 Y it fp bw gn pp)
  (hS:(S∈Y.ex\/Y.s₀.heap.objs.size<=S)/\(∀x c,Y.env.cells.lookup x=some c->c≠S)/\∀p∈Y.pn++pp,p.1≠S) (h:Bn X Y pp gn S Z n acc s) :
  wpAny (model X.prog X.w) X.A.in4 (pyNext (.ref a)) (fun r s1=>match r with
   |none=>∃H1,Inv X pins σ H1 s1/\Z acc H1
   |some v=>∃b t,v=.int b t/\SumAt S acc s1/\∀h' t',(∀d o,d≠S->s1.heap.get? d=some o->h'.get? d=some o)->SumAt S (acc+b) {s1 with heap:=h',toks:=t'}->∃m,m<n/\Bn X Y pp gn S Z m (acc+b) {s1 with heap:=h',toks:=t'}) E s :=by
 obtain⟨sa,τ,H,pl,gs,I6,M6,rT⟩:=h;refine wpAny_pyNext_genexpQ (A:=X.A.in4) (P:=fun _ s₀ aC=>∃acc τ H,SumAt S acc s₀/\Inv Y pp τ H aC/\Z acc H) hr.hd I6.nolimit hr.depth (G.isg I6.dH) M6 (rT _ (I6.lL ⟨rfl,rfl,gV I6.bare rfl⟩) sa) (fun v s1 zf hb hv=>?_) (fun s1 hp h' hk=>?_)
 ·obtain⟨Gv,b,t,zh,H1,S2,rfl,sb,sc,I1,nS,Wu,z2⟩:=hv;have ea:acc=Gv:=SumAt.inj sa sb;subst ea;have wu:mO s1 (s1.setGen gn zf):=⟨rfl,rfl,gV I1.bare hb⟩;refine⟨b,t,rfl,sc,fun h' t' keep wV=>?_⟩
  have I2:Inv Y (pp++S2) zh H1 {s1.setGen gn zf with heap:=h',toks:=t'}:=(I1.lL wu).turned keep nS.1 nS.2.1 hS.1 hS.2.1 fun p hp=>by
   rcases wv.mp hp with z|z
   ·exact hS.2.2 p (u7 _ z)
   ·rcases wv.mp z with z|z
    ·exact hS.2.2 p (f8 _ z)
    ·exact Wu p z
  have z3:=z2 _ I2 wV;cases n with
  |zero=>exact z3.elim
  |succ m=>exact⟨m,Gc _,wV,zh,H1,S2,zf,I2,uD (G.gsz I1.dH),fun bq I3 s3=>z2 bq I3 s3⟩
 ·obtain⟨Gv,zh,H1,sb,I1,z1⟩:=hp;have ea:acc=Gv:=SumAt.inj sa sb;subst ea;have I2:=I1.kept (t':=s1.toks) hk;have M7:mO {s1 with heap:=h'} {s1.setGen gn .finished with heap:=h'}:=⟨rfl,rfl,gV (s:=s1) I1.bare rfl⟩
  exact⟨H1,G.out (I2.lL M7),z1⟩
theorem Bo {pins:List (ac×li)}{σ:St}{J:It}{H3:Hp}{a:ac}{s5:ba}{Y:Cx}{it:ac}{fp:List ac}{bw:Nat->hX->Prop}{gn:Nat}{pp:List (ac×li)}{S:ac}{Z:Int->Hp->Prop}{W:Nat->Nat->Int->St->Hp->Prop}{m0:Nat}{H4:Hp}{s6:ba}{acc:Int}
  (G:Az X pins σ N' scope tn idx k elt tg iter ifs pos J H3 a s5 Y it fp bw gn pp) (hg:gd X N' scope k fun Y=>PG Y tg g) (ht:gd X N' scope k fun Y=>gT Y ifs tt) (he:gd X N' scope k fun Y=>PE Y elt te) (hS:S ∉ fp)
  (O8:H4 S=none/\S≠Y.env.locals/\S ∉ Y.fs) (I6:Inv Y (pp++fE fp s5.heap) (bg tn idx σ) H4 s6) (Wv:s6.gens=s5.gens) (sa:SumAt S acc s6) (turn:Bk J g tt te Z W) (w0:W 0 m0 acc (bg tn idx σ) H4):Bn X Y pp gn S Z (m0+1) acc s6 :=by
 have AA:=D7 (A2:=X.A.in4.in1) (pp:=pp) (S:=S) (Z:=Z) G.A G.xe G.calm G.co G.T (G.blk _ hg) (G.blk _ ht) (G.blk _ he) G.stat hS turn;have hP:=G.prog;have hW:=G.w;have jv:=G.st;rw[<- Wv]at jv;refine⟨sa,_,_,_,_,I6,jv,fun bq I7 ⟨t,c,h7⟩=>⟨rfl,?_⟩⟩
 have CF:bw 0 bq.heap:=G.T.keep _ _ _ G.tn0 fun b hb o e=>(I7.pin (b,o) (f8 _ (f8 _ (cU hb e)))).1
 have Ww:∀b∈fp,H4 b=none:=fun b hb=>by
  obtain⟨o,e,d⟩:=G.T.obj _ _ G.tn0 b hb;exact(I7.pin (b,o) (f8 _ (f8 _ (cU hb e)))).2.1
 have Wx:Inv Y (pp++[(S,oB acc t c)]) (bg tn idx σ) H4 bq:=I7.jJ fun p hp=>by
  rcases wv.mp hp with z|z
  ·exact I7.pin p (f8 _ (u7 _ z))
  ·rw[lp.mp z];exact⟨h7,O8.1,O8.2.1,O8.2.2,fun v z=>by cases z⟩
 have q:=uE (iter:=iter) (ifs:=ifs) (scope:=scope) (pos:=pos) (elt:=elt) G.T CF (AA m0 (m0+1) 0 acc _ _ bq bq t c (Gc _) w0 Wx h7 CF Ww);rw[hP,hW]at q;exact q
theorem Gw {pins:List (ac×li)}{σ:St}{J:It}{H3:Hp}{a:ac}{s5:ba}{Y:Cx}{it:ac}{fp:List ac}{bw:Nat->hX->Prop}{gn:Nat}{pp:List (ac×li)}{S:ac}{Z:Int->Hp->Prop}{R':Ze->ba->Prop}
  (hr:bC (k+1) X.A) (G:Az X pins σ N' scope tn idx k elt tg iter ifs pos J H3 a s5 Y it fp bw gn pp)
  (hS:(S∈Y.ex\/Y.s₀.heap.objs.size<=S)/\(∀x c,Y.env.cells.lookup x=some c->c≠S)/\∀p∈Y.pn++pp,p.1≠S)
  (hR:∀s H acc t,Inv X pins σ H s->Z acc H->R' (.ok (.ret (.int acc t))) s) :
  ∀(n:Nat) (acc:Int) (s:ba) (st:Int),(st=0\/st=2)->Bn X Y pp gn S Z n acc s->codeAny (model X.prog X.w) X.A (.builtin "sum.loop" ⟨[.ref a,.ref S,rawInt st,rawInt 0],[]⟩) R' s :=by
 intro n;induction n using YQ with
 |ind n ih=>
  intro acc s st jv h;obtain⟨t0,c0,h0⟩:=h.1;refine Po F.entry_sum_loop ?_;rw[NG XQ _];show wpAny _ X.A.in1 (seqItems? (.ref S)>>=_) _ _ s;refine ag (GG h0 rfl ?_);show wpAny _ X.A.in1 (tryCatch (pyNext (.ref a)) _>>=_) _ _ s;refine ag (wpAny_tryCatch (Yb (Yb (Yb (mf (O7 (E:=fun _ _=>False) hr G hS h) (fun r s1 q=>?_) fun _ _ z=>z.elim)))))
  cases r with
  |none=>
   obtain⟨H1,I1,z1⟩:=q;exact ce (hR s1 H1 acc t0 I1 z1)
  |some v=>
   obtain⟨b,t,rfl,⟨t1,c1,h1⟩,nx⟩:=q;rcases jv with rfl|rfl
   ·show wpAny _ X.A.in1 (if (_:Bool)=true then (mkInt (acc+b)>>=_) else _) _ _ _
    split
    ·refine ag (wpAny_mkInt ?_);show wpAny _ X.A.in1 (updateSeq S (fun _=>#[.int (acc+b) s1.toks])>>=_) _ _ _
     obtain⟨m,hm,hG⟩:=nx (s1.heap.update S (FS fun _=>#[.int (acc+b) s1.toks])) (s1.toks+1) (fun d o hd e=>(wT _ _ (fun h:S=d=>hd h.symm)).trans e) ⟨_,_,AC _ h1 rfl⟩
     exact ag (Ps h1 rfl (ce ⟨LP XQ _,ih m hm _ _ 0 (.inl rfl) hG⟩))
    ·refine ag (LM ?_);refine ag (Do (GE (wpAny_add_int ?_)));show wpAny _ X.A.in1 (updateSeq S (fun _=>#[.int (acc+b) s1.toks])>>=_) _ _ _
     refine ag (Ps h1 rfl ?_);have h2:=AC (FS fun _=>#[Tl (acc+b) s1.toks]) h1 rfl
     refine ag (XW ?_);obtain⟨m,hm,hG⟩:=nx ((s1.heap.update S (FS fun _=>#[.int (acc+b) s1.toks])).update S (FS fun _=>#[.int (acc+b) s1.toks])) (s1.toks+1) (fun d o hd e=>(wT _ _ (fun h:S=d=>hd h.symm)).trans ((wT _ _ (fun h:S=d=>hd h.symm)).trans e)) ⟨_,_,AC _ h2 rfl⟩
     exact ag (Ps h2 rfl (ce ⟨LP XQ _,ih m hm _ _ 2 (.inr rfl) hG⟩))
   ·show wpAny _ X.A.in1 ((holding [Tl b t] (binaryOp .Add (.int acc t0) (.int b t))).attempt>>=_) _ _ _;refine ag (Do (GE (wpAny_add_int ?_)));show wpAny _ X.A.in1 (updateSeq S (fun _=>#[.int (acc+b) s1.toks])>>=_) _ _ _
    refine ag (Ps h1 rfl ?_);have h2:=AC (FS fun _=>#[Tl (acc+b) s1.toks]) h1 rfl
    refine ag (XW ?_);obtain⟨m,hm,hG⟩:=nx ((s1.heap.update S (FS fun _=>#[.int (acc+b) s1.toks])).update S (FS fun _=>#[.int (acc+b) s1.toks])) (s1.toks+1) (fun d o hd e=>(wT _ _ (fun h:S=d=>hd h.symm)).trans ((wT _ _ (fun h:S=d=>hd h.symm)).trans e)) ⟨_,_,AC _ h2 rfl⟩
    exact ag (Ps h2 rfl (ce ⟨LP XQ _,ih m hm _ _ 2 (.inr rfl) hG⟩))
def IH (P:ac) (tn:Nat) (idx:List Nat) (wi:TI) (g:TG) (tt:TT) (te:TE):TE:=fun σ H Q=>Hz P wi (fun J H1=>∃W:Nat->Nat->Int->St->Hp->Prop,(∃m,W 0 m 0 (bg tn idx σ) H1)/\Bk J g tt te (fun acc H2=>Q (.int acc) H2) W) σ H
theorem D8 {p lM:wE}(hr:bC (k+1) X.A) (hc:X.calm=true) (B:aH X.N X.env.scope scope N' tn idx)
  (h0:scope.names.lookup (".0" : bn)=some .local) (kZ:scope.isCoroutine=false) (dY:X.env.code=.ref c) (hd:u4 X.base c P) (dX:∃bm ob,Yj X.base mainGlobals X.mg bm ob)
  (wt:Gl X "sum") (hm:X.mg "sum" = none) (hi:PI X tg iter wi) (hg:gd X N' scope k fun Y=>PG Y tg g) (ht:gd X N' scope k fun Y=>gT Y ifs tt) (he:gd X N' scope k fun Y=>PE Y elt te)
  (hs:∀x,genFold iter X.env x=pure x :=by intro _;rfl):PE X (.Call (.Name "sum" p) [dN elt tg iter ifs scope lM] [] pos) (IH P tn idx wi g tt te) :=by
 refine⟨?_⟩;intro pins s σ H Q I h;refine DD (fD I wt hm YH ?_);refine TW ?_ rfl rfl;show wpAny _ _ (spliced ((false,eval (dN elt tg iter ifs scope lM) X.env)::[])) _ _ s;refine IF (wo hr hc B h0 kZ dY hd dX hi hs I h ?_);intro J H3 a s5 Y it fp bw gn pp G ⟨W,⟨m0,w0⟩,turn⟩;refine NO ?_;refine Zh F.kind_sum F.plain_sum F.entry_sum (F.args_sum1 _) ?_;unfold tz.«sum»;simp only[Mc,Uf];rw[if_neg (by decide)]
 refine ag (Y3 (show tz.Builtins.bindParams "sum" ["start"] 0 {}=pure [none] from rfl) ?_)
 refine ag (wpAny_pyIter_gen (G.isg G.inv) ?_);refine ag (wpAny_mkInt ?_);refine ag (ce ?_);simp only[X0,Y1];refine ag (ag (ag (LS (T := "int") (b:=false) (PP _ _ _) PySem.sub_int_str ?_)))
 simp only[l6,if_false];refine ce (ag (ag (LS (T := "int") (b:=false) (PP _ _ _) PySem.sub_int_bytes ?_)))
 simp only[l6,if_false];refine ce (ag (ag (LS (T := "int") (b:=false) (PP _ _ _) PySem.sub_int_bytearray ?_)))
 simp only[l6,if_false];refine ce (ce ?_);refine ag (zw ?_);have fo:=G.inv.ji (c8 s5.heap.objs.size) (G.inv.hok.fresh (c8 _));have HF:s5.heap.objs.size ∉ fp:=fun z=>by
  obtain⟨o,e,_⟩:=G.T.obj _ _ G.tn0 _ z;exact ET _ (ij e)
 have I6:=G.inv.pinned (G.stat G.fr) (G.T.obj _ _ G.tn0);refine ce ⟨LP XQ _,Gw (Z:=fun acc H2=>Q (.int acc) H2) hr G ⟨fo.2.2.2.1,fo.2.2.2.2.1,fo.2.2.2.2.2⟩ (fun s1 H1 acc t I1 z1=>?_) (m0+1) 0 _ 0 (.inl rfl)
  (Bo G hg ht he HF ⟨fo.1,fo.2.1,fo.2.2.1⟩ (I6.kept (t':=s5.toks+1) fun b o e=>cb _ e) rfl ⟨_,_,ff _ rfl⟩ turn w0)⟩
 exact⟨.int acc,H1,I1,⟨t,rfl⟩,z1⟩
end
end L2
namespace L2
open PySem PySem.Spec PySem.W PyProof.Rows
section
variable {X:Cx}{Γ:Gz}{tg elt iter:db}{ifs:List db}{scope:wp}{pos:wE}{N':List bn}{tn:Nat}{idx:List Nat}{zi:fc}{g:cE}{tt:cL}{te:aK}{c P:ac}{k:Nat}
def pH (g:cE) (tt:cL) (te:aK):List Dv->az->Mh->Int->(Int->Mh->Prop)->Prop
 | [],_,M,acc,Q=>Q acc M
 |d::ds,τ,M,acc,Q=>g d τ M fun aB M2=>tt aB M2 fun b M3=>if b=true then te aB M3 (fun y M4=>match y with | .int v=>pH g tt te ds aB M4 (acc+v) Q|_=>False) else pH g tt te ds aB M3 acc Q
def zSumG (tn:Nat) (idx:List Nat) (zi:fc) (g:cE) (tt:cL) (te:aK):aK:=fun ρ M Q=>zi ρ M fun ds M1=>pH g tt te ds (zBlock tn idx ρ) M1 0 fun acc M2=>Q (.int acc) M2
theorem O9 {P:ac}(hP:P∈Γ.tb) {σ:St}{H:Hp}{Q:VK}(h:lE Γ (zSumG tn idx zi g tt te) σ H Q):IH P tn idx (lI Γ zi) (lG Γ g) (lT Γ tt) (lE Γ te) σ H Q :=by
 obtain⟨β,ρ,M,Q',zr,h,q⟩:=h;refine N5 hP zr h fun ds M1 H1 J x1 it h1=>?_
 have lh:=zr.step x1;refine⟨fun i m acc τ H'=>m=ds.length - i/\i<=ds.length/\∃bW M',Ex β M1 H1 M' H'/\Zr Γ β M' bW τ H'/\pH g tt te (ds.drop i) bW M' acc fun a M2=>Q' (.int a) M2,⟨_,rfl,xb _,_,M1,.refl x1.mz,lh.block tn idx,h1⟩,?_⟩
 rintro i m acc τ H' ⟨rfl,hi,bW,M',x',gy,h'⟩;have qq:=it β M' H' .refl x'.toEy x'.mz i;by_cases aT:i<ds.length
 ·refine .inr ⟨(qq.1 aT).1,fun x la y=>?_⟩
  obtain⟨x2,d,hd,rd⟩:=(qq.1 aT).2 x la y;have e:ds.drop i=d::ds.drop (i+1) :=by
   rw[Ix aT];rw[ap aT]at hd;cases hd;rfl
  rw[e]at h';refine⟨β,d,bW,M',_,gy.step x2,rd,h',fun h8 M3 mr H3 x3 z3 h3=>⟨β,h8,M3,_,z3,h3,fun b M4 H4 x4 h4=>?_⟩⟩
  have qa:=x'.trans (x2.trans (x3.trans x4));cases b with
  |false=>
   dsimp only at h4 ⊢;rw[if_neg im]at h4 ⊢;exact⟨ds.length - (i+1),by omega,rfl,aT,h8,M4,qa,z3.step x4,h4⟩
  |true=>
   dsimp only at h4 ⊢;rw[if_pos rfl]at h4 ⊢;refine⟨β,h8,M4,_,z3.step x4,h4,fun yd M5 yv H5 x5 r5 h5=>?_⟩
   revert h5
   split
   ·rename_i v;intro h5;exact⟨v,aL r5,ds.length - (i+1),by omega,rfl,aT,h8,M5,qa.trans x5,(z3.step x4).step x5,h5⟩
   ·exact fun h=>h.elim
 ·have e:i=ds.length :=by omega
  subst e;rw[XO]at h';exact .inl ⟨qq.2 (c8 _),q _ _ _ _ (x1.trans x') (.int _) h'⟩
theorem D9 {p lM:wE}(hP:P∈Γ.tb) (hr:bC (k+1) X.A) (hc:X.calm=true) (B:aH X.N X.env.scope scope N' tn idx)
  (h0:scope.names.lookup (".0" : bn)=some .local) (kZ:scope.isCoroutine=false) (dY:X.env.code=.ref c) (hd:u4 X.base c P) (dX:∃bm ob,Yj X.base mainGlobals X.mg bm ob)
  (wt:Gl X "sum") (hm:X.mg "sum" = none) (hi:QI Γ X tg iter zi) (hg:gd X N' scope k fun Y=>QG Γ Y tg g) (ht:gd X N' scope k fun Y=>p7 Γ Y ifs tt) (he:gd X N' scope k fun Y=>QE Γ Y elt te)
  (hs:∀x,genFold iter X.env x=pure x :=by intro _;rfl):QE Γ X (.Call (.Name "sum" p) [dN elt tg iter ifs scope lM] [] pos) (zSumG tn idx zi g tt te):=(D8 hr hc B h0 kZ dY hd dX wt hm hi hg ht he hs).imp fun σ H Q h=>O9 hP h
theorem zY {g:cE}{te:aK}(f:Dv->Int) (I:az->Mh->Prop):∀{ds:List Dv}{τ:az}{M:Mh}{acc:Int}{Q:Int->Mh->Prop},I τ M->
  (∀d∈ds,∀τ M,I τ M->∀R:az->ZK,(∀aB M2,I aB M2->R aB (.int (f d)) M2)->g d τ M fun aB M2=>te aB M2 (R aB))->(∀τ M,I τ M->Q (acc+(ds.map f).sum) M)->pH g zNoIf te ds τ M acc Q
 | [],τ,M,acc,Q,i,_,q=>by
          have:=q τ M i;rw[SB,List.sum_nil,Int.add_zero]at this;exact this
 |d::ds,τ,M,acc,Q,i,h,q=>by
          refine h d ma τ M i (fun aB y M4=>match y with | .int v=>pH g zNoIf te ds aB M4 (acc+v) Q|_=>False) fun aB M2 i2=>?_
          refine zY f I i2 (fun d' hd=>h d' (i0 _ hd)) fun mr M3 i3=>?_
          have:=q mr M3 i3;rw[ss,List.sum_cons,<- Int.add_assoc]at this;exact this
end
section
variable {X:Cx}{Γ:Gz}
def BMul (i j:Int):Prop:=i.natAbs<2 ^ 1000000/\j.natAbs<2 ^ 1000000
theorem zZ {i:Int}{k:Nat}(h:i.natAbs<2 ^ k):tz.Int.intBits i<=k :=by
 unfold tz.Int.intBits;by_cases e:i=0
 ·subst e;simp
 ·rw[if_neg (by simpa using e)]
  have:i.natAbs≠0 :=by omega
  have:=(Nat.log2_lt this).mpr h;omega
theorem BMul.ok {i j:Int}(h:BMul i j):IntMulOk i j :=by
 have e:1000000<=2 ^ 20 :=by decide
 exact .of_bits (wr (zZ h.1) e) (wr (zZ h.2) e)
theorem Ky:OpR X (binaryOp .Mult) (rI BMul fun i j=>.int (i * j)):=yZ fun _ _ _ _ _ _ _ hc q=>mul_int q hc.ok
theorem oC:dR Γ X (binaryOp .Mult) (zIC BMul fun i j=>.int (i * j)):=⟨_,Ky,mw fun _ _ _ _ _=>.int _⟩
def Pa (_ j:Int):Prop:=0<j/\j.natAbs.log2<9000
theorem Gx:OpR X (binaryOp .FloorDiv) (rI Pa fun i j=>.int (i / j)):=yZ fun i j _ _ _ _ _ hc q=>by
 have h1:(0:Int)<j:=hc.1;exact floordiv_int (by omega) (by rw[Int.fdiv_eq_ediv_of_nonneg i (by omega)];exact q) (.inl (PyProof.noPylong_of_log2 hc.2))
theorem Kz:dR Γ X (binaryOp .FloorDiv) (zIC Pa fun i j=>.int (i / j)):=⟨_,Gx,mw fun _ _ _ _ _=>.int _⟩
end
end L2
open PySem L2 PyProof.Rows
local macro_rules | `(tactic| simp! only[$xs,*] $[$l]?)=>`(tactic| simp only[zVar,zC,zOp,zII,zIC,zEq,zNe,scalZ,zIsN,isNonD,zSS,zTest,zBool,zChain,zAnd,zOr,zNot,zAndV,zOrV,zNotV,zNil,zCons,zTup,zLst,zLstP,zCB,z1,zLenD,z2I,zAbs,zTuple,intsM,itemsM,zIsInst,isD,zBM,tyZ,zAppend,zPop,zPopAt,zCount,zSum,zSetI,zgSub,zNext,zSeq,zDrop,zRet,zIfS,zgName,zgNil,zgCons,zgTup,zAsg,zFor,zForM,zComp,zCompP,zAll,zBlock,zCall,zTry,zRaise,zIsE,zstart,zEndsOf,ziTup,ziLst,ziRng1,ziEnumK,ziZip,ziKeys,seqK,zoNone,zoSome,zSl,zSlT,zSlL,zIx,zRangeP,zNeg,zTruth,truD,zCatT,zNoIf,zInI,zAllB,zGetR,zDIn,lookD,nowK,keyD,zDisp1K,zDisp1T,zDPut,zLenK,zRepT,zRepL,zCatLD,zIxS,boolsD,zRepP,zMinL,zSortedP,zCallL,zPar,zExtendT,zRepTX,ziRev,zSumG,List.getElem?_cons_zero,IT,ss,SB,LB,ZN,Mc,Uf,ze,List.replicate_zero,List.set_cons_zero,List.set_cons_succ,ZL,Nat.reduceAdd,Nat.reduceSub,W1,Nat.zero_add,if_true,if_false,l6,Zn,Bool.not_false,true_and,and_true,beq_self_eq_true,String.reduceBEq,zLoop,ci,Lu,updM_same,updM_updM,Is,DO,At,rangeD_len,pairsD_len,numD_len,Pd,atI_zero,decide_true,decide_false,Bool.not_eq_true,bne_self_eq_false,$xs,*] $[$l]?)
local macro_rules | `(tactic| dsimp! only[$xs,*] $[$l]?)=>`(tactic| simp only[zVar,zC,zOp,zII,zIC,zEq,zNe,scalZ,zIsN,isNonD,zSS,zTest,zBool,zChain,zAnd,zOr,zNot,zAndV,zOrV,zNotV,zNil,zCons,zTup,zLst,zLstP,zCB,z1,zLenD,z2I,zAbs,zTuple,intsM,itemsM,zIsInst,isD,zBM,tyZ,zAppend,zPop,zPopAt,zCount,zSum,zSetI,zgSub,zNext,zSeq,zDrop,zRet,zIfS,zgName,zgNil,zgCons,zgTup,zAsg,zFor,zForM,zComp,zCompP,zAll,zBlock,zCall,zTry,zRaise,zIsE,zstart,zEndsOf,ziTup,ziLst,ziRng1,ziEnumK,ziZip,ziKeys,seqK,zoNone,zoSome,zSl,zSlT,zSlL,zIx,zRangeP,zNeg,zTruth,truD,zCatT,zNoIf,zInI,zAllB,zGetR,zDIn,lookD,nowK,keyD,zDisp1K,zDisp1T,zDPut,zLenK,zRepT,zRepL,zCatLD,zIxS,boolsD,zRepP,zMinL,zSortedP,zCallL,zPar,zExtendT,zRepTX,ziRev,zSumG,List.getElem?_cons_zero,IT,ss,SB,LB,ZN,Mc,Uf,ze,List.replicate_zero,List.set_cons_zero,List.set_cons_succ,ZL,Nat.reduceAdd,Nat.reduceSub,W1,Nat.zero_add,if_true,if_false,l6,Zn,Bool.not_false,true_and,and_true,beq_self_eq_true,String.reduceBEq,ci,Lu,updM_same,updM_updM,Is,DO,At,rangeD_len,pairsD_len,numD_len,Pd,atI_zero,decide_true,decide_false,Bool.not_eq_true,bne_self_eq_false,$xs,*] $[$l]?)
namespace My
open PySem L2 PyProof.Rows
def top (i:Nat):tw:=PySem.Challenge.pw_roadcall_k08_weights.main.body.getD i (.Pass ⟨0,0,0,0⟩)
abbrev fU:tw:=top 8
abbrev dJ:tw:=top 9
abbrev eV:tw:=top 10
abbrev kD:tw:=top 14
abbrev kG:tw:=top 15
abbrev jE:tw:=top 16
abbrev iX:tw:=top 19
abbrev aD:tw:=top 20
abbrev jP:tw:=top 21
abbrev eW:tw:=top 22
abbrev ie:tw:=top 23
abbrev fe:tw:=top 25
abbrev eC:tw:=top 26
abbrev kI:tw:=top 27
abbrev gX:tw:=top 28
abbrev jF:tw:=top 30
abbrev fi:tw:=top 31
abbrev ig:tw:=top 32
abbrev eX:tw:=top 33
abbrev fK:tw:=top 34
abbrev fL:tw:=top 35
abbrev iY:tw:=top 36
abbrev fV:tw:=top 37
abbrev dg:tw:=top 38
abbrev ik:tw:=top 39
abbrev vN:tw:=top 40
section
variable {P:gc}{w:i4}{K:bi}{mg:bn->Option al}{base:hX}{tb:cz}
theorem eE:aO ["start","width","step","most","found","queue","met","at","goal"] ["start","width","step","most"] (ai iX):=⟨rfl,rfl,rfl,by decide +kernel,rfl,by decide +kernel,by decide +kernel⟩
def Ea (cA:List Dv) (step:Int->Nat->Int) (U:List Int) (n:Nat):List Dv->cp:=fun UI ds M Q _=>UI=cA/\∃(p:Int) (a:Nat),ds=[.int p,.int ((a:Nat):Int)]/\p∈U/\a<n/\Q (.int (step p a)) M
def xG (r:List Int×List bn):Dv:=.dk (r.1.map ID) (r.2.map Dv.str)
def z9 (P:gc) (w:i4) (K:bi) (mg:bn->Option al) (tb:cz) (base:hX):cp:=fun ds M Q _=>∃(s:Int) (step:Int->Nat->Int) (U:List Int) (n most:Nat) (f:ac) (fd:l8) (o:li) (c:ac) (oc:li) (vcs:List V) (cA:List Dv) (ps:List bn),
 ds=[.int s,.int (n:Nat),.bS f o c oc vcs cA,.int (most:Nat)]/\FnOk P w K mg base bf 6 f fd ps (Iu P w K tb f o c oc vcs (Ea cA step U n))/\(∃oc od fd sl,o=⟨oc,od,.func fd,sl⟩)/\Binds K fd ps []/\n<=3/\s∈U/\(∀k∈U,∀a,a<n->step k a∈U)/\U.length<=10000 /\
 Q (xG (met step n most U.length s)) M
theorem xH {f:ac}{fd:l8}{dv:List al}(D:Ir K mg "first_met" iX ["start","width","step","most"] dv f fd) (bl:Bl mg) {tk:YJ}(kJ:mg "SIGNS" = some (.str "abc" tk)) :
  FnOk P w K mg base bf 7 f fd ["start","width","step","most"] (aX P w K tb (z9 P w K mg tb base)) :=by
 refine Rm D eE (fun ds M Q E hS=>by obtain⟨s,step,U,n,most,f,fd,o,c,oc,vcs,cA,ps,e,_⟩:=hS;rw[e];rfl) fun A outer s0 E Γ ds Q' E' hP hw hK ht hr hS=>?_
 obtain⟨s,step,U,n,most,f,fd,o,c,oc,vcs,cA,ps,e,Pb,Pg,Ph,hn,hs,hU,hl,q⟩:=hS;refine⟨_,(ah (aI (i:=4) eE.nd rfl (mT rfl) (DI (qv 0) mn))
  (ah (aI (i:=5) eE.nd rfl (mT rfl) (jM (aa (qv 0) ae)))
  (ah (kf sK (QW.pt (Dh (F8 (qv 5)) (zH (bU A1 (ax Ox rfl bl.len_ r9 (aa (qv 4) ae)) (qv 3) (bV _)))))
   (ah (aI (i:=6) eE.nd rfl (mT rfl) (lu (K:=K) rfl FM PySem.F.slot_list_pop PySem.F.type_list_pop zL (qv 5) (aa aq ae)))
  (ao (cM sK rfl (a9 rfl bl.range_ (aa (qv 1) ae)) (fun iD eP ew eK et=>by have hP:=hP.trans eP.symm;have hw:=hw.trans ew.symm;have hK:=hK.trans eK.symm;have ht:=ht.trans et.symm;exact⟨(aJ (i:=7) eE.nd rfl (mT rfl)),(ah (aI (i:=8) eE.nd rfl (mT rfl) (Gh (i:=2) Pb Pg (hr.mono (by decide)) rfl (mT rfl) Ph bA hP hw hK ht XR.none (aa (qv 6) (aa (qv 7) ae))))
  (ao (dM (bU (Ge hr.units) (qv 8) (qv 4) (by rfl))
   (ah (Kn hr.units (qv 4) (qv 8) (aM Dp (Kj hr.units (qv 4) (qv 6) (fun _ _=>rfl)) (aQ (bt (K:=K) rfl) (F5 (z := "abc") rfl kJ ⟨_,rfl⟩) (qv 7) (fun _ _=>rfl))))
  (ao (iH (lu (K:=K) rfl FM NJ NL kh (qv 5) (aa (qv 8) ae)))))
   qss_nil)))⟩)))))
  (ao (aU (qv 4)))))),?_⟩
 subst e;simp! only[];intro a ha;refine⟨by decide,fun qq hq=>?_⟩
 have Eb:qq≠a:=fun z=>by rw[z,updM_same]at hq;cases hq
 have Wy:Γ.M0 qq=none :=by rw[aj Eb]at hq;exact hq
 have big:(10000:Nat)+10<sizeLine :=by decide
 have S3:∀{M:Mh},(∀b,b≠a->b≠qq->M b=Γ.M0 b)->Keeps Γ.M0 M:=fun h b o e=>by
  rw[h b (fun z=>by rw[z,ha]at e;cases e) (fun z=>by rw[z,Wy]at e;cases e)];exact e
 let I:Nat->List Int×List bn->az->Mh->Prop:=fun i st ρ M=>(∃x6 x7 x8,ρ=[some (.int s),some (.int (n:Nat)),some (.bS f o c oc vcs cA),some (.int (most:Nat)),some (.ptr a),some (.ptr qq),x6,x7,x8])/\M a=some (.dk (st.1.map ID) (st.2.map Dv.str))/\M qq=some (.lst ((st.1.drop i).map Dv.int))/\(∀b,b≠a->b≠qq->M b=Γ.M0 b)/\fv U st/\i<=st.1.length
 refine⟨fun m ρ M=>∃i st,m=U.length+1 - i/\I i st ρ M/\kz step n most (U.length+1 - i) i st=met step n most U.length s,⟨_,0,([s],[""]),rfl,⟨⟨_,_,_,rfl⟩,by rw[aj (AN Eb),updM_same];rfl,updM_same,fun b h1 h2=>by rw[aj h2,aj h1],oA hs,xb _⟩,rfl⟩,?_⟩
 rintro m ρ M ⟨i,st,rfl,⟨⟨x6,x7,x8,rfl⟩,vc,Wz,oo,ok,hi⟩,hb⟩;have hle:=ok.le;have XB:=ok.len;have fin:∀M',M' a=some (.dk (st.1.map ID) (st.2.map Dv.str))->Keeps Γ.M0 M'->st=met step n most U.length s->jn Γ.M0 Q' (.ptr a) M':=fun M' h k e=>.inr ⟨k,xG st,.dk ha h rfl fun j d d' e1 e2=>by
  rw[e1]at e2;cases e2;obtain⟨w,_,rfl⟩:=on.mp (dL e1);exact .pin (.str w),by rw[e];exact q⟩
 have Pj:U.length+1 - i=(U.length - i)+1 :=by omega
 simp! only[vc,Wz];refine eS (fun h1=>?_) (fun h1=>?_)
 ·have aT:i<st.1.length :=by
   rcases Nat.lt_or_ge i st.1.length with h|h
   ·exact h
   ·rw[List.drop_eq_nil_of_le h]at h1;cases h1
  obtain⟨k,hk⟩:∃k,st.1[i]?=some k:=⟨_,ap aT⟩;obtain⟨wd,Ec⟩:∃wd,st.2[i]?=some wd:=⟨_,ap (by omega)⟩
  have Pk:k∈U:=ok.sub k (dL hk);refine eS (fun h2=>?_) (fun h2=>?_)
  ·have Bp:st.1.length<=most :=by simpa using h2
   have Xf:(st.1.drop i).length=st.1.length - i:=ZH;have WB:seqIndex? 0 (st.1.drop i).length=some 0:=(by unfold seqIndex?;simp;omega)
   have e0:((st.1.drop i).map Dv.int)[0]?=some (.int k) :=by rw[qH hk];rfl
   simp only[WB,e0];refine⟨by decide,by decide,by omega,by omega,?_⟩
   have er:((st.1.drop i).map Dv.int).eraseIdx 0=(st.1.drop (i+1)).map Dv.int :=by rw[qH hk];rfl
   simp only[er];refine bz (fun j ρ M=>(∃x7 x8,ρ=[some (.int s),some (.int (n:Nat)),some (.bS f o c oc vcs cA),some (.int (most:Nat)),some (.ptr a),some (.ptr qq),some (.int k),x7,x8])/\M a=some (.dk ((visit step k wd j st).1.map ID) ((visit step k wd j st).2.map Dv.str))/\M qq=some (.lst (((visit step k wd j st).1.drop (i+1)).map Dv.int))/\(∀b,b≠a->b≠qq->M b=Γ.M0 b)/\j<=n)
    ⟨⟨_,_,rfl⟩,by rw[aj (AN Eb)];exact vc,updM_same,fun b h1 h2=>by rw[aj h2];exact oo b h1 h2,xb _⟩ (fun j d ρ M N hd ⟨⟨x7,x8,e1⟩,Ed,Ee,II,gj⟩ hN=>?_) (fun ρ M ⟨⟨x7,x8,e1⟩,Ed,Ee,II,gj⟩=>?_)
   ·subst e1;obtain⟨rfl,hj⟩:=bh hd;obtain⟨gk,gw,g1,g2⟩:=jD step k wd j st;have IJ:=ok.visit (n:=j) (step:=step) (met:=k) Ec fun b hb=>hU k Pk b (by omega)
    have XC:=IJ.le;have UJ:=IJ.len;have S4:(visit step k wd j st).1[i]?=some k :=by rw[g1];exact tS hk
    have S5:(visit step k wd j st).2[i]?=some wd :=by rw[g2];exact tS Ec
    have OU:=zX IJ.nd S4 S5;have Hw:=IJ.wl i wd S5;have Xl:i<(visit step k wd j st).1.length:=(bv.mp S4).1;simp! only[];refine⟨rfl,k,j,rfl,Pk,hj,?_⟩;simp! only[Ed,qG tT,WE,vb UJ];have nx:∀{bG M'},(∃x7 x8,bG=[some (.int s),some (.int (n:Nat)),some (.bS f o c oc vcs cA),some (.int (most:Nat)),some (.ptr a),some (.ptr qq),some (.int k),x7,x8])->M' a=some (.dk ((visit step k wd (j+1) st).1.map ID) ((visit step k wd (j+1) st).2.map Dv.str))->M' qq=some (.lst (((visit step k wd (j+1) st).1.drop (i+1)).map Dv.int))->(∀b,b≠a->b≠qq->M' b=Γ.M0 b)->N bG M':=fun h1 h2 h3 h4=>hN _ _ ⟨h1,h2,h3,h4,hj⟩
    have vs:=ib step k wd j st;refine eS (fun hm=>?_) (fun hm=>?_)
    ·have hm:step k j ∉ (visit step k wd j st).1 :=by simpa using hm
     have hv:visit step k wd (j+1) st=((visit step k wd j st).1++[step k j],(visit step k wd j st).2++[wd++zV j]) :=by rw[vs];unfold iN;rw[if_neg hm]
     obtain⟨p1,p2⟩:=Ku (κ:=Key) (k:=ID (step k j)) (d:=Dv.str (wd++zV j)) (ks:=(visit step k wd j st).1.map ID) (ds:=(visit step k wd j st).2.map Dv.str) (fun z=>hm ((yI tT).mp z))
     simp only[OU,AT,Kv (show j<3 by omega)]
     refine⟨by decide,by rw[show (⟨#[97+j]⟩:bn)=zV j from rfl,zW];omega,by omega,?_⟩
     rw[show (⟨#[97+j]⟩:bn)=zV j from rfl,p1,p2];simp only[aj Eb,Ee];refine⟨trivial,by simp only[ci,ZH];omega,nx ⟨_,_,rfl⟩ ?_ ?_ fun b h1 h2=>by rw[aj h2,aj h1];exact II b h1 h2⟩
     ·rw[aj (AN Eb),updM_same,hv,zn,zn];rfl
     ·rw[updM_same,hv];show some (Mo.lst (_++[_]))=_;rw[List.drop_append_of_le_length (by omega),zn];rfl
    ·have hm:step k j∈(visit step k wd j st).1 :=by simpa using hm
     have hv:visit step k wd (j+1) st=visit step k wd j st :=by rw[vs];unfold iN;rw[if_pos hm]
     exact nx ⟨_,_,rfl⟩ (by rw[hv];exact Ed) (by rw[hv];exact Ee) II
   ·subst e1;have WC:(bH 0 n).length=n:=rangeD_len 0 n;rw[WC]at Ed Ee gj;have WD:=ok.visit (n:=n) (step:=step) (met:=k) Ec fun b hb=>hU k Pk b hb
    obtain⟨gk,gw,g1,g2⟩:=jD step k wd n st;refine⟨U.length+1 - (i+1),by omega,i+1,visit step k wd n st,rfl,⟨⟨_,_,_,rfl⟩,Ed,Ee,II,WD,by rw[g1,wb];omega⟩,?_⟩
    rw[<- hb,Pj,D1 hk Ec Bp];rw[show U.length+1 - (i+1)=U.length - i by omega]
  ·refine fin M vc (S3 oo) ?_;have Bp:¬ st.1.length<=most :=by simpa using h2
   rw[<- hb,Pj];unfold kz;simp only[hk,Ec,if_neg Bp]
 ·refine fin M vc (S3 oo) ?_;have h:st.1.length<=i :=by
   rcases Nat.lt_or_ge i st.1.length with h|h
   ·rw[qH (ap h)]at h1;cases h1
   ·exact h
  rw[<- hb,Pj];unfold kz;have e1:st.1[i]?=none:=wP h;simp only[e1]
end
section
def xI (st:tw):db:=match bJ st with | [.Return (some (.Call _ (_::_::l::_) _ _)) _]=>l|_=>.Constant .none 0 ⟨0,0,0,0⟩
def lP (st:tw):OL:=match xI st with | .Lambda p _ _ _=>p|_=>⟨[],[],none,[],[],none,[]⟩
def lB (st:tw):db:=match xI st with | .Lambda _ b _ _=>b|e=>e
def lS (st:tw):wp:=match xI st with | .Lambda _ _ s _=>s|_=>ai st
variable {P:gc}{w:i4}{K:bi}{mg:bn->Option al}{base:hX}{tb:cz}
theorem tU:aO ["net","start"] ["net","start"] (ai aD):=⟨rfl,rfl,rfl,by decide +kernel,rfl,by decide +kernel,by decide +kernel⟩
def qW:bn:=("first_words" ++ ".<locals>." : bn) ++ "<lambda>"
def ay (net:List (List Int)):List Int:=(jp net.length).map fun i:Nat=>(i:Int)
def fw (net:List (List Int)) (p:Int) (a:Nat):Int:=(net.getD p.toNat []).getD a 0
theorem a8 {net:List (List Int)}{p:Int}:p∈ay net ↔ 0<=p/\p<(net.length:Int) :=by
 unfold ay;rw[on];constructor
 ·rintro⟨i,hi,rfl⟩;have:=Me.mp hi;omega
 ·rintro⟨h1,h2⟩;exact⟨p.toNat,Me.mpr (by omega),by omega⟩
theorem getD_at {α:Type}{l:List α}{i:Nat}{d:α}(h:i<l.length):l.getD i d=l[i] :=by rw[cr,ap h];rfl
theorem gO {net:List (List Int)}{n:Nat}(o:aY net n) {p:Int}(hp:p∈ay net) {a:Nat}(ha:a<n):fw net p a∈ay net :=by
 obtain⟨h1,h2⟩:=a8.mp hp;have aT:p.toNat<net.length :=by omega
 obtain⟨e1,e2⟩:=o.row net[p.toNat] (u8 aT);unfold fw;rw[getD_at aT,getD_at (by omega)]
 exact a8.mpr (e2 _ (u8 _))
theorem sJ {net:List (List Int)}{p:Int}(hp:p∈ay net):cy (net.map eI) p=some (eI (net.getD p.toNat [])) :=by
 obtain⟨h1,h2⟩:=a8.mp hp;have aT:p.toNat<net.length :=by omega
 have e:p=((p.toNat:Nat):Int) :=by omega
 rw[e];refine cf ?_;rw[br,At,cr,ap aT];rfl
theorem Pl {net:List (List Int)}{n:Nat}(o:aY net n) {p:Int}(hp:p∈ay net) {a:Nat}(ha:a<n):cy ((net.getD p.toNat []).map Dv.int) ((a:Nat):Int)=some (.int (fw net p a)) :=by
 obtain⟨h1,h2⟩:=a8.mp hp;have aT:p.toNat<net.length :=by omega
 have e1:=(o.row net[p.toNat] (u8 aT)).1;refine cf ?_;unfold fw;rw[br,getD_at aT,getD_at (by omega),ap (by omega)]
 rfl
theorem sL:m4 ["place","at"] ["net"] (lS aD):=⟨rfl,rfl,rfl,by decide +kernel,by decide +kernel,by decide +kernel,by decide +kernel⟩
theorem xJ {f c:ac}{fd:l8}{o oc:li}{aP:List (bn×ac)}{vcs:List V}(L:Bf (lP aD) (lB aD) (lS aD) qW o c oc aP fd) (C:tO base ["net"] aP vcs) (eY:vcs.length=1) {net:List (List Int)}{n:Nat}(O:aY net n) :
  FnOk P w K mg base bf 1 f fd ["place","at"] (Iu P w K tb f o c oc vcs (Ea [eN net] (fw net) (ay net) n)) :=by
 refine Ux L sL C eY (fun cA ds M Q E hS=>by obtain⟨_,p,a,e,_⟩:=hS;rw[e];rfl) fun A outer s E Γ cA ds Q' E' hP hw hK ht hr hS=>?_
 obtain⟨e0,p,a,e,hp,ha,q⟩:=hS;refine⟨_,(aQ (bt (K:=K) rfl) (aQ (bt (K:=K) rfl) (qv 2) (qv 0) (fun _ _=>rfl)) (qv 1) (fun _ _=>rfl)),?_⟩
 subst e e0;simp! only[sJ hp,Pl O hp ha];exact .inl q
theorem pJ:∀n,(n,v6)∈(lS aD).names->(ai aD).names.lookup n=some .cell\/(ai aD).names.lookup n=some .free :=by
 have h:∀y∈(lS aD).names,y.2=v6->(ai aD).names.lookup y.1=some .cell :=by decide +kernel
 exact fun n hn=>.inl (h _ hn rfl)
theorem sM:∀(j:Nat) (n:bn),(["net"]:List bn)[j]?=some n->(n,v6)∈(lS aD).names/\(ai aD).names.lookup n=some .cell/\∃i,([0]:List Nat)[j]?=some i/\(["net","start"]:List bn)[i]?=some n:=fun j n h=>by
 cases j with
 |zero=>cases h;exact⟨by decide +kernel,by decide +kernel,0,rfl,rfl⟩
 |succ j=>simp at h
def jq (net:List (List Int)) (n:Nat) (s:Int):List Int×List bn:=met (fw net) n 511 net.length s
def Ef:cp:=fun ds M Q _=>∃net n s,ds=[eN net,.int s]/\aY net n/\s∈ay net/\Q (xG (jq net n s)) M
theorem tV {f f1:ac}{fd bP:l8}{nC aE:ac}{tk0:YJ}(D:Df K mg "first_words" aD ["net","start"] f fd) (gE:zk base fd nC aE) (dX:∃bm ob,Yj base mainGlobals mg bm ob)
  (mx:(aE,qW)∈tb.l) (OO:∀q∈tb.l,q.1=aE->q.2=qW) (fj:Ir K mg "first_met" iX ["start","width","step","most"] [.int 511 tk0] f1 bP) (bl:Bl mg) {tk:YJ} (kJ:mg "SIGNS" = some (.str "abc" tk)) :
  FnOk P w K mg base bf 8 f fd ["net","start"] (aX P w K tb Ef) :=by
 refine ez D tU (fun ds M Q E hS=>by obtain⟨net,n,s,e,_⟩:=hS;rw[e];rfl) fun A outer s0 E Γ ds Q' E' hP hw hK ht hr hS=>?_
 obtain⟨net,n,s,e,O,hs,q⟩:=hS;have il:(aE,qW)∈Γ.tb.l:=ht▸mx;have ip:∀q∈Γ.tb.l,q.1=aE->q.2=qW:=ht▸OO;have yJ:∀b',(∀b o,base.get? b=some o->b'.get? b=some o)->FnOk P w K mg b' bf 7 f1 bP ["start","width","step","most"] (aX P w K tb (z9 P w K mg tb b')):=fun b' _=>xH fj bl kJ
 have xK:Vals [V.int 511] [Tl 511 tk0]:=.cons ⟨_,rfl⟩ .nil;have xM:∀(β:Bz) (M:Mh) (H:Hp),aG β M H [V.int 511] [Dv.int 511]:=fun _ _ _=>.cons (.int _) .nil
 refine⟨_,(ao (aU (Bg (idx:=[0]) (fs:=["net"]) gE.code gE.hd dX rfl (pJ) (sM) il ip yJ (hr.mono (by decide)) (fun _=>rfl) rfl fj.mg fj.kp fj.bd (xK) (xM) bA hP hw hK ht XR.none (qv 1) (ax (b8 (K:=K) rfl hK) rfl bl.len_ r9 (aa (aQ (bt (K:=K) rfl) (qv 0) aq (fun _ _=>rfl)) ae)) ae))),?_⟩
 subst e;obtain⟨h1,h2⟩:=a8.mp hs;have h0:(0:Int)∈ay net:=a8.mpr ⟨by omega,by omega⟩
 have Eg:(net.getD 0 []).length=n :=by
  have:=O.one;rw[getD_at (by omega)]
  exact(O.row _ (u8 _)).1
 have WG:=O.wid;simp! only[xA,sI,sJ h0,Int.toNat_zero,Eg];intro lf o c oc aP vcs lv hO b' hb hC;obtain⟨WH,ql,⟨jy,rfl⟩,dY⟩:=hO;have L:Bf (lP aD) (lB aD) (lS aD) qW (Pv "<lambda>" qW (lP aD) (lB aD) (lS aD) aP ((mg "__name__").getD .none) c jy) c oc aP (PySem.W.kla_fn "<lambda>" qW (lP aD) (lB aD) (lS aD) aP ((mg "__name__").getD .none) (.ref c) jy):=⟨ql,⟨_,_,_,rfl,rfl⟩,dY⟩
 refine⟨s,fw net,ay net,n,511,lf,_,_,c,oc,vcs,[eN net],["place","at"],rfl,(xJ L hC lv O).mono (by decide),⟨_,_,_,_,rfl⟩,.all fun us hl=>?_,by omega,hs,fun k hk a ha=>gO O hk ha,?_,.inl ?_⟩
 ·match us,hl with
  | [_,_],_=>rfl
 ·have:=O.nine;simp only[ay,ci,GM];omega
 ·rw[show (ay net).length=net.length by simp[ay]]
  exact q
end
section
variable {P:gc}{w:i4}{K:bi}{mg:bn->Option al}{base:hX}{tb:cz}{k:Nat}{f:ac}{fd:l8}{ps:List bn}
theorem dW:aO ["_law_script","_law_at","_law_cell","_law_mix","_law_k"] ["_law_script","_law_at"] (ai jF):=⟨rfl,rfl,rfl,by decide +kernel,rfl,by decide +kernel,by decide +kernel⟩
theorem eF:aO ["_law_bag_here","_law_many","_law_digit","_law_number","_law_room"] ["_law_bag_here","_law_many"] (ai fi):=⟨rfl,rfl,rfl,by decide +kernel,rfl,by decide +kernel,by decide +kernel⟩
theorem gF:aO ["_law_bag_here","_law_many","_law_rest","_law_found","_law_k"] ["_law_bag_here","_law_many"] (ai ig):=⟨rfl,rfl,rfl,by decide +kernel,rfl,by decide +kernel,by decide +kernel⟩
theorem bu:aO ["_law_bag_here","_law_most","_law_many","_law_fans","_law_kind","_law_lap","_law_order_here","_law_rows","_law_k","_law_goals","_law_fan"] ["_law_bag_here","_law_most"] (ai eX):=⟨rfl,rfl,rfl,by decide +kernel,rfl,by decide +kernel,by decide +kernel⟩
def Pm:cp:=fun ds M Q _=>∃(ns:List Int) (t:Int),ds=[.bB ns,.int t]/\ns.length<=63/\0<=t/\t<=63/\∀b,M b=none->Q (.ptr b) (aw M b .dA)
def IK:cp:=fun ds M Q _=>∃(ns:List Int) (t:Int),ds=[.bB ns,.int t]/\ns.length<=63/\0<=t/\t<=63/\∀b c m,M b=none->0<=c->0<=m->Q (.ptr b) (aw M b (.lst [.int c,.int m]))
theorem Bq (D:Df K mg "_law_bag" jF ["_law_script","_law_at"] f fd) (bl:Bl mg):FnOk P w K mg base bf 1 f fd ["_law_script","_law_at"] (aX P w K tb IK) :=by
 refine ez D dW (fun ds M Q E hS=>by obtain⟨ns,t,e,_⟩:=hS;rw[e];rfl) fun A outer s E Γ ds Q' E' hP hw hK ht hr hS=>?_
 obtain⟨ns,t,e,hl,t0,t1,q⟩:=hS;refine⟨_,(ah (aI (i:=2) dW.nd rfl (mT rfl) aq)
  (ah (dM (bU w6 (qv 1) (ax (b8 (K:=K) rfl hK) rfl bl.len_ r9 (aa (qv 0) ae)) (bV _))
   (ao (aI (i:=2) dW.nd rfl (mT rfl) (ax A6 rfl bl.abs_ wy (aa (aQ (IE (K:=K) rfl hK) (qv 0) (qv 1) (fun _ _=>rfl)) ae))))
   qss_nil)
  (ah (aI (i:=3) dW.nd rfl (mT rfl) (aM fu (aM mW aq (qv 1)) aq))
  (ah (cM sK rfl (a9 rfl bl.range_ (aa (ax (xc rfl) rfl bl.min_ rW (aa (ax (b8 (K:=K) rfl hK) rfl bl.len_ r9 (aa (qv 0) ae)) (aa aq ae))) ae)) (fun iD eP ew eK et=>by have hP:=hP.trans eP.symm;have hw:=hw.trans ew.symm;have hK:=hK.trans eK.symm;have ht:=ht.trans et.symm;exact⟨(aJ (i:=4) dW.nd rfl (mT rfl)),(ao (aI (i:=3) dW.nd rfl (mT rfl) (aM ia (aM fu (aM fu (aM mW (qv 3) aq) (aM ia (aQ (IE (K:=K) rfl hK) (qv 0) (qv 4) (fun _ _=>rfl)) aq)) (qv 4)) aq)))⟩))
  (ah (dM (bU w6 (qv 2) (aM Rj aq aq) (bV _))
   (ao (aI (i:=2) dW.nd rfl (mT rfl) aq))
   qss_nil)
  (ao (aU (jM (aa (qv 2) (aa (qv 3) ae)))))))))),?_⟩
 subst e;refine Rt (fun ρ M=>M=Γ.M0/\∃c m x:Int,∃x4,0<=c/\0<=m/\ρ=[some (.bB ns),some (.int t),some (.int c),some (.int m),x4]) (fun N hN=>?_) ?_
 ·refine Rq (fun ρ M=>M=Γ.M0/\∃c:Int,0<=c/\ρ=[some (.bB ns),some (.int t),some (.int c),none,none]) (fun N hN=>?_) ?_
  ·simp! only[];refine eS (fun h=>?_) (fun _=>hN _ _ ⟨rfl,0,by omega,rfl⟩)
   have ht:t<(ns.length:Int):=of_decide_eq_true h;obtain⟨k,rfl⟩:=BY t0;rw[Dz (show k<ns.length by omega)]
   exact hN _ _ ⟨rfl,_,by split<;>omega,rfl⟩
  rintro ρ M ⟨rfl,c,hc,rfl⟩;simp! only[];refine⟨.inl ⟨by decide,by decide⟩,by split<;>omega,by split<;>omega,?_⟩
  refine bz (fun i ρ M=>M=Γ.M0/\∃m:Int,∃x4,0<=m/\ρ=[some (.bB ns),some (.int t),some (.int c),some (.int m),x4]) ⟨rfl,_,_,by omega,rfl⟩ (fun i d ρ M N2 hd hJ my=>?_) (fun ρ M hJ=>?_)
  ·obtain⟨rfl,m,x4,hm,rfl⟩:=hJ;obtain⟨rfl,hi⟩:=bh hd;have hi:i<ns.length :=by split at hi<;>omega
   simp! only[Dz hi];exact⟨.inr ⟨by decide,by decide⟩,by decide,by decide,my _ _ ⟨rfl,_,_,X4 _ (by decide),rfl⟩⟩
  ·obtain⟨rfl,m,x4,hm,rfl⟩:=hJ;exact hN _ _ ⟨rfl,c,m,0,x4,hc,hm,rfl⟩
 ·rintro ρ M ⟨rfl,c,m,x,x4,hc,hm,rfl⟩;simp! only[];exact⟨⟨by decide,by decide,by decide⟩,eS (fun _=>⟨by decide,fun a ha=>.inl (q a 0 m ha (by omega) hm)⟩) (fun _=>⟨by decide,fun a ha=>.inl (q a c m ha hc hm)⟩)⟩
theorem Rw (G:FnOk P w K mg base bf k f fd ps (aX P w K tb IK)):FnOk P w K mg base bf k f fd ps (aX P w K tb Pm):=G.imp fun vs H Q E hS=>by
 obtain⟨β,ds,M,Q',E',eP,ew,eK,et,m,rs,⟨ns,t,e,h1,h2,h3,h⟩,q,qe⟩:=hS;refine⟨β,ds,M,fun d M'=>∃b c m,d=.ptr b/\M b=none/\0<=c/\0<=m/\M'=aw M b (.lst [.int c,.int m]),fun _ _=>False,eP,ew,eK,et,m,rs,⟨ns,t,e,h1,h2,h3,fun b c m h4 h5 h6=>⟨b,c,m,rfl,h4,h5,h6,rfl⟩⟩,fun d M' v H' x r hQ=>?_,fun _ _ _ _ h=>h.elim⟩
 obtain⟨b,c,m',rfl,hb,hc,hm,rfl⟩:=hQ;have hB:=D0 x.mz hc hm;exact q _ _ _ _ (Ex.sealed hb x hB) (r.dom (jO M b _ _)) (h b hb)
def vO:cp:=fun ds M Q _=>∃(b:ac) (n:Int),ds=[.ptr b,.int n]/\M b=some .dA/\1<=n/\n<1073741824/\∀d:Nat,(d:Int)<n->Q (.int (d:Nat)) M
def Eh:cp:=fun ds M Q _=>∃(b:ac) (n c m:Int),ds=[.ptr b,.int n]/\M b=some (.lst [.int c,.int m])/\0<=c/\0<=m/\1<=n/\n<1073741824/\∀(d:Nat) (c m:Int),(d:Int)<n->0<=c->0<=m->Q (.int (d:Nat)) (aw M b (.lst [.int c,.int m]))
theorem yK (D:Df K mg "_law_take" fi ["_law_bag_here","_law_many"] f fd):FnOk P w K mg base bf 1 f fd ["_law_bag_here","_law_many"] (aX P w K tb Eh) :=by
 refine ez D eF (fun ds M Q E hS=>by obtain⟨b,n,c,m,e,_⟩:=hS;rw[e];rfl) fun A outer s E Γ ds Q' E' hP hw hK ht hr hS=>?_
 obtain⟨b,n,c,m,e,hb,hc,hm,n1,n2,q⟩:=hS;refine⟨_,(ah (dM (bU w9 (aQ (bt (K:=K) rfl) (qv 0) aq (fun _ _=>rfl)) aq (bV _))
   (ah (aI (i:=2) eF.nd rfl (mT rfl) (aM ia (aQ (bt (K:=K) rfl) (qv 0) aq (fun _ _=>rfl)) (qv 1)))
  (ah (kb (aM w5 (aQ (bt (K:=K) rfl) (qv 0) aq (fun _ _=>rfl)) (qv 1)) (ki (qv 0) aq))
  (ao (aU (qv 2)))))
   qss_nil)
  (ah (aI (i:=3) eF.nd rfl (mT rfl) aq)
  (ah (aI (i:=4) eF.nd rfl (mT rfl) aq)
  (ah (kf sK (bU w6 (qv 4) (qv 1) (bV _))
   (ah (kb (aM ia (aM fu (aM mW (aQ (bt (K:=K) rfl) (qv 0) aq (fun _ _=>rfl)) aq) aq) aq) (ki (qv 0) aq))
  (ah (aI (i:=3) eF.nd rfl (mT rfl) (aM fu (aM mW (qv 3) aq) (aM ia (aM mW (aM w5 (aQ (bt (K:=K) rfl) (qv 0) aq (fun _ _=>rfl)) aq) aq) aq)))
  (ao (aI (i:=4) eF.nd rfl (mT rfl) (aM mW (qv 4) aq))))))
  (ao (aU (aM ia (qv 3) (qv 1)))))))),?_⟩
 subst e;have Pn:∀x y:Int,cy [Dv.int x,Dv.int y] 1=some (.int y):=fun x y=>cf (j:=1) rfl
 have WK:f7 2 0=some 0:=rfl;have WL:f7 2 1=some 1:=rfl;have fin:∀{i c m:Int} {M:Mh},0<=c->0<=m->M=aw Γ.M0 b (.lst [.int c,.int m])->jn Γ.M0 Q' (.int (i % n)) M:=fun {i c m M} hc hm e=>by
  obtain⟨d,hd⟩:=BY (X4 i (show n≠0 by omega))
  have:=Int.emod_lt_of_pos i (show 0<n by omega)
  rw[hd,e];exact .inl (q d c m (by omega) hc hm)
 simp! only[hb,WK];refine eS (fun h=>?_) (fun h=>?_)
 ·refine⟨by omega,⟨by omega,n2⟩,fin (Int.ediv_nonneg hc (by omega)) hm rfl⟩
 ·refine⟨fun k ρ M=>∃num room c m x2,0<=num/\1<=room/\0<=c/\0<=m/\k=(n - room).toNat/\ρ=[some (.ptr b),some (.int n),x2,some (.int num),some (.int room)]/\M=aw Γ.M0 b (.lst [.int c,.int m]),⟨_,0,1,c,m,_,by omega,by omega,hc,hm,rfl,rfl,(zU hb).symm⟩,?_⟩
  rintro k ρ M ⟨num,room,c,m,x2,h1,h2,hc,hm,rfl,rfl,rfl⟩;simp! only[Pn,WL,updM_same];refine eS (fun h=>?_) (fun h=>⟨by omega,fin hc hm rfl⟩)
  have h:=of_decide_eq_true h;have m3:0<=(m * 48271+7919) % 2147483647:=X4 _ (by decide)
  have n3:0<=(m * 48271+7919) % 2147483647 / 8 * 69621 % 1073741789:=X4 _ (by decide)
  refine⟨.inr ⟨by decide,by decide⟩,by decide,.inr ⟨by decide,by decide⟩,⟨by decide,by decide⟩,.inr ⟨by decide,by decide⟩,by decide,.inr ⟨by decide,by decide⟩,_,?_,_,_,c,_,_,?_,?_,hc,m3,rfl,rfl,rfl⟩<;>omega
theorem Pq (G:FnOk P w K mg base bf k f fd ps (aX P w K tb Eh)):FnOk P w K mg base bf k f fd ps (aX P w K tb vO):=G.imp fun vs H Q E hS=>by
 obtain⟨β,ds,M,Q',E',eP,ew,eK,et,m,rs,⟨b,n,e,hb,h1,h2,h⟩,q,qe⟩:=hS;have eM:=zU hb;have d1:∀o a,(M a).isSome=(aw M b o a).isSome:=fun o a=>by have:=jO M b .dA o a;rwa [eM]at this
 rw[<- eM]at m;obtain⟨c,m0,hc,hm,hO⟩:=OZ m;refine⟨β,ds,aw M b (.lst [.int c,.int m0]),fun d M'=>∃(k:Nat) (c' m':Int),d=.int (k:Nat)/\(k:Int)<n/\0<=c'/\0<=m'/\M'=aw M b (.lst [.int c',.int m']),fun _ _=>False,eP,ew,eK,et,m.chg hO,⟨rs.len,fun i v d x y=>(rs.at' i v d x y).dom (d1 _)⟩,⟨b,n,c,m0,e,updM_same,hc,hm,h1,h2,fun d c' m' h3 h4 h5=>⟨d,c',m',rfl,h3,h4,h5,updM_updM⟩⟩,fun d M' v H' x r hQ=>?_,fun _ _ _ _ h=>h.elim⟩
 obtain⟨k,c',m',rfl,hk,Ho,rS,rfl⟩:=hQ;have hB:=D0 x.mz Ho rS;have x2:=Ex.chg (o2:=.dA) x hB;rw[eM]at x2;exact q _ _ _ _ x2 (r.dom fun a=>(d1 _ a).symm) (h k hk)
theorem vd {α β:Type}(f:α->β):∀(l:List α) (i:Nat),(l.map f).eraseIdx i=(l.eraseIdx i).map f
 | [],_=>rfl
 |_::_,0=>rfl
 |a::l,i+1=>by
          show f a::(l.map f).eraseIdx i=f a::(l.eraseIdx i).map f;rw[vd f l i]
theorem fS {α:Type}:∀(l:List α) (i:Nat) (h:i<l.length),(l[i]::l.eraseIdx i).Perm l
 |a::l,0,_=>.refl _
 |a::l,i+1,h=>by
          have h':i<l.length :=by simpa using h
          show (l[i]::a::l.eraseIdx i).Perm (a::l);exact(YF.swap a l[i] _).trans ((fS l i h').cons a)
structure dE (n:Nat) (os:List Int):Prop where
 perm:os.Perm ((jp n).map fun i:Nat=>(i:Int))
theorem dE.len {n:Nat}{os:List Int}(h:dE n os):os.length=n :=by
 have:=h.perm.length_eq;simpa using this
theorem dE.mem {n:Nat}{os:List Int}(h:dE n os) {x:Int}(hx:x∈os):0<=x/\x<n :=by
 have:=h.perm.mem_iff.mp hx;obtain⟨i,hi,rfl⟩:=on.mp this;have:=Me.mp hi;omega
theorem dE.at {n:Nat}{os:List Int}(h:dE n os) {i:Nat}(hi:i<n):∃x:Int,cy (os.map Dv.int) (i:Int)=some (.int x)/\0<=x/\x<n :=by
 have hl:i<os.length :=by rw[h.len];exact hi
 exact⟨os[i],cf (by rw[br,ap hl];rfl),h.mem (u8 hl)⟩
def Ei:cp:=fun ds M Q _=>∃(b:ac) (n:Nat),ds=[.ptr b,.int (n:Nat)]/\M b=some .dA/\n<=100/\∀os,dE n os->Q (bO os) M
def IL:cp:=fun ds M Q _=>∃(b:ac) (most:Nat),ds=[.ptr b,.int (most:Nat)]/\M b=some .dA/\1<=most/\most<=9/\∀net n,aY net n->net.length<=most->Q (eN net) M
theorem KA {n d:Nat}(h:d<n):seqIndex? (d:Int) n=some d:=(sZ (n:=n) (i:=(d:Int)) (j:=d) (by unfold f7;rw[if_pos (by omega),if_pos (by omega)];rfl)).1
theorem xN {f1:ac}{bP:l8}(D:Df K mg "_law_order" ig ["_law_bag_here","_law_many"] f fd)
  (av:Df K mg "_law_take" fi ["_law_bag_here","_law_many"] f1 bP) (bR:FnOk P w K mg base bf 1 f1 bP ["_law_bag_here","_law_many"] (aX P w K tb vO)) (bl:Bl mg):FnOk P w K mg base bf 2 f fd ["_law_bag_here","_law_many"] (aX P w K tb Ei) :=by
 refine ez D gF (fun ds M Q E hS=>by obtain⟨b,n,e,_⟩:=hS;rw[e];rfl) fun A outer s E Γ ds Q' E' hP hw hK ht hr hS=>?_
 obtain⟨b,n,e,hb,hn,q⟩:=hS;refine⟨_,(ah (aI (i:=2) gF.nd rfl (mT rfl) (vw rfl rfl bl.list_ rfl bl.range_ (qv 1)))
  (ah (aI (i:=3) gF.nd rfl (mT rfl) (jM ae))
  (ah (cM sK rfl (a9 rfl bl.range_ (aa (qv 1) ae)) (fun iD eP ew eK et=>by have hP:=hP.trans eP.symm;have hw:=hw.trans ew.symm;have hK:=hK.trans eK.symm;have ht:=ht.trans et.symm;exact⟨(aJ (i:=4) gF.nd rfl (mT rfl)),(ao (iH (lu (K:=K) rfl FM NJ NL kh (qv 3) (aa (lu (K:=K) rfl FM PySem.F.slot_list_pop PySem.F.type_list_pop zL (qv 2) (aa (aN bR (hr.mono (by decide)) rfl av.mg av.fn.kp av.bd bA hP hw hK ht XR.none (aa (qv 0) (aa (ax (b8 (K:=K) rfl hK) rfl bl.len_ r9 (aa (qv 2) ae)) ae))) ae)) ae))))⟩))
  (ao (aU (qv 3)))))),?_⟩
 subst e;have big:(1000:Nat)<sizeLine :=by decide
 simp! only[];refine⟨by omega,by omega,fun a ha=>⟨by omega,fun c hc=>⟨by omega,by omega,?_⟩⟩⟩
 have IM:c≠a:=fun z=>by rw[z,updM_same]at hc;cases hc
 have sG:Γ.M0 c=none :=by rw[aj IM]at hc;exact hc
 have WM:b≠a:=fun z=>by rw[z,ha]at hb;cases hb
 have WN:b≠c:=fun z=>by rw[z,sG]at hb;cases hb
 refine bz (fun i ρ M=>∃rest got:List Int,(∃x,ρ=[some (.ptr b),some (.int (n:Nat)),some (.ptr a),some (.ptr c),x])/\M a=some (.lst (rest.map .int))/\M c=some (.lst (got.map .int))/\(∀d,d≠a->d≠c->M d=Γ.M0 d)/\got.length=i/\(got++rest).Perm ((jp n).map fun i:Nat=>(i:Int)))
  ⟨(jp n).map fun i:Nat=>(i:Int),[],⟨_,rfl⟩,by rw[aj (AN IM),updM_same,kj,sB];rfl,updM_same,fun d h1 h2=>by rw[aj h2,aj h1],rfl,.refl _⟩ (fun i d ρ M N hd hJ hN=>?_) (fun ρ M hJ=>?_)
 ·obtain⟨rest,got,⟨x,rfl⟩,vc,IP,oo,hg,pm⟩:=hJ;obtain⟨rfl,hi⟩:=bh hd;have hlen:got.length+rest.length=n :=by have:=pm.length_eq;simpa using this
  simp! only[vc,IP];refine⟨b,_,rfl,(by rw[oo b WM WN];exact hb),by omega,by omega,fun d hd=>?_⟩
  have uI:d<rest.length :=by omega
  simp only[vc,ci,KA uI,br,ap uI,AT,aj IM,IP];refine⟨by omega,by omega,by omega,hN _ _ ⟨rest.eraseIdx d,got++[rest[d]],⟨_,rfl⟩,by rw[aj (AN IM),updM_same,vd],by rw[updM_same,zn];rfl,fun e h1 h2=>by rw[aj h2,aj h1];exact oo e h1 h2,by simp[hg],?_⟩⟩
  refine YF.trans ?_ pm;rw[On];exact YF.append_left got (fS rest d uI)
 ·obtain⟨rest,got,⟨x,rfl⟩,vc,IP,oo,hg,pm⟩:=hJ;rw[rangeD_len]at hg;have hlen:got.length+rest.length=n :=by have:=pm.length_eq;simpa using this
  have Eg:rest=[]:=Op (by omega)
  rw[Eg,Is]at pm;exact DA (fun d o e=>by rw[oo d (fun z=>by rw[z,ha]at e;cases e) (fun z=>by rw[z,sG]at e;cases e)];exact e) sG IP (km _) (q got ⟨pm⟩)
end
section
variable {P:gc}{w:i4}{K:bi}{mg:bn->Option al}{base:hX}{tb:cz}
def jG (n ways:Nat) (row:List Int):Prop:=row.length=ways/\∀x∈row,0<=x/\x<(n:Int)
structure fW (M0 M:Mh) (r:ac) (as:List ac) (n ways:Nat):Prop where
 kp:Keeps M0 M
 r0:M0 r=none
 rm:M r=some (.lst (as.map .ptr))
 fr:∀a∈as,M0 a=none/\a≠r
 len:as.length=n
 row:∀a∈as,∃row:List Int,M a=some (.lst (row.map .int))/\jG n ways row
 pin:∀b o,M b=some o->M0 b=some o\/b=r\/(∃row:List Int,o=.lst (row.map .int))\/∃bs:List ac,o=.lst (bs.map .ptr)/\∀c∈bs,c≠r/\∃o,M c=some o
theorem fW.wC {M0 M:Mh}{r:ac}{as:List ac}{n ways:Nat}(h:fW M0 M r as n ways) {a:ac}(ha:a∈as) {row:List Int}(o:jG n ways row):fW M0 (aw M a (.lst (row.map .int))) r as n ways :=by
 obtain⟨f0,f1⟩:=h.fr a ha;refine⟨.upd f0 h.kp,h.r0,by rw[aj (AN f1)];exact h.rm,h.fr,h.len,fun c hc=>?_,fun b u e=>?_⟩
 ·by_cases z:c=a
  ·subst z;exact⟨row,updM_same,o⟩
  ·rw[aj z];exact h.row c hc
 ·by_cases z:b=a
  ·subst z;rw[updM_same]at e;cases e;exact .inr (.inr (.inl ⟨row,rfl⟩))
  ·rw[aj z]at e;rcases h.pin b u e with q|q|q|⟨bs,q1,q2⟩
   ·exact .inl q
   ·exact .inr (.inl q)
   ·exact .inr (.inr (.inl q))
   ·refine .inr (.inr (.inr ⟨bs,q1,fun c hc=>⟨(q2 c hc).1,?_⟩⟩))
    by_cases z:c=a
    ·subst z;exact⟨_,updM_same⟩
    ·rw[aj z];exact(q2 c hc).2
theorem fW.put {M0 M:Mh}{r:ac}{as:List ac}{n ways:Nat}(h:fW M0 M r as n ways) {a:ac}(ha:M a=none) {row:List Int}(o:jG n ways row) {i:Nat}(hi:i<n):fW M0 (aw (aw M a (.lst (row.map .int))) r (.lst ((as.map .ptr).set i (.ptr a)))) r (as.set i a) n ways :=by
 have nr:a≠r:=fun z=>by rw[z,h.rm]at ha;cases ha
 have a0:M0 a=none :=by
  cases e:M0 a with
  |none=>rfl
  |some u=>rw[h.kp a u e]at ha;cases ha
 have WO:a ∉ as:=fun z=>by obtain⟨row,e,_⟩:=h.row a z;rw[ha]at e;cases e
 refine⟨.upd h.r0 (.upd a0 h.kp),h.r0,by rw[updM_same,ZO],fun c hc=>?_,by rw[Lu];exact h.len,fun c hc=>?_,fun b u e=>?_⟩
 ·rcases X5 hc with z|z
  ·exact h.fr c z
  ·rw[z];exact⟨a0,nr⟩
 ·rcases X5 hc with z|z
  ·have n1:=(h.fr c z).2;have n2:c≠a:=fun e=>WO (e▸z)
   rw[aj n1,aj n2];exact h.row c z
  ·rw[z,aj nr,updM_same];exact⟨row,rfl,o⟩
 ·by_cases z:b=r
  ·exact .inr (.inl z)
  ·rw[aj z]at e;by_cases z2:b=a
   ·subst z2;rw[updM_same]at e;cases e;exact .inr (.inr (.inl ⟨row,rfl⟩))
   ·rw[aj z2]at e;rcases h.pin b u e with q|q|q|⟨bs,q1,q2⟩
    ·exact .inl q
    ·exact .inr (.inl q)
    ·exact .inr (.inr (.inl q))
    ·refine .inr (.inr (.inr ⟨bs,q1,fun c hc=>⟨(q2 c hc).1,?_⟩⟩))
     rw[aj (q2 c hc).1];by_cases z:c=a
     ·subst z;exact⟨_,updM_same⟩
     ·rw[aj z];exact(q2 c hc).2
structure qI (M0 M:Mh):Prop where
 kp:Keeps M0 M
 pin:∀b o,M b=some o->M0 b=some o\/(∃row:List Int,o=.lst (row.map .int))\/∃bs:List ac,o=.lst (bs.map .ptr)/\∀c∈bs,∃o,M c=some o
theorem qI.refl {M0:Mh}:qI M0 M0:=⟨.refl,fun b o e=>.inl e⟩
theorem jH {M0 M:Mh}(h:Keeps M0 M) {a:ac}(ha:M a=none):M0 a=none :=by
 cases e:M0 a with
 |none=>rfl
 |some u=>rw[h a u e]at ha;cases ha
theorem qI.row {M0 M:Mh}(h:qI M0 M) {a:ac}(ha:M a=none) (row:List Int):qI M0 (aw M a (.lst (row.map .int))) :=by
 refine⟨.upd (jH h.kp ha) h.kp,fun b o e=>?_⟩
 by_cases z:b=a
 ·subst z;rw[updM_same]at e;cases e;exact .inr (.inl ⟨row,rfl⟩)
 ·rw[aj z]at e;rcases h.pin b o e with q|q|⟨bs,q1,q2⟩
  ·exact .inl q
  ·exact .inr (.inl q)
  ·refine .inr (.inr ⟨bs,q1,fun c hc=>?_⟩)
   by_cases z:c=a
   ·subst z;exact⟨_,updM_same⟩
   ·rw[aj z];exact q2 c hc
theorem Xg {g:cE}{te:aK}{n:Nat}{M1:Mh}(T:az->Prop) {ds:List Dv}{τ:az}{Q:List Dv->Mh->Prop}(h0:T τ) (h:∀d∈ds,∀τ,T τ->∀R:az->ZK,(∀(x:Int) aB,0<=x->x<(n:Int)->T aB->R aB (.int x) M1)->g d τ M1 fun aB M2=>te aB M2 (R aB)) (q:∀row:List Int,row.length=ds.length->(∀x∈row,0<=x/\x<(n:Int))->Q (row.map .int) M1):gJ g zNoIf te ds τ M1 Q :=by
 refine ky (acc:=[]) (fun acc τ M=>∃row:List Int,acc=row.map Dv.int/\(∀x∈row,0<=x/\x<(n:Int))/\T τ/\M=M1) ⟨[],rfl,(fun _ h=>nomatch h),h0,rfl⟩ (fun i d acc τ M hd _ ⟨row,e1,hr,ht,e2⟩ R hR=>?_) (fun ys τ M hl ⟨row,e1,hr,ht,e2⟩=>?_)
 ·subst e1 e2;refine h d (dL hd) τ ht R fun x aB x0 x1 t2=>hR _ _ _ ⟨row++[x],by rw[zn];rfl,fun y hy=>?_,t2,rfl⟩
  rcases wv.mp hy with z|z
  ·exact hr y z
  ·rw[lp]at z;rw[z];exact⟨x0,x1⟩
 ·rw[LB]at e1;subst e1 e2;exact q row (by simpa using hl) hr
def fM (x:Option Dv):Prop:=∀M d,x=some d->Pin M d
theorem fM.none:fM none:=fun _ _ h=>nomatch h
theorem fM.int (i:Int):fM (some (.int i)):=fun _ _ h=>by cases h;exact .int i
theorem fM.lI (ns:List Int):fM (some (bO ns)):=fun _ _ h=>by cases h;exact .lst (km ns)
theorem mB {n d:Nat}(h:d<n):f7 n (d:Int)=some d :=by unfold f7;rw[if_pos (by omega),if_pos (by omega)];rfl
theorem xO (row:List Int) (t:Nat) (x:Int):(row.map Dv.int).set t (.int x)=(row.set t x).map Dv.int :=by rw[ZO]
theorem jG.set {n ways:Nat}{row:List Int}(h:jG n ways row) {t:Nat}{x:Int}(x0:0<=x) (x1:x<(n:Int)):jG n ways (row.set t x):=⟨by rw[Lu];exact h.1,fun y hy=>by
 rcases X5 hy with z|z
 ·exact h.2 y z
 ·rw[z];exact⟨x0,x1⟩⟩
def sN (os:List Int):Dv->Int | .int j=>os.getD j.toNat 0|_=>0
theorem xP {os:List Int}{j:Nat}{x:Int}(h:cy (os.map Dv.int) (j:Int)=some (.int x)):sN os (.int (j:Nat))=x :=by
 by_cases hj:j<os.length
 ·rw[cf (j:=j) (v:=Dv.int os[j]) (by rw[br,ap hj];rfl)]at h
  cases h;show os.getD (Int.toNat (j:Int)) 0=_;rw[At,cr,ap hj];rfl
 ·unfold cy f7 at h;rw[if_pos (by omega),if_neg (by simp;omega)]at h
  cases h
def Gy (per i:Nat):Dv->Bool | .int j=>decide (j % (per:Int)=((i:Int)+1) % (per:Int))|_=>false
theorem GA {n per i:Nat}{os:List Int}(kM:dE n os) (p1:1<=per) (pn:per<=n):∃gs:List Int,((bH 0 n).filter (Gy per i)).map (fun d=>Dv.int (sN os d))=gs.map Dv.int/\1<=gs.length/\gs.length<=n/\∀x∈gs,0<=x/\x<(n:Int) :=by
 refine⟨((bH 0 n).filter (Gy per i)).map (sN os),by rw[sB];rfl,?_,?_,fun x hx=>?_⟩
 ·rw[ci];refine Wp (a:=Dv.int (((i+1) % per:Nat):Int)) (Nl.mpr ⟨?_,?_⟩)
  ·have:(i+1) % per<per:=ZC _ (by omega)
   exact dL (i:=(i+1) % per) (by rw[bH,br,xw (by omega)];simp)
  ·show decide _=true;rw[decide_eq_true_eq];push_cast
   exact Int.emod_emod_of_dvd _ (Int.dvd_refl _)
 ·rw[ci];exact wr (YI _ _) (by rw[rangeD_len];exact c8 _)
 ·obtain⟨d,hd,rfl⟩:=on.mp hx;obtain⟨j,hj,rfl⟩:=sC (Nl.mp hd).1;rw[DO];obtain⟨gx,IQ,g0,g1⟩:=kM.at hj;rw[xP IQ];exact⟨g0,g1⟩
structure iq (M0 M:Mh) (r:ac) (as:List ac) (n:Nat) (L:Nat->Nat):Prop where
 own:qI M0 M
 r0:M0 r=none
 rm:M r=some (.lst (as.map .ptr))
 fr:∀a∈as,M0 a=none/\a≠r
 nd:as.Nodup
 len:as.length=n
 rows:∀i a,as[i]?=some a->∃row:List Int,M a=some (.lst (row.map .int))/\jG n (L i) row
 ptr:∀b bs,M b=some (.lst (bs.map .ptr))->b=r\/M0 b=some (.lst (bs.map .ptr))\/bs=[]
theorem iq.set {M0 M:Mh}{r:ac}{as:List ac}{n:Nat}{L:Nat->Nat}(h:iq M0 M r as n L) {i:Nat}{a:ac}(ha:as[i]?=some a) {row:List Int}{m:Nat}(o:jG n m row):iq M0 (aw M a (.lst (row.map .int))) r as n fun j=>if j=i then m else L j :=by
 have hm:=dL ha;obtain⟨f0,f1⟩:=h.fr a hm;refine⟨⟨.upd f0 h.own.kp,fun b o e=>?_⟩,h.r0,by rw[aj (AN f1)];exact h.rm,h.fr,h.nd,h.len,fun j c hc=>?_,fun b bs e=>?_⟩
 ·by_cases z:b=a
  ·subst z;rw[updM_same]at e;cases e;exact .inr (.inl ⟨row,rfl⟩)
  ·rw[aj z]at e;rcases h.own.pin b o e with q|q|⟨bs,q1,q2⟩
   ·exact .inl q
   ·exact .inr (.inl q)
   ·refine .inr (.inr ⟨bs,q1,fun c hc=>?_⟩)
    by_cases z:c=a
    ·subst z;exact⟨_,updM_same⟩
    ·rw[aj z];exact q2 c hc
 ·by_cases z:j=i
  ·subst z;rw[ha]at hc;cases hc;exact⟨row,updM_same,by rw[if_pos rfl];exact o⟩
  ·have ve:c≠a:=fun e=>z (by
    subst e;obtain⟨h1,e1⟩:=bv.mp ha;obtain⟨h2,e2⟩:=bv.mp hc;rcases Nat.lt_trichotomy j i with q|q|q
    ·exact absurd (e2.trans e1.symm) (Re.mp h.nd j i h2 h1 q)
    ·exact q
    ·exact absurd (e1.trans e2.symm) (Re.mp h.nd i j h1 h2 q))
   rw[aj ve,if_neg z];exact h.rows j c hc
 ·by_cases z:b=a
  ·subst z;rw[updM_same]at e;cases row with
   |nil=>cases bs with
    |nil=>exact .inr (.inr rfl)
    |cons c bs=>simp at e
   |cons x row=>cases bs with
    |nil=>exact .inr (.inr rfl)
    |cons c bs=>simp at e
  ·rw[aj z]at e;exact h.ptr b bs e
theorem iq.full {M0 M:Mh}{r:ac}{as:List ac}{n ways:Nat}{L:Nat->Nat}(h:iq M0 M r as n L) (hL:∀i,i<n->L i=ways):fW M0 M r as n ways :=by
 refine⟨h.own.kp,h.r0,h.rm,h.fr,h.len,fun a ha=>?_,fun b o e=>?_⟩
 ·obtain⟨i,hi⟩:=mo.mp ha;obtain⟨row,e,o⟩:=h.rows i a hi;rw[hL i (by rw[<- h.len];exact(bv.mp hi).1)]at o
  exact⟨row,e,o⟩
 ·rcases h.own.pin b o e with q|q|⟨bs,rfl,q2⟩
  ·exact .inl q
  ·exact .inr (.inr (.inl q))
  ·rcases h.ptr b bs e with z|z|z
   ·exact .inr (.inl z)
   ·exact .inl z
   ·subst z;exact .inr (.inr (.inl ⟨[],rfl⟩))
theorem iq.Br {M0 M:Mh}{r:ac}{as:List ac}{n:Nat}{L L':Nat->Nat}(h:iq M0 M r as n L) (e:∀i,i<n->L i=L' i):iq M0 M r as n L':=
 ⟨h.own,h.r0,h.rm,h.fr,h.nd,h.len,fun i a ha=>by
  have:=h.rows i a ha;rwa [e i (by rw[<- h.len];exact(bv.mp ha).1)]at this,h.ptr⟩
theorem dE.nodup {n:Nat}{os:List Int}(h:dE n os):os.Nodup :=by
 refine h.perm.nodup_iff.mpr ?_;exact List.pairwise_map.mpr (List.nodup_range.imp fun h e=>h (by omega))
theorem dE.prev {n:Nat}{os:List Int}(h:dE n os) {k:Nat}(hk:k<n):∃p:Nat,cy (os.map Dv.int) ((k:Int) - 1)=some (.int (p:Nat))/\p<n :=by
 have hl:=h.len;obtain⟨j,hj,e⟩:∃j:Nat,j<n/\f7 n ((k:Int) - 1)=some j :=by
  unfold f7;by_cases z:k=0
  ·exact⟨n - 1,by omega,by rw[if_neg (by omega),if_pos (by omega)];congr 1;omega⟩
  ·exact⟨k - 1,by omega,by rw[if_pos (by omega),if_pos (by omega)];congr 1;omega⟩
 have Pr:j<os.length :=by omega
 obtain⟨g0,g1⟩:=h.mem (u8 Pr);refine⟨os[j].toNat,?_,by omega⟩
 unfold cy;rw[ci,hl,e];show (os.map Dv.int)[j]?=_;rw[br,ap Pr];show some (Dv.int os[j])=_;congr 2
 omega
theorem KC (x:Int) (k:Nat):(io k [Dv.int x]).flatten=(io k x).map Dv.int :=by
 induction k with
 |zero=>rfl
 |succ k ih=>rw[ze,JJ,ih,ze];rfl
theorem Bs {f f1 f2:ac}{fd bP fd2:l8}(D:Df K mg "_law_net" eX ["_law_bag_here","_law_most"] f fd)
  (av:Df K mg "_law_take" fi ["_law_bag_here","_law_many"] f1 bP) (bR:FnOk P w K mg base bf 1 f1 bP ["_law_bag_here","_law_many"] (aX P w K tb vO))
  (eG:Df K mg "_law_order" ig ["_law_bag_here","_law_many"] f2 fd2) (xQ:FnOk P w K mg base bf 2 f2 fd2 ["_law_bag_here","_law_many"] (aX P w K tb Ei)) (bl:Bl mg):FnOk P w K mg base bf 3 f fd ["_law_bag_here","_law_most"] (aX P w K tb IL) :=by
 refine ez D bu (fun ds M Q E hS=>by obtain⟨b,n,e,_⟩:=hS;rw[e];rfl) fun A outer s E Γ ds Q' E' hP hw hK ht hr hS=>?_
 obtain⟨b,most,e,hb,h1,h9,q⟩:=hS;refine⟨_,(ah (aI (i:=2) bu.nd rfl (mT rfl) (aM fu aq (aN bR (hr.mono (by decide)) rfl av.mg av.fn.kp av.bd bA hP hw hK ht XR.none (aa (qv 0) (aa (qv 1) ae)))))
  (ah (aI (i:=3) bu.nd rfl (mT rfl) (aM fu aq (aN bR (hr.mono (by decide)) rfl av.mg av.fn.kp av.bd bA hP hw hK ht XR.none (aa (qv 0) (aa aq ae)))))
  (ah (aI (i:=4) bu.nd rfl (mT rfl) (aN bR (hr.mono (by decide)) rfl av.mg av.fn.kp av.bd bA hP hw hK ht XR.none (aa (qv 0) (aa aq ae))))
  (ah (aI (i:=5) bu.nd rfl (FF rfl) aq)
  (ah (dM (bU qz (qv 4) aq (bV _))
   (ah (aI (i:=5) bu.nd rfl (FF rfl) (ax (xc rfl) rfl bl.min_ rW (aa (aM fu aq (aN bR (hr.mono (by decide)) rfl av.mg av.fn.kp av.bd bA hP hw hK ht XR.none (aa (qv 0) (aa aq ae)))) (aa (qv 2) ae))))
  (ao (aI (i:=2) bu.nd rfl (mT rfl) (aM mW (aM w5 (qv 2) (qv 5)) (qv 5)))))
   qss_nil)
  (ah (aI (i:=6) bu.nd rfl (FF rfl) (aN xQ (hr.mono (by decide)) rfl eG.mg eG.fn.kp eG.bd bA hP hw hK ht XR.none (aa (qv 0) (aa (qv 2) ae))))
  (ah (yG (i:=7) bu.nd rfl rfl (N':=["_law_place"]) (tn:=1) (idx:=[]) rfl (show aH ["_law_bag_here","_law_most","_law_many","_law_fans","_law_kind","_law_lap","_law_order_here","_law_rows","_law_k","_law_goals","_law_fan"] (ai eX) _ ["_law_place"] 1 [] from by decide +kernel) (a9 rfl bl.range_ (aa (qv 2) ae)) (fun _ _ _ _ _=>(aJ (i:=0) (show Cf [("_law_place" : bn)] from by decide +kernel) rfl (mT rfl))) (fun _ _ _ _ _=>cm) (fun _ _ _ _ _=>(jM ae)))
  (ah (cM sK rfl (a9 rfl bl.range_ (aa (qv 2) ae)) (fun iD eP ew eK et=>by have hP:=hP.trans eP.symm;have hw:=hw.trans ew.symm;have hK:=hK.trans eK.symm;have ht:=ht.trans et.symm;exact⟨(aJ (i:=8) bu.nd rfl (FF rfl)),(ah (sA (i:=9) bu.nd rfl rfl (N':=["_law_j","_law_order_here","_law_lap","_law_k"]) (tn:=1) (idx:=[6,5,8]) rfl (show aH ["_law_bag_here","_law_most","_law_many","_law_fans","_law_kind","_law_lap","_law_order_here","_law_rows","_law_k","_law_goals","_law_fan"] (ai eX) _ ["_law_j","_law_order_here","_law_lap","_law_k"] 1 [6,5,8] from by decide +kernel) (a9 rfl bl.range_ (aa (qv 2) ae)) (fun _ _ _ _ _=>(aJ (i:=0) (show Cf [("_law_j" : bn),("_law_order_here" : bn),("_law_lap" : bn),("_law_k" : bn)] from by decide +kernel) rfl (mT rfl))) (fun _ _ _ _ _=>(zJ (bU qz (aM ia (qv 0) (qv 2)) (aM ia (aM fu (qv 3) aq) (qv 2)) (bV _)))) (fun _ _ _ _ _=>(aQ (bt (K:=K) rfl) (qv 1) (qv 0) (fun _ _=>rfl))))
  (ao (cM sK rfl (a9 rfl bl.range_ (aa (qv 3) ae)) (fun iD eP ew eK et=>by have hP:=hP.trans eP.symm;have hw:=hw.trans ew.symm;have hK:=hK.trans eK.symm;have ht:=ht.trans et.symm;exact⟨(aJ (i:=10) bu.nd rfl (mT rfl)),(ao (iH (lu (K:=K) rfl FM NJ NL kh (aQ (bt (K:=K) rfl) (qv 7) (aQ (bt (K:=K) rfl) (qv 6) (qv 8) (fun _ _=>rfl)) (fun _ _=>rfl)) (aa (aQ (bt (K:=K) rfl) (qv 9) (aN bR (hr.mono (by decide)) rfl av.mg av.fn.kp av.bd bA hP hw hK ht XR.none (aa (qv 0) (aa (ax (b8 (K:=K) rfl hK) rfl bl.len_ r9 (aa (qv 9) ae)) ae))) (fun _ _=>rfl)) ae))))⟩))))⟩))
  (ah (dM (bU w9 (qv 4) aq (bV _))
   (ao (cM sK rfl (a9 rfl bl.range_ (aa (qv 2) ae)) (fun iD eP ew eK et=>by have hP:=hP.trans eP.symm;have hw:=hw.trans ew.symm;have hK:=hK.trans eK.symm;have ht:=ht.trans et.symm;exact⟨(aJ (i:=8) bu.nd rfl (FF rfl)),(ao (kb (aQ (bt (K:=K) rfl) (qv 6) (qv 8) (fun _ _=>rfl)) (ki (aQ (bt (K:=K) rfl) (qv 7) (aQ (bt (K:=K) rfl) (qv 6) (aM vK (qv 8) aq) (fun _ _=>rfl)) (fun _ _=>rfl)) (aN bR (hr.mono (by decide)) rfl av.mg av.fn.kp av.bd bA hP hw hK ht XR.none (aa (qv 0) (aa (qv 3) ae))))))⟩)))
   qss_nil)
  (ah (dM (bU qz (qv 4) aq (bV _))
   (ah (cM sK rfl (a9 rfl bl.range_ (aa (qv 2) ae)) (fun iD eP ew eK et=>by have hP:=hP.trans eP.symm;have hw:=hw.trans ew.symm;have hK:=hK.trans eK.symm;have ht:=ht.trans et.symm;exact⟨(aJ (i:=8) bu.nd rfl (FF rfl)),(ao (kb (aM D2 (sk (aa (aQ (bt (K:=K) rfl) (qv 6) (qv 8) (fun _ _=>rfl)) ae)) (qv 3)) (ki (qv 7) (aQ (bt (K:=K) rfl) (qv 6) (aM vK (qv 8) aq) (fun _ _=>rfl)))))⟩))
  (ao (kb (aN bR (hr.mono (by decide)) rfl av.mg av.fn.kp av.bd bA hP hw hK ht XR.none (aa (qv 0) (aa (qv 2) ae))) (ki (aQ (bt (K:=K) rfl) (qv 7) aq (fun _ _=>rfl)) aq))))
   qss_nil)
  (ao (DE 7 rfl (aU (lr (pA (K:=K) rfl) rfl bl.tuple_ gI (aa (cY (N':=["_law_row"]) (tn:=1) (idx:=[]) rfl (show aH ["_law_bag_here","_law_most","_law_many","_law_fans","_law_kind","_law_lap","_law_order_here","_law_rows","_law_k","_law_goals","_law_fan"] (ai eX) _ ["_law_row"] 1 [] from by decide +kernel) (jN (K:=K) rfl (qv 7)) (fun _ _ _ _ _=>(aJ (i:=0) (show Cf [("_law_row" : bn)] from by decide +kernel) rfl (mT rfl))) (fun _ _ _ _ _=>cm) (fun _ _ _ _ _=>(lr (pA (K:=K) rfl) rfl bl.tuple_ gI (aa (qv 0) ae)))) ae))))))))))))))),?_⟩
 subst e;have big:(100:Nat)<sizeLine :=by decide
 refine Ru (fun ρ M=>M=Γ.M0/\∃(n ways kind di:Nat),ρ=[some (.ptr b),some (.int (most:Nat)),some (.int (n:Nat)),some (.int (ways:Nat)),some (.int (kind:Nat)),some (.int (di:Nat)),none,none,none,none,none]/\1<=n/\n<=most/\(ways=2\/ways=3)/\1<=di/\di<=n) (fun N hN=>?_) ?_
 ·simp! only[];refine⟨b,_,rfl,hb,by omega,by omega,fun m hm=>?_⟩
  obtain⟨n,hn⟩:∃n:Nat,(1+(m:Int))=(n:Nat):=⟨1+m,by omega⟩
  have n1:1<=n :=by omega
  have n9:n<=most :=by omega
  simp! only[hn];refine⟨b,_,rfl,hb,by omega,by omega,fun v hv=>?_⟩
  obtain⟨ways,Rx⟩:∃ways:Nat,(2+(v:Int))=(ways:Nat):=⟨2+v,by omega⟩
  have w2:ways=2\/ways=3 :=by omega
  simp! only[Rx];refine⟨b,_,rfl,hb,by omega,by omega,fun kind oX=>?_⟩
  simp! only[];refine eS (fun h=>?_) (fun h=>hN _ _ ⟨rfl,n,ways,kind,1,rfl,n1,n9,w2,by omega,n1⟩)
  refine⟨b,_,rfl,hb,by omega,by omega,fun t ht=>?_⟩
  obtain⟨di,UK,l1,ln⟩:∃di:Nat,(if (n:Int)<2+(t:Int) then (n:Int) else 2+(t:Int))=(di:Nat)/\1<=di/\di<=n :=by
   by_cases z:(n:Int)<2+(t:Int)
   ·exact⟨n,by rw[if_pos z],n1,c8 _⟩
   ·exact⟨2+t,by rw[if_neg z];omega,by omega,by omega⟩
  simp only[UK];have en:(n:Int) / (di:Int) * (di:Int)=((n / di * di:Nat):Int) :=by push_cast;rfl
  have d1:n / di * di<=n:=Nat.div_mul_le_self n di;have d2:di<=n / di * di :=by
   have:1<=n / di:=Nat.div_pos ln (by omega)
   exact Nat.le_mul_of_pos_left di this
  rw[en];exact⟨⟨by omega,by omega⟩,.inr ⟨by omega,by omega⟩,hN _ _ ⟨rfl,n / di * di,ways,kind,di,rfl,by omega,by omega,w2,l1,d2⟩⟩
 rintro ρ M ⟨rfl,n,ways,kind,di,rfl,n1,n9,w2,l1,ln⟩;refine Rr (fun ρ M=>∃(r:ac) (as:List ac) (os:List Int) (x8 x9 jd:Option Dv),(fM x8/\fM x9/\fM jd)/\ρ=[some (.ptr b),some (.int (most:Nat)),some (.int (n:Nat)),some (.int (ways:Nat)),some (.int (kind:Nat)),some (.int (di:Nat)),some (bO os),some (.ptr r),x8,x9,jd]/\fW Γ.M0 M r as n ways/\dE n os) (fun N hN=>?_) ?_
 ·simp! only[];refine⟨b,n,rfl,hb,by omega,fun os kM=>?_⟩
  have CW:=kM.len;simp! only[];refine⟨by omega,by omega,by omega,ky (acc:=[]) (fun acc τ M=>∃as:List ac,acc=as.map Dv.ptr/\(∃x,τ=[x])/\qI Γ.M0 M/\as.Nodup/\(∀a∈as,Γ.M0 a=none/\M a=some (.lst []))/\∀c (bs:List ac),M c=some (.lst (bs.map .ptr))->Γ.M0 c=some (.lst (bs.map .ptr))\/bs=[]) ⟨[],rfl,⟨_,rfl⟩,.refl,.nil,(fun _ h=>nomatch h),fun c bs e=>.inl e⟩ (fun i d acc τ M hd _ hJ R hR=>?_) (fun ys τ M hl hJ=>?_)⟩
  ·obtain⟨as,rfl,⟨x,rfl⟩,hO,Pt,ha,hp⟩:=hJ;simp! only[];refine⟨by omega,fun a hn=>hR _ _ _ ⟨as++[a],by rw[zn];rfl,⟨_,rfl⟩,hO.row hn [],?_,fun c hc=>?_,fun c bs e=>?_⟩⟩
   ·rw[ZA];refine⟨Pt,by simp,fun x hx y hy e=>?_⟩
    rw[lp]at hy;subst e hy;rw[(ha _ hx).2]at hn;cases hn
   ·rcases wv.mp hc with z|z
    ·obtain⟨q1,q2⟩:=ha c z;have ne:c≠a:=fun q=>by rw[q,hn]at q2;cases q2
     exact⟨q1,by rw[aj ne];exact q2⟩
    ·rw[lp]at z;subst z;exact⟨jH hO.kp hn,updM_same⟩
   ·by_cases z:c=a
    ·subst z;rw[updM_same]at e;cases bs with
     |nil=>exact .inr rfl
     |cons y bs=>simp at e
    ·rw[aj z]at e;exact hp c bs e
  ·obtain⟨as,e1,⟨x,rfl⟩,hO,Pt,ha,hp⟩:=hJ;rw[LB]at e1;subst e1;intro r Pu;have UL:as.length=n :=by simpa[rangeD_len] using hl
   have ne:∀{c o},M c=some o->c≠r:=fun e z=>by rw[z,Pu]at e;cases e
   have RF:iq Γ.M0 (aw M r (.lst (as.map .ptr))) r as n fun _=>0 :=by
    refine⟨⟨.upd (jH hO.kp Pu) hO.kp,fun c o e=>?_⟩,jH hO.kp Pu,updM_same,fun a h=>⟨(ha a h).1,ne (ha a h).2⟩,Pt,UL,fun i a h=>?_,fun c bs e=>?_⟩
    ·by_cases z:c=r
     ·subst z;rw[updM_same]at e;cases e;exact .inr (.inr ⟨as,rfl,fun a h=>⟨_,by rw[aj (ne (ha a h).2)];exact(ha a h).2⟩⟩)
     ·rw[aj z]at e;rcases hO.pin c o e with q|q|⟨bs,q1,q2⟩
      ·exact .inl q
      ·exact .inr (.inl q)
      ·refine .inr (.inr ⟨bs,q1,fun y hy=>?_⟩)
       obtain⟨u,hu⟩:=q2 y hy;exact⟨u,by rw[aj (ne hu)];exact hu⟩
    ·have hm:=ha a (dL h);exact⟨[],by rw[aj (ne hm.2)];exact hm.2,rfl,fun _ h=>nomatch h⟩
    ·by_cases z:c=r
     ·exact .inl z
     ·rw[aj z]at e;exact .inr (hp c bs e)
   refine⟨by omega,by omega,?_⟩
   refine bz (fun i ρ M=>∃x8 x9 jd,(fM x8/\fM x9/\fM jd)/\ρ=[some (.ptr b),some (.int (most:Nat)),some (.int (n:Nat)),some (.int (ways:Nat)),some (.int (kind:Nat)),some (.int (di:Nat)),some (bO os),some (.ptr r),x8,x9,jd]/\iq Γ.M0 M r as n (fun j=>if ((j:Nat):Int)∈os.take i then ways else 0))
    ⟨_,_,_,⟨.none,.none,.none⟩,rfl,RF.Br fun i _=>by simp⟩ (fun i d ρ M N2 hd hJ my=>?_) (fun ρ M hJ=>?_)
   ·obtain⟨x8,x9,jd,⟨p8,p9,vf⟩,rfl,RF⟩:=hJ;obtain⟨rfl,hi⟩:=bh hd;have jc:i<os.length :=by omega
    obtain⟨g0,g1⟩:=kM.mem (u8 jc);obtain⟨pk,Pw⟩:=BY g0;have S6:pk<n :=by omega
    have rV:cy (os.map Dv.int) ((i:Nat):Int)=some (.int (pk:Nat)):=cf (by rw[br,ap jc,Pw];rfl)
    have Px:pk<as.length :=by omega
    have WQ:cy (as.map Dv.ptr) ((pk:Nat):Int)=some (.ptr as[pk]):=cf (by rw[br,ap Px];rfl)
    have S7:as[pk]?=some as[pk]:=ap Px;have UM:((pk:Nat):Int) ∉ os.take i:=fun z=>by
     obtain⟨j,hj,e⟩:=List.mem_iff_getElem.mp z;rw[List.getElem_take,<- Pw]at e;rw[Yv]at hj;exact Re.mp kM.nodup j i (by omega) jc (by omega) e
    simp! only[];refine⟨by omega,by omega,by omega,tM (Gy di i) (fun d=>.int (sN os d)) (fun τ M'=>(∃x,τ=[x,some (bO os),some (.int (di:Nat)),some (.int (i:Nat))])/\M'=M) ⟨⟨_,rfl⟩,rfl⟩ (fun d hd τ M' hI R0 R h1 h2=>?_) (fun τ M' hI=>?_)⟩
    ·obtain⟨⟨x,rfl⟩,rfl⟩:=hI;obtain⟨j,hj,rfl⟩:=sC hd;simp only[DO]at h1 h2 ⊢;obtain⟨gx,IQ,g0,g1⟩:=kM.at hj;have hg:sN os (.int (j:Nat))=gx:=xP IQ;simp! only[IQ];refine⟨by omega,by omega,eS (fun h=>?_) (fun h=>?_)⟩
     ·rw[hg]at h1;exact h1 h _ _ ⟨⟨_,rfl⟩,rfl⟩
     ·exact h2 h _ _ ⟨⟨_,rfl⟩,rfl⟩
    ·obtain⟨⟨x,rfl⟩,rfl⟩:=hI;obtain⟨gs,WR,XD,XE,WT⟩:=GA (i:=i) kM (per:=di) (by omega) (by omega)
     rw[WR];refine⟨by omega,by omega,?_⟩
     refine bz (fun f ρ M=>(∃jd,fM jd/\ρ=[some (.ptr b),some (.int (most:Nat)),some (.int (n:Nat)),some (.int (ways:Nat)),some (.int (kind:Nat)),some (.int (di:Nat)),some (bO os),some (.ptr r),some (.int (i:Nat)),some (bO gs),jd])/\iq Γ.M0 M r as n (fun j=>if j=pk then f else if ((j:Nat):Int)∈os.take i then ways else 0))
      ⟨⟨_,vf,rfl⟩,RF.Br fun j _=>by
       by_cases z:j=pk
       ·subst z;rw[if_neg UM,if_pos rfl]
       ·rw[if_neg z]⟩ (fun f d ρ M N3 hd hJ Ej=>?_) (fun ρ M hJ=>?_)
     ·obtain⟨⟨jd,vf,rfl⟩,RF⟩:=hJ;obtain⟨rfl,hf⟩:=bh hd;obtain⟨row,em,ro⟩:=RF.rows pk _ S7;rw[if_pos rfl]at ro;simp! only[rV,RF.rm,WQ,em];refine⟨b,_,rfl,RF.own.kp _ _ hb,by omega,by omega,fun t ht=>?_⟩
      have S8:t<gs.length :=by omega
      simp only[show cy (gs.map Dv.int) (t:Int)=some (.int gs[t]) from cf (by rw[br,ap S8];rfl),em,ci,ro.1]
      have WU:=WT _ (u8 S8);have er:row.map Dv.int++[Dv.int gs[t]]=(row++[gs[t]]).map Dv.int :=by rw[zn];rfl
      rw[er];refine⟨by omega,Ej _ _ ⟨⟨_,.int _,rfl⟩,(RF.set S7 (row:=row++[gs[t]]) (m:=f+1) ⟨by rw[wb,ro.1];rfl,fun y hy=>?_⟩).Br fun j _=>?_⟩⟩
      ·rcases wv.mp hy with z|z
       ·exact ro.2 y z
       ·rw[lp.mp z];exact WU
      ·by_cases z:j=pk
       ·rw[if_pos z,if_pos z]
       ·rw[if_neg z,if_neg z,if_neg z]
     ·obtain⟨⟨jd,vf,rfl⟩,RF⟩:=hJ;rw[rangeD_len]at RF;refine my _ _ ⟨_,_,_,⟨.int _,.lI gs,vf⟩,rfl,RF.Br fun j _=>?_⟩
      have tW:((j:Nat):Int)∈os.take (i+1) ↔ ((j:Nat):Int)∈os.take i\/j=pk :=by
       rw[List.take_add_one,wv,ap jc,Pw];constructor
       ·rintro (z|z)
        ·exact .inl z
        ·have:((j:Nat):Int)=(pk:Nat) :=by simpa using z
         exact .inr (by omega)
       ·rintro (z|z)
        ·exact .inl z
        ·exact .inr (by simp[z])
      by_cases z:j=pk
      ·rw[if_pos z,if_pos (tW.mpr (.inr z))]
      ·rw[if_neg z];by_cases y:((j:Nat):Int)∈os.take i
       ·rw[if_pos y,if_pos (tW.mpr (.inl y))]
       ·rw[if_neg y,if_neg (fun q=>(tW.mp q).elim y z)]
   ·obtain⟨x8,x9,jd,⟨p8,p9,vf⟩,rfl,RF⟩:=hJ;rw[rangeD_len]at RF;refine hN _ _ ⟨r,as,os,_,_,_,⟨p8,p9,vf⟩,rfl,RF.full fun j hj=>?_,kM⟩
    rw[LG (by omega),if_pos (kM.perm.mem_iff.mpr (on.mpr ⟨j,Me.mpr hj,rfl⟩))]
 rintro ρ M ⟨r,as,os,x8,x9,jd,⟨p8,p9,vf⟩,rfl,RM,kM⟩;have CW:=kM.len;have Py:∀{as:List ac} {M:Mh} {p:Nat},fW Γ.M0 M r as n ways->p<n->∃a,cy (as.map Dv.ptr) ((p:Nat):Int)=some (.ptr a)/\a∈as:=fun {as M p} RM hp=>by
  have hl:p<as.length :=by rw[RM.len];exact hp
  exact⟨as[p],cf (by rw[br,ap hl];rfl),u8 hl⟩
 refine IC (fun ρ M=>∃(as:List ac) (x8:Option Dv),fM x8/\ρ=[some (.ptr b),some (.int (most:Nat)),some (.int (n:Nat)),some (.int (ways:Nat)),some (.int (kind:Nat)),some (.int (di:Nat)),some (bO os),some (.ptr r),x8,x9,jd]/\fW Γ.M0 M r as n ways) (fun N hN=>?_) ?_
 ·simp! only[];refine eS (fun h=>⟨by omega,by omega,?_⟩) (fun _=>hN _ _ ⟨as,_,p8,rfl,RM⟩)
  refine bz (fun i ρ M=>∃(as:List ac) (x8:Option Dv),fM x8/\ρ=[some (.ptr b),some (.int (most:Nat)),some (.int (n:Nat)),some (.int (ways:Nat)),some (.int (kind:Nat)),some (.int (di:Nat)),some (bO os),some (.ptr r),x8,x9,jd]/\fW Γ.M0 M r as n ways) ⟨as,_,p8,rfl,RM⟩ (fun i d ρ M N2 hd hJ my=>?_) (fun ρ M hJ=>hN _ _ hJ)
  obtain⟨as,x8,p8,rfl,RM⟩:=hJ;obtain⟨rfl,hi⟩:=bh hd;obtain⟨p,hp,pn⟩:=kM.prev hi;obtain⟨g,hg,g0,g1⟩:=kM.at hi;obtain⟨a,ea,ha⟩:=Py RM pn;obtain⟨row,em,ro⟩:=RM.row a ha;simp! only[hg,hp,RM.rm,ea];refine⟨b,_,rfl,RM.kp _ _ hb,by omega,by omega,fun t ht=>?_⟩
  simp only[em,ci,ro.1,mB (show t<ways by omega)]
  rw[xO];exact my _ _ ⟨as,_,.int _,rfl,RM.wC ha (ro.set g0 g1)⟩
 rintro ρ M ⟨as,x8,p8,rfl,RM⟩;refine IC (fun ρ M=>∃(as:List ac) (x8:Option Dv),fM x8/\ρ=[some (.ptr b),some (.int (most:Nat)),some (.int (n:Nat)),some (.int (ways:Nat)),some (.int (kind:Nat)),some (.int (di:Nat)),some (bO os),some (.ptr r),x8,x9,jd]/\fW Γ.M0 M r as n ways) (fun N hN=>?_) ?_
 ·simp! only[];refine eS (fun h=>⟨by omega,by omega,?_⟩) (fun _=>hN _ _ ⟨as,_,p8,rfl,RM⟩)
  refine bz (fun i ρ M=>∃(as:List ac) (x8:Option Dv),fM x8/\ρ=[some (.ptr b),some (.int (most:Nat)),some (.int (n:Nat)),some (.int (ways:Nat)),some (.int (kind:Nat)),some (.int (di:Nat)),some (bO os),some (.ptr r),x8,x9,jd]/\fW Γ.M0 M r as n ways) ⟨as,_,p8,rfl,RM⟩ (fun i d ρ M N2 hd hJ my=>?_) (fun ρ M hJ=>?_)
  ·obtain⟨as,x8,p8,rfl,RM⟩:=hJ;obtain⟨rfl,hi⟩:=bh hd;obtain⟨p,hp,pn⟩:=kM.prev hi;obtain⟨g,hg,g0,g1⟩:=kM.at hi;simp! only[hg,hp];refine⟨by omega,⟨by omega,by omega,by omega⟩,fun a zy=>?_⟩
   have nr:r≠a:=fun z=>by rw[<- z,RM.rm]at zy;cases zy
   rw[KC];simp only[aj nr,RM.rm,ci,RM.len,mB pn];exact my _ _ ⟨_,_,.int _,rfl,RM.put zy ⟨by rw[Fa],fun x hx=>by rw[List.eq_of_mem_replicate hx];exact⟨g0,g1⟩⟩ pn⟩
  ·obtain⟨as,x8,p8,rfl,RM⟩:=hJ;obtain⟨a,ea,ha⟩:=Py RM (p:=0) (by omega)
   have ea:cy (as.map Dv.ptr) 0=some (.ptr a):=ea;obtain⟨row,em,ro⟩:=RM.row a ha;simp! only[];refine⟨b,_,rfl,RM.kp _ _ hb,by omega,by omega,fun t ht=>?_⟩
   simp! only[RM.rm,ea,em,ro.1,show f7 ways 0=some 0 from mB (d:=0) (by omega)]
   rw[xO];exact hN _ _ ⟨as,_,p8,rfl,RM.wC ha (ro.set (by omega) (by omega))⟩
 rintro ρ M ⟨as,x8,p8,rfl,RM⟩;have nb:∀{c o},Γ.M0 c=some o->c≠r:=fun e z=>by rw[z,RM.r0]at e;cases e
 have dk:Keeps Γ.M0 (cZ M r):=fun c o e=>by rw[dq (nb e)];exact RM.kp c o e
 refine .inr ⟨r,_,rfl,RM.rm,RM.r0,⟨fun j d e=>?_,fun c o e=>?_⟩,?_⟩
 ·match j,e with
  |0,e=>cases e;exact .ptr (by rw[dk _ _ hb];rfl)
  |1,e=>cases e;exact .int _
  |2,e=>cases e;exact .int _
  |3,e=>cases e;exact .int _
  |4,e=>cases e;exact .int _
  |5,e=>cases e;exact .int _
  |6,e=>cases e;exact .lst (km _)
  |7,e=>cases e;exact .lst fun d hd=>by
                obtain⟨a,ha,rfl⟩:=on.mp hd;obtain⟨row,em,_⟩:=RM.row a ha;exact .ptr (by rw[dq (RM.fr a ha).2,em];rfl)
  |8,e=>exact p8 _ _ (i8 e)
  |9,e=>exact p9 _ _ (i8 e)
  |10,e=>exact vf _ _ (i8 e)
  |j+11,e=>exact nomatch e
 ·have nc:c≠r:=fun z=>by rw[z,eU]at e;cases e
  rw[dq nc]at e;rcases RM.pin c o e with q|q|⟨row,rfl⟩|⟨bs,rfl,q2⟩
  ·exact .inl q
  ·exact absurd q nc
  ·exact .inr (km row)
  ·refine .inr fun d hd=>?_
   obtain⟨a,ha,rfl⟩:=on.mp hd;obtain⟨h1,u,h2⟩:=q2 a ha;exact .ptr (by rw[dq h1,h2];rfl)
 ·simp! only[];refine⟨by rw[RM.len];omega,ky (acc:=[]) (fun acc τ M'=>∃rs:List (List Int),acc=rs.map eI/\(∃x,τ=[x])/\(∀row∈rs,jG n ways row)/\M'=cZ M r) ⟨[],rfl,⟨_,rfl⟩,(fun _ h=>nomatch h),rfl⟩ (fun i d acc τ M' hd _ ⟨rs,e1,⟨x,e2⟩,IU,eM⟩ R hR=>?_) (fun ys τ M' hl ⟨rs,e1,⟨x,e2⟩,IU,eM⟩=>?_)⟩
  ·subst e1 e2 eM;obtain⟨a,ha,rfl⟩:=Oj hd;have ha:=dL ha;obtain⟨row,em,ro⟩:=RM.row a ha;simp! only[dq (RM.fr a ha).2,em];refine hR _ _ _ ⟨rs++[row],by rw[zn];rfl,⟨_,rfl⟩,fun c hc=>?_,rfl⟩
   rcases wv.mp hc with z|z
   ·exact IU c z
   ·rw[lp]at z;rw[z];exact ro
  ·rw[LB]at e1;subst e1 e2 eM;have mC:rs.length=n :=by rw[ci,ci,RM.len]at hl;exact hl
   exact uT dk (Dy rs) (q rs ways ⟨by omega,by omega,w2,fun row hr=>⟨(IU row hr).1,fun g hg=>by rw[mC];exact(IU row hr).2 g hg⟩⟩ (by omega))
theorem yL:aO ["thing"] ["thing"] (ai fU):=⟨rfl,rfl,rfl,by decide +kernel,rfl,by decide +kernel,by decide +kernel⟩
theorem pK:aO ["thing","many"] ["thing","many"] (ai dJ):=⟨rfl,rfl,rfl,by decide +kernel,rfl,by decide +kernel,by decide +kernel⟩
theorem Ek:aO ["thing","many","width"] ["thing","many","width"] (ai kD):=⟨rfl,rfl,rfl,by decide +kernel,rfl,by decide +kernel,by decide +kernel⟩
theorem oE:aO ["thing","many","width"] ["thing"] (ai kG):=⟨rfl,rfl,rfl,by decide +kernel,rfl,by decide +kernel,by decide +kernel⟩
def xR (d:Dv):Bool:=(isD "int" (fun _=>none) d).isSome
def El:Dv->Bool | .int _=>true|_=>false
def gA (m:Int):Dv->Bool | .int i=>decide (0<=i) && decide (i<m)|_=>false
def Pz:cp:=fun ds M Q _=>∃d,ds=[d]/\xR d=true/\Q (.bl (El d)) M
theorem yM {f:ac}{fd:l8}(D:Df K mg "is_whole" fU ["thing"] f fd) (bl:Bl mg):FnOk P w K mg base bf 1 f fd ["thing"] (aX P w K tb Pz) :=by
 refine ez D yL (fun ds M Q E hS=>by obtain⟨d,e,_⟩:=hS;rw[e];rfl) fun A outer s E Γ ds Q' E' hP hw hK ht hr hS=>?_
 obtain⟨d,e,hk,q⟩:=hS;refine⟨_,(ao (aU (si (ax (gK (K:=K) rfl) rfl bl.isinstance_ b7 (aa (qv 0) (aa (iF (v:=.ty "int") rfl bl.int_ CG rfl) ae))) (mq (NY (ax (gK (K:=K) rfl) rfl bl.isinstance_ b7 (aa (qv 0) (aa (iF (v:=.ty "bool") rfl bl.bool_ zj rfl) ae)))))))),?_⟩
 subst e;cases d<;>first|exact⟨by decide,⟨by decide,.inl q⟩⟩|exact⟨by decide,.inl q⟩|exact nomatch hk
def PD:cp:=fun ds M Q _=>∃d m,ds=[d,.int m]/\xR d=true/\Q (.bl (gA m d)) M
theorem pL {f f1:ac}{fd bP:l8}(D:Df K mg "is_whole_below" dJ ["thing","many"] f fd) (c6:Df K mg "is_whole" fU ["thing"] f1 bP) (bl:Bl mg):FnOk P w K mg base bf 2 f fd ["thing","many"] (aX P w K tb PD) :=by
 have Bt:=yM (P:=P) (w:=w) (base:=base) (tb:=tb) c6 bl;refine ez D pK (fun ds M Q E hS=>by obtain⟨d,m,e,_⟩:=hS;rw[e];rfl) fun A outer s E Γ ds Q' E' hP hw hK ht hr hS=>?_
 obtain⟨d,m,e,hk,q⟩:=hS;refine⟨_,(ao (aU (si (aN Bt (hr.mono (by decide)) rfl c6.mg c6.fn.kp c6.bd bA hP hw hK ht XR.none (aa (qv 0) ae)) (mq (F6 A1 w6 aq (qv 0) (qv 1)))))),?_⟩
 subst e;refine⟨d,rfl,hk,?_⟩;cases d with
 |int i=>
  simp! only[El];refine eS (fun h=>?_) (fun h=>?_)
  ·rw[show gA m (.int i)=decide (i<m) by simp only[gA,h,Yu]]at q
   exact .inl q
  ·rw[show gA m (.int i)=false by simp only[gA,h,WF]]at q
   exact .inl q
 |_=>exact .inl q
def iO (m:Int) (w:Nat):Dv->Bool | .tup ds=>decide (ds.length=w) && ds.all (gA m)|_=>false
def GB:Dv->Bool | .tup ds=>ds.all xR|d=>xR d
def PF:cp:=fun ds M Q _=>∃d m w,ds=[d,.int m,.int (w:Nat)]/\GB d=true/\Q (.bl (iO m w d)) M
theorem Em {f f1 f2:ac}{fd bP fd2:l8}{m5 aR:ac}(D:Df K mg "is_row" kD ["thing","many","width"] f fd) (iP:zk base fd m5 aR) (hp:aR∈tb) (dX:∃bm ob,Yj base mainGlobals mg bm ob)
  (bQ:Df K mg "is_whole_below" dJ ["thing","many"] f1 bP) (c6:Df K mg "is_whole" fU ["thing"] f2 fd2) (bl:Bl mg):FnOk P w K mg base bf 4 f fd ["thing","many","width"] (aX P w K tb PF) :=by
 have qJ:=pL (P:=P) (w:=w) (base:=base) (tb:=tb) bQ c6 bl;refine ez D Ek (fun ds M Q E hS=>by obtain⟨d,m,n,e,_⟩:=hS;rw[e];rfl) fun A outer s E Γ ds Q' E' hP hw hK ht hr hS=>?_
 obtain⟨d,m,n,e,hk,q⟩:=hS;have Bu:aR∈Γ.tb:=ht▸hp;refine⟨_,(ah (dM (QW.pt (pf (fJ (ej (ax (gK (K:=K) rfl) rfl bl.isinstance_ b7 (aa (qv 0) (aa (iF (v:=.ty "tuple") rfl bl.tuple_ gI rfl) ae))))) (og (bU N6 (ax (b8 (K:=K) rfl hK) rfl bl.len_ r9 (aa (qv 0) ae)) (qv 2) (bV _)))))
   (ao (aU lg))
   qss_nil)
  (ao (aU (Dx (k:=2) (N':=["goal","many"]) (tn:=1) (idx:=[1]) Bu (hr.mono (by decide)) rfl (show aH ["thing","many","width"] (ai kD) _ ["goal","many"] 1 [1] from by decide +kernel) rfl rfl iP.code iP.hd dX rfl bl.all_ (ke (K:=K) rfl (qv 0)) (fun _ _ _ _ _ _ _ hr=>(aJ (i:=0) (show Cf [("goal" : bn),("many" : bn)] from by decide +kernel) rfl (mT rfl))) (fun _ _ _ _ _ _ _ hr=>cm) (fun _ _ _ _ _ _ _ hr=>(aN qJ (hr.mono (by decide)) rfl bQ.mg bQ.fn.kp bQ.bd bA hP hw hK ht XR.none (aa (qv 0) (aa (qv 1) ae)))))))),?_⟩
 subst e;cases d with
 |tup es=>
  refine⟨by decide,eS (c := !decide ((es.length:Int)=(n:Nat))) (fun h=>?_) (fun h=>?_)⟩
  ·rw[show iO m n (.tup es)=false by simp at h;simp[iO];intro z;omega]at q
   exact .inl q
  ·rw[show iO m n (.tup es)=es.all (gA m) by simp at h;simp[iO,show es.length=n by omega]]at q
   refine tL (gA m) (fun τ=>∃x,τ=[x,some (.int m)]) ⟨none,rfl⟩ (fun d hd τ ⟨x,e⟩ R hR=>?_) (.inl q)
   subst e;exact⟨d,m,rfl,wn.mp hk d hd,hR _ ⟨_,rfl⟩⟩
 |_=>first|exact⟨by decide,.inl q⟩|exact nomatch hk
def kN:Dv->Bool | .tup rs=>decide (1<=rs.length/\rs.length<=9) && (rs.all (iO rs.length 2) || rs.all (iO rs.length 3))|_=>false
def Bv:Dv->Bool | .tup rs=>rs.all GB|d=>xR d
def PH:cp:=fun ds M Q _=>∃d,ds=[d]/\Bv d=true/\Q (.bl (kN d)) M
theorem En {f f1 f2 f3:ac}{fd bP fd2 oF:l8}{m5 aR xS aZ:ac}(D:Df K mg "is_net" kG ["thing"] f fd) (m6:zk base fd xS aZ) (S6:aZ∈tb) (gP:Df K mg "is_row" kD ["thing","many","width"] f3 oF) (iP:zk base oF m5 aR) (hp:aR∈tb) (dX:∃bm ob,Yj base mainGlobals mg bm ob)
  (bQ:Df K mg "is_whole_below" dJ ["thing","many"] f1 bP) (c6:Df K mg "is_whole" fU ["thing"] f2 fd2) (bl:Bl mg) {tk:YJ} (iQ:mg "MOST_PLACES" = some (.int 9 tk)):FnOk P w K mg base bf 6 f fd ["thing"] (aX P w K tb PH) :=by
 have GC:=Em (P:=P) (w:=w) (tb:=tb) gP iP hp dX bQ c6 bl;refine ez D oE (fun ds M Q E hS=>by obtain⟨d,e,_⟩:=hS;rw[e];rfl) fun A outer s E Γ ds Q' E' hP hw hK ht hr hS=>?_
 obtain⟨d,e,hk,q⟩:=hS;have m7:aZ∈Γ.tb:=ht▸S6;refine⟨_,(ah (dM (QW.pt (pf (fJ (ej (ax (gK (K:=K) rfl) rfl bl.isinstance_ b7 (aa (qv 0) (aa (iF (v:=.ty "tuple") rfl bl.tuple_ gI rfl) ae))))) (og (fJ (F7 A1 A1 aq (ax (b8 (K:=K) rfl hK) rfl bl.len_ r9 (aa (qv 0) ae)) (F4 (i:=9) rfl iQ ⟨_,rfl⟩))))))
   (ao (aU lg))
   qss_nil)
  (ah (aI (i:=1) oE.nd rfl (FF rfl) (ax (b8 (K:=K) rfl hK) rfl bl.len_ r9 (aa (qv 0) ae)))
  (ah (cM sK rfl (ke (K:=K) rfl (sj (aa aq (aa aq ae)))) (fun iD eP ew eK et=>by have hP:=hP.trans eP.symm;have hw:=hw.trans ew.symm;have hK:=hK.trans eK.symm;have ht:=ht.trans et.symm;have m7:=et.symm▸m7;exact⟨(aJ (i:=2) oE.nd rfl (FF rfl)),(ao (dM (ej (Dx (k:=4) (N':=["row","many","width"]) (tn:=1) (idx:=[1,2]) m7 (hr.mono (by decide)) rfl (show aH ["thing","many","width"] (ai kG) _ ["row","many","width"] 1 [1,2] from by decide +kernel) rfl rfl m6.code m6.hd dX rfl bl.all_ (ke (K:=K) rfl (qv 0)) (fun _ _ _ _ _ _ _ hr=>(aJ (i:=0) (show Cf [("row" : bn),("many" : bn),("width" : bn)] from by decide +kernel) rfl (mT rfl))) (fun _ _ _ _ _ _ _ hr=>cm) (fun _ _ _ _ _ _ _ hr=>(aN GC (hr.mono (by decide)) rfl gP.mg gP.fn.kp gP.bd bA hP hw hK ht XR.none (aa (qv 0) (aa (qv 1) (aa (qv 2) ae)))))))
   (ao (aU lg))
   qss_nil))⟩))
  (ao (aU lg))))),?_⟩
 subst e;cases d with
 |tup rs=>
  refine⟨by decide,?_⟩
  have row:∀(n:Nat) (D:Bool->Mh->Prop),(D (rs.all (iO rs.length n)) Γ.M0)->lj (zgName 0) zNoIf (zCall PF (fun _ _=>False) (zCons (zVar 0) (zCons (zVar 1) (zCons (zVar 2) zNil)))) rs [none,some (.int rs.length),some (.int (n:Nat))] Γ.M0 D:=fun n D hD=>by
   refine tL (iO rs.length n) (fun τ=>∃x,τ=[x,some (.int rs.length),some (.int (n:Nat))]) ⟨none,rfl⟩ (fun d hd τ ⟨x,e⟩ R hR=>?_) hD
   subst e;exact⟨d,rs.length,n,rfl,wn.mp hk d hd,hR _ ⟨_,rfl⟩⟩
  simp! only[];refine eS (fun h1=>eS (fun h2=>?_) (fun h2=>⟨by decide,?_⟩)) (fun h1=>?_)
  ·rw[show kN (.tup rs)=false by simp at h1 h2;simp[kN];intro z;omega]at q
   exact .inl q
  ·have e:kN (.tup rs)=(rs.all (iO rs.length 2) || rs.all (iO rs.length 3)) :=by
    simp at h1 h2;simp only[kN];rw[decide_eq_true (by omega),Yu]
   rw[e]at q;refine row 2 _ (eS (fun z=>?_) (fun z=>row 3 _ (eS (fun z2=>?_) (fun z2=>?_))))
   ·rw[z]at q;exact .inl q
   ·rw[z,z2]at q;exact .inl q
   ·rw[z,z2]at q;exact .inl q
  ·rw[show kN (.tup rs)=false by simp at h1;simp[kN];intro z;omega]at q
   exact .inl q
 |_=>first|exact⟨by decide,.inl q⟩|exact nomatch hk
theorem yN:aO ["thing"] ["thing"] (ai jE):=⟨rfl,rfl,rfl,by decide +kernel,rfl,by decide +kernel,by decide +kernel⟩
theorem Eo {m:Int}{g:Int}(h:0<=g/\g<m):gA m (.int g)=true :=by simp[gA,h.1,h.2]
theorem KD {net:List (List Int)}{n:Nat}(o:aY net n):kN (eN net)=true :=by
 have hr:∀d∈net.map eI,iO (net.map eI).length n d=true:=fun d hd=>by
  obtain⟨r,hr,rfl⟩:=on.mp hd;obtain⟨h1,h2⟩:=o.row r hr;simp only[iO,ci];rw[decide_eq_true h1,Yu,wn];intro d hd;obtain⟨g,hg,rfl⟩:=on.mp hd;exact Eo (h2 g hg)
 have ho:=o.one;have hn:=o.nine;simp only[kN,eN];rw[decide_eq_true (by rw[ci];omega),Yu]
 have ha:=wn.mpr hr;rcases o.wid with rfl|rfl
 ·rw[ha];rfl
 ·rw[ha,Bool.or_true]
theorem KG (net:List (List Int)):Bv (eN net)=true :=by
 simp only[Bv,eN];rw[wn];intro d hd;obtain⟨r,_,rfl⟩:=on.mp hd;simp only[GB,eI];rw[wn];intro d hd;obtain⟨g,hg,rfl⟩:=on.mp hd;rfl
def IV (C:ac):cp:=fun ds M Q E=>∃d,ds=[d]/\Bv d=true/\(kN d=true->Q .au M)/\(kN d=false->E C M)
theorem yO {f f1:ac}{fd bP:l8}{C0 C_NoNet:ac}{cs:List ac}(D:Df K mg "need_net" jE ["thing"] f fd) (gQ:Df K mg "is_net" kG ["thing"] f1 bP) (qK:FnOk P w K mg base bf 6 f1 bP ["thing"] (aX P w K tb PH))
  (X_:tF K C0 cs) (jQ:C_NoNet∈cs) (jR:mg "NoNet" = some (.ref C_NoNet)):FnOk P w K mg base (fq P w) 7 f fd ["thing"] (aX P w K tb (IV C_NoNet)) :=by
 refine sx D yN (fun ds M Q E hS=>by obtain⟨d,e,_⟩:=hS;rw[e];rfl) fun A outer s E Γ ds Q' E' hP hw hK ht hE hr hS=>?_
 obtain⟨d,e,hk,q1,q2⟩:=hS;refine⟨_,(ao (dM (fJ (ej (aN qK (hr.mono (by decide)) rfl gQ.mg gQ.fn.kp gQ.bd bA hP hw hK ht XR.none (aa (qv 0) ae))))
   (ao (xf (X_.ex _ jQ) PySem.F.excBase_ValueError rfl CT hE rfl jR (aa mn ae)))
   qss_nil)),?_⟩
 subst e;simp! only[];refine⟨d,rfl,hk,eS (fun h=>?_) (fun h=>?_)⟩
 ·exact⟨by decide,q2 (by simpa using h)⟩
 ·exact .inl (q1 (by simpa using h))
end
section
theorem vg {κ:Type} [DecidableEq κ] {step:κ->Nat->κ}{k:κ}{w:bn}{st:List κ×List bn}:∀{n a:Nat},a<n->step k a∈(visit step k w n st).1
 |n+1,a,h=>by
          rw[ib];obtain⟨ks,ws,h1,_⟩:=va step k w (visit step k w n st) n;by_cases e:a=n
          ·subst e;unfold iN;split
           ·assumption
           ·exact f8 _ (lp.mpr rfl)
          ·rw[h1];exact u7 _ (vg (by omega))
theorem sO {κ:Type} [DecidableEq κ] {step:κ->Nat->κ}{k:κ}{w:bn}{st:List κ×List bn}:∀{n:Nat}{x:κ},x∈(visit step k w n st).1->x∈st.1\/∃a,a<n/\x=step k a
 |0,x,h=>.inl h
 |n+1,x,h=>by
          rw[ib]at h;have h2:x∈(visit step k w n st).1\/x=step k n :=by
           unfold iN at h;split at h
           ·exact .inl h
           ·exact(wv.mp h).imp id lp.mp
          rcases h2 with h2|h2
          ·exact(sO h2).imp id fun⟨a,ha,e⟩=>⟨a,by omega,e⟩
          ·exact .inr ⟨n,by omega,h2⟩
theorem Aa {κ:Type} [DecidableEq κ] {U:List κ}{step:κ->Nat->κ}{n most:Nat}{R:κ->Prop}(hs:∀k∈U,∀a,a<n->step k a∈U) (hm:U.length<=most) (hR:∀k,R k->∀a,a<n->R (step k a)):∀(fuel i:Nat) (st:List κ×List bn),fv U st->U.length<fuel+i->i<=st.1.length->
  (∀j k,st.1[j]?=some k->j<i->∀a,a<n->step k a∈st.1)->(∀k∈st.1,R k)->
  (∀k∈st.1,k∈(kz step n most fuel i st).1)/\(∀k∈(kz step n most fuel i st).1,R k/\∀a,a<n->step k a∈(kz step n most fuel i st).1)
 |0,i,st,ok,hf,hi,hc,hr=>by have:=ok.le;omega
 |fuel+1,i,st,ok,hf,hi,hc,hr=>by
          have hle:=ok.le;have hlen:=ok.len;by_cases aT:i<st.1.length
          ·have h1:=ap aT;have h2:=ap (show i<st.2.length by omega)
           have tW:st.1[i]∈st.1:=u8 aT;rw[D1 h1 h2 (by omega)]
           obtain⟨ks,ws,g1,g2⟩:=jD step st.1[i] (st.2[i]'(by omega)) n st
           have sub:∀x∈st.1,x∈(visit step st.1[i] (st.2[i]'(by omega)) n st).1:=fun x hx=>by rw[g1];exact u7 _ hx
           obtain⟨r1,r2⟩:=Aa hs hm hR fuel (i+1) (visit step st.1[i] (st.2[i]'(by omega)) n st) (ok.visit h2 fun a ha=>hs _ (ok.sub _ tW) a ha) (by omega) (by rw[g1,wb];omega) (fun j k hj XF a ha=>by
            rw[g1,ut (by omega)]at hj
            by_cases e:j=i
            ·subst e;rw[h1]at hj;cases hj;exact vg ha
            ·exact sub _ (hc j k hj (by omega) a ha)) (fun k hk=>by
            rcases sO hk with z|⟨a,ha,rfl⟩
            ·exact hr k z
            ·exact hR _ (hr _ tW) a ha)
           exact⟨fun k hk=>r1 k (sub k hk),r2⟩
          ·have e:kz step n most (fuel+1) i st=st :=by
            unfold kz;rw[wP (by omega)]
           rw[e];exact⟨fun k hk=>hk,fun k hk=>⟨hr k hk,fun a ha=>by
            obtain⟨j,hj⟩:=mo.mp hk;exact hc j k hj (by have:=(bv.mp hj).1;omega) a ha⟩⟩
end
section
inductive ir (net:List (List Int)) (n:Nat) (s:Int):Int->Prop where
 |base:ir net n s s
 |step {p:Int} {a:Nat} (h:ir net n s p) (ha:a<n):ir net n s (fw net p a)
theorem ir.trans {net:List (List Int)}{n:Nat}{s p q:Int}(h:ir net n s p) (h2:ir net n p q):ir net n s q :=by
 induction h2 with
 |base=>exact h
 |step _ ha ih=>exact ih.step ha
theorem sP {net:List (List Int)}{n:Nat}(O:aY net n) {s p:Int}(hs:s∈ay net) (h:ir net n s p):p∈ay net :=by
 induction h with
 |base=>exact hs
 |step _ ha ih=>exact gO O ih ha
theorem places_len {net:List (List Int)}:(ay net).length=net.length :=by simp[ay]
theorem vh {net:List (List Int)}:(ay net).Nodup :=by
 unfold ay;refine List.Pairwise.map _ (fun a b h=>?_) List.nodup_range
 intro e;exact h (Int.ofNat.inj e)
theorem Ep {net:List (List Int)}:(ay net).Pairwise (·<=·) :=by
 unfold ay;refine List.Pairwise.map _ (fun a b h=>?_) (List.pairwise_lt_range (n:=net.length))
 show (a:Int)<=b;omega
theorem tX {net:List (List Int)}{n:Nat}(O:aY net n) {s:Int}(hs:s∈ay net):fv (ay net) (jq net n s):=
 bfs_ok (fun _ hk _ ha=>gO O hk ha) _ _ _ (oA hs)
theorem pI {net:List (List Int)}{n:Nat}(O:aY net n) {s p:Int}(hs:s∈ay net):p∈(jq net n s).1 ↔ ir net n s p :=by
 have hl:=places_len (net:=net);have h9:=O.nine;obtain⟨h1,h2⟩:=Aa (U:=ay net) (step:=fw net) (n:=n) (most:=511) (R:=ir net n s) (fun _ hk _ ha=>gO O hk ha) (by omega) (fun k hk a ha=>hk.step ha) (net.length+1) 0 ([s],[""]) (oA hs) (by omega) (xb _) (fun j k _ hj=>absurd hj (X1 _)) (fun k hk=>by rw[lp.mp hk];exact .base)
 constructor
 ·exact fun h=>(h2 p h).1
 ·intro h;induction h with
  |base=>exact h1 s (lp.mpr rfl)
  |step _ ha ih=>exact(h2 _ ih).2 _ ha
def vP (net:List (List Int)) (n:Nat) (a b:Int):Prop:=ir net n a b/\ir net n b a
noncomputable instance {net:List (List Int)} {n:Nat} {a b:Int}:Decidable (ir net n a b):=OE _
noncomputable instance {net:List (List Int)} {n:Nat} {a b:Int}:Decidable (vP net n a b):=OE _
noncomputable def gR (net:List (List Int)) (n:Nat) (a:Int):List Int:=(ay net).filter fun b=>decide (vP net n a b)
def m8 (net:List (List Int)) (n:Nat) (a:Int):Prop:=∀b∈gR net n a,a<=b
noncomputable instance {net:List (List Int)} {n:Nat} {a:Int}:Decidable (m8 net n a):=OE _
noncomputable def dS (net:List (List Int)) (n i:Nat):List Int:=((ay net).take i).filter fun a=>decide (m8 net n a)
noncomputable def dj (net:List (List Int)) (n:Nat):List (List Int):=(dS net n net.length).map (gR net n)
theorem jS {net:List (List Int)}{n:Nat}{a b:Int}:b∈gR net n a ↔ b∈ay net/\vP net n a b :=by
 unfold gR;rw[Nl,decide_eq_true_eq]
theorem m9 {net:List (List Int)}{n:Nat}{a:Int}(h:a∈ay net):a∈gR net n a:=jS.mpr ⟨h,.base,.base⟩
theorem xT {net:List (List Int)}{n:Nat}{a:Int}:(gR net n a).Pairwise (·<=·):=Ep.filter _
theorem KH {net:List (List Int)}{n:Nat}{a:Int}:(gR net n a).length<=net.length:=wr (YI _ _) (Ye places_len)
def gG (net:List (List Int)) (n:Nat) (p:Int):List Int:=(jq net n p).1.filter fun g=>decide (p∈(jq net n g).1)
theorem kO {net:List (List Int)}{n:Nat}(O:aY net n) {p g:Int}(hp:p∈ay net):g∈gG net n p ↔ g∈gR net n p :=by
 unfold gG;rw[Nl,decide_eq_true_eq,jS,pI O hp];constructor
 ·rintro⟨h1,h2⟩;have hg:=sP O hp h1;exact⟨hg,h1,(pI O hg).mp h2⟩
 ·rintro⟨hg,h1,h2⟩;exact⟨h1,(pI O hg).mpr h2⟩
theorem vi {net:List (List Int)}{n:Nat}(O:aY net n) {p:Int}(hp:p∈ay net):(gR net n p).Perm (gG net n p):=
 (List.perm_ext_iff_of_nodup (vh.filter _) ((tX O hp).nd.filter _)).mpr fun q=>(kO O hp).symm
theorem Er {net:List (List Int)}{n:Nat}(O:aY net n) {p:Int}(hp:p∈ay net):sortI (gG net n p)=gR net n p:=(wH (vi O hp) xT).symm
theorem GD {net:List (List Int)}{n:Nat}(O:aY net n) {p:Int}(hp:p∈ay net):(gG net n p).length<=9 :=by
 rw[<- (vi O hp).length_eq];exact wr KH O.nine
theorem GF {net:List (List Int)}{n:Nat}(O:aY net n) {p m:Int}(hp:p∈ay net) (hm:m∈gG net n p) (h:∀a∈gG net n p,m<=a):p=m ↔ m8 net n p :=by
 constructor
 ·rintro rfl b hb;exact h b ((kO O hp).mpr hb)
 ·intro hh;have h1:=hh m ((kO O hp).mp hm);have h2:=h p ((kO O hp).mpr (m9 hp));omega
theorem cls_cons {net:List (List Int)}{n:Nat}{a:Int}(h:a∈ay net):∃v t,gR net n a=v::t/\(v=a ↔ m8 net n a) :=by
 cases e:gR net n a with
 |nil=>have:=m9 (n:=n) h;rw[e]at this;cases this
 |cons v t=>
  refine⟨v,t,rfl,?_⟩;have pw:=xT (net:=net) (n:=n) (a:=a);rw[e,List.pairwise_cons]at pw;constructor
  ·intro ev b hb;subst ev;rw[e]at hb;rcases kw.mp hb with rfl|hb
   ·exact Y6 _
   ·exact pw.1 b hb
  ·intro hh;have h1:=hh v (by rw[e];exact ma)
   have hs:=m9 (n:=n) h;rw[e]at hs;rcases kw.mp hs with rfl|hs
   ·rfl
   ·have:=pw.1 _ hs;omega
theorem qf {net:List (List Int)}{n i:Nat}(hi:i<net.length):dS net n (i+1)=if m8 net n (i:Int) then dS net n i++[(i:Int)] else dS net n i :=by
 have e:(ay net).take (i+1)=(ay net).take i++[(i:Int)] :=by
  have:(ay net)[i]?=some (i:Int) :=by unfold ay;rw[br,xw hi];rfl
  rw[XJ,this];rfl
 unfold dS;rw[e,List.filter_append];by_cases h:m8 net n (i:Int)
 ·rw[if_pos h,SI,if_pos (decide_eq_true h)];rfl
 ·rw[if_neg h,SI,if_neg (by simpa using h)];simp
theorem sQ {net:List (List Int)}{n i:Nat}:(dS net n i).length<=net.length:=wr (YI _ _) (wr (List.length_take_le' ..) (Ye places_len))
theorem fg {net:List (List Int)}{i:Nat}(h:i<net.length):((i:Nat):Int)∈ay net:=a8.mpr ⟨by omega,by omega⟩
def bE (rs:List (List Bool)) (i j:Nat):Bool:=(rs.getD i []).getD j false
def setB (rs:List (List Bool)) (i j:Nat) (b:Bool):List (List Bool):=rs.set i ((rs.getD i []).set j b)
structure je (m:Nat) (rs:List (List Bool)):Prop where
 len:rs.length=m
 row:∀(i:Nat) (r:List Bool),rs[i]?=some r->r.length=m
theorem je.get {m:Nat}{rs:List (List Bool)}(o:je m rs) {i:Nat}(hi:i<m):∃r,rs[i]?=some r/\r.length=m/\rs.getD i []=r :=by
 have h:=ap (show i<rs.length by rw[o.len];exact hi)
 exact⟨_,h,o.row _ _ h,by rw[cr,h];rfl⟩
theorem je.set {m:Nat}{rs:List (List Bool)}(o:je m rs) {i j:Nat}{b:Bool}(hi:i<m):je m (setB rs i j b) :=by
 obtain⟨r,h1,h2,h3⟩:=o.get hi;refine⟨by unfold setB;rw[Lu];exact o.len,fun k s hs=>?_⟩
 unfold setB at hs;rw[h3,Ll]at hs;split at hs
 ·split at hs
  ·cases hs;rw[Lu];exact h2
  ·cases hs
 ·exact o.row _ _ hs
theorem GH {m:Nat}{rs:List (List Bool)}(o:je m rs) {i j k l:Nat}{b:Bool}(hi:i<m) (hj:j<m):bE (setB rs i j b) k l=if k=i/\l=j then b else bE rs k l :=by
 obtain⟨r,h1,h2,h3⟩:=o.get hi;have e:(rs.set i (r.set j b)).getD k []=if i=k then r.set j b else rs.getD k [] :=by
  rw[cr,Ll];by_cases hk:i=k
  ·rw[if_pos hk,if_pos hk,if_pos (by rw[o.len];exact hi)];rfl
  ·rw[if_neg hk,if_neg hk,cr]
 have e2:(r.set j b).getD l false=if j=l then b else r.getD l false :=by
  rw[cr,Ll];by_cases hl:j=l
  ·rw[if_pos hl,if_pos hl,if_pos (by omega)];rfl
  ·rw[if_neg hl,if_neg hl,cr]
 unfold bE setB;rw[h3,e];by_cases hk:i=k
 ·subst hk;rw[if_pos rfl,e2,h3];by_cases hl:j=l
  ·rw[if_pos hl,if_pos ⟨rfl,hl.symm⟩]
  ·rw[if_neg hl,if_neg fun z=>hl z.2.symm]
 ·rw[if_neg hk,if_neg fun z=>hk z.1.symm]
def iu (mid i:Nat) (rs:List (List Bool)) (j:Nat):List (List Bool):=setB rs i j (bE rs i j || (bE rs i mid && bE rs mid j))
def qo (m mid:Nat) (rs:List (List Bool)) (i:Nat):List (List Bool):=(jp m).foldl (iu mid i) rs
def tY (m:Nat) (rs:List (List Bool)) (mid:Nat):List (List Bool):=(jp m).foldl (qo m mid) rs
def allB (m:Nat) (rs:List (List Bool)):List (List Bool):=(jp m).foldl (tY m) rs
def startB (net:List (List Int)):List (List Bool):=(jp net.length).map fun i:Nat=>(jp net.length).map fun j:Nat=>decide (i=j) || decide ((j:Int)∈net.getD i [])
def fN (net:List (List Int)):List (List Bool):=allB net.length (startB net)
structure UpB (m:Nat) (R:Nat->Nat->Prop) (rs ts:List (List Bool)):Prop where
 sq:je m ts
 up:∀i j,i<m->j<m->bE rs i j=true->bE ts i j=true
 ok:∀i j,i<m->j<m->bE ts i j=true->R i j
theorem UpB.trans {m:Nat}{R:Nat->Nat->Prop}{a b c:List (List Bool)}(x:UpB m R a b) (y:UpB m R b c):UpB m R a c:=⟨y.sq,fun i j hi hj h=>y.up i j hi hj (x.up i j hi hj h),y.ok⟩
theorem KI {m mid i j:Nat}{R:Nat->Nat->Prop}(hR:∀a b c,R a b->R b c->R a c) {rs:List (List Bool)}(hm:mid<m) (hi:i<m) (hj:j<m) (o:je m rs) (ok:∀i j,i<m->j<m->bE rs i j=true->R i j) :
  UpB m R rs (iu mid i rs j)/\(bE rs i mid=true->bE rs mid j=true->bE (iu mid i rs j) i j=true) :=by
 have g:=fun k l=>GH (k:=k) (l:=l) (b:=bE rs i j || (bE rs i mid && bE rs mid j)) o hi hj
 refine⟨⟨o.set hi,fun k l hk hl h=>?_,fun k l hk hl h=>?_⟩,fun h1 h2=>?_⟩
 ·unfold iu;rw[g];split
  ·rename_i q;obtain⟨rfl,rfl⟩:=q;rw[h];rfl
  ·exact h
 ·unfold iu at h;rw[g]at h;split at h
  ·rename_i q;obtain⟨rfl,rfl⟩:=q;rw[X2,EO]at h;rcases h with h|⟨h1,h2⟩
   ·exact ok _ _ hk hl h
   ·exact hR _ _ _ (ok _ _ hk hm h1) (ok _ _ hm hl h2)
  ·exact ok _ _ hk hl h
 ·unfold iu;rw[g,if_pos ⟨rfl,rfl⟩,h1,h2];simp
theorem fold_succ {α:Type}(f:α->Nat->α) (a:α) (k:Nat):(jp (k+1)).foldl f a=f ((jp k).foldl f a) k :=by rw[YU,Zz];rfl
theorem Es {m mid i:Nat}{R:Nat->Nat->Prop}(hR:∀a b c,R a b->R b c->R a c) {rs:List (List Bool)}(hm:mid<m) (hi:i<m) (o:je m rs) (ok:∀i j,i<m->j<m->bE rs i j=true->R i j):∀k,k<=m->
  UpB m R rs ((jp k).foldl (iu mid i) rs)/\∀j,j<k->bE rs i mid=true->bE rs mid j=true->bE ((jp k).foldl (iu mid i) rs) i j=true
 |0,_=>⟨⟨o,fun _ _ _ _ h=>h,ok⟩,fun j h=>absurd h (X1 _)⟩
 |k+1,hk=>by
          obtain⟨u,h⟩:=Es hR hm hi o ok k (by omega)
          obtain⟨u2,h2⟩:=KI (i:=i) (j:=k) hR hm hi (show k<m by omega) u.sq u.ok
          rw[fold_succ];refine⟨u.trans u2,fun j hj h3 h4=>?_⟩
          by_cases e:j=k
          ·subst e;exact h2 (u.up _ _ hi hm h3) (u.up _ _ hm (by omega) h4)
          ·exact u2.up _ _ hi (by omega) (h j (by omega) h3 h4)
theorem mid_up {m mid:Nat}{R:Nat->Nat->Prop}(hR:∀a b c,R a b->R b c->R a c) {rs:List (List Bool)}(hm:mid<m) (o:je m rs) (ok:∀i j,i<m->j<m->bE rs i j=true->R i j):∀k,k<=m->
  UpB m R rs ((jp k).foldl (qo m mid) rs)/\∀i j,i<k->j<m->bE rs i mid=true->bE rs mid j=true->bE ((jp k).foldl (qo m mid) rs) i j=true
 |0,_=>⟨⟨o,fun _ _ _ _ h=>h,ok⟩,fun i j h=>absurd h (X1 _)⟩
 |k+1,hk=>by
          obtain⟨u,h⟩:=mid_up hR hm o ok k (by omega)
          obtain⟨u2,h2⟩:=Es (i:=k) hR hm (show k<m by omega) u.sq u.ok m (c8 _)
          rw[fold_succ];refine⟨u.trans u2,fun i j hi hj h3 h4=>?_⟩
          by_cases e:i=k
          ·subst e;exact h2 j hj (u.up _ _ (by omega) hm h3) (u.up _ _ hm hj h4)
          ·exact u2.up _ _ (by omega) hj (h i j (by omega) hj h3 h4)
inductive iR (E:Nat->Nat->Prop) (m k:Nat):Nat->Nat->Prop where
 |one {i j:Nat} (h:E i j):iR E m k i j
 |two {i j l:Nat} (hl:l<k) (h1:iR E m k i l) (h2:iR E m k l j):iR E m k i j
theorem GI {E:Nat->Nat->Prop}{m k i j:Nat}(h:iR E m (k+1) i j):iR E m k i j\/(iR E m k i k/\iR E m k k j) :=by
 induction h with
 |one h=>exact .inl (.one h)
 | @two i j l hl _ _ IW IX=>
  by_cases e:l=k
  ·subst e;have a:iR E m l i l:=IW.elim id (·.1);have b:iR E m l l j:=IX.elim id (·.2);exact .inr ⟨a,b⟩
  ·have hl:l<k :=by omega
   rcases IW with a|⟨a,b⟩<;>rcases IX with c|⟨c,d⟩
   ·exact .inl (.two hl a c)
   ·exact .inr ⟨.two hl a c,d⟩
   ·exact .inr ⟨a,.two hl b c⟩
   ·exact .inr ⟨a,d⟩
theorem PJ {E:Nat->Nat->Prop}{m k:Nat}(hE:∀i j,E i j->i<m/\j<m) {i j:Nat}(h:iR E m k i j):i<m/\j<m :=by
 induction h with
 |one h=>exact hE _ _ h
 |two _ _ _ IW IX=>exact⟨IW.1,IX.2⟩
theorem Et {m:Nat}{R E:Nat->Nat->Prop}(hR:∀a b c,R a b->R b c->R a c) (hE:∀i j,E i j->i<m/\j<m) {rs:List (List Bool)}(o:je m rs) (ok:∀i j,i<m->j<m->bE rs i j=true->R i j) (st:∀i j,E i j->bE rs i j=true):∀k,k<=m->
  UpB m R rs ((jp k).foldl (tY m) rs)/\∀i j,iR E m k i j->bE ((jp k).foldl (tY m) rs) i j=true
 |0,_=>⟨⟨o,fun _ _ _ _ h=>h,ok⟩,fun i j h=>by
          cases h with
          |one h=>exact st _ _ h
          |two hl=>exact absurd hl (X1 _)⟩
 |k+1,hk=>by
          obtain⟨u,h⟩:=Et hR hE o ok st k (by omega)
          obtain⟨u2,h2⟩:=mid_up (mid:=k) hR (show k<m by omega) u.sq u.ok m (c8 _)
          rw[fold_succ];refine⟨u.trans u2,fun i j w=>?_⟩
          obtain⟨hi,hj⟩:=PJ hE w;rcases GI w with w|⟨w1,w2⟩
          ·exact u2.up _ _ hi hj (h i j w)
          ·exact h2 i j hi hj (h _ _ w1) (h _ _ w2)
theorem qM (net:List (List Int)):je net.length (startB net) :=by
 refine⟨by simp[startB],fun i r h=>?_⟩
 unfold startB at h;rw[br]at h;obtain⟨k,_,rfl⟩:=lc.mp h;simp
theorem vj {net:List (List Int)}{i j:Nat}(hi:i<net.length) (hj:j<net.length):bE (startB net) i j=(decide (i=j) || decide ((j:Int)∈net.getD i [])) :=by
 unfold bE startB;rw[cr (l:=Z5 _ _),br,xw hi];show List.getD (Z5 _ _) j false=_;rw[cr,br,xw hj];rfl
theorem oG {net:List (List Int)}{n:Nat}(O:aY net n) {i:Nat}(hi:i<net.length) {q:Int}:q∈net.getD i [] ↔ ∃a,a<n/\fw net (i:Int) a=q :=by
 have e:net.getD i []=net[i]:=getD_at hi;have hr:=(O.row _ (u8 hi)).1;have hs:∀a,a<n->fw net (i:Int) a=(net.getD i []).getD a 0:=fun a _=>by unfold fw;rw[At]
 constructor
 ·intro h;obtain⟨a,ha⟩:=mo.mp h;have hl:=(bv.mp ha).1;rw[e,hr]at hl;exact⟨a,hl,by rw[hs a hl,cr,ha];rfl⟩
 ·rintro⟨a,ha,rfl⟩;rw[hs a ha];have hl:a<(net.getD i []).length :=by rw[e,hr];exact ha
  rw[getD_at hl];exact u8 hl
theorem xU {net:List (List Int)}{n:Nat}(O:aY net n):je net.length (fN net)/\∀i j,i<net.length->j<net.length->(bE (fN net) i j=true ↔ ir net n (i:Int) (j:Int)) :=by
 let E:Nat->Nat->Prop:=fun i j=>(i<net.length/\j<net.length)/\(i=j\/(j:Int)∈net.getD i [])
 obtain⟨u,w⟩:=Et (R:=fun i j=>ir net n (i:Int) (j:Int)) (E:=E) (rs:=startB net) (fun a b c=>ir.trans) (fun i j h=>h.1) (qM net) (fun i j hi hj h=>by
   rw[vj hi hj,X2,decide_eq_true_eq,decide_eq_true_eq]at h;rcases h with rfl|h
   ·exact .base
   ·obtain⟨a,ha,e⟩:=(oG O hi).mp h;rw[<- e];exact .step .base ha) (fun i j h=>by
   rw[vj h.1.1 h.1.2,X2,decide_eq_true_eq,decide_eq_true_eq];exact h.2) net.length (c8 _)
 refine⟨u.sq,fun i j hi hj=>⟨u.ok i j hi hj,fun h=>w i j ?_⟩⟩
 have:∀q:Int,ir net n (i:Int) q->∀j:Nat,q=(j:Int)->iR E net.length net.length i j:=fun q h=>by
  induction h with
  |base=>
   intro j e;have e:i=j :=by omega
   subst e;exact .one ⟨⟨hi,hi⟩,.inl rfl⟩
  | @step p a hp ha ih=>
   intro j e;have pp:=a8.mp (sP O (fg hi) hp);have pq:=a8.mp (sP O (fg hi) (hp.step ha));obtain⟨l,rfl⟩:=BY pp.1;have hl:l<net.length :=by omega
   have hj:j<net.length :=by omega
   refine .two hl (ih l rfl) (.one ⟨⟨hl,hj⟩,.inr ?_⟩);rw[<- e];exact(oG O hl).mpr ⟨a,ha,rfl⟩
 exact this _ h j rfl
end
section
variable {P:gc}{w:i4}{K:bi}{mg:bn->Option al}{base:hX}{tb:cz}{C_NoNet:ac}
theorem kP:aO ["net","reached","told","place","part"] ["net"] (ai jP):=⟨rfl,rfl,rfl,by decide +kernel,rfl,by decide +kernel,by decide +kernel⟩
theorem pM:aO ["net"] ["net"] (ai eW):=⟨rfl,rfl,rfl,by decide +kernel,rfl,by decide +kernel,by decide +kernel⟩
theorem iZ {M0 M:Mh}(h:Keeps M0 M) {a:ac}(ha:M a=none):M0 a=none :=by
 cases e:M0 a with
 |none=>rfl
 |some u=>rw[h a u e]at ha;cases ha
structure lD (M0 M:Mh) (a:ac) (bs:List ac) (rs:List (List Int)):Prop where
 a0:M0 a=none
 am:M a=some (.lst (bs.map .ptr))
 len:bs.length=rs.length
 bm:∀(j:Nat) (b:ac) (r:List Int),bs[j]?=some b->rs[j]?=some r->M b=some (.lst (r.map .int))
 b0:∀b∈bs,M0 b=none/\b≠a
 kp:Keeps M0 M
 oth:∀c o,M c=some o->M0 c=some o\/c=a\/∃r:List Int,o=.lst (r.map .int)
theorem lD.junk {M0 M:Mh}{a c:ac}{bs:List ac}{rs:List (List Int)}{r:List Int}(h:lD M0 M a bs rs) (hc:M c=none):lD M0 (aw M c (.lst (r.map .int))) a bs rs :=by
 have ve:a≠c:=fun e=>by have:=h.am;rw[e,hc]at this;cases this
 have c0:=iZ h.kp hc;refine⟨h.a0,by rw[aj ve];exact h.am,h.len,fun j b s hb hs=>?_,h.b0,.upd c0 h.kp,fun d o e=>?_⟩
 ·have:=h.bm j b s hb hs;rw[aj (fun e=>by rw[e,hc]at this;cases this)]
  exact this
 ·by_cases z:d=c
  ·subst z;rw[updM_same]at e;cases e;exact .inr (.inr ⟨r,rfl⟩)
  ·rw[aj z]at e;exact h.oth d o e
theorem lD.snoc {M0 M:Mh}{a c:ac}{bs:List ac}{rs:List (List Int)}{r:List Int}(h:lD M0 M a bs rs) (hc:M c=none):lD M0 (aw (aw M c (.lst (r.map .int))) a (.lst (bs.map .ptr++[.ptr c]))) a (bs++[c]) (rs++[r]) :=by
 have ve:a≠c:=fun e=>by have:=h.am;rw[e,hc]at this;cases this
 have c0:=iZ h.kp hc;have hj:=h.junk (r:=r) hc;refine⟨h.a0,by rw[updM_same,zn];rfl,by simp[h.len],fun j b s hb hs=>?_,fun b hb=>?_,.upd h.a0 hj.kp,fun d o e=>?_⟩
 ·by_cases hi:j<bs.length
  ·rw[ut hi]at hb;rw[ut (by rw[<- h.len];exact hi)]at hs
   rw[aj (h.b0 b (dL hb)).2];exact hj.bm j b s hb hs
  ·have jc:=(bv.mp hb).1;rw[wb,Na]at jc;have e:j=bs.length :=by omega
   subst e;rw[wS (c8 _),W1]at hb;rw[h.len,wS (c8 _),W1]at hs;cases hb;cases hs;rw[aj (AN ve),updM_same]
 ·rcases wv.mp hb with z|z
  ·exact h.b0 b z
  ·rw[lp.mp z];exact⟨c0,AN ve⟩
 ·by_cases z:d=a
  ·exact .inr (.inl z)
  ·rw[aj z]at e;exact hj.oth d o e
theorem Bw {m j:Nat}(h:j<m):(bH 0 m)[j]?=some (.int (j:Nat)) :=by
 unfold bH;rw[br,xw h];show some (Dv.int (0+(j:Int)))=_;rw[DO]
def wF (net:List (List Int)) (n:Nat):Dv->Dv
 | .int i=>xG (jq net n i)
 |d=>d
def IY (net:List (List Int)) (n:Nat):List Dv:=(bH 0 net.length).map (wF net n)
theorem IZ {net:List (List Int)}{n:Nat}{p:Int}(h:p∈ay net):cy (IY net n) p=some (xG (jq net n p)) :=by
 obtain⟨h1,h2⟩:=a8.mp h;obtain⟨j,rfl⟩:=BY h1;refine cf ?_;unfold IY;rw[br,Bw (by omega)]
 rfl
theorem PK {net:List (List Int)}{n:Nat}{p:Int}:(((jq net n p).1.map ID).map tR).filter (fun d=>match d with | .int g=>decide (p∈(jq net n g).1)|_=>false)=(gG net n p).map Dv.int :=by
 unfold gG;rw[sB,List.filter_map];rfl
theorem GJ {S S':cp}{cx:gS}{k:Nat}{f:ac}{fd:l8}{ps:List bn}(G:FnOk P w K mg base cx k f fd ps (aX P w K tb S')) (h:∀ds M Q E,S ds M Q E->S' ds M Q E):FnOk P w K mg base cx k f fd ps (aX P w K tb S):=
 G.imp fun vs H Q E ⟨β,ds,M,Q',E',e1,e2,e3,e4,m,r,hS,q,qe⟩=>⟨β,ds,M,Q',E',e1,e2,e3,e4,m,r,h _ _ _ _ hS,q,qe⟩
def GK:cp:=fun ds M Q _=>∃net n,ds=[eN net]/\aY net n/\((∀a bs M',lD M M' a bs (dj net n)->Q (.ptr a) M')\/Q (.lst ((dj net n).map bO)) M)
theorem GL {f f1 f2:ac}{fd bP fd2:l8}(D:Df K mg "parts" jP ["net"] f fd)
  (fX:Df K mg "need_net" jE ["thing"] f1 bP) (ng:FnOk P w K mg base (fq P w) 7 f1 bP ["thing"] (aX P w K tb (IV C_NoNet)))
  (du:Df K mg "first_words" aD ["net","start"] f2 fd2) (jr:FnOk P w K mg base bf 8 f2 fd2 ["net","start"] (aX P w K tb Ef)) (bl:Bl mg) :
  FnOk P w K mg base (fq P w) 9 f fd ["net"] (aX P w K tb GK) :=by
 refine sx D kP (fun ds M Q E hS=>by obtain⟨net,n,e,_⟩:=hS;rw[e];rfl) fun A outer s E Γ ds Q' E' hP hw hK ht hE hr hS=>?_
 obtain⟨net,n,e,O,q⟩:=hS;refine⟨_,(ah (iH (aN ng (hr.mono (by decide)) rfl fX.mg fX.fn.kp fX.bd vI hP hw hK ht hE (aa (qv 0) ae)))
  (ah (aI (i:=1) kP.nd rfl (FF rfl) (cY (N':=["place","net"]) (tn:=1) (idx:=[0]) rfl (show aH ["net","reached","told","place","part"] (ai jP) _ ["place","net"] 1 [0] from by decide +kernel) (a9 rfl bl.range_ (aa (ax (b8 (K:=K) rfl hK) rfl bl.len_ r9 (aa (qv 0) ae)) ae)) (fun _ _ _ _ _=>(aJ (i:=0) (show Cf [("place" : bn),("net" : bn)] from by decide +kernel) rfl (mT rfl))) (fun _ _ _ _ _=>cm) (fun _ _ _ _ _=>(aN jr (hr.mono (by decide)) rfl du.mg du.fn.kp du.bd bA hP hw hK ht XR.none (aa (qv 1) (aa (qv 0) ae))))))
  (ah (aI (i:=2) kP.nd rfl (mT rfl) (jM ae))
  (ah (PS.ju (cM sK rfl (a9 rfl bl.range_ (aa (ax (b8 (K:=K) rfl hK) rfl bl.len_ r9 (aa (qv 0) ae)) ae)) (fun iD eP ew eK et=>by have hP:=hP.trans eP.symm;have hw:=hw.trans ew.symm;have hK:=hK.trans eK.symm;have ht:=ht.trans et.symm;exact⟨(aJ (i:=3) kP.nd rfl (FF rfl)),(ah (sA (i:=4) kP.nd rfl rfl (N':=["goal","place","reached"]) (tn:=1) (idx:=[3,1]) rfl (show aH ["net","reached","told","place","part"] (ai jP) _ ["goal","place","reached"] 1 [3,1] from by decide +kernel) (Kt (aQ (bt (K:=K) rfl) (qv 1) (qv 3) (fun _ _=>rfl))) (fun _ _ _ _ _=>(aJ (i:=0) (show Cf [("goal" : bn),("place" : bn),("reached" : bn)] from by decide +kernel) rfl (mT rfl))) (fun _ _ _ _ _=>(zJ (bU (Rk hr.units) (qv 1) (aQ (bt (K:=K) rfl) (qv 2) (qv 0) (fun _ _=>rfl)) (by rfl)))) (fun _ _ _ _ _=>(qv 0)))
  (ao (dM (bU qz (qv 3) (ax (O3 (K:=K) rfl rfl) rfl bl.min_ rW (aa (qv 4) ae)) (bV _))
   (ao (iH (lu (K:=K) rfl FM NJ NL kh (qv 2) (aa (ax (D4 hP hw (K:=K) rfl rfl) rfl bl.sorted_ CO (aa (qv 4) ae)) ae))))
   qss_nil)))⟩)))
  (ao (aU (qv 2))))))),?_⟩
 subst e;have h9:=O.nine;have big:(1000:Nat)<sizeLine :=by decide
 refine⟨_,rfl,KG net,fun _=>?_,fun h=>by rw[KD O]at h;cases h⟩
 simp! only[];refine⟨by omega,by omega,by omega,dO (wF net n) (fun τ M=>(∃x,τ=[x,some (eN net)])/\M=Γ.M0) ⟨⟨_,rfl⟩,rfl⟩ (fun d hd τ M hI R hR=>?_) (fun τ M hI=>?_)⟩
 ·obtain⟨⟨x,rfl⟩,rfl⟩:=hI;obtain⟨j,hj⟩:=mo.mp hd;obtain⟨rfl,Ja⟩:=bh hj;simp! only[];rw[DO]at hR;exact⟨net,n,_,rfl,O,fg Ja,hR _ _ ⟨⟨_,rfl⟩,rfl⟩⟩
 obtain⟨⟨x,rfl⟩,rfl⟩:=hI;refine⟨xb _,fun a ha=>⟨by omega,by omega,?_⟩⟩
 refine bz (fun i ρ M=>∃bs,(∃x3 x4,ρ=[some (eN net),some (.lst (IY net n)),some (.ptr a),x3,x4])/\lD Γ.M0 M a bs ((dS net n i).map (gR net n))/\i<=net.length) ⟨[],⟨_,_,rfl⟩,⟨ha,updM_same,rfl,(fun j b r h=>nomatch h),(fun b h=>nomatch h),.upd ha .refl,fun c o e=>?_⟩,xb _⟩ (fun i d ρ M N hd hJ hN=>?_) (fun ρ M hJ=>?_)
 ·by_cases z:c=a
  ·exact .inr (.inl z)
  ·rw[aj z]at e;exact .inl e
 ·obtain⟨bs,⟨x3,x4,rfl⟩,jf,hi⟩:=hJ;obtain⟨rfl,me⟩:=bh hd;have hp:=fg (net:=net) me;simp! only[IZ hp];show _<sizeLine/\_;have ok:=tX O hp;have hle:=ok.le;have dy:=places_len (net:=net);refine⟨by rw[ci];omega,?_⟩
  refine qE (fun d=>match d with | .int g=>decide ((i:Int)∈(jq net n g).1)|_=>false) (fun d hd R hR=>?_) ?_
  ·rw[sB]at hd;obtain⟨g,hg,rfl⟩:=on.mp hd;have S9:=sP O hp ((pI O hp).mp hg);have WV:=tX O S9;show zTest (zOp (zDIn false) (zVar 1) (zOp zIx (zVar 2) (zVar 0))) [some (.int g),some (Dv.int i),some (Dv.lst (IY net n))] M R;simp! only[IZ S9];show R (look ((jq net n g).1.map ID) ((jq net n g).2.map Dv.str) (ID (i:Int))).isSome M;rw[qG tT,WE,vb WV.len];exact hR
  ·rw[PK,ZM,de];have XG:=GD (n:=n) O hp;have Ry:(i:Int)∈gG net n i:=(kO O hp).mpr (m9 hp);have XH:bs.length<=9 :=by rw[jf.len,ci];exact wr sQ h9
   refine⟨Wp Ry,(fun t e=>nomatch e),fun m hm UN=>?_⟩
   have zb:=GF O hp hm UN;refine eS (fun h=>?_) (fun h=>?_)
   ·have h:=of_decide_eq_true h;rw[jf.am];refine⟨trivial,by show (gG net n (i:Int)).length<64;omega,fun c hc=>?_⟩
    show match aw M c (.lst ((sortI (gG net n (i:Int))).map .int)) a with|some (Mo.lst xs)=>_|_=>False
    rw[Er O hp];have ve:a≠c:=fun e=>by have:=jf.am;rw[e,hc]at this;cases this
    rw[aj ve,jf.am];refine⟨by rw[ci];omega,hN _ _ ⟨bs++[c],⟨_,_,rfl⟩,?_,me⟩⟩
    rw[qf me,if_pos (zb.mp h),zn];exact jf.snoc hc
   ·have h:=of_decide_eq_false h;refine hN _ _ ⟨bs,⟨_,_,rfl⟩,?_,me⟩;rw[qf me,if_neg fun z=>h (zb.mpr z)]
    exact jf
 ·obtain⟨bs,⟨x3,x4,rfl⟩,jf,hi⟩:=hJ;rw[rangeD_len]at jf;simp! only[];rcases q with q|q
  ·exact .inl (q a bs M jf)
  ·refine .inr ⟨jf.kp,_,.ptr (ds':=(dj net n).map bO) jf.a0 jf.am (by rw[ci,ci];exact jf.len) fun j d d' e1 e2=>?_,q⟩
   rw[br]at e1 e2;obtain⟨b,hb,rfl⟩:=lc.mp e1;obtain⟨r,hr,rfl⟩:=lc.mp e2;refine .ptr (jf.b0 b (dL hb)).1 (jf.bm j b r hb hr) rfl fun k d d' e1 e2=>?_
   rw[e1]at e2;cases e2;obtain⟨x,_,rfl⟩:=on.mp (dL e1);exact .pin (.int x)
def Ab:cp:=fun ds M Q _=>∃net n,ds=[eN net]/\aY net n/\Q (.lst ((dj net n).map bO)) M
theorem By {net:List (List Int)}{n:Nat}:(dj net n).length<=net.length :=by unfold dj;rw[ci];exact sQ
def Eu:cp:=fun ds M Q _=>∃net n,ds=[eN net]/\aY net n/\Q (.bl (decide ((dj net n).length=1))) M
theorem pN {f f1:ac}{fd bP:l8}(D:Df K mg "hangs_together" eW ["net"] f fd)
  (jT:Df K mg "parts" jP ["net"] f1 bP) (KJ:FnOk P w K mg base (fq P w) 9 f1 bP ["net"] (aX P w K tb Ab)) (bl:Bl mg) :
  FnOk P w K mg base (fq P w) 10 f fd ["net"] (aX P w K tb Eu) :=by
 refine sx D pM (fun ds M Q E hS=>by obtain⟨net,n,e,_⟩:=hS;rw[e];rfl) fun A outer s E Γ ds Q' E' hP hw hK ht hE hr hS=>?_
 obtain⟨net,n,e,O,q⟩:=hS;refine⟨_,(ao (aU (jL qz (ax (b8 (K:=K) rfl hK) rfl bl.len_ r9 (aa (aN KJ (hr.mono (by decide)) rfl jT.mg jT.fn.kp jT.bd vI hP hw hK ht hE (aa (qv 0) ae)) ae)) aq (bV _)))),?_⟩
 subst e;have h9:=O.nine;have hl:=By (net:=net) (n:=n);simp! only[];refine⟨net,n,rfl,O,?_⟩;simp! only[];rw[show decide (((dj net n).length:Int)=1)=decide ((dj net n).length=1) from decide_eq_decide.mpr (by omega)]
 exact .inl q
end
section
variable {P:gc}{w:i4}{K:bi}{mg:bn->Option al}{base:hX}{tb:cz}
theorem fh:aO ["_law_net_here","_law_reach_here","_law_middle","_law_one","_law_other"] ["_law_net_here"] (ai fK):=⟨rfl,rfl,rfl,by decide +kernel,rfl,by decide +kernel,by decide +kernel⟩
def Ew (r:List Bool):Dv:=.lst (r.map .bl)
structure RowsB (M0 M:Mh) (bs:List ac) (rs:List (List Bool)):Prop where
 len:bs.length=rs.length
 bm:∀(j:Nat) (b:ac) (r:List Bool),bs[j]?=some b->rs[j]?=some r->M b=some (.lst (r.map .bl))
 b0:∀b∈bs,M0 b=none
 nd:bs.Nodup
 kp:Keeps M0 M
structure jI (M0 M:Mh) (a:ac) (bs:List ac) (rs:List (List Bool)):Prop extends RowsB M0 M bs rs where
 a0:M0 a=none
 am:M a=some (.lst (bs.map .ptr))
 ab:a ∉ bs
theorem RowsB.has {M0 M:Mh}{bs:List ac}{rs:List (List Bool)}(h:RowsB M0 M bs rs) {b:ac}(hb:b∈bs):M b≠none:=fun e=>by
 obtain⟨j,hj⟩:=mo.mp hb;have hl:=(bv.mp hj).1;have:=h.bm j b _ hj (ap (show j<rs.length by rw[<- h.len];exact hl))
 rw[e]at this;cases this
theorem RowsB.snoc {M0 M:Mh}{c:ac}{bs:List ac}{rs:List (List Bool)}{r:List Bool}(h:RowsB M0 M bs rs) (hc:M c=none):RowsB M0 (aw M c (.lst (r.map .bl))) (bs++[c]) (rs++[r]) :=by
 have c0:=iZ h.kp hc;have cn:c ∉ bs:=fun z=>h.has z hc
 refine⟨by simp[h.len],fun j b s hb hs=>?_,fun b hb=>?_,?_,.upd c0 h.kp⟩
 ·by_cases hi:j<bs.length
  ·rw[ut hi]at hb;rw[ut (by rw[<- h.len];exact hi)]at hs
   rw[aj fun e=>cn (by rw[<- e];exact dL hb)]
   exact h.bm j b s hb hs
  ·have jc:=(bv.mp hb).1;rw[wb,Na]at jc;have e:j=bs.length :=by omega
   subst e;rw[wS (c8 _),W1]at hb;rw[h.len,wS (c8 _),W1]at hs;cases hb;cases hs;rw[updM_same]
 ·rcases wv.mp hb with z|z
  ·exact h.b0 b z
  ·rw[lp.mp z];exact c0
 ·rw[ZA];exact⟨h.nd,by simp,fun x hx y hy e=>by
   have e2:=lp.mp hy;subst e2;subst e;exact cn hx⟩
theorem RowsB.top {M0 M:Mh}{a:ac}{bs:List ac}{rs:List (List Bool)}(h:RowsB M0 M bs rs) (ha:M a=none):jI M0 (aw M a (.lst (bs.map .ptr))) a bs rs :=by
 have an:a ∉ bs:=fun z=>h.has z ha
 have a0:=iZ h.kp ha;exact⟨⟨h.len,fun j b r hb hr=>by rw[aj fun e=>an (by rw[<- e];exact dL hb)];exact h.bm j b r hb hr,h.b0,h.nd,.upd a0 h.kp⟩,a0,updM_same,an⟩
theorem jI.cell {M0 M:Mh}{a:ac}{bs:List ac}{rs:List (List Bool)}{m:Nat}(h:jI M0 M a bs rs) (o:je m rs) {i:Nat}(hi:i<m):∃b r,bs[i]?=some b/\rs[i]?=some r/\r.length=m/\M b=some (.lst (r.map .bl))/\cy (bs.map Dv.ptr) (i:Nat)=some (.ptr b)/\∀j,j<m->cy (r.map Dv.bl) (j:Nat)=some (.bl (bE rs i j)) :=by
 obtain⟨r,h1,h2,h3⟩:=o.get hi;have hb:=ap (show i<bs.length by rw[h.len,o.len];exact hi)
 refine⟨_,r,hb,h1,h2,h.bm i _ r hb h1,cf (by rw[br,hb];rfl),fun j hj=>cf ?_⟩
 unfold bE;rw[h3,br,ap (show j<r.length by omega),getD_at (by omega)]
 rfl
theorem jI.put {M0 M:Mh}{a b:ac}{bs:List ac}{rs:List (List Bool)}{i j:Nat}{r:List Bool}{v:Bool}(h:jI M0 M a bs rs) (hb:bs[i]?=some b) (hr:rs[i]?=some r):jI M0 (aw M b (.lst ((r.set j v).map .bl))) a bs (setB rs i j v) :=by
 have hm:=dL hb;have wI:a≠b:=fun e=>h.ab (e▸hm)
 have er:rs.getD i []=r :=by rw[cr,hr];rfl
 refine⟨⟨by unfold setB;rw[Lu];exact h.len,fun k c s hc hs=>?_,h.b0,h.nd,.upd (h.b0 b hm) h.kp⟩,h.a0,by rw[aj wI];exact h.am,h.ab⟩
 unfold setB at hs;rw[er,Ll]at hs;by_cases hk:i=k
 ·subst hk;rw[hb]at hc;cases hc;rw[if_pos rfl]at hs;split at hs
  ·cases hs;rw[updM_same]
  ·cases hs
 ·rw[if_neg hk]at hs;have ne:c≠b:=fun e=>by
   subst e;exact hk ((List.getElem?_inj (bv.mp hb).1 h.nd).mp (hb.trans hc.symm))
  rw[aj ne];exact h.bm k c s hc hs
def BA (net:List (List Int)) (i:Nat):Dv->Dv
 | .int j=>.bl (decide ((i:Int)=j) || decide (j∈net.getD i []))
 |d=>d
theorem KL {net:List (List Int)}{i:Nat}(hi:i<net.length):∃r,(startB net)[i]?=some r/\(bH 0 net.length).map (BA net i)=r.map Dv.bl :=by
 refine⟨(jp net.length).map fun j:Nat=>decide (i=j) || decide ((j:Int)∈net.getD i []),?_,?_⟩
 ·unfold startB;rw[br,xw hi];rfl
 ·unfold bH;rw[sB,sB];refine CS fun j _=>?_
  show Dv.bl (decide ((i:Int)=0+(j:Int)) || decide (0+(j:Int)∈net.getD i []))=_
  rw[DO,show decide ((i:Int)=(j:Int))=decide (i=j) from decide_eq_decide.mpr (by omega)]
  rfl
def Ac:cp:=fun ds M Q _=>∃net n,ds=[eN net]/\aY net n/\Q (.lst ((fN net).map Ew)) M
theorem xV {f:ac}{fd:l8}(D:Df K mg "_law_reach" fK ["_law_net_here"] f fd) (bl:Bl mg) :
  FnOk P w K mg base bf 1 f fd ["_law_net_here"] (aX P w K tb Ac) :=by
 refine ez D fh (fun ds M Q E hS=>by obtain⟨net,n,e,_⟩:=hS;rw[e];rfl) fun A outer s E Γ ds Q' E' hP hw hK ht hr hS=>?_
 obtain⟨net,n,e,O,q⟩:=hS;refine⟨_,(ah (xF (i:=1) fh.nd rfl rfl (N':=["_law_one","_law_net_here"]) (tn:=1) (idx:=[0]) rfl (show cc ["_law_net_here","_law_reach_here","_law_middle","_law_one","_law_other"] (ai fK) _ ["_law_one","_law_net_here"] 1 [0] from by decide +kernel) (a9 rfl bl.range_ (aa (ax (b8 (K:=K) rfl hK) rfl bl.len_ r9 (aa (qv 0) ae)) ae)) (fun _ _ _ _ _=>(aJ (i:=0) (show Cf [("_law_one" : bn),("_law_net_here" : bn)] from by decide +kernel) rfl (FF rfl))) (fun _ _ _ _ _=>cm) (fun _ _ _ _ _=>(xg (N':=["_law_other","_law_one","_law_net_here"]) (tn:=1) (idx:=[0,1]) rfl (aH.rel (show aH ["_law_one","_law_net_here"] _ _ ["_law_other","_law_one","_law_net_here"] 1 [0,1] from by decide +kernel)) (a9 rfl bl.range_ (aa (ax (b8 (K:=K) rfl hK) rfl bl.len_ r9 (aa (qv 1) ae)) ae)) (fun _ _ _ _ _=>(aJ (i:=0) (show Cf [("_law_other" : bn),("_law_one" : bn),("_law_net_here" : bn)] from by decide +kernel) rfl (mT rfl))) (fun _ _ _ _ _=>cm) (fun _ _ _ _ _=>(HZ (jL qz (qv 1) (qv 0) (bV _)) (mq (jL (Ga (K:=K) rfl) (qv 0) (aQ (bt (K:=K) rfl) (qv 2) (qv 1) (fun _ _=>rfl)) (by rfl))))))))
  (ah (cM sK rfl (a9 rfl bl.range_ (aa (ax (b8 (K:=K) rfl hK) rfl bl.len_ r9 (aa (qv 0) ae)) ae)) (fun iD eP ew eK et=>by have hP:=hP.trans eP.symm;have hw:=hw.trans ew.symm;have hK:=hK.trans eK.symm;have ht:=ht.trans et.symm;exact⟨(aJ (i:=2) fh.nd rfl (mT rfl)),(ao (cM sK rfl (a9 rfl bl.range_ (aa (ax (b8 (K:=K) rfl hK) rfl bl.len_ r9 (aa (qv 0) ae)) ae)) (fun iD eP ew eK et=>by have hP:=hP.trans eP.symm;have hw:=hw.trans ew.symm;have hK:=hK.trans eK.symm;have ht:=ht.trans et.symm;exact⟨(aJ (i:=3) fh.nd rfl (mT rfl)),(ao (cM sK rfl (a9 rfl bl.range_ (aa (ax (b8 (K:=K) rfl hK) rfl bl.len_ r9 (aa (qv 0) ae)) ae)) (fun iD eP ew eK et=>by have hP:=hP.trans eP.symm;have hw:=hw.trans ew.symm;have hK:=hK.trans eK.symm;have ht:=ht.trans et.symm;exact⟨(aJ (i:=4) fh.nd rfl (mT rfl)),(ao (kb (HZ (aQ (bt (K:=K) rfl) (aQ (bt (K:=K) rfl) (qv 1) (qv 3) (fun _ _=>rfl)) (qv 4) (fun _ _=>rfl)) (mq (si (aQ (bt (K:=K) rfl) (aQ (bt (K:=K) rfl) (qv 1) (qv 3) (fun _ _=>rfl)) (qv 2) (fun _ _=>rfl)) (mq (aQ (bt (K:=K) rfl) (aQ (bt (K:=K) rfl) (qv 1) (qv 2) (fun _ _=>rfl)) (qv 4) (fun _ _=>rfl)))))) (ki (aQ (bt (K:=K) rfl) (qv 1) (qv 3) (fun _ _=>rfl)) (qv 4))))⟩)))⟩)))⟩))
  (ao (aU (qv 1))))),?_⟩
 subst e;have h9:=O.nine;have big:(1000:Nat)<sizeLine :=by decide
 simp! only[];refine⟨by omega,by omega,by omega,ky (acc:=[]) (fun acc τ M=>∃bs,acc=bs.map Dv.ptr/\RowsB Γ.M0 M bs ((startB net).take acc.length)/\(∃x,τ=[x,some (eN net)])) ⟨[],rfl,⟨rfl,(fun j b r h=>nomatch h),(fun b h=>nomatch h),.nil,.refl⟩,_,rfl⟩ (fun i d acc τ M hd hl hJ R hR=>?_) (fun ys τ M hl hJ=>?_)⟩
 ·obtain⟨bs,rfl,hB,x,rfl⟩:=hJ;obtain⟨rfl,hi⟩:=bh hd;have hl:bs.length=i :=by simpa using hl
  obtain⟨r,WW,Tc⟩:=KL hi;simp! only[];refine⟨by omega,by omega,by omega,dO (BA net i) (fun τ M2=>(∃x,τ=[x,some (.int (i:Nat)),some (eN net)])/\M2=M) ⟨⟨_,rfl⟩,rfl⟩ (fun d hd τ M2 hI R2 sR=>?_) (fun τ M2 hI=>?_)⟩
  ·obtain⟨⟨x,rfl⟩,rfl⟩:=hI;obtain⟨j,hj⟩:=mo.mp hd;obtain⟨rfl,Ja⟩:=bh hj;have hx:=sJ (net:=net) (fg hi);simp! only[hx];rw[DO]at sR;refine eS (fun h=>?_) (fun h=>?_)
   ·have:=sR [some (.int (j:Nat)),some (.int (i:Nat)),some (eN net)] _ ⟨⟨_,rfl⟩,rfl⟩;rw[show BA net i (.int (j:Nat))=.bl true by show Dv.bl (decide ((i:Int)=j) || _)=_;rw[h];rfl]at this
    exact this
   ·have:=sR [some (.int (j:Nat)),some (.int (i:Nat)),some (eN net)] _ ⟨⟨_,rfl⟩,rfl⟩;rw[show BA net i (.int (j:Nat))=.bl (decide ((j:Int)∈net.getD i [])) by show Dv.bl (decide ((i:Int)=j) || _)=_;rw[h];rfl]at this
    rw[ZM,de];exact this
  ·obtain⟨⟨x,rfl⟩,rfl⟩:=hI;rw[Tc];intro c hc;refine hR _ _ _ ⟨bs++[c],by rw[zn];rfl,?_,_,rfl⟩
   have et:(startB net).take (bs.map Dv.ptr++[Dv.ptr c]).length=(startB net).take (bs.map Dv.ptr).length++[r] :=by
    rw[wb,ci,Na,hl,XJ,WW];rfl
   rw[et];exact hB.snoc hc
 ·obtain⟨bs,rfl,hB,x,rfl⟩:=hJ;have hm:bs.length=net.length :=by rw[rangeD_len,ci]at hl;exact hl
  have et:(startB net).take (bs.map Dv.ptr).length=startB net :=by
   rw[ci,hm,<- (qM net).len,YB]
  rw[LB,et]at hB;intro a ha;have jf:=hB.top ha;have o0:=qM net;refine⟨by omega,by omega,?_⟩
  refine bz (fun k ρ M=>(∃x2 x3 x4,ρ=[some (eN net),some (.ptr a),x2,x3,x4])/\jI Γ.M0 M a bs ((jp k).foldl (tY net.length) (startB net))/\je net.length ((jp k).foldl (tY net.length) (startB net))) ⟨⟨_,_,_,rfl⟩,jf,o0⟩ (fun k d ρ M N hd hJ hN=>?_) (fun ρ M hJ=>?_)
  ·obtain⟨⟨x2,x3,x4,rfl⟩,hB,o⟩:=hJ;obtain⟨rfl,hk⟩:=bh hd;rw[fold_succ]at hN;generalize (jp k).foldl (tY net.length) (startB net)=rk at hB o hN
   simp! only[];refine⟨by omega,by omega,?_⟩
   refine bz (fun i ρ M=>(∃x3 x4,ρ=[some (eN net),some (.ptr a),some (.int (k:Nat)),x3,x4])/\jI Γ.M0 M a bs ((jp i).foldl (qo net.length k) rk)/\je net.length ((jp i).foldl (qo net.length k) rk)) ⟨⟨_,_,rfl⟩,hB,o⟩ (fun i d ρ M N2 hd hJ my=>?_) (fun ρ M hJ=>?_)
   ·obtain⟨⟨x3,x4,rfl⟩,hB,o⟩:=hJ;obtain⟨rfl,hi⟩:=bh hd;rw[fold_succ]at my;generalize (jp i).foldl (qo net.length k) rk=ri at hB o my
    simp! only[];refine⟨by omega,by omega,?_⟩
    refine bz (fun j ρ M=>(∃x4,ρ=[some (eN net),some (.ptr a),some (.int (k:Nat)),some (.int (i:Nat)),x4])/\jI Γ.M0 M a bs ((jp j).foldl (iu k i) ri)/\je net.length ((jp j).foldl (iu k i) ri)) ⟨⟨_,rfl⟩,hB,o⟩ (fun j d ρ M N3 hd hJ Ej=>?_) (fun ρ M hJ=>?_)
    ·obtain⟨⟨x4,rfl⟩,hB,o⟩:=hJ;obtain⟨rfl,hj⟩:=bh hd;rw[fold_succ]at Ej;generalize (jp j).foldl (iu k i) ri=rj at hB o Ej
     obtain⟨b,r,hb,hr,mC,WX,ab,ar⟩:=hB.cell o hi;obtain⟨b2,r2,ox,Tc,Xm,UO,WY,ar2⟩:=hB.cell o hk;simp! only[hB.am,ab,WY,WX,UO,ar _ hj,ar _ hk,ar2 _ hj];have hx:f7 r.length (j:Nat)=some j:=mB (by omega)
     have fin:∀v:Bool,v=(bE rj i j || (bE rj i k && bE rj k j))->N3 [some (eN net),some (.ptr a),some (.int (k:Nat)),some (.int (i:Nat)),some (.int (j:Nat))] (aw M b (.lst ((r.map Dv.bl).set j (.bl v)))):=fun v e=>by
      refine Ej _ _ ⟨⟨_,rfl⟩,?_,o.set hi⟩;rw[<- ZO,e];exact hB.put hb hr
     simp only[hx];refine eS (fun h=>fin _ (by rw[h];rfl)) (fun h=>eS (fun h2=>fin _ (by rw[h,h2];rfl)) (fun h2=>fin _ (by rw[h,h2];rfl)))
    ·obtain⟨⟨x4,rfl⟩,hB,o⟩:=hJ;rw[rangeD_len]at hB o;exact my _ _ ⟨⟨_,_,rfl⟩,hB,o⟩
   ·obtain⟨⟨x3,x4,rfl⟩,hB,o⟩:=hJ;rw[rangeD_len]at hB o;exact hN _ _ ⟨⟨_,_,_,rfl⟩,hB,o⟩
  ·obtain⟨⟨x2,x3,x4,rfl⟩,hB,o⟩:=hJ;rw[rangeD_len]at hB o;simp! only[];refine .inr ⟨hB.kp,_,.ptr (ds':=(fN net).map Ew) hB.a0 hB.am (by rw[ci,ci];exact hB.len) fun j d d' e1 e2=>?_,q⟩
   rw[br]at e1 e2;obtain⟨b,hb,rfl⟩:=lc.mp e1;obtain⟨r,hr,rfl⟩:=lc.mp e2;refine .ptr (hB.b0 b (dL hb)) (hB.bm j b r hb hr) rfl fun k d d' e1 e2=>?_
   rw[e1]at e2;cases e2;obtain⟨x,_,rfl⟩:=on.mp (dL e1);exact .pin (.bl x)
end
section
theorem KN {net:List (List Int)}{n:Nat}(O:aY net n):(0:Int)∈ay net:=a8.mpr ⟨Y6 _,by have:=O.one;omega⟩
def cN (net:List (List Int)) (n:Nat):Prop:=∀a∈ay net,∀b∈ay net,ir net n a b
noncomputable instance {net:List (List Int)} {n:Nat}:Decidable (cN net n):=OE _
theorem oH {net:List (List Int)}{n:Nat}(O:aY net n):(dj net n).length=1 ↔ cN net n :=by
 have h0:=KN O;have hl:(dj net n).length=(dS net n net.length).length :=by unfold dj;rw[ci]
 have hm:∀a,a∈dS net n net.length ↔ a∈ay net/\m8 net n a:=fun a=>by
  unfold dS;rw[LG (Ye places_len),Nl,decide_eq_true_eq]
 have hd:∀a∈ay net,∃h,h∈dS net n net.length/\vP net n a h:=fun a ha=>by
  obtain⟨v,t,e,_⟩:=cls_cons (n:=n) ha;have hv:v∈gR net n a :=by rw[e];exact ma
  obtain⟨pv,sv⟩:=jS.mp hv;refine⟨v,(hm v).mpr ⟨pv,fun b hb=>?_⟩,sv⟩
  obtain⟨pb,sb⟩:=jS.mp hb;have ox:b∈gR net n a:=jS.mpr ⟨pb,sv.1.trans sb.1,sb.2.trans sv.2⟩;have pw:=xT (net:=net) (n:=n) (a:=a);rw[e,List.pairwise_cons]at pw;rw[e]at ox;rcases kw.mp ox with rfl|ox
  ·exact Y6 _
  ·exact pw.1 b ox
 rw[hl];constructor
 ·intro h1 a ha b hb;obtain⟨x,hx⟩:=List.length_eq_one_iff.mp h1;obtain⟨u,hu,su⟩:=hd a ha;obtain⟨v,hv,sv⟩:=hd b hb;rw[hx,lp]at hu hv;subst hu;subst hv;exact su.1.trans sv.2
 ·intro W;have WZ:∀a∈dS net n net.length,a=0:=fun a ha=>by
   obtain⟨pa,ha⟩:=(hm a).mp ha;have:=ha 0 (jS.mpr ⟨h0,W a pa 0 h0,W 0 h0 a pa⟩);have:=(a8.mp pa).1;omega
  have nd:(dS net n net.length).Nodup :=by
   unfold dS;rw[LG (Ye places_len)];exact vh.filter _
  obtain⟨z,hz,_⟩:=hd 0 h0;have:=jo _ [0] nd fun k hk=>by rw[WZ k hk];exact lp.mpr rfl
  have:=Wp hz;rw[Na]at *;omega
theorem yP {net:List (List Int)}{n:Nat}(O:aY net n):(∀r∈fN net,∀b∈r,b=true) ↔ cN net n :=by
 obtain⟨sq,r⟩:=xU O;constructor
 ·intro h a ha b hb;obtain⟨h1,h2⟩:=a8.mp ha;obtain⟨h3,h4⟩:=a8.mp hb;obtain⟨i,rfl⟩:=BY h1;obtain⟨j,rfl⟩:=BY h3;refine(r i j (by omega) (by omega)).mp ?_
  obtain⟨row,g1,g2,g3⟩:=sq.get (i:=i) (by omega)
  unfold bE;rw[g3,getD_at (by omega)]
  exact h row (dL g1) _ (u8 _)
 ·intro W row hr b hb;obtain⟨i,hi⟩:=mo.mp hr;obtain⟨j,hj⟩:=mo.mp hb;have jc:=(bv.mp hi).1;have Pr:=(bv.mp hj).1;have hl:=sq.row i row hi;rw[sq.len]at jc;have:=(r i j jc (by omega)).mpr (W _ (fg jc) _ (fg (by omega)))
  unfold bE at this;rw[cr (l:=fN net),hi]at this;show b=true;rw[cr]at this;rw[show (some row).getD []=row from rfl,hj]at this;exact this
end
section
variable {P:gc}{w:i4}{K:bi}{mg:bn->Option al}{base:hX}{tb:cz}{C_NoWhole:ac}
theorem gf:aO ["one","other"] ["one","other"] (ai eV):=⟨rfl,rfl,rfl,by decide +kernel,rfl,by decide +kernel,by decide +kernel⟩
theorem fA:aO ["_law_one","_law_other","_law_rest"] ["_law_one","_law_other"] (ai fV):=⟨rfl,rfl,rfl,by decide +kernel,rfl,by decide +kernel,by decide +kernel⟩
theorem vy:aO ["net"] ["net"] (ai ie):=⟨rfl,rfl,rfl,by decide +kernel,rfl,by decide +kernel,by decide +kernel⟩
theorem vz:aO ["_law_net_here"] ["_law_net_here"] (ai fL):=⟨rfl,rfl,rfl,by decide +kernel,rfl,by decide +kernel,by decide +kernel⟩
def PL:cp:=fun ds M Q _=>∃a b:Int,ds=[.int a,.int b]/\Q (.int (OF a.natAbs b.natAbs:Nat)) M
theorem Ad (a b:Nat):OF b (a % b)=OF a b :=by rw[Nat.gcd_comm,<- Nat.gcd_rec,Nat.gcd_comm]
theorem pO {f:ac}{fd:l8}(D:Df K mg "common_divisor" eV ["one","other"] f fd) (bl:Bl mg) :
  FnOk P w K mg base bf 1 f fd ["one","other"] (aX P w K tb PL) :=by
 refine ez D gf (fun ds M Q E hS=>by obtain⟨a,b,e,_⟩:=hS;rw[e];rfl) fun A outer s E Γ ds Q' E' hP hw hK ht hr hS=>?_
 obtain⟨a,b,e,q⟩:=hS;refine⟨_,(ah (D5 (i:=0) (j:=1) rfl gf.nd rfl rfl (by decide) rfl rfl (aa (ax A6 rfl bl.abs_ wy (aa (qv 0) ae)) (aa (ax A6 rfl bl.abs_ wy (aa (qv 1) ae)) ae)) rfl)
  (ah (kf sK (bU w9 (qv 1) aq (bV _))
   (ao (D5 (i:=0) (j:=1) rfl gf.nd rfl rfl (by decide) rfl rfl (aa (qv 1) (aa (aM ia (qv 0) (qv 1)) ae)) rfl)))
  (ao (aU (qv 0))))),?_⟩
 subst e;simp! only[];have ab:∀z:Int,(if z<0 then -z else z)=(z.natAbs:Int):=fun z=>by split<;>omega
 refine⟨fun m ρ M=>∃x y:Nat,m=y/\ρ=[some (.int (x:Nat)),some (.int (y:Nat))]/\OF x y=OF a.natAbs b.natAbs/\M=Γ.M0,⟨_,a.natAbs,b.natAbs,rfl,by rw[ab,ab],rfl,rfl⟩,?_⟩
 rintro m ρ M ⟨x,y,rfl,rfl,hg,rfl⟩;simp! only[];refine eS (fun h=>?_) (fun h=>?_)
 ·have h:=of_decide_eq_true h;have hm:=ZC x (show 0<m by omega)
  exact⟨by omega,x % m,hm,m,x % m,rfl,by rw[Int.natCast_emod],by rw[Ad];exact hg⟩
 ·have h:=of_decide_eq_false h;have e:m=0 :=by omega
  subst e;rw[Nat.gcd_zero_right]at hg;rw[hg];exact .inl q
theorem tZ {f:ac}{fd:l8}(D:Df K mg "_law_divisor" fV ["_law_one","_law_other"] f fd) (bl:Bl mg) :
  FnOk P w K mg base bf 1 f fd ["_law_one","_law_other"] (aX P w K tb fun ds M Q _=>∃a b:Nat,ds=[.int (a:Nat),.int (b:Nat)]/\Q (.int (OF a b:Nat)) M) :=by
 refine ez D fA (fun ds M Q E hS=>by obtain⟨a,b,e,_⟩:=hS;rw[e];rfl) fun A outer s E Γ ds Q' E' hP hw hK ht hr hS=>?_
 obtain⟨a,b,e,q⟩:=hS;refine⟨_,(ah (kf sK (bU w9 (qv 1) aq (bV _))
   (ah (aI (i:=2) fA.nd rfl (mT rfl) (aM ia (qv 0) (qv 1)))
  (ah (aI (i:=0) fA.nd rfl (mT rfl) (qv 1))
  (ao (aI (i:=1) fA.nd rfl (mT rfl) (qv 2))))))
  (ao (aU (qv 0)))),?_⟩
 subst e;simp! only[];refine⟨fun m ρ M=>∃x y:Nat,m=y/\(∃z,ρ=[some (.int (x:Nat)),some (.int (y:Nat)),z])/\OF x y=OF a b/\M=Γ.M0,⟨_,a,b,rfl,⟨_,rfl⟩,rfl,rfl⟩,?_⟩
 rintro m ρ M ⟨x,y,rfl,⟨z,rfl⟩,hg,rfl⟩;simp! only[];refine eS (fun h=>?_) (fun h=>?_)
 ·have h:=of_decide_eq_true h;have hm:=ZC x (show 0<m by omega)
  exact⟨by omega,x % m,hm,m,x % m,rfl,⟨_,by rw[Int.natCast_emod]⟩,by rw[Ad];exact hg⟩
 ·have h:=of_decide_eq_false h;have e:m=0 :=by omega
  subst e;rw[Nat.gcd_zero_right]at hg;rw[hg];exact .inl q
theorem vA {f f1:ac}{fd bP:l8}{C0:ac}{cs:List ac}(D:Df K mg "need_whole" ie ["net"] f fd) (cP:Df K mg "hangs_together" eW ["net"] f1 bP) (qN:FnOk P w K mg base (fq P w) 10 f1 bP ["net"] (aX P w K tb Eu))
  (X_:tF K C0 cs) (dC:C_NoWhole∈cs) (gY:mg "NoWhole" = some (.ref C_NoWhole)) :
  FnOk P w K mg base (fq P w) 11 f fd ["net"] (aX P w K tb fun ds M Q E=>∃net n,ds=[eN net]/\aY net n/\(cN net n->Q .au M)/\(¬ cN net n->E C_NoWhole M)) :=by
 refine sx D vy (fun ds M Q E hS=>by obtain⟨net,n,e,_⟩:=hS;rw[e];rfl) fun A outer s E Γ ds Q' E' hP hw hK ht hE hr hS=>?_
 obtain⟨net,n,e,O,q1,q2⟩:=hS;refine⟨_,(ao (dM (fJ (ej (aN qN (hr.mono (by decide)) rfl cP.mg cP.fn.kp cP.bd vI hP hw hK ht hE (aa (qv 0) ae))))
   (ao (xf (X_.ex _ dC) PySem.F.excBase_ValueError rfl CT hE rfl gY (aa mn ae)))
   qss_nil)),?_⟩
 subst e;simp! only[];refine⟨net,n,rfl,O,?_⟩;simp! only[];refine eS (fun h=>?_) (fun h=>?_)
 ·have h:¬ (dj net n).length=1 :=by simpa using h
  exact⟨by decide,q2 fun w=>h ((oH O).mpr w)⟩
 ·have h:(dj net n).length=1 :=by simpa using h
  exact .inl (q1 ((oH O).mp h))
def GN:Dv->Dv
 | .lst ds=>(match boolsD ds with|some bs=>.bl (bs.all id)|none=>.lst ds)
 |d=>d
theorem xW {f f1:ac}{fd bP:l8}(D:Df K mg "_law_whole" fL ["_law_net_here"] f fd)
  (eJ:Df K mg "_law_reach" fK ["_law_net_here"] f1 bP) (xX:FnOk P w K mg base bf 1 f1 bP ["_law_net_here"] (aX P w K tb Ac)) (bl:Bl mg) :
  FnOk P w K mg base bf 2 f fd ["_law_net_here"] (aX P w K tb fun ds M Q _=>∃net n,ds=[eN net]/\aY net n/\Q (.bl (decide (cN net n))) M) :=by
 refine ez D vz (fun ds M Q E hS=>by obtain⟨net,n,e,_⟩:=hS;rw[e];rfl) fun A outer s E Γ ds Q' E' hP hw hK ht hr hS=>?_
 obtain⟨net,n,e,O,q⟩:=hS;refine⟨_,(ao (aU (ax (DC (K:=K) rfl rfl) rfl bl.all_ CP (aa (cY (N':=["_law_row"]) (tn:=1) (idx:=[]) rfl (show aH ["_law_net_here"] (ai fL) _ ["_law_row"] 1 [] from by decide +kernel) (jN (K:=K) rfl (aN xX (hr.mono (by decide)) rfl eJ.mg eJ.fn.kp eJ.bd bA hP hw hK ht XR.none (aa (qv 0) ae))) (fun _ _ _ _ _=>(aJ (i:=0) (show Cf [("_law_row" : bn)] from by decide +kernel) rfl (mT rfl))) (fun _ _ _ _ _=>cm) (fun _ _ _ _ _=>(ax (DC (K:=K) rfl rfl) rfl bl.all_ CP (aa (qv 0) ae)))) ae)))),?_⟩
 subst e;have h9:=O.nine;have big:(1000:Nat)<sizeLine :=by decide
 simp! only[];refine⟨net,n,rfl,O,?_⟩;simp! only[];have sq:=(xU O).1;have f1:∀r∈fN net,GN (Ew r)=.bl (r.all id):=fun r _=>by
  show (match boolsD (r.map Dv.bl) with|some bs=>Dv.bl (bs.all id)|none=>_)=_
  rw[jC]
 refine⟨by have:=sq.len;omega,dO GN (fun τ M=>(∃x,τ=[x])/\M=Γ.M0) ⟨⟨_,rfl⟩,rfl⟩ (fun d hd τ M hI R hR=>?_) (fun τ M hI=>?_)⟩
 ·obtain⟨⟨x,rfl⟩,rfl⟩:=hI;obtain⟨r,hr,rfl⟩:=on.mp hd;rw[f1 r hr]at hR;simp! only[Ew,jC];exact hR _ _ ⟨⟨_,rfl⟩,rfl⟩
 ·obtain⟨⟨x,rfl⟩,rfl⟩:=hI;have e0:((fN net).map Ew).map GN=((fN net).map fun r=>r.all id).map Dv.bl :=by
   rw[sB,sB];exact CS fun r hr=>f1 r hr
  rw[e0,jC];have e:((fN net).map fun r=>r.all id).all id=decide (cN net n) :=by
   rw[TD,decide_eq_true_eq,<- yP O,wn];constructor
   ·intro h r hr b hb;have:=h _ (on.mpr ⟨r,hr,rfl⟩);exact wn.mp this b hb
   ·intro h x hx;obtain⟨r,hr,rfl⟩:=on.mp hx;exact wn.mpr fun b hb=>h r hr b hb
  show jn Γ.M0 Q' (.bl (((fN net).map fun r=>r.all id).all id)) Γ.M0
  rw[e];exact .inl q
end
section
def sumF (l:Nat) (f:Nat->Int):Int:=((jp l).map f).sum
theorem lF (f:Nat->Int):sumF 0 f=0:=rfl
theorem bT (l:Nat) (f:Nat->Int):sumF (l+1) f=sumF l f+f l :=by
 unfold sumF;rw[YU,zn,List.sum_append];simp
theorem b9 {l:Nat}{f g:Nat->Int}(h:∀i,i<l->f i=g i):sumF l f=sumF l g :=by
 unfold sumF;rw[CS fun i hi=>h i (Me.mp hi)]
theorem qO (l:Nat) (f g:Nat->Int):sumF l (fun i=>f i+g i)=sumF l f+sumF l g :=by
 induction l with
 |zero=>rfl
 |succ l ih=>rw[bT,bT,bT,ih];omega
theorem fO (l:Nat) (c:Int) (f:Nat->Int):sumF l (fun i=>c * f i)=c * sumF l f :=by
 induction l with
 |zero=>rw[lF,lF,Int.mul_zero]
 |succ l ih=>rw[bT,bT,ih,Y7]
theorem i5 {l:Nat}{f:Nat->Int}(h:∀i,i<l->0<=f i):0<=sumF l f :=by
 induction l with
 |zero=>exact Y6 _
 |succ l ih=>
  rw[bT];have:=ih fun i hi=>h i (by omega)
  have:=h l (by omega)
  omega
theorem Ae {l:Nat}{f:Nat->Int}(h:∀i,i<l->0<=f i) {j:Nat}(hj:j<l):f j<=sumF l f :=by
 induction l with
 |zero=>omega
 |succ l ih=>
  rw[bT];by_cases e:j=l
  ·subst e;have:=i5 (l:=j) (f:=f) fun i hi=>h i (by omega)
   omega
  ·have:=ih (fun i hi=>h i (by omega)) (by omega)
   have:=h l (by omega)
   omega
theorem mD {l:Nat}{f:Nat->Int}{b:Int}(h:∀i,i<l->f i<=b):sumF l f<=l * b :=by
 induction l with
 |zero=>rw[lF];simp
 |succ l ih=>
  rw[bT];have h1:=ih fun i hi=>h i (by omega)
  have h2:=h l (by omega)
  have:((l+1:Nat):Int) * b=l * b+b :=by rw[Int.natCast_add,Int.add_mul];simp
  omega
def fm (A:Nat->Nat->Int) (l:Nat):Nat->Nat->Int:=fun i j=>sumF l (A l) * A i j+A i l * A l j
def xY (A:Nat->Nat->Int) (n:Nat) (w:Nat->Int):Prop:=∀j,j<n->sumF n (fun i=>w i * A i j)=w j * sumF n (A j)
def sS (A:Nat->Nat->Int) (l:Nat) (w:Nat->Int):Nat->Int:=fun i=>if i<l then w i * sumF l (A l) else sumF l fun i=>w i * A i l
theorem PN {A:Nat->Nat->Int}{l:Nat}{w:Nat->Int}(h:xY (fm A l) l w):xY A (l+1) (sS A l w) :=by
 have hl:sS A l w l=sumF l fun i=>w i * A i l :=by unfold sS;rw[if_neg (ET _)]
 have hi:∀i,i<l->sS A l w i=w i * sumF l (A l):=fun i h=>by unfold sS;rw[if_pos h]
 have S1:∀j,sumF l (fun i=>sS A l w i * A i j)=sumF l (A l) * sumF l (fun i=>w i * A i j):=fun j=>by
  rw[<- fO];refine b9 fun i h=>?_
  rw[hi i h,XM (w i),PM]
 intro j hj;rw[bT,hl,S1];by_cases e:j=l
 ·subst e;rw[hl,bT,Y7,XM (sumF j (A j))]
 ·have Td:j<l :=by omega
  have hb:=h j Td;have e1:sumF l (fun i=>w i * fm A l i j)=sumF l (A l) * sumF l (fun i=>w i * A i j)+(sumF l fun i=>w i * A i l) * A l j :=by
   rw[<- fO,XM _ (A l j),<- fO,<- qO];refine b9 fun i _=>?_
   unfold fm;rw[Y7,<- PM,<- PM,XM (w i) (sumF l (A l)),PM,XM (w i * A i l) (A l j)]
  have e2:sumF l (fm A l j)=sumF l (A l) * sumF (l+1) (A j) :=by
   rw[bT,Y7,<- fO,XM (sumF l (A l)) (A j l),<- fO,<- qO];exact b9 fun i _=>rfl
  rw[e1,e2]at hb;rw[hb,hi j Td,PM]
inductive RF (A:Nat->Nat->Int) (l i:Nat):Nat->Prop where
 |base:RF A l i i
 |step {p q:Nat} (h:RF A l i p) (hq:q<l) (e:0<A p q):RF A l i q
structure nh (A:Nat->Nat->Int) (l:Nat):Prop where
 nn:∀i j,i<l->j<l->0<=A i j
 rf:∀i j,i<l->j<l->RF A l i j
theorem RA {A:Nat->Nat->Int}{l i j:Nat}(hi:i<l) (h:RF A l i j):j<l :=by
 cases h with
 |base=>exact hi
 |step _ hq _=>exact hq
theorem vk {A:Nat->Nat->Int}{l:Nat}(h:nh A (l+1)) (h1:1<=l):0<sumF l (A l) :=by
 have key:∀q,RF A (l+1) l q->q=l\/∃j,j<l/\0<A l j:=fun q r=>by
  induction r with
  |base=>exact .inl rfl
  | @step p q r hq e ih=>
   rcases ih with rfl|ih
   ·by_cases z:q=p
    ·exact .inl z
    ·exact .inr ⟨q,by omega,e⟩
   ·exact .inr ih
 rcases key 0 (h.rf l 0 (by omega) (by omega)) with z|⟨j,hj,e⟩
 ·omega
 ·have:=Ae (l:=l) (f:=A l) (fun i hi=>h.nn l i (by omega) (by omega)) hj
  omega
theorem Af {A:Nat->Nat->Int}{l:Nat}(h:nh A (l+1)) (h1:1<=l):(∃x,x<l/\0<A x l)/\nh (fm A l) l :=by
 have lv:=vk h h1;have p1:∀i j,i<l->j<l->0<A i j->0<fm A l i j:=fun i j hi hj e=>by
  have:=ZY lv e;have:=Yg (h.nn i l (by omega) (by omega)) (h.nn l j (by omega) (by omega))
  unfold fm;omega
 have p2:∀i j,i<l->j<l->0<A i l->0<A l j->0<fm A l i j:=fun i j hi hj e1 e2=>by
  have:=ZY e1 e2;have:=Yg (EM lv) (h.nn i j (by omega) (by omega))
  unfold fm;omega
 have key:∀i q,i<l->RF A (l+1) i q->(q<l/\RF (fm A l) l i q)\/(q=l/\∃x,x<l/\RF (fm A l) l i x/\0<A x l):=fun i q hi r=>by
  induction r with
  |base=>exact .inl ⟨hi,.base⟩
  | @step p q r hq e ih=>
   rcases ih with ⟨hp,rp⟩|⟨rfl,x,hx,rx,ex⟩
   ·by_cases z:q=l
    ·subst z;exact .inr ⟨rfl,p,hp,rp,e⟩
    ·exact .inl ⟨by omega,rp.step (by omega) (p1 p q hp (by omega) e)⟩
   ·by_cases z:q=p
    ·subst z;exact .inr ⟨rfl,x,hx,rx,ex⟩
    ·exact .inl ⟨by omega,rx.step (by omega) (p2 x q hx (by omega) ex e)⟩
 refine⟨?_,⟨fun i j hi hj=>?_,fun i j hi hj=>?_⟩⟩
 ·rcases key 0 l (by omega) (h.rf 0 l (by omega) (by omega)) with ⟨z,_⟩|⟨_,x,hx,_,ex⟩
  ·omega
  ·exact⟨x,hx,ex⟩
 ·have:=Yg (EM lv) (h.nn i j (by omega) (by omega))
  have:=Yg (h.nn i l (by omega) (by omega)) (h.nn l j (by omega) (by omega))
  unfold fm;omega
 ·rcases key i j hi (h.rf i j (by omega) (by omega)) with ⟨_,r⟩|⟨z,_⟩
  ·exact r
  ·omega
theorem pow_mul {a b:Int}{x y:Nat}(ha:0<=a) (hb:0<=b) (h1:a<2 ^ x) (h2:b<2 ^ y):a * b<2 ^ (x+y) :=by
 rw[ZZ];have:a * b<=a * 2 ^ y:=WA (EM h2) ha;have:a * 2 ^ y<2 ^ x * 2 ^ y:=Int.mul_lt_mul_of_pos_right h1 (OK (by decide))
 omega
theorem mE {a:Int}{x:Nat}(h1:a<10 * 2 ^ x):a<2 ^ (x+4) :=by
 rw[ZZ];have:(0:Int)<2 ^ x:=OK (by decide)
 have e:(2:Int) ^ 4=16 :=by decide
 rw[e];omega
theorem fP {a:Int}{x y:Nat}(h:a<2 ^ x) (W0:x<=y):a<2 ^ y :=by
 obtain⟨k,rfl⟩:=Nat.le.dest W0;rw[ZZ];have h1:(0:Int)<2 ^ k:=OK (by decide)
 have h2:(2:Int) ^ x * 1<=2 ^ x * 2 ^ k:=WA (by omega) (EM (OK (by decide)))
 omega
theorem Ez {A:Nat->Nat->Int}{l b:Nat}(hl:l<=8) (nn:∀i j,i<l+1->j<l+1->0<=A i j) (h:∀i j,i<l+1->j<l+1->A i j<2 ^ b) {i j:Nat}(hi:i<l) (hj:j<l):fm A l i j<2 ^ (2 * b+4) :=by
 have s1:sumF l (A l)<=l * 2 ^ b:=mD fun k hk=>EM (h l k (by omega) (by omega))
 have s0:0<=sumF l (A l):=i5 fun k hk=>nn l k (by omega) (by omega)
 have pw:(0:Int)<2 ^ b:=OK (by decide)
 have s2:sumF l (A l)<=8 * 2 ^ b :=by
  have:(l:Int) * 2 ^ b<=8 * 2 ^ b:=EN (by omega) (EM pw)
  omega
 have m1:sumF l (A l) * A i j<=8 * 2 ^ b * 2 ^ b:=Int.mul_le_mul s2 (EM (h i j (by omega) (by omega))) (nn i j (by omega) (by omega)) (by omega)
 have m2:=pow_mul (nn i l (by omega) (by omega)) (nn l j (by omega) (by omega)) (h i l (by omega) (by omega)) (h l j (by omega) (by omega))
 refine mE ?_;unfold fm;rw[show 2 * b=b+b by omega]
 rw[PM,<- ZZ]at m1;have:(0:Int)<2 ^ (b+b):=OK (by decide)
 omega
end
section
def bF (A:List (List Int)) (i j:Nat):Int:=(A.getD i []).getD j 0
structure qg (A:List (List Int)) (l:Nat):Prop where
 len:A.length=l
 row:∀r∈A,r.length=l
theorem qg.get {A:List (List Int)}{l:Nat}(h:qg A l) {i:Nat}(hi:i<l):A[i]?=some (A.getD i [])/\(A.getD i []).length=l :=by
 have e:A.getD i []=A[i]'(by rw[h.len];exact hi):=getD_at _
 rw[e];exact⟨ap _,h.row _ (u8 _)⟩
theorem kQ {r:List Int}{j:Nat}(h:j<r.length):r[j]?=some (r.getD j 0) :=by
 rw[cr,ap h];rfl
theorem ni {r:List Int}:∀{l:Nat},l<=r.length->(r.take l).sum=sumF l fun i=>r.getD i 0
 |0,_=>by rw[Y2];rfl
 |l+1,h=>by
          rw[XJ,List.sum_append,ni (l:=l) (by omega),bT,kQ (by omega)]
          simp
def oI (A:List (List Int)) (l:Nat) (row:List Int):List Int:=(jp l).map fun g=>((A.getD l []).take l).sum * row.getD g 0+row.getD l 0 * (A.getD l []).getD g 0
def nj (A:List (List Int)):List (List Int):=(A.take (A.length - 1)).map (oI A (A.length - 1))
theorem PQ {A:List (List Int)}{l:Nat}(h:qg A (l+1)):qg (nj A) l :=by
 have e:A.length - 1=l :=by rw[h.len];rfl
 unfold nj;rw[e];refine⟨by rw[ci,Yv,h.len];omega,fun r hr=>?_⟩
 obtain⟨row,_,rfl⟩:=on.mp hr;unfold oI;rw[ci,GM]
theorem t5 {A:List (List Int)}{l i j:Nat}(h:qg A (l+1)) (hi:i<l) (hj:j<l):bF (nj A) i j=fm (bF A) l i j :=by
 have e:A.length - 1=l :=by rw[h.len];rfl
 obtain⟨a1,a2⟩:=h.get (show i<l+1 by omega)
 obtain⟨b1,b2⟩:=h.get (show l<l+1 by omega)
 unfold bF nj fm;rw[e,cr (l:=Z5 _ _),br,X9 hi,a1,AT,ZP];unfold oI;rw[cr,br,xw hj,AT,ZP,ni (by omega)]
theorem GO {A B:Nat->Nat->Int}{l i j:Nat}(e:∀i j,i<l->j<l->A i j=B i j) (hi:i<l) (h:RF A l i j):RF B l i j :=by
 induction h with
 |base=>exact .base
 |step h hq p ih=>
  rw[e _ _ (RA hi h) hq]at p;exact ih.step hq p
theorem EA {A B:Nat->Nat->Int}{l:Nat}(e:∀i j,i<l->j<l->A i j=B i j) (h:nh A l):nh B l:=
 ⟨fun i j hi hj=>by rw[<- e i j hi hj];exact h.nn i j hi hj,fun i j hi hj=>GO e hi (h.rf i j hi hj)⟩
theorem EB {A B:Nat->Nat->Int}{l:Nat}{w:Nat->Int}(e:∀i j,i<l->j<l->A i j=B i j) (h:xY A l w):xY B l w:=fun j hj=>by
 have z:=h j hj;rw[b9 (g:=fun i=>w i * B i j) fun i hi=>by rw[e i j hi hj],b9 fun i hi=>e j i hj hi]at z
 exact z
def js (net:List (List Int)):List (List Int):=net.map fun row=>(ay net).map fun g=>((row.count g:Nat):Int)
theorem PR {net:List (List Int)}:qg (js net) net.length :=by
 refine⟨ci ..,fun r hr=>?_⟩
 obtain⟨row,_,rfl⟩:=on.mp hr;rw[ci,places_len]
theorem mF {net:List (List Int)}{i j:Nat}(hi:i<net.length) (hj:j<net.length):bF (js net) i j=((net.getD i []).count (j:Int):Nat) :=by
 unfold bF js;rw[cr (l:=Z5 _ net),br,ap hi,AT,ZP,getD_at hi];unfold ay;rw[sB,cr,br,xw hj];rfl
def gB (net:List (List Int)):Nat->List (List Int)
 |0=>js net
 |t+1=>nj (gB net t)
theorem sT {net:List (List Int)}:∀{t:Nat},t<net.length->qg (gB net t) (net.length - t)
 |0,_=>PR
 |t+1,h=>PQ (by rw[show net.length - (t+1)+1=net.length - t by omega];exact sT (by omega))
theorem KO {net:List (List Int)}{n:Nat}(O:aY net n) (W:cN net n):nh (bF (js net)) net.length :=by
 refine⟨fun i j hi hj=>by rw[mF hi hj];omega,fun i j hi hj=>?_⟩
 have key:∀q,ir net n (i:Int) q->∃k:Nat,q=k/\k<net.length/\RF (bF (js net)) net.length i k:=fun q r=>by
  induction r with
  |base=>exact⟨i,rfl,hi,.base⟩
  | @step p a r ha ih=>
   obtain⟨k,rfl,hk,f⟩:=ih;have hs:=gO O (fg (net:=net) hk) ha;obtain⟨h1,h2⟩:=a8.mp hs;obtain⟨k2,e2⟩:=BY h1;refine⟨k2,e2,by omega,f.step (by omega) ?_⟩
   rw[mF hk (by omega)]
   have:=List.count_pos_iff.mpr ((oG O hk).mpr ⟨a,ha,e2⟩);omega
 obtain⟨k,e,_,f⟩:=key j (W _ (fg hi) _ (fg hj));have:j=k :=by omega
 subst this;exact f
theorem sU {net:List (List Int)}{n:Nat}(O:aY net n) (W:cN net n):∀{t:Nat},t<net.length->nh (bF (gB net t)) (net.length - t)
 |0,_=>KO O W
 |t+1,h=>by
          have e:net.length - (t+1)+1=net.length - t :=by omega
          refine EA (fun i j hi hj=>(t5 ?_ hi hj).symm) (Af ?_ ?_).2
          ·rw[e];exact sT (by omega)
          ·rw[e];exact sU O W (by omega)
          ·omega
def lH (t:Nat):Nat:=6 * 2 ^ t - 4
theorem GP (t:Nat):2 * lH t+4=lH (t+1) :=by
 have:1<=2 ^ t:=Nat.one_le_two_pow;unfold lH;rw[Nat.pow_succ];omega
theorem qP {net:List (List Int)}{n:Nat}(O:aY net n) (W:cN net n):∀{t i j:Nat},t<net.length->i<net.length - t->j<net.length - t->bF (gB net t) i j<2 ^ lH t
 |0,i,j,_,hi,hj=>by
          show bF (js net) i j<2 ^ 2;have hi:i<net.length:=hi;rw[mF hi hj];have:=List.count_le_length (a:=(j:Int)) (l:=net.getD i []);have e:(net.getD i []).length=n :=by rw[getD_at hi];exact(O.row _ (u8 _)).1
          have:=O.wid;omega
 |t+1,i,j,h,hi,hj=>by
          have h9:=O.nine;have e:net.length - (t+1)+1=net.length - t :=by omega
          show bF (nj (gB net t)) i j<_;rw[t5 (l:=net.length - (t+1)) (by rw[e];exact sT (by omega)) hi hj,<- GP]
          refine Ez (by omega) (fun a b ha hb=>?_) (fun a b ha hb=>?_) hi hj
          ·exact(sU O W (show t<net.length by omega)).nn a b (by omega) (by omega)
          ·exact qP O W (by omega) (by omega) (by omega)
theorem xZ {net:List (List Int)}{n:Nat}(O:aY net n) (W:cN net n) {t i j:Nat}(ht:t<net.length) (hi:i<net.length - t) (hj:j<net.length - t):0<=bF (gB net t) i j/\bF (gB net t) i j<2 ^ 1536 :=by
 refine⟨(sU O W ht).nn i j hi hj,fP (qP O W ht hi hj) ?_⟩;have h9:=O.nine;have:2 ^ t<=2 ^ 8:=XS (by decide) (by omega)
 unfold lH;omega
def dw (ws:List Int):Nat:=ws.foldl (fun s x=>OF s x.natAbs) 0
theorem vm (ws:List Int) (x:Int):dw (ws++[x])=OF (dw ws) x.natAbs :=by
 unfold dw;rw[Zz];rfl
theorem qQ {ws:List Int}{x:Int}(h:x∈ws):(dw ws:Int) ∣ x :=by
 have key:∀(us:List Int) (s:Nat),us.foldl (fun s x=>OF s x.natAbs) s ∣ s/\∀x∈us,us.foldl (fun s x=>OF s x.natAbs) s ∣ x.natAbs:=fun us=>by
  induction us with
  |nil=>exact fun s=>⟨Nat.dvd_refl _,fun x h=>nomatch h⟩
  |cons u us ih=>
   intro s;rw[YN];obtain⟨h1,h2⟩:=ih (OF s u.natAbs);refine⟨Nat.dvd_trans h1 (Nat.gcd_dvd_left ..),fun x hx=>?_⟩
   rcases kw.mp hx with rfl|hx
   ·exact Nat.dvd_trans h1 (Nat.gcd_dvd_right ..)
   ·exact h2 x hx
 exact Int.ofNat_dvd_left.mpr ((key ws 0).2 x h)
theorem GQ (g:Nat) (us:List Int):dw (us.map fun x=>(g:Int) * x)=g * dw us :=by
 have key:∀(us:List Int) (s:Nat),(us.map fun x=>(g:Int) * x).foldl (fun s x=>OF s x.natAbs) (g * s)=g * us.foldl (fun s x=>OF s x.natAbs) s:=fun us=>by
  induction us with
  |nil=>exact fun s=>rfl
  |cons u us ih=>
   intro s;rw[ss,YN,YN,Int.natAbs_mul,Zj,Nat.gcd_mul_left,ih]
 exact key us 0
theorem GR {v:List Int}(h0:v≠[]) (h1:∀x∈v,1<=x):0<dw v/\v=(v.map fun x=>x / (dw v:Int)).map (fun x=>(dw v:Int) * x)/\dw (v.map fun x=>x / (dw v:Int))=1 :=by
 obtain⟨x,hx⟩:=List.exists_mem_of_ne_nil v h0;have gp:0<dw v :=by
  rcases Nat.eq_zero_or_pos (dw v) with e|e
  ·have:=qQ hx;rw[e]at this;have:=Int.zero_dvd.mp this;have:=h1 x hx;omega
  ·exact e
 have e:v=(v.map fun x=>x / (dw v:Int)).map (fun x=>(dw v:Int) * x) :=by
  rw[sB];refine(List.map_id' v).symm.trans (CS fun x hx=>?_)
  exact(Int.mul_ediv_cancel' (qQ hx)).symm
 refine⟨gp,e,?_⟩;have:=GQ (dw v) (v.map fun x=>x / (dw v:Int))
 rw[<- e]at this;exact Nat.eq_of_mul_eq_mul_left gp (by rw[<- this,Nat.mul_one])
structure ya (A:Nat->Nat->Int) (l c:Nat) (ws:List Int):Prop where
 len:ws.length=l
 pos:∀x∈ws,1<=x
 lim:∀x∈ws,x<2 ^ c
 one:dw ws=1
 bal:xY A l fun i=>ws.getD i 0
def nE (A:Nat->Nat->Int) (l:Nat) (ws:List Int):List Int:=(ws.map fun x=>x * sumF l (A l))++[sumF l fun i=>ws.getD i 0 * A i l]
theorem RB {A:Nat->Nat->Int}{l i:Nat}{ws:List Int}(h:ws.length=l) (hi:i<l+1):(nE A l ws).getD i 0=sS A l (fun i=>ws.getD i 0) i :=by
 unfold nE sS;rw[cr];by_cases e:i<l
 ·rw[if_pos e,ut (by rw[ci];omega),br,kQ (by omega)]
  rfl
 ·rw[if_neg e,wS (by rw[ci];omega),ci,show i - ws.length=0 by omega]
  rfl
theorem RC {A:Nat->Nat->Int}{l c b:Nat}{ws:List Int}(I:nh A (l+1)) (md:1<=l) (hl:l<=8) (hb:∀i j,i<l+1->j<l+1->A i j<2 ^ b) (h:ya (fm A l) l c ws):(∀x∈nE A l ws,1<=x/\x<2 ^ (c+(b+4)))/\∀u g,0<g->nE A l ws=u.map (fun x=>(g:Int) * x)->dw u=1->ya A (l+1) (c+(b+4)) u :=by
 have lv:=vk I md;obtain⟨⟨y,hy,ey⟩,_⟩:=Af I md;have p1:(0:Int)<2 ^ b:=OK (by decide)
 have hle:sumF l (A l)<2 ^ (b+4) :=by
  refine mE (x:=b) ?_;have s1:sumF l (A l)<=l * 2 ^ b:=mD fun k hk=>EM (hb l k (by omega) (by omega))
  have:(l:Int) * 2 ^ b<=8 * 2 ^ b:=EN (by omega) (EM p1)
  omega
 have Jb:∀i,i<l->1<=ws.getD i 0/\ws.getD i 0<2 ^ c:=fun i hi=>by
  have:=dL (kQ (r:=ws) (j:=i) (by rw[h.len];exact hi))
  exact⟨h.pos _ this,h.lim _ this⟩
 have all:∀x∈nE A l ws,1<=x/\x<2 ^ (c+(b+4)):=fun x hx=>by
  rcases wv.mp hx with z|z
  ·obtain⟨a,ha,rfl⟩:=on.mp z;have:=ZY (show 0<a by have:=h.pos a ha;omega) lv
   exact⟨by omega,pow_mul (by have:=h.pos a ha;omega) (by omega) (h.lim a ha) hle⟩
  ·rw[lp.mp z];have nn:∀i,i<l->0<=ws.getD i 0 * A i l:=fun i hi=>Yg (by have:=(Jb i hi).1;omega) (I.nn i l (by omega) (by omega))
   have g1:=Ae nn hy;have g2:=ZY (show 0<ws.getD y 0 by have:=(Jb y hy).1;omega) ey
   refine⟨by omega,?_⟩
   rw[show c+(b+4)=(c+b)+4 by omega]
   refine mE ?_;have s1:sumF l (fun i=>ws.getD i 0 * A i l)<=l * 2 ^ (c+b):=mD fun k hk=>EM (pow_mul (by have:=(Jb k hk).1;omega) (I.nn k l (by omega) (by omega)) (Jb k hk).2 (hb k l (by omega) (by omega)))
   have p2:(0:Int)<2 ^ (c+b):=OK (by decide)
   have:(l:Int) * 2 ^ (c+b)<=8 * 2 ^ (c+b):=EN (by omega) (EM p2)
   omega
 refine⟨all,fun u g hg e hu=>?_⟩
 have ul:u.length=l+1 :=by
  have:=congrArg List.length e;unfold nE at this;rw[wb,ci,ci,h.len]at this;exact this.symm
 have Te:∀x∈u,1<=x/\x<2 ^ (c+(b+4)):=fun x hx=>by
  have hm:(g:Int) * x∈nE A l ws :=by rw[e];exact on.mpr ⟨x,hx,rfl⟩
  obtain⟨a1,a2⟩:=all _ hm;have x0:0<x :=by
   rcases Int.lt_or_le 0 x with z|z
   ·exact z
   ·have:=WA z (show (0:Int)<=g by omega)
    rw[Int.mul_zero]at this;omega
  have:1 * x<=g * x:=EN (by omega) (by omega)
  exact⟨by omega,by omega⟩
 refine⟨ul,fun x hx=>(Te x hx).1,fun x hx=>(Te x hx).2,hu,fun j hj=>?_⟩
 have up:=PN h.bal;have ug:∀i,i<l+1->sS A l (fun i=>ws.getD i 0) i=g * u.getD i 0:=fun i hi=>by
  rw[<- RB h.len hi,e,cr,br,kQ (by omega)]
  rfl
 have bj:=up j hj;rw[ug j hj,b9 fun i hi=>by rw[ug i hi,PM],fO,PM]at bj
 exact Int.eq_of_mul_eq_mul_left (by omega) bj
end
section
variable {P:gc}{w:i4}{K:bi}{mg:bn->Option al}{base:hX}{tb:cz}
theorem t6:aO ["net"] ["net"] (ai fe):=⟨rfl,rfl,rfl,by decide +kernel,rfl,by decide +kernel,by decide +kernel⟩
theorem iw:aO ["counts","last","leaving"] ["counts"] (ai eC):=⟨rfl,rfl,rfl,by decide +kernel,rfl,by decide +kernel,by decide +kernel⟩
theorem lJ:aO ["numbers","size","number"] ["numbers"] (ai kI):=⟨rfl,rfl,rfl,by decide +kernel,rfl,by decide +kernel,by decide +kernel⟩
def oJ (A:List (List Int)):Dv:=.lst (A.map bO)
def GU (net:List (List Int)):Dv->Dv
 | .tup xs=>match cW xs with|some row=>bO ((ay net).map fun g=>((row.count g:Nat):Int))|none=>.tup xs
 |d=>d
def GV (row:List Int):Dv->Dv
 | .int g=>.int ((row.count g:Nat):Int)
 |d=>d
theorem mG {r:List Int}{j:Nat}(h:j<r.length):cy (r.map Dv.int) (j:Nat)=some (.int (r.getD j 0)):=cf (by rw[br,kQ h];rfl)
theorem yb {A:List (List Int)}{l i:Nat}(h:qg A l) (hi:i<l):cy (A.map bO) (i:Nat)=some (bO (A.getD i [])):=cf (by rw[br,(h.get hi).1];rfl)
theorem Ag {x:Int}{m n:Nat}(h0:0<=x) (h:x<2 ^ m) (zb:m<=n):x.natAbs<2 ^ n :=by
 have e:((2 ^ m:Nat):Int)=(2:Int) ^ m:=Int.natCast_pow 2 m;have h2:x.natAbs<2 ^ m :=by
  rw[<- e]at h;generalize 2 ^ m=z at h ⊢
  omega
 exact l9 h2 (XS (by decide) zb)
theorem mH {a b:Int}(ha:0<=a) (hb:0<=b) (h1:a<2 ^ 100000) (h2:b<2 ^ 100000):BMul a b:=⟨Ag (n:=1000000) ha h1 (by decide),Ag (n:=1000000) hb h2 (by decide)⟩
def Ah:cp:=fun ds M Q _=>∃net n,ds=[eN net]/\aY net n/\Q (oJ (js net)) M
theorem t7 {f:ac}{fd:l8}(D:Df K mg "road_counts" fe ["net"] f fd) (bl:Bl mg) :
  FnOk P w K mg base bf 1 f fd ["net"] (aX P w K tb Ah) :=by
 refine ez D t6 (fun ds M Q E hS=>by obtain⟨net,n,e,_⟩:=hS;rw[e];rfl) fun A outer s E Γ ds Q' E' hP hw hK ht hr hS=>?_
 obtain⟨net,n,e,O,q⟩:=hS;refine⟨_,(ao (aU (oq (N':=["row","net"]) (tn:=1) (idx:=[0]) rfl (show cc ["net"] (ai fe) _ ["row","net"] 1 [0] from by decide +kernel) (ke (K:=K) rfl (qv 0)) (fun _ _ _ _ _=>(aJ (i:=0) (show Cf [("row" : bn),("net" : bn)] from by decide +kernel) rfl (FF rfl))) (fun _ _ _ _ _=>cm) (fun _ _ _ _ _=>(cY (N':=["goal","row"]) (tn:=1) (idx:=[0]) rfl (aH.rel (show aH ["row","net"] _ _ ["goal","row"] 1 [0] from by decide +kernel)) (a9 rfl bl.range_ (aa (ax (b8 (K:=K) rfl hK) rfl bl.len_ r9 (aa (qv 1) ae)) ae)) (fun _ _ _ _ _=>(aJ (i:=0) (show Cf [("goal" : bn),("row" : bn)] from by decide +kernel) rfl (mT rfl))) (fun _ _ _ _ _=>cm) (fun _ _ _ _ _=>(lu (K:=K) rfl PySem.F.plainAttrs_tuple PySem.F.slot_tuple_count PySem.F.type_tuple_count Ki (qv 1) (aa (qv 0) ae)))))))),?_⟩
 subst e;have h9:=O.nine;have big:(1000:Nat)<sizeLine :=by decide
 simp! only[];have UP:∀row:List Int,(bH 0 net.length).map (GV row)=((ay net).map fun g=>((row.count g:Nat):Int)).map .int:=fun row=>by
  unfold bH ay;rw[sB,sB,sB];refine CS fun i _=>?_
  show GV row (.int (0+(i:Int)))=_;rw[DO];rfl
 refine⟨by omega,dO (GU net) (fun τ M=>(∃x,τ=[x,some (eN net)])/\M=Γ.M0) ⟨⟨_,rfl⟩,rfl⟩ (fun d hd τ M hI R hR=>?_) (fun τ M hI=>?_)⟩
 ·obtain⟨⟨x,rfl⟩,rfl⟩:=hI;obtain⟨row,yc,rfl⟩:=on.mp hd;simp! only[];refine⟨by omega,by omega,by omega,dO (GV row) (fun τ M=>(∃x,τ=[x,some (eI row)])/\M=Γ.M0) ⟨⟨_,rfl⟩,rfl⟩ (fun d hd τ M hI R2 sR=>?_) (fun τ M hI=>?_)⟩
  ·obtain⟨⟨x2,rfl⟩,rfl⟩:=hI;obtain⟨j,hj⟩:=mo.mp hd;obtain⟨rfl,Ja⟩:=bh hj;rw[DO]at sR;simp! only[eI,de];exact sR _ _ ⟨⟨_,rfl⟩,rfl⟩
  ·obtain⟨⟨x2,rfl⟩,rfl⟩:=hI;rw[UP];have e:GU net (eI row)=.lst (((ay net).map fun g=>((row.count g:Nat):Int)).map .int) :=by
    show (match cW (row.map Dv.int) with|some row=>bO ((ay net).map fun g=>((row.count g:Nat):Int))|none=>_)=_
    rw[de]
   rw[e]at hR;exact hR _ _ ⟨⟨_,rfl⟩,rfl⟩
 ·obtain⟨⟨x,rfl⟩,rfl⟩:=hI;have e:(net.map eI).map (GU net)=(js net).map bO :=by
   unfold js;rw[sB,sB];refine CS fun row _=>?_
   show (match cW (row.map Dv.int) with|some row=>bO ((ay net).map fun g=>((row.count g:Nat):Int))|none=>_)=_
   rw[de];rfl
  rw[e];exact .inl q
def GW (B:List (List Int)) (l:Nat) (lv:Int) (row:List Int):Dv->Dv
 | .int g=>.int (lv * row.getD g.toNat 0+row.getD l 0 * (B.getD l []).getD g.toNat 0)
 |d=>d
theorem GX {B:List (List Int)}{l:Nat}{lv:Int}{row:List Int}(h:((B.getD l []).take l).sum=lv):(bH 0 l).map (GW B l lv row)=(oI B l row).map .int :=by
 unfold bH oI;rw[sB,sB,h];refine CS fun i _=>?_
 show GW B l lv row (.int (0+(i:Int)))=_;rw[DO];rfl
def GY (B:List (List Int)) (l:Nat):Dv->Dv
 | .lst xs=>match cW xs with|some row=>bO (oI B l row)|none=>.lst xs
 |d=>d
theorem ye {B:List (List Int)}{l:Nat}(row:List Int):GY B l (bO row)=bO (oI B l row) :=by
 show (match cW (row.map Dv.int) with|some row=>bO (oI B l row)|none=>_)=_
 rw[de]
def UQ (g:Nat):Dv->Dv
 | .int x=>.int (x / (g:Int))
 |d=>d
def yf:cp:=fun ds M Q _=>∃A l,ds=[oJ A]/\qg A (l+1)/\l<=8/\(∀i j,i<l+1->j<l+1->0<=bF A i j/\bF A i j<2 ^ 1536)/\Q (oJ (nj A)) M
theorem sV {f:ac}{fd:l8}(D:Df K mg "without_last" eC ["counts"] f fd) (bl:Bl mg) :
  FnOk P w K mg base bf 1 f fd ["counts"] (aX P w K tb yf) :=by
 refine ez D iw (fun ds M Q E hS=>by obtain⟨A,l,e,_⟩:=hS;rw[e];rfl) fun A outer s E Γ ds Q' E' hP hw hK ht hr hS=>?_
 obtain⟨B,l,e,S,hl,hb,q⟩:=hS;refine⟨_,(ah (aI (i:=1) iw.nd rfl (FF rfl) (aM vK (ax (b8 (K:=K) rfl hK) rfl bl.len_ r9 (aa (qv 0) ae)) aq))
  (ah (aI (i:=2) iw.nd rfl (FF rfl) (ax (Im (K:=K) rfl rfl) rfl bl.sum_ YH (aa (mY (vL (K:=K) rfl) (aQ (bt (K:=K) rfl) (qv 0) (qv 1) (fun _ _=>rfl)) pj (pz (qv 1))) ae)))
  (ao (aU (oq (N':=["row","leaving","last","counts"]) (tn:=1) (idx:=[2,1,0]) rfl (show cc ["counts","last","leaving"] (ai eC) _ ["row","leaving","last","counts"] 1 [2,1,0] from by decide +kernel) (jN (K:=K) rfl (mY (vL (K:=K) rfl) (qv 0) pj (pz (qv 1)))) (fun _ _ _ _ _=>(aJ (i:=0) (show Cf [("row" : bn),("leaving" : bn),("last" : bn),("counts" : bn)] from by decide +kernel) rfl (FF rfl))) (fun _ _ _ _ _=>cm) (fun _ _ _ _ _=>(cY (N':=["goal","leaving","row","last","counts"]) (tn:=1) (idx:=[1,0,2,3]) rfl (aH.rel (show aH ["row","leaving","last","counts"] _ _ ["goal","leaving","row","last","counts"] 1 [1,0,2,3] from by decide +kernel)) (a9 rfl bl.range_ (aa (qv 2) ae)) (fun _ _ _ _ _=>(aJ (i:=0) (show Cf [("goal" : bn),("leaving" : bn),("row" : bn),("last" : bn),("counts" : bn)] from by decide +kernel) rfl (mT rfl))) (fun _ _ _ _ _=>cm) (fun _ _ _ _ _=>(aM fu (aM oC (qv 1) (aQ (bt (K:=K) rfl) (qv 2) (qv 0) (fun _ _=>rfl))) (aM oC (aQ (bt (K:=K) rfl) (qv 2) (qv 3) (fun _ _=>rfl)) (aQ (bt (K:=K) rfl) (aQ (bt (K:=K) rfl) (qv 4) (qv 3) (fun _ _=>rfl)) (qv 0) (fun _ _=>rfl)))))))))))),?_⟩
 subst e;have hB:=S.len;have big:(1000:Nat)<sizeLine :=by decide
 have e0:((B.length:Nat):Int) - 1=(l:Nat) :=by omega
 have cB:L2.cutD (B.map bO) none (some (l:Int))=(B.take l).map bO :=by rw[tN,Zq]
 obtain⟨_,iB⟩:=S.get (show l<l+1 by omega)
 have cR:L2.cutD ((B.getD l []).map .int) none (some (l:Int))=((B.getD l []).take l).map .int :=by rw[tN,Zq]
 simp! only[oJ,e0,yb S (show l<l+1 by omega),bO,cR,de]
 have hs:=ni (r:=B.getD l []) (l:=l) (by omega)
 have s0:0<=sumF l fun i=>(B.getD l []).getD i 0:=i5 fun i hi=>(hb l i (by omega) (by omega)).1
 have s1:sumF l (fun i=>(B.getD l []).getD i 0)<2 ^ 100000 :=by
  refine fP (x:=1540) (mE (x:=1536) ?_) (by decide)
  have p1:(0:Int)<2 ^ 1536:=OK (by decide)
  have s1:sumF l (fun i=>(B.getD l []).getD i 0)<=l * 2 ^ 1536:=mD fun k hk=>EM (hb l k (by omega) (by omega)).2
  have:(l:Int) * 2 ^ 1536<=8 * 2 ^ 1536:=EN (by omega) (EM p1)
  omega
 rw[<- hs]at s0 s1;rw[cB,ci];have tl:=List.length_take_le l B;have uu:∀{x:Int},x<2 ^ 1536->x<2 ^ 100000:=fun h=>fP h (by decide)
 generalize W2:((B.getD l []).take l).sum=lv at hs s0 s1
 refine⟨by omega,dO (GY B l) (fun τ M=>(∃x,τ=[x,some (.int lv),some (.int (l:Nat)),some (.lst (B.map bO))])/\M=Γ.M0) ⟨⟨_,rfl⟩,rfl⟩ (fun d hd τ M hI R hR=>?_) (fun τ M hI=>?_)⟩
 ·obtain⟨⟨x,rfl⟩,rfl⟩:=hI;obtain⟨row,yc,rfl⟩:=on.mp hd;obtain⟨i,hi⟩:=mo.mp yc;have jc:i<l :=by have:=(bv.mp hi).1;omega
  rw[X9 jc,(S.get (show i<l+1 by omega)).1]at hi
  have ei:=i8 hi;have mC:=(S.get (show i<l+1 by omega)).2
  rw[ei]at mC;have yg:∀j,j<l+1->0<=row.getD j 0/\row.getD j 0<2 ^ 1536:=fun j hj=>by
   have:=hb i j (by omega) hj
   unfold bF at this;rw[ei]at this;exact this
  rw[ye]at hR;simp! only[bO];refine⟨by omega,by omega,by omega,dO (GW B l lv row) (fun τ M=>(∃x,τ=[x,some (.int lv),some (.lst (row.map .int)),some (.int (l:Nat)),some (.lst (B.map bO))])/\M=Γ.M0) ⟨⟨_,rfl⟩,rfl⟩ (fun d hd τ M hI R2 sR=>?_) (fun τ M hI=>?_)⟩
  ·obtain⟨⟨x2,rfl⟩,rfl⟩:=hI;obtain⟨j,hj⟩:=mo.mp hd;obtain⟨rfl,Ja⟩:=bh hj;rw[DO]at sR;have h1:=yg j (by omega)
   have h2:=yg l (by omega)
   have h3:=hb l j (by omega) (by omega)
   unfold bF at h3;simp! only[mG (r:=row) (j:=j) (by omega),mG (r:=row) (j:=l) (by omega),yb S (show l<l+1 by omega),bO,mG (r:=B.getD l []) (j:=j) (by omega)]
   exact⟨mH s0 h1.1 s1 (uu h1.2),mH h2.1 h3.1 (uu h2.2) (uu h3.2),sR _ _ ⟨⟨_,rfl⟩,rfl⟩⟩
  ·obtain⟨⟨x2,rfl⟩,rfl⟩:=hI;rw[GX W2];exact hR _ _ ⟨⟨_,rfl⟩,rfl⟩
 ·obtain⟨⟨x,rfl⟩,rfl⟩:=hI;have e:((B.take l).map bO).map (GY B l)=(nj B).map bO :=by
   unfold nj;rw[show B.length - 1=l by omega,sB,sB]
   exact CS fun row _=>ye row
  rw[e];exact .inl q
def Ai:cp:=fun ds M Q _=>∃v:List Int,ds=[bO v]/\v≠[]/\v.length<=9/\(∀x∈v,1<=x/\x<2 ^ 9000)/\∀(u:List Int) (g:Nat),0<g->v=u.map (fun x=>(g:Int) * x)->dw u=1->Q (bO u) M
theorem EC {f f1:ac}{fd bP:l8}(D:Df K mg "shrunk" kI ["numbers"] f fd)
  (cQ:Df K mg "common_divisor" eV ["one","other"] f1 bP) (qR:FnOk P w K mg base bf 1 f1 bP ["one","other"] (aX P w K tb PL)) (bl:Bl mg) :
  FnOk P w K mg base bf 2 f fd ["numbers"] (aX P w K tb Ai) :=by
 refine ez D lJ (fun ds M Q E hS=>by obtain⟨v,e,_⟩:=hS;rw[e];rfl) fun A outer s E Γ ds Q' E' hP hw hK ht hr hS=>?_
 obtain⟨v,e,h0,hv,h1,q⟩:=hS;refine⟨_,(ah (aI (i:=1) lJ.nd rfl (FF rfl) aq)
  (ah (cM sK rfl (jN (K:=K) rfl (qv 0)) (fun iD eP ew eK et=>by have hP:=hP.trans eP.symm;have hw:=hw.trans ew.symm;have hK:=hK.trans eK.symm;have ht:=ht.trans et.symm;exact⟨(aJ (i:=2) lJ.nd rfl (mT rfl)),(ao (aI (i:=1) lJ.nd rfl (FF rfl) (aN qR (hr.mono (by decide)) rfl cQ.mg cQ.fn.kp cQ.bd bA hP hw hK ht XR.none (aa (qv 1) (aa (qv 2) ae)))))⟩))
  (ao (aU (cY (N':=["number","size"]) (tn:=1) (idx:=[1]) rfl (show aH ["numbers","size","number"] (ai kI) _ ["number","size"] 1 [1] from by decide +kernel) (jN (K:=K) rfl (qv 0)) (fun _ _ _ _ _=>(aJ (i:=0) (show Cf [("number" : bn),("size" : bn)] from by decide +kernel) rfl (mT rfl))) (fun _ _ _ _ _=>cm) (fun _ _ _ _ _=>(aM Kz (qv 0) (qv 1)))))))),?_⟩
 subst e;obtain⟨gp,e1,e2⟩:=GR h0 fun x hx=>(h1 x hx).1
 have gl:(dw v).log2<9000 :=by
  obtain⟨x,hx⟩:=List.exists_mem_of_ne_nil v h0;obtain⟨x1,x2⟩:=h1 x hx;have h:=Int.le_of_dvd (by omega) (qQ hx)
  have e:((2 ^ 9000:Nat):Int)=(2:Int) ^ 9000:=Int.natCast_pow 2 9000;rw[<- e]at x2;refine(Nat.log2_lt (by omega)).mpr ?_
  generalize 2 ^ 9000=z at x2 ⊢
  omega
 simp! only[bO];have big:(1000:Nat)<sizeLine :=by decide
 refine bz (fun k ρ M=>(∃x,ρ=[some (.lst (v.map .int)),some (.int (dw (v.take k):Nat)),x])/\M=Γ.M0/\k<=v.length) ⟨⟨_,rfl⟩,rfl,xb _⟩ (fun k d ρ M N hd hJ hN=>?_) (fun ρ M hJ=>?_)
 ·obtain⟨⟨x,rfl⟩,rfl,hk⟩:=hJ;rw[br]at hd;obtain⟨z,hz,rfl⟩:=lc.mp hd;have aT:=(bv.mp hz).1;simp! only[];refine⟨_,_,rfl,hN _ _ ⟨⟨some (.int z),?_⟩,rfl,aT⟩⟩;rw[XJ,hz,Zk,vm,Zj]
 ·obtain⟨⟨x,rfl⟩,rfl,hk⟩:=hJ;rw[ci,YB];simp! only[];refine⟨by omega,dO (UQ (dw v)) (fun τ M=>(∃x,τ=[x,some (.int (dw v:Nat))])/\M=Γ.M0) ⟨⟨_,rfl⟩,rfl⟩ (fun d hd τ M hI R hR=>?_) (fun τ M hI=>?_)⟩
  ·obtain⟨⟨x,rfl⟩,rfl⟩:=hI;obtain⟨z,hz,rfl⟩:=on.mp hd;simp! only[];exact⟨⟨by omega,gl⟩,hR _ _ ⟨⟨_,rfl⟩,rfl⟩⟩
  ·obtain⟨⟨x,rfl⟩,rfl⟩:=hI;have:=q _ _ gp e1 e2;unfold bO at this;rw[sB]at this ⊢;exact .inl this
end
section
variable {P:gc}{w:i4}{K:bi}{mg:bn->Option al}{base:hX}{tb:cz}{C_NoWhole:ac}
theorem dU:aO ["net","stages","told","counts","last","coming","leaving"] ["net"] (ai gX):=⟨rfl,rfl,rfl,by decide +kernel,rfl,by decide +kernel,by decide +kernel⟩
def BC (C:ac):cp:=fun ds M Q E=>∃net n,ds=[eN net]/\aY net n/\(cN net n->Q .au M)/\(¬ cN net n->E C M)
def BD (net:List (List Int)) (ws:List Int):Prop:=ya (bF (js net)) net.length 1600 ws
def yh (C:ac):cp:=fun ds M Q E=>∃net n,ds=[eN net]/\aY net n/\(cN net n->∀ws,BD net ws->Q (eI ws) M)/\(¬ cN net n->E C M)
def iy (net:List (List Int)) (t:Nat):List Dv:=(jp t).map fun i=>oJ (gB net i)
theorem iS {net:List (List Int)}{t:Nat}:(iy net t).length=t :=by unfold iy;rw[ci,GM]
theorem ED {net:List (List Int)}{t i:Nat}(h:i<t):(iy net t)[i]?=some (oJ (gB net i)) :=by unfold iy;rw[br,xw h];rfl
theorem GZ {net:List (List Int)}{t:Nat}:iy net t++[oJ (gB net t)]=iy net (t+1) :=by unfold iy;rw[YU,zn];rfl
theorem G0 {net:List (List Int)}{t:Nat}:cy (iy net (t+1)) (-1)=some (oJ (gB net t)) :=by
 unfold cy f7;rw[iS,if_neg (by decide),if_pos (by omega)]
 show (iy net (t+1))[(-1+((t+1:Nat):Int)).toNat]?=_;rw[show (-1+((t+1:Nat):Int)).toNat=t by omega,ED (by omega)]
theorem PU {M:Mh}(A:List (List Int)):Pin M (oJ A):=.lst fun d hd=>by
 obtain⟨r,_,rfl⟩:=on.mp hd;exact .lst fun d hd=>by obtain⟨x,_,rfl⟩:=on.mp hd;exact .int x
def PV (l:Nat):Dv->Int
 | .tup [.int v,.lst xs]=>(match cW xs with|some row=>v * row.getD l 0|none=>0)
 |_=>0
theorem PX {l:Nat}{v:Int}{row:List Int}(h:l<row.length):PV l (.tup [.int v,bO row])=v * row.getD l 0 :=by
 show (match cW (row.map Dv.int) with|some row=>v * row.getD l 0|none=>0)=_
 rw[de]
theorem KP {ws:List Int}{B:List (List Int)}{l l2:Nat}(h:ws.length=l) (h2:l<=B.length):((eA (ws.map .int) (B.map bO)).map (PV l2)).sum=sumF l fun i=>ws.getD i 0 * bF B i l2 :=by
 unfold eA sumF;refine congrArg List.sum (KM fun i=>?_)
 by_cases hi:i<l
 ·have e1:((ws.map Dv.int).zip (B.map bO))[i]?=some (.int (ws.getD i 0),bO (B.getD i [])) :=by
   refine zd.mpr ⟨by rw[br,kQ (by omega)];rfl,?_⟩
   have eB:B[i]?=some (B.getD i []) :=by rw[cr,ap (by omega)];rfl
   rw[br,eB];rfl
  rw[br,br,e1,br,xw hi];show some (match cW ((B.getD i []).map Dv.int) with|some row=>ws.getD i 0 * row.getD l2 0|none=>0)=_
  rw[de];rfl
 ·rw[wP (by rw[ci,ci,NH,ci,ci];omega),wP (by rw[ci,GM];omega)]
def PY (g:Int):Dv->Dv
 | .int x=>.int (x * g)
 |d=>d
theorem BE {f f1 f2 f3 f4:ac}{fd bP fd2 oF EF:l8}{vn aS:ac}(D:Df K mg "weights" gX ["net"] f fd) (lK:zk base fd vn aS) (hp:aS∈tb) (dX:∃bm ob,Yj base mainGlobals mg bm ob)
  (eL:Df K mg "need_whole" ie ["net"] f1 bP) (kR:FnOk P w K mg base (fq P w) 11 f1 bP ["net"] (aX P w K tb (BC C_NoWhole)))
  (dP:Df K mg "road_counts" fe ["net"] f2 fd2) (vB:FnOk P w K mg base bf 1 f2 fd2 ["net"] (aX P w K tb Ah))
  (dF:Df K mg "without_last" eC ["counts"] f3 oF) (t9:FnOk P w K mg base bf 1 f3 oF ["counts"] (aX P w K tb yf))
  (iT:Df K mg "shrunk" kI ["numbers"] f4 EF) (qS:FnOk P w K mg base bf 2 f4 EF ["numbers"] (aX P w K tb Ai)) (bl:Bl mg) :
  FnOk P w K mg base (fq P w) 12 f fd ["net"] (aX P w K tb (yh C_NoWhole)) :=by
 refine sx D dU (fun ds M Q E hS=>by obtain⟨net,n,e,_⟩:=hS;rw[e];rfl) fun A outer s E Γ ds Q' E' hP hw hK ht hE hr hS=>?_
 obtain⟨net,n,e,O,q1,q2⟩:=hS;have lR:aS∈Γ.tb:=ht▸hp;refine⟨_,(ah (iH (aN kR (hr.mono (by decide)) rfl eL.mg eL.fn.kp eL.bd vI hP hw hK ht hE (aa (qv 0) ae)))
  (ah (aI (i:=1) dU.nd rfl (mT rfl) (jM (aa (aN vB (hr.mono (by decide)) rfl dP.mg dP.fn.kp dP.bd bA hP hw hK ht XR.none (aa (qv 0) ae)) ae)))
  (ah (PS.ju (kf sK (bU w9 (ax (b8 (K:=K) rfl hK) rfl bl.len_ r9 (aa (aQ (bt (K:=K) rfl) (qv 1) (xh aq) (fun _ _=>rfl)) ae)) aq (bV _))
   (ao (iH (lu (K:=K) rfl FM NJ NL kh (qv 1) (aa (aN t9 (hr.mono (by decide)) rfl dF.mg dF.fn.kp dF.bd bA hP hw hK ht XR.none (aa (aQ (bt (K:=K) rfl) (qv 1) (xh aq) (fun _ _=>rfl)) ae)) ae))))))
  (ah (aI (i:=2) dU.nd rfl (mT rfl) (sk (aa aq ae)))
  (ah (DE 1 rfl (PS.ju (cM sK rfl (O6 (K:=K) rfl rfl bl.reversed_ (aa (mY (vL (K:=K) rfl) (qv 1) pj (pz (xh aq))) ae)) (fun iD eP ew eK et=>by have hP:=hP.trans eP.symm;have hw:=hw.trans ew.symm;have hK:=hK.trans eK.symm;have ht:=ht.trans et.symm;have lR:=et.symm▸lR;exact⟨(aJ (i:=3) dU.nd rfl (mT rfl)),(ah (aI (i:=4) dU.nd rfl (FF rfl) (ax (b8 (K:=K) rfl hK) rfl bl.len_ r9 (aa (qv 2) ae)))
  (ah (aI (i:=5) dU.nd rfl (mT rfl) (D9 (k:=0) (N':=["weight","row","last"]) (tn:=2) (idx:=[4]) lR (hr.mono (by decide)) rfl (show aH ["net","stages","told","counts","last","coming","leaving"] (ai gX) _ ["weight","row","last"] 2 [4] from by decide +kernel) rfl rfl lK.code lK.hd dX rfl bl.sum_ (Of true true (K:=K) rfl rfl bl.zip_ (qv 2) (qv 3)) (fun _ _ _ _ _ _ _ hr=>(Di (n:=2) rfl (mV (aJ (i:=0) (show Cf [("weight" : bn),("row" : bn),("last" : bn)] from by decide +kernel) rfl (mT rfl)) (mV (aJ (i:=1) (show Cf [("weight" : bn),("row" : bn),("last" : bn)] from by decide +kernel) rfl (mT rfl)) zI)))) (fun _ _ _ _ _ _ _ hr=>cm) (fun _ _ _ _ _ _ _ hr=>(aM oC (qv 0) (aQ (bt (K:=K) rfl) (qv 1) (qv 2) (fun _ _=>rfl))))))
  (ah (aI (i:=6) dU.nd rfl (FF rfl) (ax (Im (K:=K) rfl rfl) rfl bl.sum_ YH (aa (mY (vL (K:=K) rfl) (aQ (bt (K:=K) rfl) (qv 3) (qv 4) (fun _ _=>rfl)) pj (pz (qv 4))) ae)))
  (ao (aI (i:=2) dU.nd rfl (mT rfl) (aN qS (hr.mono (by decide)) rfl iT.mg iT.fn.kp iT.bd bA hP hw hK ht XR.none (aa (aM (OW (K:=K) rfl) (cY (N':=["weight","leaving"]) (tn:=1) (idx:=[6]) rfl (show aH ["net","stages","told","counts","last","coming","leaving"] (ai gX) _ ["weight","leaving"] 1 [6] from by decide +kernel) (jN (K:=K) rfl (qv 2)) (fun _ _ _ _ _=>(aJ (i:=0) (show Cf [("weight" : bn),("leaving" : bn)] from by decide +kernel) rfl (mT rfl))) (fun _ _ _ _ _=>cm) (fun _ _ _ _ _=>(aM oC (qv 0) (qv 1)))) (sk (aa (qv 5) ae))) ae)))))))⟩))))
  (ao (aU (lr (pA (K:=K) rfl) rfl bl.tuple_ gI (aa (qv 2) ae))))))))),?_⟩
 subst e;have h9:=O.nine;have h1:=O.one;have big:(1000:Nat)<sizeLine :=by decide
 simp! only[];refine⟨net,n,rfl,O,fun W=>?_,q2⟩
 simp! only[];refine⟨net,n,rfl,O,by omega,fun a ha=>?_⟩
 refine⟨fun m ρ M=>∃t,m=net.length - 1 - t/\t<net.length/\ρ=[some (eN net),some (.ptr a),none,none,none,none,none]/\M=aw Γ.M0 a (.lst (iy net (t+1))),⟨_,0,rfl,by omega,rfl,rfl⟩,?_⟩
 rintro m ρ M ⟨t,rfl,ht,rfl,rfl⟩;have sq:=sT ht;have sl:(gB net t).length=net.length - t:=sq.len;simp! only[G0,oJ,sl];refine eS (fun h=>?_) (fun h=>?_)
 ·have h:=of_decide_eq_true h;obtain⟨l,hl⟩:∃l,net.length - t=l+1:=⟨net.length - t - 1,by omega⟩
  refine⟨gB net t,l,rfl,by rw[<- hl];exact sq,by omega,fun i j hi hj=>xZ O W ht (by omega) (by omega),?_⟩
  dsimp only;rw[updM_same];refine⟨by rw[iS];omega,net.length - 1 - (t+1),by omega,t+1,rfl,by omega,?_⟩
  rw[updM_updM];exact congrArg (fun z=>aw Γ.M0 a (Mo.lst z)) GZ
 ·have h:=of_decide_eq_false h;obtain⟨m1,k8⟩:∃m1,net.length=m1+1:=⟨net.length - 1,by omega⟩
  have et:t=m1 :=by omega
  subst et;have dm:cZ (aw Γ.M0 a (.lst (iy net (t+1)))) a=Γ.M0:=Ba ha;have W3:∀M,Pin M (.lst (iy net (t+1))):=fun M=>.lst fun d hd=>by
   obtain⟨i,_,rfl⟩:=on.mp hd;exact PU _
  refine⟨by omega,.inr ⟨a,_,rfl,updM_same,ha,⟨fun j d e=>?_,fun c o e=>by rw[dm]at e;exact .inl e⟩,?_⟩⟩
  ·match j,e with
   |0,e=>cases e;exact Dy net
   |1,e=>cases e;exact W3 _
   |2,e=>cases e;exact .lst fun d hd=>by rw[lp.mp hd];exact .int _
   |3,e=>exact nomatch e
   |4,e=>exact nomatch e
   |5,e=>exact nomatch e
   |6,e=>exact nomatch e
   |j+7,e=>exact nomatch e
  rw[dm];have cs:L2.cutD (iy net (t+1)) none (some (-1))=iy net t :=by
   have e:L2.cutD (iy net (t+1)) none (some (-1))=((iy net (t+1)).drop 0).take ((-1+((iy net (t+1)).length:Int)).toNat - 0):=rfl;rw[e,iS,List.drop_zero,show (-1+((t+1:Nat):Int)).toNat - 0=t by omega]
   unfold iy;rw[<- Zq,List.take_range,show min t (t+1)=t by omega]
  simp! only[cs];refine bz (fun k ρ M=>∃ws c,(∃x3 x4 x5 x6,ρ=[some (eN net),some (.lst (iy net (t+1))),some (bO ws),x3,x4,x5,x6])/\M=Γ.M0/\k<=t/\ya (bF (gB net (t - k))) (k+1) c ws/\c+6 * 2 ^ (t - k)<=6 * 2 ^ t+1) ⟨[1],1,⟨_,_,_,_,rfl⟩,rfl,xb _,⟨rfl,fun x hx=>by rw[lp.mp hx];exact Y6 _,fun x hx=>by rw[lp.mp hx];decide,rfl,fun j hj=>by
    have:j=0 :=by omega
    subst this;show sumF 1 _=(1:Int) * sumF 1 _;rw[Int.one_mul];refine b9 fun i hi=>?_
    have:i=0 :=by omega
    subst this;exact Int.one_mul _⟩,by rw[Nat.sub_zero];omega⟩ (fun k d ρ M N hd hJ hN=>?_) (fun ρ M hJ=>?_)
  ·obtain⟨ws,c,⟨x3,x4,x5,x6,rfl⟩,rfl,hk,I,hc⟩:=hJ;have aT:k<t :=by have:=(bv.mp hd).1;rw[XY,iS]at this;exact this
   obtain⟨r,hr⟩:∃r,t - k=r+1:=⟨t - k - 1,by omega⟩
   rw[WS (by rw[iS];exact aT),iS,show t - 1 - k=r by omega,ED (by omega)]at hd
   cases hd;rw[hr]at I hc;rw[show t - (k+1)=r by omega]at hN
   have mC:r<net.length :=by omega
   have Tf:net.length - r=k+1+1 :=by omega
   have S:qg (gB net r) (k+1+1) :=by rw[<- Tf];exact sT mC
   have IR:nh (bF (gB net r)) (k+1+1) :=by rw[<- Tf];exact sU O W mC
   have hb:∀i j,i<k+1+1->j<k+1+1->bF (gB net r) i j<2 ^ lH r:=fun i j hi hj=>qP O W mC (by omega) (by omega)
   have ox:∀i j,i<k+1+1->j<k+1+1->0<=bF (gB net r) i j/\bF (gB net r) i j<2 ^ 100000:=fun i j hi hj=>⟨(xZ O W mC (by omega) (by omega)).1,fP (xZ O W mC (by omega) (by omega)).2 (by decide)⟩
   have I2:ya (fm (bF (gB net r)) (k+1)) (k+1) c ws:=⟨I.len,I.pos,I.lim,I.one,EB (fun i j hi hj=>t5 S hi hj) I.bal⟩
   obtain⟨u1,u2⟩:=RC IR (by omega) (by omega) hb I2
   have e1:1<=2 ^ r:=Nat.one_le_two_pow;have e2:2 ^ t<=2 ^ 8:=XS (by decide) (by omega)
   have W4:c+(lH r+4)=c+6 * 2 ^ r :=by unfold lH;omega
   rw[W4]at u1 u2;have hp:=Nat.pow_succ (n:=2) (m:=r);generalize gB net r=B at S IR hb ox I2 u1 u2 hN
   have eY:c<=1600 :=by omega
   have lw:=I.len;obtain⟨_,iB⟩:=S.get (show k+1<k+1+1 by omega)
   have el:((ws.length:Nat):Int)=((k+1:Nat):Int) :=by rw[lw]
   have cR:L2.cutD ((B.getD (k+1) []).map .int) none (some ((k+1:Nat):Int))=((B.getD (k+1) []).take (k+1)).map .int :=by rw[tN,Zq]
   have hs:((B.getD (k+1) []).take (k+1)).sum=sumF (k+1) (bF B (k+1)):=ni (r:=B.getD (k+1) []) (l:=k+1) (by omega)
   simp! only[bO,oJ,el];refine zY (PV (k+1)) (fun τ M=>(∃x y,τ=[x,y,some (.int ((k+1:Nat):Int))])/\M=Γ.M0) ⟨⟨_,_,rfl⟩,rfl⟩ (fun d hd τ M hI R hR=>?_) (fun τ M hI=>?_)
   ·obtain⟨⟨x,y,rfl⟩,rfl⟩:=hI;obtain⟨i,hi⟩:=mo.mp hd;obtain⟨x1,y1,rfl,hx,hy⟩:=uU hi;rw[br]at hx hy;obtain⟨v,hv,rfl⟩:=lc.mp hx;obtain⟨row,yc,rfl⟩:=lc.mp hy;have jc:i<k+1 :=by rw[<- lw];exact(bv.mp hv).1
    have Th:=dL hv;have mC:=S.row _ (dL yc);have yg:=ox i (k+1) (by omega) (by omega)
    unfold bF at yg;rw[cr (l:=B),yc]at yg;rw[PX (by omega)]at hR
    refine⟨rfl,?_⟩;simp! only[bO,mG (r:=row) (j:=k+1) (by omega)]
    exact⟨mH (by have:=I2.pos v Th;omega) yg.1 (fP (I2.lim v Th) (by omega)) yg.2,hR _ _ ⟨⟨_,_,rfl⟩,rfl⟩⟩
   ·obtain⟨⟨x,y,rfl⟩,rfl⟩:=hI;rw[DO,KP lw (by rw[S.len];omega)]
    simp only[yb S (show k+1<k+1+1 by omega),bO,cR,de,hs]
    refine⟨by omega,dO (PY (sumF (k+1) (bF B (k+1)))) (fun τ M=>(∃x,τ=[x,some (.int (sumF (k+1) (bF B (k+1))))])/\M=Γ.M0) ⟨⟨_,rfl⟩,rfl⟩ (fun d hd τ M hI R hR=>?_) (fun τ M hI=>?_)⟩
    ·obtain⟨⟨x,rfl⟩,rfl⟩:=hI;obtain⟨v,hv,rfl⟩:=on.mp hd;have s0:0<=sumF (k+1) (bF B (k+1)):=i5 fun i hi=>(ox (k+1) i (by omega) (by omega)).1
     have s1:sumF (k+1) (bF B (k+1))<2 ^ 100000 :=by
      have sle:sumF (k+1) (bF B (k+1))<=(k+1:Nat) * 2 ^ lH r:=mD fun i hi=>EM (hb (k+1) i (by omega) (by omega))
      have p1:(0:Int)<2 ^ lH r:=OK (by decide)
      have rC:((k+1:Nat):Int) * 2 ^ lH r<=9 * 2 ^ lH r:=EN (by omega) (EM p1)
      exact fP (x:=lH r+4) (mE (by omega)) (by unfold lH;omega)
     simp! only[];exact⟨mH (by have:=I2.pos v hv;omega) s0 (fP (I2.lim v hv) (by omega)) s1,hR _ _ ⟨⟨_,rfl⟩,rfl⟩⟩
    ·obtain⟨⟨x,rfl⟩,rfl⟩:=hI;have ev:(ws.map Dv.int).map (PY (sumF (k+1) (bF B (k+1))))++[Dv.int (sumF (k+1) fun i=>ws.getD i 0 * bF B i (k+1))]=(nE (bF B) (k+1) ws).map .int :=by
      unfold nE;rw[zn,sB,sB];rfl
     rw[ci,ci];refine⟨by omega,by omega,nE (bF B) (k+1) ws,congrArg (fun z=>[Dv.lst z]) ev,by unfold nE;simp,by unfold nE;rw[wb,ci,Na];omega,fun x hx=>⟨(u1 x hx).1,fP (u1 x hx).2 (by omega)⟩,fun u g hg eu hu=>?_⟩
     exact hN _ _ ⟨u,_,⟨_,_,_,_,rfl⟩,rfl,aT,u2 u g (by omega) eu hu,by omega⟩
  ·obtain⟨ws,c,⟨x3,x4,x5,x6,rfl⟩,rfl,hk,I,hc⟩:=hJ;rw[XY,iS,W1]at I hc;simp! only[bO];exact .inl (q1 W ws ⟨by rw[k8];exact I.len,I.pos,fun x hx=>fP (I.lim x hx) (by have e2:2 ^ t<=2 ^ 8:=XS (by decide) (by omega);omega),I.one,by rw[k8];exact I.bal⟩)
end
section
variable {P:gc}{w:i4}{K:bi}{mg:bn->Option al}{base:hX}{tb:cz}{C_RoadError C_NoNet C_NoPlace C_NoSign C_NoWord C_NoWhole:ac}{cs:List ac}
theorem oK:aO ["_law_net_here","e"] ["_law_net_here"] (ai iY):=⟨rfl,rfl,rfl,by decide +kernel,rfl,by decide +kernel,by decide +kernel⟩
theorem bp:aO ["_law_net_here","_law_found","_law_measure","_law_number","_law_come","_law_place","_law_row","_law_there"] ["_law_net_here","_law_found"] (ai dg):=⟨rfl,rfl,rfl,by decide +kernel,rfl,by decide +kernel,by decide +kernel⟩
theorem nF:aO ["_law_net_here","_law_found"] ["_law_net_here"] (ai ik):=⟨rfl,rfl,rfl,by decide +kernel,rfl,by decide +kernel,by decide +kernel⟩
def Aj:cp:=fun ds M Q _=>∃net n,ds=[eN net]/\aY net n/\(cN net n->∀ws,BD net ws->Q (eI ws) M)/\(¬ cN net n->Q (.str "whole") M)
theorem yQ {f f1:ac}{fd bP:l8}(D:Df K mg "_law_told" iY ["_law_net_here"] f fd)
  (fQ:Df K mg "weights" gX ["net"] f1 bP) (oM:FnOk P w K mg base (fq P w) 12 f1 bP ["net"] (aX P w K tb (yh C_NoWhole)))
  (X_:tF K C_RoadError cs) (jQ:C_NoNet∈cs) (oN:C_NoPlace∈cs) (qT:C_NoSign∈cs) (qU:C_NoWord∈cs) (dC:C_NoWhole∈cs) (nd:[C_NoNet,C_NoPlace,C_NoSign,C_NoWord,C_NoWhole].Nodup)
  (lU:mg "RoadError" = some (.ref C_RoadError)) (jR:mg "NoNet" = some (.ref C_NoNet)) (oO:mg "NoPlace" = some (.ref C_NoPlace)) (qV:mg "NoSign" = some (.ref C_NoSign)) (qX:mg "NoWord" = some (.ref C_NoWord)) (gY:mg "NoWhole" = some (.ref C_NoWhole)) (bl:Bl mg) :
  FnOk P w K mg base bf 13 f fd ["_law_net_here"] (aX P w K tb Aj) :=by
 refine ez D oK (fun ds M Q E hS=>by obtain⟨net,n,e,_⟩:=hS;rw[e];rfl) fun A outer s E Γ ds Q' E' hP hw hK ht hr hS=>?_
 obtain⟨net,n,e,O,q1,q2⟩:=hS;refine⟨_,(ao (Od (i:=1) (nn:=2) rfl oK.nd rfl rfl ⟨rfl,rfl⟩ rfl X_.top rfl lU (fun T pn EE E2 iD OM W5 W6 W7 hp W8=>by
   have hP:=hP.trans OM.symm;have hw:=hw.trans W5.symm;have hK:=hK.trans W6.symm;have ht:=ht.trans W7.symm;exact(ao (aU (aN oM (hr.mono (by decide)) rfl fQ.mg fQ.fn.kp fQ.bd hp hP hw hK ht W8 (aa (qv 0) ae)))))
   (fun ea=>(ah (dM (QW.pt (Dh (ej (ax (Ih (K:=K) rfl) rfl bl.isinstance_ b7 (aa (qv 1) (aa (ka (v:=.ref C_NoWhole) rfl gY rfl) ae)))) (zH (fJ (ej (ax (Ih (K:=K) rfl) rfl bl.isinstance_ b7 (aa (qv 1) (aa (sj (aa (ka (v:=.ref C_NoNet) rfl jR rfl) (aa (ka (v:=.ref C_NoPlace) rfl oO rfl) (aa (ka (v:=.ref C_NoSign) rfl qV rfl) (aa (ka (v:=.ref C_NoWord) rfl qX rfl) ae))))) ae))))))))
   (ao (aU mn))
   qss_nil)
  (ao (aU mn)))))),?_⟩
 subst e;simp! only[];refine⟨net,n,rfl,O,fun W ws PZ=>?_,fun h=>⟨X_.sub _ dC,?_⟩⟩
 ·exact .inl (q1 W ws PZ)
 ·have hC:=X_.cl _ dC;have G1:PySem.W.kitAny K (.ref C_NoWhole) ([C_NoNet,C_NoPlace,C_NoSign,C_NoWord].map l5)=some false :=by
   rw[X_.any dC (by simp[jQ,oN,qT,qU])]
   congr 1
   simp at nd ⊢;simp[nd,AN]
  simp only[ss,SB]at G1;simp! only[G1,X_.one _ dC _ dC];refine⟨hC,by decide,hC,[C_NoNet,C_NoPlace,C_NoSign,C_NoWord],rfl,?_⟩
  simp only[ss,SB,G1];exact .inl (q2 h)
theorem G2 {d:Dv}{t:Dt}{M:Mh}{Q:ZK}(h:bY (now M d)=some t) (hp:k4 t<=60) (q:Q (.bl true) M):qA false d d M Q :=by
 unfold qA;rw[h];refine⟨hp,?_⟩;rw[j6];exact q
def iz (net:List (List Int)) (ws:List Int) (k l j:Nat):Int:=sumF k (fun i=>ws.getD i 0 * ((net.getD i []).count (j:Int):Nat))+ws.getD k 0 * (((net.getD k []).take l).count (j:Int):Nat)
def dZ (net:List (List Int)) (ws:List Int) (k l:Nat):List Int:=(jp net.length).map (iz net ws k l)
theorem iU {net:List (List Int)}{ws:List Int}{k l:Nat}:(dZ net ws k l).length=net.length :=by unfold dZ;rw[ci,GM]
theorem mI {net:List (List Int)}{ws:List Int}{k l j:Nat}(h:j<net.length):(dZ net ws k l)[j]?=some (iz net ws k l j) :=by unfold dZ;rw[br,xw h];rfl
theorem EG {net:List (List Int)}{ws:List Int}:dZ net ws 0 0=io net.length 0 :=by
 refine KM fun j=>?_
 by_cases h:j<net.length
 ·rw[mI h,BS,if_pos h];unfold iz;rw[lF,Y2];simp
 ·rw[wP (by rw[iU];omega),wP (by rw[Fa];omega)]
theorem KQ {net:List (List Int)}{ws:List Int}{k:Nat}:dZ net ws k (net.getD k []).length=dZ net ws (k+1) 0 :=by
 unfold dZ;refine CS fun j _=>?_
 unfold iz;rw[YB,Y2,bT];simp
theorem G3 {net:List (List Int)}{ws:List Int}{k l x:Nat}(hx:(net.getD k [])[l]?=some (x:Int)) (h:x<net.length):(dZ net ws k l).set x (iz net ws k l x+ws.getD k 0)=dZ net ws k (l+1) :=by
 refine KM fun j=>?_
 by_cases hj:j<net.length
 ·rw[mI hj,Ll,iU];have e:iz net ws k (l+1) j=iz net ws k l j+if x=j then ws.getD k 0 else 0 :=by
   unfold iz;rw[XJ,hx,List.count_append,Zk,List.count_singleton];by_cases e:x=j
   ·subst e;rw[if_pos (by simp),if_pos rfl,Int.natCast_add,Y7]
    simp[Int.add_assoc]
   ·rw[if_neg (by simp;omega),if_neg e]
    simp
  rw[e];by_cases e:x=j
  ·subst e;rw[if_pos rfl,if_pos hj,if_pos rfl]
  ·rw[if_neg e,if_neg e,mI hj,Int.add_zero]
 ·rw[wP (by rw[Lu,iU];omega),wP (by rw[iU];omega)]
theorem G4 {net:List (List Int)}{n:Nat}{ws:List Int}(O:aY net n) (h:BD net ws):dZ net ws net.length 0=ws.map fun x=>(n:Int) * x :=by
 have hl:=h.len;refine KM fun j=>?_
 by_cases hj:j<net.length
 ·rw[mI hj,br,kQ (by omega),AT]
  have b:=h.bal j hj;rw[b9 (g:=fun i=>ws.getD i 0 * ((net.getD i []).count (j:Int):Nat)) fun i hi=>by rw[mF hi hj]]at b
  have rs:sumF net.length (bF (js net) j)=(n:Int) :=by
   have mC:(net.getD j []).length=n :=by rw[getD_at hj];exact(O.row _ (u8 _)).1
   have mx:∀x∈net.getD j [],∃y:Nat,x=y/\y<net.length:=fun x hx=>by
    obtain⟨a,ha,rfl⟩:=(oG O hj).mp hx;obtain⟨h1,h2⟩:=a8.mp (gO O (fg hj) ha);exact⟨(fw net (j:Int) a).toNat,by omega,by omega⟩
   rw[b9 fun i hi=>mF hj hi,<- mC]
   generalize net.getD j []=r at mx
   generalize net.length=m at mx
   induction r with
   |nil=>
    rw[b9 (g:=fun _=>0) fun i _=>by simp]
    exact(fO m 0 fun _=>0).trans (Int.zero_mul _) |> fun e=>by simpa using e
   |cons x r ih=>
    obtain⟨y,rfl,hy⟩:=mx x ma;have ih:=ih fun z hz=>mx z (i0 _ hz)
    rw[b9 (g:=fun i=>((r.count (i:Int):Nat):Int)+if y=i then 1 else 0) fun i _=>by
     rw[List.count_cons];by_cases e:y=i
     ·subst e;simp
     ·rw[if_neg (by simp;omega),if_neg e];simp,qO,ih]
    have one:∀m,y<m->sumF m (fun i=>if y=i then (1:Int) else 0)=1:=fun m hm=>by
     induction m with
     |zero=>omega
     |succ m W9=>
      rw[bT];by_cases e:y=m
      ·subst e;rw[if_pos rfl,b9 (g:=fun _=>0 * 0) fun i hi=>by rw[if_neg (by omega)];rfl,fO]
       simp
      ·rw[if_neg e,W9 (by omega)];rfl
    rw[one m hy];simp
  rw[rs]at b;have e0:iz net ws net.length 0 j=ws.getD j 0 * n :=by
   unfold iz;rw[b,Y2];simp
  rw[e0,XM]
 ·rw[wP (by rw[iU];omega),wP (by rw[ci];omega)]
def P0 (n:Nat):Dv->Dv
 | .int x=>.int ((n:Int) * x)
 |d=>d
theorem KR {d e:Dv}{t:Dt}{M:Mh}{Q:ZK}(h:bY (now M d)=some t) (h2:bY (now M e)=some t) (hp:k4 t<=60) (q:Q (.bl true) M):qA false d e M Q :=by
 unfold qA;rw[h,h2];refine⟨hp,?_⟩;rw[j6];exact q
def P1:cp:=fun ds M Q _=>∃net n ws,ds=[eN net,eI ws]/\aY net n/\BD net ws/\Q (.bl true) M
theorem oP {f f1:ac}{fd bP:l8}(D:Df K mg "_law_are_weights" dg ["_law_net_here","_law_found"] f fd)
  (dG:Df K mg "_law_divisor" fV ["_law_one","_law_other"] f1 bP) (ua:FnOk P w K mg base bf 1 f1 bP ["_law_one","_law_other"] (aX P w K tb fun ds M Q _=>∃a b:Nat,ds=[.int (a:Nat),.int (b:Nat)]/\Q (.int (OF a b:Nat)) M)) (bl:Bl mg) :
  FnOk P w K mg base bf 2 f fd ["_law_net_here","_law_found"] (aX P w K tb P1) :=by
 refine ez D bp (fun ds M Q E hS=>by obtain⟨net,n,ws,e,_⟩:=hS;rw[e];rfl) fun A outer s E Γ ds Q' E' hP hw hK ht hr hS=>?_
 obtain⟨net,n,ws,e,O,I,q⟩:=hS;refine⟨_,(ah (dM (QW.pt (pf (fJ (ej (ax (gK (K:=K) rfl) rfl bl.isinstance_ b7 (aa (qv 1) (aa (iF (v:=.ty "tuple") rfl bl.tuple_ gI rfl) ae))))) (og (bU N6 (ax (b8 (K:=K) rfl hK) rfl bl.len_ r9 (aa (qv 1) ae)) (ax (b8 (K:=K) rfl hK) rfl bl.len_ r9 (aa (qv 0) ae)) (bV _)))))
   (ao (aU lg))
   qss_nil)
  (ah (aI (i:=2) bp.nd rfl (mT rfl) aq)
  (ah (cM sK rfl (ke (K:=K) rfl (qv 1)) (fun iD eP ew eK et=>by have hP:=hP.trans eP.symm;have hw:=hw.trans ew.symm;have hK:=hK.trans eK.symm;have ht:=ht.trans et.symm;exact⟨(aJ (i:=3) bp.nd rfl (mT rfl)),(ah (dM (QW.pt (pf (fJ (ej (ax (gK (K:=K) rfl) rfl bl.isinstance_ b7 (aa (qv 3) (aa (iF (v:=.ty "int") rfl bl.int_ CG rfl) ae))))) (pf (ej (ax (gK (K:=K) rfl) rfl bl.isinstance_ b7 (aa (qv 3) (aa (iF (v:=.ty "bool") rfl bl.bool_ zj rfl) ae)))) (og (bU w6 (qv 3) aq (bV _))))))
   (ao (aU lg))
   qss_nil)
  (ao (aI (i:=2) bp.nd rfl (mT rfl) (aN ua (hr.mono (by decide)) rfl dG.mg dG.fn.kp dG.bd bA hP hw hK ht XR.none (aa (qv 2) (aa (qv 3) ae))))))⟩))
  (ah (aI (i:=4) bp.nd rfl (mT rfl) (aM D2 (sk (aa aq ae)) (ax (b8 (K:=K) rfl hK) rfl bl.len_ r9 (aa (qv 0) ae))))
  (ah (cM sK rfl (J9 false (K:=K) rfl rfl bl.enumerate_ (qv 0)) (fun iD eP ew eK et=>by have hP:=hP.trans eP.symm;have hw:=hw.trans ew.symm;have hK:=hK.trans eK.symm;have ht:=ht.trans et.symm;exact⟨(Di (n:=2) rfl (mV (aJ (i:=5) bp.nd rfl (mT rfl)) (mV (aJ (i:=6) bp.nd rfl (mT rfl)) zI))),(ao (cM sK rfl (ke (K:=K) rfl (qv 6)) (fun iD eP ew eK et=>by have hP:=hP.trans eP.symm;have hw:=hw.trans ew.symm;have hK:=hK.trans eK.symm;have ht:=ht.trans et.symm;exact⟨(aJ (i:=7) bp.nd rfl (mT rfl)),(ao (kb (aM fu (aQ (bt (K:=K) rfl) (qv 4) (qv 7) (fun _ _=>rfl)) (aQ (bt (K:=K) rfl) (qv 1) (qv 5) (fun _ _=>rfl))) (ki (qv 4) (qv 7))))⟩)))⟩))
  (ao (aU (si (jL qz (qv 2) aq (bV _)) (mq (jL (Ie hr.units) (qv 4) (cY (N':=["_law_number","_law_net_here"]) (tn:=1) (idx:=[0]) rfl (show aH ["_law_net_here","_law_found","_law_measure","_law_number","_law_come","_law_place","_law_row","_law_there"] (ai dg) _ ["_law_number","_law_net_here"] 1 [0] from by decide +kernel) (ke (K:=K) rfl (qv 1)) (fun _ _ _ _ _=>(aJ (i:=0) (show Cf [("_law_number" : bn),("_law_net_here" : bn)] from by decide +kernel) rfl (mT rfl))) (fun _ _ _ _ _=>cm) (fun _ _ _ _ _=>(aM oC (ax (b8 (K:=K) rfl hK) rfl bl.len_ r9 (aa (aQ (bt (K:=K) rfl) (qv 1) aq (fun _ _=>rfl)) ae)) (qv 0)))) (bV _))))))))))),?_⟩
 subst e;have h9:=O.nine;have WG:=O.wid;have h1:=O.one;have hl:=I.len;have big:(1000:Nat)<sizeLine :=by decide
 simp! only[eI];refine⟨by decide,?_⟩
 rw[if_neg (by rw[hl];simp)]
 refine bz (fun k ρ M=>(∃x3,ρ=[some (eN net),some (.tup (ws.map .int)),some (.int (dw (ws.take k):Nat)),x3,none,none,none,none])/\M=Γ.M0/\k<=ws.length) ⟨⟨_,rfl⟩,rfl,xb _⟩ (fun k d ρ M N hd hJ hN=>?_) (fun ρ M hJ=>?_)
 ·obtain⟨⟨x3,rfl⟩,rfl,hk⟩:=hJ;rw[br]at hd;obtain⟨z,hz,rfl⟩:=lc.mp hd;have aT:=(bv.mp hz).1;have XI:=I.pos z (dL hz);obtain⟨y,rfl⟩:=BY (show 0<=z by omega)
  simp! only[];refine⟨by decide,by decide,?_⟩
  rw[if_neg (by simp;omega)]
  refine⟨_,_,rfl,hN _ _ ⟨⟨some (.int (y:Nat)),?_⟩,rfl,aT⟩⟩;rw[XJ,hz,Zk,vm,Zj]
 ·obtain⟨⟨x3,rfl⟩,rfl,hk⟩:=hJ;rw[ci,YB,I.one];simp! only[];refine⟨by omega,⟨by omega,by omega,by omega⟩,fun a ha=>?_⟩
  have e0:(io net.length [Dv.int 0]).flatten=(dZ net ws 0 0).map .int :=by
   rw[EG,List.map_replicate,List.flatten_replicate_singleton]
  rw[e0];refine bz (fun k ρ M=>(∃x5 x6 x7,ρ=[some (eN net),some (.tup (ws.map .int)),some (.int (1:Nat)),x3,some (.ptr a),x5,x6,x7])/\M=aw Γ.M0 a (.lst ((dZ net ws k 0).map .int))/\k<=net.length) ⟨⟨_,_,_,rfl⟩,rfl,xb _⟩ (fun k d ρ M N hd hJ hN=>?_) (fun ρ M hJ=>?_)
  ·obtain⟨⟨x5,x6,x7,rfl⟩,rfl,hk⟩:=hJ;obtain⟨x,y,rfl,ex,ey⟩:=uU hd;obtain⟨rfl,EH⟩:=Kd ex;rw[br,ap EH]at ey;have er:net[k]=net.getD k []:=(getD_at EH).symm;rw[er]at ey;cases ey;rw[<- KQ]at hN;have mx:∀(l:Nat) (x:Int),(net.getD k [])[l]?=some x->∃y:Nat,x=y/\y<net.length:=fun l x hx=>by
    obtain⟨a,ha,rfl⟩:=(oG O EH).mp (dL hx);obtain⟨h1,h2⟩:=a8.mp (gO O (fg EH) ha);exact⟨(fw net (k:Int) a).toNat,by omega,by omega⟩
   refine⟨rfl,?_⟩;simp! only[eI];refine bz (fun l ρ M=>(∃x7,ρ=[some (eN net),some (.tup (ws.map .int)),some (.int (1:Nat)),x3,some (.ptr a),some (.int (k:Nat)),some (eI (net.getD k [])),x7])/\M=aw Γ.M0 a (.lst ((dZ net ws k l).map .int))/\l<=(net.getD k []).length) ⟨⟨_,rfl⟩,rfl,xb _⟩ (fun l d ρ M N2 hd hJ my=>?_) (fun ρ M hJ=>?_)
   ·obtain⟨⟨x7,rfl⟩,rfl,iB⟩:=hJ;rw[br]at hd;obtain⟨z,hz,rfl⟩:=lc.mp hd;have aT:=(bv.mp hz).1;obtain⟨y,rfl,hy⟩:=mx l z hz;have Pn:cy ((dZ net ws k l).map Dv.int) (y:Nat)=some (.int (iz net ws k l y)):=cf (by rw[br,mI hy];rfl)
    have ix:f7 (dZ net ws k l).length (y:Nat)=some y:=mB (by rw[iU];exact hy)
    simp! only[Pn,mG (r:=ws) (j:=k) (by omega),ix]
    exact my _ _ ⟨⟨_,rfl⟩,by rw[<- G3 hz hy,ZO],aT⟩
   ·obtain⟨⟨x7,rfl⟩,rfl,iB⟩:=hJ;rw[ci];exact hN _ _ ⟨⟨_,_,_,rfl⟩,rfl,EH⟩
  ·obtain⟨⟨x5,x6,x7,rfl⟩,rfl,hk⟩:=hJ;rw[pairsD_len,numD_len,ci,Pd,G4 O I];have Eg:(net.getD 0 []).length=n :=by
    rw[getD_at (by omega)]
    exact(O.row _ (u8 _)).1
   have Ti:=sJ (net:=net) (p:=0) (a8.mpr ⟨by omega,by omega⟩)
   rw[Int.toNat_zero]at Ti;simp! only[];rw[if_pos (by decide)]
   refine⟨by omega,dO (P0 n) (fun τ M=>(∃x,τ=[x,some (eN net)])/\M=aw Γ.M0 a (.lst ((ws.map fun x=>(n:Int) * x).map .int))) ⟨⟨_,rfl⟩,rfl⟩ (fun d hd τ M hI R hR=>?_) (fun τ M hI=>?_)⟩
   ·obtain⟨⟨x,rfl⟩,rfl⟩:=hI;obtain⟨v,hv,rfl⟩:=on.mp hd;simp! only[Ti,Eg];exact⟨mH (by omega) (by have:=I.pos v hv;omega) (fP (x:=2) (by omega) (by decide)) (fP (I.lim v hv) (by decide)),hR _ _ ⟨⟨_,rfl⟩,rfl⟩⟩
   ·obtain⟨⟨x,rfl⟩,rfl⟩:=hI;have e:(ws.map Dv.int).map (P0 n)=(ws.map fun x=>(n:Int) * x).map .int :=by
     rw[sB,sB];rfl
    rw[e];generalize (ws.map fun x=>(n:Int) * x)=vs
    refine KR (t:=.lst (vs.map Dt.int)) (by simp only[now,updM_same,bY,qD,AT]) (by simp only[now,bY,qD,AT]) (by rw[k4];have:=Kb vs;omega) ?_
    exact uT (.upd ha .refl) (.bl _) q
def yi:cp:=fun ds M Q _=>∃net n,ds=[eN net]/\aY net n/\Q (.bl true) M
theorem yj {f f1 f2 f3:ac}{fd bP fd2 oF:l8}(D:Df K mg "_law_right" ik ["_law_net_here"] f fd)
  (fk:Df K mg "_law_told" iY ["_law_net_here"] f1 bP) (yR:FnOk P w K mg base bf 13 f1 bP ["_law_net_here"] (aX P w K tb Aj))
  (eO:Df K mg "_law_whole" fL ["_law_net_here"] f2 fd2) (yk:FnOk P w K mg base bf 2 f2 fd2 ["_law_net_here"] (aX P w K tb fun ds M Q _=>∃net n,ds=[eN net]/\aY net n/\Q (.bl (decide (cN net n))) M))
  (cq:Df K mg "_law_are_weights" dg ["_law_net_here","_law_found"] f3 oF) (oQ:FnOk P w K mg base bf 2 f3 oF ["_law_net_here","_law_found"] (aX P w K tb P1)) (bl:Bl mg) :
  FnOk P w K mg base bf 14 f fd ["_law_net_here"] (aX P w K tb yi) :=by
 refine ez D nF (fun ds M Q E hS=>by obtain⟨net,n,e,_⟩:=hS;rw[e];rfl) fun A outer s E Γ ds Q' E' hP hw hK ht hr hS=>?_
 obtain⟨net,n,e,O,q⟩:=hS;refine⟨_,(ah (aI (i:=1) nF.nd rfl (mT rfl) (aN yR (hr.mono (by decide)) rfl fk.mg fk.fn.kp fk.bd bA hP hw hK ht XR.none (aa (qv 0) ae)))
  (ah (dM (fJ (ej (aN yk (hr.mono (by decide)) rfl eO.mg eO.fn.kp eO.bd bA hP hw hK ht XR.none (aa (qv 0) ae))))
   (ao (aU (jL (Ie hr.units) (qv 1) mn (bV _))))
   qss_nil)
  (ao (aU (aN oQ (hr.mono (by decide)) rfl cq.mg cq.fn.kp cq.bd bA hP hw hK ht XR.none (aa (qv 0) (aa (qv 1) ae))))))),?_⟩
 subst e;simp! only[];refine⟨net,n,rfl,O,fun W ws PZ=>?_,fun W=>?_⟩
 ·simp! only[];refine⟨net,n,rfl,O,?_⟩;rw[decide_eq_true W,if_neg (by decide)]
  exact⟨net,n,ws,rfl,O,PZ,.inl q⟩
 ·simp! only[];refine⟨net,n,rfl,O,?_⟩;rw[decide_eq_false W,if_pos (by decide)]
  exact G2 (t:=.str "whole") rfl (Nat.le_of_ble_eq_true rfl) (.inl q)
end
section
variable {P:gc}{w:i4}{K:bi}{mg:bn->Option al}{base:hX}{tb:cz}
theorem kT:aO ["_law_script","_law_k","_law_bag_here","_law_net_here","_law_many","_law_ways","_law_ladder"] ["_law_script"] (ai vN):=⟨rfl,rfl,rfl,by decide +kernel,rfl,by decide +kernel,by decide +kernel⟩
def yl (m n:Nat):List (List Int):=(jp m).map fun i:Nat=>(((i:Int)+1) % (m:Int))::io (n - 1) 0
def BF (m n:Nat):Dv->Dv
 | .int i=>eI (((i+1) % (m:Int))::io (n - 1) 0)
 |d=>d
theorem KS (m n:Nat):(bH 0 m).map (BF m n)=(yl m n).map eI :=by
 unfold bH yl;rw[sB,sB];refine CS fun i _=>?_
 show BF m n (.int (0+(i:Int)))=_;rw[DO];rfl
theorem KU {α:Type}(d:α) (k:Nat):(io k [d]).flatten=io k d :=by
 induction k with
 |zero=>rfl
 |succ k ih=>rw[ze,JJ,ih,ze];rfl
theorem P2 {f f1 f2 f3 f4:ac}{fd bP fd2 oF EF:l8}(D:Df K mg "law" vN ["_law_script"] f fd)
  (fY:Df K mg "_law_bag" jF ["_law_script","_law_at"] f1 bP) (BG:FnOk P w K mg base bf 1 f1 bP ["_law_script","_law_at"] (aX P w K tb Pm))
  (fZ:Df K mg "_law_net" eX ["_law_bag_here","_law_most"] f2 fd2) (BH:FnOk P w K mg base bf 3 f2 fd2 ["_law_bag_here","_law_most"] (aX P w K tb IL))
  (av:Df K mg "_law_take" fi ["_law_bag_here","_law_many"] f3 oF) (bR:FnOk P w K mg base bf 1 f3 oF ["_law_bag_here","_law_many"] (aX P w K tb vO))
  (cF:Df K mg "_law_right" ik ["_law_net_here"] f4 EF) (oR:FnOk P w K mg base bf 14 f4 EF ["_law_net_here"] (aX P w K tb yi)) (bl:Bl mg) :
  FnOk P w K mg base bf 15 f fd ["_law_script"] (aX P w K tb Oh) :=by
 refine ez D kT (fun ds M Q E hS=>by obtain⟨ns,e,_⟩:=hS;rw[e];rfl) fun A outer s E Γ ds Q' E' hP hw hK ht hr hS=>?_
 obtain⟨ns,e,hl,hM,q⟩:=hS;refine⟨_,(ah (cM sK rfl (a9 rfl bl.range_ (aa (ax (N9 rfl) rfl bl.max_ Nb (aa aq (aa (ax (xc rfl) rfl bl.min_ rW (aa aq (aa (ax (b8 (K:=K) rfl hK) rfl bl.len_ r9 (aa (qv 0) ae)) ae))) ae))) ae)) (fun iD eP ew eK et=>by have hP:=hP.trans eP.symm;have hw:=hw.trans ew.symm;have hK:=hK.trans eK.symm;have ht:=ht.trans et.symm;exact⟨(aJ (i:=1) kT.nd rfl (mT rfl)),(ah (aI (i:=2) kT.nd rfl (mT rfl) (aN BG (hr.mono (by decide)) rfl fY.mg fY.fn.kp fY.bd bA hP hw hK ht XR.none (aa (qv 0) (aa (qv 1) ae))))
  (ah (aI (i:=3) kT.nd rfl (mT rfl) (aN BH (hr.mono (by decide)) rfl fZ.mg fZ.fn.kp fZ.bd bA hP hw hK ht XR.none (aa (qv 2) (aa aq ae))))
  (ah (aI (i:=4) kT.nd rfl (FF rfl) (aM fu aq (aN bR (hr.mono (by decide)) rfl av.mg av.fn.kp av.bd bA hP hw hK ht XR.none (aa (qv 2) (aa aq ae)))))
  (ah (aI (i:=5) kT.nd rfl (FF rfl) (aM fu aq (aN bR (hr.mono (by decide)) rfl av.mg av.fn.kp av.bd bA hP hw hK ht XR.none (aa (qv 2) (aa aq ae)))))
  (ah (aI (i:=6) kT.nd rfl (mT rfl) (lr (pA (K:=K) rfl) rfl bl.tuple_ gI (aa (cY (N':=["_law_place","_law_many","_law_ways"]) (tn:=1) (idx:=[4,5]) rfl (show aH ["_law_script","_law_k","_law_bag_here","_law_net_here","_law_many","_law_ways","_law_ladder"] (ai vN) _ ["_law_place","_law_many","_law_ways"] 1 [4,5] from by decide +kernel) (a9 rfl bl.range_ (aa (qv 4) ae)) (fun _ _ _ _ _=>(aJ (i:=0) (show Cf [("_law_place" : bn),("_law_many" : bn),("_law_ways" : bn)] from by decide +kernel) rfl (mT rfl))) (fun _ _ _ _ _=>cm) (fun _ _ _ _ _=>(aM (N8 (K:=K) rfl) (sj (aa (aM ia (aM fu (qv 0) aq) (qv 1)) ae)) (aM Kx (sj (aa aq ae)) (aM vK (qv 2) aq))))) ae)))
  (ao (dM (QW.pt (pf (fJ (ej (aN oR (hr.mono (by decide)) rfl cF.mg cF.fn.kp cF.bd bA hP hw hK ht XR.none (aa (qv 3) ae)))) (og (fJ (ej (aN oR (hr.mono (by decide)) rfl cF.mg cF.fn.kp cF.bd bA hP hw hK ht XR.none (aa (qv 6) ae)))))))
   (ao (aU lg))
   qss_nil)))))))⟩))
  (ao (aU lg))),?_⟩
 subst e;simp! only[];refine⟨by split<;>split<;>omega,by split<;>split<;>omega,?_⟩
 refine bz (fun k ρ M=>∃x1 x2 x3 x4 x5 x6,ρ=[some (.bB ns),x1,x2,x3,x4,x5,x6]) ⟨_,_,_,_,_,_,rfl⟩ (fun k d ρ M N hd hJ hN=>?_) (fun ρ M _=>.inl (q _))
 obtain⟨x1,x2,x3,x4,x5,x6,rfl⟩:=hJ;obtain⟨rfl,hk⟩:=bh hd;have hk:k<=20 :=by split at hk<;>split at hk<;>omega
 have big:(10000:Nat)<sizeLine :=by decide
 simp! only[];refine⟨ns,_,rfl,hl,by omega,by omega,fun b hb=>?_⟩
 refine⟨b,9,rfl,updM_same,by omega,by omega,fun net n O _=>?_⟩
 simp! only[];refine⟨b,9,rfl,updM_same,by omega,by omega,fun m hm=>?_⟩
 obtain⟨mm,Xa⟩:∃mm:Nat,(1+(m:Int))=(mm:Nat):=⟨1+m,by omega⟩
 simp! only[Xa];refine⟨b,2,rfl,updM_same,by omega,by omega,fun n2 xC=>?_⟩
 obtain⟨ww,Xb⟩:∃ww:Nat,(2+(n2:Int))=(ww:Nat):=⟨2+n2,by omega⟩
 simp! only[Xb];refine⟨by omega,by omega,by omega,dO (BF mm ww) (fun τ M2=>(∃x,τ=[x,some (.int (mm:Nat)),some (.int (ww:Nat))])/\M2=aw M b .dA) ⟨⟨_,rfl⟩,rfl⟩ (fun d hd τ M2 hI R hR=>?_) (fun τ M2 hI=>?_)⟩
 ·obtain⟨⟨x,rfl⟩,rfl⟩:=hI;obtain⟨i,hi⟩:=mo.mp hd;obtain⟨rfl,me⟩:=bh hi;rw[DO]at hR;have e1:((ww:Int) - 1).toNat=ww - 1 :=by omega
  have e2:BF mm ww (.int (i:Nat))=.tup (.int (((i:Int)+1) % (mm:Int))::io (ww - 1) (.int 0)) :=by
   show Dv.tup (Z5 _ _)=_;rw[ss,List.map_replicate]
  rw[e2]at hR;simp! only[e1,KU];exact⟨by omega,by omega,by omega,⟨by simp,by omega,by omega,by omega⟩,by rw[Fa];omega,hR _ _ ⟨⟨_,rfl⟩,rfl⟩⟩
 ·obtain⟨⟨x,rfl⟩,rfl⟩:=hI;rw[KS];have O2:aY (yl mm ww) ww :=by
   have ll:(yl mm ww).length=mm :=by unfold yl;rw[ci,GM]
   refine⟨by omega,by omega,by omega,fun r hr=>?_⟩
   rw[ll];obtain⟨i,hi,rfl⟩:=on.mp hr;refine⟨by rw[Mc,Fa];omega,fun x hx=>?_⟩
   rcases kw.mp hx with rfl|hx
   ·have h1:=X4 ((i:Int)+1) (show (mm:Int)≠0 by omega)
    have h2:=Int.emod_lt_of_pos ((i:Int)+1) (show (0:Int)<mm by omega)
    omega
   ·rw[(List.mem_replicate.mp hx).2];omega
  refine⟨net,n,rfl,O,?_⟩;simp! only[];refine⟨_,ww,rfl,O2,?_⟩;simp! only[];exact hN _ _ ⟨_,_,_,_,_,_,rfl⟩
end
theorem all_mk {l:ZV}{w:i4}{K:bi}{h:hX}{mg:bn->Option al}{fa:ac}{tabs lts:List ac}{C_RoadError C_NoNet C_NoPlace C_NoSign C_NoWord C_NoWhole:ac}(X:K.In h) (G:h.Ns mainGlobals mg) (Xc:mg "law" = some (.ref fa))
  (T:Go (TabOf mg h) ["is_row","is_net","weights"] tabs) (U:Go (TabOf mg h) ["first_words"] lts)
  (yS:nw K mainGlobals "RoadError" = some (some (.ref C_RoadError)))
  (KW:nw K mainGlobals "NoNet" = some (some (.ref C_NoNet)))
  (EI:nw K mainGlobals "NoPlace" = some (some (.ref C_NoPlace)))
  (G5:nw K mainGlobals "NoSign" = some (some (.ref C_NoSign)))
  (G6:nw K mainGlobals "NoWord" = some (some (.ref C_NoWord)))
  (EJ:nw K mainGlobals "NoWhole" = some (some (.ref C_NoWhole)))
  (eb:AV K C_RoadError [C_NoNet,C_NoPlace,C_NoSign,C_NoWord,C_NoWhole]=true) (Xd:[C_NoNet,C_NoPlace,C_NoSign,C_NoWord,C_NoWhole].Nodup)
  (BI:bL K "is_whole" fU)
  (qY:bL K "is_whole_below" dJ)
  (qZ:bL K "common_divisor" eV)
  (G7:bL K "is_row" kD)
  (G8:bL K "is_net" kG)
  (BJ:bL K "need_net" jE)
  (lV:∃tk,oy K "first_met" iX (.int 511 tk))
  (vC:bL K "first_words" aD)
  (KY:bL K "parts" jP)
  (q9:bL K "hangs_together" eW)
  (ym:bL K "need_whole" ie)
  (vD:bL K "road_counts" fe)
  (ub:bL K "without_last" eC)
  (G9:bL K "shrunk" kI)
  (EK:bL K "weights" gX)
  (BK:bL K "_law_bag" jF)
  (yT:bL K "_law_take" fi)
  (yn:bL K "_law_order" ig)
  (BL:bL K "_law_net" eX)
  (yo:bL K "_law_reach" fK)
  (yp:bL K "_law_whole" fL)
  (yU:bL K "_law_told" iY)
  (ud:bL K "_law_divisor" fV)
  (oS:bL K "_law_are_weights" dg)
  (yq:bL K "_law_right" ik)
  (RD:bL K "law" vN)
  (RE:nw K mainGlobals "len" = some none)
  (KZ:nw K mainGlobals "range" = some none)
  (RG:nw K mainGlobals "min" = some none)
  (RH:nw K mainGlobals "max" = some none)
  (RJ:nw K mainGlobals "abs" = some none)
  (P4:nw K mainGlobals "list" = some none)
  (K0:nw K mainGlobals "tuple" = some none)
  (RK:nw K mainGlobals "int" = some none)
  (RL:nw K mainGlobals "str" = some none)
  (P5:nw K mainGlobals "bool" = some none)
  (yr:nw K mainGlobals "isinstance" = some none)
  (RN:nw K mainGlobals "all" = some none)
  (RO:nw K mainGlobals "set" = some none)
  (Ha:nw K mainGlobals "sorted" = some none)
  (RP:nw K mainGlobals "zip" = some none)
  (yV:nw K mainGlobals "enumerate" = some none)
  (RQ:nw K mainGlobals "sum" = some none)
  (BM:nw K mainGlobals "reversed" = some none)
  (Hb:nw K mainGlobals "divmod" = some none)
  (RT:nw K mainGlobals "any" = some none)
  (yt:nw K mainGlobals "ValueError" = some none)
  (ue:∃tk,nw K mainGlobals "SIGNS" = some (some (.str "abc" tk)))
  (jt:∃tk,nw K mainGlobals "MOST_PLACES" = some (some (.int 9 tk)))
  : ∃fd:l8,(∀(s:ba) (v:al),ZD s fd ⟨[v],[]⟩ [("_law_script",v)])/\∀base:hX,K.In base->base.Ns mainGlobals mg->(∃bm ob,Yj base mainGlobals mg bm ob)->(∀c p,u4 h c p->u4 base c p)->FnOk l.prog w K mg base bf 15 fa fd ["_law_script"] (spLaw K ⟨tabs,lts.zip [qW]⟩) :=by
 obtain⟨RU,Qh,c6⟩:=BI.df X G ["thing"] fun _ _ _ _ _ _ us hl=>match us,hl with | [_],_=>rfl
 obtain⟨Hc,EZ,bQ⟩:=qY.df X G ["thing","many"] fun _ _ _ _ _ _ us hl=>match us,hl with | [_,_],_=>rfl
 obtain⟨Hd,E1,cQ⟩:=qZ.df X G ["one","other"] fun _ _ _ _ _ _ us hl=>match us,hl with | [_,_],_=>rfl
 obtain⟨UR,Tj,gP⟩:=G7.df X G ["thing","many","width"] fun _ _ _ _ _ _ us hl=>match us,hl with | [_,_,_],_=>rfl
 obtain⟨UT,Tn,gQ⟩:=G8.df X G ["thing"] fun _ _ _ _ _ _ us hl=>match us,hl with | [_],_=>rfl
 obtain⟨RV,Qi,fX⟩:=BJ.df X G ["thing"] fun _ _ _ _ _ _ us hl=>match us,hl with | [_],_=>rfl
 obtain⟨P6,lV⟩:=lV;obtain⟨Qj,P7,fj⟩:=lV.df X G ["start","width","step","most"] (fun _ _ _ _ _ _ _ us hl=>match us,hl with | [_,_,_],_=>⟨_,rfl,rfl⟩) fun _ _ _ _ _ _ _ us hl=>match us,hl with | [_,_,_,_],_=>⟨_,rfl,rfl⟩
 obtain⟨Lc,K1,du⟩:=vC.df X G ["net","start"] fun _ _ _ _ _ _ us hl=>match us,hl with | [_,_],_=>rfl
 obtain⟨UY,UU,jT⟩:=KY.df X G ["net"] fun _ _ _ _ _ _ us hl=>match us,hl with | [_],_=>rfl
 obtain⟨He,E3,cP⟩:=q9.df X G ["net"] fun _ _ _ _ _ _ us hl=>match us,hl with | [_],_=>rfl
 obtain⟨P8,Ld,eL⟩:=ym.df X G ["net"] fun _ _ _ _ _ _ us hl=>match us,hl with | [_],_=>rfl
 obtain⟨Le,K2,dP⟩:=vD.df X G ["net"] fun _ _ _ _ _ _ us hl=>match us,hl with | [_],_=>rfl
 obtain⟨K3,Jc,dF⟩:=ub.df X G ["counts"] fun _ _ _ _ _ _ us hl=>match us,hl with | [_],_=>rfl
 obtain⟨UW,To,iT⟩:=G9.df X G ["numbers"] fun _ _ _ _ _ _ us hl=>match us,hl with | [_],_=>rfl
 obtain⟨Tp,RW,fQ⟩:=EK.df X G ["net"] fun _ _ _ _ _ _ us hl=>match us,hl with | [_],_=>rfl
 obtain⟨RX,Qk,fY⟩:=BK.df X G ["_law_script","_law_at"] fun _ _ _ _ _ _ us hl=>match us,hl with | [_,_],_=>rfl
 obtain⟨Ql,P9,av⟩:=yT.df X G ["_law_bag_here","_law_many"] fun _ _ _ _ _ _ us hl=>match us,hl with | [_,_],_=>rfl
 obtain⟨Qa,Lf,eG⟩:=yn.df X G ["_law_bag_here","_law_many"] fun _ _ _ _ _ _ us hl=>match us,hl with | [_,_],_=>rfl
 obtain⟨RY,Qm,fZ⟩:=BL.df X G ["_law_bag_here","_law_most"] fun _ _ _ _ _ _ us hl=>match us,hl with | [_,_],_=>rfl
 obtain⟨Qb,Lg,eJ⟩:=yo.df X G ["_law_net_here"] fun _ _ _ _ _ _ us hl=>match us,hl with | [_],_=>rfl
 obtain⟨Qc,Lh,eO⟩:=yp.df X G ["_law_net_here"] fun _ _ _ _ _ _ us hl=>match us,hl with | [_],_=>rfl
 obtain⟨Qn,Qd,fk⟩:=yU.df X G ["_law_net_here"] fun _ _ _ _ _ _ us hl=>match us,hl with | [_],_=>rfl
 obtain⟨K4,Jd,dG⟩:=ud.df X G ["_law_one","_law_other"] fun _ _ _ _ _ _ us hl=>match us,hl with | [_,_],_=>rfl
 obtain⟨EL,BQ,cq⟩:=oS.df X G ["_law_net_here","_law_found"] fun _ _ _ _ _ _ us hl=>match us,hl with | [_,_],_=>rfl
 obtain⟨Qe,Li,cF⟩:=yq.df X G ["_law_net_here"] fun _ _ _ _ _ _ us hl=>match us,hl with | [_],_=>rfl
 obtain⟨Xh,Qf,BO⟩:=RD.df X G ["_law_script"] fun _ _ _ _ _ _ us hl=>match us,hl with | [_],_=>rfl
 have lU:=IN X G yS;have jR:=IN X G KW;have oO:=IN X G EI;have qV:=IN X G G5;have qX:=IN X G G6;have gY:=IN X G EJ;have X_:=JP eb;have jQ:C_NoNet∈[C_NoNet,C_NoPlace,C_NoSign,C_NoWord,C_NoWhole] :=by simp
 have oN:C_NoPlace∈[C_NoNet,C_NoPlace,C_NoSign,C_NoWord,C_NoWhole] :=by simp
 have qT:C_NoSign∈[C_NoNet,C_NoPlace,C_NoSign,C_NoWord,C_NoWhole] :=by simp
 have qU:C_NoWord∈[C_NoNet,C_NoPlace,C_NoSign,C_NoWord,C_NoWhole] :=by simp
 have dC:C_NoWhole∈[C_NoNet,C_NoPlace,C_NoSign,C_NoWord,C_NoWhole] :=by simp
 have e:=Xc.symm.trans BO.mg;cases e;have bl:Bl mg:=⟨r6 X G RE,r6 X G KZ,r6 X G RG,r6 X G RH,r6 X G RJ,r6 X G P4,r6 X G K0,r6 X G RK,r6 X G RL,r6 X G P5,r6 X G yr,r6 X G RN,r6 X G RO,r6 X G Ha,r6 X G RP,r6 X G yV,r6 X G RQ,r6 X G BM,r6 X G Hb,r6 X G RT,r6 X G yt⟩;obtain⟨UX,ue⟩:=ue;have kJ:=IN X G ue;obtain⟨K5,jt⟩:=jt;have iQ:=IN X G jt;obtain⟨aR,Tq,rfl,Hf,T⟩:=iV T;obtain⟨aZ,Tr,rfl,Hg,T⟩:=iV T;obtain⟨aS,RZ,rfl,ER,T⟩:=iV T;cases T;obtain⟨aE,K6,rfl,vE,U⟩:=iV U;cases U;refine⟨Qf,fun s v=>BO.bind1 s v (by intros;rfl),fun base _ _ dX tr=>?_⟩
 obtain⟨m5,iP⟩:=rX gP X Hf tr;obtain⟨xS,m6⟩:=rX gQ X Hg tr;obtain⟨vn,lK⟩:=rX fQ X ER tr;obtain⟨nC,gE⟩:=rX du X vE tr;have EV:aR∈(⟨[aR,aZ,aS],[(aE,qW)]⟩:cz) :=by show _∈[aR,aZ,aS];simp
 have EW:aZ∈(⟨[aR,aZ,aS],[(aE,qW)]⟩:cz) :=by show _∈[aR,aZ,aS];simp
 have BP:aS∈(⟨[aR,aZ,aS],[(aE,qW)]⟩:cz) :=by show _∈[aR,aZ,aS];simp
 have il:(aE,qW)∈(⟨[aR,aZ,aS],[(aE,qW)]⟩:cz).l :=by simp
 have ip:∀q∈(⟨[aR,aZ,aS],[(aE,qW)]⟩:cz).l,q.1=aE->q.2=qW :=by simp
 have qK:=En (P:=l.prog) (w:=w) (tb:=(⟨[aR,aZ,aS],[(aE,qW)]⟩:cz)) gQ m6 EW gP iP EV dX bQ c6 bl iQ;have ng:=yO fX gQ qK X_ jQ jR;have jr:=tV (P:=l.prog) (w:=w) (tb:=(⟨[aR,aZ,aS],[(aE,qW)]⟩:cz)) du gE dX il ip fj bl kJ;have Hh:=GL jT fX ng du jr bl;have EX:=GJ (S:=Ab) Hh fun ds M Q E ⟨net,n,e,O,q⟩=>⟨net,n,e,O,.inr q⟩
 have K7:=pN cP jT EX bl;have kR:=vA eL cP K7 X_ dC gY;have Hi:=pO (P:=l.prog) (w:=w) (base:=base) (tb:=(⟨[aR,aZ,aS],[(aE,qW)]⟩:cz)) cQ bl;have Hj:=t7 (P:=l.prog) (w:=w) (base:=base) (tb:=(⟨[aR,aZ,aS],[(aE,qW)]⟩:cz)) dP bl;have EY:=sV (P:=l.prog) (w:=w) (base:=base) (tb:=(⟨[aR,aZ,aS],[(aE,qW)]⟩:cz)) dF bl;have qS:=EC iT cQ Hi bl;have oM:=BE fQ lK BP dX eL kR dP Hj dF EY iT qS bl;have yu:=Pq (tb:=(⟨[aR,aZ,aS],[(aE,qW)]⟩:cz)) (yK (P:=l.prog) (w:=w) (base:=base) av);have R1:=Rw (tb:=(⟨[aR,aZ,aS],[(aE,qW)]⟩:cz)) (Bq (P:=l.prog) (w:=w) (base:=base) fY bl);have K8:=xN eG av yu bl;have R3:=Bs fZ av yu eG K8 bl;have K9:=xV (P:=l.prog) (w:=w) (base:=base) (tb:=(⟨[aR,aZ,aS],[(aE,qW)]⟩:cz)) eJ bl;have La:=xW eO eJ K9 bl;have R4:=tZ (P:=l.prog) (w:=w) (base:=base) (tb:=(⟨[aR,aZ,aS],[(aE,qW)]⟩:cz)) dG bl;have Qg:=yQ fk fQ oM X_ jQ oN qT qU dC (by simpa using Xd) lU jR oO qV qX gY bl
 have R5:=oP (P:=l.prog) (w:=w) (base:=base) (tb:=(⟨[aR,aZ,aS],[(aE,qW)]⟩:cz)) cq dG R4 bl;have Lb:=yj cF fk Qg eO La cq R5 bl;exact Oi (P2 BO fY R1 fZ R3 av yu cF Lb bl)
theorem walk {l:ZV}{q:gc}{loose:List bn}{XP:(bn->Option al)->hX->Prop}{YP:i4->hX->Prop}{d:DefRec}{K:Z6->bi}(hn:l.most=some 63) (Cu:d.params.defaults=[])
  (DP:∀w:i4,Zi (K w.params)=true) (Iw:∀y∈((["is_row","is_net","weights"]:List bn)++(["first_words"]:List bn)),∃r∈recsOf q,r.name=y) (pY:∀w:i4,tQ (K w.params) ["is_row","is_net","weights"] ["first_words"]=true) (hY:∀(w:i4) (h:hX),YP w h->(K w.params).In h)
  (F:∀(w:i4) (mg:bn->Option al) (fa:ac) (h:hX) (tabs lts:List ac),(K w.params).In h->h.Ns mainGlobals mg->mg d.name=some (.ref fa)->
   Go (TabOf mg h) ["is_row","is_net","weights"] tabs->Go (TabOf mg h) ["first_words"] lts->
   ∃fd:l8,(∀(s:ba) (u:al),ZD s fd ⟨[u],[]⟩ [("_law_script",u)]) /\
    ∀base:hX,(K w.params).In base->base.Ns mainGlobals mg->(∃bm ob,Yj base mainGlobals mg bm ob)->(∀c p,u4 h c p->u4 base c p)->FnOk l.prog w (K w.params) mg base bf 15 fa fd ["_law_script"] (spLaw (K w.params) ⟨tabs,lts.zip [qW]⟩)) :
  PySem.W.WalkO q loose XP YP l.row.toRowW d [] (fun f vs=>Z1 f vs):=
 L2.Gk (n:=63) (k:=15) (x := "_law_script") (CX:=bf) (sp:=fun K tabs lts=>spLaw K ⟨tabs,lts.zip [qW]⟩) hn (by decide) Cu ⟨rfl,by decide,by decide⟩ DP Iw pY hY F (fun _ _ _ _ a ns hl hn hT hL hS=>Gm hl hn hT hL hS) fun _ _ _ _ z=>z
end My
open PySem PySem.W PyProof.Rows L2
set_option maxRecDepth 100000 in
set_option maxHeartbeats 0 in
theorem PySem.Challenge.cw_roadcall_k08_weights_holds : PySem.Challenge.rw_roadcall_k08_weights.Holds := by
 w_on;o_law
 refine My.Je (q:=My.kq) (loose:=My.kL) (H:=My.kH) My.left (by rfl) (by rfl) (by rfl) (by rfl) (by first|assumption|decide +kernel) (by decide +kernel) ⟨rfl,rfl,rfl,rfl,rfl,by decide +kernel⟩ ?hw ?hc
 (case hw=>w_witness2)
 refine My.walk (l:=PySem.Challenge.rw_roadcall_k08_weights) rfl rfl (fun w=>by kernel_rfl) (recs_of (by decide +kernel)) (fun w=>by kernel_rfl) (fun w h Y=>Y) ?F
 intro w mg fa h tabs lts KX G Cv T U;exact My.all_mk (C_RoadError:=24) (C_NoNet:=37) (C_NoPlace:=49) (C_NoSign:=61) (C_NoWord:=73) (C_NoWhole:=85) KX G Cv T U
  (by kernel_rfl)
  (by kernel_rfl)
  (by kernel_rfl)
  (by kernel_rfl)
  (by kernel_rfl)
  (by kernel_rfl)
  (by kernel_rfl)
  (by decide)
  (L2.aV (f:=94) (oc:=.type "function") (od:=none) (sl:=#[]) (kV:=.none) (dc:=.none) (pm:=My.vS "roadcall.whole" 287) (an:=none) (cd:=.ref 93) (ct:=.none) (by kernel_rfl) (by kernel_rfl) (by kernel_rfl) (by kernel_rfl))
  (L2.aV (f:=101) (oc:=.type "function") (od:=none) (sl:=#[]) (kV:=.none) (dc:=.none) (pm:=My.vS "roadcall.whole" 287) (an:=none) (cd:=.ref 100) (ct:=.none) (by kernel_rfl) (by kernel_rfl) (by kernel_rfl) (by kernel_rfl))
  (L2.aV (f:=108) (oc:=.type "function") (od:=none) (sl:=#[]) (kV:=.none) (dc:=.none) (pm:=My.vS "roadcall.whole" 287) (an:=none) (cd:=.ref 107) (ct:=.none) (by kernel_rfl) (by kernel_rfl) (by kernel_rfl) (by kernel_rfl))
  (L2.aV (f:=115) (oc:=.type "function") (od:=none) (sl:=#[]) (kV:=.none) (dc:=.none) (pm:=My.vS "roadcall.nets" 312) (an:=none) (cd:=.ref 114) (ct:=.none) (by kernel_rfl) (by kernel_rfl) (by kernel_rfl) (by kernel_rfl))
  (L2.aV (f:=122) (oc:=.type "function") (od:=none) (sl:=#[]) (kV:=.none) (dc:=.none) (pm:=My.vS "roadcall.nets" 312) (an:=none) (cd:=.ref 121) (ct:=.none) (by kernel_rfl) (by kernel_rfl) (by kernel_rfl) (by kernel_rfl))
  (L2.aV (f:=129) (oc:=.type "function") (od:=none) (sl:=#[]) (kV:=.none) (dc:=.none) (pm:=My.vS "roadcall.nets" 312) (an:=none) (cd:=.ref 128) (ct:=.none) (by kernel_rfl) (by kernel_rfl) (by kernel_rfl) (by kernel_rfl))
  (L2.DT (f:=137) (oc:=.type "function") (od:=none) (sl:=#[]) (T:=130) (oT:=⟨.type "tuple",none,.seq #[.int 511 346] 0,#[]⟩) (kV:=.none) (dc:=.none) (pm:=My.vS "roadcall.ways" 344) (an:=none) (cd:=.ref 136) (ct:=.none) (by kernel_rfl) (by kernel_rfl) (by kernel_rfl) (by kernel_rfl) (by kernel_rfl) rfl)
  (L2.aV (f:=144) (oc:=.type "function") (od:=none) (sl:=#[]) (kV:=.none) (dc:=.none) (pm:=My.vS "roadcall.ways" 344) (an:=none) (cd:=.ref 143) (ct:=.none) (by kernel_rfl) (by kernel_rfl) (by kernel_rfl) (by kernel_rfl))
  (L2.aV (f:=149) (oc:=.type "function") (od:=none) (sl:=#[]) (kV:=.none) (dc:=.none) (pm:=My.vS "roadcall.ways" 344) (an:=none) (cd:=.ref 148) (ct:=.none) (by kernel_rfl) (by kernel_rfl) (by kernel_rfl) (by kernel_rfl))
  (L2.aV (f:=156) (oc:=.type "function") (od:=none) (sl:=#[]) (kV:=.none) (dc:=.none) (pm:=My.vS "roadcall.ways" 344) (an:=none) (cd:=.ref 155) (ct:=.none) (by kernel_rfl) (by kernel_rfl) (by kernel_rfl) (by kernel_rfl))
  (L2.aV (f:=163) (oc:=.type "function") (od:=none) (sl:=#[]) (kV:=.none) (dc:=.none) (pm:=My.vS "roadcall.ways" 344) (an:=none) (cd:=.ref 162) (ct:=.none) (by kernel_rfl) (by kernel_rfl) (by kernel_rfl) (by kernel_rfl))
  (L2.aV (f:=168) (oc:=.type "function") (od:=none) (sl:=#[]) (kV:=.none) (dc:=.none) (pm:=My.vS "roadcall.weights" 392) (an:=none) (cd:=.ref 167) (ct:=.none) (by kernel_rfl) (by kernel_rfl) (by kernel_rfl) (by kernel_rfl))
  (L2.aV (f:=173) (oc:=.type "function") (od:=none) (sl:=#[]) (kV:=.none) (dc:=.none) (pm:=My.vS "roadcall.weights" 392) (an:=none) (cd:=.ref 172) (ct:=.none) (by kernel_rfl) (by kernel_rfl) (by kernel_rfl) (by kernel_rfl))
  (L2.aV (f:=178) (oc:=.type "function") (od:=none) (sl:=#[]) (kV:=.none) (dc:=.none) (pm:=My.vS "roadcall.weights" 392) (an:=none) (cd:=.ref 177) (ct:=.none) (by kernel_rfl) (by kernel_rfl) (by kernel_rfl) (by kernel_rfl))
  (L2.aV (f:=183) (oc:=.type "function") (od:=none) (sl:=#[]) (kV:=.none) (dc:=.none) (pm:=My.vS "roadcall.weights" 392) (an:=none) (cd:=.ref 182) (ct:=.none) (by kernel_rfl) (by kernel_rfl) (by kernel_rfl) (by kernel_rfl))
  (L2.aV (f:=190) (oc:=.type "function") (od:=none) (sl:=#[]) (kV:=.none) (dc:=.none) (pm:=My.vS "law_roadcall_k08_weights" 418) (an:=none) (cd:=.ref 189) (ct:=.none) (by kernel_rfl) (by kernel_rfl) (by kernel_rfl) (by kernel_rfl))
  (L2.aV (f:=197) (oc:=.type "function") (od:=none) (sl:=#[]) (kV:=.none) (dc:=.none) (pm:=My.vS "law_roadcall_k08_weights" 418) (an:=none) (cd:=.ref 196) (ct:=.none) (by kernel_rfl) (by kernel_rfl) (by kernel_rfl) (by kernel_rfl))
  (L2.aV (f:=204) (oc:=.type "function") (od:=none) (sl:=#[]) (kV:=.none) (dc:=.none) (pm:=My.vS "law_roadcall_k08_weights" 418) (an:=none) (cd:=.ref 203) (ct:=.none) (by kernel_rfl) (by kernel_rfl) (by kernel_rfl) (by kernel_rfl))
  (L2.aV (f:=209) (oc:=.type "function") (od:=none) (sl:=#[]) (kV:=.none) (dc:=.none) (pm:=My.vS "law_roadcall_k08_weights" 418) (an:=none) (cd:=.ref 208) (ct:=.none) (by kernel_rfl) (by kernel_rfl) (by kernel_rfl) (by kernel_rfl))
  (L2.aV (f:=214) (oc:=.type "function") (od:=none) (sl:=#[]) (kV:=.none) (dc:=.none) (pm:=My.vS "law_roadcall_k08_weights" 418) (an:=none) (cd:=.ref 213) (ct:=.none) (by kernel_rfl) (by kernel_rfl) (by kernel_rfl) (by kernel_rfl))
  (L2.aV (f:=219) (oc:=.type "function") (od:=none) (sl:=#[]) (kV:=.none) (dc:=.none) (pm:=My.vS "law_roadcall_k08_weights" 418) (an:=none) (cd:=.ref 218) (ct:=.none) (by kernel_rfl) (by kernel_rfl) (by kernel_rfl) (by kernel_rfl))
  (L2.aV (f:=226) (oc:=.type "function") (od:=none) (sl:=#[]) (kV:=.none) (dc:=.none) (pm:=My.vS "law_roadcall_k08_weights" 418) (an:=none) (cd:=.ref 225) (ct:=.none) (by kernel_rfl) (by kernel_rfl) (by kernel_rfl) (by kernel_rfl))
  (L2.aV (f:=233) (oc:=.type "function") (od:=none) (sl:=#[]) (kV:=.none) (dc:=.none) (pm:=My.vS "law_roadcall_k08_weights" 418) (an:=none) (cd:=.ref 232) (ct:=.none) (by kernel_rfl) (by kernel_rfl) (by kernel_rfl) (by kernel_rfl))
  (L2.aV (f:=238) (oc:=.type "function") (od:=none) (sl:=#[]) (kV:=.none) (dc:=.none) (pm:=My.vS "law_roadcall_k08_weights" 418) (an:=none) (cd:=.ref 237) (ct:=.none) (by kernel_rfl) (by kernel_rfl) (by kernel_rfl) (by kernel_rfl))
  (L2.aV (f:=245) (oc:=.type "function") (od:=none) (sl:=#[]) (kV:=.none) (dc:=.none) (pm:=My.vS "law_roadcall_k08_weights" 418) (an:=none) (cd:=.ref 244) (ct:=.none) (by kernel_rfl) (by kernel_rfl) (by kernel_rfl) (by kernel_rfl))
  (L2.aV (f:=250) (oc:=.type "function") (od:=none) (sl:=#[]) (kV:=.none) (dc:=.none) (pm:=My.vS "law_roadcall_k08_weights" 418) (an:=none) (cd:=.ref 249) (ct:=.none) (by kernel_rfl) (by kernel_rfl) (by kernel_rfl) (by kernel_rfl))
  (by kernel_rfl)
  (by kernel_rfl)
  (by kernel_rfl)
  (by kernel_rfl)
  (by kernel_rfl)
  (by kernel_rfl)
  (by kernel_rfl)
  (by kernel_rfl)
  (by kernel_rfl)
  (by kernel_rfl)
  (by kernel_rfl)
  (by kernel_rfl)
  (by kernel_rfl)
  (by kernel_rfl)
  (by kernel_rfl)
  (by kernel_rfl)
  (by kernel_rfl)
  (by kernel_rfl)
  (by kernel_rfl)
  (by kernel_rfl)
  (by kernel_rfl)
  ⟨314,by kernel_rfl⟩
  ⟨316,by kernel_rfl⟩
