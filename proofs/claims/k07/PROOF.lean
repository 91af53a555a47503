import PyProof.Rows.All
import Wide.All
import OpenK.AllK
import Wide.FinOn
import Lean
import PySem.Challenge.RW_roadcall_k07_beats
import PyProof.EqAt
import PyProof.EqKinds
import PyProof.TupleCall
import PyProof.NeKinds
import PyProof.EnumMake
import PyProof.EnumFor
import PyProof.ZipIter
import PyProof.Rows.ZipGen
import KE.KLam
import PyProof.DictItems
import KE.KTurnsDict
import KE.KPairComp
import KE.KDictList
import KE.KRevSl
open PySem renaming Addr->ac,Value->al,wpAny_bind->ap,Shared->ba,Str->bn,wpAny_pure->bv,Expr->dL,Program->ff,Heap->ge,World->ii,Obj->i4,FuncData->l5,wpAny_mono->l7,Around->ma,boot_len->nw,Stmt->r6,SetTable->tz,Builtin->u7,Scope->u8,Pos->wn,mem_of_lookup->wp,seg_bind_wrap->ww,wpAny_newObj_type->wP,wpAny_callSpecial?_slot->xw,wpAny_call_entry->xz,codeAny_builtin->ze,wpAny_truthy_bool->zw,Spec->At,wpAny_holding->AT,wpAny_standAt->BB,wpAny_loadPart'->Db,wpAny_Call_Name_kw->Do,Paired->EN,plainId_quiet->EQ,wpAny_rule->Ix,wpAny_attempt->ID,Env->IR,wpAny_setField_rec->KB,wpAny_typeNameOfWhole_keyiter->LP,wpAny_field->Mn,Arguments->MW,TriplesOk->Nl,wpAny_passesOwn->NH,NameKind->ON,wpAny_setEntries_of->Po,wpAny_updateSeq->P3,GenState->RS,wpAny_setState_of->SI,wpAny_fieldsOf->TD,CmpOp->TW,wpAny_askSetting->T0,sizeLine_eq->UV,DictEntry->VW,wpAny_pyIter_tuple->VX,codeAny_mono->VY,wpAny_comprehension_free->VZ,tupleKind_room_in1->V2,Keyword->V4,call_meets->V5,wpAny_of_eq->Wd,IsEnum->Wg,wpAny_isInstance->Wn,seg_again->Wq,Sem->Wx,wpAny_execs_nil->Wy,Result->Wz,codeAny_of_tree->WD,wpAny_typeOf->WF,wpAny_specialOf->WG,codeAny_call_builtin->WI,wpAny_runValue->WQ,ElemsOf->WR,isSubtype_type->WS,wpAny_seqItems->WT,Tok->W9,wpAny_assign_Name->Xb,wpAny_pyIter_list->Xc,fits_of_scanBound->Xf,wpAny_pyIter_slot->Xi,wpAny_dictEntries->Xk,wpAny_call->Xm,typeIs_int->Xn,BindsTo->Xr,wpAny_of_in1->Xu,PassesOwn->XC,pushCells_keeps->XF,wpAny_dictEpoch->XH,call->XM,wpAny_load->XN,Params->XS,IsEnumOut->XU,Model->XV
open List renaming getElem?_eq_getElem->ag,getElem?_eq_some_iff->br,getElem?_map->ce,getD_eq_getElem?_getD->ci,length_map->c8,size_toArray->db,mem_of_getElem?->gc,mem_cons_of_mem->im,replicate->io,range->i0,mem_append_right->i1,mem_cons->kw,mem_singleton->lp,mem_iff_getElem?->l6,mem_cons_self->l9,getElem_mem->rb,getElem?_append_left->rf,mem_map->ss,getElem?_append_right->sK,length_append->ul,all_eq_true->u4,map_cons->v6,replicate_succ->wT,getElem?_range->xb,map_append->xy,map_map->xL,getElem?_zip_eq_some->AC,mem_append->AL,getElem?_replicate->AS,mem_append_left->BS,lookup_cons->Cc,mem_range->ES,append_nil->Fa,length_replicate->FF,length_singleton->FM,not_mem_nil->FS,getElem?_cons_succ->Go,flatten_cons->GE,length_set->GM,nil_append->GS,filterMap_cons->GT,Nodup->IF,length_cons->IN,getElem?_eq_none->JJ,drop_eq_getElem_cons->KM,mem_filter->Ll,append_assoc->LG,getElem?_set->LH,eq_nil_of_length_eq_zero->LM,getElem?_set_self->Mc,nodup_cons->NJ,pairwise_iff_getElem->Op,getElem?_eq_none_iff->Os,filter_cons->Pc,of_mem_zip->PP,find?_cons->Rs,zip_cons_cons->RI,take_of_length_le->Sk,pairwise_lt_range->Sm,length_pos_of_mem->SB,length_range->SC,nodup_append->SL,map_nil->Tl,any_cons->US,length_nil->VQ,length_zip->VS,mem_or_eq_of_mem_set->VU,Perm->V1,ext_getElem?->Wc,all_cons->Wh,length_take->Wk,drop_length->Wo,length_filter_le->Wu,getElem?_set_ne->Ww,pairwise_append->WH,getElem?_append->WJ,map_congr_left->WM,mem_filterMap->W1,getElem?_drop->W2,foldl_append->Xg,foldl->Xo,length_drop->Xt,take_length->Xv,cons_append->Xx,map_set->Xz,foldl_cons->XD,Pairwise->XQ
open PySem.W renaming Frag->bi,nsIn->mf,mg_none_of->on,CodeHd->sB,fnOf->zn,hideAll->AE,keepIn->Co,kia_one->Da,mg_of->Gc,codeIn->IS,kla_obj->NL,tabObj->OF,envX->Pd,hideAll_get->VN,looseW->WN,kitOne->WP,of_hideAll->WZ,kb_classed->W3,recOk->W4,excIn->W8,methodObj->Xa,xlAt->Xs,opening->XA,instObj->XB,OpenLaw->XG
open PySem.Heap renaming get?_push_of_some->cb,get?_push_size->f8,lt_size->hX,SameBut->wS,get?_update_other->BY,get?_update_self->Cs,size_push->CS,ExtBut->WV
open Nat renaming le_refl->cr,ne_of_lt->jp,lt_of_lt_of_le->l8,zero_le->sw,le_trans->wv,lt_succ_self->Cf,lt_succ_of_lt->Ch,lt_irrefl->EO,le_succ->ET,le_of_lt->Na,min_self->NE,lt_of_le_of_lt->NG,ne_of_gt->OL,sub_self->Pe,not_lt_zero->Re,gcd->VM,lt_trans->V0,le_of_eq->V3,le_of_not_lt->Wl,strongRecOn->WE,mod_lt->Xq,not_lt->XO
open Bool renaming false_ne_true->gl,false_eq_true->lw,and_eq_true->B0,eq_iff_iff->PM,false_and->SS,or_eq_true->VP,true_and->Wj,and_false->WU,not_true->W7
open Option.some renaming inj->ij,injEq->GG
open PySem.SeqAt renaming EqAt->i8,RcNeAt->l4,RcAt->mo
open Option renaming map_eq_some_iff->lc,map_some->LB,some->So,isSome_map->SO,bind_some->Uf,join_some->Xw
open PySem.Value renaming ref->li,type->AM,none->BN,isInt_shape->V8,builtin->Wi,str->Wp,bool->Wv,int->WW
open Or renaming inl->mT,inr->IT
open PySem.PassesOwn renaming never->qr
open PySem.Str renaming ofString->r9
open PySem.NameKind renaming free->tw,cell->Ps
open Int renaming toNat_natCast->ut,eq_ofNat_of_zero_le->wb,zero_add->LF,emod_nonneg->VT,natCast_dvd_natCast->V7,natCast_mul->XI
open Array renaming length_toList->uu,getElem?_eq_getElem->Fk,getElem?_toList->SZ,getElem?_eq_none->We,toList_append->WK,size_append->Xj,size_push->XE
open PySem.SetTable renaming below->wE,grown->OK
open PySem.Around renaming under_plainId->xp
open Ne renaming symm->zd
open PyProof.Rows renaming callWith_type1->AN,IntsAre->Tk,BMod->Wa,assignInOrder_cons->W0,AllBare->XJ
open PySem.F renaming slot_dict_keyiterator_next->Cn,plainAttrs_list->EM,plain_list_iadd->On,called_set->OR,slot_list_append->Pf,type_list_append->Pi,plain_extend_loop->VO,plain_all_loop->Wm,entry_proto_collect->Wr,plain_proto_collect->Ws,slot_int_rmul->WB,entry_list_iadd->Xd,slot_tuple_mul->Xy
open PySem.Builtin.List renaming listExtendWith->DD,listTooLong->Lu,listSameRef->OP,listLengthHint->TM
open Sum renaming inl->DO,inr->WO
open False renaming elim->EU
open PySem.Heap.SameBut renaming update->Is
open True renaming intro->Lo
open Classical renaming propDecidable->LS,byContradiction->VR
open PySem.Obj renaming mapSeq->Me,data_mapFields->No,isFreed_of_fields->Wt,cls_mapFields->Xh,putSet->Xp
open PySem.Calls renaming spliced_cons->Nd,spliced_nil->NO
open PySem.W.Fast renaming tw821141287760084731->OE
open PySem.Paired renaming length->UF
open PyProof.Rows.F renaming plain_set_update_loop->V6
open PySem.Sem renaming bind_eq_wrap'->V9,onRaise_eq_wrap->WL,wrap_wrap->W5
open PySem.SetTable.below renaming go->Wb
open PySem.SeqAt.EqAt renaming same->WA,int_str->WX,str_int->WY
open ForInStep renaming yield->WC
open PySem.Shared renaming TypeIs->W6
open PySem.SetTable.probe renaming go->Xe
open List.Pairwise renaming map->Xl
open And renaming intro->XT
set_option linter.all false
set_option Elab.async false
set_option maxRecDepth 100000
namespace My
open PySem PyProof.Rows
def kA (s:r6):MW:=match s with
 | .FunctionDef _ a _ _ _ _ _ _ _ _=>a
 |_=>{posonlyargs:=[],args:=[],vararg:=none,kwonlyargs:=[],kw_defaults:=[],kwarg:=none,defaults:=[]}
def kB (s:r6):List r6:=match s with
 | .FunctionDef _ _ b _ _ _ _ _ _ _=>b
 |_=>[]
def kS (s:r6):u8:=match s with
 | .FunctionDef _ _ _ _ _ _ sc _ _ _=>sc
 |_=>{kind:=.function,names:=[],isGenerator:=false,isCoroutine:=false}
def vS (x:String) (t:Nat):al:=.str (r9 x) t
def kE (P:XS) (x:String) (t:Nat) (v:al):VW:=⟨PyData.keyHash P (r9 x),vS x t,v⟩
def kF (i:Nat) (x:String) (d m:al) (c:Nat):i4:=let st:=PySem.Challenge.pw_roadcall_k07_beats.main.body.getD i (.Pass ⟨0,0,0,0⟩);⟨.type "function",none,.func (zn (r9 x) (r9 x) (kA st) (kB st) (kS st) d .none .none m none (.ref c) .none),#[]⟩
def kC (x:String) (t:Nat) (l n f:Int) (a:Nat) (b:Bool) (m:Int) (p:Nat) (u z:al) (q:Nat) (e:Int) (t2:Nat):i4:=⟨.type "code",none,.fields #[vS x t,vS x (t+1),vS "/claim/cut.py" (t+2),.int l 0,.int n 0,.int 0 0,.int 0 0,.int f 0,.ref a,.bool b,.int m 0,.ref p,.none,u,z,.ref q,.int e 0,.int l 0,vS "/claim/cut.py" t2],#[]⟩
def kK (P:XS):bi:=[(2,⟨.none,none,.dict [].toArray 0,#[]⟩),
 (3,⟨.type "dict",none,.dict [kE P "__name__" 165 (vS "law_roadcall_k07_beats" 400),kE P "__doc__" 166 .none,kE P "__package__" 167 .none,kE P "__loader__" 168 (.builtin "__main__.__loader__#opaque"),kE P "__spec__" 169 .none,kE P "__annotations__" 170 (.ref 6),kE P "__builtins__" 171 (.ref 4),kE P "__file__" 173 (vS "/claim/cut.py" 172),kE P "__cached__" 174 .none,kE P "RoadError" 206 (.ref 24),kE P "NoNet" 222 (.ref 37),kE P "NoPlace" 238 (.ref 49),kE P "NoSign" 254 (.ref 61),kE P "NoWord" 270 (.ref 73),kE P "NoWhole" 286 (.ref 85),kE P "is_whole" 295 (.ref 94),kE P "is_whole_below" 303 (.ref 101),kE P "common_divisor" 311 (.ref 108),kE P "SIGNS" 315 (vS "abc" 314),kE P "MOST_PLACES" 317 (.int 9 316),kE P "is_row" 327 (.ref 115),kE P "is_net" 336 (.ref 122),kE P "need_net" 343 (.ref 129),kE P "MOST_SETS" 347 (.int 511 346),kE P "first_met" 362 (.ref 137),kE P "first_words" 371 (.ref 144),kE P "parts" 377 (.ref 149),kE P "hangs_together" 384 (.ref 156),kE P "need_whole" 391 (.ref 163),kE P "beat" 399 (.ref 168),kE P "_law_bag" 412 (.ref 175),kE P "_law_take" 423 (.ref 182),kE P "_law_order" 434 (.ref 189),kE P "_law_net" 440 (.ref 194),kE P "_law_reach" 446 (.ref 199),kE P "_law_whole" 452 (.ref 204),kE P "_law_divisor" 461 (.ref 211),kE P "_law_behind" 471 (.ref 218),kE P "_law_beat" 482 (.ref 225),kE P "_law_told" 490 (.ref 232),kE P "_law_goes_on" 496 (.ref 237),kE P "_law_right" 504 (.ref 244),kE P "law" 517 (.ref 251)].toArray 43,#[]⟩),
 (23,⟨.type "dict",none,.dict [kE P "__module__" 196 (vS "roadcall.errors" 187),kE P "__firstlineno__" 200 (.int 2 199),kE P "__static_attributes__" 201 (.ref 22),kE P "__weakref__" 203 (.ref 25),kE P "__doc__" 204 .none].toArray 3,#[]⟩),
 (24,⟨.type "type",none,.cls {name:=r9 "RoadError",bases:=[.type "ValueError"],mro:=[.ref 24,.type "ValueError",.type "Exception",.type "BaseException",.type "object"],ns:=23,qualname:=r9 "RoadError",subclasses:=[.ref 37,.ref 49,.ref 61,.ref 73,.ref 85]},#[some (.ref 15),none,some (vS "RoadError" 189),some (vS "RoadError" 197),some (.builtin "ValueError.__new__"),some (.bool true)]⟩),
 (36,⟨.type "dict",none,.dict [kE P "__module__" 214 (vS "roadcall.errors" 187),kE P "__firstlineno__" 218 (.int 4 217),kE P "__static_attributes__" 219 (.ref 35),kE P "__doc__" 220 .none].toArray 2,#[]⟩),
 (37,⟨.type "type",none,.cls {name:=r9 "NoNet",bases:=[.ref 24],mro:=[.ref 37,.ref 24,.type "ValueError",.type "Exception",.type "BaseException",.type "object"],ns:=36,qualname:=r9 "NoNet",subclasses:=[]},#[some (.ref 28),none,some (vS "NoNet" 207),some (vS "NoNet" 215),some (.builtin "ValueError.__new__"),some (.bool true)]⟩),
 (48,⟨.type "dict",none,.dict [kE P "__module__" 230 (vS "roadcall.errors" 187),kE P "__firstlineno__" 234 (.int 6 233),kE P "__static_attributes__" 235 (.ref 47),kE P "__doc__" 236 .none].toArray 2,#[]⟩),
 (49,⟨.type "type",none,.cls {name:=r9 "NoPlace",bases:=[.ref 24],mro:=[.ref 49,.ref 24,.type "ValueError",.type "Exception",.type "BaseException",.type "object"],ns:=48,qualname:=r9 "NoPlace",subclasses:=[]},#[some (.ref 40),none,some (vS "NoPlace" 223),some (vS "NoPlace" 231),some (.builtin "ValueError.__new__"),some (.bool true)]⟩),
 (60,⟨.type "dict",none,.dict [kE P "__module__" 246 (vS "roadcall.errors" 187),kE P "__firstlineno__" 250 (.int 8 249),kE P "__static_attributes__" 251 (.ref 59),kE P "__doc__" 252 .none].toArray 2,#[]⟩),
 (61,⟨.type "type",none,.cls {name:=r9 "NoSign",bases:=[.ref 24],mro:=[.ref 61,.ref 24,.type "ValueError",.type "Exception",.type "BaseException",.type "object"],ns:=60,qualname:=r9 "NoSign",subclasses:=[]},#[some (.ref 52),none,some (vS "NoSign" 239),some (vS "NoSign" 247),some (.builtin "ValueError.__new__"),some (.bool true)]⟩),
 (72,⟨.type "dict",none,.dict [kE P "__module__" 262 (vS "roadcall.errors" 187),kE P "__firstlineno__" 266 (.int 10 265),kE P "__static_attributes__" 267 (.ref 71),kE P "__doc__" 268 .none].toArray 2,#[]⟩),
 (73,⟨.type "type",none,.cls {name:=r9 "NoWord",bases:=[.ref 24],mro:=[.ref 73,.ref 24,.type "ValueError",.type "Exception",.type "BaseException",.type "object"],ns:=72,qualname:=r9 "NoWord",subclasses:=[]},#[some (.ref 64),none,some (vS "NoWord" 255),some (vS "NoWord" 263),some (.builtin "ValueError.__new__"),some (.bool true)]⟩),
 (84,⟨.type "dict",none,.dict [kE P "__module__" 278 (vS "roadcall.errors" 187),kE P "__firstlineno__" 282 (.int 12 281),kE P "__static_attributes__" 283 (.ref 83),kE P "__doc__" 284 .none].toArray 2,#[]⟩),
 (85,⟨.type "type",none,.cls {name:=r9 "NoWhole",bases:=[.ref 24],mro:=[.ref 85,.ref 24,.type "ValueError",.type "Exception",.type "BaseException",.type "object"],ns:=84,qualname:=r9 "NoWhole",subclasses:=[]},#[some (.ref 76),none,some (vS "NoWhole" 271),some (vS "NoWhole" 279),some (.builtin "ValueError.__new__"),some (.bool true)]⟩),
 (93,kC "is_whole" 289 15 1 3 88 true 181 89 (.ref 90) (.ref 91) 92 293 294),
 (94,kF 8 "is_whole" .none (vS "roadcall.whole" 287) 93),
 (100,kC "is_whole_below" 296 17 2 3 95 true 181 96 (.ref 97) (.ref 98) 99 301 302),
 (101,kF 9 "is_whole_below" .none (vS "roadcall.whole" 287) 100),
 (107,kC "common_divisor" 304 19 2 3 102 true 181 103 (.ref 104) (.ref 105) 106 309 310),
 (108,kF 10 "common_divisor" .none (vS "roadcall.whole" 287) 107),
 (114,kC "is_row" 318 27 3 3 109 true 181 110 (.ref 111) (.ref 112) 113 325 326),
 (115,kF 14 "is_row" .none (vS "roadcall.nets" 312) 114),
 (121,kC "is_net" 328 31 1 3 116 true 181 117 (.ref 118) (.ref 119) 120 334 335),
 (122,kF 15 "is_net" .none (vS "roadcall.nets" 312) 121),
 (128,kC "need_net" 337 39 1 3 123 true 181 124 (.ref 125) (.ref 126) 127 341 342),
 (129,kF 16 "need_net" .none (vS "roadcall.nets" 312) 128),
 (130,⟨.type "tuple",none,.seq #[.int 511 346] 0,#[]⟩),
 (136,kC "first_met" 348 44 4 3 131 true 181 132 (.ref 133) (.ref 134) 135 360 361),
 (137,kF 19 "first_met" (.ref 130) (vS "roadcall.ways" 344) 136),
 (143,kC "first_words" 363 55 2 3 138 true 181 139 (.ref 140) (.ref 141) 142 369 370),
 (144,kF 20 "first_words" .none (vS "roadcall.ways" 344) 143),
 (148,kC "parts" 372 57 1 3 145 true 181 146 .none .none 147 375 376),
 (149,kF 21 "parts" .none (vS "roadcall.ways" 344) 148),
 (155,kC "hangs_together" 378 66 1 3 150 true 181 151 (.ref 152) (.ref 153) 154 382 383),
 (156,kF 22 "hangs_together" .none (vS "roadcall.ways" 344) 155),
 (162,kC "need_whole" 385 68 1 3 157 true 181 158 (.ref 159) (.ref 160) 161 389 390),
 (163,kF 23 "need_whole" .none (vS "roadcall.ways" 344) 162),
 (167,kC "beat" 394 72 1 3 164 true 181 165 .none .none 166 397 398),
 (168,kF 25 "beat" .none (vS "roadcall.beats" 392) 167),
 (174,kC "_law_bag" 402 82 2 3 169 true 181 170 (.ref 171) (.ref 172) 173 410 411),
 (175,kF 27 "_law_bag" .none (vS "law_roadcall_k07_beats" 400) 174),
 (181,kC "_law_take" 413 92 2 3 176 true 181 177 (.ref 178) (.ref 179) 180 421 422),
 (182,kF 28 "_law_take" .none (vS "law_roadcall_k07_beats" 400) 181),
 (188,kC "_law_order" 424 104 2 3 183 true 181 184 (.ref 185) (.ref 186) 187 432 433),
 (189,kF 29 "_law_order" .none (vS "law_roadcall_k07_beats" 400) 188),
 (193,kC "_law_net" 435 110 2 3 190 true 181 191 .none .none 192 438 439),
 (194,kF 30 "_law_net" .none (vS "law_roadcall_k07_beats" 400) 193),
 (198,kC "_law_reach" 441 132 1 3 195 true 181 196 .none .none 197 444 445),
 (199,kF 31 "_law_reach" .none (vS "law_roadcall_k07_beats" 400) 198),
 (203,kC "_law_whole" 447 139 1 3 200 true 181 201 .none .none 202 450 451),
 (204,kF 32 "_law_whole" .none (vS "law_roadcall_k07_beats" 400) 203),
 (210,kC "_law_divisor" 453 141 2 3 205 true 181 206 (.ref 207) (.ref 208) 209 459 460),
 (211,kF 33 "_law_divisor" .none (vS "law_roadcall_k07_beats" 400) 210),
 (217,kC "_law_behind" 462 147 2 3 212 true 181 213 (.ref 214) (.ref 215) 216 469 470),
 (218,kF 34 "_law_behind" .none (vS "law_roadcall_k07_beats" 400) 217),
 (224,kC "_law_beat" 472 152 1 3 219 true 181 220 (.ref 221) (.ref 222) 223 480 481),
 (225,kF 35 "_law_beat" .none (vS "law_roadcall_k07_beats" 400) 224),
 (231,kC "_law_told" 483 161 1 3 226 true 181 227 (.ref 228) (.ref 229) 230 488 489),
 (232,kF 36 "_law_told" .none (vS "law_roadcall_k07_beats" 400) 231),
 (236,kC "_law_goes_on" 491 168 3 3 233 true 181 234 .none .none 235 494 495),
 (237,kF 37 "_law_goes_on" .none (vS "law_roadcall_k07_beats" 400) 236),
 (243,kC "_law_right" 497 177 1 3 238 true 181 239 (.ref 240) (.ref 241) 242 502 503),
 (244,kF 38 "_law_right" .none (vS "law_roadcall_k07_beats" 400) 243),
 (250,kC "law" 505 184 1 3 245 true 181 246 (.ref 247) (.ref 248) 249 515 516),
 (251,kF 39 "law" .none (vS "law_roadcall_k07_beats" 400) 250)]
def Sz:List ac:=[2,3,23,24,36,37,48,49,60,61,72,73,84,85,93,94,100,101,107,108,114,115,121,122,128,129,130,136,137,143,144,148,149,155,156,162,163,167,168,174,175,181,182,188,189,193,194,198,199,203,204,210,211,217,218,224,225,231,232,236,237,243,244,250,251]
def kq:ff:=PySem.W.view PySem.Challenge.pw_roadcall_k07_beats [1,2,3,4,5,6,8,9,10,12,13,14,15,16,18,20,21,22,23,25,27,28,29,30,31,32,33,34,35,36,37,38,39]
def kL:List bn:=[r9 "first_met"]
def kH:PySem.W.Hook:=PySem.W.kHook kK Sz fun _=>by kernel_rfl
theorem Hl {r:PySem.W.OpenRow} {q:ff} {loose:List bn} {H:PySem.W.Hook} {d:DefRec} {Jt:List (bn×dL)} {N:Nat} (left:PySem.W.LeftO r.prog q loose (fun s=>Xs q [] s && W4 r.records s) H.obs H.val N)
  (u9:PySem.W.defOf q r.name=some (d,Jt)) (hp:r.prog.theDef r.name=some (d.params,d.body,d.scope)) (hk:PySem.W.kwWritten? d.params.kwonlyargs d.params.kw_defaults=some Jt) (SA:(!r.writes || r.records.isEmpty)=true) (k1:r.wellSaid=true)
  (ok:(PySem.W.chainsOk q && PySem.W.opensWell r.prog && (PySem.W.frees r.toRowW && r.within.isEmpty))=true) (hb:r.prog.bare) (hw:r.toRowW.promised) (call:PySem.W.WalkO q loose (PySem.W.XL q []) H.says r.toRowW d Jt fun f vs=>XM f vs):r.Holds:=
 PySem.W.holds_open left H.of H.keeps (fun s e=>PySem.W.xl_of s (Bool.and_eq_true_iff.mp e).1) PySem.W.XL.keeps u9 hp hk (fun s e=>PySem.W.recFacts_of (Bool.and_eq_true_iff.mp e).2) SA k1 ok hb hw call
noncomputable def oeQ (p:ff) (w:ii) (N:Nat):Option ba:=((PySem.W.Fast.tw10274390034422433532 PySem.W.Fast.tw14364793385576792824 (XA p) w N (PySem.W.Fast.tw1435165496053646825 (XA p)).1 (PySem.W.Fast.tw1435165496053646825 (XA p)).2).bind (PySem.W.Fast.tw14289696077712309145 p)).bind fun s₀=>match s₀.heap.isNs PySem.mainGlobals && s₀.gens.size==0 with
 |true=>(PySem.W.Fast.tw14082659384304107361 PySem.W.Fast.tw14364793385576792824 p w s₀.heap.objs.size (s₀.heap.nsMap PySem.mainGlobals "__annotations__") N s₀ (PySem.W.topStub p)).bind fun aw=>match PySem.W.staticsOk (importedModules p.main.body) s₀.heap aw.heap && PySem.W.namesBound p aw.heap && PySem.W.gensDone aw && PySem.W.laidKept s₀.heap aw.heap with
   |true=>some aw
   |false=>none
 |false=>none
theorem N0 (p:ff) (w:ii) (N:Nat):PySem.W.openEnds treeTable p w N=oeQ p w N :=by
 unfold oeQ
 rw [<- PySem.W.Fast.te10274390034422433532,<- PySem.W.Fast.te14364793385576792824,<- PySem.W.Fast.te1435165496053646825,<- PySem.W.Fast.te14289696077712309145,<- PySem.W.Fast.te14082659384304107361]
 rfl
noncomputable def nsQ (q:ff):List bn:=(PySem.W.Fast.tw3399658132070893891 q).map (·.name)
theorem FX (q:ff):(recsOf q).map (·.name)=nsQ q :=by unfold nsQ;rw [<- PySem.W.Fast.te3399658132070893891]
noncomputable def c1Q (s:ba):=PySem.W.Fast.tw5160383126252970620 (nsQ kq) (PySem.W.Fast.tw5991557255702980513 kq) [] {s with gens:=#[]}
theorem N1 (s:ba):seen ((recsOf kq).map (·.name)) (ownsOf kq) [] {s with gens:=#[]}=c1Q s :=by unfold c1Q;rw [FX,<- PySem.W.Fast.te5160383126252970620,<- PySem.W.Fast.te5991557255702980513]
def c2 (s:ba):=(s.heap.bltView,s.heap.keysOk (WN kq kL) ((recsOf kq).map (·.name)) ((litsOf kq).map (·.1)) ((clssOf kq (WN kq kL)).map (·.name)) && s.heap.accountedOkI (importedModules PySem.Challenge.pw_roadcall_k07_beats.main.body) && s.heap.isNs mainGlobals && s.heap.isNs builtinsNs && tablesOk kq s.heap && (Xs kq [] s && W4 [] s) && (s.gens.size==0))
noncomputable def c2Q (s:ba):=(s.heap.bltView,PySem.W.Fast.tw10880121769531294198 s.heap (OE kq kL) (nsQ kq) ((PySem.W.Fast.tw7409074990110511671 kq).map (·.1)) ((PySem.W.Fast.tw13664370479719496447 kq (OE kq kL)).map (·.name)) && PySem.W.Fast.tw14722251495701143533 s.heap (importedModules PySem.Challenge.pw_roadcall_k07_beats.main.body) && s.heap.isNs mainGlobals && s.heap.isNs builtinsNs && PySem.W.Fast.tw10994771534591457954 kq s.heap && (Xs kq [] s && W4 [] s) && (s.gens.size==0))
theorem N4 (s:ba):c2 s=c2Q s :=by unfold c2 c2Q;rw [FX,<- PySem.W.Fast.te10880121769531294198,<- PySem.W.Fast.te821141287760084731,<- PySem.W.Fast.te7409074990110511671,<- PySem.W.Fast.te13664370479719496447,<- PySem.W.Fast.te14722251495701143533,<- PySem.W.Fast.te10994771534591457954]
def c3 (s:ba):=tabsOk kq s
def c5 (s:ba):=plainSeenE kq (WN kq kL) s
def c4 (s:ba):=(PySem.pinSeenD kq (drecsOf kq) s,plainSeenD kq kL s,PySem.W.wideSeen kq s,PySem.W.clsSeenW kq kL s)
noncomputable def c3Q (s:ba):=PySem.W.Fast.tw479339242167458305 kq s
noncomputable def c5Q (s:ba):=PySem.W.Fast.tw2386780881361962483 kq (OE kq kL) s
noncomputable def c4Q (s:ba):=(PySem.W.Fast.tw16090120013241838585 kq (PySem.W.Fast.tw3247288618530077131 kq) s,PySem.W.Fast.tw11698064438423848299 kq kL s,PySem.W.Fast.tw7317090234206586261 kq s,PySem.W.Fast.tw7369524293546568484 kq kL s)
theorem N5 (s:ba):c3 s=c3Q s :=by unfold c3 c3Q;rw [<- PySem.W.Fast.te479339242167458305]
theorem N6 (s:ba):c5 s=c5Q s :=by unfold c5 c5Q;rw [<- PySem.W.Fast.te2386780881361962483,<- PySem.W.Fast.te821141287760084731]
theorem N7 (s:ba):c4 s=c4Q s :=by unfold c4 c4Q;rw [<- PySem.W.Fast.te16090120013241838585,<- PySem.W.Fast.te3247288618530077131,<- PySem.W.Fast.te11698064438423848299,<- PySem.W.Fast.te7317090234206586261,<- PySem.W.Fast.te7369524293546568484]
set_option maxHeartbeats 0 in
theorem left0 (w:ii):(oeQ PySem.Challenge.pw_roadcall_k07_beats w 4302).map (fun s=>kH.obs s)=some (kH.val w) :=by kernel_rfl
set_option maxHeartbeats 0 in
theorem left1 (w:ii):(oeQ PySem.Challenge.pw_roadcall_k07_beats w 4302).map c1Q=some (expectedOf kq) :=by kernel_rfl
set_option maxHeartbeats 0 in
theorem left2 (w:ii):(oeQ PySem.Challenge.pw_roadcall_k07_beats w 4302).map c2Q=some (bltViewBooted,true) :=by kernel_rfl
set_option maxHeartbeats 0 in
theorem left3 (w:ii):(oeQ PySem.Challenge.pw_roadcall_k07_beats w 4302).map c3Q=some true :=by kernel_rfl
set_option maxHeartbeats 0 in
theorem left5 (w:ii):(oeQ PySem.Challenge.pw_roadcall_k07_beats w 4302).map c5Q=some (plainGoodE kq (WN kq kL)) :=by kernel_rfl
set_option maxHeartbeats 0 in
theorem left4 (w:ii):(oeQ PySem.Challenge.pw_roadcall_k07_beats w 4302).map c4Q=some (PySem.pinGoodD (drecsOf kq),plainGoodD kq kL,PySem.W.wideGood kq,PySem.W.clsGoodW kq kL) :=by kernel_rfl
theorem left (w:ii):(PySem.W.openEnds treeTable PySem.Challenge.pw_roadcall_k07_beats w 4302).map (fun s=>(PySem.W.openSeen kq kL (importedModules PySem.Challenge.pw_roadcall_k07_beats.main.body) (fun s=>Xs kq [] s && W4 [] s) true s,kH.obs s))=some (PySem.W.openGood kq kL,kH.val w) :=by
 rw [N0]
 have a0:=left0 w
 have a1:=left1 w
 have a2:=left2 w
 have a3:=left3 w
 have a4:=left4 w
 have a5:=left5 w
 revert a0 a1 a2 a3 a4 a5
 generalize oeQ PySem.Challenge.pw_roadcall_k07_beats w 4302=o
 cases o with
 |none=>intro a0;cases a0
 |some s=>
  intro a0 a1 a2 a3 a4 a5
  have a0:kH.obs s=kH.val w:=ij a0
  have a1:=ij a1
  have a2:=ij a2
  have a3:=ij a3
  have a4:=ij a4
  have a5:=ij a5
  rw [<- N1] at a1
  rw [<- N4] at a2
  rw [<- N5] at a3
  rw [<- N7] at a4
  rw [<- N6] at a5
  show some ((seen ((recsOf kq).map (·.name)) (ownsOf kq) [] {s with gens:=#[]},(c2 s).1,(c2 s).2,c3 s,(c4 s).1,c5 s,(c4 s).2),kH.obs s)=_
  rw [a0,a1,a2,a3,a4,a5]
  rfl
end My
namespace L2
open PySem PySem.Spec PyProof.Rows
abbrev Key:=Sum Int bn
def ox:Key->al->Bool
 | .inl k,v=>al.isInt k v
 | .inr x,v=>al.isStrOf x v
def Q1 (w:ii):Key->Int
 | .inl k=>hashInt k
 | .inr x=>hashStr w x
theorem cf:∀{k:Key} {v:al},ox k v=true->(∃i t,k=DO i/\v=WW i t)\/(∃x t,k=WO x/\v=Wp x t)
 | .inl i,v,h=>by
          obtain ⟨t,e⟩:=V8 (k:=i) (v:=v) h
          exact .inl ⟨i,t,rfl,e⟩
 | .inr x,v,h=>by
          obtain ⟨t,e⟩:=al.isStrOf_shape (x:=x) (v:=v) h
          exact .inr ⟨x,t,rfl,e⟩
theorem AZ (i:Int) (t:W9):ox (.inl i) (.int i t)=true :=by simp [ox,al.isInt]
theorem A0 (x:bn) (t:W9):ox (.inr x) (.str x t)=true :=by simp [ox,al.isStrOf]
theorem Ju (a b:Int):decide ((DO a:Key)=DO b)=(a==b) :=by
 by_cases e:a=b
 ·subst e;simp
 ·have h:¬ (DO a:Key)=DO b:=fun q=>e (DO.inj q)
  rw [decide_eq_false h]
  exact (beq_eq_false_iff_ne.mpr e).symm
theorem Jv (a b:bn):decide ((WO a:Key)=WO b)=decide (a=b) :=by
 by_cases e:a=b
 ·subst e;simp
 ·have h:¬ (WO a:Key)=WO b:=fun q=>e (WO.inj q)
  rw [decide_eq_false h,decide_eq_false e]
theorem Jw (a:Int) (b:bn):decide ((DO a:Key)=WO b)=false:=decide_eq_false (fun q=>nomatch q)
theorem Jx (a:bn) (b:Int):decide ((WO a:Key)=DO b)=false:=decide_eq_false (fun q=>nomatch q)
def bJ (prog:ff) (w:ii):PySem.KeyKind prog w Key where
 is:=ox
 hash:=Q1 w
 inj:=fun v a b ha hb=>by
  rcases cf ha with ⟨i,t,rfl,rfl⟩|⟨x,t,rfl,rfl⟩
  ·rcases cf hb with ⟨j,u,rfl,e⟩|⟨y,u,rfl,e⟩
   ·injection e with e1 _;rw [e1]
   ·exact nomatch e
  ·rcases cf hb with ⟨j,u,rfl,e⟩|⟨y,u,rfl,e⟩
   ·exact nomatch e
   ·injection e with e1 _;rw [e1]
 byValue:=fun k v h=>by
  rcases cf h with ⟨i,t,rfl,rfl⟩|⟨x,t,rfl,rfl⟩ <;> rfl
 pyHash:=fun hv h=>by
  rcases cf hv with ⟨i,t,rfl,rfl⟩|⟨x,t,rfl,rfl⟩
  ·exact wpAny_pyHash_int h
  ·exact wpAny_pyHash_str h
 eqBool:=fun hu hv h=>by
  rcases cf hu with ⟨i,t,rfl,rfl⟩|⟨x,t,rfl,rfl⟩
  ·rcases cf hv with ⟨j,u,rfl,rfl⟩|⟨y,u,rfl,rfl⟩
   ·rw [Ju] at h;exact wpAny_eqBool_int h
   ·rw [Jw] at h;exact WX i t y u _ _ _ _ h
  ·rcases cf hv with ⟨j,u,rfl,rfl⟩|⟨y,u,rfl,rfl⟩
   ·rw [Jx] at h;exact WY x t j u _ _ _ _ h
   ·rw [Jv] at h;exact wpAny_eqBool_str h
 «strs»:=fun k x t v h=>by
  rcases cf h with ⟨i,u,rfl,e⟩|⟨y,u,rfl,e⟩
  ·exact nomatch e
  ·injection e with e1 _
   subst e1
   cases v <;> rfl
theorem xJ (prog:ff) (w:ii) (i:Int) (t:W9):(bJ prog w).is (.inl i) (.int i t)=true:=AZ i t
theorem xK (prog:ff) (w:ii) (x:bn) (t:W9):(bJ prog w).is (.inr x) (.str x t)=true:=A0 x t
inductive V where
 |au|bl (b:Bool)|int (i:Int)|str (x:bn)|jE (b:Array UInt8)|yt (b:UInt64)|ref (a:ac)|ty (n:String)
 deriving DecidableEq
def RelV:V->al->Prop
 | .au,u=>u=BN
 | .bl b,u=>u=Wv b
 | .int i,u=>∃t,u=WW i t
 | .str x,u=>∃t,u=Wp x t
 | .jE b,u=>∃t,u=al.bytes b t
 | .yt b,u=>∃t,u=al.float b t
 | .ref a,u=>u=li a
 | .ty n,u=>u=AM n
abbrev Vals:List V->List al->Prop:=EN RelV
theorem Vals.length {xs:List V} {us:List al} (r:Vals xs us):xs.length=us.length:=UF r
theorem Vals.get:∀{xs:List V} {us:List al} {i:Nat} {x:V},Vals xs us->xs[i]?=some x->∃u,us[i]?=some u/\RelV x u
 |_,_,_,_,.nil,e=>by simp at e
 |_,_,0,_,.cons r _,e=>by simp at e;subst e;exact ⟨_,rfl,r⟩
 |_,_,i+1,x,.cons _ t,e=>by
          obtain ⟨u,h1,h2⟩:=Vals.get (i:=i) (x:=x) t (by simpa using e)
          exact ⟨u,by simpa using h1,h2⟩
theorem Vals.set {x:V} {u:al} (r:RelV x u):∀{xs:List V} {us:List al} (i:Nat),Vals xs us->Vals (xs.set i x) (us.set i u)
 |_,_,_,.nil=>.nil
 |_,_,0,.cons _ t=>.cons r t
 |_,_,i+1,.cons q t=>.cons q (Vals.set r i t)
theorem Vals.append:∀{xs ys:List V} {us ws:List al},Vals xs us->Vals ys ws->Vals (xs++ys) (us++ws)
 |_,_,_,_,.nil,s=>s
 |_,_,_,_,.cons r t,s=>.cons r (Vals.append t s)
theorem Vals.take:∀{xs:List V} {us:List al} (n:Nat),Vals xs us->Vals (xs.take n) (us.take n)
 |_,_,0,_=>.nil
 |_,_,_+1,.nil=>.nil
 |_,_,n+1,.cons r t=>.cons r (Vals.take n t)
theorem Vals.drop:∀{xs:List V} {us:List al} (n:Nat),Vals xs us->Vals (xs.drop n) (us.drop n)
 |_,_,0,r=>r
 |_,_,_+1,.nil=>.nil
 |_,_,n+1,.cons _ t=>Vals.drop n t
def jF:Option V->Option al->Prop
 |some v,some u=>RelV v u
 |none,none=>True
 |_,_=>False
def KV {κ:Type}:List (κ×V)->List (κ×al)->Prop:=EN fun (p:κ×V) (q:κ×al)=>p.1=q.1/\RelV p.2 q.2
def kV:Key->V
 | .inl i=>.int i
 | .inr x=>.str x
inductive HO where
 |lst (xs:List V)
 |tup (xs:List V)
 |dK (ao:List (Key×V))|dT (ao:List (List Key×V))
 |set (S:Int->Bool) (n:Nat)
 |ins (C dx:ac) (fs:List (bn×V))
 |own (x:ac)
 |xd (fs:List (bn×V))
 |met (f x:ac)
 |FY (lo hi:Int)
 |bL (o:i4) (u:HO)
 |cO (ps:Array al)
 |lam (ps:Array al)
 |ext (φ:ge->Prop)
abbrev Hp:=ac->Option HO
def upd (H:Hp) (a:ac) (o:HO):Hp:=fun b=>if b=a then some o else H b
theorem ay {H:Hp} {a:ac} {o:HO}:upd H a o a=some o :=by unfold upd;rw [if_pos rfl]
theorem af {H:Hp} {a b:ac} {o:HO} (h:b≠a):upd H a o b=H b :=by unfold upd;rw [if_neg h]
theorem yu {H:Hp} {a:ac} {o u:HO}:upd (upd H a o) a u=upd H a u :=by
 funext b;unfold upd;split <;> rfl
theorem zx {H:Hp} {a b:ac} {o u:HO} (h:H a=some o) (h':H b=some u) (d:o≠u):a≠b :=by
 intro e;subst e;rw [h] at h';exact d (ij h')
theorem aZ {H:Hp} {a b:ac} {o:HO} (h:H a=some o) (h':H b=none):a≠b :=by
 intro e;subst e;rw [h] at h';cases h'
section
variable (P:ff) (w:ii)
def jG (h:ge) (a:ac) (items:Array al):Prop:=∃o,h.get? a=some o/\o.cls=.type "tuple" /\ ∃n,o.data=.seq items n/\o.dict=none
theorem jG.tup {h:ge} {a:ac} {items:Array al} (x:jG h a items):IsTup h a items:=let ⟨o,e,c,n,d,_⟩:=x;⟨o,e,c,n,d⟩
theorem jG.lt {h:ge} {a:ac} {items:Array al} (x:jG h a items):a<h.objs.size:=x.tup.lt
theorem jG.new (h:ge) (items:Array al):jG (h.push {cls:=.type "tuple",data:=.seq items}) h.objs.size items:=⟨_,f8 _ rfl,rfl,_,rfl,rfl⟩
def ObjOk (H:Hp) (h:ge) (a:ac):HO->Prop
 | .lst xs=>xs.length<=sizeLine/\∃(its:List al) (n:Nat),Vals xs its/\h.get? a=some {cls:=.type "list",data:=.seq its.toArray n}
 | .tup xs=>xs.length<=sizeLine/\∃its:List al,Vals xs its/\jG h a its.toArray
 | .dK ao=>ao.length<=sizeLine/\(a==sysModules)=false/\∃vs,KV ao vs/\h.DictOf (bJ P w) a vs
 | .dT ao=>ao.length<=sizeLine/\(a==sysModules)=false/\∃xs:List (List Key×ac×al),
   EN (fun (p:List Key×V) (q:List Key×ac×al)=>p.1=q.1/\H q.2.1=some (.tup (p.1.map kV))/\RelV p.2 q.2.2) ao xs /\
   ∃o es ep,h.get? a=some o/\o.ExactDict/\o.data=.dict es ep/\es.toList=xs.map (entryOfKey (tupleKind (bJ P w)))/\(xs.map (·.1)).Nodup
 | .set S n=>h.SetOf (intKind P w) a S n
 | .ins C dx fs=>H dx=some (.own a)/\fs.length<=1000/\dx≠a/\h.get? a=some (XB C dx) /\
   ∃mA,h.Ns1 dx mA/\(∀f,jF (fs.lookup f) (mA f))/\PySem.Within mA (fs.map (·.1))
 | .own _=>∃o,h.get? a=some o
 | .xd fs=>∃mA,h.Ns1 a mA/\∀f,jF (fs.lookup f) (mA f)
 | .FY lo hi=>∃t u v,h.get? a=some {cls:=.type "range",data:=.fields #[.int lo t,.int hi u,.int 1 v]}
 | .bL o u=>h.get? a=some o/\ObjOk H h a u
 | .cO ps=>h.get? a=some {cls:=.none,data:=.fields ps}
 | .lam ps=>h.get? a=some {cls:=.none,data:=.fields ps}
 | .met f x=>h.get? a=some (Xa (.ref f) (.ref x))
 | .ext φ=>φ h/\(∃o,h.get? a=some o)/\∀h1 h2:ge,φ h1->(∀o,h1.get? a=some o->h2.get? a=some o)->φ h2
def cH (H:Hp) (h:ge):Prop:=∀a o,H a=some o->ObjOk P w H h a o
end
section
variable {P:ff} {w:ii} {H H':Hp} {h h':ge} {a:ac} {o:HO}
theorem ObjOk.lt (x:ObjOk P w H h a o):a<h.objs.size :=by
 cases o with
 |lst xs=>obtain ⟨_,_,_,_,e⟩:=x;exact hX e
 |tup xs=>obtain ⟨_,_,_,p⟩:=x;exact p.lt
 |dK ao=>obtain ⟨_,_,_,_,o,_,_,e,_⟩:=x;exact hX e
 |dT ao=>obtain ⟨_,_,_,_,o,_,_,e,_⟩:=x;exact hX e
 |set S n=>obtain ⟨o,_,_,_,e,_⟩:=x;exact hX e
 |ins C dx fs=>obtain ⟨_,_,_,e,_⟩:=x;exact hX e
 |own y=>obtain ⟨_,e⟩:=x;exact hX e
 |xd fs=>obtain ⟨_,⟨_,_,_,e,_⟩,_⟩:=x;exact hX e
 |FY lo hi=>obtain ⟨_,_,_,e⟩:=x;exact hX e
 |bL ob u=>obtain ⟨e,_⟩:=x;exact hX e
 |cO ps=>exact hX (show h.get? a=some _ from x)
 |lam ps=>exact hX (show h.get? a=some _ from x)
 |met f y=>exact hX (show h.get? a=some _ from x)
 |ext φ=>obtain ⟨_,⟨_,e⟩,_⟩:=x;exact hX e
theorem EN.DV {α β:Type} {F G:α->β->Prop}:∀{Jy:List α} {Jz:List β},EN F Jy Jz->(∀a b,F a b->G a b)->EN G Jy Jz
 |_,_,.nil,_=>.nil
 |_,_,.cons r t,f=>.cons (f _ _ r) (EN.DV t f)
theorem ObjOk.bU (x:ObjOk P w H h a o) (k:∀b u,(b=a\/H b=some (.own a))->h.get? b=some u->h'.get? b=some u)
  (ho:∀b,H b=some (.own a)->H' b=some (.own a)) (ht:∀b xs,H b=some (.tup xs)->H' b=some (.tup xs)):ObjOk P w H' h' a o :=by
 induction o with
 |lst xs=>obtain ⟨z,its,n,r,e⟩:=x;exact ⟨z,its,n,r,k _ _ (.inl rfl) e⟩
 |tup xs=>obtain ⟨z,its,r,ob,e,c⟩:=x;exact ⟨z,its,r,ob,k _ _ (.inl rfl) e,c⟩
 |dK ao=>obtain ⟨z,y,vs,r,ob,es,ep,e,c⟩:=x;exact ⟨z,y,vs,r,ob,es,ep,k _ _ (.inl rfl) e,c⟩
 |dT ao=>
  obtain ⟨z,y,xs,r,ob,es,ep,e,c⟩:=x
  exact ⟨z,y,xs,EN.DV r fun p q z=>⟨z.1,ht _ _ z.2.1,z.2.2⟩,ob,es,ep,k _ _ (.inl rfl) e,c⟩
 |set S n=>obtain ⟨ob,es,ep,t,e,c⟩:=x;exact ⟨ob,es,ep,t,k _ _ (.inl rfl) e,c⟩
 |ins C dx fs=>
  obtain ⟨d,z,ne,e,mA,⟨od,es,ep,e2,c⟩,r⟩:=x
  exact ⟨ho _ d,z,ne,k _ _ (.inl rfl) e,mA,⟨od,es,ep,k _ _ (.inr d) e2,c⟩,r⟩
 |own y=>obtain ⟨ob,e⟩:=x;exact ⟨ob,k _ _ (.inl rfl) e⟩
 |xd fs=>obtain ⟨mA,⟨od,es,ep,e,c⟩,r⟩:=x;exact ⟨mA,⟨od,es,ep,k _ _ (.inl rfl) e,c⟩,r⟩
 |FY lo hi=>obtain ⟨t,u,v,e⟩:=x;exact ⟨t,u,v,k _ _ (.inl rfl) e⟩
 |bL ob u ih=>obtain ⟨e,q⟩:=x;exact ⟨k _ _ (.inl rfl) e,ih q⟩
 |cO ps=>
  have e:h.get? a=some {cls:=.none,data:=.fields ps}:=x
  show h'.get? a=some {cls:=.none,data:=.fields ps}
  exact k a _ (.inl rfl) e
 |lam ps=>
  have e:h.get? a=some {cls:=.none,data:=.fields ps}:=x
  show h'.get? a=some {cls:=.none,data:=.fields ps}
  exact k a _ (.inl rfl) e
 |met f y=>
  have e:h.get? a=some (Xa (.ref f) (.ref y)):=x
  show h'.get? a=some (Xa (.ref f) (.ref y))
  exact k a _ (.inl rfl) e
 |ext φ=>obtain ⟨p,⟨o,e⟩,st⟩:=x;exact ⟨st _ _ p fun o q=>k _ _ (.inl rfl) q,⟨o,k _ _ (.inl rfl) e⟩,st⟩
theorem cH.lt (x:cH P w H h) (e:H a=some o):a<h.objs.size:=(x a o e).lt
theorem cH.fresh (x:cH P w H h) (e:h.objs.size<=a):H a=none :=by
 cases q:H a with
 |none=>rfl
 |some u=>exact absurd (l8 (x.lt q) e) (EO _)
theorem cH.kept (x:cH P w H h) (k:∀b u,h.get? b=some u->h'.get? b=some u):cH P w H h':=fun a o e=>
 (x a o e).bU (fun b u _ q=>k b u q) (fun _ q=>q) fun _ _ q=>q
theorem cH.laid (x:cH P w H h) (k:∀b u,h.get? b=some u->h'.get? b=some u) (hp:h.objs.size<=a) (new:ObjOk P w (upd H a o) h' a o):cH P w (upd H a o) h':=fun b u e=>by
 have hn:=x.fresh hp
 by_cases hb:b=a
 ·subst hb;rw [ay] at e;cases e;exact new
 ·rw [af hb] at e
  exact (x b u e).bU (fun c v _ q=>k c v q) (fun c q=>by rw [af (aZ q hn)];exact q) fun c xs q=>by rw [af (aZ q hn)];exact q
end
def Rd (H:Hp) (a:ac) (u:HO):Prop:=H a=some u\/∃o,H a=some (.bL o u)
theorem Rd.ok {P:ff} {w:ii} {H:Hp} {h:ge} {a:ac} {u:HO} (r:Rd H a u) (x:cH P w H h):ObjOk P w H h a u :=by
 rcases r with r|⟨o,r⟩
 ·exact x a u r
 ·obtain ⟨_,q⟩:=x a _ r
  exact q
def A1:Option HO->Prop
 |some (.lst _)=>True
 |some (.dK _)=>True
 |some (.dT _)=>True
 |some (.set _ _)=>True
 |some (.ins _ _ _)=>True
 |some (.ext _)=>True
 |some (.lam _)=>True
 |_=>False
section
variable {P:ff} {w:ii} {H:Hp} {h h':ge} {x e:ac} {o':HO}
theorem cH.write (ok:cH P w H h) (mu:A1 (H x)) (he:e=x\/H e=some (.own x)) (k:∀b u,b≠e->h.get? b=some u->h'.get? b=some u) (yw:∃u,h'.get? e=some u)
  (new:ObjOk P w (upd H x o') h' x o'):cH P w (upd H x o') h':=fun b u q=>by
 have JA:∀c y,H c=some (.own y)->c≠x:=fun c y r z=>by subst z;rw [r] at mu;exact mu
 have Q2:∀c xs,H c=some (.tup xs)->c≠x:=fun c xs r z=>by subst z;rw [r] at mu;exact mu
 by_cases hb:b=x
 ·subst hb;rw [ay] at q;cases q;exact new
 ·rw [af hb] at q
  by_cases va:b=e
  ·have q':H b=some (.own x) :=by
    rcases he with z|z
    ·exact absurd (va.trans z) hb
    ·rw [va];exact z
   rw [q] at q';cases q'
   obtain ⟨v,hv⟩:=yw
   exact ⟨v,by rw [va];exact hv⟩
  ·refine (ok b u q).bU (fun c v hc r=>k c v ?_ r) (fun c r=>by rw [af (JA c b r)];exact r) fun c xs r=>by rw [af (Q2 c xs r)];exact r
   rcases hc with rfl|hc
   ·exact va
   ·rintro rfl
    rcases he with z|z
    ·exact JA c b hc z
    ·rw [hc] at z;cases z;exact hb rfl
end
structure Un (fs ex:List ac) (H H':Hp) (h h':ge):Prop where
 keep:∀b o,h.get? b=some o->H b=none->b ∉ fs->b ∉ ex->h'.get? b=some o
 slot:∀b o,h.get? b=some o->H b=none->b∈fs->b ∉ ex->∃sl,h'.get? b=some {o with slots:=sl}
 free:∀b o,h.get? b=some o->H b=none->b ∉ ex->H' b=none
 there:∀b o,h.get? b=some o->b ∉ ex->∃o',h'.get? b=some o'
 tups:∀b xs,H b=some (.tup xs)->H' b=some (.tup xs)
 frzs:∀b o u,H b=some (.bL o u)->H' b=some (.bL o u)
 tbls:∀b ps,H b=some (.cO ps)->∃more,H' b=some (.cO (ps++more))
section
variable {fs SD ex Vm:List ac} {H H1 H2:Hp} {h h1 h2 h':ge} {a x e:ac} {o:HO}
theorem Un.any (u:Un fs ex H H1 h h1) {b:ac} {ob:i4} (q:h.get? b=some ob) (n:H b=none) (hx:b ∉ ex):∃sl,h1.get? b=some {ob with slots:=sl}:=by
 by_cases hb:b∈fs
 ·exact u.slot b ob q n hb hx
 ·exact ⟨ob.slots,u.keep b ob q n hb hx⟩
theorem Un.kept (k:∀b u,h.get? b=some u->h'.get? b=some u):Un fs ex H H h h':=
 ⟨fun b ob q _ _ _=>k b ob q,fun b ob q _ _ _=>⟨ob.slots,k b ob q⟩,fun _ _ _ n _=>n,fun b ob q _=>⟨ob,k b ob q⟩,fun _ _ q=>q,fun _ _ _ q=>q,fun _ ps q=>⟨#[],by rw [q];simp⟩⟩
theorem Un.refl:Un fs ex H H h h:=Un.kept fun _ _ q=>q
theorem Un.laid (k:∀b u,h.get? b=some u->h'.get? b=some u) (hp:h.objs.size<=a) (hn:H a=none):Un fs ex H (upd H a o) h h' where
 keep:=fun b u q _ _ _=>k b u q
 slot:=fun b u q _ _ _=>⟨u.slots,k b u q⟩
 free:=fun b u q n _=>by rw [af (jp (l8 (hX q) hp))];exact n
 there:=fun b u q _=>⟨u,k b u q⟩
 tups:=fun b xs q=>by rw [af (aZ q hn)];exact q
 frzs:=fun b u xs q=>by rw [af (aZ q hn)];exact q
 tbls:=fun b ps q=>⟨#[],by rw [af (aZ q hn),q];simp⟩
theorem Un.write (mu:A1 (H x)) (he:e=x\/H e=some (.own x)) (k:∀b u,b≠e->h.get? b=some u->h'.get? b=some u) (yw:∃u,h'.get? e=some u):Un fs ex H (upd H x o) h h':=by
 have hx:∀b,H b=none->b≠x:=fun b n z=>by subst z;rw [n] at mu;exact mu
 have hb:∀b,H b=none->b≠e:=fun b n z=>by
  subst z
  rcases he with r|r
  ·exact hx b n r
  ·rw [n] at r;cases r
 have hm:∀b u,H b=some u->¬ A1 (some u)->b≠x:=fun b u q nm z=>by subst z;rw [q] at mu;exact nm mu
 refine ⟨fun b u q n _ _=>k b u (hb b n) q,fun b u q n _ _=>⟨u.slots,k b u (hb b n) q⟩,fun b u q n _=>by rw [af (hx b n)];exact n,fun b u q _=>?_,
  fun b xs q=>by rw [af (hm b _ q fun z=>z)];exact q,fun b u xs q=>by rw [af (hm b _ q fun z=>z)];exact q,fun b ps q=>⟨#[],by rw [af (hm b _ q fun z=>z),q];simp⟩⟩
 by_cases va:b=e
 ·subst va;exact yw
 ·exact ⟨u,k b u va q⟩
end
def FZ (h:ge) (H:Hp):List ac:=(i0 h.objs.size).filter fun a=>(H a).isSome
def jH (h:ge) (H:Hp):ge:=AE h (FZ h H)
theorem A6 (h:ge) (H:Hp):(jH h H).objs.size=h.objs.size:=PySem.W.hideAll_size _ _
theorem DW {h:ge} {H:Hp} {b:ac} {o:i4} (e:h.get? b=some o) (n:H b=none):(jH h H).get? b=some o:=
 VN _ e fun hm=>by
  have q:(H b).isSome=true:=(Ll.mp hm).2
  rw [n] at q;simp at q
theorem Hm {h:ge} {H:Hp} {b:ac} {o:i4} (e:(jH h H).get? b=some o):h.get? b=some o/\H b=none :=by
 have e':h.get? b=some o:=WZ (FZ h H) e
 refine ⟨e',?_⟩
 cases q:H b with
 |none=>rfl
 |some x=>
  have hm:b∈FZ h H:=Ll.mpr ⟨ES.mpr (hX e'),by simp [q]⟩
  have z:(jH h H).get? b=none:=PySem.W.hideAll_none (FZ h H) hm
  rw [z] at e;cases e
def Hn (g h:ge) (L:ac):List (ac×i4):=(i0 h.objs.size).filterMap fun a=>if a=L\/(g.get? a).isSome=true then none else (h.get? a).map fun o=>(a,o)
def rest (g h:ge) (L d:ac):List (ac×i4):=(Hn g h L).filter fun p=>decide (p.1≠d)
structure Mod (K:bi) (mg:bn->Option al) (base:ge):Prop where
 kin:K.In base
 glob:base.Ns mainGlobals mg
 blt:∃mb,base.Ns builtinsNs mb/\∀x:bn,x ≠ "__name__" -> mb x=bootBuiltins x
 nolimit:base.NoLimit
structure Cx where
 prog:ff
 w:ii
 K:bi
 mg:bn->Option al
 base:ge
 A:ma
 N:List bn
 s₀:ba
 H₀:Hp
 env:IR
 outer:List IR
 stack:List IR
 ex:List ac
 fn:bn->Bool
 calm:Bool
 pn:List (ac×i4)
 xe:al->ba->Prop
def dQ (l:List IR):List ac:=l.filterMap (·.frame)
abbrev Cx.fs (X:Cx):List ac:=dQ X.outer
def oZ (sc:u8) (x:bn):Prop:=sc.names.lookup x=some .local\/sc.names.lookup x=some .cell\/sc.names.lookup x=some .free
def Loc (sc:u8) (x:bn):Prop:=sc.names.lookup x=some .local\/sc.names.lookup x=some .cell
def Look (env:IR) (h:ge) (m:bn->Option al) (x:bn) (u:al):Prop:=
 (env.kindOf x=some .local/\m x=some u)\/((env.kindOf x=some .cell\/env.kindOf x=some .free)/\∃c,env.cells.lookup x=some c/\h.IsCell c (some u))
structure Cx.Ok (X:Cx):Prop where
 mod:Mod X.K X.mg X.base
 kind:X.env.scope.kind=.function
 glob:X.env.globals=mainGlobals
 blt:X.env.builtins=builtinsNs
 above:X.s₀.heap.objs.size<=X.env.locals
 inj:∀x y c,X.env.cells.lookup x=some c->X.env.cells.lookup y=some c->x=y
 has:∀x,(X.env.kindOf x=some .cell\/X.env.kindOf x=some .free)->∃c,X.env.cells.lookup x=some c
 cab:∀x c,X.fn x=true->X.env.cells.lookup x=some c->X.s₀.heap.objs.size<=c
 hd:X.calm=true->X.A.handled=none
 frames:X.A.frames=some X.stack
 stk:X.stack=X.outer\/(X.stack=X.env::X.outer/\X.env.frame=some X.env.locals)
 exf:∀b∈X.ex,b≠X.env.locals/\∀x c,X.env.cells.lookup x=some c->c≠b
 bs:∀b o,X.base.get? b=some o->X.s₀.heap.get? b=some o/\X.H₀ b=none
 bsz:X.base.objs.size<=X.s₀.heap.objs.size
 noex:∀b o,X.base.get? b=some o->b ∉ X.ex
 exfs:∀b∈X.ex,b ∉ X.fs
 funs:X.s₀.heap.FunFrames X.base X.outer
 frf:∀b∈X.fs,X.H₀ b=none
def Gn (n:Nat) (g:Array RS):Prop:=XJ g/\n<=g.size
theorem Gn.self {n:Nat} {g:Array RS} (x:Gn n g):Gn g.size g:=⟨x.1,cr _⟩
theorem Gn.trans {n:Nat} {g g':Array RS} (x:Gn n g) (y:Gn g.size g'):Gn n g':=⟨y.1,wv x.2 y.2⟩
structure Inv (X:Cx) (pins:List (ac×i4)) (σ:List (Option V)) (H:Hp) (s:ba):Prop where
 ok:X.Ok
 os:s.os=X.s₀.os
 bare:Gn X.s₀.gens.size s.gens
 base:Un X.fs X.ex X.H₀ H X.s₀.heap s.heap
 loc:∃m,s.heap.Ns X.env.locals m/\∀(i:Nat) (x:bn) (v:V),X.N[i]?=some x->σ[i]?=some (some v)->oZ X.env.scope x->∃u,RelV v u/\Look X.env s.heap m x u
 cell:∀x c,X.env.cells.lookup x=some c->∃v,s.heap.IsCell c v
 free:H X.env.locals=none
 freeC:∀x c,X.env.cells.lookup x=some c->H c=none
 pin:∀p∈X.pn++pins,s.heap.get? p.1=some p.2/\H p.1=none/\p.1≠X.env.locals/\p.1 ∉ X.fs/\∀v,p.2.data≠.cell v
 hok:cH X.prog X.w H s.heap
 len:σ.length=X.N.length
section
variable {X:Cx} {pins:List (ac×i4)} {σ:List (Option V)} {H H':Hp} {s:ba} {h':ge}
theorem Cx.Ok.Q3 (ok:X.Ok) {b:ac} {o:i4} (e:X.base.get? b=some o):b ∉ X.fs:=fun hb=>by
 have:=(ok.funs.mem hb).1
 rw [e] at this;cases this
theorem Inv.bs (I:Inv X pins σ H s):∀b o,X.base.get? b=some o->s.heap.get? b=some o/\H b=none:=fun b o e=>
 ⟨I.base.keep b o (I.ok.bs b o e).1 (I.ok.bs b o e).2 (I.ok.Q3 e) (I.ok.noex b o e),I.base.free b o (I.ok.bs b o e).1 (I.ok.bs b o e).2 (I.ok.noex b o e)⟩
theorem Inv.bk (I:Inv X pins σ H s):∀b o,X.base.get? b=some o->s.heap.get? b=some o:=fun b o e=>(I.bs b o e).1
theorem Inv.mod (I:Inv X pins σ H s):Mod X.K X.mg X.base:=I.ok.mod
theorem Inv.ft (I:Inv X pins σ H s):X.K.In s.heap:=I.ok.mod.kin.keeps I.bk
theorem Inv.nolimit (I:Inv X pins σ H s):s.heap.NoLimit:=I.ok.mod.nolimit.keeps I.bk
theorem Inv.lt (I:Inv X pins σ H s):X.env.locals<s.heap.objs.size:=let ⟨_,hn,_⟩:=I.loc;hn.lt
theorem Inv.sz (I:Inv X pins σ H s):X.s₀.heap.objs.size<=s.heap.objs.size:=wv I.ok.above (Na I.lt)
theorem Inv.JB (I:Inv X pins σ H s) {a:ac} (h:s.heap.objs.size<=a):a ∉ X.fs:=fun hb=>by
 obtain ⟨_,o,ho,_⟩:=I.ok.funs.mem hb
 exact absurd (l8 (hX ho) (wv I.sz h)) (EO _)
theorem Inv.qm (I:Inv X pins σ H s):∀x c,X.env.cells.lookup x=some c->c≠X.env.locals:=fun x c e z=>by
 obtain ⟨v,o,ho,hd⟩:=I.cell x c e
 obtain ⟨m,⟨o',es,ep,ib,ky,_⟩,_⟩:=I.loc
 rw [z,ib] at ho;cases ho;rw [ky] at hd;cases hd
theorem Inv.funs (I:Inv X pins σ H s):s.heap.FunFrames X.base X.outer :=by
 have all:∀(l:List IR),(∀b∈dQ l,b∈X.fs)->X.s₀.heap.FunFrames X.base l->s.heap.FunFrames X.base l :=by
  intro l
  induction l with
  |nil=>intro _ _;trivial
  |cons env r ih=>
   intro hs hl
   obtain ⟨hk,⟨L,o,hf,hn,ho,hd⟩,hr⟩:=hl
   have hL:L∈X.fs:=hs L (by unfold dQ;rw [GT,hf];exact l9)
   obtain ⟨sl,e⟩:=I.base.slot L o ho (I.ok.frf L hL) hL fun z=>I.ok.exfs L z hL
   exact ⟨hk,⟨L,_,hf,hn,e,hd⟩,ih (fun b hb=>hs b (by unfold dQ;rw [GT,hf];exact im _ hb)) hr⟩
 exact all X.outer (fun _ hb=>hb) I.ok.funs
theorem Inv.stack (I:Inv X pins σ H s):s.heap.FunFrames X.base X.stack :=by
 rcases I.ok.stk with e|⟨e,hf⟩
 ·rw [e];exact I.funs
 ·rw [e]
  obtain ⟨m,hn,_⟩:=I.loc
  refine .cons (by rw [I.ok.kind];decide) hf hn ?_ I.funs
  exact ge.get?_none_of_le (wv I.ok.bsz I.ok.above)
theorem Inv.fZ (I:Inv X pins σ H s):∀b∈dQ X.stack,b∈X.env.locals::X.fs:=fun b hb=>by
 rcases I.ok.stk with e|⟨e,hf⟩
 ·rw [e] at hb;exact im _ hb
 ·rw [e] at hb
  unfold dQ at hb
  rw [GT,hf] at hb
  exact hb
theorem Inv.lj (I:Inv X pins σ H s):∀b∈dQ X.stack,H b=none:=fun b hb=>by
 rcases kw.mp (I.fZ b hb) with e|hb
 ·rw [e];exact I.free
 ·obtain ⟨_,o,ho,_⟩:=I.ok.funs.mem hb
  exact I.base.free b o ho (I.ok.frf b hb) fun z=>I.ok.exfs b z hb
theorem Inv.step {g':Array RS} {t':Nat} {d':Drawn} {ch:List ac} (I:Inv X pins σ H s)
  (o3:∀b∈ch,(b∈X.ex\/X.s₀.heap.objs.size<=b)/\b≠X.env.locals/\(∀x c,X.env.cells.lookup x=some c->c≠b)/\∀p∈X.pn++pins,p.1≠b)
  (keep:∀b o,b≠X.env.locals->b ∉ X.fs->b ∉ ch->s.heap.get? b=some o->H b=none->h'.get? b=some o)
  (slot:∀b o,b≠X.env.locals->b∈X.fs->b ∉ ch->s.heap.get? b=some o->H b=none->∃sl,h'.get? b=some {o with slots:=sl}) (free:∀b o,b ∉ ch->s.heap.get? b=some o->H b=none->H' b=none)
  (there:∀b o,b ∉ ch->s.heap.get? b=some o->∃o',h'.get? b=some o')
  (tups:∀b xs,H b=some (.tup xs)->H' b=some (.tup xs)) (frzs:∀b o u,H b=some (.bL o u)->H' b=some (.bL o u)) (tbls:∀b ps,H b=some (.cO ps)->∃more,H' b=some (.cO (ps++more)))
  (ns:∀m,s.heap.Ns X.env.locals m->h'.Ns X.env.locals m) (hok:cH X.prog X.w H' h') (hg:Gn s.gens.size g') :
  Inv X pins σ H' {s with heap:=h',gens:=g',drawn:=d',toks:=t'}:=by
 have PQ:∀b o,X.s₀.heap.get? b=some o->b≠X.env.locals:=fun b o e=>jp (l8 (hX e) I.ok.above)
 have F0:∀b o,X.s₀.heap.get? b=some o->b ∉ X.ex->b ∉ ch:=fun b o e hx hb=>by
  rcases (o3 b hb).1 with z|z
  ·exact hx z
  ·exact absurd (l8 (hX e) z) (EO _)
 have cellK:∀x c,X.env.cells.lookup x=some c->∀v,s.heap.IsCell c v->h'.IsCell c v:=fun x c e v ⟨o,ho,hd⟩=>by
  have A7:c ∉ ch:=fun z=>(o3 c z).2.2.1 x c e rfl
  by_cases hc:c∈X.fs
  ·obtain ⟨sl,q⟩:=slot c o (I.qm x c e) hc A7 ho (I.freeC x c e)
   exact ⟨_,q,hd⟩
  ·exact ⟨o,keep c o (I.qm x c e) hc A7 ho (I.freeC x c e),hd⟩
 refine ⟨I.ok,I.os,I.bare.trans hg,⟨fun b o e n hb hx=>?_,fun b o e n hb hx=>?_,fun b o e n hx=>?_,fun b o e hx=>?_,fun b xs e=>tups b xs (I.base.tups b xs e),fun b o xs e=>frzs b o xs (I.base.frzs b o xs e),fun b ps e=>?_⟩,?_,fun x c e=>?_,?_,fun x c e=>?_,fun p hp=>?_,hok,I.len⟩
 ·exact keep b o (PQ b o e) hb (F0 b o e hx) (I.base.keep b o e n hb hx) (I.base.free b o e n hx)
 ·obtain ⟨sl,e1⟩:=I.base.slot b o e n hb hx
  obtain ⟨PR,e2⟩:=slot b _ (PQ b o e) hb (F0 b o e hx) e1 (I.base.free b o e n hx)
  exact ⟨PR,e2⟩
 ·obtain ⟨o',e1⟩:=I.base.there b o e hx
  exact free b o' (F0 b o e hx) e1 (I.base.free b o e n hx)
 ·obtain ⟨o',e1⟩:=I.base.there b o e hx
  exact there b o' (F0 b o e hx) e1
 ·obtain ⟨m1,e1⟩:=I.base.tbls b ps e
  obtain ⟨m2,e2⟩:=tbls b _ e1
  exact ⟨m1++m2,by rw [e2,Array.append_assoc]⟩
 ·obtain ⟨m,hn,hl⟩:=I.loc
  refine ⟨m,ns m hn,fun i x v e1 e2 e3=>?_⟩
  obtain ⟨u,r,l⟩:=hl i x v e1 e2 e3
  refine ⟨u,r,?_⟩
  rcases l with l|⟨k,c,e,z⟩
  ·exact .inl l
  ·exact .inr ⟨k,c,e,cellK x c e _ z⟩
 ·obtain ⟨v,z⟩:=I.cell x c e
  exact ⟨v,cellK x c e v z⟩
 ·obtain ⟨m,⟨o,_,_,ho,_⟩,_⟩:=I.loc
  exact free _ o (fun z=>(o3 _ z).2.1 rfl) ho I.free
 ·obtain ⟨v,o,ho,hd⟩:=I.cell x c e
  exact free c o (fun z=>(o3 c z).2.2.1 x c e rfl) ho (I.freeC x c e)
 ·obtain ⟨e,n,ne,nf,d⟩:=I.pin p hp
  have A7:p.1 ∉ ch:=fun z=>(o3 p.1 z).2.2.2 p hp rfl
  exact ⟨keep p.1 p.2 ne nf A7 e n,free p.1 p.2 A7 e n,ne,nf,d⟩
theorem Inv.un {t':Nat} (I:Inv X pins σ H s) (u:Un X.fs [] H H' s.heap h') (hok:cH X.prog X.w H' h'):Inv X pins σ H' {s with heap:=h',toks:=t'}:=by
 obtain ⟨m,⟨o,es,ep,ho,r⟩,_⟩:=id I.loc
 obtain ⟨sl,hL⟩:=u.any ho I.free (by simp)
 exact I.step (g':=s.gens) (d':=s.drawn) (ch:=[]) (fun _ z=>nomatch z) (fun b o _ hb _ e n=>u.keep b o e n hb (by simp)) (fun b o _ hb _ e n=>u.slot b o e n hb (by simp)) (fun b o _ e n=>u.free b o e n (by simp)) (fun b o _ e=>u.there b o e (by simp)) u.tups u.frzs u.tbls (fun m' hm=>by
  obtain ⟨o',iK,JC,ib,r'⟩:=hm
  rw [ho] at ib;cases ib
  exact ⟨_,iK,JC,hL,r'⟩) hok I.bare.self
theorem Inv.call {g':Array RS} {t':Nat} {d':Drawn} {ch:List ac} (I:Inv X pins σ H s) (u:Un (dQ X.stack) ch H H' s.heap h') (hok:cH X.prog X.w H' h') (hg:Gn s.gens.size g')
  (o3:∀b∈ch,(b∈X.ex\/X.s₀.heap.objs.size<=b)/\b≠X.env.locals/\(∀x c,X.env.cells.lookup x=some c->c≠b)/\∀p∈X.pn++pins,p.1≠b) :
  Inv X pins σ H' {s with heap:=h',gens:=g',drawn:=d',toks:=t'}:=by
 obtain ⟨m,⟨o,es,ep,ho,r⟩,_⟩:=id I.loc
 obtain ⟨sl,hL⟩:=u.any ho I.free fun z=>(o3 _ z).2.1 rfl
 exact I.step (ch:=ch) o3 (fun b o hL hb hc e n=>u.keep b o e n (fun z=>(kw.mp (I.fZ b z)).elim hL hb) hc) (fun b o _ _ hc e n=>u.any e n hc) (fun b o hc e n=>u.free b o e n hc) (fun b o hc e=>u.there b o e hc) u.tups u.frzs u.tbls (fun m' hm=>by
  obtain ⟨o',iK,JC,ib,r'⟩:=hm
  rw [ho] at ib;cases ib
  exact ⟨_,iK,JC,hL,r'⟩) hok hg
theorem Inv.turned {t':Nat} {it:ac} (I:Inv X pins σ H s) (k:∀b o,b≠it->s.heap.get? b=some o->h'.get? b=some o) (hn:H it=none) (hL:it≠X.env.locals)
  (h1:it∈X.ex\/X.s₀.heap.objs.size<=it) (h2:∀x c,X.env.cells.lookup x=some c->c≠it) (h3:∀p∈X.pn++pins,p.1≠it):Inv X pins σ H {s with heap:=h',toks:=t'}:=by
 have A8:∀b u,H b=some u->b≠it:=fun b u e z=>by rw [z,hn] at e;cases e
 refine I.step (g':=s.gens) (d':=s.drawn) (ch:=[it]) (fun b hb=>?_) (fun b o _ _ hc e _=>k b o (fun z=>hc (by simp [z])) e) (fun b o _ _ hc e _=>⟨o.slots,k b o (fun z=>hc (by simp [z])) e⟩) (fun _ _ _ _ n=>n)
  (fun b o hc e=>⟨o,k b o (fun z=>hc (by simp [z])) e⟩) (fun _ _ e=>e) (fun _ _ _ e=>e) (fun b ps e=>⟨#[],by rw [e];simp⟩) (fun m hm=>?_) (fun b u e=>?_) I.bare.self
 ·have e:b=it :=by simpa using hb
  subst e
  exact ⟨h1,hL,h2,h3⟩
 ·obtain ⟨o,es,ep,ho,r⟩:=hm
  exact ⟨o,es,ep,k _ o (zd hL) ho,r⟩
 ·refine (I.hok b u e).bU (fun c v hc q=>k c v ?_ q) (fun _ q=>q) fun _ _ q=>q
  rcases hc with z|z
  ·rw [z];exact A8 b u e
  ·exact A8 c _ z
theorem Inv.tok (I:Inv X pins σ H s) (t:Nat):Inv X pins σ H {s with toks:=t}:=I.un (h':=s.heap) (t':=t) Un.refl I.hok
theorem Inv.kept {t':Nat} (I:Inv X pins σ H s) (k:∀b u,s.heap.get? b=some u->h'.get? b=some u):Inv X pins σ H {s with heap:=h',toks:=t'}:=I.un (Un.kept k) (I.hok.kept k)
theorem Inv.laid {a:ac} {o:HO} {t':Nat} (I:Inv X pins σ H s) (k:∀b u,s.heap.get? b=some u->h'.get? b=some u) (hp:s.heap.objs.size<=a) (new:ObjOk X.prog X.w (upd H a o) h' a o) :
  Inv X pins σ (upd H a o) {s with heap:=h',toks:=t'}:=I.un (Un.laid k hp (I.hok.fresh hp)) (I.hok.laid k hp new)
theorem Inv.write {x e:ac} {o:HO} {t':Nat} (I:Inv X pins σ H s) (mu:A1 (H x)) (he:e=x\/H e=some (.own x)) (k:∀b u,b≠e->s.heap.get? b=some u->h'.get? b=some u) (yw:∃u,h'.get? e=some u)
  (new:ObjOk X.prog X.w (upd H x o) h' x o):Inv X pins σ (upd H x o) {s with heap:=h',toks:=t'}:=I.un (Un.write mu he k yw) (I.hok.write mu he k yw new)
theorem Inv.se {pins':List (ac×i4)} (I:Inv X pins σ H s) (h:∀p∈pins',s.heap.get? p.1=some p.2/\H p.1=none/\p.1≠X.env.locals/\p.1 ∉ X.fs/\∀v,p.2.data≠.cell v):Inv X pins' σ H s:=
 ⟨I.ok,I.os,I.bare,I.base,I.loc,I.cell,I.free,I.freeC,fun p hp=>(AL.mp hp).elim (fun z=>I.pin p (BS _ z)) (h p),I.hok,I.len⟩
theorem vb {N:List bn} (hN:N.Nodup) {i j:Nat} {x:bn} (a:N[i]?=some x) (b:N[j]?=some x):i=j :=by
 obtain ⟨h1,e1⟩:=br.mp a
 obtain ⟨h2,e2⟩:=br.mp b
 exact (List.getElem_inj hN).mp (e1.trans e2.symm)
theorem store_ok2 {M:XV} {A:ma} {E:al->ba->Prop} {i:Nat} {x:bn} {v:V} {u:al} {Q:Unit->ba->Prop} (I:Inv X pins σ H s) (hN:X.N.Nodup) (hi:X.N[i]?=some x) (hx:Loc X.env.scope x) (r:RelV v u)
  (h:∀s',Inv X pins (σ.set i (some v)) H s'->(∃a,wS a s.heap s'.heap/\(a=X.env.locals\/X.env.cells.lookup x=some a))->Q () s') (hf:X.fn x=true\/X.env.scope.names.lookup x=some .local :=by first|exact .inl rfl|exact .inr rfl|assumption):wpAny M A (storeName X.env x u) Q E s :=by
 obtain ⟨m,hn,hl⟩:=id I.loc
 have Q4:(X.env.scope.kind==.class || (X.env.scope.kind==.module && X.env.locals != X.env.globals))=false :=by rw [I.ok.kind];rfl
 have JD:i<σ.length :=by rw [I.len];exact (br.mp hi).1
 have qm:=I.qm
 have tracked:∀{a:ac} {h':ge},(∃o,s.heap.get? a=some o/\H a=none)->wS a s.heap h'->cH X.prog X.w H h':=fun {a h'} ha hs b ob e=>by
  obtain ⟨_,_,oy⟩:=ha
  refine (I.hok b ob e).bU (fun c w' hc q=>(hs.2 c ?_).trans q) (fun _ q=>q) fun _ _ q=>q
  rintro rfl
  rcases hc with rfl|hc
  ·rw [oy] at e;cases e
  ·rw [oy] at hc;cases hc
 rcases hx with hk|hk
 ·refine wpAny_storeName_local hk hn (fun h' vc hs=>?_) Q4
  obtain ⟨oL,_,_,A9,_⟩:=id hn
  refine h _ ⟨I.ok,I.os,I.bare,⟨fun b o e n hb hx=>?_,fun b o e n hb hx=>?_,I.base.free,fun b o e hx=>?_,I.base.tups,I.base.frzs,I.base.tbls⟩,⟨_,vc,fun j y v' e1 e2 e3=>?_⟩,fun y c e=>?_,I.free,I.freeC,fun p hp=>?_,tracked ⟨oL,A9,I.free⟩ hs,by simpa using I.len⟩ ⟨_,hs,.inl rfl⟩
  ·exact (hs.2 b (jp (l8 (hX e) I.ok.above))).trans (I.base.keep b o e n hb hx)
  ·obtain ⟨sl,e1⟩:=I.base.slot b o e n hb hx
   exact ⟨sl,(hs.2 b (jp (l8 (hX e) I.ok.above))).trans e1⟩
  ·obtain ⟨o',e1⟩:=I.base.there b o e hx
   exact ⟨o',(hs.2 b (jp (l8 (hX e) I.ok.above))).trans e1⟩
  ·by_cases hj:j=i
   ·subst hj
    rw [hi] at e1;cases e1
    rw [Mc JD] at e2
    cases e2
    exact ⟨u,r,.inl ⟨hk,by simp⟩⟩
   ·rw [Ww (zd hj)] at e2
    obtain ⟨u',r',q⟩:=hl j y v' e1 e2 e3
    refine ⟨u',r',?_⟩
    rcases q with ⟨k,e⟩|⟨k,c,e,z⟩
    ·refine .inl ⟨k,?_⟩
     have:y≠x:=fun e=>hj (vb hN e1 (e▸hi))
     simp [this,e]
    ·exact .inr ⟨k,c,e,z.sameBut hs (qm y c e)⟩
  ·obtain ⟨w',z⟩:=I.cell y c e
   exact ⟨w',z.sameBut hs (qm y c e)⟩
  ·obtain ⟨e,n,ne,nf,d⟩:=I.pin p hp
   exact ⟨(hs.2 p.1 ne).trans e,n,ne,nf,d⟩
 ·have qo:X.fn x=true :=by
   rcases hf with z|z
   ·exact z
   ·rw [z] at hk;cases hk
  obtain ⟨c,hc⟩:=I.ok.has x (.inl hk)
  obtain ⟨w',z⟩:=I.cell x c hc
  refine wpAny_storeName_cell I.ok.kind hk hc z (fun h' F1 hs=>?_)
  obtain ⟨oc,tu,Q5⟩:=id z
  refine h {s with heap:=h'} ⟨I.ok,I.os,I.bare,⟨fun b o e n hb hx=>?_,fun b o e n hb hx=>?_,I.base.free,fun b o e hx=>?_,I.base.tups,I.base.frzs,I.base.tbls⟩,⟨m,hn.sameBut hs (zd (qm x c hc)),fun j y v' e1 e2 e3=>?_⟩,fun y c' e=>?_,I.free,I.freeC,fun p hp=>?_,tracked ⟨oc,tu,I.freeC x c hc⟩ hs,by simpa using I.len⟩ ⟨c,hs,.inr hc⟩
  ·exact (hs.2 b (jp (l8 (hX e) (I.ok.cab x c qo hc)))).trans (I.base.keep b o e n hb hx)
  ·obtain ⟨sl,e1⟩:=I.base.slot b o e n hb hx
   exact ⟨sl,(hs.2 b (jp (l8 (hX e) (I.ok.cab x c qo hc)))).trans e1⟩
  ·obtain ⟨o',e1⟩:=I.base.there b o e hx
   exact ⟨o',(hs.2 b (jp (l8 (hX e) (I.ok.cab x c qo hc)))).trans e1⟩
  ·by_cases hj:j=i
   ·subst hj
    rw [hi] at e1;cases e1
    rw [Mc JD] at e2
    cases e2
    exact ⟨u,r,.inr ⟨.inl hk,c,hc,F1⟩⟩
   ·rw [Ww (zd hj)] at e2
    obtain ⟨u',r',q⟩:=hl j y v' e1 e2 e3
    refine ⟨u',r',?_⟩
    rcases q with q|⟨k,c',e,z'⟩
    ·exact .inl q
    ·refine .inr ⟨k,c',e,z'.sameBut hs ?_⟩
     rintro rfl
     exact hj (vb hN e1 (I.ok.inj _ _ _ e hc▸hi))
  ·by_cases PU:c'=c
   ·subst PU;exact ⟨_,F1⟩
   ·obtain ⟨w2,z2⟩:=I.cell y c' e
    exact ⟨w2,z2.sameBut hs PU⟩
  ·obtain ⟨e,n,ne,nf,d⟩:=I.pin p hp
   refine ⟨(hs.2 p.1 ?_).trans e,n,ne,nf,d⟩
   intro q
   rw [q,tu] at e
   have q':oc=p.2:=ij e
   exact d w' (by rw [<- q'];exact Q5)
theorem lW {M:XV} {A:ma} {E:al->ba->Prop} {i:Nat} {x:bn} {v:V} {u:al} {Q:Unit->ba->Prop} (I:Inv X pins σ H s) (hN:X.N.Nodup) (hi:X.N[i]?=some x) (hx:Loc X.env.scope x) (r:RelV v u)
  (h:∀s',Inv X pins (σ.set i (some v)) H s'->Q () s') (hf:X.fn x=true\/X.env.scope.names.lookup x=some .local :=by first|exact .inl rfl|exact .inr rfl|assumption):wpAny M A (storeName X.env x u) Q E s:=
 store_ok2 I hN hi hx r (fun s' I' _=>h s' I') hf
theorem Inv.qp {s':ba} {ch:List ac} (I:Inv X pins σ H s) (ho:s'.os=s.os) (u:Un (dQ X.stack) ch H H' s.heap s'.heap) (hok:cH X.prog X.w H' s'.heap) (hg:Gn s.gens.size s'.gens)
  (o3:∀b∈ch,(b∈X.ex\/X.s₀.heap.objs.size<=b)/\b≠X.env.locals/\(∀x c,X.env.cells.lookup x=some c->c≠b)/\∀p∈X.pn++pins,p.1≠b):Inv X pins σ H' s':=by
 obtain ⟨h',g',d',t',o'⟩:=s'
 have e:o'=s.os:=ho
 subst e
 exact I.call (g':=g') (t':=t') (d':=d') u hok hg o3
end
abbrev XK:=al->Option ac->Hp->Prop
abbrev St:=List (Option V)
abbrev VK:=V->Hp->Prop
abbrev TE:=St->Hp->VK->Prop
abbrev TT:=St->Hp->(Bool->Hp->Prop)->Prop
abbrev TA:=St->Hp->(List V->Hp->Prop)->Prop
structure Ends where
 nx:St->Hp->Prop
 rt:VK
 bk:St->Hp->Prop:=fun _ _=>False
 ct:St->Hp->Prop:=fun _ _=>False
abbrev TS:=Ends->St->Hp->Prop
def EP (X:Cx) (pins:List (ac×i4)) (σ:St) (Q:VK) (u:al) (s':ba):Prop:=∃v H',Inv X pins σ H' s'/\RelV v u/\Q v H'
def TP (X:Cx) (pins:List (ac×i4)) (σ:St) (Q:Bool->Hp->Prop) (b:Bool) (s':ba):Prop:=∃H',Inv X pins σ H' s'/\Q b H'
def AP (X:Cx) (pins:List (ac×i4)) (σ:St) (Q:List V->Hp->Prop) (us:List al) (s':ba):Prop:=∃vs H',Inv X pins σ H' s'/\Vals vs us/\Q vs H'
def SP (X:Cx) (pins:List (ac×i4)) (D:Ends) (f:Flow) (s':ba):Prop:=
 match f with
 | .next=>∃aF H',Inv X pins aF H' s'/\D.nx aF H'
 | .brk=>∃aF H',Inv X pins aF H' s'/\D.bk aF H'
 | .cont=>∃aF H',Inv X pins aF H' s'/\D.ct aF H'
 | .ret u=>∃v aF H',Inv X pins aF H' s'/\RelV v u/\D.rt v H'
structure PE (X:Cx) (e:dL) (t:TE):Prop where
 run:∀(pins:List (ac×i4)) (s:ba) (σ:St) (H:Hp) (Q:VK),Inv X pins σ H s->t σ H Q->wpAny (model X.prog X.w) X.A (eval e X.env) (EP X pins σ Q) X.xe s
instance {X:Cx} {e:dL} {t:TE}:CoeFun (PE X e t) (fun _=>∀(pins:List (ac×i4)) (s:ba) (σ:St) (H:Hp) (Q:VK),Inv X pins σ H s->t σ H Q->wpAny (model X.prog X.w) X.A (eval e X.env) (EP X pins σ Q) X.xe s):=⟨PE.run⟩
structure PT (X:Cx) (e:dL) (t:TT):Prop where
 run:∀(pins:List (ac×i4)) (s:ba) (σ:St) (H:Hp) (Q:Bool->Hp->Prop),Inv X pins σ H s->t σ H Q->wpAny (model X.prog X.w) X.A (isTrue e X.env (eval e X.env)) (TP X pins σ Q) X.xe s
instance {X:Cx} {e:dL} {t:TT}:CoeFun (PT X e t) (fun _=>∀(pins:List (ac×i4)) (s:ba) (σ:St) (H:Hp) (Q:Bool->Hp->Prop),Inv X pins σ H s->t σ H Q->wpAny (model X.prog X.w) X.A (isTrue e X.env (eval e X.env)) (TP X pins σ Q) X.xe s):=⟨PT.run⟩
def PW (X:Cx) (e:dL) (t:TT):Prop:=
 ∀(whole:Wx al) (pins:List (ac×i4)) (s:ba) (σ:St) (H:Hp) (Q:Bool->Hp->Prop),Inv X pins σ H s->t σ H Q->wpAny (model X.prog X.w) X.A (isTrue e X.env whole) (TP X pins σ Q) X.xe s
theorem PW.pt {X:Cx} {e:dL} {t:TT} (h:PW X e t):PT X e t:=⟨h _⟩
structure PA (X:Cx) (es:List dL) (t:TA):Prop where
 run:∀(pos:wn) (pins:List (ac×i4)) (s:ba) (σ:St) (H:Hp) (Q:List V->Hp->Prop),Inv X pins σ H s->t σ H Q->wpAny (model X.prog X.w) X.A (spliced (backTo pos (starEach es X.env))) (AP X pins σ Q) X.xe s
instance {X:Cx} {es:List dL} {t:TA}:CoeFun (PA X es t) (fun _=>∀(pos:wn) (pins:List (ac×i4)) (s:ba) (σ:St) (H:Hp) (Q:List V->Hp->Prop),Inv X pins σ H s->t σ H Q->wpAny (model X.prog X.w) X.A (spliced (backTo pos (starEach es X.env))) (AP X pins σ Q) X.xe s):=⟨PA.run⟩
structure PS (X:Cx) (st:r6) (t:TS):Prop where
 run:∀(pins:List (ac×i4)) (s:ba) (σ:St) (H:Hp) (D:Ends),Inv X pins σ H s->t D σ H->wpAny (model X.prog X.w) X.A (exec st X.env) (SP X pins D) X.xe s
instance {X:Cx} {st:r6} {t:TS}:CoeFun (PS X st t) (fun _=>∀(pins:List (ac×i4)) (s:ba) (σ:St) (H:Hp) (D:Ends),Inv X pins σ H s->t D σ H->wpAny (model X.prog X.w) X.A (exec st X.env) (SP X pins D) X.xe s):=⟨PS.run⟩
structure fT (X:Cx) (st:List r6) (t:TS):Prop where
 run:∀(pins:List (ac×i4)) (s:ba) (σ:St) (H:Hp) (D:Ends),Inv X pins σ H s->t D σ H->wpAny (model X.prog X.w) X.A (execs st X.env) (SP X pins D) X.xe s
instance {X:Cx} {st:List r6} {t:TS}:CoeFun (fT X st t) (fun _=>∀(pins:List (ac×i4)) (s:ba) (σ:St) (H:Hp) (D:Ends),Inv X pins σ H s->t D σ H->wpAny (model X.prog X.w) X.A (execs st X.env) (SP X pins D) X.xe s):=⟨fT.run⟩
theorem thn {α:Type} {t:Wx α} {Q Q':α->ba->Prop} {M:XV} {A:ma} {E:al->ba->Prop} {s:ba} (h:wpAny M A t Q E s) (hQ:∀a s,Q a s->Q' a s):wpAny M A t Q' E s:=l7 h hQ fun _ _ x=>x
section
variable {X:Cx}
theorem bin {a b:dL} {ta tb:TE} (ha:PE X a ta) (hb:PE X b tb) {pins:List (ac×i4)} {s:ba} {σ:St} {H:Hp} {R:V->V->Hp->Prop} (I:Inv X pins σ H s) (h:ta σ H fun x H1=>tb σ H1 fun y H2=>R x y H2)
  {α:Type} {Q:α->ba->Prop} {f:al->al->Wx α}
  (hf:∀v u s2 x y H2,Inv X pins σ H2 s2->RelV x v->RelV y u->R x y H2->wpAny (model X.prog X.w) X.A (f v u) Q X.xe s2) :
  wpAny (model X.prog X.w) X.A (eval a X.env) (fun v aw=>wpAny (model X.prog X.w) X.A (eval b X.env) (fun u gz=>wpAny (model X.prog X.w) X.A (f v u) Q X.xe gz) X.xe aw) X.xe s :=by
 refine thn (ha pins s σ H _ I h) fun v s1 ⟨x,H1,I1,r1,q1⟩=>?_
 refine thn (hb pins s1 σ H1 _ I1 q1) fun u s2 ⟨y,H2,I2,r2,q2⟩=>?_
 exact hf v u s2 x y H2 I2 r1 r2 q2
def JE (i:Nat):TE:=fun σ H Q=>∃v,σ[i]?=some (some v)/\Q v H
def tC (v:V):TE:=fun _ H Q=>Q v H
theorem vd {i:Nat} {x:bn} {pos:wn} (hN:X.N[i]?=some x) (hv:oZ X.env.scope x) (hd:(x==("__debug__" : bn))=false :=by decide) (dR:(x==("__classdict__" : bn))=false :=by decide):PE X (.Name x pos) (JE i) :=by
 refine ⟨?_⟩
 intro pins s σ H Q I h
 obtain ⟨v,e,h⟩:=h
 obtain ⟨m,hn,hl⟩:=I.loc
 obtain ⟨u,r,l⟩:=hl i x v hN e hv
 have fin:EP X pins σ Q u s:=⟨v,H,I,r,h⟩
 rcases l with ⟨hk,hm⟩|⟨hk,c,hc,uS⟩
 ·exact wpAny_Name (wpAny_loadName_local I.ok.kind hk hn hm fin) hd
 ·rcases hk with hk|hk
  ·exact wpAny_Name (wpAny_loadName_cell I.ok.kind hk hc uS fin) hd
  ·exact wpAny_Name (wpAny_loadName_free I.ok.kind hk hc uS fin dR) hd
theorem JF {i j pos}:PE X (.Constant (.int i) j pos) (tC (.int i)):=⟨fun _ _ _ H _ I h=>wpAny_Constant_int ⟨.int i,H,I.tok _,⟨_,rfl⟩,h⟩⟩
theorem N8 {b j pos}:PE X (.Constant (.bool b) j pos) (tC (.bl b)):=⟨fun _ _ _ H _ I h=>Constant_bool ⟨.bl b,H,I,rfl,h⟩⟩
theorem JG {x j pos}:PE X (.Constant (.str x) j pos) (tC (.str x)):=⟨fun _ _ _ H _ I h=>Calls.Constant_str ⟨.str x,H,I.tok _,⟨_,rfl⟩,h⟩⟩
def Gl (X:Cx) (x:bn):Prop:=X.env.kindOf x=some .globalImplicit
theorem ll {E:al->ba->Prop} {pins:List (ac×i4)} {s:ba} {σ:St} {H:Hp} {x:bn} {u:al} {pos:wn} {Q:al->ba->Prop} (I:Inv X pins σ H s) (hg:Gl X x) (hm:X.mg x=some u) (h:Q u s)
  (hd:(x==("__debug__" : bn))=false :=by decide):wpAny (model X.prog X.w) X.A (eval (.Name x pos) X.env) Q E s:=
 Calls.Name_function_global I.ok.kind hg (Calls.loadGlobal_global (by rw [I.ok.glob];exact I.mod.glob.keeps I.bk) hm h) hd
theorem f6 {E:al->ba->Prop} {pins:List (ac×i4)} {s:ba} {σ:St} {H:Hp} {x:bn} {u:al} {pos:wn} {Q:al->ba->Prop} (I:Inv X pins σ H s) (hg:Gl X x) (hm:X.mg x=none) (hv:bootBuiltins x=some u) (h:Q u s)
  (hn:x ≠ "__name__" := by decide) (hd:(x==("__debug__" : bn))=false :=by decide):wpAny (model X.prog X.w) X.A (eval (.Name x pos) X.env) Q E s :=by
 obtain ⟨mb,h1,h2⟩:=I.mod.blt
 exact Calls.Name_function_global I.ok.kind hg (Calls.loadGlobal_builtin (by rw [I.ok.glob];exact I.mod.glob.keeps I.bk) hm (by rw [I.ok.blt];exact h1.keeps I.bk) ((h2 x hn).trans hv) h) hd
theorem sf {x:bn} {v:V} {u:al} {pos:wn} (hg:Gl X x) (hm:X.mg x=some u) (r:RelV v u) (hd:(x==("__debug__" : bn))=false :=by decide):PE X (.Name x pos) (tC v):=⟨fun _ _ _ H _ I h=>ll I hg hm ⟨v,H,I,r,h⟩ hd⟩
theorem Ho {x:bn} {v:V} {u:al} {pos:wn} (hg:Gl X x) (hm:X.mg x=none) (hv:bootBuiltins x=some u) (r:RelV v u) (hn:x ≠ "__name__" := by decide) (hd:(x==("__debug__" : bn))=false :=by decide):PE X (.Name x pos) (tC v):=⟨fun _ _ _ H _ I h=>f6 I hg hm hv ⟨v,H,I,r,h⟩ hn hd⟩
variable {a b:dL} {ta tb:TE} {pos:wn}
def PC (X:Cx) (op:TW) (a b:dL) (t:TE):Prop:=
 ∀(pins:List (ac×i4)) (s:ba) (σ:St) (H:Hp) (Q:VK),Inv X pins σ H s->t σ H Q->
  wpAny (model X.prog X.w) X.A (eval a X.env) (fun v aw=>wpAny (model X.prog X.w) X.A (eval b X.env) (fun u gz=>wpAny (model X.prog X.w) X.A (compareOp op v u) (EP X pins σ Q) X.xe gz) X.xe aw) X.xe s
theorem DX (b:dL) {op:TW} (h:op≠.In) (h2:op≠.NotIn):behindInMarks op b=false :=by
 have e1:(op==TW.In)=false :=by cases op <;> first|rfl|exact absurd rfl h
 have e2:(op==TW.NotIn)=false :=by cases op <;> first|rfl|exact absurd rfl h2
 cases b <;> simp [behindInMarks,e1,e2]
def tB (t:TE):TT:=fun σ H Q=>t σ H fun x H1=>∃c,x=.bl c/\Q c H1
theorem SE {op:TW} {t:TE} (h:PC X op a b t) (h1:behindInMarks op b=false :=by first|exact DX _ (by decide) (by decide)|rfl):PT X (.Compare a [op] [b] pos) (tB t) :=by
 refine ⟨?_⟩
 intro pins s σ H Q I hw
 refine wpAny_isTrue_Compare1 (thn (h pins s σ H _ I hw) fun v s1 h1=>thn h1 fun u s2 h2=>thn h2 fun c s3 ⟨x,H1,I1,r1,q1⟩=>?_) h1
 obtain ⟨d,rfl,q⟩:=q1
 cases r1
 exact zw ⟨H1,I1,q⟩
theorem JH {e:dL} {t:TE} (h:PE X e t) (he:∀whole,isTrue e X.env whole=(do let v <- whole;standAt e.pos;holding [v] (truthy v)) :=by intro _;rfl):PT X e (tB t) :=by
 refine ⟨?_⟩
 intro pins s σ H Q I hw
 refine isTrue_plain (thn (h pins s σ H _ I hw) fun v s1 ⟨x,H1,I1,r1,q1⟩=>?_) (he _)
 obtain ⟨d,rfl,q⟩:=q1
 cases r1
 exact zw ⟨H1,I1,q⟩
variable {tA qt:TT} {rest:List dL}
def Q6 (t u:TT):TT:=fun σ H Q=>t σ H fun c H1=>if c=true then u σ H1 Q else Q false H1
def SF (t u:TT):TT:=fun σ H Q=>t σ H fun c H1=>if c=true then Q true H1 else u σ H1 Q
def Q7 (t:TT):TT:=fun σ H Q=>t σ H fun c H1=>Q (!c) H1
theorem Hq (ha:PT X a tA):PW X (.BoolOp .And [a] pos) tA :=by
 intro wh pins s σ H Q I h
 refine isTrue_and (thn (ha pins s σ H Q I h) fun c s1 e=>?_)
 cases c with
 |true=>exact isTrue_and_nil e
 |false=>exact e
theorem JI (ha:PT X a tA):PW X (.BoolOp .Or [a] pos) tA :=by
 intro wh pins s σ H Q I h
 refine isTrue_or (thn (ha pins s σ H Q I h) fun c s1 e=>?_)
 cases c with
 |false=>exact isTrue_or_nil e
 |true=>exact e
theorem JK (ha:PT X a tA) (hb:PW X (.BoolOp .And (b::rest) pos) qt):PW X (.BoolOp .And (a::b::rest) pos) (Q6 tA qt) :=by
 intro wh pins s σ H Q I h
 refine isTrue_and (thn (ha pins s σ H _ I h) fun c s1 ⟨H1,I1,q1⟩=>?_)
 cases c with
 |true=>exact hb wh pins s1 σ H1 Q I1 q1
 |false=>exact ⟨H1,I1,q1⟩
theorem N9 (ha:PT X a tA) (hb:PW X (.BoolOp .Or (b::rest) pos) qt):PW X (.BoolOp .Or (a::b::rest) pos) (SF tA qt) :=by
 intro wh pins s σ H Q I h
 refine isTrue_or (thn (ha pins s σ H _ I h) fun c s1 ⟨H1,I1,q1⟩=>?_)
 cases c with
 |true=>exact ⟨H1,I1,q1⟩
 |false=>exact hb wh pins s1 σ H1 Q I1 q1
theorem JL (ha:PT X a tA):PT X (.UnaryOp .Not a pos) (Q7 tA) :=by
 refine ⟨?_⟩
 intro pins s σ H Q I h
 exact isTrue_not (ha pins s σ H (fun c H1=>Q (!c) H1) I h)
def Oa (ta tb:TE):TE:=fun σ H Q=>ta σ H fun x H1=>∃c,x=.bl c/\if c=true then tb σ H1 Q else Q (.bl false) H1
def Q8 (ta tb:TE):TE:=fun σ H Q=>ta σ H fun x H1=>∃c,x=.bl c/\if c=true then Q (.bl true) H1 else tb σ H1 Q
def Ob (ta:TE):TE:=fun σ H Q=>ta σ H fun x H1=>∃c,x=.bl c/\Q (.bl (!c)) H1
theorem JM {op} {t:TE} (h:PE X a t):PE X (.BoolOp op [a] pos) t:=⟨fun pins s σ H Q I hw=>BoolOp_one (h pins s σ H Q I hw)⟩
theorem JN (ha:PE X a ta) (hb:PE X (.BoolOp .And (b::rest) pos) tb):PE X (.BoolOp .And (a::b::rest) pos) (Oa ta tb) :=by
 refine ⟨?_⟩
 intro pins s σ H Q I h
 refine BoolOp_and (thn (ha pins s σ H _ I h) fun v s1 ⟨x,H1,I1,r1,q1⟩=>?_)
 obtain ⟨c,rfl,q1⟩:=q1
 cases r1
 refine zw ?_
 cases c with
 |true=>exact hb pins s1 σ H1 Q I1 q1
 |false=>exact ⟨.bl false,H1,I1,rfl,q1⟩
theorem Oc (ha:PE X a ta) (hb:PE X (.BoolOp .Or (b::rest) pos) tb):PE X (.BoolOp .Or (a::b::rest) pos) (Q8 ta tb) :=by
 refine ⟨?_⟩
 intro pins s σ H Q I h
 refine BoolOp_or (thn (ha pins s σ H _ I h) fun v s1 ⟨x,H1,I1,r1,q1⟩=>?_)
 obtain ⟨c,rfl,q1⟩:=q1
 cases r1
 refine zw ?_
 cases c with
 |false=>exact hb pins s1 σ H1 Q I1 q1
 |true=>exact ⟨.bl true,H1,I1,rfl,q1⟩
theorem JO (ha:PE X a ta):PE X (.UnaryOp .Not a pos) (Ob ta) :=by
 refine ⟨?_⟩
 intro pins s σ H Q I h
 refine UnaryOp_ (thn (ha pins s σ H _ I h) fun v s1 ⟨x,H1,I1,r1,q1⟩=>?_)
 obtain ⟨c,rfl,q1⟩:=q1
 cases r1
 exact not_of (zw ⟨.bl (!c),H1,I1,rfl,q1⟩)
end
def bF (K:bi) (H:Hp) (a:ac) (xs:List V):Prop:=
 Rd H a (.lst xs) \/
  ∃(o:i4) (its:Array al) (n:Nat),K.lookup a=some o/\o.cls=.type "list" /\ o.dict=none/\o.data=.seq its n/\its.size<=sizeLine/\Vals xs its.toList
def cI (K:bi) (H:Hp) (a:ac) (xs:List V):Prop:=
 Rd H a (.tup xs) \/
  ∃(o:i4) (its:Array al) (n:Nat),K.lookup a=some o/\o.cls=.type "tuple" /\ o.data=.seq its n/\its.size<=sizeLine/\Vals xs its.toList
def Q9:al->Option V
 | .none=>some .au
 | .bool b=>some (.bl b)
 | .int i _=>some (.int i)
 | .str x _=>some (.str x)
 | .bytes b _=>some (.jE b)
 | .float b _=>some (.yt b)
 | .ref a=>some (.ref a)
 | .type n=>some (.ty n)
 |_=>none
theorem RelV.abs {x:V} {u:al} (r:RelV x u):Q9 u=some x :=by
 cases x with
 |au=>cases r;rfl
 |bl _=>cases r;rfl
 |int _=>obtain ⟨t,rfl⟩:=r;rfl
 |str _=>obtain ⟨t,rfl⟩:=r;rfl
 |jE _=>obtain ⟨t,rfl⟩:=r;rfl
 |yt _=>obtain ⟨t,rfl⟩:=r;rfl
 |ref _=>cases r;rfl
 |ty _=>cases r;rfl
theorem RelV.inj {x y:V} {u:al} (r:RelV x u) (q:RelV y u):x=y:=ij (r.abs.symm.trans q.abs)
theorem Vals.inj:∀{xs ys:List V} {us:List al},Vals xs us->Vals ys us->xs=ys
 |_,_,_,.nil,.nil=>rfl
 |_,_,_,.cons r t,.cons r' t'=>by rw [r.inj r',Vals.inj t t']
section
variable {X:Cx} {pins:List (ac×i4)} {σ:St} {H:Hp} {s:ba} {a:ac} {xs ys:List V}
theorem bF.of {K:bi} (h:H a=some (.lst xs)):bF K H a xs:=.inl (.inl h)
theorem cI.of {K:bi} (h:H a=some (.tup xs)):cI K H a xs:=.inl (.inl h)
theorem Inv.list (I:Inv X pins σ H s) (h:bF X.K H a xs):∃its:List al,Vals xs its/\PlainL s.heap a its.toArray/\xs.length<=sizeLine :=by
 rcases h with h|⟨o,its,n,hk,hc,hd,hs,hz,r⟩
 ·obtain ⟨z,its,n,r,e⟩:=h.ok I.hok
  exact ⟨its,r,⟨_,n,e,rfl,rfl,rfl⟩,z⟩
 ·refine ⟨its.toList,r,⟨o,n,I.ft a o hk,hc,hd,by simpa using hs⟩,?_⟩
  have e:=r.length
  simp only [uu] at e
  omega
theorem Inv.tuple (I:Inv X pins σ H s) (h:cI X.K H a xs):∃its:List al,Vals xs its/\IsTup s.heap a its.toArray/\xs.length<=sizeLine :=by
 rcases h with h|⟨o,its,n,hk,hc,hs,hz,r⟩
 ·obtain ⟨z,its,r,p⟩:=h.ok I.hok
  exact ⟨its,r,jG.tup p,z⟩
 ·refine ⟨its.toList,r,⟨o,I.ft a o hk,hc,n,by simpa using hs⟩,?_⟩
  have e:=r.length
  simp only [uu] at e
  omega
theorem Inv.ve (I:Inv X pins σ H s) (h:bF X.K H a xs) (h':bF X.K H a ys):xs=ys :=by
 obtain ⟨its,r,⟨o,n,e,_,_,d⟩,_⟩:=I.list h
 obtain ⟨its',r',⟨o',n',e',_,_,d'⟩,_⟩:=I.list h'
 rw [e] at e';cases e'
 rw [d] at d'
 injection d' with d1 _
 have:its=its':=by simpa using congrArg Array.toList d1
 subst this
 exact r.inj r'
theorem Inv.tD (I:Inv X pins σ H s) (h:cI X.K H a xs) (h':cI X.K H a ys):xs=ys :=by
 obtain ⟨its,r,⟨o,e,_,n,d⟩,_⟩:=I.tuple h
 obtain ⟨its',r',⟨o',e',_,n',d'⟩,_⟩:=I.tuple h'
 rw [e] at e';cases e'
 rw [d] at d'
 injection d' with d1 _
 have:its=its':=by simpa using congrArg Array.toList d1
 subst this
 exact r.inj r'
end
abbrev Cx.iY (X:Cx) (E:al->ba->Prop):Cx:={X with xe:=E}
abbrev Cx.jd (X:Cx):Cx:=X.iY fun _ _=>False
theorem Cx.Ok.iY {X:Cx} (ok:X.Ok) (E:al->ba->Prop):(X.iY E).Ok:=
 ⟨ok.mod,ok.kind,ok.glob,ok.blt,ok.above,ok.inj,ok.has,ok.cab,ok.hd,ok.frames,ok.stk,ok.exf,ok.bs,ok.bsz,ok.noex,ok.exfs,ok.funs,ok.frf⟩
theorem Cx.Ok.f7 {X:Cx} {E:al->ba->Prop} (ok:(X.iY E).Ok):X.Ok:=
 ⟨ok.mod,ok.kind,ok.glob,ok.blt,ok.above,ok.inj,ok.has,ok.cab,ok.hd,ok.frames,ok.stk,ok.exf,ok.bs,ok.bsz,ok.noex,ok.exfs,ok.funs,ok.frf⟩
section
variable {X:Cx} {pins:List (ac×i4)} {σ:St} {H:Hp} {s:ba} {E:al->ba->Prop}
theorem Inv.iY (I:Inv X pins σ H s) (E:al->ba->Prop):Inv (X.iY E) pins σ H s:=⟨I.ok.iY E,I.os,I.bare,I.base,I.loc,I.cell,I.free,I.freeC,I.pin,I.hok,I.len⟩
theorem Inv.f7 (I:Inv (X.iY E) pins σ H s):Inv X pins σ H s:=⟨I.ok.f7,I.os,I.bare,I.base,I.loc,I.cell,I.free,I.freeC,I.pin,I.hok,I.len⟩
theorem SP.f7 {D:Ends} {f:Flow} {s':ba} (h:SP (X.iY E) pins D f s'):SP X pins D f s':=by
 cases f with
 |next=>obtain ⟨aF,H',I,q⟩:=h;exact ⟨aF,H',I.f7,q⟩
 |brk=>obtain ⟨aF,H',I,q⟩:=h;exact ⟨aF,H',I.f7,q⟩
 |cont=>obtain ⟨aF,H',I,q⟩:=h;exact ⟨aF,H',I.f7,q⟩
 |ret u=>obtain ⟨v,aF,H',I,r,q⟩:=h;exact ⟨v,aF,H',I.f7,r,q⟩
theorem PE.jd {e:dL} {t:TE} (h:PE X.jd e t):PE X e t:=⟨fun pins s σ H Q I hw=>
 l7 (h pins s σ H Q (I.iY _) hw) (fun _ _ ⟨v,H',I',r,q⟩=>⟨v,H',I'.f7,r,q⟩) fun _ _ z=>EU z⟩
theorem fT.jd {st:List r6} {t:TS} (h:fT X.jd st t):fT X st t:=⟨fun pins s σ H D I hw=>
 l7 (h pins s σ H D (I.iY _) hw) (fun _ _ q=>q.f7) fun _ _ z=>EU z⟩
end
section
variable {X:Cx} {st:r6} {rest:List r6} {t u:TS} {e:dL} {te:TE} {pos:wn}
def Od:TS:=fun D σ H=>D.nx σ H
def Ra (t u:TS):TS:=fun D σ H=>t {D with nx:=u D} σ H
theorem Hr:fT X [] Od:=⟨fun _ _ σ H _ I h=>Wy ⟨σ,H,I,h⟩⟩
theorem DY (h1:PS X st t) (h2:fT X rest u):fT X (st::rest) (Ra t u) :=by
 refine ⟨?_⟩
 intro pins s σ H D I h
 refine wpAny_execs_cons (thn (h1 pins s σ H {D with nx:=u D} I h) fun f s1 q=>?_)
 cases f with
 |next=>
  obtain ⟨aF,H',I',q⟩:=q
  exact h2 pins s1 aF H' D I' q
 |ret v=>exact q
 |brk=>exact q
 |cont=>exact q
theorem Hs (h1:PS X st t):fT X [st] t :=by
 refine ⟨?_⟩
 intro pins s σ H D I h
 refine wpAny_execs_cons (thn (h1 pins s σ H D I h) fun f s1 q=>?_)
 cases f with
 |next=>exact Wy q
 |ret v=>exact q
 |brk=>exact q
 |cont=>exact q
theorem Inv.quiet {pins:List (ac×i4)} {σ:St} {H:Hp} {s:ba} (I:Inv X pins σ H s):interactive X.env=false :=by simp [interactive,I.ok.kind]
def Oe (te:TE):TS:=fun D σ H=>te σ H fun _ H1=>D.nx σ H1
theorem Ht (he:PE X e te) (hs:swapsWith e none pos.line X.env=pure false :=by rfl):PS X (.Expr e pos) (Oe te) :=by
 refine ⟨?_⟩
 intro pins s σ H D I h
 exact wpAny_Expr_any (thn (he pins s σ H _ I h) fun v s1 ⟨x,H1,I1,r1,q1⟩=>⟨σ,H1,I1,q1⟩) I.quiet hs
def Rb (te:TE):TS:=fun D σ H=>te σ H D.rt
theorem JP (he:PE X e te):PS X (.Return (some e) pos) (Rb te) :=by
 refine ⟨?_⟩
 intro pins s σ H D I h
 exact wpAny_Return_some (thn (he pins s σ H _ I h) fun v s1 ⟨x,H1,I1,r1,q1⟩=>⟨x,σ,H1,I1,r1,q1⟩)
def Rc (c:TT) (t u:TS):TS:=fun D σ H=>c σ H fun b H1=>if b=true then t D σ H1 else u D σ H1
theorem Of {c:dL} {a b:List r6} {tc:TT} (hc:PT X c tc) (ha:fT X a t) (hb:fT X b u):PS X (.If c a b pos) (Rc tc t u) :=by
 refine ⟨?_⟩
 intro pins s σ H D I h
 refine wpAny_If (thn (hc pins s σ H _ I h) fun d s1 ⟨H1,I1,q1⟩=>?_)
 cases d with
 |true=>exact ha pins s1 σ H1 D I1 q1
 |false=>exact hb pins s1 σ H1 D I1 q1
end
abbrev TG:=V->St->Hp->(St->Hp->Prop)->Prop
abbrev qu:=List V->St->Hp->(St->Hp->Prop)->Prop
def PG (X:Cx) (target:dL) (t:TG):Prop:=
 ∀(pins:List (ac×i4)) (s:ba) (σ:St) (H:Hp) (v:V) (u:al) (Q:St->Hp->Prop),Inv X pins σ H s->RelV v u->t v σ H Q->
  wpAny (model X.prog X.w) X.A (assign target X.env u) (fun _ s'=>∃aF H',Inv X pins aF H' s'/\Q aF H') X.xe s
def tE (X:Cx) (ts:List dL) (t:qu):Prop:=
 ∀(pins:List (ac×i4)) (s:ba) (σ:St) (H:Hp) (vs:List V) (us:List al) (Q:St->Hp->Prop),Inv X pins σ H s->Vals vs us->t vs σ H Q->
  wpAny (model X.prog X.w) X.A (assignInOrder ((assignEach ts X.env).map (·.2)) us) (fun _ s'=>∃aF H',Inv X pins aF H' s'/\Q aF H') X.xe s
abbrev DZ:=V->V->V->Hp->(Hp->Prop)->Prop
def JQ (X:Cx) (t:DZ):Prop:=
 ∀(pins:List (ac×i4)) (s:ba) (σ:St) (H:Hp) (o i v:V) (ov iv u:al) (Q:Hp->Prop),Inv X pins σ H s->RelV o ov->RelV i iv->RelV v u->t o i v H Q->
  wpAny (model X.prog X.w) X.A (setItem ov iv u) (fun _ s'=>∃H',Inv X pins σ H' s'/\Q H') X.xe s
section
variable {X:Cx} {pos:wn}
def qw (i:Nat):TG:=fun v σ H Q=>Q (σ.set i (some v)) H
theorem Hu {i:Nat} {x:bn} (hN:X.N.Nodup) (hi:X.N[i]?=some x) (hx:Loc X.env.scope x) (hf:X.fn x=true\/X.env.scope.names.lookup x=some .local :=by first|exact .inl rfl|exact .inr rfl|assumption):PG X (.Name x pos) (qw i) :=by
 intro pins s σ H v u Q I r h
 exact Xb (lW I hN hi hx r (fun s' I'=>⟨_,H,I',h⟩) hf)
def Rf:qu:=fun vs σ H Q=>vs=[]/\Q σ H
def Og (t:TG) (u:qu):qu:=fun vs σ H Q=>∃v r,vs=v::r/\t v σ H fun aF H'=>u r aF H' Q
theorem Hv:tE X [] Rf :=by
 intro pins s σ H vs us Q I r h
 obtain ⟨e,h⟩:=h
 subst e
 cases r
 exact assignInOrder_nil ⟨σ,H,I,h⟩
theorem D0 {e:dL} {es:List dL} {t:TG} {u:qu} (h1:PG X e t) (h2:tE X es u)
  (hs:(assignEach (e::es) X.env).map (·.2)=assign e X.env::(assignEach es X.env).map (·.2) :=by rfl):tE X (e::es) (Og t u) :=by
 intro pins s σ H vs us Q I r h
 obtain ⟨v,vr,e1,h⟩:=h
 subst e1
 cases r with
 |cons r rr=>
  rw [hs]
  refine W0 (thn (h1 pins s σ H _ _ _ I r h) fun _ s1 ⟨o4,H1,I1,q1⟩=>?_)
  exact h2 pins s1 o4 H1 _ _ Q I1 rr q1
def Rg (K:bi) (n:Nat) (t:qu):TG:=fun v σ H Q=>∃a xs,v=.ref a/\cI K H a xs/\xs.length=n/\t xs σ H Q
theorem JR {es:List dL} {k:Nat} {t:qu} {n:Nat} (hc:X.calm=true) (h:tE X es t)
  (hn:(assignEach es X.env).length=n :=by rfl) (ie:(assignEach es X.env).findIdx? (·.1)=none :=by rfl):PG X (.Tuple es k pos) (Rg X.K n t) :=by
 intro pins s σ H v u Q I r hw
 obtain ⟨a,xs,e1,hq,hl,hw⟩:=hw
 subst e1
 cases r
 obtain ⟨its,rv,ht,hz⟩:=I.tuple hq
 refine assign_Tuple_tuple (I.ok.hd hc) ht (by simp [hn,<- hl,rv.length]) ie fun h' hx=>?_
 have I1:Inv X pins σ H {s with heap:=h'}:=I.kept (t':=s.toks) fun b o e=>hx b o (jp (hX e)) e
 exact h pins _ σ H xs _ Q I1 (by simpa using rv) hw
def Rh (to ti:TE) (t:DZ):TG:=fun v σ H Q=>to σ H fun o H1=>ti σ H1 fun i H2=>t o i v H2 fun H3=>Q σ H3
theorem JS {o i:dL} {to ti:TE} {t:DZ} (ho:PE X o to) (hi:PE X i ti) (hs:JQ X t)
  (ha:∀v,assign (.Subscript o i pos) X.env v=(do
   let ov <- holding [v] (eval o X.env)
   let iv <- holding [v,ov] (eval i X.env)
   standAt pos
   holding [v,ov,iv] (setItem ov iv v)
   release [v,ov,iv] []) :=by intro _;rfl):PG X (.Subscript o i pos) (Rh to ti t) :=by
 intro pins s σ H v u Q I r h
 rw [ha]
 refine ap (AT (thn (ho pins s σ H _ I h) fun ov s1 ⟨x,H1,I1,r1,q1⟩=>?_))
 refine ap (AT (thn (hi pins s1 σ H1 _ I1 q1) fun iv s2 ⟨y,H2,I2,r2,q2⟩=>?_))
 refine ap (BB (ap (AT (thn (hs pins s2 σ H2 x y v ov iv u _ I2 r1 r2 r q2) fun _ s3 ⟨H3,I3,q3⟩=>?_))))
 exact wpAny_release ⟨σ,H3,I3,q3⟩
def sg (te:TE) (g:TG):TS:=fun D σ H=>te σ H fun x H1=>g x σ H1 D.nx
theorem JT {tg e:dL} {te:TE} {g:TG} (he:PE X e te) (hg:PG X tg g) (hs:swapsWithSole [tg] e pos.line X.env=pure false :=by rfl) (hw:swappedStores [tg] e X.env=pure none :=by rfl)
  (h1:(assignEach [tg] X.env).map (·.2)=[assign tg X.env] :=by rfl):PS X (.Assign [tg] e pos) (sg te g) :=by
 refine ⟨?_⟩
 intro pins s σ H D I h
 refine wpAny_Assign_stores (thn (he pins s σ H _ I h) fun v s1 ⟨x,H1,I1,r1,q1⟩=>?_) hs hw
 rw [h1]
 exact thn (hg pins s1 σ H1 x v _ I1 r1 q1) fun _ s2 q=>q
theorem JU {i:Nat} {x:bn} {e:dL} {te:TE} {pos':wn} (hN:X.N.Nodup) (hi:X.N[i]?=some x) (hx:Loc X.env.scope x) (he:PE X e te) (hs:swapsWith e (some (.Name x pos')) pos.line X.env=pure false :=by rfl) (hf:X.fn x=true\/X.env.scope.names.lookup x=some .local :=by first|exact .inl rfl|exact .inr rfl|assumption) :
  PS X (.Assign [.Name x pos'] e pos) (sg te (qw i)) :=by
 refine ⟨?_⟩
 intro pins s σ H D I h
 refine wpAny_Assign_Name (thn (he pins s σ H _ I h) fun v s1 ⟨y,H1,I1,r1,q1⟩=>?_) hs
 exact lW I1 hN hi hx r1 (fun s2 I2=>⟨_,H1,I2,q1⟩) hf
def Ri (i j:Nat) (ta:TA):TS:=fun D σ H=>ta σ H fun vs H1=>∃v w,vs=[v,w]/\D.nx ((σ.set i (some v)).set j (some w)) H1
theorem JV {i j:Nat} {x y:bn} {a b:dL} {ta:TA} {px py pt:wn} {kt k2 vf} (hc:X.calm=true) (hN:X.N.Nodup) (hi:X.N[i]?=some x) (hj:X.N[j]?=some y) (qy:i≠j)
  (hx:X.env.scope.names.lookup x=some .local) (hy:X.env.scope.names.lookup y=some .local) (ha:PA X [a,b] ta)
  (hw:swappedStores [.Tuple [.Name x px,.Name y py] kt pt] (.Tuple [a,b] k2 vf) X.env=pure (some [x,y]))
  (hs:swapsWithSole [.Tuple [.Name x px,.Name y py] kt pt] (.Tuple [a,b] k2 vf) pos.line X.env=pure false :=by rfl) :
  PS X (.Assign [.Tuple [.Name x px,.Name y py] kt pt] (.Tuple [a,b] k2 vf) pos) (Ri i j ta) :=by
 refine ⟨?_⟩
 intro pins s σ H D I h
 rw [exec_Assign_arm]
 refine ap (BB ?_)
 rw [hs]
 refine ap (bv ?_)
 rw [if_neg (by decide)]
 refine ap (Tuple_ (thn (ha _ pins s σ H _ I h) fun us s1 ⟨vs,H1,I1,r1,q1⟩=>?_))
 obtain ⟨v,w,e1,q1⟩:=q1
 subst e1
 obtain ⟨u1,u2,rfl,rv,jI⟩:∃u1 u2,us=[u1,u2]/\RelV v u1/\RelV w u2 :=by
  cases r1 with
  |cons p q=>
   cases q with
   |cons p' q'=>
    cases q'
    exact ⟨_,_,rfl,p,p'⟩
 refine wP ?_ (by show 2<=sizeLine;decide)
 have I2:Inv X pins σ H1 {s1 with heap:=s1.heap.push {cls:=.type "tuple",data:=.seq [u1,u2].toArray}}:=I1.kept (t':=s1.toks) fun b o e=>cb _ e
 rw [hw]
 refine ap (bv ?_)
 show wpAny (model X.prog X.w) X.A (do rule "assign.swapped-stores";let items <- unpackItems (.ref s1.heap.objs.size) 2 none;assignInOrder [fun v=>bindName X.env y v,fun v=>bindName X.env x v] items.reverse;pure Flow.next) _ _ _
 refine ap (Ix (ap (unpackItems_tuple (items:=#[u1,u2]) (I.ok.hd hc) (IsTup.new s1.heap _) fun h' lq=>?_)))
 have I3:=I2.kept (h':=h') (t':=s1.toks) fun b o e=>lq b o (jp (hX e)) e
 show wpAny _ _ (assignInOrder [fun v=>bindName X.env y v,fun v=>bindName X.env x v] [u2,u1]>>=fun _=>pure Flow.next) _ _ _
 refine ap (W0 (wpAny_bindName (lW I3 hN hj (.inl hy) jI (fun s2 I4=>?_) (.inr hy))))
 refine W0 (wpAny_bindName (lW I4 hN hi (.inl hx) rv (fun s3 I5=>assignInOrder_nil (bv ?_)) (.inr hx)))
 rw [List.set_comm _ _ (zd qy)] at I5
 exact ⟨_,H1,I5,q1⟩
end
section
variable {X:Cx} {pos:wn}
def Ba (c:TT) (tb:TS):TS:=fun D σ H=>∃W:Nat->St->Hp->Prop,(∃m,W m σ H)/\∀m σ H,W m σ H->
 c σ H fun b H1=>if b=true then ∃N:St->Hp->Prop,(∀aF H',N aF H'->∃m',m'<m/\W m' aF H')/\tb {D with nx:=N,ct:=N,bk:=D.nx} σ H1 else D.nx σ H1
theorem D1 {c:dL} {body:List r6} {tc:TT} {tb:TS} (hp:XC (model X.prog X.w) X.A X.env X.xe) (hc:PT X c tc) (hb:fT X body tb):PS X (.While c body [] pos) (Ba tc tb) :=by
 refine ⟨?_⟩
 intro pins s σ H D I h
 obtain ⟨W,⟨m0,w0⟩,turn⟩:=h
 refine wpAny_While (codeAny_whileLoop (fun n s'=>∃aF H',Inv X pins aF H' s'/\W n aF H') ?_ m0 ⟨σ,H,I,w0⟩)
 rintro n s1 ⟨o4,H1,I1,w1⟩
 refine NH hp (thn (hc pins s1 o4 H1 _ I1 (turn n o4 H1 w1)) fun b s2 ⟨H2,I2,q2⟩=>?_)
 cases b with
 |true=>
  obtain ⟨N,hN,q2⟩:=q2
  rw [if_pos rfl]
  refine NH hp (thn (hb pins s2 o4 H2 _ I2 q2) fun f s3 q3=>?_)
  cases f with
  |next=>
   obtain ⟨mW,H3,I3,n3⟩:=q3
   obtain ⟨m',hm,w3⟩:=hN mW H3 n3
   exact ⟨m',hm,mW,H3,I3,w3⟩
  |cont=>
   obtain ⟨mW,H3,I3,n3⟩:=q3
   obtain ⟨m',hm,w3⟩:=hN mW H3 n3
   exact ⟨m',hm,mW,H3,I3,w3⟩
  |brk=>exact q3
  |ret v=>exact q3
 |false=>
  rw [if_neg gl]
  exact Wy ⟨o4,H2,I2,q2⟩
end
structure It where
 go:Nat->Hp->Prop
 yld:Nat->Hp->V->Hp->Prop
 stop:Nat->Hp->Prop
def cD (X:Cx) (pins:List (ac×i4)) (H:Hp) (b:ac):Prop:=
 H b=none/\b≠X.env.locals/\b ∉ X.fs/\(b∈X.ex\/X.s₀.heap.objs.size<=b)/\(∀x c,X.env.cells.lookup x=some c->c≠b)/\∀p∈X.pn++pins,p.1≠b
theorem Inv.lX {X:Cx} {pins:List (ac×i4)} {σ:St} {H H':Hp} {s:ba} {b:ac} (I:Inv X pins σ H s) (hb:s.heap.objs.size<=b) (hn:H' b=none):cD X pins H' b :=by
 refine ⟨hn,OL (l8 I.lt hb),I.JB hb,.inr (wv I.sz hb),fun x c e z=>?_,fun p hp z=>?_⟩
 ·obtain ⟨v,q⟩:=I.cell x c e
  exact absurd (l8 q.lt (by rw [z];exact hb)) (EO _)
 ·exact absurd (l8 (hX (I.pin p hp).1) (by rw [z];exact hb)) (EO _)
structure Turn (P:ff) (w:ii) (K:bi) (tg:dL) (J:It) (fp:List ac) (it:ac) (tn:Nat->ge->Prop):Prop where
 mem:it∈fp
 obj:∀i h,tn i h->∀b∈fp,∃o,h.get? b=some o/\∀v,o.data≠.cell v
 keep:∀i h h',tn i h->(∀b∈fp,∀o,h.get? b=some o->h'.get? b=some o)->tn i h'
 item:∀(X:Cx),X.prog=P->X.w=w->X.K=K->X.calm=true->∀(i:Nat) (pins:List (ac×i4)) (s:ba) (σ:St) (H:Hp) (E:al->ba->Prop),Inv X pins σ H s->(∀b∈fp,cD X pins H b)->tn i s.heap->J.go i H->
  wpAny (model P w) X.A (pyNext (.ref it)) (fun r s1=>∃u,r=some u /\
   wpAny (model P w) X.A (letOwnedTupleGo tg (.ref it) u) (fun _ s2=>∃x H',Inv X pins σ H' s2/\RelV x u/\J.yld i H x H'/\tn (i+1) s2.heap/\∀b∈fp,H' b=none) E s1) E s
 done:∀(X:Cx),X.prog=P->X.w=w->X.K=K->X.calm=true->∀(i:Nat) (pins:List (ac×i4)) (s:ba) (σ:St) (H:Hp) (E:al->ba->Prop),Inv X pins σ H s->(∀b∈fp,cD X pins H b)->tn i s.heap->J.stop i H->
  wpAny (model P w) X.A (pyNext (.ref it)) (fun r s1=>r=none/\Inv X pins σ H s1) E s
 self:∀(A:ma) (i:Nat) (s:ba) (Q:al->ba->Prop) (E:al->ba->Prop),tn i s.heap->Q (.ref it) s->wpAny (model P w) A (pyIter (.ref it)) Q E s
abbrev TI:=St->Hp->(It->Hp->Prop)->Prop
def PV (X:Cx) (pins:List (ac×i4)) (σ:St) (tg:dL) (R:It->Hp->Prop) (yx:al) (s2:ba):Prop:=
 ∃(it:ac) (fp:List ac) (tn:Nat->ge->Prop) (J:It) (H':Hp),yx=.ref it/\Inv X pins σ H' s2/\Turn X.prog X.w X.K tg J fp it tn/\tn 0 s2.heap/\(∀b∈fp,cD X pins H' b)/\R J H'
def PI (X:Cx) (tg iter:dL) (wi:TI):Prop:=
 ∀(pins:List (ac×i4)) (s:ba) (σ:St) (H:Hp) (R:It->Hp->Prop),Inv X pins σ H s->wi σ H R->
  wpAny (model X.prog X.w) X.A (eval iter X.env) (fun v s1=>wpAny (model X.prog X.w) X.A (pyIter v) (PV X pins σ tg R) X.xe s1) X.xe s
theorem uT {M:XV} {A:ma} {E:al->ba->Prop} {s:ba} {tg:dL} {it:ac} {u:al} {o:i4} {n:String} {vs:Array al} {Q:Unit->ba->Prop} (ho:s.heap.get? it=some o) (hc:o.cls=.type n) (hd:o.data=.fields vs)
  (hn:["enumerate","zip","dict_itemiterator","dict_reverseitemiterator","odict_iterator","itertools.zip_longest","itertools.pairwise"].contains n=false) (hQ:Q () s):wpAny M A (letOwnedTupleGo tg (.ref it) u) Q E s :=by
 unfold letOwnedTupleGo
 cases tg <;> first
  |exact bv hQ
  |(cases u <;> first
    |exact bv hQ
    |(refine ap (XN ho ?_)
      rw [hc,hd]
      show wpAny M A (if (["enumerate","zip","dict_itemiterator","dict_reverseitemiterator","odict_iterator","itertools.zip_longest","itertools.pairwise"].contains n && vs[0]?==some (rawInt _))=true then _ else _) Q E s
      rw [if_neg (by intro h;rw [hn,SS] at h;cases h)]
      exact bv hQ))
def JW (K:bi) (a:ac):It:=
 ⟨fun i H=>∃xs x,bF K H a xs/\xs[i]?=some x,fun i H x H'=>H'=H/\∀xs,bF K H a xs->xs[i]?=some x,fun i H=>∃xs,bF K H a xs/\xs.length<=i⟩
def JX (K:bi) (a:ac):It:=
 ⟨fun i H=>∃xs x,cI K H a xs/\xs[i]?=some x,fun i H x H'=>H'=H/\∀xs,cI K H a xs->xs[i]?=some x,fun i H=>∃xs,cI K H a xs/\xs.length<=i⟩
def Bb (lo:Int) (n:Nat):It:=⟨fun i _=>i<n,fun i H x H'=>H'=H/\x=.int (lo+i),fun i _=>n<=i⟩
theorem Bc {P:ff} {w:ii} {K:bi} {tg:dL} (a it:ac):Turn P w K tg (JW K a) [it] it (fun i h=>h.IsListIter it a i) where
 mem :=by simp
 obj:=fun i h st b hb=>by
  have e:b=it :=by simpa using hb
  subst e
  obtain ⟨o,e,c,d⟩:=st
  exact ⟨o,e,fun v z=>by rw [d] at z;cases z⟩
 keep:=fun i h h' st k=>st.at fun o e=>k it (by simp) o e
 item :=by
  intro X hP hw hK hc i pins s σ H E I hf st hg
  subst hP hw hK
  obtain ⟨xs,x,hq,hx⟩:=hg
  obtain ⟨its,rv,p,hz⟩:=I.list hq
  obtain ⟨u,hu,ru⟩:=rv.get hx
  obtain ⟨f0,f1,f2,f3,f4,f5⟩:=hf it (by simp)
  refine wpAny_pyNext_list_item st p.isList (x:=u) (by simpa using hu) fun h' m9 sb=>?_
  have I1:Inv X pins σ H {s with heap:=h'}:=I.turned (t':=s.toks) (fun b o hb e=>(sb.2 b hb).trans e) f0 f1 f3 f4 f5
  obtain ⟨o,e,c,d⟩:=id m9
  exact ⟨u,rfl,uT (s:={s with heap:=h'}) e c d (by decide) ⟨x,H,I1,ru,⟨rfl,fun ys hy=>by rw [I.ve hy hq];exact hx⟩,m9,fun b hb=>(hf b hb).1⟩⟩
 done :=by
  intro X hP hw hK hc i pins s σ H E I hf st hg
  subst hP hw hK
  obtain ⟨xs,hq,hx⟩:=hg
  obtain ⟨its,rv,p,hz⟩:=I.list hq
  obtain ⟨f0,f1,f2,f3,f4,f5⟩:=hf it (by simp)
  have hl:=rv.length
  exact wpAny_pyNext_list_end (I.ok.hd hc) st p.isList (by simp;omega) fun h' eb=>⟨rfl,I.turned (t':=s.toks) (fun b o hb e=>eb b o hb e) f0 f1 f3 f4 f5⟩
 self:=fun _ _ _ _ _ st h=>wpAny_pyIter_listiter st h
theorem zy {P:ff} {w:ii} {K:bi} {tg:dL} (a it:ac):Turn P w K tg (JX K a) [it] it (fun i h=>h.IsTupleIter it a i) where
 mem :=by simp
 obj:=fun i h st b hb=>by
  have e:b=it :=by simpa using hb
  subst e
  obtain ⟨o,e,c,d⟩:=st
  exact ⟨o,e,fun v z=>by rw [d] at z;cases z⟩
 keep:=fun i h h' st k=>st.at fun o e=>k it (by simp) o e
 item :=by
  intro X hP hw hK hc i pins s σ H E I hf st hg
  subst hP hw hK
  obtain ⟨xs,x,hq,hx⟩:=hg
  obtain ⟨its,rv,p,hz⟩:=I.tuple hq
  obtain ⟨u,hu,ru⟩:=rv.get hx
  obtain ⟨f0,f1,f2,f3,f4,f5⟩:=hf it (by simp)
  refine wpAny_pyNext_tuple_item st (show s.heap.IsTuple a its.toArray from p) (x:=u) (by simpa using hu) fun h' m9 sb=>?_
  have I1:Inv X pins σ H {s with heap:=h'}:=I.turned (t':=s.toks) (fun b o hb e=>(sb.2 b hb).trans e) f0 f1 f3 f4 f5
  obtain ⟨o,e,c,d⟩:=id m9
  exact ⟨u,rfl,uT (s:={s with heap:=h'}) e c d (by decide) ⟨x,H,I1,ru,⟨rfl,fun ys hy=>by rw [I.tD hy hq];exact hx⟩,m9,fun b hb=>(hf b hb).1⟩⟩
 done :=by
  intro X hP hw hK hc i pins s σ H E I hf st hg
  subst hP hw hK
  obtain ⟨xs,hq,hx⟩:=hg
  obtain ⟨its,rv,p,hz⟩:=I.tuple hq
  obtain ⟨f0,f1,f2,f3,f4,f5⟩:=hf it (by simp)
  have hl:=rv.length
  exact wpAny_pyNext_tuple_end (I.ok.hd hc) st (show s.heap.IsTuple a its.toArray from p) (by simp;omega) fun h' eb=>⟨rfl,I.turned (t':=s.toks) (fun b o hb e=>eb b o hb e) f0 f1 f3 f4 f5⟩
 self:=fun _ _ _ _ _ st h=>wpAny_pyIter_tupleiter st h
theorem zz {P:ff} {w:ii} {K:bi} {tg:dL} (it:ac) (lo:Int) (n:Nat):Turn P w K tg (Bb lo n) [it] it (fun i h=>IsRangeIter h it (lo+(i:Nat) * 1) ((n:Int) - (i:Nat)) 1) where
 mem :=by simp
 obj:=fun i h st b hb=>by
  have e:b=it :=by simpa using hb
  subst e
  exact ⟨_,st,fun v z=>by
   have z':Data.fields _=Data.cell v:=z
   cases z'⟩
 keep:=fun i h h' st k=>k it (by simp) _ st
 item :=by
  intro X hP hw hK hc i pins s σ H E I hf st hg
  subst hP hw hK
  obtain ⟨f0,f1,f2,f3,f4,f5⟩:=hf it (by simp)
  have W:=Walks.range (prog:=X.prog) (w:=X.w) (I.ok.hd hc) it lo 1 n
  refine W.item i s _ _ hg st fun v h' tk hv m9 kk=>?_
  obtain ⟨t,rfl⟩:=hv
  have I1:Inv X pins σ H {s with heap:=h',toks:=tk}:=I.turned (fun b o hb e=>kk b o (by simpa using hb) e) f0 f1 f3 f4 f5
  refine ⟨_,rfl,uT (s:={s with heap:=h',toks:=tk}) (n := "range_iterator") m9 rfl rfl (by decide) ⟨.int (lo+i),H,I1,⟨t,?_⟩,⟨rfl,rfl⟩,m9,fun b hb=>(hf b hb).1⟩⟩
  rw [Int.mul_one]
 done :=by
  intro X hP hw hK hc i pins s σ H E I hf st hg
  subst hP hw hK
  obtain ⟨f0,f1,f2,f3,f4,f5⟩:=hf it (by simp)
  exact wpAny_pyNext_range_end (I.ok.hd hc) st (by have:n<=i:=hg;omega) fun h' eb=>⟨rfl,I.turned (t':=s.toks) (fun b o hb e=>eb b o hb e) f0 f1 f3 f4 f5⟩
 self:=fun _ _ _ _ _ st h=>wpAny_pyIter_rangeiter st h
section
variable {X:Cx} {tg:dL}
def F2 (K:bi) (tl:TE):TI:=fun σ H R=>tl σ H fun x H1=>∃a,x=.ref a/\(∃xs,bF K H1 a xs)/\R (JW K a) H1
def JY (K:bi) (tl:TE):TI:=fun σ H R=>tl σ H fun x H1=>∃a,x=.ref a/\(∃xs,cI K H1 a xs)/\R (JX K a) H1
theorem Hw {l:dL} {tl:TE} (hl:PE X l tl):PI X tg l (F2 X.K tl) :=by
 intro pins s σ H R I h
 refine thn (hl pins s σ H _ I h) fun v s1 ⟨x,H1,I1,r1,q1⟩=>?_
 obtain ⟨a,e,⟨xs,hq⟩,q⟩:=q1
 subst e
 cases r1
 obtain ⟨its,rv,p,hz⟩:=I1.list hq
 refine Xc p.isList ?_
 refine ⟨s1.heap.objs.size,[s1.heap.objs.size],_,_,H1,rfl,I1.kept (t':=s1.toks) fun b o e=>cb _ e,Bc a _,⟨_,f8 _ rfl,rfl,rfl⟩,fun b hb=>?_,q⟩
 have e:b=s1.heap.objs.size :=by simpa using hb
 subst e
 exact I1.lX (cr _) (I1.hok.fresh (cr _))
theorem JZ {l:dL} {tl:TE} (hl:PE X l tl):PI X tg l (JY X.K tl) :=by
 intro pins s σ H R I h
 refine thn (hl pins s σ H _ I h) fun v s1 ⟨x,H1,I1,r1,q1⟩=>?_
 obtain ⟨a,e,⟨xs,hq⟩,q⟩:=q1
 subst e
 cases r1
 obtain ⟨its,rv,p,hz⟩:=I1.tuple hq
 refine VX (show s1.heap.IsTuple a its.toArray from p) ?_
 refine ⟨s1.heap.objs.size,[s1.heap.objs.size],_,_,H1,rfl,I1.kept (t':=s1.toks) fun b o e=>cb _ e,zy a _,⟨_,f8 _ rfl,rfl,rfl⟩,fun b hb=>?_,q⟩
 have e:b=s1.heap.objs.size :=by simpa using hb
 subst e
 exact I1.lX (cr _) (I1.hok.fresh (cr _))
theorem vg {pins:List (ac×i4)} {σ:St} {H:Hp} {s:ba} {R:It->Hp->Prop} {E:al->ba->Prop} {lo hi:Int} {t u v:W9} {tk:Nat} (I:Inv X pins σ H s) (h1 : -(2 ^ 62)<=lo) (h2:lo<2 ^ 62) (h3 : -(2 ^ 62)<=hi) (h4:hi<2 ^ 62)
  (q:R (Bb lo (hi - lo).toNat) H):wpAny (model X.prog X.w) X.A (pyIter (.ref s.heap.objs.size)) (PV X pins σ tg R) E {s with heap:=s.heap.push {cls:=.type "range",data:=.fields #[.int lo t,.int hi u,.int 1 v]},toks:=tk}:=by
 refine wpAny_pyIter_range (IsRange.new ..) (small_one h1 h2 h3 h4) ?_
 have I1:Inv X pins σ H {s with heap:=s.heap.push {cls:=.type "range",data:=.fields #[.int lo t,.int hi u,.int 1 v]},toks:=tk}:=I.kept fun b o e=>cb _ e
 refine ⟨(s.heap.push {cls:=.type "range",data:=.fields #[.int lo t,.int hi u,.int 1 v]}).objs.size,[(s.heap.push {cls:=.type "range",data:=.fields #[.int lo t,.int hi u,.int 1 v]}).objs.size],_,_,H,rfl,
  I1.kept (t':=tk) fun b o e=>cb _ e,zz _ lo (hi - lo).toNat,?_,fun b hb=>?_,q⟩
 ·have e1:lo+((0:Nat):Int) * 1=lo :=by simp
  have e2:(((hi - lo).toNat:Nat):Int) - ((0:Nat):Int)=u7.Range.rangeSize lo hi 1 :=by rw [rangeSize_one];split <;> omega
  show IsRangeIter _ _ (lo+((0:Nat):Int) * 1) ((((hi - lo).toNat:Nat):Int) - ((0:Nat):Int)) 1
  rw [e1,e2]
  exact f8 _ rfl
 ·have e:b=(s.heap.push {cls:=.type "range",data:=.fields #[.int lo t,.int hi u,.int 1 v]}).objs.size :=by simpa using hb
  subst e
  exact I1.lX (cr _) (I1.hok.fresh (cr _))
def F3 (ta:TA):TI:=fun σ H R=>ta σ H fun vs H1=>∃j:Int,vs=[.int j] /\ -(2 ^ 62)<=j/\j<2 ^ 62/\R (Bb 0 j.toNat) H1
def F4 (ta:TA):TI:=fun σ H R=>ta σ H fun vs H1=>∃i j:Int,vs=[.int i,.int j]/\(-(2 ^ 62)<=i/\i<2 ^ 62 /\ -(2 ^ 62)<=j/\j<2 ^ 62)/\R (Bb i (j - i).toNat) H1
theorem Bd {a:dL} {ta:TA} {p pos:wn} (hg:Gl X "range") (hm:X.mg "range" = none) (ha:PA X [a] ta) (hs:starEach [a] X.env=[(false,eval a X.env)] :=by rfl):PI X tg (.Call (.Name "range" p) [a] [] pos) (F3 ta) :=by
 intro pins s σ H R I h
 refine Call_ (f6 I hg hm boot_range (AN (thn (ha pos pins s σ H _ I h) fun us s1 ⟨vs,H1,I1,r1,q1⟩=>?_) hs rfl))
 obtain ⟨j,e,q1,q2,q⟩:=q1
 subst e
 cases r1 with
 |cons r rr=>
  cases rr
  obtain ⟨t,rfl⟩:=r
  exact call_range_1 (vg I1 (by omega) (by omega) q1 q2 (by simpa using q))
theorem Be {a b:dL} {ta:TA} {p pos:wn} (hg:Gl X "range") (hm:X.mg "range" = none) (ha:PA X [a,b] ta) (hs:starEach [a,b] X.env=[(false,eval a X.env),(false,eval b X.env)] :=by rfl) (yy:starEach [b] X.env=[(false,eval b X.env)] :=by rfl) :
  PI X tg (.Call (.Name "range" p) [a,b] [] pos) (F4 ta) :=by
 intro pins s σ H R I h
 refine Call_ (f6 I hg hm boot_range (AN (thn (ha pos pins s σ H _ I h) fun us s1 ⟨vs,H1,I1,r1,q1⟩=>?_) (by rw [hs,yy]) (by rw [yy];rfl)))
 obtain ⟨i,j,e,⟨q1,q2,q3,q4⟩,q⟩:=q1
 subst e
 cases r1 with
 |cons r rr=>
  cases rr with
  |cons r' rr=>
   cases rr
   obtain ⟨t,rfl⟩:=r
   obtain ⟨t',rfl⟩:=r'
   exact call_range_2 (vg I1 q1 q2 q3 q4 q)
def J0 (wi:TI) (g:TG) (tb:TS):TS:=fun D σ H=>wi σ H fun J H1=>∃W:Nat->Nat->St->Hp->Prop,(∃m,W 0 m σ H1)/\∀i m σ H,W i m σ H->
 (J.stop i H/\D.nx σ H)\/(J.go i H/\∃N:St->Hp->Prop,(∀aF H',N aF H'->∃m',m'<m/\W (i+1) m' aF H')/\∀x H',J.yld i H x H'->g x σ H' fun iL H2=>tb {D with nx:=N,ct:=N,bk:=D.nx} iL H2)
def iM (fp:List ac) (h:ge):List (ac×i4):=fp.filterMap fun b=>(h.get? b).map fun o=>(b,o)
theorem cK {fp:List ac} {h:ge} {b:ac} {o:i4} (hb:b∈fp) (e:h.get? b=some o):(b,o)∈iM fp h:=W1.mpr ⟨b,hb,by rw [e];rfl⟩
theorem Bf {fp:List ac} {h:ge} {p:ac×i4} (hp:p∈iM fp h):p.1∈fp/\h.get? p.1=some p.2 :=by
 obtain ⟨b,hb,e⟩:=W1.mp hp
 cases q:h.get? b with
 |none=>rw [q] at e;cases e
 |some o=>
  rw [q] at e
  have e':(b,o)=p:=ij e
  subst e'
  exact ⟨hb,q⟩
theorem Inv.pinned {pins:List (ac×i4)} {σ:St} {H:Hp} {s:ba} {fp:List ac} (I:Inv X pins σ H s) (hf:∀b∈fp,cD X pins H b) (ho:∀b∈fp,∃o,s.heap.get? b=some o/\∀v,o.data≠.cell v):Inv X (pins++iM fp s.heap) σ H s:=
 I.se fun p hp=>(AL.mp hp).elim (fun z=>I.pin p (i1 _ z)) fun z=>by
  obtain ⟨hb,e⟩:=Bf z
  obtain ⟨f0,f1,f2,_⟩:=hf p.1 hb
  obtain ⟨o,e',d⟩:=ho p.1 hb
  rw [e] at e';cases e'
  exact ⟨e,f0,f1,f2,d⟩
theorem Inv.cg {pins pl:List (ac×i4)} {σ:St} {H:Hp} {s:ba} (I:Inv X (pins++pl) σ H s):Inv X pins σ H s:=I.se fun p hp=>I.pin p (i1 _ (BS _ hp))
theorem J4 {iter:dL} {body:List r6} {wi:TI} {g:TG} {tb:TS} {pos:wn} (hp:XC (model X.prog X.w) X.A X.env X.xe) (hc:X.calm=true) (hi:PI X tg iter wi) (hg:PG X tg g) (hb:fT X body tb)
  (hs:∀x,foldedSetIterable iter X.env x=pure x :=by intro _;rfl):PS X (.For tg iter body [] pos) (J0 wi g tb) :=by
 refine ⟨?_⟩
 intro pins s σ H D I h
 refine wpAny_For (thn (hi pins s σ H _ I h) fun v s1 h1=>thn h1 fun yx s2 h2=>?_) hs
 obtain ⟨it,fp,tn,J,H2,e,I2,T,qz,f2,W,⟨m0,w0⟩,turn⟩:=h2
 subst e
 have stat:∀{H':Hp},(∀b∈fp,H' b=none)->∀b∈fp,cD X pins H' b:=fun hn b hb=>⟨hn b hb,(f2 b hb).2⟩
 refine codeAny_forLoop_any (fun n s'=>∃i aF H',Inv X pins aF H' s'/\tn i s'.heap/\(∀b∈fp,H' b=none)/\W i n aF H') ?_ m0 ⟨0,σ,H2,I2,qz,fun b hb=>(f2 b hb).1,w0⟩
 rintro n s3 ⟨i,mW,H3,I3,tF,Bg,w3⟩
 rcases turn i n mW H3 w3 with ⟨stop,qn⟩|⟨go,N,hN,step⟩
 ·refine NH hp (thn (T.done X rfl rfl rfl hc i pins s3 mW H3 X.xe I3 (stat Bg) tF stop) fun r s4 ⟨hr,I4⟩=>?_)
  subst hr
  exact Wy ⟨mW,H3,I4,qn⟩
 ·refine NH hp (thn (T.item X rfl rfl rfl hc i pins s3 mW H3 X.xe I3 (stat Bg) tF go) fun r s4 ⟨u,hr,h4⟩=>?_)
  subst hr
  refine NH hp (thn h4 fun _ s5 ⟨x,H5,I5,r5,y5,jJ,vh⟩=>?_)
  have vi:=I5.pinned (stat vh) (T.obj _ _ jJ)
  refine NH hp (thn (hg _ s5 mW H5 x u _ vi r5 (step x H5 y5)) fun _ s6 ⟨SG,H6,I6,q6⟩=>?_)
  refine NH hp (thn (hb _ s6 SG H6 _ I6 q6) fun f s7 q7=>?_)
  have again:∀{ng:St} {H7:Hp},Inv X (pins++iM fp s5.heap) ng H7 s7->N ng H7->∃m,m<n/\∃i aF H',Inv X pins aF H' s7/\tn i s7.heap/\(∀b∈fp,H' b=none)/\W i m aF H':=fun {ng H7} I7 n7=>by
   obtain ⟨m',hm,w7⟩:=hN ng H7 n7
   refine ⟨m',hm,i+1,ng,H7,I7.cg,T.keep _ _ _ jJ fun b hb o e=>(I7.pin (b,o) (i1 _ (i1 _ (cK hb e)))).1,fun b hb=>?_,w7⟩
   obtain ⟨o,e,d⟩:=T.obj _ _ jJ b hb
   exact (I7.pin (b,o) (i1 _ (i1 _ (cK hb e)))).2.1
  cases f with
  |next=>obtain ⟨ng,H7,I7,n7⟩:=q7;exact again I7 n7
  |cont=>obtain ⟨ng,H7,I7,n7⟩:=q7;exact again I7 n7
  |brk=>obtain ⟨ng,H7,I7,q7⟩:=q7;exact ⟨ng,H7,I7.cg,q7⟩
  |ret v=>obtain ⟨x7,ng,H7,I7,r7,q7⟩:=q7;exact ⟨x7,ng,H7,I7.cg,r7,q7⟩
end
abbrev R2:=V->V->Hp->VK->Prop
def OpR (X:Cx) (f:al->al->Wx al) (r:R2):Prop:=
 ∀(pins:List (ac×i4)) (s:ba) (σ:St) (H:Hp) (x y:V) (v u:al) (Q:VK),Inv X pins σ H s->RelV x v->RelV y u->r x y H Q->
  wpAny (model X.prog X.w) X.A (f v u) (EP X pins σ Q) X.xe s
def cL (X:Cx) (f:al) (r:List V->Hp->VK->Prop):Prop:=
 ∀(pins:List (ac×i4)) (s:ba) (σ:St) (H:Hp) (xs:List V) (us:List al) (Q:VK),Inv X pins σ H s->Vals xs us->r xs H Q->
  wpAny (model X.prog X.w) X.A (call f us) (EP X pins σ Q) X.xe s
def Rj (X:Cx) (r:V->Hp->(Bool->Hp->Prop)->Prop):Prop:=
 ∀(pins:List (ac×i4)) (s:ba) (σ:St) (H:Hp) (x:V) (v:al) (Q:Bool->Hp->Prop),Inv X pins σ H s->RelV x v->r x H Q->
  wpAny (model X.prog X.w) X.A (truthy v) (TP X pins σ Q) X.xe s
def Bh (r:R2) (ta tb:TE):TE:=fun σ H Q=>ta σ H fun x H1=>tb σ H1 fun y H2=>r x y H2 Q
def rI (C:Int->Int->Prop) (g:Int->Int->V):R2:=fun x y H Q=>∃i j,x=.int i/\y=.int j/\C i j/\Q (g i j) H
def tG (g:Int->Int->V):R2:=fun x y H Q=>∃i j,x=.int i/\y=.int j/\Q (g i j) H
section
variable {X:Cx} {a b c:dL} {ta tb tc:TE} {pos:wn}
theorem D2 (ha:PE X a ta) (hb:PE X b tb) {pins:List (ac×i4)} {s:ba} {σ:St} {H:Hp} {R:V->V->Hp->Prop} (I:Inv X pins σ H s)
  (h:ta σ H fun x H1=>tb σ H1 fun y H2=>R x y H2) {Q:al->ba->Prop} {f:al->al->Wx al}
  (hf:∀v u s2 x y H2,Inv X pins σ H2 s2->RelV x v->RelV y u->R x y H2->wpAny (model X.prog X.w) X.A (f v u) Q X.xe s2) :
  wpAny (model X.prog X.w) X.A (eval a X.env) (fun v aw=>wpAny (model X.prog X.w) X.A (eval b X.env) (fun u gz=>wpAny (model X.prog X.w) X.A (f v u) Q X.xe gz) X.xe aw) X.xe s :=by
 refine thn (ha pins s σ H _ I h) fun v s1 ⟨x,H1,I1,r1,q1⟩=>?_
 refine thn (hb pins s1 σ H1 _ I1 q1) fun u s2 ⟨y,H2,I2,r2,q2⟩=>?_
 exact hf v u s2 x y H2 I2 r1 r2 q2
theorem Oh {op:Operator} {r:R2} (ho:OpR X (binaryOp op) r) (ha:PE X a ta) (hb:PE X b tb):PE X (.BinOp a op b pos) (Bh r ta tb) :=by
 refine ⟨?_⟩
 intro pins s σ H Q I h
 exact wpAny_BinOp (D2 ha hb I h fun v u s2 x y H2 I2 rx ry q=>ho pins s2 σ H2 x y v u Q I2 rx ry q)
theorem F5 {f:al->al->Wx al} {C:Int->Int->Prop} {g:Int->Int->Int}
  (rule:∀(i j:Int) (t u:W9) (s:ba) (Q:al->ba->Prop) (E:al->ba->Prop),C i j->Q (.int (g i j) s.toks) {s with toks:=s.toks+1}->wpAny (model X.prog X.w) X.A (f (.int i t) (.int j u)) Q E s) :
  OpR X f (rI C fun i j=>.int (g i j)) :=by
 intro pins s σ H x y v u Q I rx ry h
 obtain ⟨i,j,rfl,rfl,hc,q⟩:=h
 obtain ⟨t,rfl⟩:=rx
 obtain ⟨t',rfl⟩:=ry
 exact rule i j t t' s _ _ hc ⟨.int (g i j),H,I.tok _,⟨_,rfl⟩,q⟩
theorem J5 {f:al->al->Wx al} {g:Int->Int->Int}
  (rule:∀(i j:Int) (t u:W9) (s:ba) (Q:al->ba->Prop) (E:al->ba->Prop),Q (.int (g i j) s.toks) {s with toks:=s.toks+1}->wpAny (model X.prog X.w) X.A (f (.int i t) (.int j u)) Q E s) :
  OpR X f (tG fun i j=>.int (g i j)) :=by
 intro pins s σ H x y v u Q I rx ry h
 obtain ⟨i,j,rfl,rfl,q⟩:=h
 obtain ⟨t,rfl⟩:=rx
 obtain ⟨t',rfl⟩:=ry
 exact rule i j t t' s _ _ ⟨.int (g i j),H,I.tok _,⟨_,rfl⟩,q⟩
theorem D3 {f:al->al->Wx al} {g:Int->Int->Bool}
  (rule:∀(i j:Int) (t u:W9) (s:ba) (Q:al->ba->Prop) (E:al->ba->Prop),Q (.bool (g i j)) s->wpAny (model X.prog X.w) X.A (f (.int i t) (.int j u)) Q E s) :
  OpR X f (tG fun i j=>.bl (g i j)) :=by
 intro pins s σ H x y v u Q I rx ry h
 obtain ⟨i,j,rfl,rfl,q⟩:=h
 obtain ⟨t,rfl⟩:=rx
 obtain ⟨t',rfl⟩:=ry
 exact rule i j t t' s _ _ ⟨.bl (g i j),H,I,rfl,q⟩
def J6 (i j:Int):Prop:=0<j/\j<1073741824
def J7 (i j:Int):Prop:=0<=j/\j<=1000000/\i.natAbs<2 ^ 64
def zA (i j:Int):Prop:=(-(2 ^ 64)<i/\i<2 ^ 64)\/(-(2 ^ 64)<j/\j<2 ^ 64)
theorem zA.ok {i j:Int} (h:zA i j):IntMulOk i j :=by
 rcases h with ⟨h1,h2⟩|⟨h1,h2⟩
 ·exact .of_left (intBits_le_64 h1 h2)
 ·exact .of_right (intBits_le_64 h1 h2)
theorem J8:OpR X (binaryOp .Add) (tG fun i j=>.int (i+j)):=J5 fun _ _ _ _ _ _ _ q=>add_int q
theorem J9:OpR X (binaryOp .Sub) (tG fun i j=>.int (i - j)):=J5 fun _ _ _ _ _ _ _ q=>sub_int q
theorem Ka:OpR X (binaryOp .Mult) (rI zA fun i j=>.int (i * j)):=F5 fun _ _ _ _ _ _ _ hc q=>mul_int q hc.ok
theorem Hx:OpR X (binaryOp .FloorDiv) (rI J6 fun i j=>.int (i / j)):=F5 fun i j _ _ _ _ _ hc q=>by
 have h1:(0:Int)<j:=hc.1
 have h2:j<1073741824:=hc.2
 exact floordiv_int (by omega) (by rw [Int.fdiv_eq_ediv_of_nonneg i (by omega)];exact q) (.inl (PyProof.noPylong_small (by omega)))
theorem Kb:OpR X (binaryOp .Mod) (rI (fun _ j=>0<j) fun i j=>.int (i % j)):=F5 fun i j _ _ _ _ _ hc q=>by
 have h1:(0:Int)<j:=hc
 exact mod_int' (by omega) (by rw [Int.fmod_eq_emod_of_nonneg i (by omega)];exact q)
theorem Kc:OpR X (binaryOp .Pow) (rI J7 fun i j=>.int (i ^ j.toNat)):=F5 fun _ _ _ _ _ _ _ hc q=>pow_int_small hc.1 hc.2.1 hc.2.2 q
end
def D4:V->V->Bool
 | .au,.au=>true | .au,.int _=>true | .int _,.au=>true | .au,.bl _=>true | .bl _,.au=>true | .au,.str _=>true | .str _,.au=>true
 | .int _,.int _=>true | .bl _,.bl _=>true | .str _,.str _=>true | .jE _,.jE _=>true
 | .int _,.str _=>true | .str _,.int _=>true | .bl _,.str _=>true | .str _,.bl _=>true
 |_,_=>false
def SH:R2:=fun x y H Q=>D4 x y=true/\Q (.bl (decide (x=y))) H
def SJ:R2:=fun x y H Q=>D4 x y=true/\Q (.bl (!decide (x=y))) H
theorem yz {i j:Int}:decide (V.int i=V.int j)=(i==j) :=by
 rw [PM]
 simp
theorem Bi {i j:Bool}:decide (V.bl i=V.bl j)=(i==j) :=by
 rw [PM]
 simp
theorem yA {i j:bn}:decide (V.str i=V.str j)=(i==j) :=by
 rw [PM]
 simp
theorem yB {i j:Array UInt8}:decide (V.jE i=V.jE j)=(i.toList==j.toList) :=by
 rw [PM]
 cases i
 cases j
 simp
section
variable {X:Cx} {a b c:dL} {ta tb tc:TE} {pos:wn}
theorem a9 {pins:List (ac×i4)} {σ:St} {H:Hp} {s:ba} {Q:VK} {k k':Bool} (I:Inv X pins σ H s) (q:Q (.bl k) H) (e:k=k'):EP X pins σ Q (.bool k') s :=by
 subst e
 exact ⟨.bl k,H,I,rfl,q⟩
theorem Oi:OpR X (compareOp .Eq) SH :=by
 intro pins s σ H x y v u Q I rx ry h
 obtain ⟨hs,q⟩:=h
 cases x with
 |au=>
  cases rx
  cases y with
  |au=>cases ry;exact PySem.EqNone.eq_none_none (a9 I q (by simp))
  |bl j=>cases ry;exact PySem.EqNone.eq_none_bool (a9 I q (by simp))
  |int j=>obtain ⟨t',rfl⟩:=ry;exact PySem.EqNone.eq_none_int (a9 I q (by simp))
  |str j=>obtain ⟨t',rfl⟩:=ry;exact PySem.EqNone.eq_none_str (a9 I q (by simp))
  |_=>exact absurd (show false=true from hs) gl
 |bl i=>
  cases rx
  cases y with
  |au=>cases ry;exact PySem.EqNone.eq_bool_none (a9 I q (by simp))
  |bl j=>cases ry;exact eq_bool (a9 I q Bi)
  |str j=>obtain ⟨t',rfl⟩:=ry;exact PySem.EqMixed.eq_bool_str (a9 I q (by simp))
  |_=>exact absurd (show false=true from hs) gl
 |int i=>
  obtain ⟨t,rfl⟩:=rx
  cases y with
  |au=>cases ry;exact PySem.EqNone.eq_int_none (a9 I q (by simp))
  |int j=>obtain ⟨t',rfl⟩:=ry;exact eq_int (a9 I q yz)
  |str j=>obtain ⟨t',rfl⟩:=ry;exact PySem.EqMixed.eq_int_str (a9 I q (by simp))
  |_=>exact absurd (show false=true from hs) gl
 |str i=>
  obtain ⟨t,rfl⟩:=rx
  cases y with
  |au=>cases ry;exact PySem.EqNone.eq_str_none (a9 I q (by simp))
  |bl j=>cases ry;exact PySem.EqMixed.eq_str_bool (a9 I q (by simp))
  |int j=>obtain ⟨t',rfl⟩:=ry;exact PySem.EqMixed.eq_str_int (a9 I q (by simp))
  |str j=>obtain ⟨t',rfl⟩:=ry;exact eq_str (a9 I q yA)
  |_=>exact absurd (show false=true from hs) gl
 |jE i=>
  obtain ⟨t,rfl⟩:=rx
  cases y with
  |jE j=>obtain ⟨t',rfl⟩:=ry;exact PySem.W.eq_bytes (a9 I q yB)
  |_=>exact absurd (show false=true from hs) gl
 |_=>cases y <;> exact absurd (show false=true from hs) gl
theorem Oj:OpR X (compareOp .NotEq) SJ :=by
 intro pins s σ H x y v u Q I rx ry h
 obtain ⟨hs,q⟩:=h
 cases x with
 |au=>
  cases rx
  cases y with
  |au=>cases ry;exact PySem.EqNone.ne_none_none (a9 I q (by simp))
  |bl j=>cases ry;exact PySem.EqNone.ne_none_bool (a9 I q (by simp))
  |int j=>obtain ⟨t',rfl⟩:=ry;exact PySem.EqNone.ne_none_int (a9 I q (by simp))
  |str j=>obtain ⟨t',rfl⟩:=ry;exact PySem.EqNone.ne_none_str (a9 I q (by simp))
  |_=>exact absurd (show false=true from hs) gl
 |bl i=>
  cases rx
  cases y with
  |au=>cases ry;exact PySem.EqNone.ne_bool_none (a9 I q (by simp))
  |bl j=>cases ry;exact ne_bool (a9 I q (congrArg not Bi))
  |str j=>obtain ⟨t',rfl⟩:=ry;exact PySem.EqMixed.ne_bool_str (a9 I q (by simp))
  |_=>exact absurd (show false=true from hs) gl
 |int i=>
  obtain ⟨t,rfl⟩:=rx
  cases y with
  |au=>cases ry;exact PySem.EqNone.ne_int_none (a9 I q (by simp))
  |int j=>obtain ⟨t',rfl⟩:=ry;exact ne_int (a9 I q (congrArg not yz))
  |str j=>obtain ⟨t',rfl⟩:=ry;exact PySem.EqMixed.ne_int_str (a9 I q (by simp))
  |_=>exact absurd (show false=true from hs) gl
 |str i=>
  obtain ⟨t,rfl⟩:=rx
  cases y with
  |au=>cases ry;exact PySem.EqNone.ne_str_none (a9 I q (by simp))
  |bl j=>cases ry;exact PySem.EqMixed.ne_str_bool (a9 I q (by simp))
  |int j=>obtain ⟨t',rfl⟩:=ry;exact PySem.EqMixed.ne_str_int (a9 I q (by simp))
  |str j=>obtain ⟨t',rfl⟩:=ry;exact ne_str (a9 I q (congrArg not yA))
  |_=>exact absurd (show false=true from hs) gl
 |jE i=>
  obtain ⟨t,rfl⟩:=rx
  cases y with
  |jE j=>obtain ⟨t',rfl⟩:=ry;exact PySem.W.ne_bytes (a9 I q (congrArg not yB))
  |_=>exact absurd (show false=true from hs) gl
 |_=>cases y <;> exact absurd (show false=true from hs) gl
theorem Ol:OpR X (compareOp .Lt) (tG fun i j=>.bl (decide (i<j))):=D3 fun _ _ _ _ _ _ _ q=>lt_int q
theorem Om:OpR X (compareOp .LtE) (tG fun i j=>.bl (decide (i<=j))):=D3 fun _ _ _ _ _ _ _ q=>le_int q
theorem Oo:OpR X (compareOp .Gt) (tG fun i j=>.bl (decide (j<i))):=D3 fun _ _ _ _ _ _ _ q=>gt_int q
theorem bR (b:dL) {op:TW} (h:op≠.In :=by decide) (h2:op≠.NotIn :=by decide):behindInMarks op b=false :=by
 have e1:(op==TW.In)=false :=by cases op <;> first|rfl|exact absurd rfl h
 have e2:(op==TW.NotIn)=false :=by cases op <;> first|rfl|exact absurd rfl h2
 cases b <;> simp [behindInMarks,e1,e2]
theorem Hy {op:TW} {r:R2} (ho:OpR X (compareOp op) r) (ha:PE X a ta) (hb:PE X b tb) (hm:behindInMarks op b=false):PE X (.Compare a [op] [b] pos) (Bh r ta tb) :=by
 refine ⟨?_⟩
 intro pins s σ H Q I h
 exact wpAny_Compare1 (D2 ha hb I h fun v u s2 x y H2 I2 rx ry q=>ho pins s2 σ H2 x y v u Q I2 rx ry q) hm
def zB (t:TE):TT:=fun σ H Q=>t σ H fun x H'=>∃k,x=.bl k/\Q k H'
theorem Hz {op:TW} {r:R2} (ho:OpR X (compareOp op) r) (ha:PE X a ta) (hb:PE X b tb) (hm:behindInMarks op b=false):PT X (.Compare a [op] [b] pos) (zB (Bh r ta tb)) :=by
 refine ⟨?_⟩
 intro pins s σ H Q I h
 refine wpAny_isTrue_Compare1 (thn (ha pins s σ H _ I h) fun v s1 ⟨x,H1,I1,r1,q1⟩=>thn (hb pins s1 σ H1 _ I1 q1) fun u s2 ⟨y,H2,I2,r2,q2⟩=>
  thn (ho pins s2 σ H2 x y v u _ I2 r1 r2 q2) fun c s3 ⟨z,H3,I3,r3,k,e,q3⟩=>?_) hm
 subst e
 cases r3
 exact zw ⟨H3,I3,q3⟩
def vj (r r':R2) (ta tb tc:TE):TE:=fun σ H Q=>ta σ H fun x H1=>tb σ H1 fun y H2=>r x y H2 fun z H3=>∃k,z=.bl k /\
 (if k=true then tc σ H3 fun w' H4=>r' y w' H4 Q else Q (.bl false) H3)
theorem D5 {op jK:TW} {r r':R2} (ho:OpR X (compareOp op) r) (ib:OpR X (compareOp jK) r') (ha:PE X a ta) (hb:PE X b tb) (hc:PE X c tc)
  (hm:lastMarks [op,jK] [b,c]=false :=by with_unfolding_all rfl):PE X (.Compare a [op,jK] [b,c] pos) (vj r r' ta tb tc) :=by
 refine ⟨?_⟩
 intro pins s σ H Q I h
 refine Compare_chain (thn (ha pins s σ H _ I h) fun v s1 ⟨x,H1,I1,r1,q1⟩=>chain_link (thn (hb pins s1 σ H1 _ I1 q1) fun u s2 ⟨y,H2,I2,r2,q2⟩=>
  thn (ho pins s2 σ H2 x y v u _ I2 r1 r2 q2) fun d s3 ⟨z,H3,I3,r3,k,e,q3⟩=>?_)) hm
 subst e
 cases r3
 refine zw ?_
 cases k with
 |false=>exact ite_ff ⟨.bl false,H3,I3,rfl,q3⟩
 |true=>exact ite_tt (chain_last (thn (hc pins s3 σ H3 _ I3 q3) fun w' s4 ⟨z',H4,I4,r4,q4⟩=>ib pins s4 σ H4 y z' u w' Q I4 r2 r4 q4))
theorem D6 {op jK:TW} {r r':R2} (ho:OpR X (compareOp op) r) (ib:OpR X (compareOp jK) r') (ha:PE X a ta) (hb:PE X b tb) (hc:PE X c tc)
  (hm:lastMarks [op,jK] [b,c]=false :=by with_unfolding_all rfl):PT X (.Compare a [op,jK] [b,c] pos) (zB (vj r r' ta tb tc)) :=by
 refine ⟨?_⟩
 intro pins s σ H Q I h
 refine isTrue_chain (thn (ha pins s σ H _ I h) fun v s1 ⟨x,H1,I1,r1,q1⟩=>test_link (thn (hb pins s1 σ H1 _ I1 q1) fun u s2 ⟨y,H2,I2,r2,q2⟩=>
  thn (ho pins s2 σ H2 x y v u _ I2 r1 r2 q2) fun d s3 ⟨z,H3,I3,r3,k,e,q3⟩=>?_)) hm
 subst e
 cases r3
 refine zw ?_
 cases k with
 |false=>
  obtain ⟨k',e',q'⟩:=q3
  cases e'
  exact ite_ff ⟨H3,I3,q'⟩
 |true=>
  refine ite_tt (test_last (thn (hc pins s3 σ H3 _ I3 q3) fun w' s4 ⟨z',H4,I4,r4,q4⟩=>thn (ib pins s4 σ H4 y z' u w' _ I4 r2 r4 q4) fun d' s5 ⟨z2,H5,I5,r5,k2,e2,q5⟩=>?_))
  subst e2
  cases r5
  exact zw ⟨H5,I5,q5⟩
def D7 (K:bi) (x:V) (H:Hp) (k:Bool):Prop:=
 match x with
 | .au=>k=false
 | .bl b=>k=b
 | .int i=>k=(i != 0)
 | .str y=>y.length<=sizeLine/\k=((y.length:Int) != 0)
 | .jE y=>y.size<=sizeLine/\k=((y.size:Int) != 0)
 | .ref p=>(∃xs,bF K H p xs/\k = !xs.isEmpty)\/(∃xs,cI K H p xs/\k = !xs.isEmpty)\/∃ao,H p=some (.dK ao)/\k = !ao.isEmpty
 |_=>False
theorem zD {κ:Type} {ao:List (κ×V)} {vs:List (κ×al)} (r:KV ao vs):(!vs.isEmpty) = !ao.isEmpty :=by
 cases r <;> rfl
theorem qA {xs:List V} {its:List al} (r:Vals xs its):(!its.toArray.isEmpty) = !xs.isEmpty :=by
 cases r <;> simp
theorem lr:(sizeLine:Nat)<2 ^ 63 :=by rw [UV];decide
theorem Kd:Rj X (fun x H Q=>∃k,D7 X.K x H k/\Q k H) :=by
 intro pins s σ H x v Q I rx h
 obtain ⟨k,e,q⟩:=h
 have hl:=lr
 have hs:sizeLine=16777216:=UV
 cases x with
 |au=>
  cases rx
  have e':k=false:=e
  subst e'
  exact truthy_none ⟨H,I,q⟩
 |bl b=>
  cases rx
  have e':k=b:=e
  subst e'
  exact zw ⟨H,I,q⟩
 |int i=>
  obtain ⟨t,rfl⟩:=rx
  have e':k=(i != 0):=e
  subst e'
  exact PySem.P.truthy_int ⟨H,I,q⟩
 |str y=>
  obtain ⟨t,rfl⟩:=rx
  obtain ⟨hy,e'⟩:y.length<=sizeLine/\k=((y.length:Int) != 0):=e
  subst e'
  exact PySem.P.truthy_str (by omega) ⟨H,I.tok _,q⟩
 |jE y=>
  obtain ⟨t,rfl⟩:=rx
  obtain ⟨hy,e'⟩:y.size<=sizeLine/\k=((y.size:Int) != 0):=e
  subst e'
  exact PySem.W.truthy_bytes (by omega) ⟨H,I.tok _,q⟩
 |ref p=>
  cases rx
  have e':(∃xs,bF X.K H p xs/\k = !xs.isEmpty)\/(∃xs,cI X.K H p xs/\k = !xs.isEmpty)\/∃ao,H p=some (.dK ao)/\k = !ao.isEmpty:=e
  rcases e' with ⟨xs,hx,e'⟩|⟨xs,hx,e'⟩|⟨ao,hx,e'⟩
  ·subst e'
   obtain ⟨its,r,pl,hz⟩:=I.list hx
   have hlen:=r.length
   exact wpAny_truthy_list pl.isList (by simp only [db];omega) ⟨H,I.tok _,by rw [qA r];exact q⟩
  ·subst e'
   obtain ⟨its,r,pl,hz⟩:=I.tuple hx
   have hlen:=r.length
   exact truthy_tuple pl (by simp only [db];omega) ⟨H,I.tok _,by rw [qA r];exact q⟩
  ·subst e'
   obtain ⟨hz,hS,vs,r,m⟩:ao.length<=sizeLine/\(p==sysModules)=false/\∃vs,KV ao vs/\s.heap.DictOf (bJ X.prog X.w) p vs:=I.hok p _ hx
   have hlen:ao.length=vs.length:=UF r
   exact wpAny_truthy_dict hS m (by omega) ⟨H,I.tok _,by rw [zD r];exact q⟩
 |_=>exact (show False from e).elim
theorem D8 (ha:PE X a ta) (he:∀whole,isTrue a X.env whole=(do let v <- whole;standAt a.pos;holding [v] (truthy v))) :
  PT X a (fun σ H Q=>ta σ H fun x H'=>∃k,D7 X.K x H' k/\Q k H') :=by
 refine ⟨?_⟩
 intro pins s σ H Q I h
 exact isTrue_plain (thn (ha pins s σ H _ I h) fun v s1 ⟨x,H1,I1,r1,q1⟩=>Kd pins s1 σ H1 x v Q I1 r1 q1) (he _)
theorem zE:OpR X (binaryOp .Add) (fun x y H Q=>∃i j,x=.str i/\y=.str j/\i.length+j.length<=sizeLine/\Q (.str (i++j)) H) :=by
 intro pins s σ H x y v u Q I rx ry h
 obtain ⟨i,j,rfl,rfl,hz,q⟩:=h
 obtain ⟨t,rfl⟩:=rx
 obtain ⟨t',rfl⟩:=ry
 exact add_str (fun t' tk=>⟨.str (i++j),H,I.tok _,⟨_,rfl⟩,q⟩) hz
theorem vals1 {x:V} {us:List al} (r:Vals [x] us):∃u,us=[u]/\RelV x u :=by
 cases r with
 |cons r1 r2=>cases r2;exact ⟨_,rfl,r1⟩
theorem vals2 {x y:V} {us:List al} (r:Vals [x,y] us):∃u w',us=[u,w']/\RelV x u/\RelV y w':=by
 cases r with
 |cons r1 r2=>
  cases r2 with
  |cons r3 r4=>cases r4;exact ⟨_,_,rfl,r1,r3⟩
theorem D9:cL X (.builtin "abs") (fun xs H Q=>∃i,xs=[.int i]/\Q (.int (if i<0 then -i else i)) H) :=by
 intro pins s σ H xs us Q I r h
 obtain ⟨i,rfl,q⟩:=h
 obtain ⟨u,rfl,t,rfl⟩:=vals1 r
 exact call_abs_int fun u tk=>⟨.int (if i<0 then -i else i),H,I.tok _,⟨_,rfl⟩,q⟩
theorem Bj (hc:X.calm=true):cL X (.builtin "max") (fun xs H Q=>∃i j,xs=[.int i,.int j]/\Q (.int (if j > i then j else i)) H) :=by
 intro pins s σ H xs us Q I r h
 obtain ⟨i,j,rfl,q⟩:=h
 obtain ⟨u,w',rfl,⟨t,rfl⟩,⟨t',rfl⟩⟩:=vals2 r
 refine max_two_ints (I.ok.hd hc) fun h' tk k=>⟨_,H,I.kept k,?_,q⟩
 by_cases hj:j > i
 ·rw [if_pos hj,if_pos hj];exact ⟨_,rfl⟩
 ·rw [if_neg hj,if_neg hj];exact ⟨_,rfl⟩
theorem Bk (hc:X.calm=true):cL X (.builtin "min") (fun xs H Q=>∃i j,xs=[.int i,.int j]/\Q (.int (if j<i then j else i)) H) :=by
 intro pins s σ H xs us Q I r h
 obtain ⟨i,j,rfl,q⟩:=h
 obtain ⟨u,w',rfl,⟨t,rfl⟩,⟨t',rfl⟩⟩:=vals2 r
 refine min_two_ints (I.ok.hd hc) fun h' tk k=>⟨_,H,I.kept k,?_,q⟩
 by_cases hj:j<i
 ·rw [if_pos hj,if_pos hj];exact ⟨_,rfl⟩
 ·rw [if_neg hj,if_neg hj];exact ⟨_,rfl⟩
def Ke (K:bi) (x:V) (H:Hp) (n:Nat):Prop:=
 match x with
 | .str y=>y.length<=sizeLine/\n=y.length
 | .jE y=>y.size<=sizeLine/\n=y.size
 | .ref p=>(∃xs,bF K H p xs/\n=xs.length)\/∃xs,cI K H p xs/\n=xs.length
 |_=>False
theorem Ea:cL X (.builtin "len") (fun xs H Q=>∃x n,xs=[x]/\Ke X.K x H n/\Q (.int n) H) :=by
 intro pins s σ H xs us Q I r h
 obtain ⟨x,n,rfl,e,q⟩:=h
 obtain ⟨u,rfl,rx⟩:=vals1 r
 have hl:=lr
 have hs:sizeLine=16777216:=UV
 cases x with
 |str y=>
  obtain ⟨t,rfl⟩:=rx
  obtain ⟨hy,e'⟩:y.length<=sizeLine/\n=y.length:=e
  subst e'
  exact len_str (by omega) ⟨.int _,H,I.tok _,⟨_,rfl⟩,q⟩
 |jE y=>
  obtain ⟨t,rfl⟩:=rx
  obtain ⟨hy,e'⟩:y.size<=sizeLine/\n=y.size:=e
  subst e'
  exact PySem.W.len_bytes (by omega) ⟨.int _,H,I.tok _,⟨_,rfl⟩,q⟩
 |ref p=>
  cases rx
  have e':(∃xs,bF X.K H p xs/\n=xs.length)\/∃xs,cI X.K H p xs/\n=xs.length:=e
  rcases e' with ⟨xs,hx,e'⟩|⟨xs,hx,e'⟩
  ·subst e'
   obtain ⟨its,r',pl,hz⟩:=I.list hx
   have hlen:=r'.length
   exact Calls.call_len_list pl.isList (by simp only [db];omega) ⟨.int xs.length,H,I.tok _,⟨_,by simp only [db];rw [hlen]⟩,q⟩
  ·subst e'
   obtain ⟨its,r',pl,hz⟩:=I.tuple hx
   have hlen:=r'.length
   exact len_tuple pl (by simp only [db];omega) ⟨.int xs.length,H,I.tok _,⟨_,by simp only [db];rw [hlen]⟩,q⟩
 |_=>exact (show False from e).elim
end
structure Eb (h:ge) (x dx C:ac) (mA:bn->Option al):Prop where
 obj:h.get? x=some (XB C dx)
 ns:h.Ns1 dx mA
 ne:dx≠x
theorem Bm {h:ge} {dx:ac} {mA:bn->Option al} (n:h.Ns1 dx mA):∃od,h.get? dx=some od/\∀name,PySem.W.lookIn name od=some (mA name) :=by
 obtain ⟨o,es,ep,ho,hd,hk,_,hm⟩:=n
 refine ⟨o,ho,fun name=>?_⟩
 have e:=hm name
 unfold nsFind findBy at e
 rw [<- Array.find?_toList] at e
 unfold PySem.W.lookIn
 rw [hd]
 dsimp only
 split
 ·rename_i y q
  rw [q] at e
  exact congrArg some e
 ·rename_i q
  rw [q] at e
  have a:es.toList.any (·.refKey)=false :=by
   rw [List.any_eq_false]
   intro y hy
   obtain ⟨z,t,zF⟩:=hk y (Array.mem_toList_iff.mp hy)
   simp [VW.refKey,zF]
  have a':¬ es.toList.any (·.refKey)=true :=by rw [a];exact gl
  rw [if_neg a']
  exact congrArg some e
theorem Eb.look {h:ge} {x dx C:ac} {mA:bn->Option al} (I:Eb h x dx C mA):∃od,PySem.W.InstAt h x (XB C dx) C (some od)/\∀name,PySem.W.lookIn name od=some (mA name):=
 let ⟨od,ho,hl⟩:=Bm I.ns
 ⟨od,⟨I.obj,rfl,rfl,ho⟩,hl⟩
theorem jF.some_of {v:V} {o:Option al} (r:jF (some v) o):∃u,o=some u/\RelV v u :=by
 cases o with
 |none=>exact (show False from r).elim
 |some u=>exact ⟨u,rfl,r⟩
section
variable {P:ff} {w:ii} {H H':Hp} {h h':ge} {a C dx:ac} {fs SD:List (bn×V)}
theorem HA (hok:cH P w H h) (e:H a=some (.ins C dx fs)):∃mA,Eb h a dx C mA/\(∀f,jF (fs.lookup f) (mA f))/\PySem.Within mA (fs.map (·.1))/\fs.length<=1000/\H dx=some (.own a) :=by
 obtain ⟨d,z,ne,ob,mA,n,r,q⟩:=(show ObjOk P w H h a (.ins C dx fs) from hok a _ e)
 exact ⟨mA,⟨ob,n,ne⟩,r,q,z,d⟩
end
structure Kf (K:bi) (C:ac):Prop where
 pg:PySem.W.plainGet K C bn.empty=true
 hd:PySem.W.hasDictIn K C=true
 po:PySem.W.plainOver K C=true
 sa:PySem.W.findIn K (.ref C) "__setattr__" = some (some (.builtin "object.__setattr__"))
theorem Kf.get {K:bi} {C:ac} (c:Kf K C) (f:bn):PySem.W.plainGet K C f=true:=c.pg
section
variable {X:Cx} {pins:List (ac×i4)} {σ:St} {H:Hp} {s:ba} {A:ma} {E:al->ba->Prop} {Q:al->ba->Prop} {c:al} {b:Bool}
inductive gA (K:bi) (H:Hp):V->al->Prop where
 |au:gA K H .au (.type "NoneType")
 |bl (x:Bool):gA K H (.bl x) (.type "bool")
 |int (i:Int):gA K H (.int i) (.type "int")
 |str (x:bn):gA K H (.str x) (.type "str")
 |yt (x:UInt64):gA K H (.yt x) (.type "float")
 |lst {a:ac} {xs:List V} (e:H a=some (.lst xs)):gA K H (.ref a) (.type "list")
 |bL {a:ac} {o:i4} {xs:List V} (e:H a=some (.bL o (.lst xs))):gA K H (.ref a) (.type "list")
 |tup {a:ac} {xs:List V} (e:H a=some (.tup xs)):gA K H (.ref a) (.type "tuple")
 |dK {a:ac} {ao:List (Key×V)} (e:H a=some (.dK ao)):gA K H (.ref a) (.type "dict")
 |dT {a:ac} {ao:List (List Key×V)} (e:H a=some (.dT ao)):gA K H (.ref a) (.type "dict")
 |ins {a C dx:ac} {fs:List (bn×V)} (e:H a=some (.ins C dx fs)) (cl:Kf K C) (ha:PySem.W.findIn K (.ref C) "__class__" = some (some (.builtin "object.__class__")))
   (hn:PySem.W.specialIn K (.builtin "object.__class__") "__get__" = some (some (.builtin "getset_descriptor.__get__"))) (PX:PySem.W.takesIn K (.builtin "object.__class__")=some true)
   (hm:PySem.W.mroIn K C (.type "object")=some true):gA K H (.ref a) (.ref C)
theorem Bn {x:V} {u t:al} (I:Inv X pins σ H s) (rx:RelV x u) (ty:gA X.K H x t) (e:WP X.K t c=some b) (h:∀tk,Q (.bool b) {s with toks:=tk}) :
  wpAny (model X.prog X.w) A (call (.builtin "isinstance") [u,c]) Q E s :=by
 cases ty with
 |au=>cases (show u=BN from rx);exact Da PySem.W.kitx_none I.ft Lo e (fun z=>nomatch z) h
 |bl y=>cases (show u=Wv y from rx);exact Da PySem.W.kitx_bool I.ft Lo e (fun z=>nomatch z) h
 |int i=>obtain ⟨t,q⟩:=(show ∃t,u=WW i t from rx);cases q;exact Da PySem.W.kitx_int I.ft Lo e (fun z=>nomatch z) h
 |str y=>obtain ⟨t,q⟩:=(show ∃t,u=Wp y t from rx);cases q;exact Da PySem.W.kitx_str I.ft Lo e (fun z=>nomatch z) h
 |yt y=>obtain ⟨t,q⟩:=(show ∃t,u=al.float y t from rx);cases q;exact Da PySem.W.kitx_float I.ft Lo e (fun z=>nomatch z) h
 | @lst a xs ea=>
  cases (show u=li a from rx)
  obtain ⟨_,_,n,_,h1⟩:=(show ObjOk X.prog X.w H s.heap a (.lst xs) from I.hok a _ ea)
  exact Da PySem.W.kitx_list I.ft ⟨_,h1,rfl⟩ e (fun z=>nomatch z) h
 | @bL a ob xs ea=>
  cases (show u=li a from rx)
  obtain ⟨_,_,_,n,_,h1⟩:=(show ObjOk X.prog X.w H s.heap a (.bL ob (.lst xs)) from I.hok a _ ea)
  exact Da PySem.W.kitx_list I.ft ⟨_,h1,rfl⟩ e (fun z=>nomatch z) h
 | @tup a xs ea=>
  cases (show u=li a from rx)
  obtain ⟨_,_,_,p⟩:=(show ObjOk X.prog X.w H s.heap a (.tup xs) from I.hok a _ ea)
  obtain ⟨o,h1,h2,_⟩:=p
  exact Da PySem.W.kitx_tuple I.ft ⟨o,h1,h2⟩ e (fun z=>nomatch z) h
 | @dK a ao ea=>
  cases (show u=li a from rx)
  obtain ⟨_,_,vs,_,p⟩:=(show ObjOk X.prog X.w H s.heap a (.dK ao) from I.hok a _ ea)
  obtain ⟨o,es,ep,h1,h2,_⟩:=p
  exact Da PySem.W.kitx_dict I.ft ⟨o,h1,h2.1⟩ e (fun z=>nomatch z) h
 | @dT a ao ea=>
  cases (show u=li a from rx)
  obtain ⟨_,_,xs,_,o,es,ep,h1,h2,_⟩:=(show ObjOk X.prog X.w H s.heap a (.dT ao) from I.hok a _ ea)
  exact Da PySem.W.kitx_dict I.ft ⟨o,h1,h2.1⟩ e (fun z=>nomatch z) h
 | @ins a C dx fs ea cl ha hn PX hm=>
  cases (show u=li a from rx)
  obtain ⟨mA,O,_⟩:=HA I.hok ea
  obtain ⟨od,J,_⟩:=O.look
  exact Da (PySem.W.kitx_own (cl.get _) cl.hd ha hn PX hm) I.ft J e (fun z=>nomatch z) h
end
structure bB (k:Nat) (A:ma):Prop where
 hd:A.handled=none
 dp:A.depth+3 * k+5<recursionLimit
 un:A.units+16 * k+200<cLine
theorem bB.mono {j k:Nat} {A:ma} (r:bB k A) (h:j<=k):bB j A:=⟨r.hd,by have:=r.dp;omega,by have:=r.un;omega⟩
theorem bB.deeper {k:Nat} {A:ma} (r:bB (k+1) A) (env:IR):bB k (A.deeper env):=
 ⟨r.hd,by have:=r.dp;show A.depth+1+3 * k+5<_;omega,by have:=r.un;show A.units+3+16 * k+200<_;omega⟩
theorem bB.depth {k:Nat} {A:ma} (r:bB k A):A.depth<recursionLimit :=by have:=r.dp;omega
theorem bB.units {k:Nat} {A:ma} (r:bB k A):A.units+64<cLine :=by have:=r.un;omega
def Rk:TA:=fun _ H Q=>Q [] H
def Oq (ta:TE) (tr:TA):TA:=fun σ H Q=>ta σ H fun x H1=>tr σ H1 fun xs H2=>Q (x::xs) H2
section
variable {X:Cx} {e:dL} {es:List dL} {te:TE} {t:TA} {pos:wn}
theorem Kg:PA X [] Rk:=⟨fun _ _ _ _ H Q I h=>NO ⟨[],H,I,.nil,h⟩⟩
theorem oz (ha:PE X e te) (hr:PA X es t) (hs:starEach (e::es) X.env=(false,eval e X.env)::starEach es X.env :=by rfl):PA X (e::es) (Oq te t) :=by
 refine ⟨?_⟩
 intro pos pins s σ H Q I h
 rw [hs]
 show wpAny _ _ (spliced ((false,eval e X.env)::backTo pos (starEach es X.env))) _ _ s
 refine Nd (thn (ha pins s σ H _ I h) fun u s1 ⟨x,H1,I1,r1,q1⟩=>?_)
 exact thn (hr pos pins s1 σ H1 _ I1 q1) fun us s2 ⟨xs,H2,I2,r2,q2⟩=>⟨x::xs,H2,I2,.cons r1 r2,q2⟩
def Rm (t:TA):TE:=fun σ H Q=>t σ H fun xs H1=>xs.length<=sizeLine/\∀p,H1 p=none->Q (.ref p) (upd H1 p (.tup xs))
def Rn (t:TA):TE:=fun σ H Q=>t σ H fun xs H1=>xs.length<=sizeLine/\∀p,H1 p=none->Q (.ref p) (upd H1 p (.lst xs))
theorem Kh {x1} (h:PA X es t):PE X (.Tuple es x1 pos) (Rm t) :=by
 refine ⟨?_⟩
 intro pins s σ H Q I hq
 refine wpAny_Tuple_spliced (thn (h pos pins s σ H _ I hq) fun us s1 ⟨xs,H1,I1,r,z,q⟩=>⟨by rw [<- r.length];exact z,?_⟩)
 have hf:H1 s1.heap.objs.size=none:=I1.hok.fresh (cr _)
 refine ⟨.ref s1.heap.objs.size,upd H1 s1.heap.objs.size (.tup xs),I1.laid (t':=s1.toks) (fun b u e=>cb _ e) (cr _) ?_,rfl,q _ hf⟩
 exact ⟨z,us,r,⟨_,f8 _ rfl,rfl,_,rfl,rfl⟩⟩
theorem Bo (h:PA X es t):PE X (.List es pos) (Rn t) :=by
 refine ⟨?_⟩
 intro pins s σ H Q I hq
 refine wpAny_List_spliced (thn (h pos pins s σ H _ I hq) fun us s1 ⟨xs,H1,I1,r,z,q⟩=>⟨by rw [<- r.length];exact z,?_⟩)
 have hf:H1 s1.heap.objs.size=none:=I1.hok.fresh (cr _)
 refine ⟨.ref s1.heap.objs.size,upd H1 s1.heap.objs.size (.lst xs),I1.laid (t':=s1.toks) (fun b u e=>cb _ e) (cr _) ?_,rfl,q _ hf⟩
 exact ⟨z,us,0,r,f8 _ rfl⟩
end
abbrev Sp:=List V->Hp->VK->XK->Prop
abbrev gK:=List IR->Hp->ba->XK->al->ba->Prop
structure sh (P:ff) (w:ii) (K:bi) (mg:bn->Option al) (base:ge) (A:ma) (outer:List IR) (s:ba) (H:Hp):Prop where
 frames:A.frames=some outer
 mod:Mod K mg base
 bs:∀b o,base.get? b=some o->s.heap.get? b=some o/\H b=none
 bsz:base.objs.size<=s.heap.objs.size
 funs:s.heap.FunFrames base outer
 frf:∀b∈dQ outer,H b=none
 hok:cH P w H s.heap
 bare:XJ s.gens
def CE (outer:List IR) (P:ff) (w:ii) (H:Hp) (s:ba) (Q:VK) (u:al) (s':ba):Prop:=
 ∃v H',s'.os=s.os/\Gn s.gens.size s'.gens/\Un (dQ outer) [] H H' s.heap s'.heap/\cH P w H' s'.heap/\RelV v u/\Q v H'
def CR (CX:gK) (outer:List IR) (P:ff) (w:ii) (H:Hp) (s:ba) (Q:VK) (E:XK) (r:Wz) (s':ba):Prop:=
 match r with
 | .ok (.ret u)=>CE outer P w H s Q u s'
 | .ok _=>False
 | .error e=>CX outer H s E e s'
structure FnOk (P:ff) (w:ii) (K:bi) (mg:bn->Option al) (base:ge) (CX:gK) (k:Nat) (f:ac) (fd:l5) (ps:List bn) (sp:Sp):Prop where
 len:∀vs H Q E,sp vs H Q E->vs.length=ps.length
 run:∀(A:ma) (outer:List IR) (s:ba) (H:Hp) (args:Args) (us:List al) (vs:List V) (Q:VK) (E:XK),bB k A->sh P w K mg base A outer s H->Xr s fd args (ps.zip us)->Vals vs us->sp vs H Q E->
  codeAny (model P w) A (.call (.ref f) args) (CR CX outer P w H s Q E) s
theorem FnOk.mono {P:ff} {w:ii} {K:bi} {mg:bn->Option al} {base:ge} {CX:gK} {j k:Nat} {f:ac} {fd:l5} {ps:List bn} {sp:Sp} (F:FnOk P w K mg base CX j f fd ps sp) (h:j<=k) :
  FnOk P w K mg base CX k f fd ps sp:=⟨F.len,fun A outer s H args us vs Q E hr=>F.run A outer s H args us vs Q E (hr.mono h)⟩
theorem FnOk.imp {P:ff} {w:ii} {K:bi} {mg:bn->Option al} {base:ge} {CX:gK} {k:Nat} {f:ac} {fd:l5} {ps:List bn} {sp PY:Sp} (F:FnOk P w K mg base CX k f fd ps sp)
  (h:∀vs H Q E,PY vs H Q E->sp vs H Q E):FnOk P w K mg base CX k f fd ps PY:=
 ⟨fun vs H Q E q=>F.len vs H Q E (h _ _ _ _ q),fun A outer s H args us vs Q E hr he hb hv hs=>F.run A outer s H args us vs Q E hr he hb hv (h _ _ _ _ hs)⟩
section
variable {X:Cx} {pins:List (ac×i4)} {σ:St} {H:Hp} {s s':ba}
theorem Inv.Ro (I:Inv X pins σ H s):sh X.prog X.w X.K X.mg X.base X.A X.stack s H:=
 ⟨I.ok.frames,I.ok.mod,I.bs,wv I.ok.bsz I.sz,I.stack,I.lj,I.hok,I.bare.1⟩
theorem Inv.after {Q:VK} {u:al} (I:Inv X pins σ H s) (h:CE X.stack X.prog X.w H s Q u s'):EP X pins σ Q u s':=by
 obtain ⟨v,H',os,bare,un,hok,r,q⟩:=h
 obtain ⟨hh,g,d,t,F6⟩:=s'
 obtain rfl:F6=s.os:=os
 exact ⟨v,H',I.call (h':=hh) (g':=g) (d':=d) (t':=t) (ch:=[]) un hok bare (fun b z=>absurd z (by simp)),r,q⟩
end
def F7 (sp:Sp) (f9:List V) (E:XK) (t:TA):TE:=fun σ H Q=>t σ H fun vs H1=>sp (vs++f9) H1 Q E
def Binds (K:bi) (fd:l5) (ps:List bn) (ds:List al):Prop:=
 ∀(s:ba) (us:List al),K.In s.heap->(us++ds).length=ps.length->Xr s fd ⟨us,[]⟩ (ps.zip (us++ds))
theorem Binds.all {K:bi} {fd:l5} {ps:List bn} (h:∀us:List al,us.length=ps.length->bindArgs fd ⟨us,[]⟩=pure (ps.zip us)):Binds K fd ps []:=fun s us _ hl=>by
 rw [Fa] at hl ⊢
 exact .of_eq (h us hl)
def Passes (CX:gK) (X:Cx) (E:XK):Prop:=∀(pins:List (ac×i4)) (σ:St) (H:Hp) (s:ba) (e:al) (s':ba),Inv X pins σ H s->CX X.stack H s E e s'->X.xe e s'
section
variable {X:Cx} {CX:gK} {k:Nat} {f C:ac} {fd:l5} {ps:List bn} {sp:Sp} {f9:List V} {ds:List al} {E:XK} {x m:bn} {p pos apos:wn} {e o:dL} {es:List dL} {ta:TE} {t:TA}
theorem Bp {pins:List (ac×i4)} {σ:St} {H:Hp} {s:ba} {Q:VK} {us:List al} {vs:List V} (F:FnOk X.prog X.w X.K X.mg X.base CX k f fd ps sp) (hr:bB k X.A) (hb:Binds X.K fd ps ds) (hd:Vals f9 ds) (hx:Passes CX X E)
  (I:Inv X pins σ H s) (r:Vals vs us) (h:sp (vs++f9) H Q E):wpAny (model X.prog X.w) X.A (call (.ref f) us) (EP X pins σ Q) X.xe s :=by
 have r2:Vals (vs++f9) (us++ds):=r.append hd
 have hl:(us++ds).length=ps.length :=by rw [<- r2.length];exact F.len _ _ _ _ h
 refine Xm (VY (F.run X.A X.stack s H ⟨us,[]⟩ (us++ds) (vs++f9) Q E hr I.Ro (hb s us I.ft hl) r2 h) fun r s' hq=>?_)
 cases r with
 |error e=>exact hx pins σ H s e s' I hq
 |ok fl=>
  cases fl with
  |ret u=>exact I.after hq
  |next=>exact EU hq
  |brk=>exact EU hq
  |cont=>exact EU hq
theorem HB (F:FnOk X.prog X.w X.K X.mg X.base CX k f fd ps sp) (hr:bB k X.A) (hg:Gl X x) (hm:X.mg x=some (.ref f)) (hk:Co X.K (.ref f)=true) (hb:Binds X.K fd ps ds) (hd:Vals f9 ds) (hx:Passes CX X E)
  (ha:PA X (e::es) t) (dS:(x==("__debug__" : bn))=false :=by decide) (he:starEach (e::es) X.env=(false,eval e X.env)::starEach es X.env :=by rfl) (c9:(backTo pos (starEach es X.env)).any (·.1)=false :=by rfl) :
  PE X (.Call (.Name x p) (e::es) [] pos) (F7 sp f9 E t) :=by
 refine ⟨?_⟩
 intro pins s σ H Q I h
 refine Do (ll I hg hm ?_ dS)
 refine PySem.W.callWith_K (h₀:=X.base) I.ok.mod.kin hk (thn (ha pos pins s σ H _ I h) fun us s1 ⟨vs,H1,I1,r,q⟩=>⟨I1.ft,?_⟩) he c9
 exact Bp F hr hb hd hx I1 r q
end
structure aN (N P:List bn) (sc:u8):Prop where
 kind:sc.kind=.function
 co:sc.isCoroutine=false
 gen:sc.isGenerator=false
 nd:N.Nodup
 pre:N.take P.length=P
 par:∀x∈P,sc.names.lookup x=some .local\/sc.names.lookup x=some .cell
 nofree:∀y∈sc.names,y.2≠.free
theorem tH {kindOf:bn->Option ON} {x:bn}:∀{binds:List (bn×al)} {m:bn->Option al},(∀v,(x,v) ∉ binds)->bindL kindOf binds m x=m x
 | [],_,_=>rfl
 |(n,v)::r,m,h=>by
          unfold bindL
          rw [tH fun w hw=>h w (im _ hw)]
          split
          ·have:x≠n :=by rintro rfl;exact h v l9
           simp [this]
          ·rfl
theorem tI {kindOf:bn->Option ON} {x:bn}:∀{binds:List (bn×al)} {m:bn->Option al},(∀v,(x,v) ∉ binds)->bindC kindOf binds m x=m x
 | [],_,_=>rfl
 |(n,v)::r,m,h=>by
          unfold bindC
          rw [tI fun w hw=>h w (im _ hw)]
          split
          ·rfl
          ·have:x≠n :=by rintro rfl;exact h v l9
           simp [this]
theorem tJ {kindOf:bn->Option ON} {x:bn} {v:al}:∀{P:List bn} {vs:List al} {i:Nat} {m:bn->Option al},P.Nodup->P[i]?=some x->vs[i]?=some v->kindOf x=some .local->
  bindL kindOf (P.zip vs) m x=some v
 | [],_,_,_,_,h,_,_=>by simp at h
 |_::_,[],_,_,_,_,h,_=>by simp at h
 |p::P,w::vs,0,m,nd,h1,h2,hk=>by
          simp at h1 h2;subst h1;subst h2
          show bindL kindOf ((p,w)::P.zip vs) m p=_
          unfold bindL
          rw [tH fun v hv=>(NJ.mp nd).1 (PP hv).1,if_pos hk]
          simp
 |p::P,w::vs,i+1,m,nd,h1,h2,hk=>by
          show bindL kindOf ((p,w)::P.zip vs) m x=_
          unfold bindL
          exact tJ (i:=i) (NJ.mp nd).2 (by simpa using h1) (by simpa using h2) hk
theorem tK {kindOf:bn->Option ON} {x:bn} {v:al}:∀{P:List bn} {vs:List al} {i:Nat} {m:bn->Option al},P.Nodup->P[i]?=some x->vs[i]?=some v->kindOf x≠some .local->
  bindC kindOf (P.zip vs) m x=some v
 | [],_,_,_,_,h,_,_=>by simp at h
 |_::_,[],_,_,_,_,h,_=>by simp at h
 |p::P,w::vs,0,m,nd,h1,h2,hk=>by
          simp at h1 h2;subst h1;subst h2
          show bindC kindOf ((p,w)::P.zip vs) m p=_
          unfold bindC
          rw [tI fun v hv=>(NJ.mp nd).1 (PP hv).1,if_neg hk]
          simp
 |p::P,w::vs,i+1,m,nd,h1,h2,hk=>by
          show bindC kindOf ((p,w)::P.zip vs) m x=_
          unfold bindC
          exact tK (i:=i) (NJ.mp nd).2 (by simpa using h1) (by simpa using h2) hk
def start (N:List bn) (vs:List V):St:=vs.map some++io (N.length - vs.length) none
def fW (CX:gK) (P:ff) (w:ii) (K:bi) (mg:bn->Option al) (base:ge) (N:List bn) (qual:bn) (scope:u8) (f:ac) (cd:al) (A:ma) (outer:List IR) (s:ba) (H:Hp) (E:XK):Cx where
 prog:=P
 w:=w
 K:=K
 mg:=mg
 base:=base
 A:=A.deeper (envOfC qual scope s.heap.objs.size f cd)
 N:=N
 s₀:=s
 H₀:=H
 env:=envOfC qual scope s.heap.objs.size f cd
 outer:=outer
 stack:=envOfC qual scope s.heap.objs.size f cd::outer
 ex:=[]
 calm:=true
 fn:=fun _=>true
 pn:=[]
 xe:=fun e s'=>wpAny (model P w) (A.deeper (envOfC qual scope s.heap.objs.size f cd)) (leaving (envOfC qual scope s.heap.objs.size f cd) e) (fun _ bh=>CX outer H s E e bh) (fun e' bh=>CX outer H s E e' bh) s'
theorem vk {sc:u8} {n:Nat} {x:bn} (h:sc.names.lookup x=some .cell):∃c,(cellsFrom n sc.names []).lookup x=some c :=by
 have q:=PySem.W.cellsFrom_some sc.names n [] (.inl h)
 exact Option.isSome_iff_exists.mp q
theorem Bq {CX:gK} {P:ff} {w:ii} {K:bi} {mg:bn->Option al} {base:ge} {N ps:List bn} {qual:bn} {scope:u8} {f:ac} {cd:al} {A:ma} {outer:List IR} {s s1:ba} {H:Hp} {E:XK} {us:List al} {vs:List V}
  (S:aN N ps scope) (hd:A.handled=none) (e0:sh P w K mg base A outer s H) (hl:vs.length=ps.length) (r:Vals vs us)
  (x:InCallC s s.heap.objs.size (bindL (envOfC qual scope s.heap.objs.size f cd).kindOf (ps.zip us) fun _=>none) (cellsFrom (s.heap.objs.size+1) scope.names []) (bindC (envOfC qual scope s.heap.objs.size f cd).kindOf (ps.zip us) fun _=>none) s1) :
  Inv (fW CX P w K mg base N qual scope f cd A outer s H E) [] (start N vs) H s1 :=by
 have c9:ps.length<=N.length :=by have:=congrArg List.length S.pre;rw [Wk] at this;omega
 obtain ⟨h1,tk,rfl,hk⟩:=x.done
 have Ki:∀b:ac,b ∉ (fW CX P w K mg base N qual scope f cd A outer s H E).ex:=fun b z=>absurd (show b∈([]:List ac) from z) (by simp)
 refine ⟨⟨e0.mod,S.kind,rfl,rfl,cr _,fun y z c h1 h2=>?_,fun y hy=>?_,fun y c _ h=>?_,fun _=>hd,ma.frames_deeper e0.frames,.inr ⟨rfl,rfl⟩,fun b z=>absurd z (Ki b),e0.bs,e0.bsz,fun b _ _=>Ki b,fun b z=>absurd z (Ki b),e0.funs,e0.frf⟩,
  rfl,⟨e0.bare,cr _⟩,Un.kept hk,⟨_,x.toInCall.ns,fun i y v h1 h2 h3=>?_⟩,fun y c h=>⟨_,x.cell y c h⟩,e0.hok.fresh (cr _),fun y c h=>?_,fun p hp=>absurd (show p∈([]:List (ac×i4)) from hp) (by simp),e0.hok.kept hk,?_⟩
 ·exact name_of_addr x.apart (wp h1) (wp h2)
 ·have hy:scope.names.lookup y=some .cell\/scope.names.lookup y=some .free:=hy
  rcases hy with hy|hy
  ·exact vk hy
  ·exact absurd rfl (S.nofree _ (wp hy))
 ·exact Na (x.above y c (wp h))
 ·have hi:i<vs.length :=by
   unfold start at h2
   by_cases hi:i<vs.length
   ·exact hi
   ·rw [sK (by simpa using hi)] at h2
    rw [AS] at h2
    split at h2 <;> cases h2
  have ha:vs[i]?=some v :=by
   unfold start at h2
   rw [rf (by simpa using hi),ce] at h2
   cases e:vs[i]? with
   |none=>rw [e] at h2;cases h2
   |some a=>rw [e] at h2;cases h2;rfl
  obtain ⟨u,hu,rv⟩:=r.get ha
  have hp:ps[i]?=some y :=by
   rw [<- S.pre,List.getElem?_take_of_lt (by omega)];exact h1
  have PZ:ps.Nodup :=by rw [<- S.pre];exact S.nd.sublist (List.take_sublist _ _)
  refine ⟨u,rv,?_⟩
  rcases S.par y (gc hp) with k|k
  ·exact .inl ⟨k,tJ PZ hp hu k⟩
  ·obtain ⟨c,e⟩:=vk (n:=s.heap.objs.size+1) k
   refine .inr ⟨.inl k,c,e,?_⟩
   have q:=x.cell y c e
   rw [tK PZ hp hu (by show scope.names.lookup y≠_;rw [k];decide)] at q
   exact q
 ·exact e0.hok.fresh (Na (x.above y c (wp h)))
 ·unfold start
  show _=N.length
  rw [ul,c8,FF]
  omega
theorem zG {CX:gK} {P:ff} {w:ii} {K:bi} {mg:bn->Option al} {base:ge} {k:Nat} {f:ac} {name qual:bn} {params:MW} {body:List r6} {scope:u8} {dV kV doc pm cJ ct oc:al} {an od:Option ac}
  {iN:Array (Option al)} {N ps:List bn} {sp:Sp} (lk:K.lookup f=some ⟨oc,od,.func (zn name qual params body scope dV kV doc pm an cJ ct),iN⟩) (dR:IS K cJ qual=true) (S:aN N ps scope)
  (len:∀vs H Q E,sp vs H Q E->vs.length=ps.length)
  (lY:∀(A:ma) (outer:List IR) (s:ba) (H:Hp) (vs:List V) (Q:VK) (E:XK),bB k (A.deeper (envOfC qual scope s.heap.objs.size f cJ))->sp vs H Q E->
   ∃t,fT (fW CX P w K mg base N qual scope f cJ A outer s H E) body t/\t {nx:=fun _ H'=>Q .au H',rt:=Q} (start N vs) H) :
  FnOk P w K mg base CX (k+1) f (zn name qual params body scope dV kV doc pm an cJ ct) ps sp :=by
 refine ⟨len,fun A outer s H args us vs Q E hr e0 hb r kz=>?_⟩
 have hl:=len _ _ _ _ kz
 have KX:K.In s.heap:=e0.mod.kin.keeps fun b o e=>(e0.bs b o e).1
 have lim:s.heap.NoLimit:=e0.mod.nolimit.keeps fun b o e=>(e0.bs b o e).1
 have oA:∀y∈ps.zip us,scope.names.lookup y.1=some .local\/(scope.names.lookup y.1=some .cell/\((cellsFrom (s.heap.objs.size+1) scope.names []).lookup y.1).isSome=true):=fun ⟨n,v⟩ hy=>by
  rcases S.par n (PP hy).1 with q|q
  ·exact .inl q
  ·exact .inr ⟨q,PySem.W.cellsFrom_some _ _ _ (.inl q)⟩
 refine codeAny_call_function hr.depth (KX _ _ lk) rfl S.co S.gen rfl (PySem.W.codeRec_of KX dR) (hb _ _ _ _ ?_)
 refine wpAny_newFunctionEnv_cells S.kind oA fun env he s1 x=>?_
 subst he
 refine ⟨lim.keeps x.toInCall.keep,codeAny_func ?_⟩
 obtain ⟨t,ht,hq⟩:=lY A outer s H vs Q E (hr.deeper _) kz
 have I:Inv (fW CX P w K mg base N qual scope f cJ A outer s H E) [] (start N vs) H s1:=Bq S hr.hd e0 hl r x
 refine l7 (ht [] s1 (start N vs) H _ I hq) (fun fl s' hs=>?_) fun e s' hs=>hs
 have fin:∀{aF:St} {H':Hp} {v:V} {u:al},Inv (fW CX P w K mg base N qual scope f cJ A outer s H E) [] aF H' s'->RelV v u->Q v H'->CE outer P w H s Q u s':=
  fun {aF H' v u} J rv q=>⟨v,H',J.os,J.bare,J.base,J.hok,rv,q⟩
 cases fl with
 |ret u=>
  obtain ⟨v,aF,H',J,rv,q⟩:=hs
  exact fin J rv q
 |next=>
  obtain ⟨aF,H',J,q⟩:=hs
  exact fin (v:=V.au) (u:=BN) J rfl q
 |brk=>
  obtain ⟨_,_,_,q⟩:=hs
  exact EU q
 |cont=>
  obtain ⟨_,_,_,q⟩:=hs
  exact EU q
section
variable {X:Cx} {x:bn} {p pos:wn} {e:dL} {es:List dL} {t:TA} {id T:String} {r:List V->Hp->VK->Prop}
def Kj (r:List V->Hp->VK->Prop) (t:TA):TE:=fun σ H Q=>t σ H fun vs H1=>r vs H1 Q
theorem Ec (hc:cL X (.builtin id) r) (hg:Gl X x) (hm:X.mg x=none) (hv:bootBuiltins x=some (.builtin id)) (ha:PA X (e::es) t) (hn:x ≠ "__name__" := by decide) (dS:(x==("__debug__" : bn))=false :=by decide)
  (he:starEach (e::es) X.env=(false,eval e X.env)::starEach es X.env :=by rfl) (c9:(backTo pos (starEach es X.env)).any (·.1)=false :=by rfl):PE X (.Call (.Name x p) (e::es) [] pos) (Kj r t) :=by
 refine ⟨?_⟩
 intro pins s σ H Q I h
 refine Do (f6 I hg hm hv ?_ hn dS)
 exact PyProof.Rows.callWith_builtin1 (thn (ha pos pins s σ H _ I h) fun us s1 ⟨vs,H1,I1,r1,q1⟩=>hc pins s1 σ H1 vs us Q I1 r1 q1) he c9
theorem Br (hc:cL X (.type T) r) (hg:Gl X x) (hm:X.mg x=none) (hv:bootBuiltins x=some (.type T)) (ha:PA X (e::es) t) (hn:x ≠ "__name__" := by decide) (dS:(x==("__debug__" : bn))=false :=by decide)
  (he:starEach (e::es) X.env=(false,eval e X.env)::starEach es X.env :=by rfl) (c9:(backTo pos (starEach es X.env)).any (·.1)=false :=by rfl):PE X (.Call (.Name x p) (e::es) [] pos) (Kj r t) :=by
 refine ⟨?_⟩
 intro pins s σ H Q I h
 refine Do (f6 I hg hm hv ?_ hn dS)
 exact AN (thn (ha pos pins s σ H _ I h) fun us s1 ⟨vs,H1,I1,r1,q1⟩=>hc pins s1 σ H1 vs us Q I1 r1 q1) he c9
end
end L2
namespace HT
open PySem PyProof.Rows
section
variable {prog:ff} {w:ii} {A:ma} {E:al->ba->Prop} {s:ba}
def jL (n d:Nat):Option Int->Nat
 |none=>d
 |some v=>if v<0 then (v+(n:Int)).toNat else min v.toNat n
end
end HT
namespace L2
open PySem PySem.Spec PyProof.Rows
abbrev TO:=St->Hp->(Option Int->Hp->Prop)->Prop
section
variable {X:Cx} {e:dL} {te:TE} {lo hi:Option dL} {tl th:TO} {pos p2:wn}
def SK (X:Cx) (r:V->Option Int->Option Int->Hp->VK->Prop):Prop:=
 ∀(pins:List (ac×i4)) (s:ba) (σ:St) (H:Hp) (x:V) (v vl vu:al) (lo hi:Option Int) (sl:ac) (Q:VK),Inv X pins σ H s->RelV x v->s.heap.IsSliceOf sl vl vu .none->IsPart vl lo->IsPart vu hi->r x lo hi H Q->
  ∃T id,typeLookup (.type T) "__getitem__" = pure (some (.builtin id))/\s.TypeIs v T/\wpAny (model X.prog X.w) X.A (getItem v (.ref sl)) (EP X pins σ Q) X.xe s
def zH (xs:List V) (lo hi:Option Int):List V:=(xs.drop (HT.jL xs.length 0 lo)).take (HT.jL xs.length xs.length hi - HT.jL xs.length 0 lo)
theorem xM (xs:List V) (lo hi:Option Int):(zH xs lo hi).length<=xs.length :=by
 unfold zH
 rw [Wk,Xt]
 omega
theorem Vals.HC {xs:List V} {us:List al} (r:Vals xs us):us=[] ↔ xs=[] :=by
 cases r with
 |nil=>simp
 |cons _ _=>simp
end
def fu (n:Nat) (i:Int):Option Nat:=if 0<=i then (if i<n then some i.toNat else none) else if -(n:Int)<=i then some (i+n).toNat else none
def b5 {α:Type} (xs:List α) (i:Int):Option α:=(fu xs.length i).bind fun j=>xs[j]?
theorem si {n:Nat} {i:Int} {j:Nat} (h:fu n i=some j):seqIndex? i n=some j/\j<n /\ -(n:Int)<=i/\i<n :=by
 unfold fu at h
 by_cases h0:0<=i
 ·rw [if_pos h0] at h
  by_cases h1:i<n
  ·rw [if_pos h1] at h
   have e:i.toNat=j:=ij h
   exact ⟨by rw [seqIndex_of h0 h1,e],by omega,by omega,h1⟩
  ·rw [if_neg h1] at h;cases h
 ·rw [if_neg h0] at h
  by_cases h1 : -(n:Int)<=i
  ·rw [if_pos h1] at h
   have e:(i+n).toNat=j:=ij h
   exact ⟨by rw [seqIndex_neg (by omega) h1,e],by omega,h1,by omega⟩
  ·rw [if_neg h1] at h;cases h
theorem sj {α:Type} {xs:List α} {i:Int} {v:α} (h:b5 xs i=some v):∃j,seqIndex? i xs.length=some j/\xs[j]?=some v/\j<xs.length /\ -(xs.length:Int)<=i/\i<xs.length :=by
 unfold b5 at h
 cases e:fu xs.length i with
 |none=>rw [e] at h;cases h
 |some j=>
  rw [e] at h
  obtain ⟨h1,h2,h3,h4⟩:=si e
  exact ⟨j,h1,h,h2,h3,h4⟩
theorem b6 {α:Type} {xs:List α} {j:Nat} {v:α} (h:xs[j]?=some v):b5 xs (j:Int)=some v :=by
 have hj:j<xs.length:=(br.mp h).1
 have e:fu xs.length (j:Int)=some j :=by
  unfold fu
  rw [if_pos (by omega),if_pos (by omega)];simp
 unfold b5;rw [e];exact h
def yC (b:dL):Prop:=∀o i,subscripted b false o i=operate [o,i] (getItem o i)
def nh (X:Cx) (r:R2):Prop:=
 ∀(value slice:dL) (pins:List (ac×i4)) (s:ba) (σ:St) (H:Hp) (x y:V) (v u:al) (Q:VK),Inv X pins σ H s->RelV x v->RelV y u->r x y H Q->
  subscripted slice false v u=operate [v,u] (getItem v u)->wpAny (model X.prog X.w) X.A (subscriptTail value slice v u) (EP X pins σ Q) X.xe s
def Kk (X:Cx) (id:String) (r:V->List V->Hp->VK->Prop):Prop:=
 ∀(pins:List (ac×i4)) (s:ba) (σ:St) (H:Hp) (x:V) (xs:List V) (v:al) (us:List al) (Q:VK),Inv X pins σ H s->RelV x v->Vals xs us->r x xs H Q->
  wpAny (model X.prog X.w) X.A (call (.builtin id) (v::us)) (EP X pins σ Q) X.xe s
section
variable {X:Cx} {a b:dL} {ta tb:TE} {pos:wn}
theorem nh.or {r r':R2} (h:nh X r) (h':nh X r'):nh X (fun x y H Q=>r x y H Q\/r' x y H Q) :=by
 intro value slice pins s σ H x y v u Q I rx ry q hs
 rcases q with q|q
 ·exact h value slice pins s σ H x y v u Q I rx ry q hs
 ·exact h' value slice pins s σ H x y v u Q I rx ry q hs
theorem Ot {r:R2} (hr:nh X r) (ha:PE X a ta) (hb:PE X b tb) (hs:yC b):PE X (.Subscript a b pos) (Bh r ta tb) :=by
 refine ⟨?_⟩
 intro pins s σ H Q I h
 exact Subscript_ (D2 ha hb I h fun v u s2 x y H2 I2 rx ry q=>hr a b pins s2 σ H2 x y v u Q I2 rx ry q (hs _ _))
def Km (K:bi):R2:=fun x y H Q=>∃p xs i v,x=.ref p/\y=.int i/\bF K H p xs/\b5 xs i=some v/\Q v H
def Kn (K:bi):R2:=fun x y H Q=>∃p xs i v,x=.ref p/\y=.int i/\cI K H p xs/\b5 xs i=some v/\Q v H
def Ko:R2:=fun x y H Q=>∃z i c,x=.str z/\y=.int i/\z.length<=sizeLine/\b5 z.cps.toList i=some c/\Q (.str ⟨#[c]⟩) H
theorem HD:nh X (Km X.K) :=by
 intro value slice pins s σ H x y v u Q I rx ry h hs
 obtain ⟨p,xs,i,z,rfl,rfl,hq,he,q⟩:=h
 cases rx
 obtain ⟨t,rfl⟩:=ry
 obtain ⟨its,r,pl,hz⟩:=I.list hq
 obtain ⟨j,h1,h2,h3,h4,h5⟩:=sj he
 obtain ⟨w,ew,jI⟩:=r.get h2
 have hl:=r.length
 have hn:=lr
 have fin:EP X pins σ Q w s:=⟨z,H,I,jI,q⟩
 by_cases h0:0<=i
 ·have hj:i.toNat=j :=by
   rw [seqIndex_of h0 h5] at h1
   exact ij h1
  exact item_listR pl.isList h0 (by omega) (by rw [hj];simpa using ew) fin hs
 ·have hj:(i+(its.toArray.size:Int)).toNat=j :=by
   rw [seqIndex_neg (by omega) h4] at h1
   rw [db,<- hl]
   exact ij h1
  exact subscriptTail_builtinR (x:=w) pl.isList.typeIs slot_list_getitem.lookup
   (wpAny_getItem_list_neg (Q:=fun r s'=>r=w/\EP X pins σ Q r s') pl.isList (by omega) (by rw [db] <;> omega) (by omega) (by rw [hj];simpa using ew) ⟨rfl,fin⟩) hs
theorem Kp:nh X (Kn X.K) :=by
 intro value slice pins s σ H x y v u Q I rx ry h hs
 obtain ⟨p,xs,i,z,rfl,rfl,hq,he,q⟩:=h
 cases rx
 obtain ⟨t,rfl⟩:=ry
 obtain ⟨its,r,pl,hz⟩:=I.tuple hq
 obtain ⟨j,h1,h2,h3,h4,h5⟩:=sj he
 obtain ⟨w,ew,jI⟩:=r.get h2
 have hl:=r.length
 have hn:=lr
 have fin:EP X pins σ Q w s:=⟨z,H,I,jI,q⟩
 exact subscriptTail_builtinR (x:=w) pl.typeIs slot_tuple_getitem.lookup
  (getItem_tuple (j:=j) (Q:=fun r s'=>r=w/\EP X pins σ Q r s') pl (by omega) (by omega) (by rw [db,<- hl];exact h1) (by simpa using ew) ⟨rfl,fin⟩) hs
theorem Kq:nh X Ko :=by
 intro value slice pins s σ H x y v u Q I rx ry h hs
 obtain ⟨z,i,c,rfl,rfl,hz,he,q⟩:=h
 obtain ⟨t,rfl⟩:=rx
 obtain ⟨t',rfl⟩:=ry
 obtain ⟨j,h1,h2,h3,h4,h5⟩:=sj he
 have hl:z.cps.toList.length=z.length :=by simp [bn.length]
 rw [hl] at h1 h4 h5
 have hn:=lr
 exact tail_any (typeIs_str s z t) slot_str_getitem.lookup (getItem_str (c:=c) (by
  have e1:decide (i < -(2 ^ 63:Int))=false:=decide_eq_false (by omega)
  have e2:decide (i ≥ 2 ^ 63)=false:=decide_eq_false (by omega)
  rw [e1,e2,Bool.or_false]) (by rw [h1];simpa using h2) ⟨.str ⟨#[c]⟩,H,I.tok _,⟨_,rfl⟩,q⟩) hs
def P0 (K:bi):R2:=fun x y H Q=>Km K x y H Q\/Kn K x y H Q\/Ko x y H Q
theorem Kr:nh X (P0 X.K):=HD.or (Kp.or Kq)
theorem zI (its:List al) (n j:Nat) (u:al):Me (·.setIfInBounds j u) {cls:=.type "list",data:=.seq its.toArray n}={cls:=.type "list",data:=.seq (its.set j u).toArray n}:=by
 simp [Me]
theorem Inv.lst {pins:List (ac×i4)} {σ:St} {H:Hp} {s:ba} {p:ac} {xs:List V} (I:Inv X pins σ H s) (h:H p=some (.lst xs)) :
  ∃(its:List al) (n:Nat),Vals xs its/\s.heap.get? p=some {cls:=.type "list",data:=.seq its.toArray n}/\xs.length<=sizeLine :=by
 obtain ⟨z,its,n,r,e⟩:=I.hok p _ h
 exact ⟨its,n,r,e,z⟩
theorem Inv.Ks {pins:List (ac×i4)} {σ:St} {H:Hp} {s:ba} {p:ac} {xs ys:List V} {its its':List al} {n n':Nat} {f:i4->i4} (I:Inv X pins σ H s) (h:H p=some (.lst xs))
  (ho:s.heap.get? p=some {cls:=.type "list",data:=.seq its.toArray n}) (hf:f {cls:=.type "list",data:=.seq its.toArray n}={cls:=.type "list",data:=.seq its'.toArray n'}) (r:Vals ys its') (hz:ys.length<=sizeLine) (t:Nat) :
  Inv X pins σ (upd H p (.lst ys)) {s with heap:=s.heap.update p f,toks:=t}:=by
 have e:(s.heap.update p f).get? p=some {cls:=.type "list",data:=.seq its'.toArray n'}:=by
  rw [Cs f ho (by rw [hf] <;> rfl),hf]
 refine I.write (x:=p) (e:=p) (by rw [h];trivial) (.inl rfl) (fun b u hb q=>(BY _ _ (zd hb)).trans q) ⟨_,e⟩ ?_
 exact ⟨hz,its',n',r,e⟩
def Ou:V->V->V->Hp->(Hp->Prop)->Prop:=fun o i v H Q=>∃p xs k j,o=.ref p/\i=.int k/\H p=some (.lst xs)/\fu xs.length k=some j/\Q (upd H p (.lst (xs.set j v)))
theorem set_list:JQ X Ou :=by
 intro pins s σ H o i v ov iv u Q I ro ri rv h
 obtain ⟨p,xs,k,j,rfl,rfl,hp,hj,q⟩:=h
 cases ro
 obtain ⟨t,rfl⟩:=ri
 obtain ⟨its,n,r,ho,hz⟩:=I.lst hp
 obtain ⟨h1,h2,h3,h4⟩:=si hj
 have hl:=r.length
 have hn:=lr
 have I':Inv X pins σ (upd H p (.lst (xs.set j v))) {s with heap:=s.heap.update p (Me (·.setIfInBounds j u))}:=
  I.Ks hp ho (zI its n j u) (r.set rv j) (by rw [GM];exact hz) s.toks
 by_cases h0:0<=k
 ·have hk:k.toNat=j :=by
   rw [seqIndex_of h0 h4] at h1
   exact ij h1
  exact PySem.W.ki_setAt ho h0 (by omega) (by rw [db,<- hl];exact h4) (by rw [hk];exact ⟨_,I',q⟩)
 ·have hk:(k+(its.toArray.size:Int)).toNat=j :=by
   rw [seqIndex_neg (by omega) h3] at h1
   rw [db,<- hl]
   exact ij h1
  exact PySem.W.ki_setBack ho (by omega) (by rw [db,<- hl];exact h3) (by omega) (by rw [hk];exact ⟨_,I',q⟩)
theorem vm (lo hi:Option Int) (n:Nat):(sliceBounds lo hi none n).1=((HT.jL n 0 lo:Nat):Int)/\(sliceBounds lo hi none n).2.1=((HT.jL n n hi:Nat):Int)/\(sliceBounds lo hi none n).2.2=1 :=by
 refine ⟨?_,?_,rfl⟩
 ·cases lo with
  |none=>simp [sliceBounds,HT.jL]
  |some i=>
   simp only [sliceBounds,HT.jL,Option.getD_none,show (1:Int) > 0 by decide,if_true]
   by_cases h:i<0
   ·simp only [h,if_true] <;> omega
   ·simp only [h,if_false] <;> omega
 ·cases hi with
  |none=>simp [sliceBounds,HT.jL]
  |some i=>
   simp only [sliceBounds,HT.jL,Option.getD_none,show (1:Int) > 0 by decide,if_true]
   by_cases h:i<0
   ·simp only [h,if_true] <;> omega
   ·simp only [h,if_false] <;> omega
theorem uG (its:List al) (lo hi:Option Int):slicePick its.toArray lo hi none=((its.drop (HT.jL its.length 0 lo)).take (HT.jL its.length its.length hi - HT.jL its.length 0 lo)).toArray :=by
 obtain ⟨h1,h2,h3⟩:=vm lo hi its.toArray.size
 unfold slicePick
 rw [h1,h2,h3]
 simp only [sliceRange_one,pick_run,db] <;> rfl
def Rp (K:bi):V->Option Int->Option Int->Hp->VK->Prop:=fun x lo hi H Q=>∃a xs,x=.ref a/\bF K H a xs/\∀p,H p=none->Q (.ref p) (upd H p (.lst (zH xs lo hi)))
theorem Sv:SK X (Rp X.K) :=by
 intro pins s σ H x v vl vu lo hi sl Q I rx hs pl pu h
 obtain ⟨a,xs,rfl,hx,q⟩:=h
 cases rx
 obtain ⟨its,r,ht,hz⟩:=I.list hx
 have hlen:=r.length
 refine ⟨"list",_,slot_list_getitem.lookup,ht.isList.typeIs,?_⟩
 refine wpAny_getItem_list_slice ht.isList hs pl pu .none (by simp) ?_ (by rw [db] <;> omega)
 rw [uG,<- hlen]
 refine ⟨.ref s.heap.objs.size,_,I.laid (t':=s.toks) (o:=.lst (zH xs lo hi)) (fun b ob q=>cb _ q) (cr _) ?_,rfl,q _ (I.hok.fresh (cr _))⟩
 exact ⟨wv (xM xs lo hi) hz,_,0,(r.drop (HT.jL xs.length 0 lo)).take (HT.jL xs.length xs.length hi - HT.jL xs.length 0 lo),f8 _ rfl⟩
def kD:V->Bool
 | .au=>true
 | .bl _=>true
 | .int _=>true
 | .str _=>true
 |_=>false
def qB:V->V->Bool
 | .au,.au=>true
 | .bl a,.bl b=>a==b
 | .bl a,.int b=>(if a then 1 else 0)==b
 | .int a,.bl b=>a==(if b then 1 else 0)
 | .int a,.int b=>a==b
 | .str a,.str b=>a==b
 |_,_=>false
theorem Kt {A:ma} {s:ba} {y x:V} {u v:al} (ry:RelV y u) (rx:RelV x v) (fy:kD y=true) (fx:kD x=true):i8 A s u v (qB y x) :=by
 cases y with
 |au=>
  cases ry
  cases x with
  |au=>cases rx;exact WA _
  |bl b=>cases rx;exact i8.none_bool b
  |int b=>obtain ⟨t,rfl⟩:=rx;exact i8.none_int b t
  |str b=>obtain ⟨t,rfl⟩:=rx;exact i8.none_str b t
  |_=>exact absurd (show false=true from fx) gl
 |bl a=>
  cases ry
  cases x with
  |au=>cases rx;exact i8.bool_none a
  |bl b=>cases rx;exact i8.bool_bool a b
  |int b=>obtain ⟨t,rfl⟩:=rx;exact i8.bool_int a b t
  |str b=>obtain ⟨t,rfl⟩:=rx;exact i8.bool_str a b t
  |_=>exact absurd (show false=true from fx) gl
 |int a=>
  obtain ⟨t',rfl⟩:=ry
  cases x with
  |au=>cases rx;exact i8.int_none a t'
  |bl b=>cases rx;exact i8.int_bool a t' b
  |int b=>obtain ⟨t,rfl⟩:=rx;exact i8.int_int a t' b t
  |str b=>obtain ⟨t,rfl⟩:=rx;exact WX a t' b t
  |_=>exact absurd (show false=true from fx) gl
 |str a=>
  obtain ⟨t',rfl⟩:=ry
  cases x with
  |au=>cases rx;exact i8.str_none a t'
  |bl b=>cases rx;exact i8.str_bool a t' b
  |int b=>obtain ⟨t,rfl⟩:=rx;exact WY a t' b t
  |str b=>obtain ⟨t,rfl⟩:=rx;exact i8.str_str a t' b t
  |_=>exact absurd (show false=true from fx) gl
 |_=>exact absurd (show false=true from fy) gl
def qC (x:V) (u:al):Bool:=match u with
 | .none=>qB .au x
 | .bool b=>qB (.bl b) x
 | .int i _=>qB (.int i) x
 | .str z _=>qB (.str z) x
 |_=>false
theorem Bs {x y:V} {u:al} (r:RelV y u) (f:kD y=true):qC x u=qB y x :=by
 cases y with
 |au=>cases r;rfl
 |bl b=>cases r;rfl
 |int i=>obtain ⟨t,rfl⟩:=r;rfl
 |str z=>obtain ⟨t,rfl⟩:=r;rfl
 |_=>exact absurd (show false=true from f) gl
theorem sk {x:V}:∀{xs:List V} {us:List al},Vals xs us->xs.all kD=true->us.any (qC x)=xs.any fun y=>qB y x
 |_,_,.nil,_=>rfl
 |y::xs,u::us,.cons r t,f=>by
          rw [Wh,B0] at f
          rw [US,US,Bs r f.1,sk t f.2]
theorem pF {A:ma} {s:ba} {x:V} {v:al} (rx:RelV x v) (fx:kD x=true):∀{xs:List V} {us:List al},Vals xs us->xs.all kD=true->∀u∈us,i8 A s u v (qC x u)
 |_,_,.nil,_=>fun u hu=>by cases hu
 |y::xs,u::us,.cons r t,f=>fun u' hu=>by
          rw [Wh,B0] at f
          rcases kw.mp hu with rfl|hu
          ·rw [Bs r f.1];exact Kt r rx f.1 fx
          ·exact pF rx fx t f.2 u' hu
def Bt (x:V) (xs:List V):Bool:=xs.any fun y=>qB y x
def Ku (K:bi) (neg:Bool):R2:=fun x y H Q=>∃p xs,y=.ref p/\(bF K H p xs\/cI K H p xs)/\kD x=true/\xs.all kD=true/\Q (.bl (if neg then !Bt x xs else Bt x xs)) H
theorem Bu:OpR X (compareOp .In) (Ku X.K false) :=by
 intro pins s σ H x y v u Q I rx ry h
 obtain ⟨p,xs,rfl,hq,fx,fs,q⟩:=h
 cases ry
 rcases hq with hq|hq
 ·obtain ⟨its,r,pl,hz⟩:=I.list hq
  refine SeqAt.in_listAt (qC x) pl.isList (fun w hw=>pF rx fx r fs w (by simpa using hw)) ⟨.bl _,H,I,rfl,?_⟩
  rw [show its.toArray.any (qC x)=its.any (qC x) by simp,sk r fs]
  exact q
 ·obtain ⟨its,r,pl,hz⟩:=I.tuple hq
  refine SeqAt.in_tupleAt (qC x) pl (fun w hw=>pF rx fx r fs w (by simpa using hw)) ⟨.bl _,H,I,rfl,?_⟩
  rw [show its.toArray.any (qC x)=its.any (qC x) by simp,sk r fs]
  exact q
theorem uH:cL X (.type "tuple") (fun xs H Q=>∃p ys,xs=[.ref p]/\((bF X.K H p ys/\∀l,H l=none->Q (.ref l) (upd H l (.tup ys)))\/(cI X.K H p ys/\Q (.ref p) H))) :=by
 intro pins s σ H xs us Q I r h
 obtain ⟨p,ys,rfl,h⟩:=h
 obtain ⟨u,rfl,rx⟩:=vals1 r
 cases rx
 rcases h with ⟨hq,q⟩|⟨hq,q⟩
 ·obtain ⟨its,r',pl,hz⟩:=I.list hq
  have hlen:=r'.length
  refine call_tuple_list pl.isList (fun h' kp=>?_) (by simp only [db] <;> omega)
  have I1:Inv X pins σ H {s with heap:=h'}:=I.kept (t':=s.toks) kp
  have I2:Inv X pins σ (upd H h'.objs.size (.tup ys)) {s with heap:=h'.push {cls:=.type "tuple",data:=.seq its.toArray}}:=
   I1.laid (t':=s.toks) (fun b o e=>cb _ e) (cr _) (show ObjOk X.prog X.w _ _ _ (.tup ys) from ⟨hz,its,r',jG.new _ _⟩)
  exact ⟨.ref h'.objs.size,_,I2,rfl,q _ (I1.hok.fresh (cr _))⟩
 ·obtain ⟨its,r',pl,hz⟩:=I.tuple hq
  exact call_tuple_same pl ⟨.ref p,H,I,rfl,q⟩
def Kv (K:bi) (T:String) (x:V) (H:Hp):Prop:=match x with
 | .str _=>T = "str"
 | .int _=>T = "int"
 | .ref p=>(T = "list" /\ ∃xs,bF K H p xs)\/(T = "tuple" /\ ((∃o,K.lookup p=some o/\o.cls=.type "tuple" /\ o.dict=none)\/∃xs,H p=some (.tup xs))) \/
   (T = "dict" /\ ((∃ao,H p=some (.dK ao))\/∃ao,H p=some (.dT ao)))\/(T = "set" /\ ∃S n,H p=some (.set S n))
 |_=>False
theorem Kw {pins:List (ac×i4)} {σ:St} {H:Hp} {s:ba} {T:String} {x:V} {v:al} (I:Inv X pins σ H s) (r:RelV x v) (ty:Kv X.K T x H) :
  s.TypeIs v T/\∀a,v=.ref a->∃ob,s.heap.get? a=some ob/\ob.dict=none :=by
 cases x with
 |str z=>
  obtain ⟨t,rfl⟩:=r
  cases (show T = "str" from ty)
  exact ⟨typeIs_str s z t,fun _ e=>nomatch e⟩
 |int i=>
  obtain ⟨t,rfl⟩:=r
  cases (show T = "int" from ty)
  exact ⟨Xn s i t,fun _ e=>nomatch e⟩
 |ref p=>
  cases r
  rcases ty with ⟨rfl,xs,hq⟩|⟨rfl,⟨o,hk,hc,hd⟩|⟨xs,hk⟩⟩|⟨rfl,hk⟩|⟨rfl,S,n,hk⟩
  ·obtain ⟨its,_,pl,_⟩:=I.list hq
   refine ⟨pl.isList.typeIs,fun a e=>?_⟩
   cases e
   obtain ⟨o,n,e,c,hd,_⟩:=pl
   exact ⟨o,e,hd⟩
  ·refine ⟨⟨o,I.ft p o hk,hc⟩,fun a e=>?_⟩
   cases e
   exact ⟨o,I.ft _ o hk,hd⟩
  ·obtain ⟨_,its,_,o,e,c,n,d,hd⟩:=I.hok p _ hk
   refine ⟨⟨o,e,c⟩,fun a e2=>?_⟩
   cases e2
   exact ⟨o,e,hd⟩
  ·have z:∃o,s.heap.get? p=some o/\o.ExactDict :=by
    rcases hk with ⟨ao,hk⟩|⟨ao,hk⟩
    ·obtain ⟨_,_,_,_,o,_,_,e,ex,_⟩:=I.hok p _ hk
     exact ⟨o,e,ex⟩
    ·obtain ⟨_,_,_,_,o,_,_,e,ex,_⟩:=I.hok p _ hk
     exact ⟨o,e,ex⟩
   obtain ⟨o,e,ex⟩:=z
   refine ⟨⟨o,e,ex.1⟩,fun a e2=>?_⟩
   cases e2
   exact ⟨o,e,ex.2.1⟩
  ·obtain ⟨o,_,_,_,e,ex,_⟩:=I.hok p _ hk
   refine ⟨⟨o,e,ex.1⟩,fun a e2=>?_⟩
   cases e2
   exact ⟨o,e,ex.2.1⟩
 |_=>exact EU ty
def P1 (K:bi) (T:String) (r:V->List V->Hp->VK->Prop) (to:TE) (t:TA):TE:=fun σ H Q=>to σ H fun x H1=>Kv K T x H1/\t σ H1 fun xs H2=>r x xs H2 Q
variable {o e:dL} {es:List dL} {to:TE} {t:TA} {name:bn} {apos bG:wn} {T id:String} {r:V->List V->Hp->VK->Prop}
theorem Ov (pa:PlainAttrs T) (slot:Slot T name id) (Bv:typeOf (.builtin id)=pure (.type "method_descriptor")) (hm:Kk X id r) (ho:PE X o to) (ha:PA X (e::es) t)
  (qD:attributeBase o name X.env (eval o X.env)=eval o X.env :=by rfl)
  (vn:((backTo bG (starEach (e::es) X.env)).all (fun x => !x.1) && (backToKw bG (keywordEach [] X.env)).all (fun x=>x.1.isSome)
   && decide ((e::es).length+([]:List V4).length+(if ([]:List V4).isEmpty then 0 else 1)<30))=true :=by rfl)
  (hline:(apos.endLine==bG.line)=true :=by rfl) (hs:starEach (e::es) X.env=(false,eval e X.env)::starEach es X.env :=by rfl) (ni:(backTo bG (starEach es X.env)).any (·.1)=false :=by rfl) :
  PE X (.Call (.Attribute o name apos) (e::es) [] bG) (P1 X.K T r to t) :=by
 refine ⟨?_⟩
 intro pins s σ H Q I h
 refine wpAny_Call_method_late qD vn hline rfl (thn (ho pins s σ H _ I h) fun v s1 ⟨x,H1,I1,r1,ty,q1⟩=>?_)
 obtain ⟨h1,h2⟩:=Kw I1 r1 ty
 refine ⟨T,id,pa,slot,Bv,h1,h2,?_⟩
 have hA:=ha bG pins s1 σ H1 _ I1 q1
 rw [hs] at hA ⊢
 refine Calls.callWith_builtin (by show (false || (backTo bG (starEach es X.env)).any (·.1))=false;rw [ni] <;> rfl) (Calls.evalArgs_plain ?_)
 exact thn hA fun us s2 ⟨vs,H2,I2,r2,q2⟩=>hm pins s2 σ H2 x vs v us Q I2 r1 r2 q2
end
def Kx (X:Cx) (id:String) (r:V->List V->Hp->VK->Prop):Prop:=
 ∀(pins:List (ac×i4)) (s:ba) (σ:St) (H:Hp) (x:V) (xs:List V) (v:al) (us:List al) (Q:VK),Inv X pins σ H s->RelV x v->Vals xs us->r x xs H Q->
  wpAny (model X.prog X.w) X.A (call (.builtin id) (v::us)) (EP X pins σ Q) X.xe s
theorem Vals.one:∀{x:V} {us:List al},Vals [x] us->∃u,us=[u]/\RelV x u
 |_,_,.cons r .nil=>⟨_,rfl,r⟩
theorem Vals.eraseIdx:∀{xs:List V} {us:List al} (i:Nat),Vals xs us->Vals (xs.eraseIdx i) (us.eraseIdx i)
 |_,_,_,.nil=>.nil
 |_,_,0,.cons _ t=>t
 |_,_,i+1,.cons r t=>.cons r (Vals.eraseIdx i t)
theorem Vals.rep {xs:List V} {us:List al} (h:Vals xs us):∀k:Nat,Vals (io k xs).flatten (io k us).flatten
 |0=>.nil
 |k+1=>by
          rw [wT,wT,GE,GE]
          exact Vals.append h (Vals.rep h k)
theorem tL {α:Type}:∀(l:List α) (i:Nat),(l.eraseIdx i).length<=l.length
 | [],_=>cr _
 |_::_,0=>ET _
 |_::r,i+1=>Nat.succ_le_succ (tL r i)
theorem foldl_rep (its:List al):∀(k:Nat) (acc:List al),
  Xo (fun x1 x2=>x1++x2) acc.toArray (io k its.toArray)=(acc++(io k its).flatten).toArray
 |0,acc=>by simp
 |k+1,acc=>by
          have e:acc.toArray++its.toArray=(acc++its).toArray :=by simp
          have e2:(acc++its)++(io k its).flatten=acc++(io (k+1) its).flatten :=by
           rw [wT,GE,LG]
          rw [<- e2,<- foldl_rep its k (acc++its),<- e,wT,XD]
section
variable {X:Cx} {pins:List (ac×i4)} {σ:St} {H:Hp} {s:ba} {l b:ac} {xs ys zs:List V}
theorem Inv.sm {its its':List al} {n:Nat} {f:Array al->Array al} {t':Nat} (I:Inv X pins σ H s) (hH:H l=some (.lst xs))
  (e:s.heap.get? l=some {cls:=.type "list",data:=.seq its.toArray n}) (hf:f its.toArray=its'.toArray) (hv:Vals ys its') (hz:ys.length<=sizeLine) :
  Inv X pins σ (upd H l (.lst ys)) {s with heap:=s.heap.update l (Me f),toks:=t'}:=by
 have q:=PySem.IsL.update e f
 rw [hf] at q
 refine I.write (x:=l) (e:=l) (by rw [hH];exact trivial) (.inl rfl) (fun b' u hb hu=>(BY s.heap (Me f) (zd hb)).trans hu) ⟨_,q⟩ ?_
 exact ⟨hz,its',_,hv,q⟩
theorem Inv.Ky {its:List al} {t':Nat} (I:Inv X pins σ H s) (hv:Vals ys its) (hz:ys.length<=sizeLine) :
  Inv X pins σ (upd H s.heap.objs.size (.lst ys)) {s with heap:=s.heap.push {cls:=.type "list",data:=.seq its.toArray},toks:=t'}:=
 I.laid (fun _ _ q=>cb _ q) (cr _) ⟨hz,its,0,hv,f8 _ rfl⟩
theorem Inv.fresh (I:Inv X pins σ H s):H s.heap.objs.size=none:=I.hok.fresh (cr _)
theorem Inv.nj (I:Inv X pins σ H s) (hH:H l=some (.lst xs)):xs.length<=sizeLine/\∃(its:List al) (n:Nat),Vals xs its/\xs.length=its.length/\s.heap.get? l=some {cls:=.type "list",data:=.seq its.toArray n}:=by
 obtain ⟨z,its,n,r,e⟩:=I.hok l _ hH
 exact ⟨z,its,n,r,r.length,e⟩
theorem vo {n:Nat} (h:n<=sizeLine):Lu n=false :=by
 unfold Lu
 exact decide_eq_false (by omega)
end
section
variable {X:Cx}
def HE:V->List V->Hp->VK->Prop:=fun x vs H Q=>∃l xs y,x=.ref l/\vs=[y]/\H l=some (.lst xs)/\xs.length<sizeLine/\Q .au (upd H l (.lst (xs++[y])))
theorem tM:Kx X "list.append" HE :=by
 intro pins s σ H x vs v us Q I rx rv h
 obtain ⟨l,xs,y,rfl,rfl,hH,hz,q⟩:=h
 cases rx
 obtain ⟨u,rfl,ru⟩:=rv.one
 obtain ⟨z,its,n,r,hl,e⟩:=I.nj hH
 refine V5 F.slot_list_append ⟨_,e,rfl⟩ F.entry_list_append (F.args_list_append_2 _ _) (PySem.list_append l its.toArray n u (by rw [db];omega)) ⟨e,?_⟩
 refine ⟨.au,_,I.sm (its':=its++[u]) hH e (by simp) (r.append (.cons ru .nil)) ?_,rfl,q⟩
 rw [ul,FM]
 omega
def Kz:V->List V->Hp->VK->Prop:=fun x vs H Q=>∃l xs i k y,x=.ref l/\vs=[.int i]/\H l=some (.lst xs) /\ -(2 ^ 63)<=i/\i<2 ^ 63/\seqIndex? i xs.length=some k/\xs[k]?=some y/\Q y (upd H l (.lst (xs.eraseIdx k)))
theorem Ed:Kx X "list.pop" Kz :=by
 intro pins s σ H x vs v us Q I rx rv h
 obtain ⟨l,xs,i,k,y,rfl,rfl,hH,h1,h2,hk,hy,q⟩:=h
 cases rx
 obtain ⟨u,rfl,ru⟩:=rv.one
 obtain ⟨t,rfl⟩:=ru
 obtain ⟨z,its,n,r,hl,e⟩:=I.nj hH
 obtain ⟨w,hw,jI⟩:=r.get hy
 refine V5 F.slot_list_pop ⟨_,e,rfl⟩ F.entry_list_pop (F.args_list_pop_2 _ _)
  (MeetsSeq.list_pop_at l its.toArray n i t k w (fitsIndex_both h1 h2) (by rw [db,<- hl];exact hk) (by rw [<- SZ];exact hw) (by rw [db];omega)) ⟨e,?_⟩
 refine ⟨y,_,I.sm (its':=its.eraseIdx k) hH e ?_ (r.eraseIdx k) ?_,jI,q⟩
 ·show its.toArray.eraseIdxIfInBounds k=(its.eraseIdx k).toArray
  rw [List.eraseIdxIfInBounds_toArray]
 ·have:=tL xs k
  omega
def Rq:R2:=fun x y H Q=>∃l k xs,x=.ref l/\y=.int k/\H l=some (.lst xs) /\ -(2 ^ 63)<=k/\k<2 ^ 63/\xs.length * k.toNat<=sizeLine /\
 ∀p,H p=none->Q (.ref p) (upd H p (.lst (io k.toNat xs).flatten))
theorem len_rep {α:Type} (xs:List α) (k:Nat):(io k xs).flatten.length=k * xs.length :=by
 induction k with
 |zero=>simp
 |succ k ih=>rw [wT,GE,ul,ih,Nat.succ_mul,Nat.add_comm]
theorem KA:OpR X (binaryOp .Mult) Rq :=by
 intro pins s σ H x y v u Q I rx ry h
 obtain ⟨l,k,xs,rfl,rfl,hH,h1,h2,hz,q⟩:=h
 cases rx
 obtain ⟨t,rfl⟩:=ry
 obtain ⟨z,its,n,r,hl,e⟩:=I.nj hH
 have hlen:its.toArray.size * k.toNat<=sizeLine :=by rw [db,<- hl];exact hz
 have Rr:¬ its.toArray.size * k.toNat > (2 ^ 63 - 1) / 8 :=by
  have:(sizeLine:Nat)<=(2 ^ 63 - 1) / 8 :=by decide
  omega
 have Rt:¬ (!Builtin.List.listFitsIndex k)=true :=by
  rw [fitsIndex_both h1 h2]
  exact gl
 have zJ:¬ Lu (its.toArray.size * k.toNat)=true :=by
  rw [vo hlen]
  exact gl
 have Ru:Xo (fun x1 x2=>x1++x2) #[] (io (if its.toArray.isEmpty=true then 0 else k.toNat) its.toArray)=(io k.toNat its).flatten.toArray :=by
  have f0:∀m:Nat,Xo (fun x1 x2=>x1++x2) #[] (io m its.toArray)=(io m its).flatten.toArray:=fun m=>by
   have:=foldl_rep its m []
   rw [GS] at this
   exact this
  rw [f0]
  cases its with
  |nil=>simp
  |cons a r'=>rw [if_neg (by simp)]
 refine wpAny_binaryOp_repeat_ref (T := "list") (U := "int") (by decide) ⟨_,e,rfl⟩ (fun s'=>Xn s' k t) noFill_list_mul F.fills_int_mul WB repeat_list F.slot_int_index.lookup
  (V5 WB (Xn s k t) F.entry_int_rmul (F.args_int_rmul_2 _ _) (int___rmul___int_list k t l its.toArray n)
   ⟨e,rfl,⟨_,e,rfl⟩,V5 F.slot_list_mul ⟨_,e,rfl⟩ F.entry_list_mul (F.args_list_mul_2 _ _) (AutoListH.list___mul___list_int_3 l its.toArray n k t Rt Rr zJ) ⟨e,?_⟩⟩)
 rw [Ru]
 exact ⟨.ref _,_,I.Ky (t':=s.toks) (r.rep k.toNat) (by rw [len_rep,Nat.mul_comm];exact hz),rfl,q _ I.fresh⟩
end
end L2
namespace P2
open PySem PySem.W PySem.Calls PyProof.Rows
theorem qE {P:XS} {h:ge}:∀(ns:List Int) (vs:List al),WellAll P h vs (ns.map WData.int)->Tk vs ns :=by
 intro ns
 induction ns with
 |nil=>
  intro vs w
  rw [Tl] at w
  cases w
  exact .nil
 |cons n ns ih=>
  intro vs w
  rw [v6] at w
  cases w with
  |cons a b=>
   cases a
   exact .cons _ _ (ih _ b)
theorem Bw {l:OpenLaw} {n:Nat} (hn:l.most=some n) {P:XS} {h:ge} {args:List WData} {vals:List al}
  (zK:l.row.toRowW.claim.pre args=true) (F8:WellAll P h vals args) :
  ∃a vs ns,vals=[li a]/\args=[WData.list (ns.map WData.int)]/\h.get? a=some {cls:=.type "list",data:=.seq vs.toArray}/\Tk vs ns/\ns.length<=n :=by
 have SM:WShape.hasAll [] args [.list .int]=true:=(pre_splitW zK).1
 have hc:l.pre.holds [] {args:=args}=true:=(pre_splitW zK).2
 obtain ⟨d,r,rfl,h1,h2⟩:=hasAllW_cons SM
 obtain rfl:=hasAllW_nil h2
 obtain ⟨xs,rfl,h3⟩:=hasW_list h1
 obtain ⟨ns,rfl⟩:=items_int h3
 have hlen:ns.length<=n :=by
  unfold OpenLaw.pre at hc
  have h4:(WTm.not (.lt (.lit (.int (n:Int))) (.len (.arg 0)))).holds [] {args:=[.list (ns.map .int)]}=true :=by
   have h4:=(holds_andW hc).1
   rw [hn] at h4
   exact h4
  have h5:=condW_of h4 (w_not (w_lt w_lit (w_len_list (w_arg rfl))))
  rw [c8] at h5
  refine Wl fun q=>?_
  have q':(n:Int)<((ns.length:Nat):Int) :=by omega
  first
   |(rw [decide_eq_true q'] at h5;exact absurd h5 (by decide))
   |(simp at h5;omega)
 cases F8 with
 |cons w1 w2=>
  cases w2
  cases w1 with
  |list ho so=>exact ⟨_,_,ns,rfl,rfl,ho,qE ns _ so,hlen⟩
theorem By (l:OpenLaw) (args:List WData):l.row.toRowW.claim.post args (.bool true) args=true:=
 postW_of (r:=l.row.toRowW) (X:=(true==true))
  (show WShape.has [] (.bool true) .bool=true by first|rfl|decide|simp [WShape.has,WShape.arms,WShape.armsAll])
  (show (WTm.eq .res (.lit (.bool true))).value [] {args:=args,res:=some (.bool true),after:=args}=some (.bool (true==true)) from w_eq_bool (w_res rfl) w_lit) rfl
theorem xN {l:OpenLaw} {n:Nat} {q:ff} {loose:List bn} {XP:(bn->Option al)->ge->Prop} {YP:ii->ge->Prop} {d:DefRec}
  (hn:l.most=some n) (BA:d.params.defaults=[])
  (call:∀(w:ii) (s₀ aw:ba) (mg mb:bn->Option al) (fa:ac) (o:i4) (pm cd doc:al) (a:ac) (vs:List al) (ns:List Int),
   Ground q loose [] XP w s₀ mg mb aw.heap->YP w aw.heap->
   aw.heap.get? fa=some o->o.data=.func (docDef d.name d.params d.body d.scope pm cd doc)->aw.heap.CodeRec cd d.name->mg d.name=some (.ref fa)->
   aw.heap.get? a=some {cls:=.type "list",data:=.seq vs.toArray}->Tk vs ns->ns.length<=n->aw.gens=#[]->
   codeAny (model l.prog w) callerA (.call (.ref fa) ⟨[.ref a],[]⟩) (fun r s'=>r=.ok (.ret (.bool true))/\OldK aw.heap s'.heap/\s'.os=aw.os/\XJ s'.gens) aw) :
  WalkO q loose XP YP l.row.toRowW d [] (fun f vs=>XM f vs) :=by
 intro w s₀ aw mg mb G Y fa o pm cd doc dV kV ho hd dR hD BC hg args vals as zK Vf Vn F8 Vo
 obtain rfl:dV=.none:=Dflts.none hD BA
 obtain rfl:kV=.none:=Dflts.noKw hD
 obtain ⟨a,vs,ns,rfl,rfl,Ee,hints,hlen⟩:=Bw hn zK F8
 refine enter_call (VY (call w s₀ aw mg mb fa o pm cd doc a vs ns G Y ho (fd_plain hd) dR BC Ee hints hlen hg) fun r s' hq=>?_)
 obtain ⟨rfl,h2,h3,h4⟩:=hq
 exact ⟨.inl ⟨.bool true,.bool true,[],rfl,fun _=>rfl,.bool true,By l _,fun _=>⟨XQ.nil,fun _ hm=>(nomatch hm)⟩⟩,h2,h3,h4⟩
end P2
namespace L2
open PySem PySem.Spec PyProof.Rows
theorem tN:∀{vs:List al} {ns:List Int},Tk vs ns->Vals (ns.map V.int) vs
 |_,_,.nil=>.nil
 |_,_,.cons n t h=>.cons ⟨t,rfl⟩ (tN h)
def cT (s:r6):MW:=match s with
 | .FunctionDef _ a _ _ _ _ _ _ _ _=>a
 |_=>{posonlyargs:=[],args:=[],vararg:=none,kwonlyargs:=[],kw_defaults:=[],kwarg:=none,defaults:=[]}
def bK (s:r6):List r6:=match s with
 | .FunctionDef _ _ b _ _ _ _ _ _ _=>b
 |_=>[]
def aj (s:r6):u8:=match s with
 | .FunctionDef _ _ _ _ _ _ sc _ _ _=>sc
 |_=>{kind:=.function,names:=[],isGenerator:=false,isCoroutine:=false}
abbrev bf:gK:=fun _ _ _ _ _ _=>False
abbrev E0:XK:=fun _ _ _=>False
theorem bz {X:Cx}:Passes bf X E0:=fun _ _ _ _ _ _ _ h=>h.elim
structure tO (K:bi) (x qual:bn) (st:r6) (f:ac) (fd:l5):Prop where
 ex:∃(oc:al) (od:Option ac) (kV doc pm:al) (an:Option ac) (cJ ct:al) (iN:Array (Option al)),
  fd=zn x qual (cT st) (bK st) (aj st) .none kV doc pm an cJ ct/\K.lookup f=some ⟨oc,od,.func fd,iN⟩/\IS K cJ qual=true
 kp:Co K (.ref f)=true
section
variable {P:ff} {w:ii} {K:bi} {mg:bn->Option al} {base:ge}
theorem tO.binds {x qual:bn} {st:r6} {f:ac} {fd:l5} {ps:List bn} (F:tO K x qual st f fd)
  (h:∀(kV doc pm:al) (an:Option ac) (cJ ct:al) (us:List al),us.length=ps.length->bindArgs (zn x qual (cT st) (bK st) (aj st) .none kV doc pm an cJ ct) ⟨us,[]⟩=pure (ps.zip us)):Binds K fd ps [] :=by
 obtain ⟨oc,od,kV,doc,pm,an,cJ,ct,iN,rfl,lk,dR⟩:=F.ex
 exact .all (h kV doc pm an cJ ct)
theorem KC {x qual:bn} {st:r6} {f:ac} {oc:al} {od an:Option ac} {iN:Array (Option al)} {kV doc pm cJ ct:al} (l:K.lookup f=some ⟨oc,od,.func (zn x qual (cT st) (bK st) (aj st) .none kV doc pm an cJ ct),iN⟩)
  (c:IS K cJ qual=true) (k:Co K (.ref f)=true):tO K x qual st f (zn x qual (cT st) (bK st) (aj st) .none kV doc pm an cJ ct):=⟨⟨oc,od,kV,doc,pm,an,cJ,ct,iN,rfl,l,c⟩,k⟩
end
section
variable {X:Cx}
theorem pv (i:Nat) {x:bn} {pos:wn} (hN:X.N[i]?=some x :=by rfl) (hv:oZ X.env.scope x :=by first|exact mT rfl|exact IT (mT rfl)|exact IT (IT rfl)) (hd:(x==("__debug__" : bn))=false :=by decide)
  (dR:(x==("__classdict__" : bn))=false :=by decide):PE X (.Name x pos) (JE i):=vd hN hv hd dR
end
end L2
set_option maxHeartbeats 4000000
namespace L2
open PySem PySem.Spec PyProof.Rows
theorem lZ {env:IR}:∀(names:List (bn×ON)) (acc:List (bn×ac)),(∀n,(n,tw)∈names->∃c,env.cells.lookup n=some c)->
  (∀n c,acc.lookup n=some c->env.cells.lookup n=some c)->
  ∃cl,(forIn names acc fun x r=>if (x.2==tw)=true then (do let a <- cellOf env x.1;pure (WC ((x.1,a)::r))) else pure (WC r):Wx (List (bn×ac)))=pure cl /\
   (∀n c,cl.lookup n=some c->env.cells.lookup n=some c)/\(∀n,(n,tw)∈names->∃c,cl.lookup n=some c)/\(∀n c,acc.lookup n=some c->∃c',cl.lookup n=some c')
 | [],acc,_,h2=>⟨acc,rfl,h2,fun n h=>by simp at h,fun n c h=>⟨c,h⟩⟩
 |(n,k)::r,acc,h1,h2=>by
          rw [List.forIn_cons]
          cases hk:(k==tw) with
          |true=>
           have ek:k=tw :=by simpa using hk
           subst ek
           obtain ⟨c,hc⟩:=h1 n l9
           have e1:cellOf env n=pure c :=by unfold cellOf;rw [hc]
           obtain ⟨cl,e,a1,a2,a3⟩:=lZ r ((n,c)::acc) (fun m hm=>h1 m (im _ hm)) (fun m c' hm=>by
            rw [Cc] at hm
            cases hb:m==n with
            |true=>
             rw [hb] at hm
             have e2:m=n :=by simpa using hb
             rw [e2,hc];exact hm
            |false=>rw [hb] at hm;exact h2 m c' hm)
           refine ⟨cl,?_,a1,fun m hm=>?_,fun m c' hm=>?_⟩
           ·simp only [if_true,e1]
            exact e
           ·rcases kw.mp hm with z|z
            ·cases z
             exact a3 n c (by rw [Cc];simp)
            ·exact a2 m z
           ·by_cases hb:m=n
            ·subst hb
             exact a3 m c (by rw [Cc];simp)
            ·exact a3 m c' (by
              rw [Cc]
              have:(m==n)=false :=by simpa using hb
              rw [this];exact hm)
          |false=>
           obtain ⟨cl,e,a1,a2,a3⟩:=lZ r acc (fun m hm=>h1 m (im _ hm)) h2
           refine ⟨cl,?_,a1,fun m hm=>?_,a3⟩
           ·simp only [lw,if_false]
            exact e
           ·rcases kw.mp hm with z|z
            ·cases z;simp at hk
            ·exact a2 m z
theorem gU {scope:u8} {env:IR} (h:∀n,(n,tw)∈scope.names->∃c,env.cells.lookup n=some c) :
  ∃cl,closureFor scope env=pure cl/\(∀n c,cl.lookup n=some c->env.cells.lookup n=some c)/\(∀n,(n,tw)∈scope.names->∃c,cl.lookup n=some c) :=by
 obtain ⟨cl,e,a1,a2,_⟩:=lZ (env:=env) scope.names [] h (fun n c hn=>by simp at hn)
 refine ⟨cl,?_,a1,a2⟩
 simp only [closureFor]
 rw [e]
 rfl
def cxBlock (X:Cx) (N':List bn) (env':IR) (A':ma) (stack':List IR) (s:ba) (H:Hp) (ex:List ac):Cx:=
 {X with N:=N',s₀:=s,H₀:=H,env:=env',A:=A',outer:=X.stack,stack:=stack',ex:=ex,fn:=fun _=>false,pn:=[],xe:=fun _ _=>False}
theorem tP {X:Cx} {pins:List (ac×i4)} {σ aF:St} {H H':Hp} {s:ba} {N':List bn} {env':IR} {A':ma} {stack':List IR} {ex:List ac} {h1:ge} {m0:bn->Option al} {g':Array RS} {tk:Nat}
  (I:Inv X pins σ H s) (oA:env'.scope.kind=.function) (Ow:env'.globals=X.env.globals) (Rv:env'.builtins=X.env.builtins)
  (da:∀n c,env'.cells.lookup n=some c->X.env.cells.lookup n=some c)
  (pG:∀x,(env'.kindOf x=some .cell\/env'.kindOf x=some .free)->∃c,env'.cells.lookup x=some c)
  (hh:X.calm=true->A'.handled=none) (qF:A'.frames=some stack') (Rw:stack'=X.stack\/(stack'=env'::X.stack/\env'.frame=some env'.locals))
  (hC:s.heap.objs.size<=env'.locals) (hf:∀b∈ex,cD X pins H b) (zL:∀b∈ex,b<s.heap.objs.size)
  (BD:Un (dQ X.stack) ex H H' s.heap h1) (hok:cH X.prog X.w H' h1) (vp:H' env'.locals=none) (qG:∀b o,s.heap.get? b=some o->h1.get? b=some o) (dz:h1.Ns env'.locals m0)
  (vq:∀(i:Nat) (x:bn) (v:V),N'[i]?=some x->aF[i]?=some (some v)->oZ env'.scope x->(env'.kindOf x=some .cell\/env'.kindOf x=some .free)/\oZ X.env.scope x/\(X.env.kindOf x=some .cell\/X.env.kindOf x=some .free)/\∃j:Nat,X.N[j]?=some x/\σ[j]?=some (some v))
  (hlen:aF.length=N'.length) (hg:Gn s.gens.size g'):Inv (cxBlock X N' env' A' stack' s H ex) [] aF H' {s with heap:=h1,gens:=g',toks:=tk}:=by
 have BE:∀b∈ex,∀x c,X.env.cells.lookup x=some c->c≠b:=fun b hb=>(hf b hb).2.2.2.2.1
 refine ⟨⟨I.ok.mod,oA,Ow.trans I.ok.glob,Rv.trans I.ok.blt,hC,fun x y c a b=>I.ok.inj x y c (da x c a) (da y c b),pG,fun _ _ z=>(nomatch z),hh,qF,Rw,fun b hb=>⟨jp (l8 (zL b hb) hC),fun x c e=>BE b hb x c (da x c e)⟩,
   I.bs,wv I.ok.bsz I.sz,fun b o e hb=>?_,fun b hb z=>?_,I.stack,I.lj⟩,rfl,hg,BD,⟨m0,dz,fun i x v e1 e2 e3=>?_⟩,fun x c e=>?_,vp,fun x c e=>?_,fun p hp=>absurd (show p∈([]:List (ac×i4)) from hp) (by simp),hok,hlen⟩
 ·rcases (hf b hb).2.2.2.1 with z|z
  ·exact I.ok.noex b o e z
  ·exact absurd (l8 (hX e) (wv I.ok.bsz z)) (EO _)
 ·rcases kw.mp (I.fZ b z) with q|q
  ·exact (hf b hb).2.1 q
  ·exact (hf b hb).2.2.1 q
 ·obtain ⟨k1,vx,k2,j,n1,n2⟩:=vq i x v e1 e2 e3
  obtain ⟨m,hn,hl⟩:=I.loc
  obtain ⟨u,r,l⟩:=hl j x v n1 n2 vx
  refine ⟨u,r,.inr ⟨k1,?_⟩⟩
  obtain ⟨c',BF⟩:=pG x k1
  rcases l with ⟨kl,_⟩|⟨_,c,ec,z⟩
  ·rcases k2 with q|q <;> (rw [kl] at q;cases q)
  ·have:c'=c:=ij ((da x c' BF).symm.trans ec)
   subst this
   exact ⟨c',BF,z.keeps qG⟩
 ·obtain ⟨v,z⟩:=I.cell x c (da x c e)
  exact ⟨v,z.keeps qG⟩
 ·obtain ⟨v,o,ho,hd⟩:=I.cell x c (da x c e)
  exact BD.free c o ho (I.freeC x c (da x c e)) fun z=>BE c z x c (da x c e) rfl
theorem lookup_map2 {c:bn->ON->ON}:∀{names:List (bn×ON)} {x:bn},(names.map fun (p:bn×ON)=>(p.1,c p.1 p.2)).lookup x=(names.lookup x).map (c x)
 | [],x=>rfl
 |(n,k')::r,x=>by
          have ih:=@lookup_map2 c r x
          rw [v6,Cc,Cc]
          cases hx:x==n with
          |true=>
           have e:x=n :=by simpa using hx
           subst e
           rfl
          |false=>exact ih
theorem fv {scope:u8} {env:IR} (x:bn):(relabel scope env).names.lookup x=(scope.names.lookup x).map fun k=>if (k==.free && env.scope.kind==.function && env.kindOf x==some .cell)=true then .cell else k :=by
 have e:(relabel scope env).names=scope.names.map fun p=>(p.1,(fun n k=>if (k==tw && env.scope.kind==.function && env.kindOf n==some .cell)=true then Ps else k) p.1 p.2) :=by
  unfold relabel
  dsimp only
  congr 1
  funext p
  obtain ⟨n,k⟩:=p
  dsimp only
  split <;> rfl
 rw [e]
 exact lookup_map2 (c:=fun n k=>if (k==tw && env.scope.kind==.function && env.kindOf n==some .cell)=true then Ps else k)
def aI (N:List bn) (sc scope:u8) (N':List bn) (tn:Nat) (idx:List Nat):Prop:=
 scope.kind=.function/\(∀y∈scope.names,y.2≠.cell/\(y.2=.local->scope.names.lookup y.1=some .local)/\(y.2=.free->sc.names.lookup y.1=some .cell\/sc.names.lookup y.1=some .free)) /\
  N'.length=tn+idx.length/\∀p∈idx.zip (N'.drop tn),N[p.1]?=some p.2/\scope.names.lookup p.2=some .free
instance (N:List bn) (sc scope:u8) (N':List bn) (tn:Nat) (idx:List Nat):Decidable (aI N sc scope N' tn idx) :=by unfold aI;infer_instance
def bg (tn:Nat) (idx:List Nat) (σ:St):St:=io tn none++idx.map fun i=>(σ[i]?).join
theorem aI.at {N:List bn} {sc scope:u8} {N':List bn} {tn:Nat} {idx:List Nat} (B:aI N sc scope N' tn idx) {σ:St} {i:Nat} {x:bn} {v:V} (h1:N'[i]?=some x) (h2:(bg tn idx σ)[i]?=some (some v)) :
  scope.names.lookup x=some .free/\∃j:Nat,N[j]?=some x/\σ[j]?=some (some v) :=by
 obtain ⟨_,_,b3,b4⟩:=B
 unfold bg at h2
 by_cases hi:i<tn
 ·rw [rf (by simpa using hi),AS,if_pos hi] at h2
  cases h2
 ·rw [sK (by simpa using hi),FF,ce] at h2
  cases e:idx[i - tn]? with
  |none=>rw [e] at h2;cases h2
  |some k=>
   rw [e] at h2
   have h3:(σ[k]?).join=some v:=ij h2
   have e2:(N'.drop tn)[i - tn]?=some x :=by
    rw [W2]
    have:tn+(i - tn)=i :=by omega
    rw [this];exact h1
   have m:(k,x)∈idx.zip (N'.drop tn) :=by
    refine gc (i:=i - tn) ?_
    rw [AC]
    exact ⟨e,e2⟩
   obtain ⟨a,b⟩:=b4 _ m
   refine ⟨b,k,a,?_⟩
   cases q:σ[k]? with
   |none=>rw [q] at h3;cases h3
   |some w=>rw [q] at h3;exact congrArg some h3
theorem aI.len {N:List bn} {sc scope:u8} {N':List bn} {tn:Nat} {idx:List Nat} (B:aI N sc scope N' tn idx) (σ:St):(bg tn idx σ).length=N'.length :=by
 rw [B.2.2.1]
 unfold bg
 simp
section
variable {X:Cx}
def gL (X:Cx) (ifs:List dL) (tt:TT):Prop:=
 ∀(pins:List (ac×i4)) (s:ba) (σ:St) (H:Hp) (Q:Bool->Hp->Prop),Inv X pins σ H s->tt σ H Q->
  wpAny (model X.prog X.w) X.A (forIn ifs true fun c r=>if r=true then do let ok <- isTrue c X.env (eval c X.env);pure (WC ok) else pure (WC r)) (TP X pins σ Q) X.xe s
def Ox:TT:=fun _ H Q=>Q true H
theorem HF:gL X [] Ox:=fun _ _ _ H _ I h=>wpAny_tests_nil ⟨H,I,h⟩
theorem HG {c:dL} {tc:TT} (h:PT X c tc):gL X [c] tc:=fun pins s σ H Q I q=>wpAny_tests_one (h pins s σ H Q I q)
abbrev yD (X:Cx) (N':List bn) (scope:u8) (cl:List (bn×ac)) (C:ac) (s:ba) (H:Hp) (fp:List ac):Cx:=cxBlock X N' (compEnvC scope cl C X.env) X.A X.stack s H fp
abbrev Blk (X:Cx) (N':List bn) (scope:u8) (P:Cx->Prop):Prop:=∀(cl:List (bn×ac)) (C:ac) (s:ba) (H:Hp) (fp:List ac),P (yD X N' scope cl C s H fp)
end
abbrev TB:=St->Hp->(St->Hp->Prop)->Prop
def PB (X:Cx) (b:Wx Unit) (t:TB):Prop:=∀(pins:List (ac×i4)) (s:ba) (σ:St) (H:Hp) (Q:St->Hp->Prop),Inv X pins σ H s->t σ H Q->wpAny (model X.prog X.w) X.A b (fun _ s'=>∃aF H',Inv X pins aF H' s'/\Q aF H') X.xe s
def uU (J:It) (g:TG) (tt:TT) (tb:TB) (QE:St->Hp->Prop) (W:Nat->Nat->St->Hp->Prop):Prop:=∀i m τ H,W i m τ H->
 (J.stop i H/\QE τ H)\/(J.go i H/\∀x H',J.yld i H x H'->g x τ H' fun aD H2=>tt aD H2 fun b H3=>if b=true then tb aD H3 fun SN H4=>∃m',m'<m/\W (i+1) m' SN H4 else ∃m',m'<m/\W (i+1) m' aD H3)
def zM (e tg iter:dL) (ifs:List dL) (d:Nat) (it acc:al) (env:IR) (body:Wx Unit):Wx Fin:=do
 standAt iter.pos
 match <- pyNext it with
 |none=>pure (.done .next)
 |some v=>
  letOwnedTupleGo tg it v
  assign tg env v
  let mut ok:=true
  for c in ifs do
   if ok then ok <- isTrue c env (eval c env)
  if ok then body
  again (.compLoop e d it acc env)
section
variable {Y:Cx} {e tg iter:dL} {ifs:List dL} {dp:Nat} {it:ac} {acc:al} {body:Wx Unit} {fp:List ac} {bu:Nat->ge->Prop} {J:It} {g:TG} {tt:TT} {tb:TB} {QE:St->Hp->Prop} {W:Nat->Nat->St->Hp->Prop} {R:Wz->ba->Prop} {pins:List (ac×i4)} {τ:St} {H:Hp} {s:ba} {m0:Nat}
structure zN (Y:Cx) (e tg iter:dL) (ifs:List dL) (dp:Nat) (acc:al) (body:Wx Unit):Prop where
 q:∀it,(Code.compLoop e dp it acc Y.env).quiet=true
 den:∀it Q E s,wpAny (model Y.prog Y.w) Y.A ((compTurn e dp it acc Y.env).onRaise (fun x=>do noteFrame x Y.env;theTreesLotGoes x)) Q E s->wpAny (model Y.prog Y.w) (Y.A.under (.compLoop e dp it acc Y.env)) ((model Y.prog Y.w).den (.compLoop e dp it acc Y.env)) Q E s
 turn:∀it,compTurn e dp it acc Y.env=zM e tg iter ifs dp it acc Y.env body
 denS:∀it Q E s,wpAny (model Y.prog Y.w) Y.A ((compStart e dp it acc Y.env).onRaise (fun x=>do noteFrame x Y.env;standAt theWindowsPlace)) Q E s->wpAny (model Y.prog Y.w) (Y.A.under (.compStart e dp it acc Y.env)) ((model Y.prog Y.w).den (.compStart e dp it acc Y.env)) Q E s
 cl:(clausesOf e)[dp]?=some ⟨tg,iter,ifs,0⟩
theorem tQ (hc:Y.calm=true) (nq:∀x s,Y.xe x s->False) (C:zN Y e tg iter ifs dp acc body) (hg:PG Y tg g) (ht:gL Y ifs tt) (hb:PB Y body tb) (T:Turn Y.prog Y.w Y.K tg J fp it bu) (turn:uU J g tt tb QE W)
  (I:Inv Y pins τ H s) (st:bu 0 s.heap) (f:∀b∈fp,cD Y pins H b) (w0:W 0 m0 τ H) (hR:∀cj H' s',Inv Y pins cj H' s'->QE cj H'->R (.ok .next) s') :
  codeAny (model Y.prog Y.w) Y.A (.compLoop e dp (.ref it) acc Y.env) R s :=by
 have stat:∀{H':Hp},(∀b∈fp,H' b=none)->∀b∈fp,cD Y pins H' b:=fun hn b hb=>⟨hn b hb,(f b hb).2⟩
 refine codeAny_loop (C.q _) (fun n s'=>∃i τ H',Inv Y pins τ H' s'/\bu i s'.heap/\(∀b∈fp,H' b=none)/\W i n τ H') (fun n s hI=>?_) m0 ⟨0,τ,H,I,st,fun b hb=>(f b hb).1,w0⟩
 refine C.den _ _ _ _ (wpAny_noted ?_)
 rw [C.turn]
 unfold zM
 obtain ⟨i,τ,H3,I3,tF,Bg,w3⟩:=hI
 rcases turn i n τ H3 w3 with ⟨stop,qn⟩|⟨go,step⟩
 ·refine ap (BB (ap (l7 (T.done Y rfl rfl rfl hc i pins s τ H3 (fun _ _=>False) I3 (stat Bg) tF stop) (fun r s4 ⟨hr,I4⟩=>?_) fun _ _ z=>z.elim)))
  subst hr
  exact bv (hR _ _ _ I4 qn)
 ·refine ap (BB (ap (l7 (T.item Y rfl rfl rfl hc i pins s τ H3 (fun _ _=>False) I3 (stat Bg) tF go) (fun r s4 ⟨u,hr,h4⟩=>?_) fun _ _ z=>z.elim)))
  subst hr
  refine ap (l7 h4 (fun _ s5 ⟨x,H5,I5,r5,y5,jJ,vh⟩=>?_) fun _ _ z=>z.elim)
  have vi:=I5.pinned (stat vh) (T.obj _ _ jJ)
  have again:∀{o5:St} {H7:Hp} {s7:ba},Inv Y (pins++iM fp s5.heap) o5 H7 s7->(∃m',m'<n/\W (i+1) m' o5 H7)->
    ∃m,m<n/\∃i τ H',Inv Y pins τ H' s7/\bu i s7.heap/\(∀b∈fp,H' b=none)/\W i m τ H':=fun {o5 H7 s7} I7 n7=>by
   obtain ⟨m',hm,w7⟩:=n7
   refine ⟨m',hm,i+1,o5,H7,I7.cg,T.keep _ _ _ jJ fun b hb o e=>(I7.pin (b,o) (i1 _ (i1 _ (cK hb e)))).1,fun b hb=>?_,w7⟩
   obtain ⟨o,e,d⟩:=T.obj _ _ jJ b hb
   exact (I7.pin (b,o) (i1 _ (i1 _ (cK hb e)))).2.1
  refine ap (l7 (hg _ s5 τ H5 x u _ vi r5 (step x H5 y5)) (fun _ s6 ⟨kG,H6,I6,q6⟩=>?_) fun _ _ z=>(nq _ _ z).elim)
  refine ap (l7 (ht _ s6 kG H6 _ I6 q6) (fun ok s7 ⟨H7,I7,q7⟩=>?_) fun _ _ z=>(nq _ _ z).elim)
  cases ok with
  |false=>exact bv ⟨rfl,again I7 q7⟩
  |true=>
   refine ap (l7 (hb _ s7 kG H7 _ I7 q7) (fun _ s8 ⟨Vp,H8,I8,q8⟩=>?_) fun _ _ z=>(nq _ _ z).elim)
   exact bv ⟨rfl,again I8 q8⟩
theorem qH (C:zN Y e tg iter ifs dp acc body) (T:Turn Y.prog Y.w Y.K tg J fp it bu) (st:bu 0 s.heap)
  (h:codeAny (model Y.prog Y.w) Y.A (.compLoop e dp (.ref it) acc Y.env) R s):codeAny (model Y.prog Y.w) Y.A (.compStart e dp (.ref it) acc Y.env) R s :=by
 refine WD (C.denS _ _ _ _ (wpAny_notedAt ?_))
 unfold compStart
 rw [C.cl]
 show wpAny _ _ (ask>>=_) _ _ s
 refine ap (T0 (wpAny_ite ?_))
 split
 ·first
   |exact ap (bv (bv (XT rfl h)))
   |exact bv (XT rfl h)
 ·have h2:wpAny (model Y.prog Y.w) Y.A (pyIter (.ref it)) (fun BG s'=>codeAny (model Y.prog Y.w) Y.A (.compLoop e dp BG acc Y.env) R s') (notedBy (model Y.prog Y.w) Y.A Y.env fun x s'=>R (.error x) s') s:=T.self _ 0 _ _ _ st h
  first
   |exact ap (Ix (ap (BB (ap (l7 h2 (fun BG s' h'=>bv (XT (C.q BG) h')) fun _ _ x=>x)))))
   |(refine ap (Ix ?_);show wpAny _ _ (standAt iter.pos>>=_) _ _ s;exact ap (BB (ap (l7 h2 (fun BG s' h'=>bv (XT (C.q BG) h')) fun _ _ x=>x))))
end
section
variable {Y:Cx}
def qI (D:ac) (te:TE):TB:=fun τ H Q=>te τ H fun y H4=>∃ys,H4 D=some (.lst ys)/\ys.length<sizeLine/\Q τ (upd H4 D (.lst (ys++[y])))
theorem yE {elt:dL} {te:TE} {D:ac} (h:PE Y elt te):PB Y (do let _ <- call (.builtin "list.append") [.ref D,<- eval elt Y.env]) (qI D te) :=by
 intro pins s τ H Q I q
 refine ap (l7 (h pins s τ H _ I q) (fun yv s8 ⟨y,H8,I8,r8,q8⟩=>?_) fun _ _ z=>z)
 obtain ⟨ys,hD,hsz,w8⟩:=q8
 refine ap (l7 (tM (X:=Y) _ s8 τ H8 (.ref D) [y] (.ref D) [yv] (fun v H9=>v=.au/\H9=upd H8 D (.lst (ys++[y]))) I8 rfl (.cons r8 .nil) ⟨_,ys,y,rfl,rfl,hD,hsz,rfl,rfl⟩) (fun rv s9 ⟨v9,H9,I9,_,_,e9⟩=>?_) fun _ _ z=>z)
 subst e9
 exact bv ⟨τ,_,I9,w8⟩
end
section
variable {X:Cx}
theorem compG_core {pins:List (ac×i4)} {σ:St} {H2:Hp} {s2:ba} {e tg iter:dL} {ifs:List dL} {scope:u8} {N':List bn} {tn:Nat} {idx:List Nat} {g:TG} {tt:TT} {tb:ac->TB} {body:al->IR->Wx Unit} {it:ac} {fp:List ac} {bu:Nat->ge->Prop} {J:It}
  {cl:List (bn×ac)} {E:al->ba->Prop} {RR:al->ac->Wz->ba->Prop} {Q:VK} {mk:Wx al} {O0:HO} {o0:i4}
  (KD:∀(Q:al->ba->Prop),Q (.ref s2.heap.objs.size) {s2 with heap:=s2.heap.push o0}->wpAny (model X.prog X.w) X.A mk Q E s2) (qF:o0.isFreed=false)
  (KG:∀(H:Hp) (h1:ge),h1.get? s2.heap.objs.size=some o0->ObjOk X.prog X.w H h1 s2.heap.objs.size O0)
  (hc:X.calm=true) (B:aI X.N X.env.scope scope N' tn idx)
  (hC:∀(D:ac),Blk X N' scope fun Y=>zN Y e tg iter ifs 0 (.ref D) (body (.ref D) Y.env))
  (hg:Blk X N' scope fun Y=>PG Y tg g) (ht:Blk X N' scope fun Y=>gL Y ifs tt) (hb:∀D,Blk X N' scope fun Y=>PB Y (body (.ref D) Y.env) (tb D))
  (I:Inv X pins σ H2 s2) (T:Turn X.prog X.w X.K tg J fp it bu) (st:bu 0 s2.heap) (f2:∀b∈fp,cD X pins H2 b)
  (c6:∀n c,cl.lookup n=some c->X.env.cells.lookup n=some c) (fh:∀n,(n,tw)∈scope.names->∃c,cl.lookup n=some c)
  (hq:∀D,H2 D=none->∃W:Nat->Nat->St->Hp->Prop,(∃m,W 0 m (bg tn idx σ) (upd H2 D O0))/\uU J g tt (tb D) (fun _ H'=>Q (.ref D) H') W)
  (vt:∀D C m s' H',Inv X pins σ H' s'->cD X pins H' C->s'.heap.Ns C m->Q (.ref D) H'->RR (.ref D) C (.ok .next) s') :
  wpAny (model X.prog X.w) X.A mk (fun acc iZ=>wpAny (model X.prog X.w) X.A (newFunctionEnv scope X.env.globals cl [] X.env.qual none .none (some X.env)) (fun jM pH=>
   codeAny (model X.prog X.w) X.A (.compStart e 0 (.ref it) acc {jM with scope:=relabel scope X.env}) (RR acc jM.locals) pH) E iZ) E s2 :=by
 obtain ⟨b1,b2,b3,b4⟩:=id B
 refine KD _ (wpAny_newFunctionEnv (fun y hy=>(b2 y hy).1) (by intro y hy;simp at hy) (fun dU nu qJ=>?_) b1)
 dsimp only at nu qJ ⊢
 generalize hG:s2.heap.push o0=G at nu qJ ⊢
 have KH:G.objs.size=s2.heap.objs.size+1 :=by rw [<- hG,CS]
 have F9:s2.heap.objs.size≠G.objs.size :=by rw [KH];exact jp (Cf _)
 have l0:s2.heap.objs.size<=G.objs.size :=by rw [KH];exact ET _
 have below:∀b,b<s2.heap.objs.size->b≠G.objs.size:=fun b hb=>by rw [KH];exact jp (Ch hb)
 have old:∀b o,s2.heap.get? b=some o->dU.get? b=some o:=fun b o e=>qJ.extBut b o (below b (hX e)) (cb _ (hG▸cb _ e))
 have KI:dU.get? s2.heap.objs.size=some o0:=qJ.extBut _ _ F9 (cb _ (hG▸f8 _ qF))
 have BH:H2 s2.heap.objs.size=none:=I.hok.fresh (cr _)
 have vp:upd H2 s2.heap.objs.size O0 G.objs.size=none :=by rw [af (zd F9)];exact I.hok.fresh l0
 have Ef:cH X.prog X.w (upd H2 s2.heap.objs.size O0) dU:=I.hok.laid old (cr _) (KG _ _ KI)
 have mX:∀b∈fp,b<s2.heap.objs.size:=fun b hb=>let ⟨o,e,_⟩:=T.obj _ _ st b hb;hX e
 obtain ⟨W,⟨m0,w0⟩,turn⟩:=hq s2.heap.objs.size BH
 have I1:Inv (yD X N' scope cl G.objs.size s2 H2 fp) [] (bg tn idx σ) (upd H2 s2.heap.objs.size O0) {s2 with heap:=dU,toks:=s2.toks+([]:List (bn×al)).length}:=by
  refine tP (g':=s2.gens) (m0:=fun x=>([]:List (bn×al)).reverse.lookup x) I b1 rfl rfl c6 (fun x hx=>?_) (fun z=>I.ok.hd z) I.ok.frames (.inl rfl) l0 f2 mX (Un.laid old (cr _) BH) Ef vp old nu (fun i x v e1 e2 e3=>?_) (B.len σ) I.bare.self
  ·have lq:(relabel scope X.env).names.lookup x=some .cell\/(relabel scope X.env).names.lookup x=some .free:=hx
   rw [fv] at lq
   cases q:scope.names.lookup x with
   |none=>rw [q] at lq;rcases lq with z|z <;> cases z
   |some k0=>
    have hm:=wp q
    rw [q] at lq
    by_cases hk:k0=.free
    ·subst hk;exact fh x hm
    ·have nk:(k0==tw)=false :=by simpa using hk
     have nc:=(b2 _ hm).1
     simp only [LB,nk,SS,lw,if_false] at lq
     rcases lq with z|z
     ·exact absurd (ij z) nc
     ·exact absurd (ij z) hk
  ·obtain ⟨fr,j,e4,e5⟩:=B.at e1 e2
   have kx:=(b2 _ (wp fr)).2.2 rfl
   refine ⟨?_,.inr kx,kx,j,e4,e5⟩
   show (relabel scope X.env).names.lookup x=some .cell\/(relabel scope X.env).names.lookup x=some .free
   rw [fv,fr]
   simp only [LB]
   split
   ·exact .inl rfl
   ·exact .inr rfl
 have stat:∀b∈fp,cD (yD X N' scope cl G.objs.size s2 H2 fp) [] (upd H2 s2.heap.objs.size O0) b:=fun b hb=>by
  refine ⟨by rw [af (jp (mX b hb))];exact (f2 b hb).1,below b (mX b hb),fun z=>?_,.inl hb,fun x c e=>(f2 b hb).2.2.2.2.1 x c (c6 x c e),fun p hp=>absurd (show p∈([]:List (ac×i4)) from hp) (by simp)⟩
  rcases kw.mp (I.fZ b z) with q|q
  ·exact (f2 b hb).2.1 q
  ·exact (f2 b hb).2.2.1 q
 have BI:bu 0 dU:=T.keep _ _ _ st fun b _ o e=>old b o e
 refine qH (Y:=yD X N' scope cl G.objs.size s2 H2 fp) (hC _ cl G.objs.size s2 H2 fp) T BI (tQ (Y:=yD X N' scope cl G.objs.size s2 H2 fp) hc (fun _ _ z=>z) (hC _ cl G.objs.size s2 H2 fp) (hg cl G.objs.size s2 H2 fp) (ht cl G.objs.size s2 H2 fp) (hb _ cl G.objs.size s2 H2 fp) T turn I1 BI stat w0 fun cj H' s' I4 qn=>?_)
 have J2:Inv X pins σ H' s':=I.qp I4.os I4.base I4.hok I4.bare fun b hb=>⟨(f2 b hb).2.2.2.1,(f2 b hb).2.1,(f2 b hb).2.2.2.2.1,(f2 b hb).2.2.2.2.2⟩
 obtain ⟨mm,hm,_⟩:=I4.loc
 exact vt _ _ mm s' H' J2 (I.lX l0 I4.free) hm qn
end
section
variable {X:Cx}
def qK (J:It) (g:TG) (tt:TT) (te:TE) (D:ac) (Q:VK) (W:Nat->Nat->St->Hp->Prop):Prop:=∀i m τ H,W i m τ H->
 (J.stop i H/\Q (.ref D) H)\/(J.go i H/\∀x H',J.yld i H x H'->g x τ H' fun aD H2=>tt aD H2 fun b H3=>if b=true then te aD H3 fun y H4=>∃ys m',H4 D=some (.lst ys)/\ys.length<sizeLine/\m'<m/\W (i+1) m' aD (upd H4 D (.lst (ys++[y]))) else ∃m',m'<m/\W (i+1) m' aD H3)
def qM (tn:Nat) (idx:List Nat) (wi:TI) (g:TG) (tt:TT) (te:TE):TE:=fun σ H Q=>wi σ H fun J H1=>∀D,H1 D=none->∃W:Nat->Nat->St->Hp->Prop,(∃m,W 0 m (bg tn idx σ) (upd H1 D (.lst [])))/\qK J g tt te D Q W
theorem qN {J:It} {g:TG} {tt:TT} {te:TE} {D:ac} {Q:VK} {W:Nat->Nat->St->Hp->Prop} (h:qK J g tt te D Q W):uU J g tt (qI D te) (fun _ H=>Q (.ref D) H) W :=by
 simp only [qK,exists_and_left] at h
 exact h
theorem vw (elt tg iter:dL) (ifs:List dL) (scope:u8) (pos:wn) (it acc:al) (env:IR) :
  compTurn (.ListComp elt [⟨tg,iter,ifs,0⟩] scope pos) 0 it acc env=zM (.ListComp elt [⟨tg,iter,ifs,0⟩] scope pos) tg iter ifs 0 it acc env (do let _ <- call (.builtin "list.append") [acc,<- eval elt env]) :=by
 rfl
theorem tR {pins:List (ac×i4)} {σ:St} {H2:Hp} {s2:ba} {tg elt iter:dL} {ifs:List dL} {scope:u8} {pos:wn} {N':List bn} {tn:Nat} {idx:List Nat} {g:TG} {tt:TT} {te:TE} {it:ac} {fp:List ac} {bu:Nat->ge->Prop} {J:It}
  {cl:List (bn×ac)} {E:al->ba->Prop} {RR:al->ac->Wz->ba->Prop} {Q:VK}
  (hc:X.calm=true) (B:aI X.N X.env.scope scope N' tn idx)
  (hg:Blk X N' scope fun Y=>PG Y tg g) (ht:Blk X N' scope fun Y=>gL Y ifs tt) (he:Blk X N' scope fun Y=>PE Y elt te)
  (I:Inv X pins σ H2 s2) (T:Turn X.prog X.w X.K tg J fp it bu) (st:bu 0 s2.heap) (f2:∀b∈fp,cD X pins H2 b)
  (c6:∀n c,cl.lookup n=some c->X.env.cells.lookup n=some c) (fh:∀n,(n,tw)∈scope.names->∃c,cl.lookup n=some c)
  (hq:∀D,H2 D=none->∃W:Nat->Nat->St->Hp->Prop,(∃m,W 0 m (bg tn idx σ) (upd H2 D (.lst [])))/\qK J g tt te D Q W)
  (vt:∀D C m s' H',Inv X pins σ H' s'->cD X pins H' C->s'.heap.Ns C m->Q (.ref D) H'->RR (.ref D) C (.ok .next) s') :
  wpAny (model X.prog X.w) X.A (newList []) (fun acc iZ=>wpAny (model X.prog X.w) X.A (newFunctionEnv scope X.env.globals cl [] X.env.qual none .none (some X.env)) (fun jM pH=>
   codeAny (model X.prog X.w) X.A (.compStart (.ListComp elt [⟨tg,iter,ifs,0⟩] scope pos) 0 (.ref it) acc {jM with scope:=relabel scope X.env}) (RR acc jM.locals) pH) E iZ) E s2:=
 compG_core (body:=fun acc env=>do let _ <- call (.builtin "list.append") [acc,<- eval elt env]) (tb:=fun D=>qI D te) (O0:=.lst []) (o0:={cls:=.type "list",dict:=none,data:=.seq ([]:List al).toArray})
  (fun Q q=>wP q) rfl (fun H h1 hd=>⟨sw _,[],0,.nil,hd⟩) hc B (fun D cl C s H fp=>⟨fun _=>rfl,fun _ _ _ _ h=>h,fun _=>vw ..,fun _ _ _ _ h=>h,rfl⟩) hg ht (fun D cl C s H fp=>yE (he cl C s H fp))
  I T st f2 c6 fh (fun D hD=>let ⟨W,w0,t⟩:=hq D hD;⟨W,w0,qN t⟩) vt
variable {tg elt iter:dL} {ifs:List dL} {scope:u8} {pos:wn} {N':List bn} {tn:Nat} {idx:List Nat} {wi:TI} {g:TG} {tt:TT} {te:TE}
theorem cD.turn {pins:List (ac×i4)} {σ:St} {H:Hp} {s:ba} {C:ac} {h':ge} (f:cD X pins H C) (I:Inv X pins σ H s) (hs:wS C s.heap h'):Inv X pins σ H {s with heap:=h'}:=
 I.turned (t':=s.toks) (fun b o hb e=>(hs.2 b hb).trans e) f.1 f.2.1 f.2.2.2.1 f.2.2.2.2.1 f.2.2.2.2.2
theorem o6 (hc:X.calm=true) (B:aI X.N X.env.scope scope N' tn idx) (hi:PI X tg iter wi)
  (hg:Blk X N' scope fun Y=>PG Y tg g) (ht:Blk X N' scope fun Y=>gL Y ifs tt) (he:Blk X N' scope fun Y=>PE Y elt te)
  (hs:∀x,foldedSetIterable iter X.env x=pure x :=by intro _;rfl):PE X (.ListComp elt [⟨tg,iter,ifs,0⟩] scope pos) (qM tn idx wi g tt te) :=by
 refine ⟨?_⟩
 intro pins s σ H Q I h
 obtain ⟨cl,iC,c6,fh⟩:=gU (scope:=scope) (env:=X.env) fun n hn=>I.ok.has n ((B.2.1 _ hn).2.2 rfl)
 rw [eval_ListComp]
 refine VZ (use:=none) rfl hs iC B.1 (fun y hy=>(B.2.1 y hy).2.1) (l7 (hi pins s σ H _ I h) (fun xv s1 h1=>l7 h1 (fun yx s2 h2=>?_) fun _ _ z=>z) fun _ _ z=>z)
 obtain ⟨it,fp,bu,J,H2,e,I2,T,qz,f2,q2⟩:=h2
 subst e
 refine tR (RR:=fun acc C=>compPost (model X.prog X.w) X.A X.xe none (EP X pins σ Q) acc C) hc B hg ht he I2 T qz f2 c6 fh q2 fun D C m s' H' J2 fC hm q=>?_
 exact ⟨m,hm,fun h' tS=>⟨.ref D,H',fC.turn J2 tS,rfl,q⟩⟩
theorem qO {i:Nat} {y:bn} {py gV:wn} (hN:X.N.Nodup) (dA:X.N[i]?=some y) (hy:X.env.scope.names.lookup y=some .local) (hc:X.calm=true) (B:aI X.N X.env.scope scope N' tn idx) (hi:PI X tg iter wi)
  (hg:Blk X N' scope fun Y=>PG Y tg g) (ht:Blk X N' scope fun Y=>gL Y ifs tt) (he:Blk X N' scope fun Y=>PE Y elt te)
  (qP:swapsWith (.ListComp elt [⟨tg,iter,ifs,0⟩] scope pos) (some (.Name y py)) gV.line X.env=pure true :=by rfl)
  (hs:∀x,foldedSetIterable iter X.env x=pure x :=by intro _;rfl):PS X (.Assign [.Name y py] (.ListComp elt [⟨tg,iter,ifs,0⟩] scope pos) gV) (sg (qM tn idx wi g tt te) (qw i)) :=by
 refine ⟨?_⟩
 intro pins s σ H D I h
 obtain ⟨cl,iC,c6,fh⟩:=gU (scope:=scope) (env:=X.env) fun n hn=>I.ok.has n ((B.2.1 _ hn).2.2 rfl)
 rw [exec_Assign_Name_used _ _ _ _ qP]
 refine ap (BB (ap ?_))
 show wpAny _ X.A (do let _ <- comprehension (.ListComp elt [⟨tg,iter,ifs,0⟩] scope pos) scope X.env _ (newList []) false (eval iter X.env) (some (assign (.Name y py) X.env))) _ _ s
 refine ap (l7 (VZ (use:=some (assign (.Name y py) X.env)) (Q:=fun _ s'=>SP X pins D .next s') rfl hs iC B.1 (fun y hy=>(B.2.1 y hy).2.1)
  (l7 (hi pins s σ H _ I h) (fun xv s1 h1=>l7 h1 (fun yx s2 h2=>?_) fun _ _ z=>z) fun _ _ z=>z)) (fun _ s' hq=>bv (bv hq)) fun _ _ z=>z)
 obtain ⟨it,fp,bu,J,H2,e,I2,T,qz,f2,q2⟩:=h2
 subst e
 refine tR (RR:=fun acc C=>compPost (model X.prog X.w) X.A X.xe (some (assign (.Name y py) X.env)) (fun _ s'=>SP X pins D .next s') acc C) hc B hg ht he I2 T qz f2 c6 fh q2 fun E C m s' H' J2 fC hm q=>?_
 show wpAny _ X.A (assign (.Name y py) X.env (.ref E)) _ _ s'
 refine Xb (store_ok2 J2 hN dA (.inl hy) (v:=.ref E) rfl (fun s3 J3 ⟨a,jN,ha⟩=>?_) (.inr hy))
 have dE:C≠a :=by
  rcases ha with z|z
  ·rw [z];exact fC.2.1
  ·exact fun w=>fC.2.2.2.2.1 _ _ z w.symm
 exact ⟨m,hm.sameBut jN dE,fun h' tS=>⟨_,H',fC.turn J3 tS,q⟩⟩
end
def Tb (P:ac) (H:Hp):Prop:=∃ps,H P=some (.cO ps)/\Nl ps.toList
section
variable {X:Cx} {pins:List (ac×i4)} {σ:St} {H:Hp} {s:ba} {P:ac} {ps more:Array al} {h':ge}
theorem Inv.grown (I:Inv X pins σ H s) (hP:H P=some (.cO ps)) (k:∀b o,b≠P->s.heap.get? b=some o->h'.get? b=some o) (n:h'.get? P=some {cls:=.none,data:=.fields (ps++more)}) (t':Nat) :
  Inv X pins σ (upd H P (.cO (ps++more))) {s with heap:=h',toks:=t'}:=by
 have ne:∀b u,H b=some u->u≠.cO ps->b≠P:=fun b u e d=>zx e hP d
 have nn:∀b,H b=none->b≠P:=fun b e z=>by rw [z,hP] at e;cases e
 refine I.un ⟨fun b o e q _ _=>k b o (nn b q) e,fun b o e q _ _=>⟨o.slots,k b o (nn b q) e⟩,fun b o e q _=>by rw [af (nn b q)];exact q,fun b o e _=>?_,fun b xs e=>by rw [af (ne b _ e (by intro z;cases z))];exact e,
  fun b o u e=>by rw [af (ne b _ e (by intro z;cases z))];exact e,fun b qs e=>?_⟩ fun b u e=>?_
 ·by_cases hb:b=P
  ·subst hb;exact ⟨_,n⟩
  ·exact ⟨o,k b o hb e⟩
 ·by_cases hb:b=P
  ·subst hb
   rw [hP] at e;cases e
   exact ⟨more,ay⟩
  ·exact ⟨#[],by rw [af hb,e];simp⟩
 ·by_cases hb:b=P
  ·subst hb
   rw [ay] at e;cases e
   exact n
  ·rw [af hb] at e
   refine (I.hok b u e).bU (fun c v hc q=>k c v ?_ q) (fun c q=>?_) fun c xs q=>?_
   ·rcases hc with z|z
    ·rw [z];exact hb
    ·exact ne c _ z (by intro w;cases w)
   ·rw [af (ne c _ q (by intro w;cases w))];exact q
   ·rw [af (ne c _ q (by intro w;cases w))];exact q
theorem sr {c:ac} {pos:wn} {qn:bn} {scope:u8} {Q:al->ba->Prop} {A:ma} {E:al->ba->Prop} (I:Inv X pins σ H s) (hc:X.env.code=.ref c) (hd:sB X.base c P) (hP:H P=some (.cO ps)) (ht:Nl ps.toList)
  (h:∀code gW s',Nl gW.toList->Inv X pins σ (upd H P (.cO gW)) s'->(∀b o,b≠P->s.heap.get? b=some o->s'.heap.get? b=some o)->s'.gens=s.gens->Q code s'):wpAny (model X.prog X.w) A (genexprCode X.env pos qn scope) Q E s :=by
 have vy:s.heap.get? P=some (OF ps):=I.hok P _ hP
 have ky:=hd.keeps I.bk
 have ic:=ky.code vy ht
 cases q:codeAmong pos ps.toList with
 |some c'=>
  refine wpAny_genexprCode_hit hc ic q (h c' ps s ht ?_ (fun _ _ _ e=>e) rfl)
  have e:upd H P (.cO ps)=H :=by
   funext b
   by_cases hb:b=P
   ·subst hb;rw [ay,hP]
   ·rw [af hb]
  rw [e];exact I
 |none=>
  refine wpAny_genexprCodeX hc ic (ky.tab vy) q fun c' h' tk ex h1 h2 Vq _ ta _=>?_
  obtain ⟨_,Ga⟩:=ta
  have tr:Nl (ps++#[rawInt pos.line,rawInt pos.col,li c']).toList :=by
   rw [WK]
   exact TriplesOk_snoc _ _ _ _ ht
  exact h _ _ _ tr (I.grown hP (fun b o hb e=>ex b o hb e) Ga tk) (fun b o hb e=>ex b o hb e) rfl
end
def md (s bh:ba):Prop:=bh.heap=s.heap/\bh.os=s.os/\Gn s.gens.size bh.gens
theorem Inv.k6 {X:Cx} {pins:List (ac×i4)} {σ:St} {H:Hp} {s bh:ba} (I:Inv X pins σ H s) (o:md s bh):Inv X pins σ H bh :=by
 obtain ⟨h,g,d,t,os⟩:=s
 obtain ⟨h',g',d',t',F6⟩:=bh
 obtain ⟨e1,e2,e3⟩:=o
 cases e1
 cases e2
 exact ⟨I.ok,I.os,I.bare.trans e3,I.base,I.loc,I.cell,I.free,I.freeC,I.pin,I.hok,I.len⟩
section
variable {Y:Cx} {A2:ma} {tg elt iter:dL} {ifs:List dL} {scope:u8} {pos:wn} {it:ac} {fp:List ac} {bu:Nat->ge->Prop} {J:It} {g:TG} {tt:TT} {te:TE} {pp:List (ac×i4)} {R:GenEnd} {Yp:Protocol}
def KJ (J:It) (g:TG) (tt:TT) (te:TE) (stopAt:Bool) (Z:Bool->Hp->Prop) (W:Nat->Nat->St->Hp->Prop):Prop:=∀i m τ H,W i m τ H->
 (J.stop i H/\Z (!stopAt) H)\/(J.go i H/\∀x H',J.yld i H x H'->g x τ H' fun aD H2=>tt aD H2 fun b H3=>if b=true then te aD H3 fun y H4=>∃c,y=.bl c/\(if c=stopAt then Z stopAt H4 else ∃m',m'<m/\W (i+1) m' aD H4) else ∃m',m'<m/\W (i+1) m' aD H3)
theorem Eg (hA:Y.A=A2.over (.compLoop (.GeneratorExp elt [⟨tg,iter,ifs,0⟩] scope pos) 0 (.ref it) .none Y.env) []) (nq:Y.xe=fun _ _=>False) (hc:Y.calm=true) (kI:Y.env.scope.isCoroutine=false)
  (T:Turn Y.prog Y.w Y.K tg J fp it bu) (hg:PG Y tg g) (ht:gL Y ifs tt) (he:PE Y elt te) (stat:∀{H':Hp},(∀b∈fp,H' b=none)->∀b∈fp,cD Y pp H' b)
  {W:Nat->Nat->St->Hp->Prop} {Z:Bool->Hp->Prop} {stopAt:Bool} (turn:KJ J g tt te stopAt Z W)
  (hR:∀n s₀ aw τ H,Inv Y pp τ H aw->Z (!stopAt) H->R n s₀ (.ok .next) aw)
  (hY:∀n s₀ s jO c τ H,Inv Y pp τ H s->(c=stopAt->Z stopAt H)->(c≠stopAt->∀bh,md s bh->jO (.send .none) bh)->Yp n s₀ (.bool c) s jO) :
  ∀(m n i:Nat) (τ:St) (H:Hp) (s s₀:ba),m<n->W i m τ H->Inv Y pp τ H s->bu i s.heap->(∀b∈fp,H b=none)->
   Seg (model Y.prog Y.w) A2 R Yp n s₀ (.compLoop (.GeneratorExp elt [⟨tg,iter,ifs,0⟩] scope pos) 0 (.ref it) .none Y.env)
    ((model Y.prog Y.w).den (.compLoop (.GeneratorExp elt [⟨tg,iter,ifs,0⟩] scope pos) 0 (.ref it) .none Y.env)) [] s :=by
 intro m
 induction m using WE with
 |ind m ih=>
  intro n i τ H s s₀ Gb w I st fr
  show Seg _ A2 _ _ _ s₀ _ ((compTurn (.GeneratorExp elt [⟨tg,iter,ifs,0⟩] scope pos) 0 (.ref it) .none Y.env).onRaise (leaving Y.env)) [] s
  rw [compTurn_gen,WL]
  rcases turn i m τ H w with ⟨stop,qn⟩|⟨go,step⟩
  ·refine ww (BB ?_)
   have d:=T.done Y rfl rfl rfl hc i pp s τ H (fun _ _=>False) I (stat fr) st stop
   rw [hA] at d
   refine ww (l7 d (fun r s1 ⟨hr,I1⟩=>?_) fun _ _ z=>z.elim)
   subst hr
   exact seg_end (.ok .next) (hR _ _ _ _ _ I1 qn)
  ·refine ww (BB ?_)
   have d:=T.item Y rfl rfl rfl hc i pp s τ H (fun _ _=>False) I (stat fr) st go
   rw [hA] at d
   refine ww (l7 d (fun r s4 ⟨u,hr,h4⟩=>?_) fun _ _ z=>z.elim)
   subst hr
   refine ww (l7 h4 (fun _ s5 ⟨x,H5,I5,r5,y5,jJ,vh⟩=>?_) fun _ _ z=>z.elim)
   have vi:=I5.pinned (stat vh) (T.obj _ _ jJ)
   have back:∀{o5:St} {H7:Hp} {s7:ba},Inv Y (pp++iM fp s5.heap) o5 H7 s7->bu (i+1) s7.heap/\∀b∈fp,H7 b=none:=fun {o5 H7 s7} I7=>by
    refine ⟨T.keep _ _ _ jJ fun b hb o e=>(I7.pin (b,o) (i1 _ (i1 _ (cK hb e)))).1,fun b hb=>?_⟩
    obtain ⟨o,e,d⟩:=T.obj _ _ jJ b hb
    exact (I7.pin (b,o) (i1 _ (i1 _ (cK hb e)))).2.1
   have d2:=hg _ s5 τ H5 x u _ vi r5 (step x H5 y5)
   rw [hA,nq] at d2
   refine ww (l7 d2 (fun _ s6 ⟨kG,H6,I6,q6⟩=>?_) fun _ _ z=>z.elim)
   have d3:=ht _ s6 kG H6 _ I6 q6
   rw [hA,nq] at d3
   refine ww (l7 d3 (fun ok s7 ⟨H7,I7,q7⟩=>?_) fun _ _ z=>z.elim)
   have hy:∀v,yieldOut Y.env v=yieldValue v:=fun v=>by simp only [yieldOut,kI,lw,if_false]
   cases ok with
   |false=>
    simp only [lw,if_false] at q7 ⊢
    obtain ⟨m',qQ,w7⟩:=q7
    exact Wq rfl (ih m' qQ n (i+1) kG H7 s7 s₀ (by omega) w7 I7.cg (back I7).1 (back I7).2)
   |true=>
    simp only [if_true] at q7 ⊢
    simp only [hy]
    rw [V9,V9,W5,W5]
    have d4:=he _ s7 kG H7 _ I7 q7
    rw [hA,nq] at d4
    refine seg_wrap (l7 d4 (fun yv s8 ⟨y,H8,I8,r8,q8⟩=>?_) fun _ _ z=>z.elim)
    obtain ⟨c,ey,q8⟩:=q8
    subst ey
    cases (show yv=Wv c from r8)
    obtain ⟨n,rfl⟩:∃n',n=n'+1:=⟨n - 1,by omega⟩
    refine seg_at (seg_yield rfl rfl rfl (hY _ _ _ _ c kG H8 I8.cg (fun e=>by rw [if_pos e] at q8;exact q8) fun e bh ok=>?_))
    rw [if_neg e] at q8
    obtain ⟨m',qQ,w8⟩:=q8
    have I9:=I8.k6 ok
    exact Wq rfl (ih m' qQ n (i+1) kG H8 bh bh (by omega) w8 I9.cg (back I9).1 (back I9).2)
end
abbrev dB (elt tg iter:dL) (ifs:List dL) (scope:u8) (pos:wn):dL:=.GeneratorExp elt [⟨tg,iter,ifs,0⟩] scope pos
abbrev KL (X:Cx) (N':List bn) (scope:u8) (cl:List (bn×ac)) (C:ac) (code:al) (A':ma) (s:ba) (H:Hp) (fp:List ac):Cx:=
 cxBlock X N' (genEnv scope cl C code builtinsNs X.env) A' (genEnv scope cl C code builtinsNs X.env::X.stack) s H fp
abbrev eC (X:Cx) (N':List bn) (scope:u8) (k:Nat) (P:Cx->Prop):Prop:=∀(cl:List (bn×ac)) (C:ac) (code:al) (A':ma) (s:ba) (H:Hp) (fp:List ac),bB k A'->P (KL X N' scope cl C code A' s H fp)
structure vz (X:Cx) (pins:List (ac×i4)) (σ:St) (N':List bn) (scope:u8) (tn:Nat) (idx:List Nat) (k:Nat) (elt tg iter:dL) (ifs:List dL) (pos:wn) (J:It) (H3:Hp) (a:ac) (s5:ba)
  (Y:Cx) (it:ac) (fp:List ac) (bu:Nat->ge->Prop) (g:Nat) (pp:List (ac×i4)):Prop where
 inv:Inv Y pp (bg tn idx σ) H3 s5
 isg:∀{τ:St} {H':Hp} {s':ba},Inv Y pp τ H' s'->s'.heap.IsGen a g
 st:s5.gens[g]?=some (.fresh (.compStart (dB elt tg iter ifs scope pos) 0 (.ref it) .none Y.env))
 T:Turn Y.prog Y.w Y.K tg J fp it bu
 tn0:bu 0 s5.heap
 fr:∀b∈fp,H3 b=none
 stat:∀{H':Hp},(∀b∈fp,H' b=none)->∀b∈fp,cD Y pp H' b
 out:∀{τ:St} {H':Hp} {s':ba},Inv Y pp τ H' s'->Inv X pins σ H' s'
 A:Y.A=X.A.in4.in1.over (.compLoop (dB elt tg iter ifs scope pos) 0 (.ref it) .none Y.env) []
 xe:Y.xe=fun _ _=>False
 calm:Y.calm=true
 co:Y.env.scope.isCoroutine=false
 gsz:∀{τ:St} {H':Hp} {s':ba},Inv Y pp τ H' s'->g<s'.gens.size
 blk:∀P:Cx->Prop,eC X N' scope k P->P Y
 prog:Y.prog=X.prog
 w:Y.w=X.w
section
variable {X:Cx} {tg elt iter:dL} {ifs:List dL} {scope:u8} {pos:wn} {N':List bn} {tn:Nat} {idx:List Nat} {wi:TI} {g:TG} {tt:TT} {te:TE} {c P:ac} {k:Nat}
def Gd (P:ac) (wi:TI) (R:It->Hp->Prop):St->Hp->Prop:=fun σ H=>wi σ H fun J H1=>Tb P H1/\∀ps,Nl ps.toList->R J (upd H1 P (.cO ps))
theorem vA {pins:List (ac×i4)} {s:ba} {σ:St} {H:Hp} {QQ:al->ba->Prop} {R:It->Hp->Prop} (hr:bB (k+1) X.A) (hc:X.calm=true) (B:aI X.N X.env.scope scope N' tn idx)
  (h0:scope.names.lookup (".0" : bn)=some .local) (kI:scope.isCoroutine=false) (dP:X.env.code=.ref c) (hd:sB X.base c P) (dM:∃bm ob,Wa X.base mainGlobals X.mg bm ob)
  (hi:PI X tg iter wi) (hs:∀x,genFold iter X.env x=pure x) (I:Inv X pins σ H s) (h:Gd P wi R σ H)
  (q:∀J H3 a s5 Y it fp bu gn pp,vz X pins σ N' scope tn idx k elt tg iter ifs pos J H3 a s5 Y it fp bu gn pp->R J H3->QQ (.ref a) s5) :
  wpAny (model X.prog X.w) X.A (eval (dB elt tg iter ifs scope pos) X.env) QQ X.xe s :=by
 obtain ⟨cl,iC,c6,fh⟩:=gU (scope:=scope) (env:=X.env) fun n hn=>I.ok.has n ((B.2.1 _ hn).2.2 rfl)
 refine wpAny_GeneratorExp_make kI iC (fun y hy=>(B.2.1 y hy).1) h0 B.1 hr.depth (thn (hi pins s σ H _ I h) fun xv s1 h1=>thn h1 fun yx s2 h2=>?_) hs
 obtain ⟨it,fp,bu,J,H2,e,I2,T,qz,f2,⟨ps,hP,ny⟩,q2⟩:=h2
 subst e
 refine ⟨I2.nolimit,sr I2 dP hd hP ny fun code gW s3 SQ I3 kp Vr=>?_⟩
 obtain ⟨bm,ob,bmod⟩:=dM
 have gM:=bmod.keeps I3.bk
 refine wpAny_builtinsFor (by rw [I3.ok.glob];exact gM.ns) gM.name gM.ne gM.obj gM.cls gM.dict gM.data ?_
 intro h' vc tS
 have P4:∀b∈fp,b≠P:=fun b hb z=>by have:=(f2 b hb).1;rw [z,hP] at this;cases this
 have tF:bu 0 s3.heap:=T.keep _ _ _ qz fun b hb o e=>kp b o (P4 b hb) e
 have mX:∀b∈fp,b<s3.heap.objs.size:=fun b hb=>let ⟨o,e,_⟩:=T.obj _ _ tF b hb;hX e
 have f3:∀b∈fp,cD X pins (upd H2 P (.cO gW)) b:=fun b hb=>⟨by rw [af (P4 b hb)];exact (f2 b hb).1,(f2 b hb).2⟩
 have hsz:h'.objs.size=s3.heap.objs.size+1 :=by rw [tS.1,CS]
 have Oy:∀b o,s3.heap.get? b=some o->h'.get? b=some o:=fun b o e=>tS.extBut b o (jp (hX e)) (cb _ e)
 have P5:Gn s3.gens.size (s3.gens.push (.fresh (.compStart (dB elt tg iter ifs scope pos) 0 (.ref it) .none (genEnv scope cl s3.heap.objs.size code builtinsNs X.env)))):=⟨XJ.push I3.bare.1 rfl,by rw [XE];exact ET _⟩
 have P6:Inv X pins σ (upd H2 P (.cO gW)) {s3 with gens:=s3.gens.push (.fresh (.compStart (dB elt tg iter ifs scope pos) 0 (.ref it) .none (genEnv scope cl s3.heap.objs.size code builtinsNs X.env)))}:=I3.k6 ⟨rfl,rfl,P5⟩
 have hA:(X.A.in4.in1.over (.compLoop (dB elt tg iter ifs scope pos) 0 (.ref it) .none (genEnv scope cl s3.heap.objs.size code builtinsNs X.env)) []).frames=some (genEnv scope cl s3.heap.objs.size code builtinsNs X.env::X.stack) :=by
  show pushEnvs [_] (pushEnvs [] X.A.frames)=_
  rw [I.ok.frames];rfl
 have qR:bB k (X.A.in4.in1.over (.compLoop (dB elt tg iter ifs scope pos) 0 (.ref it) .none (genEnv scope cl s3.heap.objs.size code builtinsNs X.env)) []) :=by
  refine ⟨hr.hd,?_,?_⟩
  ·show X.A.depth+0+1+3 * k+5<recursionLimit
   have:=hr.dp
   omega
  ·show X.A.units+1+1+1+1+1+0+3+16 * k+200<cLine
   have:=hr.un
   omega
 generalize qS:({cls:=.type "generator",data:=.fields #[.int s3.gens.size 0,.str "<genexpr>" (s3.toks+1),.str (X.env.qual ++ "<genexpr>") (s3.toks+1+1)]}:i4)=o7
 have uV:∀b o,s3.heap.get? b=some o->(h'.push o7).get? b=some o:=fun b o e=>cb _ (Oy b o e)
 have Rx:o7.isFreed=false :=by rw [<- qS];rfl
 have SR:(h'.push o7).get? h'.objs.size=some o7:=f8 _ Rx
 have SU:h'.objs.size≠s3.heap.objs.size :=by rw [hsz];exact Nat.succ_ne_self _
 have SV:upd H2 P (.cO gW) h'.objs.size=none:=I3.hok.fresh (by rw [hsz];exact ET _)
 have I5:=tP (X:=X) (N':=N') (A':=X.A.in4.in1.over (.compLoop (dB elt tg iter ifs scope pos) 0 (.ref it) .none (genEnv scope cl s3.heap.objs.size code builtinsNs X.env)) []) (env':=genEnv scope cl s3.heap.objs.size code builtinsNs X.env) (stack':=genEnv scope cl s3.heap.objs.size code builtinsNs X.env::X.stack) (ex:=fp) (h1:=h'.push o7) (m0:=fun y=>if y = ".0" then some (.ref it) else none)
  (g':=s3.gens.push (.fresh (.compStart (dB elt tg iter ifs scope pos) 0 (.ref it) .none (genEnv scope cl s3.heap.objs.size code builtinsNs X.env)))) (tk:=s3.toks+1+1+1) (aF:=bg tn idx σ) P6 B.1 rfl I3.ok.blt.symm c6 (fun x hx=>by
   have lq:scope.names.lookup x=some .cell\/scope.names.lookup x=some .free:=hx
   rcases lq with z|z
   ·exact absurd rfl ((B.2.1 _ (wp z)).1)
   ·exact fh x (wp z)) (fun z=>I.ok.hd z) hA (.inr ⟨rfl,rfl⟩) (cr _) f3 mX (Un.kept uV) (I3.hok.kept uV) (I3.hok.fresh (cr _)) uV (vc.push _) (fun i x v e1 e2 e3=>by
   obtain ⟨fr,j,e4,e5⟩:=B.at e1 e2
   have kx:=(B.2.1 _ (wp fr)).2.2 rfl
   exact ⟨.inr fr,.inr kx,kx,j,e4,e5⟩) (B.len σ) (Gn.self P5)
 have SW:h'.objs.size ∉ dQ X.stack:=fun z=>by
  rcases kw.mp (I3.fZ _ z) with q|q
  ·exact OL (l8 I3.lt (by rw [hsz];exact ET _)) q
  ·exact I3.JB (by rw [hsz];exact ET _) q
 have uS:∀v,o7.data≠.cell v :=by rw [<- qS];intro v z;cases z
 have I6:=I5.se (pins':=[(h'.objs.size,o7)]) (fun p hp=>by
  rcases lp.mp hp with rfl
  exact ⟨SR,SV,SU,SW,uS⟩)
 refine q J _ _ _ (KL X N' scope cl s3.heap.objs.size code _ _ _ fp) it fp bu s3.gens.size [(h'.objs.size,o7)] ⟨I6,fun {τ H' s'} J'=>?_,?_,T,T.keep _ _ _ tF fun b _ o e=>uV b o e,fun b hb=>(f3 b hb).1,fun {H'} hn b hb=>?_,fun {τ H' s'} J'=>?_,rfl,rfl,hc,kI,fun {τ H' s'} J'=>?_,fun Pp hb=>hb cl _ code _ _ _ fp qR,rfl,rfl⟩ (q2 gW SQ)
 ·have:=(J'.pin (h'.objs.size,o7) (i1 _ (lp.mpr rfl))).1
  exact ⟨o7,_,_,this,by rw [<- qS],by rw [<- qS],by rw [<- qS]⟩
 ·exact Array.getElem?_push_size ..
 ·refine ⟨hn b hb,jp (mX b hb),fun z=>?_,.inl hb,fun x c e=>(f2 b hb).2.2.2.2.1 x c (c6 x c e),fun p hp z=>?_⟩
  ·rcases kw.mp (I2.fZ b z) with q|q
   ·exact (f2 b hb).2.1 q
   ·exact (f2 b hb).2.2.1 q
  ·rcases lp.mp hp with rfl
   have z':h'.objs.size=b:=z
   have:=mX b hb
   rw [<- z',hsz] at this
   exact absurd this (XO.mpr (ET _))
 ·exact P6.qp J'.os J'.base J'.hok J'.bare fun b hb=>⟨(f3 b hb).2.2.2.1,(f3 b hb).2.1,(f3 b hb).2.2.2.2.1,(f3 b hb).2.2.2.2.2⟩
 ·have:=J'.bare.2
  have e:(KL X N' scope cl s3.heap.objs.size code (X.A.in4.in1.over (.compLoop (dB elt tg iter ifs scope pos) 0 (.ref it) .none (genEnv scope cl s3.heap.objs.size code builtinsNs X.env)) []) {s3 with gens:=s3.gens.push (.fresh (.compStart (dB elt tg iter ifs scope pos) 0 (.ref it) .none (genEnv scope cl s3.heap.objs.size code builtinsNs X.env)))} (upd H2 P (.cO gW)) fp).s₀.gens.size=s3.gens.size+1 :=by
   show (s3.gens.push _).size=_
   rw [XE]
  rw [e] at this
  omega
theorem Eh {prog:ff} {w:ii} {A:ma} {a:ac} {R':Wz->ba->Prop} (In:Nat->ba->Prop)
  (turn:∀n s,In n s->wpAny (model prog w) A.in1 (pyNext (.ref a)) (fun r s1=>match r with
   |none=>R' (.ok (.ret (.bool true))) s1
   |some v=>∃c,v=.bool c/\if c=true then ∃m,m<n/\In m s1 else R' (.ok (.ret (.bool false))) s1) (fun e s'=>R' (.error e) s') s) :
  ∀(n:Nat) (s:ba),In n s->codeAny (model prog w) A (.builtin "all.loop" ⟨[.ref a],[]⟩) R' s :=by
 intro n
 induction n using WE with
 |ind n ih=>
  intro s h
  refine ze F.entry_all_loop ?_
  rw [xp Wm _]
  show wpAny _ A.in1 (pyNext (.ref a)>>=_) _ _ s
  refine ap (l7 (turn n s h) (fun r s1 q=>?_) fun _ _ z=>z)
  cases r with
  |none=>exact ap (Ix (bv q))
  |some v=>
   obtain ⟨c,e,q⟩:=q
   subst e
   refine ap (AT (zw ?_))
   refine ap (wpAny_letGo ?_)
   cases c with
   |true=>
    simp only [if_true] at q ⊢
    obtain ⟨m,hm,hI⟩:=q
    exact bv ⟨EQ Wm _,ih m hm s1 hI⟩
   |false=>
    simp only [lw,if_false] at q ⊢
    exact ap (Ix (bv q))
theorem gN {s:ba} {g:Nat} {x:RS} {n:Nat} (h:Gn n s.gens) (hx:x.bare=true):Gn s.gens.size (s.setGen g x).gens :=by
 refine ⟨fun y hy=>?_,?_⟩
 ·have SX:y∈s.gens.setIfInBounds g x:=hy
  rcases Array.mem_or_eq_of_mem_setIfInBounds SX with z|z
  ·exact h.1 y z
  ·rw [z];exact hx
 ·show s.gens.size<=(s.gens.setIfInBounds g x).size
  rw [Array.size_setIfInBounds]
  exact cr _
theorem tT {s:ba} {g:Nat} {x:RS} (h:g<s.gens.size):(s.setGen g x).gens[g]?=some x :=by
 show (s.gens.setIfInBounds g x)[g]?=_
 rw [Array.getElem?_setIfInBounds_self]
 simp [h]
theorem tU {Y:Cx} {A2:ma} {R:GenEnd} {Yp:Protocol} {n:Nat} {s₀ s:ba} {it:ac} {J:It} {fp:List ac} {bu:Nat->ge->Prop} (T:Turn Y.prog Y.w Y.K tg J fp it bu) {i:Nat} (st:bu i s.heap)
  (loop:Seg (model Y.prog Y.w) A2 R Yp n s₀ (.compLoop (dB elt tg iter ifs scope pos) 0 (.ref it) .none Y.env) ((model Y.prog Y.w).den (.compLoop (dB elt tg iter ifs scope pos) 0 (.ref it) .none Y.env)) [] s) :
  Seg (model Y.prog Y.w) A2 R Yp n s₀ (.compStart (dB elt tg iter ifs scope pos) 0 (.ref it) .none Y.env) ((model Y.prog Y.w).den (.compStart (dB elt tg iter ifs scope pos) 0 (.ref it) .none Y.env)) [] s :=by
 show Seg _ A2 _ _ _ s₀ _ ((compStart (dB elt tg iter ifs scope pos) 0 (.ref it) .none Y.env).onRaise (leaving Y.env)) [] s
 unfold compStart
 rw [WL]
 show Seg _ A2 _ _ _ s₀ _ ((ask>>=_).wrap _ _ _ _) [] s
 refine ww (T0 ?_)
 split
 ·exact Wq rfl loop
 ·first
   |exact ww (Ix (ww (BB (ww (T.self _ i s _ _ st (Wq rfl loop))))))
   |(refine ww (Ix ?_);show Seg _ A2 _ _ _ s₀ _ ((standAt iter.pos>>=_).wrap _ _ _ _) [] s;exact ww (BB (ww (T.self _ i s _ _ st (Wq rfl loop)))))
def KN (P:ac) (tn:Nat) (idx:List Nat) (wi:TI) (g:TG) (tt:TT) (te:TE):TE:=fun σ H Q=>Gd P wi (fun J H1=>∃W:Nat->Nat->St->Hp->Prop,(∃m,W 0 m (bg tn idx σ) H1)/\KJ J g tt te false (fun b H2=>Q (.bl b) H2) W) σ H
theorem KO {p k7:wn} (hr:bB (k+1) X.A) (hc:X.calm=true) (B:aI X.N X.env.scope scope N' tn idx)
  (h0:scope.names.lookup (".0" : bn)=some .local) (kI:scope.isCoroutine=false) (dP:X.env.code=.ref c) (hd:sB X.base c P) (dM:∃bm ob,Wa X.base mainGlobals X.mg bm ob)
  (vB:Gl X "all") (hm:X.mg "all" = none) (hi:PI X tg iter wi) (hg:eC X N' scope k fun Y=>PG Y tg g) (ht:eC X N' scope k fun Y=>gL Y ifs tt) (he:eC X N' scope k fun Y=>PE Y elt te)
  (hs:∀x,genFold iter X.env x=pure x :=by intro _;rfl):PE X (.Call (.Name "all" p) [dB elt tg iter ifs scope k7] [] pos) (KN P tn idx wi g tt te) :=by
 refine ⟨?_⟩
 intro pins s σ H Q I h
 refine Do (f6 I vB hm PyProof.Rows.boot_all ?_)
 refine PyProof.Rows.callWith_builtin1 ?_ rfl rfl
 show wpAny _ _ (spliced ((false,eval (dB elt tg iter ifs scope k7) X.env)::[])) _ _ s
 refine Nd (vA hr hc B h0 kI dP hd dM hi hs I h ?_)
 intro J H3 a s5 Y it fp bu gn pp G ⟨W,⟨m0,w0⟩,turn⟩
 refine NO ?_
 refine call_function_tree F.kind_all F.plain_all F.entry_all (F.args_all1 _) ?_
 unfold u7.«all»
 refine ap (m:=oneArg "all" _) (bv ?_)
 refine ap (wpAny_pyIter_gen (G.isg G.inv) ?_)
 refine bv ⟨EQ Wm _,?_⟩
 have zO:=Eg (A2:=X.A.in4.in1) (pp:=pp) (R:=fun n s₀ r aw=>r=.ok .next/\∃τ H,Inv Y pp τ H aw/\Q (.bl true) H)
  (Yp:=fun n s₀ v s jO=>∃c τ H,v=.bool c/\Inv Y pp τ H s/\(c=false->Q (.bl false) H)/\(c≠false->∀bh,md s bh->jO (.send .none) bh)) G.A G.xe G.calm G.co G.T (G.blk _ hg) (G.blk _ ht) (G.blk _ he) G.stat turn
  (fun n s₀ aw τ H J z=>⟨rfl,τ,H,J,z⟩) (fun n s₀ s jO c τ H J z1 z2=>⟨c,τ,H,rfl,J,z1,z2⟩)
 have hP:=G.prog
 have hW:=G.w
 rw [hP,hW] at zO
 refine Eh (A:=X.A) (fun n s=>(∃τ H,Inv Y pp τ H s)/\∃gs,s.gens[gn]?=some gs/\∀bh,md s bh->gs.Goes (model X.prog X.w) X.A.in4.in1 (fun n s₀ r aw=>r=.ok .next/\∃τ H,Inv Y pp τ H aw/\Q (.bl true) H)
  (fun n s₀ v s jO=>∃c τ H,v=.bool c/\Inv Y pp τ H s/\(c=false->Q (.bl false) H)/\(c≠false->∀bh,md s bh->jO (.send .none) bh)) n (.send .none) bh) ?_ (m0+1) s5 ?_
 ·rintro n s6 ⟨⟨τ,H6,I6⟩,gs,KP,qS⟩
  have Vg:=G.gsz I6
  refine Xu (Xu (Xu ?_))
  show wpAny (model X.prog X.w) X.A.in4 (pyNext (.ref a)) _ _ s6
  refine wpAny_pyNext_genexpQ (A:=X.A.in4) (P:=fun n s₀ aw=>∃τ H,Inv Y pp τ H aw/\Q (.bl true) H) hr.hd I6.nolimit hr.depth (G.isg I6) KP (qS _ ⟨rfl,rfl,gN I6.bare rfl⟩) (fun v s1 BJ hb hv=>?_) (fun s1 hp h' hk=>?_)
  ·obtain ⟨c,yF,H1,e,I1,z1,z2⟩:=hv
   subst e
   refine ⟨c,rfl,?_⟩
   have vC:md s1 (s1.setGen gn BJ):=⟨rfl,rfl,gN I1.bare hb⟩
   cases c with
   |false=>
    rw [if_neg gl]
    exact ⟨.bl false,H1,G.out (I1.k6 vC),rfl,z1 rfl⟩
   |true=>
    rw [if_pos rfl]
    have z3:=z2 (by decide)
    cases n with
    |zero=>exact (z3 s1 ⟨rfl,rfl,I1.bare.self⟩).elim
    |succ m=>
     refine ⟨m,Cf _,⟨yF,H1,I1.k6 vC⟩,BJ,tT (G.gsz I1),fun bh o=>z3 bh ⟨o.1,o.2.1,?_⟩⟩
     exact vC.2.2.trans o.2.2
  ·obtain ⟨yF,H1,I1,z1⟩:=hp
   have I2:=I1.kept (t':=s1.toks) hk
   have KQ:md {s1 with heap:=h'} {s1.setGen gn .finished with heap:=h'}:=⟨rfl,rfl,gN (s:=s1) I1.bare rfl⟩
   exact ⟨.bl true,H1,G.out (I2.k6 KQ),rfl,z1⟩
 ·refine ⟨⟨_,_,G.inv⟩,_,G.st,fun bh o=>⟨rfl,?_⟩⟩
  have I7:=G.inv.k6 o
  have BK:bu 0 bh.heap :=by rw [o.1];exact G.tn0
  have q:=tU (iter:=iter) (ifs:=ifs) (scope:=scope) (pos:=k7) (elt:=elt) G.T BK (by rw [hP,hW];exact zO m0 (m0+1) 0 _ _ bh bh (Cf _) w0 I7 BK G.fr)
  rw [hP,hW] at q
  exact q
end
section
variable {X:Cx} {tg l:dL} {tl:TE}
theorem cq {xs:List V} {us:List al} (r:Vals xs us) {j:Nat} (h:j<us.toArray.size):RelV (xs.getD j .au) us.toArray[j] :=by
 have hl:=r.length
 have hj:j<xs.length :=by simpa [hl] using h
 obtain ⟨u,e,q⟩:=r.get (i:=j) (x:=xs[j]) (ag hj)
 have e2:us.toArray[j]=u :=by
  rw [br] at e
  obtain ⟨h',e⟩:=e
  simpa using e
 rw [e2,ci,ag hj]
 exact q
theorem xO:cL X (.builtin "isinstance") (fun xs H Q=>∃x T t b,xs=[x,.ty T]/\gA X.K H x t/\WP X.K t (.type T)=some b/\Q (.bl b) H) :=by
 intro pins s σ H xs us Q I r h
 obtain ⟨x,T,t,b,rfl,ty,e,q⟩:=h
 obtain ⟨u,w',rfl,r1,r2⟩:=vals2 r
 cases (show w'=AM T from r2)
 exact Bn I r1 ty e fun tk=>⟨.bl b,H,I.tok tk,rfl,q⟩
theorem o8:∀{xs:List V} {us:List al},xs.length=us.length->(∀(i:Nat) (v:V),xs[i]?=some v->∃u,us[i]?=some u/\RelV v u)->Vals xs us
 | [],[],_,_=>.nil
 | [],_::_,h,_=>by simp at h
 |_::_,[],h,_=>by simp at h
 |x::xs,u::us,h,g=>by
          obtain ⟨u',e,r⟩:=g 0 x rfl
          have e':u=u':=by simpa using e
          subst e'
          exact .cons r (o8 (by simpa using h) fun i v hv=>by
           obtain ⟨w,e2,r2⟩:=g (i+1) v (by simpa using hv)
           exact ⟨w,by simpa using e2,r2⟩)
theorem vD {e:dL} {te:TE} {p p1 p2 pos:wn} (hc:X.calm=true) (hg:Gl X "list") (hm:X.mg "list" = none) (KR:Gl X "range") (KS:X.mg "range" = none) (he:PE X e te) (hs:starEach [e] X.env=[(false,eval e X.env)] :=by rfl) :
  PE X (.Call (.Name "list" p) [.Call (.Name "range" p1) [e] [] p2] [] pos) (fun σ H Q=>te σ H fun x H1=>∃j:Int,x=.int j /\ -(2 ^ 24)<=j/\j<=2 ^ 24/\∀l,H1 l=none->Q (.ref l) (upd H1 l (.lst ((i0 j.toNat).map fun i=>V.int (i:Nat))))) :=by
 refine ⟨?_⟩
 intro pins s σ H Q I h
 refine Do (f6 I hg hm (by decide +kernel:bootBuiltins "list" = some (.type "list")) ?_)
 refine AN ?_ rfl rfl
 show wpAny _ _ (spliced ((false,eval (.Call (.Name "range" p1) [e] [] p2) X.env)::[])) _ _ s
 refine Nd ?_
 refine Call_ (f6 I KR KS boot_range (AN ?_ hs rfl))
 rw [hs]
 refine Nd (thn (he pins s σ H _ I h) fun v s1 ⟨x,H1,I1,r1,q1⟩=>NO ?_)
 obtain ⟨j,rfl,b1,b2,q⟩:=q1
 obtain ⟨t,rfl⟩:=r1
 refine call_range_1 ?_
 refine NO ?_
 refine call_list_range (n:=j.toNat) (I1.ok.hd hc) (IsRange.new ..) (small_one (by omega) (by omega) (by omega) (by omega)) (by rw [PyProof.Rows.rangeSize_nat];simp) (by omega) fun h' tk i5 c' hk hS hit=>?_
 have I2:Inv X pins σ H1 {s1 with heap:=s1.heap.push {cls:=.type "range",data:=.fields #[.int 0 s1.toks,.int j t,.int 1 (s1.toks+1)]},toks:=s1.toks+1+1}:=I1.kept fun b o e=>cb _ e
 obtain ⟨hsz,qT⟩:=hit
 have rv:Vals ((i0 j.toNat).map fun i=>V.int (i:Nat)) i5.toList :=by
  refine o8 (by simpa using hsz.symm) fun i v e=>?_
  rw [ce] at e
  cases q2:(i0 j.toNat)[i]? with
  |none=>rw [q2] at e;cases e
  |some k=>
   rw [q2] at e
   have ek:k=i :=by
    obtain ⟨_,e3⟩:=br.mp q2
    simpa using e3.symm
   have hi:i<i5.size :=by
    have:=(br.mp q2).1
    rw [SC] at this
    omega
   obtain ⟨t2,e4⟩:=qT i i5[i] (by simp [hi])
   refine ⟨i5[i],by simp [hi],?_⟩
   rw [e4]
   have e5:v=V.int (k:Nat):=(ij e).symm
   rw [e5,ek]
   exact ⟨t2,by simp⟩
 have ob:ObjOk X.prog X.w (upd H1 (s1.heap.push {cls:=.type "range",data:=.fields #[.int 0 s1.toks,.int j t,.int 1 (s1.toks+1)]}).objs.size (.lst ((i0 j.toNat).map fun i=>V.int (i:Nat)))) h' (s1.heap.push {cls:=.type "range",data:=.fields #[.int 0 s1.toks,.int j t,.int 1 (s1.toks+1)]}).objs.size (.lst ((i0 j.toNat).map fun i=>V.int (i:Nat))) :=by
  refine ⟨?_,i5.toList,c',rv,by simpa using hS⟩
  rw [c8,SC]
  exact wv (show j.toNat<=2 ^ 24 by omega) (by decide)
 exact ⟨.ref _,_,I2.laid (t':=tk) hk (cr _) ob,rfl,q _ (I2.hok.fresh (cr _))⟩
end
theorem BL:bootBuiltins "int" = some (.type "int") :=by decide +kernel
theorem sx:bootBuiltins "bool" = some (.type "bool") :=by decide +kernel
theorem fw:bootBuiltins "tuple" = some (.type "tuple") :=by decide +kernel
theorem qU:bootBuiltins "min" = some (.builtin "min") :=by decide +kernel
theorem KU:bootBuiltins "max" = some (.builtin "max") :=by decide +kernel
theorem vE:bootBuiltins "abs" = some (.builtin "abs") :=by decide +kernel
theorem bC:bootBuiltins "isinstance" = some (.builtin "isinstance") :=by decide +kernel
structure Bl (mg:bn->Option al):Prop where
 len_:mg "len" = none
 range_:mg "range" = none
 min_:mg "min" = none
 max_:mg "max" = none
 abs_:mg "abs" = none
 list_:mg "list" = none
 tuple_:mg "tuple" = none
 int_:mg "int" = none
 str_:mg "str" = none
 bool_:mg "bool" = none
 isinstance_:mg "isinstance" = none
 all_:mg "all" = none
 set_:mg "set" = none
 sorted_:mg "sorted" = none
 zip_:mg "zip" = none
 enumerate_:mg "enumerate" = none
 sum_:mg "sum" = none
 reversed_:mg "reversed" = none
 divmod_:mg "divmod" = none
 any_:mg "any" = none
 ValueError_:mg "ValueError" = none
structure Df (K:bi) (mg:bn->Option al) (x:bn) (st:r6) (ps:List bn) (f:ac) (fd:l5):Prop where
 fn:tO K x x st f fd
 bd:Binds K fd ps []
 mg:mg x=some (.ref f)
structure yG (base:ge) (fd:l5) (c P:ac):Prop where
 code:fd.code=.ref c
 hd:sB base c P
section
variable {P:ff} {w:ii} {K:bi} {mg:bn->Option al} {base:ge}
theorem tO.SY {x qual:bn} {st:r6} {f:ac} {fd:l5} {N ps:List bn} {k:Nat} {sp:Sp} (F:tO K x qual st f fd) (S:aN N ps (aj st)) (len:∀vs H Q E,sp vs H Q E->vs.length=ps.length)
  (lY:∀(A:ma) (outer:List IR) (s:ba) (H:Hp) (vs:List V) (Q:VK) (E:XK),bB k (A.deeper (envOfC qual (aj st) s.heap.objs.size f fd.code))->sp vs H Q E->
   ∃t,fT (fW bf P w K mg base N qual (aj st) f fd.code A outer s H E).jd (bK st) t/\t {nx:=fun _ H'=>Q .au H',rt:=Q} (start N vs) H):FnOk P w K mg base bf (k+1) f fd ps sp :=by
 obtain ⟨oc,od,kV,doc,pm,an,cJ,ct,iN,rfl,lk,dR⟩:=F.ex
 refine zG lk dR S len fun A outer s H vs Q E hr kz=>?_
 obtain ⟨t,h,q⟩:=lY A outer s H vs Q E hr kz
 exact ⟨t,h.jd,q⟩
end
def Vs:V->Bool | .int _=>true|_=>false
def Vt (H:Hp):V->Bool | .ref a=>(match H a with|some (.tup _)=>true|_=>false)|_=>false
def below (m:Int):V->Bool | .int i=>decide (0<=i) && decide (i<m)|_=>false
def pI (H:Hp) (m:Int) (w:Nat):V->Bool
 | .ref a=>(match H a with|some (.tup ys)=>decide (ys.length=w) && ys.all (below m)|_=>false)
 |_=>false
structure aS (net:List (List Int)) (w:Nat):Prop where
 one:1<=net.length
 nine:net.length<=9
 wid:w=2\/w=3
 row:∀r∈net,r.length=w/\∀g∈r,0<=g/\g<(net.length:Int)
def Ge (tb:List ac) (H:Hp):Prop:=∀p∈tb,Tb p H
def Oz (H:Hp) (b:ac):Prop:=∃c m:Int,H b=some (.lst [.int c,.int m])/\0<=c/\0<=m
def Runs (J:It) (ys:List V) (H:Hp):Prop:=∀i,(i<ys.length->J.go i H/\∀x H',J.yld i H x H'->H'=H/\ys[i]?=some x)/\(ys.length<=i->J.stop i H)
theorem Ei {K:bi} {a:ac} {ys:List V} {H:Hp} (h:cI K H a ys):Runs (JX K a) ys H:=fun i=>
 ⟨fun hi=>⟨⟨ys,ys[i],h,ag hi⟩,fun x H' y=>⟨y.1,y.2 ys h⟩⟩,fun hi=>⟨ys,h,hi⟩⟩
theorem BM {K:bi} {a:ac} {ys:List V} {H:Hp} (h:bF K H a ys):Runs (JW K a) ys H:=fun i=>
 ⟨fun hi=>⟨⟨ys,ys[i],h,ag hi⟩,fun x H' y=>⟨y.1,y.2 ys h⟩⟩,fun hi=>⟨ys,h,hi⟩⟩
theorem qV {lo:Int} {n:Nat} {H:Hp}:Runs (Bb lo n) ((i0 n).map fun i=>V.int (lo+(i:Nat))) H:=fun i=>by
 have el:((i0 n).map fun i=>V.int (lo+(i:Nat))).length=n :=by simp
 rw [el]
 refine ⟨fun hi=>⟨hi,fun x H' y=>?_⟩,fun hi=>hi⟩
 obtain ⟨e1,e2⟩:=y
 refine ⟨e1,?_⟩
 rw [e2,ce,xb hi]
 rfl
section
variable {X:Cx} {K:bi}
theorem yH (h:X.K=K):nh X (P0 K):=h▸Kr
theorem zP (h:X.K=K):OpR X (compareOp .In) (Ku K false):=h▸Bu
theorem BO (h:X.K=K):cL X (.builtin "len") (fun xs H Q=>∃x n,xs=[x]/\Ke K x H n/\Q (.int n) H):=h▸Ea
theorem sy (h:X.K=K):cL X (.type "tuple") (fun xs H Q=>∃p ys,xs=[.ref p]/\((bF K H p ys/\∀l,H l=none->Q (.ref l) (upd H l (.tup ys)))\/(cI K H p ys/\Q (.ref p) H))):=h▸uH
theorem vF (h:X.K=K):cL X (.builtin "isinstance") (fun xs H Q=>∃x T t b,xs=[x,.ty T]/\gA K H x t/\WP K t (.type T)=some b/\Q (.bl b) H):=h▸xO
theorem Ej {tg l:dL} {tl:TE} (h:X.K=K) (hl:PE X l tl):PI X tg l (F2 K tl):=h▸Hw hl
theorem HH {tg l:dL} {tl:TE} (h:X.K=K) (hl:PE X l tl):PI X tg l (JY K tl):=h▸JZ hl
variable {o e:dL} {es:List dL} {to:TE} {t:TA} {name:bn} {apos bG:wn} {T id:String} {r:V->List V->Hp->VK->Prop}
theorem KW (h:X.K=K) (pa:PlainAttrs T) (slot:Slot T name id) (Bv:typeOf (.builtin id)=pure (.type "method_descriptor")) (hm:Kk X id r) (ho:PE X o to) (ha:PA X (e::es) t) (qD:attributeBase o name X.env (eval o X.env)=eval o X.env :=by rfl)
  (vn:((backTo bG (starEach (e::es) X.env)).all (fun x => !x.1) && (backToKw bG (keywordEach [] X.env)).all (fun x=>x.1.isSome)
   && decide ((e::es).length+([]:List V4).length+(if ([]:List V4).isEmpty then 0 else 1)<30))=true :=by rfl)
  (hline:(apos.endLine==bG.line)=true :=by rfl) (hs:starEach (e::es) X.env=(false,eval e X.env)::starEach es X.env :=by rfl) (ni:(backTo bG (starEach es X.env)).any (·.1)=false :=by rfl) :
  PE X (.Call (.Attribute o name apos) (e::es) [] bG) (P1 K T r to t):=h▸Ov pa slot Bv hm ho ha qD vn hline hs ni
end
abbrev bP (K:bi) (x:bn) (st:r6):Prop:=
 ∃(f:ac) (oc:al) (od:Option ac) (sl:Array (Option al)) (kV dc pm:al) (an:Option ac) (cd ct:al),
  mf K mainGlobals x=some (some (.ref f))/\K.lookup f=some ⟨oc,od,.func (zn x x (cT st) (bK st) (aj st) .none kV dc pm an cd ct),sl⟩/\IS K cd x=true/\Co K (.ref f)=true
theorem aX {K:bi} {x:bn} {st:r6} {f:ac} {oc:al} {od:Option ac} {sl:Array (Option al)} {kV dc pm:al} {an:Option ac} {cd ct:al} (a:mf K mainGlobals x=some (some (.ref f)))
  (l:K.lookup f=some ⟨oc,od,.func (zn x x (cT st) (bK st) (aj st) .none kV dc pm an cd ct),sl⟩) (c:IS K cd x=true) (k:Co K (.ref f)=true):bP K x st:=⟨f,oc,od,sl,kV,dc,pm,an,cd,ct,a,l,c,k⟩
section
variable {K:bi} {mg:bn->Option al} {h base:ge}
theorem bP.df {x:bn} {st:r6} (d:bP K x st) (X:K.In h) (G:h.Ns mainGlobals mg) (ps:List bn)
  (hb:∀(kV doc pm:al) (an:Option ac) (cJ ct:al) (us:List al),us.length=ps.length->bindArgs (zn x x (cT st) (bK st) (aj st) .none kV doc pm an cJ ct) ⟨us,[]⟩=pure (ps.zip us)) :
  ∃f fd,Df K mg x st ps f fd :=by
 obtain ⟨f,oc,od,sl,kV,dc,pm,an,cd,ct,a,l,c,k⟩:=d
 have F:=KC (st:=st) l c k
 exact ⟨f,_,F,F.binds hb,Gc X G a⟩
theorem qX {x:bn} {st:r6} {ps:List bn} {f p:ac} {fd:l5} (D:Df K mg x st ps f fd) (X:K.In h)
  (t:∃f o fd c,mg x=some (.ref f)/\h.get? f=some o/\o.data=.func fd/\fd.code=.ref c/\sB h c p) (tr:∀c p,sB h c p->sB base c p):∃c,yG base fd c p :=by
 obtain ⟨f',o,Gf,c,e1,e2,e3,e4,e5⟩:=t
 obtain ⟨oc,od,kV,doc,pm,an,cJ,ct,iN,rfl,lk,dR⟩:=D.fn.ex
 have e:=D.mg.symm.trans e1
 cases e
 have q:=(X _ _ lk).symm.trans e2
 cases q
 cases e3
 exact ⟨c,e4,tr _ _ e5⟩
theorem Df.bind1 {x y:bn} {st:r6} {f:ac} {fd:l5} (D:Df K mg x st [y] f fd) (s:ba) (v:al)
  (hb:∀(kV doc pm:al) (an:Option ac) (cJ ct:al) (u:al),bindArgs (zn x x (cT st) (bK st) (aj st) .none kV doc pm an cJ ct) ⟨[u],[]⟩=pure [(y,u)]):Xr s fd ⟨[v],[]⟩ [(y,v)] :=by
 obtain ⟨oc,od,kV,doc,pm,an,cJ,ct,iN,rfl,lk,dR⟩:=D.fn.ex
 exact .of_eq (hb kV doc pm an cJ ct v)
theorem iD {α β:Type} {F:α->β->Prop} {a:α} {r:List α} {t:List β} (h:EN F (a::r) t):∃b t',t=b::t'/\F a b/\EN F r t':=by
 cases h with
 |cons x y=>exact ⟨_,_,rfl,x,y⟩
theorem recs_of {q:ff} {mY:List bn} (h:(mY.all fun y=>(recsOf q).any fun r=>decide (r.name=y))=true):∀y∈mY,∃r∈recsOf q,r.name=y:=fun y hy=>by
 have:=u4.mp h y hy
 obtain ⟨r,hr,e⟩:=List.any_eq_true.mp this
 exact ⟨r,hr,of_decide_eq_true e⟩
end
abbrev oB:=V->Hp->(Hp->Prop)->Prop
section
variable {Y:Cx} {A2:ma} {tg elt iter:dL} {ifs:List dL} {scope:u8} {pos:wn} {it:ac} {fp:List ac} {bu:Nat->ge->Prop} {J:It} {g:TG} {tt:TT} {te:TE} {pp:List (ac×i4)} {R:GenEnd} {Yp:Protocol}
def tGenV (J:It) (g:TG) (tt:TT) (te:TE) (C:oB) (Z:Hp->Prop) (W:Nat->Nat->St->Hp->Prop):Prop:=∀i m τ H,W i m τ H->
 (J.stop i H/\Z H)\/(J.go i H/\∀x H',J.yld i H x H'->g x τ H' fun aD H2=>tt aD H2 fun b H3=>if b=true then te aD H3 fun y H4=>C y H4 fun H5=>∃m',m'<m/\W (i+1) m' aD H5 else ∃m',m'<m/\W (i+1) m' aD H3)
theorem BP (hA:Y.A=A2.over (.compLoop (.GeneratorExp elt [⟨tg,iter,ifs,0⟩] scope pos) 0 (.ref it) .none Y.env) []) (nq:Y.xe=fun _ _=>False) (hc:Y.calm=true) (kI:Y.env.scope.isCoroutine=false)
  (T:Turn Y.prog Y.w Y.K tg J fp it bu) (hg:PG Y tg g) (ht:gL Y ifs tt) (he:PE Y elt te) (stat:∀{H':Hp},(∀b∈fp,H' b=none)->∀b∈fp,cD Y pp H' b)
  {W:Nat->Nat->St->Hp->Prop} {C:oB} {Z:Hp->Prop} (turn:tGenV J g tt te C Z W)
  (hR:∀n s₀ aw τ H,Inv Y pp τ H aw->Z H->R n s₀ (.ok .next) aw)
  (hY:∀n s₀ s jO y v τ H pl (N:Hp->Prop),RelV y v->Inv Y (pp++pl) τ H s->C y H N->(∀H5 bh,Inv Y (pp++pl) τ H5 bh->N H5->jO (.send .none) bh)->Yp n s₀ v s jO) :
  ∀(m n i:Nat) (τ:St) (H:Hp) (s s₀:ba),m<n->W i m τ H->Inv Y pp τ H s->bu i s.heap->(∀b∈fp,H b=none)->
   Seg (model Y.prog Y.w) A2 R Yp n s₀ (.compLoop (.GeneratorExp elt [⟨tg,iter,ifs,0⟩] scope pos) 0 (.ref it) .none Y.env)
    ((model Y.prog Y.w).den (.compLoop (.GeneratorExp elt [⟨tg,iter,ifs,0⟩] scope pos) 0 (.ref it) .none Y.env)) [] s :=by
 intro m
 induction m using WE with
 |ind m ih=>
  intro n i τ H s s₀ Gb w I st fr
  show Seg _ A2 _ _ _ s₀ _ ((compTurn (.GeneratorExp elt [⟨tg,iter,ifs,0⟩] scope pos) 0 (.ref it) .none Y.env).onRaise (leaving Y.env)) [] s
  rw [compTurn_gen,WL]
  rcases turn i m τ H w with ⟨stop,qn⟩|⟨go,step⟩
  ·refine ww (BB ?_)
   have d:=T.done Y rfl rfl rfl hc i pp s τ H (fun _ _=>False) I (stat fr) st stop
   rw [hA] at d
   refine ww (l7 d (fun r s1 ⟨hr,I1⟩=>?_) fun _ _ z=>z.elim)
   subst hr
   exact seg_end (.ok .next) (hR _ _ _ _ _ I1 qn)
  ·refine ww (BB ?_)
   have d:=T.item Y rfl rfl rfl hc i pp s τ H (fun _ _=>False) I (stat fr) st go
   rw [hA] at d
   refine ww (l7 d (fun r s4 ⟨u,hr,h4⟩=>?_) fun _ _ z=>z.elim)
   subst hr
   refine ww (l7 h4 (fun _ s5 ⟨x,H5,I5,r5,y5,jJ,vh⟩=>?_) fun _ _ z=>z.elim)
   have vi:=I5.pinned (stat vh) (T.obj _ _ jJ)
   have back:∀{o5:St} {H7:Hp} {s7:ba},Inv Y (pp++iM fp s5.heap) o5 H7 s7->bu (i+1) s7.heap/\∀b∈fp,H7 b=none:=fun {o5 H7 s7} I7=>by
    refine ⟨T.keep _ _ _ jJ fun b hb o e=>(I7.pin (b,o) (i1 _ (i1 _ (cK hb e)))).1,fun b hb=>?_⟩
    obtain ⟨o,e,d⟩:=T.obj _ _ jJ b hb
    exact (I7.pin (b,o) (i1 _ (i1 _ (cK hb e)))).2.1
   have d2:=hg _ s5 τ H5 x u _ vi r5 (step x H5 y5)
   rw [hA,nq] at d2
   refine ww (l7 d2 (fun _ s6 ⟨kG,H6,I6,q6⟩=>?_) fun _ _ z=>z.elim)
   have d3:=ht _ s6 kG H6 _ I6 q6
   rw [hA,nq] at d3
   refine ww (l7 d3 (fun ok s7 ⟨H7,I7,q7⟩=>?_) fun _ _ z=>z.elim)
   have hy:∀v,yieldOut Y.env v=yieldValue v:=fun v=>by simp only [yieldOut,kI,lw,if_false]
   cases ok with
   |false=>
    simp only [lw,if_false] at q7 ⊢
    obtain ⟨m',qQ,w7⟩:=q7
    exact Wq rfl (ih m' qQ n (i+1) kG H7 s7 s₀ (by omega) w7 I7.cg (back I7).1 (back I7).2)
   |true=>
    simp only [if_true] at q7 ⊢
    simp only [hy]
    rw [V9,V9,W5,W5]
    have d4:=he _ s7 kG H7 _ I7 q7
    rw [hA,nq] at d4
    refine seg_wrap (l7 d4 (fun yv s8 ⟨y,H8,I8,r8,q8⟩=>?_) fun _ _ z=>z.elim)
    obtain ⟨n,rfl⟩:∃n',n=n'+1:=⟨n - 1,by omega⟩
    refine seg_at (seg_yield rfl rfl rfl (hY _ _ _ _ y yv kG H8 _ _ r8 I8 q8 fun H9 bh I9 ⟨m',qQ,w8⟩=>?_))
    exact Wq rfl (ih m' qQ n (i+1) kG H9 bh bh (by omega) w8 I9.cg (back I9).1 (back I9).2)
end
section
variable {X:Cx} {tg elt iter:dL} {ifs:List dL} {scope:u8} {pos:wn} {N':List bn} {tn:Nat} {idx:List Nat} {wi:TI} {g:TG} {tt:TT} {te:TE} {c P:ac} {k:Nat}
def Gg (X Y:Cx) (pp:List (ac×i4)) (gn:Nat) (C:oB) (Z:Hp->Prop) (n:Nat) (H:Hp) (s:ba):Prop:=
 ∃τ pl gs,Inv Y (pp++pl) τ H s/\s.gens[gn]?=some gs/\∀bh,Inv Y (pp++pl) τ H bh->gs.Goes (model X.prog X.w) X.A.in4.in1 (fun _ _ r aw=>r=.ok .next/\∃τ H,Inv Y pp τ H aw/\Z H)
  (fun _ _ v s jO=>∃y τ H pl N,RelV y v/\Inv Y (pp++pl) τ H s/\C y H N/\∀H5 bh,Inv Y (pp++pl) τ H5 bh->N H5->jO (.send .none) bh) n (.send .none) bh
theorem OA {pins:List (ac×i4)} {σ:St} {J:It} {H3:Hp} {a:ac} {s5:ba} {Y:Cx} {it:ac} {fp:List ac} {bu:Nat->ge->Prop} {gn:Nat} {pp:List (ac×i4)} {C:oB} {Z:Hp->Prop} {n:Nat} {H:Hp} {s:ba} {E:al->ba->Prop}
  (hr:bB (k+1) X.A) (G:vz X pins σ N' scope tn idx k elt tg iter ifs pos J H3 a s5 Y it fp bu gn pp) (h:Gg X Y pp gn C Z n H s) :
  wpAny (model X.prog X.w) X.A.in4 (pyNext (.ref a)) (fun r s1=>match r with
   |none=>∃H1,Inv X pins σ H1 s1/\Z H1
   |some v=>∃y τ H1 pl N,RelV y v/\Inv Y (pp++pl) τ H1 s1/\C y H1 N/\∀H2 s2,Inv Y (pp++pl) τ H2 s2->s2.gens=s1.gens->N H2->∃m,m<n/\Gg X Y pp gn C Z m H2 s2) E s :=by
 obtain ⟨τ,pl,gs,I6,KP,qS⟩:=h
 refine wpAny_pyNext_genexpQ (A:=X.A.in4) (P:=fun _ _ aw=>∃τ H,Inv Y pp τ H aw/\Z H) hr.hd I6.nolimit hr.depth (G.isg I6.cg) KP (qS _ (I6.k6 ⟨rfl,rfl,gN I6.bare rfl⟩)) (fun v s1 BJ hb hv=>?_) (fun s1 hp h' hk=>?_)
 ·obtain ⟨y,yF,H1,P7,N,r1,I1,c1,z2⟩:=hv
  have vC:md s1 (s1.setGen gn BJ):=⟨rfl,rfl,gN I1.bare hb⟩
  refine ⟨y,yF,H1,P7,N,r1,I1.k6 vC,c1,fun H2 s2 I2 e2 n2=>?_⟩
  have z3:=z2 H2 s2 I2 n2
  cases n with
  |zero=>exact z3.elim
  |succ m=>exact ⟨m,Cf _,yF,P7,BJ,I2,by rw [e2];exact tT (G.gsz I1.cg),fun bh I3=>z2 H2 bh I3 n2⟩
 ·obtain ⟨yF,H1,I1,z1⟩:=hp
  have I2:=I1.kept (t':=s1.toks) hk
  have KQ:md {s1 with heap:=h'} {s1.setGen gn .finished with heap:=h'}:=⟨rfl,rfl,gN (s:=s1) I1.bare rfl⟩
  exact ⟨H1,G.out (I2.k6 KQ),z1⟩
theorem BQ {pins:List (ac×i4)} {σ:St} {J:It} {H3:Hp} {a:ac} {s5:ba} {Y:Cx} {it:ac} {fp:List ac} {bu:Nat->ge->Prop} {gn:Nat} {pp:List (ac×i4)} {C:oB} {Z:Hp->Prop} {W:Nat->Nat->St->Hp->Prop} {m0:Nat} {H4:Hp} {s6:ba}
  (G:vz X pins σ N' scope tn idx k elt tg iter ifs pos J H3 a s5 Y it fp bu gn pp) (hg:eC X N' scope k fun Y=>PG Y tg g) (ht:eC X N' scope k fun Y=>gL Y ifs tt) (he:eC X N' scope k fun Y=>PE Y elt te)
  (I6:Inv Y (pp++iM fp s5.heap) (bg tn idx σ) H4 s6) (S0:s6.gens=s5.gens) (turn:tGenV J g tt te C Z W) (w0:W 0 m0 (bg tn idx σ) H4):Gg X Y pp gn C Z (m0+1) H4 s6 :=by
 have zO:=BP (A2:=X.A.in4.in1) (pp:=pp) (R:=fun _ _ r aw=>r=.ok .next/\∃τ H,Inv Y pp τ H aw/\Z H)
  (Yp:=fun _ _ v s jO=>∃y τ H pl N,RelV y v/\Inv Y (pp++pl) τ H s/\C y H N/\∀H5 bh,Inv Y (pp++pl) τ H5 bh->N H5->jO (.send .none) bh) G.A G.xe G.calm G.co G.T (G.blk _ hg) (G.blk _ ht) (G.blk _ he) G.stat turn
  (fun n s₀ aw τ H J z=>⟨rfl,τ,H,J,z⟩) (fun n s₀ s jO y v τ H pl N r J z1 z2=>⟨y,τ,H,pl,N,r,J,z1,z2⟩)
 have hP:=G.prog
 have hW:=G.w
 have ie:=G.st
 rw [<- S0] at ie
 refine ⟨_,_,_,I6,ie,fun bh I7=>⟨rfl,?_⟩⟩
 have BK:bu 0 bh.heap:=G.T.keep _ _ _ G.tn0 fun b hb o e=>(I7.pin (b,o) (i1 _ (i1 _ (cK hb e)))).1
 have S1:∀b∈fp,H4 b=none:=fun b hb=>by
  obtain ⟨o,e,d⟩:=G.T.obj _ _ G.tn0 b hb
  exact (I7.pin (b,o) (i1 _ (i1 _ (cK hb e)))).2.1
 have q:=tU (iter:=iter) (ifs:=ifs) (scope:=scope) (pos:=pos) (elt:=elt) G.T BK (zO m0 (m0+1) 0 _ _ bh bh (Cf _) w0 I7.cg BK S1)
 rw [hP,hW] at q
 exact q
def takeIn (S:ac):oB:=fun y H N=>∃ys,H S=some (.lst ys)/\ys.length<sizeLine/\N (upd H S (.lst (ys++[y])))
theorem xP {pins:List (ac×i4)} {σ:St} {J:It} {H3:Hp} {a:ac} {s5:ba} {Y:Cx} {it:ac} {fp:List ac} {bu:Nat->ge->Prop} {gn:Nat} {pp:List (ac×i4)} {Z:Hp->Prop} {A:ma} {R':Wz->ba->Prop} {S:ac} {res:al}
  (hr:bB (k+1) X.A) (G:vz X pins σ N' scope tn idx k elt tg iter ifs pos J H3 a s5 Y it fp bu gn pp)
  (je:∀{Q:Option al->ba->Prop} {E:al->ba->Prop} {s:ba},wpAny (model X.prog X.w) X.A.in4 (pyNext (.ref a)) Q E s->wpAny (model X.prog X.w) A.in1 (pyNext (.ref a)) Q E s)
  (hR:∀s H,Inv X pins σ H s->Z H->R' (.ok (.ret res)) s) :
  ∀(n:Nat) (H:Hp) (s:ba),Gg X Y pp gn (takeIn S) Z n H s->codeAny (model X.prog X.w) A (.builtin "list.extend.loop" ⟨[.ref S,.ref a,res],[]⟩) R' s :=by
 intro n
 induction n using WE with
 |ind n ih=>
  intro H s h
  refine ze F.entry_extend_loop ?_
  rw [xp VO _]
  show wpAny _ A.in1 (pyNext (.ref a)>>=_) _ _ s
  refine ap (je (l7 (OA (E:=fun _ _=>False) hr G h) (fun r s1 q=>?_) fun _ _ z=>z.elim))
  cases r with
  |none=>
   obtain ⟨H1,I1,z1⟩:=q
   exact bv (hR s1 H1 I1 z1)
  |some v=>
   obtain ⟨y,τ,H1,pl,N,r1,I1,⟨ys,hS,hz,n1⟩,nx⟩:=q
   obtain ⟨_,its,c,rv,hl,e⟩:=I1.nj hS
   show wpAny _ A.in1 (updateSeq S (·.push v)>>=_) _ _ _
   have hP:=G.prog
   have hW:=G.w
   obtain ⟨m,hm,h2⟩:=nx _ _ (I1.sm (its':=its++[v]) (f:=(·.push v)) (t':=s1.toks) hS e (by simp) (rv.append (.cons r1 .nil)) (by rw [ul,FM];omega)) rfl n1
   refine ap (P3 e rfl (bv ⟨EQ VO _,ih m hm _ _ h2⟩) (by rw [db];omega) (by show (its.toArray.push v).size<=sizeLine+1;rw [XE,db];omega))
theorem zQ {pins:List (ac×i4)} {σ:St} {J:It} {H3:Hp} {a:ac} {s5:ba} {Y:Cx} {it:ac} {fp:List ac} {bu:Nat->ge->Prop} {gn:Nat} {pp:List (ac×i4)} {A:ma} {E:al->ba->Prop} {QL:List al->ba->Prop} {R:List V->Hp->Prop}
  (hr:bB (k+1) X.A) (G:vz X pins σ N' scope tn idx k elt tg iter ifs pos J H3 a s5 Y it fp bu gn pp) (hg:eC X N' scope k fun Y=>PG Y tg g) (ht:eC X N' scope k fun Y=>gL Y ifs tt) (he:eC X N' scope k fun Y=>PE Y elt te)
  (je:∀{Q:Option al->ba->Prop} {E:al->ba->Prop} {s:ba},wpAny (model X.prog X.w) X.A.in4 (pyNext (.ref a)) Q E s->wpAny (model X.prog X.w) A.in1 (pyNext (.ref a)) Q E s)
  (hW:∀S,H3 S=none->∃W:Nat->Nat->St->Hp->Prop,(∃m,W 0 m (bg tn idx σ) (upd H3 S (.lst [])))/\tGenV J g tt te (takeIn S) (fun H=>∃ys,H S=some (.lst ys)/\R ys H) W)
  (hQ:∀us ys s H,Inv X pins σ H s->Vals ys us->ys.length<=sizeLine->R ys H->QL us s):wpAny (model X.prog X.w) A (collect (.ref a)) QL E s5 :=by
 have hT:∀{s':ba},s'.heap.IsGen a gn->s'.TypeIs (.ref a) "generator" := fun h=>h.typeIs
 obtain ⟨W,⟨m0,w0⟩,turn⟩:=hW s5.heap.objs.size (G.inv.hok.fresh (cr _))
 have I0:=G.inv.pinned (G.stat G.fr) (G.T.obj _ _ G.tn0)
 have S2:s5.heap.objs.size≠a:=fun e=>by
  obtain ⟨o,_,_,ho,_⟩:=G.isg G.inv
  have:=hX ho
  rw [e] at this
  exact EO _ this
 unfold collect
 refine ap (WQ (ze Wr ?_))
 rw [xp Ws _]
 show wpAny _ A.in1 (newList []>>=fun l=>again (.builtin "list.__iadd__" ⟨[l,.ref a],[]⟩)) _ _ s5
 refine ap (wP ?_)
 refine bv ⟨EQ On _,ze Xd ?_⟩
 rw [xp On _]
 have I1:=I0.Ky (ys:=[]) (its:=[]) (t':=s5.toks) .nil (sw _)
 have T1:=hT (G.isg I1.cg)
 show wpAny _ A.in1 (DD (.ref s5.heap.objs.size) (.ref a) (.ref s5.heap.objs.size)) _ _ _
 unfold DD
 refine ap (WF T1 ?_)
 have h1:OP (.ref s5.heap.objs.size) (.ref a)=false :=by simp [OP,S2]
 have h2:(AM "generator" == AM "list")=false :=by decide
 have h3:(AM "generator" == AM "tuple")=false :=by decide
 simp only [h1,h2,h3,Bool.or_false,lw,if_false]
 refine ap (wpAny_pyIter_gen (G.isg I1.cg) ?_)
 refine ap (AT ?_)
 unfold TM
 refine ap (WG T1 F.gen_no_len ?_)
 show wpAny _ A.in1 (specialOf (li a) (r9 "__length_hint__")>>=_) _ _ _
 refine ap (WG T1 F.gen_no_hint ?_)
 refine bv ?_
 show wpAny _ A.in1 (rule "list.extend.makes-room" >>= fun _=>u7.List.listTouch (.ref s5.heap.objs.size)>>=fun _=>
  again (.builtin "list.extend.loop" ⟨[.ref s5.heap.objs.size,.ref a,.ref s5.heap.objs.size],[]⟩)) _ _ _
 refine ap (Ix ?_)
 obtain ⟨_,Ry,c1,S3,kJ,oC⟩:=I1.nj ay
 have e1:Ry=[] :=by cases S3;rfl
 subst e1
 refine ap ?_
 show wpAny _ A.in1 (updateSeq s5.heap.objs.size (·.push .none)>>=fun _=>updateSeq s5.heap.objs.size (·.pop)) _ _ _
 refine ap (P3 oC rfl ?_)
 have I2:=I1.sm (ys:=[.au]) (its':=[.none]) (f:=(·.push .none)) (t':=s5.toks) ay oC (by simp) (.cons rfl .nil) (by decide)
 have uW:=Cs (Me (·.push BN)) oC rfl
 refine P3 uW rfl ?_
 obtain ⟨_,cP,c2,gX,gb,KY⟩:=I2.nj ay
 have I3:=I2.sm (ys:=[]) (its':=[]) (f:=(·.pop)) (t':=s5.toks) ay KY (by
  cases gX with
  |cons r t=>cases t;simp) .nil (sw _)
 rw [yu,yu] at I3
 refine bv ⟨EQ VO _,xP (Z:=fun H=>∃ys,H s5.heap.objs.size=some (.lst ys)/\R ys H) hr G je (fun s H I ⟨ys,hS,q⟩=>?_) (m0+1) _ _ (BQ G hg ht he I3 rfl turn w0)⟩
 obtain ⟨hz,its,c,rv,hl,e⟩:=I.nj hS
 show wpAny _ A (load s5.heap.objs.size>>=_) _ _ s
 refine ap (XN e ?_)
 refine bv ?_
 have:=hQ its ys s H I rv hz q
 simpa using this
end
section
variable {X:Cx} {tg elt iter:dL} {ifs:List dL} {scope:u8} {pos:wn} {N':List bn} {tn:Nat} {idx:List Nat} {wi:TI} {g:TG} {tt:TT} {te:TE} {c P:ac} {k:Nat}
def Gh (P:ac) (tn:Nat) (idx:List Nat) (wi:TI) (g:TG) (tt:TT) (te:TE):TE:=fun σ H Q=>Gd P wi (fun J H1=>∀S,H1 S=none->∃W:Nat->Nat->St->Hp->Prop,(∃m,W 0 m (bg tn idx σ) (upd H1 S (.lst []))) /\
 tGenV J g tt te (takeIn S) (fun H2=>∃ys,H2 S=some (.lst ys)/\∀l,H2 l=none->Q (.ref l) (upd H2 l (.tup ys))) W) σ H
theorem nz {Q₁:al->ba->Prop} {QL:List al->ba->Prop} {prog:ff} {w:ii} {A:ma} {E:al->ba->Prop} {s:ba} {I:ac} (hT:s.TypeIs (.ref I) "generator")
  (W:wpAny (model prog w) A.in1 (collect (.ref I)) QL E s) (hsz:∀us s',QL us s'->us.length<=sizeLine)
  (h:∀us s',QL us s'->Q₁ (.ref s'.heap.objs.size) {s' with heap:=s'.heap.push {cls:=.type "tuple",data:=.seq us.toArray}}) :
  codeAny (model prog w) A (.call (.builtin "tuple.__new__") ⟨[.type "tuple",.ref I],[]⟩) (wants Q₁ E) s :=by
 refine WD ?_
 show wpAny _ A.in1 (do checkBuiltinCall "tuple.__new__" ⟨[.type "tuple",.ref I],[]⟩;again (.builtin "tuple.__new__" ⟨[.type "tuple",.ref I],[]⟩)) _ _ s
 refine ap (Wd (F.newCall_tuple_1 _) (bv ⟨EQ F.plain_tuple_new _,ze F.entry_tuple_new ?_⟩))
 rw [xp F.plain_tuple_new _]
 have k8:=sub_tuple_self
 have U7:=init_tuple_lookup
 have Vu:=madeHere_tuple
 wp_walk using WF hT,l7 W
 ·intro us s' hq
  show wpAny _ _ (u7.Tuple.tupleExact us.toArray>>=fun v=>ret v) _ _ _
  unfold u7.Tuple.tupleExact
  refine ap (wP ?_ (by show us.toArray.size<=sizeLine;rw [db];exact hsz us s' hq))
  exact bv (h us s' hq)
 ·exact fun _ _ z=>z
theorem xQ {p k7:wn} (hr:bB (k+1) X.A) (hc:X.calm=true) (B:aI X.N X.env.scope scope N' tn idx)
  (h0:scope.names.lookup (".0" : bn)=some .local) (kI:scope.isCoroutine=false) (dP:X.env.code=.ref c) (hd:sB X.base c P) (dM:∃bm ob,Wa X.base mainGlobals X.mg bm ob)
  (vB:Gl X "tuple") (hm:X.mg "tuple" = none) (hi:PI X tg iter wi) (hg:eC X N' scope k fun Y=>PG Y tg g) (ht:eC X N' scope k fun Y=>gL Y ifs tt) (he:eC X N' scope k fun Y=>PE Y elt te)
  (hs:∀x,genFold iter X.env x=pure x :=by intro _;rfl):PE X (.Call (.Name "tuple" p) [dB elt tg iter ifs scope k7] [] pos) (Gh P tn idx wi g tt te) :=by
 refine ⟨?_⟩
 intro pins s σ H Q I h
 refine Do (f6 I vB hm fw ?_)
 refine AN ?_ rfl rfl
 show wpAny _ _ (spliced ((false,eval (dB elt tg iter ifs scope k7) X.env)::[])) _ _ s
 refine Nd (vA hr hc B h0 kI dP hd dM hi hs I h ?_)
 intro J H3 a s5 Y it fp bu gn pp G hW
 refine NO ?_
 have hT:s5.TypeIs (.ref a) "generator" := (G.isg G.inv).typeIs
 refine callType_codes (Q₁:=fun obj aw=>aw.TypeIs obj "tuple" /\ EP X pins σ Q obj aw) F.called_tuple (F.typeCall_tuple_1 _) F.entry_object_init
  (nz (QL:=fun us s'=>us.length<=sizeLine/\∃ys H',Inv X pins σ H' s'/\Vals ys us/\∀l,H' l=none->Q (.ref l) (upd H' l (.tup ys))) hT
   (zQ hr G hg ht he (fun h=>Xu h) hW fun us ys s' H' I' rv hz q=>⟨by rw [<- rv.length];exact hz,ys,H',I',rv,q⟩) (fun us s' q=>q.1) fun us s' ⟨hl,ys,H',I',rv,q⟩=>⟨⟨_,f8 _ rfl,rfl⟩,?_⟩) fun obj aw dU=>?_
 ·have I2:Inv X pins σ (upd H' s'.heap.objs.size (.tup ys)) {s' with heap:=s'.heap.push {cls:=.type "tuple",data:=.seq us.toArray}}:=
   I'.laid (t':=s'.toks) (fun b o e=>cb _ e) (cr _) (show ObjOk X.prog X.w _ _ _ (.tup ys) from ⟨by rw [rv.length];exact hl,us,rv,jG.new _ _⟩)
  exact ⟨.ref s'.heap.objs.size,_,I2,rfl,q _ (I'.hok.fresh (cr _))⟩
 ·exact ⟨dU.1,F.args_object_init_2 obj _,object_init_meets F.called_tuple.init.lookup F.called_tuple.made (by decide) X.prog X.w X.A.in1 _ aw ⟨dU.1,rfl,dU.2⟩⟩
end
def lu (xs:Array Nat):Prop:=xs.toList.Pairwise (· < ·)
theorem qY {xs:Array Nat} (h:lu xs) {i j:Nat} (qy:i<j) (hj:j<xs.size):xs[i]<xs[j] :=by
 have:=Op.mp h i j (by simpa using V0 qy hj) (by simpa using hj) qy
 simpa using this
theorem below_go {xs:Array Nat} {v:Nat} (h:lu xs):∀(fuel lo hi:Nat),hi - lo<=fuel->lo<=hi->hi<=xs.size->(∀i (dA:i<xs.size),i<lo->xs[i]<v)->(∀i (dA:i<xs.size),hi<=i->v<=xs[i])->
  Wb xs v fuel lo hi<=xs.size/\(∀i (dA:i<xs.size),i<Wb xs v fuel lo hi->xs[i]<v)/\∀i (dA:i<xs.size),Wb xs v fuel lo hi<=i->v<=xs[i]
 |0,lo,hi,hf,h1,h2,ha,hb=>by
          have e:lo=hi :=by omega
          subst e
          exact ⟨h2,ha,hb⟩
 |fuel+1,lo,hi,hf,h1,h2,ha,hb=>by
          unfold Wb
          by_cases bj:lo<hi
          ·rw [if_pos bj]
           dsimp only
           have hm:(lo+hi) / 2<xs.size :=by omega
           have e:xs.getD ((lo+hi) / 2) v=xs[(lo+hi) / 2] :=by simp [Array.getD,hm]
           rw [e]
           by_cases hc:xs[(lo+hi) / 2]<v
           ·rw [if_pos hc]
            refine below_go h fuel _ _ (by omega) (by omega) h2 (fun i dA hl=>?_) hb
            by_cases ei:i=(lo+hi) / 2
            ·subst ei;exact hc
            ·exact V0 (qY h (show i<(lo+hi) / 2 by omega) hm) hc
           ·rw [if_neg hc]
            refine below_go h fuel _ _ (by omega) (by omega) (by omega) ha (fun i dA hl=>?_)
            by_cases ei:i=(lo+hi) / 2
            ·subst ei;exact Wl hc
            ·exact wv (Wl hc) (Na (qY h (show (lo+hi) / 2<i by omega) dA))
          ·rw [if_neg bj]
           have e:lo=hi :=by omega
           subst e
           exact ⟨h2,ha,hb⟩
theorem pJ {xs:Array Nat} (v:Nat) (h:lu xs):wE xs v<=xs.size/\(∀i (dA:i<xs.size),i<wE xs v->xs[i]<v)/\∀i (dA:i<xs.size),wE xs v<=i->v<=xs[i]:=
 below_go h _ _ _ (by omega) (sw _) (cr _) (fun i _ z=>absurd z (Re _)) (fun i z z'=>absurd z (XO.mpr z'))
theorem zR {xs:Array Nat} {v:Nat} (h:lu xs) (hn:xs[wE xs v]?≠some v):lu (tz.insertAt xs (wE xs v) v) :=by
 obtain ⟨b0,b1,b2⟩:=pJ v h
 generalize wE xs v=p at *
 unfold lu tz.insertAt
 have e:((xs.extract 0 p).push v++xs.extract p xs.size).toList=xs.toList.take p++[v]++xs.toList.drop p :=by
  simp
  exact Sk (by simp)
 rw [e]
 have hl:∀y∈xs.toList.take p,y<v:=fun y hy=>by
  obtain ⟨i,hi,rfl⟩:=List.mem_take_iff_getElem.mp hy
  have ig:i<p/\i<xs.size :=by simpa [Nat.lt_min] using hi
  simpa using b1 i ig.2 ig.1
 have hr:∀y∈xs.toList.drop p,v<y:=fun y hy=>by
  obtain ⟨i,hi,rfl⟩:=List.mem_drop_iff_getElem.mp hy
  have ig:p+i<xs.size :=by rw [Nat.add_comm];simpa using hi
  have h1:v<=xs[p+i]:=b2 (p+i) ig (Nat.le_add_right _ _)
  have h2:v≠xs[p+i]:=fun z=>by
   by_cases S4:i=0
   ·subst S4
    exact hn (by rw [Nat.add_zero] at ig;rw [Fk ig];simpa using z.symm)
   ·have q:=qY h (show p<p+i by omega) ig
    have q2:=b2 p (by omega) (cr _)
    omega
  have:xs.toList[p+i]'(by simpa using ig)=xs[p+i] :=by simp
  rw [this]
  omega
 have hp:=List.take_append_drop p xs.toList
 have S5:(xs.toList.take p++xs.toList.drop p).Pairwise (· < ·) :=by rw [hp];exact h
 obtain ⟨q1,q2,q3⟩:=WH.mp S5
 refine WH.mpr ⟨WH.mpr ⟨q1,List.pairwise_singleton _ _,fun a ha b hb=>?_⟩,q2,fun a ha b hb=>?_⟩
 ·rw [lp] at hb;subst hb;exact hl a ha
 ·rcases AL.mp ha with ha|ha
  ·exact q3 a ha b hb
  ·rw [lp] at ha;subst ha;exact hr b hb
structure bY (w:ii) (t:tz):Prop where
 dum:t.dummies=#[]
 ris:lu t.place
 led:t.led = !w.params.followText "set-order"
theorem BR (n:Nat):lu (Array.range n) :=by
 unfold lu
 rw [Array.toList_range]
 exact Sm
theorem bY.standIn {w:ii} {t:tz} (h:bY w t) (n:Nat):bY w (t.standIn n):=⟨rfl,BR n,h.led⟩
theorem bY.orStandIn {w:ii} {t:tz} (h:bY w t) (n:Nat):bY w (t.orStandIn n) :=by
 unfold tz.orStandIn
 split
 ·exact h
 ·exact h.standIn n
theorem yI (j:Nat):tz.has #[] j=false :=by
 unfold tz.has
 have:(#[]:Array Nat)[wE #[] j]?=none :=by simp
 rw [this]
 rfl
theorem vG {w:ii} {t:tz} (h:bY w t) {hashAt:Nat->Int} {hh:Int} {j:Nat} {d:Option Nat}:∀(fuel:Nat) (p:tz.Probe),p.dummy=none->Xe t hashAt hh fuel p=some (.empty j d)->t.slot j=.empty/\d=none
 |0,p,_,e=>by simp [Xe] at e
 |fuel+1,p,hp,e=>by
          unfold Xe at e
          have RA:∀p:tz.Probe,(t.advance p).dummy=p.dummy:=fun p=>by
           unfold tz.advance
           split <;> rfl
          cases hs:t.slot p.j with
          |empty=>
           rw [hs] at e
           have e':=ij e
           injection e' with e1 e2
           exact ⟨by rw [<- e1];exact hs,by rw [<- e2];exact hp⟩
          |dummy=>
           exfalso
           unfold tz.slot at hs
           dsimp only at hs
           rw [h.dum,yI] at hs
           split at hs <;> simp at hs
          |live i=>
           rw [hs] at e
           dsimp only at e
           split at e
           ·simp at e
           ·exact vG h fuel _ (by rw [RA];exact hp) e
theorem zS {w:ii} {t:tz} (h:bY w t) {j:Nat} (e:t.slot j=.empty):t.place[wE t.place j]?≠some j:=fun z=>by
 unfold tz.slot at e
 dsimp only at e
 rw [z] at e
 simp at e
theorem bY.put {w:ii} {t:tz} (h:bY w t) {j:Nat} (e:t.slot j=.empty):bY w (t.put j).1 :=by
 unfold tz.put
 refine ⟨?_,zR h.ris (zS h e),h.led⟩
 show (if tz.has t.dummies j then _ else t.dummies)=#[]
 rw [h.dum,yI]
 rfl
theorem bY.layNew {w:ii} {t:tz} (h:bY w t) (es:Array (Int×al)) (hh:Int) (x:al):bY w (layNew t es hh x).2.1 :=by
 unfold PySem.layNew
 split
 ·rename_i slot pK hf
  unfold tz.freeSlot at hf
  refine (bY.put h ?_).orStandIn _
  split at hf
  ·rename_i j dummy hp
   obtain ⟨e1,e2⟩:=vG h _ _ rfl hp
   subst e2
   have:=ij hf
   injection this with z1 _
   rw [<- z1]
   exact e1
  ·cases hf
 ·exact h.standIn _
theorem Ek {α:Type} (f:Nat->Option α) (n:Nat):lu (((i0 n).filterMap fun j=>(f j).map (j,·)).map (·.1)).toArray :=by
 unfold lu
 have e:(((i0 n).filterMap fun j=>(f j).map (j,·)).map (·.1)).toArray.toList=(i0 n).filter fun j=>(f j).isSome :=by
  rw [List.toList_toArray]
  induction i0 n with
  |nil=>rfl
  |cons a l ih=>
   cases hf:f a with
   |none=>simp [GT,hf,ih]
   |some b=>simp [GT,hf,ih]
 rw [e]
 exact XQ.filter _ Sm
theorem bY.OB {w:ii} {t:tz} (h:bY w t) (es:Array (Int×al)) (wanted:Nat):bY w (relayAll t es wanted).2.1 :=by
 unfold relayAll
 split
 ·rename_i t' order hr
  dsimp only
  split
  ·unfold tz.relaid tz.laid at hr
   simp only [Option.bind_eq_bind,Option.bind_eq_some_iff,Option.pure_def] at hr
   obtain ⟨owner,_,hr⟩:=hr
   have:=ij hr
   injection this with z1 _
   subst z1
   exact ⟨rfl,Ek (fun j=>owner.getD j none) _,h.led⟩
  ·exact h.standIn _
 ·exact h.standIn _
theorem bY.El {w:ii} {t:tz} (h:bY w t) (b:Bool):bY w (if b=true then t else {t with plain:=false}) :=by
 split
 ·exact h
 ·exact ⟨h.dum,h.ris,h.led⟩
def dH (e:Int×al):Int:=match e.2 with | .int i _=>i|_=>0
def cy (P:ff) (w:ii) (h:ge) (a:ac) (ns:List Int):Prop:=
 ∃o es ep t,h.get? a=some o/\o.ExactSet/\o.data=.set es ep t/\WR (intKind P w) es.toList/\(es.toList.map dH).Perm ns/\ns.Nodup/\es.size<scanBound/\t.fits es.size=true/\bY w t
theorem cy.bU {P:ff} {w:ii} {h h':ge} {a:ac} {ns:List Int} (x:cy P w h a ns) (k:∀o,h.get? a=some o->h'.get? a=some o):cy P w h' a ns:=
 let ⟨o,es,ep,t,e,r⟩:=x;⟨o,es,ep,t,k o e,r⟩
def pL (P:ff) (w:ii) (a:ac) (ns:List Int):HO:=.ext fun h=>cy P w h a ns
def dW (ns:List Int) (m:Int):List Int:=if m∈ns then ns else ns++[m]
theorem xR {P:ff} {w:ii} {es:List (Int×al)} (h:WR (intKind P w) es) {k:Int}:(∃e∈es,(intKind P w).is k e.2=true) ↔ k∈es.map dH :=by
 constructor
 ·rintro ⟨e,he,hk⟩
  obtain ⟨t,e2⟩:=V8 (k:=k) (v:=e.2) hk
  exact ss.mpr ⟨e,he,by unfold dH;rw [e2]⟩
 ·intro hm
  obtain ⟨e,he,q⟩:=ss.mp hm
  obtain ⟨⟨k',tV,_⟩,_⟩:=h e he
  obtain ⟨t,e2⟩:=V8 (k:=k') (v:=e.2) tV
  have:k'=k :=by rw [<- q];unfold dH;rw [e2]
  exact ⟨e,he,this▸tV⟩
section
variable {P:ff} {w:ii} {A:ma} {E:al->ba->Prop} {s:ba}
theorem qZ {h:ge} {a:ac} {o:i4} {es:Array (Int×al)} {ep:Nat} {t:tz} (ho:h.get? a=some o) (hex:o.ExactSet) (hd:o.data=.set es ep t)
  {iK:Array (Int×al)} {t':tz} {ns:List Int} (kM:WR (intKind P w) iK.toList) (hp:(iK.toList.map dH).Perm ns) (hn:ns.Nodup) (hb:iK.size<scanBound) (hf:t'.fits iK.size=true) (ht:bY w t') :
  (h.update a (Xp iK t')).get? a=some {o with data:=.set iK (ep+1) t'}/\cy P w (h.update a (Xp iK t')) a ns :=by
 have hg:(h.update a (Xp iK t')).get? a=some {o with data:=.set iK (ep+1) t'}:=by
  have:=Cs (Xp iK t') ho (by rw [putSet_of iK t' hd];rfl)
  rw [putSet_of iK t' hd] at this;exact this
 exact ⟨hg,_,iK,ep+1,t',hg,hex,rfl,kM,hp,hn,hb,hf,ht⟩
theorem vH {g:Bool->Wx Unit} (hg:∀(b:Bool) (aw:ba) (Q':Unit->ba->Prop),Q' () aw->wpAny (model P w) A (g b) Q' E aw)
  {a:ac} {o:i4} {es:Array (Int×al)} {ep:Nat} {t:tz} (ho:s.heap.get? a=some o) (hex:o.ExactSet) (hd:o.data=.set es ep t)
  {eS:Array (Int×al)} {t2:tz} {ns:List Int} (vI:WR (intKind P w) eS.toList) (vJ:(eS.toList.map dH).Perm ns) (hn:ns.Nodup)
  (yJ:eS.size<scanBound) (S6:t2.fits eS.size=true) (Gi:bY w t2) {pK:Bool} {R:Option Bool->ba->Prop}
  (h:∀h',wS a s.heap h'->cy P w h' a ns->R (some true) {s with heap:=h'}) :
  wpAny (model P w) A (do
    storeSet a eS t2
    if (!pK && t2.tooFull)=true then do
      g (relayAll t2 eS (OK eS.size)).2.2
      storeSet a (relayAll t2 eS (OK eS.size)).1 (relayAll t2 eS (OK eS.size)).2.1
      pure (some true)
     else pure (some true)) R E s :=by
 refine ap (wpAny_storeSet_of ho hd ?_ (Xf yJ))
 obtain ⟨P8,BU⟩:=qZ (P:=P) (w:=w) ho hex hd vI vJ hn yJ S6 Gi
 have KZ:=Is s.heap a (Xp eS t2)
 split
 ·have hp:=relayAll_perm t2 eS (OK eS.size)
  have qF:=relayAll_fits t2 eS (OK eS.size)
  have ny:=Gi.OB eS (OK eS.size)
  generalize relayAll t2 eS (OK eS.size)=Rl at hp qF ny ⊢
  obtain ⟨P9,t3,U8⟩:=Rl
  dsimp only at hp qF ny ⊢
  have hsz:P9.size=eS.size :=by rw [<- uu,hp.length_eq,uu]
  have o9:P9.size<scanBound :=by rw [hsz];exact yJ
  refine ap (hg _ _ _ (ap (wpAny_storeSet_of P8 rfl ?_ (Xf o9))))
  obtain ⟨_,K0⟩:=qZ (P:=P) (w:=w) P8 hex rfl (vI.perm hp) ((hp.map dH).trans vJ) hn o9 qF ny
  exact bv (h _ (KZ.trans (Is _ a _)) K0)
 ·exact bv (h _ KZ BU)
theorem BV {a:ac} {ns:List Int} {m:Int} {tk:W9} {Q:Bool->ba->Prop} (hS:cy P w s.heap a ns) (qR:ns.length+1<scanBound)
  (h:∀h',wS a s.heap h'->cy P w h' a (dW ns m)->Q (decide (m ∉ ns)) {s with heap:=h',toks:=s.toks+1}):wpAny (model P w) A (setAdd a (.int m tk)) Q E s :=by
 unfold setAdd
 refine AT (ap ((intKind P w).pyHash (k:=m) (intKind_is _ _ _ _) ?_))
 have zF:(intKind P w).is m (.int m tk)=true:=intKind_is _ _ _ _
 obtain ⟨o,es,ep,t,ho,hex,hd,kM,hp,hn,hb,hf,ht⟩:=hS
 have me:∀k,(∃e∈es.toList,(intKind P w).is k e.2=true) ↔ k∈ns:=fun k=>(xR kM).trans hp.mem_iff
 have hlen:es.size=ns.length :=by rw [<- uu,<- hp.length_eq,c8]
 unfold setAddHashed setAddHashedIn
 refine AT (ap (SI (s:={s with toks:=s.toks+1}) ho hd hf ?_))
 dsimp only
 rw [byScan_of (x:=.int m tk) rfl hb kM]
 simp only [↓reduceIte]
 unfold setAddByScan
 refine ap (ap (Ix (ap (wpAny_setScan_of zF ho hd hf kM ?_))))
 cases hr:List.findIdx? (fun e=>(intKind P w).is m e.2) es.toList with
 |some j=>
  dsimp only
  obtain ⟨hj,S7,_⟩:=List.findIdx?_eq_some_iff_getElem.mp hr
  have hm:m∈ns:=(me m).mp ⟨es.toList[j],rb hj,S7⟩
  have:=h s.heap (wS.refl a s.heap) (by unfold dW;rw [if_pos hm];exact ⟨o,es,ep,t,ho,hex,hd,kM,hp,hn,hb,hf,ht⟩)
  rw [decide_eq_false (fun z=>z hm)] at this
  exact bv (bv this)
 |none=>
  dsimp only
  have hm:m ∉ ns:=fun z=>by
   obtain ⟨e,he,q⟩:=(me m).mpr z
   have:=List.findIdx?_eq_none_iff.mp hr e he
   rw [q] at this;cases this
  have oE:=layNew_perm t es ((intKind P w).hash m) (.int m tk)
  have q0:=layNew_fits t es ((intKind P w).hash m) (.int m tk)
  have jP:=ht.layNew es ((intKind P w).hash m) (.int m tk)
  generalize layNew t es ((intKind P w).hash m) (.int m tk)=L at oE q0 jP ⊢
  obtain ⟨eS,t1,pK,Vh⟩:=L
  dsimp only at oE q0 jP ⊢
  rw [Array.toList_push] at oE
  have vI:WR (intKind P w) eS.toList:=(kM.push zF rfl).perm oE
  have K1:dW ns m=ns++[m] :=by unfold dW;rw [if_neg hm]
  have vJ:(eS.toList.map dH).Perm (dW ns m) :=by
   rw [K1]
   refine (oE.map dH).trans ?_
   rw [xy]
   exact V1.append hp (.refl _)
  have Qa:(dW ns m).Nodup :=by
   rw [K1]
   exact SL.mpr ⟨hn,by simp,fun a ha b hb=>by rw [lp] at hb;rw [hb];exact fun z=>hm (z▸ha)⟩
  have yJ:eS.size<scanBound :=by rw [<- uu,oE.length_eq,ul,uu,hlen];simpa using qR
  have K2:∀(b:Bool) (aw:ba) (Q':Unit->ba->Prop),Q' () aw->wpAny (model P w) A (match b with|true=>rule "set.scan.the-table-gave-way" |false=>pure ()) Q' E aw:=
   fun b aw Q' hq=>by cases b <;> first|exact bv hq|exact Ix hq
  have K3:∀h',wS a s.heap h'->cy P w h' a (dW ns m)->Q true {s with heap:=h',toks:=s.toks+1}:=by
   intro h' jN lx
   have:=h h' jN lx
   rw [decide_eq_true hm] at this
   exact this
  refine ap (K2 _ _ _ ?_)
  split
  ·refine ap ?_
   rw [hashByValue_scannable 8 (x:=.int m tk) rfl]
   refine bv (vH (P:=P) (w:=w) (s:={s with toks:=s.toks+1}) K2 ho hex hd vI vJ Qa yJ ?_ (jP.El _) fun h' jN lx=>bv (K3 h' jN lx))
   split
   ·exact q0
   ·exact tz.fits_plain_off q0
  ·refine ap (bv ?_)
   simp only [↓reduceIte]
   exact vH (P:=P) (w:=w) (s:={s with toks:=s.toks+1}) K2 ho hex hd vI vJ Qa yJ q0 jP fun h' jN lx=>bv (K3 h' jN lx)
theorem zT {ns:List Int} (h:ns.Nodup) (m:Int):(dW ns m).Nodup :=by
 unfold dW
 split
 ·exact h
 ·rename_i hm
  exact SL.mpr ⟨h,by simp,fun a ha b hb=>by rw [lp] at hb;rw [hb];exact fun z=>hm (z▸ha)⟩
theorem Em {ns:List Int} {m k:Int}:k∈dW ns m ↔ k∈ns\/k=m :=by
 unfold dW
 split
 ·rename_i hm
  exact ⟨.inl,fun h=>h.elim id fun e=>e▸hm⟩
 ·simp
theorem En {ns:List Int} {m:Int}:(dW ns m).length<=ns.length+1 :=by
 unfold dW
 split
 ·omega
 ·simp
end
def c7 (ns:List Int):List Int:=ns.foldl dW []
theorem BW (ns:List Int) (m:Int):c7 (ns++[m])=dW (c7 ns) m :=by
 unfold c7
 rw [Xg]
 rfl
theorem zU (ns:List Int):(c7 ns).Nodup :=by
 unfold c7
 have:∀(l acc:List Int),acc.Nodup->(l.foldl dW acc).Nodup:=fun l=>by
  induction l with
  |nil=>exact fun acc h=>h
  |cons a l ih=>exact fun acc h=>ih _ (zT h a)
 exact this ns [] .nil
theorem Eo {ns:List Int} {k:Int}:k∈c7 ns ↔ k∈ns :=by
 unfold c7
 have:∀(l acc:List Int),k∈l.foldl dW acc ↔ k∈acc\/k∈l:=fun l=>by
  induction l with
  |nil=>intro acc;simp
  |cons a l ih=>
   intro acc
   rw [XD,ih,Em,kw]
   constructor
   ·rintro ((h|h)|h)
    ·exact .inl h
    ·exact .inr (.inl h)
    ·exact .inr (.inr h)
   ·rintro (h|h|h)
    ·exact .inl (.inl h)
    ·exact .inl (.inr h)
    ·exact .inr h
 rw [this]
 simp
theorem vK (ns:List Int):(c7 ns).length<=ns.length :=by
 unfold c7
 have:∀(l acc:List Int),(l.foldl dW acc).length<=acc.length+l.length:=fun l=>by
  induction l with
  |nil=>intro acc;simp
  |cons a l ih=>
   intro acc
   rw [XD,IN]
   have h1:=ih (dW acc a)
   have h2:=@En acc a
   omega
 simpa using this ns []
section
variable {P:ff} {w:ii} {A:ma} {R:Wz->ba->Prop} {I:ac} {fp wr:List ac} {G:Array RS->Array RS->Prop} {n:Nat} {St:Nat->ba->Prop}
theorem Ep {vs:List Int} {Pv:Nat->al->Prop} (W:WalksS P w A.in1 I fp wr G vs.length Pv St) (S:ac) (vL:S ∉ fp) (Er:∀(i:Nat) (v:al),Pv i v->∃m t,vs[i]?=some m/\v=.int m t) (hb:vs.length+1<scanBound) :
  ∀(k i:Nat) (s:ba),vs.length - i=k->i<=vs.length->St i s->cy P w s.heap S (c7 (vs.take i))->
   (∀s',Moved (S::wr) G s s'->cy P w s'.heap S (c7 vs)->R (.ok (.ret .none)) s')->
   codeAny (model P w) A (.builtin "set.update.loop" ⟨[.ref S,.ref I],[]⟩) R s :=by
 have Qb:S ∉ wr:=fun h=>vL (W.sub _ h)
 have k8:∀b∈wr,b∈S::wr:=fun b hb=>im _ hb
 intro k
 induction k with
 |zero=>
  intro i s hk hi ie hS hR
  have je:i=vs.length :=by omega
  subst je
  refine ze F.entry_set_update_loop ?_
  rw [xp V6 _]
  show wpAny _ A.in1 (pyNext (.ref I)>>=_) _ _ s
  refine ap (W.done s _ _ ie fun s' hm=>?_)
  rw [Xv] at hS
  exact bv (hR s' (hm.mono k8) (hS.bU fun o e=>hm.heap S _ Qb e))
 |succ k ih=>
  intro i s hk hi ie hS hR
  have bj:i<vs.length :=by omega
  refine ze F.entry_set_update_loop ?_
  rw [xp V6 _]
  show wpAny _ A.in1 (pyNext (.ref I)>>=_) _ _ s
  refine ap (W.item i s _ _ bj ie fun v s' hP RB hm=>?_)
  obtain ⟨m,t,ly,rfl⟩:=Er i v hP
  have lx:cy P w s'.heap S (c7 (vs.take i)):=hS.bU fun o e=>hm.heap S _ Qb e
  show wpAny _ A.in1 (holding [WW m t] (setAdd S (.int m t))>>=_) _ _ s'
  have qR:(c7 (vs.take i)).length+1<scanBound :=by
   have h1:=vK (vs.take i)
   rw [Wk] at h1
   omega
  refine ap (AT (BV lx qR fun h' jN K0=>?_))
  have S8:cy P w h' S (c7 (vs.take (i+1))) :=by
   rw [List.take_add_one,ly]
   show cy P w h' S (c7 (vs.take i++[m]))
   rw [BW]
   exact K0
  refine bv ⟨EQ V6 _,ih (i+1) _ (by omega) bj (W.frame _ s' _ _ RB (ET _) fun b hb o e=>?_) S8 fun bh RC RD=>?_⟩
  ·rw [jN.2 b (fun h:b=S=>vL (by rw [<- h];exact hb))];exact e
  ·refine hR bh (Moved.trans W.gtrans ((hm.mono k8).then_heap (ET _) fun b o hb e=>?_) RC) RD
   rw [jN.2 b (fun h:b=S=>hb (by rw [h];exact l9))];exact e
end
theorem sub_tuple_set:isSubtype (.type "tuple") (.type "set")=pure false :=by rw [WS];kernel_rfl
theorem sA:isSubtype (.type "tuple") (.type "frozenset")=pure false :=by rw [WS];kernel_rfl
section
variable {P:ff} {w:ii} {A:ma} {E:al->ba->Prop} {s:ba}
abbrev il (w:ii):i4:={cls:=.type "set",dict:=none,data:=.set #[] 0 (.fresh 0 0 (!w.params.followText "set-order"))}
theorem HI {h:ge}:cy P w (h.push (il w)) h.objs.size []:=⟨_,#[],0,_,f8 _ rfl,⟨rfl,rfl,rfl⟩,rfl,fun e he=>by simp at he,by simp,by simp,by decide,by rfl,rfl,XQ.nil,rfl⟩
theorem Es (a:al) {Q₁:al->ba->Prop} (h:Q₁ (.ref s.heap.objs.size) {s with heap:=s.heap.push (il w)}) :
  codeAny (model P w) A (.call (.builtin "set.__new__") ⟨[.type "set",a],[]⟩) (wants Q₁ E) s :=by
 refine WD ?_
 show wpAny _ A.in1 (do checkBuiltinCall "set.__new__" ⟨[.type "set",a],[]⟩;again (.builtin "set.__new__" ⟨[.type "set",a],[]⟩)) _ _ s
 refine ap (Wd (F.newCall_set_1 a) (bv ⟨EQ F.plain_set_new _,ze F.entry_set_new ?_⟩))
 rw [xp F.plain_set_new _]
 unfold u7.«set.__new__» u7.Frozenset.newClass
 have k8:=sub_set_self
 obtain ⟨hp,g,d,tk,os⟩:=s
 dsimp only
 wp_walk
 refine T0 (bv ?_)
 dsimp only
 simp only [newObj]
 refine ap (wpAny_alloc (bv ?_))
 exact bv h
theorem cy.typeIs {h:ge} {a:ac} {ns:List Int} {s:ba} (x:cy P w s.heap a ns):s.TypeIs (.ref a) "set" := let ⟨o,_,_,_,ho,hex,_⟩:=x;⟨o,ho,hex.1⟩
theorem nA {T:String} {l:ac} {itob:i4} {vs:List Int} {Pv:Nat->al->Prop} {St:ac->Nat->ge->Prop} {Q:al->ba->Prop} (hh:A.handled=none)
  (hl:∃o,s.heap.get? l=some o) (hT:∀s1:ba,(∀o,s.heap.get? l=some o->s1.heap.get? l=some o)->s1.TypeIs (.ref l) T) (h1:isSubtype (.type T) (.type "set")=pure false) (h2:isSubtype (.type T) (.type "frozenset")=pure false) (h3:(AM T==AM "dict")=false)
  (hit:∀(A':ma) (s1:ba) (Q':al->ba->Prop) (E':al->ba->Prop),(∀o,s.heap.get? l=some o->s1.heap.get? l=some o)->Q' (.ref s1.heap.objs.size) {s1 with heap:=s1.heap.push itob}->wpAny (model P w) A' (pyIter (.ref l)) Q' E' s1)
  (hW:∀(A':ma) (I:ac),A'.handled=none->l≠I->Walks P w A' I [I,l] [I] vs.length Pv (St I)) (S9:∀h1:ge,(∀o,s.heap.get? l=some o->h1.get? l=some o)->St h1.objs.size 0 (h1.push itob))
  (Er:∀(i:Nat) (v:al),Pv i v->∃m t,vs[i]?=some m/\v=.int m t) (hb:vs.length+1<scanBound)
  (h:∀(h':ge) (tk:Nat),cy P w h' s.heap.objs.size (c7 vs)->(∀b o,s.heap.get? b=some o->h'.get? b=some o)->Q (.ref s.heap.objs.size) {s with heap:=h',toks:=tk}) :
  wpAny (model P w) A (call (.type "set") [.ref l]) Q E s :=by
 obtain ⟨c,tl,Vi⟩:=OR.mro
 have U9:=OR.made
 have k8:=OR.sub
 refine Xm (WD ?_)
 show wpAny _ _ (callAny (.type "set") _) _ _ _
 refine bv ⟨Code.quiet_builtin _ (by decide +kernel),ze F.entry_type_call ?_⟩
 rw [ma.under_plain (weight_type_call_type "set" [.ref l] []) rfl]
 have k1:=OR.notType
 have k2:=OR.canCreate
 have Vv:=F.typeCall_set_1 (.ref l)
 repeat (any_goals (first|assumption|wp_step))
 refine VY (Es (P:=P) (w:=w) (.ref l) (E:=E) (Q₁:=fun obj aw=>obj=.ref s.heap.objs.size/\aw={s with heap:=s.heap.push (il w)}) ⟨rfl,rfl⟩) fun r aw hr=>?_
 cases r with
 |error e=>exact hr
 |ok fl=>
  cases fl with
  |ret obj=>
   obtain ⟨rfl,rfl⟩:=hr
   have hS:(s.heap.push (il w)).get? s.heap.objs.size=some {cls:=.type "set",dict:=none,data:=.set #[] 0 (.fresh 0 0 (!w.params.followText "set-order"))}:=f8 _ rfl
   have Tc:W6 {s with heap:=s.heap.push (il w)} (.ref s.heap.objs.size) "set" := ⟨_,hS,rfl⟩
   have kp:∀b o,s.heap.get? b=some o->(s.heap.push (il w)).get? b=some o:=fun b o e=>cb _ e
   have sz:(s.heap.push (il w)).objs.size=s.heap.objs.size+1 :=by rw [CS]
   have vM:=OR.init.lookup
   have Qc:=OR.init.bind (.ref s.heap.objs.size)
   repeat (any_goals (first|assumption|wp_step))
   refine VY (WI (R:=wants (fun r gz=>r=.none/\∃h' tk,gz={s with heap:=h',toks:=tk}/\cy P w h' s.heap.objs.size (c7 vs) /\
     (∀b o,s.heap.get? b=some o->h'.get? b=some o)) E) OR.init.plain F.entry_set_init (check_set_init_1 Tc ?_)) fun RE gz zV=>?_
   ·have Vw:=hT {s with heap:=s.heap.push (il w)} (fun o e=>kp l o e)
    unfold u7.«set.__init__» noKeywords u7.Frozenset.updateFrom
    generalize Td:pyIter=PI
    wp_walk
    subst Td
    obtain ⟨ol,q9⟩:=hl
    have Qd:l<s.heap.objs.size:=hX q9
    refine hit _ {s with heap:=s.heap.push (il w)} _ _ (fun o e=>kp l o e) ?_
    refine ap (WQ ?_)
    have Te:A.in1.in1.in1.handled=none :=by simp [hh]
    have RG:l≠(s.heap.push (il w)).objs.size :=by rw [sz];exact jp (Ch Qd)
    have vL:s.heap.objs.size ∉ [(s.heap.push (il w)).objs.size,l] :=by
     rw [sz];simp only [kw,FS,or_false,not_or]
     exact ⟨jp (Cf _),OL Qd⟩
    refine Ep ((hW _ (s.heap.push (il w)).objs.size Te RG).toS) s.heap.objs.size vL Er hb (vs.length - 0) 0 _ (by omega) (sw _) (S9 (s.heap.push (il w)) fun o e=>kp l o e) (HI.bU fun o e=>cb _ e) ?_
    intro s' hm lx
    obtain ⟨h',g',d',Tf,F6⟩:=s'
    have eg:g'=s.gens:=hm.gens
    have ed:d'=s.drawn:=hm.drawn
    have eo:F6=s.os:=hm.os
    subst eg;subst ed;subst eo
    show wpAny _ _ _ _ _ _
    refine bv ?_
    show wpAny _ _ (ret BN) _ _ _
    refine bv ⟨rfl,h',Tf,rfl,lx,fun b o e=>?_⟩
    have Gj:b<s.heap.objs.size:=hX e
    refine hm.heap b o ?_ (cb _ (kp b o e))
    simp only [kw,FS,or_false,not_or]
    exact ⟨jp Gj,by rw [sz];exact jp (Ch Gj)⟩
   ·cases RE with
    |error e=>exact zV
    |ok OC=>
     cases OC with
     |ret r=>
      obtain ⟨rfl,h',tk,rfl,lx,tV⟩:=zV
      repeat (any_goals (first|assumption|wp_step))
      exact h _ _ lx tV
     |_=>exact zV.elim
  |_=>exact hr.elim
end
theorem BX:Manifest.owners.lookup (String.ofList ['r','o','t','a','r','e','t','i','_','t','e','s'].reverse)=some Manifest.sig_set_iterator :=by kernel_rfl
theorem cm:Slot "set_iterator" "__next__" "set_iterator.__next__" :=
 .of (owner := "set_iterator") (n := "__next__") (by rw [typeLookup_type,builtinLookup_eq_fast];kernel_rfl) (by decide +kernel) (by decide +kernel) (by decide +kernel)
  (by first|exact .inl (by decide +kernel)|exact .inr (by decide +kernel)) (by rw [WS];kernel_rfl)
theorem ji:entryFor table "set_iterator.__next__" = some u7.«set_iterator.__next__»:=entryFor_of_tree (by kernel_rfl)
theorem jj (a:al):argsOk "set_iterator.__next__" ⟨[a],[]⟩ :=by
 unfold argsOk;rw [signature?_of (id := "set_iterator.__next__") (n:=['_','_','t','x','e','n','_','_']) (o:=['r','o','t','a','r','e','t','i','_','t','e','s']) (by kernel_rfl) BX];kernel_rfl
theorem ra:Slot "set_iterator" "__iter__" "set_iterator.__iter__" :=
 .of (owner := "set_iterator") (n := "__iter__") (by rw [typeLookup_type,builtinLookup_eq_fast];kernel_rfl) (by decide +kernel) (by decide +kernel) (by decide +kernel)
  (by first|exact .inl (by decide +kernel)|exact .inr (by decide +kernel)) (by rw [WS];kernel_rfl)
theorem zW:entryFor table "set_iterator.__iter__" = some u7.«dict_keyiterator.__iter__»:=
 entryFor_alias (id' := "dict_keyiterator.__iter__") (by kernel_rfl) (by first|rfl|decide +kernel|(unfold String.splitOn;simp +decide [String.splitOnAux])) (by decide +kernel) (by kernel_rfl)
theorem zX (a:al):argsOk "set_iterator.__iter__" ⟨[a],[]⟩ :=by
 unfold argsOk;rw [signature?_of (id := "set_iterator.__iter__") (n:=['_','_','r','e','t','i','_','_']) (o:=['r','o','t','a','r','e','t','i','_','t','e','s']) (by kernel_rfl) BX];kernel_rfl
theorem xS:entryFor table "set.__iter__" = some u7.«frozenset.__iter__»:=
 entryFor_alias (id' := "frozenset.__iter__") (by kernel_rfl) (by first|rfl|decide +kernel|(unfold String.splitOn;simp +decide [String.splitOnAux])) (by decide +kernel) (by kernel_rfl)
def eT (h:ge) (I a:ac) (first:al) (i n ep:Nat):Prop:=∃o,h.get? I=some o/\o.cls=.type "set_iterator" /\ o.data=.fields #[first,.int i 0,.ref a,.int n 0,.int ep 0]
theorem eT.typeIs {s:ba} {I a:ac} {first:al} {i n ep:Nat} (x:eT s.heap I a first i n ep):s.TypeIs (.ref I) "set_iterator" := let ⟨o,ho,hc,_⟩:=x;⟨o,ho,hc⟩
theorem fI {α:Type}:∀{l:List α} {i:Nat} (h:i<l.length),(l[i]::l.eraseIdx i).Perm l
 | [],i,h=>by simp at h
 |x::l,0,h=>.refl _
 |x::l,i+1,h=>by
          rw [List.eraseIdx_cons_succ,List.getElem_cons_succ]
          exact (V1.swap _ _ _).trans (.cons _ (fI (by simpa using h)))
section
variable {P:ff} {w:ii} {A:ma} {E:al->ba->Prop} {s:ba}
theorem wp_choose {src:Source} {n:Nat} {Q:Nat->ba->Prop} (hn:n≠0) (h:∀i d,i<n->Q i {s with drawn:=d}):wpAny (model P w) A (choose src n) Q E s:=fun Γ p _=>by
 refine ⟨hn,?_⟩
 exact h _ _ (Xq _ (Nat.pos_of_ne_zero hn))
theorem nB {α:Type}:∀(n:Nat) (xs:List α) {s:ba} {Q:List α->ba->Prop},n=xs.length->(∀ys d,ys.Perm xs->Q ys {s with drawn:=d})->wpAny (model P w) A (drawOrder n xs) Q E s
 |0,xs,s,Q,hn,h=>by
          have:xs=[]:=LM hn.symm
          subst this
          exact bv (h [] s.drawn .nil)
 |n+1,[],s,Q,hn,h=>by simp at hn
 |n+1,x::xs,s,Q,hn,h=>by
          show wpAny _ _ (choose .order (x::xs).length>>=_) _ _ s
          refine ap (wp_choose (by simp) fun i d hi=>?_)
          have e:(x::xs)[i]?=some (x::xs)[i]:=ag hi
          rw [e]
          dsimp only
          refine ap (nB n _ (by rw [List.length_eraseIdx_of_lt hi];simp at hn ⊢;omega) fun ys d' hp=>bv (h _ _ ?_))
          exact (V1.cons _ hp).trans (fI hi)
end
section
variable {P:ff} {w:ii} {A:ma} {E:al->ba->Prop} {s:ba}
structure jQ (P:ff) (w:ii) (h:ge) (a:ac) (es:Array (Int×al)) (ep:Nat) (t:tz):Prop where
 at_:∃o,h.get? a=some o/\o.ExactSet/\o.data=.set es ep t
 fits:t.fits es.size=true
 tab:bY w t
theorem yK {α:Type} (next:Nat->Nat):∀(fuel k:Nat) (left:List α) (out:Array α),fuel=left.length->(pickOrder.go next fuel k left out).toList.Perm (out.toList++left)
 |0,k,left,out,h=>by
          have:left=[]:=LM h.symm
          subst this
          simp [pickOrder.go]
 |fuel+1,k,left,out,h=>by
          unfold pickOrder.go
          have hl:next k % left.length<left.length:=Xq _ (by omega)
          rw [ag hl]
          dsimp only
          refine (yK next fuel (k+1) _ _ (by rw [List.length_eraseIdx_of_lt hl];omega)).trans ?_
          rw [Array.toList_push,LG]
          exact V1.append_left _ (fI hl)
theorem tW {α:Type} (next:Nat->Nat) (xs:Array α):(pickOrder next xs).toList.Perm xs.toList :=by
 unfold pickOrder
 exact (yK next xs.size 0 xs.toList #[] (by simp)).trans (by simp)
theorem nC {Q:Bool->ba->Prop} (h:Q (w.params.followText "set-order") s):wpAny (model P w) A setsByText Q E s :=by
 unfold setsByText
 exact ap (T0 (bv h))
theorem rg {a:ac} {es:Array (Int×al)} {ep:Nat} {t:tz} {slot given:Nat} {Q:Option (al×Nat)->ba->Prop} (hE:jQ P w s.heap a es ep t)
  (hd:w.params.followText "set-order" = false->(!t.plain && decide (es.size > 1))=false)
  (h1:w.params.followText "set-order" = true->Q ((pickOrder (w.params.setOrder a ep) es)[given]?.map fun e=>(e.2,slot)) s)
  (h2:w.params.followText "set-order" = false->Q (match es[wE t.place slot]?,t.place[wE t.place slot]? with|some (_,x),some j=>some (x,j+1)|_,_=>none) s) :
  wpAny (model P w) A (setNext a slot given ep) Q E s :=by
 obtain ⟨⟨o,ho,hex,pf⟩,hf,ht⟩:=hE
 unfold setNext
 refine ap (SI ho pf hf ?_)
 dsimp only
 refine ap (nC ?_)
 cases hb:w.params.followText "set-order" with
 |true=>
  simp only [if_true,bne_self_eq_false,lw,if_false]
  unfold setWalk
  refine ap (ap (SI ho pf hf ?_))
  dsimp only
  refine ap (nC ?_)
  rw [hb]
  simp only [if_true]
  refine ap (T0 (bv (bv ?_)))
  exact h1 hb
 |false=>
  simp only [lw,if_false]
  have ky:=hd hb
  have RH:t.led=true :=by rw [ht.led,hb];rfl
  show wpAny _ _ (if (!t.plain && decide (es.size > 1))=true then _ else _) _ _ s
  rw [ky]
  simp only [lw,if_false]
  refine ap ?_
  show wpAny _ _ (if (!t.led && !es.isEmpty)=true then _ else _) _ _ s
  rw [RH]
  simp only [W7,SS,lw,if_false]
  exact bv (bv (h2 hb))
end
section
variable {P:ff} {w:ii} {A:ma} {E:al->ba->Prop} {s:ba}
theorem eT.K4 {h:ge} {I a:ac} {first x:al} {i n ep:Nat} (hit:eT h I a first i n ep):eT (h.update I (i4.mapFields (·.setIfInBounds 0 x))) I a x i n ep :=by
 obtain ⟨o,ho,hc,hd⟩:=hit
 exact ⟨_,Cs _ ho (Wt (No hd _)),(Xh ..).trans hc,by rw [No hd];simp⟩
theorem eT.vN {h:ge} {I a:ac} {first:al} {i n ep:Nat} (hit:eT h I a first i n ep):eT (h.update I (i4.mapFields (·.setIfInBounds 1 (rawInt ((i:Int)+1))))) I a first (i+1) n ep :=by
 obtain ⟨o,ho,hc,hd⟩:=hit
 exact ⟨_,Cs _ ho (Wt (No hd _)),(Xh ..).trans hc,by rw [No hd];simp [rawInt]⟩
theorem lz {I a:ac} {first x:al} {i n ep k:Nat} {Q:Unit->ba->Prop} (hk:k<5) (hit:eT s.heap I a first i n ep) (h:Q () {s with heap:=s.heap.update I (i4.mapFields (·.setIfInBounds k x))}):wpAny (model P w) A (setField (.ref I) k x) Q E s :=by
 obtain ⟨o,ho,hc,hd⟩:=hit
 exact wpAny_setField ho hd (by simpa using hk) h
theorem yL {Q:Fin->ba->Prop} (hh:A.handled=none) (h:∀e h',s.TypeIs e "StopIteration" \/ True->(∀b o,s.heap.get? b=some o->h'.get? b=some o)->W6 {s with heap:=h'} e "StopIteration" -> E e {s with heap:=h'}) :
  wpAny (model P w) A (newExc (.type "StopIteration") []>>=fun e=>raiseNew e) Q E s :=by
 refine ap ?_
 simp only [newExc,newTuple]
 refine ap (wP ?_ (by size_fits))
 refine ap (m:=firstArgMember _ _) (Wd (a:=BN) (by first|rfl|(simp only [firstArgMember];rfl)) ?_)
 refine wP ?_ (by size_fits)
 simp only [raiseNew]
 refine ap (wpAny_handled ?_)
 rw [hh]
 refine ap (bv (wpAny_throw ?_))
 exact h _ _ (.inr trivial) (fun b o e=>cb _ (cb _ e)) ⟨_,f8 _ rfl,rfl⟩
theorem vO {Q:Option al->ba->Prop} {e:al} (hT:s.TypeIs e "StopIteration") (h:Q none s):wpAny (model P w) A (do let b <- isInstance e (.type "StopIteration");if b=true then pure none else throw e) Q E s:=
 ap (Wn (T := "StopIteration") (b:=true) hT isSubtype_stop (bv h))
theorem HJ {I a:ac} {slot i ep next:Nat} {es:Array (Int×al)} {t:tz} {x:al} {Q:Option al->ba->Prop} (hit:eT s.heap I a (.int slot 0) i es.size ep) (hE:jQ P w s.heap a es ep t)
  (hd:w.params.followText "set-order" = false->(!t.plain && decide (es.size > 1))=false)
  (h1:w.params.followText "set-order" = true->(pickOrder (w.params.setOrder a ep) es)[i]?.map (fun e=>(e.2,slot))=some (x,next))
  (h2:w.params.followText "set-order" = false->(match es[wE t.place slot]?,t.place[wE t.place slot]? with|some (_,x),some j=>some (x,j+1)|_,_=>none)=some (x,next))
  (hQ:∀h',eT h' I a (.int next 0) (i+1) es.size ep->wS I s.heap h'->Q (some x) {s with heap:=h'}):wpAny (model P w) A (pyNext (.ref I)) Q E s :=by
 obtain ⟨o,ho,hc,ky⟩:=id hit
 obtain ⟨oa,tX,Et,tY⟩:=hE.at_
 unfold pyNext
 refine ap (ID (xw (name:=r9 "__next__") hit.typeIs cm (xz cm hit.typeIs ji ?_ (jj _))))
 unfold u7.«set_iterator.__next__»
 refine ap (m:=slotArgs "__next__" 0 _) (bv ?_)
 dsimp only
 refine ap (TD ho ky ?_)
 dsimp only
 refine ap (Po tX tY hE.fits ?_)
 simp only [bne_self_eq_false,lw,if_false,ut]
 have fin:∀r,r=some (x,next)->wpAny (model P w) A.in1 (match r with
    |some (x,next)=>do
     setField (li I) 0 (rawInt next)
     setField (li I) 1 (rawInt (↑i+1))
     ret x
    |none=>do
     setField (li I) 2 BN
     let __do_lift <- newExc (AM "StopIteration") []
     raiseNew __do_lift) (fun fin s'=>∃v,fin=Fin.done (Flow.ret v)/\wpAny (model P w) A (pure (some v)) Q E s') (fun e s'=>wpAny (model P w) A (do
     let __do_lift <- isInstance e (AM "StopIteration")
     if __do_lift=true then pure none else throw e) Q E s') s:=fun r hr=>by
  subst hr
  dsimp only
  refine ap (lz (by decide) hit ?_)
  have K5:=hit.K4 (x:=rawInt next)
  refine ap (lz (by decide) K5 ?_)
  exact bv ⟨x,rfl,bv (hQ _ K5.vN ((Is ..).trans (Is ..)))⟩
 exact ap (rg hE hd (fun hb=>fin _ (h1 hb)) (fun hb=>fin _ (h2 hb)))
theorem HK {I a:ac} {slot i ep:Nat} {es:Array (Int×al)} {t:tz} {Q:Option al->ba->Prop} (hh:A.handled=none) (hit:eT s.heap I a (.int slot 0) i es.size ep) (hE:jQ P w s.heap a es ep t)
  (hd:w.params.followText "set-order" = false->(!t.plain && decide (es.size > 1))=false)
  (h1:w.params.followText "set-order" = true->(pickOrder (w.params.setOrder a ep) es)[i]?.map (fun e=>(e.2,slot))=none)
  (h2:w.params.followText "set-order" = false->(match es[wE t.place slot]?,t.place[wE t.place slot]? with|some (_,x),some j=>some (x,j+1)|_,_=>none)=none)
  (hQ:∀h',(∀b o,b≠I->s.heap.get? b=some o->h'.get? b=some o)->Q none {s with heap:=h'}):wpAny (model P w) A (pyNext (.ref I)) Q E s :=by
 obtain ⟨o,ho,hc,ky⟩:=id hit
 obtain ⟨oa,tX,Et,tY⟩:=hE.at_
 unfold pyNext
 refine ap (ID (xw (name:=r9 "__next__") hit.typeIs cm (xz cm hit.typeIs ji ?_ (jj _))))
 unfold u7.«set_iterator.__next__»
 refine ap (m:=slotArgs "__next__" 0 _) (bv ?_)
 dsimp only
 refine ap (TD ho ky ?_)
 dsimp only
 refine ap (Po tX tY hE.fits ?_)
 simp only [bne_self_eq_false,lw,if_false,ut]
 have fin:∀r:Option (al×Nat),r=none->wpAny (model P w) A.in1 (match r with
    |some (x,next)=>do
     setField (li I) 0 (rawInt next)
     setField (li I) 1 (rawInt (↑i+1))
     ret x
    |none=>do
     setField (li I) 2 BN
     let __do_lift <- newExc (AM "StopIteration") []
     raiseNew __do_lift) (fun fin s'=>∃v,fin=Fin.done (Flow.ret v)/\wpAny (model P w) A (pure (some v)) Q E s') (fun e s'=>wpAny (model P w) A (do
     let __do_lift <- isInstance e (AM "StopIteration")
     if __do_lift=true then pure none else throw e) Q E s') s:=fun r hr=>by
  subst hr
  dsimp only
  refine ap (lz (by decide) hit ?_)
  exact yL hh fun e h' _ k hT=>vO hT (hQ h' fun b o hb q=>k b o ((BY _ _ (zd hb)).trans q))
 exact ap (rg hE hd (fun hb=>fin _ (h1 hb)) (fun hb=>fin _ (h2 hb)))
theorem HL {I a T:ac} {i ep j:Nat} {es:Array (Int×al)} {t:tz} {ps:List Nat} {x:Int×al} {Q:Option al->ba->Prop} (hit:eT s.heap I a (.ref T) i es.size ep) (hE:jQ P w s.heap a es ep t)
  (hT:s.heap.IsTuple T (ps.map fun (i:Nat)=>rawInt i).toArray) (hj:ps[i]?=some j) (hx:es[j]?=some x)
  (hQ:∀h',eT h' I a (.ref T) (i+1) es.size ep->wS I s.heap h'->Q (some x.2) {s with heap:=h'}):wpAny (model P w) A (pyNext (.ref I)) Q E s :=by
 obtain ⟨o,ho,hc,ky⟩:=id hit
 obtain ⟨oa,tX,Et,tY⟩:=hE.at_
 unfold pyNext
 refine ap (ID (xw (name:=r9 "__next__") hit.typeIs cm (xz cm hit.typeIs ji ?_ (jj _))))
 unfold u7.«set_iterator.__next__»
 refine ap (m:=slotArgs "__next__" 0 _) (bv ?_)
 dsimp only
 refine ap (TD ho ky ?_)
 dsimp only
 refine ap (Po tX tY hE.fits ?_)
 simp only [bne_self_eq_false,lw,if_false,ut]
 obtain ⟨ot,K6,_,nt,pf⟩:=hT
 refine ap (WT K6 pf ?_)
 have e:(ps.map fun (i:Nat)=>rawInt i).toArray[i]?=some (rawInt j) :=by simp [hj]
 dsimp only
 rw [e]
 show wpAny _ _ (setNextDrawn a (Int.toNat (j:Int)) ep>>=_) _ _ s
 rw [ut]
 refine ap ?_
 unfold setNextDrawn
 refine ap (SI tX tY hE.fits ?_)
 simp only [bne_self_eq_false,lw,if_false,hx]
 refine bv ?_
 refine ap (lz (by decide) hit ?_)
 exact bv ⟨x.2,rfl,bv (hQ _ hit.vN (Is ..))⟩
theorem HM {I a T:ac} {i ep:Nat} {es:Array (Int×al)} {t:tz} {ps:List Nat} {Q:Option al->ba->Prop} (hh:A.handled=none) (hit:eT s.heap I a (.ref T) i es.size ep) (hE:jQ P w s.heap a es ep t)
  (hT:s.heap.IsTuple T (ps.map fun (i:Nat)=>rawInt i).toArray) (hj:ps.length<=i)
  (hQ:∀h',(∀b o,b≠I->s.heap.get? b=some o->h'.get? b=some o)->Q none {s with heap:=h'}):wpAny (model P w) A (pyNext (.ref I)) Q E s :=by
 obtain ⟨o,ho,hc,ky⟩:=id hit
 obtain ⟨oa,tX,Et,tY⟩:=hE.at_
 unfold pyNext
 refine ap (ID (xw (name:=r9 "__next__") hit.typeIs cm (xz cm hit.typeIs ji ?_ (jj _))))
 unfold u7.«set_iterator.__next__»
 refine ap (m:=slotArgs "__next__" 0 _) (bv ?_)
 dsimp only
 refine ap (TD ho ky ?_)
 dsimp only
 refine ap (Po tX tY hE.fits ?_)
 simp only [bne_self_eq_false,lw,if_false,ut]
 obtain ⟨ot,K6,_,nt,pf⟩:=hT
 refine ap (WT K6 pf ?_)
 have e:(ps.map fun (i:Nat)=>rawInt i).toArray[i]?=none :=by simp [hj]
 dsimp only
 rw [e]
 dsimp only
 refine ap (lz (by decide) hit ?_)
 refine ap (lz (by decide) (hit.K4 (x:=rawInt 0)) ?_)
 exact yL hh fun e h' _ k hT=>vO hT (hQ h' fun b o hb q=>k b o ((BY _ _ (zd hb)).trans ((BY _ _ (zd hb)).trans q)))
end
theorem eT.bU {h h':ge} {I a:ac} {first:al} {i n ep:Nat} (x:eT h I a first i n ep) (k:∀o,h.get? I=some o->h'.get? I=some o):eT h' I a first i n ep:=let ⟨o,ho,r⟩:=x;⟨o,k o ho,r⟩
theorem jQ.bU {P:ff} {w:ii} {h h':ge} {a:ac} {es:Array (Int×al)} {ep:Nat} {t:tz} (x:jQ P w h a es ep t) (k:∀o,h.get? a=some o->h'.get? a=some o):jQ P w h' a es ep t:=
 ⟨let ⟨o,ho,r⟩:=x.at_;⟨o,k o ho,r⟩,x.fits,x.tab⟩
theorem zY {xs:Array Nat} (h:lu xs) {i:Nat} (hi:i<xs.size):wE xs (xs[i]+1)=i+1 :=by
 obtain ⟨b0,b1,b2⟩:=pJ (xs[i]+1) h
 generalize wE xs (xs[i]+1)=p at *
 have h1:i<p :=by
  refine Nat.lt_of_not_le fun hp=>?_
  have:=b2 i hi hp
  omega
 refine Nat.le_antisymm (Wl fun hp=>?_) h1
 have Qe:i+1<xs.size :=by omega
 have q:=b1 (i+1) Qe hp
 have q2:=qY h (show i<i+1 by omega) Qe
 omega
theorem zZ {xs:Array Nat} (h:lu xs):wE xs 0=0 :=by
 obtain ⟨b0,b1,b2⟩:=pJ 0 h
 generalize wE xs 0=p at *
 by_cases hp:p=0
 ·exact hp
 ·have:=b1 0 (by omega) (by omega)
  omega
section
variable {P:ff} {w:ii} {A:ma} {E:al->ba->Prop} {s:ba}
theorem si_self {I a:ac} {first:al} {i n ep:Nat} {Q:al->ba->Prop} (hit:eT s.heap I a first i n ep) (h:Q (.ref I) s):wpAny (model P w) A (pyIter (.ref I)) Q E s :=by
 refine Xi hit.typeIs ra (xz ra hit.typeIs zW ?_ (zX _))
 show wpAny _ _ (ret (.ref I)) _ _ s
 exact bv ⟨_,rfl,"set_iterator",_,hit.typeIs,cm.lookup,h⟩
theorem vP {es:List (Int×al)} (h:WR (intKind P w) es) {e:Int×al} (he:e∈es):∃t,e.2=.int (dH e) t :=by
 obtain ⟨⟨k',tV,_⟩,_⟩:=h e he
 obtain ⟨t,e2⟩:=V8 (k:=k') (v:=e.2) tV
 exact ⟨t,by unfold dH;rw [e2]⟩
abbrev BZ (xs:List Int):Nat->al->Prop:=fun i v=>∃m t,xs[i]?=some m/\v=.int m t
def fJ (w:ii) (a:ac) (ep:Nat) (es:Array (Int×al)):List (Int×al):=if w.params.followText "set-order" = true then (pickOrder (w.params.setOrder a ep) es).toList else es.toList
theorem jk (w:ii) (a:ac) (ep:Nat) (es:Array (Int×al)):(fJ w a ep es).Perm es.toList :=by
 unfold fJ
 split
 ·exact tW _ _
 ·exact .refl _
theorem Eu {I a:ac} {es:Array (Int×al)} {ep:Nat} {t:tz} (hh:A.handled=none) (dE:a≠I) (kM:WR (intKind P w) es.toList) (hd:w.params.followText "set-order" = false->(!t.plain && decide (es.size > 1))=false) :
  WalksS P w A I [I,a] [I] (fun a b=>b=a) ((fJ w a ep es).map dH).length (BZ ((fJ w a ep es).map dH))
   (fun i s=>jQ P w s.heap a es ep t/\∃slot:Nat,eT s.heap I a (.int slot 0) i es.size ep/\(w.params.followText "set-order" = false->wE t.place slot=i)) where
 sub:=fun b hb=>by simp at hb;simp [hb]
 grefl:=fun _=>rfl
 gtrans:=fun _ _ _ h1 h2=>h2.trans h1
 frame:=fun i s h' _ st _ hk=>⟨st.1.bU fun o e=>hk a (by simp) o e,let ⟨slot,h1,h2⟩:=st.2;⟨slot,h1.bU fun o e=>hk I (by simp) o e,h2⟩⟩
 item:=fun i s Q E hi st hQ=>by
  obtain ⟨hE,slot,hit,hb⟩:=st
  have hl:i<(fJ w a ep es).length :=by simpa using hi
  have vM:i<es.size :=by rw [<- uu,<- (jk w a ep es).length_eq];exact hl
  obtain ⟨tk,he⟩:=vP (P:=P) (w:=w) kM ((jk w a ep es).mem_iff.mp (rb hl))
  have c9:i<t.place.size :=by
   have:=hE.fits
   simp only [tz.fits,B0,beq_iff_eq] at this
   rw [this.1];exact vM
  refine HJ (next:=if w.params.followText "set-order" = true then slot else t.place[i]+1) (x:=((fJ w a ep es)[i]).2) hit hE hd (fun gO=>?_) (fun gO=>?_) (fun h' Ew hs=>hQ _ _ ⟨_,tk,by rw [ce,ag hl];rfl,he⟩ ⟨hE.bU fun o e=>by rw [hs.2 a dE];exact e,_,Ew,fun gO=>?_⟩ ⟨fun b o hb e=>by rw [hs.2 b (fun z=>hb (by simp [z]))];exact e,rfl,rfl,rfl,cr _⟩)
  ·rw [if_pos gO]
   have e1:fJ w a ep es=(pickOrder (w.params.setOrder a ep) es).toList :=by unfold fJ;rw [if_pos gO]
   have e2:(pickOrder (w.params.setOrder a ep) es)[i]?=some (fJ w a ep es)[i] :=by
    rw [<- SZ,<- e1]
    exact ag hl
   rw [e2]
   rfl
  ·rw [if_neg (by rw [gO];decide),hb gO,Fk vM,Fk c9]
   have e1:fJ w a ep es=es.toList :=by unfold fJ;rw [if_neg (by rw [gO];decide)]
   have e2:(fJ w a ep es)[i]=es[i] :=by simp [e1]
   rw [e2]
  ·rw [if_neg (by rw [gO];decide)]
   exact zY hE.tab.ris c9
 done:=fun s Q E st hQ=>by
  obtain ⟨hE,slot,hit,hb⟩:=st
  have hl:((fJ w a ep es).map dH).length=es.size :=by rw [c8,(jk w a ep es).length_eq,uu]
  rw [hl] at hit hb
  refine HK hh hit hE hd (fun gO=>?_) (fun gO=>?_) (fun h' k=>hQ _ ⟨fun b o hb e=>k b o (fun z=>hb (by simp [z])) e,rfl,rfl,rfl,cr _⟩)
  ·have e1:(pickOrder (w.params.setOrder a ep) es)[es.size]?=none :=by
    refine We ?_
    rw [<- uu,(tW _ es).length_eq,uu]
    exact cr _
   rw [e1]
   rfl
  ·rw [hb gO,We (cr _)]
 self:=fun i s Q E st hQ=>let ⟨_,slot,hit,_⟩:=st;si_self hit hQ
theorem z5 {I a T:ac} {es:Array (Int×al)} {ep:Nat} {t:tz} {ps:List Nat} (hh:A.handled=none) (dE:a≠I) (RJ:T≠I) (kM:WR (intKind P w) es.toList) (B1:∀j∈ps,j<es.size) (c9:ps.length=es.size) :
  WalksS P w A I [I,a,T] [I] (fun a b=>b=a) (ps.map fun j=>dH (es.getD j (0,.none))).length (BZ (ps.map fun j=>dH (es.getD j (0,.none))))
   (fun i s=>jQ P w s.heap a es ep t/\s.heap.IsTuple T (ps.map fun (i:Nat)=>rawInt i).toArray/\eT s.heap I a (.ref T) i es.size ep) where
 sub:=fun b hb=>by simp at hb;simp [hb]
 grefl:=fun _=>rfl
 gtrans:=fun _ _ _ h1 h2=>h2.trans h1
 frame:=fun i s h' _ st _ hk=>⟨st.1.bU fun o e=>hk a (by simp) o e,st.2.1.at fun o e=>hk T (by simp) o e,st.2.2.bU fun o e=>hk I (by simp) o e⟩
 item:=fun i s Q E hi st hQ=>by
  obtain ⟨hE,hT,hit⟩:=st
  have hl:i<ps.length :=by simpa using hi
  have hj:=B1 _ (rb hl)
  have hx:es[ps[i]]?=some es[ps[i]]:=Fk hj
  have hg:es.getD ps[i] (0,.none)=es[ps[i]] :=by simp [Array.getD,hj]
  obtain ⟨tk,he⟩:=vP (P:=P) (w:=w) kM (show es[ps[i]]∈es.toList by simp)
  refine HL hit hE hT (ag hl) hx fun h' Ew hs=>hQ _ _ ⟨_,tk,by rw [ce,ag hl];rfl,by dsimp only;rw [hg];exact he⟩ ⟨hE.bU fun o e=>by rw [hs.2 a dE];exact e,hT.at fun o e=>by rw [hs.2 T RJ];exact e,Ew⟩ ⟨fun b o hb e=>by rw [hs.2 b (fun z=>hb (by simp [z]))];exact e,rfl,rfl,rfl,cr _⟩
 done:=fun s Q E st hQ=>by
  obtain ⟨hE,hT,hit⟩:=st
  have hl:(ps.map fun j=>dH (es.getD j (0,.none))).length=ps.length:=c8 _
  rw [hl] at hit
  exact HM hh hit hE hT (cr _) fun h' k=>hQ _ ⟨fun b o hb e=>k b o (fun z=>hb (by simp [z])) e,rfl,rfl,rfl,cr _⟩
 self:=fun i s Q E st hQ=>si_self st.2.2 hQ
theorem z6 {a:ac} {ns:List Int} {Q:al->ba->Prop} (hS:cy P w s.heap a ns)
  (hQ:∀(I:ac) (h':ge) (d':Drawn) (xs:List Int) (fp:List ac) (St:Nat->ba->Prop),xs.Perm ns->(∀b o,s.heap.get? b=some o->h'.get? b=some o)->s.heap.objs.size<=I->(∀b∈fp,b=a\/s.heap.objs.size<=b)->
   (∀A':ma,A'.handled=none->WalksS P w A' I fp [I] (fun a b=>b=a) xs.length (BZ xs) St)->St 0 {s with heap:=h',drawn:=d'}->Q (.ref I) {s with heap:=h',drawn:=d'}):wpAny (model P w) A (pyIter (.ref a)) Q E s :=by
 have Qf:=hS.typeIs (h:=s.heap)
 obtain ⟨o,es,ep,t,ho,hex,hd,kM,hp,hn,hb,hf,ht⟩:=hS
 have hE:jQ P w s.heap a es ep t:=⟨⟨o,ho,hex,hd⟩,hf,ht⟩
 have bj:=hX ho
 refine Xi Qf F.slot_set_iter (xz F.slot_set_iter Qf xS ?_ (F.args_set_iter_1 _))
 unfold u7.«frozenset.__iter__»
 refine ap (m:=u7.Frozenset.slot0 "__iter__" _) (bv ?_)
 unfold u7.Frozenset.sizeOf
 refine ap (ap (Po ho hd hf (bv ?_)))
 refine ap ?_
 unfold setDrawn
 refine ap (SI ho hd hf ?_)
 dsimp only
 refine ap (nC ?_)
 refine bv ?_
 by_cases tZ:(!w.params.followText "set-order" && (!t.plain && decide (es.size > 1)))=true
 ·show wpAny _ _ (if (!w.params.followText "set-order" && (!t.plain && decide (es.size > 1)))=true then _ else _) _ _ s
  rw [if_pos tZ]
  refine ap (nB _ _ (by simp) fun ps d B1=>?_)
  have c9:ps.length=es.size :=by rw [B1.length_eq,SC]
  refine ap (wpAny_newTuple ?_ (by rw [c8,c9];exact Xf hb))
  refine ap (wpAny_setEpoch_of (o:=o) (cb _ ho) hd hf ?_)
  unfold newFields
  refine ap (wP ?_ (by size_fits))
  have hsz:∀u:i4,(s.heap.push u).objs.size=s.heap.objs.size+1:=fun u=>CS _ _
  have hit:eT ((s.heap.push {cls:=.type "tuple",data:=.seq (ps.map fun (i:Nat)=>rawInt i).toArray}).push {cls:=.type "set_iterator",data:=.fields #[.ref s.heap.objs.size,.int (0:Nat) 0,.ref a,.int es.size 0,.int ep 0]}) (s.heap.push {cls:=.type "tuple",data:=.seq (ps.map fun (i:Nat)=>rawInt i).toArray}).objs.size a (.ref s.heap.objs.size) 0 es.size ep:=⟨_,f8 _ rfl,rfl,rfl⟩
  have Th:(ps.map fun j=>dH (es.getD j (0,.none))).Perm ns :=by
   refine ((B1.map _).trans ?_).trans hp
   have:(i0 es.size).map (fun j=>dH (es.getD j (0,.none)))=es.toList.map dH :=by
    refine List.ext_getElem (by simp) fun n h1 h2=>?_
    have vc:n<es.size :=by simpa using h1
    simp [Array.getD,vc]
   rw [this]
  refine bv ⟨_,rfl,"set_iterator",_,eT.typeIs (s:={s with heap:=_,drawn:=d}) hit,cm.lookup,?_⟩
  refine hQ _ _ d _ [(s.heap.push {cls:=.type "tuple",data:=.seq (ps.map fun (i:Nat)=>rawInt i).toArray}).objs.size,a,s.heap.objs.size] _ Th (fun b o e=>cb _ (cb _ e)) (by rw [hsz];exact ET _) (fun b hb=>?_) (fun A' hA=>z5 (t:=t) (ep:=ep) hA ?_ ?_ kM (fun j hj=>by simpa using B1.mem_iff.mp hj) c9) ⟨hE.bU fun o e=>cb _ (cb _ e),⟨_,cb _ (f8 _ rfl),rfl,_,rfl⟩,hit⟩
  ·simp only [kw,FS,or_false] at hb
   rcases hb with rfl|rfl|rfl
   ·exact .inr (by rw [hsz];exact ET _)
   ·exact .inl rfl
   ·exact .inr (cr _)
  ·rw [hsz];exact jp (Ch bj)
  ·rw [hsz];exact jp (Cf _)
 ·show wpAny _ _ (if (!w.params.followText "set-order" && (!t.plain && decide (es.size > 1)))=true then _ else _) _ _ s
  rw [if_neg tZ]
  refine ap (bv (ap (wpAny_setEpoch_of ho hd hf ?_)))
  unfold newFields
  refine ap (wP ?_ (by size_fits))
  have hit:eT (s.heap.push {cls:=.type "set_iterator",data:=.fields #[.int (0:Nat) 0,.int (0:Nat) 0,.ref a,.int es.size 0,.int ep 0]}) s.heap.objs.size a (.int (0:Nat) 0) 0 es.size ep:=⟨_,f8 _ rfl,rfl,rfl⟩
  refine bv ⟨_,rfl,"set_iterator",_,eT.typeIs (s:={s with heap:=_}) hit,cm.lookup,?_⟩
  refine hQ _ _ s.drawn _ [s.heap.objs.size,a] _ (((jk w a ep es).map dH).trans hp) (fun b o e=>cb _ e) (cr _) (fun b hb=>?_) (fun A' hA=>Eu (t:=t) (ep:=ep) hA (jp bj) kM fun hb=>?_) ⟨hE.bU fun o e=>cb _ e,0,hit,fun _=>zZ ht.ris⟩
  ·simp only [kw,FS,or_false] at hb
   rcases hb with rfl|rfl
   ·exact .inr (cr _)
   ·exact .inl rfl
  ·rw [hb] at tZ
   simpa using tZ
end
section
variable {P:ff} {w:ii} {A:ma} {E:al->ba->Prop} {s:ba}
theorem xT {a:ac} {Q:Bool->ba->Prop} (hT:s.TypeIs (.ref a) "set") (h:Q false s):wpAny (model P w) A (TM (.ref a)) Q E s :=by
 unfold TM
 refine ap (WG hT F.slot_set_len.lookup ?_)
 have e:splitId "set.__len__" = some ("set","__len__") :=by kernel_rfl
 dsimp only
 rw [e]
 dsimp only
 refine ap (Wn hT sub_set_self ?_)
 simp only [W7,lw,if_false]
 show wpAny _ _ (if _=true then _ else _) _ _ s
 rw [if_pos (by kernel_rfl)]
 exact ap (WF hT (bv h))
theorem ints_of {xs:List Int} {acc:Array al} (h:ItemsOf (BZ xs) acc xs.length):Tk acc.toList xs :=by
 obtain ⟨hs,hi⟩:=h
 have:∀(vs:List al) (xs:List Int),vs.length=xs.length->(∀(j:Nat) (v:al),vs[j]?=some v->BZ xs j v)->Tk vs xs :=by
  intro vs
  induction vs with
  |nil=>intro xs hl _;cases xs with|nil=>exact .nil|cons x xs=>simp at hl
  |cons v vs ih=>
   intro xs hl hg
   cases xs with
   |nil=>simp at hl
   |cons x xs=>
    obtain ⟨m,t,e1,rfl⟩:=hg 0 v rfl
    have e2:x=m :=by simpa using e1
    subst e2
    refine .cons _ _ (ih xs (by simpa using hl) fun j u hu=>?_)
    obtain ⟨m',t',e3,e4⟩:=hg (j+1) u (by simpa using hu)
    exact ⟨m',t',by simpa using e3,e4⟩
 exact this acc.toList xs (by simpa using hs) fun j v hv=>hi j v (by rw [<- SZ];exact hv)
theorem xU {a:ac} {ns:List Int} {QL:List al->ba->Prop} (hh:A.handled=none) (hS:cy P w s.heap a ns) (hz:ns.length<=sizeLine)
  (hQ:∀us xs h' d' tk,Tk us xs->xs.Perm ns->(∀b o,s.heap.get? b=some o->h'.get? b=some o)->QL us {s with heap:=h',drawn:=d',toks:=tk}):wpAny (model P w) A (collect (.ref a)) QL E s :=by
 have bj:a<s.heap.objs.size:=let ⟨_,_,_,_,ho,_⟩:=hS;hX ho
 have Qg:s.heap.objs.size≠a:=OL bj
 unfold collect
 refine ap (WQ (ze Wr ?_))
 rw [xp Ws _]
 show wpAny _ A.in1 (newList []>>=fun l=>again (.builtin "list.__iadd__" ⟨[l,.ref a],[]⟩)) _ _ s
 refine ap (wP ?_)
 refine bv ⟨EQ On _,ze Xd ?_⟩
 rw [xp On _]
 have BU:cy P w (s.heap.push {cls:=.type "list",data:=.seq ([]:List al).toArray}) a ns:=hS.bU fun o e=>cb _ e
 have T1:W6 {s with heap:=s.heap.push {cls:=.type "list",data:=.seq ([]:List al).toArray}} (.ref a) "set" := cy.typeIs (P:=P) (w:=w) (h:=s.heap) (s:={s with heap:=_}) BU
 show wpAny _ A.in1 (DD (.ref s.heap.objs.size) (.ref a) (.ref s.heap.objs.size)) _ _ _
 unfold DD
 refine ap (WF T1 ?_)
 have h1:OP (.ref s.heap.objs.size) (.ref a)=false :=by simp [OP,Qg]
 have h2:(AM "set" == AM "list")=false :=by decide
 have h3:(AM "set" == AM "tuple")=false :=by decide
 simp only [h1,h2,h3,Bool.or_false,lw,if_false]
 refine ap (z6 (s:={s with heap:=s.heap.push {cls:=.type "list",data:=.seq ([]:List al).toArray}}) BU ?_)
 intro I h' d' xs fp St hp hk hI Ti hW ie
 have T2:W6 {s with heap:=h',drawn:=d'} (.ref a) "set" := cy.typeIs (P:=P) (w:=w) (h:=s.heap) (s:={s with heap:=_,drawn:=d'}) (BU.bU fun o e=>hk a o e)
 refine ap (AT (xT T2 ?_))
 show wpAny _ A.in1 (if _=true then _ else _) _ _ _
 rw [if_pos (by kernel_rfl)]
 show wpAny _ A.in1 (rule "list.extend.makes-room" >>= fun _=>u7.List.listTouch (.ref s.heap.objs.size)>>=fun _=>
  again (.builtin "list.extend.loop" ⟨[.ref s.heap.objs.size,.ref I,.ref s.heap.objs.size],[]⟩)) _ _ _
 refine ap (Ix ?_)
 have oC:h'.get? s.heap.objs.size=some {cls:=.type "list",data:=.seq ([]:List al).toArray}:=hk _ _ (f8 _ rfl)
 refine ap ?_
 show wpAny _ A.in1 (updateSeq s.heap.objs.size (·.push .none)>>=fun _=>updateSeq s.heap.objs.size (·.pop)) _ _ _
 refine ap (P3 oC rfl ?_)
 have uW:=Cs (Me (·.push BN)) oC rfl
 refine P3 uW rfl ?_
 have OD:=Cs (Me (·.pop)) uW rfl
 have oth:∀b o,b≠s.heap.objs.size->h'.get? b=some o->((h'.update s.heap.objs.size (Me (·.push BN))).update s.heap.objs.size (Me (·.pop))).get? b=some o:=
  fun b o hb e=>(BY _ _ (zd hb)).trans ((BY _ _ (zd hb)).trans e)
 have K7:(s.heap.push {cls:=.type "list",data:=.seq ([]:List al).toArray}).objs.size=s.heap.objs.size+1:=CS _ _
 have vL:s.heap.objs.size ∉ fp:=fun hm=>by
  rcases Ti _ hm with z|z
  ·exact Qg z
  ·have z':s.heap.objs.size+1<=s.heap.objs.size :=by rw [<- K7];exact z
   exact absurd z' (Nat.not_succ_le_self _)
 have W:=hW A.in1.in1 (by simp [hh])
 have hl:xs.length<=sizeLine :=by rw [hp.length_eq];exact hz
 refine bv ⟨EQ VO _,codeAny_extend_loopS (W.of_in1) hl _ vL _ xs.length 0 _ _ _ rfl (sw _) (W.frame 0 ({s with heap:=h',drawn:=d'}:ba) _ s.toks ie (cr _) fun b hb o e=>oth b o (fun h=>vL (h▸hb)) e) OD (ItemsOf.nil _) fun s' i5 c' hm lx K8=>?_⟩
 show wpAny _ A (load s.heap.objs.size>>=_) _ _ s'
 refine ap (XN lx ?_)
 refine bv ?_
 obtain ⟨h2,g2,d2,Tj,os2⟩:=s'
 have eg:g2=s.gens:=hm.gens
 have ed:d2=d':=hm.drawn
 have eo:os2=s.os:=hm.os
 subst eg;subst ed;subst eo
 refine hQ _ xs h2 _ Tj (ints_of K8) hp fun b o e=>hm.heap b o ?_ (oth b o (jp (hX e)) (hk b o (cb _ e)))
 have hb:b<s.heap.objs.size:=hX e
 simp only [kw,FS,or_false,not_or]
 refine ⟨jp hb,fun z=>?_⟩
 have z':s.heap.objs.size+1<=b :=by rw [<- K7,z];exact hI
 exact absurd (l8 (Ch hb) z') (EO _)
end
def sortI (ns:List Int):List Int:=ns.mergeSort fun a b=>decide (a<=b)
theorem sortI_perm (ns:List Int):(sortI ns).Perm ns:=List.mergeSort_perm _ _
theorem Ez (ns:List Int):(sortI ns).Pairwise (·<=·) :=by
 have:=List.pairwise_mergeSort (le:=fun a b:Int=>decide (a<=b)) (fun a b c h1 h2=>by simp only [decide_eq_true_eq] at *;omega) (fun a b=>by simp only [VP,decide_eq_true_eq];omega) ns
 exact this.imp fun h=>by simpa using h
theorem xV {a b:List Int} (p:a.Perm b) (ha:a.Pairwise (·<=·)) (hb:b.Pairwise (·<=·)):a=b:=V1.eq_of_pairwise (le:=(·<=·)) (fun x y _ _ h1 h2=>Int.le_antisymm h1 h2) ha hb p
theorem vQ {ms ns:List Int} (p:ms.Perm ns) (h:ms.Pairwise (·<=·)):ms=sortI ns:=xV (p.trans (sortI_perm ns).symm) h (Ez ns)
theorem rh:∀{ns:List Int} {us:List al},Vals (ns.map V.int) us->Tk us ns
 | [],_,.nil=>.nil
 |n::ns,_,.cons r t=>by
          obtain ⟨k,rfl⟩:=r
          exact .cons _ _ (rh t)
theorem nE:∀{ns:List Int} {us:List al},Tk us ns->Vals (ns.map V.int) us
 |_,_,.nil=>.nil
 |_,_,.cons n t r=>.cons ⟨t,rfl⟩ (nE r)
section
variable {P:ff} {w:ii} {A:ma} {E:al->ba->Prop} {s:ba}
theorem pj {T:String} {l:ac} {vs:List al} {Q:List al->ba->Prop} {o:i4} {n:Nat} (ho:s.heap.get? l=some o) (hc:o.cls=.type T) (hd:o.data=.seq vs.toArray n) (hT:T = "list" \/ T = "tuple")
  (h:∀h',(∀b o,s.heap.get? b=some o->h'.get? b=some o)->Q vs {s with heap:=h'}) (hsz:vs.length<=sizeLine):wpAny (model P w) A (collect (.ref l)) Q E s :=by
 unfold collect
 refine ap (WQ (ze Wr ?_))
 rw [xp Ws _]
 show wpAny _ A.in1 (newList []>>=fun l'=>again (.builtin "list.__iadd__" ⟨[l',.ref l],[]⟩)) _ _ s
 refine ap (wpAny_newList (bv ⟨EQ On _,ze Xd ?_⟩))
 rw [xp On _]
 show wpAny _ A.in1 (DD (.ref s.heap.objs.size) (.ref l) (.ref s.heap.objs.size)) _ _ {s with heap:=s.heap.push (seqObj "list" #[] 0)}
 unfold DD
 have ib:(s.heap.push (seqObj "list" #[] 0)).get? l=some o:=cb _ ho
 refine ap (WF (T:=T) ⟨o,ib,hc⟩ ?_)
 rw [if_pos (by rcases hT with rfl|rfl <;> simp)]
 refine ap (listItems_at ib hd ?_)
 refine ap (listItems_at (xs:=#[]) (n:=0) (f8 _ rfl) rfl ?_)
 rw [if_neg (by simp)]
 refine ap (listUpdate_at (xs:=#[]) (n:=0) (f8 _ rfl) rfl ?_ (sw _) (by show (#[]++vs.toArray).size<=sizeLine+1;simp only [Xj,db,VQ];omega))
 refine bv ?_
 show wpAny (model P w) A (load s.heap.objs.size>>=_) Q E _
 refine ap (XN (get?_update_seq (f8 _ rfl) _) ?_)
 show wpAny _ _ (pure ((#[]:Array al)++vs.toArray).toList) Q E _
 rw [show ((#[]:Array al)++vs.toArray).toList=vs by simp]
 exact bv (h _ fun b o e=>(BY _ _ (OL (hX e))).trans (cb _ e))
theorem z7 {a:al} {ns:List Int} {Q:al->ba->Prop} (RK:∀QL:List al->ba->Prop,(∀us xs h' d' tk,Tk us xs->xs.Perm ns->(∀b o,s.heap.get? b=some o->h'.get? b=some o)->QL us {s with heap:=h',drawn:=d',toks:=tk})->wpAny (model P w) A.in1 (collect a) QL E s) (K9:ns.length<64)
  (h:∀(h1 h':ge) d' tk (us:List al) e,Tk us (sortI ns)->(∀b o,s.heap.get? b=some o->h1.get? b=some o)->(∀b o,h1.get? b=some o->h'.get? b=some o)->h'.get? h1.objs.size=some {cls:=.type "list",data:=.seq us.toArray e}->Q (.ref h1.objs.size) {s with heap:=h',drawn:=d',toks:=tk}) :
  wpAny (model P w) A (call (.builtin "sorted") [a]) Q E s :=by
 refine Calls.call_function_entry kind_sorted plain_sorted entry_sorted (args_sorted1 _) ?_
 unfold u7.«sorted»
 refine ap (m:=checkCount "sorted" 1 1 _) (bv ?_)
 refine ap (RK _ fun us xs h' d' tk hI hp hk=>?_)
 have La:us.length<64 :=by
  have:us.length=xs.length:=(nE hI).length.symm.trans (c8 _)
  rw [this,hp.length_eq]
  exact K9
 refine ap (wpAny_newList ?_ (hsz:=wv (Na La) (by decide)))
 have A9:(h'.push (seqObj "list" us.toArray 0)).get? h'.objs.size=some (seqObj "list" us.toArray 0):=f8 _ rfl
 refine ap (AT (xz slot_list_sort ⟨_,A9,rfl⟩ entry_list_sort (list_sort_tree A9 hI La fun out Vx a1 a2 a3=>⟨_,rfl,?_⟩) (args_list_sort _)))
 refine bv ⟨_,rfl,?_⟩
 obtain ⟨e,he⟩:=sortedHeap_at (out:=out) A9
 refine h h' _ d' tk out.toList e (by rw [<- vQ (a2.trans hp) a3];exact a1) hk (fun b o hb=>?_) (by simpa using he)
 have bj:=hX hb
 rw [sortedHeap_old (jp bj) (by rw [CS];exact Ch bj)]
 exact cb _ hb
end
theorem z8 {P:ff} {w:ii} {h:ge} {a:ac} {ns:List Int} (x:cy P w h a ns):∃o,h.get? a=some o:=let ⟨o,_,_,_,e,_⟩:=x;⟨o,e⟩
theorem HN {P:ff} {w:ii} {H:Hp} {h:ge} {a:ac} {ns:List Int} (x:cy P w h a ns):ObjOk P w H h a (pL P w a ns):=⟨x,z8 x,fun h1 h2 y k=>y.bU k⟩
theorem HP {X:Cx} {pins:List (ac×i4)} {σ:St} {H:Hp} {s:ba} {a:ac} {ns:List Int} (I:Inv X pins σ H s) (h:H a=some (pL X.prog X.w a ns)):cy X.prog X.w s.heap a ns:=(I.hok a _ h).1
inductive Dt where
 |au|bl (b:Bool)|int (i:Int)|str (x:bn)|lst (xs:List Dt)|tup (xs:List Dt)
inductive eU (H:Hp):V->Dt->Prop where
 |au:eU H .au .au
 |bl (b:Bool):eU H (.bl b) (.bl b)
 |int (i:Int):eU H (.int i) (.int i)
 |str (x:bn):eU H (.str x) (.str x)
 |lst {a:ac} {xs:List V} {ds:List Dt} (e:H a=some (.lst xs)) (hl:xs.length=ds.length) (h:∀(i:Nat) (x:V) (d:Dt),xs[i]?=some x->ds[i]?=some d->eU H x d):eU H (.ref a) (.lst ds)
 |tup {a:ac} {xs:List V} {ds:List Dt} (e:H a=some (.tup xs)) (hl:xs.length=ds.length) (h:∀(i:Nat) (x:V) (d:Dt),xs[i]?=some x->ds[i]?=some d->eU H x d):eU H (.ref a) (.tup ds)
mutual
def dN:Dt->Dt->Bool
 | .au,.au=>true
 | .bl a,.bl b=>a==b
 | .bl a,.int b=>(if a then 1 else 0)==b
 | .int a,.bl b=>a==(if b then 1 else 0)
 | .int a,.int b=>a==b
 | .str a,.str b=>a==b
 | .lst xs,.lst ys=>jR xs ys
 | .tup xs,.tup ys=>jR xs ys
 |_,_=>false
def jR:List Dt->List Dt->Bool
 | [],[]=>true
 |x::xs,y::ys=>dN x y && jR xs ys
 |_,_=>false
end
mutual
theorem jS:∀d:Dt,dN d d=true
 | .au=>by simp [dN]
 | .bl b=>by simp [dN]
 | .int i=>by simp [dN]
 | .str x=>by simp [dN]
 | .lst xs=>by simp only [dN];exact nF xs
 | .tup xs=>by simp only [dN];exact nF xs
theorem nF:∀ds:List Dt,jR ds ds=true
 | []=>by simp [jR]
 |d::ds=>by simp only [jR];rw [jS d,nF ds];rfl
end
theorem eE:∀(xs ys:List Dt),jR xs ys=((i0 (min xs.length ys.length)).all (fun j=>dN (xs.getD j .au) (ys.getD j .au)) && xs.length==ys.length)
 | [],[]=>by simp [jR]
 | [],_::_=>by simp [jR]
 |_::_,[]=>by simp [jR]
 |x::xs,y::ys=>by
          rw [jR,eE xs ys]
          have e:min (x::xs).length (y::ys).length=min xs.length ys.length+1 :=by simp [Nat.succ_min_succ]
          rw [e,List.range_succ_eq_map,Wh,List.all_map]
          have e2:((x::xs).length==(y::ys).length)=(xs.length==ys.length) :=by simp
          rw [e2,Bool.and_assoc]
          rfl
theorem eU.inj {H:Hp} {v:V} {d:Dt} (h:eU H v d):∀{d':Dt},eU H v d'->d=d':=by
 induction h with
 |au=>intro d' h';cases h';rfl
 |bl b=>intro d' h';cases h';rfl
 |int i=>intro d' h';cases h';rfl
 |str x=>intro d' h';cases h';rfl
 |lst e hl h ih=>
  intro d' h'
  cases h' with
  |lst e' Lb h'=>
   rw [e] at e';cases e'
   congr 1
   refine Wc fun i=>?_
   rename_i xs ds ds'
   by_cases hi:i<xs.length
   ·rw [ag (by omega),ag (by omega)]
    exact congrArg some (ih i _ _ (ag hi) (ag (by omega)) (h' i _ _ (ag hi) (ag (by omega))))
   ·rw [JJ (by omega),JJ (by omega)]
  |tup e' Lb h'=>rw [e] at e';cases e'
 |tup e hl h ih=>
  intro d' h'
  cases h' with
  |lst e' Lb h'=>rw [e] at e';cases e'
  |tup e' Lb h'=>
   rw [e] at e';cases e'
   congr 1
   refine Wc fun i=>?_
   rename_i xs ds ds'
   by_cases hi:i<xs.length
   ·rw [ag (by omega),ag (by omega)]
    exact congrArg some (ih i _ _ (ag hi) (ag (by omega)) (h' i _ _ (ag hi) (ag (by omega))))
   ·rw [JJ (by omega),JJ (by omega)]
mutual
def jT:Dt->Nat
 | .lst xs=>i6 xs+1
 | .tup xs=>i6 xs+1
 |_=>0
def i6:List Dt->Nat
 | []=>0
 |x::xs=>max (jT x) (i6 xs)
end
theorem jU:∀{ds:List Dt} {i:Nat} {d:Dt},ds[i]?=some d->jT d<=i6 ds
 | [],_,_,h=>by simp at h
 |x::xs,0,d,h=>by
          simp at h;subst h
          rw [i6];exact Nat.le_max_left _ _
 |x::xs,i+1,d,h=>by
          rw [i6]
          exact wv (jU (i:=i) (by simpa using h)) (Nat.le_max_right _ _)
section
variable {X:Cx} {pins:List (ac×i4)} {σ:St} {H:Hp} {s:ba}
theorem Inv.lists (I:Inv X pins σ H s) {a:ac} {xs:List V} (h:H a=some (.lst xs)):∃its:List al,Vals xs its/\s.heap.IsList a its.toArray :=by
 obtain ⟨its,rv,p,_⟩:=I.list (bF.of h)
 exact ⟨its,rv,p.isList⟩
theorem Inv.tups (I:Inv X pins σ H s) {a:ac} {xs:List V} (h:H a=some (.tup xs)):∃its:List al,Vals xs its/\s.heap.IsTuple a its.toArray :=by
 obtain ⟨its,rv,p,_⟩:=I.tuple (cI.of h)
 exact ⟨its,rv,p⟩
theorem rl (I:Inv X pins σ H s) {x y:V} {d:Dt} (hx:eU H x d):∀{e:Dt} {u v:al} {A:ma},eU H y e->RelV x u->RelV y v->A.units+jT d<cLine->i8 A s u v (dN d e) :=by
 have lists:=fun {a:ac} {xs:List V} (h:H a=some (.lst xs))=>I.lists h
 have tups:=fun {a:ac} {xs:List V} (h:H a=some (.tup xs))=>I.tups h
 induction hx generalizing y with
 |au=>
  intro e u v A hy rx ry hu
  have aU:A.units<cLine :=by omega
  cases rx
  cases hy with
  |au=>cases ry;exact WA _
  |bl b=>cases ry;exact i8.none_bool _
  |int i=>obtain ⟨t,rfl⟩:=ry;exact i8.none_int _ _
  |str z=>obtain ⟨t,rfl⟩:=ry;exact i8.none_str _ _
  |lst e2 _ _=>cases ry;obtain ⟨_,_,p⟩:=lists e2;exact i8.none_list p aU
  |tup e2 _ _=>cases ry;obtain ⟨_,_,p⟩:=tups e2;exact i8.none_tuple p aU
 |bl a=>
  intro e u v A hy rx ry hu
  have aU:A.units<cLine :=by omega
  cases rx
  cases hy with
  |au=>cases ry;exact i8.bool_none _
  |bl b=>cases ry;exact i8.bool_bool _ _
  |int i=>obtain ⟨t,rfl⟩:=ry;exact i8.bool_int _ _ _
  |str z=>obtain ⟨t,rfl⟩:=ry;exact i8.bool_str _ _ _
  |lst e2 _ _=>cases ry;obtain ⟨_,_,p⟩:=lists e2;exact i8.bool_list _ p aU
  |tup e2 _ _=>cases ry;obtain ⟨_,_,p⟩:=tups e2;exact i8.bool_tuple _ p aU
 |int a=>
  intro e u v A hy rx ry hu
  have aU:A.units<cLine :=by omega
  obtain ⟨ta,rfl⟩:=rx
  cases hy with
  |au=>cases ry;exact i8.int_none _ _
  |bl b=>cases ry;exact i8.int_bool _ _ _
  |int i=>obtain ⟨t,rfl⟩:=ry;exact i8.int_int _ _ _ _
  |str z=>obtain ⟨t,rfl⟩:=ry;exact WX _ _ _ _
  |lst e2 _ _=>cases ry;obtain ⟨_,_,p⟩:=lists e2;exact i8.int_list _ _ p aU
  |tup e2 _ _=>cases ry;obtain ⟨_,_,p⟩:=tups e2;exact i8.int_tuple _ _ p aU
 |str a=>
  intro e u v A hy rx ry hu
  have aU:A.units<cLine :=by omega
  obtain ⟨ta,rfl⟩:=rx
  cases hy with
  |au=>cases ry;exact i8.str_none _ _
  |bl b=>cases ry;exact i8.str_bool _ _ _
  |int i=>obtain ⟨t,rfl⟩:=ry;exact WY _ _ _ _
  |str z=>obtain ⟨t,rfl⟩:=ry;exact i8.str_str _ _ _ _
  |lst e2 _ _=>cases ry;obtain ⟨_,_,p⟩:=lists e2;exact i8.str_list _ _ p aU
  |tup e2 _ _=>cases ry;obtain ⟨_,_,p⟩:=tups e2;exact i8.str_tuple _ _ p aU
 |lst e1 kJ h1 ih=>
  rename_i a xs ds
  intro e u v A hy rx ry hu
  have aU:A.units<cLine :=by omega
  have B2:A.units+i6 ds+1<cLine :=by rw [jT] at hu;omega
  cases rx
  obtain ⟨its,rv,p⟩:=lists e1
  cases hy with
  |au=>cases ry;exact i8.list_none p aU
  |bl b=>cases ry;exact i8.list_bool _ p aU
  |int i=>obtain ⟨t,rfl⟩:=ry;exact i8.list_int _ _ p aU
  |str z=>obtain ⟨t,rfl⟩:=ry;exact i8.list_str _ _ p aU
  |lst e2 gb h2=>
   rename_i b ys es
   cases ry
   by_cases rn:a=b
   ·subst rn
    have:=(eU.lst e1 kJ h1).inj (eU.lst e2 gb h2)
    cases this
    rw [jS]
    exact WA _
   ·obtain ⟨cP,gX,p2⟩:=lists e2
    have l1:=rv.length
    have l2:=gX.length
    have at_:∀j (g1:j<its.toArray.size) (g2:j<cP.toArray.size),i8 A.in1 s its.toArray[j] cP.toArray[j] (dN (ds.getD j .au) (es.getD j .au)):=fun j g1 g2=>by
     have iO:j<xs.length :=by rw [l1];simpa using g1
     have iP:j<ys.length :=by rw [l2];simpa using g2
     have r1:=cq rv g1
     have r2:=cq gX g2
     rw [ci,ag iO] at r1
     rw [ci,ag iP] at r2
     have d1:ds[j]?=some ds[j]:=ag (by omega)
     have d2:es[j]?=some es[j]:=ag (by omega)
     rw [ci,ci,d1,d2]
     have:=jU d1
     exact ih j _ _ (ag iO) d1 (h2 j _ _ (ag iP) d2) r1 r2 (by show A.units+1+_<cLine;omega)
    refine i8.of_refs rn ?_
    rw [dN,eE]
    by_cases hsz:ds.length=es.length
    ·have q:=mo.lists p p2 (by simp only [db];omega) aU at_
     have z:(ds.length==es.length)=true :=by simpa using hsz
     rw [z,Bool.and_true,<- hsz,NE]
     rw [db,<- l1,kJ] at q
     exact q
    ·have z:(ds.length==es.length)=false :=by simpa using hsz
     rw [z,WU]
     exact mo.lists_lengths p p2 (by simp only [db];simpa [bne_iff_ne] using (show its.length≠cP.length by omega)) aU
  |tup e2 gb h2=>cases ry;obtain ⟨_,_,p2⟩:=tups e2;exact i8.list_tuple p p2 aU
 |tup e1 kJ h1 ih=>
  rename_i a xs ds
  intro e u v A hy rx ry hu
  have aU:A.units<cLine :=by omega
  have B2:A.units+i6 ds+1<cLine :=by rw [jT] at hu;omega
  cases rx
  obtain ⟨its,rv,p⟩:=tups e1
  cases hy with
  |au=>cases ry;exact i8.tuple_none p aU
  |bl b=>cases ry;exact i8.tuple_bool _ p aU
  |int i=>obtain ⟨t,rfl⟩:=ry;exact i8.tuple_int _ _ p aU
  |str z=>obtain ⟨t,rfl⟩:=ry;exact i8.tuple_str _ _ p aU
  |lst e2 gb h2=>cases ry;obtain ⟨_,_,p2⟩:=lists e2;exact i8.tuple_list p p2 aU
  |tup e2 gb h2=>
   rename_i b ys es
   cases ry
   by_cases rn:a=b
   ·subst rn
    have:=(eU.tup e1 kJ h1).inj (eU.tup e2 gb h2)
    cases this
    rw [jS]
    exact WA _
   ·obtain ⟨cP,gX,p2⟩:=tups e2
    have l1:=rv.length
    have l2:=gX.length
    have at_:∀j (g1:j<its.toArray.size) (g2:j<cP.toArray.size),i8 A.in1 s its.toArray[j] cP.toArray[j] (dN (ds.getD j .au) (es.getD j .au)):=fun j g1 g2=>by
     have iO:j<xs.length :=by rw [l1];simpa using g1
     have iP:j<ys.length :=by rw [l2];simpa using g2
     have r1:=cq rv g1
     have r2:=cq gX g2
     rw [ci,ag iO] at r1
     rw [ci,ag iP] at r2
     have d1:ds[j]?=some ds[j]:=ag (by omega)
     have d2:es[j]?=some es[j]:=ag (by omega)
     rw [ci,ci,d1,d2]
     have:=jU d1
     exact ih j _ _ (ag iO) d1 (h2 j _ _ (ag iP) d2) r1 r2 (by show A.units+1+_<cLine;omega)
    refine i8.of_refs rn ?_
    rw [dN,eE]
    have q:=mo.tuples p p2 aU at_
    rw [db,db,<- l1,<- l2,kJ,gb] at q
    exact q
end
section
variable {X:Cx} {pins:List (ac×i4)} {σ:St} {H:Hp} {s:ba}
theorem Lc (I:Inv X pins σ H s) {x y:V} {d e:Dt} {u v:al} {A:ma} (hx:eU H x d) (hy:eU H y e) (rx:RelV x u) (ry:RelV y v) (hu:A.units+jT d<cLine):mo A s u v (dN d e) :=by
 have aU:A.units<cLine :=by omega
 have lists:=fun {a:ac} {xs:List V} (h:H a=some (.lst xs))=>I.lists h
 have tups:=fun {a:ac} {xs:List V} (h:H a=some (.tup xs))=>I.tups h
 cases hx with
 |au=>
  cases rx
  cases hy with
  |au=>cases ry;exact mo.none_none
  |bl b=>cases ry;exact mo.none_bool _
  |int b=>obtain ⟨t,rfl⟩:=ry;exact mo.none_int _ _
  |str b=>obtain ⟨t,rfl⟩:=ry;exact mo.none_str _ _
  |lst e2 _ _=>cases ry;obtain ⟨_,_,p⟩:=lists e2;exact mo.none_list p aU
  |tup e2 _ _=>cases ry;obtain ⟨_,_,p⟩:=tups e2;exact mo.none_tuple p aU
 |bl a=>
  cases rx
  cases hy with
  |au=>cases ry;exact mo.bool_none _
  |bl b=>cases ry;exact mo.bool_bool _ _
  |int b=>obtain ⟨t,rfl⟩:=ry;exact mo.bool_int _ _ _
  |str b=>obtain ⟨t,rfl⟩:=ry;exact mo.bool_str _ _ _
  |lst e2 _ _=>cases ry;obtain ⟨_,_,p⟩:=lists e2;exact mo.bool_list _ p aU
  |tup e2 _ _=>cases ry;obtain ⟨_,_,p⟩:=tups e2;exact mo.bool_tuple _ p aU
 |int a=>
  obtain ⟨ta,rfl⟩:=rx
  cases hy with
  |au=>cases ry;exact mo.int_none _ _
  |bl b=>cases ry;exact mo.int_bool _ _ _
  |int b=>obtain ⟨t,rfl⟩:=ry;exact mo.int_int _ _ _ _
  |str b=>obtain ⟨t,rfl⟩:=ry;exact mo.int_str _ _ _ _
  |lst e2 _ _=>cases ry;obtain ⟨_,_,p⟩:=lists e2;exact mo.int_list _ _ p aU
  |tup e2 _ _=>cases ry;obtain ⟨_,_,p⟩:=tups e2;exact mo.int_tuple _ _ p aU
 |str a=>
  obtain ⟨ta,rfl⟩:=rx
  cases hy with
  |au=>cases ry;exact mo.str_none _ _
  |bl b=>cases ry;exact mo.str_bool _ _ _
  |int b=>obtain ⟨t,rfl⟩:=ry;exact mo.str_int _ _ _ _
  |str b=>obtain ⟨t,rfl⟩:=ry;exact mo.str_str _ _ _ _
  |lst e2 _ _=>cases ry;obtain ⟨_,_,p⟩:=lists e2;exact mo.str_list _ _ p aU
  |tup e2 _ _=>cases ry;obtain ⟨_,_,p⟩:=tups e2;exact mo.str_tuple _ _ p aU
 |lst e1 kJ h1=>
  rename_i a xs ds
  have B2:A.units+i6 ds+1<cLine :=by rw [jT] at hu;omega
  cases rx
  obtain ⟨its,rv,p⟩:=lists e1
  cases hy with
  |au=>cases ry;exact mo.list_none p aU
  |bl b=>cases ry;exact mo.list_bool _ p aU
  |int b=>obtain ⟨t,rfl⟩:=ry;exact mo.list_int _ _ p aU
  |str b=>obtain ⟨t,rfl⟩:=ry;exact mo.list_str _ _ p aU
  |lst e2 gb h2=>
   rename_i b ys es
   cases ry
   obtain ⟨cP,gX,p2⟩:=lists e2
   have l1:=rv.length
   have l2:=gX.length
   have at_:∀j (g1:j<its.toArray.size) (g2:j<cP.toArray.size),i8 A.in1 s its.toArray[j] cP.toArray[j] (dN (ds.getD j .au) (es.getD j .au)):=fun j g1 g2=>by
    have iO:j<xs.length :=by rw [l1];simpa using g1
    have iP:j<ys.length :=by rw [l2];simpa using g2
    have r1:=cq rv g1
    have r2:=cq gX g2
    rw [ci,ag iO] at r1
    rw [ci,ag iP] at r2
    have d1:ds[j]?=some ds[j]:=ag (by omega)
    have d2:es[j]?=some es[j]:=ag (by omega)
    rw [ci,ci,d1,d2]
    have:=jU d1
    exact rl I (h1 j _ _ (ag iO) d1) (h2 j _ _ (ag iP) d2) r1 r2 (by show A.units+1+_<cLine;omega)
   rw [dN,eE]
   by_cases hsz:ds.length=es.length
   ·have q:=mo.lists p p2 (by simp only [db];omega) aU at_
    have z:(ds.length==es.length)=true :=by simpa using hsz
    rw [z,Bool.and_true,<- hsz,NE]
    rw [db,<- l1,kJ] at q
    exact q
   ·have z:(ds.length==es.length)=false :=by simpa using hsz
    rw [z,WU]
    exact mo.lists_lengths p p2 (by simp only [db];simpa [bne_iff_ne] using (show its.length≠cP.length by omega)) aU
  |tup e2 gb h2=>cases ry;obtain ⟨_,_,p2⟩:=tups e2;exact mo.list_tuple p p2 aU
 |tup e1 kJ h1=>
  rename_i a xs ds
  have B2:A.units+i6 ds+1<cLine :=by rw [jT] at hu;omega
  cases rx
  obtain ⟨its,rv,p⟩:=tups e1
  cases hy with
  |au=>cases ry;exact mo.tuple_none p aU
  |bl b=>cases ry;exact mo.tuple_bool _ p aU
  |int b=>obtain ⟨t,rfl⟩:=ry;exact mo.tuple_int _ _ p aU
  |str b=>obtain ⟨t,rfl⟩:=ry;exact mo.tuple_str _ _ p aU
  |lst e2 gb h2=>cases ry;obtain ⟨_,_,p2⟩:=lists e2;exact mo.tuple_list p p2 aU
  |tup e2 gb h2=>
   rename_i b ys es
   cases ry
   obtain ⟨cP,gX,p2⟩:=tups e2
   have l1:=rv.length
   have l2:=gX.length
   have at_:∀j (g1:j<its.toArray.size) (g2:j<cP.toArray.size),i8 A.in1 s its.toArray[j] cP.toArray[j] (dN (ds.getD j .au) (es.getD j .au)):=fun j g1 g2=>by
    have iO:j<xs.length :=by rw [l1];simpa using g1
    have iP:j<ys.length :=by rw [l2];simpa using g2
    have r1:=cq rv g1
    have r2:=cq gX g2
    rw [ci,ag iO] at r1
    rw [ci,ag iP] at r2
    have d1:ds[j]?=some ds[j]:=ag (by omega)
    have d2:es[j]?=some es[j]:=ag (by omega)
    rw [ci,ci,d1,d2]
    have:=jU d1
    exact rl I (h1 j _ _ (ag iO) d1) (h2 j _ _ (ag iP) d2) r1 r2 (by show A.units+1+_<cLine;omega)
   rw [dN,eE]
   have q:=mo.tuples p p2 aU at_
   rw [db,db,<- l1,<- l2,kJ,gb] at q
   exact q
theorem Ld (I:Inv X pins σ H s) {x y:V} {d e:Dt} {u v:al} {A:ma} (hx:eU H x d) (hy:eU H y e) (rx:RelV x u) (ry:RelV y v) (hu:A.units+jT d<cLine):l4 A s u v (!(dN d e)) :=by
 have aU:A.units<cLine :=by omega
 have lists:=fun {a:ac} {xs:List V} (h:H a=some (.lst xs))=>I.lists h
 have tups:=fun {a:ac} {xs:List V} (h:H a=some (.tup xs))=>I.tups h
 cases hx with
 |au=>
  cases rx
  cases hy with
  |au=>cases ry;exact l4.none_none
  |bl b=>cases ry;exact l4.none_bool _
  |int b=>obtain ⟨t,rfl⟩:=ry;exact l4.none_int _ _
  |str b=>obtain ⟨t,rfl⟩:=ry;exact l4.none_str _ _
  |lst e2 _ _=>cases ry;obtain ⟨_,_,p⟩:=lists e2;exact l4.none_list p aU
  |tup e2 _ _=>cases ry;obtain ⟨_,_,p⟩:=tups e2;exact l4.none_tuple p aU
 |bl a=>
  cases rx
  cases hy with
  |au=>cases ry;exact l4.bool_none _
  |bl b=>cases ry;exact l4.bool_bool _ _
  |int b=>obtain ⟨t,rfl⟩:=ry;exact l4.bool_int _ _ _
  |str b=>obtain ⟨t,rfl⟩:=ry;exact l4.bool_str _ _ _
  |lst e2 _ _=>cases ry;obtain ⟨_,_,p⟩:=lists e2;exact l4.bool_list _ p aU
  |tup e2 _ _=>cases ry;obtain ⟨_,_,p⟩:=tups e2;exact l4.bool_tuple _ p aU
 |int a=>
  obtain ⟨ta,rfl⟩:=rx
  cases hy with
  |au=>cases ry;exact l4.int_none _ _
  |bl b=>cases ry;exact l4.int_bool _ _ _
  |int b=>obtain ⟨t,rfl⟩:=ry;exact l4.int_int _ _ _ _
  |str b=>obtain ⟨t,rfl⟩:=ry;exact l4.int_str _ _ _ _
  |lst e2 _ _=>cases ry;obtain ⟨_,_,p⟩:=lists e2;exact l4.int_list _ _ p aU
  |tup e2 _ _=>cases ry;obtain ⟨_,_,p⟩:=tups e2;exact l4.int_tuple _ _ p aU
 |str a=>
  obtain ⟨ta,rfl⟩:=rx
  cases hy with
  |au=>cases ry;exact l4.str_none _ _
  |bl b=>cases ry;exact l4.str_bool _ _ _
  |int b=>obtain ⟨t,rfl⟩:=ry;exact l4.str_int _ _ _ _
  |str b=>obtain ⟨t,rfl⟩:=ry;exact l4.str_str _ _ _ _
  |lst e2 _ _=>cases ry;obtain ⟨_,_,p⟩:=lists e2;exact l4.str_list _ _ p aU
  |tup e2 _ _=>cases ry;obtain ⟨_,_,p⟩:=tups e2;exact l4.str_tuple _ _ p aU
 |lst e1 kJ h1=>
  rename_i a xs ds
  have B2:A.units+i6 ds+1<cLine :=by rw [jT] at hu;omega
  cases rx
  obtain ⟨its,rv,p⟩:=lists e1
  cases hy with
  |au=>cases ry;exact l4.list_none p aU
  |bl b=>cases ry;exact l4.list_bool _ p aU
  |int b=>obtain ⟨t,rfl⟩:=ry;exact l4.list_int _ _ p aU
  |str b=>obtain ⟨t,rfl⟩:=ry;exact l4.list_str _ _ p aU
  |lst e2 gb h2=>
   rename_i b ys es
   cases ry
   obtain ⟨cP,gX,p2⟩:=lists e2
   have l1:=rv.length
   have l2:=gX.length
   have at_:∀j (g1:j<its.toArray.size) (g2:j<cP.toArray.size),i8 A.in1 s its.toArray[j] cP.toArray[j] (dN (ds.getD j .au) (es.getD j .au)):=fun j g1 g2=>by
    have iO:j<xs.length :=by rw [l1];simpa using g1
    have iP:j<ys.length :=by rw [l2];simpa using g2
    have r1:=cq rv g1
    have r2:=cq gX g2
    rw [ci,ag iO] at r1
    rw [ci,ag iP] at r2
    have d1:ds[j]?=some ds[j]:=ag (by omega)
    have d2:es[j]?=some es[j]:=ag (by omega)
    rw [ci,ci,d1,d2]
    have:=jU d1
    exact rl I (h1 j _ _ (ag iO) d1) (h2 j _ _ (ag iP) d2) r1 r2 (by show A.units+1+_<cLine;omega)
   rw [dN,eE]
   by_cases hsz:ds.length=es.length
   ·have q:=l4.lists p p2 (by simp only [db];omega) aU at_
    have z:(ds.length==es.length)=true :=by simpa using hsz
    rw [z,Bool.and_true,<- hsz,NE]
    rw [db,<- l1,kJ] at q
    exact q
   ·have z:(ds.length==es.length)=false :=by simpa using hsz
    rw [z,WU]
    exact l4.lists_lengths p p2 (by simp only [db];simpa [bne_iff_ne] using (show its.length≠cP.length by omega)) aU
  |tup e2 gb h2=>cases ry;obtain ⟨_,_,p2⟩:=tups e2;exact l4.list_tuple p p2 aU
 |tup e1 kJ h1=>
  rename_i a xs ds
  have B2:A.units+i6 ds+1<cLine :=by rw [jT] at hu;omega
  cases rx
  obtain ⟨its,rv,p⟩:=tups e1
  cases hy with
  |au=>cases ry;exact l4.tuple_none p aU
  |bl b=>cases ry;exact l4.tuple_bool _ p aU
  |int b=>obtain ⟨t,rfl⟩:=ry;exact l4.tuple_int _ _ p aU
  |str b=>obtain ⟨t,rfl⟩:=ry;exact l4.tuple_str _ _ p aU
  |lst e2 gb h2=>cases ry;obtain ⟨_,_,p2⟩:=lists e2;exact l4.tuple_list p p2 aU
  |tup e2 gb h2=>
   rename_i b ys es
   cases ry
   obtain ⟨cP,gX,p2⟩:=tups e2
   have l1:=rv.length
   have l2:=gX.length
   have at_:∀j (g1:j<its.toArray.size) (g2:j<cP.toArray.size),i8 A.in1 s its.toArray[j] cP.toArray[j] (dN (ds.getD j .au) (es.getD j .au)):=fun j g1 g2=>by
    have iO:j<xs.length :=by rw [l1];simpa using g1
    have iP:j<ys.length :=by rw [l2];simpa using g2
    have r1:=cq rv g1
    have r2:=cq gX g2
    rw [ci,ag iO] at r1
    rw [ci,ag iP] at r2
    have d1:ds[j]?=some ds[j]:=ag (by omega)
    have d2:es[j]?=some es[j]:=ag (by omega)
    rw [ci,ci,d1,d2]
    have:=jU d1
    exact rl I (h1 j _ _ (ag iO) d1) (h2 j _ _ (ag iP) d2) r1 r2 (by show A.units+1+_<cLine;omega)
   rw [dN,eE]
   have q:=l4.tuples p p2 aU at_
   rw [db,db,<- l1,<- l2,kJ,gb] at q
   exact q
end
section
variable {X:Cx}
def EA (neg:Bool):R2:=fun x y H Q=>∃d e,eU H x d/\eU H y e/\jT d<=60/\Q (.bl (if neg then !dN d e else dN d e)) H
theorem Le (hu:X.A.units+64<cLine):OpR X (compareOp .Eq) (EA false) :=by
 intro pins s σ H x y v u Q I rx ry h
 obtain ⟨d,e,hx,hy,hd,q⟩:=h
 exact Lc I hx hy rx ry (by omega) X.prog X.w X.xe _ ⟨.bl _,H,I,rfl,q⟩
theorem Lf (hu:X.A.units+64<cLine):OpR X (compareOp .NotEq) (EA true) :=by
 intro pins s σ H x y v u Q I rx ry h
 obtain ⟨d,e,hx,hy,hd,q⟩:=h
 exact Ld I hx hy rx ry (by omega) X.prog X.w X.xe _ ⟨.bl _,H,I,rfl,q⟩
end
theorem Lg:bootBuiltins "set" = some (.type "set") :=by decide +kernel
theorem t5:bootBuiltins "sorted" = some (.builtin "sorted") :=by decide +kernel
section
variable {X:Cx}
def B3 (K:bi) (H:Hp) (p:ac) (ns:List Int):Prop:=bF K H p (ns.map V.int)\/cI K H p (ns.map V.int)
def vR (P:ff) (w:ii) (K:bi):List V->Hp->VK->Prop:=fun xs H Q=>∃p ns,xs=[.ref p]/\B3 K H p ns/\ns.length+1<scanBound/\∀l,H l=none->Q (.ref l) (upd H l (pL P w l (c7 ns)))
theorem vT {ns:List Int} {us:List al} (r:Vals (ns.map V.int) us):∀(i:Nat) (v:al),us.toArray[i]?=some v->∃m t,ns[i]?=some m/\v=.int m t:=fun i v h=>by
 have hl:=r.length
 have h':us[i]?=some v :=by simpa using h
 have hi:i<us.length:=(br.mp h').1
 have dA:i<ns.length :=by rw [c8] at hl;omega
 obtain ⟨u,e,q⟩:=r.get (i:=i) (x:=V.int ns[i]) (by rw [ce,ag dA];rfl)
 rw [h'] at e;cases e
 obtain ⟨t,rfl⟩:=q
 exact ⟨_,t,ag dA,rfl⟩
theorem B4 (hc:X.calm=true):cL X (.type "set") (vR X.prog X.w X.K) :=by
 intro pins s σ H xs us Q I r h
 obtain ⟨p,ns,rfl,hq,hb,q⟩:=h
 obtain ⟨u,rfl,rx⟩:=vals1 r
 cases rx
 have fin:∀(h':ge) (tk:Nat),cy X.prog X.w h' s.heap.objs.size (c7 ns)->(∀b o,s.heap.get? b=some o->h'.get? b=some o)->EP X pins σ Q (.ref s.heap.objs.size) {s with heap:=h',toks:=tk}:=fun h' tk hM hk=>
  ⟨.ref s.heap.objs.size,_,I.laid (t':=tk) hk (cr _) (HN hM),rfl,q _ (I.hok.fresh (cr _))⟩
 have hh:=I.ok.hd hc
 rcases hq with hq|hq
 ·obtain ⟨its,rv,pl,hz⟩:=I.list hq
  have hl:its.toArray.size=ns.length :=by rw [db,<- rv.length,c8]
  obtain ⟨o,ho,da,n,hd⟩:=pl.isList
  refine nA (T := "list") (vs:=ns) (itob:={cls:=.type "list_iterator",data:=.fields #[.ref p,.int 0 0]}) (Pv:=fun i v=>its.toArray[i]?=some v) (St:=fun I i h=>h.IsListIter I p i/\h.IsList p its.toArray) hh ⟨o,ho⟩ (fun s1 k=>⟨o,k o ho,da⟩) F.sub_list_set F.sub_list_frozenset (by decide)
   (fun A' s1 Q' E' k vU=>Xc ⟨o,k o ho,da,n,hd⟩ vU) (fun A' I' hA dE=>hl▸Walks.list hA I' p dE its.toArray) (fun h1 k=>⟨⟨_,f8 _ rfl,rfl,rfl⟩,⟨o,cb _ (k o ho),da,n,hd⟩⟩) (vT rv) hb fin
 ·obtain ⟨its,rv,pl,hz⟩:=I.tuple hq
  have hl:its.toArray.size=ns.length :=by rw [db,<- rv.length,c8]
  obtain ⟨o,ho,da,n,hd⟩:=pl
  refine nA (T := "tuple") (vs:=ns) (itob:={cls:=.type "tuple_iterator",data:=.fields #[.ref p,.int 0 0]}) (Pv:=fun i v=>its.toArray[i]?=some v) (St:=fun I i h=>h.IsTupleIter I p i/\h.IsTuple p its.toArray) hh ⟨o,ho⟩ (fun s1 k=>⟨o,k o ho,da⟩) sub_tuple_set sA (by decide)
   (fun A' s1 Q' E' k vU=>VX ⟨o,k o ho,da,n,hd⟩ vU) (fun A' I' hA dE=>hl▸Walks.tuple hA I' p dE its.toArray) (fun h1 k=>⟨⟨_,f8 _ rfl,rfl,rfl⟩,⟨o,cb _ (k o ho),da,n,hd⟩⟩) (vT rv) hb fin
def yM (P:ff) (w:ii) (K:bi):List V->Hp->VK->Prop:=fun xs H Q=>∃p ns,xs=[.ref p]/\(H p=some (pL P w p ns)\/B3 K H p ns)/\ns.length<64/\∀l,H l=none->Q (.ref l) (upd H l (.lst ((sortI ns).map V.int)))
theorem vV (hc:X.calm=true):cL X (.builtin "sorted") (yM X.prog X.w X.K) :=by
 intro pins s σ H xs us Q I r h
 obtain ⟨p,ns,rfl,hq,K9,q⟩:=h
 obtain ⟨u,rfl,rx⟩:=vals1 r
 cases rx
 have hh:=I.ok.hd hc
 refine z7 (ns:=ns) (fun QL Lh=>?_) K9 (fun h1 h' d' tk us e hI k1 k2 he=>?_)
 ·rcases hq with hq|hq|hq
  ·exact xU (by simp [hh]) (HP I hq) (by have:sizeLine=16777216:=UV;omega) Lh
  ·obtain ⟨its,rv,pl,hz⟩:=I.list hq
   have hl:=rv.length
   obtain ⟨o,ho,da,n,hd⟩:=pl.isList
   exact pj ho da hd (.inl rfl) (fun h' k=>Lh its ns h' s.drawn s.toks (rh rv) (.refl _) k) (by omega)
  ·obtain ⟨its,rv,pl,hz⟩:=I.tuple hq
   have hl:=rv.length
   obtain ⟨o,ho,da,n,hd⟩:=pl
   exact pj ho da hd (.inr rfl) (fun h' k=>Lh its ns h' s.drawn s.toks (rh rv) (.refl _) k) (by omega)
 ·have I1:Inv X pins σ H {s with heap:=h1,drawn:=d'}:=(I.kept (t':=s.toks) k1).k6 ⟨rfl,rfl,I.bare.self⟩
  have hsz:sizeLine=16777216:=UV
  have ob:ObjOk X.prog X.w (upd H h1.objs.size (.lst ((sortI ns).map V.int))) h' h1.objs.size (.lst ((sortI ns).map V.int)):=⟨by rw [c8,(sortI_perm ns).length_eq];omega,us,e,nE hI,he⟩
  exact ⟨.ref h1.objs.size,_,I1.laid (t':=tk) k2 (cr _) ob,rfl,q _ (I1.hok.fresh (cr _))⟩
end
section
variable {X:Cx}
theorem z9 {K:bi} (h:X.K=K) (hc:X.calm=true):cL X (.type "set") (vR X.prog X.w K):=h▸B4 hc
end
theorem B5:bootBuiltins "all" = some (.builtin "all"):=PyProof.Rows.boot_all
section
variable {X:Cx}
def Gk (K:bi):List V->Hp->VK->Prop:=fun xs H Q=>∃(p:ac) (bs:List Bool),xs=[.ref p]/\bF K H p (bs.map V.bl)/\Q (.bl (bs.all id)) H
theorem B6 (hc:X.calm=true):cL X (.builtin "all") (Gk X.K) :=by
 intro pins s σ H xs us Q I r h
 obtain ⟨p,bs,rfl,hq,q⟩:=h
 obtain ⟨u,rfl,rx⟩:=vals1 r
 cases rx
 have hh:=I.ok.hd hc
 obtain ⟨its,rv,pl,hz⟩:=I.list hq
 have hl:its.toArray.size=bs.length :=by rw [db,<- rv.length,c8]
 have vM:s.heap.IsList p its.toArray:=pl.isList
 have bj:p<s.heap.objs.size:=let ⟨o,ho,_⟩:=vM;hX ho
 have at_:∀(i:Nat) (v:al),its.toArray[i]?=some v->v=.bool (bs.getD i false):=fun i v hv=>by
  have h':its[i]?=some v :=by simpa using hv
  have hi:i<its.length:=(br.mp h').1
  have dA:i<bs.length :=by rw [db] at hl;omega
  obtain ⟨u,e,q2⟩:=rv.get (i:=i) (x:=V.bl bs[i]) (by rw [ce,ag dA];rfl)
  rw [h'] at e;cases e
  rw [ci,ag dA]
  exact q2
 refine call_function_tree F.kind_all F.plain_all F.entry_all (F.args_all1 _) ?_
 unfold u7.«all»
 refine ap (m:=oneArg "all" _) (bv ?_)
 refine ap (Xc vM ?_)
 have W:=Walks.list (prog:=X.prog) (w:=X.w) (A:=X.A.in1) (by simp [hh]) s.heap.objs.size p (jp bj) its.toArray
 refine bv ⟨EQ Wm _,codeAny_all_loop W (fun i=>bs.getD i false) ?_ its.toArray.size 0 _ rfl (sw _) ⟨⟨_,f8 _ rfl,rfl,rfl⟩,vM.push _⟩ fun h' tk hk=>?_⟩
 ·intro i v s' Q' E' hv vU
  have:=at_ i v hv
  subst this
  exact zw vU
 ·have e:((i0 its.toArray.size).drop 0).all (fun i=>bs.getD i false)=bs.all id :=by
   rw [List.drop_zero,hl]
   refine PM.mpr ?_
   rw [u4,u4]
   constructor
   ·intro hx b hb
    obtain ⟨i,hi⟩:=List.getElem?_of_mem hb
    have ig:=(br.mp hi).1
    have:=hx i (by rw [ES];exact ig)
    rw [ci,hi] at this
    exact this
   ·intro hx i hi
    rw [ES] at hi
    rw [ci,ag hi]
    exact hx _ (rb hi)
  have I2:Inv X pins σ H {s with heap:=h',toks:=tk}:=I.kept fun b o eb=>hk b o (by simp only [lp];exact jp (hX eb)) (cb _ eb)
  refine ⟨.bl (bs.all id),H,I2,?_,q⟩
  show Wv _=Wv _
  rw [e]
theorem Aa {K:bi} (h:X.K=K) (hc:X.calm=true):cL X (.builtin "all") (Gk K):=h▸B6 hc
end
theorem ObjOk.there {P:ff} {w:ii} {H:Hp} {h:ge} {a:ac} {o:HO} (x:ObjOk P w H h a o):∃u,h.get? a=some u :=by
 cases o with
 |lst xs=>obtain ⟨_,_,_,_,e⟩:=x;exact ⟨_,e⟩
 |tup xs=>obtain ⟨_,_,_,ob,e,_⟩:=x;exact ⟨_,e⟩
 |dK ao=>obtain ⟨_,_,_,_,o,_,_,e,_⟩:=x;exact ⟨_,e⟩
 |dT ao=>obtain ⟨_,_,_,_,o,_,_,e,_⟩:=x;exact ⟨_,e⟩
 |set S n=>obtain ⟨o,_,_,_,e,_⟩:=x;exact ⟨_,e⟩
 |ins C dx fs=>obtain ⟨_,_,_,e,_⟩:=x;exact ⟨_,e⟩
 |own y=>obtain ⟨_,e⟩:=x;exact ⟨_,e⟩
 |xd fs=>obtain ⟨_,⟨_,_,_,e,_⟩,_⟩:=x;exact ⟨_,e⟩
 |FY lo hi=>obtain ⟨_,_,_,e⟩:=x;exact ⟨_,e⟩
 |bL ob u=>obtain ⟨e,_⟩:=x;exact ⟨_,e⟩
 |cO ps=>exact ⟨_,x⟩
 |lam ps=>exact ⟨_,x⟩
 |met f y=>exact ⟨_,x⟩
 |ext φ=>obtain ⟨_,⟨_,e⟩,_⟩:=x;exact ⟨_,e⟩
def fi (P:ff) (w:ii):gK:=fun outer H s E e s'=>∃(a C t:ac) (B:ge) (H':Hp),e=.ref a/\s'.os=s.os/\Gn s.gens.size s'.gens/\ge.FlyingW B outer a (.ref C) (.ref t) s'.heap /\
 (∀b o,s.heap.get? b=some o->b ∉ dQ outer->∃o',B.get? b=some o')/\(∀b u,H' b=some u->∃o',B.get? b=some o')/\Un (dQ outer) [] H H' s.heap s'.heap/\cH P w H' s'.heap/\E (.ref C) none H'
section
variable {X:Cx} {pins:List (ac×i4)} {σ:St} {H H1:Hp} {s s1:ba} {B h':ge}
theorem Inv.nG (I:Inv X pins σ H s) {b:ac} (h1:b≠X.env.locals) (h2:b ∉ X.fs):b ∉ dQ X.stack:=fun z=>by
 rcases kw.mp (I.fZ b z) with q|q
 ·exact h1 q
 ·exact h2 q
theorem Inv.mh (I:Inv X pins σ H s) {b:ac} {o:i4} (e:X.s₀.heap.get? b=some o):b≠X.env.locals:=fun z=>by
 have l:=hX e
 have:=I.ok.above
 rw [<- z] at this
 exact absurd l (XO.mpr this)
theorem Inv.Gm (I1:Inv X pins σ H1 s1) (I:Inv X pins σ H s) (c1:∀b o,s1.heap.get? b=some o->b ∉ dQ X.stack->∃o',B.get? b=some o') (c2:∀b u,H b=some u->∃o',B.get? b=some o')
  (k:B.StaysIn s.heap) (k':B.StaysIn h') (up:s.heap.UpToSlots h'):Inv X pins σ H {s with heap:=h'}:=by
 have same:∀b o',(∃o2,B.get? b=some o2)->s.heap.get? b=some o'->h'.get? b=some o':=fun b o' ⟨o2,e⟩ q=>by
  have z:=k b o2 e
  rw [q] at z
  cases z
  exact k' b _ e
 refine ⟨I.ok,I.os,I.bare,⟨fun b o q n hb hx=>?_,fun b o q n hb hx=>?_,I.base.free,fun b o q hx=>?_,I.base.tups,I.base.frzs,I.base.tbls⟩,?_,fun x c e=>?_,I.free,I.freeC,fun p hp=>?_,fun a o e=>?_,I.len⟩
 ·exact same b o (c1 b o (I1.base.keep b o q n hb hx) (I.nG (I.mh q) hb)) (I.base.keep b o q n hb hx)
 ·obtain ⟨sl,e⟩:=I.base.slot b o q n hb hx
  obtain ⟨_,o2,e2,nf⟩:=I.funs.mem hb
  rw [e] at e2
  cases e2
  obtain ⟨Tn,e4⟩:=up b {o with slots:=sl} e nf
  exact ⟨Tn,e4⟩
 ·obtain ⟨o',e⟩:=I.base.there b o q hx
  by_cases hb:b∈X.fs
  ·obtain ⟨_,o2,e2,nf⟩:=I.funs.mem hb
   obtain ⟨sl,e3⟩:=up b _ e2 nf
   exact ⟨_,e3⟩
  ·obtain ⟨o1,q1⟩:=I1.base.there b o q hx
   exact ⟨o',same b o' (c1 b o1 q1 (I.nG (I.mh q) hb)) e⟩
 ·obtain ⟨m,hn,hl⟩:=I.loc
  refine ⟨m,up.ns hn,fun i x v a b c=>?_⟩
  obtain ⟨u,r,l⟩:=hl i x v a b c
  refine ⟨u,r,?_⟩
  rcases l with l|⟨kd,c,ec,o,ho,hd⟩
  ·exact .inl l
  ·obtain ⟨sl,e⟩:=up c o ho fun vs z=>by rw [hd] at z;cases z
   exact .inr ⟨kd,c,ec,_,e,hd⟩
 ·obtain ⟨v,o,ho,hd⟩:=I.cell x c e
  obtain ⟨sl,e⟩:=up c o ho fun vs z=>by rw [hd] at z;cases z
  exact ⟨v,_,e,hd⟩
 ·obtain ⟨p1,p2,p3,p4,p5⟩:=I.pin p hp
  exact ⟨same p.1 p.2 (c1 p.1 p.2 (I1.pin p hp).1 (I.nG p3 p4)) p1,p2,p3,p4,p5⟩
 ·refine (I.hok a o e).bU (fun b u hb q=>?_) (fun _ q=>q) fun _ _ q=>q
  rcases hb with z|z
  ·exact same b u (c2 b o (by rw [z];exact e)) q
  ·exact same b u (c2 b _ z) q
end
section
variable {P:ff} {w:ii} {K:bi} {mg:bn->Option al} {base:ge} {N:List bn} {qual:bn} {scope:u8} {f:ac} {cd:al} {A:ma} {outer:List IR} {s0:ba} {H0:Hp} {E:XK}
theorem uX:Passes (fi P w) (fW (fi P w) P w K mg base N qual scope f cd A outer s0 H0 E) E :=by
 intro pins σ H s e s' I h
 obtain ⟨a,C,t,B,H',rfl,os,gn,fl,c1,c2,un,hok,q⟩:=h
 have I':=I.qp (ch:=[]) os un hok gn (fun b z=>absurd z (by simp))
 refine wpAny_leaves_onW (cls:=.ref C) (a0:=.ref t) I.ok.frames rfl fl fun h' Gp up=>?_
 have I2:=I.Gm I' c1 c2 fl.1 Gp.1 up
 refine ⟨a,C,t,B,H',rfl,I2.os,I2.bare,Gp,fun b o e n=>?_,c2,I2.base,I2.hok,q⟩
 obtain ⟨o1,e1⟩:=I.base.there b o e (fun z=>absurd (show b∈([]:List ac) from z) (by simp))
 exact c1 b o1 e1 (I.nG (I.mh e) n)
def Raises (X:Cx) (E:XK):Prop:=∀(pins:List (ac×i4)) (σ:St) (H:Hp) (s:ba) (C:ac) (h':ge) (a:ac) (vs:List al),Inv X pins σ H s->ge.MadeExcOf s.heap h' a (.ref C) vs->E (.ref C) none H->X.xe (.ref a) {s with heap:=h'}
theorem B7:Raises (fW (fi P w) P w K mg base N qual scope f cd A outer s0 H0 E) E :=by
 intro pins σ H s C h' a vs I hx q
 have c1:∀b o,s.heap.get? b=some o->b ∉ dQ (fW (fi P w) P w K mg base N qual scope f cd A outer s0 H0 E).stack->∃o',(AE s.heap (dQ (fW (fi P w) P w K mg base N qual scope f cd A outer s0 H0 E).stack)).get? b=some o':=
  fun b o e n=>⟨o,VN _ e n⟩
 have c2:∀b u,H b=some u->∃o',(AE s.heap (dQ (fW (fi P w) P w K mg base N qual scope f cd A outer s0 H0 E).stack)).get? b=some o':=fun b u hu=>by
  obtain ⟨o,e⟩:=(I.hok b u hu).there
  exact c1 b o e fun z=>by rw [I.lj b z] at hu;cases hu
 have st:(AE s.heap (dQ (fW (fi P w) P w K mg base N qual scope f cd A outer s0 H0 E).stack)).StaysIn s.heap:=fun b o e=>WZ _ e
 refine wpAny_leaves_madeW (cls:=.ref C) I.ok.frames rfl st (PySem.W.funFrames_hide I.stack fun env he b hb=>W1.mpr ⟨env,he,hb⟩) hx fun Vy t fl _ _ up=>?_
 have I2:=I.Gm I c1 c2 st fl.1 ((ge.UpToSlots.of_keeps hx.keeps).trans up)
 refine ⟨a,C,t,_,H,rfl,I2.os,I2.bare,fl,fun b o e n=>?_,c2,I2.base,I2.hok,q⟩
 obtain ⟨o1,e1⟩:=I.base.there b o e (fun z=>absurd (show b∈([]:List ac) from z) (by simp))
 exact c1 b o1 e1 (I.nG (I.mh e) n)
end
theorem HQ {K:bi} {h:ge} {C:ac} {t6:List al} {newId:String} (X:K.In h) (q:W8 K C t6 newId=true) :
  ∃bm Nn nm qn bs hd sn sub ab col dd k0 k1 k2 k3 k5 mN,h.get? C=some (excClassObj nm qn C Nn bs bm hd sn sub ab col dd k0 k1 k2 k3 k5 newId)/\h.Ns Nn mN/\mN "__init__" = none/\OwnTail h t6 bm :=by
 unfold W8 at q
 split at q
 case h_2=>cases q
 case h_1 dd cd sl ho=>
  split at q
  case h_2=>cases q
  case h_1 C' bm k0 k1 k2 k3 n k5 hm hs=>
   rw [B0,B0,B0,B0,B0] at q
   obtain ⟨⟨⟨⟨⟨q1,q2⟩,q3⟩,q4⟩,q5⟩,q6⟩:=q
   have e1:C'=C:=beq_iff_eq.mp q1
   have e2:n=newId:=beq_iff_eq.mp q2
   have e3:cd.hasDel=false :=by simpa using q3
   subst e1 e2
   obtain ⟨nm,bs,mro,ns,qn,hd,sn,sub,ab,col,del⟩:=cd
   dsimp only at hm e3 q5 q6
   subst hm e3
   have es:sl=#[k0,k1,k2,k3,some (.builtin n),k5] :=by
    cases sl with
    |mk l=>exact congrArg Array.mk hs
   subst es
   exact ⟨bm,ns,nm,qn,bs,hd,sn,sub,ab,col,dd,k0,k1,k2,k3,k5,_,X _ _ ho,ge.Ns.of_isNs (PySem.W.isNs_of_in X q5),PySem.W.nsMap_none_of_in X q5 (beq_iff_eq.mp q6),PySem.W.tail_of_in X q4⟩
section
variable {X:Cx} {x:bn} {C:ac} {k9:dL} {rest:List dL} {t:TA} {t6:List al} {B newId vW:String} {E:XK} {np bG pos:wn}
def Li (C:ac) (E:XK) (t:TA):TS:=fun _ σ H=>t σ H fun vs H1=>vs.length<=sizeLine/\E (.ref C) none H1
theorem EB (O:W8 X.K C t6 newId=true) (FB:ExcBaseFacts B newId vW t6) (hc:X.calm=true) (hR:Raises X E) (hg:Gl X x) (hm:X.mg x=some (.ref C)) (ha:PA X (k9::rest) t)
  (dS:(x==("__debug__" : bn))=false :=by decide) (he:starEach (k9::rest) X.env=(false,eval k9 X.env)::starEach rest X.env :=by rfl) (c9:(backTo bG (starEach rest X.env)).any (·.1)=false :=by rfl) :
  PS X (.Raise (some (.Call (.Name x np) (k9::rest) [] bG)) none pos) (Li C E t) :=by
 refine ⟨fun pins s σ H D I h=>?_⟩
 obtain ⟨bm,Nn,nm,qn,bs,hd,sn,sub,ab,col,dd,k0,k1,k2,k3,k5,mN,hC,hN,To,T⟩:=HQ I.ok.mod.kin O
 have hp:(backTo bG (starEach (k9::rest) X.env)).any (·.1)=false :=by
  rw [he]
  exact c9
 have yN:=ha bG pins s σ H _ I h
 rw [he] at yN
 refine wpAny_Raise_call_subT (C:=C) (nm:=nm) (q:=qn) (N:=Nn) (bs:=bs) (bm:=bm) (hdct:=hd) (sn:=sn) (sub:=sub) (ab:=ab) (col:=col) (dd:=dd) (k0:=k0) (k1:=k1) (k2:=k2) (k3:=k3) (k5:=k5) FB (mN:=mN)
  (T.hasType FB.hasBase) (I.ok.hd hc) hp To (ll I hg hm ⟨rfl,?_⟩ dS)
 rw [he]
 refine Calls.evalArgs_plain (thn yN fun us s2 ⟨vs,H2,I2,r,l,q⟩=>?_)
 exact ⟨rfl,by rw [<- r.length];exact l,I2.bk _ _ hC,hN.keeps I2.bk,T.keeps I2.bk,fun h' a hx=>hR pins σ H2 s2 C h' a us I2 hx q⟩
end
end L2
namespace L2
open PySem PySem.Spec PyProof.Rows PySem.W Builtin Builtin.ObjectAttr Builtin.Getset_descriptor
def ExcAt (C a:ac) (h:ge):Prop:=∃o vs,h.get? a=some o/\o.cls=.ref C/\o.data=.fields vs
def pM (C a:ac):HO:=.ext (ExcAt C a)
theorem ExcAt.bU {C a:ac} {h h':ge} (x:ExcAt C a h) (k:∀o,h.get? a=some o->h'.get? a=some o):ExcAt C a h':=let ⟨o,vs,e,c,d⟩:=x;⟨o,vs,k o e,c,d⟩
theorem HR {P:ff} {w:ii} {H:Hp} {h:ge} {C a:ac} (x:ExcAt C a h):ObjOk P w H h a (pM C a):=⟨x,let ⟨o,_,e,_⟩:=x;⟨o,e⟩,fun _ _ y k=>y.bU k⟩
structure eV (K:Frag) (C:ac):Prop where
 cls:(clsIn K C).isSome=true
 ga:findIn K (.ref C) "__getattribute__" = some (some (.builtin "BaseException.__getattribute__"))
 gt:findIn K (.ref C) "__getattr__" = some none
 cl:findIn K (.ref C) "__class__" = some (some (.builtin "object.__class__"))
 gg:specialIn K (.builtin "object.__class__") "__get__" = some (some (.builtin "getset_descriptor.__get__"))
 tk:takesIn K (.builtin "object.__class__")=some true
 ob:mroIn K C (.type "object")=some true
 be:mroIn K C (.type "BaseException")=some true
section
variable {K:Frag} {C a:ac} {M:XV} {h:ge}
theorem jV (x:ExcAt C a h):Looks M h (typeOf (.ref a)) (.ref C) :=by
 obtain ⟨o,vs,h1,h2,h3⟩:=x
 exact h2▸(Looks.ld h1).andThen .now
theorem EC (X:K.In h) (E:eV K C):Looks M h (find (.ref a) (.ref C) "__class__") (.bind (.builtin "getset_descriptor.__get__") (.builtin "object.__class__")) :=by
 refine (looks_findIn X E.cl).andThen (Looks.andThen (show Looks M h (getOf (some (.builtin "object.__class__"))) (some (.builtin "getset_descriptor.__get__")) from looks_specialIn X E.gg) ?_)
 have l3:Looks M h (dataDescriptor? (some (.builtin "object.__class__")) (some (.builtin "getset_descriptor.__get__"))) (some (.builtin "getset_descriptor.__get__",.builtin "object.__class__")):=(looks_takesIn X E.tk).andThen .now
 exact l3.andThen (Looks.tag .now)
theorem Ab (X:K.In h) (E:eV K C):Looks M h (isType (.ref C)) true :=by
 have z:=E.cls
 unfold clsIn at z
 split at z
 case h_2=>cases z
 case h_1 ho=>
  intro A Q E s k q
  unfold isType loadHead
  exact ap (m:=loadPart _ _) (wpAny_loadPart (k _ _ (X _ _ ho)) (bv q))
theorem B8 (X:K.In h) (E:eV K C) {tp:ac} {dd:Option ac} {its:List al} {n:Nat} {sl:Array (Option al)} (e:h.get? tp=some ⟨.type "tuple",dd,.seq its.toArray n,sl⟩):(li C==li tp)=false :=by
 refine Bool.eq_false_iff.mpr fun q=>?_
 cases li.inj (beq_iff_eq.mp q)
 have z:=E.cls
 unfold clsIn at z
 split at z
 case h_2=>cases z
 case h_1 ho=>cases (X _ _ ho).symm.trans e
end
section
variable {K:Frag} {C a:ac} {prog:ff} {w:ii} {A:ma} {s:ba} {R:Wz->ba->Prop} {EE:al->ba->Prop}
theorem uI {tp:al} (X:K.In s.heap) (E:eV K C) (x:ExcAt C a s.heap) (q:R (.ok (.ret (.ref C))) s):codeAny (model prog w) A (.call (.builtin "getset_descriptor.__get__") ⟨[.builtin "object.__class__",.ref a,tp],[]⟩) R s :=by
 obtain ⟨hh,g,dr,t,os⟩:=s
 have L0:=jV (M:=model prog w) x
 have L1:=looks_mroIn (M:=model prog w) X E.ob
 have ck:=KF.slot_gs.check (model prog w)
 refine WI KF.slot_gs.plain KF.entry_gs (ck _ _ _ _ _ _ _ KF.type_class (KF.args_gs _ _ _) ?_)
 unfold u7.«getset_descriptor.__get__» descrGet
 rw [dga_obj]
 refine ap (m:=pure _) (bv ?_)
 unfold descrGetter descrCheckInstance descrNameAndClass
 unfold isInstance
 simp only [KF.owner_class]
 repeat lk
 refine ⟨Code.quiet_builtin _ (by decide +kernel),ze KF.entry_class ?_⟩
 unfold u7.«object.__class__»
 unfold shownTypeOf
 repeat lk
 exact q
theorem vX {nv:al} {Q:Unit->ba->Prop} (X:K.In s.heap) (E:eV K C) (x:ExcAt C a s.heap) (q:Q () s):wpAny (model prog w) A (checkBuiltinCall "BaseException.__getattribute__" ⟨[.ref a,nv],[]⟩) Q EE s :=by
 have e1:builtinKind "BaseException.__getattribute__" = some .slot :=by decide +kernel
 have e2:splitId "BaseException.__getattribute__" = some ("BaseException","__getattribute__") :=by decide +kernel
 have Va:=F.args_bexc_ga (.ref a) nv
 have L0:=jV (M:=model prog w) x
 have L1:=looks_mroIn (M:=model prog w) X E.be
 obtain ⟨hh,g,dr,t,os⟩:=s
 simp only [checkBuiltinCall,e1,e2]
 refine ap ?_
 unfold isInstance
 repeat lk
 exact q
theorem sC {Q:Option al->ba->Prop} (X:K.In s.heap) (E:eV K C) (x:ExcAt C a s.heap) (q:Q (some (.ref C)) {s with toks:=s.toks+1}):wpAny (model prog w) A (getAttr? (.ref a) "__class__") Q EE s :=by
 obtain ⟨hh,g,d,t,os⟩:=s
 have L0:=jV (M:=model prog w) x
 have L1:=looks_findIn (M:=model prog w) X E.ga
 have L2:=looks_findIn (M:=model prog w) X E.gt
 have dE:(onTheHeap (li C) && Wi "BaseException.__getattribute__" == Wi "object.__getattribute__")=false :=by
  rw [show (Wi "BaseException.__getattribute__" == Wi "object.__getattribute__")=false from by decide +kernel]
  rfl
 unfold getAttr? getAttrBy?
 refine ap (wpAny_mkText (ap (m:=(getAttrBy _ _ _).attempt) (ID ?_)))
 unfold getAttrBy
 refine AT (ap (m:=typeOf _) (L0.at (ap (m:=typeLookup _ _) (L1.at ?_))))
 simp only [dE,lw,if_false]
 unfold getAttrByItsOwn hookBefore
 refine ap (L2.at ?_)
 refine ap (ID (AT ?_))
 unfold callGetattribute boundAndCalled
 simp only [SS,lw,if_false]
 refine ap (m:=bindSpecial _ _) (Wd (F.attr_ValueError.ga.bind (.ref a)) ?_)
 have L3:=EC (M:=model prog w) (a:=a) X E
 refine Xm (WI F.attr_ValueError.ga.plain F.entry_bexc_ga (vX X E x ?_))
 unfold u7.«object.__getattribute__»
 iterate 9 lk
 refine ap (m:=attrName _) (bv (ap (m:=typeOf _) (L0.at (ap (m:=find _ _ _) (L3.at ?_)))))
 show wpAny _ _ (holding [Wi "object.__class__"] (call (.builtin "getset_descriptor.__get__") [.builtin "object.__class__",.ref a,.ref C])>>=ret) _ _ _
 refine ap (m:=holding _ _) (AT (Xm (uI X E x ?_)))
 exact bv (handed_on rfl (bv q))
end
theorem pN {K:Frag} {C a:ac} (E:eV K C):KitX K (.ref a) (.ref C) (ExcAt C a) where
 ty:=fun _ _ _ x=>jV x
 it:=fun _ _ X _=>Ab X E
 ne:=fun _ _ _ _ _ _ X e=>B8 X E e
 ca:=fun X x q=>sC X E x q
theorem t7:∀{Ds:List ac} {us:List al},Vals (Ds.map V.ref) us->us=Ds.map li
 | [],_,.nil=>rfl
 |D::Ds,_,.cons r t=>by
          cases (show _=li D from r)
          rw [t7 t]
          rfl
section
variable {X:Cx}
def RL (K:Frag):List V->Hp->VK->Prop:=fun xs H Q=>∃a C b,H a=some (pM C a)/\eV K C /\
 ((∃D,xs=[.ref a,.ref D]/\kitOne K (.ref C) (.ref D)=some b)\/(∃T,xs=[.ref a,.ty T]/\kitOne K (.ref C) (.type T)=some b)\/∃(tp:ac) (Ds:List ac),xs=[.ref a,.ref tp]/\H tp=some (.tup (Ds.map V.ref))/\kitAny K (.ref C) (Ds.map li)=some b)/\Q (.bl b) H
theorem ED {K:Frag} (hK:X.K=K):cL X (.builtin "isinstance") (RL K) :=by
 subst hK
 intro pins s σ H xs us Q I r h
 obtain ⟨a,C,b,ha,E,h,q⟩:=h
 have x:ExcAt C a s.heap:=(I.hok a _ ha).1
 have fin:∀tk,EP X pins σ Q (.bool b) {s with toks:=tk}:=fun tk=>⟨.bl b,H,I.tok tk,rfl,q⟩
 rcases h with ⟨D,rfl,e⟩|⟨T,rfl,e⟩|⟨tp,Ds,rfl,ht,e⟩
 ·obtain ⟨u,w',rfl,r1,r2⟩:=vals2 r
  cases (show u=li a from r1)
  cases (show w'=li D from r2)
  exact kia_one (pN E) I.ft x e (fun z=>nomatch z) fin
 ·obtain ⟨u,w',rfl,r1,r2⟩:=vals2 r
  cases (show u=li a from r1)
  cases (show w'=AM T from r2)
  exact kia_one (pN E) I.ft x e (fun z=>nomatch z) fin
 ·obtain ⟨u,w',rfl,r1,r2⟩:=vals2 r
  cases (show u=li a from r1)
  cases (show w'=li tp from r2)
  obtain ⟨_,its,rv,ob,ho,hc,n,hd,_⟩:=I.hok tp _ ht
  have ei:=t7 rv
  subst ei
  obtain ⟨c,dd,dt,sl⟩:=ob
  dsimp only at hc hd
  subst hc hd
  exact kia_tup (pN E) I.ft x ho e (fun z=>nomatch z) fin
end
end L2
namespace L2
open PySem PySem.Spec PyProof.Rows PySem.W
def blank (n:Nat):St:=io n none
theorem vY {n i:Nat} {v:V} (h:(blank n)[i]?=some (some v)):False :=by
 unfold blank at h
 rw [AS] at h
 split at h <;> cases h
abbrev Cx.mi (X:Cx) (T:al->ba->Prop) (pn:List (ac×i4)):Cx:={X with xe:=T,pn:=pn}
abbrev Cx.suite (X:Cx) (a:ac):Cx:={X with A:=X.A.mark (some (.ref a)),calm:=false,xe:=fun _ _=>False}
section
variable {X:Cx} {pins pins':List (ac×i4)} {σ:St} {H:Hp} {s:ba} {T:al->ba->Prop}
theorem Inv.mi (I:Inv X pins σ H s) (T:al->ba->Prop):Inv (X.mi T (X.pn++pins)) [] σ H s:=
 ⟨⟨I.ok.mod,I.ok.kind,I.ok.glob,I.ok.blt,I.ok.above,I.ok.inj,I.ok.has,I.ok.cab,I.ok.hd,I.ok.frames,I.ok.stk,I.ok.exf,I.ok.bs,I.ok.bsz,I.ok.noex,I.ok.exfs,I.ok.funs,I.ok.frf⟩,
  I.os,I.bare,I.base,I.loc,I.cell,I.free,I.freeC,fun p hp=>I.pin p (by simpa using hp),I.hok,I.len⟩
theorem Inv.nI (J:Inv (X.mi T (X.pn++pins)) pins' σ H s):Inv X pins σ H s:=
 ⟨⟨J.ok.mod,J.ok.kind,J.ok.glob,J.ok.blt,J.ok.above,J.ok.inj,J.ok.has,J.ok.cab,J.ok.hd,J.ok.frames,J.ok.stk,J.ok.exf,J.ok.bs,J.ok.bsz,J.ok.noex,J.ok.exfs,J.ok.funs,J.ok.frf⟩,
  J.os,J.bare,J.base,J.loc,J.cell,J.free,J.freeC,fun p hp=>J.pin p (BS _ hp),J.hok,J.len⟩
theorem Inv.suite (I:Inv X pins σ H s) (a:ac):Inv (X.suite a) pins σ H s:=
 ⟨⟨I.ok.mod,I.ok.kind,I.ok.glob,I.ok.blt,I.ok.above,I.ok.inj,I.ok.has,I.ok.cab,(fun z=>nomatch z),I.ok.frames,I.ok.stk,I.ok.exf,I.ok.bs,I.ok.bsz,I.ok.noex,I.ok.exfs,I.ok.funs,I.ok.frf⟩,
  I.os,I.bare,I.base,I.loc,I.cell,I.free,I.freeC,I.pin,I.hok,I.len⟩
theorem Inv.HS {a:ac} (ok:X.Ok) (J:Inv (X.suite a) pins σ H s):Inv X pins σ H s:=
 ⟨ok,J.os,J.bare,J.base,J.loc,J.cell,J.free,J.freeC,J.pin,J.hok,J.len⟩
theorem Inv.blank (I:Inv X pins σ H s):Inv X pins (blank X.N.length) H s :=by
 refine ⟨I.ok,I.os,I.bare,I.base,?_,I.cell,I.free,I.freeC,I.pin,I.hok,by unfold L2.blank;simp⟩
 obtain ⟨m,hn,_⟩:=I.loc
 exact ⟨m,hn,fun i x v _ e=>(vY e).elim⟩
theorem Inv.lost {h':ge} {m':bn->Option al} {t':Nat} (I:Inv X pins σ H s) (hn:h'.Ns X.env.locals m') (sb:wS X.env.locals s.heap h'):Inv X pins (L2.blank X.N.length) H {s with heap:=h',toks:=t'}:=by
 have mv:∀b o,b≠X.env.locals->s.heap.get? b=some o->h'.get? b=some o:=fun b o n e=>(sb.2 b n).trans e
 refine ⟨I.ok,I.os,I.bare,⟨fun b o q n hb hx=>mv b o (I.mh q) (I.base.keep b o q n hb hx),fun b o q n hb hx=>?_,I.base.free,fun b o q hx=>?_,I.base.tups,I.base.frzs,I.base.tbls⟩,
  ⟨m',hn,fun i x v _ e=>(vY e).elim⟩,fun x c e=>?_,I.free,I.freeC,fun p hp=>?_,fun a o e=>?_,by unfold L2.blank;simp⟩
 ·obtain ⟨sl,e⟩:=I.base.slot b o q n hb hx
  exact ⟨sl,mv b _ (I.mh q) e⟩
 ·obtain ⟨o',e⟩:=I.base.there b o q hx
  exact ⟨o',mv b _ (I.mh q) e⟩
 ·obtain ⟨v,o,ho,hd⟩:=I.cell x c e
  exact ⟨v,o,mv c o (I.qm x c e) ho,hd⟩
 ·obtain ⟨p1,p2,p3,p4,p5⟩:=I.pin p hp
  exact ⟨mv _ _ p3 p1,p2,p3,p4,p5⟩
 ·refine (I.hok a o e).bU (fun b u hb q=>mv b u (fun z=>?_) q) (fun _ q=>q) fun _ _ q=>q
  have fr:=I.free
  rw [<- z] at fr
  rcases hb with y|y
  ·rw [y,e] at fr;cases fr
  ·rw [y] at fr;cases fr
theorem Inv.Gq {a:ac} {o:HO} (I:Inv X pins σ H s) (n0:H a=none) (n1:X.s₀.heap.get? a=none) (n2:a≠X.env.locals) (n3:∀x c,X.env.cells.lookup x=some c->c≠a) (n4:∀p∈X.pn++pins,p.1≠a)
  (ob:ObjOk X.prog X.w (upd H a o) s.heap a o):Inv X pins σ (upd H a o) s :=by
 have un:∀b u,H b=some u->upd H a o b=some u:=fun b u e=>by rw [af (aZ e n0)];exact e
 refine ⟨I.ok,I.os,I.bare,⟨I.base.keep,I.base.slot,fun b u q n hx=>?_,I.base.there,fun b xs e=>un _ _ (I.base.tups b xs e),fun b u v e=>un _ _ (I.base.frzs b u v e),fun b ps e=>?_⟩,I.loc,I.cell,?_,fun x c e=>?_,fun p hp=>?_,fun b u e=>?_,I.len⟩
 ·rw [af (fun z=>by rw [z,n1] at q;cases q)]
  exact I.base.free b u q n hx
 ·obtain ⟨more,z⟩:=I.base.tbls b ps e
  exact ⟨more,un _ _ z⟩
 ·rw [af (zd n2)]
  exact I.free
 ·rw [af (n3 x c e)]
  exact I.freeC x c e
 ·obtain ⟨p1,p2,p3⟩:=I.pin p hp
  exact ⟨p1,by rw [af (n4 p hp)];exact p2,p3⟩
 ·by_cases hb:b=a
  ·subst hb
   rw [ay] at e
   cases e
   exact ob
  ·rw [af hb] at e
   exact (I.hok b u e).bU (fun _ _ _ q=>q) (fun c q=>un _ _ q) fun c xs q=>un _ _ q
end
structure kN (K:Frag) (C0:ac):Prop where
 ty:typeIn K (.ref C0)=some (.type "type")
 be:subIn K (.ref C0) (.type "BaseException")=some true
 it:(clsIn K C0).isSome=true
theorem B9 {K:Frag} {C C0 a:ac} {M:XV} {A:ma} {E:al->ba->Prop} {s:ba} {Q:Bool->ba->Prop} (X:K.In s.heap) (O:kN K C0) (e:subIn K (.ref C) (.ref C0)=some true) (x:ExcAt C a s.heap) (q:Q true s) :
  wpAny M A (excMatches (.ref a) (.ref C0)) Q E s :=by
 obtain ⟨hh,g,d,t,os⟩:=s
 have L0:=jV (M:=M) x
 have L1:=looks_typeIn (M:=M) X O.ty
 have L2:=looks_subIn (M:=M) X O.be
 have L3:=looks_subIn (M:=M) X e
 have L4:Looks M hh (isSubtype (.type "type") (.type "tuple")) false:=Looks.of_pure tc_notTuple
 have L5:Looks M hh (isType (.ref C0)) true :=by
  have z:=O.it
  unfold clsIn at z
  split at z
  case h_2=>cases z
  case h_1 ho=>
   intro A Q E s k q
   unfold isType loadHead
   exact ap (m:=loadPart _ _) (wpAny_loadPart (k _ _ (X _ _ ho)) (bv q))
 unfold excMatches
 unfold isInstance isExcClass
 repeat lk
 exact q
def Lj (K:Frag) (C0:ac) (i n:Nat) (th:TS) (D:Ends):XK:=fun cls _ H'=>∃C,cls=.ref C/\subIn K (.ref C) (.ref C0)=some true/\∀a,H' a=none->
 th {nx:=fun _ H2=>D.nx (blank n) H2,rt:=D.rt,bk:=fun _ H2=>D.bk (blank n) H2,ct:=fun _ H2=>D.ct (blank n) H2} ((blank n).set i (some (.ref a))) (upd H' a (pM C a))
def RN (K:Frag) (C0:ac) (i n:Nat) (tb:XK->TS) (th:TS):TS:=fun D σ H=>tb (Lj K C0 i n th D) D σ H
section
variable {X:Cx} {body suite:List r6} {x n:bn} {i:Nat} {np vZ pos:wn} {sD:r6} {C0:ac} {tb:XK->TS} {th:TS}
theorem Lk (hN:X.N.Nodup) (hi:X.N[i]?=some n) (hl:X.env.scope.names.lookup n=some .local) (ie:X.stack=X.env::X.outer/\X.env.frame=some X.env.locals) (hex:X.ex=[]) (O:kN X.K C0) (hg:Gl X x) (hm:X.mg x=some (.ref C0))
  (hb:∀(T:al->ba->Prop) (pn:List (ac×i4)) (E:XK),Passes (fi X.prog X.w) (X.mi T pn) E->fT (X.mi T pn) body (tb E)) (hs:∀a:ac,fT (X.suite a) (sD::suite) th)
  (dS:(x==("__debug__" : bn))=false :=by decide) :
  PS X (.Try body [.ExceptHandler (some (.Name x np)) (some n) (sD::suite) vZ] [] [] pos) (RN X.K C0 i X.N.length tb th) :=by
 refine ⟨fun pins s σ H D I h=>?_⟩
 refine wpAny_Try_except ?_
 have hp:Passes (fi X.prog X.w) (X.mi (fun e aw=>wpAny (model X.prog X.w) X.A (noteFrame e X.env) (fun _ gz=>wpAny (model X.prog X.w) X.A (setFlight e none) (fun _ iZ=>wpAny (model X.prog X.w) X.A (handleBy e X.env [.ExceptHandler (some (.Name x np)) (some n) (sD::suite) vZ]) (SP X pins D) X.xe iZ) X.xe gz) X.xe aw) (X.pn++pins)) (Lj X.K C0 i X.N.length th D) :=by
  intro pins' o4 H1 s1 e s' J1 Tp
  obtain ⟨a,C,t,B,H',rfl,os,gn,fl,c1,c2,un,hok,C',ec,k8,q⟩:=Tp
  cases ec
  have I1:=J1.nI
  have I':=I1.qp (ch:=[]) os un hok gn (fun b z=>absurd z (by simp))
  have fr:X.A.frames=some (X.env::X.outer):=I.ok.frames.trans (congrArg some ie.1)
  have Gp:ge.FlyingW B (X.env::X.outer) a (.ref C) (.ref t) s'.heap:=ie.1▸fl
  refine wpAny_looks_onW fr ie.2 Gp fun h4 held Qh=>?_
  refine wpAny_landsW held fun h5 Ln Qi=>?_
  have I5:=I1.Gm I' c1 c2 fl.1 Ln.1 (Qh.trans Qi)
  have Y5:=I5.suite a
  have Tq:ExcAt C a h5:=let ⟨oe,vs,e1,e2,e3,_⟩:=Ln.first;⟨oe,vs,e1,e2,e3⟩
  refine wpAny_handleBy_cons (codeAny_handlers_test (ll Y5 hg hm (B9 Y5.ft O k8 Tq ?_) dS)) (fun z=>nomatch z)
  refine codeAny_handlers_suite_as (lands_againW Ln fun h6 Qj Tr=>?_)
  have I6:=I1.Gm I' c1 c2 fl.1 Qj.1 ((Qh.trans Qi).trans Tr)
  have Qk:ExcAt C a h6:=let ⟨oe,vs,e1,e2,e3,_⟩:=Qj.first;⟨oe,vs,e1,e2,e3⟩
  obtain ⟨oe,vs,e1,e2,e3⟩:=id Qk
  have Ts:a ∉ dQ X.stack:=fun z=>by
   obtain ⟨_,o2,q1,q2⟩:=I6.stack.mem z
   rw [e1] at q1
   cases q1
   exact q2 _ e3
  have nb:∀o,s1.heap.get? a≠some o:=fun o z=>by
   obtain ⟨o',z'⟩:=c1 a o z Ts
   rw [fl.2.1] at z'
   cases z'
  have nH:H' a=none :=by
   cases z:H' a with
   |none=>rfl
   |some u=>
    obtain ⟨o',z'⟩:=c2 a u z
    rw [fl.2.1] at z'
    cases z'
  have nL:a≠X.env.locals:=fun z=>by
   obtain ⟨m,⟨o,es,ep,ho,hd,_⟩,_⟩:=I6.loc
   rw [<- z,e1] at ho
   cases ho
   rw [e3] at hd
   cases hd
  have I7:Inv X pins (blank X.N.length) (upd H' a (pM C a)) {s' with heap:=h6}:=I6.blank.Gq nH
   (by
    cases z:X.s₀.heap.get? a with
    |none=>rfl
    |some o=>
     obtain ⟨o1,q1⟩:=I1.base.there a o z (by rw [hex];simp)
     exact (nb _ q1).elim)
   nL
   (fun y c ec z=>by
    obtain ⟨v,o,ho,hd⟩:=I6.cell y c ec
    rw [z,e1] at ho
    cases ho
    rw [e3] at hd
    cases hd)
   (fun p hp z=>by
    have:=(I1.pin p hp).1
    rw [z] at this
    exact (nb _ this).elim)
   (HR Qk)
  refine store_ok2 I7 hN hi (.inl hl) (v:=.ref a) rfl (fun s8 I8 _=>?_) (.inr hl)
  refine l7 ((hs a).run pins s8 _ _ _ (I8.suite a) (q a nH)) (fun f s9 r=>?_) (fun _ _ z=>z.elim)
  have fin:∀{yO:St} {H9:Hp},Inv (X.suite a) pins yO H9 s9->(∀yP,Inv X pins (blank X.N.length) H9 yP->SP X pins D f yP)->wpAny (model X.prog X.w) X.A (do bindName X.env n .none;unbindBehindTheSuite X.env n vZ) (fun _ RO=>SP X pins D f RO) X.xe s9:=fun {yO H9} Y9 k=>by
   have I9:=Y9.HS I.ok
   obtain ⟨m,hn,_⟩:=id I9.loc
   exact wpAny_nameGoes hl hn (by rw [I.ok.kind];rfl) fun h' m' vc sb=>k _ (I9.lost vc sb)
  cases f with
  |next=>obtain ⟨yO,H9,Y9,z⟩:=r;exact fin Y9 fun yP J=>⟨_,H9,J,z⟩
  |brk=>obtain ⟨yO,H9,Y9,z⟩:=r;exact fin Y9 fun yP J=>⟨_,H9,J,z⟩
  |cont=>obtain ⟨yO,H9,Y9,z⟩:=r;exact fin Y9 fun yP J=>⟨_,H9,J,z⟩
  |ret u=>obtain ⟨v,yO,H9,Y9,rv,z⟩:=r;exact fin Y9 fun yP J=>⟨v,_,H9,J,rv,z⟩
 have gO:=hb _ (X.pn++pins) _ hp
 refine l7 (gO.run [] s σ H D (I.mi _) h) (fun f s1 q=>?_) (fun e s1 q=>q)
 have q2:SP X pins D f s1 :=by
  cases f with
  |next=>obtain ⟨aF,H',J,z⟩:=q;exact ⟨aF,H',J.nI,z⟩
  |brk=>obtain ⟨aF,H',J,z⟩:=q;exact ⟨aF,H',J.nI,z⟩
  |cont=>obtain ⟨aF,H',J,z⟩:=q;exact ⟨aF,H',J.nI,z⟩
  |ret u=>obtain ⟨v,aF,H',J,r,z⟩:=q;exact ⟨v,aF,H',J.nI,r,z⟩
 cases f with
 |next=>exact bv q2
 |_=>exact q2
end
theorem tO.vC {P:ff} {w:ii} {K:bi} {mg:bn->Option al} {base:ge} {x qual:bn} {st:r6} {f:ac} {fd:l5} {N ps:List bn} {k:Nat} {sp:Sp} (F:tO K x qual st f fd) (S:aN N ps (aj st)) (len:∀vs H Q E,sp vs H Q E->vs.length=ps.length)
  (lY:∀(A:ma) (outer:List IR) (s:ba) (H:Hp) (vs:List V) (Q:VK) (E:XK),bB k (A.deeper (envOfC qual (aj st) s.heap.objs.size f fd.code))->sp vs H Q E->
   ∃t,fT (fW (fi P w) P w K mg base N qual (aj st) f fd.code A outer s H E) (bK st) t/\t {nx:=fun _ H'=>Q .au H',rt:=Q} (start N vs) H):FnOk P w K mg base (fi P w) (k+1) f fd ps sp :=by
 obtain ⟨oc,od,kV,doc,pm,an,cJ,ct,iN,rfl,lk,dR⟩:=F.ex
 exact zG lk dR S len fun A outer s H vs Q E hr kz=>lY A outer s H vs Q E hr kz
def Ql:List al:=[.type "ValueError",.type "Exception",.type "BaseException",.type "object"]
def EF (K:Frag) (C0 C:ac):Bool:=excIn K C Ql "ValueError.__new__" && (clsIn K C).isSome && findIn K (.ref C) "__getattribute__" == some (some (.builtin "BaseException.__getattribute__")) && findIn K (.ref C) "__getattr__" == some none &&
 findIn K (.ref C) "__class__" == some (some (.builtin "object.__class__")) && mroIn K C (.type "object")==some true && mroIn K C (.type "BaseException")==some true && subIn K (.ref C) (.ref C0)==some true && kitOne K (.ref C) (.type "ValueError")==some true
def Ac (K:Frag) (C0:ac) (cs:List ac):Bool:=cs.all (EF K C0) && (cs.all fun C=>cs.all fun D=>kitOne K (.ref C) (.ref D)==some (decide (C=D))) && specialIn K (.builtin "object.__class__") "__get__" == some (some (.builtin "getset_descriptor.__get__")) && takesIn K (.builtin "object.__class__")==some true &&
 typeIn K (.ref C0)==some (.type "type") && subIn K (.ref C0) (.type "BaseException")==some true && (clsIn K C0).isSome
structure sE (K:Frag) (C0:ac) (cs:List ac):Prop where
 ex:∀C∈cs,excIn K C Ql "ValueError.__new__" = true
 cl:∀C∈cs,eV K C
 sub:∀C∈cs,subIn K (.ref C) (.ref C0)=some true
 one:∀C∈cs,∀D∈cs,kitOne K (.ref C) (.ref D)=some (decide (C=D))
 val:∀C∈cs,kitOne K (.ref C) (.type "ValueError")=some true
 top:kN K C0
theorem HU {K:Frag} {C0:ac} {cs:List ac} (h:Ac K C0 cs=true):sE K C0 cs :=by
 unfold Ac at h
 simp only [B0] at h
 obtain ⟨⟨⟨⟨⟨⟨h1,h2⟩,h3⟩,h4⟩,h5⟩,h6⟩,h7⟩:=h
 have all:∀C∈cs,EF K C0 C=true:=u4.mp h1
 have part:∀C∈cs,_:=fun C hC=>by
  have z:=all C hC
  unfold EF at z
  simp only [B0] at z
  exact z
 refine ⟨fun C hC=>(part C hC).1.1.1.1.1.1.1.1,fun C hC=>?_,fun C hC=>beq_iff_eq.mp (part C hC).1.2,fun C hC D hD=>beq_iff_eq.mp (u4.mp (u4.mp h2 C hC) D hD),fun C hC=>beq_iff_eq.mp (part C hC).2,⟨beq_iff_eq.mp h5,beq_iff_eq.mp h6,h7⟩⟩
 obtain ⟨⟨⟨⟨⟨⟨⟨⟨_,p1⟩,p2⟩,p3⟩,p4⟩,p5⟩,p6⟩,_⟩,_⟩:=part C hC
 exact ⟨p1,beq_iff_eq.mp p2,beq_iff_eq.mp p3,beq_iff_eq.mp p4,beq_iff_eq.mp h3,beq_iff_eq.mp h4,beq_iff_eq.mp p5,beq_iff_eq.mp p6⟩
theorem sE.any {K:Frag} {C0:ac} {cs:List ac} (E:sE K C0 cs) {C:ac} (hC:C∈cs):∀{Ds:List ac},(∀D∈Ds,D∈cs)->kitAny K (.ref C) (Ds.map li)=some (decide (C∈Ds))
 | [],_=>by simp [kitAny]
 |D::Ds,h=>by
          rw [v6]
          unfold kitAny
          rw [E.one C hC D (h D l9)]
          by_cases e:C=D
          ·subst e
           simp
          ·have ih:=E.any hC (Ds:=Ds) fun D' hD=>h D' (im _ hD)
           simp only [e,decide_false,ih,kw,false_or]
end L2
namespace L2
open PySem PySem.Spec PyProof.Rows Builtin.SmallTypes
def gB (k:Bool) (h:ge) (it a:ac) (i:Nat):Prop:=if k=true then h.IsListIter it a i else h.IsTupleIter it a i
def pO (k:Bool) (h:ge) (a:ac) (items:Array al):Prop:=if k=true then h.IsList a items else h.IsTuple a items
theorem gB.at {k:Bool} {h h':ge} {it a:ac} {i:Nat} (x:gB k h it a i) (q:∀o,h.get? it=some o->h'.get? it=some o):gB k h' it a i :=by
 cases k with
 |true=>exact ge.IsListIter.at (h:=h) x q
 |false=>exact ge.IsTupleIter.at (h:=h) x q
theorem gB.obj {k:Bool} {h:ge} {it a:ac} {i:Nat} (x:gB k h it a i):∃o,h.get? it=some o/\∃vs,o.data=.fields vs :=by
 cases k with
 |true=>obtain ⟨o,e,_,d⟩:=(show h.IsListIter it a i from x);exact ⟨o,e,_,d⟩
 |false=>obtain ⟨o,e,_,d⟩:=(show h.IsTupleIter it a i from x);exact ⟨o,e,_,d⟩
section
variable {prog:ff} {w:ii} {A:ma} {E:al->ba->Prop} {s:ba} {it a:ac} {i:Nat} {items:Array al} {x:al} {k:Bool}
theorem EG {Q:Option al->ba->Prop} (hit:s.heap.IsTupleIter it a i) (ha:s.heap.IsTuple a items) (hx:items[i]?=some x)
  (hQ:∀h',h'.IsTupleIter it a (i+1)->wS it s.heap h'->Q (some x) {s with heap:=h'}):wpAny (model prog w) A (callSpecial? (.ref it) "__next__") Q E s :=by
 obtain ⟨o,ho,hc,hd⟩:=id hit
 obtain ⟨ol,q9,_,nl,Lp⟩:=ha
 have sl:=F.slot_tuple_iterator_next
 refine xw (name:=r9 "__next__") hit.typeIs sl (xz sl hit.typeIs F.entry_tuple_iterator_next ?_ (F.args_tuple_iterator_next_1 _))
 have nn:¬ ((li a==BN)=true):=gl
 refine ap (m:=field (.ref it) 0) (Mn ho hd (x:=.ref a) rfl ?_)
 rw [if_neg nn]
 refine ap (m:=field (.ref it) 1) (Mn ho hd (x:=.int i 0) rfl (ap (m:=seqItems? (.ref a)) (WT q9 Lp ?_)))
 simp only [ut,hx]
 refine ap (m:=setField _ _ _) (wpAny_setField ho hd (by simp) (bv ⟨x,rfl,hQ _ ?_ (Is ..)⟩))
 refine ⟨_,Cs _ ho (Wt (No hd _)),(Xh ..).trans hc,?_⟩
 rw [No hd]
 simp [rawInt]
theorem EH {Q:Option al->ba->Prop} (hh:A.handled=none) (hit:s.heap.IsTupleIter it a i) (ha:s.heap.IsTuple a items) (hx:items[i]?=none)
  (hE:∀h' e,WV it s.heap h'->(∃o,h'.get? e=some o/\o.cls=.type "StopIteration")->E (.ref e) {s with heap:=h'}):wpAny (model prog w) A (callSpecial? (.ref it) "__next__") Q E s :=by
 obtain ⟨o,ho,hc,hd⟩:=id hit
 obtain ⟨ol,q9,_,nl,Lp⟩:=ha
 have sl:=F.slot_tuple_iterator_next
 refine xw (name:=r9 "__next__") hit.typeIs sl (xz sl hit.typeIs F.entry_tuple_iterator_next ?_ (F.args_tuple_iterator_next_1 _))
 have nn:¬ ((li a==BN)=true):=gl
 refine ap (m:=field (.ref it) 0) (Mn ho hd (x:=.ref a) rfl ?_)
 rw [if_neg nn]
 refine ap (m:=field (.ref it) 1) (Mn ho hd (x:=.int i 0) rfl (ap (m:=seqItems? (.ref a)) (WT q9 Lp ?_)))
 simp only [ut,hx]
 refine ap (Ix (ap (m:=setField _ _ _) (wpAny_setField ho hd (by simp) ?_)))
 refine ap (m:=newExc (.type "StopIteration") []) ?_
 unfold newExc newTuple
 refine ap (wP ?_ (by size_fits))
 refine ap (m:=firstArgMember _ _) (Wd (a:=BN) (by first|rfl|(simp only [firstArgMember];rfl)) (wP ?_ (by size_fits)))
 refine wpAny_raiseNew_none hh ?_
 exact hE _ _ (((Is ..).extBut.push _).push _) ⟨_,f8 _ rfl,rfl⟩
theorem HV {Q:al->ba->Prop} (hit:gB k s.heap it a i) (ha:pO k s.heap a items) (hx:items[i]?=some x)
  (hQ:∀h',gB k h' it a (i+1)->wS it s.heap h'->Q x {s with heap:=h'}):wpAny (model prog w) A (nextOf (.ref it)) Q E s :=by
 cases k with
 |true=>exact wpAny_nextOf_list_item hit ha hx hQ
 |false=>
  unfold nextOf
  exact ap (EG hit ha hx fun h' a b=>bv (hQ h' a b))
theorem HW {Q:al->ba->Prop} (hh:A.handled=none) (hit:gB k s.heap it a i) (ha:pO k s.heap a items) (hx:items[i]?=none)
  (hE:∀h' e,WV it s.heap h'->(∃o,h'.get? e=some o/\o.cls=.type "StopIteration")->E (.ref e) {s with heap:=h'}):wpAny (model prog w) A (nextOf (.ref it)) Q E s :=by
 cases k with
 |true=>exact wpAny_nextOf_list_end hh hit ha hx hE
 |false=>
  unfold nextOf
  exact ap (EH hh hit ha hx hE)
end
section
variable {prog:ff} {w:ii} {A:ma} {E:al->ba->Prop} {s:ba} {e it a:ac} {i:Nat} {items:Array al} {x old:al} {k:Bool}
theorem Ca {Q:al->ba->Prop} (he:Wg s.heap e it i old) (dE:e≠it) (hit:gB k s.heap it a i) (ha:pO k s.heap a items) (hx:items[i]?=some x)
  (hQ:∀h',XU h' e it ((i:Int)+1) x s.heap.objs.size->gB k h' it a (i+1)->h'.get? s.heap.objs.size=some {cls:=.type "tuple",data:=.seq #[.int i s.toks,x]}->
   (∀b o,b≠e->b≠it->s.heap.get? b=some o->h'.get? b=some o)->Q (.ref s.heap.objs.size) {s with heap:=h',toks:=s.toks+1}) :
  wpAny (model prog w) A (u7.«enumerate.__next__» ⟨[.ref e],[]⟩) (fun fin s'=>∃v,fin=.done (.ret v)/\Q v s') E s :=by
 obtain ⟨hp,g,d,tk,os⟩:=s
 refine ap (m:=field (.ref e) 2) (Mn he rfl (x:=.ref it) rfl (ap (m:=nextOf (.ref it)) (HV hit ha hx fun h1 Lq (Lr:wS it hp h1)=>?_)))
 have e1:Wg h1 e it i old:=(Lr.2 e dE).trans he
 refine ap (m:=field (.ref e) 3) (Mn e1 rfl (x:=rawInt i) rfl (ap (m:=field (.ref e) 4) (Mn e1 rfl (x:=.none) rfl (ap (m:=mkInt i) (wpAny_mkInt ?_)))))
 refine ap (m:=setField (.ref e) 3 _) (KB e1 (by simp) fun h2 (e2:Wg h2 e it ((i:Int)+1) old) (yQ:wS e h1 h2)=>?_)
 refine ap (m:=setField (.ref e) 4 .none) (KB e2 (by simp) fun h3 (e3:Wg h3 e it ((i:Int)+1) old) (Qm:wS e h2 h3)=>?_)
 refine ap (m:=newTuple [.int i tk,x]) (wpAny_newTuple ?_)
 have z3:h3.objs.size=hp.objs.size :=by rw [Qm.1,yQ.1,Lr.1]
 have el:e<hp.objs.size:=hX he
 have e4:Wg (h3.push {cls:=.type "tuple",data:=.seq #[.int i tk,x]}) e it ((i:Int)+1) old:=cb _ e3
 have t4:(h3.push {cls:=.type "tuple",data:=.seq #[.int i tk,x]}).get? hp.objs.size=some {cls:=.type "tuple",data:=.seq #[.int i tk,x]}:=z3▸f8 _ rfl
 have up:∀b o,b≠e->h1.get? b=some o->(h3.push {cls:=.type "tuple",data:=.seq #[.int i tk,x]}).get? b=some o:=fun b o n q=>cb _ (Qm.extBut b o n (yQ.extBut b o n q))
 generalize h3.push {cls:=.type "tuple",data:=.seq #[.int i tk,x]}=h4 at e4 t4 up
 rw [z3]
 refine ap (m:=ownedTupleIsFree (.ref e)) ?_
 unfold ownedTupleIsFree
 refine ap (m:=field (.ref e) 0) (Mn e4 rfl (x:=.none) rfl (bv ?_))
 rw [if_pos rfl]
 refine ap (Ix (ap (m:=field (.ref e) 5) (Mn e4 rfl (x:=old) rfl ?_)))
 refine ap (m:=setField (.ref e) 5 x) (KB e4 (by simp) fun h5 (e5:Wg h5 e it ((i:Int)+1) x) (Tt:wS e h4 h5)=>?_)
 refine ap (m:=ownedTupleHandOut (.ref e) _) ?_
 unfold ownedTupleHandOut
 refine ap (KB e5 (by simp) fun h6 (e6:XU h6 e it ((i:Int)+1) x hp.objs.size) (Tu:wS e h5 h6)=>?_)
 refine KB e6 (by simp) fun h7 (e7:XU h7 e it ((i:Int)+1) x hp.objs.size) (Tv:wS e h6 h7)=>?_
 have Ls:∀b o,b≠e->h4.get? b=some o->h7.get? b=some o:=fun b o n q=>Tv.extBut b o n (Tu.extBut b o n (Tt.extBut b o n q))
 refine ap (wpAny_letGo (bv ⟨_,rfl,hQ h7 e7 (Lq.at fun o q=>Ls it o (zd dE) (up it o (zd dE) q)) (Ls _ _ (OL el) t4) fun b o n1 n2 q=>Ls b o n1 (up b o n1 ((Lr.2 b n2).trans q))⟩))
theorem Cb {Q:Option al->ba->Prop} (he:Wg s.heap e it i old) (dE:e≠it) (hit:gB k s.heap it a i) (ha:pO k s.heap a items) (hx:items[i]?=some x)
  (hQ:∀h',XU h' e it ((i:Int)+1) x s.heap.objs.size->gB k h' it a (i+1)->h'.get? s.heap.objs.size=some {cls:=.type "tuple",data:=.seq #[.int i s.toks,x]}->
   (∀b o,b≠e->b≠it->s.heap.get? b=some o->h'.get? b=some o)->Q (some (.ref s.heap.objs.size)) {s with heap:=h',toks:=s.toks+1}) :
  wpAny (model prog w) A (pyNext (.ref e)) Q E s :=by
 have hT:s.TypeIs (.ref e) "enumerate" := ⟨_,he,rfl⟩
 have sl:=F.slot_enumerate_next
 unfold pyNext
 exact ap (ID (xw (name:=r9 "__next__") hT sl (xz sl hT F.entry_enumerate_next (Ca he dE hit ha hx fun h' a b c d=>bv (hQ h' a b c d)) (F.args_enumerate_next_1 _))))
theorem Cd {Q:Option al->ba->Prop} (hh:A.handled=none) (he:Wg s.heap e it i old) (hit:gB k s.heap it a i) (ha:pO k s.heap a items) (hx:items[i]?=none)
  (hQ:∀h',WV it s.heap h'->Q none {s with heap:=h'}):wpAny (model prog w) A (pyNext (.ref e)) Q E s :=by
 have hT:s.TypeIs (.ref e) "enumerate" := ⟨_,he,rfl⟩
 have sl:=F.slot_enumerate_next
 unfold pyNext
 refine ap (ID (xw (name:=r9 "__next__") hT sl (xz sl hT F.entry_enumerate_next ?_ (F.args_enumerate_next_1 _))))
 refine ap (m:=field (.ref e) 2) (Mn he rfl (x:=.ref it) rfl (ap (m:=nextOf (.ref it)) (HW hh hit ha hx fun h' y eb ⟨o,ho,hc⟩=>?_)))
 exact ap (Wn (T := "StopIteration") (b:=true) ⟨o,ho,hc⟩ isSubtype_stop (bv (hQ _ eb)))
end
end L2
namespace L2
open PySem PySem.Spec PyProof.Rows Builtin.SmallTypes AutoSeq1
theorem v3:bootBuiltins "enumerate" = some (.type "enumerate") :=by decide +kernel
section
variable {X:Cx} {pins:List (ac×i4)} {σ:St} {H:Hp} {s:ba} {h':ge}
theorem Inv.yR {t':Nat} {ch:List ac} (I:Inv X pins σ H s) (k:∀b o,b ∉ ch->s.heap.get? b=some o->h'.get? b=some o) (hf:∀b∈ch,cD X pins H b):Inv X pins σ H {s with heap:=h',toks:=t'}:=by
 have A8:∀b u,H b=some u->b ∉ ch:=fun b u e z=>by rw [(hf b z).1] at e;cases e
 refine I.step (g':=s.gens) (d':=s.drawn) (ch:=ch) (fun b hb=>?_) (fun b o _ _ hc e _=>k b o hc e) (fun b o _ _ hc e _=>⟨o.slots,k b o hc e⟩) (fun _ _ _ _ n=>n)
  (fun b o hc e=>⟨o,k b o hc e⟩) (fun _ _ e=>e) (fun _ _ _ e=>e) (fun b ps e=>⟨#[],by rw [e];simp⟩) (fun m hm=>?_) (fun b u e=>?_) I.bare.self
 ·obtain ⟨_,f1,f2,f3,f4,f5⟩:=hf b hb
  exact ⟨f3,f1,f4,f5⟩
 ·obtain ⟨o,es,ep,ho,r⟩:=hm
  exact ⟨o,es,ep,k _ o (fun z=>(hf _ z).2.1 rfl) ho,r⟩
 ·refine (I.hok b u e).bU (fun c v hc q=>k c v ?_ q) (fun _ q=>q) fun _ _ q=>q
  rcases hc with z|z
  ·rw [z];exact A8 b u e
  ·exact A8 c _ z
theorem Inv.pair {t:ac} {a b:V} {u v:al} {h1:ge} {tk tk0:Nat} (I0:Inv X pins σ H {s with toks:=tk0}) (ht:s.heap.objs.size<=t) (I:Inv X pins σ H {s with heap:=h1,toks:=tk}) (e:h1.get? t=some {cls:=.type "tuple",data:=.seq #[u,v]}) (ru:RelV a u) (rv:RelV b v) :
  Inv X pins σ (upd H t (.tup [a,b])) {s with heap:=h1,toks:=tk}:=by
 have f:=Inv.lX (H':=H) I0 (b:=t) ht (I0.hok.fresh ht)
 refine I.Gq f.1 ?_ f.2.1 f.2.2.2.2.1 f.2.2.2.2.2 ⟨by show 2<=sizeLine;decide,[u,v],.cons ru (.cons rv .nil),⟨_,e,rfl,_,rfl,rfl⟩⟩
 exact ge.get?_none_of_le (wv I0.sz ht)
end
def Sq (k:Bool) (K:bi) (H:Hp) (a:ac) (xs:List V):Prop:=if k=true then bF K H a xs else cI K H a xs
theorem Inv.sq {X:Cx} {pins:List (ac×i4)} {σ:St} {H:Hp} {s:ba} {k:Bool} {a:ac} {xs:List V} (I:Inv X pins σ H s) (h:Sq k X.K H a xs):∃its:List al,Vals xs its/\pO k s.heap a its.toArray :=by
 cases k with
 |true=>obtain ⟨its,rv,p,_⟩:=I.list (show bF X.K H a xs from h);exact ⟨its,rv,p.isList⟩
 |false=>obtain ⟨its,rv,p,_⟩:=I.tuple (show cI X.K H a xs from h);exact ⟨its,rv,p⟩
theorem Inv.Lv {X:Cx} {pins:List (ac×i4)} {σ:St} {H:Hp} {s:ba} {k:Bool} {a:ac} {xs ys:List V} (I:Inv X pins σ H s) (h:Sq k X.K H a xs) (h':Sq k X.K H a ys):xs=ys :=by
 cases k with
 |true=>exact I.ve (show bF X.K H a xs from h) h'
 |false=>exact I.tD (show cI X.K H a xs from h) h'
def Gr (k:Bool) (K:bi) (a:ac):It:=
 ⟨fun i H=>∃xs x,Sq k K H a xs/\xs[i]?=some x,fun i H v H'=>∃t x,H t=none/\v=.ref t/\H'=upd H t (.tup [.int (i:Nat),x])/\∀xs,Sq k K H a xs->xs[i]?=some x,fun i H=>∃xs,Sq k K H a xs/\xs.length<=i⟩
theorem Ce {P:ff} {w:ii} {K:bi} {elts:List dL} {x1:Nat} {pos:wn} (k:Bool) (a it e:ac) (dE:e≠it) :
  Turn P w K (.Tuple elts x1 pos) (Gr k K a) [e,it] e (fun i h=>(∃old,Wg h e it i old)/\gB k h it a i) where
 mem :=by simp
 obj:=fun i h st b hb=>by
  obtain ⟨⟨old,he⟩,hit⟩:=st
  simp only [kw,FS,or_false] at hb
  rcases hb with rfl|rfl
  ·exact ⟨_,he,fun v z=>nomatch z⟩
  ·obtain ⟨o,ho,vs,hd⟩:=hit.obj
   exact ⟨o,ho,fun v z=>by rw [hd] at z;cases z⟩
 keep:=fun i h h' st q=>by
  obtain ⟨⟨old,he⟩,hit⟩:=st
  exact ⟨⟨old,q e (by simp) _ he⟩,hit.at fun o ho=>q it (by simp) o ho⟩
 item :=by
  intro X hP hw hK hc i pins s σ H E I hf st hg
  subst hP hw hK
  obtain ⟨⟨old,he⟩,hit⟩:=st
  obtain ⟨xs,x,hq,hx⟩:=hg
  obtain ⟨its,rv,p⟩:=I.sq hq
  obtain ⟨u,hu,ru⟩:=rv.get hx
  refine Cb he dE hit p (x:=u) (by simpa using hu) fun h1 eo Lq t1 kk=>?_
  refine ⟨_,rfl,wpAny_letOwnedTupleGo_enum eo fun h2 e2 (yQ:wS e h1 h2)=>?_⟩
  have el:e<s.heap.objs.size:=hX he
  have I2:Inv X pins σ H {s with heap:=h2,toks:=s.toks+1}:=I.yR (ch:=[e,it]) (fun b o hb q=>by
   simp only [kw,FS,or_false,not_or] at hb
   exact (yQ.2 b hb.1).trans (kk b o hb.1 hb.2 q)) hf
  have t2:h2.get? s.heap.objs.size=some {cls:=.type "tuple",data:=.seq #[.int i s.toks,u]}:=(yQ.2 _ (OL el)).trans t1
  have hn:H s.heap.objs.size=none:=I.hok.fresh (cr _)
  refine ⟨.ref s.heap.objs.size,_,Inv.pair (s:=s) (tk0:=s.toks) I (cr _) I2 t2 (a:=.int (i:Nat)) ⟨s.toks,rfl⟩ ru,rfl,⟨_,x,hn,rfl,rfl,fun ys hy=>by rw [I.Lv hy hq];exact hx⟩,⟨⟨u,?_⟩,Lq.at fun o q=>(yQ.2 it (zd dE)).trans q⟩,fun b hb=>?_⟩
  ·have c:((i+1:Nat):Int)=(i:Int)+1 :=by push_cast;rfl
   rw [c]
   exact e2
  ·have l:b≠s.heap.objs.size :=by
    simp only [kw,FS,or_false] at hb
    rcases hb with rfl|rfl
    ·exact jp el
    ·obtain ⟨o,ho,_⟩:=hit.obj
     exact jp (hX ho)
   rw [af l]
   exact (hf b hb).1
 done :=by
  intro X hP hw hK hc i pins s σ H E I hf st hg
  subst hP hw hK
  obtain ⟨⟨old,he⟩,hit⟩:=st
  obtain ⟨xs,hq,hx⟩:=hg
  obtain ⟨its,rv,p⟩:=I.sq hq
  have hl:=rv.length
  exact Cd (I.ok.hd hc) he hit p (by simp;omega) fun h1 eb=>⟨rfl,I.yR (t':=s.toks) (ch:=[it]) (fun b o hb q=>eb b o (by simpa using hb) q) fun b hb=>hf b (by simp at hb;simp [hb])⟩
 self:=fun _ _ _ _ _ st h=>wpAny_pyIter_enum st.1.choose_spec h
abbrev Cg (a:ac):i4:={cls:=.type "tuple_iterator",data:=.fields #[.ref a,.int 0 0]}
abbrev Lw (it:ac):i4:={cls:=.type "enumerate",data:=.fields #[.none,.bool false,.ref it,rawInt 0,.none,.none]}
theorem HX (a:ac) (items:Array al) (n:Nat) (dct:Option ac) (sl:Array (Option al)) :
  Meets (u7.«enumerate.__new__» ⟨[.type "enumerate",.ref a],[]⟩) (fun _ R s=>s.heap.get? a=some {cls:=.type "tuple",dict:=dct,data:=.seq items n,slots:=sl} /\
   R (.ok (.ret (.ref (s.heap.push (Cg a)).objs.size))) {s with heap:=(s.heap.push (Cg a)).push (Lw s.heap.objs.size)}):=
 .of_wp fun prog w A R s h=>by
  obtain ⟨hp,g,d,tk,os⟩:=s
  obtain ⟨hl,h⟩:=h
  have k8:=sub_enumerate
  have hT:ge.IsTuple (ba.heap ⟨hp,g,d,tk,os⟩) a items:=⟨_,hl,rfl,n,rfl⟩
  wp_walk using Db hl
  refine wpAny_stack_any fun st=>bv ?_
  split
  case h_1 c _ _ _ _ _=>cases (c==AM "enumerate") <;> (wp_walk using Db hl,VX hT;exact ⟨_,rfl,h⟩)
  case h_2=>wp_walk using Db hl,VX hT;exact ⟨_,rfl,h⟩
section
variable {prog:ff} {w:ii} {A:ma} {E:al->ba->Prop} {s:ba}
theorem Ad {a:ac} {items:Array al} {Q:al->ba->Prop} (hT:s.heap.IsTuple a items)
  (h:∀h',Wg h' (s.heap.objs.size+1) s.heap.objs.size 0 .none->h'.IsTupleIter s.heap.objs.size a 0->(∀b o,s.heap.get? b=some o->h'.get? b=some o)->Q (.ref (s.heap.objs.size+1)) {s with heap:=h'}) :
  wpAny (model prog w) A (call (.type "enumerate") [.ref a]) Q E s :=by
 obtain ⟨ob,ho,hc,n,hd⟩:=hT
 obtain ⟨c,dd,dt,sl⟩:=ob
 dsimp only at hc hd
 subst hc hd
 refine callType_new F.called_enumerate (by decide) (F.typeCall_enumerate_1 _) (F.newCall_enumerate_1 _) (fun obj=>F.args_object_init_2 obj _) F.entry_enumerate_new (HX a items n dd sl) ⟨ho,?_⟩
 have z:(s.heap.push (Cg a)).objs.size=s.heap.objs.size+1:=CS ..
 have he:((s.heap.push (Cg a)).push (Lw s.heap.objs.size)).get? (s.heap.objs.size+1)=some (Lw s.heap.objs.size):=z▸f8 (s.heap.push (Cg a)) rfl
 show _/\_
 rw [z]
 exact ⟨⟨_,he,rfl⟩,h _ he ⟨_,cb _ (f8 _ rfl),rfl,rfl⟩ fun b o x=>cb _ (cb _ x)⟩
theorem Ci {k:Bool} {a:ac} {items:Array al} {Q:al->ba->Prop} (hT:pO k s.heap a items)
  (h:∀h',Wg h' (s.heap.objs.size+1) s.heap.objs.size 0 .none->gB k h' s.heap.objs.size a 0->(∀b o,s.heap.get? b=some o->h'.get? b=some o)->Q (.ref (s.heap.objs.size+1)) {s with heap:=h'}) :
  wpAny (model prog w) A (call (.type "enumerate") [.ref a]) Q E s :=by
 cases k with
 |true=>exact call_enumerate_list hT fun h' a b _ c=>h h' a b c
 |false=>exact Ad hT h
end
section
variable {X:Cx} {l:dL} {tl:TE} {elts:List dL} {x1:Nat} {tp p pos:wn}
def OG (k:Bool) (K:bi) (tl:TE):TI:=fun σ H R=>tl σ H fun x H1=>∃a,x=.ref a/\(∃xs,Sq k K H1 a xs)/\R (Gr k K a) H1
theorem HY (k:Bool) {K:bi} (hK:X.K=K) (hg:Gl X "enumerate") (hm:X.mg "enumerate" = none) (hl:PE X l tl) (hs:starEach [l] X.env=[(false,eval l X.env)] :=by rfl) :
  PI X (.Tuple elts x1 tp) (.Call (.Name "enumerate" p) [l] [] pos) (OG k K tl) :=by
 subst hK
 intro pins s σ H R I h
 refine Do (f6 I hg hm v3 ?_)
 refine AN ?_ hs rfl
 rw [hs]
 refine Nd (thn (hl pins s σ H _ I h) fun v s1 ⟨x,H1,I1,r1,q1⟩=>NO ?_)
 obtain ⟨a,rfl,⟨xs,hq⟩,q⟩:=q1
 cases (show v=li a from r1)
 obtain ⟨its,rv,sq⟩:=I1.sq hq
 refine Ci sq fun h' he hit kk=>?_
 refine wpAny_pyIter_enum he ?_
 have I2:Inv X pins σ H1 {s1 with heap:=h'}:=I1.kept (t':=s1.toks) kk
 have ne:s1.heap.objs.size+1≠s1.heap.objs.size:=OL (Cf _)
 refine ⟨_,[s1.heap.objs.size+1,s1.heap.objs.size],_,Gr k X.K a,H1,rfl,I2,Ce k a _ _ ne,⟨⟨_,he⟩,hit⟩,fun b hb=>?_,q⟩
 simp only [kw,FS,or_false] at hb
 rcases hb with rfl|rfl
 ·exact I1.lX (ET _) (I1.hok.fresh (ET _))
 ·exact I1.lX (cr _) (I1.hok.fresh (cr _))
end
def Gs (J:It) (ys:List (V×V)) (H:Hp):Prop:=∀i,(i<ys.length->J.go i H/\∀x H',J.yld i H x H'->∃t p,H t=none/\x=.ref t/\ys[i]?=some p/\H'=upd H t (.tup [p.1,p.2]))/\(ys.length<=i->J.stop i H)
theorem t8 {k:Bool} {K:bi} {a:ac} {ys:List V} {H:Hp} (h:Sq k K H a ys):Gs (Gr k K a) ((i0 ys.length).map fun i=>(V.int (i:Nat),ys.getD i .au)) H:=fun i=>by
 have el:((i0 ys.length).map fun i=>(V.int (i:Nat),ys.getD i .au)).length=ys.length :=by simp
 rw [el]
 refine ⟨fun hi=>⟨⟨ys,ys[i],h,ag hi⟩,fun x H' ⟨t,y,n,e1,e2,e3⟩=>⟨t,(.int (i:Nat),y),n,e1,?_,e2⟩⟩,fun hi=>⟨ys,h,hi⟩⟩
 rw [ce,xb hi]
 have:=e3 ys h
 show some (V.int (i:Nat),ys.getD i .au)=_
 rw [ci,this]
 rfl
end L2
namespace L2
open PySem PySem.Spec PyProof.Rows
section
variable {X:Cx} {st:r6} {ι:Type} {Pre:ι->St->Hp->Prop} {D:ι->Ends}
theorem mZ {P:ff} {w:ii} {K:bi} (hP:X.prog=P) (hw:X.w=w) (h:X.K=K) (hc:X.calm=true):cL X (.builtin "sorted") (yM P w K) :=by
 subst hP hw h
 exact vV hc
theorem PS.jd {st:r6} {t:TS} (h:PS X.jd st t):PS X st t:=⟨fun pins s σ H D I hw=>
 l7 (h pins s σ H D (I.iY _) hw) (fun _ _ q=>q.f7) fun _ _ z=>EU z⟩
end
section
variable {κ:Type} [DecidableEq κ]
def i7 (ao:List (κ×V)) (k:κ):Option V:=(ao.find? fun kv=>decide (kv.1=k)).map (·.2)
def putK (ao:List (κ×V)) (k:κ) (v:V):List (κ×V):=
 if (ao.any fun kv=>decide (kv.1=k))=true then ao.map (fun kv=>if kv.1=k then (kv.1,v) else kv) else ao++[(k,v)]
theorem mj {p:κ×V} {r:List (κ×V)} {k:κ} (e:p.1=k):i7 (p::r) k=some p.2 :=by simp [i7,Rs,e]
theorem mn {p:κ×V} {r:List (κ×V)} {k:κ} (e:¬ p.1=k):i7 (p::r) k=i7 r k :=by simp [i7,Rs,e]
theorem pP (k:κ):∀ao:List (κ×V),(ao.any fun kv=>decide (kv.1=k))=(i7 ao k).isSome
 | []=>rfl
 |p::r=>by
          rw [US]
          by_cases e:p.1=k
          ·simp only [mj e,decide_eq_true e,Bool.true_or,Option.isSome_some]
          ·rw [mn e,decide_eq_false e,Bool.false_or];exact pP k r
theorem la (ao:List (κ×V)) (k:κ) (v:V):(putK ao k v).length<=ao.length+1 :=by
 unfold putK
 split
 ·rw [c8];omega
 ·rw [ul,IN,VQ];omega
theorem jF.iQ {o:Option V} {u:Option al} (r:jF o u):o.isSome=u.isSome :=by
 cases o with
 |none=>cases u with
  |none=>rfl
  |some _=>exact (show False from r).elim
 |some _=>cases u with
  |none=>exact (show False from r).elim
  |some _=>rfl
theorem KV.val {ao:List (κ×V)} {vs:List (κ×al)} (r:KV ao vs) (k:κ):jF (i7 ao k) (valueAt vs k) :=by
 unfold KV at r
 induction r with
 |nil=>exact Lo
 | @cons p q ps qs h t ih=>
  obtain ⟨h1,h2⟩:=h
  by_cases e:p.1=k
  ·have e':q.1=k:=h1.symm.trans e
   have b:valueAt (q::qs) k=some q.2 :=by simp [valueAt,Rs,e']
   rw [mj e,b];exact h2
  ·have e':¬ q.1=k:=fun z=>e (h1.trans z)
   have b:valueAt (q::qs) k=valueAt qs k :=by simp [valueAt,Rs,e']
   rw [mn e,b];exact ih
theorem KV.any {ao:List (κ×V)} {vs:List (κ×al)} (r:KV ao vs) (k:κ):(ao.any fun kv=>decide (kv.1=k))=vs.any fun kv=>decide (kv.1=k) :=by
 unfold KV at r
 induction r with
 |nil=>rfl
 |cons h t ih=>rw [US,US,ih,h.1]
theorem KV.repl {ao:List (κ×V)} {vs:List (κ×al)} (r:KV ao vs) (k:κ) {y:V} {u:al} (ry:RelV y u) :
  KV (ao.map fun kv=>if kv.1=k then (kv.1,y) else kv) (vs.map fun kv=>if kv.1=k then (kv.1,u) else kv) :=by
 unfold KV at r ⊢
 induction r with
 |nil=>exact .nil
 | @cons p q ps qs h t ih=>
  rw [v6,v6]
  refine .cons ?_ ih
  obtain ⟨h1,h2⟩:=h
  by_cases e:p.1=k
  ·rw [if_pos e,if_pos (h1.symm.trans e)];exact ⟨h1,ry⟩
  ·rw [if_neg e,if_neg (fun z=>e (h1.trans z))];exact ⟨h1,h2⟩
theorem KV.put {ao:List (κ×V)} {vs:List (κ×al)} (r:KV ao vs) (k:κ) {y:V} {u:al} (ry:RelV y u):KV (putK ao k y) (stored vs k u) :=by
 unfold putK stored
 rw [r.any k]
 by_cases e:(vs.any fun kv=>decide (kv.1=k))=true
 ·rw [if_pos e,if_pos e];exact r.repl k ry
 ·rw [if_neg e,if_neg e];exact EN.snoc r ⟨rfl,ry⟩
theorem KV.length {ao:List (κ×V)} {vs:List (κ×al)} (r:KV ao vs):ao.length=vs.length:=UF r
end
theorem oF {P:ff} {w:ii} {k:Key} {u:al} (r:RelV (kV k) u):(bJ P w).is k u=true :=by
 cases k with
 |inl i=>obtain ⟨t,e⟩:=(show ∃t,u=WW i t from r);subst e;exact xJ P w i t
 |inr x=>obtain ⟨t,e⟩:=(show ∃t,u=Wp x t from r);subst e;exact xK P w x t
theorem t9 {P:ff} {w:ii}:∀{ks:List Key} {us:List al},Vals (ks.map kV) us->ItemsAre (bJ P w) ks us
 | [],_,r=>by rw [Tl] at r;cases r;exact .nil
 |k::ks,_,r=>by
          rw [v6] at r
          cases r with
          |cons h t=>exact .cons (oF h) (t9 t)
abbrev KT (H:Hp):List (List Key×V)->List (List Key×ac×al)->Prop:=EN fun p q=>p.1=q.1/\H q.2.1=some (.tup (p.1.map kV))/\RelV p.2 q.2.2
theorem KT.val {H:Hp} {ao:List (List Key×V)} {xs:List (List Key×ac×al)} (r:KT H ao xs) (k:List Key):jF (i7 ao k) ((atKey xs k).map (·.2)) :=by
 induction r with
 |nil=>exact Lo
 | @cons p q ps qs h t ih=>
  obtain ⟨h1,_,h2⟩:=h
  by_cases e:p.1=k
  ·have e':q.1=k:=h1.symm.trans e
   have b:atKey (q::qs) k=some q.2 :=by simp [atKey,Rs,e']
   rw [mj e,b];exact h2
  ·have e':¬ q.1=k:=fun z=>e (h1.trans z)
   have b:atKey (q::qs) k=atKey qs k :=by simp [atKey,Rs,e']
   rw [mn e,b];exact ih
theorem KT.repl {H:Hp} {ao:List (List Key×V)} {xs:List (List Key×ac×al)} (r:KT H ao xs) (k:List Key) {y:V} {u:al} (ry:RelV y u) :
  KT H (ao.map fun kv=>if kv.1=k then (kv.1,y) else kv) (xs.map (putAt k u)) :=by
 induction r with
 |nil=>exact .nil
 | @cons p q ps qs h t ih=>
  rw [v6,v6]
  refine .cons ?_ ih
  obtain ⟨h1,h2,h3⟩:=h
  unfold putAt
  by_cases e:p.1=k
  ·rw [if_pos e,if_pos (h1.symm.trans e)];exact ⟨h1,h2,ry⟩
  ·rw [if_neg e,if_neg (fun z=>e (h1.trans z))];exact ⟨h1,h2,h3⟩
theorem KT.put {H:Hp} {ao:List (List Key×V)} {xs:List (List Key×ac×al)} (r:KT H ao xs) (k:List Key) {b:ac} {y:V} {u:al} (hb:H b=some (.tup (k.map kV))) (ry:RelV y u) :
  KT H (putK ao k y) (storedH xs k b u) :=by
 have e:(ao.any fun kv=>decide (kv.1=k))=(atKey xs k).isSome :=by
  rw [pP,(r.val k).iQ,SO]
 unfold putK storedH
 rw [e]
 by_cases q:(atKey xs k).isSome=true
 ·rw [if_pos q,if_pos q];exact r.repl k ry
 ·rw [if_neg q,if_neg q];exact EN.snoc r ⟨rfl,hb,ry⟩
theorem KT.keeps {H H':Hp} {ao:List (List Key×V)} {xs:List (List Key×ac×al)} (r:KT H ao xs) (ht:∀b ys,H b=some (.tup ys)->H' b=some (.tup ys)):KT H' ao xs:=
 EN.DV r fun _ _ z=>⟨z.1,ht _ _ z.2.1,z.2.2⟩
section
variable {P:ff} {w:ii} {H:Hp} {h:ge} {a:ac}
theorem Gu {u:HO} (ok:cH P w H h) (e:Rd H a u):ObjOk P w H h a u:=e.ok ok
theorem oG {ao:List (Key×V)} (ok:cH P w H h) (e:Rd H a (.dK ao)):ao.length<=sizeLine/\(a==sysModules)=false/\∃vs,KV ao vs/\h.DictOf (bJ P w) a vs:=
 show ObjOk P w H h a (.dK ao) from Gu ok e
theorem Gv {ao:List (Key×V)} (ok:cH P w H h) (e:H a=some (.dK ao)):ao.length<=sizeLine/\(a==sysModules)=false/\∃vs,KV ao vs/\h.DictOf (bJ P w) a vs:=oG ok (.inl e)
theorem lC {ks:List Key} (ok:cH P w H h) (e:H a=some (.tup (ks.map kV))):(tupleKind (bJ P w)).is h ks a :=by
 obtain ⟨_,its,r,o,h1,h2,n,h3,_⟩:=(show ObjOk P w H h a (.tup (ks.map kV)) from ok a _ e)
 exact ⟨o,its.toArray,n,h1,h2,h3,by simpa using t9 r⟩
theorem rp {ao:List (List Key×V)} (ok:cH P w H h) (e:Rd H a (.dT ao)):ao.length<=sizeLine/\(a==sysModules)=false /\
  ∃xs,KT H ao xs/\h.DictOfH (tupleKind (bJ P w)) a xs :=by
 obtain ⟨z,y,xs,r,o,es,ep,h1,h2,h3,h4,h5⟩:=(show ObjOk P w H h a (.dT ao) from Gu ok e)
 refine ⟨z,y,xs,r,o,es,ep,h1,h2,h3,h4,fun x hx=>?_,h5⟩
 have all:∀{l:List (List Key×V)} {m:List (List Key×ac×al)},KT H l m->∀x∈m,(tupleKind (bJ P w)).is h x.1 x.2.1 :=by
  intro l m q
  induction q with
  |nil=>intro x hx;exact nomatch hx
  | @cons p q ps qs hq t ih=>
   intro x hx
   rcases kw.mp hx with e|hx
   ·subst e
    exact lC ok (by rw [<- hq.1];exact hq.2.1)
   ·exact ih x hx
 exact all r x hx
theorem Gw {ao:List (List Key×V)} (ok:cH P w H h) (e:H a=some (.dT ao)):ao.length<=sizeLine/\(a==sysModules)=false /\
  ∃xs,KT H ao xs/\h.DictOfH (tupleKind (bJ P w)) a xs:=rp ok (.inl e)
end
def pQ (H:Hp) (a:ac) (y:V) (r:Option V):Prop:=
 (∃ao k,Rd H a (.dK ao)/\y=kV k/\r=i7 ao k)\/∃ao k b,Rd H a (.dT ao)/\y=.ref b/\H b=some (.tup (k.map kV))/\r=i7 ao k
def Lx (H:Hp) (a:ac) (y v:V) (H':Hp):Prop:=
 (∃ao k,H a=some (.dK ao)/\y=kV k/\ao.length<sizeLine/\H'=upd H a (.dK (putK ao k v))) \/
 ∃ao k b,H a=some (.dT ao)/\y=.ref b/\H b=some (.tup (k.map kV))/\ao.length<sizeLine/\H'=upd H a (.dT (putK ao k v))
section
variable {X:Cx} {pins:List (ac×i4)} {σ:St} {H:Hp} {s:ba} {a:ac} {y v:V} {u r:al} {o:Option V} {A:ma} {E:al->ba->Prop}
theorem Inv.big (I:Inv X pins σ H s):sysModules<s.heap.objs.size :=by
 have h:mainGlobals<s.heap.objs.size:=(I.mod.glob.keeps I.bk).lt
 exact V0 (by decide) h
theorem Cj {Q:al->ba->Prop} (hu:A.units+1<cLine) (I:Inv X pins σ H s) (g:pQ H a y (some v)) (ry:RelV y u) (h:∀w' s',Inv X pins σ H s'->RelV v w'->Q w' s') :
  wpAny (model X.prog X.w) A (getItem (.ref a) u) Q E s :=by
 rcases g with ⟨ao,k,e,ey,l⟩|⟨ao,k,b,e,ey,eb,l⟩
 ·subst ey
  obtain ⟨z,hd,vs,rel,dd⟩:=oG I.hok e
  obtain ⟨w',hw,jI⟩:=jF.some_of (v:=v) (o:=valueAt vs k) (by rw [l];exact rel.val k)
  exact wpAny_getItem_of (oF ry) dd.mapOf hw (h w' _ (I.tok _) jI)
 ·subst ey
  cases (show u=li b from ry)
  obtain ⟨z,hd,xs,rel,dd⟩:=rp I.hok e
  obtain ⟨w',hw,jI⟩:=jF.some_of (v:=v) (o:=(atKey xs k).map (·.2)) (by rw [l];exact rel.val k)
  obtain ⟨p,hp,Ly⟩:=lc.mp hw
  refine wpAny_getItem_heap (V2 hu) (lC I.hok eb) dd hp ?_
  rw [Ly]
  exact h w' _ (I.tok _) jI
theorem RP {Q:al->ba->Prop} (hu:A.units+1<cLine) (I:Inv X pins σ H s) (g:pQ H a y o) (ry:RelV y u) (h:∀s',Inv X pins σ H s'->Q (.bool o.isSome) s') :
  wpAny (model X.prog X.w) A (compareOp .In u (.ref a)) Q E s :=by
 rcases g with ⟨ao,k,e,ey,l⟩|⟨ao,k,b,e,ey,eb,l⟩
 ·subst ey
  obtain ⟨z,hd,vs,rel,dd⟩:=oG I.hok e
  refine wpAny_in_of (oF ry) hd dd.mapOf ?_
  rw [<- (rel.val k).iQ,<- l]
  exact h _ (I.tok _)
 ·subst ey
  cases (show u=li b from ry)
  obtain ⟨z,hd,xs,rel,dd⟩:=rp I.hok e
  refine wpAny_in_heap (V2 hu) (lC I.hok eb) hd dd ?_
  have q:=(rel.val k).iQ
  rw [SO] at q
  rw [<- q,<- l]
  exact h _ (I.tok _)
theorem HZ {Q:al->ba->Prop} (hu:A.units+1<cLine) (I:Inv X pins σ H s) (g:pQ H a y o) (ry:RelV y u) (h:∀s',Inv X pins σ H s'->Q (.bool (!o.isSome)) s') :
  wpAny (model X.prog X.w) A (compareOp .NotIn u (.ref a)) Q E s :=by
 rcases g with ⟨ao,k,e,ey,l⟩|⟨ao,k,b,e,ey,eb,l⟩
 ·subst ey
  obtain ⟨z,hd,vs,rel,dd⟩:=oG I.hok e
  refine wpAny_notIn_of (oF ry) hd dd.mapOf ?_
  rw [<- (rel.val k).iQ,<- l]
  exact h _ (I.tok _)
 ·subst ey
  cases (show u=li b from ry)
  obtain ⟨z,hd,xs,rel,dd⟩:=rp I.hok e
  refine wpAny_notIn_heap (V2 hu) (lC I.hok eb) hd dd ?_
  have q:=(rel.val k).iQ
  rw [SO] at q
  rw [<- q,<- l]
  exact h _ (I.tok _)
theorem oH {h':ge} {t':Nat} {ob:HO} (I:Inv X pins σ H s) (mu:A1 (H a)) (hs:wS a s.heap h') (he:∃q,h'.get? a=some q) (new:ObjOk X.prog X.w (upd H a ob) h' a ob) :
  Inv X pins σ (upd H a ob) {s with heap:=h',toks:=t'}:=
 I.write (x:=a) (e:=a) mu (.inl rfl) (fun b q hb z=>(hs.2 b hb).trans z) he new
theorem Ck {P:ff} {w:ii} {H':Hp} {h':ge} {ao:List (Key×V)} {vs:List (Key×al)} (z:ao.length<=sizeLine) (hd:(a==sysModules)=false) (rel:KV ao vs) (dd:h'.DictOf (bJ P w) a vs) :
  ObjOk P w H' h' a (.dK ao):=⟨z,hd,vs,rel,dd⟩
theorem Cm {H':Hp} {Q:Unit->ba->Prop} (hu:A.units+1<cLine) (I:Inv X pins σ H s) (g:Lx H a y v H') (ry:RelV y u) (rv:RelV v r) (h:∀s',Inv X pins σ H' s'->Q () s') :
  wpAny (model X.prog X.w) A (setItem (.ref a) u r) Q E s :=by
 rcases g with ⟨ao,k,e,ey,l,eH⟩|⟨ao,k,b,e,ey,eb,l,eH⟩
 ·subst ey eH
  obtain ⟨z,hd,vs,rel,dd⟩:=Gv I.hok e
  have hz:vs.length<=sizeLine :=by rw [<- rel.length];exact z
  have hl:(putK ao k v).length<=sizeLine :=by have:=la ao k v;omega
  refine wpAny_setItem_pairs (hsz:=hz) (oF ry) dd fun h' rq hs=>h _ ?_
  have he:∃q,h'.get? a=some q:=let ⟨q,_,_,hq,_⟩:=rq;⟨q,hq⟩
  exact oH I (by rw [e];exact Lo) hs he (Ck hl hd (rel.put k rv) rq)
 ·subst ey eH
  cases (show u=li b from ry)
  obtain ⟨z,hd,xs,rel,dd⟩:=Gw I.hok e
  have hz:xs.length<=sizeLine :=by rw [<- UF rel];exact z
  have hl:(putK ao k v).length<=sizeLine :=by have:=la ao k v;omega
  refine wpAny_setItem_heap (hsz:=hz) (V2 hu) (lC I.hok eb) dd fun h' rq hs=>h _ ?_
  obtain ⟨q,es,ep,hq,h2,h3,h4,_,h5⟩:=rq
  refine oH I (by rw [e];exact Lo) hs ⟨q,hq⟩ ⟨hl,hd,_,(rel.put k eb rv).keeps fun c ys ec=>?_,q,es,ep,hq,h2,h3,h4,h5⟩
  rw [af (zx ec e (fun z=>nomatch z))]
  exact ec
end
section
variable {X:Cx} {pins:List (ac×i4)} {σ:St} {H:Hp} {s:ba} {a:ac} {ao:List (Key×V)} {k:Key} {u:al} {A:ma} {E:al->ba->Prop}
theorem OH {Q:al->ba->Prop} (I:Inv X pins σ H s) (e:Rd H a (.dK ao)) (h:∀t s',Inv X pins σ H s'->Q (.int ao.length t) s'):wpAny (model X.prog X.w) A (call (.builtin "len") [.ref a]) Q E s :=by
 obtain ⟨z,hd,vs,rel,dd⟩:=oG I.hok e
 refine call_len_dict hd dd (by rw [<- rel.length];rw [UV] at z;omega) ?_
 rw [<- rel.length]
 exact h _ _ (I.tok _)
end
def EI (i:dL):Prop:=∀ov iv,subscripted i false ov iv=operate [ov,iv] (getItem ov iv)
theorem Ia {prog:ff} {w:ii} {A:ma} {E:al->ba->Prop} {s:ba} {env:IR} {value slice:dL} {pos:wn} {T id:String} {Q:al->ba->Prop}
  (hl:typeLookup (.type T) "__getitem__" = pure (some (.builtin id))) (hs:EI slice)
  (h:wpAny (model prog w) A (eval value env) (fun o aw=>wpAny (model prog w) A (eval slice env) (fun i gz=>gz.TypeIs o T/\wpAny (model prog w) A (getItem o i) Q E gz) E aw) E s) :
  wpAny (model prog w) A (eval (.Subscript value slice pos) env) Q E s :=by
 refine Subscript_ (l7 h (fun o aw dU=>l7 dU (fun i gz EJ=>?_) fun _ _ x=>x) fun _ _ x=>x)
 obtain ⟨hT,EJ⟩:=EJ
 unfold subscriptTail
 refine ap ?_
 rw [getitemInPython_of_ne hT.not_modules]
 refine ap (WG hT hl ?_)
 have fin:wpAny (model prog w) A (subscripted slice false o i) (fun r iZ=>wpAny (model prog w) A (letTemporaryGo value o r>>=fun _=>pure r) Q E iZ) E gz :=by
  rw [hs o i]
  exact wpAny_operating (l7 EJ (fun r iZ RQ=>ap (wpAny_letTemporaryGo (bv RQ))) fun _ _ x=>x)
 first
  |exact bv (ap fin)
  |exact ap (bv (ap fin))
  |exact ap fin
theorem xW {X:Cx} {pins:List (ac×i4)} {σ:St} {H:Hp} {s:ba} {a:ac} {y:V} {o:Option V} (I:Inv X pins σ H s) (g:pQ H a y o):s.TypeIs (.ref a) "dict" := by
 rcases g with ⟨ao,k,e,_,_⟩|⟨ao,k,b,e,_,_,_⟩
 ·obtain ⟨_,_,vs,_,dd⟩:=oG I.hok e
  exact dd.typeIs
 ·obtain ⟨_,_,xs,_,dd⟩:=rp I.hok e
  exact dd.typeIs
def OI (td ty:TE):TE:=fun σ H Q=>td σ H fun x H1=>ty σ H1 fun y H2=>∃a v,x=.ref a/\pQ H2 a y (some v)/\Q v H2
def OJ (td ty tv:TE):TS:=fun D σ H=>tv σ H fun v H1=>td σ H1 fun x H2=>ty σ H2 fun y H3=>∃a H4,x=.ref a/\Lx H3 a y v H4/\D.nx σ H4
section
variable {X:Cx} {o i e value:dL} {pos pos' Vj:wn} {td ty tv:TE}
theorem Ib (hu:X.A.units+1<cLine) (ho:PE X o td) (hi:PE X i ty) (hs:EI i):PE X (.Subscript o i pos) (OI td ty) :=by
 refine ⟨?_⟩
 intro pins s σ H Q I h
 refine Ia PySem.F.slot_dict_getitem.lookup hs (thn (ho pins s σ H _ I h) fun u s1 ⟨x,H1,I1,rx,q1⟩=>thn (hi pins s1 σ H1 _ I1 q1) fun iv s2 ⟨y,H2,I2,ry,a,v,ex,g,q2⟩=>?_)
 subst ex
 obtain rfl:u=li a:=rx
 exact ⟨xW I2 g,Cj hu I2 g ry fun w' s3 I3 jI=>⟨v,H2,I3,jI,q2⟩⟩
theorem Ic (hu:X.A.units+1<cLine) (ho:PE X o td) (hi:PE X i ty) (hv:PE X value tv) (hs:swapsWith value (some (.Subscript o i pos')) pos.line X.env=pure false) :
  PS X (.Assign [.Subscript o i pos'] value pos) (OJ td ty tv) :=by
 refine ⟨?_⟩
 intro pins s σ H D I h
 refine wpAny_Assign_Subscript (thn (hv pins s σ H _ I h) fun r s1 ⟨v,H1,I1,rv,q1⟩=>thn (ho pins s1 σ H1 _ I1 q1) fun u s2 ⟨x,H2,I2,rx,q2⟩=>thn (hi pins s2 σ H2 _ I2 q2) fun iv s3 ⟨y,H3,I3,ry,a,H4,ex,g,q3⟩=>?_) hs
 subst ex
 obtain rfl:u=li a:=rx
 exact Cm hu I3 g ry rv fun s4 I4=>⟨σ,H4,I4,q3⟩
end
theorem EK {P:ff} {w:ii} {H:Hp} (h:ge) (hb:sysModules<h.objs.size):ObjOk P w H (h.push {cls:=.type "dict",data:=.dict #[]}) h.objs.size (.dK []):=
 ⟨sw _,beq_eq_false_iff_ne.mpr (zd (jp hb)),[],.nil,ge.DictOf.new h⟩
theorem EL {P:ff} {w:ii} {H:Hp} (h:ge) (hb:sysModules<h.objs.size):ObjOk P w H (h.push {cls:=.type "dict",data:=.dict #[]}) h.objs.size (.dT []):=
 ⟨sw _,beq_eq_false_iff_ne.mpr (zd (jp hb)),[],.nil,_,#[],0,f8 _ rfl,⟨rfl,rfl,rfl⟩,rfl,rfl,List.nodup_nil⟩
def v7:List (TE×TE)->St->Hp->(List (V×V)->Hp->Prop)->Prop
 | [],_,H,Q=>Q [] H
 |(tk,tv)::r,σ,H,Q=>tk σ H fun x H1=>tv σ H1 fun y H2=>v7 r σ H2 fun ps H3=>Q ((x,y)::ps) H3
abbrev VV:List (V×V)->List (al×al)->Prop:=EN fun p q=>RelV p.1 q.1/\RelV p.2 q.2
def PPs (X:Cx) (pos:wn) (keys:List (Option dL)) (values:List dL) (rA:List (TE×TE)):Prop:=
 ∀(pins:List (ac×i4)) (s:ba) (σ:St) (H:Hp) (Q:List (V×V)->Hp->Prop),Inv X pins σ H s->v7 rA σ H Q->
  wpAny (model X.prog X.w) X.A (evalPairs (pairTrees keys values X.env pos)) (fun vs s'=>∃ps H',Inv X pins σ H' s'/\VV ps vs/\Q ps H') X.xe s
theorem Ie {X:Cx} {pos:wn}:PPs X pos [] [] []:=fun pins s σ H Q I h=>pairTrees_nil_walk ⟨[],H,I,.nil,h⟩
theorem ER {X:Cx} {pos:wn} {k v:dL} {ks:List (Option dL)} {vs:List dL} {tk tv:TE} {rA:List (TE×TE)} (hk:PE X k tk) (hv:PE X v tv) (hr:PPs X pos ks vs rA) :
  PPs X pos (some k::ks) (v::vs) ((tk,tv)::rA):=fun pins s σ H Q I h=>
 pairTrees_cons_walk (thn (hk pins s σ H _ I h) fun u s1 ⟨x,H1,I1,rx,q1⟩=>thn (hv pins s1 σ H1 _ I1 q1) fun w2 s2 ⟨y,H2,I2,ry,q2⟩=>
  thn (hr pins s2 σ H2 _ I2 q2) fun ws s3 ⟨ps,H3,I3,rel,q3⟩=>⟨(x,y)::ps,H3,I3,.cons ⟨rx,ry⟩ rel,q3⟩)
def lD (ao more:List (Key×V)):List (Key×V):=more.foldl (fun acc kv=>putK acc kv.1 kv.2) ao
theorem KV.merge:∀{more:List (Key×V)} {rs:List (Key×al)} {ao:List (Key×V)} {vs:List (Key×al)},KV more rs->KV ao vs->KV (lD ao more) (merged vs rs) :=by
 intro more rs ao vs r
 unfold KV at r
 induction r generalizing ao vs with
 |nil=>intro q;exact q
 | @cons p q ps qs h t ih=>
  intro r0
  have e:KV (putK ao p.1 p.2) (stored vs q.1 q.2) :=by
   have:=r0.put p.1 h.2
   rw [<- h.1];exact this
  exact ih e
theorem m4:∀(more ao:List (Key×V)),(lD ao more).length<=ao.length+more.length
 | [],ao=>by show ao.length<=ao.length+0;omega
 |p::r,ao=>by
          have h1:=m4 r (putK ao p.1 p.2)
          have h2:=la ao p.1 p.2
          show (lD (putK ao p.1 p.2) r).length<=_
          rw [IN];omega
theorem rB {P:ff} {w:ii}:∀{ao:List (Key×V)} {ws:List (al×al)},VV (ao.map fun kv=>(kV kv.1,kv.2)) ws->∃rs,Carries (bJ P w) ws rs/\KV ao rs
 | [],_,r=>by rw [Tl] at r;cases r;exact ⟨[],Lo,.nil⟩
 |p::ao,_,r=>by
          rw [v6] at r
          cases r with
          | @cons a b as bs h t=>
           obtain ⟨rs,c,q⟩:=rB (P:=P) (w:=w) t
           obtain ⟨b1,b2⟩:=b
           exact ⟨(p.1,b2)::rs,⟨oF h.1,rfl,c⟩,.cons ⟨rfl,h.2⟩ q⟩
def OM (rA:List (TE×TE)):TE:=fun σ H Q=>∀p,H p=none->v7 rA σ (upd H p (.dK [])) fun ps H2=>H2 p=some (.dK [])/\∃ao:List (Key×V),ps=ao.map (fun kv=>(kV kv.1,kv.2))/\ao.length<=15/\Q (.ref p) (upd H2 p (.dK (lD [] ao)))
theorem Ig {X:Cx} {pos:wn} {keys:List (Option dL)} {values:List dL} {rA:List (TE×TE)} (h:PPs X pos keys values rA) (so:keys.all (·.isSome)=true) (hl:keys.length=values.length) (h0:keys≠[])
  (Tw:keys.length<=15):PE X (.Dict keys values pos) (OM rA) :=by
 refine ⟨?_⟩
 intro pins s σ H Q I q
 have hn:=I.hok.fresh (cr s.heap.objs.size)
 have I1:=I.laid (a:=s.heap.objs.size) (o:=.dK []) (h':=s.heap.push {cls:=.type "dict",data:=.dict #[]}) (t':=s.toks) (fun _ _ q=>cb _ q) (cr _) (EK s.heap I.big)
 refine wpAny_Dict_walk (knd:=bJ X.prog X.w) so hl h0 Tw (thn (h pins _ σ _ _ I1 (q _ hn)) fun ws s2 ⟨ps,H2,I2,rel,e,ao,ep,lk,q2⟩=>?_)
 subst ep
 obtain ⟨rs,c,rk⟩:=rB (P:=X.prog) (w:=X.w) rel
 obtain ⟨z,hd,Lz,r0,dd⟩:=Gv I2.hok e
 cases r0
 refine ⟨rs,c,dd,fun h' rq hs=>⟨.ref s.heap.objs.size,_,?_,rfl,q2⟩⟩
 have hz:(lD [] ao).length<=sizeLine :=by
  have h1:=m4 ao []
  rw [VQ] at h1
  rw [UV];omega
 have he:∃q,h'.get? s.heap.objs.size=some q:=let ⟨q,_,_,hq,_⟩:=rq;⟨q,hq⟩
 exact oH I2 (by rw [e];exact Lo) hs he (Ck hz hd (rk.merge .nil) rq)
structure M1 (X:Cx) (o:dL) (m:bn) (apos:wn) (e:dL) (bG:wn):Prop where
 base:attributeBase o m X.env (eval o X.env)=eval o X.env
 few:((backTo bG (starEach [e] X.env)).all (fun x => !x.1) && (backToKw bG (keywordEach [] X.env)).all (fun x=>x.1.isSome)
  && decide (([e]:List dL).length+([]:List V4).length+(if ([]:List V4).isEmpty then 0 else 1)<30))=true
 line:(apos.endLine==bG.line)=true
 trees:backTo bG (starEach [e] X.env)=[(false,eval e X.env)]
structure M2 (X:Cx) (o:dL) (m:bn) (apos:wn) (e f:dL) (bG:wn):Prop where
 base:attributeBase o m X.env (eval o X.env)=eval o X.env
 few:((backTo bG (starEach [e,f] X.env)).all (fun x => !x.1) && (backToKw bG (keywordEach [] X.env)).all (fun x=>x.1.isSome)
  && decide (([e,f]:List dL).length+([]:List V4).length+(if ([]:List V4).isEmpty then 0 else 1)<30))=true
 line:(apos.endLine==bG.line)=true
 trees:backTo bG (starEach [e,f] X.env)=[(false,eval e X.env),(false,eval f X.env)]
inductive Dv where
 |int (i:Int)|bl (b:Bool)|au|str (z:bn)|tup (xs:List Dv)|lst (xs:List Dv)|set (ns:List Int)|ptr (a:ac)|exc (C:ac)|bD (ns:List Int)|raw (v:V)|dk (ks:List Key) (ds:List Dv)|dt (ks:List (List Key)) (ds:List Dv)|bO (f:ac) (o:i4) (c:ac) (oc:i4) (vs:List V) (ds:List Dv)
inductive Mo where
 |lst (xs:List Dv)|dm|dk (ks:List Key) (ds:List Dv)|dt (ks:List (List Key)) (ds:List Dv)
abbrev Mh:=ac->Option Mo
structure cu where
 g:List ac
 l:List (ac×bn)
instance:Membership ac cu:=⟨fun t a=>a∈t.g⟩
def Gx:HO->Bool
 | .cO _=>true
 | .lam _=>true
 | .dK _=>true
 | .dT _=>true
 |_=>false
def Cp:HO->Bool
 | .cO _=>false
 |_=>true
def jW:HO->Bool
 | .dK _=>true
 | .dT _=>true
 |_=>false
theorem Rd.map {H H':Hp} {a:ac} {u:HO} (e:Rd H a u) (k:∀x,H a=some x->H' a=some x):Rd H' a u:=e.imp (k _) fun ⟨o,h⟩=>⟨o,k _ h⟩
theorem Rd.LA {H H':Hp} {a:ac} {u:HO} (e:Rd H a u) (hu:jW u=true) (k:∀x,Cp x=true->H a=some x->H' a=some x):Rd H' a u:=e.imp (k _ (by cases u <;> first|rfl|cases hu)) fun ⟨o,h⟩=>⟨o,k _ rfl h⟩
theorem Rd.there {H:Hp} {a:ac} {u:HO} (e:Rd H a u):∃x,H a=some x:=e.elim (fun h=>⟨_,h⟩) fun ⟨o,h⟩=>⟨_,h⟩
def Tg (o o':HO):Prop:=(∃ps gW:Array al,o=.cO ps/\o'=.cO gW/\Nl gW.toList)\/(∃ps gW:Array al,o=.lam ps/\o'=.lam gW)\/(jW o=true/\∃ob,o'=.bL ob o)
theorem Tg.trans {a b c:HO} (x:Tg a b) (y:Tg b c):Tg a c :=by
 rcases x with ⟨p,q,rfl,rfl,t⟩|⟨p,q,rfl,rfl⟩|⟨hd,ob,rfl⟩
 ·rcases y with ⟨p2,q2,e,rfl,t2⟩|⟨p2,q2,e,_⟩|⟨e,_⟩
  ·exact .inl ⟨p,q2,rfl,rfl,t2⟩
  ·cases e
  ·cases e
 ·rcases y with ⟨p2,q2,e,_⟩|⟨p2,q2,e,rfl⟩|⟨e,_⟩
  ·cases e
  ·exact .inr (.inl ⟨p,q2,rfl,rfl⟩)
  ·cases e
 ·rcases y with ⟨p2,q2,e,_⟩|⟨p2,q2,e,_⟩|⟨e,_⟩ <;> cases e
theorem Tg.tab {a b:HO} (x:Tg a b):Gx a=true :=by
 rcases x with ⟨p,q,rfl,rfl,_⟩|⟨p,q,rfl,rfl⟩|⟨hd,ob,rfl⟩
 ·rfl
 ·rfl
 ·cases a <;> first|rfl|cases hd
def RT (H:Hp) (q:bn) (cv:al):Prop:=∃(c:ac) (oc:i4) (u:HO) (vs:Array al) (t:W9),cv=li c/\H c=some (.bL oc u)/\oc.data=.fields vs/\vs[1]?=some (Wp q t)
def Lm (H:Hp) (p:ac×bn):Prop:=∃ps:Array al,H p.1=some (.lam ps)/\Nl ps.toList/\∀pos cv,codeAmong pos ps.toList=some cv->RT H p.2 cv
theorem Lm.keep {H H':Hp} {p:ac×bn} (h:Lm H p) (k1:∀ps,H p.1=some (.lam ps)->H' p.1=some (.lam ps)) (k2:∀c oc u,H c=some (.bL oc u)->H' c=some (.bL oc u)):Lm H' p :=by
 obtain ⟨ps,e,t,c⟩:=h
 refine ⟨ps,k1 _ e,t,fun pos cv q=>?_⟩
 obtain ⟨a,oc,u,vs,tk,e1,e2,r⟩:=c pos cv q
 exact ⟨a,oc,u,vs,tk,e1,k2 _ _ _ e2,r⟩
structure Bz where
 P:ff
 w:ii
 K:bi
 tb:cu
 hid:List ac
def Fz (β:Bz) (M:Mh) (a:ac):Prop:=M a=none/\a ∉ β.hid
def Kl (K:bi) (a:ac) (ns:List Int):Prop:=∃(o:i4) (its:Array al) (n:Nat),K.lookup a=some o/\o.cls=.type "list" /\ o.dict=none/\o.data=.seq its n/\its.size<=sizeLine/\Vals (ns.map V.int) its.toList
inductive Rz (β:Bz) (M:Mh) (H:Hp):V->Dv->Prop where
 |int (i:Int):Rz β M H (.int i) (.int i)
 |bl (b:Bool):Rz β M H (.bl b) (.bl b)
 |au:Rz β M H .au .au
 |str (z:bn):Rz β M H (.str z) (.str z)
 |tup {a:ac} {vs:List V} {ds:List Dv} (m:Fz β M a) (e:H a=some (.tup vs)) (hl:vs.length=ds.length) (h:∀(i:Nat) (v:V) (d:Dv),vs[i]?=some v->ds[i]?=some d->Rz β M H v d):Rz β M H (.ref a) (.tup ds)
 |lst {a:ac} {vs:List V} {ds:List Dv} (m:Fz β M a) (e:H a=some (.lst vs)) (hl:vs.length=ds.length) (h:∀(i:Nat) (v:V) (d:Dv),vs[i]?=some v->ds[i]?=some d->Rz β M H v d):Rz β M H (.ref a) (.lst ds)
 |set {a:ac} {ns:List Int} (m:Fz β M a) (e:H a=some (pL β.P β.w a ns)):Rz β M H (.ref a) (.set ns)
 |ptr {a:ac} (m:(M a).isSome=true):Rz β M H (.ref a) (.ptr a)
 |exc {a C:ac} (m:Fz β M a) (e:H a=some (pM C a)):Rz β M H (.ref a) (.exc C)
 |bD {a:ac} {o:i4} {ns:List Int} (m:Fz β M a) (e:H a=some (.bL o (.lst (ns.map V.int)))):Rz β M H (.ref a) (.bD ns)
 |cz {a:ac} {ns:List Int} (m:Fz β M a) (e:H a=some (.lst (ns.map V.int))):Rz β M H (.ref a) (.bD ns)
 |cA {a:ac} {ns:List Int} (e:Kl β.K a ns):Rz β M H (.ref a) (.bD ns)
 |raw (v:V):Rz β M H v (.raw v)
 |dk {a:ac} {ks:List Key} {vs:List V} {ds:List Dv} (m:Fz β M a) (e:Rd H a (.dK (ks.zip vs))) (hk:ks.length=vs.length) (hl:vs.length=ds.length) (h:∀(i:Nat) (v:V) (d:Dv),vs[i]?=some v->ds[i]?=some d->Rz β M H v d):Rz β M H (.ref a) (.dk ks ds)
 |dt {a:ac} {ks:List (List Key)} {vs:List V} {ds:List Dv} (m:Fz β M a) (e:Rd H a (.dT (ks.zip vs))) (hk:ks.length=vs.length) (hl:vs.length=ds.length) (h:∀(i:Nat) (v:V) (d:Dv),vs[i]?=some v->ds[i]?=some d->Rz β M H v d):Rz β M H (.ref a) (.dt ks ds)
 |bO {f c:ac} {o oc:i4} {u uc:HO} {vs:List V} {ds:List Dv} (m:Fz β M f) (e:H f=some (.bL o u)) (m2:Fz β M c) (e2:H c=some (.bL oc uc)) (hl:vs.length=ds.length) (h:∀(i:Nat) (v:V) (d:Dv),vs[i]?=some v->ds[i]?=some d->Rz β M H v d):Rz β M H (.ref f) (.bO f o c oc vs ds)
structure aG (β:Bz) (M:Mh) (H:Hp) (vs:List V) (ds:List Dv):Prop where
 len:vs.length=ds.length
 at':∀(i:Nat) (v:V) (d:Dv),vs[i]?=some v->ds[i]?=some d->Rz β M H v d
def iR (β:Bz) (M:Mh) (H:Hp) (a:ac):Mo->Prop
 | .lst ds=>∃vs,H a=some (.lst vs)/\aG β M H vs ds
 | .dm=>Oz H a
 | .dk ks ds=>∃vs,H a=some (.dK (ks.zip vs))/\ks.length=vs.length/\aG β M H vs ds
 | .dt ks ds=>∃vs,H a=some (.dT (ks.zip vs))/\ks.length=vs.length/\aG β M H vs ds
def nJ:HO->Bool
 | .lst _=>true
 | .set _ _=>true
 | .dK _=>true
 | .dT _=>true
 | .ext _=>true
 | .cO _=>true
 |_=>false
def Ae (H:Hp) (a:ac):Prop:=∃o,H a=some o/\nJ o=true
theorem Ae.upd {H:Hp} {a p:ac} {o:HO} (h:Ae H a) (d:H p=none\/nJ o=true):Ae (upd H p o) a :=by
 obtain ⟨u,e,n⟩:=h
 by_cases z:a=p
 ·subst z
  rcases d with d|d
  ·rw [e] at d;cases d
  ·exact ⟨o,ay,d⟩
 ·exact ⟨u,by rw [af z];exact e,n⟩
structure Mz (β:Bz) (M:Mh) (H:Hp):Prop where
 obj:∀a o,M a=some o->iR β M H a o
 tabs:Ge β.tb.g H
 hids:∀a∈β.hid,Ae H a
 apart:∀a o,M a=some o->a ∉ β.hid
 lams:∀p∈β.tb.l,Lm H p
structure Ey (M:Mh) (H:Hp) (M':Mh) (H':Hp):Prop where
 keep:∀b o,M b=none->H b=some o->H' b=some o\/∃o',Tg o o'/\H' b=some o'
 dom:∀a,(M a).isSome=true->(M' a).isSome=true
 new:∀a o,M a=none->H a=some o->M' a=none
structure Ex (β:Bz) (M:Mh) (H:Hp) (M':Mh) (H':Hp):Prop extends Ey M H M' H' where
 mz:Mz β M' H'
section
variable {β:Bz} {M M1 M2:Mh} {H H1 H2:Hp}
theorem Ey.refl:Ey M H M H:=⟨fun _ _ _ h=>.inl h,fun _ h=>h,fun _ _ h _=>h⟩
theorem Ex.refl (m:Mz β M H):Ex β M H M H:=⟨.refl,m⟩
theorem Ey.trans (x:Ey M H M1 H1) (y:Ey M1 H1 M2 H2):Ey M H M2 H2 :=by
 refine ⟨fun b o hm h=>?_,fun a h=>y.dom a (x.dom a h),fun a o hm h=>?_⟩
 ·have ly:=x.new b o hm h
  rcases x.keep b o hm h with q|⟨o1,t,q⟩
  ·exact y.keep b o ly q
  ·rcases y.keep b _ ly q with q2|⟨o2,t2,q2⟩
   ·exact .inr ⟨o1,t,q2⟩
   ·exact .inr ⟨o2,t.trans t2,q2⟩
 ·have ly:=x.new a o hm h
  rcases x.keep a o hm h with q|⟨o1,t,q⟩
  ·exact y.new a _ ly q
  ·exact y.new a _ ly q
theorem Ex.trans (x:Ex β M H M1 H1) (y:Ex β M1 H1 M2 H2):Ex β M H M2 H2:=⟨x.toEy.trans y.toEy,y.mz⟩
theorem Ey.get (x:Ey M H M1 H1) {b:ac} {o:HO} (m:M b=none) (h:H b=some o) (n:Gx o=false):H1 b=some o :=by
 rcases x.keep b o m h with q|⟨o',e,_⟩
 ·exact q
 ·rw [e.tab] at n;cases n
theorem Ey.rd (x:Ey M H M1 H1) {b:ac} {u:HO} (m:M b=none) (h:Rd H b u) (hu:jW u=true):Rd H1 b u :=by
 rcases h with h|⟨o,h⟩
 ·rcases x.keep b u m h with q|⟨o',t,q⟩
  ·exact .inl q
  ·rcases t with ⟨_,_,rfl,_⟩|⟨_,_,rfl,_⟩|⟨_,ob,rfl⟩
   ·cases hu
   ·cases hu
   ·exact .inr ⟨ob,q⟩
 ·exact .inr ⟨o,x.get m h rfl⟩
theorem Ey.gone (x:Ey M H M1 H1) {b:ac} (h:H1 b=none):M b=none->H b=none:=fun m=>by
 cases e:H b with
 |none=>rfl
 |some o=>
  rcases x.keep b o m e with q|⟨_,_,q⟩ <;> (rw [h] at q;cases q)
theorem Rz.ey (x:Ey M H M1 H1) {v:V} {d:Dv} (h:Rz β M H v d):Rz β M1 H1 v d :=by
 induction h with
 |int i=>exact .int i
 |bl b=>exact .bl b
 |au=>exact .au
 |str z=>exact .str z
 |tup m e hl h ih=>exact .tup ⟨x.new _ _ m.1 e,m.2⟩ (x.get m.1 e rfl) hl ih
 |lst m e hl h ih=>exact .lst ⟨x.new _ _ m.1 e,m.2⟩ (x.get m.1 e rfl) hl ih
 |dk m e hk hl h ih=>exact .dk ⟨x.new _ _ m.1 e.there.choose_spec,m.2⟩ (x.rd m.1 e rfl) hk hl ih
 |dt m e hk hl h ih=>exact .dt ⟨x.new _ _ m.1 e.there.choose_spec,m.2⟩ (x.rd m.1 e rfl) hk hl ih
 |bO m e m2 e2 hl h ih=>exact .bO ⟨x.new _ _ m.1 e,m.2⟩ (x.get m.1 e rfl) ⟨x.new _ _ m2.1 e2,m2.2⟩ (x.get m2.1 e2 rfl) hl ih
 |set m e=>exact .set ⟨x.new _ _ m.1 e,m.2⟩ (x.get m.1 e rfl)
 |ptr m=>exact .ptr (x.dom _ m)
 |exc m e=>exact .exc ⟨x.new _ _ m.1 e,m.2⟩ (x.get m.1 e rfl)
 |bD m e=>exact .bD ⟨x.new _ _ m.1 e,m.2⟩ (x.get m.1 e rfl)
 |cz m e=>exact .cz ⟨x.new _ _ m.1 e,m.2⟩ (x.get m.1 e rfl)
 |cA e=>exact .cA e
 |raw v=>exact .raw v
theorem Rz.ex (x:Ex β M H M1 H1) {v:V} {d:Dv} (h:Rz β M H v d):Rz β M1 H1 v d:=h.ey x.toEy
theorem aG.ex (x:Ex β M H M1 H1) {vs:List V} {ds:List Dv} (h:aG β M H vs ds):aG β M1 H1 vs ds:=⟨h.len,fun i v d a b=>(h.at' i v d a b).ex x⟩
theorem aG.nil:aG β M H [] []:=⟨rfl,fun i v d h=>by simp at h⟩
theorem aG.cons {v:V} {d:Dv} {vs:List V} {ds:List Dv} (h:Rz β M H v d) (t:aG β M H vs ds):aG β M H (v::vs) (d::ds):=⟨by simp [t.len],fun i x y a b=>by
 cases i with
 |zero=>simp at a b;subst a b;exact h
 |succ i=>rw [Go] at a b;exact t.at' i x y a b⟩
theorem aG.head {v:V} {d:Dv} {vs:List V} {ds:List Dv} (h:aG β M H (v::vs) (d::ds)):Rz β M H v d:=h.at' 0 v d rfl rfl
theorem aG.tail {v:V} {d:Dv} {vs:List V} {ds:List Dv} (h:aG β M H (v::vs) (d::ds)):aG β M H vs ds:=⟨by simpa using h.len,fun i x y a b=>h.at' (i+1) x y (by rw [Go];exact a) (by rw [Go];exact b)⟩
theorem aG.append {vs v8:List V} {ds ds':List Dv} (h:aG β M H vs ds) (t:aG β M H v8 ds'):aG β M H (vs++v8) (ds++ds'):=⟨by simp [h.len,t.len],fun i x y a b=>by
 rw [WJ] at a b
 rw [h.len] at a
 split at b
 ·rename_i z
  rw [if_pos z] at a
  exact h.at' i x y a b
 ·rename_i z
  rw [if_neg z] at a
  exact t.at' _ x y a b⟩
theorem aG.snoc {v:V} {d:Dv} {vs:List V} {ds:List Dv} (t:aG β M H vs ds) (h:Rz β M H v d):aG β M H (vs++[v]) (ds++[d]):=t.append (.cons h .nil)
theorem aG.get {vs:List V} {ds:List Dv} (h:aG β M H vs ds) {i:Nat} {d:Dv} (e:ds[i]?=some d):∃v,vs[i]?=some v/\Rz β M H v d :=by
 have hi:=(br.mp e).1
 have dA:i<vs.length :=by rw [h.len];exact hi
 exact ⟨vs[i],ag dA,h.at' i _ _ (ag dA) e⟩
theorem aG.get' {vs:List V} {ds:List Dv} (h:aG β M H vs ds) {i:Nat} {v:V} (e:vs[i]?=some v):∃d,ds[i]?=some d/\Rz β M H v d :=by
 have hi:=(br.mp e).1
 have dA:i<ds.length :=by rw [<- h.len];exact hi
 exact ⟨ds[i],ag dA,h.at' i _ _ e (ag dA)⟩
theorem aG.take {vs:List V} {ds:List Dv} (h:aG β M H vs ds) (n:Nat):aG β M H (vs.take n) (ds.take n):=⟨by simp [h.len],fun i x y a b=>by
 rw [List.getElem?_take] at a b
 split at a
 ·rename_i z;rw [if_pos z] at b;exact h.at' i x y a b
 ·cases a⟩
theorem aG.drop {vs:List V} {ds:List Dv} (h:aG β M H vs ds) (n:Nat):aG β M H (vs.drop n) (ds.drop n):=⟨by simp [h.len],fun i x y a b=>by
 rw [W2] at a b
 exact h.at' _ x y a b⟩
theorem aG.set {vs:List V} {ds:List Dv} (h:aG β M H vs ds) (n:Nat) {v:V} {d:Dv} (r:Rz β M H v d):aG β M H (vs.set n v) (ds.set n d):=⟨by simp [h.len],fun i x y a b=>by
 rw [LH] at a b
 rw [h.len] at a
 split at a
 ·rename_i z
  rw [if_pos z] at b
  split at a
  ·rename_i z2;rw [if_pos z2] at b;cases a;cases b;exact r
  ·cases a
 ·rename_i z;rw [if_neg z] at b;exact h.at' i x y a b⟩
theorem jX {a:ac} {vs:List V} {ds:List Dv} (m:Fz β M a) (e:H a=some (.tup vs)) (h:aG β M H vs ds):Rz β M H (.ref a) (.tup ds):=.tup m e h.len h.at'
theorem wa {a:ac} {vs:List V} {ds:List Dv} (m:Fz β M a) (e:H a=some (.lst vs)) (h:aG β M H vs ds):Rz β M H (.ref a) (.lst ds):=.lst m e h.len h.at'
theorem cw {v:V} {ds:List Dv} (h:Rz β M H v (.tup ds)):∃a vs,v=.ref a/\Fz β M a/\H a=some (.tup vs)/\aG β M H vs ds :=by
 cases h with
 |tup m e hl h=>exact ⟨_,_,rfl,m,e,hl,h⟩
theorem fA {v:V} {ds:List Dv} (h:Rz β M H v (.lst ds)):∃a vs,v=.ref a/\Fz β M a/\H a=some (.lst vs)/\aG β M H vs ds :=by
 cases h with
 |lst m e hl h=>exact ⟨_,_,rfl,m,e,hl,h⟩
theorem aL {v:V} {i:Int} (h:Rz β M H v (.int i)):v=.int i :=by cases h;rfl
theorem cY {v:V} {b:Bool} (h:Rz β M H v (.bl b)):v=.bl b :=by cases h;rfl
theorem de {v:V} {z:bn} (h:Rz β M H v (.str z)):v=.str z :=by cases h;rfl
theorem iS {v:V} (h:Rz β M H v .au):v=.au :=by cases h;rfl
theorem kO {v u:V} (h:Rz β M H v (.raw u)):v=u :=by cases h;rfl
theorem b7 {v:V} {a:ac} (h:Rz β M H v (.ptr a)):v=.ref a/\(M a).isSome=true :=by cases h with|ptr m=>exact ⟨rfl,m⟩
theorem ua {v:V} {ns:List Int} (h:Rz β M H v (.set ns)):∃a,v=.ref a/\Fz β M a/\H a=some (pL β.P β.w a ns) :=by cases h with|set m e=>exact ⟨_,rfl,m,e⟩
theorem nK {v:V} {C:ac} (h:Rz β M H v (.exc C)):∃a,v=.ref a/\Fz β M a/\H a=some (pM C a) :=by cases h with|exc m e=>exact ⟨_,rfl,m,e⟩
theorem ub {v:V} {ns:List Int} (h:Rz β M H v (.bD ns)):∃a,v=.ref a/\bF β.K H a (ns.map V.int) :=by
 cases h with
 |bD m e=>exact ⟨_,rfl,.inl (.inr ⟨_,e⟩)⟩
 |cz m e=>exact ⟨_,rfl,.inl (.inl e)⟩
 |cA e=>exact ⟨_,rfl,.inr e⟩
def pR:HO->Bool
 | .lst _=>true
 | .dK _=>true
 | .dT _=>true
 |_=>false
theorem Mz.own (m:Mz β M H) {a:ac} {o:Mo} (e:M a=some o):∃u,H a=some u/\pR u=true :=by
 have q:=m.obj a o e
 cases o with
 |lst ds=>obtain ⟨vs,q,_⟩:=q;exact ⟨_,q,rfl⟩
 |dk ks ds=>obtain ⟨vs,q,_⟩:=q;exact ⟨_,q,rfl⟩
 |dt ks ds=>obtain ⟨vs,q,_⟩:=q;exact ⟨_,q,rfl⟩
 |dm=>obtain ⟨_,_,q,_⟩:=q;exact ⟨_,q,rfl⟩
theorem Mz.lF (m:Mz β M H) {a:ac} {u:HO} (h:H a=some u) (n:pR u=false):M a=none :=by
 cases e:M a with
 |none=>rfl
 |some o=>obtain ⟨u',q,w⟩:=m.own e;rw [h] at q;cases q;rw [n] at w;cases w
theorem Mz.OO (m:Mz β M H) {p:ac} (hp:p∈β.tb):M p=none:=let ⟨_,h,_⟩:=m.tabs p hp;m.lF h rfl
theorem Mz.LC (m:Mz β M H) {p:ac×bn} (hp:p∈β.tb.l):M p.1=none:=let ⟨_,h,_⟩:=m.lams p hp;m.lF h rfl
theorem Mz.free (m:Mz β M H) {a:ac} (h:H a=none):M a=none :=by
 cases e:M a with
 |none=>rfl
 |some o=>obtain ⟨xs,q,_⟩:=m.own e;rw [h] at q;cases q
theorem Mz.fz (m:Mz β M H) {a:ac} (h:H a=none):Fz β M a:=⟨m.free h,fun z=>by
 obtain ⟨o,e,_⟩:=m.hids a z
 rw [h] at e
 cases e⟩
theorem EV {p a:ac} {o:HO} (h:∃u,H a=So u):∃u,upd H p o a=So u :=by
 unfold upd
 split
 ·exact ⟨_,rfl⟩
 ·exact h
theorem Ex.lay (m:Mz β M H) {p:ac} (h:H p=none) (o:HO):Ex β M H M (upd H p o) :=by
 have pre:∀b u,H b=some u->upd H p o b=some u:=fun b u q=>by rw [af (aZ q h)];exact q
 have rz:∀{v:V} {d:Dv},Rz β M H v d->Rz β M (upd H p o) v d:=fun r=>by
  induction r with
  |int i=>exact .int i
  |bl b=>exact .bl b
  |au=>exact .au
  |str z=>exact .str z
  |tup m e hl h ih=>exact .tup m (pre _ _ e) hl ih
  |lst m e hl h ih=>exact .lst m (pre _ _ e) hl ih
  |dk m e hk hl h ih=>exact .dk m (e.map fun _ h=>pre _ _ h) hk hl ih
  |dt m e hk hl h ih=>exact .dt m (e.map fun _ h=>pre _ _ h) hk hl ih
  |bO m e m2 e2 hl h ih=>exact .bO m (pre _ _ e) m2 (pre _ _ e2) hl ih
  |set m e=>exact .set m (pre _ _ e)
  |ptr m=>exact .ptr m
  |exc m e=>exact .exc m (pre _ _ e)
  |bD m e=>exact .bD m (pre _ _ e)
  |cz m e=>exact .cz m (pre _ _ e)
  |cA e=>exact .cA e
  |raw v=>exact .raw v
 refine ⟨⟨fun b u _ q=>.inl (pre b u q),fun _ h=>h,fun _ _ h _=>h⟩,fun a u e=>?_,fun q hq=>?_,fun a ha=>(m.hids a ha).upd (.inl h),m.apart,fun q hq=>(m.lams q hq).keep (fun _ e=>pre _ _ e) fun _ _ _ e=>pre _ _ e⟩
 ·have z:=m.obj a u e
  cases u with
  |lst ds=>obtain ⟨vs,z,l,r⟩:=z;exact ⟨vs,pre _ _ z,l,fun i v d a b=>rz (r i v d a b)⟩
  |dk ks ds=>obtain ⟨vs,z,hk,l,r⟩:=z;exact ⟨vs,pre _ _ z,hk,l,fun i v d a b=>rz (r i v d a b)⟩
  |dt ks ds=>obtain ⟨vs,z,hk,l,r⟩:=z;exact ⟨vs,pre _ _ z,hk,l,fun i v d a b=>rz (r i v d a b)⟩
  |dm=>obtain ⟨c,n,z,r⟩:=z;exact ⟨c,n,pre _ _ z,r⟩
 ·obtain ⟨ps,e,t⟩:=m.tabs q hq
  exact ⟨ps,pre _ _ e,t⟩
theorem Ex.grow (m:Mz β M H) {p:ac} (hp:p∈β.tb) {ps:Array al} (t:Nl ps.toList):Ex β M H M (upd H p (.cO ps)) :=by
 obtain ⟨Tx,Qn,t0⟩:=m.tabs p hp
 have pre:∀b u,H b=some u->Cp u=true->upd H p (.cO ps) b=some u:=fun b u q n=>by
  have:b≠p:=fun z=>by subst z;rw [Qn] at q;cases q;cases n
  rw [af this];exact q
 have rz:∀{v:V} {d:Dv},Rz β M H v d->Rz β M (upd H p (.cO ps)) v d:=fun r=>by
  induction r with
  |int i=>exact .int i
  |bl b=>exact .bl b
  |au=>exact .au
  |str z=>exact .str z
  |tup m e hl h ih=>exact .tup m (pre _ _ e rfl) hl ih
  |lst m e hl h ih=>exact .lst m (pre _ _ e rfl) hl ih
  |dk m e hk hl h ih=>exact .dk m (e.LA rfl fun x hx h=>pre _ _ h hx) hk hl ih
  |dt m e hk hl h ih=>exact .dt m (e.LA rfl fun x hx h=>pre _ _ h hx) hk hl ih
  |bO m e m2 e2 hl h ih=>exact .bO m (pre _ _ e rfl) m2 (pre _ _ e2 rfl) hl ih
  |set m e=>exact .set m (pre _ _ e rfl)
  |ptr m=>exact .ptr m
  |exc m e=>exact .exc m (pre _ _ e rfl)
  |bD m e=>exact .bD m (pre _ _ e rfl)
  |cz m e=>exact .cz m (pre _ _ e rfl)
  |cA e=>exact .cA e
  |raw v=>exact .raw v
 refine ⟨⟨fun b u _ q=>?_,fun _ h=>h,fun _ _ h _=>h⟩,fun a u e=>?_,fun q hq=>?_,fun a ha=>(m.hids a ha).upd (.inr rfl),m.apart,fun q hq=>(m.lams q hq).keep (fun _ e=>pre _ _ e rfl) fun _ _ _ e=>pre _ _ e rfl⟩
 ·by_cases e:b=p
  ·subst e
   rw [Qn] at q
   cases q
   exact .inr ⟨_,.inl ⟨Tx,ps,rfl,rfl,t⟩,ay⟩
  ·exact .inl (by rw [af e];exact q)
 ·have z:=m.obj a u e
  cases u with
  |lst ds=>obtain ⟨vs,z,l,r⟩:=z;exact ⟨vs,pre _ _ z rfl,l,fun i v d a b=>rz (r i v d a b)⟩
  |dk ks ds=>obtain ⟨vs,z,hk,l,r⟩:=z;exact ⟨vs,pre _ _ z rfl,hk,l,fun i v d a b=>rz (r i v d a b)⟩
  |dt ks ds=>obtain ⟨vs,z,hk,l,r⟩:=z;exact ⟨vs,pre _ _ z rfl,hk,l,fun i v d a b=>rz (r i v d a b)⟩
  |dm=>obtain ⟨c,n,z,r⟩:=z;exact ⟨c,n,pre _ _ z rfl,r⟩
 ·by_cases e:q=p
  ·subst e;exact ⟨ps,ay,t⟩
  ·obtain ⟨p2,e2,t2⟩:=m.tabs q hq
   exact ⟨p2,by rw [af e];exact e2,t2⟩
def aA (M:Mh) (a:ac) (o:Mo):Mh:=fun b=>if b=a then So o else M b
theorem updM_same {a:ac} {o:Mo}:aA M a o a=So o :=by unfold aA;rw [if_pos rfl]
theorem ah {a b:ac} {o:Mo} (h:b≠a):aA M a o b=M b :=by unfold aA;rw [if_neg h]
theorem updM_updM {a:ac} {o u:Mo}:aA (aA M a o) a u=aA M a u :=by funext b;unfold aA;split <;> rfl
theorem lH {p:ac} {o:Mo} {u:HO} (hp:(M p).isSome=true\/H p=none) {v:V} {d:Dv} (h:Rz β M H v d):Rz β (aA M p o) (upd H p u) v d :=by
 have ne:∀a x,M a=none->H a=So x->a≠p:=fun a x m e z=>by
  subst z
  rcases hp with q|q
  ·rw [m] at q;cases q
  ·rw [q] at e;cases e
 induction h with
 |int i=>exact .int i
 |bl b=>exact .bl b
 |au=>exact .au
 |str z=>exact .str z
 |tup m e hl h ih=>have n:=ne _ _ m.1 e;exact .tup ⟨by rw [ah n];exact m.1,m.2⟩ (by rw [af n];exact e) hl ih
 |lst m e hl h ih=>have n:=ne _ _ m.1 e;exact .lst ⟨by rw [ah n];exact m.1,m.2⟩ (by rw [af n];exact e) hl ih
 |dk m e hk hl h ih=>have n:=ne _ _ m.1 e.there.choose_spec;exact .dk ⟨by rw [ah n];exact m.1,m.2⟩ (e.map fun _ h=>by rw [af n];exact h) hk hl ih
 |dt m e hk hl h ih=>have n:=ne _ _ m.1 e.there.choose_spec;exact .dt ⟨by rw [ah n];exact m.1,m.2⟩ (e.map fun _ h=>by rw [af n];exact h) hk hl ih
 |bO m e m2 e2 hl h ih=>have n:=ne _ _ m.1 e;have n2:=ne _ _ m2.1 e2;exact .bO ⟨by rw [ah n];exact m.1,m.2⟩ (by rw [af n];exact e) ⟨by rw [ah n2];exact m2.1,m2.2⟩ (by rw [af n2];exact e2) hl ih
 |set m e=>have n:=ne _ _ m.1 e;exact .set ⟨by rw [ah n];exact m.1,m.2⟩ (by rw [af n];exact e)
 |ptr m=>
  refine .ptr ?_
  unfold aA
  split
  ·rfl
  ·exact m
 |exc m e=>have n:=ne _ _ m.1 e;exact .exc ⟨by rw [ah n];exact m.1,m.2⟩ (by rw [af n];exact e)
 |bD m e=>have n:=ne _ _ m.1 e;exact .bD ⟨by rw [ah n];exact m.1,m.2⟩ (by rw [af n];exact e)
 |cz m e=>have n:=ne _ _ m.1 e;exact .cz ⟨by rw [ah n];exact m.1,m.2⟩ (by rw [af n];exact e)
 |cA e=>exact .cA e
 |raw v=>exact .raw v
theorem iR.upd {p:ac} {o':Mo} {u:HO} (hp:(M p).isSome=true\/H p=none) {a:ac} {o:Mo} (ha:a≠p) (z:iR β M H a o):iR β (aA M p o') (L2.upd H p u) a o :=by
 cases o with
 |lst ds=>obtain ⟨vs,z,l,r⟩:=z;exact ⟨vs,by rw [af ha];exact z,l,fun i v d a b=>lH hp (r i v d a b)⟩
 |dk ks ds=>obtain ⟨vs,z,hk,l,r⟩:=z;exact ⟨vs,by rw [af ha];exact z,hk,l,fun i v d a b=>lH hp (r i v d a b)⟩
 |dt ks ds=>obtain ⟨vs,z,hk,l,r⟩:=z;exact ⟨vs,by rw [af ha];exact z,hk,l,fun i v d a b=>lH hp (r i v d a b)⟩
 |dm=>obtain ⟨c,n,z,r⟩:=z;exact ⟨c,n,by rw [af ha];exact z,r⟩
theorem Ex.pR (m:Mz β M H) {p:ac} {u:HO} {o':Mo} (hp:(M p).isSome=true\/H p=none) (hu:nJ u=true) (r:iR β (aA M p o') (upd H p u) p o'):Ex β M H (aA M p o') (upd H p u) :=by
 have ne:∀a x,M a=none->H a=So x->a≠p:=fun a x m e z=>by
  subst z
  rcases hp with q|q
  ·rw [m] at q;cases q
  ·rw [q] at e;cases e
 refine ⟨⟨fun b u hm q=>.inl ?_,fun a h=>?_,fun a o hm h=>?_⟩,fun a o e=>?_,fun q hq=>?_,fun a ha=>(m.hids a ha).upd (.inr hu),fun a o e z=>?_,fun q hq=>?_⟩
 ·rw [af (ne b _ hm q)];exact q
 ·unfold aA
  split
  ·rfl
  ·exact h
 ·rw [ah (ne a _ hm h)];exact hm
 ·by_cases ha:a=p
  ·subst ha
   rw [updM_same] at e
   cases e
   exact r
  ·rw [ah ha] at e
   exact (m.obj a o e).upd hp ha
 ·obtain ⟨ps,e,t⟩:=m.tabs q hq
  exact ⟨ps,by rw [af (ne q _ (m.OO hq) e)];exact e,t⟩
 ·by_cases ha:a=p
  ·subst ha
   rcases hp with h|h
   ·cases q:M a with
    |none=>rw [q] at h;cases h
    |some u=>exact m.apart a u q z
   ·obtain ⟨u,hu,_⟩:=m.hids a z
    rw [h] at hu
    cases hu
  ·rw [ah ha] at e
   exact m.apart a o e z
 ·exact (m.lams q hq).keep (fun _ e=>by rw [af (ne q.1 _ (m.LC hq) e)];exact e) fun c _ _ e=>by rw [af (ne c _ (m.lF e rfl) e)];exact e
theorem Ex.own (m:Mz β M H) {p:ac} {vs:List V} {ds:List Dv} (hp:(M p).isSome=true\/H p=none) (r:aG β M H vs ds):Ex β M H (aA M p (.lst ds)) (upd H p (.lst vs)):=
 Ex.pR m hp rfl ⟨vs,ay,r.len,fun i v d a b=>lH hp (r.at' i v d a b)⟩
theorem Ex.RU (m:Mz β M H) {p:ac} {ks:List Key} {vs:List V} {ds:List Dv} (hp:(M p).isSome=true\/H p=none) (hk:ks.length=vs.length) (r:aG β M H vs ds):Ex β M H (aA M p (.dk ks ds)) (upd H p (.dK (ks.zip vs))):=
 Ex.pR m hp rfl ⟨vs,ay,hk,r.len,fun i v d a b=>lH hp (r.at' i v d a b)⟩
theorem Ex.RV (m:Mz β M H) {p:ac} {ks:List (List Key)} {vs:List V} {ds:List Dv} (hp:(M p).isSome=true\/H p=none) (hk:ks.length=vs.length) (r:aG β M H vs ds):Ex β M H (aA M p (.dt ks ds)) (upd H p (.dT (ks.zip vs))):=
 Ex.pR m hp rfl ⟨vs,ay,hk,r.len,fun i v d a b=>lH hp (r.at' i v d a b)⟩
abbrev Bz.add (β:Bz) (D:ac):Bz:={β with hid:=D::β.hid}
theorem Rz.enter {D:ac} {o:HO} (hD:H D=none) {v:V} {d:Dv} (h:Rz β M H v d):Rz (β.add D) M (upd H D o) v d :=by
 have ne:∀a x,Fz β M a->H a=some x->Fz (β.add D) M a:=fun a x m e=>⟨m.1,by
  intro z
  rcases kw.mp z with z|z
  ·subst z;rw [hD] at e;cases e
  ·exact m.2 z⟩
 have pre:∀a x,H a=some x->upd H D o a=some x:=fun a x e=>by rw [af (aZ e hD)];exact e
 induction h with
 |int i=>exact .int i
 |bl b=>exact .bl b
 |au=>exact .au
 |str z=>exact .str z
 |tup m e hl h ih=>exact .tup (ne _ _ m e) (pre _ _ e) hl ih
 |lst m e hl h ih=>exact .lst (ne _ _ m e) (pre _ _ e) hl ih
 |dk m e hk hl h ih=>exact .dk (ne _ _ m e.there.choose_spec) (e.map fun _ h=>pre _ _ h) hk hl ih
 |dt m e hk hl h ih=>exact .dt (ne _ _ m e.there.choose_spec) (e.map fun _ h=>pre _ _ h) hk hl ih
 |bO m e m2 e2 hl h ih=>exact .bO (ne _ _ m e) (pre _ _ e) (ne _ _ m2 e2) (pre _ _ e2) hl ih
 |set m e=>exact .set (ne _ _ m e) (pre _ _ e)
 |ptr m=>exact .ptr m
 |exc m e=>exact .exc (ne _ _ m e) (pre _ _ e)
 |bD m e=>exact .bD (ne _ _ m e) (pre _ _ e)
 |cz m e=>exact .cz (ne _ _ m e) (pre _ _ e)
 |cA e=>exact .cA e
 |raw v=>exact .raw v
theorem Rz.sub {cQ:Bz} (hP:cQ.P=β.P) (hw:cQ.w=β.w) (hK:cQ.K=β.K) (hs:∀a,a∈cQ.hid->a∈β.hid) {v:V} {d:Dv} (h:Rz β M H v d):Rz cQ M H v d :=by
 have ne:∀a,Fz β M a->Fz cQ M a:=fun a m=>⟨m.1,fun z=>m.2 (hs a z)⟩
 induction h with
 |int i=>exact .int i
 |bl b=>exact .bl b
 |au=>exact .au
 |str z=>exact .str z
 |tup m e hl h ih=>exact .tup (ne _ m) e hl ih
 |lst m e hl h ih=>exact .lst (ne _ m) e hl ih
 |dk m e hk hl h ih=>exact .dk (ne _ m) e hk hl ih
 |dt m e hk hl h ih=>exact .dt (ne _ m) e hk hl ih
 |bO m e m2 e2 hl h ih=>exact .bO (ne _ m) e (ne _ m2) e2 hl ih
 |set m e=>exact .set (ne _ m) (by rw [hP,hw];exact e)
 |ptr m=>exact .ptr m
 |exc m e=>exact .exc (ne _ m) e
 |bD m e=>exact .bD (ne _ m) e
 |cz m e=>exact .cz (ne _ m) e
 |cA e=>exact .cA (by rw [hK];exact e)
 |raw v=>exact .raw v
theorem Mz.sub {cQ:Bz} (hP:cQ.P=β.P) (hw:cQ.w=β.w) (hK:cQ.K=β.K) (ht:cQ.tb=β.tb) (hs:∀a,a∈cQ.hid->a∈β.hid) (m:Mz β M H):Mz cQ M H:=⟨fun a o e=>by
 have z:=m.obj a o e
 cases o with
 |lst ds=>obtain ⟨vs,z,l,r⟩:=z;exact ⟨vs,z,l,fun i v d a b=>(r i v d a b).sub hP hw hK hs⟩
 |dk ks ds=>obtain ⟨vs,z,hk,l,r⟩:=z;exact ⟨vs,z,hk,l,fun i v d a b=>(r i v d a b).sub hP hw hK hs⟩
 |dt ks ds=>obtain ⟨vs,z,hk,l,r⟩:=z;exact ⟨vs,z,hk,l,fun i v d a b=>(r i v d a b).sub hP hw hK hs⟩
 |dm=>exact z,by rw [ht];exact m.tabs,fun a ha=>m.hids a (hs a ha),fun a o e z=>m.apart a o e (hs a z),by rw [ht];exact m.lams⟩
theorem Mz.enter {D:ac} {o:HO} (hD:H D=none) (ho:nJ o=true) (m:Mz β M H):Mz (β.add D) M (upd H D o):=⟨fun a u e=>by
 have pre:∀a x,H a=So x->upd H D o a=So x:=fun a x e=>by rw [af (aZ e hD)];exact e
 have z:=m.obj a u e
 cases u with
 |lst ds=>obtain ⟨vs,z,l,r⟩:=z;exact ⟨vs,pre _ _ z,l,fun i v d a b=>(r i v d a b).enter hD⟩
 |dk ks ds=>obtain ⟨vs,z,hk,l,r⟩:=z;exact ⟨vs,pre _ _ z,hk,l,fun i v d a b=>(r i v d a b).enter hD⟩
 |dt ks ds=>obtain ⟨vs,z,hk,l,r⟩:=z;exact ⟨vs,pre _ _ z,hk,l,fun i v d a b=>(r i v d a b).enter hD⟩
 |dm=>obtain ⟨c,n,z,r⟩:=z;exact ⟨c,n,pre _ _ z,r⟩,fun p hp=>by
 obtain ⟨ps,e,t⟩:=m.tabs p hp
 exact ⟨ps,by rw [af (aZ e hD)];exact e,t⟩,fun a ha=>by
 rcases kw.mp ha with z|z
 ·subst z;exact ⟨_,ay,ho⟩
 ·exact (m.hids a z).upd (.inl hD),fun a o e ha=>by
 rcases kw.mp ha with z|z
 ·subst z;rw [m.free hD] at e;cases e
 ·exact m.apart a o e z,fun q hq=>(m.lams q hq).keep (fun _ e=>by rw [af (aZ e hD)];exact e) fun _ _ _ e=>by rw [af (aZ e hD)];exact e⟩
theorem Rz.over {D:ac} {o:HO} (hD:D∈β.hid) {v:V} {d:Dv} (h:Rz β M H v d):Rz β M (upd H D o) v d :=by
 have pre:∀a x,Fz β M a->H a=some x->upd H D o a=some x:=fun a x m e=>by
  have n:a≠D:=fun z=>by subst z;exact m.2 hD
  rw [af n];exact e
 induction h with
 |int i=>exact .int i
 |bl b=>exact .bl b
 |au=>exact .au
 |str z=>exact .str z
 |tup m e hl h ih=>exact .tup m (pre _ _ m e) hl ih
 |lst m e hl h ih=>exact .lst m (pre _ _ m e) hl ih
 |dk m e hk hl h ih=>exact .dk m (e.map fun _ h=>pre _ _ m h) hk hl ih
 |dt m e hk hl h ih=>exact .dt m (e.map fun _ h=>pre _ _ m h) hk hl ih
 |bO m e m2 e2 hl h ih=>exact .bO m (pre _ _ m e) m2 (pre _ _ m2 e2) hl ih
 |set m e=>exact .set m (pre _ _ m e)
 |ptr m=>exact .ptr m
 |exc m e=>exact .exc m (pre _ _ m e)
 |bD m e=>exact .bD m (pre _ _ m e)
 |cz m e=>exact .cz m (pre _ _ m e)
 |cA e=>exact .cA e
 |raw v=>exact .raw v
theorem Mz.over {D:ac} {o:HO} (hD:D∈β.hid) (ho:nJ o=true) (hM:M D=none) (ht:D ∉ β.tb) (m:Mz β M H):Mz β M (upd H D o):=⟨fun a u e=>by
 have na:a≠D:=fun z=>by subst z;rw [hM] at e;cases e
 have z:=m.obj a u e
 cases u with
 |lst ds=>obtain ⟨vs,z,l,r⟩:=z;exact ⟨vs,by rw [af na];exact z,l,fun i v d a b=>(r i v d a b).over hD⟩
 |dk ks ds=>obtain ⟨vs,z,hk,l,r⟩:=z;exact ⟨vs,by rw [af na];exact z,hk,l,fun i v d a b=>(r i v d a b).over hD⟩
 |dt ks ds=>obtain ⟨vs,z,hk,l,r⟩:=z;exact ⟨vs,by rw [af na];exact z,hk,l,fun i v d a b=>(r i v d a b).over hD⟩
 |dm=>obtain ⟨c,n,z,r⟩:=z;exact ⟨c,n,by rw [af na];exact z,r⟩,fun p hp=>by
 obtain ⟨ps,e,t⟩:=m.tabs p hp
 have n:p≠D:=fun z=>by subst z;exact ht hp
 exact ⟨ps,by rw [af n];exact e,t⟩,fun a ha=>(m.hids a ha).upd (.inr ho),m.apart,fun q hq=>by
 obtain ⟨o',e',n⟩:=m.hids D hD
 exact (m.lams q hq).keep (fun _ e=>by rw [af (fun z=>by subst z;rw [e'] at e;cases e;cases n)];exact e) fun c _ _ e=>by rw [af (fun z=>by subst z;rw [e'] at e;cases e;cases n)];exact e⟩
theorem Ey.over {D:ac} {o:HO} (x:Ey M H M1 H1) (hD:H D=none):Ey M H M1 (upd H1 D o):=⟨fun b u m h=>by
 have nb:b≠D:=aZ h hD
 rw [af nb]
 exact x.keep b u m h,x.dom,x.new⟩
theorem Mz.EW {D:ac} (m:Mz β M H) (hD:H D=none):D ∉ β.tb:=fun z=>by
 obtain ⟨_,e,_⟩:=m.tabs D z
 rw [hD] at e
 cases e
structure Bx (β cQ:Bz) (H:Hp):Prop where
 P:cQ.P=β.P
 w:cQ.w=β.w
 K:cQ.K=β.K
 tb:cQ.tb=β.tb
 old:∀a,a∈β.hid->a∈cQ.hid
 new:∀a,a∈cQ.hid->a∈β.hid\/H a=none
theorem Bx.refl:Bx β β H:=⟨rfl,rfl,rfl,rfl,fun _ h=>h,fun _ h=>.inl h⟩
theorem Bx.add {D:ac} (hD:H D=none):Bx β (β.add D) H:=⟨rfl,rfl,rfl,rfl,fun _ h=>im _ h,fun a h=>by
 rcases kw.mp h with z|z
 ·exact .inr (z▸hD)
 ·exact .inl z⟩
theorem Rz.bx {cQ:Bz} (b:Bx β cQ H) {v:V} {d:Dv} (h:Rz β M H v d):Rz cQ M H v d :=by
 have ne:∀a x,Fz β M a->H a=some x->Fz cQ M a:=fun a x m e=>⟨m.1,fun z=>by
  rcases b.new a z with q|q
  ·exact m.2 q
  ·rw [q] at e;cases e⟩
 induction h with
 |int i=>exact .int i
 |bl b=>exact .bl b
 |au=>exact .au
 |str z=>exact .str z
 |tup m e hl h ih=>exact .tup (ne _ _ m e) e hl ih
 |lst m e hl h ih=>exact .lst (ne _ _ m e) e hl ih
 |dk m e hk hl h ih=>exact .dk (ne _ _ m e.there.choose_spec) e hk hl ih
 |dt m e hk hl h ih=>exact .dt (ne _ _ m e.there.choose_spec) e hk hl ih
 |bO m e m2 e2 hl h ih=>exact .bO (ne _ _ m e) e (ne _ _ m2 e2) e2 hl ih
 |set m e=>exact .set (ne _ _ m e) (by rw [b.P,b.w];exact e)
 |ptr m=>exact .ptr m
 |exc m e=>exact .exc (ne _ _ m e) e
 |bD m e=>exact .bD (ne _ _ m e) e
 |cz m e=>exact .cz (ne _ _ m e) e
 |cA e=>exact .cA (by rw [b.K];exact e)
 |raw v=>exact .raw v
end
inductive Pin (M:Mh):Dv->Prop where
 |int (i:Int):Pin M (.int i)
 |bl (b:Bool):Pin M (.bl b)
 |au:Pin M .au
 |str (z:bn):Pin M (.str z)
 |tup {ds:List Dv} (h:∀d∈ds,Pin M d):Pin M (.tup ds)
 |lst {ds:List Dv} (h:∀d∈ds,Pin M d):Pin M (.lst ds)
 |set (ns:List Int):Pin M (.set ns)
 |ptr {a:ac} (h:(M a).isSome=true):Pin M (.ptr a)
 |exc (C:ac):Pin M (.exc C)
 |bD (ns:List Int):Pin M (.bD ns)
 |raw (v:V):Pin M (.raw v)
 |dk {ks:List Key} {ds:List Dv} (h:∀d∈ds,Pin M d):Pin M (.dk ks ds)
 |dt {ks:List (List Key)} {ds:List Dv} (h:∀d∈ds,Pin M d):Pin M (.dt ks ds)
 |bO {f c:ac} {o oc:i4} {vs:List V} {ds:List Dv} (h:∀d∈ds,Pin M d):Pin M (.bO f o c oc vs ds)
theorem Rz.pin {β:Bz} {M:Mh} {H:Hp} {v:V} {d:Dv} (h:Rz β M H v d):Pin M d :=by
 induction h with
 |int i=>exact .int i
 |bl b=>exact .bl b
 |au=>exact .au
 |str z=>exact .str z
 |tup m e hl h ih=>
  refine .tup fun d hd=>?_
  obtain ⟨i,hi⟩:=l6.mp hd
  have h1:=(br.mp hi).1
  exact ih i _ d (ag (by omega)) hi
 |lst m e hl h ih=>
  refine .lst fun d hd=>?_
  obtain ⟨i,hi⟩:=l6.mp hd
  have h1:=(br.mp hi).1
  exact ih i _ d (ag (by omega)) hi
 |dk m e hk hl h ih=>
  refine .dk fun d hd=>?_
  obtain ⟨i,hi⟩:=l6.mp hd
  have h1:=(br.mp hi).1
  exact ih i _ d (ag (by omega)) hi
 |dt m e hk hl h ih=>
  refine .dt fun d hd=>?_
  obtain ⟨i,hi⟩:=l6.mp hd
  have h1:=(br.mp hi).1
  exact ih i _ d (ag (by omega)) hi
 |bO m e m2 e2 hl h ih=>
  refine .bO fun d hd=>?_
  obtain ⟨i,hi⟩:=l6.mp hd
  have h1:=(br.mp hi).1
  exact ih i _ d (ag (by omega)) hi
 |set m e=>exact .set _
 |ptr m=>exact .ptr m
 |exc m e=>exact .exc _
 |bD m e=>exact .bD _
 |cz m e=>exact .bD _
 |cA e=>exact .bD _
 |raw v=>exact .raw v
def Mo.items:Mo->List Dv
 | .lst ds=>ds
 | .dk _ ds=>ds
 | .dt _ ds=>ds
 | .dm=>[]
def Wf (M:Mh):Prop:=∀b o,M b=some o->∀d∈o.items,Pin M d
theorem iR.Tz {β:Bz} {M:Mh} {H:Hp} {a:ac} {o:Mo} (h:iR β M H a o):∃vs,aG β M H vs o.items :=by
 cases o with
 |lst ds=>obtain ⟨vs,_,rs⟩:=h;exact ⟨vs,rs⟩
 |dk ks ds=>obtain ⟨vs,_,_,rs⟩:=h;exact ⟨vs,rs⟩
 |dt ks ds=>obtain ⟨vs,_,_,rs⟩:=h;exact ⟨vs,rs⟩
 |dm=>exact ⟨[],.nil⟩
theorem Mz.wf {β:Bz} {M:Mh} {H:Hp} (m:Mz β M H):Wf M:=fun b o e d hd=>by
 obtain ⟨vs,rs⟩:=(m.obj b _ e).Tz
 obtain ⟨i,hi⟩:=l6.mp hd
 obtain ⟨v,_,r⟩:=rs.get hi
 exact r.pin
abbrev aB:=List (Option Dv)
abbrev ZK:=Dv->Mh->Prop
abbrev aM:=aB->Mh->ZK->Prop
abbrev cU:=aB->Mh->(Bool->Mh->Prop)->Prop
abbrev eh:=aB->Mh->(List Dv->Mh->Prop)->Prop
structure gh where
 nx:aB->Mh->Prop
 rt:ZK
 bk:aB->Mh->Prop:=fun _ _=>False
 ct:aB->Mh->Prop:=fun _ _=>False
abbrev bV:=gh->aB->Mh->Prop
abbrev cR:=Dv->aB->Mh->(aB->Mh->Prop)->Prop
abbrev nM:=List Dv->aB->Mh->(aB->Mh->Prop)->Prop
abbrev fU:=aB->Mh->(List Dv->Mh->Prop)->Prop
structure Gz extends Bz where
 M0:Mh
 H0:Hp
structure Zr (Γ:Gz) (β:Bz) (M:Mh) (ρ:aB) (σ:St) (H:Hp):Prop where
 eP:β.P=Γ.P
 ew:β.w=Γ.w
 eK:β.K=Γ.K
 et:β.tb=Γ.tb
 sub:∀a,a∈Γ.hid->a∈β.hid
 wf:Wf Γ.M0
 ent:Ey Γ.M0 Γ.H0 M H
 mz:Mz β M H
 len:ρ.length=σ.length
 at':∀(i:Nat) (d:Dv),ρ[i]?=some (some d)->∃v,σ[i]?=some (some v)/\Rz β M H v d
section
variable {Γ:Gz} {β:Bz} {M M':Mh} {ρ:aB} {σ:St} {H H':Hp}
theorem Zr.step (z:Zr Γ β M ρ σ H) (x:Ex β M H M' H'):Zr Γ β M' ρ σ H':=⟨z.eP,z.ew,z.eK,z.et,z.sub,z.wf,z.ent.trans x.toEy,x.mz,z.len,fun i d e=>let ⟨v,h,r⟩:=z.at' i d e;⟨v,h,r.ex x⟩⟩
theorem Zr.set (z:Zr Γ β M ρ σ H) (i:Nat) {v:V} {d:Dv} (r:Rz β M H v d):Zr Γ β M (ρ.set i (some d)) (σ.set i (some v)) H:=⟨z.eP,z.ew,z.eK,z.et,z.sub,z.wf,z.ent,z.mz,by simp [z.len],fun j e h=>by
 rw [LH] at h ⊢
 rw [z.len] at h
 split at h
 ·rename_i q
  rw [if_pos q]
  split at h
  ·rename_i q2
   rw [if_pos q2]
   cases h
   exact ⟨v,rfl,r⟩
  ·cases h
 ·rename_i q
  rw [if_neg q]
  exact z.at' j e h⟩
end
def lE (Γ:Gz) (p:aM):TE:=fun σ H Q=>∃(β:Bz) (ρ:aB) (M:Mh) (Q':ZK),Zr Γ β M ρ σ H/\p ρ M Q'/\∀d M' v H',Ex β M H M' H'->Rz β M' H' v d->Q' d M'->Q v H'
def lT (Γ:Gz) (p:cU):TT:=fun σ H Q=>∃(β:Bz) (ρ:aB) (M:Mh) (Q':Bool->Mh->Prop),Zr Γ β M ρ σ H/\p ρ M Q'/\∀b M' H',Ex β M H M' H'->Q' b M'->Q b H'
def lA (Γ:Gz) (p:eh):TA:=fun σ H Q=>∃(β:Bz) (ρ:aB) (M:Mh) (Q':List Dv->Mh->Prop),Zr Γ β M ρ σ H/\p ρ M Q'/\∀ds M' vs H',Ex β M H M' H'->aG β M' H' vs ds->Q' ds M'->Q vs H'
structure Ev (β:Bz) (M:Mh) (H:Hp) (M':Mh) (H':Hp):Prop where
 keep:∀b o,M b=none->H b=some o->H' b=some o\/∃o',Tg o o'/\H' b=some o'
 new:∀a o,M a=none->H a=some o->M' a=none
 mz:Mz β M' H'
theorem Ex.ev {β:Bz} {M M':Mh} {H H':Hp} (x:Ex β M H M' H'):Ev β M H M' H':=⟨x.keep,x.new,x.mz⟩
theorem Ev.refl {β:Bz} {M:Mh} {H:Hp} (m:Mz β M H):Ev β M H M H:=(Ex.refl m).ev
theorem Ev.trans {β:Bz} {M M1 M2:Mh} {H H1 H2:Hp} (x:Ev β M H M1 H1) (y:Ev β M1 H1 M2 H2):Ev β M H M2 H2 :=by
 refine ⟨fun b o hm h=>?_,fun a o hm h=>?_,y.mz⟩
 ·have ly:=x.new b o hm h
  rcases x.keep b o hm h with q|⟨o1,t,q⟩
  ·exact y.keep b o ly q
  ·rcases y.keep b _ ly q with q2|⟨o2,t2,q2⟩
   ·exact .inr ⟨o1,t,q2⟩
   ·exact .inr ⟨o2,t.trans t2,q2⟩
 ·have ly:=x.new a o hm h
  rcases x.keep a o hm h with q|⟨o1,t,q⟩
  ·exact y.new a _ ly q
  ·exact y.new a _ ly q
structure Af (Γ:Gz) (β:Bz) (M:Mh) (H:Hp) (D':gh) (D:Ends):Prop where
 nx:∀bI M' aF H',Ev β M H M' H'->Zr Γ β M' bI aF H'->D'.nx bI M'->D.nx aF H'
 rt:∀d M' v H',Ev β M H M' H'->Ey Γ.M0 Γ.H0 M' H'->Rz β M' H' v d->D'.rt d M'->D.rt v H'
 bk:∀bI M' aF H',Ev β M H M' H'->Zr Γ β M' bI aF H'->D'.bk bI M'->D.bk aF H'
 ct:∀bI M' aF H',Ev β M H M' H'->Zr Γ β M' bI aF H'->D'.ct bI M'->D.ct aF H'
theorem Af.step {Γ:Gz} {β:Bz} {M M1:Mh} {H H1:Hp} {D':gh} {D:Ends} (r:Af Γ β M H D' D) (x:Ev β M H M1 H1):Af Γ β M1 H1 D' D:=
 ⟨fun a b c d y=>r.nx a b c d (x.trans y),fun a b c d y=>r.rt a b c d (x.trans y),fun a b c d y=>r.bk a b c d (x.trans y),fun a b c d y=>r.ct a b c d (x.trans y)⟩
def lS (Γ:Gz) (p:bV):TS:=fun D σ H=>∃(β:Bz) (ρ:aB) (M:Mh) (D':gh),Zr Γ β M ρ σ H/\p D' ρ M/\Af Γ β M H D' D
def lG (Γ:Gz) (p:cR):TG:=fun x σ H N=>∃(β:Bz) (d:Dv) (ρ:aB) (M:Mh) (N':aB->Mh->Prop),Zr Γ β M ρ σ H/\Rz β M H x d/\p d ρ M N'/\∀bI M' aF H',Ex β M H M' H'->Zr Γ β M' bI aF H'->N' bI M'->N aF H'
def TC (Γ:Gz) (p:nM):qu:=fun xs σ H N=>∃(β:Bz) (ds:List Dv) (ρ:aB) (M:Mh) (N':aB->Mh->Prop),Zr Γ β M ρ σ H/\aG β M H xs ds/\p ds ρ M N'/\∀bI M' aF H',Ex β M H M' H'->Zr Γ β M' bI aF H'->N' bI M'->N aF H'
def Cq (β:Bz) (J:It) (ds:List Dv) (M:Mh) (H:Hp):Prop:=∀cQ M' H',Bx β cQ H->Ey M H M' H'->Mz cQ M' H'->∀i,(i<ds.length->J.go i H'/\∀x nN,J.yld i H' x nN->Ex cQ M' H' M' nN/\∃d,ds[i]?=some d/\Rz cQ M' nN x d)/\(ds.length<=i->J.stop i H')
def lI (Γ:Gz) (p:fU):TI:=fun σ H R=>∃(β:Bz) (ρ:aB) (M:Mh) (R':List Dv->Mh->Prop),Zr Γ β M ρ σ H/\p ρ M R'/\∀ds M' H' J,Ex β M H M' H'->Cq β J ds M' H'->R' ds M'->R J H'
abbrev QE (Γ:Gz) (X:Cx) (e:dL) (p:aM):Prop:=PE X e (lE Γ p)
abbrev QT (Γ:Gz) (X:Cx) (e:dL) (p:cU):Prop:=PT X e (lT Γ p)
abbrev QW (Γ:Gz) (X:Cx) (e:dL) (p:cU):Prop:=PW X e (lT Γ p)
abbrev QA (Γ:Gz) (X:Cx) (es:List dL) (p:eh):Prop:=PA X es (lA Γ p)
abbrev QS (Γ:Gz) (X:Cx) (s:r6) (p:bV):Prop:=PS X s (lS Γ p)
abbrev kP (Γ:Gz) (X:Cx) (s:List r6) (p:bV):Prop:=fT X s (lS Γ p)
abbrev QG (Γ:Gz) (X:Cx) (e:dL) (p:cR):Prop:=PG X e (lG Γ p)
abbrev Gy (Γ:Gz) (X:Cx) (e:List dL) (p:nM):Prop:=tE X e (TC Γ p)
abbrev QI (Γ:Gz) (X:Cx) (tg e:dL) (p:fU):Prop:=PI X tg e (lI Γ p)
section
variable {X:Cx}
theorem PE.imp {e:dL} {t t':TE} (h:PE X e t) (i:∀σ H Q,t' σ H Q->t σ H Q):PE X e t':=⟨fun pins s σ H Q I q=>h pins s σ H Q I (i _ _ _ q)⟩
theorem PT.imp {e:dL} {t t':TT} (h:PT X e t) (i:∀σ H Q,t' σ H Q->t σ H Q):PT X e t':=⟨fun pins s σ H Q I q=>h pins s σ H Q I (i _ _ _ q)⟩
theorem PW.imp {e:dL} {t t':TT} (h:PW X e t) (i:∀σ H Q,t' σ H Q->t σ H Q):PW X e t':=fun wh pins s σ H Q I q=>h wh pins s σ H Q I (i _ _ _ q)
theorem PA.imp {e:List dL} {t t':TA} (h:PA X e t) (i:∀σ H Q,t' σ H Q->t σ H Q):PA X e t':=⟨fun pos pins s σ H Q I q=>h pos pins s σ H Q I (i _ _ _ q)⟩
theorem PS.imp {e:r6} {t t':TS} (h:PS X e t) (i:∀D σ H,t' D σ H->t D σ H):PS X e t':=⟨fun pins s σ H D I q=>h pins s σ H D I (i _ _ _ q)⟩
theorem fT.imp {e:List r6} {t t':TS} (h:fT X e t) (i:∀D σ H,t' D σ H->t D σ H):fT X e t':=⟨fun pins s σ H D I q=>h pins s σ H D I (i _ _ _ q)⟩
theorem PG.imp {e:dL} {t t':TG} (h:PG X e t) (i:∀v σ H Q,t' v σ H Q->t v σ H Q):PG X e t':=fun pins s σ H v u Q I r q=>h pins s σ H v u Q I r (i _ _ _ _ q)
theorem tE.imp {e:List dL} {t t':qu} (h:tE X e t) (i:∀v σ H Q,t' v σ H Q->t v σ H Q):tE X e t':=fun pins s σ H v u Q I r q=>h pins s σ H v u Q I r (i _ _ _ _ q)
theorem PI.imp {tg e:dL} {t t':TI} (h:PI X tg e t) (i:∀σ H Q,t' σ H Q->t σ H Q):PI X tg e t':=fun pins s σ H Q I q=>h pins s σ H Q I (i _ _ _ q)
theorem gL.imp {e:List dL} {t t':TT} (h:gL X e t) (i:∀σ H Q,t' σ H Q->t σ H Q):gL X e t':=fun pins s σ H Q I q=>h pins s σ H Q I (i _ _ _ q)
variable {Γ:Gz} {a b c:dL} {pa pb pc:aM} {pos:wn}
def zVar (i:Nat):aM:=fun ρ M Q=>match ρ[i]? with|some (some d)=>Q d M|_=>False
def zC (d:Dv):aM:=fun _ M Q=>Q d M
theorem LD {i:Nat} {x:bn} (hN:X.N[i]?=some x) (hv:oZ X.env.scope x) (hd:(x==("__debug__" : bn))=false :=by decide) (dR:(x==("__classdict__" : bn))=false :=by decide):QE Γ X (.Name x pos) (zVar i):=
 (vd hN hv hd dR).imp fun σ H Q ⟨β,ρ,M,Q',z,h,q⟩=>by
  unfold zVar at h
  split at h
  ·rename_i d e
   obtain ⟨v,e2,r⟩:=z.at' i d e
   exact ⟨v,e2,q d M v H (.refl z.mz) r h⟩
  ·exact h.elim
theorem qc {e:dL} {v:V} {d:Dv} (h:PE X e (tC v)) (r:∀β M H,Rz β M H v d):QE Γ X e (zC d):=h.imp fun σ H Q ⟨β,ρ,M,Q',z,h,q⟩=>q d M v H (.refl z.mz) (r β M H) h
theorem av {i j pos}:QE Γ X (.Constant (.int i) j pos) (zC (.int i)):=qc JF fun _ _ _=>.int _
theorem gY {b j pos}:QE Γ X (.Constant (.bool b) j pos) (zC (.bl b)):=qc N8 fun _ _ _=>.bl _
theorem lJ {x j pos}:QE Γ X (.Constant (.str x) j pos) (zC (.str x)):=qc JG fun _ _ _=>.str _
theorem EX {x:bn} {i:Int} {u:al} (hg:Gl X x) (hm:X.mg x=some u) (r:RelV (.int i) u) (hd:(x==("__debug__" : bn))=false :=by decide):QE Γ X (.Name x pos) (zC (.int i)):=qc (sf hg hm r hd) fun _ _ _=>.int _
theorem EY {x z:bn} {u:al} (hg:Gl X x) (hm:X.mg x=some u) (r:RelV (.str z) u) (hd:(x==("__debug__" : bn))=false :=by decide):QE Γ X (.Name x pos) (zC (.str z)):=qc (sf hg hm r hd) fun _ _ _=>.str _
theorem jY {x:bn} {v:V} {u:al} (hg:Gl X x) (hm:X.mg x=some u) (r:RelV v u) (hd:(x==("__debug__" : bn))=false :=by decide):QE Γ X (.Name x pos) (zC (.raw v)):=qc (sf hg hm r hd) fun _ _ _=>.raw _
theorem fK {x:bn} {v:V} {u:al} (hg:Gl X x) (hm:X.mg x=none) (hv:bootBuiltins x=some u) (r:RelV v u) (hn:x ≠ "__name__" := by decide) (hd:(x==("__debug__" : bn))=false :=by decide):QE Γ X (.Name x pos) (zC (.raw v)):=qc (Ho hg hm hv r hn hd) fun _ _ _=>.raw _
abbrev dX:=Dv->Dv->Mh->ZK->Prop
def pz (Γ:Gz) (r:R2) (z:dX):Prop:=∀(β:Bz) x y d e M H Q Q',β.P=Γ.P->β.w=Γ.w->β.K=Γ.K->Mz β M H->Rz β M H x d->Rz β M H y e->z d e M Q'->(∀d' M' v H',Ex β M H M' H'->Rz β M' H' v d'->Q' d' M'->Q v H')->r x y H Q
def eu (Γ:Gz) (X:Cx) (f:al->al->Wx al) (z:dX):Prop:=∃r,OpR X f r/\pz Γ r z
def zOp (z:dX) (pa pb:aM):aM:=fun ρ M Q=>pa ρ M fun d M1=>pb ρ M1 fun e M2=>z d e M2 Q
theorem Ag {r:R2} {z:dX} (hz:pz Γ r z) {σ:St} {H:Hp} {Q:VK} (h:lE Γ (zOp z pa pb) σ H Q):Bh r (lE Γ pa) (lE Γ pb) σ H Q :=by
 obtain ⟨β,ρ,M,Q',zr,h,q⟩:=h
 exact ⟨β,ρ,M,_,zr,h,fun d M1 v H1 x1 r1 h1=>⟨β,ρ,M1,_,zr.step x1,h1,fun e M2 u H2 x2 r2 h2=>hz β v u d e M2 H2 Q Q' zr.eP zr.ew zr.eK x2.mz (r1.ex x2) r2 h2 fun d' M' v' H' x3 r3 q3=>q _ _ _ _ (x1.trans (x2.trans x3)) r3 q3⟩⟩
theorem aP {op:Operator} {z:dX} (ho:eu Γ X (binaryOp op) z) (ha:QE Γ X a pa) (hb:QE Γ X b pb):QE Γ X (.BinOp a op b pos) (zOp z pa pb) :=by
 obtain ⟨r,h1,h2⟩:=ho
 exact (Oh h1 ha hb).imp fun σ H Q h=>Ag h2 h
theorem lK {op:TW} {z:dX} (ho:eu Γ X (compareOp op) z) (ha:QE Γ X a pa) (hb:QE Γ X b pb) (hm:behindInMarks op b=false):QE Γ X (.Compare a [op] [b] pos) (zOp z pa pb) :=by
 obtain ⟨r,h1,h2⟩:=ho
 exact (Hy h1 ha hb hm).imp fun σ H Q h=>Ag h2 h
def zBool (Q:Bool->Mh->Prop):ZK:=fun d M=>match d with | .bl k=>Q k M|_=>False
theorem ip {Q:Bool->Mh->Prop} {d:Dv} {M:Mh} (h:zBool Q d M):∃k,d=.bl k/\Q k M :=by
 unfold zBool at h
 split at h
 ·exact ⟨_,rfl,h⟩
 ·exact h.elim
def zTest (p:aM):cU:=fun ρ M Q=>p ρ M (zBool Q)
theorem wc {p:aM} {t:TE} (i:∀σ H Q,lE Γ p σ H Q->t σ H Q) {σ:St} {H:Hp} {Q:Bool->Hp->Prop} (h:lT Γ (zTest p) σ H Q):zB t σ H Q :=by
 obtain ⟨β,ρ,M,Q',zr,h,q⟩:=h
 refine i _ _ _ ⟨β,ρ,M,_,zr,h,fun d M1 v H1 x1 r1 h1=>?_⟩
 obtain ⟨k,rfl,h2⟩:=ip h1
 exact ⟨k,cY r1,q k M1 H1 x1 h2⟩
theorem bE {op:TW} {z:dX} (ho:eu Γ X (compareOp op) z) (ha:QE Γ X a pa) (hb:QE Γ X b pb) (hm:behindInMarks op b=false):QT Γ X (.Compare a [op] [b] pos) (zTest (zOp z pa pb)) :=by
 obtain ⟨r,h1,h2⟩:=ho
 exact (Hz h1 ha hb hm).imp fun σ H Q h=>wc (fun _ _ _=>Ag h2) h
theorem dn {e:dL} {p:aM} (h:QE Γ X e p) (he:∀whole,isTrue e X.env whole=(do let v <- whole;standAt e.pos;holding [v] (truthy v)) :=by intro _;rfl):QT Γ X e (zTest p):=
 (JH h he).imp fun σ H Q h=>wc (fun _ _ _ h=>h) h
def zChain (z z':dX) (pa pb pc:aM):aM:=fun ρ M Q=>pa ρ M fun x M1=>pb ρ M1 fun y M2=>z x y M2 (zBool fun k M3=>if k=true then pc ρ M3 fun u M4=>z' y u M4 Q else Q (.bl false) M3)
theorem yS {r r':R2} {z z':dX} (hz:pz Γ r z) (LI:pz Γ r' z') {σ:St} {H:Hp} {Q:VK} (h:lE Γ (zChain z z' pa pb pc) σ H Q):vj r r' (lE Γ pa) (lE Γ pb) (lE Γ pc) σ H Q :=by
 obtain ⟨β,ρ,M,Q',zr,h,q⟩:=h
 refine ⟨β,ρ,M,_,zr,h,fun d M1 v H1 x1 r1 h1=>⟨β,ρ,M1,_,zr.step x1,h1,fun e M2 u H2 x2 r2 h2=>hz β v u d e M2 H2 _ _ zr.eP zr.ew zr.eK x2.mz (r1.ex x2) r2 h2 fun d' M3 v' H3 x3 r3 h3=>?_⟩⟩
 obtain ⟨k,rfl,h4⟩:=ip h3
 have yT:=x1.trans (x2.trans x3)
 refine ⟨k,cY r3,?_⟩
 cases k with
 |true=>
  rw [if_pos rfl] at h4 ⊢
  exact ⟨β,ρ,M3,_,zr.step yT,h4,fun f M4 g H4 x4 r4 h5=>LI β u g e f M4 H4 _ _ zr.eP zr.ew zr.eK x4.mz ((r2.ex x3).ex x4) r4 h5 fun d5 M5 v5 H5 x5 r5 q5=>q _ _ _ _ (yT.trans (x4.trans x5)) r5 q5⟩
 |false=>
  rw [if_neg gl] at h4 ⊢
  exact q _ _ _ _ yT (.bl _) h4
theorem EZ {op jK:TW} {z z':dX} (ho:eu Γ X (compareOp op) z) (ib:eu Γ X (compareOp jK) z') (ha:QE Γ X a pa) (hb:QE Γ X b pb) (hc:QE Γ X c pc) (hm:lastMarks [op,jK] [b,c]=false :=by with_unfolding_all rfl) :
  QE Γ X (.Compare a [op,jK] [b,c] pos) (zChain z z' pa pb pc) :=by
 obtain ⟨r,h1,h2⟩:=ho
 obtain ⟨r',LJ,LK⟩:=ib
 exact (D5 h1 LJ ha hb hc hm).imp fun σ H Q h=>yS h2 LK h
theorem wg {op jK:TW} {z z':dX} (ho:eu Γ X (compareOp op) z) (ib:eu Γ X (compareOp jK) z') (ha:QE Γ X a pa) (hb:QE Γ X b pb) (hc:QE Γ X c pc) (hm:lastMarks [op,jK] [b,c]=false :=by with_unfolding_all rfl) :
  QT Γ X (.Compare a [op,jK] [b,c] pos) (zTest (zChain z z' pa pb pc)) :=by
 obtain ⟨r,h1,h2⟩:=ho
 obtain ⟨r',LJ,LK⟩:=ib
 exact (D6 h1 LJ ha hb hc hm).imp fun σ H Q h=>wc (fun _ _ _=>yS h2 LK) h
variable {tA qt:cU} {rest:List dL}
def zAnd (t u:cU):cU:=fun ρ M Q=>t ρ M fun c M1=>if c=true then u ρ M1 Q else Q false M1
def zOr (t u:cU):cU:=fun ρ M Q=>t ρ M fun c M1=>if c=true then Q true M1 else u ρ M1 Q
def zNot (t:cU):cU:=fun ρ M Q=>t ρ M fun c M1=>Q (!c) M1
theorem yU (ha:QT Γ X a tA):QW Γ X (.BoolOp .And [a] pos) tA:=Hq ha
theorem lL (ha:QT Γ X a tA):QW Γ X (.BoolOp .Or [a] pos) tA:=JI ha
theorem Cr (ha:QT Γ X a tA) (hb:QW Γ X (.BoolOp .And (b::rest) pos) qt):QW Γ X (.BoolOp .And (a::b::rest) pos) (zAnd tA qt):=
 (JK ha hb).imp fun σ H Q ⟨β,ρ,M,Q',zr,h,q⟩=>⟨β,ρ,M,_,zr,h,fun k M1 H1 x1 h1=>by
  cases k with
  |true=>rw [if_pos rfl] at h1 ⊢;exact ⟨β,ρ,M1,_,zr.step x1,h1,fun k2 M2 H2 x2 h2=>q _ _ _ (x1.trans x2) h2⟩
  |false=>rw [if_neg gl] at h1 ⊢;exact q _ _ _ x1 h1⟩
theorem jl (ha:QT Γ X a tA) (hb:QW Γ X (.BoolOp .Or (b::rest) pos) qt):QW Γ X (.BoolOp .Or (a::b::rest) pos) (zOr tA qt):=
 (N9 ha hb).imp fun σ H Q ⟨β,ρ,M,Q',zr,h,q⟩=>⟨β,ρ,M,_,zr,h,fun k M1 H1 x1 h1=>by
  cases k with
  |false=>rw [if_neg gl] at h1 ⊢;exact ⟨β,ρ,M1,_,zr.step x1,h1,fun k2 M2 H2 x2 h2=>q _ _ _ (x1.trans x2) h2⟩
  |true=>rw [if_pos rfl] at h1 ⊢;exact q _ _ _ x1 h1⟩
theorem dY (ha:QT Γ X a tA):QT Γ X (.UnaryOp .Not a pos) (zNot tA):=(JL ha).imp fun σ H Q ⟨β,ρ,M,Q',zr,h,q⟩=>⟨β,ρ,M,_,zr,h,fun k M1 H1 x1 h1=>q _ _ _ x1 h1⟩
theorem QW.pt {e:dL} {t:cU} (h:QW Γ X e t):QT Γ X e t:=PW.pt h
def zAndV (pa pb:aM):aM:=fun ρ M Q=>pa ρ M (zBool fun c M1=>if c=true then pb ρ M1 Q else Q (.bl false) M1)
def zOrV (pa pb:aM):aM:=fun ρ M Q=>pa ρ M (zBool fun c M1=>if c=true then Q (.bl true) M1 else pb ρ M1 Q)
def zNotV (pa:aM):aM:=fun ρ M Q=>pa ρ M (zBool fun c M1=>Q (.bl (!c)) M1)
theorem lM {op} (h:QE Γ X a pa):QE Γ X (.BoolOp op [a] pos) pa:=JM h
theorem rC (ha:QE Γ X a pa) (hb:QE Γ X (.BoolOp .And (b::rest) pos) pb):QE Γ X (.BoolOp .And (a::b::rest) pos) (zAndV pa pb):=
 (JN ha hb).imp fun σ H Q ⟨β,ρ,M,Q',zr,h,q⟩=>⟨β,ρ,M,_,zr,h,fun d M1 v H1 x1 r1 h1=>by
  obtain ⟨k,rfl,h2⟩:=ip h1
  refine ⟨k,cY r1,?_⟩
  cases k with
  |true=>rw [if_pos rfl] at h2 ⊢;exact ⟨β,ρ,M1,_,zr.step x1,h2,fun d2 M2 v2 H2 x2 r2 h2=>q _ _ _ _ (x1.trans x2) r2 h2⟩
  |false=>rw [if_neg gl] at h2 ⊢;exact q _ _ _ _ x1 (.bl _) h2⟩
theorem GA (ha:QE Γ X a pa) (hb:QE Γ X (.BoolOp .Or (b::rest) pos) pb):QE Γ X (.BoolOp .Or (a::b::rest) pos) (zOrV pa pb):=
 (Oc ha hb).imp fun σ H Q ⟨β,ρ,M,Q',zr,h,q⟩=>⟨β,ρ,M,_,zr,h,fun d M1 v H1 x1 r1 h1=>by
  obtain ⟨k,rfl,h2⟩:=ip h1
  refine ⟨k,cY r1,?_⟩
  cases k with
  |false=>rw [if_neg gl] at h2 ⊢;exact ⟨β,ρ,M1,_,zr.step x1,h2,fun d2 M2 v2 H2 x2 r2 h2=>q _ _ _ _ (x1.trans x2) r2 h2⟩
  |true=>rw [if_pos rfl] at h2 ⊢;exact q _ _ _ _ x1 (.bl _) h2⟩
theorem LL (ha:QE Γ X a pa):QE Γ X (.UnaryOp .Not a pos) (zNotV pa):=(JO ha).imp fun σ H Q ⟨β,ρ,M,Q',zr,h,q⟩=>⟨β,ρ,M,_,zr,h,fun d M1 v H1 x1 r1 h1=>by
  obtain ⟨k,rfl,h2⟩:=ip h1
  exact ⟨k,cY r1,q _ _ _ _ x1 (.bl _) h2⟩⟩
def zNil:eh:=fun _ M Q=>Q [] M
def zCons (p:aM) (r:eh):eh:=fun ρ M Q=>p ρ M fun d M1=>r ρ M1 fun ds M2=>Q (d::ds) M2
variable {es:List dL} {za:eh}
theorem ae:QA Γ X [] zNil:=Kg.imp fun σ H Q ⟨β,ρ,M,Q',zr,h,q⟩=>q [] M [] H (.refl zr.mz) .nil h
theorem aa {e:dL} (ha:QE Γ X e pa) (hr:QA Γ X es za) (hs:starEach (e::es) X.env=(false,eval e X.env)::starEach es X.env :=by rfl):QA Γ X (e::es) (zCons pa za):=
 (oz ha hr hs).imp fun σ H Q ⟨β,ρ,M,Q',zr,h,q⟩=>⟨β,ρ,M,_,zr,h,fun d M1 v H1 x1 r1 h1=>⟨β,ρ,M1,_,zr.step x1,h1,fun ds M2 vs H2 x2 r2 h2=>q _ _ _ _ (x1.trans x2) (.cons (r1.ex x2) r2) h2⟩⟩
def zTup (p:eh):aM:=fun ρ M Q=>p ρ M fun ds M1=>ds.length<=sizeLine/\Q (.tup ds) M1
def zLst (p:eh):aM:=fun ρ M Q=>p ρ M fun ds M1=>ds.length<=sizeLine/\Q (.lst ds) M1
def zLstP (p:eh):aM:=fun ρ M Q=>p ρ M fun ds M1=>ds.length<=sizeLine/\∀a,M1 a=none->Q (.ptr a) (aA M1 a (.lst ds))
theorem nO {x1} (h:QA Γ X es za):QE Γ X (.Tuple es x1 pos) (zTup za):=(Kh h).imp fun σ H Q ⟨β,ρ,M,Q',zr,h,q⟩=>⟨β,ρ,M,_,zr,h,fun ds M1 vs H1 x1 r1 h1=>⟨by rw [r1.len];exact h1.1,fun p hp=>by
  have x2:=Ex.lay x1.mz hp (.tup vs)
  exact q _ _ _ _ (x1.trans x2) (jX (x1.mz.fz hp) ay (r1.ex x2)) h1.2⟩⟩
theorem rD (h:QA Γ X es za):QE Γ X (.List es pos) (zLst za):=(Bo h).imp fun σ H Q ⟨β,ρ,M,Q',zr,h,q⟩=>⟨β,ρ,M,_,zr,h,fun ds M1 vs H1 x1 r1 h1=>⟨by rw [r1.len];exact h1.1,fun p hp=>by
  have x2:=Ex.lay x1.mz hp (.lst vs)
  exact q _ _ _ _ (x1.trans x2) (wa (x1.mz.fz hp) ay (r1.ex x2)) h1.2⟩⟩
theorem ju (h:QA Γ X es za):QE Γ X (.List es pos) (zLstP za):=(Bo h).imp fun σ H Q ⟨β,ρ,M,Q',zr,h,q⟩=>⟨β,ρ,M,_,zr,h,fun ds M1 vs H1 x1 r1 h1=>⟨by rw [r1.len];exact h1.1,fun p hp=>by
  have x2:=Ex.own x1.mz (.inr hp) r1
  exact q _ _ _ _ (x1.trans x2) (.ptr (by rw [updM_same];rfl)) (h1.2 p (x1.mz.free hp))⟩⟩
abbrev rE:=List Dv->Mh->ZK->Prop
def GB (Γ:Gz) (r:List V->Hp->VK->Prop) (z:rE):Prop:=∀(β:Bz) xs ds M H Q Q',β.P=Γ.P->β.w=Γ.w->β.K=Γ.K->Mz β M H->aG β M H xs ds->z ds M Q'->(∀d' M' v H',Ex β M H M' H'->Rz β M' H' v d'->Q' d' M'->Q v H')->r xs H Q
def eF (Γ:Gz) (X:Cx) (f:al) (z:rE):Prop:=∃r,cL X f r/\GB Γ r z
def zCB (z:rE) (p:eh):aM:=fun ρ M Q=>p ρ M fun ds M1=>z ds M1 Q
theorem LN {r:List V->Hp->VK->Prop} {z:rE} (hz:GB Γ r z) {σ:St} {H:Hp} {Q:VK} (h:lE Γ (zCB z za) σ H Q):Kj r (lA Γ za) σ H Q :=by
 obtain ⟨β,ρ,M,Q',zr,h,q⟩:=h
 exact ⟨β,ρ,M,_,zr,h,fun ds M1 vs H1 x1 r1 h1=>hz β vs ds M1 H1 _ _ zr.eP zr.ew zr.eK x1.mz r1 h1 fun d' M' v' H' x2 r2 q2=>q _ _ _ _ (x1.trans x2) r2 q2⟩
variable {st:r6} {Qo:List r6} {p p2:bV} {e:dL} {pe:aM}
def zNext:bV:=fun D ρ M=>D.nx ρ M
def zSeq (p q:bV):bV:=fun D ρ M=>p {D with nx:=q D} ρ M
theorem qss_nil:kP Γ X [] zNext:=Hr.imp fun D σ H ⟨β,ρ,M,D',zr,h,r⟩=>r.nx ρ M σ H (.refl zr.mz) zr h
theorem ai (h1:QS Γ X st p) (h2:kP Γ X Qo p2):kP Γ X (st::Qo) (zSeq p p2):=(DY h1 h2).imp fun D σ H ⟨β,ρ,M,D',zr,h,r⟩=>
 ⟨β,ρ,M,_,zr,h,fun bI M' aF H' x gZ h'=>⟨β,bI,M',D',gZ,h',r.step x⟩,r.rt,r.bk,r.ct⟩
theorem aq (h1:QS Γ X st p):kP Γ X [st] p:=Hs h1
def zDrop (p:aM):bV:=fun D ρ M=>p ρ M fun _ M1=>D.nx ρ M1
theorem iq (he:QE Γ X e pe) (hs:swapsWith e none pos.line X.env=pure false :=by rfl):QS Γ X (.Expr e pos) (zDrop pe):=(Ht he hs).imp fun D σ H ⟨β,ρ,M,D',zr,h,r⟩=>
 ⟨β,ρ,M,_,zr,h,fun d M1 v H1 x1 r1 h1=>r.nx ρ M1 σ H1 x1.ev (zr.step x1) h1⟩
def zRet (p:aM):bV:=fun D ρ M=>p ρ M D.rt
theorem aT (he:QE Γ X e pe):QS Γ X (.Return (some e) pos) (zRet pe):=(JP he).imp fun D σ H ⟨β,ρ,M,D',zr,h,r⟩=>⟨β,ρ,M,_,zr,h,fun d M' v H' x r1 h1=>r.rt _ _ _ _ x.ev (zr.ent.trans x.toEy) r1 h1⟩
def zIfS (c:cU) (p q:bV):bV:=fun D ρ M=>c ρ M fun b M1=>if b=true then p D ρ M1 else q D ρ M1
theorem cM {as bs:List r6} {pa pb:bV} (hc:QT Γ X c tA) (ha:kP Γ X as pa) (hb:kP Γ X bs pb):QS Γ X (.If c as bs pos) (zIfS tA pa pb):=(Of hc ha hb).imp fun D σ H ⟨β,ρ,M,D',zr,h,r⟩=>
 ⟨β,ρ,M,_,zr,h,fun k M1 H1 x1 h1=>by
  cases k with
  |true=>rw [if_pos rfl] at h1 ⊢;exact ⟨β,ρ,M1,D',zr.step x1,h1,r.step x1.ev⟩
  |false=>rw [if_neg gl] at h1 ⊢;exact ⟨β,ρ,M1,D',zr.step x1,h1,r.step x1.ev⟩⟩
def zgName (i:Nat):cR:=fun d ρ M N=>N (ρ.set i (some d)) M
theorem aJ {i:Nat} {x:bn} (hN:X.N.Nodup) (hi:X.N[i]?=some x) (hx:Loc X.env.scope x) (hf:X.fn x=true\/X.env.scope.names.lookup x=some .local :=by first|exact .inl rfl|exact .inr rfl|assumption):QG Γ X (.Name x pos) (zgName i):=
 (Hu hN hi hx hf).imp fun v σ H N ⟨β,d,ρ,M,N',zr,r,h,q⟩=>q _ _ _ _ (.refl zr.mz) (zr.set i r) h
def zgNil:nM:=fun ds ρ M N=>match ds with | []=>N ρ M|_=>False
def zgCons (g:cR) (u:nM):nM:=fun ds ρ M N=>match ds with|d::r=>g d ρ M fun bI M'=>u r bI M' N | []=>False
theorem yV:Gy Γ X [] zgNil:=Hv.imp fun vs σ H N ⟨β,ds,ρ,M,N',zr,r,h,q⟩=>by
 unfold zgNil at h
 split at h
 ·have e:vs=[]:=List.length_eq_zero_iff.mp r.len
  exact ⟨e,q _ _ _ _ (.refl zr.mz) zr h⟩
 ·exact h.elim
theorem mq {g:cR} {u:nM} (h1:QG Γ X e g) (h2:Gy Γ X es u) (hs:(assignEach (e::es) X.env).map (·.2)=assign e X.env::(assignEach es X.env).map (·.2) :=by rfl):Gy Γ X (e::es) (zgCons g u):=
 (D0 h1 h2 hs).imp fun vs σ H N ⟨β,ds,ρ,M,N',zr,r,h,q⟩=>by
  unfold zgCons at h
  split at h
  ·rename_i d rest
   cases vs with
   |nil=>exact absurd r.len (by simp)
   |cons v vs=>exact ⟨v,vs,rfl,β,d,ρ,M,_,zr,r.head,h,fun bI M' aF H' x gZ h'=>⟨β,rest,bI,M',N',gZ,r.tail.ex x,h',fun a b c d y=>q a b c d (x.trans y)⟩⟩
  ·exact h.elim
def zgTup (n:Nat) (u:nM):cR:=fun d ρ M N=>match d with | .tup ds=>ds.length=n/\u ds ρ M N|_=>False
theorem Ct {k:Nat} {u:nM} {n:Nat} (hc:X.calm=true) (h:Gy Γ X es u) (hn:(assignEach es X.env).length=n :=by rfl) (ie:(assignEach es X.env).findIdx? (·.1)=none :=by rfl):QG Γ X (.Tuple es k pos) (zgTup n u):=
 (JR hc h hn ie).imp fun v σ H N ⟨β,d,ρ,M,N',zr,r,h,q⟩=>by
  unfold zgTup at h
  split at h
  ·obtain ⟨a,vs,rfl,m,e,rs⟩:=cw r
   exact ⟨a,vs,rfl,cI.of e,by rw [rs.len];exact h.1,β,_,ρ,M,N',zr,rs,h.2,q⟩
  ·exact h.elim
def zAsg (p:aM) (g:cR):bV:=fun D ρ M=>p ρ M fun d M1=>g d ρ M1 D.nx
theorem OQ {g:cR} {D:Ends} {σ:St} {H:Hp} (h:lS Γ (zAsg pe g) D σ H):sg (lE Γ pe) (lG Γ g) D σ H :=by
 obtain ⟨β,ρ,M,D',zr,h,r⟩:=h
 exact ⟨β,ρ,M,_,zr,h,fun d M1 v H1 x1 r1 h1=>⟨β,d,ρ,M1,D'.nx,zr.step x1,r1,h1,fun bI M' aF H' x gZ h'=>r.nx _ _ _ _ (x1.trans x).ev gZ h'⟩⟩
theorem jZ {tg:dL} {g:cR} (he:QE Γ X e pe) (hg:QG Γ X tg g) (hs:swapsWithSole [tg] e pos.line X.env=pure false :=by rfl) (hw:swappedStores [tg] e X.env=pure none :=by rfl)
  (h1:(assignEach [tg] X.env).map (·.2)=[assign tg X.env] :=by rfl):QS Γ X (.Assign [tg] e pos) (zAsg pe g):=(JT he hg hs hw h1).imp fun D σ H h=>OQ h
theorem uY {t:TE} (i:∀σ H Q,lE Γ pe σ H Q->t σ H Q) {n:Nat} {D:Ends} {σ:St} {H:Hp} (h:lS Γ (zAsg pe (zgName n)) D σ H):sg t (qw n) D σ H :=by
 obtain ⟨β,ρ,M,D',zr,h,r⟩:=h
 exact i _ _ _ ⟨β,ρ,M,_,zr,h,fun d M1 v H1 x1 r1 h1=>r.nx _ _ _ _ x1.ev ((zr.step x1).set n r1) h1⟩
theorem aH {i:Nat} {x:bn} {pos':wn} (hN:X.N.Nodup) (hi:X.N[i]?=some x) (hx:Loc X.env.scope x) (he:QE Γ X e pe) (hs:swapsWith e (some (.Name x pos')) pos.line X.env=pure false :=by rfl) (hf:X.fn x=true\/X.env.scope.names.lookup x=some .local :=by first|exact .inl rfl|exact .inr rfl|assumption) :
  QS Γ X (.Assign [.Name x pos'] e pos) (zAsg pe (zgName i)):=(JU hN hi hx he hs hf).imp fun D σ H h=>uY (fun _ _ _ h=>h) h
end
section
variable {X:Cx} {Γ:Gz} {β:Bz}
def ziTup (p:aM):fU:=fun ρ M R=>p ρ M fun d M1=>match d with | .tup ds=>R ds M1|_=>False
def ziLst (p:aM):fU:=fun ρ M R=>p ρ M fun d M1=>match d with | .lst ds=>R ds M1|_=>False
def bW (lo:Int) (n:Nat):List Dv:=(i0 n).map fun i=>.int (lo+(i:Nat))
def ziRng1 (p:eh):fU:=fun ρ M R=>p ρ M fun ds M1=>match ds with | [.int j] => -(2 ^ 62)<=j/\j<2 ^ 62/\R (bW 0 j.toNat) M1|_=>False
def ziRng2 (p:eh):fU:=fun ρ M R=>p ρ M fun ds M1=>match ds with | [.int i,.int j]=>(-(2 ^ 62)<=i/\i<2 ^ 62 /\ -(2 ^ 62)<=j/\j<2 ^ 62)/\R (bW i (j - i).toNat) M1|_=>False
theorem ir {J:It} {vs:List V} {ds:List Dv} {M:Mh} {H:Hp} (r:aG β M H vs ds) (h:∀M' H',Ey M H M' H'->Runs J vs H'):Cq β J ds M H:=fun cQ M' H' bx x m i=>by
 have q:=h M' H' x i
 rw [<- r.len]
 refine ⟨fun hi=>⟨(q.1 hi).1,fun v nN y=>?_⟩,q.2⟩
 obtain ⟨e,hv⟩:=(q.1 hi).2 v nN y
 subst e
 obtain ⟨d,hd,rd⟩:=r.get' hv
 exact ⟨.refl m,d,hd,(rd.bx bx).ey x⟩
variable {tg l:dL} {p:aM} {pa:eh} {K:bi}
theorem nQ (hK:X.K=K) (hl:QE Γ X l p):QI Γ X tg l (ziTup p):=(HH hK hl).imp fun σ H R ⟨β,ρ,M,R',zr,h,q⟩=>⟨β,ρ,M,_,zr,h,fun d M1 v H1 x1 r1 h1=>by
 revert h1
 split
 ·intro h1
  obtain ⟨a,vs,rfl,m,e,rs⟩:=cw r1
  exact ⟨a,rfl,⟨_,cI.of e⟩,q _ _ _ _ x1 (ir rs fun M' H' x=>Ei (cI.of (x.get m.1 e rfl))) h1⟩
 ·exact fun h=>h.elim⟩
theorem oI (hK:X.K=K) (hl:QE Γ X l p):QI Γ X tg l (ziLst p):=(Ej hK hl).imp fun σ H R ⟨β,ρ,M,R',zr,h,q⟩=>⟨β,ρ,M,_,zr,h,fun d M1 v H1 x1 r1 h1=>by
 revert h1
 split
 ·intro h1
  obtain ⟨a,vs,rfl,m,e,rs⟩:=fA r1
  exact ⟨a,rfl,⟨_,bF.of e⟩,q _ _ _ _ x1 (ir rs fun M' H' x=>BM (bF.of (x.get m.1 e rfl))) h1⟩
 ·exact fun h=>h.elim⟩
theorem ud {lo:Int} {n:Nat} {M:Mh} {H:Hp}:aG β M H ((i0 n).map fun i=>V.int (lo+(i:Nat))) (bW lo n):=⟨by simp [bW],fun i v d a b=>by
 unfold bW at b
 rw [ce] at a b
 cases e:(i0 n)[i]? with
 |none=>rw [e] at a;cases a
 |some c=>rw [e] at a b;cases a;cases b;exact .int _⟩
theorem dh {xs:List V} {d:Dv} {M:Mh} {H:Hp} (r:aG β M H xs [d]):∃v,xs=[v]/\Rz β M H v d :=by
 match xs,r with
 | [v],r=>exact ⟨v,rfl,r.head⟩
 | [],r=>exact absurd r.len (by simp)
 |_::_::_,r=>exact absurd r.len (by simp)
theorem gP {xs:List V} {d e:Dv} {M:Mh} {H:Hp} (r:aG β M H xs [d,e]):∃v u,xs=[v,u]/\Rz β M H v d/\Rz β M H u e :=by
 match xs,r with
 | [v,u],r=>exact ⟨v,u,rfl,r.head,r.tail.head⟩
 | [],r=>exact absurd r.len (by simp)
 | [_],r=>exact absurd r.len (by simp)
 |_::_::_::_,r=>exact absurd r.len (by simp)
section
variable {e e1 e2:dL} {pr pos:wn}
theorem LO {σ:St} {H:Hp} {R:It->Hp->Prop} (h:lI Γ (ziRng1 pa) σ H R):F3 (lA Γ pa) σ H R :=by
 obtain ⟨β,ρ,M,R',zr,h,q⟩:=h
 refine ⟨β,ρ,M,_,zr,h,fun ds M1 vs H1 x1 r1 h1=>?_⟩
 revert h1
 split
 ·rintro ⟨b1,b2,h1⟩
  obtain ⟨v,rfl,r⟩:=dh r1
  rw [aL r]
  exact ⟨_,rfl,b1,b2,q _ _ _ _ x1 (ir ud fun M' H' x=>qV) h1⟩
 ·exact fun h=>h.elim
theorem LQ {σ:St} {H:Hp} {R:It->Hp->Prop} (h:lI Γ (ziRng2 pa) σ H R):F4 (lA Γ pa) σ H R :=by
 obtain ⟨β,ρ,M,R',zr,h,q⟩:=h
 refine ⟨β,ρ,M,_,zr,h,fun ds M1 vs H1 x1 r1 h1=>?_⟩
 revert h1
 split
 ·rintro ⟨b1,h1⟩
  obtain ⟨v,u,rfl,r,r'⟩:=gP r1
  rw [aL r,aL r']
  exact ⟨_,_,rfl,b1,q _ _ _ _ x1 (ir ud fun M' H' x=>qV) h1⟩
 ·exact fun h=>h.elim
end
def zLoop (g:cR) (tb:bV) (D:gh):List Dv->aB->Mh->Prop
 | [],ρ,M=>D.nx ρ M
 |d::ds,ρ,M=>g d ρ M fun gd M2=>tb {D with nx:=zLoop g tb D ds,ct:=zLoop g tb D ds,bk:=D.nx} gd M2
def zFor (zi:fU) (g:cR) (tb:bV):bV:=fun D ρ M=>zi ρ M fun ds M1=>zLoop g tb D ds ρ M1
def zForM (zi:fU) (g:cR) (tb:Mh->bV):bV:=fun D ρ M=>zi ρ M fun ds M1=>zLoop g (tb M1) D ds ρ M1
theorem Zr.root {M:Mh} {ρ:aB} {σ:St} {H:Hp} (z:Zr Γ β M ρ σ H):Zr ⟨β,M,H⟩ β M ρ σ H:=⟨rfl,rfl,rfl,rfl,fun _ h=>h,z.mz.wf,.refl,z.mz,z.len,z.at'⟩
theorem Zr.Cu {M M1:Mh} {ρ Qp:aB} {σ o4:St} {H H1:Hp} (z:Zr Γ β M ρ σ H) (y:Zr ⟨β,M,H⟩ β M1 Qp o4 H1):Zr Γ β M1 Qp o4 H1:=⟨z.eP,z.ew,z.eK,z.et,z.sub,z.wf,z.ent.trans y.ent,y.mz,y.len,y.at'⟩
theorem OS {zi:fU} {g:cR} {tb:Mh->bV} {t:TS} (hb:∀aW:Gz,aW.P=Γ.P->aW.w=Γ.w->aW.K=Γ.K->aW.tb=Γ.tb->∀D σ H,lS aW (tb aW.M0) D σ H->t D σ H) {tg:TG} (hg:∀aW:Gz,aW.P=Γ.P->aW.w=Γ.w->aW.K=Γ.K->aW.tb=Γ.tb->∀x σ H N,lG aW g x σ H N->tg x σ H N) {D:Ends} {σ:St} {H:Hp} (h:lS Γ (zForM zi g tb) D σ H):J0 (lI Γ zi) tg t D σ H :=by
 obtain ⟨β,ρ,M,D',zr,h,r⟩:=h
 refine ⟨β,ρ,M,_,zr,h,fun ds M1 H1 J x1 it h1=>?_⟩
 have kQ:=zr.step x1
 refine ⟨fun i m aF H'=>m=ds.length - i/\i<=ds.length/\∃bI M',Zr ⟨β,M1,H1⟩ β M' bI aF H'/\zLoop g (tb M1) D' (ds.drop i) bI M',⟨ds.length,rfl,sw _,ρ,M1,kQ.root,h1⟩,?_⟩
 rintro i m aF H' ⟨rfl,hi,bI,M',gZ,h'⟩
 have ev:∀{M2:Mh} {gd:aB} {iL:St} {H2:Hp},Zr ⟨β,M1,H1⟩ β M2 gd iL H2->Ev β M H M2 H2:=fun z=>x1.ev.trans ⟨z.ent.keep,z.ent.new,z.mz⟩
 by_cases bj:i<ds.length
 ·have q:=(it β M' H' .refl gZ.ent gZ.mz i).1 bj
  refine .inr ⟨q.1,fun iL H2=>∃gd M2,Zr ⟨β,M1,H1⟩ β M2 gd iL H2/\zLoop g (tb M1) D' (ds.drop (i+1)) gd M2,fun iL H2 ⟨gd,M2,GC,h2⟩=>⟨ds.length - (i+1),by omega,rfl,bj,gd,M2,GC,h2⟩,fun v nN y=>?_⟩
  obtain ⟨x2,d,hd,rd⟩:=q.2 v nN y
  have e:ds.drop i=d::ds.drop (i+1) :=by
   rw [KM bj]
   rw [ag bj] at hd
   cases hd
   rfl
  rw [e] at h'
  refine hg ⟨β,M1,H1⟩ zr.eP zr.ew zr.eK zr.et _ _ _ _ ⟨β,d,bI,M',_,gZ.step x2,rd,h',fun TF M3 mW H3 x3 LR h3=>hb ⟨β,M1,H1⟩ zr.eP zr.ew zr.eK zr.et _ _ _ ⟨β,TF,M3,_,LR,h3,?_⟩⟩
  exact ⟨fun rF M4 Cv H4 x4 m5 h4=>⟨rF,M4,m5,h4⟩,fun d4 M4 v4 H4 x4 e4 r4 h4=>r.rt _ _ _ _ (x1.ev.trans ⟨e4.keep,e4.new,x4.mz⟩) (kQ.ent.trans e4) r4 h4,fun rF M4 Cv H4 x4 m5 h4=>r.nx _ _ _ _ (ev m5) (kQ.Cu m5) h4,fun rF M4 Cv H4 x4 m5 h4=>⟨rF,M4,m5,h4⟩⟩
 ·have e:i=ds.length :=by omega
  subst e
  rw [Wo] at h'
  exact .inl ⟨(it β M' H' .refl gZ.ent gZ.mz _).2 (cr _),r.nx _ _ _ _ (ev gZ) (kQ.Cu gZ) h'⟩
def TH (Γ:Gz) (p:Mh->bV):TS:=fun D σ H=>∃aW:Gz,aW.P=Γ.P/\aW.w=Γ.w/\aW.K=Γ.K/\aW.tb=Γ.tb/\lS aW (p aW.M0) D σ H
def TJ (Γ:Gz) (p:cR):TG:=fun x σ H N=>∃aW:Gz,aW.P=Γ.P/\aW.w=Γ.w/\aW.K=Γ.K/\aW.tb=Γ.tb/\lG aW p x σ H N
theorem Ih {body:List r6} {iter:dL} {zi:fU} {g:cR} {tb:Mh->bV} {pos:wn} (hp:XC (model X.prog X.w) X.A X.env X.xe) (hc:X.calm=true) (hi:QI Γ X tg iter zi)
  (GD:∀(aW:Gz) (M1:Mh),aW.M0=M1->aW.P=Γ.P->aW.w=Γ.w->aW.K=Γ.K->aW.tb=Γ.tb->QG aW X tg g/\kP aW X body (tb M1))
  (hs:∀x,foldedSetIterable iter X.env x=pure x :=by intro _;rfl):QS Γ X (.For tg iter body [] pos) (zForM zi g tb):=
 (J4 (g:=TJ Γ g) (tb:=TH Γ tb) hp hc hi (fun pins s σ H v u Q I r h=>by obtain ⟨aW,e1,e2,e3,e4,h⟩:=h;exact (GD aW _ rfl e1 e2 e3 e4).1 pins s σ H v u Q I r h) ⟨fun pins s σ H D I h=>by obtain ⟨aW,e1,e2,e3,e4,h⟩:=h;exact (GD aW _ rfl e1 e2 e3 e4).2 pins s σ H D I h⟩ hs).imp
  fun D σ H h=>OS (fun aW e1 e2 e3 e4 D σ H h=>⟨aW,e1,e2,e3,e4,h⟩) (fun aW e1 e2 e3 e4 x σ H N h=>⟨aW,e1,e2,e3,e4,h⟩) h
theorem b8 {body:List r6} {iter:dL} {zi:fU} {g:cR} {tb:bV} {pos:wn} (hp:XC (model X.prog X.w) X.A X.env X.xe) (hc:X.calm=true) (hi:QI Γ X tg iter zi)
  (GD:∀aW:Gz,aW.P=Γ.P->aW.w=Γ.w->aW.K=Γ.K->aW.tb=Γ.tb->QG aW X tg g/\kP aW X body tb)
  (hs:∀x,foldedSetIterable iter X.env x=pure x :=by intro _;rfl):QS Γ X (.For tg iter body [] pos) (zFor zi g tb):=Ih (tb:=fun _=>tb) hp hc hi (fun aW M1 _ e1 e2 e3 e4=>GD aW e1 e2 e3 e4) hs
theorem a7 {a:dL} {p pos:wn} (hg:Gl X "range") (hm:X.mg "range" = none) (ha:QA Γ X [a] pa) (hs:starEach [a] X.env=[(false,eval a X.env)] :=by rfl):QI Γ X tg (.Call (.Name "range" p) [a] [] pos) (ziRng1 pa):=(Bd hg hm ha hs).imp fun σ H R h=>LO h
theorem Cw {a b:dL} {p pos:wn} (hg:Gl X "range") (hm:X.mg "range" = none) (ha:QA Γ X [a,b] pa) (hs:starEach [a,b] X.env=[(false,eval a X.env),(false,eval b X.env)] :=by rfl) (yy:starEach [b] X.env=[(false,eval b X.env)] :=by rfl) :
  QI Γ X tg (.Call (.Name "range" p) [a,b] [] pos) (ziRng2 pa):=(Be hg hm ha hs yy).imp fun σ H R h=>LQ h
def Cy (c:cU) (tb:bV):bV:=fun D ρ M=>∃W:Nat->aB->Mh->Prop,(∃m,W m ρ M)/\∀m ρ M,W m ρ M->
 c ρ M fun b M1=>if b=true then tb {D with nx:=fun bI M'=>∃m',m'<m/\W m' bI M',ct:=fun bI M'=>∃m',m'<m/\W m' bI M',bk:=D.nx} ρ M1 else D.nx ρ M1
theorem Ii {c:cU} {tb:bV} {D:Ends} {σ:St} {H:Hp} (h:lS Γ (Cy c tb) D σ H):Ba (lT Γ c) (lS Γ tb) D σ H :=by
 obtain ⟨β,ρ,M,D',zr,⟨W,⟨m0,w0⟩,turn⟩,r⟩:=h
 refine ⟨fun m aF H'=>∃bI M',Ev β M H M' H'/\Zr Γ β M' bI aF H'/\W m bI M',⟨m0,ρ,M,.refl zr.mz,zr,w0⟩,?_⟩
 rintro m aF H' ⟨bI,M',x',gZ,w'⟩
 refine ⟨β,bI,M',_,gZ,turn m bI M' w',fun k M1 H1 x1 h1=>?_⟩
 have Cz:=x'.trans x1.ev
 cases k with
 |true=>
  dsimp only at h1 ⊢
  rw [if_pos rfl] at h1 ⊢
  refine ⟨fun iL H2=>∃m',m'<m/\∃gd M2,Ev β M H M2 H2/\Zr Γ β M2 gd iL H2/\W m' gd M2,fun iL H2 h2=>h2,β,bI,M1,_,gZ.step x1,h1,?_⟩
  exact ⟨fun rF M4 Cv H4 x4 m5 ⟨m',hm,w4⟩=>⟨m',hm,rF,M4,Cz.trans x4,m5,w4⟩,fun d4 M4 v4 H4 x4 e4 r4 h4=>r.rt _ _ _ _ (Cz.trans x4) e4 r4 h4,fun rF M4 Cv H4 x4 m5 h4=>r.nx _ _ _ _ (Cz.trans x4) m5 h4,fun rF M4 Cv H4 x4 m5 ⟨m',hm,w4⟩=>⟨m',hm,rF,M4,Cz.trans x4,m5,w4⟩⟩
 |false=>
  dsimp only at h1 ⊢
  rw [if_neg gl] at h1 ⊢
  exact r.nx _ _ _ _ Cz (gZ.step x1) h1
theorem mr {body:List r6} {c:dL} {zc:cU} {tb:bV} {pos:wn} (hp:XC (model X.prog X.w) X.A X.env X.xe) (hc:QT Γ X c zc) (hb:kP Γ X body tb):QS Γ X (.While c body [] pos) (Cy zc tb):=(D1 hp hc hb).imp fun D σ H h=>Ii h
theorem bo {g:cR} {tb:bV} {D:gh} (J:Nat->aB->Mh->Prop) {ds:List Dv} {ρ:aB} {M:Mh} (h0:J 0 ρ M)
  (hs:∀i d ρ M (N:aB->Mh->Prop),ds[i]?=some d->J i ρ M->(∀bI M',J (i+1) bI M'->N bI M')->g d ρ M fun gd M2=>tb {D with nx:=N,ct:=N,bk:=D.nx} gd M2)
  (hd:∀ρ M,J ds.length ρ M->D.nx ρ M):zLoop g tb D ds ρ M :=by
 have key:∀(n i:Nat) ρ M,n=ds.length - i->i<=ds.length->J i ρ M->zLoop g tb D (ds.drop i) ρ M :=by
  intro n
  induction n with
  |zero=>
   intro i ρ M e hi h
   have:i=ds.length :=by omega
   subst this
   rw [Wo]
   exact hd _ _ h
  |succ n ih=>
   intro i ρ M e hi h
   have bj:i<ds.length :=by omega
   rw [KM bj]
   exact hs i _ ρ M _ (ag bj) h fun ρ M h=>ih (i+1) ρ M (by omega) bj h
 exact key _ 0 ρ M rfl (sw _) h0
end
section
variable {X:Cx} {Γ:Gz} {β:Bz}
def zBlock (tn:Nat) (idx:List Nat) (ρ:aB):aB:=io tn none++idx.map fun i=>(ρ[i]?).join
theorem Zr.block {M:Mh} {ρ:aB} {σ:St} {H:Hp} (z:Zr Γ β M ρ σ H) (tn:Nat) (idx:List Nat):Zr Γ β M (zBlock tn idx ρ) (bg tn idx σ) H:=⟨z.eP,z.ew,z.eK,z.et,z.sub,z.wf,z.ent,z.mz,by simp [zBlock,bg],fun i d e=>by
 unfold zBlock at e
 unfold bg
 rw [WJ] at e ⊢
 rw [FF] at e ⊢
 split at e
 ·rw [AS] at e
  split at e <;> cases e
 ·rename_i hi
  rw [if_neg hi]
  rw [ce] at e ⊢
  cases q:idx[i - tn]? with
  |none=>rw [q] at e;cases e
  |some j=>
   rw [q] at e
   have e2:ρ[j]?=some (some d) :=by
    simp only [LB,GG] at e
    cases q2:ρ[j]? with
    |none=>rw [q2] at e;cases e
    |some o=>rw [q2] at e;simp only [Xw] at e;rw [e]
   obtain ⟨v,hv,r⟩:=z.at' j d e2
   exact ⟨v,by simp [hv],r⟩⟩
theorem Zr.enter {M:Mh} {ρ:aB} {σ:St} {H:Hp} {D:ac} {o:HO} (z:Zr Γ β M ρ σ H) (hD:H D=none) (ho:nJ o=true):Zr Γ (β.add D) M ρ σ (upd H D o):=
 ⟨z.eP,z.ew,z.eK,z.et,fun a h=>im _ (z.sub a h),z.wf,z.ent.over (z.ent.gone hD (by
  cases e:Γ.M0 D with
  |none=>rfl
  |some u=>have:=z.ent.dom D (by rw [e];rfl);rw [z.mz.free hD] at this;cases this)),z.mz.enter hD ho,z.len,fun i d e=>let ⟨v,h,r⟩:=z.at' i d e;⟨v,h,r.enter hD⟩⟩
theorem Zr.over {M:Mh} {ρ:aB} {σ:St} {H:Hp} {D:ac} {o:HO} (z:Zr Γ β M ρ σ H) (hD:D∈β.hid) (ho:nJ o=true) (hM:M D=none) (ht:D ∉ β.tb) (h0:Γ.H0 D=none):Zr Γ β M ρ σ (upd H D o):=
 ⟨z.eP,z.ew,z.eK,z.et,z.sub,z.wf,z.ent.over h0,z.mz.over hD ho hM ht,z.len,fun i d e=>let ⟨v,h,r⟩:=z.at' i d e;⟨v,h,r.over hD⟩⟩
abbrev rG (Γ:Gz) (X:Cx) (ifs:List dL) (t:cU):Prop:=gL X ifs (lT Γ t)
def zNoIf:cU:=fun _ M Q=>Q true M
theorem eY:rG Γ X [] zNoIf:=HF.imp fun σ H Q ⟨β,ρ,M,Q',zr,h,q⟩=>q true M H (.refl zr.mz) h
theorem sF {c:dL} {tc:cU} (h:QT Γ X c tc):rG Γ X [c] tc:=HG h
def fX (g:cR) (tt:cU) (te:aM):List Dv->aB->Mh->(List Dv->Mh->Prop)->Prop
 | [],_,M,Q=>Q [] M
 |d::ds,τ,M,Q=>g d τ M fun aD M2=>tt aD M2 fun b M3=>if b=true then te aD M3 fun y M4=>fX g tt te ds aD M4 fun ys M5=>Q (y::ys) M5 else fX g tt te ds aD M3 Q
structure Acc (Γ:Gz) (β:Bz) (D:ac) (M1:Mh) (H1:Hp) (cj:aB) (M:Mh) (τ:St) (H:Hp) (acc:List V) (bZ:List Dv):Prop where
 ey:Ey M1 H1 M H
 m:M D=none
 zr:Zr Γ (β.add D) M cj τ H
 at':H D=some (.lst acc)
 rs:aG (β.add D) M H acc bZ
 h1:H1 D=none
 h0:Γ.H0 D=none
 nt:D ∉ β.tb
theorem Acc.start {D:ac} {M1:Mh} {H1:Hp} {cj:aB} {τ:St} (zr:Zr Γ β M1 cj τ H1) (hD:H1 D=none):Acc Γ β D M1 H1 cj M1 τ (upd H1 D (.lst [])) [] []:=
 ⟨Ey.refl.over hD,zr.mz.free hD,zr.enter hD rfl,ay,.nil,hD,zr.ent.gone hD (by
  cases e:Γ.M0 D with
  |none=>rfl
  |some u=>have:=zr.ent.dom D (by rw [e];rfl);rw [zr.mz.free hD] at this;cases this),zr.mz.EW hD⟩
section
variable {D:ac} {M1 M M2:Mh} {H1 H H2:Hp} {cj LU:aB} {τ aD:St} {acc:List V} {bZ:List Dv}
theorem Acc.step (A:Acc Γ β D M1 H1 cj M τ H acc bZ) (x:Ex (β.add D) M H M2 H2) (z:Zr Γ (β.add D) M2 LU aD H2):Acc Γ β D M1 H1 LU M2 aD H2 acc bZ:=
 ⟨A.ey.trans x.toEy,x.new D _ A.m A.at',z,x.get A.m A.at' rfl,A.rs.ex x,A.h1,A.h0,A.nt⟩
theorem Acc.snoc (A:Acc Γ β D M1 H1 cj M τ H acc bZ) {y:V} {d:Dv} (r:Rz (β.add D) M H y d):Acc Γ β D M1 H1 cj M τ (upd H D (.lst (acc++[y]))) (acc++[y]) (bZ++[d]) :=by
 have hD:D∈(β.add D).hid:=l9
 exact ⟨A.ey.over A.h1,A.m,A.zr.over hD rfl A.m A.nt A.h0,ay,⟨by simp [A.rs.len],fun i v d a b=>((A.rs.snoc r).at' i v d a b).over hD⟩,A.h1,A.h0,A.nt⟩
theorem Acc.fz (A:Acc Γ β D M1 H1 cj M τ H acc bZ) (m1:Mz β M1 H1):Fz β M D:=⟨A.m,(m1.fz A.h1).2⟩
theorem Acc.mz (A:Acc Γ β D M1 H1 cj M τ H acc bZ):Mz β M H:=Mz.sub (β:=β.add D) (cQ:=β) rfl rfl rfl rfl (fun a h=>im _ h) A.zr.mz
theorem Acc.items (A:Acc Γ β D M1 H1 cj M τ H acc bZ):aG β M H acc bZ:=⟨A.rs.len,fun i v d a b=>Rz.sub (β:=β.add D) (cQ:=β) rfl rfl rfl (fun a h=>im _ h) (A.rs.at' i v d a b)⟩
theorem Acc.ex (A:Acc Γ β D M1 H1 cj M τ H acc bZ):Ex β M1 H1 M H:=⟨A.ey,A.mz⟩
end
def zComp (tn:Nat) (idx:List Nat) (zi:fU) (g:cR) (tt:cU) (te:aM):aM:=fun ρ M Q=>zi ρ M fun ds M1=>ds.length<sizeLine/\fX g tt te ds (zBlock tn idx ρ) M1 fun ys M2=>Q (.lst ys) M2
def zCompP (tn:Nat) (idx:List Nat) (zi:fU) (g:cR) (tt:cU) (te:aM):aM:=fun ρ M Q=>zi ρ M fun ds M1=>ds.length<sizeLine/\fX g tt te ds (zBlock tn idx ρ) M1 fun ys M2=>∀a,M2 a=none->Q (.ptr a) (aA M2 a (.lst ys))
def zTupG (tn:Nat) (idx:List Nat) (zi:fU) (g:cR) (tt:cU) (te:aM):aM:=fun ρ M Q=>zi ρ M fun ds M1=>ds.length<sizeLine/\fX g tt te ds (zBlock tn idx ρ) M1 fun ys M2=>Q (.tup ys) M2
variable {zi:fU} {g:cR} {tt:cU} {te:aM} {tn:Nat} {idx:List Nat}
def lb (Γ:Gz) (β:Bz) (D:ac) (M1:Mh) (H1:Hp) (g:cR) (tt:cU) (te:aM) (ds:List Dv) (Q':List Dv->Mh->Prop) (i m:Nat) (τ:St) (H:Hp):Prop:=
 m=ds.length - i/\i<=ds.length/\∃cj M acc bZ,Acc Γ β D M1 H1 cj M τ H acc bZ/\acc.length<=i/\fX g tt te (ds.drop i) cj M fun ys M2=>Q' (bZ++ys) M2
theorem nR {D:ac} {M1:Mh} {H1:Hp} {ds:List Dv} {Q':List Dv->Mh->Prop} {J:It} (it:Cq β J ds M1 H1) (hlen:ds.length<sizeLine) {i m:Nat} {τ:St} {H:Hp} (w:lb Γ β D M1 H1 g tt te ds Q' i m τ H)
  {C:V->St->Hp->Prop} (hC:∀y aD H4 acc,H4 D=some (.lst acc)->acc.length<sizeLine->(∃m',m'<m/\lb Γ β D M1 H1 g tt te ds Q' (i+1) m' aD (upd H4 D (.lst (acc++[y]))))->C y aD H4) :
  (J.stop i H/\∃cj M acc bZ,Acc Γ β D M1 H1 cj M τ H acc bZ/\acc.length<sizeLine/\Q' bZ M) \/
  (J.go i H/\∀x H',J.yld i H x H'->lG Γ g x τ H' fun aD H2=>lT Γ tt aD H2 fun b H3=>if b=true then lE Γ te aD H3 fun y H4=>C y aD H4 else ∃m',m'<m/\lb Γ β D M1 H1 g tt te ds Q' (i+1) m' aD H3) :=by
 obtain ⟨rfl,hi,cj,M,acc,bZ,A,K8,h⟩:=w
 have q:=it (β.add D) M H (.add A.h1) A.ey A.zr.mz i
 by_cases bj:i<ds.length
 ·refine .inr ⟨(q.1 bj).1,fun x H' y=>?_⟩
  obtain ⟨x2,d,hd,rd⟩:=(q.1 bj).2 x H' y
  have e:ds.drop i=d::ds.drop (i+1) :=by
   rw [KM bj]
   rw [ag bj] at hd
   cases hd
   rfl
  rw [e] at h
  have A2:=A.step x2 (A.zr.step x2)
  refine ⟨β.add D,d,cj,M,_,A2.zr,rd,h,fun mw M3 pA H3 x3 z3 h3=>?_⟩
  have A3:=A2.step x3 z3
  refine ⟨β.add D,mw,M3,_,z3,h3,fun b M4 H4 x4 h4=>?_⟩
  have A4:=A3.step x4 (z3.step x4)
  cases b with
  |false=>
   dsimp only at h4 ⊢
   rw [if_neg gl] at h4 ⊢
   exact ⟨ds.length - (i+1),by omega,rfl,bj,mw,M4,acc,bZ,A4,by omega,h4⟩
  |true=>
   dsimp only at h4 ⊢
   rw [if_pos rfl] at h4 ⊢
   refine ⟨β.add D,mw,M4,_,A4.zr,h4,fun yd M5 yv H5 x5 r5 h5=>?_⟩
   have A5:=A4.step x5 (A4.zr.step x5)
   refine hC yv pA H5 acc A5.at' (by omega) ⟨ds.length - (i+1),by omega,rfl,bj,mw,M5,acc++[yv],bZ++[yd],A5.snoc r5,by simp;omega,?_⟩
   have e2:(fun ys M2=>Q' (bZ++[yd]++ys) M2)=fun ys M2=>Q' (bZ++yd::ys) M2 :=by
    funext ys M2
    rw [LG]
    rfl
   rw [e2]
   exact h5
 ·have e:i=ds.length :=by omega
  subst e
  rw [Wo] at h
  refine .inl ⟨q.2 (cr _),cj,M,acc,bZ,A,by omega,?_⟩
  have h':Q' (bZ++[]) M:=h
  rwa [Fa] at h'
theorem my {D:ac} {M1:Mh} {H1:Hp} {ds:List Dv} {Q':List Dv->Mh->Prop} {cj:aB} {τ:St} (zr:Zr Γ β M1 cj τ H1) (hD:H1 D=none) (h:fX g tt te ds cj M1 Q'):lb Γ β D M1 H1 g tt te ds Q' 0 ds.length τ (upd H1 D (.lst [])):=
 ⟨rfl,sw _,cj,M1,[],[],.start zr hD,cr _,h⟩
theorem CA {σ:St} {H:Hp} {Q:VK} (h:lE Γ (zComp tn idx zi g tt te) σ H Q):qM tn idx (lI Γ zi) (lG Γ g) (lT Γ tt) (lE Γ te) σ H Q :=by
 obtain ⟨β,ρ,M,Q',zr,h,q⟩:=h
 refine ⟨β,ρ,M,_,zr,h,fun ds M1 H1 J x1 it ⟨hlen,h1⟩ D hD=>?_⟩
 have kQ:=zr.step x1
 refine ⟨lb Γ β D M1 H1 g tt te ds fun ys M2=>Q' (.lst ys) M2,⟨_,my (kQ.block tn idx) hD h1⟩,fun i m τ H' w=>?_⟩
 rcases nR it hlen w (C:=fun y aD H4=>∃ys m',H4 D=some (.lst ys)/\ys.length<sizeLine/\m'<m/\lb Γ β D M1 H1 g tt te ds (fun ys M2=>Q' (.lst ys) M2) (i+1) m' aD (upd H4 D (.lst (ys++[y])))) (fun y aD H4 acc e hl ⟨m',hm,w'⟩=>⟨acc,m',e,hl,hm,w'⟩) with ⟨hs,cj,M',acc,bZ,A,_,hq⟩|z
 ·exact .inl ⟨hs,q _ _ _ _ (x1.trans A.ex) (wa (A.fz kQ.mz) A.at' A.items) hq⟩
 ·exact .inr z
theorem sG {σ:St} {H:Hp} {Q:VK} (h:lE Γ (zCompP tn idx zi g tt te) σ H Q):qM tn idx (lI Γ zi) (lG Γ g) (lT Γ tt) (lE Γ te) σ H Q :=by
 obtain ⟨β,ρ,M,Q',zr,h,q⟩:=h
 refine ⟨β,ρ,M,_,zr,h,fun ds M1 H1 J x1 it ⟨hlen,h1⟩ D hD=>?_⟩
 have kQ:=zr.step x1
 refine ⟨lb Γ β D M1 H1 g tt te ds fun ys M2=>∀a,M2 a=none->Q' (.ptr a) (aA M2 a (.lst ys)),⟨_,my (kQ.block tn idx) hD h1⟩,fun i m τ H' w=>?_⟩
 rcases nR it hlen w (C:=fun y aD H4=>∃ys m',H4 D=some (.lst ys)/\ys.length<sizeLine/\m'<m/\lb Γ β D M1 H1 g tt te ds (fun ys M2=>∀a,M2 a=none->Q' (.ptr a) (aA M2 a (.lst ys))) (i+1) m' aD (upd H4 D (.lst (ys++[y])))) (fun y aD H4 acc e hl ⟨m',hm,w'⟩=>⟨acc,m',e,hl,hm,w'⟩) with ⟨hs,cj,M',acc,bZ,A,_,hq⟩|z
 ·refine .inl ⟨hs,?_⟩
  have TK:D ∉ β.hid:=(A.fz kQ.mz).2
  have hM:M' D=none:=A.m
  have mz:Mz β (aA M' D (.lst bZ)) H':=by
   have rz:∀{v:V} {d:Dv},Rz (β.add D) M' H' v d->Rz β (aA M' D (.lst bZ)) H' v d:=fun r=>by
    have ne:∀a,Fz (β.add D) M' a->Fz β (aA M' D (.lst bZ)) a:=fun a f=>⟨by rw [ah (fun z=>f.2 (by rw [z];exact l9))];exact f.1,fun z=>f.2 (im _ z)⟩
    induction r with
    |int i=>exact .int i
    |bl b=>exact .bl b
    |au=>exact .au
    |str z=>exact .str z
    |tup m e hl h ih=>exact .tup (ne _ m) e hl ih
    |lst m e hl h ih=>exact .lst (ne _ m) e hl ih
    |dk m e hk hl h ih=>exact .dk (ne _ m) e hk hl ih
    |dt m e hk hl h ih=>exact .dt (ne _ m) e hk hl ih
    |bO m e m2 e2 hl h ih=>exact .bO (ne _ m) e (ne _ m2) e2 hl ih
    |set m e=>exact .set (ne _ m) e
    |ptr m=>exact .ptr (by unfold aA;split;rfl;exact m)
    |exc m e=>exact .exc (ne _ m) e
    |bD m e=>exact .bD (ne _ m) e
    |cz m e=>exact .cz (ne _ m) e
    |cA e=>exact .cA e
    |raw v=>exact .raw v
   refine ⟨fun a o e=>?_,A.zr.mz.tabs,fun a ha=>A.zr.mz.hids a (im _ ha),fun a o e z=>?_,A.zr.mz.lams⟩
   by_cases ha:a=D
   ·subst ha
    rw [updM_same] at e
    cases e
    exact ⟨acc,A.at',A.rs.len,fun i v d a b=>rz (A.rs.at' i v d a b)⟩
   ·rw [ah ha] at e
    have z:=A.zr.mz.obj a o e
    cases o with
    |lst ds=>obtain ⟨vs,z,l,r⟩:=z;exact ⟨vs,z,l,fun i v d a b=>rz (r i v d a b)⟩
    |dk ks ds=>obtain ⟨vs,z,hk,l,r⟩:=z;exact ⟨vs,z,hk,l,fun i v d a b=>rz (r i v d a b)⟩
    |dt ks ds=>obtain ⟨vs,z,hk,l,r⟩:=z;exact ⟨vs,z,hk,l,fun i v d a b=>rz (r i v d a b)⟩
    |dm=>exact z
   ·by_cases ha:a=D
    ·subst ha;exact TK z
    ·rw [ah ha] at e
     exact A.zr.mz.apart a o e (im _ z)
  have ey:Ey M1 H1 (aA M' D (.lst bZ)) H':=⟨A.ey.keep,fun a h=>by unfold aA;split;rfl;exact A.ey.dom a h,fun a o m e=>by rw [ah (aZ e A.h1)];exact A.ey.new a o m e⟩
  exact q _ _ _ _ (x1.trans ⟨ey,mz⟩) (.ptr (by rw [updM_same];rfl)) (hq D hM)
 ·exact .inr z
theorem LV {P:ac} {zi:fU} {R:It->Hp->Prop} {σ:St} {H:Hp} {ρ:aB} {M:Mh} {R':List Dv->Mh->Prop} (hP:P∈Γ.tb) (zr:Zr Γ β M ρ σ H) (h:zi ρ M R') (q:∀ds M' H' J,Ex β M H M' H'->Cq β J ds M' H'->R' ds M'->R J H'):Gd P (lI Γ zi) R σ H :=by
 refine ⟨β,ρ,M,_,zr,h,fun ds M1 H1 J x1 it h1=>?_⟩
 have Ga:P∈β.tb :=by rw [zr.et];exact hP
 refine ⟨x1.mz.tabs P Ga,fun ps t=>?_⟩
 have x2:=Ex.grow x1.mz Ga t
 refine q ds M1 _ J (x1.trans x2) (fun cQ M' H' bx ey mz=>it cQ M' H' ⟨bx.P,bx.w,bx.K,bx.tb,bx.old,fun a ha=>?_⟩ (x2.toEy.trans ey) mz) h1
 rcases bx.new a ha with z|z
 ·exact .inl z
 ·right
  cases e:H1 a with
  |none=>rfl
  |some o=>obtain ⟨u,hu⟩:=EV (p:=P) (o:=.cO ps) ⟨o,e⟩;rw [z] at hu;cases hu
theorem LW {P:ac} (hP:P∈Γ.tb) {σ:St} {H:Hp} {Q:VK} (h:lE Γ (zTupG tn idx zi g tt te) σ H Q):Gh P tn idx (lI Γ zi) (lG Γ g) (lT Γ tt) (lE Γ te) σ H Q :=by
 obtain ⟨β,ρ,M,Q',zr,h,q⟩:=h
 refine LV hP zr h fun ds M1 H1 J x1 it ⟨hlen,h1⟩ D hD=>?_
 have kQ:=zr.step x1
 refine ⟨lb Γ β D M1 H1 g tt te ds fun ys M2=>Q' (.tup ys) M2,⟨_,my (kQ.block tn idx) hD h1⟩,fun i m τ H' w=>?_⟩
 rcases nR it hlen w (C:=fun y aD H4=>takeIn D y H4 fun H5=>∃m',m'<m/\lb Γ β D M1 H1 g tt te ds (fun ys M2=>Q' (.tup ys) M2) (i+1) m' aD H5) (fun y aD H4 acc e hl hw=>⟨acc,e,hl,hw⟩) with ⟨hs,cj,M',acc,bZ,A,_,hq⟩|z
 ·refine .inl ⟨hs,acc,A.at',fun l hl=>?_⟩
  have x2:=Ex.lay A.mz hl (.tup acc)
  exact q _ _ _ _ (x1.trans (A.ex.trans x2)) (jX (A.mz.fz hl) ay (A.items.ex x2)) hq
 ·exact .inr z
def kR (g:cR) (tt:cU) (te:aM):List Dv->aB->Mh->(Bool->Mh->Prop)->Prop
 | [],_,M,Q=>Q true M
 |d::ds,τ,M,Q=>g d τ M fun aD M2=>tt aD M2 fun b M3=>if b=true then te aD M3 (zBool fun c M4=>if c=false then Q false M4 else kR g tt te ds aD M4 Q) else kR g tt te ds aD M3 Q
def zAll (tn:Nat) (idx:List Nat) (zi:fU) (g:cR) (tt:cU) (te:aM):aM:=fun ρ M Q=>zi ρ M fun ds M1=>kR g tt te ds (zBlock tn idx ρ) M1 fun b M2=>Q (.bl b) M2
theorem OT {P:ac} (hP:P∈Γ.tb) {σ:St} {H:Hp} {Q:VK} (h:lE Γ (zAll tn idx zi g tt te) σ H Q):KN P tn idx (lI Γ zi) (lG Γ g) (lT Γ tt) (lE Γ te) σ H Q :=by
 obtain ⟨β,ρ,M,Q',zr,h,q⟩:=h
 refine LV hP zr h fun ds M1 H1 J x1 it h1=>?_
 have kQ:=zr.step x1
 refine ⟨fun i m τ H'=>m=ds.length - i/\i<=ds.length/\∃cj M',Ex β M1 H1 M' H'/\Zr Γ β M' cj τ H'/\kR g tt te (ds.drop i) cj M' fun b M2=>Q' (.bl b) M2,⟨_,rfl,sw _,_,M1,.refl x1.mz,kQ.block tn idx,h1⟩,?_⟩
 rintro i m τ H' ⟨rfl,hi,cj,M',x',gZ,h'⟩
 have qq:=it β M' H' .refl x'.toEy x'.mz i
 by_cases bj:i<ds.length
 ·refine .inr ⟨(qq.1 bj).1,fun x nN y=>?_⟩
  obtain ⟨x2,d,hd,rd⟩:=(qq.1 bj).2 x nN y
  have e:ds.drop i=d::ds.drop (i+1) :=by
   rw [KM bj]
   rw [ag bj] at hd
   cases hd
   rfl
  rw [e] at h'
  refine ⟨β,d,cj,M',_,gZ.step x2,rd,h',fun mw M3 pA H3 x3 z3 h3=>⟨β,mw,M3,_,z3,h3,fun b M4 H4 x4 h4=>?_⟩⟩
  have wj:=x'.trans (x2.trans (x3.trans x4))
  cases b with
  |false=>
   dsimp only at h4 ⊢
   rw [if_neg gl] at h4 ⊢
   exact ⟨ds.length - (i+1),by omega,rfl,bj,mw,M4,wj,z3.step x4,h4⟩
  |true=>
   dsimp only at h4 ⊢
   rw [if_pos rfl] at h4 ⊢
   refine ⟨β,mw,M4,_,z3.step x4,h4,fun yd M5 yv H5 x5 r5 h5=>?_⟩
   obtain ⟨k,rfl,h6⟩:=ip h5
   refine ⟨k,cY r5,?_⟩
   cases k with
   |false=>
    rw [if_pos rfl] at h6 ⊢
    exact q _ _ _ _ (x1.trans (wj.trans x5)) (.bl _) h6
   |true=>
    rw [if_neg (by decide)] at h6 ⊢
    exact ⟨ds.length - (i+1),by omega,rfl,bj,mw,M5,wj.trans x5,(z3.step x4).step x5,h6⟩
 ·have e:i=ds.length :=by omega
  subst e
  rw [Wo] at h'
  exact .inl ⟨qq.2 (cr _),q _ _ _ _ (x1.trans x') (.bl _) h'⟩
end
section
variable {X:Cx} {Γ:Gz} {β:Bz} {K:bi}
def zII (f:Int->Int->Dv):dX:=fun d e M Q=>match d,e with | .int i,.int j=>Q (f i j) M|_,_=>False
def zIC (C:Int->Int->Prop) (f:Int->Int->Dv):dX:=fun d e M Q=>match d,e with | .int i,.int j=>C i j/\Q (f i j) M|_,_=>False
theorem nS {g:Int->Int->V} {f:Int->Int->Dv} (h:∀β M H i j,Rz β M H (g i j) (f i j)):pz Γ (tG g) (zII f):=fun β x y d e M H Q Q' _ _ _ m rx ry z q=>by
 unfold zII at z
 split at z
 ·exact ⟨_,_,aL rx,aL ry,q _ _ _ _ (.refl m) (h ..) z⟩
 ·exact z.elim
theorem rH {C:Int->Int->Prop} {g:Int->Int->V} {f:Int->Int->Dv} (h:∀β M H i j,Rz β M H (g i j) (f i j)):pz Γ (rI C g) (zIC C f):=fun β x y d e M H Q Q' _ _ _ m rx ry z q=>by
 unfold zIC at z
 split at z
 ·exact ⟨_,_,aL rx,aL ry,z.1,q _ _ _ _ (.refl m) (h ..) z.2⟩
 ·exact z.elim
theorem fL:eu Γ X (binaryOp .Add) (zII fun i j=>.int (i+j)):=⟨_,J8,nS fun _ _ _ _ _=>.int _⟩
theorem uZ:eu Γ X (binaryOp .Sub) (zII fun i j=>.int (i - j)):=⟨_,J9,nS fun _ _ _ _ _=>.int _⟩
theorem mB:eu Γ X (binaryOp .Mult) (zIC zA fun i j=>.int (i * j)):=⟨_,Ka,rH fun _ _ _ _ _=>.int _⟩
theorem wk:eu Γ X (binaryOp .FloorDiv) (zIC J6 fun i j=>.int (i / j)):=⟨_,Hx,rH fun _ _ _ _ _=>.int _⟩
theorem gm:eu Γ X (binaryOp .Mod) (zIC (fun _ j=>0<j) fun i j=>.int (i % j)):=⟨_,Kb,rH fun _ _ _ _ _=>.int _⟩
theorem OU:eu Γ X (binaryOp .Pow) (zIC J7 fun i j=>.int (i ^ j.toNat)):=⟨_,Kc,rH fun _ _ _ _ _=>.int _⟩
theorem wm:eu Γ X (compareOp .Lt) (zII fun i j=>.bl (decide (i<j))):=⟨_,Ol,nS fun _ _ _ _ _=>.bl _⟩
theorem wo:eu Γ X (compareOp .LtE) (zII fun i j=>.bl (decide (i<=j))):=⟨_,Om,nS fun _ _ _ _ _=>.bl _⟩
theorem Ah:eu Γ X (compareOp .Gt) (zII fun i j=>.bl (decide (j<i))):=⟨_,Oo,nS fun _ _ _ _ _=>.bl _⟩
def scalZ (d e:Dv):Option Bool:=match d with
 | .int i=>(match e with | .int j=>some (decide (i=j)) | .au=>some false | .str _=>some false|_=>none)
 | .bl i=>(match e with | .bl j=>some (decide (i=j)) | .au=>some false | .str _=>some false|_=>none)
 | .str i=>(match e with | .str j=>some (decide (i=j)) | .au=>some false | .int _=>some false | .bl _=>some false|_=>none)
 | .au=>(match e with | .au=>some true | .int _=>some false | .bl _=>some false | .str _=>some false|_=>none)
 |_=>none
def zEq:dX:=fun d e M Q=>match scalZ d e with|some b=>Q (.bl b) M|none=>False
def zNe:dX:=fun d e M Q=>match scalZ d e with|some b=>Q (.bl (!b)) M|none=>False
theorem wq {M:Mh} {H:Hp} {x y:V} {d e:Dv} {b:Bool} (rx:Rz β M H x d) (ry:Rz β M H y e) (h:scalZ d e=some b):D4 x y=true/\decide (x=y)=b :=by
 unfold scalZ at h
 split at h
 ·rw [aL rx]
  split at h <;> cases h
  ·rw [aL ry];exact ⟨rfl,by simp⟩
  ·rw [iS ry];exact ⟨rfl,by simp⟩
  ·rw [de ry];exact ⟨rfl,by simp⟩
 ·rw [cY rx]
  split at h <;> cases h
  ·rw [cY ry];exact ⟨rfl,by simp⟩
  ·rw [iS ry];exact ⟨rfl,by simp⟩
  ·rw [de ry];exact ⟨rfl,by simp⟩
 ·rw [de rx]
  split at h <;> cases h
  ·rw [de ry];exact ⟨rfl,by simp⟩
  ·rw [iS ry];exact ⟨rfl,by simp⟩
  ·rw [aL ry];exact ⟨rfl,by simp⟩
  ·rw [cY ry];exact ⟨rfl,by simp⟩
 ·rw [iS rx]
  split at h <;> cases h
  ·rw [iS ry];exact ⟨rfl,by simp⟩
  ·rw [aL ry];exact ⟨rfl,by simp⟩
  ·rw [cY ry];exact ⟨rfl,by simp⟩
  ·rw [de ry];exact ⟨rfl,by simp⟩
 ·cases h
theorem sH:eu Γ X (compareOp .Eq) zEq:=⟨_,Oi,fun β x y d e M H Q Q' _ _ _ m rx ry z q=>by
 unfold zEq at z
 split at z
 ·rename_i b hb
  obtain ⟨h1,h2⟩:=wq rx ry hb
  exact ⟨h1,by rw [h2];exact q _ _ _ _ (.refl m) (.bl _) z⟩
 ·exact z.elim⟩
theorem wt:eu Γ X (compareOp .NotEq) zNe:=⟨_,Oj,fun β x y d e M H Q Q' _ _ _ m rx ry z q=>by
 unfold zNe at z
 split at z
 ·rename_i b hb
  obtain ⟨h1,h2⟩:=wq rx ry hb
  exact ⟨h1,by rw [h2];exact q _ _ _ _ (.refl m) (.bl _) z⟩
 ·exact z.elim⟩
def isNonD:Dv->Option Bool
 | .au=>some true
 | .raw _=>none
 |_=>some false
def zIsN (neg:Bool):dX:=fun d e M Q=>match e,isNonD d with | .au,some b=>Q (.bl (if neg then !b else b)) M|_,_=>False
def zSS (C:bn->bn->Prop) (f:bn->bn->Dv):dX:=fun d e M Q=>match d,e with | .str i,.str j=>C i j/\Q (f i j) M|_,_=>False
theorem CB:eu Γ X (binaryOp .Add) (zSS (fun i j=>i.length+j.length<=sizeLine) fun i j=>.str (i++j)):=⟨_,zE,fun β x y d e M H Q Q' _ _ _ m rx ry z q=>by
 unfold zSS at z
 split at z
 ·exact ⟨_,_,de rx,de ry,z.1,q _ _ _ _ (.refl m) (.str _) z.2⟩
 ·exact z.elim⟩
mutual
def cB:Dv->Option Dt
 | .int i=>some (.int i)
 | .bl b=>some (.bl b)
 | .au=>some .au
 | .str z=>some (.str z)
 | .tup ds=>(oJ ds).map .tup
 | .lst ds=>(oJ ds).map .lst
 |_=>none
def oJ:List Dv->Option (List Dt)
 | []=>some []
 |d::ds=>match cB d,oJ ds with|some a,some as=>some (a::as)|_,_=>none
end
theorem mC:∀{ds:List Dv} {ts:List Dt},oJ ds=some ts->ds.length=ts.length/\∀(i:Nat) (d:Dv) (t:Dt),ds[i]?=some d->ts[i]?=some t->cB d=some t
 | [],ts,h=>by simp only [oJ,GG] at h;subst h;exact ⟨rfl,fun i d t a=>by simp at a⟩
 |d::ds,ts,h=>by
          simp only [oJ] at h
          split at h
          ·rename_i a as h1 h2
           cases h
           obtain ⟨hl,q⟩:=mC h2
           refine ⟨by simp [hl],fun i e t x y=>?_⟩
           cases i with
           |zero=>simp at x y;subst x y;exact h1
           |succ i=>rw [Go] at x y;exact q i e t x y
          ·cases h
theorem CC {M:Mh} {H:Hp} {v:V} {d:Dv} (h:Rz β M H v d):∀{t:Dt},cB d=some t->eU H v t :=by
 induction h with
 |int i=>intro t e;simp only [cB,GG] at e;subst e;exact .int i
 |bl b=>intro t e;simp only [cB,GG] at e;subst e;exact .bl b
 |au=>intro t e;simp only [cB,GG] at e;subst e;exact .au
 |str z=>intro t e;simp only [cB,GG] at e;subst e;exact .str z
 |tup m e hl h ih=>
  intro t q
  simp only [cB,lc] at q
  obtain ⟨ts,q,rfl⟩:=q
  obtain ⟨l2,at2⟩:=mC q
  refine .tup e (hl.trans l2) fun i x d hx hd=>?_
  have hi:=(br.mp hd).1
  have:=ag (l:=_) (i:=i) (show i<_ from l2▸hi)
  exact ih i x _ hx this (at2 i _ _ this hd)
 |lst m e hl h ih=>
  intro t q
  simp only [cB,lc] at q
  obtain ⟨ts,q,rfl⟩:=q
  obtain ⟨l2,at2⟩:=mC q
  refine .lst e (hl.trans l2) fun i x d hx hd=>?_
  have hi:=(br.mp hd).1
  have:=ag (l:=_) (i:=i) (show i<_ from l2▸hi)
  exact ih i x _ hx this (at2 i _ _ this hd)
 |set m e=>intro t q;simp [cB] at q
 |ptr m=>intro t q;simp [cB] at q
 |exc m e=>intro t q;simp [cB] at q
 |bD m e=>intro t q;simp [cB] at q
 |cz m e=>intro t q;simp [cB] at q
 |cA e=>intro t q;simp [cB] at q
 |dk m e hk hl h ih=>intro t q;simp [cB] at q
 |dt m e hk hl h ih=>intro t q;simp [cB] at q
 |bO m e m2 e2 hl h ih=>intro t q;simp [cB] at q
 |raw v=>intro t q;simp [cB] at q
def now (M:Mh):Dv->Dv
 | .ptr a=>match M a with|some (.lst ds)=>.lst ds|_=>.ptr a
 |d=>d
theorem yW {M:Mh} {H:Hp} {v:V} {d:Dv} (m:Mz β M H) (h:Rz β M H v d) {t:Dt} (e:cB (now M d)=some t):eU H v t :=by
 cases d with
 |ptr a=>
  simp only [now] at e
  obtain ⟨rfl,hs⟩:=b7 h
  cases q:M a with
  |none=>rw [q] at hs;cases hs
  |some o=>
   rw [q] at e
   cases o with
   |dm=>simp [cB] at e
   |dk ks es=>simp [cB] at e
   |dt ks es=>simp [cB] at e
   |lst ds=>
    obtain ⟨vs,hv,rs⟩:=m.obj a _ q
    simp only [cB,lc] at e
    obtain ⟨ts,q,rfl⟩:=e
    obtain ⟨l2,at2⟩:=mC q
    refine .lst hv (rs.len.trans l2) fun i x d hx hd=>?_
    have hi:=(br.mp hd).1
    have:=ag (l:=_) (i:=i) (show i<_ from l2▸hi)
    exact CC (rs.at' i x _ hx this) (at2 i _ _ this hd)
 |_=>exact CC h e
def nU (neg:Bool):dX:=fun d e M Q=>match cB (now M d),cB (now M e) with|some a,some b=>jT a<=60/\Q (.bl (if neg then !dN a b else dN a b)) M|_,_=>False
theorem yX {neg:Bool}:pz Γ (EA neg) (nU neg):=fun β x y d e M H Q Q' _ _ _ m rx ry z q=>by
 unfold nU at z
 split at z
 ·rename_i a b h1 h2
  exact ⟨a,b,yW m rx h1,yW m ry h2,z.1,q _ _ _ _ (.refl m) (.bl _) z.2⟩
 ·exact z.elim
theorem GF (hu:X.A.units+64<cLine):eu Γ X (compareOp .Eq) (nU false):=⟨_,Le hu,yX⟩
theorem OV (hu:X.A.units+64<cLine):eu Γ X (compareOp .NotEq) (nU true):=⟨_,Lf hu,yX⟩
def itemsM (M:Mh):Dv->Option (List Dv)
 | .tup ds=>some ds
 | .lst ds=>some ds
 | .ptr a=>match M a with|some (.lst ds)=>some ds|_=>none
 |_=>none
theorem j0 {M:Mh} {H:Hp} {x:V} {d:Dv} {ds:List Dv} (m:Mz β M H) (r:Rz β M H x d) (h:itemsM M d=some ds):∃a vs,x=.ref a/\(H a=some (.lst vs)\/H a=some (.tup vs))/\aG β M H vs ds :=by
 cases d with
 |tup es=>cases h;obtain ⟨a,vs,e,_,h,rs⟩:=cw r;exact ⟨a,vs,e,.inr h,rs⟩
 |lst es=>cases h;obtain ⟨a,vs,e,_,h,rs⟩:=fA r;exact ⟨a,vs,e,.inl h,rs⟩
 |ptr a=>
  obtain ⟨rfl,hs⟩:=b7 r
  simp only [itemsM] at h
  split at h
  ·rename_i es q
   cases h
   obtain ⟨vs,hv,rs⟩:=m.obj a _ q
   exact ⟨a,vs,rfl,.inl hv,rs⟩
  ·cases h
 |_=>cases h
theorem Ij {M:Mh} {H:Hp} {vs:List V} {ds:List Dv} (rs:aG β M H vs ds) {i:Int} {d:Dv} (h:b5 ds i=some d):∃v,b5 vs i=some v/\Rz β M H v d :=by
 unfold b5 at h ⊢
 rw [rs.len]
 cases e:fu ds.length i with
 |none=>rw [e] at h;cases h
 |some j=>
  rw [e] at h
  obtain ⟨v,hv,r⟩:=rs.get (i:=j) (d:=d) h
  exact ⟨v,hv,r⟩
def LX (Γ:Gz) (X:Cx) (z:dX):Prop:=∃r,nh X r/\pz Γ r z
def zIx:dX:=fun d e M Q=>match e with
 | .int i=>(match d with
  | .str z=>z.length<=sizeLine/\(match b5 z.cps.toList i with|some c=>Q (.str ⟨#[c]⟩) M|none=>False)
  |_=>match itemsM M d with|some ds=>(match b5 ds i with|some r=>Q r M|none=>False)|none=>False)
 |_=>False
theorem bp (hK:X.K=K):LX Γ X zIx:=⟨_,yH hK,fun β x y d e M H Q Q' _ _ _ m rx ry z q=>by
 unfold zIx at z
 split at z
 ·rename_i i
  have hy:=aL ry
  split at z
  ·rename_i s
   obtain ⟨hz,z⟩:=z
   split at z
   ·rename_i c hc
    exact .inr (.inr ⟨s,i,c,de rx,hy,hz,hc,q _ _ _ _ (.refl m) (.str _) z⟩)
   ·exact z.elim
  ·split at z
   ·rename_i ds ue
    obtain ⟨a,vs,rfl,ha,rs⟩:=j0 m rx ue
    split at z
    ·rename_i r hr
     obtain ⟨v,hv,rv⟩:=Ij rs hr
     have z':=q _ _ _ _ (.refl m) rv z
     rcases ha with ha|ha
     ·exact .inl ⟨a,vs,i,v,rfl,hy,bF.of ha,hv,z'⟩
     ·exact .inr (.inl ⟨a,vs,i,v,rfl,hy,cI.of ha,hv,z'⟩)
    ·exact z.elim
   ·exact z.elim
 ·exact z.elim⟩
theorem aQ {a b:dL} {pa pb:aM} {z:dX} {pos:wn} (hr:LX Γ X z) (ha:QE Γ X a pa) (hb:QE Γ X b pb) (hs:yC b):QE Γ X (.Subscript a b pos) (zOp z pa pb) :=by
 obtain ⟨r,h1,h2⟩:=hr
 exact (Ot h1 ha hb hs).imp fun σ H Q h=>Ag h2 h
end
section
variable {X:Cx} {Γ:Gz} {β:Bz} {K:bi}
section
variable {x:bn} {p pos:wn} {e:dL} {es:List dL} {za:eh} {id T:String} {z:rE}
theorem ax (hc:eF Γ X (.builtin id) z) (hg:Gl X x) (hm:X.mg x=none) (hv:bootBuiltins x=some (.builtin id)) (ha:QA Γ X (e::es) za) (hn:x ≠ "__name__" := by decide) (dS:(x==("__debug__" : bn))=false :=by decide)
  (he:starEach (e::es) X.env=(false,eval e X.env)::starEach es X.env :=by rfl) (c9:(backTo pos (starEach es X.env)).any (·.1)=false :=by rfl):QE Γ X (.Call (.Name x p) (e::es) [] pos) (zCB z za) :=by
 obtain ⟨r,h1,h2⟩:=hc
 exact (Ec h1 hg hm hv ha hn dS he c9).imp fun σ H Q h=>LN h2 h
theorem kT (hc:eF Γ X (.type T) z) (hg:Gl X x) (hm:X.mg x=none) (hv:bootBuiltins x=some (.type T)) (ha:QA Γ X (e::es) za) (hn:x ≠ "__name__" := by decide) (dS:(x==("__debug__" : bn))=false :=by decide)
  (he:starEach (e::es) X.env=(false,eval e X.env)::starEach es X.env :=by rfl) (c9:(backTo pos (starEach es X.env)).any (·.1)=false :=by rfl):QE Γ X (.Call (.Name x p) (e::es) [] pos) (zCB z za) :=by
 obtain ⟨r,h1,h2⟩:=hc
 exact (Br h1 hg hm hv ha hn dS he c9).imp fun σ H Q h=>LN h2 h
end
def z1 (f:Dv->Mh->ZK->Prop):rE:=fun ds M Q=>match ds with | [d]=>f d M Q|_=>False
def zLenD (d:Dv) (M:Mh) (Q:ZK):Prop:=match d with
 | .str s=>s.length<=sizeLine/\Q (.int s.length) M
 | .bD ns=>Q (.int ns.length) M
 |_=>match itemsM M d with|some ds=>Q (.int ds.length) M|none=>False
theorem bQ (hK:X.K=K) (hG:K=Γ.K):eF Γ X (.builtin "len") (z1 zLenD):=⟨_,BO hK,fun β xs ds M H Q Q' _ _ eK m rs z q=>by
 rw [<- hG] at eK
 unfold z1 at z
 split at z
 ·rename_i d
  obtain ⟨x,rfl,r⟩:=dh rs
  unfold zLenD at z
  split at z
  ·rename_i s
   have e:=de r
   subst e
   exact ⟨_,_,rfl,⟨z.1,rfl⟩,q _ _ _ _ (.refl m) (.int _) z.2⟩
  ·rename_i ns
   obtain ⟨a,rfl,h⟩:=ub r
   rw [eK] at h
   exact ⟨_,ns.length,rfl,.inl ⟨_,h,by simp⟩,q _ _ _ _ (.refl m) (.int _) z⟩
  ·split at z
   ·rename_i ds ue
    obtain ⟨a,vs,rfl,ha,eA⟩:=j0 m r ue
    have q':=q _ _ (.int ds.length) _ (.refl m) (.int _) z
    rcases ha with ha|ha
    ·exact ⟨_,ds.length,rfl,.inl ⟨vs,bF.of ha,eA.len.symm⟩,q'⟩
    ·exact ⟨_,ds.length,rfl,.inr ⟨vs,cI.of ha,eA.len.symm⟩,q'⟩
   ·exact z.elim
 ·exact z.elim⟩
def z2I (f:Int->Int->Int):rE:=fun ds M Q=>match ds with | [.int i,.int j]=>Q (.int (f i j)) M|_=>False
theorem LY (hc:X.calm=true):eF Γ X (.builtin "max") (z2I fun i j=>if j > i then j else i):=⟨_,Bj hc,fun β xs ds M H Q Q' _ _ _ m rs z q=>by
 unfold z2I at z
 split at z
 ·obtain ⟨x,y,rfl,r,r'⟩:=gP rs
  rw [aL r,aL r']
  exact ⟨_,_,rfl,q _ _ _ _ (.refl m) (.int _) z⟩
 ·exact z.elim⟩
theorem wu (hc:X.calm=true):eF Γ X (.builtin "min") (z2I fun i j=>if j<i then j else i):=⟨_,Bk hc,fun β xs ds M H Q Q' _ _ _ m rs z q=>by
 unfold z2I at z
 split at z
 ·obtain ⟨x,y,rfl,r,r'⟩:=gP rs
  rw [aL r,aL r']
  exact ⟨_,_,rfl,q _ _ _ _ (.refl m) (.int _) z⟩
 ·exact z.elim⟩
def zAbs (d:Dv) (M:Mh) (Q:ZK):Prop:=match d with | .int i=>Q (.int (if i<0 then -i else i)) M|_=>False
theorem Ai:eF Γ X (.builtin "abs") (z1 zAbs):=⟨_,D9,fun β xs ds M H Q Q' _ _ _ m rs z q=>by
 unfold z1 at z
 split at z
 ·obtain ⟨x,rfl,r⟩:=dh rs
  unfold zAbs at z
  split at z
  ·rw [aL r]
   exact ⟨_,rfl,q _ _ _ _ (.refl m) (.int _) z⟩
  ·exact z.elim
 ·exact z.elim⟩
def zTuple (d:Dv) (M:Mh) (Q:ZK):Prop:=match itemsM M d with|some ds=>Q (.tup ds) M|none=>False
theorem sI (hK:X.K=K):eF Γ X (.type "tuple") (z1 zTuple):=⟨_,sy hK,fun β xs ds M H Q Q' _ _ _ m rs z q=>by
 unfold z1 at z
 split at z
 ·rename_i d
  obtain ⟨x,rfl,r⟩:=dh rs
  unfold zTuple at z
  split at z
  ·rename_i ds ue
   obtain ⟨a,vs,rfl,ha,eA⟩:=j0 m r ue
   refine ⟨a,vs,rfl,?_⟩
   rcases ha with ha|ha
   ·refine .inl ⟨bF.of ha,fun l hl=>?_⟩
    have x2:=Ex.lay m hl (.tup vs)
    exact q _ _ _ _ x2 (jX (m.fz hl) ay (eA.ex x2)) z
   ·refine .inr ⟨cI.of ha,?_⟩
    have f:Fz β M a :=by
     cases d with
     |tup es=>obtain ⟨b,us,e,f,_⟩:=cw r;cases e;exact f
     |lst es=>obtain ⟨b,us,e,f,_⟩:=fA r;cases e;exact f
     |ptr b=>
      obtain ⟨e,hs⟩:=b7 r
      cases e
      cases q2:M a with
      |none=>rw [q2] at hs;cases hs
      |some o=>have:=m.lF ha rfl;rw [q2] at this;cases this
     |_=>cases ue
    exact q _ _ _ _ (.refl m) (jX f ha eA) z
  ·exact z.elim
 ·exact z.elim⟩
def gq:List Dv->Option (List Int)
 | []=>some []
 | .int i::ds=>(gq ds).map (i::·)
 |_::_=>none
theorem pS:∀{ds:List Dv} {ns:List Int},gq ds=some ns->ds=ns.map Dv.int
 | [],ns,h=>by simp only [gq,GG] at h;subst h;rfl
 |d::ds,ns,h=>by
          cases d with
          |int i=>
           simp only [gq,lc] at h
           obtain ⟨ms,h,rfl⟩:=h
           rw [pS h]
           rfl
          |_=>simp [gq] at h
theorem iT:∀ns:List Int,gq (ns.map Dv.int)=some ns
 | []=>rfl
 |n::ns=>by simp [gq,iT ns]
theorem mD {M:Mh} {H:Hp}:∀{vs:List V} {ns:List Int},aG β M H vs (ns.map Dv.int)->vs=ns.map V.int
 | [],[],_=>rfl
 | [],_::_,r=>absurd r.len (by simp)
 |_::_,[],r=>absurd r.len (by simp)
 |v::vs,n::ns,r=>by
          rw [v6] at r
          rw [v6,aL r.head,mD r.tail]
theorem mE {M:Mh} {H:Hp}:∀{ns:List Int},aG β M H (ns.map V.int) (ns.map Dv.int)
 | []=>.nil
 |n::ns=>.cons (.int _) mE
def intsM (M:Mh) (d:Dv):Option (List Int):=match d with | .set ns=>some ns|_=>(itemsM M d).bind gq
def zSorted (d:Dv) (M:Mh) (Q:ZK):Prop:=match intsM M d with|some ns=>ns.length<64/\Q (.lst ((sortI ns).map .int)) M|none=>False
theorem kU {M:Mh} {H:Hp} {x:V} {d:Dv} {ns:List Int} (m:Mz β M H) (r:Rz β M H x d) (h:(itemsM M d).bind gq=some ns):∃a,x=.ref a/\(H a=some (.lst (ns.map V.int))\/H a=some (.tup (ns.map V.int))) :=by
 cases e:itemsM M d with
 |none=>rw [e] at h;cases h
 |some ds=>
  rw [e] at h
  obtain ⟨a,vs,rfl,ha,rs⟩:=j0 m r e
  have e2:=pS (ns:=ns) h
  subst e2
  have:=mD rs
  subst this
  exact ⟨a,rfl,ha⟩
theorem E1 (hP:X.prog=Γ.P) (hw:X.w=Γ.w) (hK:X.K=K) (hc:X.calm=true):eF Γ X (.builtin "sorted") (z1 zSorted):=⟨_,mZ hP hw hK hc,fun β xs ds M H Q Q' eP ew _ m rs z q=>by
 unfold z1 at z
 split at z
 ·rename_i d
  obtain ⟨x,rfl,r⟩:=dh rs
  unfold zSorted at z
  split at z
  ·rename_i ns dz
   have fin:∀l,H l=none->Q (.ref l) (upd H l (.lst ((sortI ns).map V.int))):=fun l hl=>by
    have x2:=Ex.lay m hl (.lst ((sortI ns).map V.int))
    exact q _ _ _ _ x2 (wa (m.fz hl) ay mE) z.2
   unfold intsM at dz
   split at dz
   ·cases dz
    obtain ⟨a,rfl,f,h⟩:=ua r
    rw [eP,ew] at h
    exact ⟨a,_,rfl,.inl h,z.1,fin⟩
   ·obtain ⟨a,rfl,ha⟩:=kU m r dz
    exact ⟨a,_,rfl,.inr (ha.imp bF.of cI.of),z.1,fin⟩
  ·exact z.elim
 ·exact z.elim⟩
def zSet (d:Dv) (M:Mh) (Q:ZK):Prop:=match (itemsM M d).bind gq with|some ns=>ns.length+1<scanBound/\Q (.set (c7 ns)) M|none=>False
theorem OW (hP:X.prog=Γ.P) (hw:X.w=Γ.w) (hK:X.K=K) (hc:X.calm=true):eF Γ X (.type "set") (z1 zSet) :=by
 refine ⟨vR Γ.P Γ.w K,by rw [<- hP,<- hw];exact z9 hK hc,fun β xs ds M H Q Q' eP ew _ m rs z q=>?_⟩
 unfold z1 at z
 split at z
 ·rename_i d
  obtain ⟨x,rfl,r⟩:=dh rs
  unfold zSet at z
  split at z
  ·rename_i ns dz
   obtain ⟨a,rfl,ha⟩:=kU m r dz
   refine ⟨a,ns,rfl,ha.imp bF.of cI.of,z.1,fun l hl=>?_⟩
   have x2:=Ex.lay m hl (pL Γ.P Γ.w l (c7 ns))
   exact q _ _ _ _ x2 (.set (m.fz hl) (by rw [eP,ew];exact ay)) z.2
  ·exact z.elim
 ·exact z.elim
def isD (T:String) (M:Mh) (d:Dv):Option Bool:=match d with
 | .int _=>some (T == "int") | .bl _=>some (T == "int" || T == "bool") | .au=>some false | .str _=>some (T == "str") | .tup _=>some (T == "tuple") | .lst _=>some (T == "list") | .ptr a=>(match M a with|some (.lst _)=>some (T == "list")|some .dm=>some (T == "list")|some _=>some false|none=>none)|_=>none
def sJ:List String:=["int","bool","str","tuple","list"]
def zIsInst:rE:=fun ds M Q=>match ds with | [d,.raw (.ty T)]=>T∈sJ/\(match isD T M d with|some b=>Q (.bl b) M|none=>False)|_=>False
theorem LZ {K:bi} {M:Mh} {H:Hp} {x:V} {d:Dv} {T:String} {b:Bool} (m:Mz β M H) (hT:T∈sJ) (r:Rz β M H x d) (h:isD T M d=some b):∃t,gA K H x t/\WP K t (.type T)=some b :=by
 have pB:T = "int" \/ T = "bool" \/ T = "str" \/ T = "tuple" \/ T = "list" := by simpa [sJ] using hT
 cases r with
 |int i=>cases h;exact ⟨_,.int i,by rcases pB with rfl|rfl|rfl|rfl|rfl <;> rfl⟩
 |bl i=>cases h;exact ⟨_,.bl i,by rcases pB with rfl|rfl|rfl|rfl|rfl <;> rfl⟩
 |au=>cases h;exact ⟨_,.au,by rcases pB with rfl|rfl|rfl|rfl|rfl <;> rfl⟩
 |str i=>cases h;exact ⟨_,.str i,by rcases pB with rfl|rfl|rfl|rfl|rfl <;> rfl⟩
 |tup f e hl q=>cases h;exact ⟨_,.tup e,by rcases pB with rfl|rfl|rfl|rfl|rfl <;> rfl⟩
 |lst f e hl q=>cases h;exact ⟨_,.lst e,by rcases pB with rfl|rfl|rfl|rfl|rfl <;> rfl⟩
 |ptr hs=>
  rename_i a
  cases q2:M a with
  |none=>rw [q2] at hs;cases hs
  |some o=>
   simp only [isD,q2] at h
   have q:=m.obj a o q2
   cases o with
   |lst ds=>obtain ⟨vs,e,_⟩:=q;cases h;exact ⟨_,.lst e,by rcases pB with rfl|rfl|rfl|rfl|rfl <;> rfl⟩
   |dm=>obtain ⟨_,_,e,_⟩:=q;cases h;exact ⟨_,.lst e,by rcases pB with rfl|rfl|rfl|rfl|rfl <;> rfl⟩
   |dk ks ds=>obtain ⟨vs,e,_⟩:=q;cases h;exact ⟨_,.dK e,by rcases pB with rfl|rfl|rfl|rfl|rfl <;> rfl⟩
   |dt ks ds=>obtain ⟨vs,e,_⟩:=q;cases h;exact ⟨_,.dT e,by rcases pB with rfl|rfl|rfl|rfl|rfl <;> rfl⟩
 |set f e=>cases h
 |exc f e=>cases h
 |bD f e=>cases h
 |cz f e=>cases h
 |cA e=>cases h
 |raw v=>cases h
 |dk f e _ _ _=>cases h
 |dt f e _ _ _=>cases h
 |bO _ _ _ _ _ _=>cases h
theorem eG (hK:X.K=K):eF Γ X (.builtin "isinstance") zIsInst:=⟨_,vF hK,fun β xs ds M H Q Q' _ _ _ m rs z q=>by
 unfold zIsInst at z
 split at z
 ·obtain ⟨x,y,rfl,r,r'⟩:=gP rs
  rw [kO r']
  obtain ⟨hT,z⟩:=z
  split at z
  ·rename_i b hb
   obtain ⟨t,ht,hk⟩:=LZ (K:=K) m hT r hb
   exact ⟨_,_,t,b,rfl,ht,hk,q _ _ _ _ (.refl m) (.bl _) z⟩
  ·exact z.elim
 ·exact z.elim⟩
abbrev wx:=Dv->List Dv->Mh->ZK->Prop
def GH (Γ:Gz) (X:Cx) (T id:String) (K:bi) (z:wx):Prop:=∃r,Kk X id r/\∀(β:Bz) x xs d ds M H Q Q',β.P=Γ.P->β.w=Γ.w->β.K=Γ.K->Mz β M H->Rz β M H x d->aG β M H xs ds->z d ds M Q'->(∀d' M' v H',Ex β M H M' H'->Rz β M' H' v d'->Q' d' M'->Q v H')->r x xs H Q
def tyZ (T:String) (M:Mh):Dv->Prop
 | .ptr a=>match M a with|some (.lst _)=>T = "list" |some .dm=>T = "list" |some (.dk _ _)=>T = "dict" |some (.dt _ _)=>T = "dict" |none=>False
 | .lst _=>T = "list"
 | .tup _=>T = "tuple"
 | .str _=>T = "str"
 |_=>False
theorem L6 {M:Mh} {H:Hp} {x:V} {d:Dv} {T:String} (m:Mz β M H) (r:Rz β M H x d) (h:tyZ T M d):Kv K T x H :=by
 cases r with
 |str=>exact h
 |lst f e _ _=>exact .inl ⟨h,_,bF.of e⟩
 |tup f e _ _=>exact .inr (.inl ⟨h,.inr ⟨_,e⟩⟩)
 |ptr hs=>
  rename_i a
  cases q2:M a with
  |none=>rw [q2] at hs;cases hs
  |some o=>
   simp only [tyZ,q2] at h
   have q:=m.obj a o q2
   cases o with
   |lst ds=>obtain ⟨vs,e,_⟩:=q;exact .inl ⟨h,_,bF.of e⟩
   |dm=>obtain ⟨_,_,e,_⟩:=q;exact .inl ⟨h,_,bF.of e⟩
   |dk ks ds=>obtain ⟨vs,e,_⟩:=q;exact .inr (.inr (.inl ⟨h,.inl ⟨_,e⟩⟩))
   |dt ks ds=>obtain ⟨vs,e,_⟩:=q;exact .inr (.inr (.inl ⟨h,.inr ⟨_,e⟩⟩))
 |_=>exact h.elim
def zBM (T:String) (z:wx) (po:aM) (pa:eh):aM:=fun ρ M Q=>po ρ M fun d M1=>tyZ T M1 d/\pa ρ M1 fun ds M2=>z d ds M2 Q
section
variable {o e:dL} {es:List dL} {po:aM} {pa:eh} {name:bn} {apos bG:wn} {T id:String} {z:wx}
theorem mF (h:X.K=K) (pat:PlainAttrs T) (slot:Slot T name id) (Bv:typeOf (.builtin id)=pure (.type "method_descriptor")) (hm:GH Γ X T id K z) (ho:QE Γ X o po) (ha:QA Γ X (e::es) pa) (qD:attributeBase o name X.env (eval o X.env)=eval o X.env :=by rfl)
  (vn:((backTo bG (starEach (e::es) X.env)).all (fun x => !x.1) && (backToKw bG (keywordEach [] X.env)).all (fun x=>x.1.isSome)
   && decide ((e::es).length+([]:List V4).length+(if ([]:List V4).isEmpty then 0 else 1)<30))=true :=by rfl)
  (hline:(apos.endLine==bG.line)=true :=by rfl) (hs:starEach (e::es) X.env=(false,eval e X.env)::starEach es X.env :=by rfl) (ni:(backTo bG (starEach es X.env)).any (·.1)=false :=by rfl) :
  QE Γ X (.Call (.Attribute o name apos) (e::es) [] bG) (zBM T z po pa) :=by
 obtain ⟨r,h1,h2⟩:=hm
 exact (KW h pat slot Bv h1 ho ha qD vn hline hs ni).imp fun σ H Q ⟨β,ρ,M,Q',zr,h,q⟩=>⟨β,ρ,M,_,zr,h,fun d M1 v H1 x1 r1 ⟨ht,h1⟩=>⟨L6 x1.mz r1 ht,β,ρ,M1,_,zr.step x1,h1,fun ds M2 vs H2 x2 r2 h3=>
  h2 β v vs d ds M2 H2 _ _ zr.eP zr.ew zr.eK x2.mz (r1.ex x2) r2 h3 fun d' M' v' H' x3 r3 q3=>q _ _ _ _ (x1.trans (x2.trans x3)) r3 q3⟩⟩
end
def zAppend:wx:=fun d ds M Q=>match d,ds with | .ptr a,[y]=>(match M a with|some (.lst xs)=>xs.length<sizeLine/\Q .au (aA M a (.lst (xs++[y])))|_=>False)|_,_=>False
theorem mG:GH Γ X "list" "list.append" K zAppend:=⟨_,tM,fun β x xs d ds M H Q Q' _ _ _ m r rs z q=>by
 unfold zAppend at z
 split at z
 ·rename_i a y
  split at z
  ·rename_i es he
   obtain ⟨e,hs⟩:=b7 r
   obtain ⟨v,e2,rv⟩:=dh rs
   subst e e2
   obtain ⟨vs,hv,eA⟩:=m.obj a _ he
   refine ⟨a,vs,v,rfl,rfl,hv,by rw [eA.len];exact z.1,?_⟩
   exact q _ _ _ _ (Ex.own m (.inl hs) (eA.snoc rv)) .au z.2
  ·exact z.elim
 ·exact z.elim⟩
def zPop:wx:=fun d ds M Q=>match d,ds with | .ptr a,[]=>(match M a with|some (.lst xs)=>(match xs[xs.length - 1]? with|some y=>Q y (aA M a (.lst xs.dropLast))|none=>False)|_=>False)|_,_=>False
def zPopAt:wx:=fun d ds M Q=>match d,ds with | .ptr a,[.int i]=>(match M a with|some (.lst xs) => -(2 ^ 63)<=i/\i<2 ^ 63/\(match seqIndex? i xs.length with|some k=>(match xs[k]? with|some y=>Q y (aA M a (.lst (xs.eraseIdx k)))|none=>False)|none=>False)|_=>False)|_,_=>False
theorem aG.eraseIdx {M:Mh} {H:Hp} {vs:List V} {ds:List Dv} (h:aG β M H vs ds) (k:Nat):aG β M H (vs.eraseIdx k) (ds.eraseIdx k) :=by
 rw [List.eraseIdx_eq_take_drop_succ,List.eraseIdx_eq_take_drop_succ]
 exact (h.take _).append (h.drop _)
theorem yY:GH Γ X "list" "list.pop" K zPopAt:=⟨_,Ed,fun β x xs d ds M H Q Q' _ _ _ m r rs z q=>by
 unfold zPopAt at z
 split at z
 ·rename_i a i
  split at z
  ·rename_i es he
   obtain ⟨b1,b2,z⟩:=z
   split at z
   ·rename_i k hk
    split at z
    ·rename_i y hy
     obtain ⟨e,hs⟩:=b7 r
     obtain ⟨v0,e2,TL⟩:=dh rs
     subst e e2
     rw [aL TL]
     obtain ⟨vs,hv,eA⟩:=m.obj a _ he
     obtain ⟨v,TN,rv⟩:=eA.get hy
     refine ⟨a,vs,i,k,v,rfl,rfl,hv,b1,b2,by rw [eA.len];exact hk,TN,?_⟩
     have x2:=Ex.own m (.inl hs) (eA.eraseIdx k)
     exact q _ _ _ _ x2 (rv.ex x2) z
    ·exact z.elim
   ·exact z.elim
  ·exact z.elim
 ·exact z.elim⟩
def zSetI:Dv->Dv->Dv->Mh->(Mh->Prop)->Prop:=fun o i v M N=>match o,i with | .ptr a,.int k=>(match M a with|some (.lst xs)=>(match fu xs.length k with|some j=>N (aA M a (.lst (xs.set j v)))|none=>False)|_=>False)|_,_=>False
def zgSub (po pi:aM):cR:=fun d ρ M N=>po ρ M fun o M1=>pi ρ M1 fun i M2=>zSetI o i d M2 fun M3=>N ρ M3
theorem j1 {o i:dL} {po pi:aM} {pos:wn} (ho:QE Γ X o po) (hi:QE Γ X i pi)
  (ha:∀v,assign (.Subscript o i pos) X.env v=(do
   let ov <- holding [v] (eval o X.env)
   let iv <- holding [v,ov] (eval i X.env)
   standAt pos
   holding [v,ov,iv] (setItem ov iv v)
   release [v,ov,iv] []) :=by intro _;rfl):QG Γ X (.Subscript o i pos) (zgSub po pi):=
 (JS ho hi set_list ha).imp fun v σ H N ⟨β,d,ρ,M,N',zr,r,h,q⟩=>⟨β,ρ,M,_,zr,h,fun od M1 ov H1 x1 r1 h1=>⟨β,ρ,M1,_,zr.step x1,h1,fun Vz M2 iv H2 x2 r2 h2=>by
  unfold zSetI at h2
  split at h2
  ·rename_i a k
   split at h2
   ·rename_i es he
    split at h2
    ·rename_i j hj
     obtain ⟨e,hs⟩:=b7 (r1.ex x2)
     subst e
     rw [aL r2]
     obtain ⟨vs,hv,eA⟩:=x2.mz.obj a _ he
     have x3:=Ex.own x2.mz (.inl hs) (eA.set j ((r.ex x1).ex x2))
     exact ⟨a,vs,k,j,rfl,rfl,hv,by rw [eA.len];exact hj,q _ _ _ _ (x1.trans (x2.trans x3)) (((zr.step x1).step x2).step x3) h2⟩
    ·exact h2.elim
   ·exact h2.elim
  ·exact h2.elim⟩⟩
end
end L2
namespace L2
open PySem PySem.Spec PySem.W PyProof.Rows
abbrev ZX:=ac->Mh->Prop
abbrev b9:=List Dv->Mh->ZK->ZX->Prop
def aY (P:ff) (w:ii) (K:bi) (tb:cu) (S:b9):Sp:=fun vs H Q E=>∃(β:Bz) (ds:List Dv) (M:Mh) (Q':ZK) (E':ZX),β.P=P/\β.w=w/\β.K=K/\β.tb=tb/\Mz β M H/\aG β M H vs ds/\S ds M Q' E' /\
 (∀d M' v H',Ex β M H M' H'->Rz β M' H' v d->Q' d M'->Q v H')/\∀C M' H',Ex β M H M' H'->E' C M'->E (.ref C) none H'
theorem Rz.oK {β:Bz} {M0 M:Mh} {H:Hp} (dom:∀a,(M0 a).isSome=true->(M a).isSome=true) {v:V} {d:Dv} (h:Rz β M H v d):Pin M0 d->Rz β M0 H v d :=by
 have ne:∀a,Fz β M a->Fz β M0 a:=fun a m=>⟨(by
  cases e:M0 a with
  |none=>rfl
  |some o=>have:=dom a (by rw [e];rfl);rw [m.1] at this;cases this),m.2⟩
 induction h with
 |int i=>exact fun _=>.int i
 |bl b=>exact fun _=>.bl b
 |au=>exact fun _=>.au
 |str z=>exact fun _=>.str z
 |tup m e hl h ih=>
  intro p
  cases p with
  |tup p=>exact .tup (ne _ m) e hl fun i v d a b=>ih i v d a b (p d (gc b))
 |lst m e hl h ih=>
  intro p
  cases p with
  |lst p=>exact .lst (ne _ m) e hl fun i v d a b=>ih i v d a b (p d (gc b))
 |set m e=>exact fun _=>.set (ne _ m) e
 |ptr m=>intro p;cases p with|ptr p=>exact .ptr p
 |exc m e=>exact fun _=>.exc (ne _ m) e
 |bD m e=>exact fun _=>.bD (ne _ m) e
 |cz m e=>exact fun _=>.cz (ne _ m) e
 |cA e=>exact fun _=>.cA e
 |dk m e hk hl h ih=>
  intro p
  cases p with
  |dk p=>exact .dk (ne _ m) e hk hl fun i v d a b=>ih i v d a b (p d (gc b))
 |dt m e hk hl h ih=>
  intro p
  cases p with
  |dt p=>exact .dt (ne _ m) e hk hl fun i v d a b=>ih i v d a b (p d (gc b))
 |bO m e m2 e2 hl h ih=>
  intro p
  cases p with
  |bO p=>exact .bO (ne _ m) e (ne _ m2) e2 hl fun i v d a b=>ih i v d a b (p d (gc b))
 |raw v=>exact fun _=>.raw v
inductive m6 (M0 M:Mh):Dv->Dv->Prop where
 |pin {d:Dv} (h:Pin M0 d):m6 M0 M d d
 |ptr {a:ac} {ds ds':List Dv} (h0:M0 a=none) (h:M a=some (.lst ds)) (hl:ds.length=ds'.length) (r:∀(i:Nat) (d d':Dv),ds[i]?=some d->ds'[i]?=some d'->m6 M0 M d d'):m6 M0 M (.ptr a) (.lst ds')
 |tup {ds ds':List Dv} (hl:ds.length=ds'.length) (r:∀(i:Nat) (d d':Dv),ds[i]?=some d->ds'[i]?=some d'->m6 M0 M d d'):m6 M0 M (.tup ds) (.tup ds')
 |dk {a:ac} {ks:List Key} {ds ds':List Dv} (h0:M0 a=none) (h:M a=some (.dk ks ds)) (hl:ds.length=ds'.length) (r:∀(i:Nat) (d d':Dv),ds[i]?=some d->ds'[i]?=some d'->m6 M0 M d d'):m6 M0 M (.ptr a) (.dk ks ds')
 |dt {a:ac} {ks:List (List Key)} {ds ds':List Dv} (h0:M0 a=none) (h:M a=some (.dt ks ds)) (hl:ds.length=ds'.length) (r:∀(i:Nat) (d d':Dv),ds[i]?=some d->ds'[i]?=some d'->m6 M0 M d d'):m6 M0 M (.ptr a) (.dt ks ds')
theorem m6.rz {β:Bz} {M0 M:Mh} {H:Hp} (mz:Mz β M H) (dom:∀a,(M0 a).isSome=true->(M a).isSome=true) {d d':Dv} (h:m6 M0 M d d'):∀{v:V},Rz β M H v d->Rz β M0 H v d':=by
 induction h with
 |pin h=>exact fun r=>r.oK dom h
 |ptr h0 h hl r ih=>
  intro v r
  obtain ⟨rfl,_⟩:=b7 r
  obtain ⟨vs,hv,rs⟩:=mz.obj _ _ h
  refine .lst ⟨h0,mz.apart _ _ h⟩ hv (rs.len.trans hl) fun i v d a b=>?_
  obtain ⟨d0,q,rd⟩:=rs.get' a
  exact ih i d0 d q b rd
 |dk h0 h hl r ih=>
  intro v r
  obtain ⟨rfl,_⟩:=b7 r
  obtain ⟨vs,hv,hk,rs⟩:=mz.obj _ _ h
  refine .dk ⟨h0,mz.apart _ _ h⟩ (.inl hv) hk (rs.len.trans hl) fun i v d a b=>?_
  obtain ⟨d0,q,rd⟩:=rs.get' a
  exact ih i d0 d q b rd
 |dt h0 h hl r ih=>
  intro v r
  obtain ⟨rfl,_⟩:=b7 r
  obtain ⟨vs,hv,hk,rs⟩:=mz.obj _ _ h
  refine .dt ⟨h0,mz.apart _ _ h⟩ (.inl hv) hk (rs.len.trans hl) fun i v d a b=>?_
  obtain ⟨d0,q,rd⟩:=rs.get' a
  exact ih i d0 d q b rd
 |tup hl r ih=>
  intro v r
  obtain ⟨a,vs,rfl,f,hv,rs⟩:=cw r
  refine .tup ⟨?_,f.2⟩ hv (rs.len.trans hl) fun i v d a b=>?_
  ·cases e:M0 a with
   |none=>rfl
   |some o=>have:=dom a (by rw [e];rfl);rw [f.1] at this;cases this
  ·obtain ⟨d0,q,rd⟩:=rs.get' a
   exact ih i d0 d q b rd
def i9 (M0:Mh) (Q:ZK):ZK:=fun d M=>Q d M\/((∀a o,M0 a=some o->M a=some o)/\∃d',m6 M0 M d d'/\Q d' M0)
theorem oM {β:Bz} {M0 M:Mh} {H0 H:Hp} {Q':ZK} {Q:VK} (m0:Mz β M0 H0) (q:∀d M' v H',Ex β M0 H0 M' H'->Rz β M' H' v d->Q' d M'->Q v H') {d:Dv} {v:V} (x:Ex β M0 H0 M H) (r:Rz β M H v d) (h:i9 M0 Q' d M):Q v H :=by
 rcases h with h|⟨same,d',rv,h⟩
 ·exact q _ _ _ _ x r h
 ·refine q d' M0 v H ⟨⟨x.keep,fun _ h=>h,fun _ _ h _=>h⟩,fun a o e=>?_,x.mz.tabs,x.mz.hids,m0.apart,x.mz.lams⟩ (rv.rz x.mz x.dom r) h
  have z:=x.mz.obj a o (same a o e)
  have z0:=m0.obj a o e
  cases o with
  |lst ds=>
   obtain ⟨vs,z,rs⟩:=z
   obtain ⟨Lz,_,CD⟩:=z0
   refine ⟨vs,z,rs.len,fun i v d a b=>(rs.at' i v d a b).oK x.dom ?_⟩
   obtain ⟨v0,_,r0⟩:=CD.get b
   exact r0.pin
  |dk ks ds=>
   obtain ⟨vs,z,hk,rs⟩:=z
   obtain ⟨Lz,_,_,CD⟩:=z0
   refine ⟨vs,z,hk,rs.len,fun i v d a b=>(rs.at' i v d a b).oK x.dom ?_⟩
   obtain ⟨v0,_,r0⟩:=CD.get b
   exact r0.pin
  |dt ks ds=>
   obtain ⟨vs,z,hk,rs⟩:=z
   obtain ⟨Lz,_,_,CD⟩:=z0
   refine ⟨vs,z,hk,rs.len,fun i v d a b=>(rs.at' i v d a b).oK x.dom ?_⟩
   obtain ⟨v0,_,r0⟩:=CD.get b
   exact r0.pin
  |dm=>exact z
def zstart (N:List bn) (ds:List Dv):aB:=ds.map some++io (N.length - ds.length) none
theorem pT {Γ:Gz} {N:List bn} {vs:List V} {ds:List Dv} (m:Mz Γ.toBz Γ.M0 Γ.H0) (rs:aG Γ.toBz Γ.M0 Γ.H0 vs ds):Zr Γ Γ.toBz Γ.M0 (zstart N ds) (start N vs) Γ.H0:=⟨rfl,rfl,rfl,rfl,fun _ h=>h,m.wf,.refl,m,by simp [zstart,start,rs.len],fun i d e=>by
 unfold zstart at e
 unfold start
 rw [WJ] at e ⊢
 rw [c8] at e ⊢
 rw [rs.len]
 split at e
 ·rename_i hi
  rw [if_pos hi]
  rw [ce,lc] at e
  obtain ⟨d2,e,e2⟩:=e
  cases e2
  obtain ⟨v,hv,r⟩:=rs.get e
  exact ⟨v,by rw [ce,hv];rfl,r⟩
 ·rw [AS] at e
  split at e <;> cases e⟩
def zEndsOf (M0:Mh) (Q:ZK):gh:={nx:=fun _ M=>i9 M0 Q .au M,rt:=i9 M0 Q}
def XR (Γ:Gz) (E':ZX) (E:XK):Prop:=∀C M' H',Ex Γ.toBz Γ.M0 Γ.H0 M' H'->E' C M'->E (.ref C) none H'
section
variable {P:ff} {w:ii} {K:bi} {mg:bn->Option al} {base:ge} {tb:cu} {x:bn} {st:r6} {f:ac} {fd:l5} {N ps:List bn} {k:Nat} {S:b9}
theorem sL (len:∀ds M Q E,S ds M Q E->ds.length=ps.length):∀vs H Q E,aY P w K tb S vs H Q E->vs.length=ps.length:=fun vs H Q E hS=>by
 obtain ⟨β,ds,M,Q',E',_,_,_,_,m,rs,s,_⟩:=hS
 exact rs.len.trans (len _ _ _ _ s)
theorem eJ (D:Df K mg x st ps f fd) (sc:aN N ps (aj st)) (len:∀ds M Q E,S ds M Q E->ds.length=ps.length)
  (body:∀(A:ma) (outer:List IR) (s:ba) (E:XK) (Γ:Gz) (ds:List Dv) (Q':ZK) (E':ZX),P=Γ.P->w=Γ.w->K=Γ.K->tb=Γ.tb->bB k (A.deeper (envOfC x (aj st) s.heap.objs.size f fd.code))->S ds Γ.M0 Q' E'->
   ∃p,kP Γ (fW bf P w K mg base N x (aj st) f fd.code A outer s Γ.H0 E).jd (bK st) p/\p (zEndsOf Γ.M0 Q') (zstart N ds) Γ.M0):FnOk P w K mg base bf (k+1) f fd ps (aY P w K tb S) :=by
 refine D.fn.SY sc (sL len) fun A outer s H vs Q E hr h=>?_
 obtain ⟨β,ds,M,Q',E',eP,ew,eK,et,m,rs,hS,q,_⟩:=h
 obtain ⟨p,hp,hq⟩:=body A outer s E ⟨β,M,H⟩ ds Q' E' eP.symm ew.symm eK.symm et.symm hr hS
 refine ⟨_,hp,β,zstart N ds,M,zEndsOf M Q',pT (Γ:=⟨β,M,H⟩) m rs,hq,?_⟩
 have fin:∀d M' v H',Ex β M H M' H'->Rz β M' H' v d->i9 M Q' d M'->Q v H':=fun d M' v H' x r h=>oM m q x r h
 exact ⟨fun bI M' aF H' x zr h=>fin _ _ _ _ ⟨zr.ent,x.mz⟩ .au h,fun d M' v H' x e r h=>fin _ _ _ _ ⟨e,x.mz⟩ r h,fun _ _ _ _ _ _ h=>h,fun _ _ _ _ _ _ h=>h⟩
end
section
variable {P:ff} {w:ii} {K:bi} {mg:bn->Option al} {base:ge} {tb:cu} {x:bn} {st:r6} {f:ac} {fd:l5} {N ps:List bn} {k:Nat} {S:b9}
theorem rJ (D:Df K mg x st ps f fd) (sc:aN N ps (aj st)) (len:∀ds M Q E,S ds M Q E->ds.length=ps.length)
  (body:∀(A:ma) (outer:List IR) (s:ba) (E:XK) (Γ:Gz) (ds:List Dv) (Q':ZK) (E':ZX),P=Γ.P->w=Γ.w->K=Γ.K->tb=Γ.tb->XR Γ E' E->bB k (A.deeper (envOfC x (aj st) s.heap.objs.size f fd.code))->S ds Γ.M0 Q' E'->
   ∃p,kP Γ (fW (fi P w) P w K mg base N x (aj st) f fd.code A outer s Γ.H0 E) (bK st) p/\p (zEndsOf Γ.M0 Q') (zstart N ds) Γ.M0):FnOk P w K mg base (fi P w) (k+1) f fd ps (aY P w K tb S) :=by
 refine D.fn.vC sc (sL len) fun A outer s H vs Q E hr h=>?_
 obtain ⟨β,ds,M,Q',E',eP,ew,eK,et,m,rs,hS,q,qx⟩:=h
 obtain ⟨p,hp,hq⟩:=body A outer s E ⟨β,M,H⟩ ds Q' E' eP.symm ew.symm eK.symm et.symm qx hr hS
 refine ⟨_,hp,β,zstart N ds,M,zEndsOf M Q',pT (Γ:=⟨β,M,H⟩) m rs,hq,?_⟩
 have fin:∀d M' v H',Ex β M H M' H'->Rz β M' H' v d->i9 M Q' d M'->Q v H':=fun d M' v H' x r h=>oM m q x r h
 exact ⟨fun bI M' aF H' x zr h=>fin _ _ _ _ ⟨zr.ent,x.mz⟩ .au h,fun d M' v H' x e r h=>fin _ _ _ _ ⟨e,x.mz⟩ r h,fun _ _ _ _ _ _ h=>h,fun _ _ _ _ _ _ h=>h⟩
end
section
variable {X:Cx} {Γ:Gz} {β:Bz} {K:bi}
def zCall (S:b9) (E':ZX) (za:eh):aM:=fun ρ M Q=>za ρ M fun ds M1=>S ds M1 Q E'
theorem XR.none:XR Γ (fun _ _=>False) (fun _ _ _=>False):=fun _ _ _ _ h=>h
theorem rK {M M1 M2:Mh} {H H1 H2:Hp} (ent:Ey M H M1 H1) (sub:∀a,a∈Γ.hid->a∈β.hid) (eP:β.P=Γ.P) (ew:β.w=Γ.w) (eK:β.K=Γ.K) (et:β.tb=Γ.tb) (x:Ex β M1 H1 M2 H2):Ex Γ.toBz M H M2 H2:=⟨ent.trans x.toEy,x.mz.sub eP.symm ew.symm eK.symm et.symm sub⟩
section
variable {CX:gK} {k:Nat} {f:ac} {fd:l5} {ps:List bn} {S:b9} {E:XK} {E':ZX} {x:bn} {p pos:wn} {e:dL} {es:List dL} {za:eh} {P:ff} {w:ii} {tb:cu}
theorem L7 (hP:P=Γ.P) (hw:w=Γ.w) (hK:K=Γ.K) (ht:tb=Γ.tb) (hE:XR Γ E' E) {σ:St} {H:Hp} {Q:VK} (h:lE Γ (zCall S E' za) σ H Q):F7 (aY P w K tb S) [] E (lA Γ za) σ H Q :=by
 subst hP hw hK ht
 obtain ⟨β,ρ,M,Q',zr,h,q⟩:=h
 refine ⟨β,ρ,M,_,zr,h,fun ds M1 vs H1 x1 r1 h1=>?_⟩
 show aY Γ.P Γ.w Γ.K Γ.tb S (vs++[]) H1 Q E
 rw [Fa]
 exact ⟨β,ds,M1,Q',E',zr.eP,zr.ew,zr.eK,zr.et,x1.mz,r1,h1,fun d M2 v H2 x2 r2 h2=>q _ _ _ _ (x1.trans x2) r2 h2,fun C M2 H2 x2 h2=>hE C M2 H2 (rK zr.ent zr.sub zr.eP zr.ew zr.eK zr.et (x1.trans x2)) h2⟩
theorem aK (F:FnOk X.prog X.w X.K X.mg X.base CX k f fd ps (aY P w K tb S)) (hr:bB k X.A) (hg:Gl X x) (hm:X.mg x=some (.ref f)) (hk:Co X.K (.ref f)=true) (hb:Binds X.K fd ps []) (hx:Passes CX X E) (hP:P=Γ.P) (hw:w=Γ.w) (hK:K=Γ.K) (ht:tb=Γ.tb) (hE:XR Γ E' E)
  (ha:QA Γ X (e::es) za) (dS:(x==("__debug__" : bn))=false :=by decide) (he:starEach (e::es) X.env=(false,eval e X.env)::starEach es X.env :=by rfl) (c9:(backTo pos (starEach es X.env)).any (·.1)=false :=by rfl) :
  QE Γ X (.Call (.Name x p) (e::es) [] pos) (zCall S E' za):=(HB F hr hg hm hk hb .nil hx ha dS he c9).imp fun σ H Q h=>L7 hP hw hK ht hE h
end
def zRaise (C:ac) (E':ZX) (za:eh):bV:=fun _ ρ M=>za ρ M fun ds M1=>ds.length<=sizeLine/\E' C M1
theorem wy {x:bn} {C:ac} {k9:dL} {rest:List dL} {za:eh} {t6:List al} {B newId vW:String} {E:XK} {E':ZX} {np bG pos:wn} (O:W8 X.K C t6 newId=true) (FB:ExcBaseFacts B newId vW t6) (hc:X.calm=true) (hR:Raises X E) (hE:XR Γ E' E) (hg:Gl X x) (hm:X.mg x=some (.ref C)) (ha:QA Γ X (k9::rest) za)
  (dS:(x==("__debug__" : bn))=false :=by decide) (he:starEach (k9::rest) X.env=(false,eval k9 X.env)::starEach rest X.env :=by rfl) (c9:(backTo bG (starEach rest X.env)).any (·.1)=false :=by rfl) :
  QS Γ X (.Raise (some (.Call (.Name x np) (k9::rest) [] bG)) none pos) (zRaise C E' za):=(EB O FB hc hR hg hm ha dS he c9).imp fun D σ H ⟨β,ρ,M,D',zr,h,r⟩=>⟨β,ρ,M,_,zr,h,fun ds M1 vs H1 x1 r1 h1=>
 ⟨by rw [r1.len];exact h1.1,hE C M1 H1 (rK zr.ent zr.sub zr.eP zr.ew zr.eK zr.et x1) h1.2⟩⟩
def zTry (K:bi) (C0:ac) (i n:Nat) (pb:ZX->bV) (ph:bV):bV:=fun D ρ M=>pb (fun C M'=>subIn K (.ref C) (.ref C0)=some true/\ph {D with nx:=fun _ M2=>D.nx (io n none) M2,bk:=fun _ M2=>D.bk (io n none) M2,ct:=fun _ M2=>D.ct (io n none) M2} ((io n none).set i (some (.exc C))) M') D ρ M
theorem L8 {body suite:List r6} {x n:bn} {i:Nat} {np vZ pos:wn} {sD:r6} {C0:ac} {pb:ZX->bV} {ph:bV} {nn:Nat} (TQ:X.N.length=nn) (hN:X.N.Nodup) (hi:X.N[i]?=some n) (hl:X.env.scope.names.lookup n=some .local) (ie:X.stack=X.env::X.outer/\X.env.frame=some X.env.locals) (hex:X.ex=[]) (O:kN X.K C0) (hg:Gl X x) (hm:X.mg x=some (.ref C0))
  (hb:∀(T:al->ba->Prop) (pn:List (ac×i4)) (E:XK) (E':ZX) (aW:Gz),aW.P=Γ.P->aW.w=Γ.w->aW.K=Γ.K->aW.tb=Γ.tb->Passes (fi X.prog X.w) (X.mi T pn) E->XR aW E' E->kP aW (X.mi T pn) body (pb E')) (hs:∀a:ac,kP Γ (X.suite a) (sD::suite) ph)
  (dS:(x==("__debug__" : bn))=false :=by decide) :
  QS Γ X (.Try body [.ExceptHandler (some (.Name x np)) (some n) (sD::suite) vZ] [] [] pos) (zTry X.K C0 i nn pb ph) :=by
 subst TQ
 refine (Lk (tb:=fun E=>fun D σ H=>∃(aW:Gz) (E':ZX),aW.P=Γ.P/\aW.w=Γ.w/\aW.K=Γ.K/\aW.tb=Γ.tb/\XR aW E' E/\lS aW (pb E') D σ H) hN hi hl ie hex O hg hm (fun T pn E hp=>⟨fun pins s σ H D I h=>?_⟩) hs dS).imp fun D σ H ⟨β,ρ,M,D',zr,h,r⟩=>⟨⟨β,M,H⟩,_,zr.eP,zr.ew,zr.eK,zr.et,?_,β,ρ,M,D',⟨rfl,rfl,rfl,rfl,fun _ h=>h,zr.mz.wf,.refl,zr.mz,zr.len,zr.at'⟩,h,?_⟩
 ·obtain ⟨aW,E',e1,e2,e4,e3,hE,h⟩:=h
  exact (hb T pn E E' aW e1 e2 e4 e3 hp hE) pins s σ H D I h
 ·intro C M' H' x' hC
  have x':Ex β M H M' H':=x'
  obtain ⟨k8,TR⟩:=hC
  refine ⟨C,rfl,k8,fun a ha=>?_⟩
  have x2:=Ex.lay x'.mz ha (pM C a)
  have x3:=x'.trans x2
  have bare:∀{M2:Mh} {H2:Hp},Ex β M H M2 H2->Zr Γ β M2 (io X.N.length none) (blank X.N.length) H2:=fun x=>⟨zr.eP,zr.ew,zr.eK,zr.et,zr.sub,zr.wf,zr.ent.trans x.toEy,x.mz,by simp [blank],fun j d e=>by
   rw [AS] at e
   split at e <;> cases e⟩
  refine ⟨β,_,M',_,(bare x3).set i (.exc (x'.mz.fz ha) ay),TR,?_⟩
  have Aj:∀{M2:Mh} {gd:aB} {iL:St} {H2:Hp},Zr Γ β M2 gd iL H2->Zr Γ β M2 (io X.N.length none) (blank X.N.length) H2:=fun z=>⟨z.eP,z.ew,z.eK,z.et,z.sub,z.wf,z.ent,z.mz,by simp [blank],fun j d e=>by
   rw [AS] at e
   split at e <;> cases e⟩
  exact ⟨fun gd M2 iL H2 y z h=>r.nx _ _ _ _ (x3.ev.trans y) (Aj z) h,fun d M2 v H2 y e z h=>r.rt _ _ _ _ (x3.ev.trans y) e z h,fun gd M2 iL H2 y z h=>r.bk _ _ _ _ (x3.ev.trans y) (Aj z) h,fun gd M2 iL H2 y z h=>r.ct _ _ _ _ (x3.ev.trans y) (Aj z) h⟩
 ·have up:∀{bI:aB} {M2:Mh} {aF:St} {H2:Hp},Zr ⟨β,M,H⟩ β M2 bI aF H2->Zr Γ β M2 bI aF H2:=fun z=>⟨zr.eP,zr.ew,zr.eK,zr.et,zr.sub,zr.wf,zr.ent.trans z.ent,z.mz,z.len,z.at'⟩
  exact ⟨fun gd M2 iL H2 y z h=>r.nx _ _ _ _ y (up z) h,fun d M2 v H2 y e z h=>r.rt _ _ _ _ y (zr.ent.trans e) z h,fun gd M2 iL H2 y z h=>r.bk _ _ _ _ y (up z) h,fun gd M2 iL H2 y z h=>r.ct _ _ _ _ y (up z) h⟩
def zIsE (K:bi):rE:=fun ds M Q=>match ds with
 | [.exc C,.raw (.ref D)]=>eV K C/\(match kitOne K (.ref C) (.ref D) with|some b=>Q (.bl b) M|none=>False)
 | [.exc C,.raw (.ty T)]=>eV K C/\(match kitOne K (.ref C) (.type T) with|some b=>Q (.bl b) M|none=>False)
 | [.exc C,.tup es]=>eV K C/\∃Ds:List ac,es=Ds.map (fun D=>.raw (.ref D))/\(match kitAny K (.ref C) (Ds.map li) with|some b=>Q (.bl b) M|none=>False)
 |_=>False
theorem GI (hK:X.K=K):eF Γ X (.builtin "isinstance") (zIsE K):=⟨_,ED hK,fun β xs ds M H Q Q' _ _ _ m rs z q=>by
 unfold zIsE at z
 split at z
 ·rename_i C D
  obtain ⟨x,y,rfl,r,r'⟩:=gP rs
  obtain ⟨a,rfl,f,h⟩:=nK r
  have e:=kO r'
  subst e
  obtain ⟨hC,z⟩:=z
  split at z
  ·rename_i b hb
   exact ⟨a,C,b,h,hC,.inl ⟨D,rfl,hb⟩,q _ _ _ _ (.refl m) (.bl _) z⟩
  ·exact z.elim
 ·rename_i C T
  obtain ⟨x,y,rfl,r,r'⟩:=gP rs
  obtain ⟨a,rfl,f,h⟩:=nK r
  have e:=kO r'
  subst e
  obtain ⟨hC,z⟩:=z
  split at z
  ·rename_i b hb
   exact ⟨a,C,b,h,hC,.inr (.inl ⟨T,rfl,hb⟩),q _ _ _ _ (.refl m) (.bl _) z⟩
  ·exact z.elim
 ·rename_i C es
  obtain ⟨x,y,rfl,r,r'⟩:=gP rs
  obtain ⟨a,rfl,f,h⟩:=nK r
  obtain ⟨b2,vs,rfl,f2,h2,eA⟩:=cw r'
  obtain ⟨hC,Ds,rfl,z⟩:=z
  split at z
  ·rename_i b hb
   have ev:vs=Ds.map V.ref :=by
    refine Wc fun i=>?_
    cases e:vs[i]? with
    |none=>
     have:=Os.mp e
     have l:=eA.len
     simp at l
     rw [ce,Os.mpr (by omega)]
     rfl
    |some v=>
     obtain ⟨d,hd,rd⟩:=eA.get' e
     rw [ce] at hd
     cases e2:Ds[i]? with
     |none=>rw [e2] at hd;cases hd
     |some D=>rw [e2] at hd;cases hd;rw [ce,e2,kO rd];rfl
   subst ev
   exact ⟨a,C,b,h,hC,.inr (.inr ⟨b2,Ds,rfl,h2,hb⟩),q _ _ _ _ (.refl m) (.bl _) z⟩
  ·exact z.elim
 ·exact z.elim⟩
section
variable {tg elt iter:dL} {ifs:List dL} {scope:u8} {pos:wn} {N':List bn} {tn:Nat} {idx:List Nat} {zi:fU} {g:cR} {tt:cU} {te:aM} {c P:ac} {k:Nat}
theorem iE (hc:X.calm=true) (B:aI X.N X.env.scope scope N' tn idx) (hi:QI Γ X tg iter zi)
  (hg:Blk X N' scope fun Y=>QG Γ Y tg g) (ht:Blk X N' scope fun Y=>rG Γ Y ifs tt) (he:Blk X N' scope fun Y=>QE Γ Y elt te)
  (hs:∀x,foldedSetIterable iter X.env x=pure x :=by intro _;rfl):QE Γ X (.ListComp elt [⟨tg,iter,ifs,0⟩] scope pos) (zComp tn idx zi g tt te):=(o6 hc B hi hg ht he hs).imp fun σ H Q h=>CA h
theorem wz (hc:X.calm=true) (B:aI X.N X.env.scope scope N' tn idx) (hi:QI Γ X tg iter zi)
  (hg:Blk X N' scope fun Y=>QG Γ Y tg g) (ht:Blk X N' scope fun Y=>rG Γ Y ifs tt) (he:Blk X N' scope fun Y=>QE Γ Y elt te)
  (hs:∀x,foldedSetIterable iter X.env x=pure x :=by intro _;rfl):QE Γ X (.ListComp elt [⟨tg,iter,ifs,0⟩] scope pos) (zCompP tn idx zi g tt te):=(o6 hc B hi hg ht he hs).imp fun σ H Q h=>sG h
theorem mH {i:Nat} {y:bn} {py gV:wn} (hN:X.N.Nodup) (dA:X.N[i]?=some y) (hy:X.env.scope.names.lookup y=some .local) (hc:X.calm=true) (B:aI X.N X.env.scope scope N' tn idx) (hi:QI Γ X tg iter zi)
  (hg:Blk X N' scope fun Y=>QG Γ Y tg g) (ht:Blk X N' scope fun Y=>rG Γ Y ifs tt) (he:Blk X N' scope fun Y=>QE Γ Y elt te)
  (qP:swapsWith (.ListComp elt [⟨tg,iter,ifs,0⟩] scope pos) (some (.Name y py)) gV.line X.env=pure true :=by rfl)
  (hs:∀x,foldedSetIterable iter X.env x=pure x :=by intro _;rfl):QS Γ X (.Assign [.Name y py] (.ListComp elt [⟨tg,iter,ifs,0⟩] scope pos) gV) (zAsg (zComp tn idx zi g tt te) (zgName i)):=(qO hN dA hy hc B hi hg ht he qP hs).imp fun D σ H h=>uY (fun _ _ _ h=>CA h) h
theorem xX {i:Nat} {y:bn} {py gV:wn} (hN:X.N.Nodup) (dA:X.N[i]?=some y) (hy:X.env.scope.names.lookup y=some .local) (hc:X.calm=true) (B:aI X.N X.env.scope scope N' tn idx) (hi:QI Γ X tg iter zi)
  (hg:Blk X N' scope fun Y=>QG Γ Y tg g) (ht:Blk X N' scope fun Y=>rG Γ Y ifs tt) (he:Blk X N' scope fun Y=>QE Γ Y elt te)
  (qP:swapsWith (.ListComp elt [⟨tg,iter,ifs,0⟩] scope pos) (some (.Name y py)) gV.line X.env=pure true :=by rfl)
  (hs:∀x,foldedSetIterable iter X.env x=pure x :=by intro _;rfl):QS Γ X (.Assign [.Name y py] (.ListComp elt [⟨tg,iter,ifs,0⟩] scope pos) gV) (zAsg (zCompP tn idx zi g tt te) (zgName i)):=(qO hN dA hy hc B hi hg ht he qP hs).imp fun D σ H h=>uY (fun _ _ _ h=>sG h) h
theorem CF {p k7:wn} (hP:P∈Γ.tb) (hr:bB (k+1) X.A) (hc:X.calm=true) (B:aI X.N X.env.scope scope N' tn idx)
  (h0:scope.names.lookup (".0" : bn)=some .local) (kI:scope.isCoroutine=false) (dP:X.env.code=.ref c) (hd:sB X.base c P) (dM:∃bm ob,Wa X.base mainGlobals X.mg bm ob)
  (vB:Gl X "all") (hm:X.mg "all" = none) (hi:QI Γ X tg iter zi) (hg:eC X N' scope k fun Y=>QG Γ Y tg g) (ht:eC X N' scope k fun Y=>rG Γ Y ifs tt) (he:eC X N' scope k fun Y=>QE Γ Y elt te)
  (hs:∀x,genFold iter X.env x=pure x :=by intro _;rfl):QE Γ X (.Call (.Name "all" p) [dB elt tg iter ifs scope k7] [] pos) (zAll tn idx zi g tt te):=(KO hr hc B h0 kI dP hd dM vB hm hi hg ht he hs).imp fun σ H Q h=>OT hP h
end
end
section
variable {X:Cx} {Γ:Gz} {β:Bz} {K:bi}
section
variable {tg elt iter:dL} {ifs:List dL} {scope:u8} {pos:wn} {N':List bn} {tn:Nat} {idx:List Nat} {zi:fU} {g:cR} {tt:cU} {te:aM} {c P:ac} {k:Nat}
theorem xY {p k7:wn} (hP:P∈Γ.tb) (hr:bB (k+1) X.A) (hc:X.calm=true) (B:aI X.N X.env.scope scope N' tn idx)
  (h0:scope.names.lookup (".0" : bn)=some .local) (kI:scope.isCoroutine=false) (dP:X.env.code=.ref c) (hd:sB X.base c P) (dM:∃bm ob,Wa X.base mainGlobals X.mg bm ob)
  (vB:Gl X "tuple") (hm:X.mg "tuple" = none) (hi:QI Γ X tg iter zi) (hg:eC X N' scope k fun Y=>QG Γ Y tg g) (ht:eC X N' scope k fun Y=>rG Γ Y ifs tt) (he:eC X N' scope k fun Y=>QE Γ Y elt te)
  (hs:∀x,genFold iter X.env x=pure x :=by intro _;rfl):QE Γ X (.Call (.Name "tuple" p) [dB elt tg iter ifs scope k7] [] pos) (zTupG tn idx zi g tt te):=(xQ hr hc B h0 kI dP hd dM vB hm hi hg ht he hs).imp fun σ H Q h=>LW hP h
def GJ (g:cR) (tt:cU) (te:aM):List Dv->aB->Mh->(List Int->Mh->Prop)->List Int->Prop
 | [],_,M,Q,acc=>Q acc M
 |d::ds,τ,M,Q,acc=>g d τ M fun aD M2=>tt aD M2 fun b M3=>if b=true then te aD M3 fun y M4=>(match y with | .int k=>acc.length+1<scanBound/\GJ g tt te ds aD M4 Q (dW acc k)|_=>False) else GJ g tt te ds aD M3 Q acc
end
def fB (xs ys:List Dv):List Dv:=(xs.zip ys).map fun p=>.tup [p.1,p.2]
def ja (n:Nat):List Dv:=(i0 n).map fun i=>.int (i:Nat)
theorem uf {J:It} {vs us:List V} {ds es:List Dv} {M:Mh} {H:Hp} (r:aG β M H vs ds) (r2:aG β M H us es) (h:∀M' H',Ey M H M' H'->Gs J (vs.zip us) H'):Cq β J (fB ds es) M H:=fun cQ M' H' bx x m i=>by
 have q:=h M' H' x i
 have hl:(fB ds es).length=(vs.zip us).length :=by simp [fB,r.len,r2.len]
 rw [hl]
 refine ⟨fun hi=>⟨(q.1 hi).1,fun v nN y=>?_⟩,q.2⟩
 obtain ⟨t,p,ht,rfl,hp,rfl⟩:=(q.1 hi).2 v nN y
 rw [AC] at hp
 obtain ⟨d,hd,rd⟩:=r.get' hp.1
 obtain ⟨e,he,re⟩:=r2.get' hp.2
 have x2:=Ex.lay m ht (.tup [p.1,p.2])
 refine ⟨x2,.tup [d,e],?_,jX (m.fz ht) ay (.cons (((rd.bx bx).ey x).ex x2) (.cons (((re.bx bx).ey x).ex x2) .nil))⟩
 unfold fB
 rw [ce,lc]
 exact ⟨(d,e),by rw [AC];exact ⟨hd,he⟩,rfl⟩
theorem enum_zip (vs:List V):((i0 vs.length).map fun i=>(V.int (i:Nat),vs.getD i .au))=((i0 vs.length).map fun i=>V.int (i:Nat)).zip vs :=by
 refine Wc fun i=>?_
 by_cases hi:i<vs.length
 ·rw [ce,xb hi]
  symm
  show _=some (V.int (i:Nat),vs.getD i .au)
  rw [AC,ce,xb hi,ci,ag hi]
  exact ⟨rfl,rfl⟩
 ·rw [Os.mpr (by simp;omega),Os.mpr (by simp;omega)]
theorem sM {n:Nat} {M:Mh} {H:Hp}:aG β M H ((i0 n).map fun i=>V.int (i:Nat)) (ja n):=⟨by simp [ja],fun i v d a b=>by
 unfold ja at b
 rw [ce] at a b
 cases e:(i0 n)[i]? with
 |none=>rw [e] at a;cases a
 |some c=>rw [e] at a b;cases a;cases b;exact .int _⟩
theorem Sq.Qq {H:Hp} {a:ac} {xs:List V} (h:H a=some (.lst xs)):Sq true K H a xs :=by
 unfold Sq
 exact bF.of h
theorem Sq.ofT {H:Hp} {a:ac} {xs:List V} (h:H a=some (.tup xs)):Sq false K H a xs :=by
 unfold Sq
 exact cI.of h
section
variable {elts:List dL} {x1:Nat} {tp p pos:wn} {l l1 l2:dL} {pl p1 p2:aM}
def ziEnumK (k:Bool) (p:aM):fU:=fun ρ M R=>p ρ M fun d M1=>match k,d with|false,.tup ds=>R (fB (ja ds.length) ds) M1|true,.lst ds=>R (fB (ja ds.length) ds) M1|_,_=>False
theorem yZ (k:Bool) (hK:X.K=K) (hg:Gl X "enumerate") (hm:X.mg "enumerate" = none) (hl:QE Γ X l pl) (hs:starEach [l] X.env=[(false,eval l X.env)] :=by rfl) :
  QI Γ X (.Tuple elts x1 tp) (.Call (.Name "enumerate" p) [l] [] pos) (ziEnumK k pl):=(HY k hK hg hm hl hs).imp fun σ H R ⟨β,ρ,M,R',zr,h,q⟩=>⟨β,ρ,M,_,zr,h,fun d M1 v H1 x1 r1 h1=>by
 revert h1
 split
 ·intro h1
  obtain ⟨a,vs,rfl,f,e,rs⟩:=cw r1
  refine ⟨a,rfl,⟨vs,Sq.ofT e⟩,q _ _ _ _ x1 ?_ h1⟩
  rw [<- rs.len]
  exact uf sM rs fun M' H' x=>by rw [<- enum_zip];exact t8 (Sq.ofT (x.get f.1 e rfl))
 ·intro h1
  obtain ⟨a,vs,rfl,f,e,rs⟩:=fA r1
  refine ⟨a,rfl,⟨vs,Sq.Qq e⟩,q _ _ _ _ x1 ?_ h1⟩
  rw [<- rs.len]
  exact uf sM rs fun M' H' x=>by rw [<- enum_zip];exact t8 (Sq.Qq (x.get f.1 e rfl))
 ·exact fun h=>h.elim⟩
end
def zRangeP (p:aM):aM:=fun ρ M Q=>p ρ M fun d M1=>match d with | .int j => -(2 ^ 24)<=j/\j<=2 ^ 24/\∀a,M1 a=none->Q (.ptr a) (aA M1 a (.lst (ja j.toNat)))|_=>False
section
variable {e:dL} {pe:aM} {p p1 p2 pos:wn}
theorem uJ (hc:X.calm=true) (hg:Gl X "list") (hm:X.mg "list" = none) (KR:Gl X "range") (KS:X.mg "range" = none) (he:QE Γ X e pe) (hs:starEach [e] X.env=[(false,eval e X.env)] :=by rfl) :
  QE Γ X (.Call (.Name "list" p) [.Call (.Name "range" p1) [e] [] p2] [] pos) (zRangeP pe):=(vD hc hg hm KR KS he hs).imp fun σ H Q ⟨β,ρ,M,Q',zr,h,q⟩=>⟨β,ρ,M,_,zr,h,fun d M1 v H1 x1 r1 h1=>by
 revert h1
 split
 ·rename_i j
  rintro ⟨b1,b2,h1⟩
  refine ⟨_,aL r1,b1,b2,fun l hl=>?_⟩
  have x2:=Ex.own x1.mz (.inr hl) (sM (n:=j.toNat) (β:=β) (M:=M1) (H:=H1))
  exact q _ _ _ _ (x1.trans x2) (.ptr (by rw [updM_same];rfl)) (h1 l (x1.mz.free hl))
 ·exact fun h=>h.elim⟩
def truD (M:Mh):Dv->Option Bool
 | .bl b=>some b
 | .au=>some false
 | .int i=>some (i != 0)
 | .str z=>if z.length<=sizeLine then some ((z.length:Int) != 0) else none
 | .tup ds=>some (!ds.isEmpty)
 | .lst ds=>some (!ds.isEmpty)
 | .ptr a=>match M a with|some (.lst ds)=>some (!ds.isEmpty)|_=>none
 |_=>none
def zTruth (p:aM):cU:=fun ρ M Q=>p ρ M fun d M1=>match truD M1 d with|some b=>Q b M1|none=>False
theorem aG.isEmpty {M:Mh} {H:Hp} {vs:List V} {ds:List Dv} (h:aG β M H vs ds):vs.isEmpty=ds.isEmpty :=by
 have:=h.len
 cases vs <;> cases ds <;> simp_all
theorem Ik {M:Mh} {H:Hp} {v:V} {d:Dv} {b:Bool} (m:Mz β M H) (r:Rz β M H v d) (h:truD M d=some b):D7 K v H b :=by
 cases r with
 |int i=>cases h;exact rfl
 |bl i=>cases h;exact rfl
 |au=>cases h;exact rfl
 |str z=>
  simp only [truD] at h
  split at h
  ·rename_i hz
   cases h
   exact ⟨hz,rfl⟩
  ·cases h
 |tup f e hl q=>cases h;exact .inr (.inl ⟨_,cI.of e,by rw [aG.isEmpty ⟨hl,q⟩]⟩)
 |lst f e hl q=>cases h;exact .inl ⟨_,bF.of e,by rw [aG.isEmpty ⟨hl,q⟩]⟩
 |ptr hs=>
  simp only [truD] at h
  split at h
  ·rename_i ds ue
   cases h
   obtain ⟨vs,hv,rs⟩:=m.obj _ _ ue
   exact .inl ⟨_,bF.of hv,by rw [rs.isEmpty]⟩
  ·cases h
 |set f e=>cases h
 |exc f e=>cases h
 |bD f e=>cases h
 |cz f e=>cases h
 |cA e=>cases h
 |raw v=>cases h
 |dk f e _ _ _=>cases h
 |dt f e _ _ _=>cases h
 |bO _ _ _ _ _ _=>cases h
theorem E3 (ha:QE Γ X e pe) (he:∀whole,isTrue e X.env whole=(do let v <- whole;standAt e.pos;holding [v] (truthy v)) :=by intro _;rfl):QT Γ X e (zTruth pe):=(D8 ha he).imp fun σ H Q ⟨β,ρ,M,Q',zr,h,q⟩=>⟨β,ρ,M,_,zr,h,fun d M1 v H1 x1 r1 h1=>by
 revert h1
 split
 ·rename_i b hb
  intro h1
  exact ⟨b,Ik x1.mz r1 hb,q _ _ _ x1 h1⟩
 ·exact fun h=>h.elim⟩
end
theorem qv (i:Nat) {x:bn} {pos:wn} (hN:X.N[i]?=some x :=by rfl) (hv:oZ X.env.scope x :=by first|exact mT rfl|exact IT (mT rfl)|exact IT (IT rfl)) (hd:(x==("__debug__" : bn))=false :=by decide)
  (dR:(x==("__classdict__" : bn))=false :=by decide):QE Γ X (.Name x pos) (zVar i):=LD hN hv hd dR
end
theorem TU {c:Bool} {A B:Prop} (h:c=true) (a:A):if c=true then A else B :=by rw [if_pos h];exact a
theorem TV {c:Bool} {A B:Prop} (h:c=false) (b:B):if c=true then A else B :=by rw [h,if_neg gl];exact b
theorem eB {c:Bool} {A B:Prop} (h1:c=true->A) (h2:c=false->B):if c=true then A else B :=by
 cases c
 ·exact TV rfl (h2 rfl)
 ·exact TU rfl (h1 rfl)
theorem sN {g:cR} {te:aM} {M:Mh} (p:Dv->Bool) (I:aB->Prop):∀{ds:List Dv} {τ:aB} {Q:Bool->Mh->Prop},I τ->(∀d∈ds,∀τ,I τ->∀R:aB->ZK,(∀aD,I aD->R aD (.bl (p d)) M)->g d τ M fun aD M2=>te aD M2 (R aD))->Q (ds.all p) M->kR g zNoIf te ds τ M Q
 | [],τ,Q,_,_,q=>q
 |d::ds,τ,Q,i,h,q=>by
          refine h d l9 τ i (fun aD=>zBool fun c M4=>if c=false then Q false M4 else kR g zNoIf te ds aD M4 Q) fun aD i2=>?_
          show if p d=false then Q false M else kR g zNoIf te ds aD M Q
          cases e:p d with
          |false=>
           rw [if_pos rfl]
           rw [Wh,e] at q
           exact q
          |true=>
           rw [if_neg (by decide)]
           rw [Wh,e,Wj] at q
           exact sN p I i2 (fun d' hd=>h d' (im _ hd)) q
theorem jv {g:cR} {te:aM} (f:Dv->Dv) (I:aB->Mh->Prop):∀{ds:List Dv} {τ:aB} {M:Mh} {Q:List Dv->Mh->Prop},I τ M->(∀d∈ds,∀τ M,I τ M->∀R:aB->ZK,(∀aD M2,I aD M2->R aD (f d) M2)->g d τ M fun aD M2=>te aD M2 (R aD))->(∀τ M,I τ M->Q (ds.map f) M)->fX g zNoIf te ds τ M Q
 | [],τ,M,Q,i,_,q=>q τ M i
 |d::ds,τ,M,Q,i,h,q=>by
          refine h d l9 τ M i (fun aD y M4=>fX g zNoIf te ds aD M4 fun ys M5=>Q (y::ys) M5) fun aD M2 i2=>?_
          exact jv f I i2 (fun d' hd=>h d' (im _ hd)) fun pA M3 i3=>q pA M3 i3
theorem sO {g:cR} {tt:cU} {te:aM} (t:Dv->Bool) (f:Dv->Dv) (I:aB->Mh->Prop):∀{ds:List Dv} {τ:aB} {M:Mh} {Q:List Dv->Mh->Prop},I τ M->
  (∀d∈ds,∀τ M,I τ M->∀(R0:aB->Mh->Prop) (R:aB->ZK),(t d=true->∀aD M2,I aD M2->R aD (f d) M2)->(t d=false->∀aD M2,I aD M2->R0 aD M2)->g d τ M fun aD M2=>tt aD M2 fun b M3=>if b=true then te aD M3 (R aD) else R0 aD M3)->
  (∀τ M,I τ M->Q ((ds.filter t).map f) M)->fX g tt te ds τ M Q
 | [],τ,M,Q,i,_,q=>q τ M i
 |d::ds,τ,M,Q,i,h,q=>by
          refine h d l9 τ M i (fun aD M3=>fX g tt te ds aD M3 Q) (fun aD y M4=>fX g tt te ds aD M4 fun ys M5=>Q (y::ys) M5) (fun e aD M2 i2=>?_) fun e aD M2 i2=>?_
          ·refine sO t f I i2 (fun d' hd=>h d' (im _ hd)) fun pA M3 i3=>?_
           have:=q pA M3 i3
           rw [Pc,if_pos e] at this
           exact this
          ·refine sO t f I i2 (fun d' hd=>h d' (im _ hd)) fun pA M3 i3=>?_
           have:=q pA M3 i3
           rw [Pc,if_neg (by rw [e];decide)] at this
           exact this
abbrev eI (ns:List Int):Dv:=.tup (ns.map .int)
abbrev eN (net:List (List Int)):Dv:=.tup (net.map eI)
abbrev jf (ns:List Int):Dv:=.lst (ns.map .int)
theorem j4 {M:Mh} (ns:List Int):∀d∈ns.map Dv.int,Pin M d:=fun d hd=>by
 obtain ⟨i,_,rfl⟩:=ss.mp hd
 exact .int i
theorem L9 {M:Mh} (ns:List Int):Pin M (eI ns):=.tup (j4 ns)
theorem Ma {M:Mh} (net:List (List Int)):Pin M (eN net):=.tup fun d hd=>by
 obtain ⟨r,_,rfl⟩:=ss.mp hd
 exact L9 r
theorem Il {α β:Type} {f:α->β} {xs:List α} {i:Int} {x:α} (h:b5 xs i=some x):b5 (xs.map f) i=some (f x) :=by
 unfold b5 at h ⊢
 rw [c8]
 cases e:fu xs.length i with
 |none=>rw [e] at h;cases h
 |some j=>rw [e] at h;simp only [Uf] at h ⊢;rw [ce,h];rfl
theorem CG {α:Type} {xs:List α} {k:Nat} (h:k<xs.length):b5 xs ((k:Nat):Int)=some xs[k]:=b6 (ag h)
def spLaw (K:bi) (tb:cu):Sp:=fun vs H Q _=>∃(a:ac) (ns:List Int),vs=[.ref a]/\bF K H a (ns.map V.int)/\ns.length<=63/\Ge tb.g H/\(∀p∈tb.l,Lm H p)/\∀H',(∀p∈tb.l,∃ps,H' p.1=some (.lam ps))->Q (.bl true) H'
def Mb:b9:=fun ds M Q _=>∃ns:List Int,ds=[.bD ns]/\ns.length<=63/\(∀a,M a=none)/\∀M',Q (.bl true) M'
theorem Md {P:ff} {w:ii} {K:bi} {mg:bn->Option al} {base:ge} {k:Nat} {f:ac} {fd:l5} {x:bn} {tb:cu} (G:FnOk P w K mg base bf k f fd [x] (aY P w K tb Mb)):FnOk P w K mg base bf k f fd [x] (spLaw K tb):=
 G.imp fun vs H Q E ⟨a,ns,e,hS,hl,hT,hL,q⟩=>by
  subst e
  have m:Mz ⟨P,w,K,tb,[]⟩ (fun _=>none) H:=⟨(fun a o e=>nomatch e),hT,(fun a ha=>absurd ha (by simp)),(fun a o e=>nomatch e),hL⟩
  refine ⟨⟨P,w,K,tb,[]⟩,[.bD ns],fun _=>none,fun d _=>d=.bl true,fun _ _=>False,rfl,rfl,rfl,rfl,m,.cons ?_ .nil,⟨ns,rfl,hl,fun _=>rfl,fun _=>rfl⟩,fun d M' v H' x r h=>?_,fun _ _ _ _ h=>h.elim⟩
  ·have fz:Fz ⟨P,w,K,tb,[]⟩ (fun _=>none) a:=⟨rfl,by simp⟩
   rcases hS with (h|⟨o,h⟩)|h
   ·exact .cz fz h
   ·exact .bD fz h
   ·exact .cA h
  ·subst h
   rw [cY r]
   exact q H' fun p hp=>let ⟨ps,e,_⟩:=x.mz.lams p hp;⟨ps,e⟩
def Keeps (M0 M:Mh):Prop:=∀a o,M0 a=some o->M a=some o
theorem Keeps.refl {M0:Mh}:Keeps M0 M0:=fun _ _ h=>h
theorem Keeps.upd {M0 M:Mh} {a:ac} {o:Mo} (ha:M0 a=none) (h:Keeps M0 M):Keeps M0 (aA M a o):=fun b u e=>by
 rw [ah (fun z=>by rw [z,ha] at e;cases e)]
 exact h b u e
theorem CH {M0 M:Mh} {Q:ZK} {d:Dv} (h:Keeps M0 M) (p:Pin M0 d) (q:Q d M0):i9 M0 Q d M:=.inr ⟨h,d,.pin p,q⟩
theorem CI {M0 M:Mh} {Q:ZK} {a:ac} {ds:List Dv} (h:Keeps M0 M) (h0:M0 a=none) (ha:M a=some (.lst ds)) (p:∀d∈ds,Pin M0 d) (q:Q (.lst ds) M0):i9 M0 Q (.ptr a) M:=.inr ⟨h,.lst ds,.ptr h0 ha rfl fun i d d' e e'=>by
 rw [e] at e'
 cases e'
 exact .pin (p d (gc e)),q⟩
theorem a8 {lo:Int} {n i:Nat} {d:Dv} (h:(bW lo n)[i]?=some d):d=.int (lo+(i:Nat))/\i<n :=by
 unfold bW at h
 rw [ce] at h
 cases e:(i0 n)[i]? with
 |none=>rw [e] at h;cases h
 |some k=>
  rw [e] at h
  obtain ⟨h1,h2⟩:=br.mp e
  rw [List.getElem_range] at h2
  subst h2
  exact ⟨(ij h).symm,by simpa using h1⟩
theorem rL {lo:Int} {n:Nat} {d:Dv} (h:d∈bW lo n):∃i:Nat,i<n/\d=.int (lo+(i:Nat)) :=by
 obtain ⟨i,hi⟩:=l6.mp h
 obtain ⟨e,l⟩:=a8 hi
 exact ⟨i,l,e⟩
theorem rangeD_len (lo:Int) (n:Nat):(bW lo n).length=n :=by simp [bW]
theorem mI {tt:cU} (t:Dv->Bool) {τ:aB}:∀{ds:List Dv} {x:Option Dv} {M:Mh} {Q:List Dv->Mh->Prop},(∀d∈ds,∀R:Bool->Mh->Prop,R (t d) M->tt (some d::τ) M R)->Q (ds.filter t) M->fX (zgName 0) tt (zVar 0) ds (x::τ) M Q
 | [],x,M,Q,_,q=>q
 |d::ds,x,M,Q,h,q=>by
          refine h d l9 _ ?_
          cases e:t d with
          |true=>
           rw [Pc,if_pos e] at q
           exact mI t (Q:=fun ys M5=>Q (d::ys) M5) (fun d' hd=>h d' (im _ hd)) q
          |false=>
           rw [Pc,if_neg (by rw [e];decide)] at q
           exact mI t (fun d' hd=>h d' (im _ hd)) q
theorem ug {xs ys:List Dv} {k:Nat} {d:Dv} (h:(fB xs ys)[k]?=some d):∃x y,d=.tup [x,y]/\xs[k]?=some x/\ys[k]?=some y :=by
 unfold fB at h
 rw [ce,lc] at h
 obtain ⟨p,h,rfl⟩:=h
 rw [AC] at h
 exact ⟨p.1,p.2,rfl,h.1,h.2⟩
theorem y0 {n k:Nat} {d:Dv} (h:(ja n)[k]?=some d):d=.int (k:Nat)/\k<n :=by
 unfold ja at h
 rw [ce] at h
 cases e:(i0 n)[k]? with
 |none=>rw [e] at h;cases h
 |some j=>
  rw [e] at h
  obtain ⟨h1,h2⟩:=br.mp e
  rw [List.getElem_range] at h2
  subst h2
  exact ⟨(ij h).symm,by simpa using h1⟩
theorem atI_zero {α:Type} {x:α} {xs:List α}:b5 (x::xs) 0=some x:=b6 (j:=0) rfl
theorem Mf {α:Type} {f:α->Dv} {xs:List α} {k:Nat} {d:Dv} (h:(xs.map f)[k]?=some d):∃x,xs[k]?=some x/\d=f x :=by
 rw [ce,lc] at h
 obtain ⟨x,h,e⟩:=h
 exact ⟨x,h,e.symm⟩
theorem pairsD_len (xs ys:List Dv):(fB xs ys).length=min xs.length ys.length :=by simp [fB]
theorem numD_len (n:Nat):(ja n).length=n :=by simp [ja]
end L2
namespace L2
open PySem PySem.Spec PyProof.Rows
theorem CJ {M:XV} {A:ma} {E:al->ba->Prop} {s:ba} {scope:u8} {globals:ac} {cl:List (bn×ac)} {qual:bn} {env:IR} {Q:IR->ba->Prop}
  (h:Q (newEnv scope s.heap.objs.size globals (cellsFrom (s.heap.objs.size+1) scope.names cl) qual none .none (some env) builtinsNs) {s with heap:=pushCells (s.heap.push {cls:=.type "dict",data:=.dict #[]}) scope.names}) :
  wpAny M A (newFunctionEnv scope globals cl [] qual none .none (some env)) Q E s :=by
 simp only [newFunctionEnv,Option.isSome_some,if_true]
 refine ap (wpAny_alloc ?_)
 refine ap (wpAny_layCells _ (fun name kind cells=>by cases TX:kind==Ps <;> simp [TX]) _ _ _ _ ?_)
 rw [show ({s with heap:=s.heap.push {cls:=.type "dict",data:=.dict #[]}}:ba).heap.objs.size=s.heap.objs.size+1 from CS ..]
 exact bv h
theorem j5:∀(names:List (bn×ON)) (h:ge) (cl:List (bn×ac)) (x:bn) (c:ac),(cellsFrom h.objs.size names cl).lookup x=some c->
  ((x,Ps)∈names/\h.objs.size<=c/\(pushCells h names).IsCell c none)\/((∀k,(x,k)∈names->k≠.cell)/\cl.lookup x=some c)
 | [],h,cl,x,c,e=>.inr ⟨fun k z=>by simp at z,e⟩
 |(n,k)::r,h,cl,x,c,e=>by
          unfold cellsFrom at e
          unfold pushCells
          split at e
          ·rename_i hk
           have tV:k=.cell :=by simpa using hk
           subst tV
           rw [if_pos hk]
           have sz:(h.push {cls:=.type "cell",data:=.cell none}).objs.size=h.objs.size+1:=CS ..
           rw [<- sz] at e
           rcases j5 r _ _ x c e with ⟨a,b,d⟩|⟨a,b⟩
           ·exact .inl ⟨im _ a,by omega,d⟩
           ·rw [Cc] at b
            cases hx:x==n with
            |true=>
             rw [hx] at b
             cases b
             have e2:x=n :=by simpa using hx
             subst e2
             exact .inl ⟨l9,cr _,⟨_,XF r _ _ _ (f8 _ rfl),rfl⟩⟩
            |false=>
             rw [hx] at b
             refine .inr ⟨fun k2 z=>?_,b⟩
             rcases kw.mp z with q|q
             ·cases q;simp at hx
             ·exact a k2 q
          ·rename_i hk
           rw [if_neg hk]
           rcases j5 r h cl x c e with ⟨a,b,d⟩|⟨a,b⟩
           ·exact .inl ⟨im _ a,b,d⟩
           ·refine .inr ⟨fun k2 z=>?_,b⟩
            rcases kw.mp z with q|q
            ·cases q;intro z;subst z;exact hk rfl
            ·exact a k2 q
theorem cells_apart:∀(names:List (bn×ON)) (h:ge) (cl:List (bn×ac)) (x y:bn) (c:ac),(∀n c,cl.lookup n=some c->c<h.objs.size)->(∀x y c,cl.lookup x=some c->cl.lookup y=some c->x=y)->(cellsFrom h.objs.size names cl).lookup x=some c->(cellsFrom h.objs.size names cl).lookup y=some c->x=y
 | [],h,cl,x,y,c,_,inj,e,e'=>inj x y c e e'
 |(n,k)::r,h,cl,x,y,c,lt,inj,e,e'=>by
          unfold cellsFrom at e e'
          split at e
          ·rename_i hk
           rw [if_pos hk] at e'
           have sz:(h.push {cls:=.type "cell",data:=.cell none}).objs.size=h.objs.size+1:=CS ..
           rw [<- sz] at e e'
           refine cells_apart r _ _ x y c (fun m d z=>?_) (fun x y d a b=>?_) e e'
           ·rw [sz]
            rw [Cc] at z
            cases hm:m==n with
            |true=>rw [hm] at z;cases z;exact Cf _
            |false=>rw [hm] at z;exact Ch (lt m d z)
           ·rw [Cc] at a b
            have old:∀z,cl.lookup z=some h.objs.size->False:=fun z q=>absurd (lt _ _ q) (EO _)
            cases hx:x==n with
            |true=>
             rw [hx] at a
             cases a
             cases hy:y==n with
             |true=>rw [show x=n by simpa using hx,show y=n by simpa using hy]
             |false=>rw [hy] at b;exact (old y b).elim
            |false=>
             rw [hx] at a
             cases hy:y==n with
             |true=>rw [hy] at b;cases b;exact (old x a).elim
             |false=>rw [hy] at b;exact inj x y d a b
          ·rename_i hk
           rw [if_neg hk] at e'
           exact cells_apart r h cl x y c lt inj e e'
theorem kW:∀(names:List (bn×ON)) (n:Nat) (cl:List (bn×ac)) (x:bn),((x,Ps)∈names\/∃c,cl.lookup x=some c)->∃c,(cellsFrom n names cl).lookup x=some c
 | [],n,cl,x,h=>by
          rcases h with h|h
          ·simp at h
          ·exact h
 |(y,k)::r,n,cl,x,h=>by
          unfold cellsFrom
          split
          ·rename_i hk
           refine kW r _ _ x ?_
           by_cases e:x=y
           ·subst e
            exact .inr ⟨n,by rw [Cc];simp⟩
           ·rcases h with h|⟨c,h⟩
            ·rcases kw.mp h with q|q
             ·cases q;exact absurd rfl e
             ·exact .inl q
            ·exact .inr ⟨c,by rw [Cc,show (x==y)=false by simpa using e];exact h⟩
          ·rename_i hk
           refine kW r _ _ x ?_
           rcases h with h|h
           ·rcases kw.mp h with q|q
            ·cases q;exact absurd rfl hk
            ·exact .inl q
           ·exact .inr h
theorem Ak {X:Cx} {pins:List (ac×i4)} {σ:St} {H:Hp} {s:ba} (I:Inv X pins σ H s) {x:bn} {c:ac} (h:X.env.cells.lookup x=some c):c<s.heap.objs.size :=by
 obtain ⟨v,o,ho,_⟩:=I.cell x c h
 exact hX ho
abbrev GK (X:Cx) (N':List bn) (scope:u8) (cl:List (bn×ac)) (C:ac) (s:ba) (H:Hp) (fp:List ac) (own:bn->Bool):Cx:={yD X N' scope cl C s H fp with fn:=own}
def dq (N:List bn) (sc scope:u8) (N':List bn) (tn:Nat) (idx:List Nat):Prop:=
 scope.kind=.function/\(∀y∈scope.names,(y.2=.cell->scope.names.lookup y.1=some .cell)/\(y.2=.local->scope.names.lookup y.1=some .local)/\(y.2=.free->sc.names.lookup y.1=some .cell\/sc.names.lookup y.1=some .free)) /\
  N'.length=tn+idx.length/\∀p∈idx.zip (N'.drop tn),N[p.1]?=some p.2/\scope.names.lookup p.2=some .free
instance (N:List bn) (sc scope:u8) (N':List bn) (tn:Nat) (idx:List Nat):Decidable (dq N sc scope N' tn idx) :=by unfold dq;infer_instance
theorem dq.at {N:List bn} {sc scope:u8} {N':List bn} {tn:Nat} {idx:List Nat} (B:dq N sc scope N' tn idx) {σ:St} {i:Nat} {x:bn} {v:V} (h1:N'[i]?=some x) (h2:(bg tn idx σ)[i]?=some (some v)) :
  scope.names.lookup x=some .free/\∃j:Nat,N[j]?=some x/\σ[j]?=some (some v) :=by
 obtain ⟨_,_,b3,b4⟩:=B
 unfold bg at h2
 by_cases hi:i<tn
 ·rw [rf (by simpa using hi),AS,if_pos hi] at h2
  cases h2
 ·rw [sK (by simpa using hi),FF,ce] at h2
  cases e:idx[i - tn]? with
  |none=>rw [e] at h2;cases h2
  |some k=>
   rw [e] at h2
   have h3:(σ[k]?).join=some v:=ij h2
   have e2:(N'.drop tn)[i - tn]?=some x :=by
    rw [W2]
    have:tn+(i - tn)=i :=by omega
    rw [this];exact h1
   have m:(k,x)∈idx.zip (N'.drop tn) :=by
    refine gc (i:=i - tn) ?_
    rw [AC]
    exact ⟨e,e2⟩
   obtain ⟨a,b⟩:=b4 _ m
   refine ⟨b,k,a,?_⟩
   cases q:σ[k]? with
   |none=>rw [q] at h3;cases h3
   |some w=>rw [q] at h3;exact congrArg some h3
theorem dq.len {N:List bn} {sc scope:u8} {N':List bn} {tn:Nat} {idx:List Nat} (B:dq N sc scope N' tn idx) (σ:St):(bg tn idx σ).length=N'.length :=by
 rw [B.2.2.1]
 unfold bg
 simp
def gC (scope:u8) (x:bn):Bool:=scope.names.lookup x==some .cell
abbrev iu (X:Cx) (N':List bn) (scope:u8) (P:Cx->Prop):Prop:=∀(cl:List (bn×ac)) (C:ac) (s:ba) (H:Hp) (fp:List ac),P (GK X N' scope cl C s H fp (gC scope))
theorem Al {X:Cx} {pins:List (ac×i4)} {σ aF:St} {H H':Hp} {s:ba} {N':List bn} {scope:u8} {cs:List (bn×ac)} {C:ac} {ex:List ac} {h1:ge} {m0:bn->Option al} {g':Array RS} {tk:Nat}
  (I:Inv X pins σ H s) (oA:scope.kind=.function)
  (da:∀n c,cs.lookup n=some c->(gC scope n=true/\C<c/\h1.IsCell c none/\H' c=none)\/(gC scope n=false/\X.env.cells.lookup n=some c))
  (RW:∀x y c,cs.lookup x=some c->cs.lookup y=some c->x=y)
  (pG:∀x,((relabel scope X.env).names.lookup x=some .cell\/(relabel scope X.env).names.lookup x=some .free)->∃c,cs.lookup x=some c)
  (hC:s.heap.objs.size<=C) (hf:∀b∈ex,cD X pins H b) (zL:∀b∈ex,b<s.heap.objs.size)
  (BD:Un (dQ X.stack) ex H H' s.heap h1) (hok:cH X.prog X.w H' h1) (vp:H' C=none) (qG:∀b o,s.heap.get? b=some o->h1.get? b=some o) (dz:h1.Ns C m0)
  (vq:∀(i:Nat) (x:bn) (v:V),N'[i]?=some x->aF[i]?=some (some v)->gC scope x=false/\((relabel scope X.env).names.lookup x=some .cell\/(relabel scope X.env).names.lookup x=some .free)/\oZ X.env.scope x/\(X.env.kindOf x=some .cell\/X.env.kindOf x=some .free)/\∃j:Nat,X.N[j]?=some x/\σ[j]?=some (some v))
  (hlen:aF.length=N'.length) (hg:Gn s.gens.size g'):Inv (GK X N' scope cs C s H ex (gC scope)) [] aF H' {s with heap:=h1,gens:=g',toks:=tk}:=by
 have BE:∀b∈ex,∀x c,X.env.cells.lookup x=some c->c≠b:=fun b hb=>(hf b hb).2.2.2.2.1
 have TY:∀b∈ex,∀x c,cs.lookup x=some c->c≠b:=fun b hb x c e z=>by
  rcases da x c e with ⟨_,q,_⟩|⟨_,q⟩
  ·subst z;exact absurd (V0 (NG hC q) (zL _ hb)) (EO _)
  ·exact BE b hb x c q z
 refine ⟨⟨I.ok.mod,oA,I.ok.glob,I.ok.blt,hC,RW,pG,fun x c hx e=>?_,fun z=>I.ok.hd z,I.ok.frames,.inl rfl,fun b hb=>⟨jp (l8 (zL b hb) hC),fun x c e=>TY b hb x c e⟩,
   I.bs,wv I.ok.bsz I.sz,fun b o e hb=>?_,fun b hb z=>?_,I.stack,I.lj⟩,rfl,hg,BD,⟨m0,dz,fun i x v e1 e2 e3=>?_⟩,fun x c e=>?_,vp,fun x c e=>?_,fun p hp=>absurd (show p∈([]:List (ac×i4)) from hp) (by simp),hok,hlen⟩
 ·rcases da x c e with ⟨_,q,_⟩|⟨q,_⟩
  ·exact Na (NG hC q)
  ·have lq:gC scope x=true:=hx
   rw [q] at lq;cases lq
 ·rcases (hf b hb).2.2.2.1 with z|z
  ·exact I.ok.noex b o e z
  ·exact absurd (l8 (hX e) (wv I.ok.bsz z)) (EO _)
 ·rcases kw.mp (I.fZ b z) with q|q
  ·exact (hf b hb).2.1 q
  ·exact (hf b hb).2.2.1 q
 ·obtain ⟨k0,k1,vx,k2,j,n1,n2⟩:=vq i x v e1 e2
  obtain ⟨m,hn,hl⟩:=I.loc
  obtain ⟨u,r,l⟩:=hl j x v n1 n2 vx
  refine ⟨u,r,.inr ⟨k1,?_⟩⟩
  obtain ⟨c',BF⟩:=pG x k1
  rcases l with ⟨kl,_⟩|⟨_,c,ec,z⟩
  ·rcases k2 with q|q <;> (rw [kl] at q;cases q)
  ·rcases da x c' BF with ⟨q,_⟩|⟨_,q⟩
   ·rw [k0] at q;cases q
   ·have:c'=c:=ij (q.symm.trans ec)
    subst this
    exact ⟨c',BF,z.keeps qG⟩
 ·rcases da x c e with ⟨_,_,q,_⟩|⟨_,q⟩
  ·exact ⟨_,q⟩
  ·obtain ⟨v,z⟩:=I.cell x c q
   exact ⟨v,z.keeps qG⟩
 ·rcases da x c e with ⟨_,_,_,q⟩|⟨_,q⟩
  ·exact q
  ·obtain ⟨v,o,ho,hd⟩:=I.cell x c q
   exact BD.free c o ho (I.freeC x c q) fun z=>BE c z x c q rfl
section
variable {X:Cx}
theorem compG_coreC {pins:List (ac×i4)} {σ:St} {H2:Hp} {s2:ba} {e tg iter:dL} {ifs:List dL} {scope:u8} {N':List bn} {tn:Nat} {idx:List Nat} {g:TG} {tt:TT} {tb:ac->TB} {body:al->IR->Wx Unit} {it:ac} {fp:List ac} {bu:Nat->ge->Prop} {J:It}
  {cl:List (bn×ac)} {E:al->ba->Prop} {RR:al->ac->Wz->ba->Prop} {Q:VK} {mk:Wx al} {O0:HO} {o0:i4}
  (KD:∀(Q:al->ba->Prop),Q (.ref s2.heap.objs.size) {s2 with heap:=s2.heap.push o0}->wpAny (model X.prog X.w) X.A mk Q E s2) (qF:o0.isFreed=false)
  (KG:∀(H:Hp) (h1:ge),h1.get? s2.heap.objs.size=some o0->ObjOk X.prog X.w H h1 s2.heap.objs.size O0)
  (hc:X.calm=true) (B:dq X.N X.env.scope scope N' tn idx)
  (Qr:∀(D:ac),iu X N' scope fun Y=>zN Y e tg iter ifs 0 (.ref D) (body (.ref D) Y.env))
  (hg:iu X N' scope fun Y=>PG Y tg g) (ht:iu X N' scope fun Y=>gL Y ifs tt) (hb:∀D,iu X N' scope fun Y=>PB Y (body (.ref D) Y.env) (tb D))
  (I:Inv X pins σ H2 s2) (T:Turn X.prog X.w X.K tg J fp it bu) (st:bu 0 s2.heap) (f2:∀b∈fp,cD X pins H2 b)
  (c6:∀n c,cl.lookup n=some c->X.env.cells.lookup n=some c) (fh:∀n,(n,tw)∈scope.names->∃c,cl.lookup n=some c)
  (hq:∀D,H2 D=none->∃W:Nat->Nat->St->Hp->Prop,(∃m,W 0 m (bg tn idx σ) (upd H2 D O0))/\uU J g tt (tb D) (fun _ H'=>Q (.ref D) H') W)
  (vt:∀D C m s' H',Inv X pins σ H' s'->cD X pins H' C->s'.heap.Ns C m->Q (.ref D) H'->RR (.ref D) C (.ok .next) s') :
  wpAny (model X.prog X.w) X.A mk (fun acc iZ=>wpAny (model X.prog X.w) X.A (newFunctionEnv scope X.env.globals cl [] X.env.qual none .none (some X.env)) (fun jM pH=>
   codeAny (model X.prog X.w) X.A (.compStart e 0 (.ref it) acc {jM with scope:=relabel scope X.env}) (RR acc jM.locals) pH) E iZ) E s2 :=by
 obtain ⟨b1,b2,b3,b4⟩:=id B
 refine KD _ (CJ ?_)
 dsimp only
 generalize hG:s2.heap.push o0=G
 have hC:G.objs.size=s2.heap.objs.size+1 :=by rw [<- hG,CS]
 generalize Mg:pushCells (G.push {cls:=.type "dict",data:=.dict #[]}) scope.names=dU
 have nu:dU.Ns G.objs.size fun _=>none :=by rw [<- Mg];exact (ge.Ns.new G (.type "dict")).keeps (XF _ _)
 have nV:∀b o,G.get? b=some o->dU.get? b=some o:=fun b o e=>by rw [<- Mg];exact XF _ _ b o (cb _ e)
 have F9:s2.heap.objs.size≠G.objs.size :=by rw [hC];exact jp (Cf _)
 have l0:s2.heap.objs.size<=G.objs.size :=by rw [hC];exact ET _
 have below:∀b,b<s2.heap.objs.size->b≠G.objs.size:=fun b hb=>by rw [hC];exact jp (Ch hb)
 have old:∀b o,s2.heap.get? b=some o->dU.get? b=some o:=fun b o e=>nV b o (hG▸cb _ e)
 have KI:dU.get? s2.heap.objs.size=some o0:=nV _ _ (hG▸f8 _ qF)
 generalize wA:cellsFrom (G.objs.size+1) scope.names cl=cs
 have GL:(G.push {cls:=.type "dict",data:=.dict #[]}).objs.size=G.objs.size+1:=CS ..
 have Mi:∀x,(x,Ps)∈scope.names->gC scope x=true:=fun x hx=>by
  unfold gC
  rw [(b2 _ hx).1 rfl]
  rfl
 have Im:∀x,(∀k,(x,k)∈scope.names->k≠Ps)->gC scope x=false:=fun x hx=>by
  unfold gC
  cases q:scope.names.lookup x with
  |none=>rfl
  |some k=>have:=hx k (wp q);simpa using this
 have look:∀x c,cs.lookup x=some c->(gC scope x=true/\G.objs.size<c/\dU.IsCell c none)\/(gC scope x=false/\cl.lookup x=some c):=fun x c e=>by
  rw [<- wA,<- GL] at e
  rcases j5 scope.names _ cl x c e with ⟨a,b,d⟩|⟨a,b⟩
  ·rw [Mg] at d
   rw [GL] at b
   exact .inl ⟨Mi x a,b,d⟩
  ·exact .inr ⟨Im x a,b⟩
 have inj:∀x y c,cs.lookup x=some c->cs.lookup y=some c->x=y:=fun x y c e e'=>by
  rw [<- wA,<- GL] at e e'
  refine cells_apart scope.names _ cl x y c (fun n d z=>?_) (fun x y d a b=>I.ok.inj x y d (c6 x d a) (c6 y d b)) e e'
  rw [GL,hC]
  exact Ch (Ch (Ak I (c6 n d z)))
 have BH:H2 s2.heap.objs.size=none:=I.hok.fresh (cr _)
 have vp:upd H2 s2.heap.objs.size O0 G.objs.size=none :=by rw [af (zd F9)];exact I.hok.fresh l0
 have Ef:cH X.prog X.w (upd H2 s2.heap.objs.size O0) dU:=I.hok.laid old (cr _) (KG _ _ KI)
 have mX:∀b∈fp,b<s2.heap.objs.size:=fun b hb=>let ⟨o,e,_⟩:=T.obj _ _ st b hb;hX e
 obtain ⟨W,⟨m0,w0⟩,turn⟩:=hq s2.heap.objs.size BH
 have I1:Inv (GK X N' scope cs G.objs.size s2 H2 fp (gC scope)) [] (bg tn idx σ) (upd H2 s2.heap.objs.size O0) {s2 with heap:=dU,toks:=s2.toks}:=by
  refine Al (g':=s2.gens) (m0:=fun _=>none) I b1 (fun n c e=>?_) inj (fun x hx=>?_) l0 f2 mX (Un.laid old (cr _) BH) Ef vp old nu (fun i x v e1 e2=>?_) (B.len σ) I.bare.self
  ·rcases look n c e with ⟨o,a,b⟩|⟨o,a⟩
   ·refine .inl ⟨o,a,b,?_⟩
    have:c≠s2.heap.objs.size:=fun z=>by rw [z,hC] at a;exact absurd (V0 a (Cf _)) (fun h=>by omega)
    rw [af this]
    exact I.hok.fresh (Na (NG l0 a))
   ·exact .inr ⟨o,c6 n c a⟩
  ·rw [fv] at hx
   rw [<- wA]
   cases q:scope.names.lookup x with
   |none=>rw [q] at hx;rcases hx with z|z <;> cases z
   |some k0=>
    have hm:=wp q
    rw [q] at hx
    by_cases hk:k0=.free
    ·subst hk;exact kW _ _ _ _ (.inr (fh x hm))
    ·have nk:(k0==tw)=false :=by simpa using hk
     simp only [LB,nk,SS,lw,if_false] at hx
     rcases hx with z|z
     ·have e0:k0=.cell:=ij z
      subst e0
      exact kW _ _ _ _ (.inl hm)
     ·exact absurd (ij z) hk
  ·obtain ⟨fr,j,e4,e5⟩:=B.at e1 e2
   have kx:=(b2 _ (wp fr)).2.2 rfl
   refine ⟨by unfold gC;rw [fr];rfl,?_,.inr kx,kx,j,e4,e5⟩
   rw [fv,fr]
   simp only [LB]
   split
   ·exact .inl rfl
   ·exact .inr rfl
 have stat:∀{H':Hp},(∀b∈fp,H' b=none)->∀b∈fp,cD (GK X N' scope cs G.objs.size s2 H2 fp (gC scope)) [] H' b:=fun hn b hb=>by
  refine ⟨hn b hb,below b (mX b hb),fun z=>?_,.inl hb,(fun x c e=>by
   rcases look x c e with ⟨_,a,_⟩|⟨_,a⟩
   ·exact fun z=>absurd (V0 (NG l0 (z▸a)) (mX b hb)) (EO _)
   ·exact (f2 b hb).2.2.2.2.1 x c (c6 x c a)),fun p hp=>absurd (show p∈([]:List (ac×i4)) from hp) (by simp)⟩
  rcases kw.mp (I.fZ b z) with q|q
  ·exact (f2 b hb).2.1 q
  ·exact (f2 b hb).2.2.1 q
 have BI:bu 0 dU:=T.keep _ _ _ st fun b _ o e=>old b o e
 refine qH (Qr _ cs G.objs.size s2 H2 fp) T BI (tQ hc (fun _ _ z=>z) (Qr _ cs G.objs.size s2 H2 fp) (hg cs G.objs.size s2 H2 fp) (ht cs G.objs.size s2 H2 fp) (hb _ cs G.objs.size s2 H2 fp) T turn I1 BI (stat fun b hb=>by rw [af (jp (mX b hb))];exact (f2 b hb).1) w0 fun cj H' s' I4 qn=>?_)
 have J2:Inv X pins σ H' s':=I.qp I4.os I4.base I4.hok I4.bare fun b hb=>⟨(f2 b hb).2.2.2.1,(f2 b hb).2.1,(f2 b hb).2.2.2.2.1,(f2 b hb).2.2.2.2.2⟩
 obtain ⟨mm,hm,_⟩:=I4.loc
 exact vt _ _ mm s' H' J2 (I.lX l0 I4.free) hm qn
theorem Am {pins:List (ac×i4)} {σ:St} {H2:Hp} {s2:ba} {tg elt iter:dL} {ifs:List dL} {scope:u8} {pos:wn} {N':List bn} {tn:Nat} {idx:List Nat} {g:TG} {tt:TT} {te:TE} {it:ac} {fp:List ac} {bu:Nat->ge->Prop} {J:It}
  {cl:List (bn×ac)} {E:al->ba->Prop} {RR:al->ac->Wz->ba->Prop} {Q:VK}
  (hc:X.calm=true) (B:dq X.N X.env.scope scope N' tn idx)
  (hg:iu X N' scope fun Y=>PG Y tg g) (ht:iu X N' scope fun Y=>gL Y ifs tt) (he:iu X N' scope fun Y=>PE Y elt te)
  (I:Inv X pins σ H2 s2) (T:Turn X.prog X.w X.K tg J fp it bu) (st:bu 0 s2.heap) (f2:∀b∈fp,cD X pins H2 b)
  (c6:∀n c,cl.lookup n=some c->X.env.cells.lookup n=some c) (fh:∀n,(n,tw)∈scope.names->∃c,cl.lookup n=some c)
  (hq:∀D,H2 D=none->∃W:Nat->Nat->St->Hp->Prop,(∃m,W 0 m (bg tn idx σ) (upd H2 D (.lst [])))/\qK J g tt te D Q W)
  (vt:∀D C m s' H',Inv X pins σ H' s'->cD X pins H' C->s'.heap.Ns C m->Q (.ref D) H'->RR (.ref D) C (.ok .next) s') :
  wpAny (model X.prog X.w) X.A (newList []) (fun acc iZ=>wpAny (model X.prog X.w) X.A (newFunctionEnv scope X.env.globals cl [] X.env.qual none .none (some X.env)) (fun jM pH=>
   codeAny (model X.prog X.w) X.A (.compStart (.ListComp elt [⟨tg,iter,ifs,0⟩] scope pos) 0 (.ref it) acc {jM with scope:=relabel scope X.env}) (RR acc jM.locals) pH) E iZ) E s2:=
 compG_coreC (body:=fun acc env=>do let _ <- call (.builtin "list.append") [acc,<- eval elt env]) (tb:=fun D=>qI D te) (O0:=.lst []) (o0:={cls:=.type "list",dict:=none,data:=.seq ([]:List al).toArray}) (fun Q q=>wP q) rfl (fun H h1 hd=>⟨sw _,[],0,.nil,hd⟩) hc B
  (fun D cl C s H fp=>⟨fun _=>rfl,fun _ _ _ _ h=>h,fun _=>vw ..,fun _ _ _ _ h=>h,rfl⟩) hg ht (fun D cl C s H fp=>yE (he cl C s H fp)) I T st f2 c6 fh (fun D hD=>let ⟨W,hm,turn⟩:=hq D hD;⟨W,hm,qN turn⟩) vt
variable {tg elt iter:dL} {ifs:List dL} {scope:u8} {pos:wn} {N':List bn} {tn:Nat} {idx:List Nat} {wi:TI} {g:TG} {tt:TT} {te:TE}
variable {Γ:Gz}
theorem xZ {i:Nat} {y:bn} {py gV:wn} (hN:X.N.Nodup) (dA:X.N[i]?=some y) (hy:X.env.scope.names.lookup y=some .local) (hc:X.calm=true) (B:dq X.N X.env.scope scope N' tn idx) (hi:PI X tg iter wi)
  (hg:iu X N' scope fun Y=>PG Y tg g) (ht:iu X N' scope fun Y=>gL Y ifs tt) (he:iu X N' scope fun Y=>PE Y elt te)
  (qP:swapsWith (.ListComp elt [⟨tg,iter,ifs,0⟩] scope pos) (some (.Name y py)) gV.line X.env=pure true :=by rfl)
  (hs:∀x,foldedSetIterable iter X.env x=pure x :=by intro _;rfl):PS X (.Assign [.Name y py] (.ListComp elt [⟨tg,iter,ifs,0⟩] scope pos) gV) (sg (qM tn idx wi g tt te) (qw i)) :=by
 refine ⟨?_⟩
 intro pins s σ H D I h
 obtain ⟨cl,iC,c6,fh⟩:=gU (scope:=scope) (env:=X.env) fun n hn=>I.ok.has n ((B.2.1 _ hn).2.2 rfl)
 rw [exec_Assign_Name_used _ _ _ _ qP]
 refine ap (BB (ap ?_))
 show wpAny _ X.A (do let _ <- comprehension (.ListComp elt [⟨tg,iter,ifs,0⟩] scope pos) scope X.env _ (newList []) false (eval iter X.env) (some (assign (.Name y py) X.env))) _ _ s
 refine ap (l7 (VZ (use:=some (assign (.Name y py) X.env)) (Q:=fun _ s'=>SP X pins D .next s') rfl hs iC B.1 (fun y hy=>(B.2.1 y hy).2.1)
  (l7 (hi pins s σ H _ I h) (fun xv s1 h1=>l7 h1 (fun yx s2 h2=>?_) fun _ _ z=>z) fun _ _ z=>z)) (fun _ s' hq=>bv (bv hq)) fun _ _ z=>z)
 obtain ⟨it,fp,bu,J,H2,e,I2,T,qz,f2,q2⟩:=h2
 subst e
 refine Am (RR:=fun acc C=>compPost (model X.prog X.w) X.A X.xe (some (assign (.Name y py) X.env)) (fun _ s'=>SP X pins D .next s') acc C) hc B hg ht he I2 T qz f2 c6 fh q2 fun E C m s' H' J2 fC hm q=>?_
 show wpAny _ X.A (assign (.Name y py) X.env (.ref E)) _ _ s'
 refine Xb (store_ok2 J2 hN dA (.inl hy) (v:=.ref E) rfl (fun s3 J3 ⟨a,jN,ha⟩=>?_) (.inr hy))
 have dE:C≠a :=by
  rcases ha with z|z
  ·rw [z];exact fC.2.1
  ·exact fun w=>fC.2.2.2.2.1 _ _ z w.symm
 exact ⟨m,hm.sameBut jN dE,fun h' tS=>⟨_,H',fC.turn J3 tS,q⟩⟩
end
theorem E4 {scope:u8} {env:IR} {x:bn} (h:scope.names.lookup x=some .cell\/scope.names.lookup x=some .free):(relabel scope env).names.lookup x=some .cell\/(relabel scope env).names.lookup x=some .free :=by
 rw [fv]
 rcases h with h|h
 ·rw [h];exact .inl rfl
 ·rw [h]
  simp only [LB]
  split
  ·exact .inl rfl
  ·exact .inr rfl
theorem aI.rel {N:List bn} {sc scope:u8} {env:IR} {N':List bn} {tn:Nat} {idx:List Nat} (B:aI N sc scope N' tn idx):aI N (relabel sc env) scope N' tn idx:=
 ⟨B.1,fun y hy=>⟨(B.2.1 y hy).1,(B.2.1 y hy).2.1,fun z=>E4 ((B.2.1 y hy).2.2 z)⟩,B.2.2.1,B.2.2.2⟩
end L2
namespace L2
open PySem PySem.Spec PySem.W PyProof.Rows
section
variable {X:Cx} {Γ:Gz} {β:Bz} {K:bi}
def zInI (neg:Bool):dX:=fun d e M Q=>match d,(itemsM M e).bind gq with | .int i,some ns=>Q (.bl (if neg then !decide (i∈ns) else decide (i∈ns))) M|_,_=>False
theorem wB (i:Int):∀ns:List Int,Bt (.int i) (ns.map V.int)=decide (i∈ns)
 | []=>by simp [Bt]
 |n::ns=>by
          have ih:=wB i ns
          unfold Bt at ih ⊢
          rw [v6,US,ih]
          simp only [qB]
          by_cases h:n=i
          ·subst h;simp
          ·have h':¬ i=n:=fun z=>h z.symm
           simp [h,h']
theorem Io {neg:Bool}:pz Γ (Ku K neg) (zInI neg):=fun β x y d e M H Q Q' _ _ _ m rx ry z q=>by
 unfold zInI at z
 split at z
 ·rename_i i ns dz
  obtain ⟨a,rfl,ha⟩:=kU m ry dz
  have ex:=aL rx
  subst ex
  refine ⟨a,ns.map V.int,rfl,ha.imp bF.of cI.of,rfl,?_,?_⟩
  ·rw [u4]
   intro v hv
   obtain ⟨n,_,rfl⟩:=ss.mp hv
   rfl
  ·rw [wB]
   exact q _ _ _ _ (.refl m) (.bl _) z
 ·exact z.elim
theorem wC (hK:X.K=K):eu Γ X (compareOp .In) (zInI false):=⟨_,zP hK,Io⟩
def boolsD:List Dv->Option (List Bool)
 | []=>some []
 | .bl b::ds=>(boolsD ds).map (b::·)
 |_::_=>none
theorem uh:∀{ds:List Dv} {bs:List Bool},boolsD ds=some bs->ds=bs.map Dv.bl
 | [],bs,h=>by simp only [boolsD,GG] at h;subst h;rfl
 |d::ds,bs,h=>by
          cases d with
          |bl b=>
           simp only [boolsD,lc] at h
           obtain ⟨ms,h,rfl⟩:=h
           rw [uh h]
           rfl
          |_=>simp [boolsD] at h
theorem jm:∀bs:List Bool,boolsD (bs.map Dv.bl)=some bs
 | []=>rfl
 |n::ns=>by simp [boolsD,jm ns]
theorem ui {M:Mh} {H:Hp}:∀{vs:List V} {bs:List Bool},aG β M H vs (bs.map Dv.bl)->vs=bs.map V.bl
 | [],[],_=>rfl
 | [],_::_,r=>absurd r.len (by simp)
 |_::_,[],r=>absurd r.len (by simp)
 |v::vs,n::ns,r=>by
          rw [v6] at r
          rw [v6,cY r.head,ui r.tail]
def zAllB (d:Dv) (M:Mh) (Q:ZK):Prop:=match d with | .lst ds=>(match boolsD ds with|some bs=>Q (.bl (bs.all id)) M|none=>False)|_=>False
theorem CK (hK:X.K=K) (hc:X.calm=true):eF Γ X (.builtin "all") (z1 zAllB):=⟨_,Aa hK hc,fun β xs ds M H Q Q' _ _ _ m rs z q=>by
 unfold z1 at z
 split at z
 ·obtain ⟨x,rfl,r⟩:=dh rs
  unfold zAllB at z
  split at z
  ·split at z
   ·rename_i bs TZ
    obtain ⟨a,vs,rfl,f,ha,eA⟩:=fA r
    have e:=uh TZ
    subst e
    have:=ui eA
    subst this
    exact ⟨a,bs,rfl,bF.of ha,q _ _ _ _ (.refl m) (.bl _) z⟩
   ·exact z.elim
  ·exact z.elim
 ·exact z.elim⟩
theorem Pin.mono {M M':Mh} {d:Dv} (h:Pin M d):(∀a,(M a).isSome=true->(M' a).isSome=true)->Pin M' d :=by
 intro k
 induction h with
 |int i=>exact .int i
 |bl b=>exact .bl b
 |au=>exact .au
 |str z=>exact .str z
 |tup h ih=>exact .tup ih
 |lst h ih=>exact .lst ih
 |dk h ih=>exact .dk ih
 |dt h ih=>exact .dt ih
 |bO h ih=>exact .bO ih
 |set ns=>exact .set ns
 |ptr h=>exact .ptr (k _ h)
 |exc C=>exact .exc C
 |bD ns=>exact .bD ns
 |raw v=>exact .raw v
def dy (M:Mh) (a:ac):Mh:=fun b=>if b=a then none else M b
theorem eL {M:Mh} {a:ac}:dy M a a=none :=by unfold dy;rw [if_pos rfl]
theorem cZ {M:Mh} {a b:ac} (h:b≠a):dy M a b=M b :=by unfold dy;rw [if_neg h]
structure Mj (M1 M:Mh) (ρ:aB):Prop where
 env:∀(i:Nat) (d:Dv),ρ[i]?=some (some d)->Pin M d
 obj:∀b o,M b=some o->M1 b=some o\/∀d∈o.items,Pin M d
theorem Zr.freeze {M:Mh} {ρ:aB} {σ:St} {H:Hp} {i:Nat} {a:ac} {ds:List Dv} (z:Zr Γ β M ρ σ H) (hi:ρ[i]?=some (some (.ptr a))) (ha:M a=some (.lst ds)) (h0:Γ.M0 a=none) (fr:Mj Γ.M0 (dy M a) (ρ.set i (some (.lst ds)))) :
  Zr Γ β (dy M a) (ρ.set i (some (.lst ds))) σ H/\Ev β M H (dy M a) H :=by
 have rz:∀{v:V} {d:Dv},Rz β M H v d->Pin (dy M a) d->Rz β (dy M a) H v d:=fun r p=>r.oK (M0:=dy M a) (fun b hb=>by
  by_cases e:b=a
  ·rw [e,eL] at hb;cases hb
  ·rw [cZ e] at hb;exact hb) p
 have je:i<ρ.length:=(br.mp hi).1
 have T4:∀d∈ds,Pin (dy M a) d:=fun d hd=>by
  have:=fr.env i (.lst ds) (by rw [Mc je])
  cases this with|lst h=>exact h d hd
 have obj:∀b es,dy M a b=some es->∀d∈es.items,Pin (dy M a) d:=fun b es e d hd=>by
  rcases fr.obj b es e with q|q
  ·refine (z.wf b es q d hd).mono fun c hc=>?_
   have nc:c≠a:=fun w=>by rw [w,h0] at hc;cases hc
   rw [cZ nc]
   exact z.ent.dom c hc
  ·exact q d hd
 have mz:Mz β (dy M a) H :=by
  refine ⟨fun b o e=>?_,z.mz.tabs,z.mz.hids,fun b o e=>?_,z.mz.lams⟩
  ·have nb:b≠a:=fun q=>by rw [q,eL] at e;cases e
   have e':M b=some o :=by rw [cZ nb] at e;exact e
   have q:=z.mz.obj b o e'
   cases o with
   |lst es=>obtain ⟨vs,hv,rs⟩:=q;exact ⟨vs,hv,rs.len,fun j v d x y=>rz (rs.at' j v d x y) (obj b _ e d (gc y))⟩
   |dk ks es=>obtain ⟨vs,hv,hk,rs⟩:=q;exact ⟨vs,hv,hk,rs.len,fun j v d x y=>rz (rs.at' j v d x y) (obj b _ e d (gc y))⟩
   |dt ks es=>obtain ⟨vs,hv,hk,rs⟩:=q;exact ⟨vs,hv,hk,rs.len,fun j v d x y=>rz (rs.at' j v d x y) (obj b _ e d (gc y))⟩
   |dm=>exact q
  ·have nb:b≠a:=fun q=>by rw [q,eL] at e;cases e
   rw [cZ nb] at e
   exact z.mz.apart b o e
 refine ⟨⟨z.eP,z.ew,z.eK,z.et,z.sub,z.wf,⟨z.ent.keep,fun b hb=>?_,fun b o m h=>?_⟩,mz,by simp [z.len],fun j d e=>?_⟩,⟨fun b o _ h=>.inl h,fun b o m h=>?_,mz⟩⟩
 ·have nb:b≠a:=fun q=>by rw [q,h0] at hb;cases hb
  rw [cZ nb];exact z.ent.dom b hb
 ·by_cases e:b=a
  ·rw [e,eL]
  ·rw [cZ e];exact z.ent.new b o m h
 ·have p:=fr.env j d e
  rw [LH] at e
  split at e
  ·rename_i q
   subst q
   first
    |cases e
    |(rw [if_pos je] at e;cases e)
   obtain ⟨v,hv,r⟩:=z.at' i _ hi
   obtain ⟨rfl,_⟩:=b7 r
   obtain ⟨vs,hl,rs⟩:=z.mz.obj a _ ha
   refine ⟨_,hv,.lst ⟨eL,z.mz.apart a _ ha⟩ hl rs.len fun k v d x y=>rz (rs.at' k v d x y) (T4 d (gc y))⟩
  ·obtain ⟨v,hv,r⟩:=z.at' j d e
   exact ⟨v,hv,rz r p⟩
 ·by_cases e:b=a
  ·rw [e,eL]
  ·rw [cZ e];exact m
def RX (i:Nat) (M0:Mh) (p:bV):bV:=fun D ρ M=>p D ρ M\/∃a ds,ρ[i]?=some (some (.ptr a))/\M a=some (.lst ds)/\M0 a=none/\Mj M0 (dy M a) (ρ.set i (some (.lst ds)))/\p D (ρ.set i (some (.lst ds))) (dy M a)
theorem Mk (i:Nat) {M1:Mh} {st:r6} {p:bV} (hM:Γ.M0=M1) (h:QS Γ X st p):QS Γ X st (RX i M1 p):=h.imp fun D σ H ⟨β,ρ,M,D',zr,h,r⟩=>by
 rcases h with h|⟨a,ds,hi,ha,h0,fr,h⟩
 ·exact ⟨β,ρ,M,D',zr,h,r⟩
 ·obtain ⟨z2,e2⟩:=zr.freeze hi ha (by rw [hM];exact h0) (by rw [hM];exact fr)
  exact ⟨β,_,_,D',z2,h,r.step e2⟩
end
end L2
namespace L2
open PySem PySem.Spec PyProof.Rows
section
variable {κ:Type} [DecidableEq κ] {α:Type}
def look:List κ->List α->κ->Option α
 |k::ks,d::ds,x=>if k=x then some d else look ks ds x
 |_,_,_=>none
def iF:List κ->List α->κ->α->List α
 |k::ks,d::ds,x,y=>(if k=x then y else d)::iF ks ds x y
 |_,_,_,_=>[]
def putL (ks:List κ) (k:κ):List κ:=if k∈ks then ks else ks++[k]
def gD (ks:List κ) (ds:List α) (k:κ) (d:α):List α:=if k∈ks then iF ks ds k d else ds++[d]
theorem iU {x:κ}:∀{ks:List κ} {ds:List α},ks.length=ds.length->(look ks ds x=none ↔ x ∉ ks)
 | [],[],_=>by simp [look]
 |k::ks,d::ds,h=>by
          have ih:=iU (x:=x) (ks:=ks) (ds:=ds) (by simpa using h)
          unfold look
          by_cases e:k=x
          ·simp [e]
          ·rw [if_neg e,ih,kw]
           constructor
           ·rintro a (b|b)
            ·exact e b.symm
            ·exact a b
           ·exact fun a b=>a (.inr b)
 | [],_::_,h=>by simp at h
 |_::_,[],h=>by simp at h
theorem pU (x:κ):∀(ks:List κ) (vs:List V),i7 (ks.zip vs) x=look ks vs x
 | [],vs=>by cases vs <;> rfl
 |_::_,[]=>rfl
 |k::ks,v::vs=>by
          rw [RI]
          unfold look
          by_cases e:k=x
          ·rw [if_pos e];exact mj (p:=(k,v)) e
          ·rw [if_neg e,mn (p:=(k,v)) e];exact pU x ks vs
theorem wD (x:κ):∀(ks:List κ) (ds:List α) {d:α},look ks ds x=some d->∃i:Nat,ks[i]?=some x/\ds[i]?=some d/\∀{β:Type} (es:List β),look ks es x=es[i]?
 | [],ds,d,h=>by cases ds <;> cases h
 |_::_,[],d,h=>by cases h
 |k::ks,e::ds,d,h=>by
          unfold look at h
          by_cases q:k=x
          ·rw [if_pos q] at h
           cases h
           refine ⟨0,by rw [q];rfl,rfl,fun es=>?_⟩
           cases es with
           |nil=>rfl
           |cons a es=>unfold look;rw [if_pos q];rfl
          ·rw [if_neg q] at h
           obtain ⟨i,a,b,c⟩:=wD x ks ds h
           refine ⟨i+1,a,b,fun es=>?_⟩
           cases es with
           |nil=>rfl
           |cons y es=>unfold look;rw [if_neg q,c es];rfl
theorem nW (x:κ):∀(ks:List κ) (ds:List α) {β:Type} (es:List β),ds.length=es.length->look ks ds x=none->look ks es x=none
 | [],ds,_,es,_,_=>by cases es <;> rfl
 |_::_,[],_,es,h,_=>by cases es with
  |nil=>rfl
  |cons _ _=>simp at h
 |k::ks,d::ds,_,[],h,_=>by simp at h
 |k::ks,d::ds,_,e::es,h,q=>by
          unfold look at q ⊢
          by_cases z:k=x
          ·rw [if_pos z] at q;cases q
          ·rw [if_neg z] at q ⊢
           exact nW x ks ds es (by simpa using h) q
theorem uj (x:κ) (y:α):∀(ks:List κ) (ds:List α),ks.length=ds.length->(iF ks ds x y).length=ds.length
 | [],[],_=>rfl
 |k::ks,d::ds,h=>by unfold iF;rw [IN,uj x y ks ds (by simpa using h)];rfl
 | [],_::_,h=>by simp at h
 |_::_,[],h=>by simp at h
theorem wG {ks:List κ} {ds:List α} (h:ks.length=ds.length) (k:κ) (d:α):(putL ks k).length=(gD ks ds k d).length :=by
 unfold putL gD
 split
 ·rw [uj _ _ _ _ h,h]
 ·simp [h]
theorem uk (x:κ) (y:V):∀(ks:List κ) (vs:List V),ks.length=vs.length->(ks.zip vs).map (fun kv=>if kv.1=x then (kv.1,y) else kv)=ks.zip (iF ks vs x y)
 | [],[],_=>rfl
 |k::ks,d::ds,h=>by
          unfold iF
          rw [RI,RI,v6,uk x y ks ds (by simpa using h)]
          congr 1
          dsimp only
          split <;> rfl
 | [],_::_,h=>by simp at h
 |_::_,[],h=>by simp at h
theorem y1 {ks:List κ} {vs:List V} (h:ks.length=vs.length) (k:κ) (v:V):putK (ks.zip vs) k v=(putL ks k).zip (gD ks vs k v) :=by
 have e:((ks.zip vs).any fun kv=>decide (kv.1=k))=decide (k∈ks) :=by
  rw [pP,pU]
  cases q:look ks vs k with
  |none=>exact (decide_eq_false ((iU h).mp q)).symm
  |some x=>
   have hm:k∈ks:=VR fun z=>by rw [(iU h).mpr z] at q;cases q
   rw [decide_eq_true hm];rfl
 unfold putK putL gD
 rw [e]
 by_cases q:k∈ks
 ·rw [if_pos (decide_eq_true q),if_pos q,if_pos q]
  exact uk k v ks vs h
 ·rw [if_neg (by rw [decide_eq_false q];exact gl),if_neg q,if_neg q,List.zip_append h]
  rfl
end
section
variable {β:Bz} {M:Mh} {H:Hp} {κ:Type} [DecidableEq κ]
theorem um (x:κ) {v:V} {d:Dv} (r:Rz β M H v d):∀(ks:List κ) (vs:List V) (ds:List Dv),aG β M H vs ds->aG β M H (iF ks vs x v) (iF ks ds x d)
 | [],_,_,_=>by
          unfold iF;exact .nil
 |_::_,[],[],_=>.nil
 |_::_,[],_::_,h=>absurd h.len (by simp)
 |_::_,_::_,[],h=>absurd h.len (by simp)
 |k::ks,u::vs,e::ds,h=>by
          unfold iF
          refine .cons ?_ (um x r ks vs ds h.tail)
          split
          ·exact r
          ·exact h.head
theorem wH (x:κ) {v:V} {d:Dv} (r:Rz β M H v d) {ks:List κ} {vs:List V} {ds:List Dv} (h:aG β M H vs ds):aG β M H (gD ks vs x v) (gD ks ds x d) :=by
 unfold gD
 split
 ·exact um x r ks vs ds h
 ·exact h.snoc r
theorem wI {ks:List κ} {vs:List V} {ds:List Dv} (rs:aG β M H vs ds) {x:κ} {o:Option Dv} (h:look ks ds x=o):∃ov,i7 (ks.zip vs) x=ov/\ov.isSome=o.isSome/\∀r,o=some r->∃v,ov=some v/\Rz β M H v r :=by
 rw [pU]
 cases o with
 |none=>exact ⟨none,nW x ks ds vs rs.len.symm h,rfl,fun r e=>nomatch e⟩
 |some r=>
  obtain ⟨i,a,b,c⟩:=wD x ks ds h
  obtain ⟨v,hv,rv⟩:=rs.get b
  exact ⟨some v,(c vs).trans hv,rfl,fun r' e=>by cases e;exact ⟨v,rfl,rv⟩⟩
end
def keyD:Dv->Option Key
 | .int i=>some (.inl i)
 | .str z=>some (.inr z)
 |_=>none
def oN:List Dv->Option (List Key)
 | []=>some []
 |d::ds=>match keyD d,oN ds with|some k,some ks=>some (k::ks)|_,_=>none
def nowK (M:Mh):Dv->Dv
 | .ptr a=>match M a with|some (.dk ks ds)=>.dk ks ds|some (.dt ks ds)=>.dt ks ds|_=>.ptr a
 |d=>d
def lookD (M:Mh) (d e:Dv):Option (Option Dv):=match nowK M d with
 | .dk ks ds=>(match keyD e with|some k=>some (look ks ds k)|none=>none)
 | .dt ks ds=>(match e with | .tup es=>(match oN es with|some k=>some (look ks ds k)|none=>none)|_=>none)
 |_=>none
section
variable {X:Cx} {Γ:Gz} {β:Bz} {K:bi} {M:Mh} {H:Hp}
theorem oO {y:V} {e:Dv} {k:Key} (r:Rz β M H y e) (h:keyD e=some k):y=kV k :=by
 cases e with
 |int i=>cases h;exact aL r
 |str z=>cases h;exact de r
 |_=>cases h
theorem mJ:∀{es:List Dv} {ks:List Key} {vs:List V},aG β M H vs es->oN es=some ks->vs=ks.map kV
 | [],ks,vs,rs,h=>by
          cases h
          cases vs with
          |nil=>rfl
          |cons _ _=>exact absurd rs.len (by simp)
 |e::es,ks,[],rs,h=>absurd rs.len (by simp)
 |e::es,ks,v::vs,rs,h=>by
          unfold oN at h
          split at h
          ·rename_i k Qs h1 h2
           cases h
           rw [v6,oO rs.head h1,mJ rs.tail h2]
          ·cases h
theorem y2 (m:Mz β M H) {x:V} {d:Dv} (r:Rz β M H x d):(∀ks ds,nowK M d=.dk ks ds->∃a vs,x=.ref a/\Rd H a (.dK (ks.zip vs))/\ks.length=vs.length/\aG β M H vs ds) /\
  (∀ks ds,nowK M d=.dt ks ds->∃a vs,x=.ref a/\Rd H a (.dT (ks.zip vs))/\ks.length=vs.length/\aG β M H vs ds) :=by
 cases r with
 |dk f e hk hl h=>exact ⟨fun ks ds q=>(by cases q;exact ⟨_,_,rfl,e,hk,hl,h⟩),fun ks ds q=>by cases q⟩
 |dt f e hk hl h=>exact ⟨fun ks ds q=>(by cases q),fun ks ds q=>by cases q;exact ⟨_,_,rfl,e,hk,hl,h⟩⟩
 | @ptr a hs=>
  simp only [nowK]
  cases q2:M a with
  |none=>rw [q2] at hs;cases hs
  |some o=>
   have q:=m.obj a o q2
   cases o with
   |dk ks ds=>obtain ⟨vs,e,hk,rs⟩:=q;exact ⟨fun ks ds q=>(by cases q;exact ⟨_,_,rfl,.inl e,hk,rs⟩),fun ks ds q=>by cases q⟩
   |dt ks ds=>obtain ⟨vs,e,hk,rs⟩:=q;exact ⟨fun ks ds q=>(by cases q),fun ks ds q=>by cases q;exact ⟨_,_,rfl,.inl e,hk,rs⟩⟩
   |_=>exact ⟨fun ks ds q=>(by cases q),fun ks ds q=>by cases q⟩
 |_=>exact ⟨fun ks ds q=>(by cases q),fun ks ds q=>(by cases q)⟩
theorem wJ (m:Mz β M H) {x y:V} {d e:Dv} {o:Option Dv} (r:Rz β M H x d) (re:Rz β M H y e) (h:lookD M d e=some o):∃a ov,x=.ref a/\pQ H a y ov/\ov.isSome=o.isSome/\∀r,o=some r->∃v,ov=some v/\Rz β M H v r :=by
 unfold lookD at h
 obtain ⟨h1,h2⟩:=y2 m r
 split at h
 ·rename_i ks ds q
  obtain ⟨a,vs,rfl,ha,hk,rs⟩:=h1 ks ds q
  split at h
  ·rename_i k wK
   rw [oO re wK]
   obtain ⟨ov,e1,e2,e3⟩:=wI rs (ij h)
   subst e1
   exact ⟨a,_,rfl,.inl ⟨_,k,ha,rfl,rfl⟩,e2,e3⟩
  ·cases h
 ·rename_i ks ds q
  obtain ⟨a,vs,rfl,ha,hk,rs⟩:=h2 ks ds q
  split at h
  ·split at h
   ·rename_i k wK
    obtain ⟨b,us,rfl,_,hb,ru⟩:=cw re
    rw [mJ ru wK] at hb
    obtain ⟨ov,e1,e2,e3⟩:=wI rs (ij h)
    subst e1
    exact ⟨a,_,rfl,.inr ⟨_,k,b,ha,rfl,hb,rfl⟩,e2,e3⟩
   ·cases h
  ·cases h
 ·cases h
def zGetR:dX:=fun d e M Q=>match lookD M d e with|some (some r)=>Q r M|_=>False
theorem y3 {a b:dL} {pa pb:aM} {pos:wn} (hu:X.A.units+64<cLine) (ha:QE Γ X a pa) (hb:QE Γ X b pb) (hs:EI b):QE Γ X (.Subscript a b pos) (zOp zGetR pa pb):=
 (Ib (by omega) ha hb hs).imp fun σ H Q ⟨β,ρ,M,Q',zr,h,q⟩=>⟨β,ρ,M,_,zr,h,fun d M1 v H1 x1 r1 h1=>⟨β,ρ,M1,_,zr.step x1,h1,fun e M2 u H2 x2 r2 h2=>by
  unfold zGetR at h2
  split at h2
  ·rename_i r hl
   obtain ⟨a,ov,rfl,g,_,e3⟩:=wJ x2.mz (r1.ex x2) r2 hl
   obtain ⟨w,rfl,jI⟩:=e3 r rfl
   exact ⟨a,w,rfl,g,q _ _ _ _ (x1.trans x2) jI h2⟩
  ·exact h2.elim⟩⟩
def zDIn (neg:Bool):dX:=fun e d M Q=>match lookD M d e with|some o=>Q (.bl (if neg then !o.isSome else o.isSome)) M|none=>False
def E5 (neg:Bool):R2:=fun y x H Q=>∃a o,x=.ref a/\pQ H a y o/\Q (.bl (if neg then !o.isSome else o.isSome)) H
theorem y4 {neg:Bool}:pz Γ (E5 neg) (zDIn neg):=fun β x y d e M H Q Q' _ _ _ m rx ry z q=>by
 unfold zDIn at z
 split at z
 ·rename_i o hl
  obtain ⟨a,ov,rfl,g,e2,_⟩:=wJ m ry rx hl
  refine ⟨a,ov,rfl,g,?_⟩
  rw [e2]
  exact q _ _ _ _ (.refl m) (.bl _) z
 ·exact z.elim
theorem OX (hu:X.A.units+64<cLine):eu Γ X (compareOp .In) (zDIn false):=⟨E5 false,fun pins s σ H x y v u Q I rx ry ⟨a,o,e,g,q⟩=>by
 subst e
 cases (show u=li a from ry)
 exact RP (by omega) I g rx fun s3 I3=>⟨.bl o.isSome,H,I3,rfl,q⟩,y4⟩
theorem E6 (hu:X.A.units+64<cLine):eu Γ X (compareOp .NotIn) (zDIn true):=⟨E5 true,fun pins s σ H x y v u Q I rx ry ⟨a,o,e,g,q⟩=>by
 subst e
 cases (show u=li a from ry)
 exact HZ (by omega) I g rx fun s3 I3=>⟨.bl (!o.isSome),H,I3,rfl,q⟩,y4⟩
end
section
variable {β:Bz} {M:Mh} {H:Hp} {D:ac} {o':Mo} {u:HO}
theorem Ip {v:V} {d:Dv} (r:Rz (β.add D) M H v d):Rz β (aA M D o') (upd H D u) v d :=by
 have na:∀a,Fz (β.add D) M a->a≠D:=fun a f z=>f.2 (by rw [z];exact l9)
 have ne:∀a,Fz (β.add D) M a->Fz β (aA M D o') a:=fun a f=>⟨by rw [ah (na a f)];exact f.1,fun z=>f.2 (im _ z)⟩
 have pre:∀a x,Fz (β.add D) M a->H a=some x->upd H D u a=some x:=fun a x f e=>by rw [af (na a f)];exact e
 induction r with
 |int i=>exact .int i
 |bl b=>exact .bl b
 |au=>exact .au
 |str z=>exact .str z
 |tup m e hl h ih=>exact .tup (ne _ m) (pre _ _ m e) hl ih
 |lst m e hl h ih=>exact .lst (ne _ m) (pre _ _ m e) hl ih
 |dk m e hk hl h ih=>exact .dk (ne _ m) (e.map fun _ h=>pre _ _ m h) hk hl ih
 |dt m e hk hl h ih=>exact .dt (ne _ m) (e.map fun _ h=>pre _ _ m h) hk hl ih
 |bO m e m2 e2 hl h ih=>exact .bO (ne _ m) (pre _ _ m e) (ne _ m2) (pre _ _ m2 e2) hl ih
 |set m e=>exact .set (ne _ m) (pre _ _ m e)
 |ptr m=>exact .ptr (by unfold aA;split;rfl;exact m)
 |exc m e=>exact .exc (ne _ m) (pre _ _ m e)
 |bD m e=>exact .bD (ne _ m) (pre _ _ m e)
 |cz m e=>exact .cz (ne _ m) (pre _ _ m e)
 |cA e=>exact .cA e
 |raw v=>exact .raw v
theorem j6 {vs:List V} {ds:List Dv} (r:aG (β.add D) M H vs ds):aG β (aA M D o') (upd H D u) vs ds:=⟨r.len,fun i v d a b=>Ip (r.at' i v d a b)⟩
theorem Ex.CL {M2:Mh} {H2:Hp} {o:HO} (x:Ex β M H M2 H2) (hD:D∈β.hid) (m:M D=none) (h:H D=some o) (ho:jW o=true):H2 D=some o :=by
 rcases x.keep D o m h with q|⟨o',t,q⟩
 ·exact q
 ·rcases t with ⟨_,_,rfl,_⟩|⟨_,_,rfl,_⟩|⟨_,ob,rfl⟩
  ·cases ho
  ·cases ho
  ·obtain ⟨w,e,n⟩:=x.mz.hids D hD
   rw [q] at e;cases e;cases n
theorem Mz.Ml (m:Mz (β.add D) M H) (hM:M D=none) (hD:D ∉ β.hid) (nt:D ∉ β.tb) (hu:nJ u=true) (r:iR β (aA M D o') (upd H D u) D o'):Mz β (aA M D o') (upd H D u) :=by
 obtain ⟨oD,eD,nD⟩:=m.hids D l9
 refine ⟨fun a o e=>?_,fun q hq=>?_,fun a ha=>(m.hids a (im _ ha)).upd (.inr hu),fun a o e z=>?_,fun q hq=>?_⟩
 ·by_cases ha:a=D
  ·subst ha
   rw [updM_same] at e
   cases e
   exact r
  ·rw [ah ha] at e
   have z:=m.obj a o e
   cases o with
   |lst ds=>obtain ⟨vs,z,rs⟩:=z;exact ⟨vs,by rw [af ha];exact z,j6 rs⟩
   |dk ks ds=>obtain ⟨vs,z,hk,rs⟩:=z;exact ⟨vs,by rw [af ha];exact z,hk,j6 rs⟩
   |dt ks ds=>obtain ⟨vs,z,hk,rs⟩:=z;exact ⟨vs,by rw [af ha];exact z,hk,j6 rs⟩
   |dm=>obtain ⟨c,n,z,q⟩:=z;exact ⟨c,n,by rw [af ha];exact z,q⟩
 ·obtain ⟨ps,e,t⟩:=m.tabs q hq
  exact ⟨ps,by rw [af (show q≠D from fun z=>nt (by rw [<- z];exact hq))];exact e,t⟩
 ·by_cases ha:a=D
  ·exact hD (ha▸z)
  ·rw [ah ha] at e
   exact m.apart a o e (im _ z)
 ·exact (m.lams q hq).keep (fun _ e=>by rw [af (fun z=>by subst z;rw [eD] at e;cases e;cases nD)];exact e) fun c _ _ e=>by rw [af (fun z=>by subst z;rw [eD] at e;cases e;cases nD)];exact e
end
section
variable {X:Cx} {pos:wn}
def Iq (tk tv:TE):TE:=fun σ H Q=>∀p,H p=none->tk σ (upd H p (.dT [])) fun x H1=>tv σ H1 fun y H2=>H2 p=some (.dT [])/\∃b k,x=.ref b/\H2 b=some (.tup (k.map kV))/\Q (.ref p) (upd H2 p (.dT [(k,y)]))
theorem CM {k v:dL} {tk tv:TE} (hu:X.A.units+1<cLine) (hk:PE X k tk) (hv:PE X v tv):PE X (.Dict [some k] [v] pos) (Iq tk tv) :=by
 refine ⟨?_⟩
 intro pins s σ H Q I q
 have hn:=I.hok.fresh (cr s.heap.objs.size)
 have I1:=I.laid (a:=s.heap.objs.size) (o:=.dT []) (h':=s.heap.push {cls:=.type "dict",data:=.dict #[]}) (t':=s.toks) (fun _ _ q=>cb _ q) (cr _) (EL s.heap I.big)
 refine wpAny_Dict_any rfl rfl (by simp) (by simp) (pairTrees_cons_walk (thn (hk pins _ σ _ _ I1 (q _ hn)) fun w1 s2 ⟨x,H1,I2,rx,q1⟩=>thn (hv pins s2 σ H1 _ I2 q1) fun w2 s3 ⟨y,H2,I3,ry,hp,b,ks,ex,hb,q2⟩=>pairTrees_nil_walk ?_))
 subst ex
 cases (show w1=li b from rx)
 unfold storeAll
 rw [List.forIn_cons]
 obtain ⟨z,hd,xs,rel,dd⟩:=Gw I3.hok hp
 cases rel
 refine ap (ap (wpAny_dictSet_heap (knd:=tupleKind (bJ X.prog X.w)) (by show X.A.units<cLine;omega) (lC I3.hok hb) dd (fun h' rq hs=>bv ?_) (by simp)))
 dsimp only
 rw [List.forIn_nil]
 refine bv ⟨.ref s.heap.objs.size,_,?_,rfl,q2⟩
 obtain ⟨o,es,ep,ho,h2,h3,h4,h5,h6⟩:=rq
 have he:storedH ([]:List (List Key×ac×al)) ks b w2=[(ks,b,w2)]:=rfl
 rw [he] at h4 h6
 refine oH I3 (by rw [hp];exact Lo) hs ⟨o,ho⟩ ⟨by show 1<=sizeLine;decide,hd,[(ks,b,w2)],.cons ⟨rfl,?_,ry⟩ .nil,o,es,ep,ho,h2,h3,h4,h6⟩
 rw [af (zx hb hp (by intro z;cases z))]
 exact hb
end
section
variable {X:Cx} {Γ:Gz} {β:Bz} {K:bi}
def zDisp1K (pk pv:aM):aM:=fun ρ M Q=>pk ρ M fun e M1=>pv ρ M1 fun v M2=>match keyD e with|some k=>∀a,M2 a=none->Q (.ptr a) (aA M2 a (.dk [k] [v]))|none=>False
def zDisp1T (pk pv:aM):aM:=fun ρ M Q=>pk ρ M fun e M1=>pv ρ M1 fun v M2=>match e with | .tup es=>(match oN es with|some k=>∀a,M2 a=none->Q (.ptr a) (aA M2 a (.dt [k] [v]))|none=>False)|_=>False
theorem y6 {M M2:Mh} {H H2:Hp} {D:ac} {o:HO} {o':Mo} {u:HO} (hD:H D=none) (x:Ex (β.add D) M (upd H D o) M2 H2) (mz:Mz β (aA M2 D o') (upd H2 D u)):Ex β M H (aA M2 D o') (upd H2 D u) :=by
 have ey:Ey M H M2 (upd H2 D u):=((Ey.refl (M:=M) (H:=H)).over (o:=o) hD |>.trans x.toEy).over hD
 exact ⟨⟨ey.keep,fun a h=>by unfold aA;split;rfl;exact ey.dom a h,fun a w m e=>by rw [ah (aZ e hD)];exact ey.new a w m e⟩,mz⟩
theorem CN {k v:dL} {pk pv:aM} {pos:wn} (hk:QE Γ X k pk) (hv:QE Γ X v pv):QE Γ X (.Dict [some k] [v] pos) (zDisp1K pk pv):=
 (Ig (ER hk hv Ie) rfl rfl (by simp) (by simp)).imp fun σ H Q ⟨β,ρ,M,Q',zr,h,q⟩ p hp=>by
  have z1:=zr.enter hp (o:=.dK []) rfl
  refine ⟨β.add p,ρ,M,_,z1,h,fun e M1 y H1 x1 r1 h1=>⟨β.add p,ρ,M1,_,z1.step x1,h1,fun d M2 w H2 x2 r2 h2=>?_⟩⟩
  have rM:=x1.trans x2
  have CO:M p=none:=zr.mz.free hp
  have e2:H2 p=some (.dK []):=rM.CL l9 CO ay rfl
  have CP:M2 p=none:=rM.new p _ CO ay
  refine ⟨e2,?_⟩
  split at h2
  ·rename_i kk Mm
   refine ⟨[(kk,w)],by rw [oO (r1.ex x2) Mm];rfl,by simp,?_⟩
   have e:lD [] [(kk,w)]=[kk].zip [w]:=rfl
   rw [e]
   refine q _ _ _ _ (y6 (o':=.dk [kk] [d]) hp rM (rM.mz.Ml CP (zr.mz.fz hp).2 (zr.mz.EW hp) rfl ⟨[w],ay,rfl,j6 (.cons r2 .nil)⟩)) (.ptr (by rw [updM_same];rfl)) (h2 p CP)
  ·exact h2.elim
theorem Qt {k v:dL} {pk pv:aM} {pos:wn} (hu:X.A.units+64<cLine) (hk:QE Γ X k pk) (hv:QE Γ X v pv):QE Γ X (.Dict [some k] [v] pos) (zDisp1T pk pv):=
 (CM (by omega) hk hv).imp fun σ H Q ⟨β,ρ,M,Q',zr,h,q⟩ p hp=>by
  have z1:=zr.enter hp (o:=.dT []) rfl
  refine ⟨β.add p,ρ,M,_,z1,h,fun e M1 y H1 x1 r1 h1=>⟨β.add p,ρ,M1,_,z1.step x1,h1,fun d M2 w H2 x2 r2 h2=>?_⟩⟩
  have rM:=x1.trans x2
  have CO:M p=none:=zr.mz.free hp
  have e2:H2 p=some (.dT []):=rM.CL l9 CO ay rfl
  have CP:M2 p=none:=rM.new p _ CO ay
  refine ⟨e2,?_⟩
  split at h2
  ·split at h2
   ·rename_i es kk Mm
    obtain ⟨b,us,rfl,_,hb,ru⟩:=cw (r1.ex x2)
    rw [mJ ru Mm] at hb
    refine ⟨b,kk,rfl,hb,?_⟩
    refine q _ _ _ _ (y6 (o':=.dt [kk] [d]) (u:=.dT ([kk].zip [w])) hp rM (rM.mz.Ml CP (zr.mz.fz hp).2 (zr.mz.EW hp) rfl ⟨[w],ay,rfl,j6 (.cons r2 .nil)⟩)) (.ptr (by rw [updM_same];rfl)) (h2 p CP)
   ·exact h2.elim
  ·exact h2.elim
def zDPut (pd pk pv:aM):bV:=fun D ρ M=>pv ρ M fun v M1=>pd ρ M1 fun d M2=>pk ρ M2 fun e M3=>match d with
 | .ptr a=>(match M3 a with
  |some (.dk ks ds)=>(match keyD e with|some k=>ks.length<sizeLine/\D.nx ρ (aA M3 a (.dk (putL ks k) (gD ks ds k v)))|none=>False)
  |some (.dt ks ds)=>(match e with | .tup es=>(match oN es with|some k=>ks.length<sizeLine/\D.nx ρ (aA M3 a (.dt (putL ks k) (gD ks ds k v)))|none=>False)|_=>False)
  |_=>False)
 |_=>False
theorem Ir {o i value:dL} {pd pk pv:aM} {pos pos':wn} (hu:X.A.units+64<cLine) (ho:QE Γ X o pd) (hi:QE Γ X i pk) (hv:QE Γ X value pv) (hs:swapsWith value (some (.Subscript o i pos')) pos.line X.env=pure false :=by rfl) :
  QS Γ X (.Assign [.Subscript o i pos'] value pos) (zDPut pd pk pv):=(Ic (by omega) ho hi hv hs).imp fun D σ H ⟨β,ρ,M,D',zr,h,r⟩=>⟨β,ρ,M,_,zr,h,fun v M1 vv H1 x1 r1 h1=>⟨β,ρ,M1,_,zr.step x1,h1,fun d M2 dv H2 x2 r2 h2=>
   ⟨β,ρ,M2,_,(zr.step x1).step x2,h2,fun e M3 ev H3 x3 r3 h3=>by
 have z3:=((zr.step x1).step x2).step x3
 have yT:=x1.trans (x2.trans x3)
 have rv:=(r1.ex x2).ex x3
 split at h3
 ·rename_i a
  obtain ⟨rfl,hs⟩:=b7 r2
  split at h3
  ·rename_i ks ds hM
   obtain ⟨vs,ha,hk,rs⟩:=x3.mz.obj a _ hM
   split at h3
   ·rename_i k wK
    obtain ⟨hl,h3⟩:=h3
    have hp:(M3 a).isSome=true :=by rw [hM];rfl
    have x4:Ex β M3 H3 (aA M3 a (.dk (putL ks k) (gD ks ds k v))) (upd H3 a (.dK ((putL ks k).zip (gD ks vs k vv)))):=Ex.RU x3.mz (.inl hp) (wG hk k vv) (wH k rv rs)
    refine ⟨a,_,rfl,.inl ⟨_,k,ha,oO r3 wK,by rw [VS,<- hk,NE];exact hl,rfl⟩,?_⟩
    rw [y1 hk]
    exact r.nx _ _ _ _ (yT.trans x4).ev (z3.step x4) h3
   ·exact h3.elim
  ·rename_i ks ds hM
   obtain ⟨vs,ha,hk,rs⟩:=x3.mz.obj a _ hM
   split at h3
   ·split at h3
    ·rename_i k wK
     obtain ⟨hl,h3⟩:=h3
     obtain ⟨b,us,rfl,_,hb,ru⟩:=cw r3
     rw [mJ ru wK] at hb
     have hp:(M3 a).isSome=true :=by rw [hM];rfl
     have x4:Ex β M3 H3 (aA M3 a (.dt (putL ks k) (gD ks ds k v))) (upd H3 a (.dT ((putL ks k).zip (gD ks vs k vv)))):=Ex.RV x3.mz (.inl hp) (wG hk k vv) (wH k rv rs)
     refine ⟨a,_,rfl,.inr ⟨_,k,b,ha,rfl,hb,by rw [VS,<- hk,NE];exact hl,rfl⟩,?_⟩
     rw [y1 hk]
     exact r.nx _ _ _ _ (yT.trans x4).ev (z3.step x4) h3
    ·exact h3.elim
   ·exact h3.elim
  ·exact h3.elim
 ·exact h3.elim⟩⟩⟩
def zLenK (d:Dv) (M:Mh) (Q:ZK):Prop:=match nowK M d with | .dk ks _=>Q (.int ks.length) M|_=>False
theorem Mp:eF Γ X (.builtin "len") (z1 zLenK):=⟨fun xs H Q=>∃a ao,xs=[.ref a]/\Rd H a (.dK ao)/\Q (.int ao.length) H,fun pins s σ H xs us Q I rs ⟨a,ao,e,ha,q⟩=>by
 subst e
 cases rs with
 |cons r1 rs=>
  cases rs
  cases r1
  exact OH I ha fun t s' I'=>⟨.int ao.length,H,I',⟨t,rfl⟩,q⟩,fun β xs ds M H Q Q' _ _ _ m rs z q=>by
 unfold z1 at z
 split at z
 ·obtain ⟨x,rfl,r⟩:=dh rs
  unfold zLenK at z
  split at z
  ·rename_i ks ds hk
   obtain ⟨a,vs,rfl,ha,hk,_⟩:=(y2 m r).1 _ _ hk
   refine ⟨a,_,rfl,ha,?_⟩
   rw [VS,<- hk,NE]
   exact q _ _ _ _ (.refl m) (.int _) z
  ·exact z.elim
 ·exact z.elim⟩
end
def gE (X:Cx):bn:=X.env.qual ++ "<lambda>"
structure Mq (X:Cx) (params:MW) (body:dL) (scope:u8) (o:i4) (c:ac) (oc:i4) (aR:List (bn×ac)):Prop where
 cells:∀n a,aR.lookup n=some a->X.env.cells.lookup n=some a
 has:∀n,(n,tw)∈scope.names->∃a,aR.lookup n=some a
 obj:∃jg,o=NL "<lambda>" (gE X) params body scope aR ((X.mg "__name__").getD .none) c jg
 code:∃vs t,oc.data=.fields vs/\vs[1]?=some (Wp (gE X) t)
structure Mr (X:Cx) (P:ac) (H H2:Hp) (f:ac) (o:i4) (c:ac) (oc:i4):Prop where
 new:H f=none
 at':∃u,H2 f=some (.bL o u)
 cd:∃u,H2 c=some (.bL oc u)
 lm:Lm H2 (P,gE X)
 keep:∀b u,H b=some u->b≠P->H2 b=some u
 tab:∃ps,H P=some (.lam ps)
def RY (X:Cx) (P:ac) (params:MW) (body:dL) (scope:u8):TE:=fun _ H Q=>Lm H (P,gE X)/\∀f o c oc aR H2,Mq X params body scope o c oc aR->Mr X P H H2 f o c oc->Q (.ref f) H2
def j7 (a:ac) (o:i4):HO:=.bL o (.ext fun h=>h.get? a=some o)
theorem wL {P:ff} {w:ii} {H:Hp} {h:ge} {a:ac} {o:i4} (e:h.get? a=some o):ObjOk P w H h a (j7 a o):=⟨e,e,⟨o,e⟩,fun _ _ x k=>k o x⟩
theorem CQ {a b c cv:al} {pos:wn} (l:List al) (h:Nl l) (e:codeAmong pos (l++[a,b,c])=some cv):codeAmong pos l=some cv\/cv=c :=by
 induction l using TriplesOk.induct with
 |case1=>
  right
  simp only [GS] at e
  unfold codeAmong at e
  split at e
  ·rename_i heq
   cases heq
   split at e
   ·exact (ij e).symm
   ·simp [codeAmong] at e
  ·cases e
 |case2 x tx y ty z rest ih=>
  simp only [Xx,codeAmong] at e ⊢
  split at e
  ·rename_i q
   rw [if_pos q];exact .inl e
  ·rename_i q
   rw [if_neg q];exact ih h e
 |case3 l n1 n2=>
  exfalso
  unfold Nl at h
  split at h
  ·exact n1 rfl
  ·exact n2 _ _ _ _ _ _ rfl
  ·exact h
section
variable {X:Cx} {params:MW} {body:dL} {scope:u8} {pos:wn} {P cX:ac}
theorem An {pins:List (ac×i4)} {s:ba} {σ:St} {H:Hp} {h':ge} {o:i4} (I:Inv X pins σ H s) (hk:∀b u,s.heap.get? b=some u->h'.get? b=some u) (hsz:s.heap.objs.size<=h'.objs.size) (hc:o.isFreed=false) (tk:Nat) :
  Inv X pins σ (upd H h'.objs.size (j7 h'.objs.size o)) {s with heap:=h'.push o,toks:=tk}:=
 I.laid (a:=h'.objs.size) (o:=j7 h'.objs.size o) (t':=tk) (fun b u e=>cb _ (hk b u e)) hsz (wL (f8 _ hc))
theorem Ao {pins:List (ac×i4)} {s:ba} {σ:St} {H:Hp} {h':ge} {o oc:i4} {c:ac} {ps gW:Array al} (I:Inv X pins σ H s) (hP:H P=some (.lam ps)) (hx:WV P s.heap h') (wM:s.heap.objs.size<=c) (bj:c<h'.objs.size) (tu:h'.get? c=some oc)
  (GN:h'.get? P=some {cls:=.none,data:=.fields gW}) (hc:o.isFreed=false) (tk:Nat) :
  Inv X pins σ (upd (upd (upd H P (.lam gW)) c (j7 c oc)) h'.objs.size (j7 h'.objs.size o)) {s with heap:=h'.push o,toks:=tk}:=by
 have Ms:P<s.heap.objs.size:=(I.hok P _ hP).lt
 have hsz:s.heap.objs.size<=h'.objs.size:=Na (NG wM bj)
 have old:∀b,b<s.heap.objs.size->b≠P->upd (upd (upd H P (.lam gW)) c (j7 c oc)) h'.objs.size (j7 h'.objs.size o) b=H b:=fun b hb n=>by
  rw [af (jp (l8 hb hsz)),af (jp (l8 hb wM)),af n]
 have VA:upd (upd (upd H P (.lam gW)) c (j7 c oc)) h'.objs.size (j7 h'.objs.size o) P=some (.lam gW) :=by
  rw [af (jp (l8 Ms hsz)),af (jp (l8 Ms wM)),ay]
 have k:∀b u,b≠P->s.heap.get? b=some u->(h'.push o).get? b=some u:=fun b u n e=>cb _ (hx b u n e)
 have CT:∀b u,H b=some u->b<s.heap.objs.size:=fun b u e=>(I.hok b u e).lt
 have nP:∀b,H b=none->b≠P:=fun b e z=>by rw [z,hP] at e;cases e
 have nT:∀b u,H b=some u->(∀ps,u≠.lam ps)->b≠P:=fun b u e n z=>by rw [z,hP] at e;cases e;exact n _ rfl
 refine I.un ⟨fun b u q n _ _=>k b u (nP b n) q,fun b u q n _ _=>⟨u.slots,k b u (nP b n) q⟩,fun b u q n _=>by rw [old b (hX q) (nP b n)];exact n,fun b u q _=>?_,fun b xs q=>by rw [old b (CT b _ q) (nT b _ q (by intro _ z;cases z))];exact q,
  fun b u xs q=>by rw [old b (CT b _ q) (nT b _ q (by intro _ z;cases z))];exact q,fun b qs q=>⟨#[],by rw [old b (CT b _ q) (nT b _ q (by intro _ z;cases z)),q];simp⟩⟩ fun b u q=>?_
 ·by_cases e:b=P
  ·subst e;exact ⟨_,cb _ GN⟩
  ·exact ⟨u,k b u e q⟩
 ·by_cases e1:b=h'.objs.size
  ·subst e1
   rw [ay] at q;cases q
   exact wL (f8 _ hc)
  ·rw [af e1] at q
   by_cases e2:b=c
   ·subst e2
    rw [ay] at q;cases q
    exact wL (cb _ tu)
   ·rw [af e2] at q
    by_cases e3:b=P
    ·subst e3
     rw [ay] at q;cases q
     exact cb _ GN
    ·rw [af e3] at q
     refine (I.hok b u q).bU (fun a v hc q=>k a v ?_ q) (fun a z=>?_) fun a xs z=>?_
     ·rcases hc with z|z
      ·rw [z];exact e3
      ·exact nT a _ z (by intro _ w;cases w)
     ·rw [old a (CT a _ z) (nT a _ z (by intro _ w;cases w))];exact z
     ·rw [old a (CT a _ z) (nT a _ z (by intro _ w;cases w))];exact z
theorem Mt (dP:X.env.code=.ref cX) (hd:sB X.base cX P) (dM:∃bm ob,Wa X.base mainGlobals X.mg bm ob) (u9:defaultsOf params X.env=([],[]))
  (oy:∀n,(n,tw)∈scope.names->X.env.kindOf n=some .cell\/X.env.kindOf n=some .free):PE X (.Lambda params body scope pos) (RY X P params body scope) :=by
 refine ⟨?_⟩
 intro pins s σ H Q I ⟨⟨ps,hP,ny,wA⟩,q⟩
 obtain ⟨aR,iC,c6,fh⟩:=gU (scope:=scope) (env:=X.env) fun n hn=>I.ok.has n (oy n hn)
 have vy:s.heap.get? P=some (OF ps):=I.hok P _ hP
 obtain ⟨bm,ob,bmod⟩:=dM
 have gM:=bmod.keeps I.bk
 have T5:mainGlobals≠P:=fun z=>by
  obtain ⟨o,es,ep,e,hd,_⟩:=gM.ns
  rw [z,vy] at e;cases e;cases hd
 have T6:bm≠P:=fun z=>by
  have e:=gM.obj
  have e2:=gM.data
  rw [z,vy] at e;cases e;cases e2
 have T7:bm≠mainGlobals:=fun z=>by
  obtain ⟨o,es,ep,e,hd,_⟩:=gM.ns
  have e1:=gM.obj
  have e2:=gM.data
  rw [z,e] at e1;cases e1;rw [hd] at e2;cases e2
 have hb:s.heap.BuiltinsAt X.mg P:=⟨bm,ob,gM.name,gM.ne,T7,T6,gM.obj,gM.cls,gM.dict,gM.data⟩
 refine PySem.W.kla_eval u9 ?_
 cases hq:codeAmong pos ps.toList with
 |some cv=>
  obtain ⟨c,oc,uc,vs,t,rfl,ec,d1,d2⟩:=wA pos cv hq
  refine PySem.W.kla_makeFunctionHit (mg:=X.mg) iC I.ok.glob (I.mod.glob.keeps I.bk) dP (hd.keeps I.bk) vy ny hq hb fun jg h' tk hk hsz=>?_
  have hf:H h'.objs.size=none:=I.hok.fresh hsz
  have pre:∀b u,H b=some u->upd H h'.objs.size (j7 h'.objs.size (NL "<lambda>" (gE X) params body scope aR ((X.mg "__name__").getD .none) c jg)) b=some u:=fun b u e=>by rw [af (aZ e hf)];exact e
  refine ⟨.ref h'.objs.size,_,An I hk hsz (o:=NL "<lambda>" (gE X) params body scope aR ((X.mg "__name__").getD .none) c jg) rfl tk,rfl,q _ _ c oc aR _ ⟨c6,fh,⟨jg,rfl⟩,⟨vs,t,d1,d2⟩⟩ ⟨hf,⟨_,ay⟩,⟨uc,pre _ _ ec⟩,Lm.keep ⟨ps,hP,ny,wA⟩ (fun _ e=>pre _ _ e) fun _ _ _ e=>pre _ _ e,fun b u e _=>pre b u e,⟨ps,hP⟩⟩⟩
 |none=>
  refine PySem.W.kla_makeFunction (mg:=X.mg) iC I.ok.glob (I.mod.glob.keeps I.bk) dP (hd.keeps I.bk) vy ny hq T5 hb fun c jg h' tk hx wM bj RZ GN=>?_
  obtain ⟨c2,oc,vs,t,e2,tu,d1,d2⟩:=RZ
  cases e2
  have I2:=Ao (o:=NL "<lambda>" (gE X) params body scope aR ((X.mg "__name__").getD .none) c jg) I hP hx wM bj tu GN rfl tk
  have hsz:s.heap.objs.size<=h'.objs.size:=Na (NG wM bj)
  have hf:H h'.objs.size=none:=I.hok.fresh hsz
  have rN:H c=none:=I.hok.fresh wM
  have T8:c≠h'.objs.size:=jp bj
  have T9:P≠c:=fun z=>by rw [z,rN] at hP;cases hP
  have Ua:P≠h'.objs.size:=fun z=>by rw [z,hf] at hP;cases hP
  have Ub:Nl (ps++#[rawInt pos.line,rawInt pos.col,li c]).toList :=by
   rw [WK]
   exact TriplesOk_snoc _ _ _ _ ny
  have pre:∀b u,H b=some u->b≠P->upd (upd (upd H P (.lam (ps++#[rawInt pos.line,rawInt pos.col,li c]))) c (j7 c oc)) h'.objs.size (j7 h'.objs.size (NL "<lambda>" (gE X) params body scope aR ((X.mg "__name__").getD .none) c jg)) b=some u:=fun b u e n=>by
   rw [af (aZ e hf),af (aZ e rN),af n];exact e
  have Qu:upd (upd (upd H P (.lam (ps++#[rawInt pos.line,rawInt pos.col,li c]))) c (j7 c oc)) h'.objs.size (j7 h'.objs.size (NL "<lambda>" (gE X) params body scope aR ((X.mg "__name__").getD .none) c jg)) c=some (j7 c oc) :=by rw [af T8,ay]
  refine ⟨.ref h'.objs.size,_,I2,rfl,q _ _ c oc aR _ ⟨c6,fh,⟨jg,rfl⟩,⟨vs,t,d1,d2⟩⟩ ⟨hf,⟨_,ay⟩,⟨_,Qu⟩,⟨_,by rw [af Ua,af T9,ay],Ub,fun p cv e=>?_⟩,pre,⟨ps,hP⟩⟩⟩
  rw [WK] at e
  rcases CQ _ ny e with e|e
  ·obtain ⟨c3,Uc,u3,Ud,t3,a1,a2,a3⟩:=wA p cv e
   exact ⟨c3,Uc,u3,Ud,t3,a1,pre _ _ a2 (fun z=>by rw [z,hP] at a2;cases a2),a3⟩
  ·exact ⟨c,oc,_,vs,t,e,Qu,d1,d2⟩
end
structure GO (X:Cx) (σ:St) (b':ge):Prop where
 ext:∀b o,X.base.get? b=some o->b'.get? b=some o
 cell:∀(i:Nat) (x:bn) (v:V),X.N[i]?=some x->σ[i]?=some (some v)->X.env.scope.names.lookup x=some .cell->∃c u,X.env.cells.lookup x=some c/\RelV v u/\b'.IsCell c (some u)
 cells:∀x c,X.env.cells.lookup x=some c->∃v,b'.IsCell c v
 inj:∀x y c,X.env.cells.lookup x=some c->X.env.cells.lookup y=some c->x=y
theorem Mod.ext {K:bi} {mg:bn->Option al} {b b':ge} (m:Mod K mg b) (k:∀a o,b.get? a=some o->b'.get? a=some o):Mod K mg b':=
 ⟨m.kin.keeps k,m.glob.keeps k,let ⟨mb,h1,h2⟩:=m.blt;⟨mb,h1.keeps k,h2⟩,m.nolimit.keeps k⟩
section
variable {X:Cx} {pins:List (ac×i4)} {σ:St} {H:Hp} {s:ba}
theorem Inv.OY (I:Inv X pins σ H s) (qo:∀x,X.fn x=true):∃b',GO X σ b'/\sh X.prog X.w X.K X.mg b' X.A X.stack s H :=by
 let GP:ac->Prop:=fun a=>∃x,X.env.cells.lookup x=some a
 let l:List ac:=(i0 s.heap.objs.size).filter fun a=>@decide ((X.base.get? a=none)/\¬ GP a) (LS _)
 have ml:∀a,a∈l ↔ a<s.heap.objs.size/\X.base.get? a=none/\¬ GP a:=fun a=>by
  show a∈(i0 s.heap.objs.size).filter _ ↔ _
  rw [Ll,ES]
  simp only [decide_eq_true_eq]
 have ext:∀b o,X.base.get? b=some o->(AE s.heap l).get? b=some o:=fun b o e=>VN l (I.bk b o e) fun z=>by
  have:=((ml b).mp z).2.1
  rw [e] at this;cases this
 have cls:∀x c o,X.env.cells.lookup x=some c->s.heap.get? c=some o->(AE s.heap l).get? c=some o:=fun x c o e ho=>VN l ho fun z=>((ml c).mp z).2.2 ⟨x,e⟩
 have only:∀b o,(AE s.heap l).get? b=some o->s.heap.get? b=some o/\((∃o',X.base.get? b=some o')\/GP b):=fun b o e=>by
  have e':=WZ l e
  refine ⟨e',?_⟩
  by_cases hc:GP b
  ·exact .inr hc
  ·cases q:X.base.get? b with
   |some o'=>exact .inl ⟨o',rfl⟩
   |none=>
    have:(AE s.heap l).get? b=none:=PySem.W.hideAll_none l ((ml b).mpr ⟨hX e',q,hc⟩)
    rw [e] at this;cases this
 refine ⟨AE s.heap l,⟨ext,fun i x v h1 h2 h3=>?_,fun x c e=>?_,I.ok.inj⟩,I.ok.frames,I.ok.mod.ext ext,fun b o e=>?_,V3 (PySem.W.hideAll_size _ _),?_,I.lj,I.hok,I.bare.1⟩
 ·obtain ⟨m,hn,hl⟩:=I.loc
  obtain ⟨u,r,lk⟩:=hl i x v h1 h2 (.inr (.inl h3))
  rcases lk with ⟨hk,_⟩|⟨_,c,ec,o,ho,hd⟩
  ·have hk:X.env.scope.names.lookup x=some .local:=hk
   rw [h3] at hk;cases hk
  ·exact ⟨c,u,ec,r,o,cls x c o ec ho,hd⟩
 ·obtain ⟨v,o,ho,hd⟩:=I.cell x c e
  exact ⟨v,o,cls x c o e ho,hd⟩
 ·obtain ⟨e',q⟩:=only b o e
  refine ⟨e',?_⟩
  rcases q with ⟨o',q⟩|⟨x,q⟩
  ·exact (I.bs b o' q).2
  ·exact I.freeC x b q
 ·have fr:∀L∈dQ X.stack,(AE s.heap l).get? L=none:=fun L hL=>by
   cases q:(AE s.heap l).get? L with
   |none=>rfl
   |some o=>
    exfalso
    obtain ⟨e',q⟩:=only L o q
    have nb:=(I.stack.mem hL).1
    rcases q with ⟨o',q⟩|⟨x,q⟩
    ·rw [nb] at q;cases q
    ·rcases kw.mp (I.fZ L hL) with z|z
     ·exact I.qm x L q z
     ·have h1:=I.ok.cab x L (qo x) q
      obtain ⟨_,o2,Ue,_⟩:=I.ok.funs.mem z
      exact absurd (hX Ue) (XO.mpr h1)
  have go:∀(st:List IR),(∀L∈dQ st,(AE s.heap l).get? L=none)->s.heap.FunFrames X.base st->s.heap.FunFrames (AE s.heap l) st :=by
   intro st
   induction st with
   |nil=>intro _ _;trivial
   |cons env r ih=>
    intro hs hl
    obtain ⟨hk,⟨L,o,hf,hn,ho,hd⟩,hr⟩:=hl
    exact ⟨hk,⟨L,o,hf,hs L (by unfold dQ;rw [GT,hf];exact l9),ho,hd⟩,ih (fun b hb=>hs b (by unfold dQ;rw [GT,hf];exact im _ hb)) hr⟩
  exact go X.stack fr I.stack
end
section
variable {X:Cx} {CX:gK} {k:Nat} {f:ac} {fd:l5} {ps:List bn} {f9:List V} {ds:List al} {E:XK} {x:bn} {p pos:wn} {e:dL} {es:List dL} {t:TA}
def Mu (X:Cx) (sp:ge->Sp) (f9:List V) (E:XK) (t:TA):TE:=fun σ H Q=>t σ H fun vs H1=>∀b',GO X σ b'->sp b' (vs++f9) H1 Q E
theorem E7 {sp:ge->Sp} (F:∀b',(∀b o,X.base.get? b=some o->b'.get? b=some o)->FnOk X.prog X.w X.K X.mg b' CX k f fd ps (sp b')) (hr:bB k X.A) (qo:∀x,X.fn x=true) (hg:Gl X x) (hm:X.mg x=some (.ref f)) (hk:Co X.K (.ref f)=true) (hb:Binds X.K fd ps ds) (hd:Vals f9 ds) (hx:Passes CX X E)
  (ha:PA X (e::es) t) (dS:(x==("__debug__" : bn))=false :=by decide) (he:starEach (e::es) X.env=(false,eval e X.env)::starEach es X.env :=by rfl) (c9:(backTo pos (starEach es X.env)).any (·.1)=false :=by rfl) :
  PE X (.Call (.Name x p) (e::es) [] pos) (Mu X sp f9 E t) :=by
 refine ⟨?_⟩
 intro pins s σ H Q I h
 refine Do (ll I hg hm ?_ dS)
 refine PySem.W.callWith_K (h₀:=X.base) I.ok.mod.kin hk (thn (ha pos pins s σ H _ I h) fun us s1 ⟨vs,H1,I1,r,q⟩=>⟨I1.ft,?_⟩) he c9
 obtain ⟨b',B,e0⟩:=I1.OY qo
 have r2:Vals (vs++f9) (us++ds):=r.append hd
 have hl:(us++ds).length=ps.length :=by rw [<- r2.length];exact (F b' B.ext).len _ _ _ _ (q b' B)
 refine Xm (VY ((F b' B.ext).run X.A X.stack s1 H1 ⟨us,[]⟩ (us++ds) (vs++f9) Q E hr e0 (hb s1 us I1.ft hl) r2 (q b' B)) fun r s' hq=>?_)
 cases r with
 |error e=>exact hx pins σ H1 s1 e s' I1 hq
 |ok fl=>
  cases fl with
  |ret u=>exact I1.after hq
  |next=>exact EU hq
  |brk=>exact EU hq
  |cont=>exact EU hq
def Mv (f:ac) (o:i4) (sp:Sp) (E:XK) (i:Nat) (t:TA):TE:=fun σ H Q=>σ[i]?=some (some (.ref f))/\(∃u,H f=some (.bL o u))/\t σ H fun vs H1=>(∃u,H1 f=some (.bL o u))/\sp vs H1 Q E
theorem E8 {o:i4} {sp:Sp} {i:Nat} (F:FnOk X.prog X.w X.K X.mg X.base CX k f fd ps sp) (ho:∃oc od fd sl,o=⟨oc,od,.func fd,sl⟩) (hr:bB k X.A) (hN:X.N[i]?=some x) (hv:oZ X.env.scope x) (hb:Binds X.K fd ps []) (hx:Passes CX X E) (ha:PA X (e::es) t)
  (dS:(x==("__debug__" : bn))=false :=by decide) (dR:(x==("__classdict__" : bn))=false :=by decide) (he:starEach (e::es) X.env=(false,eval e X.env)::starEach es X.env :=by rfl) (c9:(backTo pos (starEach es X.env)).any (·.1)=false :=by rfl) :
  PE X (.Call (.Name x p) (e::es) [] pos) (Mv f o sp E i t) :=by
 refine ⟨?_⟩
 intro pins s σ H Q I ⟨hi,hf,h⟩
 obtain ⟨oc,od,Gf,sl,rfl⟩:=ho
 refine Do (thn ((vd hN hv dS dR) pins s σ H (fun v H'=>v=.ref f/\H'=H) I ⟨_,hi,rfl,rfl⟩) fun u s0 ⟨v,H0,I0,r0,e1,e2⟩=>?_)
 subst e1 e2
 cases (show u=li f from r0)
 have at_:∀{H':Hp} {s':ba},Inv X pins σ H' s'->(∃u,H' f=some (.bL ⟨oc,od,.func Gf,sl⟩ u))->PySem.W.FnAt f s'.heap:=fun I' ⟨u,hu⟩=>⟨oc,od,Gf,sl,(I'.hok f _ hu).1⟩
 refine PySem.W.callWith_F (at_ I0 hf) (thn (ha pos pins s0 σ H0 _ I0 h) fun us s1 ⟨vs,H1,I1,r,Ug,q⟩=>⟨at_ I1 Ug,?_⟩) he c9
 have q':sp (vs++[]) H1 Q E :=by rw [Fa];exact q
 exact Bp F hr hb .nil hx I1 r q'
end
def Ap (CX:gK) (P:ff) (w:ii) (K:bi) (mg:bn->Option al) (base:ge) (N:List bn) (qual:bn) (scope:u8) (f:ac) (cd:al) (aR:List (bn×ac)) (A:ma) (outer:List IR) (s:ba) (H:Hp) (E:XK):Cx where
 prog:=P
 w:=w
 K:=K
 mg:=mg
 base:=base
 A:=A.deeper (Pd qual scope s.heap.objs.size f cd aR)
 N:=N
 s₀:=s
 H₀:=H
 env:=Pd qual scope s.heap.objs.size f cd aR
 outer:=outer
 stack:=Pd qual scope s.heap.objs.size f cd aR::outer
 ex:=[]
 calm:=true
 fn:=fun _=>false
 pn:=[]
 xe:=fun e s'=>wpAny (model P w) (A.deeper (Pd qual scope s.heap.objs.size f cd aR)) (leaving (Pd qual scope s.heap.objs.size f cd aR) e) (fun _ bh=>CX outer H s E e bh) (fun e' bh=>CX outer H s E e' bh) s'
structure mK (ps fs:List bn) (sc:u8):Prop where
 kind:sc.kind=.function
 co:sc.isCoroutine=false
 gen:sc.isGenerator=false
 nd:(ps++fs).Nodup
 par:∀x∈ps,sc.names.lookup x=some .local
 fre:∀x∈fs,sc.names.lookup x=some .free
 nocell:∀y∈sc.names,y.2≠.cell
structure sP (base:ge) (fs:List bn) (aR:List (bn×ac)) (vcs:List V):Prop where
 inj:∀x y c,aR.lookup x=some c->aR.lookup y=some c->x=y
 all:∀x c,aR.lookup x=some c->∃v,base.IsCell c v
 cell:∀(j:Nat) (x:bn) (v:V),fs[j]?=some x->vcs[j]?=some v->∃c u,aR.lookup x=some c/\RelV v u/\base.IsCell c (some u)
theorem rO {x:bn} {v:al}:∀{ps:List bn} {us:List al} {i:Nat},ps.Nodup->ps[i]?=some x->us[i]?=some v->(ps.zip us).reverse.lookup x=some v
 | [],_,_,_,h,_=>by simp at h
 |_::_,[],_,_,_,h=>by simp at h
 |p::ps,u::us,i,nd,h1,h2=>by
          rw [RI,List.reverse_cons]
          have hn:=NJ.mp nd
          cases i with
          |zero=>
           simp at h1 h2
           subst h1 h2
           rw [List.lookup_append]
           have:(ps.zip us).reverse.lookup p=none :=by
            rw [List.lookup_eq_none_iff]
            intro q hq
            have vU:=List.mem_reverse.mp hq
            have:=(PP vU).1
            have ne:p≠q.1:=fun z=>hn.1 (by rw [z];exact this)
            simpa using ne
           rw [this]
           simp [List.lookup]
          |succ i=>
           rw [List.lookup_append,rO hn.2 (by simpa using h1) (by simpa using h2)]
           rfl
section
variable {CX:gK} {P:ff} {w:ii} {K:bi} {mg:bn->Option al} {base:ge} {ps fs:List bn} {qual:bn} {scope:u8} {f c:ac} {aR:List (bn×ac)} {A:ma} {outer:List IR} {s:ba} {H:Hp} {E:XK} {us:List al} {vs vcs:List V}
theorem Iu {h1:ge} {tk:Nat} (S:mK ps fs scope) (C:sP base fs aR vcs) (has:∀n,(n,tw)∈scope.names->∃a,aR.lookup n=some a) (hd:A.handled=none) (e0:sh P w K mg base A outer s H) (hl:vs.length=ps.length) (hc:vcs.length=fs.length) (r:Vals vs us)
  (dz:h1.Ns s.heap.objs.size (fun y=>(ps.zip us).reverse.lookup y)) (hk:∀b o,s.heap.get? b=some o->h1.get? b=some o) :
  Inv (Ap CX P w K mg base (ps++fs) qual scope f (.ref c) aR A outer s H E) [] (vs.map some++vcs.map some) H {s with heap:=h1,toks:=tk}:=by
 have bc:∀x a,aR.lookup x=some a->∃v o,s.heap.get? a=some o/\o.data=.cell v/\H a=none:=fun x a e=>by
  obtain ⟨v,o,ho,hd⟩:=C.all x a e
  obtain ⟨h1,h2⟩:=e0.bs a o ho
  exact ⟨v,o,h1,hd,h2⟩
 refine ⟨⟨e0.mod,S.kind,rfl,rfl,cr _,C.inj,fun y hy=>?_,fun _ _ z=>(nomatch z),fun _=>hd,ma.frames_deeper e0.frames,.inr ⟨rfl,rfl⟩,fun b z=>absurd (show b∈([]:List ac) from z) (by simp),e0.bs,e0.bsz,fun b _ _ z=>absurd (show b∈([]:List ac) from z) (by simp),fun b z=>absurd (show b∈([]:List ac) from z) (by simp),e0.funs,e0.frf⟩,
  rfl,⟨e0.bare,cr _⟩,Un.kept hk,⟨_,dz,fun i y v h1 h2 h3=>?_⟩,fun y a e=>?_,e0.hok.fresh (cr _),fun y a e=>?_,fun p hp=>absurd (show p∈([]:List (ac×i4)) from hp) (by simp),e0.hok.kept hk,?_⟩
 ·have hy:scope.names.lookup y=some .cell\/scope.names.lookup y=some .free:=hy
  rcases hy with hy|hy
  ·exact absurd rfl (S.nocell _ (wp hy))
  ·exact has y (wp hy)
 ·have h1:(ps++fs)[i]?=some y:=h1
  by_cases hi:i<ps.length
  ·rw [rf hi] at h1
   rw [rf (by simpa [hl] using hi),ce] at h2
   have ha:vs[i]?=some v :=by
    cases e:vs[i]? with
    |none=>rw [e] at h2;cases h2
    |some a=>rw [e] at h2;cases h2;rfl
   obtain ⟨u,hu,rv⟩:=r.get ha
   have nd:ps.Nodup:=S.nd.sublist (List.sublist_append_left _ _)
   exact ⟨u,rv,.inl ⟨S.par y (gc h1),rO nd h1 hu⟩⟩
  ·rw [sK (by omega)] at h1
   rw [sK (by simp only [c8];omega),c8,hl,ce] at h2
   have ha:vcs[i - ps.length]?=some v :=by
    cases e:vcs[i - ps.length]? with
    |none=>rw [e] at h2;cases h2
    |some a=>rw [e] at h2;cases h2;rfl
   obtain ⟨a,u,e1,rv,o,ho,hd⟩:=C.cell _ y v h1 ha
   exact ⟨u,rv,.inr ⟨.inr (S.fre y (gc h1)),a,e1,o,hk _ _ (e0.bs a o ho).1,hd⟩⟩
 ·obtain ⟨v,o,ho,hd,_⟩:=bc y a e
  exact ⟨v,o,hk _ _ ho,hd⟩
 ·obtain ⟨v,o,ho,hd,hn⟩:=bc y a e
  exact hn
 ·show _=(ps++fs).length
  simp [hl,hc]
structure Aq (params:MW) (body:dL) (scope:u8) (qual:bn) (o:i4) (c:ac) (oc:i4) (aR:List (bn×ac)) (fd:l5):Prop where
 has:∀n,(n,tw)∈scope.names->∃a,aR.lookup n=some a
 obj:∃name pm jg,fd=PySem.W.kla_fn name qual params body scope aR pm (.ref c) jg/\o={cls:=.type "function",data:=.func fd}
 code:∃vs t,oc.data=.fields vs/\vs[1]?=some (Wp qual t)
theorem Mw {params:MW} {body:dL} {o oc:i4} {fd:l5} {k:Nat} {sp:Sp} (L:Aq params body scope qual o c oc aR fd) (S:mK ps fs scope) (C:sP base fs aR vcs) (da:vcs.length=fs.length) (len:∀vs H Q E,sp vs H Q E->vs.length=ps.length)
  (at':∀vs H Q E,sp vs H Q E->(∃u,H f=some (.bL o u))/\∃u,H c=some (.bL oc u))
  (lY:∀(A:ma) (outer:List IR) (s:ba) (H:Hp) (vs:List V) (Q:VK) (E:XK),bB k (A.deeper (Pd qual scope s.heap.objs.size f (.ref c) aR))->sp vs H Q E->
   ∃t,PE (Ap CX P w K mg base (ps++fs) qual scope f (.ref c) aR A outer s H E) body t/\t (vs.map some++vcs.map some) H Q):FnOk P w K mg base CX (k+1) f fd ps sp :=by
 obtain ⟨has,⟨name,pm,jg,rfl,rfl⟩,⟨Uh,ct,d1,d2⟩⟩:=L
 refine ⟨len,fun A outer s H args us vs Q E hr e0 hb r kz=>?_⟩
 have hl:=len _ _ _ _ kz
 obtain ⟨⟨u1,ef⟩,⟨u2,ec⟩⟩:=at' _ _ _ _ kz
 have Ui:=(e0.hok f _ ef).1
 have tu:=(e0.hok c _ ec).1
 have lim:s.heap.NoLimit:=e0.mod.nolimit.keeps fun b o e=>(e0.bs b o e).1
 refine PySem.W.kla_callFunE hr.depth Ui rfl S.co S.gen rfl ⟨c,oc,Uh,ct,rfl,tu,d1,d2⟩ (hb _ _ _ _ ?_)
 refine wpAny_newFunctionEnv S.nocell (fun y hy=>S.par y.1 (PP hy).1) (fun h1 dz jN=>⟨lim.fresh _ jN,?_⟩) S.kind
 have hk:∀b o,s.heap.get? b=some o->h1.get? b=some o:=fun b o e=>jN.extBut b o (jp (hX e)) (cb _ e)
 obtain ⟨t,ht,hq⟩:=lY A outer s H vs Q E (hr.deeper _) kz
 have I:=Iu (CX:=CX) (qual:=qual) (f:=f) (c:=c) (E:=E) (tk:=s.toks+(ps.zip us).length) S C has hr.hd e0 hl da r dz hk
 show codeAny _ _ (.expr body (Pd qual scope s.heap.objs.size f (.ref c) aR)) _ _
 refine PySem.W.kla_codeExpr (l7 (ht [] _ _ H Q I hq) (fun u s' ⟨v,H',J,rv,q⟩=>?_) fun e s' hs=>hs)
 exact ⟨v,H',J.os,J.bare,J.base,J.hok,rv,q⟩
end
end L2
namespace L2
open PySem PySem.Spec PySem.W PyProof.Rows
structure GQ (K:bi) (mg:bn->Option al) (x:bn) (st:r6) (ps:List bn) (ds:List al) (f:ac) (fd:l5):Prop where
 ex:∃(oc:al) (od:Option ac) (dV kV doc pm:al) (an:Option ac) (cJ ct:al) (iN:Array (Option al)),
  fd=zn x x (cT st) (bK st) (aj st) dV kV doc pm an cJ ct/\K.lookup f=some ⟨oc,od,.func fd,iN⟩/\IS K cJ x=true
 kp:Co K (.ref f)=true
 bd:Binds K fd ps ds
 bd0:Binds K fd ps []
 mg:mg x=some (.ref f)
section
variable {P:ff} {w:ii} {K:bi} {mg:bn->Option al} {base:ge} {tb:cu} {x:bn} {st:r6} {f:ac} {fd:l5} {N ps:List bn} {f9:List al} {k:Nat} {S:b9}
theorem OZ (D:GQ K mg x st ps f9 f fd) (sc:aN N ps (aj st)) (len:∀ds M Q E,S ds M Q E->ds.length=ps.length)
  (body:∀(A:ma) (outer:List IR) (s:ba) (E:XK) (Γ:Gz) (ds:List Dv) (Q':ZK) (E':ZX),P=Γ.P->w=Γ.w->K=Γ.K->tb=Γ.tb->bB k (A.deeper (envOfC x (aj st) s.heap.objs.size f fd.code))->S ds Γ.M0 Q' E'->
   ∃p,kP Γ (fW bf P w K mg base N x (aj st) f fd.code A outer s Γ.H0 E).jd (bK st) p/\p (zEndsOf Γ.M0 Q') (zstart N ds) Γ.M0):FnOk P w K mg base bf (k+1) f fd ps (aY P w K tb S) :=by
 obtain ⟨oc,od,dV,kV,doc,pm,an,cJ,ct,iN,rfl,lk,dR⟩:=D.ex
 refine zG lk dR sc (sL len) fun A outer s H vs Q E hr h=>?_
 obtain ⟨β,ds,M,Q',E',eP,ew,eK,et,m,rs,hS,q,_⟩:=h
 obtain ⟨p,hp,hq⟩:=body A outer s E ⟨β,M,H⟩ ds Q' E' eP.symm ew.symm eK.symm et.symm hr hS
 refine ⟨_,hp.jd,β,zstart N ds,M,zEndsOf M Q',pT (Γ:=⟨β,M,H⟩) m rs,hq,?_⟩
 have fin:∀d M' v H',Ex β M H M' H'->Rz β M' H' v d->i9 M Q' d M'->Q v H':=fun d M' v H' x r h=>oM m q x r h
 exact ⟨fun bI M' aF H' x zr h=>fin _ _ _ _ ⟨zr.ent,x.mz⟩ .au h,fun d M' v H' x e r h=>fin _ _ _ _ ⟨e,x.mz⟩ r h,fun _ _ _ _ _ _ h=>h,fun _ _ _ _ _ _ h=>h⟩
def GR (P:ff) (w:ii) (K:bi) (tb:cu) (f:ac) (o:i4) (c:ac) (oc:i4) (vcs:List V) (S:List Dv->b9):Sp:=fun vs H Q E=>∃(β:Bz) (ds cc:List Dv) (M:Mh) (Q':ZK) (E':ZX),β.P=P/\β.w=w/\β.K=K/\β.tb=tb/\Mz β M H/\aG β M H vs ds/\Rz β M H (.ref f) (.bO f o c oc vcs cc)/\S cc ds M Q' E' /\
 (∀d M' v H',Ex β M H M' H'->Rz β M' H' v d->Q' d M'->Q v H')/\∀C M' H',Ex β M H M' H'->E' C M'->E (.ref C) none H'
theorem kX {β:Bz} {M:Mh} {H:Hp} {v:V} {f c:ac} {o oc:i4} {vs:List V} {ds:List Dv} (h:Rz β M H v (.bO f o c oc vs ds)):v=.ref f/\(∃u,H f=some (.bL o u))/\(∃u,H c=some (.bL oc u))/\aG β M H vs ds :=by
 cases h with
 |bO m e m2 e2 hl h=>exact ⟨rfl,⟨_,e⟩,⟨_,e2⟩,hl,h⟩
theorem Mx {Γ:Gz} {vs vcs:List V} {ds cc:List Dv} (m:Mz Γ.toBz Γ.M0 Γ.H0) (rs:aG Γ.toBz Γ.M0 Γ.H0 vs ds) (rc:aG Γ.toBz Γ.M0 Γ.H0 vcs cc):Zr Γ Γ.toBz Γ.M0 (ds.map some++cc.map some) (vs.map some++vcs.map some) Γ.H0:=
 ⟨rfl,rfl,rfl,rfl,fun _ h=>h,m.wf,.refl,m,by simp [rs.len,rc.len],fun i d e=>by
  rw [<- xy,ce,lc] at e
  obtain ⟨d2,e,e2⟩:=e
  cases e2
  obtain ⟨v,hv,r⟩:=(rs.append rc).get e
  exact ⟨v,by rw [<- xy,ce,hv];rfl,r⟩⟩
theorem R1 {fs:List bn} {qual:bn} {scope:u8} {params:MW} {body:dL} {c:ac} {o oc:i4} {aR:List (bn×ac)} {vcs:List V} {Sc:List Dv->b9} (L:Aq params body scope qual o c oc aR fd) (sc:mK ps fs scope) (C:sP base fs aR vcs) (da:vcs.length=fs.length)
  (len:∀cc ds M Q E,Sc cc ds M Q E->ds.length=ps.length)
  (hb:∀(A:ma) (outer:List IR) (s:ba) (E:XK) (Γ:Gz) (cc ds:List Dv) (Q':ZK) (E':ZX),P=Γ.P->w=Γ.w->K=Γ.K->tb=Γ.tb->bB k (A.deeper (Pd qual scope s.heap.objs.size f (.ref c) aR))->Sc cc ds Γ.M0 Q' E'->
   ∃p,QE Γ (Ap bf P w K mg base (ps++fs) qual scope f (.ref c) aR A outer s Γ.H0 E).jd body p/\p (ds.map some++cc.map some) Γ.M0 (i9 Γ.M0 Q')):FnOk P w K mg base bf (k+1) f fd ps (GR P w K tb f o c oc vcs Sc) :=by
 refine Mw L sc C da (fun vs H Q E hS=>by obtain ⟨β,ds,cc,M,Q',E',_,_,_,_,m,rs,rc,s,_⟩:=hS;exact rs.len.trans (len _ _ _ _ _ s)) (fun vs H Q E hS=>by obtain ⟨β,ds,cc,M,Q',E',_,_,_,_,m,rs,rc,s,_⟩:=hS;obtain ⟨_,h1,h2,_⟩:=kX rc;exact ⟨h1,h2⟩) fun A outer s H vs Q E hr h=>?_
 obtain ⟨β,ds,cc,M,Q',E',eP,ew,eK,et,m,rs,rc,hS,q,_⟩:=h
 obtain ⟨p,hp,hq⟩:=hb A outer s E ⟨β,M,H⟩ cc ds Q' E' eP.symm ew.symm eK.symm et.symm hr hS
 obtain ⟨_,_,_,GU⟩:=kX rc
 exact ⟨_,hp.jd,β,_,M,_,Mx (Γ:=⟨β,M,H⟩) m rs GU,hq,fun d M' v H' x r h=>oM m q x r h⟩
end
section
variable {X:Cx} {Γ:Gz} {β:Bz} {CX:gK} {k:Nat} {f:ac} {fd:l5} {ps:List bn} {E:XK} {E':ZX} {x:bn} {p pos:wn} {e:dL} {es:List dL} {za:eh} {P:ff} {w:ii} {tb:cu} {K:bi}
def zCallL (f:ac) (o:i4) (c:ac) (oc:i4) (vcs:List V) (S:List Dv->b9) (E':ZX) (i:Nat) (za:eh):aM:=fun ρ M Q=>match ρ[i]? with
 |some (some (.bO f' o' c' MA MB cc))=>(f'=f/\o'=o/\c'=c/\MA=oc/\MB=vcs)/\za ρ M fun ds M1=>S cc ds M1 Q E'
 |_=>False
theorem E9 {c:ac} {o oc:i4} {vcs:List V} {S:List Dv->b9} {i:Nat} (F:FnOk X.prog X.w X.K X.mg X.base CX k f fd ps (GR P w K tb f o c oc vcs S)) (ho:∃oc od fd sl,o=⟨oc,od,.func fd,sl⟩) (hr:bB k X.A) (hN:X.N[i]?=some x) (hv:oZ X.env.scope x) (hb:Binds X.K fd ps [])
  (hx:Passes CX X E) (hP:P=Γ.P) (hw:w=Γ.w) (hK:K=Γ.K) (ht:tb=Γ.tb) (hE:XR Γ E' E) (ha:QA Γ X (e::es) za) (dS:(x==("__debug__" : bn))=false :=by decide) (dR:(x==("__classdict__" : bn))=false :=by decide)
  (he:starEach (e::es) X.env=(false,eval e X.env)::starEach es X.env :=by rfl) (c9:(backTo pos (starEach es X.env)).any (·.1)=false :=by rfl):QE Γ X (.Call (.Name x p) (e::es) [] pos) (zCallL f o c oc vcs S E' i za):=
 (E8 F ho hr hN hv hb hx ha dS dR he c9).imp fun σ H Q ⟨β,ρ,M,Q',zr,h,q⟩=>by
  subst hP hw hK ht
  unfold zCallL at h
  split at h
  ·rename_i f' o' c' MA MB cc hi
   obtain ⟨⟨rfl,rfl,rfl,rfl,rfl⟩,h⟩:=h
   obtain ⟨v,hv,r⟩:=zr.at' i _ hi
   obtain ⟨rfl,h1,_,_⟩:=kX r
   refine ⟨hv,h1,β,ρ,M,_,zr,h,fun ds M1 vs H1 x1 r1 h2=>?_⟩
   have r':=r.ex x1
   obtain ⟨_,h3,_,_⟩:=kX r'
   exact ⟨h3,β,ds,cc,M1,Q',E',zr.eP,zr.ew,zr.eK,zr.et,x1.mz,r1,r',h2,fun d M2 v H2 x2 r2 h2=>q _ _ _ _ (x1.trans x2) r2 h2,fun C M2 H2 x2 h2=>hE C M2 H2 (rK zr.ent zr.sub zr.eP zr.ew zr.eK zr.et (x1.trans x2)) h2⟩
  ·exact h.elim
end
theorem Ex.R3 {X:Cx} {P:ac} {β:Bz} {M:Mh} {H H2:Hp} {f c:ac} {o oc:i4} (m:Mz β M H) (hp:∀q∈β.tb.l,q.1=P->q.2=gE X) (n:Mr X P H H2 f o c oc):Ex β M H M H2 :=by
 obtain ⟨new,at',cd,lm,keep,⟨ps,hP⟩⟩:=n
 obtain ⟨ps2,MC,_⟩:=id lm
 have nP:∀b u,H b=some u->(∀ps,u≠.lam ps)->b≠P:=fun b u e q z=>by rw [z,hP] at e;cases e;exact q _ rfl
 have ey:Ey M H M H2:=⟨fun b u _ e=>by
  by_cases hb:b=P
  ·subst hb
   rw [hP] at e;cases e
   exact .inr ⟨_,.inr (.inl ⟨ps,ps2,rfl,rfl⟩),MC⟩
  ·exact .inl (keep b u e hb),fun _ h=>h,fun _ _ h _=>h⟩
 refine ⟨ey,fun a u e=>?_,fun q hq=>?_,fun a ha=>?_,m.apart,fun q hq=>?_⟩
 ·have z:=m.obj a u e
  have k:∀u,H a=some u->L2.pR u=true->H2 a=some u:=fun u h hu=>keep a u h (nP a u h (by intro ps z;subst z;cases hu))
  cases u with
  |lst ds=>obtain ⟨vs,z,l,r⟩:=z;exact ⟨vs,k _ z rfl,l,fun i v d a b=>(r i v d a b).ey ey⟩
  |dk ks ds=>obtain ⟨vs,z,hk,l,r⟩:=z;exact ⟨vs,k _ z rfl,hk,l,fun i v d a b=>(r i v d a b).ey ey⟩
  |dt ks ds=>obtain ⟨vs,z,hk,l,r⟩:=z;exact ⟨vs,k _ z rfl,hk,l,fun i v d a b=>(r i v d a b).ey ey⟩
  |dm=>obtain ⟨c,n,z,r⟩:=z;exact ⟨c,n,k _ z rfl,r⟩
 ·obtain ⟨ps,e,t⟩:=m.tabs q hq
  exact ⟨ps,keep _ _ e (nP _ _ e (by intro ps z;cases z)),t⟩
 ·obtain ⟨u,e,n⟩:=m.hids a ha
  exact ⟨u,keep _ _ e (nP _ _ e (by intro ps z;subst z;cases n)),n⟩
 ·by_cases hb:q.1=P
  ·have:q=(P,gE X):=Prod.ext hb (hp q hq hb)
   rw [this];exact lm
  ·exact (m.lams q hq).keep (fun _ e=>keep _ _ e hb) fun c' _ _ e=>keep _ _ e (nP _ _ e (by intro ps z;cases z))
section
variable {X:Cx} {Γ:Gz} {β:Bz} {CX:gK} {k:Nat} {f:ac} {fd:l5} {ps:List bn} {E:XK} {E':ZX} {x:bn} {p pos nX:wn} {e1 e2:dL} {rest:List dL} {z1 z2:aM} {zr:eh} {P:ff} {w:ii} {tb:cu} {K:bi}
def rP:List Nat->aB->Option (List Dv)
 | [],_=>some []
 |i::is,ρ=>match ρ[i]?,rP is ρ with|some (some d),some ds=>some (d::ds)|_,_=>none
theorem y7 {Γ:Gz} {M:Mh} {ρ:aB} {σ:St} {H:Hp} (z:Zr Γ β M ρ σ H):∀{idx:List Nat} {cc:List Dv},rP idx ρ=some cc->∃vcs,aG β M H vcs cc/\vcs.length=idx.length/\∀(j i:Nat) (v:V),idx[j]?=some i->vcs[j]?=some v->σ[i]?=some (some v)
 | [],cc,h=>by cases h;exact ⟨[],.nil,rfl,fun j i v h=>by simp at h⟩
 |i::is,cc,h=>by
          unfold rP at h
          split at h
          ·rename_i d ds h1 h2
           cases h
           obtain ⟨v,hv,r⟩:=z.at' i d h1
           obtain ⟨vcs,rs,l,q⟩:=y7 z h2
           refine ⟨v::vcs,.cons r rs,by simp [l],fun j i' u a b=>?_⟩
           cases j with
           |zero=>simp at a b;subst a b;exact hv
           |succ j=>exact q j i' u (by simpa using a) (by simpa using b)
          ·cases h
def wN (X:Cx) (params:MW) (body:dL) (scope:u8) (idx:List Nat) (fs:List bn) (S:ge->b9) (dd:List Dv) (E':ZX) (z1 z2:aM) (zr:eh):aM:=fun ρ M Q=>z1 ρ M fun d1 M1=>z2 ρ M1 fun d2 M2=>match rP idx ρ with
 |some cc=>∀f o c oc aR vcs,vcs.length=idx.length->Mq X params body scope o c oc aR->zr ρ M2 fun es M3=>∀b',(∀b o,X.base.get? b=some o->b'.get? b=some o)->sP b' fs aR vcs->S b' (d1::d2::.bO f o c oc vcs cc::es++dd) M3 Q E'
 |none=>False
theorem Ar {params:MW} {body:dL} {scope:u8} {idx:List Nat} {fs:List bn} {S:ge->b9} {f9:List V} {dd:List Dv} {ds:List al} {PT cX:ac} (dP:X.env.code=.ref cX) (dR:sB X.base cX PT) (dM:∃bm ob,Wa X.base mainGlobals X.mg bm ob) (u9:defaultsOf params X.env=([],[]))
  (oy:∀n,(n,tw)∈scope.names->X.env.kindOf n=some .cell\/X.env.kindOf n=some .free) (Uj:∀(j:Nat) (n:bn),fs[j]?=some n->(n,tw)∈scope.names/\X.env.scope.names.lookup n=some .cell/\∃i,idx[j]?=some i/\X.N[i]?=some n)
  (je:(PT,gE X)∈Γ.tb.l) (MD:∀q∈Γ.tb.l,q.1=PT->q.2=gE X)
  (F:∀b',(∀b o,X.base.get? b=some o->b'.get? b=some o)->FnOk X.prog X.w X.K X.mg b' CX k f fd ps (aY P w K tb (S b'))) (hr:bB k X.A) (qo:∀x,X.fn x=true) (hg:Gl X x) (hm:X.mg x=some (.ref f)) (hk:Co X.K (.ref f)=true) (hb:Binds X.K fd ps ds) (hd:Vals f9 ds) (Uk:∀β M H,aG β M H f9 dd)
  (hx:Passes CX X E) (hP:P=Γ.P) (hw:w=Γ.w) (hK:K=Γ.K) (ht:tb=Γ.tb) (hE:XR Γ E' E) (h1:QE Γ X e1 z1) (h2:QE Γ X e2 z2) (h3:QA Γ X rest zr) (dS:(x==("__debug__" : bn))=false :=by decide)
  (s1:starEach (e1::e2::.Lambda params body scope nX::rest) X.env=(false,eval e1 X.env)::starEach (e2::.Lambda params body scope nX::rest) X.env :=by rfl)
  (s2:starEach (e2::.Lambda params body scope nX::rest) X.env=(false,eval e2 X.env)::starEach (.Lambda params body scope nX::rest) X.env :=by rfl)
  (s3:starEach (.Lambda params body scope nX::rest) X.env=(false,eval (.Lambda params body scope nX) X.env)::starEach rest X.env :=by rfl)
  (c9:(backTo pos (starEach (e2::.Lambda params body scope nX::rest) X.env)).any (·.1)=false :=by rfl) :
  QE Γ X (.Call (.Name x p) (e1::e2::.Lambda params body scope nX::rest) [] pos) (wN X params body scope idx fs S dd E' z1 z2 zr):=
 (E7 F hr qo hg hm hk hb hd hx (oz h1 (oz h2 (oz (Mt dP dR dM u9 oy) h3 s3) s2) s1) dS s1 c9).imp fun σ H Q ⟨β,ρ,M,Q',j8,h,q⟩=>by
  subst hP hw hK ht
  refine ⟨β,ρ,M,_,j8,h,fun d1 M1 v1 H1 x1 r1 h1=>⟨β,ρ,M1,_,j8.step x1,h1,fun d2 M2 v2 H2 x2 r2 h2=>?_⟩⟩
  have GC:=(j8.step x1).step x2
  have R4:(PT,gE X)∈β.tb.l :=by rw [j8.et];exact je
  have R5:∀q∈β.tb.l,q.1=PT->q.2=gE X :=by rw [j8.et];exact MD
  refine ⟨x2.mz.lams _ R4,fun lf o c oc aR H3 hO hN=>?_⟩
  split at h2
  ·rename_i cc O1
   obtain ⟨vcs,GU,lcs,at'⟩:=y7 GC O1
   have x3:=Ex.R3 x2.mz R5 hN
   have LR:=GC.step x3
   refine ⟨β,ρ,M2,_,LR,h2 lf o c oc aR vcs lcs hO,fun es M4 ws H4 x4 r4 h4=>?_⟩
   intro b' B
   obtain ⟨u1,a1⟩:=hN.at'
   obtain ⟨u2,a2⟩:=hN.cd
   have Qv:=x3.mz
   have Ul:Fz β M2 lf:=x2.mz.fz hN.new
   have R6:∀a o u,H3 a=some (.bL o u)->a ∉ β.hid:=fun a o u e z=>by
    obtain ⟨w,e',n⟩:=Qv.hids a z
    rw [e] at e';cases e';cases n
   have R7:Rz β M2 H3 (.ref lf) (.bO lf o c oc vcs cc):=.bO Ul a1 ⟨Qv.lF a2 rfl,R6 _ _ _ a2⟩ a2 GU.len fun i v d a b=>(GU.at' i v d a b).ex x3
   have R8:sP b' fs aR vcs :=by
    refine ⟨fun n m a e e'=>B.inj n m a (hO.cells n a e) (hO.cells m a e'),fun n a e=>B.cells n a (hO.cells n a e),fun j n v hj hv=>?_⟩
    obtain ⟨fr,kc,i,hi,hn⟩:=Uj j n hj
    obtain ⟨a,u,e1,e2,e3⟩:=B.cell i n v hn (at' j i v hi hv) kc
    obtain ⟨a',e'⟩:=hO.has n fr
    have:=(hO.cells n a' e').symm.trans e1
    cases this
    exact ⟨a,u,e',e2,e3⟩
   have wj:=x2.trans (x3.trans x4)
   have Um:=x3.trans x4
   refine ⟨β,_,M4,Q',E',j8.eP,j8.ew,j8.eK,j8.et,x4.mz,?_,h4 b' B.ext R8,fun d M5 v H5 x5 r5 h5=>q _ _ _ _ (x1.trans (wj.trans x5)) r5 h5,fun C M5 H5 x5 h5=>hE C M5 H5 (rK j8.ent j8.sub j8.eP j8.ew j8.eK j8.et (x1.trans (wj.trans x5))) h5⟩
   have rs:aG β M4 H4 (v1::v2::.ref lf::ws++f9) (d1::d2::.bO lf o c oc vcs cc::es++dd):=.cons (r1.ex wj) (.cons (r2.ex Um) (.cons (R7.ex x4) (r4.append (Uk _ _ _))))
   exact rs
  ·exact h2.elim
end
end L2
namespace L2
open PySem PySem.Spec PyProof.Rows
theorem CU {P:ff} {w:ii} {K:bi} {mg mb:bn->Option al} {CX:gK} {k:Nat} {fa a:ac} {fd:l5} {x:bn} {sp:Sp} {aw:ba} {vs:List al} {ns:List Int} {tabs lts:List ac}
  (KX:K.In aw.heap) (dz:aw.heap.Ns mainGlobals mg) (hb:aw.heap.Ns builtinsNs mb) (Uo:∀x:bn,x ≠ "__name__" -> mb x=bootBuiltins x) (ME:aw.heap.NoLimit) (hg:aw.gens=#[])
  (ha:aw.heap.get? a=some {cls:=.type "list",data:=.seq vs.toArray}) (hi:Tk vs ns) (hl:ns.length<=sizeLine) (hr:bB k callerA)
  (jP:∀p∈tabs++lts,aw.heap.get? p=some (OF #[])/\isCodeTable aw.heap p) (R9:∀p∈tabs,p ∉ lts) (CV:W3 K=true) (dM:∃bm ob,Wa aw.heap mainGlobals mg bm ob)
  (F:∀base:ge,K.In base->base.Ns mainGlobals mg->(∃bm ob,Wa base mainGlobals mg bm ob)->(∀c p,sB aw.heap c p->sB base c p)->FnOk P w K mg base CX k fa fd [x] sp)
  (O3:∀(s:ba) (u:al),Xr s fd ⟨[u],[]⟩ [(x,u)])
  (kz:∀H:Hp,(∀p∈tabs,Tb p H)->(∀p∈lts,H p=some (.lam #[]))->bF K H a (ns.map V.int)->sp [.ref a] H (fun v H'=>v=.bl true/\∀p∈lts,∃ps,H' p=some (.lam ps)) fun _ _ _=>False)
  (MF:∀H e s',CX [] H aw (fun _ _ _=>False) e s'->False) :
  codeAny (model P w) callerA (.call (.ref fa) ⟨[.ref a],[]⟩) (fun r s'=>r=.ok (.ret (.bool true))/\OldK aw.heap s'.heap/\s'.os=aw.os/\XJ s'.gens) aw :=by
 have rv:=tN hi
 have Sa:=hi.length
 have qT:a ∉ tabs++lts:=fun z=>by
  have e:=(jP a z).1
  rw [ha] at e
  cases e
 have core:∀H:Hp,(∀b u,H b=some u->(b=a/\∃o xs,u=.bL o (.lst xs))\/(b∈tabs++lts/\(u=.cO #[]/\b∈tabs\/u=.lam #[]/\b∈lts)))->(∀p∈tabs,H p=some (.cO #[]))->(∀p∈lts,H p=some (.lam #[]))->bF K H a (ns.map V.int)->cH P w H aw.heap->(H a≠none->K.lookup a=none)->
   codeAny (model P w) callerA (.call (.ref fa) ⟨[.ref a],[]⟩) (fun r s'=>r=.ok (.ret (.bool true))/\OldK aw.heap s'.heap/\s'.os=aw.os/\XJ s'.gens) aw :=by
  intro H hO Up Uq hS hok hK
  have oP:∀{b:ac} {o:i4},aw.heap.get? b=some o->H b=none->(jH aw.heap H).get? b=some o:=fun e n=>DW e n
  have no:∀{b:ac} {o:i4},aw.heap.get? b=some o->(∀n,o.data≠.seq vs.toArray n)->o≠OF #[]->H b=none:=fun {b o} e d1 d2=>by
   cases q:H b with
   |none=>rfl
   |some u=>
    rcases hO b u q with ⟨e',_⟩|⟨gO,_⟩
    ·subst e'
     rw [ha] at e;cases e
     exact absurd rfl (d1 _)
    ·rw [(jP b gO).1] at e
     exact absurd (ij e).symm d2
  have Ur:∀{b:ac} {o:i4} {es:Array VW} {ep:Nat},aw.heap.get? b=some o->o.data=.dict es ep->H b=none:=fun {b o es ep} e d=>no e (fun n z=>by rw [d] at z;cases z) fun z=>by rw [z] at d;cases d
  have CW:∀{b:ac} {m:bn->Option al},aw.heap.Ns b m->(jH aw.heap H).Ns b m:=fun {b m} hS=>by obtain ⟨o,es,ep,e,d,r⟩:=hS;exact ⟨o,es,ep,oP e (Ur e d),d,r⟩
  have Qw:K.In (jH aw.heap H):=fun b o e=>oP (KX b o e) (by
   cases q:H b with
   |none=>rfl
   |some u=>
    rcases hO b u q with ⟨e',_⟩|⟨gO,_⟩
    ·subst e'
     rw [hK (by rw [q];simp)] at e;cases e
    ·have e1:=KX b o e
     have e2:=(jP b gO).1
     rw [e1] at e2
     have e3:o=OF #[]:=ij e2
     have q2:=u4.mp CV (b,o) (PySem.W.kb_mem e)
     simp only [VP,decide_eq_true_eq,beq_iff_eq] at q2
     rcases q2 with (q2|q2)|q2
     ·rw [e3] at q2;exact absurd rfl q2
     ·obtain ⟨mc,⟨oc,es,ep,ho,hd,_⟩,_⟩:=ME
      rw [<- q2,e1] at ho
      cases ho
      rw [e3] at hd;cases hd
     ·obtain ⟨oc,es,ep,ho,hd,_⟩:=id dz
      rw [<- q2,e1] at ho
      cases ho
      rw [e3] at hd;cases hd)
  have hM:Mod K mg (jH aw.heap H):=⟨Qw,CW dz,⟨mb,CW hb,Uo⟩,let ⟨mc,h1,h2⟩:=ME;⟨mc,CW h1,h2⟩⟩
  have hB:∃bm ob,Wa (jH aw.heap H) mainGlobals mg bm ob :=by
   obtain ⟨bm,ob,B⟩:=dM
   exact ⟨bm,ob,CW B.ns,B.name,B.ne,oP B.obj (no B.obj (fun n z=>by rw [B.data] at z;cases z) fun z=>by have:=B.data;rw [z] at this;cases this),B.cls,B.dict,B.data⟩
  have hC:∀c p,sB aw.heap c p->sB (jH aw.heap H) c p:=fun c p ⟨o,v8,file,tf,flags,tg,Us,text,tt,e1,e2,e3,r⟩=>
   ⟨o,v8,file,tf,flags,tg,Us,text,tt,oP e1 (no e1 (fun n z=>by rw [e3] at z;cases z) fun z=>by rw [z] at e2;cases e2),e2,e3,r⟩
  have e0:sh P w K mg (jH aw.heap H) callerA [] aw H:=⟨rfl,hM,fun b o e=>Hm e,V3 (A6 _ _),trivial,fun b hb=>absurd (show b∈([]:List ac) from hb) (by simp),hok,.of_eq hg⟩
  refine VY ((F _ Qw (CW dz) hB hC).run callerA [] aw H ⟨[.ref a],[]⟩ [.ref a] [.ref a] _ _ hr e0 (O3 aw (.ref a)) (.cons rfl .nil) (kz H (fun p hp=>⟨#[],Up p hp,trivial⟩) Uq hS)) fun r s' h=>?_
  cases r with
  |error e=>exact (MF H e s' h).elim
  |ok fl=>
   cases fl with
   |next=>exact EU h
   |brk=>exact EU h
   |cont=>exact EU h
   |ret u=>
    obtain ⟨v,H',os,bare,un,Fb,r',q⟩:=h
    obtain ⟨q',qL⟩:=q
    subst q'
    obtain rfl:u=Wv true:=r'
    have all:∀b o,aw.heap.get? b=some o->asItWas aw.heap s'.heap b o/\∃o',s'.heap.get? b=some o':=fun b o e=>by
     cases q:H b with
     |none=>
      have:=un.keep b o e q (by intro z;exact absurd (show b∈([]:List ac) from z) (by simp)) (by simp)
      exact ⟨.inl this,_,this⟩
     |some u=>
      rcases hO b u q with ⟨_,ob,xs,z⟩|⟨gO,z⟩
      ·subst z
       have z2:=un.frzs b ob _ q
       obtain ⟨e1,_⟩:=hok b _ q
       obtain ⟨e2,_⟩:=Fb b _ z2
       rw [e] at e1;cases e1
       exact ⟨.inl e2,_,e2⟩
      ·have e2:∃more,s'.heap.get? b=some {cls:=.none,data:=.fields (#[]++more)}:=by
        rcases z with ⟨z,_⟩|⟨z,o9⟩
        ·subst z
         obtain ⟨more,z2⟩:=un.tbls b #[] q
         exact ⟨more,Fb b _ z2⟩
        ·obtain ⟨ps,z2⟩:=qL b o9
         refine ⟨ps,?_⟩
         have:=Fb b _ z2
         rw [show (#[]:Array al)++ps=ps by simp]
         exact this
       obtain ⟨more,e2⟩:=e2
       have e1:=(jP b gO).1
       rw [e] at e1
       obtain rfl:o=OF #[]:=ij e1
       exact ⟨.inr (.inl ⟨(jP b gO).2,rfl,#[],more,rfl,e2⟩),_,e2⟩
    exact ⟨rfl,⟨fun b o e=>(all b o e).1,fun b o e=>(all b o e).2⟩,os,bare.1⟩
 have MG:∀p∈tabs++lts,∀H:Hp,∀u,(u=.cO #[]/\p∈tabs\/u=.lam #[]/\p∈lts)->ObjOk P w H aw.heap p u:=fun p hp H u hu=>by
  rcases hu with ⟨rfl,_⟩|⟨rfl,_⟩ <;> exact (jP p hp).1
 let T:Hp:=fun b=>if b∈lts then some (.lam #[]) else if b∈tabs then some (.cO #[]) else none
 have T1:∀b u,T b=some u->b∈tabs++lts/\(u=.cO #[]/\b∈tabs\/u=.lam #[]/\b∈lts):=fun b u z=>by
  by_cases h1:b∈lts
  ·have z':=(show T b=_ from if_pos h1).symm.trans z
   cases z'
   exact ⟨i1 _ h1,.inr ⟨rfl,h1⟩⟩
  ·by_cases h2:b∈tabs
   ·have z':=(show T b=_ from (if_neg h1).trans (if_pos h2)).symm.trans z
    cases z'
    exact ⟨BS _ h2,.inl ⟨rfl,h2⟩⟩
   ·have z':=(show T b=_ from (if_neg h1).trans (if_neg h2)).symm.trans z
    cases z'
 have T2:∀p∈tabs,T p=some (.cO #[]):=fun p hp=>(if_neg (R9 p hp)).trans (if_pos hp)
 have T3:∀p∈lts,T p=some (.lam #[]):=fun p hp=>if_pos hp
 have Ta:T a=none:=(if_neg fun z=>qT (i1 _ z)).trans (if_neg fun z=>qT (BS _ z))
 cases hk:K.lookup a with
 |some o=>
  have e:=KX a o hk
  rw [ha] at e
  cases e
  exact core T (fun b u z=>.inr (T1 b u z)) T2 T3 (.inr ⟨_,vs.toArray,_,hk,rfl,rfl,rfl,by rw [db,Sa];exact hl,by simpa using rv⟩) (fun b u z=>MG b (T1 b u z).1 _ u (T1 b u z).2) fun z=>absurd Ta z
 |none=>
  have na:∀p∈tabs++lts,p≠a:=fun p hp z=>qT (z▸hp)
  refine core (upd T a (.bL {cls:=.type "list",data:=.seq vs.toArray} (.lst (ns.map V.int)))) (fun b u z=>?_) (fun p hp=>by rw [af (na p (BS _ hp))];exact T2 p hp) (fun p hp=>by rw [af (na p (i1 _ hp))];exact T3 p hp) (.inl (.inr ⟨_,ay⟩)) (fun b u z=>?_) fun _=>hk
  ·by_cases hb:b=a
   ·subst hb
    rw [ay] at z
    cases z
    exact .inl ⟨rfl,_,_,rfl⟩
   ·rw [af hb] at z
    exact .inr (T1 b u z)
  ·by_cases hb:b=a
   ·subst hb
    rw [ay] at z
    cases z
    exact ⟨ha,by rw [c8];exact hl,vs,_,rv,ha⟩
   ·rw [af hb] at z
    exact MG b (T1 b u z).1 _ u (T1 b u z).2
def u0 (K:bi) (x:bn):Option ac:=match mf K mainGlobals x with
 |some (some (.ref f))=>(match K.lookup f with
  |some ⟨_,_,.func fd,_⟩=>(match fd.code with
   | .ref c=>(match K.lookup c with
    |some ⟨_,_,.fields vs,_⟩=>(match vs[11]? with|some (li p)=>some p|_=>none)
    |_=>none)
   |_=>none)
  |_=>none)
 |_=>none
abbrev TabOf (mg:bn->Option al) (h:ge) (y:bn) (p:ac):Prop:=∃f o fd c,mg y=some (.ref f)/\h.get? f=some o/\o.data=.func fd/\fd.code=.ref c/\sB h c p
theorem wO {K:bi} {mg:bn->Option al} {h:ge} {y:bn} {p q:ac} (X:K.In h) (G:h.Ns mainGlobals mg) (t:TabOf mg h y p) (e:u0 K y=some q):p=q :=by
 obtain ⟨f,o,fd,c,e1,e2,e3,e4,oc,vs,_,_,_,_,_,_,_,g1,_,g3,g4,_⟩:=t
 unfold u0 at e
 split at e
 ·rename_i f' dz
  have:=(Gc X G dz).symm.trans e1
  cases this
  split at e
  ·rename_i MA VB Gf PR MH
   have:=(X _ _ MH).symm.trans e2
   cases this
   cases e3
   rw [e4] at e
   dsimp only at e
   split at e
   ·rename_i a1 a2 v8 a3 Ut
    have:=(X _ _ Ut).symm.trans g1
    cases this
    cases g3
    rw [g4] at e
    cases e
    rfl
   ·cases e
  ·cases e
 ·cases e
def sQ (K:bi) (gs ls:List bn):Bool:=gs.all fun x=>ls.all fun y=>match u0 K x,u0 K y with|some p,some q=>decide (p≠q)|_,_=>false
theorem y8 {α β:Type} {F:α->β->Prop} {l:List α} {m:List β} (h:EN F l m) {b:β} (hb:b∈m):∃a∈l,F a b :=by
 induction h with
 |nil=>simp at hb
 |cons x t ih=>
  rcases kw.mp hb with e|e
  ·subst e;exact ⟨_,l9,x⟩
  ·obtain ⟨a,ha,q⟩:=ih e
   exact ⟨a,im _ ha,q⟩
theorem Fc {K:bi} {mg:bn->Option al} {h:ge} {gs ls:List bn} {tabs lts:List ac} (X:K.In h) (G:h.Ns mainGlobals mg) (d:sQ K gs ls=true) (t1:EN (TabOf mg h) gs tabs) (t2:EN (TabOf mg h) ls lts):∀p∈tabs,p ∉ lts:=fun p hp hq=>by
 obtain ⟨x,hx,tx⟩:=y8 t1 hp
 obtain ⟨y,hy,ty⟩:=y8 t2 hq
 have:=u4.mp (u4.mp d x hx) y hy
 split at this
 ·rename_i p' q' e1 e2
  have a:=wO X G tx e1
  have b:=wO X G ty e2
  exact (of_decide_eq_true this) (a.symm.trans b)
 ·cases this
theorem Fd {l:XG} {n k:Nat} {q:ff} {loose:List bn} {XP:(bn->Option al)->ge->Prop} {YP:ii->ge->Prop} {d:DefRec} {K:XS->bi} {CX:gK} {sp:bi->List ac->List ac->Sp} {x:bn} {mY CY:List bn}
  (hn:l.most=some n) (GV:n<=sizeLine) (BA:d.params.defaults=[]) (hr:bB k callerA) (CV:∀w:ii,W3 (K w.params)=true)
  (GW:∀y∈mY++CY,∃r∈recsOf q,r.name=y) (pf:∀w:ii,sQ (K w.params) mY CY=true)
  (hY:∀(w:ii) (h:ge),YP w h->(K w.params).In h)
  (F:∀(w:ii) (mg:bn->Option al) (fa:ac) (h:ge) (tabs lts:List ac),(K w.params).In h->h.Ns mainGlobals mg->mg d.name=some (.ref fa)->
   EN (TabOf mg h) mY tabs->EN (TabOf mg h) CY lts->
   ∃fd:l5,(∀(s:ba) (u:al),Xr s fd ⟨[u],[]⟩ [(x,u)]) /\
    ∀base:ge,(K w.params).In base->base.Ns mainGlobals mg->(∃bm ob,Wa base mainGlobals mg bm ob)->(∀c p,sB h c p->sB base c p)->FnOk l.prog w (K w.params) mg base CX k fa fd [x] (sp (K w.params) tabs lts))
  (kz:∀(K:bi) (tabs lts:List ac) (H:Hp) (a:ac) (ns:List Int),lts.length=CY.length->ns.length<=n->(∀p∈tabs,Tb p H)->(∀p∈lts,H p=some (.lam #[]))->bF K H a (ns.map V.int)->sp K tabs lts [.ref a] H (fun v H'=>v=.bl true/\∀p∈lts,∃ps,H' p=some (.lam ps)) fun _ _ _=>False)
  (MF:∀(H:Hp) (s:ba) (e:al) (s':ba),CX [] H s (fun _ _ _=>False) e s'->False) :
  PySem.W.WalkO q loose XP YP l.row.toRowW d [] (fun f vs=>XM f vs) :=by
 refine P2.xN hn BA fun w s₀ aw mg mb fa o pm cd doc a vs ns G Y ho hd dR BC Ee hints hlen hg=>?_
 have KX:=hY w _ Y
 have tb:∀mY:List bn,(∀y∈mY,∃r∈recsOf q,r.name=y)->∃tabs,EN (TabOf mg aw.heap) mY tabs/\∀p∈tabs,aw.heap.get? p=some (OF #[])/\isCodeTable aw.heap p :=by
  intro mY
  induction mY with
  |nil=>intro _;exact ⟨[],.nil,fun p hp=>absurd hp (by simp)⟩
  |cons y r ih=>
   intro hm
   obtain ⟨tabs,h1,h2⟩:=ih fun z hz=>hm z (im _ hz)
   obtain ⟨rr,Uu,e⟩:=hm y l9
   obtain ⟨f,o',fd,c,p,a1,a2,a3,a4,a5,a6⟩:=G.T.tab rr Uu
   rw [e] at a1
   refine ⟨p::tabs,.cons ⟨f,o',fd,c,a1,a2,a3,a4,.of a5 a6⟩ h1,fun z hz=>?_⟩
   rcases kw.mp hz with rfl|hz
   ·exact ⟨a6.2,a6.isCodeTable⟩
   ·exact h2 z hz
 obtain ⟨tabs,t1,t2⟩:=tb mY fun y hy=>GW y (BS _ hy)
 obtain ⟨lts,u1,u2⟩:=tb CY fun y hy=>GW y (i1 _ hy)
 obtain ⟨fd,hb,hF⟩:=F w mg fa _ tabs lts KX G.T.g BC t1 u1
 exact CU (lts:=lts) KX G.T.g G.T.b G.T.builtins G.T.nolimit hg Ee hints (wv hlen GV) hr (fun p hp=>(AL.mp hp).elim (t2 p) (u2 p)) (Fc KX G.T.g (pf w) t1 u1) (CV w) (PySem.W.bmod_of_top G.T) hF hb (fun H hO hL hS=>kz _ tabs lts H a ns (UF u1).symm hlen hO hL hS) fun H e s'=>MF H aw e s'
abbrev nY (K:bi) (x:bn) (st:r6) (dv:al):Prop:=
 ∃(f:ac) (oc:al) (od:Option ac) (sl:Array (Option al)) (T:ac) (oT:i4) (nT:Nat) (kV dc pm:al) (an:Option ac) (cd ct:al),
  mf K mainGlobals x=some (some (.ref f))/\K.lookup f=some ⟨oc,od,.func (zn x x (cT st) (bK st) (aj st) (.ref T) kV dc pm an cd ct),sl⟩/\IS K cd x=true/\Co K (.ref f)=true/\K.lookup T=some oT/\oT.data=.seq #[dv] nT
theorem CZ {K:bi} {x:bn} {st:r6} {dv:al} {f:ac} {oc:al} {od:Option ac} {sl:Array (Option al)} {T:ac} {oT:i4} {nT:Nat} {kV dc pm:al} {an:Option ac} {cd ct:al} (a:mf K mainGlobals x=some (some (.ref f)))
  (l:K.lookup f=some ⟨oc,od,.func (zn x x (cT st) (bK st) (aj st) (.ref T) kV dc pm an cd ct),sl⟩) (c:IS K cd x=true) (k:Co K (.ref f)=true) (t:K.lookup T=some oT) (u:oT.data=.seq #[dv] nT):nY K x st dv:=⟨f,oc,od,sl,T,oT,nT,kV,dc,pm,an,cd,ct,a,l,c,k,t,u⟩
theorem nY.df {K:bi} {mg:bn->Option al} {h:ge} {x:bn} {st:r6} {dv:al} (d:nY K x st dv) (X:K.In h) (G:h.Ns mainGlobals mg) (ps:List bn)
  (hb:∀(T:ac) (kV doc pm:al) (an:Option ac) (cJ ct:al) (us:List al),us.length+1=ps.length->∃k,bindArgs (zn x x (cT st) (bK st) (aj st) (.ref T) kV doc pm an cJ ct) ⟨us,[]⟩=seqItems? (.ref T)>>=k/\k (some #[dv])=pure (ps.zip (us++[dv])))
  (Gj:∀(T:ac) (kV doc pm:al) (an:Option ac) (cJ ct:al) (us:List al),us.length=ps.length->∃k,bindArgs (zn x x (cT st) (bK st) (aj st) (.ref T) kV doc pm an cJ ct) ⟨us,[]⟩=seqItems? (.ref T)>>=k/\k (some #[dv])=pure (ps.zip us)) :
  ∃f fd,GQ K mg x st ps [dv] f fd :=by
 obtain ⟨f,oc,od,sl,T,oT,nT,kV,dc,pm,an,cd,ct,a,l,c,k,t,u⟩:=d
 refine ⟨f,_,⟨oc,od,.ref T,kV,dc,pm,an,cd,ct,sl,rfl,l,c⟩,k,fun s us hK hl=>?_,fun s us hK hl=>?_,Gc X G a⟩
 ·obtain ⟨kk,h1,h2⟩:=hb T kV dc pm an cd ct us (by rw [ul] at hl;exact hl)
  exact PySem.W.binds_K hK rfl t u h1 h2
 ·rw [Fa] at hl ⊢
  obtain ⟨kk,h1,h2⟩:=Gj T kV dc pm an cd ct us hl
  exact PySem.W.binds_K hK rfl t u h1 h2
theorem Fe {K:bi} {tabs lts:List ac} {qs:List bn} {H:Hp} {a:ac} {ns:List Int} (hl:lts.length=qs.length) (hn:ns.length<=63) (hT:∀p∈tabs,Tb p H) (hL:∀p∈lts,H p=some (.lam #[])) (hS:bF K H a (ns.map V.int)) :
  spLaw K ⟨tabs,lts.zip qs⟩ [.ref a] H (fun v H'=>v=.bl true/\∀p∈lts,∃ps,H' p=some (.lam ps)) fun _ _ _=>False:=
 ⟨a,ns,rfl,hS,hn,hT,fun p hp=>⟨#[],hL p.1 (PP hp).1,trivial,fun pos cv e=>nomatch e⟩,fun H' h=>⟨rfl,fun p hp=>by
  obtain ⟨i,hi⟩:=l6.mp hp
  have h1:=(br.mp hi).1
  exact h (p,qs[i]) (gc (i:=i) (AC.mpr ⟨hi,ag (by omega)⟩))⟩⟩
theorem C1 {K:bi} {x:bn} {st:r6} {i:Int} {tk:W9} {f:ac} {oc:al} {od:Option ac} {sl:Array (Option al)} {T:ac} {oT:i4} {nT:Nat} {kV dc pm:al} {an:Option ac} {cd ct:al} (a:mf K mainGlobals x=some (some (.ref f)))
  (l:K.lookup f=some ⟨oc,od,.func (zn x x (cT st) (bK st) (aj st) (.ref T) kV dc pm an cd ct),sl⟩) (c:IS K cd x=true) (k:Co K (.ref f)=true) (t:K.lookup T=some oT) (u:oT.data=.seq #[.int i tk] nT):∃tk,nY K x st (.int i tk):=⟨tk,CZ a l c k t u⟩
structure nZ (h:ge) (d:ac) (es:Array VW) (ep:Nat):Prop where
 ex:∃o,h.get? d=some o/\o.cls=.type "dict" /\ o.data=.dict es ep
abbrev uo (d:ac) (i n ep:Nat):i4:={cls:=.type "dict_keyiterator",dict:=none,data:=.fields #[.ref d,.int i 0,.int n 0,.int ep 0],slots:=#[]}
theorem C2 (d:ac):¬ ((li d==BN)=true):=fun z=>nomatch (show false=true from z)
section
variable {prog:ff} {w:ii} {A:ma} {E:al->ba->Prop} {s:ba} {d it:ac} {es:Array VW} {ep i:Nat}
theorem C3 {Q:al->ba->Prop} (lo:(d==sysModules)=false) (r:nZ s.heap d es ep) (q:Q (.ref s.heap.objs.size) {s with heap:=s.heap.push (uo d 0 es.size ep)}) :
  wpAny (model prog w) A (pyIter (.ref d)) Q E s :=by
 obtain ⟨o,g,c,dt⟩:=r
 have ty:s.TypeIs (.ref d) "dict" := ⟨o,g,c⟩
 refine Xi ty PySem.F.slot_dict_iter (xz PySem.F.slot_dict_iter ty PySem.F.entry_dict_iter ?_ (PySem.F.args_dict_iter_1 _))
 unfold u7.«dict.__iter__» u7.Dict.dictSlotNone
 refine ap (ap (wpAny_notOrdered_dict ty ?_))
 refine (show wpAny _ _ (pure (li d)) _ _ s from bv ?_)
 refine (show wpAny _ _ (u7.Dict.showsAll d>>=_) _ _ s from ?_)
 unfold u7.Dict.showsAll;rw [if_neg (by rw [lo];decide)]
 refine ap (bv (ap (Xk g dt (ap (XH g dt ?_)))))
 refine ap (wP (bv ⟨_,rfl,"dict_keyiterator",_,⟨_,f8 _ rfl,rfl⟩,Cn.lookup,?_⟩))
 simpa [rawInt,uo] using q
theorem C4 {Q:Option al->ba->Prop} (gi:s.heap.get? it=some (uo d i es.size ep)) (r:nZ s.heap d es ep) (hi:i<es.size)
  (q:∀h',h'.get? it=some (uo d (i+1) es.size ep)->wS it s.heap h'->Q (some es[i].key) {s with heap:=h'}):wpAny (model prog w) A (pyNext (.ref it)) Q E s :=by
 obtain ⟨o,g,c,dt⟩:=r
 have ty:s.TypeIs (.ref it) "dict_keyiterator" := ⟨_,gi,rfl⟩
 unfold pyNext
 refine ap (ID (xw (name:=r9 "__next__") ty Cn (xz Cn ty PySem.F.entry_dict_keyiterator_next ?_ (PySem.F.args_dict_keyiterator_next_1 _))))
 refine ap (bv (ap (ap ?_)))
 refine ap (LP ty (bv (ap (TD gi rfl ?_))))
 simp only [show u7.Dict_items.ownsTuple "dict_keyiterator" = false by decide,lw,if_false]
 refine (show wpAny _ _ (if (li d==BN)=true then _ else _) _ _ s from ?_)
 rw [if_neg (C2 d)]
 refine ap (bv (ap (Xk g dt ?_)))
 rw [if_neg (by simp)]
 refine ap (bv (ap (XH g dt ?_)))
 rw [if_neg (by simp)]
 refine bv ?_
 simp only [show ¬ ((i:Int)<0) by omega,if_false,ut,Fk hi]
 refine ap (ap (LP ty (bv (ap (wpAny_isOneOf_keyiter ty ?_)))))
 refine (show wpAny _ _ (setField (.ref it) 1 (rawInt ((i:Int)+1))>>=_) _ _ s from ap (KB gi (by simp) fun h1 e1 b1=>?_))
 have e1:h1.get? it=some (uo d (i+1) es.size ep) :=by
  rw [e1];simp [uo,rawInt]
 refine ap (AT (ap (wpAny_isOneOf_keyiter (s:={s with heap:=h1}) ⟨_,e1,rfl⟩ ?_)))
 exact (show wpAny _ _ (pure es[i].key) _ _ _ from bv (bv ⟨_,rfl,bv (q _ e1 b1)⟩))
theorem Ff {Q:Option al->ba->Prop} (hh:A.handled=none) (gi:s.heap.get? it=some (uo d i es.size ep)) (r:nZ s.heap d es ep) (hi:es.size<=i)
  (q:∀h',WV it s.heap h'->Q none {s with heap:=h'}):wpAny (model prog w) A (pyNext (.ref it)) Q E s :=by
 obtain ⟨o,g,c,dt⟩:=r
 have ty:s.TypeIs (.ref it) "dict_keyiterator" := ⟨_,gi,rfl⟩
 unfold pyNext
 refine ap (ID (xw (name:=r9 "__next__") ty Cn (xz Cn ty PySem.F.entry_dict_keyiterator_next ?_ (PySem.F.args_dict_keyiterator_next_1 _))))
 refine ap (bv (ap (ap ?_)))
 refine ap (LP ty (bv (ap (TD gi rfl ?_))))
 simp only [show u7.Dict_items.ownsTuple "dict_keyiterator" = false by decide,lw,if_false]
 refine (show wpAny _ _ (if (li d==BN)=true then _ else _) _ _ s from ?_)
 rw [if_neg (C2 d)]
 refine ap (bv (ap (Xk g dt ?_)))
 rw [if_neg (by simp)]
 refine ap (bv (ap (XH g dt ?_)))
 rw [if_neg (by simp)]
 refine bv ?_
 simp only [show ¬ ((i:Int)<0) by omega,if_false,ut,We hi]
 refine ap (ap (LP ty (bv ?_)))
 refine (show wpAny _ _ (setField (.ref it) 0 .none>>=_) _ _ s from ap (KB gi (by simp) fun h1 e1 b1=>?_))
 refine (show wpAny _ _ (newExc (.type "StopIteration") []>>=_) _ _ _ from ap ?_)
 simp only [newExc,newTuple]
 refine ap (wP (ap (m:=firstArgMember _ _) (Wd (a:=BN) (by first|rfl|(simp only [firstArgMember];rfl)) (wP ?_ (by size_fits)))) (by size_fits))
 simp only [raiseNew]
 refine ap (wpAny_handled ?_)
 rw [show A.in1.handled=none from hh]
 refine ap (bv (wpAny_throw ?_))
 refine ap (Wn (T := "StopIteration") (b:=true) ⟨_,f8 _ rfl,rfl⟩ isSubtype_stop (bv (q _ ?_)))
 exact (b1.extBut.push _).push _
end
def GX (es:Array VW) (ps:List (V×V)):Prop:=es.size=ps.length/\∀(i:Nat) (p:V×V),ps[i]?=some p->∃hi:i<es.size,RelV p.1 es[i].key/\RelV p.2 es[i].val
inductive As (H:Hp):HO->List (V×V)->Prop where
 |k (ao:List (Key×V)):As H (.dK ao) (ao.map fun kv=>(kV kv.1,kv.2))
 |t (ao:List (List Key×V)) (bs:List ac) (hl:bs.length=ao.length) (h:∀(i:Nat) (b:ac) (kv:List Key×V),bs[i]?=some b->ao[i]?=some kv->H b=some (.tup (kv.1.map kV))):As H (.dT ao) ((bs.map V.ref).zip (ao.map (·.2)))
theorem Fg {P:ff} {w:ii} {k:Key} {u:al} (h:(bJ P w).is k u=true):RelV (kV k) u :=by
 rcases cf (k:=k) (v:=u) h with ⟨i,t,rfl,rfl⟩|⟨x,t,rfl,rfl⟩
 ·exact ⟨t,rfl⟩
 ·exact ⟨t,rfl⟩
theorem kY {α β:Type} {F:α->β->Prop}:∀{l:List α} {m:List β} {i:Nat} {a:α},EN F l m->l[i]?=some a->∃b,m[i]?=some b/\F a b
 |_,_,_,_,.nil,h=>by simp at h
 |_,_,0,_,.cons x _,h=>by simp at h;subst h;exact ⟨_,rfl,x⟩
 |_,_,i+1,_,.cons _ t,h=>by obtain ⟨b,e,q⟩:=kY (i:=i) t (by simpa using h);exact ⟨b,by simpa using e,q⟩
section
variable {P:ff} {w:ii} {H:Hp} {h:ge} {a:ac} {u:HO}
structure Rows (H:Hp) (h:ge) (a:ac) (u:HO) (o:i4) (es:Array VW) (ep:Nat) (ps:List (V×V)):Prop where
 obj:h.get? a=some o
 cls:o.cls=.type "dict"
 dict:o.dict=none
 data:o.data=.dict es ep
 lo:(a==sysModules)=false
 rel:GX es ps
 ps:As H u ps
theorem Iv (ok:cH P w H h) (e:Rd H a u) (hu:jW u=true):∃o es ep ps,Rows H h a u o es ep ps :=by
 have q:=e.ok ok
 cases u with
 |dK ao=>
  obtain ⟨z,lo,vs,rel,o,es,ep,g,x,dt,hk,hp,hn⟩:=q
  refine ⟨o,es,ep,_,g,x.1,x.2.1,dt,lo,⟨?_,fun i p hi=>?_⟩,.k ao⟩
  ·have h1:=hp.length
   have h2:=rel.length
   simp only [c8,uu] at h1 ⊢
   omega
  ·rw [ce,lc] at hi
   obtain ⟨kv,uq,rfl⟩:=hi
   obtain ⟨⟨k',v'⟩,hv,e1,e2⟩:=kY rel uq
   have hl:i<es.size :=by
    have h1:=hp.length
    have h2:=(br.mp hv).1
    simp only [uu] at h1
    omega
   obtain ⟨a1,a2⟩:=hp.get? (e:=es[i]) (by simp [hl]) hv
   refine ⟨hl,?_,?_⟩
   ·rw [e1];exact Fg a1
   ·rw [a2];exact e2
 |dT ao=>
  obtain ⟨z,lo,xs,rel,o,es,ep,g,x,dt,he,hn⟩:=q
  have Uv:ao.length=xs.length:=UF rel
  have Uw:es.size=xs.length :=by
   have:=congrArg List.length he
   simpa using this
  refine ⟨o,es,ep,_,g,x.1,x.2.1,dt,lo,⟨?_,fun i p hi=>?_⟩,.t ao (xs.map (·.2.1)) (by rw [c8];exact Uv.symm) fun i b kv hb uq=>?_⟩
  ·simp only [VS,c8];omega
  ·rw [AC,xL,ce,ce,lc,lc] at hi
   obtain ⟨⟨x1,wQ,e1⟩,⟨kv,uq,e2⟩⟩:=hi
   obtain ⟨x2,wR,_,_,r⟩:=kY rel uq
   rw [wQ] at wR
   cases wR
   have hl:i<es.size :=by rw [Uw];exact (br.mp wQ).1
   have Qx:es[i]=entryOfKey (tupleKind (bJ P w)) x1 :=by
    have:es.toList[i]?=some (entryOfKey (tupleKind (bJ P w)) x1) :=by rw [he,ce,wQ];rfl
    rw [SZ,Fk hl] at this
    exact ij this
   refine ⟨hl,?_,?_⟩
   ·rw [Qx,<- e1];rfl
   ·rw [Qx,<- e2];exact r
  ·rw [ce,lc] at hb
   obtain ⟨x1,wQ,rfl⟩:=hb
   obtain ⟨x2,wR,e1,e2,_⟩:=kY rel uq
   rw [wQ] at wR
   cases wR
   exact e2
 |_=>cases hu
end
inductive iw (a:ac) (o:i4) (u:HO) (H:Hp):Hp->Prop where
 |now (e:H a=some u) (hu:jW u=true):iw a o u H (upd H a (.bL o u))
 |was (e:H a=some (.bL o u)):iw a o u H H
theorem iw.at {a:ac} {o:i4} {u:HO} {H H2:Hp} (f:iw a o u H H2):H2 a=some (.bL o u) :=by
 cases f with
 |now e hu=>exact ay
 |was e=>exact e
section
variable {X:Cx} {pins:List (ac×i4)} {σ:St} {H:Hp} {s:ba} {a:ac} {o:i4} {u:HO}
theorem Inv.bL (I:Inv X pins σ H s) (e:H a=some u) (hu:jW u=true) (ho:s.heap.get? a=some o):Inv X pins σ (upd H a (.bL o u)) s :=by
 have nT:∀b v,H b=some v->jW v=false->b≠a:=fun b v q n z=>by rw [z,e] at q;cases q;rw [hu] at n;cases n
 have n0:∀b,H b=none->b≠a:=fun b q z=>by rw [z,e] at q;cases q
 have J:=I.un (t':=s.toks) (h':=s.heap) (H':=upd H a (.bL o u)) ⟨fun b v q n _ _=>q,fun b v q n _ _=>⟨v.slots,q⟩,fun b v q n _=>by rw [af (n0 b n)];exact n,fun b v q _=>⟨v,q⟩,fun b xs q=>by rw [af (nT b _ q rfl)];exact q,
  fun b v xs q=>by rw [af (nT b _ q rfl)];exact q,fun b qs q=>⟨#[],by rw [af (nT b _ q rfl),q];simp⟩⟩ fun b v q=>?_
 ·exact J
 ·by_cases hb:b=a
  ·subst hb
   rw [ay] at q;cases q
   exact ⟨ho,(I.hok b u e).bU (fun _ _ _ z=>z) (fun c z=>by rw [af (nT c _ z rfl)];exact z) fun c xs z=>by rw [af (nT c _ z rfl)];exact z⟩
  ·rw [af hb] at q
   exact (I.hok b v q).bU (fun _ _ _ z=>z) (fun c z=>by rw [af (nT c _ z rfl)];exact z) fun c xs z=>by rw [af (nT c _ z rfl)];exact z
theorem Inv.Iw (I:Inv X pins σ H s) (d:Rd H a u) (hu:jW u=true):∃o H2 es ep ps,iw a o u H H2/\Inv X pins σ H2 s/\Rows H s.heap a u o es ep ps :=by
 obtain ⟨o,es,ep,ps,R⟩:=Iv I.hok d hu
 rcases d with d|⟨o',d⟩
 ·exact ⟨o,_,es,ep,ps,.now d hu,I.bL d hu R.obj,R⟩
 ·have e:=(I.hok a _ d).1
  rw [R.obj] at e
  cases e
  exact ⟨o,H,es,ep,ps,.was d,I,R⟩
end
def MI (a:ac) (o:i4) (u:HO) (ks:List V):It:=⟨fun i H=>H a=some (.bL o u)/\i<ks.length,fun i H x H'=>H'=H/\ks[i]?=some x,fun i H=>H a=some (.bL o u)/\ks.length<=i⟩
section
variable {P:ff} {w:ii} {K:bi} {a it:ac} {o:i4} {u:HO} {es:Array VW} {ep:Nat} {ps:List (V×V)}
theorem C5 {tg:dL} (rN:o.cls=.type "dict") (Qy:o.data=.dict es ep) (rel:GX es ps) (dE:a≠it):Turn P w K tg (MI a o u (ps.map (·.1))) [it] it (fun i h=>h.get? it=some (uo a i es.size ep)) where
 mem :=by simp
 obj:=fun i h st b hb=>by
  have e:b=it :=by simpa using hb
  subst e
  exact ⟨_,st,fun v z=>nomatch z⟩
 keep:=fun i h h' st k=>k it (by simp) _ st
 item :=by
  intro X hP hw hK hc i pins s σ H E I hf st hg
  subst hP hw hK
  obtain ⟨ha,hi⟩:=hg
  rw [c8] at hi
  have hr:nZ s.heap a es ep:=⟨o,(I.hok a _ ha).1,rN,Qy⟩
  obtain ⟨p,hp⟩:∃p,ps[i]?=some p:=⟨_,ag hi⟩
  obtain ⟨ig,r1,_⟩:=rel.2 i p hp
  obtain ⟨f0,f1,f2,f3,f4,f5⟩:=hf it (by simp)
  refine C4 st hr ig fun h' m9 sb=>?_
  have I1:Inv X pins σ H {s with heap:=h'}:=I.turned (t':=s.toks) (fun b o hb e=>(sb.2 b hb).trans e) f0 f1 f3 f4 f5
  exact ⟨_,rfl,uT (s:={s with heap:=h'}) m9 rfl rfl (by decide) ⟨p.1,H,I1,r1,⟨rfl,by rw [ce,hp];rfl⟩,m9,fun b hb=>(hf b hb).1⟩⟩
 done :=by
  intro X hP hw hK hc i pins s σ H E I hf st hg
  subst hP hw hK
  obtain ⟨ha,hi⟩:=hg
  rw [c8] at hi
  have hr:nZ s.heap a es ep:=⟨o,(I.hok a _ ha).1,rN,Qy⟩
  obtain ⟨f0,f1,f2,f3,f4,f5⟩:=hf it (by simp)
  exact Ff (I.ok.hd hc) st hr (by rw [rel.1];exact hi) fun h' eb=>⟨rfl,I.turned (t':=s.toks) (fun b o hb e=>eb b o hb e) f0 f1 f3 f4 f5⟩
 self:=fun _ i _ _ _ st h=>wpAny_pyIter_keyiter (d:=a) (i:=i) (n:=es.size) (ep:=ep) ⟨_,st,rfl,rfl⟩ h
end
end L2
namespace L2
open PySem PySem.Spec PySem.W PyProof.Rows
theorem Fh:fillsNumberSlot (.type "tuple") "mul" = pure false:=
 PySem.fillsNumberSlot_seq (r:=some (.builtin "tuple.__rmul__")) Xy.lookup (by decide +kernel) F.slot_tuple_rmul.lookup (by decide +kernel)
theorem O4:seqRepeat? (.type "tuple")=pure (some (.builtin "tuple.__mul__")) :=by
 unfold seqRepeat?
 rw [PySem.seqSlot_of (T := "tuple") (name := "__mul__") (id := "tuple.__mul__") Xy.lookup (by decide +kernel),PySem.seqSlot_of (T := "tuple") (name := "__rmul__") (id := "tuple.__rmul__") F.slot_tuple_rmul.lookup (by decide +kernel)]
 rfl
theorem O5 (a:Int) (t:W9) (l:ac) (items:Array al) (n:Nat) (sl:Array (Option al)) :
  Meets (u7.«int.__rmul__» ⟨[.int a t,.ref l],[]⟩) (fun _ R s=>s.heap.get? l=some {cls:=.type "tuple",dict:=none,data:=.seq items n,slots:=sl}/\R (.ok (.ret al.notImplemented)) s):=
 .of_wp fun prog w A R s h=>by obtain ⟨hp,g,d,tk,os⟩:=s;obtain ⟨hl,h⟩:=h;wp_walk;exact ⟨_,rfl,h⟩
theorem ur (its:List al) (m:Nat):Xo (fun x1 x2=>x1++x2) #[] (io m its.toArray)=(io m its).flatten.toArray :=by
 have:=foldl_rep its m []
 rw [GS] at this
 exact this
theorem Sb (l:ac) (its:List al) (n:Nat) (sl:Array (Option al)) (x:Int) (u:W9) (h1:2<=x) (h2:x<1000) (dE:its≠[]) (hz:its.length * x.toNat<=10000) :
  Meets (u7.«tuple.__mul__» ⟨[.ref l,.int x u],[]⟩) (fun _ R s=>s.heap.get? l=some {cls:=.type "tuple",dict:=none,data:=.seq its.toArray n,slots:=sl} /\
   R (.ok (.ret (li s.heap.objs.size))) {s with heap:=s.heap.push {cls:=AM "tuple",data:=Data.seq (io x.toNat its).flatten.toArray},toks:=s.toks}):=
 .of_wp fun prog w A R s h=>by
  obtain ⟨hp,g,d,tk,os⟩:=s;obtain ⟨hl,h⟩:=h
  have f1:=PySem.AutoSeq1.idx_int
  have hs:its.toArray.size=its.length :=by simp
  have GV:its.toArray.isEmpty=false :=by cases its with|nil=>exact absurd rfl dE|cons a b=>rfl
  have e:((its.length * x.toNat:Nat):Int)=(its.toArray.size:Int) * x :=by rw [hs,XI,Int.toNat_of_nonneg (by omega)]
  have c0:¬ (decide (x < -(2 ^ 63)) || decide (x ≥ 2 ^ 63))=true :=by simp;omega
  have c1:¬ (its.toArray.isEmpty || x==1)=true :=by rw [GV];simp;omega
  have c2:¬ (decide (x<=0) || its.toArray.isEmpty)=true :=by rw [GV];simp;omega
  have c3:¬ (its.toArray.size:Int) * x > (2 ^ 63 - 1) / 8 :=by rw [<- e];omega
  have c4:¬ u7.Tuple.tupleTooMany ((its.toArray.size:Int) * x)=true :=by rw [<- e];unfold u7.Tuple.tupleTooMany;simp only [decide_eq_true_eq,show sizeLine=16777216 from rfl];omega
  have c5:¬ (Xo (fun x1 x2=>x1++x2) #[] (io x.toNat its.toArray)).size > sizeLine :=by
   rw [ur,db,len_rep,Nat.mul_comm,show sizeLine=16777216 from rfl];omega
  wp_walk using Db hl
  rw [if_neg c0]
  wp_walk using Db hl
  rw [if_neg c1]
  wp_walk using Db hl
  rw [if_neg c2]
  wp_walk using Db hl
  rw [if_neg c3]
  wp_walk using Db hl
  rw [if_neg c4]
  wp_walk using Db hl
  rw [ur]
  exact ⟨_,rfl,h⟩
section
variable {X:Cx} {Γ:Gz} {K:bi}
def O6:R2:=fun x y H Q=>∃l k xs,x=.ref l/\y=.int k/\H l=some (.tup xs)/\xs≠[]/\2<=k/\k<1000/\xs.length * k.toNat<=10000/\∀p,H p=none->Q (.ref p) (upd H p (.tup (io k.toNat xs).flatten))
theorem Iy:OpR X (binaryOp .Mult) O6 :=by
 intro pins s σ H x y v u Q I rx ry h
 obtain ⟨l,k,xs,rfl,rfl,hH,dE,h1,h2,hz,q⟩:=h
 cases rx
 obtain ⟨t,rfl⟩:=ry
 obtain ⟨z,its,r,o,e,c,n,d,hd⟩:=I.hok l _ hH
 obtain ⟨oc,od,Vb,iN⟩:=o
 simp only at c d hd
 subst c d hd
 have hl:=r.length
 refine wpAny_binaryOp_repeat_ref (T := "tuple") (U := "int") (by decide) ⟨_,e,rfl⟩ (fun s'=>Xn s' k t) Fh F.fills_int_mul WB O4 F.slot_int_index.lookup
  (V5 WB (Xn s k t) F.entry_int_rmul (F.args_int_rmul_2 _ _) (O5 k t l its.toArray n iN)
   ⟨e,rfl,⟨_,e,rfl⟩,V5 Xy ⟨_,e,rfl⟩ F.entry_tuple_mul (F.args_tuple_mul_2 _ _) (Sb l its n iN k t h1 h2 (fun w=>dE (r.HC.mp w)) (by rw [<- hl];exact hz)) ⟨e,?_⟩⟩)
 refine ⟨.ref s.heap.objs.size,_,I.laid (t':=s.toks) (o:=.tup (io k.toNat xs).flatten) (fun b ob q=>cb _ q) (cr _) ?_,rfl,q _ (I.hok.fresh (cr _))⟩
 exact ⟨by rw [len_rep,Nat.mul_comm,show sizeLine=16777216 from rfl];omega,_,r.rep k.toNat,jG.new _ _⟩
def zRepT:dX:=fun d e M Q=>match d,e with | .tup ds,.int k=>(ds≠[]/\2<=k/\k<1000/\ds.length * k.toNat<=10000)/\Q (.tup (io k.toNat ds).flatten) M|_,_=>False
theorem aG.rep {β:Bz} {M:Mh} {H:Hp} {vs:List V} {ds:List Dv} (r:aG β M H vs ds):∀k:Nat,aG β M H (io k vs).flatten (io k ds).flatten
 |0=>⟨rfl,fun i v d h=>by simp at h⟩
 |k+1=>by rw [wT,wT,GE,GE];exact r.append (aG.rep r k)
theorem MJ:eu Γ X (binaryOp .Mult) zRepT:=⟨_,Iy,fun β x y d e M H Q Q' _ _ _ m rx ry z q=>by
 unfold zRepT at z
 split at z
 ·rename_i ds k
  obtain ⟨a,vs,rfl,f,ha,rs⟩:=cw rx
  obtain ⟨⟨z0,z1,z2,z3⟩,z4⟩:=z
  refine ⟨a,_,vs,rfl,aL ry,ha,fun w=>z0 (by have:=rs.len;rw [w] at this;exact LM this.symm),z1,z2,by rw [rs.len];exact z3,fun p hp=>?_⟩
  have x2:=Ex.lay m hp (.tup (io k.toNat vs).flatten)
  exact q _ _ _ _ x2 (jX (m.fz hp) ay ((rs.rep _).ex x2)) z4
 ·exact z.elim⟩
open Classical in
end
end L2
namespace L2
open PySem PySem.Spec PyProof.Rows
section
variable {X:Cx} {tg l:dL} {tl:TE}
def O7 (tl:TE):TI:=fun σ H R=>tl σ H fun x H1=>∃a u,x=.ref a/\jW u=true/\Rd H1 a u/\∀o H2 ps,iw a o u H1 H2->As H1 u ps->R (MI a o u (ps.map (·.1))) H2
theorem Iz (hl:PE X l tl):PI X tg l (O7 tl) :=by
 intro pins s σ H R I h
 refine thn (hl pins s σ H _ I h) fun v s1 ⟨x,H1,I1,r1,q1⟩=>?_
 obtain ⟨a,u,e,hu,hr,q⟩:=q1
 subst e
 cases r1
 obtain ⟨o,H2,es,ep,ps,f,I2,rw⟩:=I1.Iw hr hu
 have dE:a≠s1.heap.objs.size:=jp (hX rw.obj)
 refine C3 rw.lo ⟨o,rw.obj,rw.cls,rw.data⟩ ?_
 refine ⟨s1.heap.objs.size,[s1.heap.objs.size],_,_,H2,rfl,I2.kept (t':=s1.toks) fun b o e=>cb _ e,C5 rw.cls rw.data rw.rel dE,f8 _ rfl,fun b hb=>?_,q o H2 ps f rw.ps⟩
 have e:b=s1.heap.objs.size :=by simpa using hb
 subst e
 exact I2.lX (cr _) (I2.hok.fresh (cr _))
end
theorem Ex.bL {β:Bz} {M:Mh} {H H2:Hp} {a:ac} {o:i4} {u:HO} (m:Mz β M H) (f:iw a o u H H2) (fz:Fz β M a):Ex β M H M H2 :=by
 cases f with
 |was e=>exact .refl m
 |now e hu=>
  have y:Ey M H M (upd H a (.bL o u)):=⟨fun b v hm hb=>by
   by_cases z:b=a
   ·subst z
    rw [e] at hb
    cases hb
    exact .inr ⟨_,.inr (.inr ⟨hu,_,rfl⟩),ay⟩
   ·exact .inl (by rw [af z];exact hb),fun _ h=>h,fun _ _ h _=>h⟩
  have nd:∀b v,H b=some v->jW v=false->b≠a:=fun b v q n z=>by rw [z,e] at q;cases q;rw [hu] at n;cases n
  refine ⟨y,⟨fun b v hb=>?_,fun p hp=>?_,fun b hb=>?_,m.apart,fun p hp=>?_⟩⟩
  ·have y9:b≠a:=fun z=>by rw [z,fz.1] at hb;cases hb
   have q:=m.obj b v hb
   cases v with
   |dm=>
    obtain ⟨c,k,e2,r⟩:=q
    exact ⟨c,k,by rw [af y9];exact e2,r⟩
   |lst ds=>
    obtain ⟨us,e2,ru⟩:=q
    exact ⟨us,by rw [af y9];exact e2,ru.len,fun i w d p q=>(ru.at' i w d p q).ey y⟩
   |dk ks ds=>
    obtain ⟨us,e2,hk,ru⟩:=q
    exact ⟨us,by rw [af y9];exact e2,hk,ru.len,fun i w d p q=>(ru.at' i w d p q).ey y⟩
   |dt ks ds=>
    obtain ⟨us,e2,hk,ru⟩:=q
    exact ⟨us,by rw [af y9];exact e2,hk,ru.len,fun i w d p q=>(ru.at' i w d p q).ey y⟩
  ·obtain ⟨ps,e2,t⟩:=m.tabs p hp
   exact ⟨ps,by rw [af (nd _ _ e2 rfl)];exact e2,t⟩
  ·obtain ⟨v,e2,n⟩:=m.hids b hb
   have y9:b≠a:=fun z=>fz.2 (by rw [<- z];exact hb)
   exact ⟨v,by rw [af y9];exact e2,n⟩
  ·exact (m.lams p hp).keep (fun ps e2=>by rw [af (nd _ _ e2 rfl)];exact e2) fun c oc v e2=>by rw [af (nd _ _ e2 rfl)];exact e2
def sR:Key->Dv
 | .inl i=>.int i
 | .inr z=>.str z
def ziKeys (p:aM):fU:=fun ρ M R=>p ρ M fun d M1=>match d with | .dk ks _=>R (ks.map sR) M1 | .dt ks _=>R (ks.map fun k=>.tup (k.map sR)) M1|_=>False
section
variable {X:Cx} {Γ:Gz} {β:Bz} {M:Mh} {H:Hp} {tg l:dL} {p:aM}
theorem MK (k:Key):Rz β M H (kV k) (sR k) :=by
 cases k with
 |inl i=>exact .int i
 |inr z=>exact .str z
theorem wU (ks:List Key):aG β M H (ks.map kV) (ks.map sR):=⟨by simp,fun i v d a b=>by
 rw [ce] at a b
 cases e:ks[i]? with
 |none=>rw [e] at a;cases a
 |some k=>rw [e] at a b;cases a;cases b;exact MK k⟩
theorem uv {a:ac} {o:i4} {u:HO} {vs:List V} (h:H a=some (.bL o u)):Runs (MI a o u vs) vs H:=fun i=>⟨fun hi=>⟨⟨h,hi⟩,fun v H' q=>q⟩,fun hi=>⟨h,hi⟩⟩
theorem oQ {α γ:Type}:∀{ks:List α} {vs:List γ},ks.length=vs.length->(ks.zip vs).map (·.1)=ks
 | [],[],_=>rfl
 |k::ks,v::vs,h=>by rw [RI,v6,oQ (by simpa using h)]
theorem IA (hl:QE Γ X l p):QI Γ X tg l (ziKeys p):=(Iz hl).imp fun σ H R ⟨β,ρ,M,R',zr,h,q⟩=>⟨β,ρ,M,_,zr,h,fun d M1 v H1 x1 r1 h1=>by
 revert h1
 split
 ·intro h1
  rename_i ks ds
  cases r1 with
  | @dk a _ vs _ f e hk hl hh=>
   refine ⟨a,.dK (ks.zip vs),rfl,rfl,e,fun o H2 ps g ML=>?_⟩
   have x2:=Ex.bL x1.mz g f
   cases ML
   refine q _ _ _ _ (x1.trans x2) (ir (vs:=ks.map kV) (wU ks) fun M' H' x=>?_) h1
   have e2:((ks.zip vs).map fun kv=>(kV kv.1,kv.2)).map (·.1)=ks.map kV :=by
    rw [xL]
    show (ks.zip vs).map (kV ∘ Prod.fst)=_
    rw [<- xL,oQ hk]
   rw [e2]
   exact uv (x.get f.1 g.at rfl)
 ·intro h1
  rename_i ks ds
  cases r1 with
  | @dt a _ vs _ f e hk hl hh=>
   refine ⟨a,.dT (ks.zip vs),rfl,rfl,e,fun o H2 ps g ML=>?_⟩
   have x2:=Ex.bL x1.mz g f
   cases ML with
   |t _ bs hb qT=>
    have hz:(ks.zip vs).length=ks.length :=by rw [VS,<- hk,NE]
    have e2:((bs.map V.ref).zip ((ks.zip vs).map (·.2))).map (·.1)=bs.map V.ref:=oQ (by rw [c8,c8];exact hb)
    rw [e2]
    refine q _ _ _ _ (x1.trans x2) (ir (vs:=bs.map V.ref) ⟨by rw [c8,c8,hb,hz],fun i v d ha hd=>?_⟩ fun M' H' x=>uv (x.get f.1 g.at rfl)) h1
    rw [ce,lc] at ha hd
    obtain ⟨b,Qc,rfl⟩:=ha
    obtain ⟨k,Qz,rfl⟩:=hd
    have j9:i<(ks.zip vs).length :=by rw [hz];exact (br.mp Qz).1
    have uq:=ag j9
    have ht:=qT i b _ Qc uq
    have ek:((ks.zip vs)[i]).1=k :=by
     have:((ks.zip vs).map (·.1))[i]?=some ((ks.zip vs)[i]).1 :=by rw [ce,uq];rfl
     rw [oQ hk,Qz] at this
     exact (ij this).symm
    rw [ek] at ht
    have fb:Fz β M1 b:=⟨x1.mz.lF ht rfl,fun z=>by
     obtain ⟨w,hw,n⟩:=x1.mz.hids b z
     rw [ht] at hw
     cases hw
     cases n⟩
    have r0:Rz β M1 H1 (.ref b) (.tup (k.map sR)):=jX fb ht (wU k)
    exact r0.ex x2
 ·exact fun h=>h.elim⟩
end
theorem ka {g:cR} {te:aM} (J:List Dv->aB->Mh->Prop):∀{ds acc:List Dv} {τ:aB} {M:Mh} {Q:List Dv->Mh->Prop},J acc τ M->
  (∀i d i5 τ M,ds[i]?=some d->i5.length=acc.length+i->J i5 τ M->∀R:aB->ZK,(∀y aD M2,J (i5++[y]) aD M2->R aD y M2)->g d τ M fun aD M2=>te aD M2 (R aD))->
  (∀ys τ M,ys.length=ds.length->J (acc++ys) τ M->Q ys M)->fX g zNoIf te ds τ M Q
 | [],acc,τ,M,Q,j,_,q=>q [] τ M rfl (by rw [Fa];exact j)
 |d::ds,acc,τ,M,Q,j,h,q=>by
          refine h 0 d acc τ M rfl rfl j (fun aD y M4=>fX g zNoIf te ds aD M4 fun ys M5=>Q (y::ys) M5) fun y aD M2 j2=>?_
          refine ka J (acc:=acc++[y]) j2 (fun i d' i5 cj M' e1 e2 j' R hR=>?_) fun ys pA M3 e3 j3=>?_
          ·exact h (i+1) d' i5 cj M' e1 (by rw [e2,ul];simp;omega) j' R hR
          ·exact q (y::ys) pA M3 (by simp [e3]) (by rw [LG] at j3;exact j3)
section
variable {X:Cx} {Γ:Gz} {tg elt iter:dL} {ifs:List dL} {scope:u8} {pos:wn} {N':List bn} {tn:Nat} {idx:List Nat}
theorem wV {zi:fU} {g:cR} {tt:cU} {te:aM} {i:Nat} {y:bn} {py gV:wn} (hN:X.N.Nodup) (dA:X.N[i]?=some y) (hy:X.env.scope.names.lookup y=some .local) (hc:X.calm=true) (B:dq X.N X.env.scope scope N' tn idx) (hi:QI Γ X tg iter zi)
  (hg:iu X N' scope fun Y=>QG Γ Y tg g) (ht:iu X N' scope fun Y=>rG Γ Y ifs tt) (he:iu X N' scope fun Y=>QE Γ Y elt te)
  (qP:swapsWith (.ListComp elt [⟨tg,iter,ifs,0⟩] scope pos) (some (.Name y py)) gV.line X.env=pure true :=by rfl)
  (hs:∀x,foldedSetIterable iter X.env x=pure x :=by intro _;rfl):QS Γ X (.Assign [.Name y py] (.ListComp elt [⟨tg,iter,ifs,0⟩] scope pos) gV) (zAsg (zCompP tn idx zi g tt te) (zgName i)):=(xZ hN dA hy hc B hi hg ht he qP hs).imp fun D σ H h=>uY (fun _ _ _ h=>sG h) h
end
theorem GY {a1 r:bV} {D:gh} {ρ:aB} {M:Mh} (I:aB->Mh->Prop) (h1:∀N:aB->Mh->Prop,(∀ρ M,I ρ M->N ρ M)->a1 {D with nx:=N} ρ M) (h2:∀ρ M,I ρ M->r D ρ M):(zSeq a1 r) D ρ M:=h1 _ h2
theorem O8 {a1 a2 r:bV} {D:gh} {ρ:aB} {M:Mh} (I:aB->Mh->Prop) (h1:∀N:aB->Mh->Prop,(∀ρ M,I ρ M->N ρ M)->(zSeq a1 a2) {D with nx:=N} ρ M) (h2:∀ρ M,I ρ M->r D ρ M):(zSeq a1 (zSeq a2 r)) D ρ M:=h1 _ h2
theorem O9 {a1 a2 a3 r:bV} {D:gh} {ρ:aB} {M:Mh} (I:aB->Mh->Prop) (h1:∀N:aB->Mh->Prop,(∀ρ M,I ρ M->N ρ M)->(zSeq a1 (zSeq a2 a3)) {D with nx:=N} ρ M) (h2:∀ρ M,I ρ M->r D ρ M):(zSeq a1 (zSeq a2 (zSeq a3 r))) D ρ M:=h1 _ h2
theorem Pa {a1 a2 a3 a4 r:bV} {D:gh} {ρ:aB} {M:Mh} (I:aB->Mh->Prop) (h1:∀N:aB->Mh->Prop,(∀ρ M,I ρ M->N ρ M)->(zSeq a1 (zSeq a2 (zSeq a3 a4))) {D with nx:=N} ρ M) (h2:∀ρ M,I ρ M->r D ρ M):(zSeq a1 (zSeq a2 (zSeq a3 (zSeq a4 r)))) D ρ M:=h1 _ h2
theorem Pb {a1 a2 a3 a4 a5 r:bV} {D:gh} {ρ:aB} {M:Mh} (I:aB->Mh->Prop) (h1:∀N:aB->Mh->Prop,(∀ρ M,I ρ M->N ρ M)->(zSeq a1 (zSeq a2 (zSeq a3 (zSeq a4 a5)))) {D with nx:=N} ρ M) (h2:∀ρ M,I ρ M->r D ρ M):(zSeq a1 (zSeq a2 (zSeq a3 (zSeq a4 (zSeq a5 r))))) D ρ M:=h1 _ h2
section
variable {β:Bz} {M M':Mh} {H H':Hp} {a:ac} {o o' o2 pC:Mo}
theorem Rz.dom (hd:∀a,(M a).isSome=(M' a).isSome) {v:V} {d:Dv} (r:Rz β M H v d):Rz β M' H v d:=
 r.oK (M0:=M') (fun a h=>by rw [hd a];exact h) (r.pin.mono fun a h=>by rw [<- hd a];exact h)
theorem iR.dom (hd:∀a,(M a).isSome=(M' a).isSome) (h:iR β M H a o):iR β M' H a o :=by
 cases o with
 |lst ds=>obtain ⟨vs,h1,rs⟩:=h;exact ⟨vs,h1,rs.len,fun i v d x y=>(rs.at' i v d x y).dom hd⟩
 |dm=>exact h
 |dk ks ds=>obtain ⟨vs,h1,h2,rs⟩:=h;exact ⟨vs,h1,h2,rs.len,fun i v d x y=>(rs.at' i v d x y).dom hd⟩
 |dt ks ds=>obtain ⟨vs,h1,h2,rs⟩:=h;exact ⟨vs,h1,h2,rs.len,fun i v d x y=>(rs.at' i v d x y).dom hd⟩
theorem jw (M:Mh) (a:ac) (o o2:Mo) (b:ac):(aA M a o b).isSome=(aA M a o2 b).isSome :=by
 by_cases e:b=a
 ·subst e;rw [updM_same,updM_same];rfl
 ·rw [ah e,ah e]
theorem kZ {b:ac} (o2:Mo) (h:aA M a o b=none):aA M a o2 b=none :=by
 by_cases e:b=a
 ·subst e;rw [updM_same] at h;cases h
 ·rw [ah e] at h ⊢;exact h
theorem Mz.chg (m:Mz β (aA M a o) H) (h2:iR β (aA M a o2) H a o2):Mz β (aA M a o2) H :=by
 refine ⟨fun b u e=>?_,m.tabs,m.hids,fun b u e=>?_,m.lams⟩
 ·by_cases z:b=a
  ·subst z;rw [updM_same] at e;cases e;exact h2
  ·rw [ah z] at e
   exact iR.dom (jw M a o o2) (m.obj b u (by rw [ah z];exact e))
 ·by_cases z:b=a
  ·subst z;exact m.apart b o updM_same
  ·rw [ah z] at e
   exact m.apart b u (by rw [ah z];exact e)
theorem zb (h:M a=some o):aA M a o=M :=by
 funext b
 by_cases e:b=a
 ·subst e;rw [updM_same,h]
 ·rw [ah e]
theorem Ex.chg (x:Ex β (aA M a o) H (aA M a o') H') (h2:iR β (aA M a pC) H' a pC):Ex β (aA M a o2) H (aA M a pC) H':=
 ⟨⟨fun b u h e=>x.keep b u (kZ o h) e,fun b h=>by rw [jw M a pC o'];exact x.dom b (by rw [jw M a o o2];exact h),fun b u h e=>kZ pC (x.new b u (kZ o h) e)⟩,x.mz.chg h2⟩
theorem Ex.sealed (hn:M a=none) (x:Ex β M H (aA M a o') H') (h2:iR β (aA M a pC) H' a pC):Ex β M H (aA M a pC) H':=
 ⟨⟨x.keep,fun b h=>by rw [jw M a pC o'];exact x.dom b h,fun b u h e=>kZ pC (x.new b u h e)⟩,x.mz.chg h2⟩
theorem C6 {c m:Int} (z:Mz β (aA M a (.lst [.int c,.int m])) H) (hc:0<=c) (hm:0<=m):iR β (aA M a .dm) H a .dm :=by
 obtain ⟨vs,h,rs⟩:=z.obj a _ updM_same
 refine ⟨c,m,?_,hc,hm⟩
 have:=mD (ns:=[c,m]) rs
 rw [h,this]
 rfl
theorem MM (z:Mz β (aA M a .dm) H):∃c m:Int,0<=c/\0<=m/\iR β (aA M a (.lst [.int c,.int m])) H a (.lst [.int c,.int m]) :=by
 obtain ⟨c,m,h,hc,hm⟩:=z.obj a _ updM_same
 exact ⟨c,m,hc,hm,_,h,mE (ns:=[c,m])⟩
end
section
variable {X:Cx} {Γ:Gz} {K:bi}
def zIxS:dX:=fun d e M Q=>match d,e with | .bD ns,.int i=>(match b5 ns i with|some x=>Q (.int x) M|none=>False)|_,_=>False
theorem GZ (hK:X.K=K) (hG:K=Γ.K):LX Γ X zIxS:=⟨_,yH hK,fun β x y d e M H Q Q' _ _ eK m rx ry z q=>by
 unfold zIxS at z
 split at z
 ·rename_i ns i
  split at z
  ·rename_i v hv
   obtain ⟨a,rfl,hS⟩:=ub rx
   rw [eK,<- hG] at hS
   exact .inl ⟨a,_,i,.int v,rfl,aL ry,hS,Il hv,q _ _ _ _ (.refl m) (.int _) z⟩
  ·exact z.elim
 ·exact z.elim⟩
end
def zf (k:Nat):bn:=⟨#[97+k]⟩
theorem sS (k:Nat):(zf k).length=1:=rfl
theorem rQ (a b:bn):(a++b).length=a.length+b.length :=by
 show (a.cps++b.cps).size=a.cps.size+b.cps.size
 exact Xj
section
variable {κ:Type} [DecidableEq κ]
theorem eW:∀(ks U:List κ),ks.Nodup->(∀k∈ks,k∈U)->ks.length<=U.length
 | [],_,_,_=>sw _
 |k::ks,U,nd,h=>by
          have hn:=NJ.mp nd
          have hk:=h k l9
          have ih:=eW ks (U.erase k) hn.2 fun x hx=>(List.mem_erase_of_ne (fun e=>hn.1 (by rw [<- e];exact hx))).mpr (h x (im _ hx))
          rw [List.length_erase_of_mem hk] at ih
          have:=SB hk
          rw [IN]
          omega
def gF (step:κ->Nat->κ) (met:κ) (w:bn) (st:List κ×List bn) (a:Nat):List κ×List bn:=if step met a∈st.1 then st else (st.1++[step met a],st.2++[w++zf a])
def visit (step:κ->Nat->κ) (met:κ) (w:bn) (n:Nat) (st:List κ×List bn):List κ×List bn:=(i0 n).foldl (gF step met w) st
def fj (step:κ->Nat->κ) (n most:Nat):Nat->Nat->List κ×List bn->List κ×List bn
 |0,_,st=>st
 |fuel+1,i,st=>match st.1[i]?,st.2[i]? with
  |some met,some w=>if st.1.length<=most then fj step n most fuel (i+1) (visit step met w n st) else st
  |_,_=>st
structure fk (U:List κ) (st:List κ×List bn):Prop where
 len:st.1.length=st.2.length
 nd:st.1.Nodup
 sub:∀k∈st.1,k∈U
 wl:∀(i:Nat) (w:bn),st.2[i]?=some w->w.length<=i
theorem fk.le {U:List κ} {st:List κ×List bn} (o:fk U st):st.1.length<=U.length:=eW _ _ o.nd o.sub
theorem fM (step:κ->Nat->κ) (met:κ) (w:bn) (n:Nat) (st:List κ×List bn):visit step met w (n+1) st=gF step met w (visit step met w n st) n :=by
 unfold visit
 rw [List.range_succ,Xg]
 rfl
theorem uw (step:κ->Nat->κ) (met:κ) (w:bn) (st:List κ×List bn) (a:Nat):∃ks ws,(gF step met w st a).1=st.1++ks/\(gF step met w st a).2=st.2++ws :=by
 unfold gF
 split
 ·exact ⟨[],[],by simp,by simp⟩
 ·exact ⟨_,_,rfl,rfl⟩
theorem g5 (step:κ->Nat->κ) (met:κ) (w:bn) (n:Nat) (st:List κ×List bn):∃ks ws,(visit step met w n st).1=st.1++ks/\(visit step met w n st).2=st.2++ws :=by
 induction n with
 |zero=>exact ⟨[],[],by simp [visit],by simp [visit]⟩
 |succ n ih=>
  obtain ⟨ks,ws,h1,h2⟩:=ih
  rw [fM]
  obtain ⟨Qs,Ux,h3,h4⟩:=uw step met w (visit step met w n st) n
  exact ⟨ks++Qs,ws++Ux,by rw [h3,h1,LG],by rw [h4,h2,LG]⟩
theorem lN {α:Type} {l m:List α} {i:Nat} {x:α} (h:l[i]?=some x):(l++m)[i]?=some x :=by
 rw [rf (br.mp h).1];exact h
theorem fk.gF {U:List κ} {step:κ->Nat->κ} {st:List κ×List bn} (o:fk U st) {i a:Nat} {met:κ} {w:bn} (hw:st.2[i]?=some w) (hs:step met a∈U):fk U (L2.gF step met w st a) :=by
 unfold L2.gF
 split
 ·exact o
 ·rename_i hn
  refine ⟨by simp [o.len],?_,fun k hk=>?_,fun j v hj=>?_⟩
  ·rw [SL]
   refine ⟨o.nd,by simp,fun x hx y hy e=>?_⟩
   rw [lp] at hy
   subst e
   exact hn (hy▸hx)
  ·rcases AL.mp hk with z|z
   ·exact o.sub k z
   ·rw [lp] at z;rw [z];exact hs
  ·by_cases h:j<st.2.length
   ·rw [rf h] at hj
    exact o.wl j v hj
   ·rw [sK (by omega)] at hj
    have e:j - st.2.length=0 :=by
     have:=(br.mp hj).1
     simp at this;omega
    rw [e] at hj
    cases hj
    have h1:=o.wl i w hw
    have h2:=(br.mp hw).1
    rw [rQ,sS]
    omega
theorem fk.visit {U:List κ} {step:κ->Nat->κ} {st:List κ×List bn} (o:fk U st) {i n:Nat} {met:κ} {w:bn} (hw:st.2[i]?=some w) (hs:∀a,a<n->step met a∈U):fk U (L2.visit step met w n st) :=by
 induction n with
 |zero=>exact o
 |succ n ih=>
  rw [fM]
  obtain ⟨ks,ws,h1,h2⟩:=g5 step met w n st
  exact (ih fun a ha=>hs a (by omega)).gF (i:=i) (by rw [h2];exact lN hw) (hs n (by omega))
def met (step:κ->Nat->κ) (n most N:Nat) (s:κ):List κ×List bn:=fj step n most (N+1) 0 ([s],[""])
theorem n5 {U:List κ} {s:κ} (h:s∈U):fk U ([s],[("" : bn)]):=⟨rfl,by simp,fun k hk=>by rw [lp] at hk;rw [hk];exact h,fun i w e=>by
 cases i with
 |zero=>cases e;exact cr 0
 |succ i=>simp at e⟩
theorem bfs_ok {U:List κ} {step:κ->Nat->κ} {n most:Nat} (hs:∀k∈U,∀a,a<n->step k a∈U):∀(fuel i:Nat) (st:List κ×List bn),fk U st->fk U (fj step n most fuel i st)
 |0,_,st,o=>o
 |fuel+1,i,st,o=>by
          unfold fj
          split
          ·rename_i k w h1 h2
           split
           ·exact bfs_ok hs fuel (i+1) _ (o.visit h2 fun a ha=>hs k (o.sub k (gc h1)) a ha)
           ·exact o
          ·exact o
theorem rR {step:κ->Nat->κ} {n most fuel i:Nat} {st:List κ×List bn} {k:κ} {w:bn} (h1:st.1[i]?=some k) (h2:st.2[i]?=some w) (h3:st.1.length<=most):fj step n most (fuel+1) i st=fj step n most fuel (i+1) (visit step k w n st) :=by
 rw [fj]
 simp only [h1,h2,if_pos h3]
theorem lO:∀{ks:List κ} {ws:List bn} {i:Nat} {k:κ} {w:bn},ks.Nodup->ks[i]?=some k->ws[i]?=some w->look ks ws k=some w
 | [],_,_,_,_,_,h,_=>by simp at h
 |_::_,[],_,_,_,_,_,h=>by simp at h
 |c::ks,v::ws,0,k,w,_,h1,h2=>by
          simp at h1 h2
          unfold look
          rw [if_pos h1,h2]
 |c::ks,v::ws,i+1,k,w,nd,h1,h2=>by
          have hn:=NJ.mp nd
          have h1:ks[i]?=some k :=by simpa using h1
          unfold look
          rw [if_neg (fun e=>hn.1 (by rw [e];exact gc h1))]
          exact lO hn.2 h1 (by simpa using h2)
theorem mL {G0:Type} [DecidableEq G0] {f:κ->G0} (hf:∀a b,f a=f b->a=b) (x:κ):∀(ks:List κ) (ws:List bn),look (ks.map f) (ws.map Dv.str) (f x)=(look ks ws x).map Dv.str
 | [],ws=>by cases ws <;> rfl
 |_::_,[]=>rfl
 |k::ks,w::ws=>by
          rw [v6,v6]
          unfold look
          by_cases e:k=x
          ·rw [if_pos e,if_pos (by rw [e])];rfl
          ·rw [if_neg e,if_neg (fun z=>e (hf _ _ z))]
           exact mL hf x ks ws
theorem IB {α:Type} {ks:List κ} {ds:List α} {k:κ} {d:α} (h:k ∉ ks):putL ks k=ks++[k]/\gD ks ds k d=ds++[d] :=by
 unfold putL gD
 rw [if_neg h,if_neg h]
 exact ⟨rfl,rfl⟩
theorem ya {G0:Type} {f:κ->G0} (hf:∀a b,f a=f b->a=b) {x:κ} {ks:List κ}:f x∈ks.map f ↔ x∈ks :=by
 constructor
 ·intro h
  obtain ⟨y,hy,e⟩:=ss.mp h
  rw [<- hf _ _ e];exact hy
 ·exact fun h=>List.mem_map_of_mem h
theorem ux {ks:List κ} {ws:List bn} (h:ks.length=ws.length) (x:κ):(look ks ws x).isSome=decide (x∈ks) :=by
 cases q:look ks ws x with
 |none=>rw [decide_eq_false ((iU h).mp q)];rfl
 |some w=>
  have:x∈ks:=VR fun z=>by rw [(iU h).mpr z] at q;cases q
  rw [decide_eq_true this];rfl
end
theorem IC {k:Nat} (h:k<3):b5 ("abc" : bn).cps.toList ((k:Nat):Int)=some (97+k) :=by
 have:k=0\/k=1\/k=2 :=by omega
 rcases this with rfl|rfl|rfl <;> decide +kernel
theorem oR (a b:Int) (h:(DO a:Key)=DO b):a=b:=DO.inj h
theorem pV {α:Type} {l:List α} {i:Nat} {x:α} (h:l[i]?=some x):l.drop i=x::l.drop (i+1) :=by
 obtain ⟨hi,e⟩:=br.mp h
 rw [KM hi,e]
section
variable {X:Cx} {Γ:Gz}
def zRepP:dX:=fun d e M Q=>match d,e with | .lst ds,.int k=>(-(2 ^ 63)<=k/\k<2 ^ 63/\ds.length * k.toNat<=sizeLine)/\∀a,M a=none->Q (.ptr a) (aA M a (.lst (io k.toNat ds).flatten))|_,_=>False
theorem C7:eu Γ X (binaryOp .Mult) zRepP:=⟨_,KA,fun β x y d e M H Q Q' _ _ _ m rx ry z q=>by
 unfold zRepP at z
 split at z
 ·rename_i ds k
  obtain ⟨a,vs,rfl,f,ha,rs⟩:=fA rx
  obtain ⟨⟨z1,z2,z3⟩,z4⟩:=z
  refine ⟨a,_,vs,rfl,aL ry,ha,z1,z2,by rw [rs.len];exact z3,fun p hp=>?_⟩
  have x2:=Ex.own m (.inr hp) (rs.rep k.toNat)
  exact q _ _ _ _ x2 (.ptr (by rw [updM_same];rfl)) (z4 p (m.free hp))
 ·exact z.elim⟩
end
def MN (K:bi):List V->Hp->VK->Prop:=fun xs H Q=>∃(p:ac) (ns:List Int),xs=[.ref p]/\bF K H p (ns.map V.int)/\0<ns.length/\∀m:Int,m∈ns->(∀a∈ns,m<=a)->Q (.int m) H
theorem C8 {X:Cx} (hc:X.calm=true):cL X (.builtin "min") (MN X.K) :=by
 intro pins s σ H xs us Q I r h
 obtain ⟨p,ns,rfl,hq,h0,q⟩:=h
 obtain ⟨u,rfl,rx⟩:=vals1 r
 cases rx
 have hh:=I.ok.hd hc
 obtain ⟨its,rv,pl,hz⟩:=I.list hq
 obtain ⟨ys,hy⟩:=(rh rv).allInts.items
 have hl:=pl.isList
 rw [hy] at hl
 have en:ys.toList.map (·.1)=ns :=by
  rw [<- nums_intItems,<- hy]
  exact (rh rv).numsOf
 have hsz:0<ys.size :=by
  rw [<- en,c8,uu] at h0
  exact h0
 refine min_intList hh hl hsz fun v h' tk hv hk=>?_
 obtain ⟨t,rfl⟩:=intItems_at hv
 obtain ⟨h1,h2⟩:=argBest_lt (numAt ys) (ys.size - 1)
 refine ⟨.int _,H,I.kept (t':=tk) hk,⟨t,rfl⟩,q _ ?_ fun a ha=>?_⟩
 ·rw [<- en,numAt_eq];exact getD_mem (by rw [c8,uu];omega)
 ·rw [<- en] at ha
  obtain ⟨j,hj,rfl⟩:=mem_getD ha
  rw [c8,uu] at hj
  rw [<- numAt_eq];exact h2 j (by omega)
theorem Au {X:Cx} {K:bi} (h:X.K=K) (hc:X.calm=true):cL X (.builtin "min") (MN K):=h▸C8 hc
def zMinL (d:Dv) (M:Mh) (Q:ZK):Prop:=match (itemsM M d).bind gq with|some ns=>0<ns.length/\(∀t,d≠.tup t)/\∀m:Int,m∈ns->(∀a∈ns,m<=a)->Q (.int m) M|none=>False
theorem MO {Γ:Gz} {X:Cx} {K:bi} (hK:X.K=K) (hc:X.calm=true):eF Γ X (.builtin "min") (z1 zMinL):=⟨_,Au hK hc,fun β xs ds M H Q Q' _ _ _ m rs z q=>by
 unfold z1 at z
 split at z
 ·rename_i d
  obtain ⟨x,rfl,r⟩:=dh rs
  unfold zMinL at z
  split at z
  ·rename_i ns dz
   obtain ⟨z1,z2,z3⟩:=z
   rw [Option.bind_eq_some_iff] at dz
   obtain ⟨es,he,hi⟩:=dz
   obtain ⟨a,vs,rfl,ha,eA⟩:=j0 m r he
   rw [pS hi] at eA
   rw [mD eA] at ha
   rcases ha with ha|ha
   ·exact ⟨a,ns,rfl,bF.of ha,z1,fun k h1 h2=>q _ _ _ _ (.refl m) (.int _) (z3 k h1 h2)⟩
   ·exfalso
    cases d with
    |tup t=>exact z2 t rfl
    |lst t=>obtain ⟨a',v8,e,f,hv,_⟩:=fA r;cases e;rw [hv] at ha;cases ha
    |ptr p=>
     obtain ⟨e,_⟩:=b7 r
     cases e
     simp only [itemsM] at he
     split at he
     ·rename_i xs hx;obtain ⟨v8,hv,_⟩:=m.obj _ _ hx;rw [hv] at ha;cases ha
     ·cases he
    |_=>cases he
  ·exact z.elim
 ·exact z.elim⟩
end L2
namespace L2
open PySem PySem.Spec PySem.W PyProof.Rows
def rk (R:Nat->Int) (p:Array Nat) (k:Nat):Int:=R (p.getD k 0)
end L2
namespace L2
open PySem PySem.Spec PyProof.Rows
section
variable {X:Cx} {Γ:Gz} {K:bi}
def zSortedP (d:Dv) (M:Mh) (Q:ZK):Prop:=match intsM M d with|some ns=>ns.length<64/\∀a,M a=none->Q (.ptr a) (aA M a (.lst ((sortI ns).map .int)))|none=>False
theorem C9 (hP:X.prog=Γ.P) (hw:X.w=Γ.w) (hK:X.K=K) (hc:X.calm=true):eF Γ X (.builtin "sorted") (z1 zSortedP):=⟨_,mZ hP hw hK hc,fun β xs ds M H Q Q' eP ew _ m rs z q=>by
 unfold z1 at z
 split at z
 ·rename_i d
  obtain ⟨x,rfl,r⟩:=dh rs
  unfold zSortedP at z
  split at z
  ·rename_i ns dz
   have fin:∀l,H l=none->Q (.ref l) (upd H l (.lst ((sortI ns).map V.int))):=fun l hl=>by
    have x2:=Ex.own m (p:=l) (.inr hl) (mE (ns:=sortI ns))
    exact q _ _ _ _ x2 (.ptr (by rw [updM_same];rfl)) (z.2 l (m.free hl))
   unfold intsM at dz
   split at dz
   ·cases dz
    obtain ⟨a,rfl,f,h⟩:=ua r
    rw [eP,ew] at h
    exact ⟨a,_,rfl,.inl h,z.1,fin⟩
   ·obtain ⟨a,rfl,ha⟩:=kU m r dz
    exact ⟨a,_,rfl,.inr (ha.imp bF.of cI.of),z.1,fin⟩
  ·exact z.elim
 ·exact z.elim⟩
end
end L2
namespace PySem.AutoSeq1
theorem ku (l:ac) (items:Array al) (n:Nat) (b:ac) (n6:Array al) (n2:Nat) (dd:Option ac) (sl:Array (Option al)) (VC:¬(!items.isEmpty && Lu (items.size+n6.size))=true) (Uy:items.size<=sizeLine) (yy:items.size+n6.size<=sizeLine+1) :
  Meets (u7.«list.extend» ⟨[.ref l,.ref b],[]⟩) (fun _ R s=>s.heap.get? l=some {cls:=.type "list",dict:=none,data:=.seq items n,slots:=#[]}/\s.heap.get? b=some {cls:=.type "tuple",dict:=dd,data:=.seq n6 n2,slots:=sl}/\R (.ok (.ret BN)) {s with heap:=s.heap.update l (Me fun x=>x++n6),toks:=s.toks}):=
 .of_wp fun prog w A R s h=>by
  obtain ⟨hp,g,d,tk,os⟩:=s;obtain ⟨hl,hb,h⟩:=h;have f1:=idx_int;have f2:=sub_tuple_tuple;have f3:=sub_list_list;have f4:=sub_tuple_list;have f5:=sub_list_tuple;
  have LI:(items++n6).size<=sizeLine+1 :=by rw [Xj];exact yy
  wp_walk using (P3 hl rfl (hz:=Uy) (_hz':=LI)),Db hl,Db hb;exact ⟨_,rfl,h⟩
end PySem.AutoSeq1
namespace L2
open PySem PySem.Spec PyProof.Rows
section
variable {X:Cx} {Γ:Gz} {K:bi}
def Fi:V->List V->Hp->VK->Prop:=fun x vs H Q=>∃l b xs zs,x=.ref l/\vs=[.ref b]/\H l=some (.lst xs)/\H b=some (.tup zs)/\xs.length+zs.length<=sizeLine/\Q .au (upd H l (.lst (xs++zs)))
theorem Av:Kx X "list.extend" Fi :=by
 intro pins s σ H x vs v us Q I rx rv h
 obtain ⟨l,b,xs,zs,rfl,rfl,hH,hB,hz,q⟩:=h
 cases rx
 obtain ⟨u,rfl,ru⟩:=rv.one
 cases ru
 obtain ⟨z,its,n,r,hl,e⟩:=I.nj hH
 obtain ⟨z2,cP,r2,o2,e2,c2,n2,d2,t2⟩:=I.hok b _ hB
 obtain ⟨c0,dd,dt,sl⟩:=o2
 subst c2 d2
 have l1:=r.length
 have l2:=r2.length
 have hsz:its.toArray.size+cP.toArray.size<=sizeLine :=by rw [db,db];omega
 have zJ:¬ (!its.toArray.isEmpty && Lu (its.toArray.size+cP.toArray.size))=true :=by
  rw [vo hsz,WU]
  exact gl
 refine V5 F.slot_list_extend ⟨_,e,rfl⟩ F.entry_list_extend (F.args_list_extend_2 _ _)
  (AutoSeq1.ku l its.toArray n b cP.toArray n2 dd sl zJ (by rw [db];omega) (by omega)) ⟨e,e2,?_⟩
 refine ⟨.au,_,I.sm (its':=its++cP) hH e (by simp) (r.append r2) ?_,rfl,q⟩
 rw [ul]
 omega
def zExtendT:wx:=fun d ds M Q=>match d,ds with | .ptr a,[.tup ys]=>(match M a with|some (.lst xs)=>xs.length+ys.length<=sizeLine/\Q .au (aA M a (.lst (xs++ys)))|_=>False)|_,_=>False
theorem Dc:GH Γ X "list" "list.extend" K zExtendT:=⟨_,Av,fun β x xs d ds M H Q Q' _ _ _ m r rs z q=>by
 unfold zExtendT at z
 split at z
 ·rename_i a ys
  split at z
  ·rename_i es he
   obtain ⟨e,hs⟩:=b7 r
   obtain ⟨v,e2,rv⟩:=dh rs
   subst e e2
   obtain ⟨vs,hv,eA⟩:=m.obj a _ he
   obtain ⟨b,us,rfl,_,hb,QB⟩:=cw rv
   refine ⟨a,b,vs,us,rfl,rfl,hv,hb,by rw [eA.len,QB.len];exact z.1,?_⟩
   exact q _ _ _ _ (Ex.own m (.inl hs) (eA.append QB)) .au z.2
  ·exact z.elim
 ·exact z.elim⟩
end
section
variable {X:Cx} {Γ:Gz}
def zPar (i j:Nat) (za:eh):bV:=fun D ρ M=>za ρ M fun ds M1=>match ds with | [d,e]=>D.nx ((ρ.set i (some d)).set j (some e)) M1|_=>False
theorem Dd {i j:Nat} {x y:bn} {a b:dL} {za:eh} {px py pt pos:wn} {kt k2 vf} (hc:X.calm=true) (hN:X.N.Nodup) (hi:X.N[i]?=some x) (hj:X.N[j]?=some y) (qy:i≠j)
  (hx:X.env.scope.names.lookup x=some .local) (hy:X.env.scope.names.lookup y=some .local) (ha:QA Γ X [a,b] za)
  (hw:swappedStores [.Tuple [.Name x px,.Name y py] kt pt] (.Tuple [a,b] k2 vf) X.env=pure (some [x,y]))
  (hs:swapsWithSole [.Tuple [.Name x px,.Name y py] kt pt] (.Tuple [a,b] k2 vf) pos.line X.env=pure false :=by rfl) :
  QS Γ X (.Assign [.Tuple [.Name x px,.Name y py] kt pt] (.Tuple [a,b] k2 vf) pos) (zPar i j za):=
 (JV hc hN hi hj qy hx hy ha hw hs).imp fun D σ H ⟨β,ρ,M,D',zr,h,r⟩=>⟨β,ρ,M,_,zr,h,fun ds M1 vs H1 x1 rs h1=>by
  revert h1
  split
  ·rename_i d e
   intro h1
   obtain ⟨v,w,rfl,r1,r2⟩:=gP rs
   exact ⟨v,w,rfl,r.nx _ _ _ _ x1.ev (((zr.step x1).set i r1).set j r2) h1⟩
  ·exact fun h=>h.elim⟩
end
end L2
open PySem L2 PyProof.Rows
local macro_rules | `(tactic| simp! only [$xs,*] $[$l]?)=>`(tactic| simp only [zVar,zC,zOp,zII,zIC,zEq,zNe,scalZ,zIsN,isNonD,zSS,zTest,zBool,zChain,zAnd,zOr,zNot,zAndV,zOrV,zNotV,zNil,zCons,zTup,zLst,zLstP,zCB,z1,zLenD,z2I,zAbs,zTuple,zSorted,zSet,intsM,itemsM,zIsInst,isD,zBM,tyZ,zAppend,zPop,zPopAt,zSetI,zgSub,zNext,zSeq,zDrop,zRet,zIfS,zgName,zgNil,zgCons,zgTup,zAsg,zFor,zForM,zComp,zCompP,zTupG,zAll,zBlock,zCall,zTry,zRaise,zIsE,zstart,zEndsOf,ziTup,ziLst,ziRng1,ziRng2,ziEnumK,ziKeys,zIx,zRangeP,zTruth,truD,zNoIf,zInI,zAllB,zGetR,zDIn,lookD,nowK,keyD,zDisp1K,zDisp1T,zDPut,zLenK,zRepT,zIxS,boolsD,zRepP,zMinL,zSortedP,zCallL,zPar,zExtendT,List.getElem?_cons_zero,Go,v6,Tl,GS,Xx,IN,VQ,wT,List.replicate_zero,List.set_cons_zero,List.set_cons_succ,Xw,Nat.reduceAdd,Nat.reduceSub,Pe,Nat.zero_add,if_true,if_false,lw,W7,Bool.not_false,true_and,and_true,beq_self_eq_true,String.reduceBEq,zLoop,c8,GM,updM_same,updM_updM,Fa,LF,ut,rangeD_len,pairsD_len,numD_len,NE,atI_zero,decide_true,decide_false,Bool.not_eq_true,bne_self_eq_false,$xs,*] $[$l]?)
local macro_rules | `(tactic| dsimp! only [$xs,*] $[$l]?)=>`(tactic| simp only [zVar,zC,zOp,zII,zIC,zEq,zNe,scalZ,zIsN,isNonD,zSS,zTest,zBool,zChain,zAnd,zOr,zNot,zAndV,zOrV,zNotV,zNil,zCons,zTup,zLst,zLstP,zCB,z1,zLenD,z2I,zAbs,zTuple,zSorted,zSet,intsM,itemsM,zIsInst,isD,zBM,tyZ,zAppend,zPop,zPopAt,zSetI,zgSub,zNext,zSeq,zDrop,zRet,zIfS,zgName,zgNil,zgCons,zgTup,zAsg,zFor,zForM,zComp,zCompP,zTupG,zAll,zBlock,zCall,zTry,zRaise,zIsE,zstart,zEndsOf,ziTup,ziLst,ziRng1,ziRng2,ziEnumK,ziKeys,zIx,zRangeP,zTruth,truD,zNoIf,zInI,zAllB,zGetR,zDIn,lookD,nowK,keyD,zDisp1K,zDisp1T,zDPut,zLenK,zRepT,zIxS,boolsD,zRepP,zMinL,zSortedP,zCallL,zPar,zExtendT,List.getElem?_cons_zero,Go,v6,Tl,GS,Xx,IN,VQ,wT,List.replicate_zero,List.set_cons_zero,List.set_cons_succ,Xw,Nat.reduceAdd,Nat.reduceSub,Pe,Nat.zero_add,if_true,if_false,lw,W7,Bool.not_false,true_and,and_true,beq_self_eq_true,String.reduceBEq,c8,GM,updM_same,updM_updM,Fa,LF,ut,rangeD_len,pairsD_len,numD_len,NE,atI_zero,decide_true,decide_false,Bool.not_eq_true,bne_self_eq_false,$xs,*] $[$l]?)
namespace My
open PySem L2 PyProof.Rows
def top (i:Nat):r6:=PySem.Challenge.pw_roadcall_k07_beats.main.body.getD i (.Pass ⟨0,0,0,0⟩)
abbrev fN:r6:=top 8
abbrev du:r6:=top 9
abbrev eO:r6:=top 10
abbrev kb:r6:=top 14
abbrev ke:r6:=top 15
abbrev jn:r6:=top 16
abbrev iG:r6:=top 19
abbrev aC:r6:=top 20
abbrev jx:r6:=top 21
abbrev eQ:r6:=top 22
abbrev g6:r6:=top 23
abbrev lQ:r6:=top 25
abbrev jo:r6:=top 27
abbrev eZ:r6:=top 28
abbrev fD:r6:=top 29
abbrev eR:r6:=top 30
abbrev fE:r6:=top 31
abbrev fF:r6:=top 32
abbrev fO:r6:=top 33
abbrev gr:r6:=top 34
abbrev iH:r6:=top 35
abbrev iI:r6:=top 36
abbrev dZ:r6:=top 37
abbrev g7:r6:=top 38
abbrev Aw:r6:=top 39
section
variable {P:ff} {w:ii} {K:bi} {mg:bn->Option al} {base:ge} {tb:cu}
theorem d6:aN ["start","width","step","most","found","queue","met","at","goal"] ["start","width","step","most"] (aj iG):=⟨rfl,rfl,rfl,by decide +kernel,rfl,by decide +kernel,by decide +kernel⟩
def De (cc:List Dv) (step:Int->Nat->Int) (U:List Int) (n:Nat):List Dv->b9:=fun Sd ds M Q _=>Sd=cc/\∃(p:Int) (a:Nat),ds=[.int p,.int ((a:Nat):Int)]/\p∈U/\a<n/\Q (.int (step p a)) M
def n8 (r:List Int×List bn):Dv:=.dk (r.1.map DO) (r.2.map Dv.str)
def zg (P:ff) (w:ii) (K:bi) (mg:bn->Option al) (tb:cu) (base:ge):b9:=fun ds M Q _=>∃(s:Int) (step:Int->Nat->Int) (U:List Int) (n most:Nat) (f:ac) (fd:l5) (o:i4) (c:ac) (oc:i4) (vcs:List V) (cc:List Dv) (ps:List bn),
 ds=[.int s,.int (n:Nat),.bO f o c oc vcs cc,.int (most:Nat)]/\FnOk P w K mg base bf 6 f fd ps (GR P w K tb f o c oc vcs (De cc step U n))/\(∃oc od fd sl,o=⟨oc,od,.func fd,sl⟩)/\Binds K fd ps []/\n<=3/\s∈U/\(∀k∈U,∀a,a<n->step k a∈U)/\U.length<=10000 /\
 Q (n8 (met step n most U.length s)) M
theorem wW {f:ac} {fd:l5} {dv:List al} (D:GQ K mg "first_met" iG ["start","width","step","most"] dv f fd) (bl:Bl mg) {tk:W9} (kf:mg "SIGNS" = some (.str "abc" tk)) :
  FnOk P w K mg base bf 7 f fd ["start","width","step","most"] (aY P w K tb (zg P w K mg tb base)) :=by
 refine OZ D d6 (fun ds M Q E hS=>by obtain ⟨s,step,U,n,most,f,fd,o,c,oc,vcs,cc,ps,e,_⟩:=hS;rw [e];rfl) fun A outer s0 E Γ ds Q' E' hP hw hK ht hr hS=>?_
 obtain ⟨s,step,U,n,most,f,fd,o,c,oc,vcs,cc,ps,e,MP,MQ,MR,hn,hs,hU,hl,q⟩:=hS
 refine ⟨_,(ai (aH (i:=4) d6.nd rfl (mT rfl) (CN (qv 0) lJ))
  (ai (aH (i:=5) d6.nd rfl (mT rfl) (ju (aa (qv 0) ae)))
  (ai (mr qr (QW.pt (Cr (E3 (qv 5)) (yU (bE wo (ax Mp rfl bl.len_ nw (aa (qv 4) ae)) (qv 3) (bR _)))))
   (ai (aH (i:=6) d6.nd rfl (mT rfl) (mF (K:=K) rfl EM PySem.F.slot_list_pop PySem.F.type_list_pop yY (qv 5) (aa av ae)))
  (aq (b8 qr rfl (a7 rfl bl.range_ (aa (qv 1) ae)) (fun gQ eP ew eK et=>by have hP:=hP.trans eP.symm;have hw:=hw.trans ew.symm;have hK:=hK.trans eK.symm;have ht:=ht.trans et.symm;exact ⟨(aJ (i:=7) d6.nd rfl (mT rfl)),(ai (aH (i:=8) d6.nd rfl (mT rfl) (E9 (i:=2) MP MQ (hr.mono (by decide)) rfl (mT rfl) MR bz hP hw hK ht XR.none (aa (qv 6) (aa (qv 7) ae))))
  (aq (cM (bE (E6 hr.units) (qv 8) (qv 4) (by rfl))
   (ai (Ir hr.units (qv 4) (qv 8) (aP CB (y3 hr.units (qv 4) (qv 6) (fun _ _=>rfl)) (aQ (bp (K:=K) rfl) (EY (z := "abc") rfl kf ⟨_,rfl⟩) (qv 7) (fun _ _=>rfl))))
  (aq (iq (mF (K:=K) rfl EM Pf Pi mG (qv 5) (aa (qv 8) ae)))))
   qss_nil)))⟩)))))
  (aq (aT (qv 4)))))),?_⟩
 subst e
 simp! only []
 intro a ha
 refine ⟨by decide,fun qq hq=>?_⟩
 have Dg:qq≠a:=fun z=>by rw [z,updM_same] at hq;cases hq
 have Uz:Γ.M0 qq=none :=by rw [ah Dg] at hq;exact hq
 have big:(10000:Nat)+10<sizeLine :=by decide
 have QC:∀{M:Mh},(∀b,b≠a->b≠qq->M b=Γ.M0 b)->Keeps Γ.M0 M:=fun h b o e=>by
  rw [h b (fun z=>by rw [z,ha] at e;cases e) (fun z=>by rw [z,Uz] at e;cases e)];exact e
 let I:Nat->List Int×List bn->aB->Mh->Prop:=fun i st ρ M=>(∃x6 x7 x8,ρ=[some (.int s),some (.int (n:Nat)),some (.bO f o c oc vcs cc),some (.int (most:Nat)),some (.ptr a),some (.ptr qq),x6,x7,x8])/\M a=some (.dk (st.1.map DO) (st.2.map Dv.str))/\M qq=some (.lst ((st.1.drop i).map Dv.int))/\(∀b,b≠a->b≠qq->M b=Γ.M0 b)/\fk U st/\i<=st.1.length
 refine ⟨fun m ρ M=>∃i st,m=U.length+1 - i/\I i st ρ M/\fj step n most (U.length+1 - i) i st=met step n most U.length s,⟨_,0,([s],[""]),rfl,⟨⟨_,_,_,rfl⟩,by rw [ah (zd Dg),updM_same];rfl,updM_same,fun b h1 h2=>by rw [ah h2,ah h1],n5 hs,sw _⟩,rfl⟩,?_⟩
 rintro m ρ M ⟨i,st,rfl,⟨⟨x6,x7,x8,rfl⟩,lR,UA,nV,ok,hi⟩,hb⟩
 have hle:=ok.le
 have VD:=ok.len
 have fin:∀M',M' a=some (.dk (st.1.map DO) (st.2.map Dv.str))->Keeps Γ.M0 M'->st=met step n most U.length s->i9 Γ.M0 Q' (.ptr a) M':=fun M' h k e=>.inr ⟨k,n8 st,.dk ha h rfl fun j d d' e1 e2=>by
  rw [e1] at e2;cases e2
  obtain ⟨w,_,rfl⟩:=ss.mp (gc e1)
  exact .pin (.str w),by rw [e];exact q⟩
 have MS:U.length+1 - i=(U.length - i)+1 :=by omega
 simp! only [lR,UA]
 refine eB (fun h1=>?_) (fun h1=>?_)
 ·have bj:i<st.1.length :=by
   rcases Nat.lt_or_ge i st.1.length with h|h
   ·exact h
   ·rw [List.drop_eq_nil_of_le h] at h1;cases h1
  obtain ⟨k,hk⟩:∃k,st.1[i]?=some k:=⟨_,ag bj⟩
  obtain ⟨wd,Dh⟩:∃wd,st.2[i]?=some wd:=⟨_,ag (by omega)⟩
  have MT:k∈U:=ok.sub k (gc hk)
  refine eB (fun h2=>?_) (fun h2=>?_)
  ·have Ax:st.1.length<=most :=by simpa using h2
   have Vc:(st.1.drop i).length=st.1.length - i:=Xt
   have zh:seqIndex? 0 (st.1.drop i).length=some 0:=(by unfold seqIndex?;simp;omega)
   have e0:((st.1.drop i).map Dv.int)[0]?=some (.int k) :=by rw [pV hk];rfl
   simp only [zh,e0]
   refine ⟨by decide,by decide,by omega,by omega,?_⟩
   have er:((st.1.drop i).map Dv.int).eraseIdx 0=(st.1.drop (i+1)).map Dv.int :=by rw [pV hk];rfl
   simp only [er]
   refine bo (fun j ρ M=>(∃x7 x8,ρ=[some (.int s),some (.int (n:Nat)),some (.bO f o c oc vcs cc),some (.int (most:Nat)),some (.ptr a),some (.ptr qq),some (.int k),x7,x8])/\M a=some (.dk ((visit step k wd j st).1.map DO) ((visit step k wd j st).2.map Dv.str))/\M qq=some (.lst (((visit step k wd j st).1.drop (i+1)).map Dv.int))/\(∀b,b≠a->b≠qq->M b=Γ.M0 b)/\j<=n)
    ⟨⟨_,_,rfl⟩,by rw [ah (zd Dg)];exact lR,updM_same,fun b h1 h2=>by rw [ah h2];exact nV b h1 h2,sw _⟩ (fun j d ρ M N hd ⟨⟨x7,x8,e1⟩,Di,Dj,G1,gj⟩ hN=>?_) (fun ρ M ⟨⟨x7,x8,e1⟩,Di,Dj,G1,gj⟩=>?_)
   ·subst e1
    obtain ⟨rfl,hj⟩:=a8 hd
    obtain ⟨gk,gw,g1,g2⟩:=g5 step k wd j st
    have G2:=ok.visit (n:=j) (step:=step) (met:=k) Dh fun b hb=>hU k MT b (by omega)
    have VE:=G2.le
    have Se:=G2.len
    have QD:(visit step k wd j st).1[i]?=some k :=by rw [g1];exact lN hk
    have QF:(visit step k wd j st).2[i]?=some wd :=by rw [g2];exact lN Dh
    have MH:=lO G2.nd QD QF
    have F8:=G2.wl i wd QF
    have Vk:i<(visit step k wd j st).1.length:=(br.mp QD).1
    simp! only []
    refine ⟨rfl,k,j,rfl,MT,hj,?_⟩
    simp! only [Di,mL oR,SO,ux Se]
    have nx:∀{bI M'},(∃x7 x8,bI=[some (.int s),some (.int (n:Nat)),some (.bO f o c oc vcs cc),some (.int (most:Nat)),some (.ptr a),some (.ptr qq),some (.int k),x7,x8])->M' a=some (.dk ((visit step k wd (j+1) st).1.map DO) ((visit step k wd (j+1) st).2.map Dv.str))->M' qq=some (.lst (((visit step k wd (j+1) st).1.drop (i+1)).map Dv.int))->(∀b,b≠a->b≠qq->M' b=Γ.M0 b)->N bI M':=fun h1 h2 h3 h4=>hN _ _ ⟨h1,h2,h3,h4,hj⟩
    have vs:=fM step k wd j st
    refine eB (fun hm=>?_) (fun hm=>?_)
    ·have hm:step k j ∉ (visit step k wd j st).1 :=by simpa using hm
     have hv:visit step k wd (j+1) st=((visit step k wd j st).1++[step k j],(visit step k wd j st).2++[wd++zf j]) :=by rw [vs];unfold gF;rw [if_neg hm]
     obtain ⟨p1,p2⟩:=IB (κ:=Key) (k:=DO (step k j)) (d:=Dv.str (wd++zf j)) (ks:=(visit step k wd j st).1.map DO) (ds:=(visit step k wd j st).2.map Dv.str) (fun z=>hm ((ya oR).mp z))
     simp only [MH,LB,IC (show j<3 by omega)]
     refine ⟨by decide,by rw [show (⟨#[97+j]⟩:bn)=zf j from rfl,sS];omega,by omega,?_⟩
     rw [show (⟨#[97+j]⟩:bn)=zf j from rfl,p1,p2]
     simp only [ah Dg,Dj]
     refine ⟨trivial,by simp only [c8,Xt];omega,nx ⟨_,_,rfl⟩ ?_ ?_ fun b h1 h2=>by rw [ah h2,ah h1];exact G1 b h1 h2⟩
     ·rw [ah (zd Dg),updM_same,hv,xy,xy];rfl
     ·rw [updM_same,hv]
      show some (Mo.lst (_++[_]))=_
      rw [List.drop_append_of_le_length (by omega),xy];rfl
    ·have hm:step k j∈(visit step k wd j st).1 :=by simpa using hm
     have hv:visit step k wd (j+1) st=visit step k wd j st :=by rw [vs];unfold gF;rw [if_pos hm]
     exact nx ⟨_,_,rfl⟩ (by rw [hv];exact Di) (by rw [hv];exact Dj) G1
   ·subst e1
    have UB:(bW 0 n).length=n:=rangeD_len 0 n
    rw [UB] at Di Dj gj
    have UC:=ok.visit (n:=n) (step:=step) (met:=k) Dh fun b hb=>hU k MT b hb
    obtain ⟨gk,gw,g1,g2⟩:=g5 step k wd n st
    refine ⟨U.length+1 - (i+1),by omega,i+1,visit step k wd n st,rfl,⟨⟨_,_,_,rfl⟩,Di,Dj,G1,UC,by rw [g1,ul];omega⟩,?_⟩
    rw [<- hb,MS,rR hk Dh Ax]
    rw [show U.length+1 - (i+1)=U.length - i by omega]
  ·refine fin M lR (QC nV) ?_
   have Ax:¬ st.1.length<=most :=by simpa using h2
   rw [<- hb,MS]
   unfold fj
   simp only [hk,Dh,if_neg Ax]
 ·refine fin M lR (QC nV) ?_
  have h:st.1.length<=i :=by
   rcases Nat.lt_or_ge i st.1.length with h|h
   ·rw [pV (ag h)] at h1;cases h1
   ·exact h
  rw [<- hb,MS]
  unfold fj
  have e1:st.1[i]?=none:=JJ h
  simp only [e1]
end
section
def wX (st:r6):dL:=match bK st with | [.Return (some (.Call _ (_::_::l::_) _ _)) _]=>l|_=>.Constant .none 0 ⟨0,0,0,0⟩
def lP (st:r6):MW:=match wX st with | .Lambda p _ _ _=>p|_=>⟨[],[],none,[],[],none,[]⟩
def lB (st:r6):dL:=match wX st with | .Lambda _ b _ _=>b|e=>e
def lS (st:r6):u8:=match wX st with | .Lambda _ _ s _=>s|_=>aj st
variable {P:ff} {w:ii} {K:bi} {mg:bn->Option al} {base:ge} {tb:cu}
theorem sT:aN ["net","start"] ["net","start"] (aj aC):=⟨rfl,rfl,rfl,by decide +kernel,rfl,by decide +kernel,by decide +kernel⟩
def qW:bn:=("first_words" ++ ".<locals>." : bn) ++ "<lambda>"
def ak (net:List (List Int)):List Int:=(i0 net.length).map fun i:Nat=>(i:Int)
def bq (net:List (List Int)) (p:Int) (a:Nat):Int:=(net.getD p.toNat []).getD a 0
theorem aO {net:List (List Int)} {p:Int}:p∈ak net ↔ 0<=p/\p<(net.length:Int) :=by
 unfold ak
 rw [ss]
 constructor
 ·rintro ⟨i,hi,rfl⟩
  have:=ES.mp hi
  omega
 ·rintro ⟨h1,h2⟩
  exact ⟨p.toNat,ES.mpr (by omega),by omega⟩
theorem getD_at {α:Type} {l:List α} {i:Nat} {d:α} (h:i<l.length):l.getD i d=l[i] :=by rw [ci,ag h];rfl
theorem dI {net:List (List Int)} {n:Nat} (o:aS net n) {p:Int} (hp:p∈ak net) {a:Nat} (ha:a<n):bq net p a∈ak net :=by
 obtain ⟨h1,h2⟩:=aO.mp hp
 have bj:p.toNat<net.length :=by omega
 obtain ⟨e1,e2⟩:=o.row net[p.toNat] (rb bj)
 unfold bq
 rw [getD_at bj,getD_at (by omega)]
 exact aO.mpr (e2 _ (rb _))
theorem lU {net:List (List Int)} {p:Int} (hp:p∈ak net):b5 (net.map eI) p=some (eI (net.getD p.toNat [])) :=by
 obtain ⟨h1,h2⟩:=aO.mp hp
 have bj:p.toNat<net.length :=by omega
 have e:p=((p.toNat:Nat):Int) :=by omega
 rw [e]
 refine b6 ?_
 rw [ce,ut,ci,ag bj]
 rfl
theorem MU {net:List (List Int)} {n:Nat} (o:aS net n) {p:Int} (hp:p∈ak net) {a:Nat} (ha:a<n):b5 ((net.getD p.toNat []).map Dv.int) ((a:Nat):Int)=some (.int (bq net p a)) :=by
 obtain ⟨h1,h2⟩:=aO.mp hp
 have bj:p.toNat<net.length :=by omega
 have e1:=(o.row net[p.toNat] (rb bj)).1
 refine b6 ?_
 unfold bq
 rw [ce,getD_at bj,getD_at (by omega),ag (by omega)]
 rfl
theorem rS:mK ["place","at"] ["net"] (lS aC):=⟨rfl,rfl,rfl,by decide +kernel,by decide +kernel,by decide +kernel,by decide +kernel⟩
theorem wY {f c:ac} {fd:l5} {o oc:i4} {aR:List (bn×ac)} {vcs:List V} (L:Aq (lP aC) (lB aC) (lS aC) qW o c oc aR fd) (C:sP base ["net"] aR vcs) (da:vcs.length=1) {net:List (List Int)} {n:Nat} (O:aS net n) :
  FnOk P w K mg base bf 1 f fd ["place","at"] (GR P w K tb f o c oc vcs (De [eN net] (bq net) (ak net) n)) :=by
 refine R1 L rS C da (fun cc ds M Q E hS=>by obtain ⟨_,p,a,e,_⟩:=hS;rw [e];rfl) fun A outer s E Γ cc ds Q' E' hP hw hK ht hr hS=>?_
 obtain ⟨e0,p,a,e,hp,ha,q⟩:=hS
 refine ⟨_,(aQ (bp (K:=K) rfl) (aQ (bp (K:=K) rfl) (qv 2) (qv 0) (fun _ _=>rfl)) (qv 1) (fun _ _=>rfl)),?_⟩
 subst e e0
 simp! only [lU hp,MU O hp ha]
 exact .inl q
theorem oS:∀n,(n,tw)∈(lS aC).names->(aj aC).names.lookup n=some .cell\/(aj aC).names.lookup n=some .free :=by
 have h:∀y∈(lS aC).names,y.2=tw->(aj aC).names.lookup y.1=some .cell :=by decide +kernel
 exact fun n hn=>.inl (h _ hn rfl)
theorem rT:∀(j:Nat) (n:bn),(["net"]:List bn)[j]?=some n->(n,tw)∈(lS aC).names/\(aj aC).names.lookup n=some .cell/\∃i,([0]:List Nat)[j]?=some i/\(["net","start"]:List bn)[i]?=some n:=fun j n h=>by
 cases j with
 |zero=>cases h;exact ⟨by decide +kernel,by decide +kernel,0,rfl,rfl⟩
 |succ j=>simp at h
def cC (net:List (List Int)) (n:Nat) (s:Int):List Int×List bn:=met (bq net) n 511 net.length s
def wZ:b9:=fun ds M Q _=>∃net n s,ds=[eN net,.int s]/\aS net n/\s∈ak net/\Q (n8 (cC net n s)) M
theorem sU {f f1:ac} {fd bT:l5} {m7 aE:ac} {tk0:W9} (D:Df K mg "first_words" aC ["net","start"] f fd) (gu:yG base fd m7 aE) (dM:∃bm ob,Wa base mainGlobals mg bm ob)
  (je:(aE,qW)∈tb.l) (MD:∀q∈tb.l,q.1=aE->q.2=qW) (e8:GQ K mg "first_met" iG ["start","width","step","most"] [.int 511 tk0] f1 bT) (bl:Bl mg) {tk:W9} (kf:mg "SIGNS" = some (.str "abc" tk)) :
  FnOk P w K mg base bf 8 f fd ["net","start"] (aY P w K tb wZ) :=by
 refine eJ D sT (fun ds M Q E hS=>by obtain ⟨net,n,s,e,_⟩:=hS;rw [e];rfl) fun A outer s0 E Γ ds Q' E' hP hw hK ht hr hS=>?_
 obtain ⟨net,n,s,e,O,hs,q⟩:=hS
 have g8:(aE,qW)∈Γ.tb.l:=ht▸je
 have g9:∀q∈Γ.tb.l,q.1=aE->q.2=qW:=ht▸MD
 have yb:∀b',(∀b o,base.get? b=some o->b'.get? b=some o)->FnOk P w K mg b' bf 7 f1 bT ["start","width","step","most"] (aY P w K tb (zg P w K mg tb b')):=fun b' _=>wW e8 bl kf
 have w5:Vals [V.int 511] [WW 511 tk0]:=.cons ⟨_,rfl⟩ .nil
 have w6:∀(β:Bz) (M:Mh) (H:Hp),aG β M H [V.int 511] [Dv.int 511]:=fun _ _ _=>.cons (.int _) .nil
 refine ⟨_,(aq (aT (Ar (idx:=[0]) (fs:=["net"]) gu.code gu.hd dM rfl (oS) (rT) g8 g9 yb (hr.mono (by decide)) (fun _=>rfl) rfl e8.mg e8.kp e8.bd (w5) (w6) bz hP hw hK ht XR.none (qv 1) (ax (bQ (K:=K) rfl hK) rfl bl.len_ nw (aa (aQ (bp (K:=K) rfl) (qv 0) av (fun _ _=>rfl)) ae)) ae))),?_⟩
 subst e
 obtain ⟨h1,h2⟩:=aO.mp hs
 have h0:(0:Int)∈ak net:=aO.mpr ⟨by omega,by omega⟩
 have Dk:(net.getD 0 []).length=n :=by
  have:=O.one
  rw [getD_at (by omega)]
  exact (O.row _ (rb _)).1
 have G3:=O.wid
 simp! only [wN,rP,lU h0,Int.toNat_zero,Dk]
 intro lf o c oc aR vcs lv hO b' hb hC
 obtain ⟨UD,pG,⟨jg,rfl⟩,dP⟩:=hO
 have L:Aq (lP aC) (lB aC) (lS aC) qW (NL "<lambda>" qW (lP aC) (lB aC) (lS aC) aR ((mg "__name__").getD .none) c jg) c oc aR (PySem.W.kla_fn "<lambda>" qW (lP aC) (lB aC) (lS aC) aR ((mg "__name__").getD .none) (.ref c) jg):=⟨pG,⟨_,_,_,rfl,rfl⟩,dP⟩
 refine ⟨s,bq net,ak net,n,511,lf,_,_,c,oc,vcs,[eN net],["place","at"],rfl,(wY L hC lv O).mono (by decide),⟨_,_,_,_,rfl⟩,.all fun us hl=>?_,by omega,hs,fun k hk a ha=>dI O hk ha,?_,.inl ?_⟩
 ·match us,hl with
  | [_,_],_=>rfl
 ·have:=O.nine
  simp only [ak,c8,SC]
  omega
 ·rw [show (ak net).length=net.length by simp [ak]]
  exact q
end
section
variable {P:ff} {w:ii} {K:bi} {mg:bn->Option al} {base:ge} {tb:cu} {k:Nat} {f:ac} {fd:l5} {ps:List bn}
theorem dJ:aN ["_law_script","_law_at","_law_cell","_law_mix","_law_k"] ["_law_script","_law_at"] (aj jo):=⟨rfl,rfl,rfl,by decide +kernel,rfl,by decide +kernel,by decide +kernel⟩
theorem d7:aN ["_law_bag_here","_law_many","_law_digit","_law_number","_law_room"] ["_law_bag_here","_law_many"] (aj eZ):=⟨rfl,rfl,rfl,by decide +kernel,rfl,by decide +kernel,by decide +kernel⟩
theorem gv:aN ["_law_bag_here","_law_many","_law_rest","_law_found","_law_k"] ["_law_bag_here","_law_many"] (aj fD):=⟨rfl,rfl,rfl,by decide +kernel,rfl,by decide +kernel,by decide +kernel⟩
theorem bw:aN ["_law_bag_here","_law_most","_law_many","_law_fans","_law_kind","_law_lap","_law_order_here","_law_rows","_law_k","_law_goals","_law_fan"] ["_law_bag_here","_law_most"] (aj eR):=⟨rfl,rfl,rfl,by decide +kernel,rfl,by decide +kernel,by decide +kernel⟩
def MV:b9:=fun ds M Q _=>∃(ns:List Int) (t:Int),ds=[.bD ns,.int t]/\ns.length<=63/\0<=t/\t<=63/\∀b,M b=none->Q (.ptr b) (aA M b .dm)
def G4:b9:=fun ds M Q _=>∃(ns:List Int) (t:Int),ds=[.bD ns,.int t]/\ns.length<=63/\0<=t/\t<=63/\∀b c m,M b=none->0<=c->0<=m->Q (.ptr b) (aA M b (.lst [.int c,.int m]))
theorem Ay (D:Df K mg "_law_bag" jo ["_law_script","_law_at"] f fd) (bl:Bl mg):FnOk P w K mg base bf 1 f fd ["_law_script","_law_at"] (aY P w K tb G4) :=by
 refine eJ D dJ (fun ds M Q E hS=>by obtain ⟨ns,t,e,_⟩:=hS;rw [e];rfl) fun A outer s E Γ ds Q' E' hP hw hK ht hr hS=>?_
 obtain ⟨ns,t,e,hl,t0,t1,q⟩:=hS
 refine ⟨_,(ai (aH (i:=2) dJ.nd rfl (mT rfl) av)
  (ai (cM (bE wm (qv 1) (ax (bQ (K:=K) rfl hK) rfl bl.len_ nw (aa (qv 0) ae)) (bR _))
   (aq (aH (i:=2) dJ.nd rfl (mT rfl) (ax Ai rfl bl.abs_ vE (aa (aQ (GZ (K:=K) rfl hK) (qv 0) (qv 1) (fun _ _=>rfl)) ae))))
   qss_nil)
  (ai (aH (i:=3) dJ.nd rfl (mT rfl) (aP fL (aP mB av (qv 1)) av))
  (ai (b8 qr rfl (a7 rfl bl.range_ (aa (ax (wu rfl) rfl bl.min_ qU (aa (ax (bQ (K:=K) rfl hK) rfl bl.len_ nw (aa (qv 0) ae)) (aa av ae))) ae)) (fun gQ eP ew eK et=>by have hP:=hP.trans eP.symm;have hw:=hw.trans ew.symm;have hK:=hK.trans eK.symm;have ht:=ht.trans et.symm;exact ⟨(aJ (i:=4) dJ.nd rfl (mT rfl)),(aq (aH (i:=3) dJ.nd rfl (mT rfl) (aP gm (aP fL (aP fL (aP mB (qv 3) av) (aP gm (aQ (GZ (K:=K) rfl hK) (qv 0) (qv 4) (fun _ _=>rfl)) av)) (qv 4)) av)))⟩))
  (ai (cM (bE wm (qv 2) (aP OU av av) (bR _))
   (aq (aH (i:=2) dJ.nd rfl (mT rfl) av))
   qss_nil)
  (aq (aT (ju (aa (qv 2) (aa (qv 3) ae)))))))))),?_⟩
 subst e
 refine Pa (fun ρ M=>M=Γ.M0/\∃c m x:Int,∃x4,0<=c/\0<=m/\ρ=[some (.bD ns),some (.int t),some (.int c),some (.int m),x4]) (fun N hN=>?_) ?_
 ·refine O8 (fun ρ M=>M=Γ.M0/\∃c:Int,0<=c/\ρ=[some (.bD ns),some (.int t),some (.int c),none,none]) (fun N hN=>?_) ?_
  ·simp! only []
   refine eB (fun h=>?_) (fun _=>hN _ _ ⟨rfl,0,by omega,rfl⟩)
   have ht:t<(ns.length:Int):=of_decide_eq_true h
   obtain ⟨k,rfl⟩:=wb t0
   rw [CG (show k<ns.length by omega)]
   exact hN _ _ ⟨rfl,_,by split <;> omega,rfl⟩
  rintro ρ M ⟨rfl,c,hc,rfl⟩
  simp! only []
  refine ⟨.inl ⟨by decide,by decide⟩,by split <;> omega,by split <;> omega,?_⟩
  refine bo (fun i ρ M=>M=Γ.M0/\∃m:Int,∃x4,0<=m/\ρ=[some (.bD ns),some (.int t),some (.int c),some (.int m),x4]) ⟨rfl,_,_,by omega,rfl⟩ (fun i d ρ M N2 hd hJ ik=>?_) (fun ρ M hJ=>?_)
  ·obtain ⟨rfl,m,x4,hm,rfl⟩:=hJ
   obtain ⟨rfl,hi⟩:=a8 hd
   have hi:i<ns.length :=by split at hi <;> omega
   simp! only [CG hi]
   exact ⟨.inr ⟨by decide,by decide⟩,by decide,by decide,ik _ _ ⟨rfl,_,_,VT _ (by decide),rfl⟩⟩
  ·obtain ⟨rfl,m,x4,hm,rfl⟩:=hJ
   exact hN _ _ ⟨rfl,c,m,0,x4,hc,hm,rfl⟩
 ·rintro ρ M ⟨rfl,c,m,x,x4,hc,hm,rfl⟩
  simp! only []
  exact ⟨⟨by decide,by decide,by decide⟩,eB (fun _=>⟨by decide,fun a ha=>.inl (q a 0 m ha (by omega) hm)⟩) (fun _=>⟨by decide,fun a ha=>.inl (q a c m ha hc hm)⟩)⟩
theorem Pg (G:FnOk P w K mg base bf k f fd ps (aY P w K tb G4)):FnOk P w K mg base bf k f fd ps (aY P w K tb MV):=G.imp fun vs H Q E hS=>by
 obtain ⟨β,ds,M,Q',E',eP,ew,eK,et,m,rs,⟨ns,t,e,h1,h2,h3,h⟩,q,qe⟩:=hS
 refine ⟨β,ds,M,fun d M'=>∃b c m,d=.ptr b/\M b=none/\0<=c/\0<=m/\M'=aA M b (.lst [.int c,.int m]),fun _ _=>False,eP,ew,eK,et,m,rs,⟨ns,t,e,h1,h2,h3,fun b c m h4 h5 h6=>⟨b,c,m,rfl,h4,h5,h6,rfl⟩⟩,fun d M' v H' x r hQ=>?_,fun _ _ _ _ h=>h.elim⟩
 obtain ⟨b,c,m',rfl,hb,hc,hm,rfl⟩:=hQ
 have hB:=C6 x.mz hc hm
 exact q _ _ _ _ (Ex.sealed hb x hB) (r.dom (jw M b _ _)) (h b hb)
def u5:b9:=fun ds M Q _=>∃(b:ac) (n:Int),ds=[.ptr b,.int n]/\M b=some .dm/\1<=n/\n<1073741824/\∀d:Nat,(d:Int)<n->Q (.int (d:Nat)) M
def Dl:b9:=fun ds M Q _=>∃(b:ac) (n c m:Int),ds=[.ptr b,.int n]/\M b=some (.lst [.int c,.int m])/\0<=c/\0<=m/\1<=n/\n<1073741824/\∀(d:Nat) (c m:Int),(d:Int)<n->0<=c->0<=m->Q (.int (d:Nat)) (aA M b (.lst [.int c,.int m]))
theorem yc (D:Df K mg "_law_take" eZ ["_law_bag_here","_law_many"] f fd):FnOk P w K mg base bf 1 f fd ["_law_bag_here","_law_many"] (aY P w K tb Dl) :=by
 refine eJ D d7 (fun ds M Q E hS=>by obtain ⟨b,n,c,m,e,_⟩:=hS;rw [e];rfl) fun A outer s E Γ ds Q' E' hP hw hK ht hr hS=>?_
 obtain ⟨b,n,c,m,e,hb,hc,hm,n1,n2,q⟩:=hS
 refine ⟨_,(ai (cM (bE Ah (aQ (bp (K:=K) rfl) (qv 0) av (fun _ _=>rfl)) av (bR _))
   (ai (aH (i:=2) d7.nd rfl (mT rfl) (aP gm (aQ (bp (K:=K) rfl) (qv 0) av (fun _ _=>rfl)) (qv 1)))
  (ai (jZ (aP wk (aQ (bp (K:=K) rfl) (qv 0) av (fun _ _=>rfl)) (qv 1)) (j1 (qv 0) av))
  (aq (aT (qv 2)))))
   qss_nil)
  (ai (aH (i:=3) d7.nd rfl (mT rfl) av)
  (ai (aH (i:=4) d7.nd rfl (mT rfl) av)
  (ai (mr qr (bE wm (qv 4) (qv 1) (bR _))
   (ai (jZ (aP gm (aP fL (aP mB (aQ (bp (K:=K) rfl) (qv 0) av (fun _ _=>rfl)) av) av) av) (j1 (qv 0) av))
  (ai (aH (i:=3) d7.nd rfl (mT rfl) (aP fL (aP mB (qv 3) av) (aP gm (aP mB (aP wk (aQ (bp (K:=K) rfl) (qv 0) av (fun _ _=>rfl)) av) av) av)))
  (aq (aH (i:=4) d7.nd rfl (mT rfl) (aP mB (qv 4) av))))))
  (aq (aT (aP gm (qv 3) (qv 1)))))))),?_⟩
 subst e
 have MX:∀x y:Int,b5 [Dv.int x,Dv.int y] 1=some (.int y):=fun x y=>b6 (j:=1) rfl
 have UE:fu 2 0=some 0:=rfl
 have UG:fu 2 1=some 1:=rfl
 have fin:∀{i c m:Int} {M:Mh},0<=c->0<=m->M=aA Γ.M0 b (.lst [.int c,.int m])->i9 Γ.M0 Q' (.int (i % n)) M:=fun {i c m M} hc hm e=>by
  obtain ⟨d,hd⟩:=wb (VT i (show n≠0 by omega))
  have:=Int.emod_lt_of_pos i (show 0<n by omega)
  rw [hd,e]
  exact .inl (q d c m (by omega) hc hm)
 simp! only [hb,UE]
 refine eB (fun h=>?_) (fun h=>?_)
 ·refine ⟨by omega,⟨by omega,n2⟩,fin (Int.ediv_nonneg hc (by omega)) hm rfl⟩
 ·refine ⟨fun k ρ M=>∃num room c m x2,0<=num/\1<=room/\0<=c/\0<=m/\k=(n - room).toNat/\ρ=[some (.ptr b),some (.int n),x2,some (.int num),some (.int room)]/\M=aA Γ.M0 b (.lst [.int c,.int m]),⟨_,0,1,c,m,_,by omega,by omega,hc,hm,rfl,rfl,(zb hb).symm⟩,?_⟩
  rintro k ρ M ⟨num,room,c,m,x2,h1,h2,hc,hm,rfl,rfl,rfl⟩
  simp! only [MX,UG,updM_same]
  refine eB (fun h=>?_) (fun h=>⟨by omega,fin hc hm rfl⟩)
  have h:=of_decide_eq_true h
  have m3:0<=(m * 48271+7919) % 2147483647:=VT _ (by decide)
  have n3:0<=(m * 48271+7919) % 2147483647 / 8 * 69621 % 1073741789:=VT _ (by decide)
  refine ⟨.inr ⟨by decide,by decide⟩,by decide,.inr ⟨by decide,by decide⟩,⟨by decide,by decide⟩,.inr ⟨by decide,by decide⟩,by decide,.inr ⟨by decide,by decide⟩,_,?_,_,_,c,_,_,?_,?_,hc,m3,rfl,rfl,rfl⟩ <;> omega
theorem MY (G:FnOk P w K mg base bf k f fd ps (aY P w K tb Dl)):FnOk P w K mg base bf k f fd ps (aY P w K tb u5):=G.imp fun vs H Q E hS=>by
 obtain ⟨β,ds,M,Q',E',eP,ew,eK,et,m,rs,⟨b,n,e,hb,h1,h2,h⟩,q,qe⟩:=hS
 have eM:=zb hb
 have d1:∀o a,(M a).isSome=(aA M b o a).isSome:=fun o a=>by have:=jw M b .dm o a;rwa [eM] at this
 rw [<- eM] at m
 obtain ⟨c,m0,hc,hm,hO⟩:=MM m
 refine ⟨β,ds,aA M b (.lst [.int c,.int m0]),fun d M'=>∃(k:Nat) (c' m':Int),d=.int (k:Nat)/\(k:Int)<n/\0<=c'/\0<=m'/\M'=aA M b (.lst [.int c',.int m']),fun _ _=>False,eP,ew,eK,et,m.chg hO,⟨rs.len,fun i v d x y=>(rs.at' i v d x y).dom (d1 _)⟩,⟨b,n,c,m0,e,updM_same,hc,hm,h1,h2,fun d c' m' h3 h4 h5=>⟨d,c',m',rfl,h3,h4,h5,updM_updM⟩⟩,fun d M' v H' x r hQ=>?_,fun _ _ _ _ h=>h.elim⟩
 obtain ⟨k,c',m',rfl,hk,F1,qQ,rfl⟩:=hQ
 have hB:=C6 x.mz F1 qQ
 have x2:=Ex.chg (o2:=.dm) x hB
 rw [eM] at x2
 exact q _ _ _ _ x2 (r.dom fun a=>(d1 _ a).symm) (h k hk)
theorem uy {α β:Type} (f:α->β):∀(l:List α) (i:Nat),(l.map f).eraseIdx i=(l.eraseIdx i).map f
 | [],_=>rfl
 |_::_,0=>rfl
 |a::l,i+1=>by
          show f a::(l.map f).eraseIdx i=f a::(l.eraseIdx i).map f
          rw [uy f l i]
theorem fI {α:Type}:∀(l:List α) (i:Nat) (h:i<l.length),(l[i]::l.eraseIdx i).Perm l
 |a::l,0,_=>.refl _
 |a::l,i+1,h=>by
          have h':i<l.length :=by simpa using h
          show (l[i]::a::l.eraseIdx i).Perm (a::l)
          exact (V1.swap a l[i] _).trans ((fI l i h').cons a)
structure cE (n:Nat) (os:List Int):Prop where
 perm:os.Perm ((i0 n).map fun i:Nat=>(i:Int))
theorem cE.len {n:Nat} {os:List Int} (h:cE n os):os.length=n :=by
 have:=h.perm.length_eq
 simpa using this
theorem cE.mem {n:Nat} {os:List Int} (h:cE n os) {x:Int} (hx:x∈os):0<=x/\x<n :=by
 have:=h.perm.mem_iff.mp hx
 obtain ⟨i,hi,rfl⟩:=ss.mp this
 have:=ES.mp hi
 omega
theorem cE.at {n:Nat} {os:List Int} (h:cE n os) {i:Nat} (hi:i<n):∃x:Int,b5 (os.map Dv.int) (i:Int)=some (.int x)/\0<=x/\x<n :=by
 have hl:i<os.length :=by rw [h.len];exact hi
 exact ⟨os[i],b6 (by rw [ce,ag hl];rfl),h.mem (rb hl)⟩
def w9:b9:=fun ds M Q _=>∃(b:ac) (n:Nat),ds=[.ptr b,.int (n:Nat)]/\M b=some .dm/\n<=100/\∀os,cE n os->Q (jf os) M
def G5:b9:=fun ds M Q _=>∃(b:ac) (most:Nat),ds=[.ptr b,.int (most:Nat)]/\M b=some .dm/\1<=most/\most<=9/\∀net n,aS net n->net.length<=most->Q (eN net) M
theorem IE {n d:Nat} (h:d<n):seqIndex? (d:Int) n=some d:=(si (n:=n) (i:=(d:Int)) (j:=d) (by unfold fu;rw [if_pos (by omega),if_pos (by omega)];rfl)).1
theorem xa {f1:ac} {bT:l5} (D:Df K mg "_law_order" fD ["_law_bag_here","_law_many"] f fd)
  (az:Df K mg "_law_take" eZ ["_law_bag_here","_law_many"] f1 bT) (bX:FnOk P w K mg base bf 1 f1 bT ["_law_bag_here","_law_many"] (aY P w K tb u5)) (bl:Bl mg):FnOk P w K mg base bf 2 f fd ["_law_bag_here","_law_many"] (aY P w K tb w9) :=by
 refine eJ D gv (fun ds M Q E hS=>by obtain ⟨b,n,e,_⟩:=hS;rw [e];rfl) fun A outer s E Γ ds Q' E' hP hw hK ht hr hS=>?_
 obtain ⟨b,n,e,hb,hn,q⟩:=hS
 refine ⟨_,(ai (aH (i:=2) gv.nd rfl (mT rfl) (uJ rfl rfl bl.list_ rfl bl.range_ (qv 1)))
  (ai (aH (i:=3) gv.nd rfl (mT rfl) (ju ae))
  (ai (b8 qr rfl (a7 rfl bl.range_ (aa (qv 1) ae)) (fun gQ eP ew eK et=>by have hP:=hP.trans eP.symm;have hw:=hw.trans ew.symm;have hK:=hK.trans eK.symm;have ht:=ht.trans et.symm;exact ⟨(aJ (i:=4) gv.nd rfl (mT rfl)),(aq (iq (mF (K:=K) rfl EM Pf Pi mG (qv 3) (aa (mF (K:=K) rfl EM PySem.F.slot_list_pop PySem.F.type_list_pop yY (qv 2) (aa (aK bX (hr.mono (by decide)) rfl az.mg az.fn.kp az.bd bz hP hw hK ht XR.none (aa (qv 0) (aa (ax (bQ (K:=K) rfl hK) rfl bl.len_ nw (aa (qv 2) ae)) ae))) ae)) ae))))⟩))
  (aq (aT (qv 3)))))),?_⟩
 subst e
 have big:(1000:Nat)<sizeLine :=by decide
 simp! only []
 refine ⟨by omega,by omega,fun a ha=>⟨by omega,fun c hc=>⟨by omega,by omega,?_⟩⟩⟩
 have G6:c≠a:=fun z=>by rw [z,updM_same] at hc;cases hc
 have rN:Γ.M0 c=none :=by rw [ah G6] at hc;exact hc
 have UH:b≠a:=fun z=>by rw [z,ha] at hb;cases hb
 have UI:b≠c:=fun z=>by rw [z,rN] at hb;cases hb
 refine bo (fun i ρ M=>∃rest got:List Int,(∃x,ρ=[some (.ptr b),some (.int (n:Nat)),some (.ptr a),some (.ptr c),x])/\M a=some (.lst (rest.map .int))/\M c=some (.lst (got.map .int))/\(∀d,d≠a->d≠c->M d=Γ.M0 d)/\got.length=i/\(got++rest).Perm ((i0 n).map fun i:Nat=>(i:Int)))
  ⟨(i0 n).map fun i:Nat=>(i:Int),[],⟨_,rfl⟩,by rw [ah (zd G6),updM_same,ja,xL];rfl,updM_same,fun d h1 h2=>by rw [ah h2,ah h1],rfl,.refl _⟩ (fun i d ρ M N hd hJ hN=>?_) (fun ρ M hJ=>?_)
 ·obtain ⟨rest,got,⟨x,rfl⟩,lR,G7,nV,hg,pm⟩:=hJ
  obtain ⟨rfl,hi⟩:=a8 hd
  have hlen:got.length+rest.length=n :=by have:=pm.length_eq;simpa using this
  simp! only [lR,G7]
  refine ⟨b,_,rfl,(by rw [nV b UH UI];exact hb),by omega,by omega,fun d hd=>?_⟩
  have tZ:d<rest.length :=by omega
  simp only [lR,c8,IE tZ,ce,ag tZ,LB,ah G6,G7]
  refine ⟨by omega,by omega,by omega,hN _ _ ⟨rest.eraseIdx d,got++[rest[d]],⟨_,rfl⟩,by rw [ah (zd G6),updM_same,uy],by rw [updM_same,xy];rfl,fun e h1 h2=>by rw [ah h2,ah h1];exact nV e h1 h2,by simp [hg],?_⟩⟩
  refine V1.trans ?_ pm
  rw [LG]
  exact V1.append_left got (fI rest d tZ)
 ·obtain ⟨rest,got,⟨x,rfl⟩,lR,G7,nV,hg,pm⟩:=hJ
  rw [rangeD_len] at hg
  have hlen:got.length+rest.length=n :=by have:=pm.length_eq;simpa using this
  have Dk:rest=[]:=LM (by omega)
  rw [Dk,Fa] at pm
  exact CI (fun d o e=>by rw [nV d (fun z=>by rw [z,ha] at e;cases e) (fun z=>by rw [z,rN] at e;cases e)];exact e) rN G7 (j4 _) (q got ⟨pm⟩)
end
section
variable {P:ff} {w:ii} {K:bi} {mg:bn->Option al} {base:ge} {tb:cu}
def jq (n ways:Nat) (row:List Int):Prop:=row.length=ways/\∀x∈row,0<=x/\x<(n:Int)
structure fP (M0 M:Mh) (r:ac) (as:List ac) (n ways:Nat):Prop where
 kp:Keeps M0 M
 r0:M0 r=none
 rm:M r=some (.lst (as.map .ptr))
 fr:∀a∈as,M0 a=none/\a≠r
 len:as.length=n
 row:∀a∈as,∃row:List Int,M a=some (.lst (row.map .int))/\jq n ways row
 pin:∀b o,M b=some o->M0 b=some o\/b=r\/(∃row:List Int,o=.lst (row.map .int))\/∃bs:List ac,o=.lst (bs.map .ptr)/\∀c∈bs,c≠r/\∃o,M c=some o
theorem fP.vN {M0 M:Mh} {r:ac} {as:List ac} {n ways:Nat} (h:fP M0 M r as n ways) {a:ac} (ha:a∈as) {row:List Int} (o:jq n ways row):fP M0 (aA M a (.lst (row.map .int))) r as n ways :=by
 obtain ⟨f0,f1⟩:=h.fr a ha
 refine ⟨.upd f0 h.kp,h.r0,by rw [ah (zd f1)];exact h.rm,h.fr,h.len,fun c hc=>?_,fun b u e=>?_⟩
 ·by_cases z:c=a
  ·subst z;exact ⟨row,updM_same,o⟩
  ·rw [ah z];exact h.row c hc
 ·by_cases z:b=a
  ·subst z;rw [updM_same] at e;cases e;exact .inr (.inr (.inl ⟨row,rfl⟩))
  ·rw [ah z] at e
   rcases h.pin b u e with q|q|q|⟨bs,q1,q2⟩
   ·exact .inl q
   ·exact .inr (.inl q)
   ·exact .inr (.inr (.inl q))
   ·refine .inr (.inr (.inr ⟨bs,q1,fun c hc=>⟨(q2 c hc).1,?_⟩⟩))
    by_cases z:c=a
    ·subst z;exact ⟨_,updM_same⟩
    ·rw [ah z];exact (q2 c hc).2
theorem fP.put {M0 M:Mh} {r:ac} {as:List ac} {n ways:Nat} (h:fP M0 M r as n ways) {a:ac} (ha:M a=none) {row:List Int} (o:jq n ways row) {i:Nat} (hi:i<n):fP M0 (aA (aA M a (.lst (row.map .int))) r (.lst ((as.map .ptr).set i (.ptr a)))) r (as.set i a) n ways :=by
 have nr:a≠r:=fun z=>by rw [z,h.rm] at ha;cases ha
 have a0:M0 a=none :=by
  cases e:M0 a with
  |none=>rfl
  |some u=>rw [h.kp a u e] at ha;cases ha
 have UJ:a ∉ as:=fun z=>by obtain ⟨row,e,_⟩:=h.row a z;rw [ha] at e;cases e
 refine ⟨.upd h.r0 (.upd a0 h.kp),h.r0,by rw [updM_same,Xz],fun c hc=>?_,by rw [GM];exact h.len,fun c hc=>?_,fun b u e=>?_⟩
 ·rcases VU hc with z|z
  ·exact h.fr c z
  ·rw [z];exact ⟨a0,nr⟩
 ·rcases VU hc with z|z
  ·have n1:=(h.fr c z).2
   have n2:c≠a:=fun e=>UJ (e▸z)
   rw [ah n1,ah n2];exact h.row c z
  ·rw [z,ah nr,updM_same];exact ⟨row,rfl,o⟩
 ·by_cases z:b=r
  ·exact .inr (.inl z)
  ·rw [ah z] at e
   by_cases z2:b=a
   ·subst z2;rw [updM_same] at e;cases e;exact .inr (.inr (.inl ⟨row,rfl⟩))
   ·rw [ah z2] at e
    rcases h.pin b u e with q|q|q|⟨bs,q1,q2⟩
    ·exact .inl q
    ·exact .inr (.inl q)
    ·exact .inr (.inr (.inl q))
    ·refine .inr (.inr (.inr ⟨bs,q1,fun c hc=>⟨(q2 c hc).1,?_⟩⟩))
     rw [ah (q2 c hc).1]
     by_cases z:c=a
     ·subst z;exact ⟨_,updM_same⟩
     ·rw [ah z];exact (q2 c hc).2
structure pW (M0 M:Mh):Prop where
 kp:Keeps M0 M
 pin:∀b o,M b=some o->M0 b=some o\/(∃row:List Int,o=.lst (row.map .int))\/∃bs:List ac,o=.lst (bs.map .ptr)/\∀c∈bs,∃o,M c=some o
theorem pW.refl {M0:Mh}:pW M0 M0:=⟨.refl,fun b o e=>.inl e⟩
theorem jr {M0 M:Mh} (h:Keeps M0 M) {a:ac} (ha:M a=none):M0 a=none :=by
 cases e:M0 a with
 |none=>rfl
 |some u=>rw [h a u e] at ha;cases ha
theorem pW.row {M0 M:Mh} (h:pW M0 M) {a:ac} (ha:M a=none) (row:List Int):pW M0 (aA M a (.lst (row.map .int))) :=by
 refine ⟨.upd (jr h.kp ha) h.kp,fun b o e=>?_⟩
 by_cases z:b=a
 ·subst z;rw [updM_same] at e;cases e;exact .inr (.inl ⟨row,rfl⟩)
 ·rw [ah z] at e
  rcases h.pin b o e with q|q|⟨bs,q1,q2⟩
  ·exact .inl q
  ·exact .inr (.inl q)
  ·refine .inr (.inr ⟨bs,q1,fun c hc=>?_⟩)
   by_cases z:c=a
   ·subst z;exact ⟨_,updM_same⟩
   ·rw [ah z];exact q2 c hc
theorem Vd {g:cR} {te:aM} {n:Nat} {M1:Mh} (T:aB->Prop) {ds:List Dv} {τ:aB} {Q:List Dv->Mh->Prop} (h0:T τ) (h:∀d∈ds,∀τ,T τ->∀R:aB->ZK,(∀(x:Int) aD,0<=x->x<(n:Int)->T aD->R aD (.int x) M1)->g d τ M1 fun aD M2=>te aD M2 (R aD)) (q:∀row:List Int,row.length=ds.length->(∀x∈row,0<=x/\x<(n:Int))->Q (row.map .int) M1):fX g zNoIf te ds τ M1 Q :=by
 refine ka (acc:=[]) (fun acc τ M=>∃row:List Int,acc=row.map Dv.int/\(∀x∈row,0<=x/\x<(n:Int))/\T τ/\M=M1) ⟨[],rfl,(fun _ h=>nomatch h),h0,rfl⟩ (fun i d acc τ M hd _ ⟨row,e1,hr,ht,e2⟩ R hR=>?_) (fun ys τ M hl ⟨row,e1,hr,ht,e2⟩=>?_)
 ·subst e1 e2
  refine h d (gc hd) τ ht R fun x aD x0 x1 t2=>hR _ _ _ ⟨row++[x],by rw [xy];rfl,fun y hy=>?_,t2,rfl⟩
  rcases AL.mp hy with z|z
  ·exact hr y z
  ·rw [lp] at z;rw [z];exact ⟨x0,x1⟩
 ·rw [GS] at e1
  subst e1 e2
  exact q row (by simpa using hl) hr
def fG (x:Option Dv):Prop:=∀M d,x=some d->Pin M d
theorem fG.none:fG none:=fun _ _ h=>nomatch h
theorem fG.int (i:Int):fG (some (.int i)):=fun _ _ h=>by cases h;exact .int i
theorem fG.lI (ns:List Int):fG (some (jf ns)):=fun _ _ h=>by cases h;exact .lst (j4 ns)
theorem lV {n d:Nat} (h:d<n):fu n (d:Int)=some d :=by unfold fu;rw [if_pos (by omega),if_pos (by omega)];rfl
theorem xc (row:List Int) (t:Nat) (x:Int):(row.map Dv.int).set t (.int x)=(row.set t x).map Dv.int :=by rw [Xz]
theorem jq.set {n ways:Nat} {row:List Int} (h:jq n ways row) {t:Nat} {x:Int} (x0:0<=x) (x1:x<(n:Int)):jq n ways (row.set t x):=⟨by rw [GM];exact h.1,fun y hy=>by
 rcases VU hy with z|z
 ·exact h.2 y z
 ·rw [z];exact ⟨x0,x1⟩⟩
def rU (os:List Int):Dv->Int | .int j=>os.getD j.toNat 0|_=>0
theorem xf {os:List Int} {j:Nat} {x:Int} (h:b5 (os.map Dv.int) (j:Int)=some (.int x)):rU os (.int (j:Nat))=x :=by
 by_cases hj:j<os.length
 ·rw [b6 (j:=j) (v:=Dv.int os[j]) (by rw [ce,ag hj];rfl)] at h
  cases h
  show os.getD (Int.toNat (j:Int)) 0=_
  rw [ut,ci,ag hj];rfl
 ·unfold b5 fu at h
  rw [if_pos (by omega),if_neg (by simp;omega)] at h
  cases h
def Fj (per i:Nat):Dv->Bool | .int j=>decide (j % (per:Int)=((i:Int)+1) % (per:Int))|_=>false
theorem Fl {n per i:Nat} {os:List Int} (gR:cE n os) (p1:1<=per) (pn:per<=n):∃gs:List Int,((bW 0 n).filter (Fj per i)).map (fun d=>Dv.int (rU os d))=gs.map Dv.int/\1<=gs.length/\gs.length<=n/\∀x∈gs,0<=x/\x<(n:Int) :=by
 refine ⟨((bW 0 n).filter (Fj per i)).map (rU os),by rw [xL];rfl,?_,?_,fun x hx=>?_⟩
 ·rw [c8]
  refine SB (a:=Dv.int (((i+1) % per:Nat):Int)) (Ll.mpr ⟨?_,?_⟩)
  ·have:(i+1) % per<per:=Xq _ (by omega)
   exact gc (i:=(i+1) % per) (by rw [bW,ce,xb (by omega)];simp)
  ·show decide _=true
   rw [decide_eq_true_eq]
   push_cast
   exact Int.emod_emod_of_dvd _ (Int.dvd_refl _)
 ·rw [c8]
  exact wv (Wu _ _) (by rw [rangeD_len];exact cr _)
 ·obtain ⟨d,hd,rfl⟩:=ss.mp hx
  obtain ⟨j,hj,rfl⟩:=rL (Ll.mp hd).1
  rw [LF]
  obtain ⟨gx,G8,g0,g1⟩:=gR.at hj
  rw [xf G8]
  exact ⟨g0,g1⟩
structure hV (M0 M:Mh) (r:ac) (as:List ac) (n:Nat) (L:Nat->Nat):Prop where
 own:pW M0 M
 r0:M0 r=none
 rm:M r=some (.lst (as.map .ptr))
 fr:∀a∈as,M0 a=none/\a≠r
 nd:as.Nodup
 len:as.length=n
 rows:∀i a,as[i]?=some a->∃row:List Int,M a=some (.lst (row.map .int))/\jq n (L i) row
 ptr:∀b bs,M b=some (.lst (bs.map .ptr))->b=r\/M0 b=some (.lst (bs.map .ptr))\/bs=[]
theorem hV.set {M0 M:Mh} {r:ac} {as:List ac} {n:Nat} {L:Nat->Nat} (h:hV M0 M r as n L) {i:Nat} {a:ac} (ha:as[i]?=some a) {row:List Int} {m:Nat} (o:jq n m row):hV M0 (aA M a (.lst (row.map .int))) r as n fun j=>if j=i then m else L j :=by
 have hm:=gc ha
 obtain ⟨f0,f1⟩:=h.fr a hm
 refine ⟨⟨.upd f0 h.own.kp,fun b o e=>?_⟩,h.r0,by rw [ah (zd f1)];exact h.rm,h.fr,h.nd,h.len,fun j c hc=>?_,fun b bs e=>?_⟩
 ·by_cases z:b=a
  ·subst z;rw [updM_same] at e;cases e;exact .inr (.inl ⟨row,rfl⟩)
  ·rw [ah z] at e
   rcases h.own.pin b o e with q|q|⟨bs,q1,q2⟩
   ·exact .inl q
   ·exact .inr (.inl q)
   ·refine .inr (.inr ⟨bs,q1,fun c hc=>?_⟩)
    by_cases z:c=a
    ·subst z;exact ⟨_,updM_same⟩
    ·rw [ah z];exact q2 c hc
 ·by_cases z:j=i
  ·subst z
   rw [ha] at hc;cases hc
   exact ⟨row,updM_same,by rw [if_pos rfl];exact o⟩
  ·have uz:c≠a:=fun e=>z (by
    subst e
    obtain ⟨h1,e1⟩:=br.mp ha
    obtain ⟨h2,e2⟩:=br.mp hc
    rcases Nat.lt_trichotomy j i with q|q|q
    ·exact absurd (e2.trans e1.symm) (Op.mp h.nd j i h2 h1 q)
    ·exact q
    ·exact absurd (e1.trans e2.symm) (Op.mp h.nd i j h1 h2 q))
   rw [ah uz,if_neg z];exact h.rows j c hc
 ·by_cases z:b=a
  ·subst z
   rw [updM_same] at e
   cases row with
   |nil=>cases bs with
    |nil=>exact .inr (.inr rfl)
    |cons c bs=>simp at e
   |cons x row=>cases bs with
    |nil=>exact .inr (.inr rfl)
    |cons c bs=>simp at e
  ·rw [ah z] at e;exact h.ptr b bs e
theorem hV.full {M0 M:Mh} {r:ac} {as:List ac} {n ways:Nat} {L:Nat->Nat} (h:hV M0 M r as n L) (hL:∀i,i<n->L i=ways):fP M0 M r as n ways :=by
 refine ⟨h.own.kp,h.r0,h.rm,h.fr,h.len,fun a ha=>?_,fun b o e=>?_⟩
 ·obtain ⟨i,hi⟩:=l6.mp ha
  obtain ⟨row,e,o⟩:=h.rows i a hi
  rw [hL i (by rw [<- h.len];exact (br.mp hi).1)] at o
  exact ⟨row,e,o⟩
 ·rcases h.own.pin b o e with q|q|⟨bs,rfl,q2⟩
  ·exact .inl q
  ·exact .inr (.inr (.inl q))
  ·rcases h.ptr b bs e with z|z|z
   ·exact .inr (.inl z)
   ·exact .inl z
   ·subst z;exact .inr (.inr (.inl ⟨[],rfl⟩))
theorem hV.Az {M0 M:Mh} {r:ac} {as:List ac} {n:Nat} {L L':Nat->Nat} (h:hV M0 M r as n L) (e:∀i,i<n->L i=L' i):hV M0 M r as n L':=
 ⟨h.own,h.r0,h.rm,h.fr,h.nd,h.len,fun i a ha=>by
  have:=h.rows i a ha
  rwa [e i (by rw [<- h.len];exact (br.mp ha).1)] at this,h.ptr⟩
theorem cE.nodup {n:Nat} {os:List Int} (h:cE n os):os.Nodup :=by
 refine h.perm.nodup_iff.mpr ?_
 exact List.pairwise_map.mpr (List.nodup_range.imp fun h e=>h (by omega))
theorem cE.prev {n:Nat} {os:List Int} (h:cE n os) {k:Nat} (hk:k<n):∃p:Nat,b5 (os.map Dv.int) ((k:Int) - 1)=some (.int (p:Nat))/\p<n :=by
 have hl:=h.len
 obtain ⟨j,hj,e⟩:∃j:Nat,j<n/\fu n ((k:Int) - 1)=some j :=by
  unfold fu
  by_cases z:k=0
  ·exact ⟨n - 1,by omega,by rw [if_neg (by omega),if_pos (by omega)];congr 1;omega⟩
  ·exact ⟨k - 1,by omega,by rw [if_pos (by omega),if_pos (by omega)];congr 1;omega⟩
 have xg:j<os.length :=by omega
 obtain ⟨g0,g1⟩:=h.mem (rb xg)
 refine ⟨os[j].toNat,?_,by omega⟩
 unfold b5
 rw [c8,hl,e]
 show (os.map Dv.int)[j]?=_
 rw [ce,ag xg]
 show some (Dv.int os[j])=_
 congr 2
 omega
theorem IG (x:Int) (k:Nat):(io k [Dv.int x]).flatten=(io k x).map Dv.int :=by
 induction k with
 |zero=>rfl
 |succ k ih=>rw [wT,GE,ih,wT];rfl
theorem AA {f f1 f2:ac} {fd bT fd2:l5} (D:Df K mg "_law_net" eR ["_law_bag_here","_law_most"] f fd)
  (az:Df K mg "_law_take" eZ ["_law_bag_here","_law_many"] f1 bT) (bX:FnOk P w K mg base bf 1 f1 bT ["_law_bag_here","_law_many"] (aY P w K tb u5))
  (bM:Df K mg "_law_order" fD ["_law_bag_here","_law_many"] f2 fd2) (kg:FnOk P w K mg base bf 2 f2 fd2 ["_law_bag_here","_law_many"] (aY P w K tb w9)) (bl:Bl mg):FnOk P w K mg base bf 3 f fd ["_law_bag_here","_law_most"] (aY P w K tb G5) :=by
 refine eJ D bw (fun ds M Q E hS=>by obtain ⟨b,n,e,_⟩:=hS;rw [e];rfl) fun A outer s E Γ ds Q' E' hP hw hK ht hr hS=>?_
 obtain ⟨b,most,e,hb,h1,h9,q⟩:=hS
 refine ⟨_,(ai (aH (i:=2) bw.nd rfl (mT rfl) (aP fL av (aK bX (hr.mono (by decide)) rfl az.mg az.fn.kp az.bd bz hP hw hK ht XR.none (aa (qv 0) (aa (qv 1) ae)))))
  (ai (aH (i:=3) bw.nd rfl (mT rfl) (aP fL av (aK bX (hr.mono (by decide)) rfl az.mg az.fn.kp az.bd bz hP hw hK ht XR.none (aa (qv 0) (aa av ae)))))
  (ai (aH (i:=4) bw.nd rfl (mT rfl) (aK bX (hr.mono (by decide)) rfl az.mg az.fn.kp az.bd bz hP hw hK ht XR.none (aa (qv 0) (aa av ae))))
  (ai (aH (i:=5) bw.nd rfl (IT rfl) av)
  (ai (cM (bE sH (qv 4) av (bR _))
   (ai (aH (i:=5) bw.nd rfl (IT rfl) (ax (wu rfl) rfl bl.min_ qU (aa (aP fL av (aK bX (hr.mono (by decide)) rfl az.mg az.fn.kp az.bd bz hP hw hK ht XR.none (aa (qv 0) (aa av ae)))) (aa (qv 2) ae))))
  (aq (aH (i:=2) bw.nd rfl (mT rfl) (aP mB (aP wk (qv 2) (qv 5)) (qv 5)))))
   qss_nil)
  (ai (aH (i:=6) bw.nd rfl (IT rfl) (aK kg (hr.mono (by decide)) rfl bM.mg bM.fn.kp bM.bd bz hP hw hK ht XR.none (aa (qv 0) (aa (qv 2) ae))))
  (ai (xX (i:=7) bw.nd rfl rfl (N':=["_law_place"]) (tn:=1) (idx:=[]) rfl (show aI ["_law_bag_here","_law_most","_law_many","_law_fans","_law_kind","_law_lap","_law_order_here","_law_rows","_law_k","_law_goals","_law_fan"] (aj eR) _ ["_law_place"] 1 [] from by decide +kernel) (a7 rfl bl.range_ (aa (qv 2) ae)) (fun _ _ _ _ _=>(aJ (i:=0) (show IF [("_law_place" : bn)] from by decide +kernel) rfl (mT rfl))) (fun _ _ _ _ _=>eY) (fun _ _ _ _ _=>(ju ae)))
  (ai (b8 qr rfl (a7 rfl bl.range_ (aa (qv 2) ae)) (fun gQ eP ew eK et=>by have hP:=hP.trans eP.symm;have hw:=hw.trans ew.symm;have hK:=hK.trans eK.symm;have ht:=ht.trans et.symm;exact ⟨(aJ (i:=8) bw.nd rfl (IT rfl)),(ai (mH (i:=9) bw.nd rfl rfl (N':=["_law_j","_law_order_here","_law_lap","_law_k"]) (tn:=1) (idx:=[6,5,8]) rfl (show aI ["_law_bag_here","_law_most","_law_many","_law_fans","_law_kind","_law_lap","_law_order_here","_law_rows","_law_k","_law_goals","_law_fan"] (aj eR) _ ["_law_j","_law_order_here","_law_lap","_law_k"] 1 [6,5,8] from by decide +kernel) (a7 rfl bl.range_ (aa (qv 2) ae)) (fun _ _ _ _ _=>(aJ (i:=0) (show IF [("_law_j" : bn),("_law_order_here" : bn),("_law_lap" : bn),("_law_k" : bn)] from by decide +kernel) rfl (mT rfl))) (fun _ _ _ _ _=>(sF (bE sH (aP gm (qv 0) (qv 2)) (aP gm (aP fL (qv 3) av) (qv 2)) (bR _)))) (fun _ _ _ _ _=>(aQ (bp (K:=K) rfl) (qv 1) (qv 0) (fun _ _=>rfl))))
  (aq (b8 qr rfl (a7 rfl bl.range_ (aa (qv 3) ae)) (fun gQ eP ew eK et=>by have hP:=hP.trans eP.symm;have hw:=hw.trans ew.symm;have hK:=hK.trans eK.symm;have ht:=ht.trans et.symm;exact ⟨(aJ (i:=10) bw.nd rfl (mT rfl)),(aq (iq (mF (K:=K) rfl EM Pf Pi mG (aQ (bp (K:=K) rfl) (qv 7) (aQ (bp (K:=K) rfl) (qv 6) (qv 8) (fun _ _=>rfl)) (fun _ _=>rfl)) (aa (aQ (bp (K:=K) rfl) (qv 9) (aK bX (hr.mono (by decide)) rfl az.mg az.fn.kp az.bd bz hP hw hK ht XR.none (aa (qv 0) (aa (ax (bQ (K:=K) rfl hK) rfl bl.len_ nw (aa (qv 9) ae)) ae))) (fun _ _=>rfl)) ae))))⟩))))⟩))
  (ai (cM (bE Ah (qv 4) av (bR _))
   (aq (b8 qr rfl (a7 rfl bl.range_ (aa (qv 2) ae)) (fun gQ eP ew eK et=>by have hP:=hP.trans eP.symm;have hw:=hw.trans ew.symm;have hK:=hK.trans eK.symm;have ht:=ht.trans et.symm;exact ⟨(aJ (i:=8) bw.nd rfl (IT rfl)),(aq (jZ (aQ (bp (K:=K) rfl) (qv 6) (qv 8) (fun _ _=>rfl)) (j1 (aQ (bp (K:=K) rfl) (qv 7) (aQ (bp (K:=K) rfl) (qv 6) (aP uZ (qv 8) av) (fun _ _=>rfl)) (fun _ _=>rfl)) (aK bX (hr.mono (by decide)) rfl az.mg az.fn.kp az.bd bz hP hw hK ht XR.none (aa (qv 0) (aa (qv 3) ae))))))⟩)))
   qss_nil)
  (ai (cM (bE sH (qv 4) av (bR _))
   (ai (b8 qr rfl (a7 rfl bl.range_ (aa (qv 2) ae)) (fun gQ eP ew eK et=>by have hP:=hP.trans eP.symm;have hw:=hw.trans ew.symm;have hK:=hK.trans eK.symm;have ht:=ht.trans et.symm;exact ⟨(aJ (i:=8) bw.nd rfl (IT rfl)),(aq (jZ (aP C7 (rD (aa (aQ (bp (K:=K) rfl) (qv 6) (qv 8) (fun _ _=>rfl)) ae)) (qv 3)) (j1 (qv 7) (aQ (bp (K:=K) rfl) (qv 6) (aP uZ (qv 8) av) (fun _ _=>rfl)))))⟩))
  (aq (jZ (aK bX (hr.mono (by decide)) rfl az.mg az.fn.kp az.bd bz hP hw hK ht XR.none (aa (qv 0) (aa (qv 2) ae))) (j1 (aQ (bp (K:=K) rfl) (qv 7) av (fun _ _=>rfl)) av))))
   qss_nil)
  (aq (Mk 7 rfl (aT (kT (sI (K:=K) rfl) rfl bl.tuple_ fw (aa (iE (N':=["_law_row"]) (tn:=1) (idx:=[]) rfl (show aI ["_law_bag_here","_law_most","_law_many","_law_fans","_law_kind","_law_lap","_law_order_here","_law_rows","_law_k","_law_goals","_law_fan"] (aj eR) _ ["_law_row"] 1 [] from by decide +kernel) (oI (K:=K) rfl (qv 7)) (fun _ _ _ _ _=>(aJ (i:=0) (show IF [("_law_row" : bn)] from by decide +kernel) rfl (mT rfl))) (fun _ _ _ _ _=>eY) (fun _ _ _ _ _=>(kT (sI (K:=K) rfl) rfl bl.tuple_ fw (aa (qv 0) ae)))) ae))))))))))))))),?_⟩
 subst e
 have big:(100:Nat)<sizeLine :=by decide
 refine Pb (fun ρ M=>M=Γ.M0/\∃(n ways kind cV:Nat),ρ=[some (.ptr b),some (.int (most:Nat)),some (.int (n:Nat)),some (.int (ways:Nat)),some (.int (kind:Nat)),some (.int (cV:Nat)),none,none,none,none,none]/\1<=n/\n<=most/\(ways=2\/ways=3)/\1<=cV/\cV<=n) (fun N hN=>?_) ?_
 ·simp! only []
  refine ⟨b,_,rfl,hb,by omega,by omega,fun m hm=>?_⟩
  obtain ⟨n,hn⟩:∃n:Nat,(1+(m:Int))=(n:Nat):=⟨1+m,by omega⟩
  have n1:1<=n :=by omega
  have n9:n<=most :=by omega
  simp! only [hn]
  refine ⟨b,_,rfl,hb,by omega,by omega,fun v hv=>?_⟩
  obtain ⟨ways,Ph⟩:∃ways:Nat,(2+(v:Int))=(ways:Nat):=⟨2+v,by omega⟩
  have w2:ways=2\/ways=3 :=by omega
  simp! only [Ph]
  refine ⟨b,_,rfl,hb,by omega,by omega,fun kind oA=>?_⟩
  simp! only []
  refine eB (fun h=>?_) (fun h=>hN _ _ ⟨rfl,n,ways,kind,1,rfl,n1,n9,w2,by omega,n1⟩)
  refine ⟨b,_,rfl,hb,by omega,by omega,fun t ht=>?_⟩
  obtain ⟨cV,Sf,l1,ln⟩:∃cV:Nat,(if (n:Int)<2+(t:Int) then (n:Int) else 2+(t:Int))=(cV:Nat)/\1<=cV/\cV<=n :=by
   by_cases z:(n:Int)<2+(t:Int)
   ·exact ⟨n,by rw [if_pos z],n1,cr _⟩
   ·exact ⟨2+t,by rw [if_neg z];omega,by omega,by omega⟩
  simp only [Sf]
  have en:(n:Int) / (cV:Int) * (cV:Int)=((n / cV * cV:Nat):Int) :=by push_cast;rfl
  have d1:n / cV * cV<=n:=Nat.div_mul_le_self n cV
  have d2:cV<=n / cV * cV :=by
   have:1<=n / cV:=Nat.div_pos ln (by omega)
   exact Nat.le_mul_of_pos_left cV this
  rw [en]
  exact ⟨⟨by omega,by omega⟩,.inr ⟨by omega,by omega⟩,hN _ _ ⟨rfl,n / cV * cV,ways,kind,cV,rfl,by omega,by omega,w2,l1,d2⟩⟩
 rintro ρ M ⟨rfl,n,ways,kind,cV,rfl,n1,n9,w2,l1,ln⟩
 refine O9 (fun ρ M=>∃(r:ac) (as:List ac) (os:List Int) (x8 x9 iV:Option Dv),(fG x8/\fG x9/\fG iV)/\ρ=[some (.ptr b),some (.int (most:Nat)),some (.int (n:Nat)),some (.int (ways:Nat)),some (.int (kind:Nat)),some (.int (cV:Nat)),some (jf os),some (.ptr r),x8,x9,iV]/\fP Γ.M0 M r as n ways/\cE n os) (fun N hN=>?_) ?_
 ·simp! only []
  refine ⟨b,n,rfl,hb,by omega,fun os gR=>?_⟩
  have q9:=gR.len
  simp! only []
  refine ⟨by omega,by omega,by omega,ka (acc:=[]) (fun acc τ M=>∃as:List ac,acc=as.map Dv.ptr/\(∃x,τ=[x])/\pW Γ.M0 M/\as.Nodup/\(∀a∈as,Γ.M0 a=none/\M a=some (.lst []))/\∀c (bs:List ac),M c=some (.lst (bs.map .ptr))->Γ.M0 c=some (.lst (bs.map .ptr))\/bs=[]) ⟨[],rfl,⟨_,rfl⟩,.refl,.nil,(fun _ h=>nomatch h),fun c bs e=>.inl e⟩ (fun i d acc τ M hd _ hJ R hR=>?_) (fun ys τ M hl hJ=>?_)⟩
  ·obtain ⟨as,rfl,⟨x,rfl⟩,hO,MZ,ha,hp⟩:=hJ
   simp! only []
   refine ⟨by omega,fun a hn=>hR _ _ _ ⟨as++[a],by rw [xy];rfl,⟨_,rfl⟩,hO.row hn [],?_,fun c hc=>?_,fun c bs e=>?_⟩⟩
   ·rw [SL]
    refine ⟨MZ,by simp,fun x hx y hy e=>?_⟩
    rw [lp] at hy
    subst e hy
    rw [(ha _ hx).2] at hn;cases hn
   ·rcases AL.mp hc with z|z
    ·obtain ⟨q1,q2⟩:=ha c z
     have ne:c≠a:=fun q=>by rw [q,hn] at q2;cases q2
     exact ⟨q1,by rw [ah ne];exact q2⟩
    ·rw [lp] at z
     subst z
     exact ⟨jr hO.kp hn,updM_same⟩
   ·by_cases z:c=a
    ·subst z
     rw [updM_same] at e
     cases bs with
     |nil=>exact .inr rfl
     |cons y bs=>simp at e
    ·rw [ah z] at e;exact hp c bs e
  ·obtain ⟨as,e1,⟨x,rfl⟩,hO,MZ,ha,hp⟩:=hJ
   rw [GS] at e1
   subst e1
   intro r M6
   have Sg:as.length=n :=by simpa [rangeD_len] using hl
   have ne:∀{c o},M c=some o->c≠r:=fun e z=>by rw [z,M6] at e;cases e
   have RF:hV Γ.M0 (aA M r (.lst (as.map .ptr))) r as n fun _=>0 :=by
    refine ⟨⟨.upd (jr hO.kp M6) hO.kp,fun c o e=>?_⟩,jr hO.kp M6,updM_same,fun a h=>⟨(ha a h).1,ne (ha a h).2⟩,MZ,Sg,fun i a h=>?_,fun c bs e=>?_⟩
    ·by_cases z:c=r
     ·subst z;rw [updM_same] at e;cases e
      exact .inr (.inr ⟨as,rfl,fun a h=>⟨_,by rw [ah (ne (ha a h).2)];exact (ha a h).2⟩⟩)
     ·rw [ah z] at e
      rcases hO.pin c o e with q|q|⟨bs,q1,q2⟩
      ·exact .inl q
      ·exact .inr (.inl q)
      ·refine .inr (.inr ⟨bs,q1,fun y hy=>?_⟩)
       obtain ⟨u,hu⟩:=q2 y hy
       exact ⟨u,by rw [ah (ne hu)];exact hu⟩
    ·have hm:=ha a (gc h)
     exact ⟨[],by rw [ah (ne hm.2)];exact hm.2,rfl,fun _ h=>nomatch h⟩
    ·by_cases z:c=r
     ·exact .inl z
     ·rw [ah z] at e;exact .inr (hp c bs e)
   refine ⟨by omega,by omega,?_⟩
   refine bo (fun i ρ M=>∃x8 x9 iV,(fG x8/\fG x9/\fG iV)/\ρ=[some (.ptr b),some (.int (most:Nat)),some (.int (n:Nat)),some (.int (ways:Nat)),some (.int (kind:Nat)),some (.int (cV:Nat)),some (jf os),some (.ptr r),x8,x9,iV]/\hV Γ.M0 M r as n (fun j=>if ((j:Nat):Int)∈os.take i then ways else 0))
    ⟨_,_,_,⟨.none,.none,.none⟩,rfl,RF.Az fun i _=>by simp⟩ (fun i d ρ M N2 hd hJ ik=>?_) (fun ρ M hJ=>?_)
   ·obtain ⟨x8,x9,iV,⟨p8,p9,uA⟩,rfl,RF⟩:=hJ
    obtain ⟨rfl,hi⟩:=a8 hd
    have j9:i<os.length :=by omega
    obtain ⟨g0,g1⟩:=gR.mem (rb j9)
    obtain ⟨pk,jh⟩:=wb g0
    have pD:pk<n :=by omega
    have qT:b5 (os.map Dv.int) ((i:Nat):Int)=some (.int (pk:Nat)):=b6 (by rw [ce,ag j9,jh];rfl)
    have M7:pk<as.length :=by omega
    have UK:b5 (as.map Dv.ptr) ((pk:Nat):Int)=some (.ptr as[pk]):=b6 (by rw [ce,ag M7];rfl)
    have QH:as[pk]?=some as[pk]:=ag M7
    have Sh:((pk:Nat):Int) ∉ os.take i:=fun z=>by
     obtain ⟨j,hj,e⟩:=List.mem_iff_getElem.mp z
     rw [List.getElem_take,<- jh] at e
     rw [Wk] at hj
     exact Op.mp gR.nodup j i (by omega) j9 (by omega) e
    simp! only []
    refine ⟨by omega,by omega,by omega,sO (Fj cV i) (fun d=>.int (rU os d)) (fun τ M'=>(∃x,τ=[x,some (jf os),some (.int (cV:Nat)),some (.int (i:Nat))])/\M'=M) ⟨⟨_,rfl⟩,rfl⟩ (fun d hd τ M' hI R0 R h1 h2=>?_) (fun τ M' hI=>?_)⟩
    ·obtain ⟨⟨x,rfl⟩,rfl⟩:=hI
     obtain ⟨j,hj,rfl⟩:=rL hd
     simp only [LF] at h1 h2 ⊢
     obtain ⟨gx,G8,g0,g1⟩:=gR.at hj
     have hg:rU os (.int (j:Nat))=gx:=xf G8
     simp! only [G8]
     refine ⟨by omega,by omega,eB (fun h=>?_) (fun h=>?_)⟩
     ·rw [hg] at h1
      exact h1 h _ _ ⟨⟨_,rfl⟩,rfl⟩
     ·exact h2 h _ _ ⟨⟨_,rfl⟩,rfl⟩
    ·obtain ⟨⟨x,rfl⟩,rfl⟩:=hI
     obtain ⟨gs,UL,VF,VG,UM⟩:=Fl (i:=i) gR (per:=cV) (by omega) (by omega)
     rw [UL]
     refine ⟨by omega,by omega,?_⟩
     refine bo (fun f ρ M=>(∃iV,fG iV/\ρ=[some (.ptr b),some (.int (most:Nat)),some (.int (n:Nat)),some (.int (ways:Nat)),some (.int (kind:Nat)),some (.int (cV:Nat)),some (jf os),some (.ptr r),some (.int (i:Nat)),some (jf gs),iV])/\hV Γ.M0 M r as n (fun j=>if j=pk then f else if ((j:Nat):Int)∈os.take i then ways else 0))
      ⟨⟨_,uA,rfl⟩,RF.Az fun j _=>by
       by_cases z:j=pk
       ·subst z;rw [if_neg Sh,if_pos rfl]
       ·rw [if_neg z]⟩ (fun f d ρ M N3 hd hJ Dm=>?_) (fun ρ M hJ=>?_)
     ·obtain ⟨⟨iV,uA,rfl⟩,RF⟩:=hJ
      obtain ⟨rfl,hf⟩:=a8 hd
      obtain ⟨row,em,ro⟩:=RF.rows pk _ QH
      rw [if_pos rfl] at ro
      simp! only [qT,RF.rm,UK,em]
      refine ⟨b,_,rfl,RF.own.kp _ _ hb,by omega,by omega,fun t ht=>?_⟩
      have M8:t<gs.length :=by omega
      simp only [show b5 (gs.map Dv.int) (t:Int)=some (.int gs[t]) from b6 (by rw [ce,ag M8];rfl),em,c8,ro.1]
      have UN:=UM _ (rb M8)
      have er:row.map Dv.int++[Dv.int gs[t]]=(row++[gs[t]]).map Dv.int :=by rw [xy];rfl
      rw [er]
      refine ⟨by omega,Dm _ _ ⟨⟨_,.int _,rfl⟩,(RF.set QH (row:=row++[gs[t]]) (m:=f+1) ⟨by rw [ul,ro.1];rfl,fun y hy=>?_⟩).Az fun j _=>?_⟩⟩
      ·rcases AL.mp hy with z|z
       ·exact ro.2 y z
       ·rw [lp.mp z];exact UN
      ·by_cases z:j=pk
       ·rw [if_pos z,if_pos z]
       ·rw [if_neg z,if_neg z,if_neg z]
     ·obtain ⟨⟨iV,uA,rfl⟩,RF⟩:=hJ
      rw [rangeD_len] at RF
      refine ik _ _ ⟨_,_,_,⟨.int _,.lI gs,uA⟩,rfl,RF.Az fun j _=>?_⟩
      have me:((j:Nat):Int)∈os.take (i+1) ↔ ((j:Nat):Int)∈os.take i\/j=pk :=by
       rw [List.take_add_one,AL,ag j9,jh]
       constructor
       ·rintro (z|z)
        ·exact .inl z
        ·have:((j:Nat):Int)=(pk:Nat) :=by simpa using z
         exact .inr (by omega)
       ·rintro (z|z)
        ·exact .inl z
        ·exact .inr (by simp [z])
      by_cases z:j=pk
      ·rw [if_pos z,if_pos (me.mpr (.inr z))]
      ·rw [if_neg z]
       by_cases y:((j:Nat):Int)∈os.take i
       ·rw [if_pos y,if_pos (me.mpr (.inl y))]
       ·rw [if_neg y,if_neg (fun q=>(me.mp q).elim y z)]
   ·obtain ⟨x8,x9,iV,⟨p8,p9,uA⟩,rfl,RF⟩:=hJ
    rw [rangeD_len] at RF
    refine hN _ _ ⟨r,as,os,_,_,_,⟨p8,p9,uA⟩,rfl,RF.full fun j hj=>?_,gR⟩
    rw [Sk (by omega),if_pos (gR.perm.mem_iff.mpr (ss.mpr ⟨j,ES.mpr hj,rfl⟩))]
 rintro ρ M ⟨r,as,os,x8,x9,iV,⟨p8,p9,uA⟩,rfl,RM,gR⟩
 have q9:=gR.len
 have M9:∀{as:List ac} {M:Mh} {p:Nat},fP Γ.M0 M r as n ways->p<n->∃a,b5 (as.map Dv.ptr) ((p:Nat):Int)=some (.ptr a)/\a∈as:=fun {as M p} RM hp=>by
  have hl:p<as.length :=by rw [RM.len];exact hp
  exact ⟨as[p],b6 (by rw [ce,ag hl];rfl),rb hl⟩
 refine GY (fun ρ M=>∃(as:List ac) (x8:Option Dv),fG x8/\ρ=[some (.ptr b),some (.int (most:Nat)),some (.int (n:Nat)),some (.int (ways:Nat)),some (.int (kind:Nat)),some (.int (cV:Nat)),some (jf os),some (.ptr r),x8,x9,iV]/\fP Γ.M0 M r as n ways) (fun N hN=>?_) ?_
 ·simp! only []
  refine eB (fun h=>⟨by omega,by omega,?_⟩) (fun _=>hN _ _ ⟨as,_,p8,rfl,RM⟩)
  refine bo (fun i ρ M=>∃(as:List ac) (x8:Option Dv),fG x8/\ρ=[some (.ptr b),some (.int (most:Nat)),some (.int (n:Nat)),some (.int (ways:Nat)),some (.int (kind:Nat)),some (.int (cV:Nat)),some (jf os),some (.ptr r),x8,x9,iV]/\fP Γ.M0 M r as n ways) ⟨as,_,p8,rfl,RM⟩ (fun i d ρ M N2 hd hJ ik=>?_) (fun ρ M hJ=>hN _ _ hJ)
  obtain ⟨as,x8,p8,rfl,RM⟩:=hJ
  obtain ⟨rfl,hi⟩:=a8 hd
  obtain ⟨p,hp,pn⟩:=gR.prev hi
  obtain ⟨g,hg,g0,g1⟩:=gR.at hi
  obtain ⟨a,ea,ha⟩:=M9 RM pn
  obtain ⟨row,em,ro⟩:=RM.row a ha
  simp! only [hg,hp,RM.rm,ea]
  refine ⟨b,_,rfl,RM.kp _ _ hb,by omega,by omega,fun t ht=>?_⟩
  simp only [em,c8,ro.1,lV (show t<ways by omega)]
  rw [xc]
  exact ik _ _ ⟨as,_,.int _,rfl,RM.vN ha (ro.set g0 g1)⟩
 rintro ρ M ⟨as,x8,p8,rfl,RM⟩
 refine GY (fun ρ M=>∃(as:List ac) (x8:Option Dv),fG x8/\ρ=[some (.ptr b),some (.int (most:Nat)),some (.int (n:Nat)),some (.int (ways:Nat)),some (.int (kind:Nat)),some (.int (cV:Nat)),some (jf os),some (.ptr r),x8,x9,iV]/\fP Γ.M0 M r as n ways) (fun N hN=>?_) ?_
 ·simp! only []
  refine eB (fun h=>⟨by omega,by omega,?_⟩) (fun _=>hN _ _ ⟨as,_,p8,rfl,RM⟩)
  refine bo (fun i ρ M=>∃(as:List ac) (x8:Option Dv),fG x8/\ρ=[some (.ptr b),some (.int (most:Nat)),some (.int (n:Nat)),some (.int (ways:Nat)),some (.int (kind:Nat)),some (.int (cV:Nat)),some (jf os),some (.ptr r),x8,x9,iV]/\fP Γ.M0 M r as n ways) ⟨as,_,p8,rfl,RM⟩ (fun i d ρ M N2 hd hJ ik=>?_) (fun ρ M hJ=>?_)
  ·obtain ⟨as,x8,p8,rfl,RM⟩:=hJ
   obtain ⟨rfl,hi⟩:=a8 hd
   obtain ⟨p,hp,pn⟩:=gR.prev hi
   obtain ⟨g,hg,g0,g1⟩:=gR.at hi
   simp! only [hg,hp]
   refine ⟨by omega,⟨by omega,by omega,by omega⟩,fun a yN=>?_⟩
   have nr:r≠a:=fun z=>by rw [<- z,RM.rm] at yN;cases yN
   rw [IG]
   simp only [ah nr,RM.rm,c8,RM.len,lV pn]
   exact ik _ _ ⟨_,_,.int _,rfl,RM.put yN ⟨by rw [FF],fun x hx=>by rw [List.eq_of_mem_replicate hx];exact ⟨g0,g1⟩⟩ pn⟩
  ·obtain ⟨as,x8,p8,rfl,RM⟩:=hJ
   obtain ⟨a,ea,ha⟩:=M9 RM (p:=0) (by omega)
   have ea:b5 (as.map Dv.ptr) 0=some (.ptr a):=ea
   obtain ⟨row,em,ro⟩:=RM.row a ha
   simp! only []
   refine ⟨b,_,rfl,RM.kp _ _ hb,by omega,by omega,fun t ht=>?_⟩
   simp! only [RM.rm,ea,em,ro.1,show fu ways 0=some 0 from lV (d:=0) (by omega)]
   rw [xc]
   exact hN _ _ ⟨as,_,p8,rfl,RM.vN ha (ro.set (by omega) (by omega))⟩
 rintro ρ M ⟨as,x8,p8,rfl,RM⟩
 have nb:∀{c o},Γ.M0 c=some o->c≠r:=fun e z=>by rw [z,RM.r0] at e;cases e
 have dk:Keeps Γ.M0 (dy M r):=fun c o e=>by rw [cZ (nb e)];exact RM.kp c o e
 refine .inr ⟨r,_,rfl,RM.rm,RM.r0,⟨fun j d e=>?_,fun c o e=>?_⟩,?_⟩
 ·match j,e with
  |0,e=>cases e;exact .ptr (by rw [dk _ _ hb];rfl)
  |1,e=>cases e;exact .int _
  |2,e=>cases e;exact .int _
  |3,e=>cases e;exact .int _
  |4,e=>cases e;exact .int _
  |5,e=>cases e;exact .int _
  |6,e=>cases e;exact .lst (j4 _)
  |7,e=>cases e;exact .lst fun d hd=>by
                obtain ⟨a,ha,rfl⟩:=ss.mp hd
                obtain ⟨row,em,_⟩:=RM.row a ha
                exact .ptr (by rw [cZ (RM.fr a ha).2,em];rfl)
  |8,e=>exact p8 _ _ (ij e)
  |9,e=>exact p9 _ _ (ij e)
  |10,e=>exact uA _ _ (ij e)
  |j+11,e=>exact nomatch e
 ·have nc:c≠r:=fun z=>by rw [z,eL] at e;cases e
  rw [cZ nc] at e
  rcases RM.pin c o e with q|q|⟨row,rfl⟩|⟨bs,rfl,q2⟩
  ·exact .inl q
  ·exact absurd q nc
  ·exact .inr (j4 row)
  ·refine .inr fun d hd=>?_
   obtain ⟨a,ha,rfl⟩:=ss.mp hd
   obtain ⟨h1,u,h2⟩:=q2 a ha
   exact .ptr (by rw [cZ h1,h2];rfl)
 ·simp! only []
  refine ⟨by rw [RM.len];omega,ka (acc:=[]) (fun acc τ M'=>∃rs:List (List Int),acc=rs.map eI/\(∃x,τ=[x])/\(∀row∈rs,jq n ways row)/\M'=dy M r) ⟨[],rfl,⟨_,rfl⟩,(fun _ h=>nomatch h),rfl⟩ (fun i d acc τ M' hd _ ⟨rs,e1,⟨x,e2⟩,G9,eM⟩ R hR=>?_) (fun ys τ M' hl ⟨rs,e1,⟨x,e2⟩,G9,eM⟩=>?_)⟩
  ·subst e1 e2 eM
   obtain ⟨a,ha,rfl⟩:=Mf hd
   have ha:=gc ha
   obtain ⟨row,em,ro⟩:=RM.row a ha
   simp! only [cZ (RM.fr a ha).2,em]
   refine hR _ _ _ ⟨rs++[row],by rw [xy];rfl,⟨_,rfl⟩,fun c hc=>?_,rfl⟩
   rcases AL.mp hc with z|z
   ·exact G9 c z
   ·rw [lp] at z;rw [z];exact ro
  ·rw [GS] at e1
   subst e1 e2 eM
   have rV:rs.length=n :=by rw [c8,c8,RM.len] at hl;exact hl
   exact CH dk (Ma rs) (q rs ways ⟨by omega,by omega,w2,fun row hr=>⟨(G9 row hr).1,fun g hg=>by rw [rV];exact (G9 row hr).2 g hg⟩⟩ (by omega))
end
section
variable {P:ff} {w:ii} {K:bi} {mg:bn->Option al} {base:ge} {tb:cu}
theorem ye:aN ["thing"] ["thing"] (aj fN):=⟨rfl,rfl,rfl,by decide +kernel,rfl,by decide +kernel,by decide +kernel⟩
theorem oU:aN ["thing","many"] ["thing","many"] (aj du):=⟨rfl,rfl,rfl,by decide +kernel,rfl,by decide +kernel,by decide +kernel⟩
theorem Dn:aN ["thing","many","width"] ["thing","many","width"] (aj kb):=⟨rfl,rfl,rfl,by decide +kernel,rfl,by decide +kernel,by decide +kernel⟩
theorem og:aN ["thing","many","width"] ["thing"] (aj ke):=⟨rfl,rfl,rfl,by decide +kernel,rfl,by decide +kernel,by decide +kernel⟩
def xh (d:Dv):Bool:=(isD "int" (fun _=>none) d).isSome
def Dp:Dv->Bool | .int _=>true|_=>false
def gf (m:Int):Dv->Bool | .int i=>decide (0<=i) && decide (i<m)|_=>false
def Nb:b9:=fun ds M Q _=>∃d,ds=[d]/\xh d=true/\Q (.bl (Dp d)) M
theorem yf {f:ac} {fd:l5} (D:Df K mg "is_whole" fN ["thing"] f fd) (bl:Bl mg):FnOk P w K mg base bf 1 f fd ["thing"] (aY P w K tb Nb) :=by
 refine eJ D ye (fun ds M Q E hS=>by obtain ⟨d,e,_⟩:=hS;rw [e];rfl) fun A outer s E Γ ds Q' E' hP hw hK ht hr hS=>?_
 obtain ⟨d,e,hk,q⟩:=hS
 refine ⟨_,(aq (aT (rC (ax (eG (K:=K) rfl) rfl bl.isinstance_ bC (aa (qv 0) (aa (fK (v:=.ty "int") rfl bl.int_ BL rfl) ae))) (lM (LL (ax (eG (K:=K) rfl) rfl bl.isinstance_ bC (aa (qv 0) (aa (fK (v:=.ty "bool") rfl bl.bool_ sx rfl) ae)))))))),?_⟩
 subst e
 cases d <;> first|exact ⟨by decide,⟨by decide,.inl q⟩⟩|exact ⟨by decide,.inl q⟩|exact nomatch hk
def Nc:b9:=fun ds M Q _=>∃d m,ds=[d,.int m]/\xh d=true/\Q (.bl (gf m d)) M
theorem oV {f f1:ac} {fd bT:l5} (D:Df K mg "is_whole_below" du ["thing","many"] f fd) (cN:Df K mg "is_whole" fN ["thing"] f1 bT) (bl:Bl mg):FnOk P w K mg base bf 2 f fd ["thing","many"] (aY P w K tb Nc) :=by
 have AB:=yf (P:=P) (w:=w) (base:=base) (tb:=tb) cN bl
 refine eJ D oU (fun ds M Q E hS=>by obtain ⟨d,m,e,_⟩:=hS;rw [e];rfl) fun A outer s E Γ ds Q' E' hP hw hK ht hr hS=>?_
 obtain ⟨d,m,e,hk,q⟩:=hS
 refine ⟨_,(aq (aT (rC (aK AB (hr.mono (by decide)) rfl cN.mg cN.fn.kp cN.bd bz hP hw hK ht XR.none (aa (qv 0) ae)) (lM (EZ wo wm av (qv 0) (qv 1)))))),?_⟩
 subst e
 refine ⟨d,rfl,hk,?_⟩
 cases d with
 |int i=>
  simp! only [Dp]
  refine eB (fun h=>?_) (fun h=>?_)
  ·rw [show gf m (.int i)=decide (i<m) by simp only [gf,h,Wj]] at q
   exact .inl q
  ·rw [show gf m (.int i)=false by simp only [gf,h,SS]] at q
   exact .inl q
 |_=>exact .inl q
def ix (m:Int) (w:Nat):Dv->Bool | .tup ds=>decide (ds.length=w) && ds.all (gf m)|_=>false
def Fm:Dv->Bool | .tup ds=>ds.all xh|d=>xh d
def Nf:b9:=fun ds M Q _=>∃d m w,ds=[d,.int m,.int (w:Nat)]/\Fm d=true/\Q (.bl (ix m w d)) M
theorem Dq {f f1 f2:ac} {fd bT fd2:l5} {mM aV:ac} (D:Df K mg "is_row" kb ["thing","many","width"] f fd) (iy:yG base fd mM aV) (hp:aV∈tb) (dM:∃bm ob,Wa base mainGlobals mg bm ob)
  (bN:Df K mg "is_whole_below" du ["thing","many"] f1 bT) (cN:Df K mg "is_whole" fN ["thing"] f2 fd2) (bl:Bl mg):FnOk P w K mg base bf 4 f fd ["thing","many","width"] (aY P w K tb Nf) :=by
 have pX:=oV (P:=P) (w:=w) (base:=base) (tb:=tb) bN cN bl
 refine eJ D Dn (fun ds M Q E hS=>by obtain ⟨d,m,n,e,_⟩:=hS;rw [e];rfl) fun A outer s E Γ ds Q' E' hP hw hK ht hr hS=>?_
 obtain ⟨d,m,n,e,hk,q⟩:=hS
 have AD:aV∈Γ.tb:=ht▸hp
 refine ⟨_,(ai (cM (QW.pt (jl (dY (dn (ax (eG (K:=K) rfl) rfl bl.isinstance_ bC (aa (qv 0) (aa (fK (v:=.ty "tuple") rfl bl.tuple_ fw rfl) ae))))) (lL (bE wt (ax (bQ (K:=K) rfl hK) rfl bl.len_ nw (aa (qv 0) ae)) (qv 2) (bR _)))))
   (aq (aT gY))
   qss_nil)
  (aq (aT (CF (k:=2) (N':=["goal","many"]) (tn:=1) (idx:=[1]) AD (hr.mono (by decide)) rfl (show aI ["thing","many","width"] (aj kb) _ ["goal","many"] 1 [1] from by decide +kernel) rfl rfl iy.code iy.hd dM rfl bl.all_ (nQ (K:=K) rfl (qv 0)) (fun _ _ _ _ _ _ _ hr=>(aJ (i:=0) (show IF [("goal" : bn),("many" : bn)] from by decide +kernel) rfl (mT rfl))) (fun _ _ _ _ _ _ _ hr=>eY) (fun _ _ _ _ _ _ _ hr=>(aK pX (hr.mono (by decide)) rfl bN.mg bN.fn.kp bN.bd bz hP hw hK ht XR.none (aa (qv 0) (aa (qv 1) ae)))))))),?_⟩
 subst e
 cases d with
 |tup es=>
  refine ⟨by decide,eB (c := !decide ((es.length:Int)=(n:Nat))) (fun h=>?_) (fun h=>?_)⟩
  ·rw [show ix m n (.tup es)=false by simp at h;simp [ix];intro z;omega] at q
   exact .inl q
  ·rw [show ix m n (.tup es)=es.all (gf m) by simp at h;simp [ix,show es.length=n by omega]] at q
   refine sN (gf m) (fun τ=>∃x,τ=[x,some (.int m)]) ⟨none,rfl⟩ (fun d hd τ ⟨x,e⟩ R hR=>?_) (.inl q)
   subst e
   exact ⟨d,m,rfl,u4.mp hk d hd,hR _ ⟨_,rfl⟩⟩
 |_=>first|exact ⟨by decide,.inl q⟩|exact nomatch hk
def kh:Dv->Bool | .tup rs=>decide (1<=rs.length/\rs.length<=9) && (rs.all (ix rs.length 2) || rs.all (ix rs.length 3))|_=>false
def AF:Dv->Bool | .tup rs=>rs.all Fm|d=>xh d
def Ng:b9:=fun ds M Q _=>∃d,ds=[d]/\AF d=true/\Q (.bl (kh d)) M
theorem Dr {f f1 f2 f3:ac} {fd bT fd2 oh:l5} {mM aV xi bb:ac} (D:Df K mg "is_net" ke ["thing"] f fd) (mO:yG base fd xi bb) (pD:bb∈tb) (gG:Df K mg "is_row" kb ["thing","many","width"] f3 oh) (iy:yG base oh mM aV) (hp:aV∈tb) (dM:∃bm ob,Wa base mainGlobals mg bm ob)
  (bN:Df K mg "is_whole_below" du ["thing","many"] f1 bT) (cN:Df K mg "is_whole" fN ["thing"] f2 fd2) (bl:Bl mg) {tk:W9} (iz:mg "MOST_PLACES" = some (.int 9 tk)):FnOk P w K mg base bf 6 f fd ["thing"] (aY P w K tb Ng) :=by
 have Fn:=Dq (P:=P) (w:=w) (tb:=tb) gG iy hp dM bN cN bl
 refine eJ D og (fun ds M Q E hS=>by obtain ⟨d,e,_⟩:=hS;rw [e];rfl) fun A outer s E Γ ds Q' E' hP hw hK ht hr hS=>?_
 obtain ⟨d,e,hk,q⟩:=hS
 have mP:bb∈Γ.tb:=ht▸pD
 refine ⟨_,(ai (cM (QW.pt (jl (dY (dn (ax (eG (K:=K) rfl) rfl bl.isinstance_ bC (aa (qv 0) (aa (fK (v:=.ty "tuple") rfl bl.tuple_ fw rfl) ae))))) (lL (dY (wg wo wo av (ax (bQ (K:=K) rfl hK) rfl bl.len_ nw (aa (qv 0) ae)) (EX (i:=9) rfl iz ⟨_,rfl⟩))))))
   (aq (aT gY))
   qss_nil)
  (ai (aH (i:=1) og.nd rfl (IT rfl) (ax (bQ (K:=K) rfl hK) rfl bl.len_ nw (aa (qv 0) ae)))
  (ai (b8 qr rfl (nQ (K:=K) rfl (nO (aa av (aa av ae)))) (fun gQ eP ew eK et=>by have hP:=hP.trans eP.symm;have hw:=hw.trans ew.symm;have hK:=hK.trans eK.symm;have ht:=ht.trans et.symm;have mP:=et.symm▸mP;exact ⟨(aJ (i:=2) og.nd rfl (IT rfl)),(aq (cM (dn (CF (k:=4) (N':=["row","many","width"]) (tn:=1) (idx:=[1,2]) mP (hr.mono (by decide)) rfl (show aI ["thing","many","width"] (aj ke) _ ["row","many","width"] 1 [1,2] from by decide +kernel) rfl rfl mO.code mO.hd dM rfl bl.all_ (nQ (K:=K) rfl (qv 0)) (fun _ _ _ _ _ _ _ hr=>(aJ (i:=0) (show IF [("row" : bn),("many" : bn),("width" : bn)] from by decide +kernel) rfl (mT rfl))) (fun _ _ _ _ _ _ _ hr=>eY) (fun _ _ _ _ _ _ _ hr=>(aK Fn (hr.mono (by decide)) rfl gG.mg gG.fn.kp gG.bd bz hP hw hK ht XR.none (aa (qv 0) (aa (qv 1) (aa (qv 2) ae)))))))
   (aq (aT gY))
   qss_nil))⟩))
  (aq (aT gY))))),?_⟩
 subst e
 cases d with
 |tup rs=>
  refine ⟨by decide,?_⟩
  have row:∀(n:Nat) (D:Bool->Mh->Prop),(D (rs.all (ix rs.length n)) Γ.M0)->kR (zgName 0) zNoIf (zCall Nf (fun _ _=>False) (zCons (zVar 0) (zCons (zVar 1) (zCons (zVar 2) zNil)))) rs [none,some (.int rs.length),some (.int (n:Nat))] Γ.M0 D:=fun n D hD=>by
   refine sN (ix rs.length n) (fun τ=>∃x,τ=[x,some (.int rs.length),some (.int (n:Nat))]) ⟨none,rfl⟩ (fun d hd τ ⟨x,e⟩ R hR=>?_) hD
   subst e
   exact ⟨d,rs.length,n,rfl,u4.mp hk d hd,hR _ ⟨_,rfl⟩⟩
  simp! only []
  refine eB (fun h1=>eB (fun h2=>?_) (fun h2=>⟨by decide,?_⟩)) (fun h1=>?_)
  ·rw [show kh (.tup rs)=false by simp at h1 h2;simp [kh];intro z;omega] at q
   exact .inl q
  ·have e:kh (.tup rs)=(rs.all (ix rs.length 2) || rs.all (ix rs.length 3)) :=by
    simp at h1 h2
    simp only [kh]
    rw [decide_eq_true (by omega),Wj]
   rw [e] at q
   refine row 2 _ (eB (fun z=>?_) (fun z=>row 3 _ (eB (fun z2=>?_) (fun z2=>?_))))
   ·rw [z] at q;exact .inl q
   ·rw [z,z2] at q;exact .inl q
   ·rw [z,z2] at q;exact .inl q
  ·rw [show kh (.tup rs)=false by simp at h1;simp [kh];intro z;omega] at q
   exact .inl q
 |_=>first|exact ⟨by decide,.inl q⟩|exact nomatch hk
theorem yg:aN ["thing"] ["thing"] (aj jn):=⟨rfl,rfl,rfl,by decide +kernel,rfl,by decide +kernel,by decide +kernel⟩
theorem Du {m:Int} {g:Int} (h:0<=g/\g<m):gf m (.int g)=true :=by simp [gf,h.1,h.2]
theorem IH {net:List (List Int)} {n:Nat} (o:aS net n):kh (eN net)=true :=by
 have hr:∀d∈net.map eI,ix (net.map eI).length n d=true:=fun d hd=>by
  obtain ⟨r,hr,rfl⟩:=ss.mp hd
  obtain ⟨h1,h2⟩:=o.row r hr
  simp only [ix,c8]
  rw [decide_eq_true h1,Wj,u4]
  intro d hd
  obtain ⟨g,hg,rfl⟩:=ss.mp hd
  exact Du (h2 g hg)
 have ho:=o.one
 have hn:=o.nine
 simp only [kh,eN]
 rw [decide_eq_true (by rw [c8];omega),Wj]
 have ha:=u4.mpr hr
 rcases o.wid with rfl|rfl
 ·rw [ha];rfl
 ·rw [ha,Bool.or_true]
theorem II (net:List (List Int)):AF (eN net)=true :=by
 simp only [AF,eN]
 rw [u4]
 intro d hd
 obtain ⟨r,_,rfl⟩:=ss.mp hd
 simp only [Fm,eI]
 rw [u4]
 intro d hd
 obtain ⟨g,hg,rfl⟩:=ss.mp hd
 rfl
def Ha (C:ac):b9:=fun ds M Q E=>∃d,ds=[d]/\AF d=true/\(kh d=true->Q .au M)/\(kh d=false->E C M)
theorem yh {f f1:ac} {fd bT:l5} {C0 C_NoNet:ac} {cs:List ac} (D:Df K mg "need_net" jn ["thing"] f fd) (gH:Df K mg "is_net" ke ["thing"] f1 bT) (pY:FnOk P w K mg base bf 6 f1 bT ["thing"] (aY P w K tb Ng))
  (X_:sE K C0 cs) (jy:C_NoNet∈cs) (jz:mg "NoNet" = some (.ref C_NoNet)):FnOk P w K mg base (fi P w) 7 f fd ["thing"] (aY P w K tb (Ha C_NoNet)) :=by
 refine rJ D yg (fun ds M Q E hS=>by obtain ⟨d,e,_⟩:=hS;rw [e];rfl) fun A outer s E Γ ds Q' E' hP hw hK ht hE hr hS=>?_
 obtain ⟨d,e,hk,q1,q2⟩:=hS
 refine ⟨_,(aq (cM (dY (dn (aK pY (hr.mono (by decide)) rfl gH.mg gH.fn.kp gH.bd bz hP hw hK ht XR.none (aa (qv 0) ae))))
   (aq (wy (X_.ex _ jy) PySem.F.excBase_ValueError rfl B7 hE rfl jz (aa lJ ae)))
   qss_nil)),?_⟩
 subst e
 simp! only []
 refine ⟨d,rfl,hk,eB (fun h=>?_) (fun h=>?_)⟩
 ·exact ⟨by decide,q2 (by simpa using h)⟩
 ·exact .inl (q1 (by simpa using h))
end
section
theorem uB {κ:Type} [DecidableEq κ] {step:κ->Nat->κ} {k:κ} {w:bn} {st:List κ×List bn}:∀{n a:Nat},a<n->step k a∈(visit step k w n st).1
 |n+1,a,h=>by
          rw [fM]
          obtain ⟨ks,ws,h1,_⟩:=uw step k w (visit step k w n st) n
          by_cases e:a=n
          ·subst e
           unfold gF
           split
           ·assumption
           ·exact i1 _ (lp.mpr rfl)
          ·rw [h1]
           exact BS _ (uB (by omega))
theorem rW {κ:Type} [DecidableEq κ] {step:κ->Nat->κ} {k:κ} {w:bn} {st:List κ×List bn}:∀{n:Nat} {x:κ},x∈(visit step k w n st).1->x∈st.1\/∃a,a<n/\x=step k a
 |0,x,h=>.inl h
 |n+1,x,h=>by
          rw [fM] at h
          have h2:x∈(visit step k w n st).1\/x=step k n :=by
           unfold gF at h
           split at h
           ·exact .inl h
           ·exact (AL.mp h).imp id lp.mp
          rcases h2 with h2|h2
          ·exact (rW h2).imp id fun ⟨a,ha,e⟩=>⟨a,by omega,e⟩
          ·exact .inr ⟨n,by omega,h2⟩
theorem zj {κ:Type} [DecidableEq κ] {U:List κ} {step:κ->Nat->κ} {n most:Nat} {R:κ->Prop} (hs:∀k∈U,∀a,a<n->step k a∈U) (hm:U.length<=most) (hR:∀k,R k->∀a,a<n->R (step k a)):∀(fuel i:Nat) (st:List κ×List bn),fk U st->U.length<fuel+i->i<=st.1.length->
  (∀j k,st.1[j]?=some k->j<i->∀a,a<n->step k a∈st.1)->(∀k∈st.1,R k)->
  (∀k∈st.1,k∈(fj step n most fuel i st).1)/\(∀k∈(fj step n most fuel i st).1,R k/\∀a,a<n->step k a∈(fj step n most fuel i st).1)
 |0,i,st,ok,hf,hi,hc,hr=>by have:=ok.le;omega
 |fuel+1,i,st,ok,hf,hi,hc,hr=>by
          have hle:=ok.le
          have hlen:=ok.len
          by_cases bj:i<st.1.length
          ·have h1:=ag bj
           have h2:=ag (show i<st.2.length by omega)
           have me:st.1[i]∈st.1:=rb bj
           rw [rR h1 h2 (by omega)]
           obtain ⟨ks,ws,g1,g2⟩:=g5 step st.1[i] (st.2[i]'(by omega)) n st
           have sub:∀x∈st.1,x∈(visit step st.1[i] (st.2[i]'(by omega)) n st).1:=fun x hx=>by rw [g1];exact BS _ hx
           obtain ⟨r1,r2⟩:=zj hs hm hR fuel (i+1) (visit step st.1[i] (st.2[i]'(by omega)) n st) (ok.visit h2 fun a ha=>hs _ (ok.sub _ me) a ha) (by omega) (by rw [g1,ul];omega) (fun j k hj VH a ha=>by
            rw [g1,rf (by omega)] at hj
            by_cases e:j=i
            ·subst e
             rw [h1] at hj;cases hj
             exact uB ha
            ·exact sub _ (hc j k hj (by omega) a ha)) (fun k hk=>by
            rcases rW hk with z|⟨a,ha,rfl⟩
            ·exact hr k z
            ·exact hR _ (hr _ me) a ha)
           exact ⟨fun k hk=>r1 k (sub k hk),r2⟩
          ·have e:fj step n most (fuel+1) i st=st :=by
            unfold fj
            rw [JJ (by omega)]
           rw [e]
           exact ⟨fun k hk=>hk,fun k hk=>⟨hr k hk,fun a ha=>by
            obtain ⟨j,hj⟩:=l6.mp hk
            exact hc j k hj (by have:=(br.mp hj).1;omega) a ha⟩⟩
end
section
inductive fV (net:List (List Int)) (n:Nat) (s:Int):Int->Prop where
 |base:fV net n s s
 |step {p:Int} {a:Nat} (h:fV net n s p) (ha:a<n):fV net n s (bq net p a)
theorem fV.trans {net:List (List Int)} {n:Nat} {s p q:Int} (h:fV net n s p) (h2:fV net n p q):fV net n s q :=by
 induction h2 with
 |base=>exact h
 |step _ ha ih=>exact ih.step ha
theorem rX {net:List (List Int)} {n:Nat} (O:aS net n) {s p:Int} (hs:s∈ak net) (h:fV net n s p):p∈ak net :=by
 induction h with
 |base=>exact hs
 |step _ ha ih=>exact dI O ih ha
theorem places_len {net:List (List Int)}:(ak net).length=net.length :=by simp [ak]
theorem uC {net:List (List Int)}:(ak net).Nodup :=by
 unfold ak
 refine Xl _ (fun a b h=>?_) List.nodup_range
 intro e;exact h (Int.ofNat.inj e)
theorem Dw {net:List (List Int)}:(ak net).Pairwise (·<=·) :=by
 unfold ak
 refine Xl _ (fun a b h=>?_) (Sm (n:=net.length))
 show (a:Int)<=b
 omega
theorem jA {net:List (List Int)} {n:Nat} (O:aS net n) {s:Int} (hs:s∈ak net):fk (ak net) (cC net n s):=
 bfs_ok (fun _ hk _ ha=>dI O hk ha) _ _ _ (n5 hs)
theorem jB {net:List (List Int)} {n:Nat} (O:aS net n) {s p:Int} (hs:s∈ak net):p∈(cC net n s).1 ↔ fV net n s p :=by
 have hl:=places_len (net:=net)
 have h9:=O.nine
 obtain ⟨h1,h2⟩:=zj (U:=ak net) (step:=bq net) (n:=n) (most:=511) (R:=fV net n s) (fun _ hk _ ha=>dI O hk ha) (by omega) (fun k hk a ha=>hk.step ha) (net.length+1) 0 ([s],[""]) (n5 hs) (by omega) (sw _) (fun j k _ hj=>absurd hj (Re _)) (fun k hk=>by rw [lp.mp hk];exact .base)
 constructor
 ·exact fun h=>(h2 p h).1
 ·intro h
  induction h with
  |base=>exact h1 s (lp.mpr rfl)
  |step _ ha ih=>exact (h2 _ ih).2 _ ha
def u6 (net:List (List Int)) (n:Nat) (a b:Int):Prop:=fV net n a b/\fV net n b a
noncomputable instance {net:List (List Int)} {n:Nat} {a b:Int}:Decidable (fV net n a b):=LS _
noncomputable instance {net:List (List Int)} {n:Nat} {a b:Int}:Decidable (u6 net n a b):=LS _
noncomputable def gI (net:List (List Int)) (n:Nat) (a:Int):List Int:=(ak net).filter fun b=>decide (u6 net n a b)
def mQ (net:List (List Int)) (n:Nat) (a:Int):Prop:=∀b∈gI net n a,a<=b
noncomputable instance {net:List (List Int)} {n:Nat} {a:Int}:Decidable (mQ net n a):=LS _
noncomputable def dF (net:List (List Int)) (n i:Nat):List Int:=((ak net).take i).filter fun a=>decide (mQ net n a)
noncomputable def cW (net:List (List Int)) (n:Nat):List (List Int):=(dF net n net.length).map (gI net n)
theorem jC {net:List (List Int)} {n:Nat} {a b:Int}:b∈gI net n a ↔ b∈ak net/\u6 net n a b :=by
 unfold gI
 rw [Ll,decide_eq_true_eq]
theorem mR {net:List (List Int)} {n:Nat} {a:Int} (h:a∈ak net):a∈gI net n a:=jC.mpr ⟨h,.base,.base⟩
theorem xj {net:List (List Int)} {n:Nat} {a:Int}:(gI net n a).Pairwise (·<=·):=Dw.filter _
theorem IJ {net:List (List Int)} {n:Nat} {a:Int}:(gI net n a).length<=net.length:=wv (Wu _ _) (V3 places_len)
def gy (net:List (List Int)) (n:Nat) (p:Int):List Int:=(cC net n p).1.filter fun g=>decide (p∈(cC net n g).1)
theorem ki {net:List (List Int)} {n:Nat} (O:aS net n) {p g:Int} (hp:p∈ak net):g∈gy net n p ↔ g∈gI net n p :=by
 unfold gy
 rw [Ll,decide_eq_true_eq,jC,jB O hp]
 constructor
 ·rintro ⟨h1,h2⟩
  have hg:=rX O hp h1
  exact ⟨hg,h1,(jB O hg).mp h2⟩
 ·rintro ⟨hg,h1,h2⟩
  exact ⟨h1,(jB O hg).mpr h2⟩
theorem uD {net:List (List Int)} {n:Nat} (O:aS net n) {p:Int} (hp:p∈ak net):(gI net n p).Perm (gy net n p):=
 (List.perm_ext_iff_of_nodup (uC.filter _) ((jA O hp).nd.filter _)).mpr fun q=>(ki O hp).symm
theorem Dx {net:List (List Int)} {n:Nat} (O:aS net n) {p:Int} (hp:p∈ak net):sortI (gy net n p)=gI net n p:=(vQ (uD O hp) xj).symm
theorem Fo {net:List (List Int)} {n:Nat} (O:aS net n) {p:Int} (hp:p∈ak net):(gy net n p).length<=9 :=by
 rw [<- (uD O hp).length_eq]
 exact wv IJ O.nine
theorem Fp {net:List (List Int)} {n:Nat} (O:aS net n) {p m:Int} (hp:p∈ak net) (hm:m∈gy net n p) (h:∀a∈gy net n p,m<=a):p=m ↔ mQ net n p :=by
 constructor
 ·rintro rfl b hb
  exact h b ((ki O hp).mpr hb)
 ·intro hh
  have h1:=hh m ((ki O hp).mp hm)
  have h2:=h p ((ki O hp).mpr (mR hp))
  omega
theorem cls_cons {net:List (List Int)} {n:Nat} {a:Int} (h:a∈ak net):∃v t,gI net n a=v::t/\(v=a ↔ mQ net n a) :=by
 cases e:gI net n a with
 |nil=>have:=mR (n:=n) h;rw [e] at this;cases this
 |cons v t=>
  refine ⟨v,t,rfl,?_⟩
  have pw:=xj (net:=net) (n:=n) (a:=a)
  rw [e,List.pairwise_cons] at pw
  constructor
  ·intro ev b hb
   subst ev
   rw [e] at hb
   rcases kw.mp hb with rfl|hb
   ·exact Int.le_refl _
   ·exact pw.1 b hb
  ·intro hh
   have h1:=hh v (by rw [e];exact l9)
   have hs:=mR (n:=n) h
   rw [e] at hs
   rcases kw.mp hs with rfl|hs
   ·rfl
   ·have:=pw.1 _ hs;omega
theorem pE {net:List (List Int)} {n i:Nat} (hi:i<net.length):dF net n (i+1)=if mQ net n (i:Int) then dF net n i++[(i:Int)] else dF net n i :=by
 have e:(ak net).take (i+1)=(ak net).take i++[(i:Int)] :=by
  have:(ak net)[i]?=some (i:Int) :=by unfold ak;rw [ce,xb hi];rfl
  rw [List.take_succ,this];rfl
 unfold dF
 rw [e,List.filter_append]
 by_cases h:mQ net n (i:Int)
 ·rw [if_pos h,Pc,if_pos (decide_eq_true h)];rfl
 ·rw [if_neg h,Pc,if_neg (by simpa using h)];simp
theorem rY {net:List (List Int)} {n i:Nat}:(dF net n i).length<=net.length:=wv (Wu _ _) (wv (List.length_take_le' ..) (V3 places_len))
theorem dG {net:List (List Int)} {i:Nat} (h:i<net.length):((i:Nat):Int)∈ak net:=aO.mpr ⟨by omega,by omega⟩
def bH (rs:List (List Bool)) (i j:Nat):Bool:=(rs.getD i []).getD j false
def setB (rs:List (List Bool)) (i j:Nat) (b:Bool):List (List Bool):=rs.set i ((rs.getD i []).set j b)
structure iW (m:Nat) (rs:List (List Bool)):Prop where
 len:rs.length=m
 row:∀(i:Nat) (r:List Bool),rs[i]?=some r->r.length=m
theorem iW.get {m:Nat} {rs:List (List Bool)} (o:iW m rs) {i:Nat} (hi:i<m):∃r,rs[i]?=some r/\r.length=m/\rs.getD i []=r :=by
 have h:=ag (show i<rs.length by rw [o.len];exact hi)
 exact ⟨_,h,o.row _ _ h,by rw [ci,h];rfl⟩
theorem iW.set {m:Nat} {rs:List (List Bool)} (o:iW m rs) {i j:Nat} {b:Bool} (hi:i<m):iW m (setB rs i j b) :=by
 obtain ⟨r,h1,h2,h3⟩:=o.get hi
 refine ⟨by unfold setB;rw [GM];exact o.len,fun k s hs=>?_⟩
 unfold setB at hs
 rw [h3,LH] at hs
 split at hs
 ·split at hs
  ·cases hs;rw [GM];exact h2
  ·cases hs
 ·exact o.row _ _ hs
theorem Fq {m:Nat} {rs:List (List Bool)} (o:iW m rs) {i j k l:Nat} {b:Bool} (hi:i<m) (hj:j<m):bH (setB rs i j b) k l=if k=i/\l=j then b else bH rs k l :=by
 obtain ⟨r,h1,h2,h3⟩:=o.get hi
 have e:(rs.set i (r.set j b)).getD k []=if i=k then r.set j b else rs.getD k [] :=by
  rw [ci,LH]
  by_cases hk:i=k
  ·rw [if_pos hk,if_pos hk,if_pos (by rw [o.len];exact hi)];rfl
  ·rw [if_neg hk,if_neg hk,ci]
 have e2:(r.set j b).getD l false=if j=l then b else r.getD l false :=by
  rw [ci,LH]
  by_cases hl:j=l
  ·rw [if_pos hl,if_pos hl,if_pos (by omega)];rfl
  ·rw [if_neg hl,if_neg hl,ci]
 unfold bH setB
 rw [h3,e]
 by_cases hk:i=k
 ·subst hk
  rw [if_pos rfl,e2,h3]
  by_cases hl:j=l
  ·rw [if_pos hl,if_pos ⟨rfl,hl.symm⟩]
  ·rw [if_neg hl,if_neg fun z=>hl z.2.symm]
 ·rw [if_neg hk,if_neg fun z=>hk z.1.symm]
def hZ (mid i:Nat) (rs:List (List Bool)) (j:Nat):List (List Bool):=setB rs i j (bH rs i j || (bH rs i mid && bH rs mid j))
def pI (m mid:Nat) (rs:List (List Bool)) (i:Nat):List (List Bool):=(i0 m).foldl (hZ mid i) rs
def sV (m:Nat) (rs:List (List Bool)) (mid:Nat):List (List Bool):=(i0 m).foldl (pI m mid) rs
def allB (m:Nat) (rs:List (List Bool)):List (List Bool):=(i0 m).foldl (sV m) rs
def startB (net:List (List Int)):List (List Bool):=(i0 net.length).map fun i:Nat=>(i0 net.length).map fun j:Nat=>decide (i=j) || decide ((j:Int)∈net.getD i [])
def fH (net:List (List Int)):List (List Bool):=allB net.length (startB net)
structure UpB (m:Nat) (R:Nat->Nat->Prop) (rs ts:List (List Bool)):Prop where
 sq:iW m ts
 up:∀i j,i<m->j<m->bH rs i j=true->bH ts i j=true
 ok:∀i j,i<m->j<m->bH ts i j=true->R i j
theorem UpB.trans {m:Nat} {R:Nat->Nat->Prop} {a b c:List (List Bool)} (x:UpB m R a b) (y:UpB m R b c):UpB m R a c:=⟨y.sq,fun i j hi hj h=>y.up i j hi hj (x.up i j hi hj h),y.ok⟩
theorem IK {m mid i j:Nat} {R:Nat->Nat->Prop} (hR:∀a b c,R a b->R b c->R a c) {rs:List (List Bool)} (hm:mid<m) (hi:i<m) (hj:j<m) (o:iW m rs) (ok:∀i j,i<m->j<m->bH rs i j=true->R i j) :
  UpB m R rs (hZ mid i rs j)/\(bH rs i mid=true->bH rs mid j=true->bH (hZ mid i rs j) i j=true) :=by
 have g:=fun k l=>Fq (k:=k) (l:=l) (b:=bH rs i j || (bH rs i mid && bH rs mid j)) o hi hj
 refine ⟨⟨o.set hi,fun k l hk hl h=>?_,fun k l hk hl h=>?_⟩,fun h1 h2=>?_⟩
 ·unfold hZ
  rw [g]
  split
  ·rename_i q;obtain ⟨rfl,rfl⟩:=q;rw [h];rfl
  ·exact h
 ·unfold hZ at h
  rw [g] at h
  split at h
  ·rename_i q
   obtain ⟨rfl,rfl⟩:=q
   rw [VP,B0] at h
   rcases h with h|⟨h1,h2⟩
   ·exact ok _ _ hk hl h
   ·exact hR _ _ _ (ok _ _ hk hm h1) (ok _ _ hm hl h2)
  ·exact ok _ _ hk hl h
 ·unfold hZ
  rw [g,if_pos ⟨rfl,rfl⟩,h1,h2]
  simp
theorem fold_succ {α:Type} (f:α->Nat->α) (a:α) (k:Nat):(i0 (k+1)).foldl f a=f ((i0 k).foldl f a) k :=by rw [List.range_succ,Xg];rfl
theorem Dy {m mid i:Nat} {R:Nat->Nat->Prop} (hR:∀a b c,R a b->R b c->R a c) {rs:List (List Bool)} (hm:mid<m) (hi:i<m) (o:iW m rs) (ok:∀i j,i<m->j<m->bH rs i j=true->R i j):∀k,k<=m->
  UpB m R rs ((i0 k).foldl (hZ mid i) rs)/\∀j,j<k->bH rs i mid=true->bH rs mid j=true->bH ((i0 k).foldl (hZ mid i) rs) i j=true
 |0,_=>⟨⟨o,fun _ _ _ _ h=>h,ok⟩,fun j h=>absurd h (Re _)⟩
 |k+1,hk=>by
          obtain ⟨u,h⟩:=Dy hR hm hi o ok k (by omega)
          obtain ⟨u2,h2⟩:=IK (i:=i) (j:=k) hR hm hi (show k<m by omega) u.sq u.ok
          rw [fold_succ]
          refine ⟨u.trans u2,fun j hj h3 h4=>?_⟩
          by_cases e:j=k
          ·subst e
           exact h2 (u.up _ _ hi hm h3) (u.up _ _ hm (by omega) h4)
          ·exact u2.up _ _ hi (by omega) (h j (by omega) h3 h4)
theorem mid_up {m mid:Nat} {R:Nat->Nat->Prop} (hR:∀a b c,R a b->R b c->R a c) {rs:List (List Bool)} (hm:mid<m) (o:iW m rs) (ok:∀i j,i<m->j<m->bH rs i j=true->R i j):∀k,k<=m->
  UpB m R rs ((i0 k).foldl (pI m mid) rs)/\∀i j,i<k->j<m->bH rs i mid=true->bH rs mid j=true->bH ((i0 k).foldl (pI m mid) rs) i j=true
 |0,_=>⟨⟨o,fun _ _ _ _ h=>h,ok⟩,fun i j h=>absurd h (Re _)⟩
 |k+1,hk=>by
          obtain ⟨u,h⟩:=mid_up hR hm o ok k (by omega)
          obtain ⟨u2,h2⟩:=Dy (i:=k) hR hm (show k<m by omega) u.sq u.ok m (cr _)
          rw [fold_succ]
          refine ⟨u.trans u2,fun i j hi hj h3 h4=>?_⟩
          by_cases e:i=k
          ·subst e
           exact h2 j hj (u.up _ _ (by omega) hm h3) (u.up _ _ hm hj h4)
          ·exact u2.up _ _ (by omega) hj (h i j (by omega) hj h3 h4)
inductive iA (E:Nat->Nat->Prop) (m k:Nat):Nat->Nat->Prop where
 |one {i j:Nat} (h:E i j):iA E m k i j
 |two {i j l:Nat} (hl:l<k) (h1:iA E m k i l) (h2:iA E m k l j):iA E m k i j
theorem Fs {E:Nat->Nat->Prop} {m k i j:Nat} (h:iA E m (k+1) i j):iA E m k i j\/(iA E m k i k/\iA E m k k j) :=by
 induction h with
 |one h=>exact .inl (.one h)
 | @two i j l hl _ _ Hb Hc=>
  by_cases e:l=k
  ·subst e
   have a:iA E m l i l:=Hb.elim id (·.1)
   have b:iA E m l l j:=Hc.elim id (·.2)
   exact .inr ⟨a,b⟩
  ·have hl:l<k :=by omega
   rcases Hb with a|⟨a,b⟩ <;> rcases Hc with c|⟨c,d⟩
   ·exact .inl (.two hl a c)
   ·exact .inr ⟨.two hl a c,d⟩
   ·exact .inr ⟨a,.two hl b c⟩
   ·exact .inr ⟨a,d⟩
theorem Nh {E:Nat->Nat->Prop} {m k:Nat} (hE:∀i j,E i j->i<m/\j<m) {i j:Nat} (h:iA E m k i j):i<m/\j<m :=by
 induction h with
 |one h=>exact hE _ _ h
 |two _ _ _ Hb Hc=>exact ⟨Hb.1,Hc.2⟩
theorem Dz {m:Nat} {R E:Nat->Nat->Prop} (hR:∀a b c,R a b->R b c->R a c) (hE:∀i j,E i j->i<m/\j<m) {rs:List (List Bool)} (o:iW m rs) (ok:∀i j,i<m->j<m->bH rs i j=true->R i j) (st:∀i j,E i j->bH rs i j=true):∀k,k<=m->
  UpB m R rs ((i0 k).foldl (sV m) rs)/\∀i j,iA E m k i j->bH ((i0 k).foldl (sV m) rs) i j=true
 |0,_=>⟨⟨o,fun _ _ _ _ h=>h,ok⟩,fun i j h=>by
          cases h with
          |one h=>exact st _ _ h
          |two hl=>exact absurd hl (Re _)⟩
 |k+1,hk=>by
          obtain ⟨u,h⟩:=Dz hR hE o ok st k (by omega)
          obtain ⟨u2,h2⟩:=mid_up (mid:=k) hR (show k<m by omega) u.sq u.ok m (cr _)
          rw [fold_succ]
          refine ⟨u.trans u2,fun i j w=>?_⟩
          obtain ⟨hi,hj⟩:=Nh hE w
          rcases Fs w with w|⟨w1,w2⟩
          ·exact u2.up _ _ hi hj (h i j w)
          ·exact h2 i j hi hj (h _ _ w1) (h _ _ w2)
theorem pZ (net:List (List Int)):iW net.length (startB net) :=by
 refine ⟨by simp [startB],fun i r h=>?_⟩
 unfold startB at h
 rw [ce] at h
 obtain ⟨k,_,rfl⟩:=lc.mp h
 simp
theorem uE {net:List (List Int)} {i j:Nat} (hi:i<net.length) (hj:j<net.length):bH (startB net) i j=(decide (i=j) || decide ((j:Int)∈net.getD i [])) :=by
 unfold bH startB
 rw [ci (l:=List.map _ _),ce,xb hi]
 show List.getD (List.map _ _) j false=_
 rw [ci,ce,xb hj]
 rfl
theorem oi {net:List (List Int)} {n:Nat} (O:aS net n) {i:Nat} (hi:i<net.length) {q:Int}:q∈net.getD i [] ↔ ∃a,a<n/\bq net (i:Int) a=q :=by
 have e:net.getD i []=net[i]:=getD_at hi
 have hr:=(O.row _ (rb hi)).1
 have hs:∀a,a<n->bq net (i:Int) a=(net.getD i []).getD a 0:=fun a _=>by unfold bq;rw [ut]
 constructor
 ·intro h
  obtain ⟨a,ha⟩:=l6.mp h
  have hl:=(br.mp ha).1
  rw [e,hr] at hl
  exact ⟨a,hl,by rw [hs a hl,ci,ha];rfl⟩
 ·rintro ⟨a,ha,rfl⟩
  rw [hs a ha]
  have hl:a<(net.getD i []).length :=by rw [e,hr];exact ha
  rw [getD_at hl]
  exact rb hl
theorem xk {net:List (List Int)} {n:Nat} (O:aS net n):iW net.length (fH net)/\∀i j,i<net.length->j<net.length->(bH (fH net) i j=true ↔ fV net n (i:Int) (j:Int)) :=by
 let E:Nat->Nat->Prop:=fun i j=>(i<net.length/\j<net.length)/\(i=j\/(j:Int)∈net.getD i [])
 obtain ⟨u,w⟩:=Dz (R:=fun i j=>fV net n (i:Int) (j:Int)) (E:=E) (rs:=startB net) (fun a b c=>fV.trans) (fun i j h=>h.1) (pZ net) (fun i j hi hj h=>by
   rw [uE hi hj,VP,decide_eq_true_eq,decide_eq_true_eq] at h
   rcases h with rfl|h
   ·exact .base
   ·obtain ⟨a,ha,e⟩:=(oi O hi).mp h
    rw [<- e]
    exact .step .base ha) (fun i j h=>by
   rw [uE h.1.1 h.1.2,VP,decide_eq_true_eq,decide_eq_true_eq]
   exact h.2) net.length (cr _)
 refine ⟨u.sq,fun i j hi hj=>⟨u.ok i j hi hj,fun h=>w i j ?_⟩⟩
 have:∀q:Int,fV net n (i:Int) q->∀j:Nat,q=(j:Int)->iA E net.length net.length i j:=fun q h=>by
  induction h with
  |base=>
   intro j e
   have e:i=j :=by omega
   subst e
   exact .one ⟨⟨hi,hi⟩,.inl rfl⟩
  | @step p a hp ha ih=>
   intro j e
   have pp:=aO.mp (rX O (dG hi) hp)
   have pq:=aO.mp (rX O (dG hi) (hp.step ha))
   obtain ⟨l,rfl⟩:=wb pp.1
   have hl:l<net.length :=by omega
   have hj:j<net.length :=by omega
   refine .two hl (ih l rfl) (.one ⟨⟨hl,hj⟩,.inr ?_⟩)
   rw [<- e]
   exact (oi O hl).mpr ⟨a,ha,rfl⟩
 exact this _ h j rfl
end
section
variable {P:ff} {w:ii} {K:bi} {mg:bn->Option al} {base:ge} {tb:cu} {C_NoNet:ac}
theorem kj:aN ["net","reached","told","place","part"] ["net"] (aj jx):=⟨rfl,rfl,rfl,by decide +kernel,rfl,by decide +kernel,by decide +kernel⟩
theorem oW:aN ["net"] ["net"] (aj eQ):=⟨rfl,rfl,rfl,by decide +kernel,rfl,by decide +kernel,by decide +kernel⟩
theorem iJ {M0 M:Mh} (h:Keeps M0 M) {a:ac} (ha:M a=none):M0 a=none :=by
 cases e:M0 a with
 |none=>rfl
 |some u=>rw [h a u e] at ha;cases ha
structure k4 (M0 M:Mh) (a:ac) (bs:List ac) (rs:List (List Int)):Prop where
 a0:M0 a=none
 am:M a=some (.lst (bs.map .ptr))
 len:bs.length=rs.length
 bm:∀(j:Nat) (b:ac) (r:List Int),bs[j]?=some b->rs[j]?=some r->M b=some (.lst (r.map .int))
 b0:∀b∈bs,M0 b=none/\b≠a
 kp:Keeps M0 M
 oth:∀c o,M c=some o->M0 c=some o\/c=a\/∃r:List Int,o=.lst (r.map .int)
theorem k4.junk {M0 M:Mh} {a c:ac} {bs:List ac} {rs:List (List Int)} {r:List Int} (h:k4 M0 M a bs rs) (hc:M c=none):k4 M0 (aA M c (.lst (r.map .int))) a bs rs :=by
 have uz:a≠c:=fun e=>by have:=h.am;rw [e,hc] at this;cases this
 have c0:=iJ h.kp hc
 refine ⟨h.a0,by rw [ah uz];exact h.am,h.len,fun j b s hb hs=>?_,h.b0,.upd c0 h.kp,fun d o e=>?_⟩
 ·have:=h.bm j b s hb hs
  rw [ah (fun e=>by rw [e,hc] at this;cases this)]
  exact this
 ·by_cases z:d=c
  ·subst z;rw [updM_same] at e;cases e;exact .inr (.inr ⟨r,rfl⟩)
  ·rw [ah z] at e;exact h.oth d o e
theorem k4.snoc {M0 M:Mh} {a c:ac} {bs:List ac} {rs:List (List Int)} {r:List Int} (h:k4 M0 M a bs rs) (hc:M c=none):k4 M0 (aA (aA M c (.lst (r.map .int))) a (.lst (bs.map .ptr++[.ptr c]))) a (bs++[c]) (rs++[r]) :=by
 have uz:a≠c:=fun e=>by have:=h.am;rw [e,hc] at this;cases this
 have c0:=iJ h.kp hc
 have hj:=h.junk (r:=r) hc
 refine ⟨h.a0,by rw [updM_same,xy];rfl,by simp [h.len],fun j b s hb hs=>?_,fun b hb=>?_,.upd h.a0 hj.kp,fun d o e=>?_⟩
 ·by_cases hi:j<bs.length
  ·rw [rf hi] at hb
   rw [rf (by rw [<- h.len];exact hi)] at hs
   rw [ah (h.b0 b (gc hb)).2]
   exact hj.bm j b s hb hs
  ·have j9:=(br.mp hb).1
   rw [ul,FM] at j9
   have e:j=bs.length :=by omega
   subst e
   rw [sK (cr _),Pe] at hb
   rw [h.len,sK (cr _),Pe] at hs
   cases hb;cases hs
   rw [ah (zd uz),updM_same]
 ·rcases AL.mp hb with z|z
  ·exact h.b0 b z
  ·rw [lp.mp z];exact ⟨c0,zd uz⟩
 ·by_cases z:d=a
  ·exact .inr (.inl z)
  ·rw [ah z] at e;exact hj.oth d o e
theorem AG {m j:Nat} (h:j<m):(bW 0 m)[j]?=some (.int (j:Nat)) :=by
 unfold bW
 rw [ce,xb h]
 show some (Dv.int (0+(j:Int)))=_
 rw [LF]
def wF (net:List (List Int)) (n:Nat):Dv->Dv
 | .int i=>n8 (cC net n i)
 |d=>d
def Hd (net:List (List Int)) (n:Nat):List Dv:=(bW 0 net.length).map (wF net n)
theorem He {net:List (List Int)} {n:Nat} {p:Int} (h:p∈ak net):b5 (Hd net n) p=some (n8 (cC net n p)) :=by
 obtain ⟨h1,h2⟩:=aO.mp h
 obtain ⟨j,rfl⟩:=wb h1
 refine b6 ?_
 unfold Hd
 rw [ce,AG (by omega)]
 rfl
theorem Ni {net:List (List Int)} {n:Nat} {p:Int}:(((cC net n p).1.map DO).map sR).filter (fun d=>match d with | .int g=>decide (p∈(cC net n g).1)|_=>false)=(gy net n p).map Dv.int :=by
 unfold gy
 rw [xL,List.filter_map]
 rfl
theorem Ft {S S':b9} {cx:gK} {k:Nat} {f:ac} {fd:l5} {ps:List bn} (G:FnOk P w K mg base cx k f fd ps (aY P w K tb S')) (h:∀ds M Q E,S ds M Q E->S' ds M Q E):FnOk P w K mg base cx k f fd ps (aY P w K tb S):=
 G.imp fun vs H Q E ⟨β,ds,M,Q',E',e1,e2,e3,e4,m,r,hS,q,qe⟩=>⟨β,ds,M,Q',E',e1,e2,e3,e4,m,r,h _ _ _ _ hS,q,qe⟩
def Fu:b9:=fun ds M Q _=>∃net n,ds=[eN net]/\aS net n/\((∀a bs M',k4 M M' a bs (cW net n)->Q (.ptr a) M')\/Q (.lst ((cW net n).map jf)) M)
theorem Fv {f f1 f2:ac} {fd bT fd2:l5} (D:Df K mg "parts" jx ["net"] f fd)
  (fQ:Df K mg "need_net" jn ["thing"] f1 bT) (mS:FnOk P w K mg base (fi P w) 7 f1 bT ["thing"] (aY P w K tb (Ha C_NoNet)))
  (bt:Df K mg "first_words" aC ["net","start"] f2 fd2) (dC:FnOk P w K mg base bf 8 f2 fd2 ["net","start"] (aY P w K tb wZ)) (bl:Bl mg) :
  FnOk P w K mg base (fi P w) 9 f fd ["net"] (aY P w K tb Fu) :=by
 refine rJ D kj (fun ds M Q E hS=>by obtain ⟨net,n,e,_⟩:=hS;rw [e];rfl) fun A outer s E Γ ds Q' E' hP hw hK ht hE hr hS=>?_
 obtain ⟨net,n,e,O,q⟩:=hS
 refine ⟨_,(ai (iq (aK mS (hr.mono (by decide)) rfl fQ.mg fQ.fn.kp fQ.bd uX hP hw hK ht hE (aa (qv 0) ae)))
  (ai (aH (i:=1) kj.nd rfl (IT rfl) (iE (N':=["place","net"]) (tn:=1) (idx:=[0]) rfl (show aI ["net","reached","told","place","part"] (aj jx) _ ["place","net"] 1 [0] from by decide +kernel) (a7 rfl bl.range_ (aa (ax (bQ (K:=K) rfl hK) rfl bl.len_ nw (aa (qv 0) ae)) ae)) (fun _ _ _ _ _=>(aJ (i:=0) (show IF [("place" : bn),("net" : bn)] from by decide +kernel) rfl (mT rfl))) (fun _ _ _ _ _=>eY) (fun _ _ _ _ _=>(aK dC (hr.mono (by decide)) rfl bt.mg bt.fn.kp bt.bd bz hP hw hK ht XR.none (aa (qv 1) (aa (qv 0) ae))))))
  (ai (aH (i:=2) kj.nd rfl (mT rfl) (ju ae))
  (ai (PS.jd (b8 qr rfl (a7 rfl bl.range_ (aa (ax (bQ (K:=K) rfl hK) rfl bl.len_ nw (aa (qv 0) ae)) ae)) (fun gQ eP ew eK et=>by have hP:=hP.trans eP.symm;have hw:=hw.trans ew.symm;have hK:=hK.trans eK.symm;have ht:=ht.trans et.symm;exact ⟨(aJ (i:=3) kj.nd rfl (IT rfl)),(ai (mH (i:=4) kj.nd rfl rfl (N':=["goal","place","reached"]) (tn:=1) (idx:=[3,1]) rfl (show aI ["net","reached","told","place","part"] (aj jx) _ ["goal","place","reached"] 1 [3,1] from by decide +kernel) (IA (aQ (bp (K:=K) rfl) (qv 1) (qv 3) (fun _ _=>rfl))) (fun _ _ _ _ _=>(aJ (i:=0) (show IF [("goal" : bn),("place" : bn),("reached" : bn)] from by decide +kernel) rfl (mT rfl))) (fun _ _ _ _ _=>(sF (bE (OX hr.units) (qv 1) (aQ (bp (K:=K) rfl) (qv 2) (qv 0) (fun _ _=>rfl)) (by rfl)))) (fun _ _ _ _ _=>(qv 0)))
  (aq (cM (bE sH (qv 3) (ax (MO (K:=K) rfl rfl) rfl bl.min_ qU (aa (qv 4) ae)) (bR _))
   (aq (iq (mF (K:=K) rfl EM Pf Pi mG (qv 2) (aa (ax (C9 hP hw (K:=K) rfl rfl) rfl bl.sorted_ t5 (aa (qv 4) ae)) ae))))
   qss_nil)))⟩)))
  (aq (aT (qv 2))))))),?_⟩
 subst e
 have h9:=O.nine
 have big:(1000:Nat)<sizeLine :=by decide
 refine ⟨_,rfl,II net,fun _=>?_,fun h=>by rw [IH O] at h;cases h⟩
 simp! only []
 refine ⟨by omega,by omega,by omega,jv (wF net n) (fun τ M=>(∃x,τ=[x,some (eN net)])/\M=Γ.M0) ⟨⟨_,rfl⟩,rfl⟩ (fun d hd τ M hI R hR=>?_) (fun τ M hI=>?_)⟩
 ·obtain ⟨⟨x,rfl⟩,rfl⟩:=hI
  obtain ⟨j,hj⟩:=l6.mp hd
  obtain ⟨rfl,DA⟩:=a8 hj
  simp! only []
  rw [LF] at hR
  exact ⟨net,n,_,rfl,O,dG DA,hR _ _ ⟨⟨_,rfl⟩,rfl⟩⟩
 obtain ⟨⟨x,rfl⟩,rfl⟩:=hI
 refine ⟨sw _,fun a ha=>⟨by omega,by omega,?_⟩⟩
 refine bo (fun i ρ M=>∃bs,(∃x3 x4,ρ=[some (eN net),some (.lst (Hd net n)),some (.ptr a),x3,x4])/\k4 Γ.M0 M a bs ((dF net n i).map (gI net n))/\i<=net.length) ⟨[],⟨_,_,rfl⟩,⟨ha,updM_same,rfl,(fun j b r h=>nomatch h),(fun b h=>nomatch h),.upd ha .refl,fun c o e=>?_⟩,sw _⟩ (fun i d ρ M N hd hJ hN=>?_) (fun ρ M hJ=>?_)
 ·by_cases z:c=a
  ·exact .inr (.inl z)
  ·rw [ah z] at e;exact .inl e
 ·obtain ⟨bs,⟨x3,x4,rfl⟩,iX,hi⟩:=hJ
  obtain ⟨rfl,ig⟩:=a8 hd
  have hp:=dG (net:=net) ig
  simp! only [He hp]
  show _<sizeLine/\_
  have ok:=jA O hp
  have hle:=ok.le
  have c9:=places_len (net:=net)
  refine ⟨by rw [c8];omega,?_⟩
  refine mI (fun d=>match d with | .int g=>decide ((i:Int)∈(cC net n g).1)|_=>false) (fun d hd R hR=>?_) ?_
  ·rw [xL] at hd
   obtain ⟨g,hg,rfl⟩:=ss.mp hd
   have QJ:=rX O hp ((jB O hp).mp hg)
   have UO:=jA O QJ
   show zTest (zOp (zDIn false) (zVar 1) (zOp zIx (zVar 2) (zVar 0))) [some (.int g),some (Dv.int i),some (Dv.lst (Hd net n))] M R
   simp! only [He QJ]
   show R (look ((cC net n g).1.map DO) ((cC net n g).2.map Dv.str) (DO (i:Int))).isSome M
   rw [mL oR,SO,ux UO.len]
   exact hR
  ·rw [Ni,Uf,iT]
   have QK:=Fo (n:=n) O hp
   have Pj:(i:Int)∈gy net n i:=(ki O hp).mpr (mR hp)
   have VI:bs.length<=9 :=by rw [iX.len,c8];exact wv rY h9
   refine ⟨SB Pj,(fun t e=>nomatch e),fun m hm Si=>?_⟩
   have Gb:=Fp O hp hm Si
   refine eB (fun h=>?_) (fun h=>?_)
   ·have h:=of_decide_eq_true h
    rw [iX.am]
    refine ⟨trivial,by show (gy net n (i:Int)).length<64;omega,fun c hc=>?_⟩
    show match aA M c (.lst ((sortI (gy net n (i:Int))).map .int)) a with|some (Mo.lst xs)=>_|_=>False
    rw [Dx O hp]
    have uz:a≠c:=fun e=>by have:=iX.am;rw [e,hc] at this;cases this
    rw [ah uz,iX.am]
    refine ⟨by rw [c8];omega,hN _ _ ⟨bs++[c],⟨_,_,rfl⟩,?_,ig⟩⟩
    rw [pE ig,if_pos (Gb.mp h),xy]
    exact iX.snoc hc
   ·have h:=of_decide_eq_false h
    refine hN _ _ ⟨bs,⟨_,_,rfl⟩,?_,ig⟩
    rw [pE ig,if_neg fun z=>h (Gb.mpr z)]
    exact iX
 ·obtain ⟨bs,⟨x3,x4,rfl⟩,iX,hi⟩:=hJ
  rw [rangeD_len] at iX
  simp! only []
  rcases q with q|q
  ·exact .inl (q a bs M iX)
  ·refine .inr ⟨iX.kp,_,.ptr (ds':=(cW net n).map jf) iX.a0 iX.am (by rw [c8,c8];exact iX.len) fun j d d' e1 e2=>?_,q⟩
   rw [ce] at e1 e2
   obtain ⟨b,hb,rfl⟩:=lc.mp e1
   obtain ⟨r,hr,rfl⟩:=lc.mp e2
   refine .ptr (iX.b0 b (gc hb)).1 (iX.bm j b r hb hr) rfl fun k d d' e1 e2=>?_
   rw [e1] at e2;cases e2
   obtain ⟨x,_,rfl⟩:=ss.mp (gc e1)
   exact .pin (.int x)
def zk:b9:=fun ds M Q _=>∃net n,ds=[eN net]/\aS net n/\Q (.lst ((cW net n).map jf)) M
theorem AH {net:List (List Int)} {n:Nat}:(cW net n).length<=net.length :=by unfold cW;rw [c8];exact rY
def DB:b9:=fun ds M Q _=>∃net n,ds=[eN net]/\aS net n/\Q (.bl (decide ((cW net n).length=1))) M
theorem oX {f f1:ac} {fd bT:l5} (D:Df K mg "hangs_together" eQ ["net"] f fd)
  (jD:Df K mg "parts" jx ["net"] f1 bT) (IL:FnOk P w K mg base (fi P w) 9 f1 bT ["net"] (aY P w K tb zk)) (bl:Bl mg) :
  FnOk P w K mg base (fi P w) 10 f fd ["net"] (aY P w K tb DB) :=by
 refine rJ D oW (fun ds M Q E hS=>by obtain ⟨net,n,e,_⟩:=hS;rw [e];rfl) fun A outer s E Γ ds Q' E' hP hw hK ht hE hr hS=>?_
 obtain ⟨net,n,e,O,q⟩:=hS
 refine ⟨_,(aq (aT (lK sH (ax (bQ (K:=K) rfl hK) rfl bl.len_ nw (aa (aK IL (hr.mono (by decide)) rfl jD.mg jD.fn.kp jD.bd uX hP hw hK ht hE (aa (qv 0) ae)) ae)) av (bR _)))),?_⟩
 subst e
 have h9:=O.nine
 have hl:=AH (net:=net) (n:=n)
 simp! only []
 refine ⟨net,n,rfl,O,?_⟩
 simp! only []
 rw [show decide (((cW net n).length:Int)=1)=decide ((cW net n).length=1) from decide_eq_decide.mpr (by omega)]
 exact .inl q
end
section
variable {P:ff} {w:ii} {K:bi} {mg:bn->Option al} {base:ge} {tb:cu}
theorem eX:aN ["_law_net_here","_law_reach_here","_law_middle","_law_one","_law_other"] ["_law_net_here"] (aj fE):=⟨rfl,rfl,rfl,by decide +kernel,rfl,by decide +kernel,by decide +kernel⟩
def DC (r:List Bool):Dv:=.lst (r.map .bl)
structure RowsB (M0 M:Mh) (bs:List ac) (rs:List (List Bool)):Prop where
 len:bs.length=rs.length
 bm:∀(j:Nat) (b:ac) (r:List Bool),bs[j]?=some b->rs[j]?=some r->M b=some (.lst (r.map .bl))
 b0:∀b∈bs,M0 b=none
 nd:bs.Nodup
 kp:Keeps M0 M
structure js (M0 M:Mh) (a:ac) (bs:List ac) (rs:List (List Bool)):Prop extends RowsB M0 M bs rs where
 a0:M0 a=none
 am:M a=some (.lst (bs.map .ptr))
 ab:a ∉ bs
theorem RowsB.has {M0 M:Mh} {bs:List ac} {rs:List (List Bool)} (h:RowsB M0 M bs rs) {b:ac} (hb:b∈bs):M b≠none:=fun e=>by
 obtain ⟨j,hj⟩:=l6.mp hb
 have hl:=(br.mp hj).1
 have:=h.bm j b _ hj (ag (show j<rs.length by rw [<- h.len];exact hl))
 rw [e] at this
 cases this
theorem RowsB.snoc {M0 M:Mh} {c:ac} {bs:List ac} {rs:List (List Bool)} {r:List Bool} (h:RowsB M0 M bs rs) (hc:M c=none):RowsB M0 (aA M c (.lst (r.map .bl))) (bs++[c]) (rs++[r]) :=by
 have c0:=iJ h.kp hc
 have cn:c ∉ bs:=fun z=>h.has z hc
 refine ⟨by simp [h.len],fun j b s hb hs=>?_,fun b hb=>?_,?_,.upd c0 h.kp⟩
 ·by_cases hi:j<bs.length
  ·rw [rf hi] at hb
   rw [rf (by rw [<- h.len];exact hi)] at hs
   rw [ah fun e=>cn (by rw [<- e];exact gc hb)]
   exact h.bm j b s hb hs
  ·have j9:=(br.mp hb).1
   rw [ul,FM] at j9
   have e:j=bs.length :=by omega
   subst e
   rw [sK (cr _),Pe] at hb
   rw [h.len,sK (cr _),Pe] at hs
   cases hb;cases hs
   rw [updM_same]
 ·rcases AL.mp hb with z|z
  ·exact h.b0 b z
  ·rw [lp.mp z];exact c0
 ·rw [SL]
  exact ⟨h.nd,by simp,fun x hx y hy e=>by
   have e2:=lp.mp hy
   subst e2;subst e
   exact cn hx⟩
theorem RowsB.top {M0 M:Mh} {a:ac} {bs:List ac} {rs:List (List Bool)} (h:RowsB M0 M bs rs) (ha:M a=none):js M0 (aA M a (.lst (bs.map .ptr))) a bs rs :=by
 have an:a ∉ bs:=fun z=>h.has z ha
 have a0:=iJ h.kp ha
 exact ⟨⟨h.len,fun j b r hb hr=>by rw [ah fun e=>an (by rw [<- e];exact gc hb)];exact h.bm j b r hb hr,h.b0,h.nd,.upd a0 h.kp⟩,a0,updM_same,an⟩
theorem js.cell {M0 M:Mh} {a:ac} {bs:List ac} {rs:List (List Bool)} {m:Nat} (h:js M0 M a bs rs) (o:iW m rs) {i:Nat} (hi:i<m):∃b r,bs[i]?=some b/\rs[i]?=some r/\r.length=m/\M b=some (.lst (r.map .bl))/\b5 (bs.map Dv.ptr) (i:Nat)=some (.ptr b)/\∀j,j<m->b5 (r.map Dv.bl) (j:Nat)=some (.bl (bH rs i j)) :=by
 obtain ⟨r,h1,h2,h3⟩:=o.get hi
 have hb:=ag (show i<bs.length by rw [h.len,o.len];exact hi)
 refine ⟨_,r,hb,h1,h2,h.bm i _ r hb h1,b6 (by rw [ce,hb];rfl),fun j hj=>b6 ?_⟩
 unfold bH
 rw [h3,ce,ag (show j<r.length by omega),getD_at (by omega)]
 rfl
theorem js.put {M0 M:Mh} {a b:ac} {bs:List ac} {rs:List (List Bool)} {i j:Nat} {r:List Bool} {v:Bool} (h:js M0 M a bs rs) (hb:bs[i]?=some b) (hr:rs[i]?=some r):js M0 (aA M b (.lst ((r.set j v).map .bl))) a bs (setB rs i j v) :=by
 have hm:=gc hb
 have rn:a≠b:=fun e=>h.ab (e▸hm)
 have er:rs.getD i []=r :=by rw [ci,hr];rfl
 refine ⟨⟨by unfold setB;rw [GM];exact h.len,fun k c s hc hs=>?_,h.b0,h.nd,.upd (h.b0 b hm) h.kp⟩,h.a0,by rw [ah rn];exact h.am,h.ab⟩
 unfold setB at hs
 rw [er,LH] at hs
 by_cases hk:i=k
 ·subst hk
  rw [hb] at hc;cases hc
  rw [if_pos rfl] at hs
  split at hs
  ·cases hs;rw [updM_same]
  ·cases hs
 ·rw [if_neg hk] at hs
  have ne:c≠b:=fun e=>by
   subst e
   exact hk ((List.getElem?_inj (br.mp hb).1 h.nd).mp (hb.trans hc.symm))
  rw [ah ne]
  exact h.bm k c s hc hs
def AI (net:List (List Int)) (i:Nat):Dv->Dv
 | .int j=>.bl (decide ((i:Int)=j) || decide (j∈net.getD i []))
 |d=>d
theorem IM {net:List (List Int)} {i:Nat} (hi:i<net.length):∃r,(startB net)[i]?=some r/\(bW 0 net.length).map (AI net i)=r.map Dv.bl :=by
 refine ⟨(i0 net.length).map fun j:Nat=>decide (i=j) || decide ((j:Int)∈net.getD i []),?_,?_⟩
 ·unfold startB
  rw [ce,xb hi]
  rfl
 ·unfold bW
  rw [xL,xL]
  refine WM fun j _=>?_
  show Dv.bl (decide ((i:Int)=0+(j:Int)) || decide (0+(j:Int)∈net.getD i []))=_
  rw [LF,show decide ((i:Int)=(j:Int))=decide (i=j) from decide_eq_decide.mpr (by omega)]
  rfl
def zl:b9:=fun ds M Q _=>∃net n,ds=[eN net]/\aS net n/\Q (.lst ((fH net).map DC)) M
theorem xl {f:ac} {fd:l5} (D:Df K mg "_law_reach" fE ["_law_net_here"] f fd) (bl:Bl mg) :
  FnOk P w K mg base bf 1 f fd ["_law_net_here"] (aY P w K tb zl) :=by
 refine eJ D eX (fun ds M Q E hS=>by obtain ⟨net,n,e,_⟩:=hS;rw [e];rfl) fun A outer s E Γ ds Q' E' hP hw hK ht hr hS=>?_
 obtain ⟨net,n,e,O,q⟩:=hS
 refine ⟨_,(ai (wV (i:=1) eX.nd rfl rfl (N':=["_law_one","_law_net_here"]) (tn:=1) (idx:=[0]) rfl (show dq ["_law_net_here","_law_reach_here","_law_middle","_law_one","_law_other"] (aj fE) _ ["_law_one","_law_net_here"] 1 [0] from by decide +kernel) (a7 rfl bl.range_ (aa (ax (bQ (K:=K) rfl hK) rfl bl.len_ nw (aa (qv 0) ae)) ae)) (fun _ _ _ _ _=>(aJ (i:=0) (show IF [("_law_one" : bn),("_law_net_here" : bn)] from by decide +kernel) rfl (IT rfl))) (fun _ _ _ _ _=>eY) (fun _ _ _ _ _=>(wz (N':=["_law_other","_law_one","_law_net_here"]) (tn:=1) (idx:=[0,1]) rfl (aI.rel (show aI ["_law_one","_law_net_here"] _ _ ["_law_other","_law_one","_law_net_here"] 1 [0,1] from by decide +kernel)) (a7 rfl bl.range_ (aa (ax (bQ (K:=K) rfl hK) rfl bl.len_ nw (aa (qv 1) ae)) ae)) (fun _ _ _ _ _=>(aJ (i:=0) (show IF [("_law_other" : bn),("_law_one" : bn),("_law_net_here" : bn)] from by decide +kernel) rfl (mT rfl))) (fun _ _ _ _ _=>eY) (fun _ _ _ _ _=>(GA (lK sH (qv 1) (qv 0) (bR _)) (lM (lK (wC (K:=K) rfl) (qv 0) (aQ (bp (K:=K) rfl) (qv 2) (qv 1) (fun _ _=>rfl)) (by rfl))))))))
  (ai (b8 qr rfl (a7 rfl bl.range_ (aa (ax (bQ (K:=K) rfl hK) rfl bl.len_ nw (aa (qv 0) ae)) ae)) (fun gQ eP ew eK et=>by have hP:=hP.trans eP.symm;have hw:=hw.trans ew.symm;have hK:=hK.trans eK.symm;have ht:=ht.trans et.symm;exact ⟨(aJ (i:=2) eX.nd rfl (mT rfl)),(aq (b8 qr rfl (a7 rfl bl.range_ (aa (ax (bQ (K:=K) rfl hK) rfl bl.len_ nw (aa (qv 0) ae)) ae)) (fun gQ eP ew eK et=>by have hP:=hP.trans eP.symm;have hw:=hw.trans ew.symm;have hK:=hK.trans eK.symm;have ht:=ht.trans et.symm;exact ⟨(aJ (i:=3) eX.nd rfl (mT rfl)),(aq (b8 qr rfl (a7 rfl bl.range_ (aa (ax (bQ (K:=K) rfl hK) rfl bl.len_ nw (aa (qv 0) ae)) ae)) (fun gQ eP ew eK et=>by have hP:=hP.trans eP.symm;have hw:=hw.trans ew.symm;have hK:=hK.trans eK.symm;have ht:=ht.trans et.symm;exact ⟨(aJ (i:=4) eX.nd rfl (mT rfl)),(aq (jZ (GA (aQ (bp (K:=K) rfl) (aQ (bp (K:=K) rfl) (qv 1) (qv 3) (fun _ _=>rfl)) (qv 4) (fun _ _=>rfl)) (lM (rC (aQ (bp (K:=K) rfl) (aQ (bp (K:=K) rfl) (qv 1) (qv 3) (fun _ _=>rfl)) (qv 2) (fun _ _=>rfl)) (lM (aQ (bp (K:=K) rfl) (aQ (bp (K:=K) rfl) (qv 1) (qv 2) (fun _ _=>rfl)) (qv 4) (fun _ _=>rfl)))))) (j1 (aQ (bp (K:=K) rfl) (qv 1) (qv 3) (fun _ _=>rfl)) (qv 4))))⟩)))⟩)))⟩))
  (aq (aT (qv 1))))),?_⟩
 subst e
 have h9:=O.nine
 have big:(1000:Nat)<sizeLine :=by decide
 simp! only []
 refine ⟨by omega,by omega,by omega,ka (acc:=[]) (fun acc τ M=>∃bs,acc=bs.map Dv.ptr/\RowsB Γ.M0 M bs ((startB net).take acc.length)/\(∃x,τ=[x,some (eN net)])) ⟨[],rfl,⟨rfl,(fun j b r h=>nomatch h),(fun b h=>nomatch h),.nil,.refl⟩,_,rfl⟩ (fun i d acc τ M hd hl hJ R hR=>?_) (fun ys τ M hl hJ=>?_)⟩
 ·obtain ⟨bs,rfl,hB,x,rfl⟩:=hJ
  obtain ⟨rfl,hi⟩:=a8 hd
  have hl:bs.length=i :=by simpa using hl
  obtain ⟨r,UP,uF⟩:=IM hi
  simp! only []
  refine ⟨by omega,by omega,by omega,jv (AI net i) (fun τ M2=>(∃x,τ=[x,some (.int (i:Nat)),some (eN net)])/\M2=M) ⟨⟨_,rfl⟩,rfl⟩ (fun d hd τ M2 hI R2 Nj=>?_) (fun τ M2 hI=>?_)⟩
  ·obtain ⟨⟨x,rfl⟩,rfl⟩:=hI
   obtain ⟨j,hj⟩:=l6.mp hd
   obtain ⟨rfl,DA⟩:=a8 hj
   have hx:=lU (net:=net) (dG hi)
   simp! only [hx]
   rw [LF] at Nj
   refine eB (fun h=>?_) (fun h=>?_)
   ·have:=Nj [some (.int (j:Nat)),some (.int (i:Nat)),some (eN net)] _ ⟨⟨_,rfl⟩,rfl⟩
    rw [show AI net i (.int (j:Nat))=.bl true by show Dv.bl (decide ((i:Int)=j) || _)=_;rw [h];rfl] at this
    exact this
   ·have:=Nj [some (.int (j:Nat)),some (.int (i:Nat)),some (eN net)] _ ⟨⟨_,rfl⟩,rfl⟩
    rw [show AI net i (.int (j:Nat))=.bl (decide ((j:Int)∈net.getD i [])) by show Dv.bl (decide ((i:Int)=j) || _)=_;rw [h];rfl] at this
    rw [Uf,iT]
    exact this
  ·obtain ⟨⟨x,rfl⟩,rfl⟩:=hI
   rw [uF]
   intro c hc
   refine hR _ _ _ ⟨bs++[c],by rw [xy];rfl,?_,_,rfl⟩
   have et:(startB net).take (bs.map Dv.ptr++[Dv.ptr c]).length=(startB net).take (bs.map Dv.ptr).length++[r] :=by
    rw [ul,c8,FM,hl,List.take_succ,UP]
    rfl
   rw [et]
   exact hB.snoc hc
 ·obtain ⟨bs,rfl,hB,x,rfl⟩:=hJ
  have hm:bs.length=net.length :=by rw [rangeD_len,c8] at hl;exact hl
  have et:(startB net).take (bs.map Dv.ptr).length=startB net :=by
   rw [c8,hm,<- (pZ net).len,Xv]
  rw [GS,et] at hB
  intro a ha
  have iX:=hB.top ha
  have o0:=pZ net
  refine ⟨by omega,by omega,?_⟩
  refine bo (fun k ρ M=>(∃x2 x3 x4,ρ=[some (eN net),some (.ptr a),x2,x3,x4])/\js Γ.M0 M a bs ((i0 k).foldl (sV net.length) (startB net))/\iW net.length ((i0 k).foldl (sV net.length) (startB net))) ⟨⟨_,_,_,rfl⟩,iX,o0⟩ (fun k d ρ M N hd hJ hN=>?_) (fun ρ M hJ=>?_)
  ·obtain ⟨⟨x2,x3,x4,rfl⟩,hB,o⟩:=hJ
   obtain ⟨rfl,hk⟩:=a8 hd
   rw [fold_succ] at hN
   generalize (i0 k).foldl (sV net.length) (startB net)=rk at hB o hN
   simp! only []
   refine ⟨by omega,by omega,?_⟩
   refine bo (fun i ρ M=>(∃x3 x4,ρ=[some (eN net),some (.ptr a),some (.int (k:Nat)),x3,x4])/\js Γ.M0 M a bs ((i0 i).foldl (pI net.length k) rk)/\iW net.length ((i0 i).foldl (pI net.length k) rk)) ⟨⟨_,_,rfl⟩,hB,o⟩ (fun i d ρ M N2 hd hJ ik=>?_) (fun ρ M hJ=>?_)
   ·obtain ⟨⟨x3,x4,rfl⟩,hB,o⟩:=hJ
    obtain ⟨rfl,hi⟩:=a8 hd
    rw [fold_succ] at ik
    generalize (i0 i).foldl (pI net.length k) rk=ri at hB o ik
    simp! only []
    refine ⟨by omega,by omega,?_⟩
    refine bo (fun j ρ M=>(∃x4,ρ=[some (eN net),some (.ptr a),some (.int (k:Nat)),some (.int (i:Nat)),x4])/\js Γ.M0 M a bs ((i0 j).foldl (hZ k i) ri)/\iW net.length ((i0 j).foldl (hZ k i) ri)) ⟨⟨_,rfl⟩,hB,o⟩ (fun j d ρ M N3 hd hJ Dm=>?_) (fun ρ M hJ=>?_)
    ·obtain ⟨⟨x4,rfl⟩,hB,o⟩:=hJ
     obtain ⟨rfl,hj⟩:=a8 hd
     rw [fold_succ] at Dm
     generalize (i0 j).foldl (hZ k i) ri=rj at hB o Dm
     obtain ⟨b,r,hb,hr,rV,UQ,ab,ar⟩:=hB.cell o hi
     obtain ⟨b2,r2,o9,uF,Vl,Sj,UR,ar2⟩:=hB.cell o hk
     simp! only [hB.am,ab,UR,UQ,Sj,ar _ hj,ar _ hk,ar2 _ hj]
     have hx:fu r.length (j:Nat)=some j:=lV (by omega)
     have fin:∀v:Bool,v=(bH rj i j || (bH rj i k && bH rj k j))->N3 [some (eN net),some (.ptr a),some (.int (k:Nat)),some (.int (i:Nat)),some (.int (j:Nat))] (aA M b (.lst ((r.map Dv.bl).set j (.bl v)))):=fun v e=>by
      refine Dm _ _ ⟨⟨_,rfl⟩,?_,o.set hi⟩
      rw [<- Xz,e]
      exact hB.put hb hr
     simp only [hx]
     refine eB (fun h=>fin _ (by rw [h];rfl)) (fun h=>eB (fun h2=>fin _ (by rw [h,h2];rfl)) (fun h2=>fin _ (by rw [h,h2];rfl)))
    ·obtain ⟨⟨x4,rfl⟩,hB,o⟩:=hJ
     rw [rangeD_len] at hB o
     exact ik _ _ ⟨⟨_,_,rfl⟩,hB,o⟩
   ·obtain ⟨⟨x3,x4,rfl⟩,hB,o⟩:=hJ
    rw [rangeD_len] at hB o
    exact hN _ _ ⟨⟨_,_,_,rfl⟩,hB,o⟩
  ·obtain ⟨⟨x2,x3,x4,rfl⟩,hB,o⟩:=hJ
   rw [rangeD_len] at hB o
   simp! only []
   refine .inr ⟨hB.kp,_,.ptr (ds':=(fH net).map DC) hB.a0 hB.am (by rw [c8,c8];exact hB.len) fun j d d' e1 e2=>?_,q⟩
   rw [ce] at e1 e2
   obtain ⟨b,hb,rfl⟩:=lc.mp e1
   obtain ⟨r,hr,rfl⟩:=lc.mp e2
   refine .ptr (hB.b0 b (gc hb)) (hB.bm j b r hb hr) rfl fun k d d' e1 e2=>?_
   rw [e1] at e2;cases e2
   obtain ⟨x,_,rfl⟩:=ss.mp (gc e1)
   exact .pin (.bl x)
end
section
inductive dO (net:List (List Int)) (n:Nat):Nat->Int->Int->Prop where
 |nil (s:Int):dO net n 0 s s
 |snoc {L:Nat} {s p:Int} {a:Nat} (h:dO net n L s p) (ha:a<n):dO net n (L+1) s (bq net p a)
theorem dO.app {net:List (List Int)} {n K L:Nat} {s p q:Int} (h:dO net n K s p) (h2:dO net n L p q):dO net n (K+L) s q :=by
 induction h2 with
 |nil=>exact h
 |snoc _ ha ih=>exact (ih h).snoc ha
theorem zm {net:List (List Int)} {n:Nat} {s p:Int} (h:fV net n s p):∃L,dO net n L s p :=by
 induction h with
 |base=>exact ⟨0,.nil s⟩
 |step _ ha ih=>obtain ⟨L,w⟩:=ih;exact ⟨L+1,w.snoc ha⟩
theorem xm {net:List (List Int)} {n L:Nat} (O:aS net n) {s p:Int} (hs:s∈ak net) (h:dO net n L s p):p∈ak net :=by
 induction h with
 |nil=>exact hs
 |snoc _ ha ih=>exact dI O (ih hs) ha
theorem IP {net:List (List Int)} {n L:Nat} {s q:Int} (h:dO net n L s q):∃f:Nat->Int,f 0=s/\f L=q/\∀i j,i<=j->j<=L->dO net n (j - i) (f i) (f j) :=by
 induction h with
 |nil s=>exact ⟨fun _=>s,rfl,rfl,fun i j h1 h2=>by rw [show j - i=0 by omega];exact .nil _⟩
 | @snoc L s p a w ha ih=>
  obtain ⟨f,h0,hL,hf⟩:=ih
  refine ⟨fun i=>if i<=L then f i else bq net p a,by simp [h0],if_neg (by omega),fun i j h1 h2=>?_⟩
  show dO net n (j - i) (if i<=L then f i else bq net p a) (if j<=L then f j else bq net p a)
  by_cases hj:j<=L
  ·rw [if_pos hj,if_pos (show i<=L by omega)]
   exact hf i j h1 hj
  ·rw [if_neg hj]
   have ej:j=L+1 :=by omega
   subst ej
   by_cases hi:i<=L
   ·rw [if_pos hi]
    have:=(hf i L hi (cr _)).snoc ha
    rw [hL] at this
    rw [show L+1 - i=L - i+1 by omega]
    exact this
   ·rw [if_neg hi,show L+1 - i=0 by omega]
    exact .nil _
theorem jt {net:List (List Int)} {n c:Nat} (O:aS net n) (h:∀s∈ak net,∀L,1<=L->L<=net.length->dO net n L s s->c ∣ L):∀(N L:Nat),L<=N->∀s∈ak net,dO net n L s s->c ∣ L
 |N,0,_,_,_,_=>Nat.dvd_zero c
 |0,L+1,hN,_,_,_=>absurd hN (by omega)
 |N+1,L+1,hN,s,hs,w=>by
          by_cases hl:L+1<=net.length
          ·exact h s hs _ (by omega) hl w
          ·obtain ⟨f,h0,hL,hf⟩:=IP w
           have:∃i j,i<j/\j<=net.length/\f i=f j :=by
            refine VR fun UT=>?_
            have nd:((i0 (net.length+1)).map f).Nodup :=by
             refine (Xl (R:=fun i j=>i<j/\j<net.length+1) f (fun i j qy e=>UT ⟨i,j,qy.1,by omega,e⟩) ?_)
             refine (Sm (n:=net.length+1)).imp_of_mem fun _ hb rn=>⟨rn,ES.mp hb⟩
            have:=eW _ (ak net) nd fun x hx=>by
             obtain ⟨i,hi,rfl⟩:=ss.mp hx
             have hi:=ES.mp hi
             have w0:=hf 0 i (sw _) (by omega)
             rw [h0] at w0
             exact xm O hs w0
            rw [c8,SC,places_len] at this
            omega
           obtain ⟨i,j,qy,hj,e⟩:=this
           have w1:=hf i j (by omega) (by omega)
           have w0:=hf 0 i (sw _) (by omega)
           have w2:=hf j (L+1) (by omega) (cr _)
           rw [h0] at w0
           have hp:=xm O hs w0
           rw [<- e] at w1 w2
           rw [hL] at w2
           have wr:=w0.app w2
           have d1:=jt O h N (j - i) (by omega) (f i) hp w1
           have d2:=jt O h N _ (by omega) s hs wr
           rw [show L+1=(j - i)+(i - 0+(L+1 - j)) by omega]
           exact Nat.dvd_add d1 d2
def mU (W:Nat->Int->Prop) (st:List Int×List bn):Prop:=st.1.length=st.2.length/\∀(i:Nat) (k:Int) (w:bn),st.1[i]?=some k->st.2[i]?=some w->W w.length k
theorem DE {W:Nat->Int->Prop} {step:Int->Nat->Int} {k:Int} {w:bn} {st:List Int×List bn} {a:Nat} (o:mU W st) (h:W (w.length+1) (step k a)):mU W (gF step k w st a) :=by
 unfold gF
 split
 ·exact o
 ·refine ⟨by simp [o.1],fun i k2 w2 h1 h2=>?_⟩
  by_cases hi:i<st.1.length
  ·rw [rf hi] at h1
   rw [rf (by rw [<- o.1];exact hi)] at h2
   exact o.2 i k2 w2 h1 h2
  ·have hl:=(br.mp h1).1
   rw [ul,FM] at hl
   have e:i=st.1.length :=by omega
   subst e
   rw [sK (cr _),Pe] at h1
   rw [o.1,sK (cr _),Pe] at h2
   cases h1;cases h2
   rw [rQ,sS]
   exact h
theorem rZ {W:Nat->Int->Prop} {step:Int->Nat->Int} {k:Int} {w:bn} {st:List Int×List bn}:∀{n:Nat},mU W st->(∀a,a<n->W (w.length+1) (step k a))->mU W (visit step k w n st)
 |0,o,_=>o
 |n+1,o,h=>by
          rw [fM]
          exact DE (rZ o fun a ha=>h a (by omega)) (h n (by omega))
theorem xn {W:Nat->Int->Prop} {step:Int->Nat->Int} {n most:Nat} (hW:∀L k,W L k->∀a,a<n->W (L+1) (step k a)):∀(fuel i:Nat) (st:List Int×List bn),mU W st->mU W (fj step n most fuel i st)
 |0,_,_,o=>o
 |fuel+1,i,st,o=>by
          cases e1:st.1[i]? with
          |none=>unfold fj;rw [e1];exact o
          |some k=>
           cases e2:st.2[i]? with
           |none=>unfold fj;rw [e1,e2];exact o
           |some w=>
            by_cases h:st.1.length<=most
            ·rw [rR e1 e2 h]
             exact xn hW fuel _ _ (rZ o fun a ha=>hW _ _ (o.2 i k w e1 e2) a ha)
            ·unfold fj
             rw [e1,e2]
             simp only [if_neg h]
             exact o
def p0 (net:List (List Int)) (n:Nat) (p:Int):bn:=(look (cC net n 0).1 (cC net n 0).2 p).getD ""
def bA (net:List (List Int)) (n:Nat) (p:Int):Nat:=(p0 net n p).length
theorem fc {net:List (List Int)} {n:Nat} (O:aS net n):(0:Int)∈ak net:=aO.mpr ⟨Int.le_refl _,by have:=O.one;omega⟩
theorem p7 {net:List (List Int)} {n:Nat} (O:aS net n) {p:Int} (h:fV net n 0 p):look (cC net n 0).1 (cC net n 0).2 p=some (p0 net n p)/\dO net n (bA net n p) 0 p :=by
 have hp:=(jB O (fc O)).mpr h
 obtain ⟨i,hi⟩:=l6.mp hp
 have ok:=jA O (fc O)
 have hl:=(br.mp hi).1
 have hw:=ag (show i<(cC net n 0).2.length by rw [<- ok.len];exact hl)
 have e:=lO ok.nd hi hw
 have pr:mU (fun L k=>dO net n L 0 k) (cC net n 0):=xn (fun L k w a ha=>w.snoc ha) _ _ _ ⟨rfl,fun i k w h1 h2=>by
  match i with
  |0=>cases h1;cases h2;exact .nil _
  |i+1=>exact nomatch h1⟩
 have e2:p0 net n p=(cC net n 0).2[i]'(by rw [<- ok.len];exact hl) :=by unfold p0;rw [e];rfl
 refine ⟨by rw [e,e2],?_⟩
 unfold bA
 rw [e2]
 exact pr.2 i p _ hi hw
theorem Fw {net:List (List Int)} {n:Nat} (O:aS net n):bA net n 0=0 :=by
 have ok:=jA O (fc O)
 have h1:(cC net n 0).1[0]?=some 0/\(cC net n 0).2[0]?=some ("" : bn) :=by
  have g:∀(fuel i:Nat) (st:List Int×List bn),st.1[0]?=some 0->st.2[0]?=some ("" : bn)->(fj (bq net) n 511 fuel i st).1[0]?=some 0/\(fj (bq net) n 511 fuel i st).2[0]?=some ("" : bn):=fun fuel=>by
   induction fuel with
   |zero=>intro i st h1 h2;exact ⟨h1,h2⟩
   |succ fuel ih=>
    intro i st h1 h2
    cases e1:st.1[i]? with
    |none=>unfold fj;rw [e1];exact ⟨h1,h2⟩
    |some k=>
     cases e2:st.2[i]? with
     |none=>unfold fj;rw [e1,e2];exact ⟨h1,h2⟩
     |some w=>
      by_cases h:st.1.length<=511
      ·rw [rR e1 e2 h]
       obtain ⟨ks,ws,g1,g2⟩:=g5 (bq net) k w n st
       exact ih _ _ (by rw [g1];exact lN h1) (by rw [g2];exact lN h2)
      ·unfold fj
       rw [e1,e2]
       simp only [if_neg h]
       exact ⟨h1,h2⟩
  exact g _ _ _ rfl rfl
 have e:=lO ok.nd h1.1 h1.2
 unfold bA p0
 rw [e]
 rfl
def cS (net:List (List Int)) (n:Nat):Prop:=∀a∈ak net,∀b∈ak net,fV net n a b
noncomputable instance {net:List (List Int)} {n:Nat}:Decidable (cS net n):=LS _
structure qa (net:List (List Int)) (n g:Nat):Prop where
 dv:∀p∈ak net,∀a,a<n->(g:Int) ∣ (bA net n p:Int)+1 - bA net n (bq net p a)
 mx:∀c:Nat,(∀p∈ak net,∀a,a<n->(c:Int) ∣ (bA net n p:Int)+1 - bA net n (bq net p a))->c ∣ g
structure Fx (net:List (List Int)) (n g:Nat):Prop where
 dv:∀s∈ak net,∀L,1<=L->L<=net.length->dO net n L s s->g ∣ L
 mx:∀c:Nat,(∀s∈ak net,∀L,1<=L->L<=net.length->dO net n L s s->c ∣ L)->c ∣ g
theorem DF {net:List (List Int)} {n g L:Nat} (O:aS net n) (h:∀p∈ak net,∀a,a<n->(g:Int) ∣ (bA net n p:Int)+1 - bA net n (bq net p a)) {s q:Int} (hs:s∈ak net) (w:dO net n L s q):(g:Int) ∣ (bA net n s:Int)+L - bA net n q :=by
 induction w with
 |nil s=>exact ⟨0,by omega⟩
 | @snoc L s p a w ha ih=>
  have hp:=xm O hs w
  obtain ⟨x,hx⟩:=ih hs
  obtain ⟨y,hy⟩:=h p hp a ha
  exact ⟨x+y,by rw [Int.mul_add,<- hx,<- hy];omega⟩
theorem Fy {net:List (List Int)} {n g g':Nat} (O:aS net n) (W:cS net n) (h:qa net n g) (h':Fx net n g'):g=g':=by
 have h0:=fc O
 refine Nat.dvd_antisymm (h'.mx g fun s hs L _ _ w=>?_) (h.mx g' fun p hp a ha=>?_)
 ·have:=DF O h.dv hs w
  rw [show (bA net n s:Int)+L - bA net n s=(L:Int) by omega] at this
  exact V7.mp this
 ·have hq:=dI O hp ha
  obtain ⟨e,we⟩:=zm (W _ hq 0 h0)
  have w1:=(((p7 O (W 0 h0 p hp)).2).snoc ha).app we
  have w2:=((p7 O (W 0 h0 _ hq)).2).app we
  obtain ⟨x,hx⟩:=jt O h'.dv _ _ (cr _) 0 h0 w1
  obtain ⟨y,hy⟩:=jt O h'.dv _ _ (cr _) 0 h0 w2
  refine ⟨(x:Int) - y,?_⟩
  have hx:((bA net n p:Int)+1+e)=(g':Int) * x :=by rw [<- XI,<- hx];omega
  have hy:((bA net n (bq net p a):Int)+e)=(g':Int) * y :=by rw [<- XI,<- hy];omega
  rw [Int.mul_sub,<- hx,<- hy]
  omega
theorem zo {net:List (List Int)} {n g:Nat} (O:aS net n) (W:cS net n) (h:qa net n g):0<g :=by
 have h0:=fc O
 have hn:0<n :=by rcases O.wid with h|h <;> omega
 have hq:=dI O h0 hn
 obtain ⟨e,we⟩:=zm (W _ hq 0 h0)
 have w1:=((dO.nil (net:=net) (n:=n) 0).snoc hn).app we
 have:=DF O h.dv h0 w1
 rw [show (bA net n 0:Int)+((0+1+e:Nat):Int) - bA net n 0=((0+1+e:Nat):Int) by omega] at this
 exact Nat.pos_of_dvd_of_pos (V7.mp this) (by omega)
theorem oj {net:List (List Int)} {n:Nat} (O:aS net n):(cW net n).length=1 ↔ cS net n :=by
 have h0:=fc O
 have hl:(cW net n).length=(dF net n net.length).length :=by unfold cW;rw [c8]
 have hm:∀a,a∈dF net n net.length ↔ a∈ak net/\mQ net n a:=fun a=>by
  unfold dF
  rw [Sk (V3 places_len),Ll,decide_eq_true_eq]
 have hd:∀a∈ak net,∃h,h∈dF net n net.length/\u6 net n a h:=fun a ha=>by
  obtain ⟨v,t,e,_⟩:=cls_cons (n:=n) ha
  have hv:v∈gI net n a :=by rw [e];exact l9
  obtain ⟨pv,sv⟩:=jC.mp hv
  refine ⟨v,(hm v).mpr ⟨pv,fun b hb=>?_⟩,sv⟩
  obtain ⟨pb,sb⟩:=jC.mp hb
  have o9:b∈gI net n a:=jC.mpr ⟨pb,sv.1.trans sb.1,sb.2.trans sv.2⟩
  have pw:=xj (net:=net) (n:=n) (a:=a)
  rw [e,List.pairwise_cons] at pw
  rw [e] at o9
  rcases kw.mp o9 with rfl|o9
  ·exact Int.le_refl _
  ·exact pw.1 b o9
 rw [hl]
 constructor
 ·intro h1 a ha b hb
  obtain ⟨x,hx⟩:=List.length_eq_one_iff.mp h1
  obtain ⟨u,hu,su⟩:=hd a ha
  obtain ⟨v,hv,sv⟩:=hd b hb
  rw [hx,lp] at hu hv
  subst hu;subst hv
  exact su.1.trans sv.2
 ·intro W
  have UU:∀a∈dF net n net.length,a=0:=fun a ha=>by
   obtain ⟨pa,ha⟩:=(hm a).mp ha
   have:=ha 0 (jC.mpr ⟨h0,W a pa 0 h0,W 0 h0 a pa⟩)
   have:=(aO.mp pa).1
   omega
  have nd:(dF net n net.length).Nodup :=by
   unfold dF
   rw [Sk (V3 places_len)]
   exact uC.filter _
  obtain ⟨z,hz,_⟩:=hd 0 h0
  have:=eW _ [0] nd fun k hk=>by rw [UU k hk];exact lp.mpr rfl
  have:=SB hz
  rw [FM] at *
  omega
theorem yi {net:List (List Int)} {n:Nat} (O:aS net n):(∀r∈fH net,∀b∈r,b=true) ↔ cS net n :=by
 obtain ⟨sq,r⟩:=xk O
 constructor
 ·intro h a ha b hb
  obtain ⟨h1,h2⟩:=aO.mp ha
  obtain ⟨h3,h4⟩:=aO.mp hb
  obtain ⟨i,rfl⟩:=wb h1
  obtain ⟨j,rfl⟩:=wb h3
  refine (r i j (by omega) (by omega)).mp ?_
  obtain ⟨row,g1,g2,g3⟩:=sq.get (i:=i) (by omega)
  unfold bH
  rw [g3,getD_at (by omega)]
  exact h row (gc g1) _ (rb _)
 ·intro W row hr b hb
  obtain ⟨i,hi⟩:=l6.mp hr
  obtain ⟨j,hj⟩:=l6.mp hb
  have j9:=(br.mp hi).1
  have xg:=(br.mp hj).1
  have hl:=sq.row i row hi
  rw [sq.len] at j9
  have:=(r i j j9 (by omega)).mpr (W _ (dG j9) _ (dG (by omega)))
  unfold bH at this
  rw [ci (l:=fH net),hi] at this
  show b=true
  rw [ci] at this
  rw [show (some row).getD []=row from rfl,hj] at this
  exact this
end
section
variable {P:ff} {w:ii} {K:bi} {mg:bn->Option al} {base:ge} {tb:cu} {C_NoWhole:ac}
theorem fY:aN ["one","other"] ["one","other"] (aj eO):=⟨rfl,rfl,rfl,by decide +kernel,rfl,by decide +kernel,by decide +kernel⟩
theorem fo:aN ["_law_one","_law_other","_law_rest"] ["_law_one","_law_other"] (aj fO):=⟨rfl,rfl,rfl,by decide +kernel,rfl,by decide +kernel,by decide +kernel⟩
theorem uK:aN ["net"] ["net"] (aj g6):=⟨rfl,rfl,rfl,by decide +kernel,rfl,by decide +kernel,by decide +kernel⟩
theorem uL:aN ["_law_net_here"] ["_law_net_here"] (aj fF):=⟨rfl,rfl,rfl,by decide +kernel,rfl,by decide +kernel,by decide +kernel⟩
theorem iB:aN ["_law_net_here","_law_places","_law_found","_law_place"] ["_law_net_here","_law_places"] (aj gr):=⟨rfl,rfl,rfl,by decide +kernel,rfl,by decide +kernel,by decide +kernel⟩
def Nk:b9:=fun ds M Q _=>∃a b:Int,ds=[.int a,.int b]/\Q (.int (VM a.natAbs b.natAbs:Nat)) M
theorem zp (a b:Nat):VM b (a % b)=VM a b :=by rw [Nat.gcd_comm,<- Nat.gcd_rec,Nat.gcd_comm]
theorem oY {f:ac} {fd:l5} (D:Df K mg "common_divisor" eO ["one","other"] f fd) (bl:Bl mg) :
  FnOk P w K mg base bf 1 f fd ["one","other"] (aY P w K tb Nk) :=by
 refine eJ D fY (fun ds M Q E hS=>by obtain ⟨a,b,e,_⟩:=hS;rw [e];rfl) fun A outer s E Γ ds Q' E' hP hw hK ht hr hS=>?_
 obtain ⟨a,b,e,q⟩:=hS
 refine ⟨_,(ai (Dd (i:=0) (j:=1) rfl fY.nd rfl rfl (by decide) rfl rfl (aa (ax Ai rfl bl.abs_ vE (aa (qv 0) ae)) (aa (ax Ai rfl bl.abs_ vE (aa (qv 1) ae)) ae)) rfl)
  (ai (mr qr (bE Ah (qv 1) av (bR _))
   (aq (Dd (i:=0) (j:=1) rfl fY.nd rfl rfl (by decide) rfl rfl (aa (qv 1) (aa (aP gm (qv 0) (qv 1)) ae)) rfl)))
  (aq (aT (qv 0))))),?_⟩
 subst e
 simp! only []
 have ab:∀z:Int,(if z<0 then -z else z)=(z.natAbs:Int):=fun z=>by split <;> omega
 refine ⟨fun m ρ M=>∃x y:Nat,m=y/\ρ=[some (.int (x:Nat)),some (.int (y:Nat))]/\VM x y=VM a.natAbs b.natAbs/\M=Γ.M0,⟨_,a.natAbs,b.natAbs,rfl,by rw [ab,ab],rfl,rfl⟩,?_⟩
 rintro m ρ M ⟨x,y,rfl,rfl,hg,rfl⟩
 simp! only []
 refine eB (fun h=>?_) (fun h=>?_)
 ·have h:=of_decide_eq_true h
  have hm:=Xq x (show 0<m by omega)
  exact ⟨by omega,x % m,hm,m,x % m,rfl,by rw [Int.natCast_emod],by rw [zp];exact hg⟩
 ·have h:=of_decide_eq_false h
  have e:m=0 :=by omega
  subst e
  rw [Nat.gcd_zero_right] at hg
  rw [hg]
  exact .inl q
theorem sW {f:ac} {fd:l5} (D:Df K mg "_law_divisor" fO ["_law_one","_law_other"] f fd) (bl:Bl mg) :
  FnOk P w K mg base bf 1 f fd ["_law_one","_law_other"] (aY P w K tb fun ds M Q _=>∃a b:Nat,ds=[.int (a:Nat),.int (b:Nat)]/\Q (.int (VM a b:Nat)) M) :=by
 refine eJ D fo (fun ds M Q E hS=>by obtain ⟨a,b,e,_⟩:=hS;rw [e];rfl) fun A outer s E Γ ds Q' E' hP hw hK ht hr hS=>?_
 obtain ⟨a,b,e,q⟩:=hS
 refine ⟨_,(ai (mr qr (bE Ah (qv 1) av (bR _))
   (ai (aH (i:=2) fo.nd rfl (mT rfl) (aP gm (qv 0) (qv 1)))
  (ai (aH (i:=0) fo.nd rfl (mT rfl) (qv 1))
  (aq (aH (i:=1) fo.nd rfl (mT rfl) (qv 2))))))
  (aq (aT (qv 0)))),?_⟩
 subst e
 simp! only []
 refine ⟨fun m ρ M=>∃x y:Nat,m=y/\(∃z,ρ=[some (.int (x:Nat)),some (.int (y:Nat)),z])/\VM x y=VM a b/\M=Γ.M0,⟨_,a,b,rfl,⟨_,rfl⟩,rfl,rfl⟩,?_⟩
 rintro m ρ M ⟨x,y,rfl,⟨z,rfl⟩,hg,rfl⟩
 simp! only []
 refine eB (fun h=>?_) (fun h=>?_)
 ·have h:=of_decide_eq_true h
  have hm:=Xq x (show 0<m by omega)
  exact ⟨by omega,x % m,hm,m,x % m,rfl,⟨_,by rw [Int.natCast_emod]⟩,by rw [zp];exact hg⟩
 ·have h:=of_decide_eq_false h
  have e:m=0 :=by omega
  subst e
  rw [Nat.gcd_zero_right] at hg
  rw [hg]
  exact .inl q
theorem uM {f f1:ac} {fd bT:l5} {C0:ac} {cs:List ac} (D:Df K mg "need_whole" g6 ["net"] f fd) (cF:Df K mg "hangs_together" eQ ["net"] f1 bT) (qb:FnOk P w K mg base (fi P w) 10 f1 bT ["net"] (aY P w K tb DB))
  (X_:sE K C0 cs) (dg:C_NoWhole∈cs) (gS:mg "NoWhole" = some (.ref C_NoWhole)) :
  FnOk P w K mg base (fi P w) 11 f fd ["net"] (aY P w K tb fun ds M Q E=>∃net n,ds=[eN net]/\aS net n/\(cS net n->Q .au M)/\(¬ cS net n->E C_NoWhole M)) :=by
 refine rJ D uK (fun ds M Q E hS=>by obtain ⟨net,n,e,_⟩:=hS;rw [e];rfl) fun A outer s E Γ ds Q' E' hP hw hK ht hE hr hS=>?_
 obtain ⟨net,n,e,O,q1,q2⟩:=hS
 refine ⟨_,(aq (cM (dY (dn (aK qb (hr.mono (by decide)) rfl cF.mg cF.fn.kp cF.bd uX hP hw hK ht hE (aa (qv 0) ae))))
   (aq (wy (X_.ex _ dg) PySem.F.excBase_ValueError rfl B7 hE rfl gS (aa lJ ae)))
   qss_nil)),?_⟩
 subst e
 simp! only []
 refine ⟨net,n,rfl,O,?_⟩
 simp! only []
 refine eB (fun h=>?_) (fun h=>?_)
 ·have h:¬ (cW net n).length=1 :=by simpa using h
  exact ⟨by decide,q2 fun w=>h ((oj O).mpr w)⟩
 ·have h:(cW net n).length=1 :=by simpa using h
  exact .inl (q1 ((oj O).mp h))
def FA:Dv->Dv
 | .lst ds=>(match boolsD ds with|some bs=>.bl (bs.all id)|none=>.lst ds)
 |d=>d
theorem xo {f f1:ac} {fd bT:l5} (D:Df K mg "_law_whole" fF ["_law_net_here"] f fd)
  (d8:Df K mg "_law_reach" fE ["_law_net_here"] f1 bT) (xq:FnOk P w K mg base bf 1 f1 bT ["_law_net_here"] (aY P w K tb zl)) (bl:Bl mg) :
  FnOk P w K mg base bf 2 f fd ["_law_net_here"] (aY P w K tb fun ds M Q _=>∃net n,ds=[eN net]/\aS net n/\Q (.bl (decide (cS net n))) M) :=by
 refine eJ D uL (fun ds M Q E hS=>by obtain ⟨net,n,e,_⟩:=hS;rw [e];rfl) fun A outer s E Γ ds Q' E' hP hw hK ht hr hS=>?_
 obtain ⟨net,n,e,O,q⟩:=hS
 refine ⟨_,(aq (aT (ax (CK (K:=K) rfl rfl) rfl bl.all_ B5 (aa (iE (N':=["_law_row"]) (tn:=1) (idx:=[]) rfl (show aI ["_law_net_here"] (aj fF) _ ["_law_row"] 1 [] from by decide +kernel) (oI (K:=K) rfl (aK xq (hr.mono (by decide)) rfl d8.mg d8.fn.kp d8.bd bz hP hw hK ht XR.none (aa (qv 0) ae))) (fun _ _ _ _ _=>(aJ (i:=0) (show IF [("_law_row" : bn)] from by decide +kernel) rfl (mT rfl))) (fun _ _ _ _ _=>eY) (fun _ _ _ _ _=>(ax (CK (K:=K) rfl rfl) rfl bl.all_ B5 (aa (qv 0) ae)))) ae)))),?_⟩
 subst e
 have h9:=O.nine
 have big:(1000:Nat)<sizeLine :=by decide
 simp! only []
 refine ⟨net,n,rfl,O,?_⟩
 simp! only []
 have sq:=(xk O).1
 have f1:∀r∈fH net,FA (DC r)=.bl (r.all id):=fun r _=>by
  show (match boolsD (r.map Dv.bl) with|some bs=>Dv.bl (bs.all id)|none=>_)=_
  rw [jm]
 refine ⟨by have:=sq.len;omega,jv FA (fun τ M=>(∃x,τ=[x])/\M=Γ.M0) ⟨⟨_,rfl⟩,rfl⟩ (fun d hd τ M hI R hR=>?_) (fun τ M hI=>?_)⟩
 ·obtain ⟨⟨x,rfl⟩,rfl⟩:=hI
  obtain ⟨r,hr,rfl⟩:=ss.mp hd
  rw [f1 r hr] at hR
  simp! only [DC,jm]
  exact hR _ _ ⟨⟨_,rfl⟩,rfl⟩
 ·obtain ⟨⟨x,rfl⟩,rfl⟩:=hI
  have e0:((fH net).map DC).map FA=((fH net).map fun r=>r.all id).map Dv.bl :=by
   rw [xL,xL]
   exact WM fun r hr=>f1 r hr
  rw [e0,jm]
  have e:((fH net).map fun r=>r.all id).all id=decide (cS net n) :=by
   rw [PM,decide_eq_true_eq,<- yi O,u4]
   constructor
   ·intro h r hr b hb
    have:=h _ (ss.mpr ⟨r,hr,rfl⟩)
    exact u4.mp this b hb
   ·intro h x hx
    obtain ⟨r,hr,rfl⟩:=ss.mp hx
    exact u4.mpr fun b hb=>h r hr b hb
  show i9 Γ.M0 Q' (.bl (((fH net).map fun r=>r.all id).all id)) Γ.M0
  rw [e]
  exact .inl q
def Nm (net:List (List Int)) (n:Nat) (ns r:List Int):Prop:=r.length<=9/\(∀x∈r,x∈ak net)/\∀q,q∈r ↔ ∃p∈ns,∃a,a<n/\bq net p a=q
theorem uN {f:ac} {fd:l5} (D:Df K mg "_law_behind" gr ["_law_net_here","_law_places"] f fd) (bl:Bl mg) :
  FnOk P w K mg base bf 1 f fd ["_law_net_here","_law_places"] (aY P w K tb fun ds M Q _=>∃net n ns,ds=[eN net,.lst (ns.map .int)]/\aS net n/\ns.length<=9/\(∀x∈ns,x∈ak net)/\∀r,Nm net n ns r->Q (.lst (r.map .int)) M) :=by
 refine eJ D iB (fun ds M Q E hS=>by obtain ⟨net,n,ns,e,_⟩:=hS;rw [e];rfl) fun A outer s E Γ ds Q' E' hP hw hK ht hr hS=>?_
 obtain ⟨net,n,ns,e,O,hl,hp,q⟩:=hS
 refine ⟨_,(ai (aH (i:=2) iB.nd rfl (mT rfl) (ju ae))
  (ai (b8 qr rfl (oI (K:=K) rfl (qv 1)) (fun gQ eP ew eK et=>by have hP:=hP.trans eP.symm;have hw:=hw.trans ew.symm;have hK:=hK.trans eK.symm;have ht:=ht.trans et.symm;exact ⟨(aJ (i:=3) iB.nd rfl (mT rfl)),(aq (iq (mF (K:=K) rfl EM PySem.F.slot_list_extend PySem.F.type_list_extend Dc (qv 2) (aa (aQ (bp (K:=K) rfl) (qv 0) (qv 3) (fun _ _=>rfl)) ae))))⟩))
  (aq (aT (ax (E1 hP hw (K:=K) rfl rfl) rfl bl.sorted_ t5 (aa (kT (OW hP hw (K:=K) rfl rfl) rfl bl.set_ Lg (aa (qv 2) ae)) ae)))))),?_⟩
 subst e
 have h9:=O.nine
 have big:(1000:Nat)<sizeLine :=by decide
 simp! only []
 have G3:=O.wid
 have Np:∀p∈ak net,(net.getD p.toNat []).length=n:=fun p hp=>by
  obtain ⟨h1,h2⟩:=aO.mp hp
  rw [getD_at (by omega)]
  exact (O.row _ (rb _)).1
 have QM:∀l:List Int,(∀x∈l,x∈ak net)->(l.flatMap fun p=>net.getD p.toNat []).length<=3 * l.length:=fun l=>by
  induction l with
  |nil=>intro _;simp
  |cons p l ih=>
   intro h
   have h1:=Np p (h p l9)
   have h2:=ih fun x hx=>h x (im _ hx)
   rw [List.flatMap_cons,ul,IN]
   omega
 refine ⟨sw _,fun a ha=>?_⟩
 refine bo (fun k ρ M=>(∃x,ρ=[some (eN net),some (.lst (ns.map .int)),some (.ptr a),x])/\M=aA Γ.M0 a (.lst (((ns.take k).flatMap fun p=>net.getD p.toNat []).map .int))/\k<=ns.length) ⟨⟨_,rfl⟩,rfl,sw _⟩ (fun k d ρ M N hd hJ hN=>?_) (fun ρ M hJ=>?_)
 ·obtain ⟨⟨x,rfl⟩,rfl,hk⟩:=hJ
  rw [ce] at hd
  obtain ⟨p,jh,rfl⟩:=lc.mp hd
  have QN:=hp p (gc jh)
  have bj:=(br.mp jh).1
  have hf:=QM (ns.take k) fun x hx=>hp x (List.mem_of_mem_take hx)
  have M8:=List.length_take_le k ns
  have VJ:=Np p QN
  simp! only [lU QN]
  show _<=sizeLine/\_
  refine ⟨by omega,hN _ _ ⟨⟨_,rfl⟩,?_,bj⟩⟩
  rw [List.take_succ,jh,List.flatMap_append,xy]
  simp only [Option.toList_some,List.flatMap_cons,List.flatMap_nil,Fa]
 ·obtain ⟨⟨x,rfl⟩,rfl,hk⟩:=hJ
  rw [c8,Xv]
  simp! only []
  have hf:=QM ns hp
  rw [Uf,iT]
  generalize el:(ns.flatMap fun p=>net.getD p.toNat [])=L at hf
  have mem:∀q,q∈sortI (c7 L) ↔ ∃p∈ns,∃a,a<n/\bq net p a=q:=fun q=>by
   rw [(sortI_perm _).mem_iff,Eo,<- el,List.mem_flatMap]
   constructor
   ·rintro ⟨p,pD,hq⟩
    obtain ⟨h1,h2⟩:=aO.mp (hp p pD)
    obtain ⟨i,rfl⟩:=wb h1
    rw [ut] at hq
    obtain ⟨a,ha,e⟩:=(oi O (by omega)).mp hq
    exact ⟨_,pD,a,ha,e⟩
   ·rintro ⟨p,pD,a,ha,e⟩
    obtain ⟨h1,h2⟩:=aO.mp (hp p pD)
    obtain ⟨i,rfl⟩:=wb h1
    exact ⟨_,pD,by rw [ut];exact (oi O (by omega)).mpr ⟨a,ha,e⟩⟩
  have sub:∀x∈sortI (c7 L),x∈ak net:=fun x hx=>by
   obtain ⟨p,pD,a,ha,rfl⟩:=(mem x).mp hx
   exact dI O (hp p pD) ha
  have nd:(sortI (c7 L)).Nodup:=(sortI_perm _).nodup_iff.mpr (zU L)
  have QK:=eW _ (ak net) nd sub
  rw [places_len] at QK
  have hd:=vK L
  have sb:(1000:Nat)<scanBound :=by decide
  refine ⟨by omega,by omega,.inr ⟨Keeps.upd ha Keeps.refl,_,.pin (.lst fun d hd=>?_),q _ ⟨by omega,sub,mem⟩⟩⟩
  obtain ⟨x,_,rfl⟩:=ss.mp hd
  exact .int x
end
section
variable {P:ff} {w:ii} {K:bi} {mg:bn->Option al} {base:ge} {tb:cu} {C_NoWhole:ac}
theorem gT:aN ["net","words","far","size","place","row","goal"] ["net"] (aj lQ):=⟨rfl,rfl,rfl,by decide +kernel,rfl,by decide +kernel,by decide +kernel⟩
theorem dw:aN ["_law_net_here","_law_found","_law_start","_law_layer","_law_length"] ["_law_net_here"] (aj iH):=⟨rfl,rfl,rfl,by decide +kernel,rfl,by decide +kernel,by decide +kernel⟩
def AJ (C:ac):b9:=fun ds M Q E=>∃net n,ds=[eN net]/\aS net n/\(cS net n->Q .au M)/\(¬ cS net n->E C M)
def h8 (net:List (List Int)) (n g:Nat):List Int:=(ak net).map fun p=>(bA net n p:Int) % g
def Hf (C:ac):b9:=fun ds M Q E=>∃net n,ds=[eN net]/\aS net n/\(cS net n->∀g,qa net n g->Q (.tup [.int (g:Nat),.tup ((h8 net n g).map Dv.int)]) M)/\(¬ cS net n->E C M)
def FC (net:List (List Int)) (n:Nat):Dv->Dv
 | .int p=>.int (bA net n p:Nat)
 |d=>d
def mV (net:List (List Int)) (n:Nat):List Dv:=(ak net).map fun p=>.int (bA net n p:Nat)
theorem Pk (net:List (List Int)) (n:Nat):(bW 0 net.length).map (FC net n)=mV net n :=by
 unfold bW mV ak
 rw [xL,xL]
 refine WM fun i _=>?_
 show FC net n (.int (0+(i:Int)))=_
 rw [LF]
 rfl
theorem DG {net:List (List Int)} {n:Nat} {p:Int} (h:p∈ak net):b5 (mV net n) p=some (.int (bA net n p:Nat)) :=by
 obtain ⟨h1,h2⟩:=aO.mp h
 obtain ⟨i,rfl⟩:=wb h1
 refine b6 ?_
 unfold mV ak
 rw [xL,ce,xb (by omega)]
 rfl
structure jb (net:List (List Int)) (n k l g:Nat):Prop where
 dv:∀(i:Nat) a,a<n->i<k\/(i=k/\a<l)->i<net.length->(g:Int) ∣ (bA net n (i:Int):Int)+1 - bA net n (bq net (i:Int) a)
 mx:∀c:Nat,(∀p∈ak net,∀a,a<n->(c:Int) ∣ (bA net n p:Int)+1 - bA net n (bq net p a))->c ∣ g
theorem jb.next {net:List (List Int)} {n k l g:Nat} (h:jb net n k l g) (hk:k<net.length) (hl:l<n):jb net n k (l+1) (VM g ((bA net n (k:Int):Int)+1 - bA net n (bq net (k:Int) l)).natAbs) :=by
 refine ⟨fun i a ha hi je=>?_,fun c hc=>Nat.dvd_gcd (h.mx c hc) (Int.ofNat_dvd_left.mp (hc _ (dG hk) l hl))⟩
 by_cases e:i=k/\a=l
 ·obtain ⟨rfl,rfl⟩:=e
  exact Int.ofNat_dvd_left.mpr (Nat.gcd_dvd_right _ _)
 ·have:=h.dv i a ha (by omega) je
  exact Int.dvd_trans (V7.mpr (Nat.gcd_dvd_left _ _)) this
theorem jb.up {net:List (List Int)} {n k g:Nat} (h:jb net n k n g):jb net n (k+1) 0 g:=⟨fun i a ha hi je=>h.dv i a ha (by omega) je,h.mx⟩
theorem jb.all {net:List (List Int)} {n l g:Nat} (h:jb net n net.length l g):qa net n g:=⟨fun p hp a ha=>by
 obtain ⟨h1,h2⟩:=aO.mp hp
 obtain ⟨i,rfl⟩:=wb h1
 exact h.dv i a ha (by omega) (by omega),h.mx⟩
theorem jb.zero {net:List (List Int)} {n:Nat}:jb net n 0 0 0:=⟨fun i a ha hi=>by omega,fun c _=>Nat.dvd_zero c⟩
theorem Nq {net:List (List Int)} {n:Nat} (O:aS net n) {p:Int} (h:fV net n 0 p):bA net n p<=9 :=by
 have hp:=(jB O (fc O)).mpr h
 obtain ⟨i,hi⟩:=l6.mp hp
 have ok:=jA O (fc O)
 have hl:=(br.mp hi).1
 have hw:=ag (show i<(cC net n 0).2.length by rw [<- ok.len];exact hl)
 have e:=lO ok.nd hi hw
 have e2:p0 net n p=(cC net n 0).2[i]'(by rw [<- ok.len];exact hl) :=by unfold p0;rw [e];rfl
 have:=ok.wl i _ hw
 have h9:=O.nine
 have hle:=ok.le
 rw [places_len] at hle
 unfold bA
 rw [e2]
 omega
theorem step_at {net:List (List Int)} {k l:Nat} {x:Int} (hk:k<net.length) (h:(net.getD k [])[l]?=some x):bq net (k:Int) l=x :=by
 unfold bq
 rw [ut,ci,h]
 rfl
def Nr (g:Nat):Dv->Dv
 | .int j=>.int (j % (g:Int))
 |d=>d
theorem IQ {f f1 f2 f3:ac} {fd bT fd2 oh:l5} {DH bS:ac} (D:Df K mg "beat" lQ ["net"] f fd) (sd:yG base fd DH bS) (hp:bS∈tb) (dM:∃bm ob,Wa base mainGlobals mg bm ob)
  (d9:Df K mg "need_whole" g6 ["net"] f1 bT) (km:FnOk P w K mg base (fi P w) 11 f1 bT ["net"] (aY P w K tb (AJ C_NoWhole)))
  (bt:Df K mg "first_words" aC ["net","start"] f2 fd2) (dC:FnOk P w K mg base bf 8 f2 fd2 ["net","start"] (aY P w K tb wZ))
  (cG:Df K mg "common_divisor" eO ["one","other"] f3 oh) (qd:FnOk P w K mg base bf 1 f3 oh ["one","other"] (aY P w K tb Nk)) (bl:Bl mg) :
  FnOk P w K mg base (fi P w) 12 f fd ["net"] (aY P w K tb (Hf C_NoWhole)) :=by
 refine rJ D gT (fun ds M Q E hS=>by obtain ⟨net,n,e,_⟩:=hS;rw [e];rfl) fun A outer s E Γ ds Q' E' hP hw hK ht hE hr hS=>?_
 obtain ⟨net,n,e,O,q1,q2⟩:=hS
 have kn:bS∈Γ.tb:=ht▸hp
 refine ⟨_,(ai (iq (aK km (hr.mono (by decide)) rfl d9.mg d9.fn.kp d9.bd uX hP hw hK ht hE (aa (qv 0) ae)))
  (ai (aH (i:=1) gT.nd rfl (IT rfl) (aK dC (hr.mono (by decide)) rfl bt.mg bt.fn.kp bt.bd bz hP hw hK ht XR.none (aa (qv 0) (aa av ae))))
  (ai (mH (i:=2) gT.nd rfl rfl (N':=["place","words"]) (tn:=1) (idx:=[1]) rfl (show aI ["net","words","far","size","place","row","goal"] (aj lQ) _ ["place","words"] 1 [1] from by decide +kernel) (a7 rfl bl.range_ (aa (ax (bQ (K:=K) rfl hK) rfl bl.len_ nw (aa (qv 0) ae)) ae)) (fun _ _ _ _ _=>(aJ (i:=0) (show IF [("place" : bn),("words" : bn)] from by decide +kernel) rfl (mT rfl))) (fun _ _ _ _ _=>eY) (fun _ _ _ _ _=>(ax (bQ (K:=K) rfl hK) rfl bl.len_ nw (aa (y3 hr.units (qv 1) (qv 0) (fun _ _=>rfl)) ae))))
  (ai (aH (i:=3) gT.nd rfl (IT rfl) av)
  (ai (PS.jd (b8 qr rfl (yZ false (K:=K) rfl rfl bl.enumerate_ (qv 0)) (fun gQ eP ew eK et=>by have hP:=hP.trans eP.symm;have hw:=hw.trans ew.symm;have hK:=hK.trans eK.symm;have ht:=ht.trans et.symm;have kn:=et.symm▸kn;exact ⟨(Ct (n:=2) rfl (mq (aJ (i:=4) gT.nd rfl (mT rfl)) (mq (aJ (i:=5) gT.nd rfl (mT rfl)) yV))),(aq (PS.jd (b8 qr rfl (nQ (K:=K) rfl (qv 5)) (fun gQ eP ew eK et=>by have hP:=hP.trans eP.symm;have hw:=hw.trans ew.symm;have hK:=hK.trans eK.symm;have ht:=ht.trans et.symm;have kn:=et.symm▸kn;exact ⟨(aJ (i:=6) gT.nd rfl (mT rfl)),(aq (aH (i:=3) gT.nd rfl (IT rfl) (aK qd (hr.mono (by decide)) rfl cG.mg cG.fn.kp cG.bd bz hP hw hK ht XR.none (aa (qv 3) (aa (aP uZ (aP fL (aQ (bp (K:=K) rfl) (qv 2) (qv 4) (fun _ _=>rfl)) av) (aQ (bp (K:=K) rfl) (qv 2) (qv 6) (fun _ _=>rfl))) ae)))))⟩))))⟩)))
  (aq (aT (nO (aa (qv 3) (aa (xY (k:=0) (N':=["steps","size"]) (tn:=1) (idx:=[3]) kn (hr.mono (by decide)) rfl (show aI ["net","words","far","size","place","row","goal"] (aj lQ) _ ["steps","size"] 1 [3] from by decide +kernel) rfl rfl sd.code sd.hd dM rfl bl.tuple_ (oI (K:=K) rfl (qv 2)) (fun _ _ _ _ _ _ _ hr=>(aJ (i:=0) (show IF [("steps" : bn),("size" : bn)] from by decide +kernel) rfl (mT rfl))) (fun _ _ _ _ _ _ _ hr=>eY) (fun _ _ _ _ _ _ _ hr=>(aP gm (qv 0) (qv 1)))) ae)))))))))),?_⟩
 subst e
 have h9:=O.nine
 have G3:=O.wid
 have big:(1000:Nat)<sizeLine :=by decide
 have h0:=fc O
 simp! only []
 refine ⟨net,n,rfl,O,fun W=>?_,q2⟩
 have so:∀p∈ak net,fV net n 0 p:=fun p hp=>W 0 h0 p hp
 simp! only []
 refine ⟨net,n,_,rfl,O,h0,?_⟩
 simp! only []
 refine ⟨by omega,by omega,by omega,jv (FC net n) (fun τ M=>(∃x,τ=[x,some (n8 (cC net n 0))])/\M=Γ.M0) ⟨⟨_,rfl⟩,rfl⟩ (fun d hd τ M hI R hR=>?_) (fun τ M hI=>?_)⟩
 ·obtain ⟨⟨x,rfl⟩,rfl⟩:=hI
  obtain ⟨j,hj⟩:=l6.mp hd
  obtain ⟨rfl,DA⟩:=a8 hj
  obtain ⟨lk,_⟩:=p7 O (so _ (dG DA))
  simp! only []
  show (match some (look ((cC net n 0).1.map DO) ((cC net n 0).2.map Dv.str) (DO (j:Int))) with|some (some r)=>_|_=>False)
  rw [mL oR,lk]
  rw [LF] at hR
  have hf:=Nq O (so _ (dG DA))
  exact ⟨by show bA net n (j:Int)<=sizeLine;omega,hR _ _ ⟨⟨_,rfl⟩,rfl⟩⟩
 obtain ⟨⟨x,rfl⟩,rfl⟩:=hI
 rw [Pk]
 refine bo (fun k ρ M=>(∃g x4 x5 x6,ρ=[some (eN net),some (n8 (cC net n 0)),some (.lst (mV net n)),some (.int (g:Nat)),x4,x5,x6]/\jb net n k 0 g)/\M=Γ.M0/\k<=net.length) ⟨⟨0,_,_,_,rfl,.zero⟩,rfl,sw _⟩ (fun k d ρ M N hd hJ hN=>?_) (fun ρ M hJ=>?_)
 ·obtain ⟨⟨g,x4,x5,x6,rfl,hg⟩,rfl,hk⟩:=hJ
  obtain ⟨x,y,rfl,e1,e2⟩:=ug hd
  obtain ⟨rfl,om⟩:=y0 e1
  have ey:y=eI (net.getD k []) :=by
   rw [ce,ag om] at e2
   rw [getD_at om]
   cases e2
   rfl
  subst ey
  have rV:(net.getD k []).length=n :=by
   rw [getD_at om]
   exact (O.row _ (rb _)).1
  have jh:=dG (net:=net) om
  simp! only []
  refine bo (fun l ρ M=>(∃g x6,ρ=[some (eN net),some (n8 (cC net n 0)),some (.lst (mV net n)),some (.int (g:Nat)),some (.int (k:Nat)),some (eI (net.getD k [])),x6]/\jb net n k l g)/\M=Γ.M0/\l<=n) ⟨⟨g,_,rfl,hg⟩,rfl,sw _⟩ (fun l d ρ M N2 hd hJ ik=>?_) (fun ρ M hJ=>?_)
  ·obtain ⟨⟨g,x6,rfl,hg⟩,rfl,hl⟩:=hJ
   rw [ce] at hd
   obtain ⟨x,hx,rfl⟩:=lc.mp hd
   have Hg:=(br.mp hx).1
   rw [rV] at Hg
   have es:=step_at om hx
   have UW:x∈ak net :=by rw [<- es];exact dI O jh Hg
   simp! only [DG jh,DG UW]
   refine ⟨_,_,rfl,ik _ _ ⟨⟨_,_,rfl,?_⟩,rfl,Hg⟩⟩
   have:=hg.next om Hg
   rw [es] at this
   exact this
  ·obtain ⟨⟨g,x6,rfl,hg⟩,rfl,hl⟩:=hJ
   rw [c8,rV] at hg
   exact hN _ _ ⟨⟨g,_,_,_,rfl,hg.up⟩,rfl,om⟩
 ·obtain ⟨⟨g,x4,x5,x6,rfl,hg⟩,rfl,hk⟩:=hJ
  have hlen:(fB (ja net.length) (net.map eI)).length=net.length :=by simp [pairsD_len,numD_len]
  rw [hlen] at hg
  have hE:=hg.all
  have gp:=zo O W hE
  simp! only []
  refine ⟨by unfold mV;rw [c8,places_len];omega,jv (Nr g) (fun τ M=>(∃x,τ=[x,some (.int (g:Nat))])/\M=Γ.M0) ⟨⟨_,rfl⟩,rfl⟩ (fun d hd τ M hI R hR=>?_) (fun τ M hI=>?_)⟩
  ·obtain ⟨⟨x,rfl⟩,rfl⟩:=hI
   obtain ⟨p,hp,rfl⟩:=ss.mp hd
   simp! only []
   exact ⟨by omega,hR _ _ ⟨⟨_,rfl⟩,rfl⟩⟩
  ·obtain ⟨⟨x,rfl⟩,rfl⟩:=hI
   have e:(mV net n).map (Nr g)=(h8 net n g).map Dv.int :=by
    unfold mV h8
    rw [xL,xL]
    rfl
   rw [e]
   exact ⟨by omega,.inl (q1 W g hE)⟩
structure gJ (net:List (List Int)) (n k l g:Nat):Prop where
 dv:∀s L:Nat,1<=L->L<=net.length->s<net.length->s<k\/(s=k/\L<=l)->dO net n L (s:Int) (s:Int)->g ∣ L
 mx:∀c:Nat,(∀s∈ak net,∀L,1<=L->L<=net.length->dO net n L s s->c ∣ L)->c ∣ g
theorem gJ.zero {net:List (List Int)} {n:Nat}:gJ net n 0 0 0:=⟨fun s L h1 h2 h3 h4=>by omega,fun c _=>Nat.dvd_zero c⟩
theorem gJ.up {net:List (List Int)} {n k g:Nat} (h:gJ net n k net.length g):gJ net n (k+1) 0 g:=⟨fun s L h1 h2 h3 h4 w=>h.dv s L h1 h2 h3 (by omega) w,h.mx⟩
theorem gJ.all {net:List (List Int)} {n l g:Nat} (h:gJ net n net.length l g):Fx net n g:=⟨fun s hs L h1 h2 w=>by
 obtain ⟨g1,g2⟩:=aO.mp hs
 obtain ⟨i,rfl⟩:=wb g1
 exact h.dv i L h1 h2 (by omega) (by omega) w,h.mx⟩
theorem gJ.hit {net:List (List Int)} {n k l g:Nat} (h:gJ net n k l g) (hk:k<net.length) (hl:l<net.length) (w:dO net n (l+1) (k:Int) (k:Int)):gJ net n k (l+1) (VM g (l+1)) :=by
 refine ⟨fun s L h1 h2 h3 h4 w2=>?_,fun c hc=>Nat.dvd_gcd (h.mx c hc) (hc _ (dG hk) _ (by omega) (by omega) w)⟩
 by_cases e:s=k/\L=l+1
 ·obtain ⟨rfl,rfl⟩:=e
  exact Nat.gcd_dvd_right _ _
 ·exact Nat.dvd_trans (Nat.gcd_dvd_left _ _) (h.dv s L h1 h2 h3 (by omega) w2)
theorem gJ.miss {net:List (List Int)} {n k l g:Nat} (h:gJ net n k l g) (w:¬ dO net n (l+1) (k:Int) (k:Int)):gJ net n k (l+1) g :=by
 refine ⟨fun s L h1 h2 h3 h4 w2=>?_,h.mx⟩
 by_cases e:s=k/\L=l+1
 ·obtain ⟨rfl,rfl⟩:=e
  exact absurd w2 w
 ·exact h.dv s L h1 h2 h3 (by omega) w2
theorem FD {net:List (List Int)} {n L:Nat} {s q:Int}:dO net n (L+1) s q ↔ ∃p,dO net n L s p/\∃a,a<n/\bq net p a=q :=by
 constructor
 ·intro h
  cases h with
  |snoc h ha=>exact ⟨_,h,_,ha,rfl⟩
 ·rintro ⟨p,w,a,ha,rfl⟩
  exact w.snoc ha
def IU:b9:=fun ds M Q _=>∃net n ns,ds=[eN net,.lst (ns.map .int)]/\aS net n/\ns.length<=9/\(∀x∈ns,x∈ak net)/\∀r,Nm net n ns r->Q (.lst (r.map .int)) M
def Sl:b9:=fun ds M Q _=>∃a b:Nat,ds=[.int (a:Nat),.int (b:Nat)]/\Q (.int (VM a b:Nat)) M
def DI:b9:=fun ds M Q _=>∃net n,ds=[eN net]/\aS net n/\∀g,Fx net n g->Q (.int (g:Nat)) M
theorem yj {f f1 f2:ac} {fd bT fd2:l5} (D:Df K mg "_law_beat" iH ["_law_net_here"] f fd)
  (dD:Df K mg "_law_behind" gr ["_law_net_here","_law_places"] f1 bT) (uO:FnOk P w K mg base bf 1 f1 bT ["_law_net_here","_law_places"] (aY P w K tb IU))
  (di:Df K mg "_law_divisor" fO ["_law_one","_law_other"] f2 fd2) (sX:FnOk P w K mg base bf 1 f2 fd2 ["_law_one","_law_other"] (aY P w K tb Sl)) (bl:Bl mg) :
  FnOk P w K mg base bf 2 f fd ["_law_net_here"] (aY P w K tb DI) :=by
 refine eJ D dw (fun ds M Q E hS=>by obtain ⟨net,n,e,_⟩:=hS;rw [e];rfl) fun A outer s E Γ ds Q' E' hP hw hK ht hr hS=>?_
 obtain ⟨net,n,e,O,q⟩:=hS
 refine ⟨_,(ai (aH (i:=1) dw.nd rfl (mT rfl) av)
  (ai (b8 qr rfl (a7 rfl bl.range_ (aa (ax (bQ (K:=K) rfl hK) rfl bl.len_ nw (aa (qv 0) ae)) ae)) (fun gQ eP ew eK et=>by have hP:=hP.trans eP.symm;have hw:=hw.trans ew.symm;have hK:=hK.trans eK.symm;have ht:=ht.trans et.symm;exact ⟨(aJ (i:=2) dw.nd rfl (mT rfl)),(ai (aH (i:=3) dw.nd rfl (mT rfl) (rD (aa (qv 2) ae)))
  (aq (b8 qr rfl (Cw rfl bl.range_ (aa av (aa (aP fL (ax (bQ (K:=K) rfl hK) rfl bl.len_ nw (aa (qv 0) ae)) av) ae))) (fun gQ eP ew eK et=>by have hP:=hP.trans eP.symm;have hw:=hw.trans ew.symm;have hK:=hK.trans eK.symm;have ht:=ht.trans et.symm;exact ⟨(aJ (i:=4) dw.nd rfl (mT rfl)),(ai (aH (i:=3) dw.nd rfl (mT rfl) (aK uO (hr.mono (by decide)) rfl dD.mg dD.fn.kp dD.bd bz hP hw hK ht XR.none (aa (qv 0) (aa (qv 3) ae))))
  (aq (cM (bE (wC (K:=K) rfl) (qv 2) (qv 3) (by rfl))
   (aq (aH (i:=1) dw.nd rfl (mT rfl) (aK sX (hr.mono (by decide)) rfl di.mg di.fn.kp di.bd bz hP hw hK ht XR.none (aa (qv 1) (aa (qv 4) ae)))))
   qss_nil)))⟩))))⟩))
  (aq (aT (qv 1))))),?_⟩
 subst e
 have h9:=O.nine
 simp! only []
 refine ⟨by omega,by omega,?_⟩
 refine bo (fun k ρ M=>(∃g x2 x3 x4,ρ=[some (eN net),some (.int (g:Nat)),x2,x3,x4]/\gJ net n k 0 g)/\M=Γ.M0/\k<=net.length) ⟨⟨0,_,_,_,rfl,.zero⟩,rfl,sw _⟩ (fun k d ρ M N hd hJ hN=>?_) (fun ρ M hJ=>?_)
 ·obtain ⟨⟨g,x2,x3,x4,rfl,hg⟩,rfl,hk⟩:=hJ
  obtain ⟨rfl,om⟩:=a8 hd
  have jh:=dG (net:=net) om
  simp! only []
  have e1:((net.length:Int)+1 - 1).toNat=net.length :=by omega
  rw [e1]
  refine ⟨by decide,by omega,?_⟩
  refine bo (fun l ρ M=>(∃g r x4,ρ=[some (eN net),some (.int (g:Nat)),some (.int (k:Nat)),some (.lst (r.map Dv.int)),x4]/\gJ net n k l g/\r.length<=9/\(∀x∈r,x∈ak net)/\∀q,q∈r ↔ dO net n l (k:Int) q)/\M=Γ.M0/\l<=net.length) ⟨⟨g,[(k:Int)],_,rfl,hg,by simp,fun x hx=>by rw [lp.mp hx];exact jh,fun q=>?_⟩,rfl,sw _⟩ (fun l d ρ M N2 hd hJ ik=>?_) (fun ρ M hJ=>?_)
  ·rw [lp]
   constructor
   ·rintro rfl;exact .nil _
   ·intro h;cases h;rfl
  ·obtain ⟨⟨g,r,x4,rfl,hg,QO,QP,Nt⟩,rfl,hl⟩:=hJ
   obtain ⟨rfl,gb⟩:=a8 hd
   simp! only []
   refine ⟨net,n,r,rfl,O,QO,QP,fun r2 uF=>?_⟩
   have zq:∀q,q∈r2 ↔ dO net n (l+1) (k:Int) q:=fun q=>by
    rw [uF.2.2 q,FD]
    constructor
    ·rintro ⟨p,hp,h⟩;exact ⟨p,(Nt p).mp hp,h⟩
    ·rintro ⟨p,hp,h⟩;exact ⟨p,(Nt p).mpr hp,h⟩
   simp! only []
   rw [Uf,iT]
   refine eB (fun h=>?_) (fun h=>?_)
   ·have h:=of_decide_eq_true h
    refine ⟨g,l+1,by rw [show (1:Int)+(l:Nat)=((l+1:Nat):Int) by omega],ik _ _ ⟨⟨_,r2,_,rfl,hg.hit om gb ((zq _).mp h),uF.1,uF.2.1,zq⟩,rfl,gb⟩⟩
   ·have h:=of_decide_eq_false h
    exact ik _ _ ⟨⟨g,r2,_,rfl,hg.miss fun z=>h ((zq _).mpr z),uF.1,uF.2.1,zq⟩,rfl,gb⟩
  ·obtain ⟨⟨g,r,x4,rfl,hg,QO,QP,Nt⟩,rfl,hl⟩:=hJ
   rw [rangeD_len] at hg
   exact hN _ _ ⟨⟨g,_,_,_,rfl,hg.up⟩,rfl,om⟩
 ·obtain ⟨⟨g,x2,x3,x4,rfl,hg⟩,rfl,hk⟩:=hJ
  rw [rangeD_len] at hg
  simp! only []
  exact .inl (q g hg.all)
end
section
variable {P:ff} {w:ii} {K:bi} {mg:bn->Option al} {base:ge} {tb:cu} {C_RoadError C_NoNet C_NoPlace C_NoSign C_NoWord C_NoWhole:ac} {cs:List ac}
theorem oo:aN ["_law_net_here","e"] ["_law_net_here"] (aj iI):=⟨rfl,rfl,rfl,by decide +kernel,rfl,by decide +kernel,by decide +kernel⟩
theorem ia:aN ["_law_net_here","_law_many","_law_numbers","_law_place","_law_number"] ["_law_net_here","_law_many","_law_numbers"] (aj dZ):=⟨rfl,rfl,rfl,by decide +kernel,rfl,by decide +kernel,by decide +kernel⟩
theorem m8:aN ["_law_net_here","_law_found"] ["_law_net_here"] (aj g7):=⟨rfl,rfl,rfl,by decide +kernel,rfl,by decide +kernel,by decide +kernel⟩
def zt:b9:=fun ds M Q _=>∃net n,ds=[eN net]/\aS net n/\(cS net n->∀g,qa net n g->Q (.tup [.int (g:Nat),.tup ((h8 net n g).map Dv.int)]) M)/\(¬ cS net n->Q (.str "whole") M)
theorem yk {f f1:ac} {fd bT:l5} (D:Df K mg "_law_told" iI ["_law_net_here"] f fd)
  (ko:Df K mg "beat" lQ ["net"] f1 bT) (xr:FnOk P w K mg base (fi P w) 12 f1 bT ["net"] (aY P w K tb (Hf C_NoWhole)))
  (X_:sE K C_RoadError cs) (jy:C_NoNet∈cs) (oq:C_NoPlace∈cs) (qf:C_NoSign∈cs) (qg:C_NoWord∈cs) (dg:C_NoWhole∈cs) (nd:[C_NoNet,C_NoPlace,C_NoSign,C_NoWord,C_NoWhole].Nodup)
  (lg:mg "RoadError" = some (.ref C_RoadError)) (jz:mg "NoNet" = some (.ref C_NoNet)) (ou:mg "NoPlace" = some (.ref C_NoPlace)) (qh:mg "NoSign" = some (.ref C_NoSign)) (qi:mg "NoWord" = some (.ref C_NoWord)) (gS:mg "NoWhole" = some (.ref C_NoWhole)) (bl:Bl mg) :
  FnOk P w K mg base bf 13 f fd ["_law_net_here"] (aY P w K tb zt) :=by
 refine eJ D oo (fun ds M Q E hS=>by obtain ⟨net,n,e,_⟩:=hS;rw [e];rfl) fun A outer s E Γ ds Q' E' hP hw hK ht hr hS=>?_
 obtain ⟨net,n,e,O,q1,q2⟩:=hS
 refine ⟨_,(aq (L8 (i:=1) (nn:=2) rfl oo.nd rfl rfl ⟨rfl,rfl⟩ rfl X_.top rfl lg (fun T pn EE E2 gQ MC zq UX Gi hp UY=>by
   have hP:=hP.trans MC.symm
   have hw:=hw.trans zq.symm
   have hK:=hK.trans UX.symm
   have ht:=ht.trans Gi.symm
   exact (aq (aT (aK xr (hr.mono (by decide)) rfl ko.mg ko.fn.kp ko.bd hp hP hw hK ht UY (aa (qv 0) ae)))))
   (fun ea=>(ai (cM (QW.pt (Cr (dn (ax (GI (K:=K) rfl) rfl bl.isinstance_ bC (aa (qv 1) (aa (jY (v:=.ref C_NoWhole) rfl gS rfl) ae)))) (yU (dY (dn (ax (GI (K:=K) rfl) rfl bl.isinstance_ bC (aa (qv 1) (aa (nO (aa (jY (v:=.ref C_NoNet) rfl jz rfl) (aa (jY (v:=.ref C_NoPlace) rfl ou rfl) (aa (jY (v:=.ref C_NoSign) rfl qh rfl) (aa (jY (v:=.ref C_NoWord) rfl qi rfl) ae))))) ae))))))))
   (aq (aT lJ))
   qss_nil)
  (aq (aT lJ)))))),?_⟩
 subst e
 simp! only []
 refine ⟨net,n,rfl,O,fun W g hg=>?_,fun h=>⟨X_.sub _ dg,?_⟩⟩
 ·exact .inl (q1 W g hg)
 ·have hC:=X_.cl _ dg
  have FE:PySem.W.kitAny K (.ref C_NoWhole) ([C_NoNet,C_NoPlace,C_NoSign,C_NoWord].map li)=some false :=by
   rw [X_.any dg (by simp [jy,oq,qf,qg])]
   congr 1
   simp at nd ⊢
   simp [nd,zd]
  simp only [v6,Tl] at FE
  simp! only [FE,X_.one _ dg _ dg]
  refine ⟨hC,by decide,hC,[C_NoNet,C_NoPlace,C_NoSign,C_NoWord],rfl,?_⟩
  simp only [v6,Tl,FE]
  exact .inl (q2 h)
theorem IV {net:List (List Int)} {n g:Nat} (hg:qa net n g) {p:Int} (hp:p∈ak net) {a:Nat} (ha:a<n):(bA net n (bq net p a):Int) % g=((bA net n p:Int) % g+1) % g :=by
 obtain ⟨x,hx⟩:=hg.dv p hp a ha
 rw [Int.emod_add_emod,show (bA net n p:Int)+1=(bA net n (bq net p a):Int)+g * x by omega,Int.add_mul_emod_self_left]
theorem DJ {d:Dv} {t:Dt} {M:Mh} {Q:ZK} (h:cB (now M d)=some t) (hp:jT t<=60) (q:Q (.bl false) M):nU true d d M Q :=by
 unfold nU
 rw [h]
 refine ⟨hp,?_⟩
 rw [jS]
 exact q
theorem xt {d:Dv} {t:Dt} {M:Mh} {Q:ZK} (h:cB (now M d)=some t) (hp:jT t<=60) (q:Q (.bl true) M):nU false d d M Q :=by
 unfold nU
 rw [h]
 refine ⟨hp,?_⟩
 rw [jS]
 exact q
def Hh:b9:=fun ds M Q _=>∃net n g,ds=[eN net,.int (g:Nat),.tup ((h8 net n g).map Dv.int)]/\aS net n/\cS net n/\qa net n g/\Q (.bl true) M
theorem sY {f:ac} {fd:l5} (D:Df K mg "_law_goes_on" dZ ["_law_net_here","_law_many","_law_numbers"] f fd) (bl:Bl mg) :
  FnOk P w K mg base bf 1 f fd ["_law_net_here","_law_many","_law_numbers"] (aY P w K tb Hh) :=by
 refine eJ D ia (fun ds M Q E hS=>by obtain ⟨net,n,g,e,_⟩:=hS;rw [e];rfl) fun A outer s E Γ ds Q' E' hP hw hK ht hr hS=>?_
 obtain ⟨net,n,g,e,O,W,hg,q⟩:=hS
 refine ⟨_,(ai (cM (QW.pt (jl (dY (dn (ax (eG (K:=K) rfl) rfl bl.isinstance_ bC (aa (qv 2) (aa (fK (v:=.ty "tuple") rfl bl.tuple_ fw rfl) ae))))) (jl (bE wt (ax (bQ (K:=K) rfl hK) rfl bl.len_ nw (aa (qv 2) ae)) (ax (bQ (K:=K) rfl hK) rfl bl.len_ nw (aa (qv 0) ae)) (bR _)) (lL (bE wt (aQ (bp (K:=K) rfl) (qv 2) av (fun _ _=>rfl)) av (bR _))))))
   (aq (aT gY))
   qss_nil)
  (ai (b8 qr rfl (yZ false (K:=K) rfl rfl bl.enumerate_ (qv 2)) (fun gQ eP ew eK et=>by have hP:=hP.trans eP.symm;have hw:=hw.trans ew.symm;have hK:=hK.trans eK.symm;have ht:=ht.trans et.symm;exact ⟨(Ct (n:=2) rfl (mq (aJ (i:=3) ia.nd rfl (mT rfl)) (mq (aJ (i:=4) ia.nd rfl (IT rfl)) yV))),(ai (cM (QW.pt (jl (dY (dn (ax (eG (K:=K) rfl) rfl bl.isinstance_ bC (aa (qv 4) (aa (fK (v:=.ty "int") rfl bl.int_ BL rfl) ae))))) (jl (dn (ax (eG (K:=K) rfl) rfl bl.isinstance_ bC (aa (qv 4) (aa (fK (v:=.ty "bool") rfl bl.bool_ sx rfl) ae)))) (lL (dY (wg wo wm av (qv 4) (qv 1)))))))
   (aq (aT gY))
   qss_nil)
  (aq (cM (bE (OV hr.units) (iE (N':=["_law_there","_law_numbers","_law_many","_law_number"]) (tn:=1) (idx:=[2,1,4]) rfl (show aI ["_law_net_here","_law_many","_law_numbers","_law_place","_law_number"] (aj dZ) _ ["_law_there","_law_numbers","_law_many","_law_number"] 1 [2,1,4] from by decide +kernel) (nQ (K:=K) rfl (aQ (bp (K:=K) rfl) (qv 0) (qv 3) (fun _ _=>rfl))) (fun _ _ _ _ _=>(aJ (i:=0) (show IF [("_law_there" : bn),("_law_numbers" : bn),("_law_many" : bn),("_law_number" : bn)] from by decide +kernel) rfl (mT rfl))) (fun _ _ _ _ _=>(sF (bE wt (aQ (bp (K:=K) rfl) (qv 1) (qv 0) (fun _ _=>rfl)) (aP gm (aP fL (qv 3) av) (qv 2)) (bR _)))) (fun _ _ _ _ _=>(qv 0))) (rD ae) (bR _))
   (aq (aT gY))
   qss_nil)))⟩))
  (aq (aT gY)))),?_⟩
 subst e
 have h9:=O.nine
 have G3:=O.wid
 have h1:=O.one
 have big:(1000:Nat)<sizeLine :=by decide
 have gp:=zo O W hg
 have hlen:(h8 net n g).length=net.length :=by unfold h8;rw [c8,places_len]
 have at_:∀{p:Int},p∈ak net->b5 ((h8 net n g).map Dv.int) p=some (.int ((bA net n p:Int) % g)):=fun {p} hp=>by
  obtain ⟨g1,g2⟩:=aO.mp hp
  obtain ⟨i,rfl⟩:=wb g1
  refine b6 ?_
  unfold h8 ak
  rw [xL,ce,ce,xb (by omega)]
  rfl
 have e0:=at_ (fc O)
 rw [Fw O] at e0
 simp! only [hlen,e0]
 refine ⟨by decide,?_⟩
 rw [if_neg (by simp)]
 refine bo (fun k ρ M=>(∃x3 x4,ρ=[some (eN net),some (.int (g:Nat)),some (.tup ((h8 net n g).map Dv.int)),x3,x4])/\M=Γ.M0) ⟨⟨_,_,rfl⟩,rfl⟩ (fun k d ρ M N hd hJ hN=>?_) (fun ρ M hJ=>?_)
 ·obtain ⟨⟨x3,x4,rfl⟩,rfl⟩:=hJ
  obtain ⟨x,y,rfl,e1,e2⟩:=ug hd
  obtain ⟨rfl,hk⟩:=y0 e1
  have jh:=dG (net:=net) hk
  have ey:y=.int ((bA net n (k:Int):Int) % g) :=by
   unfold h8 ak at e2
   rw [xL,ce,ce,xb hk] at e2
   cases e2
   rfl
  subst ey
  have b1:=VT (bA net n (k:Int):Int) (show (g:Int)≠0 by omega)
  have b2:=Int.emod_lt_of_pos (bA net n (k:Int):Int) (show (0:Int)<g by omega)
  have rV:(net.getD k []).length=n :=by
   rw [getD_at hk]
   exact (O.row _ (rb _)).1
  have zh:=lU (net:=net) jh
  rw [ut] at zh
  simp! only [zh,decide_eq_true b1,decide_eq_true b2]
  refine ⟨by decide,by decide,by omega,mI (fun _=>false) (fun d hd R hR=>?_) ?_⟩
  ·obtain ⟨z,hz,rfl⟩:=ss.mp hd
   obtain ⟨a,ha,ez⟩:=(oi O hk).mp hz
   have UZ:z∈ak net :=by rw [<- ez];exact dI O jh ha
   have fm:=IV hg jh ha
   rw [ez] at fm
   simp! only [at_ UZ]
   refine ⟨by omega,?_⟩
   rw [fm]
   simpa using hR
  ·rw [List.filter_eq_nil_iff.mpr fun _ _=>by simp]
   refine ⟨sw _,DJ (t:=.lst []) rfl (by decide) ?_⟩
   exact hN _ _ ⟨⟨_,_,rfl⟩,rfl⟩
 ·obtain ⟨⟨x3,x4,rfl⟩,rfl⟩:=hJ
  exact .inl q
def xu:b9:=fun ds M Q _=>∃net n,ds=[eN net]/\aS net n/\Q (.bl true) M
theorem xx {f f1 f2 f3 f4:ac} {fd bT fd2 oh DK:l5} (D:Df K mg "_law_right" g7 ["_law_net_here"] f fd)
  (fe:Df K mg "_law_told" iI ["_law_net_here"] f1 bT) (yl:FnOk P w K mg base bf 13 f1 bT ["_law_net_here"] (aY P w K tb zt))
  (ee:Df K mg "_law_whole" fF ["_law_net_here"] f2 fd2) (xA:FnOk P w K mg base bf 2 f2 fd2 ["_law_net_here"] (aY P w K tb fun ds M Q _=>∃net n,ds=[eN net]/\aS net n/\Q (.bl (decide (cS net n))) M))
  (fg:Df K mg "_law_beat" iH ["_law_net_here"] f3 oh) (ym:FnOk P w K mg base bf 2 f3 oh ["_law_net_here"] (aY P w K tb DI))
  (dj:Df K mg "_law_goes_on" dZ ["_law_net_here","_law_many","_law_numbers"] f4 DK) (sZ:FnOk P w K mg base bf 1 f4 DK ["_law_net_here","_law_many","_law_numbers"] (aY P w K tb Hh)) (bl:Bl mg) :
  FnOk P w K mg base bf 14 f fd ["_law_net_here"] (aY P w K tb xu) :=by
 refine eJ D m8 (fun ds M Q E hS=>by obtain ⟨net,n,e,_⟩:=hS;rw [e];rfl) fun A outer s E Γ ds Q' E' hP hw hK ht hr hS=>?_
 obtain ⟨net,n,e,O,q⟩:=hS
 refine ⟨_,(ai (aH (i:=1) m8.nd rfl (mT rfl) (aK yl (hr.mono (by decide)) rfl fe.mg fe.fn.kp fe.bd bz hP hw hK ht XR.none (aa (qv 0) ae)))
  (ai (cM (dY (dn (aK xA (hr.mono (by decide)) rfl ee.mg ee.fn.kp ee.bd bz hP hw hK ht XR.none (aa (qv 0) ae))))
   (aq (aT (lK (GF hr.units) (qv 1) lJ (bR _))))
   qss_nil)
  (ai (cM (QW.pt (jl (dY (dn (ax (eG (K:=K) rfl) rfl bl.isinstance_ bC (aa (qv 1) (aa (fK (v:=.ty "tuple") rfl bl.tuple_ fw rfl) ae))))) (jl (bE wt (ax (bQ (K:=K) rfl hK) rfl bl.len_ nw (aa (qv 1) ae)) av (bR _)) (lL (dn (ax (eG (K:=K) rfl) rfl bl.isinstance_ bC (aa (aQ (bp (K:=K) rfl) (qv 1) av (fun _ _=>rfl)) (aa (fK (v:=.ty "bool") rfl bl.bool_ sx rfl) ae))))))))
   (aq (aT gY))
   qss_nil)
  (aq (aT (rC (lK (GF hr.units) (aQ (bp (K:=K) rfl) (qv 1) av (fun _ _=>rfl)) (aK ym (hr.mono (by decide)) rfl fg.mg fg.fn.kp fg.bd bz hP hw hK ht XR.none (aa (qv 0) ae)) (bR _)) (lM (aK sZ (hr.mono (by decide)) rfl dj.mg dj.fn.kp dj.bd bz hP hw hK ht XR.none (aa (qv 0) (aa (aQ (bp (K:=K) rfl) (qv 1) av (fun _ _=>rfl)) (aa (aQ (bp (K:=K) rfl) (qv 1) av (fun _ _=>rfl)) ae))))))))))),?_⟩
 subst e
 have U0:∀x y:Dv,b5 [x,y] 0=some x:=fun _ _=>atI_zero
 have MX:∀x y:Dv,b5 [x,y] 1=some y:=fun _ _=>b6 (j:=1) rfl
 simp! only []
 refine ⟨net,n,rfl,O,fun W g hg=>?_,fun W=>?_⟩
 ·simp! only [U0,MX]
  refine ⟨net,n,rfl,O,?_⟩
  rw [decide_eq_true W,if_neg (by decide)]
  refine ⟨by decide,?_⟩
  rw [if_neg (by decide)]
  refine ⟨by decide,net,n,rfl,O,fun g2 U1=>?_⟩
  have e:=Fy O W hg U1
  subst e
  refine xt (t:=.int (g:Nat)) rfl (Nat.le_of_ble_eq_true rfl) ?_
  exact ⟨net,n,g,rfl,O,W,hg,.inl q⟩
 ·simp! only []
  refine ⟨net,n,rfl,O,?_⟩
  rw [decide_eq_false W,if_pos (by decide)]
  exact xt (t:=.str "whole") rfl (Nat.le_of_ble_eq_true rfl) (.inl q)
end
section
variable {P:ff} {w:ii} {K:bi} {mg:bn->Option al} {base:ge} {tb:cu}
theorem kr:aN ["_law_script","_law_k","_law_bag_here","_law_net_here","_law_order_here","_law_ring","_law_j"] ["_law_script"] (aj Aw):=⟨rfl,rfl,rfl,by decide +kernel,rfl,by decide +kernel,by decide +kernel⟩
def fq (n k:Nat):Nat:=if k=0 then n - 1 else k - 1
theorem FG {n:Nat} {os:List Int} (h:cE n os) {k:Nat} (hk:k<n):∃p:Nat,b5 (os.map Dv.int) ((k:Int) - 1)=some (.int (p:Nat))/\os[fq n k]?=some (p:Int)/\p<n :=by
 have hl:=h.len
 have hj:fq n k<n :=by unfold fq;split <;> omega
 have e:fu n ((k:Int) - 1)=some (fq n k) :=by
  unfold fu fq
  by_cases z:k=0
  ·rw [if_neg (by omega),if_pos (by omega),if_pos z];congr 1;omega
  ·rw [if_pos (by omega),if_pos (by omega),if_neg z];congr 1;omega
 have xg:fq n k<os.length :=by omega
 obtain ⟨g0,g1⟩:=h.mem (rb xg)
 have ep:((os[fq n k].toNat:Nat):Int)=os[fq n k] :=by omega
 refine ⟨os[fq n k].toNat,?_,by rw [ag xg,ep],by omega⟩
 unfold b5
 rw [c8,hl,e]
 show (os.map Dv.int)[fq n k]?=_
 rw [ce,ag xg,ep]
 rfl
theorem DL {n:Nat} {os:List Int} (h:cE n os) {i:Nat} (hi:i<n):∃k,k<n/\os[fq n k]?=some (i:Int) :=by
 have hm:(i:Int)∈os:=(h.perm.mem_iff).mpr (ss.mpr ⟨i,ES.mpr hi,rfl⟩)
 obtain ⟨j,hj⟩:=l6.mp hm
 have hl:=(br.mp hj).1
 have hn:=h.len
 by_cases e:j=n - 1
 ·exact ⟨0,by omega,by unfold fq;rw [if_pos rfl,<- e];exact hj⟩
 ·exact ⟨j+1,by omega,by unfold fq;rw [if_neg (by omega)];exact hj⟩
theorem zu {α:Type} (d:α) (k:Nat):(io k [d]).flatten=io k d :=by
 induction k with
 |zero=>rfl
 |succ k ih=>rw [wT,GE,ih,wT];rfl
def Hi (n m:Nat) (r:List Int):Prop:=r.length=n/\∀x∈r,0<=x/\x<(m:Int)
theorem Nu {f f1 f2 f3 f4 f5:ac} {fd bT fd2 oh DK QR:l5} (D:Df K mg "law" Aw ["_law_script"] f fd)
  (fR:Df K mg "_law_bag" jo ["_law_script","_law_at"] f1 bT) (AK:FnOk P w K mg base bf 1 f1 bT ["_law_script","_law_at"] (aY P w K tb MV))
  (fS:Df K mg "_law_net" eR ["_law_bag_here","_law_most"] f2 fd2) (AO:FnOk P w K mg base bf 3 f2 fd2 ["_law_bag_here","_law_most"] (aY P w K tb G5))
  (az:Df K mg "_law_take" eZ ["_law_bag_here","_law_many"] f3 oh) (bX:FnOk P w K mg base bf 1 f3 oh ["_law_bag_here","_law_many"] (aY P w K tb u5))
  (bM:Df K mg "_law_order" fD ["_law_bag_here","_law_many"] f4 DK) (kg:FnOk P w K mg base bf 2 f4 DK ["_law_bag_here","_law_many"] (aY P w K tb w9))
  (cp:Df K mg "_law_right" g7 ["_law_net_here"] f5 QR) (ow:FnOk P w K mg base bf 14 f5 QR ["_law_net_here"] (aY P w K tb xu)) (bl:Bl mg) :
  FnOk P w K mg base bf 15 f fd ["_law_script"] (aY P w K tb Mb) :=by
 refine eJ D kr (fun ds M Q E hS=>by obtain ⟨ns,e,_⟩:=hS;rw [e];rfl) fun A outer s E Γ ds Q' E' hP hw hK ht hr hS=>?_
 obtain ⟨ns,e,hl,hM,q⟩:=hS
 refine ⟨_,(ai (b8 qr rfl (a7 rfl bl.range_ (aa (ax (LY rfl) rfl bl.max_ KU (aa av (aa (ax (wu rfl) rfl bl.min_ qU (aa av (aa (ax (bQ (K:=K) rfl hK) rfl bl.len_ nw (aa (qv 0) ae)) ae))) ae))) ae)) (fun gQ eP ew eK et=>by have hP:=hP.trans eP.symm;have hw:=hw.trans ew.symm;have hK:=hK.trans eK.symm;have ht:=ht.trans et.symm;exact ⟨(aJ (i:=1) kr.nd rfl (mT rfl)),(ai (aH (i:=2) kr.nd rfl (mT rfl) (aK AK (hr.mono (by decide)) rfl fR.mg fR.fn.kp fR.bd bz hP hw hK ht XR.none (aa (qv 0) (aa (qv 1) ae))))
  (ai (aH (i:=3) kr.nd rfl (mT rfl) (aK AO (hr.mono (by decide)) rfl fS.mg fS.fn.kp fS.bd bz hP hw hK ht XR.none (aa (qv 2) (aa av ae))))
  (ai (aH (i:=4) kr.nd rfl (mT rfl) (aK kg (hr.mono (by decide)) rfl bM.mg bM.fn.kp bM.bd bz hP hw hK ht XR.none (aa (qv 2) (aa (aP fL av (aK bX (hr.mono (by decide)) rfl az.mg az.fn.kp az.bd bz hP hw hK ht XR.none (aa (qv 2) (aa av ae)))) ae))))
  (ai (aH (i:=5) kr.nd rfl (mT rfl) (aP C7 (rD (aa (nO ae) ae)) (ax (bQ (K:=K) rfl hK) rfl bl.len_ nw (aa (qv 4) ae))))
  (ai (b8 qr rfl (a7 rfl bl.range_ (aa (ax (bQ (K:=K) rfl hK) rfl bl.len_ nw (aa (qv 4) ae)) ae)) (fun gQ eP ew eK et=>by have hP:=hP.trans eP.symm;have hw:=hw.trans ew.symm;have hK:=hK.trans eK.symm;have ht:=ht.trans et.symm;exact ⟨(aJ (i:=6) kr.nd rfl (mT rfl)),(aq (jZ (aP MJ (nO (aa (aQ (bp (K:=K) rfl) (qv 4) (qv 6) (fun _ _=>rfl)) ae)) (ax (bQ (K:=K) rfl hK) rfl bl.len_ nw (aa (aQ (bp (K:=K) rfl) (qv 3) av (fun _ _=>rfl)) ae))) (j1 (qv 5) (aQ (bp (K:=K) rfl) (qv 4) (aP uZ (qv 6) av) (fun _ _=>rfl)))))⟩))
  (aq (cM (QW.pt (jl (dY (dn (aK ow (hr.mono (by decide)) rfl cp.mg cp.fn.kp cp.bd bz hP hw hK ht XR.none (aa (qv 3) ae)))) (lL (dY (dn (aK ow (hr.mono (by decide)) rfl cp.mg cp.fn.kp cp.bd bz hP hw hK ht XR.none (aa (kT (sI (K:=K) rfl) rfl bl.tuple_ fw (aa (qv 5) ae)) ae)))))))
   (aq (aT gY))
   qss_nil)))))))⟩))
  (aq (aT gY))),?_⟩
 subst e
 simp! only []
 refine ⟨by split <;> split <;> omega,by split <;> split <;> omega,?_⟩
 refine bo (fun k ρ M=>∃x1 x2 x3 x4 x5 x6,ρ=[some (.bD ns),x1,x2,x3,x4,x5,x6]) ⟨_,_,_,_,_,_,rfl⟩ (fun k d ρ M N hd hJ hN=>?_) (fun ρ M _=>.inl (q _))
 obtain ⟨x1,x2,x3,x4,x5,x6,rfl⟩:=hJ
 obtain ⟨rfl,hk⟩:=a8 hd
 have hk:k<=20 :=by split at hk <;> split at hk <;> omega
 simp! only []
 refine ⟨ns,_,rfl,hl,by omega,by omega,fun b hb=>?_⟩
 refine ⟨b,9,rfl,updM_same,by omega,by omega,fun net n O _=>?_⟩
 simp! only []
 refine ⟨b,9,rfl,updM_same,by omega,by omega,fun m hm=>?_⟩
 obtain ⟨mm,U2⟩:∃mm:Nat,(1+(m:Int))=(mm:Nat):=⟨1+m,by omega⟩
 simp! only [U2]
 refine ⟨b,mm,rfl,updM_same,by omega,fun os gR=>?_⟩
 have q9:=gR.len
 have big:(10000:Nat)<sizeLine :=by decide
 have G3:=O.wid
 have h1:=O.one
 have Dk:(net.getD 0 []).length=n :=by
  rw [getD_at (by omega)]
  exact (O.row _ (rb _)).1
 have QU:=lU (net:=net) (p:=0) (aO.mpr ⟨by omega,by omega⟩)
 rw [Int.toNat_zero] at QU
 simp! only []
 refine ⟨by omega,by omega,by omega,fun a ha=>⟨by omega,by omega,?_⟩⟩
 rw [zu]
 refine bo (fun i ρ M=>(∃x6,ρ=[some (.bD ns),some (.int (k:Nat)),some (.ptr b),some (eN net),some (jf os),some (.ptr a),x6])/\∃rows:List (List Int),M a=some (.lst (rows.map eI))/\rows.length=mm/\∀j,j<i->∃(p:Nat) (r:List Int),os[fq mm j]?=some (p:Int)/\rows[p]?=some r/\Hi n mm r) ⟨⟨_,rfl⟩,io mm [],by rw [updM_same,List.map_replicate,q9];rfl,FF,fun j hj=>absurd hj (Re _)⟩ (fun i d ρ M N2 hd hJ ik=>?_) (fun ρ M hJ=>?_)
 ·obtain ⟨⟨x6,rfl⟩,rows,lR,rV,AQ⟩:=hJ
  obtain ⟨rfl,hi⟩:=a8 hd
  have hi:i<mm :=by omega
  obtain ⟨p,vJ,Ly,VL⟩:=FG gR hi
  obtain ⟨x,wQ,wR,U3⟩:=gR.at hi
  have zh:fu rows.length (p:Nat)=some p:=lV (by omega)
  simp! only [jf,wQ,vJ,QU,Dk,lR,zh]
  refine ⟨by omega,⟨by simp,by omega,by omega,by omega⟩,ik _ _ ⟨⟨_,rfl⟩,rows.set p (io n x),?_,by rw [GM];exact rV,fun j hj=>?_⟩⟩
  ·rw [updM_same,zu,Xz]
   show some (Mo.lst ((rows.map eI).set p (.tup (io n (Dv.int x)))))=some (Mo.lst ((rows.map eI).set p (.tup ((io n x).map Dv.int))))
   rw [List.map_replicate]
  ·have QV:Hi n mm (io n x):=⟨FF,fun y hy=>by rw [(List.mem_replicate.mp hy).2];exact ⟨wR,U3⟩⟩
   by_cases e:j=i
   ·subst e
    exact ⟨p,_,Ly,by rw [Mc (by omega)],QV⟩
   ·obtain ⟨p2,r2,e1,e2,e3⟩:=AQ j (by omega)
    by_cases ep:p=p2
    ·subst ep
     exact ⟨p,_,e1,by rw [Mc (by omega)],QV⟩
    ·exact ⟨p2,r2,e1,by rw [Ww ep];exact e2,e3⟩
 ·obtain ⟨⟨x6,rfl⟩,rows,lR,rV,AQ⟩:=hJ
  have O2:aS rows n :=by
   refine ⟨by omega,by omega,O.wid,fun r hr=>?_⟩
   obtain ⟨i,hi⟩:=l6.mp hr
   have j9:=(br.mp hi).1
   obtain ⟨j,hj,ej⟩:=DL gR (show i<mm by omega)
   obtain ⟨p,r2,e1,e2,e3⟩:=AQ j (by rw [rangeD_len];omega)
   rw [ej] at e1
   have:i=p :=by have:=ij e1;omega
   subst this
   rw [hi] at e2
   cases e2
   exact ⟨e3.1,fun x hx=>by have:=e3.2 x hx;omega⟩
  simp! only [lR]
  refine ⟨net,n,rfl,O,?_⟩
  simp! only [lR]
  refine ⟨rows,n,rfl,O2,?_⟩
  simp! only []
  exact hN _ _ ⟨_,_,_,_,_,_,rfl⟩
end
theorem all_mk {l:XG} {w:ii} {K:bi} {h:ge} {mg:bn->Option al} {fa:ac} {tabs lts:List ac} {C_RoadError C_NoNet C_NoPlace C_NoSign C_NoWord C_NoWhole:ac} (X:K.In h) (G:h.Ns mainGlobals mg) (U4:mg "law" = some (.ref fa))
  (T:EN (TabOf mg h) ["is_row","is_net","beat"] tabs) (U:EN (TabOf mg h) ["first_words"] lts)
  (yn:mf K mainGlobals "RoadError" = some (some (.ref C_RoadError)))
  (IW:mf K mainGlobals "NoNet" = some (some (.ref C_NoNet)))
  (DM:mf K mainGlobals "NoPlace" = some (some (.ref C_NoPlace)))
  (FH:mf K mainGlobals "NoSign" = some (some (.ref C_NoSign)))
  (FI:mf K mainGlobals "NoWord" = some (some (.ref C_NoWord)))
  (DN:mf K mainGlobals "NoWhole" = some (some (.ref C_NoWhole)))
  (eb:Ac K C_RoadError [C_NoNet,C_NoPlace,C_NoSign,C_NoWord,C_NoWhole]=true) (U5:[C_NoNet,C_NoPlace,C_NoSign,C_NoWord,C_NoWhole].Nodup)
  (AR:bP K "is_whole" fN)
  (qj:bP K "is_whole_below" du)
  (qk:bP K "common_divisor" eO)
  (FJ:bP K "is_row" kb)
  (FK:bP K "is_net" ke)
  (AU:bP K "need_net" jn)
  (lh:∃tk,nY K "first_met" iG (.int 511 tk))
  (uP:bP K "first_words" aC)
  (IX:bP K "parts" jx)
  (ql:bP K "hangs_together" eQ)
  (xB:bP K "need_whole" g6)
  (Nv:bP K "beat" lQ)
  (AV:bP K "_law_bag" jo)
  (yo:bP K "_law_take" eZ)
  (xC:bP K "_law_order" fD)
  (AW:bP K "_law_net" eR)
  (xD:bP K "_law_reach" fE)
  (xE:bP K "_law_whole" fF)
  (tj:bP K "_law_divisor" fO)
  (uQ:bP K "_law_behind" gr)
  (yp:bP K "_law_beat" iH)
  (yq:bP K "_law_told" iI)
  (tm:bP K "_law_goes_on" dZ)
  (xF:bP K "_law_right" g7)
  (Pl:bP K "law" Aw)
  (Pm:mf K mainGlobals "len" = some none)
  (IY:mf K mainGlobals "range" = some none)
  (Pn:mf K mainGlobals "min" = some none)
  (Pq:mf K mainGlobals "max" = some none)
  (Pr:mf K mainGlobals "abs" = some none)
  (Nw:mf K mainGlobals "list" = some none)
  (IZ:mf K mainGlobals "tuple" = some none)
  (Pt:mf K mainGlobals "int" = some none)
  (Pu:mf K mainGlobals "str" = some none)
  (Nx:mf K mainGlobals "bool" = some none)
  (xG:mf K mainGlobals "isinstance" = some none)
  (Pw:mf K mainGlobals "all" = some none)
  (Px:mf K mainGlobals "set" = some none)
  (FL:mf K mainGlobals "sorted" = some none)
  (Py:mf K mainGlobals "zip" = some none)
  (yr:mf K mainGlobals "enumerate" = some none)
  (Pz:mf K mainGlobals "sum" = some none)
  (AX:mf K mainGlobals "reversed" = some none)
  (FN:mf K mainGlobals "divmod" = some none)
  (PD:mf K mainGlobals "any" = some none)
  (xH:mf K mainGlobals "ValueError" = some none)
  (tq:∃tk,mf K mainGlobals "SIGNS" = some (some (.str "abc" tk)))
  (jc:∃tk,mf K mainGlobals "MOST_PLACES" = some (some (.int 9 tk)))
  : ∃fd:l5,(∀(s:ba) (v:al),Xr s fd ⟨[v],[]⟩ [("_law_script",v)])/\∀base:ge,K.In base->base.Ns mainGlobals mg->(∃bm ob,Wa base mainGlobals mg bm ob)->(∀c p,sB h c p->sB base c p)->FnOk l.prog w K mg base bf 15 fa fd ["_law_script"] (spLaw K ⟨tabs,lts.zip [qW]⟩) :=by
 obtain ⟨PF,NS,cN⟩:=AR.df X G ["thing"] fun _ _ _ _ _ _ us hl=>match us,hl with | [_],_=>rfl
 obtain ⟨FO,DS,bN⟩:=qj.df X G ["thing","many"] fun _ _ _ _ _ _ us hl=>match us,hl with | [_,_],_=>rfl
 obtain ⟨FP,DT,cG⟩:=qk.df X G ["one","other"] fun _ _ _ _ _ _ us hl=>match us,hl with | [_,_],_=>rfl
 obtain ⟨Sn,QX,gG⟩:=FJ.df X G ["thing","many","width"] fun _ _ _ _ _ _ us hl=>match us,hl with | [_,_,_],_=>rfl
 obtain ⟨Sr,QY,gH⟩:=FK.df X G ["thing"] fun _ _ _ _ _ _ us hl=>match us,hl with | [_],_=>rfl
 obtain ⟨PH,NT,fQ⟩:=AU.df X G ["thing"] fun _ _ _ _ _ _ us hl=>match us,hl with | [_],_=>rfl
 obtain ⟨Ny,lh⟩:=lh
 obtain ⟨NU,Nz,e8⟩:=lh.df X G ["start","width","step","most"] (fun _ _ _ _ _ _ _ us hl=>match us,hl with | [_,_,_],_=>⟨_,rfl,rfl⟩) fun _ _ _ _ _ _ _ us hl=>match us,hl with | [_,_,_,_],_=>⟨_,rfl,rfl⟩
 obtain ⟨Jm,Ja,bt⟩:=uP.df X G ["net","start"] fun _ _ _ _ _ _ us hl=>match us,hl with | [_,_],_=>rfl
 obtain ⟨Sw,Ss,jD⟩:=IX.df X G ["net"] fun _ _ _ _ _ _ us hl=>match us,hl with | [_],_=>rfl
 obtain ⟨FQ,DU,cF⟩:=ql.df X G ["net"] fun _ _ _ _ _ _ us hl=>match us,hl with | [_],_=>rfl
 obtain ⟨NA,Jn,d9⟩:=xB.df X G ["net"] fun _ _ _ _ _ _ us hl=>match us,hl with | [_],_=>rfl
 obtain ⟨U6,Sx,ko⟩:=Nv.df X G ["net"] fun _ _ _ _ _ _ us hl=>match us,hl with | [_],_=>rfl
 obtain ⟨PJ,NV,fR⟩:=AV.df X G ["_law_script","_law_at"] fun _ _ _ _ _ _ us hl=>match us,hl with | [_,_],_=>rfl
 obtain ⟨NW,NB,az⟩:=yo.df X G ["_law_bag_here","_law_many"] fun _ _ _ _ _ _ us hl=>match us,hl with | [_,_],_=>rfl
 obtain ⟨NC,Jo,bM⟩:=xC.df X G ["_law_bag_here","_law_many"] fun _ _ _ _ _ _ us hl=>match us,hl with | [_,_],_=>rfl
 obtain ⟨PK,NX,fS⟩:=AW.df X G ["_law_bag_here","_law_most"] fun _ _ _ _ _ _ us hl=>match us,hl with | [_,_],_=>rfl
 obtain ⟨ND,Jp,d8⟩:=xD.df X G ["_law_net_here"] fun _ _ _ _ _ _ us hl=>match us,hl with | [_],_=>rfl
 obtain ⟨NF,Jq,ee⟩:=xE.df X G ["_law_net_here"] fun _ _ _ _ _ _ us hl=>match us,hl with | [_],_=>rfl
 obtain ⟨Jb,Hj,di⟩:=tj.df X G ["_law_one","_law_other"] fun _ _ _ _ _ _ us hl=>match us,hl with | [_,_],_=>rfl
 obtain ⟨Jr,Jc,dD⟩:=uQ.df X G ["_law_net_here","_law_places"] fun _ _ _ _ _ _ us hl=>match us,hl with | [_,_],_=>rfl
 obtain ⟨NY,NI,fg⟩:=yp.df X G ["_law_net_here"] fun _ _ _ _ _ _ us hl=>match us,hl with | [_],_=>rfl
 obtain ⟨NZ,NK,fe⟩:=yq.df X G ["_law_net_here"] fun _ _ _ _ _ _ us hl=>match us,hl with | [_],_=>rfl
 obtain ⟨Jd,Hk,dj⟩:=tm.df X G ["_law_net_here","_law_many","_law_numbers"] fun _ _ _ _ _ _ us hl=>match us,hl with | [_,_,_],_=>rfl
 obtain ⟨NM,Js,cp⟩:=xF.df X G ["_law_net_here"] fun _ _ _ _ _ _ us hl=>match us,hl with | [_],_=>rfl
 obtain ⟨Ve,NN,AY⟩:=Pl.df X G ["_law_script"] fun _ _ _ _ _ _ us hl=>match us,hl with | [_],_=>rfl
 have lg:=Gc X G yn
 have jz:=Gc X G IW
 have ou:=Gc X G DM
 have qh:=Gc X G FH
 have qi:=Gc X G FI
 have gS:=Gc X G DN
 have X_:=HU eb
 have jy:C_NoNet∈[C_NoNet,C_NoPlace,C_NoSign,C_NoWord,C_NoWhole] :=by simp
 have oq:C_NoPlace∈[C_NoNet,C_NoPlace,C_NoSign,C_NoWord,C_NoWhole] :=by simp
 have qf:C_NoSign∈[C_NoNet,C_NoPlace,C_NoSign,C_NoWord,C_NoWhole] :=by simp
 have qg:C_NoWord∈[C_NoNet,C_NoPlace,C_NoSign,C_NoWord,C_NoWhole] :=by simp
 have dg:C_NoWhole∈[C_NoNet,C_NoPlace,C_NoSign,C_NoWord,C_NoWhole] :=by simp
 have e:=U4.symm.trans AY.mg
 cases e
 have bl:Bl mg:=⟨on X G Pm,on X G IY,on X G Pn,on X G Pq,on X G Pr,on X G Nw,on X G IZ,on X G Pt,on X G Pu,on X G Nx,on X G xG,on X G Pw,on X G Px,on X G FL,on X G Py,on X G yr,on X G Pz,on X G AX,on X G FN,on X G PD,on X G xH⟩
 obtain ⟨Su,tq⟩:=tq
 have kf:=Gc X G tq
 obtain ⟨Je,jc⟩:=jc
 have iz:=Gc X G jc
 obtain ⟨aV,QZ,rfl,FR,T⟩:=iD T
 obtain ⟨bb,Q0,rfl,FT,T⟩:=iD T
 obtain ⟨bS,Sy,rfl,NP,T⟩:=iD T
 cases T
 obtain ⟨aE,Jf,rfl,uR,U⟩:=iD U
 cases U
 refine ⟨NN,fun s v=>AY.bind1 s v (by intros;rfl),fun base _ _ dM tr=>?_⟩
 obtain ⟨mM,iy⟩:=qX gG X FR tr
 obtain ⟨xi,mO⟩:=qX gH X FT tr
 obtain ⟨DH,sd⟩:=qX ko X NP tr
 obtain ⟨m7,gu⟩:=qX bt X uR tr
 have DP:aV∈(⟨[aV,bb,bS],[(aE,qW)]⟩:cu) :=by show _∈[aV,bb,bS];simp
 have DQ:bb∈(⟨[aV,bb,bS],[(aE,qW)]⟩:cu) :=by show _∈[aV,bb,bS];simp
 have Jg:bS∈(⟨[aV,bb,bS],[(aE,qW)]⟩:cu) :=by show _∈[aV,bb,bS];simp
 have g8:(aE,qW)∈(⟨[aV,bb,bS],[(aE,qW)]⟩:cu).l :=by simp
 have g9:∀q∈(⟨[aV,bb,bS],[(aE,qW)]⟩:cu).l,q.1=aE->q.2=qW :=by simp
 have pY:=Dr (P:=l.prog) (w:=w) (tb:=(⟨[aV,bb,bS],[(aE,qW)]⟩:cu)) gH mO DQ gG iy DP dM bN cN bl iz
 have mS:=yh fQ gH pY X_ jy jz
 have dC:=sU (P:=l.prog) (w:=w) (tb:=(⟨[aV,bb,bS],[(aE,qW)]⟩:cu)) bt gu dM g8 g9 e8 bl kf
 have FU:=Fv jD fQ mS bt dC bl
 have DR:=Ft (S:=zk) FU fun ds M Q E ⟨net,n,e,O,q⟩=>⟨net,n,e,O,.inr q⟩
 have Jh:=oX cF jD DR bl
 have km:=uM d9 cF Jh X_ dg gS
 have FV:=oY (P:=l.prog) (w:=w) (base:=base) (tb:=(⟨[aV,bb,bS],[(aE,qW)]⟩:cu)) cG bl
 have xr:=IQ ko sd Jg dM d9 km bt dC cG FV bl
 have xI:=MY (tb:=(⟨[aV,bb,bS],[(aE,qW)]⟩:cu)) (yc (P:=l.prog) (w:=w) (base:=base) az)
 have PL:=Pg (tb:=(⟨[aV,bb,bS],[(aE,qW)]⟩:cu)) (Ay (P:=l.prog) (w:=w) (base:=base) fR bl)
 have zv:=xa bM az xI bl
 have PN:=AA fS az xI bM zv bl
 have Ji:=xl (P:=l.prog) (w:=w) (base:=base) (tb:=(⟨[aV,bb,bS],[(aE,qW)]⟩:cu)) d8 bl
 have Jj:=xo ee d8 Ji bl
 have PO:=sW (P:=l.prog) (w:=w) (base:=base) (tb:=(⟨[aV,bb,bS],[(aE,qW)]⟩:cu)) di bl
 have FW:=uN (P:=l.prog) (w:=w) (base:=base) (tb:=(⟨[aV,bb,bS],[(aE,qW)]⟩:cu)) dD bl
 have Jk:=yj fg dD FW di PO bl
 have NQ:=yk fe ko xr X_ jy oq qf qg dg (by simpa using U5) lg jz ou qh qi gS bl
 have NR:=sY (P:=l.prog) (w:=w) (base:=base) (tb:=(⟨[aV,bb,bS],[(aE,qW)]⟩:cu)) dj bl
 have Jl:=xx cp fe NQ ee Jj fg Jk dj NR bl
 exact Md (Nu AY fR PL fS PN az xI bM zv cp Jl bl)
theorem walk {l:XG} {q:ff} {loose:List bn} {XP:(bn->Option al)->ge->Prop} {YP:ii->ge->Prop} {d:DefRec} {K:XS->bi} (hn:l.most=some 63) (BA:d.params.defaults=[])
  (CV:∀w:ii,W3 (K w.params)=true) (GW:∀y∈((["is_row","is_net","beat"]:List bn)++(["first_words"]:List bn)),∃r∈recsOf q,r.name=y) (pf:∀w:ii,sQ (K w.params) ["is_row","is_net","beat"] ["first_words"]=true) (hY:∀(w:ii) (h:ge),YP w h->(K w.params).In h)
  (F:∀(w:ii) (mg:bn->Option al) (fa:ac) (h:ge) (tabs lts:List ac),(K w.params).In h->h.Ns mainGlobals mg->mg d.name=some (.ref fa)->
   EN (TabOf mg h) ["is_row","is_net","beat"] tabs->EN (TabOf mg h) ["first_words"] lts->
   ∃fd:l5,(∀(s:ba) (u:al),Xr s fd ⟨[u],[]⟩ [("_law_script",u)]) /\
    ∀base:ge,(K w.params).In base->base.Ns mainGlobals mg->(∃bm ob,Wa base mainGlobals mg bm ob)->(∀c p,sB h c p->sB base c p)->FnOk l.prog w (K w.params) mg base bf 15 fa fd ["_law_script"] (spLaw (K w.params) ⟨tabs,lts.zip [qW]⟩)) :
  PySem.W.WalkO q loose XP YP l.row.toRowW d [] (fun f vs=>XM f vs):=
 L2.Fd (n:=63) (k:=15) (x := "_law_script") (CX:=bf) (sp:=fun K tabs lts=>spLaw K ⟨tabs,lts.zip [qW]⟩) hn (by decide) BA ⟨rfl,by decide,by decide⟩ CV GW pf hY F (fun _ _ _ _ a ns hl hn hT hL hS=>Fe hl hn hT hL hS) fun _ _ _ _ z=>z
end My
open PySem PySem.W PyProof.Rows L2
set_option maxRecDepth 100000 in
set_option maxHeartbeats 0 in
theorem PySem.Challenge.cw_roadcall_k07_beats_holds : PySem.Challenge.rw_roadcall_k07_beats.Holds := by
 w_on;o_law
 refine My.Hl (q:=My.kq) (loose:=My.kL) (H:=My.kH) My.left (by rfl) (by rfl) (by rfl) (by rfl) (by first|assumption|decide +kernel) (by decide +kernel) ⟨rfl,rfl,rfl,rfl,rfl,by decide +kernel⟩ ?hw ?hc
 (case hw=>w_witness2)
 refine My.walk (l:=PySem.Challenge.rw_roadcall_k07_beats) rfl rfl (fun w=>by kernel_rfl) (recs_of (by decide +kernel)) (fun w=>by kernel_rfl) (fun w h Y=>Y) ?F
 intro w mg fa h tabs lts KX G BC T U
 exact My.all_mk (C_RoadError:=24) (C_NoNet:=37) (C_NoPlace:=49) (C_NoSign:=61) (C_NoWord:=73) (C_NoWhole:=85) KX G BC T U
  (by kernel_rfl)
  (by kernel_rfl)
  (by kernel_rfl)
  (by kernel_rfl)
  (by kernel_rfl)
  (by kernel_rfl)
  (by kernel_rfl)
  (by decide)
  (L2.aX (f:=94) (oc:=.type "function") (od:=none) (sl:=#[]) (kV:=.none) (dc:=.none) (pm:=My.vS "roadcall.whole" 287) (an:=none) (cd:=.ref 93) (ct:=.none) (by kernel_rfl) (by kernel_rfl) (by kernel_rfl) (by kernel_rfl))
  (L2.aX (f:=101) (oc:=.type "function") (od:=none) (sl:=#[]) (kV:=.none) (dc:=.none) (pm:=My.vS "roadcall.whole" 287) (an:=none) (cd:=.ref 100) (ct:=.none) (by kernel_rfl) (by kernel_rfl) (by kernel_rfl) (by kernel_rfl))
  (L2.aX (f:=108) (oc:=.type "function") (od:=none) (sl:=#[]) (kV:=.none) (dc:=.none) (pm:=My.vS "roadcall.whole" 287) (an:=none) (cd:=.ref 107) (ct:=.none) (by kernel_rfl) (by kernel_rfl) (by kernel_rfl) (by kernel_rfl))
  (L2.aX (f:=115) (oc:=.type "function") (od:=none) (sl:=#[]) (kV:=.none) (dc:=.none) (pm:=My.vS "roadcall.nets" 312) (an:=none) (cd:=.ref 114) (ct:=.none) (by kernel_rfl) (by kernel_rfl) (by kernel_rfl) (by kernel_rfl))
  (L2.aX (f:=122) (oc:=.type "function") (od:=none) (sl:=#[]) (kV:=.none) (dc:=.none) (pm:=My.vS "roadcall.nets" 312) (an:=none) (cd:=.ref 121) (ct:=.none) (by kernel_rfl) (by kernel_rfl) (by kernel_rfl) (by kernel_rfl))
  (L2.aX (f:=129) (oc:=.type "function") (od:=none) (sl:=#[]) (kV:=.none) (dc:=.none) (pm:=My.vS "roadcall.nets" 312) (an:=none) (cd:=.ref 128) (ct:=.none) (by kernel_rfl) (by kernel_rfl) (by kernel_rfl) (by kernel_rfl))
  (L2.C1 (f:=137) (oc:=.type "function") (od:=none) (sl:=#[]) (T:=130) (oT:=⟨.type "tuple",none,.seq #[.int 511 346] 0,#[]⟩) (kV:=.none) (dc:=.none) (pm:=My.vS "roadcall.ways" 344) (an:=none) (cd:=.ref 136) (ct:=.none) (by kernel_rfl) (by kernel_rfl) (by kernel_rfl) (by kernel_rfl) (by kernel_rfl) rfl)
  (L2.aX (f:=144) (oc:=.type "function") (od:=none) (sl:=#[]) (kV:=.none) (dc:=.none) (pm:=My.vS "roadcall.ways" 344) (an:=none) (cd:=.ref 143) (ct:=.none) (by kernel_rfl) (by kernel_rfl) (by kernel_rfl) (by kernel_rfl))
  (L2.aX (f:=149) (oc:=.type "function") (od:=none) (sl:=#[]) (kV:=.none) (dc:=.none) (pm:=My.vS "roadcall.ways" 344) (an:=none) (cd:=.ref 148) (ct:=.none) (by kernel_rfl) (by kernel_rfl) (by kernel_rfl) (by kernel_rfl))
  (L2.aX (f:=156) (oc:=.type "function") (od:=none) (sl:=#[]) (kV:=.none) (dc:=.none) (pm:=My.vS "roadcall.ways" 344) (an:=none) (cd:=.ref 155) (ct:=.none) (by kernel_rfl) (by kernel_rfl) (by kernel_rfl) (by kernel_rfl))
  (L2.aX (f:=163) (oc:=.type "function") (od:=none) (sl:=#[]) (kV:=.none) (dc:=.none) (pm:=My.vS "roadcall.ways" 344) (an:=none) (cd:=.ref 162) (ct:=.none) (by kernel_rfl) (by kernel_rfl) (by kernel_rfl) (by kernel_rfl))
  (L2.aX (f:=168) (oc:=.type "function") (od:=none) (sl:=#[]) (kV:=.none) (dc:=.none) (pm:=My.vS "roadcall.beats" 392) (an:=none) (cd:=.ref 167) (ct:=.none) (by kernel_rfl) (by kernel_rfl) (by kernel_rfl) (by kernel_rfl))
  (L2.aX (f:=175) (oc:=.type "function") (od:=none) (sl:=#[]) (kV:=.none) (dc:=.none) (pm:=My.vS "law_roadcall_k07_beats" 400) (an:=none) (cd:=.ref 174) (ct:=.none) (by kernel_rfl) (by kernel_rfl) (by kernel_rfl) (by kernel_rfl))
  (L2.aX (f:=182) (oc:=.type "function") (od:=none) (sl:=#[]) (kV:=.none) (dc:=.none) (pm:=My.vS "law_roadcall_k07_beats" 400) (an:=none) (cd:=.ref 181) (ct:=.none) (by kernel_rfl) (by kernel_rfl) (by kernel_rfl) (by kernel_rfl))
  (L2.aX (f:=189) (oc:=.type "function") (od:=none) (sl:=#[]) (kV:=.none) (dc:=.none) (pm:=My.vS "law_roadcall_k07_beats" 400) (an:=none) (cd:=.ref 188) (ct:=.none) (by kernel_rfl) (by kernel_rfl) (by kernel_rfl) (by kernel_rfl))
  (L2.aX (f:=194) (oc:=.type "function") (od:=none) (sl:=#[]) (kV:=.none) (dc:=.none) (pm:=My.vS "law_roadcall_k07_beats" 400) (an:=none) (cd:=.ref 193) (ct:=.none) (by kernel_rfl) (by kernel_rfl) (by kernel_rfl) (by kernel_rfl))
  (L2.aX (f:=199) (oc:=.type "function") (od:=none) (sl:=#[]) (kV:=.none) (dc:=.none) (pm:=My.vS "law_roadcall_k07_beats" 400) (an:=none) (cd:=.ref 198) (ct:=.none) (by kernel_rfl) (by kernel_rfl) (by kernel_rfl) (by kernel_rfl))
  (L2.aX (f:=204) (oc:=.type "function") (od:=none) (sl:=#[]) (kV:=.none) (dc:=.none) (pm:=My.vS "law_roadcall_k07_beats" 400) (an:=none) (cd:=.ref 203) (ct:=.none) (by kernel_rfl) (by kernel_rfl) (by kernel_rfl) (by kernel_rfl))
  (L2.aX (f:=211) (oc:=.type "function") (od:=none) (sl:=#[]) (kV:=.none) (dc:=.none) (pm:=My.vS "law_roadcall_k07_beats" 400) (an:=none) (cd:=.ref 210) (ct:=.none) (by kernel_rfl) (by kernel_rfl) (by kernel_rfl) (by kernel_rfl))
  (L2.aX (f:=218) (oc:=.type "function") (od:=none) (sl:=#[]) (kV:=.none) (dc:=.none) (pm:=My.vS "law_roadcall_k07_beats" 400) (an:=none) (cd:=.ref 217) (ct:=.none) (by kernel_rfl) (by kernel_rfl) (by kernel_rfl) (by kernel_rfl))
  (L2.aX (f:=225) (oc:=.type "function") (od:=none) (sl:=#[]) (kV:=.none) (dc:=.none) (pm:=My.vS "law_roadcall_k07_beats" 400) (an:=none) (cd:=.ref 224) (ct:=.none) (by kernel_rfl) (by kernel_rfl) (by kernel_rfl) (by kernel_rfl))
  (L2.aX (f:=232) (oc:=.type "function") (od:=none) (sl:=#[]) (kV:=.none) (dc:=.none) (pm:=My.vS "law_roadcall_k07_beats" 400) (an:=none) (cd:=.ref 231) (ct:=.none) (by kernel_rfl) (by kernel_rfl) (by kernel_rfl) (by kernel_rfl))
  (L2.aX (f:=237) (oc:=.type "function") (od:=none) (sl:=#[]) (kV:=.none) (dc:=.none) (pm:=My.vS "law_roadcall_k07_beats" 400) (an:=none) (cd:=.ref 236) (ct:=.none) (by kernel_rfl) (by kernel_rfl) (by kernel_rfl) (by kernel_rfl))
  (L2.aX (f:=244) (oc:=.type "function") (od:=none) (sl:=#[]) (kV:=.none) (dc:=.none) (pm:=My.vS "law_roadcall_k07_beats" 400) (an:=none) (cd:=.ref 243) (ct:=.none) (by kernel_rfl) (by kernel_rfl) (by kernel_rfl) (by kernel_rfl))
  (L2.aX (f:=251) (oc:=.type "function") (od:=none) (sl:=#[]) (kV:=.none) (dc:=.none) (pm:=My.vS "law_roadcall_k07_beats" 400) (an:=none) (cd:=.ref 250) (ct:=.none) (by kernel_rfl) (by kernel_rfl) (by kernel_rfl) (by kernel_rfl))
  (by kernel_rfl)
  (by kernel_rfl)
  (by kernel_rfl)
  (by kernel_rfl)
  (by kernel_rfl)
  (by kernel_rfl)
  (by kernel_rfl)
  (by kernel_rfl)
  (by kernel_rfl)
  (by kernel_rfl)
  (by kernel_rfl)
  (by kernel_rfl)
  (by kernel_rfl)
  (by kernel_rfl)
  (by kernel_rfl)
  (by kernel_rfl)
  (by kernel_rfl)
  (by kernel_rfl)
  (by kernel_rfl)
  (by kernel_rfl)
  (by kernel_rfl)
  ⟨314,by kernel_rfl⟩
  ⟨316,by kernel_rfl⟩
