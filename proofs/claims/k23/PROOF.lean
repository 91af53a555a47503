import PyProof.Rows.All
import Wide.All
import OpenK.AllK
import Wide.FinOn
import Lean
import PySem.Challenge.RW_roadcall_k23_whole_ways_and_parts
import PyProof.EqAt
import PyProof.EqKinds
import PyProof.TupleCall
import PyProof.NeKinds
import PyProof.EnumMake
import PyProof.EnumFor
import PyProof.ZipIter
import PyProof.Rows.ZipGen
import KE.KLam
import PyProof.DictItems
import KE.KTurnsDict
import KE.KPairComp
import KE.KDictList
import KE.KRevSl
open PySem renaming Addr->ac,Value->ag,wpAny_bind->al,Shared->ap,Str->ba,wpAny_pure->ca,Expr->ci,Program->cr,Heap->db,World->gc,Obj->ii,FuncData->im,boot_len->kw,wpAny_mono->lw,Around->l9,Stmt->mv,Pos->rf,seg_bind_wrap->r9,wpAny_newObj_type->ul,Scope->uu,wpAny_callSpecial?_slot->u4,mem_of_lookup->u7,wpAny_call_entry->v6,Spec->wp,Builtin->wr,wpAny_truthy_bool->zn,wpAny_standAt->At,wpAny_Call_Name_kw->AM,Paired->BN,codeAny_builtin->Cs,wpAny_setField_rec->Do,plainId_quiet->EU,wpAny_typeNameOfWhole_keyiter->Fa,Env->Go,wpAny_rule->GE,wpAny_field->GG,Arguments->GS,TriplesOk->Ix,tupleKind_room_in1->IF,wpAny_passesOwn->IN,wpAny_holding->KB,wpAny_attempt->KF,Keyword->LM,wpAny_setEntries_of->NG,NameKind->OE,SetTable->OF,wpAny_fieldsOf->Po,DictEntry->PP,CmpOp->Re,sizeLine_eq->RS,wpAny_updateSeq->SL,wpAny_setState_of->S1,IsEnum->S4,GenState->S6,wpAny_askSetting->S8,wpAny_isInstance->S9,seg_again->Te,wpAny_execs_nil->Tn,wpAny_typeOf->Tt,wpAny_specialOf->Tu,Tok->Tz,wpAny_seqItems->TK,wpAny_pyIter_tuple->TR,Sem->T5,wpAny_pyIter_slot->T8,wpAny_dictEntries->T9,PlainAttrs->Ud,BindsTo->Uf,codeAny_mono->Uh,wpAny_of_in1->Ul,call_meetsIn->Um,PassesOwn->Uu,wpAny_loadPart'->Ux,wpAny_dictEpoch->Uz,wpAny_of_eq->UB,call->UF,wpAny_load->UH,call_meets->UI,Params->UK,Result->UL,IsEnumOut->UN
open PySem.W renaming Frag->ar,nsIn->i1,mg_none_of->l7,CodeHd->mT,fnOf->wT,hideAll->xp,keepIn->AC,kia_one->AE,mg_of->Cc,codeIn->CS,kla_obj->IT,tabObj->LP,envX->Na,hideAll_get->Sk,looseW->TD,kitOne->TJ,of_hideAll->TN,kb_classed->TV,recOk->TX,excIn->T0,methodObj->T4,xlAt->Ug,opening->Ur,instObj->Ut,OpenLaw->Uy
open List renaming getElem?_eq_getElem->bi,getElem?_map->br,getElem?_eq_some_iff->bv,length_map->cb,mem_of_getElem?->c8,mem_append_right->ge,mem_cons_of_mem->hX,mem_cons_self->i0,size_toArray->jp,mem_singleton->li,mem_cons->lp,getElem?_append_left->l8,mem_iff_getElem?->mo,range->on,replicate->qr,getElem_mem->ss,mem_map->sw,getElem?_append_right->sB,length_append->tw,mem_append->tz,all_eq_true->u8,map_cons->wb,map_append->wv,replicate_succ->wE,getElem?_range->wP,getD_eq_getElem?_getD->wS,map_map->xz,getElem?_zip_eq_some->zd,mem_append_left->AT,mem_filter->Cn,append_nil->Co,length_singleton->Da,drop_eq_getElem_cons->DD,nodup_cons->EN,flatten_cons->EQ,append_assoc->ES,length_range->ET,getElem?_cons_succ->FF,not_mem_nil->Gc,nil_append->IR,pairwise_iff_getElem->LB,Nodup->LF,mem_range->LH,lookup_cons->Mc,length_cons->Mn,filter_cons->MW,filterMap_cons->NE,getElem?_replicate->NJ,of_mem_zip->NL,find?_cons->NO,zip_cons_cons->On,length_zip->Op,getElem?_set_self->Os,length_pos_of_mem->OL,take_of_length_le->ON,eq_nil_of_length_eq_zero->OP,length_replicate->Pe,cons_append->Rs,length_set->SB,length_nil->SO,mem_or_eq_of_mem_set->SS,getElem?_set->S2,drop_length->Tc,Perm->Ti,getElem?_eq_none->Tk,length_filter_le->Tl,map_nil->Tq,getElem?_append->Tw,mem_filterMap->TU,pairwise_cons->TW,foldl_append->Ua,nodup_append->Ub,length_take->Ui,length_drop->Uj,nodup_range->Up,take_length->Uq,range_succ->UA
open PySem.Heap renaming get?_push_of_some->bn,get?_push_size->ff,lt_size->f8,SameBut->xw,get?_update_other->xL,get?_update_self->B0,size_push->Pi,ExtBut->TM
open Nat renaming le_refl->ce,ne_of_lt->i8,lt_of_lt_of_le->lc,zero_le->rb,le_trans->sK,le_succ->DO,lt_succ_self->FS,lt_irrefl->JJ,le_of_lt->Pc,ne_of_gt->Pd,min_self->Ps,le_of_eq->Pv,sub_self->PM,lt_succ_of_lt->SY,le_of_not_lt->S7,strongRecOn->Ts,not_lt_zero->Tv,mod_lt->Ue,gcd->UE,not_lt->UJ
open Option.some renaming inj->dL
open Bool renaming false_ne_true->ij,false_eq_true->i4,and_eq_true->BB,true_and->S5,eq_iff_iff->To,false_and->TH,not_true->TZ
open Option renaming map_eq_some_iff->io,some->GM,isSome_iff_exists->LS,isSome_map->OR,map_some->SI,join_some->Uo
open PySem.Value renaming ref->l5,none->AS,type->BS,str->Td,int->Us,bool->UG
open Or renaming inl->l6,inr->EO
open PySem.PassesOwn renaming never->ma
open Sum renaming inl->mf,inr->TF
open PySem.Str renaming ofString->nw
open PySem.NameKind renaming free->r6
open Int renaming toNat_natCast->ut,eq_ofNat_of_zero_le->Ch,zero_add->Nd,emod_nonneg->Tx,le_refl->UC
open Ne renaming symm->wn
open Array renaming length_toList->ww,getElem?_eq_getElem->ze,getElem?_toList->Db,toList_append->Sm,getElem?_eq_none->S3,size_push->Uv
open PySem.SetTable renaming below->xb
open PySem.Around renaming under_plainId->xy
open PySem.F renaming slot_dict_keyiterator_next->zw,plainAttrs_list->Cf,slot_dict_get->IS,excBase_ValueError->KM,plain_list_iadd->Lo,slot_list_append->Nl,type_list_append->No,entry_dict_get->OK,plain_extend_loop->So,entry_proto_collect->Tf,plain_proto_collect->Th,entry_list_iadd->T6,plain_all_loop->Uk
open PyProof.Rows renaming callWith_type1->AL,IntsAre->Pf,BMod->SX,assignInOrder_cons->TQ,AllBare->UD
open PySem.Builtin.List renaming listExtendWith->AN,listSameRef->Me,listLengthHint->P3,listTooLong->SW
open False renaming elim->BY
open True renaming intro->EM
open PySem.Builtin.Str renaming occurrences->Fk
open Classical renaming propDecidable->FM
open PySem.Calls renaming spliced_cons->GT,spliced_nil->Ll,evalArgs_plain->Tp
open PySem.Obj renaming data_mapFields->ID,mapSeq->Lu,isFreed_of_fields->Tj,cls_mapFields->T7
open PySem.W.Fast renaming tw821141287760084731->LG
open PySem.Heap.SameBut renaming update->NH
open PySem.Paired renaming length->RI
open PySem.Sem renaming bind_eq_wrap'->SZ,onRaise_eq_wrap->TC,wrap_wrap->TY
open PySem.SetTable.below renaming go->S0
open ForInStep renaming yield->Tr
open Sum.inl renaming inj->TL
open List.Pairwise renaming map->Uc
open PySem.Txt renaming slice->Uw
open And renaming intro->UM
set_option linter.all false
set_option Elab.async false
set_option maxRecDepth 100000
namespace My
open PySem PyProof.Rows
def kA (s:mv):GS:=match s with
 | .FunctionDef _ a _ _ _ _ _ _ _ _=>a
 |_=>{posonlyargs:=[],args:=[],vararg:=none,kwonlyargs:=[],kw_defaults:=[],kwarg:=none,defaults:=[]}
def kB (s:mv):List mv:=match s with
 | .FunctionDef _ _ b _ _ _ _ _ _ _=>b
 |_=>[]
def kS (s:mv):uu:=match s with
 | .FunctionDef _ _ _ _ _ _ sc _ _ _=>sc
 |_=>{kind:=.function,names:=[],isGenerator:=false,isCoroutine:=false}
def vS (x:String) (t:Nat):ag:=.str (nw x) t
def kE (P:UK) (x:String) (t:Nat) (v:ag):PP:=⟨PyData.keyHash P (nw x),vS x t,v⟩
def kF (i:Nat) (x:String) (d m:ag) (c:Nat):ii:=let st:=PySem.Challenge.pw_roadcall_k23_whole_ways_and_parts.main.body.getD i (.Pass ⟨0,0,0,0⟩);⟨.type "function",none,.func (wT (nw x) (nw x) (kA st) (kB st) (kS st) d .none .none m none (.ref c) .none),#[]⟩
def kC (x:String) (t:Nat) (l n f:Int) (a:Nat) (b:Bool) (m:Int) (p:Nat) (u z:ag) (q:Nat) (e:Int) (t2:Nat):ii:=⟨.type "code",none,.fields #[vS x t,vS x (t+1),vS "/claim/cut.py" (t+2),.int l 0,.int n 0,.int 0 0,.int 0 0,.int f 0,.ref a,.bool b,.int m 0,.ref p,.none,u,z,.ref q,.int e 0,.int l 0,vS "/claim/cut.py" t2],#[]⟩
def kK (P:UK):ar:=[(2,⟨.none,none,.dict [].toArray 0,#[]⟩),
 (3,⟨.type "dict",none,.dict [kE P "__name__" 165 (vS "law_roadcall_k23_whole_ways_and_parts" 454),kE P "__doc__" 166 .none,kE P "__package__" 167 .none,kE P "__loader__" 168 (.builtin "__main__.__loader__#opaque"),kE P "__spec__" 169 .none,kE P "__annotations__" 170 (.ref 6),kE P "__builtins__" 171 (.ref 4),kE P "__file__" 173 (vS "/claim/cut.py" 172),kE P "__cached__" 174 .none,kE P "RoadError" 206 (.ref 24),kE P "NoNet" 222 (.ref 37),kE P "NoPlace" 238 (.ref 49),kE P "NoWord" 254 (.ref 61),kE P "NoWhole" 270 (.ref 73),kE P "is_whole" 279 (.ref 82),kE P "is_whole_below" 287 (.ref 89),kE P "common_divisor" 295 (.ref 96),kE P "SIGNS" 299 (vS "abc" 298),kE P "MOST_PLACES" 301 (.int 9 300),kE P "MOST_SIGNS_OF_WORD" 303 (.int 2000 302),kE P "is_row" 313 (.ref 103),kE P "is_net" 322 (.ref 110),kE P "need_net" 329 (.ref 117),kE P "signs_of" 336 (.ref 124),kE P "is_place" 344 (.ref 131),kE P "need_place" 352 (.ref 138),kE P "is_word" 361 (.ref 145),kE P "need_word" 369 (.ref 152),kE P "MOST_SETS" 373 (.int 511 372),kE P "end_of" 383 (.ref 159),kE P "led" 392 (.ref 166),kE P "first_met" 407 (.ref 174),kE P "first_words" 416 (.ref 181),kE P "way" 425 (.ref 188),kE P "parts" 431 (.ref 193),kE P "hangs_together" 438 (.ref 200),kE P "need_whole" 445 (.ref 207),kE P "beat" 453 (.ref 212),kE P "_law_bag" 466 (.ref 219),kE P "_law_take" 477 (.ref 226),kE P "_law_order" 488 (.ref 233),kE P "_law_net" 494 (.ref 238),kE P "_law_right" 508 (.ref 245),kE P "law" 524 (.ref 252)].toArray 44,#[]⟩),
 (23,⟨.type "dict",none,.dict [kE P "__module__" 196 (vS "roadcall.errors" 187),kE P "__firstlineno__" 200 (.int 2 199),kE P "__static_attributes__" 201 (.ref 22),kE P "__weakref__" 203 (.ref 25),kE P "__doc__" 204 .none].toArray 3,#[]⟩),
 (24,⟨.type "type",none,.cls {name:=nw "RoadError",bases:=[.type "ValueError"],mro:=[.ref 24,.type "ValueError",.type "Exception",.type "BaseException",.type "object"],ns:=23,qualname:=nw "RoadError",subclasses:=[.ref 37,.ref 49,.ref 61,.ref 73]},#[some (.ref 15),none,some (vS "RoadError" 189),some (vS "RoadError" 197),some (.builtin "ValueError.__new__"),some (.bool true)]⟩),
 (36,⟨.type "dict",none,.dict [kE P "__module__" 214 (vS "roadcall.errors" 187),kE P "__firstlineno__" 218 (.int 4 217),kE P "__static_attributes__" 219 (.ref 35),kE P "__doc__" 220 .none].toArray 2,#[]⟩),
 (37,⟨.type "type",none,.cls {name:=nw "NoNet",bases:=[.ref 24],mro:=[.ref 37,.ref 24,.type "ValueError",.type "Exception",.type "BaseException",.type "object"],ns:=36,qualname:=nw "NoNet",subclasses:=[]},#[some (.ref 28),none,some (vS "NoNet" 207),some (vS "NoNet" 215),some (.builtin "ValueError.__new__"),some (.bool true)]⟩),
 (48,⟨.type "dict",none,.dict [kE P "__module__" 230 (vS "roadcall.errors" 187),kE P "__firstlineno__" 234 (.int 6 233),kE P "__static_attributes__" 235 (.ref 47),kE P "__doc__" 236 .none].toArray 2,#[]⟩),
 (49,⟨.type "type",none,.cls {name:=nw "NoPlace",bases:=[.ref 24],mro:=[.ref 49,.ref 24,.type "ValueError",.type "Exception",.type "BaseException",.type "object"],ns:=48,qualname:=nw "NoPlace",subclasses:=[]},#[some (.ref 40),none,some (vS "NoPlace" 223),some (vS "NoPlace" 231),some (.builtin "ValueError.__new__"),some (.bool true)]⟩),
 (60,⟨.type "dict",none,.dict [kE P "__module__" 246 (vS "roadcall.errors" 187),kE P "__firstlineno__" 250 (.int 8 249),kE P "__static_attributes__" 251 (.ref 59),kE P "__doc__" 252 .none].toArray 2,#[]⟩),
 (61,⟨.type "type",none,.cls {name:=nw "NoWord",bases:=[.ref 24],mro:=[.ref 61,.ref 24,.type "ValueError",.type "Exception",.type "BaseException",.type "object"],ns:=60,qualname:=nw "NoWord",subclasses:=[]},#[some (.ref 52),none,some (vS "NoWord" 239),some (vS "NoWord" 247),some (.builtin "ValueError.__new__"),some (.bool true)]⟩),
 (72,⟨.type "dict",none,.dict [kE P "__module__" 262 (vS "roadcall.errors" 187),kE P "__firstlineno__" 266 (.int 10 265),kE P "__static_attributes__" 267 (.ref 71),kE P "__doc__" 268 .none].toArray 2,#[]⟩),
 (73,⟨.type "type",none,.cls {name:=nw "NoWhole",bases:=[.ref 24],mro:=[.ref 73,.ref 24,.type "ValueError",.type "Exception",.type "BaseException",.type "object"],ns:=72,qualname:=nw "NoWhole",subclasses:=[]},#[some (.ref 64),none,some (vS "NoWhole" 255),some (vS "NoWhole" 263),some (.builtin "ValueError.__new__"),some (.bool true)]⟩),
 (81,kC "is_whole" 273 13 1 3 76 true 181 77 (.ref 78) (.ref 79) 80 277 278),
 (82,kF 7 "is_whole" .none (vS "roadcall.whole" 271) 81),
 (88,kC "is_whole_below" 280 15 2 3 83 true 181 84 (.ref 85) (.ref 86) 87 285 286),
 (89,kF 8 "is_whole_below" .none (vS "roadcall.whole" 271) 88),
 (95,kC "common_divisor" 288 17 2 3 90 true 181 91 (.ref 92) (.ref 93) 94 293 294),
 (96,kF 9 "common_divisor" .none (vS "roadcall.whole" 271) 95),
 (102,kC "is_row" 304 26 3 3 97 true 181 98 (.ref 99) (.ref 100) 101 311 312),
 (103,kF 14 "is_row" .none (vS "roadcall.nets" 296) 102),
 (109,kC "is_net" 314 30 1 3 104 true 181 105 (.ref 106) (.ref 107) 108 320 321),
 (110,kF 15 "is_net" .none (vS "roadcall.nets" 296) 109),
 (116,kC "need_net" 323 38 1 3 111 true 181 112 (.ref 113) (.ref 114) 115 327 328),
 (117,kF 16 "need_net" .none (vS "roadcall.nets" 296) 116),
 (123,kC "signs_of" 330 41 1 3 118 true 181 119 (.ref 120) (.ref 121) 122 334 335),
 (124,kF 17 "signs_of" .none (vS "roadcall.nets" 296) 123),
 (130,kC "is_place" 337 44 2 3 125 true 181 126 (.ref 127) (.ref 128) 129 342 343),
 (131,kF 18 "is_place" .none (vS "roadcall.nets" 296) 130),
 (137,kC "need_place" 345 46 2 3 132 true 181 133 (.ref 134) (.ref 135) 136 350 351),
 (138,kF 19 "need_place" .none (vS "roadcall.nets" 296) 137),
 (144,kC "is_word" 353 49 2 3 139 true 181 140 (.ref 141) (.ref 142) 143 359 360),
 (145,kF 20 "is_word" .none (vS "roadcall.nets" 296) 144),
 (151,kC "need_word" 362 54 2 3 146 true 181 147 (.ref 148) (.ref 149) 150 367 368),
 (152,kF 21 "need_word" .none (vS "roadcall.nets" 296) 151),
 (158,kC "end_of" 374 59 3 3 153 true 181 154 (.ref 155) (.ref 156) 157 381 382),
 (159,kF 24 "end_of" .none (vS "roadcall.ways" 370) 158),
 (165,kC "led" 384 63 3 3 160 true 181 161 (.ref 162) (.ref 163) 164 390 391),
 (166,kF 25 "led" .none (vS "roadcall.ways" 370) 165),
 (167,⟨.type "tuple",none,.seq #[.int 511 372] 0,#[]⟩),
 (173,kC "first_met" 393 68 4 3 168 true 181 169 (.ref 170) (.ref 171) 172 405 406),
 (174,kF 26 "first_met" (.ref 167) (vS "roadcall.ways" 370) 173),
 (180,kC "first_words" 408 79 2 3 175 true 181 176 (.ref 177) (.ref 178) 179 414 415),
 (181,kF 27 "first_words" .none (vS "roadcall.ways" 370) 180),
 (187,kC "way" 417 81 3 3 182 true 181 183 (.ref 184) (.ref 185) 186 423 424),
 (188,kF 28 "way" .none (vS "roadcall.ways" 370) 187),
 (192,kC "parts" 426 86 1 3 189 true 181 190 .none .none 191 429 430),
 (193,kF 29 "parts" .none (vS "roadcall.ways" 370) 192),
 (199,kC "hangs_together" 432 95 1 3 194 true 181 195 (.ref 196) (.ref 197) 198 436 437),
 (200,kF 30 "hangs_together" .none (vS "roadcall.ways" 370) 199),
 (206,kC "need_whole" 439 97 1 3 201 true 181 202 (.ref 203) (.ref 204) 205 443 444),
 (207,kF 31 "need_whole" .none (vS "roadcall.ways" 370) 206),
 (211,kC "beat" 448 101 1 3 208 true 181 209 .none .none 210 451 452),
 (212,kF 33 "beat" .none (vS "roadcall.beats" 446) 211),
 (218,kC "_law_bag" 456 111 2 3 213 true 181 214 (.ref 215) (.ref 216) 217 464 465),
 (219,kF 35 "_law_bag" .none (vS "law_roadcall_k23_whole_ways_and_parts" 454) 218),
 (225,kC "_law_take" 467 121 2 3 220 true 181 221 (.ref 222) (.ref 223) 224 475 476),
 (226,kF 36 "_law_take" .none (vS "law_roadcall_k23_whole_ways_and_parts" 454) 225),
 (232,kC "_law_order" 478 133 2 3 227 true 181 228 (.ref 229) (.ref 230) 231 486 487),
 (233,kF 37 "_law_order" .none (vS "law_roadcall_k23_whole_ways_and_parts" 454) 232),
 (237,kC "_law_net" 489 139 2 3 234 true 181 235 .none .none 236 492 493),
 (238,kF 38 "_law_net" .none (vS "law_roadcall_k23_whole_ways_and_parts" 454) 237),
 (244,kC "_law_right" 495 161 4 3 239 true 181 240 (.ref 241) (.ref 242) 243 506 507),
 (245,kF 39 "_law_right" .none (vS "law_roadcall_k23_whole_ways_and_parts" 454) 244),
 (251,kC "law" 509 172 1 3 246 true 181 247 (.ref 248) (.ref 249) 250 522 523),
 (252,kF 40 "law" .none (vS "law_roadcall_k23_whole_ways_and_parts" 454) 251)]
def PX:List ac:=[2,3,23,24,36,37,48,49,60,61,72,73,81,82,88,89,95,96,102,103,109,110,116,117,123,124,130,131,137,138,144,145,151,152,158,159,165,166,167,173,174,180,181,187,188,192,193,199,200,206,207,211,212,218,219,225,226,232,233,237,238,244,245,251,252]
def kq:cr:=PySem.W.view PySem.Challenge.pw_roadcall_k23_whole_ways_and_parts [1,2,3,4,5,7,8,9,11,12,13,14,15,16,17,18,19,20,21,23,24,25,27,28,29,30,31,33,35,36,37,38,39,40]
def kL:List ba:=[nw "first_met"]
def kH:PySem.W.Hook:=PySem.W.kHook kK PX fun _=>by kernel_rfl
theorem E5 {r:PySem.W.OpenRow} {q:cr} {loose:List ba} {H:PySem.W.Hook} {d:DefRec} {GP:List (ba×ci)} {N:Nat} (left:PySem.W.LeftO r.prog q loose (fun s=>Ug q [] s && TX r.records s) H.obs H.val N)
  (tj:PySem.W.defOf q r.name=some (d,GP)) (hp:r.prog.theDef r.name=some (d.params,d.body,d.scope)) (hk:PySem.W.kwWritten? d.params.kwonlyargs d.params.kw_defaults=some GP) (PY:(!r.writes || r.records.isEmpty)=true) (k1:r.wellSaid=true)
  (ok:(PySem.W.chainsOk q && PySem.W.opensWell r.prog && (PySem.W.frees r.toRowW && r.within.isEmpty))=true) (hb:r.prog.bare) (hw:r.toRowW.promised) (call:PySem.W.WalkO q loose (PySem.W.XL q []) H.says r.toRowW d GP fun f vs=>UF f vs):r.Holds:=
 PySem.W.holds_open left H.of H.keeps (fun s e=>PySem.W.xl_of s (Bool.and_eq_true_iff.mp e).1) PySem.W.XL.keeps tj hp hk (fun s e=>PySem.W.recFacts_of (Bool.and_eq_true_iff.mp e).2) PY k1 ok hb hw call
noncomputable def oeQ (p:cr) (w:gc) (N:Nat):Option ap:=((PySem.W.Fast.tw10274390034422433532 PySem.W.Fast.tw14364793385576792824 (Ur p) w N (PySem.W.Fast.tw1435165496053646825 (Ur p)).1 (PySem.W.Fast.tw1435165496053646825 (Ur p)).2).bind (PySem.W.Fast.tw14289696077712309145 p)).bind fun s₀=>match s₀.heap.isNs PySem.mainGlobals && s₀.gens.size==0 with
 |true=>(PySem.W.Fast.tw14082659384304107361 PySem.W.Fast.tw14364793385576792824 p w s₀.heap.objs.size (s₀.heap.nsMap PySem.mainGlobals "__annotations__") N s₀ (PySem.W.topStub p)).bind fun aw=>match PySem.W.staticsOk (importedModules p.main.body) s₀.heap aw.heap && PySem.W.namesBound p aw.heap && PySem.W.gensDone aw && PySem.W.laidKept s₀.heap aw.heap with
   |true=>some aw
   |false=>none
 |false=>none
theorem La (p:cr) (w:gc) (N:Nat):PySem.W.openEnds treeTable p w N=oeQ p w N :=by
 unfold oeQ
 rw [<- PySem.W.Fast.te10274390034422433532,<- PySem.W.Fast.te14364793385576792824,<- PySem.W.Fast.te1435165496053646825,<- PySem.W.Fast.te14289696077712309145,<- PySem.W.Fast.te14082659384304107361]
 rfl
noncomputable def nsQ (q:cr):List ba:=(PySem.W.Fast.tw3399658132070893891 q).map (·.name)
theorem DV (q:cr):(recsOf q).map (·.name)=nsQ q :=by unfold nsQ;rw [<- PySem.W.Fast.te3399658132070893891]
noncomputable def c1Q (s:ap):=PySem.W.Fast.tw5160383126252970620 (nsQ kq) (PySem.W.Fast.tw5991557255702980513 kq) [] {s with gens:=#[]}
theorem Lb (s:ap):seen ((recsOf kq).map (·.name)) (ownsOf kq) [] {s with gens:=#[]}=c1Q s :=by unfold c1Q;rw [DV,<- PySem.W.Fast.te5160383126252970620,<- PySem.W.Fast.te5991557255702980513]
def c2 (s:ap):=(s.heap.bltView,s.heap.keysOk (TD kq kL) ((recsOf kq).map (·.name)) ((litsOf kq).map (·.1)) ((clssOf kq (TD kq kL)).map (·.name)) && s.heap.accountedOkI (importedModules PySem.Challenge.pw_roadcall_k23_whole_ways_and_parts.main.body) && s.heap.isNs mainGlobals && s.heap.isNs builtinsNs && tablesOk kq s.heap && (Ug kq [] s && TX [] s) && (s.gens.size==0))
noncomputable def c2Q (s:ap):=(s.heap.bltView,PySem.W.Fast.tw10880121769531294198 s.heap (LG kq kL) (nsQ kq) ((PySem.W.Fast.tw7409074990110511671 kq).map (·.1)) ((PySem.W.Fast.tw13664370479719496447 kq (LG kq kL)).map (·.name)) && PySem.W.Fast.tw14722251495701143533 s.heap (importedModules PySem.Challenge.pw_roadcall_k23_whole_ways_and_parts.main.body) && s.heap.isNs mainGlobals && s.heap.isNs builtinsNs && PySem.W.Fast.tw10994771534591457954 kq s.heap && (Ug kq [] s && TX [] s) && (s.gens.size==0))
theorem Lc (s:ap):c2 s=c2Q s :=by unfold c2 c2Q;rw [DV,<- PySem.W.Fast.te10880121769531294198,<- PySem.W.Fast.te821141287760084731,<- PySem.W.Fast.te7409074990110511671,<- PySem.W.Fast.te13664370479719496447,<- PySem.W.Fast.te14722251495701143533,<- PySem.W.Fast.te10994771534591457954]
def c3 (s:ap):=tabsOk kq s
def c5 (s:ap):=plainSeenE kq (TD kq kL) s
def c4 (s:ap):=(PySem.pinSeenD kq (drecsOf kq) s,plainSeenD kq kL s,PySem.W.wideSeen kq s,PySem.W.clsSeenW kq kL s)
noncomputable def c3Q (s:ap):=PySem.W.Fast.tw479339242167458305 kq s
noncomputable def c5Q (s:ap):=PySem.W.Fast.tw2386780881361962483 kq (LG kq kL) s
noncomputable def c4Q (s:ap):=(PySem.W.Fast.tw16090120013241838585 kq (PySem.W.Fast.tw3247288618530077131 kq) s,PySem.W.Fast.tw11698064438423848299 kq kL s,PySem.W.Fast.tw7317090234206586261 kq s,PySem.W.Fast.tw7369524293546568484 kq kL s)
theorem Ld (s:ap):c3 s=c3Q s :=by unfold c3 c3Q;rw [<- PySem.W.Fast.te479339242167458305]
theorem Le (s:ap):c5 s=c5Q s :=by unfold c5 c5Q;rw [<- PySem.W.Fast.te2386780881361962483,<- PySem.W.Fast.te821141287760084731]
theorem Lf (s:ap):c4 s=c4Q s :=by unfold c4 c4Q;rw [<- PySem.W.Fast.te16090120013241838585,<- PySem.W.Fast.te3247288618530077131,<- PySem.W.Fast.te11698064438423848299,<- PySem.W.Fast.te7317090234206586261,<- PySem.W.Fast.te7369524293546568484]
set_option maxHeartbeats 0 in
theorem left0 (w:gc):(oeQ PySem.Challenge.pw_roadcall_k23_whole_ways_and_parts w 3992).map (fun s=>kH.obs s)=some (kH.val w) :=by kernel_rfl
set_option maxHeartbeats 0 in
theorem left1 (w:gc):(oeQ PySem.Challenge.pw_roadcall_k23_whole_ways_and_parts w 3992).map c1Q=some (expectedOf kq) :=by kernel_rfl
set_option maxHeartbeats 0 in
theorem left2 (w:gc):(oeQ PySem.Challenge.pw_roadcall_k23_whole_ways_and_parts w 3992).map c2Q=some (bltViewBooted,true) :=by kernel_rfl
set_option maxHeartbeats 0 in
theorem left3 (w:gc):(oeQ PySem.Challenge.pw_roadcall_k23_whole_ways_and_parts w 3992).map c3Q=some true :=by kernel_rfl
set_option maxHeartbeats 0 in
theorem left5 (w:gc):(oeQ PySem.Challenge.pw_roadcall_k23_whole_ways_and_parts w 3992).map c5Q=some (plainGoodE kq (TD kq kL)) :=by kernel_rfl
set_option maxHeartbeats 0 in
theorem left4 (w:gc):(oeQ PySem.Challenge.pw_roadcall_k23_whole_ways_and_parts w 3992).map c4Q=some (PySem.pinGoodD (drecsOf kq),plainGoodD kq kL,PySem.W.wideGood kq,PySem.W.clsGoodW kq kL) :=by kernel_rfl
theorem left (w:gc):(PySem.W.openEnds treeTable PySem.Challenge.pw_roadcall_k23_whole_ways_and_parts w 3992).map (fun s=>(PySem.W.openSeen kq kL (importedModules PySem.Challenge.pw_roadcall_k23_whole_ways_and_parts.main.body) (fun s=>Ug kq [] s && TX [] s) true s,kH.obs s))=some (PySem.W.openGood kq kL,kH.val w) :=by
 rw [La]
 have a0:=left0 w
 have a1:=left1 w
 have a2:=left2 w
 have a3:=left3 w
 have a4:=left4 w
 have a5:=left5 w
 revert a0 a1 a2 a3 a4 a5
 generalize oeQ PySem.Challenge.pw_roadcall_k23_whole_ways_and_parts w 3992=o
 cases o with
 |none=>intro a0;cases a0
 |some s=>
  intro a0 a1 a2 a3 a4 a5
  have a0:kH.obs s=kH.val w:=dL a0
  have a1:=dL a1
  have a2:=dL a2
  have a3:=dL a3
  have a4:=dL a4
  have a5:=dL a5
  rw [<- Lb] at a1
  rw [<- Lc] at a2
  rw [<- Ld] at a3
  rw [<- Lf] at a4
  rw [<- Le] at a5
  show some ((seen ((recsOf kq).map (·.name)) (ownsOf kq) [] {s with gens:=#[]},(c2 s).1,(c2 s).2,c3 s,(c4 s).1,c5 s,(c4 s).2),kH.obs s)=_
  rw [a0,a1,a2,a3,a4,a5]
  rfl
end My
namespace L2
open PySem PySem.Spec PyProof.Rows
abbrev Key:=Sum Int ba
def nu:Key->ag->Bool
 | .inl k,v=>ag.isInt k v
 | .inr x,v=>ag.isStrOf x v
def Og (w:gc):Key->Int
 | .inl k=>hashInt k
 | .inr x=>hashStr w x
theorem cn:∀{k:Key} {v:ag},nu k v=true->(∃i t,k=mf i/\v=Us i t)\/(∃x t,k=TF x/\v=Td x t)
 | .inl i,v,h=>by
          obtain ⟨t,e⟩:=ag.isInt_shape (k:=i) (v:=v) h
          exact .inl ⟨i,t,rfl,e⟩
 | .inr x,v,h=>by
          obtain ⟨t,e⟩:=ag.isStrOf_shape (x:=x) (v:=v) h
          exact .inr ⟨x,t,rfl,e⟩
theorem yX (i:Int) (t:Tz):nu (.inl i) (.int i t)=true :=by simp [nu,ag.isInt]
theorem yY (x:ba) (t:Tz):nu (.inr x) (.str x t)=true :=by simp [nu,ag.isStrOf]
theorem GQ (a b:Int):decide ((mf a:Key)=mf b)=(a==b) :=by
 by_cases e:a=b
 ·subst e;simp
 ·have h:¬ (mf a:Key)=mf b:=fun q=>e (TL q)
  rw [decide_eq_false h]
  exact (beq_eq_false_iff_ne.mpr e).symm
theorem GR (a b:ba):decide ((TF a:Key)=TF b)=decide (a=b) :=by
 by_cases e:a=b
 ·subst e;simp
 ·have h:¬ (TF a:Key)=TF b:=fun q=>e (TF.inj q)
  rw [decide_eq_false h,decide_eq_false e]
theorem GU (a:Int) (b:ba):decide ((mf a:Key)=TF b)=false:=decide_eq_false (fun q=>nomatch q)
theorem GV (a:ba) (b:Int):decide ((TF a:Key)=mf b)=false:=decide_eq_false (fun q=>nomatch q)
def bq (prog:cr) (w:gc):PySem.KeyKind prog w Key where
 is:=nu
 hash:=Og w
 inj:=fun v a b ha hb=>by
  rcases cn ha with ⟨i,t,rfl,rfl⟩|⟨x,t,rfl,rfl⟩
  ·rcases cn hb with ⟨j,u,rfl,e⟩|⟨y,u,rfl,e⟩
   ·injection e with e1 _;rw [e1]
   ·exact nomatch e
  ·rcases cn hb with ⟨j,u,rfl,e⟩|⟨y,u,rfl,e⟩
   ·exact nomatch e
   ·injection e with e1 _;rw [e1]
 byValue:=fun k v h=>by
  rcases cn h with ⟨i,t,rfl,rfl⟩|⟨x,t,rfl,rfl⟩ <;> rfl
 pyHash:=fun hv h=>by
  rcases cn hv with ⟨i,t,rfl,rfl⟩|⟨x,t,rfl,rfl⟩
  ·exact wpAny_pyHash_int h
  ·exact wpAny_pyHash_str h
 eqBool:=fun hu hv h=>by
  rcases cn hu with ⟨i,t,rfl,rfl⟩|⟨x,t,rfl,rfl⟩
  ·rcases cn hv with ⟨j,u,rfl,rfl⟩|⟨y,u,rfl,rfl⟩
   ·rw [GQ] at h;exact wpAny_eqBool_int h
   ·rw [GU] at h;exact SeqAt.EqAt.int_str i t y u _ _ _ _ h
  ·rcases cn hv with ⟨j,u,rfl,rfl⟩|⟨y,u,rfl,rfl⟩
   ·rw [GV] at h;exact SeqAt.EqAt.str_int x t j u _ _ _ _ h
   ·rw [GR] at h;exact wpAny_eqBool_str h
 «strs»:=fun k x t v h=>by
  rcases cn h with ⟨i,u,rfl,e⟩|⟨y,u,rfl,e⟩
  ·exact nomatch e
  ·injection e with e1 _
   subst e1
   cases v <;> rfl
theorem vz (prog:cr) (w:gc) (i:Int) (t:Tz):(bq prog w).is (.inl i) (.int i t)=true:=yX i t
theorem vA (prog:cr) (w:gc) (x:ba) (t:Tz):(bq prog w).is (.inr x) (.str x t)=true:=yY x t
inductive V where
 |aB|bl (b:Bool)|int (i:Int)|str (x:ba)|i7 (b:Array UInt8)|wg (b:UInt64)|ref (a:ac)|ty (n:String)
 deriving DecidableEq
def RelV:V->ag->Prop
 | .aB,u=>u=AS
 | .bl b,u=>u=UG b
 | .int i,u=>∃t,u=Us i t
 | .str x,u=>∃t,u=Td x t
 | .i7 b,u=>∃t,u=ag.bytes b t
 | .wg b,u=>∃t,u=ag.float b t
 | .ref a,u=>u=l5 a
 | .ty n,u=>u=BS n
abbrev Vals:List V->List ag->Prop:=BN RelV
theorem Vals.length {xs:List V} {us:List ag} (r:Vals xs us):xs.length=us.length:=RI r
theorem Vals.get:∀{xs:List V} {us:List ag} {i:Nat} {x:V},Vals xs us->xs[i]?=some x->∃u,us[i]?=some u/\RelV x u
 |_,_,_,_,.nil,e=>by simp at e
 |_,_,0,_,.cons r _,e=>by simp at e;subst e;exact ⟨_,rfl,r⟩
 |_,_,i+1,x,.cons _ t,e=>by
          obtain ⟨u,h1,h2⟩:=Vals.get (i:=i) (x:=x) t (by simpa using e)
          exact ⟨u,by simpa using h1,h2⟩
theorem Vals.set {x:V} {u:ag} (r:RelV x u):∀{xs:List V} {us:List ag} (i:Nat),Vals xs us->Vals (xs.set i x) (us.set i u)
 |_,_,_,.nil=>.nil
 |_,_,0,.cons _ t=>.cons r t
 |_,_,i+1,.cons q t=>.cons q (Vals.set r i t)
theorem Vals.append:∀{xs ys:List V} {us ws:List ag},Vals xs us->Vals ys ws->Vals (xs++ys) (us++ws)
 |_,_,_,_,.nil,s=>s
 |_,_,_,_,.cons r t,s=>.cons r (Vals.append t s)
theorem Vals.take:∀{xs:List V} {us:List ag} (n:Nat),Vals xs us->Vals (xs.take n) (us.take n)
 |_,_,0,_=>.nil
 |_,_,_+1,.nil=>.nil
 |_,_,n+1,.cons r t=>.cons r (Vals.take n t)
theorem Vals.drop:∀{xs:List V} {us:List ag} (n:Nat),Vals xs us->Vals (xs.drop n) (us.drop n)
 |_,_,0,r=>r
 |_,_,_+1,.nil=>.nil
 |_,_,n+1,.cons _ t=>Vals.drop n t
def gQ:Option V->Option ag->Prop
 |some v,some u=>RelV v u
 |none,none=>True
 |_,_=>False
def KV {κ:Type}:List (κ×V)->List (κ×ag)->Prop:=BN fun (p:κ×V) (q:κ×ag)=>p.1=q.1/\RelV p.2 q.2
def kV:Key->V
 | .inl i=>.int i
 | .inr x=>.str x
inductive HO where
 |lst (xs:List V)
 |tup (xs:List V)
 |dK (aj:List (Key×V))|dT (aj:List (List Key×V))
 |set (S:Int->Bool) (n:Nat)
 |ins (C dx:ac) (fs:List (ba×V))
 |own (x:ac)
 |xd (fs:List (ba×V))
 |met (f x:ac)
 |DW (lo hi:Int)
 |bQ (o:ii) (u:HO)
 |cN (ps:Array ag)
 |lam (ps:Array ag)
 |ext (φ:db->Prop)
abbrev Hp:=ac->Option HO
def upd (H:Hp) (a:ac) (o:HO):Hp:=fun b=>if b=a then some o else H b
theorem ax {H:Hp} {a:ac} {o:HO}:upd H a o a=some o :=by unfold upd;rw [if_pos rfl]
theorem af {H:Hp} {a b:ac} {o:HO} (h:b≠a):upd H a o b=H b :=by unfold upd;rw [if_neg h]
theorem wj {H:Hp} {a:ac} {o u:HO}:upd (upd H a o) a u=upd H a u :=by
 funext b;unfold upd;split <;> rfl
theorem xr {H:Hp} {a b:ac} {o u:HO} (h:H a=some o) (h':H b=some u) (d:o≠u):a≠b :=by
 intro e;subst e;rw [h] at h';exact d (dL h')
theorem bf {H:Hp} {a b:ac} {o:HO} (h:H a=some o) (h':H b=none):a≠b :=by
 intro e;subst e;rw [h] at h';cases h'
section
variable (P:cr) (w:gc)
def j5 (h:db) (a:ac) (items:Array ag):Prop:=∃o,h.get? a=some o/\o.cls=.type "tuple" /\ ∃n,o.data=.seq items n/\o.dict=none
theorem j5.tup {h:db} {a:ac} {items:Array ag} (x:j5 h a items):IsTup h a items:=let ⟨o,e,c,n,d,_⟩:=x;⟨o,e,c,n,d⟩
theorem j5.lt {h:db} {a:ac} {items:Array ag} (x:j5 h a items):a<h.objs.size:=x.tup.lt
theorem j5.new (h:db) (items:Array ag):j5 (h.push {cls:=.type "tuple",data:=.seq items}) h.objs.size items:=⟨_,ff _ rfl,rfl,_,rfl,rfl⟩
def ObjOk (H:Hp) (h:db) (a:ac):HO->Prop
 | .lst xs=>xs.length<=sizeLine/\∃(its:List ag) (n:Nat),Vals xs its/\h.get? a=some {cls:=.type "list",data:=.seq its.toArray n}
 | .tup xs=>xs.length<=sizeLine/\∃its:List ag,Vals xs its/\j5 h a its.toArray
 | .dK aj=>aj.length<=sizeLine/\(a==sysModules)=false/\∃vs,KV aj vs/\h.DictOf (bq P w) a vs
 | .dT aj=>aj.length<=sizeLine/\(a==sysModules)=false/\∃xs:List (List Key×ac×ag),
   BN (fun (p:List Key×V) (q:List Key×ac×ag)=>p.1=q.1/\H q.2.1=some (.tup (p.1.map kV))/\RelV p.2 q.2.2) aj xs /\
   ∃o es ep,h.get? a=some o/\o.ExactDict/\o.data=.dict es ep/\es.toList=xs.map (entryOfKey (tupleKind (bq P w)))/\(xs.map (·.1)).Nodup
 | .set S n=>h.SetOf (intKind P w) a S n
 | .ins C dx fs=>H dx=some (.own a)/\fs.length<=1000/\dx≠a/\h.get? a=some (Ut C dx) /\
   ∃mA,h.Ns1 dx mA/\(∀f,gQ (fs.lookup f) (mA f))/\PySem.Within mA (fs.map (·.1))
 | .own _=>∃o,h.get? a=some o
 | .xd fs=>∃mA,h.Ns1 a mA/\∀f,gQ (fs.lookup f) (mA f)
 | .DW lo hi=>∃t u v,h.get? a=some {cls:=.type "range",data:=.fields #[.int lo t,.int hi u,.int 1 v]}
 | .bQ o u=>h.get? a=some o/\ObjOk H h a u
 | .cN ps=>h.get? a=some {cls:=.none,data:=.fields ps}
 | .lam ps=>h.get? a=some {cls:=.none,data:=.fields ps}
 | .met f x=>h.get? a=some (T4 (.ref f) (.ref x))
 | .ext φ=>φ h/\(∃o,h.get? a=some o)/\∀h1 h2:db,φ h1->(∀o,h1.get? a=some o->h2.get? a=some o)->φ h2
def cQ (H:Hp) (h:db):Prop:=∀a o,H a=some o->ObjOk P w H h a o
end
section
variable {P:cr} {w:gc} {H H':Hp} {h h':db} {a:ac} {o:HO}
theorem ObjOk.lt (x:ObjOk P w H h a o):a<h.objs.size :=by
 cases o with
 |lst xs=>obtain ⟨_,_,_,_,e⟩:=x;exact f8 e
 |tup xs=>obtain ⟨_,_,_,p⟩:=x;exact p.lt
 |dK aj=>obtain ⟨_,_,_,_,o,_,_,e,_⟩:=x;exact f8 e
 |dT aj=>obtain ⟨_,_,_,_,o,_,_,e,_⟩:=x;exact f8 e
 |set S n=>obtain ⟨o,_,_,_,e,_⟩:=x;exact f8 e
 |ins C dx fs=>obtain ⟨_,_,_,e,_⟩:=x;exact f8 e
 |own y=>obtain ⟨_,e⟩:=x;exact f8 e
 |xd fs=>obtain ⟨_,⟨_,_,_,e,_⟩,_⟩:=x;exact f8 e
 |DW lo hi=>obtain ⟨_,_,_,e⟩:=x;exact f8 e
 |bQ ob u=>obtain ⟨e,_⟩:=x;exact f8 e
 |cN ps=>exact f8 (show h.get? a=some _ from x)
 |lam ps=>exact f8 (show h.get? a=some _ from x)
 |met f y=>exact f8 (show h.get? a=some _ from x)
 |ext φ=>obtain ⟨_,⟨_,e⟩,_⟩:=x;exact f8 e
theorem BN.BV {α β:Type} {F G:α->β->Prop}:∀{GW:List α} {GX:List β},BN F GW GX->(∀a b,F a b->G a b)->BN G GW GX
 |_,_,.nil,_=>.nil
 |_,_,.cons r t,f=>.cons (f _ _ r) (BN.BV t f)
theorem ObjOk.cV (x:ObjOk P w H h a o) (k:∀b u,(b=a\/H b=some (.own a))->h.get? b=some u->h'.get? b=some u)
  (ho:∀b,H b=some (.own a)->H' b=some (.own a)) (ht:∀b xs,H b=some (.tup xs)->H' b=some (.tup xs)):ObjOk P w H' h' a o :=by
 induction o with
 |lst xs=>obtain ⟨z,its,n,r,e⟩:=x;exact ⟨z,its,n,r,k _ _ (.inl rfl) e⟩
 |tup xs=>obtain ⟨z,its,r,ob,e,c⟩:=x;exact ⟨z,its,r,ob,k _ _ (.inl rfl) e,c⟩
 |dK aj=>obtain ⟨z,y,vs,r,ob,es,ep,e,c⟩:=x;exact ⟨z,y,vs,r,ob,es,ep,k _ _ (.inl rfl) e,c⟩
 |dT aj=>
  obtain ⟨z,y,xs,r,ob,es,ep,e,c⟩:=x
  exact ⟨z,y,xs,BN.BV r fun p q z=>⟨z.1,ht _ _ z.2.1,z.2.2⟩,ob,es,ep,k _ _ (.inl rfl) e,c⟩
 |set S n=>obtain ⟨ob,es,ep,t,e,c⟩:=x;exact ⟨ob,es,ep,t,k _ _ (.inl rfl) e,c⟩
 |ins C dx fs=>
  obtain ⟨d,z,ne,e,mA,⟨od,es,ep,e2,c⟩,r⟩:=x
  exact ⟨ho _ d,z,ne,k _ _ (.inl rfl) e,mA,⟨od,es,ep,k _ _ (.inr d) e2,c⟩,r⟩
 |own y=>obtain ⟨ob,e⟩:=x;exact ⟨ob,k _ _ (.inl rfl) e⟩
 |xd fs=>obtain ⟨mA,⟨od,es,ep,e,c⟩,r⟩:=x;exact ⟨mA,⟨od,es,ep,k _ _ (.inl rfl) e,c⟩,r⟩
 |DW lo hi=>obtain ⟨t,u,v,e⟩:=x;exact ⟨t,u,v,k _ _ (.inl rfl) e⟩
 |bQ ob u ih=>obtain ⟨e,q⟩:=x;exact ⟨k _ _ (.inl rfl) e,ih q⟩
 |cN ps=>
  have e:h.get? a=some {cls:=.none,data:=.fields ps}:=x
  show h'.get? a=some {cls:=.none,data:=.fields ps}
  exact k a _ (.inl rfl) e
 |lam ps=>
  have e:h.get? a=some {cls:=.none,data:=.fields ps}:=x
  show h'.get? a=some {cls:=.none,data:=.fields ps}
  exact k a _ (.inl rfl) e
 |met f y=>
  have e:h.get? a=some (T4 (.ref f) (.ref y)):=x
  show h'.get? a=some (T4 (.ref f) (.ref y))
  exact k a _ (.inl rfl) e
 |ext φ=>obtain ⟨p,⟨o,e⟩,st⟩:=x;exact ⟨st _ _ p fun o q=>k _ _ (.inl rfl) q,⟨o,k _ _ (.inl rfl) e⟩,st⟩
theorem cQ.lt (x:cQ P w H h) (e:H a=some o):a<h.objs.size:=(x a o e).lt
theorem cQ.fresh (x:cQ P w H h) (e:h.objs.size<=a):H a=none :=by
 cases q:H a with
 |none=>rfl
 |some u=>exact absurd (lc (x.lt q) e) (JJ _)
theorem cQ.kept (x:cQ P w H h) (k:∀b u,h.get? b=some u->h'.get? b=some u):cQ P w H h':=fun a o e=>
 (x a o e).cV (fun b u _ q=>k b u q) (fun _ q=>q) fun _ _ q=>q
theorem cQ.laid (x:cQ P w H h) (k:∀b u,h.get? b=some u->h'.get? b=some u) (hp:h.objs.size<=a) (new:ObjOk P w (upd H a o) h' a o):cQ P w (upd H a o) h':=fun b u e=>by
 have hn:=x.fresh hp
 by_cases hb:b=a
 ·subst hb;rw [ax] at e;cases e;exact new
 ·rw [af hb] at e
  exact (x b u e).cV (fun c v _ q=>k c v q) (fun c q=>by rw [af (bf q hn)];exact q) fun c xs q=>by rw [af (bf q hn)];exact q
end
def Rd (H:Hp) (a:ac) (u:HO):Prop:=H a=some u\/∃o,H a=some (.bQ o u)
theorem Rd.ok {P:cr} {w:gc} {H:Hp} {h:db} {a:ac} {u:HO} (r:Rd H a u) (x:cQ P w H h):ObjOk P w H h a u :=by
 rcases r with r|⟨o,r⟩
 ·exact x a u r
 ·obtain ⟨_,q⟩:=x a _ r
  exact q
def yZ:Option HO->Prop
 |some (.lst _)=>True
 |some (.dK _)=>True
 |some (.dT _)=>True
 |some (.set _ _)=>True
 |some (.ins _ _ _)=>True
 |some (.ext _)=>True
 |some (.lam _)=>True
 |_=>False
section
variable {P:cr} {w:gc} {H:Hp} {h h':db} {x e:ac} {o':HO}
theorem cQ.write (ok:cQ P w H h) (mu:yZ (H x)) (he:e=x\/H e=some (.own x)) (k:∀b u,b≠e->h.get? b=some u->h'.get? b=some u) (wk:∃u,h'.get? e=some u)
  (new:ObjOk P w (upd H x o') h' x o'):cQ P w (upd H x o') h':=fun b u q=>by
 have GY:∀c y,H c=some (.own y)->c≠x:=fun c y r z=>by subst z;rw [r] at mu;exact mu
 have Oh:∀c xs,H c=some (.tup xs)->c≠x:=fun c xs r z=>by subst z;rw [r] at mu;exact mu
 by_cases hb:b=x
 ·subst hb;rw [ax] at q;cases q;exact new
 ·rw [af hb] at q
  by_cases tm:b=e
  ·have q':H b=some (.own x) :=by
    rcases he with z|z
    ·exact absurd (tm.trans z) hb
    ·rw [tm];exact z
   rw [q] at q';cases q'
   obtain ⟨v,hv⟩:=wk
   exact ⟨v,by rw [tm];exact hv⟩
  ·refine (ok b u q).cV (fun c v hc r=>k c v ?_ r) (fun c r=>by rw [af (GY c b r)];exact r) fun c xs r=>by rw [af (Oh c xs r)];exact r
   rcases hc with rfl|hc
   ·exact tm
   ·rintro rfl
    rcases he with z|z
    ·exact GY c b hc z
    ·rw [hc] at z;cases z;exact hb rfl
end
structure Un (fs ex:List ac) (H H':Hp) (h h':db):Prop where
 keep:∀b o,h.get? b=some o->H b=none->b ∉ fs->b ∉ ex->h'.get? b=some o
 slot:∀b o,h.get? b=some o->H b=none->b∈fs->b ∉ ex->∃sl,h'.get? b=some {o with slots:=sl}
 free:∀b o,h.get? b=some o->H b=none->b ∉ ex->H' b=none
 there:∀b o,h.get? b=some o->b ∉ ex->∃o',h'.get? b=some o'
 tups:∀b xs,H b=some (.tup xs)->H' b=some (.tup xs)
 frzs:∀b o u,H b=some (.bQ o u)->H' b=some (.bQ o u)
 tbls:∀b ps,H b=some (.cN ps)->∃more,H' b=some (.cN (ps++more))
section
variable {fs PZ ex Sl:List ac} {H H1 H2:Hp} {h h1 h2 h':db} {a x e:ac} {o:HO}
theorem Un.any (u:Un fs ex H H1 h h1) {b:ac} {ob:ii} (q:h.get? b=some ob) (n:H b=none) (hx:b ∉ ex):∃sl,h1.get? b=some {ob with slots:=sl}:=by
 by_cases hb:b∈fs
 ·exact u.slot b ob q n hb hx
 ·exact ⟨ob.slots,u.keep b ob q n hb hx⟩
theorem Un.kept (k:∀b u,h.get? b=some u->h'.get? b=some u):Un fs ex H H h h':=
 ⟨fun b ob q _ _ _=>k b ob q,fun b ob q _ _ _=>⟨ob.slots,k b ob q⟩,fun _ _ _ n _=>n,fun b ob q _=>⟨ob,k b ob q⟩,fun _ _ q=>q,fun _ _ _ q=>q,fun _ ps q=>⟨#[],by rw [q];simp⟩⟩
theorem Un.refl:Un fs ex H H h h:=Un.kept fun _ _ q=>q
theorem Un.laid (k:∀b u,h.get? b=some u->h'.get? b=some u) (hp:h.objs.size<=a) (hn:H a=none):Un fs ex H (upd H a o) h h' where
 keep:=fun b u q _ _ _=>k b u q
 slot:=fun b u q _ _ _=>⟨u.slots,k b u q⟩
 free:=fun b u q n _=>by rw [af (i8 (lc (f8 q) hp))];exact n
 there:=fun b u q _=>⟨u,k b u q⟩
 tups:=fun b xs q=>by rw [af (bf q hn)];exact q
 frzs:=fun b u xs q=>by rw [af (bf q hn)];exact q
 tbls:=fun b ps q=>⟨#[],by rw [af (bf q hn),q];simp⟩
theorem Un.write (mu:yZ (H x)) (he:e=x\/H e=some (.own x)) (k:∀b u,b≠e->h.get? b=some u->h'.get? b=some u) (wk:∃u,h'.get? e=some u):Un fs ex H (upd H x o) h h':=by
 have hx:∀b,H b=none->b≠x:=fun b n z=>by subst z;rw [n] at mu;exact mu
 have hb:∀b,H b=none->b≠e:=fun b n z=>by
  subst z
  rcases he with r|r
  ·exact hx b n r
  ·rw [n] at r;cases r
 have hm:∀b u,H b=some u->¬ yZ (some u)->b≠x:=fun b u q nm z=>by subst z;rw [q] at mu;exact nm mu
 refine ⟨fun b u q n _ _=>k b u (hb b n) q,fun b u q n _ _=>⟨u.slots,k b u (hb b n) q⟩,fun b u q n _=>by rw [af (hx b n)];exact n,fun b u q _=>?_,
  fun b xs q=>by rw [af (hm b _ q fun z=>z)];exact q,fun b u xs q=>by rw [af (hm b _ q fun z=>z)];exact q,fun b ps q=>⟨#[],by rw [af (hm b _ q fun z=>z),q];simp⟩⟩
 by_cases tm:b=e
 ·subst tm;exact wk
 ·exact ⟨u,k b u tm q⟩
end
def DX (h:db) (H:Hp):List ac:=(on h.objs.size).filter fun a=>(H a).isSome
def i9 (h:db) (H:Hp):db:=xp h (DX h H)
theorem y0 (h:db) (H:Hp):(i9 h H).objs.size=h.objs.size:=PySem.W.hideAll_size _ _
theorem BW {h:db} {H:Hp} {b:ac} {o:ii} (e:h.get? b=some o) (n:H b=none):(i9 h H).get? b=some o:=
 Sk _ e fun hm=>by
  have q:(H b).isSome=true:=(Cn.mp hm).2
  rw [n] at q;simp at q
theorem E6 {h:db} {H:Hp} {b:ac} {o:ii} (e:(i9 h H).get? b=some o):h.get? b=some o/\H b=none :=by
 have e':h.get? b=some o:=TN (DX h H) e
 refine ⟨e',?_⟩
 cases q:H b with
 |none=>rfl
 |some x=>
  have hm:b∈DX h H:=Cn.mpr ⟨LH.mpr (f8 e'),by simp [q]⟩
  have z:(i9 h H).get? b=none:=PySem.W.hideAll_none (DX h H) hm
  rw [z] at e;cases e
def E7 (g h:db) (L:ac):List (ac×ii):=(on h.objs.size).filterMap fun a=>if a=L\/(g.get? a).isSome=true then none else (h.get? a).map fun o=>(a,o)
def rest (g h:db) (L d:ac):List (ac×ii):=(E7 g h L).filter fun p=>decide (p.1≠d)
structure Mod (K:ar) (mg:ba->Option ag) (base:db):Prop where
 kin:K.In base
 glob:base.Ns mainGlobals mg
 blt:∃mb,base.Ns builtinsNs mb/\∀x:ba,x ≠ "__name__" -> mb x=bootBuiltins x
 nolimit:base.NoLimit
structure Cx where
 prog:cr
 w:gc
 K:ar
 mg:ba->Option ag
 base:db
 A:l9
 N:List ba
 s₀:ap
 H₀:Hp
 env:Go
 outer:List Go
 stack:List Go
 ex:List ac
 fn:ba->Bool
 calm:Bool
 pn:List (ac×ii)
 xe:ag->ap->Prop
def eu (l:List Go):List ac:=l.filterMap (·.frame)
abbrev Cx.fs (X:Cx):List ac:=eu X.outer
def oV (sc:uu) (x:ba):Prop:=sc.names.lookup x=some .local\/sc.names.lookup x=some .cell\/sc.names.lookup x=some .free
def Loc (sc:uu) (x:ba):Prop:=sc.names.lookup x=some .local\/sc.names.lookup x=some .cell
def Look (env:Go) (h:db) (m:ba->Option ag) (x:ba) (u:ag):Prop:=
 (env.kindOf x=some .local/\m x=some u)\/((env.kindOf x=some .cell\/env.kindOf x=some .free)/\∃c,env.cells.lookup x=some c/\h.IsCell c (some u))
structure Cx.Ok (X:Cx):Prop where
 mod:Mod X.K X.mg X.base
 kind:X.env.scope.kind=.function
 glob:X.env.globals=mainGlobals
 blt:X.env.builtins=builtinsNs
 above:X.s₀.heap.objs.size<=X.env.locals
 inj:∀x y c,X.env.cells.lookup x=some c->X.env.cells.lookup y=some c->x=y
 has:∀x,(X.env.kindOf x=some .cell\/X.env.kindOf x=some .free)->∃c,X.env.cells.lookup x=some c
 cab:∀x c,X.fn x=true->X.env.cells.lookup x=some c->X.s₀.heap.objs.size<=c
 hd:X.calm=true->X.A.handled=none
 frames:X.A.frames=some X.stack
 stk:X.stack=X.outer\/(X.stack=X.env::X.outer/\X.env.frame=some X.env.locals)
 exf:∀b∈X.ex,b≠X.env.locals/\∀x c,X.env.cells.lookup x=some c->c≠b
 bs:∀b o,X.base.get? b=some o->X.s₀.heap.get? b=some o/\X.H₀ b=none
 bsz:X.base.objs.size<=X.s₀.heap.objs.size
 noex:∀b o,X.base.get? b=some o->b ∉ X.ex
 exfs:∀b∈X.ex,b ∉ X.fs
 funs:X.s₀.heap.FunFrames X.base X.outer
 frf:∀b∈X.fs,X.H₀ b=none
def Gn (n:Nat) (g:Array S6):Prop:=UD g/\n<=g.size
theorem Gn.self {n:Nat} {g:Array S6} (x:Gn n g):Gn g.size g:=⟨x.1,ce _⟩
theorem Gn.trans {n:Nat} {g g':Array S6} (x:Gn n g) (y:Gn g.size g'):Gn n g':=⟨y.1,sK x.2 y.2⟩
structure Inv (X:Cx) (pins:List (ac×ii)) (σ:List (Option V)) (H:Hp) (s:ap):Prop where
 ok:X.Ok
 os:s.os=X.s₀.os
 bare:Gn X.s₀.gens.size s.gens
 base:Un X.fs X.ex X.H₀ H X.s₀.heap s.heap
 loc:∃m,s.heap.Ns X.env.locals m/\∀(i:Nat) (x:ba) (v:V),X.N[i]?=some x->σ[i]?=some (some v)->oV X.env.scope x->∃u,RelV v u/\Look X.env s.heap m x u
 cell:∀x c,X.env.cells.lookup x=some c->∃v,s.heap.IsCell c v
 free:H X.env.locals=none
 freeC:∀x c,X.env.cells.lookup x=some c->H c=none
 pin:∀p∈X.pn++pins,s.heap.get? p.1=some p.2/\H p.1=none/\p.1≠X.env.locals/\p.1 ∉ X.fs/\∀v,p.2.data≠.cell v
 hok:cQ X.prog X.w H s.heap
 len:σ.length=X.N.length
section
variable {X:Cx} {pins:List (ac×ii)} {σ:List (Option V)} {H H':Hp} {s:ap} {h':db}
theorem Cx.Ok.Oi (ok:X.Ok) {b:ac} {o:ii} (e:X.base.get? b=some o):b ∉ X.fs:=fun hb=>by
 have:=(ok.funs.mem hb).1
 rw [e] at this;cases this
theorem Inv.bs (I:Inv X pins σ H s):∀b o,X.base.get? b=some o->s.heap.get? b=some o/\H b=none:=fun b o e=>
 ⟨I.base.keep b o (I.ok.bs b o e).1 (I.ok.bs b o e).2 (I.ok.Oi e) (I.ok.noex b o e),I.base.free b o (I.ok.bs b o e).1 (I.ok.bs b o e).2 (I.ok.noex b o e)⟩
theorem Inv.bk (I:Inv X pins σ H s):∀b o,X.base.get? b=some o->s.heap.get? b=some o:=fun b o e=>(I.bs b o e).1
theorem Inv.mod (I:Inv X pins σ H s):Mod X.K X.mg X.base:=I.ok.mod
theorem Inv.f9 (I:Inv X pins σ H s):X.K.In s.heap:=I.ok.mod.kin.keeps I.bk
theorem Inv.nolimit (I:Inv X pins σ H s):s.heap.NoLimit:=I.ok.mod.nolimit.keeps I.bk
theorem Inv.lt (I:Inv X pins σ H s):X.env.locals<s.heap.objs.size:=let ⟨_,hn,_⟩:=I.loc;hn.lt
theorem Inv.sz (I:Inv X pins σ H s):X.s₀.heap.objs.size<=s.heap.objs.size:=sK I.ok.above (Pc I.lt)
theorem Inv.GZ (I:Inv X pins σ H s) {a:ac} (h:s.heap.objs.size<=a):a ∉ X.fs:=fun hb=>by
 obtain ⟨_,o,ho,_⟩:=I.ok.funs.mem hb
 exact absurd (lc (f8 ho) (sK I.sz h)) (JJ _)
theorem Inv.qR (I:Inv X pins σ H s):∀x c,X.env.cells.lookup x=some c->c≠X.env.locals:=fun x c e z=>by
 obtain ⟨v,o,ho,hd⟩:=I.cell x c e
 obtain ⟨m,⟨o',es,ep,gL,jJ,_⟩,_⟩:=I.loc
 rw [z,gL] at ho;cases ho;rw [jJ] at hd;cases hd
theorem Inv.funs (I:Inv X pins σ H s):s.heap.FunFrames X.base X.outer :=by
 have all:∀(l:List Go),(∀b∈eu l,b∈X.fs)->X.s₀.heap.FunFrames X.base l->s.heap.FunFrames X.base l :=by
  intro l
  induction l with
  |nil=>intro _ _;trivial
  |cons env r ih=>
   intro hs hl
   obtain ⟨hk,⟨L,o,hf,hn,ho,hd⟩,hr⟩:=hl
   have hL:L∈X.fs:=hs L (by unfold eu;rw [NE,hf];exact i0)
   obtain ⟨sl,e⟩:=I.base.slot L o ho (I.ok.frf L hL) hL fun z=>I.ok.exfs L z hL
   exact ⟨hk,⟨L,_,hf,hn,e,hd⟩,ih (fun b hb=>hs b (by unfold eu;rw [NE,hf];exact hX _ hb)) hr⟩
 exact all X.outer (fun _ hb=>hb) I.ok.funs
theorem Inv.stack (I:Inv X pins σ H s):s.heap.FunFrames X.base X.stack :=by
 rcases I.ok.stk with e|⟨e,hf⟩
 ·rw [e];exact I.funs
 ·rw [e]
  obtain ⟨m,hn,_⟩:=I.loc
  refine .cons (by rw [I.ok.kind];decide) hf hn ?_ I.funs
  exact db.get?_none_of_le (sK I.ok.bsz I.ok.above)
theorem Inv.ie (I:Inv X pins σ H s):∀b∈eu X.stack,b∈X.env.locals::X.fs:=fun b hb=>by
 rcases I.ok.stk with e|⟨e,hf⟩
 ·rw [e] at hb;exact hX _ hb
 ·rw [e] at hb
  unfold eu at hb
  rw [NE,hf] at hb
  exact hb
theorem Inv.nv (I:Inv X pins σ H s):∀b∈eu X.stack,H b=none:=fun b hb=>by
 rcases lp.mp (I.ie b hb) with e|hb
 ·rw [e];exact I.free
 ·obtain ⟨_,o,ho,_⟩:=I.ok.funs.mem hb
  exact I.base.free b o ho (I.ok.frf b hb) fun z=>I.ok.exfs b z hb
theorem Inv.step {g':Array S6} {t':Nat} {d':Drawn} {ch:List ac} (I:Inv X pins σ H s)
  (nX:∀b∈ch,(b∈X.ex\/X.s₀.heap.objs.size<=b)/\b≠X.env.locals/\(∀x c,X.env.cells.lookup x=some c->c≠b)/\∀p∈X.pn++pins,p.1≠b)
  (keep:∀b o,b≠X.env.locals->b ∉ X.fs->b ∉ ch->s.heap.get? b=some o->H b=none->h'.get? b=some o)
  (slot:∀b o,b≠X.env.locals->b∈X.fs->b ∉ ch->s.heap.get? b=some o->H b=none->∃sl,h'.get? b=some {o with slots:=sl}) (free:∀b o,b ∉ ch->s.heap.get? b=some o->H b=none->H' b=none)
  (there:∀b o,b ∉ ch->s.heap.get? b=some o->∃o',h'.get? b=some o')
  (tups:∀b xs,H b=some (.tup xs)->H' b=some (.tup xs)) (frzs:∀b o u,H b=some (.bQ o u)->H' b=some (.bQ o u)) (tbls:∀b ps,H b=some (.cN ps)->∃more,H' b=some (.cN (ps++more)))
  (ns:∀m,s.heap.Ns X.env.locals m->h'.Ns X.env.locals m) (hok:cQ X.prog X.w H' h') (hg:Gn s.gens.size g') :
  Inv X pins σ H' {s with heap:=h',gens:=g',drawn:=d',toks:=t'}:=by
 have MT:∀b o,X.s₀.heap.get? b=some o->b≠X.env.locals:=fun b o e=>i8 (lc (f8 e) I.ok.above)
 have DY:∀b o,X.s₀.heap.get? b=some o->b ∉ X.ex->b ∉ ch:=fun b o e hx hb=>by
  rcases (nX b hb).1 with z|z
  ·exact hx z
  ·exact absurd (lc (f8 e) z) (JJ _)
 have cellK:∀x c,X.env.cells.lookup x=some c->∀v,s.heap.IsCell c v->h'.IsCell c v:=fun x c e v ⟨o,ho,hd⟩=>by
  have y1:c ∉ ch:=fun z=>(nX c z).2.2.1 x c e rfl
  by_cases hc:c∈X.fs
  ·obtain ⟨sl,q⟩:=slot c o (I.qR x c e) hc y1 ho (I.freeC x c e)
   exact ⟨_,q,hd⟩
  ·exact ⟨o,keep c o (I.qR x c e) hc y1 ho (I.freeC x c e),hd⟩
 refine ⟨I.ok,I.os,I.bare.trans hg,⟨fun b o e n hb hx=>?_,fun b o e n hb hx=>?_,fun b o e n hx=>?_,fun b o e hx=>?_,fun b xs e=>tups b xs (I.base.tups b xs e),fun b o xs e=>frzs b o xs (I.base.frzs b o xs e),fun b ps e=>?_⟩,?_,fun x c e=>?_,?_,fun x c e=>?_,fun p hp=>?_,hok,I.len⟩
 ·exact keep b o (MT b o e) hb (DY b o e hx) (I.base.keep b o e n hb hx) (I.base.free b o e n hx)
 ·obtain ⟨sl,e1⟩:=I.base.slot b o e n hb hx
  obtain ⟨MU,e2⟩:=slot b _ (MT b o e) hb (DY b o e hx) e1 (I.base.free b o e n hx)
  exact ⟨MU,e2⟩
 ·obtain ⟨o',e1⟩:=I.base.there b o e hx
  exact free b o' (DY b o e hx) e1 (I.base.free b o e n hx)
 ·obtain ⟨o',e1⟩:=I.base.there b o e hx
  exact there b o' (DY b o e hx) e1
 ·obtain ⟨m1,e1⟩:=I.base.tbls b ps e
  obtain ⟨m2,e2⟩:=tbls b _ e1
  exact ⟨m1++m2,by rw [e2,Array.append_assoc]⟩
 ·obtain ⟨m,hn,hl⟩:=I.loc
  refine ⟨m,ns m hn,fun i x v e1 e2 e3=>?_⟩
  obtain ⟨u,r,l⟩:=hl i x v e1 e2 e3
  refine ⟨u,r,?_⟩
  rcases l with l|⟨k,c,e,z⟩
  ·exact .inl l
  ·exact .inr ⟨k,c,e,cellK x c e _ z⟩
 ·obtain ⟨v,z⟩:=I.cell x c e
  exact ⟨v,cellK x c e v z⟩
 ·obtain ⟨m,⟨o,_,_,ho,_⟩,_⟩:=I.loc
  exact free _ o (fun z=>(nX _ z).2.1 rfl) ho I.free
 ·obtain ⟨v,o,ho,hd⟩:=I.cell x c e
  exact free c o (fun z=>(nX c z).2.2.1 x c e rfl) ho (I.freeC x c e)
 ·obtain ⟨e,n,ne,nf,d⟩:=I.pin p hp
  have y1:p.1 ∉ ch:=fun z=>(nX p.1 z).2.2.2 p hp rfl
  exact ⟨keep p.1 p.2 ne nf y1 e n,free p.1 p.2 y1 e n,ne,nf,d⟩
theorem Inv.un {t':Nat} (I:Inv X pins σ H s) (u:Un X.fs [] H H' s.heap h') (hok:cQ X.prog X.w H' h'):Inv X pins σ H' {s with heap:=h',toks:=t'}:=by
 obtain ⟨m,⟨o,es,ep,ho,r⟩,_⟩:=id I.loc
 obtain ⟨sl,hL⟩:=u.any ho I.free (by simp)
 exact I.step (g':=s.gens) (d':=s.drawn) (ch:=[]) (fun _ z=>nomatch z) (fun b o _ hb _ e n=>u.keep b o e n hb (by simp)) (fun b o _ hb _ e n=>u.slot b o e n hb (by simp)) (fun b o _ e n=>u.free b o e n (by simp)) (fun b o _ e=>u.there b o e (by simp)) u.tups u.frzs u.tbls (fun m' hm=>by
  obtain ⟨o',G0,G1,gL,r'⟩:=hm
  rw [ho] at gL;cases gL
  exact ⟨_,G0,G1,hL,r'⟩) hok I.bare.self
theorem Inv.call {g':Array S6} {t':Nat} {d':Drawn} {ch:List ac} (I:Inv X pins σ H s) (u:Un (eu X.stack) ch H H' s.heap h') (hok:cQ X.prog X.w H' h') (hg:Gn s.gens.size g')
  (nX:∀b∈ch,(b∈X.ex\/X.s₀.heap.objs.size<=b)/\b≠X.env.locals/\(∀x c,X.env.cells.lookup x=some c->c≠b)/\∀p∈X.pn++pins,p.1≠b) :
  Inv X pins σ H' {s with heap:=h',gens:=g',drawn:=d',toks:=t'}:=by
 obtain ⟨m,⟨o,es,ep,ho,r⟩,_⟩:=id I.loc
 obtain ⟨sl,hL⟩:=u.any ho I.free fun z=>(nX _ z).2.1 rfl
 exact I.step (ch:=ch) nX (fun b o hL hb hc e n=>u.keep b o e n (fun z=>(lp.mp (I.ie b z)).elim hL hb) hc) (fun b o _ _ hc e n=>u.any e n hc) (fun b o hc e n=>u.free b o e n hc) (fun b o hc e=>u.there b o e hc) u.tups u.frzs u.tbls (fun m' hm=>by
  obtain ⟨o',G0,G1,gL,r'⟩:=hm
  rw [ho] at gL;cases gL
  exact ⟨_,G0,G1,hL,r'⟩) hok hg
theorem Inv.turned {t':Nat} {it:ac} (I:Inv X pins σ H s) (k:∀b o,b≠it->s.heap.get? b=some o->h'.get? b=some o) (hn:H it=none) (hL:it≠X.env.locals)
  (h1:it∈X.ex\/X.s₀.heap.objs.size<=it) (h2:∀x c,X.env.cells.lookup x=some c->c≠it) (h3:∀p∈X.pn++pins,p.1≠it):Inv X pins σ H {s with heap:=h',toks:=t'}:=by
 have y3:∀b u,H b=some u->b≠it:=fun b u e z=>by rw [z,hn] at e;cases e
 refine I.step (g':=s.gens) (d':=s.drawn) (ch:=[it]) (fun b hb=>?_) (fun b o _ _ hc e _=>k b o (fun z=>hc (by simp [z])) e) (fun b o _ _ hc e _=>⟨o.slots,k b o (fun z=>hc (by simp [z])) e⟩) (fun _ _ _ _ n=>n)
  (fun b o hc e=>⟨o,k b o (fun z=>hc (by simp [z])) e⟩) (fun _ _ e=>e) (fun _ _ _ e=>e) (fun b ps e=>⟨#[],by rw [e];simp⟩) (fun m hm=>?_) (fun b u e=>?_) I.bare.self
 ·have e:b=it :=by simpa using hb
  subst e
  exact ⟨h1,hL,h2,h3⟩
 ·obtain ⟨o,es,ep,ho,r⟩:=hm
  exact ⟨o,es,ep,k _ o (wn hL) ho,r⟩
 ·refine (I.hok b u e).cV (fun c v hc q=>k c v ?_ q) (fun _ q=>q) fun _ _ q=>q
  rcases hc with z|z
  ·rw [z];exact y3 b u e
  ·exact y3 c _ z
theorem Inv.tok (I:Inv X pins σ H s) (t:Nat):Inv X pins σ H {s with toks:=t}:=I.un (h':=s.heap) (t':=t) Un.refl I.hok
theorem Inv.kept {t':Nat} (I:Inv X pins σ H s) (k:∀b u,s.heap.get? b=some u->h'.get? b=some u):Inv X pins σ H {s with heap:=h',toks:=t'}:=I.un (Un.kept k) (I.hok.kept k)
theorem Inv.laid {a:ac} {o:HO} {t':Nat} (I:Inv X pins σ H s) (k:∀b u,s.heap.get? b=some u->h'.get? b=some u) (hp:s.heap.objs.size<=a) (new:ObjOk X.prog X.w (upd H a o) h' a o) :
  Inv X pins σ (upd H a o) {s with heap:=h',toks:=t'}:=I.un (Un.laid k hp (I.hok.fresh hp)) (I.hok.laid k hp new)
theorem Inv.write {x e:ac} {o:HO} {t':Nat} (I:Inv X pins σ H s) (mu:yZ (H x)) (he:e=x\/H e=some (.own x)) (k:∀b u,b≠e->s.heap.get? b=some u->h'.get? b=some u) (wk:∃u,h'.get? e=some u)
  (new:ObjOk X.prog X.w (upd H x o) h' x o):Inv X pins σ (upd H x o) {s with heap:=h',toks:=t'}:=I.un (Un.write mu he k wk) (I.hok.write mu he k wk new)
theorem Inv.qh {pins':List (ac×ii)} (I:Inv X pins σ H s) (h:∀p∈pins',s.heap.get? p.1=some p.2/\H p.1=none/\p.1≠X.env.locals/\p.1 ∉ X.fs/\∀v,p.2.data≠.cell v):Inv X pins' σ H s:=
 ⟨I.ok,I.os,I.bare,I.base,I.loc,I.cell,I.free,I.freeC,fun p hp=>(tz.mp hp).elim (fun z=>I.pin p (AT _ z)) (h p),I.hok,I.len⟩
theorem tq {N:List ba} (hN:N.Nodup) {i j:Nat} {x:ba} (a:N[i]?=some x) (b:N[j]?=some x):i=j :=by
 obtain ⟨h1,e1⟩:=bv.mp a
 obtain ⟨h2,e2⟩:=bv.mp b
 exact (List.getElem_inj hN).mp (e1.trans e2.symm)
theorem store_ok2 {M:Model} {A:l9} {E:ag->ap->Prop} {i:Nat} {x:ba} {v:V} {u:ag} {Q:Unit->ap->Prop} (I:Inv X pins σ H s) (hN:X.N.Nodup) (hi:X.N[i]?=some x) (hx:Loc X.env.scope x) (r:RelV v u)
  (h:∀s',Inv X pins (σ.set i (some v)) H s'->(∃a,xw a s.heap s'.heap/\(a=X.env.locals\/X.env.cells.lookup x=some a))->Q () s') (hf:X.fn x=true\/X.env.scope.names.lookup x=some .local :=by first|exact .inl rfl|exact .inr rfl|assumption):wpAny M A (storeName X.env x u) Q E s :=by
 obtain ⟨m,hn,hl⟩:=id I.loc
 have Oj:(X.env.scope.kind==.class || (X.env.scope.kind==.module && X.env.locals != X.env.globals))=false :=by rw [I.ok.kind];rfl
 have G2:i<σ.length :=by rw [I.len];exact (bv.mp hi).1
 have qR:=I.qR
 have tracked:∀{a:ac} {h':db},(∃o,s.heap.get? a=some o/\H a=none)->xw a s.heap h'->cQ X.prog X.w H h':=fun {a h'} ha hs b ob e=>by
  obtain ⟨_,_,ny⟩:=ha
  refine (I.hok b ob e).cV (fun c w' hc q=>(hs.2 c ?_).trans q) (fun _ q=>q) fun _ _ q=>q
  rintro rfl
  rcases hc with rfl|hc
  ·rw [ny] at e;cases e
  ·rw [ny] at hc;cases hc
 rcases hx with hk|hk
 ·refine wpAny_storeName_local hk hn (fun h' y4 hs=>?_) Oj
  obtain ⟨oL,_,_,y6,_⟩:=id hn
  refine h _ ⟨I.ok,I.os,I.bare,⟨fun b o e n hb hx=>?_,fun b o e n hb hx=>?_,I.base.free,fun b o e hx=>?_,I.base.tups,I.base.frzs,I.base.tbls⟩,⟨_,y4,fun j y v' e1 e2 e3=>?_⟩,fun y c e=>?_,I.free,I.freeC,fun p hp=>?_,tracked ⟨oL,y6,I.free⟩ hs,by simpa using I.len⟩ ⟨_,hs,.inl rfl⟩
  ·exact (hs.2 b (i8 (lc (f8 e) I.ok.above))).trans (I.base.keep b o e n hb hx)
  ·obtain ⟨sl,e1⟩:=I.base.slot b o e n hb hx
   exact ⟨sl,(hs.2 b (i8 (lc (f8 e) I.ok.above))).trans e1⟩
  ·obtain ⟨o',e1⟩:=I.base.there b o e hx
   exact ⟨o',(hs.2 b (i8 (lc (f8 e) I.ok.above))).trans e1⟩
  ·by_cases hj:j=i
   ·subst hj
    rw [hi] at e1;cases e1
    rw [Os G2] at e2
    cases e2
    exact ⟨u,r,.inl ⟨hk,by simp⟩⟩
   ·rw [List.getElem?_set_ne (wn hj)] at e2
    obtain ⟨u',r',q⟩:=hl j y v' e1 e2 e3
    refine ⟨u',r',?_⟩
    rcases q with ⟨k,e⟩|⟨k,c,e,z⟩
    ·refine .inl ⟨k,?_⟩
     have:y≠x:=fun e=>hj (tq hN e1 (e▸hi))
     simp [this,e]
    ·exact .inr ⟨k,c,e,z.sameBut hs (qR y c e)⟩
  ·obtain ⟨w',z⟩:=I.cell y c e
   exact ⟨w',z.sameBut hs (qR y c e)⟩
  ·obtain ⟨e,n,ne,nf,d⟩:=I.pin p hp
   exact ⟨(hs.2 p.1 ne).trans e,n,ne,nf,d⟩
 ·have oW:X.fn x=true :=by
   rcases hf with z|z
   ·exact z
   ·rw [z] at hk;cases hk
  obtain ⟨c,hc⟩:=I.ok.has x (.inl hk)
  obtain ⟨w',z⟩:=I.cell x c hc
  refine wpAny_storeName_cell I.ok.kind hk hc z (fun h' DZ hs=>?_)
  obtain ⟨oc,qS,Ol⟩:=id z
  refine h {s with heap:=h'} ⟨I.ok,I.os,I.bare,⟨fun b o e n hb hx=>?_,fun b o e n hb hx=>?_,I.base.free,fun b o e hx=>?_,I.base.tups,I.base.frzs,I.base.tbls⟩,⟨m,hn.sameBut hs (wn (qR x c hc)),fun j y v' e1 e2 e3=>?_⟩,fun y c' e=>?_,I.free,I.freeC,fun p hp=>?_,tracked ⟨oc,qS,I.freeC x c hc⟩ hs,by simpa using I.len⟩ ⟨c,hs,.inr hc⟩
  ·exact (hs.2 b (i8 (lc (f8 e) (I.ok.cab x c oW hc)))).trans (I.base.keep b o e n hb hx)
  ·obtain ⟨sl,e1⟩:=I.base.slot b o e n hb hx
   exact ⟨sl,(hs.2 b (i8 (lc (f8 e) (I.ok.cab x c oW hc)))).trans e1⟩
  ·obtain ⟨o',e1⟩:=I.base.there b o e hx
   exact ⟨o',(hs.2 b (i8 (lc (f8 e) (I.ok.cab x c oW hc)))).trans e1⟩
  ·by_cases hj:j=i
   ·subst hj
    rw [hi] at e1;cases e1
    rw [Os G2] at e2
    cases e2
    exact ⟨u,r,.inr ⟨.inl hk,c,hc,DZ⟩⟩
   ·rw [List.getElem?_set_ne (wn hj)] at e2
    obtain ⟨u',r',q⟩:=hl j y v' e1 e2 e3
    refine ⟨u',r',?_⟩
    rcases q with q|⟨k,c',e,z'⟩
    ·exact .inl q
    ·refine .inr ⟨k,c',e,z'.sameBut hs ?_⟩
     rintro rfl
     exact hj (tq hN e1 (I.ok.inj _ _ _ e hc▸hi))
  ·by_cases MV:c'=c
   ·subst MV;exact ⟨_,DZ⟩
   ·obtain ⟨w2,z2⟩:=I.cell y c' e
    exact ⟨w2,z2.sameBut hs MV⟩
  ·obtain ⟨e,n,ne,nf,d⟩:=I.pin p hp
   refine ⟨(hs.2 p.1 ?_).trans e,n,ne,nf,d⟩
   intro q
   rw [q,qS] at e
   have q':oc=p.2:=dL e
   exact d w' (by rw [<- q'];exact Ol)
theorem kP {M:Model} {A:l9} {E:ag->ap->Prop} {i:Nat} {x:ba} {v:V} {u:ag} {Q:Unit->ap->Prop} (I:Inv X pins σ H s) (hN:X.N.Nodup) (hi:X.N[i]?=some x) (hx:Loc X.env.scope x) (r:RelV v u)
  (h:∀s',Inv X pins (σ.set i (some v)) H s'->Q () s') (hf:X.fn x=true\/X.env.scope.names.lookup x=some .local :=by first|exact .inl rfl|exact .inr rfl|assumption):wpAny M A (storeName X.env x u) Q E s:=
 store_ok2 I hN hi hx r (fun s' I' _=>h s' I') hf
theorem Inv.xt {s':ap} {ch:List ac} (I:Inv X pins σ H s) (ho:s'.os=s.os) (u:Un (eu X.stack) ch H H' s.heap s'.heap) (hok:cQ X.prog X.w H' s'.heap) (hg:Gn s.gens.size s'.gens)
  (nX:∀b∈ch,(b∈X.ex\/X.s₀.heap.objs.size<=b)/\b≠X.env.locals/\(∀x c,X.env.cells.lookup x=some c->c≠b)/\∀p∈X.pn++pins,p.1≠b):Inv X pins σ H' s':=by
 obtain ⟨h',g',d',t',o'⟩:=s'
 have e:o'=s.os:=ho
 subst e
 exact I.call (g':=g') (t':=t') (d':=d') u hok hg nX
end
abbrev XK:=ag->Option ac->Hp->Prop
abbrev St:=List (Option V)
abbrev VK:=V->Hp->Prop
abbrev TE:=St->Hp->VK->Prop
abbrev TT:=St->Hp->(Bool->Hp->Prop)->Prop
abbrev TA:=St->Hp->(List V->Hp->Prop)->Prop
structure Ends where
 nx:St->Hp->Prop
 rt:VK
 bk:St->Hp->Prop:=fun _ _=>False
 ct:St->Hp->Prop:=fun _ _=>False
abbrev TS:=Ends->St->Hp->Prop
def EP (X:Cx) (pins:List (ac×ii)) (σ:St) (Q:VK) (u:ag) (s':ap):Prop:=∃v H',Inv X pins σ H' s'/\RelV v u/\Q v H'
def TP (X:Cx) (pins:List (ac×ii)) (σ:St) (Q:Bool->Hp->Prop) (b:Bool) (s':ap):Prop:=∃H',Inv X pins σ H' s'/\Q b H'
def AP (X:Cx) (pins:List (ac×ii)) (σ:St) (Q:List V->Hp->Prop) (us:List ag) (s':ap):Prop:=∃vs H',Inv X pins σ H' s'/\Vals vs us/\Q vs H'
def SP (X:Cx) (pins:List (ac×ii)) (D:Ends) (f:Flow) (s':ap):Prop:=
 match f with
 | .next=>∃aI H',Inv X pins aI H' s'/\D.nx aI H'
 | .brk=>∃aI H',Inv X pins aI H' s'/\D.bk aI H'
 | .cont=>∃aI H',Inv X pins aI H' s'/\D.ct aI H'
 | .ret u=>∃v aI H',Inv X pins aI H' s'/\RelV v u/\D.rt v H'
structure PE (X:Cx) (e:ci) (t:TE):Prop where
 run:∀(pins:List (ac×ii)) (s:ap) (σ:St) (H:Hp) (Q:VK),Inv X pins σ H s->t σ H Q->wpAny (model X.prog X.w) X.A (eval e X.env) (EP X pins σ Q) X.xe s
instance {X:Cx} {e:ci} {t:TE}:CoeFun (PE X e t) (fun _=>∀(pins:List (ac×ii)) (s:ap) (σ:St) (H:Hp) (Q:VK),Inv X pins σ H s->t σ H Q->wpAny (model X.prog X.w) X.A (eval e X.env) (EP X pins σ Q) X.xe s):=⟨PE.run⟩
structure PT (X:Cx) (e:ci) (t:TT):Prop where
 run:∀(pins:List (ac×ii)) (s:ap) (σ:St) (H:Hp) (Q:Bool->Hp->Prop),Inv X pins σ H s->t σ H Q->wpAny (model X.prog X.w) X.A (isTrue e X.env (eval e X.env)) (TP X pins σ Q) X.xe s
instance {X:Cx} {e:ci} {t:TT}:CoeFun (PT X e t) (fun _=>∀(pins:List (ac×ii)) (s:ap) (σ:St) (H:Hp) (Q:Bool->Hp->Prop),Inv X pins σ H s->t σ H Q->wpAny (model X.prog X.w) X.A (isTrue e X.env (eval e X.env)) (TP X pins σ Q) X.xe s):=⟨PT.run⟩
def PW (X:Cx) (e:ci) (t:TT):Prop:=
 ∀(whole:T5 ag) (pins:List (ac×ii)) (s:ap) (σ:St) (H:Hp) (Q:Bool->Hp->Prop),Inv X pins σ H s->t σ H Q->wpAny (model X.prog X.w) X.A (isTrue e X.env whole) (TP X pins σ Q) X.xe s
theorem PW.pt {X:Cx} {e:ci} {t:TT} (h:PW X e t):PT X e t:=⟨h _⟩
structure PA (X:Cx) (es:List ci) (t:TA):Prop where
 run:∀(pos:rf) (pins:List (ac×ii)) (s:ap) (σ:St) (H:Hp) (Q:List V->Hp->Prop),Inv X pins σ H s->t σ H Q->wpAny (model X.prog X.w) X.A (spliced (backTo pos (starEach es X.env))) (AP X pins σ Q) X.xe s
instance {X:Cx} {es:List ci} {t:TA}:CoeFun (PA X es t) (fun _=>∀(pos:rf) (pins:List (ac×ii)) (s:ap) (σ:St) (H:Hp) (Q:List V->Hp->Prop),Inv X pins σ H s->t σ H Q->wpAny (model X.prog X.w) X.A (spliced (backTo pos (starEach es X.env))) (AP X pins σ Q) X.xe s):=⟨PA.run⟩
structure PS (X:Cx) (st:mv) (t:TS):Prop where
 run:∀(pins:List (ac×ii)) (s:ap) (σ:St) (H:Hp) (D:Ends),Inv X pins σ H s->t D σ H->wpAny (model X.prog X.w) X.A (exec st X.env) (SP X pins D) X.xe s
instance {X:Cx} {st:mv} {t:TS}:CoeFun (PS X st t) (fun _=>∀(pins:List (ac×ii)) (s:ap) (σ:St) (H:Hp) (D:Ends),Inv X pins σ H s->t D σ H->wpAny (model X.prog X.w) X.A (exec st X.env) (SP X pins D) X.xe s):=⟨PS.run⟩
structure fP (X:Cx) (st:List mv) (t:TS):Prop where
 run:∀(pins:List (ac×ii)) (s:ap) (σ:St) (H:Hp) (D:Ends),Inv X pins σ H s->t D σ H->wpAny (model X.prog X.w) X.A (execs st X.env) (SP X pins D) X.xe s
instance {X:Cx} {st:List mv} {t:TS}:CoeFun (fP X st t) (fun _=>∀(pins:List (ac×ii)) (s:ap) (σ:St) (H:Hp) (D:Ends),Inv X pins σ H s->t D σ H->wpAny (model X.prog X.w) X.A (execs st X.env) (SP X pins D) X.xe s):=⟨fP.run⟩
theorem thn {α:Type} {t:T5 α} {Q Q':α->ap->Prop} {M:Model} {A:l9} {E:ag->ap->Prop} {s:ap} (h:wpAny M A t Q E s) (hQ:∀a s,Q a s->Q' a s):wpAny M A t Q' E s:=lw h hQ fun _ _ x=>x
section
variable {X:Cx}
theorem bin {a b:ci} {ta tb:TE} (ha:PE X a ta) (hb:PE X b tb) {pins:List (ac×ii)} {s:ap} {σ:St} {H:Hp} {R:V->V->Hp->Prop} (I:Inv X pins σ H s) (h:ta σ H fun x H1=>tb σ H1 fun y H2=>R x y H2)
  {α:Type} {Q:α->ap->Prop} {f:ag->ag->T5 α}
  (hf:∀v u s2 x y H2,Inv X pins σ H2 s2->RelV x v->RelV y u->R x y H2->wpAny (model X.prog X.w) X.A (f v u) Q X.xe s2) :
  wpAny (model X.prog X.w) X.A (eval a X.env) (fun v aw=>wpAny (model X.prog X.w) X.A (eval b X.env) (fun u j6=>wpAny (model X.prog X.w) X.A (f v u) Q X.xe j6) X.xe aw) X.xe s :=by
 refine thn (ha pins s σ H _ I h) fun v s1 ⟨x,H1,I1,r1,q1⟩=>?_
 refine thn (hb pins s1 σ H1 _ I1 q1) fun u s2 ⟨y,H2,I2,r2,q2⟩=>?_
 exact hf v u s2 x y H2 I2 r1 r2 q2
def G3 (i:Nat):TE:=fun σ H Q=>∃v,σ[i]?=some (some v)/\Q v H
def tC (v:V):TE:=fun _ H Q=>Q v H
theorem tu {i:Nat} {x:ba} {pos:rf} (hN:X.N[i]?=some x) (hv:oV X.env.scope x) (hd:(x==("__debug__" : ba))=false :=by decide) (dH:(x==("__classdict__" : ba))=false :=by decide):PE X (.Name x pos) (G3 i) :=by
 refine ⟨?_⟩
 intro pins s σ H Q I h
 obtain ⟨v,e,h⟩:=h
 obtain ⟨m,hn,hl⟩:=I.loc
 obtain ⟨u,r,l⟩:=hl i x v hN e hv
 have fin:EP X pins σ Q u s:=⟨v,H,I,r,h⟩
 rcases l with ⟨hk,hm⟩|⟨hk,c,hc,sP⟩
 ·exact wpAny_Name (wpAny_loadName_local I.ok.kind hk hn hm fin) hd
 ·rcases hk with hk|hk
  ·exact wpAny_Name (wpAny_loadName_cell I.ok.kind hk hc sP fin) hd
  ·exact wpAny_Name (wpAny_loadName_free I.ok.kind hk hc sP fin dH) hd
theorem G4 {i j pos}:PE X (.Constant (.int i) j pos) (tC (.int i)):=⟨fun _ _ _ H _ I h=>wpAny_Constant_int ⟨.int i,H,I.tok _,⟨_,rfl⟩,h⟩⟩
theorem Lg {b j pos}:PE X (.Constant (.bool b) j pos) (tC (.bl b)):=⟨fun _ _ _ H _ I h=>Constant_bool ⟨.bl b,H,I,rfl,h⟩⟩
theorem G5 {j pos}:PE X (.Constant .none j pos) (tC .aB):=⟨fun _ _ _ H _ I h=>Constant_none ⟨.aB,H,I,rfl,h⟩⟩
theorem G6 {x j pos}:PE X (.Constant (.str x) j pos) (tC (.str x)):=⟨fun _ _ _ H _ I h=>Calls.Constant_str ⟨.str x,H,I.tok _,⟨_,rfl⟩,h⟩⟩
def Gl (X:Cx) (x:ba):Prop:=X.env.kindOf x=some .globalImplicit
theorem nz {E:ag->ap->Prop} {pins:List (ac×ii)} {s:ap} {σ:St} {H:Hp} {x:ba} {u:ag} {pos:rf} {Q:ag->ap->Prop} (I:Inv X pins σ H s) (hg:Gl X x) (hm:X.mg x=some u) (h:Q u s)
  (hd:(x==("__debug__" : ba))=false :=by decide):wpAny (model X.prog X.w) X.A (eval (.Name x pos) X.env) Q E s:=
 Calls.Name_function_global I.ok.kind hg (Calls.loadGlobal_global (by rw [I.ok.glob];exact I.mod.glob.keeps I.bk) hm h) hd
theorem gb {E:ag->ap->Prop} {pins:List (ac×ii)} {s:ap} {σ:St} {H:Hp} {x:ba} {u:ag} {pos:rf} {Q:ag->ap->Prop} (I:Inv X pins σ H s) (hg:Gl X x) (hm:X.mg x=none) (hv:bootBuiltins x=some u) (h:Q u s)
  (hn:x ≠ "__name__" := by decide) (hd:(x==("__debug__" : ba))=false :=by decide):wpAny (model X.prog X.w) X.A (eval (.Name x pos) X.env) Q E s :=by
 obtain ⟨mb,h1,h2⟩:=I.mod.blt
 exact Calls.Name_function_global I.ok.kind hg (Calls.loadGlobal_builtin (by rw [I.ok.glob];exact I.mod.glob.keeps I.bk) hm (by rw [I.ok.blt];exact h1.keeps I.bk) ((h2 x hn).trans hv) h) hd
theorem wm {x:ba} {v:V} {u:ag} {pos:rf} (hg:Gl X x) (hm:X.mg x=some u) (r:RelV v u) (hd:(x==("__debug__" : ba))=false :=by decide):PE X (.Name x pos) (tC v):=⟨fun _ _ _ H _ I h=>nz I hg hm ⟨v,H,I,r,h⟩ hd⟩
theorem E8 {x:ba} {v:V} {u:ag} {pos:rf} (hg:Gl X x) (hm:X.mg x=none) (hv:bootBuiltins x=some u) (r:RelV v u) (hn:x ≠ "__name__" := by decide) (hd:(x==("__debug__" : ba))=false :=by decide):PE X (.Name x pos) (tC v):=⟨fun _ _ _ H _ I h=>gb I hg hm hv ⟨v,H,I,r,h⟩ hn hd⟩
variable {a b:ci} {ta tb:TE} {pos:rf}
def PC (X:Cx) (op:Re) (a b:ci) (t:TE):Prop:=
 ∀(pins:List (ac×ii)) (s:ap) (σ:St) (H:Hp) (Q:VK),Inv X pins σ H s->t σ H Q->
  wpAny (model X.prog X.w) X.A (eval a X.env) (fun v aw=>wpAny (model X.prog X.w) X.A (eval b X.env) (fun u j6=>wpAny (model X.prog X.w) X.A (compareOp op v u) (EP X pins σ Q) X.xe j6) X.xe aw) X.xe s
theorem BX (b:ci) {op:Re} (h:op≠.In) (h2:op≠.NotIn):behindInMarks op b=false :=by
 have e1:(op==Re.In)=false :=by cases op <;> first|rfl|exact absurd rfl h
 have e2:(op==Re.NotIn)=false :=by cases op <;> first|rfl|exact absurd rfl h2
 cases b <;> simp [behindInMarks,e1,e2]
def tB (t:TE):TT:=fun σ H Q=>t σ H fun x H1=>∃c,x=.bl c/\Q c H1
theorem P0 {op:Re} {t:TE} (h:PC X op a b t) (h1:behindInMarks op b=false :=by first|exact BX _ (by decide) (by decide)|rfl):PT X (.Compare a [op] [b] pos) (tB t) :=by
 refine ⟨?_⟩
 intro pins s σ H Q I hw
 refine wpAny_isTrue_Compare1 (thn (h pins s σ H _ I hw) fun v s1 h1=>thn h1 fun u s2 h2=>thn h2 fun c s3 ⟨x,H1,I1,r1,q1⟩=>?_) h1
 obtain ⟨d,rfl,q⟩:=q1
 cases r1
 exact zn ⟨H1,I1,q⟩
theorem G7 {e:ci} {t:TE} (h:PE X e t) (he:∀whole,isTrue e X.env whole=(do let v <- whole;standAt e.pos;holding [v] (truthy v)) :=by intro _;rfl):PT X e (tB t) :=by
 refine ⟨?_⟩
 intro pins s σ H Q I hw
 refine isTrue_plain (thn (h pins s σ H _ I hw) fun v s1 ⟨x,H1,I1,r1,q1⟩=>?_) (he _)
 obtain ⟨d,rfl,q⟩:=q1
 cases r1
 exact zn ⟨H1,I1,q⟩
variable {tA oX:TT} {rest:List ci}
def Om (t u:TT):TT:=fun σ H Q=>t σ H fun c H1=>if c=true then u σ H1 Q else Q false H1
def P1 (t u:TT):TT:=fun σ H Q=>t σ H fun c H1=>if c=true then Q true H1 else u σ H1 Q
def Oo (t:TT):TT:=fun σ H Q=>t σ H fun c H1=>Q (!c) H1
theorem E9 (ha:PT X a tA):PW X (.BoolOp .And [a] pos) tA :=by
 intro wh pins s σ H Q I h
 refine isTrue_and (thn (ha pins s σ H Q I h) fun c s1 e=>?_)
 cases c with
 |true=>exact isTrue_and_nil e
 |false=>exact e
theorem G8 (ha:PT X a tA):PW X (.BoolOp .Or [a] pos) tA :=by
 intro wh pins s σ H Q I h
 refine isTrue_or (thn (ha pins s σ H Q I h) fun c s1 e=>?_)
 cases c with
 |false=>exact isTrue_or_nil e
 |true=>exact e
theorem G9 (ha:PT X a tA) (hb:PW X (.BoolOp .And (b::rest) pos) oX):PW X (.BoolOp .And (a::b::rest) pos) (Om tA oX) :=by
 intro wh pins s σ H Q I h
 refine isTrue_and (thn (ha pins s σ H _ I h) fun c s1 ⟨H1,I1,q1⟩=>?_)
 cases c with
 |true=>exact hb wh pins s1 σ H1 Q I1 q1
 |false=>exact ⟨H1,I1,q1⟩
theorem Lh (ha:PT X a tA) (hb:PW X (.BoolOp .Or (b::rest) pos) oX):PW X (.BoolOp .Or (a::b::rest) pos) (P1 tA oX) :=by
 intro wh pins s σ H Q I h
 refine isTrue_or (thn (ha pins s σ H _ I h) fun c s1 ⟨H1,I1,q1⟩=>?_)
 cases c with
 |true=>exact ⟨H1,I1,q1⟩
 |false=>exact hb wh pins s1 σ H1 Q I1 q1
theorem Ha (ha:PT X a tA):PT X (.UnaryOp .Not a pos) (Oo tA) :=by
 refine ⟨?_⟩
 intro pins s σ H Q I h
 exact isTrue_not (ha pins s σ H (fun c H1=>Q (!c) H1) I h)
def Li (ta tb:TE):TE:=fun σ H Q=>ta σ H fun x H1=>∃c,x=.bl c/\if c=true then tb σ H1 Q else Q (.bl false) H1
def Lj (ta:TE):TE:=fun σ H Q=>ta σ H fun x H1=>∃c,x=.bl c/\Q (.bl (!c)) H1
theorem Hb {op} {t:TE} (h:PE X a t):PE X (.BoolOp op [a] pos) t:=⟨fun pins s σ H Q I hw=>BoolOp_one (h pins s σ H Q I hw)⟩
theorem Hc (ha:PE X a ta) (hb:PE X (.BoolOp .And (b::rest) pos) tb):PE X (.BoolOp .And (a::b::rest) pos) (Li ta tb) :=by
 refine ⟨?_⟩
 intro pins s σ H Q I h
 refine BoolOp_and (thn (ha pins s σ H _ I h) fun v s1 ⟨x,H1,I1,r1,q1⟩=>?_)
 obtain ⟨c,rfl,q1⟩:=q1
 cases r1
 refine zn ?_
 cases c with
 |true=>exact hb pins s1 σ H1 Q I1 q1
 |false=>exact ⟨.bl false,H1,I1,rfl,q1⟩
theorem Hd (ha:PE X a ta):PE X (.UnaryOp .Not a pos) (Lj ta) :=by
 refine ⟨?_⟩
 intro pins s σ H Q I h
 refine UnaryOp_ (thn (ha pins s σ H _ I h) fun v s1 ⟨x,H1,I1,r1,q1⟩=>?_)
 obtain ⟨c,rfl,q1⟩:=q1
 cases r1
 exact not_of (zn ⟨.bl (!c),H1,I1,rfl,q1⟩)
end
def bY (K:ar) (H:Hp) (a:ac) (xs:List V):Prop:=
 Rd H a (.lst xs) \/
  ∃(o:ii) (its:Array ag) (n:Nat),K.lookup a=some o/\o.cls=.type "list" /\ o.dict=none/\o.data=.seq its n/\its.size<=sizeLine/\Vals xs its.toList
def dh (K:ar) (H:Hp) (a:ac) (xs:List V):Prop:=
 Rd H a (.tup xs) \/
  ∃(o:ii) (its:Array ag) (n:Nat),K.lookup a=some o/\o.cls=.type "tuple" /\ o.data=.seq its n/\its.size<=sizeLine/\Vals xs its.toList
def Oq:ag->Option V
 | .none=>some .aB
 | .bool b=>some (.bl b)
 | .int i _=>some (.int i)
 | .str x _=>some (.str x)
 | .bytes b _=>some (.i7 b)
 | .float b _=>some (.wg b)
 | .ref a=>some (.ref a)
 | .type n=>some (.ty n)
 |_=>none
theorem RelV.abs {x:V} {u:ag} (r:RelV x u):Oq u=some x :=by
 cases x with
 |aB=>cases r;rfl
 |bl _=>cases r;rfl
 |int _=>obtain ⟨t,rfl⟩:=r;rfl
 |str _=>obtain ⟨t,rfl⟩:=r;rfl
 |i7 _=>obtain ⟨t,rfl⟩:=r;rfl
 |wg _=>obtain ⟨t,rfl⟩:=r;rfl
 |ref _=>cases r;rfl
 |ty _=>cases r;rfl
theorem RelV.inj {x y:V} {u:ag} (r:RelV x u) (q:RelV y u):x=y:=dL (r.abs.symm.trans q.abs)
theorem Vals.inj:∀{xs ys:List V} {us:List ag},Vals xs us->Vals ys us->xs=ys
 |_,_,_,.nil,.nil=>rfl
 |_,_,_,.cons r t,.cons r' t'=>by rw [r.inj r',Vals.inj t t']
section
variable {X:Cx} {pins:List (ac×ii)} {σ:St} {H:Hp} {s:ap} {a:ac} {xs ys:List V}
theorem bY.of {K:ar} (h:H a=some (.lst xs)):bY K H a xs:=.inl (.inl h)
theorem dh.of {K:ar} (h:H a=some (.tup xs)):dh K H a xs:=.inl (.inl h)
theorem Inv.list (I:Inv X pins σ H s) (h:bY X.K H a xs):∃its:List ag,Vals xs its/\PlainL s.heap a its.toArray/\xs.length<=sizeLine :=by
 rcases h with h|⟨o,its,n,hk,hc,hd,hs,hz,r⟩
 ·obtain ⟨z,its,n,r,e⟩:=h.ok I.hok
  exact ⟨its,r,⟨_,n,e,rfl,rfl,rfl⟩,z⟩
 ·refine ⟨its.toList,r,⟨o,n,I.f9 a o hk,hc,hd,by simpa using hs⟩,?_⟩
  have e:=r.length
  simp only [ww] at e
  omega
theorem Inv.tuple (I:Inv X pins σ H s) (h:dh X.K H a xs):∃its:List ag,Vals xs its/\IsTup s.heap a its.toArray/\xs.length<=sizeLine :=by
 rcases h with h|⟨o,its,n,hk,hc,hs,hz,r⟩
 ·obtain ⟨z,its,r,p⟩:=h.ok I.hok
  exact ⟨its,r,j5.tup p,z⟩
 ·refine ⟨its.toList,r,⟨o,I.f9 a o hk,hc,n,by simpa using hs⟩,?_⟩
  have e:=r.length
  simp only [ww] at e
  omega
theorem Inv.tD (I:Inv X pins σ H s) (h:bY X.K H a xs) (h':bY X.K H a ys):xs=ys :=by
 obtain ⟨its,r,⟨o,n,e,_,_,d⟩,_⟩:=I.list h
 obtain ⟨its',r',⟨o',n',e',_,_,d'⟩,_⟩:=I.list h'
 rw [e] at e';cases e'
 rw [d] at d'
 injection d' with d1 _
 have:its=its':=by simpa using congrArg Array.toList d1
 subst this
 exact r.inj r'
theorem Inv.qT (I:Inv X pins σ H s) (h:dh X.K H a xs) (h':dh X.K H a ys):xs=ys :=by
 obtain ⟨its,r,⟨o,e,_,n,d⟩,_⟩:=I.tuple h
 obtain ⟨its',r',⟨o',e',_,n',d'⟩,_⟩:=I.tuple h'
 rw [e] at e';cases e'
 rw [d] at d'
 injection d' with d1 _
 have:its=its':=by simpa using congrArg Array.toList d1
 subst this
 exact r.inj r'
end
abbrev Cx.iA (X:Cx) (E:ag->ap->Prop):Cx:={X with xe:=E}
abbrev Cx.iI (X:Cx):Cx:=X.iA fun _ _=>False
theorem Cx.Ok.iA {X:Cx} (ok:X.Ok) (E:ag->ap->Prop):(X.iA E).Ok:=
 ⟨ok.mod,ok.kind,ok.glob,ok.blt,ok.above,ok.inj,ok.has,ok.cab,ok.hd,ok.frames,ok.stk,ok.exf,ok.bs,ok.bsz,ok.noex,ok.exfs,ok.funs,ok.frf⟩
theorem Cx.Ok.fm {X:Cx} {E:ag->ap->Prop} (ok:(X.iA E).Ok):X.Ok:=
 ⟨ok.mod,ok.kind,ok.glob,ok.blt,ok.above,ok.inj,ok.has,ok.cab,ok.hd,ok.frames,ok.stk,ok.exf,ok.bs,ok.bsz,ok.noex,ok.exfs,ok.funs,ok.frf⟩
section
variable {X:Cx} {pins:List (ac×ii)} {σ:St} {H:Hp} {s:ap} {E:ag->ap->Prop}
theorem Inv.iA (I:Inv X pins σ H s) (E:ag->ap->Prop):Inv (X.iA E) pins σ H s:=⟨I.ok.iA E,I.os,I.bare,I.base,I.loc,I.cell,I.free,I.freeC,I.pin,I.hok,I.len⟩
theorem Inv.fm (I:Inv (X.iA E) pins σ H s):Inv X pins σ H s:=⟨I.ok.fm,I.os,I.bare,I.base,I.loc,I.cell,I.free,I.freeC,I.pin,I.hok,I.len⟩
theorem SP.fm {D:Ends} {f:Flow} {s':ap} (h:SP (X.iA E) pins D f s'):SP X pins D f s':=by
 cases f with
 |next=>obtain ⟨aI,H',I,q⟩:=h;exact ⟨aI,H',I.fm,q⟩
 |brk=>obtain ⟨aI,H',I,q⟩:=h;exact ⟨aI,H',I.fm,q⟩
 |cont=>obtain ⟨aI,H',I,q⟩:=h;exact ⟨aI,H',I.fm,q⟩
 |ret u=>obtain ⟨v,aI,H',I,r,q⟩:=h;exact ⟨v,aI,H',I.fm,r,q⟩
theorem PE.iI {e:ci} {t:TE} (h:PE X.iI e t):PE X e t:=⟨fun pins s σ H Q I hw=>
 lw (h pins s σ H Q (I.iA _) hw) (fun _ _ ⟨v,H',I',r,q⟩=>⟨v,H',I'.fm,r,q⟩) fun _ _ z=>BY z⟩
theorem fP.iI {st:List mv} {t:TS} (h:fP X.iI st t):fP X st t:=⟨fun pins s σ H D I hw=>
 lw (h pins s σ H D (I.iA _) hw) (fun _ _ q=>q.fm) fun _ _ z=>BY z⟩
end
section
variable {X:Cx} {st:mv} {rest:List mv} {t u:TS} {e:ci} {te:TE} {pos:rf}
def Lk:TS:=fun D σ H=>D.nx σ H
def Ot (t u:TS):TS:=fun D σ H=>t {D with nx:=u D} σ H
theorem Fb:fP X [] Lk:=⟨fun _ _ σ H _ I h=>Tn ⟨σ,H,I,h⟩⟩
theorem BZ (h1:PS X st t) (h2:fP X rest u):fP X (st::rest) (Ot t u) :=by
 refine ⟨?_⟩
 intro pins s σ H D I h
 refine wpAny_execs_cons (thn (h1 pins s σ H {D with nx:=u D} I h) fun f s1 q=>?_)
 cases f with
 |next=>
  obtain ⟨aI,H',I',q⟩:=q
  exact h2 pins s1 aI H' D I' q
 |ret v=>exact q
 |brk=>exact q
 |cont=>exact q
theorem Fc (h1:PS X st t):fP X [st] t :=by
 refine ⟨?_⟩
 intro pins s σ H D I h
 refine wpAny_execs_cons (thn (h1 pins s σ H D I h) fun f s1 q=>?_)
 cases f with
 |next=>exact Tn q
 |ret v=>exact q
 |brk=>exact q
 |cont=>exact q
theorem Inv.quiet {pins:List (ac×ii)} {σ:St} {H:Hp} {s:ap} (I:Inv X pins σ H s):interactive X.env=false :=by simp [interactive,I.ok.kind]
def Ln (te:TE):TS:=fun D σ H=>te σ H fun _ H1=>D.nx σ H1
theorem Fd (he:PE X e te) (hs:swapsWith e none pos.line X.env=pure false :=by rfl):PS X (.Expr e pos) (Ln te) :=by
 refine ⟨?_⟩
 intro pins s σ H D I h
 exact wpAny_Expr_any (thn (he pins s σ H _ I h) fun v s1 ⟨x,H1,I1,r1,q1⟩=>⟨σ,H1,I1,q1⟩) I.quiet hs
def Ou (te:TE):TS:=fun D σ H=>te σ H D.rt
theorem He (he:PE X e te):PS X (.Return (some e) pos) (Ou te) :=by
 refine ⟨?_⟩
 intro pins s σ H D I h
 exact wpAny_Return_some (thn (he pins s σ H _ I h) fun v s1 ⟨x,H1,I1,r1,q1⟩=>⟨x,σ,H1,I1,r1,q1⟩)
def Ov (c:TT) (t u:TS):TS:=fun D σ H=>c σ H fun b H1=>if b=true then t D σ H1 else u D σ H1
theorem Lp {c:ci} {a b:List mv} {tc:TT} (hc:PT X c tc) (ha:fP X a t) (hb:fP X b u):PS X (.If c a b pos) (Ov tc t u) :=by
 refine ⟨?_⟩
 intro pins s σ H D I h
 refine wpAny_If (thn (hc pins s σ H _ I h) fun d s1 ⟨H1,I1,q1⟩=>?_)
 cases d with
 |true=>exact ha pins s1 σ H1 D I1 q1
 |false=>exact hb pins s1 σ H1 D I1 q1
end
abbrev TG:=V->St->Hp->(St->Hp->Prop)->Prop
abbrev oY:=List V->St->Hp->(St->Hp->Prop)->Prop
def PG (X:Cx) (target:ci) (t:TG):Prop:=
 ∀(pins:List (ac×ii)) (s:ap) (σ:St) (H:Hp) (v:V) (u:ag) (Q:St->Hp->Prop),Inv X pins σ H s->RelV v u->t v σ H Q->
  wpAny (model X.prog X.w) X.A (assign target X.env u) (fun _ s'=>∃aI H',Inv X pins aI H' s'/\Q aI H') X.xe s
def qU (X:Cx) (ts:List ci) (t:oY):Prop:=
 ∀(pins:List (ac×ii)) (s:ap) (σ:St) (H:Hp) (vs:List V) (us:List ag) (Q:St->Hp->Prop),Inv X pins σ H s->Vals vs us->t vs σ H Q->
  wpAny (model X.prog X.w) X.A (assignInOrder ((assignEach ts X.env).map (·.2)) us) (fun _ s'=>∃aI H',Inv X pins aI H' s'/\Q aI H') X.xe s
abbrev B1:=V->V->V->Hp->(Hp->Prop)->Prop
def Hf (X:Cx) (t:B1):Prop:=
 ∀(pins:List (ac×ii)) (s:ap) (σ:St) (H:Hp) (o i v:V) (ov iv u:ag) (Q:Hp->Prop),Inv X pins σ H s->RelV o ov->RelV i iv->RelV v u->t o i v H Q->
  wpAny (model X.prog X.w) X.A (setItem ov iv u) (fun _ s'=>∃H',Inv X pins σ H' s'/\Q H') X.xe s
section
variable {X:Cx} {pos:rf}
def sQ (i:Nat):TG:=fun v σ H Q=>Q (σ.set i (some v)) H
theorem Fe {i:Nat} {x:ba} (hN:X.N.Nodup) (hi:X.N[i]?=some x) (hx:Loc X.env.scope x) (hf:X.fn x=true\/X.env.scope.names.lookup x=some .local :=by first|exact .inl rfl|exact .inr rfl|assumption):PG X (.Name x pos) (sQ i) :=by
 intro pins s σ H v u Q I r h
 exact wpAny_assign_Name (kP I hN hi hx r (fun s' I'=>⟨_,H,I',h⟩) hf)
def Ow:oY:=fun vs σ H Q=>vs=[]/\Q σ H
def Lq (t:TG) (u:oY):oY:=fun vs σ H Q=>∃v r,vs=v::r/\t v σ H fun aI H'=>u r aI H' Q
theorem Ff:qU X [] Ow :=by
 intro pins s σ H vs us Q I r h
 obtain ⟨e,h⟩:=h
 subst e
 cases r
 exact assignInOrder_nil ⟨σ,H,I,h⟩
theorem B2 {e:ci} {es:List ci} {t:TG} {u:oY} (h1:PG X e t) (h2:qU X es u)
  (hs:(assignEach (e::es) X.env).map (·.2)=assign e X.env::(assignEach es X.env).map (·.2) :=by rfl):qU X (e::es) (Lq t u) :=by
 intro pins s σ H vs us Q I r h
 obtain ⟨v,vr,e1,h⟩:=h
 subst e1
 cases r with
 |cons r rr=>
  rw [hs]
  refine TQ (thn (h1 pins s σ H _ _ _ I r h) fun _ s1 ⟨oZ,H1,I1,q1⟩=>?_)
  exact h2 pins s1 oZ H1 _ _ Q I1 rr q1
def Ox (K:ar) (n:Nat) (t:oY):TG:=fun v σ H Q=>∃a xs,v=.ref a/\dh K H a xs/\xs.length=n/\t xs σ H Q
theorem Hg {es:List ci} {k:Nat} {t:oY} {n:Nat} (hc:X.calm=true) (h:qU X es t)
  (hn:(assignEach es X.env).length=n :=by rfl) (qV:(assignEach es X.env).findIdx? (·.1)=none :=by rfl):PG X (.Tuple es k pos) (Ox X.K n t) :=by
 intro pins s σ H v u Q I r hw
 obtain ⟨a,xs,e1,hq,hl,hw⟩:=hw
 subst e1
 cases r
 obtain ⟨its,rv,ht,hz⟩:=I.tuple hq
 refine assign_Tuple_tuple (I.ok.hd hc) ht (by simp [hn,<- hl,rv.length]) qV fun h' hx=>?_
 have I1:Inv X pins σ H {s with heap:=h'}:=I.kept (t':=s.toks) fun b o e=>hx b o (i8 (f8 e)) e
 exact h pins _ σ H xs _ Q I1 (by simpa using rv) hw
def Oy (to ti:TE) (t:B1):TG:=fun v σ H Q=>to σ H fun o H1=>ti σ H1 fun i H2=>t o i v H2 fun H3=>Q σ H3
theorem Hh {o i:ci} {to ti:TE} {t:B1} (ho:PE X o to) (hi:PE X i ti) (hs:Hf X t)
  (ha:∀v,assign (.Subscript o i pos) X.env v=(do
   let ov <- holding [v] (eval o X.env)
   let iv <- holding [v,ov] (eval i X.env)
   standAt pos
   holding [v,ov,iv] (setItem ov iv v)
   release [v,ov,iv] []) :=by intro _;rfl):PG X (.Subscript o i pos) (Oy to ti t) :=by
 intro pins s σ H v u Q I r h
 rw [ha]
 refine al (KB (thn (ho pins s σ H _ I h) fun ov s1 ⟨x,H1,I1,r1,q1⟩=>?_))
 refine al (KB (thn (hi pins s1 σ H1 _ I1 q1) fun iv s2 ⟨y,H2,I2,r2,q2⟩=>?_))
 refine al (At (al (KB (thn (hs pins s2 σ H2 x y v ov iv u _ I2 r1 r2 r q2) fun _ s3 ⟨H3,I3,q3⟩=>?_))))
 exact wpAny_release ⟨σ,H3,I3,q3⟩
def tE (te:TE) (g:TG):TS:=fun D σ H=>te σ H fun x H1=>g x σ H1 D.nx
theorem Hi {tg e:ci} {te:TE} {g:TG} (he:PE X e te) (hg:PG X tg g) (hs:swapsWithSole [tg] e pos.line X.env=pure false :=by rfl) (hw:swappedStores [tg] e X.env=pure none :=by rfl)
  (h1:(assignEach [tg] X.env).map (·.2)=[assign tg X.env] :=by rfl):PS X (.Assign [tg] e pos) (tE te g) :=by
 refine ⟨?_⟩
 intro pins s σ H D I h
 refine wpAny_Assign_stores (thn (he pins s σ H _ I h) fun v s1 ⟨x,H1,I1,r1,q1⟩=>?_) hs hw
 rw [h1]
 exact thn (hg pins s1 σ H1 x v _ I1 r1 q1) fun _ s2 q=>q
theorem Hj {i:Nat} {x:ba} {e:ci} {te:TE} {pos':rf} (hN:X.N.Nodup) (hi:X.N[i]?=some x) (hx:Loc X.env.scope x) (he:PE X e te) (hs:swapsWith e (some (.Name x pos')) pos.line X.env=pure false :=by rfl) (hf:X.fn x=true\/X.env.scope.names.lookup x=some .local :=by first|exact .inl rfl|exact .inr rfl|assumption) :
  PS X (.Assign [.Name x pos'] e pos) (tE te (sQ i)) :=by
 refine ⟨?_⟩
 intro pins s σ H D I h
 refine wpAny_Assign_Name (thn (he pins s σ H _ I h) fun v s1 ⟨y,H1,I1,r1,q1⟩=>?_) hs
 exact kP I1 hN hi hx r1 (fun s2 I2=>⟨_,H1,I2,q1⟩) hf
def Oz (i j:Nat) (ta:TA):TS:=fun D σ H=>ta σ H fun vs H1=>∃v w,vs=[v,w]/\D.nx ((σ.set i (some v)).set j (some w)) H1
theorem Hk {i j:Nat} {x y:ba} {a b:ci} {ta:TA} {px py pt:rf} {kt k2 tF} (hc:X.calm=true) (hN:X.N.Nodup) (hi:X.N[i]?=some x) (hj:X.N[j]?=some y) (wo:i≠j)
  (hx:X.env.scope.names.lookup x=some .local) (hy:X.env.scope.names.lookup y=some .local) (ha:PA X [a,b] ta)
  (hw:swappedStores [.Tuple [.Name x px,.Name y py] kt pt] (.Tuple [a,b] k2 tF) X.env=pure (some [x,y]))
  (hs:swapsWithSole [.Tuple [.Name x px,.Name y py] kt pt] (.Tuple [a,b] k2 tF) pos.line X.env=pure false :=by rfl) :
  PS X (.Assign [.Tuple [.Name x px,.Name y py] kt pt] (.Tuple [a,b] k2 tF) pos) (Oz i j ta) :=by
 refine ⟨?_⟩
 intro pins s σ H D I h
 rw [exec_Assign_arm]
 refine al (At ?_)
 rw [hs]
 refine al (ca ?_)
 rw [if_neg (by decide)]
 refine al (Tuple_ (thn (ha _ pins s σ H _ I h) fun us s1 ⟨vs,H1,I1,r1,q1⟩=>?_))
 obtain ⟨v,w,e1,q1⟩:=q1
 subst e1
 obtain ⟨u1,u2,rfl,rv,eL⟩:∃u1 u2,us=[u1,u2]/\RelV v u1/\RelV w u2 :=by
  cases r1 with
  |cons p q=>
   cases q with
   |cons p' q'=>
    cases q'
    exact ⟨_,_,rfl,p,p'⟩
 refine ul ?_ (by show 2<=sizeLine;decide)
 have I2:Inv X pins σ H1 {s1 with heap:=s1.heap.push {cls:=.type "tuple",data:=.seq [u1,u2].toArray}}:=I1.kept (t':=s1.toks) fun b o e=>bn _ e
 rw [hw]
 refine al (ca ?_)
 show wpAny (model X.prog X.w) X.A (do rule "assign.swapped-stores";let items <- unpackItems (.ref s1.heap.objs.size) 2 none;assignInOrder [fun v=>bindName X.env y v,fun v=>bindName X.env x v] items.reverse;pure Flow.next) _ _ _
 refine al (GE (al (unpackItems_tuple (items:=#[u1,u2]) (I.ok.hd hc) (IsTup.new s1.heap _) fun h' nY=>?_)))
 have I3:=I2.kept (h':=h') (t':=s1.toks) fun b o e=>nY b o (i8 (f8 e)) e
 show wpAny _ _ (assignInOrder [fun v=>bindName X.env y v,fun v=>bindName X.env x v] [u2,u1]>>=fun _=>pure Flow.next) _ _ _
 refine al (TQ (wpAny_bindName (kP I3 hN hj (.inl hy) eL (fun s2 I4=>?_) (.inr hy))))
 refine TQ (wpAny_bindName (kP I4 hN hi (.inl hx) rv (fun s3 I5=>assignInOrder_nil (ca ?_)) (.inr hx)))
 rw [List.set_comm _ _ (wn wo)] at I5
 exact ⟨_,H1,I5,q1⟩
end
section
variable {X:Cx} {pos:rf}
def y7 (c:TT) (tb:TS):TS:=fun D σ H=>∃W:Nat->St->Hp->Prop,(∃m,W m σ H)/\∀m σ H,W m σ H->
 c σ H fun b H1=>if b=true then ∃N:St->Hp->Prop,(∀aI H',N aI H'->∃m',m'<m/\W m' aI H')/\tb {D with nx:=N,ct:=N,bk:=D.nx} σ H1 else D.nx σ H1
theorem B3 {c:ci} {body:List mv} {tc:TT} {tb:TS} (hp:Uu (model X.prog X.w) X.A X.env X.xe) (hc:PT X c tc) (hb:fP X body tb):PS X (.While c body [] pos) (y7 tc tb) :=by
 refine ⟨?_⟩
 intro pins s σ H D I h
 obtain ⟨W,⟨m0,w0⟩,turn⟩:=h
 refine wpAny_While (codeAny_whileLoop (fun n s'=>∃aI H',Inv X pins aI H' s'/\W n aI H') ?_ m0 ⟨σ,H,I,w0⟩)
 rintro n s1 ⟨oZ,H1,I1,w1⟩
 refine IN hp (thn (hc pins s1 oZ H1 _ I1 (turn n oZ H1 w1)) fun b s2 ⟨H2,I2,q2⟩=>?_)
 cases b with
 |true=>
  obtain ⟨N,hN,q2⟩:=q2
  rw [if_pos rfl]
  refine IN hp (thn (hb pins s2 oZ H2 _ I2 q2) fun f s3 q3=>?_)
  cases f with
  |next=>
   obtain ⟨lY,H3,I3,n3⟩:=q3
   obtain ⟨m',hm,w3⟩:=hN lY H3 n3
   exact ⟨m',hm,lY,H3,I3,w3⟩
  |cont=>
   obtain ⟨lY,H3,I3,n3⟩:=q3
   obtain ⟨m',hm,w3⟩:=hN lY H3 n3
   exact ⟨m',hm,lY,H3,I3,w3⟩
  |brk=>exact q3
  |ret v=>exact q3
 |false=>
  rw [if_neg ij]
  exact Tn ⟨oZ,H2,I2,q2⟩
end
structure It where
 go:Nat->Hp->Prop
 yld:Nat->Hp->V->Hp->Prop
 stop:Nat->Hp->Prop
def dD (X:Cx) (pins:List (ac×ii)) (H:Hp) (b:ac):Prop:=
 H b=none/\b≠X.env.locals/\b ∉ X.fs/\(b∈X.ex\/X.s₀.heap.objs.size<=b)/\(∀x c,X.env.cells.lookup x=some c->c≠b)/\∀p∈X.pn++pins,p.1≠b
theorem Inv.kQ {X:Cx} {pins:List (ac×ii)} {σ:St} {H H':Hp} {s:ap} {b:ac} (I:Inv X pins σ H s) (hb:s.heap.objs.size<=b) (hn:H' b=none):dD X pins H' b :=by
 refine ⟨hn,Pd (lc I.lt hb),I.GZ hb,.inr (sK I.sz hb),fun x c e z=>?_,fun p hp z=>?_⟩
 ·obtain ⟨v,q⟩:=I.cell x c e
  exact absurd (lc q.lt (by rw [z];exact hb)) (JJ _)
 ·exact absurd (lc (f8 (I.pin p hp).1) (by rw [z];exact hb)) (JJ _)
structure Turn (P:cr) (w:gc) (K:ar) (tg:ci) (J:It) (fp:List ac) (it:ac) (tn:Nat->db->Prop):Prop where
 mem:it∈fp
 obj:∀i h,tn i h->∀b∈fp,∃o,h.get? b=some o/\∀v,o.data≠.cell v
 keep:∀i h h',tn i h->(∀b∈fp,∀o,h.get? b=some o->h'.get? b=some o)->tn i h'
 item:∀(X:Cx),X.prog=P->X.w=w->X.K=K->X.calm=true->∀(i:Nat) (pins:List (ac×ii)) (s:ap) (σ:St) (H:Hp) (E:ag->ap->Prop),Inv X pins σ H s->(∀b∈fp,dD X pins H b)->tn i s.heap->J.go i H->
  wpAny (model P w) X.A (pyNext (.ref it)) (fun r s1=>∃u,r=some u /\
   wpAny (model P w) X.A (letOwnedTupleGo tg (.ref it) u) (fun _ s2=>∃x H',Inv X pins σ H' s2/\RelV x u/\J.yld i H x H'/\tn (i+1) s2.heap/\∀b∈fp,H' b=none) E s1) E s
 done:∀(X:Cx),X.prog=P->X.w=w->X.K=K->X.calm=true->∀(i:Nat) (pins:List (ac×ii)) (s:ap) (σ:St) (H:Hp) (E:ag->ap->Prop),Inv X pins σ H s->(∀b∈fp,dD X pins H b)->tn i s.heap->J.stop i H->
  wpAny (model P w) X.A (pyNext (.ref it)) (fun r s1=>r=none/\Inv X pins σ H s1) E s
 self:∀(A:l9) (i:Nat) (s:ap) (Q:ag->ap->Prop) (E:ag->ap->Prop),tn i s.heap->Q (.ref it) s->wpAny (model P w) A (pyIter (.ref it)) Q E s
abbrev TI:=St->Hp->(It->Hp->Prop)->Prop
def Hl (X:Cx) (pins:List (ac×ii)) (σ:St) (tg:ci) (R:It->Hp->Prop) (y8:ag) (s2:ap):Prop:=
 ∃(it:ac) (fp:List ac) (tn:Nat->db->Prop) (J:It) (H':Hp),y8=.ref it/\Inv X pins σ H' s2/\Turn X.prog X.w X.K tg J fp it tn/\tn 0 s2.heap/\(∀b∈fp,dD X pins H' b)/\R J H'
def PI (X:Cx) (tg iter:ci) (wi:TI):Prop:=
 ∀(pins:List (ac×ii)) (s:ap) (σ:St) (H:Hp) (R:It->Hp->Prop),Inv X pins σ H s->wi σ H R->
  wpAny (model X.prog X.w) X.A (eval iter X.env) (fun v s1=>wpAny (model X.prog X.w) X.A (pyIter v) (Hl X pins σ tg R) X.xe s1) X.xe s
theorem o4 {M:Model} {A:l9} {E:ag->ap->Prop} {s:ap} {tg:ci} {it:ac} {u:ag} {o:ii} {n:String} {vs:Array ag} {Q:Unit->ap->Prop} (ho:s.heap.get? it=some o) (hc:o.cls=.type n) (hd:o.data=.fields vs)
  (hn:["enumerate","zip","dict_itemiterator","dict_reverseitemiterator","odict_iterator","itertools.zip_longest","itertools.pairwise"].contains n=false) (hQ:Q () s):wpAny M A (letOwnedTupleGo tg (.ref it) u) Q E s :=by
 unfold letOwnedTupleGo
 cases tg <;> first
  |exact ca hQ
  |(cases u <;> first
    |exact ca hQ
    |(refine al (UH ho ?_)
      rw [hc,hd]
      show wpAny M A (if (["enumerate","zip","dict_itemiterator","dict_reverseitemiterator","odict_iterator","itertools.zip_longest","itertools.pairwise"].contains n && vs[0]?==some (rawInt _))=true then _ else _) Q E s
      rw [if_neg (by intro h;rw [hn,TH] at h;cases h)]
      exact ca hQ))
def Hm (K:ar) (a:ac):It:=
 ⟨fun i H=>∃xs x,bY K H a xs/\xs[i]?=some x,fun i H x H'=>H'=H/\∀xs,bY K H a xs->xs[i]?=some x,fun i H=>∃xs,bY K H a xs/\xs.length<=i⟩
def Hn (K:ar) (a:ac):It:=
 ⟨fun i H=>∃xs x,dh K H a xs/\xs[i]?=some x,fun i H x H'=>H'=H/\∀xs,dh K H a xs->xs[i]?=some x,fun i H=>∃xs,dh K H a xs/\xs.length<=i⟩
def D0 (lo:Int) (n:Nat):It:=⟨fun i _=>i<n,fun i H x H'=>H'=H/\x=.int (lo+i),fun i _=>n<=i⟩
theorem y9 {P:cr} {w:gc} {K:ar} {tg:ci} (a it:ac):Turn P w K tg (Hm K a) [it] it (fun i h=>h.IsListIter it a i) where
 mem :=by simp
 obj:=fun i h st b hb=>by
  have e:b=it :=by simpa using hb
  subst e
  obtain ⟨o,e,c,d⟩:=st
  exact ⟨o,e,fun v z=>by rw [d] at z;cases z⟩
 keep:=fun i h h' st k=>st.at fun o e=>k it (by simp) o e
 item :=by
  intro X hP hw hK hc i pins s σ H E I hf st hg
  subst hP hw hK
  obtain ⟨xs,x,hq,hx⟩:=hg
  obtain ⟨its,rv,p,hz⟩:=I.list hq
  obtain ⟨u,hu,ru⟩:=rv.get hx
  obtain ⟨f0,f1,f2,f3,f4,f5⟩:=hf it (by simp)
  refine wpAny_pyNext_list_item st p.isList (x:=u) (by simpa using hu) fun h' jK sb=>?_
  have I1:Inv X pins σ H {s with heap:=h'}:=I.turned (t':=s.toks) (fun b o hb e=>(sb.2 b hb).trans e) f0 f1 f3 f4 f5
  obtain ⟨o,e,c,d⟩:=id jK
  exact ⟨u,rfl,o4 (s:={s with heap:=h'}) e c d (by decide) ⟨x,H,I1,ru,⟨rfl,fun ys hy=>by rw [I.tD hy hq];exact hx⟩,jK,fun b hb=>(hf b hb).1⟩⟩
 done :=by
  intro X hP hw hK hc i pins s σ H E I hf st hg
  subst hP hw hK
  obtain ⟨xs,hq,hx⟩:=hg
  obtain ⟨its,rv,p,hz⟩:=I.list hq
  obtain ⟨f0,f1,f2,f3,f4,f5⟩:=hf it (by simp)
  have hl:=rv.length
  exact wpAny_pyNext_list_end (I.ok.hd hc) st p.isList (by simp;omega) fun h' eb=>⟨rfl,I.turned (t':=s.toks) (fun b o hb e=>eb b o hb e) f0 f1 f3 f4 f5⟩
 self:=fun _ _ _ _ _ st h=>wpAny_pyIter_listiter st h
theorem xu {P:cr} {w:gc} {K:ar} {tg:ci} (a it:ac):Turn P w K tg (Hn K a) [it] it (fun i h=>h.IsTupleIter it a i) where
 mem :=by simp
 obj:=fun i h st b hb=>by
  have e:b=it :=by simpa using hb
  subst e
  obtain ⟨o,e,c,d⟩:=st
  exact ⟨o,e,fun v z=>by rw [d] at z;cases z⟩
 keep:=fun i h h' st k=>st.at fun o e=>k it (by simp) o e
 item :=by
  intro X hP hw hK hc i pins s σ H E I hf st hg
  subst hP hw hK
  obtain ⟨xs,x,hq,hx⟩:=hg
  obtain ⟨its,rv,p,hz⟩:=I.tuple hq
  obtain ⟨u,hu,ru⟩:=rv.get hx
  obtain ⟨f0,f1,f2,f3,f4,f5⟩:=hf it (by simp)
  refine wpAny_pyNext_tuple_item st (show s.heap.IsTuple a its.toArray from p) (x:=u) (by simpa using hu) fun h' jK sb=>?_
  have I1:Inv X pins σ H {s with heap:=h'}:=I.turned (t':=s.toks) (fun b o hb e=>(sb.2 b hb).trans e) f0 f1 f3 f4 f5
  obtain ⟨o,e,c,d⟩:=id jK
  exact ⟨u,rfl,o4 (s:={s with heap:=h'}) e c d (by decide) ⟨x,H,I1,ru,⟨rfl,fun ys hy=>by rw [I.qT hy hq];exact hx⟩,jK,fun b hb=>(hf b hb).1⟩⟩
 done :=by
  intro X hP hw hK hc i pins s σ H E I hf st hg
  subst hP hw hK
  obtain ⟨xs,hq,hx⟩:=hg
  obtain ⟨its,rv,p,hz⟩:=I.tuple hq
  obtain ⟨f0,f1,f2,f3,f4,f5⟩:=hf it (by simp)
  have hl:=rv.length
  exact wpAny_pyNext_tuple_end (I.ok.hd hc) st (show s.heap.IsTuple a its.toArray from p) (by simp;omega) fun h' eb=>⟨rfl,I.turned (t':=s.toks) (fun b o hb e=>eb b o hb e) f0 f1 f3 f4 f5⟩
 self:=fun _ _ _ _ _ st h=>wpAny_pyIter_tupleiter st h
theorem xx {P:cr} {w:gc} {K:ar} {tg:ci} (it:ac) (lo:Int) (n:Nat):Turn P w K tg (D0 lo n) [it] it (fun i h=>IsRangeIter h it (lo+(i:Nat) * 1) ((n:Int) - (i:Nat)) 1) where
 mem :=by simp
 obj:=fun i h st b hb=>by
  have e:b=it :=by simpa using hb
  subst e
  exact ⟨_,st,fun v z=>by
   have z':Data.fields _=Data.cell v:=z
   cases z'⟩
 keep:=fun i h h' st k=>k it (by simp) _ st
 item :=by
  intro X hP hw hK hc i pins s σ H E I hf st hg
  subst hP hw hK
  obtain ⟨f0,f1,f2,f3,f4,f5⟩:=hf it (by simp)
  have W:=Walks.range (prog:=X.prog) (w:=X.w) (I.ok.hd hc) it lo 1 n
  refine W.item i s _ _ hg st fun v h' tk hv jK kk=>?_
  obtain ⟨t,rfl⟩:=hv
  have I1:Inv X pins σ H {s with heap:=h',toks:=tk}:=I.turned (fun b o hb e=>kk b o (by simpa using hb) e) f0 f1 f3 f4 f5
  refine ⟨_,rfl,o4 (s:={s with heap:=h',toks:=tk}) (n := "range_iterator") jK rfl rfl (by decide) ⟨.int (lo+i),H,I1,⟨t,?_⟩,⟨rfl,rfl⟩,jK,fun b hb=>(hf b hb).1⟩⟩
  rw [Int.mul_one]
 done :=by
  intro X hP hw hK hc i pins s σ H E I hf st hg
  subst hP hw hK
  obtain ⟨f0,f1,f2,f3,f4,f5⟩:=hf it (by simp)
  exact wpAny_pyNext_range_end (I.ok.hd hc) st (by have:n<=i:=hg;omega) fun h' eb=>⟨rfl,I.turned (t':=s.toks) (fun b o hb e=>eb b o hb e) f0 f1 f3 f4 f5⟩
 self:=fun _ _ _ _ _ st h=>wpAny_pyIter_rangeiter st h
section
variable {X:Cx} {tg:ci}
def D1 (K:ar) (tl:TE):TI:=fun σ H R=>tl σ H fun x H1=>∃a,x=.ref a/\(∃xs,bY K H1 a xs)/\R (Hm K a) H1
def Ho (K:ar) (tl:TE):TI:=fun σ H R=>tl σ H fun x H1=>∃a,x=.ref a/\(∃xs,dh K H1 a xs)/\R (Hn K a) H1
theorem Fg {l:ci} {tl:TE} (hl:PE X l tl):PI X tg l (D1 X.K tl) :=by
 intro pins s σ H R I h
 refine thn (hl pins s σ H _ I h) fun v s1 ⟨x,H1,I1,r1,q1⟩=>?_
 obtain ⟨a,e,⟨xs,hq⟩,q⟩:=q1
 subst e
 cases r1
 obtain ⟨its,rv,p,hz⟩:=I1.list hq
 refine wpAny_pyIter_list p.isList ?_
 refine ⟨s1.heap.objs.size,[s1.heap.objs.size],_,_,H1,rfl,I1.kept (t':=s1.toks) fun b o e=>bn _ e,y9 a _,⟨_,ff _ rfl,rfl,rfl⟩,fun b hb=>?_,q⟩
 have e:b=s1.heap.objs.size :=by simpa using hb
 subst e
 exact I1.kQ (ce _) (I1.hok.fresh (ce _))
theorem Hq {l:ci} {tl:TE} (hl:PE X l tl):PI X tg l (Ho X.K tl) :=by
 intro pins s σ H R I h
 refine thn (hl pins s σ H _ I h) fun v s1 ⟨x,H1,I1,r1,q1⟩=>?_
 obtain ⟨a,e,⟨xs,hq⟩,q⟩:=q1
 subst e
 cases r1
 obtain ⟨its,rv,p,hz⟩:=I1.tuple hq
 refine TR (show s1.heap.IsTuple a its.toArray from p) ?_
 refine ⟨s1.heap.objs.size,[s1.heap.objs.size],_,_,H1,rfl,I1.kept (t':=s1.toks) fun b o e=>bn _ e,xu a _,⟨_,ff _ rfl,rfl,rfl⟩,fun b hb=>?_,q⟩
 have e:b=s1.heap.objs.size :=by simpa using hb
 subst e
 exact I1.kQ (ce _) (I1.hok.fresh (ce _))
theorem B4 {pins:List (ac×ii)} {σ:St} {H:Hp} {s:ap} {R:It->Hp->Prop} {E:ag->ap->Prop} {lo hi:Int} {t u v:Tz} {tk:Nat} (I:Inv X pins σ H s) (h1 : -(2 ^ 62)<=lo) (h2:lo<2 ^ 62) (h3 : -(2 ^ 62)<=hi) (h4:hi<2 ^ 62)
  (q:R (D0 lo (hi - lo).toNat) H):wpAny (model X.prog X.w) X.A (pyIter (.ref s.heap.objs.size)) (Hl X pins σ tg R) E {s with heap:=s.heap.push {cls:=.type "range",data:=.fields #[.int lo t,.int hi u,.int 1 v]},toks:=tk}:=by
 refine wpAny_pyIter_range (IsRange.new ..) (small_one h1 h2 h3 h4) ?_
 have I1:Inv X pins σ H {s with heap:=s.heap.push {cls:=.type "range",data:=.fields #[.int lo t,.int hi u,.int 1 v]},toks:=tk}:=I.kept fun b o e=>bn _ e
 refine ⟨(s.heap.push {cls:=.type "range",data:=.fields #[.int lo t,.int hi u,.int 1 v]}).objs.size,[(s.heap.push {cls:=.type "range",data:=.fields #[.int lo t,.int hi u,.int 1 v]}).objs.size],_,_,H,rfl,
  I1.kept (t':=tk) fun b o e=>bn _ e,xx _ lo (hi - lo).toNat,?_,fun b hb=>?_,q⟩
 ·have e1:lo+((0:Nat):Int) * 1=lo :=by simp
  have e2:(((hi - lo).toNat:Nat):Int) - ((0:Nat):Int)=wr.Range.rangeSize lo hi 1 :=by rw [rangeSize_one];split <;> omega
  show IsRangeIter _ _ (lo+((0:Nat):Int) * 1) ((((hi - lo).toNat:Nat):Int) - ((0:Nat):Int)) 1
  rw [e1,e2]
  exact ff _ rfl
 ·have e:b=(s.heap.push {cls:=.type "range",data:=.fields #[.int lo t,.int hi u,.int 1 v]}).objs.size :=by simpa using hb
  subst e
  exact I1.kQ (ce _) (I1.hok.fresh (ce _))
def D2 (ta:TA):TI:=fun σ H R=>ta σ H fun vs H1=>∃j:Int,vs=[.int j] /\ -(2 ^ 62)<=j/\j<2 ^ 62/\R (D0 0 j.toNat) H1
theorem zb {a:ci} {ta:TA} {p pos:rf} (hg:Gl X "range") (hm:X.mg "range" = none) (ha:PA X [a] ta) (hs:starEach [a] X.env=[(false,eval a X.env)] :=by rfl):PI X tg (.Call (.Name "range" p) [a] [] pos) (D2 ta) :=by
 intro pins s σ H R I h
 refine Call_ (gb I hg hm boot_range (AL (thn (ha pos pins s σ H _ I h) fun us s1 ⟨vs,H1,I1,r1,q1⟩=>?_) hs rfl))
 obtain ⟨j,e,q1,q2,q⟩:=q1
 subst e
 cases r1 with
 |cons r rr=>
  cases rr
  obtain ⟨t,rfl⟩:=r
  exact call_range_1 (B4 I1 (by omega) (by omega) q1 q2 (by simpa using q))
def Hr (wi:TI) (g:TG) (tb:TS):TS:=fun D σ H=>wi σ H fun J H1=>∃W:Nat->Nat->St->Hp->Prop,(∃m,W 0 m σ H1)/\∀i m σ H,W i m σ H->
 (J.stop i H/\D.nx σ H)\/(J.go i H/\∃N:St->Hp->Prop,(∀aI H',N aI H'->∃m',m'<m/\W (i+1) m' aI H')/\∀x H',J.yld i H x H'->g x σ H' fun o5 H2=>tb {D with nx:=N,ct:=N,bk:=D.nx} o5 H2)
def ig (fp:List ac) (h:db):List (ac×ii):=fp.filterMap fun b=>(h.get? b).map fun o=>(b,o)
theorem cL {fp:List ac} {h:db} {b:ac} {o:ii} (hb:b∈fp) (e:h.get? b=some o):(b,o)∈ig fp h:=TU.mpr ⟨b,hb,by rw [e];rfl⟩
theorem zf {fp:List ac} {h:db} {p:ac×ii} (hp:p∈ig fp h):p.1∈fp/\h.get? p.1=some p.2 :=by
 obtain ⟨b,hb,e⟩:=TU.mp hp
 cases q:h.get? b with
 |none=>rw [q] at e;cases e
 |some o=>
  rw [q] at e
  have e':(b,o)=p:=dL e
  subst e'
  exact ⟨hb,q⟩
theorem Inv.pinned {pins:List (ac×ii)} {σ:St} {H:Hp} {s:ap} {fp:List ac} (I:Inv X pins σ H s) (hf:∀b∈fp,dD X pins H b) (ho:∀b∈fp,∃o,s.heap.get? b=some o/\∀v,o.data≠.cell v):Inv X (pins++ig fp s.heap) σ H s:=
 I.qh fun p hp=>(tz.mp hp).elim (fun z=>I.pin p (ge _ z)) fun z=>by
  obtain ⟨hb,e⟩:=zf z
  obtain ⟨f0,f1,f2,_⟩:=hf p.1 hb
  obtain ⟨o,e',d⟩:=ho p.1 hb
  rw [e] at e';cases e'
  exact ⟨e,f0,f1,f2,d⟩
theorem Inv.cp {pins pl:List (ac×ii)} {σ:St} {H:Hp} {s:ap} (I:Inv X (pins++pl) σ H s):Inv X pins σ H s:=I.qh fun p hp=>I.pin p (ge _ (AT _ hp))
theorem Hs {iter:ci} {body:List mv} {wi:TI} {g:TG} {tb:TS} {pos:rf} (hp:Uu (model X.prog X.w) X.A X.env X.xe) (hc:X.calm=true) (hi:PI X tg iter wi) (hg:PG X tg g) (hb:fP X body tb)
  (hs:∀x,foldedSetIterable iter X.env x=pure x :=by intro _;rfl):PS X (.For tg iter body [] pos) (Hr wi g tb) :=by
 refine ⟨?_⟩
 intro pins s σ H D I h
 refine wpAny_For (thn (hi pins s σ H _ I h) fun v s1 h1=>thn h1 fun y8 s2 h2=>?_) hs
 obtain ⟨it,fp,tn,J,H2,e,I2,T,tG,f2,W,⟨m0,w0⟩,turn⟩:=h2
 subst e
 have stat:∀{H':Hp},(∀b∈fp,H' b=none)->∀b∈fp,dD X pins H' b:=fun hn b hb=>⟨hn b hb,(f2 b hb).2⟩
 refine codeAny_forLoop_any (fun n s'=>∃i aI H',Inv X pins aI H' s'/\tn i s'.heap/\(∀b∈fp,H' b=none)/\W i n aI H') ?_ m0 ⟨0,σ,H2,I2,tG,fun b hb=>(f2 b hb).1,w0⟩
 rintro n s3 ⟨i,lY,H3,I3,qX,zg,w3⟩
 rcases turn i n lY H3 w3 with ⟨stop,qn⟩|⟨go,N,hN,step⟩
 ·refine IN hp (thn (T.done X rfl rfl rfl hc i pins s3 lY H3 X.xe I3 (stat zg) qX stop) fun r s4 ⟨hr,I4⟩=>?_)
  subst hr
  exact Tn ⟨lY,H3,I4,qn⟩
 ·refine IN hp (thn (T.item X rfl rfl rfl hc i pins s3 lY H3 X.xe I3 (stat zg) qX go) fun r s4 ⟨u,hr,h4⟩=>?_)
  subst hr
  refine IN hp (thn h4 fun _ s5 ⟨x,H5,I5,r5,y5,ja,tH⟩=>?_)
  have tI:=I5.pinned (stat tH) (T.obj _ _ ja)
  refine IN hp (thn (hg _ s5 lY H5 x u _ tI r5 (step x H5 y5)) fun _ s6 ⟨P2,H6,I6,q6⟩=>?_)
  refine IN hp (thn (hb _ s6 P2 H6 _ I6 q6) fun f s7 q7=>?_)
  have again:∀{mn:St} {H7:Hp},Inv X (pins++ig fp s5.heap) mn H7 s7->N mn H7->∃m,m<n/\∃i aI H',Inv X pins aI H' s7/\tn i s7.heap/\(∀b∈fp,H' b=none)/\W i m aI H':=fun {mn H7} I7 n7=>by
   obtain ⟨m',hm,w7⟩:=hN mn H7 n7
   refine ⟨m',hm,i+1,mn,H7,I7.cp,T.keep _ _ _ ja fun b hb o e=>(I7.pin (b,o) (ge _ (ge _ (cL hb e)))).1,fun b hb=>?_,w7⟩
   obtain ⟨o,e,d⟩:=T.obj _ _ ja b hb
   exact (I7.pin (b,o) (ge _ (ge _ (cL hb e)))).2.1
  cases f with
  |next=>obtain ⟨mn,H7,I7,n7⟩:=q7;exact again I7 n7
  |cont=>obtain ⟨mn,H7,I7,n7⟩:=q7;exact again I7 n7
  |brk=>obtain ⟨mn,H7,I7,q7⟩:=q7;exact ⟨mn,H7,I7.cp,q7⟩
  |ret v=>obtain ⟨x7,mn,H7,I7,r7,q7⟩:=q7;exact ⟨x7,mn,H7,I7.cp,r7,q7⟩
end
abbrev R2:=V->V->Hp->VK->Prop
def OpR (X:Cx) (f:ag->ag->T5 ag) (r:R2):Prop:=
 ∀(pins:List (ac×ii)) (s:ap) (σ:St) (H:Hp) (x y:V) (v u:ag) (Q:VK),Inv X pins σ H s->RelV x v->RelV y u->r x y H Q->
  wpAny (model X.prog X.w) X.A (f v u) (EP X pins σ Q) X.xe s
def dA (X:Cx) (f:ag) (r:List V->Hp->VK->Prop):Prop:=
 ∀(pins:List (ac×ii)) (s:ap) (σ:St) (H:Hp) (xs:List V) (us:List ag) (Q:VK),Inv X pins σ H s->Vals xs us->r xs H Q->
  wpAny (model X.prog X.w) X.A (call f us) (EP X pins σ Q) X.xe s
def OA (X:Cx) (r:V->Hp->(Bool->Hp->Prop)->Prop):Prop:=
 ∀(pins:List (ac×ii)) (s:ap) (σ:St) (H:Hp) (x:V) (v:ag) (Q:Bool->Hp->Prop),Inv X pins σ H s->RelV x v->r x H Q->
  wpAny (model X.prog X.w) X.A (truthy v) (TP X pins σ Q) X.xe s
def zh (r:R2) (ta tb:TE):TE:=fun σ H Q=>ta σ H fun x H1=>tb σ H1 fun y H2=>r x y H2 Q
def rI (C:Int->Int->Prop) (g:Int->Int->V):R2:=fun x y H Q=>∃i j,x=.int i/\y=.int j/\C i j/\Q (g i j) H
def qY (g:Int->Int->V):R2:=fun x y H Q=>∃i j,x=.int i/\y=.int j/\Q (g i j) H
section
variable {X:Cx} {a b c:ci} {ta tb tc:TE} {pos:rf}
theorem B5 (ha:PE X a ta) (hb:PE X b tb) {pins:List (ac×ii)} {s:ap} {σ:St} {H:Hp} {R:V->V->Hp->Prop} (I:Inv X pins σ H s)
  (h:ta σ H fun x H1=>tb σ H1 fun y H2=>R x y H2) {Q:ag->ap->Prop} {f:ag->ag->T5 ag}
  (hf:∀v u s2 x y H2,Inv X pins σ H2 s2->RelV x v->RelV y u->R x y H2->wpAny (model X.prog X.w) X.A (f v u) Q X.xe s2) :
  wpAny (model X.prog X.w) X.A (eval a X.env) (fun v aw=>wpAny (model X.prog X.w) X.A (eval b X.env) (fun u j6=>wpAny (model X.prog X.w) X.A (f v u) Q X.xe j6) X.xe aw) X.xe s :=by
 refine thn (ha pins s σ H _ I h) fun v s1 ⟨x,H1,I1,r1,q1⟩=>?_
 refine thn (hb pins s1 σ H1 _ I1 q1) fun u s2 ⟨y,H2,I2,r2,q2⟩=>?_
 exact hf v u s2 x y H2 I2 r1 r2 q2
theorem Lr {op:Operator} {r:R2} (ho:OpR X (binaryOp op) r) (ha:PE X a ta) (hb:PE X b tb):PE X (.BinOp a op b pos) (zh r ta tb) :=by
 refine ⟨?_⟩
 intro pins s σ H Q I h
 exact wpAny_BinOp (B5 ha hb I h fun v u s2 x y H2 I2 rx ry q=>ho pins s2 σ H2 x y v u Q I2 rx ry q)
theorem D3 {f:ag->ag->T5 ag} {C:Int->Int->Prop} {g:Int->Int->Int}
  (rule:∀(i j:Int) (t u:Tz) (s:ap) (Q:ag->ap->Prop) (E:ag->ap->Prop),C i j->Q (.int (g i j) s.toks) {s with toks:=s.toks+1}->wpAny (model X.prog X.w) X.A (f (.int i t) (.int j u)) Q E s) :
  OpR X f (rI C fun i j=>.int (g i j)) :=by
 intro pins s σ H x y v u Q I rx ry h
 obtain ⟨i,j,rfl,rfl,hc,q⟩:=h
 obtain ⟨t,rfl⟩:=rx
 obtain ⟨t',rfl⟩:=ry
 exact rule i j t t' s _ _ hc ⟨.int (g i j),H,I.tok _,⟨_,rfl⟩,q⟩
theorem Ht {f:ag->ag->T5 ag} {g:Int->Int->Int}
  (rule:∀(i j:Int) (t u:Tz) (s:ap) (Q:ag->ap->Prop) (E:ag->ap->Prop),Q (.int (g i j) s.toks) {s with toks:=s.toks+1}->wpAny (model X.prog X.w) X.A (f (.int i t) (.int j u)) Q E s) :
  OpR X f (qY fun i j=>.int (g i j)) :=by
 intro pins s σ H x y v u Q I rx ry h
 obtain ⟨i,j,rfl,rfl,q⟩:=h
 obtain ⟨t,rfl⟩:=rx
 obtain ⟨t',rfl⟩:=ry
 exact rule i j t t' s _ _ ⟨.int (g i j),H,I.tok _,⟨_,rfl⟩,q⟩
theorem B6 {f:ag->ag->T5 ag} {g:Int->Int->Bool}
  (rule:∀(i j:Int) (t u:Tz) (s:ap) (Q:ag->ap->Prop) (E:ag->ap->Prop),Q (.bool (g i j)) s->wpAny (model X.prog X.w) X.A (f (.int i t) (.int j u)) Q E s) :
  OpR X f (qY fun i j=>.bl (g i j)) :=by
 intro pins s σ H x y v u Q I rx ry h
 obtain ⟨i,j,rfl,rfl,q⟩:=h
 obtain ⟨t,rfl⟩:=rx
 obtain ⟨t',rfl⟩:=ry
 exact rule i j t t' s _ _ ⟨.bl (g i j),H,I,rfl,q⟩
def Hu (i j:Int):Prop:=0<j/\j<1073741824
def Hv (i j:Int):Prop:=0<=j/\j<=1000000/\i.natAbs<2 ^ 64
def xA (i j:Int):Prop:=(-(2 ^ 64)<i/\i<2 ^ 64)\/(-(2 ^ 64)<j/\j<2 ^ 64)
theorem xA.ok {i j:Int} (h:xA i j):IntMulOk i j :=by
 rcases h with ⟨h1,h2⟩|⟨h1,h2⟩
 ·exact .of_left (intBits_le_64 h1 h2)
 ·exact .of_right (intBits_le_64 h1 h2)
theorem Hw:OpR X (binaryOp .Add) (qY fun i j=>.int (i+j)):=Ht fun _ _ _ _ _ _ _ q=>add_int q
theorem Hx:OpR X (binaryOp .Sub) (qY fun i j=>.int (i - j)):=Ht fun _ _ _ _ _ _ _ q=>sub_int q
theorem Hy:OpR X (binaryOp .Mult) (rI xA fun i j=>.int (i * j)):=D3 fun _ _ _ _ _ _ _ hc q=>mul_int q hc.ok
theorem Fh:OpR X (binaryOp .FloorDiv) (rI Hu fun i j=>.int (i / j)):=D3 fun i j _ _ _ _ _ hc q=>by
 have h1:(0:Int)<j:=hc.1
 have h2:j<1073741824:=hc.2
 exact floordiv_int (by omega) (by rw [Int.fdiv_eq_ediv_of_nonneg i (by omega)];exact q) (.inl (PyProof.noPylong_small (by omega)))
theorem Hz:OpR X (binaryOp .Mod) (rI (fun _ j=>0<j) fun i j=>.int (i % j)):=D3 fun i j _ _ _ _ _ hc q=>by
 have h1:(0:Int)<j:=hc
 exact mod_int' (by omega) (by rw [Int.fmod_eq_emod_of_nonneg i (by omega)];exact q)
theorem HA:OpR X (binaryOp .Pow) (rI Hv fun i j=>.int (i ^ j.toNat)):=D3 fun _ _ _ _ _ _ _ hc q=>pow_int_small hc.1 hc.2.1 hc.2.2 q
end
def B7:V->V->Bool
 | .aB,.aB=>true | .aB,.int _=>true | .int _,.aB=>true | .aB,.bl _=>true | .bl _,.aB=>true | .aB,.str _=>true | .str _,.aB=>true
 | .int _,.int _=>true | .bl _,.bl _=>true | .str _,.str _=>true | .i7 _,.i7 _=>true
 | .int _,.str _=>true | .str _,.int _=>true | .bl _,.str _=>true | .str _,.bl _=>true
 |_,_=>false
def P4:R2:=fun x y H Q=>B7 x y=true/\Q (.bl (decide (x=y))) H
def P5:R2:=fun x y H Q=>B7 x y=true/\Q (.bl (!decide (x=y))) H
theorem wq {i j:Int}:decide (V.int i=V.int j)=(i==j) :=by
 rw [To]
 simp
theorem zj {i j:Bool}:decide (V.bl i=V.bl j)=(i==j) :=by
 rw [To]
 simp
theorem wt {i j:ba}:decide (V.str i=V.str j)=(i==j) :=by
 rw [To]
 simp
theorem wu {i j:Array UInt8}:decide (V.i7 i=V.i7 j)=(i.toList==j.toList) :=by
 rw [To]
 cases i
 cases j
 simp
section
variable {X:Cx} {a b c:ci} {ta tb tc:TE} {pos:rf}
theorem aX {pins:List (ac×ii)} {σ:St} {H:Hp} {s:ap} {Q:VK} {k k':Bool} (I:Inv X pins σ H s) (q:Q (.bl k) H) (e:k=k'):EP X pins σ Q (.bool k') s :=by
 subst e
 exact ⟨.bl k,H,I,rfl,q⟩
theorem Ls:OpR X (compareOp .Eq) P4 :=by
 intro pins s σ H x y v u Q I rx ry h
 obtain ⟨hs,q⟩:=h
 cases x with
 |aB=>
  cases rx
  cases y with
  |aB=>cases ry;exact PySem.EqNone.eq_none_none (aX I q (by simp))
  |bl j=>cases ry;exact PySem.EqNone.eq_none_bool (aX I q (by simp))
  |int j=>obtain ⟨t',rfl⟩:=ry;exact PySem.EqNone.eq_none_int (aX I q (by simp))
  |str j=>obtain ⟨t',rfl⟩:=ry;exact PySem.EqNone.eq_none_str (aX I q (by simp))
  |_=>exact absurd (show false=true from hs) ij
 |bl i=>
  cases rx
  cases y with
  |aB=>cases ry;exact PySem.EqNone.eq_bool_none (aX I q (by simp))
  |bl j=>cases ry;exact eq_bool (aX I q zj)
  |str j=>obtain ⟨t',rfl⟩:=ry;exact PySem.EqMixed.eq_bool_str (aX I q (by simp))
  |_=>exact absurd (show false=true from hs) ij
 |int i=>
  obtain ⟨t,rfl⟩:=rx
  cases y with
  |aB=>cases ry;exact PySem.EqNone.eq_int_none (aX I q (by simp))
  |int j=>obtain ⟨t',rfl⟩:=ry;exact eq_int (aX I q wq)
  |str j=>obtain ⟨t',rfl⟩:=ry;exact PySem.EqMixed.eq_int_str (aX I q (by simp))
  |_=>exact absurd (show false=true from hs) ij
 |str i=>
  obtain ⟨t,rfl⟩:=rx
  cases y with
  |aB=>cases ry;exact PySem.EqNone.eq_str_none (aX I q (by simp))
  |bl j=>cases ry;exact PySem.EqMixed.eq_str_bool (aX I q (by simp))
  |int j=>obtain ⟨t',rfl⟩:=ry;exact PySem.EqMixed.eq_str_int (aX I q (by simp))
  |str j=>obtain ⟨t',rfl⟩:=ry;exact eq_str (aX I q wt)
  |_=>exact absurd (show false=true from hs) ij
 |i7 i=>
  obtain ⟨t,rfl⟩:=rx
  cases y with
  |i7 j=>obtain ⟨t',rfl⟩:=ry;exact PySem.W.eq_bytes (aX I q wu)
  |_=>exact absurd (show false=true from hs) ij
 |_=>cases y <;> exact absurd (show false=true from hs) ij
theorem Lv:OpR X (compareOp .NotEq) P5 :=by
 intro pins s σ H x y v u Q I rx ry h
 obtain ⟨hs,q⟩:=h
 cases x with
 |aB=>
  cases rx
  cases y with
  |aB=>cases ry;exact PySem.EqNone.ne_none_none (aX I q (by simp))
  |bl j=>cases ry;exact PySem.EqNone.ne_none_bool (aX I q (by simp))
  |int j=>obtain ⟨t',rfl⟩:=ry;exact PySem.EqNone.ne_none_int (aX I q (by simp))
  |str j=>obtain ⟨t',rfl⟩:=ry;exact PySem.EqNone.ne_none_str (aX I q (by simp))
  |_=>exact absurd (show false=true from hs) ij
 |bl i=>
  cases rx
  cases y with
  |aB=>cases ry;exact PySem.EqNone.ne_bool_none (aX I q (by simp))
  |bl j=>cases ry;exact ne_bool (aX I q (congrArg not zj))
  |str j=>obtain ⟨t',rfl⟩:=ry;exact PySem.EqMixed.ne_bool_str (aX I q (by simp))
  |_=>exact absurd (show false=true from hs) ij
 |int i=>
  obtain ⟨t,rfl⟩:=rx
  cases y with
  |aB=>cases ry;exact PySem.EqNone.ne_int_none (aX I q (by simp))
  |int j=>obtain ⟨t',rfl⟩:=ry;exact ne_int (aX I q (congrArg not wq))
  |str j=>obtain ⟨t',rfl⟩:=ry;exact PySem.EqMixed.ne_int_str (aX I q (by simp))
  |_=>exact absurd (show false=true from hs) ij
 |str i=>
  obtain ⟨t,rfl⟩:=rx
  cases y with
  |aB=>cases ry;exact PySem.EqNone.ne_str_none (aX I q (by simp))
  |bl j=>cases ry;exact PySem.EqMixed.ne_str_bool (aX I q (by simp))
  |int j=>obtain ⟨t',rfl⟩:=ry;exact PySem.EqMixed.ne_str_int (aX I q (by simp))
  |str j=>obtain ⟨t',rfl⟩:=ry;exact ne_str (aX I q (congrArg not wt))
  |_=>exact absurd (show false=true from hs) ij
 |i7 i=>
  obtain ⟨t,rfl⟩:=rx
  cases y with
  |i7 j=>obtain ⟨t',rfl⟩:=ry;exact PySem.W.ne_bytes (aX I q (congrArg not wu))
  |_=>exact absurd (show false=true from hs) ij
 |_=>cases y <;> exact absurd (show false=true from hs) ij
theorem Lw:OpR X (compareOp .Lt) (qY fun i j=>.bl (decide (i<j))):=B6 fun _ _ _ _ _ _ _ q=>lt_int q
theorem Lx:OpR X (compareOp .LtE) (qY fun i j=>.bl (decide (i<=j))):=B6 fun _ _ _ _ _ _ _ q=>le_int q
theorem Ly:OpR X (compareOp .Gt) (qY fun i j=>.bl (decide (j<i))):=B6 fun _ _ _ _ _ _ _ q=>gt_int q
theorem zk:OpR X (compareOp .In) (fun x y H Q=>∃i j,x=.str i/\y=.str j/\Q (.bl (!(Fk j i 0 j.length 1).isEmpty)) H) :=by
 intro pins s σ H x y v u Q I rx ry h
 obtain ⟨i,j,rfl,rfl,q⟩:=h
 obtain ⟨t,rfl⟩:=rx
 obtain ⟨t',rfl⟩:=ry
 exact in_str (aX I q rfl)
theorem HB:OpR X (compareOp .Is) (fun x y H Q=>y=.aB/\Q (.bl (decide (x=.aB))) H) :=by
 intro pins s σ H x y v u Q I rx ry h
 obtain ⟨rfl,q⟩:=h
 cases ry
 refine is_none_gen (aX I q ?_)
 cases x <;> first
  |(cases rx;rfl)
  |(obtain ⟨t,rfl⟩:=rx;rfl)
theorem Fi:OpR X (compareOp .IsNot) (fun x y H Q=>y=.aB/\Q (.bl (!decide (x=.aB))) H) :=by
 intro pins s σ H x y v u Q I rx ry h
 obtain ⟨rfl,q⟩:=h
 cases ry
 refine isnot_none_gen (aX I q ?_)
 cases x <;> first
  |(cases rx;rfl)
  |(obtain ⟨t,rfl⟩:=rx;rfl)
theorem bB (b:ci) {op:Re} (h:op≠.In :=by decide) (h2:op≠.NotIn :=by decide):behindInMarks op b=false :=by
 have e1:(op==Re.In)=false :=by cases op <;> first|rfl|exact absurd rfl h
 have e2:(op==Re.NotIn)=false :=by cases op <;> first|rfl|exact absurd rfl h2
 cases b <;> simp [behindInMarks,e1,e2]
theorem Fj {op:Re} {r:R2} (ho:OpR X (compareOp op) r) (ha:PE X a ta) (hb:PE X b tb) (hm:behindInMarks op b=false):PE X (.Compare a [op] [b] pos) (zh r ta tb) :=by
 refine ⟨?_⟩
 intro pins s σ H Q I h
 exact wpAny_Compare1 (B5 ha hb I h fun v u s2 x y H2 I2 rx ry q=>ho pins s2 σ H2 x y v u Q I2 rx ry q) hm
def xB (t:TE):TT:=fun σ H Q=>t σ H fun x H'=>∃k,x=.bl k/\Q k H'
theorem Fl {op:Re} {r:R2} (ho:OpR X (compareOp op) r) (ha:PE X a ta) (hb:PE X b tb) (hm:behindInMarks op b=false):PT X (.Compare a [op] [b] pos) (xB (zh r ta tb)) :=by
 refine ⟨?_⟩
 intro pins s σ H Q I h
 refine wpAny_isTrue_Compare1 (thn (ha pins s σ H _ I h) fun v s1 ⟨x,H1,I1,r1,q1⟩=>thn (hb pins s1 σ H1 _ I1 q1) fun u s2 ⟨y,H2,I2,r2,q2⟩=>
  thn (ho pins s2 σ H2 x y v u _ I2 r1 r2 q2) fun c s3 ⟨z,H3,I3,r3,k,e,q3⟩=>?_) hm
 subst e
 cases r3
 exact zn ⟨H3,I3,q3⟩
def tJ (r r':R2) (ta tb tc:TE):TE:=fun σ H Q=>ta σ H fun x H1=>tb σ H1 fun y H2=>r x y H2 fun z H3=>∃k,z=.bl k /\
 (if k=true then tc σ H3 fun w' H4=>r' y w' H4 Q else Q (.bl false) H3)
theorem B8 {op jb:Re} {r r':R2} (ho:OpR X (compareOp op) r) (gL:OpR X (compareOp jb) r') (ha:PE X a ta) (hb:PE X b tb) (hc:PE X c tc)
  (hm:lastMarks [op,jb] [b,c]=false :=by with_unfolding_all rfl):PE X (.Compare a [op,jb] [b,c] pos) (tJ r r' ta tb tc) :=by
 refine ⟨?_⟩
 intro pins s σ H Q I h
 refine Compare_chain (thn (ha pins s σ H _ I h) fun v s1 ⟨x,H1,I1,r1,q1⟩=>chain_link (thn (hb pins s1 σ H1 _ I1 q1) fun u s2 ⟨y,H2,I2,r2,q2⟩=>
  thn (ho pins s2 σ H2 x y v u _ I2 r1 r2 q2) fun d s3 ⟨z,H3,I3,r3,k,e,q3⟩=>?_)) hm
 subst e
 cases r3
 refine zn ?_
 cases k with
 |false=>exact ite_ff ⟨.bl false,H3,I3,rfl,q3⟩
 |true=>exact ite_tt (chain_last (thn (hc pins s3 σ H3 _ I3 q3) fun w' s4 ⟨z',H4,I4,r4,q4⟩=>gL pins s4 σ H4 y z' u w' Q I4 r2 r4 q4))
theorem B9 {op jb:Re} {r r':R2} (ho:OpR X (compareOp op) r) (gL:OpR X (compareOp jb) r') (ha:PE X a ta) (hb:PE X b tb) (hc:PE X c tc)
  (hm:lastMarks [op,jb] [b,c]=false :=by with_unfolding_all rfl):PT X (.Compare a [op,jb] [b,c] pos) (xB (tJ r r' ta tb tc)) :=by
 refine ⟨?_⟩
 intro pins s σ H Q I h
 refine isTrue_chain (thn (ha pins s σ H _ I h) fun v s1 ⟨x,H1,I1,r1,q1⟩=>test_link (thn (hb pins s1 σ H1 _ I1 q1) fun u s2 ⟨y,H2,I2,r2,q2⟩=>
  thn (ho pins s2 σ H2 x y v u _ I2 r1 r2 q2) fun d s3 ⟨z,H3,I3,r3,k,e,q3⟩=>?_)) hm
 subst e
 cases r3
 refine zn ?_
 cases k with
 |false=>
  obtain ⟨k',e',q'⟩:=q3
  cases e'
  exact ite_ff ⟨H3,I3,q'⟩
 |true=>
  refine ite_tt (test_last (thn (hc pins s3 σ H3 _ I3 q3) fun w' s4 ⟨z',H4,I4,r4,q4⟩=>thn (gL pins s4 σ H4 y z' u w' _ I4 r2 r4 q4) fun d' s5 ⟨z2,H5,I5,r5,k2,e2,q5⟩=>?_))
  subst e2
  cases r5
  exact zn ⟨H5,I5,q5⟩
def Ca (K:ar) (x:V) (H:Hp) (k:Bool):Prop:=
 match x with
 | .aB=>k=false
 | .bl b=>k=b
 | .int i=>k=(i != 0)
 | .str y=>y.length<=sizeLine/\k=((y.length:Int) != 0)
 | .i7 y=>y.size<=sizeLine/\k=((y.size:Int) != 0)
 | .ref p=>(∃xs,bY K H p xs/\k = !xs.isEmpty)\/(∃xs,dh K H p xs/\k = !xs.isEmpty)\/∃aj,H p=some (.dK aj)/\k = !aj.isEmpty
 |_=>False
theorem xC {κ:Type} {aj:List (κ×V)} {vs:List (κ×ag)} (r:KV aj vs):(!vs.isEmpty) = !aj.isEmpty :=by
 cases r <;> rfl
theorem o6 {xs:List V} {its:List ag} (r:Vals xs its):(!its.toArray.isEmpty) = !xs.isEmpty :=by
 cases r <;> simp
theorem ki:(sizeLine:Nat)<2 ^ 63 :=by rw [RS];decide
theorem HC:OA X (fun x H Q=>∃k,Ca X.K x H k/\Q k H) :=by
 intro pins s σ H x v Q I rx h
 obtain ⟨k,e,q⟩:=h
 have hl:=ki
 have hs:sizeLine=16777216:=RS
 cases x with
 |aB=>
  cases rx
  have e':k=false:=e
  subst e'
  exact truthy_none ⟨H,I,q⟩
 |bl b=>
  cases rx
  have e':k=b:=e
  subst e'
  exact zn ⟨H,I,q⟩
 |int i=>
  obtain ⟨t,rfl⟩:=rx
  have e':k=(i != 0):=e
  subst e'
  exact PySem.P.truthy_int ⟨H,I,q⟩
 |str y=>
  obtain ⟨t,rfl⟩:=rx
  obtain ⟨hy,e'⟩:y.length<=sizeLine/\k=((y.length:Int) != 0):=e
  subst e'
  exact PySem.P.truthy_str (by omega) ⟨H,I.tok _,q⟩
 |i7 y=>
  obtain ⟨t,rfl⟩:=rx
  obtain ⟨hy,e'⟩:y.size<=sizeLine/\k=((y.size:Int) != 0):=e
  subst e'
  exact PySem.W.truthy_bytes (by omega) ⟨H,I.tok _,q⟩
 |ref p=>
  cases rx
  have e':(∃xs,bY X.K H p xs/\k = !xs.isEmpty)\/(∃xs,dh X.K H p xs/\k = !xs.isEmpty)\/∃aj,H p=some (.dK aj)/\k = !aj.isEmpty:=e
  rcases e' with ⟨xs,hx,e'⟩|⟨xs,hx,e'⟩|⟨aj,hx,e'⟩
  ·subst e'
   obtain ⟨its,r,pl,hz⟩:=I.list hx
   have hlen:=r.length
   exact wpAny_truthy_list pl.isList (by simp only [jp];omega) ⟨H,I.tok _,by rw [o6 r];exact q⟩
  ·subst e'
   obtain ⟨its,r,pl,hz⟩:=I.tuple hx
   have hlen:=r.length
   exact truthy_tuple pl (by simp only [jp];omega) ⟨H,I.tok _,by rw [o6 r];exact q⟩
  ·subst e'
   obtain ⟨hz,hS,vs,r,m⟩:aj.length<=sizeLine/\(p==sysModules)=false/\∃vs,KV aj vs/\s.heap.DictOf (bq X.prog X.w) p vs:=I.hok p _ hx
   have hlen:aj.length=vs.length:=RI r
   exact wpAny_truthy_dict hS m (by omega) ⟨H,I.tok _,by rw [xC r];exact q⟩
 |_=>exact (show False from e).elim
theorem Cb (ha:PE X a ta) (he:∀whole,isTrue a X.env whole=(do let v <- whole;standAt a.pos;holding [v] (truthy v))) :
  PT X a (fun σ H Q=>ta σ H fun x H'=>∃k,Ca X.K x H' k/\Q k H') :=by
 refine ⟨?_⟩
 intro pins s σ H Q I h
 exact isTrue_plain (thn (ha pins s σ H _ I h) fun v s1 ⟨x,H1,I1,r1,q1⟩=>HC pins s1 σ H1 x v Q I1 r1 q1) (he _)
theorem xD:OpR X (binaryOp .Add) (fun x y H Q=>∃i j,x=.str i/\y=.str j/\i.length+j.length<=sizeLine/\Q (.str (i++j)) H) :=by
 intro pins s σ H x y v u Q I rx ry h
 obtain ⟨i,j,rfl,rfl,hz,q⟩:=h
 obtain ⟨t,rfl⟩:=rx
 obtain ⟨t',rfl⟩:=ry
 exact add_str (fun t' tk=>⟨.str (i++j),H,I.tok _,⟨_,rfl⟩,q⟩) hz
theorem vals1 {x:V} {us:List ag} (r:Vals [x] us):∃u,us=[u]/\RelV x u :=by
 cases r with
 |cons r1 r2=>cases r2;exact ⟨_,rfl,r1⟩
theorem vals2 {x y:V} {us:List ag} (r:Vals [x,y] us):∃u w',us=[u,w']/\RelV x u/\RelV y w':=by
 cases r with
 |cons r1 r2=>
  cases r2 with
  |cons r3 r4=>cases r4;exact ⟨_,_,rfl,r1,r3⟩
theorem Cd:dA X (.builtin "abs") (fun xs H Q=>∃i,xs=[.int i]/\Q (.int (if i<0 then -i else i)) H) :=by
 intro pins s σ H xs us Q I r h
 obtain ⟨i,rfl,q⟩:=h
 obtain ⟨u,rfl,t,rfl⟩:=vals1 r
 exact call_abs_int fun u tk=>⟨.int (if i<0 then -i else i),H,I.tok _,⟨_,rfl⟩,q⟩
theorem zl (hc:X.calm=true):dA X (.builtin "max") (fun xs H Q=>∃i j,xs=[.int i,.int j]/\Q (.int (if j > i then j else i)) H) :=by
 intro pins s σ H xs us Q I r h
 obtain ⟨i,j,rfl,q⟩:=h
 obtain ⟨u,w',rfl,⟨t,rfl⟩,⟨t',rfl⟩⟩:=vals2 r
 refine max_two_ints (I.ok.hd hc) fun h' tk k=>⟨_,H,I.kept k,?_,q⟩
 by_cases hj:j > i
 ·rw [if_pos hj,if_pos hj];exact ⟨_,rfl⟩
 ·rw [if_neg hj,if_neg hj];exact ⟨_,rfl⟩
theorem zm (hc:X.calm=true):dA X (.builtin "min") (fun xs H Q=>∃i j,xs=[.int i,.int j]/\Q (.int (if j<i then j else i)) H) :=by
 intro pins s σ H xs us Q I r h
 obtain ⟨i,j,rfl,q⟩:=h
 obtain ⟨u,w',rfl,⟨t,rfl⟩,⟨t',rfl⟩⟩:=vals2 r
 refine min_two_ints (I.ok.hd hc) fun h' tk k=>⟨_,H,I.kept k,?_,q⟩
 by_cases hj:j<i
 ·rw [if_pos hj,if_pos hj];exact ⟨_,rfl⟩
 ·rw [if_neg hj,if_neg hj];exact ⟨_,rfl⟩
def HD (K:ar) (x:V) (H:Hp) (n:Nat):Prop:=
 match x with
 | .str y=>y.length<=sizeLine/\n=y.length
 | .i7 y=>y.size<=sizeLine/\n=y.size
 | .ref p=>(∃xs,bY K H p xs/\n=xs.length)\/∃xs,dh K H p xs/\n=xs.length
 |_=>False
theorem Ce:dA X (.builtin "len") (fun xs H Q=>∃x n,xs=[x]/\HD X.K x H n/\Q (.int n) H) :=by
 intro pins s σ H xs us Q I r h
 obtain ⟨x,n,rfl,e,q⟩:=h
 obtain ⟨u,rfl,rx⟩:=vals1 r
 have hl:=ki
 have hs:sizeLine=16777216:=RS
 cases x with
 |str y=>
  obtain ⟨t,rfl⟩:=rx
  obtain ⟨hy,e'⟩:y.length<=sizeLine/\n=y.length:=e
  subst e'
  exact len_str (by omega) ⟨.int _,H,I.tok _,⟨_,rfl⟩,q⟩
 |i7 y=>
  obtain ⟨t,rfl⟩:=rx
  obtain ⟨hy,e'⟩:y.size<=sizeLine/\n=y.size:=e
  subst e'
  exact PySem.W.len_bytes (by omega) ⟨.int _,H,I.tok _,⟨_,rfl⟩,q⟩
 |ref p=>
  cases rx
  have e':(∃xs,bY X.K H p xs/\n=xs.length)\/∃xs,dh X.K H p xs/\n=xs.length:=e
  rcases e' with ⟨xs,hx,e'⟩|⟨xs,hx,e'⟩
  ·subst e'
   obtain ⟨its,r',pl,hz⟩:=I.list hx
   have hlen:=r'.length
   exact Calls.call_len_list pl.isList (by simp only [jp];omega) ⟨.int xs.length,H,I.tok _,⟨_,by simp only [jp];rw [hlen]⟩,q⟩
  ·subst e'
   obtain ⟨its,r',pl,hz⟩:=I.tuple hx
   have hlen:=r'.length
   exact len_tuple pl (by simp only [jp];omega) ⟨.int xs.length,H,I.tok _,⟨_,by simp only [jp];rw [hlen]⟩,q⟩
 |_=>exact (show False from e).elim
end
structure Cg (h:db) (x dx C:ac) (mA:ba->Option ag):Prop where
 obj:h.get? x=some (Ut C dx)
 ns:h.Ns1 dx mA
 ne:dx≠x
theorem zo {h:db} {dx:ac} {mA:ba->Option ag} (n:h.Ns1 dx mA):∃od,h.get? dx=some od/\∀name,PySem.W.lookIn name od=some (mA name) :=by
 obtain ⟨o,es,ep,ho,hd,hk,_,hm⟩:=n
 refine ⟨o,ho,fun name=>?_⟩
 have e:=hm name
 unfold nsFind findBy at e
 rw [<- Array.find?_toList] at e
 unfold PySem.W.lookIn
 rw [hd]
 dsimp only
 split
 ·rename_i y q
  rw [q] at e
  exact congrArg some e
 ·rename_i q
  rw [q] at e
  have a:es.toList.any (·.refKey)=false :=by
   rw [List.any_eq_false]
   intro y hy
   obtain ⟨z,t,OB⟩:=hk y (Array.mem_toList_iff.mp hy)
   simp [PP.refKey,OB]
  have a':¬ es.toList.any (·.refKey)=true :=by rw [a];exact ij
  rw [if_neg a']
  exact congrArg some e
theorem Cg.look {h:db} {x dx C:ac} {mA:ba->Option ag} (I:Cg h x dx C mA):∃od,PySem.W.InstAt h x (Ut C dx) C (some od)/\∀name,PySem.W.lookIn name od=some (mA name):=
 let ⟨od,ho,hl⟩:=zo I.ns
 ⟨od,⟨I.obj,rfl,rfl,ho⟩,hl⟩
theorem gQ.some_of {v:V} {o:Option ag} (r:gQ (some v) o):∃u,o=some u/\RelV v u :=by
 cases o with
 |none=>exact (show False from r).elim
 |some u=>exact ⟨u,rfl,r⟩
section
variable {P:cr} {w:gc} {H H':Hp} {h h':db} {a C dx:ac} {fs PZ:List (ba×V)}
theorem Fm (hok:cQ P w H h) (e:H a=some (.ins C dx fs)):∃mA,Cg h a dx C mA/\(∀f,gQ (fs.lookup f) (mA f))/\PySem.Within mA (fs.map (·.1))/\fs.length<=1000/\H dx=some (.own a) :=by
 obtain ⟨d,z,ne,ob,mA,n,r,q⟩:=(show ObjOk P w H h a (.ins C dx fs) from hok a _ e)
 exact ⟨mA,⟨ob,n,ne⟩,r,q,z,d⟩
end
structure HE (K:ar) (C:ac):Prop where
 pg:PySem.W.plainGet K C ba.empty=true
 hd:PySem.W.hasDictIn K C=true
 po:PySem.W.plainOver K C=true
 sa:PySem.W.findIn K (.ref C) "__setattr__" = some (some (.builtin "object.__setattr__"))
theorem HE.get {K:ar} {C:ac} (c:HE K C) (f:ba):PySem.W.plainGet K C f=true:=c.pg
section
variable {X:Cx} {pins:List (ac×ii)} {σ:St} {H:Hp} {s:ap} {A:l9} {E:ag->ap->Prop} {Q:ag->ap->Prop} {c:ag} {b:Bool}
inductive fI (K:ar) (H:Hp):V->ag->Prop where
 |aB:fI K H .aB (.type "NoneType")
 |bl (x:Bool):fI K H (.bl x) (.type "bool")
 |int (i:Int):fI K H (.int i) (.type "int")
 |str (x:ba):fI K H (.str x) (.type "str")
 |wg (x:UInt64):fI K H (.wg x) (.type "float")
 |lst {a:ac} {xs:List V} (e:H a=some (.lst xs)):fI K H (.ref a) (.type "list")
 |bQ {a:ac} {o:ii} {xs:List V} (e:H a=some (.bQ o (.lst xs))):fI K H (.ref a) (.type "list")
 |tup {a:ac} {xs:List V} (e:H a=some (.tup xs)):fI K H (.ref a) (.type "tuple")
 |dK {a:ac} {aj:List (Key×V)} (e:H a=some (.dK aj)):fI K H (.ref a) (.type "dict")
 |dT {a:ac} {aj:List (List Key×V)} (e:H a=some (.dT aj)):fI K H (.ref a) (.type "dict")
 |ins {a C dx:ac} {fs:List (ba×V)} (e:H a=some (.ins C dx fs)) (cl:HE K C) (ha:PySem.W.findIn K (.ref C) "__class__" = some (some (.builtin "object.__class__")))
   (hn:PySem.W.specialIn K (.builtin "object.__class__") "__get__" = some (some (.builtin "getset_descriptor.__get__"))) (MX:PySem.W.takesIn K (.builtin "object.__class__")=some true)
   (hm:PySem.W.mroIn K C (.type "object")=some true):fI K H (.ref a) (.ref C)
theorem zp {x:V} {u t:ag} (I:Inv X pins σ H s) (rx:RelV x u) (ty:fI X.K H x t) (e:TJ X.K t c=some b) (h:∀tk,Q (.bool b) {s with toks:=tk}) :
  wpAny (model X.prog X.w) A (call (.builtin "isinstance") [u,c]) Q E s :=by
 cases ty with
 |aB=>cases (show u=AS from rx);exact AE PySem.W.kitx_none I.f9 EM e (fun z=>nomatch z) h
 |bl y=>cases (show u=UG y from rx);exact AE PySem.W.kitx_bool I.f9 EM e (fun z=>nomatch z) h
 |int i=>obtain ⟨t,q⟩:=(show ∃t,u=Us i t from rx);cases q;exact AE PySem.W.kitx_int I.f9 EM e (fun z=>nomatch z) h
 |str y=>obtain ⟨t,q⟩:=(show ∃t,u=Td y t from rx);cases q;exact AE PySem.W.kitx_str I.f9 EM e (fun z=>nomatch z) h
 |wg y=>obtain ⟨t,q⟩:=(show ∃t,u=ag.float y t from rx);cases q;exact AE PySem.W.kitx_float I.f9 EM e (fun z=>nomatch z) h
 | @lst a xs ea=>
  cases (show u=l5 a from rx)
  obtain ⟨_,_,n,_,h1⟩:=(show ObjOk X.prog X.w H s.heap a (.lst xs) from I.hok a _ ea)
  exact AE PySem.W.kitx_list I.f9 ⟨_,h1,rfl⟩ e (fun z=>nomatch z) h
 | @bQ a ob xs ea=>
  cases (show u=l5 a from rx)
  obtain ⟨_,_,_,n,_,h1⟩:=(show ObjOk X.prog X.w H s.heap a (.bQ ob (.lst xs)) from I.hok a _ ea)
  exact AE PySem.W.kitx_list I.f9 ⟨_,h1,rfl⟩ e (fun z=>nomatch z) h
 | @tup a xs ea=>
  cases (show u=l5 a from rx)
  obtain ⟨_,_,_,p⟩:=(show ObjOk X.prog X.w H s.heap a (.tup xs) from I.hok a _ ea)
  obtain ⟨o,h1,h2,_⟩:=p
  exact AE PySem.W.kitx_tuple I.f9 ⟨o,h1,h2⟩ e (fun z=>nomatch z) h
 | @dK a aj ea=>
  cases (show u=l5 a from rx)
  obtain ⟨_,_,vs,_,p⟩:=(show ObjOk X.prog X.w H s.heap a (.dK aj) from I.hok a _ ea)
  obtain ⟨o,es,ep,h1,h2,_⟩:=p
  exact AE PySem.W.kitx_dict I.f9 ⟨o,h1,h2.1⟩ e (fun z=>nomatch z) h
 | @dT a aj ea=>
  cases (show u=l5 a from rx)
  obtain ⟨_,_,xs,_,o,es,ep,h1,h2,_⟩:=(show ObjOk X.prog X.w H s.heap a (.dT aj) from I.hok a _ ea)
  exact AE PySem.W.kitx_dict I.f9 ⟨o,h1,h2.1⟩ e (fun z=>nomatch z) h
 | @ins a C dx fs ea cl ha hn MX hm=>
  cases (show u=l5 a from rx)
  obtain ⟨mA,O,_⟩:=Fm I.hok ea
  obtain ⟨od,J,_⟩:=O.look
  exact AE (PySem.W.kitx_own (cl.get _) cl.hd ha hn MX hm) I.f9 J e (fun z=>nomatch z) h
end
structure bG (k:Nat) (A:l9):Prop where
 hd:A.handled=none
 dp:A.depth+3 * k+5<recursionLimit
 un:A.units+16 * k+200<cLine
theorem bG.mono {j k:Nat} {A:l9} (r:bG k A) (h:j<=k):bG j A:=⟨r.hd,by have:=r.dp;omega,by have:=r.un;omega⟩
theorem bG.deeper {k:Nat} {A:l9} (r:bG (k+1) A) (env:Go):bG k (A.deeper env):=
 ⟨r.hd,by have:=r.dp;show A.depth+1+3 * k+5<_;omega,by have:=r.un;show A.units+3+16 * k+200<_;omega⟩
theorem bG.depth {k:Nat} {A:l9} (r:bG k A):A.depth<recursionLimit :=by have:=r.dp;omega
theorem bG.units {k:Nat} {A:l9} (r:bG k A):A.units+64<cLine :=by have:=r.un;omega
def OC:TA:=fun _ H Q=>Q [] H
def Lz (ta:TE) (tr:TA):TA:=fun σ H Q=>ta σ H fun x H1=>tr σ H1 fun xs H2=>Q (x::xs) H2
section
variable {X:Cx} {e:ci} {es:List ci} {te:TE} {t:TA} {pos:rf}
theorem HF:PA X [] OC:=⟨fun _ _ _ _ H Q I h=>Ll ⟨[],H,I,.nil,h⟩⟩
theorem nA (ha:PE X e te) (hr:PA X es t) (hs:starEach (e::es) X.env=(false,eval e X.env)::starEach es X.env :=by rfl):PA X (e::es) (Lz te t) :=by
 refine ⟨?_⟩
 intro pos pins s σ H Q I h
 rw [hs]
 show wpAny _ _ (spliced ((false,eval e X.env)::backTo pos (starEach es X.env))) _ _ s
 refine GT (thn (ha pins s σ H _ I h) fun u s1 ⟨x,H1,I1,r1,q1⟩=>?_)
 exact thn (hr pos pins s1 σ H1 _ I1 q1) fun us s2 ⟨xs,H2,I2,r2,q2⟩=>⟨x::xs,H2,I2,.cons r1 r2,q2⟩
def OD (t:TA):TE:=fun σ H Q=>t σ H fun xs H1=>xs.length<=sizeLine/\∀p,H1 p=none->Q (.ref p) (upd H1 p (.tup xs))
def OG (t:TA):TE:=fun σ H Q=>t σ H fun xs H1=>xs.length<=sizeLine/\∀p,H1 p=none->Q (.ref p) (upd H1 p (.lst xs))
theorem HG {x1} (h:PA X es t):PE X (.Tuple es x1 pos) (OD t) :=by
 refine ⟨?_⟩
 intro pins s σ H Q I hq
 refine wpAny_Tuple_spliced (thn (h pos pins s σ H _ I hq) fun us s1 ⟨xs,H1,I1,r,z,q⟩=>⟨by rw [<- r.length];exact z,?_⟩)
 have hf:H1 s1.heap.objs.size=none:=I1.hok.fresh (ce _)
 refine ⟨.ref s1.heap.objs.size,upd H1 s1.heap.objs.size (.tup xs),I1.laid (t':=s1.toks) (fun b u e=>bn _ e) (ce _) ?_,rfl,q _ hf⟩
 exact ⟨z,us,r,⟨_,ff _ rfl,rfl,_,rfl,rfl⟩⟩
theorem zq (h:PA X es t):PE X (.List es pos) (OG t) :=by
 refine ⟨?_⟩
 intro pins s σ H Q I hq
 refine wpAny_List_spliced (thn (h pos pins s σ H _ I hq) fun us s1 ⟨xs,H1,I1,r,z,q⟩=>⟨by rw [<- r.length];exact z,?_⟩)
 have hf:H1 s1.heap.objs.size=none:=I1.hok.fresh (ce _)
 refine ⟨.ref s1.heap.objs.size,upd H1 s1.heap.objs.size (.lst xs),I1.laid (t':=s1.toks) (fun b u e=>bn _ e) (ce _) ?_,rfl,q _ hf⟩
 exact ⟨z,us,0,r,ff _ rfl⟩
end
abbrev Sp:=List V->Hp->VK->XK->Prop
abbrev fQ:=List Go->Hp->ap->XK->ag->ap->Prop
structure qi (P:cr) (w:gc) (K:ar) (mg:ba->Option ag) (base:db) (A:l9) (outer:List Go) (s:ap) (H:Hp):Prop where
 frames:A.frames=some outer
 mod:Mod K mg base
 bs:∀b o,base.get? b=some o->s.heap.get? b=some o/\H b=none
 bsz:base.objs.size<=s.heap.objs.size
 funs:s.heap.FunFrames base outer
 frf:∀b∈eu outer,H b=none
 hok:cQ P w H s.heap
 bare:UD s.gens
def CE (outer:List Go) (P:cr) (w:gc) (H:Hp) (s:ap) (Q:VK) (u:ag) (s':ap):Prop:=
 ∃v H',s'.os=s.os/\Gn s.gens.size s'.gens/\Un (eu outer) [] H H' s.heap s'.heap/\cQ P w H' s'.heap/\RelV v u/\Q v H'
def CR (CX:fQ) (outer:List Go) (P:cr) (w:gc) (H:Hp) (s:ap) (Q:VK) (E:XK) (r:UL) (s':ap):Prop:=
 match r with
 | .ok (.ret u)=>CE outer P w H s Q u s'
 | .ok _=>False
 | .error e=>CX outer H s E e s'
structure FnOk (P:cr) (w:gc) (K:ar) (mg:ba->Option ag) (base:db) (CX:fQ) (k:Nat) (f:ac) (fd:im) (ps:List ba) (sp:Sp):Prop where
 len:∀vs H Q E,sp vs H Q E->vs.length=ps.length
 run:∀(A:l9) (outer:List Go) (s:ap) (H:Hp) (args:Args) (us:List ag) (vs:List V) (Q:VK) (E:XK),bG k A->qi P w K mg base A outer s H->Uf s fd args (ps.zip us)->Vals vs us->sp vs H Q E->
  codeAny (model P w) A (.call (.ref f) args) (CR CX outer P w H s Q E) s
theorem FnOk.mono {P:cr} {w:gc} {K:ar} {mg:ba->Option ag} {base:db} {CX:fQ} {j k:Nat} {f:ac} {fd:im} {ps:List ba} {sp:Sp} (F:FnOk P w K mg base CX j f fd ps sp) (h:j<=k) :
  FnOk P w K mg base CX k f fd ps sp:=⟨F.len,fun A outer s H args us vs Q E hr=>F.run A outer s H args us vs Q E (hr.mono h)⟩
theorem FnOk.imp {P:cr} {w:gc} {K:ar} {mg:ba->Option ag} {base:db} {CX:fQ} {k:Nat} {f:ac} {fd:im} {ps:List ba} {sp MY:Sp} (F:FnOk P w K mg base CX k f fd ps sp)
  (h:∀vs H Q E,MY vs H Q E->sp vs H Q E):FnOk P w K mg base CX k f fd ps MY:=
 ⟨fun vs H Q E q=>F.len vs H Q E (h _ _ _ _ q),fun A outer s H args us vs Q E hr he hb hv hs=>F.run A outer s H args us vs Q E hr he hb hv (h _ _ _ _ hs)⟩
section
variable {X:Cx} {pins:List (ac×ii)} {σ:St} {H:Hp} {s s':ap}
theorem Inv.OH (I:Inv X pins σ H s):qi X.prog X.w X.K X.mg X.base X.A X.stack s H:=
 ⟨I.ok.frames,I.ok.mod,I.bs,sK I.ok.bsz I.sz,I.stack,I.nv,I.hok,I.bare.1⟩
theorem Inv.after {Q:VK} {u:ag} (I:Inv X pins σ H s) (h:CE X.stack X.prog X.w H s Q u s'):EP X pins σ Q u s':=by
 obtain ⟨v,H',os,bare,un,hok,r,q⟩:=h
 obtain ⟨hh,g,d,t,MZ⟩:=s'
 obtain rfl:MZ=s.os:=os
 exact ⟨v,H',I.call (h':=hh) (g':=g) (d':=d) (t':=t) (ch:=[]) un hok bare (fun b z=>absurd z (by simp)),r,q⟩
end
def D4 (sp:Sp) (fo:List V) (E:XK) (t:TA):TE:=fun σ H Q=>t σ H fun vs H1=>sp (vs++fo) H1 Q E
def Binds (K:ar) (fd:im) (ps:List ba) (ds:List ag):Prop:=
 ∀(s:ap) (us:List ag),K.In s.heap->(us++ds).length=ps.length->Uf s fd ⟨us,[]⟩ (ps.zip (us++ds))
theorem Binds.all {K:ar} {fd:im} {ps:List ba} (h:∀us:List ag,us.length=ps.length->bindArgs fd ⟨us,[]⟩=pure (ps.zip us)):Binds K fd ps []:=fun s us _ hl=>by
 rw [Co] at hl ⊢
 exact .of_eq (h us hl)
def Passes (CX:fQ) (X:Cx) (E:XK):Prop:=∀(pins:List (ac×ii)) (σ:St) (H:Hp) (s:ap) (e:ag) (s':ap),Inv X pins σ H s->CX X.stack H s E e s'->X.xe e s'
section
variable {X:Cx} {CX:fQ} {k:Nat} {f C:ac} {fd:im} {ps:List ba} {sp:Sp} {fo:List V} {ds:List ag} {E:XK} {x m:ba} {p pos apos:rf} {e o:ci} {es:List ci} {ta:TE} {t:TA}
theorem zt {pins:List (ac×ii)} {σ:St} {H:Hp} {s:ap} {Q:VK} {us:List ag} {vs:List V} (F:FnOk X.prog X.w X.K X.mg X.base CX k f fd ps sp) (hr:bG k X.A) (hb:Binds X.K fd ps ds) (hd:Vals fo ds) (hx:Passes CX X E)
  (I:Inv X pins σ H s) (r:Vals vs us) (h:sp (vs++fo) H Q E):wpAny (model X.prog X.w) X.A (call (.ref f) us) (EP X pins σ Q) X.xe s :=by
 have r2:Vals (vs++fo) (us++ds):=r.append hd
 have hl:(us++ds).length=ps.length :=by rw [<- r2.length];exact F.len _ _ _ _ h
 refine wpAny_call (Uh (F.run X.A X.stack s H ⟨us,[]⟩ (us++ds) (vs++fo) Q E hr I.OH (hb s us I.f9 hl) r2 h) fun r s' hq=>?_)
 cases r with
 |error e=>exact hx pins σ H s e s' I hq
 |ok fl=>
  cases fl with
  |ret u=>exact I.after hq
  |next=>exact BY hq
  |brk=>exact BY hq
  |cont=>exact BY hq
theorem Fn (F:FnOk X.prog X.w X.K X.mg X.base CX k f fd ps sp) (hr:bG k X.A) (hg:Gl X x) (hm:X.mg x=some (.ref f)) (hk:AC X.K (.ref f)=true) (hb:Binds X.K fd ps ds) (hd:Vals fo ds) (hx:Passes CX X E)
  (ha:PA X (e::es) t) (eO:(x==("__debug__" : ba))=false :=by decide) (he:starEach (e::es) X.env=(false,eval e X.env)::starEach es X.env :=by rfl) (cZ:(backTo pos (starEach es X.env)).any (·.1)=false :=by rfl) :
  PE X (.Call (.Name x p) (e::es) [] pos) (D4 sp fo E t) :=by
 refine ⟨?_⟩
 intro pins s σ H Q I h
 refine AM (nz I hg hm ?_ eO)
 refine PySem.W.callWith_K (h₀:=X.base) I.ok.mod.kin hk (thn (ha pos pins s σ H _ I h) fun us s1 ⟨vs,H1,I1,r,q⟩=>⟨I1.f9,?_⟩) he cZ
 exact zt F hr hb hd hx I1 r q
end
structure aM (N P:List ba) (sc:uu):Prop where
 kind:sc.kind=.function
 co:sc.isCoroutine=false
 gen:sc.isGenerator=false
 nd:N.Nodup
 pre:N.take P.length=P
 par:∀x∈P,sc.names.lookup x=some .local\/sc.names.lookup x=some .cell
 nofree:∀y∈sc.names,y.2≠.free
theorem qZ {kindOf:ba->Option OE} {x:ba}:∀{binds:List (ba×ag)} {m:ba->Option ag},(∀v,(x,v) ∉ binds)->bindL kindOf binds m x=m x
 | [],_,_=>rfl
 |(n,v)::r,m,h=>by
          unfold bindL
          rw [qZ fun w hw=>h w (hX _ hw)]
          split
          ·have:x≠n :=by rintro rfl;exact h v i0
           simp [this]
          ·rfl
theorem q0 {kindOf:ba->Option OE} {x:ba}:∀{binds:List (ba×ag)} {m:ba->Option ag},(∀v,(x,v) ∉ binds)->bindC kindOf binds m x=m x
 | [],_,_=>rfl
 |(n,v)::r,m,h=>by
          unfold bindC
          rw [q0 fun w hw=>h w (hX _ hw)]
          split
          ·rfl
          ·have:x≠n :=by rintro rfl;exact h v i0
           simp [this]
theorem q9 {kindOf:ba->Option OE} {x:ba} {v:ag}:∀{P:List ba} {vs:List ag} {i:Nat} {m:ba->Option ag},P.Nodup->P[i]?=some x->vs[i]?=some v->kindOf x=some .local->
  bindL kindOf (P.zip vs) m x=some v
 | [],_,_,_,_,h,_,_=>by simp at h
 |_::_,[],_,_,_,_,h,_=>by simp at h
 |p::P,w::vs,0,m,nd,h1,h2,hk=>by
          simp at h1 h2;subst h1;subst h2
          show bindL kindOf ((p,w)::P.zip vs) m p=_
          unfold bindL
          rw [qZ fun v hv=>(EN.mp nd).1 (NL hv).1,if_pos hk]
          simp
 |p::P,w::vs,i+1,m,nd,h1,h2,hk=>by
          show bindL kindOf ((p,w)::P.zip vs) m x=_
          unfold bindL
          exact q9 (i:=i) (EN.mp nd).2 (by simpa using h1) (by simpa using h2) hk
theorem ra {kindOf:ba->Option OE} {x:ba} {v:ag}:∀{P:List ba} {vs:List ag} {i:Nat} {m:ba->Option ag},P.Nodup->P[i]?=some x->vs[i]?=some v->kindOf x≠some .local->
  bindC kindOf (P.zip vs) m x=some v
 | [],_,_,_,_,h,_,_=>by simp at h
 |_::_,[],_,_,_,_,h,_=>by simp at h
 |p::P,w::vs,0,m,nd,h1,h2,hk=>by
          simp at h1 h2;subst h1;subst h2
          show bindC kindOf ((p,w)::P.zip vs) m p=_
          unfold bindC
          rw [q0 fun v hv=>(EN.mp nd).1 (NL hv).1,if_neg hk]
          simp
 |p::P,w::vs,i+1,m,nd,h1,h2,hk=>by
          show bindC kindOf ((p,w)::P.zip vs) m x=_
          unfold bindC
          exact ra (i:=i) (EN.mp nd).2 (by simpa using h1) (by simpa using h2) hk
def start (N:List ba) (vs:List V):St:=vs.map some++qr (N.length - vs.length) none
def fi (CX:fQ) (P:cr) (w:gc) (K:ar) (mg:ba->Option ag) (base:db) (N:List ba) (qual:ba) (scope:uu) (f:ac) (cd:ag) (A:l9) (outer:List Go) (s:ap) (H:Hp) (E:XK):Cx where
 prog:=P
 w:=w
 K:=K
 mg:=mg
 base:=base
 A:=A.deeper (envOfC qual scope s.heap.objs.size f cd)
 N:=N
 s₀:=s
 H₀:=H
 env:=envOfC qual scope s.heap.objs.size f cd
 outer:=outer
 stack:=envOfC qual scope s.heap.objs.size f cd::outer
 ex:=[]
 calm:=true
 fn:=fun _=>true
 pn:=[]
 xe:=fun e s'=>wpAny (model P w) (A.deeper (envOfC qual scope s.heap.objs.size f cd)) (leaving (envOfC qual scope s.heap.objs.size f cd) e) (fun _ bu=>CX outer H s E e bu) (fun e' bu=>CX outer H s E e' bu) s'
theorem tK {sc:uu} {n:Nat} {x:ba} (h:sc.names.lookup x=some .cell):∃c,(cellsFrom n sc.names []).lookup x=some c :=by
 have q:=PySem.W.cellsFrom_some sc.names n [] (.inl h)
 exact LS.mp q
theorem zu {CX:fQ} {P:cr} {w:gc} {K:ar} {mg:ba->Option ag} {base:db} {N ps:List ba} {qual:ba} {scope:uu} {f:ac} {cd:ag} {A:l9} {outer:List Go} {s s1:ap} {H:Hp} {E:XK} {us:List ag} {vs:List V}
  (S:aM N ps scope) (hd:A.handled=none) (e0:qi P w K mg base A outer s H) (hl:vs.length=ps.length) (r:Vals vs us)
  (x:InCallC s s.heap.objs.size (bindL (envOfC qual scope s.heap.objs.size f cd).kindOf (ps.zip us) fun _=>none) (cellsFrom (s.heap.objs.size+1) scope.names []) (bindC (envOfC qual scope s.heap.objs.size f cd).kindOf (ps.zip us) fun _=>none) s1) :
  Inv (fi CX P w K mg base N qual scope f cd A outer s H E) [] (start N vs) H s1 :=by
 have cZ:ps.length<=N.length :=by have:=congrArg List.length S.pre;rw [Ui] at this;omega
 obtain ⟨h1,tk,rfl,hk⟩:=x.done
 have HH:∀b:ac,b ∉ (fi CX P w K mg base N qual scope f cd A outer s H E).ex:=fun b z=>absurd (show b∈([]:List ac) from z) (by simp)
 refine ⟨⟨e0.mod,S.kind,rfl,rfl,ce _,fun y z c h1 h2=>?_,fun y hy=>?_,fun y c _ h=>?_,fun _=>hd,l9.frames_deeper e0.frames,.inr ⟨rfl,rfl⟩,fun b z=>absurd z (HH b),e0.bs,e0.bsz,fun b _ _=>HH b,fun b z=>absurd z (HH b),e0.funs,e0.frf⟩,
  rfl,⟨e0.bare,ce _⟩,Un.kept hk,⟨_,x.toInCall.ns,fun i y v h1 h2 h3=>?_⟩,fun y c h=>⟨_,x.cell y c h⟩,e0.hok.fresh (ce _),fun y c h=>?_,fun p hp=>absurd (show p∈([]:List (ac×ii)) from hp) (by simp),e0.hok.kept hk,?_⟩
 ·exact name_of_addr x.apart (u7 h1) (u7 h2)
 ·have hy:scope.names.lookup y=some .cell\/scope.names.lookup y=some .free:=hy
  rcases hy with hy|hy
  ·exact tK hy
  ·exact absurd rfl (S.nofree _ (u7 hy))
 ·exact Pc (x.above y c (u7 h))
 ·have hi:i<vs.length :=by
   unfold start at h2
   by_cases hi:i<vs.length
   ·exact hi
   ·rw [sB (by simpa using hi)] at h2
    rw [NJ] at h2
    split at h2 <;> cases h2
  have ha:vs[i]?=some v :=by
   unfold start at h2
   rw [l8 (by simpa using hi),br] at h2
   cases e:vs[i]? with
   |none=>rw [e] at h2;cases h2
   |some a=>rw [e] at h2;cases h2;rfl
  obtain ⟨u,hu,rv⟩:=r.get ha
  have hp:ps[i]?=some y :=by
   rw [<- S.pre,List.getElem?_take_of_lt (by omega)];exact h1
  have M6:ps.Nodup :=by rw [<- S.pre];exact S.nd.sublist (List.take_sublist _ _)
  refine ⟨u,rv,?_⟩
  rcases S.par y (c8 hp) with k|k
  ·exact .inl ⟨k,q9 M6 hp hu k⟩
  ·obtain ⟨c,e⟩:=tK (n:=s.heap.objs.size+1) k
   refine .inr ⟨.inl k,c,e,?_⟩
   have q:=x.cell y c e
   rw [ra M6 hp hu (by show scope.names.lookup y≠_;rw [k];decide)] at q
   exact q
 ·exact e0.hok.fresh (Pc (x.above y c (u7 h)))
 ·unfold start
  show _=N.length
  rw [tw,cb,Pe]
  omega
theorem xE {CX:fQ} {P:cr} {w:gc} {K:ar} {mg:ba->Option ag} {base:db} {k:Nat} {f:ac} {name qual:ba} {params:GS} {body:List mv} {scope:uu} {dV kV doc pm cK ct oc:ag} {an od:Option ac}
  {jL:Array (Option ag)} {N ps:List ba} {sp:Sp} (lk:K.lookup f=some ⟨oc,od,.func (wT name qual params body scope dV kV doc pm an cK ct),jL⟩) (dH:CS K cK qual=true) (S:aM N ps scope)
  (len:∀vs H Q E,sp vs H Q E->vs.length=ps.length)
  (kR:∀(A:l9) (outer:List Go) (s:ap) (H:Hp) (vs:List V) (Q:VK) (E:XK),bG k (A.deeper (envOfC qual scope s.heap.objs.size f cK))->sp vs H Q E->
   ∃t,fP (fi CX P w K mg base N qual scope f cK A outer s H E) body t/\t {nx:=fun _ H'=>Q .aB H',rt:=Q} (start N vs) H) :
  FnOk P w K mg base CX (k+1) f (wT name qual params body scope dV kV doc pm an cK ct) ps sp :=by
 refine ⟨len,fun A outer s H args us vs Q E hr e0 hb r jM=>?_⟩
 have hl:=len _ _ _ _ jM
 have KX:K.In s.heap:=e0.mod.kin.keeps fun b o e=>(e0.bs b o e).1
 have lim:s.heap.NoLimit:=e0.mod.nolimit.keeps fun b o e=>(e0.bs b o e).1
 have sR:∀y∈ps.zip us,scope.names.lookup y.1=some .local\/(scope.names.lookup y.1=some .cell/\((cellsFrom (s.heap.objs.size+1) scope.names []).lookup y.1).isSome=true):=fun ⟨n,v⟩ hy=>by
  rcases S.par n (NL hy).1 with q|q
  ·exact .inl q
  ·exact .inr ⟨q,PySem.W.cellsFrom_some _ _ _ (.inl q)⟩
 refine codeAny_call_function hr.depth (KX _ _ lk) rfl S.co S.gen rfl (PySem.W.codeRec_of KX dH) (hb _ _ _ _ ?_)
 refine wpAny_newFunctionEnv_cells S.kind sR fun env he s1 x=>?_
 subst he
 refine ⟨lim.keeps x.toInCall.keep,codeAny_func ?_⟩
 obtain ⟨t,ht,hq⟩:=kR A outer s H vs Q E (hr.deeper _) jM
 have I:Inv (fi CX P w K mg base N qual scope f cK A outer s H E) [] (start N vs) H s1:=zu S hr.hd e0 hl r x
 refine lw (ht [] s1 (start N vs) H _ I hq) (fun fl s' hs=>?_) fun e s' hs=>hs
 have fin:∀{aI:St} {H':Hp} {v:V} {u:ag},Inv (fi CX P w K mg base N qual scope f cK A outer s H E) [] aI H' s'->RelV v u->Q v H'->CE outer P w H s Q u s':=
  fun {aI H' v u} J rv q=>⟨v,H',J.os,J.bare,J.base,J.hok,rv,q⟩
 cases fl with
 |ret u=>
  obtain ⟨v,aI,H',J,rv,q⟩:=hs
  exact fin J rv q
 |next=>
  obtain ⟨aI,H',J,q⟩:=hs
  exact fin (v:=V.aB) (u:=AS) J rfl q
 |brk=>
  obtain ⟨_,_,_,q⟩:=hs
  exact BY q
 |cont=>
  obtain ⟨_,_,_,q⟩:=hs
  exact BY q
section
variable {X:Cx} {x:ba} {p pos:rf} {e:ci} {es:List ci} {t:TA} {id T:String} {r:List V->Hp->VK->Prop}
def HI (r:List V->Hp->VK->Prop) (t:TA):TE:=fun σ H Q=>t σ H fun vs H1=>r vs H1 Q
theorem Ci (hc:dA X (.builtin id) r) (hg:Gl X x) (hm:X.mg x=none) (hv:bootBuiltins x=some (.builtin id)) (ha:PA X (e::es) t) (hn:x ≠ "__name__" := by decide) (eO:(x==("__debug__" : ba))=false :=by decide)
  (he:starEach (e::es) X.env=(false,eval e X.env)::starEach es X.env :=by rfl) (cZ:(backTo pos (starEach es X.env)).any (·.1)=false :=by rfl):PE X (.Call (.Name x p) (e::es) [] pos) (HI r t) :=by
 refine ⟨?_⟩
 intro pins s σ H Q I h
 refine AM (gb I hg hm hv ?_ hn eO)
 exact PyProof.Rows.callWith_builtin1 (thn (ha pos pins s σ H _ I h) fun us s1 ⟨vs,H1,I1,r1,q1⟩=>hc pins s1 σ H1 vs us Q I1 r1 q1) he cZ
theorem zv (hc:dA X (.type T) r) (hg:Gl X x) (hm:X.mg x=none) (hv:bootBuiltins x=some (.type T)) (ha:PA X (e::es) t) (hn:x ≠ "__name__" := by decide) (eO:(x==("__debug__" : ba))=false :=by decide)
  (he:starEach (e::es) X.env=(false,eval e X.env)::starEach es X.env :=by rfl) (cZ:(backTo pos (starEach es X.env)).any (·.1)=false :=by rfl):PE X (.Call (.Name x p) (e::es) [] pos) (HI r t) :=by
 refine ⟨?_⟩
 intro pins s σ H Q I h
 refine AM (gb I hg hm hv ?_ hn eO)
 exact AL (thn (ha pos pins s σ H _ I h) fun us s1 ⟨vs,H1,I1,r1,q1⟩=>hc pins s1 σ H1 vs us Q I1 r1 q1) he cZ
end
end L2
namespace HT
open PySem PyProof.Rows
section
variable {prog:cr} {w:gc} {A:l9} {E:ag->ap->Prop} {s:ap}
def jc (n d:Nat):Option Int->Nat
 |none=>d
 |some v=>if v<0 then (v+(n:Int)).toNat else min v.toNat n
end
end HT
namespace L2
open PySem PySem.Spec PyProof.Rows
abbrev TO:=St->Hp->(Option Int->Hp->Prop)->Prop
def PO (X:Cx) (e:Option ci) (t:TO):Prop:=
 ∀(pins:List (ac×ii)) (s:ap) (σ:St) (H:Hp) (Q:Option Int->Hp->Prop),Inv X pins σ H s->t σ H Q->
  wpAny (model X.prog X.w) X.A (evalPart e X.env) (fun u s'=>∃o H',Inv X pins σ H' s'/\IsPart u o/\Q o H') X.xe s
def Fo:TO:=fun _ H Q=>Q none H
def LA (t:TE):TO:=fun σ H Q=>t σ H fun x H1=>∃i,x=.int i/\Q (some i) H1
section
variable {X:Cx} {e:ci} {te:TE} {lo hi:Option ci} {tl th:TO} {pos p2:rf}
theorem Fp:PO X none Fo :=by
 intro pins s σ H Q I h
 rw [evalPart_none]
 exact ca ⟨none,H,I,.none,h⟩
theorem Fq (h:PE X e te):PO X (some e) (LA te) :=by
 intro pins s σ H Q I hw
 rw [evalPart_some]
 refine thn (h pins s σ H _ I hw) fun u s1 ⟨x,H1,I1,r1,q1⟩=>?_
 obtain ⟨i,rfl,q⟩:=q1
 obtain ⟨t,rfl⟩:=r1
 exact ⟨some i,H1,I1,.int i t,q⟩
def D5 (X:Cx) (r:V->Option Int->Option Int->Hp->VK->Prop):Prop:=
 ∀(pins:List (ac×ii)) (s:ap) (σ:St) (H:Hp) (x:V) (v vl vu:ag) (lo hi:Option Int) (sl:ac) (Q:VK),Inv X pins σ H s->RelV x v->s.heap.IsSliceOf sl vl vu .none->IsPart vl lo->IsPart vu hi->r x lo hi H Q->
  ∃T id,typeLookup (.type T) "__getitem__" = pure (some (.builtin id))/\s.TypeIs v T/\wpAny (model X.prog X.w) X.A (getItem v (.ref sl)) (EP X pins σ Q) X.xe s
def P6 (r:V->Option Int->Option Int->Hp->VK->Prop) (te:TE) (tl th:TO):TE:=fun σ H Q=>te σ H fun x H1=>tl σ H1 fun l H2=>th σ H2 fun u H3=>r x l u H3 Q
theorem Cj {r:V->Option Int->Option Int->Hp->VK->Prop} (hr:D5 X r) (he:PE X e te) (hl:PO X lo tl) (hu:PO X hi th):PE X (.Subscript e (.Slice lo hi none p2) pos) (P6 r te tl th) :=by
 refine ⟨?_⟩
 intro pins s σ H Q I h
 refine Subscript_ (thn (he pins s σ H _ I h) fun v s1 ⟨x,H1,I1,r1,q1⟩=>?_)
 refine wpAny_Slice (thn (hl pins s1 σ H1 _ I1 q1) fun vl s2 ⟨l,H2,I2,pl,q2⟩=>thn (hu pins s2 σ H2 _ I2 q2) fun vu s3 ⟨u,H3,I3,pu,q3⟩=>?_)
 rw [evalPart_none]
 refine ca ?_
 have I4:Inv X pins σ H3 {s3 with heap:=s3.heap.push {cls:=.type "slice",data:=.fields #[vl,vu,.none]}}:=I3.kept (t':=s3.toks) fun b ob q=>bn _ q
 obtain ⟨T,id,hT,ht,hg⟩:=hr pins {s3 with heap:=s3.heap.push {cls:=.type "slice",data:=.fields #[vl,vu,.none]}} σ H3 x v vl vu l u s3.heap.objs.size Q I4 r1 (db.IsSliceOf.new ..) pl pu q3
 show wpAny (model X.prog X.w) X.A (subscriptTail e (.Slice lo hi none p2) v (.ref s3.heap.objs.size)) (EP X pins σ Q) X.xe {s3 with heap:=s3.heap.push {cls:=.type "slice",data:=.fields #[vl,vu,.none]}}
 exact tail_any (ops:=[.ref s3.heap.objs.size,v]) ht hT hg (by with_unfolding_all rfl)
def xF (xs:List V) (lo hi:Option Int):List V:=(xs.drop (HT.jc xs.length 0 lo)).take (HT.jc xs.length xs.length hi - HT.jc xs.length 0 lo)
theorem vB (xs:List V) (lo hi:Option Int):(xF xs lo hi).length<=xs.length :=by
 unfold xF
 rw [Ui,Uj]
 omega
end
def gd (n:Nat) (i:Int):Option Nat:=if 0<=i then (if i<n then some i.toNat else none) else if -(n:Int)<=i then some (i+n).toNat else none
def cj {α:Type} (xs:List α) (i:Int):Option α:=(gd xs.length i).bind fun j=>xs[j]?
theorem qj {n:Nat} {i:Int} {j:Nat} (h:gd n i=some j):seqIndex? i n=some j/\j<n /\ -(n:Int)<=i/\i<n :=by
 unfold gd at h
 by_cases h0:0<=i
 ·rw [if_pos h0] at h
  by_cases h1:i<n
  ·rw [if_pos h1] at h
   have e:i.toNat=j:=dL h
   exact ⟨by rw [seqIndex_of h0 h1,e],by omega,by omega,h1⟩
  ·rw [if_neg h1] at h;cases h
 ·rw [if_neg h0] at h
  by_cases h1 : -(n:Int)<=i
  ·rw [if_pos h1] at h
   have e:(i+n).toNat=j:=dL h
   exact ⟨by rw [seqIndex_neg (by omega) h1,e],by omega,h1,by omega⟩
  ·rw [if_neg h1] at h;cases h
theorem qk {α:Type} {xs:List α} {i:Int} {v:α} (h:cj xs i=some v):∃j,seqIndex? i xs.length=some j/\xs[j]?=some v/\j<xs.length /\ -(xs.length:Int)<=i/\i<xs.length :=by
 unfold cj at h
 cases e:gd xs.length i with
 |none=>rw [e] at h;cases h
 |some j=>
  rw [e] at h
  obtain ⟨h1,h2,h3,h4⟩:=qj e
  exact ⟨j,h1,h,h2,h3,h4⟩
theorem cE {α:Type} {xs:List α} {j:Nat} {v:α} (h:xs[j]?=some v):cj xs (j:Int)=some v :=by
 have hj:j<xs.length:=(bv.mp h).1
 have e:gd xs.length (j:Int)=some j :=by
  unfold gd
  rw [if_pos (by omega),if_pos (by omega)];simp
 unfold cj;rw [e];exact h
def wz (b:ci):Prop:=∀o i,subscripted b false o i=operate [o,i] (getItem o i)
def mq (X:Cx) (r:R2):Prop:=
 ∀(value slice:ci) (pins:List (ac×ii)) (s:ap) (σ:St) (H:Hp) (x y:V) (v u:ag) (Q:VK),Inv X pins σ H s->RelV x v->RelV y u->r x y H Q->
  subscripted slice false v u=operate [v,u] (getItem v u)->wpAny (model X.prog X.w) X.A (subscriptTail value slice v u) (EP X pins σ Q) X.xe s
def zx (X:Cx) (id:String) (r:V->List V->Hp->VK->Prop):Prop:=
 ∀(pins:List (ac×ii)) (s:ap) (σ:St) (H:Hp) (x:V) (xs:List V) (v:ag) (us:List ag) (Q:VK),Inv X pins σ H s->RelV x v->Vals xs us->r x xs H Q->
  wpAny (model X.prog X.w) X.A (call (.builtin id) (v::us)) (EP X pins σ Q) X.xe s
section
variable {X:Cx} {a b:ci} {ta tb:TE} {pos:rf}
theorem mq.or {r r':R2} (h:mq X r) (h':mq X r'):mq X (fun x y H Q=>r x y H Q\/r' x y H Q) :=by
 intro value slice pins s σ H x y v u Q I rx ry q hs
 rcases q with q|q
 ·exact h value slice pins s σ H x y v u Q I rx ry q hs
 ·exact h' value slice pins s σ H x y v u Q I rx ry q hs
theorem LC {r:R2} (hr:mq X r) (ha:PE X a ta) (hb:PE X b tb) (hs:wz b):PE X (.Subscript a b pos) (zh r ta tb) :=by
 refine ⟨?_⟩
 intro pins s σ H Q I h
 exact Subscript_ (B5 ha hb I h fun v u s2 x y H2 I2 rx ry q=>hr a b pins s2 σ H2 x y v u Q I2 rx ry q (hs _ _))
def HJ (K:ar):R2:=fun x y H Q=>∃p xs i v,x=.ref p/\y=.int i/\bY K H p xs/\cj xs i=some v/\Q v H
def HK (K:ar):R2:=fun x y H Q=>∃p xs i v,x=.ref p/\y=.int i/\dh K H p xs/\cj xs i=some v/\Q v H
def HL:R2:=fun x y H Q=>∃z i c,x=.str z/\y=.int i/\z.length<=sizeLine/\cj z.cps.toList i=some c/\Q (.str ⟨#[c]⟩) H
theorem Fs:mq X (HJ X.K) :=by
 intro value slice pins s σ H x y v u Q I rx ry h hs
 obtain ⟨p,xs,i,z,rfl,rfl,hq,he,q⟩:=h
 cases rx
 obtain ⟨t,rfl⟩:=ry
 obtain ⟨its,r,pl,hz⟩:=I.list hq
 obtain ⟨j,h1,h2,h3,h4,h5⟩:=qk he
 obtain ⟨w,ew,eL⟩:=r.get h2
 have hl:=r.length
 have hn:=ki
 have fin:EP X pins σ Q w s:=⟨z,H,I,eL,q⟩
 by_cases h0:0<=i
 ·have hj:i.toNat=j :=by
   rw [seqIndex_of h0 h5] at h1
   exact dL h1
  exact item_listR pl.isList h0 (by omega) (by rw [hj];simpa using ew) fin hs
 ·have hj:(i+(its.toArray.size:Int)).toNat=j :=by
   rw [seqIndex_neg (by omega) h4] at h1
   rw [jp,<- hl]
   exact dL h1
  exact subscriptTail_builtinR (x:=w) pl.isList.typeIs slot_list_getitem.lookup
   (wpAny_getItem_list_neg (Q:=fun r s'=>r=w/\EP X pins σ Q r s') pl.isList (by omega) (by rw [jp] <;> omega) (by omega) (by rw [hj];simpa using ew) ⟨rfl,fin⟩) hs
theorem HM:mq X (HK X.K) :=by
 intro value slice pins s σ H x y v u Q I rx ry h hs
 obtain ⟨p,xs,i,z,rfl,rfl,hq,he,q⟩:=h
 cases rx
 obtain ⟨t,rfl⟩:=ry
 obtain ⟨its,r,pl,hz⟩:=I.tuple hq
 obtain ⟨j,h1,h2,h3,h4,h5⟩:=qk he
 obtain ⟨w,ew,eL⟩:=r.get h2
 have hl:=r.length
 have hn:=ki
 have fin:EP X pins σ Q w s:=⟨z,H,I,eL,q⟩
 exact subscriptTail_builtinR (x:=w) pl.typeIs slot_tuple_getitem.lookup
  (getItem_tuple (j:=j) (Q:=fun r s'=>r=w/\EP X pins σ Q r s') pl (by omega) (by omega) (by rw [jp,<- hl];exact h1) (by simpa using ew) ⟨rfl,fin⟩) hs
theorem HN:mq X HL :=by
 intro value slice pins s σ H x y v u Q I rx ry h hs
 obtain ⟨z,i,c,rfl,rfl,hz,he,q⟩:=h
 obtain ⟨t,rfl⟩:=rx
 obtain ⟨t',rfl⟩:=ry
 obtain ⟨j,h1,h2,h3,h4,h5⟩:=qk he
 have hl:z.cps.toList.length=z.length :=by simp [ba.length]
 rw [hl] at h1 h4 h5
 have hn:=ki
 exact tail_any (typeIs_str s z t) slot_str_getitem.lookup (getItem_str (c:=c) (by
  have e1:decide (i < -(2 ^ 63:Int))=false:=decide_eq_false (by omega)
  have e2:decide (i ≥ 2 ^ 63)=false:=decide_eq_false (by omega)
  rw [e1,e2,Bool.or_false]) (by rw [h1];simpa using h2) ⟨.str ⟨#[c]⟩,H,I.tok _,⟨_,rfl⟩,q⟩) hs
def M7 (K:ar):R2:=fun x y H Q=>HJ K x y H Q\/HK K x y H Q\/HL x y H Q
theorem HP:mq X (M7 X.K):=Fs.or (HM.or HN)
theorem xG (its:List ag) (n j:Nat) (u:ag):Lu (·.setIfInBounds j u) {cls:=.type "list",data:=.seq its.toArray n}={cls:=.type "list",data:=.seq (its.set j u).toArray n}:=by
 simp [Lu]
theorem Inv.lst {pins:List (ac×ii)} {σ:St} {H:Hp} {s:ap} {p:ac} {xs:List V} (I:Inv X pins σ H s) (h:H p=some (.lst xs)) :
  ∃(its:List ag) (n:Nat),Vals xs its/\s.heap.get? p=some {cls:=.type "list",data:=.seq its.toArray n}/\xs.length<=sizeLine :=by
 obtain ⟨z,its,n,r,e⟩:=I.hok p _ h
 exact ⟨its,n,r,e,z⟩
theorem Inv.HQ {pins:List (ac×ii)} {σ:St} {H:Hp} {s:ap} {p:ac} {xs ys:List V} {its its':List ag} {n n':Nat} {f:ii->ii} (I:Inv X pins σ H s) (h:H p=some (.lst xs))
  (ho:s.heap.get? p=some {cls:=.type "list",data:=.seq its.toArray n}) (hf:f {cls:=.type "list",data:=.seq its.toArray n}={cls:=.type "list",data:=.seq its'.toArray n'}) (r:Vals ys its') (hz:ys.length<=sizeLine) (t:Nat) :
  Inv X pins σ (upd H p (.lst ys)) {s with heap:=s.heap.update p f,toks:=t}:=by
 have e:(s.heap.update p f).get? p=some {cls:=.type "list",data:=.seq its'.toArray n'}:=by
  rw [B0 f ho (by rw [hf] <;> rfl),hf]
 refine I.write (x:=p) (e:=p) (by rw [h];trivial) (.inl rfl) (fun b u hb q=>(xL _ _ (wn hb)).trans q) ⟨_,e⟩ ?_
 exact ⟨hz,its',n',r,e⟩
def LD:V->V->V->Hp->(Hp->Prop)->Prop:=fun o i v H Q=>∃p xs k j,o=.ref p/\i=.int k/\H p=some (.lst xs)/\gd xs.length k=some j/\Q (upd H p (.lst (xs.set j v)))
theorem set_list:Hf X LD :=by
 intro pins s σ H o i v ov iv u Q I ro ri rv h
 obtain ⟨p,xs,k,j,rfl,rfl,hp,hj,q⟩:=h
 cases ro
 obtain ⟨t,rfl⟩:=ri
 obtain ⟨its,n,r,ho,hz⟩:=I.lst hp
 obtain ⟨h1,h2,h3,h4⟩:=qj hj
 have hl:=r.length
 have hn:=ki
 have I':Inv X pins σ (upd H p (.lst (xs.set j v))) {s with heap:=s.heap.update p (Lu (·.setIfInBounds j u))}:=
  I.HQ hp ho (xG its n j u) (r.set rv j) (by rw [SB];exact hz) s.toks
 by_cases h0:0<=k
 ·have hk:k.toNat=j :=by
   rw [seqIndex_of h0 h4] at h1
   exact dL h1
  exact PySem.W.ki_setAt ho h0 (by omega) (by rw [jp,<- hl];exact h4) (by rw [hk];exact ⟨_,I',q⟩)
 ·have hk:(k+(its.toArray.size:Int)).toNat=j :=by
   rw [seqIndex_neg (by omega) h3] at h1
   rw [jp,<- hl]
   exact dL h1
  exact PySem.W.ki_setBack ho (by omega) (by rw [jp,<- hl];exact h3) (by omega) (by rw [hk];exact ⟨_,I',q⟩)
theorem tL (lo hi:Option Int) (n:Nat):(sliceBounds lo hi none n).1=((HT.jc n 0 lo:Nat):Int)/\(sliceBounds lo hi none n).2.1=((HT.jc n n hi:Nat):Int)/\(sliceBounds lo hi none n).2.2=1 :=by
 refine ⟨?_,?_,rfl⟩
 ·cases lo with
  |none=>simp [sliceBounds,HT.jc]
  |some i=>
   simp only [sliceBounds,HT.jc,Option.getD_none,show (1:Int) > 0 by decide,if_true]
   by_cases h:i<0
   ·simp only [h,if_true] <;> omega
   ·simp only [h,if_false] <;> omega
 ·cases hi with
  |none=>simp [sliceBounds,HT.jc]
  |some i=>
   simp only [sliceBounds,HT.jc,Option.getD_none,show (1:Int) > 0 by decide,if_true]
   by_cases h:i<0
   ·simp only [h,if_true] <;> omega
   ·simp only [h,if_false] <;> omega
theorem sE (its:List ag) (lo hi:Option Int):slicePick its.toArray lo hi none=((its.drop (HT.jc its.length 0 lo)).take (HT.jc its.length its.length hi - HT.jc its.length 0 lo)).toArray :=by
 obtain ⟨h1,h2,h3⟩:=tL lo hi its.toArray.size
 unfold slicePick
 rw [h1,h2,h3]
 simp only [sliceRange_one,pick_run,jp] <;> rfl
def OI (K:ar):V->Option Int->Option Int->Hp->VK->Prop:=fun x lo hi H Q=>∃a xs,x=.ref a/\bY K H a xs/\∀p,H p=none->Q (.ref p) (upd H p (.lst (xF xs lo hi)))
theorem PQ:D5 X (OI X.K) :=by
 intro pins s σ H x v vl vu lo hi sl Q I rx hs pl pu h
 obtain ⟨a,xs,rfl,hx,q⟩:=h
 cases rx
 obtain ⟨its,r,ht,hz⟩:=I.list hx
 have hlen:=r.length
 refine ⟨"list",_,slot_list_getitem.lookup,ht.isList.typeIs,?_⟩
 refine wpAny_getItem_list_slice ht.isList hs pl pu .none (by simp) ?_ (by rw [jp] <;> omega)
 rw [sE,<- hlen]
 refine ⟨.ref s.heap.objs.size,_,I.laid (t':=s.toks) (o:=.lst (xF xs lo hi)) (fun b ob q=>bn _ q) (ce _) ?_,rfl,q _ (I.hok.fresh (ce _))⟩
 exact ⟨sK (vB xs lo hi) hz,_,0,(r.drop (HT.jc xs.length 0 lo)).take (HT.jc xs.length xs.length hi - HT.jc xs.length 0 lo),ff _ rfl⟩
theorem sF:dA X (.type "tuple") (fun xs H Q=>∃p ys,xs=[.ref p]/\((bY X.K H p ys/\∀l,H l=none->Q (.ref l) (upd H l (.tup ys)))\/(dh X.K H p ys/\Q (.ref p) H))) :=by
 intro pins s σ H xs us Q I r h
 obtain ⟨p,ys,rfl,h⟩:=h
 obtain ⟨u,rfl,rx⟩:=vals1 r
 cases rx
 rcases h with ⟨hq,q⟩|⟨hq,q⟩
 ·obtain ⟨its,r',pl,hz⟩:=I.list hq
  have hlen:=r'.length
  refine call_tuple_list pl.isList (fun h' kp=>?_) (by simp only [jp] <;> omega)
  have I1:Inv X pins σ H {s with heap:=h'}:=I.kept (t':=s.toks) kp
  have I2:Inv X pins σ (upd H h'.objs.size (.tup ys)) {s with heap:=h'.push {cls:=.type "tuple",data:=.seq its.toArray}}:=
   I1.laid (t':=s.toks) (fun b o e=>bn _ e) (ce _) (show ObjOk X.prog X.w _ _ _ (.tup ys) from ⟨hz,its,r',j5.new _ _⟩)
  exact ⟨.ref h'.objs.size,_,I2,rfl,q _ (I1.hok.fresh (ce _))⟩
 ·obtain ⟨its,r',pl,hz⟩:=I.tuple hq
  exact call_tuple_same pl ⟨.ref p,H,I,rfl,q⟩
def HR (K:ar) (T:String) (x:V) (H:Hp):Prop:=match x with
 | .str _=>T = "str"
 | .int _=>T = "int"
 | .ref p=>(T = "list" /\ ∃xs,bY K H p xs)\/(T = "tuple" /\ ((∃o,K.lookup p=some o/\o.cls=.type "tuple" /\ o.dict=none)\/∃xs,H p=some (.tup xs))) \/
   (T = "dict" /\ ((∃aj,H p=some (.dK aj))\/∃aj,H p=some (.dT aj)))\/(T = "set" /\ ∃S n,H p=some (.set S n))
 |_=>False
theorem HS {pins:List (ac×ii)} {σ:St} {H:Hp} {s:ap} {T:String} {x:V} {v:ag} (I:Inv X pins σ H s) (r:RelV x v) (ty:HR X.K T x H) :
  s.TypeIs v T/\∀a,v=.ref a->∃ob,s.heap.get? a=some ob/\ob.dict=none :=by
 cases x with
 |str z=>
  obtain ⟨t,rfl⟩:=r
  cases (show T = "str" from ty)
  exact ⟨typeIs_str s z t,fun _ e=>nomatch e⟩
 |int i=>
  obtain ⟨t,rfl⟩:=r
  cases (show T = "int" from ty)
  exact ⟨typeIs_int s i t,fun _ e=>nomatch e⟩
 |ref p=>
  cases r
  rcases ty with ⟨rfl,xs,hq⟩|⟨rfl,⟨o,hk,hc,hd⟩|⟨xs,hk⟩⟩|⟨rfl,hk⟩|⟨rfl,S,n,hk⟩
  ·obtain ⟨its,_,pl,_⟩:=I.list hq
   refine ⟨pl.isList.typeIs,fun a e=>?_⟩
   cases e
   obtain ⟨o,n,e,c,hd,_⟩:=pl
   exact ⟨o,e,hd⟩
  ·refine ⟨⟨o,I.f9 p o hk,hc⟩,fun a e=>?_⟩
   cases e
   exact ⟨o,I.f9 _ o hk,hd⟩
  ·obtain ⟨_,its,_,o,e,c,n,d,hd⟩:=I.hok p _ hk
   refine ⟨⟨o,e,c⟩,fun a e2=>?_⟩
   cases e2
   exact ⟨o,e,hd⟩
  ·have z:∃o,s.heap.get? p=some o/\o.ExactDict :=by
    rcases hk with ⟨aj,hk⟩|⟨aj,hk⟩
    ·obtain ⟨_,_,_,_,o,_,_,e,ex,_⟩:=I.hok p _ hk
     exact ⟨o,e,ex⟩
    ·obtain ⟨_,_,_,_,o,_,_,e,ex,_⟩:=I.hok p _ hk
     exact ⟨o,e,ex⟩
   obtain ⟨o,e,ex⟩:=z
   refine ⟨⟨o,e,ex.1⟩,fun a e2=>?_⟩
   cases e2
   exact ⟨o,e,ex.2.1⟩
  ·obtain ⟨o,_,_,_,e,ex,_⟩:=I.hok p _ hk
   refine ⟨⟨o,e,ex.1⟩,fun a e2=>?_⟩
   cases e2
   exact ⟨o,e,ex.2.1⟩
 |_=>exact BY ty
def M8 (K:ar) (T:String) (r:V->List V->Hp->VK->Prop) (to:TE) (t:TA):TE:=fun σ H Q=>to σ H fun x H1=>HR K T x H1/\t σ H1 fun xs H2=>r x xs H2 Q
variable {o e:ci} {es:List ci} {to:TE} {t:TA} {name:ba} {apos aY:rf} {T id:String} {r:V->List V->Hp->VK->Prop}
theorem LI (pa:Ud T) (slot:Slot T name id) (mr:typeOf (.builtin id)=pure (.type "method_descriptor")) (hm:zx X id r) (ho:PE X o to) (ha:PA X (e::es) t)
  (iM:attributeBase o name X.env (eval o X.env)=eval o X.env :=by rfl)
  (kT:((backTo aY (starEach (e::es) X.env)).all (fun x => !x.1) && (backToKw aY (keywordEach [] X.env)).all (fun x=>x.1.isSome)
   && decide ((e::es).length+([]:List LM).length+(if ([]:List LM).isEmpty then 0 else 1)<30))=true :=by rfl)
  (hline:(apos.endLine==aY.line)=true :=by rfl) (hs:starEach (e::es) X.env=(false,eval e X.env)::starEach es X.env :=by rfl) (gf:(backTo aY (starEach es X.env)).any (·.1)=false :=by rfl) :
  PE X (.Call (.Attribute o name apos) (e::es) [] aY) (M8 X.K T r to t) :=by
 refine ⟨?_⟩
 intro pins s σ H Q I h
 refine wpAny_Call_method_late iM kT hline rfl (thn (ho pins s σ H _ I h) fun v s1 ⟨x,H1,I1,r1,ty,q1⟩=>?_)
 obtain ⟨h1,h2⟩:=HS I1 r1 ty
 refine ⟨T,id,pa,slot,mr,h1,h2,?_⟩
 have hA:=ha aY pins s1 σ H1 _ I1 q1
 rw [hs] at hA ⊢
 refine Calls.callWith_builtin (by show (false || (backTo aY (starEach es X.env)).any (·.1))=false;rw [gf] <;> rfl) (Tp ?_)
 exact thn hA fun us s2 ⟨vs,H2,I2,r2,q2⟩=>hm pins s2 σ H2 x vs v us Q I2 r1 r2 q2
end
def M9 (X:Cx) (id:String) (r:V->List V->Hp->VK->Prop):Prop:=
 ∀(pins:List (ac×ii)) (s:ap) (σ:St) (H:Hp) (x:V) (xs:List V) (v:ag) (us:List ag) (Q:VK),Inv X pins σ H s->RelV x v->Vals xs us->r x xs H Q->
  wpAny (model X.prog X.w) X.A (call (.builtin id) (v::us)) (EP X pins σ Q) X.xe s
theorem Vals.one:∀{x:V} {us:List ag},Vals [x] us->∃u,us=[u]/\RelV x u
 |_,_,.cons r .nil=>⟨_,rfl,r⟩
theorem Vals.eraseIdx:∀{xs:List V} {us:List ag} (i:Nat),Vals xs us->Vals (xs.eraseIdx i) (us.eraseIdx i)
 |_,_,_,.nil=>.nil
 |_,_,0,.cons _ t=>t
 |_,_,i+1,.cons r t=>.cons r (Vals.eraseIdx i t)
theorem Vals.rep {xs:List V} {us:List ag} (h:Vals xs us):∀k:Nat,Vals (qr k xs).flatten (qr k us).flatten
 |0=>.nil
 |k+1=>by
          rw [wE,wE,EQ,EQ]
          exact Vals.append h (Vals.rep h k)
theorem rg {α:Type}:∀(l:List α) (i:Nat),(l.eraseIdx i).length<=l.length
 | [],_=>ce _
 |_::_,0=>DO _
 |_::r,i+1=>Nat.succ_le_succ (rg r i)
theorem foldl_rep (its:List ag):∀(k:Nat) (acc:List ag),
  List.foldl (fun x1 x2=>x1++x2) acc.toArray (qr k its.toArray)=(acc++(qr k its).flatten).toArray
 |0,acc=>by simp
 |k+1,acc=>by
          have e:acc.toArray++its.toArray=(acc++its).toArray :=by simp
          have e2:(acc++its)++(qr k its).flatten=acc++(qr (k+1) its).flatten :=by
           rw [wE,EQ,ES]
          rw [<- e2,<- foldl_rep its k (acc++its),<- e,wE,List.foldl_cons]
section
variable {X:Cx} {pins:List (ac×ii)} {σ:St} {H:Hp} {s:ap} {l b:ac} {xs ys zs:List V}
theorem Inv.tM {its its':List ag} {n:Nat} {f:Array ag->Array ag} {t':Nat} (I:Inv X pins σ H s) (hH:H l=some (.lst xs))
  (e:s.heap.get? l=some {cls:=.type "list",data:=.seq its.toArray n}) (hf:f its.toArray=its'.toArray) (hv:Vals ys its') (hz:ys.length<=sizeLine) :
  Inv X pins σ (upd H l (.lst ys)) {s with heap:=s.heap.update l (Lu f),toks:=t'}:=by
 have q:=PySem.IsL.update e f
 rw [hf] at q
 refine I.write (x:=l) (e:=l) (by rw [hH];exact trivial) (.inl rfl) (fun b' u hb hu=>(xL s.heap (Lu f) (wn hb)).trans hu) ⟨_,q⟩ ?_
 exact ⟨hz,its',_,hv,q⟩
theorem Inv.HU {its:List ag} {t':Nat} (I:Inv X pins σ H s) (hv:Vals ys its) (hz:ys.length<=sizeLine) :
  Inv X pins σ (upd H s.heap.objs.size (.lst ys)) {s with heap:=s.heap.push {cls:=.type "list",data:=.seq its.toArray},toks:=t'}:=
 I.laid (fun _ _ q=>bn _ q) (ce _) ⟨hz,its,0,hv,ff _ rfl⟩
theorem Inv.fresh (I:Inv X pins σ H s):H s.heap.objs.size=none:=I.hok.fresh (ce _)
theorem Inv.ow (I:Inv X pins σ H s) (hH:H l=some (.lst xs)):xs.length<=sizeLine/\∃(its:List ag) (n:Nat),Vals xs its/\xs.length=its.length/\s.heap.get? l=some {cls:=.type "list",data:=.seq its.toArray n}:=by
 obtain ⟨z,its,n,r,e⟩:=I.hok l _ hH
 exact ⟨z,its,n,r,r.length,e⟩
theorem Ck {n:Nat} (h:n<=sizeLine):SW n=false :=by
 unfold SW
 exact decide_eq_false (by omega)
end
section
variable {X:Cx}
def Ft:V->List V->Hp->VK->Prop:=fun x vs H Q=>∃l xs y,x=.ref l/\vs=[y]/\H l=some (.lst xs)/\xs.length<sizeLine/\Q .aB (upd H l (.lst (xs++[y])))
theorem rh:M9 X "list.append" Ft :=by
 intro pins s σ H x vs v us Q I rx rv h
 obtain ⟨l,xs,y,rfl,rfl,hH,hz,q⟩:=h
 cases rx
 obtain ⟨u,rfl,ru⟩:=rv.one
 obtain ⟨z,its,n,r,hl,e⟩:=I.ow hH
 refine UI F.slot_list_append ⟨_,e,rfl⟩ F.entry_list_append (F.args_list_append_2 _ _) (PySem.list_append l its.toArray n u (by rw [jp];omega)) ⟨e,?_⟩
 refine ⟨.aB,_,I.tM (its':=its++[u]) hH e (by simp) (r.append (.cons ru .nil)) ?_,rfl,q⟩
 rw [tw,Da]
 omega
def HV:V->List V->Hp->VK->Prop:=fun x vs H Q=>∃l xs i k y,x=.ref l/\vs=[.int i]/\H l=some (.lst xs) /\ -(2 ^ 63)<=i/\i<2 ^ 63/\seqIndex? i xs.length=some k/\xs[k]?=some y/\Q y (upd H l (.lst (xs.eraseIdx k)))
theorem Cm:M9 X "list.pop" HV :=by
 intro pins s σ H x vs v us Q I rx rv h
 obtain ⟨l,xs,i,k,y,rfl,rfl,hH,h1,h2,hk,hy,q⟩:=h
 cases rx
 obtain ⟨u,rfl,ru⟩:=rv.one
 obtain ⟨t,rfl⟩:=ru
 obtain ⟨z,its,n,r,hl,e⟩:=I.ow hH
 obtain ⟨w,hw,eL⟩:=r.get hy
 refine UI F.slot_list_pop ⟨_,e,rfl⟩ F.entry_list_pop (F.args_list_pop_2 _ _)
  (MeetsSeq.list_pop_at l its.toArray n i t k w (fitsIndex_both h1 h2) (by rw [jp,<- hl];exact hk) (by rw [<- Db];exact hw) (by rw [jp];omega)) ⟨e,?_⟩
 refine ⟨y,_,I.tM (its':=its.eraseIdx k) hH e ?_ (r.eraseIdx k) ?_,eL,q⟩
 ·show its.toArray.eraseIdxIfInBounds k=(its.eraseIdx k).toArray
  rw [List.eraseIdxIfInBounds_toArray]
 ·have:=rg xs k
  omega
def OJ:R2:=fun x y H Q=>∃l k xs,x=.ref l/\y=.int k/\H l=some (.lst xs) /\ -(2 ^ 63)<=k/\k<2 ^ 63/\xs.length * k.toNat<=sizeLine /\
 ∀p,H p=none->Q (.ref p) (upd H p (.lst (qr k.toNat xs).flatten))
theorem len_rep {α:Type} (xs:List α) (k:Nat):(qr k xs).flatten.length=k * xs.length :=by
 induction k with
 |zero=>simp
 |succ k ih=>rw [wE,EQ,tw,ih,Nat.succ_mul,Nat.add_comm]
theorem HW:OpR X (binaryOp .Mult) OJ :=by
 intro pins s σ H x y v u Q I rx ry h
 obtain ⟨l,k,xs,rfl,rfl,hH,h1,h2,hz,q⟩:=h
 cases rx
 obtain ⟨t,rfl⟩:=ry
 obtain ⟨z,its,n,r,hl,e⟩:=I.ow hH
 have hlen:its.toArray.size * k.toNat<=sizeLine :=by rw [jp,<- hl];exact hz
 have OM:¬ its.toArray.size * k.toNat > (2 ^ 63 - 1) / 8 :=by
  have:(sizeLine:Nat)<=(2 ^ 63 - 1) / 8 :=by decide
  omega
 have OO:¬ (!Builtin.List.listFitsIndex k)=true :=by
  rw [fitsIndex_both h1 h2]
  exact ij
 have LJ:¬ SW (its.toArray.size * k.toNat)=true :=by
  rw [Ck hlen]
  exact ij
 have OQ:List.foldl (fun x1 x2=>x1++x2) #[] (qr (if its.toArray.isEmpty=true then 0 else k.toNat) its.toArray)=(qr k.toNat its).flatten.toArray :=by
  have f0:∀m:Nat,List.foldl (fun x1 x2=>x1++x2) #[] (qr m its.toArray)=(qr m its).flatten.toArray:=fun m=>by
   have:=foldl_rep its m []
   rw [IR] at this
   exact this
  rw [f0]
  cases its with
  |nil=>simp
  |cons a r'=>rw [if_neg (by simp)]
 refine wpAny_binaryOp_repeat_ref (T := "list") (U := "int") (by decide) ⟨_,e,rfl⟩ (fun s'=>typeIs_int s' k t) noFill_list_mul F.fills_int_mul F.slot_int_rmul repeat_list F.slot_int_index.lookup
  (UI F.slot_int_rmul (typeIs_int s k t) F.entry_int_rmul (F.args_int_rmul_2 _ _) (int___rmul___int_list k t l its.toArray n)
   ⟨e,rfl,⟨_,e,rfl⟩,UI F.slot_list_mul ⟨_,e,rfl⟩ F.entry_list_mul (F.args_list_mul_2 _ _) (AutoListH.list___mul___list_int_3 l its.toArray n k t OO OM LJ) ⟨e,?_⟩⟩)
 rw [OQ]
 exact ⟨.ref _,_,I.HU (t':=s.toks) (r.rep k.toNat) (by rw [len_rep,Nat.mul_comm];exact hz),rfl,q _ I.fresh⟩
end
end L2
namespace Nb
open PySem PySem.W PySem.Calls PyProof.Rows
theorem o7 {P:UK} {h:db}:∀(ns:List Int) (vs:List ag),WellAll P h vs (ns.map WData.int)->Pf vs ns :=by
 intro ns
 induction ns with
 |nil=>
  intro vs w
  rw [Tq] at w
  cases w
  exact .nil
 |cons n ns ih=>
  intro vs w
  rw [wb] at w
  cases w with
  |cons a b=>
   cases a
   exact .cons _ _ (ih _ b)
theorem zy {l:OpenLaw} {n:Nat} (hn:l.most=some n) {P:UK} {h:db} {args:List WData} {vals:List ag}
  (xH:l.row.toRowW.claim.pre args=true) (D6:WellAll P h vals args) :
  ∃a vs ns,vals=[l5 a]/\args=[WData.list (ns.map WData.int)]/\h.get? a=some {cls:=.type "list",data:=.seq vs.toArray}/\Pf vs ns/\ns.length<=n :=by
 have P7:WShape.hasAll [] args [.list .int]=true:=(pre_splitW xH).1
 have hc:l.pre.holds [] {args:=args}=true:=(pre_splitW xH).2
 obtain ⟨d,r,rfl,h1,h2⟩:=hasAllW_cons P7
 obtain rfl:=hasAllW_nil h2
 obtain ⟨xs,rfl,h3⟩:=hasW_list h1
 obtain ⟨ns,rfl⟩:=items_int h3
 have hlen:ns.length<=n :=by
  unfold OpenLaw.pre at hc
  have h4:(WTm.not (.lt (.lit (.int (n:Int))) (.len (.arg 0)))).holds [] {args:=[.list (ns.map .int)]}=true :=by
   have h4:=(holds_andW hc).1
   rw [hn] at h4
   exact h4
  have h5:=condW_of h4 (w_not (w_lt w_lit (w_len_list (w_arg rfl))))
  rw [cb] at h5
  refine S7 fun q=>?_
  have q':(n:Int)<((ns.length:Nat):Int) :=by omega
  first
   |(rw [decide_eq_true q'] at h5;exact absurd h5 (by decide))
   |(simp at h5;omega)
 cases D6 with
 |cons w1 w2=>
  cases w2
  cases w1 with
  |list ho ql=>exact ⟨_,_,ns,rfl,rfl,ho,o7 ns _ ql,hlen⟩
theorem zz (l:OpenLaw) (args:List WData):l.row.toRowW.claim.post args (.bool true) args=true:=
 postW_of (r:=l.row.toRowW) (X:=(true==true))
  (show WShape.has [] (.bool true) .bool=true by first|rfl|decide|simp [WShape.has,WShape.arms,WShape.armsAll])
  (show (WTm.eq .res (.lit (.bool true))).value [] {args:=args,res:=some (.bool true),after:=args}=some (.bool (true==true)) from w_eq_bool (w_res rfl) w_lit) rfl
theorem vC {l:OpenLaw} {n:Nat} {q:cr} {loose:List ba} {XP:(ba->Option ag)->db->Prop} {YP:gc->db->Prop} {d:DefRec}
  (hn:l.most=some n) (zA:d.params.defaults=[])
  (call:∀(w:gc) (s₀ aw:ap) (mg mb:ba->Option ag) (fa:ac) (o:ii) (pm cd doc:ag) (a:ac) (vs:List ag) (ns:List Int),
   Ground q loose [] XP w s₀ mg mb aw.heap->YP w aw.heap->
   aw.heap.get? fa=some o->o.data=.func (docDef d.name d.params d.body d.scope pm cd doc)->aw.heap.CodeRec cd d.name->mg d.name=some (.ref fa)->
   aw.heap.get? a=some {cls:=.type "list",data:=.seq vs.toArray}->Pf vs ns->ns.length<=n->aw.gens=#[]->
   codeAny (model l.prog w) callerA (.call (.ref fa) ⟨[.ref a],[]⟩) (fun r s'=>r=.ok (.ret (.bool true))/\OldK aw.heap s'.heap/\s'.os=aw.os/\UD s'.gens) aw) :
  WalkO q loose XP YP l.row.toRowW d [] (fun f vs=>UF f vs) :=by
 intro w s₀ aw mg mb G Y fa o pm cd doc dV kV ho hd dH hD zB hg args vals as xH Sf Sn D6 Sr
 obtain rfl:dV=.none:=Dflts.none hD zA
 obtain rfl:kV=.none:=Dflts.noKw hD
 obtain ⟨a,vs,ns,rfl,rfl,Cp,hints,hlen⟩:=zy hn xH D6
 refine enter_call (Uh (call w s₀ aw mg mb fa o pm cd doc a vs ns G Y ho (fd_plain hd) dH zB Cp hints hlen hg) fun r s' hq=>?_)
 obtain ⟨rfl,h2,h3,h4⟩:=hq
 exact ⟨.inl ⟨.bool true,.bool true,[],rfl,fun _=>rfl,.bool true,zz l _,fun _=>⟨List.Pairwise.nil,fun _ hm=>(nomatch hm)⟩⟩,h2,h3,h4⟩
end Nb
namespace L2
open PySem PySem.Spec PyProof.Rows
theorem rj:∀{vs:List ag} {ns:List Int},Pf vs ns->Vals (ns.map V.int) vs
 |_,_,.nil=>.nil
 |_,_,.cons n t h=>.cons ⟨t,rfl⟩ (rj h)
def cR (s:mv):GS:=match s with
 | .FunctionDef _ a _ _ _ _ _ _ _ _=>a
 |_=>{posonlyargs:=[],args:=[],vararg:=none,kwonlyargs:=[],kw_defaults:=[],kwarg:=none,defaults:=[]}
def bN (s:mv):List mv:=match s with
 | .FunctionDef _ _ b _ _ _ _ _ _ _=>b
 |_=>[]
def ak (s:mv):uu:=match s with
 | .FunctionDef _ _ _ _ _ _ sc _ _ _=>sc
 |_=>{kind:=.function,names:=[],isGenerator:=false,isCoroutine:=false}
abbrev bL:fQ:=fun _ _ _ _ _ _=>False
abbrev E0:XK:=fun _ _ _=>False
theorem b5 {X:Cx}:Passes bL X E0:=fun _ _ _ _ _ _ _ h=>h.elim
structure rl (K:ar) (x qual:ba) (st:mv) (f:ac) (fd:im):Prop where
 ex:∃(oc:ag) (od:Option ac) (kV doc pm:ag) (an:Option ac) (cK ct:ag) (jL:Array (Option ag)),
  fd=wT x qual (cR st) (bN st) (ak st) .none kV doc pm an cK ct/\K.lookup f=some ⟨oc,od,.func fd,jL⟩/\CS K cK qual=true
 kp:AC K (.ref f)=true
section
variable {P:cr} {w:gc} {K:ar} {mg:ba->Option ag} {base:db}
theorem rl.binds {x qual:ba} {st:mv} {f:ac} {fd:im} {ps:List ba} (F:rl K x qual st f fd)
  (h:∀(kV doc pm:ag) (an:Option ac) (cK ct:ag) (us:List ag),us.length=ps.length->bindArgs (wT x qual (cR st) (bN st) (ak st) .none kV doc pm an cK ct) ⟨us,[]⟩=pure (ps.zip us)):Binds K fd ps [] :=by
 obtain ⟨oc,od,kV,doc,pm,an,cK,ct,jL,rfl,lk,dH⟩:=F.ex
 exact .all (h kV doc pm an cK ct)
theorem HX {x qual:ba} {st:mv} {f:ac} {oc:ag} {od an:Option ac} {jL:Array (Option ag)} {kV doc pm cK ct:ag} (l:K.lookup f=some ⟨oc,od,.func (wT x qual (cR st) (bN st) (ak st) .none kV doc pm an cK ct),jL⟩)
  (c:CS K cK qual=true) (k:AC K (.ref f)=true):rl K x qual st f (wT x qual (cR st) (bN st) (ak st) .none kV doc pm an cK ct):=⟨⟨oc,od,kV,doc,pm,an,cK,ct,jL,rfl,l,c⟩,k⟩
end
section
variable {X:Cx}
theorem pv (i:Nat) {x:ba} {pos:rf} (hN:X.N[i]?=some x :=by rfl) (hv:oV X.env.scope x :=by first|exact l6 rfl|exact EO (l6 rfl)|exact EO (EO rfl)) (hd:(x==("__debug__" : ba))=false :=by decide)
  (dH:(x==("__classdict__" : ba))=false :=by decide):PE X (.Name x pos) (G3 i):=tu hN hv hd dH
end
end L2
set_option maxHeartbeats 4000000
namespace L2
open PySem PySem.Spec PyProof.Rows
theorem kU {env:Go}:∀(names:List (ba×OE)) (acc:List (ba×ac)),(∀n,(n,r6)∈names->∃c,env.cells.lookup n=some c)->
  (∀n c,acc.lookup n=some c->env.cells.lookup n=some c)->
  ∃cl,(forIn names acc fun x r=>if (x.2==r6)=true then (do let a <- cellOf env x.1;pure (Tr ((x.1,a)::r))) else pure (Tr r):T5 (List (ba×ac)))=pure cl /\
   (∀n c,cl.lookup n=some c->env.cells.lookup n=some c)/\(∀n,(n,r6)∈names->∃c,cl.lookup n=some c)/\(∀n c,acc.lookup n=some c->∃c',cl.lookup n=some c')
 | [],acc,_,h2=>⟨acc,rfl,h2,fun n h=>by simp at h,fun n c h=>⟨c,h⟩⟩
 |(n,k)::r,acc,h1,h2=>by
          rw [List.forIn_cons]
          cases hk:(k==r6) with
          |true=>
           have ek:k=r6 :=by simpa using hk
           subst ek
           obtain ⟨c,hc⟩:=h1 n i0
           have e1:cellOf env n=pure c :=by unfold cellOf;rw [hc]
           obtain ⟨cl,e,a1,a2,a3⟩:=kU r ((n,c)::acc) (fun m hm=>h1 m (hX _ hm)) (fun m c' hm=>by
            rw [Mc] at hm
            cases hb:m==n with
            |true=>
             rw [hb] at hm
             have e2:m=n :=by simpa using hb
             rw [e2,hc];exact hm
            |false=>rw [hb] at hm;exact h2 m c' hm)
           refine ⟨cl,?_,a1,fun m hm=>?_,fun m c' hm=>?_⟩
           ·simp only [if_true,e1]
            exact e
           ·rcases lp.mp hm with z|z
            ·cases z
             exact a3 n c (by rw [Mc];simp)
            ·exact a2 m z
           ·by_cases hb:m=n
            ·subst hb
             exact a3 m c (by rw [Mc];simp)
            ·exact a3 m c' (by
              rw [Mc]
              have:(m==n)=false :=by simpa using hb
              rw [this];exact hm)
          |false=>
           obtain ⟨cl,e,a1,a2,a3⟩:=kU r acc (fun m hm=>h1 m (hX _ hm)) h2
           refine ⟨cl,?_,a1,fun m hm=>?_,a3⟩
           ·simp only [i4,if_false]
            exact e
           ·rcases lp.mp hm with z|z
            ·cases z;simp at hk
            ·exact a2 m z
theorem iN {scope:uu} {env:Go} (h:∀n,(n,r6)∈scope.names->∃c,env.cells.lookup n=some c) :
  ∃cl,closureFor scope env=pure cl/\(∀n c,cl.lookup n=some c->env.cells.lookup n=some c)/\(∀n,(n,r6)∈scope.names->∃c,cl.lookup n=some c) :=by
 obtain ⟨cl,e,a1,a2,_⟩:=kU (env:=env) scope.names [] h (fun n c hn=>by simp at hn)
 refine ⟨cl,?_,a1,a2⟩
 simp only [closureFor]
 rw [e]
 rfl
def cxBlock (X:Cx) (N':List ba) (env':Go) (A':l9) (stack':List Go) (s:ap) (H:Hp) (ex:List ac):Cx:=
 {X with N:=N',s₀:=s,H₀:=H,env:=env',A:=A',outer:=X.stack,stack:=stack',ex:=ex,fn:=fun _=>false,pn:=[],xe:=fun _ _=>False}
theorem rn {X:Cx} {pins:List (ac×ii)} {σ aI:St} {H H':Hp} {s:ap} {N':List ba} {env':Go} {A':l9} {stack':List Go} {ex:List ac} {h1:db} {m0:ba->Option ag} {g':Array S6} {tk:Nat}
  (I:Inv X pins σ H s) (sR:env'.scope.kind=.function) (LK:env'.globals=X.env.globals) (OS:env'.builtins=X.env.builtins)
  (fR:∀n c,env'.cells.lookup n=some c->X.env.cells.lookup n=some c)
  (xI:∀x,(env'.kindOf x=some .cell\/env'.kindOf x=some .free)->∃c,env'.cells.lookup x=some c)
  (hh:X.calm=true->A'.handled=none) (HY:A'.frames=some stack') (OT:stack'=X.stack\/(stack'=env'::X.stack/\env'.frame=some env'.locals))
  (hC:s.heap.objs.size<=env'.locals) (hf:∀b∈ex,dD X pins H b) (OU:∀b∈ex,b<s.heap.objs.size)
  (Nc:Un (eu X.stack) ex H H' s.heap h1) (hok:cQ X.prog X.w H' h1) (HZ:H' env'.locals=none) (D7:∀b o,s.heap.get? b=some o->h1.get? b=some o) (gh:h1.Ns env'.locals m0)
  (Ia:∀(i:Nat) (x:ba) (v:V),N'[i]?=some x->aI[i]?=some (some v)->oV env'.scope x->(env'.kindOf x=some .cell\/env'.kindOf x=some .free)/\oV X.env.scope x/\(X.env.kindOf x=some .cell\/X.env.kindOf x=some .free)/\∃j:Nat,X.N[j]?=some x/\σ[j]?=some (some v))
  (hlen:aI.length=N'.length) (hg:Gn s.gens.size g'):Inv (cxBlock X N' env' A' stack' s H ex) [] aI H' {s with heap:=h1,gens:=g',toks:=tk}:=by
 have Nf:∀b∈ex,∀x c,X.env.cells.lookup x=some c->c≠b:=fun b hb=>(hf b hb).2.2.2.2.1
 refine ⟨⟨I.ok.mod,sR,LK.trans I.ok.glob,OS.trans I.ok.blt,hC,fun x y c a b=>I.ok.inj x y c (fR x c a) (fR y c b),xI,fun _ _ z=>(nomatch z),hh,HY,OT,fun b hb=>⟨i8 (lc (OU b hb) hC),fun x c e=>Nf b hb x c (fR x c e)⟩,
   I.bs,sK I.ok.bsz I.sz,fun b o e hb=>?_,fun b hb z=>?_,I.stack,I.nv⟩,rfl,hg,Nc,⟨m0,gh,fun i x v e1 e2 e3=>?_⟩,fun x c e=>?_,HZ,fun x c e=>?_,fun p hp=>absurd (show p∈([]:List (ac×ii)) from hp) (by simp),hok,hlen⟩
 ·rcases (hf b hb).2.2.2.1 with z|z
  ·exact I.ok.noex b o e z
  ·exact absurd (lc (f8 e) (sK I.ok.bsz z)) (JJ _)
 ·rcases lp.mp (I.ie b z) with q|q
  ·exact (hf b hb).2.1 q
  ·exact (hf b hb).2.2.1 q
 ·obtain ⟨k1,vx,k2,j,n1,n2⟩:=Ia i x v e1 e2 e3
  obtain ⟨m,hn,hl⟩:=I.loc
  obtain ⟨u,r,l⟩:=hl j x v n1 n2 vx
  refine ⟨u,r,.inr ⟨k1,?_⟩⟩
  obtain ⟨c',Ng⟩:=xI x k1
  rcases l with ⟨kl,_⟩|⟨_,c,ec,z⟩
  ·rcases k2 with q|q <;> (rw [kl] at q;cases q)
  ·have:c'=c:=dL ((fR x c' Ng).symm.trans ec)
   subst this
   exact ⟨c',Ng,z.keeps D7⟩
 ·obtain ⟨v,z⟩:=I.cell x c (fR x c e)
  exact ⟨v,z.keeps D7⟩
 ·obtain ⟨v,o,ho,hd⟩:=I.cell x c (fR x c e)
  exact Nc.free c o ho (I.freeC x c (fR x c e)) fun z=>Nf c z x c (fR x c e) rfl
theorem lookup_map2 {c:ba->OE->OE}:∀{names:List (ba×OE)} {x:ba},(names.map fun (p:ba×OE)=>(p.1,c p.1 p.2)).lookup x=(names.lookup x).map (c x)
 | [],x=>rfl
 |(n,k')::r,x=>by
          have ih:=@lookup_map2 c r x
          rw [wb,Mc,Mc]
          cases hx:x==n with
          |true=>
           have e:x=n :=by simpa using hx
           subst e
           rfl
          |false=>exact ih
theorem mw {scope:uu} {env:Go} (x:ba):(relabel scope env).names.lookup x=(scope.names.lookup x).map fun k=>if (k==.free && env.scope.kind==.function && env.kindOf x==some .cell)=true then .cell else k :=by
 have e:(relabel scope env).names=scope.names.map fun p=>(p.1,(fun n k=>if (k==r6 && env.scope.kind==.function && env.kindOf n==some .cell)=true then OE.cell else k) p.1 p.2) :=by
  unfold relabel
  dsimp only
  congr 1
  funext p
  obtain ⟨n,k⟩:=p
  dsimp only
  split <;> rfl
 rw [e]
 exact lookup_map2 (c:=fun n k=>if (k==r6 && env.scope.kind==.function && env.kindOf n==some .cell)=true then OE.cell else k)
def a7 (N:List ba) (sc scope:uu) (N':List ba) (tn:Nat) (idx:List Nat):Prop:=
 scope.kind=.function/\(∀y∈scope.names,y.2≠.cell/\(y.2=.local->scope.names.lookup y.1=some .local)/\(y.2=.free->sc.names.lookup y.1=some .cell\/sc.names.lookup y.1=some .free)) /\
  N'.length=tn+idx.length/\∀p∈idx.zip (N'.drop tn),N[p.1]?=some p.2/\scope.names.lookup p.2=some .free
instance (N:List ba) (sc scope:uu) (N':List ba) (tn:Nat) (idx:List Nat):Decidable (a7 N sc scope N' tn idx) :=by unfold a7;infer_instance
def bX (tn:Nat) (idx:List Nat) (σ:St):St:=qr tn none++idx.map fun i=>(σ[i]?).join
theorem a7.at {N:List ba} {sc scope:uu} {N':List ba} {tn:Nat} {idx:List Nat} (B:a7 N sc scope N' tn idx) {σ:St} {i:Nat} {x:ba} {v:V} (h1:N'[i]?=some x) (h2:(bX tn idx σ)[i]?=some (some v)) :
  scope.names.lookup x=some .free/\∃j:Nat,N[j]?=some x/\σ[j]?=some (some v) :=by
 obtain ⟨_,_,b3,b4⟩:=B
 unfold bX at h2
 by_cases hi:i<tn
 ·rw [l8 (by simpa using hi),NJ,if_pos hi] at h2
  cases h2
 ·rw [sB (by simpa using hi),Pe,br] at h2
  cases e:idx[i - tn]? with
  |none=>rw [e] at h2;cases h2
  |some k=>
   rw [e] at h2
   have h3:(σ[k]?).join=some v:=dL h2
   have e2:(N'.drop tn)[i - tn]?=some x :=by
    rw [List.getElem?_drop]
    have:tn+(i - tn)=i :=by omega
    rw [this];exact h1
   have m:(k,x)∈idx.zip (N'.drop tn) :=by
    refine c8 (i:=i - tn) ?_
    rw [zd]
    exact ⟨e,e2⟩
   obtain ⟨a,b⟩:=b4 _ m
   refine ⟨b,k,a,?_⟩
   cases q:σ[k]? with
   |none=>rw [q] at h3;cases h3
   |some w=>rw [q] at h3;exact congrArg some h3
theorem a7.len {N:List ba} {sc scope:uu} {N':List ba} {tn:Nat} {idx:List Nat} (B:a7 N sc scope N' tn idx) (σ:St):(bX tn idx σ).length=N'.length :=by
 rw [B.2.2.1]
 unfold bX
 simp
section
variable {X:Cx}
def ik (X:Cx) (ifs:List ci) (tt:TT):Prop:=
 ∀(pins:List (ac×ii)) (s:ap) (σ:St) (H:Hp) (Q:Bool->Hp->Prop),Inv X pins σ H s->tt σ H Q->
  wpAny (model X.prog X.w) X.A (forIn ifs true fun c r=>if r=true then do let ok <- isTrue c X.env (eval c X.env);pure (Tr ok) else pure (Tr r)) (TP X pins σ Q) X.xe s
def LL:TT:=fun _ H Q=>Q true H
theorem Fu:ik X [] LL:=fun _ _ _ H _ I h=>wpAny_tests_nil ⟨H,I,h⟩
theorem Fv {c:ci} {tc:TT} (h:PT X c tc):ik X [c] tc:=fun pins s σ H Q I q=>wpAny_tests_one (h pins s σ H Q I q)
abbrev zD (X:Cx) (N':List ba) (scope:uu) (cl:List (ba×ac)) (C:ac) (s:ap) (H:Hp) (fp:List ac):Cx:=cxBlock X N' (compEnvC scope cl C X.env) X.A X.stack s H fp
abbrev Blk (X:Cx) (N':List ba) (scope:uu) (P:Cx->Prop):Prop:=∀(cl:List (ba×ac)) (C:ac) (s:ap) (H:Hp) (fp:List ac),P (zD X N' scope cl C s H fp)
end
abbrev TB:=St->Hp->(St->Hp->Prop)->Prop
def PB (X:Cx) (b:T5 Unit) (t:TB):Prop:=∀(pins:List (ac×ii)) (s:ap) (σ:St) (H:Hp) (Q:St->Hp->Prop),Inv X pins σ H s->t σ H Q->wpAny (model X.prog X.w) X.A b (fun _ s'=>∃aI H',Inv X pins aI H' s'/\Q aI H') X.xe s
def xJ (J:It) (g:TG) (tt:TT) (tb:TB) (QE:St->Hp->Prop) (W:Nat->Nat->St->Hp->Prop):Prop:=∀i m τ H,W i m τ H->
 (J.stop i H/\QE τ H)\/(J.go i H/\∀x H',J.yld i H x H'->g x τ H' fun aD H2=>tt aD H2 fun b H3=>if b=true then tb aD H3 fun P8 H4=>∃m',m'<m/\W (i+1) m' P8 H4 else ∃m',m'<m/\W (i+1) m' aD H3)
def xK (e tg iter:ci) (ifs:List ci) (d:Nat) (it acc:ag) (env:Go) (body:T5 Unit):T5 Fin:=do
 standAt iter.pos
 match <- pyNext it with
 |none=>pure (.done .next)
 |some v=>
  letOwnedTupleGo tg it v
  assign tg env v
  let mut ok:=true
  for c in ifs do
   if ok then ok <- isTrue c env (eval c env)
  if ok then body
  again (.compLoop e d it acc env)
section
variable {Y:Cx} {e tg iter:ci} {ifs:List ci} {dp:Nat} {it:ac} {acc:ag} {body:T5 Unit} {fp:List ac} {bR:Nat->db->Prop} {J:It} {g:TG} {tt:TT} {tb:TB} {QE:St->Hp->Prop} {W:Nat->Nat->St->Hp->Prop} {R:UL->ap->Prop} {pins:List (ac×ii)} {τ:St} {H:Hp} {s:ap} {m0:Nat}
structure Cq (Y:Cx) (e tg iter:ci) (ifs:List ci) (dp:Nat) (acc:ag) (body:T5 Unit):Prop where
 q:∀it,(Code.compLoop e dp it acc Y.env).quiet=true
 den:∀it Q E s,wpAny (model Y.prog Y.w) Y.A ((compTurn e dp it acc Y.env).onRaise (fun x=>do noteFrame x Y.env;theTreesLotGoes x)) Q E s->wpAny (model Y.prog Y.w) (Y.A.under (.compLoop e dp it acc Y.env)) ((model Y.prog Y.w).den (.compLoop e dp it acc Y.env)) Q E s
 turn:∀it,compTurn e dp it acc Y.env=xK e tg iter ifs dp it acc Y.env body
 denS:∀it Q E s,wpAny (model Y.prog Y.w) Y.A ((compStart e dp it acc Y.env).onRaise (fun x=>do noteFrame x Y.env;standAt theWindowsPlace)) Q E s->wpAny (model Y.prog Y.w) (Y.A.under (.compStart e dp it acc Y.env)) ((model Y.prog Y.w).den (.compStart e dp it acc Y.env)) Q E s
 cl:(clausesOf e)[dp]?=some ⟨tg,iter,ifs,0⟩
theorem zE (hc:Y.calm=true) (my:∀x s,Y.xe x s->False) (C:Cq Y e tg iter ifs dp acc body) (hg:PG Y tg g) (ht:ik Y ifs tt) (hb:PB Y body tb) (T:Turn Y.prog Y.w Y.K tg J fp it bR) (turn:xJ J g tt tb QE W)
  (I:Inv Y pins τ H s) (st:bR 0 s.heap) (f:∀b∈fp,dD Y pins H b) (w0:W 0 m0 τ H) (hR:∀cz H' s',Inv Y pins cz H' s'->QE cz H'->R (.ok .next) s') :
  codeAny (model Y.prog Y.w) Y.A (.compLoop e dp (.ref it) acc Y.env) R s :=by
 have stat:∀{H':Hp},(∀b∈fp,H' b=none)->∀b∈fp,dD Y pins H' b:=fun hn b hb=>⟨hn b hb,(f b hb).2⟩
 refine codeAny_loop (C.q _) (fun n s'=>∃i τ H',Inv Y pins τ H' s'/\bR i s'.heap/\(∀b∈fp,H' b=none)/\W i n τ H') (fun n s hI=>?_) m0 ⟨0,τ,H,I,st,fun b hb=>(f b hb).1,w0⟩
 refine C.den _ _ _ _ (wpAny_noted ?_)
 rw [C.turn]
 unfold xK
 obtain ⟨i,τ,H3,I3,qX,zg,w3⟩:=hI
 rcases turn i n τ H3 w3 with ⟨stop,qn⟩|⟨go,step⟩
 ·refine al (At (al (lw (T.done Y rfl rfl rfl hc i pins s τ H3 (fun _ _=>False) I3 (stat zg) qX stop) (fun r s4 ⟨hr,I4⟩=>?_) fun _ _ z=>z.elim)))
  subst hr
  exact ca (hR _ _ _ I4 qn)
 ·refine al (At (al (lw (T.item Y rfl rfl rfl hc i pins s τ H3 (fun _ _=>False) I3 (stat zg) qX go) (fun r s4 ⟨u,hr,h4⟩=>?_) fun _ _ z=>z.elim)))
  subst hr
  refine al (lw h4 (fun _ s5 ⟨x,H5,I5,r5,y5,ja,tH⟩=>?_) fun _ _ z=>z.elim)
  have tI:=I5.pinned (stat tH) (T.obj _ _ ja)
  have again:∀{nZ:St} {H7:Hp} {s7:ap},Inv Y (pins++ig fp s5.heap) nZ H7 s7->(∃m',m'<n/\W (i+1) m' nZ H7)->
    ∃m,m<n/\∃i τ H',Inv Y pins τ H' s7/\bR i s7.heap/\(∀b∈fp,H' b=none)/\W i m τ H':=fun {nZ H7 s7} I7 n7=>by
   obtain ⟨m',hm,w7⟩:=n7
   refine ⟨m',hm,i+1,nZ,H7,I7.cp,T.keep _ _ _ ja fun b hb o e=>(I7.pin (b,o) (ge _ (ge _ (cL hb e)))).1,fun b hb=>?_,w7⟩
   obtain ⟨o,e,d⟩:=T.obj _ _ ja b hb
   exact (I7.pin (b,o) (ge _ (ge _ (cL hb e)))).2.1
  refine al (lw (hg _ s5 τ H5 x u _ tI r5 (step x H5 y5)) (fun _ s6 ⟨jN,H6,I6,q6⟩=>?_) fun _ _ z=>(my _ _ z).elim)
  refine al (lw (ht _ s6 jN H6 _ I6 q6) (fun ok s7 ⟨H7,I7,q7⟩=>?_) fun _ _ z=>(my _ _ z).elim)
  cases ok with
  |false=>exact ca ⟨rfl,again I7 q7⟩
  |true=>
   refine al (lw (hb _ s7 jN H7 _ I7 q7) (fun _ s8 ⟨Ss,H8,I8,q8⟩=>?_) fun _ _ z=>(my _ _ z).elim)
   exact ca ⟨rfl,again I8 q8⟩
theorem xM (C:Cq Y e tg iter ifs dp acc body) (T:Turn Y.prog Y.w Y.K tg J fp it bR) (st:bR 0 s.heap)
  (h:codeAny (model Y.prog Y.w) Y.A (.compLoop e dp (.ref it) acc Y.env) R s):codeAny (model Y.prog Y.w) Y.A (.compStart e dp (.ref it) acc Y.env) R s :=by
 refine codeAny_of_tree (C.denS _ _ _ _ (wpAny_notedAt ?_))
 unfold compStart
 rw [C.cl]
 show wpAny _ _ (ask>>=_) _ _ s
 refine al (S8 (wpAny_ite ?_))
 split
 ·first
   |exact al (ca (ca (UM rfl h)))
   |exact ca (UM rfl h)
 ·have h2:wpAny (model Y.prog Y.w) Y.A (pyIter (.ref it)) (fun zF s'=>codeAny (model Y.prog Y.w) Y.A (.compLoop e dp zF acc Y.env) R s') (notedBy (model Y.prog Y.w) Y.A Y.env fun x s'=>R (.error x) s') s:=T.self _ 0 _ _ _ st h
  first
   |exact al (GE (al (At (al (lw h2 (fun zF s' h'=>ca (UM (C.q zF) h')) fun _ _ x=>x)))))
   |(refine al (GE ?_);show wpAny _ _ (standAt iter.pos>>=_) _ _ s;exact al (At (al (lw h2 (fun zF s' h'=>ca (UM (C.q zF) h')) fun _ _ x=>x))))
end
section
variable {Y:Cx}
def tN (D:ac) (te:TE):TB:=fun τ H Q=>te τ H fun y H4=>∃ys,H4 D=some (.lst ys)/\ys.length<sizeLine/\Q τ (upd H4 D (.lst (ys++[y])))
theorem Fw {elt:ci} {te:TE} {D:ac} (h:PE Y elt te):PB Y (do let _ <- call (.builtin "list.append") [.ref D,<- eval elt Y.env]) (tN D te) :=by
 intro pins s τ H Q I q
 refine al (lw (h pins s τ H _ I q) (fun yv s8 ⟨y,H8,I8,r8,q8⟩=>?_) fun _ _ z=>z)
 obtain ⟨ys,hD,hsz,w8⟩:=q8
 refine al (lw (rh (X:=Y) _ s8 τ H8 (.ref D) [y] (.ref D) [yv] (fun v H9=>v=.aB/\H9=upd H8 D (.lst (ys++[y]))) I8 rfl (.cons r8 .nil) ⟨_,ys,y,rfl,rfl,hD,hsz,rfl,rfl⟩) (fun rv s9 ⟨v9,H9,I9,_,_,e9⟩=>?_) fun _ _ z=>z)
 subst e9
 exact ca ⟨τ,_,I9,w8⟩
end
section
variable {X:Cx}
theorem compG_core {pins:List (ac×ii)} {σ:St} {H2:Hp} {s2:ap} {e tg iter:ci} {ifs:List ci} {scope:uu} {N':List ba} {tn:Nat} {idx:List Nat} {g:TG} {tt:TT} {tb:ac->TB} {body:ag->Go->T5 Unit} {it:ac} {fp:List ac} {bR:Nat->db->Prop} {J:It}
  {cl:List (ba×ac)} {E:ag->ap->Prop} {RR:ag->ac->UL->ap->Prop} {Q:VK} {mk:T5 ag} {O0:HO} {o0:ii}
  (P9:∀(Q:ag->ap->Prop),Q (.ref s2.heap.objs.size) {s2 with heap:=s2.heap.push o0}->wpAny (model X.prog X.w) X.A mk Q E s2) (HY:o0.isFreed=false)
  (Qa:∀(H:Hp) (h1:db),h1.get? s2.heap.objs.size=some o0->ObjOk X.prog X.w H h1 s2.heap.objs.size O0)
  (hc:X.calm=true) (B:a7 X.N X.env.scope scope N' tn idx)
  (hC:∀(D:ac),Blk X N' scope fun Y=>Cq Y e tg iter ifs 0 (.ref D) (body (.ref D) Y.env))
  (hg:Blk X N' scope fun Y=>PG Y tg g) (ht:Blk X N' scope fun Y=>ik Y ifs tt) (hb:∀D,Blk X N' scope fun Y=>PB Y (body (.ref D) Y.env) (tb D))
  (I:Inv X pins σ H2 s2) (T:Turn X.prog X.w X.K tg J fp it bR) (st:bR 0 s2.heap) (f2:∀b∈fp,dD X pins H2 b)
  (gm:∀n c,cl.lookup n=some c->X.env.cells.lookup n=some c) (iB:∀n,(n,r6)∈scope.names->∃c,cl.lookup n=some c)
  (hq:∀D,H2 D=none->∃W:Nat->Nat->St->Hp->Prop,(∃m,W 0 m (bX tn idx σ) (upd H2 D O0))/\xJ J g tt (tb D) (fun _ H'=>Q (.ref D) H') W)
  (Ib:∀D C m s' H',Inv X pins σ H' s'->dD X pins H' C->s'.heap.Ns C m->Q (.ref D) H'->RR (.ref D) C (.ok .next) s') :
  wpAny (model X.prog X.w) X.A mk (fun acc qm=>wpAny (model X.prog X.w) X.A (newFunctionEnv scope X.env.globals cl [] X.env.qual none .none (some X.env)) (fun tO Cr=>
   codeAny (model X.prog X.w) X.A (.compStart e 0 (.ref it) acc {tO with scope:=relabel scope X.env}) (RR acc tO.locals) Cr) E qm) E s2 :=by
 obtain ⟨b1,b2,b3,b4⟩:=id B
 refine P9 _ (wpAny_newFunctionEnv (fun y hy=>(b2 y hy).1) (by intro y hy;simp at hy) (fun jd tP o8=>?_) b1)
 dsimp only at tP o8 ⊢
 generalize hG:s2.heap.push o0=G at tP o8 ⊢
 have Ic:G.objs.size=s2.heap.objs.size+1 :=by rw [<- hG,Pi]
 have Nh:s2.heap.objs.size≠G.objs.size :=by rw [Ic];exact i8 (FS _)
 have Ct:s2.heap.objs.size<=G.objs.size :=by rw [Ic];exact DO _
 have below:∀b,b<s2.heap.objs.size->b≠G.objs.size:=fun b hb=>by rw [Ic];exact i8 (SY hb)
 have old:∀b o,s2.heap.get? b=some o->jd.get? b=some o:=fun b o e=>o8.extBut b o (below b (f8 e)) (bn _ (hG▸bn _ e))
 have Qb:jd.get? s2.heap.objs.size=some o0:=o8.extBut _ _ Nh (bn _ (hG▸ff _ HY))
 have Ni:H2 s2.heap.objs.size=none:=I.hok.fresh (ce _)
 have HZ:upd H2 s2.heap.objs.size O0 G.objs.size=none :=by rw [af (wn Nh)];exact I.hok.fresh Ct
 have OV:cQ X.prog X.w (upd H2 s2.heap.objs.size O0) jd:=I.hok.laid old (ce _) (Qa _ _ Qb)
 have tQ:∀b∈fp,b<s2.heap.objs.size:=fun b hb=>let ⟨o,e,_⟩:=T.obj _ _ st b hb;f8 e
 obtain ⟨W,⟨m0,w0⟩,turn⟩:=hq s2.heap.objs.size Ni
 have I1:Inv (zD X N' scope cl G.objs.size s2 H2 fp) [] (bX tn idx σ) (upd H2 s2.heap.objs.size O0) {s2 with heap:=jd,toks:=s2.toks+([]:List (ba×ag)).length}:=by
  refine rn (g':=s2.gens) (m0:=fun x=>([]:List (ba×ag)).reverse.lookup x) I b1 rfl rfl gm (fun x hx=>?_) (fun z=>I.ok.hd z) I.ok.frames (.inl rfl) Ct f2 tQ (Un.laid old (ce _) Ni) OV HZ old tP (fun i x v e1 e2 e3=>?_) (B.len σ) I.bare.self
  ·have nY:(relabel scope X.env).names.lookup x=some .cell\/(relabel scope X.env).names.lookup x=some .free:=hx
   rw [mw] at nY
   cases q:scope.names.lookup x with
   |none=>rw [q] at nY;rcases nY with z|z <;> cases z
   |some k0=>
    have hm:=u7 q
    rw [q] at nY
    by_cases hk:k0=.free
    ·subst hk;exact iB x hm
    ·have nk:(k0==r6)=false :=by simpa using hk
     have nc:=(b2 _ hm).1
     simp only [SI,nk,TH,i4,if_false] at nY
     rcases nY with z|z
     ·exact absurd (dL z) nc
     ·exact absurd (dL z) hk
  ·obtain ⟨fr,j,e4,e5⟩:=B.at e1 e2
   have kx:=(b2 _ (u7 fr)).2.2 rfl
   refine ⟨?_,.inr kx,kx,j,e4,e5⟩
   show (relabel scope X.env).names.lookup x=some .cell\/(relabel scope X.env).names.lookup x=some .free
   rw [mw,fr]
   simp only [SI]
   split
   ·exact .inl rfl
   ·exact .inr rfl
 have stat:∀b∈fp,dD (zD X N' scope cl G.objs.size s2 H2 fp) [] (upd H2 s2.heap.objs.size O0) b:=fun b hb=>by
  refine ⟨by rw [af (i8 (tQ b hb))];exact (f2 b hb).1,below b (tQ b hb),fun z=>?_,.inl hb,fun x c e=>(f2 b hb).2.2.2.2.1 x c (gm x c e),fun p hp=>absurd (show p∈([]:List (ac×ii)) from hp) (by simp)⟩
  rcases lp.mp (I.ie b z) with q|q
  ·exact (f2 b hb).2.1 q
  ·exact (f2 b hb).2.2.1 q
 have Nj:bR 0 jd:=T.keep _ _ _ st fun b _ o e=>old b o e
 refine xM (Y:=zD X N' scope cl G.objs.size s2 H2 fp) (hC _ cl G.objs.size s2 H2 fp) T Nj (zE (Y:=zD X N' scope cl G.objs.size s2 H2 fp) hc (fun _ _ z=>z) (hC _ cl G.objs.size s2 H2 fp) (hg cl G.objs.size s2 H2 fp) (ht cl G.objs.size s2 H2 fp) (hb _ cl G.objs.size s2 H2 fp) T turn I1 Nj stat w0 fun cz H' s' I4 qn=>?_)
 have J2:Inv X pins σ H' s':=I.xt I4.os I4.base I4.hok I4.bare fun b hb=>⟨(f2 b hb).2.2.2.1,(f2 b hb).2.1,(f2 b hb).2.2.2.2.1,(f2 b hb).2.2.2.2.2⟩
 obtain ⟨mm,hm,_⟩:=I4.loc
 exact Ib _ _ mm s' H' J2 (I.kQ Ct I4.free) hm qn
end
section
variable {X:Cx}
def sS (J:It) (g:TG) (tt:TT) (te:TE) (D:ac) (Q:VK) (W:Nat->Nat->St->Hp->Prop):Prop:=∀i m τ H,W i m τ H->
 (J.stop i H/\Q (.ref D) H)\/(J.go i H/\∀x H',J.yld i H x H'->g x τ H' fun aD H2=>tt aD H2 fun b H3=>if b=true then te aD H3 fun y H4=>∃ys m',H4 D=some (.lst ys)/\ys.length<sizeLine/\m'<m/\W (i+1) m' aD (upd H4 D (.lst (ys++[y]))) else ∃m',m'<m/\W (i+1) m' aD H3)
def sT (tn:Nat) (idx:List Nat) (wi:TI) (g:TG) (tt:TT) (te:TE):TE:=fun σ H Q=>wi σ H fun J H1=>∀D,H1 D=none->∃W:Nat->Nat->St->Hp->Prop,(∃m,W 0 m (bX tn idx σ) (upd H1 D (.lst [])))/\sS J g tt te D Q W
theorem xN {J:It} {g:TG} {tt:TT} {te:TE} {D:ac} {Q:VK} {W:Nat->Nat->St->Hp->Prop} (h:sS J g tt te D Q W):xJ J g tt (tN D te) (fun _ H=>Q (.ref D) H) W :=by
 simp only [sS,exists_and_left] at h
 exact h
theorem Cu (elt tg iter:ci) (ifs:List ci) (scope:uu) (pos:rf) (it acc:ag) (env:Go) :
  compTurn (.ListComp elt [⟨tg,iter,ifs,0⟩] scope pos) 0 it acc env=xK (.ListComp elt [⟨tg,iter,ifs,0⟩] scope pos) tg iter ifs 0 it acc env (do let _ <- call (.builtin "list.append") [acc,<- eval elt env]) :=by
 rfl
theorem rq {pins:List (ac×ii)} {σ:St} {H2:Hp} {s2:ap} {tg elt iter:ci} {ifs:List ci} {scope:uu} {pos:rf} {N':List ba} {tn:Nat} {idx:List Nat} {g:TG} {tt:TT} {te:TE} {it:ac} {fp:List ac} {bR:Nat->db->Prop} {J:It}
  {cl:List (ba×ac)} {E:ag->ap->Prop} {RR:ag->ac->UL->ap->Prop} {Q:VK}
  (hc:X.calm=true) (B:a7 X.N X.env.scope scope N' tn idx)
  (hg:Blk X N' scope fun Y=>PG Y tg g) (ht:Blk X N' scope fun Y=>ik Y ifs tt) (he:Blk X N' scope fun Y=>PE Y elt te)
  (I:Inv X pins σ H2 s2) (T:Turn X.prog X.w X.K tg J fp it bR) (st:bR 0 s2.heap) (f2:∀b∈fp,dD X pins H2 b)
  (gm:∀n c,cl.lookup n=some c->X.env.cells.lookup n=some c) (iB:∀n,(n,r6)∈scope.names->∃c,cl.lookup n=some c)
  (hq:∀D,H2 D=none->∃W:Nat->Nat->St->Hp->Prop,(∃m,W 0 m (bX tn idx σ) (upd H2 D (.lst [])))/\sS J g tt te D Q W)
  (Ib:∀D C m s' H',Inv X pins σ H' s'->dD X pins H' C->s'.heap.Ns C m->Q (.ref D) H'->RR (.ref D) C (.ok .next) s') :
  wpAny (model X.prog X.w) X.A (newList []) (fun acc qm=>wpAny (model X.prog X.w) X.A (newFunctionEnv scope X.env.globals cl [] X.env.qual none .none (some X.env)) (fun tO Cr=>
   codeAny (model X.prog X.w) X.A (.compStart (.ListComp elt [⟨tg,iter,ifs,0⟩] scope pos) 0 (.ref it) acc {tO with scope:=relabel scope X.env}) (RR acc tO.locals) Cr) E qm) E s2:=
 compG_core (body:=fun acc env=>do let _ <- call (.builtin "list.append") [acc,<- eval elt env]) (tb:=fun D=>tN D te) (O0:=.lst []) (o0:={cls:=.type "list",dict:=none,data:=.seq ([]:List ag).toArray})
  (fun Q q=>ul q) rfl (fun H h1 hd=>⟨rb _,[],0,.nil,hd⟩) hc B (fun D cl C s H fp=>⟨fun _=>rfl,fun _ _ _ _ h=>h,fun _=>Cu ..,fun _ _ _ _ h=>h,rfl⟩) hg ht (fun D cl C s H fp=>Fw (he cl C s H fp))
  I T st f2 gm iB (fun D hD=>let ⟨W,w0,t⟩:=hq D hD;⟨W,w0,xN t⟩) Ib
variable {tg elt iter:ci} {ifs:List ci} {scope:uu} {pos:rf} {N':List ba} {tn:Nat} {idx:List Nat} {wi:TI} {g:TG} {tt:TT} {te:TE}
theorem dD.turn {pins:List (ac×ii)} {σ:St} {H:Hp} {s:ap} {C:ac} {h':db} (f:dD X pins H C) (I:Inv X pins σ H s) (hs:xw C s.heap h'):Inv X pins σ H {s with heap:=h'}:=
 I.turned (t':=s.toks) (fun b o hb e=>(hs.2 b hb).trans e) f.1 f.2.1 f.2.2.2.1 f.2.2.2.2.1 f.2.2.2.2.2
theorem vD (hc:X.calm=true) (B:a7 X.N X.env.scope scope N' tn idx) (hi:PI X tg iter wi)
  (hg:Blk X N' scope fun Y=>PG Y tg g) (ht:Blk X N' scope fun Y=>ik Y ifs tt) (he:Blk X N' scope fun Y=>PE Y elt te)
  (hs:∀x,foldedSetIterable iter X.env x=pure x :=by intro _;rfl):PE X (.ListComp elt [⟨tg,iter,ifs,0⟩] scope pos) (sT tn idx wi g tt te) :=by
 refine ⟨?_⟩
 intro pins s σ H Q I h
 obtain ⟨cl,jO,gm,iB⟩:=iN (scope:=scope) (env:=X.env) fun n hn=>I.ok.has n ((B.2.1 _ hn).2.2 rfl)
 rw [eval_ListComp]
 refine wpAny_comprehension_free (use:=none) rfl hs jO B.1 (fun y hy=>(B.2.1 y hy).2.1) (lw (hi pins s σ H _ I h) (fun xv s1 h1=>lw h1 (fun y8 s2 h2=>?_) fun _ _ z=>z) fun _ _ z=>z)
 obtain ⟨it,fp,bR,J,H2,e,I2,T,tG,f2,q2⟩:=h2
 subst e
 refine rq (RR:=fun acc C=>compPost (model X.prog X.w) X.A X.xe none (EP X pins σ Q) acc C) hc B hg ht he I2 T tG f2 gm iB q2 fun D C m s' H' J2 fC hm q=>?_
 exact ⟨m,hm,fun h' wA=>⟨.ref D,H',fC.turn J2 wA,rfl,q⟩⟩
theorem o9 {i:Nat} {y:ba} {py mB:rf} (hN:X.N.Nodup) (fS:X.N[i]?=some y) (hy:X.env.scope.names.lookup y=some .local) (hc:X.calm=true) (B:a7 X.N X.env.scope scope N' tn idx) (hi:PI X tg iter wi)
  (hg:Blk X N' scope fun Y=>PG Y tg g) (ht:Blk X N' scope fun Y=>ik Y ifs tt) (he:Blk X N' scope fun Y=>PE Y elt te)
  (zG:swapsWith (.ListComp elt [⟨tg,iter,ifs,0⟩] scope pos) (some (.Name y py)) mB.line X.env=pure true :=by rfl)
  (hs:∀x,foldedSetIterable iter X.env x=pure x :=by intro _;rfl):PS X (.Assign [.Name y py] (.ListComp elt [⟨tg,iter,ifs,0⟩] scope pos) mB) (tE (sT tn idx wi g tt te) (sQ i)) :=by
 refine ⟨?_⟩
 intro pins s σ H D I h
 obtain ⟨cl,jO,gm,iB⟩:=iN (scope:=scope) (env:=X.env) fun n hn=>I.ok.has n ((B.2.1 _ hn).2.2 rfl)
 rw [exec_Assign_Name_used _ _ _ _ zG]
 refine al (At (al ?_))
 show wpAny _ X.A (do let _ <- comprehension (.ListComp elt [⟨tg,iter,ifs,0⟩] scope pos) scope X.env _ (newList []) false (eval iter X.env) (some (assign (.Name y py) X.env))) _ _ s
 refine al (lw (wpAny_comprehension_free (use:=some (assign (.Name y py) X.env)) (Q:=fun _ s'=>SP X pins D .next s') rfl hs jO B.1 (fun y hy=>(B.2.1 y hy).2.1)
  (lw (hi pins s σ H _ I h) (fun xv s1 h1=>lw h1 (fun y8 s2 h2=>?_) fun _ _ z=>z) fun _ _ z=>z)) (fun _ s' hq=>ca (ca hq)) fun _ _ z=>z)
 obtain ⟨it,fp,bR,J,H2,e,I2,T,tG,f2,q2⟩:=h2
 subst e
 refine rq (RR:=fun acc C=>compPost (model X.prog X.w) X.A X.xe (some (assign (.Name y py) X.env)) (fun _ s'=>SP X pins D .next s') acc C) hc B hg ht he I2 T tG f2 gm iB q2 fun E C m s' H' J2 fC hm q=>?_
 show wpAny _ X.A (assign (.Name y py) X.env (.ref E)) _ _ s'
 refine wpAny_assign_Name (store_ok2 J2 hN fS (.inl hy) (v:=.ref E) rfl (fun s3 J3 ⟨a,D8,ha⟩=>?_) (.inr hy))
 have gq:C≠a :=by
  rcases ha with z|z
  ·rw [z];exact fC.2.1
  ·exact fun w=>fC.2.2.2.2.1 _ _ z w.symm
 exact ⟨m,hm.sameBut D8 gq,fun h' wA=>⟨_,H',fC.turn J3 wA,q⟩⟩
end
def Tb (P:ac) (H:Hp):Prop:=∃ps,H P=some (.cN ps)/\Ix ps.toList
section
variable {X:Cx} {pins:List (ac×ii)} {σ:St} {H:Hp} {s:ap} {P:ac} {ps more:Array ag} {h':db}
theorem Inv.grown (I:Inv X pins σ H s) (hP:H P=some (.cN ps)) (k:∀b o,b≠P->s.heap.get? b=some o->h'.get? b=some o) (n:h'.get? P=some {cls:=.none,data:=.fields (ps++more)}) (t':Nat) :
  Inv X pins σ (upd H P (.cN (ps++more))) {s with heap:=h',toks:=t'}:=by
 have ne:∀b u,H b=some u->u≠.cN ps->b≠P:=fun b u e d=>xr e hP d
 have nn:∀b,H b=none->b≠P:=fun b e z=>by rw [z,hP] at e;cases e
 refine I.un ⟨fun b o e q _ _=>k b o (nn b q) e,fun b o e q _ _=>⟨o.slots,k b o (nn b q) e⟩,fun b o e q _=>by rw [af (nn b q)];exact q,fun b o e _=>?_,fun b xs e=>by rw [af (ne b _ e (by intro z;cases z))];exact e,
  fun b o u e=>by rw [af (ne b _ e (by intro z;cases z))];exact e,fun b qs e=>?_⟩ fun b u e=>?_
 ·by_cases hb:b=P
  ·subst hb;exact ⟨_,n⟩
  ·exact ⟨o,k b o hb e⟩
 ·by_cases hb:b=P
  ·subst hb
   rw [hP] at e;cases e
   exact ⟨more,ax⟩
  ·exact ⟨#[],by rw [af hb,e];simp⟩
 ·by_cases hb:b=P
  ·subst hb
   rw [ax] at e;cases e
   exact n
  ·rw [af hb] at e
   refine (I.hok b u e).cV (fun c v hc q=>k c v ?_ q) (fun c q=>?_) fun c xs q=>?_
   ·rcases hc with z|z
    ·rw [z];exact hb
    ·exact ne c _ z (by intro w;cases w)
   ·rw [af (ne c _ q (by intro w;cases w))];exact q
   ·rw [af (ne c _ q (by intro w;cases w))];exact q
theorem qo {c:ac} {pos:rf} {qn:ba} {scope:uu} {Q:ag->ap->Prop} {A:l9} {E:ag->ap->Prop} (I:Inv X pins σ H s) (hc:X.env.code=.ref c) (hd:mT X.base c P) (hP:H P=some (.cN ps)) (ht:Ix ps.toList)
  (h:∀code gr s',Ix gr.toList->Inv X pins σ (upd H P (.cN gr)) s'->(∀b o,b≠P->s.heap.get? b=some o->s'.heap.get? b=some o)->s'.gens=s.gens->Q code s'):wpAny (model X.prog X.w) A (genexprCode X.env pos qn scope) Q E s :=by
 have tR:s.heap.get? P=some (LP ps):=I.hok P _ hP
 have jJ:=hd.keeps I.bk
 have ic:=jJ.code tR ht
 cases q:codeAmong pos ps.toList with
 |some c'=>
  refine wpAny_genexprCode_hit hc ic q (h c' ps s ht ?_ (fun _ _ _ e=>e) rfl)
  have e:upd H P (.cN ps)=H :=by
   funext b
   by_cases hb:b=P
   ·subst hb;rw [ax,hP]
   ·rw [af hb]
  rw [e];exact I
 |none=>
  refine wpAny_genexprCodeX hc ic (jJ.tab tR) q fun c' h' tk ex h1 h2 Su _ ta _=>?_
  obtain ⟨_,D9⟩:=ta
  have tr:Ix (ps++#[rawInt pos.line,rawInt pos.col,l5 c']).toList :=by
   rw [Sm]
   exact TriplesOk_snoc _ _ _ _ ht
  exact h _ _ _ tr (I.grown hP (fun b o hb e=>ex b o hb e) D9 tk) (fun b o hb e=>ex b o hb e) rfl
end
def kW (s bu:ap):Prop:=bu.heap=s.heap/\bu.os=s.os/\Gn s.gens.size bu.gens
theorem Inv.j7 {X:Cx} {pins:List (ac×ii)} {σ:St} {H:Hp} {s bu:ap} (I:Inv X pins σ H s) (o:kW s bu):Inv X pins σ H bu :=by
 obtain ⟨h,g,d,t,os⟩:=s
 obtain ⟨h',g',d',t',MZ⟩:=bu
 obtain ⟨e1,e2,e3⟩:=o
 cases e1
 cases e2
 exact ⟨I.ok,I.os,I.bare.trans e3,I.base,I.loc,I.cell,I.free,I.freeC,I.pin,I.hok,I.len⟩
section
variable {Y:Cx} {A2:l9} {tg elt iter:ci} {ifs:List ci} {scope:uu} {pos:rf} {it:ac} {fp:List ac} {bR:Nat->db->Prop} {J:It} {g:TG} {tt:TT} {te:TE} {pp:List (ac×ii)} {R:GenEnd} {Yp:Protocol}
def Ie (J:It) (g:TG) (tt:TT) (te:TE) (stopAt:Bool) (Z:Bool->Hp->Prop) (W:Nat->Nat->St->Hp->Prop):Prop:=∀i m τ H,W i m τ H->
 (J.stop i H/\Z (!stopAt) H)\/(J.go i H/\∀x H',J.yld i H x H'->g x τ H' fun aD H2=>tt aD H2 fun b H3=>if b=true then te aD H3 fun y H4=>∃c,y=.bl c/\(if c=stopAt then Z stopAt H4 else ∃m',m'<m/\W (i+1) m' aD H4) else ∃m',m'<m/\W (i+1) m' aD H3)
theorem Cv (hA:Y.A=A2.over (.compLoop (.GeneratorExp elt [⟨tg,iter,ifs,0⟩] scope pos) 0 (.ref it) .none Y.env) []) (my:Y.xe=fun _ _=>False) (hc:Y.calm=true) (jP:Y.env.scope.isCoroutine=false)
  (T:Turn Y.prog Y.w Y.K tg J fp it bR) (hg:PG Y tg g) (ht:ik Y ifs tt) (he:PE Y elt te) (stat:∀{H':Hp},(∀b∈fp,H' b=none)->∀b∈fp,dD Y pp H' b)
  {W:Nat->Nat->St->Hp->Prop} {Z:Bool->Hp->Prop} {stopAt:Bool} (turn:Ie J g tt te stopAt Z W)
  (hR:∀n s₀ aw τ H,Inv Y pp τ H aw->Z (!stopAt) H->R n s₀ (.ok .next) aw)
  (hY:∀n s₀ s je c τ H,Inv Y pp τ H s->(c=stopAt->Z stopAt H)->(c≠stopAt->∀bu,kW s bu->je (.send .none) bu)->Yp n s₀ (.bool c) s je) :
  ∀(m n i:Nat) (τ:St) (H:Hp) (s s₀:ap),m<n->W i m τ H->Inv Y pp τ H s->bR i s.heap->(∀b∈fp,H b=none)->
   Seg (model Y.prog Y.w) A2 R Yp n s₀ (.compLoop (.GeneratorExp elt [⟨tg,iter,ifs,0⟩] scope pos) 0 (.ref it) .none Y.env)
    ((model Y.prog Y.w).den (.compLoop (.GeneratorExp elt [⟨tg,iter,ifs,0⟩] scope pos) 0 (.ref it) .none Y.env)) [] s :=by
 intro m
 induction m using Ts with
 |ind m ih=>
  intro n i τ H s s₀ Ea w I st fr
  show Seg _ A2 _ _ _ s₀ _ ((compTurn (.GeneratorExp elt [⟨tg,iter,ifs,0⟩] scope pos) 0 (.ref it) .none Y.env).onRaise (leaving Y.env)) [] s
  rw [compTurn_gen,TC]
  rcases turn i m τ H w with ⟨stop,qn⟩|⟨go,step⟩
  ·refine r9 (At ?_)
   have d:=T.done Y rfl rfl rfl hc i pp s τ H (fun _ _=>False) I (stat fr) st stop
   rw [hA] at d
   refine r9 (lw d (fun r s1 ⟨hr,I1⟩=>?_) fun _ _ z=>z.elim)
   subst hr
   exact seg_end (.ok .next) (hR _ _ _ _ _ I1 qn)
  ·refine r9 (At ?_)
   have d:=T.item Y rfl rfl rfl hc i pp s τ H (fun _ _=>False) I (stat fr) st go
   rw [hA] at d
   refine r9 (lw d (fun r s4 ⟨u,hr,h4⟩=>?_) fun _ _ z=>z.elim)
   subst hr
   refine r9 (lw h4 (fun _ s5 ⟨x,H5,I5,r5,y5,ja,tH⟩=>?_) fun _ _ z=>z.elim)
   have tI:=I5.pinned (stat tH) (T.obj _ _ ja)
   have back:∀{nZ:St} {H7:Hp} {s7:ap},Inv Y (pp++ig fp s5.heap) nZ H7 s7->bR (i+1) s7.heap/\∀b∈fp,H7 b=none:=fun {nZ H7 s7} I7=>by
    refine ⟨T.keep _ _ _ ja fun b hb o e=>(I7.pin (b,o) (ge _ (ge _ (cL hb e)))).1,fun b hb=>?_⟩
    obtain ⟨o,e,d⟩:=T.obj _ _ ja b hb
    exact (I7.pin (b,o) (ge _ (ge _ (cL hb e)))).2.1
   have d2:=hg _ s5 τ H5 x u _ tI r5 (step x H5 y5)
   rw [hA,my] at d2
   refine r9 (lw d2 (fun _ s6 ⟨jN,H6,I6,q6⟩=>?_) fun _ _ z=>z.elim)
   have d3:=ht _ s6 jN H6 _ I6 q6
   rw [hA,my] at d3
   refine r9 (lw d3 (fun ok s7 ⟨H7,I7,q7⟩=>?_) fun _ _ z=>z.elim)
   have hy:∀v,yieldOut Y.env v=yieldValue v:=fun v=>by simp only [yieldOut,jP,i4,if_false]
   cases ok with
   |false=>
    simp only [i4,if_false] at q7 ⊢
    obtain ⟨m',pf,w7⟩:=q7
    exact Te rfl (ih m' pf n (i+1) jN H7 s7 s₀ (by omega) w7 I7.cp (back I7).1 (back I7).2)
   |true=>
    simp only [if_true] at q7 ⊢
    simp only [hy]
    rw [SZ,SZ,TY,TY]
    have d4:=he _ s7 jN H7 _ I7 q7
    rw [hA,my] at d4
    refine seg_wrap (lw d4 (fun yv s8 ⟨y,H8,I8,r8,q8⟩=>?_) fun _ _ z=>z.elim)
    obtain ⟨c,ey,q8⟩:=q8
    subst ey
    cases (show yv=UG c from r8)
    obtain ⟨n,rfl⟩:∃n',n=n'+1:=⟨n - 1,by omega⟩
    refine seg_at (seg_yield rfl rfl rfl (hY _ _ _ _ c jN H8 I8.cp (fun e=>by rw [if_pos e] at q8;exact q8) fun e bu ok=>?_))
    rw [if_neg e] at q8
    obtain ⟨m',pf,w8⟩:=q8
    have I9:=I8.j7 ok
    exact Te rfl (ih m' pf n (i+1) jN H8 bu bu (by omega) w8 I9.cp (back I9).1 (back I9).2)
end
abbrev dy (elt tg iter:ci) (ifs:List ci) (scope:uu) (pos:rf):ci:=.GeneratorExp elt [⟨tg,iter,ifs,0⟩] scope pos
abbrev Ig (X:Cx) (N':List ba) (scope:uu) (cl:List (ba×ac)) (C:ac) (code:ag) (A':l9) (s:ap) (H:Hp) (fp:List ac):Cx:=
 cxBlock X N' (genEnv scope cl C code builtinsNs X.env) A' (genEnv scope cl C code builtinsNs X.env::X.stack) s H fp
abbrev dW (X:Cx) (N':List ba) (scope:uu) (k:Nat) (P:Cx->Prop):Prop:=∀(cl:List (ba×ac)) (C:ac) (code:ag) (A':l9) (s:ap) (H:Hp) (fp:List ac),bG k A'->P (Ig X N' scope cl C code A' s H fp)
structure tS (X:Cx) (pins:List (ac×ii)) (σ:St) (N':List ba) (scope:uu) (tn:Nat) (idx:List Nat) (k:Nat) (elt tg iter:ci) (ifs:List ci) (pos:rf) (J:It) (H3:Hp) (a:ac) (s5:ap)
  (Y:Cx) (it:ac) (fp:List ac) (bR:Nat->db->Prop) (g:Nat) (pp:List (ac×ii)):Prop where
 inv:Inv Y pp (bX tn idx σ) H3 s5
 isg:∀{τ:St} {H':Hp} {s':ap},Inv Y pp τ H' s'->s'.heap.IsGen a g
 st:s5.gens[g]?=some (.fresh (.compStart (dy elt tg iter ifs scope pos) 0 (.ref it) .none Y.env))
 T:Turn Y.prog Y.w Y.K tg J fp it bR
 tn0:bR 0 s5.heap
 fr:∀b∈fp,H3 b=none
 stat:∀{H':Hp},(∀b∈fp,H' b=none)->∀b∈fp,dD Y pp H' b
 out:∀{τ:St} {H':Hp} {s':ap},Inv Y pp τ H' s'->Inv X pins σ H' s'
 A:Y.A=X.A.in4.in1.over (.compLoop (dy elt tg iter ifs scope pos) 0 (.ref it) .none Y.env) []
 xe:Y.xe=fun _ _=>False
 calm:Y.calm=true
 co:Y.env.scope.isCoroutine=false
 gsz:∀{τ:St} {H':Hp} {s':ap},Inv Y pp τ H' s'->g<s'.gens.size
 blk:∀P:Cx->Prop,dW X N' scope k P->P Y
 prog:Y.prog=X.prog
 w:Y.w=X.w
section
variable {X:Cx} {tg elt iter:ci} {ifs:List ci} {scope:uu} {pos:rf} {N':List ba} {tn:Nat} {idx:List Nat} {wi:TI} {g:TG} {tt:TT} {te:TE} {c P:ac} {k:Nat}
def Eb (P:ac) (wi:TI) (R:It->Hp->Prop):St->Hp->Prop:=fun σ H=>wi σ H fun J H1=>Tb P H1/\∀ps,Ix ps.toList->R J (upd H1 P (.cN ps))
theorem tT {pins:List (ac×ii)} {s:ap} {σ:St} {H:Hp} {QQ:ag->ap->Prop} {R:It->Hp->Prop} (hr:bG (k+1) X.A) (hc:X.calm=true) (B:a7 X.N X.env.scope scope N' tn idx)
  (h0:scope.names.lookup (".0" : ba)=some .local) (jP:scope.isCoroutine=false) (dG:X.env.code=.ref c) (hd:mT X.base c P) (di:∃bm ob,SX X.base mainGlobals X.mg bm ob)
  (hi:PI X tg iter wi) (hs:∀x,genFold iter X.env x=pure x) (I:Inv X pins σ H s) (h:Eb P wi R σ H)
  (q:∀J H3 a s5 Y it fp bR gn pp,tS X pins σ N' scope tn idx k elt tg iter ifs pos J H3 a s5 Y it fp bR gn pp->R J H3->QQ (.ref a) s5) :
  wpAny (model X.prog X.w) X.A (eval (dy elt tg iter ifs scope pos) X.env) QQ X.xe s :=by
 obtain ⟨cl,jO,gm,iB⟩:=iN (scope:=scope) (env:=X.env) fun n hn=>I.ok.has n ((B.2.1 _ hn).2.2 rfl)
 refine wpAny_GeneratorExp_make jP jO (fun y hy=>(B.2.1 y hy).1) h0 B.1 hr.depth (thn (hi pins s σ H _ I h) fun xv s1 h1=>thn h1 fun y8 s2 h2=>?_) hs
 obtain ⟨it,fp,bR,J,H2,e,I2,T,tG,f2,⟨ps,hP,tU⟩,q2⟩:=h2
 subst e
 refine ⟨I2.nolimit,qo I2 dG hd hP tU fun code gr s3 Qc I3 kp Sv=>?_⟩
 obtain ⟨bm,ob,bmod⟩:=di
 have fT:=bmod.keeps I3.bk
 refine wpAny_builtinsFor (by rw [I3.ok.glob];exact fT.ns) fT.name fT.ne fT.obj fT.cls fT.dict fT.data ?_
 intro h' y4 wA
 have Nk:∀b∈fp,b≠P:=fun b hb z=>by have:=(f2 b hb).1;rw [z,hP] at this;cases this
 have qX:bR 0 s3.heap:=T.keep _ _ _ tG fun b hb o e=>kp b o (Nk b hb) e
 have tQ:∀b∈fp,b<s3.heap.objs.size:=fun b hb=>let ⟨o,e,_⟩:=T.obj _ _ qX b hb;f8 e
 have f3:∀b∈fp,dD X pins (upd H2 P (.cN gr)) b:=fun b hb=>⟨by rw [af (Nk b hb)];exact (f2 b hb).1,(f2 b hb).2⟩
 have hsz:h'.objs.size=s3.heap.objs.size+1 :=by rw [wA.1,Pi]
 have LN:∀b o,s3.heap.get? b=some o->h'.get? b=some o:=fun b o e=>wA.extBut b o (i8 (f8 e)) (bn _ e)
 have Nm:Gn s3.gens.size (s3.gens.push (.fresh (.compStart (dy elt tg iter ifs scope pos) 0 (.ref it) .none (genEnv scope cl s3.heap.objs.size code builtinsNs X.env)))):=⟨UD.push I3.bare.1 rfl,by rw [Uv];exact DO _⟩
 have Np:Inv X pins σ (upd H2 P (.cN gr)) {s3 with gens:=s3.gens.push (.fresh (.compStart (dy elt tg iter ifs scope pos) 0 (.ref it) .none (genEnv scope cl s3.heap.objs.size code builtinsNs X.env)))}:=I3.j7 ⟨rfl,rfl,Nm⟩
 have hA:(X.A.in4.in1.over (.compLoop (dy elt tg iter ifs scope pos) 0 (.ref it) .none (genEnv scope cl s3.heap.objs.size code builtinsNs X.env)) []).frames=some (genEnv scope cl s3.heap.objs.size code builtinsNs X.env::X.stack) :=by
  show pushEnvs [_] (pushEnvs [] X.A.frames)=_
  rw [I.ok.frames];rfl
 have LO:bG k (X.A.in4.in1.over (.compLoop (dy elt tg iter ifs scope pos) 0 (.ref it) .none (genEnv scope cl s3.heap.objs.size code builtinsNs X.env)) []) :=by
  refine ⟨hr.hd,?_,?_⟩
  ·show X.A.depth+0+1+3 * k+5<recursionLimit
   have:=hr.dp
   omega
  ·show X.A.units+1+1+1+1+1+0+3+16 * k+200<cLine
   have:=hr.un
   omega
 generalize ph:({cls:=.type "generator",data:=.fields #[.int s3.gens.size 0,.str "<genexpr>" (s3.toks+1),.str (X.env.qual ++ "<genexpr>") (s3.toks+1+1)]}:ii)=n5
 have sU:∀b o,s3.heap.get? b=some o->(h'.push n5).get? b=some o:=fun b o e=>bn _ (LN b o e)
 have OW:n5.isFreed=false :=by rw [<- ph];rfl
 have Qd:(h'.push n5).get? h'.objs.size=some n5:=ff _ OW
 have Qe:h'.objs.size≠s3.heap.objs.size :=by rw [hsz];exact Nat.succ_ne_self _
 have Qf:upd H2 P (.cN gr) h'.objs.size=none:=I3.hok.fresh (by rw [hsz];exact DO _)
 have I5:=rn (X:=X) (N':=N') (A':=X.A.in4.in1.over (.compLoop (dy elt tg iter ifs scope pos) 0 (.ref it) .none (genEnv scope cl s3.heap.objs.size code builtinsNs X.env)) []) (env':=genEnv scope cl s3.heap.objs.size code builtinsNs X.env) (stack':=genEnv scope cl s3.heap.objs.size code builtinsNs X.env::X.stack) (ex:=fp) (h1:=h'.push n5) (m0:=fun y=>if y = ".0" then some (.ref it) else none)
  (g':=s3.gens.push (.fresh (.compStart (dy elt tg iter ifs scope pos) 0 (.ref it) .none (genEnv scope cl s3.heap.objs.size code builtinsNs X.env)))) (tk:=s3.toks+1+1+1) (aI:=bX tn idx σ) Np B.1 rfl I3.ok.blt.symm gm (fun x hx=>by
   have nY:scope.names.lookup x=some .cell\/scope.names.lookup x=some .free:=hx
   rcases nY with z|z
   ·exact absurd rfl ((B.2.1 _ (u7 z)).1)
   ·exact iB x (u7 z)) (fun z=>I.ok.hd z) hA (.inr ⟨rfl,rfl⟩) (ce _) f3 tQ (Un.kept sU) (I3.hok.kept sU) (I3.hok.fresh (ce _)) sU (y4.push _) (fun i x v e1 e2 e3=>by
   obtain ⟨fr,j,e4,e5⟩:=B.at e1 e2
   have kx:=(B.2.1 _ (u7 fr)).2.2 rfl
   exact ⟨.inr fr,.inr kx,kx,j,e4,e5⟩) (B.len σ) (Gn.self Nm)
 have Qg:h'.objs.size ∉ eu X.stack:=fun z=>by
  rcases lp.mp (I3.ie _ z) with q|q
  ·exact Pd (lc I3.lt (by rw [hsz];exact DO _)) q
  ·exact I3.GZ (by rw [hsz];exact DO _) q
 have sP:∀v,n5.data≠.cell v :=by rw [<- ph];intro v z;cases z
 have I6:=I5.qh (pins':=[(h'.objs.size,n5)]) (fun p hp=>by
  rcases li.mp hp with rfl
  exact ⟨Qd,Qf,Qe,Qg,sP⟩)
 refine q J _ _ _ (Ig X N' scope cl s3.heap.objs.size code _ _ _ fp) it fp bR s3.gens.size [(h'.objs.size,n5)] ⟨I6,fun {τ H' s'} J'=>?_,?_,T,T.keep _ _ _ qX fun b _ o e=>sU b o e,fun b hb=>(f3 b hb).1,fun {H'} hn b hb=>?_,fun {τ H' s'} J'=>?_,rfl,rfl,hc,jP,fun {τ H' s'} J'=>?_,fun Pp hb=>hb cl _ code _ _ _ fp LO,rfl,rfl⟩ (q2 gr Qc)
 ·have:=(J'.pin (h'.objs.size,n5) (ge _ (li.mpr rfl))).1
  exact ⟨n5,_,_,this,by rw [<- ph],by rw [<- ph],by rw [<- ph]⟩
 ·exact Array.getElem?_push_size ..
 ·refine ⟨hn b hb,i8 (tQ b hb),fun z=>?_,.inl hb,fun x c e=>(f2 b hb).2.2.2.2.1 x c (gm x c e),fun p hp z=>?_⟩
  ·rcases lp.mp (I2.ie b z) with q|q
   ·exact (f2 b hb).2.1 q
   ·exact (f2 b hb).2.2.1 q
  ·rcases li.mp hp with rfl
   have z':h'.objs.size=b:=z
   have:=tQ b hb
   rw [<- z',hsz] at this
   exact absurd this (UJ.mpr (DO _))
 ·exact Np.xt J'.os J'.base J'.hok J'.bare fun b hb=>⟨(f3 b hb).2.2.2.1,(f3 b hb).2.1,(f3 b hb).2.2.2.2.1,(f3 b hb).2.2.2.2.2⟩
 ·have:=J'.bare.2
  have e:(Ig X N' scope cl s3.heap.objs.size code (X.A.in4.in1.over (.compLoop (dy elt tg iter ifs scope pos) 0 (.ref it) .none (genEnv scope cl s3.heap.objs.size code builtinsNs X.env)) []) {s3 with gens:=s3.gens.push (.fresh (.compStart (dy elt tg iter ifs scope pos) 0 (.ref it) .none (genEnv scope cl s3.heap.objs.size code builtinsNs X.env)))} (upd H2 P (.cN gr)) fp).s₀.gens.size=s3.gens.size+1 :=by
   show (s3.gens.push _).size=_
   rw [Uv]
  rw [e] at this
  omega
theorem Cw {prog:cr} {w:gc} {A:l9} {a:ac} {R':UL->ap->Prop} (In:Nat->ap->Prop)
  (turn:∀n s,In n s->wpAny (model prog w) A.in1 (pyNext (.ref a)) (fun r s1=>match r with
   |none=>R' (.ok (.ret (.bool true))) s1
   |some v=>∃c,v=.bool c/\if c=true then ∃m,m<n/\In m s1 else R' (.ok (.ret (.bool false))) s1) (fun e s'=>R' (.error e) s') s) :
  ∀(n:Nat) (s:ap),In n s->codeAny (model prog w) A (.builtin "all.loop" ⟨[.ref a],[]⟩) R' s :=by
 intro n
 induction n using Ts with
 |ind n ih=>
  intro s h
  refine Cs F.entry_all_loop ?_
  rw [xy Uk _]
  show wpAny _ A.in1 (pyNext (.ref a)>>=_) _ _ s
  refine al (lw (turn n s h) (fun r s1 q=>?_) fun _ _ z=>z)
  cases r with
  |none=>exact al (GE (ca q))
  |some v=>
   obtain ⟨c,e,q⟩:=q
   subst e
   refine al (KB (zn ?_))
   refine al (wpAny_letGo ?_)
   cases c with
   |true=>
    simp only [if_true] at q ⊢
    obtain ⟨m,hm,hI⟩:=q
    exact ca ⟨EU Uk _,ih m hm s1 hI⟩
   |false=>
    simp only [i4,if_false] at q ⊢
    exact al (GE (ca q))
theorem fU {s:ap} {g:Nat} {x:S6} {n:Nat} (h:Gn n s.gens) (hx:x.bare=true):Gn s.gens.size (s.setGen g x).gens :=by
 refine ⟨fun y hy=>?_,?_⟩
 ·have Qh:y∈s.gens.setIfInBounds g x:=hy
  rcases Array.mem_or_eq_of_mem_setIfInBounds Qh with z|z
  ·exact h.1 y z
  ·rw [z];exact hx
 ·show s.gens.size<=(s.gens.setIfInBounds g x).size
  rw [Array.size_setIfInBounds]
  exact ce _
theorem rA {s:ap} {g:Nat} {x:S6} (h:g<s.gens.size):(s.setGen g x).gens[g]?=some x :=by
 show (s.gens.setIfInBounds g x)[g]?=_
 rw [Array.getElem?_setIfInBounds_self]
 simp [h]
theorem rB {Y:Cx} {A2:l9} {R:GenEnd} {Yp:Protocol} {n:Nat} {s₀ s:ap} {it:ac} {J:It} {fp:List ac} {bR:Nat->db->Prop} (T:Turn Y.prog Y.w Y.K tg J fp it bR) {i:Nat} (st:bR i s.heap)
  (loop:Seg (model Y.prog Y.w) A2 R Yp n s₀ (.compLoop (dy elt tg iter ifs scope pos) 0 (.ref it) .none Y.env) ((model Y.prog Y.w).den (.compLoop (dy elt tg iter ifs scope pos) 0 (.ref it) .none Y.env)) [] s) :
  Seg (model Y.prog Y.w) A2 R Yp n s₀ (.compStart (dy elt tg iter ifs scope pos) 0 (.ref it) .none Y.env) ((model Y.prog Y.w).den (.compStart (dy elt tg iter ifs scope pos) 0 (.ref it) .none Y.env)) [] s :=by
 show Seg _ A2 _ _ _ s₀ _ ((compStart (dy elt tg iter ifs scope pos) 0 (.ref it) .none Y.env).onRaise (leaving Y.env)) [] s
 unfold compStart
 rw [TC]
 show Seg _ A2 _ _ _ s₀ _ ((ask>>=_).wrap _ _ _ _) [] s
 refine r9 (S8 ?_)
 split
 ·exact Te rfl loop
 ·first
   |exact r9 (GE (r9 (At (r9 (T.self _ i s _ _ st (Te rfl loop))))))
   |(refine r9 (GE ?_);show Seg _ A2 _ _ _ s₀ _ ((standAt iter.pos>>=_).wrap _ _ _ _) [] s;exact r9 (At (r9 (T.self _ i s _ _ st (Te rfl loop)))))
def Ih (P:ac) (tn:Nat) (idx:List Nat) (wi:TI) (g:TG) (tt:TT) (te:TE):TE:=fun σ H Q=>Eb P wi (fun J H1=>∃W:Nat->Nat->St->Hp->Prop,(∃m,W 0 m (bX tn idx σ) H1)/\Ie J g tt te false (fun b H2=>Q (.bl b) H2) W) σ H
theorem Ii {p j8:rf} (hr:bG (k+1) X.A) (hc:X.calm=true) (B:a7 X.N X.env.scope scope N' tn idx)
  (h0:scope.names.lookup (".0" : ba)=some .local) (jP:scope.isCoroutine=false) (dG:X.env.code=.ref c) (hd:mT X.base c P) (di:∃bm ob,SX X.base mainGlobals X.mg bm ob)
  (rC:Gl X "all") (hm:X.mg "all" = none) (hi:PI X tg iter wi) (hg:dW X N' scope k fun Y=>PG Y tg g) (ht:dW X N' scope k fun Y=>ik Y ifs tt) (he:dW X N' scope k fun Y=>PE Y elt te)
  (hs:∀x,genFold iter X.env x=pure x :=by intro _;rfl):PE X (.Call (.Name "all" p) [dy elt tg iter ifs scope j8] [] pos) (Ih P tn idx wi g tt te) :=by
 refine ⟨?_⟩
 intro pins s σ H Q I h
 refine AM (gb I rC hm PyProof.Rows.boot_all ?_)
 refine PyProof.Rows.callWith_builtin1 ?_ rfl rfl
 show wpAny _ _ (spliced ((false,eval (dy elt tg iter ifs scope j8) X.env)::[])) _ _ s
 refine GT (tT hr hc B h0 jP dG hd di hi hs I h ?_)
 intro J H3 a s5 Y it fp bR gn pp G ⟨W,⟨m0,w0⟩,turn⟩
 refine Ll ?_
 refine call_function_tree F.kind_all F.plain_all F.entry_all (F.args_all1 _) ?_
 unfold wr.«all»
 refine al (m:=oneArg "all" _) (ca ?_)
 refine al (wpAny_pyIter_gen (G.isg G.inv) ?_)
 refine ca ⟨EU Uk _,?_⟩
 have xO:=Cv (A2:=X.A.in4.in1) (pp:=pp) (R:=fun n s₀ r aw=>r=.ok .next/\∃τ H,Inv Y pp τ H aw/\Q (.bl true) H)
  (Yp:=fun n s₀ v s je=>∃c τ H,v=.bool c/\Inv Y pp τ H s/\(c=false->Q (.bl false) H)/\(c≠false->∀bu,kW s bu->je (.send .none) bu)) G.A G.xe G.calm G.co G.T (G.blk _ hg) (G.blk _ ht) (G.blk _ he) G.stat turn
  (fun n s₀ aw τ H J z=>⟨rfl,τ,H,J,z⟩) (fun n s₀ s je c τ H J z1 z2=>⟨c,τ,H,rfl,J,z1,z2⟩)
 have hP:=G.prog
 have hW:=G.w
 rw [hP,hW] at xO
 refine Cw (A:=X.A) (fun n s=>(∃τ H,Inv Y pp τ H s)/\∃gs,s.gens[gn]?=some gs/\∀bu,kW s bu->gs.Goes (model X.prog X.w) X.A.in4.in1 (fun n s₀ r aw=>r=.ok .next/\∃τ H,Inv Y pp τ H aw/\Q (.bl true) H)
  (fun n s₀ v s je=>∃c τ H,v=.bool c/\Inv Y pp τ H s/\(c=false->Q (.bl false) H)/\(c≠false->∀bu,kW s bu->je (.send .none) bu)) n (.send .none) bu) ?_ (m0+1) s5 ?_
 ·rintro n s6 ⟨⟨τ,H6,I6⟩,gs,Ij,ph⟩
  have Sg:=G.gsz I6
  refine Ul (Ul (Ul ?_))
  show wpAny (model X.prog X.w) X.A.in4 (pyNext (.ref a)) _ _ s6
  refine wpAny_pyNext_genexpQ (A:=X.A.in4) (P:=fun n s₀ aw=>∃τ H,Inv Y pp τ H aw/\Q (.bl true) H) hr.hd I6.nolimit hr.depth (G.isg I6) Ij (ph _ ⟨rfl,rfl,fU I6.bare rfl⟩) (fun v s1 zH hb hv=>?_) (fun s1 hp h' hk=>?_)
  ·obtain ⟨c,wB,H1,e,I1,z1,z2⟩:=hv
   subst e
   refine ⟨c,rfl,?_⟩
   have tV:kW s1 (s1.setGen gn zH):=⟨rfl,rfl,fU I1.bare hb⟩
   cases c with
   |false=>
    rw [if_neg ij]
    exact ⟨.bl false,H1,G.out (I1.j7 tV),rfl,z1 rfl⟩
   |true=>
    rw [if_pos rfl]
    have z3:=z2 (by decide)
    cases n with
    |zero=>exact (z3 s1 ⟨rfl,rfl,I1.bare.self⟩).elim
    |succ m=>
     refine ⟨m,FS _,⟨wB,H1,I1.j7 tV⟩,zH,rA (G.gsz I1),fun bu o=>z3 bu ⟨o.1,o.2.1,?_⟩⟩
     exact tV.2.2.trans o.2.2
  ·obtain ⟨wB,H1,I1,z1⟩:=hp
   have I2:=I1.kept (t':=s1.toks) hk
   have Ik:kW {s1 with heap:=h'} {s1.setGen gn .finished with heap:=h'}:=⟨rfl,rfl,fU (s:=s1) I1.bare rfl⟩
   exact ⟨.bl true,H1,G.out (I2.j7 Ik),rfl,z1⟩
 ·refine ⟨⟨_,_,G.inv⟩,_,G.st,fun bu o=>⟨rfl,?_⟩⟩
  have I7:=G.inv.j7 o
  have zI:bR 0 bu.heap :=by rw [o.1];exact G.tn0
  have q:=rB (iter:=iter) (ifs:=ifs) (scope:=scope) (pos:=j8) (elt:=elt) G.T zI (by rw [hP,hW];exact xO m0 (m0+1) 0 _ _ bu bu (FS _) w0 I7 zI G.fr)
  rw [hP,hW] at q
  exact q
end
def zJ (x:ba):It:=⟨fun i _=>i<x.length,fun i H v H'=>H'=H/\∃c,x.cps[i]?=some c/\v=.str ⟨#[c]⟩,fun i _=>x.length<=i⟩
theorem tW {P:cr} {w:gc} {K:ar} {tg:ci} (it:ac) (x:ba) (t:Tz) (ty:String) (mr:["enumerate","zip","dict_itemiterator","dict_reverseitemiterator","odict_iterator","itertools.zip_longest","itertools.pairwise"].contains ty=false)
  (W:∀A:l9,A.handled=none->Walks P w A it [it] [it] x.cps.size (SignAt x) (fun i h=>h.IsStrIter it ty x t i))
  (self:∀(A:l9) (i:Nat) (s:ap) (Q:ag->ap->Prop) (E:ag->ap->Prop),s.heap.IsStrIter it ty x t i->Q (.ref it) s->wpAny (model P w) A (pyIter (.ref it)) Q E s) :
  Turn P w K tg (zJ x) [it] it (fun i h=>h.IsStrIter it ty x t i/\i<=x.length) where
 mem :=by simp
 obj:=fun i h st b hb=>by
  have e:b=it :=by simpa using hb
  subst e
  obtain ⟨⟨o,ho,_,hd⟩,_⟩:=st
  exact ⟨o,ho,fun v z=>by rw [hd] at z;cases z⟩
 keep:=fun i h h' st k=>⟨let ⟨o,ho,r⟩:=st.1;⟨o,k it (by simp) o ho,r⟩,st.2⟩
 item :=by
  intro X hP hw hK hc i pins s σ H E I hf st hg
  subst hP hw hK
  obtain ⟨f0,f1,f2,f3,f4,f5⟩:=hf it (by simp)
  have Nq:i<x.cps.size:=hg
  refine (W X.A (I.ok.hd hc)).item i s _ _ Nq st.1 fun v h' tk hv jK kk=>?_
  obtain ⟨c,u,Qi,rfl⟩:=hv
  have I1:Inv X pins σ H {s with heap:=h',toks:=tk}:=I.turned (fun b o hb e=>kk b o (by simpa using hb) e) f0 f1 f3 f4 f5
  obtain ⟨o,ho,fR,hd⟩:=id jK
  exact ⟨_,rfl,o4 (s:={s with heap:=h',toks:=tk}) (n:=ty) ho fR hd mr ⟨.str ⟨#[c]⟩,H,I1,⟨u,rfl⟩,⟨rfl,c,Qi,rfl⟩,⟨jK,Nq⟩,fun b hb=>(hf b hb).1⟩⟩
 done :=by
  intro X hP hw hK hc i pins s σ H E I hf st hg
  subst hP hw hK
  obtain ⟨f0,f1,f2,f3,f4,f5⟩:=hf it (by simp)
  have e:i=x.cps.size:=Nat.le_antisymm st.2 hg
  subst e
  exact (W X.A (I.ok.hd hc)).done s _ _ st.1 fun h' tk kk=>⟨rfl,I.turned (fun b o hb e=>kk b o (by simpa using hb) e) f0 f1 f3 f4 f5⟩
 self:=fun A i s Q E st h=>self A i s Q E st.1 h
section
variable {X:Cx} {tg l:ci} {tl:TE}
def OX (tl:TE):TI:=fun σ H R=>tl σ H fun x H1=>∃z,x=.str z/\R (zJ z) H1
theorem Il (hl:PE X l tl):PI X tg l (OX tl) :=by
 intro pins s σ H R I h
 refine thn (hl pins s σ H _ I h) fun v s1 ⟨y,H1,I1,r1,q1⟩=>?_
 obtain ⟨z,rfl,q⟩:=q1
 obtain ⟨t,rfl⟩:=r1
 have fin:∀(o:ii) (ty:String),(∀v,o.data≠.cell v)->(s1.heap.push o).IsStrIter s1.heap.objs.size ty z t 0->Turn X.prog X.w X.K tg (zJ z) [s1.heap.objs.size] s1.heap.objs.size (fun i h=>h.IsStrIter s1.heap.objs.size ty z t i/\i<=z.length)->Hl X pins σ tg R (.ref s1.heap.objs.size) {s1 with heap:=s1.heap.push o}:=fun o ty hd hit T=>
  ⟨_,[s1.heap.objs.size],_,zJ z,H1,rfl,I1.kept (t':=s1.toks) (fun b u e=>bn _ e),T,⟨hit,rb _⟩,fun b hb=>by
   have e:b=s1.heap.objs.size :=by simpa using hb
   subst e
   exact I1.kQ (ce _) (I1.hok.fresh (ce _)),q⟩
 cases ha:z.cps.all (· < 128)
 ·exact wpAny_pyIter_wide ha (fin _ "str_iterator" (fun v e=>by cases e) ⟨_,ff _ rfl,rfl,rfl⟩ (tW _ z t _ (by decide) (fun A' hA=>Walks.strWide hA _ z t) fun A i s Q E st h=>wpAny_pyIter_striter_wide st h))
 ·exact wpAny_pyIter_ascii ha (fin _ "str_ascii_iterator" (fun v e=>by cases e) ⟨_,ff _ rfl,rfl,rfl⟩ (tW _ z t _ (by decide) (fun A' hA=>Walks.strAscii hA _ z t) fun A i s Q E st h=>wpAny_pyIter_striter_ascii st h))
def OY:V->Option Int->Option Int->Hp->VK->Prop:=fun x lo hi H Q=>∃z,x=.str z/\z.length<=sizeLine/\Q (.str (Uw z lo hi)) H
theorem Im:D5 X OY :=by
 intro pins s σ H x v vl vu lo hi sl Q I rx hs pl pu h
 obtain ⟨z,rfl,hz,q⟩:=h
 obtain ⟨t,rfl⟩:=rx
 refine ⟨"str",_,F.slot_str_getitem.lookup,typeIs_str _ _ _,?_⟩
 have fin:∀(l u:Option (Int×Tz)),s.heap.IsSlice sl l u none->l.map (·.1)=lo->u.map (·.1)=hi->wpAny (model X.prog X.w) X.A (getItem (.str z t) (.ref sl)) (EP X pins σ Q) X.xe s:=fun l u e e1 e2=>by
  refine wpAny_getItem_str_slice (l:=l) (u:=u) (st:=none) e rfl ?_
  refine post_val_or_str ⟨?_,fun t' k=>?_⟩
  ·exact (show (Uw z (l.map (·.1)) (u.map (·.1))).length<=sizeLine from sK (Txt.slice_le z _ _) hz)
  ·refine ⟨.str (Uw z lo hi),H,I.tok k,⟨t',?_⟩,q⟩
   rw [<- e1,<- e2]
   rfl
 obtain ⟨o,ho,hc,hd⟩:=hs
 cases pl with
 |none=>
  cases pu with
  |none=>exact fin none none ⟨o,ho,hc,hd⟩ rfl rfl
  |int j uj=>exact fin none (some (j,uj)) ⟨o,ho,hc,hd⟩ rfl rfl
 |int i ui=>
  cases pu with
  |none=>exact fin (some (i,ui)) none ⟨o,ho,hc,hd⟩ rfl rfl
  |int j uj=>exact fin (some (i,ui)) (some (j,uj)) ⟨o,ho,hc,hd⟩ rfl rfl
theorem vE:dA X (.builtin "isinstance") (fun xs H Q=>∃x T t b,xs=[x,.ty T]/\fI X.K H x t/\TJ X.K t (.type T)=some b/\Q (.bl b) H) :=by
 intro pins s σ H xs us Q I r h
 obtain ⟨x,T,t,b,rfl,ty,e,q⟩:=h
 obtain ⟨u,w',rfl,r1,r2⟩:=vals2 r
 cases (show w'=BS T from r2)
 exact zp I r1 ty e fun tk=>⟨.bl b,H,I.tok tk,rfl,q⟩
theorem j9:∀{xs:List V} {us:List ag},xs.length=us.length->(∀(i:Nat) (v:V),xs[i]?=some v->∃u,us[i]?=some u/\RelV v u)->Vals xs us
 | [],[],_,_=>.nil
 | [],_::_,h,_=>by simp at h
 |_::_,[],h,_=>by simp at h
 |x::xs,u::us,h,g=>by
          obtain ⟨u',e,r⟩:=g 0 x rfl
          have e':u=u':=by simpa using e
          subst e'
          exact .cons r (j9 (by simpa using h) fun i v hv=>by
           obtain ⟨w,e2,r2⟩:=g (i+1) v (by simpa using hv)
           exact ⟨w,by simpa using e2,r2⟩)
theorem tX {e:ci} {te:TE} {p p1 p2 pos:rf} (hc:X.calm=true) (hg:Gl X "list") (hm:X.mg "list" = none) (Io:Gl X "range") (Ip:X.mg "range" = none) (he:PE X e te) (hs:starEach [e] X.env=[(false,eval e X.env)] :=by rfl) :
  PE X (.Call (.Name "list" p) [.Call (.Name "range" p1) [e] [] p2] [] pos) (fun σ H Q=>te σ H fun x H1=>∃j:Int,x=.int j /\ -(2 ^ 24)<=j/\j<=2 ^ 24/\∀l,H1 l=none->Q (.ref l) (upd H1 l (.lst ((on j.toNat).map fun i=>V.int (i:Nat))))) :=by
 refine ⟨?_⟩
 intro pins s σ H Q I h
 refine AM (gb I hg hm (by decide +kernel:bootBuiltins "list" = some (.type "list")) ?_)
 refine AL ?_ rfl rfl
 show wpAny _ _ (spliced ((false,eval (.Call (.Name "range" p1) [e] [] p2) X.env)::[])) _ _ s
 refine GT ?_
 refine Call_ (gb I Io Ip boot_range (AL ?_ hs rfl))
 rw [hs]
 refine GT (thn (he pins s σ H _ I h) fun v s1 ⟨x,H1,I1,r1,q1⟩=>Ll ?_)
 obtain ⟨j,rfl,b1,b2,q⟩:=q1
 obtain ⟨t,rfl⟩:=r1
 refine call_range_1 ?_
 refine Ll ?_
 refine call_list_range (n:=j.toNat) (I1.ok.hd hc) (IsRange.new ..) (small_one (by omega) (by omega) (by omega) (by omega)) (by rw [PyProof.Rows.rangeSize_nat];simp) (by omega) fun h' tk iC c' hk hS hit=>?_
 have I2:Inv X pins σ H1 {s1 with heap:=s1.heap.push {cls:=.type "range",data:=.fields #[.int 0 s1.toks,.int j t,.int 1 (s1.toks+1)]},toks:=s1.toks+1+1}:=I1.kept fun b o e=>bn _ e
 obtain ⟨hsz,mC⟩:=hit
 have rv:Vals ((on j.toNat).map fun i=>V.int (i:Nat)) iC.toList :=by
  refine j9 (by simpa using hsz.symm) fun i v e=>?_
  rw [br] at e
  cases q2:(on j.toNat)[i]? with
  |none=>rw [q2] at e;cases e
  |some k=>
   rw [q2] at e
   have ek:k=i :=by
    obtain ⟨_,e3⟩:=bv.mp q2
    simpa using e3.symm
   have hi:i<iC.size :=by
    have:=(bv.mp q2).1
    rw [ET] at this
    omega
   obtain ⟨t2,e4⟩:=mC i iC[i] (by simp [hi])
   refine ⟨iC[i],by simp [hi],?_⟩
   rw [e4]
   have e5:v=V.int (k:Nat):=(dL e).symm
   rw [e5,ek]
   exact ⟨t2,by simp⟩
 have ob:ObjOk X.prog X.w (upd H1 (s1.heap.push {cls:=.type "range",data:=.fields #[.int 0 s1.toks,.int j t,.int 1 (s1.toks+1)]}).objs.size (.lst ((on j.toNat).map fun i=>V.int (i:Nat)))) h' (s1.heap.push {cls:=.type "range",data:=.fields #[.int 0 s1.toks,.int j t,.int 1 (s1.toks+1)]}).objs.size (.lst ((on j.toNat).map fun i=>V.int (i:Nat))) :=by
  refine ⟨?_,iC.toList,c',rv,by simpa using hS⟩
  rw [cb,ET]
  exact sK (show j.toNat<=2 ^ 24 by omega) (by decide)
 exact ⟨.ref _,_,I2.laid (t':=tk) hk (ce _) ob,rfl,q _ (I2.hok.fresh (ce _))⟩
end
theorem Iq:bootBuiltins "int" = some (.type "int") :=by decide +kernel
theorem Ir:bootBuiltins "str" = some (.type "str") :=by decide +kernel
theorem Fx:bootBuiltins "bool" = some (.type "bool") :=by decide +kernel
theorem jf:bootBuiltins "tuple" = some (.type "tuple") :=by decide +kernel
theorem Fy:bootBuiltins "list" = some (.type "list") :=by decide +kernel
theorem pj:bootBuiltins "min" = some (.builtin "min") :=by decide +kernel
theorem Iu:bootBuiltins "max" = some (.builtin "max") :=by decide +kernel
theorem tY:bootBuiltins "abs" = some (.builtin "abs") :=by decide +kernel
theorem ez:bootBuiltins "isinstance" = some (.builtin "isinstance") :=by decide +kernel
structure Bl (mg:ba->Option ag):Prop where
 len_:mg "len" = none
 range_:mg "range" = none
 min_:mg "min" = none
 max_:mg "max" = none
 abs_:mg "abs" = none
 list_:mg "list" = none
 tuple_:mg "tuple" = none
 int_:mg "int" = none
 str_:mg "str" = none
 bool_:mg "bool" = none
 isinstance_:mg "isinstance" = none
 all_:mg "all" = none
 set_:mg "set" = none
 sorted_:mg "sorted" = none
 zip_:mg "zip" = none
 enumerate_:mg "enumerate" = none
 sum_:mg "sum" = none
 reversed_:mg "reversed" = none
 divmod_:mg "divmod" = none
 any_:mg "any" = none
 ValueError_:mg "ValueError" = none
structure Df (K:ar) (mg:ba->Option ag) (x:ba) (st:mv) (ps:List ba) (f:ac) (fd:im):Prop where
 fn:rl K x x st f fd
 bd:Binds K fd ps []
 mg:mg x=some (.ref f)
structure tZ (base:db) (fd:im) (c P:ac):Prop where
 code:fd.code=.ref c
 hd:mT base c P
section
variable {P:cr} {w:gc} {K:ar} {mg:ba->Option ag} {base:db}
theorem rl.Qj {x qual:ba} {st:mv} {f:ac} {fd:im} {N ps:List ba} {k:Nat} {sp:Sp} (F:rl K x qual st f fd) (S:aM N ps (ak st)) (len:∀vs H Q E,sp vs H Q E->vs.length=ps.length)
  (kR:∀(A:l9) (outer:List Go) (s:ap) (H:Hp) (vs:List V) (Q:VK) (E:XK),bG k (A.deeper (envOfC qual (ak st) s.heap.objs.size f fd.code))->sp vs H Q E->
   ∃t,fP (fi bL P w K mg base N qual (ak st) f fd.code A outer s H E).iI (bN st) t/\t {nx:=fun _ H'=>Q .aB H',rt:=Q} (start N vs) H):FnOk P w K mg base bL (k+1) f fd ps sp :=by
 obtain ⟨oc,od,kV,doc,pm,an,cK,ct,jL,rfl,lk,dH⟩:=F.ex
 refine xE lk dH S len fun A outer s H vs Q E hr jM=>?_
 obtain ⟨t,h,q⟩:=kR A outer s H vs Q E hr jM
 exact ⟨t,h.iI,q⟩
end
def Sw:V->Bool | .int _=>true|_=>false
def below (m:Int):V->Bool | .int i=>decide (0<=i) && decide (i<m)|_=>false
structure aT (net:List (List Int)) (w:Nat):Prop where
 one:1<=net.length
 nine:net.length<=9
 wid:w=2\/w=3
 row:∀r∈net,r.length=w/\∀g∈r,0<=g/\g<(net.length:Int)
def Ec (tb:List ac) (H:Hp):Prop:=∀p∈tb,Tb p H
def LQ (H:Hp) (b:ac):Prop:=∃c m:Int,H b=some (.lst [.int c,.int m])/\0<=c/\0<=m
def Runs (J:It) (ys:List V) (H:Hp):Prop:=∀i,(i<ys.length->J.go i H/\∀x H',J.yld i H x H'->H'=H/\ys[i]?=some x)/\(ys.length<=i->J.stop i H)
def jg (z:ba):List V:=z.cps.toList.map fun c=>.str ⟨#[c]⟩
theorem Cy {K:ar} {a:ac} {ys:List V} {H:Hp} (h:dh K H a ys):Runs (Hn K a) ys H:=fun i=>
 ⟨fun hi=>⟨⟨ys,ys[i],h,bi hi⟩,fun x H' y=>⟨y.1,y.2 ys h⟩⟩,fun hi=>⟨ys,h,hi⟩⟩
theorem zK {K:ar} {a:ac} {ys:List V} {H:Hp} (h:bY K H a ys):Runs (Hm K a) ys H:=fun i=>
 ⟨fun hi=>⟨⟨ys,ys[i],h,bi hi⟩,fun x H' y=>⟨y.1,y.2 ys h⟩⟩,fun hi=>⟨ys,h,hi⟩⟩
theorem xP {lo:Int} {n:Nat} {H:Hp}:Runs (D0 lo n) ((on n).map fun i=>V.int (lo+(i:Nat))) H:=fun i=>by
 have el:((on n).map fun i=>V.int (lo+(i:Nat))).length=n :=by simp
 rw [el]
 refine ⟨fun hi=>⟨hi,fun x H' y=>?_⟩,fun hi=>hi⟩
 obtain ⟨e1,e2⟩:=y
 refine ⟨e1,?_⟩
 rw [e2,br,wP hi]
 rfl
theorem pq (z:ba):(jg z).length=z.length :=by
 unfold jg
 rw [cb]
 rfl
theorem Cz {z:ba} {H:Hp}:Runs (zJ z) (jg z) H:=fun i=>
 ⟨fun hi=>⟨by rw [pq] at hi;exact hi,fun x H' y=>by
  obtain ⟨e,c,hc,rfl⟩:=y
  refine ⟨e,?_⟩
  unfold jg
  rw [br,Db,hc]
  rfl⟩,fun hi=>by rw [pq] at hi;exact hi⟩
section
variable {X:Cx} {K:ar}
theorem wC (h:X.K=K):mq X (M7 K):=h▸HP
theorem zL (h:X.K=K):dA X (.builtin "len") (fun xs H Q=>∃x n,xs=[x]/\HD K x H n/\Q (.int n) H):=h▸Ce
theorem qp (h:X.K=K):dA X (.type "tuple") (fun xs H Q=>∃p ys,xs=[.ref p]/\((bY K H p ys/\∀l,H l=none->Q (.ref l) (upd H l (.tup ys)))\/(dh K H p ys/\Q (.ref p) H))):=h▸sF
theorem t5 (h:X.K=K):dA X (.builtin "isinstance") (fun xs H Q=>∃x T t b,xs=[x,.ty T]/\fI K H x t/\TJ K t (.type T)=some b/\Q (.bl b) H):=h▸vE
theorem CA {tg l:ci} {tl:TE} (h:X.K=K) (hl:PE X l tl):PI X tg l (D1 K tl):=h▸Fg hl
theorem FA {tg l:ci} {tl:TE} (h:X.K=K) (hl:PE X l tl):PI X tg l (Ho K tl):=h▸Hq hl
variable {o e:ci} {es:List ci} {to:TE} {t:TA} {name:ba} {apos aY:rf} {T id:String} {r:V->List V->Hp->VK->Prop}
theorem Iv (h:X.K=K) (pa:Ud T) (slot:Slot T name id) (mr:typeOf (.builtin id)=pure (.type "method_descriptor")) (hm:zx X id r) (ho:PE X o to) (ha:PA X (e::es) t) (iM:attributeBase o name X.env (eval o X.env)=eval o X.env :=by rfl)
  (kT:((backTo aY (starEach (e::es) X.env)).all (fun x => !x.1) && (backToKw aY (keywordEach [] X.env)).all (fun x=>x.1.isSome)
   && decide ((e::es).length+([]:List LM).length+(if ([]:List LM).isEmpty then 0 else 1)<30))=true :=by rfl)
  (hline:(apos.endLine==aY.line)=true :=by rfl) (hs:starEach (e::es) X.env=(false,eval e X.env)::starEach es X.env :=by rfl) (gf:(backTo aY (starEach es X.env)).any (·.1)=false :=by rfl) :
  PE X (.Call (.Attribute o name apos) (e::es) [] aY) (M8 K T r to t):=h▸LI pa slot mr hm ho ha iM kT hline hs gf
end
abbrev bO (K:ar) (x:ba) (st:mv):Prop:=
 ∃(f:ac) (oc:ag) (od:Option ac) (sl:Array (Option ag)) (kV dc pm:ag) (an:Option ac) (cd ct:ag),
  i1 K mainGlobals x=some (some (.ref f))/\K.lookup f=some ⟨oc,od,.func (wT x x (cR st) (bN st) (ak st) .none kV dc pm an cd ct),sl⟩/\CS K cd x=true/\AC K (.ref f)=true
theorem aU {K:ar} {x:ba} {st:mv} {f:ac} {oc:ag} {od:Option ac} {sl:Array (Option ag)} {kV dc pm:ag} {an:Option ac} {cd ct:ag} (a:i1 K mainGlobals x=some (some (.ref f)))
  (l:K.lookup f=some ⟨oc,od,.func (wT x x (cR st) (bN st) (ak st) .none kV dc pm an cd ct),sl⟩) (c:CS K cd x=true) (k:AC K (.ref f)=true):bO K x st:=⟨f,oc,od,sl,kV,dc,pm,an,cd,ct,a,l,c,k⟩
section
variable {K:ar} {mg:ba->Option ag} {h base:db}
theorem bO.df {x:ba} {st:mv} (d:bO K x st) (X:K.In h) (G:h.Ns mainGlobals mg) (ps:List ba)
  (hb:∀(kV doc pm:ag) (an:Option ac) (cK ct:ag) (us:List ag),us.length=ps.length->bindArgs (wT x x (cR st) (bN st) (ak st) .none kV doc pm an cK ct) ⟨us,[]⟩=pure (ps.zip us)) :
  ∃f fd,Df K mg x st ps f fd :=by
 obtain ⟨f,oc,od,sl,kV,dc,pm,an,cd,ct,a,l,c,k⟩:=d
 have F:=HX (st:=st) l c k
 exact ⟨f,_,F,F.binds hb,Cc X G a⟩
theorem mD {x:ba} {st:mv} {ps:List ba} {f p:ac} {fd:im} (D:Df K mg x st ps f fd) (X:K.In h)
  (t:∃f o fd c,mg x=some (.ref f)/\h.get? f=some o/\o.data=.func fd/\fd.code=.ref c/\mT h c p) (tr:∀c p,mT h c p->mT base c p):∃c,tZ base fd c p :=by
 obtain ⟨f',o,Ed,c,e1,e2,e3,e4,e5⟩:=t
 obtain ⟨oc,od,kV,doc,pm,an,cK,ct,jL,rfl,lk,dH⟩:=D.fn.ex
 have e:=D.mg.symm.trans e1
 cases e
 have q:=(X _ _ lk).symm.trans e2
 cases q
 cases e3
 exact ⟨c,e4,tr _ _ e5⟩
theorem Df.bind1 {x y:ba} {st:mv} {f:ac} {fd:im} (D:Df K mg x st [y] f fd) (s:ap) (v:ag)
  (hb:∀(kV doc pm:ag) (an:Option ac) (cK ct:ag) (u:ag),bindArgs (wT x x (cR st) (bN st) (ak st) .none kV doc pm an cK ct) ⟨[u],[]⟩=pure [(y,u)]):Uf s fd ⟨[v],[]⟩ [(y,v)] :=by
 obtain ⟨oc,od,kV,doc,pm,an,cK,ct,jL,rfl,lk,dH⟩:=D.fn.ex
 exact .of_eq (hb kV doc pm an cK ct v)
theorem fq {α β:Type} {F:α->β->Prop} {a:α} {r:List α} {t:List β} (h:BN F (a::r) t):∃b t',t=b::t'/\F a b/\BN F r t':=by
 cases h with
 |cons x y=>exact ⟨_,_,rfl,x,y⟩
theorem recs_of {q:cr} {lZ:List ba} (h:(lZ.all fun y=>(recsOf q).any fun r=>decide (r.name=y))=true):∀y∈lZ,∃r∈recsOf q,r.name=y:=fun y hy=>by
 have:=u8.mp h y hy
 obtain ⟨r,hr,e⟩:=List.any_eq_true.mp this
 exact ⟨r,hr,of_decide_eq_true e⟩
end
abbrev nB:=V->Hp->(Hp->Prop)->Prop
section
variable {Y:Cx} {A2:l9} {tg elt iter:ci} {ifs:List ci} {scope:uu} {pos:rf} {it:ac} {fp:List ac} {bR:Nat->db->Prop} {J:It} {g:TG} {tt:TT} {te:TE} {pp:List (ac×ii)} {R:GenEnd} {Yp:Protocol}
def tGenV (J:It) (g:TG) (tt:TT) (te:TE) (C:nB) (Z:Hp->Prop) (W:Nat->Nat->St->Hp->Prop):Prop:=∀i m τ H,W i m τ H->
 (J.stop i H/\Z H)\/(J.go i H/\∀x H',J.yld i H x H'->g x τ H' fun aD H2=>tt aD H2 fun b H3=>if b=true then te aD H3 fun y H4=>C y H4 fun H5=>∃m',m'<m/\W (i+1) m' aD H5 else ∃m',m'<m/\W (i+1) m' aD H3)
theorem zM (hA:Y.A=A2.over (.compLoop (.GeneratorExp elt [⟨tg,iter,ifs,0⟩] scope pos) 0 (.ref it) .none Y.env) []) (my:Y.xe=fun _ _=>False) (hc:Y.calm=true) (jP:Y.env.scope.isCoroutine=false)
  (T:Turn Y.prog Y.w Y.K tg J fp it bR) (hg:PG Y tg g) (ht:ik Y ifs tt) (he:PE Y elt te) (stat:∀{H':Hp},(∀b∈fp,H' b=none)->∀b∈fp,dD Y pp H' b)
  {W:Nat->Nat->St->Hp->Prop} {C:nB} {Z:Hp->Prop} (turn:tGenV J g tt te C Z W)
  (hR:∀n s₀ aw τ H,Inv Y pp τ H aw->Z H->R n s₀ (.ok .next) aw)
  (hY:∀n s₀ s je y v τ H pl (N:Hp->Prop),RelV y v->Inv Y (pp++pl) τ H s->C y H N->(∀H5 bu,Inv Y (pp++pl) τ H5 bu->N H5->je (.send .none) bu)->Yp n s₀ v s je) :
  ∀(m n i:Nat) (τ:St) (H:Hp) (s s₀:ap),m<n->W i m τ H->Inv Y pp τ H s->bR i s.heap->(∀b∈fp,H b=none)->
   Seg (model Y.prog Y.w) A2 R Yp n s₀ (.compLoop (.GeneratorExp elt [⟨tg,iter,ifs,0⟩] scope pos) 0 (.ref it) .none Y.env)
    ((model Y.prog Y.w).den (.compLoop (.GeneratorExp elt [⟨tg,iter,ifs,0⟩] scope pos) 0 (.ref it) .none Y.env)) [] s :=by
 intro m
 induction m using Ts with
 |ind m ih=>
  intro n i τ H s s₀ Ea w I st fr
  show Seg _ A2 _ _ _ s₀ _ ((compTurn (.GeneratorExp elt [⟨tg,iter,ifs,0⟩] scope pos) 0 (.ref it) .none Y.env).onRaise (leaving Y.env)) [] s
  rw [compTurn_gen,TC]
  rcases turn i m τ H w with ⟨stop,qn⟩|⟨go,step⟩
  ·refine r9 (At ?_)
   have d:=T.done Y rfl rfl rfl hc i pp s τ H (fun _ _=>False) I (stat fr) st stop
   rw [hA] at d
   refine r9 (lw d (fun r s1 ⟨hr,I1⟩=>?_) fun _ _ z=>z.elim)
   subst hr
   exact seg_end (.ok .next) (hR _ _ _ _ _ I1 qn)
  ·refine r9 (At ?_)
   have d:=T.item Y rfl rfl rfl hc i pp s τ H (fun _ _=>False) I (stat fr) st go
   rw [hA] at d
   refine r9 (lw d (fun r s4 ⟨u,hr,h4⟩=>?_) fun _ _ z=>z.elim)
   subst hr
   refine r9 (lw h4 (fun _ s5 ⟨x,H5,I5,r5,y5,ja,tH⟩=>?_) fun _ _ z=>z.elim)
   have tI:=I5.pinned (stat tH) (T.obj _ _ ja)
   have back:∀{nZ:St} {H7:Hp} {s7:ap},Inv Y (pp++ig fp s5.heap) nZ H7 s7->bR (i+1) s7.heap/\∀b∈fp,H7 b=none:=fun {nZ H7 s7} I7=>by
    refine ⟨T.keep _ _ _ ja fun b hb o e=>(I7.pin (b,o) (ge _ (ge _ (cL hb e)))).1,fun b hb=>?_⟩
    obtain ⟨o,e,d⟩:=T.obj _ _ ja b hb
    exact (I7.pin (b,o) (ge _ (ge _ (cL hb e)))).2.1
   have d2:=hg _ s5 τ H5 x u _ tI r5 (step x H5 y5)
   rw [hA,my] at d2
   refine r9 (lw d2 (fun _ s6 ⟨jN,H6,I6,q6⟩=>?_) fun _ _ z=>z.elim)
   have d3:=ht _ s6 jN H6 _ I6 q6
   rw [hA,my] at d3
   refine r9 (lw d3 (fun ok s7 ⟨H7,I7,q7⟩=>?_) fun _ _ z=>z.elim)
   have hy:∀v,yieldOut Y.env v=yieldValue v:=fun v=>by simp only [yieldOut,jP,i4,if_false]
   cases ok with
   |false=>
    simp only [i4,if_false] at q7 ⊢
    obtain ⟨m',pf,w7⟩:=q7
    exact Te rfl (ih m' pf n (i+1) jN H7 s7 s₀ (by omega) w7 I7.cp (back I7).1 (back I7).2)
   |true=>
    simp only [if_true] at q7 ⊢
    simp only [hy]
    rw [SZ,SZ,TY,TY]
    have d4:=he _ s7 jN H7 _ I7 q7
    rw [hA,my] at d4
    refine seg_wrap (lw d4 (fun yv s8 ⟨y,H8,I8,r8,q8⟩=>?_) fun _ _ z=>z.elim)
    obtain ⟨n,rfl⟩:∃n',n=n'+1:=⟨n - 1,by omega⟩
    refine seg_at (seg_yield rfl rfl rfl (hY _ _ _ _ y yv jN H8 _ _ r8 I8 q8 fun H9 bu I9 ⟨m',pf,w8⟩=>?_))
    exact Te rfl (ih m' pf n (i+1) jN H9 bu bu (by omega) w8 I9.cp (back I9).1 (back I9).2)
end
section
variable {X:Cx} {tg elt iter:ci} {ifs:List ci} {scope:uu} {pos:rf} {N':List ba} {tn:Nat} {idx:List Nat} {wi:TI} {g:TG} {tt:TT} {te:TE} {c P:ac} {k:Nat}
def Ee (X Y:Cx) (pp:List (ac×ii)) (gn:Nat) (C:nB) (Z:Hp->Prop) (n:Nat) (H:Hp) (s:ap):Prop:=
 ∃τ pl gs,Inv Y (pp++pl) τ H s/\s.gens[gn]?=some gs/\∀bu,Inv Y (pp++pl) τ H bu->gs.Goes (model X.prog X.w) X.A.in4.in1 (fun _ _ r aw=>r=.ok .next/\∃τ H,Inv Y pp τ H aw/\Z H)
  (fun _ _ v s je=>∃y τ H pl N,RelV y v/\Inv Y (pp++pl) τ H s/\C y H N/\∀H5 bu,Inv Y (pp++pl) τ H5 bu->N H5->je (.send .none) bu) n (.send .none) bu
theorem LR {pins:List (ac×ii)} {σ:St} {J:It} {H3:Hp} {a:ac} {s5:ap} {Y:Cx} {it:ac} {fp:List ac} {bR:Nat->db->Prop} {gn:Nat} {pp:List (ac×ii)} {C:nB} {Z:Hp->Prop} {n:Nat} {H:Hp} {s:ap} {E:ag->ap->Prop}
  (hr:bG (k+1) X.A) (G:tS X pins σ N' scope tn idx k elt tg iter ifs pos J H3 a s5 Y it fp bR gn pp) (h:Ee X Y pp gn C Z n H s) :
  wpAny (model X.prog X.w) X.A.in4 (pyNext (.ref a)) (fun r s1=>match r with
   |none=>∃H1,Inv X pins σ H1 s1/\Z H1
   |some v=>∃y τ H1 pl N,RelV y v/\Inv Y (pp++pl) τ H1 s1/\C y H1 N/\∀H2 s2,Inv Y (pp++pl) τ H2 s2->s2.gens=s1.gens->N H2->∃m,m<n/\Ee X Y pp gn C Z m H2 s2) E s :=by
 obtain ⟨τ,pl,gs,I6,Ij,ph⟩:=h
 refine wpAny_pyNext_genexpQ (A:=X.A.in4) (P:=fun _ _ aw=>∃τ H,Inv Y pp τ H aw/\Z H) hr.hd I6.nolimit hr.depth (G.isg I6.cp) Ij (ph _ (I6.j7 ⟨rfl,rfl,fU I6.bare rfl⟩)) (fun v s1 zH hb hv=>?_) (fun s1 hp h' hk=>?_)
 ·obtain ⟨y,wB,H1,Nr,N,r1,I1,c1,z2⟩:=hv
  have tV:kW s1 (s1.setGen gn zH):=⟨rfl,rfl,fU I1.bare hb⟩
  refine ⟨y,wB,H1,Nr,N,r1,I1.j7 tV,c1,fun H2 s2 I2 e2 n2=>?_⟩
  have z3:=z2 H2 s2 I2 n2
  cases n with
  |zero=>exact z3.elim
  |succ m=>exact ⟨m,FS _,wB,Nr,zH,I2,by rw [e2];exact rA (G.gsz I1.cp),fun bu I3=>z2 H2 bu I3 n2⟩
 ·obtain ⟨wB,H1,I1,z1⟩:=hp
  have I2:=I1.kept (t':=s1.toks) hk
  have Ik:kW {s1 with heap:=h'} {s1.setGen gn .finished with heap:=h'}:=⟨rfl,rfl,fU (s:=s1) I1.bare rfl⟩
  exact ⟨H1,G.out (I2.j7 Ik),z1⟩
theorem zN {pins:List (ac×ii)} {σ:St} {J:It} {H3:Hp} {a:ac} {s5:ap} {Y:Cx} {it:ac} {fp:List ac} {bR:Nat->db->Prop} {gn:Nat} {pp:List (ac×ii)} {C:nB} {Z:Hp->Prop} {W:Nat->Nat->St->Hp->Prop} {m0:Nat} {H4:Hp} {s6:ap}
  (G:tS X pins σ N' scope tn idx k elt tg iter ifs pos J H3 a s5 Y it fp bR gn pp) (hg:dW X N' scope k fun Y=>PG Y tg g) (ht:dW X N' scope k fun Y=>ik Y ifs tt) (he:dW X N' scope k fun Y=>PE Y elt te)
  (I6:Inv Y (pp++ig fp s5.heap) (bX tn idx σ) H4 s6) (Qk:s6.gens=s5.gens) (turn:tGenV J g tt te C Z W) (w0:W 0 m0 (bX tn idx σ) H4):Ee X Y pp gn C Z (m0+1) H4 s6 :=by
 have xO:=zM (A2:=X.A.in4.in1) (pp:=pp) (R:=fun _ _ r aw=>r=.ok .next/\∃τ H,Inv Y pp τ H aw/\Z H)
  (Yp:=fun _ _ v s je=>∃y τ H pl N,RelV y v/\Inv Y (pp++pl) τ H s/\C y H N/\∀H5 bu,Inv Y (pp++pl) τ H5 bu->N H5->je (.send .none) bu) G.A G.xe G.calm G.co G.T (G.blk _ hg) (G.blk _ ht) (G.blk _ he) G.stat turn
  (fun n s₀ aw τ H J z=>⟨rfl,τ,H,J,z⟩) (fun n s₀ s je y v τ H pl N r J z1 z2=>⟨y,τ,H,pl,N,r,J,z1,z2⟩)
 have hP:=G.prog
 have hW:=G.w
 have qV:=G.st
 rw [<- Qk] at qV
 refine ⟨_,_,_,I6,qV,fun bu I7=>⟨rfl,?_⟩⟩
 have zI:bR 0 bu.heap:=G.T.keep _ _ _ G.tn0 fun b hb o e=>(I7.pin (b,o) (ge _ (ge _ (cL hb e)))).1
 have Ql:∀b∈fp,H4 b=none:=fun b hb=>by
  obtain ⟨o,e,d⟩:=G.T.obj _ _ G.tn0 b hb
  exact (I7.pin (b,o) (ge _ (ge _ (cL hb e)))).2.1
 have q:=rB (iter:=iter) (ifs:=ifs) (scope:=scope) (pos:=pos) (elt:=elt) G.T zI (xO m0 (m0+1) 0 _ _ bu bu (FS _) w0 I7.cp zI Ql)
 rw [hP,hW] at q
 exact q
def takeIn (S:ac):nB:=fun y H N=>∃ys,H S=some (.lst ys)/\ys.length<sizeLine/\N (upd H S (.lst (ys++[y])))
theorem vF {pins:List (ac×ii)} {σ:St} {J:It} {H3:Hp} {a:ac} {s5:ap} {Y:Cx} {it:ac} {fp:List ac} {bR:Nat->db->Prop} {gn:Nat} {pp:List (ac×ii)} {Z:Hp->Prop} {A:l9} {R':UL->ap->Prop} {S:ac} {res:ag}
  (hr:bG (k+1) X.A) (G:tS X pins σ N' scope tn idx k elt tg iter ifs pos J H3 a s5 Y it fp bR gn pp)
  (il:∀{Q:Option ag->ap->Prop} {E:ag->ap->Prop} {s:ap},wpAny (model X.prog X.w) X.A.in4 (pyNext (.ref a)) Q E s->wpAny (model X.prog X.w) A.in1 (pyNext (.ref a)) Q E s)
  (hR:∀s H,Inv X pins σ H s->Z H->R' (.ok (.ret res)) s) :
  ∀(n:Nat) (H:Hp) (s:ap),Ee X Y pp gn (takeIn S) Z n H s->codeAny (model X.prog X.w) A (.builtin "list.extend.loop" ⟨[.ref S,.ref a,res],[]⟩) R' s :=by
 intro n
 induction n using Ts with
 |ind n ih=>
  intro H s h
  refine Cs F.entry_extend_loop ?_
  rw [xy So _]
  show wpAny _ A.in1 (pyNext (.ref a)>>=_) _ _ s
  refine al (il (lw (LR (E:=fun _ _=>False) hr G h) (fun r s1 q=>?_) fun _ _ z=>z.elim))
  cases r with
  |none=>
   obtain ⟨H1,I1,z1⟩:=q
   exact ca (hR s1 H1 I1 z1)
  |some v=>
   obtain ⟨y,τ,H1,pl,N,r1,I1,⟨ys,hS,hz,n1⟩,nx⟩:=q
   obtain ⟨_,its,c,rv,hl,e⟩:=I1.ow hS
   show wpAny _ A.in1 (updateSeq S (·.push v)>>=_) _ _ _
   have hP:=G.prog
   have hW:=G.w
   obtain ⟨m,hm,h2⟩:=nx _ _ (I1.tM (its':=its++[v]) (f:=(·.push v)) (t':=s1.toks) hS e (by simp) (rv.append (.cons r1 .nil)) (by rw [tw,Da];omega)) rfl n1
   refine al (SL e rfl (ca ⟨EU So _,ih m hm _ _ h2⟩) (by rw [jp];omega) (by show (its.toArray.push v).size<=sizeLine+1;rw [Uv,jp];omega))
theorem xQ {pins:List (ac×ii)} {σ:St} {J:It} {H3:Hp} {a:ac} {s5:ap} {Y:Cx} {it:ac} {fp:List ac} {bR:Nat->db->Prop} {gn:Nat} {pp:List (ac×ii)} {A:l9} {E:ag->ap->Prop} {QL:List ag->ap->Prop} {R:List V->Hp->Prop}
  (hr:bG (k+1) X.A) (G:tS X pins σ N' scope tn idx k elt tg iter ifs pos J H3 a s5 Y it fp bR gn pp) (hg:dW X N' scope k fun Y=>PG Y tg g) (ht:dW X N' scope k fun Y=>ik Y ifs tt) (he:dW X N' scope k fun Y=>PE Y elt te)
  (il:∀{Q:Option ag->ap->Prop} {E:ag->ap->Prop} {s:ap},wpAny (model X.prog X.w) X.A.in4 (pyNext (.ref a)) Q E s->wpAny (model X.prog X.w) A.in1 (pyNext (.ref a)) Q E s)
  (hW:∀S,H3 S=none->∃W:Nat->Nat->St->Hp->Prop,(∃m,W 0 m (bX tn idx σ) (upd H3 S (.lst [])))/\tGenV J g tt te (takeIn S) (fun H=>∃ys,H S=some (.lst ys)/\R ys H) W)
  (hQ:∀us ys s H,Inv X pins σ H s->Vals ys us->ys.length<=sizeLine->R ys H->QL us s):wpAny (model X.prog X.w) A (collect (.ref a)) QL E s5 :=by
 have hT:∀{s':ap},s'.heap.IsGen a gn->s'.TypeIs (.ref a) "generator" := fun h=>h.typeIs
 obtain ⟨W,⟨m0,w0⟩,turn⟩:=hW s5.heap.objs.size (G.inv.hok.fresh (ce _))
 have I0:=G.inv.pinned (G.stat G.fr) (G.T.obj _ _ G.tn0)
 have Qm:s5.heap.objs.size≠a:=fun e=>by
  obtain ⟨o,_,_,ho,_⟩:=G.isg G.inv
  have:=f8 ho
  rw [e] at this
  exact JJ _ this
 unfold collect
 refine al (wpAny_runValue (Cs Tf ?_))
 rw [xy Th _]
 show wpAny _ A.in1 (newList []>>=fun l=>again (.builtin "list.__iadd__" ⟨[l,.ref a],[]⟩)) _ _ s5
 refine al (ul ?_)
 refine ca ⟨EU Lo _,Cs T6 ?_⟩
 rw [xy Lo _]
 have I1:=I0.HU (ys:=[]) (its:=[]) (t':=s5.toks) .nil (rb _)
 have T1:=hT (G.isg I1.cp)
 show wpAny _ A.in1 (AN (.ref s5.heap.objs.size) (.ref a) (.ref s5.heap.objs.size)) _ _ _
 unfold AN
 refine al (Tt T1 ?_)
 have h1:Me (.ref s5.heap.objs.size) (.ref a)=false :=by simp [Me,Qm]
 have h2:(BS "generator" == BS "list")=false :=by decide
 have h3:(BS "generator" == BS "tuple")=false :=by decide
 simp only [h1,h2,h3,Bool.or_false,i4,if_false]
 refine al (wpAny_pyIter_gen (G.isg I1.cp) ?_)
 refine al (KB ?_)
 unfold P3
 refine al (Tu T1 F.gen_no_len ?_)
 show wpAny _ A.in1 (specialOf (l5 a) (nw "__length_hint__")>>=_) _ _ _
 refine al (Tu T1 F.gen_no_hint ?_)
 refine ca ?_
 show wpAny _ A.in1 (rule "list.extend.makes-room" >>= fun _=>wr.List.listTouch (.ref s5.heap.objs.size)>>=fun _=>
  again (.builtin "list.extend.loop" ⟨[.ref s5.heap.objs.size,.ref a,.ref s5.heap.objs.size],[]⟩)) _ _ _
 refine al (GE ?_)
 obtain ⟨_,OZ,c1,Qn,Sx,nC⟩:=I1.ow ax
 have e1:OZ=[] :=by cases Qn;rfl
 subst e1
 refine al ?_
 show wpAny _ A.in1 (updateSeq s5.heap.objs.size (·.push .none)>>=fun _=>updateSeq s5.heap.objs.size (·.pop)) _ _ _
 refine al (SL nC rfl ?_)
 have I2:=I1.tM (ys:=[.aB]) (its':=[.none]) (f:=(·.push .none)) (t':=s5.toks) ax nC (by simp) (.cons rfl .nil) (by decide)
 have sV:=B0 (Lu (·.push AS)) nC rfl
 refine SL sV rfl ?_
 obtain ⟨_,Sh,c2,Qo,Sy,Iw⟩:=I2.ow ax
 have I3:=I2.tM (ys:=[]) (its':=[]) (f:=(·.pop)) (t':=s5.toks) ax Iw (by
  cases Qo with
  |cons r t=>cases t;simp) .nil (rb _)
 rw [wj,wj] at I3
 refine ca ⟨EU So _,vF (Z:=fun H=>∃ys,H s5.heap.objs.size=some (.lst ys)/\R ys H) hr G il (fun s H I ⟨ys,hS,q⟩=>?_) (m0+1) _ _ (zN G hg ht he I3 rfl turn w0)⟩
 obtain ⟨hz,its,c,rv,hl,e⟩:=I.ow hS
 show wpAny _ A (load s5.heap.objs.size>>=_) _ _ s
 refine al (UH e ?_)
 refine ca ?_
 have:=hQ its ys s H I rv hz q
 simpa using this
end
section
variable {X:Cx} {tg elt iter:ci} {ifs:List ci} {scope:uu} {pos:rf} {N':List ba} {tn:Nat} {idx:List Nat} {wi:TI} {g:TG} {tt:TT} {te:TE} {c P:ac} {k:Nat}
def Ef (P:ac) (tn:Nat) (idx:List Nat) (wi:TI) (g:TG) (tt:TT) (te:TE):TE:=fun σ H Q=>Eb P wi (fun J H1=>∀S,H1 S=none->∃W:Nat->Nat->St->Hp->Prop,(∃m,W 0 m (bX tn idx σ) (upd H1 S (.lst []))) /\
 tGenV J g tt te (takeIn S) (fun H2=>∃ys,H2 S=some (.lst ys)/\∀l,H2 l=none->Q (.ref l) (upd H2 l (.tup ys))) W) σ H
theorem mE {Q₁:ag->ap->Prop} {QL:List ag->ap->Prop} {prog:cr} {w:gc} {A:l9} {E:ag->ap->Prop} {s:ap} {I:ac} (hT:s.TypeIs (.ref I) "generator")
  (W:wpAny (model prog w) A.in1 (collect (.ref I)) QL E s) (hsz:∀us s',QL us s'->us.length<=sizeLine)
  (h:∀us s',QL us s'->Q₁ (.ref s'.heap.objs.size) {s' with heap:=s'.heap.push {cls:=.type "tuple",data:=.seq us.toArray}}) :
  codeAny (model prog w) A (.call (.builtin "tuple.__new__") ⟨[.type "tuple",.ref I],[]⟩) (wants Q₁ E) s :=by
 refine codeAny_of_tree ?_
 show wpAny _ A.in1 (do checkBuiltinCall "tuple.__new__" ⟨[.type "tuple",.ref I],[]⟩;again (.builtin "tuple.__new__" ⟨[.type "tuple",.ref I],[]⟩)) _ _ s
 refine al (UB (F.newCall_tuple_1 _) (ca ⟨EU F.plain_tuple_new _,Cs F.entry_tuple_new ?_⟩))
 rw [xy F.plain_tuple_new _]
 have O1:=sub_tuple_self
 have R8:=init_tuple_lookup
 have Sz:=madeHere_tuple
 wp_walk using Tt hT,lw W
 ·intro us s' hq
  show wpAny _ _ (wr.Tuple.tupleExact us.toArray>>=fun v=>ret v) _ _ _
  unfold wr.Tuple.tupleExact
  refine al (ul ?_ (by show us.toArray.size<=sizeLine;rw [jp];exact hsz us s' hq))
  exact ca (h us s' hq)
 ·exact fun _ _ z=>z
theorem vG {p j8:rf} (hr:bG (k+1) X.A) (hc:X.calm=true) (B:a7 X.N X.env.scope scope N' tn idx)
  (h0:scope.names.lookup (".0" : ba)=some .local) (jP:scope.isCoroutine=false) (dG:X.env.code=.ref c) (hd:mT X.base c P) (di:∃bm ob,SX X.base mainGlobals X.mg bm ob)
  (rC:Gl X "tuple") (hm:X.mg "tuple" = none) (hi:PI X tg iter wi) (hg:dW X N' scope k fun Y=>PG Y tg g) (ht:dW X N' scope k fun Y=>ik Y ifs tt) (he:dW X N' scope k fun Y=>PE Y elt te)
  (hs:∀x,genFold iter X.env x=pure x :=by intro _;rfl):PE X (.Call (.Name "tuple" p) [dy elt tg iter ifs scope j8] [] pos) (Ef P tn idx wi g tt te) :=by
 refine ⟨?_⟩
 intro pins s σ H Q I h
 refine AM (gb I rC hm jf ?_)
 refine AL ?_ rfl rfl
 show wpAny _ _ (spliced ((false,eval (dy elt tg iter ifs scope j8) X.env)::[])) _ _ s
 refine GT (tT hr hc B h0 jP dG hd di hi hs I h ?_)
 intro J H3 a s5 Y it fp bR gn pp G hW
 refine Ll ?_
 have hT:s5.TypeIs (.ref a) "generator" := (G.isg G.inv).typeIs
 refine callType_codes (Q₁:=fun obj aw=>aw.TypeIs obj "tuple" /\ EP X pins σ Q obj aw) F.called_tuple (F.typeCall_tuple_1 _) F.entry_object_init
  (mE (QL:=fun us s'=>us.length<=sizeLine/\∃ys H',Inv X pins σ H' s'/\Vals ys us/\∀l,H' l=none->Q (.ref l) (upd H' l (.tup ys))) hT
   (xQ hr G hg ht he (fun h=>Ul h) hW fun us ys s' H' I' rv hz q=>⟨by rw [<- rv.length];exact hz,ys,H',I',rv,q⟩) (fun us s' q=>q.1) fun us s' ⟨hl,ys,H',I',rv,q⟩=>⟨⟨_,ff _ rfl,rfl⟩,?_⟩) fun obj aw jd=>?_
 ·have I2:Inv X pins σ (upd H' s'.heap.objs.size (.tup ys)) {s' with heap:=s'.heap.push {cls:=.type "tuple",data:=.seq us.toArray}}:=
   I'.laid (t':=s'.toks) (fun b o e=>bn _ e) (ce _) (show ObjOk X.prog X.w _ _ _ (.tup ys) from ⟨by rw [rv.length];exact hl,us,rv,j5.new _ _⟩)
  exact ⟨.ref s'.heap.objs.size,_,I2,rfl,q _ (I'.hok.fresh (ce _))⟩
 ·exact ⟨jd.1,F.args_object_init_2 obj _,object_init_meets F.called_tuple.init.lookup F.called_tuple.made (by decide) X.prog X.w X.A.in1 _ aw ⟨jd.1,rfl,jd.2⟩⟩
end
def wD (xs:Array Nat):Prop:=xs.toList.Pairwise (· < ·)
theorem t6 {xs:Array Nat} (h:wD xs) {i j:Nat} (wo:i<j) (hj:j<xs.size):xs[i]<xs[j] :=by
 have:=LB.mp h i j (by simpa using Nat.lt_trans wo hj) (by simpa using hj) wo
 simpa using this
theorem below_go {xs:Array Nat} {v:Nat} (h:wD xs):∀(fuel lo hi:Nat),hi - lo<=fuel->lo<=hi->hi<=xs.size->(∀i (fS:i<xs.size),i<lo->xs[i]<v)->(∀i (fS:i<xs.size),hi<=i->v<=xs[i])->
  S0 xs v fuel lo hi<=xs.size/\(∀i (fS:i<xs.size),i<S0 xs v fuel lo hi->xs[i]<v)/\∀i (fS:i<xs.size),S0 xs v fuel lo hi<=i->v<=xs[i]
 |0,lo,hi,hf,h1,h2,ha,hb=>by
          have e:lo=hi :=by omega
          subst e
          exact ⟨h2,ha,hb⟩
 |fuel+1,lo,hi,hf,h1,h2,ha,hb=>by
          unfold S0
          by_cases bp:lo<hi
          ·rw [if_pos bp]
           dsimp only
           have hm:(lo+hi) / 2<xs.size :=by omega
           have e:xs.getD ((lo+hi) / 2) v=xs[(lo+hi) / 2] :=by simp [Array.getD,hm]
           rw [e]
           by_cases hc:xs[(lo+hi) / 2]<v
           ·rw [if_pos hc]
            refine below_go h fuel _ _ (by omega) (by omega) h2 (fun i fS hl=>?_) hb
            by_cases ei:i=(lo+hi) / 2
            ·subst ei;exact hc
            ·exact Nat.lt_trans (t6 h (show i<(lo+hi) / 2 by omega) hm) hc
           ·rw [if_neg hc]
            refine below_go h fuel _ _ (by omega) (by omega) (by omega) ha (fun i fS hl=>?_)
            by_cases ei:i=(lo+hi) / 2
            ·subst ei;exact S7 hc
            ·exact sK (S7 hc) (Pc (t6 h (show (lo+hi) / 2<i by omega) fS))
          ·rw [if_neg bp]
           have e:lo=hi :=by omega
           subst e
           exact ⟨h2,ha,hb⟩
theorem t7 {xs:Array Nat} (v:Nat) (h:wD xs):xb xs v<=xs.size/\(∀i (fS:i<xs.size),i<xb xs v->xs[i]<v)/\∀i (fS:i<xs.size),xb xs v<=i->v<=xs[i]:=
 below_go h _ _ _ (by omega) (rb _) (ce _) (fun i _ z=>absurd z (Tv _)) (fun i z z'=>absurd z (UJ.mpr z'))
structure Eg (w:gc) (t:OF):Prop where
 dum:t.dummies=#[]
 ris:wD t.place
 led:t.led = !w.params.followText "set-order"
def gR (e:Int×ag):Int:=match e.2 with | .int i _=>i|_=>0
def iD (P:cr) (w:gc) (h:db) (a:ac) (ns:List Int):Prop:=
 ∃o es ep t,h.get? a=some o/\o.ExactSet/\o.data=.set es ep t/\ElemsOf (intKind P w) es.toList/\(es.toList.map gR).Perm ns/\ns.Nodup/\es.size<scanBound/\t.fits es.size=true/\Eg w t
theorem iD.cV {P:cr} {w:gc} {h h':db} {a:ac} {ns:List Int} (x:iD P w h a ns) (k:∀o,h.get? a=some o->h'.get? a=some o):iD P w h' a ns:=
 let ⟨o,es,ep,t,e,r⟩:=x;⟨o,es,ep,t,k o e,r⟩
def xR (P:cr) (w:gc) (a:ac) (ns:List Int):HO:=.ext fun h=>iD P w h a ns
def O2 (ns:List Int) (m:Int):List Int:=if m∈ns then ns else ns++[m]
section
variable {P:cr} {w:gc} {A:l9} {E:ag->ap->Prop} {s:ap}
theorem iD.typeIs {h:db} {a:ac} {ns:List Int} {s:ap} (x:iD P w s.heap a ns):s.TypeIs (.ref a) "set" := let ⟨o,_,_,_,ho,hex,_⟩:=x;⟨o,ho,hex.1⟩
end
theorem zO:Manifest.owners.lookup (String.ofList ['r','o','t','a','r','e','t','i','_','t','e','s'].reverse)=some Manifest.sig_set_iterator :=by kernel_rfl
theorem cq:Slot "set_iterator" "__next__" "set_iterator.__next__" :=
 .of (owner := "set_iterator") (n := "__next__") (by rw [typeLookup_type,builtinLookup_eq_fast];kernel_rfl) (by decide +kernel) (by decide +kernel) (by decide +kernel)
  (by first|exact .inl (by decide +kernel)|exact .inr (by decide +kernel)) (by rw [isSubtype_type];kernel_rfl)
theorem iO:entryFor table "set_iterator.__next__" = some wr.«set_iterator.__next__»:=entryFor_of_tree (by kernel_rfl)
theorem iP (a:ag):argsOk "set_iterator.__next__" ⟨[a],[]⟩ :=by
 unfold argsOk;rw [signature?_of (id := "set_iterator.__next__") (n:=['_','_','t','x','e','n','_','_']) (o:=['r','o','t','a','r','e','t','i','_','t','e','s']) (by kernel_rfl) zO];kernel_rfl
theorem pz:Slot "set_iterator" "__iter__" "set_iterator.__iter__" :=
 .of (owner := "set_iterator") (n := "__iter__") (by rw [typeLookup_type,builtinLookup_eq_fast];kernel_rfl) (by decide +kernel) (by decide +kernel) (by decide +kernel)
  (by first|exact .inl (by decide +kernel)|exact .inr (by decide +kernel)) (by rw [isSubtype_type];kernel_rfl)
theorem xS:entryFor table "set_iterator.__iter__" = some wr.«dict_keyiterator.__iter__»:=
 entryFor_alias (id' := "dict_keyiterator.__iter__") (by kernel_rfl) (by first|rfl|decide +kernel|(unfold String.splitOn;simp +decide [String.splitOnAux])) (by decide +kernel) (by kernel_rfl)
theorem xT (a:ag):argsOk "set_iterator.__iter__" ⟨[a],[]⟩ :=by
 unfold argsOk;rw [signature?_of (id := "set_iterator.__iter__") (n:=['_','_','r','e','t','i','_','_']) (o:=['r','o','t','a','r','e','t','i','_','t','e','s']) (by kernel_rfl) zO];kernel_rfl
theorem vH:entryFor table "set.__iter__" = some wr.«frozenset.__iter__»:=
 entryFor_alias (id' := "frozenset.__iter__") (by kernel_rfl) (by first|rfl|decide +kernel|(unfold String.splitOn;simp +decide [String.splitOnAux])) (by decide +kernel) (by kernel_rfl)
def eA (h:db) (I a:ac) (first:ag) (i n ep:Nat):Prop:=∃o,h.get? I=some o/\o.cls=.type "set_iterator" /\ o.data=.fields #[first,.int i 0,.ref a,.int n 0,.int ep 0]
theorem eA.typeIs {s:ap} {I a:ac} {first:ag} {i n ep:Nat} (x:eA s.heap I a first i n ep):s.TypeIs (.ref I) "set_iterator" := let ⟨o,ho,hc,_⟩:=x;⟨o,ho,hc⟩
theorem eV {α:Type}:∀{l:List α} {i:Nat} (h:i<l.length),(l[i]::l.eraseIdx i).Perm l
 | [],i,h=>by simp at h
 |x::l,0,h=>.refl _
 |x::l,i+1,h=>by
          rw [List.eraseIdx_cons_succ,List.getElem_cons_succ]
          exact (Ti.swap _ _ _).trans (.cons _ (eV (by simpa using h)))
section
variable {P:cr} {w:gc} {A:l9} {E:ag->ap->Prop} {s:ap}
theorem wp_choose {src:Source} {n:Nat} {Q:Nat->ap->Prop} (hn:n≠0) (h:∀i d,i<n->Q i {s with drawn:=d}):wpAny (model P w) A (choose src n) Q E s:=fun Γ p _=>by
 refine ⟨hn,?_⟩
 exact h _ _ (Ue _ (Nat.pos_of_ne_zero hn))
theorem mF {α:Type}:∀(n:Nat) (xs:List α) {s:ap} {Q:List α->ap->Prop},n=xs.length->(∀ys d,ys.Perm xs->Q ys {s with drawn:=d})->wpAny (model P w) A (drawOrder n xs) Q E s
 |0,xs,s,Q,hn,h=>by
          have:xs=[]:=OP hn.symm
          subst this
          exact ca (h [] s.drawn .nil)
 |n+1,[],s,Q,hn,h=>by simp at hn
 |n+1,x::xs,s,Q,hn,h=>by
          show wpAny _ _ (choose .order (x::xs).length>>=_) _ _ s
          refine al (wp_choose (by simp) fun i d hi=>?_)
          have e:(x::xs)[i]?=some (x::xs)[i]:=bi hi
          rw [e]
          dsimp only
          refine al (mF n _ (by rw [List.length_eraseIdx_of_lt hi];simp at hn ⊢;omega) fun ys d' hp=>ca (h _ _ ?_))
          exact (Ti.cons _ hp).trans (eV hi)
end
section
variable {P:cr} {w:gc} {A:l9} {E:ag->ap->Prop} {s:ap}
structure jh (P:cr) (w:gc) (h:db) (a:ac) (es:Array (Int×ag)) (ep:Nat) (t:OF):Prop where
 at_:∃o,h.get? a=some o/\o.ExactSet/\o.data=.set es ep t
 fits:t.fits es.size=true
 tab:Eg w t
theorem wG {α:Type} (next:Nat->Nat):∀(fuel k:Nat) (left:List α) (out:Array α),fuel=left.length->(pickOrder.go next fuel k left out).toList.Perm (out.toList++left)
 |0,k,left,out,h=>by
          have:left=[]:=OP h.symm
          subst this
          simp [pickOrder.go]
 |fuel+1,k,left,out,h=>by
          unfold pickOrder.go
          have hl:next k % left.length<left.length:=Ue _ (by omega)
          rw [bi hl]
          dsimp only
          refine (wG next fuel (k+1) _ _ (by rw [List.length_eraseIdx_of_lt hl];omega)).trans ?_
          rw [Array.toList_push,ES]
          exact Ti.append_left _ (eV hl)
theorem rD {α:Type} (next:Nat->Nat) (xs:Array α):(pickOrder next xs).toList.Perm xs.toList :=by
 unfold pickOrder
 exact (wG next xs.size 0 xs.toList #[] (by simp)).trans (by simp)
theorem mG {Q:Bool->ap->Prop} (h:Q (w.params.followText "set-order") s):wpAny (model P w) A setsByText Q E s :=by
 unfold setsByText
 exact al (S8 (ca h))
theorem pA {a:ac} {es:Array (Int×ag)} {ep:Nat} {t:OF} {slot given:Nat} {Q:Option (ag×Nat)->ap->Prop} (hE:jh P w s.heap a es ep t)
  (hd:w.params.followText "set-order" = false->(!t.plain && decide (es.size > 1))=false)
  (h1:w.params.followText "set-order" = true->Q ((pickOrder (w.params.setOrder a ep) es)[given]?.map fun e=>(e.2,slot)) s)
  (h2:w.params.followText "set-order" = false->Q (match es[xb t.place slot]?,t.place[xb t.place slot]? with|some (_,x),some j=>some (x,j+1)|_,_=>none) s) :
  wpAny (model P w) A (setNext a slot given ep) Q E s :=by
 obtain ⟨⟨o,ho,hex,n6⟩,hf,ht⟩:=hE
 unfold setNext
 refine al (S1 ho n6 hf ?_)
 dsimp only
 refine al (mG ?_)
 cases hb:w.params.followText "set-order" with
 |true=>
  simp only [if_true,bne_self_eq_false,i4,if_false]
  unfold setWalk
  refine al (al (S1 ho n6 hf ?_))
  dsimp only
  refine al (mG ?_)
  rw [hb]
  simp only [if_true]
  refine al (S8 (ca (ca ?_)))
  exact h1 hb
 |false=>
  simp only [i4,if_false]
  have jJ:=hd hb
  have O3:t.led=true :=by rw [ht.led,hb];rfl
  show wpAny _ _ (if (!t.plain && decide (es.size > 1))=true then _ else _) _ _ s
  rw [jJ]
  simp only [i4,if_false]
  refine al ?_
  show wpAny _ _ (if (!t.led && !es.isEmpty)=true then _ else _) _ _ s
  rw [O3]
  simp only [TZ,TH,i4,if_false]
  exact ca (ca (h2 hb))
end
section
variable {P:cr} {w:gc} {A:l9} {E:ag->ap->Prop} {s:ap}
theorem eA.Iy {h:db} {I a:ac} {first x:ag} {i n ep:Nat} (hit:eA h I a first i n ep):eA (h.update I (ii.mapFields (·.setIfInBounds 0 x))) I a x i n ep :=by
 obtain ⟨o,ho,hc,hd⟩:=hit
 exact ⟨_,B0 _ ho (Tj (ID hd _)),(T7 ..).trans hc,by rw [ID hd];simp⟩
theorem eA.t8 {h:db} {I a:ac} {first:ag} {i n ep:Nat} (hit:eA h I a first i n ep):eA (h.update I (ii.mapFields (·.setIfInBounds 1 (rawInt ((i:Int)+1))))) I a first (i+1) n ep :=by
 obtain ⟨o,ho,hc,hd⟩:=hit
 exact ⟨_,B0 _ ho (Tj (ID hd _)),(T7 ..).trans hc,by rw [ID hd];simp [rawInt]⟩
theorem kj {I a:ac} {first x:ag} {i n ep k:Nat} {Q:Unit->ap->Prop} (hk:k<5) (hit:eA s.heap I a first i n ep) (h:Q () {s with heap:=s.heap.update I (ii.mapFields (·.setIfInBounds k x))}):wpAny (model P w) A (setField (.ref I) k x) Q E s :=by
 obtain ⟨o,ho,hc,hd⟩:=hit
 exact wpAny_setField ho hd (by simpa using hk) h
theorem wH {Q:Fin->ap->Prop} (hh:A.handled=none) (h:∀e h',s.TypeIs e "StopIteration" \/ True->(∀b o,s.heap.get? b=some o->h'.get? b=some o)->ap.TypeIs {s with heap:=h'} e "StopIteration" -> E e {s with heap:=h'}) :
  wpAny (model P w) A (newExc (.type "StopIteration") []>>=fun e=>raiseNew e) Q E s :=by
 refine al ?_
 simp only [newExc,newTuple]
 refine al (ul ?_ (by size_fits))
 refine al (m:=firstArgMember _ _) (UB (a:=AS) (by first|rfl|(simp only [firstArgMember];rfl)) ?_)
 refine ul ?_ (by size_fits)
 simp only [raiseNew]
 refine al (wpAny_handled ?_)
 rw [hh]
 refine al (ca (wpAny_throw ?_))
 exact h _ _ (.inr trivial) (fun b o e=>bn _ (bn _ e)) ⟨_,ff _ rfl,rfl⟩
theorem t9 {Q:Option ag->ap->Prop} {e:ag} (hT:s.TypeIs e "StopIteration") (h:Q none s):wpAny (model P w) A (do let b <- isInstance e (.type "StopIteration");if b=true then pure none else throw e) Q E s:=
 al (S9 (T := "StopIteration") (b:=true) hT isSubtype_stop (ca h))
theorem FC {I a:ac} {slot i ep next:Nat} {es:Array (Int×ag)} {t:OF} {x:ag} {Q:Option ag->ap->Prop} (hit:eA s.heap I a (.int slot 0) i es.size ep) (hE:jh P w s.heap a es ep t)
  (hd:w.params.followText "set-order" = false->(!t.plain && decide (es.size > 1))=false)
  (h1:w.params.followText "set-order" = true->(pickOrder (w.params.setOrder a ep) es)[i]?.map (fun e=>(e.2,slot))=some (x,next))
  (h2:w.params.followText "set-order" = false->(match es[xb t.place slot]?,t.place[xb t.place slot]? with|some (_,x),some j=>some (x,j+1)|_,_=>none)=some (x,next))
  (hQ:∀h',eA h' I a (.int next 0) (i+1) es.size ep->xw I s.heap h'->Q (some x) {s with heap:=h'}):wpAny (model P w) A (pyNext (.ref I)) Q E s :=by
 obtain ⟨o,ho,hc,jJ⟩:=id hit
 obtain ⟨oa,rE,CB,rF⟩:=hE.at_
 unfold pyNext
 refine al (KF (u4 (name:=nw "__next__") hit.typeIs cq (v6 cq hit.typeIs iO ?_ (iP _))))
 unfold wr.«set_iterator.__next__»
 refine al (m:=slotArgs "__next__" 0 _) (ca ?_)
 dsimp only
 refine al (Po ho jJ ?_)
 dsimp only
 refine al (NG rE rF hE.fits ?_)
 simp only [bne_self_eq_false,i4,if_false,ut]
 have fin:∀r,r=some (x,next)->wpAny (model P w) A.in1 (match r with
    |some (x,next)=>do
     setField (l5 I) 0 (rawInt next)
     setField (l5 I) 1 (rawInt (↑i+1))
     ret x
    |none=>do
     setField (l5 I) 2 AS
     let __do_lift <- newExc (BS "StopIteration") []
     raiseNew __do_lift) (fun fin s'=>∃v,fin=Fin.done (Flow.ret v)/\wpAny (model P w) A (pure (some v)) Q E s') (fun e s'=>wpAny (model P w) A (do
     let __do_lift <- isInstance e (BS "StopIteration")
     if __do_lift=true then pure none else throw e) Q E s') s:=fun r hr=>by
  subst hr
  dsimp only
  refine al (kj (by decide) hit ?_)
  have Iz:=hit.Iy (x:=rawInt next)
  refine al (kj (by decide) Iz ?_)
  exact ca ⟨x,rfl,ca (hQ _ Iz.t8 ((NH ..).trans (NH ..)))⟩
 exact al (pA hE hd (fun hb=>fin _ (h1 hb)) (fun hb=>fin _ (h2 hb)))
theorem FD {I a:ac} {slot i ep:Nat} {es:Array (Int×ag)} {t:OF} {Q:Option ag->ap->Prop} (hh:A.handled=none) (hit:eA s.heap I a (.int slot 0) i es.size ep) (hE:jh P w s.heap a es ep t)
  (hd:w.params.followText "set-order" = false->(!t.plain && decide (es.size > 1))=false)
  (h1:w.params.followText "set-order" = true->(pickOrder (w.params.setOrder a ep) es)[i]?.map (fun e=>(e.2,slot))=none)
  (h2:w.params.followText "set-order" = false->(match es[xb t.place slot]?,t.place[xb t.place slot]? with|some (_,x),some j=>some (x,j+1)|_,_=>none)=none)
  (hQ:∀h',(∀b o,b≠I->s.heap.get? b=some o->h'.get? b=some o)->Q none {s with heap:=h'}):wpAny (model P w) A (pyNext (.ref I)) Q E s :=by
 obtain ⟨o,ho,hc,jJ⟩:=id hit
 obtain ⟨oa,rE,CB,rF⟩:=hE.at_
 unfold pyNext
 refine al (KF (u4 (name:=nw "__next__") hit.typeIs cq (v6 cq hit.typeIs iO ?_ (iP _))))
 unfold wr.«set_iterator.__next__»
 refine al (m:=slotArgs "__next__" 0 _) (ca ?_)
 dsimp only
 refine al (Po ho jJ ?_)
 dsimp only
 refine al (NG rE rF hE.fits ?_)
 simp only [bne_self_eq_false,i4,if_false,ut]
 have fin:∀r:Option (ag×Nat),r=none->wpAny (model P w) A.in1 (match r with
    |some (x,next)=>do
     setField (l5 I) 0 (rawInt next)
     setField (l5 I) 1 (rawInt (↑i+1))
     ret x
    |none=>do
     setField (l5 I) 2 AS
     let __do_lift <- newExc (BS "StopIteration") []
     raiseNew __do_lift) (fun fin s'=>∃v,fin=Fin.done (Flow.ret v)/\wpAny (model P w) A (pure (some v)) Q E s') (fun e s'=>wpAny (model P w) A (do
     let __do_lift <- isInstance e (BS "StopIteration")
     if __do_lift=true then pure none else throw e) Q E s') s:=fun r hr=>by
  subst hr
  dsimp only
  refine al (kj (by decide) hit ?_)
  exact wH hh fun e h' _ k hT=>t9 hT (hQ h' fun b o hb q=>k b o ((xL _ _ (wn hb)).trans q))
 exact al (pA hE hd (fun hb=>fin _ (h1 hb)) (fun hb=>fin _ (h2 hb)))
theorem FE {I a T:ac} {i ep j:Nat} {es:Array (Int×ag)} {t:OF} {ps:List Nat} {x:Int×ag} {Q:Option ag->ap->Prop} (hit:eA s.heap I a (.ref T) i es.size ep) (hE:jh P w s.heap a es ep t)
  (hT:s.heap.IsTuple T (ps.map fun (i:Nat)=>rawInt i).toArray) (hj:ps[i]?=some j) (hx:es[j]?=some x)
  (hQ:∀h',eA h' I a (.ref T) (i+1) es.size ep->xw I s.heap h'->Q (some x.2) {s with heap:=h'}):wpAny (model P w) A (pyNext (.ref I)) Q E s :=by
 obtain ⟨o,ho,hc,jJ⟩:=id hit
 obtain ⟨oa,rE,CB,rF⟩:=hE.at_
 unfold pyNext
 refine al (KF (u4 (name:=nw "__next__") hit.typeIs cq (v6 cq hit.typeIs iO ?_ (iP _))))
 unfold wr.«set_iterator.__next__»
 refine al (m:=slotArgs "__next__" 0 _) (ca ?_)
 dsimp only
 refine al (Po ho jJ ?_)
 dsimp only
 refine al (NG rE rF hE.fits ?_)
 simp only [bne_self_eq_false,i4,if_false,ut]
 obtain ⟨ot,IA,_,nt,n6⟩:=hT
 refine al (TK IA n6 ?_)
 have e:(ps.map fun (i:Nat)=>rawInt i).toArray[i]?=some (rawInt j) :=by simp [hj]
 dsimp only
 rw [e]
 show wpAny _ _ (setNextDrawn a (Int.toNat (j:Int)) ep>>=_) _ _ s
 rw [ut]
 refine al ?_
 unfold setNextDrawn
 refine al (S1 rE rF hE.fits ?_)
 simp only [bne_self_eq_false,i4,if_false,hx]
 refine ca ?_
 refine al (kj (by decide) hit ?_)
 exact ca ⟨x.2,rfl,ca (hQ _ hit.t8 (NH ..))⟩
theorem FG {I a T:ac} {i ep:Nat} {es:Array (Int×ag)} {t:OF} {ps:List Nat} {Q:Option ag->ap->Prop} (hh:A.handled=none) (hit:eA s.heap I a (.ref T) i es.size ep) (hE:jh P w s.heap a es ep t)
  (hT:s.heap.IsTuple T (ps.map fun (i:Nat)=>rawInt i).toArray) (hj:ps.length<=i)
  (hQ:∀h',(∀b o,b≠I->s.heap.get? b=some o->h'.get? b=some o)->Q none {s with heap:=h'}):wpAny (model P w) A (pyNext (.ref I)) Q E s :=by
 obtain ⟨o,ho,hc,jJ⟩:=id hit
 obtain ⟨oa,rE,CB,rF⟩:=hE.at_
 unfold pyNext
 refine al (KF (u4 (name:=nw "__next__") hit.typeIs cq (v6 cq hit.typeIs iO ?_ (iP _))))
 unfold wr.«set_iterator.__next__»
 refine al (m:=slotArgs "__next__" 0 _) (ca ?_)
 dsimp only
 refine al (Po ho jJ ?_)
 dsimp only
 refine al (NG rE rF hE.fits ?_)
 simp only [bne_self_eq_false,i4,if_false,ut]
 obtain ⟨ot,IA,_,nt,n6⟩:=hT
 refine al (TK IA n6 ?_)
 have e:(ps.map fun (i:Nat)=>rawInt i).toArray[i]?=none :=by simp [hj]
 dsimp only
 rw [e]
 dsimp only
 refine al (kj (by decide) hit ?_)
 refine al (kj (by decide) (hit.Iy (x:=rawInt 0)) ?_)
 exact wH hh fun e h' _ k hT=>t9 hT (hQ h' fun b o hb q=>k b o ((xL _ _ (wn hb)).trans ((xL _ _ (wn hb)).trans q)))
end
theorem eA.cV {h h':db} {I a:ac} {first:ag} {i n ep:Nat} (x:eA h I a first i n ep) (k:∀o,h.get? I=some o->h'.get? I=some o):eA h' I a first i n ep:=let ⟨o,ho,r⟩:=x;⟨o,k o ho,r⟩
theorem jh.cV {P:cr} {w:gc} {h h':db} {a:ac} {es:Array (Int×ag)} {ep:Nat} {t:OF} (x:jh P w h a es ep t) (k:∀o,h.get? a=some o->h'.get? a=some o):jh P w h' a es ep t:=
 ⟨let ⟨o,ho,r⟩:=x.at_;⟨o,k o ho,r⟩,x.fits,x.tab⟩
theorem xU {xs:Array Nat} (h:wD xs) {i:Nat} (hi:i<xs.size):xb xs (xs[i]+1)=i+1 :=by
 obtain ⟨b0,b1,b2⟩:=t7 (xs[i]+1) h
 generalize xb xs (xs[i]+1)=p at *
 have h1:i<p :=by
  refine Nat.lt_of_not_le fun hp=>?_
  have:=b2 i hi hp
  omega
 refine Nat.le_antisymm (S7 fun hp=>?_) h1
 have Nt:i+1<xs.size :=by omega
 have q:=b1 (i+1) Nt hp
 have q2:=t6 h (show i<i+1 by omega) Nt
 omega
theorem xV {xs:Array Nat} (h:wD xs):xb xs 0=0 :=by
 obtain ⟨b0,b1,b2⟩:=t7 0 h
 generalize xb xs 0=p at *
 by_cases hp:p=0
 ·exact hp
 ·have:=b1 0 (by omega) (by omega)
  omega
section
variable {P:cr} {w:gc} {A:l9} {E:ag->ap->Prop} {s:ap}
theorem si_self {I a:ac} {first:ag} {i n ep:Nat} {Q:ag->ap->Prop} (hit:eA s.heap I a first i n ep) (h:Q (.ref I) s):wpAny (model P w) A (pyIter (.ref I)) Q E s :=by
 refine T8 hit.typeIs pz (v6 pz hit.typeIs xS ?_ (xT _))
 show wpAny _ _ (ret (.ref I)) _ _ s
 exact ca ⟨_,rfl,"set_iterator",_,hit.typeIs,cq.lookup,h⟩
theorem ua {es:List (Int×ag)} (h:ElemsOf (intKind P w) es) {e:Int×ag} (he:e∈es):∃t,e.2=.int (gR e) t :=by
 obtain ⟨⟨k',zP,_⟩,_⟩:=h e he
 obtain ⟨t,e2⟩:=ag.isInt_shape (k:=k') (v:=e.2) zP
 exact ⟨t,by unfold gR;rw [e2]⟩
abbrev zQ (xs:List Int):Nat->ag->Prop:=fun i v=>∃m t,xs[i]?=some m/\v=.int m t
def eW (w:gc) (a:ac) (ep:Nat) (es:Array (Int×ag)):List (Int×ag):=if w.params.followText "set-order" = true then (pickOrder (w.params.setOrder a ep) es).toList else es.toList
theorem iQ (w:gc) (a:ac) (ep:Nat) (es:Array (Int×ag)):(eW w a ep es).Perm es.toList :=by
 unfold eW
 split
 ·exact rD _ _
 ·exact .refl _
theorem CC {I a:ac} {es:Array (Int×ag)} {ep:Nat} {t:OF} (hh:A.handled=none) (gq:a≠I) (wI:ElemsOf (intKind P w) es.toList) (hd:w.params.followText "set-order" = false->(!t.plain && decide (es.size > 1))=false) :
  WalksS P w A I [I,a] [I] (fun a b=>b=a) ((eW w a ep es).map gR).length (zQ ((eW w a ep es).map gR))
   (fun i s=>jh P w s.heap a es ep t/\∃slot:Nat,eA s.heap I a (.int slot 0) i es.size ep/\(w.params.followText "set-order" = false->xb t.place slot=i)) where
 sub:=fun b hb=>by simp at hb;simp [hb]
 grefl:=fun _=>rfl
 gtrans:=fun _ _ _ h1 h2=>h2.trans h1
 frame:=fun i s h' _ st _ hk=>⟨st.1.cV fun o e=>hk a (by simp) o e,let ⟨slot,h1,h2⟩:=st.2;⟨slot,h1.cV fun o e=>hk I (by simp) o e,h2⟩⟩
 item:=fun i s Q E hi st hQ=>by
  obtain ⟨hE,slot,hit,hb⟩:=st
  have hl:i<(eW w a ep es).length :=by simpa using hi
  have Nu:i<es.size :=by rw [<- ww,<- (iQ w a ep es).length_eq];exact hl
  obtain ⟨tk,he⟩:=ua (P:=P) (w:=w) wI ((iQ w a ep es).mem_iff.mp (ss hl))
  have cZ:i<t.place.size :=by
   have:=hE.fits
   simp only [OF.fits,BB,beq_iff_eq] at this
   rw [this.1];exact Nu
  refine FC (next:=if w.params.followText "set-order" = true then slot else t.place[i]+1) (x:=((eW w a ep es)[i]).2) hit hE hd (fun gM=>?_) (fun gM=>?_) (fun h' CD hs=>hQ _ _ ⟨_,tk,by rw [br,bi hl];rfl,he⟩ ⟨hE.cV fun o e=>by rw [hs.2 a gq];exact e,_,CD,fun gM=>?_⟩ ⟨fun b o hb e=>by rw [hs.2 b (fun z=>hb (by simp [z]))];exact e,rfl,rfl,rfl,ce _⟩)
  ·rw [if_pos gM]
   have e1:eW w a ep es=(pickOrder (w.params.setOrder a ep) es).toList :=by unfold eW;rw [if_pos gM]
   have e2:(pickOrder (w.params.setOrder a ep) es)[i]?=some (eW w a ep es)[i] :=by
    rw [<- Db,<- e1]
    exact bi hl
   rw [e2]
   rfl
  ·rw [if_neg (by rw [gM];decide),hb gM,ze Nu,ze cZ]
   have e1:eW w a ep es=es.toList :=by unfold eW;rw [if_neg (by rw [gM];decide)]
   have e2:(eW w a ep es)[i]=es[i] :=by simp [e1]
   rw [e2]
  ·rw [if_neg (by rw [gM];decide)]
   exact xU hE.tab.ris cZ
 done:=fun s Q E st hQ=>by
  obtain ⟨hE,slot,hit,hb⟩:=st
  have hl:((eW w a ep es).map gR).length=es.size :=by rw [cb,(iQ w a ep es).length_eq,ww]
  rw [hl] at hit hb
  refine FD hh hit hE hd (fun gM=>?_) (fun gM=>?_) (fun h' k=>hQ _ ⟨fun b o hb e=>k b o (fun z=>hb (by simp [z])) e,rfl,rfl,rfl,ce _⟩)
  ·have e1:(pickOrder (w.params.setOrder a ep) es)[es.size]?=none :=by
    refine S3 ?_
    rw [<- ww,(rD _ es).length_eq,ww]
    exact ce _
   rw [e1]
   rfl
  ·rw [hb gM,S3 (ce _)]
 self:=fun i s Q E st hQ=>let ⟨_,slot,hit,_⟩:=st;si_self hit hQ
theorem xW {I a T:ac} {es:Array (Int×ag)} {ep:Nat} {t:OF} {ps:List Nat} (hh:A.handled=none) (gq:a≠I) (O4:T≠I) (wI:ElemsOf (intKind P w) es.toList) (zR:∀j∈ps,j<es.size) (cZ:ps.length=es.size) :
  WalksS P w A I [I,a,T] [I] (fun a b=>b=a) (ps.map fun j=>gR (es.getD j (0,.none))).length (zQ (ps.map fun j=>gR (es.getD j (0,.none))))
   (fun i s=>jh P w s.heap a es ep t/\s.heap.IsTuple T (ps.map fun (i:Nat)=>rawInt i).toArray/\eA s.heap I a (.ref T) i es.size ep) where
 sub:=fun b hb=>by simp at hb;simp [hb]
 grefl:=fun _=>rfl
 gtrans:=fun _ _ _ h1 h2=>h2.trans h1
 frame:=fun i s h' _ st _ hk=>⟨st.1.cV fun o e=>hk a (by simp) o e,st.2.1.at fun o e=>hk T (by simp) o e,st.2.2.cV fun o e=>hk I (by simp) o e⟩
 item:=fun i s Q E hi st hQ=>by
  obtain ⟨hE,hT,hit⟩:=st
  have hl:i<ps.length :=by simpa using hi
  have hj:=zR _ (ss hl)
  have hx:es[ps[i]]?=some es[ps[i]]:=ze hj
  have hg:es.getD ps[i] (0,.none)=es[ps[i]] :=by simp [Array.getD,hj]
  obtain ⟨tk,he⟩:=ua (P:=P) (w:=w) wI (show es[ps[i]]∈es.toList by simp)
  refine FE hit hE hT (bi hl) hx fun h' CD hs=>hQ _ _ ⟨_,tk,by rw [br,bi hl];rfl,by dsimp only;rw [hg];exact he⟩ ⟨hE.cV fun o e=>by rw [hs.2 a gq];exact e,hT.at fun o e=>by rw [hs.2 T O4];exact e,CD⟩ ⟨fun b o hb e=>by rw [hs.2 b (fun z=>hb (by simp [z]))];exact e,rfl,rfl,rfl,ce _⟩
 done:=fun s Q E st hQ=>by
  obtain ⟨hE,hT,hit⟩:=st
  have hl:(ps.map fun j=>gR (es.getD j (0,.none))).length=ps.length:=cb _
  rw [hl] at hit
  exact FG hh hit hE hT (ce _) fun h' k=>hQ _ ⟨fun b o hb e=>k b o (fun z=>hb (by simp [z])) e,rfl,rfl,rfl,ce _⟩
 self:=fun i s Q E st hQ=>si_self st.2.2 hQ
theorem xX {a:ac} {ns:List Int} {Q:ag->ap->Prop} (hS:iD P w s.heap a ns)
  (hQ:∀(I:ac) (h':db) (d':Drawn) (xs:List Int) (fp:List ac) (St:Nat->ap->Prop),xs.Perm ns->(∀b o,s.heap.get? b=some o->h'.get? b=some o)->s.heap.objs.size<=I->(∀b∈fp,b=a\/s.heap.objs.size<=b)->
   (∀A':l9,A'.handled=none->WalksS P w A' I fp [I] (fun a b=>b=a) xs.length (zQ xs) St)->St 0 {s with heap:=h',drawn:=d'}->Q (.ref I) {s with heap:=h',drawn:=d'}):wpAny (model P w) A (pyIter (.ref a)) Q E s :=by
 have Nv:=hS.typeIs (h:=s.heap)
 obtain ⟨o,es,ep,t,ho,hex,hd,wI,hp,hn,hb,hf,ht⟩:=hS
 have hE:jh P w s.heap a es ep t:=⟨⟨o,ho,hex,hd⟩,hf,ht⟩
 have bp:=f8 ho
 refine T8 Nv F.slot_set_iter (v6 F.slot_set_iter Nv vH ?_ (F.args_set_iter_1 _))
 unfold wr.«frozenset.__iter__»
 refine al (m:=wr.Frozenset.slot0 "__iter__" _) (ca ?_)
 unfold wr.Frozenset.sizeOf
 refine al (al (NG ho hd hf (ca ?_)))
 refine al ?_
 unfold setDrawn
 refine al (S1 ho hd hf ?_)
 dsimp only
 refine al (mG ?_)
 refine ca ?_
 by_cases rG:(!w.params.followText "set-order" && (!t.plain && decide (es.size > 1)))=true
 ·show wpAny _ _ (if (!w.params.followText "set-order" && (!t.plain && decide (es.size > 1)))=true then _ else _) _ _ s
  rw [if_pos rG]
  refine al (mF _ _ (by simp) fun ps d zR=>?_)
  have cZ:ps.length=es.size :=by rw [zR.length_eq,ET]
  refine al (wpAny_newTuple ?_ (by rw [cb,cZ];exact fits_of_scanBound hb))
  refine al (wpAny_setEpoch_of (o:=o) (bn _ ho) hd hf ?_)
  unfold newFields
  refine al (ul ?_ (by size_fits))
  have hsz:∀u:ii,(s.heap.push u).objs.size=s.heap.objs.size+1:=fun u=>Pi _ _
  have hit:eA ((s.heap.push {cls:=.type "tuple",data:=.seq (ps.map fun (i:Nat)=>rawInt i).toArray}).push {cls:=.type "set_iterator",data:=.fields #[.ref s.heap.objs.size,.int (0:Nat) 0,.ref a,.int es.size 0,.int ep 0]}) (s.heap.push {cls:=.type "tuple",data:=.seq (ps.map fun (i:Nat)=>rawInt i).toArray}).objs.size a (.ref s.heap.objs.size) 0 es.size ep:=⟨_,ff _ rfl,rfl,rfl⟩
  have Qp:(ps.map fun j=>gR (es.getD j (0,.none))).Perm ns :=by
   refine ((zR.map _).trans ?_).trans hp
   have:(on es.size).map (fun j=>gR (es.getD j (0,.none)))=es.toList.map gR :=by
    refine List.ext_getElem (by simp) fun n h1 h2=>?_
    have y4:n<es.size :=by simpa using h1
    simp [Array.getD,y4]
   rw [this]
  refine ca ⟨_,rfl,"set_iterator",_,eA.typeIs (s:={s with heap:=_,drawn:=d}) hit,cq.lookup,?_⟩
  refine hQ _ _ d _ [(s.heap.push {cls:=.type "tuple",data:=.seq (ps.map fun (i:Nat)=>rawInt i).toArray}).objs.size,a,s.heap.objs.size] _ Qp (fun b o e=>bn _ (bn _ e)) (by rw [hsz];exact DO _) (fun b hb=>?_) (fun A' hA=>xW (t:=t) (ep:=ep) hA ?_ ?_ wI (fun j hj=>by simpa using zR.mem_iff.mp hj) cZ) ⟨hE.cV fun o e=>bn _ (bn _ e),⟨_,bn _ (ff _ rfl),rfl,_,rfl⟩,hit⟩
  ·simp only [lp,Gc,or_false] at hb
   rcases hb with rfl|rfl|rfl
   ·exact .inr (by rw [hsz];exact DO _)
   ·exact .inl rfl
   ·exact .inr (ce _)
  ·rw [hsz];exact i8 (SY bp)
  ·rw [hsz];exact i8 (FS _)
 ·show wpAny _ _ (if (!w.params.followText "set-order" && (!t.plain && decide (es.size > 1)))=true then _ else _) _ _ s
  rw [if_neg rG]
  refine al (ca (al (wpAny_setEpoch_of ho hd hf ?_)))
  unfold newFields
  refine al (ul ?_ (by size_fits))
  have hit:eA (s.heap.push {cls:=.type "set_iterator",data:=.fields #[.int (0:Nat) 0,.int (0:Nat) 0,.ref a,.int es.size 0,.int ep 0]}) s.heap.objs.size a (.int (0:Nat) 0) 0 es.size ep:=⟨_,ff _ rfl,rfl,rfl⟩
  refine ca ⟨_,rfl,"set_iterator",_,eA.typeIs (s:={s with heap:=_}) hit,cq.lookup,?_⟩
  refine hQ _ _ s.drawn _ [s.heap.objs.size,a] _ (((iQ w a ep es).map gR).trans hp) (fun b o e=>bn _ e) (ce _) (fun b hb=>?_) (fun A' hA=>CC (t:=t) (ep:=ep) hA (i8 bp) wI fun hb=>?_) ⟨hE.cV fun o e=>bn _ e,0,hit,fun _=>xV ht.ris⟩
  ·simp only [lp,Gc,or_false] at hb
   rcases hb with rfl|rfl
   ·exact .inr (ce _)
   ·exact .inl rfl
  ·rw [hb] at rG
   simpa using rG
end
section
variable {P:cr} {w:gc} {A:l9} {E:ag->ap->Prop} {s:ap}
theorem vI {a:ac} {Q:Bool->ap->Prop} (hT:s.TypeIs (.ref a) "set") (h:Q false s):wpAny (model P w) A (P3 (.ref a)) Q E s :=by
 unfold P3
 refine al (Tu hT F.slot_set_len.lookup ?_)
 have e:splitId "set.__len__" = some ("set","__len__") :=by kernel_rfl
 dsimp only
 rw [e]
 dsimp only
 refine al (S9 hT sub_set_self ?_)
 simp only [TZ,i4,if_false]
 show wpAny _ _ (if _=true then _ else _) _ _ s
 rw [if_pos (by kernel_rfl)]
 exact al (Tt hT (ca h))
theorem ints_of {xs:List Int} {acc:Array ag} (h:ItemsOf (zQ xs) acc xs.length):Pf acc.toList xs :=by
 obtain ⟨hs,hi⟩:=h
 have:∀(vs:List ag) (xs:List Int),vs.length=xs.length->(∀(j:Nat) (v:ag),vs[j]?=some v->zQ xs j v)->Pf vs xs :=by
  intro vs
  induction vs with
  |nil=>intro xs hl _;cases xs with|nil=>exact .nil|cons x xs=>simp at hl
  |cons v vs ih=>
   intro xs hl hg
   cases xs with
   |nil=>simp at hl
   |cons x xs=>
    obtain ⟨m,t,e1,rfl⟩:=hg 0 v rfl
    have e2:x=m :=by simpa using e1
    subst e2
    refine .cons _ _ (ih xs (by simpa using hl) fun j u hu=>?_)
    obtain ⟨m',t',e3,e4⟩:=hg (j+1) u (by simpa using hu)
    exact ⟨m',t',by simpa using e3,e4⟩
 exact this acc.toList xs (by simpa using hs) fun j v hv=>hi j v (by rw [<- Db];exact hv)
theorem vJ {a:ac} {ns:List Int} {QL:List ag->ap->Prop} (hh:A.handled=none) (hS:iD P w s.heap a ns) (hz:ns.length<=sizeLine)
  (hQ:∀us xs h' d' tk,Pf us xs->xs.Perm ns->(∀b o,s.heap.get? b=some o->h'.get? b=some o)->QL us {s with heap:=h',drawn:=d',toks:=tk}):wpAny (model P w) A (collect (.ref a)) QL E s :=by
 have bp:a<s.heap.objs.size:=let ⟨_,_,_,_,ho,_⟩:=hS;f8 ho
 have Nw:s.heap.objs.size≠a:=Pd bp
 unfold collect
 refine al (wpAny_runValue (Cs Tf ?_))
 rw [xy Th _]
 show wpAny _ A.in1 (newList []>>=fun l=>again (.builtin "list.__iadd__" ⟨[l,.ref a],[]⟩)) _ _ s
 refine al (ul ?_)
 refine ca ⟨EU Lo _,Cs T6 ?_⟩
 rw [xy Lo _]
 have IB:iD P w (s.heap.push {cls:=.type "list",data:=.seq ([]:List ag).toArray}) a ns:=hS.cV fun o e=>bn _ e
 have T1:ap.TypeIs {s with heap:=s.heap.push {cls:=.type "list",data:=.seq ([]:List ag).toArray}} (.ref a) "set" := iD.typeIs (P:=P) (w:=w) (h:=s.heap) (s:={s with heap:=_}) IB
 show wpAny _ A.in1 (AN (.ref s.heap.objs.size) (.ref a) (.ref s.heap.objs.size)) _ _ _
 unfold AN
 refine al (Tt T1 ?_)
 have h1:Me (.ref s.heap.objs.size) (.ref a)=false :=by simp [Me,Nw]
 have h2:(BS "set" == BS "list")=false :=by decide
 have h3:(BS "set" == BS "tuple")=false :=by decide
 simp only [h1,h2,h3,Bool.or_false,i4,if_false]
 refine al (xX (s:={s with heap:=s.heap.push {cls:=.type "list",data:=.seq ([]:List ag).toArray}}) IB ?_)
 intro I h' d' xs fp St hp hk hI Qq hW qV
 have T2:ap.TypeIs {s with heap:=h',drawn:=d'} (.ref a) "set" := iD.typeIs (P:=P) (w:=w) (h:=s.heap) (s:={s with heap:=_,drawn:=d'}) (IB.cV fun o e=>hk a o e)
 refine al (KB (vI T2 ?_))
 show wpAny _ A.in1 (if _=true then _ else _) _ _ _
 rw [if_pos (by kernel_rfl)]
 show wpAny _ A.in1 (rule "list.extend.makes-room" >>= fun _=>wr.List.listTouch (.ref s.heap.objs.size)>>=fun _=>
  again (.builtin "list.extend.loop" ⟨[.ref s.heap.objs.size,.ref I,.ref s.heap.objs.size],[]⟩)) _ _ _
 refine al (GE ?_)
 have nC:h'.get? s.heap.objs.size=some {cls:=.type "list",data:=.seq ([]:List ag).toArray}:=hk _ _ (ff _ rfl)
 refine al ?_
 show wpAny _ A.in1 (updateSeq s.heap.objs.size (·.push .none)>>=fun _=>updateSeq s.heap.objs.size (·.pop)) _ _ _
 refine al (SL nC rfl ?_)
 have sV:=B0 (Lu (·.push AS)) nC rfl
 refine SL sV rfl ?_
 have LU:=B0 (Lu (·.pop)) sV rfl
 have oth:∀b o,b≠s.heap.objs.size->h'.get? b=some o->((h'.update s.heap.objs.size (Lu (·.push AS))).update s.heap.objs.size (Lu (·.pop))).get? b=some o:=
  fun b o hb e=>(xL _ _ (wn hb)).trans ((xL _ _ (wn hb)).trans e)
 have IC:(s.heap.push {cls:=.type "list",data:=.seq ([]:List ag).toArray}).objs.size=s.heap.objs.size+1:=Pi _ _
 have Nx:s.heap.objs.size ∉ fp:=fun hm=>by
  rcases Qq _ hm with z|z
  ·exact Nw z
  ·have z':s.heap.objs.size+1<=s.heap.objs.size :=by rw [<- IC];exact z
   exact absurd z' (Nat.not_succ_le_self _)
 have W:=hW A.in1.in1 (by simp [hh])
 have hl:xs.length<=sizeLine :=by rw [hp.length_eq];exact hz
 refine ca ⟨EU So _,codeAny_extend_loopS (W.of_in1) hl _ Nx _ xs.length 0 _ _ _ rfl (rb _) (W.frame 0 ({s with heap:=h',drawn:=d'}:ap) _ s.toks qV (ce _) fun b hb o e=>oth b o (fun h=>Nx (h▸hb)) e) LU (ItemsOf.nil _) fun s' iC c' hm Qr qt=>?_⟩
 show wpAny _ A (load s.heap.objs.size>>=_) _ _ s'
 refine al (UH Qr ?_)
 refine ca ?_
 obtain ⟨h2,g2,d2,Qs,os2⟩:=s'
 have eg:g2=s.gens:=hm.gens
 have ed:d2=d':=hm.drawn
 have eo:os2=s.os:=hm.os
 subst eg;subst ed;subst eo
 refine hQ _ xs h2 _ Qs (ints_of qt) hp fun b o e=>hm.heap b o ?_ (oth b o (i8 (f8 e)) (hk b o (bn _ e)))
 have hb:b<s.heap.objs.size:=f8 e
 simp only [lp,Gc,or_false,not_or]
 refine ⟨i8 hb,fun z=>?_⟩
 have z':s.heap.objs.size+1<=b :=by rw [<- IC,z];exact hI
 exact absurd (lc (SY hb) z') (JJ _)
end
def sortI (ns:List Int):List Int:=ns.mergeSort fun a b=>decide (a<=b)
theorem sortI_perm (ns:List Int):(sortI ns).Perm ns:=List.mergeSort_perm _ _
theorem CF (ns:List Int):(sortI ns).Pairwise (·<=·) :=by
 have:=List.pairwise_mergeSort (le:=fun a b:Int=>decide (a<=b)) (fun a b c h1 h2=>by simp only [decide_eq_true_eq] at *;omega) (fun a b=>by simp only [Bool.or_eq_true,decide_eq_true_eq];omega) ns
 exact this.imp fun h=>by simpa using h
theorem vK {a b:List Int} (p:a.Perm b) (ha:a.Pairwise (·<=·)) (hb:b.Pairwise (·<=·)):a=b:=Ti.eq_of_pairwise (le:=(·<=·)) (fun x y _ _ h1 h2=>Int.le_antisymm h1 h2) ha hb p
theorem ub {ms ns:List Int} (p:ms.Perm ns) (h:ms.Pairwise (·<=·)):ms=sortI ns:=vK (p.trans (sortI_perm ns).symm) h (CF ns)
theorem pB:∀{ns:List Int} {us:List ag},Vals (ns.map V.int) us->Pf us ns
 | [],_,.nil=>.nil
 |n::ns,_,.cons r t=>by
          obtain ⟨k,rfl⟩:=r
          exact .cons _ _ (pB t)
theorem mH:∀{ns:List Int} {us:List ag},Pf us ns->Vals (ns.map V.int) us
 |_,_,.nil=>.nil
 |_,_,.cons n t r=>.cons ⟨t,rfl⟩ (mH r)
section
variable {P:cr} {w:gc} {A:l9} {E:ag->ap->Prop} {s:ap}
theorem n8 {T:String} {l:ac} {vs:List ag} {Q:List ag->ap->Prop} {o:ii} {n:Nat} (ho:s.heap.get? l=some o) (hc:o.cls=.type T) (hd:o.data=.seq vs.toArray n) (hT:T = "list" \/ T = "tuple")
  (h:∀h',(∀b o,s.heap.get? b=some o->h'.get? b=some o)->Q vs {s with heap:=h'}) (hsz:vs.length<=sizeLine):wpAny (model P w) A (collect (.ref l)) Q E s :=by
 unfold collect
 refine al (wpAny_runValue (Cs Tf ?_))
 rw [xy Th _]
 show wpAny _ A.in1 (newList []>>=fun l'=>again (.builtin "list.__iadd__" ⟨[l',.ref l],[]⟩)) _ _ s
 refine al (wpAny_newList (ca ⟨EU Lo _,Cs T6 ?_⟩))
 rw [xy Lo _]
 show wpAny _ A.in1 (AN (.ref s.heap.objs.size) (.ref l) (.ref s.heap.objs.size)) _ _ {s with heap:=s.heap.push (seqObj "list" #[] 0)}
 unfold AN
 have gL:(s.heap.push (seqObj "list" #[] 0)).get? l=some o:=bn _ ho
 refine al (Tt (T:=T) ⟨o,gL,hc⟩ ?_)
 rw [if_pos (by rcases hT with rfl|rfl <;> simp)]
 refine al (listItems_at gL hd ?_)
 refine al (listItems_at (xs:=#[]) (n:=0) (ff _ rfl) rfl ?_)
 rw [if_neg (by simp)]
 refine al (listUpdate_at (xs:=#[]) (n:=0) (ff _ rfl) rfl ?_ (rb _) (by show (#[]++vs.toArray).size<=sizeLine+1;simp only [Array.size_append,jp,SO];omega))
 refine ca ?_
 show wpAny (model P w) A (load s.heap.objs.size>>=_) Q E _
 refine al (UH (get?_update_seq (ff _ rfl) _) ?_)
 show wpAny _ _ (pure ((#[]:Array ag)++vs.toArray).toList) Q E _
 rw [show ((#[]:Array ag)++vs.toArray).toList=vs by simp]
 exact ca (h _ fun b o e=>(xL _ _ (Pd (f8 e))).trans (bn _ e))
theorem xY {a:ag} {ns:List Int} {Q:ag->ap->Prop} (O5:∀QL:List ag->ap->Prop,(∀us xs h' d' tk,Pf us xs->xs.Perm ns->(∀b o,s.heap.get? b=some o->h'.get? b=some o)->QL us {s with heap:=h',drawn:=d',toks:=tk})->wpAny (model P w) A.in1 (collect a) QL E s) (IE:ns.length<64)
  (h:∀(h1 h':db) d' tk (us:List ag) e,Pf us (sortI ns)->(∀b o,s.heap.get? b=some o->h1.get? b=some o)->(∀b o,h1.get? b=some o->h'.get? b=some o)->h'.get? h1.objs.size=some {cls:=.type "list",data:=.seq us.toArray e}->Q (.ref h1.objs.size) {s with heap:=h',drawn:=d',toks:=tk}) :
  wpAny (model P w) A (call (.builtin "sorted") [a]) Q E s :=by
 refine Calls.call_function_entry kind_sorted plain_sorted entry_sorted (args_sorted1 _) ?_
 unfold wr.«sorted»
 refine al (m:=checkCount "sorted" 1 1 _) (ca ?_)
 refine al (O5 _ fun us xs h' d' tk hI hp hk=>?_)
 have IG:us.length<64 :=by
  have:us.length=xs.length:=(mH hI).length.symm.trans (cb _)
  rw [this,hp.length_eq]
  exact IE
 refine al (wpAny_newList ?_ (hsz:=sK (Pc IG) (by decide)))
 have y6:(h'.push (seqObj "list" us.toArray 0)).get? h'.objs.size=some (seqObj "list" us.toArray 0):=ff _ rfl
 refine al (KB (v6 slot_list_sort ⟨_,y6,rfl⟩ entry_list_sort (list_sort_tree y6 hI IG fun out SA a1 a2 a3=>⟨_,rfl,?_⟩) (args_list_sort _)))
 refine ca ⟨_,rfl,?_⟩
 obtain ⟨e,he⟩:=sortedHeap_at (out:=out) y6
 refine h h' _ d' tk out.toList e (by rw [<- ub (a2.trans hp) a3];exact a1) hk (fun b o hb=>?_) (by simpa using he)
 have bp:=f8 hb
 rw [sortedHeap_old (i8 bp) (by rw [Pi];exact SY bp)]
 exact bn _ hb
end
theorem FH {X:Cx} {pins:List (ac×ii)} {σ:St} {H:Hp} {s:ap} {a:ac} {ns:List Int} (I:Inv X pins σ H s) (h:H a=some (xR X.prog X.w a ns)):iD X.prog X.w s.heap a ns:=(I.hok a _ h).1
theorem zS:bootBuiltins "sorted" = some (.builtin "sorted") :=by decide +kernel
section
variable {X:Cx}
def IH (K:ar) (H:Hp) (p:ac) (ns:List Int):Prop:=bY K H p (ns.map V.int)\/dh K H p (ns.map V.int)
def wJ (P:cr) (w:gc) (K:ar):List V->Hp->VK->Prop:=fun xs H Q=>∃p ns,xs=[.ref p]/\(H p=some (xR P w p ns)\/IH K H p ns)/\ns.length<64/\∀l,H l=none->Q (.ref l) (upd H l (.lst ((sortI ns).map V.int)))
theorem ud (hc:X.calm=true):dA X (.builtin "sorted") (wJ X.prog X.w X.K) :=by
 intro pins s σ H xs us Q I r h
 obtain ⟨p,ns,rfl,hq,IE,q⟩:=h
 obtain ⟨u,rfl,rx⟩:=vals1 r
 cases rx
 have hh:=I.ok.hd hc
 refine xY (ns:=ns) (fun QL II=>?_) IE (fun h1 h' d' tk us e hI k1 k2 he=>?_)
 ·rcases hq with hq|hq|hq
  ·exact vJ (by simp [hh]) (FH I hq) (by have:sizeLine=16777216:=RS;omega) II
  ·obtain ⟨its,rv,pl,hz⟩:=I.list hq
   have hl:=rv.length
   obtain ⟨o,ho,fR,n,hd⟩:=pl.isList
   exact n8 ho fR hd (.inl rfl) (fun h' k=>II its ns h' s.drawn s.toks (pB rv) (.refl _) k) (by omega)
  ·obtain ⟨its,rv,pl,hz⟩:=I.tuple hq
   have hl:=rv.length
   obtain ⟨o,ho,fR,n,hd⟩:=pl
   exact n8 ho fR hd (.inr rfl) (fun h' k=>II its ns h' s.drawn s.toks (pB rv) (.refl _) k) (by omega)
 ·have I1:Inv X pins σ H {s with heap:=h1,drawn:=d'}:=(I.kept (t':=s.toks) k1).j7 ⟨rfl,rfl,I.bare.self⟩
  have hsz:sizeLine=16777216:=RS
  have ob:ObjOk X.prog X.w (upd H h1.objs.size (.lst ((sortI ns).map V.int))) h' h1.objs.size (.lst ((sortI ns).map V.int)):=⟨by rw [cb,(sortI_perm ns).length_eq];omega,us,e,mH hI,he⟩
  exact ⟨.ref h1.objs.size,_,I1.laid (t':=tk) k2 (ce _) ob,rfl,q _ (I1.hok.fresh (ce _))⟩
def IJ:V->List V->Hp->VK->Prop:=fun x vs H Q=>∃a b i rest,x=.str a/\vs=[.str b]/\Fk a b 0 a.length 1=i::rest/\Q (.int (i:Nat)) H
theorem CG:zx X "str.index" IJ :=by
 intro pins s σ H x vs v us Q I rx rv h
 obtain ⟨a,b,i,rest,rfl,rfl,ho,q⟩:=h
 obtain ⟨t,rfl⟩:=rx
 obtain ⟨u,rfl,ru⟩:=rv.one
 obtain ⟨t',rfl⟩:=ru
 exact SC.index ho ⟨.int i,H,I.tok _,⟨_,rfl⟩,q⟩
end
theorem ObjOk.there {P:cr} {w:gc} {H:Hp} {h:db} {a:ac} {o:HO} (x:ObjOk P w H h a o):∃u,h.get? a=some u :=by
 cases o with
 |lst xs=>obtain ⟨_,_,_,_,e⟩:=x;exact ⟨_,e⟩
 |tup xs=>obtain ⟨_,_,_,ob,e,_⟩:=x;exact ⟨_,e⟩
 |dK aj=>obtain ⟨_,_,_,_,o,_,_,e,_⟩:=x;exact ⟨_,e⟩
 |dT aj=>obtain ⟨_,_,_,_,o,_,_,e,_⟩:=x;exact ⟨_,e⟩
 |set S n=>obtain ⟨o,_,_,_,e,_⟩:=x;exact ⟨_,e⟩
 |ins C dx fs=>obtain ⟨_,_,_,e,_⟩:=x;exact ⟨_,e⟩
 |own y=>obtain ⟨_,e⟩:=x;exact ⟨_,e⟩
 |xd fs=>obtain ⟨_,⟨_,_,_,e,_⟩,_⟩:=x;exact ⟨_,e⟩
 |DW lo hi=>obtain ⟨_,_,_,e⟩:=x;exact ⟨_,e⟩
 |bQ ob u=>obtain ⟨e,_⟩:=x;exact ⟨_,e⟩
 |cN ps=>exact ⟨_,x⟩
 |lam ps=>exact ⟨_,x⟩
 |met f y=>exact ⟨_,x⟩
 |ext φ=>obtain ⟨_,⟨_,e⟩,_⟩:=x;exact ⟨_,e⟩
def ck (P:cr) (w:gc):fQ:=fun outer H s E e s'=>∃(a C t:ac) (B:db) (H':Hp),e=.ref a/\s'.os=s.os/\Gn s.gens.size s'.gens/\db.FlyingW B outer a (.ref C) (.ref t) s'.heap /\
 (∀b o,s.heap.get? b=some o->b ∉ eu outer->∃o',B.get? b=some o')/\(∀b u,H' b=some u->∃o',B.get? b=some o')/\Un (eu outer) [] H H' s.heap s'.heap/\cQ P w H' s'.heap/\E (.ref C) none H'
section
variable {X:Cx} {pins:List (ac×ii)} {σ:St} {H H1:Hp} {s s1:ap} {B h':db}
theorem Inv.mI (I:Inv X pins σ H s) {b:ac} (h1:b≠X.env.locals) (h2:b ∉ X.fs):b ∉ eu X.stack:=fun z=>by
 rcases lp.mp (I.ie b z) with q|q
 ·exact h1 q
 ·exact h2 q
theorem Inv.sW (I:Inv X pins σ H s) {b:ac} {o:ii} (e:X.s₀.heap.get? b=some o):b≠X.env.locals:=fun z=>by
 have l:=f8 e
 have:=I.ok.above
 rw [<- z] at this
 exact absurd l (UJ.mpr this)
theorem Inv.Ny (I1:Inv X pins σ H1 s1) (I:Inv X pins σ H s) (c1:∀b o,s1.heap.get? b=some o->b ∉ eu X.stack->∃o',B.get? b=some o') (c2:∀b u,H b=some u->∃o',B.get? b=some o')
  (k:B.StaysIn s.heap) (k':B.StaysIn h') (up:s.heap.UpToSlots h'):Inv X pins σ H {s with heap:=h'}:=by
 have same:∀b o',(∃o2,B.get? b=some o2)->s.heap.get? b=some o'->h'.get? b=some o':=fun b o' ⟨o2,e⟩ q=>by
  have z:=k b o2 e
  rw [q] at z
  cases z
  exact k' b _ e
 refine ⟨I.ok,I.os,I.bare,⟨fun b o q n hb hx=>?_,fun b o q n hb hx=>?_,I.base.free,fun b o q hx=>?_,I.base.tups,I.base.frzs,I.base.tbls⟩,?_,fun x c e=>?_,I.free,I.freeC,fun p hp=>?_,fun a o e=>?_,I.len⟩
 ·exact same b o (c1 b o (I1.base.keep b o q n hb hx) (I.mI (I.sW q) hb)) (I.base.keep b o q n hb hx)
 ·obtain ⟨sl,e⟩:=I.base.slot b o q n hb hx
  obtain ⟨_,o2,e2,nf⟩:=I.funs.mem hb
  rw [e] at e2
  cases e2
  obtain ⟨Qt,e4⟩:=up b {o with slots:=sl} e nf
  exact ⟨Qt,e4⟩
 ·obtain ⟨o',e⟩:=I.base.there b o q hx
  by_cases hb:b∈X.fs
  ·obtain ⟨_,o2,e2,nf⟩:=I.funs.mem hb
   obtain ⟨sl,e3⟩:=up b _ e2 nf
   exact ⟨_,e3⟩
  ·obtain ⟨o1,q1⟩:=I1.base.there b o q hx
   exact ⟨o',same b o' (c1 b o1 q1 (I.mI (I.sW q) hb)) e⟩
 ·obtain ⟨m,hn,hl⟩:=I.loc
  refine ⟨m,up.ns hn,fun i x v a b c=>?_⟩
  obtain ⟨u,r,l⟩:=hl i x v a b c
  refine ⟨u,r,?_⟩
  rcases l with l|⟨kd,c,ec,o,ho,hd⟩
  ·exact .inl l
  ·obtain ⟨sl,e⟩:=up c o ho fun vs z=>by rw [hd] at z;cases z
   exact .inr ⟨kd,c,ec,_,e,hd⟩
 ·obtain ⟨v,o,ho,hd⟩:=I.cell x c e
  obtain ⟨sl,e⟩:=up c o ho fun vs z=>by rw [hd] at z;cases z
  exact ⟨v,_,e,hd⟩
 ·obtain ⟨p1,p2,p3,p4,p5⟩:=I.pin p hp
  exact ⟨same p.1 p.2 (c1 p.1 p.2 (I1.pin p hp).1 (I.mI p3 p4)) p1,p2,p3,p4,p5⟩
 ·refine (I.hok a o e).cV (fun b u hb q=>?_) (fun _ q=>q) fun _ _ q=>q
  rcases hb with z|z
  ·exact same b u (c2 b o (by rw [z];exact e)) q
  ·exact same b u (c2 b _ z) q
end
section
variable {P:cr} {w:gc} {K:ar} {mg:ba->Option ag} {base:db} {N:List ba} {qual:ba} {scope:uu} {f:ac} {cd:ag} {A:l9} {outer:List Go} {s0:ap} {H0:Hp} {E:XK}
theorem eX:Passes (ck P w) (fi (ck P w) P w K mg base N qual scope f cd A outer s0 H0 E) E :=by
 intro pins σ H s e s' I h
 obtain ⟨a,C,t,B,H',rfl,os,gn,fl,c1,c2,un,hok,q⟩:=h
 have I':=I.xt (ch:=[]) os un hok gn (fun b z=>absurd z (by simp))
 refine wpAny_leaves_onW (cls:=.ref C) (a0:=.ref t) I.ok.frames rfl fl fun h' Nz up=>?_
 have I2:=I.Ny I' c1 c2 fl.1 Nz.1 up
 refine ⟨a,C,t,B,H',rfl,I2.os,I2.bare,Nz,fun b o e n=>?_,c2,I2.base,I2.hok,q⟩
 obtain ⟨o1,e1⟩:=I.base.there b o e (fun z=>absurd (show b∈([]:List ac) from z) (by simp))
 exact c1 b o1 e1 (I.mI (I.sW e) n)
def Raises (X:Cx) (E:XK):Prop:=∀(pins:List (ac×ii)) (σ:St) (H:Hp) (s:ap) (C:ac) (h':db) (a:ac) (vs:List ag),Inv X pins σ H s->db.MadeExcOf s.heap h' a (.ref C) vs->E (.ref C) none H->X.xe (.ref a) {s with heap:=h'}
theorem pC:Raises (fi (ck P w) P w K mg base N qual scope f cd A outer s0 H0 E) E :=by
 intro pins σ H s C h' a vs I hx q
 have c1:∀b o,s.heap.get? b=some o->b ∉ eu (fi (ck P w) P w K mg base N qual scope f cd A outer s0 H0 E).stack->∃o',(xp s.heap (eu (fi (ck P w) P w K mg base N qual scope f cd A outer s0 H0 E).stack)).get? b=some o':=
  fun b o e n=>⟨o,Sk _ e n⟩
 have c2:∀b u,H b=some u->∃o',(xp s.heap (eu (fi (ck P w) P w K mg base N qual scope f cd A outer s0 H0 E).stack)).get? b=some o':=fun b u hu=>by
  obtain ⟨o,e⟩:=(I.hok b u hu).there
  exact c1 b o e fun z=>by rw [I.nv b z] at hu;cases hu
 have st:(xp s.heap (eu (fi (ck P w) P w K mg base N qual scope f cd A outer s0 H0 E).stack)).StaysIn s.heap:=fun b o e=>TN _ e
 refine wpAny_leaves_madeW (cls:=.ref C) I.ok.frames rfl st (PySem.W.funFrames_hide I.stack fun env he b hb=>TU.mpr ⟨env,he,hb⟩) hx fun SD t fl _ _ up=>?_
 have I2:=I.Ny I c1 c2 st fl.1 ((db.UpToSlots.of_keeps hx.keeps).trans up)
 refine ⟨a,C,t,_,H,rfl,I2.os,I2.bare,fl,fun b o e n=>?_,c2,I2.base,I2.hok,q⟩
 obtain ⟨o1,e1⟩:=I.base.there b o e (fun z=>absurd (show b∈([]:List ac) from z) (by simp))
 exact c1 b o1 e1 (I.mI (I.sW e) n)
end
theorem FI {K:ar} {h:db} {C:ac} {rH:List ag} {newId:String} (X:K.In h) (q:T0 K C rH newId=true) :
  ∃bm Nn nm qn bs hd sn sub ab col dd k0 k1 k2 k3 k5 mN,h.get? C=some (excClassObj nm qn C Nn bs bm hd sn sub ab col dd k0 k1 k2 k3 k5 newId)/\h.Ns Nn mN/\mN "__init__" = none/\OwnTail h rH bm :=by
 unfold T0 at q
 split at q
 case h_2=>cases q
 case h_1 dd cd sl ho=>
  split at q
  case h_2=>cases q
  case h_1 C' bm k0 k1 k2 k3 n k5 hm hs=>
   rw [BB,BB,BB,BB,BB] at q
   obtain ⟨⟨⟨⟨⟨q1,q2⟩,q3⟩,q4⟩,q5⟩,q6⟩:=q
   have e1:C'=C:=beq_iff_eq.mp q1
   have e2:n=newId:=beq_iff_eq.mp q2
   have e3:cd.hasDel=false :=by simpa using q3
   subst e1 e2
   obtain ⟨nm,bs,mro,ns,qn,hd,sn,sub,ab,col,del⟩:=cd
   dsimp only at hm e3 q5 q6
   subst hm e3
   have es:sl=#[k0,k1,k2,k3,some (.builtin n),k5] :=by
    cases sl with
    |mk l=>exact congrArg Array.mk hs
   subst es
   exact ⟨bm,ns,nm,qn,bs,hd,sn,sub,ab,col,dd,k0,k1,k2,k3,k5,_,X _ _ ho,db.Ns.of_isNs (PySem.W.isNs_of_in X q5),PySem.W.nsMap_none_of_in X q5 (beq_iff_eq.mp q6),PySem.W.tail_of_in X q4⟩
section
variable {X:Cx} {x:ba} {C:ac} {ka:ci} {rest:List ci} {t:TA} {rH:List ag} {B newId ue:String} {E:XK} {np aY pos:rf}
def IK (C:ac) (E:XK) (t:TA):TS:=fun _ σ H=>t σ H fun vs H1=>vs.length<=sizeLine/\E (.ref C) none H1
theorem CH (O:T0 X.K C rH newId=true) (FB:ExcBaseFacts B newId ue rH) (hc:X.calm=true) (hR:Raises X E) (hg:Gl X x) (hm:X.mg x=some (.ref C)) (ha:PA X (ka::rest) t)
  (eO:(x==("__debug__" : ba))=false :=by decide) (he:starEach (ka::rest) X.env=(false,eval ka X.env)::starEach rest X.env :=by rfl) (cZ:(backTo aY (starEach rest X.env)).any (·.1)=false :=by rfl) :
  PS X (.Raise (some (.Call (.Name x np) (ka::rest) [] aY)) none pos) (IK C E t) :=by
 refine ⟨fun pins s σ H D I h=>?_⟩
 obtain ⟨bm,Nn,nm,qn,bs,hd,sn,sub,ab,col,dd,k0,k1,k2,k3,k5,mN,hC,hN,Qu,T⟩:=FI I.ok.mod.kin O
 have hp:(backTo aY (starEach (ka::rest) X.env)).any (·.1)=false :=by
  rw [he]
  exact cZ
 have wK:=ha aY pins s σ H _ I h
 rw [he] at wK
 refine wpAny_Raise_call_subT (C:=C) (nm:=nm) (q:=qn) (N:=Nn) (bs:=bs) (bm:=bm) (hdct:=hd) (sn:=sn) (sub:=sub) (ab:=ab) (col:=col) (dd:=dd) (k0:=k0) (k1:=k1) (k2:=k2) (k3:=k3) (k5:=k5) FB (mN:=mN)
  (T.hasType FB.hasBase) (I.ok.hd hc) hp Qu (nz I hg hm ⟨rfl,?_⟩ eO)
 rw [he]
 refine Tp (thn wK fun us s2 ⟨vs,H2,I2,r,l,q⟩=>?_)
 exact ⟨rfl,by rw [<- r.length];exact l,I2.bk _ _ hC,hN.keeps I2.bk,T.keeps I2.bk,fun h' a hx=>hR pins σ H2 s2 C h' a us I2 hx q⟩
end
end L2
namespace L2
open PySem PySem.Spec PyProof.Rows PySem.W Builtin Builtin.ObjectAttr Builtin.Getset_descriptor
def ExcAt (C a:ac) (h:db):Prop:=∃o vs,h.get? a=some o/\o.cls=.ref C/\o.data=.fields vs
def O6 (C a:ac):HO:=.ext (ExcAt C a)
structure IL (K:Frag) (C:ac):Prop where
 cls:(clsIn K C).isSome=true
 ga:findIn K (.ref C) "__getattribute__" = some (some (.builtin "BaseException.__getattribute__"))
 gt:findIn K (.ref C) "__getattr__" = some none
 cl:findIn K (.ref C) "__class__" = some (some (.builtin "object.__class__"))
 gg:specialIn K (.builtin "object.__class__") "__get__" = some (some (.builtin "getset_descriptor.__get__"))
 tk:takesIn K (.builtin "object.__class__")=some true
 ob:mroIn K C (.type "object")=some true
 be:mroIn K C (.type "BaseException")=some true
end L2
namespace L2
open PySem PySem.Spec PyProof.Rows PySem.W
section
variable {X:Cx} {pins pins':List (ac×ii)} {σ:St} {H:Hp} {s:ap} {T:ag->ap->Prop}
theorem Inv.LV {a:ac} {o:HO} (I:Inv X pins σ H s) (n0:H a=none) (n1:X.s₀.heap.get? a=none) (n2:a≠X.env.locals) (n3:∀x c,X.env.cells.lookup x=some c->c≠a) (n4:∀p∈X.pn++pins,p.1≠a)
  (ob:ObjOk X.prog X.w (upd H a o) s.heap a o):Inv X pins σ (upd H a o) s :=by
 have un:∀b u,H b=some u->upd H a o b=some u:=fun b u e=>by rw [af (bf e n0)];exact e
 refine ⟨I.ok,I.os,I.bare,⟨I.base.keep,I.base.slot,fun b u q n hx=>?_,I.base.there,fun b xs e=>un _ _ (I.base.tups b xs e),fun b u v e=>un _ _ (I.base.frzs b u v e),fun b ps e=>?_⟩,I.loc,I.cell,?_,fun x c e=>?_,fun p hp=>?_,fun b u e=>?_,I.len⟩
 ·rw [af (fun z=>by rw [z,n1] at q;cases q)]
  exact I.base.free b u q n hx
 ·obtain ⟨more,z⟩:=I.base.tbls b ps e
  exact ⟨more,un _ _ z⟩
 ·rw [af (wn n2)]
  exact I.free
 ·rw [af (n3 x c e)]
  exact I.freeC x c e
 ·obtain ⟨p1,p2,p3⟩:=I.pin p hp
  exact ⟨p1,by rw [af (n4 p hp)];exact p2,p3⟩
 ·by_cases hb:b=a
  ·subst hb
   rw [ax] at e
   cases e
   exact ob
  ·rw [af hb] at e
   exact (I.hok b u e).cV (fun _ _ _ q=>q) (fun c q=>un _ _ q) fun c xs q=>un _ _ q
end
structure zT (K:Frag) (C0:ac):Prop where
 ty:typeIn K (.ref C0)=some (.type "type")
 be:subIn K (.ref C0) (.type "BaseException")=some true
 it:(clsIn K C0).isSome=true
theorem kX {P:cr} {w:gc} {X:Cx}:Passes (ck P w) X (fun _ _ _=>False):=fun _ _ _ _ _ _ _ h=>by
 obtain ⟨_,_,_,_,_,_,_,_,_,_,_,_,_,q⟩:=h
 exact q.elim
theorem rl.tV {P:cr} {w:gc} {K:ar} {mg:ba->Option ag} {base:db} {x qual:ba} {st:mv} {f:ac} {fd:im} {N ps:List ba} {k:Nat} {sp:Sp} (F:rl K x qual st f fd) (S:aM N ps (ak st)) (len:∀vs H Q E,sp vs H Q E->vs.length=ps.length)
  (kR:∀(A:l9) (outer:List Go) (s:ap) (H:Hp) (vs:List V) (Q:VK) (E:XK),bG k (A.deeper (envOfC qual (ak st) s.heap.objs.size f fd.code))->sp vs H Q E->
   ∃t,fP (fi (ck P w) P w K mg base N qual (ak st) f fd.code A outer s H E) (bN st) t/\t {nx:=fun _ H'=>Q .aB H',rt:=Q} (start N vs) H):FnOk P w K mg base (ck P w) (k+1) f fd ps sp :=by
 obtain ⟨oc,od,kV,doc,pm,an,cK,ct,jL,rfl,lk,dH⟩:=F.ex
 exact xE lk dH S len fun A outer s H vs Q E hr jM=>kR A outer s H vs Q E hr jM
def NA:List ag:=[.type "ValueError",.type "Exception",.type "BaseException",.type "object"]
def CI (K:Frag) (C0 C:ac):Bool:=excIn K C NA "ValueError.__new__" && (clsIn K C).isSome && findIn K (.ref C) "__getattribute__" == some (some (.builtin "BaseException.__getattribute__")) && findIn K (.ref C) "__getattr__" == some none &&
 findIn K (.ref C) "__class__" == some (some (.builtin "object.__class__")) && mroIn K C (.type "object")==some true && mroIn K C (.type "BaseException")==some true && subIn K (.ref C) (.ref C0)==some true && kitOne K (.ref C) (.type "ValueError")==some true
def xZ (K:Frag) (C0:ac) (cs:List ac):Bool:=cs.all (CI K C0) && (cs.all fun C=>cs.all fun D=>kitOne K (.ref C) (.ref D)==some (decide (C=D))) && specialIn K (.builtin "object.__class__") "__get__" == some (some (.builtin "getset_descriptor.__get__")) && takesIn K (.builtin "object.__class__")==some true &&
 typeIn K (.ref C0)==some (.type "type") && subIn K (.ref C0) (.type "BaseException")==some true && (clsIn K C0).isSome
structure uf (K:Frag) (C0:ac) (cs:List ac):Prop where
 ex:∀C∈cs,excIn K C NA "ValueError.__new__" = true
 cl:∀C∈cs,IL K C
 sub:∀C∈cs,subIn K (.ref C) (.ref C0)=some true
 one:∀C∈cs,∀D∈cs,kitOne K (.ref C) (.ref D)=some (decide (C=D))
 val:∀C∈cs,kitOne K (.ref C) (.type "ValueError")=some true
 top:zT K C0
theorem FJ {K:Frag} {C0:ac} {cs:List ac} (h:xZ K C0 cs=true):uf K C0 cs :=by
 unfold xZ at h
 simp only [BB] at h
 obtain ⟨⟨⟨⟨⟨⟨h1,h2⟩,h3⟩,h4⟩,h5⟩,h6⟩,h7⟩:=h
 have all:∀C∈cs,CI K C0 C=true:=u8.mp h1
 have part:∀C∈cs,_:=fun C hC=>by
  have z:=all C hC
  unfold CI at z
  simp only [BB] at z
  exact z
 refine ⟨fun C hC=>(part C hC).1.1.1.1.1.1.1.1,fun C hC=>?_,fun C hC=>beq_iff_eq.mp (part C hC).1.2,fun C hC D hD=>beq_iff_eq.mp (u8.mp (u8.mp h2 C hC) D hD),fun C hC=>beq_iff_eq.mp (part C hC).2,⟨beq_iff_eq.mp h5,beq_iff_eq.mp h6,h7⟩⟩
 obtain ⟨⟨⟨⟨⟨⟨⟨⟨_,p1⟩,p2⟩,p3⟩,p4⟩,p5⟩,p6⟩,_⟩,_⟩:=part C hC
 exact ⟨p1,beq_iff_eq.mp p2,beq_iff_eq.mp p3,beq_iff_eq.mp p4,beq_iff_eq.mp h3,beq_iff_eq.mp h4,beq_iff_eq.mp p5,beq_iff_eq.mp p6⟩
end L2
namespace L2
open PySem PySem.Spec PyProof.Rows Builtin.SmallTypes
def fJ (k:Bool) (h:db) (it a:ac) (i:Nat):Prop:=if k=true then h.IsListIter it a i else h.IsTupleIter it a i
def ox (k:Bool) (h:db) (a:ac) (items:Array ag):Prop:=if k=true then h.IsList a items else h.IsTuple a items
theorem fJ.at {k:Bool} {h h':db} {it a:ac} {i:Nat} (x:fJ k h it a i) (q:∀o,h.get? it=some o->h'.get? it=some o):fJ k h' it a i :=by
 cases k with
 |true=>exact db.IsListIter.at (h:=h) x q
 |false=>exact db.IsTupleIter.at (h:=h) x q
theorem fJ.obj {k:Bool} {h:db} {it a:ac} {i:Nat} (x:fJ k h it a i):∃o,h.get? it=some o/\∃vs,o.data=.fields vs :=by
 cases k with
 |true=>obtain ⟨o,e,_,d⟩:=(show h.IsListIter it a i from x);exact ⟨o,e,_,d⟩
 |false=>obtain ⟨o,e,_,d⟩:=(show h.IsTupleIter it a i from x);exact ⟨o,e,_,d⟩
section
variable {prog:cr} {w:gc} {A:l9} {E:ag->ap->Prop} {s:ap} {it a:ac} {i:Nat} {items:Array ag} {x:ag} {k:Bool}
theorem CJ {Q:Option ag->ap->Prop} (hit:s.heap.IsTupleIter it a i) (ha:s.heap.IsTuple a items) (hx:items[i]?=some x)
  (hQ:∀h',h'.IsTupleIter it a (i+1)->xw it s.heap h'->Q (some x) {s with heap:=h'}):wpAny (model prog w) A (callSpecial? (.ref it) "__next__") Q E s :=by
 obtain ⟨o,ho,hc,hd⟩:=id hit
 obtain ⟨ol,zU,_,nl,IM⟩:=ha
 have sl:=F.slot_tuple_iterator_next
 refine u4 (name:=nw "__next__") hit.typeIs sl (v6 sl hit.typeIs F.entry_tuple_iterator_next ?_ (F.args_tuple_iterator_next_1 _))
 have nn:¬ ((l5 a==AS)=true):=ij
 refine al (m:=field (.ref it) 0) (GG ho hd (x:=.ref a) rfl ?_)
 rw [if_neg nn]
 refine al (m:=field (.ref it) 1) (GG ho hd (x:=.int i 0) rfl (al (m:=seqItems? (.ref a)) (TK zU IM ?_)))
 simp only [ut,hx]
 refine al (m:=setField _ _ _) (wpAny_setField ho hd (by simp) (ca ⟨x,rfl,hQ _ ?_ (NH ..)⟩))
 refine ⟨_,B0 _ ho (Tj (ID hd _)),(T7 ..).trans hc,?_⟩
 rw [ID hd]
 simp [rawInt]
theorem CK {Q:Option ag->ap->Prop} (hh:A.handled=none) (hit:s.heap.IsTupleIter it a i) (ha:s.heap.IsTuple a items) (hx:items[i]?=none)
  (hE:∀h' e,TM it s.heap h'->(∃o,h'.get? e=some o/\o.cls=.type "StopIteration")->E (.ref e) {s with heap:=h'}):wpAny (model prog w) A (callSpecial? (.ref it) "__next__") Q E s :=by
 obtain ⟨o,ho,hc,hd⟩:=id hit
 obtain ⟨ol,zU,_,nl,IM⟩:=ha
 have sl:=F.slot_tuple_iterator_next
 refine u4 (name:=nw "__next__") hit.typeIs sl (v6 sl hit.typeIs F.entry_tuple_iterator_next ?_ (F.args_tuple_iterator_next_1 _))
 have nn:¬ ((l5 a==AS)=true):=ij
 refine al (m:=field (.ref it) 0) (GG ho hd (x:=.ref a) rfl ?_)
 rw [if_neg nn]
 refine al (m:=field (.ref it) 1) (GG ho hd (x:=.int i 0) rfl (al (m:=seqItems? (.ref a)) (TK zU IM ?_)))
 simp only [ut,hx]
 refine al (GE (al (m:=setField _ _ _) (wpAny_setField ho hd (by simp) ?_)))
 refine al (m:=newExc (.type "StopIteration") []) ?_
 unfold newExc newTuple
 refine al (ul ?_ (by size_fits))
 refine al (m:=firstArgMember _ _) (UB (a:=AS) (by first|rfl|(simp only [firstArgMember];rfl)) (ul ?_ (by size_fits)))
 refine wpAny_raiseNew_none hh ?_
 exact hE _ _ (((NH ..).extBut.push _).push _) ⟨_,ff _ rfl,rfl⟩
theorem FK {Q:ag->ap->Prop} (hit:fJ k s.heap it a i) (ha:ox k s.heap a items) (hx:items[i]?=some x)
  (hQ:∀h',fJ k h' it a (i+1)->xw it s.heap h'->Q x {s with heap:=h'}):wpAny (model prog w) A (nextOf (.ref it)) Q E s :=by
 cases k with
 |true=>exact wpAny_nextOf_list_item hit ha hx hQ
 |false=>
  unfold nextOf
  exact al (CJ hit ha hx fun h' a b=>ca (hQ h' a b))
theorem FL {Q:ag->ap->Prop} (hh:A.handled=none) (hit:fJ k s.heap it a i) (ha:ox k s.heap a items) (hx:items[i]?=none)
  (hE:∀h' e,TM it s.heap h'->(∃o,h'.get? e=some o/\o.cls=.type "StopIteration")->E (.ref e) {s with heap:=h'}):wpAny (model prog w) A (nextOf (.ref it)) Q E s :=by
 cases k with
 |true=>exact wpAny_nextOf_list_end hh hit ha hx hE
 |false=>
  unfold nextOf
  exact al (CK hh hit ha hx hE)
end
section
variable {prog:cr} {w:gc} {A:l9} {E:ag->ap->Prop} {s:ap} {e it a:ac} {i:Nat} {items:Array ag} {x old:ag} {k:Bool}
theorem zV {Q:ag->ap->Prop} (he:S4 s.heap e it i old) (gq:e≠it) (hit:fJ k s.heap it a i) (ha:ox k s.heap a items) (hx:items[i]?=some x)
  (hQ:∀h',UN h' e it ((i:Int)+1) x s.heap.objs.size->fJ k h' it a (i+1)->h'.get? s.heap.objs.size=some {cls:=.type "tuple",data:=.seq #[.int i s.toks,x]}->
   (∀b o,b≠e->b≠it->s.heap.get? b=some o->h'.get? b=some o)->Q (.ref s.heap.objs.size) {s with heap:=h',toks:=s.toks+1}) :
  wpAny (model prog w) A (wr.«enumerate.__next__» ⟨[.ref e],[]⟩) (fun fin s'=>∃v,fin=.done (.ret v)/\Q v s') E s :=by
 obtain ⟨hp,g,d,tk,os⟩:=s
 refine al (m:=field (.ref e) 2) (GG he rfl (x:=.ref it) rfl (al (m:=nextOf (.ref it)) (FK hit ha hx fun h1 IP (IQ:xw it hp h1)=>?_)))
 have e1:S4 h1 e it i old:=(IQ.2 e gq).trans he
 refine al (m:=field (.ref e) 3) (GG e1 rfl (x:=rawInt i) rfl (al (m:=field (.ref e) 4) (GG e1 rfl (x:=.none) rfl (al (m:=mkInt i) (wpAny_mkInt ?_)))))
 refine al (m:=setField (.ref e) 3 _) (Do e1 (by simp) fun h2 (e2:S4 h2 e it ((i:Int)+1) old) (wL:xw e h1 h2)=>?_)
 refine al (m:=setField (.ref e) 4 .none) (Do e2 (by simp) fun h3 (e3:S4 h3 e it ((i:Int)+1) old) (NB:xw e h2 h3)=>?_)
 refine al (m:=newTuple [.int i tk,x]) (wpAny_newTuple ?_)
 have z3:h3.objs.size=hp.objs.size :=by rw [NB.1,wL.1,IQ.1]
 have el:e<hp.objs.size:=f8 he
 have e4:S4 (h3.push {cls:=.type "tuple",data:=.seq #[.int i tk,x]}) e it ((i:Int)+1) old:=bn _ e3
 have t4:(h3.push {cls:=.type "tuple",data:=.seq #[.int i tk,x]}).get? hp.objs.size=some {cls:=.type "tuple",data:=.seq #[.int i tk,x]}:=z3▸ff _ rfl
 have up:∀b o,b≠e->h1.get? b=some o->(h3.push {cls:=.type "tuple",data:=.seq #[.int i tk,x]}).get? b=some o:=fun b o n q=>bn _ (NB.extBut b o n (wL.extBut b o n q))
 generalize h3.push {cls:=.type "tuple",data:=.seq #[.int i tk,x]}=h4 at e4 t4 up
 rw [z3]
 refine al (m:=ownedTupleIsFree (.ref e)) ?_
 unfold ownedTupleIsFree
 refine al (m:=field (.ref e) 0) (GG e4 rfl (x:=.none) rfl (ca ?_))
 rw [if_pos rfl]
 refine al (GE (al (m:=field (.ref e) 5) (GG e4 rfl (x:=old) rfl ?_)))
 refine al (m:=setField (.ref e) 5 x) (Do e4 (by simp) fun h5 (e5:S4 h5 e it ((i:Int)+1) x) (Qv:xw e h4 h5)=>?_)
 refine al (m:=ownedTupleHandOut (.ref e) _) ?_
 unfold ownedTupleHandOut
 refine al (Do e5 (by simp) fun h6 (e6:UN h6 e it ((i:Int)+1) x hp.objs.size) (Qw:xw e h5 h6)=>?_)
 refine Do e6 (by simp) fun h7 (e7:UN h7 e it ((i:Int)+1) x hp.objs.size) (Qx:xw e h6 h7)=>?_
 have IU:∀b o,b≠e->h4.get? b=some o->h7.get? b=some o:=fun b o n q=>Qx.extBut b o n (Qw.extBut b o n (Qv.extBut b o n q))
 refine al (wpAny_letGo (ca ⟨_,rfl,hQ h7 e7 (IP.at fun o q=>IU it o (wn gq) (up it o (wn gq) q)) (IU _ _ (Pd el) t4) fun b o n1 n2 q=>IU b o n1 (up b o n1 ((IQ.2 b n2).trans q))⟩))
theorem zW {Q:Option ag->ap->Prop} (he:S4 s.heap e it i old) (gq:e≠it) (hit:fJ k s.heap it a i) (ha:ox k s.heap a items) (hx:items[i]?=some x)
  (hQ:∀h',UN h' e it ((i:Int)+1) x s.heap.objs.size->fJ k h' it a (i+1)->h'.get? s.heap.objs.size=some {cls:=.type "tuple",data:=.seq #[.int i s.toks,x]}->
   (∀b o,b≠e->b≠it->s.heap.get? b=some o->h'.get? b=some o)->Q (some (.ref s.heap.objs.size)) {s with heap:=h',toks:=s.toks+1}) :
  wpAny (model prog w) A (pyNext (.ref e)) Q E s :=by
 have hT:s.TypeIs (.ref e) "enumerate" := ⟨_,he,rfl⟩
 have sl:=F.slot_enumerate_next
 unfold pyNext
 exact al (KF (u4 (name:=nw "__next__") hT sl (v6 sl hT F.entry_enumerate_next (zV he gq hit ha hx fun h' a b c d=>ca (hQ h' a b c d)) (F.args_enumerate_next_1 _))))
theorem zX {Q:Option ag->ap->Prop} (hh:A.handled=none) (he:S4 s.heap e it i old) (hit:fJ k s.heap it a i) (ha:ox k s.heap a items) (hx:items[i]?=none)
  (hQ:∀h',TM it s.heap h'->Q none {s with heap:=h'}):wpAny (model prog w) A (pyNext (.ref e)) Q E s :=by
 have hT:s.TypeIs (.ref e) "enumerate" := ⟨_,he,rfl⟩
 have sl:=F.slot_enumerate_next
 unfold pyNext
 refine al (KF (u4 (name:=nw "__next__") hT sl (v6 sl hT F.entry_enumerate_next ?_ (F.args_enumerate_next_1 _))))
 refine al (m:=field (.ref e) 2) (GG he rfl (x:=.ref it) rfl (al (m:=nextOf (.ref it)) (FL hh hit ha hx fun h' y eb ⟨o,ho,hc⟩=>?_)))
 exact al (S9 (T := "StopIteration") (b:=true) ⟨o,ho,hc⟩ isSubtype_stop (ca (hQ _ eb)))
end
end L2
namespace L2
open PySem PySem.Spec PyProof.Rows Builtin.SmallTypes AutoSeq1
theorem ug:bootBuiltins "enumerate" = some (.type "enumerate") :=by decide +kernel
section
variable {X:Cx} {pins:List (ac×ii)} {σ:St} {H:Hp} {s:ap} {h':db}
theorem Inv.wM {t':Nat} {ch:List ac} (I:Inv X pins σ H s) (k:∀b o,b ∉ ch->s.heap.get? b=some o->h'.get? b=some o) (hf:∀b∈ch,dD X pins H b):Inv X pins σ H {s with heap:=h',toks:=t'}:=by
 have y3:∀b u,H b=some u->b ∉ ch:=fun b u e z=>by rw [(hf b z).1] at e;cases e
 refine I.step (g':=s.gens) (d':=s.drawn) (ch:=ch) (fun b hb=>?_) (fun b o _ _ hc e _=>k b o hc e) (fun b o _ _ hc e _=>⟨o.slots,k b o hc e⟩) (fun _ _ _ _ n=>n)
  (fun b o hc e=>⟨o,k b o hc e⟩) (fun _ _ e=>e) (fun _ _ _ e=>e) (fun b ps e=>⟨#[],by rw [e];simp⟩) (fun m hm=>?_) (fun b u e=>?_) I.bare.self
 ·obtain ⟨_,f1,f2,f3,f4,f5⟩:=hf b hb
  exact ⟨f3,f1,f4,f5⟩
 ·obtain ⟨o,es,ep,ho,r⟩:=hm
  exact ⟨o,es,ep,k _ o (fun z=>(hf _ z).2.1 rfl) ho,r⟩
 ·refine (I.hok b u e).cV (fun c v hc q=>k c v ?_ q) (fun _ q=>q) fun _ _ q=>q
  rcases hc with z|z
  ·rw [z];exact y3 b u e
  ·exact y3 c _ z
theorem Inv.pair {t:ac} {a b:V} {u v:ag} {h1:db} {tk tk0:Nat} (I0:Inv X pins σ H {s with toks:=tk0}) (ht:s.heap.objs.size<=t) (I:Inv X pins σ H {s with heap:=h1,toks:=tk}) (e:h1.get? t=some {cls:=.type "tuple",data:=.seq #[u,v]}) (ru:RelV a u) (rv:RelV b v) :
  Inv X pins σ (upd H t (.tup [a,b])) {s with heap:=h1,toks:=tk}:=by
 have f:=Inv.kQ (H':=H) I0 (b:=t) ht (I0.hok.fresh ht)
 refine I.LV f.1 ?_ f.2.1 f.2.2.2.2.1 f.2.2.2.2.2 ⟨by show 2<=sizeLine;decide,[u,v],.cons ru (.cons rv .nil),⟨_,e,rfl,_,rfl,rfl⟩⟩
 exact db.get?_none_of_le (sK I0.sz ht)
end
def Sq (k:Bool) (K:ar) (H:Hp) (a:ac) (xs:List V):Prop:=if k=true then bY K H a xs else dh K H a xs
theorem Inv.sq {X:Cx} {pins:List (ac×ii)} {σ:St} {H:Hp} {s:ap} {k:Bool} {a:ac} {xs:List V} (I:Inv X pins σ H s) (h:Sq k X.K H a xs):∃its:List ag,Vals xs its/\ox k s.heap a its.toArray :=by
 cases k with
 |true=>obtain ⟨its,rv,p,_⟩:=I.list (show bY X.K H a xs from h);exact ⟨its,rv,p.isList⟩
 |false=>obtain ⟨its,rv,p,_⟩:=I.tuple (show dh X.K H a xs from h);exact ⟨its,rv,p⟩
theorem Inv.IV {X:Cx} {pins:List (ac×ii)} {σ:St} {H:Hp} {s:ap} {k:Bool} {a:ac} {xs ys:List V} (I:Inv X pins σ H s) (h:Sq k X.K H a xs) (h':Sq k X.K H a ys):xs=ys :=by
 cases k with
 |true=>exact I.tD (show bY X.K H a xs from h) h'
 |false=>exact I.qT (show dh X.K H a xs from h) h'
def Eh (k:Bool) (K:ar) (a:ac):It:=
 ⟨fun i H=>∃xs x,Sq k K H a xs/\xs[i]?=some x,fun i H v H'=>∃t x,H t=none/\v=.ref t/\H'=upd H t (.tup [.int (i:Nat),x])/\∀xs,Sq k K H a xs->xs[i]?=some x,fun i H=>∃xs,Sq k K H a xs/\xs.length<=i⟩
theorem zY {P:cr} {w:gc} {K:ar} {elts:List ci} {x1:Nat} {pos:rf} (k:Bool) (a it e:ac) (gq:e≠it) :
  Turn P w K (.Tuple elts x1 pos) (Eh k K a) [e,it] e (fun i h=>(∃old,S4 h e it i old)/\fJ k h it a i) where
 mem :=by simp
 obj:=fun i h st b hb=>by
  obtain ⟨⟨old,he⟩,hit⟩:=st
  simp only [lp,Gc,or_false] at hb
  rcases hb with rfl|rfl
  ·exact ⟨_,he,fun v z=>nomatch z⟩
  ·obtain ⟨o,ho,vs,hd⟩:=hit.obj
   exact ⟨o,ho,fun v z=>by rw [hd] at z;cases z⟩
 keep:=fun i h h' st q=>by
  obtain ⟨⟨old,he⟩,hit⟩:=st
  exact ⟨⟨old,q e (by simp) _ he⟩,hit.at fun o ho=>q it (by simp) o ho⟩
 item :=by
  intro X hP hw hK hc i pins s σ H E I hf st hg
  subst hP hw hK
  obtain ⟨⟨old,he⟩,hit⟩:=st
  obtain ⟨xs,x,hq,hx⟩:=hg
  obtain ⟨its,rv,p⟩:=I.sq hq
  obtain ⟨u,hu,ru⟩:=rv.get hx
  refine zW he gq hit p (x:=u) (by simpa using hu) fun h1 eo IP t1 kk=>?_
  refine ⟨_,rfl,wpAny_letOwnedTupleGo_enum eo fun h2 e2 (wL:xw e h1 h2)=>?_⟩
  have el:e<s.heap.objs.size:=f8 he
  have I2:Inv X pins σ H {s with heap:=h2,toks:=s.toks+1}:=I.wM (ch:=[e,it]) (fun b o hb q=>by
   simp only [lp,Gc,or_false,not_or] at hb
   exact (wL.2 b hb.1).trans (kk b o hb.1 hb.2 q)) hf
  have t2:h2.get? s.heap.objs.size=some {cls:=.type "tuple",data:=.seq #[.int i s.toks,u]}:=(wL.2 _ (Pd el)).trans t1
  have hn:H s.heap.objs.size=none:=I.hok.fresh (ce _)
  refine ⟨.ref s.heap.objs.size,_,Inv.pair (s:=s) (tk0:=s.toks) I (ce _) I2 t2 (a:=.int (i:Nat)) ⟨s.toks,rfl⟩ ru,rfl,⟨_,x,hn,rfl,rfl,fun ys hy=>by rw [I.IV hy hq];exact hx⟩,⟨⟨u,?_⟩,IP.at fun o q=>(wL.2 it (wn gq)).trans q⟩,fun b hb=>?_⟩
  ·have c:((i+1:Nat):Int)=(i:Int)+1 :=by push_cast;rfl
   rw [c]
   exact e2
  ·have l:b≠s.heap.objs.size :=by
    simp only [lp,Gc,or_false] at hb
    rcases hb with rfl|rfl
    ·exact i8 el
    ·obtain ⟨o,ho,_⟩:=hit.obj
     exact i8 (f8 ho)
   rw [af l]
   exact (hf b hb).1
 done :=by
  intro X hP hw hK hc i pins s σ H E I hf st hg
  subst hP hw hK
  obtain ⟨⟨old,he⟩,hit⟩:=st
  obtain ⟨xs,hq,hx⟩:=hg
  obtain ⟨its,rv,p⟩:=I.sq hq
  have hl:=rv.length
  exact zX (I.ok.hd hc) he hit p (by simp;omega) fun h1 eb=>⟨rfl,I.wM (t':=s.toks) (ch:=[it]) (fun b o hb q=>eb b o (by simpa using hb) q) fun b hb=>hf b (by simp at hb;simp [hb])⟩
 self:=fun _ _ _ _ _ st h=>wpAny_pyIter_enum st.1.choose_spec h
abbrev zZ (a:ac):ii:={cls:=.type "tuple_iterator",data:=.fields #[.ref a,.int 0 0]}
abbrev IW (it:ac):ii:={cls:=.type "enumerate",data:=.fields #[.none,.bool false,.ref it,rawInt 0,.none,.none]}
theorem FN (a:ac) (items:Array ag) (n:Nat) (dct:Option ac) (sl:Array (Option ag)) :
  Meets (wr.«enumerate.__new__» ⟨[.type "enumerate",.ref a],[]⟩) (fun _ R s=>s.heap.get? a=some {cls:=.type "tuple",dict:=dct,data:=.seq items n,slots:=sl} /\
   R (.ok (.ret (.ref (s.heap.push (zZ a)).objs.size))) {s with heap:=(s.heap.push (zZ a)).push (IW s.heap.objs.size)}):=
 .of_wp fun prog w A R s h=>by
  obtain ⟨hp,g,d,tk,os⟩:=s
  obtain ⟨hl,h⟩:=h
  have O1:=sub_enumerate
  have hT:db.IsTuple (ap.heap ⟨hp,g,d,tk,os⟩) a items:=⟨_,hl,rfl,n,rfl⟩
  wp_walk using Ux hl
  refine wpAny_stack_any fun st=>ca ?_
  split
  case h_1 c _ _ _ _ _=>cases (c==BS "enumerate") <;> (wp_walk using Ux hl,TR hT;exact ⟨_,rfl,h⟩)
  case h_2=>wp_walk using Ux hl,TR hT;exact ⟨_,rfl,h⟩
section
variable {prog:cr} {w:gc} {A:l9} {E:ag->ap->Prop} {s:ap}
theorem ya {a:ac} {items:Array ag} {Q:ag->ap->Prop} (hT:s.heap.IsTuple a items)
  (h:∀h',S4 h' (s.heap.objs.size+1) s.heap.objs.size 0 .none->h'.IsTupleIter s.heap.objs.size a 0->(∀b o,s.heap.get? b=some o->h'.get? b=some o)->Q (.ref (s.heap.objs.size+1)) {s with heap:=h'}) :
  wpAny (model prog w) A (call (.type "enumerate") [.ref a]) Q E s :=by
 obtain ⟨ob,ho,hc,n,hd⟩:=hT
 obtain ⟨c,dd,dt,sl⟩:=ob
 dsimp only at hc hd
 subst hc hd
 refine callType_new F.called_enumerate (by decide) (F.typeCall_enumerate_1 _) (F.newCall_enumerate_1 _) (fun obj=>F.args_object_init_2 obj _) F.entry_enumerate_new (FN a items n dd sl) ⟨ho,?_⟩
 have z:(s.heap.push (zZ a)).objs.size=s.heap.objs.size+1:=Pi ..
 have he:((s.heap.push (zZ a)).push (IW s.heap.objs.size)).get? (s.heap.objs.size+1)=some (IW s.heap.objs.size):=z▸ff (s.heap.push (zZ a)) rfl
 show _/\_
 rw [z]
 exact ⟨⟨_,he,rfl⟩,h _ he ⟨_,bn _ (ff _ rfl),rfl,rfl⟩ fun b o x=>bn _ (bn _ x)⟩
theorem z5 {k:Bool} {a:ac} {items:Array ag} {Q:ag->ap->Prop} (hT:ox k s.heap a items)
  (h:∀h',S4 h' (s.heap.objs.size+1) s.heap.objs.size 0 .none->fJ k h' s.heap.objs.size a 0->(∀b o,s.heap.get? b=some o->h'.get? b=some o)->Q (.ref (s.heap.objs.size+1)) {s with heap:=h'}) :
  wpAny (model prog w) A (call (.type "enumerate") [.ref a]) Q E s :=by
 cases k with
 |true=>exact call_enumerate_list hT fun h' a b _ c=>h h' a b c
 |false=>exact ya hT h
end
section
variable {X:Cx} {l:ci} {tl:TE} {elts:List ci} {x1:Nat} {tp p pos:rf}
def LW (k:Bool) (K:ar) (tl:TE):TI:=fun σ H R=>tl σ H fun x H1=>∃a,x=.ref a/\(∃xs,Sq k K H1 a xs)/\R (Eh k K a) H1
theorem FO (k:Bool) {K:ar} (hK:X.K=K) (hg:Gl X "enumerate") (hm:X.mg "enumerate" = none) (hl:PE X l tl) (hs:starEach [l] X.env=[(false,eval l X.env)] :=by rfl) :
  PI X (.Tuple elts x1 tp) (.Call (.Name "enumerate" p) [l] [] pos) (LW k K tl) :=by
 subst hK
 intro pins s σ H R I h
 refine AM (gb I hg hm ug ?_)
 refine AL ?_ hs rfl
 rw [hs]
 refine GT (thn (hl pins s σ H _ I h) fun v s1 ⟨x,H1,I1,r1,q1⟩=>Ll ?_)
 obtain ⟨a,rfl,⟨xs,hq⟩,q⟩:=q1
 cases (show v=l5 a from r1)
 obtain ⟨its,rv,sq⟩:=I1.sq hq
 refine z5 sq fun h' he hit kk=>?_
 refine wpAny_pyIter_enum he ?_
 have I2:Inv X pins σ H1 {s1 with heap:=h'}:=I1.kept (t':=s1.toks) kk
 have ne:s1.heap.objs.size+1≠s1.heap.objs.size:=Pd (FS _)
 refine ⟨_,[s1.heap.objs.size+1,s1.heap.objs.size],_,Eh k X.K a,H1,rfl,I2,zY k a _ _ ne,⟨⟨_,he⟩,hit⟩,fun b hb=>?_,q⟩
 simp only [lp,Gc,or_false] at hb
 rcases hb with rfl|rfl
 ·exact I1.kQ (DO _) (I1.hok.fresh (DO _))
 ·exact I1.kQ (ce _) (I1.hok.fresh (ce _))
end
def Ei (J:It) (ys:List (V×V)) (H:Hp):Prop:=∀i,(i<ys.length->J.go i H/\∀x H',J.yld i H x H'->∃t p,H t=none/\x=.ref t/\ys[i]?=some p/\H'=upd H t (.tup [p.1,p.2]))/\(ys.length<=i->J.stop i H)
theorem rJ {k:Bool} {K:ar} {a:ac} {ys:List V} {H:Hp} (h:Sq k K H a ys):Ei (Eh k K a) ((on ys.length).map fun i=>(V.int (i:Nat),ys.getD i .aB)) H:=fun i=>by
 have el:((on ys.length).map fun i=>(V.int (i:Nat),ys.getD i .aB)).length=ys.length :=by simp
 rw [el]
 refine ⟨fun hi=>⟨⟨ys,ys[i],h,bi hi⟩,fun x H' ⟨t,y,n,e1,e2,e3⟩=>⟨t,(.int (i:Nat),y),n,e1,?_,e2⟩⟩,fun hi=>⟨ys,h,hi⟩⟩
 rw [br,wP hi]
 have:=e3 ys h
 show some (V.int (i:Nat),ys.getD i .aB)=_
 rw [wS,this]
 rfl
end L2
namespace L2
open PySem PySem.Spec PyProof.Rows
section
variable {X:Cx} {st:mv} {ι:Type} {Pre:ι->St->Hp->Prop} {D:ι->Ends}
theorem sG {P:cr} {w:gc} {K:ar} (hP:X.prog=P) (hw:X.w=w) (h:X.K=K) (hc:X.calm=true):dA X (.builtin "sorted") (wJ P w K) :=by
 subst hP hw h
 exact ud hc
theorem PS.iI {st:mv} {t:TS} (h:PS X.iI st t):PS X st t:=⟨fun pins s σ H D I hw=>
 lw (h pins s σ H D (I.iA _) hw) (fun _ _ q=>q.fm) fun _ _ z=>BY z⟩
end
section
variable {κ:Type} [DecidableEq κ]
def iE (aj:List (κ×V)) (k:κ):Option V:=(aj.find? fun kv=>decide (kv.1=k)).map (·.2)
def putK (aj:List (κ×V)) (k:κ) (v:V):List (κ×V):=
 if (aj.any fun kv=>decide (kv.1=k))=true then aj.map (fun kv=>if kv.1=k then (kv.1,v) else kv) else aj++[(k,v)]
theorem kY {p:κ×V} {r:List (κ×V)} {k:κ} (e:p.1=k):iE (p::r) k=some p.2 :=by simp [iE,NO,e]
theorem kZ {p:κ×V} {r:List (κ×V)} {k:κ} (e:¬ p.1=k):iE (p::r) k=iE r k :=by simp [iE,NO,e]
theorem oy (k:κ):∀aj:List (κ×V),(aj.any fun kv=>decide (kv.1=k))=(iE aj k).isSome
 | []=>rfl
 |p::r=>by
          rw [List.any_cons]
          by_cases e:p.1=k
          ·simp only [kY e,decide_eq_true e,Bool.true_or,Option.isSome_some]
          ·rw [kZ e,decide_eq_false e,Bool.false_or];exact oy k r
theorem kb (aj:List (κ×V)) (k:κ) (v:V):(putK aj k v).length<=aj.length+1 :=by
 unfold putK
 split
 ·rw [cb];omega
 ·rw [tw,Mn,SO];omega
theorem gQ.ip {o:Option V} {u:Option ag} (r:gQ o u):o.isSome=u.isSome :=by
 cases o with
 |none=>cases u with
  |none=>rfl
  |some _=>exact (show False from r).elim
 |some _=>cases u with
  |none=>exact (show False from r).elim
  |some _=>rfl
theorem gQ.getD {o:Option V} {u:Option ag} {d:V} {d':ag} (r:gQ o u) (rd:RelV d d'):RelV (o.getD d) (u.getD d') :=by
 cases o with
 |none=>cases u with
  |none=>exact rd
  |some _=>exact (show False from r).elim
 |some _=>cases u with
  |none=>exact (show False from r).elim
  |some _=>exact r
theorem KV.val {aj:List (κ×V)} {vs:List (κ×ag)} (r:KV aj vs) (k:κ):gQ (iE aj k) (valueAt vs k) :=by
 unfold KV at r
 induction r with
 |nil=>exact EM
 | @cons p q ps qs h t ih=>
  obtain ⟨h1,h2⟩:=h
  by_cases e:p.1=k
  ·have e':q.1=k:=h1.symm.trans e
   have b:valueAt (q::qs) k=some q.2 :=by simp [valueAt,NO,e']
   rw [kY e,b];exact h2
  ·have e':¬ q.1=k:=fun z=>e (h1.trans z)
   have b:valueAt (q::qs) k=valueAt qs k :=by simp [valueAt,NO,e']
   rw [kZ e,b];exact ih
theorem KV.any {aj:List (κ×V)} {vs:List (κ×ag)} (r:KV aj vs) (k:κ):(aj.any fun kv=>decide (kv.1=k))=vs.any fun kv=>decide (kv.1=k) :=by
 unfold KV at r
 induction r with
 |nil=>rfl
 |cons h t ih=>rw [List.any_cons,List.any_cons,ih,h.1]
theorem KV.repl {aj:List (κ×V)} {vs:List (κ×ag)} (r:KV aj vs) (k:κ) {y:V} {u:ag} (ry:RelV y u) :
  KV (aj.map fun kv=>if kv.1=k then (kv.1,y) else kv) (vs.map fun kv=>if kv.1=k then (kv.1,u) else kv) :=by
 unfold KV at r ⊢
 induction r with
 |nil=>exact .nil
 | @cons p q ps qs h t ih=>
  rw [wb,wb]
  refine .cons ?_ ih
  obtain ⟨h1,h2⟩:=h
  by_cases e:p.1=k
  ·rw [if_pos e,if_pos (h1.symm.trans e)];exact ⟨h1,ry⟩
  ·rw [if_neg e,if_neg (fun z=>e (h1.trans z))];exact ⟨h1,h2⟩
theorem KV.put {aj:List (κ×V)} {vs:List (κ×ag)} (r:KV aj vs) (k:κ) {y:V} {u:ag} (ry:RelV y u):KV (putK aj k y) (stored vs k u) :=by
 unfold putK stored
 rw [r.any k]
 by_cases e:(vs.any fun kv=>decide (kv.1=k))=true
 ·rw [if_pos e,if_pos e];exact r.repl k ry
 ·rw [if_neg e,if_neg e];exact BN.snoc r ⟨rfl,ry⟩
theorem KV.length {aj:List (κ×V)} {vs:List (κ×ag)} (r:KV aj vs):aj.length=vs.length:=RI r
end
theorem jQ {P:cr} {w:gc} {k:Key} {u:ag} (r:RelV (kV k) u):(bq P w).is k u=true :=by
 cases k with
 |inl i=>obtain ⟨t,e⟩:=(show ∃t,u=Us i t from r);subst e;exact vz P w i t
 |inr x=>obtain ⟨t,e⟩:=(show ∃t,u=Td x t from r);subst e;exact vA P w x t
theorem rK {P:cr} {w:gc}:∀{ks:List Key} {us:List ag},Vals (ks.map kV) us->ItemsAre (bq P w) ks us
 | [],_,r=>by rw [Tq] at r;cases r;exact .nil
 |k::ks,_,r=>by
          rw [wb] at r
          cases r with
          |cons h t=>exact .cons (jQ h) (rK t)
abbrev KT (H:Hp):List (List Key×V)->List (List Key×ac×ag)->Prop:=BN fun p q=>p.1=q.1/\H q.2.1=some (.tup (p.1.map kV))/\RelV p.2 q.2.2
theorem KT.val {H:Hp} {aj:List (List Key×V)} {xs:List (List Key×ac×ag)} (r:KT H aj xs) (k:List Key):gQ (iE aj k) ((atKey xs k).map (·.2)) :=by
 induction r with
 |nil=>exact EM
 | @cons p q ps qs h t ih=>
  obtain ⟨h1,_,h2⟩:=h
  by_cases e:p.1=k
  ·have e':q.1=k:=h1.symm.trans e
   have b:atKey (q::qs) k=some q.2 :=by simp [atKey,NO,e']
   rw [kY e,b];exact h2
  ·have e':¬ q.1=k:=fun z=>e (h1.trans z)
   have b:atKey (q::qs) k=atKey qs k :=by simp [atKey,NO,e']
   rw [kZ e,b];exact ih
theorem KT.repl {H:Hp} {aj:List (List Key×V)} {xs:List (List Key×ac×ag)} (r:KT H aj xs) (k:List Key) {y:V} {u:ag} (ry:RelV y u) :
  KT H (aj.map fun kv=>if kv.1=k then (kv.1,y) else kv) (xs.map (putAt k u)) :=by
 induction r with
 |nil=>exact .nil
 | @cons p q ps qs h t ih=>
  rw [wb,wb]
  refine .cons ?_ ih
  obtain ⟨h1,h2,h3⟩:=h
  unfold putAt
  by_cases e:p.1=k
  ·rw [if_pos e,if_pos (h1.symm.trans e)];exact ⟨h1,h2,ry⟩
  ·rw [if_neg e,if_neg (fun z=>e (h1.trans z))];exact ⟨h1,h2,h3⟩
theorem KT.put {H:Hp} {aj:List (List Key×V)} {xs:List (List Key×ac×ag)} (r:KT H aj xs) (k:List Key) {b:ac} {y:V} {u:ag} (hb:H b=some (.tup (k.map kV))) (ry:RelV y u) :
  KT H (putK aj k y) (storedH xs k b u) :=by
 have e:(aj.any fun kv=>decide (kv.1=k))=(atKey xs k).isSome :=by
  rw [oy,(r.val k).ip,OR]
 unfold putK storedH
 rw [e]
 by_cases q:(atKey xs k).isSome=true
 ·rw [if_pos q,if_pos q];exact r.repl k ry
 ·rw [if_neg q,if_neg q];exact BN.snoc r ⟨rfl,hb,ry⟩
theorem KT.keeps {H H':Hp} {aj:List (List Key×V)} {xs:List (List Key×ac×ag)} (r:KT H aj xs) (ht:∀b ys,H b=some (.tup ys)->H' b=some (.tup ys)):KT H' aj xs:=
 BN.BV r fun _ _ z=>⟨z.1,ht _ _ z.2.1,z.2.2⟩
section
variable {P:cr} {w:gc} {H:Hp} {h:db} {a:ac}
theorem Ej {u:HO} (ok:cQ P w H h) (e:Rd H a u):ObjOk P w H h a u:=e.ok ok
theorem iR {aj:List (Key×V)} (ok:cQ P w H h) (e:Rd H a (.dK aj)):aj.length<=sizeLine/\(a==sysModules)=false/\∃vs,KV aj vs/\h.DictOf (bq P w) a vs:=
 show ObjOk P w H h a (.dK aj) from Ej ok e
theorem Ek {aj:List (Key×V)} (ok:cQ P w H h) (e:H a=some (.dK aj)):aj.length<=sizeLine/\(a==sysModules)=false/\∃vs,KV aj vs/\h.DictOf (bq P w) a vs:=iR ok (.inl e)
theorem iq {ks:List Key} (ok:cQ P w H h) (e:H a=some (.tup (ks.map kV))):(tupleKind (bq P w)).is h ks a :=by
 obtain ⟨_,its,r,o,h1,h2,n,h3,_⟩:=(show ObjOk P w H h a (.tup (ks.map kV)) from ok a _ e)
 exact ⟨o,its.toArray,n,h1,h2,h3,by simpa using rK r⟩
theorem jR {aj:List (List Key×V)} (ok:cQ P w H h) (e:Rd H a (.dT aj)):aj.length<=sizeLine/\(a==sysModules)=false /\
  ∃xs,KT H aj xs/\h.DictOfH (tupleKind (bq P w)) a xs :=by
 obtain ⟨z,y,xs,r,o,es,ep,h1,h2,h3,h4,h5⟩:=(show ObjOk P w H h a (.dT aj) from Ej ok e)
 refine ⟨z,y,xs,r,o,es,ep,h1,h2,h3,h4,fun x hx=>?_,h5⟩
 have all:∀{l:List (List Key×V)} {m:List (List Key×ac×ag)},KT H l m->∀x∈m,(tupleKind (bq P w)).is h x.1 x.2.1 :=by
  intro l m q
  induction q with
  |nil=>intro x hx;exact nomatch hx
  | @cons p q ps qs hq t ih=>
   intro x hx
   rcases lp.mp hx with e|hx
   ·subst e
    exact iq ok (by rw [<- hq.1];exact hq.2.1)
   ·exact ih x hx
 exact all r x hx
theorem El {aj:List (List Key×V)} (ok:cQ P w H h) (e:H a=some (.dT aj)):aj.length<=sizeLine/\(a==sysModules)=false /\
  ∃xs,KT H aj xs/\h.DictOfH (tupleKind (bq P w)) a xs:=jR ok (.inl e)
end
def ji (H:Hp) (a:ac) (y:V) (r:Option V):Prop:=
 (∃aj k,Rd H a (.dK aj)/\y=kV k/\r=iE aj k)\/∃aj k b,Rd H a (.dT aj)/\y=.ref b/\H b=some (.tup (k.map kV))/\r=iE aj k
def IX (H:Hp) (a:ac) (y v:V) (H':Hp):Prop:=
 (∃aj k,H a=some (.dK aj)/\y=kV k/\aj.length<sizeLine/\H'=upd H a (.dK (putK aj k v))) \/
 ∃aj k b,H a=some (.dT aj)/\y=.ref b/\H b=some (.tup (k.map kV))/\aj.length<sizeLine/\H'=upd H a (.dT (putK aj k v))
section
variable {X:Cx} {pins:List (ac×ii)} {σ:St} {H:Hp} {s:ap} {a:ac} {y v:V} {u r:ag} {o:Option V} {A:l9} {E:ag->ap->Prop}
theorem Inv.big (I:Inv X pins σ H s):sysModules<s.heap.objs.size :=by
 have h:mainGlobals<s.heap.objs.size:=(I.mod.glob.keeps I.bk).lt
 exact Nat.lt_trans (by decide) h
theorem z6 {Q:ag->ap->Prop} (hu:A.units+1<cLine) (I:Inv X pins σ H s) (g:ji H a y (some v)) (ry:RelV y u) (h:∀w' s',Inv X pins σ H s'->RelV v w'->Q w' s') :
  wpAny (model X.prog X.w) A (getItem (.ref a) u) Q E s :=by
 rcases g with ⟨aj,k,e,ey,l⟩|⟨aj,k,b,e,ey,eb,l⟩
 ·subst ey
  obtain ⟨z,hd,vs,rel,dd⟩:=iR I.hok e
  obtain ⟨w',hw,eL⟩:=gQ.some_of (v:=v) (o:=valueAt vs k) (by rw [l];exact rel.val k)
  exact wpAny_getItem_of (jQ ry) dd.mapOf hw (h w' _ (I.tok _) eL)
 ·subst ey
  cases (show u=l5 b from ry)
  obtain ⟨z,hd,xs,rel,dd⟩:=jR I.hok e
  obtain ⟨w',hw,eL⟩:=gQ.some_of (v:=v) (o:=(atKey xs k).map (·.2)) (by rw [l];exact rel.val k)
  obtain ⟨p,hp,Qy⟩:=io.mp hw
  refine wpAny_getItem_heap (IF hu) (iq I.hok eb) dd hp ?_
  rw [Qy]
  exact h w' _ (I.tok _) eL
theorem O7 {Q:ag->ap->Prop} (hu:A.units+1<cLine) (I:Inv X pins σ H s) (g:ji H a y o) (ry:RelV y u) (h:∀s',Inv X pins σ H s'->Q (.bool o.isSome) s') :
  wpAny (model X.prog X.w) A (compareOp .In u (.ref a)) Q E s :=by
 rcases g with ⟨aj,k,e,ey,l⟩|⟨aj,k,b,e,ey,eb,l⟩
 ·subst ey
  obtain ⟨z,hd,vs,rel,dd⟩:=iR I.hok e
  refine wpAny_in_of (jQ ry) hd dd.mapOf ?_
  rw [<- (rel.val k).ip,<- l]
  exact h _ (I.tok _)
 ·subst ey
  cases (show u=l5 b from ry)
  obtain ⟨z,hd,xs,rel,dd⟩:=jR I.hok e
  refine wpAny_in_heap (IF hu) (iq I.hok eb) hd dd ?_
  have q:=(rel.val k).ip
  rw [OR] at q
  rw [<- q,<- l]
  exact h _ (I.tok _)
theorem FP {Q:ag->ap->Prop} (hu:A.units+1<cLine) (I:Inv X pins σ H s) (g:ji H a y o) (ry:RelV y u) (h:∀s',Inv X pins σ H s'->Q (.bool (!o.isSome)) s') :
  wpAny (model X.prog X.w) A (compareOp .NotIn u (.ref a)) Q E s :=by
 rcases g with ⟨aj,k,e,ey,l⟩|⟨aj,k,b,e,ey,eb,l⟩
 ·subst ey
  obtain ⟨z,hd,vs,rel,dd⟩:=iR I.hok e
  refine wpAny_notIn_of (jQ ry) hd dd.mapOf ?_
  rw [<- (rel.val k).ip,<- l]
  exact h _ (I.tok _)
 ·subst ey
  cases (show u=l5 b from ry)
  obtain ⟨z,hd,xs,rel,dd⟩:=jR I.hok e
  refine wpAny_notIn_heap (IF hu) (iq I.hok eb) hd dd ?_
  have q:=(rel.val k).ip
  rw [OR] at q
  rw [<- q,<- l]
  exact h _ (I.tok _)
theorem nE {h':db} {t':Nat} {ob:HO} (I:Inv X pins σ H s) (mu:yZ (H a)) (hs:xw a s.heap h') (he:∃q,h'.get? a=some q) (new:ObjOk X.prog X.w (upd H a ob) h' a ob) :
  Inv X pins σ (upd H a ob) {s with heap:=h',toks:=t'}:=
 I.write (x:=a) (e:=a) mu (.inl rfl) (fun b q hb z=>(hs.2 b hb).trans z) he new
theorem z7 {P:cr} {w:gc} {H':Hp} {h':db} {aj:List (Key×V)} {vs:List (Key×ag)} (z:aj.length<=sizeLine) (hd:(a==sysModules)=false) (rel:KV aj vs) (dd:h'.DictOf (bq P w) a vs) :
  ObjOk P w H' h' a (.dK aj):=⟨z,hd,vs,rel,dd⟩
theorem z8 {H':Hp} {Q:Unit->ap->Prop} (hu:A.units+1<cLine) (I:Inv X pins σ H s) (g:IX H a y v H') (ry:RelV y u) (rv:RelV v r) (h:∀s',Inv X pins σ H' s'->Q () s') :
  wpAny (model X.prog X.w) A (setItem (.ref a) u r) Q E s :=by
 rcases g with ⟨aj,k,e,ey,l,eH⟩|⟨aj,k,b,e,ey,eb,l,eH⟩
 ·subst ey eH
  obtain ⟨z,hd,vs,rel,dd⟩:=Ek I.hok e
  have hz:vs.length<=sizeLine :=by rw [<- rel.length];exact z
  have hl:(putK aj k v).length<=sizeLine :=by have:=kb aj k v;omega
  refine wpAny_setItem_pairs (hsz:=hz) (jQ ry) dd fun h' pD hs=>h _ ?_
  have he:∃q,h'.get? a=some q:=let ⟨q,_,_,hq,_⟩:=pD;⟨q,hq⟩
  exact nE I (by rw [e];exact EM) hs he (z7 hl hd (rel.put k rv) pD)
 ·subst ey eH
  cases (show u=l5 b from ry)
  obtain ⟨z,hd,xs,rel,dd⟩:=El I.hok e
  have hz:xs.length<=sizeLine :=by rw [<- RI rel];exact z
  have hl:(putK aj k v).length<=sizeLine :=by have:=kb aj k v;omega
  refine wpAny_setItem_heap (hsz:=hz) (IF hu) (iq I.hok eb) dd fun h' pD hs=>h _ ?_
  obtain ⟨q,es,ep,hq,h2,h3,h4,_,h5⟩:=pD
  refine nE I (by rw [e];exact EM) hs ⟨q,hq⟩ ⟨hl,hd,_,(rel.put k eb rv).keeps fun c ys ec=>?_,q,es,ep,hq,h2,h3,h4,h5⟩
  rw [af (xr ec e (fun z=>nomatch z))]
  exact ec
end
section
variable {X:Cx} {pins:List (ac×ii)} {σ:St} {H:Hp} {s:ap} {a:ac} {aj:List (Key×V)} {k:Key} {u:ag} {A:l9} {E:ag->ap->Prop}
theorem LX {Q:ag->ap->Prop} (I:Inv X pins σ H s) (e:Rd H a (.dK aj)) (h:∀t s',Inv X pins σ H s'->Q (.int aj.length t) s'):wpAny (model X.prog X.w) A (call (.builtin "len") [.ref a]) Q E s :=by
 obtain ⟨z,hd,vs,rel,dd⟩:=iR I.hok e
 refine call_len_dict hd dd (by rw [<- rel.length];rw [RS] at z;omega) ?_
 rw [<- rel.length]
 exact h _ _ (I.tok _)
end
def CL (i:ci):Prop:=∀ov iv,subscripted i false ov iv=operate [ov,iv] (getItem ov iv)
theorem FQ {prog:cr} {w:gc} {A:l9} {E:ag->ap->Prop} {s:ap} {env:Go} {value slice:ci} {pos:rf} {T id:String} {Q:ag->ap->Prop}
  (hl:typeLookup (.type T) "__getitem__" = pure (some (.builtin id))) (hs:CL slice)
  (h:wpAny (model prog w) A (eval value env) (fun o aw=>wpAny (model prog w) A (eval slice env) (fun i j6=>j6.TypeIs o T/\wpAny (model prog w) A (getItem o i) Q E j6) E aw) E s) :
  wpAny (model prog w) A (eval (.Subscript value slice pos) env) Q E s :=by
 refine Subscript_ (lw h (fun o aw jd=>lw jd (fun i j6 CM=>?_) fun _ _ x=>x) fun _ _ x=>x)
 obtain ⟨hT,CM⟩:=CM
 unfold subscriptTail
 refine al ?_
 rw [getitemInPython_of_ne hT.not_modules]
 refine al (Tu hT hl ?_)
 have fin:wpAny (model prog w) A (subscripted slice false o i) (fun r qm=>wpAny (model prog w) A (letTemporaryGo value o r>>=fun _=>pure r) Q E qm) E j6 :=by
  rw [hs o i]
  exact wpAny_operating (lw CM (fun r qm O8=>al (wpAny_letTemporaryGo (ca O8))) fun _ _ x=>x)
 first
  |exact ca (al fin)
  |exact al (ca (al fin))
  |exact al fin
theorem vL {X:Cx} {pins:List (ac×ii)} {σ:St} {H:Hp} {s:ap} {a:ac} {y:V} {o:Option V} (I:Inv X pins σ H s) (g:ji H a y o):s.TypeIs (.ref a) "dict" := by
 rcases g with ⟨aj,k,e,_,_⟩|⟨aj,k,b,e,_,_,_⟩
 ·obtain ⟨_,_,vs,_,dd⟩:=iR I.hok e
  exact dd.typeIs
 ·obtain ⟨_,_,xs,_,dd⟩:=jR I.hok e
  exact dd.typeIs
def LY (td ty:TE):TE:=fun σ H Q=>td σ H fun x H1=>ty σ H1 fun y H2=>∃a v,x=.ref a/\ji H2 a y (some v)/\Q v H2
def LZ (td ty tv:TE):TS:=fun D σ H=>tv σ H fun v H1=>td σ H1 fun x H2=>ty σ H2 fun y H3=>∃a H4,x=.ref a/\IX H3 a y v H4/\D.nx σ H4
section
variable {X:Cx} {o i e value:ci} {pos pos' Si:rf} {td ty tv:TE}
theorem FR (hu:X.A.units+1<cLine) (ho:PE X o td) (hi:PE X i ty) (hs:CL i):PE X (.Subscript o i pos) (LY td ty) :=by
 refine ⟨?_⟩
 intro pins s σ H Q I h
 refine FQ PySem.F.slot_dict_getitem.lookup hs (thn (ho pins s σ H _ I h) fun u s1 ⟨x,H1,I1,rx,q1⟩=>thn (hi pins s1 σ H1 _ I1 q1) fun iv s2 ⟨y,H2,I2,ry,a,v,ex,g,q2⟩=>?_)
 subst ex
 obtain rfl:u=l5 a:=rx
 exact ⟨vL I2 g,z6 hu I2 g ry fun w' s3 I3 eL=>⟨v,H2,I3,eL,q2⟩⟩
theorem FT (hu:X.A.units+1<cLine) (ho:PE X o td) (hi:PE X i ty) (hv:PE X value tv) (hs:swapsWith value (some (.Subscript o i pos')) pos.line X.env=pure false) :
  PS X (.Assign [.Subscript o i pos'] value pos) (LZ td ty tv) :=by
 refine ⟨?_⟩
 intro pins s σ H D I h
 refine wpAny_Assign_Subscript (thn (hv pins s σ H _ I h) fun r s1 ⟨v,H1,I1,rv,q1⟩=>thn (ho pins s1 σ H1 _ I1 q1) fun u s2 ⟨x,H2,I2,rx,q2⟩=>thn (hi pins s2 σ H2 _ I2 q2) fun iv s3 ⟨y,H3,I3,ry,a,H4,ex,g,q3⟩=>?_) hs
 subst ex
 obtain rfl:u=l5 a:=rx
 exact z8 hu I3 g ry rv fun s4 I4=>⟨σ,H4,I4,q3⟩
end
theorem uh {P:cr} {w:gc} {H:Hp} (h:db) (hb:sysModules<h.objs.size):ObjOk P w H (h.push {cls:=.type "dict",data:=.dict #[]}) h.objs.size (.dK []):=
 ⟨rb _,beq_eq_false_iff_ne.mpr (wn (i8 hb)),[],.nil,db.DictOf.new h⟩
theorem uk {P:cr} {w:gc} {H:Hp} (h:db) (hb:sysModules<h.objs.size):ObjOk P w H (h.push {cls:=.type "dict",data:=.dict #[]}) h.objs.size (.dT []):=
 ⟨rb _,beq_eq_false_iff_ne.mpr (wn (i8 hb)),[],.nil,_,#[],0,ff _ rfl,⟨rfl,rfl,rfl⟩,rfl,rfl,List.nodup_nil⟩
def IY:TE:=fun _ H Q=>∀p,H p=none->Q (.ref p) (upd H p (.dK []))
def IZ:TE:=fun _ H Q=>∀p,H p=none->Q (.ref p) (upd H p (.dT []))
section
variable {X:Cx} {pos:rf}
theorem CN:PE X (.Dict [] [] pos) IY:=⟨fun pins s σ H Q I h=>
 wpAny_Dict_empty ⟨.ref s.heap.objs.size,_,I.laid (a:=s.heap.objs.size) (o:=.dK []) (t':=s.toks) (fun _ _ q=>bn _ q) (ce _) (uh s.heap I.big),rfl,h _ (I.hok.fresh (ce _))⟩⟩
theorem CO:PE X (.Dict [] [] pos) IZ:=⟨fun pins s σ H Q I h=>
 wpAny_Dict_empty ⟨.ref s.heap.objs.size,_,I.laid (a:=s.heap.objs.size) (o:=.dT []) (t':=s.toks) (fun _ _ q=>bn _ q) (ce _) (uk s.heap I.big),rfl,h _ (I.hok.fresh (ce _))⟩⟩
end
def um:List (TE×TE)->St->Hp->(List (V×V)->Hp->Prop)->Prop
 | [],_,H,Q=>Q [] H
 |(tk,tv)::r,σ,H,Q=>tk σ H fun x H1=>tv σ H1 fun y H2=>um r σ H2 fun ps H3=>Q ((x,y)::ps) H3
abbrev VV:List (V×V)->List (ag×ag)->Prop:=BN fun p q=>RelV p.1 q.1/\RelV p.2 q.2
def PPs (X:Cx) (pos:rf) (keys:List (Option ci)) (values:List ci) (pE:List (TE×TE)):Prop:=
 ∀(pins:List (ac×ii)) (s:ap) (σ:St) (H:Hp) (Q:List (V×V)->Hp->Prop),Inv X pins σ H s->um pE σ H Q->
  wpAny (model X.prog X.w) X.A (evalPairs (pairTrees keys values X.env pos)) (fun vs s'=>∃ps H',Inv X pins σ H' s'/\VV ps vs/\Q ps H') X.xe s
theorem FU {X:Cx} {pos:rf}:PPs X pos [] [] []:=fun pins s σ H Q I h=>pairTrees_nil_walk ⟨[],H,I,.nil,h⟩
theorem CP {X:Cx} {pos:rf} {k v:ci} {ks:List (Option ci)} {vs:List ci} {tk tv:TE} {pE:List (TE×TE)} (hk:PE X k tk) (hv:PE X v tv) (hr:PPs X pos ks vs pE) :
  PPs X pos (some k::ks) (v::vs) ((tk,tv)::pE):=fun pins s σ H Q I h=>
 pairTrees_cons_walk (thn (hk pins s σ H _ I h) fun u s1 ⟨x,H1,I1,rx,q1⟩=>thn (hv pins s1 σ H1 _ I1 q1) fun w2 s2 ⟨y,H2,I2,ry,q2⟩=>
  thn (hr pins s2 σ H2 _ I2 q2) fun ws s3 ⟨ps,H3,I3,rel,q3⟩=>⟨(x,y)::ps,H3,I3,.cons ⟨rx,ry⟩ rel,q3⟩)
def km (aj more:List (Key×V)):List (Key×V):=more.foldl (fun acc kv=>putK acc kv.1 kv.2) aj
theorem KV.merge:∀{more:List (Key×V)} {rs:List (Key×ag)} {aj:List (Key×V)} {vs:List (Key×ag)},KV more rs->KV aj vs->KV (km aj more) (merged vs rs) :=by
 intro more rs aj vs r
 unfold KV at r
 induction r generalizing aj vs with
 |nil=>intro q;exact q
 | @cons p q ps qs h t ih=>
  intro r0
  have e:KV (putK aj p.1 p.2) (stored vs q.1 q.2) :=by
   have:=r0.put p.1 h.2
   rw [<- h.1];exact this
  exact ih e
theorem l0:∀(more aj:List (Key×V)),(km aj more).length<=aj.length+more.length
 | [],aj=>by show aj.length<=aj.length+0;omega
 |p::r,aj=>by
          have h1:=l0 r (putK aj p.1 p.2)
          have h2:=kb aj p.1 p.2
          show (km (putK aj p.1 p.2) r).length<=_
          rw [Mn];omega
theorem pF {P:cr} {w:gc}:∀{aj:List (Key×V)} {ws:List (ag×ag)},VV (aj.map fun kv=>(kV kv.1,kv.2)) ws->∃rs,Carries (bq P w) ws rs/\KV aj rs
 | [],_,r=>by rw [Tq] at r;cases r;exact ⟨[],EM,.nil⟩
 |p::aj,_,r=>by
          rw [wb] at r
          cases r with
          | @cons a b as bs h t=>
           obtain ⟨rs,c,q⟩:=pF (P:=P) (w:=w) t
           obtain ⟨b1,b2⟩:=b
           exact ⟨(p.1,b2)::rs,⟨jQ h.1,rfl,c⟩,.cons ⟨rfl,h.2⟩ q⟩
def L0 (pE:List (TE×TE)):TE:=fun σ H Q=>∀p,H p=none->um pE σ (upd H p (.dK [])) fun ps H2=>H2 p=some (.dK [])/\∃aj:List (Key×V),ps=aj.map (fun kv=>(kV kv.1,kv.2))/\aj.length<=15/\Q (.ref p) (upd H2 p (.dK (km [] aj)))
theorem FV {X:Cx} {pos:rf} {keys:List (Option ci)} {values:List ci} {pE:List (TE×TE)} (h:PPs X pos keys values pE) (ql:keys.all (·.isSome)=true) (hl:keys.length=values.length) (h0:keys≠[])
  (Qz:keys.length<=15):PE X (.Dict keys values pos) (L0 pE) :=by
 refine ⟨?_⟩
 intro pins s σ H Q I q
 have hn:=I.hok.fresh (ce s.heap.objs.size)
 have I1:=I.laid (a:=s.heap.objs.size) (o:=.dK []) (h':=s.heap.push {cls:=.type "dict",data:=.dict #[]}) (t':=s.toks) (fun _ _ q=>bn _ q) (ce _) (uh s.heap I.big)
 refine wpAny_Dict_walk (knd:=bq X.prog X.w) ql hl h0 Qz (thn (h pins _ σ _ _ I1 (q _ hn)) fun ws s2 ⟨ps,H2,I2,rel,e,aj,ep,lk,q2⟩=>?_)
 subst ep
 obtain ⟨rs,c,rk⟩:=pF (P:=X.prog) (w:=X.w) rel
 obtain ⟨z,hd,Ja,r0,dd⟩:=Ek I2.hok e
 cases r0
 refine ⟨rs,c,dd,fun h' pD hs=>⟨.ref s.heap.objs.size,_,?_,rfl,q2⟩⟩
 have hz:(km [] aj).length<=sizeLine :=by
  have h1:=l0 aj []
  rw [SO] at h1
  rw [RS];omega
 have he:∃q,h'.get? s.heap.objs.size=some q:=let ⟨q,_,_,hq,_⟩:=pD;⟨q,hq⟩
 exact nE I2 (by rw [e];exact EM) hs he (z7 hz hd (rk.merge .nil) pD)
structure M1 (X:Cx) (o:ci) (m:ba) (apos:rf) (e:ci) (aY:rf):Prop where
 base:attributeBase o m X.env (eval o X.env)=eval o X.env
 few:((backTo aY (starEach [e] X.env)).all (fun x => !x.1) && (backToKw aY (keywordEach [] X.env)).all (fun x=>x.1.isSome)
  && decide (([e]:List ci).length+([]:List LM).length+(if ([]:List LM).isEmpty then 0 else 1)<30))=true
 line:(apos.endLine==aY.line)=true
 trees:backTo aY (starEach [e] X.env)=[(false,eval e X.env)]
structure M2 (X:Cx) (o:ci) (m:ba) (apos:rf) (e f:ci) (aY:rf):Prop where
 base:attributeBase o m X.env (eval o X.env)=eval o X.env
 few:((backTo aY (starEach [e,f] X.env)).all (fun x => !x.1) && (backToKw aY (keywordEach [] X.env)).all (fun x=>x.1.isSome)
  && decide (([e,f]:List ci).length+([]:List LM).length+(if ([]:List LM).isEmpty then 0 else 1)<30))=true
 line:(apos.endLine==aY.line)=true
 trees:backTo aY (starEach [e,f] X.env)=[(false,eval e X.env),(false,eval f X.env)]
section
variable {X:Cx} {pins:List (ac×ii)} {σ:St} {H:Hp} {s:ap} {a:ac} {y d:V} {u r:ag} {o:Option V} {A:l9} {E:ag->ap->Prop}
theorem Jb {Q:ag->ap->Prop} (hu:A.units+1<cLine) (I:Inv X pins σ H s) (g:ji H a y o) (ry:RelV y u) (h:∀w' s',Inv X pins σ H s'->RelV (o.getD .aB) w'->Q w' s') :
  wpAny (model X.prog X.w) A (call (.builtin "dict.get") [.ref a,u]) Q E s :=by
 rcases g with ⟨aj,k,e,ey,l⟩|⟨aj,k,b,e,ey,eb,l⟩
 ·subst ey
  obtain ⟨z,hd,vs,rel,dd⟩:=iR I.hok e
  refine Um IS dd.typeIs OK (PySem.F.args_dict_get_2 _ _) (meets_dict_get (bq X.prog X.w) a (jQ ry) hd) ⟨_,dd.mapOf,h _ _ (I.tok _) ?_⟩
  rw [l]
  exact (rel.val k).getD rfl
 ·subst ey
  cases (show u=l5 b from ry)
  obtain ⟨z,hd,xs,rel,dd⟩:=jR I.hok e
  refine Um IS dd.typeIs OK (PySem.F.args_dict_get_2 _ _) (meetsH_dict_get (tupleKind (bq X.prog X.w)) a b hd) ⟨IF hu,k,xs,iq I.hok eb,dd,h _ _ (I.tok _) ?_⟩
  rw [l]
  exact (rel.val k).getD rfl
theorem Jc {Q:ag->ap->Prop} (hu:A.units+1<cLine) (I:Inv X pins σ H s) (g:ji H a y o) (ry:RelV y u) (rd:RelV d r) (h:∀w' s',Inv X pins σ H s'->RelV (o.getD d) w'->Q w' s') :
  wpAny (model X.prog X.w) A (call (.builtin "dict.get") [.ref a,u,r]) Q E s :=by
 rcases g with ⟨aj,k,e,ey,l⟩|⟨aj,k,b,e,ey,eb,l⟩
 ·subst ey
  obtain ⟨z,hd,vs,rel,dd⟩:=iR I.hok e
  refine Um IS dd.typeIs OK (PySem.F.args_dict_get_3 _ _ _) (meets_dict_get_default (bq X.prog X.w) a (jQ ry) hd r) ⟨_,dd.mapOf,h _ _ (I.tok _) ?_⟩
  rw [l]
  exact (rel.val k).getD rd
 ·subst ey
  cases (show u=l5 b from ry)
  obtain ⟨z,hd,xs,rel,dd⟩:=jR I.hok e
  refine Um IS dd.typeIs OK (PySem.F.args_dict_get_3 _ _ _) (meetsH_dict_get_default (tupleKind (bq X.prog X.w)) a b hd r) ⟨IF hu,k,xs,iq I.hok eb,dd,h _ _ (I.tok _) ?_⟩
  rw [l]
  exact (rel.val k).getD rd
end
inductive Dv where
 |int (i:Int)|bl (b:Bool)|aB|str (z:ba)|tup (xs:List Dv)|lst (xs:List Dv)|set (ns:List Int)|ptr (a:ac)|exc (C:ac)|bj (ns:List Int)|raw (v:V)|dk (ks:List Key) (ds:List Dv)|dt (ks:List (List Key)) (ds:List Dv)|bU (f:ac) (o:ii) (c:ac) (oc:ii) (vs:List V) (ds:List Dv)
inductive Mo where
 |lst (xs:List Dv)|c6|dk (ks:List Key) (ds:List Dv)|dt (ks:List (List Key)) (ds:List Dv)
abbrev Mh:=ac->Option Mo
structure cu where
 g:List ac
 l:List (ac×ba)
instance:Membership ac cu:=⟨fun t a=>a∈t.g⟩
def Em:HO->Bool
 | .cN _=>true
 | .lam _=>true
 | .dK _=>true
 | .dT _=>true
 |_=>false
def z9:HO->Bool
 | .cN _=>false
 |_=>true
def gS:HO->Bool
 | .dK _=>true
 | .dT _=>true
 |_=>false
theorem Rd.map {H H':Hp} {a:ac} {u:HO} (e:Rd H a u) (k:∀x,H a=some x->H' a=some x):Rd H' a u:=e.imp (k _) fun ⟨o,h⟩=>⟨o,k _ h⟩
theorem Rd.Jd {H H':Hp} {a:ac} {u:HO} (e:Rd H a u) (hu:gS u=true) (k:∀x,z9 x=true->H a=some x->H' a=some x):Rd H' a u:=e.imp (k _ (by cases u <;> first|rfl|cases hu)) fun ⟨o,h⟩=>⟨o,k _ rfl h⟩
theorem Rd.there {H:Hp} {a:ac} {u:HO} (e:Rd H a u):∃x,H a=some x:=e.elim (fun h=>⟨_,h⟩) fun ⟨o,h⟩=>⟨_,h⟩
def Tg (o o':HO):Prop:=(∃ps gr:Array ag,o=.cN ps/\o'=.cN gr/\Ix gr.toList)\/(∃ps gr:Array ag,o=.lam ps/\o'=.lam gr)\/(gS o=true/\∃ob,o'=.bQ ob o)
theorem Tg.trans {a b c:HO} (x:Tg a b) (y:Tg b c):Tg a c :=by
 rcases x with ⟨p,q,rfl,rfl,t⟩|⟨p,q,rfl,rfl⟩|⟨hd,ob,rfl⟩
 ·rcases y with ⟨p2,q2,e,rfl,t2⟩|⟨p2,q2,e,_⟩|⟨e,_⟩
  ·exact .inl ⟨p,q2,rfl,rfl,t2⟩
  ·cases e
  ·cases e
 ·rcases y with ⟨p2,q2,e,_⟩|⟨p2,q2,e,rfl⟩|⟨e,_⟩
  ·cases e
  ·exact .inr (.inl ⟨p,q2,rfl,rfl⟩)
  ·cases e
 ·rcases y with ⟨p2,q2,e,_⟩|⟨p2,q2,e,_⟩|⟨e,_⟩ <;> cases e
theorem Tg.tab {a b:HO} (x:Tg a b):Em a=true :=by
 rcases x with ⟨p,q,rfl,rfl,_⟩|⟨p,q,rfl,rfl⟩|⟨hd,ob,rfl⟩
 ·rfl
 ·rfl
 ·cases a <;> first|rfl|cases hd
def O9 (H:Hp) (q:ba) (cv:ag):Prop:=∃(c:ac) (oc:ii) (u:HO) (vs:Array ag) (t:Tz),cv=l5 c/\H c=some (.bQ oc u)/\oc.data=.fields vs/\vs[1]?=some (Td q t)
def Lm (H:Hp) (p:ac×ba):Prop:=∃ps:Array ag,H p.1=some (.lam ps)/\Ix ps.toList/\∀pos cv,codeAmong pos ps.toList=some cv->O9 H p.2 cv
theorem Lm.keep {H H':Hp} {p:ac×ba} (h:Lm H p) (k1:∀ps,H p.1=some (.lam ps)->H' p.1=some (.lam ps)) (k2:∀c oc u,H c=some (.bQ oc u)->H' c=some (.bQ oc u)):Lm H' p :=by
 obtain ⟨ps,e,t,c⟩:=h
 refine ⟨ps,k1 _ e,t,fun pos cv q=>?_⟩
 obtain ⟨a,oc,u,vs,tk,e1,e2,r⟩:=c pos cv q
 exact ⟨a,oc,u,vs,tk,e1,k2 _ _ _ e2,r⟩
structure Bz where
 P:cr
 w:gc
 K:ar
 tb:cu
 hid:List ac
def Fz (β:Bz) (M:Mh) (a:ac):Prop:=M a=none/\a ∉ β.hid
def Kl (K:ar) (a:ac) (ns:List Int):Prop:=∃(o:ii) (its:Array ag) (n:Nat),K.lookup a=some o/\o.cls=.type "list" /\ o.dict=none/\o.data=.seq its n/\its.size<=sizeLine/\Vals (ns.map V.int) its.toList
inductive Rz (β:Bz) (M:Mh) (H:Hp):V->Dv->Prop where
 |int (i:Int):Rz β M H (.int i) (.int i)
 |bl (b:Bool):Rz β M H (.bl b) (.bl b)
 |aB:Rz β M H .aB .aB
 |str (z:ba):Rz β M H (.str z) (.str z)
 |tup {a:ac} {vs:List V} {ds:List Dv} (m:Fz β M a) (e:H a=some (.tup vs)) (hl:vs.length=ds.length) (h:∀(i:Nat) (v:V) (d:Dv),vs[i]?=some v->ds[i]?=some d->Rz β M H v d):Rz β M H (.ref a) (.tup ds)
 |lst {a:ac} {vs:List V} {ds:List Dv} (m:Fz β M a) (e:H a=some (.lst vs)) (hl:vs.length=ds.length) (h:∀(i:Nat) (v:V) (d:Dv),vs[i]?=some v->ds[i]?=some d->Rz β M H v d):Rz β M H (.ref a) (.lst ds)
 |set {a:ac} {ns:List Int} (m:Fz β M a) (e:H a=some (xR β.P β.w a ns)):Rz β M H (.ref a) (.set ns)
 |ptr {a:ac} (m:(M a).isSome=true):Rz β M H (.ref a) (.ptr a)
 |exc {a C:ac} (m:Fz β M a) (e:H a=some (O6 C a)):Rz β M H (.ref a) (.exc C)
 |bj {a:ac} {o:ii} {ns:List Int} (m:Fz β M a) (e:H a=some (.bQ o (.lst (ns.map V.int)))):Rz β M H (.ref a) (.bj ns)
 |cF {a:ac} {ns:List Int} (m:Fz β M a) (e:H a=some (.lst (ns.map V.int))):Rz β M H (.ref a) (.bj ns)
 |cG {a:ac} {ns:List Int} (e:Kl β.K a ns):Rz β M H (.ref a) (.bj ns)
 |raw (v:V):Rz β M H v (.raw v)
 |dk {a:ac} {ks:List Key} {vs:List V} {ds:List Dv} (m:Fz β M a) (e:Rd H a (.dK (ks.zip vs))) (hk:ks.length=vs.length) (hl:vs.length=ds.length) (h:∀(i:Nat) (v:V) (d:Dv),vs[i]?=some v->ds[i]?=some d->Rz β M H v d):Rz β M H (.ref a) (.dk ks ds)
 |dt {a:ac} {ks:List (List Key)} {vs:List V} {ds:List Dv} (m:Fz β M a) (e:Rd H a (.dT (ks.zip vs))) (hk:ks.length=vs.length) (hl:vs.length=ds.length) (h:∀(i:Nat) (v:V) (d:Dv),vs[i]?=some v->ds[i]?=some d->Rz β M H v d):Rz β M H (.ref a) (.dt ks ds)
 |bU {f c:ac} {o oc:ii} {u uc:HO} {vs:List V} {ds:List Dv} (m:Fz β M f) (e:H f=some (.bQ o u)) (m2:Fz β M c) (e2:H c=some (.bQ oc uc)) (hl:vs.length=ds.length) (h:∀(i:Nat) (v:V) (d:Dv),vs[i]?=some v->ds[i]?=some d->Rz β M H v d):Rz β M H (.ref f) (.bU f o c oc vs ds)
structure aF (β:Bz) (M:Mh) (H:Hp) (vs:List V) (ds:List Dv):Prop where
 len:vs.length=ds.length
 at':∀(i:Nat) (v:V) (d:Dv),vs[i]?=some v->ds[i]?=some d->Rz β M H v d
def ir (β:Bz) (M:Mh) (H:Hp) (a:ac):Mo->Prop
 | .lst ds=>∃vs,H a=some (.lst vs)/\aF β M H vs ds
 | .c6=>LQ H a
 | .dk ks ds=>∃vs,H a=some (.dK (ks.zip vs))/\ks.length=vs.length/\aF β M H vs ds
 | .dt ks ds=>∃vs,H a=some (.dT (ks.zip vs))/\ks.length=vs.length/\aF β M H vs ds
def mJ:HO->Bool
 | .lst _=>true
 | .set _ _=>true
 | .dK _=>true
 | .dT _=>true
 | .ext _=>true
 | .cN _=>true
 |_=>false
def yb (H:Hp) (a:ac):Prop:=∃o,H a=some o/\mJ o=true
theorem yb.upd {H:Hp} {a p:ac} {o:HO} (h:yb H a) (d:H p=none\/mJ o=true):yb (upd H p o) a :=by
 obtain ⟨u,e,n⟩:=h
 by_cases z:a=p
 ·subst z
  rcases d with d|d
  ·rw [e] at d;cases d
  ·exact ⟨o,ax,d⟩
 ·exact ⟨u,by rw [af z];exact e,n⟩
structure Mz (β:Bz) (M:Mh) (H:Hp):Prop where
 obj:∀a o,M a=some o->ir β M H a o
 tabs:Ec β.tb.g H
 hids:∀a∈β.hid,yb H a
 apart:∀a o,M a=some o->a ∉ β.hid
 lams:∀p∈β.tb.l,Lm H p
structure Ey (M:Mh) (H:Hp) (M':Mh) (H':Hp):Prop where
 keep:∀b o,M b=none->H b=some o->H' b=some o\/∃o',Tg o o'/\H' b=some o'
 dom:∀a,(M a).isSome=true->(M' a).isSome=true
 new:∀a o,M a=none->H a=some o->M' a=none
structure Ex (β:Bz) (M:Mh) (H:Hp) (M':Mh) (H':Hp):Prop extends Ey M H M' H' where
 mz:Mz β M' H'
section
variable {β:Bz} {M M1 M2:Mh} {H H1 H2:Hp}
theorem Ey.refl:Ey M H M H:=⟨fun _ _ _ h=>.inl h,fun _ h=>h,fun _ _ h _=>h⟩
theorem Ex.refl (m:Mz β M H):Ex β M H M H:=⟨.refl,m⟩
theorem Ey.trans (x:Ey M H M1 H1) (y:Ey M1 H1 M2 H2):Ey M H M2 H2 :=by
 refine ⟨fun b o hm h=>?_,fun a h=>y.dom a (x.dom a h),fun a o hm h=>?_⟩
 ·have mK:=x.new b o hm h
  rcases x.keep b o hm h with q|⟨o1,t,q⟩
  ·exact y.keep b o mK q
  ·rcases y.keep b _ mK q with q2|⟨o2,t2,q2⟩
   ·exact .inr ⟨o1,t,q2⟩
   ·exact .inr ⟨o2,t.trans t2,q2⟩
 ·have mK:=x.new a o hm h
  rcases x.keep a o hm h with q|⟨o1,t,q⟩
  ·exact y.new a _ mK q
  ·exact y.new a _ mK q
theorem Ex.trans (x:Ex β M H M1 H1) (y:Ex β M1 H1 M2 H2):Ex β M H M2 H2:=⟨x.toEy.trans y.toEy,y.mz⟩
theorem Ey.get (x:Ey M H M1 H1) {b:ac} {o:HO} (m:M b=none) (h:H b=some o) (n:Em o=false):H1 b=some o :=by
 rcases x.keep b o m h with q|⟨o',e,_⟩
 ·exact q
 ·rw [e.tab] at n;cases n
theorem Ey.rd (x:Ey M H M1 H1) {b:ac} {u:HO} (m:M b=none) (h:Rd H b u) (hu:gS u=true):Rd H1 b u :=by
 rcases h with h|⟨o,h⟩
 ·rcases x.keep b u m h with q|⟨o',t,q⟩
  ·exact .inl q
  ·rcases t with ⟨_,_,rfl,_⟩|⟨_,_,rfl,_⟩|⟨_,ob,rfl⟩
   ·cases hu
   ·cases hu
   ·exact .inr ⟨ob,q⟩
 ·exact .inr ⟨o,x.get m h rfl⟩
theorem Ey.gone (x:Ey M H M1 H1) {b:ac} (h:H1 b=none):M b=none->H b=none:=fun m=>by
 cases e:H b with
 |none=>rfl
 |some o=>
  rcases x.keep b o m e with q|⟨_,_,q⟩ <;> (rw [h] at q;cases q)
theorem Rz.ey (x:Ey M H M1 H1) {v:V} {d:Dv} (h:Rz β M H v d):Rz β M1 H1 v d :=by
 induction h with
 |int i=>exact .int i
 |bl b=>exact .bl b
 |aB=>exact .aB
 |str z=>exact .str z
 |tup m e hl h ih=>exact .tup ⟨x.new _ _ m.1 e,m.2⟩ (x.get m.1 e rfl) hl ih
 |lst m e hl h ih=>exact .lst ⟨x.new _ _ m.1 e,m.2⟩ (x.get m.1 e rfl) hl ih
 |dk m e hk hl h ih=>exact .dk ⟨x.new _ _ m.1 e.there.choose_spec,m.2⟩ (x.rd m.1 e rfl) hk hl ih
 |dt m e hk hl h ih=>exact .dt ⟨x.new _ _ m.1 e.there.choose_spec,m.2⟩ (x.rd m.1 e rfl) hk hl ih
 |bU m e m2 e2 hl h ih=>exact .bU ⟨x.new _ _ m.1 e,m.2⟩ (x.get m.1 e rfl) ⟨x.new _ _ m2.1 e2,m2.2⟩ (x.get m2.1 e2 rfl) hl ih
 |set m e=>exact .set ⟨x.new _ _ m.1 e,m.2⟩ (x.get m.1 e rfl)
 |ptr m=>exact .ptr (x.dom _ m)
 |exc m e=>exact .exc ⟨x.new _ _ m.1 e,m.2⟩ (x.get m.1 e rfl)
 |bj m e=>exact .bj ⟨x.new _ _ m.1 e,m.2⟩ (x.get m.1 e rfl)
 |cF m e=>exact .cF ⟨x.new _ _ m.1 e,m.2⟩ (x.get m.1 e rfl)
 |cG e=>exact .cG e
 |raw v=>exact .raw v
theorem Rz.ex (x:Ex β M H M1 H1) {v:V} {d:Dv} (h:Rz β M H v d):Rz β M1 H1 v d:=h.ey x.toEy
theorem aF.ex (x:Ex β M H M1 H1) {vs:List V} {ds:List Dv} (h:aF β M H vs ds):aF β M1 H1 vs ds:=⟨h.len,fun i v d a b=>(h.at' i v d a b).ex x⟩
theorem aF.nil:aF β M H [] []:=⟨rfl,fun i v d h=>by simp at h⟩
theorem aF.cons {v:V} {d:Dv} {vs:List V} {ds:List Dv} (h:Rz β M H v d) (t:aF β M H vs ds):aF β M H (v::vs) (d::ds):=⟨by simp [t.len],fun i x y a b=>by
 cases i with
 |zero=>simp at a b;subst a b;exact h
 |succ i=>rw [FF] at a b;exact t.at' i x y a b⟩
theorem aF.head {v:V} {d:Dv} {vs:List V} {ds:List Dv} (h:aF β M H (v::vs) (d::ds)):Rz β M H v d:=h.at' 0 v d rfl rfl
theorem aF.tail {v:V} {d:Dv} {vs:List V} {ds:List Dv} (h:aF β M H (v::vs) (d::ds)):aF β M H vs ds:=⟨by simpa using h.len,fun i x y a b=>h.at' (i+1) x y (by rw [FF];exact a) (by rw [FF];exact b)⟩
theorem aF.append {vs uo:List V} {ds ds':List Dv} (h:aF β M H vs ds) (t:aF β M H uo ds'):aF β M H (vs++uo) (ds++ds'):=⟨by simp [h.len,t.len],fun i x y a b=>by
 rw [Tw] at a b
 rw [h.len] at a
 split at b
 ·rename_i z
  rw [if_pos z] at a
  exact h.at' i x y a b
 ·rename_i z
  rw [if_neg z] at a
  exact t.at' _ x y a b⟩
theorem aF.snoc {v:V} {d:Dv} {vs:List V} {ds:List Dv} (t:aF β M H vs ds) (h:Rz β M H v d):aF β M H (vs++[v]) (ds++[d]):=t.append (.cons h .nil)
theorem aF.get {vs:List V} {ds:List Dv} (h:aF β M H vs ds) {i:Nat} {d:Dv} (e:ds[i]?=some d):∃v,vs[i]?=some v/\Rz β M H v d :=by
 have hi:=(bv.mp e).1
 have fS:i<vs.length :=by rw [h.len];exact hi
 exact ⟨vs[i],bi fS,h.at' i _ _ (bi fS) e⟩
theorem aF.get' {vs:List V} {ds:List Dv} (h:aF β M H vs ds) {i:Nat} {v:V} (e:vs[i]?=some v):∃d,ds[i]?=some d/\Rz β M H v d :=by
 have hi:=(bv.mp e).1
 have fS:i<ds.length :=by rw [<- h.len];exact hi
 exact ⟨ds[i],bi fS,h.at' i _ _ e (bi fS)⟩
theorem aF.take {vs:List V} {ds:List Dv} (h:aF β M H vs ds) (n:Nat):aF β M H (vs.take n) (ds.take n):=⟨by simp [h.len],fun i x y a b=>by
 rw [List.getElem?_take] at a b
 split at a
 ·rename_i z;rw [if_pos z] at b;exact h.at' i x y a b
 ·cases a⟩
theorem aF.drop {vs:List V} {ds:List Dv} (h:aF β M H vs ds) (n:Nat):aF β M H (vs.drop n) (ds.drop n):=⟨by simp [h.len],fun i x y a b=>by
 rw [List.getElem?_drop] at a b
 exact h.at' _ x y a b⟩
theorem aF.set {vs:List V} {ds:List Dv} (h:aF β M H vs ds) (n:Nat) {v:V} {d:Dv} (r:Rz β M H v d):aF β M H (vs.set n v) (ds.set n d):=⟨by simp [h.len],fun i x y a b=>by
 rw [S2] at a b
 rw [h.len] at a
 split at a
 ·rename_i z
  rw [if_pos z] at b
  split at a
  ·rename_i z2;rw [if_pos z2] at b;cases a;cases b;exact r
  ·cases a
 ·rename_i z;rw [if_neg z] at b;exact h.at' i x y a b⟩
theorem jj {a:ac} {vs:List V} {ds:List Dv} (m:Fz β M a) (e:H a=some (.tup vs)) (h:aF β M H vs ds):Rz β M H (.ref a) (.tup ds):=.tup m e h.len h.at'
theorem uq {a:ac} {vs:List V} {ds:List Dv} (m:Fz β M a) (e:H a=some (.lst vs)) (h:aF β M H vs ds):Rz β M H (.ref a) (.lst ds):=.lst m e h.len h.at'
theorem dB {v:V} {ds:List Dv} (h:Rz β M H v (.tup ds)):∃a vs,v=.ref a/\Fz β M a/\H a=some (.tup vs)/\aF β M H vs ds :=by
 cases h with
 |tup m e hl h=>exact ⟨_,_,rfl,m,e,hl,h⟩
theorem fV {v:V} {ds:List Dv} (h:Rz β M H v (.lst ds)):∃a vs,v=.ref a/\Fz β M a/\H a=some (.lst vs)/\aF β M H vs ds :=by
 cases h with
 |lst m e hl h=>exact ⟨_,_,rfl,m,e,hl,h⟩
theorem aS {v:V} {i:Int} (h:Rz β M H v (.int i)):v=.int i :=by cases h;rfl
theorem dE {v:V} {b:Bool} (h:Rz β M H v (.bl b)):v=.bl b :=by cases h;rfl
theorem bJ {v:V} {z:ba} (h:Rz β M H v (.str z)):v=.str z :=by cases h;rfl
theorem eQ {v:V} (h:Rz β M H v .aB):v=.aB :=by cases h;rfl
theorem Aa {v u:V} (h:Rz β M H v (.raw u)):v=u :=by cases h;rfl
theorem cA {v:V} {a:ac} (h:Rz β M H v (.ptr a)):v=.ref a/\(M a).isSome=true :=by cases h with|ptr m=>exact ⟨rfl,m⟩
theorem Ab {v:V} {ns:List Int} (h:Rz β M H v (.set ns)):∃a,v=.ref a/\Fz β M a/\H a=some (xR β.P β.w a ns) :=by cases h with|set m e=>exact ⟨_,rfl,m,e⟩
theorem rL {v:V} {ns:List Int} (h:Rz β M H v (.bj ns)):∃a,v=.ref a/\bY β.K H a (ns.map V.int) :=by
 cases h with
 |bj m e=>exact ⟨_,rfl,.inl (.inr ⟨_,e⟩)⟩
 |cF m e=>exact ⟨_,rfl,.inl (.inl e)⟩
 |cG e=>exact ⟨_,rfl,.inr e⟩
def oz:HO->Bool
 | .lst _=>true
 | .dK _=>true
 | .dT _=>true
 |_=>false
theorem Mz.own (m:Mz β M H) {a:ac} {o:Mo} (e:M a=some o):∃u,H a=some u/\oz u=true :=by
 have q:=m.obj a o e
 cases o with
 |lst ds=>obtain ⟨vs,q,_⟩:=q;exact ⟨_,q,rfl⟩
 |dk ks ds=>obtain ⟨vs,q,_⟩:=q;exact ⟨_,q,rfl⟩
 |dt ks ds=>obtain ⟨vs,q,_⟩:=q;exact ⟨_,q,rfl⟩
 |c6=>obtain ⟨_,_,q,_⟩:=q;exact ⟨_,q,rfl⟩
theorem Mz.jk (m:Mz β M H) {a:ac} {u:HO} (h:H a=some u) (n:oz u=false):M a=none :=by
 cases e:M a with
 |none=>rfl
 |some o=>obtain ⟨u',q,w⟩:=m.own e;rw [h] at q;cases q;rw [n] at w;cases w
theorem Mz.L1 (m:Mz β M H) {p:ac} (hp:p∈β.tb):M p=none:=let ⟨_,h,_⟩:=m.tabs p hp;m.jk h rfl
theorem Mz.Je (m:Mz β M H) {p:ac×ba} (hp:p∈β.tb.l):M p.1=none:=let ⟨_,h,_⟩:=m.lams p hp;m.jk h rfl
theorem Mz.free (m:Mz β M H) {a:ac} (h:H a=none):M a=none :=by
 cases e:M a with
 |none=>rfl
 |some o=>obtain ⟨xs,q,_⟩:=m.own e;rw [h] at q;cases q
theorem Mz.fz (m:Mz β M H) {a:ac} (h:H a=none):Fz β M a:=⟨m.free h,fun z=>by
 obtain ⟨o,e,_⟩:=m.hids a z
 rw [h] at e
 cases e⟩
theorem CQ {p a:ac} {o:HO} (h:∃u,H a=GM u):∃u,upd H p o a=GM u :=by
 unfold upd
 split
 ·exact ⟨_,rfl⟩
 ·exact h
theorem Ex.lay (m:Mz β M H) {p:ac} (h:H p=none) (o:HO):Ex β M H M (upd H p o) :=by
 have pre:∀b u,H b=some u->upd H p o b=some u:=fun b u q=>by rw [af (bf q h)];exact q
 have rz:∀{v:V} {d:Dv},Rz β M H v d->Rz β M (upd H p o) v d:=fun r=>by
  induction r with
  |int i=>exact .int i
  |bl b=>exact .bl b
  |aB=>exact .aB
  |str z=>exact .str z
  |tup m e hl h ih=>exact .tup m (pre _ _ e) hl ih
  |lst m e hl h ih=>exact .lst m (pre _ _ e) hl ih
  |dk m e hk hl h ih=>exact .dk m (e.map fun _ h=>pre _ _ h) hk hl ih
  |dt m e hk hl h ih=>exact .dt m (e.map fun _ h=>pre _ _ h) hk hl ih
  |bU m e m2 e2 hl h ih=>exact .bU m (pre _ _ e) m2 (pre _ _ e2) hl ih
  |set m e=>exact .set m (pre _ _ e)
  |ptr m=>exact .ptr m
  |exc m e=>exact .exc m (pre _ _ e)
  |bj m e=>exact .bj m (pre _ _ e)
  |cF m e=>exact .cF m (pre _ _ e)
  |cG e=>exact .cG e
  |raw v=>exact .raw v
 refine ⟨⟨fun b u _ q=>.inl (pre b u q),fun _ h=>h,fun _ _ h _=>h⟩,fun a u e=>?_,fun q hq=>?_,fun a ha=>(m.hids a ha).upd (.inl h),m.apart,fun q hq=>(m.lams q hq).keep (fun _ e=>pre _ _ e) fun _ _ _ e=>pre _ _ e⟩
 ·have z:=m.obj a u e
  cases u with
  |lst ds=>obtain ⟨vs,z,l,r⟩:=z;exact ⟨vs,pre _ _ z,l,fun i v d a b=>rz (r i v d a b)⟩
  |dk ks ds=>obtain ⟨vs,z,hk,l,r⟩:=z;exact ⟨vs,pre _ _ z,hk,l,fun i v d a b=>rz (r i v d a b)⟩
  |dt ks ds=>obtain ⟨vs,z,hk,l,r⟩:=z;exact ⟨vs,pre _ _ z,hk,l,fun i v d a b=>rz (r i v d a b)⟩
  |c6=>obtain ⟨c,n,z,r⟩:=z;exact ⟨c,n,pre _ _ z,r⟩
 ·obtain ⟨ps,e,t⟩:=m.tabs q hq
  exact ⟨ps,pre _ _ e,t⟩
theorem Ex.grow (m:Mz β M H) {p:ac} (hp:p∈β.tb) {ps:Array ag} (t:Ix ps.toList):Ex β M H M (upd H p (.cN ps)) :=by
 obtain ⟨QB,NC,t0⟩:=m.tabs p hp
 have pre:∀b u,H b=some u->z9 u=true->upd H p (.cN ps) b=some u:=fun b u q n=>by
  have:b≠p:=fun z=>by subst z;rw [NC] at q;cases q;cases n
  rw [af this];exact q
 have rz:∀{v:V} {d:Dv},Rz β M H v d->Rz β M (upd H p (.cN ps)) v d:=fun r=>by
  induction r with
  |int i=>exact .int i
  |bl b=>exact .bl b
  |aB=>exact .aB
  |str z=>exact .str z
  |tup m e hl h ih=>exact .tup m (pre _ _ e rfl) hl ih
  |lst m e hl h ih=>exact .lst m (pre _ _ e rfl) hl ih
  |dk m e hk hl h ih=>exact .dk m (e.Jd rfl fun x hx h=>pre _ _ h hx) hk hl ih
  |dt m e hk hl h ih=>exact .dt m (e.Jd rfl fun x hx h=>pre _ _ h hx) hk hl ih
  |bU m e m2 e2 hl h ih=>exact .bU m (pre _ _ e rfl) m2 (pre _ _ e2 rfl) hl ih
  |set m e=>exact .set m (pre _ _ e rfl)
  |ptr m=>exact .ptr m
  |exc m e=>exact .exc m (pre _ _ e rfl)
  |bj m e=>exact .bj m (pre _ _ e rfl)
  |cF m e=>exact .cF m (pre _ _ e rfl)
  |cG e=>exact .cG e
  |raw v=>exact .raw v
 refine ⟨⟨fun b u _ q=>?_,fun _ h=>h,fun _ _ h _=>h⟩,fun a u e=>?_,fun q hq=>?_,fun a ha=>(m.hids a ha).upd (.inr rfl),m.apart,fun q hq=>(m.lams q hq).keep (fun _ e=>pre _ _ e rfl) fun _ _ _ e=>pre _ _ e rfl⟩
 ·by_cases e:b=p
  ·subst e
   rw [NC] at q
   cases q
   exact .inr ⟨_,.inl ⟨QB,ps,rfl,rfl,t⟩,ax⟩
  ·exact .inl (by rw [af e];exact q)
 ·have z:=m.obj a u e
  cases u with
  |lst ds=>obtain ⟨vs,z,l,r⟩:=z;exact ⟨vs,pre _ _ z rfl,l,fun i v d a b=>rz (r i v d a b)⟩
  |dk ks ds=>obtain ⟨vs,z,hk,l,r⟩:=z;exact ⟨vs,pre _ _ z rfl,hk,l,fun i v d a b=>rz (r i v d a b)⟩
  |dt ks ds=>obtain ⟨vs,z,hk,l,r⟩:=z;exact ⟨vs,pre _ _ z rfl,hk,l,fun i v d a b=>rz (r i v d a b)⟩
  |c6=>obtain ⟨c,n,z,r⟩:=z;exact ⟨c,n,pre _ _ z rfl,r⟩
 ·by_cases e:q=p
  ·subst e;exact ⟨ps,ax,t⟩
  ·obtain ⟨p2,e2,t2⟩:=m.tabs q hq
   exact ⟨p2,by rw [af e];exact e2,t2⟩
def au (M:Mh) (a:ac) (o:Mo):Mh:=fun b=>if b=a then GM o else M b
theorem updM_same {a:ac} {o:Mo}:au M a o a=GM o :=by unfold au;rw [if_pos rfl]
theorem ah {a b:ac} {o:Mo} (h:b≠a):au M a o b=M b :=by unfold au;rw [if_neg h]
theorem updM_updM {a:ac} {o u:Mo}:au (au M a o) a u=au M a u :=by funext b;unfold au;split <;> rfl
theorem kn {p:ac} {o:Mo} {u:HO} (hp:(M p).isSome=true\/H p=none) {v:V} {d:Dv} (h:Rz β M H v d):Rz β (au M p o) (upd H p u) v d :=by
 have ne:∀a x,M a=none->H a=GM x->a≠p:=fun a x m e z=>by
  subst z
  rcases hp with q|q
  ·rw [m] at q;cases q
  ·rw [q] at e;cases e
 induction h with
 |int i=>exact .int i
 |bl b=>exact .bl b
 |aB=>exact .aB
 |str z=>exact .str z
 |tup m e hl h ih=>have n:=ne _ _ m.1 e;exact .tup ⟨by rw [ah n];exact m.1,m.2⟩ (by rw [af n];exact e) hl ih
 |lst m e hl h ih=>have n:=ne _ _ m.1 e;exact .lst ⟨by rw [ah n];exact m.1,m.2⟩ (by rw [af n];exact e) hl ih
 |dk m e hk hl h ih=>have n:=ne _ _ m.1 e.there.choose_spec;exact .dk ⟨by rw [ah n];exact m.1,m.2⟩ (e.map fun _ h=>by rw [af n];exact h) hk hl ih
 |dt m e hk hl h ih=>have n:=ne _ _ m.1 e.there.choose_spec;exact .dt ⟨by rw [ah n];exact m.1,m.2⟩ (e.map fun _ h=>by rw [af n];exact h) hk hl ih
 |bU m e m2 e2 hl h ih=>have n:=ne _ _ m.1 e;have n2:=ne _ _ m2.1 e2;exact .bU ⟨by rw [ah n];exact m.1,m.2⟩ (by rw [af n];exact e) ⟨by rw [ah n2];exact m2.1,m2.2⟩ (by rw [af n2];exact e2) hl ih
 |set m e=>have n:=ne _ _ m.1 e;exact .set ⟨by rw [ah n];exact m.1,m.2⟩ (by rw [af n];exact e)
 |ptr m=>
  refine .ptr ?_
  unfold au
  split
  ·rfl
  ·exact m
 |exc m e=>have n:=ne _ _ m.1 e;exact .exc ⟨by rw [ah n];exact m.1,m.2⟩ (by rw [af n];exact e)
 |bj m e=>have n:=ne _ _ m.1 e;exact .bj ⟨by rw [ah n];exact m.1,m.2⟩ (by rw [af n];exact e)
 |cF m e=>have n:=ne _ _ m.1 e;exact .cF ⟨by rw [ah n];exact m.1,m.2⟩ (by rw [af n];exact e)
 |cG e=>exact .cG e
 |raw v=>exact .raw v
theorem ir.upd {p:ac} {o':Mo} {u:HO} (hp:(M p).isSome=true\/H p=none) {a:ac} {o:Mo} (ha:a≠p) (z:ir β M H a o):ir β (au M p o') (L2.upd H p u) a o :=by
 cases o with
 |lst ds=>obtain ⟨vs,z,l,r⟩:=z;exact ⟨vs,by rw [af ha];exact z,l,fun i v d a b=>kn hp (r i v d a b)⟩
 |dk ks ds=>obtain ⟨vs,z,hk,l,r⟩:=z;exact ⟨vs,by rw [af ha];exact z,hk,l,fun i v d a b=>kn hp (r i v d a b)⟩
 |dt ks ds=>obtain ⟨vs,z,hk,l,r⟩:=z;exact ⟨vs,by rw [af ha];exact z,hk,l,fun i v d a b=>kn hp (r i v d a b)⟩
 |c6=>obtain ⟨c,n,z,r⟩:=z;exact ⟨c,n,by rw [af ha];exact z,r⟩
theorem Ex.oz (m:Mz β M H) {p:ac} {u:HO} {o':Mo} (hp:(M p).isSome=true\/H p=none) (hu:mJ u=true) (r:ir β (au M p o') (upd H p u) p o'):Ex β M H (au M p o') (upd H p u) :=by
 have ne:∀a x,M a=none->H a=GM x->a≠p:=fun a x m e z=>by
  subst z
  rcases hp with q|q
  ·rw [m] at q;cases q
  ·rw [q] at e;cases e
 refine ⟨⟨fun b u hm q=>.inl ?_,fun a h=>?_,fun a o hm h=>?_⟩,fun a o e=>?_,fun q hq=>?_,fun a ha=>(m.hids a ha).upd (.inr hu),fun a o e z=>?_,fun q hq=>?_⟩
 ·rw [af (ne b _ hm q)];exact q
 ·unfold au
  split
  ·rfl
  ·exact h
 ·rw [ah (ne a _ hm h)];exact hm
 ·by_cases ha:a=p
  ·subst ha
   rw [updM_same] at e
   cases e
   exact r
  ·rw [ah ha] at e
   exact (m.obj a o e).upd hp ha
 ·obtain ⟨ps,e,t⟩:=m.tabs q hq
  exact ⟨ps,by rw [af (ne q _ (m.L1 hq) e)];exact e,t⟩
 ·by_cases ha:a=p
  ·subst ha
   rcases hp with h|h
   ·cases q:M a with
    |none=>rw [q] at h;cases h
    |some u=>exact m.apart a u q z
   ·obtain ⟨u,hu,_⟩:=m.hids a z
    rw [h] at hu
    cases hu
  ·rw [ah ha] at e
   exact m.apart a o e z
 ·exact (m.lams q hq).keep (fun _ e=>by rw [af (ne q.1 _ (m.Je hq) e)];exact e) fun c _ _ e=>by rw [af (ne c _ (m.jk e rfl) e)];exact e
theorem Ex.own (m:Mz β M H) {p:ac} {vs:List V} {ds:List Dv} (hp:(M p).isSome=true\/H p=none) (r:aF β M H vs ds):Ex β M H (au M p (.lst ds)) (upd H p (.lst vs)):=
 Ex.oz m hp rfl ⟨vs,ax,r.len,fun i v d a b=>kn hp (r.at' i v d a b)⟩
theorem Ex.Jf (m:Mz β M H) {p:ac} {ks:List Key} {vs:List V} {ds:List Dv} (hp:(M p).isSome=true\/H p=none) (hk:ks.length=vs.length) (r:aF β M H vs ds):Ex β M H (au M p (.dk ks ds)) (upd H p (.dK (ks.zip vs))):=
 Ex.oz m hp rfl ⟨vs,ax,hk,r.len,fun i v d a b=>kn hp (r.at' i v d a b)⟩
theorem Ex.Jg (m:Mz β M H) {p:ac} {ks:List (List Key)} {vs:List V} {ds:List Dv} (hp:(M p).isSome=true\/H p=none) (hk:ks.length=vs.length) (r:aF β M H vs ds):Ex β M H (au M p (.dt ks ds)) (upd H p (.dT (ks.zip vs))):=
 Ex.oz m hp rfl ⟨vs,ax,hk,r.len,fun i v d a b=>kn hp (r.at' i v d a b)⟩
abbrev Bz.add (β:Bz) (D:ac):Bz:={β with hid:=D::β.hid}
theorem Rz.enter {D:ac} {o:HO} (hD:H D=none) {v:V} {d:Dv} (h:Rz β M H v d):Rz (β.add D) M (upd H D o) v d :=by
 have ne:∀a x,Fz β M a->H a=some x->Fz (β.add D) M a:=fun a x m e=>⟨m.1,by
  intro z
  rcases lp.mp z with z|z
  ·subst z;rw [hD] at e;cases e
  ·exact m.2 z⟩
 have pre:∀a x,H a=some x->upd H D o a=some x:=fun a x e=>by rw [af (bf e hD)];exact e
 induction h with
 |int i=>exact .int i
 |bl b=>exact .bl b
 |aB=>exact .aB
 |str z=>exact .str z
 |tup m e hl h ih=>exact .tup (ne _ _ m e) (pre _ _ e) hl ih
 |lst m e hl h ih=>exact .lst (ne _ _ m e) (pre _ _ e) hl ih
 |dk m e hk hl h ih=>exact .dk (ne _ _ m e.there.choose_spec) (e.map fun _ h=>pre _ _ h) hk hl ih
 |dt m e hk hl h ih=>exact .dt (ne _ _ m e.there.choose_spec) (e.map fun _ h=>pre _ _ h) hk hl ih
 |bU m e m2 e2 hl h ih=>exact .bU (ne _ _ m e) (pre _ _ e) (ne _ _ m2 e2) (pre _ _ e2) hl ih
 |set m e=>exact .set (ne _ _ m e) (pre _ _ e)
 |ptr m=>exact .ptr m
 |exc m e=>exact .exc (ne _ _ m e) (pre _ _ e)
 |bj m e=>exact .bj (ne _ _ m e) (pre _ _ e)
 |cF m e=>exact .cF (ne _ _ m e) (pre _ _ e)
 |cG e=>exact .cG e
 |raw v=>exact .raw v
theorem Rz.sub {cO:Bz} (hP:cO.P=β.P) (hw:cO.w=β.w) (hK:cO.K=β.K) (hs:∀a,a∈cO.hid->a∈β.hid) {v:V} {d:Dv} (h:Rz β M H v d):Rz cO M H v d :=by
 have ne:∀a,Fz β M a->Fz cO M a:=fun a m=>⟨m.1,fun z=>m.2 (hs a z)⟩
 induction h with
 |int i=>exact .int i
 |bl b=>exact .bl b
 |aB=>exact .aB
 |str z=>exact .str z
 |tup m e hl h ih=>exact .tup (ne _ m) e hl ih
 |lst m e hl h ih=>exact .lst (ne _ m) e hl ih
 |dk m e hk hl h ih=>exact .dk (ne _ m) e hk hl ih
 |dt m e hk hl h ih=>exact .dt (ne _ m) e hk hl ih
 |bU m e m2 e2 hl h ih=>exact .bU (ne _ m) e (ne _ m2) e2 hl ih
 |set m e=>exact .set (ne _ m) (by rw [hP,hw];exact e)
 |ptr m=>exact .ptr m
 |exc m e=>exact .exc (ne _ m) e
 |bj m e=>exact .bj (ne _ m) e
 |cF m e=>exact .cF (ne _ m) e
 |cG e=>exact .cG (by rw [hK];exact e)
 |raw v=>exact .raw v
theorem Mz.sub {cO:Bz} (hP:cO.P=β.P) (hw:cO.w=β.w) (hK:cO.K=β.K) (ht:cO.tb=β.tb) (hs:∀a,a∈cO.hid->a∈β.hid) (m:Mz β M H):Mz cO M H:=⟨fun a o e=>by
 have z:=m.obj a o e
 cases o with
 |lst ds=>obtain ⟨vs,z,l,r⟩:=z;exact ⟨vs,z,l,fun i v d a b=>(r i v d a b).sub hP hw hK hs⟩
 |dk ks ds=>obtain ⟨vs,z,hk,l,r⟩:=z;exact ⟨vs,z,hk,l,fun i v d a b=>(r i v d a b).sub hP hw hK hs⟩
 |dt ks ds=>obtain ⟨vs,z,hk,l,r⟩:=z;exact ⟨vs,z,hk,l,fun i v d a b=>(r i v d a b).sub hP hw hK hs⟩
 |c6=>exact z,by rw [ht];exact m.tabs,fun a ha=>m.hids a (hs a ha),fun a o e z=>m.apart a o e (hs a z),by rw [ht];exact m.lams⟩
theorem Mz.enter {D:ac} {o:HO} (hD:H D=none) (ho:mJ o=true) (m:Mz β M H):Mz (β.add D) M (upd H D o):=⟨fun a u e=>by
 have pre:∀a x,H a=GM x->upd H D o a=GM x:=fun a x e=>by rw [af (bf e hD)];exact e
 have z:=m.obj a u e
 cases u with
 |lst ds=>obtain ⟨vs,z,l,r⟩:=z;exact ⟨vs,pre _ _ z,l,fun i v d a b=>(r i v d a b).enter hD⟩
 |dk ks ds=>obtain ⟨vs,z,hk,l,r⟩:=z;exact ⟨vs,pre _ _ z,hk,l,fun i v d a b=>(r i v d a b).enter hD⟩
 |dt ks ds=>obtain ⟨vs,z,hk,l,r⟩:=z;exact ⟨vs,pre _ _ z,hk,l,fun i v d a b=>(r i v d a b).enter hD⟩
 |c6=>obtain ⟨c,n,z,r⟩:=z;exact ⟨c,n,pre _ _ z,r⟩,fun p hp=>by
 obtain ⟨ps,e,t⟩:=m.tabs p hp
 exact ⟨ps,by rw [af (bf e hD)];exact e,t⟩,fun a ha=>by
 rcases lp.mp ha with z|z
 ·subst z;exact ⟨_,ax,ho⟩
 ·exact (m.hids a z).upd (.inl hD),fun a o e ha=>by
 rcases lp.mp ha with z|z
 ·subst z;rw [m.free hD] at e;cases e
 ·exact m.apart a o e z,fun q hq=>(m.lams q hq).keep (fun _ e=>by rw [af (bf e hD)];exact e) fun _ _ _ e=>by rw [af (bf e hD)];exact e⟩
theorem Rz.over {D:ac} {o:HO} (hD:D∈β.hid) {v:V} {d:Dv} (h:Rz β M H v d):Rz β M (upd H D o) v d :=by
 have pre:∀a x,Fz β M a->H a=some x->upd H D o a=some x:=fun a x m e=>by
  have n:a≠D:=fun z=>by subst z;exact m.2 hD
  rw [af n];exact e
 induction h with
 |int i=>exact .int i
 |bl b=>exact .bl b
 |aB=>exact .aB
 |str z=>exact .str z
 |tup m e hl h ih=>exact .tup m (pre _ _ m e) hl ih
 |lst m e hl h ih=>exact .lst m (pre _ _ m e) hl ih
 |dk m e hk hl h ih=>exact .dk m (e.map fun _ h=>pre _ _ m h) hk hl ih
 |dt m e hk hl h ih=>exact .dt m (e.map fun _ h=>pre _ _ m h) hk hl ih
 |bU m e m2 e2 hl h ih=>exact .bU m (pre _ _ m e) m2 (pre _ _ m2 e2) hl ih
 |set m e=>exact .set m (pre _ _ m e)
 |ptr m=>exact .ptr m
 |exc m e=>exact .exc m (pre _ _ m e)
 |bj m e=>exact .bj m (pre _ _ m e)
 |cF m e=>exact .cF m (pre _ _ m e)
 |cG e=>exact .cG e
 |raw v=>exact .raw v
theorem Mz.over {D:ac} {o:HO} (hD:D∈β.hid) (ho:mJ o=true) (hM:M D=none) (ht:D ∉ β.tb) (m:Mz β M H):Mz β M (upd H D o):=⟨fun a u e=>by
 have na:a≠D:=fun z=>by subst z;rw [hM] at e;cases e
 have z:=m.obj a u e
 cases u with
 |lst ds=>obtain ⟨vs,z,l,r⟩:=z;exact ⟨vs,by rw [af na];exact z,l,fun i v d a b=>(r i v d a b).over hD⟩
 |dk ks ds=>obtain ⟨vs,z,hk,l,r⟩:=z;exact ⟨vs,by rw [af na];exact z,hk,l,fun i v d a b=>(r i v d a b).over hD⟩
 |dt ks ds=>obtain ⟨vs,z,hk,l,r⟩:=z;exact ⟨vs,by rw [af na];exact z,hk,l,fun i v d a b=>(r i v d a b).over hD⟩
 |c6=>obtain ⟨c,n,z,r⟩:=z;exact ⟨c,n,by rw [af na];exact z,r⟩,fun p hp=>by
 obtain ⟨ps,e,t⟩:=m.tabs p hp
 have n:p≠D:=fun z=>by subst z;exact ht hp
 exact ⟨ps,by rw [af n];exact e,t⟩,fun a ha=>(m.hids a ha).upd (.inr ho),m.apart,fun q hq=>by
 obtain ⟨o',e',n⟩:=m.hids D hD
 exact (m.lams q hq).keep (fun _ e=>by rw [af (fun z=>by subst z;rw [e'] at e;cases e;cases n)];exact e) fun c _ _ e=>by rw [af (fun z=>by subst z;rw [e'] at e;cases e;cases n)];exact e⟩
theorem Ey.over {D:ac} {o:HO} (x:Ey M H M1 H1) (hD:H D=none):Ey M H M1 (upd H1 D o):=⟨fun b u m h=>by
 have nb:b≠D:=bf h hD
 rw [af nb]
 exact x.keep b u m h,x.dom,x.new⟩
theorem Mz.CT {D:ac} (m:Mz β M H) (hD:H D=none):D ∉ β.tb:=fun z=>by
 obtain ⟨_,e,_⟩:=m.tabs D z
 rw [hD] at e
 cases e
structure Bx (β cO:Bz) (H:Hp):Prop where
 P:cO.P=β.P
 w:cO.w=β.w
 K:cO.K=β.K
 tb:cO.tb=β.tb
 old:∀a,a∈β.hid->a∈cO.hid
 new:∀a,a∈cO.hid->a∈β.hid\/H a=none
theorem Bx.refl:Bx β β H:=⟨rfl,rfl,rfl,rfl,fun _ h=>h,fun _ h=>.inl h⟩
theorem Bx.add {D:ac} (hD:H D=none):Bx β (β.add D) H:=⟨rfl,rfl,rfl,rfl,fun _ h=>hX _ h,fun a h=>by
 rcases lp.mp h with z|z
 ·exact .inr (z▸hD)
 ·exact .inl z⟩
theorem Rz.bx {cO:Bz} (b:Bx β cO H) {v:V} {d:Dv} (h:Rz β M H v d):Rz cO M H v d :=by
 have ne:∀a x,Fz β M a->H a=some x->Fz cO M a:=fun a x m e=>⟨m.1,fun z=>by
  rcases b.new a z with q|q
  ·exact m.2 q
  ·rw [q] at e;cases e⟩
 induction h with
 |int i=>exact .int i
 |bl b=>exact .bl b
 |aB=>exact .aB
 |str z=>exact .str z
 |tup m e hl h ih=>exact .tup (ne _ _ m e) e hl ih
 |lst m e hl h ih=>exact .lst (ne _ _ m e) e hl ih
 |dk m e hk hl h ih=>exact .dk (ne _ _ m e.there.choose_spec) e hk hl ih
 |dt m e hk hl h ih=>exact .dt (ne _ _ m e.there.choose_spec) e hk hl ih
 |bU m e m2 e2 hl h ih=>exact .bU (ne _ _ m e) e (ne _ _ m2 e2) e2 hl ih
 |set m e=>exact .set (ne _ _ m e) (by rw [b.P,b.w];exact e)
 |ptr m=>exact .ptr m
 |exc m e=>exact .exc (ne _ _ m e) e
 |bj m e=>exact .bj (ne _ _ m e) e
 |cF m e=>exact .cF (ne _ _ m e) e
 |cG e=>exact .cG (by rw [b.K];exact e)
 |raw v=>exact .raw v
end
inductive Pin (M:Mh):Dv->Prop where
 |int (i:Int):Pin M (.int i)
 |bl (b:Bool):Pin M (.bl b)
 |aB:Pin M .aB
 |str (z:ba):Pin M (.str z)
 |tup {ds:List Dv} (h:∀d∈ds,Pin M d):Pin M (.tup ds)
 |lst {ds:List Dv} (h:∀d∈ds,Pin M d):Pin M (.lst ds)
 |set (ns:List Int):Pin M (.set ns)
 |ptr {a:ac} (h:(M a).isSome=true):Pin M (.ptr a)
 |exc (C:ac):Pin M (.exc C)
 |bj (ns:List Int):Pin M (.bj ns)
 |raw (v:V):Pin M (.raw v)
 |dk {ks:List Key} {ds:List Dv} (h:∀d∈ds,Pin M d):Pin M (.dk ks ds)
 |dt {ks:List (List Key)} {ds:List Dv} (h:∀d∈ds,Pin M d):Pin M (.dt ks ds)
 |bU {f c:ac} {o oc:ii} {vs:List V} {ds:List Dv} (h:∀d∈ds,Pin M d):Pin M (.bU f o c oc vs ds)
theorem Rz.pin {β:Bz} {M:Mh} {H:Hp} {v:V} {d:Dv} (h:Rz β M H v d):Pin M d :=by
 induction h with
 |int i=>exact .int i
 |bl b=>exact .bl b
 |aB=>exact .aB
 |str z=>exact .str z
 |tup m e hl h ih=>
  refine .tup fun d hd=>?_
  obtain ⟨i,hi⟩:=mo.mp hd
  have h1:=(bv.mp hi).1
  exact ih i _ d (bi (by omega)) hi
 |lst m e hl h ih=>
  refine .lst fun d hd=>?_
  obtain ⟨i,hi⟩:=mo.mp hd
  have h1:=(bv.mp hi).1
  exact ih i _ d (bi (by omega)) hi
 |dk m e hk hl h ih=>
  refine .dk fun d hd=>?_
  obtain ⟨i,hi⟩:=mo.mp hd
  have h1:=(bv.mp hi).1
  exact ih i _ d (bi (by omega)) hi
 |dt m e hk hl h ih=>
  refine .dt fun d hd=>?_
  obtain ⟨i,hi⟩:=mo.mp hd
  have h1:=(bv.mp hi).1
  exact ih i _ d (bi (by omega)) hi
 |bU m e m2 e2 hl h ih=>
  refine .bU fun d hd=>?_
  obtain ⟨i,hi⟩:=mo.mp hd
  have h1:=(bv.mp hi).1
  exact ih i _ d (bi (by omega)) hi
 |set m e=>exact .set _
 |ptr m=>exact .ptr m
 |exc m e=>exact .exc _
 |bj m e=>exact .bj _
 |cF m e=>exact .bj _
 |cG e=>exact .bj _
 |raw v=>exact .raw v
def Mo.items:Mo->List Dv
 | .lst ds=>ds
 | .dk _ ds=>ds
 | .dt _ ds=>ds
 | .c6=>[]
def Wf (M:Mh):Prop:=∀b o,M b=some o->∀d∈o.items,Pin M d
theorem ir.QC {β:Bz} {M:Mh} {H:Hp} {a:ac} {o:Mo} (h:ir β M H a o):∃vs,aF β M H vs o.items :=by
 cases o with
 |lst ds=>obtain ⟨vs,_,rs⟩:=h;exact ⟨vs,rs⟩
 |dk ks ds=>obtain ⟨vs,_,_,rs⟩:=h;exact ⟨vs,rs⟩
 |dt ks ds=>obtain ⟨vs,_,_,rs⟩:=h;exact ⟨vs,rs⟩
 |c6=>exact ⟨[],.nil⟩
theorem Mz.wf {β:Bz} {M:Mh} {H:Hp} (m:Mz β M H):Wf M:=fun b o e d hd=>by
 obtain ⟨vs,rs⟩:=(m.obj b _ e).QC
 obtain ⟨i,hi⟩:=mo.mp hd
 obtain ⟨v,_,r⟩:=rs.get hi
 exact r.pin
abbrev aA:=List (Option Dv)
abbrev ZK:=Dv->Mh->Prop
abbrev aH:=aA->Mh->ZK->Prop
abbrev cW:=aA->Mh->(Bool->Mh->Prop)->Prop
abbrev dI:=aA->Mh->(List Dv->Mh->Prop)->Prop
structure fy where
 nx:aA->Mh->Prop
 rt:ZK
 bk:aA->Mh->Prop:=fun _ _=>False
 ct:aA->Mh->Prop:=fun _ _=>False
abbrev b9:=fy->aA->Mh->Prop
abbrev cS:=Dv->aA->Mh->(aA->Mh->Prop)->Prop
abbrev mL:=List Dv->aA->Mh->(aA->Mh->Prop)->Prop
abbrev ft:=aA->Mh->(List Dv->Mh->Prop)->Prop
structure Gz extends Bz where
 M0:Mh
 H0:Hp
structure Zr (Γ:Gz) (β:Bz) (M:Mh) (ρ:aA) (σ:St) (H:Hp):Prop where
 eP:β.P=Γ.P
 ew:β.w=Γ.w
 eK:β.K=Γ.K
 et:β.tb=Γ.tb
 sub:∀a,a∈Γ.hid->a∈β.hid
 wf:Wf Γ.M0
 ent:Ey Γ.M0 Γ.H0 M H
 mz:Mz β M H
 len:ρ.length=σ.length
 at':∀(i:Nat) (d:Dv),ρ[i]?=some (some d)->∃v,σ[i]?=some (some v)/\Rz β M H v d
section
variable {Γ:Gz} {β:Bz} {M M':Mh} {ρ:aA} {σ:St} {H H':Hp}
theorem Zr.step (z:Zr Γ β M ρ σ H) (x:Ex β M H M' H'):Zr Γ β M' ρ σ H':=⟨z.eP,z.ew,z.eK,z.et,z.sub,z.wf,z.ent.trans x.toEy,x.mz,z.len,fun i d e=>let ⟨v,h,r⟩:=z.at' i d e;⟨v,h,r.ex x⟩⟩
theorem Zr.set (z:Zr Γ β M ρ σ H) (i:Nat) {v:V} {d:Dv} (r:Rz β M H v d):Zr Γ β M (ρ.set i (some d)) (σ.set i (some v)) H:=⟨z.eP,z.ew,z.eK,z.et,z.sub,z.wf,z.ent,z.mz,by simp [z.len],fun j e h=>by
 rw [S2] at h ⊢
 rw [z.len] at h
 split at h
 ·rename_i q
  rw [if_pos q]
  split at h
  ·rename_i q2
   rw [if_pos q2]
   cases h
   exact ⟨v,rfl,r⟩
  ·cases h
 ·rename_i q
  rw [if_neg q]
  exact z.at' j e h⟩
end
def lE (Γ:Gz) (p:aH):TE:=fun σ H Q=>∃(β:Bz) (ρ:aA) (M:Mh) (Q':ZK),Zr Γ β M ρ σ H/\p ρ M Q'/\∀d M' v H',Ex β M H M' H'->Rz β M' H' v d->Q' d M'->Q v H'
def lT (Γ:Gz) (p:cW):TT:=fun σ H Q=>∃(β:Bz) (ρ:aA) (M:Mh) (Q':Bool->Mh->Prop),Zr Γ β M ρ σ H/\p ρ M Q'/\∀b M' H',Ex β M H M' H'->Q' b M'->Q b H'
def lA (Γ:Gz) (p:dI):TA:=fun σ H Q=>∃(β:Bz) (ρ:aA) (M:Mh) (Q':List Dv->Mh->Prop),Zr Γ β M ρ σ H/\p ρ M Q'/\∀ds M' vs H',Ex β M H M' H'->aF β M' H' vs ds->Q' ds M'->Q vs H'
structure Ev (β:Bz) (M:Mh) (H:Hp) (M':Mh) (H':Hp):Prop where
 keep:∀b o,M b=none->H b=some o->H' b=some o\/∃o',Tg o o'/\H' b=some o'
 new:∀a o,M a=none->H a=some o->M' a=none
 mz:Mz β M' H'
theorem Ex.ev {β:Bz} {M M':Mh} {H H':Hp} (x:Ex β M H M' H'):Ev β M H M' H':=⟨x.keep,x.new,x.mz⟩
theorem Ev.refl {β:Bz} {M:Mh} {H:Hp} (m:Mz β M H):Ev β M H M H:=(Ex.refl m).ev
theorem Ev.trans {β:Bz} {M M1 M2:Mh} {H H1 H2:Hp} (x:Ev β M H M1 H1) (y:Ev β M1 H1 M2 H2):Ev β M H M2 H2 :=by
 refine ⟨fun b o hm h=>?_,fun a o hm h=>?_,y.mz⟩
 ·have mK:=x.new b o hm h
  rcases x.keep b o hm h with q|⟨o1,t,q⟩
  ·exact y.keep b o mK q
  ·rcases y.keep b _ mK q with q2|⟨o2,t2,q2⟩
   ·exact .inr ⟨o1,t,q2⟩
   ·exact .inr ⟨o2,t.trans t2,q2⟩
 ·have mK:=x.new a o hm h
  rcases x.keep a o hm h with q|⟨o1,t,q⟩
  ·exact y.new a _ mK q
  ·exact y.new a _ mK q
structure yc (Γ:Gz) (β:Bz) (M:Mh) (H:Hp) (D':fy) (D:Ends):Prop where
 nx:∀bS M' aI H',Ev β M H M' H'->Zr Γ β M' bS aI H'->D'.nx bS M'->D.nx aI H'
 rt:∀d M' v H',Ev β M H M' H'->Ey Γ.M0 Γ.H0 M' H'->Rz β M' H' v d->D'.rt d M'->D.rt v H'
 bk:∀bS M' aI H',Ev β M H M' H'->Zr Γ β M' bS aI H'->D'.bk bS M'->D.bk aI H'
 ct:∀bS M' aI H',Ev β M H M' H'->Zr Γ β M' bS aI H'->D'.ct bS M'->D.ct aI H'
theorem yc.step {Γ:Gz} {β:Bz} {M M1:Mh} {H H1:Hp} {D':fy} {D:Ends} (r:yc Γ β M H D' D) (x:Ev β M H M1 H1):yc Γ β M1 H1 D' D:=
 ⟨fun a b c d y=>r.nx a b c d (x.trans y),fun a b c d y=>r.rt a b c d (x.trans y),fun a b c d y=>r.bk a b c d (x.trans y),fun a b c d y=>r.ct a b c d (x.trans y)⟩
def lS (Γ:Gz) (p:b9):TS:=fun D σ H=>∃(β:Bz) (ρ:aA) (M:Mh) (D':fy),Zr Γ β M ρ σ H/\p D' ρ M/\yc Γ β M H D' D
def lG (Γ:Gz) (p:cS):TG:=fun x σ H N=>∃(β:Bz) (d:Dv) (ρ:aA) (M:Mh) (N':aA->Mh->Prop),Zr Γ β M ρ σ H/\Rz β M H x d/\p d ρ M N'/\∀bS M' aI H',Ex β M H M' H'->Zr Γ β M' bS aI H'->N' bS M'->N aI H'
def QD (Γ:Gz) (p:mL):oY:=fun xs σ H N=>∃(β:Bz) (ds:List Dv) (ρ:aA) (M:Mh) (N':aA->Mh->Prop),Zr Γ β M ρ σ H/\aF β M H xs ds/\p ds ρ M N'/\∀bS M' aI H',Ex β M H M' H'->Zr Γ β M' bS aI H'->N' bS M'->N aI H'
def Ac (β:Bz) (J:It) (ds:List Dv) (M:Mh) (H:Hp):Prop:=∀cO M' H',Bx β cO H->Ey M H M' H'->Mz cO M' H'->∀i,(i<ds.length->J.go i H'/\∀x mM,J.yld i H' x mM->Ex cO M' H' M' mM/\∃d,ds[i]?=some d/\Rz cO M' mM x d)/\(ds.length<=i->J.stop i H')
def lI (Γ:Gz) (p:ft):TI:=fun σ H R=>∃(β:Bz) (ρ:aA) (M:Mh) (R':List Dv->Mh->Prop),Zr Γ β M ρ σ H/\p ρ M R'/\∀ds M' H' J,Ex β M H M' H'->Ac β J ds M' H'->R' ds M'->R J H'
abbrev QE (Γ:Gz) (X:Cx) (e:ci) (p:aH):Prop:=PE X e (lE Γ p)
abbrev QT (Γ:Gz) (X:Cx) (e:ci) (p:cW):Prop:=PT X e (lT Γ p)
abbrev QW (Γ:Gz) (X:Cx) (e:ci) (p:cW):Prop:=PW X e (lT Γ p)
abbrev QA (Γ:Gz) (X:Cx) (es:List ci) (p:dI):Prop:=PA X es (lA Γ p)
abbrev QS (Γ:Gz) (X:Cx) (s:mv) (p:b9):Prop:=PS X s (lS Γ p)
abbrev md (Γ:Gz) (X:Cx) (s:List mv) (p:b9):Prop:=fP X s (lS Γ p)
abbrev QG (Γ:Gz) (X:Cx) (e:ci) (p:cS):Prop:=PG X e (lG Γ p)
abbrev En (Γ:Gz) (X:Cx) (e:List ci) (p:mL):Prop:=qU X e (QD Γ p)
abbrev QI (Γ:Gz) (X:Cx) (tg e:ci) (p:ft):Prop:=PI X tg e (lI Γ p)
section
variable {X:Cx}
theorem PE.imp {e:ci} {t t':TE} (h:PE X e t) (i:∀σ H Q,t' σ H Q->t σ H Q):PE X e t':=⟨fun pins s σ H Q I q=>h pins s σ H Q I (i _ _ _ q)⟩
theorem PT.imp {e:ci} {t t':TT} (h:PT X e t) (i:∀σ H Q,t' σ H Q->t σ H Q):PT X e t':=⟨fun pins s σ H Q I q=>h pins s σ H Q I (i _ _ _ q)⟩
theorem PW.imp {e:ci} {t t':TT} (h:PW X e t) (i:∀σ H Q,t' σ H Q->t σ H Q):PW X e t':=fun wh pins s σ H Q I q=>h wh pins s σ H Q I (i _ _ _ q)
theorem PA.imp {e:List ci} {t t':TA} (h:PA X e t) (i:∀σ H Q,t' σ H Q->t σ H Q):PA X e t':=⟨fun pos pins s σ H Q I q=>h pos pins s σ H Q I (i _ _ _ q)⟩
theorem PS.imp {e:mv} {t t':TS} (h:PS X e t) (i:∀D σ H,t' D σ H->t D σ H):PS X e t':=⟨fun pins s σ H D I q=>h pins s σ H D I (i _ _ _ q)⟩
theorem fP.imp {e:List mv} {t t':TS} (h:fP X e t) (i:∀D σ H,t' D σ H->t D σ H):fP X e t':=⟨fun pins s σ H D I q=>h pins s σ H D I (i _ _ _ q)⟩
theorem PG.imp {e:ci} {t t':TG} (h:PG X e t) (i:∀v σ H Q,t' v σ H Q->t v σ H Q):PG X e t':=fun pins s σ H v u Q I r q=>h pins s σ H v u Q I r (i _ _ _ _ q)
theorem qU.imp {e:List ci} {t t':oY} (h:qU X e t) (i:∀v σ H Q,t' v σ H Q->t v σ H Q):qU X e t':=fun pins s σ H v u Q I r q=>h pins s σ H v u Q I r (i _ _ _ _ q)
theorem PI.imp {tg e:ci} {t t':TI} (h:PI X tg e t) (i:∀σ H Q,t' σ H Q->t σ H Q):PI X tg e t':=fun pins s σ H Q I q=>h pins s σ H Q I (i _ _ _ q)
theorem ik.imp {e:List ci} {t t':TT} (h:ik X e t) (i:∀σ H Q,t' σ H Q->t σ H Q):ik X e t':=fun pins s σ H Q I q=>h pins s σ H Q I (i _ _ _ q)
variable {Γ:Gz} {a b c:ci} {pa pb pc:aH} {pos:rf}
def zVar (i:Nat):aH:=fun ρ M Q=>match ρ[i]? with|some (some d)=>Q d M|_=>False
def zC (d:Dv):aH:=fun _ M Q=>Q d M
theorem Jh {i:Nat} {x:ba} (hN:X.N[i]?=some x) (hv:oV X.env.scope x) (hd:(x==("__debug__" : ba))=false :=by decide) (dH:(x==("__classdict__" : ba))=false :=by decide):QE Γ X (.Name x pos) (zVar i):=
 (tu hN hv hd dH).imp fun σ H Q ⟨β,ρ,M,Q',z,h,q⟩=>by
  unfold zVar at h
  split at h
  ·rename_i d e
   obtain ⟨v,e2,r⟩:=z.at' i d e
   exact ⟨v,e2,q d M v H (.refl z.mz) r h⟩
  ·exact h.elim
theorem qc {e:ci} {v:V} {d:Dv} (h:PE X e (tC v)) (r:∀β M H,Rz β M H v d):QE Γ X e (zC d):=h.imp fun σ H Q ⟨β,ρ,M,Q',z,h,q⟩=>q d M v H (.refl z.mz) (r β M H) h
theorem av {i j pos}:QE Γ X (.Constant (.int i) j pos) (zC (.int i)):=qc G4 fun _ _ _=>.int _
theorem fA {b j pos}:QE Γ X (.Constant (.bool b) j pos) (zC (.bl b)):=qc Lg fun _ _ _=>.bl _
theorem ko {j pos}:QE Γ X (.Constant .none j pos) (zC .aB):=qc G5 fun _ _ _=>.aB
theorem mO {x j pos}:QE Γ X (.Constant (.str x) j pos) (zC (.str x)):=qc G6 fun _ _ _=>.str _
theorem ur {x:ba} {i:Int} {u:ag} (hg:Gl X x) (hm:X.mg x=some u) (r:RelV (.int i) u) (hd:(x==("__debug__" : ba))=false :=by decide):QE Γ X (.Name x pos) (zC (.int i)):=qc (wm hg hm r hd) fun _ _ _=>.int _
theorem oA {x z:ba} {u:ag} (hg:Gl X x) (hm:X.mg x=some u) (r:RelV (.str z) u) (hd:(x==("__debug__" : ba))=false :=by decide):QE Γ X (.Name x pos) (zC (.str z)):=qc (wm hg hm r hd) fun _ _ _=>.str _
theorem kr {x:ba} {v:V} {u:ag} (hg:Gl X x) (hm:X.mg x=none) (hv:bootBuiltins x=some u) (r:RelV v u) (hn:x ≠ "__name__" := by decide) (hd:(x==("__debug__" : ba))=false :=by decide):QE Γ X (.Name x pos) (zC (.raw v)):=qc (E8 hg hm hv r hn hd) fun _ _ _=>.raw _
abbrev eG:=Dv->Dv->Mh->ZK->Prop
def rM (Γ:Gz) (r:R2) (z:eG):Prop:=∀(β:Bz) x y d e M H Q Q',β.P=Γ.P->β.w=Γ.w->β.K=Γ.K->Mz β M H->Rz β M H x d->Rz β M H y e->z d e M Q'->(∀d' M' v H',Ex β M H M' H'->Rz β M' H' v d'->Q' d' M'->Q v H')->r x y H Q
def eB (Γ:Gz) (X:Cx) (f:ag->ag->T5 ag) (z:eG):Prop:=∃r,OpR X f r/\rM Γ r z
def zOp (z:eG) (pa pb:aH):aH:=fun ρ M Q=>pa ρ M fun d M1=>pb ρ M1 fun e M2=>z d e M2 Q
theorem ye {r:R2} {z:eG} (hz:rM Γ r z) {σ:St} {H:Hp} {Q:VK} (h:lE Γ (zOp z pa pb) σ H Q):zh r (lE Γ pa) (lE Γ pb) σ H Q :=by
 obtain ⟨β,ρ,M,Q',zr,h,q⟩:=h
 exact ⟨β,ρ,M,_,zr,h,fun d M1 v H1 x1 r1 h1=>⟨β,ρ,M1,_,zr.step x1,h1,fun e M2 u H2 x2 r2 h2=>hz β v u d e M2 H2 Q Q' zr.eP zr.ew zr.eK x2.mz (r1.ex x2) r2 h2 fun d' M' v' H' x3 r3 q3=>q _ _ _ _ (x1.trans (x2.trans x3)) r3 q3⟩⟩
theorem a8 {op:Operator} {z:eG} (ho:eB Γ X (binaryOp op) z) (ha:QE Γ X a pa) (hb:QE Γ X b pb):QE Γ X (.BinOp a op b pos) (zOp z pa pb) :=by
 obtain ⟨r,h1,h2⟩:=ho
 exact (Lr h1 ha hb).imp fun σ H Q h=>ye h2 h
theorem iZ {op:Re} {z:eG} (ho:eB Γ X (compareOp op) z) (ha:QE Γ X a pa) (hb:QE Γ X b pb) (hm:behindInMarks op b=false):QE Γ X (.Compare a [op] [b] pos) (zOp z pa pb) :=by
 obtain ⟨r,h1,h2⟩:=ho
 exact (Fj h1 ha hb hm).imp fun σ H Q h=>ye h2 h
def zBool (Q:Bool->Mh->Prop):ZK:=fun d M=>match d with | .bl k=>Q k M|_=>False
theorem jl {Q:Bool->Mh->Prop} {d:Dv} {M:Mh} (h:zBool Q d M):∃k,d=.bl k/\Q k M :=by
 unfold zBool at h
 split at h
 ·exact ⟨_,rfl,h⟩
 ·exact h.elim
def zTest (p:aH):cW:=fun ρ M Q=>p ρ M (zBool Q)
theorem uv {p:aH} {t:TE} (i:∀σ H Q,lE Γ p σ H Q->t σ H Q) {σ:St} {H:Hp} {Q:Bool->Hp->Prop} (h:lT Γ (zTest p) σ H Q):xB t σ H Q :=by
 obtain ⟨β,ρ,M,Q',zr,h,q⟩:=h
 refine i _ _ _ ⟨β,ρ,M,_,zr,h,fun d M1 v H1 x1 r1 h1=>?_⟩
 obtain ⟨k,rfl,h2⟩:=jl h1
 exact ⟨k,dE r1,q k M1 H1 x1 h2⟩
theorem bt {op:Re} {z:eG} (ho:eB Γ X (compareOp op) z) (ha:QE Γ X a pa) (hb:QE Γ X b pb) (hm:behindInMarks op b=false):QT Γ X (.Compare a [op] [b] pos) (zTest (zOp z pa pb)) :=by
 obtain ⟨r,h1,h2⟩:=ho
 exact (Fl h1 ha hb hm).imp fun σ H Q h=>uv (fun _ _ _=>ye h2) h
theorem fu {e:ci} {p:aH} (h:QE Γ X e p) (he:∀whole,isTrue e X.env whole=(do let v <- whole;standAt e.pos;holding [v] (truthy v)) :=by intro _;rfl):QT Γ X e (zTest p):=
 (G7 h he).imp fun σ H Q h=>uv (fun _ _ _ h=>h) h
def zChain (z z':eG) (pa pb pc:aH):aH:=fun ρ M Q=>pa ρ M fun x M1=>pb ρ M1 fun y M2=>z x y M2 (zBool fun k M3=>if k=true then pc ρ M3 fun u M4=>z' y u M4 Q else Q (.bl false) M3)
theorem wN {r r':R2} {z z':eG} (hz:rM Γ r z) (QF:rM Γ r' z') {σ:St} {H:Hp} {Q:VK} (h:lE Γ (zChain z z' pa pb pc) σ H Q):tJ r r' (lE Γ pa) (lE Γ pb) (lE Γ pc) σ H Q :=by
 obtain ⟨β,ρ,M,Q',zr,h,q⟩:=h
 refine ⟨β,ρ,M,_,zr,h,fun d M1 v H1 x1 r1 h1=>⟨β,ρ,M1,_,zr.step x1,h1,fun e M2 u H2 x2 r2 h2=>hz β v u d e M2 H2 _ _ zr.eP zr.ew zr.eK x2.mz (r1.ex x2) r2 h2 fun d' M3 v' H3 x3 r3 h3=>?_⟩⟩
 obtain ⟨k,rfl,h4⟩:=jl h3
 have wO:=x1.trans (x2.trans x3)
 refine ⟨k,dE r3,?_⟩
 cases k with
 |true=>
  rw [if_pos rfl] at h4 ⊢
  exact ⟨β,ρ,M3,_,zr.step wO,h4,fun f M4 g H4 x4 r4 h5=>QF β u g e f M4 H4 _ _ zr.eP zr.ew zr.eK x4.mz ((r2.ex x3).ex x4) r4 h5 fun d5 M5 v5 H5 x5 r5 q5=>q _ _ _ _ (wO.trans (x4.trans x5)) r5 q5⟩
 |false=>
  rw [if_neg ij] at h4 ⊢
  exact q _ _ _ _ wO (.bl _) h4
theorem CU {op jb:Re} {z z':eG} (ho:eB Γ X (compareOp op) z) (gL:eB Γ X (compareOp jb) z') (ha:QE Γ X a pa) (hb:QE Γ X b pb) (hc:QE Γ X c pc) (hm:lastMarks [op,jb] [b,c]=false :=by with_unfolding_all rfl) :
  QE Γ X (.Compare a [op,jb] [b,c] pos) (zChain z z' pa pb pc) :=by
 obtain ⟨r,h1,h2⟩:=ho
 obtain ⟨r',Ad,Ae⟩:=gL
 exact (B8 h1 Ad ha hb hc hm).imp fun σ H Q h=>wN h2 Ae h
theorem CV {op jb:Re} {z z':eG} (ho:eB Γ X (compareOp op) z) (gL:eB Γ X (compareOp jb) z') (ha:QE Γ X a pa) (hb:QE Γ X b pb) (hc:QE Γ X c pc) (hm:lastMarks [op,jb] [b,c]=false :=by with_unfolding_all rfl) :
  QT Γ X (.Compare a [op,jb] [b,c] pos) (zTest (zChain z z' pa pb pc)) :=by
 obtain ⟨r,h1,h2⟩:=ho
 obtain ⟨r',Ad,Ae⟩:=gL
 exact (B9 h1 Ad ha hb hc hm).imp fun σ H Q h=>uv (fun _ _ _=>wN h2 Ae) h
variable {tA oX:cW} {rest:List ci}
def zAnd (t u:cW):cW:=fun ρ M Q=>t ρ M fun c M1=>if c=true then u ρ M1 Q else Q false M1
def zOr (t u:cW):cW:=fun ρ M Q=>t ρ M fun c M1=>if c=true then Q true M1 else u ρ M1 Q
def zNot (t:cW):cW:=fun ρ M Q=>t ρ M fun c M1=>Q (!c) M1
theorem qu (ha:QT Γ X a tA):QW Γ X (.BoolOp .And [a] pos) tA:=E9 ha
theorem mP (ha:QT Γ X a tA):QW Γ X (.BoolOp .Or [a] pos) tA:=G8 ha
theorem uw (ha:QT Γ X a tA) (hb:QW Γ X (.BoolOp .And (b::rest) pos) oX):QW Γ X (.BoolOp .And (a::b::rest) pos) (zAnd tA oX):=
 (G9 ha hb).imp fun σ H Q ⟨β,ρ,M,Q',zr,h,q⟩=>⟨β,ρ,M,_,zr,h,fun k M1 H1 x1 h1=>by
  cases k with
  |true=>rw [if_pos rfl] at h1 ⊢;exact ⟨β,ρ,M1,_,zr.step x1,h1,fun k2 M2 H2 x2 h2=>q _ _ _ (x1.trans x2) h2⟩
  |false=>rw [if_neg ij] at h1 ⊢;exact q _ _ _ x1 h1⟩
theorem pG (ha:QT Γ X a tA) (hb:QW Γ X (.BoolOp .Or (b::rest) pos) oX):QW Γ X (.BoolOp .Or (a::b::rest) pos) (zOr tA oX):=
 (Lh ha hb).imp fun σ H Q ⟨β,ρ,M,Q',zr,h,q⟩=>⟨β,ρ,M,_,zr,h,fun k M1 H1 x1 h1=>by
  cases k with
  |false=>rw [if_neg ij] at h1 ⊢;exact ⟨β,ρ,M1,_,zr.step x1,h1,fun k2 M2 H2 x2 h2=>q _ _ _ (x1.trans x2) h2⟩
  |true=>rw [if_pos rfl] at h1 ⊢;exact q _ _ _ x1 h1⟩
theorem gu (ha:QT Γ X a tA):QT Γ X (.UnaryOp .Not a pos) (zNot tA):=(Ha ha).imp fun σ H Q ⟨β,ρ,M,Q',zr,h,q⟩=>⟨β,ρ,M,_,zr,h,fun k M1 H1 x1 h1=>q _ _ _ x1 h1⟩
theorem QW.pt {e:ci} {t:cW} (h:QW Γ X e t):QT Γ X e t:=PW.pt h
def zAndV (pa pb:aH):aH:=fun ρ M Q=>pa ρ M (zBool fun c M1=>if c=true then pb ρ M1 Q else Q (.bl false) M1)
def zNotV (pa:aH):aH:=fun ρ M Q=>pa ρ M (zBool fun c M1=>Q (.bl (!c)) M1)
theorem ux {op} (h:QE Γ X a pa):QE Γ X (.BoolOp op [a] pos) pa:=Hb h
theorem uy (ha:QE Γ X a pa) (hb:QE Γ X (.BoolOp .And (b::rest) pos) pb):QE Γ X (.BoolOp .And (a::b::rest) pos) (zAndV pa pb):=
 (Hc ha hb).imp fun σ H Q ⟨β,ρ,M,Q',zr,h,q⟩=>⟨β,ρ,M,_,zr,h,fun d M1 v H1 x1 r1 h1=>by
  obtain ⟨k,rfl,h2⟩:=jl h1
  refine ⟨k,dE r1,?_⟩
  cases k with
  |true=>rw [if_pos rfl] at h2 ⊢;exact ⟨β,ρ,M1,_,zr.step x1,h2,fun d2 M2 v2 H2 x2 r2 h2=>q _ _ _ _ (x1.trans x2) r2 h2⟩
  |false=>rw [if_neg ij] at h2 ⊢;exact q _ _ _ _ x1 (.bl _) h2⟩
theorem Ji (ha:QE Γ X a pa):QE Γ X (.UnaryOp .Not a pos) (zNotV pa):=(Hd ha).imp fun σ H Q ⟨β,ρ,M,Q',zr,h,q⟩=>⟨β,ρ,M,_,zr,h,fun d M1 v H1 x1 r1 h1=>by
  obtain ⟨k,rfl,h2⟩:=jl h1
  exact ⟨k,dE r1,q _ _ _ _ x1 (.bl _) h2⟩⟩
def zNil:dI:=fun _ M Q=>Q [] M
def zCons (p:aH) (r:dI):dI:=fun ρ M Q=>p ρ M fun d M1=>r ρ M1 fun ds M2=>Q (d::ds) M2
variable {es:List ci} {za:dI}
theorem ae:QA Γ X [] zNil:=HF.imp fun σ H Q ⟨β,ρ,M,Q',zr,h,q⟩=>q [] M [] H (.refl zr.mz) .nil h
theorem aa {e:ci} (ha:QE Γ X e pa) (hr:QA Γ X es za) (hs:starEach (e::es) X.env=(false,eval e X.env)::starEach es X.env :=by rfl):QA Γ X (e::es) (zCons pa za):=
 (nA ha hr hs).imp fun σ H Q ⟨β,ρ,M,Q',zr,h,q⟩=>⟨β,ρ,M,_,zr,h,fun d M1 v H1 x1 r1 h1=>⟨β,ρ,M1,_,zr.step x1,h1,fun ds M2 vs H2 x2 r2 h2=>q _ _ _ _ (x1.trans x2) (.cons (r1.ex x2) r2) h2⟩⟩
def zTup (p:dI):aH:=fun ρ M Q=>p ρ M fun ds M1=>ds.length<=sizeLine/\Q (.tup ds) M1
def zLst (p:dI):aH:=fun ρ M Q=>p ρ M fun ds M1=>ds.length<=sizeLine/\Q (.lst ds) M1
def zLstP (p:dI):aH:=fun ρ M Q=>p ρ M fun ds M1=>ds.length<=sizeLine/\∀a,M1 a=none->Q (.ptr a) (au M1 a (.lst ds))
theorem fv {x1} (h:QA Γ X es za):QE Γ X (.Tuple es x1 pos) (zTup za):=(HG h).imp fun σ H Q ⟨β,ρ,M,Q',zr,h,q⟩=>⟨β,ρ,M,_,zr,h,fun ds M1 vs H1 x1 r1 h1=>⟨by rw [r1.len];exact h1.1,fun p hp=>by
  have x2:=Ex.lay x1.mz hp (.tup vs)
  exact q _ _ _ _ (x1.trans x2) (jj (x1.mz.fz hp) ax (r1.ex x2)) h1.2⟩⟩
theorem Jj (h:QA Γ X es za):QE Γ X (.List es pos) (zLst za):=(zq h).imp fun σ H Q ⟨β,ρ,M,Q',zr,h,q⟩=>⟨β,ρ,M,_,zr,h,fun ds M1 vs H1 x1 r1 h1=>⟨by rw [r1.len];exact h1.1,fun p hp=>by
  have x2:=Ex.lay x1.mz hp (.lst vs)
  exact q _ _ _ _ (x1.trans x2) (uq (x1.mz.fz hp) ax (r1.ex x2)) h1.2⟩⟩
theorem ku (h:QA Γ X es za):QE Γ X (.List es pos) (zLstP za):=(zq h).imp fun σ H Q ⟨β,ρ,M,Q',zr,h,q⟩=>⟨β,ρ,M,_,zr,h,fun ds M1 vs H1 x1 r1 h1=>⟨by rw [r1.len];exact h1.1,fun p hp=>by
  have x2:=Ex.own x1.mz (.inr hp) r1
  exact q _ _ _ _ (x1.trans x2) (.ptr (by rw [updM_same];rfl)) (h1.2 p (x1.mz.free hp))⟩⟩
abbrev rN:=List Dv->Mh->ZK->Prop
def Eo (Γ:Gz) (r:List V->Hp->VK->Prop) (z:rN):Prop:=∀(β:Bz) xs ds M H Q Q',β.P=Γ.P->β.w=Γ.w->β.K=Γ.K->Mz β M H->aF β M H xs ds->z ds M Q'->(∀d' M' v H',Ex β M H M' H'->Rz β M' H' v d'->Q' d' M'->Q v H')->r xs H Q
def fB (Γ:Gz) (X:Cx) (f:ag) (z:rN):Prop:=∃r,dA X f r/\Eo Γ r z
def zCB (z:rN) (p:dI):aH:=fun ρ M Q=>p ρ M fun ds M1=>z ds M1 Q
theorem Jk {r:List V->Hp->VK->Prop} {z:rN} (hz:Eo Γ r z) {σ:St} {H:Hp} {Q:VK} (h:lE Γ (zCB z za) σ H Q):HI r (lA Γ za) σ H Q :=by
 obtain ⟨β,ρ,M,Q',zr,h,q⟩:=h
 exact ⟨β,ρ,M,_,zr,h,fun ds M1 vs H1 x1 r1 h1=>hz β vs ds M1 H1 _ _ zr.eP zr.ew zr.eK x1.mz r1 h1 fun d' M' v' H' x2 r2 q2=>q _ _ _ _ (x1.trans x2) r2 q2⟩
variable {st:mv} {ND:List mv} {p p2:b9} {e:ci} {pe:aH}
def zNext:b9:=fun D ρ M=>D.nx ρ M
def zSeq (p q:b9):b9:=fun D ρ M=>p {D with nx:=q D} ρ M
theorem qss_nil:md Γ X [] zNext:=Fb.imp fun D σ H ⟨β,ρ,M,D',zr,h,r⟩=>r.nx ρ M σ H (.refl zr.mz) zr h
theorem ai (h1:QS Γ X st p) (h2:md Γ X ND p2):md Γ X (st::ND) (zSeq p p2):=(BZ h1 h2).imp fun D σ H ⟨β,ρ,M,D',zr,h,r⟩=>
 ⟨β,ρ,M,_,zr,h,fun bS M' aI H' x gv h'=>⟨β,bS,M',D',gv,h',r.step x⟩,r.rt,r.bk,r.ct⟩
theorem aq (h1:QS Γ X st p):md Γ X [st] p:=Fc h1
def zDrop (p:aH):b9:=fun D ρ M=>p ρ M fun _ M1=>D.nx ρ M1
theorem c9 (he:QE Γ X e pe) (hs:swapsWith e none pos.line X.env=pure false :=by rfl):QS Γ X (.Expr e pos) (zDrop pe):=(Fd he hs).imp fun D σ H ⟨β,ρ,M,D',zr,h,r⟩=>
 ⟨β,ρ,M,_,zr,h,fun d M1 v H1 x1 r1 h1=>r.nx ρ M1 σ H1 x1.ev (zr.step x1) h1⟩
def zRet (p:aH):b9:=fun D ρ M=>p ρ M D.rt
theorem a9 (he:QE Γ X e pe):QS Γ X (.Return (some e) pos) (zRet pe):=(He he).imp fun D σ H ⟨β,ρ,M,D',zr,h,r⟩=>⟨β,ρ,M,_,zr,h,fun d M' v H' x r1 h1=>r.rt _ _ _ _ x.ev (zr.ent.trans x.toEy) r1 h1⟩
def zIfS (c:cW) (p q:b9):b9:=fun D ρ M=>c ρ M fun b M1=>if b=true then p D ρ M1 else q D ρ M1
theorem cw {as bs:List mv} {pa pb:b9} (hc:QT Γ X c tA) (ha:md Γ X as pa) (hb:md Γ X bs pb):QS Γ X (.If c as bs pos) (zIfS tA pa pb):=(Lp hc ha hb).imp fun D σ H ⟨β,ρ,M,D',zr,h,r⟩=>
 ⟨β,ρ,M,_,zr,h,fun k M1 H1 x1 h1=>by
  cases k with
  |true=>rw [if_pos rfl] at h1 ⊢;exact ⟨β,ρ,M1,D',zr.step x1,h1,r.step x1.ev⟩
  |false=>rw [if_neg ij] at h1 ⊢;exact ⟨β,ρ,M1,D',zr.step x1,h1,r.step x1.ev⟩⟩
def zgName (i:Nat):cS:=fun d ρ M N=>N (ρ.set i (some d)) M
theorem aN {i:Nat} {x:ba} (hN:X.N.Nodup) (hi:X.N[i]?=some x) (hx:Loc X.env.scope x) (hf:X.fn x=true\/X.env.scope.names.lookup x=some .local :=by first|exact .inl rfl|exact .inr rfl|assumption):QG Γ X (.Name x pos) (zgName i):=
 (Fe hN hi hx hf).imp fun v σ H N ⟨β,d,ρ,M,N',zr,r,h,q⟩=>q _ _ _ _ (.refl zr.mz) (zr.set i r) h
def zgNil:mL:=fun ds ρ M N=>match ds with | []=>N ρ M|_=>False
def zgCons (g:cS) (u:mL):mL:=fun ds ρ M N=>match ds with|d::r=>g d ρ M fun bS M'=>u r bS M' N | []=>False
theorem wQ:En Γ X [] zgNil:=Ff.imp fun vs σ H N ⟨β,ds,ρ,M,N',zr,r,h,q⟩=>by
 unfold zgNil at h
 split at h
 ·have e:vs=[]:=List.length_eq_zero_iff.mp r.len
  exact ⟨e,q _ _ _ _ (.refl zr.mz) zr h⟩
 ·exact h.elim
theorem k4 {g:cS} {u:mL} (h1:QG Γ X e g) (h2:En Γ X es u) (hs:(assignEach (e::es) X.env).map (·.2)=assign e X.env::(assignEach es X.env).map (·.2) :=by rfl):En Γ X (e::es) (zgCons g u):=
 (B2 h1 h2 hs).imp fun vs σ H N ⟨β,ds,ρ,M,N',zr,r,h,q⟩=>by
  unfold zgCons at h
  split at h
  ·rename_i d rest
   cases vs with
   |nil=>exact absurd r.len (by simp)
   |cons v vs=>exact ⟨v,vs,rfl,β,d,ρ,M,_,zr,r.head,h,fun bS M' aI H' x gv h'=>⟨β,rest,bS,M',N',gv,r.tail.ex x,h',fun a b c d y=>q a b c d (x.trans y)⟩⟩
  ·exact h.elim
def zgTup (n:Nat) (u:mL):cS:=fun d ρ M N=>match d with | .tup ds=>ds.length=n/\u ds ρ M N|_=>False
theorem Af {k:Nat} {u:mL} {n:Nat} (hc:X.calm=true) (h:En Γ X es u) (hn:(assignEach es X.env).length=n :=by rfl) (qV:(assignEach es X.env).findIdx? (·.1)=none :=by rfl):QG Γ X (.Tuple es k pos) (zgTup n u):=
 (Hg hc h hn qV).imp fun v σ H N ⟨β,d,ρ,M,N',zr,r,h,q⟩=>by
  unfold zgTup at h
  split at h
  ·obtain ⟨a,vs,rfl,m,e,rs⟩:=dB r
   exact ⟨a,vs,rfl,dh.of e,by rw [rs.len];exact h.1,β,_,ρ,M,N',zr,rs,h.2,q⟩
  ·exact h.elim
def zAsg (p:aH) (g:cS):b9:=fun D ρ M=>p ρ M fun d M1=>g d ρ M1 D.nx
theorem L3 {g:cS} {D:Ends} {σ:St} {H:Hp} (h:lS Γ (zAsg pe g) D σ H):tE (lE Γ pe) (lG Γ g) D σ H :=by
 obtain ⟨β,ρ,M,D',zr,h,r⟩:=h
 exact ⟨β,ρ,M,_,zr,h,fun d M1 v H1 x1 r1 h1=>⟨β,d,ρ,M1,D'.nx,zr.step x1,r1,h1,fun bS M' aI H' x gv h'=>r.nx _ _ _ _ (x1.trans x).ev gv h'⟩⟩
theorem mQ {tg:ci} {g:cS} (he:QE Γ X e pe) (hg:QG Γ X tg g) (hs:swapsWithSole [tg] e pos.line X.env=pure false :=by rfl) (hw:swappedStores [tg] e X.env=pure none :=by rfl)
  (h1:(assignEach [tg] X.env).map (·.2)=[assign tg X.env] :=by rfl):QS Γ X (.Assign [tg] e pos) (zAsg pe g):=(Hi he hg hs hw h1).imp fun D σ H h=>L3 h
theorem yf {t:TE} (i:∀σ H Q,lE Γ pe σ H Q->t σ H Q) {n:Nat} {D:Ends} {σ:St} {H:Hp} (h:lS Γ (zAsg pe (zgName n)) D σ H):tE t (sQ n) D σ H :=by
 obtain ⟨β,ρ,M,D',zr,h,r⟩:=h
 exact i _ _ _ ⟨β,ρ,M,_,zr,h,fun d M1 v H1 x1 r1 h1=>r.nx _ _ _ _ x1.ev ((zr.step x1).set n r1) h1⟩
theorem aJ {i:Nat} {x:ba} {pos':rf} (hN:X.N.Nodup) (hi:X.N[i]?=some x) (hx:Loc X.env.scope x) (he:QE Γ X e pe) (hs:swapsWith e (some (.Name x pos')) pos.line X.env=pure false :=by rfl) (hf:X.fn x=true\/X.env.scope.names.lookup x=some .local :=by first|exact .inl rfl|exact .inr rfl|assumption) :
  QS Γ X (.Assign [.Name x pos'] e pos) (zAsg pe (zgName i)):=(Hj hN hi hx he hs hf).imp fun D σ H h=>yf (fun _ _ _ h=>h) h
end
section
variable {X:Cx} {Γ:Gz} {β:Bz}
def ziTup (p:aH):ft:=fun ρ M R=>p ρ M fun d M1=>match d with | .tup ds=>R ds M1|_=>False
def ziLst (p:aH):ft:=fun ρ M R=>p ρ M fun d M1=>match d with | .lst ds=>R ds M1|_=>False
def gy (z:ba):List Dv:=z.cps.toList.map fun c=>.str ⟨#[c]⟩
def ziStr (p:aH):ft:=fun ρ M R=>p ρ M fun d M1=>match d with | .str z=>R (gy z) M1|_=>False
def cD (lo:Int) (n:Nat):List Dv:=(on n).map fun i=>.int (lo+(i:Nat))
def ziRng1 (p:dI):ft:=fun ρ M R=>p ρ M fun ds M1=>match ds with | [.int j] => -(2 ^ 62)<=j/\j<2 ^ 62/\R (cD 0 j.toNat) M1|_=>False
theorem gT {J:It} {vs:List V} {ds:List Dv} {M:Mh} {H:Hp} (r:aF β M H vs ds) (h:∀M' H',Ey M H M' H'->Runs J vs H'):Ac β J ds M H:=fun cO M' H' bx x m i=>by
 have q:=h M' H' x i
 rw [<- r.len]
 refine ⟨fun hi=>⟨(q.1 hi).1,fun v mM y=>?_⟩,q.2⟩
 obtain ⟨e,hv⟩:=(q.1 hi).2 v mM y
 subst e
 obtain ⟨d,hd,rd⟩:=r.get' hv
 exact ⟨.refl m,d,hd,(rd.bx bx).ey x⟩
variable {tg l:ci} {p:aH} {pa:dI} {K:ar}
theorem pH (hK:X.K=K) (hl:QE Γ X l p):QI Γ X tg l (ziTup p):=(FA hK hl).imp fun σ H R ⟨β,ρ,M,R',zr,h,q⟩=>⟨β,ρ,M,_,zr,h,fun d M1 v H1 x1 r1 h1=>by
 revert h1
 split
 ·intro h1
  obtain ⟨a,vs,rfl,m,e,rs⟩:=dB r1
  exact ⟨a,rfl,⟨_,dh.of e⟩,q _ _ _ _ x1 (gT rs fun M' H' x=>Cy (dh.of (x.get m.1 e rfl))) h1⟩
 ·exact fun h=>h.elim⟩
theorem ky (hK:X.K=K) (hl:QE Γ X l p):QI Γ X tg l (ziLst p):=(CA hK hl).imp fun σ H R ⟨β,ρ,M,R',zr,h,q⟩=>⟨β,ρ,M,_,zr,h,fun d M1 v H1 x1 r1 h1=>by
 revert h1
 split
 ·intro h1
  obtain ⟨a,vs,rfl,m,e,rs⟩:=fV r1
  exact ⟨a,rfl,⟨_,bY.of e⟩,q _ _ _ _ x1 (gT rs fun M' H' x=>zK (bY.of (x.get m.1 e rfl))) h1⟩
 ·exact fun h=>h.elim⟩
theorem Ag {z:ba} {M:Mh} {H:Hp}:aF β M H (jg z) (gy z):=⟨by simp [jg,gy],fun i v d a b=>by
 unfold jg at a
 unfold gy at b
 rw [br] at a b
 cases e:z.cps.toList[i]? with
 |none=>rw [e] at a;cases a
 |some c=>rw [e] at a b;cases a;cases b;exact .str _⟩
theorem Ah (hl:QE Γ X l p):QI Γ X tg l (ziStr p):=(Il hl).imp fun σ H R ⟨β,ρ,M,R',zr,h,q⟩=>⟨β,ρ,M,_,zr,h,fun d M1 v H1 x1 r1 h1=>by
 revert h1
 split
 ·intro h1
  exact ⟨_,bJ r1,q _ _ _ _ x1 (gT Ag fun M' H' x=>Cz) h1⟩
 ·exact fun h=>h.elim⟩
theorem Ai {lo:Int} {n:Nat} {M:Mh} {H:Hp}:aF β M H ((on n).map fun i=>V.int (lo+(i:Nat))) (cD lo n):=⟨by simp [cD],fun i v d a b=>by
 unfold cD at b
 rw [br] at a b
 cases e:(on n)[i]? with
 |none=>rw [e] at a;cases a
 |some c=>rw [e] at a b;cases a;cases b;exact .int _⟩
theorem dz {xs:List V} {d:Dv} {M:Mh} {H:Hp} (r:aF β M H xs [d]):∃v,xs=[v]/\Rz β M H v d :=by
 match xs,r with
 | [v],r=>exact ⟨v,rfl,r.head⟩
 | [],r=>exact absurd r.len (by simp)
 |_::_::_,r=>exact absurd r.len (by simp)
theorem kz {xs:List V} {d e:Dv} {M:Mh} {H:Hp} (r:aF β M H xs [d,e]):∃v u,xs=[v,u]/\Rz β M H v d/\Rz β M H u e :=by
 match xs,r with
 | [v,u],r=>exact ⟨v,u,rfl,r.head,r.tail.head⟩
 | [],r=>exact absurd r.len (by simp)
 | [_],r=>exact absurd r.len (by simp)
 |_::_::_::_,r=>exact absurd r.len (by simp)
section
variable {e e1 e2:ci} {pr pos:rf}
theorem Jl {σ:St} {H:Hp} {R:It->Hp->Prop} (h:lI Γ (ziRng1 pa) σ H R):D2 (lA Γ pa) σ H R :=by
 obtain ⟨β,ρ,M,R',zr,h,q⟩:=h
 refine ⟨β,ρ,M,_,zr,h,fun ds M1 vs H1 x1 r1 h1=>?_⟩
 revert h1
 split
 ·rintro ⟨b1,b2,h1⟩
  obtain ⟨v,rfl,r⟩:=dz r1
  rw [aS r]
  exact ⟨_,rfl,b1,b2,q _ _ _ _ x1 (gT Ai fun M' H' x=>xP) h1⟩
 ·exact fun h=>h.elim
end
def zLoop (g:cS) (tb:b9) (D:fy):List Dv->aA->Mh->Prop
 | [],ρ,M=>D.nx ρ M
 |d::ds,ρ,M=>g d ρ M fun kD M2=>tb {D with nx:=zLoop g tb D ds,ct:=zLoop g tb D ds,bk:=D.nx} kD M2
def zFor (zi:ft) (g:cS) (tb:b9):b9:=fun D ρ M=>zi ρ M fun ds M1=>zLoop g tb D ds ρ M1
def zForM (zi:ft) (g:cS) (tb:Mh->b9):b9:=fun D ρ M=>zi ρ M fun ds M1=>zLoop g (tb M1) D ds ρ M1
theorem Zr.root {M:Mh} {ρ:aA} {σ:St} {H:Hp} (z:Zr Γ β M ρ σ H):Zr ⟨β,M,H⟩ β M ρ σ H:=⟨rfl,rfl,rfl,rfl,fun _ h=>h,z.mz.wf,.refl,z.mz,z.len,z.at'⟩
theorem Zr.Aj {M M1:Mh} {ρ NF:aA} {σ oZ:St} {H H1:Hp} (z:Zr Γ β M ρ σ H) (y:Zr ⟨β,M,H⟩ β M1 NF oZ H1):Zr Γ β M1 NF oZ H1:=⟨z.eP,z.ew,z.eK,z.et,z.sub,z.wf,z.ent.trans y.ent,y.mz,y.len,y.at'⟩
theorem L4 {zi:ft} {g:cS} {tb:Mh->b9} {t:TS} (hb:∀bK:Gz,bK.P=Γ.P->bK.w=Γ.w->bK.K=Γ.K->bK.tb=Γ.tb->∀D σ H,lS bK (tb bK.M0) D σ H->t D σ H) {tg:TG} (hg:∀bK:Gz,bK.P=Γ.P->bK.w=Γ.w->bK.K=Γ.K->bK.tb=Γ.tb->∀x σ H N,lG bK g x σ H N->tg x σ H N) {D:Ends} {σ:St} {H:Hp} (h:lS Γ (zForM zi g tb) D σ H):Hr (lI Γ zi) tg t D σ H :=by
 obtain ⟨β,ρ,M,D',zr,h,r⟩:=h
 refine ⟨β,ρ,M,_,zr,h,fun ds M1 H1 J x1 it h1=>?_⟩
 have jS:=zr.step x1
 refine ⟨fun i m aI H'=>m=ds.length - i/\i<=ds.length/\∃bS M',Zr ⟨β,M1,H1⟩ β M' bS aI H'/\zLoop g (tb M1) D' (ds.drop i) bS M',⟨ds.length,rfl,rb _,ρ,M1,jS.root,h1⟩,?_⟩
 rintro i m aI H' ⟨rfl,hi,bS,M',gv,h'⟩
 have ev:∀{M2:Mh} {kD:aA} {o5:St} {H2:Hp},Zr ⟨β,M1,H1⟩ β M2 kD o5 H2->Ev β M H M2 H2:=fun z=>x1.ev.trans ⟨z.ent.keep,z.ent.new,z.mz⟩
 by_cases bp:i<ds.length
 ·have q:=(it β M' H' .refl gv.ent gv.mz i).1 bp
  refine .inr ⟨q.1,fun o5 H2=>∃kD M2,Zr ⟨β,M1,H1⟩ β M2 kD o5 H2/\zLoop g (tb M1) D' (ds.drop (i+1)) kD M2,fun o5 H2 ⟨kD,M2,Ep,h2⟩=>⟨ds.length - (i+1),by omega,rfl,bp,kD,M2,Ep,h2⟩,fun v mM y=>?_⟩
  obtain ⟨x2,d,hd,rd⟩:=q.2 v mM y
  have e:ds.drop i=d::ds.drop (i+1) :=by
   rw [DD bp]
   rw [bi bp] at hd
   cases hd
   rfl
  rw [e] at h'
  refine hg ⟨β,M1,H1⟩ zr.eP zr.ew zr.eK zr.et _ _ _ _ ⟨β,d,bS,M',_,gv.step x2,rd,h',fun QH M3 lY H3 x3 Jm h3=>hb ⟨β,M1,H1⟩ zr.eP zr.ew zr.eK zr.et _ _ _ ⟨β,QH,M3,_,Jm,h3,?_⟩⟩
  exact ⟨fun pI M4 Ak H4 x4 me h4=>⟨pI,M4,me,h4⟩,fun d4 M4 v4 H4 x4 e4 r4 h4=>r.rt _ _ _ _ (x1.ev.trans ⟨e4.keep,e4.new,x4.mz⟩) (jS.ent.trans e4) r4 h4,fun pI M4 Ak H4 x4 me h4=>r.nx _ _ _ _ (ev me) (jS.Aj me) h4,fun pI M4 Ak H4 x4 me h4=>⟨pI,M4,me,h4⟩⟩
 ·have e:i=ds.length :=by omega
  subst e
  rw [Tc] at h'
  exact .inl ⟨(it β M' H' .refl gv.ent gv.mz _).2 (ce _),r.nx _ _ _ _ (ev gv) (jS.Aj gv) h'⟩
def QJ (Γ:Gz) (p:Mh->b9):TS:=fun D σ H=>∃bK:Gz,bK.P=Γ.P/\bK.w=Γ.w/\bK.K=Γ.K/\bK.tb=Γ.tb/\lS bK (p bK.M0) D σ H
def QK (Γ:Gz) (p:cS):TG:=fun x σ H N=>∃bK:Gz,bK.P=Γ.P/\bK.w=Γ.w/\bK.K=Γ.K/\bK.tb=Γ.tb/\lG bK p x σ H N
theorem wR {body:List mv} {iter:ci} {zi:ft} {g:cS} {tb:Mh->b9} {pos:rf} (hp:Uu (model X.prog X.w) X.A X.env X.xe) (hc:X.calm=true) (hi:QI Γ X tg iter zi)
  (Er:∀(bK:Gz) (M1:Mh),bK.M0=M1->bK.P=Γ.P->bK.w=Γ.w->bK.K=Γ.K->bK.tb=Γ.tb->QG bK X tg g/\md bK X body (tb M1))
  (hs:∀x,foldedSetIterable iter X.env x=pure x :=by intro _;rfl):QS Γ X (.For tg iter body [] pos) (zForM zi g tb):=
 (Hs (g:=QK Γ g) (tb:=QJ Γ tb) hp hc hi (fun pins s σ H v u Q I r h=>by obtain ⟨bK,e1,e2,e3,e4,h⟩:=h;exact (Er bK _ rfl e1 e2 e3 e4).1 pins s σ H v u Q I r h) ⟨fun pins s σ H D I h=>by obtain ⟨bK,e1,e2,e3,e4,h⟩:=h;exact (Er bK _ rfl e1 e2 e3 e4).2 pins s σ H D I h⟩ hs).imp
  fun D σ H h=>L4 (fun bK e1 e2 e3 e4 D σ H h=>⟨bK,e1,e2,e3,e4,h⟩) (fun bK e1 e2 e3 e4 x σ H N h=>⟨bK,e1,e2,e3,e4,h⟩) h
theorem cc {body:List mv} {iter:ci} {zi:ft} {g:cS} {tb:b9} {pos:rf} (hp:Uu (model X.prog X.w) X.A X.env X.xe) (hc:X.calm=true) (hi:QI Γ X tg iter zi)
  (Er:∀bK:Gz,bK.P=Γ.P->bK.w=Γ.w->bK.K=Γ.K->bK.tb=Γ.tb->QG bK X tg g/\md bK X body tb)
  (hs:∀x,foldedSetIterable iter X.env x=pure x :=by intro _;rfl):QS Γ X (.For tg iter body [] pos) (zFor zi g tb):=wR (tb:=fun _=>tb) hp hc hi (fun bK M1 _ e1 e2 e3 e4=>Er bK e1 e2 e3 e4) hs
theorem bw {a:ci} {p pos:rf} (hg:Gl X "range") (hm:X.mg "range" = none) (ha:QA Γ X [a] pa) (hs:starEach [a] X.env=[(false,eval a X.env)] :=by rfl):QI Γ X tg (.Call (.Name "range" p) [a] [] pos) (ziRng1 pa):=(zb hg hm ha hs).imp fun σ H R h=>Jl h
def Al (c:cW) (tb:b9):b9:=fun D ρ M=>∃W:Nat->aA->Mh->Prop,(∃m,W m ρ M)/\∀m ρ M,W m ρ M->
 c ρ M fun b M1=>if b=true then tb {D with nx:=fun bS M'=>∃m',m'<m/\W m' bS M',ct:=fun bS M'=>∃m',m'<m/\W m' bS M',bk:=D.nx} ρ M1 else D.nx ρ M1
theorem FW {c:cW} {tb:b9} {D:Ends} {σ:St} {H:Hp} (h:lS Γ (Al c tb) D σ H):y7 (lT Γ c) (lS Γ tb) D σ H :=by
 obtain ⟨β,ρ,M,D',zr,⟨W,⟨m0,w0⟩,turn⟩,r⟩:=h
 refine ⟨fun m aI H'=>∃bS M',Ev β M H M' H'/\Zr Γ β M' bS aI H'/\W m bS M',⟨m0,ρ,M,.refl zr.mz,zr,w0⟩,?_⟩
 rintro m aI H' ⟨bS,M',x',gv,w'⟩
 refine ⟨β,bS,M',_,gv,turn m bS M' w',fun k M1 H1 x1 h1=>?_⟩
 have Am:=x'.trans x1.ev
 cases k with
 |true=>
  dsimp only at h1 ⊢
  rw [if_pos rfl] at h1 ⊢
  refine ⟨fun o5 H2=>∃m',m'<m/\∃kD M2,Ev β M H M2 H2/\Zr Γ β M2 kD o5 H2/\W m' kD M2,fun o5 H2 h2=>h2,β,bS,M1,_,gv.step x1,h1,?_⟩
  exact ⟨fun pI M4 Ak H4 x4 me ⟨m',hm,w4⟩=>⟨m',hm,pI,M4,Am.trans x4,me,w4⟩,fun d4 M4 v4 H4 x4 e4 r4 h4=>r.rt _ _ _ _ (Am.trans x4) e4 r4 h4,fun pI M4 Ak H4 x4 me h4=>r.nx _ _ _ _ (Am.trans x4) me h4,fun pI M4 Ak H4 x4 me ⟨m',hm,w4⟩=>⟨m',hm,pI,M4,Am.trans x4,me,w4⟩⟩
 |false=>
  dsimp only at h1 ⊢
  rw [if_neg ij] at h1 ⊢
  exact r.nx _ _ _ _ Am (gv.step x1) h1
theorem oB {body:List mv} {c:ci} {zc:cW} {tb:b9} {pos:rf} (hp:Uu (model X.prog X.w) X.A X.env X.xe) (hc:QT Γ X c zc) (hb:md Γ X body tb):QS Γ X (.While c body [] pos) (Al zc tb):=(B3 hp hc hb).imp fun D σ H h=>FW h
theorem bg {g:cS} {tb:b9} {D:fy} (J:Nat->aA->Mh->Prop) {ds:List Dv} {ρ:aA} {M:Mh} (h0:J 0 ρ M)
  (hs:∀i d ρ M (N:aA->Mh->Prop),ds[i]?=some d->J i ρ M->(∀bS M',J (i+1) bS M'->N bS M')->g d ρ M fun kD M2=>tb {D with nx:=N,ct:=N,bk:=D.nx} kD M2)
  (hd:∀ρ M,J ds.length ρ M->D.nx ρ M):zLoop g tb D ds ρ M :=by
 have key:∀(n i:Nat) ρ M,n=ds.length - i->i<=ds.length->J i ρ M->zLoop g tb D (ds.drop i) ρ M :=by
  intro n
  induction n with
  |zero=>
   intro i ρ M e hi h
   have:i=ds.length :=by omega
   subst this
   rw [Tc]
   exact hd _ _ h
  |succ n ih=>
   intro i ρ M e hi h
   have bp:i<ds.length :=by omega
   rw [DD bp]
   exact hs i _ ρ M _ (bi bp) h fun ρ M h=>ih (i+1) ρ M (by omega) bp h
 exact key _ 0 ρ M rfl (rb _) h0
end
section
variable {X:Cx} {Γ:Gz} {β:Bz}
def zBlock (tn:Nat) (idx:List Nat) (ρ:aA):aA:=qr tn none++idx.map fun i=>(ρ[i]?).join
theorem Zr.block {M:Mh} {ρ:aA} {σ:St} {H:Hp} (z:Zr Γ β M ρ σ H) (tn:Nat) (idx:List Nat):Zr Γ β M (zBlock tn idx ρ) (bX tn idx σ) H:=⟨z.eP,z.ew,z.eK,z.et,z.sub,z.wf,z.ent,z.mz,by simp [zBlock,bX],fun i d e=>by
 unfold zBlock at e
 unfold bX
 rw [Tw] at e ⊢
 rw [Pe] at e ⊢
 split at e
 ·rw [NJ] at e
  split at e <;> cases e
 ·rename_i hi
  rw [if_neg hi]
  rw [br] at e ⊢
  cases q:idx[i - tn]? with
  |none=>rw [q] at e;cases e
  |some j=>
   rw [q] at e
   have e2:ρ[j]?=some (some d) :=by
    simp only [SI,GM.injEq] at e
    cases q2:ρ[j]? with
    |none=>rw [q2] at e;cases e
    |some o=>rw [q2] at e;simp only [Uo] at e;rw [e]
   obtain ⟨v,hv,r⟩:=z.at' j d e2
   exact ⟨v,by simp [hv],r⟩⟩
theorem Zr.enter {M:Mh} {ρ:aA} {σ:St} {H:Hp} {D:ac} {o:HO} (z:Zr Γ β M ρ σ H) (hD:H D=none) (ho:mJ o=true):Zr Γ (β.add D) M ρ σ (upd H D o):=
 ⟨z.eP,z.ew,z.eK,z.et,fun a h=>hX _ (z.sub a h),z.wf,z.ent.over (z.ent.gone hD (by
  cases e:Γ.M0 D with
  |none=>rfl
  |some u=>have:=z.ent.dom D (by rw [e];rfl);rw [z.mz.free hD] at this;cases this)),z.mz.enter hD ho,z.len,fun i d e=>let ⟨v,h,r⟩:=z.at' i d e;⟨v,h,r.enter hD⟩⟩
theorem Zr.over {M:Mh} {ρ:aA} {σ:St} {H:Hp} {D:ac} {o:HO} (z:Zr Γ β M ρ σ H) (hD:D∈β.hid) (ho:mJ o=true) (hM:M D=none) (ht:D ∉ β.tb) (h0:Γ.H0 D=none):Zr Γ β M ρ σ (upd H D o):=
 ⟨z.eP,z.ew,z.eK,z.et,z.sub,z.wf,z.ent.over h0,z.mz.over hD ho hM ht,z.len,fun i d e=>let ⟨v,h,r⟩:=z.at' i d e;⟨v,h,r.over hD⟩⟩
abbrev uz (Γ:Gz) (X:Cx) (ifs:List ci) (t:cW):Prop:=ik X ifs (lT Γ t)
def zNoIf:cW:=fun _ M Q=>Q true M
theorem fW:uz Γ X [] zNoIf:=Fu.imp fun σ H Q ⟨β,ρ,M,Q',zr,h,q⟩=>q true M H (.refl zr.mz) h
theorem wU {c:ci} {tc:cW} (h:QT Γ X c tc):uz Γ X [c] tc:=Fv h
def fj (g:cS) (tt:cW) (te:aH):List Dv->aA->Mh->(List Dv->Mh->Prop)->Prop
 | [],_,M,Q=>Q [] M
 |d::ds,τ,M,Q=>g d τ M fun aD M2=>tt aD M2 fun b M3=>if b=true then te aD M3 fun y M4=>fj g tt te ds aD M4 fun ys M5=>Q (y::ys) M5 else fj g tt te ds aD M3 Q
structure Acc (Γ:Gz) (β:Bz) (D:ac) (M1:Mh) (H1:Hp) (cz:aA) (M:Mh) (τ:St) (H:Hp) (acc:List V) (b8:List Dv):Prop where
 ey:Ey M1 H1 M H
 m:M D=none
 zr:Zr Γ (β.add D) M cz τ H
 at':H D=some (.lst acc)
 rs:aF (β.add D) M H acc b8
 h1:H1 D=none
 h0:Γ.H0 D=none
 nt:D ∉ β.tb
theorem Acc.start {D:ac} {M1:Mh} {H1:Hp} {cz:aA} {τ:St} (zr:Zr Γ β M1 cz τ H1) (hD:H1 D=none):Acc Γ β D M1 H1 cz M1 τ (upd H1 D (.lst [])) [] []:=
 ⟨Ey.refl.over hD,zr.mz.free hD,zr.enter hD rfl,ax,.nil,hD,zr.ent.gone hD (by
  cases e:Γ.M0 D with
  |none=>rfl
  |some u=>have:=zr.ent.dom D (by rw [e];rfl);rw [zr.mz.free hD] at this;cases this),zr.mz.CT hD⟩
section
variable {D:ac} {M1 M M2:Mh} {H1 H H2:Hp} {cz Jn:aA} {τ aD:St} {acc:List V} {b8:List Dv}
theorem Acc.step (A:Acc Γ β D M1 H1 cz M τ H acc b8) (x:Ex (β.add D) M H M2 H2) (z:Zr Γ (β.add D) M2 Jn aD H2):Acc Γ β D M1 H1 Jn M2 aD H2 acc b8:=
 ⟨A.ey.trans x.toEy,x.new D _ A.m A.at',z,x.get A.m A.at' rfl,A.rs.ex x,A.h1,A.h0,A.nt⟩
theorem Acc.snoc (A:Acc Γ β D M1 H1 cz M τ H acc b8) {y:V} {d:Dv} (r:Rz (β.add D) M H y d):Acc Γ β D M1 H1 cz M τ (upd H D (.lst (acc++[y]))) (acc++[y]) (b8++[d]) :=by
 have hD:D∈(β.add D).hid:=i0
 exact ⟨A.ey.over A.h1,A.m,A.zr.over hD rfl A.m A.nt A.h0,ax,⟨by simp [A.rs.len],fun i v d a b=>((A.rs.snoc r).at' i v d a b).over hD⟩,A.h1,A.h0,A.nt⟩
theorem Acc.fz (A:Acc Γ β D M1 H1 cz M τ H acc b8) (m1:Mz β M1 H1):Fz β M D:=⟨A.m,(m1.fz A.h1).2⟩
theorem Acc.mz (A:Acc Γ β D M1 H1 cz M τ H acc b8):Mz β M H:=Mz.sub (β:=β.add D) (cO:=β) rfl rfl rfl rfl (fun a h=>hX _ h) A.zr.mz
theorem Acc.items (A:Acc Γ β D M1 H1 cz M τ H acc b8):aF β M H acc b8:=⟨A.rs.len,fun i v d a b=>Rz.sub (β:=β.add D) (cO:=β) rfl rfl rfl (fun a h=>hX _ h) (A.rs.at' i v d a b)⟩
theorem Acc.ex (A:Acc Γ β D M1 H1 cz M τ H acc b8):Ex β M1 H1 M H:=⟨A.ey,A.mz⟩
end
def zComp (tn:Nat) (idx:List Nat) (zi:ft) (g:cS) (tt:cW) (te:aH):aH:=fun ρ M Q=>zi ρ M fun ds M1=>ds.length<sizeLine/\fj g tt te ds (zBlock tn idx ρ) M1 fun ys M2=>Q (.lst ys) M2
def zCompP (tn:Nat) (idx:List Nat) (zi:ft) (g:cS) (tt:cW) (te:aH):aH:=fun ρ M Q=>zi ρ M fun ds M1=>ds.length<sizeLine/\fj g tt te ds (zBlock tn idx ρ) M1 fun ys M2=>∀a,M2 a=none->Q (.ptr a) (au M2 a (.lst ys))
def zTupG (tn:Nat) (idx:List Nat) (zi:ft) (g:cS) (tt:cW) (te:aH):aH:=fun ρ M Q=>zi ρ M fun ds M1=>ds.length<sizeLine/\fj g tt te ds (zBlock tn idx ρ) M1 fun ys M2=>Q (.tup ys) M2
variable {zi:ft} {g:cS} {tt:cW} {te:aH} {tn:Nat} {idx:List Nat}
def ke (Γ:Gz) (β:Bz) (D:ac) (M1:Mh) (H1:Hp) (g:cS) (tt:cW) (te:aH) (ds:List Dv) (Q':List Dv->Mh->Prop) (i m:Nat) (τ:St) (H:Hp):Prop:=
 m=ds.length - i/\i<=ds.length/\∃cz M acc b8,Acc Γ β D M1 H1 cz M τ H acc b8/\acc.length<=i/\fj g tt te (ds.drop i) cz M fun ys M2=>Q' (b8++ys) M2
theorem mR {D:ac} {M1:Mh} {H1:Hp} {ds:List Dv} {Q':List Dv->Mh->Prop} {J:It} (it:Ac β J ds M1 H1) (hlen:ds.length<sizeLine) {i m:Nat} {τ:St} {H:Hp} (w:ke Γ β D M1 H1 g tt te ds Q' i m τ H)
  {C:V->St->Hp->Prop} (hC:∀y aD H4 acc,H4 D=some (.lst acc)->acc.length<sizeLine->(∃m',m'<m/\ke Γ β D M1 H1 g tt te ds Q' (i+1) m' aD (upd H4 D (.lst (acc++[y]))))->C y aD H4) :
  (J.stop i H/\∃cz M acc b8,Acc Γ β D M1 H1 cz M τ H acc b8/\acc.length<sizeLine/\Q' b8 M) \/
  (J.go i H/\∀x H',J.yld i H x H'->lG Γ g x τ H' fun aD H2=>lT Γ tt aD H2 fun b H3=>if b=true then lE Γ te aD H3 fun y H4=>C y aD H4 else ∃m',m'<m/\ke Γ β D M1 H1 g tt te ds Q' (i+1) m' aD H3) :=by
 obtain ⟨rfl,hi,cz,M,acc,b8,A,qt,h⟩:=w
 have q:=it (β.add D) M H (.add A.h1) A.ey A.zr.mz i
 by_cases bp:i<ds.length
 ·refine .inr ⟨(q.1 bp).1,fun x H' y=>?_⟩
  obtain ⟨x2,d,hd,rd⟩:=(q.1 bp).2 x H' y
  have e:ds.drop i=d::ds.drop (i+1) :=by
   rw [DD bp]
   rw [bi bp] at hd
   cases hd
   rfl
  rw [e] at h
  have A2:=A.step x2 (A.zr.step x2)
  refine ⟨β.add D,d,cz,M,_,A2.zr,rd,h,fun k6 M3 oe H3 x3 z3 h3=>?_⟩
  have A3:=A2.step x3 z3
  refine ⟨β.add D,k6,M3,_,z3,h3,fun b M4 H4 x4 h4=>?_⟩
  have A4:=A3.step x4 (z3.step x4)
  cases b with
  |false=>
   dsimp only at h4 ⊢
   rw [if_neg ij] at h4 ⊢
   exact ⟨ds.length - (i+1),by omega,rfl,bp,k6,M4,acc,b8,A4,by omega,h4⟩
  |true=>
   dsimp only at h4 ⊢
   rw [if_pos rfl] at h4 ⊢
   refine ⟨β.add D,k6,M4,_,A4.zr,h4,fun yd M5 yv H5 x5 r5 h5=>?_⟩
   have A5:=A4.step x5 (A4.zr.step x5)
   refine hC yv oe H5 acc A5.at' (by omega) ⟨ds.length - (i+1),by omega,rfl,bp,k6,M5,acc++[yv],b8++[yd],A5.snoc r5,by simp;omega,?_⟩
   have e2:(fun ys M2=>Q' (b8++[yd]++ys) M2)=fun ys M2=>Q' (b8++yd::ys) M2 :=by
    funext ys M2
    rw [ES]
    rfl
   rw [e2]
   exact h5
 ·have e:i=ds.length :=by omega
  subst e
  rw [Tc] at h
  refine .inl ⟨q.2 (ce _),cz,M,acc,b8,A,by omega,?_⟩
  have h':Q' (b8++[]) M:=h
  rwa [Co] at h'
theorem k7 {D:ac} {M1:Mh} {H1:Hp} {ds:List Dv} {Q':List Dv->Mh->Prop} {cz:aA} {τ:St} (zr:Zr Γ β M1 cz τ H1) (hD:H1 D=none) (h:fj g tt te ds cz M1 Q'):ke Γ β D M1 H1 g tt te ds Q' 0 ds.length τ (upd H1 D (.lst [])):=
 ⟨rfl,rb _,cz,M1,[],[],.start zr hD,ce _,h⟩
theorem An {σ:St} {H:Hp} {Q:VK} (h:lE Γ (zComp tn idx zi g tt te) σ H Q):sT tn idx (lI Γ zi) (lG Γ g) (lT Γ tt) (lE Γ te) σ H Q :=by
 obtain ⟨β,ρ,M,Q',zr,h,q⟩:=h
 refine ⟨β,ρ,M,_,zr,h,fun ds M1 H1 J x1 it ⟨hlen,h1⟩ D hD=>?_⟩
 have jS:=zr.step x1
 refine ⟨ke Γ β D M1 H1 g tt te ds fun ys M2=>Q' (.lst ys) M2,⟨_,k7 (jS.block tn idx) hD h1⟩,fun i m τ H' w=>?_⟩
 rcases mR it hlen w (C:=fun y aD H4=>∃ys m',H4 D=some (.lst ys)/\ys.length<sizeLine/\m'<m/\ke Γ β D M1 H1 g tt te ds (fun ys M2=>Q' (.lst ys) M2) (i+1) m' aD (upd H4 D (.lst (ys++[y])))) (fun y aD H4 acc e hl ⟨m',hm,w'⟩=>⟨acc,m',e,hl,hm,w'⟩) with ⟨hs,cz,M',acc,b8,A,_,hq⟩|z
 ·exact .inl ⟨hs,q _ _ _ _ (x1.trans A.ex) (uq (A.fz jS.mz) A.at' A.items) hq⟩
 ·exact .inr z
theorem FX {σ:St} {H:Hp} {Q:VK} (h:lE Γ (zCompP tn idx zi g tt te) σ H Q):sT tn idx (lI Γ zi) (lG Γ g) (lT Γ tt) (lE Γ te) σ H Q :=by
 obtain ⟨β,ρ,M,Q',zr,h,q⟩:=h
 refine ⟨β,ρ,M,_,zr,h,fun ds M1 H1 J x1 it ⟨hlen,h1⟩ D hD=>?_⟩
 have jS:=zr.step x1
 refine ⟨ke Γ β D M1 H1 g tt te ds fun ys M2=>∀a,M2 a=none->Q' (.ptr a) (au M2 a (.lst ys)),⟨_,k7 (jS.block tn idx) hD h1⟩,fun i m τ H' w=>?_⟩
 rcases mR it hlen w (C:=fun y aD H4=>∃ys m',H4 D=some (.lst ys)/\ys.length<sizeLine/\m'<m/\ke Γ β D M1 H1 g tt te ds (fun ys M2=>∀a,M2 a=none->Q' (.ptr a) (au M2 a (.lst ys))) (i+1) m' aD (upd H4 D (.lst (ys++[y])))) (fun y aD H4 acc e hl ⟨m',hm,w'⟩=>⟨acc,m',e,hl,hm,w'⟩) with ⟨hs,cz,M',acc,b8,A,_,hq⟩|z
 ·refine .inl ⟨hs,?_⟩
  have QM:D ∉ β.hid:=(A.fz jS.mz).2
  have hM:M' D=none:=A.m
  have mz:Mz β (au M' D (.lst b8)) H':=by
   have rz:∀{v:V} {d:Dv},Rz (β.add D) M' H' v d->Rz β (au M' D (.lst b8)) H' v d:=fun r=>by
    have ne:∀a,Fz (β.add D) M' a->Fz β (au M' D (.lst b8)) a:=fun a f=>⟨by rw [ah (fun z=>f.2 (by rw [z];exact i0))];exact f.1,fun z=>f.2 (hX _ z)⟩
    induction r with
    |int i=>exact .int i
    |bl b=>exact .bl b
    |aB=>exact .aB
    |str z=>exact .str z
    |tup m e hl h ih=>exact .tup (ne _ m) e hl ih
    |lst m e hl h ih=>exact .lst (ne _ m) e hl ih
    |dk m e hk hl h ih=>exact .dk (ne _ m) e hk hl ih
    |dt m e hk hl h ih=>exact .dt (ne _ m) e hk hl ih
    |bU m e m2 e2 hl h ih=>exact .bU (ne _ m) e (ne _ m2) e2 hl ih
    |set m e=>exact .set (ne _ m) e
    |ptr m=>exact .ptr (by unfold au;split;rfl;exact m)
    |exc m e=>exact .exc (ne _ m) e
    |bj m e=>exact .bj (ne _ m) e
    |cF m e=>exact .cF (ne _ m) e
    |cG e=>exact .cG e
    |raw v=>exact .raw v
   refine ⟨fun a o e=>?_,A.zr.mz.tabs,fun a ha=>A.zr.mz.hids a (hX _ ha),fun a o e z=>?_,A.zr.mz.lams⟩
   by_cases ha:a=D
   ·subst ha
    rw [updM_same] at e
    cases e
    exact ⟨acc,A.at',A.rs.len,fun i v d a b=>rz (A.rs.at' i v d a b)⟩
   ·rw [ah ha] at e
    have z:=A.zr.mz.obj a o e
    cases o with
    |lst ds=>obtain ⟨vs,z,l,r⟩:=z;exact ⟨vs,z,l,fun i v d a b=>rz (r i v d a b)⟩
    |dk ks ds=>obtain ⟨vs,z,hk,l,r⟩:=z;exact ⟨vs,z,hk,l,fun i v d a b=>rz (r i v d a b)⟩
    |dt ks ds=>obtain ⟨vs,z,hk,l,r⟩:=z;exact ⟨vs,z,hk,l,fun i v d a b=>rz (r i v d a b)⟩
    |c6=>exact z
   ·by_cases ha:a=D
    ·subst ha;exact QM z
    ·rw [ah ha] at e
     exact A.zr.mz.apart a o e (hX _ z)
  have ey:Ey M1 H1 (au M' D (.lst b8)) H':=⟨A.ey.keep,fun a h=>by unfold au;split;rfl;exact A.ey.dom a h,fun a o m e=>by rw [ah (bf e A.h1)];exact A.ey.new a o m e⟩
  exact q _ _ _ _ (x1.trans ⟨ey,mz⟩) (.ptr (by rw [updM_same];rfl)) (hq D hM)
 ·exact .inr z
theorem Jo {P:ac} {zi:ft} {R:It->Hp->Prop} {σ:St} {H:Hp} {ρ:aA} {M:Mh} {R':List Dv->Mh->Prop} (hP:P∈Γ.tb) (zr:Zr Γ β M ρ σ H) (h:zi ρ M R') (q:∀ds M' H' J,Ex β M H M' H'->Ac β J ds M' H'->R' ds M'->R J H'):Eb P (lI Γ zi) R σ H :=by
 refine ⟨β,ρ,M,_,zr,h,fun ds M1 H1 J x1 it h1=>?_⟩
 have D9:P∈β.tb :=by rw [zr.et];exact hP
 refine ⟨x1.mz.tabs P D9,fun ps t=>?_⟩
 have x2:=Ex.grow x1.mz D9 t
 refine q ds M1 _ J (x1.trans x2) (fun cO M' H' bx ey mz=>it cO M' H' ⟨bx.P,bx.w,bx.K,bx.tb,bx.old,fun a ha=>?_⟩ (x2.toEy.trans ey) mz) h1
 rcases bx.new a ha with z|z
 ·exact .inl z
 ·right
  cases e:H1 a with
  |none=>rfl
  |some o=>obtain ⟨u,hu⟩:=CQ (p:=P) (o:=.cN ps) ⟨o,e⟩;rw [z] at hu;cases hu
theorem Jp {P:ac} (hP:P∈Γ.tb) {σ:St} {H:Hp} {Q:VK} (h:lE Γ (zTupG tn idx zi g tt te) σ H Q):Ef P tn idx (lI Γ zi) (lG Γ g) (lT Γ tt) (lE Γ te) σ H Q :=by
 obtain ⟨β,ρ,M,Q',zr,h,q⟩:=h
 refine Jo hP zr h fun ds M1 H1 J x1 it ⟨hlen,h1⟩ D hD=>?_
 have jS:=zr.step x1
 refine ⟨ke Γ β D M1 H1 g tt te ds fun ys M2=>Q' (.tup ys) M2,⟨_,k7 (jS.block tn idx) hD h1⟩,fun i m τ H' w=>?_⟩
 rcases mR it hlen w (C:=fun y aD H4=>takeIn D y H4 fun H5=>∃m',m'<m/\ke Γ β D M1 H1 g tt te ds (fun ys M2=>Q' (.tup ys) M2) (i+1) m' aD H5) (fun y aD H4 acc e hl hw=>⟨acc,e,hl,hw⟩) with ⟨hs,cz,M',acc,b8,A,_,hq⟩|z
 ·refine .inl ⟨hs,acc,A.at',fun l hl=>?_⟩
  have x2:=Ex.lay A.mz hl (.tup acc)
  exact q _ _ _ _ (x1.trans (A.ex.trans x2)) (jj (A.mz.fz hl) ax (A.items.ex x2)) hq
 ·exact .inr z
def jT (g:cS) (tt:cW) (te:aH):List Dv->aA->Mh->(Bool->Mh->Prop)->Prop
 | [],_,M,Q=>Q true M
 |d::ds,τ,M,Q=>g d τ M fun aD M2=>tt aD M2 fun b M3=>if b=true then te aD M3 (zBool fun c M4=>if c=false then Q false M4 else jT g tt te ds aD M4 Q) else jT g tt te ds aD M3 Q
def zAll (tn:Nat) (idx:List Nat) (zi:ft) (g:cS) (tt:cW) (te:aH):aH:=fun ρ M Q=>zi ρ M fun ds M1=>jT g tt te ds (zBlock tn idx ρ) M1 fun b M2=>Q (.bl b) M2
theorem L5 {P:ac} (hP:P∈Γ.tb) {σ:St} {H:Hp} {Q:VK} (h:lE Γ (zAll tn idx zi g tt te) σ H Q):Ih P tn idx (lI Γ zi) (lG Γ g) (lT Γ tt) (lE Γ te) σ H Q :=by
 obtain ⟨β,ρ,M,Q',zr,h,q⟩:=h
 refine Jo hP zr h fun ds M1 H1 J x1 it h1=>?_
 have jS:=zr.step x1
 refine ⟨fun i m τ H'=>m=ds.length - i/\i<=ds.length/\∃cz M',Ex β M1 H1 M' H'/\Zr Γ β M' cz τ H'/\jT g tt te (ds.drop i) cz M' fun b M2=>Q' (.bl b) M2,⟨_,rfl,rb _,_,M1,.refl x1.mz,jS.block tn idx,h1⟩,?_⟩
 rintro i m τ H' ⟨rfl,hi,cz,M',x',gv,h'⟩
 have qq:=it β M' H' .refl x'.toEy x'.mz i
 by_cases bp:i<ds.length
 ·refine .inr ⟨(qq.1 bp).1,fun x mM y=>?_⟩
  obtain ⟨x2,d,hd,rd⟩:=(qq.1 bp).2 x mM y
  have e:ds.drop i=d::ds.drop (i+1) :=by
   rw [DD bp]
   rw [bi bp] at hd
   cases hd
   rfl
  rw [e] at h'
  refine ⟨β,d,cz,M',_,gv.step x2,rd,h',fun k6 M3 oe H3 x3 z3 h3=>⟨β,k6,M3,_,z3,h3,fun b M4 H4 x4 h4=>?_⟩⟩
  have uA:=x'.trans (x2.trans (x3.trans x4))
  cases b with
  |false=>
   dsimp only at h4 ⊢
   rw [if_neg ij] at h4 ⊢
   exact ⟨ds.length - (i+1),by omega,rfl,bp,k6,M4,uA,z3.step x4,h4⟩
  |true=>
   dsimp only at h4 ⊢
   rw [if_pos rfl] at h4 ⊢
   refine ⟨β,k6,M4,_,z3.step x4,h4,fun yd M5 yv H5 x5 r5 h5=>?_⟩
   obtain ⟨k,rfl,h6⟩:=jl h5
   refine ⟨k,dE r5,?_⟩
   cases k with
   |false=>
    rw [if_pos rfl] at h6 ⊢
    exact q _ _ _ _ (x1.trans (uA.trans x5)) (.bl _) h6
   |true=>
    rw [if_neg (by decide)] at h6 ⊢
    exact ⟨ds.length - (i+1),by omega,rfl,bp,k6,M5,uA.trans x5,(z3.step x4).step x5,h6⟩
 ·have e:i=ds.length :=by omega
  subst e
  rw [Tc] at h'
  exact .inl ⟨qq.2 (ce _),q _ _ _ _ (x1.trans x') (.bl _) h'⟩
end
section
variable {X:Cx} {Γ:Gz} {β:Bz} {K:ar}
def zII (f:Int->Int->Dv):eG:=fun d e M Q=>match d,e with | .int i,.int j=>Q (f i j) M|_,_=>False
def zIC (C:Int->Int->Prop) (f:Int->Int->Dv):eG:=fun d e M Q=>match d,e with | .int i,.int j=>C i j/\Q (f i j) M|_,_=>False
theorem mS {g:Int->Int->V} {f:Int->Int->Dv} (h:∀β M H i j,Rz β M H (g i j) (f i j)):rM Γ (qY g) (zII f):=fun β x y d e M H Q Q' _ _ _ m rx ry z q=>by
 unfold zII at z
 split at z
 ·exact ⟨_,_,aS rx,aS ry,q _ _ _ _ (.refl m) (h ..) z⟩
 ·exact z.elim
theorem pJ {C:Int->Int->Prop} {g:Int->Int->V} {f:Int->Int->Dv} (h:∀β M H i j,Rz β M H (g i j) (f i j)):rM Γ (rI C g) (zIC C f):=fun β x y d e M H Q Q' _ _ _ m rx ry z q=>by
 unfold zIC at z
 split at z
 ·exact ⟨_,_,aS rx,aS ry,z.1,q _ _ _ _ (.refl m) (h ..) z.2⟩
 ·exact z.elim
theorem fD:eB Γ X (binaryOp .Add) (zII fun i j=>.int (i+j)):=⟨_,Hw,mS fun _ _ _ _ _=>.int _⟩
theorem yg:eB Γ X (binaryOp .Sub) (zII fun i j=>.int (i - j)):=⟨_,Hx,mS fun _ _ _ _ _=>.int _⟩
theorem k8:eB Γ X (binaryOp .Mult) (zIC xA fun i j=>.int (i * j)):=⟨_,Hy,pJ fun _ _ _ _ _=>.int _⟩
theorem uB:eB Γ X (binaryOp .FloorDiv) (zIC Hu fun i j=>.int (i / j)):=⟨_,Fh,pJ fun _ _ _ _ _=>.int _⟩
theorem gz:eB Γ X (binaryOp .Mod) (zIC (fun _ j=>0<j) fun i j=>.int (i % j)):=⟨_,Hz,pJ fun _ _ _ _ _=>.int _⟩
theorem L6:eB Γ X (binaryOp .Pow) (zIC Hv fun i j=>.int (i ^ j.toNat)):=⟨_,HA,pJ fun _ _ _ _ _=>.int _⟩
theorem yh:eB Γ X (compareOp .Lt) (zII fun i j=>.bl (decide (i<j))):=⟨_,Lw,mS fun _ _ _ _ _=>.bl _⟩
theorem yi:eB Γ X (compareOp .LtE) (zII fun i j=>.bl (decide (i<=j))):=⟨_,Lx,mS fun _ _ _ _ _=>.bl _⟩
theorem uC:eB Γ X (compareOp .Gt) (zII fun i j=>.bl (decide (j<i))):=⟨_,Ly,mS fun _ _ _ _ _=>.bl _⟩
def scalZ (d e:Dv):Option Bool:=match d with
 | .int i=>(match e with | .int j=>some (decide (i=j)) | .aB=>some false | .str _=>some false|_=>none)
 | .bl i=>(match e with | .bl j=>some (decide (i=j)) | .aB=>some false | .str _=>some false|_=>none)
 | .str i=>(match e with | .str j=>some (decide (i=j)) | .aB=>some false | .int _=>some false | .bl _=>some false|_=>none)
 | .aB=>(match e with | .aB=>some true | .int _=>some false | .bl _=>some false | .str _=>some false|_=>none)
 |_=>none
def zEq:eG:=fun d e M Q=>match scalZ d e with|some b=>Q (.bl b) M|none=>False
def zNe:eG:=fun d e M Q=>match scalZ d e with|some b=>Q (.bl (!b)) M|none=>False
theorem uD {M:Mh} {H:Hp} {x y:V} {d e:Dv} {b:Bool} (rx:Rz β M H x d) (ry:Rz β M H y e) (h:scalZ d e=some b):B7 x y=true/\decide (x=y)=b :=by
 unfold scalZ at h
 split at h
 ·rw [aS rx]
  split at h <;> cases h
  ·rw [aS ry];exact ⟨rfl,by simp⟩
  ·rw [eQ ry];exact ⟨rfl,by simp⟩
  ·rw [bJ ry];exact ⟨rfl,by simp⟩
 ·rw [dE rx]
  split at h <;> cases h
  ·rw [dE ry];exact ⟨rfl,by simp⟩
  ·rw [eQ ry];exact ⟨rfl,by simp⟩
  ·rw [bJ ry];exact ⟨rfl,by simp⟩
 ·rw [bJ rx]
  split at h <;> cases h
  ·rw [bJ ry];exact ⟨rfl,by simp⟩
  ·rw [eQ ry];exact ⟨rfl,by simp⟩
  ·rw [aS ry];exact ⟨rfl,by simp⟩
  ·rw [dE ry];exact ⟨rfl,by simp⟩
 ·rw [eQ rx]
  split at h <;> cases h
  ·rw [eQ ry];exact ⟨rfl,by simp⟩
  ·rw [aS ry];exact ⟨rfl,by simp⟩
  ·rw [dE ry];exact ⟨rfl,by simp⟩
  ·rw [bJ ry];exact ⟨rfl,by simp⟩
 ·cases h
theorem oC:eB Γ X (compareOp .Eq) zEq:=⟨_,Ls,fun β x y d e M H Q Q' _ _ _ m rx ry z q=>by
 unfold zEq at z
 split at z
 ·rename_i b hb
  obtain ⟨h1,h2⟩:=uD rx ry hb
  exact ⟨h1,by rw [h2];exact q _ _ _ _ (.refl m) (.bl _) z⟩
 ·exact z.elim⟩
theorem uE:eB Γ X (compareOp .NotEq) zNe:=⟨_,Lv,fun β x y d e M H Q Q' _ _ _ m rx ry z q=>by
 unfold zNe at z
 split at z
 ·rename_i b hb
  obtain ⟨h1,h2⟩:=uD rx ry hb
  exact ⟨h1,by rw [h2];exact q _ _ _ _ (.refl m) (.bl _) z⟩
 ·exact z.elim⟩
def isNonD:Dv->Option Bool
 | .aB=>some true
 | .raw _=>none
 |_=>some false
theorem rO {M:Mh} {H:Hp} {x:V} {d:Dv} {b:Bool} (r:Rz β M H x d) (h:isNonD d=some b):decide (x=.aB)=b :=by
 cases r <;> simp [isNonD] at h ⊢ <;> exact h
def zIsN (neg:Bool):eG:=fun d e M Q=>match e,isNonD d with | .aB,some b=>Q (.bl (if neg then !b else b)) M|_,_=>False
theorem L7:eB Γ X (compareOp .Is) (zIsN false):=⟨_,HB,fun β x y d e M H Q Q' _ _ _ m rx ry z q=>by
 unfold zIsN at z
 split at z
 ·rename_i b hb
  exact ⟨eQ ry,by rw [rO rx hb];exact q _ _ _ _ (.refl m) (.bl _) z⟩
 ·exact z.elim⟩
theorem mU:eB Γ X (compareOp .IsNot) (zIsN true):=⟨_,Fi,fun β x y d e M H Q Q' _ _ _ m rx ry z q=>by
 unfold zIsN at z
 split at z
 ·rename_i b hb
  exact ⟨eQ ry,by rw [rO rx hb];exact q _ _ _ _ (.refl m) (.bl _) z⟩
 ·exact z.elim⟩
def zSS (C:ba->ba->Prop) (f:ba->ba->Dv):eG:=fun d e M Q=>match d,e with | .str i,.str j=>C i j/\Q (f i j) M|_,_=>False
theorem Ao:eB Γ X (binaryOp .Add) (zSS (fun i j=>i.length+j.length<=sizeLine) fun i j=>.str (i++j)):=⟨_,xD,fun β x y d e M H Q Q' _ _ _ m rx ry z q=>by
 unfold zSS at z
 split at z
 ·exact ⟨_,_,bJ rx,bJ ry,z.1,q _ _ _ _ (.refl m) (.str _) z.2⟩
 ·exact z.elim⟩
def yj (i j:ba):Bool := !(Fk j i 0 j.length 1).isEmpty
theorem CW:eB Γ X (compareOp .In) (zSS (fun _ _=>True) fun i j=>.bl (yj i j)):=⟨_,zk,fun β x y d e M H Q Q' _ _ _ m rx ry z q=>by
 unfold zSS at z
 split at z
 ·exact ⟨_,_,bJ rx,bJ ry,q _ _ _ _ (.refl m) (.bl _) z.2⟩
 ·exact z.elim⟩
def now (M:Mh):Dv->Dv
 | .ptr a=>match M a with|some (.lst ds)=>.lst ds|_=>.ptr a
 |d=>d
def itemsM (M:Mh):Dv->Option (List Dv)
 | .tup ds=>some ds
 | .lst ds=>some ds
 | .ptr a=>match M a with|some (.lst ds)=>some ds|_=>none
 |_=>none
theorem jm {M:Mh} {H:Hp} {x:V} {d:Dv} {ds:List Dv} (m:Mz β M H) (r:Rz β M H x d) (h:itemsM M d=some ds):∃a vs,x=.ref a/\(H a=some (.lst vs)\/H a=some (.tup vs))/\aF β M H vs ds :=by
 cases d with
 |tup es=>cases h;obtain ⟨a,vs,e,_,h,rs⟩:=dB r;exact ⟨a,vs,e,.inr h,rs⟩
 |lst es=>cases h;obtain ⟨a,vs,e,_,h,rs⟩:=fV r;exact ⟨a,vs,e,.inl h,rs⟩
 |ptr a=>
  obtain ⟨rfl,hs⟩:=cA r
  simp only [itemsM] at h
  split at h
  ·rename_i es q
   cases h
   obtain ⟨vs,hv,rs⟩:=m.obj a _ q
   exact ⟨a,vs,rfl,.inl hv,rs⟩
  ·cases h
 |_=>cases h
theorem FY {M:Mh} {H:Hp} {vs:List V} {ds:List Dv} (rs:aF β M H vs ds) {i:Int} {d:Dv} (h:cj ds i=some d):∃v,cj vs i=some v/\Rz β M H v d :=by
 unfold cj at h ⊢
 rw [rs.len]
 cases e:gd ds.length i with
 |none=>rw [e] at h;cases h
 |some j=>
  rw [e] at h
  obtain ⟨v,hv,r⟩:=rs.get (i:=j) (d:=d) h
  exact ⟨v,hv,r⟩
def Jq (Γ:Gz) (X:Cx) (z:eG):Prop:=∃r,mq X r/\rM Γ r z
def zIx:eG:=fun d e M Q=>match e with
 | .int i=>(match d with
  | .str z=>z.length<=sizeLine/\(match cj z.cps.toList i with|some c=>Q (.str ⟨#[c]⟩) M|none=>False)
  |_=>match itemsM M d with|some ds=>(match cj ds i with|some r=>Q r M|none=>False)|none=>False)
 |_=>False
theorem cB (hK:X.K=K):Jq Γ X zIx:=⟨_,wC hK,fun β x y d e M H Q Q' _ _ _ m rx ry z q=>by
 unfold zIx at z
 split at z
 ·rename_i i
  have hy:=aS ry
  split at z
  ·rename_i s
   obtain ⟨hz,z⟩:=z
   split at z
   ·rename_i c hc
    exact .inr (.inr ⟨s,i,c,bJ rx,hy,hz,hc,q _ _ _ _ (.refl m) (.str _) z⟩)
   ·exact z.elim
  ·split at z
   ·rename_i ds rP
    obtain ⟨a,vs,rfl,ha,rs⟩:=jm m rx rP
    split at z
    ·rename_i r hr
     obtain ⟨v,hv,rv⟩:=FY rs hr
     have z':=q _ _ _ _ (.refl m) rv z
     rcases ha with ha|ha
     ·exact .inl ⟨a,vs,i,v,rfl,hy,bY.of ha,hv,z'⟩
     ·exact .inr (.inl ⟨a,vs,i,v,rfl,hy,dh.of ha,hv,z'⟩)
    ·exact z.elim
   ·exact z.elim
 ·exact z.elim⟩
theorem bH {a b:ci} {pa pb:aH} {z:eG} {pos:rf} (hr:Jq Γ X z) (ha:QE Γ X a pa) (hb:QE Γ X b pb) (hs:wz b):QE Γ X (.Subscript a b pos) (zOp z pa pb) :=by
 obtain ⟨r,h1,h2⟩:=hr
 exact (LC h1 ha hb hs).imp fun σ H Q h=>ye h2 h
abbrev Ap:=aA->Mh->(Option Int->Mh->Prop)->Prop
def lO (Γ:Gz) (p:Ap):TO:=fun σ H Q=>∃(β:Bz) (ρ:aA) (M:Mh) (Q':Option Int->Mh->Prop),Zr Γ β M ρ σ H/\p ρ M Q'/\∀o M' H',Ex β M H M' H'->Q' o M'->Q o H'
def zoNone:Ap:=fun _ M Q=>Q none M
def zoSome (p:aH):Ap:=fun ρ M Q=>p ρ M fun d M1=>match d with | .int i=>Q (some i) M1|_=>False
theorem PO.imp {e:Option ci} {t t':TO} (h:PO X e t) (i:∀σ H Q,t' σ H Q->t σ H Q):PO X e t':=fun pins s σ H Q I q=>h pins s σ H Q I (i _ _ _ q)
theorem FZ:PO X none (lO Γ zoNone):=PO.imp Fp fun σ H Q ⟨β,ρ,M,Q',zr,h,q⟩=>q _ _ _ (.refl zr.mz) h
theorem F0 {e:ci} {p:aH} (h:QE Γ X e p):PO X (some e) (lO Γ (zoSome p)):=PO.imp (Fq h) fun σ H Q ⟨β,ρ,M,Q',zr,h,q⟩=>⟨β,ρ,M,_,zr,h,fun d M1 v H1 x1 r1 h1=>by
 revert h1
 split
 ·intro h1
  exact ⟨_,aS r1,q _ _ _ x1 h1⟩
 ·exact fun z=>z.elim⟩
abbrev Es:=Dv->Option Int->Option Int->Mh->ZK->Prop
def NI (Γ:Gz) (X:Cx) (z:Es):Prop:=∃r,D5 X r/\∀(β:Bz) x d lo hi M H Q Q',β.P=Γ.P->β.w=Γ.w->β.K=Γ.K->Mz β M H->Rz β M H x d->z d lo hi M Q'->(∀d' M' v H',Ex β M H M' H'->Rz β M' H' v d'->Q' d' M'->Q v H')->r x lo hi H Q
def zSl (z:Es) (p:aH) (l h:Ap):aH:=fun ρ M Q=>p ρ M fun d M1=>l ρ M1 fun lo M2=>h ρ M2 fun hi M3=>z d lo hi M3 Q
theorem CY {z:Es} {e:ci} {p:aH} {lo hi:Option ci} {l h:Ap} {p2 pos:rf} (hr:NI Γ X z) (he:QE Γ X e p) (hl:PO X lo (lO Γ l)) (hu:PO X hi (lO Γ h)):QE Γ X (.Subscript e (.Slice lo hi none p2) pos) (zSl z p l h) :=by
 obtain ⟨r,h1,h2⟩:=hr
 exact (Cj h1 he hl hu).imp fun σ H Q ⟨β,ρ,M,Q',zr,h,q⟩=>⟨β,ρ,M,_,zr,h,fun d M1 v H1 x1 r1 h1=>⟨β,ρ,M1,_,zr.step x1,h1,fun o M2 H2 x2 h3=>⟨β,ρ,M2,_,(zr.step x1).step x2,h3,fun o2 M3 H3 x3 h4=>
  h2 β v d o o2 M3 H3 _ _ zr.eP zr.ew zr.eK x3.mz ((r1.ex x2).ex x3) h4 fun d' M' v' H' x4 r4 q4=>q _ _ _ _ (x1.trans (x2.trans (x3.trans x4))) r4 q4⟩⟩⟩
def zSlS:Es:=fun d lo hi M Q=>match d with | .str s=>s.length<=sizeLine/\Q (.str (Uw s lo hi)) M|_=>False
theorem L8:NI Γ X zSlS:=⟨_,Im,fun β x d lo hi M H Q Q' _ _ _ m rx z q=>by
 unfold zSlS at z
 split at z
 ·exact ⟨_,bJ rx,z.1,q _ _ _ _ (.refl m) (.str _) z.2⟩
 ·exact z.elim⟩
end
section
variable {X:Cx} {Γ:Gz} {β:Bz} {K:ar}
section
variable {x:ba} {p pos:rf} {e:ci} {es:List ci} {za:dI} {id T:String} {z:rN}
theorem ay (hc:fB Γ X (.builtin id) z) (hg:Gl X x) (hm:X.mg x=none) (hv:bootBuiltins x=some (.builtin id)) (ha:QA Γ X (e::es) za) (hn:x ≠ "__name__" := by decide) (eO:(x==("__debug__" : ba))=false :=by decide)
  (he:starEach (e::es) X.env=(false,eval e X.env)::starEach es X.env :=by rfl) (cZ:(backTo pos (starEach es X.env)).any (·.1)=false :=by rfl):QE Γ X (.Call (.Name x p) (e::es) [] pos) (zCB z za) :=by
 obtain ⟨r,h1,h2⟩:=hc
 exact (Ci h1 hg hm hv ha hn eO he cZ).imp fun σ H Q h=>Jk h2 h
theorem mV (hc:fB Γ X (.type T) z) (hg:Gl X x) (hm:X.mg x=none) (hv:bootBuiltins x=some (.type T)) (ha:QA Γ X (e::es) za) (hn:x ≠ "__name__" := by decide) (eO:(x==("__debug__" : ba))=false :=by decide)
  (he:starEach (e::es) X.env=(false,eval e X.env)::starEach es X.env :=by rfl) (cZ:(backTo pos (starEach es X.env)).any (·.1)=false :=by rfl):QE Γ X (.Call (.Name x p) (e::es) [] pos) (zCB z za) :=by
 obtain ⟨r,h1,h2⟩:=hc
 exact (zv h1 hg hm hv ha hn eO he cZ).imp fun σ H Q h=>Jk h2 h
end
def z1 (f:Dv->Mh->ZK->Prop):rN:=fun ds M Q=>match ds with | [d]=>f d M Q|_=>False
def zLenD (d:Dv) (M:Mh) (Q:ZK):Prop:=match d with
 | .str s=>s.length<=sizeLine/\Q (.int s.length) M
 | .bj ns=>Q (.int ns.length) M
 |_=>match itemsM M d with|some ds=>Q (.int ds.length) M|none=>False
theorem bP (hK:X.K=K) (hG:K=Γ.K):fB Γ X (.builtin "len") (z1 zLenD):=⟨_,zL hK,fun β xs ds M H Q Q' _ _ eK m rs z q=>by
 rw [<- hG] at eK
 unfold z1 at z
 split at z
 ·rename_i d
  obtain ⟨x,rfl,r⟩:=dz rs
  unfold zLenD at z
  split at z
  ·rename_i s
   have e:=bJ r
   subst e
   exact ⟨_,_,rfl,⟨z.1,rfl⟩,q _ _ _ _ (.refl m) (.int _) z.2⟩
  ·rename_i ns
   obtain ⟨a,rfl,h⟩:=rL r
   rw [eK] at h
   exact ⟨_,ns.length,rfl,.inl ⟨_,h,by simp⟩,q _ _ _ _ (.refl m) (.int _) z⟩
  ·split at z
   ·rename_i ds rP
    obtain ⟨a,vs,rfl,ha,gN⟩:=jm m r rP
    have q':=q _ _ (.int ds.length) _ (.refl m) (.int _) z
    rcases ha with ha|ha
    ·exact ⟨_,ds.length,rfl,.inl ⟨vs,bY.of ha,gN.len.symm⟩,q'⟩
    ·exact ⟨_,ds.length,rfl,.inr ⟨vs,dh.of ha,gN.len.symm⟩,q'⟩
   ·exact z.elim
 ·exact z.elim⟩
def z2I (f:Int->Int->Int):rN:=fun ds M Q=>match ds with | [.int i,.int j]=>Q (.int (f i j)) M|_=>False
theorem Jr (hc:X.calm=true):fB Γ X (.builtin "max") (z2I fun i j=>if j > i then j else i):=⟨_,zl hc,fun β xs ds M H Q Q' _ _ _ m rs z q=>by
 unfold z2I at z
 split at z
 ·obtain ⟨x,y,rfl,r,r'⟩:=kz rs
  rw [aS r,aS r']
  exact ⟨_,_,rfl,q _ _ _ _ (.refl m) (.int _) z⟩
 ·exact z.elim⟩
theorem uF (hc:X.calm=true):fB Γ X (.builtin "min") (z2I fun i j=>if j<i then j else i):=⟨_,zm hc,fun β xs ds M H Q Q' _ _ _ m rs z q=>by
 unfold z2I at z
 split at z
 ·obtain ⟨x,y,rfl,r,r'⟩:=kz rs
  rw [aS r,aS r']
  exact ⟨_,_,rfl,q _ _ _ _ (.refl m) (.int _) z⟩
 ·exact z.elim⟩
def zAbs (d:Dv) (M:Mh) (Q:ZK):Prop:=match d with | .int i=>Q (.int (if i<0 then -i else i)) M|_=>False
theorem yk:fB Γ X (.builtin "abs") (z1 zAbs):=⟨_,Cd,fun β xs ds M H Q Q' _ _ _ m rs z q=>by
 unfold z1 at z
 split at z
 ·obtain ⟨x,rfl,r⟩:=dz rs
  unfold zAbs at z
  split at z
  ·rw [aS r]
   exact ⟨_,rfl,q _ _ _ _ (.refl m) (.int _) z⟩
  ·exact z.elim
 ·exact z.elim⟩
def zTuple (d:Dv) (M:Mh) (Q:ZK):Prop:=match itemsM M d with|some ds=>Q (.tup ds) M|none=>False
theorem wV (hK:X.K=K):fB Γ X (.type "tuple") (z1 zTuple):=⟨_,qp hK,fun β xs ds M H Q Q' _ _ _ m rs z q=>by
 unfold z1 at z
 split at z
 ·rename_i d
  obtain ⟨x,rfl,r⟩:=dz rs
  unfold zTuple at z
  split at z
  ·rename_i ds rP
   obtain ⟨a,vs,rfl,ha,gN⟩:=jm m r rP
   refine ⟨a,vs,rfl,?_⟩
   rcases ha with ha|ha
   ·refine .inl ⟨bY.of ha,fun l hl=>?_⟩
    have x2:=Ex.lay m hl (.tup vs)
    exact q _ _ _ _ x2 (jj (m.fz hl) ax (gN.ex x2)) z
   ·refine .inr ⟨dh.of ha,?_⟩
    have f:Fz β M a :=by
     cases d with
     |tup es=>obtain ⟨b,us,e,f,_⟩:=dB r;cases e;exact f
     |lst es=>obtain ⟨b,us,e,f,_⟩:=fV r;cases e;exact f
     |ptr b=>
      obtain ⟨e,hs⟩:=cA r
      cases e
      cases q2:M a with
      |none=>rw [q2] at hs;cases hs
      |some o=>have:=m.jk ha rfl;rw [q2] at this;cases this
     |_=>cases rP
    exact q _ _ _ _ (.refl m) (jj f ha gN) z
  ·exact z.elim
 ·exact z.elim⟩
def hZ:List Dv->Option (List Int)
 | []=>some []
 | .int i::ds=>(hZ ds).map (i::·)
 |_::_=>none
theorem oE:∀{ds:List Dv} {ns:List Int},hZ ds=some ns->ds=ns.map Dv.int
 | [],ns,h=>by simp only [hZ,GM.injEq] at h;subst h;rfl
 |d::ds,ns,h=>by
          cases d with
          |int i=>
           simp only [hZ,io] at h
           obtain ⟨ms,h,rfl⟩:=h
           rw [oE h]
           rfl
          |_=>simp [hZ] at h
theorem rQ:∀ns:List Int,hZ (ns.map Dv.int)=some ns
 | []=>rfl
 |n::ns=>by simp [hZ,rQ ns]
theorem k9 {M:Mh} {H:Hp}:∀{vs:List V} {ns:List Int},aF β M H vs (ns.map Dv.int)->vs=ns.map V.int
 | [],[],_=>rfl
 | [],_::_,r=>absurd r.len (by simp)
 |_::_,[],r=>absurd r.len (by simp)
 |v::vs,n::ns,r=>by
          rw [wb] at r
          rw [wb,aS r.head,k9 r.tail]
theorem oF {M:Mh} {H:Hp}:∀{ns:List Int},aF β M H (ns.map V.int) (ns.map Dv.int)
 | []=>.nil
 |n::ns=>.cons (.int _) oF
def intsM (M:Mh) (d:Dv):Option (List Int):=match d with | .set ns=>some ns|_=>(itemsM M d).bind hZ
theorem Aq {M:Mh} {H:Hp} {x:V} {d:Dv} {ns:List Int} (m:Mz β M H) (r:Rz β M H x d) (h:(itemsM M d).bind hZ=some ns):∃a,x=.ref a/\(H a=some (.lst (ns.map V.int))\/H a=some (.tup (ns.map V.int))) :=by
 cases e:itemsM M d with
 |none=>rw [e] at h;cases h
 |some ds=>
  rw [e] at h
  obtain ⟨a,vs,rfl,ha,rs⟩:=jm m r e
  have e2:=oE (ns:=ns) h
  subst e2
  have:=k9 rs
  subst this
  exact ⟨a,rfl,ha⟩
def isD (T:String) (M:Mh) (d:Dv):Option Bool:=match d with
 | .int _=>some (T == "int") | .bl _=>some (T == "int" || T == "bool") | .aB=>some false | .str _=>some (T == "str") | .tup _=>some (T == "tuple") | .lst _=>some (T == "list") | .ptr a=>(match M a with|some (.lst _)=>some (T == "list")|some .c6=>some (T == "list")|some _=>some false|none=>none)|_=>none
def qw:List String:=["int","bool","str","tuple","list"]
def zIsInst:rN:=fun ds M Q=>match ds with | [d,.raw (.ty T)]=>T∈qw/\(match isD T M d with|some b=>Q (.bl b) M|none=>False)|_=>False
theorem Js {K:ar} {M:Mh} {H:Hp} {x:V} {d:Dv} {T:String} {b:Bool} (m:Mz β M H) (hT:T∈qw) (r:Rz β M H x d) (h:isD T M d=some b):∃t,fI K H x t/\TJ K t (.type T)=some b :=by
 have og:T = "int" \/ T = "bool" \/ T = "str" \/ T = "tuple" \/ T = "list" := by simpa [qw] using hT
 cases r with
 |int i=>cases h;exact ⟨_,.int i,by rcases og with rfl|rfl|rfl|rfl|rfl <;> rfl⟩
 |bl i=>cases h;exact ⟨_,.bl i,by rcases og with rfl|rfl|rfl|rfl|rfl <;> rfl⟩
 |aB=>cases h;exact ⟨_,.aB,by rcases og with rfl|rfl|rfl|rfl|rfl <;> rfl⟩
 |str i=>cases h;exact ⟨_,.str i,by rcases og with rfl|rfl|rfl|rfl|rfl <;> rfl⟩
 |tup f e hl q=>cases h;exact ⟨_,.tup e,by rcases og with rfl|rfl|rfl|rfl|rfl <;> rfl⟩
 |lst f e hl q=>cases h;exact ⟨_,.lst e,by rcases og with rfl|rfl|rfl|rfl|rfl <;> rfl⟩
 |ptr hs=>
  rename_i a
  cases q2:M a with
  |none=>rw [q2] at hs;cases hs
  |some o=>
   simp only [isD,q2] at h
   have q:=m.obj a o q2
   cases o with
   |lst ds=>obtain ⟨vs,e,_⟩:=q;cases h;exact ⟨_,.lst e,by rcases og with rfl|rfl|rfl|rfl|rfl <;> rfl⟩
   |c6=>obtain ⟨_,_,e,_⟩:=q;cases h;exact ⟨_,.lst e,by rcases og with rfl|rfl|rfl|rfl|rfl <;> rfl⟩
   |dk ks ds=>obtain ⟨vs,e,_⟩:=q;cases h;exact ⟨_,.dK e,by rcases og with rfl|rfl|rfl|rfl|rfl <;> rfl⟩
   |dt ks ds=>obtain ⟨vs,e,_⟩:=q;cases h;exact ⟨_,.dT e,by rcases og with rfl|rfl|rfl|rfl|rfl <;> rfl⟩
 |set f e=>cases h
 |exc f e=>cases h
 |bj f e=>cases h
 |cF f e=>cases h
 |cG e=>cases h
 |raw v=>cases h
 |dk f e _ _ _=>cases h
 |dt f e _ _ _=>cases h
 |bU _ _ _ _ _ _=>cases h
theorem jn (hK:X.K=K):fB Γ X (.builtin "isinstance") zIsInst:=⟨_,t5 hK,fun β xs ds M H Q Q' _ _ _ m rs z q=>by
 unfold zIsInst at z
 split at z
 ·obtain ⟨x,y,rfl,r,r'⟩:=kz rs
  rw [Aa r']
  obtain ⟨hT,z⟩:=z
  split at z
  ·rename_i b hb
   obtain ⟨t,ht,hk⟩:=Js (K:=K) m hT r hb
   exact ⟨_,_,t,b,rfl,ht,hk,q _ _ _ _ (.refl m) (.bl _) z⟩
  ·exact z.elim
 ·exact z.elim⟩
abbrev mW:=Dv->List Dv->Mh->ZK->Prop
def wW (Γ:Gz) (X:Cx) (T id:String) (K:ar) (z:mW):Prop:=∃r,zx X id r/\∀(β:Bz) x xs d ds M H Q Q',β.P=Γ.P->β.w=Γ.w->β.K=Γ.K->Mz β M H->Rz β M H x d->aF β M H xs ds->z d ds M Q'->(∀d' M' v H',Ex β M H M' H'->Rz β M' H' v d'->Q' d' M'->Q v H')->r x xs H Q
def tyZ (T:String) (M:Mh):Dv->Prop
 | .ptr a=>match M a with|some (.lst _)=>T = "list" |some .c6=>T = "list" |some (.dk _ _)=>T = "dict" |some (.dt _ _)=>T = "dict" |none=>False
 | .lst _=>T = "list"
 | .tup _=>T = "tuple"
 | .str _=>T = "str"
 |_=>False
theorem Jt {M:Mh} {H:Hp} {x:V} {d:Dv} {T:String} (m:Mz β M H) (r:Rz β M H x d) (h:tyZ T M d):HR K T x H :=by
 cases r with
 |str=>exact h
 |lst f e _ _=>exact .inl ⟨h,_,bY.of e⟩
 |tup f e _ _=>exact .inr (.inl ⟨h,.inr ⟨_,e⟩⟩)
 |ptr hs=>
  rename_i a
  cases q2:M a with
  |none=>rw [q2] at hs;cases hs
  |some o=>
   simp only [tyZ,q2] at h
   have q:=m.obj a o q2
   cases o with
   |lst ds=>obtain ⟨vs,e,_⟩:=q;exact .inl ⟨h,_,bY.of e⟩
   |c6=>obtain ⟨_,_,e,_⟩:=q;exact .inl ⟨h,_,bY.of e⟩
   |dk ks ds=>obtain ⟨vs,e,_⟩:=q;exact .inr (.inr (.inl ⟨h,.inl ⟨_,e⟩⟩))
   |dt ks ds=>obtain ⟨vs,e,_⟩:=q;exact .inr (.inr (.inl ⟨h,.inr ⟨_,e⟩⟩))
 |_=>exact h.elim
def zBM (T:String) (z:mW) (po:aH) (pa:dI):aH:=fun ρ M Q=>po ρ M fun d M1=>tyZ T M1 d/\pa ρ M1 fun ds M2=>z d ds M2 Q
section
variable {o e:ci} {es:List ci} {po:aH} {pa:dI} {name:ba} {apos aY:rf} {T id:String} {z:mW}
theorem la (h:X.K=K) (pat:Ud T) (slot:Slot T name id) (mr:typeOf (.builtin id)=pure (.type "method_descriptor")) (hm:wW Γ X T id K z) (ho:QE Γ X o po) (ha:QA Γ X (e::es) pa) (iM:attributeBase o name X.env (eval o X.env)=eval o X.env :=by rfl)
  (kT:((backTo aY (starEach (e::es) X.env)).all (fun x => !x.1) && (backToKw aY (keywordEach [] X.env)).all (fun x=>x.1.isSome)
   && decide ((e::es).length+([]:List LM).length+(if ([]:List LM).isEmpty then 0 else 1)<30))=true :=by rfl)
  (hline:(apos.endLine==aY.line)=true :=by rfl) (hs:starEach (e::es) X.env=(false,eval e X.env)::starEach es X.env :=by rfl) (gf:(backTo aY (starEach es X.env)).any (·.1)=false :=by rfl) :
  QE Γ X (.Call (.Attribute o name apos) (e::es) [] aY) (zBM T z po pa) :=by
 obtain ⟨r,h1,h2⟩:=hm
 exact (Iv h pat slot mr h1 ho ha iM kT hline hs gf).imp fun σ H Q ⟨β,ρ,M,Q',zr,h,q⟩=>⟨β,ρ,M,_,zr,h,fun d M1 v H1 x1 r1 ⟨ht,h1⟩=>⟨Jt x1.mz r1 ht,β,ρ,M1,_,zr.step x1,h1,fun ds M2 vs H2 x2 r2 h3=>
  h2 β v vs d ds M2 H2 _ _ zr.eP zr.ew zr.eK x2.mz (r1.ex x2) r2 h3 fun d' M' v' H' x3 r3 q3=>q _ _ _ _ (x1.trans (x2.trans x3)) r3 q3⟩⟩
end
def zAppend:mW:=fun d ds M Q=>match d,ds with | .ptr a,[y]=>(match M a with|some (.lst xs)=>xs.length<sizeLine/\Q .aB (au M a (.lst (xs++[y])))|_=>False)|_,_=>False
theorem lb:wW Γ X "list" "list.append" K zAppend:=⟨_,rh,fun β x xs d ds M H Q Q' _ _ _ m r rs z q=>by
 unfold zAppend at z
 split at z
 ·rename_i a y
  split at z
  ·rename_i es he
   obtain ⟨e,hs⟩:=cA r
   obtain ⟨v,e2,rv⟩:=dz rs
   subst e e2
   obtain ⟨vs,hv,gN⟩:=m.obj a _ he
   refine ⟨a,vs,v,rfl,rfl,hv,by rw [gN.len];exact z.1,?_⟩
   exact q _ _ _ _ (Ex.own m (.inl hs) (gN.snoc rv)) .aB z.2
  ·exact z.elim
 ·exact z.elim⟩
def zPop:mW:=fun d ds M Q=>match d,ds with | .ptr a,[]=>(match M a with|some (.lst xs)=>(match xs[xs.length - 1]? with|some y=>Q y (au M a (.lst xs.dropLast))|none=>False)|_=>False)|_,_=>False
def zPopAt:mW:=fun d ds M Q=>match d,ds with | .ptr a,[.int i]=>(match M a with|some (.lst xs) => -(2 ^ 63)<=i/\i<2 ^ 63/\(match seqIndex? i xs.length with|some k=>(match xs[k]? with|some y=>Q y (au M a (.lst (xs.eraseIdx k)))|none=>False)|none=>False)|_=>False)|_,_=>False
theorem aF.eraseIdx {M:Mh} {H:Hp} {vs:List V} {ds:List Dv} (h:aF β M H vs ds) (k:Nat):aF β M H (vs.eraseIdx k) (ds.eraseIdx k) :=by
 rw [List.eraseIdx_eq_take_drop_succ,List.eraseIdx_eq_take_drop_succ]
 exact (h.take _).append (h.drop _)
theorem wX:wW Γ X "list" "list.pop" K zPopAt:=⟨_,Cm,fun β x xs d ds M H Q Q' _ _ _ m r rs z q=>by
 unfold zPopAt at z
 split at z
 ·rename_i a i
  split at z
  ·rename_i es he
   obtain ⟨b1,b2,z⟩:=z
   split at z
   ·rename_i k hk
    split at z
    ·rename_i y hy
     obtain ⟨e,hs⟩:=cA r
     obtain ⟨v0,e2,QN⟩:=dz rs
     subst e e2
     rw [aS QN]
     obtain ⟨vs,hv,gN⟩:=m.obj a _ he
     obtain ⟨v,QO,rv⟩:=gN.get hy
     refine ⟨a,vs,i,k,v,rfl,rfl,hv,b1,b2,by rw [gN.len];exact hk,QO,?_⟩
     have x2:=Ex.own m (.inl hs) (gN.eraseIdx k)
     exact q _ _ _ _ x2 (rv.ex x2) z
    ·exact z.elim
   ·exact z.elim
  ·exact z.elim
 ·exact z.elim⟩
def zIndexS:mW:=fun d ds M Q=>match d,ds with | .str a,[.str b]=>(match Fk a b 0 a.length 1 with|i::_=>Q (.int (i:Nat)) M | []=>False)|_,_=>False
theorem CZ:wW Γ X "str" "str.index" K zIndexS:=⟨_,CG,fun β x xs d ds M H Q Q' _ _ _ m r rs z q=>by
 unfold zIndexS at z
 split at z
 ·split at z
  ·rename_i i rest hi
   obtain ⟨v,e2,rv⟩:=dz rs
   subst e2
   exact ⟨_,_,i,rest,bJ r,by rw [bJ rv],hi,q _ _ _ _ (.refl m) (.int _) z⟩
  ·exact z.elim
 ·exact z.elim⟩
def zSetI:Dv->Dv->Dv->Mh->(Mh->Prop)->Prop:=fun o i v M N=>match o,i with | .ptr a,.int k=>(match M a with|some (.lst xs)=>(match gd xs.length k with|some j=>N (au M a (.lst (xs.set j v)))|none=>False)|_=>False)|_,_=>False
def zgSub (po pi:aH):cS:=fun d ρ M N=>po ρ M fun o M1=>pi ρ M1 fun i M2=>zSetI o i d M2 fun M3=>N ρ M3
theorem mX {o i:ci} {po pi:aH} {pos:rf} (ho:QE Γ X o po) (hi:QE Γ X i pi)
  (ha:∀v,assign (.Subscript o i pos) X.env v=(do
   let ov <- holding [v] (eval o X.env)
   let iv <- holding [v,ov] (eval i X.env)
   standAt pos
   holding [v,ov,iv] (setItem ov iv v)
   release [v,ov,iv] []) :=by intro _;rfl):QG Γ X (.Subscript o i pos) (zgSub po pi):=
 (Hh ho hi set_list ha).imp fun v σ H N ⟨β,d,ρ,M,N',zr,r,h,q⟩=>⟨β,ρ,M,_,zr,h,fun od M1 ov H1 x1 r1 h1=>⟨β,ρ,M1,_,zr.step x1,h1,fun SE M2 iv H2 x2 r2 h2=>by
  unfold zSetI at h2
  split at h2
  ·rename_i a k
   split at h2
   ·rename_i es he
    split at h2
    ·rename_i j hj
     obtain ⟨e,hs⟩:=cA (r1.ex x2)
     subst e
     rw [aS r2]
     obtain ⟨vs,hv,gN⟩:=x2.mz.obj a _ he
     have x3:=Ex.own x2.mz (.inl hs) (gN.set j ((r.ex x1).ex x2))
     exact ⟨a,vs,k,j,rfl,rfl,hv,by rw [gN.len];exact hj,q _ _ _ _ (x1.trans (x2.trans x3)) (((zr.step x1).step x2).step x3) h2⟩
    ·exact h2.elim
   ·exact h2.elim
  ·exact h2.elim⟩⟩
end
end L2
namespace L2
open PySem PySem.Spec PySem.W PyProof.Rows
abbrev ZX:=ac->Mh->Prop
abbrev bZ:=List Dv->Mh->ZK->ZX->Prop
def aR (P:cr) (w:gc) (K:ar) (tb:cu) (S:bZ):Sp:=fun vs H Q E=>∃(β:Bz) (ds:List Dv) (M:Mh) (Q':ZK) (E':ZX),β.P=P/\β.w=w/\β.K=K/\β.tb=tb/\Mz β M H/\aF β M H vs ds/\S ds M Q' E' /\
 (∀d M' v H',Ex β M H M' H'->Rz β M' H' v d->Q' d M'->Q v H')/\∀C M' H',Ex β M H M' H'->E' C M'->E (.ref C) none H'
theorem Rz.lg {β:Bz} {M0 M:Mh} {H:Hp} (dom:∀a,(M0 a).isSome=true->(M a).isSome=true) {v:V} {d:Dv} (h:Rz β M H v d):Pin M0 d->Rz β M0 H v d :=by
 have ne:∀a,Fz β M a->Fz β M0 a:=fun a m=>⟨(by
  cases e:M0 a with
  |none=>rfl
  |some o=>have:=dom a (by rw [e];rfl);rw [m.1] at this;cases this),m.2⟩
 induction h with
 |int i=>exact fun _=>.int i
 |bl b=>exact fun _=>.bl b
 |aB=>exact fun _=>.aB
 |str z=>exact fun _=>.str z
 |tup m e hl h ih=>
  intro p
  cases p with
  |tup p=>exact .tup (ne _ m) e hl fun i v d a b=>ih i v d a b (p d (c8 b))
 |lst m e hl h ih=>
  intro p
  cases p with
  |lst p=>exact .lst (ne _ m) e hl fun i v d a b=>ih i v d a b (p d (c8 b))
 |set m e=>exact fun _=>.set (ne _ m) e
 |ptr m=>intro p;cases p with|ptr p=>exact .ptr p
 |exc m e=>exact fun _=>.exc (ne _ m) e
 |bj m e=>exact fun _=>.bj (ne _ m) e
 |cF m e=>exact fun _=>.cF (ne _ m) e
 |cG e=>exact fun _=>.cG e
 |dk m e hk hl h ih=>
  intro p
  cases p with
  |dk p=>exact .dk (ne _ m) e hk hl fun i v d a b=>ih i v d a b (p d (c8 b))
 |dt m e hk hl h ih=>
  intro p
  cases p with
  |dt p=>exact .dt (ne _ m) e hk hl fun i v d a b=>ih i v d a b (p d (c8 b))
 |bU m e m2 e2 hl h ih=>
  intro p
  cases p with
  |bU p=>exact .bU (ne _ m) e (ne _ m2) e2 hl fun i v d a b=>ih i v d a b (p d (c8 b))
 |raw v=>exact fun _=>.raw v
inductive mh (M0 M:Mh):Dv->Dv->Prop where
 |pin {d:Dv} (h:Pin M0 d):mh M0 M d d
 |ptr {a:ac} {ds ds':List Dv} (h0:M0 a=none) (h:M a=some (.lst ds)) (hl:ds.length=ds'.length) (r:∀(i:Nat) (d d':Dv),ds[i]?=some d->ds'[i]?=some d'->mh M0 M d d'):mh M0 M (.ptr a) (.lst ds')
 |tup {ds ds':List Dv} (hl:ds.length=ds'.length) (r:∀(i:Nat) (d d':Dv),ds[i]?=some d->ds'[i]?=some d'->mh M0 M d d'):mh M0 M (.tup ds) (.tup ds')
 |dk {a:ac} {ks:List Key} {ds ds':List Dv} (h0:M0 a=none) (h:M a=some (.dk ks ds)) (hl:ds.length=ds'.length) (r:∀(i:Nat) (d d':Dv),ds[i]?=some d->ds'[i]?=some d'->mh M0 M d d'):mh M0 M (.ptr a) (.dk ks ds')
 |dt {a:ac} {ks:List (List Key)} {ds ds':List Dv} (h0:M0 a=none) (h:M a=some (.dt ks ds)) (hl:ds.length=ds'.length) (r:∀(i:Nat) (d d':Dv),ds[i]?=some d->ds'[i]?=some d'->mh M0 M d d'):mh M0 M (.ptr a) (.dt ks ds')
theorem mh.rz {β:Bz} {M0 M:Mh} {H:Hp} (mz:Mz β M H) (dom:∀a,(M0 a).isSome=true->(M a).isSome=true) {d d':Dv} (h:mh M0 M d d'):∀{v:V},Rz β M H v d->Rz β M0 H v d':=by
 induction h with
 |pin h=>exact fun r=>r.lg dom h
 |ptr h0 h hl r ih=>
  intro v r
  obtain ⟨rfl,_⟩:=cA r
  obtain ⟨vs,hv,rs⟩:=mz.obj _ _ h
  refine .lst ⟨h0,mz.apart _ _ h⟩ hv (rs.len.trans hl) fun i v d a b=>?_
  obtain ⟨d0,q,rd⟩:=rs.get' a
  exact ih i d0 d q b rd
 |dk h0 h hl r ih=>
  intro v r
  obtain ⟨rfl,_⟩:=cA r
  obtain ⟨vs,hv,hk,rs⟩:=mz.obj _ _ h
  refine .dk ⟨h0,mz.apart _ _ h⟩ (.inl hv) hk (rs.len.trans hl) fun i v d a b=>?_
  obtain ⟨d0,q,rd⟩:=rs.get' a
  exact ih i d0 d q b rd
 |dt h0 h hl r ih=>
  intro v r
  obtain ⟨rfl,_⟩:=cA r
  obtain ⟨vs,hv,hk,rs⟩:=mz.obj _ _ h
  refine .dt ⟨h0,mz.apart _ _ h⟩ (.inl hv) hk (rs.len.trans hl) fun i v d a b=>?_
  obtain ⟨d0,q,rd⟩:=rs.get' a
  exact ih i d0 d q b rd
 |tup hl r ih=>
  intro v r
  obtain ⟨a,vs,rfl,f,hv,rs⟩:=dB r
  refine .tup ⟨?_,f.2⟩ hv (rs.len.trans hl) fun i v d a b=>?_
  ·cases e:M0 a with
   |none=>rfl
   |some o=>have:=dom a (by rw [e];rfl);rw [f.1] at this;cases this
  ·obtain ⟨d0,q,rd⟩:=rs.get' a
   exact ih i d0 d q b rd
def jo (M0:Mh) (Q:ZK):ZK:=fun d M=>Q d M\/((∀a o,M0 a=some o->M a=some o)/\∃d',mh M0 M d d'/\Q d' M0)
theorem nF {β:Bz} {M0 M:Mh} {H0 H:Hp} {Q':ZK} {Q:VK} (m0:Mz β M0 H0) (q:∀d M' v H',Ex β M0 H0 M' H'->Rz β M' H' v d->Q' d M'->Q v H') {d:Dv} {v:V} (x:Ex β M0 H0 M H) (r:Rz β M H v d) (h:jo M0 Q' d M):Q v H :=by
 rcases h with h|⟨same,d',rv,h⟩
 ·exact q _ _ _ _ x r h
 ·refine q d' M0 v H ⟨⟨x.keep,fun _ h=>h,fun _ _ h _=>h⟩,fun a o e=>?_,x.mz.tabs,x.mz.hids,m0.apart,x.mz.lams⟩ (rv.rz x.mz x.dom r) h
  have z:=x.mz.obj a o (same a o e)
  have z0:=m0.obj a o e
  cases o with
  |lst ds=>
   obtain ⟨vs,z,rs⟩:=z
   obtain ⟨Ja,_,Ar⟩:=z0
   refine ⟨vs,z,rs.len,fun i v d a b=>(rs.at' i v d a b).lg x.dom ?_⟩
   obtain ⟨v0,_,r0⟩:=Ar.get b
   exact r0.pin
  |dk ks ds=>
   obtain ⟨vs,z,hk,rs⟩:=z
   obtain ⟨Ja,_,_,Ar⟩:=z0
   refine ⟨vs,z,hk,rs.len,fun i v d a b=>(rs.at' i v d a b).lg x.dom ?_⟩
   obtain ⟨v0,_,r0⟩:=Ar.get b
   exact r0.pin
  |dt ks ds=>
   obtain ⟨vs,z,hk,rs⟩:=z
   obtain ⟨Ja,_,_,Ar⟩:=z0
   refine ⟨vs,z,hk,rs.len,fun i v d a b=>(rs.at' i v d a b).lg x.dom ?_⟩
   obtain ⟨v0,_,r0⟩:=Ar.get b
   exact r0.pin
  |c6=>exact z
def zstart (N:List ba) (ds:List Dv):aA:=ds.map some++qr (N.length - ds.length) none
theorem oG {Γ:Gz} {N:List ba} {vs:List V} {ds:List Dv} (m:Mz Γ.toBz Γ.M0 Γ.H0) (rs:aF Γ.toBz Γ.M0 Γ.H0 vs ds):Zr Γ Γ.toBz Γ.M0 (zstart N ds) (start N vs) Γ.H0:=⟨rfl,rfl,rfl,rfl,fun _ h=>h,m.wf,.refl,m,by simp [zstart,start,rs.len],fun i d e=>by
 unfold zstart at e
 unfold start
 rw [Tw] at e ⊢
 rw [cb] at e ⊢
 rw [rs.len]
 split at e
 ·rename_i hi
  rw [if_pos hi]
  rw [br,io] at e
  obtain ⟨d2,e,e2⟩:=e
  cases e2
  obtain ⟨v,hv,r⟩:=rs.get e
  exact ⟨v,by rw [br,hv];rfl,r⟩
 ·rw [NJ] at e
  split at e <;> cases e⟩
def zEndsOf (M0:Mh) (Q:ZK):fy:={nx:=fun _ M=>jo M0 Q .aB M,rt:=jo M0 Q}
def XR (Γ:Gz) (E':ZX) (E:XK):Prop:=∀C M' H',Ex Γ.toBz Γ.M0 Γ.H0 M' H'->E' C M'->E (.ref C) none H'
section
variable {P:cr} {w:gc} {K:ar} {mg:ba->Option ag} {base:db} {tb:cu} {x:ba} {st:mv} {f:ac} {fd:im} {N ps:List ba} {k:Nat} {S:bZ}
theorem qy (len:∀ds M Q E,S ds M Q E->ds.length=ps.length):∀vs H Q E,aR P w K tb S vs H Q E->vs.length=ps.length:=fun vs H Q E hS=>by
 obtain ⟨β,ds,M,Q',E',_,_,_,_,m,rs,s,_⟩:=hS
 exact rs.len.trans (len _ _ _ _ s)
theorem gA (D:Df K mg x st ps f fd) (sc:aM N ps (ak st)) (len:∀ds M Q E,S ds M Q E->ds.length=ps.length)
  (body:∀(A:l9) (outer:List Go) (s:ap) (E:XK) (Γ:Gz) (ds:List Dv) (Q':ZK) (E':ZX),P=Γ.P->w=Γ.w->K=Γ.K->tb=Γ.tb->bG k (A.deeper (envOfC x (ak st) s.heap.objs.size f fd.code))->S ds Γ.M0 Q' E'->
   ∃p,md Γ (fi bL P w K mg base N x (ak st) f fd.code A outer s Γ.H0 E).iI (bN st) p/\p (zEndsOf Γ.M0 Q') (zstart N ds) Γ.M0):FnOk P w K mg base bL (k+1) f fd ps (aR P w K tb S) :=by
 refine D.fn.Qj sc (qy len) fun A outer s H vs Q E hr h=>?_
 obtain ⟨β,ds,M,Q',E',eP,ew,eK,et,m,rs,hS,q,_⟩:=h
 obtain ⟨p,hp,hq⟩:=body A outer s E ⟨β,M,H⟩ ds Q' E' eP.symm ew.symm eK.symm et.symm hr hS
 refine ⟨_,hp,β,zstart N ds,M,zEndsOf M Q',oG (Γ:=⟨β,M,H⟩) m rs,hq,?_⟩
 have fin:∀d M' v H',Ex β M H M' H'->Rz β M' H' v d->jo M Q' d M'->Q v H':=fun d M' v H' x r h=>nF m q x r h
 exact ⟨fun bS M' aI H' x zr h=>fin _ _ _ _ ⟨zr.ent,x.mz⟩ .aB h,fun d M' v H' x e r h=>fin _ _ _ _ ⟨e,x.mz⟩ r h,fun _ _ _ _ _ _ h=>h,fun _ _ _ _ _ _ h=>h⟩
end
section
variable {P:cr} {w:gc} {K:ar} {mg:ba->Option ag} {base:db} {tb:cu} {x:ba} {st:mv} {f:ac} {fd:im} {N ps:List ba} {k:Nat} {S:bZ}
theorem gB (D:Df K mg x st ps f fd) (sc:aM N ps (ak st)) (len:∀ds M Q E,S ds M Q E->ds.length=ps.length)
  (body:∀(A:l9) (outer:List Go) (s:ap) (E:XK) (Γ:Gz) (ds:List Dv) (Q':ZK) (E':ZX),P=Γ.P->w=Γ.w->K=Γ.K->tb=Γ.tb->XR Γ E' E->bG k (A.deeper (envOfC x (ak st) s.heap.objs.size f fd.code))->S ds Γ.M0 Q' E'->
   ∃p,md Γ (fi (ck P w) P w K mg base N x (ak st) f fd.code A outer s Γ.H0 E) (bN st) p/\p (zEndsOf Γ.M0 Q') (zstart N ds) Γ.M0):FnOk P w K mg base (ck P w) (k+1) f fd ps (aR P w K tb S) :=by
 refine D.fn.tV sc (qy len) fun A outer s H vs Q E hr h=>?_
 obtain ⟨β,ds,M,Q',E',eP,ew,eK,et,m,rs,hS,q,qx⟩:=h
 obtain ⟨p,hp,hq⟩:=body A outer s E ⟨β,M,H⟩ ds Q' E' eP.symm ew.symm eK.symm et.symm qx hr hS
 refine ⟨_,hp,β,zstart N ds,M,zEndsOf M Q',oG (Γ:=⟨β,M,H⟩) m rs,hq,?_⟩
 have fin:∀d M' v H',Ex β M H M' H'->Rz β M' H' v d->jo M Q' d M'->Q v H':=fun d M' v H' x r h=>nF m q x r h
 exact ⟨fun bS M' aI H' x zr h=>fin _ _ _ _ ⟨zr.ent,x.mz⟩ .aB h,fun d M' v H' x e r h=>fin _ _ _ _ ⟨e,x.mz⟩ r h,fun _ _ _ _ _ _ h=>h,fun _ _ _ _ _ _ h=>h⟩
end
section
variable {X:Cx} {Γ:Gz} {β:Bz} {K:ar}
def zCall (S:bZ) (E':ZX) (za:dI):aH:=fun ρ M Q=>za ρ M fun ds M1=>S ds M1 Q E'
theorem XR.none:XR Γ (fun _ _=>False) (fun _ _ _=>False):=fun _ _ _ _ h=>h
theorem pK {M M1 M2:Mh} {H H1 H2:Hp} (ent:Ey M H M1 H1) (sub:∀a,a∈Γ.hid->a∈β.hid) (eP:β.P=Γ.P) (ew:β.w=Γ.w) (eK:β.K=Γ.K) (et:β.tb=Γ.tb) (x:Ex β M1 H1 M2 H2):Ex Γ.toBz M H M2 H2:=⟨ent.trans x.toEy,x.mz.sub eP.symm ew.symm eK.symm et.symm sub⟩
section
variable {CX:fQ} {k:Nat} {f:ac} {fd:im} {ps:List ba} {S:bZ} {E:XK} {E':ZX} {x:ba} {p pos:rf} {e:ci} {es:List ci} {za:dI} {P:cr} {w:gc} {tb:cu}
theorem Ju (hP:P=Γ.P) (hw:w=Γ.w) (hK:K=Γ.K) (ht:tb=Γ.tb) (hE:XR Γ E' E) {σ:St} {H:Hp} {Q:VK} (h:lE Γ (zCall S E' za) σ H Q):D4 (aR P w K tb S) [] E (lA Γ za) σ H Q :=by
 subst hP hw hK ht
 obtain ⟨β,ρ,M,Q',zr,h,q⟩:=h
 refine ⟨β,ρ,M,_,zr,h,fun ds M1 vs H1 x1 r1 h1=>?_⟩
 show aR Γ.P Γ.w Γ.K Γ.tb S (vs++[]) H1 Q E
 rw [Co]
 exact ⟨β,ds,M1,Q',E',zr.eP,zr.ew,zr.eK,zr.et,x1.mz,r1,h1,fun d M2 v H2 x2 r2 h2=>q _ _ _ _ (x1.trans x2) r2 h2,fun C M2 H2 x2 h2=>hE C M2 H2 (pK zr.ent zr.sub zr.eP zr.ew zr.eK zr.et (x1.trans x2)) h2⟩
theorem aE (F:FnOk X.prog X.w X.K X.mg X.base CX k f fd ps (aR P w K tb S)) (hr:bG k X.A) (hg:Gl X x) (hm:X.mg x=some (.ref f)) (hk:AC X.K (.ref f)=true) (hb:Binds X.K fd ps []) (hx:Passes CX X E) (hP:P=Γ.P) (hw:w=Γ.w) (hK:K=Γ.K) (ht:tb=Γ.tb) (hE:XR Γ E' E)
  (ha:QA Γ X (e::es) za) (eO:(x==("__debug__" : ba))=false :=by decide) (he:starEach (e::es) X.env=(false,eval e X.env)::starEach es X.env :=by rfl) (cZ:(backTo pos (starEach es X.env)).any (·.1)=false :=by rfl) :
  QE Γ X (.Call (.Name x p) (e::es) [] pos) (zCall S E' za):=(Fn F hr hg hm hk hb .nil hx ha eO he cZ).imp fun σ H Q h=>Ju hP hw hK ht hE h
end
def zRaise (C:ac) (E':ZX) (za:dI):b9:=fun _ ρ M=>za ρ M fun ds M1=>ds.length<=sizeLine/\E' C M1
theorem lh {x:ba} {C:ac} {ka:ci} {rest:List ci} {za:dI} {rH:List ag} {B newId ue:String} {E:XK} {E':ZX} {np aY pos:rf} (O:T0 X.K C rH newId=true) (FB:ExcBaseFacts B newId ue rH) (hc:X.calm=true) (hR:Raises X E) (hE:XR Γ E' E) (hg:Gl X x) (hm:X.mg x=some (.ref C)) (ha:QA Γ X (ka::rest) za)
  (eO:(x==("__debug__" : ba))=false :=by decide) (he:starEach (ka::rest) X.env=(false,eval ka X.env)::starEach rest X.env :=by rfl) (cZ:(backTo aY (starEach rest X.env)).any (·.1)=false :=by rfl) :
  QS Γ X (.Raise (some (.Call (.Name x np) (ka::rest) [] aY)) none pos) (zRaise C E' za):=(CH O FB hc hR hg hm ha eO he cZ).imp fun D σ H ⟨β,ρ,M,D',zr,h,r⟩=>⟨β,ρ,M,_,zr,h,fun ds M1 vs H1 x1 r1 h1=>
 ⟨by rw [r1.len];exact h1.1,hE C M1 H1 (pK zr.ent zr.sub zr.eP zr.ew zr.eK zr.et x1) h1.2⟩⟩
section
variable {tg elt iter:ci} {ifs:List ci} {scope:uu} {pos:rf} {N':List ba} {tn:Nat} {idx:List Nat} {zi:ft} {g:cS} {tt:cW} {te:aH} {c P:ac} {k:Nat}
theorem oh (hc:X.calm=true) (B:a7 X.N X.env.scope scope N' tn idx) (hi:QI Γ X tg iter zi)
  (hg:Blk X N' scope fun Y=>QG Γ Y tg g) (ht:Blk X N' scope fun Y=>uz Γ Y ifs tt) (he:Blk X N' scope fun Y=>QE Γ Y elt te)
  (hs:∀x,foldedSetIterable iter X.env x=pure x :=by intro _;rfl):QE Γ X (.ListComp elt [⟨tg,iter,ifs,0⟩] scope pos) (zComp tn idx zi g tt te):=(vD hc B hi hg ht he hs).imp fun σ H Q h=>An h
theorem lj {i:Nat} {y:ba} {py mB:rf} (hN:X.N.Nodup) (fS:X.N[i]?=some y) (hy:X.env.scope.names.lookup y=some .local) (hc:X.calm=true) (B:a7 X.N X.env.scope scope N' tn idx) (hi:QI Γ X tg iter zi)
  (hg:Blk X N' scope fun Y=>QG Γ Y tg g) (ht:Blk X N' scope fun Y=>uz Γ Y ifs tt) (he:Blk X N' scope fun Y=>QE Γ Y elt te)
  (zG:swapsWith (.ListComp elt [⟨tg,iter,ifs,0⟩] scope pos) (some (.Name y py)) mB.line X.env=pure true :=by rfl)
  (hs:∀x,foldedSetIterable iter X.env x=pure x :=by intro _;rfl):QS Γ X (.Assign [.Name y py] (.ListComp elt [⟨tg,iter,ifs,0⟩] scope pos) mB) (zAsg (zComp tn idx zi g tt te) (zgName i)):=(o9 hN fS hy hc B hi hg ht he zG hs).imp fun D σ H h=>yf (fun _ _ _ h=>An h) h
theorem vM {i:Nat} {y:ba} {py mB:rf} (hN:X.N.Nodup) (fS:X.N[i]?=some y) (hy:X.env.scope.names.lookup y=some .local) (hc:X.calm=true) (B:a7 X.N X.env.scope scope N' tn idx) (hi:QI Γ X tg iter zi)
  (hg:Blk X N' scope fun Y=>QG Γ Y tg g) (ht:Blk X N' scope fun Y=>uz Γ Y ifs tt) (he:Blk X N' scope fun Y=>QE Γ Y elt te)
  (zG:swapsWith (.ListComp elt [⟨tg,iter,ifs,0⟩] scope pos) (some (.Name y py)) mB.line X.env=pure true :=by rfl)
  (hs:∀x,foldedSetIterable iter X.env x=pure x :=by intro _;rfl):QS Γ X (.Assign [.Name y py] (.ListComp elt [⟨tg,iter,ifs,0⟩] scope pos) mB) (zAsg (zCompP tn idx zi g tt te) (zgName i)):=(o9 hN fS hy hc B hi hg ht he zG hs).imp fun D σ H h=>yf (fun _ _ _ h=>FX h) h
theorem uG {p j8:rf} (hP:P∈Γ.tb) (hr:bG (k+1) X.A) (hc:X.calm=true) (B:a7 X.N X.env.scope scope N' tn idx)
  (h0:scope.names.lookup (".0" : ba)=some .local) (jP:scope.isCoroutine=false) (dG:X.env.code=.ref c) (hd:mT X.base c P) (di:∃bm ob,SX X.base mainGlobals X.mg bm ob)
  (rC:Gl X "all") (hm:X.mg "all" = none) (hi:QI Γ X tg iter zi) (hg:dW X N' scope k fun Y=>QG Γ Y tg g) (ht:dW X N' scope k fun Y=>uz Γ Y ifs tt) (he:dW X N' scope k fun Y=>QE Γ Y elt te)
  (hs:∀x,genFold iter X.env x=pure x :=by intro _;rfl):QE Γ X (.Call (.Name "all" p) [dy elt tg iter ifs scope j8] [] pos) (zAll tn idx zi g tt te):=(Ii hr hc B h0 jP dG hd di rC hm hi hg ht he hs).imp fun σ H Q h=>L5 hP h
end
end
section
variable {X:Cx} {Γ:Gz} {β:Bz} {K:ar}
section
variable {tg elt iter:ci} {ifs:List ci} {scope:uu} {pos:rf} {N':List ba} {tn:Nat} {idx:List Nat} {zi:ft} {g:cS} {tt:cW} {te:aH} {c P:ac} {k:Nat}
theorem vN {p j8:rf} (hP:P∈Γ.tb) (hr:bG (k+1) X.A) (hc:X.calm=true) (B:a7 X.N X.env.scope scope N' tn idx)
  (h0:scope.names.lookup (".0" : ba)=some .local) (jP:scope.isCoroutine=false) (dG:X.env.code=.ref c) (hd:mT X.base c P) (di:∃bm ob,SX X.base mainGlobals X.mg bm ob)
  (rC:Gl X "tuple") (hm:X.mg "tuple" = none) (hi:QI Γ X tg iter zi) (hg:dW X N' scope k fun Y=>QG Γ Y tg g) (ht:dW X N' scope k fun Y=>uz Γ Y ifs tt) (he:dW X N' scope k fun Y=>QE Γ Y elt te)
  (hs:∀x,genFold iter X.env x=pure x :=by intro _;rfl):QE Γ X (.Call (.Name "tuple" p) [dy elt tg iter ifs scope j8] [] pos) (zTupG tn idx zi g tt te):=(vG hr hc B h0 jP dG hd di rC hm hi hg ht he hs).imp fun σ H Q h=>Jp hP h
def Et (g:cS) (tt:cW) (te:aH):List Dv->aA->Mh->(List Int->Mh->Prop)->List Int->Prop
 | [],_,M,Q,acc=>Q acc M
 |d::ds,τ,M,Q,acc=>g d τ M fun aD M2=>tt aD M2 fun b M3=>if b=true then te aD M3 fun y M4=>(match y with | .int k=>acc.length+1<scanBound/\Et g tt te ds aD M4 Q (O2 acc k)|_=>False) else Et g tt te ds aD M3 Q acc
end
def eR (xs ys:List Dv):List Dv:=(xs.zip ys).map fun p=>.tup [p.1,p.2]
def iF (n:Nat):List Dv:=(on n).map fun i=>.int (i:Nat)
theorem rR {J:It} {vs us:List V} {ds es:List Dv} {M:Mh} {H:Hp} (r:aF β M H vs ds) (r2:aF β M H us es) (h:∀M' H',Ey M H M' H'->Ei J (vs.zip us) H'):Ac β J (eR ds es) M H:=fun cO M' H' bx x m i=>by
 have q:=h M' H' x i
 have hl:(eR ds es).length=(vs.zip us).length :=by simp [eR,r.len,r2.len]
 rw [hl]
 refine ⟨fun hi=>⟨(q.1 hi).1,fun v mM y=>?_⟩,q.2⟩
 obtain ⟨t,p,ht,rfl,hp,rfl⟩:=(q.1 hi).2 v mM y
 rw [zd] at hp
 obtain ⟨d,hd,rd⟩:=r.get' hp.1
 obtain ⟨e,he,re⟩:=r2.get' hp.2
 have x2:=Ex.lay m ht (.tup [p.1,p.2])
 refine ⟨x2,.tup [d,e],?_,jj (m.fz ht) ax (.cons (((rd.bx bx).ey x).ex x2) (.cons (((re.bx bx).ey x).ex x2) .nil))⟩
 unfold eR
 rw [br,io]
 exact ⟨(d,e),by rw [zd];exact ⟨hd,he⟩,rfl⟩
theorem enum_zip (vs:List V):((on vs.length).map fun i=>(V.int (i:Nat),vs.getD i .aB))=((on vs.length).map fun i=>V.int (i:Nat)).zip vs :=by
 refine List.ext_getElem? fun i=>?_
 by_cases hi:i<vs.length
 ·rw [br,wP hi]
  symm
  show _=some (V.int (i:Nat),vs.getD i .aB)
  rw [zd,br,wP hi,wS,bi hi]
  exact ⟨rfl,rfl⟩
 ·rw [List.getElem?_eq_none_iff.mpr (by simp;omega),List.getElem?_eq_none_iff.mpr (by simp;omega)]
theorem qz {n:Nat} {M:Mh} {H:Hp}:aF β M H ((on n).map fun i=>V.int (i:Nat)) (iF n):=⟨by simp [iF],fun i v d a b=>by
 unfold iF at b
 rw [br] at a b
 cases e:(on n)[i]? with
 |none=>rw [e] at a;cases a
 |some c=>rw [e] at a b;cases a;cases b;exact .int _⟩
theorem Sq.NK {H:Hp} {a:ac} {xs:List V} (h:H a=some (.lst xs)):Sq true K H a xs :=by
 unfold Sq
 exact bY.of h
theorem Sq.ofT {H:Hp} {a:ac} {xs:List V} (h:H a=some (.tup xs)):Sq false K H a xs :=by
 unfold Sq
 exact dh.of h
section
variable {elts:List ci} {x1:Nat} {tp p pos:rf} {l l1 l2:ci} {pl p1 p2:aH}
def ziEnumK (k:Bool) (p:aH):ft:=fun ρ M R=>p ρ M fun d M1=>match k,d with|false,.tup ds=>R (eR (iF ds.length) ds) M1|true,.lst ds=>R (eR (iF ds.length) ds) M1|_,_=>False
theorem F1 (k:Bool) (hK:X.K=K) (hg:Gl X "enumerate") (hm:X.mg "enumerate" = none) (hl:QE Γ X l pl) (hs:starEach [l] X.env=[(false,eval l X.env)] :=by rfl) :
  QI Γ X (.Tuple elts x1 tp) (.Call (.Name "enumerate" p) [l] [] pos) (ziEnumK k pl):=(FO k hK hg hm hl hs).imp fun σ H R ⟨β,ρ,M,R',zr,h,q⟩=>⟨β,ρ,M,_,zr,h,fun d M1 v H1 x1 r1 h1=>by
 revert h1
 split
 ·intro h1
  obtain ⟨a,vs,rfl,f,e,rs⟩:=dB r1
  refine ⟨a,rfl,⟨vs,Sq.ofT e⟩,q _ _ _ _ x1 ?_ h1⟩
  rw [<- rs.len]
  exact rR qz rs fun M' H' x=>by rw [<- enum_zip];exact rJ (Sq.ofT (x.get f.1 e rfl))
 ·intro h1
  obtain ⟨a,vs,rfl,f,e,rs⟩:=fV r1
  refine ⟨a,rfl,⟨vs,Sq.NK e⟩,q _ _ _ _ x1 ?_ h1⟩
  rw [<- rs.len]
  exact rR qz rs fun M' H' x=>by rw [<- enum_zip];exact rJ (Sq.NK (x.get f.1 e rfl))
 ·exact fun h=>h.elim⟩
end
def zRangeP (p:aH):aH:=fun ρ M Q=>p ρ M fun d M1=>match d with | .int j => -(2 ^ 24)<=j/\j<=2 ^ 24/\∀a,M1 a=none->Q (.ptr a) (au M1 a (.lst (iF j.toNat)))|_=>False
section
variable {e:ci} {pe:aH} {p p1 p2 pos:rf}
theorem sH (hc:X.calm=true) (hg:Gl X "list") (hm:X.mg "list" = none) (Io:Gl X "range") (Ip:X.mg "range" = none) (he:QE Γ X e pe) (hs:starEach [e] X.env=[(false,eval e X.env)] :=by rfl) :
  QE Γ X (.Call (.Name "list" p) [.Call (.Name "range" p1) [e] [] p2] [] pos) (zRangeP pe):=(tX hc hg hm Io Ip he hs).imp fun σ H Q ⟨β,ρ,M,Q',zr,h,q⟩=>⟨β,ρ,M,_,zr,h,fun d M1 v H1 x1 r1 h1=>by
 revert h1
 split
 ·rename_i j
  rintro ⟨b1,b2,h1⟩
  refine ⟨_,aS r1,b1,b2,fun l hl=>?_⟩
  have x2:=Ex.own x1.mz (.inr hl) (qz (n:=j.toNat) (β:=β) (M:=M1) (H:=H1))
  exact q _ _ _ _ (x1.trans x2) (.ptr (by rw [updM_same];rfl)) (h1 l (x1.mz.free hl))
 ·exact fun h=>h.elim⟩
def truD (M:Mh):Dv->Option Bool
 | .bl b=>some b
 | .aB=>some false
 | .int i=>some (i != 0)
 | .str z=>if z.length<=sizeLine then some ((z.length:Int) != 0) else none
 | .tup ds=>some (!ds.isEmpty)
 | .lst ds=>some (!ds.isEmpty)
 | .ptr a=>match M a with|some (.lst ds)=>some (!ds.isEmpty)|_=>none
 |_=>none
def zTruth (p:aH):cW:=fun ρ M Q=>p ρ M fun d M1=>match truD M1 d with|some b=>Q b M1|none=>False
theorem aF.isEmpty {M:Mh} {H:Hp} {vs:List V} {ds:List Dv} (h:aF β M H vs ds):vs.isEmpty=ds.isEmpty :=by
 have:=h.len
 cases vs <;> cases ds <;> simp_all
theorem F2 {M:Mh} {H:Hp} {v:V} {d:Dv} {b:Bool} (m:Mz β M H) (r:Rz β M H v d) (h:truD M d=some b):Ca K v H b :=by
 cases r with
 |int i=>cases h;exact rfl
 |bl i=>cases h;exact rfl
 |aB=>cases h;exact rfl
 |str z=>
  simp only [truD] at h
  split at h
  ·rename_i hz
   cases h
   exact ⟨hz,rfl⟩
  ·cases h
 |tup f e hl q=>cases h;exact .inr (.inl ⟨_,dh.of e,by rw [aF.isEmpty ⟨hl,q⟩]⟩)
 |lst f e hl q=>cases h;exact .inl ⟨_,bY.of e,by rw [aF.isEmpty ⟨hl,q⟩]⟩
 |ptr hs=>
  simp only [truD] at h
  split at h
  ·rename_i ds rP
   cases h
   obtain ⟨vs,hv,rs⟩:=m.obj _ _ rP
   exact .inl ⟨_,bY.of hv,by rw [rs.isEmpty]⟩
  ·cases h
 |set f e=>cases h
 |exc f e=>cases h
 |bj f e=>cases h
 |cF f e=>cases h
 |cG e=>cases h
 |raw v=>cases h
 |dk f e _ _ _=>cases h
 |dt f e _ _ _=>cases h
 |bU _ _ _ _ _ _=>cases h
theorem C1 (ha:QE Γ X e pe) (he:∀whole,isTrue e X.env whole=(do let v <- whole;standAt e.pos;holding [v] (truthy v)) :=by intro _;rfl):QT Γ X e (zTruth pe):=(Cb ha he).imp fun σ H Q ⟨β,ρ,M,Q',zr,h,q⟩=>⟨β,ρ,M,_,zr,h,fun d M1 v H1 x1 r1 h1=>by
 revert h1
 split
 ·rename_i b hb
  intro h1
  exact ⟨b,F2 x1.mz r1 hb,q _ _ _ x1 h1⟩
 ·exact fun h=>h.elim⟩
end
theorem qv (i:Nat) {x:ba} {pos:rf} (hN:X.N[i]?=some x :=by rfl) (hv:oV X.env.scope x :=by first|exact l6 rfl|exact EO (l6 rfl)|exact EO (EO rfl)) (hd:(x==("__debug__" : ba))=false :=by decide)
  (dH:(x==("__classdict__" : ba))=false :=by decide):QE Γ X (.Name x pos) (zVar i):=Jh hN hv hd dH
end
theorem QP {c:Bool} {A B:Prop} (h:c=true) (a:A):if c=true then A else B :=by rw [if_pos h];exact a
theorem QR {c:Bool} {A B:Prop} (h:c=false) (b:B):if c=true then A else B :=by rw [h,if_neg ij];exact b
theorem dj {c:Bool} {A B:Prop} (h1:c=true->A) (h2:c=false->B):if c=true then A else B :=by
 cases c
 ·exact QR rfl (h2 rfl)
 ·exact QP rfl (h1 rfl)
theorem nG {g:cS} {te:aH} {M:Mh} (p:Dv->Bool) (I:aA->Prop):∀{ds:List Dv} {τ:aA} {Q:Bool->Mh->Prop},I τ->(∀d∈ds,∀τ,I τ->∀R:aA->ZK,(∀aD,I aD->R aD (.bl (p d)) M)->g d τ M fun aD M2=>te aD M2 (R aD))->Q (ds.all p) M->jT g zNoIf te ds τ M Q
 | [],τ,Q,_,_,q=>q
 |d::ds,τ,Q,i,h,q=>by
          refine h d i0 τ i (fun aD=>zBool fun c M4=>if c=false then Q false M4 else jT g zNoIf te ds aD M4 Q) fun aD i2=>?_
          show if p d=false then Q false M else jT g zNoIf te ds aD M Q
          cases e:p d with
          |false=>
           rw [if_pos rfl]
           rw [List.all_cons,e] at q
           exact q
          |true=>
           rw [if_neg (by decide)]
           rw [List.all_cons,e,S5] at q
           exact nG p I i2 (fun d' hd=>h d' (hX _ hd)) q
theorem nH {g:cS} {te:aH} (f:Dv->Dv) (I:aA->Mh->Prop):∀{ds:List Dv} {τ:aA} {M:Mh} {Q:List Dv->Mh->Prop},I τ M->(∀d∈ds,∀τ M,I τ M->∀R:aA->ZK,(∀aD M2,I aD M2->R aD (f d) M2)->g d τ M fun aD M2=>te aD M2 (R aD))->(∀τ M,I τ M->Q (ds.map f) M)->fj g zNoIf te ds τ M Q
 | [],τ,M,Q,i,_,q=>q τ M i
 |d::ds,τ,M,Q,i,h,q=>by
          refine h d i0 τ M i (fun aD y M4=>fj g zNoIf te ds aD M4 fun ys M5=>Q (y::ys) M5) fun aD M2 i2=>?_
          exact nH f I i2 (fun d' hd=>h d' (hX _ hd)) fun oe M3 i3=>q oe M3 i3
theorem qA {g:cS} {tt:cW} {te:aH} (t:Dv->Bool) (f:Dv->Dv) (I:aA->Mh->Prop):∀{ds:List Dv} {τ:aA} {M:Mh} {Q:List Dv->Mh->Prop},I τ M->
  (∀d∈ds,∀τ M,I τ M->∀(R0:aA->Mh->Prop) (R:aA->ZK),(t d=true->∀aD M2,I aD M2->R aD (f d) M2)->(t d=false->∀aD M2,I aD M2->R0 aD M2)->g d τ M fun aD M2=>tt aD M2 fun b M3=>if b=true then te aD M3 (R aD) else R0 aD M3)->
  (∀τ M,I τ M->Q ((ds.filter t).map f) M)->fj g tt te ds τ M Q
 | [],τ,M,Q,i,_,q=>q τ M i
 |d::ds,τ,M,Q,i,h,q=>by
          refine h d i0 τ M i (fun aD M3=>fj g tt te ds aD M3 Q) (fun aD y M4=>fj g tt te ds aD M4 fun ys M5=>Q (y::ys) M5) (fun e aD M2 i2=>?_) fun e aD M2 i2=>?_
          ·refine qA t f I i2 (fun d' hd=>h d' (hX _ hd)) fun oe M3 i3=>?_
           have:=q oe M3 i3
           rw [MW,if_pos e] at this
           exact this
          ·refine qA t f I i2 (fun d' hd=>h d' (hX _ hd)) fun oe M3 i3=>?_
           have:=q oe M3 i3
           rw [MW,if_neg (by rw [e];decide)] at this
           exact this
abbrev eI (ns:List Int):Dv:=.tup (ns.map .int)
abbrev eN (net:List (List Int)):Dv:=.tup (net.map eI)
abbrev gC (ns:List Int):Dv:=.lst (ns.map .int)
theorem jq {M:Mh} (ns:List Int):∀d∈ns.map Dv.int,Pin M d:=fun d hd=>by
 obtain ⟨i,_,rfl⟩:=sw.mp hd
 exact .int i
theorem Jv {M:Mh} (ns:List Int):Pin M (eI ns):=.tup (jq ns)
theorem As {M:Mh} (net:List (List Int)):Pin M (eN net):=.tup fun d hd=>by
 obtain ⟨r,_,rfl⟩:=sw.mp hd
 exact Jv r
theorem F3 {α β:Type} {f:α->β} {xs:List α} {i:Int} {x:α} (h:cj xs i=some x):cj (xs.map f) i=some (f x) :=by
 unfold cj at h ⊢
 rw [cb]
 cases e:gd xs.length i with
 |none=>rw [e] at h;cases h
 |some j=>rw [e] at h;simp only [Option.bind_some] at h ⊢;rw [br,h];rfl
theorem Au {α:Type} {xs:List α} {k:Nat} (h:k<xs.length):cj xs ((k:Nat):Int)=some xs[k]:=cE (bi h)
def spLaw (K:ar) (tb:cu):Sp:=fun vs H Q _=>∃(a:ac) (ns:List Int),vs=[.ref a]/\bY K H a (ns.map V.int)/\ns.length<=63/\Ec tb.g H/\(∀p∈tb.l,Lm H p)/\∀H',(∀p∈tb.l,∃ps,H' p.1=some (.lam ps))->Q (.bl true) H'
def Jw:bZ:=fun ds M Q _=>∃ns:List Int,ds=[.bj ns]/\ns.length<=63/\(∀a,M a=none)/\∀M',Q (.bl true) M'
theorem Jx {P:cr} {w:gc} {K:ar} {mg:ba->Option ag} {base:db} {k:Nat} {f:ac} {fd:im} {x:ba} {tb:cu} (G:FnOk P w K mg base bL k f fd [x] (aR P w K tb Jw)):FnOk P w K mg base bL k f fd [x] (spLaw K tb):=
 G.imp fun vs H Q E ⟨a,ns,e,hS,hl,hT,hL,q⟩=>by
  subst e
  have m:Mz ⟨P,w,K,tb,[]⟩ (fun _=>none) H:=⟨(fun a o e=>nomatch e),hT,(fun a ha=>absurd ha (by simp)),(fun a o e=>nomatch e),hL⟩
  refine ⟨⟨P,w,K,tb,[]⟩,[.bj ns],fun _=>none,fun d _=>d=.bl true,fun _ _=>False,rfl,rfl,rfl,rfl,m,.cons ?_ .nil,⟨ns,rfl,hl,fun _=>rfl,fun _=>rfl⟩,fun d M' v H' x r h=>?_,fun _ _ _ _ h=>h.elim⟩
  ·have fz:Fz ⟨P,w,K,tb,[]⟩ (fun _=>none) a:=⟨rfl,by simp⟩
   rcases hS with (h|⟨o,h⟩)|h
   ·exact .cF fz h
   ·exact .bj fz h
   ·exact .cG h
  ·subst h
   rw [dE r]
   exact q H' fun p hp=>let ⟨ps,e,_⟩:=x.mz.lams p hp;⟨ps,e⟩
def Keeps (M0 M:Mh):Prop:=∀a o,M0 a=some o->M a=some o
theorem Keeps.refl {M0:Mh}:Keeps M0 M0:=fun _ _ h=>h
theorem Keeps.upd {M0 M:Mh} {a:ac} {o:Mo} (ha:M0 a=none) (h:Keeps M0 M):Keeps M0 (au M a o):=fun b u e=>by
 rw [ah (fun z=>by rw [z,ha] at e;cases e)]
 exact h b u e
theorem Av {M0 M:Mh} {Q:ZK} {d:Dv} (h:Keeps M0 M) (p:Pin M0 d) (q:Q d M0):jo M0 Q d M:=.inr ⟨h,d,.pin p,q⟩
theorem Aw {M0 M:Mh} {Q:ZK} {a:ac} {ds:List Dv} (h:Keeps M0 M) (h0:M0 a=none) (ha:M a=some (.lst ds)) (p:∀d∈ds,Pin M0 d) (q:Q (.lst ds) M0):jo M0 Q (.ptr a) M:=.inr ⟨h,.lst ds,.ptr h0 ha rfl fun i d d' e e'=>by
 rw [e] at e'
 cases e'
 exact .pin (p d (c8 e)),q⟩
theorem bE {lo:Int} {n i:Nat} {d:Dv} (h:(cD lo n)[i]?=some d):d=.int (lo+(i:Nat))/\i<n :=by
 unfold cD at h
 rw [br] at h
 cases e:(on n)[i]? with
 |none=>rw [e] at h;cases h
 |some k=>
  rw [e] at h
  obtain ⟨h1,h2⟩:=bv.mp e
  rw [List.getElem_range] at h2
  subst h2
  exact ⟨(dL h).symm,by simpa using h1⟩
theorem pL {lo:Int} {n:Nat} {d:Dv} (h:d∈cD lo n):∃i:Nat,i<n/\d=.int (lo+(i:Nat)) :=by
 obtain ⟨i,hi⟩:=mo.mp h
 obtain ⟨e,l⟩:=bE hi
 exact ⟨i,l,e⟩
theorem rangeD_len (lo:Int) (n:Nat):(cD lo n).length=n :=by simp [cD]
theorem oH {tt:cW} (t:Dv->Bool) {τ:aA}:∀{ds:List Dv} {x:Option Dv} {M:Mh} {Q:List Dv->Mh->Prop},(∀d∈ds,∀R:Bool->Mh->Prop,R (t d) M->tt (some d::τ) M R)->Q (ds.filter t) M->fj (zgName 0) tt (zVar 0) ds (x::τ) M Q
 | [],x,M,Q,_,q=>q
 |d::ds,x,M,Q,h,q=>by
          refine h d i0 _ ?_
          cases e:t d with
          |true=>
           rw [MW,if_pos e] at q
           exact oH t (Q:=fun ys M5=>Q (d::ys) M5) (fun d' hd=>h d' (hX _ hd)) q
          |false=>
           rw [MW,if_neg (by rw [e];decide)] at q
           exact oH t (fun d' hd=>h d' (hX _ hd)) q
theorem Ax {xs ys:List Dv} {k:Nat} {d:Dv} (h:(eR xs ys)[k]?=some d):∃x y,d=.tup [x,y]/\xs[k]?=some x/\ys[k]?=some y :=by
 unfold eR at h
 rw [br,io] at h
 obtain ⟨p,h,rfl⟩:=h
 rw [zd] at h
 exact ⟨p.1,p.2,rfl,h.1,h.2⟩
theorem F4 {n k:Nat} {d:Dv} (h:(iF n)[k]?=some d):d=.int (k:Nat)/\k<n :=by
 unfold iF at h
 rw [br] at h
 cases e:(on n)[k]? with
 |none=>rw [e] at h;cases h
 |some j=>
  rw [e] at h
  obtain ⟨h1,h2⟩:=bv.mp e
  rw [List.getElem_range] at h2
  subst h2
  exact ⟨(dL h).symm,by simpa using h1⟩
theorem atI_zero {α:Type} {x:α} {xs:List α}:cj (x::xs) 0=some x:=cE (j:=0) rfl
theorem Jy {α:Type} {f:α->Dv} {xs:List α} {k:Nat} {d:Dv} (h:(xs.map f)[k]?=some d):∃x,xs[k]?=some x/\d=f x :=by
 rw [br,io] at h
 obtain ⟨x,h,e⟩:=h
 exact ⟨x,h,e.symm⟩
theorem pairsD_len (xs ys:List Dv):(eR xs ys).length=min xs.length ys.length :=by simp [eR]
theorem numD_len (n:Nat):(iF n).length=n :=by simp [iF]
end L2
namespace L2
open PySem PySem.Spec PyProof.Rows
def uH (N:List ba) (sc scope:uu) (N':List ba) (tn:Nat) (idx:List Nat):Prop:=
 scope.kind=.function/\(∀y∈scope.names,(y.2=.cell->scope.names.lookup y.1=some .cell)/\(y.2=.local->scope.names.lookup y.1=some .local)/\(y.2=.free->sc.names.lookup y.1=some .cell\/sc.names.lookup y.1=some .free)) /\
  N'.length=tn+idx.length/\∀p∈idx.zip (N'.drop tn),N[p.1]?=some p.2/\scope.names.lookup p.2=some .free
instance (N:List ba) (sc scope:uu) (N':List ba) (tn:Nat) (idx:List Nat):Decidable (uH N sc scope N' tn idx) :=by unfold uH;infer_instance
end L2
namespace L2
open PySem PySem.Spec PySem.W PyProof.Rows
section
variable {X:Cx} {Γ:Gz} {β:Bz} {K:ar}
theorem Pin.mono {M M':Mh} {d:Dv} (h:Pin M d):(∀a,(M a).isSome=true->(M' a).isSome=true)->Pin M' d :=by
 intro k
 induction h with
 |int i=>exact .int i
 |bl b=>exact .bl b
 |aB=>exact .aB
 |str z=>exact .str z
 |tup h ih=>exact .tup ih
 |lst h ih=>exact .lst ih
 |dk h ih=>exact .dk ih
 |dt h ih=>exact .dt ih
 |bU h ih=>exact .bU ih
 |set ns=>exact .set ns
 |ptr h=>exact .ptr (k _ h)
 |exc C=>exact .exc C
 |bj ns=>exact .bj ns
 |raw v=>exact .raw v
def bz (M:Mh) (a:ac):Mh:=fun b=>if b=a then none else M b
theorem bF {M:Mh} {a:ac}:bz M a a=none :=by unfold bz;rw [if_pos rfl]
theorem bb {M:Mh} {a b:ac} (h:b≠a):bz M a b=M b :=by unfold bz;rw [if_neg h]
structure yl (M1 M:Mh) (ρ:aA):Prop where
 env:∀(i:Nat) (d:Dv),ρ[i]?=some (some d)->Pin M d
 obj:∀b o,M b=some o->M1 b=some o\/∀d∈o.items,Pin M d
theorem Zr.freeze {M:Mh} {ρ:aA} {σ:St} {H:Hp} {i:Nat} {a:ac} {ds:List Dv} (z:Zr Γ β M ρ σ H) (hi:ρ[i]?=some (some (.ptr a))) (ha:M a=some (.lst ds)) (h0:Γ.M0 a=none) (fr:yl Γ.M0 (bz M a) (ρ.set i (some (.lst ds)))) :
  Zr Γ β (bz M a) (ρ.set i (some (.lst ds))) σ H/\Ev β M H (bz M a) H :=by
 have rz:∀{v:V} {d:Dv},Rz β M H v d->Pin (bz M a) d->Rz β (bz M a) H v d:=fun r p=>r.lg (M0:=bz M a) (fun b hb=>by
  by_cases e:b=a
  ·rw [e,bF] at hb;cases hb
  ·rw [bb e] at hb;exact hb) p
 have il:i<ρ.length:=(bv.mp hi).1
 have Jz:∀d∈ds,Pin (bz M a) d:=fun d hd=>by
  have:=fr.env i (.lst ds) (by rw [Os il])
  cases this with|lst h=>exact h d hd
 have obj:∀b es,bz M a b=some es->∀d∈es.items,Pin (bz M a) d:=fun b es e d hd=>by
  rcases fr.obj b es e with q|q
  ·refine (z.wf b es q d hd).mono fun c hc=>?_
   have nc:c≠a:=fun w=>by rw [w,h0] at hc;cases hc
   rw [bb nc]
   exact z.ent.dom c hc
  ·exact q d hd
 have mz:Mz β (bz M a) H :=by
  refine ⟨fun b o e=>?_,z.mz.tabs,z.mz.hids,fun b o e=>?_,z.mz.lams⟩
  ·have nb:b≠a:=fun q=>by rw [q,bF] at e;cases e
   have e':M b=some o :=by rw [bb nb] at e;exact e
   have q:=z.mz.obj b o e'
   cases o with
   |lst es=>obtain ⟨vs,hv,rs⟩:=q;exact ⟨vs,hv,rs.len,fun j v d x y=>rz (rs.at' j v d x y) (obj b _ e d (c8 y))⟩
   |dk ks es=>obtain ⟨vs,hv,hk,rs⟩:=q;exact ⟨vs,hv,hk,rs.len,fun j v d x y=>rz (rs.at' j v d x y) (obj b _ e d (c8 y))⟩
   |dt ks es=>obtain ⟨vs,hv,hk,rs⟩:=q;exact ⟨vs,hv,hk,rs.len,fun j v d x y=>rz (rs.at' j v d x y) (obj b _ e d (c8 y))⟩
   |c6=>exact q
  ·have nb:b≠a:=fun q=>by rw [q,bF] at e;cases e
   rw [bb nb] at e
   exact z.mz.apart b o e
 refine ⟨⟨z.eP,z.ew,z.eK,z.et,z.sub,z.wf,⟨z.ent.keep,fun b hb=>?_,fun b o m h=>?_⟩,mz,by simp [z.len],fun j d e=>?_⟩,⟨fun b o _ h=>.inl h,fun b o m h=>?_,mz⟩⟩
 ·have nb:b≠a:=fun q=>by rw [q,h0] at hb;cases hb
  rw [bb nb];exact z.ent.dom b hb
 ·by_cases e:b=a
  ·rw [e,bF]
  ·rw [bb e];exact z.ent.new b o m h
 ·have p:=fr.env j d e
  rw [S2] at e
  split at e
  ·rename_i q
   subst q
   first
    |cases e
    |(rw [if_pos il] at e;cases e)
   obtain ⟨v,hv,r⟩:=z.at' i _ hi
   obtain ⟨rfl,_⟩:=cA r
   obtain ⟨vs,hl,rs⟩:=z.mz.obj a _ ha
   refine ⟨_,hv,.lst ⟨bF,z.mz.apart a _ ha⟩ hl rs.len fun k v d x y=>rz (rs.at' k v d x y) (Jz d (c8 y))⟩
  ·obtain ⟨v,hv,r⟩:=z.at' j d e
   exact ⟨v,hv,rz r p⟩
 ·by_cases e:b=a
  ·rw [e,bF]
  ·rw [bb e];exact m
def Pa (i:Nat) (M0:Mh) (p:b9):b9:=fun D ρ M=>p D ρ M\/∃a ds,ρ[i]?=some (some (.ptr a))/\M a=some (.lst ds)/\M0 a=none/\yl M0 (bz M a) (ρ.set i (some (.lst ds)))/\p D (ρ.set i (some (.lst ds))) (bz M a)
theorem JA (i:Nat) {M1:Mh} {st:mv} {p:b9} (hM:Γ.M0=M1) (h:QS Γ X st p):QS Γ X st (Pa i M1 p):=h.imp fun D σ H ⟨β,ρ,M,D',zr,h,r⟩=>by
 rcases h with h|⟨a,ds,hi,ha,h0,fr,h⟩
 ·exact ⟨β,ρ,M,D',zr,h,r⟩
 ·obtain ⟨z2,e2⟩:=zr.freeze hi ha (by rw [hM];exact h0) (by rw [hM];exact fr)
  exact ⟨β,_,_,D',z2,h,r.step e2⟩
end
end L2
namespace L2
open PySem PySem.Spec PyProof.Rows
section
variable {κ:Type} [DecidableEq κ] {α:Type}
def look:List κ->List α->κ->Option α
 |k::ks,d::ds,x=>if k=x then some d else look ks ds x
 |_,_,_=>none
def dX:List κ->List α->κ->α->List α
 |k::ks,d::ds,x,y=>(if k=x then y else d)::dX ks ds x y
 |_,_,_,_=>[]
def putL (ks:List κ) (k:κ):List κ:=if k∈ks then ks else ks++[k]
def dJ (ks:List κ) (ds:List α) (k:κ) (d:α):List α:=if k∈ks then dX ks ds k d else ds++[d]
theorem iu {x:κ}:∀{ks:List κ} {ds:List α},ks.length=ds.length->(look ks ds x=none ↔ x ∉ ks)
 | [],[],_=>by simp [look]
 |k::ks,d::ds,h=>by
          have ih:=iu (x:=x) (ks:=ks) (ds:=ds) (by simpa using h)
          unfold look
          by_cases e:k=x
          ·simp [e]
          ·rw [if_neg e,ih,lp]
           constructor
           ·rintro a (b|b)
            ·exact e b.symm
            ·exact a b
           ·exact fun a b=>a (.inr b)
 | [],_::_,h=>by simp at h
 |_::_,[],h=>by simp at h
theorem oI (x:κ):∀(ks:List κ) (vs:List V),iE (ks.zip vs) x=look ks vs x
 | [],vs=>by cases vs <;> rfl
 |_::_,[]=>rfl
 |k::ks,v::vs=>by
          rw [On]
          unfold look
          by_cases e:k=x
          ·rw [if_pos e];exact kY (p:=(k,v)) e
          ·rw [if_neg e,kZ (p:=(k,v)) e];exact oI x ks vs
theorem uI (x:κ):∀(ks:List κ) (ds:List α) {d:α},look ks ds x=some d->∃i:Nat,ks[i]?=some x/\ds[i]?=some d/\∀{β:Type} (es:List β),look ks es x=es[i]?
 | [],ds,d,h=>by cases ds <;> cases h
 |_::_,[],d,h=>by cases h
 |k::ks,e::ds,d,h=>by
          unfold look at h
          by_cases q:k=x
          ·rw [if_pos q] at h
           cases h
           refine ⟨0,by rw [q];rfl,rfl,fun es=>?_⟩
           cases es with
           |nil=>rfl
           |cons a es=>unfold look;rw [if_pos q];rfl
          ·rw [if_neg q] at h
           obtain ⟨i,a,b,c⟩:=uI x ks ds h
           refine ⟨i+1,a,b,fun es=>?_⟩
           cases es with
           |nil=>rfl
           |cons y es=>unfold look;rw [if_neg q,c es];rfl
theorem mY (x:κ):∀(ks:List κ) (ds:List α) {β:Type} (es:List β),ds.length=es.length->look ks ds x=none->look ks es x=none
 | [],ds,_,es,_,_=>by cases es <;> rfl
 |_::_,[],_,es,h,_=>by cases es with
  |nil=>rfl
  |cons _ _=>simp at h
 |k::ks,d::ds,_,[],h,_=>by simp at h
 |k::ks,d::ds,_,e::es,h,q=>by
          unfold look at q ⊢
          by_cases z:k=x
          ·rw [if_pos z] at q;cases q
          ·rw [if_neg z] at q ⊢
           exact mY x ks ds es (by simpa using h) q
theorem rS (x:κ) (y:α):∀(ks:List κ) (ds:List α),ks.length=ds.length->(dX ks ds x y).length=ds.length
 | [],[],_=>rfl
 |k::ks,d::ds,h=>by unfold dX;rw [Mn,rS x y ks ds (by simpa using h)];rfl
 | [],_::_,h=>by simp at h
 |_::_,[],h=>by simp at h
theorem uJ {ks:List κ} {ds:List α} (h:ks.length=ds.length) (k:κ) (d:α):(putL ks k).length=(dJ ks ds k d).length :=by
 unfold putL dJ
 split
 ·rw [rS _ _ _ _ h,h]
 ·simp [h]
theorem rT (x:κ) (y:V):∀(ks:List κ) (vs:List V),ks.length=vs.length->(ks.zip vs).map (fun kv=>if kv.1=x then (kv.1,y) else kv)=ks.zip (dX ks vs x y)
 | [],[],_=>rfl
 |k::ks,d::ds,h=>by
          unfold dX
          rw [On,On,wb,rT x y ks ds (by simpa using h)]
          congr 1
          dsimp only
          split <;> rfl
 | [],_::_,h=>by simp at h
 |_::_,[],h=>by simp at h
theorem wY {ks:List κ} {vs:List V} (h:ks.length=vs.length) (k:κ) (v:V):putK (ks.zip vs) k v=(putL ks k).zip (dJ ks vs k v) :=by
 have e:((ks.zip vs).any fun kv=>decide (kv.1=k))=decide (k∈ks) :=by
  rw [oy,oI]
  cases q:look ks vs k with
  |none=>exact (decide_eq_false ((iu h).mp q)).symm
  |some x=>
   have hm:k∈ks:=Classical.byContradiction fun z=>by rw [(iu h).mpr z] at q;cases q
   rw [decide_eq_true hm];rfl
 unfold putK putL dJ
 rw [e]
 by_cases q:k∈ks
 ·rw [if_pos (decide_eq_true q),if_pos q,if_pos q]
  exact rT k v ks vs h
 ·rw [if_neg (by rw [decide_eq_false q];exact ij),if_neg q,if_neg q,List.zip_append h]
  rfl
end
section
variable {β:Bz} {M:Mh} {H:Hp} {κ:Type} [DecidableEq κ]
theorem rU (x:κ) {v:V} {d:Dv} (r:Rz β M H v d):∀(ks:List κ) (vs:List V) (ds:List Dv),aF β M H vs ds->aF β M H (dX ks vs x v) (dX ks ds x d)
 | [],_,_,_=>by
          unfold dX;exact .nil
 |_::_,[],[],_=>.nil
 |_::_,[],_::_,h=>absurd h.len (by simp)
 |_::_,_::_,[],h=>absurd h.len (by simp)
 |k::ks,u::vs,e::ds,h=>by
          unfold dX
          refine .cons ?_ (rU x r ks vs ds h.tail)
          split
          ·exact r
          ·exact h.head
theorem uK (x:κ) {v:V} {d:Dv} (r:Rz β M H v d) {ks:List κ} {vs:List V} {ds:List Dv} (h:aF β M H vs ds):aF β M H (dJ ks vs x v) (dJ ks ds x d) :=by
 unfold dJ
 split
 ·exact rU x r ks vs ds h
 ·exact h.snoc r
theorem uL {ks:List κ} {vs:List V} {ds:List Dv} (rs:aF β M H vs ds) {x:κ} {o:Option Dv} (h:look ks ds x=o):∃ov,iE (ks.zip vs) x=ov/\ov.isSome=o.isSome/\∀r,o=some r->∃v,ov=some v/\Rz β M H v r :=by
 rw [oI]
 cases o with
 |none=>exact ⟨none,mY x ks ds vs rs.len.symm h,rfl,fun r e=>nomatch e⟩
 |some r=>
  obtain ⟨i,a,b,c⟩:=uI x ks ds h
  obtain ⟨v,hv,rv⟩:=rs.get b
  exact ⟨some v,(c vs).trans hv,rfl,fun r' e=>by cases e;exact ⟨v,rfl,rv⟩⟩
end
def keyD:Dv->Option Key
 | .int i=>some (.inl i)
 | .str z=>some (.inr z)
 |_=>none
def iS:List Dv->Option (List Key)
 | []=>some []
 |d::ds=>match keyD d,iS ds with|some k,some ks=>some (k::ks)|_,_=>none
def nowK (M:Mh):Dv->Dv
 | .ptr a=>match M a with|some (.dk ks ds)=>.dk ks ds|some (.dt ks ds)=>.dt ks ds|_=>.ptr a
 |d=>d
def lookD (M:Mh) (d e:Dv):Option (Option Dv):=match nowK M d with
 | .dk ks ds=>(match keyD e with|some k=>some (look ks ds k)|none=>none)
 | .dt ks ds=>(match e with | .tup es=>(match iS es with|some k=>some (look ks ds k)|none=>none)|_=>none)
 |_=>none
section
variable {X:Cx} {Γ:Gz} {β:Bz} {K:ar} {M:Mh} {H:Hp}
theorem nI {y:V} {e:Dv} {k:Key} (r:Rz β M H y e) (h:keyD e=some k):y=kV k :=by
 cases e with
 |int i=>cases h;exact aS r
 |str z=>cases h;exact bJ r
 |_=>cases h
theorem ll:∀{es:List Dv} {ks:List Key} {vs:List V},aF β M H vs es->iS es=some ks->vs=ks.map kV
 | [],ks,vs,rs,h=>by
          cases h
          cases vs with
          |nil=>rfl
          |cons _ _=>exact absurd rs.len (by simp)
 |e::es,ks,[],rs,h=>absurd rs.len (by simp)
 |e::es,ks,v::vs,rs,h=>by
          unfold iS at h
          split at h
          ·rename_i k NM h1 h2
           cases h
           rw [wb,nI rs.head h1,ll rs.tail h2]
          ·cases h
theorem nJ (m:Mz β M H) {x:V} {d:Dv} (r:Rz β M H x d):(∀ks ds,nowK M d=.dk ks ds->∃a vs,x=.ref a/\Rd H a (.dK (ks.zip vs))/\ks.length=vs.length/\aF β M H vs ds) /\
  (∀ks ds,nowK M d=.dt ks ds->∃a vs,x=.ref a/\Rd H a (.dT (ks.zip vs))/\ks.length=vs.length/\aF β M H vs ds) :=by
 cases r with
 |dk f e hk hl h=>exact ⟨fun ks ds q=>(by cases q;exact ⟨_,_,rfl,e,hk,hl,h⟩),fun ks ds q=>by cases q⟩
 |dt f e hk hl h=>exact ⟨fun ks ds q=>(by cases q),fun ks ds q=>by cases q;exact ⟨_,_,rfl,e,hk,hl,h⟩⟩
 | @ptr a hs=>
  simp only [nowK]
  cases q2:M a with
  |none=>rw [q2] at hs;cases hs
  |some o=>
   have q:=m.obj a o q2
   cases o with
   |dk ks ds=>obtain ⟨vs,e,hk,rs⟩:=q;exact ⟨fun ks ds q=>(by cases q;exact ⟨_,_,rfl,.inl e,hk,rs⟩),fun ks ds q=>by cases q⟩
   |dt ks ds=>obtain ⟨vs,e,hk,rs⟩:=q;exact ⟨fun ks ds q=>(by cases q),fun ks ds q=>by cases q;exact ⟨_,_,rfl,.inl e,hk,rs⟩⟩
   |_=>exact ⟨fun ks ds q=>(by cases q),fun ks ds q=>by cases q⟩
 |_=>exact ⟨fun ks ds q=>(by cases q),fun ks ds q=>(by cases q)⟩
theorem lq (m:Mz β M H) {x y:V} {d e:Dv} {o:Option Dv} (r:Rz β M H x d) (re:Rz β M H y e) (h:lookD M d e=some o):∃a ov,x=.ref a/\ji H a y ov/\ov.isSome=o.isSome/\∀r,o=some r->∃v,ov=some v/\Rz β M H v r :=by
 unfold lookD at h
 obtain ⟨h1,h2⟩:=nJ m r
 split at h
 ·rename_i ks ds q
  obtain ⟨a,vs,rfl,ha,hk,rs⟩:=h1 ks ds q
  split at h
  ·rename_i k uM
   rw [nI re uM]
   obtain ⟨ov,e1,e2,e3⟩:=uL rs (dL h)
   subst e1
   exact ⟨a,_,rfl,.inl ⟨_,k,ha,rfl,rfl⟩,e2,e3⟩
  ·cases h
 ·rename_i ks ds q
  obtain ⟨a,vs,rfl,ha,hk,rs⟩:=h2 ks ds q
  split at h
  ·split at h
   ·rename_i k uM
    obtain ⟨b,us,rfl,_,hb,ru⟩:=dB re
    rw [ll ru uM] at hb
    obtain ⟨ov,e1,e2,e3⟩:=uL rs (dL h)
    subst e1
    exact ⟨a,_,rfl,.inr ⟨_,k,b,ha,rfl,hb,rfl⟩,e2,e3⟩
   ·cases h
  ·cases h
 ·cases h
def zGetR:eG:=fun d e M Q=>match lookD M d e with|some (some r)=>Q r M|_=>False
theorem dM {a b:ci} {pa pb:aH} {pos:rf} (hu:X.A.units+64<cLine) (ha:QE Γ X a pa) (hb:QE Γ X b pb) (hs:CL b):QE Γ X (.Subscript a b pos) (zOp zGetR pa pb):=
 (FR (by omega) ha hb hs).imp fun σ H Q ⟨β,ρ,M,Q',zr,h,q⟩=>⟨β,ρ,M,_,zr,h,fun d M1 v H1 x1 r1 h1=>⟨β,ρ,M1,_,zr.step x1,h1,fun e M2 u H2 x2 r2 h2=>by
  unfold zGetR at h2
  split at h2
  ·rename_i r hl
   obtain ⟨a,ov,rfl,g,_,e3⟩:=lq x2.mz (r1.ex x2) r2 hl
   obtain ⟨w,rfl,eL⟩:=e3 r rfl
   exact ⟨a,w,rfl,g,q _ _ _ _ (x1.trans x2) eL h2⟩
  ·exact h2.elim⟩⟩
def zDIn (neg:Bool):eG:=fun e d M Q=>match lookD M d e with|some o=>Q (.bl (if neg then !o.isSome else o.isSome)) M|none=>False
def C2 (neg:Bool):R2:=fun y x H Q=>∃a o,x=.ref a/\ji H a y o/\Q (.bl (if neg then !o.isSome else o.isSome)) H
theorem wZ {neg:Bool}:rM Γ (C2 neg) (zDIn neg):=fun β x y d e M H Q Q' _ _ _ m rx ry z q=>by
 unfold zDIn at z
 split at z
 ·rename_i o hl
  obtain ⟨a,ov,rfl,g,e2,_⟩:=lq m ry rx hl
  refine ⟨a,ov,rfl,g,?_⟩
  rw [e2]
  exact q _ _ _ _ (.refl m) (.bl _) z
 ·exact z.elim
theorem L9 (hu:X.A.units+64<cLine):eB Γ X (compareOp .In) (zDIn false):=⟨C2 false,fun pins s σ H x y v u Q I rx ry ⟨a,o,e,g,q⟩=>by
 subst e
 cases (show u=l5 a from ry)
 exact O7 (by omega) I g rx fun s3 I3=>⟨.bl o.isSome,H,I3,rfl,q⟩,wZ⟩
theorem C3 (hu:X.A.units+64<cLine):eB Γ X (compareOp .NotIn) (zDIn true):=⟨C2 true,fun pins s σ H x y v u Q I rx ry ⟨a,o,e,g,q⟩=>by
 subst e
 cases (show u=l5 a from ry)
 exact FP (by omega) I g rx fun s3 I3=>⟨.bl (!o.isSome),H,I3,rfl,q⟩,wZ⟩
def zMGet:mW:=fun d ds M Q=>match ds with
 | [e]=>(match lookD M d e with|some o=>Q (o.getD .aB) M|none=>False)
 | [e,z]=>(match lookD M d e with|some o=>Q (o.getD z) M|none=>False)
 |_=>False
def Ma:V->List V->Hp->VK->Prop:=fun x xs H Q=>(∃a y o,x=.ref a/\xs=[y]/\ji H a y o/\Q (o.getD .aB) H)\/∃a y z o,x=.ref a/\xs=[y,z]/\ji H a y o/\Q (o.getD z) H
theorem JB (hu:X.A.units+64<cLine):wW Γ X "dict" "dict.get" K zMGet:=⟨Ma,fun pins s σ H x xs v us Q I rx rs h=>by
 rcases h with ⟨a,y,o,rfl,rfl,g,q⟩|⟨a,y,z,o,rfl,rfl,g,q⟩
 ·cases (show v=l5 a from rx)
  cases rs with
  |cons r1 rs=>cases rs;exact Jb (by omega) I g r1 fun w' s3 I3 eL=>⟨_,H,I3,eL,q⟩
 ·cases (show v=l5 a from rx)
  cases rs with
  |cons r1 rs=>cases rs with
   |cons r2 rs=>cases rs;exact Jc (by omega) I g r1 r2 fun w' s3 I3 eL=>⟨_,H,I3,eL,q⟩,fun β x xs d ds M H Q Q' _ _ _ m rx rs z q=>by
 unfold zMGet at z
 split at z
 ·split at z
  ·rename_i o hl
   obtain ⟨y,rfl,ry⟩:=dz rs
   obtain ⟨a,ov,rfl,g,e2,e3⟩:=lq m rx ry hl
   refine .inl ⟨a,y,ov,rfl,rfl,g,?_⟩
   cases o with
   |none=>cases ov with
    |none=>exact q _ _ _ _ (.refl m) .aB z
    |some _=>cases e2
   |some r=>
    obtain ⟨w,rfl,eL⟩:=e3 r rfl
    exact q _ _ _ _ (.refl m) eL z
  ·exact z.elim
 ·split at z
  ·rename_i o hl
   obtain ⟨y,u,rfl,ry,ru⟩:=kz rs
   obtain ⟨a,ov,rfl,g,e2,e3⟩:=lq m rx ry hl
   refine .inr ⟨a,y,u,ov,rfl,rfl,g,?_⟩
   cases o with
   |none=>cases ov with
    |none=>exact q _ _ _ _ (.refl m) ru z
    |some _=>cases e2
   |some r=>
    obtain ⟨w,rfl,eL⟩:=e3 r rfl
    exact q _ _ _ _ (.refl m) eL z
  ·exact z.elim
 ·exact z.elim⟩
end
section
variable {β:Bz} {M:Mh} {H:Hp} {D:ac} {o':Mo} {u:HO}
theorem F5 {v:V} {d:Dv} (r:Rz (β.add D) M H v d):Rz β (au M D o') (upd H D u) v d :=by
 have na:∀a,Fz (β.add D) M a->a≠D:=fun a f z=>f.2 (by rw [z];exact i0)
 have ne:∀a,Fz (β.add D) M a->Fz β (au M D o') a:=fun a f=>⟨by rw [ah (na a f)];exact f.1,fun z=>f.2 (hX _ z)⟩
 have pre:∀a x,Fz (β.add D) M a->H a=some x->upd H D u a=some x:=fun a x f e=>by rw [af (na a f)];exact e
 induction r with
 |int i=>exact .int i
 |bl b=>exact .bl b
 |aB=>exact .aB
 |str z=>exact .str z
 |tup m e hl h ih=>exact .tup (ne _ m) (pre _ _ m e) hl ih
 |lst m e hl h ih=>exact .lst (ne _ m) (pre _ _ m e) hl ih
 |dk m e hk hl h ih=>exact .dk (ne _ m) (e.map fun _ h=>pre _ _ m h) hk hl ih
 |dt m e hk hl h ih=>exact .dt (ne _ m) (e.map fun _ h=>pre _ _ m h) hk hl ih
 |bU m e m2 e2 hl h ih=>exact .bU (ne _ m) (pre _ _ m e) (ne _ m2) (pre _ _ m2 e2) hl ih
 |set m e=>exact .set (ne _ m) (pre _ _ m e)
 |ptr m=>exact .ptr (by unfold au;split;rfl;exact m)
 |exc m e=>exact .exc (ne _ m) (pre _ _ m e)
 |bj m e=>exact .bj (ne _ m) (pre _ _ m e)
 |cF m e=>exact .cF (ne _ m) (pre _ _ m e)
 |cG e=>exact .cG e
 |raw v=>exact .raw v
theorem jr {vs:List V} {ds:List Dv} (r:aF (β.add D) M H vs ds):aF β (au M D o') (upd H D u) vs ds:=⟨r.len,fun i v d a b=>F5 (r.at' i v d a b)⟩
theorem Ex.Ay {M2:Mh} {H2:Hp} {o:HO} (x:Ex β M H M2 H2) (hD:D∈β.hid) (m:M D=none) (h:H D=some o) (ho:gS o=true):H2 D=some o :=by
 rcases x.keep D o m h with q|⟨o',t,q⟩
 ·exact q
 ·rcases t with ⟨_,_,rfl,_⟩|⟨_,_,rfl,_⟩|⟨_,ob,rfl⟩
  ·cases ho
  ·cases ho
  ·obtain ⟨w,e,n⟩:=x.mz.hids D hD
   rw [q] at e;cases e;cases n
theorem Mz.JC (m:Mz (β.add D) M H) (hM:M D=none) (hD:D ∉ β.hid) (nt:D ∉ β.tb) (hu:mJ u=true) (r:ir β (au M D o') (upd H D u) D o'):Mz β (au M D o') (upd H D u) :=by
 obtain ⟨oD,eD,nD⟩:=m.hids D i0
 refine ⟨fun a o e=>?_,fun q hq=>?_,fun a ha=>(m.hids a (hX _ ha)).upd (.inr hu),fun a o e z=>?_,fun q hq=>?_⟩
 ·by_cases ha:a=D
  ·subst ha
   rw [updM_same] at e
   cases e
   exact r
  ·rw [ah ha] at e
   have z:=m.obj a o e
   cases o with
   |lst ds=>obtain ⟨vs,z,rs⟩:=z;exact ⟨vs,by rw [af ha];exact z,jr rs⟩
   |dk ks ds=>obtain ⟨vs,z,hk,rs⟩:=z;exact ⟨vs,by rw [af ha];exact z,hk,jr rs⟩
   |dt ks ds=>obtain ⟨vs,z,hk,rs⟩:=z;exact ⟨vs,by rw [af ha];exact z,hk,jr rs⟩
   |c6=>obtain ⟨c,n,z,q⟩:=z;exact ⟨c,n,by rw [af ha];exact z,q⟩
 ·obtain ⟨ps,e,t⟩:=m.tabs q hq
  exact ⟨ps,by rw [af (show q≠D from fun z=>nt (by rw [<- z];exact hq))];exact e,t⟩
 ·by_cases ha:a=D
  ·exact hD (ha▸z)
  ·rw [ah ha] at e
   exact m.apart a o e (hX _ z)
 ·exact (m.lams q hq).keep (fun _ e=>by rw [af (fun z=>by subst z;rw [eD] at e;cases e;cases nD)];exact e) fun c _ _ e=>by rw [af (fun z=>by subst z;rw [eD] at e;cases e;cases nD)];exact e
end
section
variable {X:Cx} {pos:rf}
def F6 (tk tv:TE):TE:=fun σ H Q=>∀p,H p=none->tk σ (upd H p (.dT [])) fun x H1=>tv σ H1 fun y H2=>H2 p=some (.dT [])/\∃b k,x=.ref b/\H2 b=some (.tup (k.map kV))/\Q (.ref p) (upd H2 p (.dT [(k,y)]))
theorem Az {k v:ci} {tk tv:TE} (hu:X.A.units+1<cLine) (hk:PE X k tk) (hv:PE X v tv):PE X (.Dict [some k] [v] pos) (F6 tk tv) :=by
 refine ⟨?_⟩
 intro pins s σ H Q I q
 have hn:=I.hok.fresh (ce s.heap.objs.size)
 have I1:=I.laid (a:=s.heap.objs.size) (o:=.dT []) (h':=s.heap.push {cls:=.type "dict",data:=.dict #[]}) (t':=s.toks) (fun _ _ q=>bn _ q) (ce _) (uk s.heap I.big)
 refine wpAny_Dict_any rfl rfl (by simp) (by simp) (pairTrees_cons_walk (thn (hk pins _ σ _ _ I1 (q _ hn)) fun w1 s2 ⟨x,H1,I2,rx,q1⟩=>thn (hv pins s2 σ H1 _ I2 q1) fun w2 s3 ⟨y,H2,I3,ry,hp,b,ks,ex,hb,q2⟩=>pairTrees_nil_walk ?_))
 subst ex
 cases (show w1=l5 b from rx)
 unfold storeAll
 rw [List.forIn_cons]
 obtain ⟨z,hd,xs,rel,dd⟩:=El I3.hok hp
 cases rel
 refine al (al (wpAny_dictSet_heap (knd:=tupleKind (bq X.prog X.w)) (by show X.A.units<cLine;omega) (iq I3.hok hb) dd (fun h' pD hs=>ca ?_) (by simp)))
 dsimp only
 rw [List.forIn_nil]
 refine ca ⟨.ref s.heap.objs.size,_,?_,rfl,q2⟩
 obtain ⟨o,es,ep,ho,h2,h3,h4,h5,h6⟩:=pD
 have he:storedH ([]:List (List Key×ac×ag)) ks b w2=[(ks,b,w2)]:=rfl
 rw [he] at h4 h6
 refine nE I3 (by rw [hp];exact EM) hs ⟨o,ho⟩ ⟨by show 1<=sizeLine;decide,hd,[(ks,b,w2)],.cons ⟨rfl,?_,ry⟩ .nil,o,es,ep,ho,h2,h3,h4,h6⟩
 rw [af (xr hb hp (by intro z;cases z))]
 exact hb
end
section
variable {X:Cx} {Γ:Gz} {β:Bz} {K:ar}
def zDNewK:aH:=fun _ M Q=>∀a,M a=none->Q (.ptr a) (au M a (.dk [] []))
def zDNewT:aH:=fun _ M Q=>∀a,M a=none->Q (.ptr a) (au M a (.dt [] []))
theorem C4 {pos:rf}:QE Γ X (.Dict [] [] pos) zDNewK:=CN.imp fun σ H Q ⟨β,ρ,M,Q',zr,h,q⟩ p hp=>
 q _ _ _ _ (Ex.Jf (ks:=[]) (vs:=[]) (ds:=[]) zr.mz (.inr hp) rfl .nil) (.ptr (by rw [updM_same];rfl)) (h p (zr.mz.free hp))
theorem C5 {pos:rf}:QE Γ X (.Dict [] [] pos) zDNewT:=CO.imp fun σ H Q ⟨β,ρ,M,Q',zr,h,q⟩ p hp=>
 q _ _ _ _ (Ex.Jg (ks:=[]) (vs:=[]) (ds:=[]) zr.mz (.inr hp) rfl .nil) (.ptr (by rw [updM_same];rfl)) (h p (zr.mz.free hp))
def zDisp1K (pk pv:aH):aH:=fun ρ M Q=>pk ρ M fun e M1=>pv ρ M1 fun v M2=>match keyD e with|some k=>∀a,M2 a=none->Q (.ptr a) (au M2 a (.dk [k] [v]))|none=>False
def zDisp1T (pk pv:aH):aH:=fun ρ M Q=>pk ρ M fun e M1=>pv ρ M1 fun v M2=>match e with | .tup es=>(match iS es with|some k=>∀a,M2 a=none->Q (.ptr a) (au M2 a (.dt [k] [v]))|none=>False)|_=>False
theorem w5 {M M2:Mh} {H H2:Hp} {D:ac} {o:HO} {o':Mo} {u:HO} (hD:H D=none) (x:Ex (β.add D) M (upd H D o) M2 H2) (mz:Mz β (au M2 D o') (upd H2 D u)):Ex β M H (au M2 D o') (upd H2 D u) :=by
 have ey:Ey M H M2 (upd H2 D u):=((Ey.refl (M:=M) (H:=H)).over (o:=o) hD |>.trans x.toEy).over hD
 exact ⟨⟨ey.keep,fun a h=>by unfold au;split;rfl;exact ey.dom a h,fun a w m e=>by rw [ah (bf e hD)];exact ey.new a w m e⟩,mz⟩
theorem AA {k v:ci} {pk pv:aH} {pos:rf} (hk:QE Γ X k pk) (hv:QE Γ X v pv):QE Γ X (.Dict [some k] [v] pos) (zDisp1K pk pv):=
 (FV (CP hk hv FU) rfl rfl (by simp) (by simp)).imp fun σ H Q ⟨β,ρ,M,Q',zr,h,q⟩ p hp=>by
  have z1:=zr.enter hp (o:=.dK []) rfl
  refine ⟨β.add p,ρ,M,_,z1,h,fun e M1 y H1 x1 r1 h1=>⟨β.add p,ρ,M1,_,z1.step x1,h1,fun d M2 w H2 x2 r2 h2=>?_⟩⟩
  have pM:=x1.trans x2
  have AB:M p=none:=zr.mz.free hp
  have e2:H2 p=some (.dK []):=pM.Ay i0 AB ax rfl
  have AD:M2 p=none:=pM.new p _ AB ax
  refine ⟨e2,?_⟩
  split at h2
  ·rename_i kk JD
   refine ⟨[(kk,w)],by rw [nI (r1.ex x2) JD];rfl,by simp,?_⟩
   have e:km [] [(kk,w)]=[kk].zip [w]:=rfl
   rw [e]
   refine q _ _ _ _ (w5 (o':=.dk [kk] [d]) hp pM (pM.mz.JC AD (zr.mz.fz hp).2 (zr.mz.CT hp) rfl ⟨[w],ax,rfl,jr (.cons r2 .nil)⟩)) (.ptr (by rw [updM_same];rfl)) (h2 p AD)
  ·exact h2.elim
theorem NN {k v:ci} {pk pv:aH} {pos:rf} (hu:X.A.units+64<cLine) (hk:QE Γ X k pk) (hv:QE Γ X v pv):QE Γ X (.Dict [some k] [v] pos) (zDisp1T pk pv):=
 (Az (by omega) hk hv).imp fun σ H Q ⟨β,ρ,M,Q',zr,h,q⟩ p hp=>by
  have z1:=zr.enter hp (o:=.dT []) rfl
  refine ⟨β.add p,ρ,M,_,z1,h,fun e M1 y H1 x1 r1 h1=>⟨β.add p,ρ,M1,_,z1.step x1,h1,fun d M2 w H2 x2 r2 h2=>?_⟩⟩
  have pM:=x1.trans x2
  have AB:M p=none:=zr.mz.free hp
  have e2:H2 p=some (.dT []):=pM.Ay i0 AB ax rfl
  have AD:M2 p=none:=pM.new p _ AB ax
  refine ⟨e2,?_⟩
  split at h2
  ·split at h2
   ·rename_i es kk JD
    obtain ⟨b,us,rfl,_,hb,ru⟩:=dB (r1.ex x2)
    rw [ll ru JD] at hb
    refine ⟨b,kk,rfl,hb,?_⟩
    refine q _ _ _ _ (w5 (o':=.dt [kk] [d]) (u:=.dT ([kk].zip [w])) hp pM (pM.mz.JC AD (zr.mz.fz hp).2 (zr.mz.CT hp) rfl ⟨[w],ax,rfl,jr (.cons r2 .nil)⟩)) (.ptr (by rw [updM_same];rfl)) (h2 p AD)
   ·exact h2.elim
  ·exact h2.elim
def zDPut (pd pk pv:aH):b9:=fun D ρ M=>pv ρ M fun v M1=>pd ρ M1 fun d M2=>pk ρ M2 fun e M3=>match d with
 | .ptr a=>(match M3 a with
  |some (.dk ks ds)=>(match keyD e with|some k=>ks.length<sizeLine/\D.nx ρ (au M3 a (.dk (putL ks k) (dJ ks ds k v)))|none=>False)
  |some (.dt ks ds)=>(match e with | .tup es=>(match iS es with|some k=>ks.length<sizeLine/\D.nx ρ (au M3 a (.dt (putL ks k) (dJ ks ds k v)))|none=>False)|_=>False)
  |_=>False)
 |_=>False
theorem qB {o i value:ci} {pd pk pv:aH} {pos pos':rf} (hu:X.A.units+64<cLine) (ho:QE Γ X o pd) (hi:QE Γ X i pk) (hv:QE Γ X value pv) (hs:swapsWith value (some (.Subscript o i pos')) pos.line X.env=pure false :=by rfl) :
  QS Γ X (.Assign [.Subscript o i pos'] value pos) (zDPut pd pk pv):=(FT (by omega) ho hi hv hs).imp fun D σ H ⟨β,ρ,M,D',zr,h,r⟩=>⟨β,ρ,M,_,zr,h,fun v M1 vv H1 x1 r1 h1=>⟨β,ρ,M1,_,zr.step x1,h1,fun d M2 dv H2 x2 r2 h2=>
   ⟨β,ρ,M2,_,(zr.step x1).step x2,h2,fun e M3 ev H3 x3 r3 h3=>by
 have z3:=((zr.step x1).step x2).step x3
 have wO:=x1.trans (x2.trans x3)
 have rv:=(r1.ex x2).ex x3
 split at h3
 ·rename_i a
  obtain ⟨rfl,hs⟩:=cA r2
  split at h3
  ·rename_i ks ds hM
   obtain ⟨vs,ha,hk,rs⟩:=x3.mz.obj a _ hM
   split at h3
   ·rename_i k uM
    obtain ⟨hl,h3⟩:=h3
    have hp:(M3 a).isSome=true :=by rw [hM];rfl
    have x4:Ex β M3 H3 (au M3 a (.dk (putL ks k) (dJ ks ds k v))) (upd H3 a (.dK ((putL ks k).zip (dJ ks vs k vv)))):=Ex.Jf x3.mz (.inl hp) (uJ hk k vv) (uK k rv rs)
    refine ⟨a,_,rfl,.inl ⟨_,k,ha,nI r3 uM,by rw [Op,<- hk,Ps];exact hl,rfl⟩,?_⟩
    rw [wY hk]
    exact r.nx _ _ _ _ (wO.trans x4).ev (z3.step x4) h3
   ·exact h3.elim
  ·rename_i ks ds hM
   obtain ⟨vs,ha,hk,rs⟩:=x3.mz.obj a _ hM
   split at h3
   ·split at h3
    ·rename_i k uM
     obtain ⟨hl,h3⟩:=h3
     obtain ⟨b,us,rfl,_,hb,ru⟩:=dB r3
     rw [ll ru uM] at hb
     have hp:(M3 a).isSome=true :=by rw [hM];rfl
     have x4:Ex β M3 H3 (au M3 a (.dt (putL ks k) (dJ ks ds k v))) (upd H3 a (.dT ((putL ks k).zip (dJ ks vs k vv)))):=Ex.Jg x3.mz (.inl hp) (uJ hk k vv) (uK k rv rs)
     refine ⟨a,_,rfl,.inr ⟨_,k,b,ha,rfl,hb,by rw [Op,<- hk,Ps];exact hl,rfl⟩,?_⟩
     rw [wY hk]
     exact r.nx _ _ _ _ (wO.trans x4).ev (z3.step x4) h3
    ·exact h3.elim
   ·exact h3.elim
  ·exact h3.elim
 ·exact h3.elim⟩⟩⟩
def zLenK (d:Dv) (M:Mh) (Q:ZK):Prop:=match nowK M d with | .dk ks _=>Q (.int ks.length) M|_=>False
theorem JE:fB Γ X (.builtin "len") (z1 zLenK):=⟨fun xs H Q=>∃a aj,xs=[.ref a]/\Rd H a (.dK aj)/\Q (.int aj.length) H,fun pins s σ H xs us Q I rs ⟨a,aj,e,ha,q⟩=>by
 subst e
 cases rs with
 |cons r1 rs=>
  cases rs
  cases r1
  exact LX I ha fun t s' I'=>⟨.int aj.length,H,I',⟨t,rfl⟩,q⟩,fun β xs ds M H Q Q' _ _ _ m rs z q=>by
 unfold z1 at z
 split at z
 ·obtain ⟨x,rfl,r⟩:=dz rs
  unfold zLenK at z
  split at z
  ·rename_i ks ds hk
   obtain ⟨a,vs,rfl,ha,hk,_⟩:=(nJ m r).1 _ _ hk
   refine ⟨a,_,rfl,ha,?_⟩
   rw [Op,<- hk,Ps]
   exact q _ _ _ _ (.refl m) (.int _) z
  ·exact z.elim
 ·exact z.elim⟩
end
def fK (X:Cx):ba:=X.env.qual ++ "<lambda>"
structure JF (X:Cx) (params:GS) (body:ci) (scope:uu) (o:ii) (c:ac) (oc:ii) (aP:List (ba×ac)):Prop where
 cells:∀n a,aP.lookup n=some a->X.env.cells.lookup n=some a
 has:∀n,(n,r6)∈scope.names->∃a,aP.lookup n=some a
 obj:∃iJ,o=IT "<lambda>" (fK X) params body scope aP ((X.mg "__name__").getD .none) c iJ
 code:∃vs t,oc.data=.fields vs/\vs[1]?=some (Td (fK X) t)
structure JG (X:Cx) (P:ac) (H H2:Hp) (f:ac) (o:ii) (c:ac) (oc:ii):Prop where
 new:H f=none
 at':∃u,H2 f=some (.bQ o u)
 cd:∃u,H2 c=some (.bQ oc u)
 lm:Lm H2 (P,fK X)
 keep:∀b u,H b=some u->b≠P->H2 b=some u
 tab:∃ps,H P=some (.lam ps)
def Pb (X:Cx) (P:ac) (params:GS) (body:ci) (scope:uu):TE:=fun _ H Q=>Lm H (P,fK X)/\∀f o c oc aP H2,JF X params body scope o c oc aP->JG X P H H2 f o c oc->Q (.ref f) H2
def js (a:ac) (o:ii):HO:=.bQ o (.ext fun h=>h.get? a=some o)
theorem uN {P:cr} {w:gc} {H:Hp} {h:db} {a:ac} {o:ii} (e:h.get? a=some o):ObjOk P w H h a (js a o):=⟨e,e,⟨o,e⟩,fun _ _ x k=>k o x⟩
theorem AF {a b c cv:ag} {pos:rf} (l:List ag) (h:Ix l) (e:codeAmong pos (l++[a,b,c])=some cv):codeAmong pos l=some cv\/cv=c :=by
 induction l using TriplesOk.induct with
 |case1=>
  right
  simp only [IR] at e
  unfold codeAmong at e
  split at e
  ·rename_i heq
   cases heq
   split at e
   ·exact (dL e).symm
   ·simp [codeAmong] at e
  ·cases e
 |case2 x tx y ty z rest ih=>
  simp only [Rs,codeAmong] at e ⊢
  split at e
  ·rename_i q
   rw [if_pos q];exact .inl e
  ·rename_i q
   rw [if_neg q];exact ih h e
 |case3 l n1 n2=>
  exfalso
  unfold Ix at h
  split at h
  ·exact n1 rfl
  ·exact n2 _ _ _ _ _ _ rfl
  ·exact h
section
variable {X:Cx} {params:GS} {body:ci} {scope:uu} {pos:rf} {P cX:ac}
theorem ym {pins:List (ac×ii)} {s:ap} {σ:St} {H:Hp} {h':db} {o:ii} (I:Inv X pins σ H s) (hk:∀b u,s.heap.get? b=some u->h'.get? b=some u) (hsz:s.heap.objs.size<=h'.objs.size) (hc:o.isFreed=false) (tk:Nat) :
  Inv X pins σ (upd H h'.objs.size (js h'.objs.size o)) {s with heap:=h'.push o,toks:=tk}:=
 I.laid (a:=h'.objs.size) (o:=js h'.objs.size o) (t':=tk) (fun b u e=>bn _ (hk b u e)) hsz (uN (ff _ hc))
theorem yn {pins:List (ac×ii)} {s:ap} {σ:St} {H:Hp} {h':db} {o oc:ii} {c:ac} {ps gr:Array ag} (I:Inv X pins σ H s) (hP:H P=some (.lam ps)) (hx:TM P s.heap h') (uO:s.heap.objs.size<=c) (bp:c<h'.objs.size) (qS:h'.get? c=some oc)
  (Eu:h'.get? P=some {cls:=.none,data:=.fields gr}) (hc:o.isFreed=false) (tk:Nat) :
  Inv X pins σ (upd (upd (upd H P (.lam gr)) c (js c oc)) h'.objs.size (js h'.objs.size o)) {s with heap:=h'.push o,toks:=tk}:=by
 have JH:P<s.heap.objs.size:=(I.hok P _ hP).lt
 have hsz:s.heap.objs.size<=h'.objs.size:=Pc (Nat.lt_of_le_of_lt uO bp)
 have old:∀b,b<s.heap.objs.size->b≠P->upd (upd (upd H P (.lam gr)) c (js c oc)) h'.objs.size (js h'.objs.size o) b=H b:=fun b hb n=>by
  rw [af (i8 (lc hb hsz)),af (i8 (lc hb uO)),af n]
 have SF:upd (upd (upd H P (.lam gr)) c (js c oc)) h'.objs.size (js h'.objs.size o) P=some (.lam gr) :=by
  rw [af (i8 (lc JH hsz)),af (i8 (lc JH uO)),ax]
 have k:∀b u,b≠P->s.heap.get? b=some u->(h'.push o).get? b=some u:=fun b u n e=>bn _ (hx b u n e)
 have AG:∀b u,H b=some u->b<s.heap.objs.size:=fun b u e=>(I.hok b u e).lt
 have nP:∀b,H b=none->b≠P:=fun b e z=>by rw [z,hP] at e;cases e
 have nT:∀b u,H b=some u->(∀ps,u≠.lam ps)->b≠P:=fun b u e n z=>by rw [z,hP] at e;cases e;exact n _ rfl
 refine I.un ⟨fun b u q n _ _=>k b u (nP b n) q,fun b u q n _ _=>⟨u.slots,k b u (nP b n) q⟩,fun b u q n _=>by rw [old b (f8 q) (nP b n)];exact n,fun b u q _=>?_,fun b xs q=>by rw [old b (AG b _ q) (nT b _ q (by intro _ z;cases z))];exact q,
  fun b u xs q=>by rw [old b (AG b _ q) (nT b _ q (by intro _ z;cases z))];exact q,fun b qs q=>⟨#[],by rw [old b (AG b _ q) (nT b _ q (by intro _ z;cases z)),q];simp⟩⟩ fun b u q=>?_
 ·by_cases e:b=P
  ·subst e;exact ⟨_,bn _ Eu⟩
  ·exact ⟨u,k b u e q⟩
 ·by_cases e1:b=h'.objs.size
  ·subst e1
   rw [ax] at q;cases q
   exact uN (ff _ hc)
  ·rw [af e1] at q
   by_cases e2:b=c
   ·subst e2
    rw [ax] at q;cases q
    exact uN (bn _ qS)
   ·rw [af e2] at q
    by_cases e3:b=P
    ·subst e3
     rw [ax] at q;cases q
     exact bn _ Eu
    ·rw [af e3] at q
     refine (I.hok b u q).cV (fun a v hc q=>k a v ?_ q) (fun a z=>?_) fun a xs z=>?_
     ·rcases hc with z|z
      ·rw [z];exact e3
      ·exact nT a _ z (by intro _ w;cases w)
     ·rw [old a (AG a _ z) (nT a _ z (by intro _ w;cases w))];exact z
     ·rw [old a (AG a _ z) (nT a _ z (by intro _ w;cases w))];exact z
theorem JI (dG:X.env.code=.ref cX) (hd:mT X.base cX P) (di:∃bm ob,SX X.base mainGlobals X.mg bm ob) (tj:defaultsOf params X.env=([],[]))
  (ny:∀n,(n,r6)∈scope.names->X.env.kindOf n=some .cell\/X.env.kindOf n=some .free):PE X (.Lambda params body scope pos) (Pb X P params body scope) :=by
 refine ⟨?_⟩
 intro pins s σ H Q I ⟨⟨ps,hP,tU,JK⟩,q⟩
 obtain ⟨aP,jO,gm,iB⟩:=iN (scope:=scope) (env:=X.env) fun n hn=>I.ok.has n (ny n hn)
 have tR:s.heap.get? P=some (LP ps):=I.hok P _ hP
 obtain ⟨bm,ob,bmod⟩:=di
 have fT:=bmod.keeps I.bk
 have QU:mainGlobals≠P:=fun z=>by
  obtain ⟨o,es,ep,e,hd,_⟩:=fT.ns
  rw [z,tR] at e;cases e;cases hd
 have QV:bm≠P:=fun z=>by
  have e:=fT.obj
  have e2:=fT.data
  rw [z,tR] at e;cases e;cases e2
 have QX:bm≠mainGlobals:=fun z=>by
  obtain ⟨o,es,ep,e,hd,_⟩:=fT.ns
  have e1:=fT.obj
  have e2:=fT.data
  rw [z,e] at e1;cases e1;rw [hd] at e2;cases e2
 have hb:s.heap.BuiltinsAt X.mg P:=⟨bm,ob,fT.name,fT.ne,QX,QV,fT.obj,fT.cls,fT.dict,fT.data⟩
 refine PySem.W.kla_eval tj ?_
 cases hq:codeAmong pos ps.toList with
 |some cv=>
  obtain ⟨c,oc,uc,vs,t,rfl,ec,d1,d2⟩:=JK pos cv hq
  refine PySem.W.kla_makeFunctionHit (mg:=X.mg) jO I.ok.glob (I.mod.glob.keeps I.bk) dG (hd.keeps I.bk) tR tU hq hb fun iJ h' tk hk hsz=>?_
  have hf:H h'.objs.size=none:=I.hok.fresh hsz
  have pre:∀b u,H b=some u->upd H h'.objs.size (js h'.objs.size (IT "<lambda>" (fK X) params body scope aP ((X.mg "__name__").getD .none) c iJ)) b=some u:=fun b u e=>by rw [af (bf e hf)];exact e
  refine ⟨.ref h'.objs.size,_,ym I hk hsz (o:=IT "<lambda>" (fK X) params body scope aP ((X.mg "__name__").getD .none) c iJ) rfl tk,rfl,q _ _ c oc aP _ ⟨gm,iB,⟨iJ,rfl⟩,⟨vs,t,d1,d2⟩⟩ ⟨hf,⟨_,ax⟩,⟨uc,pre _ _ ec⟩,Lm.keep ⟨ps,hP,tU,JK⟩ (fun _ e=>pre _ _ e) fun _ _ _ e=>pre _ _ e,fun b u e _=>pre b u e,⟨ps,hP⟩⟩⟩
 |none=>
  refine PySem.W.kla_makeFunction (mg:=X.mg) jO I.ok.glob (I.mod.glob.keeps I.bk) dG (hd.keeps I.bk) tR tU hq QU hb fun c iJ h' tk hx uO bp Pg Eu=>?_
  obtain ⟨c2,oc,vs,t,e2,qS,d1,d2⟩:=Pg
  cases e2
  have I2:=yn (o:=IT "<lambda>" (fK X) params body scope aP ((X.mg "__name__").getD .none) c iJ) I hP hx uO bp qS Eu rfl tk
  have hsz:s.heap.objs.size<=h'.objs.size:=Pc (Nat.lt_of_le_of_lt uO bp)
  have hf:H h'.objs.size=none:=I.hok.fresh hsz
  have pN:H c=none:=I.hok.fresh uO
  have QY:c≠h'.objs.size:=i8 bp
  have QZ:P≠c:=fun z=>by rw [z,pN] at hP;cases hP
  have Q0:P≠h'.objs.size:=fun z=>by rw [z,hf] at hP;cases hP
  have Q1:Ix (ps++#[rawInt pos.line,rawInt pos.col,l5 c]).toList :=by
   rw [Sm]
   exact TriplesOk_snoc _ _ _ _ tU
  have pre:∀b u,H b=some u->b≠P->upd (upd (upd H P (.lam (ps++#[rawInt pos.line,rawInt pos.col,l5 c]))) c (js c oc)) h'.objs.size (js h'.objs.size (IT "<lambda>" (fK X) params body scope aP ((X.mg "__name__").getD .none) c iJ)) b=some u:=fun b u e n=>by
   rw [af (bf e hf),af (bf e pN),af n];exact e
  have NP:upd (upd (upd H P (.lam (ps++#[rawInt pos.line,rawInt pos.col,l5 c]))) c (js c oc)) h'.objs.size (js h'.objs.size (IT "<lambda>" (fK X) params body scope aP ((X.mg "__name__").getD .none) c iJ)) c=some (js c oc) :=by rw [af QY,ax]
  refine ⟨.ref h'.objs.size,_,I2,rfl,q _ _ c oc aP _ ⟨gm,iB,⟨iJ,rfl⟩,⟨vs,t,d1,d2⟩⟩ ⟨hf,⟨_,ax⟩,⟨_,NP⟩,⟨_,by rw [af Q0,af QZ,ax],Q1,fun p cv e=>?_⟩,pre,⟨ps,hP⟩⟩⟩
  rw [Sm] at e
  rcases AF _ tU e with e|e
  ·obtain ⟨c3,Q2,u3,Q3,t3,a1,a2,a3⟩:=JK p cv e
   exact ⟨c3,Q2,u3,Q3,t3,a1,pre _ _ a2 (fun z=>by rw [z,hP] at a2;cases a2),a3⟩
  ·exact ⟨c,oc,_,vs,t,e,NP,d1,d2⟩
end
structure Ew (X:Cx) (σ:St) (b':db):Prop where
 ext:∀b o,X.base.get? b=some o->b'.get? b=some o
 cell:∀(i:Nat) (x:ba) (v:V),X.N[i]?=some x->σ[i]?=some (some v)->X.env.scope.names.lookup x=some .cell->∃c u,X.env.cells.lookup x=some c/\RelV v u/\b'.IsCell c (some u)
 cells:∀x c,X.env.cells.lookup x=some c->∃v,b'.IsCell c v
 inj:∀x y c,X.env.cells.lookup x=some c->X.env.cells.lookup y=some c->x=y
theorem Mod.ext {K:ar} {mg:ba->Option ag} {b b':db} (m:Mod K mg b) (k:∀a o,b.get? a=some o->b'.get? a=some o):Mod K mg b':=
 ⟨m.kin.keeps k,m.glob.keeps k,let ⟨mb,h1,h2⟩:=m.blt;⟨mb,h1.keeps k,h2⟩,m.nolimit.keeps k⟩
section
variable {X:Cx} {pins:List (ac×ii)} {σ:St} {H:Hp} {s:ap}
theorem Inv.Mb (I:Inv X pins σ H s) (oW:∀x,X.fn x=true):∃b',Ew X σ b'/\qi X.prog X.w X.K X.mg b' X.A X.stack s H :=by
 let Ez:ac->Prop:=fun a=>∃x,X.env.cells.lookup x=some a
 let l:List ac:=(on s.heap.objs.size).filter fun a=>@decide ((X.base.get? a=none)/\¬ Ez a) (FM _)
 have ml:∀a,a∈l ↔ a<s.heap.objs.size/\X.base.get? a=none/\¬ Ez a:=fun a=>by
  show a∈(on s.heap.objs.size).filter _ ↔ _
  rw [Cn,LH]
  simp only [decide_eq_true_eq]
 have ext:∀b o,X.base.get? b=some o->(xp s.heap l).get? b=some o:=fun b o e=>Sk l (I.bk b o e) fun z=>by
  have:=((ml b).mp z).2.1
  rw [e] at this;cases this
 have cls:∀x c o,X.env.cells.lookup x=some c->s.heap.get? c=some o->(xp s.heap l).get? c=some o:=fun x c o e ho=>Sk l ho fun z=>((ml c).mp z).2.2 ⟨x,e⟩
 have only:∀b o,(xp s.heap l).get? b=some o->s.heap.get? b=some o/\((∃o',X.base.get? b=some o')\/Ez b):=fun b o e=>by
  have e':=TN l e
  refine ⟨e',?_⟩
  by_cases hc:Ez b
  ·exact .inr hc
  ·cases q:X.base.get? b with
   |some o'=>exact .inl ⟨o',rfl⟩
   |none=>
    have:(xp s.heap l).get? b=none:=PySem.W.hideAll_none l ((ml b).mpr ⟨f8 e',q,hc⟩)
    rw [e] at this;cases this
 refine ⟨xp s.heap l,⟨ext,fun i x v h1 h2 h3=>?_,fun x c e=>?_,I.ok.inj⟩,I.ok.frames,I.ok.mod.ext ext,fun b o e=>?_,Pv (PySem.W.hideAll_size _ _),?_,I.nv,I.hok,I.bare.1⟩
 ·obtain ⟨m,hn,hl⟩:=I.loc
  obtain ⟨u,r,lk⟩:=hl i x v h1 h2 (.inr (.inl h3))
  rcases lk with ⟨hk,_⟩|⟨_,c,ec,o,ho,hd⟩
  ·have hk:X.env.scope.names.lookup x=some .local:=hk
   rw [h3] at hk;cases hk
  ·exact ⟨c,u,ec,r,o,cls x c o ec ho,hd⟩
 ·obtain ⟨v,o,ho,hd⟩:=I.cell x c e
  exact ⟨v,o,cls x c o e ho,hd⟩
 ·obtain ⟨e',q⟩:=only b o e
  refine ⟨e',?_⟩
  rcases q with ⟨o',q⟩|⟨x,q⟩
  ·exact (I.bs b o' q).2
  ·exact I.freeC x b q
 ·have fr:∀L∈eu X.stack,(xp s.heap l).get? L=none:=fun L hL=>by
   cases q:(xp s.heap l).get? L with
   |none=>rfl
   |some o=>
    exfalso
    obtain ⟨e',q⟩:=only L o q
    have nb:=(I.stack.mem hL).1
    rcases q with ⟨o',q⟩|⟨x,q⟩
    ·rw [nb] at q;cases q
    ·rcases lp.mp (I.ie L hL) with z|z
     ·exact I.qR x L q z
     ·have h1:=I.ok.cab x L (oW x) q
      obtain ⟨_,o2,Q4,_⟩:=I.ok.funs.mem z
      exact absurd (f8 Q4) (UJ.mpr h1)
  have go:∀(st:List Go),(∀L∈eu st,(xp s.heap l).get? L=none)->s.heap.FunFrames X.base st->s.heap.FunFrames (xp s.heap l) st :=by
   intro st
   induction st with
   |nil=>intro _ _;trivial
   |cons env r ih=>
    intro hs hl
    obtain ⟨hk,⟨L,o,hf,hn,ho,hd⟩,hr⟩:=hl
    exact ⟨hk,⟨L,o,hf,hs L (by unfold eu;rw [NE,hf];exact i0),ho,hd⟩,ih (fun b hb=>hs b (by unfold eu;rw [NE,hf];exact hX _ hb)) hr⟩
  exact go X.stack fr I.stack
end
section
variable {X:Cx} {CX:fQ} {k:Nat} {f:ac} {fd:im} {ps:List ba} {fo:List V} {ds:List ag} {E:XK} {x:ba} {p pos:rf} {e:ci} {es:List ci} {t:TA}
def JL (X:Cx) (sp:db->Sp) (fo:List V) (E:XK) (t:TA):TE:=fun σ H Q=>t σ H fun vs H1=>∀b',Ew X σ b'->sp b' (vs++fo) H1 Q E
theorem C6 {sp:db->Sp} (F:∀b',(∀b o,X.base.get? b=some o->b'.get? b=some o)->FnOk X.prog X.w X.K X.mg b' CX k f fd ps (sp b')) (hr:bG k X.A) (oW:∀x,X.fn x=true) (hg:Gl X x) (hm:X.mg x=some (.ref f)) (hk:AC X.K (.ref f)=true) (hb:Binds X.K fd ps ds) (hd:Vals fo ds) (hx:Passes CX X E)
  (ha:PA X (e::es) t) (eO:(x==("__debug__" : ba))=false :=by decide) (he:starEach (e::es) X.env=(false,eval e X.env)::starEach es X.env :=by rfl) (cZ:(backTo pos (starEach es X.env)).any (·.1)=false :=by rfl) :
  PE X (.Call (.Name x p) (e::es) [] pos) (JL X sp fo E t) :=by
 refine ⟨?_⟩
 intro pins s σ H Q I h
 refine AM (nz I hg hm ?_ eO)
 refine PySem.W.callWith_K (h₀:=X.base) I.ok.mod.kin hk (thn (ha pos pins s σ H _ I h) fun us s1 ⟨vs,H1,I1,r,q⟩=>⟨I1.f9,?_⟩) he cZ
 obtain ⟨b',B,e0⟩:=I1.Mb oW
 have r2:Vals (vs++fo) (us++ds):=r.append hd
 have hl:(us++ds).length=ps.length :=by rw [<- r2.length];exact (F b' B.ext).len _ _ _ _ (q b' B)
 refine wpAny_call (Uh ((F b' B.ext).run X.A X.stack s1 H1 ⟨us,[]⟩ (us++ds) (vs++fo) Q E hr e0 (hb s1 us I1.f9 hl) r2 (q b' B)) fun r s' hq=>?_)
 cases r with
 |error e=>exact hx pins σ H1 s1 e s' I1 hq
 |ok fl=>
  cases fl with
  |ret u=>exact I1.after hq
  |next=>exact BY hq
  |brk=>exact BY hq
  |cont=>exact BY hq
def JM (f:ac) (o:ii) (sp:Sp) (E:XK) (i:Nat) (t:TA):TE:=fun σ H Q=>σ[i]?=some (some (.ref f))/\(∃u,H f=some (.bQ o u))/\t σ H fun vs H1=>(∃u,H1 f=some (.bQ o u))/\sp vs H1 Q E
theorem C7 {o:ii} {sp:Sp} {i:Nat} (F:FnOk X.prog X.w X.K X.mg X.base CX k f fd ps sp) (ho:∃oc od fd sl,o=⟨oc,od,.func fd,sl⟩) (hr:bG k X.A) (hN:X.N[i]?=some x) (hv:oV X.env.scope x) (hb:Binds X.K fd ps []) (hx:Passes CX X E) (ha:PA X (e::es) t)
  (eO:(x==("__debug__" : ba))=false :=by decide) (dH:(x==("__classdict__" : ba))=false :=by decide) (he:starEach (e::es) X.env=(false,eval e X.env)::starEach es X.env :=by rfl) (cZ:(backTo pos (starEach es X.env)).any (·.1)=false :=by rfl) :
  PE X (.Call (.Name x p) (e::es) [] pos) (JM f o sp E i t) :=by
 refine ⟨?_⟩
 intro pins s σ H Q I ⟨hi,hf,h⟩
 obtain ⟨oc,od,Ed,sl,rfl⟩:=ho
 refine AM (thn ((tu hN hv eO dH) pins s σ H (fun v H'=>v=.ref f/\H'=H) I ⟨_,hi,rfl,rfl⟩) fun u s0 ⟨v,H0,I0,r0,e1,e2⟩=>?_)
 subst e1 e2
 cases (show u=l5 f from r0)
 have at_:∀{H':Hp} {s':ap},Inv X pins σ H' s'->(∃u,H' f=some (.bQ ⟨oc,od,.func Ed,sl⟩ u))->PySem.W.FnAt f s'.heap:=fun I' ⟨u,hu⟩=>⟨oc,od,Ed,sl,(I'.hok f _ hu).1⟩
 refine PySem.W.callWith_F (at_ I0 hf) (thn (ha pos pins s0 σ H0 _ I0 h) fun us s1 ⟨vs,H1,I1,r,Q5,q⟩=>⟨at_ I1 Q5,?_⟩) he cZ
 have q':sp (vs++[]) H1 Q E :=by rw [Co];exact q
 exact zt F hr hb .nil hx I1 r q'
end
def yo (CX:fQ) (P:cr) (w:gc) (K:ar) (mg:ba->Option ag) (base:db) (N:List ba) (qual:ba) (scope:uu) (f:ac) (cd:ag) (aP:List (ba×ac)) (A:l9) (outer:List Go) (s:ap) (H:Hp) (E:XK):Cx where
 prog:=P
 w:=w
 K:=K
 mg:=mg
 base:=base
 A:=A.deeper (Na qual scope s.heap.objs.size f cd aP)
 N:=N
 s₀:=s
 H₀:=H
 env:=Na qual scope s.heap.objs.size f cd aP
 outer:=outer
 stack:=Na qual scope s.heap.objs.size f cd aP::outer
 ex:=[]
 calm:=true
 fn:=fun _=>false
 pn:=[]
 xe:=fun e s'=>wpAny (model P w) (A.deeper (Na qual scope s.heap.objs.size f cd aP)) (leaving (Na qual scope s.heap.objs.size f cd aP) e) (fun _ bu=>CX outer H s E e bu) (fun e' bu=>CX outer H s E e' bu) s'
structure lr (ps fs:List ba) (sc:uu):Prop where
 kind:sc.kind=.function
 co:sc.isCoroutine=false
 gen:sc.isGenerator=false
 nd:(ps++fs).Nodup
 par:∀x∈ps,sc.names.lookup x=some .local
 fre:∀x∈fs,sc.names.lookup x=some .free
 nocell:∀y∈sc.names,y.2≠.cell
structure qC (base:db) (fs:List ba) (aP:List (ba×ac)) (vcs:List V):Prop where
 inj:∀x y c,aP.lookup x=some c->aP.lookup y=some c->x=y
 all:∀x c,aP.lookup x=some c->∃v,base.IsCell c v
 cell:∀(j:Nat) (x:ba) (v:V),fs[j]?=some x->vcs[j]?=some v->∃c u,aP.lookup x=some c/\RelV v u/\base.IsCell c (some u)
theorem pO {x:ba} {v:ag}:∀{ps:List ba} {us:List ag} {i:Nat},ps.Nodup->ps[i]?=some x->us[i]?=some v->(ps.zip us).reverse.lookup x=some v
 | [],_,_,_,h,_=>by simp at h
 |_::_,[],_,_,_,h=>by simp at h
 |p::ps,u::us,i,nd,h1,h2=>by
          rw [On,List.reverse_cons]
          have hn:=EN.mp nd
          cases i with
          |zero=>
           simp at h1 h2
           subst h1 h2
           rw [List.lookup_append]
           have:(ps.zip us).reverse.lookup p=none :=by
            rw [List.lookup_eq_none_iff]
            intro q hq
            have Q6:=List.mem_reverse.mp hq
            have:=(NL Q6).1
            have ne:p≠q.1:=fun z=>hn.1 (by rw [z];exact this)
            simpa using ne
           rw [this]
           simp [List.lookup]
          |succ i=>
           rw [List.lookup_append,pO hn.2 (by simpa using h1) (by simpa using h2)]
           rfl
section
variable {CX:fQ} {P:cr} {w:gc} {K:ar} {mg:ba->Option ag} {base:db} {ps fs:List ba} {qual:ba} {scope:uu} {f c:ac} {aP:List (ba×ac)} {A:l9} {outer:List Go} {s:ap} {H:Hp} {E:XK} {us:List ag} {vs vcs:List V}
theorem F7 {h1:db} {tk:Nat} (S:lr ps fs scope) (C:qC base fs aP vcs) (has:∀n,(n,r6)∈scope.names->∃a,aP.lookup n=some a) (hd:A.handled=none) (e0:qi P w K mg base A outer s H) (hl:vs.length=ps.length) (hc:vcs.length=fs.length) (r:Vals vs us)
  (gh:h1.Ns s.heap.objs.size (fun y=>(ps.zip us).reverse.lookup y)) (hk:∀b o,s.heap.get? b=some o->h1.get? b=some o) :
  Inv (yo CX P w K mg base (ps++fs) qual scope f (.ref c) aP A outer s H E) [] (vs.map some++vcs.map some) H {s with heap:=h1,toks:=tk}:=by
 have bc:∀x a,aP.lookup x=some a->∃v o,s.heap.get? a=some o/\o.data=.cell v/\H a=none:=fun x a e=>by
  obtain ⟨v,o,ho,hd⟩:=C.all x a e
  obtain ⟨h1,h2⟩:=e0.bs a o ho
  exact ⟨v,o,h1,hd,h2⟩
 refine ⟨⟨e0.mod,S.kind,rfl,rfl,ce _,C.inj,fun y hy=>?_,fun _ _ z=>(nomatch z),fun _=>hd,l9.frames_deeper e0.frames,.inr ⟨rfl,rfl⟩,fun b z=>absurd (show b∈([]:List ac) from z) (by simp),e0.bs,e0.bsz,fun b _ _ z=>absurd (show b∈([]:List ac) from z) (by simp),fun b z=>absurd (show b∈([]:List ac) from z) (by simp),e0.funs,e0.frf⟩,
  rfl,⟨e0.bare,ce _⟩,Un.kept hk,⟨_,gh,fun i y v h1 h2 h3=>?_⟩,fun y a e=>?_,e0.hok.fresh (ce _),fun y a e=>?_,fun p hp=>absurd (show p∈([]:List (ac×ii)) from hp) (by simp),e0.hok.kept hk,?_⟩
 ·have hy:scope.names.lookup y=some .cell\/scope.names.lookup y=some .free:=hy
  rcases hy with hy|hy
  ·exact absurd rfl (S.nocell _ (u7 hy))
  ·exact has y (u7 hy)
 ·have h1:(ps++fs)[i]?=some y:=h1
  by_cases hi:i<ps.length
  ·rw [l8 hi] at h1
   rw [l8 (by simpa [hl] using hi),br] at h2
   have ha:vs[i]?=some v :=by
    cases e:vs[i]? with
    |none=>rw [e] at h2;cases h2
    |some a=>rw [e] at h2;cases h2;rfl
   obtain ⟨u,hu,rv⟩:=r.get ha
   have nd:ps.Nodup:=S.nd.sublist (List.sublist_append_left _ _)
   exact ⟨u,rv,.inl ⟨S.par y (c8 h1),pO nd h1 hu⟩⟩
  ·rw [sB (by omega)] at h1
   rw [sB (by simp only [cb];omega),cb,hl,br] at h2
   have ha:vcs[i - ps.length]?=some v :=by
    cases e:vcs[i - ps.length]? with
    |none=>rw [e] at h2;cases h2
    |some a=>rw [e] at h2;cases h2;rfl
   obtain ⟨a,u,e1,rv,o,ho,hd⟩:=C.cell _ y v h1 ha
   exact ⟨u,rv,.inr ⟨.inr (S.fre y (c8 h1)),a,e1,o,hk _ _ (e0.bs a o ho).1,hd⟩⟩
 ·obtain ⟨v,o,ho,hd,_⟩:=bc y a e
  exact ⟨v,o,hk _ _ ho,hd⟩
 ·obtain ⟨v,o,ho,hd,hn⟩:=bc y a e
  exact hn
 ·show _=(ps++fs).length
  simp [hl,hc]
structure yp (params:GS) (body:ci) (scope:uu) (qual:ba) (o:ii) (c:ac) (oc:ii) (aP:List (ba×ac)) (fd:im):Prop where
 has:∀n,(n,r6)∈scope.names->∃a,aP.lookup n=some a
 obj:∃name pm iJ,fd=PySem.W.kla_fn name qual params body scope aP pm (.ref c) iJ/\o={cls:=.type "function",data:=.func fd}
 code:∃vs t,oc.data=.fields vs/\vs[1]?=some (Td qual t)
theorem JN {params:GS} {body:ci} {o oc:ii} {fd:im} {k:Nat} {sp:Sp} (L:yp params body scope qual o c oc aP fd) (S:lr ps fs scope) (C:qC base fs aP vcs) (fR:vcs.length=fs.length) (len:∀vs H Q E,sp vs H Q E->vs.length=ps.length)
  (at':∀vs H Q E,sp vs H Q E->(∃u,H f=some (.bQ o u))/\∃u,H c=some (.bQ oc u))
  (kR:∀(A:l9) (outer:List Go) (s:ap) (H:Hp) (vs:List V) (Q:VK) (E:XK),bG k (A.deeper (Na qual scope s.heap.objs.size f (.ref c) aP))->sp vs H Q E->
   ∃t,PE (yo CX P w K mg base (ps++fs) qual scope f (.ref c) aP A outer s H E) body t/\t (vs.map some++vcs.map some) H Q):FnOk P w K mg base CX (k+1) f fd ps sp :=by
 obtain ⟨has,⟨name,pm,iJ,rfl,rfl⟩,⟨Q7,ct,d1,d2⟩⟩:=L
 refine ⟨len,fun A outer s H args us vs Q E hr e0 hb r jM=>?_⟩
 have hl:=len _ _ _ _ jM
 obtain ⟨⟨u1,ef⟩,⟨u2,ec⟩⟩:=at' _ _ _ _ jM
 have Q8:=(e0.hok f _ ef).1
 have qS:=(e0.hok c _ ec).1
 have lim:s.heap.NoLimit:=e0.mod.nolimit.keeps fun b o e=>(e0.bs b o e).1
 refine PySem.W.kla_callFunE hr.depth Q8 rfl S.co S.gen rfl ⟨c,oc,Q7,ct,rfl,qS,d1,d2⟩ (hb _ _ _ _ ?_)
 refine wpAny_newFunctionEnv S.nocell (fun y hy=>S.par y.1 (NL hy).1) (fun h1 gh D8=>⟨lim.fresh _ D8,?_⟩) S.kind
 have hk:∀b o,s.heap.get? b=some o->h1.get? b=some o:=fun b o e=>D8.extBut b o (i8 (f8 e)) (bn _ e)
 obtain ⟨t,ht,hq⟩:=kR A outer s H vs Q E (hr.deeper _) jM
 have I:=F7 (CX:=CX) (qual:=qual) (f:=f) (c:=c) (E:=E) (tk:=s.toks+(ps.zip us).length) S C has hr.hd e0 hl fR r gh hk
 show codeAny _ _ (.expr body (Na qual scope s.heap.objs.size f (.ref c) aP)) _ _
 refine PySem.W.kla_codeExpr (lw (ht [] _ _ H Q I hq) (fun u s' ⟨v,H',J,rv,q⟩=>?_) fun e s' hs=>hs)
 exact ⟨v,H',J.os,J.bare,J.base,J.hok,rv,q⟩
end
end L2
namespace L2
open PySem PySem.Spec PySem.W PyProof.Rows
structure EA (K:ar) (mg:ba->Option ag) (x:ba) (st:mv) (ps:List ba) (ds:List ag) (f:ac) (fd:im):Prop where
 ex:∃(oc:ag) (od:Option ac) (dV kV doc pm:ag) (an:Option ac) (cK ct:ag) (jL:Array (Option ag)),
  fd=wT x x (cR st) (bN st) (ak st) dV kV doc pm an cK ct/\K.lookup f=some ⟨oc,od,.func fd,jL⟩/\CS K cK x=true
 kp:AC K (.ref f)=true
 bd:Binds K fd ps ds
 bd0:Binds K fd ps []
 mg:mg x=some (.ref f)
section
variable {P:cr} {w:gc} {K:ar} {mg:ba->Option ag} {base:db} {tb:cu} {x:ba} {st:mv} {f:ac} {fd:im} {N ps:List ba} {fo:List ag} {k:Nat} {S:bZ}
theorem Md (D:EA K mg x st ps fo f fd) (sc:aM N ps (ak st)) (len:∀ds M Q E,S ds M Q E->ds.length=ps.length)
  (body:∀(A:l9) (outer:List Go) (s:ap) (E:XK) (Γ:Gz) (ds:List Dv) (Q':ZK) (E':ZX),P=Γ.P->w=Γ.w->K=Γ.K->tb=Γ.tb->bG k (A.deeper (envOfC x (ak st) s.heap.objs.size f fd.code))->S ds Γ.M0 Q' E'->
   ∃p,md Γ (fi bL P w K mg base N x (ak st) f fd.code A outer s Γ.H0 E).iI (bN st) p/\p (zEndsOf Γ.M0 Q') (zstart N ds) Γ.M0):FnOk P w K mg base bL (k+1) f fd ps (aR P w K tb S) :=by
 obtain ⟨oc,od,dV,kV,doc,pm,an,cK,ct,jL,rfl,lk,dH⟩:=D.ex
 refine xE lk dH sc (qy len) fun A outer s H vs Q E hr h=>?_
 obtain ⟨β,ds,M,Q',E',eP,ew,eK,et,m,rs,hS,q,_⟩:=h
 obtain ⟨p,hp,hq⟩:=body A outer s E ⟨β,M,H⟩ ds Q' E' eP.symm ew.symm eK.symm et.symm hr hS
 refine ⟨_,hp.iI,β,zstart N ds,M,zEndsOf M Q',oG (Γ:=⟨β,M,H⟩) m rs,hq,?_⟩
 have fin:∀d M' v H',Ex β M H M' H'->Rz β M' H' v d->jo M Q' d M'->Q v H':=fun d M' v H' x r h=>nF m q x r h
 exact ⟨fun bS M' aI H' x zr h=>fin _ _ _ _ ⟨zr.ent,x.mz⟩ .aB h,fun d M' v H' x e r h=>fin _ _ _ _ ⟨e,x.mz⟩ r h,fun _ _ _ _ _ _ h=>h,fun _ _ _ _ _ _ h=>h⟩
def EB (P:cr) (w:gc) (K:ar) (tb:cu) (f:ac) (o:ii) (c:ac) (oc:ii) (vcs:List V) (S:List Dv->bZ):Sp:=fun vs H Q E=>∃(β:Bz) (ds cm:List Dv) (M:Mh) (Q':ZK) (E':ZX),β.P=P/\β.w=w/\β.K=K/\β.tb=tb/\Mz β M H/\aF β M H vs ds/\Rz β M H (.ref f) (.bU f o c oc vcs cm)/\S cm ds M Q' E' /\
 (∀d M' v H',Ex β M H M' H'->Rz β M' H' v d->Q' d M'->Q v H')/\∀C M' H',Ex β M H M' H'->E' C M'->E (.ref C) none H'
theorem jU {β:Bz} {M:Mh} {H:Hp} {v:V} {f c:ac} {o oc:ii} {vs:List V} {ds:List Dv} (h:Rz β M H v (.bU f o c oc vs ds)):v=.ref f/\(∃u,H f=some (.bQ o u))/\(∃u,H c=some (.bQ oc u))/\aF β M H vs ds :=by
 cases h with
 |bU m e m2 e2 hl h=>exact ⟨rfl,⟨_,e⟩,⟨_,e2⟩,hl,h⟩
theorem JO {Γ:Gz} {vs vcs:List V} {ds cm:List Dv} (m:Mz Γ.toBz Γ.M0 Γ.H0) (rs:aF Γ.toBz Γ.M0 Γ.H0 vs ds) (rc:aF Γ.toBz Γ.M0 Γ.H0 vcs cm):Zr Γ Γ.toBz Γ.M0 (ds.map some++cm.map some) (vs.map some++vcs.map some) Γ.H0:=
 ⟨rfl,rfl,rfl,rfl,fun _ h=>h,m.wf,.refl,m,by simp [rs.len,rc.len],fun i d e=>by
  rw [<- wv,br,io] at e
  obtain ⟨d2,e,e2⟩:=e
  cases e2
  obtain ⟨v,hv,r⟩:=(rs.append rc).get e
  exact ⟨v,by rw [<- wv,br,hv];rfl,r⟩⟩
theorem Ph {fs:List ba} {qual:ba} {scope:uu} {params:GS} {body:ci} {c:ac} {o oc:ii} {aP:List (ba×ac)} {vcs:List V} {Sc:List Dv->bZ} (L:yp params body scope qual o c oc aP fd) (sc:lr ps fs scope) (C:qC base fs aP vcs) (fR:vcs.length=fs.length)
  (len:∀cm ds M Q E,Sc cm ds M Q E->ds.length=ps.length)
  (hb:∀(A:l9) (outer:List Go) (s:ap) (E:XK) (Γ:Gz) (cm ds:List Dv) (Q':ZK) (E':ZX),P=Γ.P->w=Γ.w->K=Γ.K->tb=Γ.tb->bG k (A.deeper (Na qual scope s.heap.objs.size f (.ref c) aP))->Sc cm ds Γ.M0 Q' E'->
   ∃p,QE Γ (yo bL P w K mg base (ps++fs) qual scope f (.ref c) aP A outer s Γ.H0 E).iI body p/\p (ds.map some++cm.map some) Γ.M0 (jo Γ.M0 Q')):FnOk P w K mg base bL (k+1) f fd ps (EB P w K tb f o c oc vcs Sc) :=by
 refine JN L sc C fR (fun vs H Q E hS=>by obtain ⟨β,ds,cm,M,Q',E',_,_,_,_,m,rs,rc,s,_⟩:=hS;exact rs.len.trans (len _ _ _ _ _ s)) (fun vs H Q E hS=>by obtain ⟨β,ds,cm,M,Q',E',_,_,_,_,m,rs,rc,s,_⟩:=hS;obtain ⟨_,h1,h2,_⟩:=jU rc;exact ⟨h1,h2⟩) fun A outer s H vs Q E hr h=>?_
 obtain ⟨β,ds,cm,M,Q',E',eP,ew,eK,et,m,rs,rc,hS,q,_⟩:=h
 obtain ⟨p,hp,hq⟩:=hb A outer s E ⟨β,M,H⟩ cm ds Q' E' eP.symm ew.symm eK.symm et.symm hr hS
 obtain ⟨_,_,_,EC⟩:=jU rc
 exact ⟨_,hp.iI,β,_,M,_,JO (Γ:=⟨β,M,H⟩) m rs EC,hq,fun d M' v H' x r h=>nF m q x r h⟩
end
section
variable {X:Cx} {Γ:Gz} {β:Bz} {CX:fQ} {k:Nat} {f:ac} {fd:im} {ps:List ba} {E:XK} {E':ZX} {x:ba} {p pos:rf} {e:ci} {es:List ci} {za:dI} {P:cr} {w:gc} {tb:cu} {K:ar}
def zCallL (f:ac) (o:ii) (c:ac) (oc:ii) (vcs:List V) (S:List Dv->bZ) (E':ZX) (i:Nat) (za:dI):aH:=fun ρ M Q=>match ρ[i]? with
 |some (some (.bU f' o' c' JP JQ cm))=>(f'=f/\o'=o/\c'=c/\JP=oc/\JQ=vcs)/\za ρ M fun ds M1=>S cm ds M1 Q E'
 |_=>False
theorem C8 {c:ac} {o oc:ii} {vcs:List V} {S:List Dv->bZ} {i:Nat} (F:FnOk X.prog X.w X.K X.mg X.base CX k f fd ps (EB P w K tb f o c oc vcs S)) (ho:∃oc od fd sl,o=⟨oc,od,.func fd,sl⟩) (hr:bG k X.A) (hN:X.N[i]?=some x) (hv:oV X.env.scope x) (hb:Binds X.K fd ps [])
  (hx:Passes CX X E) (hP:P=Γ.P) (hw:w=Γ.w) (hK:K=Γ.K) (ht:tb=Γ.tb) (hE:XR Γ E' E) (ha:QA Γ X (e::es) za) (eO:(x==("__debug__" : ba))=false :=by decide) (dH:(x==("__classdict__" : ba))=false :=by decide)
  (he:starEach (e::es) X.env=(false,eval e X.env)::starEach es X.env :=by rfl) (cZ:(backTo pos (starEach es X.env)).any (·.1)=false :=by rfl):QE Γ X (.Call (.Name x p) (e::es) [] pos) (zCallL f o c oc vcs S E' i za):=
 (C7 F ho hr hN hv hb hx ha eO dH he cZ).imp fun σ H Q ⟨β,ρ,M,Q',zr,h,q⟩=>by
  subst hP hw hK ht
  unfold zCallL at h
  split at h
  ·rename_i f' o' c' JP JQ cm hi
   obtain ⟨⟨rfl,rfl,rfl,rfl,rfl⟩,h⟩:=h
   obtain ⟨v,hv,r⟩:=zr.at' i _ hi
   obtain ⟨rfl,h1,_,_⟩:=jU r
   refine ⟨hv,h1,β,ρ,M,_,zr,h,fun ds M1 vs H1 x1 r1 h2=>?_⟩
   have r':=r.ex x1
   obtain ⟨_,h3,_,_⟩:=jU r'
   exact ⟨h3,β,ds,cm,M1,Q',E',zr.eP,zr.ew,zr.eK,zr.et,x1.mz,r1,r',h2,fun d M2 v H2 x2 r2 h2=>q _ _ _ _ (x1.trans x2) r2 h2,fun C M2 H2 x2 h2=>hE C M2 H2 (pK zr.ent zr.sub zr.eP zr.ew zr.eK zr.et (x1.trans x2)) h2⟩
  ·exact h.elim
end
theorem Ex.Pj {X:Cx} {P:ac} {β:Bz} {M:Mh} {H H2:Hp} {f c:ac} {o oc:ii} (m:Mz β M H) (hp:∀q∈β.tb.l,q.1=P->q.2=fK X) (n:JG X P H H2 f o c oc):Ex β M H M H2 :=by
 obtain ⟨new,at',cd,lm,keep,⟨ps,hP⟩⟩:=n
 obtain ⟨ps2,Q9,_⟩:=id lm
 have nP:∀b u,H b=some u->(∀ps,u≠.lam ps)->b≠P:=fun b u e q z=>by rw [z,hP] at e;cases e;exact q _ rfl
 have ey:Ey M H M H2:=⟨fun b u _ e=>by
  by_cases hb:b=P
  ·subst hb
   rw [hP] at e;cases e
   exact .inr ⟨_,.inr (.inl ⟨ps,ps2,rfl,rfl⟩),Q9⟩
  ·exact .inl (keep b u e hb),fun _ h=>h,fun _ _ h _=>h⟩
 refine ⟨ey,fun a u e=>?_,fun q hq=>?_,fun a ha=>?_,m.apart,fun q hq=>?_⟩
 ·have z:=m.obj a u e
  have k:∀u,H a=some u->L2.oz u=true->H2 a=some u:=fun u h hu=>keep a u h (nP a u h (by intro ps z;subst z;cases hu))
  cases u with
  |lst ds=>obtain ⟨vs,z,l,r⟩:=z;exact ⟨vs,k _ z rfl,l,fun i v d a b=>(r i v d a b).ey ey⟩
  |dk ks ds=>obtain ⟨vs,z,hk,l,r⟩:=z;exact ⟨vs,k _ z rfl,hk,l,fun i v d a b=>(r i v d a b).ey ey⟩
  |dt ks ds=>obtain ⟨vs,z,hk,l,r⟩:=z;exact ⟨vs,k _ z rfl,hk,l,fun i v d a b=>(r i v d a b).ey ey⟩
  |c6=>obtain ⟨c,n,z,r⟩:=z;exact ⟨c,n,k _ z rfl,r⟩
 ·obtain ⟨ps,e,t⟩:=m.tabs q hq
  exact ⟨ps,keep _ _ e (nP _ _ e (by intro ps z;cases z)),t⟩
 ·obtain ⟨u,e,n⟩:=m.hids a ha
  exact ⟨u,keep _ _ e (nP _ _ e (by intro ps z;subst z;cases n)),n⟩
 ·by_cases hb:q.1=P
  ·have:q=(P,fK X):=Prod.ext hb (hp q hq hb)
   rw [this];exact lm
  ·exact (m.lams q hq).keep (fun _ e=>keep _ _ e hb) fun c' _ _ e=>keep _ _ e (nP _ _ e (by intro ps z;cases z))
section
variable {X:Cx} {Γ:Gz} {β:Bz} {CX:fQ} {k:Nat} {f:ac} {fd:im} {ps:List ba} {E:XK} {E':ZX} {x:ba} {p pos mZ:rf} {e1 e2:ci} {rest:List ci} {z1 z2:aH} {zr:dI} {P:cr} {w:gc} {tb:cu} {K:ar}
def pP:List Nat->aA->Option (List Dv)
 | [],_=>some []
 |i::is,ρ=>match ρ[i]?,pP is ρ with|some (some d),some ds=>some (d::ds)|_,_=>none
theorem w6 {Γ:Gz} {M:Mh} {ρ:aA} {σ:St} {H:Hp} (z:Zr Γ β M ρ σ H):∀{idx:List Nat} {cm:List Dv},pP idx ρ=some cm->∃vcs,aF β M H vcs cm/\vcs.length=idx.length/\∀(j i:Nat) (v:V),idx[j]?=some i->vcs[j]?=some v->σ[i]?=some (some v)
 | [],cm,h=>by cases h;exact ⟨[],.nil,rfl,fun j i v h=>by simp at h⟩
 |i::is,cm,h=>by
          unfold pP at h
          split at h
          ·rename_i d ds h1 h2
           cases h
           obtain ⟨v,hv,r⟩:=z.at' i d h1
           obtain ⟨vcs,rs,l,q⟩:=w6 z h2
           refine ⟨v::vcs,.cons r rs,by simp [l],fun j i' u a b=>?_⟩
           cases j with
           |zero=>simp at a b;subst a b;exact hv
           |succ j=>exact q j i' u (by simpa using a) (by simpa using b)
          ·cases h
def uP (X:Cx) (params:GS) (body:ci) (scope:uu) (idx:List Nat) (fs:List ba) (S:db->bZ) (dd:List Dv) (E':ZX) (z1 z2:aH) (zr:dI):aH:=fun ρ M Q=>z1 ρ M fun d1 M1=>z2 ρ M1 fun d2 M2=>match pP idx ρ with
 |some cm=>∀f o c oc aP vcs,vcs.length=idx.length->JF X params body scope o c oc aP->zr ρ M2 fun es M3=>∀b',(∀b o,X.base.get? b=some o->b'.get? b=some o)->qC b' fs aP vcs->S b' (d1::d2::.bU f o c oc vcs cm::es++dd) M3 Q E'
 |none=>False
theorem yq {params:GS} {body:ci} {scope:uu} {idx:List Nat} {fs:List ba} {S:db->bZ} {fo:List V} {dd:List Dv} {ds:List ag} {PT cX:ac} (dG:X.env.code=.ref cX) (dH:mT X.base cX PT) (di:∃bm ob,SX X.base mainGlobals X.mg bm ob) (tj:defaultsOf params X.env=([],[]))
  (ny:∀n,(n,r6)∈scope.names->X.env.kindOf n=some .cell\/X.env.kindOf n=some .free) (Ra:∀(j:Nat) (n:ba),fs[j]?=some n->(n,r6)∈scope.names/\X.env.scope.names.lookup n=some .cell/\∃i,idx[j]?=some i/\X.N[i]?=some n)
  (il:(PT,fK X)∈Γ.tb.l) (JR:∀q∈Γ.tb.l,q.1=PT->q.2=fK X)
  (F:∀b',(∀b o,X.base.get? b=some o->b'.get? b=some o)->FnOk X.prog X.w X.K X.mg b' CX k f fd ps (aR P w K tb (S b'))) (hr:bG k X.A) (oW:∀x,X.fn x=true) (hg:Gl X x) (hm:X.mg x=some (.ref f)) (hk:AC X.K (.ref f)=true) (hb:Binds X.K fd ps ds) (hd:Vals fo ds) (Rb:∀β M H,aF β M H fo dd)
  (hx:Passes CX X E) (hP:P=Γ.P) (hw:w=Γ.w) (hK:K=Γ.K) (ht:tb=Γ.tb) (hE:XR Γ E' E) (h1:QE Γ X e1 z1) (h2:QE Γ X e2 z2) (h3:QA Γ X rest zr) (eO:(x==("__debug__" : ba))=false :=by decide)
  (s1:starEach (e1::e2::.Lambda params body scope mZ::rest) X.env=(false,eval e1 X.env)::starEach (e2::.Lambda params body scope mZ::rest) X.env :=by rfl)
  (s2:starEach (e2::.Lambda params body scope mZ::rest) X.env=(false,eval e2 X.env)::starEach (.Lambda params body scope mZ::rest) X.env :=by rfl)
  (s3:starEach (.Lambda params body scope mZ::rest) X.env=(false,eval (.Lambda params body scope mZ) X.env)::starEach rest X.env :=by rfl)
  (cZ:(backTo pos (starEach (e2::.Lambda params body scope mZ::rest) X.env)).any (·.1)=false :=by rfl) :
  QE Γ X (.Call (.Name x p) (e1::e2::.Lambda params body scope mZ::rest) [] pos) (uP X params body scope idx fs S dd E' z1 z2 zr):=
 (C6 F hr oW hg hm hk hb hd hx (nA h1 (nA h2 (nA (JI dG dH di tj ny) h3 s3) s2) s1) eO s1 cZ).imp fun σ H Q ⟨β,ρ,M,Q',jt,h,q⟩=>by
  subst hP hw hK ht
  refine ⟨β,ρ,M,_,jt,h,fun d1 M1 v1 H1 x1 r1 h1=>⟨β,ρ,M1,_,jt.step x1,h1,fun d2 M2 v2 H2 x2 r2 h2=>?_⟩⟩
  have Ep:=(jt.step x1).step x2
  have Pk:(PT,fK X)∈β.tb.l :=by rw [jt.et];exact il
  have Pl:∀q∈β.tb.l,q.1=PT->q.2=fK X :=by rw [jt.et];exact JR
  refine ⟨x2.mz.lams _ Pk,fun lf o c oc aP H3 hO hN=>?_⟩
  split at h2
  ·rename_i cm Mf
   obtain ⟨vcs,EC,lcs,at'⟩:=w6 Ep Mf
   have x3:=Ex.Pj x2.mz Pl hN
   have Jm:=Ep.step x3
   refine ⟨β,ρ,M2,_,Jm,h2 lf o c oc aP vcs lcs hO,fun es M4 ws H4 x4 r4 h4=>?_⟩
   intro b' B
   obtain ⟨u1,a1⟩:=hN.at'
   obtain ⟨u2,a2⟩:=hN.cd
   have NQ:=x3.mz
   have Rc:Fz β M2 lf:=x2.mz.fz hN.new
   have Pm:∀a o u,H3 a=some (.bQ o u)->a ∉ β.hid:=fun a o u e z=>by
    obtain ⟨w,e',n⟩:=NQ.hids a z
    rw [e] at e';cases e';cases n
   have Pn:Rz β M2 H3 (.ref lf) (.bU lf o c oc vcs cm):=.bU Rc a1 ⟨NQ.jk a2 rfl,Pm _ _ _ a2⟩ a2 EC.len fun i v d a b=>(EC.at' i v d a b).ex x3
   have Pq:qC b' fs aP vcs :=by
    refine ⟨fun n m a e e'=>B.inj n m a (hO.cells n a e) (hO.cells m a e'),fun n a e=>B.cells n a (hO.cells n a e),fun j n v hj hv=>?_⟩
    obtain ⟨fr,kc,i,hi,hn⟩:=Ra j n hj
    obtain ⟨a,u,e1,e2,e3⟩:=B.cell i n v hn (at' j i v hi hv) kc
    obtain ⟨a',e'⟩:=hO.has n fr
    have:=(hO.cells n a' e').symm.trans e1
    cases this
    exact ⟨a,u,e',e2,e3⟩
   have uA:=x2.trans (x3.trans x4)
   have Rf:=x3.trans x4
   refine ⟨β,_,M4,Q',E',jt.eP,jt.ew,jt.eK,jt.et,x4.mz,?_,h4 b' B.ext Pq,fun d M5 v H5 x5 r5 h5=>q _ _ _ _ (x1.trans (uA.trans x5)) r5 h5,fun C M5 H5 x5 h5=>hE C M5 H5 (pK jt.ent jt.sub jt.eP jt.ew jt.eK jt.et (x1.trans (uA.trans x5))) h5⟩
   have rs:aF β M4 H4 (v1::v2::.ref lf::ws++fo) (d1::d2::.bU lf o c oc vcs cm::es++dd):=.cons (r1.ex uA) (.cons (r2.ex Rf) (.cons (Pn.ex x4) (r4.append (Rb _ _ _))))
   exact rs
  ·exact h2.elim
end
end L2
namespace L2
open PySem PySem.Spec PyProof.Rows
theorem AH {P:cr} {w:gc} {K:ar} {mg mb:ba->Option ag} {CX:fQ} {k:Nat} {fa a:ac} {fd:im} {x:ba} {sp:Sp} {aw:ap} {vs:List ag} {ns:List Int} {tabs lts:List ac}
  (KX:K.In aw.heap) (gh:aw.heap.Ns mainGlobals mg) (hb:aw.heap.Ns builtinsNs mb) (Rg:∀x:ba,x ≠ "__name__" -> mb x=bootBuiltins x) (JS:aw.heap.NoLimit) (hg:aw.gens=#[])
  (ha:aw.heap.get? a=some {cls:=.type "list",data:=.seq vs.toArray}) (hi:Pf vs ns) (hl:ns.length<=sizeLine) (hr:bG k callerA)
  (qD:∀p∈tabs++lts,aw.heap.get? p=some (LP #[])/\isCodeTable aw.heap p) (Pr:∀p∈tabs,p ∉ lts) (AI:TV K=true) (di:∃bm ob,SX aw.heap mainGlobals mg bm ob)
  (F:∀base:db,K.In base->base.Ns mainGlobals mg->(∃bm ob,SX base mainGlobals mg bm ob)->(∀c p,mT aw.heap c p->mT base c p)->FnOk P w K mg base CX k fa fd [x] sp)
  (Mg:∀(s:ap) (u:ag),Uf s fd ⟨[u],[]⟩ [(x,u)])
  (jM:∀H:Hp,(∀p∈tabs,Tb p H)->(∀p∈lts,H p=some (.lam #[]))->bY K H a (ns.map V.int)->sp [.ref a] H (fun v H'=>v=.bl true/\∀p∈lts,∃ps,H' p=some (.lam ps)) fun _ _ _=>False)
  (JT:∀H e s',CX [] H aw (fun _ _ _=>False) e s'->False) :
  codeAny (model P w) callerA (.call (.ref fa) ⟨[.ref a],[]⟩) (fun r s'=>r=.ok (.ret (.bool true))/\OldK aw.heap s'.heap/\s'.os=aw.os/\UD s'.gens) aw :=by
 have rv:=rj hi
 have Pt:=hi.length
 have mC:a ∉ tabs++lts:=fun z=>by
  have e:=(qD a z).1
  rw [ha] at e
  cases e
 have core:∀H:Hp,(∀b u,H b=some u->(b=a/\∃o xs,u=.bQ o (.lst xs))\/(b∈tabs++lts/\(u=.cN #[]/\b∈tabs\/u=.lam #[]/\b∈lts)))->(∀p∈tabs,H p=some (.cN #[]))->(∀p∈lts,H p=some (.lam #[]))->bY K H a (ns.map V.int)->cQ P w H aw.heap->(H a≠none->K.lookup a=none)->
   codeAny (model P w) callerA (.call (.ref fa) ⟨[.ref a],[]⟩) (fun r s'=>r=.ok (.ret (.bool true))/\OldK aw.heap s'.heap/\s'.os=aw.os/\UD s'.gens) aw :=by
  intro H hO Rh Ri hS hok hK
  have nK:∀{b:ac} {o:ii},aw.heap.get? b=some o->H b=none->(i9 aw.heap H).get? b=some o:=fun e n=>BW e n
  have no:∀{b:ac} {o:ii},aw.heap.get? b=some o->(∀n,o.data≠.seq vs.toArray n)->o≠LP #[]->H b=none:=fun {b o} e d1 d2=>by
   cases q:H b with
   |none=>rfl
   |some u=>
    rcases hO b u q with ⟨e',_⟩|⟨gM,_⟩
    ·subst e'
     rw [ha] at e;cases e
     exact absurd rfl (d1 _)
    ·rw [(qD b gM).1] at e
     exact absurd (dL e).symm d2
  have Rj:∀{b:ac} {o:ii} {es:Array PP} {ep:Nat},aw.heap.get? b=some o->o.data=.dict es ep->H b=none:=fun {b o es ep} e d=>no e (fun n z=>by rw [d] at z;cases z) fun z=>by rw [z] at d;cases d
  have AJ:∀{b:ac} {m:ba->Option ag},aw.heap.Ns b m->(i9 aw.heap H).Ns b m:=fun {b m} hS=>by obtain ⟨o,es,ep,e,d,r⟩:=hS;exact ⟨o,es,ep,nK e (Rj e d),d,r⟩
  have NR:K.In (i9 aw.heap H):=fun b o e=>nK (KX b o e) (by
   cases q:H b with
   |none=>rfl
   |some u=>
    rcases hO b u q with ⟨e',_⟩|⟨gM,_⟩
    ·subst e'
     rw [hK (by rw [q];simp)] at e;cases e
    ·have e1:=KX b o e
     have e2:=(qD b gM).1
     rw [e1] at e2
     have e3:o=LP #[]:=dL e2
     have q2:=u8.mp AI (b,o) (PySem.W.kb_mem e)
     simp only [Bool.or_eq_true,decide_eq_true_eq,beq_iff_eq] at q2
     rcases q2 with (q2|q2)|q2
     ·rw [e3] at q2;exact absurd rfl q2
     ·obtain ⟨mc,⟨oc,es,ep,ho,hd,_⟩,_⟩:=JS
      rw [<- q2,e1] at ho
      cases ho
      rw [e3] at hd;cases hd
     ·obtain ⟨oc,es,ep,ho,hd,_⟩:=id gh
      rw [<- q2,e1] at ho
      cases ho
      rw [e3] at hd;cases hd)
  have hM:Mod K mg (i9 aw.heap H):=⟨NR,AJ gh,⟨mb,AJ hb,Rg⟩,let ⟨mc,h1,h2⟩:=JS;⟨mc,AJ h1,h2⟩⟩
  have hB:∃bm ob,SX (i9 aw.heap H) mainGlobals mg bm ob :=by
   obtain ⟨bm,ob,B⟩:=di
   exact ⟨bm,ob,AJ B.ns,B.name,B.ne,nK B.obj (no B.obj (fun n z=>by rw [B.data] at z;cases z) fun z=>by have:=B.data;rw [z] at this;cases this),B.cls,B.dict,B.data⟩
  have hC:∀c p,mT aw.heap c p->mT (i9 aw.heap H) c p:=fun c p ⟨o,uo,file,tf,flags,tg,Rk,text,tt,e1,e2,e3,r⟩=>
   ⟨o,uo,file,tf,flags,tg,Rk,text,tt,nK e1 (no e1 (fun n z=>by rw [e3] at z;cases z) fun z=>by rw [z] at e2;cases e2),e2,e3,r⟩
  have e0:qi P w K mg (i9 aw.heap H) callerA [] aw H:=⟨rfl,hM,fun b o e=>E6 e,Pv (y0 _ _),trivial,fun b hb=>absurd (show b∈([]:List ac) from hb) (by simp),hok,.of_eq hg⟩
  refine Uh ((F _ NR (AJ gh) hB hC).run callerA [] aw H ⟨[.ref a],[]⟩ [.ref a] [.ref a] _ _ hr e0 (Mg aw (.ref a)) (.cons rfl .nil) (jM H (fun p hp=>⟨#[],Rh p hp,trivial⟩) Ri hS)) fun r s' h=>?_
  cases r with
  |error e=>exact (JT H e s' h).elim
  |ok fl=>
   cases fl with
   |next=>exact BY h
   |brk=>exact BY h
   |cont=>exact BY h
   |ret u=>
    obtain ⟨v,H',os,bare,un,C9,r',q⟩:=h
    obtain ⟨q',qL⟩:=q
    subst q'
    obtain rfl:u=UG true:=r'
    have all:∀b o,aw.heap.get? b=some o->asItWas aw.heap s'.heap b o/\∃o',s'.heap.get? b=some o':=fun b o e=>by
     cases q:H b with
     |none=>
      have:=un.keep b o e q (by intro z;exact absurd (show b∈([]:List ac) from z) (by simp)) (by simp)
      exact ⟨.inl this,_,this⟩
     |some u=>
      rcases hO b u q with ⟨_,ob,xs,z⟩|⟨gM,z⟩
      ·subst z
       have z2:=un.frzs b ob _ q
       obtain ⟨e1,_⟩:=hok b _ q
       obtain ⟨e2,_⟩:=C9 b _ z2
       rw [e] at e1;cases e1
       exact ⟨.inl e2,_,e2⟩
      ·have e2:∃more,s'.heap.get? b=some {cls:=.none,data:=.fields (#[]++more)}:=by
        rcases z with ⟨z,_⟩|⟨z,m4⟩
        ·subst z
         obtain ⟨more,z2⟩:=un.tbls b #[] q
         exact ⟨more,C9 b _ z2⟩
        ·obtain ⟨ps,z2⟩:=qL b m4
         refine ⟨ps,?_⟩
         have:=C9 b _ z2
         rw [show (#[]:Array ag)++ps=ps by simp]
         exact this
       obtain ⟨more,e2⟩:=e2
       have e1:=(qD b gM).1
       rw [e] at e1
       obtain rfl:o=LP #[]:=dL e1
       exact ⟨.inr (.inl ⟨(qD b gM).2,rfl,#[],more,rfl,e2⟩),_,e2⟩
    exact ⟨rfl,⟨fun b o e=>(all b o e).1,fun b o e=>(all b o e).2⟩,os,bare.1⟩
 have JU:∀p∈tabs++lts,∀H:Hp,∀u,(u=.cN #[]/\p∈tabs\/u=.lam #[]/\p∈lts)->ObjOk P w H aw.heap p u:=fun p hp H u hu=>by
  rcases hu with ⟨rfl,_⟩|⟨rfl,_⟩ <;> exact (qD p hp).1
 let T:Hp:=fun b=>if b∈lts then some (.lam #[]) else if b∈tabs then some (.cN #[]) else none
 have T1:∀b u,T b=some u->b∈tabs++lts/\(u=.cN #[]/\b∈tabs\/u=.lam #[]/\b∈lts):=fun b u z=>by
  by_cases h1:b∈lts
  ·have z':=(show T b=_ from if_pos h1).symm.trans z
   cases z'
   exact ⟨ge _ h1,.inr ⟨rfl,h1⟩⟩
  ·by_cases h2:b∈tabs
   ·have z':=(show T b=_ from (if_neg h1).trans (if_pos h2)).symm.trans z
    cases z'
    exact ⟨AT _ h2,.inl ⟨rfl,h2⟩⟩
   ·have z':=(show T b=_ from (if_neg h1).trans (if_neg h2)).symm.trans z
    cases z'
 have T2:∀p∈tabs,T p=some (.cN #[]):=fun p hp=>(if_neg (Pr p hp)).trans (if_pos hp)
 have T3:∀p∈lts,T p=some (.lam #[]):=fun p hp=>if_pos hp
 have Ta:T a=none:=(if_neg fun z=>mC (ge _ z)).trans (if_neg fun z=>mC (AT _ z))
 cases hk:K.lookup a with
 |some o=>
  have e:=KX a o hk
  rw [ha] at e
  cases e
  exact core T (fun b u z=>.inr (T1 b u z)) T2 T3 (.inr ⟨_,vs.toArray,_,hk,rfl,rfl,rfl,by rw [jp,Pt];exact hl,by simpa using rv⟩) (fun b u z=>JU b (T1 b u z).1 _ u (T1 b u z).2) fun z=>absurd Ta z
 |none=>
  have na:∀p∈tabs++lts,p≠a:=fun p hp z=>mC (z▸hp)
  refine core (upd T a (.bQ {cls:=.type "list",data:=.seq vs.toArray} (.lst (ns.map V.int)))) (fun b u z=>?_) (fun p hp=>by rw [af (na p (AT _ hp))];exact T2 p hp) (fun p hp=>by rw [af (na p (ge _ hp))];exact T3 p hp) (.inl (.inr ⟨_,ax⟩)) (fun b u z=>?_) fun _=>hk
  ·by_cases hb:b=a
   ·subst hb
    rw [ax] at z
    cases z
    exact .inl ⟨rfl,_,_,rfl⟩
   ·rw [af hb] at z
    exact .inr (T1 b u z)
  ·by_cases hb:b=a
   ·subst hb
    rw [ax] at z
    cases z
    exact ⟨ha,by rw [cb];exact hl,vs,_,rv,ha⟩
   ·rw [af hb] at z
    exact JU b (T1 b u z).1 _ u (T1 b u z).2
def sX (K:ar) (x:ba):Option ac:=match i1 K mainGlobals x with
 |some (some (.ref f))=>(match K.lookup f with
  |some ⟨_,_,.func fd,_⟩=>(match fd.code with
   | .ref c=>(match K.lookup c with
    |some ⟨_,_,.fields vs,_⟩=>(match vs[11]? with|some (l5 p)=>some p|_=>none)
    |_=>none)
   |_=>none)
  |_=>none)
 |_=>none
abbrev TabOf (mg:ba->Option ag) (h:db) (y:ba) (p:ac):Prop:=∃f o fd c,mg y=some (.ref f)/\h.get? f=some o/\o.data=.func fd/\fd.code=.ref c/\mT h c p
theorem uQ {K:ar} {mg:ba->Option ag} {h:db} {y:ba} {p q:ac} (X:K.In h) (G:h.Ns mainGlobals mg) (t:TabOf mg h y p) (e:sX K y=some q):p=q :=by
 obtain ⟨f,o,fd,c,e1,e2,e3,e4,oc,vs,_,_,_,_,_,_,_,g1,_,g3,g4,_⟩:=t
 unfold sX at e
 split at e
 ·rename_i f' gh
  have:=(Cc X G gh).symm.trans e1
  cases this
  split at e
  ·rename_i JP SG Ed MU oi
   have:=(X _ _ oi).symm.trans e2
   cases this
   cases e3
   rw [e4] at e
   dsimp only at e
   split at e
   ·rename_i a1 a2 uo a3 Rl
    have:=(X _ _ Rl).symm.trans g1
    cases this
    cases g3
    rw [g4] at e
    cases e
    rfl
   ·cases e
  ·cases e
 ·cases e
def qE (K:ar) (gs ls:List ba):Bool:=gs.all fun x=>ls.all fun y=>match sX K x,sX K y with|some p,some q=>decide (p≠q)|_,_=>false
theorem w9 {α β:Type} {F:α->β->Prop} {l:List α} {m:List β} (h:BN F l m) {b:β} (hb:b∈m):∃a∈l,F a b :=by
 induction h with
 |nil=>simp at hb
 |cons x t ih=>
  rcases lp.mp hb with e|e
  ·subst e;exact ⟨_,i0,x⟩
  ·obtain ⟨a,ha,q⟩:=ih e
   exact ⟨a,hX _ ha,q⟩
theorem Dc {K:ar} {mg:ba->Option ag} {h:db} {gs ls:List ba} {tabs lts:List ac} (X:K.In h) (G:h.Ns mainGlobals mg) (d:qE K gs ls=true) (t1:BN (TabOf mg h) gs tabs) (t2:BN (TabOf mg h) ls lts):∀p∈tabs,p ∉ lts:=fun p hp hq=>by
 obtain ⟨x,hx,tx⟩:=w9 t1 hp
 obtain ⟨y,hy,ty⟩:=w9 t2 hq
 have:=u8.mp (u8.mp d x hx) y hy
 split at this
 ·rename_i p' q' e1 e2
  have a:=uQ X G tx e1
  have b:=uQ X G ty e2
  exact (of_decide_eq_true this) (a.symm.trans b)
 ·cases this
theorem Dd {l:Uy} {n k:Nat} {q:cr} {loose:List ba} {XP:(ba->Option ag)->db->Prop} {YP:gc->db->Prop} {d:DefRec} {K:UK->ar} {CX:fQ} {sp:ar->List ac->List ac->Sp} {x:ba} {lZ AK:List ba}
  (hn:l.most=some n) (Rm:n<=sizeLine) (zA:d.params.defaults=[]) (hr:bG k callerA) (AI:∀w:gc,TV (K w.params)=true)
  (ED:∀y∈lZ++AK,∃r∈recsOf q,r.name=y) (n6:∀w:gc,qE (K w.params) lZ AK=true)
  (hY:∀(w:gc) (h:db),YP w h->(K w.params).In h)
  (F:∀(w:gc) (mg:ba->Option ag) (fa:ac) (h:db) (tabs lts:List ac),(K w.params).In h->h.Ns mainGlobals mg->mg d.name=some (.ref fa)->
   BN (TabOf mg h) lZ tabs->BN (TabOf mg h) AK lts->
   ∃fd:im,(∀(s:ap) (u:ag),Uf s fd ⟨[u],[]⟩ [(x,u)]) /\
    ∀base:db,(K w.params).In base->base.Ns mainGlobals mg->(∃bm ob,SX base mainGlobals mg bm ob)->(∀c p,mT h c p->mT base c p)->FnOk l.prog w (K w.params) mg base CX k fa fd [x] (sp (K w.params) tabs lts))
  (jM:∀(K:ar) (tabs lts:List ac) (H:Hp) (a:ac) (ns:List Int),lts.length=AK.length->ns.length<=n->(∀p∈tabs,Tb p H)->(∀p∈lts,H p=some (.lam #[]))->bY K H a (ns.map V.int)->sp K tabs lts [.ref a] H (fun v H'=>v=.bl true/\∀p∈lts,∃ps,H' p=some (.lam ps)) fun _ _ _=>False)
  (JT:∀(H:Hp) (s:ap) (e:ag) (s':ap),CX [] H s (fun _ _ _=>False) e s'->False) :
  PySem.W.WalkO q loose XP YP l.row.toRowW d [] (fun f vs=>UF f vs) :=by
 refine Nb.vC hn zA fun w s₀ aw mg mb fa o pm cd doc a vs ns G Y ho hd dH zB Cp hints hlen hg=>?_
 have KX:=hY w _ Y
 have tb:∀lZ:List ba,(∀y∈lZ,∃r∈recsOf q,r.name=y)->∃tabs,BN (TabOf mg aw.heap) lZ tabs/\∀p∈tabs,aw.heap.get? p=some (LP #[])/\isCodeTable aw.heap p :=by
  intro lZ
  induction lZ with
  |nil=>intro _;exact ⟨[],.nil,fun p hp=>absurd hp (by simp)⟩
  |cons y r ih=>
   intro hm
   obtain ⟨tabs,h1,h2⟩:=ih fun z hz=>hm z (hX _ hz)
   obtain ⟨rr,Rn,e⟩:=hm y i0
   obtain ⟨f,o',fd,c,p,a1,a2,a3,a4,a5,a6⟩:=G.T.tab rr Rn
   rw [e] at a1
   refine ⟨p::tabs,.cons ⟨f,o',fd,c,a1,a2,a3,a4,.of a5 a6⟩ h1,fun z hz=>?_⟩
   rcases lp.mp hz with rfl|hz
   ·exact ⟨a6.2,a6.isCodeTable⟩
   ·exact h2 z hz
 obtain ⟨tabs,t1,t2⟩:=tb lZ fun y hy=>ED y (AT _ hy)
 obtain ⟨lts,u1,u2⟩:=tb AK fun y hy=>ED y (ge _ hy)
 obtain ⟨fd,hb,hF⟩:=F w mg fa _ tabs lts KX G.T.g zB t1 u1
 exact AH (lts:=lts) KX G.T.g G.T.b G.T.builtins G.T.nolimit hg Cp hints (sK hlen Rm) hr (fun p hp=>(tz.mp hp).elim (t2 p) (u2 p)) (Dc KX G.T.g (n6 w) t1 u1) (AI w) (PySem.W.bmod_of_top G.T) hF hb (fun H hO hL hS=>jM _ tabs lts H a ns (RI u1).symm hlen hO hL hS) fun H e s'=>JT H aw e s'
abbrev m5 (K:ar) (x:ba) (st:mv) (dv:ag):Prop:=
 ∃(f:ac) (oc:ag) (od:Option ac) (sl:Array (Option ag)) (T:ac) (oT:ii) (nT:Nat) (kV dc pm:ag) (an:Option ac) (cd ct:ag),
  i1 K mainGlobals x=some (some (.ref f))/\K.lookup f=some ⟨oc,od,.func (wT x x (cR st) (bN st) (ak st) (.ref T) kV dc pm an cd ct),sl⟩/\CS K cd x=true/\AC K (.ref f)=true/\K.lookup T=some oT/\oT.data=.seq #[dv] nT
theorem AO {K:ar} {x:ba} {st:mv} {dv:ag} {f:ac} {oc:ag} {od:Option ac} {sl:Array (Option ag)} {T:ac} {oT:ii} {nT:Nat} {kV dc pm:ag} {an:Option ac} {cd ct:ag} (a:i1 K mainGlobals x=some (some (.ref f)))
  (l:K.lookup f=some ⟨oc,od,.func (wT x x (cR st) (bN st) (ak st) (.ref T) kV dc pm an cd ct),sl⟩) (c:CS K cd x=true) (k:AC K (.ref f)=true) (t:K.lookup T=some oT) (u:oT.data=.seq #[dv] nT):m5 K x st dv:=⟨f,oc,od,sl,T,oT,nT,kV,dc,pm,an,cd,ct,a,l,c,k,t,u⟩
theorem m5.df {K:ar} {mg:ba->Option ag} {h:db} {x:ba} {st:mv} {dv:ag} (d:m5 K x st dv) (X:K.In h) (G:h.Ns mainGlobals mg) (ps:List ba)
  (hb:∀(T:ac) (kV doc pm:ag) (an:Option ac) (cK ct:ag) (us:List ag),us.length+1=ps.length->∃k,bindArgs (wT x x (cR st) (bN st) (ak st) (.ref T) kV doc pm an cK ct) ⟨us,[]⟩=seqItems? (.ref T)>>=k/\k (some #[dv])=pure (ps.zip (us++[dv])))
  (Ro:∀(T:ac) (kV doc pm:ag) (an:Option ac) (cK ct:ag) (us:List ag),us.length=ps.length->∃k,bindArgs (wT x x (cR st) (bN st) (ak st) (.ref T) kV doc pm an cK ct) ⟨us,[]⟩=seqItems? (.ref T)>>=k/\k (some #[dv])=pure (ps.zip us)) :
  ∃f fd,EA K mg x st ps [dv] f fd :=by
 obtain ⟨f,oc,od,sl,T,oT,nT,kV,dc,pm,an,cd,ct,a,l,c,k,t,u⟩:=d
 refine ⟨f,_,⟨oc,od,.ref T,kV,dc,pm,an,cd,ct,sl,rfl,l,c⟩,k,fun s us hK hl=>?_,fun s us hK hl=>?_,Cc X G a⟩
 ·obtain ⟨kk,h1,h2⟩:=hb T kV dc pm an cd ct us (by rw [tw] at hl;exact hl)
  exact PySem.W.binds_K hK rfl t u h1 h2
 ·rw [Co] at hl ⊢
  obtain ⟨kk,h1,h2⟩:=Ro T kV dc pm an cd ct us hl
  exact PySem.W.binds_K hK rfl t u h1 h2
theorem De {K:ar} {tabs lts:List ac} {qs:List ba} {H:Hp} {a:ac} {ns:List Int} (hl:lts.length=qs.length) (hn:ns.length<=63) (hT:∀p∈tabs,Tb p H) (hL:∀p∈lts,H p=some (.lam #[])) (hS:bY K H a (ns.map V.int)) :
  spLaw K ⟨tabs,lts.zip qs⟩ [.ref a] H (fun v H'=>v=.bl true/\∀p∈lts,∃ps,H' p=some (.lam ps)) fun _ _ _=>False:=
 ⟨a,ns,rfl,hS,hn,hT,fun p hp=>⟨#[],hL p.1 (NL hp).1,trivial,fun pos cv e=>nomatch e⟩,fun H' h=>⟨rfl,fun p hp=>by
  obtain ⟨i,hi⟩:=mo.mp hp
  have h1:=(bv.mp hi).1
  exact h (p,qs[i]) (c8 (i:=i) (zd.mpr ⟨hi,bi (by omega)⟩))⟩⟩
theorem AQ {K:ar} {x:ba} {st:mv} {i:Int} {tk:Tz} {f:ac} {oc:ag} {od:Option ac} {sl:Array (Option ag)} {T:ac} {oT:ii} {nT:Nat} {kV dc pm:ag} {an:Option ac} {cd ct:ag} (a:i1 K mainGlobals x=some (some (.ref f)))
  (l:K.lookup f=some ⟨oc,od,.func (wT x x (cR st) (bN st) (ak st) (.ref T) kV dc pm an cd ct),sl⟩) (c:CS K cd x=true) (k:AC K (.ref f)=true) (t:K.lookup T=some oT) (u:oT.data=.seq #[.int i tk] nT):∃tk,m5 K x st (.int i tk):=⟨tk,AO a l c k t u⟩
structure fw (h:db) (d:ac) (es:Array PP) (ep:Nat):Prop where
 ex:∃o,h.get? d=some o/\o.cls=.type "dict" /\ o.data=.dict es ep
abbrev pQ (d:ac) (i n ep:Nat):ii:={cls:=.type "dict_keyiterator",dict:=none,data:=.fields #[.ref d,.int i 0,.int n 0,.int ep 0],slots:=#[]}
theorem AR (d:ac):¬ ((l5 d==AS)=true):=fun z=>nomatch (show false=true from z)
section
variable {prog:cr} {w:gc} {A:l9} {E:ag->ap->Prop} {s:ap} {d it:ac} {es:Array PP} {ep i:Nat}
theorem rV {Q:ag->ap->Prop} (lo:(d==sysModules)=false) (r:fw s.heap d es ep) (q:Q (.ref s.heap.objs.size) {s with heap:=s.heap.push (pQ d 0 es.size ep)}) :
  wpAny (model prog w) A (pyIter (.ref d)) Q E s :=by
 obtain ⟨o,g,c,dt⟩:=r
 have ty:s.TypeIs (.ref d) "dict" := ⟨o,g,c⟩
 refine T8 ty PySem.F.slot_dict_iter (v6 PySem.F.slot_dict_iter ty PySem.F.entry_dict_iter ?_ (PySem.F.args_dict_iter_1 _))
 unfold wr.«dict.__iter__» wr.Dict.dictSlotNone
 refine al (al (wpAny_notOrdered_dict ty ?_))
 refine (show wpAny _ _ (pure (l5 d)) _ _ s from ca ?_)
 refine (show wpAny _ _ (wr.Dict.showsAll d>>=_) _ _ s from ?_)
 unfold wr.Dict.showsAll;rw [if_neg (by rw [lo];decide)]
 refine al (ca (al (T9 g dt (al (Uz g dt ?_)))))
 refine al (ul (ca ⟨_,rfl,"dict_keyiterator",_,⟨_,ff _ rfl,rfl⟩,zw.lookup,?_⟩))
 simpa [rawInt,pQ] using q
theorem rW {Q:Option ag->ap->Prop} (gi:s.heap.get? it=some (pQ d i es.size ep)) (r:fw s.heap d es ep) (hi:i<es.size)
  (q:∀h',h'.get? it=some (pQ d (i+1) es.size ep)->xw it s.heap h'->Q (some es[i].key) {s with heap:=h'}):wpAny (model prog w) A (pyNext (.ref it)) Q E s :=by
 obtain ⟨o,g,c,dt⟩:=r
 have ty:s.TypeIs (.ref it) "dict_keyiterator" := ⟨_,gi,rfl⟩
 unfold pyNext
 refine al (KF (u4 (name:=nw "__next__") ty zw (v6 zw ty PySem.F.entry_dict_keyiterator_next ?_ (PySem.F.args_dict_keyiterator_next_1 _))))
 refine al (ca (al (al ?_)))
 refine al (Fa ty (ca (al (Po gi rfl ?_))))
 simp only [show wr.Dict_items.ownsTuple "dict_keyiterator" = false by decide,i4,if_false]
 refine (show wpAny _ _ (if (l5 d==AS)=true then _ else _) _ _ s from ?_)
 rw [if_neg (AR d)]
 refine al (ca (al (T9 g dt ?_)))
 rw [if_neg (by simp)]
 refine al (ca (al (Uz g dt ?_)))
 rw [if_neg (by simp)]
 refine ca ?_
 simp only [show ¬ ((i:Int)<0) by omega,if_false,ut,ze hi]
 refine al (al (Fa ty (ca (al (wpAny_isOneOf_keyiter ty ?_)))))
 refine (show wpAny _ _ (setField (.ref it) 1 (rawInt ((i:Int)+1))>>=_) _ _ s from al (Do gi (by simp) fun h1 e1 b1=>?_))
 have e1:h1.get? it=some (pQ d (i+1) es.size ep) :=by
  rw [e1];simp [pQ,rawInt]
 refine al (KB (al (wpAny_isOneOf_keyiter (s:={s with heap:=h1}) ⟨_,e1,rfl⟩ ?_)))
 exact (show wpAny _ _ (pure es[i].key) _ _ _ from ca (ca ⟨_,rfl,ca (q _ e1 b1)⟩))
theorem uR {Q:Option ag->ap->Prop} (hh:A.handled=none) (gi:s.heap.get? it=some (pQ d i es.size ep)) (r:fw s.heap d es ep) (hi:es.size<=i)
  (q:∀h',TM it s.heap h'->Q none {s with heap:=h'}):wpAny (model prog w) A (pyNext (.ref it)) Q E s :=by
 obtain ⟨o,g,c,dt⟩:=r
 have ty:s.TypeIs (.ref it) "dict_keyiterator" := ⟨_,gi,rfl⟩
 unfold pyNext
 refine al (KF (u4 (name:=nw "__next__") ty zw (v6 zw ty PySem.F.entry_dict_keyiterator_next ?_ (PySem.F.args_dict_keyiterator_next_1 _))))
 refine al (ca (al (al ?_)))
 refine al (Fa ty (ca (al (Po gi rfl ?_))))
 simp only [show wr.Dict_items.ownsTuple "dict_keyiterator" = false by decide,i4,if_false]
 refine (show wpAny _ _ (if (l5 d==AS)=true then _ else _) _ _ s from ?_)
 rw [if_neg (AR d)]
 refine al (ca (al (T9 g dt ?_)))
 rw [if_neg (by simp)]
 refine al (ca (al (Uz g dt ?_)))
 rw [if_neg (by simp)]
 refine ca ?_
 simp only [show ¬ ((i:Int)<0) by omega,if_false,ut,S3 hi]
 refine al (al (Fa ty (ca ?_)))
 refine (show wpAny _ _ (setField (.ref it) 0 .none>>=_) _ _ s from al (Do gi (by simp) fun h1 e1 b1=>?_))
 refine (show wpAny _ _ (newExc (.type "StopIteration") []>>=_) _ _ _ from al ?_)
 simp only [newExc,newTuple]
 refine al (ul (al (m:=firstArgMember _ _) (UB (a:=AS) (by first|rfl|(simp only [firstArgMember];rfl)) (ul ?_ (by size_fits)))) (by size_fits))
 simp only [raiseNew]
 refine al (wpAny_handled ?_)
 rw [show A.in1.handled=none from hh]
 refine al (ca (wpAny_throw ?_))
 refine al (S9 (T := "StopIteration") (b:=true) ⟨_,ff _ rfl,rfl⟩ isSubtype_stop (ca (q _ ?_)))
 exact (b1.extBut.push _).push _
end
def EE (es:Array PP) (ps:List (V×V)):Prop:=es.size=ps.length/\∀(i:Nat) (p:V×V),ps[i]?=some p->∃hi:i<es.size,RelV p.1 es[i].key/\RelV p.2 es[i].val
inductive qF (H:Hp):HO->List (V×V)->Prop where
 |k (aj:List (Key×V)):qF H (.dK aj) (aj.map fun kv=>(kV kv.1,kv.2))
 |t (aj:List (List Key×V)) (bs:List ac) (hl:bs.length=aj.length) (h:∀(i:Nat) (b:ac) (kv:List Key×V),bs[i]?=some b->aj[i]?=some kv->H b=some (.tup (kv.1.map kV))):qF H (.dT aj) ((bs.map V.ref).zip (aj.map (·.2)))
theorem Dg {P:cr} {w:gc} {k:Key} {u:ag} (h:(bq P w).is k u=true):RelV (kV k) u :=by
 rcases cn (k:=k) (v:=u) h with ⟨i,t,rfl,rfl⟩|⟨x,t,rfl,rfl⟩
 ·exact ⟨t,rfl⟩
 ·exact ⟨t,rfl⟩
theorem jV {α β:Type} {F:α->β->Prop}:∀{l:List α} {m:List β} {i:Nat} {a:α},BN F l m->l[i]?=some a->∃b,m[i]?=some b/\F a b
 |_,_,_,_,.nil,h=>by simp at h
 |_,_,0,_,.cons x _,h=>by simp at h;subst h;exact ⟨_,rfl,x⟩
 |_,_,i+1,_,.cons _ t,h=>by obtain ⟨b,e,q⟩:=jV (i:=i) t (by simpa using h);exact ⟨b,by simpa using e,q⟩
section
variable {P:cr} {w:gc} {H:Hp} {h:db} {a:ac} {u:HO}
structure Rows (H:Hp) (h:db) (a:ac) (u:HO) (o:ii) (es:Array PP) (ep:Nat) (ps:List (V×V)):Prop where
 obj:h.get? a=some o
 cls:o.cls=.type "dict"
 dict:o.dict=none
 data:o.data=.dict es ep
 lo:(a==sysModules)=false
 rel:EE es ps
 ps:qF H u ps
theorem xa (ok:cQ P w H h) (e:Rd H a u) (hu:gS u=true):∃o es ep ps,Rows H h a u o es ep ps :=by
 have q:=e.ok ok
 cases u with
 |dK aj=>
  obtain ⟨z,lo,vs,rel,o,es,ep,g,x,dt,hk,hp,hn⟩:=q
  refine ⟨o,es,ep,_,g,x.1,x.2.1,dt,lo,⟨?_,fun i p hi=>?_⟩,.k aj⟩
  ·have h1:=hp.length
   have h2:=rel.length
   simp only [cb,ww] at h1 ⊢
   omega
  ·rw [br,io] at hi
   obtain ⟨kv,m6,rfl⟩:=hi
   obtain ⟨⟨k',v'⟩,hv,e1,e2⟩:=jV rel m6
   have hl:i<es.size :=by
    have h1:=hp.length
    have h2:=(bv.mp hv).1
    simp only [ww] at h1
    omega
   obtain ⟨a1,a2⟩:=hp.get? (e:=es[i]) (by simp [hl]) hv
   refine ⟨hl,?_,?_⟩
   ·rw [e1];exact Dg a1
   ·rw [a2];exact e2
 |dT aj=>
  obtain ⟨z,lo,xs,rel,o,es,ep,g,x,dt,he,hn⟩:=q
  have Rp:aj.length=xs.length:=RI rel
  have Rq:es.size=xs.length :=by
   have:=congrArg List.length he
   simpa using this
  refine ⟨o,es,ep,_,g,x.1,x.2.1,dt,lo,⟨?_,fun i p hi=>?_⟩,.t aj (xs.map (·.2.1)) (by rw [cb];exact Rp.symm) fun i b kv hb m6=>?_⟩
  ·simp only [Op,cb];omega
  ·rw [zd,xz,br,br,io,io] at hi
   obtain ⟨⟨x1,AU,e1⟩,⟨kv,m6,e2⟩⟩:=hi
   obtain ⟨x2,AV,_,_,r⟩:=jV rel m6
   rw [AU] at AV
   cases AV
   have hl:i<es.size :=by rw [Rq];exact (bv.mp AU).1
   have NS:es[i]=entryOfKey (tupleKind (bq P w)) x1 :=by
    have:es.toList[i]?=some (entryOfKey (tupleKind (bq P w)) x1) :=by rw [he,br,AU];rfl
    rw [Db,ze hl] at this
    exact dL this
   refine ⟨hl,?_,?_⟩
   ·rw [NS,<- e1];rfl
   ·rw [NS,<- e2];exact r
  ·rw [br,io] at hb
   obtain ⟨x1,AU,rfl⟩:=hb
   obtain ⟨x2,AV,e1,e2,_⟩:=jV rel m6
   rw [AU] at AV
   cases AV
   exact e2
 |_=>cases hu
end
inductive gU (a:ac) (o:ii) (u:HO) (H:Hp):Hp->Prop where
 |now (e:H a=some u) (hu:gS u=true):gU a o u H (upd H a (.bQ o u))
 |was (e:H a=some (.bQ o u)):gU a o u H H
theorem gU.at {a:ac} {o:ii} {u:HO} {H H2:Hp} (f:gU a o u H H2):H2 a=some (.bQ o u) :=by
 cases f with
 |now e hu=>exact ax
 |was e=>exact e
section
variable {X:Cx} {pins:List (ac×ii)} {σ:St} {H:Hp} {s:ap} {a:ac} {o:ii} {u:HO}
theorem Inv.bQ (I:Inv X pins σ H s) (e:H a=some u) (hu:gS u=true) (ho:s.heap.get? a=some o):Inv X pins σ (upd H a (.bQ o u)) s :=by
 have nT:∀b v,H b=some v->gS v=false->b≠a:=fun b v q n z=>by rw [z,e] at q;cases q;rw [hu] at n;cases n
 have n0:∀b,H b=none->b≠a:=fun b q z=>by rw [z,e] at q;cases q
 have J:=I.un (t':=s.toks) (h':=s.heap) (H':=upd H a (.bQ o u)) ⟨fun b v q n _ _=>q,fun b v q n _ _=>⟨v.slots,q⟩,fun b v q n _=>by rw [af (n0 b n)];exact n,fun b v q _=>⟨v,q⟩,fun b xs q=>by rw [af (nT b _ q rfl)];exact q,
  fun b v xs q=>by rw [af (nT b _ q rfl)];exact q,fun b qs q=>⟨#[],by rw [af (nT b _ q rfl),q];simp⟩⟩ fun b v q=>?_
 ·exact J
 ·by_cases hb:b=a
  ·subst hb
   rw [ax] at q;cases q
   exact ⟨ho,(I.hok b u e).cV (fun _ _ _ z=>z) (fun c z=>by rw [af (nT c _ z rfl)];exact z) fun c xs z=>by rw [af (nT c _ z rfl)];exact z⟩
  ·rw [af hb] at q
   exact (I.hok b v q).cV (fun _ _ _ z=>z) (fun c z=>by rw [af (nT c _ z rfl)];exact z) fun c xs z=>by rw [af (nT c _ z rfl)];exact z
theorem Inv.F8 (I:Inv X pins σ H s) (d:Rd H a u) (hu:gS u=true):∃o H2 es ep ps,gU a o u H H2/\Inv X pins σ H2 s/\Rows H s.heap a u o es ep ps :=by
 obtain ⟨o,es,ep,ps,R⟩:=xa I.hok d hu
 rcases d with d|⟨o',d⟩
 ·exact ⟨o,_,es,ep,ps,.now d hu,I.bQ d hu R.obj,R⟩
 ·have e:=(I.hok a _ d).1
  rw [R.obj] at e
  cases e
  exact ⟨o,H,es,ep,ps,.was d,I,R⟩
end
def JV (a:ac) (o:ii) (u:HO) (ks:List V):It:=⟨fun i H=>H a=some (.bQ o u)/\i<ks.length,fun i H x H'=>H'=H/\ks[i]?=some x,fun i H=>H a=some (.bQ o u)/\ks.length<=i⟩
section
variable {P:cr} {w:gc} {K:ar} {a it:ac} {o:ii} {u:HO} {es:Array PP} {ep:Nat} {ps:List (V×V)}
theorem AW {tg:ci} (pN:o.cls=.type "dict") (NT:o.data=.dict es ep) (rel:EE es ps) (gq:a≠it):Turn P w K tg (JV a o u (ps.map (·.1))) [it] it (fun i h=>h.get? it=some (pQ a i es.size ep)) where
 mem :=by simp
 obj:=fun i h st b hb=>by
  have e:b=it :=by simpa using hb
  subst e
  exact ⟨_,st,fun v z=>nomatch z⟩
 keep:=fun i h h' st k=>k it (by simp) _ st
 item :=by
  intro X hP hw hK hc i pins s σ H E I hf st hg
  subst hP hw hK
  obtain ⟨ha,hi⟩:=hg
  rw [cb] at hi
  have hr:fw s.heap a es ep:=⟨o,(I.hok a _ ha).1,pN,NT⟩
  obtain ⟨p,hp⟩:∃p,ps[i]?=some p:=⟨_,bi hi⟩
  obtain ⟨uS,r1,_⟩:=rel.2 i p hp
  obtain ⟨f0,f1,f2,f3,f4,f5⟩:=hf it (by simp)
  refine rW st hr uS fun h' jK sb=>?_
  have I1:Inv X pins σ H {s with heap:=h'}:=I.turned (t':=s.toks) (fun b o hb e=>(sb.2 b hb).trans e) f0 f1 f3 f4 f5
  exact ⟨_,rfl,o4 (s:={s with heap:=h'}) jK rfl rfl (by decide) ⟨p.1,H,I1,r1,⟨rfl,by rw [br,hp];rfl⟩,jK,fun b hb=>(hf b hb).1⟩⟩
 done :=by
  intro X hP hw hK hc i pins s σ H E I hf st hg
  subst hP hw hK
  obtain ⟨ha,hi⟩:=hg
  rw [cb] at hi
  have hr:fw s.heap a es ep:=⟨o,(I.hok a _ ha).1,pN,NT⟩
  obtain ⟨f0,f1,f2,f3,f4,f5⟩:=hf it (by simp)
  exact uR (I.ok.hd hc) st hr (by rw [rel.1];exact hi) fun h' eb=>⟨rfl,I.turned (t':=s.toks) (fun b o hb e=>eb b o hb e) f0 f1 f3 f4 f5⟩
 self:=fun _ i _ _ _ st h=>wpAny_pyIter_keyiter (d:=a) (i:=i) (n:=es.size) (ep:=ep) ⟨_,st,rfl,rfl⟩ h
end
end L2
namespace L2
open PySem PySem.Spec PySem.W PyProof.Rows
section
variable {X:Cx} {Γ:Gz} {K:ar}
theorem aF.rep {β:Bz} {M:Mh} {H:Hp} {vs:List V} {ds:List Dv} (r:aF β M H vs ds):∀k:Nat,aF β M H (qr k vs).flatten (qr k ds).flatten
 |0=>⟨rfl,fun i v d h=>by simp at h⟩
 |k+1=>by rw [wE,wE,EQ,EQ];exact r.append (aF.rep r k)
open Classical in
end
end L2
namespace L2
open PySem PySem.Spec PyProof.Rows
section
variable {X:Cx} {tg l:ci} {tl:TE}
def Mi (tl:TE):TI:=fun σ H R=>tl σ H fun x H1=>∃a u,x=.ref a/\gS u=true/\Rd H1 a u/\∀o H2 ps,gU a o u H1 H2->qF H1 u ps->R (JV a o u (ps.map (·.1))) H2
theorem F9 (hl:PE X l tl):PI X tg l (Mi tl) :=by
 intro pins s σ H R I h
 refine thn (hl pins s σ H _ I h) fun v s1 ⟨x,H1,I1,r1,q1⟩=>?_
 obtain ⟨a,u,e,hu,hr,q⟩:=q1
 subst e
 cases r1
 obtain ⟨o,H2,es,ep,ps,f,I2,rw⟩:=I1.F8 hr hu
 have gq:a≠s1.heap.objs.size:=i8 (f8 rw.obj)
 refine rV rw.lo ⟨o,rw.obj,rw.cls,rw.data⟩ ?_
 refine ⟨s1.heap.objs.size,[s1.heap.objs.size],_,_,H2,rfl,I2.kept (t':=s1.toks) fun b o e=>bn _ e,AW rw.cls rw.data rw.rel gq,ff _ rfl,fun b hb=>?_,q o H2 ps f rw.ps⟩
 have e:b=s1.heap.objs.size :=by simpa using hb
 subst e
 exact I2.kQ (ce _) (I2.hok.fresh (ce _))
end
theorem Ex.bQ {β:Bz} {M:Mh} {H H2:Hp} {a:ac} {o:ii} {u:HO} (m:Mz β M H) (f:gU a o u H H2) (fz:Fz β M a):Ex β M H M H2 :=by
 cases f with
 |was e=>exact .refl m
 |now e hu=>
  have y:Ey M H M (upd H a (.bQ o u)):=⟨fun b v hm hb=>by
   by_cases z:b=a
   ·subst z
    rw [e] at hb
    cases hb
    exact .inr ⟨_,.inr (.inr ⟨hu,_,rfl⟩),ax⟩
   ·exact .inl (by rw [af z];exact hb),fun _ h=>h,fun _ _ h _=>h⟩
  have nd:∀b v,H b=some v->gS v=false->b≠a:=fun b v q n z=>by rw [z,e] at q;cases q;rw [hu] at n;cases n
  refine ⟨y,⟨fun b v hb=>?_,fun p hp=>?_,fun b hb=>?_,m.apart,fun p hp=>?_⟩⟩
  ·have xc:b≠a:=fun z=>by rw [z,fz.1] at hb;cases hb
   have q:=m.obj b v hb
   cases v with
   |c6=>
    obtain ⟨c,k,e2,r⟩:=q
    exact ⟨c,k,by rw [af xc];exact e2,r⟩
   |lst ds=>
    obtain ⟨us,e2,ru⟩:=q
    exact ⟨us,by rw [af xc];exact e2,ru.len,fun i w d p q=>(ru.at' i w d p q).ey y⟩
   |dk ks ds=>
    obtain ⟨us,e2,hk,ru⟩:=q
    exact ⟨us,by rw [af xc];exact e2,hk,ru.len,fun i w d p q=>(ru.at' i w d p q).ey y⟩
   |dt ks ds=>
    obtain ⟨us,e2,hk,ru⟩:=q
    exact ⟨us,by rw [af xc];exact e2,hk,ru.len,fun i w d p q=>(ru.at' i w d p q).ey y⟩
  ·obtain ⟨ps,e2,t⟩:=m.tabs p hp
   exact ⟨ps,by rw [af (nd _ _ e2 rfl)];exact e2,t⟩
  ·obtain ⟨v,e2,n⟩:=m.hids b hb
   have xc:b≠a:=fun z=>fz.2 (by rw [<- z];exact hb)
   exact ⟨v,by rw [af xc];exact e2,n⟩
  ·exact (m.lams p hp).keep (fun ps e2=>by rw [af (nd _ _ e2 rfl)];exact e2) fun c oc v e2=>by rw [af (nd _ _ e2 rfl)];exact e2
def lu:Key->Dv
 | .inl i=>.int i
 | .inr z=>.str z
def ziKeys (p:aH):ft:=fun ρ M R=>p ρ M fun d M1=>match d with | .dk ks _=>R (ks.map lu) M1 | .dt ks _=>R (ks.map fun k=>.tup (k.map lu)) M1|_=>False
section
variable {X:Cx} {Γ:Gz} {β:Bz} {M:Mh} {H:Hp} {tg l:ci} {p:aH}
theorem JW (k:Key):Rz β M H (kV k) (lu k) :=by
 cases k with
 |inl i=>exact .int i
 |inr z=>exact .str z
theorem lz (ks:List Key):aF β M H (ks.map kV) (ks.map lu):=⟨by simp,fun i v d a b=>by
 rw [br] at a b
 cases e:ks[i]? with
 |none=>rw [e] at a;cases a
 |some k=>rw [e] at a b;cases a;cases b;exact JW k⟩
theorem rX {a:ac} {o:ii} {u:HO} {vs:List V} (h:H a=some (.bQ o u)):Runs (JV a o u vs) vs H:=fun i=>⟨fun hi=>⟨⟨h,hi⟩,fun v H' q=>q⟩,fun hi=>⟨h,hi⟩⟩
theorem gV {α γ:Type}:∀{ks:List α} {vs:List γ},ks.length=vs.length->(ks.zip vs).map (·.1)=ks
 | [],[],_=>rfl
 |k::ks,v::vs,h=>by rw [On,wb,gV (by simpa using h)]
theorem Ga (hl:QE Γ X l p):QI Γ X tg l (ziKeys p):=(F9 hl).imp fun σ H R ⟨β,ρ,M,R',zr,h,q⟩=>⟨β,ρ,M,_,zr,h,fun d M1 v H1 x1 r1 h1=>by
 revert h1
 split
 ·intro h1
  rename_i ks ds
  cases r1 with
  | @dk a _ vs _ f e hk hl hh=>
   refine ⟨a,.dK (ks.zip vs),rfl,rfl,e,fun o H2 ps g pR=>?_⟩
   have x2:=Ex.bQ x1.mz g f
   cases pR
   refine q _ _ _ _ (x1.trans x2) (gT (vs:=ks.map kV) (lz ks) fun M' H' x=>?_) h1
   have e2:((ks.zip vs).map fun kv=>(kV kv.1,kv.2)).map (·.1)=ks.map kV :=by
    rw [xz]
    show (ks.zip vs).map (kV ∘ Prod.fst)=_
    rw [<- xz,gV hk]
   rw [e2]
   exact rX (x.get f.1 g.at rfl)
 ·intro h1
  rename_i ks ds
  cases r1 with
  | @dt a _ vs _ f e hk hl hh=>
   refine ⟨a,.dT (ks.zip vs),rfl,rfl,e,fun o H2 ps g pR=>?_⟩
   have x2:=Ex.bQ x1.mz g f
   cases pR with
   |t _ bs hb mC=>
    have hz:(ks.zip vs).length=ks.length :=by rw [Op,<- hk,Ps]
    have e2:((bs.map V.ref).zip ((ks.zip vs).map (·.2))).map (·.1)=bs.map V.ref:=gV (by rw [cb,cb];exact hb)
    rw [e2]
    refine q _ _ _ _ (x1.trans x2) (gT (vs:=bs.map V.ref) ⟨by rw [cb,cb,hb,hz],fun i v d ha hd=>?_⟩ fun M' H' x=>rX (x.get f.1 g.at rfl)) h1
    rw [br,io] at ha hd
    obtain ⟨b,JX,rfl⟩:=ha
    obtain ⟨k,AX,rfl⟩:=hd
    have mi:i<(ks.zip vs).length :=by rw [hz];exact (bv.mp AX).1
    have m6:=bi mi
    have ht:=mC i b _ JX m6
    have ek:((ks.zip vs)[i]).1=k :=by
     have:((ks.zip vs).map (·.1))[i]?=some ((ks.zip vs)[i]).1 :=by rw [br,m6];rfl
     rw [gV hk,AX] at this
     exact (dL this).symm
    rw [ek] at ht
    have fb:Fz β M1 b:=⟨x1.mz.jk ht rfl,fun z=>by
     obtain ⟨w,hw,n⟩:=x1.mz.hids b z
     rw [ht] at hw
     cases hw
     cases n⟩
    have r0:Rz β M1 H1 (.ref b) (.tup (k.map lu)):=jj fb ht (lz k)
    exact r0.ex x2
 ·exact fun h=>h.elim⟩
end
theorem lC {g:cS} {te:aH} (J:List Dv->aA->Mh->Prop):∀{ds acc:List Dv} {τ:aA} {M:Mh} {Q:List Dv->Mh->Prop},J acc τ M->
  (∀i d iC τ M,ds[i]?=some d->iC.length=acc.length+i->J iC τ M->∀R:aA->ZK,(∀y aD M2,J (iC++[y]) aD M2->R aD y M2)->g d τ M fun aD M2=>te aD M2 (R aD))->
  (∀ys τ M,ys.length=ds.length->J (acc++ys) τ M->Q ys M)->fj g zNoIf te ds τ M Q
 | [],acc,τ,M,Q,j,_,q=>q [] τ M rfl (by rw [Co];exact j)
 |d::ds,acc,τ,M,Q,j,h,q=>by
          refine h 0 d acc τ M rfl rfl j (fun aD y M4=>fj g zNoIf te ds aD M4 fun ys M5=>Q (y::ys) M5) fun y aD M2 j2=>?_
          refine lC J (acc:=acc++[y]) j2 (fun i d' iC cz M' e1 e2 j' R hR=>?_) fun ys oe M3 e3 j3=>?_
          ·exact h (i+1) d' iC cz M' e1 (by rw [e2,tw];simp;omega) j' R hR
          ·exact q (y::ys) oe M3 (by simp [e3]) (by rw [ES] at j3;exact j3)
theorem yr {a1 r:b9} {D:fy} {ρ:aA} {M:Mh} (I:aA->Mh->Prop) (h1:∀N:aA->Mh->Prop,(∀ρ M,I ρ M->N ρ M)->a1 {D with nx:=N} ρ M) (h2:∀ρ M,I ρ M->r D ρ M):(zSeq a1 r) D ρ M:=h1 _ h2
theorem yt {a1 a2 r:b9} {D:fy} {ρ:aA} {M:Mh} (I:aA->Mh->Prop) (h1:∀N:aA->Mh->Prop,(∀ρ M,I ρ M->N ρ M)->(zSeq a1 a2) {D with nx:=N} ρ M) (h2:∀ρ M,I ρ M->r D ρ M):(zSeq a1 (zSeq a2 r)) D ρ M:=h1 _ h2
theorem EF {a1 a2 a3 r:b9} {D:fy} {ρ:aA} {M:Mh} (I:aA->Mh->Prop) (h1:∀N:aA->Mh->Prop,(∀ρ M,I ρ M->N ρ M)->(zSeq a1 (zSeq a2 a3)) {D with nx:=N} ρ M) (h2:∀ρ M,I ρ M->r D ρ M):(zSeq a1 (zSeq a2 (zSeq a3 r))) D ρ M:=h1 _ h2
theorem Mj {a1 a2 a3 a4 r:b9} {D:fy} {ρ:aA} {M:Mh} (I:aA->Mh->Prop) (h1:∀N:aA->Mh->Prop,(∀ρ M,I ρ M->N ρ M)->(zSeq a1 (zSeq a2 (zSeq a3 a4))) {D with nx:=N} ρ M) (h2:∀ρ M,I ρ M->r D ρ M):(zSeq a1 (zSeq a2 (zSeq a3 (zSeq a4 r)))) D ρ M:=h1 _ h2
theorem Mk {a1 a2 a3 a4 a5 r:b9} {D:fy} {ρ:aA} {M:Mh} (I:aA->Mh->Prop) (h1:∀N:aA->Mh->Prop,(∀ρ M,I ρ M->N ρ M)->(zSeq a1 (zSeq a2 (zSeq a3 (zSeq a4 a5)))) {D with nx:=N} ρ M) (h2:∀ρ M,I ρ M->r D ρ M):(zSeq a1 (zSeq a2 (zSeq a3 (zSeq a4 (zSeq a5 r))))) D ρ M:=h1 _ h2
section
variable {β:Bz} {M M':Mh} {H H':Hp} {a:ac} {o o' o2 oj:Mo}
theorem Rz.dom (hd:∀a,(M a).isSome=(M' a).isSome) {v:V} {d:Dv} (r:Rz β M H v d):Rz β M' H v d:=
 r.lg (M0:=M') (fun a h=>by rw [hd a];exact h) (r.pin.mono fun a h=>by rw [<- hd a];exact h)
theorem ir.dom (hd:∀a,(M a).isSome=(M' a).isSome) (h:ir β M H a o):ir β M' H a o :=by
 cases o with
 |lst ds=>obtain ⟨vs,h1,rs⟩:=h;exact ⟨vs,h1,rs.len,fun i v d x y=>(rs.at' i v d x y).dom hd⟩
 |c6=>exact h
 |dk ks ds=>obtain ⟨vs,h1,h2,rs⟩:=h;exact ⟨vs,h1,h2,rs.len,fun i v d x y=>(rs.at' i v d x y).dom hd⟩
 |dt ks ds=>obtain ⟨vs,h1,h2,rs⟩:=h;exact ⟨vs,h1,h2,rs.len,fun i v d x y=>(rs.at' i v d x y).dom hd⟩
theorem i5 (M:Mh) (a:ac) (o o2:Mo) (b:ac):(au M a o b).isSome=(au M a o2 b).isSome :=by
 by_cases e:b=a
 ·subst e;rw [updM_same,updM_same];rfl
 ·rw [ah e,ah e]
theorem jW {b:ac} (o2:Mo) (h:au M a o b=none):au M a o2 b=none :=by
 by_cases e:b=a
 ·subst e;rw [updM_same] at h;cases h
 ·rw [ah e] at h ⊢;exact h
theorem Mz.chg (m:Mz β (au M a o) H) (h2:ir β (au M a o2) H a o2):Mz β (au M a o2) H :=by
 refine ⟨fun b u e=>?_,m.tabs,m.hids,fun b u e=>?_,m.lams⟩
 ·by_cases z:b=a
  ·subst z;rw [updM_same] at e;cases e;exact h2
  ·rw [ah z] at e
   exact ir.dom (i5 M a o o2) (m.obj b u (by rw [ah z];exact e))
 ·by_cases z:b=a
  ·subst z;exact m.apart b o updM_same
  ·rw [ah z] at e
   exact m.apart b u (by rw [ah z];exact e)
theorem xf (h:M a=some o):au M a o=M :=by
 funext b
 by_cases e:b=a
 ·subst e;rw [updM_same,h]
 ·rw [ah e]
theorem Ex.chg (x:Ex β (au M a o) H (au M a o') H') (h2:ir β (au M a oj) H' a oj):Ex β (au M a o2) H (au M a oj) H':=
 ⟨⟨fun b u h e=>x.keep b u (jW o h) e,fun b h=>by rw [i5 M a oj o'];exact x.dom b (by rw [i5 M a o o2];exact h),fun b u h e=>jW oj (x.new b u (jW o h) e)⟩,x.mz.chg h2⟩
theorem Ex.sealed (hn:M a=none) (x:Ex β M H (au M a o') H') (h2:ir β (au M a oj) H' a oj):Ex β M H (au M a oj) H':=
 ⟨⟨x.keep,fun b h=>by rw [i5 M a oj o'];exact x.dom b h,fun b u h e=>jW oj (x.new b u h e)⟩,x.mz.chg h2⟩
theorem AY {c m:Int} (z:Mz β (au M a (.lst [.int c,.int m])) H) (hc:0<=c) (hm:0<=m):ir β (au M a .c6) H a .c6 :=by
 obtain ⟨vs,h,rs⟩:=z.obj a _ updM_same
 refine ⟨c,m,?_,hc,hm⟩
 have:=k9 (ns:=[c,m]) rs
 rw [h,this]
 rfl
theorem JY (z:Mz β (au M a .c6) H):∃c m:Int,0<=c/\0<=m/\ir β (au M a (.lst [.int c,.int m])) H a (.lst [.int c,.int m]) :=by
 obtain ⟨c,m,h,hc,hm⟩:=z.obj a _ updM_same
 exact ⟨c,m,hc,hm,_,h,oF (ns:=[c,m])⟩
end
section
variable {X:Cx} {Γ:Gz} {K:ar}
def zIxS:eG:=fun d e M Q=>match d,e with | .bj ns,.int i=>(match cj ns i with|some x=>Q (.int x) M|none=>False)|_,_=>False
theorem EG (hK:X.K=K) (hG:K=Γ.K):Jq Γ X zIxS:=⟨_,wC hK,fun β x y d e M H Q Q' _ _ eK m rx ry z q=>by
 unfold zIxS at z
 split at z
 ·rename_i ns i
  split at z
  ·rename_i v hv
   obtain ⟨a,rfl,hS⟩:=rL rx
   rw [eK,<- hG] at hS
   exact .inl ⟨a,_,i,.int v,rfl,aS ry,hS,F3 hv,q _ _ _ _ (.refl m) (.int _) z⟩
  ·exact z.elim
 ·exact z.elim⟩
end
def kG (k:Nat):ba:=⟨#[97+k]⟩
theorem gW (k:Nat):(kG k).length=1:=rfl
theorem eY (a b:ba):(a++b).length=a.length+b.length :=by
 show (a.cps++b.cps).size=a.cps.size+b.cps.size
 exact Array.size_append
section
variable {κ:Type} [DecidableEq κ]
theorem fE:∀(ks U:List κ),ks.Nodup->(∀k∈ks,k∈U)->ks.length<=U.length
 | [],_,_,_=>rb _
 |k::ks,U,nd,h=>by
          have hn:=EN.mp nd
          have hk:=h k i0
          have ih:=fE ks (U.erase k) hn.2 fun x hx=>(List.mem_erase_of_ne (fun e=>hn.1 (by rw [<- e];exact hx))).mpr (h x (hX _ hx))
          rw [List.length_erase_of_mem hk] at ih
          have:=OL hk
          rw [Mn]
          omega
def dm (step:κ->Nat->κ) (met:κ) (w:ba) (st:List κ×List ba) (a:Nat):List κ×List ba:=if step met a∈st.1 then st else (st.1++[step met a],st.2++[w++kG a])
def visit (step:κ->Nat->κ) (met:κ) (w:ba) (n:Nat) (st:List κ×List ba):List κ×List ba:=(on n).foldl (dm step met w) st
def c7 (step:κ->Nat->κ) (n most:Nat):Nat->Nat->List κ×List ba->List κ×List ba
 |0,_,st=>st
 |fuel+1,i,st=>match st.1[i]?,st.2[i]? with
  |some met,some w=>if st.1.length<=most then c7 step n most fuel (i+1) (visit step met w n st) else st
  |_,_=>st
structure dY (U:List κ) (st:List κ×List ba):Prop where
 len:st.1.length=st.2.length
 nd:st.1.Nodup
 sub:∀k∈st.1,k∈U
 wl:∀(i:Nat) (w:ba),st.2[i]?=some w->w.length<=i
theorem dY.le {U:List κ} {st:List κ×List ba} (o:dY U st):st.1.length<=U.length:=fE _ _ o.nd o.sub
theorem dC (step:κ->Nat->κ) (met:κ) (w:ba) (n:Nat) (st:List κ×List ba):visit step met w (n+1) st=dm step met w (visit step met w n st) n :=by
 unfold visit
 rw [UA,Ua]
 rfl
theorem jX (step:κ->Nat->κ) (met:κ) (w:ba) (st:List κ×List ba) (a:Nat):∃ks ws,(dm step met w st a).1=st.1++ks/\(dm step met w st a).2=st.2++ws :=by
 unfold dm
 split
 ·exact ⟨[],[],by simp,by simp⟩
 ·exact ⟨_,_,rfl,rfl⟩
theorem dZ (step:κ->Nat->κ) (met:κ) (w:ba) (n:Nat) (st:List κ×List ba):∃ks ws,(visit step met w n st).1=st.1++ks/\(visit step met w n st).2=st.2++ws :=by
 induction n with
 |zero=>exact ⟨[],[],by simp [visit],by simp [visit]⟩
 |succ n ih=>
  obtain ⟨ks,ws,h1,h2⟩:=ih
  rw [dC]
  obtain ⟨NM,Rr,h3,h4⟩:=jX step met w (visit step met w n st) n
  exact ⟨ks++NM,ws++Rr,by rw [h3,h1,ES],by rw [h4,h2,ES]⟩
theorem da {α:Type} {l m:List α} {i:Nat} {x:α} (h:l[i]?=some x):(l++m)[i]?=some x :=by
 rw [l8 (bv.mp h).1];exact h
theorem dY.dm {U:List κ} {step:κ->Nat->κ} {st:List κ×List ba} (o:dY U st) {i a:Nat} {met:κ} {w:ba} (hw:st.2[i]?=some w) (hs:step met a∈U):dY U (L2.dm step met w st a) :=by
 unfold L2.dm
 split
 ·exact o
 ·rename_i hn
  refine ⟨by simp [o.len],?_,fun k hk=>?_,fun j v hj=>?_⟩
  ·rw [Ub]
   refine ⟨o.nd,by simp,fun x hx y hy e=>?_⟩
   rw [li] at hy
   subst e
   exact hn (hy▸hx)
  ·rcases tz.mp hk with z|z
   ·exact o.sub k z
   ·rw [li] at z;rw [z];exact hs
  ·by_cases h:j<st.2.length
   ·rw [l8 h] at hj
    exact o.wl j v hj
   ·rw [sB (by omega)] at hj
    have e:j - st.2.length=0 :=by
     have:=(bv.mp hj).1
     simp at this;omega
    rw [e] at hj
    cases hj
    have h1:=o.wl i w hw
    have h2:=(bv.mp hw).1
    rw [eY,gW]
    omega
theorem dY.visit {U:List κ} {step:κ->Nat->κ} {st:List κ×List ba} (o:dY U st) {i n:Nat} {met:κ} {w:ba} (hw:st.2[i]?=some w) (hs:∀a,a<n->step met a∈U):dY U (L2.visit step met w n st) :=by
 induction n with
 |zero=>exact o
 |succ n ih=>
  rw [dC]
  obtain ⟨ks,ws,h1,h2⟩:=dZ step met w n st
  exact (ih fun a ha=>hs a (by omega)).dm (i:=i) (by rw [h2];exact da hw) (hs n (by omega))
def met (step:κ->Nat->κ) (n most N:Nat) (s:κ):List κ×List ba:=c7 step n most (N+1) 0 ([s],[""])
theorem jY {U:List κ} {s:κ} (h:s∈U):dY U ([s],[("" : ba)]):=⟨rfl,by simp,fun k hk=>by rw [li] at hk;rw [hk];exact h,fun i w e=>by
 cases i with
 |zero=>cases e;exact ce 0
 |succ i=>simp at e⟩
theorem bfs_ok {U:List κ} {step:κ->Nat->κ} {n most:Nat} (hs:∀k∈U,∀a,a<n->step k a∈U):∀(fuel i:Nat) (st:List κ×List ba),dY U st->dY U (c7 step n most fuel i st)
 |0,_,st,o=>o
 |fuel+1,i,st,o=>by
          unfold c7
          split
          ·rename_i k w h1 h2
           split
           ·exact bfs_ok hs fuel (i+1) _ (o.visit h2 fun a ha=>hs k (o.sub k (c8 h1)) a ha)
           ·exact o
          ·exact o
theorem kI {step:κ->Nat->κ} {n most fuel i:Nat} {st:List κ×List ba} {k:κ} {w:ba} (h1:st.1[i]?=some k) (h2:st.2[i]?=some w) (h3:st.1.length<=most):c7 step n most (fuel+1) i st=c7 step n most fuel (i+1) (visit step k w n st) :=by
 rw [c7]
 simp only [h1,h2,if_pos h3]
theorem i6:∀{ks:List κ} {ws:List ba} {i:Nat} {k:κ} {w:ba},ks.Nodup->ks[i]?=some k->ws[i]?=some w->look ks ws k=some w
 | [],_,_,_,_,_,h,_=>by simp at h
 |_::_,[],_,_,_,_,_,h=>by simp at h
 |c::ks,v::ws,0,k,w,_,h1,h2=>by
          simp at h1 h2
          unfold look
          rw [if_pos h1,h2]
 |c::ks,v::ws,i+1,k,w,nd,h1,h2=>by
          have hn:=EN.mp nd
          have h1:ks[i]?=some k :=by simpa using h1
          unfold look
          rw [if_neg (fun e=>hn.1 (by rw [e];exact c8 h1))]
          exact i6 hn.2 h1 (by simpa using h2)
theorem ju {EH:Type} [DecidableEq EH] {f:κ->EH} (hf:∀a b,f a=f b->a=b) (x:κ):∀(ks:List κ) (ws:List ba),look (ks.map f) (ws.map Dv.str) (f x)=(look ks ws x).map Dv.str
 | [],ws=>by cases ws <;> rfl
 |_::_,[]=>rfl
 |k::ks,w::ws=>by
          rw [wb,wb]
          unfold look
          by_cases e:k=x
          ·rw [if_pos e,if_pos (by rw [e])];rfl
          ·rw [if_neg e,if_neg (fun z=>e (hf _ _ z))]
           exact ju hf x ks ws
theorem xg {α:Type} {ks:List κ} {ds:List α} {k:κ} {d:α} (h:k ∉ ks):putL ks k=ks++[k]/\dJ ks ds k d=ds++[d] :=by
 unfold putL dJ
 rw [if_neg h,if_neg h]
 exact ⟨rfl,rfl⟩
theorem vO {EH:Type} {f:κ->EH} (hf:∀a b,f a=f b->a=b) {x:κ} {ks:List κ}:f x∈ks.map f ↔ x∈ks :=by
 constructor
 ·intro h
  obtain ⟨y,hy,e⟩:=sw.mp h
  rw [<- hf _ _ e];exact hy
 ·exact fun h=>List.mem_map_of_mem h
theorem jZ {ks:List κ} {ws:List ba} (h:ks.length=ws.length) (x:κ):(look ks ws x).isSome=decide (x∈ks) :=by
 cases q:look ks ws x with
 |none=>rw [decide_eq_false ((iu h).mp q)];rfl
 |some w=>
  have:x∈ks:=Classical.byContradiction fun z=>by rw [(iu h).mpr z] at q;cases q
  rw [decide_eq_true this];rfl
end
theorem Gb {k:Nat} (h:k<3):cj ("abc" : ba).cps.toList ((k:Nat):Int)=some (97+k) :=by
 have:k=0\/k=1\/k=2 :=by omega
 rcases this with rfl|rfl|rfl <;> decide +kernel
theorem kJ (a b:Int) (h:(mf a:Key)=mf b):a=b:=TL h
theorem oJ {α:Type} {l:List α} {i:Nat} {x:α} (h:l[i]?=some x):l.drop i=x::l.drop (i+1) :=by
 obtain ⟨hi,e⟩:=bv.mp h
 rw [DD hi,e]
section
variable {κ α:Type} [DecidableEq κ]
theorem uT:∀{ks:List κ} {ws:List α} {i:Nat} {k:κ} {w:α},ks.Nodup->ks[i]?=some k->ws[i]?=some w->look ks ws k=some w
 | [],_,_,_,_,_,h,_=>by simp at h
 |_::_,[],_,_,_,_,_,h=>by simp at h
 |k0::ks,w0::ws,0,k,w,nd,h1,h2=>by
          simp at h1 h2;subst h1 h2
          unfold look;rw [if_pos rfl]
 |k0::ks,w0::ws,i+1,k,w,nd,h1,h2=>by
          have hn:=EN.mp nd
          have h1:ks[i]?=some k :=by simpa using h1
          have h2:ws[i]?=some w :=by simpa using h2
          unfold look
          rw [if_neg (fun e=>hn.1 (by rw [e];exact c8 h1))]
          exact uT hn.2 h1 h2
end
section
variable {prog:cr} {w:gc} {A:l9} {d:ac} {es:Array PP} {ep:Nat}
theorem fw.at {h h':db} (r:fw h d es ep) (k:∀o,h.get? d=some o->h'.get? d=some o):fw h' d es ep :=by
 obtain ⟨o,g,x⟩:=r
 exact ⟨o,k o g,x⟩
theorem AZ (hh:A.handled=none) (I d:ac) (gq:d≠I):Walks prog w A I [I,d] [I] es.size (fun i v=>∃hi:i<es.size,v=es[i].key) (fun i h=>h.get? I=some (pQ d i es.size ep)/\fw h d es ep) where
 sub:=fun b hb=>by simp at hb;simp [hb]
 frame:=fun _ _ _ st hk=>⟨hk I (by simp) _ st.1,st.2.at fun o e=>hk d (by simp) o e⟩
 item:=fun i s Q E hi st hQ=>rW st.1 st.2 hi fun h' hit hs=>hQ _ h' s.toks ⟨hi,rfl⟩ ⟨hit,st.2.at fun o e=>(hs.2 d gq).trans e⟩ fun b o hb e=>(hs.2 b (fun h=>hb (by simp [h]))).trans e
 done:=fun s Q E st hQ=>uR hh st.1 st.2 (ce _) fun h' he=>hQ h' s.toks fun b o hb e=>he b o (fun h=>hb (by simp [h])) e
 self:=fun i _ _ _ st hQ=>wpAny_pyIter_keyiter (d:=d) (i:=i) (n:=es.size) (ep:=ep) ⟨_,st.1,rfl,rfl⟩ hQ
theorem Dh (lo:(d==sysModules)=false):PySem.W.KdlSrc prog w "dict" d d es.size (fun i v=>∃hi:i<es.size,v=es[i].key) (fun h=>fw h d es ep) where
 type:=fun _ r=>by obtain ⟨o,g,c,_⟩:=r;exact ⟨o,g,c⟩
 there:=fun _ r=>by obtain ⟨o,g,c,_⟩:=r;exact ⟨f8 g,f8 g⟩
 keep:=fun _ _ r hk=>r.at fun o e=>hk d (.inl rfl) o e
 notList :=by decide
 notTuple :=by decide
 hint:=fun _ _ _ _ r hq=>PySem.W.kdl_hint_dict (by obtain ⟨o,g,c,_⟩:=r;exact ⟨o,g,c⟩) hq
 iter:=fun _ s hh r=>⟨_,_,(fun _ _ hq=>rV lo r hq),AZ hh _ d (by obtain ⟨o,g,c,_⟩:=r;exact i8 (f8 g)),ff _ rfl,r.at fun o e=>bn _ e⟩
end
section
variable {X:Cx} {Γ:Gz}
def JZ:List V->Hp->VK->Prop:=fun xs H Q=>∃a u,xs=[.ref a]/\gS u=true/\Rd H a u/\∀ps,qF H u ps->ps.length<=sizeLine/\∀l,H l=none->Q (.ref l) (upd H l (.lst (ps.map (·.1))))
theorem qG (hc:X.calm=true):dA X (.type "list") JZ :=by
 intro pins s σ H xs us Q I r h
 obtain ⟨a,u,rfl,hu,hr,q⟩:=h
 obtain ⟨v,rfl,rx⟩:=vals1 r
 cases rx
 obtain ⟨o,es,ep,ps,rw⟩:=xa I.hok hr hu
 obtain ⟨hz,q⟩:=q ps rw.ps
 have hsz:=rw.rel.1
 refine PySem.W.kdl_call (Dh rw.lo) (I.ok.hd hc) ⟨o,rw.obj,rw.cls,rw.data⟩ (by rw [hsz];exact hz) fun h' tk acc c hk hD qt=>?_
 have rv:Vals (ps.map (·.1)) acc.toList :=by
  refine j9 (by have h1:=qt.1;rw [cb,<- hsz,<- h1];simp) fun i v e=>?_
  rw [br,io] at e
  obtain ⟨p,hp,rfl⟩:=e
  obtain ⟨hi,r1,_⟩:=rw.rel.2 i p hp
  have NU:i<acc.size :=by rw [qt.1];exact hi
  obtain ⟨_,ev⟩:=qt.2 i acc[i] (ze NU)
  exact ⟨acc[i],by rw [Db];exact ze NU,by rw [ev];exact r1⟩
 exact ⟨.ref s.heap.objs.size,_,I.laid (t':=tk) hk (ce _) (show ObjOk X.prog X.w _ h' _ (.lst (ps.map (·.1))) from ⟨by rw [cb];exact hz,acc.toList,c,rv,by rw [Array.toArray_toList];exact hD⟩),rfl,q _ (I.hok.fresh (ce _))⟩
variable {K:ar}
def keysL:Dv->Option (List Dv)
 | .dk ks _=>some (ks.map lu)
 | .dt ks _=>some (ks.map fun k=>.tup (k.map lu))
 |_=>none
theorem Di {β:Bz} {M:Mh} {H:Hp} {v:V} {d:Dv} {ys:List Dv} (m:Mz β M H) (r:Rz β M H v d) (h:keysL d=some ys):∃a u,v=.ref a/\gS u=true/\Rd H a u/\∀ps,qF H u ps->aF β M H (ps.map (·.1)) ys :=by
 unfold keysL at h
 split at h
 ·rename_i ks ds
  cases h
  cases r with
  | @dk a _ vs _ f e hk hl hh=>
   refine ⟨a,.dK (ks.zip vs),rfl,rfl,e,fun ps pR=>?_⟩
   cases pR
   have e2:((ks.zip vs).map fun kv=>(kV kv.1,kv.2)).map (·.1)=ks.map kV :=by
    rw [xz]
    show (ks.zip vs).map (kV ∘ Prod.fst)=_
    rw [<- xz,gV hk]
   rw [e2]
   exact lz ks
 ·rename_i ks ds
  cases h
  cases r with
  | @dt a _ vs _ f e hk hl hh=>
   refine ⟨a,.dT (ks.zip vs),rfl,rfl,e,fun ps pR=>?_⟩
   cases pR with
   |t _ bs hb mC=>
    have hz:(ks.zip vs).length=ks.length :=by rw [Op,<- hk,Ps]
    have e2:((bs.map V.ref).zip ((ks.zip vs).map (·.2))).map (·.1)=bs.map V.ref:=gV (by rw [cb,cb];exact hb)
    rw [e2]
    refine ⟨by rw [cb,cb,hb,hz],fun i v d ha hd=>?_⟩
    rw [br,io] at ha hd
    obtain ⟨b,JX,rfl⟩:=ha
    obtain ⟨k,AX,rfl⟩:=hd
    have mi:i<(ks.zip vs).length :=by rw [hz];exact (bv.mp AX).1
    have m6:=bi mi
    have ht:=mC i b _ JX m6
    have ek:((ks.zip vs)[i]).1=k :=by
     have:((ks.zip vs).map (·.1))[i]?=some ((ks.zip vs)[i]).1 :=by rw [br,m6];rfl
     rw [gV hk,AX] at this
     exact (dL this).symm
    rw [ek] at ht
    have fb:Fz β M b:=⟨m.jk ht rfl,fun z=>by
     obtain ⟨w,hw,n⟩:=m.hids b z
     rw [ht] at hw
     cases hw
     cases n⟩
    exact jj fb ht (lz k)
 ·cases h
end
section
variable {X:Cx} {Γ:Gz}
def zRepP:eG:=fun d e M Q=>match d,e with | .lst ds,.int k=>(-(2 ^ 63)<=k/\k<2 ^ 63/\ds.length * k.toNat<=sizeLine)/\∀a,M a=none->Q (.ptr a) (au M a (.lst (qr k.toNat ds).flatten))|_,_=>False
theorem J0:eB Γ X (binaryOp .Mult) zRepP:=⟨_,HW,fun β x y d e M H Q Q' _ _ _ m rx ry z q=>by
 unfold zRepP at z
 split at z
 ·rename_i ds k
  obtain ⟨a,vs,rfl,f,ha,rs⟩:=fV rx
  obtain ⟨⟨z1,z2,z3⟩,z4⟩:=z
  refine ⟨a,_,vs,rfl,aS ry,ha,z1,z2,by rw [rs.len];exact z3,fun p hp=>?_⟩
  have x2:=Ex.own m (.inr hp) (rs.rep k.toNat)
  exact q _ _ _ _ x2 (.ptr (by rw [updM_same];rfl)) (z4 p (m.free hp))
 ·exact z.elim⟩
end
def J1 (K:ar):List V->Hp->VK->Prop:=fun xs H Q=>∃(p:ac) (ns:List Int),xs=[.ref p]/\bY K H p (ns.map V.int)/\0<ns.length/\∀m:Int,m∈ns->(∀a∈ns,m<=a)->Q (.int m) H
theorem A0 {X:Cx} (hc:X.calm=true):dA X (.builtin "min") (J1 X.K) :=by
 intro pins s σ H xs us Q I r h
 obtain ⟨p,ns,rfl,hq,h0,q⟩:=h
 obtain ⟨u,rfl,rx⟩:=vals1 r
 cases rx
 have hh:=I.ok.hd hc
 obtain ⟨its,rv,pl,hz⟩:=I.list hq
 obtain ⟨ys,hy⟩:=(pB rv).allInts.items
 have hl:=pl.isList
 rw [hy] at hl
 have en:ys.toList.map (·.1)=ns :=by
  rw [<- nums_intItems,<- hy]
  exact (pB rv).numsOf
 have hsz:0<ys.size :=by
  rw [<- en,cb,ww] at h0
  exact h0
 refine min_intList hh hl hsz fun v h' tk hv hk=>?_
 obtain ⟨t,rfl⟩:=intItems_at hv
 obtain ⟨h1,h2⟩:=argBest_lt (numAt ys) (ys.size - 1)
 refine ⟨.int _,H,I.kept (t':=tk) hk,⟨t,rfl⟩,q _ ?_ fun a ha=>?_⟩
 ·rw [<- en,numAt_eq];exact getD_mem (by rw [cb,ww];omega)
 ·rw [<- en] at ha
  obtain ⟨j,hj,rfl⟩:=mem_getD ha
  rw [cb,ww] at hj
  rw [<- numAt_eq];exact h2 j (by omega)
theorem yu {X:Cx} {K:ar} (h:X.K=K) (hc:X.calm=true):dA X (.builtin "min") (J1 K):=h▸A0 hc
def zMinL (d:Dv) (M:Mh) (Q:ZK):Prop:=match (itemsM M d).bind hZ with|some ns=>0<ns.length/\(∀t,d≠.tup t)/\∀m:Int,m∈ns->(∀a∈ns,m<=a)->Q (.int m) M|none=>False
theorem J4 {Γ:Gz} {X:Cx} {K:ar} (hK:X.K=K) (hc:X.calm=true):fB Γ X (.builtin "min") (z1 zMinL):=⟨_,yu hK hc,fun β xs ds M H Q Q' _ _ _ m rs z q=>by
 unfold z1 at z
 split at z
 ·rename_i d
  obtain ⟨x,rfl,r⟩:=dz rs
  unfold zMinL at z
  split at z
  ·rename_i ns gh
   obtain ⟨z1,z2,z3⟩:=z
   rw [Option.bind_eq_some_iff] at gh
   obtain ⟨es,he,hi⟩:=gh
   obtain ⟨a,vs,rfl,ha,gN⟩:=jm m r he
   rw [oE hi] at gN
   rw [k9 gN] at ha
   rcases ha with ha|ha
   ·exact ⟨a,ns,rfl,bY.of ha,z1,fun k h1 h2=>q _ _ _ _ (.refl m) (.int _) (z3 k h1 h2)⟩
   ·exfalso
    cases d with
    |tup t=>exact z2 t rfl
    |lst t=>obtain ⟨a',uo,e,f,hv,_⟩:=fV r;cases e;rw [hv] at ha;cases ha
    |ptr p=>
     obtain ⟨e,_⟩:=cA r
     cases e
     simp only [itemsM] at he
     split at he
     ·rename_i xs hx;obtain ⟨uo,hv,_⟩:=m.obj _ _ hx;rw [hv] at ha;cases ha
     ·cases he
    |_=>cases he
  ·exact z.elim
 ·exact z.elim⟩
end L2
namespace L2
open PySem PySem.Spec PySem.W PyProof.Rows
def rk (R:Nat->Int) (p:Array Nat) (k:Nat):Int:=R (p.getD k 0)
end L2
namespace L2
open PySem PySem.Spec PyProof.Rows
section
variable {X:Cx} {Γ:Gz} {K:ar}
def Dj (x:V) (H:Hp):Prop:=∃p,x=.ref p/\((∃aj,Rd H p (.dK aj))\/∃aj,Rd H p (.dT aj))
def Pu (r:V->List V->Hp->VK->Prop) (to:TE) (t:TA):TE:=fun σ H Q=>to σ H fun x H1=>Dj x H1/\t σ H1 fun xs H2=>r x xs H2 Q
theorem Gd {pins:List (ac×ii)} {σ:St} {H:Hp} {s:ap} {x:V} {v:ag} (I:Inv X pins σ H s) (r:RelV x v) (ty:Dj x H):s.TypeIs v "dict" /\ ∀a,v=.ref a->∃ob,s.heap.get? a=some ob/\ob.dict=none :=by
 obtain ⟨p,rfl,hk⟩:=ty
 cases (show v=l5 p from r)
 rcases hk with ⟨aj,hk⟩|⟨aj,hk⟩
 ·obtain ⟨_,_,_,_,o,_,_,e,ex,_⟩:=iR I.hok hk
  exact ⟨⟨o,e,ex.1⟩,fun a e2=>by cases e2;exact ⟨o,e,ex.2.1⟩⟩
 ·obtain ⟨_,_,_,_,o,_,_,e,ex,_⟩:=jR I.hok hk
  exact ⟨⟨o,e,ex.1⟩,fun a e2=>by cases e2;exact ⟨o,e,ex.2.1⟩⟩
variable {o e:ci} {es:List ci} {to:TE} {t:TA} {name:ba} {apos aY:rf} {id:String} {r:V->List V->Hp->VK->Prop}
theorem J5 (pa:Ud "dict") (slot:Slot "dict" name id) (mr:typeOf (.builtin id)=pure (.type "method_descriptor")) (hm:zx X id r) (ho:PE X o to) (ha:PA X (e::es) t)
  (iM:attributeBase o name X.env (eval o X.env)=eval o X.env :=by rfl)
  (kT:((backTo aY (starEach (e::es) X.env)).all (fun x => !x.1) && (backToKw aY (keywordEach [] X.env)).all (fun x=>x.1.isSome) && decide ((e::es).length+([]:List LM).length+(if ([]:List LM).isEmpty then 0 else 1)<30))=true :=by rfl)
  (hline:(apos.endLine==aY.line)=true :=by rfl) (hs:starEach (e::es) X.env=(false,eval e X.env)::starEach es X.env :=by rfl) (gf:(backTo aY (starEach es X.env)).any (·.1)=false :=by rfl) :
  PE X (.Call (.Attribute o name apos) (e::es) [] aY) (Pu r to t) :=by
 refine ⟨?_⟩
 intro pins s σ H Q I h
 refine wpAny_Call_method_late iM kT hline rfl (thn (ho pins s σ H _ I h) fun v s1 ⟨x,H1,I1,r1,ty,q1⟩=>?_)
 obtain ⟨h1,h2⟩:=Gd I1 r1 ty
 refine ⟨"dict",id,pa,slot,mr,h1,h2,?_⟩
 have hA:=ha aY pins s1 σ H1 _ I1 q1
 rw [hs] at hA ⊢
 refine Calls.callWith_builtin (by show (false || (backTo aY (starEach es X.env)).any (·.1))=false;rw [gf] <;> rfl) (Tp ?_)
 exact thn hA fun us s2 ⟨vs,H2,I2,r2,q2⟩=>hm pins s2 σ H2 x vs v us Q I2 r1 r2 q2
def tyD (M:Mh) (d:Dv):Prop:=match nowK M d with | .dk _ _=>True | .dt _ _=>True|_=>False
def zBMD (z:mW) (po:aH) (pa:dI):aH:=fun ρ M Q=>po ρ M fun d M1=>tyD M1 d/\pa ρ M1 fun ds M2=>z d ds M2 Q
theorem J6 {β:Bz} {M:Mh} {H:Hp} {x:V} {d:Dv} (m:Mz β M H) (r:Rz β M H x d) (h:tyD M d):Dj x H :=by
 unfold tyD at h
 split at h
 ·rename_i ks ds hk
  obtain ⟨a,vs,rfl,ha,_⟩:=(nJ m r).1 _ _ hk
  exact ⟨a,rfl,.inl ⟨_,ha⟩⟩
 ·rename_i ks ds hk
  obtain ⟨a,vs,rfl,ha,_⟩:=(nJ m r).2 _ _ hk
  exact ⟨a,rfl,.inr ⟨_,ha⟩⟩
 ·exact h.elim
variable {po:aH} {pa:dI} {z:mW}
theorem J7 (pat:Ud "dict") (slot:Slot "dict" name id) (mr:typeOf (.builtin id)=pure (.type "method_descriptor")) (hm:wW Γ X "dict" id K z) (ho:QE Γ X o po) (ha:QA Γ X (e::es) pa) (iM:attributeBase o name X.env (eval o X.env)=eval o X.env :=by rfl)
  (kT:((backTo aY (starEach (e::es) X.env)).all (fun x => !x.1) && (backToKw aY (keywordEach [] X.env)).all (fun x=>x.1.isSome) && decide ((e::es).length+([]:List LM).length+(if ([]:List LM).isEmpty then 0 else 1)<30))=true :=by rfl)
  (hline:(apos.endLine==aY.line)=true :=by rfl) (hs:starEach (e::es) X.env=(false,eval e X.env)::starEach es X.env :=by rfl) (gf:(backTo aY (starEach es X.env)).any (·.1)=false :=by rfl) :
  QE Γ X (.Call (.Attribute o name apos) (e::es) [] aY) (zBMD z po pa) :=by
 obtain ⟨r,h1,h2⟩:=hm
 exact (J5 pat slot mr h1 ho ha iM kT hline hs gf).imp fun σ H Q ⟨β,ρ,M,Q',zr,h,q⟩=>⟨β,ρ,M,_,zr,h,fun d M1 v H1 x1 r1 ⟨ht,h1⟩=>⟨J6 x1.mz r1 ht,β,ρ,M1,_,zr.step x1,h1,fun ds M2 vs H2 x2 r2 h3=>
  h2 β v vs d ds M2 H2 _ _ zr.eP zr.ew zr.eK x2.mz (r1.ex x2) r2 h3 fun d' M' v' H' x3 r3 q3=>q _ _ _ _ (x1.trans (x2.trans x3)) r3 q3⟩⟩
end
end L2
namespace L2
open PySem PySem.Spec PySem.W PyProof.Rows
section
variable {X:Cx} {Γ:Gz} {β:Bz} {K:ar}
theorem Zr.Ge {M:Mh} {ρ:aA} {σ:St} {H:Hp} {i:Nat} {a:ac} {ks:List (List Key)} {ds:List Dv} (z:Zr Γ β M ρ σ H) (hi:ρ[i]?=some (some (.ptr a))) (ha:M a=some (.dt ks ds)) (h0:Γ.M0 a=none) (fr:yl Γ.M0 (bz M a) (ρ.set i (some (.dt ks ds)))) :
  Zr Γ β (bz M a) (ρ.set i (some (.dt ks ds))) σ H/\Ev β M H (bz M a) H :=by
 have rz:∀{v:V} {d:Dv},Rz β M H v d->Pin (bz M a) d->Rz β (bz M a) H v d:=fun r p=>r.lg (M0:=bz M a) (fun b hb=>by
  by_cases e:b=a
  ·rw [e,bF] at hb;cases hb
  ·rw [bb e] at hb;exact hb) p
 have il:i<ρ.length:=(bv.mp hi).1
 have Jz:∀d∈ds,Pin (bz M a) d:=fun d hd=>by
  have:=fr.env i (.dt ks ds) (by rw [Os il])
  cases this with|dt h=>exact h d hd
 have obj:∀b es,bz M a b=some es->∀d∈es.items,Pin (bz M a) d:=fun b es e d hd=>by
  rcases fr.obj b es e with q|q
  ·refine (z.wf b es q d hd).mono fun c hc=>?_
   have nc:c≠a:=fun w=>by rw [w,h0] at hc;cases hc
   rw [bb nc]
   exact z.ent.dom c hc
  ·exact q d hd
 have mz:Mz β (bz M a) H :=by
  refine ⟨fun b o e=>?_,z.mz.tabs,z.mz.hids,fun b o e=>?_,z.mz.lams⟩
  ·have nb:b≠a:=fun q=>by rw [q,bF] at e;cases e
   have e':M b=some o :=by rw [bb nb] at e;exact e
   have q:=z.mz.obj b o e'
   cases o with
   |lst es=>obtain ⟨vs,hv,rs⟩:=q;exact ⟨vs,hv,rs.len,fun j v d x y=>rz (rs.at' j v d x y) (obj b _ e d (c8 y))⟩
   |dk ks es=>obtain ⟨vs,hv,hk,rs⟩:=q;exact ⟨vs,hv,hk,rs.len,fun j v d x y=>rz (rs.at' j v d x y) (obj b _ e d (c8 y))⟩
   |dt ks es=>obtain ⟨vs,hv,hk,rs⟩:=q;exact ⟨vs,hv,hk,rs.len,fun j v d x y=>rz (rs.at' j v d x y) (obj b _ e d (c8 y))⟩
   |c6=>exact q
  ·have nb:b≠a:=fun q=>by rw [q,bF] at e;cases e
   rw [bb nb] at e
   exact z.mz.apart b o e
 refine ⟨⟨z.eP,z.ew,z.eK,z.et,z.sub,z.wf,⟨z.ent.keep,fun b hb=>?_,fun b o m h=>?_⟩,mz,by simp [z.len],fun j d e=>?_⟩,⟨fun b o _ h=>.inl h,fun b o m h=>?_,mz⟩⟩
 ·have nb:b≠a:=fun q=>by rw [q,h0] at hb;cases hb
  rw [bb nb];exact z.ent.dom b hb
 ·by_cases e:b=a
  ·rw [e,bF]
  ·rw [bb e];exact z.ent.new b o m h
 ·have p:=fr.env j d e
  rw [S2] at e
  split at e
  ·rename_i q
   subst q
   first
    |cases e
    |(rw [if_pos il] at e;cases e)
   obtain ⟨v,hv,r⟩:=z.at' i _ hi
   obtain ⟨rfl,_⟩:=cA r
   obtain ⟨vs,hl,hk,rs⟩:=z.mz.obj a _ ha
   refine ⟨_,hv,.dt ⟨bF,z.mz.apart a _ ha⟩ (.inl hl) hk rs.len fun k v d x y=>rz (rs.at' k v d x y) (Jz d (c8 y))⟩
  ·obtain ⟨v,hv,r⟩:=z.at' j d e
   exact ⟨v,hv,rz r p⟩
 ·by_cases e:b=a
  ·rw [e,bF]
  ·rw [bb e];exact m
def Ml (i:Nat) (M0:Mh) (p:b9):b9:=fun D ρ M=>p D ρ M\/∃a ks ds,ρ[i]?=some (some (.ptr a))/\M a=some (.dt ks ds)/\M0 a=none/\yl M0 (bz M a) (ρ.set i (some (.dt ks ds)))/\p D (ρ.set i (some (.dt ks ds))) (bz M a)
theorem Gf (i:Nat) {M1:Mh} {st:mv} {p:b9} (hM:Γ.M0=M1) (h:QS Γ X st p):QS Γ X st (Ml i M1 p):=h.imp fun D σ H ⟨β,ρ,M,D',zr,h,r⟩=>by
 rcases h with h|⟨a,ks,ds,hi,ha,h0,fr,h⟩
 ·exact ⟨β,ρ,M,D',zr,h,r⟩
 ·obtain ⟨z2,e2⟩:=zr.Ge hi ha (by rw [hM];exact h0) (by rw [hM];exact fr)
  exact ⟨β,_,_,D',z2,h,r.step e2⟩
end
end L2
namespace L2
open PySem PySem.Spec PyProof.Rows
section
variable {X:Cx} {Γ:Gz} {K:ar}
def zSortedP (d:Dv) (M:Mh) (Q:ZK):Prop:=match intsM M d with|some ns=>ns.length<64/\∀a,M a=none->Q (.ptr a) (au M a (.lst ((sortI ns).map .int)))|none=>False
theorem A1 (hP:X.prog=Γ.P) (hw:X.w=Γ.w) (hK:X.K=K) (hc:X.calm=true):fB Γ X (.builtin "sorted") (z1 zSortedP):=⟨_,sG hP hw hK hc,fun β xs ds M H Q Q' eP ew _ m rs z q=>by
 unfold z1 at z
 split at z
 ·rename_i d
  obtain ⟨x,rfl,r⟩:=dz rs
  unfold zSortedP at z
  split at z
  ·rename_i ns gh
   have fin:∀l,H l=none->Q (.ref l) (upd H l (.lst ((sortI ns).map V.int))):=fun l hl=>by
    have x2:=Ex.own m (p:=l) (.inr hl) (oF (ns:=sortI ns))
    exact q _ _ _ _ x2 (.ptr (by rw [updM_same];rfl)) (z.2 l (m.free hl))
   unfold intsM at gh
   split at gh
   ·cases gh
    obtain ⟨a,rfl,f,h⟩:=Ab r
    rw [eP,ew] at h
    exact ⟨a,_,rfl,.inl h,z.1,fin⟩
   ·obtain ⟨a,rfl,ha⟩:=Aq m r gh
    exact ⟨a,_,rfl,.inr (ha.imp bY.of dh.of),z.1,fin⟩
  ·exact z.elim
 ·exact z.elim⟩
end
section
variable {X:Cx} {Γ:Gz} {K:ar}
def zExtendT:mW:=fun d ds M Q=>match d,ds with | .ptr a,[.tup ys]=>(match M a with|some (.lst xs)=>xs.length+ys.length<=sizeLine/\Q .aB (au M a (.lst (xs++ys)))|_=>False)|_,_=>False
end
section
variable {X:Cx} {Γ:Gz}
def zPar (i j:Nat) (za:dI):b9:=fun D ρ M=>za ρ M fun ds M1=>match ds with | [d,e]=>D.nx ((ρ.set i (some d)).set j (some e)) M1|_=>False
theorem A6 {i j:Nat} {x y:ba} {a b:ci} {za:dI} {px py pt pos:rf} {kt k2 tF} (hc:X.calm=true) (hN:X.N.Nodup) (hi:X.N[i]?=some x) (hj:X.N[j]?=some y) (wo:i≠j)
  (hx:X.env.scope.names.lookup x=some .local) (hy:X.env.scope.names.lookup y=some .local) (ha:QA Γ X [a,b] za)
  (hw:swappedStores [.Tuple [.Name x px,.Name y py] kt pt] (.Tuple [a,b] k2 tF) X.env=pure (some [x,y]))
  (hs:swapsWithSole [.Tuple [.Name x px,.Name y py] kt pt] (.Tuple [a,b] k2 tF) pos.line X.env=pure false :=by rfl) :
  QS Γ X (.Assign [.Tuple [.Name x px,.Name y py] kt pt] (.Tuple [a,b] k2 tF) pos) (zPar i j za):=
 (Hk hc hN hi hj wo hx hy ha hw hs).imp fun D σ H ⟨β,ρ,M,D',zr,h,r⟩=>⟨β,ρ,M,_,zr,h,fun ds M1 vs H1 x1 rs h1=>by
  revert h1
  split
  ·rename_i d e
   intro h1
   obtain ⟨v,w,rfl,r1,r2⟩:=kz rs
   exact ⟨v,w,rfl,r.nx _ _ _ _ x1.ev (((zr.step x1).set i r1).set j r2) h1⟩
  ·exact fun h=>h.elim⟩
end
section
variable {Γ:Gz} {X:Cx}
def zListDD (d:Dv) (M:Mh) (Q:ZK):Prop:=match keysL d with|some ys=>ys.length<=sizeLine/\Q (.lst ys) M|none=>False
theorem Dk (hc:X.calm=true):fB Γ X (.type "list") (z1 zListDD):=⟨_,qG hc,fun β xs ds M H Q Q' _ _ _ m rs z q=>by
 unfold z1 at z
 split at z
 ·obtain ⟨x,rfl,r⟩:=dz rs
  unfold zListDD at z
  split at z
  ·rename_i ys Rt
   obtain ⟨a,u,rfl,hu,hr,h⟩:=Di m r Rt
   refine ⟨a,u,rfl,hu,hr,fun ps pR=>?_⟩
   have rp:=h ps pR
   refine ⟨by have:=rp.len;rw [cb] at this;rw [this];exact z.1,fun l hl=>?_⟩
   have x2:=Ex.lay m hl (.lst (ps.map (·.1)))
   exact q _ _ _ _ x2 (uq (m.fz hl) ax (rp.ex x2)) z.2
  ·exact z.elim
 ·exact z.elim⟩
end
end L2
open PySem L2 PyProof.Rows
local macro_rules | `(tactic| simp! only [$xs,*] $[$l]?)=>`(tactic| simp only [zVar,zC,zOp,zII,zIC,zEq,zNe,scalZ,zIsN,isNonD,zSS,zTest,zBool,zChain,zAnd,zOr,zNot,zAndV,zNotV,zNil,zCons,zTup,zLst,zLstP,zCB,z1,zLenD,z2I,zAbs,zTuple,intsM,itemsM,zIsInst,isD,zBM,tyZ,zAppend,zPop,zPopAt,zIndexS,zSetI,zgSub,zNext,zSeq,zDrop,zRet,zIfS,zgName,zgNil,zgCons,zgTup,zAsg,zFor,zForM,zComp,zCompP,zTupG,zAll,zBlock,zCall,zRaise,zstart,zEndsOf,ziTup,ziLst,ziStr,ziRng1,ziEnumK,ziKeys,zoNone,zoSome,zSl,zSlS,zIx,zRangeP,zTruth,truD,zNoIf,zGetR,zDIn,zMGet,lookD,nowK,keyD,zDNewK,zDNewT,zDisp1K,zDisp1T,zDPut,zLenK,zIxS,keysL,zRepP,zMinL,zSortedP,zCallL,zBMD,tyD,zPar,zExtendT,zListDD,List.getElem?_cons_zero,FF,wb,Tq,IR,Rs,Mn,SO,wE,List.replicate_zero,List.set_cons_zero,List.set_cons_succ,Uo,Nat.reduceAdd,Nat.reduceSub,PM,Nat.zero_add,if_true,if_false,i4,TZ,Bool.not_false,true_and,and_true,beq_self_eq_true,String.reduceBEq,zLoop,cb,SB,updM_same,updM_updM,Co,Nd,ut,rangeD_len,pairsD_len,numD_len,Ps,atI_zero,decide_true,decide_false,Bool.not_eq_true,bne_self_eq_false,$xs,*] $[$l]?)
local macro_rules | `(tactic| dsimp! only [$xs,*] $[$l]?)=>`(tactic| simp only [zVar,zC,zOp,zII,zIC,zEq,zNe,scalZ,zIsN,isNonD,zSS,zTest,zBool,zChain,zAnd,zOr,zNot,zAndV,zNotV,zNil,zCons,zTup,zLst,zLstP,zCB,z1,zLenD,z2I,zAbs,zTuple,intsM,itemsM,zIsInst,isD,zBM,tyZ,zAppend,zPop,zPopAt,zIndexS,zSetI,zgSub,zNext,zSeq,zDrop,zRet,zIfS,zgName,zgNil,zgCons,zgTup,zAsg,zFor,zForM,zComp,zCompP,zTupG,zAll,zBlock,zCall,zRaise,zstart,zEndsOf,ziTup,ziLst,ziStr,ziRng1,ziEnumK,ziKeys,zoNone,zoSome,zSl,zSlS,zIx,zRangeP,zTruth,truD,zNoIf,zGetR,zDIn,zMGet,lookD,nowK,keyD,zDNewK,zDNewT,zDisp1K,zDisp1T,zDPut,zLenK,zIxS,keysL,zRepP,zMinL,zSortedP,zCallL,zBMD,tyD,zPar,zExtendT,zListDD,List.getElem?_cons_zero,FF,wb,Tq,IR,Rs,Mn,SO,wE,List.replicate_zero,List.set_cons_zero,List.set_cons_succ,Uo,Nat.reduceAdd,Nat.reduceSub,PM,Nat.zero_add,if_true,if_false,i4,TZ,Bool.not_false,true_and,and_true,beq_self_eq_true,String.reduceBEq,cb,SB,updM_same,updM_updM,Co,Nd,ut,rangeD_len,pairsD_len,numD_len,Ps,atI_zero,decide_true,decide_false,Bool.not_eq_true,bne_self_eq_false,$xs,*] $[$l]?)
namespace My
open PySem L2 PyProof.Rows
def top (i:Nat):mv:=PySem.Challenge.pw_roadcall_k23_whole_ways_and_parts.main.body.getD i (.Pass ⟨0,0,0,0⟩)
abbrev d6:mv:=top 7
abbrev cH:mv:=top 8
abbrev d7:mv:=top 9
abbrev jv:mv:=top 14
abbrev jw:mv:=top 15
abbrev d8:mv:=top 16
abbrev iT:mv:=top 17
abbrev iU:mv:=top 18
abbrev eS:mv:=top 19
abbrev iw:mv:=top 20
abbrev h8:mv:=top 21
abbrev lD:mv:=top 24
abbrev sY:mv:=top 25
abbrev ia:mv:=top 26
abbrev az:mv:=top 27
abbrev sZ:mv:=top 28
abbrev gX:mv:=top 29
abbrev dn:mv:=top 30
abbrev gD:mv:=top 31
abbrev kM:mv:=top 33
abbrev iV:mv:=top 35
abbrev fx:mv:=top 36
abbrev gE:mv:=top 37
abbrev d9:mv:=top 38
abbrev gF:mv:=top 39
abbrev yw:mv:=top 40
section
variable {P:cr} {w:gc} {K:ar} {mg:ba->Option ag} {base:db} {tb:cu}
theorem dN:aM ["start","width","step","most","found","queue","met","at","goal"] ["start","width","step","most"] (ak ia):=⟨rfl,rfl,rfl,by decide +kernel,rfl,by decide +kernel,by decide +kernel⟩
def A7 (cm:List Dv) (step:Int->Nat->Int) (U:List Int) (n:Nat):List Dv->bZ:=fun Pw ds M Q _=>Pw=cm/\∃(p:Int) (a:Nat),ds=[.int p,.int ((a:Nat):Int)]/\p∈U/\a<n/\Q (.int (step p a)) M
def lF (r:List Int×List ba):Dv:=.dk (r.1.map mf) (r.2.map Dv.str)
def xh (P:cr) (w:gc) (K:ar) (mg:ba->Option ag) (tb:cu) (base:db):bZ:=fun ds M Q _=>∃(s:Int) (step:Int->Nat->Int) (U:List Int) (n most:Nat) (f:ac) (fd:im) (o:ii) (c:ac) (oc:ii) (vcs:List V) (cm:List Dv) (ps:List ba),
 ds=[.int s,.int (n:Nat),.bU f o c oc vcs cm,.int (most:Nat)]/\FnOk P w K mg base bL 6 f fd ps (EB P w K tb f o c oc vcs (A7 cm step U n))/\(∃oc od fd sl,o=⟨oc,od,.func fd,sl⟩)/\Binds K fd ps []/\n<=3/\s∈U/\(∀k∈U,∀a,a<n->step k a∈U)/\U.length<=10000 /\
 Q (lF (met step n most U.length s)) M
theorem uU {f:ac} {fd:im} {dv:List ag} (D:EA K mg "first_met" ia ["start","width","step","most"] dv f fd) (bl:Bl mg) {tk:Tz} (dq:mg "SIGNS" = some (.str "abc" tk)) :
  FnOk P w K mg base bL 7 f fd ["start","width","step","most"] (aR P w K tb (xh P w K mg tb base)) :=by
 refine Md D dN (fun ds M Q E hS=>by obtain ⟨s,step,U,n,most,f,fd,o,c,oc,vcs,cm,ps,e,_⟩:=hS;rw [e];rfl) fun A outer s0 E Γ ds Q' E' hP hw hK ht hr hS=>?_
 obtain ⟨s,step,U,n,most,f,fd,o,c,oc,vcs,cm,ps,e,J8,J9,Ka,hn,hs,hU,hl,q⟩:=hS
 refine ⟨_,(ai (aJ (i:=4) dN.nd rfl (l6 rfl) (AA (qv 0) mO))
  (ai (aJ (i:=5) dN.nd rfl (l6 rfl) (ku (aa (qv 0) ae)))
  (ai (oB ma (QW.pt (uw (C1 (qv 5)) (qu (bt yi (ay JE rfl bl.len_ kw (aa (qv 4) ae)) (qv 3) (bB _)))))
   (ai (aJ (i:=6) dN.nd rfl (l6 rfl) (la (K:=K) rfl Cf PySem.F.slot_list_pop PySem.F.type_list_pop wX (qv 5) (aa av ae)))
  (aq (cc ma rfl (bw rfl bl.range_ (aa (qv 1) ae)) (fun fX eP ew eK et=>by have hP:=hP.trans eP.symm;have hw:=hw.trans ew.symm;have hK:=hK.trans eK.symm;have ht:=ht.trans et.symm;exact ⟨(aN (i:=7) dN.nd rfl (l6 rfl)),(ai (aJ (i:=8) dN.nd rfl (l6 rfl) (C8 (i:=2) J8 J9 (hr.mono (by decide)) rfl (l6 rfl) Ka b5 hP hw hK ht XR.none (aa (qv 6) (aa (qv 7) ae))))
  (aq (cw (bt (C3 hr.units) (qv 8) (qv 4) (by rfl))
   (ai (qB hr.units (qv 4) (qv 8) (a8 Ao (dM hr.units (qv 4) (qv 6) (fun _ _=>rfl)) (bH (cB (K:=K) rfl) (oA (z := "abc") rfl dq ⟨_,rfl⟩) (qv 7) (fun _ _=>rfl))))
  (aq (c9 (la (K:=K) rfl Cf Nl No lb (qv 5) (aa (qv 8) ae)))))
   qss_nil)))⟩)))))
  (aq (a9 (qv 4)))))),?_⟩
 subst e
 simp! only []
 intro a ha
 refine ⟨by decide,fun qq hq=>?_⟩
 have A8:qq≠a:=fun z=>by rw [z,updM_same] at hq;cases hq
 have Ru:Γ.M0 qq=none :=by rw [ah A8] at hq;exact hq
 have big:(10000:Nat)+10<sizeLine :=by decide
 have NV:∀{M:Mh},(∀b,b≠a->b≠qq->M b=Γ.M0 b)->Keeps Γ.M0 M:=fun h b o e=>by
  rw [h b (fun z=>by rw [z,ha] at e;cases e) (fun z=>by rw [z,Ru] at e;cases e)];exact e
 let I:Nat->List Int×List ba->aA->Mh->Prop:=fun i st ρ M=>(∃x6 x7 x8,ρ=[some (.int s),some (.int (n:Nat)),some (.bU f o c oc vcs cm),some (.int (most:Nat)),some (.ptr a),some (.ptr qq),x6,x7,x8])/\M a=some (.dk (st.1.map mf) (st.2.map Dv.str))/\M qq=some (.lst ((st.1.drop i).map Dv.int))/\(∀b,b≠a->b≠qq->M b=Γ.M0 b)/\dY U st/\i<=st.1.length
 refine ⟨fun m ρ M=>∃i st,m=U.length+1 - i/\I i st ρ M/\c7 step n most (U.length+1 - i) i st=met step n most U.length s,⟨_,0,([s],[""]),rfl,⟨⟨_,_,_,rfl⟩,by rw [ah (wn A8),updM_same];rfl,updM_same,fun b h1 h2=>by rw [ah h2,ah h1],jY hs,rb _⟩,rfl⟩,?_⟩
 rintro m ρ M ⟨i,st,rfl,⟨⟨x6,x7,x8,rfl⟩,fh,Rv,rY,ok,hi⟩,hb⟩
 have hle:=ok.le
 have A9:=ok.len
 have fin:∀M',M' a=some (.dk (st.1.map mf) (st.2.map Dv.str))->Keeps Γ.M0 M'->st=met step n most U.length s->jo Γ.M0 Q' (.ptr a) M':=fun M' h k e=>.inr ⟨k,lF st,.dk ha h rfl fun j d d' e1 e2=>by
  rw [e1] at e2;cases e2
  obtain ⟨w,_,rfl⟩:=sw.mp (c8 e1)
  exact .pin (.str w),by rw [e];exact q⟩
 have Kb:U.length+1 - i=(U.length - i)+1 :=by omega
 simp! only [fh,Rv]
 refine dj (fun h1=>?_) (fun h1=>?_)
 ·have bp:i<st.1.length :=by
   rcases Nat.lt_or_ge i st.1.length with h|h
   ·exact h
   ·rw [List.drop_eq_nil_of_le h] at h1;cases h1
  obtain ⟨k,hk⟩:∃k,st.1[i]?=some k:=⟨_,bi bp⟩
  obtain ⟨wd,Ba⟩:∃wd,st.2[i]?=some wd:=⟨_,bi (by omega)⟩
  have Kc:k∈U:=ok.sub k (c8 hk)
  refine dj (fun h2=>?_) (fun h2=>?_)
  ·have yx:st.1.length<=most :=by simpa using h2
   have R9:(st.1.drop i).length=st.1.length - i:=Uj
   have Rw:seqIndex? 0 (st.1.drop i).length=some 0:=(by unfold seqIndex?;simp;omega)
   have e0:((st.1.drop i).map Dv.int)[0]?=some (.int k) :=by rw [oJ hk];rfl
   simp only [Rw,e0]
   refine ⟨by decide,by decide,by omega,by omega,?_⟩
   have er:((st.1.drop i).map Dv.int).eraseIdx 0=(st.1.drop (i+1)).map Dv.int :=by rw [oJ hk];rfl
   simp only [er]
   refine bg (fun j ρ M=>(∃x7 x8,ρ=[some (.int s),some (.int (n:Nat)),some (.bU f o c oc vcs cm),some (.int (most:Nat)),some (.ptr a),some (.ptr qq),some (.int k),x7,x8])/\M a=some (.dk ((visit step k wd j st).1.map mf) ((visit step k wd j st).2.map Dv.str))/\M qq=some (.lst (((visit step k wd j st).1.drop (i+1)).map Dv.int))/\(∀b,b≠a->b≠qq->M b=Γ.M0 b)/\j<=n)
    ⟨⟨_,_,rfl⟩,by rw [ah (wn A8)];exact fh,updM_same,fun b h1 h2=>by rw [ah h2];exact rY b h1 h2,rb _⟩ (fun j d ρ M N hd ⟨⟨x7,x8,e1⟩,Bb,Bc,EI,gj⟩ hN=>?_) (fun ρ M ⟨⟨x7,x8,e1⟩,Bb,Bc,EI,gj⟩=>?_)
   ·subst e1
    obtain ⟨rfl,hj⟩:=bE hd
    obtain ⟨gk,gw,g1,g2⟩:=dZ step k wd j st
    have EJ:=ok.visit (n:=j) (step:=step) (met:=k) Ba fun b hb=>hU k Kc b (by omega)
    have SH:=EJ.le
    have Px:=EJ.len
    have NW:(visit step k wd j st).1[i]?=some k :=by rw [g1];exact da hk
    have NX:(visit step k wd j st).2[i]?=some wd :=by rw [g2];exact da Ba
    have oi:=i6 EJ.nd NW NX
    have D6:=EJ.wl i wd NX
    have Sj:i<(visit step k wd j st).1.length:=(bv.mp NW).1
    simp! only []
    refine ⟨rfl,k,j,rfl,Kc,hj,?_⟩
    simp! only [Bb,ju kJ,OR,jZ Px]
    have nx:∀{bS M'},(∃x7 x8,bS=[some (.int s),some (.int (n:Nat)),some (.bU f o c oc vcs cm),some (.int (most:Nat)),some (.ptr a),some (.ptr qq),some (.int k),x7,x8])->M' a=some (.dk ((visit step k wd (j+1) st).1.map mf) ((visit step k wd (j+1) st).2.map Dv.str))->M' qq=some (.lst (((visit step k wd (j+1) st).1.drop (i+1)).map Dv.int))->(∀b,b≠a->b≠qq->M' b=Γ.M0 b)->N bS M':=fun h1 h2 h3 h4=>hN _ _ ⟨h1,h2,h3,h4,hj⟩
    have vs:=dC step k wd j st
    refine dj (fun hm=>?_) (fun hm=>?_)
    ·have hm:step k j ∉ (visit step k wd j st).1 :=by simpa using hm
     have hv:visit step k wd (j+1) st=((visit step k wd j st).1++[step k j],(visit step k wd j st).2++[wd++kG j]) :=by rw [vs];unfold dm;rw [if_neg hm]
     obtain ⟨p1,p2⟩:=xg (κ:=Key) (k:=mf (step k j)) (d:=Dv.str (wd++kG j)) (ks:=(visit step k wd j st).1.map mf) (ds:=(visit step k wd j st).2.map Dv.str) (fun z=>hm ((vO kJ).mp z))
     simp only [oi,SI,Gb (show j<3 by omega)]
     refine ⟨by decide,by rw [show (⟨#[97+j]⟩:ba)=kG j from rfl,gW];omega,by omega,?_⟩
     rw [show (⟨#[97+j]⟩:ba)=kG j from rfl,p1,p2]
     simp only [ah A8,Bc]
     refine ⟨trivial,by simp only [cb,Uj];omega,nx ⟨_,_,rfl⟩ ?_ ?_ fun b h1 h2=>by rw [ah h2,ah h1];exact EI b h1 h2⟩
     ·rw [ah (wn A8),updM_same,hv,wv,wv];rfl
     ·rw [updM_same,hv]
      show some (Mo.lst (_++[_]))=_
      rw [List.drop_append_of_le_length (by omega),wv];rfl
    ·have hm:step k j∈(visit step k wd j st).1 :=by simpa using hm
     have hv:visit step k wd (j+1) st=visit step k wd j st :=by rw [vs];unfold dm;rw [if_pos hm]
     exact nx ⟨_,_,rfl⟩ (by rw [hv];exact Bb) (by rw [hv];exact Bc) EI
   ·subst e1
    have Rx:(cD 0 n).length=n:=rangeD_len 0 n
    rw [Rx] at Bb Bc gj
    have Ry:=ok.visit (n:=n) (step:=step) (met:=k) Ba fun b hb=>hU k Kc b hb
    obtain ⟨gk,gw,g1,g2⟩:=dZ step k wd n st
    refine ⟨U.length+1 - (i+1),by omega,i+1,visit step k wd n st,rfl,⟨⟨_,_,_,rfl⟩,Bb,Bc,EI,Ry,by rw [g1,tw];omega⟩,?_⟩
    rw [<- hb,Kb,kI hk Ba yx]
    rw [show U.length+1 - (i+1)=U.length - i by omega]
  ·refine fin M fh (NV rY) ?_
   have yx:¬ st.1.length<=most :=by simpa using h2
   rw [<- hb,Kb]
   unfold c7
   simp only [hk,Ba,if_neg yx]
 ·refine fin M fh (NV rY) ?_
  have h:st.1.length<=i :=by
   rcases Nat.lt_or_ge i st.1.length with h|h
   ·rw [oJ (bi h)] at h1;cases h1
   ·exact h
  rw [<- hb,Kb]
  unfold c7
  have e1:st.1[i]?=none:=Tk h
  simp only [e1]
end
section
def uV (st:mv):ci:=match bN st with | [.Return (some (.Call _ (_::_::l::_) _ _)) _]=>l|_=>.Constant .none 0 ⟨0,0,0,0⟩
def lP (st:mv):GS:=match uV st with | .Lambda p _ _ _=>p|_=>⟨[],[],none,[],[],none,[]⟩
def lB (st:mv):ci:=match uV st with | .Lambda _ b _ _=>b|e=>e
def lS (st:mv):uu:=match uV st with | .Lambda _ _ s _=>s|_=>ak st
variable {P:cr} {w:gc} {K:ar} {mg:ba->Option ag} {base:db} {tb:cu}
theorem qH:aM ["net","start"] ["net","start"] (ak az):=⟨rfl,rfl,rfl,by decide +kernel,rfl,by decide +kernel,by decide +kernel⟩
def qW:ba:=("first_words" ++ ".<locals>." : ba) ++ "<lambda>"
def ao (net:List (List Int)):List Int:=(on net.length).map fun i:Nat=>(i:Int)
def cg (net:List (List Int)) (p:Int) (a:Nat):Int:=(net.getD p.toNat []).getD a 0
theorem bA {net:List (List Int)} {p:Int}:p∈ao net ↔ 0<=p/\p<(net.length:Int) :=by
 unfold ao
 rw [sw]
 constructor
 ·rintro ⟨i,hi,rfl⟩
  have:=LH.mp hi
  omega
 ·rintro ⟨h1,h2⟩
  exact ⟨p.toNat,LH.mpr (by omega),by omega⟩
theorem getD_at {α:Type} {l:List α} {i:Nat} {d:α} (h:i<l.length):l.getD i d=l[i] :=by rw [wS,bi h];rfl
theorem eT {net:List (List Int)} {n:Nat} (o:aT net n) {p:Int} (hp:p∈ao net) {a:Nat} (ha:a<n):cg net p a∈ao net :=by
 obtain ⟨h1,h2⟩:=bA.mp hp
 have bp:p.toNat<net.length :=by omega
 obtain ⟨e1,e2⟩:=o.row net[p.toNat] (ss bp)
 unfold cg
 rw [getD_at bp,getD_at (by omega)]
 exact bA.mpr (e2 _ (ss _))
theorem Bd {net:List (List Int)} {p:Int} (hp:p∈ao net):cj (net.map eI) p=some (eI (net.getD p.toNat [])) :=by
 obtain ⟨h1,h2⟩:=bA.mp hp
 have bp:p.toNat<net.length :=by omega
 have e:p=((p.toNat:Nat):Int) :=by omega
 rw [e]
 refine cE ?_
 rw [br,ut,wS,bi bp]
 rfl
theorem Kd {net:List (List Int)} {n:Nat} (o:aT net n) {p:Int} (hp:p∈ao net) {a:Nat} (ha:a<n):cj ((net.getD p.toNat []).map Dv.int) ((a:Nat):Int)=some (.int (cg net p a)) :=by
 obtain ⟨h1,h2⟩:=bA.mp hp
 have bp:p.toNat<net.length :=by omega
 have e1:=(o.row net[p.toNat] (ss bp)).1
 refine cE ?_
 unfold cg
 rw [br,getD_at bp,getD_at (by omega),bi (by omega)]
 rfl
theorem pS:lr ["place","at"] ["net"] (lS az):=⟨rfl,rfl,rfl,by decide +kernel,by decide +kernel,by decide +kernel,by decide +kernel⟩
theorem uW {f c:ac} {fd:im} {o oc:ii} {aP:List (ba×ac)} {vcs:List V} (L:yp (lP az) (lB az) (lS az) qW o c oc aP fd) (C:qC base ["net"] aP vcs) (fR:vcs.length=1) {net:List (List Int)} {n:Nat} (O:aT net n) :
  FnOk P w K mg base bL 1 f fd ["place","at"] (EB P w K tb f o c oc vcs (A7 [eN net] (cg net) (ao net) n)) :=by
 refine Ph L pS C fR (fun cm ds M Q E hS=>by obtain ⟨_,p,a,e,_⟩:=hS;rw [e];rfl) fun A outer s E Γ cm ds Q' E' hP hw hK ht hr hS=>?_
 obtain ⟨e0,p,a,e,hp,ha,q⟩:=hS
 refine ⟨_,(bH (cB (K:=K) rfl) (bH (cB (K:=K) rfl) (qv 2) (qv 0) (fun _ _=>rfl)) (qv 1) (fun _ _=>rfl)),?_⟩
 subst e e0
 simp! only [Bd hp,Kd O hp ha]
 exact .inl q
theorem nR:∀n,(n,r6)∈(lS az).names->(ak az).names.lookup n=some .cell\/(ak az).names.lookup n=some .free :=by
 have h:∀y∈(lS az).names,y.2=r6->(ak az).names.lookup y.1=some .cell :=by decide +kernel
 exact fun n hn=>.inl (h _ hn rfl)
theorem pT:∀(j:Nat) (n:ba),(["net"]:List ba)[j]?=some n->(n,r6)∈(lS az).names/\(ak az).names.lookup n=some .cell/\∃i,([0]:List Nat)[j]?=some i/\(["net","start"]:List ba)[i]?=some n:=fun j n h=>by
 cases j with
 |zero=>cases h;exact ⟨by decide +kernel,by decide +kernel,0,rfl,rfl⟩
 |succ j=>simp at h
def bM (net:List (List Int)) (n:Nat) (s:Int):List Int×List ba:=met (cg net) n 511 net.length s
def pU:bZ:=fun ds M Q _=>∃net n s,ds=[eN net,.int s]/\aT net n/\s∈ao net/\Q (lF (bM net n s)) M
theorem qI {f f1:ac} {fd bC:im} {mj aG:ac} {tk0:Tz} (D:Df K mg "first_words" az ["net","start"] f fd) (fF:tZ base fd mj aG) (di:∃bm ob,SX base mainGlobals mg bm ob)
  (il:(aG,qW)∈tb.l) (JR:∀q∈tb.l,q.1=aG->q.2=qW) (eE:EA K mg "first_met" ia ["start","width","step","most"] [.int 511 tk0] f1 bC) (bl:Bl mg) {tk:Tz} (dq:mg "SIGNS" = some (.str "abc" tk)) :
  FnOk P w K mg base bL 8 f fd ["net","start"] (aR P w K tb pU) :=by
 refine gA D qH (fun ds M Q E hS=>by obtain ⟨net,n,s,e,_⟩:=hS;rw [e];rfl) fun A outer s0 E Γ ds Q' E' hP hw hK ht hr hS=>?_
 obtain ⟨net,n,s,e,O,hs,q⟩:=hS
 have gG:(aG,qW)∈Γ.tb.l:=ht▸il
 have gH:∀q∈Γ.tb.l,q.1=aG->q.2=qW:=ht▸JR
 have vP:∀b',(∀b o,base.get? b=some o->b'.get? b=some o)->FnOk P w K mg b' bL 7 f1 bC ["start","width","step","most"] (aR P w K tb (xh P w K mg tb b')):=fun b' _=>uU eE bl dq
 have uX:Vals [V.int 511] [Us 511 tk0]:=.cons ⟨_,rfl⟩ .nil
 have uY:∀(β:Bz) (M:Mh) (H:Hp),aF β M H [V.int 511] [Dv.int 511]:=fun _ _ _=>.cons (.int _) .nil
 refine ⟨_,(aq (a9 (yq (idx:=[0]) (fs:=["net"]) fF.code fF.hd di rfl (nR) (pT) gG gH vP (hr.mono (by decide)) (fun _=>rfl) rfl eE.mg eE.kp eE.bd (uX) (uY) b5 hP hw hK ht XR.none (qv 1) (ay (bP (K:=K) rfl hK) rfl bl.len_ kw (aa (bH (cB (K:=K) rfl) (qv 0) av (fun _ _=>rfl)) ae)) ae))),?_⟩
 subst e
 obtain ⟨h1,h2⟩:=bA.mp hs
 have h0:(0:Int)∈ao net:=bA.mpr ⟨by omega,by omega⟩
 have Ke:(net.getD 0 []).length=n :=by
  have:=O.one
  rw [getD_at (by omega)]
  exact (O.row _ (ss _)).1
 have RA:=O.wid
 simp! only [uP,pP,Bd h0,Int.toNat_zero,Ke]
 intro lf o c oc aP vcs lv hO b' hb hC
 obtain ⟨RB,xI,⟨iJ,rfl⟩,dG⟩:=hO
 have L:yp (lP az) (lB az) (lS az) qW (IT "<lambda>" qW (lP az) (lB az) (lS az) aP ((mg "__name__").getD .none) c iJ) c oc aP (PySem.W.kla_fn "<lambda>" qW (lP az) (lB az) (lS az) aP ((mg "__name__").getD .none) (.ref c) iJ):=⟨xI,⟨_,_,_,rfl,rfl⟩,dG⟩
 refine ⟨s,cg net,ao net,n,511,lf,_,_,c,oc,vcs,[eN net],["place","at"],rfl,(uW L hC lv O).mono (by decide),⟨_,_,_,_,rfl⟩,.all fun us hl=>?_,by omega,hs,fun k hk a ha=>eT O hk ha,?_,.inl ?_⟩
 ·match us,hl with
  | [_,_],_=>rfl
 ·have:=O.nine
  simp only [ao,cb,ET]
  omega
 ·rw [show (ao net).length=net.length by simp [ao]]
  exact q
end
section
variable {P:cr} {w:gc} {K:ar} {mg:ba->Option ag} {base:db} {tb:cu} {k:Nat} {f:ac} {fd:im} {ps:List ba}
theorem dF:aM ["_law_script","_law_at","_law_cell","_law_mix","_law_k"] ["_law_script","_law_at"] (ak iV):=⟨rfl,rfl,rfl,by decide +kernel,rfl,by decide +kernel,by decide +kernel⟩
theorem dO:aM ["_law_bag_here","_law_many","_law_digit","_law_number","_law_room"] ["_law_bag_here","_law_many"] (ak fx):=⟨rfl,rfl,rfl,by decide +kernel,rfl,by decide +kernel,by decide +kernel⟩
theorem fG:aM ["_law_bag_here","_law_many","_law_rest","_law_found","_law_k"] ["_law_bag_here","_law_many"] (ak gE):=⟨rfl,rfl,rfl,by decide +kernel,rfl,by decide +kernel,by decide +kernel⟩
theorem bD:aM ["_law_bag_here","_law_most","_law_many","_law_fans","_law_kind","_law_lap","_law_order_here","_law_rows","_law_k","_law_goals","_law_fan"] ["_law_bag_here","_law_most"] (ak d9):=⟨rfl,rfl,rfl,by decide +kernel,rfl,by decide +kernel,by decide +kernel⟩
def Kf:bZ:=fun ds M Q _=>∃(ns:List Int) (t:Int),ds=[.bj ns,.int t]/\ns.length<=63/\0<=t/\t<=63/\∀b,M b=none->Q (.ptr b) (au M b .c6)
def EK:bZ:=fun ds M Q _=>∃(ns:List Int) (t:Int),ds=[.bj ns,.int t]/\ns.length<=63/\0<=t/\t<=63/\∀b c m,M b=none->0<=c->0<=m->Q (.ptr b) (au M b (.lst [.int c,.int m]))
theorem yy (D:Df K mg "_law_bag" iV ["_law_script","_law_at"] f fd) (bl:Bl mg):FnOk P w K mg base bL 1 f fd ["_law_script","_law_at"] (aR P w K tb EK) :=by
 refine gA D dF (fun ds M Q E hS=>by obtain ⟨ns,t,e,_⟩:=hS;rw [e];rfl) fun A outer s E Γ ds Q' E' hP hw hK ht hr hS=>?_
 obtain ⟨ns,t,e,hl,t0,t1,q⟩:=hS
 refine ⟨_,(ai (aJ (i:=2) dF.nd rfl (l6 rfl) av)
  (ai (cw (bt yh (qv 1) (ay (bP (K:=K) rfl hK) rfl bl.len_ kw (aa (qv 0) ae)) (bB _))
   (aq (aJ (i:=2) dF.nd rfl (l6 rfl) (ay yk rfl bl.abs_ tY (aa (bH (EG (K:=K) rfl hK) (qv 0) (qv 1) (fun _ _=>rfl)) ae))))
   qss_nil)
  (ai (aJ (i:=3) dF.nd rfl (l6 rfl) (a8 fD (a8 k8 av (qv 1)) av))
  (ai (cc ma rfl (bw rfl bl.range_ (aa (ay (uF rfl) rfl bl.min_ pj (aa (ay (bP (K:=K) rfl hK) rfl bl.len_ kw (aa (qv 0) ae)) (aa av ae))) ae)) (fun fX eP ew eK et=>by have hP:=hP.trans eP.symm;have hw:=hw.trans ew.symm;have hK:=hK.trans eK.symm;have ht:=ht.trans et.symm;exact ⟨(aN (i:=4) dF.nd rfl (l6 rfl)),(aq (aJ (i:=3) dF.nd rfl (l6 rfl) (a8 gz (a8 fD (a8 fD (a8 k8 (qv 3) av) (a8 gz (bH (EG (K:=K) rfl hK) (qv 0) (qv 4) (fun _ _=>rfl)) av)) (qv 4)) av)))⟩))
  (ai (cw (bt yh (qv 2) (a8 L6 av av) (bB _))
   (aq (aJ (i:=2) dF.nd rfl (l6 rfl) av))
   qss_nil)
  (aq (a9 (ku (aa (qv 2) (aa (qv 3) ae)))))))))),?_⟩
 subst e
 refine Mj (fun ρ M=>M=Γ.M0/\∃c m x:Int,∃x4,0<=c/\0<=m/\ρ=[some (.bj ns),some (.int t),some (.int c),some (.int m),x4]) (fun N hN=>?_) ?_
 ·refine yt (fun ρ M=>M=Γ.M0/\∃c:Int,0<=c/\ρ=[some (.bj ns),some (.int t),some (.int c),none,none]) (fun N hN=>?_) ?_
  ·simp! only []
   refine dj (fun h=>?_) (fun _=>hN _ _ ⟨rfl,0,by omega,rfl⟩)
   have ht:t<(ns.length:Int):=of_decide_eq_true h
   obtain ⟨k,rfl⟩:=Ch t0
   rw [Au (show k<ns.length by omega)]
   exact hN _ _ ⟨rfl,_,by split <;> omega,rfl⟩
  rintro ρ M ⟨rfl,c,hc,rfl⟩
  simp! only []
  refine ⟨.inl ⟨by decide,by decide⟩,by split <;> omega,by split <;> omega,?_⟩
  refine bg (fun i ρ M=>M=Γ.M0/\∃m:Int,∃x4,0<=m/\ρ=[some (.bj ns),some (.int t),some (.int c),some (.int m),x4]) ⟨rfl,_,_,by omega,rfl⟩ (fun i d ρ M N2 hd hJ ix=>?_) (fun ρ M hJ=>?_)
  ·obtain ⟨rfl,m,x4,hm,rfl⟩:=hJ
   obtain ⟨rfl,hi⟩:=bE hd
   have hi:i<ns.length :=by split at hi <;> omega
   simp! only [Au hi]
   exact ⟨.inr ⟨by decide,by decide⟩,by decide,by decide,ix _ _ ⟨rfl,_,_,Tx _ (by decide),rfl⟩⟩
  ·obtain ⟨rfl,m,x4,hm,rfl⟩:=hJ
   exact hN _ _ ⟨rfl,c,m,0,x4,hc,hm,rfl⟩
 ·rintro ρ M ⟨rfl,c,m,x,x4,hc,hm,rfl⟩
  simp! only []
  exact ⟨⟨by decide,by decide,by decide⟩,dj (fun _=>⟨by decide,fun a ha=>.inl (q a 0 m ha (by omega) hm)⟩) (fun _=>⟨by decide,fun a ha=>.inl (q a c m ha hc hm)⟩)⟩
theorem Mm (G:FnOk P w K mg base bL k f fd ps (aR P w K tb EK)):FnOk P w K mg base bL k f fd ps (aR P w K tb Kf):=G.imp fun vs H Q E hS=>by
 obtain ⟨β,ds,M,Q',E',eP,ew,eK,et,m,rs,⟨ns,t,e,h1,h2,h3,h⟩,q,qe⟩:=hS
 refine ⟨β,ds,M,fun d M'=>∃b c m,d=.ptr b/\M b=none/\0<=c/\0<=m/\M'=au M b (.lst [.int c,.int m]),fun _ _=>False,eP,ew,eK,et,m,rs,⟨ns,t,e,h1,h2,h3,fun b c m h4 h5 h6=>⟨b,c,m,rfl,h4,h5,h6,rfl⟩⟩,fun d M' v H' x r hQ=>?_,fun _ _ _ _ h=>h.elim⟩
 obtain ⟨b,c,m',rfl,hb,hc,hm,rfl⟩:=hQ
 have hB:=AY x.mz hc hm
 exact q _ _ _ _ (Ex.sealed hb x hB) (r.dom (i5 M b _ _)) (h b hb)
def yz:bZ:=fun ds M Q _=>∃(b:ac) (n:Int),ds=[.ptr b,.int n]/\M b=some .c6/\1<=n/\n<1073741824/\∀d:Nat,(d:Int)<n->Q (.int (d:Nat)) M
def Be:bZ:=fun ds M Q _=>∃(b:ac) (n c m:Int),ds=[.ptr b,.int n]/\M b=some (.lst [.int c,.int m])/\0<=c/\0<=m/\1<=n/\n<1073741824/\∀(d:Nat) (c m:Int),(d:Int)<n->0<=c->0<=m->Q (.int (d:Nat)) (au M b (.lst [.int c,.int m]))
theorem vQ (D:Df K mg "_law_take" fx ["_law_bag_here","_law_many"] f fd):FnOk P w K mg base bL 1 f fd ["_law_bag_here","_law_many"] (aR P w K tb Be) :=by
 refine gA D dO (fun ds M Q E hS=>by obtain ⟨b,n,c,m,e,_⟩:=hS;rw [e];rfl) fun A outer s E Γ ds Q' E' hP hw hK ht hr hS=>?_
 obtain ⟨b,n,c,m,e,hb,hc,hm,n1,n2,q⟩:=hS
 refine ⟨_,(ai (cw (bt uC (bH (cB (K:=K) rfl) (qv 0) av (fun _ _=>rfl)) av (bB _))
   (ai (aJ (i:=2) dO.nd rfl (l6 rfl) (a8 gz (bH (cB (K:=K) rfl) (qv 0) av (fun _ _=>rfl)) (qv 1)))
  (ai (mQ (a8 uB (bH (cB (K:=K) rfl) (qv 0) av (fun _ _=>rfl)) (qv 1)) (mX (qv 0) av))
  (aq (a9 (qv 2)))))
   qss_nil)
  (ai (aJ (i:=3) dO.nd rfl (l6 rfl) av)
  (ai (aJ (i:=4) dO.nd rfl (l6 rfl) av)
  (ai (oB ma (bt yh (qv 4) (qv 1) (bB _))
   (ai (mQ (a8 gz (a8 fD (a8 k8 (bH (cB (K:=K) rfl) (qv 0) av (fun _ _=>rfl)) av) av) av) (mX (qv 0) av))
  (ai (aJ (i:=3) dO.nd rfl (l6 rfl) (a8 fD (a8 k8 (qv 3) av) (a8 gz (a8 k8 (a8 uB (bH (cB (K:=K) rfl) (qv 0) av (fun _ _=>rfl)) av) av) av)))
  (aq (aJ (i:=4) dO.nd rfl (l6 rfl) (a8 k8 (qv 4) av))))))
  (aq (a9 (a8 gz (qv 3) (qv 1)))))))),?_⟩
 subst e
 have RC:∀x y:Int,cj [Dv.int x,Dv.int y] 1=some (.int y):=fun x y=>cE (j:=1) rfl
 have RD:gd 2 0=some 0:=rfl
 have RE:gd 2 1=some 1:=rfl
 have fin:∀{i c m:Int} {M:Mh},0<=c->0<=m->M=au Γ.M0 b (.lst [.int c,.int m])->jo Γ.M0 Q' (.int (i % n)) M:=fun {i c m M} hc hm e=>by
  obtain ⟨d,hd⟩:=Ch (Tx i (show n≠0 by omega))
  have:=Int.emod_lt_of_pos i (show 0<n by omega)
  rw [hd,e]
  exact .inl (q d c m (by omega) hc hm)
 simp! only [hb,RD]
 refine dj (fun h=>?_) (fun h=>?_)
 ·refine ⟨by omega,⟨by omega,n2⟩,fin (Int.ediv_nonneg hc (by omega)) hm rfl⟩
 ·refine ⟨fun k ρ M=>∃num room c m x2,0<=num/\1<=room/\0<=c/\0<=m/\k=(n - room).toNat/\ρ=[some (.ptr b),some (.int n),x2,some (.int num),some (.int room)]/\M=au Γ.M0 b (.lst [.int c,.int m]),⟨_,0,1,c,m,_,by omega,by omega,hc,hm,rfl,rfl,(xf hb).symm⟩,?_⟩
  rintro k ρ M ⟨num,room,c,m,x2,h1,h2,hc,hm,rfl,rfl,rfl⟩
  simp! only [RC,RE,updM_same]
  refine dj (fun h=>?_) (fun h=>⟨by omega,fin hc hm rfl⟩)
  have h:=of_decide_eq_true h
  have m3:0<=(m * 48271+7919) % 2147483647:=Tx _ (by decide)
  have n3:0<=(m * 48271+7919) % 2147483647 / 8 * 69621 % 1073741789:=Tx _ (by decide)
  refine ⟨.inr ⟨by decide,by decide⟩,by decide,.inr ⟨by decide,by decide⟩,⟨by decide,by decide⟩,.inr ⟨by decide,by decide⟩,by decide,.inr ⟨by decide,by decide⟩,_,?_,_,_,c,_,_,?_,?_,hc,m3,rfl,rfl,rfl⟩ <;> omega
theorem Kg (G:FnOk P w K mg base bL k f fd ps (aR P w K tb Be)):FnOk P w K mg base bL k f fd ps (aR P w K tb yz):=G.imp fun vs H Q E hS=>by
 obtain ⟨β,ds,M,Q',E',eP,ew,eK,et,m,rs,⟨b,n,e,hb,h1,h2,h⟩,q,qe⟩:=hS
 have eM:=xf hb
 have d1:∀o a,(M a).isSome=(au M b o a).isSome:=fun o a=>by have:=i5 M b .c6 o a;rwa [eM] at this
 rw [<- eM] at m
 obtain ⟨c,m0,hc,hm,hO⟩:=JY m
 refine ⟨β,ds,au M b (.lst [.int c,.int m0]),fun d M'=>∃(k:Nat) (c' m':Int),d=.int (k:Nat)/\(k:Int)<n/\0<=c'/\0<=m'/\M'=au M b (.lst [.int c',.int m']),fun _ _=>False,eP,ew,eK,et,m.chg hO,⟨rs.len,fun i v d x y=>(rs.at' i v d x y).dom (d1 _)⟩,⟨b,n,c,m0,e,updM_same,hc,hm,h1,h2,fun d c' m' h3 h4 h5=>⟨d,c',m',rfl,h3,h4,h5,updM_updM⟩⟩,fun d M' v H' x r hQ=>?_,fun _ _ _ _ h=>h.elim⟩
 obtain ⟨k,c',m',rfl,hk,DZ,pf,rfl⟩:=hQ
 have hB:=AY x.mz DZ pf
 have x2:=Ex.chg (o2:=.c6) x hB
 rw [eM] at x2
 exact q _ _ _ _ x2 (r.dom fun a=>(d1 _ a).symm) (h k hk)
theorem rZ {α β:Type} (f:α->β):∀(l:List α) (i:Nat),(l.map f).eraseIdx i=(l.eraseIdx i).map f
 | [],_=>rfl
 |_::_,0=>rfl
 |a::l,i+1=>by
          show f a::(l.map f).eraseIdx i=f a::(l.eraseIdx i).map f
          rw [rZ f l i]
theorem eV {α:Type}:∀(l:List α) (i:Nat) (h:i<l.length),(l[i]::l.eraseIdx i).Perm l
 |a::l,0,_=>.refl _
 |a::l,i+1,h=>by
          have h':i<l.length :=by simpa using h
          show (l[i]::a::l.eraseIdx i).Perm (a::l)
          exact (Ti.swap a l[i] _).trans ((eV l i h').cons a)
structure de (n:Nat) (os:List Int):Prop where
 perm:os.Perm ((on n).map fun i:Nat=>(i:Int))
theorem de.len {n:Nat} {os:List Int} (h:de n os):os.length=n :=by
 have:=h.perm.length_eq
 simpa using this
theorem de.mem {n:Nat} {os:List Int} (h:de n os) {x:Int} (hx:x∈os):0<=x/\x<n :=by
 have:=h.perm.mem_iff.mp hx
 obtain ⟨i,hi,rfl⟩:=sw.mp this
 have:=LH.mp hi
 omega
theorem de.at {n:Nat} {os:List Int} (h:de n os) {i:Nat} (hi:i<n):∃x:Int,cj (os.map Dv.int) (i:Int)=some (.int x)/\0<=x/\x<n :=by
 have hl:i<os.length :=by rw [h.len];exact hi
 exact ⟨os[i],cE (by rw [br,bi hl];rfl),h.mem (ss hl)⟩
def Bf:bZ:=fun ds M Q _=>∃(b:ac) (n:Nat),ds=[.ptr b,.int (n:Nat)]/\M b=some .c6/\n<=100/\∀os,de n os->Q (gC os) M
def EL:bZ:=fun ds M Q _=>∃(b:ac) (most:Nat),ds=[.ptr b,.int (most:Nat)]/\M b=some .c6/\1<=most/\most<=9/\∀net n,aT net n->net.length<=most->Q (eN net) M
theorem Gg {n d:Nat} (h:d<n):seqIndex? (d:Int) n=some d:=(qj (n:=n) (i:=(d:Int)) (j:=d) (by unfold gd;rw [if_pos (by omega),if_pos (by omega)];rfl)).1
theorem uZ {f1:ac} {bC:im} (D:Df K mg "_law_order" gE ["_law_bag_here","_law_many"] f fd)
  (aC:Df K mg "_law_take" fx ["_law_bag_here","_law_many"] f1 bC) (cM:FnOk P w K mg base bL 1 f1 bC ["_law_bag_here","_law_many"] (aR P w K tb yz)) (bl:Bl mg):FnOk P w K mg base bL 2 f fd ["_law_bag_here","_law_many"] (aR P w K tb Bf) :=by
 refine gA D fG (fun ds M Q E hS=>by obtain ⟨b,n,e,_⟩:=hS;rw [e];rfl) fun A outer s E Γ ds Q' E' hP hw hK ht hr hS=>?_
 obtain ⟨b,n,e,hb,hn,q⟩:=hS
 refine ⟨_,(ai (aJ (i:=2) fG.nd rfl (l6 rfl) (sH rfl rfl bl.list_ rfl bl.range_ (qv 1)))
  (ai (aJ (i:=3) fG.nd rfl (l6 rfl) (ku ae))
  (ai (cc ma rfl (bw rfl bl.range_ (aa (qv 1) ae)) (fun fX eP ew eK et=>by have hP:=hP.trans eP.symm;have hw:=hw.trans ew.symm;have hK:=hK.trans eK.symm;have ht:=ht.trans et.symm;exact ⟨(aN (i:=4) fG.nd rfl (l6 rfl)),(aq (c9 (la (K:=K) rfl Cf Nl No lb (qv 3) (aa (la (K:=K) rfl Cf PySem.F.slot_list_pop PySem.F.type_list_pop wX (qv 2) (aa (aE cM (hr.mono (by decide)) rfl aC.mg aC.fn.kp aC.bd b5 hP hw hK ht XR.none (aa (qv 0) (aa (ay (bP (K:=K) rfl hK) rfl bl.len_ kw (aa (qv 2) ae)) ae))) ae)) ae))))⟩))
  (aq (a9 (qv 3)))))),?_⟩
 subst e
 have big:(1000:Nat)<sizeLine :=by decide
 simp! only []
 refine ⟨by omega,by omega,fun a ha=>⟨by omega,fun c hc=>⟨by omega,by omega,?_⟩⟩⟩
 have ER:c≠a:=fun z=>by rw [z,updM_same] at hc;cases hc
 have pN:Γ.M0 c=none :=by rw [ah ER] at hc;exact hc
 have RG:b≠a:=fun z=>by rw [z,ha] at hb;cases hb
 have RH:b≠c:=fun z=>by rw [z,pN] at hb;cases hb
 refine bg (fun i ρ M=>∃rest got:List Int,(∃x,ρ=[some (.ptr b),some (.int (n:Nat)),some (.ptr a),some (.ptr c),x])/\M a=some (.lst (rest.map .int))/\M c=some (.lst (got.map .int))/\(∀d,d≠a->d≠c->M d=Γ.M0 d)/\got.length=i/\(got++rest).Perm ((on n).map fun i:Nat=>(i:Int)))
  ⟨(on n).map fun i:Nat=>(i:Int),[],⟨_,rfl⟩,by rw [ah (wn ER),updM_same,iF,xz];rfl,updM_same,fun d h1 h2=>by rw [ah h2,ah h1],rfl,.refl _⟩ (fun i d ρ M N hd hJ hN=>?_) (fun ρ M hJ=>?_)
 ·obtain ⟨rest,got,⟨x,rfl⟩,fh,gO,rY,hg,pm⟩:=hJ
  obtain ⟨rfl,hi⟩:=bE hd
  have hlen:got.length+rest.length=n :=by have:=pm.length_eq;simpa using this
  simp! only [fh,gO]
  refine ⟨b,_,rfl,(by rw [rY b RG RH];exact hb),by omega,by omega,fun d hd=>?_⟩
  have rG:d<rest.length :=by omega
  simp only [fh,cb,Gg rG,br,bi rG,SI,ah ER,gO]
  refine ⟨by omega,by omega,by omega,hN _ _ ⟨rest.eraseIdx d,got++[rest[d]],⟨_,rfl⟩,by rw [ah (wn ER),updM_same,rZ],by rw [updM_same,wv];rfl,fun e h1 h2=>by rw [ah h2,ah h1];exact rY e h1 h2,by simp [hg],?_⟩⟩
  refine Ti.trans ?_ pm
  rw [ES]
  exact Ti.append_left got (eV rest d rG)
 ·obtain ⟨rest,got,⟨x,rfl⟩,fh,gO,rY,hg,pm⟩:=hJ
  rw [rangeD_len] at hg
  have hlen:got.length+rest.length=n :=by have:=pm.length_eq;simpa using this
  have Ke:rest=[]:=OP (by omega)
  rw [Ke,Co] at pm
  exact Aw (fun d o e=>by rw [rY d (fun z=>by rw [z,ha] at e;cases e) (fun z=>by rw [z,pN] at e;cases e)];exact e) pN gO (jq _) (q got ⟨pm⟩)
end
section
variable {P:cr} {w:gc} {K:ar} {mg:ba->Option ag} {base:db} {tb:cu}
def iW (n ways:Nat) (row:List Int):Prop:=row.length=ways/\∀x∈row,0<=x/\x<(n:Int)
structure eZ (M0 M:Mh) (r:ac) (as:List ac) (n ways:Nat):Prop where
 kp:Keeps M0 M
 r0:M0 r=none
 rm:M r=some (.lst (as.map .ptr))
 fr:∀a∈as,M0 a=none/\a≠r
 len:as.length=n
 row:∀a∈as,∃row:List Int,M a=some (.lst (row.map .int))/\iW n ways row
 pin:∀b o,M b=some o->M0 b=some o\/b=r\/(∃row:List Int,o=.lst (row.map .int))\/∃bs:List ac,o=.lst (bs.map .ptr)/\∀c∈bs,c≠r/\∃o,M c=some o
theorem eZ.t8 {M0 M:Mh} {r:ac} {as:List ac} {n ways:Nat} (h:eZ M0 M r as n ways) {a:ac} (ha:a∈as) {row:List Int} (o:iW n ways row):eZ M0 (au M a (.lst (row.map .int))) r as n ways :=by
 obtain ⟨f0,f1⟩:=h.fr a ha
 refine ⟨.upd f0 h.kp,h.r0,by rw [ah (wn f1)];exact h.rm,h.fr,h.len,fun c hc=>?_,fun b u e=>?_⟩
 ·by_cases z:c=a
  ·subst z;exact ⟨row,updM_same,o⟩
  ·rw [ah z];exact h.row c hc
 ·by_cases z:b=a
  ·subst z;rw [updM_same] at e;cases e;exact .inr (.inr (.inl ⟨row,rfl⟩))
  ·rw [ah z] at e
   rcases h.pin b u e with q|q|q|⟨bs,q1,q2⟩
   ·exact .inl q
   ·exact .inr (.inl q)
   ·exact .inr (.inr (.inl q))
   ·refine .inr (.inr (.inr ⟨bs,q1,fun c hc=>⟨(q2 c hc).1,?_⟩⟩))
    by_cases z:c=a
    ·subst z;exact ⟨_,updM_same⟩
    ·rw [ah z];exact (q2 c hc).2
theorem eZ.put {M0 M:Mh} {r:ac} {as:List ac} {n ways:Nat} (h:eZ M0 M r as n ways) {a:ac} (ha:M a=none) {row:List Int} (o:iW n ways row) {i:Nat} (hi:i<n):eZ M0 (au (au M a (.lst (row.map .int))) r (.lst ((as.map .ptr).set i (.ptr a)))) r (as.set i a) n ways :=by
 have nr:a≠r:=fun z=>by rw [z,h.rm] at ha;cases ha
 have a0:M0 a=none :=by
  cases e:M0 a with
  |none=>rfl
  |some u=>rw [h.kp a u e] at ha;cases ha
 have RJ:a ∉ as:=fun z=>by obtain ⟨row,e,_⟩:=h.row a z;rw [ha] at e;cases e
 refine ⟨.upd h.r0 (.upd a0 h.kp),h.r0,by rw [updM_same,List.map_set],fun c hc=>?_,by rw [SB];exact h.len,fun c hc=>?_,fun b u e=>?_⟩
 ·rcases SS hc with z|z
  ·exact h.fr c z
  ·rw [z];exact ⟨a0,nr⟩
 ·rcases SS hc with z|z
  ·have n1:=(h.fr c z).2
   have n2:c≠a:=fun e=>RJ (e▸z)
   rw [ah n1,ah n2];exact h.row c z
  ·rw [z,ah nr,updM_same];exact ⟨row,rfl,o⟩
 ·by_cases z:b=r
  ·exact .inr (.inl z)
  ·rw [ah z] at e
   by_cases z2:b=a
   ·subst z2;rw [updM_same] at e;cases e;exact .inr (.inr (.inl ⟨row,rfl⟩))
   ·rw [ah z2] at e
    rcases h.pin b u e with q|q|q|⟨bs,q1,q2⟩
    ·exact .inl q
    ·exact .inr (.inl q)
    ·exact .inr (.inr (.inl q))
    ·refine .inr (.inr (.inr ⟨bs,q1,fun c hc=>⟨(q2 c hc).1,?_⟩⟩))
     rw [ah (q2 c hc).1]
     by_cases z:c=a
     ·subst z;exact ⟨_,updM_same⟩
     ·rw [ah z];exact (q2 c hc).2
structure oK (M0 M:Mh):Prop where
 kp:Keeps M0 M
 pin:∀b o,M b=some o->M0 b=some o\/(∃row:List Int,o=.lst (row.map .int))\/∃bs:List ac,o=.lst (bs.map .ptr)/\∀c∈bs,∃o,M c=some o
theorem oK.refl {M0:Mh}:oK M0 M0:=⟨.refl,fun b o e=>.inl e⟩
theorem iX {M0 M:Mh} (h:Keeps M0 M) {a:ac} (ha:M a=none):M0 a=none :=by
 cases e:M0 a with
 |none=>rfl
 |some u=>rw [h a u e] at ha;cases ha
theorem oK.row {M0 M:Mh} (h:oK M0 M) {a:ac} (ha:M a=none) (row:List Int):oK M0 (au M a (.lst (row.map .int))) :=by
 refine ⟨.upd (iX h.kp ha) h.kp,fun b o e=>?_⟩
 by_cases z:b=a
 ·subst z;rw [updM_same] at e;cases e;exact .inr (.inl ⟨row,rfl⟩)
 ·rw [ah z] at e
  rcases h.pin b o e with q|q|⟨bs,q1,q2⟩
  ·exact .inl q
  ·exact .inr (.inl q)
  ·refine .inr (.inr ⟨bs,q1,fun c hc=>?_⟩)
   by_cases z:c=a
   ·subst z;exact ⟨_,updM_same⟩
   ·rw [ah z];exact q2 c hc
theorem Sa {g:cS} {te:aH} {n:Nat} {M1:Mh} (T:aA->Prop) {ds:List Dv} {τ:aA} {Q:List Dv->Mh->Prop} (h0:T τ) (h:∀d∈ds,∀τ,T τ->∀R:aA->ZK,(∀(x:Int) aD,0<=x->x<(n:Int)->T aD->R aD (.int x) M1)->g d τ M1 fun aD M2=>te aD M2 (R aD)) (q:∀row:List Int,row.length=ds.length->(∀x∈row,0<=x/\x<(n:Int))->Q (row.map .int) M1):fj g zNoIf te ds τ M1 Q :=by
 refine lC (acc:=[]) (fun acc τ M=>∃row:List Int,acc=row.map Dv.int/\(∀x∈row,0<=x/\x<(n:Int))/\T τ/\M=M1) ⟨[],rfl,(fun _ h=>nomatch h),h0,rfl⟩ (fun i d acc τ M hd _ ⟨row,e1,hr,ht,e2⟩ R hR=>?_) (fun ys τ M hl ⟨row,e1,hr,ht,e2⟩=>?_)
 ·subst e1 e2
  refine h d (c8 hd) τ ht R fun x aD x0 x1 t2=>hR _ _ _ ⟨row++[x],by rw [wv];rfl,fun y hy=>?_,t2,rfl⟩
  rcases tz.mp hy with z|z
  ·exact hr y z
  ·rw [li] at z;rw [z];exact ⟨x0,x1⟩
 ·rw [IR] at e1
  subst e1 e2
  exact q row (by simpa using hl) hr
def aZ (x:Option Dv):Prop:=∀M d,x=some d->Pin M d
theorem aZ.none:aZ none:=fun _ _ h=>nomatch h
theorem aZ.int (i:Int):aZ (some (.int i)):=fun _ _ h=>by cases h;exact .int i
theorem aZ.lI (ns:List Int):aZ (some (gC ns)):=fun _ _ h=>by cases h;exact .lst (jq ns)
theorem qJ {n d:Nat} (h:d<n):gd n (d:Int)=some d :=by unfold gd;rw [if_pos (by omega),if_pos (by omega)];rfl
theorem u0 (row:List Int) (t:Nat) (x:Int):(row.map Dv.int).set t (.int x)=(row.set t x).map Dv.int :=by rw [List.map_set]
theorem iW.set {n ways:Nat} {row:List Int} (h:iW n ways row) {t:Nat} {x:Int} (x0:0<=x) (x1:x<(n:Int)):iW n ways (row.set t x):=⟨by rw [SB];exact h.1,fun y hy=>by
 rcases SS hy with z|z
 ·exact h.2 y z
 ·rw [z];exact ⟨x0,x1⟩⟩
def pV (os:List Int):Dv->Int | .int j=>os.getD j.toNat 0|_=>0
theorem u5 {os:List Int} {j:Nat} {x:Int} (h:cj (os.map Dv.int) (j:Int)=some (.int x)):pV os (.int (j:Nat))=x :=by
 by_cases hj:j<os.length
 ·rw [cE (j:=j) (v:=Dv.int os[j]) (by rw [br,bi hj];rfl)] at h
  cases h
  show os.getD (Int.toNat (j:Int)) 0=_
  rw [ut,wS,bi hj];rfl
 ·unfold cj gd at h
  rw [if_pos (by omega),if_neg (by simp;omega)] at h
  cases h
def Dl (per i:Nat):Dv->Bool | .int j=>decide (j % (per:Int)=((i:Int)+1) % (per:Int))|_=>false
theorem Dm {n per i:Nat} {os:List Int} (jx:de n os) (p1:1<=per) (pn:per<=n):∃gs:List Int,((cD 0 n).filter (Dl per i)).map (fun d=>Dv.int (pV os d))=gs.map Dv.int/\1<=gs.length/\gs.length<=n/\∀x∈gs,0<=x/\x<(n:Int) :=by
 refine ⟨((cD 0 n).filter (Dl per i)).map (pV os),by rw [xz];rfl,?_,?_,fun x hx=>?_⟩
 ·rw [cb]
  refine OL (a:=Dv.int (((i+1) % per:Nat):Int)) (Cn.mpr ⟨?_,?_⟩)
  ·have:(i+1) % per<per:=Ue _ (by omega)
   exact c8 (i:=(i+1) % per) (by rw [cD,br,wP (by omega)];simp)
  ·show decide _=true
   rw [decide_eq_true_eq]
   push_cast
   exact Int.emod_emod_of_dvd _ (Int.dvd_refl _)
 ·rw [cb]
  exact sK (Tl _ _) (by rw [rangeD_len];exact ce _)
 ·obtain ⟨d,hd,rfl⟩:=sw.mp hx
  obtain ⟨j,hj,rfl⟩:=pL (Cn.mp hd).1
  rw [Nd]
  obtain ⟨gx,EV,g0,g1⟩:=jx.at hj
  rw [u5 EV]
  exact ⟨g0,g1⟩
structure gI (M0 M:Mh) (r:ac) (as:List ac) (n:Nat) (L:Nat->Nat):Prop where
 own:oK M0 M
 r0:M0 r=none
 rm:M r=some (.lst (as.map .ptr))
 fr:∀a∈as,M0 a=none/\a≠r
 nd:as.Nodup
 len:as.length=n
 rows:∀i a,as[i]?=some a->∃row:List Int,M a=some (.lst (row.map .int))/\iW n (L i) row
 ptr:∀b bs,M b=some (.lst (bs.map .ptr))->b=r\/M0 b=some (.lst (bs.map .ptr))\/bs=[]
theorem gI.set {M0 M:Mh} {r:ac} {as:List ac} {n:Nat} {L:Nat->Nat} (h:gI M0 M r as n L) {i:Nat} {a:ac} (ha:as[i]?=some a) {row:List Int} {m:Nat} (o:iW n m row):gI M0 (au M a (.lst (row.map .int))) r as n fun j=>if j=i then m else L j :=by
 have hm:=c8 ha
 obtain ⟨f0,f1⟩:=h.fr a hm
 refine ⟨⟨.upd f0 h.own.kp,fun b o e=>?_⟩,h.r0,by rw [ah (wn f1)];exact h.rm,h.fr,h.nd,h.len,fun j c hc=>?_,fun b bs e=>?_⟩
 ·by_cases z:b=a
  ·subst z;rw [updM_same] at e;cases e;exact .inr (.inl ⟨row,rfl⟩)
  ·rw [ah z] at e
   rcases h.own.pin b o e with q|q|⟨bs,q1,q2⟩
   ·exact .inl q
   ·exact .inr (.inl q)
   ·refine .inr (.inr ⟨bs,q1,fun c hc=>?_⟩)
    by_cases z:c=a
    ·subst z;exact ⟨_,updM_same⟩
    ·rw [ah z];exact q2 c hc
 ·by_cases z:j=i
  ·subst z
   rw [ha] at hc;cases hc
   exact ⟨row,updM_same,by rw [if_pos rfl];exact o⟩
  ·have sd:c≠a:=fun e=>z (by
    subst e
    obtain ⟨h1,e1⟩:=bv.mp ha
    obtain ⟨h2,e2⟩:=bv.mp hc
    rcases Nat.lt_trichotomy j i with q|q|q
    ·exact absurd (e2.trans e1.symm) (LB.mp h.nd j i h2 h1 q)
    ·exact q
    ·exact absurd (e1.trans e2.symm) (LB.mp h.nd i j h1 h2 q))
   rw [ah sd,if_neg z];exact h.rows j c hc
 ·by_cases z:b=a
  ·subst z
   rw [updM_same] at e
   cases row with
   |nil=>cases bs with
    |nil=>exact .inr (.inr rfl)
    |cons c bs=>simp at e
   |cons x row=>cases bs with
    |nil=>exact .inr (.inr rfl)
    |cons c bs=>simp at e
  ·rw [ah z] at e;exact h.ptr b bs e
theorem gI.full {M0 M:Mh} {r:ac} {as:List ac} {n ways:Nat} {L:Nat->Nat} (h:gI M0 M r as n L) (hL:∀i,i<n->L i=ways):eZ M0 M r as n ways :=by
 refine ⟨h.own.kp,h.r0,h.rm,h.fr,h.len,fun a ha=>?_,fun b o e=>?_⟩
 ·obtain ⟨i,hi⟩:=mo.mp ha
  obtain ⟨row,e,o⟩:=h.rows i a hi
  rw [hL i (by rw [<- h.len];exact (bv.mp hi).1)] at o
  exact ⟨row,e,o⟩
 ·rcases h.own.pin b o e with q|q|⟨bs,rfl,q2⟩
  ·exact .inl q
  ·exact .inr (.inr (.inl q))
  ·rcases h.ptr b bs e with z|z|z
   ·exact .inr (.inl z)
   ·exact .inl z
   ·subst z;exact .inr (.inr (.inl ⟨[],rfl⟩))
theorem gI.yA {M0 M:Mh} {r:ac} {as:List ac} {n:Nat} {L L':Nat->Nat} (h:gI M0 M r as n L) (e:∀i,i<n->L i=L' i):gI M0 M r as n L':=
 ⟨h.own,h.r0,h.rm,h.fr,h.nd,h.len,fun i a ha=>by
  have:=h.rows i a ha
  rwa [e i (by rw [<- h.len];exact (bv.mp ha).1)] at this,h.ptr⟩
theorem de.nodup {n:Nat} {os:List Int} (h:de n os):os.Nodup :=by
 refine h.perm.nodup_iff.mpr ?_
 exact List.pairwise_map.mpr (Up.imp fun h e=>h (by omega))
theorem de.prev {n:Nat} {os:List Int} (h:de n os) {k:Nat} (hk:k<n):∃p:Nat,cj (os.map Dv.int) ((k:Int) - 1)=some (.int (p:Nat))/\p<n :=by
 have hl:=h.len
 obtain ⟨j,hj,e⟩:∃j:Nat,j<n/\gd n ((k:Int) - 1)=some j :=by
  unfold gd
  by_cases z:k=0
  ·exact ⟨n - 1,by omega,by rw [if_neg (by omega),if_pos (by omega)];congr 1;omega⟩
  ·exact ⟨k - 1,by omega,by rw [if_pos (by omega),if_pos (by omega)];congr 1;omega⟩
 have Bg:j<os.length :=by omega
 obtain ⟨g0,g1⟩:=h.mem (ss Bg)
 refine ⟨os[j].toNat,?_,by omega⟩
 unfold cj
 rw [cb,hl,e]
 show (os.map Dv.int)[j]?=_
 rw [br,bi Bg]
 show some (Dv.int os[j])=_
 congr 2
 omega
theorem Gh (x:Int) (k:Nat):(qr k [Dv.int x]).flatten=(qr k x).map Dv.int :=by
 induction k with
 |zero=>rfl
 |succ k ih=>rw [wE,EQ,ih,wE];rfl
theorem yB {f f1 f2:ac} {fd bC fd2:im} (D:Df K mg "_law_net" d9 ["_law_bag_here","_law_most"] f fd)
  (aC:Df K mg "_law_take" fx ["_law_bag_here","_law_many"] f1 bC) (cM:FnOk P w K mg base bL 1 f1 bC ["_law_bag_here","_law_many"] (aR P w K tb yz))
  (dP:Df K mg "_law_order" gE ["_law_bag_here","_law_many"] f2 fd2) (u6:FnOk P w K mg base bL 2 f2 fd2 ["_law_bag_here","_law_many"] (aR P w K tb Bf)) (bl:Bl mg):FnOk P w K mg base bL 3 f fd ["_law_bag_here","_law_most"] (aR P w K tb EL) :=by
 refine gA D bD (fun ds M Q E hS=>by obtain ⟨b,n,e,_⟩:=hS;rw [e];rfl) fun A outer s E Γ ds Q' E' hP hw hK ht hr hS=>?_
 obtain ⟨b,most,e,hb,h1,h9,q⟩:=hS
 refine ⟨_,(ai (aJ (i:=2) bD.nd rfl (l6 rfl) (a8 fD av (aE cM (hr.mono (by decide)) rfl aC.mg aC.fn.kp aC.bd b5 hP hw hK ht XR.none (aa (qv 0) (aa (qv 1) ae)))))
  (ai (aJ (i:=3) bD.nd rfl (l6 rfl) (a8 fD av (aE cM (hr.mono (by decide)) rfl aC.mg aC.fn.kp aC.bd b5 hP hw hK ht XR.none (aa (qv 0) (aa av ae)))))
  (ai (aJ (i:=4) bD.nd rfl (l6 rfl) (aE cM (hr.mono (by decide)) rfl aC.mg aC.fn.kp aC.bd b5 hP hw hK ht XR.none (aa (qv 0) (aa av ae))))
  (ai (aJ (i:=5) bD.nd rfl (EO rfl) av)
  (ai (cw (bt oC (qv 4) av (bB _))
   (ai (aJ (i:=5) bD.nd rfl (EO rfl) (ay (uF rfl) rfl bl.min_ pj (aa (a8 fD av (aE cM (hr.mono (by decide)) rfl aC.mg aC.fn.kp aC.bd b5 hP hw hK ht XR.none (aa (qv 0) (aa av ae)))) (aa (qv 2) ae))))
  (aq (aJ (i:=2) bD.nd rfl (l6 rfl) (a8 k8 (a8 uB (qv 2) (qv 5)) (qv 5)))))
   qss_nil)
  (ai (aJ (i:=6) bD.nd rfl (EO rfl) (aE u6 (hr.mono (by decide)) rfl dP.mg dP.fn.kp dP.bd b5 hP hw hK ht XR.none (aa (qv 0) (aa (qv 2) ae))))
  (ai (vM (i:=7) bD.nd rfl rfl (N':=["_law_place"]) (tn:=1) (idx:=[]) rfl (show a7 ["_law_bag_here","_law_most","_law_many","_law_fans","_law_kind","_law_lap","_law_order_here","_law_rows","_law_k","_law_goals","_law_fan"] (ak d9) _ ["_law_place"] 1 [] from by decide +kernel) (bw rfl bl.range_ (aa (qv 2) ae)) (fun _ _ _ _ _=>(aN (i:=0) (show LF [("_law_place" : ba)] from by decide +kernel) rfl (l6 rfl))) (fun _ _ _ _ _=>fW) (fun _ _ _ _ _=>(ku ae)))
  (ai (cc ma rfl (bw rfl bl.range_ (aa (qv 2) ae)) (fun fX eP ew eK et=>by have hP:=hP.trans eP.symm;have hw:=hw.trans ew.symm;have hK:=hK.trans eK.symm;have ht:=ht.trans et.symm;exact ⟨(aN (i:=8) bD.nd rfl (EO rfl)),(ai (lj (i:=9) bD.nd rfl rfl (N':=["_law_j","_law_order_here","_law_lap","_law_k"]) (tn:=1) (idx:=[6,5,8]) rfl (show a7 ["_law_bag_here","_law_most","_law_many","_law_fans","_law_kind","_law_lap","_law_order_here","_law_rows","_law_k","_law_goals","_law_fan"] (ak d9) _ ["_law_j","_law_order_here","_law_lap","_law_k"] 1 [6,5,8] from by decide +kernel) (bw rfl bl.range_ (aa (qv 2) ae)) (fun _ _ _ _ _=>(aN (i:=0) (show LF [("_law_j" : ba),("_law_order_here" : ba),("_law_lap" : ba),("_law_k" : ba)] from by decide +kernel) rfl (l6 rfl))) (fun _ _ _ _ _=>(wU (bt oC (a8 gz (qv 0) (qv 2)) (a8 gz (a8 fD (qv 3) av) (qv 2)) (bB _)))) (fun _ _ _ _ _=>(bH (cB (K:=K) rfl) (qv 1) (qv 0) (fun _ _=>rfl))))
  (aq (cc ma rfl (bw rfl bl.range_ (aa (qv 3) ae)) (fun fX eP ew eK et=>by have hP:=hP.trans eP.symm;have hw:=hw.trans ew.symm;have hK:=hK.trans eK.symm;have ht:=ht.trans et.symm;exact ⟨(aN (i:=10) bD.nd rfl (l6 rfl)),(aq (c9 (la (K:=K) rfl Cf Nl No lb (bH (cB (K:=K) rfl) (qv 7) (bH (cB (K:=K) rfl) (qv 6) (qv 8) (fun _ _=>rfl)) (fun _ _=>rfl)) (aa (bH (cB (K:=K) rfl) (qv 9) (aE cM (hr.mono (by decide)) rfl aC.mg aC.fn.kp aC.bd b5 hP hw hK ht XR.none (aa (qv 0) (aa (ay (bP (K:=K) rfl hK) rfl bl.len_ kw (aa (qv 9) ae)) ae))) (fun _ _=>rfl)) ae))))⟩))))⟩))
  (ai (cw (bt uC (qv 4) av (bB _))
   (aq (cc ma rfl (bw rfl bl.range_ (aa (qv 2) ae)) (fun fX eP ew eK et=>by have hP:=hP.trans eP.symm;have hw:=hw.trans ew.symm;have hK:=hK.trans eK.symm;have ht:=ht.trans et.symm;exact ⟨(aN (i:=8) bD.nd rfl (EO rfl)),(aq (mQ (bH (cB (K:=K) rfl) (qv 6) (qv 8) (fun _ _=>rfl)) (mX (bH (cB (K:=K) rfl) (qv 7) (bH (cB (K:=K) rfl) (qv 6) (a8 yg (qv 8) av) (fun _ _=>rfl)) (fun _ _=>rfl)) (aE cM (hr.mono (by decide)) rfl aC.mg aC.fn.kp aC.bd b5 hP hw hK ht XR.none (aa (qv 0) (aa (qv 3) ae))))))⟩)))
   qss_nil)
  (ai (cw (bt oC (qv 4) av (bB _))
   (ai (cc ma rfl (bw rfl bl.range_ (aa (qv 2) ae)) (fun fX eP ew eK et=>by have hP:=hP.trans eP.symm;have hw:=hw.trans ew.symm;have hK:=hK.trans eK.symm;have ht:=ht.trans et.symm;exact ⟨(aN (i:=8) bD.nd rfl (EO rfl)),(aq (mQ (a8 J0 (Jj (aa (bH (cB (K:=K) rfl) (qv 6) (qv 8) (fun _ _=>rfl)) ae)) (qv 3)) (mX (qv 7) (bH (cB (K:=K) rfl) (qv 6) (a8 yg (qv 8) av) (fun _ _=>rfl)))))⟩))
  (aq (mQ (aE cM (hr.mono (by decide)) rfl aC.mg aC.fn.kp aC.bd b5 hP hw hK ht XR.none (aa (qv 0) (aa (qv 2) ae))) (mX (bH (cB (K:=K) rfl) (qv 7) av (fun _ _=>rfl)) av))))
   qss_nil)
  (aq (JA 7 rfl (a9 (mV (wV (K:=K) rfl) rfl bl.tuple_ jf (aa (oh (N':=["_law_row"]) (tn:=1) (idx:=[]) rfl (show a7 ["_law_bag_here","_law_most","_law_many","_law_fans","_law_kind","_law_lap","_law_order_here","_law_rows","_law_k","_law_goals","_law_fan"] (ak d9) _ ["_law_row"] 1 [] from by decide +kernel) (ky (K:=K) rfl (qv 7)) (fun _ _ _ _ _=>(aN (i:=0) (show LF [("_law_row" : ba)] from by decide +kernel) rfl (l6 rfl))) (fun _ _ _ _ _=>fW) (fun _ _ _ _ _=>(mV (wV (K:=K) rfl) rfl bl.tuple_ jf (aa (qv 0) ae)))) ae))))))))))))))),?_⟩
 subst e
 have big:(100:Nat)<sizeLine :=by decide
 refine Mk (fun ρ M=>M=Γ.M0/\∃(n ways kind cT:Nat),ρ=[some (.ptr b),some (.int (most:Nat)),some (.int (n:Nat)),some (.int (ways:Nat)),some (.int (kind:Nat)),some (.int (cT:Nat)),none,none,none,none,none]/\1<=n/\n<=most/\(ways=2\/ways=3)/\1<=cT/\cT<=n) (fun N hN=>?_) ?_
 ·simp! only []
  refine ⟨b,_,rfl,hb,by omega,by omega,fun m hm=>?_⟩
  obtain ⟨n,hn⟩:∃n:Nat,(1+(m:Int))=(n:Nat):=⟨1+m,by omega⟩
  have n1:1<=n :=by omega
  have n9:n<=most :=by omega
  simp! only [hn]
  refine ⟨b,_,rfl,hb,by omega,by omega,fun v hv=>?_⟩
  obtain ⟨ways,Mp⟩:∃ways:Nat,(2+(v:Int))=(ways:Nat):=⟨2+v,by omega⟩
  have w2:ways=2\/ways=3 :=by omega
  simp! only [Mp]
  refine ⟨b,_,rfl,hb,by omega,by omega,fun kind sR=>?_⟩
  simp! only []
  refine dj (fun h=>?_) (fun h=>hN _ _ ⟨rfl,n,ways,kind,1,rfl,n1,n9,w2,by omega,n1⟩)
  refine ⟨b,_,rfl,hb,by omega,by omega,fun t ht=>?_⟩
  obtain ⟨cT,Py,l1,ln⟩:∃cT:Nat,(if (n:Int)<2+(t:Int) then (n:Int) else 2+(t:Int))=(cT:Nat)/\1<=cT/\cT<=n :=by
   by_cases z:(n:Int)<2+(t:Int)
   ·exact ⟨n,by rw [if_pos z],n1,ce _⟩
   ·exact ⟨2+t,by rw [if_neg z];omega,by omega,by omega⟩
  simp only [Py]
  have en:(n:Int) / (cT:Int) * (cT:Int)=((n / cT * cT:Nat):Int) :=by push_cast;rfl
  have d1:n / cT * cT<=n:=Nat.div_mul_le_self n cT
  have d2:cT<=n / cT * cT :=by
   have:1<=n / cT:=Nat.div_pos ln (by omega)
   exact Nat.le_mul_of_pos_left cT this
  rw [en]
  exact ⟨⟨by omega,by omega⟩,.inr ⟨by omega,by omega⟩,hN _ _ ⟨rfl,n / cT * cT,ways,kind,cT,rfl,by omega,by omega,w2,l1,d2⟩⟩
 rintro ρ M ⟨rfl,n,ways,kind,cT,rfl,n1,n9,w2,l1,ln⟩
 refine EF (fun ρ M=>∃(r:ac) (as:List ac) (os:List Int) (x8 x9 iy:Option Dv),(aZ x8/\aZ x9/\aZ iy)/\ρ=[some (.ptr b),some (.int (most:Nat)),some (.int (n:Nat)),some (.int (ways:Nat)),some (.int (kind:Nat)),some (.int (cT:Nat)),some (gC os),some (.ptr r),x8,x9,iy]/\eZ Γ.M0 M r as n ways/\de n os) (fun N hN=>?_) ?_
 ·simp! only []
  refine ⟨b,n,rfl,hb,by omega,fun os jx=>?_⟩
  have zU:=jx.len
  simp! only []
  refine ⟨by omega,by omega,by omega,lC (acc:=[]) (fun acc τ M=>∃as:List ac,acc=as.map Dv.ptr/\(∃x,τ=[x])/\oK Γ.M0 M/\as.Nodup/\(∀a∈as,Γ.M0 a=none/\M a=some (.lst []))/\∀c (bs:List ac),M c=some (.lst (bs.map .ptr))->Γ.M0 c=some (.lst (bs.map .ptr))\/bs=[]) ⟨[],rfl,⟨_,rfl⟩,.refl,.nil,(fun _ h=>nomatch h),fun c bs e=>.inl e⟩ (fun i d acc τ M hd _ hJ R hR=>?_) (fun ys τ M hl hJ=>?_)⟩
  ·obtain ⟨as,rfl,⟨x,rfl⟩,hO,Kh,ha,hp⟩:=hJ
   simp! only []
   refine ⟨by omega,fun a hn=>hR _ _ _ ⟨as++[a],by rw [wv];rfl,⟨_,rfl⟩,hO.row hn [],?_,fun c hc=>?_,fun c bs e=>?_⟩⟩
   ·rw [Ub]
    refine ⟨Kh,by simp,fun x hx y hy e=>?_⟩
    rw [li] at hy
    subst e hy
    rw [(ha _ hx).2] at hn;cases hn
   ·rcases tz.mp hc with z|z
    ·obtain ⟨q1,q2⟩:=ha c z
     have ne:c≠a:=fun q=>by rw [q,hn] at q2;cases q2
     exact ⟨q1,by rw [ah ne];exact q2⟩
    ·rw [li] at z
     subst z
     exact ⟨iX hO.kp hn,updM_same⟩
   ·by_cases z:c=a
    ·subst z
     rw [updM_same] at e
     cases bs with
     |nil=>exact .inr rfl
     |cons y bs=>simp at e
    ·rw [ah z] at e;exact hp c bs e
  ·obtain ⟨as,e1,⟨x,rfl⟩,hO,Kh,ha,hp⟩:=hJ
   rw [IR] at e1
   subst e1
   intro r Ki
   have Pz:as.length=n :=by simpa [rangeD_len] using hl
   have ne:∀{c o},M c=some o->c≠r:=fun e z=>by rw [z,Ki] at e;cases e
   have RF:gI Γ.M0 (au M r (.lst (as.map .ptr))) r as n fun _=>0 :=by
    refine ⟨⟨.upd (iX hO.kp Ki) hO.kp,fun c o e=>?_⟩,iX hO.kp Ki,updM_same,fun a h=>⟨(ha a h).1,ne (ha a h).2⟩,Kh,Pz,fun i a h=>?_,fun c bs e=>?_⟩
    ·by_cases z:c=r
     ·subst z;rw [updM_same] at e;cases e
      exact .inr (.inr ⟨as,rfl,fun a h=>⟨_,by rw [ah (ne (ha a h).2)];exact (ha a h).2⟩⟩)
     ·rw [ah z] at e
      rcases hO.pin c o e with q|q|⟨bs,q1,q2⟩
      ·exact .inl q
      ·exact .inr (.inl q)
      ·refine .inr (.inr ⟨bs,q1,fun y hy=>?_⟩)
       obtain ⟨u,hu⟩:=q2 y hy
       exact ⟨u,by rw [ah (ne hu)];exact hu⟩
    ·have hm:=ha a (c8 h)
     exact ⟨[],by rw [ah (ne hm.2)];exact hm.2,rfl,fun _ h=>nomatch h⟩
    ·by_cases z:c=r
     ·exact .inl z
     ·rw [ah z] at e;exact .inr (hp c bs e)
   refine ⟨by omega,by omega,?_⟩
   refine bg (fun i ρ M=>∃x8 x9 iy,(aZ x8/\aZ x9/\aZ iy)/\ρ=[some (.ptr b),some (.int (most:Nat)),some (.int (n:Nat)),some (.int (ways:Nat)),some (.int (kind:Nat)),some (.int (cT:Nat)),some (gC os),some (.ptr r),x8,x9,iy]/\gI Γ.M0 M r as n (fun j=>if ((j:Nat):Int)∈os.take i then ways else 0))
    ⟨_,_,_,⟨.none,.none,.none⟩,rfl,RF.yA fun i _=>by simp⟩ (fun i d ρ M N2 hd hJ ix=>?_) (fun ρ M hJ=>?_)
   ·obtain ⟨x8,x9,iy,⟨p8,p9,se⟩,rfl,RF⟩:=hJ
    obtain ⟨rfl,hi⟩:=bE hd
    have mi:i<os.length :=by omega
    obtain ⟨g0,g1⟩:=jx.mem (ss mi)
    obtain ⟨pk,sf⟩:=Ch g0
    have NY:pk<n :=by omega
    have mC:cj (os.map Dv.int) ((i:Nat):Int)=some (.int (pk:Nat)):=cE (by rw [br,bi mi,sf];rfl)
    have Kj:pk<as.length :=by omega
    have RK:cj (as.map Dv.ptr) ((pk:Nat):Int)=some (.ptr as[pk]):=cE (by rw [br,bi Kj];rfl)
    have NZ:as[pk]?=some as[pk]:=bi Kj
    have PD:((pk:Nat):Int) ∉ os.take i:=fun z=>by
     obtain ⟨j,hj,e⟩:=List.mem_iff_getElem.mp z
     rw [List.getElem_take,<- sf] at e
     rw [Ui] at hj
     exact LB.mp jx.nodup j i (by omega) mi (by omega) e
    simp! only []
    refine ⟨by omega,by omega,by omega,qA (Dl cT i) (fun d=>.int (pV os d)) (fun τ M'=>(∃x,τ=[x,some (gC os),some (.int (cT:Nat)),some (.int (i:Nat))])/\M'=M) ⟨⟨_,rfl⟩,rfl⟩ (fun d hd τ M' hI R0 R h1 h2=>?_) (fun τ M' hI=>?_)⟩
    ·obtain ⟨⟨x,rfl⟩,rfl⟩:=hI
     obtain ⟨j,hj,rfl⟩:=pL hd
     simp only [Nd] at h1 h2 ⊢
     obtain ⟨gx,EV,g0,g1⟩:=jx.at hj
     have hg:pV os (.int (j:Nat))=gx:=u5 EV
     simp! only [EV]
     refine ⟨by omega,by omega,dj (fun h=>?_) (fun h=>?_)⟩
     ·rw [hg] at h1
      exact h1 h _ _ ⟨⟨_,rfl⟩,rfl⟩
     ·exact h2 h _ _ ⟨⟨_,rfl⟩,rfl⟩
    ·obtain ⟨⟨x,rfl⟩,rfl⟩:=hI
     obtain ⟨gs,RL,SJ,SK,RN⟩:=Dm (i:=i) jx (per:=cT) (by omega) (by omega)
     rw [RL]
     refine ⟨by omega,by omega,?_⟩
     refine bg (fun f ρ M=>(∃iy,aZ iy/\ρ=[some (.ptr b),some (.int (most:Nat)),some (.int (n:Nat)),some (.int (ways:Nat)),some (.int (kind:Nat)),some (.int (cT:Nat)),some (gC os),some (.ptr r),some (.int (i:Nat)),some (gC gs),iy])/\gI Γ.M0 M r as n (fun j=>if j=pk then f else if ((j:Nat):Int)∈os.take i then ways else 0))
      ⟨⟨_,se,rfl⟩,RF.yA fun j _=>by
       by_cases z:j=pk
       ·subst z;rw [if_neg PD,if_pos rfl]
       ·rw [if_neg z]⟩ (fun f d ρ M N3 hd hJ pW=>?_) (fun ρ M hJ=>?_)
     ·obtain ⟨⟨iy,se,rfl⟩,RF⟩:=hJ
      obtain ⟨rfl,hf⟩:=bE hd
      obtain ⟨row,em,ro⟩:=RF.rows pk _ NZ
      rw [if_pos rfl] at ro
      simp! only [mC,RF.rm,RK,em]
      refine ⟨b,_,rfl,RF.own.kp _ _ hb,by omega,by omega,fun t ht=>?_⟩
      have xi:t<gs.length :=by omega
      simp only [show cj (gs.map Dv.int) (t:Int)=some (.int gs[t]) from cE (by rw [br,bi xi];rfl),em,cb,ro.1]
      have RO:=RN _ (ss xi)
      have er:row.map Dv.int++[Dv.int gs[t]]=(row++[gs[t]]).map Dv.int :=by rw [wv];rfl
      rw [er]
      refine ⟨by omega,pW _ _ ⟨⟨_,.int _,rfl⟩,(RF.set NZ (row:=row++[gs[t]]) (m:=f+1) ⟨by rw [tw,ro.1];rfl,fun y hy=>?_⟩).yA fun j _=>?_⟩⟩
      ·rcases tz.mp hy with z|z
       ·exact ro.2 y z
       ·rw [li.mp z];exact RO
      ·by_cases z:j=pk
       ·rw [if_pos z,if_pos z]
       ·rw [if_neg z,if_neg z,if_neg z]
     ·obtain ⟨⟨iy,se,rfl⟩,RF⟩:=hJ
      rw [rangeD_len] at RF
      refine ix _ _ ⟨_,_,_,⟨.int _,.lI gs,se⟩,rfl,RF.yA fun j _=>?_⟩
      have m7:((j:Nat):Int)∈os.take (i+1) ↔ ((j:Nat):Int)∈os.take i\/j=pk :=by
       rw [List.take_add_one,tz,bi mi,sf]
       constructor
       ·rintro (z|z)
        ·exact .inl z
        ·have:((j:Nat):Int)=(pk:Nat) :=by simpa using z
         exact .inr (by omega)
       ·rintro (z|z)
        ·exact .inl z
        ·exact .inr (by simp [z])
      by_cases z:j=pk
      ·rw [if_pos z,if_pos (m7.mpr (.inr z))]
      ·rw [if_neg z]
       by_cases y:((j:Nat):Int)∈os.take i
       ·rw [if_pos y,if_pos (m7.mpr (.inl y))]
       ·rw [if_neg y,if_neg (fun q=>(m7.mp q).elim y z)]
   ·obtain ⟨x8,x9,iy,⟨p8,p9,se⟩,rfl,RF⟩:=hJ
    rw [rangeD_len] at RF
    refine hN _ _ ⟨r,as,os,_,_,_,⟨p8,p9,se⟩,rfl,RF.full fun j hj=>?_,jx⟩
    rw [ON (by omega),if_pos (jx.perm.mem_iff.mpr (sw.mpr ⟨j,LH.mpr hj,rfl⟩))]
 rintro ρ M ⟨r,as,os,x8,x9,iy,⟨p8,p9,se⟩,rfl,RM,jx⟩
 have zU:=jx.len
 have Kk:∀{as:List ac} {M:Mh} {p:Nat},eZ Γ.M0 M r as n ways->p<n->∃a,cj (as.map Dv.ptr) ((p:Nat):Int)=some (.ptr a)/\a∈as:=fun {as M p} RM hp=>by
  have hl:p<as.length :=by rw [RM.len];exact hp
  exact ⟨as[p],cE (by rw [br,bi hl];rfl),ss hl⟩
 refine yr (fun ρ M=>∃(as:List ac) (x8:Option Dv),aZ x8/\ρ=[some (.ptr b),some (.int (most:Nat)),some (.int (n:Nat)),some (.int (ways:Nat)),some (.int (kind:Nat)),some (.int (cT:Nat)),some (gC os),some (.ptr r),x8,x9,iy]/\eZ Γ.M0 M r as n ways) (fun N hN=>?_) ?_
 ·simp! only []
  refine dj (fun h=>⟨by omega,by omega,?_⟩) (fun _=>hN _ _ ⟨as,_,p8,rfl,RM⟩)
  refine bg (fun i ρ M=>∃(as:List ac) (x8:Option Dv),aZ x8/\ρ=[some (.ptr b),some (.int (most:Nat)),some (.int (n:Nat)),some (.int (ways:Nat)),some (.int (kind:Nat)),some (.int (cT:Nat)),some (gC os),some (.ptr r),x8,x9,iy]/\eZ Γ.M0 M r as n ways) ⟨as,_,p8,rfl,RM⟩ (fun i d ρ M N2 hd hJ ix=>?_) (fun ρ M hJ=>hN _ _ hJ)
  obtain ⟨as,x8,p8,rfl,RM⟩:=hJ
  obtain ⟨rfl,hi⟩:=bE hd
  obtain ⟨p,hp,pn⟩:=jx.prev hi
  obtain ⟨g,hg,g0,g1⟩:=jx.at hi
  obtain ⟨a,ea,ha⟩:=Kk RM pn
  obtain ⟨row,em,ro⟩:=RM.row a ha
  simp! only [hg,hp,RM.rm,ea]
  refine ⟨b,_,rfl,RM.kp _ _ hb,by omega,by omega,fun t ht=>?_⟩
  simp only [em,cb,ro.1,qJ (show t<ways by omega)]
  rw [u0]
  exact ix _ _ ⟨as,_,.int _,rfl,RM.t8 ha (ro.set g0 g1)⟩
 rintro ρ M ⟨as,x8,p8,rfl,RM⟩
 refine yr (fun ρ M=>∃(as:List ac) (x8:Option Dv),aZ x8/\ρ=[some (.ptr b),some (.int (most:Nat)),some (.int (n:Nat)),some (.int (ways:Nat)),some (.int (kind:Nat)),some (.int (cT:Nat)),some (gC os),some (.ptr r),x8,x9,iy]/\eZ Γ.M0 M r as n ways) (fun N hN=>?_) ?_
 ·simp! only []
  refine dj (fun h=>⟨by omega,by omega,?_⟩) (fun _=>hN _ _ ⟨as,_,p8,rfl,RM⟩)
  refine bg (fun i ρ M=>∃(as:List ac) (x8:Option Dv),aZ x8/\ρ=[some (.ptr b),some (.int (most:Nat)),some (.int (n:Nat)),some (.int (ways:Nat)),some (.int (kind:Nat)),some (.int (cT:Nat)),some (gC os),some (.ptr r),x8,x9,iy]/\eZ Γ.M0 M r as n ways) ⟨as,_,p8,rfl,RM⟩ (fun i d ρ M N2 hd hJ ix=>?_) (fun ρ M hJ=>?_)
  ·obtain ⟨as,x8,p8,rfl,RM⟩:=hJ
   obtain ⟨rfl,hi⟩:=bE hd
   obtain ⟨p,hp,pn⟩:=jx.prev hi
   obtain ⟨g,hg,g0,g1⟩:=jx.at hi
   simp! only [hg,hp]
   refine ⟨by omega,⟨by omega,by omega,by omega⟩,fun a wK=>?_⟩
   have nr:r≠a:=fun z=>by rw [<- z,RM.rm] at wK;cases wK
   rw [Gh]
   simp only [ah nr,RM.rm,cb,RM.len,qJ pn]
   exact ix _ _ ⟨_,_,.int _,rfl,RM.put wK ⟨by rw [Pe],fun x hx=>by rw [List.eq_of_mem_replicate hx];exact ⟨g0,g1⟩⟩ pn⟩
  ·obtain ⟨as,x8,p8,rfl,RM⟩:=hJ
   obtain ⟨a,ea,ha⟩:=Kk RM (p:=0) (by omega)
   have ea:cj (as.map Dv.ptr) 0=some (.ptr a):=ea
   obtain ⟨row,em,ro⟩:=RM.row a ha
   simp! only []
   refine ⟨b,_,rfl,RM.kp _ _ hb,by omega,by omega,fun t ht=>?_⟩
   simp! only [RM.rm,ea,em,ro.1,show gd ways 0=some 0 from qJ (d:=0) (by omega)]
   rw [u0]
   exact hN _ _ ⟨as,_,p8,rfl,RM.t8 ha (ro.set (by omega) (by omega))⟩
 rintro ρ M ⟨as,x8,p8,rfl,RM⟩
 have nb:∀{c o},Γ.M0 c=some o->c≠r:=fun e z=>by rw [z,RM.r0] at e;cases e
 have dk:Keeps Γ.M0 (bz M r):=fun c o e=>by rw [bb (nb e)];exact RM.kp c o e
 refine .inr ⟨r,_,rfl,RM.rm,RM.r0,⟨fun j d e=>?_,fun c o e=>?_⟩,?_⟩
 ·match j,e with
  |0,e=>cases e;exact .ptr (by rw [dk _ _ hb];rfl)
  |1,e=>cases e;exact .int _
  |2,e=>cases e;exact .int _
  |3,e=>cases e;exact .int _
  |4,e=>cases e;exact .int _
  |5,e=>cases e;exact .int _
  |6,e=>cases e;exact .lst (jq _)
  |7,e=>cases e;exact .lst fun d hd=>by
                obtain ⟨a,ha,rfl⟩:=sw.mp hd
                obtain ⟨row,em,_⟩:=RM.row a ha
                exact .ptr (by rw [bb (RM.fr a ha).2,em];rfl)
  |8,e=>exact p8 _ _ (dL e)
  |9,e=>exact p9 _ _ (dL e)
  |10,e=>exact se _ _ (dL e)
  |j+11,e=>exact nomatch e
 ·have nc:c≠r:=fun z=>by rw [z,bF] at e;cases e
  rw [bb nc] at e
  rcases RM.pin c o e with q|q|⟨row,rfl⟩|⟨bs,rfl,q2⟩
  ·exact .inl q
  ·exact absurd q nc
  ·exact .inr (jq row)
  ·refine .inr fun d hd=>?_
   obtain ⟨a,ha,rfl⟩:=sw.mp hd
   obtain ⟨h1,u,h2⟩:=q2 a ha
   exact .ptr (by rw [bb h1,h2];rfl)
 ·simp! only []
  refine ⟨by rw [RM.len];omega,lC (acc:=[]) (fun acc τ M'=>∃rs:List (List Int),acc=rs.map eI/\(∃x,τ=[x])/\(∀row∈rs,iW n ways row)/\M'=bz M r) ⟨[],rfl,⟨_,rfl⟩,(fun _ h=>nomatch h),rfl⟩ (fun i d acc τ M' hd _ ⟨rs,e1,⟨x,e2⟩,EW,eM⟩ R hR=>?_) (fun ys τ M' hl ⟨rs,e1,⟨x,e2⟩,EW,eM⟩=>?_)⟩
  ·subst e1 e2 eM
   obtain ⟨a,ha,rfl⟩:=Jy hd
   have ha:=c8 ha
   obtain ⟨row,em,ro⟩:=RM.row a ha
   simp! only [bb (RM.fr a ha).2,em]
   refine hR _ _ _ ⟨rs++[row],by rw [wv];rfl,⟨_,rfl⟩,fun c hc=>?_,rfl⟩
   rcases tz.mp hc with z|z
   ·exact EW c z
   ·rw [li] at z;rw [z];exact ro
  ·rw [IR] at e1
   subst e1 e2 eM
   have EX:rs.length=n :=by rw [cb,cb,RM.len] at hl;exact hl
   exact Av dk (As rs) (q rs ways ⟨by omega,by omega,w2,fun row hr=>⟨(EW row hr).1,fun g hg=>by rw [EX];exact (EW row hr).2 g hg⟩⟩ (by omega))
end
section
variable {P:cr} {w:gc} {K:ar} {mg:ba->Option ag} {base:db} {tb:cu}
theorem vR:aM ["thing"] ["thing"] (ak d6):=⟨rfl,rfl,rfl,by decide +kernel,rfl,by decide +kernel,by decide +kernel⟩
theorem nS:aM ["thing","many"] ["thing","many"] (ak cH):=⟨rfl,rfl,rfl,by decide +kernel,rfl,by decide +kernel,by decide +kernel⟩
theorem Bh:aM ["thing","many","width"] ["thing","many","width"] (ak jv):=⟨rfl,rfl,rfl,by decide +kernel,rfl,by decide +kernel,by decide +kernel⟩
theorem m8:aM ["thing","many","width"] ["thing"] (ak jw):=⟨rfl,rfl,rfl,by decide +kernel,rfl,by decide +kernel,by decide +kernel⟩
def lH (d:Dv):Bool:=(isD "int" (fun _=>none) d).isSome
def Bi:Dv->Bool | .int _=>true|_=>false
def bV (m:Int):Dv->Bool | .int i=>decide (0<=i) && decide (i<m)|_=>false
def Km:bZ:=fun ds M Q _=>∃d,ds=[d]/\lH d=true/\Q (.bl (Bi d)) M
theorem vT {f:ac} {fd:im} (D:Df K mg "is_whole" d6 ["thing"] f fd) (bl:Bl mg):FnOk P w K mg base bL 1 f fd ["thing"] (aR P w K tb Km) :=by
 refine gA D vR (fun ds M Q E hS=>by obtain ⟨d,e,_⟩:=hS;rw [e];rfl) fun A outer s E Γ ds Q' E' hP hw hK ht hr hS=>?_
 obtain ⟨d,e,hk,q⟩:=hS
 refine ⟨_,(aq (a9 (uy (ay (jn (K:=K) rfl) rfl bl.isinstance_ ez (aa (qv 0) (aa (kr (v:=.ty "int") rfl bl.int_ Iq rfl) ae))) (ux (Ji (ay (jn (K:=K) rfl) rfl bl.isinstance_ ez (aa (qv 0) (aa (kr (v:=.ty "bool") rfl bl.bool_ Fx rfl) ae)))))))),?_⟩
 subst e
 cases d <;> first|exact ⟨by decide,⟨by decide,.inl q⟩⟩|exact ⟨by decide,.inl q⟩|exact nomatch hk
def Kn:bZ:=fun ds M Q _=>∃d m,ds=[d,.int m]/\lH d=true/\Q (.bl (bV m d)) M
theorem iK {f f1:ac} {fd bC:im} (D:Df K mg "is_whole_below" cH ["thing","many"] f fd) (bT:Df K mg "is_whole" d6 ["thing"] f1 bC) (bl:Bl mg):FnOk P w K mg base bL 2 f fd ["thing","many"] (aR P w K tb Kn) :=by
 have yC:=vT (P:=P) (w:=w) (base:=base) (tb:=tb) bT bl
 refine gA D nS (fun ds M Q E hS=>by obtain ⟨d,m,e,_⟩:=hS;rw [e];rfl) fun A outer s E Γ ds Q' E' hP hw hK ht hr hS=>?_
 obtain ⟨d,m,e,hk,q⟩:=hS
 refine ⟨_,(aq (a9 (uy (aE yC (hr.mono (by decide)) rfl bT.mg bT.fn.kp bT.bd b5 hP hw hK ht XR.none (aa (qv 0) ae)) (ux (CU yi yh av (qv 0) (qv 1)))))),?_⟩
 subst e
 refine ⟨d,rfl,hk,?_⟩
 cases d with
 |int i=>
  simp! only [Bi]
  refine dj (fun h=>?_) (fun h=>?_)
  ·rw [show bV m (.int i)=decide (i<m) by simp only [bV,h,S5]] at q
   exact .inl q
  ·rw [show bV m (.int i)=false by simp only [bV,h,TH]] at q
   exact .inl q
 |_=>exact .inl q
def gY (m:Int) (w:Nat):Dv->Bool | .tup ds=>decide (ds.length=w) && ds.all (bV m)|_=>false
def Dn:Dv->Bool | .tup ds=>ds.all lH|d=>lH d
def Ko:bZ:=fun ds M Q _=>∃d m w,ds=[d,.int m,.int (w:Nat)]/\Dn d=true/\Q (.bl (gY m w d)) M
theorem Bj {f f1 f2:ac} {fd bC fd2:im} {lJ aV:ac} (D:Df K mg "is_row" jv ["thing","many","width"] f fd) (gZ:tZ base fd lJ aV) (hp:aV∈tb) (di:∃bm ob,SX base mainGlobals mg bm ob)
  (aK:Df K mg "is_whole_below" cH ["thing","many"] f1 bC) (bT:Df K mg "is_whole" d6 ["thing"] f2 fd2) (bl:Bl mg):FnOk P w K mg base bL 4 f fd ["thing","many","width"] (aR P w K tb Ko) :=by
 have fL:=iK (P:=P) (w:=w) (base:=base) (tb:=tb) aK bT bl
 refine gA D Bh (fun ds M Q E hS=>by obtain ⟨d,m,n,e,_⟩:=hS;rw [e];rfl) fun A outer s E Γ ds Q' E' hP hw hK ht hr hS=>?_
 obtain ⟨d,m,n,e,hk,q⟩:=hS
 have yD:aV∈Γ.tb:=ht▸hp
 refine ⟨_,(ai (cw (QW.pt (pG (gu (fu (ay (jn (K:=K) rfl) rfl bl.isinstance_ ez (aa (qv 0) (aa (kr (v:=.ty "tuple") rfl bl.tuple_ jf rfl) ae))))) (mP (bt uE (ay (bP (K:=K) rfl hK) rfl bl.len_ kw (aa (qv 0) ae)) (qv 2) (bB _)))))
   (aq (a9 fA))
   qss_nil)
  (aq (a9 (uG (k:=2) (N':=["goal","many"]) (tn:=1) (idx:=[1]) yD (hr.mono (by decide)) rfl (show a7 ["thing","many","width"] (ak jv) _ ["goal","many"] 1 [1] from by decide +kernel) rfl rfl gZ.code gZ.hd di rfl bl.all_ (pH (K:=K) rfl (qv 0)) (fun _ _ _ _ _ _ _ hr=>(aN (i:=0) (show LF [("goal" : ba),("many" : ba)] from by decide +kernel) rfl (l6 rfl))) (fun _ _ _ _ _ _ _ hr=>fW) (fun _ _ _ _ _ _ _ hr=>(aE fL (hr.mono (by decide)) rfl aK.mg aK.fn.kp aK.bd b5 hP hw hK ht XR.none (aa (qv 0) (aa (qv 1) ae)))))))),?_⟩
 subst e
 cases d with
 |tup es=>
  refine ⟨by decide,dj (c := !decide ((es.length:Int)=(n:Nat))) (fun h=>?_) (fun h=>?_)⟩
  ·rw [show gY m n (.tup es)=false by simp at h;simp [gY];intro z;omega] at q
   exact .inl q
  ·rw [show gY m n (.tup es)=es.all (bV m) by simp at h;simp [gY,show es.length=n by omega]] at q
   refine nG (bV m) (fun τ=>∃x,τ=[x,some (.int m)]) ⟨none,rfl⟩ (fun d hd τ ⟨x,e⟩ R hR=>?_) (.inl q)
   subst e
   exact ⟨d,m,rfl,u8.mp hk d hd,hR _ ⟨_,rfl⟩⟩
 |_=>first|exact ⟨by decide,.inl q⟩|exact nomatch hk
def jy:Dv->Bool | .tup rs=>decide (1<=rs.length/\rs.length<=9) && (rs.all (gY rs.length 2) || rs.all (gY rs.length 3))|_=>false
def yE:Dv->Bool | .tup rs=>rs.all Dn|d=>lH d
def Kp:bZ:=fun ds M Q _=>∃d,ds=[d]/\yE d=true/\Q (.bl (jy d)) M
theorem Bk {f f1 f2 f3:ac} {fd bC fd2 j0:im} {lJ aV u9 bh:ac} (D:Df K mg "is_net" jw ["thing"] f fd) (lK:tZ base fd u9 bh) (NY:bh∈tb) (fM:Df K mg "is_row" jv ["thing","many","width"] f3 j0) (gZ:tZ base j0 lJ aV) (hp:aV∈tb) (di:∃bm ob,SX base mainGlobals mg bm ob)
  (aK:Df K mg "is_whole_below" cH ["thing","many"] f1 bC) (bT:Df K mg "is_whole" d6 ["thing"] f2 fd2) (bl:Bl mg) {tk:Tz} (g7:mg "MOST_PLACES" = some (.int 9 tk)):FnOk P w K mg base bL 6 f fd ["thing"] (aR P w K tb Kp) :=by
 have Dp:=Bj (P:=P) (w:=w) (tb:=tb) fM gZ hp di aK bT bl
 refine gA D m8 (fun ds M Q E hS=>by obtain ⟨d,e,_⟩:=hS;rw [e];rfl) fun A outer s E Γ ds Q' E' hP hw hK ht hr hS=>?_
 obtain ⟨d,e,hk,q⟩:=hS
 have lL:bh∈Γ.tb:=ht▸NY
 refine ⟨_,(ai (cw (QW.pt (pG (gu (fu (ay (jn (K:=K) rfl) rfl bl.isinstance_ ez (aa (qv 0) (aa (kr (v:=.ty "tuple") rfl bl.tuple_ jf rfl) ae))))) (mP (gu (CV yi yi av (ay (bP (K:=K) rfl hK) rfl bl.len_ kw (aa (qv 0) ae)) (ur (i:=9) rfl g7 ⟨_,rfl⟩))))))
   (aq (a9 fA))
   qss_nil)
  (ai (aJ (i:=1) m8.nd rfl (EO rfl) (ay (bP (K:=K) rfl hK) rfl bl.len_ kw (aa (qv 0) ae)))
  (ai (cc ma rfl (pH (K:=K) rfl (fv (aa av (aa av ae)))) (fun fX eP ew eK et=>by have hP:=hP.trans eP.symm;have hw:=hw.trans ew.symm;have hK:=hK.trans eK.symm;have ht:=ht.trans et.symm;have lL:=et.symm▸lL;exact ⟨(aN (i:=2) m8.nd rfl (EO rfl)),(aq (cw (fu (uG (k:=4) (N':=["row","many","width"]) (tn:=1) (idx:=[1,2]) lL (hr.mono (by decide)) rfl (show a7 ["thing","many","width"] (ak jw) _ ["row","many","width"] 1 [1,2] from by decide +kernel) rfl rfl lK.code lK.hd di rfl bl.all_ (pH (K:=K) rfl (qv 0)) (fun _ _ _ _ _ _ _ hr=>(aN (i:=0) (show LF [("row" : ba),("many" : ba),("width" : ba)] from by decide +kernel) rfl (l6 rfl))) (fun _ _ _ _ _ _ _ hr=>fW) (fun _ _ _ _ _ _ _ hr=>(aE Dp (hr.mono (by decide)) rfl fM.mg fM.fn.kp fM.bd b5 hP hw hK ht XR.none (aa (qv 0) (aa (qv 1) (aa (qv 2) ae)))))))
   (aq (a9 fA))
   qss_nil))⟩))
  (aq (a9 fA))))),?_⟩
 subst e
 cases d with
 |tup rs=>
  refine ⟨by decide,?_⟩
  have row:∀(n:Nat) (D:Bool->Mh->Prop),(D (rs.all (gY rs.length n)) Γ.M0)->jT (zgName 0) zNoIf (zCall Ko (fun _ _=>False) (zCons (zVar 0) (zCons (zVar 1) (zCons (zVar 2) zNil)))) rs [none,some (.int rs.length),some (.int (n:Nat))] Γ.M0 D:=fun n D hD=>by
   refine nG (gY rs.length n) (fun τ=>∃x,τ=[x,some (.int rs.length),some (.int (n:Nat))]) ⟨none,rfl⟩ (fun d hd τ ⟨x,e⟩ R hR=>?_) hD
   subst e
   exact ⟨d,rs.length,n,rfl,u8.mp hk d hd,hR _ ⟨_,rfl⟩⟩
  simp! only []
  refine dj (fun h1=>dj (fun h2=>?_) (fun h2=>⟨by decide,?_⟩)) (fun h1=>?_)
  ·rw [show jy (.tup rs)=false by simp at h1 h2;simp [jy];intro z;omega] at q
   exact .inl q
  ·have e:jy (.tup rs)=(rs.all (gY rs.length 2) || rs.all (gY rs.length 3)) :=by
    simp at h1 h2
    simp only [jy]
    rw [decide_eq_true (by omega),S5]
   rw [e] at q
   refine row 2 _ (dj (fun z=>?_) (fun z=>row 3 _ (dj (fun z2=>?_) (fun z2=>?_))))
   ·rw [z] at q;exact .inl q
   ·rw [z,z2] at q;exact .inl q
   ·rw [z,z2] at q;exact .inl q
  ·rw [show jy (.tup rs)=false by simp at h1;simp [jy];intro z;omega] at q
   exact .inl q
 |_=>first|exact ⟨by decide,.inl q⟩|exact nomatch hk
theorem vU:aM ["thing"] ["thing"] (ak d8):=⟨rfl,rfl,rfl,by decide +kernel,rfl,by decide +kernel,by decide +kernel⟩
theorem Bm {m:Int} {g:Int} (h:0<=g/\g<m):bV m (.int g)=true :=by simp [bV,h.1,h.2]
theorem nL {net:List (List Int)} {n:Nat} (o:aT net n):jy (eN net)=true :=by
 have hr:∀d∈net.map eI,gY (net.map eI).length n d=true:=fun d hd=>by
  obtain ⟨r,hr,rfl⟩:=sw.mp hd
  obtain ⟨h1,h2⟩:=o.row r hr
  simp only [gY,cb]
  rw [decide_eq_true h1,S5,u8]
  intro d hd
  obtain ⟨g,hg,rfl⟩:=sw.mp hd
  exact Bm (h2 g hg)
 have ho:=o.one
 have hn:=o.nine
 simp only [jy,eN]
 rw [decide_eq_true (by rw [cb];omega),S5]
 have ha:=u8.mpr hr
 rcases o.wid with rfl|rfl
 ·rw [ha];rfl
 ·rw [ha,Bool.or_true]
theorem nM (net:List (List Int)):yE (eN net)=true :=by
 simp only [yE,eN]
 rw [u8]
 intro d hd
 obtain ⟨r,_,rfl⟩:=sw.mp hd
 simp only [Dn,eI]
 rw [u8]
 intro d hd
 obtain ⟨g,hg,rfl⟩:=sw.mp hd
 rfl
def pX (C:ac):bZ:=fun ds M Q E=>∃d,ds=[d]/\yE d=true/\(jy d=true->Q .aB M)/\(jy d=false->E C M)
theorem vV {f f1:ac} {fd bC:im} {C0 C_NoNet:ac} {cs:List ac} (D:Df K mg "need_net" d8 ["thing"] f fd) (fN:Df K mg "is_net" jw ["thing"] f1 bC) (oM:FnOk P w K mg base bL 6 f1 bC ["thing"] (aR P w K tb Kp))
  (X_:uf K C0 cs) (qK:C_NoNet∈cs) (qM:mg "NoNet" = some (.ref C_NoNet)):FnOk P w K mg base (ck P w) 7 f fd ["thing"] (aR P w K tb (pX C_NoNet)) :=by
 refine gB D vU (fun ds M Q E hS=>by obtain ⟨d,e,_⟩:=hS;rw [e];rfl) fun A outer s E Γ ds Q' E' hP hw hK ht hE hr hS=>?_
 obtain ⟨d,e,hk,q1,q2⟩:=hS
 refine ⟨_,(aq (cw (gu (fu (aE oM (hr.mono (by decide)) rfl fN.mg fN.fn.kp fN.bd b5 hP hw hK ht XR.none (aa (qv 0) ae))))
   (aq (lh (X_.ex _ qK) KM rfl pC hE rfl qM (aa mO ae)))
   qss_nil)),?_⟩
 subst e
 simp! only []
 refine ⟨d,rfl,hk,dj (fun h=>?_) (fun h=>?_)⟩
 ·exact ⟨by decide,q2 (by simpa using h)⟩
 ·exact .inl (q1 (by simpa using h))
end
section
theorem sg {κ:Type} [DecidableEq κ] {step:κ->Nat->κ} {k:κ} {w:ba} {st:List κ×List ba}:∀{n a:Nat},a<n->step k a∈(visit step k w n st).1
 |n+1,a,h=>by
          rw [dC]
          obtain ⟨ks,ws,h1,_⟩:=jX step k w (visit step k w n st) n
          by_cases e:a=n
          ·subst e
           unfold dm
           split
           ·assumption
           ·exact ge _ (li.mpr rfl)
          ·rw [h1]
           exact AT _ (sg (by omega))
theorem pY {κ:Type} [DecidableEq κ] {step:κ->Nat->κ} {k:κ} {w:ba} {st:List κ×List ba}:∀{n:Nat} {x:κ},x∈(visit step k w n st).1->x∈st.1\/∃a,a<n/\x=step k a
 |0,x,h=>.inl h
 |n+1,x,h=>by
          rw [dC] at h
          have h2:x∈(visit step k w n st).1\/x=step k n :=by
           unfold dm at h
           split at h
           ·exact .inl h
           ·exact (tz.mp h).imp id li.mp
          rcases h2 with h2|h2
          ·exact (pY h2).imp id fun ⟨a,ha,e⟩=>⟨a,by omega,e⟩
          ·exact .inr ⟨n,by omega,h2⟩
theorem xj {κ:Type} [DecidableEq κ] {U:List κ} {step:κ->Nat->κ} {n most:Nat} {R:κ->Prop} (hs:∀k∈U,∀a,a<n->step k a∈U) (hm:U.length<=most) (hR:∀k,R k->∀a,a<n->R (step k a)):∀(fuel i:Nat) (st:List κ×List ba),dY U st->U.length<fuel+i->i<=st.1.length->
  (∀j k,st.1[j]?=some k->j<i->∀a,a<n->step k a∈st.1)->(∀k∈st.1,R k)->
  (∀k∈st.1,k∈(c7 step n most fuel i st).1)/\(∀k∈(c7 step n most fuel i st).1,R k/\∀a,a<n->step k a∈(c7 step n most fuel i st).1)
 |0,i,st,ok,hf,hi,hc,hr=>by have:=ok.le;omega
 |fuel+1,i,st,ok,hf,hi,hc,hr=>by
          have hle:=ok.le
          have hlen:=ok.len
          by_cases bp:i<st.1.length
          ·have h1:=bi bp
           have h2:=bi (show i<st.2.length by omega)
           have m7:st.1[i]∈st.1:=ss bp
           rw [kI h1 h2 (by omega)]
           obtain ⟨ks,ws,g1,g2⟩:=dZ step st.1[i] (st.2[i]'(by omega)) n st
           have sub:∀x∈st.1,x∈(visit step st.1[i] (st.2[i]'(by omega)) n st).1:=fun x hx=>by rw [g1];exact AT _ hx
           obtain ⟨r1,r2⟩:=xj hs hm hR fuel (i+1) (visit step st.1[i] (st.2[i]'(by omega)) n st) (ok.visit h2 fun a ha=>hs _ (ok.sub _ m7) a ha) (by omega) (by rw [g1,tw];omega) (fun j k hj SM a ha=>by
            rw [g1,l8 (by omega)] at hj
            by_cases e:j=i
            ·subst e
             rw [h1] at hj;cases hj
             exact sg ha
            ·exact sub _ (hc j k hj (by omega) a ha)) (fun k hk=>by
            rcases pY hk with z|⟨a,ha,rfl⟩
            ·exact hr k z
            ·exact hR _ (hr _ m7) a ha)
           exact ⟨fun k hk=>r1 k (sub k hk),r2⟩
          ·have e:c7 step n most (fuel+1) i st=st :=by
            unfold c7
            rw [Tk (by omega)]
           rw [e]
           exact ⟨fun k hk=>hk,fun k hk=>⟨hr k hk,fun a ha=>by
            obtain ⟨j,hj⟩:=mo.mp hk
            exact hc j k hj (by have:=(bv.mp hj).1;omega) a ha⟩⟩
end
section
inductive eJ (net:List (List Int)) (n:Nat) (s:Int):Int->Prop where
 |base:eJ net n s s
 |step {p:Int} {a:Nat} (h:eJ net n s p) (ha:a<n):eJ net n s (cg net p a)
theorem eJ.trans {net:List (List Int)} {n:Nat} {s p q:Int} (h:eJ net n s p) (h2:eJ net n p q):eJ net n s q :=by
 induction h2 with
 |base=>exact h
 |step _ ha ih=>exact ih.step ha
theorem Bn {net:List (List Int)} {n:Nat} (O:aT net n) {s p:Int} (hs:s∈ao net) (h:eJ net n s p):p∈ao net :=by
 induction h with
 |base=>exact hs
 |step _ ha ih=>exact eT O ih ha
theorem places_len {net:List (List Int)}:(ao net).length=net.length :=by simp [ao]
theorem sh {net:List (List Int)}:(ao net).Nodup :=by
 unfold ao
 refine Uc _ (fun a b h=>?_) Up
 intro e;exact h (Int.ofNat.inj e)
theorem Bo {net:List (List Int)}:(ao net).Pairwise (·<=·) :=by
 unfold ao
 refine Uc _ (fun a b h=>?_) (List.pairwise_lt_range (n:=net.length))
 show (a:Int)<=b
 omega
theorem g8 {net:List (List Int)} {n:Nat} (O:aT net n) {s:Int} (hs:s∈ao net):dY (ao net) (bM net n s):=
 bfs_ok (fun _ hk _ ha=>eT O hk ha) _ _ _ (jY hs)
theorem fY {net:List (List Int)} {n:Nat} (O:aT net n) {s p:Int} (hs:s∈ao net):p∈(bM net n s).1 ↔ eJ net n s p :=by
 have hl:=places_len (net:=net)
 have h9:=O.nine
 obtain ⟨h1,h2⟩:=xj (U:=ao net) (step:=cg net) (n:=n) (most:=511) (R:=eJ net n s) (fun _ hk _ ha=>eT O hk ha) (by omega) (fun k hk a ha=>hk.step ha) (net.length+1) 0 ([s],[""]) (jY hs) (by omega) (rb _) (fun j k _ hj=>absurd hj (Tv _)) (fun k hk=>by rw [li.mp hk];exact .base)
 constructor
 ·exact fun h=>(h2 p h).1
 ·intro h
  induction h with
  |base=>exact h1 s (li.mpr rfl)
  |step _ ha ih=>exact (h2 _ ih).2 _ ha
def iY (net:List (List Int)) (n:Nat) (a b:Int):Prop:=eJ net n a b/\eJ net n b a
noncomputable instance {net:List (List Int)} {n:Nat} {a b:Int}:Decidable (eJ net n a b):=FM _
noncomputable instance {net:List (List Int)} {n:Nat} {a b:Int}:Decidable (iY net n a b):=FM _
noncomputable def cY (net:List (List Int)) (n:Nat) (a:Int):List Int:=(ao net).filter fun b=>decide (iY net n a b)
def ib (net:List (List Int)) (n:Nat) (a:Int):Prop:=∀b∈cY net n a,a<=b
noncomputable instance {net:List (List Int)} {n:Nat} {a:Int}:Decidable (ib net n a):=FM _
noncomputable def cf (net:List (List Int)) (n i:Nat):List Int:=((ao net).take i).filter fun a=>decide (ib net n a)
noncomputable def bI (net:List (List Int)) (n:Nat):List (List Int):=(cf net n net.length).map (cY net n)
theorem dg {net:List (List Int)} {n:Nat} {a b:Int}:b∈cY net n a ↔ b∈ao net/\iY net n a b :=by
 unfold cY
 rw [Cn,decide_eq_true_eq]
theorem lM {net:List (List Int)} {n:Nat} {a:Int} (h:a∈ao net):a∈cY net n a:=dg.mpr ⟨h,.base,.base⟩
theorem pZ {net:List (List Int)} {n:Nat} {a:Int}:(cY net n a).Pairwise (·<=·):=Bo.filter _
theorem Gi {net:List (List Int)} {n:Nat} {a:Int}:(cY net n a).length<=net.length:=sK (Tl _ _) (Pv places_len)
def fH (net:List (List Int)) (n:Nat) (p:Int):List Int:=(bM net n p).1.filter fun g=>decide (p∈(bM net n g).1)
theorem jz {net:List (List Int)} {n:Nat} (O:aT net n) {p g:Int} (hp:p∈ao net):g∈fH net n p ↔ g∈cY net n p :=by
 unfold fH
 rw [Cn,decide_eq_true_eq,dg,fY O hp]
 constructor
 ·rintro ⟨h1,h2⟩
  have hg:=Bn O hp h1
  exact ⟨hg,h1,(fY O hg).mp h2⟩
 ·rintro ⟨hg,h1,h2⟩
  exact ⟨h1,(fY O hg).mpr h2⟩
theorem si {net:List (List Int)} {n:Nat} (O:aT net n) {p:Int} (hp:p∈ao net):(cY net n p).Perm (fH net n p):=
 (List.perm_ext_iff_of_nodup (sh.filter _) ((g8 O hp).nd.filter _)).mpr fun q=>(jz O hp).symm
theorem Bp {net:List (List Int)} {n:Nat} (O:aT net n) {p:Int} (hp:p∈ao net):sortI (fH net n p)=cY net n p:=(ub (si O hp) pZ).symm
theorem Dq {net:List (List Int)} {n:Nat} (O:aT net n) {p:Int} (hp:p∈ao net):(fH net n p).length<=9 :=by
 rw [<- (si O hp).length_eq]
 exact sK Gi O.nine
theorem Dr {net:List (List Int)} {n:Nat} (O:aT net n) {p m:Int} (hp:p∈ao net) (hm:m∈fH net n p) (h:∀a∈fH net n p,m<=a):p=m ↔ ib net n p :=by
 constructor
 ·rintro rfl b hb
  exact h b ((jz O hp).mpr hb)
 ·intro hh
  have h1:=hh m ((jz O hp).mp hm)
  have h2:=h p ((jz O hp).mpr (lM hp))
  omega
theorem cls_cons {net:List (List Int)} {n:Nat} {a:Int} (h:a∈ao net):∃v t,cY net n a=v::t/\(v=a ↔ ib net n a) :=by
 cases e:cY net n a with
 |nil=>have:=lM (n:=n) h;rw [e] at this;cases this
 |cons v t=>
  refine ⟨v,t,rfl,?_⟩
  have pw:=pZ (net:=net) (n:=n) (a:=a)
  rw [e,TW] at pw
  constructor
  ·intro ev b hb
   subst ev
   rw [e] at hb
   rcases lp.mp hb with rfl|hb
   ·exact UC _
   ·exact pw.1 b hb
  ·intro hh
   have h1:=hh v (by rw [e];exact i0)
   have hs:=lM (n:=n) h
   rw [e] at hs
   rcases lp.mp hs with rfl|hs
   ·rfl
   ·have:=pw.1 _ hs;omega
theorem om {net:List (List Int)} {n i:Nat} (hi:i<net.length):cf net n (i+1)=if ib net n (i:Int) then cf net n i++[(i:Int)] else cf net n i :=by
 have e:(ao net).take (i+1)=(ao net).take i++[(i:Int)] :=by
  have:(ao net)[i]?=some (i:Int) :=by unfold ao;rw [br,wP hi];rfl
  rw [List.take_succ,this];rfl
 unfold cf
 rw [e,List.filter_append]
 by_cases h:ib net n (i:Int)
 ·rw [if_pos h,MW,if_pos (decide_eq_true h)];rfl
 ·rw [if_neg h,MW,if_neg (by simpa using h)];simp
theorem p0 {net:List (List Int)} {n i:Nat}:(cf net n i).length<=net.length:=sK (Tl _ _) (sK (List.length_take_le' ..) (Pv places_len))
theorem dr {net:List (List Int)} {i:Nat} (h:i<net.length):((i:Nat):Int)∈ao net:=bA.mpr ⟨by omega,by omega⟩
end
section
variable {P:cr} {w:gc} {K:ar} {mg:ba->Option ag} {base:db} {tb:cu} {C_NoNet:ac}
theorem jA:aM ["net","reached","told","place","part"] ["net"] (ak gX):=⟨rfl,rfl,rfl,by decide +kernel,rfl,by decide +kernel,by decide +kernel⟩
theorem nU:aM ["net"] ["net"] (ak dn):=⟨rfl,rfl,rfl,by decide +kernel,rfl,by decide +kernel,by decide +kernel⟩
theorem oo {M0 M:Mh} (h:Keeps M0 M) {a:ac} (ha:M a=none):M0 a=none :=by
 cases e:M0 a with
 |none=>rfl
 |some u=>rw [h a u e] at ha;cases ha
structure j1 (M0 M:Mh) (a:ac) (bs:List ac) (rs:List (List Int)):Prop where
 a0:M0 a=none
 am:M a=some (.lst (bs.map .ptr))
 len:bs.length=rs.length
 bm:∀(j:Nat) (b:ac) (r:List Int),bs[j]?=some b->rs[j]?=some r->M b=some (.lst (r.map .int))
 b0:∀b∈bs,M0 b=none/\b≠a
 kp:Keeps M0 M
 oth:∀c o,M c=some o->M0 c=some o\/c=a\/∃r:List Int,o=.lst (r.map .int)
theorem j1.junk {M0 M:Mh} {a c:ac} {bs:List ac} {rs:List (List Int)} {r:List Int} (h:j1 M0 M a bs rs) (hc:M c=none):j1 M0 (au M c (.lst (r.map .int))) a bs rs :=by
 have sd:a≠c:=fun e=>by have:=h.am;rw [e,hc] at this;cases this
 have c0:=oo h.kp hc
 refine ⟨h.a0,by rw [ah sd];exact h.am,h.len,fun j b s hb hs=>?_,h.b0,.upd c0 h.kp,fun d o e=>?_⟩
 ·have:=h.bm j b s hb hs
  rw [ah (fun e=>by rw [e,hc] at this;cases this)]
  exact this
 ·by_cases z:d=c
  ·subst z;rw [updM_same] at e;cases e;exact .inr (.inr ⟨r,rfl⟩)
  ·rw [ah z] at e;exact h.oth d o e
theorem j1.snoc {M0 M:Mh} {a c:ac} {bs:List ac} {rs:List (List Int)} {r:List Int} (h:j1 M0 M a bs rs) (hc:M c=none):j1 M0 (au (au M c (.lst (r.map .int))) a (.lst (bs.map .ptr++[.ptr c]))) a (bs++[c]) (rs++[r]) :=by
 have sd:a≠c:=fun e=>by have:=h.am;rw [e,hc] at this;cases this
 have c0:=oo h.kp hc
 have hj:=h.junk (r:=r) hc
 refine ⟨h.a0,by rw [updM_same,wv];rfl,by simp [h.len],fun j b s hb hs=>?_,fun b hb=>?_,.upd h.a0 hj.kp,fun d o e=>?_⟩
 ·by_cases hi:j<bs.length
  ·rw [l8 hi] at hb
   rw [l8 (by rw [<- h.len];exact hi)] at hs
   rw [ah (h.b0 b (c8 hb)).2]
   exact hj.bm j b s hb hs
  ·have mi:=(bv.mp hb).1
   rw [tw,Da] at mi
   have e:j=bs.length :=by omega
   subst e
   rw [sB (ce _),PM] at hb
   rw [h.len,sB (ce _),PM] at hs
   cases hb;cases hs
   rw [ah (wn sd),updM_same]
 ·rcases tz.mp hb with z|z
  ·exact h.b0 b z
  ·rw [li.mp z];exact ⟨c0,wn sd⟩
 ·by_cases z:d=a
  ·exact .inr (.inl z)
  ·rw [ah z] at e;exact hj.oth d o e
theorem yF {m j:Nat} (h:j<m):(cD 0 m)[j]?=some (.int (j:Nat)) :=by
 unfold cD
 rw [br,wP h]
 show some (Dv.int (0+(j:Int)))=_
 rw [Nd]
def wF (net:List (List Int)) (n:Nat):Dv->Dv
 | .int i=>lF (bM net n i)
 |d=>d
def EY (net:List (List Int)) (n:Nat):List Dv:=(cD 0 net.length).map (wF net n)
theorem EZ {net:List (List Int)} {n:Nat} {p:Int} (h:p∈ao net):cj (EY net n) p=some (lF (bM net n p)) :=by
 obtain ⟨h1,h2⟩:=bA.mp h
 obtain ⟨j,rfl⟩:=Ch h1
 refine cE ?_
 unfold EY
 rw [br,yF (by omega)]
 rfl
theorem Kq {net:List (List Int)} {n:Nat} {p:Int}:(((bM net n p).1.map mf).map lu).filter (fun d=>match d with | .int g=>decide (p∈(bM net n g).1)|_=>false)=(fH net n p).map Dv.int :=by
 unfold fH
 rw [xz,List.filter_map]
 rfl
theorem Ds {S S':bZ} {cx:fQ} {k:Nat} {f:ac} {fd:im} {ps:List ba} (G:FnOk P w K mg base cx k f fd ps (aR P w K tb S')) (h:∀ds M Q E,S ds M Q E->S' ds M Q E):FnOk P w K mg base cx k f fd ps (aR P w K tb S):=
 G.imp fun vs H Q E ⟨β,ds,M,Q',E',e1,e2,e3,e4,m,r,hS,q,qe⟩=>⟨β,ds,M,Q',E',e1,e2,e3,e4,m,r,h _ _ _ _ hS,q,qe⟩
def Dt:bZ:=fun ds M Q _=>∃net n,ds=[eN net]/\aT net n/\((∀a bs M',j1 M M' a bs (bI net n)->Q (.ptr a) M')\/Q (.lst ((bI net n).map gC)) M)
theorem Du {f f1 f2:ac} {fd bC fd2:im} (D:Df K mg "parts" gX ["net"] f fd)
  (aQ:Df K mg "need_net" d8 ["thing"] f1 bC) (b6:FnOk P w K mg base (ck P w) 7 f1 bC ["thing"] (aR P w K tb (pX C_NoNet)))
  (aO:Df K mg "first_words" az ["net","start"] f2 fd2) (b7:FnOk P w K mg base bL 8 f2 fd2 ["net","start"] (aR P w K tb pU)) (bl:Bl mg) :
  FnOk P w K mg base (ck P w) 9 f fd ["net"] (aR P w K tb Dt) :=by
 refine gB D jA (fun ds M Q E hS=>by obtain ⟨net,n,e,_⟩:=hS;rw [e];rfl) fun A outer s E Γ ds Q' E' hP hw hK ht hE hr hS=>?_
 obtain ⟨net,n,e,O,q⟩:=hS
 refine ⟨_,(ai (c9 (aE b6 (hr.mono (by decide)) rfl aQ.mg aQ.fn.kp aQ.bd eX hP hw hK ht hE (aa (qv 0) ae)))
  (ai (aJ (i:=1) jA.nd rfl (EO rfl) (oh (N':=["place","net"]) (tn:=1) (idx:=[0]) rfl (show a7 ["net","reached","told","place","part"] (ak gX) _ ["place","net"] 1 [0] from by decide +kernel) (bw rfl bl.range_ (aa (ay (bP (K:=K) rfl hK) rfl bl.len_ kw (aa (qv 0) ae)) ae)) (fun _ _ _ _ _=>(aN (i:=0) (show LF [("place" : ba),("net" : ba)] from by decide +kernel) rfl (l6 rfl))) (fun _ _ _ _ _=>fW) (fun _ _ _ _ _=>(aE b7 (hr.mono (by decide)) rfl aO.mg aO.fn.kp aO.bd b5 hP hw hK ht XR.none (aa (qv 1) (aa (qv 0) ae))))))
  (ai (aJ (i:=2) jA.nd rfl (l6 rfl) (ku ae))
  (ai (PS.iI (cc ma rfl (bw rfl bl.range_ (aa (ay (bP (K:=K) rfl hK) rfl bl.len_ kw (aa (qv 0) ae)) ae)) (fun fX eP ew eK et=>by have hP:=hP.trans eP.symm;have hw:=hw.trans ew.symm;have hK:=hK.trans eK.symm;have ht:=ht.trans et.symm;exact ⟨(aN (i:=3) jA.nd rfl (EO rfl)),(ai (lj (i:=4) jA.nd rfl rfl (N':=["goal","place","reached"]) (tn:=1) (idx:=[3,1]) rfl (show a7 ["net","reached","told","place","part"] (ak gX) _ ["goal","place","reached"] 1 [3,1] from by decide +kernel) (Ga (bH (cB (K:=K) rfl) (qv 1) (qv 3) (fun _ _=>rfl))) (fun _ _ _ _ _=>(aN (i:=0) (show LF [("goal" : ba),("place" : ba),("reached" : ba)] from by decide +kernel) rfl (l6 rfl))) (fun _ _ _ _ _=>(wU (bt (L9 hr.units) (qv 1) (bH (cB (K:=K) rfl) (qv 2) (qv 0) (fun _ _=>rfl)) (by rfl)))) (fun _ _ _ _ _=>(qv 0)))
  (aq (cw (bt oC (qv 3) (ay (J4 (K:=K) rfl rfl) rfl bl.min_ pj (aa (qv 4) ae)) (bB _))
   (aq (c9 (la (K:=K) rfl Cf Nl No lb (qv 2) (aa (ay (A1 hP hw (K:=K) rfl rfl) rfl bl.sorted_ zS (aa (qv 4) ae)) ae))))
   qss_nil)))⟩)))
  (aq (a9 (qv 2))))))),?_⟩
 subst e
 have h9:=O.nine
 have big:(1000:Nat)<sizeLine :=by decide
 refine ⟨_,rfl,nM net,fun _=>?_,fun h=>by rw [nL O] at h;cases h⟩
 simp! only []
 refine ⟨by omega,by omega,by omega,nH (wF net n) (fun τ M=>(∃x,τ=[x,some (eN net)])/\M=Γ.M0) ⟨⟨_,rfl⟩,rfl⟩ (fun d hd τ M hI R hR=>?_) (fun τ M hI=>?_)⟩
 ·obtain ⟨⟨x,rfl⟩,rfl⟩:=hI
  obtain ⟨j,hj⟩:=mo.mp hd
  obtain ⟨rfl,E1⟩:=bE hj
  simp! only []
  rw [Nd] at hR
  exact ⟨net,n,_,rfl,O,dr E1,hR _ _ ⟨⟨_,rfl⟩,rfl⟩⟩
 obtain ⟨⟨x,rfl⟩,rfl⟩:=hI
 refine ⟨rb _,fun a ha=>⟨by omega,by omega,?_⟩⟩
 refine bg (fun i ρ M=>∃bs,(∃x3 x4,ρ=[some (eN net),some (.lst (EY net n)),some (.ptr a),x3,x4])/\j1 Γ.M0 M a bs ((cf net n i).map (cY net n))/\i<=net.length) ⟨[],⟨_,_,rfl⟩,⟨ha,updM_same,rfl,(fun j b r h=>nomatch h),(fun b h=>nomatch h),.upd ha .refl,fun c o e=>?_⟩,rb _⟩ (fun i d ρ M N hd hJ hN=>?_) (fun ρ M hJ=>?_)
 ·by_cases z:c=a
  ·exact .inr (.inl z)
  ·rw [ah z] at e;exact .inl e
 ·obtain ⟨bs,⟨x3,x4,rfl⟩,jB,hi⟩:=hJ
  obtain ⟨rfl,uS⟩:=bE hd
  have hp:=dr (net:=net) uS
  simp! only [EZ hp]
  show _<sizeLine/\_
  have ok:=g8 O hp
  have hle:=ok.le
  have cZ:=places_len (net:=net)
  refine ⟨by rw [cb];omega,?_⟩
  refine oH (fun d=>match d with | .int g=>decide ((i:Int)∈(bM net n g).1)|_=>false) (fun d hd R hR=>?_) ?_
  ·rw [xz] at hd
   obtain ⟨g,hg,rfl⟩:=sw.mp hd
   have N0:=Bn O hp ((fY O hp).mp hg)
   have RP:=g8 O N0
   show zTest (zOp (zDIn false) (zVar 1) (zOp zIx (zVar 2) (zVar 0))) [some (.int g),some (Dv.int i),some (Dv.lst (EY net n))] M R
   simp! only [EZ N0]
   show R (look ((bM net n g).1.map mf) ((bM net n g).2.map Dv.str) (mf (i:Int))).isSome M
   rw [ju kJ,OR,jZ RP.len]
   exact hR
  ·rw [Kq,Option.bind_some,rQ]
   have SN:=Dq (n:=n) O hp
   have Mq:(i:Int)∈fH net n i:=(jz O hp).mpr (lM hp)
   have SQ:bs.length<=9 :=by rw [jB.len,cb];exact sK p0 h9
   refine ⟨OL Mq,(fun t e=>nomatch e),fun m hm PF=>?_⟩
   have Ea:=Dr O hp hm PF
   refine dj (fun h=>?_) (fun h=>?_)
   ·have h:=of_decide_eq_true h
    rw [jB.am]
    refine ⟨trivial,by show (fH net n (i:Int)).length<64;omega,fun c hc=>?_⟩
    show match au M c (.lst ((sortI (fH net n (i:Int))).map .int)) a with|some (Mo.lst xs)=>_|_=>False
    rw [Bp O hp]
    have sd:a≠c:=fun e=>by have:=jB.am;rw [e,hc] at this;cases this
    rw [ah sd,jB.am]
    refine ⟨by rw [cb];omega,hN _ _ ⟨bs++[c],⟨_,_,rfl⟩,?_,uS⟩⟩
    rw [om uS,if_pos (Ea.mp h),wv]
    exact jB.snoc hc
   ·have h:=of_decide_eq_false h
    refine hN _ _ ⟨bs,⟨_,_,rfl⟩,?_,uS⟩
    rw [om uS,if_neg fun z=>h (Ea.mpr z)]
    exact jB
 ·obtain ⟨bs,⟨x3,x4,rfl⟩,jB,hi⟩:=hJ
  rw [rangeD_len] at jB
  simp! only []
  rcases q with q|q
  ·exact .inl (q a bs M jB)
  ·refine .inr ⟨jB.kp,_,.ptr (ds':=(bI net n).map gC) jB.a0 jB.am (by rw [cb,cb];exact jB.len) fun j d d' e1 e2=>?_,q⟩
   rw [br] at e1 e2
   obtain ⟨b,hb,rfl⟩:=io.mp e1
   obtain ⟨r,hr,rfl⟩:=io.mp e2
   refine .ptr (jB.b0 b (c8 hb)).1 (jB.bm j b r hb hr) rfl fun k d d' e1 e2=>?_
   rw [e1] at e2;cases e2
   obtain ⟨x,_,rfl⟩:=sw.mp (c8 e1)
   exact .pin (.int x)
def qN:bZ:=fun ds M Q _=>∃net n,ds=[eN net]/\aT net n/\Q (.lst ((bI net n).map gC)) M
theorem qa {net:List (List Int)} {n:Nat}:(bI net n).length<=net.length :=by unfold bI;rw [cb];exact p0
def va:bZ:=fun ds M Q _=>∃net n,ds=[eN net]/\aT net n/\Q (.bl (decide ((bI net n).length=1))) M
theorem nV {f f1:ac} {fd bC:im} (D:Df K mg "hangs_together" dn ["net"] f fd)
  (cU:Df K mg "parts" gX ["net"] f1 bC) (nN:FnOk P w K mg base (ck P w) 9 f1 bC ["net"] (aR P w K tb qN)) (bl:Bl mg) :
  FnOk P w K mg base (ck P w) 10 f fd ["net"] (aR P w K tb va) :=by
 refine gB D nU (fun ds M Q E hS=>by obtain ⟨net,n,e,_⟩:=hS;rw [e];rfl) fun A outer s E Γ ds Q' E' hP hw hK ht hE hr hS=>?_
 obtain ⟨net,n,e,O,q⟩:=hS
 refine ⟨_,(aq (a9 (iZ oC (ay (bP (K:=K) rfl hK) rfl bl.len_ kw (aa (aE nN (hr.mono (by decide)) rfl cU.mg cU.fn.kp cU.bd eX hP hw hK ht hE (aa (qv 0) ae)) ae)) av (bB _)))),?_⟩
 subst e
 have h9:=O.nine
 have hl:=qa (net:=net) (n:=n)
 simp! only []
 refine ⟨net,n,rfl,O,?_⟩
 simp! only []
 rw [show decide (((bI net n).length:Int)=1)=decide ((bI net n).length=1) from decide_eq_decide.mpr (by omega)]
 exact .inl q
end
section
variable {P:cr} {w:gc} {K:ar} {mg:ba->Option ag} {base:db} {tb:cu} {C0 C_NoPlace:ac} {cs:List ac}
theorem vW:aM ["net","thing"] ["net","thing"] (ak iU):=⟨rfl,rfl,rfl,by decide +kernel,rfl,by decide +kernel,by decide +kernel⟩
theorem sI:aM ["net","thing"] ["net","thing"] (ak eS):=⟨rfl,rfl,rfl,by decide +kernel,rfl,by decide +kernel,by decide +kernel⟩
def Bq:bZ:=fun ds M Q _=>∃net d,ds=[eN net,d]/\lH d=true/\Q (.bl (bV (net.length:Int) d)) M
theorem vX {f f1 f2:ac} {fd bC fd2:im} (D:Df K mg "is_place" iU ["net","thing"] f fd) (aK:Df K mg "is_whole_below" cH ["thing","many"] f1 bC) (bT:Df K mg "is_whole" d6 ["thing"] f2 fd2) (bl:Bl mg):FnOk P w K mg base bL 3 f fd ["net","thing"] (aR P w K tb Bq) :=by
 have fL:=iK (P:=P) (w:=w) (base:=base) (tb:=tb) aK bT bl
 refine gA D vW (fun ds M Q E hS=>by obtain ⟨net,d,e,_⟩:=hS;rw [e];rfl) fun A outer s E Γ ds Q' E' hP hw hK ht hr hS=>?_
 obtain ⟨net,d,e,hk,q⟩:=hS
 refine ⟨_,(aq (a9 (aE fL (hr.mono (by decide)) rfl aK.mg aK.fn.kp aK.bd b5 hP hw hK ht XR.none (aa (qv 1) (aa (ay (bP (K:=K) rfl hK) rfl bl.len_ kw (aa (qv 0) ae)) ae))))),?_⟩
 subst e
 simp! only []
 exact ⟨d,_,rfl,hk,.inl q⟩
def lN (C:ac):bZ:=fun ds M Q E=>∃net d,ds=[eN net,d]/\lH d=true/\(bV (net.length:Int) d=true->Q .aB M)/\(bV (net.length:Int) d=false->E C M)
theorem sJ {f f1:ac} {fd bC:im} (D:Df K mg "need_place" eS ["net","thing"] f fd) (e8:Df K mg "is_place" iU ["net","thing"] f1 bC) (lQ:FnOk P w K mg base bL 3 f1 bC ["net","thing"] (aR P w K tb Bq))
  (X_:uf K C0 cs) (m9:C_NoPlace∈cs) (ng:mg "NoPlace" = some (.ref C_NoPlace)):FnOk P w K mg base (ck P w) 4 f fd ["net","thing"] (aR P w K tb (lN C_NoPlace)) :=by
 refine gB D sI (fun ds M Q E hS=>by obtain ⟨net,d,e,_⟩:=hS;rw [e];rfl) fun A outer s E Γ ds Q' E' hP hw hK ht hE hr hS=>?_
 obtain ⟨net,d,e,hk,q1,q2⟩:=hS
 refine ⟨_,(aq (cw (gu (fu (aE lQ (hr.mono (by decide)) rfl e8.mg e8.fn.kp e8.bd b5 hP hw hK ht XR.none (aa (qv 0) (aa (qv 1) ae)))))
   (aq (lh (X_.ex _ m9) KM rfl pC hE rfl ng (aa mO ae)))
   qss_nil)),?_⟩
 subst e
 simp! only []
 refine ⟨net,d,rfl,hk,dj (fun h=>?_) (fun h=>?_)⟩
 ·exact ⟨by decide,q2 (by simpa using h)⟩
 ·exact .inl (q1 (by simpa using h))
theorem sj {m:Int} {d:Dv} (h:bV m d=true):∃i,d=.int i/\0<=i/\i<m :=by
 cases d with
 |int i=>simp only [bV,BB,decide_eq_true_eq] at h;exact ⟨i,rfl,h.1,h.2⟩
 |_=>cases h
end
section
variable {P:cr} {w:gc} {K:ar} {mg:ba->Option ag} {base:db} {tb:cu} {C_NoNet C_NoPlace:ac}
theorem Kr:aM ["net","start","goal"] ["net","start","goal"] (ak sZ):=⟨rfl,rfl,rfl,by decide +kernel,rfl,by decide +kernel,by decide +kernel⟩
def cy:Option ba->Dv|some w=>.str w|none=>.aB
def cP (net:List (List Int)) (n:Nat) (s g:Int):Option ba:=look (bM net n s).1 (bM net n s).2 g
theorem Dw (o:Option ba):(o.map Dv.str).getD .aB=cy o :=by cases o <;> rfl
def Ks (C:ac):bZ:=fun ds M Q E=>∃net n d1 d2,ds=[eN net,d1,d2]/\aT net n/\lH d1=true/\lH d2=true/\(∀s g,d1=.int s->d2=.int g->s∈ao net->g∈ao net->Q (cy (cP net n s g)) M)/\((bV (net.length:Int) d1 && bV (net.length:Int) d2)=false->E C M)
theorem Kt {f f1 f2 f3:ac} {fd bC fd2 j0:im} (D:Df K mg "way" sZ ["net","start","goal"] f fd)
  (aQ:Df K mg "need_net" d8 ["thing"] f1 bC) (b6:FnOk P w K mg base (ck P w) 7 f1 bC ["thing"] (aR P w K tb (pX C_NoNet)))
  (bo:Df K mg "need_place" eS ["net","thing"] f2 fd2) (du:FnOk P w K mg base (ck P w) 4 f2 fd2 ["net","thing"] (aR P w K tb (lN C_NoPlace)))
  (aO:Df K mg "first_words" az ["net","start"] f3 j0) (b7:FnOk P w K mg base bL 8 f3 j0 ["net","start"] (aR P w K tb pU)) :
  FnOk P w K mg base (ck P w) 9 f fd ["net","start","goal"] (aR P w K tb (Ks C_NoPlace)) :=by
 refine gB D Kr (fun ds M Q E hS=>by obtain ⟨net,n,d1,d2,e,_⟩:=hS;rw [e];rfl) fun A outer s0 E Γ ds Q' E' hP hw hK ht hE hr hS=>?_
 obtain ⟨net,n,d1,d2,e,O,k1,k2,q1,q2⟩:=hS
 refine ⟨_,(ai (c9 (aE b6 (hr.mono (by decide)) rfl aQ.mg aQ.fn.kp aQ.bd eX hP hw hK ht hE (aa (qv 0) ae)))
  (ai (c9 (aE du (hr.mono (by decide)) rfl bo.mg bo.fn.kp bo.bd eX hP hw hK ht hE (aa (qv 0) (aa (qv 1) ae))))
  (ai (c9 (aE du (hr.mono (by decide)) rfl bo.mg bo.fn.kp bo.bd eX hP hw hK ht hE (aa (qv 0) (aa (qv 2) ae))))
  (aq (a9 (J7 (K:=K) PySem.F.plainAttrs_dict IS PySem.F.type_dict_get (JB hr.units) (aE b7 (hr.mono (by decide)) rfl aO.mg aO.fn.kp aO.bd b5 hP hw hK ht XR.none (aa (qv 0) (aa (qv 1) ae))) (aa (qv 2) ae))))))),?_⟩
 subst e
 refine ⟨_,rfl,nM net,fun _=>?_,fun h=>by rw [nL O] at h;cases h⟩
 refine ⟨net,d1,rfl,k1,fun h1=>?_,fun h1=>q2 (by rw [h1];rfl)⟩
 refine ⟨net,d2,rfl,k2,fun h2=>?_,fun h2=>q2 (by rw [h2,Bool.and_false])⟩
 obtain ⟨s,rfl,s1,s2⟩:=sj h1
 obtain ⟨g,rfl,g1,g2⟩:=sj h2
 refine ⟨net,n,s,rfl,O,bA.mpr ⟨s1,s2⟩,?_⟩
 simp! only [lF,ju kJ,Dw]
 exact .inl (q1 s g rfl rfl (bA.mpr ⟨s1,s2⟩) (bA.mpr ⟨g1,g2⟩))
end
section
inductive iz (net:List (List Int)) (n:Nat):Nat->Int->Int->Prop where
 |nil (s:Int):iz net n 0 s s
 |snoc {L:Nat} {s p:Int} {a:Nat} (h:iz net n L s p) (ha:a<n):iz net n (L+1) s (cg net p a)
theorem iz.app {net:List (List Int)} {n K L:Nat} {s p q:Int} (h:iz net n K s p) (h2:iz net n L p q):iz net n (K+L) s q :=by
 induction h2 with
 |nil=>exact h
 |snoc _ ha ih=>exact (ih h).snoc ha
theorem Gj {net:List (List Int)} {n:Nat} {s p:Int} (h:eJ net n s p):∃L,iz net n L s p :=by
 induction h with
 |base=>exact ⟨0,.nil s⟩
 |step _ ha ih=>obtain ⟨L,w⟩:=ih;exact ⟨L+1,w.snoc ha⟩
theorem Ku {net:List (List Int)} {n L:Nat} (O:aT net n) {s p:Int} (hs:s∈ao net) (h:iz net n L s p):p∈ao net :=by
 induction h with
 |nil=>exact hs
 |snoc _ ha ih=>exact eT O (ih hs) ha
def lR (W:Nat->Int->Prop) (st:List Int×List ba):Prop:=st.1.length=st.2.length/\∀(i:Nat) (k:Int) (w:ba),st.1[i]?=some k->st.2[i]?=some w->W w.length k
theorem Br {W:Nat->Int->Prop} {step:Int->Nat->Int} {k:Int} {w:ba} {st:List Int×List ba} {a:Nat} (o:lR W st) (h:W (w.length+1) (step k a)):lR W (dm step k w st a) :=by
 unfold dm
 split
 ·exact o
 ·refine ⟨by simp [o.1],fun i k2 w2 h1 h2=>?_⟩
  by_cases hi:i<st.1.length
  ·rw [l8 hi] at h1
   rw [l8 (by rw [<- o.1];exact hi)] at h2
   exact o.2 i k2 w2 h1 h2
  ·have hl:=(bv.mp h1).1
   rw [tw,Da] at hl
   have e:i=st.1.length :=by omega
   subst e
   rw [sB (ce _),PM] at h1
   rw [o.1,sB (ce _),PM] at h2
   cases h1;cases h2
   rw [eY,gW]
   exact h
theorem qb {W:Nat->Int->Prop} {step:Int->Nat->Int} {k:Int} {w:ba} {st:List Int×List ba}:∀{n:Nat},lR W st->(∀a,a<n->W (w.length+1) (step k a))->lR W (visit step k w n st)
 |0,o,_=>o
 |n+1,o,h=>by
          rw [dC]
          exact Br (qb o fun a ha=>h a (by omega)) (h n (by omega))
theorem vb {W:Nat->Int->Prop} {step:Int->Nat->Int} {n most:Nat} (hW:∀L k,W L k->∀a,a<n->W (L+1) (step k a)):∀(fuel i:Nat) (st:List Int×List ba),lR W st->lR W (c7 step n most fuel i st)
 |0,_,_,o=>o
 |fuel+1,i,st,o=>by
          cases e1:st.1[i]? with
          |none=>unfold c7;rw [e1];exact o
          |some k=>
           cases e2:st.2[i]? with
           |none=>unfold c7;rw [e1,e2];exact o
           |some w=>
            by_cases h:st.1.length<=most
            ·rw [kI e1 e2 h]
             exact vb hW fuel _ _ (qb o fun a ha=>hW _ _ (o.2 i k w e1 e2) a ha)
            ·unfold c7
             rw [e1,e2]
             simp only [if_neg h]
             exact o
def qO (net:List (List Int)) (n:Nat) (p:Int):ba:=(look (bM net n 0).1 (bM net n 0).2 p).getD ""
def cI (net:List (List Int)) (n:Nat) (p:Int):Nat:=(qO net n p).length
theorem g9 {net:List (List Int)} {n:Nat} (O:aT net n):(0:Int)∈ao net:=bA.mpr ⟨UC _,by have:=O.one;omega⟩
theorem Dx {net:List (List Int)} {n:Nat} (O:aT net n) {p:Int} (h:eJ net n 0 p):look (bM net n 0).1 (bM net n 0).2 p=some (qO net n p)/\iz net n (cI net n p) 0 p :=by
 have hp:=(fY O (g9 O)).mpr h
 obtain ⟨i,hi⟩:=mo.mp hp
 have ok:=g8 O (g9 O)
 have hl:=(bv.mp hi).1
 have hw:=bi (show i<(bM net n 0).2.length by rw [<- ok.len];exact hl)
 have e:=i6 ok.nd hi hw
 have pr:lR (fun L k=>iz net n L 0 k) (bM net n 0):=vb (fun L k w a ha=>w.snoc ha) _ _ _ ⟨rfl,fun i k w h1 h2=>by
  match i with
  |0=>cases h1;cases h2;exact .nil _
  |i+1=>exact nomatch h1⟩
 have e2:qO net n p=(bM net n 0).2[i]'(by rw [<- ok.len];exact hl) :=by unfold qO;rw [e];rfl
 refine ⟨by rw [e,e2],?_⟩
 unfold cI
 rw [e2]
 exact pr.2 i p _ hi hw
def gJ (net:List (List Int)) (n:Nat):Prop:=∀a∈ao net,∀b∈ao net,eJ net n a b
noncomputable instance {net:List (List Int)} {n:Nat}:Decidable (gJ net n):=FM _
structure Dy (net:List (List Int)) (n g:Nat):Prop where
 dv:∀p∈ao net,∀a,a<n->(g:Int) ∣ (cI net n p:Int)+1 - cI net n (cg net p a)
 mx:∀c:Nat,(∀p∈ao net,∀a,a<n->(c:Int) ∣ (cI net n p:Int)+1 - cI net n (cg net p a))->c ∣ g
theorem Bs {net:List (List Int)} {n g L:Nat} (O:aT net n) (h:∀p∈ao net,∀a,a<n->(g:Int) ∣ (cI net n p:Int)+1 - cI net n (cg net p a)) {s q:Int} (hs:s∈ao net) (w:iz net n L s q):(g:Int) ∣ (cI net n s:Int)+L - cI net n q :=by
 induction w with
 |nil s=>exact ⟨0,by omega⟩
 | @snoc L s p a w ha ih=>
  have hp:=Ku O hs w
  obtain ⟨x,hx⟩:=ih hs
  obtain ⟨y,hy⟩:=h p hp a ha
  exact ⟨x+y,by rw [Int.mul_add,<- hx,<- hy];omega⟩
theorem xk {net:List (List Int)} {n g:Nat} (O:aT net n) (W:gJ net n) (h:Dy net n g):0<g :=by
 have h0:=g9 O
 have hn:0<n :=by rcases O.wid with h|h <;> omega
 have hq:=eT O h0 hn
 obtain ⟨e,we⟩:=Gj (W _ hq 0 h0)
 have w1:=((iz.nil (net:=net) (n:=n) 0).snoc hn).app we
 have:=Bs O h.dv h0 w1
 rw [show (cI net n 0:Int)+((0+1+e:Nat):Int) - cI net n 0=((0+1+e:Nat):Int) by omega] at this
 exact Nat.pos_of_dvd_of_pos (Int.natCast_dvd_natCast.mp this) (by omega)
theorem jC {net:List (List Int)} {n:Nat} (O:aT net n):(bI net n).length=1 ↔ gJ net n :=by
 have h0:=g9 O
 have hl:(bI net n).length=(cf net n net.length).length :=by unfold bI;rw [cb]
 have hm:∀a,a∈cf net n net.length ↔ a∈ao net/\ib net n a:=fun a=>by
  unfold cf
  rw [ON (Pv places_len),Cn,decide_eq_true_eq]
 have hd:∀a∈ao net,∃h,h∈cf net n net.length/\iY net n a h:=fun a ha=>by
  obtain ⟨v,t,e,_⟩:=cls_cons (n:=n) ha
  have hv:v∈cY net n a :=by rw [e];exact i0
  obtain ⟨pv,sv⟩:=dg.mp hv
  refine ⟨v,(hm v).mpr ⟨pv,fun b hb=>?_⟩,sv⟩
  obtain ⟨pb,sb⟩:=dg.mp hb
  have m4:b∈cY net n a:=dg.mpr ⟨pb,sv.1.trans sb.1,sb.2.trans sv.2⟩
  have pw:=pZ (net:=net) (n:=n) (a:=a)
  rw [e,TW] at pw
  rw [e] at m4
  rcases lp.mp m4 with rfl|m4
  ·exact UC _
  ·exact pw.1 b m4
 rw [hl]
 constructor
 ·intro h1 a ha b hb
  obtain ⟨x,hx⟩:=List.length_eq_one_iff.mp h1
  obtain ⟨u,hu,su⟩:=hd a ha
  obtain ⟨v,hv,sv⟩:=hd b hb
  rw [hx,li] at hu hv
  subst hu;subst hv
  exact su.1.trans sv.2
 ·intro W
  have RQ:∀a∈cf net n net.length,a=0:=fun a ha=>by
   obtain ⟨pa,ha⟩:=(hm a).mp ha
   have:=ha 0 (dg.mpr ⟨h0,W a pa 0 h0,W 0 h0 a pa⟩)
   have:=(bA.mp pa).1
   omega
  have nd:(cf net n net.length).Nodup :=by
   unfold cf
   rw [ON (Pv places_len)]
   exact sh.filter _
  obtain ⟨z,hz,_⟩:=hd 0 h0
  have:=fE _ [0] nd fun k hk=>by rw [RQ k hk];exact li.mpr rfl
  have:=OL hz
  rw [Da] at *
  omega
end
section
variable {P:cr} {w:gc} {K:ar} {mg:ba->Option ag} {base:db} {tb:cu} {C_NoWhole:ac}
theorem fk:aM ["one","other"] ["one","other"] (ak d7):=⟨rfl,rfl,rfl,by decide +kernel,rfl,by decide +kernel,by decide +kernel⟩
theorem sL:aM ["net"] ["net"] (ak gD):=⟨rfl,rfl,rfl,by decide +kernel,rfl,by decide +kernel,by decide +kernel⟩
def Kv:bZ:=fun ds M Q _=>∃a b:Int,ds=[.int a,.int b]/\Q (.int (UE a.natAbs b.natAbs:Nat)) M
theorem Gk (a b:Nat):UE b (a % b)=UE a b :=by rw [Nat.gcd_comm,<- Nat.gcd_rec,Nat.gcd_comm]
theorem nW {f:ac} {fd:im} (D:Df K mg "common_divisor" d7 ["one","other"] f fd) (bl:Bl mg) :
  FnOk P w K mg base bL 1 f fd ["one","other"] (aR P w K tb Kv) :=by
 refine gA D fk (fun ds M Q E hS=>by obtain ⟨a,b,e,_⟩:=hS;rw [e];rfl) fun A outer s E Γ ds Q' E' hP hw hK ht hr hS=>?_
 obtain ⟨a,b,e,q⟩:=hS
 refine ⟨_,(ai (A6 (i:=0) (j:=1) rfl fk.nd rfl rfl (by decide) rfl rfl (aa (ay yk rfl bl.abs_ tY (aa (qv 0) ae)) (aa (ay yk rfl bl.abs_ tY (aa (qv 1) ae)) ae)) rfl)
  (ai (oB ma (bt uC (qv 1) av (bB _))
   (aq (A6 (i:=0) (j:=1) rfl fk.nd rfl rfl (by decide) rfl rfl (aa (qv 1) (aa (a8 gz (qv 0) (qv 1)) ae)) rfl)))
  (aq (a9 (qv 0))))),?_⟩
 subst e
 simp! only []
 have ab:∀z:Int,(if z<0 then -z else z)=(z.natAbs:Int):=fun z=>by split <;> omega
 refine ⟨fun m ρ M=>∃x y:Nat,m=y/\ρ=[some (.int (x:Nat)),some (.int (y:Nat))]/\UE x y=UE a.natAbs b.natAbs/\M=Γ.M0,⟨_,a.natAbs,b.natAbs,rfl,by rw [ab,ab],rfl,rfl⟩,?_⟩
 rintro m ρ M ⟨x,y,rfl,rfl,hg,rfl⟩
 simp! only []
 refine dj (fun h=>?_) (fun h=>?_)
 ·have h:=of_decide_eq_true h
  have hm:=Ue x (show 0<m by omega)
  exact ⟨by omega,x % m,hm,m,x % m,rfl,by rw [Int.natCast_emod],by rw [Gk];exact hg⟩
 ·have h:=of_decide_eq_false h
  have e:m=0 :=by omega
  subst e
  rw [Nat.gcd_zero_right] at hg
  rw [hg]
  exact .inl q
theorem sM {f f1:ac} {fd bC:im} {C0:ac} {cs:List ac} (D:Df K mg "need_whole" gD ["net"] f fd) (aL:Df K mg "hangs_together" dn ["net"] f1 bC) (ee:FnOk P w K mg base (ck P w) 10 f1 bC ["net"] (aR P w K tb va))
  (X_:uf K C0 cs) (nh:C_NoWhole∈cs) (ni:mg "NoWhole" = some (.ref C_NoWhole)) :
  FnOk P w K mg base (ck P w) 11 f fd ["net"] (aR P w K tb fun ds M Q E=>∃net n,ds=[eN net]/\aT net n/\(gJ net n->Q .aB M)/\(¬ gJ net n->E C_NoWhole M)) :=by
 refine gB D sL (fun ds M Q E hS=>by obtain ⟨net,n,e,_⟩:=hS;rw [e];rfl) fun A outer s E Γ ds Q' E' hP hw hK ht hE hr hS=>?_
 obtain ⟨net,n,e,O,q1,q2⟩:=hS
 refine ⟨_,(aq (cw (gu (fu (aE ee (hr.mono (by decide)) rfl aL.mg aL.fn.kp aL.bd eX hP hw hK ht hE (aa (qv 0) ae))))
   (aq (lh (X_.ex _ nh) KM rfl pC hE rfl ni (aa mO ae)))
   qss_nil)),?_⟩
 subst e
 simp! only []
 refine ⟨net,n,rfl,O,?_⟩
 simp! only []
 refine dj (fun h=>?_) (fun h=>?_)
 ·have h:¬ (bI net n).length=1 :=by simpa using h
  exact ⟨by decide,q2 fun w=>h ((jC O).mpr w)⟩
 ·have h:(bI net n).length=1 :=by simpa using h
  exact .inl (q1 ((jC O).mp h))
end
section
variable {P:cr} {w:gc} {K:ar} {mg:ba->Option ag} {base:db} {tb:cu} {C_NoWhole:ac}
theorem fZ:aM ["net","words","far","size","place","row","goal"] ["net"] (ak kM):=⟨rfl,rfl,rfl,by decide +kernel,rfl,by decide +kernel,by decide +kernel⟩
def yG (C:ac):bZ:=fun ds M Q E=>∃net n,ds=[eN net]/\aT net n/\(gJ net n->Q .aB M)/\(¬ gJ net n->E C M)
def yH (net:List (List Int)) (n g:Nat):List Int:=(ao net).map fun p=>(cI net n p:Int) % g
def E2 (C:ac):bZ:=fun ds M Q E=>∃net n,ds=[eN net]/\aT net n/\(gJ net n->∀g,Dy net n g->Q (.tup [.int (g:Nat),.tup ((yH net n g).map Dv.int)]) M)/\(¬ gJ net n->E C M)
def Dz (net:List (List Int)) (n:Nat):Dv->Dv
 | .int p=>.int (cI net n p:Nat)
 |d=>d
def lU (net:List (List Int)) (n:Nat):List Dv:=(ao net).map fun p=>.int (cI net n p:Nat)
theorem Mr (net:List (List Int)) (n:Nat):(cD 0 net.length).map (Dz net n)=lU net n :=by
 unfold cD lU ao
 rw [xz,xz]
 refine List.map_congr_left fun i _=>?_
 show Dz net n (.int (0+(i:Int)))=_
 rw [Nd]
 rfl
theorem Bt {net:List (List Int)} {n:Nat} {p:Int} (h:p∈ao net):cj (lU net n) p=some (.int (cI net n p:Nat)) :=by
 obtain ⟨h1,h2⟩:=bA.mp h
 obtain ⟨i,rfl⟩:=Ch h1
 refine cE ?_
 unfold lU ao
 rw [xz,br,wP (by omega)]
 rfl
structure iG (net:List (List Int)) (n k l g:Nat):Prop where
 dv:∀(i:Nat) a,a<n->i<k\/(i=k/\a<l)->i<net.length->(g:Int) ∣ (cI net n (i:Int):Int)+1 - cI net n (cg net (i:Int) a)
 mx:∀c:Nat,(∀p∈ao net,∀a,a<n->(c:Int) ∣ (cI net n p:Int)+1 - cI net n (cg net p a))->c ∣ g
theorem iG.next {net:List (List Int)} {n k l g:Nat} (h:iG net n k l g) (hk:k<net.length) (hl:l<n):iG net n k (l+1) (UE g ((cI net n (k:Int):Int)+1 - cI net n (cg net (k:Int) l)).natAbs) :=by
 refine ⟨fun i a ha hi il=>?_,fun c hc=>Nat.dvd_gcd (h.mx c hc) (Int.ofNat_dvd_left.mp (hc _ (dr hk) l hl))⟩
 by_cases e:i=k/\a=l
 ·obtain ⟨rfl,rfl⟩:=e
  exact Int.ofNat_dvd_left.mpr (Nat.gcd_dvd_right _ _)
 ·have:=h.dv i a ha (by omega) il
  exact Int.dvd_trans (Int.natCast_dvd_natCast.mpr (Nat.gcd_dvd_left _ _)) this
theorem iG.up {net:List (List Int)} {n k g:Nat} (h:iG net n k n g):iG net n (k+1) 0 g:=⟨fun i a ha hi il=>h.dv i a ha (by omega) il,h.mx⟩
theorem iG.all {net:List (List Int)} {n l g:Nat} (h:iG net n net.length l g):Dy net n g:=⟨fun p hp a ha=>by
 obtain ⟨h1,h2⟩:=bA.mp hp
 obtain ⟨i,rfl⟩:=Ch h1
 exact h.dv i a ha (by omega) (by omega),h.mx⟩
theorem iG.zero {net:List (List Int)} {n:Nat}:iG net n 0 0 0:=⟨fun i a ha hi=>by omega,fun c _=>Nat.dvd_zero c⟩
theorem Kw {net:List (List Int)} {n:Nat} (O:aT net n) {p:Int} (h:eJ net n 0 p):cI net n p<=9 :=by
 have hp:=(fY O (g9 O)).mpr h
 obtain ⟨i,hi⟩:=mo.mp hp
 have ok:=g8 O (g9 O)
 have hl:=(bv.mp hi).1
 have hw:=bi (show i<(bM net n 0).2.length by rw [<- ok.len];exact hl)
 have e:=i6 ok.nd hi hw
 have e2:qO net n p=(bM net n 0).2[i]'(by rw [<- ok.len];exact hl) :=by unfold qO;rw [e];rfl
 have:=ok.wl i _ hw
 have h9:=O.nine
 have hle:=ok.le
 rw [places_len] at hle
 unfold cI
 rw [e2]
 omega
theorem DA {net:List (List Int)} {k l:Nat} {x:Int} (hk:k<net.length) (h:(net.getD k [])[l]?=some x):cg net (k:Int) l=x :=by
 unfold cg
 rw [ut,wS,h]
 rfl
def Kx (g:Nat):Dv->Dv
 | .int j=>.int (j % (g:Int))
 |d=>d
theorem Gm {f f1 f2 f3:ac} {fd bC fd2 j0:im} {Bu bW:ac} (D:Df K mg "beat" kM ["net"] f fd) (qd:tZ base fd Bu bW) (hp:bW∈tb) (di:∃bm ob,SX base mainGlobals mg bm ob)
  (dQ:Df K mg "need_whole" gD ["net"] f1 bC) (jD:FnOk P w K mg base (ck P w) 11 f1 bC ["net"] (aR P w K tb (yG C_NoWhole)))
  (aO:Df K mg "first_words" az ["net","start"] f2 fd2) (b7:FnOk P w K mg base bL 8 f2 fd2 ["net","start"] (aR P w K tb pU))
  (cJ:Df K mg "common_divisor" d7 ["one","other"] f3 j0) (oN:FnOk P w K mg base bL 1 f3 j0 ["one","other"] (aR P w K tb Kv)) (bl:Bl mg) :
  FnOk P w K mg base (ck P w) 12 f fd ["net"] (aR P w K tb (E2 C_NoWhole)) :=by
 refine gB D fZ (fun ds M Q E hS=>by obtain ⟨net,n,e,_⟩:=hS;rw [e];rfl) fun A outer s E Γ ds Q' E' hP hw hK ht hE hr hS=>?_
 obtain ⟨net,n,e,O,q1,q2⟩:=hS
 have jE:bW∈Γ.tb:=ht▸hp
 refine ⟨_,(ai (c9 (aE jD (hr.mono (by decide)) rfl dQ.mg dQ.fn.kp dQ.bd eX hP hw hK ht hE (aa (qv 0) ae)))
  (ai (aJ (i:=1) fZ.nd rfl (EO rfl) (aE b7 (hr.mono (by decide)) rfl aO.mg aO.fn.kp aO.bd b5 hP hw hK ht XR.none (aa (qv 0) (aa av ae))))
  (ai (lj (i:=2) fZ.nd rfl rfl (N':=["place","words"]) (tn:=1) (idx:=[1]) rfl (show a7 ["net","words","far","size","place","row","goal"] (ak kM) _ ["place","words"] 1 [1] from by decide +kernel) (bw rfl bl.range_ (aa (ay (bP (K:=K) rfl hK) rfl bl.len_ kw (aa (qv 0) ae)) ae)) (fun _ _ _ _ _=>(aN (i:=0) (show LF [("place" : ba),("words" : ba)] from by decide +kernel) rfl (l6 rfl))) (fun _ _ _ _ _=>fW) (fun _ _ _ _ _=>(ay (bP (K:=K) rfl hK) rfl bl.len_ kw (aa (dM hr.units (qv 1) (qv 0) (fun _ _=>rfl)) ae))))
  (ai (aJ (i:=3) fZ.nd rfl (EO rfl) av)
  (ai (PS.iI (cc ma rfl (F1 false (K:=K) rfl rfl bl.enumerate_ (qv 0)) (fun fX eP ew eK et=>by have hP:=hP.trans eP.symm;have hw:=hw.trans ew.symm;have hK:=hK.trans eK.symm;have ht:=ht.trans et.symm;have jE:=et.symm▸jE;exact ⟨(Af (n:=2) rfl (k4 (aN (i:=4) fZ.nd rfl (l6 rfl)) (k4 (aN (i:=5) fZ.nd rfl (l6 rfl)) wQ))),(aq (PS.iI (cc ma rfl (pH (K:=K) rfl (qv 5)) (fun fX eP ew eK et=>by have hP:=hP.trans eP.symm;have hw:=hw.trans ew.symm;have hK:=hK.trans eK.symm;have ht:=ht.trans et.symm;have jE:=et.symm▸jE;exact ⟨(aN (i:=6) fZ.nd rfl (l6 rfl)),(aq (aJ (i:=3) fZ.nd rfl (EO rfl) (aE oN (hr.mono (by decide)) rfl cJ.mg cJ.fn.kp cJ.bd b5 hP hw hK ht XR.none (aa (qv 3) (aa (a8 yg (a8 fD (bH (cB (K:=K) rfl) (qv 2) (qv 4) (fun _ _=>rfl)) av) (bH (cB (K:=K) rfl) (qv 2) (qv 6) (fun _ _=>rfl))) ae)))))⟩))))⟩)))
  (aq (a9 (fv (aa (qv 3) (aa (vN (k:=0) (N':=["steps","size"]) (tn:=1) (idx:=[3]) jE (hr.mono (by decide)) rfl (show a7 ["net","words","far","size","place","row","goal"] (ak kM) _ ["steps","size"] 1 [3] from by decide +kernel) rfl rfl qd.code qd.hd di rfl bl.tuple_ (ky (K:=K) rfl (qv 2)) (fun _ _ _ _ _ _ _ hr=>(aN (i:=0) (show LF [("steps" : ba),("size" : ba)] from by decide +kernel) rfl (l6 rfl))) (fun _ _ _ _ _ _ _ hr=>fW) (fun _ _ _ _ _ _ _ hr=>(a8 gz (qv 0) (qv 1)))) ae)))))))))),?_⟩
 subst e
 have h9:=O.nine
 have RA:=O.wid
 have big:(1000:Nat)<sizeLine :=by decide
 have h0:=g9 O
 simp! only []
 refine ⟨net,n,rfl,O,fun W=>?_,q2⟩
 have ql:∀p∈ao net,eJ net n 0 p:=fun p hp=>W 0 h0 p hp
 simp! only []
 refine ⟨net,n,_,rfl,O,h0,?_⟩
 simp! only []
 refine ⟨by omega,by omega,by omega,nH (Dz net n) (fun τ M=>(∃x,τ=[x,some (lF (bM net n 0))])/\M=Γ.M0) ⟨⟨_,rfl⟩,rfl⟩ (fun d hd τ M hI R hR=>?_) (fun τ M hI=>?_)⟩
 ·obtain ⟨⟨x,rfl⟩,rfl⟩:=hI
  obtain ⟨j,hj⟩:=mo.mp hd
  obtain ⟨rfl,E1⟩:=bE hj
  obtain ⟨lk,_⟩:=Dx O (ql _ (dr E1))
  simp! only []
  show (match some (look ((bM net n 0).1.map mf) ((bM net n 0).2.map Dv.str) (mf (j:Int))) with|some (some r)=>_|_=>False)
  rw [ju kJ,lk]
  rw [Nd] at hR
  have hf:=Kw O (ql _ (dr E1))
  exact ⟨by show cI net n (j:Int)<=sizeLine;omega,hR _ _ ⟨⟨_,rfl⟩,rfl⟩⟩
 obtain ⟨⟨x,rfl⟩,rfl⟩:=hI
 rw [Mr]
 refine bg (fun k ρ M=>(∃g x4 x5 x6,ρ=[some (eN net),some (lF (bM net n 0)),some (.lst (lU net n)),some (.int (g:Nat)),x4,x5,x6]/\iG net n k 0 g)/\M=Γ.M0/\k<=net.length) ⟨⟨0,_,_,_,rfl,.zero⟩,rfl,rb _⟩ (fun k d ρ M N hd hJ hN=>?_) (fun ρ M hJ=>?_)
 ·obtain ⟨⟨g,x4,x5,x6,rfl,hg⟩,rfl,hk⟩:=hJ
  obtain ⟨x,y,rfl,e1,e2⟩:=Ax hd
  obtain ⟨rfl,vc⟩:=F4 e1
  have ey:y=eI (net.getD k []) :=by
   rw [br,bi vc] at e2
   rw [getD_at vc]
   cases e2
   rfl
  subst ey
  have EX:(net.getD k []).length=n :=by
   rw [getD_at vc]
   exact (O.row _ (ss _)).1
  have sf:=dr (net:=net) vc
  simp! only []
  refine bg (fun l ρ M=>(∃g x6,ρ=[some (eN net),some (lF (bM net n 0)),some (.lst (lU net n)),some (.int (g:Nat)),some (.int (k:Nat)),some (eI (net.getD k [])),x6]/\iG net n k l g)/\M=Γ.M0/\l<=n) ⟨⟨g,_,rfl,hg⟩,rfl,rb _⟩ (fun l d ρ M N2 hd hJ ix=>?_) (fun ρ M hJ=>?_)
  ·obtain ⟨⟨g,x6,rfl,hg⟩,rfl,hl⟩:=hJ
   rw [br] at hd
   obtain ⟨x,hx,rfl⟩:=io.mp hd
   have E3:=(bv.mp hx).1
   rw [EX] at E3
   have es:=DA vc hx
   have RT:x∈ao net :=by rw [<- es];exact eT O sf E3
   simp! only [Bt sf,Bt RT]
   refine ⟨_,_,rfl,ix _ _ ⟨⟨_,_,rfl,?_⟩,rfl,E3⟩⟩
   have:=hg.next vc E3
   rw [es] at this
   exact this
  ·obtain ⟨⟨g,x6,rfl,hg⟩,rfl,hl⟩:=hJ
   rw [cb,EX] at hg
   exact hN _ _ ⟨⟨g,_,_,_,rfl,hg.up⟩,rfl,vc⟩
 ·obtain ⟨⟨g,x4,x5,x6,rfl,hg⟩,rfl,hk⟩:=hJ
  have hlen:(eR (iF net.length) (net.map eI)).length=net.length :=by simp [pairsD_len,numD_len]
  rw [hlen] at hg
  have hE:=hg.all
  have gp:=xk O W hE
  simp! only []
  refine ⟨by unfold lU;rw [cb,places_len];omega,nH (Kx g) (fun τ M=>(∃x,τ=[x,some (.int (g:Nat))])/\M=Γ.M0) ⟨⟨_,rfl⟩,rfl⟩ (fun d hd τ M hI R hR=>?_) (fun τ M hI=>?_)⟩
  ·obtain ⟨⟨x,rfl⟩,rfl⟩:=hI
   obtain ⟨p,hp,rfl⟩:=sw.mp hd
   simp! only []
   exact ⟨by omega,hR _ _ ⟨⟨_,rfl⟩,rfl⟩⟩
  ·obtain ⟨⟨x,rfl⟩,rfl⟩:=hI
   have e:(lU net n).map (Kx g)=(yH net n g).map Dv.int :=by
    unfold lU yH
    rw [xz,xz]
    rfl
   rw [e]
   exact ⟨by omega,.inl (q1 W g hE)⟩
end
section
variable {P:cr} {w:gc} {K:ar} {mg:ba->Option ag} {base:db} {tb:cu} {C_NoNet C_NoWord C0:ac} {cs:List ac}
theorem vY:aM ["net"] ["net"] (ak iT):=⟨rfl,rfl,rfl,by decide +kernel,rfl,by decide +kernel,by decide +kernel⟩
theorem qf:aM ["net","thing","signs"] ["net","thing"] (ak iw):=⟨rfl,rfl,rfl,by decide +kernel,rfl,by decide +kernel,by decide +kernel⟩
theorem vd:aM ["net","thing"] ["net","thing"] (ak h8):=⟨rfl,rfl,rfl,by decide +kernel,rfl,by decide +kernel,by decide +kernel⟩
theorem nj:aM ["net","place","word","sign"] ["net","place","word"] (ak lD):=⟨rfl,rfl,rfl,by decide +kernel,rfl,by decide +kernel,by decide +kernel⟩
def sgn (w:Nat):ba:=Uw "abc" none (some (w:Int))
theorem Bv {net:List (List Int)} {n k:Nat} (h:k<net.length):cj (net.map eI) ((k:Nat):Int)=some (eI net[k]):=cE (by rw [br,bi h];rfl)
theorem Gp {net:List (List Int)} {n:Nat} (o:aT net n):∃r,cj (net.map eI) 0=some (eI r)/\r.length=n :=by
 have:=o.one
 exact ⟨net[0],Bv (n:=n) (k:=0) (by omega),(o.row _ (ss _)).1⟩
def Bw:bZ:=fun ds M Q _=>∃net n,ds=[eN net]/\aT net n/\Q (.str (sgn n)) M
theorem vZ {f f1:ac} {fd bC:im} (D:Df K mg "signs_of" iT ["net"] f fd)
  (aQ:Df K mg "need_net" d8 ["thing"] f1 bC) (b6:FnOk P w K mg base (ck P w) 7 f1 bC ["thing"] (aR P w K tb (pX C_NoNet))) (bl:Bl mg) {tk:Tz} (dq:mg "SIGNS" = some (.str "abc" tk)) :
  FnOk P w K mg base (ck P w) 8 f fd ["net"] (aR P w K tb Bw) :=by
 refine gB D vY (fun ds M Q E hS=>by obtain ⟨net,n,e,_⟩:=hS;rw [e];rfl) fun A outer s E Γ ds Q' E' hP hw hK ht hE hr hS=>?_
 obtain ⟨net,n,e,o,q⟩:=hS
 refine ⟨_,(ai (c9 (aE b6 (hr.mono (by decide)) rfl aQ.mg aQ.fn.kp aQ.bd eX hP hw hK ht hE (aa (qv 0) ae)))
  (aq (a9 (CY L8 (oA (z := "abc") rfl dq ⟨_,rfl⟩) FZ (F0 (ay (bP (K:=K) rfl hK) rfl bl.len_ kw (aa (bH (cB (K:=K) rfl) (qv 0) av (fun _ _=>rfl)) ae))))))),?_⟩
 subst e
 obtain ⟨r,h0,hl⟩:=Gp o
 refine ⟨_,rfl,nM net,fun _=>?_,fun h=>by rw [nL o] at h;cases h⟩
 simp! only [h0,hl]
 exact ⟨by decide,.inl q⟩
def jF (n:Nat) (z:ba):Prop:=∀c∈z.cps.toList,∃k:Nat,k<n/\c=97+k
theorem Gq {n k:Nat} (hn:n=2\/n=3) (hk:k<n):yj ⟨#[97+k]⟩ (sgn n)=true :=by
 rcases hn with rfl|rfl
 ·have:k=0\/k=1 :=by omega
  rcases this with rfl|rfl <;> decide +kernel
 ·have:k=0\/k=1\/k=2 :=by omega
  rcases this with rfl|rfl|rfl <;> decide +kernel
def N1 (n:Nat):Dv->Bool | .str y=>yj y (sgn n)|_=>false
theorem Ky {n:Nat} {z:ba} (hn:n=2\/n=3) (hw:jF n z):(gy z).all (N1 n)=true :=by
 rw [u8]
 intro d hd
 obtain ⟨c,hc,rfl⟩:=sw.mp hd
 obtain ⟨k,hk,rfl⟩:=hw c hc
 exact Gq hn hk
def E4:bZ:=fun ds M Q _=>∃net n z,ds=[eN net,.str z]/\aT net n/\jF n z/\z.length<=2000/\Q (.bl true) M
theorem yI {f f1:ac} {fd bC:im} {sk aW:ac} (D:Df K mg "is_word" iw ["net","thing"] f fd) (j4:tZ base fd sk aW) (hp:aW∈tb) (di:∃bm ob,SX base mainGlobals mg bm ob)
  (fc:Df K mg "signs_of" iT ["net"] f1 bC) (lV:FnOk P w K mg base (ck P w) 8 f1 bC ["net"] (aR P w K tb Bw)) (bl:Bl mg) {tk:Tz} (dR:mg "MOST_SIGNS_OF_WORD" = some (.int 2000 tk)) :
  FnOk P w K mg base (ck P w) 9 f fd ["net","thing"] (aR P w K tb E4) :=by
 refine gB D qf (fun ds M Q E hS=>by obtain ⟨net,n,z,e,_⟩:=hS;rw [e];rfl) fun A outer s E Γ ds Q' E' hP hw hK ht hE hr hS=>?_
 obtain ⟨net,n,z,e,o,hW,hl,q⟩:=hS
 have v3:aW∈Γ.tb:=ht▸hp
 refine ⟨_,(ai (aJ (i:=2) qf.nd rfl (EO rfl) (aE lV (hr.mono (by decide)) rfl fc.mg fc.fn.kp fc.bd eX hP hw hK ht hE (aa (qv 0) ae)))
  (ai (cw (QW.pt (pG (gu (fu (ay (jn (K:=K) rfl) rfl bl.isinstance_ ez (aa (qv 1) (aa (kr (v:=.ty "str") rfl bl.str_ Ir rfl) ae))))) (mP (bt uC (ay (bP (K:=K) rfl hK) rfl bl.len_ kw (aa (qv 1) ae)) (ur (i:=2000) rfl dR ⟨_,rfl⟩) (bB _)))))
   (aq (a9 fA))
   qss_nil)
  (aq (a9 (uG (k:=0) (N':=["sign","signs"]) (tn:=1) (idx:=[2]) v3 (hr.mono (by decide)) rfl (show a7 ["net","thing","signs"] (ak iw) _ ["sign","signs"] 1 [2] from by decide +kernel) rfl rfl j4.code j4.hd di rfl bl.all_ (Ah (qv 1)) (fun _ _ _ _ _ _ _ hr=>(aN (i:=0) (show LF [("sign" : ba),("signs" : ba)] from by decide +kernel) rfl (l6 rfl))) (fun _ _ _ _ _ _ _ hr=>fW) (fun _ _ _ _ _ _ _ hr=>(iZ CW (qv 0) (qv 1) (by rfl)))))))),?_⟩
 subst e
 have big:(2000:Nat)<sizeLine :=by decide
 simp! only []
 refine ⟨net,n,rfl,o,?_⟩
 simp! only []
 refine ⟨by decide,by omega,dj (fun h=>?_) (fun h=>?_)⟩
 ·exact absurd (by simpa using h) (by omega:¬ (2000:Int)<(z.length:Nat))
 ·refine nG (N1 n) (fun τ=>∃x,τ=[x,some (.str (sgn n))]) ⟨none,rfl⟩ (fun d hd τ ⟨x,e⟩ R hR=>?_) (by rw [Ky o.wid hW];exact .inl q)
  subst e
  obtain ⟨c,hc,rfl⟩:=sw.mp hd
  exact ⟨trivial,hR _ ⟨_,rfl⟩⟩
def sm:bZ:=fun ds M Q _=>∃net n z,ds=[eN net,.str z]/\aT net n/\jF n z/\z.length<=2000/\Q .aB M
theorem ve {f f1:ac} {fd bC:im} (D:Df K mg "need_word" h8 ["net","thing"] f fd) (eU:Df K mg "is_word" iw ["net","thing"] f1 bC) (nq:FnOk P w K mg base (ck P w) 9 f1 bC ["net","thing"] (aR P w K tb E4))
  (X_:uf K C0 cs) (oO:C_NoWord∈cs) (oP:mg "NoWord" = some (.ref C_NoWord)):FnOk P w K mg base (ck P w) 10 f fd ["net","thing"] (aR P w K tb sm) :=by
 refine gB D vd (fun ds M Q E hS=>by obtain ⟨net,n,d,e,_⟩:=hS;rw [e];rfl) fun A outer s E Γ ds Q' E' hP hw hK ht hE hr hS=>?_
 obtain ⟨net,n,z,e,o,hW,hl,q⟩:=hS
 refine ⟨_,(aq (cw (gu (fu (aE nq (hr.mono (by decide)) rfl eU.mg eU.fn.kp eU.bd eX hP hw hK ht hE (aa (qv 0) (aa (qv 1) ae)))))
   (aq (lh (X_.ex _ oO) KM rfl pC hE rfl oP (aa mO ae)))
   qss_nil)),?_⟩
 subst e
 simp! only []
 exact ⟨net,n,z,rfl,o,hW,hl,.inl q⟩
def stepI (net:List (List Int)) (p:Int) (c:Nat):Int:=(net.getD p.toNat []).getD (c - 97) 0
def jG (net:List (List Int)) (p:Int) (cs:List Nat):Int:=cs.foldl (stepI net) p
theorem Gr {k:Nat} (hk:k<3):∃rest,Fk "abc" ⟨#[97+k]⟩ 0 (ba.length "abc") 1=k::rest :=by
 have:k=0\/k=1\/k=2 :=by omega
 rcases this with rfl|rfl|rfl
 ·exact ⟨[],by decide +kernel⟩
 ·exact ⟨[],by decide +kernel⟩
 ·exact ⟨[],by decide +kernel⟩
theorem step_at {net:List (List Int)} {n:Nat} (o:aT net n) {p:Int} (h0:0<=p) (h1:p<(net.length:Nat)) {k:Nat} (hk:k<n) :
  (0<=stepI net p (97+k)/\stepI net p (97+k)<(net.length:Nat))/\∃r,cj (net.map eI) p=some (eI r)/\cj (r.map Dv.int) ((k:Nat):Int)=some (.int (stepI net p (97+k))) :=by
 have hp:p.toNat<net.length :=by omega
 have e:net.getD p.toNat []=net[p.toNat] :=by rw [wS,bi hp];rfl
 obtain ⟨o1,o2⟩:=o.row _ (ss hp)
 have ek:97+k - 97=k :=by omega
 have zP:k<net[p.toNat].length :=by omega
 have es:stepI net p (97+k)=net[p.toNat][k] :=by
  unfold stepI
  rw [e,ek,wS,bi zP];rfl
 rw [es]
 refine ⟨o2 _ (ss zP),net[p.toNat],?_,cE (by rw [br,bi zP];rfl)⟩
 have:=Bv (n:=n) hp
 rwa [show ((p.toNat:Nat):Int)=p by omega] at this
theorem By {net:List (List Int)} {n:Nat} (o:aT net n):∀(cs:List Nat) {p:Int},0<=p->p<(net.length:Nat)->(∀c∈cs,∃k:Nat,k<n/\c=97+k)->0<=jG net p cs/\jG net p cs<(net.length:Nat)
 | [],p,h0,h1,_=>⟨h0,h1⟩
 |c::cs,p,h0,h1,hw=>by
          obtain ⟨k,hk,rfl⟩:=hw c i0
          obtain ⟨s0,s1⟩:=(step_at o h0 h1 hk).1
          exact By o cs s0 s1 fun c hc=>hw c (hX _ hc)
theorem BA {z:ba} {i:Nat} {y:Dv} (h:(gy z)[i]?=some y):∃c,z.cps.toList[i]?=some c/\y=.str ⟨#[c]⟩ :=by
 unfold gy at h
 rw [br] at h
 cases e:z.cps.toList[i]? with
 |none=>rw [e] at h;cases h
 |some c=>rw [e] at h;exact ⟨c,rfl,(dL h).symm⟩
theorem BC {net:List (List Int)} {p:Int} {cs:List Nat} {i c:Nat} (h:cs[i]?=some c):jG net p (cs.take (i+1))=stepI net (jG net p (cs.take i)) c :=by
 rw [List.take_add_one,h]
 unfold jG
 rw [Option.toList_some,Ua];rfl
def zEnd:bZ:=fun ds M Q _=>∃net n p z,ds=[eN net,.int p,.str z]/\aT net n/\0<=p/\p<(net.length:Nat)/\jF n z/\Q (.int (jG net p z.cps.toList)) M
theorem BD {f:ac} {fd:im} {tk:Tz} (D:Df K mg "end_of" lD ["net","place","word"] f fd) (dq:mg "SIGNS" = some (.str "abc" tk)):FnOk P w K mg base bL 1 f fd ["net","place","word"] (aR P w K tb zEnd) :=by
 refine gA D nj (fun ds M Q E hS=>by obtain ⟨net,n,p,z,e,_⟩:=hS;rw [e];rfl) fun A outer s E Γ ds Q' E' hP hw hK ht hr hS=>?_
 obtain ⟨net,n,p,z,e,o,h0,h1,hW,q⟩:=hS
 refine ⟨_,(ai (cc ma rfl (Ah (qv 2)) (fun fX eP ew eK et=>by have hP:=hP.trans eP.symm;have hw:=hw.trans ew.symm;have hK:=hK.trans eK.symm;have ht:=ht.trans et.symm;exact ⟨(aN (i:=3) nj.nd rfl (l6 rfl)),(aq (aJ (i:=1) nj.nd rfl (l6 rfl) (bH (cB (K:=K) rfl) (bH (cB (K:=K) rfl) (qv 0) (qv 1) (fun _ _=>rfl)) (la (K:=K) rfl PySem.F.plainAttrs_str PySem.F.slot_str_index PySem.F.type_str_index CZ (oA (z := "abc") rfl dq ⟨_,rfl⟩) (aa (qv 3) ae)) (fun _ _=>rfl))))⟩))
  (aq (a9 (qv 1)))),?_⟩
 subst e
 simp! only []
 refine bg (fun i ρ M=>(∃x,ρ=[some (eN net),some (.int (jG net p (z.cps.toList.take i))),some (.str z),x])/\M=Γ.M0) ⟨⟨_,rfl⟩,rfl⟩ (fun i d ρ M N hd ⟨⟨x,e⟩,eM⟩ hN=>?_) (fun ρ M ⟨⟨x,e⟩,eM⟩=>?_)
 ·subst e eM
  obtain ⟨c,hc,rfl⟩:=BA hd
  obtain ⟨k,hk,rfl⟩:=hW c (c8 hc)
  obtain ⟨a0,a1⟩:=By o (z.cps.toList.take i) h0 h1 fun c hc=>hW c (List.mem_of_mem_take hc)
  obtain ⟨_,r,RU,RV⟩:=step_at o a0 a1 hk
  obtain ⟨rest,hi⟩:=Gr (show k<3 by have:=o.wid;omega)
  simp! only [RU,hi,RV,eN,eI]
  exact hN _ _ ⟨⟨_,by rw [BC hc]⟩,rfl⟩
 ·subst e eM
  have:z.cps.toList.take (gy z).length=z.cps.toList :=by unfold gy;rw [cb,Uq]
  rw [this]
  exact .inl q
end
section
structure BfsMin (step:Int->Nat->Int) (n i:Nat) (st:List Int×List ba):Prop where
 len:st.1.length=st.2.length
 mono:∀(x y:Nat) (wx wy:ba),x<=y->st.2[x]?=some wx->st.2[y]?=some wy->wx.length<=wy.length
 near:∀(w:ba) (y:Nat) (wy:ba),st.2[i]?=some w->st.2[y]?=some wy->wy.length<=w.length+1
 succ:∀(j:Nat) (k:Int) (w:ba) (a:Nat),j<i->st.1[j]?=some k->st.2[j]?=some w->a<n->∃(y:Nat) (wy:ba),st.1[y]?=some (step k a)/\st.2[y]?=some wy/\wy.length<=w.length+1
theorem kN {α:Type} {l:List α} {x y:α} {i:Nat} (h:(l++[x])[i]?=some y):(i<l.length/\l[i]?=some y)\/(i=l.length/\y=x) :=by
 by_cases hi:i<l.length
 ·rw [l8 hi] at h
  exact .inl ⟨hi,h⟩
 ·have hl:=(bv.mp h).1
  rw [tw,Da] at hl
  have e:i=l.length :=by omega
  subst e
  rw [sB (ce _),PM] at h
  cases h
  exact .inr ⟨rfl,rfl⟩
theorem BE {α β:Type} {l:List α} {m:List β} (h:l.length=m.length) {i:Nat} {x:α} (hx:l[i]?=some x):∃y,m[i]?=some y:=⟨_,bi (by rw [<- h];exact (bv.mp hx).1)⟩
theorem DB {step:Int->Nat->Int} {n i a:Nat} {st:List Int×List ba} {k:Int} {w:ba} (o:BfsMin step n i st) (h1:st.1[i]?=some k) (h2:st.2[i]?=some w) :
  BfsMin step n i (dm step k w st a)/\∃(y:Nat) (wy:ba),(dm step k w st a).1[y]?=some (step k a)/\(dm step k w st a).2[y]?=some wy/\wy.length<=w.length+1 :=by
 unfold dm
 split
 ·rename_i h
  obtain ⟨y,hy⟩:=mo.mp h
  obtain ⟨wy,N4⟩:=BE o.len hy
  exact ⟨o,y,wy,hy,N4,o.near w y wy h2 N4⟩
 ·have mi:=(bv.mp h2).1
  refine ⟨⟨by simp [o.len],fun x y wx wy N5 hx hy=>?_,fun w' y wy hw hy=>?_,fun j k' w' b hj hk hw hb=>?_⟩,st.1.length,w++kG a,by simp,by rw [o.len];simp,by rw [eY,gW];omega⟩
  ·rcases kN hx with ⟨lx,hx⟩|⟨lx,rfl⟩ <;> rcases kN hy with ⟨ly,hy⟩|⟨ly,rfl⟩
   ·exact o.mono x y wx wy N5 hx hy
   ·rw [eY,gW]
    have:=o.near w x wx h2 hx
    omega
   ·omega
   ·exact ce _
  ·rw [l8 mi,h2] at hw
   cases hw
   rcases kN hy with ⟨ly,hy⟩|⟨ly,rfl⟩
   ·exact o.near w y wy h2 hy
   ·rw [eY,gW];omega
  ·have Bg:j<st.2.length :=by omega
   rw [l8 (by rw [o.len];exact Bg)] at hk
   rw [l8 Bg] at hw
   obtain ⟨y,wy,g1,g2,g3⟩:=o.succ j k' w' b hj hk hw hb
   exact ⟨y,wy,da g1,da g2,g3⟩
theorem DC {step:Int->Nat->Int} {k:Int} {w:ba} {st:List Int×List ba} {a i:Nat} {x:Int} (h:st.1[i]?=some x):(dm step k w st a).1[i]?=some x :=by
 obtain ⟨ks,ws,g1,g2⟩:=jX step k w st a
 rw [g1];exact da h
theorem DE {step:Int->Nat->Int} {k:Int} {w:ba} {st:List Int×List ba} {a i:Nat} {z:ba} (h:st.2[i]?=some z):(dm step k w st a).2[i]?=some z :=by
 obtain ⟨ks,ws,g1,g2⟩:=jX step k w st a
 rw [g2];exact da h
theorem so {step:Int->Nat->Int} {n i:Nat} {st:List Int×List ba} {k:Int} {w:ba} (o:BfsMin step n i st) (h1:st.1[i]?=some k) (h2:st.2[i]?=some w):∀m,
  BfsMin step n i (visit step k w m st)/\∀a,a<m->∃(y:Nat) (wy:ba),(visit step k w m st).1[y]?=some (step k a)/\(visit step k w m st).2[y]?=some wy/\wy.length<=w.length+1
 |0=>⟨o,fun a h=>absurd h (Tv _)⟩
 |m+1=>by
          obtain ⟨o2,g⟩:=so o h1 h2 m
          obtain ⟨ks,ws,e1,e2⟩:=dZ step k w m st
          have Ad:(visit step k w m st).1[i]?=some k :=by rw [e1];exact da h1
          have Ae:(visit step k w m st).2[i]?=some w :=by rw [e2];exact da h2
          rw [dC]
          obtain ⟨o3,g3⟩:=DB (a:=m) o2 Ad Ae
          refine ⟨o3,fun a ha=>?_⟩
          by_cases e:a=m
          ·subst e;exact g3
          ·obtain ⟨y,wy,q1,q2,q3⟩:=g a (by omega)
           exact ⟨y,wy,DC q1,DE q2,q3⟩
theorem BfsMin.next {step:Int->Nat->Int} {n i:Nat} {st:List Int×List ba} {k:Int} {w:ba} (o:BfsMin step n i st) (h1:st.1[i]?=some k) (h2:st.2[i]?=some w)
  (g:∀a,a<n->∃(y:Nat) (wy:ba),st.1[y]?=some (step k a)/\st.2[y]?=some wy/\wy.length<=w.length+1):BfsMin step n (i+1) st :=by
 refine ⟨o.len,o.mono,fun w' y wy hw hy=>?_,fun j k' w' a hj hk hw ha=>?_⟩
 ·have a1:=o.near w y wy h2 hy
  have a2:=o.mono i (i+1) w w' (by omega) h2 hw
  omega
 ·by_cases e:j=i
  ·subst e
   rw [h1] at hk;rw [h2] at hw
   cases hk;cases hw
   exact g a ha
  ·exact o.succ j k' w' a (by omega) hk hw ha
theorem xl {U:List Int} {step:Int->Nat->Int} {n most:Nat} (hs:∀k∈U,∀a,a<n->step k a∈U) (hm:U.length<=most):∀(fuel i:Nat) (st:List Int×List ba),dY U st->U.length<fuel+i->i<=st.1.length->BfsMin step n i st->
  BfsMin step n (c7 step n most fuel i st).1.length (c7 step n most fuel i st)
 |0,i,st,ok,hf,hi,o=>by have:=ok.le;omega
 |fuel+1,i,st,ok,hf,hi,o=>by
          have hle:=ok.le
          have hlen:=ok.len
          by_cases bp:i<st.1.length
          ·have h1:=bi bp
           have h2:=bi (show i<st.2.length by omega)
           have m7:st.1[i]∈st.1:=ss bp
           rw [kI h1 h2 (by omega)]
           obtain ⟨ks,ws,g1,g2⟩:=dZ step st.1[i] (st.2[i]'(by omega)) n st
           obtain ⟨o2,g⟩:=so o h1 h2 n
           refine xl hs hm fuel (i+1) _ (ok.visit h2 fun a ha=>hs _ (ok.sub _ m7) a ha) (by omega) (by rw [g1,tw];omega) (o2.next (by rw [g1];exact da h1) (by rw [g2];exact da h2) g)
          ·have e:c7 step n most (fuel+1) i st=st :=by
            unfold c7
            rw [Tk (by omega)]
           rw [e]
           have ei:i=st.1.length :=by omega
           rw [<- ei]
           exact o
theorem Gs {net:List (List Int)} {n:Nat} (O:aT net n) {s:Int} (hs:s∈ao net):BfsMin (cg net) n (bM net n s).1.length (bM net n s) :=by
 have hl:=places_len (net:=net)
 have h9:=O.nine
 refine xl (U:=ao net) (fun _ hk _ ha=>eT O hk ha) (by omega) _ _ _ (jY hs) (by omega) (rb _) ⟨rfl,fun x y wx wy N5 hx hy=>?_,fun w y wy hw hy=>?_,fun j k w a hj=>absurd hj (Tv _)⟩
 ·match y,x with
  |0,0=>rw [hx] at hy;cases hy;exact ce _
  |0,x+1=>omega
  |y+1,_=>exact nomatch hy
 ·match y with
  |0=>rw [hw] at hy;cases hy;omega
  |y+1=>exact nomatch hy
theorem xm {net:List (List Int)} {n:Nat} {s:Int}:(bM net n s).1[0]?=some s/\(bM net n s).2[0]?=some ("" : ba) :=by
 have g:∀(fuel i:Nat) (st:List Int×List ba),st.1[0]?=some s->st.2[0]?=some ("" : ba)->(c7 (cg net) n 511 fuel i st).1[0]?=some s/\(c7 (cg net) n 511 fuel i st).2[0]?=some ("" : ba):=fun fuel=>by
  induction fuel with
  |zero=>intro i st h1 h2;exact ⟨h1,h2⟩
  |succ fuel ih=>
   intro i st h1 h2
   cases e1:st.1[i]? with
   |none=>unfold c7;rw [e1];exact ⟨h1,h2⟩
   |some k=>
    cases e2:st.2[i]? with
    |none=>unfold c7;rw [e1,e2];exact ⟨h1,h2⟩
    |some w=>
     by_cases h:st.1.length<=511
     ·rw [kI e1 e2 h]
      obtain ⟨ks,ws,g1,g2⟩:=dZ (cg net) k w n st
      exact ih _ _ (by rw [g1];exact da h1) (by rw [g2];exact da h2)
     ·unfold c7
      rw [e1,e2]
      simp only [if_neg h]
      exact ⟨h1,h2⟩
 exact g _ _ _ rfl rfl
theorem Gu {net:List (List Int)} {n L:Nat} (O:aT net n) {s q:Int} (hs:s∈ao net) (w:iz net n L s q):∃(y:Nat) (wy:ba),(bM net n s).1[y]?=some q/\(bM net n s).2[y]?=some wy/\wy.length<=L :=by
 induction w with
 |nil s=>
  exact ⟨0,"",xm.1,xm.2,rb _⟩
 | @snoc L s p a w ha ih=>
  obtain ⟨y,wy,g1,g2,g3⟩:=ih hs
  obtain ⟨y2,RW,q1,q2,q3⟩:=(Gs O hs).succ y p wy a ((bv.mp g1).1) g1 g2 ha
  exact ⟨y2,RW,q1,q2,by omega⟩
def lW (W:ba->Int->Prop) (st:List Int×List ba):Prop:=st.1.length=st.2.length/\∀(i:Nat) (k:Int) (w:ba),st.1[i]?=some k->st.2[i]?=some w->W w k
theorem yJ {W:ba->Int->Prop} {step:Int->Nat->Int} {k:Int} {w:ba} {st:List Int×List ba} {a:Nat} (o:lW W st) (h:W (w++kG a) (step k a)):lW W (dm step k w st a) :=by
 unfold dm
 split
 ·exact o
 ·refine ⟨by simp [o.1],fun i k2 w2 h1 h2=>?_⟩
  rcases kN h1 with ⟨l1,h1⟩|⟨l1,rfl⟩ <;> rcases kN h2 with ⟨l2,h2⟩|⟨l2,rfl⟩
  ·exact o.2 i k2 w2 h1 h2
  ·rw [o.1] at l1;omega
  ·rw [o.1] at l1;omega
  ·exact h
theorem oq {W:ba->Int->Prop} {step:Int->Nat->Int} {k:Int} {w:ba} {st:List Int×List ba}:∀{n:Nat},lW W st->(∀a,a<n->W (w++kG a) (step k a))->lW W (visit step k w n st)
 |0,o,_=>o
 |n+1,o,h=>by
          rw [dC]
          exact yJ (oq o fun a ha=>h a (by omega)) (h n (by omega))
theorem sr {W:ba->Int->Prop} {step:Int->Nat->Int} {n most:Nat} (hW:∀w k,W w k->∀a,a<n->W (w++kG a) (step k a)):∀(fuel i:Nat) (st:List Int×List ba),lW W st->lW W (c7 step n most fuel i st)
 |0,_,_,o=>o
 |fuel+1,i,st,o=>by
          cases e1:st.1[i]? with
          |none=>unfold c7;rw [e1];exact o
          |some k=>
           cases e2:st.2[i]? with
           |none=>unfold c7;rw [e1,e2];exact o
           |some w=>
            by_cases h:st.1.length<=most
            ·rw [kI e1 e2 h]
             exact sr hW fuel _ _ (oq o fun a ha=>hW _ _ (o.2 i k w e1 e2) a ha)
            ·unfold c7
             rw [e1,e2]
             simp only [if_neg h]
             exact o
end
section
theorem kO {net:List (List Int)} {n:Nat} (O:aT net n) {s g:Int} (hs:s∈ao net) {w:ba} (h:cP net n s g=some w):(jF n w/\jG net s w.cps.toList=g)/\iz net n w.length s g/\w.length<=9/\eJ net n s g/\∀L,iz net n L s g->w.length<=L :=by
 have ok:=g8 O hs
 have hg:g∈(bM net n s).1 :=by
  have:=jZ ok.len g
  unfold cP at h
  rw [h] at this
  exact of_decide_eq_true this.symm
 obtain ⟨i,hi⟩:=mo.mp hg
 obtain ⟨w2,Kz⟩:=BE ok.len hi
 have e:w2=w :=by
  have:=i6 ok.nd hi Kz
  unfold cP at h
  rw [h] at this
  exact (dL this).symm
 subst e
 have pr:lW (fun w k=>(jF n w/\jG net s w.cps.toList=k)/\iz net n w.length s k) (bM net n s):=sr (fun w k ⟨⟨h1,h2⟩,h3⟩ a ha=>by
  have ec:(w++kG a).cps.toList=w.cps.toList++[97+a] :=by
   rw [show (w++kG a).cps=w.cps++(kG a).cps from rfl,Sm]
   rfl
  refine ⟨⟨fun c hc=>?_,?_⟩,?_⟩
  ·rw [ec] at hc
   rcases tz.mp hc with hc|hc
   ·exact h1 c hc
   ·exact ⟨a,ha,li.mp hc⟩
  ·rw [ec]
   unfold jG at h2 ⊢
   rw [Ua,h2]
   show stepI net k (97+a)=cg net k a
   unfold stepI cg
   rw [show 97+a - 97=a by omega]
  ·rw [eY,gW]
   exact h3.snoc ha) _ _ _ ⟨rfl,fun i k w h1 h2=>by
  match i with
  |0=>cases h1;cases h2;exact ⟨⟨fun c hc=>(by rw [show ("" : ba).cps.toList=[] from by decide +kernel] at hc;cases hc),rfl⟩,.nil _⟩
  |i+1=>exact nomatch h1⟩
 obtain ⟨g1,g2⟩:=pr.2 i g w2 hi Kz
 refine ⟨g1,g2,?_,(fY O hs).mp hg,fun L wl=>?_⟩
 ·have:=ok.wl i _ Kz
  have hl:=(bv.mp hi).1
  have h9:=O.nine
  have hle:=ok.le
  rw [places_len] at hle
  omega
 ·obtain ⟨y,wy,q1,q2,q3⟩:=Gu O hs wl
  have:=i6 ok.nd q1 q2
  unfold cP at h
  rw [h] at this
  cases this
  exact q3
theorem jH {net:List (List Int)} {n:Nat} (O:aT net n) {s g:Int} (hs:s∈ao net):(cP net n s g).isSome=decide (eJ net n s g) :=by
 have ok:=g8 O hs
 unfold cP
 rw [jZ ok.len]
 exact decide_eq_decide.mpr (fY O hs)
noncomputable def cC (net:List (List Int)) (n:Nat) (p:Int):Int:=(cY net n p).headD 0
theorem lX {net:List (List Int)} {n:Nat} {p:Int} (hp:p∈ao net):cC net n p∈ao net/\iY net n p (cC net n p)/\ib net n (cC net n p) :=by
 obtain ⟨v,t,e,_⟩:=cls_cons (n:=n) hp
 have hv:v∈cY net n p :=by rw [e];exact i0
 have eh:cC net n p=v :=by unfold cC;rw [e];rfl
 obtain ⟨pv,sv⟩:=dg.mp hv
 rw [eh]
 refine ⟨pv,sv,fun b hb=>?_⟩
 obtain ⟨pb,sb⟩:=dg.mp hb
 have m4:b∈cY net n p:=dg.mpr ⟨pb,sv.1.trans sb.1,sb.2.trans sv.2⟩
 have pw:=pZ (net:=net) (n:=n) (a:=p)
 rw [e,TW] at pw
 rw [e] at m4
 rcases lp.mp m4 with rfl|m4
 ·exact UC _
 ·exact pw.1 b m4
theorem sx {net:List (List Int)} {n:Nat} {p h:Int} (hp:p∈ao net) (hh:h∈ao net) (H:ib net n h) (s:iY net n p h):cC net n p=h :=by
 obtain ⟨a,b,c⟩:=lX (n:=n) hp
 have h1:=H (cC net n p) (dg.mpr ⟨a,s.2.trans b.1,b.2.trans s.1⟩)
 have h2:=c h (dg.mpr ⟨hh,b.2.trans s.1,s.2.trans b.1⟩)
 omega
theorem BF {net:List (List Int)} {n:Nat} {p q:Int} (hp:p∈ao net) (hq:q∈ao net):cC net n p=cC net n q ↔ iY net n p q :=by
 obtain ⟨a,b,c⟩:=lX (n:=n) hp
 obtain ⟨a2,b2,c2⟩:=lX (n:=n) hq
 constructor
 ·intro e
  rw [e] at b
  exact ⟨b.1.trans b2.2,b2.1.trans b.2⟩
 ·intro s
  exact sx hp a2 c2 ⟨s.1.trans b2.1,b2.2.trans s.2⟩
theorem sy {net:List (List Int)} {n:Nat} {p q:Int} (h:iY net n p q):iY net n q p:=⟨h.2,h.1⟩
theorem qg {net:List (List Int)} {n:Nat} {a:Int}:a∈cf net n net.length ↔ a∈ao net/\ib net n a :=by
 unfold cf
 rw [ON (Pv places_len),Cn,decide_eq_true_eq]
end
section
variable {P:cr} {w:gc} {K:ar} {mg:ba->Option ag} {base:db} {tb:cu} {C_NoNet C_NoPlace:ac}
theorem KA:aM ["net","place","word"] ["net","place","word"] (ak sY):=⟨rfl,rfl,rfl,by decide +kernel,rfl,by decide +kernel,by decide +kernel⟩
theorem eC:aM ["_law_net_here","_law_words","_law_one","_law_other","_law_word","_law_middle","_law_first","_law_second"] ["_law_net_here","_law_words","_law_one","_law_other"] (ak gF):=⟨rfl,rfl,rfl,by decide +kernel,rfl,by decide +kernel,by decide +kernel⟩
def KC:bZ:=fun ds M Q _=>∃net n p z,ds=[eN net,.int p,.str z]/\aT net n/\p∈ao net/\jF n z/\z.length<=2000/\Q (.int (jG net p z.cps.toList)) M
theorem KD {f f1 f2 f3 f4:ac} {fd bC fd2 j0 BG:im} (D:Df K mg "led" sY ["net","place","word"] f fd)
  (aQ:Df K mg "need_net" d8 ["thing"] f1 bC) (b6:FnOk P w K mg base (ck P w) 7 f1 bC ["thing"] (aR P w K tb (pX C_NoNet)))
  (bo:Df K mg "need_place" eS ["net","thing"] f2 fd2) (du:FnOk P w K mg base (ck P w) 4 f2 fd2 ["net","thing"] (aR P w K tb (lN C_NoPlace)))
  (eF:Df K mg "need_word" h8 ["net","thing"] f3 j0) (kf:FnOk P w K mg base (ck P w) 10 f3 j0 ["net","thing"] (aR P w K tb sm))
  (hV:Df K mg "end_of" lD ["net","place","word"] f4 BG) (oQ:FnOk P w K mg base bL 1 f4 BG ["net","place","word"] (aR P w K tb zEnd)) :
  FnOk P w K mg base (ck P w) 11 f fd ["net","place","word"] (aR P w K tb KC) :=by
 refine gB D KA (fun ds M Q E hS=>by obtain ⟨net,n,p,z,e,_⟩:=hS;rw [e];rfl) fun A outer s0 E Γ ds Q' E' hP hw hK ht hE hr hS=>?_
 obtain ⟨net,n,p,z,e,O,hp,hW,hz,q⟩:=hS
 refine ⟨_,(ai (c9 (aE b6 (hr.mono (by decide)) rfl aQ.mg aQ.fn.kp aQ.bd eX hP hw hK ht hE (aa (qv 0) ae)))
  (ai (c9 (aE du (hr.mono (by decide)) rfl bo.mg bo.fn.kp bo.bd eX hP hw hK ht hE (aa (qv 0) (aa (qv 1) ae))))
  (ai (c9 (aE kf (hr.mono (by decide)) rfl eF.mg eF.fn.kp eF.bd eX hP hw hK ht hE (aa (qv 0) (aa (qv 2) ae))))
  (aq (a9 (aE oQ (hr.mono (by decide)) rfl hV.mg hV.fn.kp hV.bd b5 hP hw hK ht XR.none (aa (qv 0) (aa (qv 1) (aa (qv 2) ae))))))))),?_⟩
 subst e
 obtain ⟨p1,p2⟩:=bA.mp hp
 have hb:bV (net.length:Int) (.int p)=true :=by simp [bV,p1,p2]
 refine ⟨_,rfl,nM net,fun _=>?_,fun h=>by rw [nL O] at h;cases h⟩
 refine ⟨net,_,rfl,rfl,fun _=>?_,fun h1=>by rw [hb] at h1;cases h1⟩
 refine ⟨net,n,z,rfl,O,hW,hz,?_⟩
 exact ⟨net,n,p,z,rfl,O,p1,p2,hW,.inl q⟩
def qP (m t:Nat):List Key:=[mf ((t / m:Nat):Int),mf ((t % m:Nat):Int)]
def dS (m t:Nat):List (List Key):=(on t).map (qP m)
def gK (net:List (List Int)) (n t:Nat):List Dv:=(on t).map fun t=>cy (cP net n ((t / net.length:Nat):Int) ((t % net.length:Nat):Int))
def fO (net:List (List Int)) (n:Nat):Dv:=.dt (dS net.length (net.length * net.length)) (gK net n (net.length * net.length))
theorem vf {m s t:Nat} (h:qP m s=qP m t):s=t :=by
 have e1:=TL (List.cons.inj h).1
 have e2:=TL (List.cons.inj (List.cons.inj h).2).1
 have e1:s / m=t / m :=by omega
 have e2:s % m=t % m :=by omega
 rw [<- Nat.div_add_mod s m,<- Nat.div_add_mod t m,e1,e2]
theorem xn {m i j:Nat} (hj:j<m):qP m (i * m+j)=[mf ((i:Nat):Int),mf ((j:Nat):Int)]/\(i * m+j) / m=i/\(i * m+j) % m=j :=by
 have e1:(i * m+j) / m=i :=by rw [Nat.mul_comm,Nat.mul_add_div (by omega),Nat.div_eq_of_lt hj];rfl
 have e2:(i * m+j) % m=j :=by rw [Nat.mul_comm,Nat.mul_add_mod,Nat.mod_eq_of_lt hj]
 exact ⟨by unfold qP;rw [e1,e2],e1,e2⟩
theorem Gv (m t:Nat):(dS m t).Nodup :=by
 unfold dS
 refine Uc _ (fun a b h e=>h (vf e)) Up
theorem vg {net:List (List Int)} {n i j:Nat} (hi:i<net.length) (hj:j<net.length):look (dS net.length (net.length * net.length)) (gK net n (net.length * net.length)) [mf ((i:Nat):Int),mf ((j:Nat):Int)]=some (cy (cP net n (i:Int) (j:Int))) :=by
 obtain ⟨e0,e1,e2⟩:=xn (i:=i) hj
 have bp:i * net.length+j<net.length * net.length :=by
  have:(i+1) * net.length<=net.length * net.length:=Nat.mul_le_mul_right _ hi
  rw [Nat.add_mul,Nat.one_mul] at this
  omega
 refine uT (i:=i * net.length+j) (Gv _ _) ?_ ?_
 ·unfold dS
  rw [br,wP bp,<- e0]
  rfl
 ·unfold gK
  rw [br,wP bp]
  show some (cy (cP net n (((i * net.length+j) / net.length:Nat):Int) (((i * net.length+j) % net.length:Nat):Int)))=_
  rw [e1,e2]
def vh:bZ:=fun ds M Q _=>∃net n,∃i j:Nat,ds=[eN net,fO net n,.int (i:Nat),.int (j:Nat)]/\aT net n/\i<net.length/\j<net.length/\Q (.bl true) M
theorem vi {f f1:ac} {fd bC:im} (D:Df K mg "_law_right" gF ["_law_net_here","_law_words","_law_one","_law_other"] f fd)
  (nO:Df K mg "led" sY ["net","place","word"] f1 bC) (yK:FnOk P w K mg base (ck P w) 11 f1 bC ["net","place","word"] (aR P w K tb KC)) (bl:Bl mg) :
  FnOk P w K mg base bL 12 f fd ["_law_net_here","_law_words","_law_one","_law_other"] (aR P w K tb vh) :=by
 refine gA D eC (fun ds M Q E hS=>by obtain ⟨net,n,i,j,e,_⟩:=hS;rw [e];rfl) fun A outer s E Γ ds Q' E' hP hw hK ht hr hS=>?_
 obtain ⟨net,n,i,j,e,O,hi,hj,q⟩:=hS
 refine ⟨_,(ai (aJ (i:=4) eC.nd rfl (l6 rfl) (dM hr.units (qv 1) (fv (aa (qv 2) (aa (qv 3) ae))) (fun _ _=>rfl)))
  (ai (cw (QW.pt (uw (bt mU (qv 4) ko (bB _)) (qu (bt uE (aE yK (hr.mono (by decide)) rfl nO.mg nO.fn.kp nO.bd kX hP hw hK ht XR.none (aa (qv 0) (aa (qv 2) (aa (qv 4) ae)))) (qv 3) (bB _)))))
   (aq (a9 fA))
   qss_nil)
  (ai (cc ma rfl (bw rfl bl.range_ (aa (ay (bP (K:=K) rfl hK) rfl bl.len_ kw (aa (qv 0) ae)) ae)) (fun fX eP ew eK et=>by have hP:=hP.trans eP.symm;have hw:=hw.trans ew.symm;have hK:=hK.trans eK.symm;have ht:=ht.trans et.symm;exact ⟨(aN (i:=5) eC.nd rfl (l6 rfl)),(ai (aJ (i:=6) eC.nd rfl (l6 rfl) (dM hr.units (qv 1) (fv (aa (qv 2) (aa (qv 5) ae))) (fun _ _=>rfl)))
  (ai (aJ (i:=7) eC.nd rfl (l6 rfl) (dM hr.units (qv 1) (fv (aa (qv 5) (aa (qv 3) ae))) (fun _ _=>rfl)))
  (aq (cw (QW.pt (uw (bt mU (qv 6) ko (bB _)) (qu (bt mU (qv 7) ko (bB _)))))
   (aq (cw (QW.pt (pG (bt L7 (qv 4) ko (bB _)) (mP (bt uC (ay (bP (K:=K) rfl hK) rfl bl.len_ kw (aa (qv 4) ae)) (a8 fD (ay (bP (K:=K) rfl hK) rfl bl.len_ kw (aa (qv 6) ae)) (ay (bP (K:=K) rfl hK) rfl bl.len_ kw (aa (qv 7) ae))) (bB _)))))
   (aq (a9 fA))
   qss_nil))
   qss_nil))))⟩))
  (aq (a9 fA))))),?_⟩
 subst e
 have h9:=O.nine
 have big:(1000:Nat)<sizeLine :=by decide
 have oi:∀{i j:Nat},i<net.length->j<net.length->look (dS net.length (net.length * net.length)) (gK net n (net.length * net.length)) [mf ((i:Nat):Int),mf ((j:Nat):Int)]=some (cy (cP net n (i:Int) (j:Int))):=fun hi hj=>vg hi hj
 have kd:∀i j:Int,iS [.int i,.int j]=some [mf i,mf j]:=fun _ _=>rfl
 have iL:=dr (net:=net) hi
 have ou:=dr (net:=net) hj
 show zSeq _ _ _ _ _
 refine yt (fun ρ M=>ρ=[some (eN net),some (fO net n),some (.int (i:Nat)),some (.int (j:Nat)),some (cy (cP net n (i:Int) (j:Int))),none,none,none]/\M=Γ.M0) (fun N hN=>?_) (fun ρ M hI=>?_)
 ·simp! only [fO,kd,oi hi hj]
  refine ⟨by decide,?_⟩
  cases e:cP net n (i:Int) (j:Int) with
  |none=>
   simp only [cy]
   refine dj (fun h=>absurd h (by decide)) (fun _=>?_)
   exact hN _ _ ⟨by rw [e];rfl,rfl⟩
  |some z=>
   obtain ⟨⟨g1,g2⟩,g3,g4,g5,g6⟩:=kO O iL e
   simp only [cy]
   refine dj (fun _=>?_) (fun h=>absurd h (by decide))
   refine ⟨net,n,_,z,rfl,O,iL,g1,by omega,?_⟩
   rw [g2]
   simp only [decide_true]
   rw [if_neg (by decide)]
   exact hN _ _ ⟨by rw [e];rfl,rfl⟩
 ·obtain ⟨rfl,rfl⟩:=hI
  simp! only []
  refine ⟨by omega,by omega,?_⟩
  refine bg (fun k ρ M=>(∃x5 x6 x7,ρ=[some (eN net),some (fO net n),some (.int (i:Nat)),some (.int (j:Nat)),some (cy (cP net n (i:Int) (j:Int))),x5,x6,x7])/\M=Γ.M0) ⟨⟨_,_,_,rfl⟩,rfl⟩ (fun k d ρ M N hd hJ hN=>?_) (fun ρ M hJ=>?_)
  ·obtain ⟨⟨x5,x6,x7,rfl⟩,rfl⟩:=hJ
   obtain ⟨rfl,hk⟩:=bE hd
   have sf:=dr (net:=net) hk
   simp! only [fO,kd,oi hi hk,oi hk hj]
   refine ⟨by decide,by decide,?_⟩
   have key:∀w1 w2,cP net n (i:Int) (k:Int)=some w1->cP net n (k:Int) (j:Int)=some w2->∃w3,cP net n (i:Int) (j:Int)=some w3/\w1.length<=9/\w2.length<=9/\w3.length<=9/\w3.length<=w1.length+w2.length:=fun w1 w2 e1 e2=>by
    obtain ⟨_,a2,a3,a4,_⟩:=kO O iL e1
    obtain ⟨_,b2,b3,b4,_⟩:=kO O sf e2
    have hs:=jH O iL (g:=(j:Int))
    rw [decide_eq_true (a4.trans b4)] at hs
    obtain ⟨w3,e3⟩:=LS.mp hs
    obtain ⟨_,_,c3,_,c5⟩:=kO O iL e3
    exact ⟨w3,e3,a3,b3,c3,c5 _ (a2.app b2)⟩
   generalize cP net n (i:Int) (k:Int)=o1 at key ⊢
   generalize cP net n (k:Int) (j:Int)=o2 at key ⊢
   generalize cP net n (i:Int) (j:Int)=o3 at key hN ⊢
   cases o1 with
   |none=>
    simp only [cy]
    exact hN _ _ ⟨⟨_,_,_,rfl⟩,rfl⟩
   |some w1=>
    cases o2 with
    |none=>
     simp only [cy]
     exact hN _ _ ⟨⟨_,_,_,rfl⟩,rfl⟩
    |some w2=>
     obtain ⟨w3,rfl,l1,l2,l3,l4⟩:=key w1 w2 rfl rfl
     simp only [cy]
     refine dj (fun _=>dj (fun _=>dj (fun h=>absurd h (by decide)) (fun _=>?_)) (fun h=>absurd h (by decide))) (fun h=>absurd h (by decide))
     refine ⟨by omega,by omega,by omega,?_⟩
     rw [if_neg (by simp only [decide_eq_true_eq];omega)]
     exact hN _ _ ⟨⟨_,_,_,rfl⟩,rfl⟩
  ·obtain ⟨⟨x5,x6,x7,rfl⟩,rfl⟩:=hJ
   exact .inl q
end
section
variable {P:cr} {w:gc} {K:ar} {mg:ba->Option ag} {base:db} {tb:cu} {C_NoPlace C_NoWhole:ac}
theorem dw:aM ["_law_script","_law_k","_law_net_here","_law_words","_law_one","_law_other","_law_partner","_law_part","_law_back","_law_many"] ["_law_script"] (ak yw):=⟨rfl,rfl,rfl,by decide +kernel,rfl,by decide +kernel,by decide +kernel⟩
theorem sA {κ α:Type} [DecidableEq κ] (k x:κ) (v:α):∀(ks:List κ) (ds:List α),ks.length=ds.length->look ks (dX ks ds k v) x=if x=k then (if k∈ks then some v else none) else look ks ds x
 | [],[],_=>by show none=_;by_cases h:x=k <;> simp [h,look]
 |c::ks,d::ds,h=>by
          have ih:=sA k x v ks ds (by simpa using h)
          unfold dX
          unfold look
          by_cases e:c=x
          ·subst e
           by_cases e2:c=k
           ·subst e2;simp
           ·simp [e2]
          ·rw [if_neg e,if_neg e,ih]
           by_cases e2:x=k
           ·subst e2;simp [wn e]
           ·rw [if_neg e2,if_neg e2]
 | [],_::_,h=>by simp at h
 |_::_,[],h=>by simp at h
theorem sC {κ α:Type} [DecidableEq κ] (k x:κ) (v:α):∀(ks:List κ) (ds:List α),ks.length=ds.length->k ∉ ks->look (ks++[k]) (ds++[v]) x=if x=k then some v else look ks ds x
 | [],[],_,_=>by
          show look [k] [v] x=_
          unfold look look
          by_cases h:k=x
          ·rw [if_pos h,if_pos h.symm]
          ·rw [if_neg h,if_neg fun e=>h e.symm]
 |c::ks,d::ds,h,hk=>by
          have ih:=sC k x v ks ds (by simpa using h) fun z=>hk (hX _ z)
          rw [Rs,Rs]
          unfold look
          by_cases e:c=x
          ·subst e
           rw [if_pos rfl,if_pos rfl,if_neg fun z=>hk (by rw [<- z];exact i0)]
          ·rw [if_neg e,if_neg e,ih]
 | [],_::_,h,_=>by simp at h
 |_::_,[],h,_=>by simp at h
theorem DF {κ α:Type} [DecidableEq κ] {ks:List κ} {ds:List α} (h:ks.length=ds.length) (k x:κ) (v:α):look (putL ks k) (dJ ks ds k v) x=if x=k then some v else look ks ds x :=by
 unfold putL dJ
 by_cases e:k∈ks
 ·rw [if_pos e,if_pos e,sA k x v ks ds h]
  simp [e]
 ·rw [if_neg e,if_neg e]
  exact sC k x v ks ds h e
theorem vj {κ α:Type} [DecidableEq κ] (k:κ) (v:α):∀(ks:List κ) (ds:List α),ks.length=ds.length->(dX ks ds k v).length=ks.length/\∀d∈dX ks ds k v,d=v\/d∈ds
 | [],[],_=>⟨rfl,fun d h=>nomatch h⟩
 |c::ks,e::ds,h=>by
          obtain ⟨h1,h2⟩:=vj k v ks ds (by simpa using h)
          unfold dX
          refine ⟨by simp [h1],fun d hd=>?_⟩
          rcases lp.mp hd with rfl|hd
          ·split
           ·exact .inl rfl
           ·exact .inr i0
          ·exact (h2 d hd).imp id (hX _)
 | [],_::_,h=>by simp at h
 |_::_,[],h=>by simp at h
structure kg (net:List (List Int)) (n:Nat) (S:Int->Prop) (ks:List Key) (ds:List Dv):Prop where
 len:ks.length=ds.length
 nd:ks.Nodup
 kin:∀x∈ks,x∈(ao net).map (mf:Int->Key)
 vals:∀d∈ds,∃i,d=.int i
 at':∀p,S p->look ks ds (mf p)=some (.int (cC net n p))
theorem kg.le {net:List (List Int)} {n:Nat} {S:Int->Prop} {ks:List Key} {ds:List Dv} (h:kg net n S ks ds):ks.length<=net.length :=by
 have:=fE _ _ h.nd h.kin
 rw [cb,places_len] at this
 exact this
theorem kg.put {net:List (List Int)} {n:Nat} {S:Int->Prop} {ks:List Key} {ds:List Dv} (h:kg net n S ks ds) {p:Int} (hp:p∈ao net):kg net n (fun x=>S x\/x=p) (putL ks (mf p)) (dJ ks ds (mf p) (.int (cC net n p))) :=by
 have hl:=DF h.len (mf p) (v:=Dv.int (cC net n p))
 obtain ⟨r1,r2⟩:=vj (mf p) (Dv.int (cC net n p)) ks ds h.len
 refine ⟨?_,?_,fun x hx=>?_,fun d hd=>?_,fun x hx=>?_⟩
 ·unfold putL dJ
  split
  ·rw [r1]
  ·simp [h.len]
 ·unfold putL
  split
  ·exact h.nd
  ·rename_i z
   rw [Ub]
   exact ⟨h.nd,by simp,fun a ha b hb e=>by
    have e2:=li.mp hb
    subst e2;subst e
    exact z ha⟩
 ·unfold putL at hx
  split at hx
  ·exact h.kin x hx
  ·rcases tz.mp hx with z|z
   ·exact h.kin x z
   ·rw [li.mp z];exact sw.mpr ⟨p,hp,rfl⟩
 ·unfold dJ at hd
  split at hd
  ·rcases r2 d hd with rfl|z
   ·exact ⟨_,rfl⟩
   ·exact h.vals d z
  ·rcases tz.mp hd with z|z
   ·exact h.vals d z
   ·rw [li.mp z];exact ⟨_,rfl⟩
 ·rw [hl]
  by_cases e:x=p
  ·subst e;rw [if_pos rfl]
  ·rw [if_neg fun z=>e (TL z)]
   exact h.at' x (hx.resolve_right e)
theorem kg.mono {net:List (List Int)} {n:Nat} {S T:Int->Prop} {ks:List Key} {ds:List Dv} (h:kg net n S ks ds) (hs:∀p,T p->S p):kg net n T ks ds:=⟨h.len,h.nd,h.kin,h.vals,fun p hp=>h.at' p (hs p hp)⟩
theorem DG {net:List (List Int)} {n i j:Nat} (hj:j<net.length):dS net.length (i * net.length+(j+1))=dS net.length (i * net.length+j)++[[mf ((i:Nat):Int),mf ((j:Nat):Int)]]/\gK net n (i * net.length+(j+1))=gK net n (i * net.length+j)++[cy (cP net n (i:Int) (j:Int))]/\([mf ((i:Nat):Int),mf ((j:Nat):Int)]:List Key) ∉ dS net.length (i * net.length+j) :=by
 obtain ⟨e0,e1,e2⟩:=xn (i:=i) hj
 refine ⟨?_,?_,fun h=>?_⟩
 ·unfold dS
  rw [show i * net.length+(j+1)=(i * net.length+j)+1 by omega,UA,wv,<- e0]
  rfl
 ·unfold gK
  rw [show i * net.length+(j+1)=(i * net.length+j)+1 by omega,UA,wv]
  show _++[cy (cP net n (((i * net.length+j) / net.length:Nat):Int) (((i * net.length+j) % net.length:Nat):Int))]=_
  rw [e1,e2]
 ·unfold dS at h
  rw [<- e0] at h
  obtain ⟨t,ht,e⟩:=sw.mp h
  have:=vf e
  have:=LH.mp ht
  omega
theorem KG {f f1 f2 f3 f4 f5 f6 f7:ac} {fd bC fd2 j0 BG N6 N7 N8:im} (D:Df K mg "law" yw ["_law_script"] f fd)
  (fe:Df K mg "_law_bag" iV ["_law_script","_law_at"] f1 bC) (yL:FnOk P w K mg base bL 1 f1 bC ["_law_script","_law_at"] (aR P w K tb Kf))
  (fg:Df K mg "_law_net" d9 ["_law_bag_here","_law_most"] f2 fd2) (yM:FnOk P w K mg base bL 3 f2 fd2 ["_law_bag_here","_law_most"] (aR P w K tb EL))
  (nQ:Df K mg "way" sZ ["net","start","goal"] f3 j0) (yN:FnOk P w K mg base (ck P w) 9 f3 j0 ["net","start","goal"] (aR P w K tb (Ks C_NoPlace)))
  (cU:Df K mg "parts" gX ["net"] f4 BG) (nN:FnOk P w K mg base (ck P w) 9 f4 BG ["net"] (aR P w K tb qN))
  (aL:Df K mg "hangs_together" dn ["net"] f5 N6) (ee:FnOk P w K mg base (ck P w) 10 f5 N6 ["net"] (aR P w K tb va))
  (jI:Df K mg "beat" kM ["net"] f6 N7) (vk:FnOk P w K mg base (ck P w) 12 f6 N7 ["net"] (aR P w K tb (E2 C_NoWhole)))
  (dU:Df K mg "_law_right" gF ["_law_net_here","_law_words","_law_one","_law_other"] f7 N8) (vm:FnOk P w K mg base bL 12 f7 N8 ["_law_net_here","_law_words","_law_one","_law_other"] (aR P w K tb vh)) (bl:Bl mg) :
  FnOk P w K mg base bL 13 f fd ["_law_script"] (aR P w K tb Jw) :=by
 refine gA D dw (fun ds M Q E hS=>by obtain ⟨ns,e,_⟩:=hS;rw [e];rfl) fun A outer s E Γ ds Q' E' hP hw hK ht hr hS=>?_
 obtain ⟨ns,e,hl,hM,q⟩:=hS
 refine ⟨_,(ai (wR ma rfl (bw rfl bl.range_ (aa (ay (Jr rfl) rfl bl.max_ Iu (aa av (aa (ay (uF rfl) rfl bl.min_ pj (aa av (aa (ay (bP (K:=K) rfl hK) rfl bl.len_ kw (aa (qv 0) ae)) ae))) ae))) ae)) (fun fX M1 hM eP ew eK et=>by have hP:=hP.trans eP.symm;have hw:=hw.trans ew.symm;have hK:=hK.trans eK.symm;have ht:=ht.trans et.symm;exact ⟨(aN (i:=1) dw.nd rfl (l6 rfl)),(ai (aJ (i:=2) dw.nd rfl (l6 rfl) (aE yM (hr.mono (by decide)) rfl fg.mg fg.fn.kp fg.bd b5 hP hw hK ht XR.none (aa (aE yL (hr.mono (by decide)) rfl fe.mg fe.fn.kp fe.bd b5 hP hw hK ht XR.none (aa (qv 0) (aa (qv 1) ae))) (aa av ae))))
  (ai (aJ (i:=3) dw.nd rfl (l6 rfl) C5)
  (ai (cc ma rfl (bw rfl bl.range_ (aa (ay (bP (K:=K) rfl hK) rfl bl.len_ kw (aa (qv 2) ae)) ae)) (fun fX eP ew eK et=>by have hP:=hP.trans eP.symm;have hw:=hw.trans ew.symm;have hK:=hK.trans eK.symm;have ht:=ht.trans et.symm;exact ⟨(aN (i:=4) dw.nd rfl (l6 rfl)),(aq (cc ma rfl (bw rfl bl.range_ (aa (ay (bP (K:=K) rfl hK) rfl bl.len_ kw (aa (qv 2) ae)) ae)) (fun fX eP ew eK et=>by have hP:=hP.trans eP.symm;have hw:=hw.trans ew.symm;have hK:=hK.trans eK.symm;have ht:=ht.trans et.symm;exact ⟨(aN (i:=5) dw.nd rfl (l6 rfl)),(aq (qB hr.units (qv 3) (fv (aa (qv 4) (aa (qv 5) ae))) (aE yN (hr.mono (by decide)) rfl nQ.mg nQ.fn.kp nQ.bd kX hP hw hK ht XR.none (aa (qv 2) (aa (qv 4) (aa (qv 5) ae))))))⟩)))⟩))
  (ai (aJ (i:=6) dw.nd rfl (l6 rfl) C4)
  (ai (Gf 3 hM (cc ma rfl (ky (K:=K) rfl (aE nN (hr.mono (by decide)) rfl cU.mg cU.fn.kp cU.bd kX hP hw hK ht XR.none (aa (qv 2) ae))) (fun fX eP ew eK et=>by have hP:=hP.trans eP.symm;have hw:=hw.trans ew.symm;have hK:=hK.trans eK.symm;have ht:=ht.trans et.symm;exact ⟨(aN (i:=7) dw.nd rfl (l6 rfl)),(aq (cc ma rfl (ky (K:=K) rfl (qv 7)) (fun fX eP ew eK et=>by have hP:=hP.trans eP.symm;have hw:=hw.trans ew.symm;have hK:=hK.trans eK.symm;have ht:=ht.trans et.symm;exact ⟨(aN (i:=4) dw.nd rfl (l6 rfl)),(aq (qB hr.units (qv 6) (qv 4) (bH (cB (K:=K) rfl) (qv 7) av (fun _ _=>rfl))))⟩)))⟩)))
  (ai (cc ma rfl (bw rfl bl.range_ (aa (ay (bP (K:=K) rfl hK) rfl bl.len_ kw (aa (qv 2) ae)) ae)) (fun fX eP ew eK et=>by have hP:=hP.trans eP.symm;have hw:=hw.trans ew.symm;have hK:=hK.trans eK.symm;have ht:=ht.trans et.symm;exact ⟨(aN (i:=4) dw.nd rfl (l6 rfl)),(aq (cc ma rfl (bw rfl bl.range_ (aa (ay (bP (K:=K) rfl hK) rfl bl.len_ kw (aa (qv 2) ae)) ae)) (fun fX eP ew eK et=>by have hP:=hP.trans eP.symm;have hw:=hw.trans ew.symm;have hK:=hK.trans eK.symm;have ht:=ht.trans et.symm;exact ⟨(aN (i:=5) dw.nd rfl (l6 rfl)),(ai (aJ (i:=8) dw.nd rfl (l6 rfl) (uy (iZ mU (dM hr.units (qv 3) (fv (aa (qv 4) (aa (qv 5) ae))) (fun _ _=>rfl)) ko (bB _)) (ux (iZ mU (dM hr.units (qv 3) (fv (aa (qv 5) (aa (qv 4) ae))) (fun _ _=>rfl)) ko (bB _)))))
  (aq (cw (QW.pt (pG (bt uE (qv 8) (iZ oC (dM hr.units (qv 6) (qv 4) (fun _ _=>rfl)) (dM hr.units (qv 6) (qv 5) (fun _ _=>rfl)) (bB _)) (bB _)) (mP (gu (fu (aE vm (hr.mono (by decide)) rfl dU.mg dU.fn.kp dU.bd b5 hP hw hK ht XR.none (aa (qv 2) (aa (qv 3) (aa (qv 4) (aa (qv 5) ae))))))))))
   (aq (a9 fA))
   qss_nil)))⟩)))⟩))
  (ai (cw (bt uE (aE ee (hr.mono (by decide)) rfl aL.mg aL.fn.kp aL.bd kX hP hw hK ht XR.none (aa (qv 2) ae)) (iZ oC (ay (bP (K:=K) rfl hK) rfl bl.len_ kw (aa (aE nN (hr.mono (by decide)) rfl cU.mg cU.fn.kp cU.bd kX hP hw hK ht XR.none (aa (qv 2) ae)) ae)) av (bB _)) (bB _))
   (aq (a9 fA))
   qss_nil)
  (aq (cw (fu (aE ee (hr.mono (by decide)) rfl aL.mg aL.fn.kp aL.bd kX hP hw hK ht XR.none (aa (qv 2) ae)))
   (ai (aJ (i:=9) dw.nd rfl (l6 rfl) (bH (cB (K:=K) rfl) (aE vk (hr.mono (by decide)) rfl jI.mg jI.fn.kp jI.bd kX hP hw hK ht XR.none (aa (qv 2) ae)) av (fun _ _=>rfl)))
  (aq (cc ma rfl (ky (K:=K) rfl (mV (Dk rfl) rfl bl.list_ Fy (aa (qv 3) ae))) (fun fX eP ew eK et=>by have hP:=hP.trans eP.symm;have hw:=hw.trans ew.symm;have hK:=hK.trans eK.symm;have ht:=ht.trans et.symm;exact ⟨(Af (n:=2) rfl (k4 (aN (i:=4) dw.nd rfl (l6 rfl)) (k4 (aN (i:=5) dw.nd rfl (l6 rfl)) wQ))),(aq (cw (bt uE (a8 gz (a8 fD (ay (bP (K:=K) rfl hK) rfl bl.len_ kw (aa (dM hr.units (qv 3) (fv (aa (qv 4) (aa (qv 5) ae))) (fun _ _=>rfl)) ae)) (ay (bP (K:=K) rfl hK) rfl bl.len_ kw (aa (dM hr.units (qv 3) (fv (aa (qv 5) (aa (qv 4) ae))) (fun _ _=>rfl)) ae))) (qv 9)) av (bB _))
   (aq (a9 fA))
   qss_nil))⟩))))
   qss_nil)))))))))⟩))
  (aq (a9 fA))),?_⟩
 subst e
 simp! only []
 refine ⟨by split <;> split <;> omega,by split <;> split <;> omega,?_⟩
 have Ms:∀(M:Mh) (o:Option ba),Pin M (cy o):=fun M o=>by cases o with|none=>exact .aB|some z=>exact .str z
 refine bg (fun k ρ M=>∃x1 x2 x3 x4 x5 x6 x7 x8 x9,ρ=[some (.bj ns),x1,x2,x3,x4,x5,x6,x7,x8,x9]/\(aZ x4/\aZ x5/\aZ x7/\aZ x8/\aZ x9)/\∀b o,M b=some o->∀d∈o.items,∃i,d=.int i) ⟨_,_,_,_,_,_,_,_,_,rfl,⟨aZ.none,aZ.none,aZ.none,aZ.none,aZ.none⟩,fun b o e=>by rw [hM b] at e;cases e⟩ (fun k d ρ M N hd hJ hN=>?_) (fun ρ M _=>.inl (q _))
 obtain ⟨x1,x2,x3,x4,x5,x6,x7,x8,x9,rfl,⟨p4,p5,p7,p8,p9⟩,hO⟩:=hJ
 obtain ⟨rfl,hk⟩:=bE hd
 have hk:k<=20 :=by split at hk <;> split at hk <;> omega
 have big:(1000:Nat)<sizeLine :=by decide
 show zSeq _ _ _ _ _
 refine EF (fun ρ M=>∃net n a x4 x5 x6,ρ=[some (.bj ns),some (.int (k:Nat)),some (eN net),some (.ptr a),x4,x5,x6,x7,x8,x9]/\(aZ x4/\aZ x5)/\aT net n/\M a=some (.dt (dS net.length (net.length * net.length)) (gK net n (net.length * net.length)))/\∀b o,b≠a->M b=some o->∀d∈o.items,∃i,d=.int i) (fun N' BH=>?_) (fun ρ M hI=>?_)
 ·simp! only []
  refine ⟨ns,_,rfl,hl,by omega,by omega,fun b hb=>?_⟩
  have RX:∀c o,au M b .c6 c=some o->∀d∈o.items,∃i,d=.int i:=fun c o e=>by
   by_cases z:c=b
   ·subst z;rw [updM_same] at e;cases e;exact fun d hd=>nomatch hd
   ·rw [ah z] at e;exact hO c o e
  refine ⟨b,9,rfl,updM_same,by omega,by omega,fun net n O _=>?_⟩
  have h9:=O.nine
  simp! only []
  intro a ha
  have RY:dS net.length (0 * net.length)=[] :=by rw [Nat.zero_mul];rfl
  have RZ:gK net n (0 * net.length)=[] :=by rw [Nat.zero_mul];rfl
  refine ⟨by omega,by omega,bg (fun i ρ M=>(∃x4 x5,ρ=[some (.bj ns),some (.int (k:Nat)),some (eN net),some (.ptr a),x4,x5,x6,x7,x8,x9]/\aZ x4/\aZ x5)/\M a=some (.dt (dS net.length (i * net.length)) (gK net n (i * net.length)))/\(∀c o,c≠a->M c=some o->∀d∈o.items,∃i,d=.int i)/\i<=net.length) ⟨⟨_,_,rfl,p4,p5⟩,by rw [updM_same,RY,RZ],fun c o z e=>by rw [ah z] at e;exact RX c o e,rb _⟩ (fun i d ρ M N2 hd hJ ix=>?_) (fun ρ M hJ=>?_)⟩
  ·obtain ⟨⟨x4,x5,rfl,p4,p5⟩,fh,gP,_⟩:=hJ
   obtain ⟨rfl,hi⟩:=bE hd
   simp! only []
   refine ⟨by omega,by omega,bg (fun j ρ M=>(∃x5,ρ=[some (.bj ns),some (.int (k:Nat)),some (eN net),some (.ptr a),some (.int (i:Nat)),x5,x6,x7,x8,x9]/\aZ x5)/\M a=some (.dt (dS net.length (i * net.length+j)) (gK net n (i * net.length+j)))/\(∀c o,c≠a->M c=some o->∀d∈o.items,∃i,d=.int i)/\j<=net.length) ⟨⟨_,rfl,p5⟩,fh,gP,rb _⟩ (fun j d ρ M N3 hd hJ pW=>?_) (fun ρ M hJ=>?_)⟩
   ·obtain ⟨⟨x5,rfl,p5⟩,fh,gP,_⟩:=hJ
    obtain ⟨rfl,hj⟩:=bE hd
    obtain ⟨w1,w2,w3⟩:=DG (net:=net) (n:=n) (i:=i) hj
    have iL:=dr (net:=net) hi
    have ou:=dr (net:=net) hj
    have hb:(bV (net.length:Int) (.int (i:Nat)) && bV (net.length:Int) (.int (j:Nat)))=true :=by
     simp only [bV,BB,decide_eq_true_eq]
     omega
    have kd:∀i j:Int,iS [.int i,.int j]=some [mf i,mf j]:=fun _ _=>rfl
    have SR:(dS net.length (i * net.length+j)).length<=81 :=by
     unfold dS
     rw [cb,ET]
     have:i * net.length<=8 * net.length:=Nat.mul_le_mul_right _ (by omega)
     omega
    simp! only []
    refine ⟨net,n,_,_,rfl,O,rfl,rfl,fun s g e1 e2 _ _=>?_,fun h=>by rw [hb] at h;cases h⟩
    cases e1;cases e2
    simp! only [kd,fh]
    obtain ⟨u1,u2⟩:=xg (ds:=gK net n (i * net.length+j)) (d:=cy (cP net n (i:Int) (j:Int))) w3
    rw [u1,u2,<- w1,<- w2]
    exact ⟨by decide,by omega,pW _ _ ⟨⟨_,rfl,.int _⟩,updM_same,fun c o z e=>by rw [ah z] at e;exact gP c o z e,hj⟩⟩
   ·obtain ⟨⟨x5,rfl,p5⟩,fh,gP,_⟩:=hJ
    rw [rangeD_len,show i * net.length+net.length=(i+1) * net.length by rw [Nat.add_mul,Nat.one_mul]] at fh
    exact ix _ _ ⟨⟨_,_,rfl,.int _,p5⟩,fh,gP,hi⟩
  ·obtain ⟨⟨x4,x5,rfl,p4,p5⟩,fh,gP,_⟩:=hJ
   rw [rangeD_len] at fh
   exact BH _ _ ⟨net,n,a,_,_,_,rfl,⟨p4,p5⟩,O,fh,gP⟩
 ·obtain ⟨net,n,a,x4,x5,x6,rfl,⟨p4,p5⟩,O,fh,hO⟩:=hI
  have h9:=O.nine
  have h1:=O.one
  refine yt (fun ρ M=>∃c ks ds x4 x5 x7,ρ=[some (.bj ns),some (.int (k:Nat)),some (eN net),some (fO net n),x4,x5,some (.ptr c),x7,x8,x9]/\(aZ x4/\aZ x5/\aZ x7)/\M c=some (.dk ks ds)/\(∀p∈ao net,look ks ds (mf p)=some (.int (cC net n p)))/\∀b o,M b=some o->∀d∈o.items,∃i,d=.int i) (fun N' BH=>?_) (fun ρ M hI=>?_)
  ·simp! only []
   intro c hc
   have KH:a≠c:=fun z=>by rw [z,hc] at fh;cases fh
   refine .inr ⟨a,_,_,rfl,by rw [ah KH];exact fh,hM a,⟨fun i d e=>?_,fun b o e=>.inr fun d hd=>?_⟩,?_⟩
   ·match i,e with
    |0,e=>cases e;exact .bj _
    |1,e=>cases e;exact .int _
    |2,e=>cases e;exact As net
    |3,e=>
     cases e
     exact .dt fun d hd=>by
      unfold gK at hd
      obtain ⟨t,_,rfl⟩:=sw.mp hd
      exact Ms _ _
    |4,e=>exact p4 _ _ (dL e)
    |5,e=>exact p5 _ _ (dL e)
    |6,e=>cases e;exact .ptr (by rw [bb (wn KH),updM_same];rfl)
    |7,e=>exact p7 _ _ (dL e)
    |8,e=>exact p8 _ _ (dL e)
    |9,e=>exact p9 _ _ (dL e)
    |i+10,e=>exact nomatch e
   ·have nb:b≠a:=fun z=>by rw [z,bF] at e;cases e
    rw [bb nb] at e
    by_cases z:b=c
    ·subst z;rw [updM_same] at e;cases e;exact nomatch hd
    ·rw [ah z] at e
     obtain ⟨i,rfl⟩:=hO b o nb e d hd
     exact .int i
   ·have gP:∀b o,b≠c->bz (au M c (.dk [] [])) a b=some o->∀d∈o.items,∃i,d=.int i:=fun b o z e=>by
     have nb:b≠a:=fun z=>by rw [z,bF] at e;cases e
     rw [bb nb,ah z] at e
     exact hO b o nb e
    have gO:bz (au M c (.dk [] [])) a c=some (.dk [] []) :=by rw [bb (wn KH),updM_same]
    generalize bz (au M c (.dk [] [])) a=M at gP gO
    simp! only []
    refine ⟨net,n,rfl,O,?_⟩
    show zLoop _ _ _ ((bI net n).map gC) _ _
    have gl:∀t:Nat,((bI net n).map gC)[t]?=((cf net n net.length)[t]?).map fun h=>gC (cY net n h):=fun t=>by
     unfold bI
     rw [br,br,Option.map_map]
     rfl
    refine bg (fun t ρ M=>∃ks ds,(∃x4 x7,ρ=[some (.bj ns),some (.int (k:Nat)),some (eN net),some (fO net n),x4,x5,some (.ptr c),x7,x8,x9]/\aZ x4/\aZ x7)/\M c=some (.dk ks ds)/\kg net n (fun p=>∃h∈(cf net n net.length).take t,p∈cY net n h) ks ds/\∀b o,b≠c->M b=some o->∀d∈o.items,∃i,d=.int i) ⟨[],[],⟨_,_,rfl,p4,p7⟩,gO,⟨rfl,.nil,fun x h=>(nomatch h),fun x h=>(nomatch h),fun p ⟨h,hh,_⟩=>nomatch hh⟩,gP⟩ (fun t d ρ M N2 hd hJ ix=>?_) (fun ρ M hJ=>?_)
    ·obtain ⟨ks,ds,⟨x4,x7,rfl,p4,p7⟩,gO,hP,gP⟩:=hJ
     rw [gl] at hd
     obtain ⟨h,hh,rfl⟩:=io.mp hd
     obtain ⟨N9,hH⟩:=qg.mp (c8 hh)
     obtain ⟨v,tl,R1,hv⟩:=cls_cons (n:=n) N9
     have ev:=hv.mpr hH
     subst ev
     have h0:cj ((cY net n v).map Dv.int) 0=some (.int v) :=by rw [R1];exact atI_zero
     simp! only [gC]
     refine bg (fun u ρ M=>∃ks ds,(∃x4,ρ=[some (.bj ns),some (.int (k:Nat)),some (eN net),some (fO net n),x4,x5,some (.ptr c),some (.lst ((cY net n v).map .int)),x8,x9]/\aZ x4)/\M c=some (.dk ks ds)/\kg net n (fun p=>(∃h∈(cf net n net.length).take t,p∈cY net n h)\/p∈(cY net n v).take u) ks ds/\∀b o,b≠c->M b=some o->∀d∈o.items,∃i,d=.int i) ⟨ks,ds,⟨_,rfl,p4⟩,gO,hP.mono fun p hp=>hp.resolve_right (by simp),gP⟩ (fun u d ρ M N3 hd hJ pW=>?_) (fun ρ M hJ=>?_)
     ·obtain ⟨ks,ds,⟨x4,rfl,p4⟩,gO,hP,gP⟩:=hJ
      rw [br] at hd
      obtain ⟨p,hp,rfl⟩:=io.mp hd
      obtain ⟨pp,sp⟩:=dg.mp (c8 hp)
      have eh:cC net n p=v:=sx pp N9 hH (sy sp)
      have hle:=hP.le
      simp! only [h0,gO]
      refine ⟨by omega,pW _ _ ⟨_,_,⟨_,rfl,.int _⟩,updM_same,?_,fun b o z e=>by rw [ah z] at e;exact gP b o z e⟩⟩
      have:=hP.put pp
      rw [eh] at this
      refine this.mono fun x hx=>?_
      rcases hx with hx|hx
      ·exact .inl (.inl hx)
      ·rw [List.take_succ,hp,tz] at hx
       rcases hx with hx|hx
       ·exact .inl (.inr hx)
       ·exact .inr (by simpa using hx)
     ·obtain ⟨ks,ds,⟨x4,rfl,p4⟩,gO,hP,gP⟩:=hJ
      refine ix _ _ ⟨ks,ds,⟨_,_,rfl,p4,.lI _⟩,gO,hP.mono fun p hp=>?_,gP⟩
      obtain ⟨h,vn,hp⟩:=hp
      rw [List.take_succ,hh,tz] at vn
      rcases vn with vn|vn
      ·exact .inl ⟨h,vn,hp⟩
      ·simp at vn
       subst vn
       exact .inr (by rw [cb,Uq];exact hp)
    ·obtain ⟨ks,ds,⟨x4,x7,rfl,p4,p7⟩,gO,hP,gP⟩:=hJ
     refine BH _ _ ⟨c,ks,ds,_,_,_,rfl,⟨p4,p5,p7⟩,gO,fun p hp=>hP.at' p ?_,fun b o e d hd=>?_⟩
     ·obtain ⟨g1,g2,g3⟩:=lX (n:=n) hp
      refine ⟨cC net n p,?_,dg.mpr ⟨hp,sy g2⟩⟩
      have:((bI net n).map gC).length=(cf net n net.length).length :=by unfold bI;simp
      rw [this,Uq]
      exact qg.mpr ⟨g1,g3⟩
     ·by_cases z:b=c
      ·subst z;rw [gO] at e;cases e;exact hP.vals d hd
      ·exact gP b o z e d hd
  ·obtain ⟨c,ks,ds,x4,x5,x7,rfl,⟨p4,p5,p7⟩,gO,oi,hO⟩:=hI
   have kd:∀i j:Int,iS [.int i,.int j]=some [mf i,mf j]:=fun _ _=>rfl
   have A9:∀{i j:Nat},i<net.length->j<net.length->look (dS net.length (net.length * net.length)) (gK net n (net.length * net.length)) [mf ((i:Nat):Int),mf ((j:Nat):Int)]=some (cy (cP net n (i:Int) (j:Int))):=fun hi hj=>vg hi hj
   refine yr (fun ρ M=>∃x4 x5 x7 x8,ρ=[some (.bj ns),some (.int (k:Nat)),some (eN net),some (fO net n),x4,x5,some (.ptr c),x7,x8,x9]/\(aZ x4/\aZ x5/\aZ x7/\aZ x8)/\∀b o,M b=some o->∀d∈o.items,∃i,d=.int i) (fun N' BH=>?_) (fun ρ M hI=>?_)
   ·simp! only []
    refine ⟨by omega,by omega,bg (fun i ρ M2=>(∃x4 x5 x8,ρ=[some (.bj ns),some (.int (k:Nat)),some (eN net),some (fO net n),x4,x5,some (.ptr c),x7,x8,x9]/\aZ x4/\aZ x5/\aZ x8)/\M2=M) ⟨⟨_,_,_,rfl,p4,p5,p8⟩,rfl⟩ (fun i d ρ M2 N2 hd hJ ix=>?_) (fun ρ M2 hJ=>?_)⟩
    ·obtain ⟨⟨x4,x5,x8,rfl,p4,p5,p8⟩,rfl⟩:=hJ
     obtain ⟨rfl,hi⟩:=bE hd
     simp! only []
     refine ⟨by omega,by omega,bg (fun j ρ M3=>(∃x5 x8,ρ=[some (.bj ns),some (.int (k:Nat)),some (eN net),some (fO net n),some (.int (i:Nat)),x5,some (.ptr c),x7,x8,x9]/\aZ x5/\aZ x8)/\M3=M2) ⟨⟨_,_,rfl,p5,p8⟩,rfl⟩ (fun j d ρ M3 N3 hd hJ pW=>?_) (fun ρ M3 hJ=>?_)⟩
     ·obtain ⟨⟨x5,x8,rfl,p5,p8⟩,rfl⟩:=hJ
      obtain ⟨rfl,hj⟩:=bE hd
      have iL:=dr (net:=net) hi
      have ou:=dr (net:=net) hj
      simp! only [fO,kd,A9 hi hj,A9 hj hi,gO,oi _ iL,oi _ ou]
      have s1:=jH O iL (g:=(j:Int))
      have s2:=jH O ou (g:=(i:Int))
      have hs:=BF (n:=n) iL ou
      refine ⟨by decide,?_⟩
      generalize cP net n (i:Int) (j:Int)=o1 at s1 ⊢
      generalize cP net n (j:Int) (i:Int)=o2 at s2 ⊢
      have fin:∀b:Bool,aZ (some (.bl b)):=fun b _ _ h=>by cases h;exact .bl b
      cases o1 with
      |none=>
       have n1:¬ eJ net n (i:Int) (j:Int):=fun z=>by rw [decide_eq_true z] at s1;cases s1
       rw [show decide (cC net n (i:Int)=cC net n (j:Int))=false from decide_eq_false fun z=>n1 (hs.mp z).1]
       simp only [cy]
       refine dj (fun h=>absurd h (by decide)) (fun _=>?_)
       rw [if_neg (by decide)]
       refine ⟨net,n,i,j,rfl,O,hi,hj,?_⟩
       simp! only []
       exact pW _ _ ⟨⟨_,_,rfl,.int _,fin _⟩,rfl⟩
      |some w1=>
       have n1:eJ net n (i:Int) (j:Int):=of_decide_eq_true s1.symm
       simp only [cy]
       refine dj (fun _=>⟨by decide,?_⟩) (fun h=>absurd h (by decide))
       cases o2 with
       |none=>
        have n2:¬ eJ net n (j:Int) (i:Int):=fun z=>by rw [decide_eq_true z] at s2;cases s2
        rw [show decide (cC net n (i:Int)=cC net n (j:Int))=false from decide_eq_false fun z=>n2 (hs.mp z).2]
        simp only [cy]
        rw [if_neg (by decide)]
        refine ⟨net,n,i,j,rfl,O,hi,hj,?_⟩
        simp! only []
        exact pW _ _ ⟨⟨_,_,rfl,.int _,fin _⟩,rfl⟩
       |some w2=>
        have n2:eJ net n (j:Int) (i:Int):=of_decide_eq_true s2.symm
        rw [show decide (cC net n (i:Int)=cC net n (j:Int))=true from decide_eq_true (hs.mpr ⟨n1,n2⟩)]
        simp only [cy]
        rw [if_neg (by decide)]
        refine ⟨net,n,i,j,rfl,O,hi,hj,?_⟩
        simp! only []
        exact pW _ _ ⟨⟨_,_,rfl,.int _,fin _⟩,rfl⟩
     ·obtain ⟨⟨x5,x8,rfl,p5,p8⟩,rfl⟩:=hJ
      exact ix _ _ ⟨⟨_,_,_,rfl,.int _,p5,p8⟩,rfl⟩
    ·obtain ⟨⟨x4,x5,x8,rfl,p4,p5,p8⟩,rfl⟩:=hJ
     exact BH _ _ ⟨_,_,_,_,rfl,⟨p4,p5,p7,p8⟩,hO⟩
   ·obtain ⟨x4,x5,x7,x8,rfl,⟨p4,p5,p7,p8⟩,hO⟩:=hI
    simp! only []
    refine ⟨net,n,rfl,O,net,n,rfl,O,?_⟩
    have rC:=qa (net:=net) (n:=n)
    have ed:decide ((bI net n).length=1)=decide (((bI net n).length:Int)=1):=decide_eq_decide.mpr (by omega)
    simp! only []
    rw [if_neg (by rw [ed];simp)]
    refine ⟨net,n,rfl,O,?_⟩
    simp! only []
    refine dj (fun h=>?_) (fun h=>?_)
    ·have W:=(jC O).mp (of_decide_eq_true h)
     refine ⟨net,n,rfl,O,fun _ g hg=>?_,fun z=>absurd W z⟩
     have gp:=xk O W hg
     have R3:∀x y:Dv,cj [x,y] 0=some x:=fun _ _=>atI_zero
     simp! only [R3,fO]
     have SU:net.length * net.length<=9 * 9:=Nat.mul_le_mul h9 h9
     refine ⟨by unfold dS;rw [cb,ET];omega,bg (fun t ρ M2=>(∃x4 x5,ρ=[some (.bj ns),some (.int (k:Nat)),some (eN net),some (fO net n),x4,x5,some (.ptr c),x7,x8,some (.int (g:Nat))]/\aZ x4/\aZ x5)/\M2=M) ⟨⟨_,_,rfl,p4,p5⟩,rfl⟩ (fun t d ρ M2 N2 hd hJ ix=>?_) (fun ρ M2 hJ=>?_)⟩
     ·obtain ⟨⟨x4,x5,rfl,p4,p5⟩,rfl⟩:=hJ
      unfold dS at hd
      rw [xz,br] at hd
      obtain ⟨t2,ht,rfl⟩:=io.mp hd
      have xi:=(bv.mp ht).1
      rw [ET] at xi
      rw [wP xi] at ht
      cases ht
      have hi:t / net.length<net.length:=Nat.div_lt_of_lt_mul xi
      have hj:t % net.length<net.length:=Ue _ (by omega)
      have ed:((fun k:List Key=>Dv.tup (k.map lu)) ∘ qP net.length) t=.tup [.int (t / net.length:Nat),.int (t % net.length:Nat)]:=rfl
      rw [ed]
      generalize t / net.length=i at hi ⊢
      generalize t % net.length=j at hj ⊢
      have iL:=dr (net:=net) hi
      have ou:=dr (net:=net) hj
      have s1:=jH O iL (g:=(j:Int))
      have s2:=jH O ou (g:=(i:Int))
      rw [decide_eq_true (W _ iL _ ou)] at s1
      rw [decide_eq_true (W _ ou _ iL)] at s2
      obtain ⟨w1,e1⟩:=LS.mp s1
      obtain ⟨w2,e2⟩:=LS.mp s2
      obtain ⟨_,a2,a3,_,_⟩:=kO O iL e1
      obtain ⟨_,b2,b3,_,_⟩:=kO O ou e2
      have dv:=Bs O hg.dv iL (a2.app b2)
      rw [show (cI net n (i:Int):Int)+((w1.length+w2.length:Nat):Int) - cI net n (i:Int)=(w1.length:Int)+w2.length by omega] at dv
      have l1:=A9 hi hj
      have l2:=A9 hj hi
      rw [e1] at l1
      rw [e2] at l2
      simp! only [fO,kd,l1,l2,cy]
      refine ⟨by decide,by omega,by decide,by omega,by omega,?_⟩
      rw [if_neg (by simp [Int.emod_eq_zero_of_dvd dv])]
      exact ix _ _ ⟨⟨_,_,rfl,.int _,.int _⟩,rfl⟩
     ·obtain ⟨⟨x4,x5,rfl,p4,p5⟩,rfl⟩:=hJ
      exact hN _ _ ⟨_,_,_,_,_,_,_,_,_,rfl,⟨p4,p5,p7,p8,.int _⟩,hO⟩
    ·exact hN _ _ ⟨_,_,_,_,_,_,_,_,_,rfl,⟨p4,p5,p7,p8,p9⟩,hO⟩
end
theorem all_mk {l:Uy} {w:gc} {K:ar} {h:db} {mg:ba->Option ag} {fa:ac} {tabs lts:List ac} {C_RoadError C_NoNet C_NoPlace C_NoWord C_NoWhole:ac} (X:K.In h) (G:h.Ns mainGlobals mg) (R4:mg "law" = some (.ref fa))
  (T:BN (TabOf mg h) ["is_row","is_net","is_word","beat"] tabs) (U:BN (TabOf mg h) ["first_words"] lts)
  (v7:i1 K mainGlobals "RoadError" = some (some (.ref C_RoadError)))
  (Gw:i1 K mainGlobals "NoNet" = some (some (.ref C_NoNet)))
  (BI:i1 K mainGlobals "NoPlace" = some (some (.ref C_NoPlace)))
  (DH:i1 K mainGlobals "NoWord" = some (some (.ref C_NoWord)))
  (BJ:i1 K mainGlobals "NoWhole" = some (some (.ref C_NoWhole)))
  (eb:xZ K C_RoadError [C_NoNet,C_NoPlace,C_NoWord,C_NoWhole]=true) (SV:[C_NoNet,C_NoPlace,C_NoWord,C_NoWhole].Nodup)
  (yO:bO K "is_whole" d6)
  (oR:bO K "is_whole_below" cH)
  (oS:bO K "common_divisor" d7)
  (DI:bO K "is_row" jv)
  (DJ:bO K "is_net" jw)
  (yP:bO K "need_net" d8)
  (yQ:bO K "signs_of" iT)
  (yR:bO K "is_place" iU)
  (vo:bO K "need_place" eS)
  (BK:bO K "is_word" iw)
  (v8:bO K "need_word" h8)
  (DK:bO K "end_of" lD)
  (Mt:bO K "led" sY)
  (kh:∃tk,m5 K "first_met" ia (.int 511 tk))
  (sN:bO K "first_words" az)
  (Mu:bO K "way" sZ)
  (Gx:bO K "parts" gX)
  (oU:bO K "hangs_together" dn)
  (vp:bO K "need_whole" gD)
  (KI:bO K "beat" kM)
  (yS:bO K "_law_bag" iV)
  (wa:bO K "_law_take" fx)
  (vq:bO K "_law_order" gE)
  (yT:bO K "_law_net" d9)
  (vt:bO K "_law_right" gF)
  (Mv:bO K "law" yw)
  (Mw:i1 K mainGlobals "len" = some none)
  (Gy:i1 K mainGlobals "range" = some none)
  (Mx:i1 K mainGlobals "min" = some none)
  (MA:i1 K mainGlobals "max" = some none)
  (MB:i1 K mainGlobals "abs" = some none)
  (KJ:i1 K mainGlobals "list" = some none)
  (GA:i1 K mainGlobals "tuple" = some none)
  (MC:i1 K mainGlobals "int" = some none)
  (MD:i1 K mainGlobals "str" = some none)
  (KL:i1 K mainGlobals "bool" = some none)
  (vw:i1 K mainGlobals "isinstance" = some none)
  (ME:i1 K mainGlobals "all" = some none)
  (MF:i1 K mainGlobals "set" = some none)
  (DL:i1 K mainGlobals "sorted" = some none)
  (MG:i1 K mainGlobals "zip" = some none)
  (wc:i1 K mainGlobals "enumerate" = some none)
  (MH:i1 K mainGlobals "sum" = some none)
  (yU:i1 K mainGlobals "reversed" = some none)
  (DM:i1 K mainGlobals "divmod" = some none)
  (MI:i1 K mainGlobals "any" = some none)
  (vy:i1 K mainGlobals "ValueError" = some none)
  (qQ:∃tk,i1 K mainGlobals "SIGNS" = some (some (.str "abc" tk)))
  (iH:∃tk,i1 K mainGlobals "MOST_PLACES" = some (some (.int 9 tk)))
  (ej:∃tk,i1 K mainGlobals "MOST_SIGNS_OF_WORD" = some (some (.int 2000 tk)))
  : ∃fd:im,(∀(s:ap) (v:ag),Uf s fd ⟨[v],[]⟩ [("_law_script",v)])/\∀base:db,K.In base->base.Ns mainGlobals mg->(∃bm ob,SX base mainGlobals mg bm ob)->(∀c p,mT h c p->mT base c p)->FnOk l.prog w K mg base bL 13 fa fd ["_law_script"] (spLaw K ⟨tabs,lts.zip [qW]⟩) :=by
 obtain ⟨MJ,K0,bT⟩:=yO.df X G ["thing"] fun _ _ _ _ _ _ us hl=>match us,hl with | [_],_=>rfl
 obtain ⟨DN,BQ,aK⟩:=oR.df X G ["thing","many"] fun _ _ _ _ _ _ us hl=>match us,hl with | [_,_],_=>rfl
 obtain ⟨DP,BR,cJ⟩:=oS.df X G ["one","other"] fun _ _ _ _ _ _ us hl=>match us,hl with | [_,_],_=>rfl
 obtain ⟨PH,Oa,fM⟩:=DI.df X G ["thing","many","width"] fun _ _ _ _ _ _ us hl=>match us,hl with | [_,_,_],_=>rfl
 obtain ⟨PJ,Ob,fN⟩:=DJ.df X G ["thing"] fun _ _ _ _ _ _ us hl=>match us,hl with | [_],_=>rfl
 obtain ⟨MK,K1,aQ⟩:=yP.df X G ["thing"] fun _ _ _ _ _ _ us hl=>match us,hl with | [_],_=>rfl
 obtain ⟨ML,K2,fc⟩:=yQ.df X G ["net"] fun _ _ _ _ _ _ us hl=>match us,hl with | [_],_=>rfl
 obtain ⟨MM,K3,e8⟩:=yR.df X G ["net","thing"] fun _ _ _ _ _ _ us hl=>match us,hl with | [_,_],_=>rfl
 obtain ⟨KN,GJ,bo⟩:=vo.df X G ["net","thing"] fun _ _ _ _ _ _ us hl=>match us,hl with | [_,_],_=>rfl
 obtain ⟨Oc,MN,eU⟩:=BK.df X G ["net","thing"] fun _ _ _ _ _ _ us hl=>match us,hl with | [_,_],_=>rfl
 obtain ⟨K4,KO,eF⟩:=v8.df X G ["net","thing"] fun _ _ _ _ _ _ us hl=>match us,hl with | [_,_],_=>rfl
 obtain ⟨PK,Od,hV⟩:=DK.df X G ["net","place","word"] fun _ _ _ _ _ _ us hl=>match us,hl with | [_,_,_],_=>rfl
 obtain ⟨Sb,R5,nO⟩:=Mt.df X G ["net","place","word"] fun _ _ _ _ _ _ us hl=>match us,hl with | [_,_,_],_=>rfl
 obtain ⟨KP,kh⟩:=kh
 obtain ⟨K5,KQ,eE⟩:=kh.df X G ["start","width","step","most"] (fun _ _ _ _ _ _ _ us hl=>match us,hl with | [_,_,_],_=>⟨_,rfl,rfl⟩) fun _ _ _ _ _ _ _ us hl=>match us,hl with | [_,_,_,_],_=>⟨_,rfl,rfl⟩
 obtain ⟨GK,GB,aO⟩:=sN.df X G ["net","start"] fun _ _ _ _ _ _ us hl=>match us,hl with | [_,_],_=>rfl
 obtain ⟨Sd,R6,nQ⟩:=Mu.df X G ["net","start","goal"] fun _ _ _ _ _ _ us hl=>match us,hl with | [_,_,_],_=>rfl
 obtain ⟨PR,PL,cU⟩:=Gx.df X G ["net"] fun _ _ _ _ _ _ us hl=>match us,hl with | [_],_=>rfl
 obtain ⟨DQ,BU,aL⟩:=oU.df X G ["net"] fun _ _ _ _ _ _ us hl=>match us,hl with | [_],_=>rfl
 obtain ⟨KR,GL,dQ⟩:=vp.df X G ["net"] fun _ _ _ _ _ _ us hl=>match us,hl with | [_],_=>rfl
 obtain ⟨R7,PU,jI⟩:=KI.df X G ["net"] fun _ _ _ _ _ _ us hl=>match us,hl with | [_],_=>rfl
 obtain ⟨MO,K6,fe⟩:=yS.df X G ["_law_script","_law_at"] fun _ _ _ _ _ _ us hl=>match us,hl with | [_,_],_=>rfl
 obtain ⟨K7,KS,aC⟩:=wa.df X G ["_law_bag_here","_law_many"] fun _ _ _ _ _ _ us hl=>match us,hl with | [_,_],_=>rfl
 obtain ⟨KU,GN,dP⟩:=vq.df X G ["_law_bag_here","_law_many"] fun _ _ _ _ _ _ us hl=>match us,hl with | [_,_],_=>rfl
 obtain ⟨MP,K8,fg⟩:=yT.df X G ["_law_bag_here","_law_most"] fun _ _ _ _ _ _ us hl=>match us,hl with | [_,_],_=>rfl
 obtain ⟨KW,GO,dU⟩:=vt.df X G ["_law_net_here","_law_words","_law_one","_law_other"] fun _ _ _ _ _ _ us hl=>match us,hl with | [_,_,_,_],_=>rfl
 obtain ⟨Se,KY,yV⟩:=Mv.df X G ["_law_script"] fun _ _ _ _ _ _ us hl=>match us,hl with | [_],_=>rfl
 have K9:=Cc X G v7
 have qM:=Cc X G Gw
 have ng:=Cc X G BI
 have oP:=Cc X G DH
 have ni:=Cc X G BJ
 have X_:=FJ eb
 have qK:C_NoNet∈[C_NoNet,C_NoPlace,C_NoWord,C_NoWhole] :=by simp
 have m9:C_NoPlace∈[C_NoNet,C_NoPlace,C_NoWord,C_NoWhole] :=by simp
 have oO:C_NoWord∈[C_NoNet,C_NoPlace,C_NoWord,C_NoWhole] :=by simp
 have nh:C_NoWhole∈[C_NoNet,C_NoPlace,C_NoWord,C_NoWhole] :=by simp
 have e:=R4.symm.trans yV.mg
 cases e
 have bl:Bl mg:=⟨l7 X G Mw,l7 X G Gy,l7 X G Mx,l7 X G MA,l7 X G MB,l7 X G KJ,l7 X G GA,l7 X G MC,l7 X G MD,l7 X G KL,l7 X G vw,l7 X G ME,l7 X G MF,l7 X G DL,l7 X G MG,l7 X G wc,l7 X G MH,l7 X G yU,l7 X G DM,l7 X G MI,l7 X G vy⟩
 obtain ⟨PN,qQ⟩:=qQ
 have dq:=Cc X G qQ
 obtain ⟨GC,iH⟩:=iH
 have g7:=Cc X G iH
 obtain ⟨xo,ej⟩:=ej
 have dR:=Cc X G ej
 obtain ⟨aV,Oe,rfl,DR,T⟩:=fq T
 obtain ⟨bh,Of,rfl,DS,T⟩:=fq T
 obtain ⟨aW,MQ,rfl,BL,T⟩:=fq T
 obtain ⟨bW,PV,rfl,KZ,T⟩:=fq T
 cases T
 obtain ⟨aG,GD,rfl,sO,U⟩:=fq U
 cases U
 refine ⟨KY,fun s v=>yV.bind1 s v (by intros;rfl),fun base _ _ di tr=>?_⟩
 obtain ⟨lJ,gZ⟩:=mD fM X DR tr
 obtain ⟨u9,lK⟩:=mD fN X DS tr
 obtain ⟨sk,j4⟩:=mD eU X BL tr
 obtain ⟨Bu,qd⟩:=mD jI X KZ tr
 obtain ⟨mj,fF⟩:=mD aO X sO tr
 have BM:aV∈(⟨[aV,bh,aW,bW],[(aG,qW)]⟩:cu) :=by show _∈[aV,bh,aW,bW];simp
 have BO:bh∈(⟨[aV,bh,aW,bW],[(aG,qW)]⟩:cu) :=by show _∈[aV,bh,aW,bW];simp
 have yW:aW∈(⟨[aV,bh,aW,bW],[(aG,qW)]⟩:cu) :=by show _∈[aV,bh,aW,bW];simp
 have GF:bW∈(⟨[aV,bh,aW,bW],[(aG,qW)]⟩:cu) :=by show _∈[aV,bh,aW,bW];simp
 have gG:(aG,qW)∈(⟨[aV,bh,aW,bW],[(aG,qW)]⟩:cu).l :=by simp
 have gH:∀q∈(⟨[aV,bh,aW,bW],[(aG,qW)]⟩:cu).l,q.1=aG->q.2=qW :=by simp
 have oM:=Bk (P:=l.prog) (w:=w) (tb:=(⟨[aV,bh,aW,bW],[(aG,qW)]⟩:cu)) fN lK BO fM gZ BM di aK bT bl g7
 have b6:=vV aQ fN oM X_ qK qM
 have lQ:=vX (P:=l.prog) (w:=w) (base:=base) (tb:=(⟨[aV,bh,aW,bW],[(aG,qW)]⟩:cu)) e8 aK bT bl
 have du:=sJ bo e8 lQ X_ m9 ng
 have lV:=vZ fc aQ b6 bl dq
 have nq:=yI eU j4 yW di fc lV bl dR
 have kf:=ve eF eU nq X_ oO oP
 have oQ:=BD (P:=l.prog) (w:=w) (base:=base) (tb:=(⟨[aV,bh,aW,bW],[(aG,qW)]⟩:cu)) hV dq
 have yK:=KD nO aQ b6 bo du eF kf hV oQ
 have b7:=qI (P:=l.prog) (w:=w) (tb:=(⟨[aV,bh,aW,bW],[(aG,qW)]⟩:cu)) aO fF di gG gH eE bl dq
 have yN:=Kt nQ aQ b6 bo du aO b7
 have DT:=Du cU aQ b6 aO b7 bl
 have sD:=Ds (S:=qN) DT fun ds M Q E ⟨net,n,e,O,q⟩=>⟨net,n,e,O,.inr q⟩
 have xq:=nV aL cU sD bl
 have jD:=sM dQ aL xq X_ nh ni
 have DU:=nW (P:=l.prog) (w:=w) (base:=base) (tb:=(⟨[aV,bh,aW,bW],[(aG,qW)]⟩:cu)) cJ bl
 have vk:=Gm jI qd GF di dQ jD aO b7 cJ DU bl
 have BP:=Kg (tb:=(⟨[aV,bh,aW,bW],[(aG,qW)]⟩:cu)) (vQ (P:=l.prog) (w:=w) (base:=base) aC)
 have MR:=Mm (tb:=(⟨[aV,bh,aW,bW],[(aG,qW)]⟩:cu)) (yy (P:=l.prog) (w:=w) (base:=base) fe bl)
 have GH:=uZ dP aC BP bl
 have MS:=yB fg aC BP dP GH bl
 have GI:=vi dU nO yK bl
 exact Jx (KG yV fe MR fg MS nQ yN cU sD aL xq jI vk dU GI bl)
theorem walk {l:Uy} {q:cr} {loose:List ba} {XP:(ba->Option ag)->db->Prop} {YP:gc->db->Prop} {d:DefRec} {K:UK->ar} (hn:l.most=some 63) (zA:d.params.defaults=[])
  (AI:∀w:gc,TV (K w.params)=true) (ED:∀y∈((["is_row","is_net","is_word","beat"]:List ba)++(["first_words"]:List ba)),∃r∈recsOf q,r.name=y) (n6:∀w:gc,qE (K w.params) ["is_row","is_net","is_word","beat"] ["first_words"]=true) (hY:∀(w:gc) (h:db),YP w h->(K w.params).In h)
  (F:∀(w:gc) (mg:ba->Option ag) (fa:ac) (h:db) (tabs lts:List ac),(K w.params).In h->h.Ns mainGlobals mg->mg d.name=some (.ref fa)->
   BN (TabOf mg h) ["is_row","is_net","is_word","beat"] tabs->BN (TabOf mg h) ["first_words"] lts->
   ∃fd:im,(∀(s:ap) (u:ag),Uf s fd ⟨[u],[]⟩ [("_law_script",u)]) /\
    ∀base:db,(K w.params).In base->base.Ns mainGlobals mg->(∃bm ob,SX base mainGlobals mg bm ob)->(∀c p,mT h c p->mT base c p)->FnOk l.prog w (K w.params) mg base bL 13 fa fd ["_law_script"] (spLaw (K w.params) ⟨tabs,lts.zip [qW]⟩)) :
  PySem.W.WalkO q loose XP YP l.row.toRowW d [] (fun f vs=>UF f vs):=
 L2.Dd (n:=63) (k:=13) (x := "_law_script") (CX:=bL) (sp:=fun K tabs lts=>spLaw K ⟨tabs,lts.zip [qW]⟩) hn (by decide) zA ⟨rfl,by decide,by decide⟩ AI ED n6 hY F (fun _ _ _ _ a ns hl hn hT hL hS=>De hl hn hT hL hS) fun _ _ _ _ z=>z
end My
open PySem PySem.W PyProof.Rows L2
set_option maxRecDepth 100000 in
set_option maxHeartbeats 0 in
theorem PySem.Challenge.cw_roadcall_k23_whole_ways_and_parts_holds : PySem.Challenge.rw_roadcall_k23_whole_ways_and_parts.Holds := by
 w_on;o_law
 refine My.E5 (q:=My.kq) (loose:=My.kL) (H:=My.kH) My.left (by rfl) (by rfl) (by rfl) (by rfl) (by first|assumption|decide +kernel) (by decide +kernel) ⟨rfl,rfl,rfl,rfl,rfl,by decide +kernel⟩ ?hw ?hc
 (case hw=>w_witness2)
 refine My.walk (l:=PySem.Challenge.rw_roadcall_k23_whole_ways_and_parts) rfl rfl (fun w=>by kernel_rfl) (recs_of (by decide +kernel)) (fun w=>by kernel_rfl) (fun w h Y=>Y) ?F
 intro w mg fa h tabs lts KX G zB T U
 exact My.all_mk (C_RoadError:=24) (C_NoNet:=37) (C_NoPlace:=49) (C_NoWord:=61) (C_NoWhole:=73) KX G zB T U
  (by kernel_rfl)
  (by kernel_rfl)
  (by kernel_rfl)
  (by kernel_rfl)
  (by kernel_rfl)
  (by kernel_rfl)
  (by decide)
  (L2.aU (f:=82) (oc:=.type "function") (od:=none) (sl:=#[]) (kV:=.none) (dc:=.none) (pm:=My.vS "roadcall.whole" 271) (an:=none) (cd:=.ref 81) (ct:=.none) (by kernel_rfl) (by kernel_rfl) (by kernel_rfl) (by kernel_rfl))
  (L2.aU (f:=89) (oc:=.type "function") (od:=none) (sl:=#[]) (kV:=.none) (dc:=.none) (pm:=My.vS "roadcall.whole" 271) (an:=none) (cd:=.ref 88) (ct:=.none) (by kernel_rfl) (by kernel_rfl) (by kernel_rfl) (by kernel_rfl))
  (L2.aU (f:=96) (oc:=.type "function") (od:=none) (sl:=#[]) (kV:=.none) (dc:=.none) (pm:=My.vS "roadcall.whole" 271) (an:=none) (cd:=.ref 95) (ct:=.none) (by kernel_rfl) (by kernel_rfl) (by kernel_rfl) (by kernel_rfl))
  (L2.aU (f:=103) (oc:=.type "function") (od:=none) (sl:=#[]) (kV:=.none) (dc:=.none) (pm:=My.vS "roadcall.nets" 296) (an:=none) (cd:=.ref 102) (ct:=.none) (by kernel_rfl) (by kernel_rfl) (by kernel_rfl) (by kernel_rfl))
  (L2.aU (f:=110) (oc:=.type "function") (od:=none) (sl:=#[]) (kV:=.none) (dc:=.none) (pm:=My.vS "roadcall.nets" 296) (an:=none) (cd:=.ref 109) (ct:=.none) (by kernel_rfl) (by kernel_rfl) (by kernel_rfl) (by kernel_rfl))
  (L2.aU (f:=117) (oc:=.type "function") (od:=none) (sl:=#[]) (kV:=.none) (dc:=.none) (pm:=My.vS "roadcall.nets" 296) (an:=none) (cd:=.ref 116) (ct:=.none) (by kernel_rfl) (by kernel_rfl) (by kernel_rfl) (by kernel_rfl))
  (L2.aU (f:=124) (oc:=.type "function") (od:=none) (sl:=#[]) (kV:=.none) (dc:=.none) (pm:=My.vS "roadcall.nets" 296) (an:=none) (cd:=.ref 123) (ct:=.none) (by kernel_rfl) (by kernel_rfl) (by kernel_rfl) (by kernel_rfl))
  (L2.aU (f:=131) (oc:=.type "function") (od:=none) (sl:=#[]) (kV:=.none) (dc:=.none) (pm:=My.vS "roadcall.nets" 296) (an:=none) (cd:=.ref 130) (ct:=.none) (by kernel_rfl) (by kernel_rfl) (by kernel_rfl) (by kernel_rfl))
  (L2.aU (f:=138) (oc:=.type "function") (od:=none) (sl:=#[]) (kV:=.none) (dc:=.none) (pm:=My.vS "roadcall.nets" 296) (an:=none) (cd:=.ref 137) (ct:=.none) (by kernel_rfl) (by kernel_rfl) (by kernel_rfl) (by kernel_rfl))
  (L2.aU (f:=145) (oc:=.type "function") (od:=none) (sl:=#[]) (kV:=.none) (dc:=.none) (pm:=My.vS "roadcall.nets" 296) (an:=none) (cd:=.ref 144) (ct:=.none) (by kernel_rfl) (by kernel_rfl) (by kernel_rfl) (by kernel_rfl))
  (L2.aU (f:=152) (oc:=.type "function") (od:=none) (sl:=#[]) (kV:=.none) (dc:=.none) (pm:=My.vS "roadcall.nets" 296) (an:=none) (cd:=.ref 151) (ct:=.none) (by kernel_rfl) (by kernel_rfl) (by kernel_rfl) (by kernel_rfl))
  (L2.aU (f:=159) (oc:=.type "function") (od:=none) (sl:=#[]) (kV:=.none) (dc:=.none) (pm:=My.vS "roadcall.ways" 370) (an:=none) (cd:=.ref 158) (ct:=.none) (by kernel_rfl) (by kernel_rfl) (by kernel_rfl) (by kernel_rfl))
  (L2.aU (f:=166) (oc:=.type "function") (od:=none) (sl:=#[]) (kV:=.none) (dc:=.none) (pm:=My.vS "roadcall.ways" 370) (an:=none) (cd:=.ref 165) (ct:=.none) (by kernel_rfl) (by kernel_rfl) (by kernel_rfl) (by kernel_rfl))
  (L2.AQ (f:=174) (oc:=.type "function") (od:=none) (sl:=#[]) (T:=167) (oT:=⟨.type "tuple",none,.seq #[.int 511 372] 0,#[]⟩) (kV:=.none) (dc:=.none) (pm:=My.vS "roadcall.ways" 370) (an:=none) (cd:=.ref 173) (ct:=.none) (by kernel_rfl) (by kernel_rfl) (by kernel_rfl) (by kernel_rfl) (by kernel_rfl) rfl)
  (L2.aU (f:=181) (oc:=.type "function") (od:=none) (sl:=#[]) (kV:=.none) (dc:=.none) (pm:=My.vS "roadcall.ways" 370) (an:=none) (cd:=.ref 180) (ct:=.none) (by kernel_rfl) (by kernel_rfl) (by kernel_rfl) (by kernel_rfl))
  (L2.aU (f:=188) (oc:=.type "function") (od:=none) (sl:=#[]) (kV:=.none) (dc:=.none) (pm:=My.vS "roadcall.ways" 370) (an:=none) (cd:=.ref 187) (ct:=.none) (by kernel_rfl) (by kernel_rfl) (by kernel_rfl) (by kernel_rfl))
  (L2.aU (f:=193) (oc:=.type "function") (od:=none) (sl:=#[]) (kV:=.none) (dc:=.none) (pm:=My.vS "roadcall.ways" 370) (an:=none) (cd:=.ref 192) (ct:=.none) (by kernel_rfl) (by kernel_rfl) (by kernel_rfl) (by kernel_rfl))
  (L2.aU (f:=200) (oc:=.type "function") (od:=none) (sl:=#[]) (kV:=.none) (dc:=.none) (pm:=My.vS "roadcall.ways" 370) (an:=none) (cd:=.ref 199) (ct:=.none) (by kernel_rfl) (by kernel_rfl) (by kernel_rfl) (by kernel_rfl))
  (L2.aU (f:=207) (oc:=.type "function") (od:=none) (sl:=#[]) (kV:=.none) (dc:=.none) (pm:=My.vS "roadcall.ways" 370) (an:=none) (cd:=.ref 206) (ct:=.none) (by kernel_rfl) (by kernel_rfl) (by kernel_rfl) (by kernel_rfl))
  (L2.aU (f:=212) (oc:=.type "function") (od:=none) (sl:=#[]) (kV:=.none) (dc:=.none) (pm:=My.vS "roadcall.beats" 446) (an:=none) (cd:=.ref 211) (ct:=.none) (by kernel_rfl) (by kernel_rfl) (by kernel_rfl) (by kernel_rfl))
  (L2.aU (f:=219) (oc:=.type "function") (od:=none) (sl:=#[]) (kV:=.none) (dc:=.none) (pm:=My.vS "law_roadcall_k23_whole_ways_and_parts" 454) (an:=none) (cd:=.ref 218) (ct:=.none) (by kernel_rfl) (by kernel_rfl) (by kernel_rfl) (by kernel_rfl))
  (L2.aU (f:=226) (oc:=.type "function") (od:=none) (sl:=#[]) (kV:=.none) (dc:=.none) (pm:=My.vS "law_roadcall_k23_whole_ways_and_parts" 454) (an:=none) (cd:=.ref 225) (ct:=.none) (by kernel_rfl) (by kernel_rfl) (by kernel_rfl) (by kernel_rfl))
  (L2.aU (f:=233) (oc:=.type "function") (od:=none) (sl:=#[]) (kV:=.none) (dc:=.none) (pm:=My.vS "law_roadcall_k23_whole_ways_and_parts" 454) (an:=none) (cd:=.ref 232) (ct:=.none) (by kernel_rfl) (by kernel_rfl) (by kernel_rfl) (by kernel_rfl))
  (L2.aU (f:=238) (oc:=.type "function") (od:=none) (sl:=#[]) (kV:=.none) (dc:=.none) (pm:=My.vS "law_roadcall_k23_whole_ways_and_parts" 454) (an:=none) (cd:=.ref 237) (ct:=.none) (by kernel_rfl) (by kernel_rfl) (by kernel_rfl) (by kernel_rfl))
  (L2.aU (f:=245) (oc:=.type "function") (od:=none) (sl:=#[]) (kV:=.none) (dc:=.none) (pm:=My.vS "law_roadcall_k23_whole_ways_and_parts" 454) (an:=none) (cd:=.ref 244) (ct:=.none) (by kernel_rfl) (by kernel_rfl) (by kernel_rfl) (by kernel_rfl))
  (L2.aU (f:=252) (oc:=.type "function") (od:=none) (sl:=#[]) (kV:=.none) (dc:=.none) (pm:=My.vS "law_roadcall_k23_whole_ways_and_parts" 454) (an:=none) (cd:=.ref 251) (ct:=.none) (by kernel_rfl) (by kernel_rfl) (by kernel_rfl) (by kernel_rfl))
  (by kernel_rfl)
  (by kernel_rfl)
  (by kernel_rfl)
  (by kernel_rfl)
  (by kernel_rfl)
  (by kernel_rfl)
  (by kernel_rfl)
  (by kernel_rfl)
  (by kernel_rfl)
  (by kernel_rfl)
  (by kernel_rfl)
  (by kernel_rfl)
  (by kernel_rfl)
  (by kernel_rfl)
  (by kernel_rfl)
  (by kernel_rfl)
  (by kernel_rfl)
  (by kernel_rfl)
  (by kernel_rfl)
  (by kernel_rfl)
  (by kernel_rfl)
  ⟨298,by kernel_rfl⟩
  ⟨300,by kernel_rfl⟩
  ⟨302,by kernel_rfl⟩
